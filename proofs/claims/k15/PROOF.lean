import PyProof.Rows.All
import KE.KDictOf
import KE.KIsAll
import PySem.Challenge.RW_pickalike_k15_names_and_letters_that_lac
theorem zzA(_:True:=by rfl):True:=trivial
theorem zzB(_:True:=by decide):True:=trivial
noncomputable section
open And renaming intro->abJ
open Array renaming length_toList->Vh,getElem?_eq_some_iff->VD,getElem?_eq_getElem->WE,getD->Xf,getElem?_toList->Yx,toList->abt,find?_toList->aco,size_append->acY,toList_inj->adE,mk->aeB
open Bool renaming and_eq_true->Vg,false_eq_true->VM,false_ne_true->VV,or_eq_true->W_,eq_iff_iff->YD,and_false->YQ,or_eq_false_iff->ZT,or_true->aaq,or_false->aaR,true_and->aaV,and_eq_true_iff->ab3,and_self->acC,eq_false_iff->acW,not_eq_true'->ac5,not_eq_true->adJ,not_false->aen,and_true->aeV,false_or->aeW
open Classical renaming byContradiction->W8,propDecidable->aeR
open Except renaming ok->afW
open False renaming elim->WB
open ForInStep renaming yield->Xv
open Int renaming emod_nonneg->WU,toNat_natCast->W4,emod_lt_of_pos->Xe,natCast_add->abI,zero_add->adp,ediv_one->aeZ
open List renaming length_map->UL,mem_singleton->UM,mem_cons_of_mem->UN,mem_cons_self->UO,length_append->UQ,mem_cons->UR,getElem?_eq_getElem->U3,size_toArray->U5,range->U8,mem_map->Vc,getElem?_set_ne->Vd,mem_range->Vf,getElem?_map->Vi,mem_append->Vk,map_cons->Vl,getD_eq_getElem?_getD->Vq,getElem?_eq_some_iff->Vs,length_cons->Vt,replicate->Vv,not_mem_nil->VA,map_append->VB,mem_append_right->VJ,length_replicate->VL,flatMap_cons->VN,mem_append_left->VR,getElem_mem->VT,getElem?_set_self->V1,forall_mem_cons->V2,append_nil->V7,length_range->V_,idxOf_lt_length_of_mem->Wa,map_map->Wc,mem_filter->Wf,mem_flatMap->Wh,find?_cons->Wn,contains_iff_mem->Wo,lookup_cons->Wq,getElem?_append_right->Wx,contains_cons->Wz,nodup_cons->WD,length_take->WI,replicate_succ->WK,flatMap_append->WL,take_append_drop->WM,any_cons->WT,length_drop->WY,getElem?_append_left->W5,drop_eq_getElem_cons->W7,all_eq_true->Xi,pairwise_lt_range->Xz,lookup->XQ,nodup_nil->XR,mem_of_getElem?->XU,mem_iff_getElem->XX,pairwise_map->X6,any_eq_true->Yn,drop_eq_nil_of_le->Yq,filter_eq_nil_iff->Yr,getElem_idxOf->Yt,length_filter_le->YA,perm_ext_iff_of_nodup->YK,pairwise_iff_getElem->YT,ext_getElem->YX,filterMap_cons->YZ,reverse_append->Y4,eq_of_mem_replicate->Y8,mem_filterMap->Y_,getElem?_replicate->Zc,pairwise_cons->Zj,take_succ_eq_append_getElem->Zp,reverse_cons->Zu,append_assoc->Zx,eraseIdx_eq_take_drop_succ->Zz,singleton_append->ZJ,eq_nil_of_length_eq_zero->ZL,take_length->ZM,nodup_range->ZN,filter_cons->ZO,range_eq_range'->ZQ,pairwise_append->ZR,map_take->ZV,map_drop->ZW,map->ZX,of_mem_zip->Z3,length->Z4,getElem?_range->Z_,foldl_cons->aaa,range'->aah,map_id->aal,nodup_iff_pairwise_ne->aan,filter_append->aas,mem_of_find?_eq_some->aax,take_sublist->aaF,getElem?_set->aaI,append_cancel_right->aaJ,getElem_append_left->aaL,filterMap_cons_some->aaM,all_cons->aaT,pairwise_singleton->aaW,pairwise_filterMap->aaY,length_eq_zero_iff->aaZ,filter_cons_of_pos->aa0,filter_cons_of_neg->aa1,perm_middle->aa9,getElem_map->abd,take_of_length_le->abl,getElem_cons_drop->abm,reverse_singleton->abn,getElem?_reverse->abE,dropLast_eq_take->abF,length_nil->abG,any_map->abH,getElem?_toArray->abQ,eq_nil_or_concat->abR,concat_eq_append->abS,length_zip->abT,length_eraseIdx->ab0,reverse_reverse->ab2,drop_zero->ab6,filter_eq_self->ach,length_reverse->aci,map_eq_nil_iff->acj,filterMap_map->acr,find?_eq_none->acJ,append_of_mem->acK,any_eq_false->acN,foldl->ac3,drop_sublist->ac6,getElem_drop->adb,nodup_append->ade,idxOf_append->adf,map_nil->ado,getElem_inj->adt,range'_succ->adF,cons_append->adH,mem_reverse->adI,nil_append->adX,range_succ->adY,find?_some->ad5,take_succ->aei,filterMap->aek,getD->afX
open List.Nodup renaming length_le_of_subset->WA
open List.Pairwise renaming nil->Zv,and_mem->abL
open List.Perm renaming of_eq->abN,append_left->ae7
open List.cons renaming inj->aeU
open Nat renaming le_of_ble_eq_true->UU,le_refl->UW,ne_of_lt->U4,lt_of_lt_of_le->U6,zero_le->Vb,le_trans->Vr,lt_succ_self->VS,lt_trans->Wl,lt_irrefl->Ws,lt_succ_of_lt->Ww,ne_of_gt->WX,not_lt_zero->Xb,lt_of_le_of_lt->Xg,le_succ->Xh,le_of_succ_le->X7,le_add_left->YC,le_of_lt_succ->Zy,le_of_lt->ZG,succ_pos->ZI,mul_le_mul_right->ZS,mod_lt->aaK,div_div_eq_div_mul->abk,le_of_eq->aby,min_self->abD,zero_add->abK,pow_le_pow_right->abZ,lt_or_eq_of_le->acI,lt_trichotomy->ada,pow_succ->adq,succ_ne_self->adC,mul_le_mul->aef,succ_mul->ae2,mul_comm->ae3
open Ne renaming symm->VF
open Option renaming isSome_iff_exists->VQ,map_eq_some_iff->W0,map_some->X4,bind_some->Ym,isSome_some->acH,isSome_map->adk,getD_none->adx,none->afv,map->afR
open Option.some renaming inj->Ve
open Or renaming inr->Xa,inl->Yc
open Prod renaming fst->VO,ext->afC
open Prod.mk renaming injEq->aeC
open PyProof.Rows renaming slot_tuple_getitem->Vx,envOfC->Y5,callWith_builtin1->ZH,callWith_type1->Z2,entry_tuple_getitem->Z6,args_tuple_getitem->aao,slicePart_none->aau,StrsAre->aaw,AllBare->aaP,subscriptTail_builtinR->abg,tupleItemsOf_->acs,subscriptTail->acw,Subscript_->acP,callWith_kw->aew,slicePart_int->aeH,tail_any->aeJ,IntsAre->aeL,boot_max->ae4,kws_cons->ae5,kws_nil->afc,seqObj->afI,IsTup->afM
open PyProof.Rows.F renaming plain_set_update_loop->WG,entry_set_update_loop->YW
open PyProof.Rows.IsTup renaming new->adQ
open PySem renaming wpAny_bind->UE,Value->UH,Shared->UI,wpAny_pure->UJ,starEach->UP,mainGlobals->UT,Addr->UX,wpAny->UZ,Program->U0,model->U9,World->Vj,wpAny_newObj_type->Vn,FuncData->Vp,Around->Vw,Expr->VC,wpAny_holding->VG,wpAny_mono->VH,excClassObj->VP,Heap->VU,SetTable->VX,wpAny_call_entry->V3,sysModules->V5,sizeLine_eq->V6,codeAny_builtin->V9,behindInMarks->We,cellsFrom->Wg,plainId_quiet->Wj,wpAny_updateSeq->Wm,backTo->Wr,wpAny_callSpecial?_slot->Wt,wpAny_loadPart_at->Wu,bootBuiltins->Wy,codeAny->WC,attributeBase->WH,codeAny_call_builtin->WW,wpAny_askSetting->WZ,wpAny_truthy_bool->W2,foldedSetIterable->W3,compareOp->W9,wpAny_Call_Name_kw->Xc,swapsWith->Xj,wpAny_standAt->Xm,codeAny_mono->Xo,wpAny_tryCatch->Xp,Stmt->Xq,wpAny_setEntries_of->Xx,assignEach->XC,checkBuiltinCall->XG,NameKind->XJ,builtinLookup_eq_fast->XM,wpAny_setField_rec->XN,wpAny_seqItems->XS,wpAny_passesOwn->XZ,letOwnedTupleGo->X3,wpAny_setState_of->X_,ExcBaseFacts->Yb,Scope->Yd,standAt->Ye,mem_of_lookup->Yg,wpAny_field->Yh,wpAny_isSubtype_exc->Yi,noteFrame->Yl,wpAny_call->Yo,binaryOp->Ys,wpAny_typeOf->Yw,wpAny_of_eq->Yz,cLine->YE,typeLookup->YF,Comprehension->YG,pyNext->YM,isSubtype_type->YU,hashStr->YY,valueAt->Y0,wpAny_letGo->Y3,bindArgs->Za,Builtin->Ze,codeAny_of_tree->Zf,wpAny_attempt->Zg,mem_of_lookup->Zm,typeLookup_type->Zo,plainObj_wpAny_Assign_Attribute->Zs,sliceBounds->Zt,wpAny_pyIter_list->Zw,wpAny_pyIter_slot->ZA,treeTable->ZF,swapsWithSole->ZU,wpAny_rule->ZY,Params->ZZ,DictEntry->Z0,wpAny_execs_nil->Z1,getItem->Z5,keywordEach->Z7,wpAny_loadPart'->aab,seqItems?->aac,updateSeq->aad,tupleKind_room_in1->aat,wpAny_fieldsOf->aay,firstArgMember->aaz,Paired->aaB,nsFind->aaD,wpAny_sequenceKey->aaG,setFlight->aaH,swappedStores->aaQ,strKind->aaU,compTurn->aaX,wpAny_pyHash_str->aa4,pyIter->aa5,Result->aa6,noFill_tuple_add->aa7,wpAny_isInstance->aba,codeAny_compStart_list->abj,OsState->abo,importedModules->abp,tupleKind->abq,wpAny_isTrue_Compare1->abr,inplaceOp->abu,rawInt->abv,concat_meets->abz,isSubtype->abM,GenState->abU,StoreFacts->abV,setsByText->abW,wpAny_loadName_local->abX,codeAny_extend_loopS->ab1,wpAny_setField->ab4,argsOk->ab5,wpAny_runValue->ab7,Model->ab8,wpAny_loadName_cell->ab9,richCompare->ace,isTrue->acn,seq_tuple_add->acp,IsPart->acq,evalPart_none->acu,backToKw->acy,wpAny_pyIter_tuple->acG,slot_list_getitem->acQ,typeIs_str->acS,call_meets->acT,callerA->acU,isInstance->acV,richCompare_gives->ac2,wpAny_setEpoch_of->adh,wpAny_storeSet_of->adj,Within->adl,wpAny_execs_cons->adu,wpAny_lookBehind->adv,pastItsLine_dict->adw,wpAny_getItem_of->adB,lookupAlong_cons->adD,wpAny_Dict_empty->adK,PassesOwn->adO,BindsTo->adP,Keyword->adR,OwnTail->adS,lookupAlong->adV,wpAny_mroOf_exc->adW,pushCells->adZ,wpAny_alloc->ad0,pushCells_keeps->ad1,theTreesLotGoes->ad2,compStart->ad3,theWindowsPlace->ad4,pickOrder->ad8,wpAny_specialOf->ad9,wpAny_loadPart->aec,recursionLimit->aed,refuseLoop_ref->aeh,newFunctionEnv->aej,entryFor_alias->ael,isSubtype_stop->aem,builtinsNs->aep,wpAny_Name->aeq,wpAny_load->aer,typeIs_int->aes,call->aet,refuseLoop->aex,strKind_is->aey,setItem->aeD,intBits_le_64->aeF,getAttr->aeG,evalPart_some->aeI,call_list_seq->aeK,typeLookup_eq->aeN,notedBy->aeO,wpAny_notedAt->aeP,fieldsOf->aeS,wpAny_handled->aeT,storeName->aeX,getMethod->ae6,atKey->ae8,setAttr->afj,bindL->afl,bindC->afm,CellsOk->afx,Operator->afD,callWith->afJ,handleBy->afK,entryFor->afL,Drawn->afN,Walks->afV
open PySem.Around renaming under_plainId->VE,under->adm
open PySem.Bind renaming checkArgs->YS
open PySem.Builtin.Builtins renaming bindParams->Xw
open PySem.Builtin.Frozenset renaming sizeOf->X8,updateFrom->adM,newClass->aea,oneOther->aeb,addrOf->aeA
open PySem.Builtin.List renaming listTooLong->Xd,listExtendWith->Xy,listLengthHint->aaj,listSameRef->aaN
open PySem.Builtin.Range renaming rangeSize->aeE
open PySem.Builtin.Slice renaming slicePlaces->VZ,sliceAdjust->W6,sliceApplied->XA,sliceFields->aav,slicePartIndex->adL
open PySem.Builtin.Str renaming occurrences->Zk,tooLong->acd
open PySem.Builtin.Tuple renaming tupleExact->V8,tupleItemsOf->YI,tupleIsExact->ad_,tupleHashOf->aee
open PySem.Calls renaming Name_function_global->aam,callWith_builtin->abh
open PySem.Challenge renaming rw_pickalike_k15_names_and_letters_that_lac->Va,pw_pickalike_k15_names_and_letters_that_lac->V4
open PySem.CmpOp renaming NotIn->afi,In->afZ
open PySem.Code renaming quiet_builtin->aap,isFrame->adn,frames->afk
open PySem.DictEntry renaming refKey->afS
open PySem.EntryCells renaming newEntry->Z8
open PySem.Env renaming kindOf->afQ
open PySem.F renaming plain_max_loop->XH,plain_min_loop->XI,attrBase_ValueError->Yy,called_set->YB,excBase_ValueError->YJ,slot_dict_getitem->YR,args_tuple_add_2->Y6,entry_tuple_add->Zd,plainAttrs_list->Zl,slot_tuple_add->Zq,plain_list_iadd->ZC,slot_set_iter->aai,entry_max_loop->aa8,entry_min_loop->abe,entry_proto_collect->abO,plain_proto_collect->abP,args_list_extend_2->abY,entry_list_extend->ab_,plain_extend_loop->acg,slot_list_extend->acz,args_set_iter_1->adg,entry_list_iadd->adi,entry_bexc_ga->adT,plain_set_new->ad7
open PySem.Heap renaming get?_push_of_some->UK,get?_push_size->US,lt_size->UY,get?_update_other->U_,get?_update_self->Vy,size_push->Wi,SameBut->WN,get?_update_ne->acf,ExtBut->afy
open PySem.Heap.DictOf renaming new->afY
open PySem.Heap.IsSliceOf renaming new->acv
open PySem.Heap.Ns1 renaming of_empty->acO
open PySem.Heap.SameBut renaming update->aak,refl->ac_
open PySem.IsL renaming update->afT
open PySem.ItemsOf renaming nil->afz
open PySem.Manifest renaming signature?->aae
open PySem.Moved renaming trans->afA
open PySem.NameKind renaming free->WJ,cell->Zi
open PySem.Obj renaming mapSeq->XD,data_mapFields->aar,mapFields->aaS,isFreed_of_fields->abC,putSet->aez
open PySem.Paired renaming length->aaO,snoc->afB
open PySem.PassesOwn renaming leaving->ac4,never->adU
open PySem.PyData renaming keyHash->Wb
open PySem.SeqAt renaming EqAt->Yp,ne_of_list_tuple->abi
open PySem.SeqAt.EqAt renaming same->abA,int_str->ack,str_int->acm,of_refs->acE,tuple_list->ae0,list_tuple->ae1,none_bool->ae_,bool_none->afa,bool_bool->afb,none_int->afn,none_str->afo,bool_int->afp,bool_str->afq,int_none->afr,int_bool->afs,str_none->aft,str_bool->afu,int_int->afF,str_str->afG
open PySem.SeqAt.RcAt renaming tuples->acX,lists->ady,lists_lengths->aeu
open PySem.SeqAt.RcNeAt renaming tuples->afw,lists->afH
open PySem.SetTable renaming sizeAbove->Yu,insertAt->YH,below->YV,grown->aaA,advance->aa_,tooFull->adG,runEnd->ad6,fill->aeQ
open PySem.Shared renaming TypeIs->Zn
open PySem.Str renaming empty->Xs,ofString->Y7,length->acR
open PySem.Value renaming ref->VI,none->Wk,isStrOf->Xk,type->XY,str->YL,int->Y9,builtin->acB,bool->acM,isInt->afd,bytes->afg,float->afh
open PySem.Value.ref renaming inj->acD
open PySem.W renaming Frag->UG,nsIn->U1,findIn->U7,fnOf->Vm,mg_of->Vo,keepIn->Vu,kia_one->Vz,mg_none_of->VY,kitOne->V0,mroIn->Wv,emptyDict->WO,specialIn->WQ,codeIn->WR,clsIn->WS,InstAt->Xn,instObj->Xr,findObj->Xu,kitx_dict->X5,behindTheImports->Yj,handedIn->Yk,lookIn->YN,typeIn->YO,callWith_K->Zb,takesIn->Zh,hasDictIn->Zr,kitCls->ZD,boot_heap->ZE,plainGet->ZK,looks_findIn->ZP,kitMeta->Z9,readsIn->aaf,findCls->aag,methodObj->aaC,plainOver->aaE,cellsFrom_some->abf,takerIn->abw,makesIn->abx,OpenLaw->abB,looks_find->acA,kitx_tuple->acF,boot_drawn->acL,kitx_none->acZ,kitx_bool->ac0,kitx_list->ac1,kitx_int->adz,kitx_str->adA,notCls->aeg,WalkO->aeM,isFn->aeY
open PySem.W.Hook renaming obs->aa2,val->aa3
open PySem.W.Looks renaming here->afE
open PySem.W.OpenLaw renaming wellSaid->aeo
open PySem.W.RowW renaming records->ae9
open PySem.W.WData renaming int->afU
open PySem.W.WShape renaming has->afP
open PySem.Walks renaming list->aev
open PySem.Within renaming cons->afO
open PySem.pickOrder renaming go->ads
open Sum renaming inl->Xl,inr->Yv
open Sum.inl renaming inj->afe
open Sum.inr renaming inj->adN
open True renaming intro->WV
set_option Elab.async false
set_option linter.all false
set_option autoImplicit true
set_option relaxedAutoImplicit true
set_option maxRecDepth 100000
set_option hygiene false
local macro_rules
| `(112)=>`(by omega)
| `(120)=>`(by decide)
| `(124)=>`(UP (e::es) X.env=(false,eval e X.env)::UP es X.env)
| `(125)=>`(by simp[av,aM,bY,bK,bD,aK,cP,af,aG,S.rd,R.dat,cD,b8,g2,gN,ah,ay,gC,bh,aO,bz,bC,aD,bH,cu,rF,fin,b9,bq,eq_int,ak,aE,toD,toS,aN,c6,c7,c8])
| `(126)=>`(U9 X.prog X.w)
| `(131)=>`(List Str)
| `(132)=>`(gC (.int 0))
| `(134)=>`((x==389)=false)
| `(135)=>`(Inv X Ux σ H s)
| `(136)=>`(UH->UI->Prop)
| `(137)=>`(gC (.int 1))
| `(139)=>`(U9 prog w)
| `(141)=>`(autoParam 134 zzB._auto_1)
| `(142)=>`(L2.upd H2 s2.heap.objs.size (o0 s2.heap.objs.size))
| `(143)=>`(List (UX×Obj))
| `(144)=>`(VP nm q C N bs bm hdct sn sub ab col dd k0 k1 k2 k3 k5 newId)
| `(145)=>`(Str->Option UH)
| `(150)=>`(by simp[av,aM,bY,bK,bD,aK,cP,af,aG,S.rd,R.dat,cD,b8,g2,gN,ah,ay,gC,bh,aO,bz,bC,aD,bH,cu,rF,fin,b9,bq,eq_int,ak,aE,toD,toS,aN,c6,c7,c8,cC])
| `(151)=>`(X.fn x=true\/X.env.scope.names.lookup x=some .local)
| `(153)=>`(autoParam 124 zzA._auto_1)
| `(154)=>`(.ListComp elt [⟨t0,i0,f0,0⟩,⟨t1,i1,f1,0⟩] scope pos)
| `(155)=>`(s.heap.objs.size+1)
| `(156)=>`(∀(kV doc pm:UH)(an:259)(cdv ct:UH)(us:List UH),us.length=ps.length->Za (Vm x UB (bX st) (bu st) (aF st) .none kV doc pm an cdv ct) ⟨us,[]⟩=pure (ps.zip us))
| `(158)=>`(g2 aI (af 0) 132)
| `(159)=>`(bB false)
local macro_rules
| `(161)=>`(ak (af 2) (ak (af 2) (ak (bN (ak (g2 aI (af 2) 137) (ak (g2 aI (af 2) 132) aE))) (ak (bN (ak (g2 fJ (g2 aI (af 2) 132) (bN (ak (gC (.str "zz")) aE))) (ak (g2 fJ (g2 aI (af 2) 137) (bN (ak (gC (.str "zz")) aE))) aE))) aE))))
| `(162)=>`(gC (.int 2))
| `(163)=>`(by simp[av,aM,bY,bK,bD,aK,cP,af,aG,S.rd,R.dat,cD,b8,g2,gN,ah,ay,gC,bh,aO,bz,bC,aD,bH,cu,rF,fin,b9,bq,eq_int,ak,aE,toD,toS,aN,c6,c7,c8,bP,hb])
| `(175)=>`(bG hr.units 339 aZ)
| `(177)=>`(eU X own cap scope cl C s H fp)
| `(178)=>`(Array (Int×UH))
| `(179)=>`(.builtin "object.__class__")
| `(180)=>`(by decide +kernel)
| `(205)=>`(.Call (.Name x p) (e::es) [] pos)
| `(211)=>`(.tup [.tup (A.map .str),.tup (B.map .str)])
| `(213)=>`(A.deeper (Y5 UB (aF st) s.heap.objs.size f cdv))
| `(229)=>`(by simp)
| `(234)=>`(List S->M R)
| `(236)=>`(.ref s.heap.objs.size)
| `(237)=>`(aS rfl rfl (aS rfl rfl bA))
| `(241)=>`(.ref C)
| `(242)=>`(ak (gC (.str "or")) (ak (gC (.str "not")) (ak (gC (.str "some")) (ak (gC (.str "every")) (ak (gC (.str "least")) (ak (gC (.str "true")) (ak (gC (.str "false")) aE)))))))
| `(243)=>`(.str "pickalike.errors" 187)
| `(244)=>`(G (List D))
| `(248)=>`(Sy A B L k d)
| `(249)=>`(List Nat)
| `(253)=>`(ah (af 1) ay)
| `(259)=>`(Option UX)
| `(260)=>`(.type "tuple")
| `(261)=>`((((own d).filter λx=>!(b.any λw=>w==x))++((wit d).take i).flatMap λs=>fq j s (b++bnd d)).map .str)
local macro_rules
| `(264)=>`(.d (.str ⟨#[b]⟩))
| `(265)=>`(dF X.prog X.w X.K X.mg X.base CX k f fd ps sp)
| `(276)=>`(ah (af 2) ay)
| `(277)=>`(λz=>nomatch z)
| `(279)=>`(sS P w K mg base N UB (aF st) f cdv A outer s H E)
| `(280)=>`(.cls ⟨"PickError",[(.type "ValueError")],[(.ref 24),(.type "ValueError"),(.type "Exception"),323,(.type "object")],23,"PickError",true,[],[(.ref 37),(.ref 49),(.ref 61),(.ref 73),(.ref 92),(.ref 111),(.ref 130),(.ref 149),(.ref 168),(.ref 187)],false,none,false⟩)
| `(281)=>`(gw m.xall 120 (aa 0) m.isinstance)
| `(282)=>`(ns.map D.int)
| `(286)=>`(Array (Option UH))
| `(287)=>`(some (.builtin "BaseException.__getattribute__"))
| `(293)=>`(g2 aI (af 0) 137)
| `(294)=>`(List (Str×UX))
| `(298)=>`(.d (.int m))
| `(299)=>`(∀b∈ch,(b∈X.ex\/X.s₀.heap.objs.size<=b)/\b≠X.env.locals/\(∀x c,X.env.cells.lookup x=some c->c≠b)/\∀p∈X.pn++Ux,p.1≠b)
| `(304)=>`(∀as r,as.length=ps.length->Fm as=.ok r->fin (gB (aG N as))=.ok r)
| `(305)=>`(.str "abcdefghijklmnopqrstuvwxyz")
| `(306)=>`(("__classdict__":Str))
| `(307)=>`(.ref a)
| `(311)=>`(λ_ _ _ _ _ _ us hl=>match us,hl with|[_,_],_=>rfl)
| `(312)=>`(Ext.refl hp.sub)
| `(318)=>`(aM (aK (gN (aD 3 Fr) (ah (af 0) (ah (g2 aI (fh "Part" "inner" (af 1)) 132) (ah (af 6) ay))))) (kM 3 g8 137) (kM 5 g8 137))
| `(319)=>`(UP es X.env)
| `(323)=>`(.type "BaseException")
| `(324)=>`(k==WJ&&env.scope.kind==.function&&env.kindOf n==some .cell)
| `(325)=>`(L2.Inv X Ux σ H s)
local macro_rules
| `(326)=>`(UP [e] X.env=(false,eval e X.env)::UP [] X.env)
| `(330)=>`(.int 0 0)
| `(331)=>`(eU X own cap scope cl Hs.objs.size {s2 with heap:=Hs,toks:=s2.toks} 142 fp)
| `(332)=>`(.d (.int k))
| `(333)=>`(.tup xs)
| `(337)=>`(X.A.units+64<YE)
| `(338)=>`(G (List R))
| `(339)=>`(au (aa 0) aj)
| `(340)=>`(λ_ _ _ _ _ _ us hl=>match us,hl with|[_,_,_],_=>rfl)
| `(344)=>`(.ref f)
| `(347)=>`(Unit->UI->Prop)
| `(351)=>`(gC (.int 4))
| `(352)=>`(X.K=c.K)
| `(356)=>`(λ_ s₂=>UZ 126 X.A (aaH e none) (λ_ s₃=>UZ 126 X.A (afK e X.env [.ExceptHandler (some (.Name B p3)) (some n) [.Assign [.Name y p1] (.Name n p2) pos2] hpos]) (SP X Ux D) X.xe s₃) X.xe s₂)
| `(357)=>`(eS w K mg)
| `(358)=>`(QD X c a ga)
| `(359)=>`(Exc->Prop)
| `(363)=>`(bJ (two (x:=.l .bor (([]:List Str).map .str)) (y:=.l .fresh []) rfl (dh bA (Vb _)) (ne_nil _ [])))
| `(364)=>`(aK (g2 (b9 λi j=>.bl (decide (i<j))) (af 5) 132))
| `(365)=>`(.d w.d)
| `(366)=>`(aV 0 (fW rfl))
| `(375)=>`(autoParam 352 zzA._auto_1)
| `(376)=>`(bT items.size items.size hi-bT items.size 0 lo)
| `(377)=>`(sr.hp.ext e1)
| `(382)=>`(L.map .str)
local macro_rules
| `(383)=>`(.oo (.ins "Part" i8) (iw w k d))
| `(387)=>`(Vm x UB (bX st) (bu st) (aF st) (.ref T) kV doc pm an cdv ct)
| `(388)=>`(VP nm q C N bs bm true sn sub ab col dd k0 k1 k2 k3 k5 newId)
| `(389)=>`(("__debug__":Str))
| `(390)=>`(aO (gC (.bl false)))
| `(394)=>`(.inl rfl)
| `(397)=>`(.builtin "getset_descriptor.__get__")
namespace L2
open PySem PySem.Spec PyProof.Rows
noncomputable def bX(s:Xq):Arguments:=match s with
 | .FunctionDef _ a _ _ _ _ _ _ _ _=>a
 |_=>{posonlyargs:=[],args:=[],vararg:=none,kwonlyargs:=[],kw_defaults:=[],kwarg:=none,defaults:=[]}
noncomputable def bu(s:Xq):List Xq:=match s with
 | .FunctionDef _ _ b _ _ _ _ _ _ _=>b
 |_=>[]
noncomputable def aF(s:Xq):Yd:=match s with
 | .FunctionDef _ _ _ _ _ _ sc _ _ _=>sc
 |_=>{kind:=.function,names:=[],isGenerator:=false,isCoroutine:=false}
end L2
namespace L2
open PySem PySem.W PyProof.Rows
section
variable{p q:U0}{loose:List Str}{Xt:UI->Bool}{α:Type}{Yf:UI->α}{Ya:Vj->α}{N:Nat}
noncomputable abbrev Jr(w:Vj)(os:abo):UI:=⟨ZE w.params,aeB [],acL,boot_toks,os⟩
noncomputable def EI(p:U0):Env:={scope:=p.main.scope,locals:=mainNs,globals:=mainNs,cells:=[],code:=.ref 13,frame:=some 14}
noncomputable abbrev hcC(p:U0):Code:=.body (Yj p) (EI p)
noncomputable abbrev tQ:List Frame:=[topFrame default]
noncomputable abbrev yP:Option UH:=some (.ref 6)
noncomputable def hcS(p:U0)(w:Vj)(os:abo):UI:=match topGo ZF p w 11 yP 12 (Jr w os) (topStub p)with
 |some (s,_)=>s
 |none=>Jr w os
noncomputable abbrev P7(p:U0)(m n:Nat)(h:ZZ->VU)(k:Nat)(z:Pos):Prop:=∀(w:Vj)(os:abo),segRun ZF p w 11 yP 1 n (hcS p w os) (piecesOf ((Yj p).take m) (EI p) (hcC p) default tQ)=some (.next,⟨h w.params,aeB [],acL,k,os⟩,hcC p,z)
noncomputable abbrev Rn(p:U0)(m n:Nat)(h:ZZ->VU)(k:Nat)(z:Pos)(w w':Vj)(os:abo):Option UI:=topRun ZF p w 11 yP n ⟨h w'.params,aeB [],acL,k,os⟩ (restOf ((Yj p).drop m) (EI p) (hcC p) z tQ)
noncomputable abbrev Rm(p q:U0)(loose:131)(Xt:UI->Bool){α:Type}(Yf:UI->α)(w:Vj)(s:UI):=((staticsOk (abp p.main.body) (ZE w.params) s.heap&&namesBound p s.heap&&gensDone s&&laidKept (ZE w.params) s.heap),openSeen q loose (abp p.main.body) Xt true s,Yf s)
noncomputable abbrev AB(p q:U0)(loose:131)(Xt:UI->Bool){α:Type}(Yf:UI->α)(Ya:Vj->α)(m n:Nat)(h:ZZ->VU)(k:Nat)(z:Pos)(w:Vj):Prop:=∀os:abo,(Rn p m n h k z w w os).map (Rm p q loose Xt Yf w)=some (true,openGood q loose,Ya w)
theorem Hw{m nA nB k:Nat}{h:ZZ->VU}{z:Pos}(e:opening p=plainProg p.main.scope.names)(hN:Nat.ble 600 N=true)(f:∀s,fenceModules? p s=some s)
  (size:∀w:Vj,((ZE w.params).isNs UT,(ZE w.params).objs.size,(ZE w.params).nsMap UT "__annotations__")=(true,11,yP))
  (pre:∀w os,topGo ZF p w 11 yP 12 (Jr w os) (topStub p)=some (hcS p w os,⟨denote ZF (hcC p),hcC p,default,tQ⟩))
  (blk:∀w os,segRun ZF p w 11 yP 1 1 (hcS p w os) (blockOf (Yj p) (EI p) (hcC p) default tQ)=some (.next,hcS p w os,hcC p,default))
  (hA:P7 p m nA h k z) (hB:∀w,AB p q loose Xt Yf Ya m nB h k z w) (le:Nat.ble (12+(1+(nA+nB))) N=true):LeftO p q loose Xt Yf Ya N:=λw=>by
 obtain⟨⟨hp,gs,d,kk,os⟩,eo,e'⟩:=W0.mp (boot_open e hN f w);obtain⟨rfl,rfl,rfl,rfl⟩:hp=ZE w.params/\gs=aeB []/\d=acL/\kk=boot_toks:=by simpa using e'
 obtain⟨z1,z2,z3⟩:_/\_/\_:=by simpa only[aeC]using size w
 obtain⟨r,hr,l⟩:=W0.mp (hB w os);obtain⟨l1,l2,l3⟩:_/\_/\_:=by simpa only[aeC]using l
 have rB:topRun ZF p w 11 yP (nA+nB) (hcS p w os) (restOf ((Yj p).take m++(Yj p).drop m) (EI p) (hcC p) default tQ)=some r:=piece_app (hA w os) hr;rw[WM]at rB;have rA:=go_top (pre w os) (piece_block (blk w os) rB);have rN:=topRun_mono (N-(12+(1+(nA+nB)))) _ _ _ _ rA;rw[show 12+(1+(nA+nB))+(N-(12+(1+(nA+nB))))=N by have:=UU le;omega]at rN;have t:topFrom ZF p w N (Jr w os)=some r:=by unfold topFrom;dsimp only;rw[z1,z2,z3,rN];show(match staticsOk (abp p.main.body) (ZE w.params) r.heap&&namesBound p r.heap&&gensDone r&&laidKept (ZE w.params) r.heap with|true=>_|false=>_)=_;rw[l1]
 unfold openEnds;rw[eo];show(topFrom ZF p w N _).map _=_;rw[t];exact congrArg some (afC l2 l3)
theorem Ko{m n k:Nat}{h:ZZ->VU}{z:Pos}(row:String)(h1:∀w:Vj,AB p q loose Xt Yf Ya m n h k z (w.withFollow row false))(h2:∀w:Vj,AB p q loose Xt Yf Ya m n h k z (w.withFollow row true)):∀w,AB p q loose Xt Yf Ya m n h k z w:=λw=>by
 have e:=World.withFollow_self w row;cases hb:w.params.followText row<;>rw[hb]at e
 ·have:=h1 w;rw[e]at this;exact this
 ·have:=h2 w;rw[e]at this;exact this
end
end L2
namespace K15
open PySem
def top(i:Nat):Xq:=V4.main.body.getD i (.Pass ⟨0,0,0,0⟩)
noncomputable def topC(i j:Nat):Xq:=match top i with
 | .ClassDef (body:=b) ..=>b.getD j (.Pass ⟨0,0,0,0⟩)
 |_=>.Pass ⟨0,0,0,0⟩
end K15
set_option maxHeartbeats 4000000
namespace K15
open PySem PySem.Spec PyProof.Rows L2
abbrev E(P:ZZ)(k:Str)(t:Nat)(v:UH):Z0:=⟨Wb P k,.str k t,v⟩
abbrev bI(P:ZZ)(k:Str)(t r:Nat):Z0:=E P k t (.ref r)
noncomputable def Qj(n:Str)(t l k a:Nat)(v w:UH)(r u:Nat):Obj:=⟨.type "code",none,.fields #[.str n t,.str n (t+1),.str "/claim/cut.py" (t+2),.int l 0,.int k 0,.int 0 0,.int 0 0,.int 3 0,.ref a,.bool true,.int 181 0,.ref (a+1),.none,v,w,.ref r,.int u 0,.int l 0,.str "/claim/cut.py" (u+1)],#[]⟩
def ir(n:Str)(t l k a u:Nat):Obj:=Qj n t l k a (.ref (a+2)) (.ref (a+3)) (a+4) u
def oU(n:Str)(t l k a u:Nat):Obj:=Qj n t l k a .none .none (a+2) u
noncomputable def fG(n:Str)(k:Nat)(m:UH)(c:Nat):Obj:=⟨.type "function",none,.func (Vm n n (bX (top k)) (bu (top k)) (aF (top k)) .none .none .none m none (.ref c) .none),#[]⟩
def qK(p:Nat):Obj:=⟨.type "tuple",none,.seq #[.ref p] 0,#[]⟩
noncomputable def gz(n:Str)(a d p b t:Nat):Obj:=⟨.type "type",none,.cls ⟨n,[.ref p],[.ref a,.ref p,.type "ValueError",.type "Exception",.type "BaseException",.type "object"],d,n,true,[],[],false,none,false⟩,#[some (.ref b),none,some (.str n t),some (.str n (t+8)),some (.builtin "ValueError.__new__"),some (.bool true)]⟩
noncomputable def Js(P:ZZ)(m:UH)(t l a:Nat):Obj:=⟨.type "dict",none,.dict #[E P "__module__" t m,E P "__firstlineno__" (t+4) (.int l (t+3)),bI P "__static_attributes__" (t+5) a,E P "__doc__" (t+6) .none] 2,#[]⟩
noncomputable def A_(P:ZZ)(m:UH)(t l f a:Nat):Obj:=⟨.type "dict",none,.dict #[E P "__module__" t m,E P "__firstlineno__" (t+4) (.int l (t+3)),bI P "__init__" (t+12) f,bI P "__static_attributes__" (t+14) a,E P "__doc__" (t+15) .none] 2,#[]⟩
def l5:UH:=.str "pickalike.errors" 187
def CI:UH:=.str "pickalike.worlds" 421
def nq:UH:=.str "pickalike.sayings" 458
def gy:UH:=.str "law_pickalike_k15_names_and_letters_that_lac" 628
def KF(P:ZZ):UG:=
(nat_lit 2,⟨.none,none,(.dict #[] 0),#[]⟩)::
(nat_lit 3,⟨(.type "dict"),none,(.dict #[E P "__name__" 165 (.str "law_pickalike_k15_names_and_letters_that_lac" 628),E P "__doc__" 166 .none,E P "__package__" 167 .none,E P "__loader__" 168 (.builtin "__main__.__loader__#opaque"),E P "__spec__" 169 .none,bI P "__annotations__" 170 6,bI P "__builtins__" 171 4,E P "__file__" 173 (.str "/claim/cut.py" 172),E P "__cached__" 174 .none,bI P "PickError" 206 24,bI P "NoWorld" 222 37,bI P "NoTongue" 238 49,bI P "NoSaying" 254 61,bI P "NoMore" 270 73,bI P "NoName" 295 92,bI P "NoLetter" 320 111,bI P "TooMany" 345 130,bI P "NoCount" 370 149,bI P "NoPoint" 395 168,bI P "NoRow" 420 187,bI P "tongue_of" 428 194,bI P "by_name" 438 201,bI P "bears" 447 208,bI P "leads" 457 215,bI P "LETTER_PLACES" 486 216,bI P "INNER_PLACES" 499 226,bI P "BINDERS" 503 227,E P "MOST_KEPT_LETTERS" 505 (.int 3 504),bI P "letters_at" 511 232,bI P "within" 519 239,bI P "parts_of" 529 246,bI P "free_from" 535 251,bI P "is_spoken" 545 258,bI P "Part" 577 273,bI P "enough" 591 284,bI P "any_part_is" 602 291,bI P "reckoned" 608 296,bI P "part_holds" 614 301,bI P "holds" 627 309,bI P "_law_cell" 637 316,bI P "_law_names" 643 321,bI P "_law_some" 653 328,bI P "_law_pairs" 664 335,bI P "_law_tongue" 674 342,bI P "_law_world" 688 349,bI P "_law_letters" 694 354,bI P "_law_leaf" 705 361,bI P "_law_wrapped" 718 368,bI P "_law_joined" 724 373,bI P "_law_grown" 739 380,bI P "_law_kinds" 745 385,bI P "_law_within" 752 392,bI P "_law_strange" 762 399,bI P "_law_free" 768 404,bI P "_law_asked" 780 411,bI P "_law_right" 791 418,bI P "law" 797 423] 57),#[]⟩)::
(nat_lit 15,⟨260,none,(.seq #[(.type "ValueError")] 0),#[]⟩)::
(nat_lit 23,⟨(.type "dict"),none,(.dict #[E P "__module__" 196 243,E P "__firstlineno__" 200 (.int 2 199),bI P "__static_attributes__" 201 22,bI P "__weakref__" 203 25,E P "__doc__" 204 .none] 3),#[]⟩)::
(nat_lit 24,⟨(.type "type"),none,280,#[(some (.ref 15)),none,(some (.str "PickError" 189)),(some (.str "PickError" 197)),(some (.builtin "ValueError.__new__")),(some (.bool true))]⟩)::
(nat_lit 25,⟨(.type "getset_descriptor"),none,(.fields #[(.str "__weakref__" 202),(.ref 24),(.builtin "ExceptionGroup.__weakref__"),.none]),#[]⟩)::
(nat_lit 28,qK 24)::
(nat_lit 36,Js P l5 214 4 35)::
(nat_lit 37,gz "NoWorld" 37 36 24 28 207)::
(nat_lit 40,qK 24)::
(nat_lit 48,Js P l5 230 6 47)::
(nat_lit 49,gz "NoTongue" 49 48 24 40 223)::
(nat_lit 52,qK 24)::
(nat_lit 60,Js P l5 246 8 59)::
(nat_lit 61,gz "NoSaying" 61 60 24 52 239)::
(nat_lit 64,qK 24)::
(nat_lit 72,Js P l5 262 10 71)::
(nat_lit 73,gz "NoMore" 73 72 24 64 255)::
(nat_lit 76,qK 24)::
(nat_lit 88,⟨(.type "code"),none,(.fields #[(.str "__init__" 283),(.str "NoName.__init__" 284),(.str "/claim/cut.py" 285),(.int 14 0),(.int 2 0),330,330,(.int 3 0),(.ref 83),(.bool true),(.int 181 0),(.ref 84),.none,(.ref 85),(.ref 86),(.ref 87),(.int 288 0),(.int 14 0),(.str "/claim/cut.py" 289)]),#[]⟩)::
(nat_lit 89,⟨(.type "function"),none,(.func (Vm "__init__" "NoName.__init__" (bX (topC 6 0)) (bu (topC 6 0)) (aF (topC 6 0)) .none .none .none 243 none (.ref 88) .none)),#[]⟩)::
(nat_lit 91,A_ P l5 278 12 89 90)::
(nat_lit 92,gz "NoName" 92 91 24 76 271)::
(nat_lit 95,qK 24)::
(nat_lit 107,⟨(.type "code"),none,(.fields #[(.str "__init__" 308),(.str "NoLetter.__init__" 309),(.str "/claim/cut.py" 310),(.int 19 0),(.int 2 0),330,330,(.int 3 0),(.ref 102),(.bool true),(.int 181 0),(.ref 103),.none,(.ref 104),(.ref 105),(.ref 106),(.int 313 0),(.int 19 0),(.str "/claim/cut.py" 314)]),#[]⟩)::
(nat_lit 108,⟨(.type "function"),none,(.func (Vm "__init__" "NoLetter.__init__" (bX (topC 7 0)) (bu (topC 7 0)) (aF (topC 7 0)) .none .none .none 243 none (.ref 107) .none)),#[]⟩)::
(nat_lit 110,A_ P l5 303 17 108 109)::
(nat_lit 111,gz "NoLetter" 111 110 24 95 296)::
(nat_lit 114,qK 24)::
(nat_lit 129,A_ P l5 328 22 127 128)::
(nat_lit 130,gz "TooMany" 130 129 24 114 321)::
(nat_lit 133,qK 24)::
(nat_lit 148,A_ P l5 353 27 146 147)::
(nat_lit 149,gz "NoCount" 149 148 24 133 346)::
(nat_lit 152,qK 24)::
(nat_lit 167,A_ P l5 378 32 165 166)::
(nat_lit 168,gz "NoPoint" 168 167 24 152 371)::
(nat_lit 171,qK 24)::
(nat_lit 186,A_ P l5 403 37 184 185)::
(nat_lit 187,gz "NoRow" 187 186 24 171 396)::
(nat_lit 193,oU "tongue_of" 423 43 1 190 426)::
(nat_lit 194,fG "tongue_of" 13 CI 193)::
(nat_lit 200,ir "by_name" 429 46 2 195 436)::
(nat_lit 201,fG "by_name" 14 CI 200)::
(nat_lit 207,ir "bears" 439 51 3 202 445)::
(nat_lit 208,fG "bears" 15 CI 207)::
(nat_lit 214,ir "leads" 448 53 4 209 455)::
(nat_lit 215,fG "leads" 16 CI 214)::
(nat_lit 216,⟨(.type "dict"),none,(.dict #[bI P "mark" 460 217,bI P "arrow" 462 218,bI P "same" 465 219,bI P "not" 468 220,bI P "and" 469 221,bI P "or" 470 222,bI P "some" 471 223,bI P "every" 473 224,bI P "least" 475 225] 9),#[]⟩)::
(nat_lit 217,⟨260,none,(.seq #[(.int 2 461)] 0),#[]⟩)::
(nat_lit 218,⟨260,none,(.seq #[(.int 2 463),(.int 3 464)] 0),#[]⟩)::
(nat_lit 219,⟨260,none,(.seq #[(.int 1 466),(.int 2 467)] 0),#[]⟩)::
(nat_lit 220,⟨260,none,(.seq #[] 0),#[]⟩)::
(nat_lit 221,⟨260,none,(.seq #[] 0),#[]⟩)::
(nat_lit 222,⟨260,none,(.seq #[] 0),#[]⟩)::
(nat_lit 223,⟨260,none,(.seq #[(.int 1 472)] 0),#[]⟩)::
(nat_lit 224,⟨260,none,(.seq #[(.int 1 474)] 0),#[]⟩)::
(nat_lit 225,⟨260,none,(.seq #[(.int 2 476)] 0),#[]⟩)::
(nat_lit 226,⟨(.type "dict"),none,(.dict #[E P "not" 487 (.int 1 488),E P "some" 489 (.int 2 490),E P "every" 491 (.int 2 492),E P "least" 493 (.int 3 494)] 4),#[]⟩)::
(nat_lit 227,⟨260,none,(.seq #[(.str "some" 500),(.str "every" 501),(.str "least" 502)] 0),#[]⟩)::
(nat_lit 231,oU "letters_at" 506 60 1 228 509)::
(nat_lit 232,fG "letters_at" 22 nq 231)::
(nat_lit 238,ir "within" 512 64 1 233 517)::
(nat_lit 239,fG "within" 23 nq 238)::
(nat_lit 245,ir "parts_of" 520 71 1 240 527)::
(nat_lit 246,fG "parts_of" 24 nq 245)::
(nat_lit 250,oU "free_from" 530 79 2 247 533)::
(nat_lit 251,fG "free_from" 25 nq 250)::
(nat_lit 257,ir "is_spoken" 536 84 2 252 543)::
(nat_lit 258,fG "is_spoken" 26 nq 257)::
(nat_lit 269,⟨(.type "code"),none,(.fields #[(.str "__init__" 558),(.str "Part.__init__" 559),(.str "/claim/cut.py" 560),(.int 93 0),(.int 3 0),330,330,(.int 3 0),(.ref 266),(.bool true),(.int 181 0),(.ref 267),.none,.none,.none,(.ref 268),(.int 561 0),(.int 93 0),(.str "/claim/cut.py" 562)]),#[]⟩)::
(nat_lit 270,⟨(.type "function"),none,(.func (Vm "__init__" "Part.__init__" (bX (topC 27 0)) (bu (topC 27 0)) (aF (topC 27 0)) .none .none .none (.str "pickalike.sayings" 458) none (.ref 269) .none)),#[]⟩)::
(nat_lit 272,⟨(.type "dict"),none,(.dict #[E P "__module__" 553 (.str "pickalike.sayings" 458),E P "__firstlineno__" 557 (.int 91 556),bI P "__init__" 563 270,bI P "__static_attributes__" 570 271,bI P "__dict__" 572 274,bI P "__weakref__" 574 275,E P "__doc__" 575 .none] 4),#[]⟩)::
(nat_lit 273,⟨(.type "type"),none,(.cls ⟨"Part",[(.type "object")],[(.ref 273),(.type "object")],272,"Part",true,[],[],false,none,false⟩),#[none,none,(some (.str "Part" 546)),(some (.str "Part" 554)),(some (.builtin "object.__new__")),(some (.bool true))]⟩)::
(nat_lit 283,ir "enough" 578 100 4 278 589)::
(nat_lit 284,fG "enough" 28 nq 283)::
(nat_lit 290,ir "any_part_is" 592 113 4 285 600)::
(nat_lit 291,fG "any_part_is" 29 nq 290)::
(nat_lit 295,oU "reckoned" 603 118 3 292 606)::
(nat_lit 296,fG "reckoned" 30 nq 295)::
(nat_lit 300,oU "part_holds" 609 140 3 297 612)::
(nat_lit 301,fG "part_holds" 31 nq 300)::
(nat_lit 302,⟨260,none,(.seq #[.none] 0),#[]⟩)::
(nat_lit 308,ir "holds" 615 147 3 303 625)::
(nat_lit 309,⟨(.type "function"),none,(.func (Vm "holds" "holds" (bX (top 32)) (bu (top 32)) (aF (top 32)) (.ref 302) .none .none (.str "pickalike.sayings" 458) none (.ref 308) .none)),#[]⟩)::
(nat_lit 315,ir "_law_cell" 630 160 2 310 635)::
(nat_lit 316,fG "_law_cell" 34 gy 315)::
(nat_lit 320,oU "_law_names" 638 164 2 317 641)::
(nat_lit 321,fG "_law_names" 35 gy 320)::
(nat_lit 327,ir "_law_some" 644 181 2 322 651)::
(nat_lit 328,fG "_law_some" 36 gy 327)::
(nat_lit 334,ir "_law_pairs" 654 188 2 329 662)::
(nat_lit 335,fG "_law_pairs" 37 gy 334)::
(nat_lit 341,ir "_law_tongue" 665 196 1 336 672)::
(nat_lit 342,fG "_law_tongue" 38 gy 341)::
(nat_lit 348,ir "_law_world" 675 201 4 343 686)::
(nat_lit 349,fG "_law_world" 39 gy 348)::
(nat_lit 353,oU "_law_letters" 689 210 1 350 692)::
(nat_lit 354,fG "_law_letters" 40 gy 353)::
(nat_lit 360,ir "_law_leaf" 695 212 3 355 703)::
(nat_lit 361,fG "_law_leaf" 41 gy 360)::
(nat_lit 367,ir "_law_wrapped" 706 220 3 362 716)::
(nat_lit 368,fG "_law_wrapped" 42 gy 367)::
(nat_lit 372,oU "_law_joined" 719 228 2 369 722)::
(nat_lit 373,fG "_law_joined" 43 gy 372)::
(nat_lit 379,ir "_law_grown" 725 235 3 374 737)::
(nat_lit 380,fG "_law_grown" 44 gy 379)::
(nat_lit 384,oU "_law_kinds" 740 251 1 381 743)::
(nat_lit 385,fG "_law_kinds" 45 gy 384)::
(nat_lit 391,ir "_law_within" 746 257 1 386 750)::
(nat_lit 392,fG "_law_within" 46 gy 391)::
(nat_lit 398,ir "_law_strange" 753 263 2 393 760)::
(nat_lit 399,fG "_law_strange" 47 gy 398)::
(nat_lit 403,oU "_law_free" 763 272 2 400 766)::
(nat_lit 404,fG "_law_free" 48 gy 403)::
(nat_lit 410,ir "_law_asked" 769 284 3 405 778)::
(nat_lit 411,fG "_law_asked" 49 gy 410)::
(nat_lit 417,ir "_law_right" 781 295 3 412 789)::
(nat_lit 418,fG "_law_right" 50 gy 417)::
(nat_lit 422,oU "law" 792 302 1 419 795)::
(nat_lit 423,fG "law" 51 gy 422)::[]
noncomputable def VW:U0:={V4 with main:={V4.main with body:=[top 1,top 2,top 3,top 4,top 5,top 6,top 7,top 8,top 9,top 10,top 11,top 13,top 14,top 15,top 16,top 18,top 19,top 20,top 21,top 22,top 23,top 24,top 25,top 26,top 27,top 28,top 29,top 30,top 31,top 34,top 35,top 36,top 37,top 38,top 39,top 40,top 41,top 42,top 43,top 44,top 45,top 46,top 47,top 48,top 49,top 50,top 51]}}
noncomputable def HK:W.Hook:=W.kHook KF [2,3,15,23,24,25,28,36,37,40,48,49,52,60,61,64,72,73,76,88,89,91,92,95,107,108,110,111,114,129,130,133,148,149,152,167,168,171,186,187,193,194,200,201,207,208,214,215,216,217,218,219,220,221,222,223,224,225,226,227,231,232,238,239,245,246,250,251,257,258,269,270,272,273,283,284,290,291,295,296,300,301,302,308,309,315,316,320,321,327,328,334,335,341,342,348,349,353,354,360,361,367,368,372,373,379,380,384,385,391,392,398,399,403,404,410,411,417,418,422,423] (λ_=>by kernel_rfl)
def XT:UI->Bool:=λs=>W.xlAt VW [] s&&W.recOk (ae9 Va.row.toRowW) s
theorem look:aeo Va=true:=by decide +kernel
noncomputable def xE(P:ZZ)(n:Str)(a t l:Nat):List Obj:=[⟨260,none,(.seq #[(.ref 24)] 0),#[]⟩,
 ⟨(.type "builtin_function_or_method"),none,(.fields #[(.builtin "type.__prepare__"),(.type "type")]),#[]⟩,
 ⟨(.type "dict"),none,(.dict #[E P "__module__" (t+7) 243,E P "__qualname__" (t+9) (.str n (t+8)),E P "__firstlineno__" (t+11) (.int l (t+10)),E P "__static_attributes__" (t+12) (.ref (a+7))] 4),#[]⟩,
 ⟨260,none,(.seq #[] 0),#[]⟩,
 ⟨.none,none,(.fields #[]),#[]⟩,
 ⟨(.type "code"),none,(.fields #[(.str n (t+2)),(.str n (t+3)),(.str "/claim/cut.py" (t+4)),(.int l 0),330,330,330,330,(.ref (a+3)),(.bool false),(.int 181 0),(.ref (a+4)),.none,.none,.none,.none,(.int (t+5) 0),(.int l 0),(.str "/claim/cut.py" (t+6))]),#[]⟩,
 ⟨(.type "frame"),none,.plain,#[(some (.ref (a+5))),(some (.ref 3)),(some (.ref (a+2))),none,(some 243),none,(some (.ref 0))]⟩,
 ⟨260,none,(.seq #[] 0),#[]⟩,
 ⟨(.type "dict"),none,(.dict #[E P "__module__" (t+7) 243,E P "__firstlineno__" (t+11) (.int l (t+10)),E P "__static_attributes__" (t+12) (.ref (a+7)),E P "__doc__" (t+13) .none] 2),#[]⟩,
 ⟨(.type "type"),none,(.cls ⟨n,[(.ref 24)],[(.ref (a+9)),(.ref 24),(.type "ValueError"),(.type "Exception"),323,(.type "object")],(a+8),n,true,[],[],false,none,false⟩),#[(some 307),none,(some (.str n t)),(some (.str n (t+8))),(some (.builtin "ValueError.__new__")),(some (.bool true))]⟩,
 ⟨(.type "super"),none,(.fields #[(.ref (a+9)),(.ref (a+9)),(.ref (a+9))]),#[]⟩,
 ⟨(.type "builtin_function_or_method"),none,(.fields #[(.builtin "object.__init_subclass__"),(.ref (a+9))]),#[]⟩]
noncomputable def pT(P:ZZ)(n f m:Str)(a t l i1 i2:Nat):List Obj:=[⟨260,none,(.seq #[(.ref 24)] 0),#[]⟩,
 ⟨(.type "builtin_function_or_method"),none,(.fields #[(.builtin "type.__prepare__"),(.type "type")]),#[]⟩,
 ⟨(.type "dict"),none,(.dict #[E P "__module__" (t+7) 243,E P "__qualname__" (t+9) (.str n (t+8)),E P "__firstlineno__" (t+11) (.int i1 (t+10)),E P "__init__" (t+19) (.ref (a+13)),E P "__static_attributes__" (t+21) (.ref (a+14))] 5),#[]⟩,
 ⟨260,none,(.seq #[] 0),#[]⟩,
 ⟨.none,none,(.fields #[(.int i2 0),(.int 4 0),(.ref (a+12))]),#[]⟩,
 ⟨(.type "code"),none,(.fields #[(.str n (t+2)),(.str n (t+3)),(.str "/claim/cut.py" (t+4)),(.int i1 0),330,330,330,330,(.ref (a+3)),(.bool false),(.int 181 0),(.ref (a+4)),.none,.none,.none,.none,(.int (t+5) 0),(.int i1 0),(.str "/claim/cut.py" (t+6))]),#[]⟩,
 ⟨(.type "frame"),none,.plain,#[(some (.ref (a+5))),(some (.ref 3)),(some (.ref (a+2))),none,(some 243),none,(some (.ref 0))]⟩,
 ⟨260,none,(.seq #[] 0),#[]⟩,
 ⟨.none,none,(.fields #[]),#[]⟩,
 ⟨260,none,(.seq #[(.str "self" (t+15)),(.str f (t+16))] 0),#[]⟩,
 ⟨260,none,(.seq #[] 0),#[]⟩,
 ⟨.none,none,(.func {Vm "__init__" m (bX (topC l 0)) (bu (topC l 0)) (aF (topC l 0)) .none .none .none .none none .none .none with globals:=0}),#[]⟩,
 ⟨(.type "code"),none,(.fields #[(.str "__init__" (t+12)),(.str m (t+13)),(.str "/claim/cut.py" (t+14)),(.int i2 0),(.int 2 0),330,330,(.int 3 0),(.ref (a+7)),(.bool true),(.int 181 0),(.ref (a+8)),.none,(.ref (a+9)),(.ref (a+10)),(.ref (a+11)),(.int (t+17) 0),(.int i2 0),(.str "/claim/cut.py" (t+18))]),#[]⟩,
 ⟨(.type "function"),none,(.func (Vm "__init__" m (bX (topC l 0)) (bu (topC l 0)) (aF (topC l 0)) .none .none .none 243 none (.ref (a+12)) .none)),#[]⟩,
 ⟨260,none,(.seq #[(.str f (t+20))] 0),#[]⟩,
 ⟨(.type "dict"),none,(.dict #[E P "__module__" (t+7) 243,E P "__firstlineno__" (t+11) (.int i1 (t+10)),E P "__init__" (t+19) (.ref (a+13)),E P "__static_attributes__" (t+21) (.ref (a+14)),E P "__doc__" (t+22) .none] 2),#[]⟩,
 ⟨(.type "type"),none,(.cls ⟨n,[(.ref 24)],[(.ref (a+16)),(.ref 24),(.type "ValueError"),(.type "Exception"),323,(.type "object")],(a+15),n,true,[],[],false,none,false⟩),#[(some 307),none,(some (.str n t)),(some (.str n (t+8))),(some (.builtin "ValueError.__new__")),(some (.bool true))]⟩,
 ⟨(.type "super"),none,(.fields #[(.ref (a+16)),(.ref (a+16)),(.ref (a+16))]),#[]⟩,
 ⟨(.type "builtin_function_or_method"),none,(.fields #[(.builtin "object.__init_subclass__"),(.ref (a+16))]),#[]⟩]
noncomputable def Ro(P:ZZ):List Obj:=[W.boot_o_0 P,
 W.boot_o_1 P,
 W.boot_o_2 P,
 ⟨(.type "dict"),none,(.dict #[E P "__name__" 165 243,E P "__doc__" 166 .none,E P "__package__" 167 .none,E P "__loader__" 168 (.builtin "__main__.__loader__#opaque"),E P "__spec__" 169 .none,bI P "__annotations__" 170 6,bI P "__builtins__" 171 4,E P "__file__" 173 (.str "/claim/cut.py" 172),E P "__cached__" 174 .none,bI P "PickError" 206 24,bI P "NoWorld" 222 37,bI P "NoTongue" 238 49,bI P "NoSaying" 254 61,bI P "NoMore" 270 73,bI P "NoName" 295 92,bI P "NoLetter" 320 111,bI P "TooMany" 345 130,bI P "NoCount" 370 149,bI P "NoPoint" 395 168,bI P "NoRow" 420 187] 20),#[]⟩,
 W.boot_o_4 P,
 W.boot_o_5 P,
 W.boot_o_6 P,
 W.boot_o_7 P,
 W.boot_o_8 P,
 W.boot_o_9 P,
 W.boot_o_10 P,
 ⟨260,none,(.seq #[] 0),#[]⟩,
 ⟨.none,none,(.fields #[(.int 2 0),330,(.ref 20),(.int 4 0),330,(.ref 33),(.int 6 0),330,(.ref 45),(.int 8 0),330,(.ref 57),(.int 10 0),330,(.ref 69),(.int 12 0),330,(.ref 81),(.int 17 0),330,(.ref 100),(.int 22 0),330,(.ref 119),(.int 27 0),330,(.ref 138),(.int 32 0),330,(.ref 157),(.int 37 0),330,(.ref 176)]),#[]⟩,
 ⟨(.type "code"),none,(.fields #[(.str "<module>" 182),(.str "<module>" 183),(.str "/claim/cut.py" 184),(.int 1 0),330,330,330,330,(.ref 11),(.bool false),(.int 181 0),(.ref 12),.none,.none,.none,.none,(.int 185 0),(.int 1 0),(.str "/claim/cut.py" 186)]),#[]⟩,
 ⟨(.type "frame"),none,.plain,#[(some (.ref 13)),(some (.ref 3)),(some (.ref 3)),none,(some (.str "__main__" 164)),none,(some (.ref 0))]⟩,
 ⟨260,none,(.seq #[(.type "ValueError")] 0),#[]⟩,
 ⟨(.type "builtin_function_or_method"),none,(.fields #[(.builtin "type.__prepare__"),(.type "type")]),#[]⟩,
 ⟨(.type "dict"),none,(.dict #[E P "__module__" 196 243,E P "__qualname__" 198 (.str "PickError" 197),E P "__firstlineno__" 200 (.int 2 199),bI P "__static_attributes__" 201 22] 4),#[]⟩,
 ⟨260,none,(.seq #[] 0),#[]⟩,
 ⟨.none,none,(.fields #[]),#[]⟩,
 ⟨(.type "code"),none,(.fields #[(.str "PickError" 191),(.str "PickError" 192),(.str "/claim/cut.py" 193),(.int 2 0),330,330,330,330,(.ref 18),(.bool false),(.int 181 0),(.ref 19),.none,.none,.none,.none,(.int 194 0),(.int 2 0),(.str "/claim/cut.py" 195)]),#[]⟩,
 ⟨(.type "frame"),none,.plain,#[(some (.ref 20)),(some (.ref 3)),(some (.ref 17)),none,(some 243),none,(some (.ref 0))]⟩,
 ⟨260,none,(.seq #[] 0),#[]⟩,
 ⟨(.type "dict"),none,(.dict #[E P "__module__" 196 243,E P "__firstlineno__" 200 (.int 2 199),bI P "__static_attributes__" 201 22,bI P "__weakref__" 203 25,E P "__doc__" 204 .none] 3),#[]⟩,
 ⟨(.type "type"),none,280,#[(some (.ref 15)),none,(some (.str "PickError" 189)),(some (.str "PickError" 197)),(some (.builtin "ValueError.__new__")),(some (.bool true))]⟩,
 ⟨(.type "getset_descriptor"),none,(.fields #[(.str "__weakref__" 202),(.ref 24),(.builtin "ExceptionGroup.__weakref__"),.none]),#[]⟩,
 ⟨(.type "super"),none,(.fields #[(.ref 24),(.ref 24),(.ref 24)]),#[]⟩,
 ⟨(.type "builtin_function_or_method"),none,(.fields #[(.builtin "object.__init_subclass__"),(.ref 24)]),#[]⟩]++xE P "NoWorld" 28 207 4++xE P "NoTongue" 40 223 6++xE P "NoSaying" 52 239 8++xE P "NoMore" 64 255 10++pT P "NoName" "name" "NoName.__init__" 76 271 6 12 14++pT P "NoLetter" "letter" "NoLetter.__init__" 95 296 7 17 19++pT P "TooMany" "many" "TooMany.__init__" 114 321 8 22 24++pT P "NoCount" "told" "NoCount.__init__" 133 346 9 27 29++pT P "NoPoint" "point" "NoPoint.__init__" 152 371 10 32 34++pT P "NoRow" "row" "NoRow.__init__" 171 396 11 37 39
noncomputable def Ng(P:ZZ):VU:=⟨⟨Ro P⟩,(W.boot_heap P).life⟩
theorem QA:P7 Va.row.prog 12 2518 Ng 421 ⟨37,0,41,22⟩:=λw os=>by kernel_rfl
theorem OX(w:Vj):AB Va.row.prog VW ["LETTER_PLACES","INNER_PLACES","holds"] XT (aa2 HK) (aa3 HK) 12 1482 Ng 421 ⟨37,0,41,22⟩ (w.withFollow "special-get-raises" false):=λos=>by kernel_rfl
theorem OY(w:Vj):AB Va.row.prog VW ["LETTER_PLACES","INNER_PLACES","holds"] XT (aa2 HK) (aa3 HK) 12 1482 Ng 421 ⟨37,0,41,22⟩ (w.withFollow "special-get-raises" true):=λos=>by kernel_rfl
theorem left:W.LeftO Va.row.prog VW ["LETTER_PLACES","INNER_PLACES","holds"] XT (aa2 HK) (aa3 HK) 8120:=Hw (by kernel_rfl) 180 (λs=>by kernel_rfl) (λw=>by kernel_rfl) (λw os=>by kernel_rfl) (λw os=>by kernel_rfl) QA (Ko "special-get-raises" OX OY) 180
end K15
namespace L2
open PySem PySem.Spec PyProof.Rows
abbrev Key:=Sum Int Str
noncomputable def pU:Key->UH->Bool
 | .inl k,v=>afd k v
 | .inr x,v=>Xk x v
noncomputable def QM(w:Vj):Key->Int
 | .inl k=>hashInt k
 | .inr x=>YY w x
theorem eF:∀{k:Key}{v:UH},pU k v=true->(∃i t,k=Xl i/\v=Y9 i t)\/(∃x t,k=Yv x/\v=YL x t)
 | .inl i,v,h=>by obtain⟨t,e⟩:=Value.isInt_shape (k:=i) (v:=v) h;exact .inl ⟨i,t,rfl,e⟩
 | .inr x,v,h=>by obtain⟨t,e⟩:=Value.isStrOf_shape (x:=x) (v:=v) h;exact .inr ⟨x,t,rfl,e⟩
theorem ET(i:Int)(t:Tok):pU (.inl i) (.int i t)=true:=by simp[pU,afd]
theorem EU(x:Str)(t:Tok):pU (.inr x) (.str x t)=true:=by simp[pU,Xk]
theorem Nu(a b:Int):decide ((Xl a:Key)=Xl b)=(a==b):=by
 by_cases e:a=b
 ·subst e;simp
 ·have h:¬(Xl a:Key)=Xl b:=λq=>e (afe q);rw[decide_eq_false h];exact(beq_eq_false_iff_ne.mpr e).symm
theorem EV(a b:Str):decide ((Yv a:Key)=Yv b)=decide (a=b):=by
 by_cases e:a=b
 ·subst e;simp
 ·have h:¬(Yv a:Key)=Yv b:=λq=>e (adN q);rw[decide_eq_false h,decide_eq_false e]
theorem Nv(a:Int)(b:Str):decide ((Xl a:Key)=Yv b)=false:=decide_eq_false (λq=>nomatch q)
theorem Nx(a:Str)(b:Int):decide ((Yv a:Key)=Xl b)=false:=decide_eq_false (λq=>nomatch q)
noncomputable def er(prog:U0)(w:Vj):PySem.KeyKind prog w Key where
 is:=pU
 hash:=QM w
 inj:=λv a b ha hb=>by
  rcases eF ha with⟨i,t,rfl,rfl⟩|⟨x,t,rfl,rfl⟩
  ·rcases eF hb with⟨j,u,rfl,e⟩|⟨y,u,rfl,e⟩
   ·injection e with e1 _;rw[e1]
   ·exact nomatch e
  ·rcases eF hb with⟨j,u,rfl,e⟩|⟨y,u,rfl,e⟩
   ·exact nomatch e
   ·injection e with e1 _;rw[e1]
 byValue:=λk v h=>by rcases eF h with⟨i,t,rfl,rfl⟩|⟨x,t,rfl,rfl⟩<;>rfl
 pyHash:=λhv h=>by
  rcases eF hv with⟨i,t,rfl,rfl⟩|⟨x,t,rfl,rfl⟩
  ·exact wpAny_pyHash_int h
  ·exact aa4 h
 eqBool:=λhu hv h=>by
  rcases eF hu with⟨i,t,rfl,rfl⟩|⟨x,t,rfl,rfl⟩
  ·rcases eF hv with⟨j,u,rfl,rfl⟩|⟨y,u,rfl,rfl⟩
   ·rw[Nu]at h;exact wpAny_eqBool_int h
   ·rw[Nv]at h;exact ack i t y u _ _ _ _ h
  ·rcases eF hv with⟨j,u,rfl,rfl⟩|⟨y,u,rfl,rfl⟩
   ·rw[Nx]at h;exact acm x t j u _ _ _ _ h
   ·rw[EV]at h;exact wpAny_eqBool_str h
 «strs»:=λk x t v h=>by
  rcases eF h with⟨i,u,rfl,e⟩|⟨y,u,rfl,e⟩
  ·exact nomatch e
  ·injection e with e1 _
   subst e1;cases v<;>rfl
theorem Am(prog:U0)(w:Vj)(i:Int)(t:Tok):(er prog w).is (.inl i) (.int i t)=true:=ET i t
theorem An(prog:U0)(w:Vj)(x:Str)(t:Tok):(er prog w).is (.inr x) (.str x t)=true:=EU x t
inductive V where
 |non|bl (b:Bool)|int (i:Int)|str (x:Str)|byt (b:Array UInt8)|flt (b:UInt64)|ref (a:UX)|ty (n:String)
 deriving DecidableEq
noncomputable def RelV:V->UH->Prop
 | .non,u=>u=Wk
 | .bl b,u=>u=acM b
 | .int i,u=>∃t,u=Y9 i t
 | .str x,u=>∃t,u=YL x t
 | .byt b,u=>∃t,u=afg b t
 | .flt b,u=>∃t,u=afh b t
 | .ref a,u=>u=VI a
 | .ty n,u=>u=XY n
abbrev Vals:List V->List UH->Prop:=aaB RelV
theorem Vals.length{xs:List V}{us:List UH}(r:Vals xs us):xs.length=us.length:=aaO r
theorem Vals.get:∀{xs:List V}{us:List UH}{i:Nat}{x:V},Vals xs us->xs[i]?=some x->∃u,us[i]?=some u/\RelV x u
 |_,_,_,_,.nil,e=>by simp at e
 |_,_,0,_,.cons r _,e=>by simp at e;subst e;exact⟨_,rfl,r⟩
 |_,_,i+1,x,.cons _ t,e=>by obtain⟨u,h1,h2⟩:=Vals.get (i:=i) (x:=x) t (by simpa using e);exact⟨u,by simpa using h1,h2⟩
theorem Vals.append:∀{xs ys:List V}{us ws:List UH},Vals xs us->Vals ys ws->Vals (xs++ys) (us++ws)
 |_,_,_,_,.nil,s=>s
 |_,_,_,_,.cons r t,s=>.cons r (Vals.append t s)
theorem Vals.take:∀{xs:List V}{us:List UH}(n:Nat),Vals xs us->Vals (xs.take n) (us.take n)
 |_,_,0,_=>.nil
 |_,_,_+1,.nil=>.nil
 |_,_,n+1,.cons r t=>.cons r (Vals.take n t)
theorem Vals.drop:∀{xs:List V}{us:List UH}(n:Nat),Vals xs us->Vals (xs.drop n) (us.drop n)
 |_,_,0,r=>r
 |_,_,_+1,.nil=>.nil
 |_,_,n+1,.cons _ t=>Vals.drop n t
noncomputable def jc:Option V->Option UH->Prop
 |some v,some u=>RelV v u
 |none,none=>True
 |_,_=>False
def KV{κ:Type}:List (κ×V)->List (κ×UH)->Prop:=aaB λ(p:κ×V)(q:κ×UH)=>p.1=q.1/\RelV p.2 q.2
noncomputable def kV:Key->V
 | .inl i=>.int i
 | .inr x=>.str x
inductive HO where
  |lst (xs:List V)
  |tup (xs:List V)
  |dK (UC:List (Key×V))|dT (UC:List (List Key×V))
  |set (S:Int->Bool) (n:Nat)
  |ins (C dx:UX) (fs:List (Str×V))
  |own (x:UX)
  |xd (fs:List (Str×V))
  |met (f x:UX)
  |rng (lo hi:Int)
  |frz (o:Obj) (u:HO)
  |tbl (ps:Array UH)
  |ext (φ:VU->Prop)
 |memo (dom:List (List Int)) (f:List Int->Bool)
abbrev Hp:=UX->Option HO
def upd(H:Hp)(a:UX)(o:HO):Hp:=λb=>if b=a then some o else H b
theorem bf{H:Hp}:upd H a o a=some o:=by unfold upd;rw[if_pos rfl]
theorem aU{H:Hp}(h:b≠a):upd H a o b=H b:=by unfold upd;rw[if_neg h]
theorem Mf{H:Hp}:upd (upd H a o) a u=upd H a u:=by funext b;unfold upd;split<;>rfl
theorem Pa{H:Hp}{a b:UX}{o u:HO}(h:H a=some o)(h':H b=some u)(d:o≠u):a≠b:=by intro e;subst e;rw[h]at h';exact d (Ve h')
theorem fO{H:Hp}(h:H a=some o)(h':H b=none):a≠b:=by intro e;subst e;rw[h]at h';cases h'
section
variable(P:U0)(w:Vj)
def Ri(h:VU)(a:UX):Prop:=∀o,h.get? a=some o->o.dict=none
noncomputable def cB(H:Hp)(h:VU)(a:UX):HO->Prop
 | .lst xs=>xs.length<=sizeLine/\∃(Uy:List UH)(n:Nat),Vals xs Uy/\h.get? a=some {cls:=.type "list",data:=.seq Uy.toArray n}
 | .tup xs=>xs.length<=sizeLine/\∃Uy:List UH,Vals xs Uy/\afM h a Uy.toArray/\Ri h a
 | .dK UC=>UC.length<=sizeLine/\(a==V5)=false/\∃vs,KV UC vs/\h.DictOf (er P w) a vs
 | .dT UC=>UC.length<=sizeLine/\(a==V5)=false/\∃xs:List (List Key×UX×UH),
   aaB (λ(p:List Key×V)(q:List Key×UX×UH)=>p.1=q.1/\H q.2.1=some (.tup (p.1.map kV))/\RelV p.2 q.2.2) UC xs/\
   ∃o es ep,h.get? a=some o/\o.ExactDict/\o.data=.dict es ep/\es.toList=xs.map (entryOfKey (abq (er P w)))/\(xs.map (·.1)).Nodup
 | .set S n=>h.SetOf (intKind P w) a S n
 | .ins C dx fs=>H dx=some (.own a)/\fs.length<=1000/\dx≠a/\h.get? a=some (Xr C dx)/\
   ∃mA,h.Ns1 dx mA/\(∀f,jc (fs.lookup f) (mA f))/\adl mA (fs.map (·.1))
 | .own _=>∃o,h.get? a=some o
 | .xd fs=>∃mA,h.Ns1 a mA/\∀f,jc (fs.lookup f) (mA f)
 | .rng lo hi=>∃t u v,h.get? a=some {cls:=.type "range",data:=.fields #[.int lo t,.int hi u,.int 1 v]}
 | .frz o u=>h.get? a=some o/\cB H h a u
 | .tbl ps=>h.get? a=some {cls:=.none,data:=.fields ps}
 | .met f x=>h.get? a=some (aaC 344 (.ref x))
 | .ext φ=>φ h/\(∃o,h.get? a=some o)/\∀h1 h2:VU,φ h1->(∀o,h1.get? a=some o->h2.get? a=some o)->φ h2
 | .memo dom f=>(a==V5)=false/\dom.length<sizeLine/\∃UC:List (List Key×V),(∀p∈UC,∃is,is∈dom/\p=(is.map Xl,V.bl (f is)))/\∃xs:List (List Key×UX×UH),
   aaB (λ(p:List Key×V)(q:List Key×UX×UH)=>p.1=q.1/\H q.2.1=some (.tup (p.1.map kV))/\RelV p.2 q.2.2) UC xs/\
   ∃o es ep,h.get? a=some o/\o.ExactDict/\o.data=.dict es ep/\es.toList=xs.map (entryOfKey (abq (er P w)))/\(xs.map (·.1)).Nodup
def eT(H:Hp)(h:VU):Prop:=∀a o,H a=some o->cB P w H h a o
end
section
variable{P:U0}{w:Vj}{H H':Hp}{h h':VU}{a:UX}{o:HO}
theorem cB.lt(x:cB P w H h a o):a<h.objs.size:=by
 cases o with
 |lst xs=>obtain⟨_,_,_,_,e⟩:=x;exact UY e
 |tup xs=>obtain⟨_,_,_,p,_⟩:=x;exact p.lt
 |dK UC=>obtain⟨_,_,_,_,o,_,_,e,_⟩:=x;exact UY e
 |dT UC=>obtain⟨_,_,_,_,o,_,_,e,_⟩:=x;exact UY e
 |set S n=>obtain⟨o,_,_,_,e,_⟩:=x;exact UY e
 |ins C dx fs=>obtain⟨_,_,_,e,_⟩:=x;exact UY e
 |own y=>obtain⟨_,e⟩:=x;exact UY e
 |xd fs=>obtain⟨_,⟨_,_,_,e,_⟩,_⟩:=x;exact UY e
 |rng lo hi=>obtain⟨_,_,_,e⟩:=x;exact UY e
 |frz ob u=>obtain⟨e,_⟩:=x;exact UY e
 |tbl ps=>exact UY (show h.get? a=some _ from x)
 |met f y=>exact UY (show h.get? a=some _ from x)
 |ext φ=>obtain⟨_,⟨_,e⟩,_⟩:=x;exact UY e
 |memo d f=>obtain⟨_,_,_,_,_,_,o,_,_,e,_⟩:=x;exact UY e
theorem aaB.mapP{α β:Type}{F G:α->β->Prop}:∀{l₁:List α}{l₂:List β},aaB F l₁ l₂->(∀a b,F a b->G a b)->aaB G l₁ l₂
 |_,_,.nil,_=>.nil
 |_,_,.cons r t,f=>.cons (f _ _ r) (aaB.mapP t f)
theorem cB.stay(x:cB P w H h a o)(k:∀b u,(b=a\/H b=some (.own a))->h.get? b=some u->h'.get? b=some u)
  (ho:∀b,H b=some (.own a)->H' b=some (.own a)) (ht:∀b xs,H b=some 333->H' b=some 333):cB P w H' h' a o:=by
 induction o with
 |lst xs=>obtain⟨z,Uy,n,r,e⟩:=x;exact⟨z,Uy,n,r,k _ _ 394 e⟩
 |tup xs=>obtain⟨z,Uy,r,⟨ob,e,c⟩,nd⟩:=x;exact⟨z,Uy,r,⟨ob,k _ _ 394 e,c⟩,λo q=>by rw[k _ _ 394 e]at q;cases q;exact nd _ e⟩
 |dK UC=>obtain⟨z,y,vs,r,ob,es,ep,e,c⟩:=x;exact⟨z,y,vs,r,ob,es,ep,k _ _ 394 e,c⟩
 |dT UC=>
  obtain⟨z,y,xs,r,ob,es,ep,e,c⟩:=x;exact⟨z,y,xs,aaB.mapP r λp q z=>⟨z.1,ht _ _ z.2.1,z.2.2⟩,ob,es,ep,k _ _ 394 e,c⟩
 |set S n=>obtain⟨ob,es,ep,t,e,c⟩:=x;exact⟨ob,es,ep,t,k _ _ 394 e,c⟩
 |ins C dx fs=>
  obtain⟨d,z,ne,e,mA,⟨od,es,ep,e2,c⟩,r⟩:=x;exact⟨ho _ d,z,ne,k _ _ 394 e,mA,⟨od,es,ep,k _ _ (.inr d) e2,c⟩,r⟩
 |own y=>obtain⟨ob,e⟩:=x;exact⟨ob,k _ _ 394 e⟩
 |xd fs=>obtain⟨mA,⟨od,es,ep,e,c⟩,r⟩:=x;exact⟨mA,⟨od,es,ep,k _ _ 394 e,c⟩,r⟩
 |rng lo hi=>obtain⟨t,u,v,e⟩:=x;exact⟨t,u,v,k _ _ 394 e⟩
 |frz ob u ih=>obtain⟨e,q⟩:=x;exact⟨k _ _ 394 e,ih q⟩
 |tbl ps=>
  have e:h.get? a=some {cls:=.none,data:=.fields ps}:=x;show h'.get? a=some {cls:=.none,data:=.fields ps};exact k a _ 394 e
 |met f y=>
  have e:h.get? a=some (aaC 344 (.ref y)):=x;show h'.get? a=some (aaC 344 (.ref y));exact k a _ 394 e
 |ext φ=>obtain⟨p,⟨o,e⟩,st⟩:=x;exact⟨st _ _ p λo q=>k _ _ 394 q,⟨o,k _ _ 394 e⟩,st⟩
 |memo d f=>
  obtain⟨y,z,UC,m,xs,r,ob,es,ep,e,c⟩:=x;exact⟨y,z,UC,m,xs,aaB.mapP r λp q z=>⟨z.1,ht _ _ z.2.1,z.2.2⟩,ob,es,ep,k _ _ 394 e,c⟩
theorem eT.lt(x:eT P w H h)(e:H a=some o):a<h.objs.size:=(x a o e).lt
theorem eT.fresh(x:eT P w H h)(e:h.objs.size<=a):H a=none:=by
 cases q:H a with
 |none=>rfl
 |some u=>exact absurd (U6 (x.lt q) e) (Ws _)
theorem eT.kept(x:eT P w H h)(k:∀b u,h.get? b=some u->h'.get? b=some u):eT P w H h':=λa o e=>
 (x a o e).stay (λb u _ q=>k b u q) (λ_ q=>q) λ_ _ q=>q
theorem eT.laid(x:eT P w H h)(k:∀b u,h.get? b=some u->h'.get? b=some u)(hp:h.objs.size<=a)(new:cB P w (upd H a o) h' a o):eT P w (upd H a o) h':=λb u e=>by
 have hn:=x.fresh hp;by_cases hb:b=a
 ·subst hb;rw[bf]at e;cases e;exact new
 ·rw[aU hb]at e;exact(x b u e).stay (λc v _ q=>k c v q) (λc q=>by rw[aU (fO q hn)];exact q) λc xs q=>by rw[aU (fO q hn)];exact q
end
def Rd(H:Hp)(a:UX)(u:HO):Prop:=H a=some u\/∃o,H a=some (.frz o u)
theorem Rd.ok{H:Hp}(r:Rd H a u)(x:eT P w H h):cB P w H h a u:=by
 rcases r with r|⟨o,r⟩
 ·exact x a u r
 ·obtain⟨_,q⟩:=x a _ r;exact q
noncomputable def DU:Option HO->Prop
 |some (.lst _)=>True
 |some (.dK _)=>True
 |some (.dT _)=>True
 |some (.set _ _)=>True
 |some (.ins _ _ _)=>True
 |some (.ext _)=>True
 |some (.memo _ _)=>True
 |_=>False
section
variable{P:U0}{w:Vj}{H:Hp}{h h':VU}{x e:UX}{o':HO}
theorem eT.write(ok:eT P w H h)(mu:DU (H x))(he:e=x\/H e=some (.own x))(k:∀b u,b≠e->h.get? b=some u->h'.get? b=some u)(SQ:∃u,h'.get? e=some u)
  (new:cB P w (upd H x o') h' x o'):eT P w (upd H x o') h':=λb u q=>by
 have nown:∀c y,H c=some (.own y)->c≠x:=λc y r z=>by subst z;rw[r]at mu;exact mu
 have ntup:∀c xs,H c=some 333->c≠x:=λc xs r z=>by subst z;rw[r]at mu;exact mu
 by_cases hb:b=x
 ·subst hb;rw[bf]at q;cases q;exact new
 ·rw[aU hb]at q;by_cases So:b=e
  ·have q':H b=some (.own x):=by
    rcases he with z|z
    ·exact absurd (So.trans z) hb
    ·rw[So];exact z
   rw[q]at q';cases q';obtain⟨v,hv⟩:=SQ;exact⟨v,by rw[So];exact hv⟩
  ·refine(ok b u q).stay (λc v hc r=>k c v ?_ r) (λc r=>by rw[aU (nown c b r)];exact r) λc xs r=>by rw[aU (ntup c xs r)];exact r
   rcases hc with rfl|hc
   ·exact So
   ·rintro rfl;rcases he with z|z
    ·exact nown c b hc z
    ·rw[hc]at z;cases z;exact hb rfl
end
structure Un(fs ex:List UX)(H H':Hp)(h h':VU):Prop where
 keep:∀b o,h.get? b=some o->H b=none->b∉fs->b∉ex->h'.get? b=some o
 slot:∀b o,h.get? b=some o->H b=none->b∈fs->b∉ex->∃sl,h'.get? b=some {o with slots:=sl}
 free:∀b o,h.get? b=some o->H b=none->b∉ex->H' b=none
 there:∀b o,h.get? b=some o->b∉ex->∃o',h'.get? b=some o'
 tups:∀b xs,H b=some 333->H' b=some 333
 frzs:∀b o u,H b=some (.frz o u)->H' b=some (.frz o u)
 tbls:∀b ps,H b=some (.tbl ps)->∃more,H' b=some (.tbl (ps++more))
section
variable{fs fs' ex ex':List UX}{H H1 H2:Hp}{h h1 h2 h':VU}{a x e:UX}{o:HO}
theorem Un.any(u:Un fs ex H H1 h h1)(q:h.get? b=some ob)(n:H b=none)(hx:b∉ex):∃sl,h1.get? b=some {ob with slots:=sl}:=by
 by_cases hb:b∈fs
 ·exact u.slot b ob q n hb hx
 ·exact⟨ob.slots,u.keep b ob q n hb hx⟩
theorem Un.kept(k:∀b u,h.get? b=some u->h'.get? b=some u):Un fs ex H H h h':=
 ⟨λb ob q _ _ _=>k b ob q,λb ob q _ _ _=>⟨ob.slots,k b ob q⟩,λ_ _ _ n _=>n,λb ob q _=>⟨ob,k b ob q⟩,λ_ _ q=>q,λ_ _ _ q=>q,λ_ ps q=>⟨#[],by rw[q];simp⟩⟩
theorem Un.refl:Un fs ex H H h h:=Un.kept λ_ _ q=>q
theorem Un.laid(k:∀b u,h.get? b=some u->h'.get? b=some u)(hp:h.objs.size<=a)(hn:H a=none):Un fs ex H (upd H a o) h h' where
 keep:=λb u q _ _ _=>k b u q
 slot:=λb u q _ _ _=>⟨u.slots,k b u q⟩
 free:=λb u q n _=>by rw[aU (U4 (U6 (UY q) hp))];exact n
 there:=λb u q _=>⟨u,k b u q⟩
 tups:=λb xs q=>by rw[aU (fO q hn)];exact q
 frzs:=λb u xs q=>by rw[aU (fO q hn)];exact q
 tbls:=λb ps q=>⟨#[],by rw[aU (fO q hn),q];simp⟩
theorem Un.write(mu:DU (H x))(he:e=x\/H e=some (.own x))(k:∀b u,b≠e->h.get? b=some u->h'.get? b=some u)(SQ:∃u,h'.get? e=some u):Un fs ex H (upd H x o) h h':=by
 have hx:∀b,H b=none->b≠x:=λb n z=>by subst z;rw[n]at mu;exact mu
 have hb:∀b,H b=none->b≠e:=λb n z=>by
  subst z;rcases he with r|r
  ·exact hx b n r
  ·rw[n]at r;cases r
 have hm:∀b u,H b=some u->¬DU (some u)->b≠x:=λb u q nm z=>by subst z;rw[q]at mu;exact nm mu
 refine⟨λb u q n _ _=>k b u (hb b n) q,λb u q n _ _=>⟨u.slots,k b u (hb b n) q⟩,λb u q n _=>by rw[aU (hx b n)];exact n,λb u q _=>?_,
  λb xs q=>by rw[aU (hm b _ q λz=>z)];exact q,λb u xs q=>by rw[aU (hm b _ q λz=>z)];exact q,λb ps q=>⟨#[],by rw[aU (hm b _ q λz=>z),q];simp⟩⟩
 by_cases So:b=e
 ·subst So;exact SQ
 ·exact⟨u,k b u So q⟩
end
def iP(h:VU)(H:Hp):List UX:=(U8 h.objs.size).filter λa=>(H a).isSome
def nu(h:VU)(H:Hp):VU:=W.hideAll h (iP h H)
theorem EJ(h:VU)(H:Hp):(nu h H).objs.size=h.objs.size:=W.hideAll_size _ _
theorem Hf{h:VU}{H:Hp}(e:h.get? b=some o)(n:H b=none):(nu h H).get? b=some o:=
 W.hideAll_get _ e λhm=>by have q:(H b).isSome=true:=(Wf.mp hm).2;rw[n]at q;simp at q
theorem Lb{h:VU}{H:Hp}(e:(nu h H).get? b=some o):h.get? b=some o/\H b=none:=by
 have e':h.get? b=some o:=W.of_hideAll (iP h H) e;refine⟨e',?_⟩;cases q:H b with
 |none=>rfl
 |some x=>
  have hm:b∈iP h H:=Wf.mpr ⟨Vf.mpr (UY e'),by simp[q]⟩;have z:(nu h H).get? b=none:=W.hideAll_none (iP h H) hm;rw[z]at e;cases e
def Kc(g h:VU)(L:UX):List (UX×Obj):=(U8 h.objs.size).filterMap λa=>if a=L\/(g.get? a).isSome=true then none else(h.get? a).map λo=>(a,o)
def rest(g h:VU)(L d:UX):List (UX×Obj):=(Kc g h L).filter λp=>decide (p.1≠d)
structure Mod(K:UG)(mg:145)(base:VU):Prop where
 kin:K.In base
 glob:base.Ns UT mg
 blt:∃mb,base.Ns aep mb/\∀x:Str,x≠"__name__"->mb x=Wy x
 nolimit:base.NoLimit
structure Cx where
 prog:U0
 w:Vj
 K:UG
 mg:Str->Option UH
 base:VU
 A:Vw
 N:List Str
 s₀:UI
 H₀:Hp
 env:Env
 outer:List Env
 stack:List Env
 ex:List UX
 fn:Str->Bool
 calm:Bool
 pn:List (UX×Obj)
 xe:UH->UI->Prop
def frs(l:List Env):List UX:=l.filterMap (·.frame)
abbrev Cx.fs(X:Cx):List UX:=frs X.outer
def jK(sc:Yd)(x:Str):Prop:=sc.names.lookup x=some .local\/sc.names.lookup x=some .cell\/sc.names.lookup x=some .free
def Loc(sc:Yd)(x:Str):Prop:=sc.names.lookup x=some .local\/sc.names.lookup x=some .cell
noncomputable def Look(env:Env)(h:VU)(m:145)(x:Str)(u:UH):Prop:=
 (env.kindOf x=some .local/\m x=some u)\/((env.kindOf x=some .cell\/env.kindOf x=some .free)/\∃c,env.cells.lookup x=some c/\h.IsCell c (some u))
structure Cx.Ok(X:Cx):Prop where
 mod:Mod X.K X.mg X.base
 kind:X.env.scope.kind=.function
 glob:X.env.globals=UT
 blt:X.env.builtins=aep
 above:X.s₀.heap.objs.size<=X.env.locals
 inj:∀x y c,X.env.cells.lookup x=some c->X.env.cells.lookup y=some c->x=y
 has:∀x,(X.env.kindOf x=some .cell\/X.env.kindOf x=some .free)->∃c,X.env.cells.lookup x=some c
 cab:∀x c,X.fn x=true->X.env.cells.lookup x=some c->X.s₀.heap.objs.size<=c
 hd:X.calm=true->X.A.handled=none
 frames:X.A.frames=some X.stack
 stk:X.stack=X.outer\/(X.stack=X.env::X.outer/\X.env.frame=some X.env.locals)
 exf:∀b∈X.ex,b≠X.env.locals/\∀x c,X.env.cells.lookup x=some c->c≠b
 bs:∀b o,X.base.get? b=some o->X.s₀.heap.get? b=some o/\X.H₀ b=none
 bsz:X.base.objs.size<=X.s₀.heap.objs.size
 noex:∀b o,X.base.get? b=some o->b∉X.ex
 exfs:∀b∈X.ex,b∉X.fs
 funs:X.s₀.heap.FunFrames X.base X.outer
 frf:∀b∈X.fs,X.H₀ b=none
structure Inv(X:Cx)(Ux:143)(σ:List (Option V))(H:Hp)(s:UI):Prop where
 ok:X.Ok
 os:s.os=X.s₀.os
 bare:aaP s.gens
 base:Un X.fs X.ex X.H₀ H X.s₀.heap s.heap
 loc:∃m,s.heap.Ns X.env.locals m/\∀(i:Nat)(x:Str)(v:V),X.N[i]?=some x->σ[i]?=some (some v)->jK X.env.scope x->∃u,RelV v u/\Look X.env s.heap m x u
 cell:∀x c,X.env.cells.lookup x=some c->∃v,s.heap.IsCell c v
 free:H X.env.locals=none
 freeC:∀x c,X.env.cells.lookup x=some c->H c=none
 pin:∀p∈X.pn++Ux,s.heap.get? p.1=some p.2/\H p.1=none/\p.1≠X.env.locals/\p.1∉X.fs/\∀v,p.2.data≠.cell v
 hok:eT X.prog X.w H s.heap
 len:σ.length=X.N.length
section
variable{X:Cx}{Ux:List (UX×Obj)}{σ:List (Option V)}{H H':Hp}{s:UI}{h':VU}
theorem Cx.Ok.nofr(ok:X.Ok)(e:X.base.get? b=some o):b∉X.fs:=λhb=>by have:=(ok.funs.mem hb).1;rw[e]at this;cases this
theorem Inv.bs(I:135):∀b o,X.base.get? b=some o->s.heap.get? b=some o/\H b=none:=λb o e=>
 ⟨I.base.keep b o (I.ok.bs b o e).1 (I.ok.bs b o e).2 (I.ok.nofr e) (I.ok.noex b o e),I.base.free b o (I.ok.bs b o e).1 (I.ok.bs b o e).2 (I.ok.noex b o e)⟩
theorem Inv.bk(I:135):∀b o,X.base.get? b=some o->s.heap.get? b=some o:=λb o e=>(I.bs b o e).1
theorem Inv.mod(I:135):Mod X.K X.mg X.base:=I.ok.mod
theorem Inv.kIn(I:135):X.K.In s.heap:=I.ok.mod.kin.keeps I.bk
theorem Inv.lt(I:135):X.env.locals<s.heap.objs.size:=let ⟨_,hn,_⟩:=I.loc;hn.lt
theorem Inv.sz(I:135):X.s₀.heap.objs.size<=s.heap.objs.size:=Vr I.ok.above (ZG I.lt)
theorem Inv.nofs(I:135)(h:s.heap.objs.size<=a):a∉X.fs:=λhb=>by obtain⟨_,o,ho,_⟩:=I.ok.funs.mem hb;exact absurd (U6 (UY ho) (Vr I.sz h)) (Ws _)
theorem Inv.cne(I:135):∀x c,X.env.cells.lookup x=some c->c≠X.env.locals:=λx c e z=>by obtain⟨v,o,ho,hd⟩:=I.cell x c e;obtain⟨m,⟨o',es,ep,ho',hd',_⟩,_⟩:=I.loc;rw[z,ho']at ho;cases ho;rw[hd']at hd;cases hd
theorem Inv.funs(I:135):s.heap.FunFrames X.base X.outer:=by
 have all:∀(l:List Env),(∀b∈frs l,b∈X.fs)->X.s₀.heap.FunFrames X.base l->s.heap.FunFrames X.base l:=by
  intro l
  induction l with
  |nil=>intro _ _;trivial
  |cons env r ih=>
   intro hs hl;obtain⟨hk,⟨L,o,hf,hn,ho,hd⟩,hr⟩:=hl;have hL:L∈X.fs:=hs L (by unfold frs;rw[YZ,hf];exact UO);obtain⟨sl,e⟩:=I.base.slot L o ho (I.ok.frf L hL) hL λz=>I.ok.exfs L z hL;exact⟨hk,⟨L,_,hf,hn,e,hd⟩,ih (λb hb=>hs b (by unfold frs;rw[YZ,hf];exact UN _ hb)) hr⟩
 exact all X.outer (λ_ hb=>hb) I.ok.funs
theorem Inv.stack(I:135):s.heap.FunFrames X.base X.stack:=by
 rcases I.ok.stk with e|⟨e,hf⟩
 ·rw[e];exact I.funs
 ·rw[e];obtain⟨m,hn,_⟩:=I.loc;refine .cons (by rw[I.ok.kind];decide) hf hn ?_ I.funs;exact Heap.get?_none_of_le (Vr I.ok.bsz I.ok.above)
theorem Inv.stkSub(I:135):∀b∈frs X.stack,b∈X.env.locals::X.fs:=λb hb=>by
 rcases I.ok.stk with e|⟨e,hf⟩
 ·rw[e]at hb;exact UN _ hb
 ·rw[e]at hb;unfold frs at hb;rw[YZ,hf]at hb;exact hb
theorem Inv.stkFree(I:135):∀b∈frs X.stack,H b=none:=λb hb=>by
 rcases UR.mp (I.stkSub b hb)with e|hb
 ·rw[e];exact I.free
 ·obtain⟨_,o,ho,_⟩:=I.ok.funs.mem hb;exact I.base.free b o ho (I.ok.frf b hb) λz=>I.ok.exfs b z hb
theorem Inv.step{g':Array abU}{t':Nat}{d':afN}{ch:List UX}(I:135)
  (hch:299)
  (keep:∀b o,b≠X.env.locals->b∉X.fs->b∉ch->s.heap.get? b=some o->H b=none->h'.get? b=some o)
  (slot:∀b o,b≠X.env.locals->b∈X.fs->b∉ch->s.heap.get? b=some o->H b=none->∃sl,h'.get? b=some {o with slots:=sl}) (free:∀b o,b∉ch->s.heap.get? b=some o->H b=none->H' b=none)
  (there:∀b o,b∉ch->s.heap.get? b=some o->∃o',h'.get? b=some o')
  (tups:∀b xs,H b=some 333->H' b=some 333) (frzs:∀b o u,H b=some (.frz o u)->H' b=some (.frz o u)) (tbls:∀b ps,H b=some (.tbl ps)->∃more,H' b=some (.tbl (ps++more)))
  (ns:∀m,s.heap.Ns X.env.locals m->h'.Ns X.env.locals m) (hok:eT X.prog X.w H' h') (hg:aaP g'):
  Inv X Ux σ H' {s with heap:=h',gens:=g',drawn:=d',toks:=t'}:=by
 have neL:∀b o,X.s₀.heap.get? b=some o->b≠X.env.locals:=λb o e=>U4 (U6 (UY e) I.ok.above);have neC:∀b o,X.s₀.heap.get? b=some o->b∉X.ex->b∉ch:=λb o e hx hb=>by
  rcases(hch b hb).1 with z|z
  ·exact hx z
  ·exact absurd (U6 (UY e) z) (Ws _)
 have cellK:∀x c,X.env.cells.lookup x=some c->∀v,s.heap.IsCell c v->h'.IsCell c v:=λx c e v ⟨o,ho,hd⟩=>by
  have nch:c∉ch:=λz=>(hch c z).2.2.1 x c e rfl;by_cases hc:c∈X.fs
  ·obtain⟨sl,q⟩:=slot c o (I.cne x c e) hc nch ho (I.freeC x c e);exact⟨_,q,hd⟩
  ·exact⟨o,keep c o (I.cne x c e) hc nch ho (I.freeC x c e),hd⟩
 refine⟨I.ok,I.os,hg,⟨λb o e n hb hx=>?_,λb o e n hb hx=>?_,λb o e n hx=>?_,λb o e hx=>?_,λb xs e=>tups b xs (I.base.tups b xs e),λb o xs e=>frzs b o xs (I.base.frzs b o xs e),λb ps e=>?_⟩,?_,λx c e=>?_,?_,λx c e=>?_,λp hp=>?_,hok,I.len⟩
 ·exact keep b o (neL b o e) hb (neC b o e hx) (I.base.keep b o e n hb hx) (I.base.free b o e n hx)
 ·obtain⟨sl,e1⟩:=I.base.slot b o e n hb hx;obtain⟨sl',e2⟩:=slot b _ (neL b o e) hb (neC b o e hx) e1 (I.base.free b o e n hx);exact⟨sl',e2⟩
 ·obtain⟨o',e1⟩:=I.base.there b o e hx;exact free b o' (neC b o e hx) e1 (I.base.free b o e n hx)
 ·obtain⟨o',e1⟩:=I.base.there b o e hx;exact there b o' (neC b o e hx) e1
 ·obtain⟨m1,e1⟩:=I.base.tbls b ps e;obtain⟨m2,e2⟩:=tbls b _ e1;exact⟨m1++m2,by rw[e2,Array.append_assoc]⟩
 ·obtain⟨m,hn,hl⟩:=I.loc;refine⟨m,ns m hn,λi x v e1 e2 e3=>?_⟩;obtain⟨u,r,l⟩:=hl i x v e1 e2 e3;refine⟨u,r,?_⟩;rcases l with l|⟨k,c,e,z⟩
  ·exact .inl l
  ·exact .inr ⟨k,c,e,cellK x c e _ z⟩
 ·obtain⟨v,z⟩:=I.cell x c e;exact⟨v,cellK x c e v z⟩
 ·obtain⟨m,⟨o,_,_,ho,_⟩,_⟩:=I.loc;exact free _ o (λz=>(hch _ z).2.1 rfl) ho I.free
 ·obtain⟨v,o,ho,hd⟩:=I.cell x c e;exact free c o (λz=>(hch c z).2.2.1 x c e rfl) ho (I.freeC x c e)
 ·obtain⟨e,n,ne,nf,d⟩:=I.pin p hp;have nch:p.1∉ch:=λz=>(hch p.1 z).2.2.2 p hp rfl;exact⟨keep p.1 p.2 ne nf nch e n,free p.1 p.2 nch e n,ne,nf,d⟩
theorem Inv.un(I:135)(u:Un X.fs [] H H' s.heap h')(hok:eT X.prog X.w H' h'):Inv X Ux σ H' {s with heap:=h',toks:=t'}:=by
 obtain⟨m,⟨o,es,ep,ho,r⟩,_⟩:=id I.loc;obtain⟨sl,hL⟩:=u.any ho I.free 229;exact I.step (g':=s.gens) (d':=s.drawn) (ch:=[]) (λ_ z=>nomatch z) (λb o _ hb _ e n=>u.keep b o e n hb 229) (λb o _ hb _ e n=>u.slot b o e n hb 229) (λb o _ e n=>u.free b o e n 229) (λb o _ e=>u.there b o e 229) u.tups u.frzs u.tbls (λm' hm=>by
  obtain⟨o',es',ep',ho',r'⟩:=hm;rw[ho]at ho';cases ho';exact⟨_,es',ep',hL,r'⟩) hok I.bare
theorem Inv.call(I:135)(u:Un (frs X.stack) ch H H' s.heap h')(hok:eT X.prog X.w H' h')(hg:aaP g')
 (hch:299):
  Inv X Ux σ H' {s with heap:=h',gens:=g',drawn:=d',toks:=t'}:=by
 obtain⟨m,⟨o,es,ep,ho,r⟩,_⟩:=id I.loc;obtain⟨sl,hL⟩:=u.any ho I.free λz=>(hch _ z).2.1 rfl;exact I.step (ch:=ch) hch (λb o hL hb hc e n=>u.keep b o e n (λz=>(UR.mp (I.stkSub b z)).elim hL hb) hc) (λb o _ _ hc e n=>u.any e n hc) (λb o hc e n=>u.free b o e n hc) (λb o hc e=>u.there b o e hc) u.tups u.frzs u.tbls (λm' hm=>by
  obtain⟨o',es',ep',ho',r'⟩:=hm;rw[ho]at ho';cases ho';exact⟨_,es',ep',hL,r'⟩) hok hg
theorem Inv.turned{t':Nat}{it:UX}(I:135)(k:∀b o,b≠it->s.heap.get? b=some o->h'.get? b=some o)(hn:H it=none)(hL:it≠X.env.locals)
  (h1:it∈X.ex\/X.s₀.heap.objs.size<=it) (h2:∀x c,X.env.cells.lookup x=some c->c≠it) (h3:∀p∈X.pn++Ux,p.1≠it):Inv X Ux σ H {s with heap:=h',toks:=t'}:=by
 have nit:∀b u,H b=some u->b≠it:=λb u e z=>by rw[z,hn]at e;cases e
 refine I.step (g':=s.gens) (d':=s.drawn) (ch:=[it]) (λb hb=>?_) (λb o _ _ hc e _=>k b o (λz=>hc (by simp[z])) e) (λb o _ _ hc e _=>⟨o.slots,k b o (λz=>hc (by simp[z])) e⟩) (λ_ _ _ _ n=>n)
  (λb o hc e=>⟨o,k b o (λz=>hc (by simp[z])) e⟩) (λ_ _ e=>e) (λ_ _ _ e=>e) (λb ps e=>⟨#[],by rw[e];simp⟩) (λm hm=>?_) (λb u e=>?_) I.bare
 ·have e:b=it:=by simpa using hb
  subst e;exact⟨h1,hL,h2,h3⟩
 ·obtain⟨o,es,ep,ho,r⟩:=hm;exact⟨o,es,ep,k _ o (VF hL) ho,r⟩
 ·refine(I.hok b u e).stay (λc v hc q=>k c v ?_ q) (λ_ q=>q) λ_ _ q=>q;rcases hc with z|z
  ·rw[z];exact nit b u e
  ·exact nit c _ z
theorem Inv.tok(I:135)(t:Nat):Inv X Ux σ H {s with toks:=t}:=I.un (h':=s.heap) (t':=t) Un.refl I.hok
theorem Inv.kept(I:135)(k:∀b u,s.heap.get? b=some u->h'.get? b=some u):Inv X Ux σ H {s with heap:=h',toks:=t'}:=I.un (Un.kept k) (I.hok.kept k)
theorem Inv.laid(I:135)(k:∀b u,s.heap.get? b=some u->h'.get? b=some u)(hp:s.heap.objs.size<=a)(new:cB X.prog X.w (upd H a o) h' a o):
  Inv X Ux σ (upd H a o) {s with heap:=h',toks:=t'}:=I.un (Un.laid k hp (I.hok.fresh hp)) (I.hok.laid k hp new)
theorem Inv.write(I:135)(mu:DU (H x))(he:e=x\/H e=some (.own x))(k:∀b u,b≠e->s.heap.get? b=some u->h'.get? b=some u)(SQ:∃u,h'.get? e=some u)
 (new:cB X.prog X.w (upd H x o) h' x o):Inv X Ux σ (upd H x o) {s with heap:=h',toks:=t'}:=I.un (Un.write mu he k SQ) (I.hok.write mu he k SQ new)
theorem Inv.pins_of(I:135)(h:∀p∈pins',s.heap.get? p.1=some p.2/\H p.1=none/\p.1≠X.env.locals/\p.1∉X.fs/\∀v,p.2.data≠.cell v):Inv X pins' σ H s:=
 ⟨I.ok,I.os,I.bare,I.base,I.loc,I.cell,I.free,I.freeC,λp hp=>(Vk.mp hp).elim (λz=>I.pin p (VR _ z)) (h p),I.hok,I.len⟩
theorem rW{N:131}(hN:N.Nodup){i j:Nat}{x:Str}(a:N[i]?=some x)(b:N[j]?=some x):i=j:=by obtain⟨h1,e1⟩:=Vs.mp a;obtain⟨h2,e2⟩:=Vs.mp b;exact(adt hN).mp (e1.trans e2.symm)
theorem wA{M:ab8}{E:136}{Q:347}(I:135)(hN:X.N.Nodup)(hi:X.N[i]?=some x)(hx:Loc X.env.scope x)(r:RelV v u)
 (h:∀s',Inv X Ux (σ.set i (some v)) H s'->(∃a,WN a s.heap s'.heap/\(a=X.env.locals\/X.env.cells.lookup x=some a))->Q () s') (hf:151:=by first|exact .inl rfl|exact .inr rfl|assumption):UZ M A (aeX X.env x u) Q E s:=by
 obtain⟨m,hn,hl⟩:=id I.loc;have hcls:(X.env.scope.kind==.class||(X.env.scope.kind==.module&&X.env.locals != X.env.globals))=false:=by rw[I.ok.kind];rfl
 have hiσ:i<σ.length:=by rw[I.len];exact(Vs.mp hi).1
 have cne:=I.cne;have tracked:∀{a:UX}{h':VU},(∃o,s.heap.get? a=some o/\H a=none)->WN a s.heap h'->eT X.prog X.w H h':=fun {a h'} ha hs b ob e=>by
  obtain⟨_,_,hfree⟩:=ha;refine(I.hok b ob e).stay (λc w' hc q=>(hs.2 c ?_).trans q) (λ_ q=>q) λ_ _ q=>q;rintro rfl;rcases hc with rfl|hc
  ·rw[hfree]at e;cases e
  ·rw[hfree]at hc;cases hc
 rcases hx with hk|hk
 ·refine wpAny_storeName_local hk hn (λh' hn' hs=>?_) hcls;obtain⟨oL,_,_,TU,_⟩:=id hn;refine h _ ⟨I.ok,I.os,I.bare,⟨λb o e n hb hx=>?_,λb o e n hb hx=>?_,I.base.free,λb o e hx=>?_,I.base.tups,I.base.frzs,I.base.tbls⟩,⟨_,hn',λj y v' e1 e2 e3=>?_⟩,λy c e=>?_,I.free,I.freeC,λp hp=>?_,tracked ⟨oL,TU,I.free⟩ hs,by simpa using I.len⟩ ⟨_,hs,.inl rfl⟩
  ·exact(hs.2 b (U4 (U6 (UY e) I.ok.above))).trans (I.base.keep b o e n hb hx)
  ·obtain⟨sl,e1⟩:=I.base.slot b o e n hb hx;exact⟨sl,(hs.2 b (U4 (U6 (UY e) I.ok.above))).trans e1⟩
  ·obtain⟨o',e1⟩:=I.base.there b o e hx;exact⟨o',(hs.2 b (U4 (U6 (UY e) I.ok.above))).trans e1⟩
  ·by_cases hj:j=i
   ·subst hj;rw[hi]at e1;cases e1;rw[V1 hiσ]at e2;cases e2;exact⟨u,r,.inl ⟨hk,by simp⟩⟩
   ·rw[Vd (VF hj)]at e2;obtain⟨u',r',q⟩:=hl j y v' e1 e2 e3;refine⟨u',r',?_⟩;rcases q with⟨k,e⟩|⟨k,c,e,z⟩
    ·refine .inl ⟨k,?_⟩;have:y≠x:=λe=>hj (rW hN e1 (e▸hi));simp[this,e]
    ·exact .inr ⟨k,c,e,z.sameBut hs (cne y c e)⟩
  ·obtain⟨w',z⟩:=I.cell y c e;exact⟨w',z.sameBut hs (cne y c e)⟩
  ·obtain⟨e,n,ne,nf,d⟩:=I.pin p hp;exact⟨(hs.2 p.1 ne).trans e,n,ne,nf,d⟩
 ·have hfn:X.fn x=true:=by
   rcases hf with z|z
   ·exact z
   ·rw[z]at hk;cases hk
  obtain⟨c,hc⟩:=I.ok.has x (.inl hk);obtain⟨w',z⟩:=I.cell x c hc;refine wpAny_storeName_cell I.ok.kind hk hc z (λh' hc' hs=>?_);obtain⟨oc,hoc,Tw⟩:=id z;refine h {s with heap:=h'} ⟨I.ok,I.os,I.bare,⟨λb o e n hb hx=>?_,λb o e n hb hx=>?_,I.base.free,λb o e hx=>?_,I.base.tups,I.base.frzs,I.base.tbls⟩,⟨m,hn.sameBut hs (VF (cne x c hc)),λj y v' e1 e2 e3=>?_⟩,λy c' e=>?_,I.free,I.freeC,λp hp=>?_,tracked ⟨oc,hoc,I.freeC x c hc⟩ hs,by simpa using I.len⟩ ⟨c,hs,.inr hc⟩
  ·exact(hs.2 b (U4 (U6 (UY e) (I.ok.cab x c hfn hc)))).trans (I.base.keep b o e n hb hx)
  ·obtain⟨sl,e1⟩:=I.base.slot b o e n hb hx;exact⟨sl,(hs.2 b (U4 (U6 (UY e) (I.ok.cab x c hfn hc)))).trans e1⟩
  ·obtain⟨o',e1⟩:=I.base.there b o e hx;exact⟨o',(hs.2 b (U4 (U6 (UY e) (I.ok.cab x c hfn hc)))).trans e1⟩
  ·by_cases hj:j=i
   ·subst hj;rw[hi]at e1;cases e1;rw[V1 hiσ]at e2;cases e2;exact⟨u,r,.inr ⟨.inl hk,c,hc,hc'⟩⟩
   ·rw[Vd (VF hj)]at e2;obtain⟨u',r',q⟩:=hl j y v' e1 e2 e3;refine⟨u',r',?_⟩;rcases q with q|⟨k,c',e,z'⟩
    ·exact .inl q
    ·refine .inr ⟨k,c',e,z'.sameBut hs ?_⟩;rintro rfl;exact hj (rW hN e1 (I.ok.inj _ _ _ e hc▸hi))
  ·by_cases hcc:c'=c
   ·subst hcc;exact⟨_,hc'⟩
   ·obtain⟨w2,z2⟩:=I.cell y c' e;exact⟨w2,z2.sameBut hs hcc⟩
  ·obtain⟨e,n,ne,nf,d⟩:=I.pin p hp;refine⟨(hs.2 p.1 ?_).trans e,n,ne,nf,d⟩;intro q;rw[q,hoc]at e;have q':oc=p.2:=Ve e;exact d w' (by rw[<-q'];exact Tw)
theorem nN{M:ab8}{E:136}{Q:347}(I:135)(hN:X.N.Nodup)(hi:X.N[i]?=some x)(hx:Loc X.env.scope x)(r:RelV v u)
 (h:∀s',Inv X Ux (σ.set i (some v)) H s'->Q () s') (hf:151:=by first|exact .inl rfl|exact .inr rfl|assumption):UZ M A (aeX X.env x u) Q E s:=
 wA I hN hi hx r (λs' I' _=>h s' I') hf
theorem Inv.call'{s':UI}(I:135)(ho:s'.os=s.os)(u:Un (frs X.stack) ch H H' s.heap s'.heap)(hok:eT X.prog X.w H' s'.heap)(hg:aaP s'.gens)
 (hch:299):Inv X Ux σ H' s':=by obtain⟨h',g',d',t',o'⟩:=s';have e:o'=s.os:=ho;subst e;exact I.call (g':=g') (t':=t') (d':=d') u hok hg hch
end
abbrev XK:=UH->Option UX->Hp->Prop
abbrev St:=List (Option V)
abbrev VK:=V->Hp->Prop
abbrev TE:=St->Hp->VK->Prop
abbrev TT:=St->Hp->(Bool->Hp->Prop)->Prop
abbrev TA:=St->Hp->(List V->Hp->Prop)->Prop
structure Ends where
 nx:St->Hp->Prop
 rt:VK
 bk:St->Hp->Prop:=λ_ _=>False
 ct:St->Hp->Prop:=λ_ _=>False
abbrev TS:=Ends->St->Hp->Prop
def EP(X:Cx)(Ux:143)(σ:St)(Q:VK)(u:UH)(s':UI):Prop:=∃v H',Inv X Ux σ H' s'/\RelV v u/\Q v H'
def TP(X:Cx)(Ux:143)(σ:St)(Q:Bool->Hp->Prop)(b:Bool)(s':UI):Prop:=∃H',Inv X Ux σ H' s'/\Q b H'
def AP(X:Cx)(Ux:143)(σ:St)(Q:List V->Hp->Prop)(us:List UH)(s':UI):Prop:=∃vs H',Inv X Ux σ H' s'/\Vals vs us/\Q vs H'
noncomputable def SP(X:Cx)(Ux:143)(D:Ends)(f:Flow)(s':UI):Prop:=
 match f with
 | .next=>∃σ' H',Inv X Ux σ' H' s'/\D.nx σ' H'
 | .brk=>∃σ' H',Inv X Ux σ' H' s'/\D.bk σ' H'
 | .cont=>∃σ' H',Inv X Ux σ' H' s'/\D.ct σ' H'
 | .ret u=>∃v σ' H',Inv X Ux σ' H' s'/\RelV v u/\D.rt v H'
noncomputable def PE(X:Cx)(e:VC)(t:TE):Prop:=
 ∀(Ux:143)(s:UI)(σ:St)(H:Hp)(Q:VK),Inv X Ux σ H s->t σ H Q->UZ 126 X.A (eval e X.env) (EP X Ux σ Q) X.xe s
noncomputable def PT(X:Cx)(e:VC)(t:TT):Prop:=
 ∀(Ux:143)(s:UI)(σ:St)(H:Hp)(Q:Bool->Hp->Prop),Inv X Ux σ H s->t σ H Q->UZ 126 X.A (acn e X.env (eval e X.env)) (TP X Ux σ Q) X.xe s
noncomputable def PW(X:Cx)(e:VC)(t:TT):Prop:=
 ∀(whole:Sem UH)(Ux:143)(s:UI)(σ:St)(H:Hp)(Q:Bool->Hp->Prop),Inv X Ux σ H s->t σ H Q->UZ 126 X.A (acn e X.env whole) (TP X Ux σ Q) X.xe s
theorem PW.pt(h:PW X e t):PT X e t:=h _
noncomputable def PA(X:Cx)(es:List VC)(t:TA):Prop:=
 ∀(pos:Pos)(Ux:143)(s:UI)(σ:St)(H:Hp)(Q:List V->Hp->Prop),Inv X Ux σ H s->t σ H Q->UZ 126 X.A (spliced (Wr pos 319)) (AP X Ux σ Q) X.xe s
noncomputable def PS(X:Cx)(st:Xq)(t:TS):Prop:=
 ∀(Ux:143)(s:UI)(σ:St)(H:Hp)(D:Ends),Inv X Ux σ H s->t D σ H->UZ 126 X.A (exec st X.env) (SP X Ux D) X.xe s
noncomputable def iQ(X:Cx)(st:List Xq)(t:TS):Prop:=
 ∀(Ux:143)(s:UI)(σ:St)(H:Hp)(D:Ends),Inv X Ux σ H s->t D σ H->UZ 126 X.A (execs st X.env) (SP X Ux D) X.xe s
theorem bO{α:Type}{t:Sem α}{Q Q':α->UI->Prop}{M:ab8}{A:Vw}{E:136}{s:UI}(h:UZ M A t Q E s)(hQ:∀a s,Q a s->Q' a s):UZ M A t Q' E s:=VH h hQ λ_ _ x=>x
section
variable{X:Cx}
theorem bin{a b:VC}{ta tb:TE}(ha:PE X a ta)(hb:PE X b tb){Ux:143}{s:UI}{σ:St}{H:Hp}{R:V->V->Hp->Prop}(I:135)(h:ta σ H λx H1=>tb σ H1 λy H2=>R x y H2)
  {α:Type}{Q:α->UI->Prop}{f:UH->UH->Sem α}
  (hf:∀v u s2 x y H2,Inv X Ux σ H2 s2->RelV x v->RelV y u->R x y H2->UZ 126 X.A (f v u) Q X.xe s2):
  UZ 126 X.A (eval a X.env) (λv s₁=>UZ 126 X.A (eval b X.env) (λu s₂=>UZ 126 X.A (f v u) Q X.xe s₂) X.xe s₁) X.xe s:=by refine bO (ha Ux s σ H _ I h) λv s1 ⟨x,H1,I1,r1,q1⟩=>?_;refine bO (hb Ux s1 σ H1 _ I1 q1) λu s2 ⟨y,H2,I2,r2,q2⟩=>?_;exact hf v u s2 x y H2 I2 r1 r2 q2
def sq(i:Nat):TE:=λσ H Q=>∃v,σ[i]?=some (some v)/\Q v H
def tC(v:V):TE:=λ_ H Q=>Q v H
theorem eK{pos:Pos}(hN:X.N[i]?=some x)(hv:jK X.env.scope x)(hd:141)(hcd:autoParam ((x==306)=false) zzB._auto_1):PE X (.Name x pos) (sq i):=by
 intro Ux s σ H Q I h;obtain⟨v,e,h⟩:=h;obtain⟨m,hn,hl⟩:=I.loc;obtain⟨u,r,l⟩:=hl i x v hN e hv;have fin:EP X Ux σ Q u s:=⟨v,H,I,r,h⟩;rcases l with⟨hk,hm⟩|⟨hk,c,hc,hcell⟩
 ·exact aeq (abX I.ok.kind hk hn hm fin) hd
 ·rcases hk with hk|hk
  ·exact aeq (ab9 I.ok.kind hk hc hcell fin) hd
  ·exact aeq (wpAny_loadName_free I.ok.kind hk hc hcell fin hcd) hd
theorem zq{i j pos}:PE X (.Constant (.int i) j pos) (tC (.int i)):=λ_ _ _ H _ I h=>wpAny_Constant_int ⟨.int i,H,I.tok _,⟨_,rfl⟩,h⟩
theorem Ph{b j pos}:PE X (.Constant (.bool b) j pos) (tC (.bl b)):=λ_ _ _ H _ I h=>Constant_bool ⟨.bl b,H,I,rfl,h⟩
theorem NZ{j pos}:PE X (.Constant .none j pos) (tC .non):=λ_ _ _ H _ I h=>Constant_none ⟨.non,H,I,rfl,h⟩
theorem Fz{x j pos}:PE X (.Constant (.str x) j pos) (tC (.str x)):=λ_ _ _ H _ I h=>Calls.Constant_str ⟨.str x,H,I.tok _,⟨_,rfl⟩,h⟩
def Gl(X:Cx)(x:Str):Prop:=X.env.kindOf x=some .globalImplicit
theorem jY{E:136}{H:Hp}{pos:Pos}{Q:136}(I:135)(hg:Gl X x)(hm:X.mg x=some u)(h:Q u s)
 (hd:141):UZ 126 X.A (eval (.Name x pos) X.env) Q E s:=
 aam I.ok.kind hg (Calls.loadGlobal_global (by rw[I.ok.glob];exact I.mod.glob.keeps I.bk) hm h) hd
theorem oY{E:136}{H:Hp}{pos:Pos}{Q:136}(I:135)(hg:Gl X x)(hm:X.mg x=none)(hv:Wy x=some u)(h:Q u s)
 (hn:autoParam (x≠"__name__") zzB._auto_1) (hd:141):UZ 126 X.A (eval (.Name x pos) X.env) Q E s:=by obtain⟨mb,h1,h2⟩:=I.mod.blt;exact aam I.ok.kind hg (Calls.loadGlobal_builtin (by rw[I.ok.glob];exact I.mod.glob.keeps I.bk) hm (by rw[I.ok.blt];exact h1.keeps I.bk) ((h2 x hn).trans hv) h) hd
theorem mP{pos:Pos}(hg:Gl X x)(hm:X.mg x=some u)(r:RelV v u)(hd:141):PE X (.Name x pos) (tC v):=
 λ_ _ _ H _ I h=>jY I hg hm ⟨v,H,I,r,h⟩ hd
theorem Bm{pos:Pos}(hg:Gl X x)(hm:X.mg x=none)(hv:Wy x=some u)(r:RelV v u)(hn:autoParam (x≠"__name__") zzB._auto_1)(hd:141):PE X (.Name x pos) (tC v):=
 λ_ _ _ H _ I h=>oY I hg hm hv ⟨v,H,I,r,h⟩ hn hd
variable{a b:VC}{ta tb:TE}{pos:Pos}
noncomputable def PC(X:Cx)(op:CmpOp)(a b:VC)(t:TE):Prop:=
 ∀(Ux:143)(s:UI)(σ:St)(H:Hp)(Q:VK),Inv X Ux σ H s->t σ H Q->
  UZ 126 X.A (eval a X.env) (λv s₁=>UZ 126 X.A (eval b X.env) (λu s₂=>UZ 126 X.A (W9 op v u) (EP X Ux σ Q) X.xe s₂) X.xe s₁) X.xe s
theorem HE(b:VC)(h:op≠.In)(h2:op≠.NotIn):We op b=false:=by
 have e1:(op==afZ)=false:=by cases op<;>first|rfl|exact absurd rfl h
 have e2:(op==afi)=false:=by cases op<;>first|rfl|exact absurd rfl h2
 cases b<;>simp[We,e1,e2]
def tB(t:TE):TT:=λσ H Q=>t σ H λx H1=>∃c,x=.bl c/\Q c H1
theorem Rp{op:CmpOp}{t:TE}(h:PC X op a b t)(h1:We op b=false:=by first|exact HE _ 120 120|rfl):PT X (.Compare a [op] [b] pos) (tB t):=by intro Ux s σ H Q I hw;refine abr (bO (h Ux s σ H _ I hw) λv s1 h1=>bO h1 λu s2 h2=>bO h2 λc s3 ⟨x,H1,I1,r1,q1⟩=>?_) h1;obtain⟨d,rfl,q⟩:=q1;cases r1;exact W2 ⟨H1,I1,q⟩
theorem N8{e:VC}{t:TE}(h:PE X e t)(he:∀whole,acn e X.env whole=(do let v <-whole;Ye e.pos;holding [v] (truthy v)):=by intro _;rfl):PT X e (tB t):=by intro Ux s σ H Q I hw;refine isTrue_plain (bO (h Ux s σ H _ I hw) λv s1 ⟨x,H1,I1,r1,q1⟩=>?_) (he _);obtain⟨d,rfl,q⟩:=q1;cases r1;exact W2 ⟨H1,I1,q⟩
variable{tA tB':TT}{rest:List VC}
def Q6(t u:TT):TT:=λσ H Q=>t σ H λc H1=>if c=true then u σ H1 Q else Q false H1
def Ry(t u:TT):TT:=λσ H Q=>t σ H λc H1=>if c=true then Q true H1 else u σ H1 Q
def Rb(t:TT):TT:=λσ H Q=>t σ H λc H1=>Q (!c) H1
theorem LF(ha:PT X a tA):PW X (.BoolOp .And [a] pos) tA:=by
 intro wh Ux s σ H Q I h;refine isTrue_and (bO (ha Ux s σ H Q I h) λc s1 e=>?_);cases c with
 |true=>exact isTrue_and_nil e
 |false=>exact e
theorem Oc(ha:PT X a tA):PW X (.BoolOp .Or [a] pos) tA:=by
 intro wh Ux s σ H Q I h;refine isTrue_or (bO (ha Ux s σ H Q I h) λc s1 e=>?_);cases c with
 |false=>exact isTrue_or_nil e
 |true=>exact e
theorem Ob(ha:PT X a tA)(hb:PW X (.BoolOp .And (b::rest) pos) tB'):PW X (.BoolOp .And (a::b::rest) pos) (Q6 tA tB'):=by
 intro wh Ux s σ H Q I h;refine isTrue_and (bO (ha Ux s σ H _ I h) λc s1 ⟨H1,I1,q1⟩=>?_);cases c with
 |true=>exact hb wh Ux s1 σ H1 Q I1 q1
 |false=>exact⟨H1,I1,q1⟩
theorem Pp(ha:PT X a tA)(hb:PW X (.BoolOp .Or (b::rest) pos) tB'):PW X (.BoolOp .Or (a::b::rest) pos) (Ry tA tB'):=by
 intro wh Ux s σ H Q I h;refine isTrue_or (bO (ha Ux s σ H _ I h) λc s1 ⟨H1,I1,q1⟩=>?_);cases c with
 |true=>exact⟨H1,I1,q1⟩
 |false=>exact hb wh Ux s1 σ H1 Q I1 q1
theorem N7(ha:PT X a tA):PT X (.UnaryOp .Not a pos) (Rb tA):=by intro Ux s σ H Q I h;exact isTrue_not (ha Ux s σ H (λc H1=>Q (!c) H1) I h)
def PF(ta tb:TE):TE:=λσ H Q=>ta σ H λx H1=>∃c,x=.bl c/\if c=true then tb σ H1 Q else Q (.bl false) H1
def PM(ta:TE):TE:=λσ H Q=>ta σ H λx H1=>∃c,x=.bl c/\Q (.bl (!c)) H1
theorem N2{op}{t:TE}(h:PE X a t):PE X (.BoolOp op [a] pos) t:=λUx s σ H Q I hw=>BoolOp_one (h Ux s σ H Q I hw)
theorem NW(ha:PE X a ta)(hb:PE X (.BoolOp .And (b::rest) pos) tb):PE X (.BoolOp .And (a::b::rest) pos) (PF ta tb):=by
 intro Ux s σ H Q I h;refine BoolOp_and (bO (ha Ux s σ H _ I h) λv s1 ⟨x,H1,I1,r1,q1⟩=>?_);obtain⟨c,rfl,q1⟩:=q1;cases r1;refine W2 ?_;cases c with
 |true=>exact hb Ux s1 σ H1 Q I1 q1
 |false=>exact⟨.bl false,H1,I1,rfl,q1⟩
theorem N1(ha:PE X a ta):PE X (.UnaryOp .Not a pos) (PM ta):=by intro Ux s σ H Q I h;refine UnaryOp_ (bO (ha Ux s σ H _ I h) λv s1 ⟨x,H1,I1,r1,q1⟩=>?_);obtain⟨c,rfl,q1⟩:=q1;cases r1;exact not_of (W2 ⟨.bl (!c),H1,I1,rfl,q1⟩)
def Rw(t:TT)(ta tb:TE):TE:=λσ H Q=>t σ H λc H1=>if c=true then ta σ H1 Q else tb σ H1 Q
theorem HQ{c:VC}(hc:PT X c tA)(ha:PE X a ta)(hb:PE X b tb):PE X (.IfExp c a b pos) (Rw tA ta tb):=by
 intro Ux s σ H Q I h;refine wpAny_IfExp (bO (hc Ux s σ H _ I h) λd s1 ⟨H1,I1,q1⟩=>?_);cases d with
 |true=>exact ha Ux s1 σ H1 Q I1 q1
 |false=>exact hb Ux s1 σ H1 Q I1 q1
end
noncomputable def cY(K:UG)(H:Hp)(a:UX)(xs:List V):Prop:=
 Rd H a (.lst xs)\/
  ∃(o:Obj)(Uy:Array UH)(n:Nat),K.lookup a=some o/\o.cls=.type "list"/\o.dict=none/\o.data=.seq Uy n/\Uy.size<=sizeLine/\Vals xs Uy.toList
noncomputable def eZ(K:UG)(H:Hp)(a:UX)(xs:List V):Prop:=
 Rd H a 333\/
  ∃(o:Obj)(Uy:Array UH)(n:Nat),K.lookup a=some o/\o.cls=.type "tuple"/\o.dict=none/\o.data=.seq Uy n/\Uy.size<=sizeLine/\Vals xs Uy.toList
noncomputable def Qv:UH->Option V
 | .none=>some .non
 | .bool b=>some (.bl b)
 | .int i _=>some (.int i)
 | .str x _=>some (.str x)
 | .bytes b _=>some (.byt b)
 | .float b _=>some (.flt b)
 | .ref a=>some 307
 | .type n=>some (.ty n)
 |_=>none
theorem RelV.abs(r:RelV x u):Qv u=some x:=by
 cases x with
 |non=>cases r;rfl
 |bl _=>cases r;rfl
 |int _=>obtain⟨t,rfl⟩:=r;rfl
 |str _=>obtain⟨t,rfl⟩:=r;rfl
 |byt _=>obtain⟨t,rfl⟩:=r;rfl
 |flt _=>obtain⟨t,rfl⟩:=r;rfl
 |ref _=>cases r;rfl
 |ty _=>cases r;rfl
theorem RelV.inj(r:RelV x u)(q:RelV y u):x=y:=Ve (r.abs.symm.trans q.abs)
theorem Vals.inj:∀{xs ys:List V}{us:List UH},Vals xs us->Vals ys us->xs=ys
 |_,_,_,.nil,.nil=>rfl
 |_,_,_,.cons r t,.cons r' t'=>by rw[r.inj r',Vals.inj t t']
section
variable{X:Cx}{Ux:List (UX×Obj)}{σ:St}{H:Hp}{s:UI}{a:UX}{xs ys:List V}
theorem cY.of{K:UG}(h:H a=some (.lst xs)):cY K H a xs:=.inl (.inl h)
theorem Inv.list(I:135)(h:cY X.K H a xs):∃Uy:List UH,Vals xs Uy/\PlainL s.heap a Uy.toArray/\xs.length<=sizeLine:=by
 rcases h with h|⟨o,Uy,n,hk,hc,hd,hs,hz,r⟩
 ·obtain⟨z,Uy,n,r,e⟩:=h.ok I.hok;exact⟨Uy,r,⟨_,n,e,rfl,rfl,rfl⟩,z⟩
 ·refine⟨Uy.toList,r,⟨o,n,I.kIn a o hk,hc,hd,by simpa using hs⟩,?_⟩;have e:=r.length;simp only[Vh]at e;omega
theorem Inv.tuple(I:135)(h:eZ X.K H a xs):∃Uy:List UH,Vals xs Uy/\afM s.heap a Uy.toArray/\xs.length<=sizeLine:=by
 rcases h with h|⟨o,Uy,n,hk,hc,hn,hs,hz,r⟩
 ·obtain⟨z,Uy,r,p,_⟩:=h.ok I.hok;exact⟨Uy,r,p,z⟩
 ·refine⟨Uy.toList,r,⟨o,I.kIn a o hk,hc,n,by simpa using hs⟩,?_⟩;have e:=r.length;simp only[Vh]at e;omega
theorem Inv.list_inj(I:135)(h:cY X.K H a xs)(h':cY X.K H a ys):xs=ys:=by
 obtain⟨Uy,r,⟨o,n,e,_,_,d⟩,_⟩:=I.list h;obtain⟨its',r',⟨o',n',e',_,_,d'⟩,_⟩:=I.list h';rw[e]at e';cases e';rw[d]at d';injection d' with d1 _
 have:Uy=its':=by simpa using congrArg abt d1
 subst this;exact r.inj r'
theorem Inv.tuple_inj(I:135)(h:eZ X.K H a xs)(h':eZ X.K H a ys):xs=ys:=by
 obtain⟨Uy,r,⟨o,e,_,n,d⟩,_⟩:=I.tuple h;obtain⟨its',r',⟨o',e',_,n',d'⟩,_⟩:=I.tuple h';rw[e]at e';cases e';rw[d]at d';injection d' with d1 _
 have:Uy=its':=by simpa using congrArg abt d1
 subst this;exact r.inj r'
end
abbrev Cx.wish(X:Cx)(E:136):Cx:={X with xe:=E}
abbrev Cx.nox(X:Cx):Cx:=X.wish λ_ _=>False
theorem Cx.Ok.wish{X:Cx}(ok:X.Ok)(E:136):(X.wish E).Ok:=
 ⟨ok.mod,ok.kind,ok.glob,ok.blt,ok.above,ok.inj,ok.has,ok.cab,ok.hd,ok.frames,ok.stk,ok.exf,ok.bs,ok.bsz,ok.noex,ok.exfs,ok.funs,ok.frf⟩
theorem Cx.Ok.unwish{X:Cx}{E:136}(ok:(X.wish E).Ok):X.Ok:=
 ⟨ok.mod,ok.kind,ok.glob,ok.blt,ok.above,ok.inj,ok.has,ok.cab,ok.hd,ok.frames,ok.stk,ok.exf,ok.bs,ok.bsz,ok.noex,ok.exfs,ok.funs,ok.frf⟩
section
variable{X:Cx}{Ux:List (UX×Obj)}{σ:St}{H:Hp}{s:UI}{E:UH->UI->Prop}
theorem Inv.wish(I:135)(E:136):Inv (X.wish E) Ux σ H s:=⟨I.ok.wish E,I.os,I.bare,I.base,I.loc,I.cell,I.free,I.freeC,I.pin,I.hok,I.len⟩
theorem Inv.unwish(I:Inv (X.wish E) Ux σ H s):Inv X Ux σ H s:=⟨I.ok.unwish,I.os,I.bare,I.base,I.loc,I.cell,I.free,I.freeC,I.pin,I.hok,I.len⟩
theorem SP.unwish{D:Ends}(h:SP (X.wish E) Ux D f s'):SP X Ux D f s':=by
 cases f with
 |next=>obtain⟨σ',H',I,q⟩:=h;exact⟨σ',H',I.unwish,q⟩
 |brk=>obtain⟨σ',H',I,q⟩:=h;exact⟨σ',H',I.unwish,q⟩
 |cont=>obtain⟨σ',H',I,q⟩:=h;exact⟨σ',H',I.unwish,q⟩
 |ret u=>obtain⟨v,σ',H',I,r,q⟩:=h;exact⟨v,σ',H',I.unwish,r,q⟩
theorem iQ.nox{st:List Xq}{t:TS}(h:iQ X.nox st t):iQ X st t:=λUx s σ H D I hw=>
 VH (h Ux s σ H D (I.wish _) hw) (λ_ _ q=>q.unwish) λ_ _ z=>WB z
end
section
variable{X:Cx}{st:Xq}{rest:List Xq}{t u:TS}{e:VC}{te:TE}{pos:Pos}
def PL:TS:=λD σ H=>D.nx σ H
def OG(t u:TS):TS:=λD σ H=>t {D with nx:=u D} σ H
theorem vo:iQ X [] PL:=λ_ _ σ H _ I h=>Z1 ⟨σ,H,I,h⟩
theorem kT(h1:PS X st t)(h2:iQ X rest u):iQ X (st::rest) (OG t u):=by
 intro Ux s σ H D I h;refine adu (bO (h1 Ux s σ H {D with nx:=u D} I h) λf s1 q=>?_);cases f with
 |next=>
  obtain⟨σ',H',I',q⟩:=q;exact h2 Ux s1 σ' H' D I' q
 |ret v=>exact q
 |brk=>exact q
 |cont=>exact q
theorem jk(h1:PS X st t):iQ X [st] t:=by
 intro Ux s σ H D I h;refine adu (bO (h1 Ux s σ H D I h) λf s1 q=>?_);cases f with
 |next=>exact Z1 q
 |ret v=>exact q
 |brk=>exact q
 |cont=>exact q
def OE:TS:=λD σ H=>D.bk σ H
theorem HZ:PS X (.Break pos) OE:=λ_ _ σ H _ I h=>wpAny_Break ⟨σ,H,I,h⟩
theorem Inv.quiet{H:Hp}(I:135):interactive X.env=false:=by simp[interactive,I.ok.kind]
def JL(te:TE):TS:=λD σ H=>te σ H λ_ H1=>D.nx σ H1
theorem vn(he:PE X e te)(hs:autoParam (Xj e none pos.line X.env=pure false) zzA._auto_1):PS X (.Expr e pos) (JL te):=by intro Ux s σ H D I h;exact wpAny_Expr_any (bO (he Ux s σ H _ I h) λv s1 ⟨x,H1,I1,r1,q1⟩=>⟨σ,H1,I1,q1⟩) I.quiet hs
def Rc(te:TE):TS:=λD σ H=>te σ H D.rt
theorem FL(he:PE X e te):PS X (.Return (some e) pos) (Rc te):=by intro Ux s σ H D I h;exact wpAny_Return_some (bO (he Ux s σ H _ I h) λv s1 ⟨x,H1,I1,r1,q1⟩=>⟨x,σ,H1,I1,r1,q1⟩)
def Q_(c:TT)(t u:TS):TS:=λD σ H=>c σ H λb H1=>if b=true then t D σ H1 else u D σ H1
theorem Dl{c:VC}{a b:List Xq}{tc:TT}(hc:PT X c tc)(ha:iQ X a t)(hb:iQ X b u):PS X (.If c a b pos) (Q_ tc t u):=by
 intro Ux s σ H D I h;refine wpAny_If (bO (hc Ux s σ H _ I h) λd s1 ⟨H1,I1,q1⟩=>?_);cases d with
 |true=>exact ha Ux s1 σ H1 D I1 q1
 |false=>exact hb Ux s1 σ H1 D I1 q1
end
abbrev TG:=V->St->Hp->(St->Hp->Prop)->Prop
abbrev vF:=List V->St->Hp->(St->Hp->Prop)->Prop
noncomputable def PG(X:Cx)(Uz:VC)(t:TG):Prop:=
 ∀(Ux:143)(s:UI)(σ:St)(H:Hp)(v:V)(u:UH)(Q:St->Hp->Prop),Inv X Ux σ H s->RelV v u->t v σ H Q->
  UZ 126 X.A (assign Uz X.env u) (λ_ s'=>∃σ' H',Inv X Ux σ' H' s'/\Q σ' H') X.xe s
noncomputable def ya(X:Cx)(ts:List VC)(t:vF):Prop:=
 ∀(Ux:143)(s:UI)(σ:St)(H:Hp)(vs:List V)(us:List UH)(Q:St->Hp->Prop),Inv X Ux σ H s->Vals vs us->t vs σ H Q->
  UZ 126 X.A (assignInOrder ((XC ts X.env).map (·.2)) us) (λ_ s'=>∃σ' H',Inv X Ux σ' H' s'/\Q σ' H') X.xe s
abbrev yc:=V->V->V->Hp->(Hp->Prop)->Prop
noncomputable def GB(X:Cx)(t:yc):Prop:=
 ∀(Ux:143)(s:UI)(σ:St)(H:Hp)(o i v:V)(ov iv u:UH)(Q:Hp->Prop),Inv X Ux σ H s->RelV o ov->RelV i iv->RelV v u->t o i v H Q->
  UZ 126 X.A (aeD ov iv u) (λ_ s'=>∃H',Inv X Ux σ H' s'/\Q H') X.xe s
abbrev MC:=V->V->Hp->VK->Prop
noncomputable def Rk(X:Cx)(op:afD)(t:MC):Prop:=
 ∀(Ux:143)(s:UI)(σ:St)(H:Hp)(x y:V)(v u:UH)(Q:VK),Inv X Ux σ H s->RelV x v->RelV y u->t x y H Q->
  UZ 126 X.A (abu op v u) (EP X Ux σ Q) X.xe s
section
variable{X:Cx}{pos:Pos}
def Jm(i:Nat):TG:=λv σ H Q=>Q (σ.set i (some v)) H
theorem Lx(hN:X.N.Nodup)(hi:X.N[i]?=some x)(hx:Loc X.env.scope x)(hf:151:=by first|exact .inl rfl|exact .inr rfl|assumption):PG X (.Name x pos) (Jm i):=by intro Ux s σ H v u Q I r h;exact wpAny_assign_Name (nN I hN hi hx r (λs' I'=>⟨_,H,I',h⟩) hf)
def ay:vF:=λvs σ H Q=>vs=[]/\Q σ H
def ah(t:TG)(u:vF):vF:=λvs σ H Q=>∃v r,vs=v::r/\t v σ H λσ' H'=>u r σ' H' Q
theorem Ly:ya X [] ay:=by intro Ux s σ H vs us Q I r h;obtain⟨e,h⟩:=h;subst e;cases r;exact assignInOrder_nil ⟨σ,H,I,h⟩
theorem HV{e:VC}{es:List VC}{t:TG}{u:vF}(h1:PG X e t)(h2:ya X es u)
  (hs:autoParam ((XC (e::es) X.env).map (·.2)=assign e X.env::(XC es X.env).map (·.2)) zzA._auto_1):ya X (e::es) (ah t u):=by
 intro Ux s σ H vs us Q I r h;obtain⟨v,vr,e1,h⟩:=h;subst e1;cases r with
 |cons r rr=>
  rw[hs];refine assignInOrder_cons (bO (h1 Ux s σ H _ _ _ I r h) λ_ s1 ⟨σ1,H1,I1,q1⟩=>?_);exact h2 Ux s1 σ1 H1 _ _ Q I1 rr q1
def bN(K:UG)(n:Nat)(t:vF):TG:=λv σ H Q=>∃a xs,v=.ref a/\eZ K H a xs/\xs.length=n/\t xs σ H Q
theorem N4(hc:X.calm=true)(h:ya X es t)
 (hn:autoParam ((XC es X.env).length=n) zzA._auto_1) (hst:autoParam ((XC es X.env).findIdx? (·.1)=none) zzA._auto_1):PG X (.Tuple es k pos) (bN X.K n t):=by intro Ux s σ H v u Q I r hw;obtain⟨a,xs,e1,hq,hl,hw⟩:=hw;subst e1;cases r;obtain⟨Uy,rv,ht,hz⟩:=I.tuple hq;refine assign_Tuple_tuple (I.ok.hd hc) ht (by simp[hn,<-hl,rv.length]) hst λh' hx=>?_;have I1:Inv X Ux σ H {s with heap:=h'}:=I.kept (t':=s.toks) λb o e=>hx b o (U4 (UY e)) e;exact h Ux _ σ H xs _ Q I1 (by simpa using rv) hw
def QH(to ti:TE)(t:yc):TG:=λv σ H Q=>to σ H λo H1=>ti σ H1 λi H2=>t o i v H2 λH3=>Q σ H3
theorem FD{o i:VC}{to ti:TE}{t:yc}(ho:PE X o to)(hi:PE X i ti)(hs:GB X t)
  (ha:∀v,assign (.Subscript o i pos) X.env v=(do
   let ov <-holding [v] (eval o X.env)
   let iv <-holding [v,ov] (eval i X.env)
   Ye pos
   holding [v,ov,iv] (aeD ov iv v)
   release [v,ov,iv] []):=by intro _;rfl):PG X (.Subscript o i pos) (QH to ti t):=by intro Ux s σ H v u Q I r h;rw[ha];refine UE (VG (bO (ho Ux s σ H _ I h) λov s1 ⟨x,H1,I1,r1,q1⟩=>?_));refine UE (VG (bO (hi Ux s1 σ H1 _ I1 q1) λiv s2 ⟨y,H2,I2,r2,q2⟩=>?_));refine UE (Xm (UE (VG (bO (hs Ux s2 σ H2 x y v ov iv u _ I2 r1 r2 r q2) λ_ s3 ⟨H3,I3,q3⟩=>?_))));exact wpAny_release ⟨σ,H3,I3,q3⟩
def IB(te:TE)(g:TG):TS:=λD σ H=>te σ H λx H1=>g x σ H1 D.nx
theorem zu{tg e:VC}{te:TE}{g:TG}(he:PE X e te)(hg:PG X tg g)(hs:autoParam (ZU [tg] e pos.line X.env=pure false) zzA._auto_1)(hw:autoParam (aaQ [tg] e X.env=pure none) zzA._auto_1)
  (h1:autoParam ((XC [tg] X.env).map (·.2)=[assign tg X.env]) zzA._auto_1):PS X (.Assign [tg] e pos) (IB te g):=by intro Ux s σ H D I h;refine wpAny_Assign_stores (bO (he Ux s σ H _ I h) λv s1 ⟨x,H1,I1,r1,q1⟩=>?_) hs hw;rw[h1];exact bO (hg Ux s1 σ H1 x v _ I1 r1 q1) λ_ s2 q=>q
theorem mR{i:Nat}{x:Str}{e:VC}{te:TE}{pos':Pos}(hN:X.N.Nodup)(hi:X.N[i]?=some x)(hx:Loc X.env.scope x)(he:PE X e te)(hs:autoParam (Xj e (some (.Name x pos')) pos.line X.env=pure false) zzA._auto_1)(hf:151:=by first|exact .inl rfl|exact .inr rfl|assumption):
  PS X (.Assign [.Name x pos'] e pos) (IB te (Jm i)):=by intro Ux s σ H D I h;refine wpAny_Assign_Name (bO (he Ux s σ H _ I h) λv s1 ⟨y,H1,I1,r1,q1⟩=>?_) hs;exact nN I1 hN hi hx r1 (λs2 I2=>⟨_,H1,I2,q1⟩) hf
def Q7(i:Nat)(te:TE)(ti:MC):TS:=λD σ H=>∃x,σ[i]?=some (some x)/\te σ H λy H1=>ti x y H1 λz H2=>D.nx (σ.set i (some z)) H2
theorem N5{i:Nat}{x:Str}{e:VC}{te:TE}{op:afD}{ti:MC}{pos':Pos}(hN:X.N.Nodup)(hi:X.N[i]?=some x)(hx:Loc X.env.scope x)(he:PE X e te)(ho:Rk X op ti)(hf:151:=by first|exact .inl rfl|exact .inr rfl|assumption):
  PS X (.AugAssign (.Name x pos') op e pos) (Q7 i te ti):=by
 intro Ux s σ H D I h;obtain⟨v,e1,h⟩:=h;obtain⟨m,hn,hl⟩:=I.loc;have vis:jK X.env.scope x:=by rcases hx with k|k;exact .inl k;exact .inr (.inl k)
 obtain⟨u,r,l⟩:=hl i x v hi e1 vis;refine wpAny_AugAssign_Name ?_;have go:UZ 126 X.A (eval e X.env) (λw s₂=>UZ 126 X.A (abu op u w) (λr s₃=>UZ 126 X.A (aeX X.env x r) (λ_=>SP X Ux D .next) X.xe s₃) X.xe s₂) X.xe s:=by refine bO (he Ux s σ H _ I h) λw s1 ⟨y,H1,I1,r1,q1⟩=>?_;refine bO (ho Ux s1 σ H1 v y u w _ I1 r r1 q1) λz s2 ⟨zv,H2,I2,r2,q2⟩=>?_;exact nN I2 hN hi hx r2 (λs3 I3=>⟨_,H2,I3,q2⟩) hf
 rcases l with⟨hk,hm⟩|⟨hk,c,hc,hcell⟩
 ·exact abX I.ok.kind hk hn hm go
 ·rcases hk with hk|hk
  ·exact ab9 I.ok.kind hk hc hcell go
  ·rcases hx with k|k
   ·have:X.env.scope.names.lookup x=some .free:=hk;rw[k]at this;cases this
   ·have:X.env.scope.names.lookup x=some .free:=hk;rw[k]at this;cases this
noncomputable def OH(c:TT)(tb:TS):TS:=λD σ H=>∃W:Nat->St->Hp->Prop,(∃m,W m σ H)/\∀m σ H,W m σ H->
 c σ H λb H1=>if b=true then ∃N:St->Hp->Prop,(∀σ' H',N σ' H'->∃m',m'<m/\W m' σ' H')/\tb {D with nx:=N,ct:=N,bk:=D.nx} σ H1 else D.nx σ H1
theorem H_{c:VC}{body:List Xq}{tc:TT}{tb:TS}(hp:adO 126 X.A X.env X.xe)(hc:PT X c tc)(hb:iQ X body tb):PS X (.While c body [] pos) (OH tc tb):=by
 intro Ux s σ H D I h;obtain⟨W,⟨m0,w0⟩,turn⟩:=h;refine wpAny_While (codeAny_whileLoop (λn s'=>∃σ' H',Inv X Ux σ' H' s'/\W n σ' H') ?_ m0 ⟨σ,H,I,w0⟩);rintro n s1 ⟨σ1,H1,I1,w1⟩;refine XZ hp (bO (hc Ux s1 σ1 H1 _ I1 (turn n σ1 H1 w1)) λb s2 ⟨H2,I2,q2⟩=>?_);cases b with
 |true=>
  obtain⟨N,hN,q2⟩:=q2;rw[if_pos rfl];refine XZ hp (bO (hb Ux s2 σ1 H2 _ I2 q2) λf s3 q3=>?_);cases f with
  |next=>
   obtain⟨σ3,H3,I3,n3⟩:=q3;obtain⟨m',hm,w3⟩:=hN σ3 H3 n3;exact⟨m',hm,σ3,H3,I3,w3⟩
  |cont=>
   obtain⟨σ3,H3,I3,n3⟩:=q3;obtain⟨m',hm,w3⟩:=hN σ3 H3 n3;exact⟨m',hm,σ3,H3,I3,w3⟩
  |brk=>exact q3
  |ret v=>exact q3
 |false=>
  rw[if_neg VV];exact Z1 ⟨σ1,H2,I2,q2⟩
end
structure It where
 go:Nat->Hp->Prop
 yld:Nat->Hp->V->Hp->Prop
 stop:Nat->Hp->Prop
noncomputable def jG(X:Cx)(Ux:143)(H:Hp)(b:UX):Prop:=
 H b=none/\b≠X.env.locals/\b∉X.fs/\(b∈X.ex\/X.s₀.heap.objs.size<=b)/\(∀x c,X.env.cells.lookup x=some c->c≠b)/\∀p∈X.pn++Ux,p.1≠b
theorem Inv.fpOk{H H':Hp}{s:UI}(I:135)(hb:s.heap.objs.size<=b)(hn:H' b=none):jG X Ux H' b:=by
 refine⟨hn,WX (U6 I.lt hb),I.nofs hb,.inr (Vr I.sz hb),λx c e z=>?_,λp hp z=>?_⟩
 ·obtain⟨v,q⟩:=I.cell x c e;exact absurd (U6 q.lt (by rw[z];exact hb)) (Ws _)
 ·exact absurd (U6 (UY (I.pin p hp).1) (by rw[z];exact hb)) (Ws _)
structure Turn(P:U0)(w:Vj)(K:UG)(tg:VC)(J:It)(fp:List UX)(it:UX)(tn:Nat->VU->Prop):Prop where
 mem:it∈fp
 obj:∀i h,tn i h->∀b∈fp,∃o,h.get? b=some o/\∀v,o.data≠.cell v
 keep:∀i h h',tn i h->(∀b∈fp,∀o,h.get? b=some o->h'.get? b=some o)->tn i h'
 item:∀(X:Cx),X.prog=P->X.w=w->X.K=K->X.calm=true->∀(i:Nat)(Ux:143)(s:UI)(σ:St)(H:Hp)(E:136),Inv X Ux σ H s->(∀b∈fp,jG X Ux H b)->tn i s.heap->J.go i H->
  UZ (U9 P w) X.A (YM (.ref it)) (λr s1=>∃u,r=some u/\
   UZ (U9 P w) X.A (X3 tg (.ref it) u) (λ_ s2=>∃x H',Inv X Ux σ H' s2/\RelV x u/\J.yld i H x H'/\tn (i+1) s2.heap/\∀b∈fp,H' b=none) E s1) E s
 done:∀(X:Cx),X.prog=P->X.w=w->X.K=K->X.calm=true->∀(i:Nat)(Ux:143)(s:UI)(σ:St)(H:Hp)(E:136),Inv X Ux σ H s->(∀b∈fp,jG X Ux H b)->tn i s.heap->J.stop i H->
  UZ (U9 P w) X.A (YM (.ref it)) (λr s1=>r=none/\Inv X Ux σ H s1) E s
 self:∀(A:Vw)(i:Nat)(s:UI)(Q:136)(E:136),tn i s.heap->Q (.ref it) s->UZ (U9 P w) A (aa5 (.ref it)) Q E s
abbrev TI:=St->Hp->(It->Hp->Prop)->Prop
noncomputable def P_(X:Cx)(Ux:143)(σ:St)(tg:VC)(R:It->Hp->Prop)(itv:UH)(s2:UI):Prop:=
 ∃(it:UX)(fp:List UX)(tn:Nat->VU->Prop)(J:It)(H':Hp),itv=.ref it/\Inv X Ux σ H' s2/\Turn X.prog X.w X.K tg J fp it tn/\tn 0 s2.heap/\(∀b∈fp,jG X Ux H' b)/\R J H'
noncomputable def PI(X:Cx)(tg UA:VC)(wi:TI):Prop:=
 ∀(Ux:143)(s:UI)(σ:St)(H:Hp)(R:It->Hp->Prop),Inv X Ux σ H s->wi σ H R->
  UZ 126 X.A (eval UA X.env) (λv s1=>UZ 126 X.A (aa5 v) (P_ X Ux σ tg R) X.xe s1) X.xe s
theorem CG{M:ab8}{E:136}{s:UI}{o:Obj}{Q:347}(ho:s.heap.get? it=some o)(hc:o.cls=.type n)(hd:o.data=.fields vs)
 (hn:["enumerate","zip","dict_itemiterator","dict_reverseitemiterator","odict_iterator","itertools.zip_longest","itertools.pairwise"].contains n=false) (hQ:Q () s):UZ M A (X3 tg (.ref it) u) Q E s:=by
 unfold X3;cases tg<;>first
  |exact UJ hQ
  |(cases u<;>first
    |exact UJ hQ
    |(refine UE (aer ho ?_);rw[hc,hd];show UZ M A (if(["enumerate","zip","dict_itemiterator","dict_reverseitemiterator","odict_iterator","itertools.zip_longest","itertools.pairwise"].contains n&&vs[0]?==some (abv _))=true then _ else _) Q E s;rw[if_neg (by intro h;rw[hn,Bool.false_and]at h;cases h)];exact UJ hQ))
noncomputable def IJ(K:UG)(a:UX):It:=
 ⟨λi H=>∃xs x,cY K H a xs/\xs[i]?=some x,λi H x H'=>H'=H/\∀xs,cY K H a xs->xs[i]?=some x,λi H=>∃xs,cY K H a xs/\xs.length<=i⟩
noncomputable def IL(K:UG)(a:UX):It:=
 ⟨λi H=>∃xs x,eZ K H a xs/\xs[i]?=some x,λi H x H'=>H'=H/\∀xs,eZ K H a xs->xs[i]?=some x,λi H=>∃xs,eZ K H a xs/\xs.length<=i⟩
def IK(lo:Int)(n:Nat):It:=⟨λi _=>i<n,λi H x H'=>H'=H/\x=.int (lo+i),λi _=>n<=i⟩
theorem Gk{P:U0}{w:Vj}{K:UG}{tg:VC}(a it:UX):Turn P w K tg (IJ K a) [it] it (λi h=>h.IsListIter it a i) where
 mem:=by simp
 obj:=λi h st b hb=>by
  have e:b=it:=by simpa using hb
  subst e;obtain⟨o,e,c,d⟩:=st;exact⟨o,e,λv z=>by rw[d]at z;cases z⟩
 keep:=λi h h' st k=>st.at λo e=>k it 229 o e
 item:=by intro X hP hw hK hc i Ux s σ H E I hf st hg;subst hP hw hK;obtain⟨xs,x,hq,hx⟩:=hg;obtain⟨Uy,rv,p,hz⟩:=I.list hq;obtain⟨u,hu,ru⟩:=rv.get hx;obtain⟨f0,f1,f2,f3,f4,f5⟩:=hf it 229;refine wpAny_pyNext_list_item st p.isList (x:=u) (by simpa using hu) λh' st' sb=>?_;have I1:Inv X Ux σ H {s with heap:=h'}:=I.turned (t':=s.toks) (λb o hb e=>(sb.2 b hb).trans e) f0 f1 f3 f4 f5;obtain⟨o,e,c,d⟩:=id st';exact⟨u,rfl,CG (s:={s with heap:=h'}) e c d 120 ⟨x,H,I1,ru,⟨rfl,λys hy=>by rw[I.list_inj hy hq];exact hx⟩,st',λb hb=>(hf b hb).1⟩⟩
 done:=by intro X hP hw hK hc i Ux s σ H E I hf st hg;subst hP hw hK;obtain⟨xs,hq,hx⟩:=hg;obtain⟨Uy,rv,p,hz⟩:=I.list hq;obtain⟨f0,f1,f2,f3,f4,f5⟩:=hf it 229;have hl:=rv.length;exact wpAny_pyNext_list_end (I.ok.hd hc) st p.isList (by simp;omega) λh' eb=>⟨rfl,I.turned (t':=s.toks) (λb o hb e=>eb b o hb e) f0 f1 f3 f4 f5⟩
 self:=λ_ _ _ _ _ st h=>wpAny_pyIter_listiter st h
theorem DJ{P:U0}{w:Vj}{K:UG}{tg:VC}(a it:UX):Turn P w K tg (IL K a) [it] it (λi h=>h.IsTupleIter it a i) where
 mem:=by simp
 obj:=λi h st b hb=>by
  have e:b=it:=by simpa using hb
  subst e;obtain⟨o,e,c,d⟩:=st;exact⟨o,e,λv z=>by rw[d]at z;cases z⟩
 keep:=λi h h' st k=>st.at λo e=>k it 229 o e
 item:=by intro X hP hw hK hc i Ux s σ H E I hf st hg;subst hP hw hK;obtain⟨xs,x,hq,hx⟩:=hg;obtain⟨Uy,rv,p,hz⟩:=I.tuple hq;obtain⟨u,hu,ru⟩:=rv.get hx;obtain⟨f0,f1,f2,f3,f4,f5⟩:=hf it 229;refine wpAny_pyNext_tuple_item st (show s.heap.IsTuple a Uy.toArray from p) (x:=u) (by simpa using hu) λh' st' sb=>?_;have I1:Inv X Ux σ H {s with heap:=h'}:=I.turned (t':=s.toks) (λb o hb e=>(sb.2 b hb).trans e) f0 f1 f3 f4 f5;obtain⟨o,e,c,d⟩:=id st';exact⟨u,rfl,CG (s:={s with heap:=h'}) e c d 120 ⟨x,H,I1,ru,⟨rfl,λys hy=>by rw[I.tuple_inj hy hq];exact hx⟩,st',λb hb=>(hf b hb).1⟩⟩
 done:=by intro X hP hw hK hc i Ux s σ H E I hf st hg;subst hP hw hK;obtain⟨xs,hq,hx⟩:=hg;obtain⟨Uy,rv,p,hz⟩:=I.tuple hq;obtain⟨f0,f1,f2,f3,f4,f5⟩:=hf it 229;have hl:=rv.length;exact wpAny_pyNext_tuple_end (I.ok.hd hc) st (show s.heap.IsTuple a Uy.toArray from p) (by simp;omega) λh' eb=>⟨rfl,I.turned (t':=s.toks) (λb o hb e=>eb b o hb e) f0 f1 f3 f4 f5⟩
 self:=λ_ _ _ _ _ st h=>wpAny_pyIter_tupleiter st h
theorem DI{P:U0}{w:Vj}{K:UG}{tg:VC}(it:UX)(lo:Int)(n:Nat):Turn P w K tg (IK lo n) [it] it (λi h=>IsRangeIter h it (lo+(i:Nat)*1) ((n:Int)-(i:Nat)) 1) where
 mem:=by simp
 obj:=λi h st b hb=>by
  have e:b=it:=by simpa using hb
  subst e;exact⟨_,st,λv z=>by
   have z':Data.fields _=Data.cell v:=z;cases z'⟩
 keep:=λi h h' st k=>k it 229 _ st
 item:=by intro X hP hw hK hc i Ux s σ H E I hf st hg;subst hP hw hK;obtain⟨f0,f1,f2,f3,f4,f5⟩:=hf it 229;have W:=Walks.range (prog:=X.prog) (w:=X.w) (I.ok.hd hc) it lo 1 n;refine W.item i s _ _ hg st λv h' tk hv st' kk=>?_;obtain⟨t,rfl⟩:=hv;have I1:Inv X Ux σ H {s with heap:=h',toks:=tk}:=I.turned (λb o hb e=>kk b o (by simpa using hb) e) f0 f1 f3 f4 f5;refine⟨_,rfl,CG (s:={s with heap:=h',toks:=tk}) (n:="range_iterator") st' rfl rfl 120 ⟨.int (lo+i),H,I1,⟨t,?_⟩,⟨rfl,rfl⟩,st',λb hb=>(hf b hb).1⟩⟩;rw[Int.mul_one]
 done:=by intro X hP hw hK hc i Ux s σ H E I hf st hg;subst hP hw hK;obtain⟨f0,f1,f2,f3,f4,f5⟩:=hf it 229;exact wpAny_pyNext_range_end (I.ok.hd hc) st (by have:n<=i:=hg;omega) λh' eb=>⟨rfl,I.turned (t':=s.toks) (λb o hb e=>eb b o hb e) f0 f1 f3 f4 f5⟩
 self:=λ_ _ _ _ _ st h=>wpAny_pyIter_rangeiter st h
section
variable{X:Cx}{tg:VC}
theorem Io{Ux:143}{σ:St}{H:Hp}{s:UI}{R:It->Hp->Prop}{E:136}{lo hi:Int}{t u v:Tok}{tk:Nat}(I:135)(h1:-(2^62)<=lo)(h2:lo<2^62)(h3:-(2^62)<=hi)(h4:hi<2^62)
  (q:R (IK lo (hi-lo).toNat) H):UZ 126 X.A (aa5 236) (P_ X Ux σ tg R) E {s with heap:=s.heap.push {cls:=.type "range",data:=.fields #[.int lo t,.int hi u,.int 1 v]},toks:=tk}:=by
 refine wpAny_pyIter_range (IsRange.new ..) (small_one h1 h2 h3 h4) ?_;have I1:Inv X Ux σ H {s with heap:=s.heap.push {cls:=.type "range",data:=.fields #[.int lo t,.int hi u,.int 1 v]},toks:=tk}:=I.kept λb o e=>UK _ e;refine⟨(s.heap.push {cls:=.type "range",data:=.fields #[.int lo t,.int hi u,.int 1 v]}).objs.size,[(s.heap.push {cls:=.type "range",data:=.fields #[.int lo t,.int hi u,.int 1 v]}).objs.size],_,_,H,rfl,
  I1.kept (t':=tk) λb o e=>UK _ e,DI _ lo (hi-lo).toNat,?_,λb hb=>?_,q⟩
 ·have e1:lo+((0:Nat):Int)*1=lo:=by simp
  have e2:(((hi-lo).toNat:Nat):Int)-((0:Nat):Int)=aeE lo hi 1:=by rw[rangeSize_one];split<;>omega
  show IsRangeIter _ _ (lo+((0:Nat):Int)*1) ((((hi-lo).toNat:Nat):Int)-((0:Nat):Int)) 1;rw[e1,e2];exact US _ rfl
 ·have e:b=(s.heap.push {cls:=.type "range",data:=.fields #[.int lo t,.int hi u,.int 1 v]}).objs.size:=by simpa using hb
  subst e;exact I1.fpOk (UW _) (I1.hok.fresh (UW _))
def O6(ta:TA):TI:=λσ H R=>ta σ H λvs H1=>∃j:Int,vs=[.int j]/\-(2^62)<=j/\j<2^62/\R (IK 0 j.toNat) H1
theorem FG{a:VC}{ta:TA}{p pos:Pos}(hg:Gl X "range")(hm:X.mg "range"=none)(ha:PA X [a] ta)(hs:autoParam (UP [a] X.env=[(false,eval a X.env)]) zzA._auto_1):PI X tg (.Call (.Name "range" p) [a] [] pos) (O6 ta):=by
 intro Ux s σ H R I h;refine Call_ (oY I hg hm boot_range (Z2 (bO (ha pos Ux s σ H _ I h) λus s1 ⟨vs,H1,I1,r1,q1⟩=>?_) hs rfl));obtain⟨j,e,q1,q2,q⟩:=q1;subst e;cases r1 with
 |cons r rr=>
  cases rr;obtain⟨t,rfl⟩:=r;exact call_range_1 (Io I1 112 112 q1 q2 (by simpa using q))
noncomputable def Q9(wi:TI)(g:TG)(tb:TS):TS:=λD σ H=>wi σ H λJ H1=>∃W:Nat->Nat->St->Hp->Prop,(∃m,W 0 m σ H1)/\∀i m σ H,W i m σ H->
 (J.stop i H/\D.nx σ H)\/(J.go i H/\∃N:St->Hp->Prop,(∀σ' H',N σ' H'->∃m',m'<m/\W (i+1) m' σ' H')/\∀x H',J.yld i H x H'->g x σ H' λσ2 H2=>tb {D with nx:=N,ct:=N,bk:=D.nx} σ2 H2)
def o6(fp:List UX)(h:VU):List (UX×Obj):=fp.filterMap λb=>(h.get? b).map λo=>(b,o)
theorem jP{h:VU}(hb:b∈fp)(e:h.get? b=some o):(b,o)∈o6 fp h:=Y_.mpr ⟨b,hb,by rw[e];rfl⟩
theorem Fe{h:VU}{p:UX×Obj}(hp:p∈o6 fp h):p.1∈fp/\h.get? p.1=some p.2:=by
 obtain⟨b,hb,e⟩:=Y_.mp hp;cases q:h.get? b with
 |none=>rw[q]at e;cases e
 |some o=>
  rw[q]at e;have e':(b,o)=p:=Ve e;subst e';exact⟨hb,q⟩
theorem Inv.pinned{H:Hp}{s:UI}(I:135)(hf:∀b∈fp,jG X Ux H b)(ho:∀b∈fp,∃o,s.heap.get? b=some o/\∀v,o.data≠.cell v):Inv X (Ux++o6 fp s.heap) σ H s:=
 I.pins_of λp hp=>(Vk.mp hp).elim (λz=>I.pin p (VJ _ z)) λz=>by obtain⟨hb,e⟩:=Fe z;obtain⟨f0,f1,f2,_⟩:=hf p.1 hb;obtain⟨o,e',d⟩:=ho p.1 hb;rw[e]at e';cases e';exact⟨e,f0,f1,f2,d⟩
theorem Inv.unpinned{H:Hp}(I:Inv X (Ux++pl) σ H s):Inv X Ux σ H s:=I.pins_of λp hp=>I.pin p (VJ _ (VR _ hp))
theorem N6{UA:VC}{body:List Xq}{wi:TI}{g:TG}{tb:TS}{pos:Pos}(hp:adO 126 X.A X.env X.xe)(hc:X.calm=true)(hi:PI X tg UA wi)(hg:PG X tg g)(hb:iQ X body tb)
  (hs:∀x,W3 UA X.env x=pure x:=by intro _;rfl):PS X (.For tg UA body [] pos) (Q9 wi g tb):=by
 intro Ux s σ H D I h;refine wpAny_For (bO (hi Ux s σ H _ I h) λv s1 h1=>bO h1 λitv s2 h2=>?_) hs;obtain⟨it,fp,tn,J,H2,e,I2,T,st2,f2,W,⟨m0,w0⟩,turn⟩:=h2;subst e;have stat:∀{H':Hp},(∀b∈fp,H' b=none)->∀b∈fp,jG X Ux H' b:=λhn b hb=>⟨hn b hb,(f2 b hb).2⟩;refine codeAny_forLoop_any (λn s'=>∃i σ' H',Inv X Ux σ' H' s'/\tn i s'.heap/\(∀b∈fp,H' b=none)/\W i n σ' H') ?_ m0 ⟨0,σ,H2,I2,st2,λb hb=>(f2 b hb).1,w0⟩;rintro n s3 ⟨i,σ3,H3,I3,st3,fr3,w3⟩;rcases turn i n σ3 H3 w3 with⟨stop,qn⟩|⟨go,N,hN,step⟩
 ·refine XZ hp (bO (T.done X rfl rfl rfl hc i Ux s3 σ3 H3 X.xe I3 (stat fr3) st3 stop) λr s4 ⟨hr,I4⟩=>?_);subst hr;exact Z1 ⟨σ3,H3,I4,qn⟩
 ·refine XZ hp (bO (T.item X rfl rfl rfl hc i Ux s3 σ3 H3 X.xe I3 (stat fr3) st3 go) λr s4 ⟨u,hr,h4⟩=>?_);subst hr;refine XZ hp (bO h4 λ_ s5 ⟨x,H5,I5,r5,y5,st5,fr5⟩=>?_);have I5':=I5.pinned (stat fr5) (T.obj _ _ st5);refine XZ hp (bO (hg _ s5 σ3 H5 x u _ I5' r5 (step x H5 y5)) λ_ s6 ⟨σ6,H6,I6,q6⟩=>?_);refine XZ hp (bO (hb _ s6 σ6 H6 _ I6 q6) λf s7 q7=>?_);have again:∀{σ7:St}{H7:Hp},Inv X (Ux++o6 fp s5.heap) σ7 H7 s7->N σ7 H7->∃m,m<n/\∃i σ' H',Inv X Ux σ' H' s7/\tn i s7.heap/\(∀b∈fp,H' b=none)/\W i m σ' H':=fun {σ7 H7} I7 n7=>by obtain⟨m',hm,w7⟩:=hN σ7 H7 n7;refine⟨m',hm,i+1,σ7,H7,I7.unpinned,T.keep _ _ _ st5 λb hb o e=>(I7.pin (b,o) (VJ _ (VJ _ (jP hb e)))).1,λb hb=>?_,w7⟩;obtain⟨o,e,d⟩:=T.obj _ _ st5 b hb;exact(I7.pin (b,o) (VJ _ (VJ _ (jP hb e)))).2.1
  cases f with
  |next=>obtain⟨σ7,H7,I7,n7⟩:=q7;exact again I7 n7
  |cont=>obtain⟨σ7,H7,I7,n7⟩:=q7;exact again I7 n7
  |brk=>obtain⟨σ7,H7,I7,q7⟩:=q7;exact⟨σ7,H7,I7.unpinned,q7⟩
  |ret v=>obtain⟨x7,σ7,H7,I7,r7,q7⟩:=q7;exact⟨x7,σ7,H7,I7.unpinned,r7,q7⟩
end
abbrev R2:=V->V->Hp->VK->Prop
noncomputable def dU(X:Cx)(f:UH->UH->Sem UH)(r:R2):Prop:=
 ∀(Ux:143)(s:UI)(σ:St)(H:Hp)(x y:V)(v u:UH)(Q:VK),Inv X Ux σ H s->RelV x v->RelV y u->r x y H Q->
  UZ 126 X.A (f v u) (EP X Ux σ Q) X.xe s
noncomputable def MD(X:Cx)(f:UH->Sem UH)(r:V->Hp->VK->Prop):Prop:=
 ∀(Ux:143)(s:UI)(σ:St)(H:Hp)(x:V)(v:UH)(Q:VK),Inv X Ux σ H s->RelV x v->r x H Q->
  UZ 126 X.A (f v) (EP X Ux σ Q) X.xe s
noncomputable def fc(X:Cx)(f:UH)(r:List V->Hp->VK->Prop):Prop:=
 ∀(Ux:143)(s:UI)(σ:St)(H:Hp)(xs:List V)(us:List UH)(Q:VK),Inv X Ux σ H s->Vals xs us->r xs H Q->
  UZ 126 X.A (call f us) (EP X Ux σ Q) X.xe s
noncomputable def Qu(X:Cx)(r:V->Hp->(Bool->Hp->Prop)->Prop):Prop:=
 ∀(Ux:143)(s:UI)(σ:St)(H:Hp)(x:V)(v:UH)(Q:Bool->Hp->Prop),Inv X Ux σ H s->RelV x v->r x H Q->
  UZ 126 X.A (truthy v) (TP X Ux σ Q) X.xe s
def Gf(r:R2)(ta tb:TE):TE:=λσ H Q=>ta σ H λx H1=>tb σ H1 λy H2=>r x y H2 Q
def RB(r:V->Hp->VK->Prop)(ta:TE):TE:=λσ H Q=>ta σ H λx H1=>r x H1 Q
def rI(C:Int->Int->Prop)(g:Int->Int->V):R2:=λx y H Q=>∃i j,x=.int i/\y=.int j/\C i j/\Q (g i j) H
def pq(g:Int->Int->V):R2:=λx y H Q=>∃i j,x=.int i/\y=.int j/\Q (g i j) H
def rU(g:Int->V):V->Hp->VK->Prop:=λx H Q=>∃i,x=.int i/\Q (g i) H
section
variable{X:Cx}{a b c:VC}{ta tb tc:TE}{pos:Pos}
theorem GK(ha:PE X a ta)(hb:PE X b tb){Ux:143}{s:UI}{σ:St}{H:Hp}{R:V->V->Hp->Prop}(I:135)
  (h:ta σ H λx H1=>tb σ H1 λy H2=>R x y H2){Q:136}{f:UH->UH->Sem UH}
  (hf:∀v u s2 x y H2,Inv X Ux σ H2 s2->RelV x v->RelV y u->R x y H2->UZ 126 X.A (f v u) Q X.xe s2):
  UZ 126 X.A (eval a X.env) (λv s₁=>UZ 126 X.A (eval b X.env) (λu s₂=>UZ 126 X.A (f v u) Q X.xe s₂) X.xe s₁) X.xe s:=by refine bO (ha Ux s σ H _ I h) λv s1 ⟨x,H1,I1,r1,q1⟩=>?_;refine bO (hb Ux s1 σ H1 _ I1 q1) λu s2 ⟨y,H2,I2,r2,q2⟩=>?_;exact hf v u s2 x y H2 I2 r1 r2 q2
theorem Pn(ho:dU X (Ys op) r)(ha:PE X a ta)(hb:PE X b tb):PE X (.BinOp a op b pos) (Gf r ta tb):=by intro Ux s σ H Q I h;exact wpAny_BinOp (GK ha hb I h λv u s2 x y H2 I2 rx ry q=>ho Ux s2 σ H2 x y v u Q I2 rx ry q)
theorem JB{r:V->Hp->VK->Prop}(ho:MD X (unaryOp op) r)(ha:PE X a ta):PE X (.UnaryOp op a pos) (RB r ta):=by intro Ux s σ H Q I h;exact UnaryOp_ (bO (ha Ux s σ H _ I h) λv s1 ⟨x,H1,I1,r1,q1⟩=>ho Ux s1 σ H1 x v Q I1 r1 q1)
theorem Qw(ho:dU X (abu op) r){H:Hp}{Q:VK}(I:135)
 (rx:RelV x v) (ry:RelV y u) (q:r x y H Q):UZ 126 X.A (abu op v u) (EP X Ux σ Q) X.xe s:=ho Ux s σ H x y v u Q I rx ry q
theorem Jy{f:UH->UH->Sem UH}{C:Int->Int->Prop}{g:Int->Int->Int}
  (rule:∀(i j:Int)(t u:Tok)(s:UI)(Q:136)(E:136),C i j->Q (.int (g i j) s.toks) {s with toks:=s.toks+1}->UZ 126 X.A (f (.int i t) (.int j u)) Q E s):
  dU X f (rI C λi j=>.int (g i j)):=by intro Ux s σ H x y v u Q I rx ry h;obtain⟨i,j,rfl,rfl,hc,q⟩:=h;obtain⟨t,rfl⟩:=rx;obtain⟨t',rfl⟩:=ry;exact rule i j t t' s _ _ hc ⟨.int (g i j),H,I.tok _,⟨_,rfl⟩,q⟩
theorem HM{f:UH->UH->Sem UH}{g:Int->Int->Int}
  (rule:∀(i j:Int)(t u:Tok)(s:UI)(Q:136)(E:136),Q (.int (g i j) s.toks) {s with toks:=s.toks+1}->UZ 126 X.A (f (.int i t) (.int j u)) Q E s):
  dU X f (pq λi j=>.int (g i j)):=by intro Ux s σ H x y v u Q I rx ry h;obtain⟨i,j,rfl,rfl,q⟩:=h;obtain⟨t,rfl⟩:=rx;obtain⟨t',rfl⟩:=ry;exact rule i j t t' s _ _ ⟨.int (g i j),H,I.tok _,⟨_,rfl⟩,q⟩
theorem HL{f:UH->UH->Sem UH}{g:Int->Int->Bool}
  (rule:∀(i j:Int)(t u:Tok)(s:UI)(Q:136)(E:136),Q (.bool (g i j)) s->UZ 126 X.A (f (.int i t) (.int j u)) Q E s):
  dU X f (pq λi j=>.bl (g i j)):=by intro Ux s σ H x y v u Q I rx ry h;obtain⟨i,j,rfl,rfl,q⟩:=h;obtain⟨t,rfl⟩:=rx;obtain⟨t',rfl⟩:=ry;exact rule i j t t' s _ _ ⟨.bl (g i j),H,I,rfl,q⟩
def Qp(i j:Int):Prop:=0<j/\j<1073741824
def Qq(i j:Int):Prop:=0<=j/\j<=1000000/\i.natAbs<2^64
def BK(i j:Int):Prop:=(-(2^64)<i/\i<2^64)\/(-(2^64)<j/\j<2^64)
theorem BK.ok(h:BK i j):IntMulOk i j:=by
 rcases h with⟨h1,h2⟩|⟨h1,h2⟩
 ·exact .of_left (aeF h1 h2)
 ·exact .of_right (aeF h1 h2)
theorem Ff:dU X (Ys .Add) (pq λi j=>.int (i+j)):=HM λ_ _ _ _ _ _ _ q=>add_int q
theorem NS:dU X (Ys .Sub) (pq λi j=>.int (i-j)):=HM λ_ _ _ _ _ _ _ q=>sub_int q
theorem NP:dU X (Ys .Mult) (rI BK λi j=>.int (i*j)):=Jy λ_ _ _ _ _ _ _ hc q=>mul_int q hc.ok
theorem Le:dU X (Ys .FloorDiv) (rI Qp λi j=>.int (i/j)):=Jy λi j _ _ _ _ _ hc q=>by have h1:(0:Int)<j:=hc.1;have h2:j<1073741824:=hc.2;exact floordiv_int 112 (by rw[Int.fdiv_eq_ediv_of_nonneg i 112];exact q) (.inl (PyProof.noPylong_small 112))
theorem NN:dU X (Ys .Mod) (rI (λ_ j=>0<j) λi j=>.int (i%j)):=Jy λi j _ _ _ _ _ hc q=>by have h1:(0:Int)<j:=hc;exact mod_int' 112 (by rw[Int.fmod_eq_emod_of_nonneg i 112];exact q)
theorem NR:dU X (Ys .Pow) (rI Qq λi j=>.int (i^j.toNat)):=Jy λ_ _ _ _ _ _ _ hc q=>pow_int_small hc.1 hc.2.1 hc.2.2 q
theorem KN:dU X (abu .Sub) (pq λi j=>.int (i-j)):=HM λ_ _ _ _ _ _ _ q=>isub_int q
theorem RC{f:UH->Sem UH}{g:Int->Int}
  (rule:∀(i:Int)(t:Tok)(s:UI)(Q:136)(E:136),Q (.int (g i) s.toks) {s with toks:=s.toks+1}->UZ 126 X.A (f (.int i t)) Q E s):
  MD X f (rU λi=>.int (g i)):=by intro Ux s σ H x v Q I rx h;obtain⟨i,rfl,q⟩:=h;obtain⟨t,rfl⟩:=rx;exact rule i t s _ _ ⟨.int (g i),H,I.tok _,⟨_,rfl⟩,q⟩
theorem Gq:MD X (unaryOp .USub) (rU λi=>.int (-i)):=RC λ_ _ _ _ _ q=>neg_int q
theorem Dh:dU X (W9 .Lt) (pq λi j=>.bl (decide (i<j))):=HL λ_ _ _ _ _ _ _ q=>lt_int q
theorem Pd:dU X (W9 .LtE) (pq λi j=>.bl (decide (i<=j))):=HL λ_ _ _ _ _ _ _ q=>le_int q
theorem xH:dU X (W9 .Gt) (pq λi j=>.bl (decide (j<i))):=HL λ_ _ _ _ _ _ _ q=>gt_int q
theorem dU.or{f:UH->UH->Sem UH}{r r':R2}(h:dU X f r)(h':dU X f r'):dU X f (λx y H Q=>r x y H Q\/r' x y H Q):=by
 intro Ux s σ H x y v u Q I rx ry q;rcases q with q|q
 ·exact h Ux s σ H x y v u Q I rx ry q
 ·exact h' Ux s σ H x y v u Q I rx ry q
theorem zh(b:VC)(h:autoParam (op≠.In) zzB._auto_1)(h2:autoParam (op≠.NotIn) zzB._auto_1):We op b=false:=by
 have e1:(op==afZ)=false:=by cases op<;>first|rfl|exact absurd rfl h
 have e2:(op==afi)=false:=by cases op<;>first|rfl|exact absurd rfl h2
 cases b<;>simp[We,e1,e2]
theorem Lr(ho:dU X (W9 op) r)(ha:PE X a ta)(hb:PE X b tb)(hm:We op b=false):PE X (.Compare a [op] [b] pos) (Gf r ta tb):=by intro Ux s σ H Q I h;exact wpAny_Compare1 (GK ha hb I h λv u s2 x y H2 I2 rx ry q=>ho Ux s2 σ H2 x y v u Q I2 rx ry q) hm
def PR(t:TE):TT:=λσ H Q=>t σ H λx H'=>∃k,x=.bl k/\Q k H'
theorem vq{op:CmpOp}{r:R2}(ho:dU X (W9 op) r)(ha:PE X a ta)(hb:PE X b tb)(hm:We op b=false):PT X (.Compare a [op] [b] pos) (PR (Gf r ta tb)):=by
 intro Ux s σ H Q I h;refine abr (bO (ha Ux s σ H _ I h) λv s1 ⟨x,H1,I1,r1,q1⟩=>bO (hb Ux s1 σ H1 _ I1 q1) λu s2 ⟨y,H2,I2,r2,q2⟩=>
  bO (ho Ux s2 σ H2 x y v u _ I2 r1 r2 q2) λc s3 ⟨z,H3,I3,r3,k,e,q3⟩=>?_) hm
 subst e;cases r3;exact W2 ⟨H3,I3,q3⟩
noncomputable def GC(K:UG)(x:V)(H:Hp)(k:Bool):Prop:=
 match x with
 | .non=>k=false
 | .bl b=>k=b
 | .int i=>k=(i != 0)
 | .str y=>y.length<=sizeLine/\k=((y.length:Int) != 0)
 | .byt y=>y.size<=sizeLine/\k=((y.size:Int) != 0)
 | .ref p=>(∃xs,cY K H p xs/\k=!xs.isEmpty)\/(∃xs,eZ K H p xs/\k=!xs.isEmpty)\/∃UC,H p=some (.dK UC)/\k=!UC.isEmpty
 |_=>False
theorem CK{κ:Type}{UC:List (κ×V)}{vs:List (κ×UH)}(r:KV UC vs):(!vs.isEmpty)=!UC.isEmpty:=by cases r<;>rfl
theorem tV{xs:List V}{Uy:List UH}(r:Vals xs Uy):(!Uy.toArray.isEmpty)=!xs.isEmpty:=by cases r<;>simp
theorem mL:(sizeLine:Nat)<2^63:=by rw[V6];decide
theorem OJ:Qu X (λx H Q=>∃k,GC X.K x H k/\Q k H):=by
 intro Ux s σ H x v Q I rx h;obtain⟨k,e,q⟩:=h;have hl:=mL;have hs:sizeLine=16777216:=V6;cases x with
 |non=>
  cases rx;have e':k=false:=e;subst e';exact truthy_none ⟨H,I,q⟩
 |bl b=>
  cases rx;have e':k=b:=e;subst e';exact W2 ⟨H,I,q⟩
 |int i=>
  obtain⟨t,rfl⟩:=rx;have e':k=(i != 0):=e;subst e';exact PySem.P.truthy_int ⟨H,I,q⟩
 |str y=>
  obtain⟨t,rfl⟩:=rx;obtain⟨hy,e'⟩:y.length<=sizeLine/\k=((y.length:Int) != 0):=e;subst e';exact PySem.P.truthy_str 112 ⟨H,I.tok _,q⟩
 |byt y=>
  obtain⟨t,rfl⟩:=rx;obtain⟨hy,e'⟩:y.size<=sizeLine/\k=((y.size:Int) != 0):=e;subst e';exact W.truthy_bytes 112 ⟨H,I.tok _,q⟩
 |ref p=>
  cases rx;have e':(∃xs,cY X.K H p xs/\k=!xs.isEmpty)\/(∃xs,eZ X.K H p xs/\k=!xs.isEmpty)\/∃UC,H p=some (.dK UC)/\k=!UC.isEmpty:=e;rcases e' with⟨xs,hx,e'⟩|⟨xs,hx,e'⟩|⟨UC,hx,e'⟩
  ·subst e';obtain⟨Uy,r,pl,hz⟩:=I.list hx;have hlen:=r.length;exact wpAny_truthy_list pl.isList (by simp only[U5];omega) ⟨H,I.tok _,by rw[tV r];exact q⟩
  ·subst e';obtain⟨Uy,r,pl,hz⟩:=I.tuple hx;have hlen:=r.length;exact truthy_tuple pl (by simp only[U5];omega) ⟨H,I.tok _,by rw[tV r];exact q⟩
  ·subst e';obtain⟨hz,hS,vs,r,m⟩:UC.length<=sizeLine/\(p==V5)=false/\∃vs,KV UC vs/\s.heap.DictOf (er X.prog X.w) p vs:=I.hok p _ hx;have hlen:UC.length=vs.length:=aaO r;exact wpAny_truthy_dict hS m 112 ⟨H,I.tok _,by rw[CK r];exact q⟩
 |_=>exact(show False from e).elim
theorem Ia(ha:PE X a ta)(he:∀whole,acn a X.env whole=(do let v <-whole;Ye a.pos;holding [v] (truthy v))):
  PT X a (λσ H Q=>ta σ H λx H'=>∃k,GC X.K x H' k/\Q k H'):=by intro Ux s σ H Q I h;exact isTrue_plain (bO (ha Ux s σ H _ I h) λv s1 ⟨x,H1,I1,r1,q1⟩=>OJ Ux s1 σ H1 x v Q I1 r1 q1) (he _)
theorem t9:dU X (Ys .Add) (λx y H Q=>∃i j,x=.str i/\y=.str j/\i.length+j.length<=sizeLine/\Q (.str (i++j)) H):=by intro Ux s σ H x y v u Q I rx ry h;obtain⟨i,j,rfl,rfl,hz,q⟩:=h;obtain⟨t,rfl⟩:=rx;obtain⟨t',rfl⟩:=ry;exact add_str (λt' tk=>⟨.str (i++j),H,I.tok _,⟨_,rfl⟩,q⟩) hz
theorem vals1(r:Vals [x] us):∃u,us=[u]/\RelV x u:=by
 cases r with
 |cons r1 r2=>cases r2;exact⟨_,rfl,r1⟩
theorem vals2(r:Vals [x,y] us):∃u w',us=[u,w']/\RelV x u/\RelV y w':=by
 cases r with
 |cons r1 r2=>
  cases r2 with
  |cons r3 r4=>cases r4;exact⟨_,_,rfl,r1,r3⟩
end
structure uN(h:VU)(x dx C:UX)(mA:145):Prop where
 obj:h.get? x=some (Xr C dx)
 ns:h.Ns1 dx mA
 ne:dx≠x
theorem E7{h:VU}{dx:UX}{mA:145}(n:h.Ns1 dx mA):∃od,h.get? dx=some od/\∀name,YN name od=some (mA name):=by
 obtain⟨o,es,ep,ho,hd,hk,_,hm⟩:=n;refine⟨o,ho,λname=>?_⟩;have e:=hm name;unfold aaD findBy at e;rw[<-aco]at e;unfold YN;rw[hd];dsimp only;split
 ·rename_i y q;rw[q]at e;exact congrArg some e
 ·rename_i q;rw[q]at e;have a:es.toList.any (·.refKey)=false:=by rw[acN];intro y hy;obtain⟨z,t,hkey⟩:=hk y (Array.mem_toList_iff.mp hy);simp[afS,hkey]
  have a':¬es.toList.any (·.refKey)=true:=by rw[a];exact VV
  rw[if_neg a'];exact congrArg some e
theorem uN.look{h:VU}{x dx C:UX}{mA:145}(I:uN h x dx C mA):∃od,Xn h x (Xr C dx) C (some od)/\∀name,YN name od=some (mA name):=
 let ⟨od,ho,hl⟩:=E7 I.ns
 ⟨od,⟨I.obj,rfl,rfl,ho⟩,hl⟩
section
variable{prog:U0}{w:Vj}{A:Vw}{E:UH->UI->Prop}{s:UI}{K:UG}{x dx C f:UX}{mA:Str->Option UH}{name:Str}{v:UH}
theorem get_map{expr:Bool}{Q:136}(X:K.In s.heap)(I:uN s.heap x dx C mA)(hg:ZK K C name=true)(hh:Zr K C=true)
  (ha:U7 K 241 name=some none) (hv:mA name=some v) (hv':Yk v=true) (h:Q v {s with toks:=s.toks+1}):
  UZ 139 A (aeG (.ref x) name expr) Q E s:=by obtain⟨od,J,hl⟩:=I.look;exact W.get_value X J (W.plainGet_of hg).1 (W.findObj_own hh ha rfl (by rw[hl,hv])) hv' h
theorem LZ{ns:131}{Q:347}(X:K.In s.heap)(I:uN s.heap x dx C mA)
  (hs:U7 K 241 "__setattr__"=some (some (.builtin "object.__setattr__"))) (hp:aaE K C=true) (ht:abw K C name=some none) (hh:Zr K C=true)
  (hw:adl mA ns) (hsz:ns.length<=sizeLine)
  (h:∀h',uN h' x dx C (λy=>if y=name then some v else mA y)->WN dx s.heap h'->Q () {s with heap:=h',toks:=s.toks+2}):
  UZ 139 A (afj (.ref x) name v) Q E s:=by obtain⟨od,J,hl⟩:=I.look;refine W.set_plain X J hs (W.osa_open (s:={s with toks:=s.toks+1}) (r:=none) X J hp ht λb=>?_);obtain⟨cd,hc,hd'⟩:=W.any_some hh;have hx:s.heap.get? x=some ⟨.ref C,some dx,.plain,#[]⟩:=I.obj;refine UE (UJ (UE (UE (aec hx (UE (afE (s:={s with toks:=s.toks+1}) (W.looks_clsIn X hc) ?_))))));rw[hd'];refine UJ (a:=some dx) (UE (UJ (UE ?_)));refine wpAny_nsSet1 (s:={s with toks:=s.toks+1}) I.ns λh' hn2 hs2=>?_;obtain⟨oD,esD,epD,Ul,Uc,Ub⟩:=hn2.count (afO name v hw);refine UE (adv Ul (by rw[Uc];exact adw (Vr Ub (by rw[Vt];omega))) ?_);exact UJ (h _ ⟨(hs2.2 _ (VF I.ne)).trans I.obj,hn2,I.ne⟩ hs2)
theorem HA{R:aa6->UI->Prop}{vs:List UH}{kw:List (Str×UH)}(X:K.In s.heap)(hm:abx K C=true)
  (hi:U7 K 241 "__init__"=some (some 344)) (hf:YO K 344=some (.type "function"))
  (h:WC 139 (A.under (.builtin "type.__call__" ⟨.ref C::vs,kw⟩)) (.call 344 ⟨.ref 155::vs,kw⟩) (W.InitBack 155 R)
   {s with heap:=(s.heap.push WO).push (Xr C s.heap.objs.size)}):
  WC 139 A (.call 241 ⟨vs,kw⟩) R s:=by obtain⟨hh,g,d,t,os⟩:=s;exact W.make_core (W.makes_of X hm) (ZP X hi) (λself=>W.bind_fn X self hf) 394 h
end
noncomputable def gj(f:Str)(v:V):List (Str×V)->List (Str×V)
 |[]=>[(f,v)]
 |(g,x)::r=>if g=f then(g,v)::r else(g,x)::gj f v r
theorem qO(f g:Str)(v:V):∀fs:List (Str×V),(gj f v fs).lookup g=if g=f then some v else fs.lookup g
 |[]=>by
  show XQ g [(f,v)]=_;by_cases h:g=f
  ·have hb:(g==f)=true:=beq_iff_eq.mpr h;simp only[XQ,hb,if_pos h]
  ·have hb:(g==f)=false:=beq_eq_false_iff_ne.mpr h;simp only[XQ,hb,if_neg h]
 |(k,x)::r=>by
  have ih:=qO f g v r;rw[show gj f v ((k,x)::r)=(if k=f then(k,v)::r else(k,x)::gj f v r)from rfl];by_cases hk:k=f
  ·rw[if_pos hk];by_cases h:g=k
   ·have hb:(g==k)=true:=beq_iff_eq.mpr h;simp only[XQ,hb,if_pos (h.trans hk)]
   ·have hb:(g==k)=false:=beq_eq_false_iff_ne.mpr h;simp only[XQ,hb,if_neg (λe:g=f=>h (e.trans hk.symm))]
  ·rw[if_neg hk];by_cases h:g=k
   ·have hb:(g==k)=true:=beq_iff_eq.mpr h;simp only[XQ,hb,if_neg (λe:g=f=>hk (h.symm.trans e))]
   ·have hb:(g==k)=false:=beq_eq_false_iff_ne.mpr h;simp only[XQ,hb];exact ih
theorem oX(f:Str)(v:V):∀fs:List (Str×V),f∈(gj f v fs).map (·.1)/\∀g,g∈fs.map (·.1)->g∈(gj f v fs).map (·.1)
 |[]=>⟨by simp[gj],λg h=>by simp at h⟩
 |(k,x)::r=>by
  obtain⟨i1,i2⟩:=oX f v r;rw[show gj f v ((k,x)::r)=(if k=f then(k,v)::r else(k,x)::gj f v r)from rfl];by_cases hk:k=f
  ·rw[if_pos hk];subst hk;exact⟨by simp,λg h=>by simpa using h⟩
  ·rw[if_neg hk];refine⟨?_,λg h=>?_⟩
   ·rw[Vl];exact UN _ i1
   ·rw[Vl]at h ⊢;rcases UR.mp h with e|e
    ·exact UR.mpr (.inl e)
    ·exact UN _ (i2 g e)
theorem qM(f:Str)(v:V):∀fs:List (Str×V),(gj f v fs).length<=fs.length+1
 |[]=>by simp[gj]
 |(k,x)::r=>by
  have ih:=qM f v r;rw[show gj f v ((k,x)::r)=(if k=f then(k,v)::r else(k,x)::gj f v r)from rfl];by_cases hk:k=f
  ·rw[if_pos hk,Vt,Vt];omega
  ·rw[if_neg hk,Vt,Vt];omega
theorem jc.some_of{v:V}{o:Option UH}(r:jc (some v) o):∃u,o=some u/\RelV v u:=by
 cases o with
 |none=>exact(show False from r).elim
 |some u=>exact⟨u,rfl,r⟩
theorem EG{v:V}{u:UH}(r:RelV v u):Yk u=true:=by
 cases v with
 |non=>cases(show u=Wk from r);rfl
 |bl b=>cases(show u=acM b from r);rfl
 |int i=>obtain⟨t,e⟩:=(show ∃t,u=Y9 i t from r);cases e;rfl
 |str x=>obtain⟨t,e⟩:=(show ∃t,u=YL x t from r);cases e;rfl
 |byt b=>obtain⟨t,e⟩:=(show ∃t,u=afg b t from r);cases e;rfl
 |flt b=>obtain⟨t,e⟩:=(show ∃t,u=afh b t from r);cases e;rfl
 |ref a=>cases(show u=VI a from r);rfl
 |ty n=>cases(show u=XY n from r);rfl
section
variable{P:U0}{w:Vj}{H H':Hp}{h h':VU}{a C dx:UX}{fs fs':List (Str×V)}
theorem vd(hok:eT P w H h)(e:H a=some (.ins C dx fs)):∃mA,uN h a dx C mA/\(∀f,jc (fs.lookup f) (mA f))/\adl mA (fs.map (·.1))/\fs.length<=1000/\H dx=some (.own a):=by obtain⟨d,z,ne,ob,mA,n,r,q⟩:=(show cB P w H h a (.ins C dx fs)from hok a _ e);exact⟨mA,⟨ob,n,ne⟩,r,q,z,d⟩
end
structure qm(K:UG)(C:UX):Prop where
 pg:ZK K C Xs=true
 hd:Zr K C=true
 po:aaE K C=true
 sa:U7 K 241 "__setattr__"=some (some (.builtin "object.__setattr__"))
theorem qm.get{K:UG}{C:UX}(c:qm K C)(f:Str):ZK K C f=true:=c.pg
def ie(K:UG)(C:UX)(f:Str):Prop:=U7 K 241 f=some none
theorem ie.taker{K:UG}{C:UX}{f:Str}(n:ie K C f):abw K C f=some none:=by unfold abw;rw[show U7 K 241 f=some none from n];rfl
section
variable{X:Cx}{Ux:List (UX×Obj)}{σ:St}{H:Hp}{s:UI}{a C dx:UX}{fs:List (Str×V)}{f:Str}{v:V}{A:Vw}{E:UH->UI->Prop}
theorem CF{b:Bool}{Q:136}(I:135)(e:H a=some (.ins C dx fs))(c:qm X.K C)(n:ie X.K C f)(l:fs.lookup f=some v)
  (h:∀u s',Inv X Ux σ H s'->RelV v u->Q u s'):UZ 126 A (aeG 307 f b) Q E s:=by obtain⟨mA,O,r,_,_,_⟩:=vd I.hok e;obtain⟨u,hu,ru⟩:=jc.some_of (v:=v) (o:=mA f) (by rw[<-l];exact r f);exact get_map I.kIn O (c.get f) c.hd n hu (EG ru) (h u _ (I.tok _) ru)
theorem Dt{y:V}{u:UH}{Q:347}(I:135)(e:H a=some (.ins C dx fs))(c:qm X.K C)(n:ie X.K C f)(hl:fs.length<1000)(ry:RelV y u)
  (h:∀s',Inv X Ux σ (upd H a (.ins C dx (gj f y fs))) s'->Q () s'):UZ 126 A (afj 307 f u) Q E s:=by
 obtain⟨mA,O,r,wi,_,ho⟩:=vd I.hok e;have hz:(fs.map (·.1)).length<=sizeLine:=by rw[UL,V6];omega
 refine LZ I.kIn O c.sa c.po n.taker c.hd wi hz λh' O' sb=>h _ ?_;have hd:∃o,h'.get? dx=some o:=let ⟨o,_,_,e',_⟩:=O'.ns;⟨o,e'⟩
 refine I.write (x:=a) (e:=dx) (by rw[e];exact WV) (.inr ho) (λb q hb z=>(sb.2 b hb).trans z) hd ?_;refine⟨by rw[aU O.ne];exact ho,?_,O.ne,O'.obj,_,O'.ns,λg=>?_,λg hg=>?_⟩
 ·have:=qM f y fs;omega
 ·show jc ((gj f y fs).lookup g) (if g=f then some u else mA g);rw[qO];by_cases q:g=f
  ·rw[if_pos q,if_pos q];exact ry
  ·rw[if_neg q,if_neg q];exact r g
 ·by_cases q:g=f
  ·rw[q];exact(oX f y fs).1
  ·refine(oX f y fs).2 g (wi g λz=>hg ?_);show(if g=f then some u else mA g)=none;rw[if_neg q];exact z
theorem Inv.made(I:135):Inv X Ux σ (upd (upd H s.heap.objs.size (.own 155)) 155 (.ins C s.heap.objs.size []))
  {s with heap:=(s.heap.push WO).push (Xr C s.heap.objs.size)}:=by
 have e1:(s.heap.push WO).get? s.heap.objs.size=some WO:=US s.heap rfl;have e2:((s.heap.push WO).push (Xr C s.heap.objs.size)).get? 155=some (Xr C s.heap.objs.size):=by
  have:=US (s.heap.push WO) (o:=Xr C s.heap.objs.size) rfl
  rwa [Wi]at this
 have e3:(s.heap.push WO).Ns s.heap.objs.size (λ_=>none):=⟨WO,#[],_,e1,rfl,(λe he=>absurd he 229),λ_=>rfl⟩;have I1:=I.laid (a:=s.heap.objs.size) (o:=.own 155) (h':=s.heap.push WO) (t':=s.toks) (λb u q=>UK _ q) (UW _) ⟨_,e1⟩;refine I1.laid (a:=s.heap.objs.size+1) (o:=.ins C s.heap.objs.size []) (t':=s.toks) (λb u q=>UK _ q) (aby (Wi _ _)) ?_;have ne:s.heap.objs.size≠s.heap.objs.size+1:=U4 (VS _);refine⟨by rw[aU ne,bf],Vb _,ne,e2,λ_=>none,(acO e3).at λo q=>UK _ q,λ_=>WV,λy hy=>absurd rfl hy⟩
theorem AN{pos:Pos}{Q:136}(hb:WH e f env (eval e env)=eval e env)
 (h:UZ 139 A (eval e env) (λo s₁=>UZ 139 A (aeG o f true) Q E s₁) E s):UZ 139 A (eval (.Attribute e f pos) env) Q E s:=
 Attribute_any_ h (by rw[arm_eval_Attribute,hb])
end
noncomputable def OF(K:UG)(ta:TE)(f:Str):TE:=λσ H Q=>ta σ H λx H1=>∃a C dx fs v,x=.ref a/\H1 a=some (.ins C dx fs)/\qm K C/\ie K C f/\fs.lookup f=some v/\Q v H1
noncomputable def QZ(K:UG)(ta tv:TE)(f:Str):TS:=λD σ H=>tv σ H λy H1=>ta σ H1 λx H2=>∃a C dx fs,x=.ref a/\H2 a=some (.ins C dx fs)/\qm K C/\ie K C f/\fs.length<1000/\
 D.nx σ (upd H2 a (.ins C dx (gj f y fs)))
section
variable{X:Cx}{o e value:VC}{f:Str}{pos pos' tpos:Pos}{ta tv:TE}
theorem uc(he:PE X e ta)(hb:WH e f X.env (eval e X.env)=eval e X.env):PE X (.Attribute e f pos) (OF X.K ta f):=by intro Ux s σ H Q I h;refine AN hb (bO (he Ux s σ H _ I h) λu s1 ⟨x,H1,I1,rx,a,C,dx,fs,v,ex,ea,c,n,l,q⟩=>?_);subst ex;obtain rfl:u=VI a:=rx;exact CF I1 ea c n l λu' s2 I2 ru=>⟨v,H1,I2,ru,q⟩
theorem FJ(ha:PE X o ta)(hv:PE X value tv)(hs:Xj value (some (.Attribute o f pos')) pos.line X.env=pure false):PS X (.Assign [.Attribute o f pos'] value pos) (QZ X.K ta tv f):=by intro Ux s σ H D I h;refine Zs (bO (hv Ux s σ H _ I h) λu s1 ⟨y,H1,I1,ry,q⟩=>bO (ha Ux s1 σ H1 _ I1 q) λov s2 ⟨x,H2,I2,rx,a,C,dx,fs,ex,ea,c,n,l,q2⟩=>?_) hs;subst ex;obtain rfl:ov=VI a:=rx;exact Dt I2 ea c n l ry λs3 I3=>⟨σ,_,I3,q2⟩
end
structure cG(k:Nat)(A:Vw):Prop where
 hd:A.handled=none
 dp:A.depth+3*k+5<aed
 un:A.units+16*k+200<YE
theorem cG.mono(r:cG k A)(h:j<=k):cG j A:=⟨r.hd,by have:=r.dp;omega,by have:=r.un;omega⟩
theorem cG.deeper{A:Vw}(r:cG (k+1) A)(env:Env):cG k (A.deeper env):=
 ⟨r.hd,by have:=r.dp;show A.depth+1+3*k+5<_;omega,by have:=r.un;show A.units+3+16*k+200<_;omega⟩
theorem CT{A:Vw}{C:UX}:(A.under (.builtin "type.__call__" ⟨.ref C::us,kw⟩)).depth=A.depth+1:=by
 first|rfl|simp[adm,Code.weight,Code.isCreation,Code.isGuard,Code.isCaller,afk,adn,guardIds]
theorem CU{A:Vw}{C:UX}:(A.under (.builtin "type.__call__" ⟨.ref C::us,kw⟩)).units=A.units+1:=by
 first|rfl|simp[adm,Code.cUnits,afk,adn]
theorem cG.make{A:Vw}(r:cG (k+1) A)(C:UX)(us:List UH)(kw:List (Str×UH)):cG k (A.under (.builtin "type.__call__" ⟨.ref C::us,kw⟩)):=
 ⟨r.hd,by have:=r.dp;rw[CT];omega,by have:=r.un;rw[CU];omega⟩
theorem cG.depth{A:Vw}(r:cG k A):A.depth<aed:=by have:=r.dp;omega
theorem cG.units{A:Vw}(r:cG k A):A.units+64<YE:=by have:=r.un;omega
def DC:TA:=λ_ H Q=>Q [] H
def DA(ta:TE)(tr:TA):TA:=λσ H Q=>ta σ H λx H1=>tr σ H1 λxs H2=>Q (x::xs) H2
section
variable{X:Cx}{e:VC}{es:List VC}{te:TE}{t:TA}{pos:Pos}
theorem gM:PA X [] DC:=λ_ _ _ _ H Q I h=>Calls.spliced_nil ⟨[],H,I,.nil,h⟩
theorem ez(ha:PE X e te)(hr:PA X es t)(hs:153):PA X (e::es) (DA te t):=by intro pos Ux s σ H Q I h;rw[hs];show UZ _ _ (spliced ((false,eval e X.env)::Wr pos 319)) _ _ s;refine Calls.spliced_cons (bO (ha Ux s σ H _ I h) λu s1 ⟨x,H1,I1,r1,q1⟩=>?_);exact bO (hr pos Ux s1 σ H1 _ I1 q1) λus s2 ⟨xs,H2,I2,r2,q2⟩=>⟨x::xs,H2,I2,.cons r1 r2,q2⟩
def Rf(t:TA):TE:=λσ H Q=>t σ H λxs H1=>xs.length<=sizeLine/\∀p,H1 p=none->Q (.ref p) (upd H1 p 333)
def Ra(t:TA):TE:=λσ H Q=>t σ H λxs H1=>xs.length<=sizeLine/\∀p,H1 p=none->Q (.ref p) (upd H1 p (.lst xs))
theorem N3{x1}(h:PA X es t):PE X (.Tuple es x1 pos) (Rf t):=by intro Ux s σ H Q I hq;refine wpAny_Tuple_spliced (bO (h pos Ux s σ H _ I hq) λus s1 ⟨xs,H1,I1,r,z,q⟩=>⟨by rw[<-r.length];exact z,?_⟩);have hf:H1 s1.heap.objs.size=none:=I1.hok.fresh (UW _);refine⟨.ref s1.heap.objs.size,upd H1 s1.heap.objs.size 333,I1.laid (t':=s1.toks) (λb u e=>UK _ e) (UW _) ?_,rfl,q _ hf⟩;exact⟨z,us,r,⟨_,US _ rfl,rfl,_,rfl⟩,λo q=>by rw[US _ rfl]at q;cases q;rfl⟩
theorem NY(h:PA X es t):PE X (.List es pos) (Ra t):=by intro Ux s σ H Q I hq;refine wpAny_List_spliced (bO (h pos Ux s σ H _ I hq) λus s1 ⟨xs,H1,I1,r,z,q⟩=>⟨by rw[<-r.length];exact z,?_⟩);have hf:H1 s1.heap.objs.size=none:=I1.hok.fresh (UW _);refine⟨.ref s1.heap.objs.size,upd H1 s1.heap.objs.size (.lst xs),I1.laid (t':=s1.toks) (λb u e=>UK _ e) (UW _) ?_,rfl,q _ hf⟩;exact⟨z,us,0,r,US _ rfl⟩
end
abbrev Sp:=List V->Hp->VK->XK->Prop
abbrev mj:=List Env->Hp->UI->XK->UH->UI->Prop
structure rG(P:U0)(w:Vj)(K:UG)(mg:145)(base:VU)(A:Vw)(outer:List Env)(s:UI)(H:Hp):Prop where
 frames:A.frames=some outer
 mod:Mod K mg base
 bs:∀b o,base.get? b=some o->s.heap.get? b=some o/\H b=none
 bsz:base.objs.size<=s.heap.objs.size
 funs:s.heap.FunFrames base outer
 frf:∀b∈frs outer,H b=none
 hok:eT P w H s.heap
 bare:aaP s.gens
noncomputable def CE(outer:List Env)(P:U0)(w:Vj)(H:Hp)(s:UI)(Q:VK)(u:UH)(s':UI):Prop:=
 ∃v H',s'.os=s.os/\aaP s'.gens/\Un (frs outer) [] H H' s.heap s'.heap/\eT P w H' s'.heap/\RelV v u/\Q v H'
noncomputable def CR(CX:mj)(outer:List Env)(P:U0)(w:Vj)(H:Hp)(s:UI)(Q:VK)(E:XK)(r:aa6)(s':UI):Prop:=
 match r with
 | .ok (.ret u)=>CE outer P w H s Q u s'
 | .ok _=>False
 | .error e=>CX outer H s E e s'
structure dF(P:U0)(w:Vj)(K:UG)(mg:145)(base:VU)(CX:mj)(k:Nat)(f:UX)(fd:Vp)(ps:131)(sp:Sp):Prop where
 len:∀vs H Q E,sp vs H Q E->vs.length=ps.length
 run:∀(A:Vw)(outer:List Env)(s:UI)(H:Hp)(args:Args)(us:List UH)(vs:List V)(Q:VK)(E:XK),cG k A->rG P w K mg base A outer s H->adP s fd args (ps.zip us)->Vals vs us->sp vs H Q E->
  WC (U9 P w) A (.call 344 args) (CR CX outer P w H s Q E) s
theorem rG.make{P:U0}{w:Vj}{K:UG}{mg:145}{base:VU}{A:Vw}{outer:List Env}{s:UI}{H:Hp}(e:rG P w K mg base A outer s H)(C:UX)(us:List UH)(kw:List (Str×UH)):
  rG P w K mg base (A.under (.builtin "type.__call__" ⟨.ref C::us,kw⟩)) outer s H:=⟨by first|exact e.frames|(simpa[adm,Code.envs,adn,pushEnvs]using e.frames),e.mod,e.bs,e.bsz,e.funs,e.frf,e.hok,e.bare⟩
section
variable{X:Cx}{Ux:List (UX×Obj)}{σ:St}{H:Hp}{s s':UI}
theorem Inv.env0(I:135):rG X.prog X.w X.K X.mg X.base X.A X.stack s H:=
 ⟨I.ok.frames,I.ok.mod,I.bs,Vr I.ok.bsz I.sz,I.stack,I.stkFree,I.hok,I.bare⟩
theorem Inv.after{Q:VK}(I:135)(h:CE X.stack X.prog X.w H s Q u s'):EP X Ux σ Q u s':=by obtain⟨v,H',os,bare,un,hok,r,q⟩:=h;obtain⟨hh,g,d,t,os'⟩:=s';obtain rfl:os'=s.os:=os;exact⟨v,H',I.call (h':=hh) (g':=g) (d':=d) (t':=t) (ch:=[]) un hok bare (λb z=>absurd z 229),r,q⟩
end
def Dz(sp:Sp)(dvs:List V)(E:XK)(t:TA):TE:=λσ H Q=>t σ H λvs H1=>sp (vs++dvs) H1 Q E
noncomputable def PK(C:UX)(sp:Sp)(dvs:List V)(E:XK)(t:TA):TE:=λσ H Q=>t σ H λvs H1=>∀x dx,H1 x=none->H1 dx=none->dx≠x->
 sp (.ref x::(vs++dvs)) (upd (upd H1 dx (.own x)) x (.ins C dx [])) (λv H2=>v=.non/\Q (.ref x) H2) E
noncomputable def Binds(K:UG)(fd:Vp)(ps:131)(ds:List UH):Prop:=
 ∀(s:UI)(us:List UH),K.In s.heap->(us++ds).length=ps.length->adP s fd ⟨us,[]⟩ (ps.zip (us++ds))
theorem Binds.all{K:UG}{fd:Vp}{ps:131}(h:∀us:List UH,us.length=ps.length->Za fd ⟨us,[]⟩=pure (ps.zip us)):Binds K fd ps []:=λs us _ hl=>by rw[V7]at hl ⊢;exact .of_eq (h us hl)
def Passes(CX:mj)(X:Cx)(E:XK):Prop:=∀(Ux:143)(σ:St)(H:Hp)(s:UI)(e:UH)(s':UI),Inv X Ux σ H s->CX X.stack H s E e s'->X.xe e s'
section
variable{X:Cx}{CX:mj}{k:Nat}{f C:UX}{fd:Vp}{ps:List Str}{sp:Sp}{dvs:List V}{ds:List UH}{E:XK}{x m:Str}{p pos apos:Pos}{e o:VC}{es:List VC}{ta:TE}{t:TA}
theorem Ou{H:Hp}{Q:VK}(F:265)(hr:cG k X.A)(hb:Binds X.K fd ps ds)(hd:Vals dvs ds)(hx:Passes CX X E)
 (I:135) (r:Vals vs us) (h:sp (vs++dvs) H Q E):UZ 126 X.A (call 344 us) (EP X Ux σ Q) X.xe s:=by
 have r2:Vals (vs++dvs) (us++ds):=r.append hd;have hl:(us++ds).length=ps.length:=by rw[<-r2.length];exact F.len _ _ _ _ h
 refine Yo (Xo (F.run X.A X.stack s H ⟨us,[]⟩ (us++ds) (vs++dvs) Q E hr I.env0 (hb s us I.kIn hl) r2 h) λr s' hq=>?_);cases r with
 |error e=>exact hx Ux σ H s e s' I hq
 |ok fl=>
  cases fl with
  |ret u=>exact I.after hq
  |next=>exact WB hq
  |brk=>exact WB hq
  |cont=>exact WB hq
theorem Lq(F:265)(hr:cG k X.A)(hg:Gl X x)(hm:X.mg x=some 344)(hk:Vu X.K 344=true)(hb:Binds X.K fd ps ds)(hd:Vals dvs ds)(hx:Passes CX X E)
  (ha:PA X (e::es) t) (hdb:141) (he:153) (hpl:autoParam ((Wr pos 319).any (·.1)=false) zzA._auto_1):
  PE X 205 (Dz sp dvs E t):=by intro Ux s σ H Q I h;refine Xc (jY I hg hm ?_ hdb);refine Zb (h₀:=X.base) I.ok.mod.kin hk (bO (ha pos Ux s σ H _ I h) λus s1 ⟨vs,H1,I1,r,q⟩=>⟨I1.kIn,?_⟩) he hpl;exact Ou F hr hb hd hx I1 r q
structure Mk(K:UG)(C f:UX):Prop where
 makes:abx K C=true
 init:U7 K 241 "__init__"=some (some 344)
 fn:aeY K 344=true
 kp:Vu K 241=true
theorem Ir{Ux:143}{σ:St}{H:Hp}{s:UI}{Q:VK}{us:List UH}{vs:List V}(M:Mk X.K C f)(F:265)(hr:cG (k+1) X.A)(hb:Binds X.K fd ps ds)(hd:Vals dvs ds)
  (hx:Passes CX X E) (I:135) (r:Vals vs us)
  (h:∀x dx,H x=none->H dx=none->dx≠x->sp (.ref x::(vs++dvs)) (upd (upd H dx (.own x)) x (.ins C dx [])) (λv H2=>v=.non/\Q (.ref x) H2) E):
  UZ 126 X.A (call 241 us) (EP X Ux σ Q) X.xe s:=by
 have hq:=h 155 s.heap.objs.size (I.hok.fresh (Xh _)) (I.hok.fresh (UW _)) (U4 (VS _));have I2:=Inv.made (C:=C) I;have r2:Vals (V.ref 155::(vs++dvs)) (VI 155::(us++ds)):=.cons rfl (r.append hd);have hl:(VI 155::us++ds).length=ps.length:=by have e:=r2.length;rw[F.len _ _ _ _ hq]at e;exact e.symm
 refine Yo (HA (f:=f) I.kIn M.makes M.init (beq_iff_eq.mp M.fn) (Xo (F.run _ X.stack _ _ ⟨VI 155::us,[]⟩ (VI 155::(us++ds)) _ _ E (hr.make C us [])
  (I2.env0.make C us []) (hb _ (VI 155::us) I2.kIn hl) r2 hq) λr s' hq'=>?_))
 cases r with
 |error e=>exact hx Ux σ _ _ e s' I2 hq'
 |ok fl=>
  cases fl with
  |ret u=>
   obtain⟨v,H',I3,rv,ev,q3⟩:=I2.after hq';subst ev;exact⟨rv,⟨V.ref 155,H',I3,rfl,q3⟩⟩
  |next=>exact WB hq'
  |brk=>exact WB hq'
  |cont=>exact WB hq'
theorem Lu(M:Mk X.K C f)(F:265)(hr:cG (k+1) X.A)(hg:Gl X x)(hm:X.mg x=some 241)(hb:Binds X.K fd ps ds)(hd:Vals dvs ds)(hx:Passes CX X E)
  (ha:PA X (e::es) t) (hdb:141) (he:153) (hpl:autoParam ((Wr pos 319).any (·.1)=false) zzA._auto_1):
  PE X 205 (PK C sp dvs E t):=by intro Ux s σ H Q I h;refine Xc (jY I hg hm ?_ hdb);refine Zb (h₀:=X.base) I.ok.mod.kin M.kp (bO (ha pos Ux s σ H _ I h) λus s1 ⟨vs,H1,I1,r,q⟩=>⟨I1.kIn,?_⟩) he hpl;exact Ir M F hr hb hd hx I1 r q
end
structure cK(N P:131)(sc:Yd):Prop where
 kind:sc.kind=.function
 co:sc.isCoroutine=false
 gen:sc.isGenerator=false
 nd:N.Nodup
 pre:N.take P.length=P
 par:∀x∈P,sc.names.lookup x=some .local\/sc.names.lookup x=some .cell
 nofree:∀y∈sc.names,y.2≠.free
theorem vJ{kindOf:Str->Option XJ}:∀{binds:List (Str×UH)}{m:145},(∀v,(x,v)∉binds)->afl kindOf binds m x=m x
 |[],_,_=>rfl
 |(n,v)::r,m,h=>by
  unfold afl;rw[vJ λw hw=>h w (UN _ hw)];split
  ·have:x≠n:=by rintro rfl;exact h v UO
   simp[this]
  ·rfl
theorem vH{kindOf:Str->Option XJ}:∀{binds:List (Str×UH)}{m:145},(∀v,(x,v)∉binds)->afm kindOf binds m x=m x
 |[],_,_=>rfl
 |(n,v)::r,m,h=>by
  unfold afm;rw[vH λw hw=>h w (UN _ hw)];split
  ·rfl
  ·have:x≠n:=by rintro rfl;exact h v UO
   simp[this]
theorem vI{kindOf:Str->Option XJ}{x:Str}{v:UH}:∀{P:131}{vs:List UH}{i:Nat}{m:145},P.Nodup->P[i]?=some x->vs[i]?=some v->kindOf x=some .local->
  afl kindOf (P.zip vs) m x=some v
 |[],_,_,_,_,h,_,_=>by simp at h
 |_::_,[],_,_,_,_,h,_=>by simp at h
 |p::P,w::vs,0,m,nd,h1,h2,hk=>by simp at h1 h2;subst h1;subst h2;show afl kindOf ((p,w)::P.zip vs) m p=_;unfold afl;rw[vJ λv hv=>(WD.mp nd).1 (Z3 hv).1,if_pos hk];simp
 |p::P,w::vs,i+1,m,nd,h1,h2,hk=>by show afl kindOf ((p,w)::P.zip vs) m x=_;unfold afl;exact vI (i:=i) (WD.mp nd).2 (by simpa using h1) (by simpa using h2) hk
theorem vG{kindOf:Str->Option XJ}{x:Str}{v:UH}:∀{P:131}{vs:List UH}{i:Nat}{m:145},P.Nodup->P[i]?=some x->vs[i]?=some v->kindOf x≠some .local->
  afm kindOf (P.zip vs) m x=some v
 |[],_,_,_,_,h,_,_=>by simp at h
 |_::_,[],_,_,_,_,h,_=>by simp at h
 |p::P,w::vs,0,m,nd,h1,h2,hk=>by simp at h1 h2;subst h1;subst h2;show afm kindOf ((p,w)::P.zip vs) m p=_;unfold afm;rw[vH λv hv=>(WD.mp nd).1 (Z3 hv).1,if_neg hk];simp
 |p::P,w::vs,i+1,m,nd,h1,h2,hk=>by show afm kindOf ((p,w)::P.zip vs) m x=_;unfold afm;exact vG (i:=i) (WD.mp nd).2 (by simpa using h1) (by simpa using h2) hk
def start(N:131)(vs:List V):St:=vs.map some++Vv (N.length-vs.length) none
noncomputable def jH(CX:mj)(P:U0)(w:Vj)(K:UG)(mg:145)(base:VU)(N:131)(UB:Str)(scope:Yd)(f:UX)(cd:UH)(A:Vw)(outer:List Env)(s:UI)(H:Hp)(E:XK):Cx where
 prog:=P
 w:=w
 K:=K
 mg:=mg
 base:=base
 A:=A.deeper (Y5 UB scope s.heap.objs.size f cd)
 N:=N
 s₀:=s
 H₀:=H
 env:=Y5 UB scope s.heap.objs.size f cd
 outer:=outer
 stack:=Y5 UB scope s.heap.objs.size f cd::outer
 ex:=[]
 calm:=true
 fn:=λ_=>true
 pn:=[]
 xe:=λe s'=>UZ (U9 P w) (A.deeper (Y5 UB scope s.heap.objs.size f cd)) (leaving (Y5 UB scope s.heap.objs.size f cd) e) (λ_ s''=>CX outer H s E e s'') (λe' s''=>CX outer H s E e' s'') s'
theorem yy{sc:Yd}(h:sc.names.lookup x=some .cell):∃c,(Wg n sc.names []).lookup x=some c:=by have q:=abf sc.names n [] (.inl h);exact VQ.mp q
theorem EN{CX:mj}{P:U0}{w:Vj}{K:UG}{mg:145}{base:VU}{N ps:131}{UB:Str}{scope:Yd}{f:UX}{cd:UH}{A:Vw}{outer:List Env}{s s1:UI}{H:Hp}{E:XK}{us:List UH}{vs:List V}
  (S:cK N ps scope) (hd:A.handled=none) (e0:rG P w K mg base A outer s H) (hl:vs.length=ps.length) (r:Vals vs us)
  (x:InCallC s s.heap.objs.size (afl (Y5 UB scope s.heap.objs.size f cd).kindOf (ps.zip us) λ_=>none) (Wg 155 scope.names []) (afm (Y5 UB scope s.heap.objs.size f cd).kindOf (ps.zip us) λ_=>none) s1):
  Inv (jH CX P w K mg base N UB scope f cd A outer s H E) [] (start N vs) H s1:=by
 have hpl:ps.length<=N.length:=by have:=congrArg Z4 S.pre;rw[WI]at this;omega
 obtain⟨h1,tk,rfl,hk⟩:=x.done;have noA:∀b:UX,b∉(jH CX P w K mg base N UB scope f cd A outer s H E).ex:=λb z=>absurd (show b∈([]:List UX)from z) 229;refine⟨⟨e0.mod,S.kind,rfl,rfl,UW _,λy z c h1 h2=>?_,λy hy=>?_,λy c _ h=>?_,λ_=>hd,Around.frames_deeper e0.frames,.inr ⟨rfl,rfl⟩,λb z=>absurd z (noA b),e0.bs,e0.bsz,λb _ _=>noA b,λb z=>absurd z (noA b),e0.funs,e0.frf⟩,
  rfl,e0.bare,Un.kept hk,⟨_,x.toInCall.ns,λi y v h1 h2 h3=>?_⟩,λy c h=>⟨_,x.cell y c h⟩,e0.hok.fresh (UW _),λy c h=>?_,λp hp=>absurd (show p∈([]:List (UX×Obj))from hp) 229,e0.hok.kept hk,?_⟩
 ·exact name_of_addr x.apart (Yg h1) (Yg h2)
 ·have hy:scope.names.lookup y=some .cell\/scope.names.lookup y=some .free:=hy;rcases hy with hy|hy
  ·exact yy hy
  ·exact absurd rfl (S.nofree _ (Yg hy))
 ·exact ZG (x.above y c (Yg h))
 ·have hi:i<vs.length:=by
   unfold start at h2;by_cases hi:i<vs.length
   ·exact hi
   ·rw[Wx (by simpa using hi)]at h2;rw[Zc]at h2;split at h2<;>cases h2
  have ha:vs[i]?=some v:=by
   unfold start at h2;rw[W5 (by simpa using hi),Vi]at h2;cases e:vs[i]? with
   |none=>rw[e]at h2;cases h2
   |some a=>rw[e]at h2;cases h2;rfl
  obtain⟨u,hu,rv⟩:=r.get ha;have hp:ps[i]?=some y:=by rw[<-S.pre,List.getElem?_take_of_lt 112];exact h1
  have ndP:ps.Nodup:=by rw[<-S.pre];exact S.nd.sublist (aaF _ _)
  refine⟨u,rv,?_⟩;rcases S.par y (XU hp)with k|k
  ·exact .inl ⟨k,vI ndP hp hu k⟩
  ·obtain⟨c,e⟩:=yy (n:=s.heap.objs.size+1) k;refine .inr ⟨.inl k,c,e,?_⟩;have q:=x.cell y c e;rw[vG ndP hp hu (by show scope.names.lookup y≠_;rw[k];decide)]at q;exact q
 ·exact e0.hok.fresh (ZG (x.above y c (Yg h)))
 ·unfold start;show _=N.length;rw[UQ,UL,VL];omega
theorem Jj{K:UG}{mg:145}{dV kV doc pm cdv ct oc:UH}
 {N ps:131}{sp:Sp}(lk:K.lookup f=some ⟨oc,od,.func (Vm name UB params body scope dV kV doc pm an cdv ct),osl⟩) (hcd:WR K cdv UB=true) (S:cK N ps scope)
 (len:∀vs H Q E,sp vs H Q E->vs.length=ps.length)
 (hbody:∀(A:Vw)(outer:List Env)(s:UI)(H:Hp)(vs:List V)(Q:VK)(E:XK),cG k (A.deeper (Y5 UB scope s.heap.objs.size f cdv))->sp vs H Q E->
 ∃t,iQ (jH CX P w K mg base N UB scope f cdv A outer s H E) body t/\t {nx:=λ_ H'=>Q .non H',rt:=Q} (start N vs) H):
  dF P w K mg base CX (k+1) f (Vm name UB params body scope dV kV doc pm an cdv ct) ps sp:=by
 refine⟨len,λA outer s H args us vs Q E hr e0 hb r SD=>?_⟩;have hl:=len _ _ _ _ SD;have KX:K.In s.heap:=e0.mod.kin.keeps λb o e=>(e0.bs b o e).1;have lim:s.heap.NoLimit:=e0.mod.nolimit.keeps λb o e=>(e0.bs b o e).1;have hkind:∀y∈ps.zip us,scope.names.lookup y.1=some .local\/(scope.names.lookup y.1=some .cell/\((Wg 155 scope.names []).lookup y.1).isSome=true):=λ⟨n,v⟩ hy=>by
  rcases S.par n (Z3 hy).1 with q|q
  ·exact .inl q
  ·exact .inr ⟨q,abf _ _ _ (.inl q)⟩
 refine codeAny_call_function hr.depth (KX _ _ lk) rfl S.co S.gen rfl (W.codeRec_of KX hcd) (hb _ _ _ _ ?_);refine wpAny_newFunctionEnv_cells S.kind hkind λenv he s1 x=>?_;subst he;refine⟨lim.keeps x.toInCall.keep,codeAny_func ?_⟩;obtain⟨t,ht,hq⟩:=hbody A outer s H vs Q E (hr.deeper _) SD;have I:Inv (jH CX P w K mg base N UB scope f cdv A outer s H E) [] (start N vs) H s1:=EN S hr.hd e0 hl r x;refine VH (ht [] s1 (start N vs) H _ I hq) (λfl s' hs=>?_) λe s' hs=>hs;have fin:∀{σ':St}{H':Hp}{v:V}{u:UH},Inv (jH CX P w K mg base N UB scope f cdv A outer s H E) [] σ' H' s'->RelV v u->Q v H'->CE outer P w H s Q u s':=
  fun {σ' H' v u} J rv q=>⟨v,H',J.os,J.bare,J.base,J.hok,rv,q⟩
 cases fl with
 |ret u=>
  obtain⟨v,σ',H',J,rv,q⟩:=hs;exact fin J rv q
 |next=>
  obtain⟨σ',H',J,q⟩:=hs;exact fin (v:=V.non) (u:=Wk) J rfl q
 |brk=>
  obtain⟨_,_,_,q⟩:=hs;exact WB q
 |cont=>
  obtain⟨_,_,_,q⟩:=hs;exact WB q
section
variable{X:Cx}{x:Str}{p pos:Pos}{e:VC}{es:List VC}{t:TA}{id T:String}{r:List V->Hp->VK->Prop}
def Qm(r:List V->Hp->VK->Prop)(t:TA):TE:=λσ H Q=>t σ H λvs H1=>r vs H1 Q
theorem kR(hc:fc X (.builtin id) r)(hg:Gl X x)(hm:X.mg x=none)(hv:Wy x=some (.builtin id))(ha:PA X (e::es) t)(hn:autoParam (x≠"__name__") zzB._auto_1)(hdb:141)
  (he:153) (hpl:autoParam ((Wr pos 319).any (·.1)=false) zzA._auto_1):PE X 205 (Qm r t):=by intro Ux s σ H Q I h;refine Xc (oY I hg hm hv ?_ hn hdb);exact ZH (bO (ha pos Ux s σ H _ I h) λus s1 ⟨vs,H1,I1,r1,q1⟩=>hc Ux s1 σ H1 vs us Q I1 r1 q1) he hpl
theorem o5(hc:fc X (.type T) r)(hg:Gl X x)(hm:X.mg x=none)(hv:Wy x=some (.type T))(ha:PA X (e::es) t)(hn:autoParam (x≠"__name__") zzB._auto_1)(hdb:141)
  (he:153) (hpl:autoParam ((Wr pos 319).any (·.1)=false) zzA._auto_1):PE X 205 (Qm r t):=by intro Ux s σ H Q I h;refine Xc (oY I hg hm hv ?_ hn hdb);exact Z2 (bO (ha pos Ux s σ H _ I h) λus s1 ⟨vs,H1,I1,r1,q1⟩=>hc Ux s1 σ H1 vs us Q I1 r1 q1) he hpl
end
end L2
namespace HT
open PySem PyProof.Rows
noncomputable def lexLt:List Int->List Int->Bool
 |[],[]=>false
 |[],_::_=>true
 |_::_,[]=>false
 |x::xs,y::ys=>if x=y then lexLt xs ys else decide (x<y)
section
open PySem.SeqAt
open PySem.AutoSeq1 (wpAny_loadPart')
open PySem.MeetsSeq PySem.MeetsSeq2 PySem.MeetsSeq3
end
section
variable{prog:U0}{w:Vj}{A:Vw}{E:UH->UI->Prop}{s:UI}
theorem Km{vs ws:List UH}{Q:136}(ht:afM s.heap t vs.toArray)(hb:afM s.heap b ws.toArray)(hv:vs≠[])
 (h1:ws=[]->Q (.ref t) s) (h2:ws≠[]->Q 236 {s with heap:=s.heap.push {cls:=.type "tuple",data:=.seq (vs++ws).toArray}})
 (hsz:vs.length+ws.length<=sizeLine):UZ 139 A (Ys .Add (.ref t) (.ref b)) Q E s:=by
 obtain⟨⟨cls,dd,data,sl⟩,ho,hc,n,hd⟩:=id ht;obtain⟨⟨cls2,dd2,data2,sl2⟩,ho2,hc2,n2,hd2⟩:=id hb;simp only at hc hd hc2 hd2;subst hc hd hc2 hd2;have e:vs.toArray++ws.toArray=(vs++ws).toArray:=by simp
 by_cases hw:ws=[]
 ·exact abz ⟨_,ho,rfl⟩ ⟨_,ho2,rfl⟩ aa7 acp Zq Zd (Y6 _ _)
   (tuple_addW1 t b vs.toArray ws.toArray n n2 dd dd2 sl sl2 (by simpa using hv) (by simp[hw])) ⟨ho,ho2,h1 hw⟩
 ·refine abz ⟨_,ho,rfl⟩ ⟨_,ho2,rfl⟩ aa7 acp Zq Zd (Y6 _ _)
   (tuple_addW2 t b vs.toArray ws.toArray n n2 dd dd2 sl sl2 (by simpa using hv) (by simpa using hw) (by rw[U5,U5];exact hsz)) ⟨ho,ho2,?_⟩
  rw[e];exact h2 hw
noncomputable def bT(n d:Nat):Option Int->Nat
 |none=>d
 |some v=>if v<0 then(v+(n:Int)).toNat else min v.toNat n
theorem r6(n d:Nat):bT n d none=d:=rfl
theorem mZ(n d k:Nat):bT n d (some (k:Int))=min k n:=by show(if(k:Int)<0 then((k:Int)+(n:Int)).toNat else min (k:Int).toNat n)=min k n;rw[if_neg 112,W4]
theorem Ov(n d:Nat)(hd:d<=n)(o:Option Int):bT n d o<=n:=by
 cases o with
 |none=>exact hd
 |some v=>
  show(if v<0 then(v+(n:Int)).toNat else min v.toNat n)<=n;by_cases hv:v<0
  ·rw[if_pos hv];omega
  ·rw[if_neg hv];exact Nat.min_le_right _ _
theorem AQ(v:Int)(n d:Nat):(if v<0 then max (v+(n:Int)) 0 else min v (n:Int))=((bT n d (some v):Nat):Int):=by
 show(if v<0 then max (v+(n:Int)) 0 else min v (n:Int))=(((if v<0 then(v+(n:Int)).toNat else min v.toNat n):Nat):Int);by_cases hv:v<0
 ·simp only[if_pos hv];omega
 ·simp only[if_neg hv];omega
theorem B5(lo hi:Option Int)(n:Nat):W6 lo hi 1 (n:Int)=(((bT n 0 lo:Nat):Int),((bT n n hi:Nat):Int)):=by
 have h1:¬((1:Int)<0):=by omega
 unfold W6;simp only[h1,if_false];refine afC ?_ ?_
 ·cases lo with
  |none=>rfl
  |some v=>exact AQ v n 0
 ·cases hi with
  |none=>rfl
  |some v=>exact AQ v n n
theorem Dk(i j:Nat):VZ (i:Int) (j:Int) 1=j-i:=by
 unfold VZ;have h1:(1:Int)>0:=by omega
 simp only[h1,if_true,aeZ];split<;>omega
theorem uB{Q:Option Int->UI->Prop}(p:acq v o)(h:Q o s):UZ 139 A (adL v) Q E s:=by
 cases p with
 |none=>exact aau h
 |int i t=>exact aeH h
theorem k8{sl:UX}{vl vu:UH}{lo hi:Option Int}{n:Nat}{Q:Int×Int×Nat->UI->Prop}(hs:s.heap.IsSliceOf sl vl vu .none)(pl:acq vl lo)(pu:acq vu hi)
  (h:Q (((bT n 0 lo:Nat):Int),1,bT n n hi-bT n 0 lo) s):UZ 139 A (XA (.ref sl) (pure (n:Int))) Q E s:=by obtain⟨os,hos,hcs,hds⟩:=id hs;unfold XA aav;refine UE (UE (Yh hos hds (x:=vl) rfl (UE (Yh hos hds (x:=vu) rfl (UE (Yh hos hds (x:=.none) rfl (UJ ?_)))))));refine UE (aau ?_);show UZ _ _ (if((1:Int)==0)=true then _ else _) _ _ s;rw[if_neg 120];refine UE (uB pl (UE (uB pu (UE (UJ ?_)))));show UZ _ _ (match W6 lo hi 1 (n:Int)with|(lo,hi)=>pure (lo,(1:Int),VZ lo hi 1)) _ _ s;rw[B5 lo hi n];show UZ _ _ (pure (((bT n 0 lo:Nat):Int),(1:Int),VZ ((bT n 0 lo:Nat):Int) ((bT n n hi:Nat):Int) 1)) _ _ s;rw[Dk];exact UJ h
theorem HW(xs:Array UH)(i k:Nat):((U8 k).filterMap λ(m:Nat)=>xs[((i:Int)+(m:Int)*1).toNat]?).toArray=((xs.toList.drop i).take k).toArray:=by
 have e:(λ(m:Nat)=>xs[((i:Int)+(m:Int)*1).toNat]?)=λm=>xs[i+m]?:=by
  funext m;have:((i:Int)+(m:Int)*1).toNat=i+m:=by omega
  rw[this]
 rw[e];have:=pick_run xs i k;rw[acr]at this;have e2:((λx=>xs[x]?) ∘ λx=>i+x)=λm=>xs[i+m]?:=rfl;rw[e2]at this;rw[this]
theorem ql{t sl:UX}{items:Array UH}{vl vu:UH}{lo hi:Option Int}{Q:136}(ht:afM s.heap t items)(hs:s.heap.IsSliceOf sl vl vu .none)(pl:acq vl lo)(pu:acq vu hi)
  (hw:¬(bT items.size 0 lo=0/\bT items.size items.size hi=items.size))
  (h:Q 236 {s with heap:=s.heap.push {cls:=.type "tuple",data:=.seq ((items.toList.drop (bT items.size 0 lo)).take 376).toArray}})
  (hsz:items.size<=sizeLine):UZ 139 A (Z5 (.ref t) (.ref sl)) Q E s:=by
 have RS:sizeOk (.seq ((items.toList.drop (bT items.size 0 lo)).take 376).toArray):=by show((items.toList.drop (bT items.size 0 lo)).take 376).toArray.size<=sizeLine;rw[U5,WI,WY,Vh];omega
 have hj:bT items.size items.size hi<=items.size:=Ov _ _ (UW _) hi;obtain⟨os,hos,hcs,hds⟩:=id hs;have S0:s.TypeIs (.ref sl) "slice":=⟨os,hos,hcs⟩;unfold Z5
 try with_reducible refine VG ?_
 first|refine UE (UJ ?_)|skip
 refine UE (aaG ht.typeIs 120 ?_);refine UE (Wt (name:=Y7 "__getitem__") ht.typeIs Vx
  (V3 Vx ht.typeIs Z6 ?_ (aao _ _)))
 show UZ _ _ (YI (.ref t)>>=_) _ _ s;refine UE (acs ht ?_);refine UE (Yw S0 ?_);rw[if_pos 120];refine UE (k8 hs pl pu ?_);have hno:¬((((bT items.size 0 lo:Nat):Int)==0&&(1:Int)==1&&376==items.size)=true):=by intro q;rw[Vg,Vg]at q;have q1:((bT items.size 0 lo:Nat):Int)=0:=eq_of_beq q.1.1;have q2:bT items.size items.size hi-bT items.size 0 lo=items.size:=eq_of_beq q.2;exact hw ⟨by omega,by omega⟩
 show UZ _ _ (if(((bT items.size 0 lo:Nat):Int)==0&&(1:Int)==1&&376==items.size)=true then _ else _) _ _ s;rw[if_neg hno,HW]
 first
  |exact UE (m:=V8 _) (Vn (UJ ⟨_,rfl,UJ h⟩) RS)
  |exact UE (m:=V8 _) (Vn (UE (UJ (UJ ⟨_,rfl,UJ h⟩))) RS)
  |exact UE (UE (m:=V8 _) (Vn (UJ (UJ ⟨_,rfl,UJ h⟩)) RS))
  |exact UE (UE (m:=V8 _) (Vn (UJ ⟨_,rfl,UJ h⟩) RS))
end
end HT
namespace L2
open PySem PySem.Spec PyProof.Rows
abbrev TO:=St->Hp->(Option Int->Hp->Prop)->Prop
noncomputable def PO(X:Cx)(e:Option VC)(t:TO):Prop:=
 ∀(Ux:143)(s:UI)(σ:St)(H:Hp)(Q:Option Int->Hp->Prop),Inv X Ux σ H s->t σ H Q->
  UZ 126 X.A (evalPart e X.env) (λu s'=>∃o H',Inv X Ux σ H' s'/\acq u o/\Q o H') X.xe s
def Ma:TO:=λ_ H Q=>Q none H
def PN(t:TE):TO:=λσ H Q=>t σ H λx H1=>∃i,x=.int i/\Q (some i) H1
section
variable{X:Cx}{e:VC}{te:TE}{lo hi:Option VC}{tl th:TO}{pos p2:Pos}
theorem Lz:PO X none Ma:=by intro Ux s σ H Q I h;rw[acu];exact UJ ⟨none,H,I,.none,h⟩
theorem LA(h:PE X e te):PO X (some e) (PN te):=by intro Ux s σ H Q I hw;rw[aeI];refine bO (h Ux s σ H _ I hw) λu s1 ⟨x,H1,I1,r1,q1⟩=>?_;obtain⟨i,rfl,q⟩:=q1;obtain⟨t,rfl⟩:=r1;exact⟨some i,H1,I1,.int i t,q⟩
noncomputable def sM(X:Cx)(r:V->Option Int->Option Int->Hp->VK->Prop):Prop:=
 ∀(Ux:143)(s:UI)(σ:St)(H:Hp)(x:V)(v vl vu:UH)(lo hi:Option Int)(sl:UX)(Q:VK),Inv X Ux σ H s->RelV x v->s.heap.IsSliceOf sl vl vu .none->acq vl lo->acq vu hi->r x lo hi H Q->
  ∃T id,YF (.type T) "__getitem__"=pure (some (.builtin id))/\s.TypeIs v T/\UZ 126 X.A (Z5 v (.ref sl)) (EP X Ux σ Q) X.xe s
theorem sM.or{r r':V->Option Int->Option Int->Hp->VK->Prop}(h:sM X r)(h':sM X r'):sM X (λx lo hi H Q=>r x lo hi H Q\/r' x lo hi H Q):=by
 intro Ux s σ H x v vl vu lo hi sl Q I rx hs pl pu q;rcases q with q|q
 ·exact h Ux s σ H x v vl vu lo hi sl Q I rx hs pl pu q
 ·exact h' Ux s σ H x v vl vu lo hi sl Q I rx hs pl pu q
def Rz(r:V->Option Int->Option Int->Hp->VK->Prop)(te:TE)(tl th:TO):TE:=λσ H Q=>te σ H λx H1=>tl σ H1 λl H2=>th σ H2 λu H3=>r x l u H3 Q
theorem HR{r:V->Option Int->Option Int->Hp->VK->Prop}(hr:sM X r)(he:PE X e te)(hl:PO X lo tl)(hu:PO X hi th):PE X (.Subscript e (.Slice lo hi none p2) pos) (Rz r te tl th):=by intro Ux s σ H Q I h;refine acP (bO (he Ux s σ H _ I h) λv s1 ⟨x,H1,I1,r1,q1⟩=>?_);refine wpAny_Slice (bO (hl Ux s1 σ H1 _ I1 q1) λvl s2 ⟨l,H2,I2,pl,q2⟩=>bO (hu Ux s2 σ H2 _ I2 q2) λvu s3 ⟨u,H3,I3,pu,q3⟩=>?_);rw[acu];refine UJ ?_;have I4:Inv X Ux σ H3 {s3 with heap:=s3.heap.push {cls:=.type "slice",data:=.fields #[vl,vu,.none]}}:=I3.kept (t':=s3.toks) λb ob q=>UK _ q;obtain⟨T,id,hT,ht,hg⟩:=hr Ux {s3 with heap:=s3.heap.push {cls:=.type "slice",data:=.fields #[vl,vu,.none]}} σ H3 x v vl vu l u s3.heap.objs.size Q I4 r1 (acv ..) pl pu q3;show UZ 126 X.A (acw e (.Slice lo hi none p2) v (.ref s3.heap.objs.size)) (EP X Ux σ Q) X.xe {s3 with heap:=s3.heap.push {cls:=.type "slice",data:=.fields #[vl,vu,.none]}};exact aeJ (ops:=[.ref s3.heap.objs.size,v]) ht hT hg (by with_unfolding_all rfl)
def lS(xs:List V)(lo hi:Option Int):List V:=(xs.drop (HT.bT xs.length 0 lo)).take (HT.bT xs.length xs.length hi-HT.bT xs.length 0 lo)
theorem qz(xs:List V)(lo hi:Option Int):(lS xs lo hi).length<=xs.length:=by unfold lS;rw[WI,WY];omega
noncomputable def QW(K:UG):V->Option Int->Option Int->Hp->VK->Prop:=λx lo hi H Q=>∃a xs,x=.ref a/\eZ K H a xs/\
 ¬(HT.bT xs.length 0 lo=0/\HT.bT xs.length xs.length hi=xs.length)/\∀p,H p=none->Q (.ref p) (upd H p (.tup (lS xs lo hi)))
theorem Oz:sM X (QW X.K):=by
 intro Ux s σ H x v vl vu lo hi sl Q I rx hs pl pu h;obtain⟨a,xs,rfl,hx,hw,q⟩:=h;cases rx;obtain⟨Uy,r,ht,hz⟩:=I.tuple hx;have hlen:Uy.toArray.size=xs.length:=by rw[U5];exact r.length.symm
 refine⟨"tuple",_,Vx.lookup,ht.typeIs,?_⟩;refine HT.ql ht hs pl pu (by rw[hlen];exact hw) ?_ (by rw[hlen];exact hz);rw[hlen];refine⟨.ref s.heap.objs.size,_,I.laid (t':=s.toks) (o:=.tup (lS xs lo hi)) (λb ob q=>UK _ q) (UW _) ?_,rfl,q _ (I.hok.fresh (UW _))⟩;exact⟨Vr (qz xs lo hi) hz,_,(r.drop (HT.bT xs.length 0 lo)).take (HT.bT xs.length xs.length hi-HT.bT xs.length 0 lo),adQ _ _,λo q=>by rw[US _ rfl]at q;cases q;rfl⟩
noncomputable def Pr(K:UG):R2:=λx y H Q=>∃a b xs ys,x=.ref a/\y=.ref b/\eZ K H a xs/\eZ K H b ys/\xs≠[]/\xs.length+ys.length<=sizeLine/\
 (ys=[]->Q 307 H)/\(ys≠[]->∀p,H p=none->Q (.ref p) (upd H p (.tup (xs++ys))))
theorem Vals.nil_iff(r:Vals xs us):us=[]↔xs=[]:=by
 cases r with
 |nil=>simp
 |cons _ _=>simp
theorem Ld:dU X (Ys .Add) (Pr X.K):=by intro Ux s σ H x y v u Q I rx ry h;obtain⟨a,b,xs,ys,rfl,rfl,ha,hb,hx,hz,q1,q2⟩:=h;cases rx;cases ry;obtain⟨Uy,r1,p1,_⟩:=I.tuple ha;obtain⟨its2,r2,p2,_⟩:=I.tuple hb;refine HT.Km p1 p2 (λz=>hx (r1.nil_iff.mp z)) (λz=>⟨.ref a,H,I,rfl,q1 (r2.nil_iff.mp z)⟩) (λz=>?_) (by rw[<-r1.length,<-r2.length];exact hz);refine⟨.ref s.heap.objs.size,_,I.laid (t':=s.toks) (o:=.tup (xs++ys)) (λb ob q=>UK _ q) (UW _) ?_,rfl,q2 (λw=>z (r2.nil_iff.mpr w)) _ (I.hok.fresh (UW _))⟩;exact⟨by rw[UQ];exact hz,_,r1.append r2,adQ _ _,λo q=>by rw[US _ rfl]at q;cases q;rfl⟩
end
def yU(n:Nat)(i:Int):Option Nat:=if 0<=i then(if i<n then some i.toNat else none)else if -(n:Int)<=i then some (i+n).toNat else none
def kG{α:Type}(xs:List α)(i:Int):Option α:=(yU xs.length i).bind λj=>xs[j]?
theorem KQ(h:yU n i=some j):seqIndex? i n=some j/\j<n/\-(n:Int)<=i/\i<n:=by
 unfold yU at h;by_cases h0:0<=i
 ·rw[if_pos h0]at h;by_cases h1:i<n
  ·rw[if_pos h1]at h;have e:i.toNat=j:=Ve h;exact⟨by rw[seqIndex_of h0 h1,e],by omega,by omega,h1⟩
  ·rw[if_neg h1]at h;cases h
 ·rw[if_neg h0]at h;by_cases h1:-(n:Int)<=i
  ·rw[if_pos h1]at h;have e:(i+n).toNat=j:=Ve h;exact⟨by rw[seqIndex_neg 112 h1,e],by omega,h1,by omega⟩
  ·rw[if_neg h1]at h;cases h
theorem uS{α:Type}{xs:List α}{i:Int}{v:α}(h:kG xs i=some v):∃j,seqIndex? i xs.length=some j/\xs[j]?=some v/\j<xs.length/\-(xs.length:Int)<=i/\i<xs.length:=by
 unfold kG at h;cases e:yU xs.length i with
 |none=>rw[e]at h;cases h
 |some j=>
  rw[e]at h;obtain⟨h1,h2,h3,h4⟩:=KQ e;exact⟨j,h1,h,h2,h3,h4⟩
def pM(b:VC):Prop:=∀o i,subscripted b false o i=operate [o,i] (Z5 o i)
noncomputable def ow(X:Cx)(r:R2):Prop:=
 ∀(value slice:VC)(Ux:143)(s:UI)(σ:St)(H:Hp)(x y:V)(v u:UH)(Q:VK),Inv X Ux σ H s->RelV x v->RelV y u->r x y H Q->
  subscripted slice false v u=operate [v,u] (Z5 v u)->UZ 126 X.A (acw value slice v u) (EP X Ux σ Q) X.xe s
noncomputable def P8(X:Cx)(id:String)(r:V->List V->Hp->VK->Prop):Prop:=
 ∀(Ux:143)(s:UI)(σ:St)(H:Hp)(x:V)(xs:List V)(v:UH)(us:List UH)(Q:VK),Inv X Ux σ H s->RelV x v->Vals xs us->r x xs H Q->
  UZ 126 X.A (call (.builtin id) (v::us)) (EP X Ux σ Q) X.xe s
section
variable{X:Cx}{a b:VC}{ta tb:TE}{pos:Pos}
theorem ow.or{r r':R2}(h:ow X r)(h':ow X r'):ow X (λx y H Q=>r x y H Q\/r' x y H Q):=by
 intro value slice Ux s σ H x y v u Q I rx ry q hs;rcases q with q|q
 ·exact h value slice Ux s σ H x y v u Q I rx ry q hs
 ·exact h' value slice Ux s σ H x y v u Q I rx ry q hs
theorem JA(hr:ow X r)(ha:PE X a ta)(hb:PE X b tb)(hs:pM b):PE X (.Subscript a b pos) (Gf r ta tb):=by intro Ux s σ H Q I h;exact acP (GK ha hb I h λv u s2 x y H2 I2 rx ry q=>hr a b Ux s2 σ H2 x y v u Q I2 rx ry q (hs _ _))
def Ol(K:UG):R2:=λx y H Q=>∃p xs i v,x=.ref p/\y=.int i/\cY K H p xs/\kG xs i=some v/\Q v H
def Oo(K:UG):R2:=λx y H Q=>∃p xs i v,x=.ref p/\y=.int i/\eZ K H p xs/\kG xs i=some v/\Q v H
def Om:R2:=λx y H Q=>∃z i c,x=.str z/\y=.int i/\z.length<=sizeLine/\kG z.cps.toList i=some c/\Q (.str ⟨#[c]⟩) H
theorem KU:ow X (Ol X.K):=by
 intro value slice Ux s σ H x y v u Q I rx ry h hs;obtain⟨p,xs,i,z,rfl,rfl,hq,he,q⟩:=h;cases rx;obtain⟨t,rfl⟩:=ry;obtain⟨Uy,r,pl,hz⟩:=I.list hq;obtain⟨j,h1,h2,h3,h4,h5⟩:=uS he;obtain⟨w,ew,rw'⟩:=r.get h2;have hl:=r.length;have hn:=mL;have fin:EP X Ux σ Q w s:=⟨z,H,I,rw',q⟩;by_cases h0:0<=i
 ·have hj:i.toNat=j:=by rw[seqIndex_of h0 h5]at h1;exact Ve h1
  exact item_listR pl.isList h0 112 (by rw[hj];simpa using ew) fin hs
 ·have hj:(i+(Uy.toArray.size:Int)).toNat=j:=by rw[seqIndex_neg 112 h4]at h1;rw[U5,<-hl];exact Ve h1
  exact abg (x:=w) pl.isList.typeIs acQ.lookup
   (wpAny_getItem_list_neg (Q:=λr s'=>r=w/\EP X Ux σ Q r s') pl.isList 112 (by rw[U5]<;>omega) 112 (by rw[hj];simpa using ew) ⟨rfl,fin⟩) hs
theorem Nr:ow X (Oo X.K):=by
 intro value slice Ux s σ H x y v u Q I rx ry h hs;obtain⟨p,xs,i,z,rfl,rfl,hq,he,q⟩:=h;cases rx;obtain⟨t,rfl⟩:=ry;obtain⟨Uy,r,pl,hz⟩:=I.tuple hq;obtain⟨j,h1,h2,h3,h4,h5⟩:=uS he;obtain⟨w,ew,rw'⟩:=r.get h2;have hl:=r.length;have hn:=mL;have fin:EP X Ux σ Q w s:=⟨z,H,I,rw',q⟩;exact abg (x:=w) pl.typeIs slot_tuple_getitem.lookup
  (getItem_tuple (j:=j) (Q:=λr s'=>r=w/\EP X Ux σ Q r s') pl 112 112 (by rw[U5,<-hl];exact h1) (by simpa using ew) ⟨rfl,fin⟩) hs
theorem iU:ow X Om:=by
 intro value slice Ux s σ H x y v u Q I rx ry h hs;obtain⟨z,i,c,rfl,rfl,hz,he,q⟩:=h;obtain⟨t,rfl⟩:=rx;obtain⟨t',rfl⟩:=ry;obtain⟨j,h1,h2,h3,h4,h5⟩:=uS he;have hl:z.cps.toList.length=z.length:=by simp[acR]
 rw[hl]at h1 h4 h5;have hn:=mL;exact aeJ (acS s z t) slot_str_getitem.lookup (getItem_str (c:=c) (by
  have e1:decide (i < -(2^63:Int))=false:=decide_eq_false 112;have e2:decide (i ≥ 2^63)=false:=decide_eq_false 112;rw[e1,e2,aaR]) (by rw[h1];simpa using h2) ⟨.str ⟨#[c]⟩,H,I.tok _,⟨_,rfl⟩,q⟩) hs
def Rr(K:UG):R2:=λx y H Q=>Ol K x y H Q\/Oo K x y H Q\/Om x y H Q
theorem Nq:ow X (Rr X.K):=KU.or (Nr.or iU)
theorem Inv.lst{H:Hp}{s:UI}{xs:List V}(I:135)(h:H p=some (.lst xs)):
  ∃(Uy:List UH)(n:Nat),Vals xs Uy/\s.heap.get? p=some {cls:=.type "list",data:=.seq Uy.toArray n}/\xs.length<=sizeLine:=by obtain⟨z,Uy,n,r,e⟩:=I.hok p _ h;exact⟨Uy,n,r,e,z⟩
theorem zN(lo hi:Option Int)(n:Nat):(Zt lo hi none n).1=((HT.bT n 0 lo:Nat):Int)/\(Zt lo hi none n).2.1=((HT.bT n n hi:Nat):Int)/\(Zt lo hi none n).2.2=1:=by
 refine⟨?_,?_,rfl⟩
 ·cases lo with
  |none=>simp[Zt,HT.bT]
  |some i=>
   simp only[Zt,HT.bT,adx,show(1:Int)>0 by decide,if_true];by_cases h:i<0
   ·simp only[h,if_true]<;>omega
   ·simp only[h,if_false]<;>omega
 ·cases hi with
  |none=>simp[Zt,HT.bT]
  |some i=>
   simp only[Zt,HT.bT,adx,show(1:Int)>0 by decide,if_true];by_cases h:i<0
   ·simp only[h,if_true]<;>omega
   ·simp only[h,if_false]<;>omega
theorem xg(Uy:List UH)(lo hi:Option Int):slicePick Uy.toArray lo hi none=((Uy.drop (HT.bT Uy.length 0 lo)).take (HT.bT Uy.length Uy.length hi-HT.bT Uy.length 0 lo)).toArray:=by obtain⟨h1,h2,h3⟩:=zN lo hi Uy.toArray.size;unfold slicePick;rw[h1,h2,h3];simp only[sliceRange_one,pick_run,U5]<;>rfl
noncomputable def QV(K:UG):V->Option Int->Option Int->Hp->VK->Prop:=λx lo hi H Q=>∃a xs,x=.ref a/\cY K H a xs/\∀p,H p=none->Q (.ref p) (upd H p (.lst (lS xs lo hi)))
theorem L5:sM X (QV X.K):=by intro Ux s σ H x v vl vu lo hi sl Q I rx hs pl pu h;obtain⟨a,xs,rfl,hx,q⟩:=h;cases rx;obtain⟨Uy,r,ht,hz⟩:=I.list hx;have hlen:=r.length;refine⟨"list",_,acQ.lookup,ht.isList.typeIs,?_⟩;refine wpAny_getItem_list_slice ht.isList hs pl pu .none 229 ?_ (by rw[U5]<;>omega);rw[xg,<-hlen];refine⟨.ref s.heap.objs.size,_,I.laid (t':=s.toks) (o:=.lst (lS xs lo hi)) (λb ob q=>UK _ q) (UW _) ?_,rfl,q _ (I.hok.fresh (UW _))⟩;exact⟨Vr (qz xs lo hi) hz,_,0,(r.drop (HT.bT xs.length 0 lo)).take (HT.bT xs.length xs.length hi-HT.bT xs.length 0 lo),US _ rfl⟩
noncomputable def s_:V->Bool
 | .non=>true
 | .bl _=>true
 | .int _=>true
 | .str _=>true
 |_=>false
noncomputable def M1:V->V->Bool
 | .non,.non=>true
 | .bl a,.bl b=>a==b
 | .bl a,.int b=>(if a then 1 else 0)==b
 | .int a,.bl b=>a==(if b then 1 else 0)
 | .int a,.int b=>a==b
 | .str a,.str b=>a==b
 |_,_=>false
theorem M0(ry:RelV y u)(rx:RelV x v)(fy:s_ y=true)(fx:s_ x=true):Yp A s u v (M1 y x):=by
 cases y with
 |non=>
  cases ry;cases x with
  |non=>cases rx;exact abA _
  |bl b=>cases rx;exact ae_ b
  |int b=>obtain⟨t,rfl⟩:=rx;exact afn b t
  |str b=>obtain⟨t,rfl⟩:=rx;exact afo b t
  |_=>exact absurd (show false=true from fx) VV
 |bl a=>
  cases ry;cases x with
  |non=>cases rx;exact afa a
  |bl b=>cases rx;exact afb a b
  |int b=>obtain⟨t,rfl⟩:=rx;exact afp a b t
  |str b=>obtain⟨t,rfl⟩:=rx;exact afq a b t
  |_=>exact absurd (show false=true from fx) VV
 |int a=>
  obtain⟨t',rfl⟩:=ry;cases x with
  |non=>cases rx;exact afr a t'
  |bl b=>cases rx;exact afs a t' b
  |int b=>obtain⟨t,rfl⟩:=rx;exact afF a t' b t
  |str b=>obtain⟨t,rfl⟩:=rx;exact ack a t' b t
  |_=>exact absurd (show false=true from fx) VV
 |str a=>
  obtain⟨t',rfl⟩:=ry;cases x with
  |non=>cases rx;exact aft a t'
  |bl b=>cases rx;exact afu a t' b
  |int b=>obtain⟨t,rfl⟩:=rx;exact acm a t' b t
  |str b=>obtain⟨t,rfl⟩:=rx;exact afG a t' b t
  |_=>exact absurd (show false=true from fx) VV
 |_=>exact absurd (show false=true from fy) VV
theorem yq:fc X (.builtin "len") (λxs H Q=>∃p ys,xs=[.ref p]/\(cY X.K H p ys\/eZ X.K H p ys)/\Q (.int ys.length) H):=by
 intro Ux s σ H xs us Q I r h;obtain⟨p,ys,rfl,hq,q⟩:=h;obtain⟨u,rfl,rx⟩:=vals1 r;cases rx;have hn:=mL;rcases hq with hq|hq
 ·obtain⟨Uy,r',pl,hz⟩:=I.list hq;have hlen:=r'.length;exact Calls.call_len_list pl.isList (by simp only[U5]<;>omega) ⟨.int ys.length,H,I.tok _,⟨s.toks+1,by rw[U5,hlen]⟩,q⟩
 ·obtain⟨Uy,r',pl,hz⟩:=I.tuple hq;have hlen:=r'.length;exact len_tuple pl (by simp only[U5]<;>omega) ⟨.int ys.length,H,I.tok _,⟨s.toks+1,by rw[U5,hlen]⟩,q⟩
theorem yr:fc X (.builtin "len") (λxs H Q=>∃z,xs=[.str z]/\z.length<=sizeLine/\Q (.int z.length) H):=by intro Ux s σ H xs us Q I r h;obtain⟨z,rfl,hz,q⟩:=h;obtain⟨u,rfl,t,rfl⟩:=vals1 r;have hn:=mL;exact len_str 112 ⟨.int z.length,H,I.tok _,⟨_,rfl⟩,q⟩
theorem fc.or{f:UH}{r r':List V->Hp->VK->Prop}(h:fc X f r)(h':fc X f r'):fc X f (λxs H Q=>r xs H Q\/r' xs H Q):=by
 intro Ux s σ H xs us Q I rs q;rcases q with q|q
 ·exact h Ux s σ H xs us Q I rs q
 ·exact h' Ux s σ H xs us Q I rs q
theorem yt:fc X (.type "list") (λxs H Q=>∃p ys,xs=[.ref p]/\(cY X.K H p ys\/eZ X.K H p ys)/\∀l,H l=none->Q (.ref l) (upd H l (.lst ys))):=by
 intro Ux s σ H xs us Q I r h;obtain⟨p,ys,rfl,hq,q⟩:=h;obtain⟨u,rfl,rx⟩:=vals1 r;cases rx;have fin:∀(Uy:List UH),Vals ys Uy->ys.length<=sizeLine->∀(h':VU)(c':Nat),(∀b o',s.heap.get? b=some o'->h'.get? b=some o')->
   h'.get? s.heap.objs.size=some {cls:=.type "list",dict:=none,data:=.seq Uy.toArray c',slots:=#[]}->EP X Ux σ Q 236 {s with heap:=h'}:=λUy r' hz h' c' kp e=>
  ⟨.ref s.heap.objs.size,_,I.laid (t':=s.toks) kp (UW _) (show cB X.prog X.w _ h' _ (.lst ys)from⟨hz,Uy,c',r',e⟩),rfl,q _ (I.hok.fresh (UW _))⟩
 rcases hq with hq|hq
 ·obtain⟨Uy,r',pl,hz⟩:=I.list hq;have hlen:=r'.length;obtain⟨o,ho,hc,n,hd⟩:=pl.isList;exact aeK p 394 ho hc hd (λh' c' kp e=>fin Uy r' hz h' c' kp e) (by simp only[U5]<;>omega)
 ·obtain⟨Uy,r',pl,hz⟩:=I.tuple hq;have hlen:=r'.length;obtain⟨o,ho,hc,n,hd⟩:=pl;exact aeK p (.inr rfl) ho hc hd (λh' c' kp e=>fin Uy r' hz h' c' kp e) (by simp only[U5]<;>omega)
theorem nS:fc X 260 (λxs H Q=>∃p ys,xs=[.ref p]/\((cY X.K H p ys/\∀l,H l=none->Q (.ref l) (upd H l (.tup ys)))\/(eZ X.K H p ys/\Q (.ref p) H))):=by
 intro Ux s σ H xs us Q I r h;obtain⟨p,ys,rfl,h⟩:=h;obtain⟨u,rfl,rx⟩:=vals1 r;cases rx;rcases h with⟨hq,q⟩|⟨hq,q⟩
 ·obtain⟨Uy,r',pl,hz⟩:=I.list hq;have hlen:=r'.length;refine call_tuple_list pl.isList (λh' kp=>?_) (by simp only[U5]<;>omega);have I1:Inv X Ux σ H {s with heap:=h'}:=I.kept (t':=s.toks) kp;have I2:Inv X Ux σ (upd H h'.objs.size (.tup ys)) {s with heap:=h'.push {cls:=.type "tuple",data:=.seq Uy.toArray}}:=
   I1.laid (t':=s.toks) (λb o e=>UK _ e) (UW _) (show cB X.prog X.w _ _ _ (.tup ys)from⟨hz,Uy,r',adQ _ _,λo q=>by rw[US _ rfl]at q;cases q;rfl⟩)
  exact⟨.ref h'.objs.size,_,I2,rfl,q _ (I1.hok.fresh (UW _))⟩
 ·obtain⟨Uy,r',pl,hz⟩:=I.tuple hq;exact call_tuple_same pl ⟨.ref p,H,I,rfl,q⟩
noncomputable def OP(K:UG)(T:String)(x:V)(H:Hp):Prop:=match x with
 | .str _=>T="str"
 | .int _=>T="int"
 | .ref p=>(T="list"/\∃xs,cY K H p xs)\/(T="tuple"/\∃o,K.lookup p=some o/\o.cls=.type "tuple"/\o.dict=none)\/
   (T="dict"/\((∃UC,H p=some (.dK UC))\/∃UC,H p=some (.dT UC)))\/(T="set"/\∃S n,H p=some (.set S n))
 |_=>False
theorem Gn{H:Hp}{s:UI}(I:135)(r:RelV x v)(ty:OP X.K T x H):
  s.TypeIs v T/\∀a,v=.ref a->∃ob,s.heap.get? a=some ob/\ob.dict=none:=by
 cases x with
 |str z=>
  obtain⟨t,rfl⟩:=r;cases(show T="str" from ty);exact⟨acS s z t,λ_ e=>nomatch e⟩
 |int i=>
  obtain⟨t,rfl⟩:=r;cases(show T="int" from ty);exact⟨aes s i t,λ_ e=>nomatch e⟩
 |ref p=>
  cases r;rcases ty with⟨rfl,xs,hq⟩|⟨rfl,o,hk,hc,hd⟩|⟨rfl,hk⟩|⟨rfl,S,n,hk⟩
  ·obtain⟨Uy,_,pl,_⟩:=I.list hq;refine⟨pl.isList.typeIs,λa e=>?_⟩;cases e;obtain⟨o,n,e,c,hd,_⟩:=pl;exact⟨o,e,hd⟩
  ·refine⟨⟨o,I.kIn p o hk,hc⟩,λa e=>?_⟩;cases e;exact⟨o,I.kIn _ o hk,hd⟩
  ·have z:∃o,s.heap.get? p=some o/\o.ExactDict:=by
    rcases hk with⟨UC,hk⟩|⟨UC,hk⟩
    ·obtain⟨_,_,_,_,o,_,_,e,ex,_⟩:=I.hok p _ hk;exact⟨o,e,ex⟩
    ·obtain⟨_,_,_,_,o,_,_,e,ex,_⟩:=I.hok p _ hk;exact⟨o,e,ex⟩
   obtain⟨o,e,ex⟩:=z;refine⟨⟨o,e,ex.1⟩,λa e2=>?_⟩;cases e2;exact⟨o,e,ex.2.1⟩
  ·obtain⟨o,_,_,_,e,ex,_⟩:=I.hok p _ hk;refine⟨⟨o,e,ex.1⟩,λa e2=>?_⟩;cases e2;exact⟨o,e,ex.2.1⟩
 |_=>exact WB ty
def Q8(K:UG)(T:String)(r:V->List V->Hp->VK->Prop)(to:TE):TE:=λσ H Q=>to σ H λx H1=>OP K T x H1/\r x [] H1 Q
def Ru(K:UG)(T:String)(r:V->List V->Hp->VK->Prop)(to:TE)(t:TA):TE:=λσ H Q=>to σ H λx H1=>OP K T x H1/\t σ H1 λxs H2=>r x xs H2 Q
variable{o e:VC}{es:List VC}{to:TE}{t:TA}{name:Str}{apos cpos:Pos}{T id:String}{r:V->List V->Hp->VK->Prop}
theorem NX(pa:PlainAttrs T)(slot:Slot T name id)(hty:typeOf (.builtin id)=pure (.type "method_descriptor"))(hm:P8 X id r)(ho:PE X o to)
  (hbase:autoParam (WH o name X.env (eval o X.env)=eval o X.env) zzA._auto_1) (hline:autoParam ((apos.endLine==cpos.line)=true) zzA._auto_1):PE X (.Call (.Attribute o name apos) [] [] cpos) (Q8 X.K T r to):=by intro Ux s σ H Q I h;refine wpAny_Call_method0_late hbase hline (bO (ho Ux s σ H _ I h) λv s1 ⟨x,H1,I1,r1,ty,q1⟩=>?_);obtain⟨h1,h2⟩:=Gn I1 r1 ty;exact⟨T,id,pa,slot,hty,h1,h2,abh rfl (PySem.evalArgs_none (hm Ux s1 σ H1 x [] v [] Q I1 r1 .nil q1))⟩
theorem Jz(pa:PlainAttrs T)(slot:Slot T name id)(hty:typeOf (.builtin id)=pure (.type "method_descriptor"))(hm:P8 X id r)(ho:PE X o to)(ha:PA X (e::es) t)
  (hbase:autoParam (WH o name X.env (eval o X.env)=eval o X.env) zzA._auto_1)
  (hfew:autoParam (((Wr cpos (UP (e::es) X.env)).all (λx=>!x.1)&&(acy cpos (Z7 [] X.env)).all (λx=>x.1.isSome)
   && decide ((e::es).length+([]:List adR).length+(if([]:List adR).isEmpty then 0 else 1)<30))=true) zzA._auto_1)
  (hline:autoParam ((apos.endLine==cpos.line)=true) zzA._auto_1) (hs:153) (hplain:autoParam ((Wr cpos 319).any (·.1)=false) zzA._auto_1):
  PE X (.Call (.Attribute o name apos) (e::es) [] cpos) (Ru X.K T r to t):=by intro Ux s σ H Q I h;refine wpAny_Call_method_late hbase hfew hline rfl (bO (ho Ux s σ H _ I h) λv s1 ⟨x,H1,I1,r1,ty,q1⟩=>?_);obtain⟨h1,h2⟩:=Gn I1 r1 ty;refine⟨T,id,pa,slot,hty,h1,h2,?_⟩;have hA:=ha cpos Ux s1 σ H1 _ I1 q1;rw[hs]at hA ⊢;refine abh (by show(false||(Wr cpos 319).any (·.1))=false;rw[hplain]<;>rfl) (Calls.evalArgs_plain ?_);exact bO hA λus s2 ⟨vs,H2,I2,r2,q2⟩=>hm Ux s2 σ H2 x vs v us Q I2 r1 r2 q2
end
noncomputable def IP(X:Cx)(id:String)(r:V->List V->Hp->VK->Prop):Prop:=
 ∀(Ux:143)(s:UI)(σ:St)(H:Hp)(x:V)(xs:List V)(v:UH)(us:List UH)(Q:VK),Inv X Ux σ H s->RelV x v->Vals xs us->r x xs H Q->
  UZ 126 X.A (call (.builtin id) (v::us)) (EP X Ux σ Q) X.xe s
theorem Vals.one:∀{x:V}{us:List UH},Vals [x] us->∃u,us=[u]/\RelV x u
 |_,_,.cons r .nil=>⟨_,rfl,r⟩
theorem Vals.zero:∀{us:List UH},Vals [] us->us=[]
 |_,.nil=>rfl
theorem Vals.dropLast{xs:List V}{us:List UH}(h:Vals xs us):Vals xs.dropLast us.dropLast:=by
 induction h with
 |nil=>exact .nil
 |cons r t ih=>
  cases t with
  |nil=>exact .nil
  |cons q t'=>exact .cons r ih
theorem Vals.reverse{xs:List V}{us:List UH}(h:Vals xs us):Vals xs.reverse us.reverse:=by
 induction h with
 |nil=>exact .nil
 |cons r t ih=>rw[Zu,Zu];exact Vals.append ih (.cons r .nil)
theorem Cr{α:Type}(l:List α):l.eraseIdx (l.length-1)=l.dropLast:=by
 induction l with
 |nil=>rfl
 |cons a r ih=>
  cases r with
  |nil=>rfl
  |cons b r=>
   have e:(a::b::r).length-1=((b::r).length-1)+1:=by have h1:(a::b::r).length=r.length+2:=rfl;have h2:(b::r).length=r.length+1:=rfl;omega
   rw[e,List.eraseIdx_cons_succ,ih]
   all_goals rfl
section
variable{X:Cx}{Ux:List (UX×Obj)}{σ:St}{H:Hp}{s:UI}{l b:UX}{xs ys zs:List V}
theorem Inv.lset{Uy its':List UH}{f:Array UH->Array UH}(I:135)(hH:H l=some (.lst xs))
 (e:s.heap.get? l=some {cls:=.type "list",data:=.seq Uy.toArray n}) (hf:f Uy.toArray=its'.toArray) (hv:Vals ys its') (hz:ys.length<=sizeLine):
  Inv X Ux σ (upd H l (.lst ys)) {s with heap:=s.heap.update l (XD f),toks:=t'}:=by have q:=afT e f;rw[hf]at q;refine I.write (x:=l) (e:=l) (by rw[hH];exact trivial) 394 (λb' u hb hu=>(U_ s.heap (XD f) (VF hb)).trans hu) ⟨_,q⟩ ?_;exact⟨hz,its',_,hv,q⟩
theorem Inv.lnew{Uy:List UH}(I:135)(hv:Vals ys Uy)(hz:ys.length<=sizeLine):
  Inv X Ux σ (upd H s.heap.objs.size (.lst ys)) {s with heap:=s.heap.push {cls:=.type "list",data:=.seq Uy.toArray},toks:=t'}:=
 I.laid (λ_ _ q=>UK _ q) (UW _) ⟨hz,Uy,0,hv,US _ rfl⟩
theorem Inv.fresh(I:135):H s.heap.objs.size=none:=I.hok.fresh (UW _)
theorem Inv.lstM(I:135)(hH:H l=some (.lst xs)):xs.length<=sizeLine/\∃(Uy:List UH)(n:Nat),Vals xs Uy/\xs.length=Uy.length/\s.heap.get? l=some {cls:=.type "list",data:=.seq Uy.toArray n}:=by obtain⟨z,Uy,n,r,e⟩:=I.hok l _ hH;exact⟨z,Uy,n,r,r.length,e⟩
theorem zj(h:n<=sizeLine):Xd n=false:=by unfold Xd;exact decide_eq_false 112
end
section
variable{X:Cx}
noncomputable def LO:V->List V->Hp->VK->Prop:=λx vs H Q=>∃l xs y,x=.ref l/\vs=[y]/\H l=some (.lst xs)/\xs.length<sizeLine/\Q .non (upd H l (.lst (xs++[y])))
theorem vX:IP X "list.append" LO:=by intro Ux s σ H x vs v us Q I rx rv h;obtain⟨l,xs,y,rfl,rfl,hH,hz,q⟩:=h;cases rx;obtain⟨u,rfl,ru⟩:=rv.one;obtain⟨z,Uy,n,r,hl,e⟩:=I.lstM hH;refine acT F.slot_list_append ⟨_,e,rfl⟩ F.entry_list_append (F.args_list_append_2 _ _) (PySem.list_append l Uy.toArray n u (by rw[U5];omega)) ⟨e,?_⟩;refine⟨.non,_,I.lset (its':=Uy++[u]) hH e 229 (r.append (.cons ru .nil)) ?_,rfl,q⟩;rw[UQ,List.length_singleton];omega
noncomputable def LQ:V->List V->Hp->VK->Prop:=λx vs H Q=>∃l b xs zs,x=.ref l/\vs=[.ref b]/\H l=some (.lst xs)/\H b=some (.lst zs)/\xs.length+zs.length<=sizeLine/\Q .non (upd H l (.lst (xs++zs)))
theorem Qk:IP X "list.extend" LQ:=by
 intro Ux s σ H x vs v us Q I rx rv h;obtain⟨l,b,xs,zs,rfl,rfl,hH,hB,hz,q⟩:=h;cases rx;obtain⟨u,rfl,ru⟩:=rv.one;cases ru;obtain⟨z,Uy,n,r,hl,e⟩:=I.lstM hH;obtain⟨z2,its2,n2,r2,hl2,e2⟩:=I.lstM hB;have hsz:Uy.toArray.size+its2.toArray.size<=sizeLine:=by rw[U5,U5];omega
 have Sx:¬(!Uy.toArray.isEmpty&&Xd (Uy.toArray.size+its2.toArray.size))=true:=by rw[zj hsz,YQ];exact VV
 refine acT acz ⟨_,e,rfl⟩ ab_ (abY _ _)
  (AutoSeq1.list_extend_list_list_0 l Uy.toArray n b its2.toArray n2 Sx (by rw[U5];omega) 112) ⟨e,e2,?_⟩
 refine⟨.non,_,I.lset (its':=Uy++its2) hH e 229 (r.append r2) ?_,rfl,q⟩;rw[UQ];omega
noncomputable def QU:V->List V->Hp->VK->Prop:=λx vs H Q=>∃l xs y,x=.ref l/\vs=[]/\H l=some (.lst xs)/\xs[xs.length-1]?=some y/\Q y (upd H l (.lst xs.dropLast))
theorem NI:IP X "list.pop" QU:=by
 intro Ux s σ H x vs v us Q I rx rv h;obtain⟨l,xs,y,rfl,rfl,hH,hy,q⟩:=h;cases rx;have Uq:=rv.zero;subst Uq;obtain⟨z,Uy,n,r,hl,e⟩:=I.lstM hH;obtain⟨u,hu,ru⟩:=r.get hy;have hy':Uy.toArray[Uy.toArray.size-1]?=some u:=by show Uy.toArray[Uy.length-1]?=some u;rw[<-Yx,<-hl];exact hu
 refine acT F.slot_list_pop ⟨_,e,rfl⟩ F.entry_list_pop (F.args_list_pop_1 _) (MeetsSeq.list_pop_last l Uy.toArray n u hy' (by rw[U5];omega)) ⟨e,?_⟩;refine⟨y,_,I.lset (its':=Uy.dropLast) hH e ?_ r.dropLast ?_,ru,q⟩
 ·show Uy.toArray.eraseIdxIfInBounds (Uy.toArray.size-1)=Uy.dropLast.toArray;rw[U5,List.eraseIdxIfInBounds_toArray,Cr]
 ·rw[List.length_dropLast];omega
noncomputable def QO:R2:=λx y H Q=>∃l b xs zs,x=.ref l/\y=.ref b/\H l=some (.lst xs)/\H b=some (.lst zs)/\xs.length+zs.length<=sizeLine/\∀p,H p=none->Q (.ref p) (upd H p (.lst (xs++zs)))
theorem Fg:dU X (Ys .Add) QO:=by
 intro Ux s σ H x y v u Q I rx ry h;obtain⟨l,b,xs,zs,rfl,rfl,hH,hB,hz,q⟩:=h;cases rx;cases ry;obtain⟨z,Uy,n,r,hl,e⟩:=I.lstM hH;obtain⟨z2,its2,n2,r2,hl2,e2⟩:=I.lstM hB;refine PySem.P.add_list e e2 ?_ (by rw[U5,U5];omega);have ea:Uy.toArray++its2.toArray=(Uy++its2).toArray:=by simp
 rw[ea];exact⟨.ref _,_,I.lnew (t':=s.toks) (r.append r2) (by rw[UQ];omega),rfl,q _ I.fresh⟩
end
end L2
namespace Att
open PySem PySem.W PySem.Calls PyProof.Rows
theorem tU:∀(ns:List Int)(vs:List UH),WellAll P h vs (ns.map afU)->aeL vs ns:=by
 intro ns
 induction ns with
 |nil=>
  intro vs w;rw[ado]at w;cases w;exact .nil
 |cons n ns ih=>
  intro vs w;rw[Vl]at w;cases w with
  |cons a b=>
   cases a;exact .cons _ _ (ih _ b)
theorem F5{l:OpenLaw}(hn:l.most=some n){h:VU}
 (hpre:l.row.toRowW.claim.pre args=true) (hwl:WellAll P h vals args):
  ∃a vs ns,vals=[VI a]/\args=[WData.list (ns.map afU)]/\h.get? a=some {cls:=.type "list",data:=.seq vs.toArray}/\aeL vs ns/\ns.length<=n:=by
 have hsh:WShape.hasAll [] args [.list .int]=true:=(pre_splitW hpre).1;have hc:l.pre.holds [] {args:=args}=true:=(pre_splitW hpre).2;obtain⟨d,r,rfl,h1,h2⟩:=hasAllW_cons hsh;obtain rfl:=hasAllW_nil h2;obtain⟨xs,rfl,h3⟩:=hasW_list h1;obtain⟨ns,rfl⟩:=items_int h3;have hlen:ns.length<=n:=by
  unfold OpenLaw.pre at hc;have h4:(WTm.not (.lt (.lit (.int (n:Int))) (.len (.arg 0)))).holds [] {args:=[.list (ns.map .int)]}=true:=by have h4:=(holds_andW hc).1;rw[hn]at h4;exact h4
  have h5:=condW_of h4 (w_not (w_lt w_lit (w_len_list (w_arg rfl))));rw[UL]at h5;refine Nat.le_of_not_lt λq=>?_;have q':(n:Int)<((ns.length:Nat):Int):=by omega
  first
   |(rw[decide_eq_true q']at h5;exact absurd h5 120)
   |(simp at h5;omega)
 cases hwl with
 |cons w1 w2=>
  cases w2;cases w1 with
  |list ho hall=>exact⟨_,_,ns,rfl,rfl,ho,tU ns _ hall,hlen⟩
theorem FI(l:OpenLaw)(args:List WData):l.row.toRowW.claim.post args (.bool true) args=true:=
 postW_of (r:=l.row.toRowW) (X:=(true==true))
  (show afP [] (.bool true) .bool=true by first|rfl|decide|simp[afP,WShape.arms,WShape.armsAll])
  (show(WTm.eq .res (.lit (.bool true))).value [] {args:=args,res:=some (.bool true),after:=args}=some (.bool (true==true))from w_eq_bool (w_res rfl) w_lit) rfl
theorem Ad{l:OpenLaw}{XP:(Str->Option UH)->VU->Prop}{YP:Vj->VU->Prop}{d:DefRec}
 (hn:l.most=some n) (hdf:d.params.defaults=[])
 (call:∀(w:Vj)(s₀ s₁:UI)(mg mb:145)(fa:UX)(o:Obj)(pm cd doc:UH)(a:UX)(vs:List UH)(ns:List Int),
 Ground q loose [] XP w s₀ mg mb s₁.heap->YP w s₁.heap->
 s₁.heap.get? fa=some o->o.data=.func (docDef d.name d.params d.body d.scope pm cd doc)->s₁.heap.CodeRec cd d.name->mg d.name=some (.ref fa)->
 s₁.heap.get? a=some {cls:=.type "list",data:=.seq vs.toArray}->aeL vs ns->ns.length<=n->s₁.gens=#[]->
 WC (U9 l.prog w) acU (.call (.ref fa) ⟨[.ref a],[]⟩) (λr s'=>r=.ok (.ret (.bool true))/\OldK s₁.heap s'.heap/\s'.os=s₁.os/\aaP s'.gens) s₁):
  WalkO q loose XP YP l.row.toRowW d [] (λf vs=>aet f vs):=by intro w s₀ s₁ mg mb G Y fa o pm cd doc dV kV ho hd hcd hD hmg hg args vals as hpre hlay hrd hwl hlo;obtain rfl:dV=.none:=Dflts.none hD hdf;obtain rfl:kV=.none:=Dflts.noKw hD;obtain⟨a,vs,ns,rfl,rfl,hobj,hints,hlen⟩:=F5 hn hpre hwl;refine enter_call (Xo (call w s₀ s₁ mg mb fa o pm cd doc a vs ns G Y ho (fd_plain hd) hcd hmg hobj hints hlen hg) λr s' hq=>?_);obtain⟨rfl,h2,h3,h4⟩:=hq;exact⟨.inl ⟨.bool true,.bool true,[],rfl,λ_=>rfl,.bool true,FI l _,λ_=>⟨Zv,λ_ hm=>(nomatch hm)⟩⟩,h2,h3,h4⟩
end Att
namespace L2
open PySem PySem.Spec PyProof.Rows
theorem wC:∀{vs:List UH}{ns:List Int},aeL vs ns->Vals (ns.map V.int) vs
 |_,_,.nil=>.nil
 |_,_,.cons n t h=>.cons ⟨t,rfl⟩ (wC h)
def BX(H:Hp):Prop:=∀b,H b=none\/∃o xs,H b=some (.frz o (.lst xs))
theorem Hv{K:UG}{mg mb:145}{sp:Sp}{s₁:UI}{vs:List UH}{ns:List Int}
 (KX:K.In s₁.heap) (hns:s₁.heap.Ns UT mg) (hb:s₁.heap.Ns aep mb) (T_:∀x:Str,x≠"__name__"->mb x=Wy x) (hlim:s₁.heap.NoLimit) (hg:s₁.gens=#[])
 (ha:s₁.heap.get? a=some {cls:=.type "list",data:=.seq vs.toArray}) (hi:aeL vs ns) (hl:ns.length<=sizeLine) (hr:cG k acU)
 (F:∀base:VU,K.In base->base.Ns UT mg->dF P w K mg base CX k fa fd [x] sp) (hbind:∀(s:UI)(u:UH),adP s fd ⟨[u],[]⟩ [(x,u)])
 (SD:∀H:Hp,BX H->cY K H a (ns.map V.int)->sp [.ref a] H (λv _=>v=.bl true) λ_ _ _=>False)
 (S_:∀H e s',CX [] H s₁ (λ_ _ _=>False) e s'->False):
  WC (U9 P w) acU (.call (.ref fa) ⟨[.ref a],[]⟩) (λr s'=>r=.ok (.ret (.bool true))/\OldK s₁.heap s'.heap/\s'.os=s₁.os/\aaP s'.gens) s₁:=by
 have rv:=wC hi;have lenV:=hi.length;have core:∀H:Hp,BX H->cY K H a (ns.map V.int)->eT P w H s₁.heap->(∀b,H b≠none->b=a)->(H a≠none->K.lookup a=none)->
   WC (U9 P w) acU (.call (.ref fa) ⟨[.ref a],[]⟩) (λr s'=>r=.ok (.ret (.bool true))/\OldK s₁.heap s'.heap/\s'.os=s₁.os/\aaP s'.gens) s₁:=by
  intro H hO hS hok hA hK;have base_of:∀{b:UX}{o:Obj},s₁.heap.get? b=some o->H b=none->(nu s₁.heap H).get? b=some o:=λe n=>Hf e n;have noA:∀{b:UX}{o:Obj}{es:Array Z0}{ep:Nat},s₁.heap.get? b=some o->o.data=.dict es ep->H b=none:=fun {b o es ep} e d=>by
   cases q:H b with
   |none=>rfl
   |some u=>
    have e':b=a:=hA b (by rw[q];simp);subst e';rw[ha]at e;cases e;have d':Data.seq vs.toArray _=Data.dict es ep:=d;cases d'
  have nsK:∀{b:UX}{m:145},s₁.heap.Ns b m->(nu s₁.heap H).Ns b m:=fun {b m} ⟨o,es,ep,e,d,r⟩=>⟨o,es,ep,base_of e (noA e d),d,r⟩;have TN:K.In (nu s₁.heap H):=λb o e=>base_of (KX b o e) (by
   cases q:H b with
   |none=>rfl
   |some u=>
    have e':b=a:=hA b (by rw[q];simp);subst e';rw[hK (by rw[q];simp)]at e;cases e)
  have hM:Mod K mg (nu s₁.heap H):=⟨TN,nsK hns,⟨mb,nsK hb,T_⟩,let ⟨mc,h1,h2⟩:=hlim;⟨mc,nsK h1,h2⟩⟩;have e0:rG P w K mg (nu s₁.heap H) acU [] s₁ H:=⟨rfl,hM,λb o e=>Lb e,aby (EJ _ _),trivial,λb hb=>absurd (show b∈([]:List UX)from hb) 229,hok,.of_eq hg⟩;refine Xo ((F _ TN (nsK hns)).run acU [] s₁ H ⟨[.ref a],[]⟩ [.ref a] [.ref a] _ _ hr e0 (hbind s₁ 307) (.cons rfl .nil) (SD H hO hS)) λr s' h=>?_;cases r with
  |error e=>exact(S_ H e s' h).elim
  |ok fl=>
   cases fl with
   |next=>exact WB h
   |brk=>exact WB h
   |cont=>exact WB h
   |ret u=>
    obtain⟨v,H',os,bare,un,Tz,r',q⟩:=h;have q':v=.bl true:=q;subst q';obtain rfl:u=acM true:=r';refine⟨rfl,OldK.of_keep λb o e=>?_,os,bare⟩;cases q:H b with
    |none=>exact un.keep b o e q (by intro z;exact absurd (show b∈([]:List UX)from z) 229) 229
    |some u=>
     rcases hO b with z|⟨ob,xs,z⟩
     ·rw[q]at z;cases z
     ·have z2:=un.frzs b ob _ z;obtain⟨e1,_⟩:=hok b _ z;obtain⟨e2,_⟩:=Tz b _ z2;rw[e]at e1;cases e1;exact e2
 cases hk:K.lookup a with
 |some o=>
  have e:=KX a o hk;rw[ha]at e;cases e;refine core (λ_=>none) (λ_=>.inl rfl) (.inr ⟨_,vs.toArray,_,hk,rfl,rfl,rfl,by rw[U5,lenV];exact hl,by simpa using rv⟩) (λb u z=>by have z':(none:Option HO)=some u:=z;cases z') (λb z=>absurd rfl z) λz=>absurd rfl z
 |none=>
  refine core (λb=>if b=a then some (.frz {cls:=.type "list",data:=.seq vs.toArray} (.lst (ns.map V.int)))else none) (λb=>?_) (.inl (.inr ⟨{cls:=.type "list",data:=.seq vs.toArray},if_pos rfl⟩)) (λb u z=>?_) (λb z=>?_) λ_=>hk
  ·by_cases hb:b=a
   ·exact .inr ⟨_,_,if_pos hb⟩
   ·exact .inl (if_neg hb)
  ·by_cases hb:b=a
   ·have z':=(if_pos hb).symm.trans z;cases z';subst hb;exact⟨ha,by rw[UL];exact hl,vs,_,rv,ha⟩
   ·have z':=(if_neg hb).symm.trans z;cases z'
  ·by_cases hb:b=a
   ·exact hb
   ·exact absurd (if_neg hb) z
abbrev RG{K:UG}{h:VU}(_:K.In h):UG:=K
theorem Mi{l:abB}{XP:(Str->Option UH)->VU->Prop}{YP:Vj->VU->Prop}{d:DefRec}{K:ZZ->UG}{CX:Vj->mj}{sp:Vj->Sp}
 (hn:l.most=some n) (hn2:n<=sizeLine) (hdf:d.params.defaults=[]) (hr:cG k acU)
 (hY:∀(w:Vj)(h:VU),YP w h->(K w.params).In h)
 (F:∀(w:Vj)(mg:145)(fa:UX)(h:VU),(K w.params).In h->h.Ns UT mg->mg d.name=some (.ref fa)->
 ∃fd:Vp,(∀(s:UI)(u:UH),adP s fd ⟨[u],[]⟩ [(x,u)])/\
 ∀base:VU,(K w.params).In base->base.Ns UT mg->dF l.prog w (K w.params) mg base (CX w) k fa fd [x] (sp w))
 (SD:∀(w:Vj)(H:Hp)(a:UX)(ns:List Int),ns.length<=n->BX H->cY (K w.params) H a (ns.map V.int)->sp w [.ref a] H (λv _=>v=.bl true) λ_ _ _=>False)
 (S_:∀(w:Vj)(H:Hp)(s:UI)(e:UH)(s':UI),CX w [] H s (λ_ _ _=>False) e s'->False):
  aeM q loose XP YP l.row.toRowW d [] (λf vs=>aet f vs):=by refine Att.Ad hn hdf λw s₀ s₁ mg mb fa o pm cd doc a vs ns G Y ho hd hcd hmg hobj hints hlen hg=>?_;have KX:=hY w _ Y;obtain⟨fd,hb,hF⟩:=F w mg fa _ KX G.T.g hmg;exact Hv KX G.T.g G.T.b G.T.builtins G.T.nolimit hg hobj hints (Vr hlen hn2) hr hF hb (λH hO hS=>SD w H a ns hlen hO hS) λH e s'=>S_ w H s₁ e s'
abbrev ia:mj:=λ_ _ _ _ _ _=>False
abbrev E0:XK:=λ_ _ _=>False
theorem Dj:Passes ia X E0:=λ_ _ _ _ _ _ _ h=>h.elim
structure fN(K:UG)(x UB:Str)(st:Xq)(f:UX)(fd:Vp):Prop where
 ex:∃(oc:UH)(od:259)(kV doc pm:UH)(an:259)(cdv ct:UH)(osl:286),
  fd=Vm x UB (bX st) (bu st) (aF st) .none kV doc pm an cdv ct/\K.lookup f=some ⟨oc,od,.func fd,osl⟩/\WR K cdv UB=true
 kp:Vu K 344=true
section
variable{P:U0}{w:Vj}{K:UG}{mg:Str->Option UH}{base:VU}
theorem fN.ok{st:Xq}{N ps:131}{sp:Sp}(F:fN K x UB st f fd)(S:cK N ps (aF st))(len:∀vs H Q E,sp vs H Q E->vs.length=ps.length)
 (hbody:∀(cdv:UH)(A:Vw)(outer:List Env)(s:UI)(H:Hp)(vs:List V)(Q:VK)(E:XK),cG k 213->sp vs H Q E->
 ∃t,iQ (jH ia P w K mg base N UB (aF st) f cdv A outer s H E).nox (bu st) t/\t {nx:=λ_ H'=>Q .non H',rt:=Q} (start N vs) H):dF P w K mg base ia (k+1) f fd ps sp:=by obtain⟨oc,od,kV,doc,pm,an,cdv,ct,osl,rfl,lk,hcd⟩:=F.ex;refine Jj lk hcd S len λA outer s H vs Q E hr SD=>?_;obtain⟨t,h,q⟩:=hbody cdv A outer s H vs Q E hr SD;exact⟨t,h.nox,q⟩
theorem fN.binds{st:Xq}{ps:131}(F:fN K x UB st f fd)
 (h:156):Binds K fd ps []:=by obtain⟨oc,od,kV,doc,pm,an,cdv,ct,osl,rfl,lk,hcd⟩:=F.ex;exact .all (h kV doc pm an cdv ct)
theorem oJ{st:Xq}{kV doc pm cdv ct:UH}(l:K.lookup f=some ⟨oc,od,.func (Vm x UB (bX st) (bu st) (aF st) .none kV doc pm an cdv ct),osl⟩)
 (c:WR K cdv UB=true) (k:Vu K 344=true):fN K x UB st f (Vm x UB (bX st) (bu st) (aF st) .none kV doc pm an cdv ct):=⟨⟨oc,od,kV,doc,pm,an,cdv,ct,osl,rfl,l,c⟩,k⟩
end
theorem Nn{A B:Prop}(h:B):if false=true then A else B:=by rw[if_neg VV];exact h
theorem Np{A B:Prop}(h:A):if true=true then A else B:=by rw[if_pos rfl];exact h
def aY(H H':Hp):Prop:=∀b o,H b=some o->H' b=some o
theorem aY.refl(H:Hp):aY H H:=λ_ _ h=>h
theorem aY.trans{H H1 H2:Hp}(a:aY H H1)(b:aY H1 H2):aY H H2:=λc o h=>b c o (a c o h)
theorem aY.free{H H':Hp}(e:aY H H')(h:H' l=afv):H l=afv:=by
 cases q:H l with
 |none=>rfl
 |some o=>
  rw[e l o q]at h;cases h
theorem aY.seq{K:UG}{H H':Hp}{a:UX}{xs:List V}(e:aY H H')(h:cY K H a xs):cY K H' a xs:=by
 rcases h with(h|⟨o,h⟩)|h
 ·exact .inl (.inl (e _ _ h))
 ·exact .inl (.inr ⟨o,e _ _ h⟩)
 ·exact .inr h
end L2
namespace DX
open PySem PySem.Spec
open Sem (wp)
abbrev qB(C t:UX)(dx:259):Obj:={cls:=.ref C,dict:=dx,data:=.fields #[.ref t,.none,.none,.none,.bool false,.none]}
structure Made(h h':VU)(C e t:UX):Prop where
 keep:∀b o,h.get? b=some o->h'.get? b=some o
 new:h.objs.size<=e
 obj:h'.get? e=some (qB C t none)
section
variable{prog:U0}{w:Vj}{A:Vw}{E:UH->UI->Prop}{h:VU}{g:Array abU}{d:afN}{t:Nat}{os:abo}
variable{nm q:Str}{C N:UX}{bs bm bmB:List UH}{hdct:Bool}{sn:List Str}{sub:List UH}{ab:Bool}{col:Option Bool}{dd:Option UX}{k0 k1 k2 k3 k5:Option UH}{B Bn newId nid initId inN:String}{bmN:List UH}
theorem uH(Fn:Yb Bn newId inN bmN)(hBn:bmB.contains (.type Bn)=true)(F:Yb B nid initId bmB)(T:adS h bmB bm){mN:145}{rest:List UH}{fI:UX}{oI:Obj}{Q:Fin->UI->Prop}
  (hC:h.get? C=some 144) (hn:h.Ns N mN) (hi:mN "__init__"=some (.ref fI)) (hfI:h.get? fI=some oI) (hfc:oI.cls=.type "function")
  (hq:∀h' e tp,Made h h' C e tp->UZ 139 A (call (.ref fI) (.ref e::rest)) (λr s'=>r=.none/\Q (.done (.ret (.ref e))) s') E ⟨h',g,d,t,os⟩) (hrest:rest.length<=sizeLine):
  UZ 139 A (Ze.«type.__call__» ⟨.ref C::rest,[]⟩) Q E ⟨h,g,d,t,os⟩:=by
 repeat (first|with_reducible refine Wu hC ?_|with_reducible refine wpAny_madeBy_exc hC ?_|wp_step)
 refine codeAny_call_builtin_code (aap _ Fn.quiet) (wpAny_check_new_subU Fn hBn T hC (codeAny_exc_new_subU Fn hBn F T hC ?_ hrest));show UZ _ _ _ _ _ _;obtain⟨o1,q1⟩:∃o1:Obj,o1={cls:=.type "tuple",data:=.seq rest.toArray}:=⟨_,rfl⟩;obtain⟨o2,q2⟩:∃o2:Obj,o2={cls:=.ref C,data:=.fields #[.ref h.objs.size,.none,.none,.none,.bool false,.none]}:=⟨_,rfl⟩;rw[<-q1,<-q2];have up:∀b o,h.get? b=some o->((h.push o1).push o2).get? b=some o:=λb o hb=>UK o2 (UK o1 hb);have hC₁:=up _ _ hC;have hfI₁:=up _ _ hfI;have hn₁:((h.push o1).push o2).Ns N mN:=let ⟨o,es,ep,e,r⟩:=hn;⟨o,es,ep,up _ _ e,r⟩
 have hget:((h.push o1).push o2).get? (h.objs.size+1)=some o2:=by subst q1 q2;heap_get
 have hcC:(VI C::bm).contains 241=true:=by simp
 have T₁:=T.keeps (h':=(h.push o1).push o2) up;have c2:o2.cls=.ref C:=by subst q2;rfl
 unfold acV
 repeat (first|with_reducible refine Wu hget ?_|(simp only[c2];with_reducible refine Yi hC₁ ?_;rw[hcC])|wp_step)
 rw[c2];refine wpAny_typeLookup_tail hC₁ hn₁ T₁ F.mroIs F.init.lookup ?_;rw[hi];refine VG (UE ?_);unfold bindSpecial;refine UE (Yw (T:="function") ⟨_,hfI₁,hfc⟩ ?_);rw[if_pos 120];have made:Made h ((h.push o1).push o2) C (h.objs.size+1) h.objs.size:=⟨up,Xh _,by rw[hget,q2]⟩;refine UJ (UE (VH (hq _ _ _ made) (λr s' hr=>?_) λ_ _ x=>x));obtain⟨rfl,hQ⟩:=hr
 wp_walk
 exact hQ
theorem Ck(Fn:Yb Bn newId inN bmN)(hBn:bmB.contains (.type Bn)=true)(F:Yb B nid initId bmB)(T:adS h bmB bm){mN:145}{rest:List UH}{fI:UX}{oI:Obj}{Q:136}
  (hC:h.get? C=some 144) (hn:h.Ns N mN) (hi:mN "__init__"=some (.ref fI)) (hfI:h.get? fI=some oI) (hfc:oI.cls=.type "function")
  (hq:∀h' e tp,Made h h' C e tp->UZ 139 (A.under (.builtin "type.__call__" ⟨.ref C::rest,[]⟩)) (call (.ref fI) (.ref e::rest)) (λr s'=>r=.none/\Q (.ref e) s') E ⟨h',g,d,t,os⟩) (hrest:rest.length<=sizeLine):
  UZ 139 A (call 241 rest) Q E ⟨h,g,d,t,os⟩:=by
 have f1:=tc_lookup;have f2:=tc_bind 241;have hT:(⟨h,g,d,t,os⟩:UI).TypeIs 241 "type":=⟨_,hC,rfl⟩;refine Yo (Zf ?_);show UZ _ _ (callAny 241 _) _ _ _
 repeat (any_goals (first|assumption|with_reducible refine Wu hC ?_|wp_step))
 exact⟨rfl,codeAny_call_builtin_at (aap _ 180) entry_typeCall (wpAny_check_type_call_sub hC (uH Fn hBn F T hC hn hi hfI hfc (λh' e tp hm=>hq h' e tp hm) hrest))⟩
end
section
variable{prog:U0}{w:Vj}{A:Vw}{E:UH->UI->Prop}{s:UI}{env:Env}
variable{nm q:Str}{C N:UX}{bs bm bmB:List UH}{hdct:Bool}{sn:List Str}{sub:List UH}{ab:Bool}{col:Option Bool}{dd:Option UX}{k0 k1 k2 k3 k5:Option UH}{B Bn newId nid initId inN:String}{bmN:List UH}
theorem w5{Q:Flow->UI->Prop}(hbase:bm.contains 323=true)(hh:A.handled=none)
 (h:UZ 139 A x (λv s₁=>∃e t dx,v=.ref e/\s₁.heap.get? C=some 144/\s₁.heap.get? e=some (qB C t dx)/\E (.ref e) s₁) E s):UZ 139 A (raiseStmt env (some x) none) Q E s:=by
 have tQ:(VI C::bm).contains 323=true:=by simp only[Wz,hbase,aaq]
 unfold raiseStmt;refine UE (VH h (λv s₁ h₁=>?_) λ_ _ x=>x);obtain⟨e,t,dx,rfl,hC,he,hE⟩:=h₁;obtain⟨hp,g,d,tk,os⟩:=s₁
 repeat (first|with_reducible refine Wu he ?_|with_reducible refine Wu hC ?_|(with_reducible refine Yi hC ?_;rw[tQ])|wp_step)
 exact wpAny_raiseNew_none hh hE
end
end DX
namespace DX
open PySem PySem.Spec
abbrev vN(l:List Env):List UX:=l.filterMap (·.frame)
structure MA(fs:List UX)(e:UX)(oe:Obj)(vs:Array UH)(fl:UH)(h h':VU):Prop where
 keep:∀b o,h.get? b=some o->b≠e->b∉fs->h'.get? b=some o
 slot:∀b o,h.get? b=some o->b≠e->∃sl,h'.get? b=some {o with slots:=sl}
 exc:∃T oT ts,h.objs.size<=T/\T≠e/\h'.get? e=some {oe with data:=.fields (vs.setIfInBounds 1 (.ref T))}/\h'.get? T=some oT/\oT.data=.fields ts/\ts[3]?=some fl
section
variable{M:ab8}{A:Vw}{E:UH->UI->Prop}{s:UI}
theorem CV{o:Obj}(hd:o.data=.fields vs)(f:Array UH->Array UH):aaS f o={o with data:=.fields (f vs)}:=by obtain⟨c,d,dt,sl⟩:=o;obtain rfl:dt=.fields vs:=hd;rfl
theorem G2{env:Env}{oe:Obj}{vs:Array UH}{Q:347}(hfr:A.frames=some (env::outer))(hl:s.heap.FunFrames base (env::outer))(hf:env.frame=some L)
 (he:s.heap.get? e=some oe) (hd:oe.data=.fields vs) (hsz:1<vs.size) (h:∀h',MA (vN (env::outer)) e oe vs (abv L) s.heap h'->Q () {s with heap:=h'}):
  UZ M A (do let a <-frameOf env;let pl <-entryPlaceOf L hadNext;let b <-Z8 head a .none (abv L) .none pl;setField (.ref e) 1 b) Q E s:=by
 have Ti:e∉vN (env::outer):=λhm=>by obtain⟨_,o,ho,hnf⟩:=hl.mem hm;rw[he]at ho;exact hnf vs ((Ve ho)▸hd)
 refine UE (wpAny_frameOf_fun hfr hl hf λh₁ hs₁=>UE (wpAny_entryPlaceOf λpl hpl=>?_));unfold Z8 newFields;refine UE (Vn ?_ (hpl.sizeOk5 _ _ _ _ _));obtain⟨oT,qT⟩:∃oT:Obj,oT={cls:=.type "traceback",dict:=none,data:=.fields ([head,.ref L,.none,abv L,.none]++(if pl.isEmpty then Vv 6 Wk else pl)).toArray}:=⟨_,rfl⟩;rw[<-qT];have nf:oT.isFreed=false:=by rw[qT];rfl
 have he₁:h₁.get? e=some oe:=(hs₁.2.1 e Ti).trans he;have he₂:=UK oT he₁;refine ab4 he₂ hd hsz (h _ ?_);have SK:h₁.objs.size≠e:=WX (UY he₁);have he₃:=Vy (aaS (·.setIfInBounds 1 (VI h₁.objs.size))) he₂ (abC (aar hd _));have up:∀b o,b≠e->h₁.get? b=some o->((h₁.push oT).update e (aaS (·.setIfInBounds 1 (VI h₁.objs.size)))).get? b=some o:=λb o So hb=>by rw[U_ _ _ (VF So)];exact UK _ hb
 refine⟨λb o hb So SE=>up b o So ((hs₁.2.1 b SE).trans hb),λb o hb So=>?_,⟨h₁.objs.size,oT,([head,.ref L,.none,abv L,.none]++(if pl.isEmpty then Vv 6 Wk else pl)).toArray,?_,SK,by rw[he₃,CV hd],?_,by rw[qT],?_⟩⟩
 ·obtain⟨sl,hs⟩:=hs₁.2.2 b o hb;exact⟨sl,up b _ So hs⟩
 ·exact aby hs₁.1.symm
 ·rw[U_ _ _ (VF SK)];exact US h₁ nf
 ·first|(simp;done)|(rcases hpl with rfl|⟨_,_,_,_,_,_,_,rfl⟩<;>simp)
noncomputable def jz(e C:UX)(dx:259)(T:UX)(h:VU):Prop:=
 ∃oe vs oT ts v,h.get? e=some oe/\oe.cls=.ref C/\oe.dict=dx/\oe.data=.fields vs/\vs[1]?=some (.ref T)/\T≠e/\h.get? T=some oT/\oT.data=.fields ts/\ts[3]?=some v
structure Left(fs no:List UX)(h h':VU):Prop where
 keep:∀b o,h.get? b=some o->b∉no->b∉fs->h'.get? b=some o
 slot:∀b o,h.get? b=some o->b∉no->∃sl,h'.get? b=some {o with slots:=sl}
theorem JJ{e C T:UX}{dx fr:259}{Q:347}(hy:jz e C dx T s.heap)(h:∀h',(∀b,b≠T->h'.get? b=s.heap.get? b)->jz e C dx T h'->Q () {s with heap:=h'}):UZ M A (aaH (.ref e) fr) Q E s:=by obtain⟨oe,vs,oT,ts,v,he,hc,hx,hd,h1,SK,hT,gz,h3⟩:=hy;unfold aaH;refine UE (Yh he hd h1 ?_);rw[if_pos (show(VI T != Wk)=true from by simp)];have l3:=(VD.mp h3).1;exact ab4 hT gz l3 (h _ (λb hb=>U_ _ _ (VF hb)) ⟨oe,vs,_,_,_,(U_ _ _ SK).trans he,hc,hx,hd,h1,SK,Vy _ hT (abC (aar gz _)),aar gz _,Array.getElem?_setIfInBounds_self_of_lt l3⟩)
theorem AZ{base:VU}{env:Env}{outer:List Env}{L e C:UX}{dx:259}{oe:Obj}{vs:Array UH}{head:UH}{hadNext:Bool}{Q:347}(hfr:A.frames=some (env::outer))(hl:s.heap.FunFrames base (env::outer))(hf:env.frame=some L)
  (he:s.heap.get? e=some oe) (hc:oe.cls=.ref C) (hx:oe.dict=dx) (hd:oe.data=.fields vs) (hsz:1<vs.size) (h:∀h' T,Left (vN (env::outer)) [e] s.heap h'->s.heap.objs.size<=T->jz e C dx T h'->Q () {s with heap:=h'}):
  UZ M A (do let a <-frameOf env;let pl <-entryPlaceOf L hadNext;let b <-Z8 head a .none (abv L) .none pl;setField (.ref e) 1 b) Q E s:=by refine G2 hfr hl hf he hd hsz λh₁ ne=>?_;obtain⟨T,oT,ts,t0,tn,e1,e2,dT,f3⟩:=ne.exc;exact h _ T ⟨λb o hb hn hfs=>ne.keep b o hb (λz=>hn (by simp[z])) hfs,λb o hb hn=>ne.slot b o hb (λz=>hn (by simp[z]))⟩ t0 ⟨_,_,_,_,_,e1,hc,hx,rfl,by simp[hsz],tn,e2,dT,f3⟩
theorem De{base:VU}{env:Env}{outer:List Env}{L e C t:UX}{dx:259}{Q:347}(hfr:A.frames=some (env::outer))(hl:s.heap.FunFrames base (env::outer))(hf:env.frame=some L)(he:s.heap.get? e=some (qB C t dx))
  (h:∀h' T,Left (vN (env::outer)) [e] s.heap h'->s.heap.objs.size<=T->jz e C dx T h'->Q () {s with heap:=h'}):UZ M A (Yl (.ref e) env) Q E s:=by unfold Yl;simp only[hf];refine UE (Yh he rfl (x:=.none) rfl ?_);rw[if_neg 120];exact AZ hfr hl hf he rfl rfl rfl (by show 1<6;decide) h
theorem Fd{base:VU}{env:Env}{outer:List Env}{L e C T:UX}{dx:259}{Q:347}(hfr:A.frames=some (env::outer))(hl:s.heap.FunFrames base (env::outer))(hf:env.frame=some L)(hy:jz e C dx T s.heap)
  (h:∀h' T',Left (vN (env::outer)) [e,T] s.heap h'->(s.heap.objs.size<=T'\/T'=T)->jz e C dx T' h'->Q () {s with heap:=h'}):UZ M A (Yl (.ref e) env) Q E s:=by
 have Us:=hy;obtain⟨oe,vs,oT,ts,v,he,hc,hx,hd,h1,SK,hT,gz,h3⟩:=hy;unfold Yl;simp only[hf];refine UE (Yh he hd h1 ?_);rw[if_pos (show(VI T != Wk)=true from by simp)];refine UE (Yh hT gz h3 ?_);by_cases hv:(v==abv L)=true
 ·rw[if_pos hv];exact UJ (h s.heap T ⟨λb o hb _ _=>hb,λb o hb _=>⟨o.slots,hb⟩⟩ (.inr rfl) Us)
 rw[if_neg hv];refine UE (ab4 hT gz (VD.mp h3).1 ?_);have other:∀b,b≠T->(s.heap.update T (aaS (·.setIfInBounds 3 Wk))).get? b=s.heap.get? b:=λb hb=>U_ _ _ (VF hb);have noR:∀b o,s.heap.get? b=some o->(∀vs,o.data≠.fields vs)->b≠T:=λb o hb hnf z=>by rw[z,hT]at hb;exact hnf ts ((Ve hb)▸gz)
 refine AZ hfr (hl.of_keeps λb o hb hnf=>⟨o,(other b (noR b o hb hnf)).trans hb,rfl⟩) hf ((other e (VF SK)).trans he) hc hx hd (VD.mp h1).1 λh' T' lf t0 fy=>h h' T' ⟨λb o hb hn hfs=>?_,λb o hb hn=>?_⟩ (.inl (by rw[<-Heap.size_update];exact t0)) fy
 ·have n1:b≠e:=λz=>hn (by simp[z]);have n2:b≠T:=λz=>hn (by simp[z]);exact lf.keep b o ((other b n2).trans hb) (by simp[n1]) hfs
 ·have n1:b≠e:=λz=>hn (by simp[z]);have n2:b≠T:=λz=>hn (by simp[z]);exact lf.slot b o ((other b n2).trans hb) (by simp[n1])
end
end DX
namespace DX
open PySem PySem.Spec PyProof.Rows L2
def pL(a C:UX)(dx:259):VU->Prop:=λh=>∃oe vs,h.get? a=some oe/\oe.cls=.ref C/\oe.dict=dx/\oe.data=.fields vs
abbrev XO(a C:UX)(dx:259):HO:=.ext (pL a C dx)
noncomputable def Fl(e C:UX)(dx:259):Option UX->VU->Prop
 |none,h=>∃t,h.get? e=some (qB C t dx)
 |some T,h=>jz e C dx T h
theorem jz.is{e C T:UX}(f:jz e C dx T h):pL e C dx h:=by obtain⟨oe,vs,_,_,_,h1,h2,h3,h4,_⟩:=f;exact⟨oe,vs,h1,h2,h3,h4⟩
theorem yS{H:Hp}{a C:UX}(x:pL a C dx h):cB P w H h a (XO a C dx):=by
 refine⟨x,?_,λh1 h2 q k=>?_⟩
 ·obtain⟨oe,_,h1,_⟩:=x;exact⟨oe,h1⟩
 ·obtain⟨oe,vs,h1,h3⟩:=q;exact⟨oe,vs,k oe h1,h3⟩
section
variable{M:ab8}{A:Vw}{E:UH->UI->Prop}{s:UI}
theorem HJ{base:VU}{env:Env}{outer:List Env}{L e C:UX}{dx To:259}{Q:347}(hfr:A.frames=some (env::outer))(hl:s.heap.FunFrames base (env::outer))(hf:env.frame=some L)(hy:Fl e C dx To s.heap)
  (h:∀h' T',Left (vN (env::outer)) (e::To.toList) s.heap h'->(s.heap.objs.size<=T'\/T'∈To.toList)->jz e C dx T' h'->Q () {s with heap:=h'}):UZ M A (Yl (.ref e) env) Q E s:=by
 cases To with
 |none=>
  obtain⟨t,he⟩:=hy;exact De hfr hl hf he λh' T l t=>h h' T l (.inl t)
 |some T=>exact Fd hfr hl hf hy λh' T' l t=>h h' T' l (t.imp id λz=>by rw[z];exact UM.mpr rfl)
theorem zl{base:VU}{env:Env}{outer:List Env}{L e C:UX}{dx To:259}{Q:347}(hfr:A.frames=some (env::outer))(hl:s.heap.FunFrames base (env::outer))(hf:env.frame=some L)(hy:Fl e C dx To s.heap)
  (h:∀h' T',Left (vN (env::outer)) (e::To.toList) s.heap h'->(s.heap.objs.size<=T'\/T'∈To.toList)->jz e C dx T' h'->Q () {s with heap:=h'}):UZ M A (Yl (.ref e) env) (λ_ s'=>UZ M A (aaH (.ref e) none) Q E s') E s:=
 HJ hfr hl hf hy λh1 T1 lf t fy=>JJ fy λh2 ot fy2=>by
  have ne:∀b o,s.heap.get? b=some o->b∉e::To.toList->b≠T1:=λb o hb hn z=>t.elim (λt=>absurd (z▸UY hb) (Nat.not_lt.mpr t)) λt=>hn (UN _ (z▸t));exact h h2 T1 ⟨λb o hb hn hfs=>(ot b (ne b o hb hn)).trans (lf.keep b o hb hn hfs),λb o hb hn=>by
   obtain⟨sl,q⟩:=lf.slot b o hb hn;exact⟨sl,(ot b (ne b o hb hn)).trans q⟩⟩ t fy2
end
structure xT(P:U0)(w:Vj)(fs ex:List UX)(H:Hp)(s:UI)(E:XK)(e C:UX)(dx To:259)(H':Hp)(s':UI):Prop where
 os:s'.os=s.os
 bare:aaP s'.gens
 un:Un fs ex H H' s.heap s'.heap
 hok:eT P w H' s'.heap
 fl:Fl e C dx To s'.heap
 newE:s.heap.objs.size<=e
 newT:∀T∈To.toList,s.heap.objs.size<=T
 iP:H' e=some (XO e C dx)
 free:∀T∈To.toList,H' T=none
 wish:E (.ref e) dx H'
def kr(P:U0)(w:Vj):mj:=λouter H s E v s'=>∃e C dx T H',v=.ref e/\xT P w (frs outer) [] H s E e C dx (some T) H' s'
theorem xT.left{P:U0}{w:Vj}{fs fr ex:List UX}{H H':Hp}{s s':UI}{E:XK}{e C T':UX}{dx To:259}{h2:VU}(f:xT P w fs ex H s E e C dx To H' s')(lf:Left fr (e::To.toList) s'.heap h2)(t0:s'.heap.objs.size<=T'\/T'∈To.toList)(fy:jz e C dx T' h2)
  (hfr:∀b∈fr,H' b=none) (hold:∀b∈fr,b∈fs\/s.heap.objs.size<=b) (hsz:s.heap.objs.size<=s'.heap.objs.size):xT P w fs ex H s E e C dx (some T') H' {s' with heap:=h2}:=by
 have old:∀b o,s.heap.get? b=some o->b∉e::To.toList:=λb o hb hm=>by
  have lt:=UY hb;rcases UR.mp hm with z|z
  ·exact absurd (U6 lt (z▸f.newE)) (Ws _)
  ·exact absurd (U6 lt (f.newT b z)) (Ws _)
 refine⟨f.os,f.bare,⟨λb o hb hn hf hx=>?_,λb o hb hn hf hx=>?_,f.un.free,λb o hb hx=>?_,f.un.tups,f.un.frzs,f.un.tbls⟩,λa o ha=>?_,fy,f.newE,λT hT=>?_,f.iP,λT hT=>?_,f.wish⟩
 ·refine lf.keep b o (f.un.keep b o hb hn hf hx) (old b o hb) λhm=>?_;rcases hold b hm with z|z
  ·exact hf z
  ·exact absurd (U6 (UY hb) z) (Ws _)
 ·obtain⟨sl,q⟩:=f.un.slot b o hb hn hf hx;obtain⟨sl2,q2⟩:=lf.slot b _ q (old b o hb);exact⟨sl2,q2⟩
 ·obtain⟨o',q⟩:=f.un.there b o hb hx;obtain⟨sl2,q2⟩:=lf.slot b _ q (old b o hb);exact⟨_,q2⟩
 ·by_cases z:a=e
  ·subst z;rw[f.iP]at ha;obtain rfl:=Ve ha;exact yS fy.is
  ·refine(f.hok a o ha).stay (λb u hb q=>?_) (λ_ q=>q) λ_ _ q=>q;have tr:H' b≠none:=by
    rcases hb with rfl|hb
    ·rw[ha];intro z;cases z
    ·rw[hb];intro z;cases z
   refine lf.keep b u q (λhm=>?_) λhm=>tr (hfr b hm);rcases UR.mp hm with y|y
   ·rcases hb with rfl|hb
    ·exact z y
    ·rw[y,f.iP]at hb;cases hb
   ·exact tr (f.free b y)
 ·obtain rfl:T=T':=by simpa using hT
  exact t0.elim (Vr hsz) (f.newT T)
 ·obtain rfl:T=T':=by simpa using hT
  exact t0.elim f.hok.fresh (f.free T)
end DX
namespace DX
open PySem PySem.Spec PyProof.Rows
open Sem (wp)
section
variable{prog:U0}{w:Vj}{A:Vw}{E:UH->UI->Prop}{s:UI}{K:UG}{x C:UX}{ox:Obj}{od:Option Obj}{name:Str}
theorem yz{M:ab8}{Q:347}(X:K.In s.heap)(I:Xn s.heap x ox C od)(hm:Wv K C 323=some true)(hq:Q () s):UZ M A (XG "BaseException.__getattribute__" ⟨[.ref x,nameV],[]⟩) Q E s:=by
 have hk:builtinKind "BaseException.__getattribute__"=some .slot:=by decide +kernel
 have SD:splitId "BaseException.__getattribute__"=some ("BaseException","__getattribute__"):=by decide +kernel
 have ha:=F.args_bexc_ga (.ref x) nameV;have L1:=I.type (M:=M);have L2:=W.looks_mroIn (M:=M) X hm;simp only[XG,hk,SD];have L:W.Looks M s.heap (acV (.ref x) 323) true:=L1.andThen L2;refine UE (L.here ?_);obtain⟨h,g,d,t,os⟩:=s
 repeat (any_goals (first|assumption|wp_step))
theorem Ak{Q:Fin->UI->Prop}(X:K.In s.heap)(I:Xn s.heap x ox C od)(hf:Xu K C od name=some (.value v))(h:Q (.done (.ret v)) s):UZ 139 A (Ze.«object.__getattribute__» ⟨[.ref x,.str name tk],[]⟩) Q E s:=by obtain⟨hh,g,d,t,os⟩:=s;have L0:=I.type (M:=U9 prog w);have L1:=acA (M:=U9 prog w) X I hf;refine UE (UJ (UE (UJ (UE (L0.at (UE (L1.at ?_)))))));exact UJ h
theorem entry_class{Q:Fin->UI->Prop}(X:K.In s.heap)(I:Xn s.heap x ox C od)(hf:Xu K C od "__class__"=some (.bind 397 179))(hm:Wv K C (.type "object")=some true)(h:Q (.done (.ret 241)) s):
  UZ 139 A (Ze.«object.__getattribute__» ⟨[.ref x,.str "__class__" tk],[]⟩) Q E s:=by obtain⟨hh,g,d,t,os⟩:=s;have L0:=I.type (M:=U9 prog w);have L1:=acA (M:=U9 prog w) X I hf;refine UE (UJ (UE (UJ (UE (L0.at (UE (L1.at ?_)))))));show UZ _ _ (holding [_] (call _ [_,.ref x,.ref C])>>=ret) _ _ _;exact UE (VG (Yo (W.class_get (ox:=ox) (od:=od) X I hm (UJ h))))
theorem ED{tk:Tok}{fill expr:Bool}{Q:136}(X:K.In s.heap)(I:Xn s.heap x ox C od)(hga:U7 K 241 "__getattribute__"=some 287)(hgt:U7 K 241 "__getattr__"=some none)
  (h:WC 139 A (.call (.builtin "BaseException.__getattribute__") ⟨[.ref x,.str name tk],[]⟩) (λr s'=>match r with | .ok (.ret v)=>UZ 139 A (handedOut v) Q E s'|_=>False) s):UZ 139 A (getAttrBy (.ref x) (.str name tk) fill expr) Q E s:=by
 obtain⟨hh,g,d,t,os⟩:=s;have L0:=I.type (M:=U9 prog w);have L1:=ZP (M:=U9 prog w) X hga;have L2:=ZP (M:=U9 prog w) X hgt;have Ss:(acB "BaseException.__getattribute__" == acB "object.__getattribute__")=false:=by decide +kernel
 unfold getAttrBy;refine VG (UE (L0.at (UE (L1.at ?_))));dsimp only;rw[Ss,YQ,if_neg 120];unfold getAttrByItsOwn;refine UE (L2.at ?_);have h0:(expr&&onTheHeap (acB "BaseException.__getattribute__"))=false:=by cases expr<;>rfl
 refine UE (Zg (VG ?_));unfold callGetattribute;rw[h0,if_neg 120];unfold boundAndCalled;rw[Yy.ga.bind (.ref x)];refine UE (UJ (Yo (Xo h λr s' q=>?_)))
 match r,q with
 | .ok (.ret v),q=>exact q
theorem EE{Q:136}(X:K.In s.heap)(I:Xn s.heap x ox C od)(hga:U7 K 241 "__getattribute__"=some 287)(hgt:U7 K 241 "__getattr__"=some none)
 (hm:Wv K C 323=some true) (hf:Xu K C od name=some (.value v)) (hh:Yk v=true) (h:Q v {s with toks:=s.toks+1}):UZ 139 A (aeG (.ref x) name expr) Q E s:=by obtain⟨hp,g,d,t,os⟩:=s;unfold aeG;refine UE (wpAny_mkText (ED (s:=⟨hp,g,d,t+1,os⟩) X I hga hgt ?_));refine WW Yy.ga.plain adT (yz (s:=⟨hp,g,d,t+1,os⟩) X I hm (Ak (s:=⟨hp,g,d,t+1,os⟩) X I hf ?_));show UZ _ _ (handedOut v) _ _ _;rw[W.handedOut_of hh];exact UJ h
theorem get_class{Q:Option UH->UI->Prop}(X:K.In s.heap)(I:Xn s.heap x ox C od)(hga:U7 K 241 "__getattribute__"=some 287)(hgt:U7 K 241 "__getattr__"=some none)
  (hm:Wv K C 323=some true) (hf:Xu K C od "__class__"=some (.bind 397 179)) (ho:Wv K C (.type "object")=some true) (h:Q (some 241) {s with toks:=s.toks+1}):
  UZ 139 A (getAttr? (.ref x) "__class__") Q E s:=by obtain⟨hp,g,d,t,os⟩:=s;unfold getAttr? getAttrBy?;refine UE (wpAny_mkText (UE (Zg (ED (s:=⟨hp,g,d,t+1,os⟩) X I hga hgt ?_))));refine WW Yy.ga.plain adT (yz (s:=⟨hp,g,d,t+1,os⟩) X I hm (entry_class (s:=⟨hp,g,d,t+1,os⟩) X I hf ho ?_));exact UJ (UJ h)
end
end DX
namespace DX
open PySem PySem.Spec PyProof.Rows L2
abbrev i6:List UH:=[.type "ValueError",.type "Exception",.type "BaseException",.type "object"]
def quiet:List Str:=["__init__","__setattr__","name","letter","many","told","point","row"]
def zS(es:Array Z0):Bool:=es.toList.all λe=>match e.key with | .str _ _=>true|_=>false
theorem Df{K:UG}(l:K.lookup N=some ⟨c,d,.dict es ep,sl⟩)(hk:zS es=true){h:VU}(X:K.In h):h.Ns N (aaD es):=by
 refine⟨_,es,ep,X _ _ l,rfl,λe he=>?_,λ_=>rfl⟩;have:=Xi.mp hk e (by simpa using he);cases q:e.key with
 |str n t=>exact⟨n,t,rfl⟩
 |_=>rw[q]at this;cases this
structure GX(K:UG)(P:UX):Prop where
 gt:WQ K 179 "__get__"=some (some 397)
 tk:Zh K 179=some true
 lk:∃nm q N bs sn sub ab col dd k0 k1 k2 k3 k5,K.lookup P=some (VP nm q P N bs i6 true sn sub ab col dd k0 k1 k2 k3 k5 "ValueError.__new__")/\∀h,K.In h->∃m,h.Ns N m/\∀n∈quiet,m n=none
structure XE(K:UG)(P C:UX):Prop where
 lk:∃nm q N bs sn sub ab col dd k0 k1 k2 k3 k5,K.lookup C=some (VP nm q C N bs (.ref P::i6) true sn sub ab col dd k0 k1 k2 k3 k5 "ValueError.__new__")
 ga:U7 K 241 "__getattribute__"=some 287
 gt:U7 K 241 "__getattr__"=some none
 cl:U7 K 241 "__class__"=some (some 179)
section
variable{K:UG}{P C:UX}
theorem sR(X:XE K P C):∃cd,WS K C=some cd/\cd.mro=.ref C::.ref P::i6/\cd.hasDict=true/\YO K 241=some (.type "type"):=by
 obtain⟨nm,q,N,bs,sn,sub,ab,col,dd,k0,k1,k2,k3,k5,l⟩:=X.lk;have h1:WS K C=some {name:=nm,bases:=bs,mro:=.ref C::.ref P::i6,ns:=N,qualname:=q,hasDict:=true,slotNames:=sn,subclasses:=sub,abstract:=ab,collection:=col,hasDel:=false}:=by unfold WS;rw[l]
 refine⟨_,h1,rfl,rfl,?_⟩;show(K.lookup C).map (·.cls)=_;rw[l];rfl
theorem mO(X:XE K P C)(b:UH):Wv K C b=some ((VI C::.ref P::i6).contains b):=by obtain⟨cd,h1,h2,_⟩:=sR X;unfold Wv;rw[h1,Ym,h2];rfl
theorem Qx(G:GX K P):(WS K P).isSome=true/\YO K (.ref P)=some (.type "type"):=by
 obtain⟨nm,q,N,bs,sn,sub,ab,col,dd,k0,k1,k2,k3,k5,l,_⟩:=G.lk;refine⟨?_,?_⟩
 ·unfold WS;rw[l];rfl
 ·show(K.lookup P).map (·.cls)=_;rw[l];rfl
theorem Bc(X:XE K P C){D:UX}(h1:(WS K D).isSome=true)(h2:YO K (.ref D)=some (.type "type")):V0 K 241 (.ref D)=some (C==D||P==D):=by
 unfold V0 ZD;by_cases q:C=D
 ·subst q;simp
 ·rw[if_neg (by simpa using q)];simp only[h1,h2,acC,beq_self_eq_true,if_true];show Wv K C (.ref D)=_;rw[mO X];have e1:(C==D)=false:=by simpa using q
  simp[e1,Wz,q,i6,eq_comm];by_cases z:P=D<;>simp[z]
theorem K0(X:XE K P C):V0 K 241 (.type "ValueError")=some true:=by
 unfold V0 ZD;rw[if_neg 229];have:Z9 "ValueError"=true:=by decide +kernel
 simp only[this,if_true];show Wv K C _=_;rw[mO X];simp
theorem Bb{D:UX}(h1:(WS K D).isSome=true)(h2:YO K (.ref D)=some (.type "type"))(t:String)(h:t∈["NoneType","bool","int","str","tuple","list","dict"]):V0 K (.type t) (.ref D)=some false:=by unfold V0 ZD;rw[if_neg 229];simp only[h1,h2,acC,beq_self_eq_true,if_true];simp only[UR,VA,or_false]at h;rcases h with rfl|rfl|rfl|rfl|rfl|rfl|rfl<;>rfl
theorem Hq(t:String)(h:t∈["NoneType","bool","int","str","tuple","list","dict"]):V0 K (.type t) (.type "ValueError")=some false:=by simp only[UR,VA,or_false]at h;rcases h with rfl|rfl|rfl|rfl|rfl|rfl|rfl<;>rfl
end
theorem NB{K:UG}{P C:UX}(X:XE K P C){T:String}(h1:Z9 T=true)(h2:i6.contains (.type T)=false):V0 K 241 (.type T)=some false:=by unfold V0 ZD;rw[if_neg 229];simp only[h1,if_true];show Wv K C _=_;rw[mO X,Wz,Wz,h2];rfl
theorem Ky{K:UG}{C:UX}{od:Option Obj}{name:Str}{a g:UH}(hc:(WS K C).isSome=true)(ha:U7 K 241 name=some (some a))(hg:WQ K a "__get__"=some (some g))(ht:Zh K a=some true):Xu K C od name=some (.bind g a):=by obtain⟨cd,hc⟩:=VQ.mp hc;unfold Xu;rw[hc,Ym,ha,Ym];simp[hg,ht]
theorem yY{K:UG}{e P C:UX}(G:GX K P)(E:XE K P C):W.KitX K (.ref e) 241 (λh=>∃ox od,Xn h e ox C od):=by
 obtain⟨cd,hc,hm,hd,ht⟩:=sR E;refine⟨λM h _ ⟨ox,od,I⟩=>I.type,λM h X _=>?_,λh tp dd Uy n sl X htp=>?_,λX ⟨ox,od,I⟩ k=>?_⟩
 ·unfold WS at hc;split at hc
  ·rename_i ho;intro A' Q' E' s' k q;unfold isType loadHead;exact UE (aec (k _ _ (X _ _ ho)) (UJ q))
  ·cases hc
 ·refine acW.mpr λq=>?_;obtain rfl:C=tp:=acD (beq_iff_eq.mp q);unfold WS at hc;split at hc
  ·rename_i ho;have z:=(X _ _ ho).symm.trans htp;cases z
  ·cases hc
 ·exact get_class X I E.ga E.gt (by rw[mO E];simp) (Ky (by rw[hc];rfl) E.cl G.gt G.tk) (by rw[mO E];simp) k
end DX
namespace DL
open PySem PySem.Spec PyProof.Rows L2
inductive Kd where
 |txt (ss:131)|ins (cls:Str) (ns:131)|mem (dom:List (List Int)) (f:List Int->Bool)
inductive D where
 |non|bl (b:Bool)|int (i:Int)|str (x:Str)|tup (xs:List D)|lst (xs:List D)|emp
 |exn (cls:Str) (ns:131) (ds:List D)
 |dct (ks vs:List D)
 |ob (k:Kd) (xs:List D)
mutual
noncomputable def isKey:D->Bool
 | .int _=>true
 | .tup xs=>areKeys xs
 |_=>false
noncomputable def areKeys:List D->Bool
 |[]=>true
 |x::xs=>isKey x&&areKeys xs
end
mutual
noncomputable def O5:D->Int
 | .int i=>hashInt i
 | .tup xs=>reduceHash (aee (tP xs))
 |_=>0
noncomputable def tP:List D->List Int
 |[]=>[]
 |x::xs=>O5 x::tP xs
end
mutual
noncomputable def dep:D->Nat
 | .tup xs=>deps xs+1
 | .lst xs=>deps xs+1
 | .emp=>5000
 | .exn _ _ _=>5000
 | .dct _ _=>5000
 | .ob _ _=>5000
 |_=>0
noncomputable def deps:List D->Nat
 |[]=>0
 |x::xs=>max (dep x) (deps xs)
end
structure Mz(ks:List D):Prop where
 key:areKeys ks=true
 nd:ks.Nodup
 dp:deps ks<=8
 tp:∀k∈ks,∃xs,k=.tup xs
def My(p:Int×V×V)(e:Z0):Prop:=e.hash=p.1/\RelV p.2.1 e.key/\RelV p.2.2 e.val
abbrev Jf(a:UX)(ep:Nat)(UC:List (Int×V×V)):HO:=.ext λh=>∃o es,h.get? a=some o/\o.ExactDict/\o.data=.dict es ep/\aaB My UC es.toList
noncomputable def XF(J:Hp)(dx:259)(ns:131)(vs:List V):Prop:=(dx=none/\ns=[]/\vs=[])\/∃d,dx=some d/\ns.length=vs.length/\J d=some (.xd (ns.zip vs))
theorem XF.mono{J J':Hp}(e:aY J J')(h:XF J dx ns vs):XF J' dx ns vs:=by
 rcases h with h|⟨d,h1,h2,h3⟩
 ·exact .inl h
 ·exact .inr ⟨d,h1,h2,e _ _ h3⟩
structure ou(K:UG)(C:UX):Prop where
 cl:L2.qm K C
 ha:U7 K 241 "__class__"=some (some 179)
 hn:WQ K 179 "__get__"=some (some 397)
 htk:Zh K 179=some true
 hm:Wv K C (.type "object")=some true
 no:∀T,Z9 T=true->DX.i6.contains (.type T)=false->V0 K 241 (.type T)=some false
noncomputable def x_(K:UG)(H:Hp)(a:UX)(vs:List V):Kd->Prop
 | .txt ss=>ss.length=vs.length/\H a=some (.dK ((ss.map Yv).zip vs))/\(a==V5)=false
 | .ins cls ns=>∃C dx,U1 K UT cls=some (some 241)/\ou K C/\ns.length=vs.length/\H a=some (.ins C dx (ns.zip vs))
 | .mem dom f=>vs=[]/\H a=some (.memo dom f)
theorem x_.mono{K:UG}{H H':Hp}{a:UX}{vs:List V}(e:∀o,H a=some o->H' a=some o):∀{k:Kd},x_ K H a vs k->x_ K H' a vs k
 | .txt _,⟨h1,h2,h3⟩=>⟨h1,e _ h2,h3⟩
 | .ins _ _,⟨C,dx,h1,h2,h3,h4⟩=>⟨C,dx,h1,h2,h3,e _ h4⟩
 | .mem _ _,⟨h1,h2⟩=>⟨h1,e _ h2⟩
theorem x_.some{K:UG}{H:Hp}{a:UX}{vs:List V}:∀{k:Kd},x_ K H a vs k->∃o,H a=some o
 | .txt _,⟨_,h2,_⟩=>⟨_,h2⟩
 | .ins _ _,⟨_,_,_,_,_,h3⟩=>⟨_,h3⟩
 | .mem _ _,⟨_,h2⟩=>⟨_,h2⟩
mutual
inductive Rep(K:UG)(J:Hp):D->V->Prop
 |non:Rep K J .non .non
 |bl (b:Bool):Rep K J (.bl b) (.bl b)
 |int (i:Int):Rep K J (.int i) (.int i)
 |str (x:Str):Rep K J (.str x) (.str x)
 |emp {a:UX}:J a=some (.dK [])->Rep K J .emp 307
 |tup {a:UX}{vs:List V}{ds:List D}:eZ K J a vs->aW K J ds vs->Rep K J (.tup ds) 307
 |lst {a:UX}{vs:List V}{ds:List D}:cY K J a vs->aW K J ds vs->Rep K J (.lst ds) 307
 |exn {a C:UX}{dx:259}{cls:Str}{ns:131}{vs:List V}{ds:List D}:J a=some (DX.XO a C dx)->U1 K UT cls=some (some 241)->XF J dx ns vs->aW K J ds vs->(∃P,DX.GX K P/\DX.XE K P C)->Rep K J (.exn cls ns ds) 307
 |dct {a:UX}{ep:Nat}{ks vs:List D}{us ws:List V}:J a=some (Jf a ep ((tP ks).zip (us.zip ws)))->aW K J ks us->aW K J vs ws->Mz ks->(a==V5)=false/\ks.length=vs.length->Rep K J (.dct ks vs) 307
 |ob {a:UX}{k:Kd}{xs:List D}{vs:List V}:x_ K J a vs k->aW K J xs vs->Rep K J (.ob k xs) 307
inductive aW(K:UG)(J:Hp):List D->List V->Prop
 |nil:aW K J [] []
 |cons {d:D}{v:V}{ds:List D}{vs:List V}:Rep K J d v->aW K J ds vs->aW K J (d::ds) (v::vs)
end
theorem gA{K:UG}{H H':Hp}{a:UX}{xs:List V}(e:aY H H')(h:eZ K H a xs):eZ K H' a xs:=by
 rcases h with(h|⟨o,h⟩)|h
 ·exact .inl (.inl (e _ _ h))
 ·exact .inl (.inr ⟨o,e _ _ h⟩)
 ·exact .inr h
mutual
theorem Rep.mono{K:UG}{J J':Hp}(e:aY J J'):∀{d:D}{v:V},Rep K J d v->Rep K J' d v
 |_,_,.non=>.non
 |_,_,.bl b=>.bl b
 |_,_,.int i=>.int i
 |_,_,.str x=>.str x
 |_,_,.emp h=>.emp (e _ _ h)
 |_,_,.tup h hs=>.tup (gA e h) (aW.mono e hs)
 |_,_,.lst h hs=>.lst (e.seq h) (aW.mono e hs)
 |_,_,.exn h1 h2 h3 hs hx=>.exn (e _ _ h1) h2 (h3.mono e) (aW.mono e hs) hx
 |_,_,.dct h h1 h2 h3 h4=>.dct (e _ _ h) (aW.mono e h1) (aW.mono e h2) h3 h4
 |_,_,.ob h hs=>.ob (h.mono (e _)) (aW.mono e hs)
theorem aW.mono{K:UG}{J J':Hp}(e:aY J J'):∀{ds:List D}{vs:List V},aW K J ds vs->aW K J' ds vs
 |_,_,.nil=>.nil
 |_,_,.cons h hs=>.cons (Rep.mono e h) (aW.mono e hs)
end
section
variable{K:UG}{J:Hp}
theorem aW.length:∀{ds:List D}{vs:List V},aW K J ds vs->ds.length=vs.length
 |_,_,.nil=>rfl
 |_,_,.cons _ hs=>congrArg (· + 1) (aW.length hs)
theorem aW.get:∀{ds:List D}{vs:List V}{i:Nat}{d:D},aW K J ds vs->ds[i]?=some d->∃v,vs[i]?=some v/\Rep K J d v
 |_,_,_,_,.nil,e=>by simp at e
 |_,_,0,_,.cons r _,e=>by simp at e;subst e;exact⟨_,rfl,r⟩
 |_,_,i+1,d,.cons _ t,e=>by obtain⟨v,h1,h2⟩:=aW.get (i:=i) (d:=d) t (by simpa using e);exact⟨v,by simpa using h1,h2⟩
theorem aW.append:∀{ds es:List D}{vs us:List V},aW K J ds vs->aW K J es us->aW K J (ds++es) (vs++us)
 |_,_,_,_,.nil,s=>s
 |_,_,_,_,.cons r t,s=>.cons r (aW.append t s)
theorem aW.take:∀{ds:List D}{vs:List V}(n:Nat),aW K J ds vs->aW K J (ds.take n) (vs.take n)
 |_,_,0,_=>.nil
 |_,_,_+1,.nil=>.nil
 |_,_,n+1,.cons r t=>.cons r (aW.take n t)
theorem aW.drop:∀{ds:List D}{vs:List V}(n:Nat),aW K J ds vs->aW K J (ds.drop n) (vs.drop n)
 |_,_,0,r=>r
 |_,_,_+1,.nil=>.nil
 |_,_,n+1,.cons _ t=>aW.drop n t
end
noncomputable def rq(K:UG)(J H:Hp)(a:UX)(ks vs:List D):Prop:=∃us ws ep,H a=some (Jf a ep ((tP ks).zip (us.zip ws)))/\aW K J ks us/\aW K J vs ws/\Mz ks/\(a==V5)=false/\ks.length=vs.length
theorem rq.mono{K:UG}{J J' H H':Hp}{a:UX}{ks vs:List D}(e:aY J J')(e':aY H H'):rq K J H a ks vs->rq K J' H' a ks vs
 |⟨us,ws,ep,h1,h2,h3,h4⟩=>⟨us,ws,ep,e' _ _ h1,h2.mono e,h3.mono e,h4⟩
theorem rq.ne{K:UG}{J H:Hp}{a:UX}{ks vs:List D}:rq K J H a ks vs->H a≠none
 |⟨us,ws,ep,h1,_⟩=>by rw[h1];intro z;cases z
theorem rq.rep{K:UG}{J H:Hp}{a:UX}{ks vs:List D}(e:aY J H):rq K J H a ks vs->Rep K H (.dct ks vs) 307
 |⟨us,ws,ep,h1,h2,h3,h4,h5⟩=>.dct h1 (h2.mono e) (h3.mono e) h4 h5
def iG(K:UG)(J H:Hp)(a:UX)(k:Kd)(xs:List D):Prop:=∃vs,x_ K H a vs k/\aW K J xs vs
theorem iG.mono{K:UG}{J J' H H':Hp}{a:UX}{k:Kd}{xs:List D}(e:aY J J')(e':aY H H'):iG K J H a k xs->iG K J' H' a k xs
 |⟨vs,h1,h2⟩=>⟨vs,h1.mono (e' _),h2.mono e⟩
theorem iG.ne{K:UG}{J H:Hp}{a:UX}{k:Kd}{xs:List D}:iG K J H a k xs->H a≠none
 |⟨vs,h1,_⟩=>by obtain⟨o,h⟩:=h1.some;rw[h];intro z;cases z
structure Exc where
 cls:Str
 ns:List Str
 ds:List D
inductive M(α:Type) where
 |bad|ok (a:α)|exc (x:Exc)
noncomputable def M.bind{α β:Type}:M α->(α->M β)->M β
 | .bad,_=>.bad
 | .ok a,f=>f a
 | .exc x,_=>.exc x
instance:Monad M where
 pure:=M.ok
 bind:=M.bind
@[simp] theorem aT{α β:Type}(a:α)(f:α->M β):(M.ok a>>=f)=f a:=rfl
noncomputable def cJ{α:Type}(m:M α)(Q:α->Prop)(T:359):Prop:=match m with
 | .bad=>False
 | .ok a=>Q a
 | .exc x=>T x
theorem aH{α β:Type}{m:M α}{f:α->M β}{Q:β->Prop}{T:359}(h:cJ (m>>=f) Q T):cJ m (λa=>cJ (f a) Q T) T:=by
 cases m with
 |bad=>exact h
 |ok a=>exact h
 |exc x=>exact h
theorem aB{α:Type}{m:M α}{Q Q':α->Prop}{T:359}(h:cJ m Q T)(k:∀a,Q a->Q' a):cJ m Q' T:=by
 cases m with
 |bad=>exact h
 |ok a=>exact k a h
 |exc x=>exact h
inductive Md where
 |fresh|own|bor
inductive R where
 |d (x:D)|l (m:Md) (xs:List D)
 |o (m:Md) (k:Kd) (xs:List D)
inductive S where
 |d (x:D)|own (xs:List D)|bor (xs:List D)
 |oo (k:Kd) (xs:List D)|ob (k:Kd) (xs:List D)
abbrev Ev:=List (Option S)
inductive Mn where
 |inl (xs:List D)|oo (k:Kd) (xs:List D)
noncomputable def mS:Mn->S
 | .inl xs=>.own xs
 | .oo k xs=>.oo k xs
structure C where
 K:UG
 H0:Hp
 J0:Hp
 T:Exc->Prop
structure HI(c:C)(J H:Hp):Prop where
 sub:aY J H
 ent:aY c.H0 H
 entJ:aY c.J0 J
 frz:∀a,c.H0 a≠none->c.J0 a=none->J a=none
structure Ext(J H J' H':Hp):Prop where
 h:aY H H'
 j:aY J J'
 sub:aY J' H'
 frz:∀a,H a≠none->J a=none->J' a=none
theorem aY.ne{H H':Hp}(e:aY H H')(h:H a≠none):H' a≠none:=by
 cases q:H a with
 |none=>exact absurd q h
 |some o=>rw[e a o q];intro z;cases z
theorem Ext.refl{J H:Hp}(h:aY J H):Ext J H J H:=⟨aY.refl H,aY.refl J,h,λ_ _ q=>q⟩
theorem Ext.trans{J H J1 H1 J2 H2:Hp}(a:Ext J H J1 H1)(b:Ext J1 H1 J2 H2):Ext J H J2 H2:=
 ⟨a.h.trans b.h,a.j.trans b.j,b.sub,λp h q=>b.frz p (aY.ne a.h h) (a.frz p h q)⟩
theorem HI.ext{J H J' H':Hp}(h:HI c J H)(e:Ext J H J' H'):HI c J' H':=
 ⟨e.sub,h.ent.trans e.h,h.entJ.trans e.j,λa h0 j0=>e.frz a (aY.ne h.ent h0) (h.frz a h0 j0)⟩
theorem dY{H:Hp}(h:H p=none)(o:HO):aY H (upd H p o):=λb u q=>by rw[aU (fO q h)];exact q
theorem Ext.new{J H:Hp}(h:aY J H)(e:H p=none)(o:HO):Ext J H J (upd H p o):=
 ⟨dY e o,aY.refl J,λb u q=>dY e o b u (h b u q),λ_ _ q=>q⟩
theorem Ext.newJ{J H:Hp}(h:aY J H)(e:H p=none)(o:HO):Ext J H (upd J p o) (upd H p o):=
 ⟨dY e o,dY (h.free e) o,λb u q=>by
  by_cases hb:b=p
  ·subst hb;rw[bf]at q ⊢;exact q
  ·rw[aU hb]at q ⊢;exact h b u q,λa ha q=>by
  have:a≠p:=λz=>ha (z▸e);rw[aU this];exact q⟩
noncomputable def rJ(c:C)(J H:Hp):S->V->Prop
 | .d x,v=>Rep c.K J x v
 | .own xs,v=>∃a vs,v=.ref a/\H a=some (.lst vs)/\J a=none/\c.H0 a=none/\aW c.K J xs vs
 | .bor xs,v=>∃a vs,v=.ref a/\cY c.K c.H0 a vs/\aW c.K J xs vs
 | .oo k xs,v=>∃a,v=.ref a/\iG c.K J H a k xs/\J a=none/\c.H0 a=none
 | .ob k xs,v=>∃a,v=.ref a/\iG c.K J c.H0 a k xs
theorem rJ.ext{c:C}{J H J' H':Hp}(e:Ext J H J' H'):∀{x:S}{v:V},rJ c J H x v->rJ c J' H' x v
 | .d x,v,h=>Rep.mono e.j h
 | .own xs,v,⟨a,vs,h1,h2,h3,h4,h5⟩=>⟨a,vs,h1,e.h _ _ h2,e.frz a (by rw[h2];intro z;cases z) h3,h4,aW.mono e.j h5⟩
 | .bor xs,v,⟨a,vs,h1,h2,h3⟩=>⟨a,vs,h1,h2,aW.mono e.j h3⟩
 | .oo _ _,v,⟨a,h1,h2,h3,h4⟩=>⟨a,h1,h2.mono e.j e.h,e.frz a h2.ne h3,h4⟩
 | .ob _ _,v,⟨a,h1,h2⟩=>⟨a,h1,h2.mono e.j (aY.refl _)⟩
structure SR(c:C)(J H:Hp)(σ:L2.St)(env:Ev):Prop where
 hp:HI c J H
 len:env.length=σ.length
 at_:∀(i:Nat)(x:S),env[i]?=some (some x)->∃v,σ[i]?=some (some v)/\rJ c J H x v
 sep:∀(i j:Nat)(xs ys:Mn)(v:V),i≠j->env[i]?=some (some (mS xs))->env[j]?=some (some (mS ys))->σ[i]?=some (some v)->σ[j]?≠some (some v)
theorem SR.ext{J H J' H':Hp}(h:SR c J H σ env)(e:Ext J H J' H'):SR c J' H' σ env:=
 ⟨h.hp.ext e,h.len,λi x q=>let ⟨v,q1,q2⟩:=h.at_ i x q;⟨v,q1,q2.ext e⟩,h.sep⟩
theorem SR.mine{c:C}{J H:Hp}{σ:L2.St}{env:Ev}(sr:SR c J H σ env){i:Nat}:∀{x:Mn},env[i]?=some (some (mS x))->∃p,σ[i]?=some (some (.ref p))/\H p≠none/\J p=none/\c.H0 p=none
 | .inl xs,h=>let ⟨_,k1,p,vs,e,k2,k3,k4,_⟩:=sr.at_ i (.own xs) h;⟨p,e▸k1,by rw[k2];exact λz=>(by cases z),k3,k4⟩
 | .oo k xs,h=>let ⟨_,k1,p,e,k2,k3,k4⟩:=sr.at_ i (.oo k xs) h;⟨p,e▸k1,k2.ne,k3,k4⟩
noncomputable def RR(c:C)(He J H:Hp):R->V->Prop
 | .d x,v=>Rep c.K J x v
 | .l .fresh xs,v=>∃a vs,v=.ref a/\H a=some (.lst vs)/\J a=none/\He a=none/\aW c.K J xs vs
 | .l .own xs,v=>∃a vs,v=.ref a/\H a=some (.lst vs)/\J a=none/\c.H0 a=none/\aW c.K J xs vs
 | .l .bor xs,v=>∃a vs,v=.ref a/\cY c.K c.H0 a vs/\aW c.K J xs vs
 | .o .fresh k xs,v=>∃a,v=.ref a/\iG c.K J H a k xs/\J a=none/\He a=none
 | .o .own k xs,v=>∃a,v=.ref a/\iG c.K J H a k xs/\J a=none/\c.H0 a=none
 | .o .bor k xs,v=>∃a,v=.ref a/\iG c.K J c.H0 a k xs
theorem RR.ext{c:C}{He J H J' H':Hp}(e:Ext J H J' H'):∀{x:R}{v:V},RR c He J H x v->RR c He J' H' x v
 | .d x,v,h=>Rep.mono e.j h
 | .l .fresh xs,v,⟨a,vs,h1,h2,h3,h4,h5⟩=>⟨a,vs,h1,e.h _ _ h2,e.frz a (by rw[h2];intro z;cases z) h3,h4,aW.mono e.j h5⟩
 | .l .own xs,v,⟨a,vs,h1,h2,h3,h4,h5⟩=>⟨a,vs,h1,e.h _ _ h2,e.frz a (by rw[h2];intro z;cases z) h3,h4,aW.mono e.j h5⟩
 | .l .bor xs,v,⟨a,vs,h1,h2,h3⟩=>⟨a,vs,h1,h2,aW.mono e.j h3⟩
 | .o .fresh _ _,v,⟨a,h1,h2,h3,h4⟩=>⟨a,h1,h2.mono e.j e.h,e.frz a h2.ne h3,h4⟩
 | .o .own _ _,v,⟨a,h1,h2,h3,h4⟩=>⟨a,h1,h2.mono e.j e.h,e.frz a h2.ne h3,h4⟩
 | .o .bor _ _,v,⟨a,h1,h2⟩=>⟨a,h1,h2.mono e.j (aY.refl _)⟩
theorem RR.from{c:C}{He He' J H:Hp}(e:aY He He'):∀{x:R}{v:V},RR c He' J H x v->RR c He J H x v
 | .d x,v,h=>h
 | .l .fresh xs,v,⟨a,vs,h1,h2,h3,h4,h5⟩=>⟨a,vs,h1,h2,h3,e.free h4,h5⟩
 | .l .own xs,v,h=>h
 | .l .bor xs,v,h=>h
 | .o .fresh _ _,v,⟨a,h1,h2,h3,h4⟩=>⟨a,h1,h2,h3,e.free h4⟩
 | .o .own _ _,v,h=>h
 | .o .bor _ _,v,h=>h
noncomputable def fY:R->M (List D)
 | .d (.lst xs)=>.ok xs
 | .l _ xs=>.ok xs
 |_=>.bad
noncomputable def toD:R->M D
 | .d x=>.ok x
 | .l .fresh xs=>.ok (.lst xs)
 | .o .fresh k xs=>.ok (.ob k xs)
 |_=>.bad
theorem RR.list{c:C}{He J H:Hp}(hp:HI c J H):∀{r:R}{v:V}{xs:List D},RR c He J H r v->fY r=.ok xs->∃a vs,v=.ref a/\cY c.K H a vs/\aW c.K J xs vs
 | .d (.lst ys),v,xs,h,e=>by
  cases e;cases h with
  |lst h hs=>exact⟨_,_,rfl,hp.sub.seq h,hs⟩
 | .l .fresh ys,v,xs,⟨a,vs,h1,h2,h3,h4,h5⟩,e=>by cases e;exact⟨a,vs,h1,cY.of h2,h5⟩
 | .l .own ys,v,xs,⟨a,vs,h1,h2,h3,h4,h5⟩,e=>by cases e;exact⟨a,vs,h1,cY.of h2,h5⟩
 | .l .bor ys,v,xs,⟨a,vs,h1,h2,h3⟩,e=>by cases e;exact⟨a,vs,h1,hp.ent.seq h2,h3⟩
 | .d .non,_,_,_,e=>nomatch e
 | .d (.bl _),_,_,_,e=>nomatch e
 | .d (.int _),_,_,_,e=>nomatch e
 | .d (.str _),_,_,_,e=>nomatch e
 | .d (.tup _),_,_,_,e=>nomatch e
 | .d .emp,_,_,_,e=>nomatch e
 | .d (.dct _ _),_,_,_,e=>nomatch e
 | .d (.ob _ _),_,_,_,e=>nomatch e
 | .o _ _ _,_,_,_,e=>nomatch e
theorem A6{Je He J H:Hp}(x:Ext Je He J H)(h2:H a=some o)(h3:J a=none)(h4:He a=none):Ext Je He (upd J a o) H:=by
 refine⟨x.h,x.j.trans (dY h3 _),λb u q=>?_,λb hb q=>?_⟩
 ·by_cases hb:b=a
  ·subst hb;rw[bf]at q;cases q;exact h2
  ·rw[aU hb]at q;exact x.sub b u q
 ·have:b≠a:=λz=>hb (z▸h4);rw[aU this];exact x.frz b hb q
theorem freeze{c:C}{Je He J H:Hp}(x:Ext Je He J H):∀{r:R}{v:V}{d:D},RR c He J H r v->toD r=.ok d->∃J',Ext Je He J' H/\aY J J'/\Rep c.K J' d v
 | .d y,v,d,h,e=>by cases e;exact⟨J,x,aY.refl J,h⟩
 | .l .fresh ys,v,d,⟨a,vs,h1,h2,h3,h4,h5⟩,e=>by cases e;subst h1;exact⟨_,A6 x h2 h3 h4,dY h3 _,.lst (.inl (.inl bf)) (aW.mono (dY h3 _) h5)⟩
 | .o .fresh k ys,v,d,⟨a,h1,⟨vs,h2,h5⟩,h3,h4⟩,e=>by cases e;subst h1;obtain⟨u,hu⟩:=h2.some;exact⟨_,A6 x hu h3 h4,dY h3 _,.ob (h2.mono λo q=>by rw[hu]at q;cases q;exact bf) (h5.mono (dY h3 _))⟩
 | .o .own _ _,_,_,_,e=>nomatch e
 | .o .bor _ _,_,_,_,e=>nomatch e
 | .l .own _,_,_,_,e=>nomatch e
 | .l .bor _,_,_,_,e=>nomatch e
abbrev G(α:Type):=Ev->M α
def tD(c:C)(g:G R):TE:=λσ H Q=>∃J env,SR c J H σ env/\cJ (g env) (λr=>∀v J' H',Ext J H J' H'->RR c H J' H' r v->Q v H') c.T
def PD(X:Cx)(c:C)(e:VC)(g:G R):Prop:=PE X e (tD c g)
def tB(c:C)(g:G Bool):TT:=λσ H Q=>∃J env,SR c J H σ env/\cJ (g env) (λb=>∀J' H',Ext J H J' H'->Q b H') c.T
def PB(X:Cx)(c:C)(e:VC)(g:G Bool):Prop:=PT X e (tB c g)
noncomputable def mw(c:C)(He J H:Hp):List R->List V->Prop
 |[],vs=>vs=[]
 |r::rs,vs=>∃v us,vs=v::us/\RR c He J H r v/\mw c He J H rs us
def tA(c:C)(g:338):TA:=λσ H Q=>∃J env,SR c J H σ env/\cJ (g env) (λrs=>∀vs J' H',Ext J H J' H'->mw c H J' H' rs vs->Q vs H') c.T
def DZ(X:Cx)(c:C)(es:List VC)(g:338):Prop:=PA X es (tA c g)
def Rt(c:C)(g:244):TA:=λσ H Q=>∃J env,SR c J H σ env/\cJ (g env) (λds=>∀vs J' H',Ext J H J' H'->aW c.K J' ds vs->Q vs H') c.T
def P9(X:Cx)(c:C)(es:List VC)(g:244):Prop:=PA X es (Rt c g)
inductive O where
 |nx (e:Ev)|rt (r:R)|bk (e:Ev)|ct (e:Ev)
noncomputable def RF(c:C)(J H:Hp):R->V->Prop
 | .d x,v=>Rep c.K J x v
 | .l _ xs,v=>∃a vs,v=.ref a/\H a=some (.lst vs)/\J a=none/\c.H0 a=none/\aW c.K J xs vs
 | .o .fresh k xs,v=>∃a,v=.ref a/\iG c.K J H a k xs/\J a=none/\c.H0 a=none
 |_,_=>False
noncomputable def oP(c:C)(J:Hp)(E:Ends):O->Prop
 | .nx e=>∀σ' J' H',aY J J'->SR c J' H' σ' e->E.nx σ' H'
 | .rt r=>∀v J' H',aY J J'->HI c J' H'->RF c J' H' r v->E.rt v H'
 | .bk e=>∀σ' J' H',aY J J'->SR c J' H' σ' e->E.bk σ' H'
 | .ct e=>∀σ' J' H',aY J J'->SR c J' H' σ' e->E.ct σ' H'
def tS(c:C)(g:G O):TS:=λE σ H=>∃J env,SR c J H σ env/\cJ (g env) (oP c J E) c.T
def D3(X:Cx)(c:C)(st:Xq)(g:G O):Prop:=PS X st (tS c g)
def IS(X:Cx)(c:C)(st:List Xq)(g:G O):Prop:=iQ X st (tS c g)
theorem oP.mono{c:C}{J J1:Hp}{E:Ends}(e:aY J J1):∀{o:O},oP c J E o->oP c J1 E o
 | .nx _,h=>λσ' J' H' q r=>h σ' J' H' (e.trans q) r
 | .rt _,h=>λσ' J' H' q r=>h σ' J' H' (e.trans q) r
 | .bk _,h=>λσ' J' H' q r=>h σ' J' H' (e.trans q) r
 | .ct _,h=>λσ' J' H' q r=>h σ' J' H' (e.trans q) r
def tW(c:C)(g:G O):TS:=λE σ H=>∃J env,SR c J H σ env/\cJ (g env) (oP c c.J0 E) c.T
theorem PU{g:G O}{E:Ends}{H:Hp}(h:tW c g E σ H):tS c g E σ H:=by obtain⟨J,env,sr,w⟩:=h;exact⟨J,env,sr,aB w λo q=>q.mono sr.hp.entJ⟩
theorem dX{t t':TE}(h:PE X e t)(k:∀σ H Q,t' σ H Q->t σ H Q):PE X e t':=λUx s σ H Q I q=>h Ux s σ H Q I (k σ H Q q)
theorem ue(h:PT X e t)(k:∀σ H Q,t' σ H Q->t σ H Q):PT X e t':=λUx s σ H Q I q=>h Ux s σ H Q I (k σ H Q q)
theorem xJ(h:PA X es t)(k:∀σ H Q,t' σ H Q->t σ H Q):PA X es t':=λpos Ux s σ H Q I q=>h pos Ux s σ H Q I (k σ H Q q)
theorem fK{st:Xq}{t t':TS}(h:PS X st t)(k:∀D σ H,t' D σ H->t D σ H):PS X st t':=λUx s σ H D I q=>h Ux s σ H D I (k D σ H q)
theorem o7{st:List Xq}{t t':TS}(h:iQ X st t)(k:∀D σ H,t' D σ H->t D σ H):iQ X st t':=λUx s σ H D I q=>h Ux s σ H D I (k D σ H q)
section
variable{X:Cx}{c:C}{e a b:VC}{ga gb:G R}{pos:Pos}
noncomputable def S.rd:S->M R
 | .d x=>.ok (.d x)
 | .own xs=>.ok (.l .own xs)
 | .bor xs=>.ok (.l .bor xs)
 | .oo k xs=>.ok (.o .own k xs)
 | .ob k xs=>.ok (.o .bor k xs)
noncomputable def af(i:Nat):G R:=λenv=>match env[i]? with
 |some (some x)=>x.rd
 |_=>.bad
theorem Lo(h:PE X (.Name x pos) (sq i)):PD X c (.Name x pos) (af i):=dX h λσ H Q ⟨J,env,sr,w⟩=>by
 unfold af at w;cases q:env[i]? with
 |none=>rw[q]at w;exact w.elim
 |some o=>
  cases o with
  |none=>rw[q]at w;exact w.elim
  |some x=>
   rw[q]at w;obtain⟨v,h1,h2⟩:=sr.at_ i x q;refine⟨v,h1,?_⟩;cases x with
   |_=>exact w v J H (Ext.refl sr.hp.sub) h2
def gC(d:D):G R:=λ_=>.ok (.d d)
theorem ua(hr:∀J,Rep c.K J d v)(h:PE X e (tC v)):PD X c e (gC d):=dX h λσ H Q ⟨J,env,sr,w⟩=>w v J H (Ext.refl sr.hp.sub) (hr J)
noncomputable def BD(c:C)(r:R2)(f:R->R->M R):Prop:=∀(He He' J H:Hp)(x y:R)(u v:V)(Q:VK),HI c J H->RR c He J H x u->RR c He' J H y v->
 cJ (f x y) (λz=>∀w J' H',Ext J H J' H'->RR c H J' H' z w->Q w H') c.T->r u v H Q
def g2(f:R->R->M R)(ga gb:G R):G R:=λenv=>ga env>>=λx=>gb env>>=λy=>f x y
theorem two{P:R->R->M R}{σ:L2.St}{H:Hp}{k:V->V->Hp->Prop}{Q:VK}{J:Hp}{env:Ev}(sr:SR c J H σ env)
  (w:cJ (g2 P ga gb env) (λr=>∀v J' H',Ext J H J' H'->RR c H J' H' r v->Q v H') c.T)
  (hk:∀x y u v J2 H2,SR c J2 H2 σ env->Ext J H J2 H2->RR c H J2 H2 x u->RR c H J2 H2 y v->cJ (P x y) (λz=>∀w J' H',Ext J2 H2 J' H'->RR c H2 J' H' z w->Q w H') c.T->k u v H2):
  tD c ga σ H λu H1=>tD c gb σ H1 λv H2=>k u v H2:=by refine⟨J,env,sr,aB (aH w) λx wx u J1 H1 e1 r1=>?_⟩;have sr1:=sr.ext e1;refine⟨J1,env,sr1,aB (aH wx) λy wy v J2 H2 e2 r2=>?_⟩;exact hk x y u v J2 H2 (sr1.ext e2) (e1.trans e2) (r1.ext e2) (RR.from e1.h r2) (aB wy λz q w J' H' e3 r3=>q w J' H' ((e1.trans e2).trans e3) (RR.from (e1.h.trans e2.h) r3))
theorem HN{t:TE}{f:R->R->M R}(ht:PE X e t)(heq:t=Gf r (tD c ga) (tD c gb))(hf:BD c r f):PD X c e (g2 f ga gb):=by subst heq;exact dX ht λσ H Q ⟨J,env,sr,w⟩=>two (k:=λu v H2=>r u v H2 Q) sr w λx y u v J2 H2 sr2 e2 r1 r2 q=>hf H H J2 H2 x y u v Q sr2.hp r1 r2 q
theorem lJ{f:R->R->M R}(ho:dU X (Ys op) r)(hf:BD c r f)(ha:PD X c a ga)(hb:PD X c b gb):PD X c (.BinOp a op b pos) (g2 f ga gb):=HN (Pn ho ha hb) rfl hf
theorem t_{f:R->R->M R}(ho:dU X (W9 op) r)(hf:BD c r f)(ha:PD X c a ga)(hb:PD X c b gb)(hm:We op b=false:=by first|exact zh _|rfl):PD X c (.Compare a [op] [b] pos) (g2 f ga gb):=HN (Lr ho ha hb hm) rfl hf
theorem Pe{f:R->R->M R}(ho:ow X r)(hf:BD c r f)(ha:PD X c a ga)(hb:PD X c b gb)(hs:pM b:=by exact λ_ _=>rfl):PD X c (.Subscript a b pos) (g2 f ga gb):=HN (JA ho ha hb hs) rfl hf
theorem BD.or{r r':R2}{f f':R->R->M R}(p:R->R->Bool)(h:BD c r f)(h':BD c r' f'):BD c (λx y H Q=>r x y H Q\/r' x y H Q) (λx y=>if p x y then f x y else f' x y):=by
 intro He He' J H x y u v Q hp rx ry w;simp only at w;cases q:p x y with
 |true=>rw[q]at w;exact .inl (h He He' J H x y u v Q hp rx ry w)
 |false=>rw[q]at w;exact .inr (h' He He' J H x y u v Q hp rx ry w)
noncomputable def fI(C:Int->Int->Bool)(f:Int->Int->D):R->R->M R
 | .d (.int i),.d (.int j)=>if C i j then .ok (.d (f i j))else .bad
 |_,_=>.bad
noncomputable def b9(f:Int->Int->D):R->R->M R
 | .d (.int i),.d (.int j)=>.ok (.d (f i j))
 |_,_=>.bad
theorem B8{P:Int->Int->Prop}{Cb:Int->Int->Bool}{g:Int->Int->V}{f:Int->Int->D}(hC:∀i j,Cb i j=true->P i j)(hr:∀i j J,Rep c.K J (f i j) (g i j)):BD c (rI P g) (fI Cb f):=by
 intro He He' J H x y u v Q hp rx ry w;unfold fI at w;split at w
 ·cases rx;cases ry;rename_i i j;cases q:Cb i j with
  |true=>rw[q]at w;exact⟨i,j,rfl,rfl,hC i j q,w _ J H 312 (hr i j J)⟩
  |false=>rw[q]at w;exact w.elim
 ·exact w.elim
theorem iA{g:Int->Int->V}{f:Int->Int->D}(hr:∀i j J,Rep c.K J (f i j) (g i j)):BD c (pq g) (b9 f):=by
 intro He He' J H x y u v Q hp rx ry w;unfold b9 at w;split at w
 ·cases rx;cases ry;rename_i i j;exact⟨i,j,rfl,rfl,w _ J H 312 (hr i j J)⟩
 ·exact w.elim
def below(n:Nat)(j:Int):Bool:=Nat.blt j.natAbs n
theorem fm:below n j=true↔-(n:Int)<j/\j<n:=by unfold below;rw[Nat.blt_eq];omega
def CN(_ j:Int):Bool:=decide (0<j)&&below 1073741824 j
def Nt(_ j:Int):Bool:=decide (0<j)
def rT(i j:Int):Bool:=below 18446744073709551616 i||below 18446744073709551616 j
theorem KY(h:rT i j=true):(-(2^64)<i/\i<2^64)\/(-(2^64)<j/\j<2^64):=by unfold rT at h;rw[W_]at h;exact h.imp fm.mp fm.mp
theorem KW(h:CN i j=true):0<j/\j<1073741824:=by unfold CN at h;rw[Vg]at h;exact⟨of_decide_eq_true h.1,(fm.mp h.2).2⟩
def Hl(i j:Int):Bool:=decide (0<=j)&&below 1000001 j&&below 18446744073709551616 i
theorem KZ{i j:Int}(h:Hl i j=true):0<=j/\j<=1000000/\i.natAbs<2^64:=by unfold Hl at h;rw[Vg,Vg]at h;have h2:=fm.mp h.1.2;have h3:=fm.mp h.2;exact⟨of_decide_eq_true h.1.1,by omega,by omega⟩
abbrev G4:R->R->M R:=b9 λi j=>.int (i+j)
abbrev g8:R->R->M R:=b9 λi j=>.int (i-j)
abbrev M5:R->R->M R:=fI rT λi j=>.int (i*j)
abbrev dG:R->R->M R:=fI CN λi j=>.int (i/j)
abbrev bV:R->R->M R:=fI Nt λi j=>.int (i%j)
abbrev kJ:R->R->M R:=fI Hl λi j=>.int (i^j.toNat)
noncomputable def sX:R->R->M R
 | .d (.str i),.d (.str j)=>if i.length+j.length<=sizeLine then .ok (.d (.str (i++j)))else .bad
 |_,_=>.bad
theorem LR{K:UG}{J:Hp}{ds:List D}{vs:List V}{i:Int}{d:D}(h:aW K J ds vs)(e:kG ds i=some d):∃v,kG vs i=some v/\Rep K J d v:=by
 unfold kG at e ⊢;rw[h.length]at e;cases q:yU vs.length i with
 |none=>rw[q]at e;cases e
 |some j=>rw[q]at e;exact h.get e
theorem kc{f:List D->M R}{Q:R->Prop}{T:359}(w:cJ (fY x>>=f) Q T):∃xs,fY x=.ok xs/\cJ (f xs) Q T:=by
 cases q:fY x with
 |bad=>rw[q]at w;exact w.elim
 |ok xs=>rw[q]at w;exact⟨xs,rfl,w⟩
 |exc z=>unfold fY at q;split at q<;>cases q
noncomputable def yR:R->Bool
 | .l .fresh _=>true
 | .l .own _=>true
 |_=>false
noncomputable def sY(x y:R):M R:=if yR x&&yR y then fY x>>=λxs=>fY y>>=λys=>if xs.length+ys.length<=sizeLine then .ok (.l .fresh (xs++ys))else .bad else .bad
theorem RR.made{He J H:Hp}:∀{r:R}{v:V},yR r=true->RR c He J H r v->∃a vs xs,fY r=.ok xs/\v=.ref a/\H a=some (.lst vs)/\aW c.K J xs vs
 | .l .fresh xs,v,_,⟨a,vs,h1,h2,h3,h4,h5⟩=>⟨a,vs,xs,rfl,h1,h2,h5⟩
 | .l .own xs,v,_,⟨a,vs,h1,h2,h3,h4,h5⟩=>⟨a,vs,xs,rfl,h1,h2,h5⟩
 | .l .bor _,_,e,_=>nomatch e
 | .o _ _ _,_,e,_=>nomatch e
 | .d _,_,e,_=>nomatch e
theorem jE{J H:Hp}(hp:HI c J H)(e:H p=none)(h:aW c.K J xs vs):RR c H J (upd H p (.lst vs)) (.l .fresh xs) (.ref p):=
 ⟨p,vs,rfl,bf,hp.sub.free e,e,h⟩
noncomputable def CD(c:C)(r:List V->Hp->VK->Prop)(f:List R->M R):Prop:=∀(He J H:Hp)(xs:List R)(vs:List V)(Q:VK),HI c J H->mw c He J H xs vs->
 cJ (f xs) (λz=>∀w J' H',Ext J H J' H'->RR c H J' H' z w->Q w H') c.T->r vs H Q
def gN(f:List R->M R)(gs:338):G R:=λenv=>gs env>>=f
theorem NU{t:TE}{ta:TA}{r:List V->Hp->VK->Prop}{f:List R->M R}{gs:338}(ht:PE X e t)(heq:t=λσ H Q=>tA c gs σ H λvs H1=>r vs H1 Q)(hf:CD c r f):PD X c e (gN f gs):=by subst heq;refine dX ht λσ H Q ⟨J,env,sr,w⟩=>⟨J,env,sr,aB (aH w) λrs w vs J1 H1 e1 r1=>?_⟩;exact hf H J1 H1 rs vs Q 377 r1 (aB w λz q v J' H' e2 r2=>q v J' H' (e1.trans e2) (RR.from e1.h r2))
def ay:G (List R):=λ_=>.ok []
def ah(g:G R)(gs:338):G (List R):=λenv=>g env>>=λx=>gs env>>=λxs=>.ok (x::xs)
theorem mw.from{He He' J H:Hp}(e:aY He He'):∀{xs:List R}{vs:List V},mw c He' J H xs vs->mw c He J H xs vs
 |[],_,h=>h
 |_::_,_,⟨v,us,h1,h2,h3⟩=>⟨v,us,h1,RR.from e h2,mw.from e h3⟩
theorem rX{id:String}{x:Str}{p:Pos}{es:List VC}{r:List V->Hp->VK->Prop}{f:List R->M R}{gs:338}(hc:fc X (.builtin id) r)(hf:CD c r f)(hv:Wy x=some (.builtin id))(hm:X.mg x=none)(ha:DZ X c (e::es) gs)
  (hg:autoParam (Gl X x) zzA._auto_1) (hn:autoParam (x≠"__name__") zzB._auto_1) (hdb:141)
  (he:153) (hpl:autoParam ((Wr pos 319).any (·.1)=false) zzA._auto_1):PD X c 205 (gN f gs):=
 NU (ta:=DC) (kR hc hg hm hv ha hn hdb he hpl) rfl hf
theorem o4{r:List V->Hp->VK->Prop}{f:List R->M R}{gs:338}(hc:fc X (.type T) r)(hf:CD c r f)(hv:Wy x=some (.type T))(hm:X.mg x=none)(ha:DZ X c (e::es) gs)
 (hg:autoParam (Gl X x) zzA._auto_1) (hn:autoParam (x≠"__name__") zzB._auto_1) (hdb:141)
 (he:153) (hpl:autoParam ((Wr pos 319).any (·.1)=false) zzA._auto_1):PD X c 205 (gN f gs):=
 NU (ta:=DC) (o5 hc hg hm hv ha hn hdb he hpl) rfl hf
end
section
variable{X:Cx}{c:C}{e a b:VC}{es:List VC}{ga gb g:G R}{pos:Pos}
def aE:G (List D):=λ_=>.ok []
def ak(g:G R)(gs:244):G (List D):=λenv=>g env>>=λx=>toD x>>=λd=>gs env>>=λds=>.ok (d::ds)
theorem kh{α:Type}{f:D->M α}{Q:α->Prop}{T:359}(w:cJ (toD x>>=f) Q T):∃d,toD x=.ok d/\cJ (f d) Q T:=by
 cases q:toD x with
 |bad=>rw[q]at w;exact w.elim
 |ok xs=>rw[q]at w;exact⟨xs,rfl,w⟩
 |exc z=>unfold toD at q;split at q<;>cases q
def bN(gs:244):G R:=λenv=>gs env>>=λds=>if ds.length<=sizeLine then .ok (.d (.tup ds))else .bad
def cC(gs:244):G R:=λenv=>gs env>>=λds=>if ds.length<=sizeLine then .ok (.l .fresh ds)else .bad
theorem kX{J H:Hp}(hp:HI c J H)(e:H p=none)(h:aW c.K J xs vs):Rep c.K (upd J p (.tup vs)) 333 (.ref p):=
 .tup (.inl (.inl bf)) (h.mono (dY (hp.sub.free e) _))
noncomputable def i7:R->M (List D)
 | .d 333=>.ok xs
 | .d (.lst xs)=>.ok xs
 | .l _ xs=>.ok xs
 |_=>.bad
theorem mz{He J H:Hp}(hp:HI c J H):∀{r:R}{v:V}{xs:List D},RR c He J H r v->i7 r=.ok xs->∃a vs,v=.ref a/\(cY c.K H a vs\/eZ c.K H a vs)/\aW c.K J xs vs
 | .d (.tup ys),v,xs,h,e=>by
  cases e;cases h with
  |tup h hs=>exact⟨_,_,rfl,.inr (gA hp.sub h),hs⟩
 | .d (.lst ys),v,xs,h,e=>let ⟨a,vs,h1,h2,h3⟩:=RR.list hp h e;⟨a,vs,h1,.inl h2,h3⟩
 | .l m ys,v,xs,h,e=>let ⟨a,vs,h1,h2,h3⟩:=RR.list hp h e;⟨a,vs,h1,.inl h2,h3⟩
 | .d .non,_,_,_,e=>nomatch e
 | .d (.bl _),_,_,_,e=>nomatch e
 | .d (.int _),_,_,_,e=>nomatch e
 | .d (.str _),_,_,_,e=>nomatch e
 | .d .emp,_,_,_,e=>nomatch e
 | .d (.dct _ _),_,_,_,e=>nomatch e
 | .d (.ob _ _),_,_,_,e=>nomatch e
theorem kg{α:Type}{f:List D->M α}{Q:α->Prop}{T:359}(w:cJ (i7 x>>=f) Q T):∃xs,i7 x=.ok xs/\cJ (f xs) Q T:=by
 cases q:i7 x with
 |bad=>rw[q]at w;exact w.elim
 |ok xs=>rw[q]at w;exact⟨xs,rfl,w⟩
 |exc z=>unfold i7 at q;split at q<;>cases q
noncomputable def eV:List R->M R
 |[.d (.str z)]=>if z.length<=sizeLine then .ok (.d (.int z.length))else .bad
 |[r]=>i7 r>>=λxs=>.ok (.d (.int xs.length))
 |_=>.bad
theorem mw.one{He J H:Hp}(h:mw c He J H [r] vs):∃v,vs=[v]/\RR c He J H r v:=by obtain⟨v,us,rfl,h1,h2⟩:=h;cases h2;exact⟨v,rfl,h1⟩
noncomputable def f7:List R->M R
 |[r]=>i7 r>>=λxs=>.ok (.d 333)
 |_=>.bad
theorem qy:Wy "tuple"=some 260:=by decide +kernel
theorem Ci:Wy "list"=some (.type "list"):=by decide +kernel
noncomputable def lD:List R->M R
 |[r]=>i7 r>>=λxs=>.ok (.l .fresh xs)
 |_=>.bad
noncomputable def aK(g:G R):G Bool:=λenv=>g env>>=λr=>match r with
 | .d (.bl k)=>.ok k
 |_=>.bad
theorem kQ{f:R->R->M R}(ho:dU X (W9 op) r)(hf:BD c r f)(ha:PD X c a ga)(hb:PD X c b gb)(hm:We op b=false:=by first|exact zh _|rfl):PB X c (.Compare a [op] [b] pos) (aK (g2 f ga gb)):=
 ue (vq ho ha hb hm) λσ H Q ⟨J,env,sr,w⟩=>by
  have w2:=aH w;refine two (k:=λu v H2=>r u v H2 λz H3=>∃k,z=.bl k/\Q k H3) (Q:=λz H3=>∃k,z=.bl k/\Q k H3) sr (aB w2 λr0 wr v J1 H1 e1 r1=>?_)
   λx y u v J2 H2 sr2 e2 r1 r2 q=>hf H H J2 H2 x y u v _ sr2.hp r1 r2 q
  split at wr
  ·cases r1;exact⟨_,rfl,wr J1 H1 e1⟩
  ·exact wr.elim
def bK(g h:G Bool):G Bool:=λenv=>g env>>=λk=>if k=true then h env else .ok false
def bY(g h:G Bool):G Bool:=λenv=>g env>>=λk=>if k=true then .ok true else h env
def bD(g:G Bool):G Bool:=λenv=>g env>>=λk=>.ok (!k)
def Rj(X:Cx)(c:C)(e:VC)(g:G Bool):Prop:=PW X e (tB c g)
variable{t u:G Bool}{rest:List VC}
theorem JE{X:Cx}{e:VC}{t t':TT}(h:PW X e t)(k:∀σ H Q,t' σ H Q->t σ H Q):PW X e t':=λwh Ux s σ H Q I q=>h wh Ux s σ H Q I (k σ H Q q)
noncomputable def bz(g h:G R):G R:=λenv=>g env>>=λr=>match r with
 | .d (.bl true)=>h env
 | .d (.bl false)=>.ok (.d (.bl false))
 |_=>.bad
noncomputable def bC(g:G R):G R:=λenv=>g env>>=λr=>match r with
 | .d (.bl k)=>.ok (.d (.bl (!k)))
 |_=>.bad
def Qi(t:G Bool)(g h:G R):G R:=λenv=>t env>>=λk=>if k=true then g env else h env
end
section
variable{X:Cx}{c:C}{e a b tg:VC}{es:List VC}{ga gb g:G R}{pos:Pos}{st:Xq}{rest:List Xq}{t u:G O}{tb:G Bool}
def bh:G O:=λenv=>.ok (.nx env)
noncomputable def av(t u:G O):G O:=λenv=>t env>>=λo=>match o with
 | .nx e=>u e
 |o=>.ok o
def Jl:G O:=λenv=>.ok (.bk env)
noncomputable def rF:R->M R
 | .d x=>.ok (.d x)
 | .l .fresh xs=>.ok (.l .fresh xs)
 | .l .own xs=>.ok (.l .fresh xs)
 | .l .bor _=>.bad
 | .o .fresh k xs=>.ok (.o .fresh k xs)
 | .o .own k xs=>.ok (.o .fresh k xs)
 | .o .bor _ _=>.bad
def aO(g:G R):G O:=λenv=>g env>>=λr=>rF r>>=λr=>.ok (.rt r)
theorem RR.rf{J H J1 H1:Hp}(hp:HI c J H):∀{r r':R}{v:V},RR c H J1 H1 r v->rF r=.ok r'->RF c J1 H1 r' v
 | .d x,r',v,h,e=>by cases e;exact h
 | .l .fresh xs,r',v,⟨a,vs,h1,h2,h3,h4,h5⟩,e=>by cases e;exact⟨a,vs,h1,h2,h3,hp.ent.free h4,h5⟩
 | .l .own xs,r',v,⟨a,vs,h1,h2,h3,h4,h5⟩,e=>by cases e;exact⟨a,vs,h1,h2,h3,h4,h5⟩
 | .l .bor _,_,_,_,e=>nomatch e
 | .o .fresh _ _,_,v,⟨a,h1,h2,h3,h4⟩,e=>by cases e;exact⟨a,h1,h2,h3,hp.ent.free h4⟩
 | .o .own _ _,_,v,⟨a,h1,h2,h3,h4⟩,e=>by cases e;exact⟨a,h1,h2,h3,h4⟩
 | .o .bor _ _,_,_,_,e=>nomatch e
def aM(b:G Bool)(t u:G O):G O:=λenv=>b env>>=λk=>if k=true then t env else u env
noncomputable def toS:R->M S
 | .d x=>.ok (.d x)
 | .l .fresh xs=>.ok (.own xs)
 | .l .bor xs=>.ok (.bor xs)
 | .l .own _=>.bad
 | .o .fresh k xs=>.ok (.oo k xs)
 | .o .bor k xs=>.ok (.ob k xs)
 | .o .own _ _=>.bad
theorem fQ{α:Type}{l:List (Option α)}{i j:Nat}{x y:α}(h:(l.set i (some x))[j]?=some (some y)):(j=i/\i<l.length/\y=x)\/(j≠i/\l[j]?=some (some y)):=by
 by_cases e:j=i
 ·subst e;have hj:j<l.length:=by have:=(Vs.mp h).1;simpa using this
  rw[V1 hj]at h;cases h;exact .inl ⟨rfl,hj,rfl⟩
 ·rw[Vd (VF e)]at h;exact .inr ⟨e,h⟩
theorem SR.setD{J H:Hp}{σ:L2.St}{env:Ev}(sr:SR c J H σ env){i:Nat}{x:S}{v:V}(h:rJ c J H x v)(hx:∀xs,x≠mS xs):SR c J H (σ.set i (some v)) (env.set i (some x)):=by
 refine⟨sr.hp,by simpa using sr.len,λj y q=>?_,λj k xs ys w hjk q1 q2 q3 q4=>?_⟩
 ·rcases fQ q with⟨rfl,hl,rfl⟩|⟨hj,q⟩
  ·exact⟨v,by rw[V1 (by rw[<-sr.len];exact hl)],h⟩
  ·obtain⟨w,h1,h2⟩:=sr.at_ j y q;exact⟨w,by rw[Vd (VF hj)];exact h1,h2⟩
 ·rcases fQ q1 with⟨rfl,hl,e⟩|⟨hj,q1⟩
  ·exact hx xs e.symm
  ·rcases fQ q2 with⟨rfl,hl,e⟩|⟨hk,q2⟩
   ·exact hx ys e.symm
   ·rw[Vd (VF hj)]at q3;rw[Vd (VF hk)]at q4;exact sr.sep j k xs ys w hjk q1 q2 q3 q4
theorem SR.setM{J He:Hp}{σ:L2.St}{env:Ev}(sr:SR c J He σ env){J1 H1:Hp}(e1:Ext J He J1 H1){i:Nat}{y:Mn}{p:UX}(h3:He p=none)(h:rJ c J1 H1 (mS y) (.ref p)):SR c J1 H1 (σ.set i (some (.ref p))) (env.set i (some (mS y))):=by
 have sr1:=sr.ext e1;have old:∀(j:Nat)(ys:Mn),env[j]?=some (some (mS ys))->σ[j]?≠some (some (.ref p)):=λj ys qj z=>by obtain⟨a,k1,k2,_⟩:=sr.mine qj;rw[z]at k1;cases k1;exact k2 h3
 refine⟨sr1.hp,by simpa using sr.len,λj y q=>?_,λj k ys zs w hjk q1 q2 q3 q4=>?_⟩
 ·rcases fQ q with⟨rfl,hl,rfl⟩|⟨hj,q⟩
  ·exact⟨.ref p,by rw[V1 (by rw[<-sr.len];exact hl)],h⟩
  ·obtain⟨w,k1,k2⟩:=sr1.at_ j y q;exact⟨w,by rw[Vd (VF hj)];exact k1,k2⟩
 ·rcases fQ q1 with⟨rfl,hl,e⟩|⟨hj,q1'⟩
  ·rcases fQ q2 with⟨rfl,_,_⟩|⟨hk,q2⟩
   ·exact hjk rfl
   ·rw[V1 (by rw[<-sr.len];exact hl)]at q3;cases q3;rw[Vd (VF hk)]at q4;exact old k zs q2 q4
  ·rw[Vd (VF hj)]at q3;rcases fQ q2 with⟨rfl,hl,e⟩|⟨hk,q2⟩
   ·rw[V1 (by rw[<-sr.len];exact hl)]at q4;cases q4;exact old j ys q1' q3
   ·rw[Vd (VF hk)]at q4;exact sr.sep j k ys zs w hjk q1' q2 q3 q4
theorem SR.set{J He:Hp}{σ:L2.St}{env:Ev}(sr:SR c J He σ env){J1 H1:Hp}(e1:Ext J He J1 H1)(h:RR c He J1 H1 r v)(q:toS r=.ok x):SR c J1 H1 (σ.set i (some v)) (env.set i (some x)):=by
 have sr1:=sr.ext e1;cases r with
 |d y=>cases q;exact sr1.setD h (λx z=>by cases x<;>cases z)
 |o m k xs=>
  cases m with
  |own=>cases q
  |bor=>cases q;exact sr1.setD h (λx z=>by cases x<;>cases z)
  |fresh=>cases q;obtain⟨p,rfl,h1,h2,h3⟩:=h;exact sr.setM (y:=.oo k xs) e1 h3 ⟨p,rfl,h1,h2,sr.hp.ent.free h3⟩
 |l m xs=>
  cases m with
  |own=>cases q
  |bor=>cases q;exact sr1.setD h (λx z=>by cases x<;>cases z)
  |fresh=>
   cases q;obtain⟨p,vs,rfl,h1,h2,h3,h4⟩:=h;exact sr.setM (y:=.inl xs) e1 h3 ⟨p,vs,rfl,h1,h2,sr.hp.ent.free h3,h4⟩
theorem qk{α:Type}{f:S->M α}{Q:α->Prop}{T:359}(w:cJ (toS x>>=f) Q T):∃d,toS x=.ok d/\cJ (f d) Q T:=by
 cases q:toS x with
 |bad=>rw[q]at w;exact w.elim
 |ok xs=>rw[q]at w;exact⟨xs,rfl,w⟩
 |exc z=>unfold toS at q;split at q<;>cases q
def aN(i:Nat)(g:G R):G O:=λenv=>g env>>=λr=>toS r>>=λx=>.ok (.nx (env.set i (some x)))
abbrev GT:=D->Ev->M Ev
def KO(env:Ev)(σ:L2.St)(e:Ev)(σ':L2.St):Prop:=∀(j:Nat)(xs:Mn),e[j]?=some (some (mS xs))->env[j]?=some (some (mS xs))/\σ'[j]?=σ[j]?
theorem KO.refl:KO env σ env σ:=λ_ _ h=>⟨h,rfl⟩
theorem KO.trans(a:KO env σ e1 s1)(b:KO e1 s1 e2 s2):KO env σ e2 s2:=λj xs h=>by obtain⟨h1,h2⟩:=b j xs h;obtain⟨h3,h4⟩:=a j xs h1;exact⟨h3,h2.trans h4⟩
def tT(c:C)(g:GT):TG:=λv σ H Q=>∃J env d,SR c J H σ env/\Rep c.K J d v/\cJ (g d env) (λe=>∀σ',SR c J H σ' e->KO env σ e σ'->Q σ' H) c.T
def D4(X:Cx)(c:C)(tg:VC)(g:GT):Prop:=PG X tg (tT c g)
abbrev sE:=List D->Ev->M Ev
def RA(c:C)(g:sE):vF:=λvs σ H Q=>∃J env ds,SR c J H σ env/\aW c.K J ds vs/\cJ (g ds env) (λe=>∀σ',SR c J H σ' e->KO env σ e σ'->Q σ' H) c.T
def Qt(X:Cx)(c:C)(tgs:List VC)(g:sE):Prop:=ya X tgs (RA c g)
theorem JC{t t':TG}(h:PG X e t)(k:∀v σ H Q,t' v σ H Q->t v σ H Q):PG X e t':=λUx s σ H v u Q I r q=>h Ux s σ H v u Q I r (k v σ H Q q)
theorem FE{X:Cx}{e:List VC}{t t':vF}(h:ya X e t)(k:∀v σ H Q,t' v σ H Q->t v σ H Q):ya X e t':=λUx s σ H vs us Q I r q=>h Ux s σ H vs us Q I r (k vs σ H Q q)
def aJ(i:Nat):GT:=λd env=>.ok (env.set i (some (.d d)))
noncomputable def iY:sE:=λds env=>match ds with
 |[]=>.ok env
 |_=>.bad
noncomputable def c5(t:GT)(u:sE):sE:=λds env=>match ds with
 |d::r=>t d env>>=λe=>u r e
 |[]=>.bad
noncomputable def iE(n:Nat)(u:sE):GT:=λd env=>match d with
 | .tup ds=>if ds.length=n then u ds env else .bad
 |_=>.bad
def oK(t:GT)(g:G R):G O:=λenv=>g env>>=λr=>toD r>>=λd=>t d env>>=λe=>.ok (.nx e)
theorem Li{t:GT}(h:PD X c e g)(ht:D4 X c tg t)
  (hq:PS X (.Assign [tg] e pos) (IB (tD c g) (tT c t))):D3 X c (.Assign [tg] e pos) (oK t g):=fK hq λE σ H ⟨J,env,sr,w⟩=>by refine⟨J,env,sr,aB (aH w) λr wr v J1 H1 e1 r1=>?_⟩;obtain⟨d,q,wr⟩:=kh wr;obtain⟨J1',e1',s1,rd⟩:=freeze e1 r1 q;refine⟨J1',env,d,sr.ext e1',rd,aB (aH wr) λe2 w2 σ' sr' _=>?_⟩;exact w2 σ' J1' H1 e1'.j sr'
noncomputable def Walk(c:C)(It:It)(ds:List D)(J1:Hp)(U:Hp->Hp->Prop):Prop:=∀(i:Nat)(J H:Hp),HI c J H->U J H->
 (ds.length<=i->It.stop i H)/\∀d,ds[i]?=some d->It.go i H/\∀x H2,It.yld i H x H2->∃J2,Ext J H J2 H2/\Rep c.K J2 d x
noncomputable def tI(c:C)(g:244):TI:=λσ H Q=>∃J env,SR c J H σ env/\cJ (g env) (λds=>∀It J1 H1,Ext J H J1 H1->Walk c It ds J1 (λJ' _=>aY J1 J')->Q It H1) c.T
def Qc(X:Cx)(c:C)(tg UA:VC)(g:244):Prop:=PI X tg UA (tI c g)
theorem xK{X:Cx}{tg it:VC}{t t':TI}(h:PI X tg it t)(k:∀σ H Q,t' σ H Q->t σ H Q):PI X tg it t':=λUx s σ H Q I q=>h Ux s σ H Q I (k σ H Q q)
noncomputable def dR(t:GT)(u:G O):List D->Ev->M O
 |[],env=>.ok (.nx env)
 |d::ds,env=>t d env>>=λe=>u e>>=λo=>match o with
  | .nx e=>dR t u ds e
  | .ct e=>dR t u ds e
  | .bk e=>.ok (.nx e)
  | .rt r=>.ok (.rt r)
def d8(g:244)(t:GT)(u:G O):G O:=λenv=>g env>>=λds=>dR t u ds env
noncomputable def RE(g:G R):G (List D):=λenv=>g env>>=λr=>match r with
 | .d 333=>.ok xs
 |_=>.bad
theorem pJ{J1:Hp}{a:UX}{vs:List V}{ds:List D}(h:cY c.K J1 a vs\/cY c.K c.H0 a vs)(hs:aW c.K J1 ds vs):Walk c (IJ c.K a) ds J1 (λJ' _=>aY J1 J'):=by intro i J H hp u;have h':cY c.K H a vs:=h.elim (λh=>hp.sub.seq (u.seq h)) λh=>hp.ent.seq h;refine⟨λhl=>⟨vs,h',by rw[<-hs.length];exact hl⟩,λd hd=>?_⟩;obtain⟨v,h1,h2⟩:=hs.get hd;refine⟨⟨vs,v,h',h1⟩,λx H2 ⟨e,hy⟩=>?_⟩;subst e;have:=hy vs h';rw[h1]at this;cases this;exact⟨J,Ext.refl hp.sub,h2.mono u⟩
def eW(lo:Int)(n:Nat):List D:=(U8 n).map λ(k:Nat)=>.int (lo+(k:Int))
theorem DM{J1:Hp}{lo:Int}{n:Nat}{Ut:Hp->Hp->Prop}:Walk c (IK lo n) (eW lo n) J1 Ut:=by
 intro i J H hp u;refine⟨λhl=>(show n<=i by simpa[eW]using hl),λd hd=>?_⟩;have hi:i<n:=by have:=(Vs.mp hd).1;simpa[eW]using this
 have hd':d=.int (lo+i):=by unfold eW at hd;rw[Vi,Z_ hi]at hd;exact(Ve hd).symm
 subst hd';exact⟨hi,λx H2 ⟨e,hx⟩=>by subst e hx;exact⟨J,Ext.refl hp.sub,.int _⟩⟩
noncomputable def dQ(gs:338):G (List D):=λenv=>gs env>>=λrs=>match rs with
 |[.d (.int j)]=>if below 4611686018427387904 j then .ok (eW 0 j.toNat)else .bad
 |_=>.bad
noncomputable def Rv(c:C)(g:244):TI:=λσ H Q=>∃J env,SR c J H σ env/\cJ (g env) (λds=>∀It J1 H1,Ext J H J1 H1->Walk c It ds J1 (λJ' H'=>aY J1 J'/\aY H1 H')->Q It H1) c.T
def Qa(X:Cx)(c:C)(tg UA:VC)(g:244):Prop:=PI X tg UA (Rv c g)
end
section
variable{X:Cx}{c:C}{e a b tg:VC}{es:List VC}{ga gb g:G R}{pos:Pos}
theorem SR.updM{J H:Hp}{σ:L2.St}{env:Ev}(sr:SR c J H σ env){i:Nat}{x y:Mn}{p:UX}{o:HO}(hi:env[i]?=some (some (mS x)))(hs:σ[i]?=some (some (.ref p)))(hJ:J p=none)(h0:c.H0 p=none)
  (h:rJ c J (L2.upd H p o) (mS y) (.ref p)):SR c J (L2.upd H p o) σ (env.set i (some (mS y))):=by
 refine⟨⟨λb o q=>?_,λb o q=>?_,sr.hp.entJ,sr.hp.frz⟩,by simpa using sr.len,λj y q=>?_,λj k ys zs w hjk q1 q2 q3 q4=>?_⟩
 ·have:b≠p:=λz=>by rw[z,hJ]at q;cases q
  rw[aU this];exact sr.hp.sub b o q
 ·have:b≠p:=λz=>by rw[z,h0]at q;cases q
  rw[aU this];exact sr.hp.ent b o q
 ·rcases fQ q with⟨rfl,hl,rfl⟩|⟨hj,q⟩
  ·exact⟨.ref p,hs,h⟩
  ·obtain⟨w,k1,k2⟩:=sr.at_ j y q;refine⟨w,k1,?_⟩;have hne:∀(z:Mn) p',y=mS z->w=.ref p'->p'≠p:=λz p' e ew ep=>sr.sep i j x z (.ref p) (VF hj) hi (e▸q) hs (ep▸ew▸k1);cases y with
   |d x=>exact k2
   |bor zs=>exact k2
   |ob _ _=>exact k2
   |oo k zs=>
    obtain⟨p',rfl,⟨ws,m1,mr⟩,m2⟩:=k2;exact⟨p',rfl,⟨ws,m1.mono λo q=>by rw[aU (hne (.oo k zs) p' rfl rfl)];exact q,mr⟩,m2⟩
   |own zs=>
    obtain⟨p',us,rfl,m1,m2,m3,m4⟩:=k2;exact⟨p',us,rfl,by rw[aU (hne (.inl zs) p' rfl rfl)];exact m1,m2,m3,m4⟩
 ·have f:∀(k:Nat)(ys:Mn),(env.set i (some (mS y)))[k]?=some (some (mS ys))->∃ys',env[k]?=some (some (mS ys')):=λk ys q=>by
   rcases fQ q with⟨rfl,_,_⟩|⟨_,q⟩
   ·exact⟨x,hi⟩
   ·exact⟨ys,q⟩
  obtain⟨ys',r1⟩:=f j ys q1;obtain⟨zs',r2⟩:=f k zs q2;exact sr.sep j k ys' zs' w hjk r1 r2 q3 q4
theorem SR.upd{J H:Hp}{env:Ev}(sr:SR c J H σ env)(hi:env[i]?=some (some (.own xs)))(hs:σ[i]?=some (some (.ref p)))(hH:H p=some (.lst vs))(hJ:J p=none)(h0:c.H0 p=none)
 (h:aW c.K J xs' vs'):SR c J (L2.upd H p (.lst vs')) σ (env.set i (some (.own xs'))):=sr.updM (x:=.inl xs) (y:=.inl xs') hi hs hJ h0 ⟨p,vs',rfl,bf,hJ,h0,h⟩
noncomputable def eG(i:Nat)(g:G R):G O:=λenv=>match env[i]? with
 |some (some (.own xs))=>g env>>=λr=>toD r>>=λd=>if xs.length<sizeLine then .ok (.nx (env.set i (some (.own (xs++[d])))))else .bad
 |_=>.bad
noncomputable def bH:R->S
 | .d x=>.d x
 | .l _ xs=>.bor xs
 | .o _ k xs=>.ob k xs
noncomputable def gD(K:UG)(J H:Hp):List S->List V->Prop
 |[],vs=>vs=[]
 |s::ss,vs=>∃v us,vs=v::us/\(match s with
  | .d x=>Rep K J x v
  | .bor xs=>∃a ws,v=.ref a/\cY K H a ws/\aW K J xs ws
  | .ob k xs=>∃a,v=.ref a/\iG K J H a k xs
  |_=>False)/\gD K J H ss us
theorem gD.length{K:UG}{J H:Hp}:∀{ss:List S}{vs:List V},gD K J H ss vs->vs.length=ss.length
 |[],_,h=>by cases h;rfl
 |_::_,_,⟨_,_,h,_,h2⟩=>by subst h;exact congrArg (· + 1) h2.length
theorem gD.get{K:UG}{J H:Hp}:∀{ss:List S}{vs:List V}{i:Nat}{s:S},gD K J H ss vs->ss[i]?=some s->∃v,vs[i]?=some v/\(match s with
  | .d x=>Rep K J x v
  | .bor xs=>∃a ws,v=.ref a/\cY K H a ws/\aW K J xs ws
  | .ob k xs=>∃a,v=.ref a/\iG K J H a k xs
  |_=>False)
 |[],_,_,_,_,e=>by simp at e
 |_::_,_,0,_,⟨v,us,h,h1,h2⟩,e=>by simp at e;subst e;subst h;exact⟨v,rfl,h1⟩
 |_::_,_,i+1,s,⟨v,us,h,h1,h2⟩,e=>by subst h;obtain⟨v,k1,k2⟩:=gD.get (i:=i) (s:=s) h2 (by simpa using e);exact⟨v,by simpa using k1,k2⟩
noncomputable def FR(K:UG)(H J' H':Hp):R->V->Prop
 | .d x,v=>Rep K J' x v
 | .l _ xs,v=>∃a vs,v=.ref a/\H' a=some (.lst vs)/\J' a=none/\H a=none/\aW K J' xs vs
 | .o .fresh k xs,v=>∃a,v=.ref a/\iG K J' H' a k xs/\J' a=none/\H a=none
 |_,_=>False
noncomputable def oh(K:UG)(n:Nat)(F:234):Sp:=λvs H Q _=>∃J as,aY J H/\as.length=n/\gD K J H as vs/\cJ (F as) (λr=>∀v J' H',Ext J H J' H'->FR K H J' H' r v->Q v H') (λ_=>False)
noncomputable def fin:M O->M R
 | .ok (.rt r)=>.ok r
 | .ok (.nx _)=>.ok (.d .non)
 | .exc x=>.exc x
 |_=>.bad
def aG(N:131)(as:List S):Ev:=as.map some++Vv (N.length-as.length) none
theorem pH{N:131}{as:List S}{i:Nat}{x:S}(h:(aG N as)[i]?=some (some x)):as[i]?=some x:=by
 unfold aG at h;by_cases hi:i<as.length
 ·rw[W5 (by simpa using hi),Vi]at h;cases q:as[i]? with
  |none=>rw[q]at h;cases h
  |some y=>rw[q]at h;cases h;rfl
 ·rw[Wx (by simpa using hi),Zc]at h;split at h<;>cases h
theorem nM{N:131}{vs:List V}{i:Nat}{v:V}(h:vs[i]?=some v):(L2.start N vs)[i]?=some (some v):=by unfold L2.start;have hi:i<vs.length:=(Vs.mp h).1;rw[W5 (by simpa using hi),Vi,h];rfl
theorem zP{K:UG}{J H:Hp}{T:359}{N:131}{as:List S}{vs:List V}(hs:aY J H)(h:gD K J H as vs):SR ⟨K,H,J,T⟩ J H (L2.start N vs) (aG N as):=by
 have own:∀(i:Nat)(xs:Mn),(aG N as)[i]?≠some (some (mS xs)):=λi xs q=>by obtain⟨v,_,k⟩:=h.get (pH q);cases xs<;>exact k
 refine⟨⟨hs,aY.refl H,aY.refl J,λ_ _ q=>q⟩,?_,λi x q=>?_,λi j xs ys v _ q=>absurd q (own i xs)⟩
 ·unfold aG L2.start;rw[UQ,UQ,UL,UL,VL,VL,h.length]
 ·obtain⟨v,k1,k2⟩:=h.get (pH q);refine⟨v,nM k1,?_⟩;cases x with
  |d y=>exact k2
  |own y=>exact k2.elim
  |bor y=>exact k2
  |oo _ _=>exact k2.elim
  |ob _ _=>exact k2
abbrev sS(P:U0)(w:Vj)(K:UG)(mg:145)(base:VU)(N:131)(UB:Str)(sc:Yd)(f:UX)(cd:UH)(A:Vw)(outer:List Env)(s:UI)(H:Hp)(E:XK):Cx:=(jH ia P w K mg base N UB sc f cd A outer s H E).nox
theorem M7{P:U0}{w:Vj}{K:UG}{mg:145}{base:VU}{x UB:Str}{st:Xq}{f:UX}{fd:Vp}{N ps:131}{k:Nat}{Fm:234}(F:fN K x UB st f fd)(Sc:cK N ps (aF st)){gB:G O}
  (hb:∀(cdv:UH)(A:Vw)(outer:List Env)(s:UI)(H:Hp)(E:XK)(J:Hp)(T:359),cG k 213->
   iQ 279 (bu st) (tW ⟨K,H,J,T⟩ gB))
  (hF:304):dF P w K mg base ia (k+1) f fd ps (oh K ps.length Fm):=by
 refine F.ok Sc (λvs H Q E h=>?_) (λcdv A outer s H vs Q E hr h=>?_)
 ·obtain⟨J,as,h1,h2,h3,h4⟩:=h;rw[h3.length,h2]
 ·obtain⟨J,as,h1,h2,h3,h4⟩:=h;refine⟨_,hb cdv A outer s H E J (λ_=>False) hr,J,aG N as,zP h1 h3,?_⟩;cases q:Fm as with
  |bad=>rw[q]at h4;exact h4.elim
  |exc x=>rw[q]at h4;exact h4.elim
  |ok r=>
   rw[q]at h4;have z:=hF as r h2 q;have ext:∀{J' H':Hp},HI ⟨K,H,J,λ_=>False⟩ J' H'->Ext J H J' H':=λhp=>⟨hp.ent,hp.entJ,hp.sub,hp.frz⟩;cases qg:gB (aG N as)with
   |bad=>rw[qg]at z;cases z
   |exc x=>rw[qg]at z;cases z
   |ok o=>
    rw[qg]at z;cases o with
    |bk _=>cases z
    |ct _=>cases z
    |nx env=>cases z;exact λσ' J' H' _ sr=>h4 .non J' H' (ext sr.hp) .non
    |rt r'=>
     cases z;exact λv J' H' _ hp rf=>h4 v J' H' (ext hp) (by
      cases r with
      |d x=>exact rf
      |l m xs=>exact rf
      |o m _ _=>cases m<;>exact rf)
theorem EA{P:U0}{w:Vj}{K:UG}{mg:145}{base:VU}{x UB:Str}{st:Xq}{f:UX}{fd:Vp}{N ps:131}{k:Nat}{Fm:234}(F:fN K x UB st f fd)(Sc:cK N ps (aF st)){gB:G O}
  (hb:∀(cdv:UH)(A:Vw)(outer:List Env)(s:UI)(H:Hp)(E:XK)(J:Hp)(T:359),cG k 213->
   IS 279 ⟨K,H,J,T⟩ (bu st) gB)
  (hF:304):dF P w K mg base ia (k+1) f fd ps (oh K ps.length Fm):=M7 F Sc (λcdv A outer s H E J T hr=>o7 (hb cdv A outer s H E J T hr) λ_ _ _ q=>PU q) hF
noncomputable def cu:R->R
 | .d x=>.d x
 | .l _ xs=>.l .fresh xs
 | .o m k xs=>.o m k xs
noncomputable def aD(n:Nat)(F:234):List R->M R:=λrs=>if rs.length=n then(match F (rs.map bH)with
 | .ok r=>.ok (cu r)
 |_=>.bad)else .bad
theorem mw.args{He J H:Hp}(hp:HI c J H):∀{rs:List R}{vs:List V},mw c He J H rs vs->gD c.K J H (rs.map bH) vs
 |[],_,h=>h
 |r::rs,_,⟨v,us,h,h1,h2⟩=>by
  refine⟨v,us,h,?_,mw.args hp h2⟩;cases r with
  |d x=>exact h1
  |l m xs=>exact RR.list hp h1 rfl
  |o m _ _=>cases m with
   |own=>obtain⟨a,h1,h2,_⟩:=h1;exact⟨a,h1,h2⟩
   |fresh=>obtain⟨a,h1,h2,_⟩:=h1;exact⟨a,h1,h2⟩
   |bor=>obtain⟨a,h1,h2⟩:=h1;exact⟨a,h1,h2.mono (aY.refl _) hp.ent⟩
theorem Py{F:234}{J H J1 H1:Hp}{Q:VK}{as:List S}{T:359}(hT:c.K=X.K)(e1:Ext J H J1 H1)(ar:gD c.K J1 H1 as vs)(hl:as.length=n)
 (wr:cJ (match F as with
 | .ok r=>.ok (cu r)
 |_=>.bad) (λr=>∀v J' H',Ext J H J' H'->RR c H J' H' r v->Q v H') T):oh X.K n F (vs++[]) H1 Q E0:=by
 rw[hT]at ar;refine⟨J1,as,e1.sub,hl,by rw[V7];exact ar,?_⟩;cases q:F as with
 |bad=>rw[q]at wr;exact wr
 |exc x=>rw[q]at wr;exact wr
 |ok r=>
  rw[q]at wr;intro v J' H' e2 fr;refine wr v J' H' (e1.trans e2) ?_;cases r with
  |d y=>exact(show Rep c.K J' y v from hT▸fr)
  |o m _ _=>cases m with
   |own=>exact fr.elim
   |bor=>exact fr.elim
   |fresh=>obtain⟨a,h1,h2,h3,h4⟩:=fr;exact⟨a,h1,hT▸h2,h3,e1.h.free h4⟩
  |l m ys=>
   obtain⟨a,us,h1,h2,h3,h4,h5⟩:=fr;exact⟨a,us,h1,h2,h3,e1.h.free h4,hT▸h5⟩
theorem GQ{n:Nat}{F:234}{gs:338}(hT:c.K=X.K):∀σ H Q,tD c (gN (aD n F) gs) σ H Q->Dz (oh X.K n F) [] E0 (tA c gs) σ H Q:=λσ H Q ⟨J,env,sr,w⟩=>by
 refine⟨J,env,sr,aB (aH w) λrs wr vs J1 H1 e1 r1=>?_⟩;unfold aD at wr;split at wr
 ·rename_i hl;exact Py hT e1 (r1.args 377) (by simpa using hl) wr
 ·exact wr.elim
theorem Lm{F:234}{gs:338}(G:dF X.prog X.w X.K X.mg X.base ia k f fd ps (oh X.K n F))(hr:cG k X.A)(hm:X.mg x=some 344)(hk:Vu X.K 344=true)
 (hb:Binds X.K fd ps []) (ha:DZ X c (e::es) gs) (hT:autoParam (c.K=X.K) zzA._auto_1) (hg:autoParam (Gl X x) zzA._auto_1) (hdb:141) (he:153)
 (hpl:autoParam ((Wr pos 319).any (·.1)=false) zzA._auto_1):PD X c 205 (gN (aD n F) gs):=
 dX (Lq (E:=E0) G hr hg hm hk hb .nil Dj ha hdb he hpl) (GQ hT)
end
noncomputable def fZ(cells:294):List (Str×XJ)->List (Str×UX)->Option (List (Str×UX))
 |[],cs=>some cs
 |(n,k)::r,cs=>if k==.free then(match cells.lookup n with
  |some a=>fZ cells r ((n,a)::cs)
  |none=>none)else fZ cells r cs
theorem lR{env:Env}:∀(names:List (Str×XJ))(cs cl:294),fZ env.cells names cs=some cl->
  (forIn names cs λ(x:Str×XJ)(r:294)=>(if(x.2==.free)=true then do let a <-cellOf env x.1;pure (Xv ((x.1,a)::r))else pure (Xv r):Sem (ForInStep (List (Str×UX)))))=(pure cl:Sem (List (Str×UX)))
 |[],cs,cl,h=>by cases h;rfl
 |(n,k)::r,cs,cl,h=>by
  unfold fZ at h;rw[List.forIn_cons];cases hk:(k==WJ)with
  |true=>
   rw[hk,if_pos rfl]at h;cases hc:env.cells.lookup n with
   |none=>rw[hc]at h;cases h
   |some a=>
    rw[hc]at h;have e:cellOf env n=pure a:=by unfold cellOf;rw[hc]
    simp only[hk,if_true,e];exact lR r ((n,a)::cs) cl h
  |false=>
   rw[hk,if_neg 120]at h;simp only[hk];exact lR r cs cl h
theorem wX{scope:Yd}{env:Env}(h:fZ env.cells scope.names []=some cl):closureFor scope env=pure cl:=by have q:=lR (env:=env) scope.names [] cl h;unfold closureFor;show((forIn scope.names [] λ(x:Str×XJ)(r:294)=>(if(x.2==.free)=true then do let a <-cellOf env x.1;pure (Xv ((x.1,a)::r))else pure (Xv r):Sem (ForInStep (List (Str×UX)))))>>=λz=>pure z)=pure cl;rw[q];rfl
theorem iM{cells:294}:∀(names:List (Str×XJ))(cs cl:294),fZ cells names cs=some cl->(∀x c,cs.lookup x=some c->cells.lookup x=some c)->
  (∀x c,cl.lookup x=some c->cells.lookup x=some c)/\(∀x,((cs.lookup x).isSome=true\/(x,WJ)∈names)->(cl.lookup x).isSome=true)
 |[],cs,cl,h,k=>by cases h;exact⟨k,λx hx=>hx.elim id λz=>by cases z⟩
 |(n,kd)::r,cs,cl,h,k=>by
  unfold fZ at h;cases hk:(kd==WJ)with
  |true=>
   rw[hk,if_pos rfl]at h;cases hc:cells.lookup n with
   |none=>rw[hc]at h;cases h
   |some a=>
    rw[hc]at h;obtain⟨h1,h2⟩:=iM r ((n,a)::cs) cl h (λx c q=>by
     rw[Wq]at q;cases e:x==n with
     |true=>
      rw[e]at q;cases q;have:x=n:=by simpa using e
      rw[this];exact hc
     |false=>rw[e]at q;exact k x c q)
    refine⟨h1,λx hx=>h2 x ?_⟩;by_cases e:x=n
    ·left;subst e;rw[Wq];simp
    ·have e':(x==n)=false:=by simpa using e
     rcases hx with hx|hx
     ·left;rw[Wq,e'];exact hx
     ·right;rcases UR.mp hx with z|z
      ·cases z;exact absurd rfl e
      ·exact z
  |false=>
   rw[hk,if_neg 120]at h;obtain⟨h1,h2⟩:=iM r cs cl h k;refine⟨h1,λx hx=>h2 x ?_⟩;rcases hx with hx|hx
   ·exact .inl hx
   ·rcases UR.mp hx with z|z
    ·cases z;simp at hk
    ·exact .inr z
section
variable{X:Cx}
def cN(X:Cx)(own:131)(cap:249):List Str:=own++cap.map λ(j:Nat)=>(X.N[j]?).getD ("":Str)
noncomputable def MV(X:Cx)(own:131)(cap:249)(scope:Yd)(cl:294)(C:UX)(s:UI)(H:Hp)(fp:List UX):Cx where
 prog:=X.prog
 w:=X.w
 K:=X.K
 mg:=X.mg
 base:=X.base
 A:=X.A
 N:=cN X own cap
 s₀:=s
 H₀:=H
 env:=compEnvC scope cl C X.env
 outer:=X.stack
 stack:=X.stack
 ex:=fp
 fn:=λ_=>false
 calm:=X.calm
 pn:=[]
 xe:=λ_ _=>False
noncomputable def pP(X:Cx)(cap:249):Bool:=cap.all λj=>match X.N[j]? with
 |some x=>(match X.env.scope.names.lookup x with
  |some .cell=>true
  |some .free=>true
  |_=>false)
 |none=>false
theorem zG{scope:Yd}(hc:∀y∈scope.names,y.2≠.cell):∀{x:Str},((relabel scope env).names.lookup x=some .cell\/(relabel scope env).names.lookup x=some .free)->(x,WJ)∈scope.names:=by
 unfold relabel;have main:∀(names:List (Str×XJ)),(∀y∈names,y.2≠.cell)->∀x,((names.map λ(n,k)=>if 324 then(n,Zi)else(n,k)).lookup x=some .cell\/
   (names.map λ(n,k)=>if 324 then(n,Zi)else(n,k)).lookup x=some .free)->(x,WJ)∈names:=by
  intro names
  induction names with
  |nil=>intro _ x h;simp at h
  |cons p r ih=>
   obtain⟨n,k⟩:=p;intro hc x h;rw[Vl]at h;simp only at h;by_cases hx:x=n
   ·subst hx;have hk:k≠.cell:=hc (x,k) UO;have:k=.free:=by
     by_cases q:(k==WJ&&env.scope.kind==.function&&env.kindOf x==some .cell)=true
     ·rw[Vg,Vg]at q;simpa using q.1.1
     ·rw[if_neg q,Wq]at h;simp at h;rcases h with h|h
      ·exact absurd h hk
      ·exact h
    subst this;exact UO
   ·have hx':(x==n)=false:=by simpa using hx
    refine UN _ (ih (λy hy=>hc y (UN _ hy)) x ?_);have red:∀(q:Str×XJ)(l:List (Str×XJ)),q.1=n->XQ x (q::l)=XQ x l:=λq l hq=>by obtain⟨q1,q2⟩:=q;simp only at hq;subst hq;rw[Wq,hx']
    have hq:(if 324 then(n,Zi)else(n,k)).1=n:=by split<;>rfl
    rw[red _ _ hq]at h;exact h
 intro x h;exact main scope.names hc x h
end
section
variable{X:Cx}{c:C}
noncomputable def BY(X:Cx)(c:C)(ifs:List VC)(g:G Bool):Prop:=
 ∀(Ux:143)(s:UI)(σ:L2.St)(H:Hp)(Q:Bool->Hp->Prop),Inv X Ux σ H s->tB c g σ H Q->
  UZ 126 X.A (forIn ifs true λc r=>if r=true then do let ok <-acn c X.env (eval c X.env);pure (Xv ok)else pure (Xv r)) (TP X Ux σ Q) X.xe s
def f_:G Bool:=λ_=>.ok true
noncomputable def fH(gt:GT)(gts:G Bool)(ge:G R):List D->Ev->M (List D)
 |[],_=>.ok []
 |d::ds,env=>gt d env>>=λe=>gts e>>=λk=>if k=true then ge e>>=λr=>toD r>>=λy=>fH gt gts ge ds e>>=λys=>.ok (y::ys)else fH gt gts ge ds e
def cE(n:Nat)(cap:249)(env:Ev):Ev:=Vv n none++cap.map λ(j:Nat)=>(env[j]?).getD none
noncomputable def c9(n:Nat)(cap:249)(gi:244)(gt:GT)(gts:G Bool)(ge:G R):G R:=λenv=>gi env>>=λds=>if ds.length<=sizeLine then fH gt gts ge ds (cE n cap env)>>=λys=>.ok (.l .fresh ys)else .bad
theorem jO{α:Type}{n:Nat}{cap:249}{env:List (Option α)}{i:Nat}{x:α}(h:(Vv n none++cap.map λ(j:Nat)=>(env[j]?).getD none)[i]?=some (some x)):∃j,n<=i/\cap[i-n]?=some j/\env[j]?=some (some x):=by
 by_cases hi:i<n
 ·rw[W5 (by simpa using hi),Zc]at h;split at h<;>cases h
 ·rw[Wx (by simpa using hi),VL,Vi]at h;cases q:cap[i-n]? with
  |none=>rw[q]at h;cases h
  |some j=>
   rw[q]at h;refine⟨j,by omega,rfl,?_⟩;have h':(env[j]?).getD none=some x:=Ve h;cases z:env[j]? with
   |none=>rw[z]at h';cases h'
   |some o=>rw[z]at h';exact congrArg some h'
theorem OV{α:Type}{n:Nat}{cap:249}{env:List (Option α)}{i j:Nat}{x:α}(h1:n<=i)(h2:cap[i-n]?=some j)(h3:env[j]?=some (some x)):(Vv n none++cap.map λ(j:Nat)=>(env[j]?).getD none)[i]?=some (some x):=by rw[Wx (by simpa using h1),VL,Vi,h2];simp[h3]
theorem SR.cap{J H:Hp}{σ:L2.St}{env:Ev}(sr:SR c J H σ env)(n:Nat)(cap:249)(hnd:cap.Nodup):SR c J H (Vv n none++cap.map λ(j:Nat)=>(σ[j]?).getD none) (cE n cap env):=by
 refine⟨sr.hp,by simp[cE],λi x q=>?_,λi j xs ys v hij q1 q2 q3 q4=>?_⟩
 ·obtain⟨j,h1,h2,h3⟩:=jO q;obtain⟨v,k1,k2⟩:=sr.at_ j x h3;exact⟨v,OV h1 h2 k1,k2⟩
 ·obtain⟨a,h1,h2,h3⟩:=jO q1;obtain⟨b,h4,h5,h6⟩:=jO q2;obtain⟨a',h7,h8,h9⟩:=jO q3;obtain⟨b',Uu,h11,h12⟩:=jO q4;rw[h2]at h8;cases h8;rw[h5]at h11;cases h11;have hab:a≠b:=λz=>by subst z;have e1:=(Vs.mp h2);have e2:=(Vs.mp h5);have:=(adt hnd).mp (e1.2.trans e2.2.symm);omega
  exact sr.sep a b xs ys v hab h3 h6 h9 h12
theorem SR.other{J H:Hp}(sr:SR c J H σ env)(hJ:J p=none)(h0:c.H0 p=none)(hn:∀(j:Nat)(xs:Mn),env[j]?=some (some (mS xs))->σ[j]?≠some (some (.ref p))):SR c J (L2.upd H p o) σ env:=by
 refine⟨⟨λb u q=>?_,λb u q=>?_,sr.hp.entJ,sr.hp.frz⟩,sr.len,λj y q=>?_,sr.sep⟩
 ·have:b≠p:=λz=>by rw[z,hJ]at q;cases q
  rw[aU this];exact sr.hp.sub b u q
 ·have:b≠p:=λz=>by rw[z,h0]at q;cases q
  rw[aU this];exact sr.hp.ent b u q
 ·obtain⟨w,k1,k2⟩:=sr.at_ j y q;refine⟨w,k1,?_⟩;cases y with
  |d x=>exact k2
  |bor zs=>exact k2
  |ob _ _=>exact k2
  |oo k zs=>
   obtain⟨p',rfl,⟨ws,m1,mr⟩,m2⟩:=k2;have hne:p'≠p:=λz=>hn j (.oo k zs) q (z▸k1);exact⟨p',rfl,⟨ws,m1.mono λo q=>by rw[aU hne];exact q,mr⟩,m2⟩
  |own zs=>
   obtain⟨p',us,rfl,m1,m2,m3,m4⟩:=k2;have hne:p'≠p:=λz=>hn j (.inl zs) q (z▸k1);exact⟨p',us,rfl,by rw[aU hne];exact m1,m2,m3,m4⟩
theorem Ext.other{J H J' H':Hp}(e:Ext J H J' H')(h:H p=none)(hJ:J' p=none):Ext J H J' (L2.upd H' p o):=
 ⟨λb u q=>by rw[aU (fO q h)];exact e.h b u q,e.j,λb u q=>by
  have:b≠p:=λz=>by rw[z,hJ]at q;cases q
  rw[aU this];exact e.sub b u q,e.frz⟩
theorem As{H:Hp}(x:eT P w H h)(hn:H a=none)(sb:WN a h h'):eT P w H h':=λb u e=>by
 refine(x b u e).stay (λd v hd q=>(sb.2 d ?_).trans q) (λ_ q=>q) λ_ _ q=>q;rintro rfl;rcases hd with rfl|hd
 ·rw[hn]at e;cases e
 ·rw[hn]at hd;cases hd
theorem Rg{Ux:143}{σ:L2.St}{H:Hp}{s:UI}{own:131}{cap:249}{scope:Yd}{cl:294}{fp:List UX}{h1:VU}{m:145}{tk:Nat}(I:135)(ok:(MV X own cap scope cl s.heap.objs.size s H fp).Ok)
  (hcl:fZ X.env.cells scope.names []=some cl) (hcell:∀y∈scope.names,y.2≠.cell) (hcap:pP X cap=true) (Sk:∀j∈cap,∀x,X.N[j]?=some x->(relabel scope X.env).names.lookup x≠some .local)
  (hns:h1.Ns s.heap.objs.size m) (old:∀b o,s.heap.get? b=some o->h1.get? b=some o):
  Inv (MV X own cap scope cl s.heap.objs.size s H fp) [] (Vv own.length none++cap.map λ(j:Nat)=>(σ[j]?).getD none) H {s with heap:=h1,toks:=tk}:=by
 obtain⟨m1,m2⟩:=iM scope.names [] cl hcl (λx c h=>by simp at h);refine⟨ok,rfl,I.bare,Un.kept old,⟨m,hns,λi x v q1 q2 q3=>?_⟩,λx d h=>?_,I.hok.fresh (UW _),λx d h=>I.freeC x d (m1 x d h),λp hp=>absurd (show p∈([]:List (UX×Obj))from hp) 229,I.hok.kept old,?_⟩
 ·obtain⟨j,h2,h3,h4⟩:=jO q2;have q1':(own++cap.map λ(j:Nat)=>(X.N[j]?).getD ("":Str))[i]?=some x:=q1;rw[Wx (by exact h2),Vi,h3]at q1';have hj:j∈cap:=XU h3;have hc:(match X.N[j]? with
   |some x=>(match X.env.scope.names.lookup x with
    |some .cell=>true
    |some .free=>true
    |_=>false)
   |none=>false)=true:=by unfold pP at hcap;exact Xi.mp hcap j hj
  cases hx:X.N[j]? with
  |none=>rw[hx]at hc;cases hc
  |some y=>
   rw[X4,hx]at q1';rw[hx]at hc;have e:y=x:=by simpa using q1'
   subst e;have kd:X.env.kindOf y=some .cell\/X.env.kindOf y=some .free:=by
    unfold afQ;simp only at hc;split at hc
    ·rename_i z;exact .inl z
    ·rename_i z;exact .inr z
    ·cases hc
   obtain⟨mX,nX,lX⟩:=I.loc;obtain⟨u,ru,lu⟩:=lX j y v hx h4 (kd.elim (λz=>.inr (.inl z)) λz=>.inr (.inr z));refine⟨u,ru,.inr ?_⟩;have kd':(relabel scope X.env).names.lookup y=some .cell\/(relabel scope X.env).names.lookup y=some .free:=by
    rcases q3 with z|z|z
    ·exact absurd z (Sk j hj y hx)
    ·exact .inl z
    ·exact .inr z
   refine⟨kd',?_⟩;obtain⟨d,hd⟩:=VQ.mp (m2 y (.inr (zG hcell kd')));refine⟨d,hd,?_⟩;rcases lu with⟨z,_⟩|⟨_,d',hd',z⟩
   ·rcases kd with k|k<;>(rw[k]at z;cases z)
   ·have:=m1 y d hd;rw[hd']at this;cases this;obtain⟨o,ho,hod⟩:=z;exact⟨o,old _ _ ho,hod⟩
 ·obtain⟨v,o,ho,hod⟩:=I.cell x d (m1 x d h);exact⟨v,o,old _ _ ho,hod⟩
 ·show _=(own++cap.map λ(j:Nat)=>(X.N[j]?).getD ("":Str)).length;simp
noncomputable def El(X:Cx)(cap:249)(scope:Yd):Bool:=cap.all λj=>match X.N[j]? with
 |some x=>!((relabel scope X.env).names.lookup x==some .local)
 |none=>true
noncomputable def zg:List Nat->Bool
 |[]=>true
 |x::r=>!(r.contains x)&&zg r
theorem Bl:∀{l:249},zg l=true->l.Nodup
 |[],_=>XR
 |x::r,h=>by unfold zg at h;rw[Vg]at h;refine WD.mpr ⟨λz=>?_,Bl h.2⟩;have:=h.1;simp[z]at this
theorem MJ{X:Cx}{H:Hp}{s:UI}(I:325)(h:s.heap.objs.size<=T):(T∈X.ex\/X.s₀.heap.objs.size<=T)/\T≠X.env.locals/\(∀x c,X.env.cells.lookup x=some c->c≠T)/\∀p∈X.pn++Ux,p.1≠T:=by have ne:∀b,b<s.heap.objs.size->b≠T:=λb hb z=>absurd (U6 (z▸hb) h) (Ws _);refine⟨.inr (Vr I.sz h),(ne _ I.lt).symm,λx c hc=>?_,λp hp=>ne _ (UY (I.pin p hp).1)⟩;obtain⟨v,o,hv,_⟩:=I.cell x c hc;exact ne _ (UY hv)
theorem Fv{X:Cx}{H:Hp}{s:UI}{C:UX}{o0:Obj}(I:325)(ap:(C∈X.ex\/X.s₀.heap.objs.size<=C)/\C≠X.env.locals/\(∀x c,X.env.cells.lookup x=some c->c≠C)/\∀p∈X.pn++Ux,p.1≠C)(hf:H C=none)(sb:WN C s.heap h'):L2.Inv X Ux σ H {s with heap:=h'}:=by
 refine I.call' (ch:=[C]) rfl ⟨λb o hb hn _ hx=>?_,λb o hb hn _ hx=>⟨o.slots,?_⟩,λ_ _ _ n _=>n,λb o hb hx=>⟨o,?_⟩,λ_ _ q=>q,λ_ _ _ q=>q,λ_ ps q=>⟨#[],by rw[q];simp⟩⟩ (λa o ha=>?_) I.bare (λb hb=>by rw[UM.mp hb];exact ap)
 ·exact(sb.2 b λz=>hx (by simp[z])).trans hb
 ·exact(sb.2 b λz=>hx (by simp[z])).trans hb
 ·exact(sb.2 b λz=>hx (by simp[z])).trans hb
 ·refine(I.hok a o ha).stay (λb u hb q=>(sb.2 b λz=>?_).trans q) (λ_ q=>q) λ_ _ q=>q;rcases hb with rfl|hb
  ·rw[z,hf]at ha;cases ha
  ·rw[z,hf]at hb;cases hb
end
mutual
noncomputable def cV:D->D->Bool
 | .non,.non=>true
 | .bl p,.bl q=>p==q
 | .bl p,.int q=>(if p then 1 else 0)==q
 | .int p,.bl q=>p==(if q then 1 else 0)
 | .int p,.int q=>p==q
 | .str p,.str q=>p==q
 | .tup p,.tup q=>gg p q
 | .lst p,.lst q=>gg p q
 | .emp,.emp=>true
 | .exn _ _ _,.exn _ _ _=>true
 | .dct _ _,.dct _ _=>true
 | .ob _ _,.ob _ _=>true
 |_,_=>false
noncomputable def gg:List D->List D->Bool
 |[],[]=>true
 |x::xs,y::ys=>cV x y&&gg xs ys
 |_,_=>false
end
mutual
theorem m_:∀d:D,cV d d=true
 | .non=>by simp[cV]
 | .bl _=>by simp[cV]
 | .int _=>by simp[cV]
 | .str _=>by simp[cV]
 | .tup xs=>by simp only[cV];exact oG xs
 | .lst xs=>by simp only[cV];exact oG xs
 | .emp=>by simp[cV]
 | .exn _ _ _=>by simp[cV]
 | .dct _ _=>by simp[cV]
 | .ob _ _=>by simp[cV]
theorem oG:∀ds:List D,gg ds ds=true
 |[]=>by simp[gg]
 |x::xs=>by simp only[gg,m_ x,oG xs,acC]
end
theorem nc:∀{xs ys:List D},xs.length≠ys.length->gg xs ys=false
 |[],[],h=>absurd rfl h
 |[],_::_,_=>by simp[gg]
 |_::_,[],_=>by simp[gg]
 |x::xs,y::ys,h=>by simp only[gg,nc (xs:=xs) (ys:=ys) (λz=>h (congrArg (· + 1) z)),YQ]
noncomputable def nD(xs ys:List D)(j:Nat):Bool:=match xs[j]?,ys[j]? with
 |some x,some y=>cV x y
 |_,_=>false
theorem ng:∀{xs ys:List D},xs.length=ys.length->(U8 xs.length).all (nD xs ys)=gg xs ys
 |[],[],_=>by simp[gg]
 |x::xs,y::ys,h=>by have ih:=ng (xs:=xs) (ys:=ys) (by simpa using h);rw[Vt,List.range_succ_eq_map,aaT,List.all_map];simp only[gg];rw[<-ih];rfl
theorem yI(xs ys:List D):((U8 (min xs.length ys.length)).all (nD xs ys)&&xs.length==ys.length)=gg xs ys:=by
 by_cases h:xs.length=ys.length
 ·rw[<-h,abD,ng h];simp
 ·rw[nc h,beq_eq_false_iff_ne.mpr h,YQ]
section
structure HF(K:UG)(J:Hp)(s:UI):Prop where
 t:∀a xs,eZ K J a xs->∃Uy:List UH,Vals xs Uy/\s.heap.IsTuple a Uy.toArray
 l:∀a xs,cY K J a xs->∃Uy:List UH,Vals xs Uy/\s.heap.IsList a Uy.toArray
 e:∀a,J a=some (.dK [])->∃o,s.heap.get? a=some o/\o.cls=.type "dict"
 d:∀a ep UC,J a=some (Jf a ep UC)->∃o es,s.heap.get? a=some o/\o.ExactDict/\o.data=.dict es ep/\aaB My UC es.toList
variable{K:UG}{J:Hp}{s:UI}
theorem HF.of{X:Cx}{c:C}{H:Hp}(I:135)(hs:aY J H):HF X.K J s:=
 ⟨λa xs h=>let ⟨Uy,r,p,_⟩:=I.tuple (gA hs h);⟨Uy,r,p⟩,λa xs h=>let ⟨Uy,r,p,_⟩:=I.list (hs.seq h);⟨Uy,r,p.isList⟩,λa h=>by
  obtain⟨_,_,vs,_,p⟩:=(show cB X.prog X.w H s.heap a (.dK [])from I.hok a _ (hs _ _ h));obtain⟨o,es,ep,h1,h2,_⟩:=p;exact⟨o,h1,h2.1⟩,λa ep UC h=>(show cB X.prog X.w H s.heap a (Jf a ep UC)from I.hok a _ (hs _ _ h)).1⟩
theorem ES{xs ys:List UH}(h:s.heap.IsTuple a xs.toArray)(h':s.heap.IsTuple a ys.toArray):xs=ys:=by
 obtain⟨o,ho,_,n,hd⟩:=h;obtain⟨o',ho',_,n',hd'⟩:=h';rw[ho]at ho';cases ho';rw[hd]at hd';injection hd' with h1 _
 simpa using congrArg abt h1
theorem CL{xs ys:List UH}(h:s.heap.IsList a xs.toArray)(h':s.heap.IsList a ys.toArray):xs=ys:=by
 obtain⟨o,ho,_,n,hd⟩:=h;obtain⟨o',ho',_,n',hd'⟩:=h';rw[ho]at ho';cases ho';rw[hd]at hd';injection hd' with h1 _
 simpa using congrArg abt h1
mutual
theorem Rep.inj(F:HF K J s):∀{d e:D}{v:V},Rep K J d v->Rep K J e v->dep d<=1000->dep e<=1000->d=e
 |_,_,_,.emp _,_,h,_=>by unfold dep at h;omega
 |_,_,_,.exn _ _ _ _ _,_,h,_=>by unfold dep at h;omega
 |_,_,_,.dct _ _ _ _ _,_,h,_=>by unfold dep at h;omega
 |_,_,_,.ob _ _,_,h,_=>by unfold dep at h;omega
 |_,_,_,.non,.non,_,_=>rfl
 |_,_,_,.bl _,.bl _,_,_=>rfl
 |_,_,_,.int _,.int _,_,_=>rfl
 |_,_,_,.str _,.str _,_,_=>rfl
 |_,_,_,.tup _ _,.emp _,_,h=>by unfold dep at h;omega
 |_,_,_,.lst _ _,.emp _,_,h=>by unfold dep at h;omega
 |_,_,_,.tup _ _,.exn _ _ _ _ _,_,h=>by unfold dep at h;omega
 |_,_,_,.tup _ _,.dct _ _ _ _ _,_,h=>by unfold dep at h;omega
 |_,_,_,.tup _ _,.ob _ _,_,h=>by unfold dep at h;omega
 |_,_,_,.lst _ _,.exn _ _ _ _ _,_,h=>by unfold dep at h;omega
 |_,_,_,.lst _ _,.dct _ _ _ _ _,_,h=>by unfold dep at h;omega
 |_,_,_,.lst _ _,.ob _ _,_,h=>by unfold dep at h;omega
 |_,_,_,.tup h hs,.tup h' hs',k,k'=>by obtain⟨Uy,r,p⟩:=F.t _ _ h;obtain⟨its',r',p'⟩:=F.t _ _ h';have:=ES p p';subst this;have:=r.inj r';subst this;rw[aW.inj F hs hs' (by unfold dep at k;omega) (by unfold dep at k';omega)]
 |_,_,_,.lst h hs,.lst h' hs',k,k'=>by obtain⟨Uy,r,p⟩:=F.l _ _ h;obtain⟨its',r',p'⟩:=F.l _ _ h';have:=CL p p';subst this;have:=r.inj r';subst this;rw[aW.inj F hs hs' (by unfold dep at k;omega) (by unfold dep at k';omega)]
 |_,_,_,.tup h _,.lst h' _,_,_=>by obtain⟨Uy,r,p⟩:=F.t _ _ h;obtain⟨its',r',p'⟩:=F.l _ _ h';exact absurd rfl (abi p' p)
 |_,_,_,.lst h _,.tup h' _,_,_=>by obtain⟨Uy,r,p⟩:=F.l _ _ h;obtain⟨its',r',p'⟩:=F.t _ _ h';exact absurd rfl (abi p p')
theorem aW.inj(F:HF K J s):∀{ds es:List D}{vs:List V},aW K J ds vs->aW K J es vs->deps ds<=1000->deps es<=1000->ds=es
 |_,_,_,.nil,.nil,_,_=>rfl
 |_,_,_,.cons h hs,.cons h' hs',k,k'=>by rw[Rep.inj F h h' (by unfold deps at k;omega) (by unfold deps at k';omega),aW.inj F hs hs' (by unfold deps at k;omega) (by unfold deps at k';omega)]
end
theorem iZ{A:Vw}{Uy:Array UH}(h:s.heap.IsTuple a Uy)(r:RelV v u)(f:s_ v=true)(hu:A.units<YE):Yp A s 307 u false/\Yp A s u 307 false:=by
 cases v with
 |non=>cases r;exact⟨.tuple_none h hu,.none_tuple h hu⟩
 |bl b=>cases r;exact⟨.tuple_bool b h hu,.bool_tuple b h hu⟩
 |int i=>obtain⟨t,rfl⟩:=r;exact⟨.tuple_int i t h hu,.int_tuple i t h hu⟩
 |str x=>obtain⟨t,rfl⟩:=r;exact⟨.tuple_str x t h hu,.str_tuple x t h hu⟩
 |_=>exact absurd (show false=true from f) VV
theorem jD{A:Vw}{Uy:Array UH}(h:s.heap.IsList a Uy)(r:RelV v u)(f:s_ v=true)(hu:A.units<YE):Yp A s 307 u false/\Yp A s u 307 false:=by
 cases v with
 |non=>cases r;exact⟨.list_none h hu,.none_list h hu⟩
 |bl b=>cases r;exact⟨.list_bool b h hu,.bool_list b h hu⟩
 |int i=>obtain⟨t,rfl⟩:=r;exact⟨.list_int i t h hu,.int_list i t h hu⟩
 |str x=>obtain⟨t,rfl⟩:=r;exact⟨.list_str x t h hu,.str_list x t h hu⟩
 |_=>exact absurd (show false=true from f) VV
noncomputable def oV:D->Bool
 | .tup _=>false
 | .lst _=>false
 | .emp=>false
 | .exn _ _ _=>false
 | .dct _ _=>false
 | .ob _ _=>false
 |_=>true
theorem Rep.flat(h:Rep K J d v)(f:oV d=true):s_ v=true:=by cases h<;>first|rfl|cases f
theorem G3(h:Rep K J d v)(h':Rep K J e w)(f:oV d=true)(f':oV e=true):M1 v w=cV d e:=by cases h<;>cases h'<;>first|rfl|cases f|cases f'|simp[M1,cV]
theorem in1_units(A:Vw):A.in1.units=A.units+1:=rfl
theorem sZ(F:HF K J s)(A:Vw)(hd:Rep K J d v)(he:Rep K J e w)(rv:RelV v u)(rw':RelV w u')(f:oV d=true)(hu:A.units<YE)(hu':dep e<=1000):Yp A s u u' (cV d e):=by
 cases q:oV e with
 |true=>rw[<-G3 hd he f q];exact M0 rv rw' (hd.flat f) (he.flat q)
 |false=>
  cases he with
  |tup h' hs'=>
   cases rw';obtain⟨its',r',p'⟩:=F.t _ _ h';have:=(iZ p' rv (hd.flat f) hu).2;cases hd<;>first|exact this|cases f
  |lst h' hs'=>
   cases rw';obtain⟨its',r',p'⟩:=F.l _ _ h';have:=(jD p' rv (hd.flat f) hu).2;cases hd<;>first|exact this|cases f
  |emp _=>unfold dep at hu';omega
  |exn _ _ _ _ _=>unfold dep at hu';omega
  |dct _ _ _ _ _=>unfold dep at hu';omega
  |ob _ _=>unfold dep at hu';omega
  |_=>cases q
mutual
theorem Ew(F:HF K J s):∀{d e:D}{v w:V}{u u':UH}(A:Vw),Rep K J d v->Rep K J e w->RelV v u->RelV w u'->A.units+dep d<YE->dep d<=1000->dep e<=1000->Yp A s u u' (cV d e)
 | .tup ds,e,_,w,u,u',A,.tup h hs,he,rv,rw',hu,hd1,hu'=>by
  cases rv;obtain⟨Uy,r,p⟩:=F.t _ _ h;have RK:A.units<YE:=by unfold dep at hu;omega
  cases he with
  |tup h' hs'=>
   cases rw';obtain⟨its',r',p'⟩:=F.t _ _ h';rename_i a vs b ws es;by_cases q:a=b
   ·subst q;have:=Rep.inj F (.tup h hs) (.tup h' hs') hd1 hu';rw[<-this,m_];exact abA _
   ·have l1:Uy.length=ds.length:=by rw[<-r.length,hs.length]
    have l2:its'.length=es.length:=by rw[<-r'.length,hs'.length]
    simp only[cV];rw[<-yI,<-l1,<-l2];refine acE q ?_;have:=acX (e:=nD ds es) p p' RK λj j1 j2=>by
     have k1:j<ds.length:=by rw[<-l1];simpa using j1
     have k2:j<es.length:=by rw[<-l2];simpa using j2
     have:=mD F A.in1 hs hs' r r' (by rw[in1_units];unfold dep at hu;omega) (by unfold dep at hd1;omega) (by unfold dep at hu';omega) j k1 k2;have m1:j<Uy.length:=by simpa using j1
     have m2:j<its'.length:=by simpa using j2
     simpa[m1,m2]using this
    simpa using this
  |lst h' hs'=>
   cases rw';obtain⟨its',r',p'⟩:=F.l _ _ h';exact ae0 p p' RK
  |non=>exact(iZ p rw' rfl RK).1
  |bl _=>exact(iZ p rw' rfl RK).1
  |int _=>exact(iZ p rw' rfl RK).1
  |str _=>exact(iZ p rw' rfl RK).1
  |emp _=>unfold dep at hu';omega
  |exn _ _ _ _ _=>unfold dep at hu';omega
  |dct _ _ _ _ _=>unfold dep at hu';omega
  |ob _ _=>unfold dep at hu';omega
 | .lst ds,e,_,w,u,u',A,.lst h hs,he,rv,rw',hu,hd1,hu'=>by
  cases rv;obtain⟨Uy,r,p⟩:=F.l _ _ h;have RK:A.units<YE:=by unfold dep at hu;omega
  cases he with
  |lst h' hs'=>
   cases rw';obtain⟨its',r',p'⟩:=F.l _ _ h';rename_i a vs b ws es;by_cases q:a=b
   ·subst q;have:=Rep.inj F (.lst h hs) (.lst h' hs') hd1 hu';rw[<-this,m_];exact abA _
   ·have l1:Uy.length=ds.length:=by rw[<-r.length,hs.length]
    have l2:its'.length=es.length:=by rw[<-r'.length,hs'.length]
    simp only[cV];refine acE q ?_;by_cases z:ds.length=es.length
    ·rw[<-ng z,<-l1];have:=ady (e:=nD ds es) p p' (by simp;omega) RK λj j1 j2=>by
      have k1:j<ds.length:=by rw[<-l1];simpa using j1
      have k2:j<es.length:=by rw[<-l2];simpa using j2
      have:=mD F A.in1 hs hs' r r' (by rw[in1_units];unfold dep at hu;omega) (by unfold dep at hd1;omega) (by unfold dep at hu';omega) j k1 k2;have m1:j<Uy.length:=by simpa using j1
      have m2:j<its'.length:=by simpa using j2
      simpa[m1,m2]using this
     simpa using this
    ·rw[nc z];exact aeu p p' (by simp;omega) RK
  |tup h' hs'=>
   cases rw';obtain⟨its',r',p'⟩:=F.t _ _ h';exact ae1 p p' RK
  |non=>exact(jD p rw' rfl RK).1
  |bl _=>exact(jD p rw' rfl RK).1
  |int _=>exact(jD p rw' rfl RK).1
  |str _=>exact(jD p rw' rfl RK).1
  |emp _=>unfold dep at hu';omega
  |exn _ _ _ _ _=>unfold dep at hu';omega
  |dct _ _ _ _ _=>unfold dep at hu';omega
  |ob _ _=>unfold dep at hu';omega
 | .non,e,v,w,u,u',A,hd,he,rv,rw',hu,_,hu'=>sZ F A hd he rv rw' rfl 112 hu'
 | .bl _,e,v,w,u,u',A,hd,he,rv,rw',hu,_,hu'=>sZ F A hd he rv rw' rfl 112 hu'
 | .int _,e,v,w,u,u',A,hd,he,rv,rw',hu,_,hu'=>sZ F A hd he rv rw' rfl 112 hu'
 | .emp,e,v,w,u,u',A,hd,he,rv,rw',hu,hd1,hu'=>by unfold dep at hd1;omega
 | .exn _ _ _,e,v,w,u,u',A,hd,he,rv,rw',hu,hd1,hu'=>by unfold dep at hd1;omega
 | .dct _ _,e,v,w,u,u',A,hd,he,rv,rw',hu,hd1,hu'=>by unfold dep at hd1;omega
 | .ob _ _,e,v,w,u,u',A,hd,he,rv,rw',hu,hd1,hu'=>by unfold dep at hd1;omega
 | .str _,e,v,w,u,u',A,hd,he,rv,rw',hu,_,hu'=>sZ F A hd he rv rw' rfl 112 hu'
theorem mD(F:HF K J s):∀{ds es:List D}{vs ws:List V}{us us':List UH}(A:Vw),aW K J ds vs->aW K J es ws->Vals vs us->Vals ws us'->A.units+deps ds<YE->deps ds<=1000->deps es<=1000->
  ∀(j:Nat)(h1:j<ds.length)(h2:j<es.length),Yp A s (us.getD j .none) (us'.getD j .none) (nD ds es j)
 |_,_,_,_,_,_,A,.cons h hs,.cons h' hs',.cons r rs,.cons r' rs',hu,k1,k2,0,_,_=>Ew F A h h' r r' (by unfold deps at hu;omega) (by unfold deps at k1;omega) (by unfold deps at k2;omega)
 |_,_,_,_,_,_,A,.cons h hs,.cons h' hs',.cons r rs,.cons r' rs',hu,k1,k2,j+1,h1,h2=>mD F A hs hs' rs rs' (by unfold deps at hu;omega) (by unfold deps at k1;omega) (by unfold deps at k2;omega) j (by simpa using h1) (by simpa using h2)
end
end
section
variable{K:UG}{J:Hp}{s:UI}
theorem FZ(F:HF K J s)(A:Vw)(hd:Rep K J d v)(he:Rep K J e w)(rv:RelV v u)(rw':RelV w u')(hu:A.units+dep d<YE)(hd1:dep d<=1000)(hu':dep e<=1000):SeqAt.RcAt A s u u' (cV d e)/\SeqAt.RcNeAt A s u u' (!cV d e):=by
 have RK:A.units<YE:=by omega
 cases hd with
 |non=>
  cases rv;cases he with
  |non=>cases rw';exact⟨.none_none,.none_none⟩
  |bl b=>cases rw';exact⟨.none_bool b,.none_bool b⟩
  |int i=>obtain⟨t,rfl⟩:=rw';exact⟨.none_int i t,.none_int i t⟩
  |str x=>obtain⟨t,rfl⟩:=rw';exact⟨.none_str x t,.none_str x t⟩
  |tup h hs=>cases rw';obtain⟨Uy,r,p⟩:=F.t _ _ h;exact⟨.none_tuple p RK,.none_tuple p RK⟩
  |lst h hs=>cases rw';obtain⟨Uy,r,p⟩:=F.l _ _ h;exact⟨.none_list p RK,.none_list p RK⟩
  |emp _=>unfold dep at hu';omega
  |exn _ _ _ _ _=>unfold dep at hu';omega
  |dct _ _ _ _ _=>unfold dep at hu';omega
  |ob _ _=>unfold dep at hu';omega
 |bl a=>
  cases rv;cases he with
  |non=>cases rw';exact⟨.bool_none a,.bool_none a⟩
  |bl b=>cases rw';exact⟨.bool_bool a b,.bool_bool a b⟩
  |int i=>obtain⟨t,rfl⟩:=rw';exact⟨.bool_int a i t,.bool_int a i t⟩
  |str x=>obtain⟨t,rfl⟩:=rw';exact⟨.bool_str a x t,.bool_str a x t⟩
  |tup h hs=>cases rw';obtain⟨Uy,r,p⟩:=F.t _ _ h;exact⟨.bool_tuple a p RK,.bool_tuple a p RK⟩
  |lst h hs=>cases rw';obtain⟨Uy,r,p⟩:=F.l _ _ h;exact⟨.bool_list a p RK,.bool_list a p RK⟩
  |emp _=>unfold dep at hu';omega
  |exn _ _ _ _ _=>unfold dep at hu';omega
  |dct _ _ _ _ _=>unfold dep at hu';omega
  |ob _ _=>unfold dep at hu';omega
 |int a=>
  obtain⟨t0,rfl⟩:=rv;cases he with
  |non=>cases rw';exact⟨.int_none a t0,.int_none a t0⟩
  |bl b=>cases rw';exact⟨.int_bool a t0 b,.int_bool a t0 b⟩
  |int i=>obtain⟨t,rfl⟩:=rw';exact⟨.int_int a t0 i t,.int_int a t0 i t⟩
  |str x=>obtain⟨t,rfl⟩:=rw';exact⟨.int_str a t0 x t,.int_str a t0 x t⟩
  |tup h hs=>cases rw';obtain⟨Uy,r,p⟩:=F.t _ _ h;exact⟨.int_tuple a t0 p RK,.int_tuple a t0 p RK⟩
  |lst h hs=>cases rw';obtain⟨Uy,r,p⟩:=F.l _ _ h;exact⟨.int_list a t0 p RK,.int_list a t0 p RK⟩
  |emp _=>unfold dep at hu';omega
  |exn _ _ _ _ _=>unfold dep at hu';omega
  |dct _ _ _ _ _=>unfold dep at hu';omega
  |ob _ _=>unfold dep at hu';omega
 |str a=>
  obtain⟨t0,rfl⟩:=rv;cases he with
  |non=>cases rw';exact⟨.str_none a t0,.str_none a t0⟩
  |bl b=>cases rw';exact⟨.str_bool a t0 b,.str_bool a t0 b⟩
  |int i=>obtain⟨t,rfl⟩:=rw';exact⟨.str_int a t0 i t,.str_int a t0 i t⟩
  |str x=>obtain⟨t,rfl⟩:=rw';exact⟨.str_str a t0 x t,.str_str a t0 x t⟩
  |tup h hs=>cases rw';obtain⟨Uy,r,p⟩:=F.t _ _ h;exact⟨.str_tuple a t0 p RK,.str_tuple a t0 p RK⟩
  |lst h hs=>cases rw';obtain⟨Uy,r,p⟩:=F.l _ _ h;exact⟨.str_list a t0 p RK,.str_list a t0 p RK⟩
  |emp _=>unfold dep at hu';omega
  |exn _ _ _ _ _=>unfold dep at hu';omega
  |dct _ _ _ _ _=>unfold dep at hu';omega
  |ob _ _=>unfold dep at hu';omega
 |tup h hs=>
  cases rv;obtain⟨Uy,r,p⟩:=F.t _ _ h;cases he with
  |non=>cases rw';exact⟨.tuple_none p RK,.tuple_none p RK⟩
  |bl b=>cases rw';exact⟨.tuple_bool b p RK,.tuple_bool b p RK⟩
  |int i=>obtain⟨t,rfl⟩:=rw';exact⟨.tuple_int i t p RK,.tuple_int i t p RK⟩
  |str x=>obtain⟨t,rfl⟩:=rw';exact⟨.tuple_str x t p RK,.tuple_str x t p RK⟩
  |lst h' hs'=>cases rw';obtain⟨its',r',p'⟩:=F.l _ _ h';exact⟨.tuple_list p p' RK,.tuple_list p p' RK⟩
  |emp _=>unfold dep at hu';omega
  |exn _ _ _ _ _=>unfold dep at hu';omega
  |dct _ _ _ _ _=>unfold dep at hu';omega
  |ob _ _=>unfold dep at hu';omega
  |tup h' hs'=>
   cases rw';obtain⟨its',r',p'⟩:=F.t _ _ h';rename_i a vs ds b ws es;have l1:Uy.length=ds.length:=by rw[<-r.length,hs.length]
   have l2:its'.length=es.length:=by rw[<-r'.length,hs'.length]
   have it:∀(j:Nat)(j1:j<Uy.toArray.size)(j2:j<its'.toArray.size),Yp A.in1 s Uy.toArray[j] its'.toArray[j] (nD ds es j):=λj j1 j2=>by
    have k1:j<ds.length:=by rw[<-l1];simpa using j1
    have k2:j<es.length:=by rw[<-l2];simpa using j2
    have:=mD F A.in1 hs hs' r r' (by rw[in1_units];unfold dep at hu;omega) (by unfold dep at hd1;omega) (by unfold dep at hu';omega) j k1 k2;have m1:j<Uy.length:=by simpa using j1
    have m2:j<its'.length:=by simpa using j2
    simpa[m1,m2]using this
   simp only[cV];rw[<-yI,<-l1,<-l2];have q1:=acX p p' RK it;have q2:=afw p p' RK it;exact⟨by simpa using q1,by simpa using q2⟩
 |emp _=>unfold dep at hd1;omega
 |exn _ _ _ _ _=>unfold dep at hd1;omega
 |dct _ _ _ _ _=>unfold dep at hd1;omega
 |ob _ _=>unfold dep at hd1;omega
 |lst h hs=>
  cases rv;obtain⟨Uy,r,p⟩:=F.l _ _ h;cases he with
  |non=>cases rw';exact⟨.list_none p RK,.list_none p RK⟩
  |bl b=>cases rw';exact⟨.list_bool b p RK,.list_bool b p RK⟩
  |int i=>obtain⟨t,rfl⟩:=rw';exact⟨.list_int i t p RK,.list_int i t p RK⟩
  |str x=>obtain⟨t,rfl⟩:=rw';exact⟨.list_str x t p RK,.list_str x t p RK⟩
  |tup h' hs'=>cases rw';obtain⟨its',r',p'⟩:=F.t _ _ h';exact⟨.list_tuple p p' RK,.list_tuple p p' RK⟩
  |emp _=>unfold dep at hu';omega
  |exn _ _ _ _ _=>unfold dep at hu';omega
  |dct _ _ _ _ _=>unfold dep at hu';omega
  |ob _ _=>unfold dep at hu';omega
  |lst h' hs'=>
   cases rw';obtain⟨its',r',p'⟩:=F.l _ _ h';rename_i a vs ds b ws es;have l1:Uy.length=ds.length:=by rw[<-r.length,hs.length]
   have l2:its'.length=es.length:=by rw[<-r'.length,hs'.length]
   have it:∀(j:Nat)(j1:j<Uy.toArray.size)(j2:j<its'.toArray.size),Yp A.in1 s Uy.toArray[j] its'.toArray[j] (nD ds es j):=λj j1 j2=>by
    have k1:j<ds.length:=by rw[<-l1];simpa using j1
    have k2:j<es.length:=by rw[<-l2];simpa using j2
    have:=mD F A.in1 hs hs' r r' (by rw[in1_units];unfold dep at hu;omega) (by unfold dep at hd1;omega) (by unfold dep at hu';omega) j k1 k2;have m1:j<Uy.length:=by simpa using j1
    have m2:j<its'.length:=by simpa using j2
    simpa[m1,m2]using this
   simp only[cV];by_cases z:ds.length=es.length
   ·rw[<-ng z,<-l1];have q1:=ady p p' (by simp;omega) RK it;have q2:=afH p p' (by simp;omega) RK it;exact⟨by simpa using q1,by simpa using q2⟩
   ·rw[nc z];exact⟨.lists_lengths p p' (by simp;omega) RK,.lists_lengths p p' (by simp;omega) RK⟩
end
section
variable{X:Cx}{c:C}{e a b tg:VC}{es:List VC}{ga gb g:G R}{pos:Pos}
noncomputable def R.dat:R->D
 | .d x=>x
 | .l _ xs=>.lst xs
 | .o _ k xs=>.ob k xs
theorem RR.dat{He J H:Hp}(hp:HI c J H):∀{r:R}{v:V},RR c He J H r v->Rep c.K H r.dat v
 | .d x,v,h=>Rep.mono hp.sub h
 | .l _ xs,v,h=>by obtain⟨a,vs,h0,h1,h2⟩:=RR.list hp h rfl;subst h0;exact .lst h1 (h2.mono hp.sub)
 | .o .fresh _ _,v,⟨a,h1,⟨vs,h,h5⟩,_⟩=>by subst h1;exact .ob h (h5.mono hp.sub)
 | .o .own _ _,v,⟨a,h1,⟨vs,h,h5⟩,_⟩=>by subst h1;exact .ob h (h5.mono hp.sub)
 | .o .bor _ _,v,⟨a,h1,vs,h,h5⟩=>by subst h1;exact .ob (h.mono (hp.ent _)) (h5.mono hp.sub)
def Il(K:UG)(neg:Bool):R2:=λx y H Q=>∃d e,Rep K H d x/\Rep K H e y/\dep d<=60/\dep e<=60/\Q (.bl (if neg then !cV d e else cV d e)) H
theorem jX{H:Hp}(I:135):HF X.K H s:=HF.of (c:=⟨X.K,H,H,λ_=>True⟩) I (aY.refl H)
theorem Fj(hu:337):dU X (W9 .Eq) (Il X.K false):=by intro Ux s σ H x y v u Q I rx ry h;obtain⟨d,e,h1,h2,h3,h4,q⟩:=h;exact(FZ (jX I) X.A h1 h2 rx ry 112 112 112).1 X.prog X.w X.xe _ ⟨.bl _,H,I,rfl,q⟩
theorem NQ(hu:337):dU X (W9 .NotEq) (Il X.K true):=by intro Ux s σ H x y v u Q I rx ry h;obtain⟨d,e,h1,h2,h3,h4,q⟩:=h;exact(FZ (jX I) X.A h1 h2 rx ry 112 112 112).2 X.prog X.w X.xe _ ⟨.bl _,H,I,rfl,q⟩
def bB(neg:Bool)(x y:R):M R:=if dep x.dat<=60/\dep y.dat<=60 then .ok (.d (.bl (if neg then !cV x.dat y.dat else cV x.dat y.dat)))else .bad
theorem B9(neg:Bool)(hK:X.K=c.K):BD c (Il X.K neg) (bB neg):=by
 intro He He' J H x y u v Q hp rx ry w;unfold bB at w;split at w
 ·rename_i hd;exact⟨x.dat,y.dat,by rw[hK];exact rx.dat hp,by rw[hK];exact ry.dat hp,hd.1,hd.2,w _ J H 312 (.bl _)⟩
 ·exact w.elim
def inD(d:D)(xs:List D):Bool:=xs.any λx=>cV x d
noncomputable def Im(K:UG)(neg:Bool):R2:=λx y H Q=>∃d p vs ds,Rep K H d x/\dep d<=60/\y=.ref p/\(cY K H p vs\/eZ K H p vs)/\aW K H ds vs/\deps ds<=60/\Q (.bl (if neg then !inD d ds else inD d ds)) H
theorem v_{K:UG}{H:Hp}{y:UH}:∀{ds:List D}{vs:List V}{us:List UH},aW K H ds vs->Vals vs us->deps ds<=60->y∈us->∃d' v',Rep K H d' v'/\RelV v' y/\dep d'<=60
 |_,_,_,.nil,.nil,_,hy=>nomatch hy
 |_,_,_,.cons r hs,.cons q rs,hd,hy=>by
  unfold deps at hd;rcases UR.mp hy with rfl|hy
  ·exact⟨_,_,r,q,by omega⟩
  ·exact v_ hs rs 112 hy
open Classical in
noncomputable def B7(K:UG)(H:Hp)(d:D)(y:UH):Bool:=decide (∃d' v',Rep K H d' v'/\RelV v' y/\dep d'<=1000/\cV d' d=true)
theorem AI{K:UG}{H:Hp}{s:UI}(F:HF K H s){d d':D}{v':V}{y:UH}(r':Rep K H d' v')(q':RelV v' y)(hd:dep d'<=1000):B7 K H d y=cV d' d:=by
 classical
 unfold B7;cases z:cV d' d with
 |true=>exact decide_eq_true ⟨d',v',r',q',hd,z⟩
 |false=>
  refine decide_eq_false ?_;rintro⟨d2,v2,r2,q2,hd2,z2⟩;have:v2=v':=q2.inj q';subst this;rw[Rep.inj F r2 r' hd2 hd]at z2;rw[z]at z2;cases z2
theorem ye{K:UG}{H:Hp}{s:UI}(F:HF K H s){d:D}:∀{ds:List D}{vs:List V}{us:List UH},aW K H ds vs->Vals vs us->deps ds<=1000->us.any (B7 K H d)=inD d ds
 |_,_,_,.nil,.nil,_=>rfl
 |_,_,_,.cons r hs,.cons q rs,hd=>by unfold deps at hd;unfold inD;rw[WT,WT,ye F hs rs 112,AI F r q 112];rfl
theorem sN{A:Vw}{s:UI}{K:UG}{H:Hp}(F:HF K H s){d:D}{x:V}{u:UH}(h:Rep K H d x)(rx:RelV x u)(SI:dep d<=60)(hA:A.units+60<YE){ds:List D}{vs:List V}{us:List UH}(hs:aW K H ds vs)(rs:Vals vs us)(hd:deps ds<=60):
  ∃e:UH->Bool,(∀y∈us,Yp A s y u (e y))/\us.any e=inD d ds:=by refine⟨B7 K H d,λy hy=>?_,ye F hs rs 112⟩;obtain⟨d',v',r',q',hd'⟩:=v_ hs rs hd hy;rw[AI F r' q' 112];exact Ew F A r' h q' rx 112 112 112
theorem Fo(hu:337):dU X (W9 .In) (Im X.K false):=by
 intro Ux s σ H x y v u Q I rx ry h;obtain⟨d,p,vs,ds,h1,SI,rfl,h2,h3,h4,q⟩:=h;cases ry;have F:=jX I;rcases h2 with h2|h2
 ·obtain⟨Uy,r,pl⟩:=F.l _ _ h2;obtain⟨e,he,hany⟩:=sN (A:=X.A.in1) F h1 rx SI (by rw[in1_units];omega) h3 r h4;exact SeqAt.in_listAt e pl (λz hz=>he z (by simpa using hz)) ⟨.bl _,H,I,rfl,by rw[show Uy.toArray.any e=Uy.any e by simp,hany];exact q⟩
 ·obtain⟨Uy,r,pl⟩:=F.t _ _ h2;obtain⟨e,he,hany⟩:=sN (A:=X.A.in1) F h1 rx SI (by rw[in1_units];omega) h3 r h4;exact SeqAt.in_tupleAt e pl (λz hz=>he z (by simpa using hz)) ⟨.bl _,H,I,rfl,by rw[show Uy.toArray.any e=Uy.any e by simp,hany];exact q⟩
theorem Fq(hu:337):dU X (W9 .NotIn) (Im X.K true):=by
 intro Ux s σ H x y v u Q I rx ry h;obtain⟨d,p,vs,ds,h1,SI,rfl,h2,h3,h4,q⟩:=h;cases ry;have F:=jX I;rcases h2 with h2|h2
 ·obtain⟨Uy,r,pl⟩:=F.l _ _ h2;obtain⟨e,he,hany⟩:=sN (A:=X.A.in1) F h1 rx SI (by rw[in1_units];omega) h3 r h4;exact SeqAt.notIn_listAt e pl (λz hz=>he z (by simpa using hz)) ⟨.bl _,H,I,rfl,by rw[show Uy.toArray.any e=Uy.any e by simp,hany];exact q⟩
 ·obtain⟨Uy,r,pl⟩:=F.t _ _ h2;obtain⟨e,he,hany⟩:=sN (A:=X.A.in1) F h1 rx SI (by rw[in1_units];omega) h3 r h4;exact SeqAt.notIn_tupleAt e pl (λz hz=>he z (by simpa using hz)) ⟨.bl _,H,I,rfl,by rw[show Uy.toArray.any e=Uy.any e by simp,hany];exact q⟩
noncomputable def gn(neg:Bool)(x y:R):M R:=i7 y>>=λys=>if deps ys<=60/\dep x.dat<=60 then .ok (.d (.bl (if neg then !inD x.dat ys else inD x.dat ys)))else .bad
theorem B_(neg:Bool)(hK:X.K=c.K):BD c (Im X.K neg) (gn neg):=by
 intro He He' J H x y u v Q hp rx ry w;obtain⟨ys,q,w⟩:=kg w;obtain⟨p,vs,rfl,h1,h2⟩:=mz hp ry q;split at w
 ·rename_i hd;exact⟨x.dat,p,vs,ys,by rw[hK];exact rx.dat hp,hd.2,rfl,by rw[hK];exact h1,by rw[hK];exact h2.mono hp.sub,hd.1,w _ J H 312 (.bl _)⟩
 ·exact w.elim
abbrev GO:=G (Option Int)
def tO(c:C)(g:GO):TO:=λσ H Q=>∃J env,SR c J H σ env/\cJ (g env) (λo=>∀J' H',Ext J H J' H'->Q o H') c.T
def MB(X:Cx)(c:C)(e:Option VC)(g:GO):Prop:=PO X e (tO c g)
theorem JD{X:Cx}{e:Option VC}{t t':TO}(h:PO X e t)(k:∀σ H Q,t' σ H Q->t σ H Q):PO X e t':=λUx s σ H Q I q=>h Ux s σ H Q I (k σ H Q q)
def qC:GO:=λ_=>.ok none
noncomputable def lE(g:G R):GO:=λenv=>g env>>=λr=>match r with
 | .d (.int i)=>.ok (some i)
 |_=>.bad
def cutD(xs:List D)(lo hi:Option Int):List D:=(xs.drop (HT.bT xs.length 0 lo)).take (HT.bT xs.length xs.length hi-HT.bT xs.length 0 lo)
theorem aW.cut{K:UG}{J:Hp}{xs:List D}{vs:List V}(h:aW K J xs vs)(lo hi:Option Int):aW K J (cutD xs lo hi) (lS vs lo hi):=by unfold cutD lS;rw[h.length];exact(h.drop _).take _
def mG(f:R->Option Int->Option Int->M R)(g:G R)(lo hi:GO):G R:=λenv=>g env>>=λx=>lo env>>=λl=>hi env>>=λu=>f x l u
theorem Pf{r:V->Option Int->Option Int->Hp->VK->Prop}{f:R->Option Int->Option Int->M R}{lo hi:Option VC}{gl gh:GO}{p2:Pos}(hr:sM X r) (hf:∀(He J H:Hp)(x:R)(v:V)(l u:Option Int)(Q:VK),HI c J H->RR c He J H x v->
   cJ (f x l u) (λz=>∀w J' H',Ext J H J' H'->RR c H J' H' z w->Q w H') c.T->r v l u H Q) (h:PD X c e g) (hl:MB X c lo gl) (hh:MB X c hi gh):PD X c (.Subscript e (.Slice lo hi none p2) pos) (mG f g gl gh):=
 dX (HR hr h hl hh) λσ H Q ⟨J,env,sr,w⟩=>by refine⟨J,env,sr,aB (aH w) λx wx v J1 H1 e1 r1=>?_⟩;refine⟨J1,env,sr.ext e1,aB (aH wx) λl wl J2 H2 e2=>?_⟩;refine⟨J2,env,(sr.ext e1).ext e2,aB (aH wl) λu wu J3 H3 e3=>?_⟩;have ee:=(e1.trans e2).trans e3;exact hf H J3 H3 x v l u Q (sr.hp.ext ee) ((r1.ext e2).ext e3) (aB wu λz q w J' H' e4 r4=>q w J' H' (ee.trans e4) (RR.from ee.h r4))
def QF(x:R)(l u:Option Int):M R:=fY x>>=λxs=>.ok (.l .fresh (cutD xs l u))
theorem Dy{ss:131}:∀{us:List UH},Vals (ss.map V.str) us->aaw us ss:=by
 induction ss with
 |nil=>intro us h;cases h;exact .nil
 |cons x r ih=>
  intro us h;cases h with
  |cons q rs=>
   obtain⟨t,rfl⟩:=q;exact .cons x t (ih rs)
theorem pI:∀{us:List UH}{ss:131},aaw us ss->Vals (ss.map V.str) us
 |_,_,.nil=>.nil
 |_,_,.cons y t h=>.cons ⟨t,rfl⟩ (pI h)
def gK(x y:Str):Bool:=decide (x.cps.toList<=y.cps.toList)
def fL(ss:131):List Str:=ss.mergeSort gK
theorem lG(x y z:Str)(h1:gK x y=true)(h2:gK y z=true):gK x z=true:=by unfold gK at *;exact decide_eq_true (List.le_trans (of_decide_eq_true h1) (of_decide_eq_true h2))
theorem vV(x y:Str):(gK x y||gK y x)=true:=by
 unfold gK;rw[W_];rcases List.le_total x.cps.toList y.cps.toList with h|h
 ·exact .inl (decide_eq_true h)
 ·exact .inr (decide_eq_true h)
theorem y_(h1:gK x y=true)(h2:gK y x=true):x=y:=by unfold gK at *;have:=List.le_antisymm (of_decide_eq_true h1) (of_decide_eq_true h2);obtain⟨⟨cx⟩⟩:=x;obtain⟨⟨cy⟩⟩:=y;simp only at this;rw[this]
theorem k9(ss:131):(fL ss).Pairwise λx y=>gK x y=true:=List.pairwise_mergeSort lG vV ss
theorem gZ(ss:131):(fL ss).Perm ss:=List.mergeSort_perm ss gK
theorem uo:∀(x:Str)(r:131),risingS x r=true->(x::r).Pairwise λx y=>gK x y=true
 |x,[],_=>by simp
 |x,y::r,h=>by
  unfold risingS at h;rw[Vg]at h;have hy:=uo y r h.2;have hxy:gK x y=true:=by
   have h1:=h.1;rw[ltCps_eq]at h1;unfold gK;refine decide_eq_true ?_;have:¬y.cps.toList<x.cps.toList:=by simpa using h1
   exact this
  refine Zj.mpr ⟨λz hz=>?_,hy⟩;rcases UR.mp hz with rfl|hz
  ·exact hxy
  ·exact lG x y z hxy ((Zj.mp hy).1 z hz)
theorem uC{ss ss':131}(hp:ss'.Perm ss)(hs:sortedS ss'=true):ss'=fL ss:=by
 have pw:ss'.Pairwise λx y=>gK x y=true:=by
  cases ss' with
  |nil=>exact Zv
  |cons x r=>exact uo x r hs
 exact(hp.trans (gZ ss).symm).eq_of_pairwise (λx y _ _ h1 h2=>y_ h1 h2) pw (k9 ss)
theorem yu:fc X (.builtin "sorted") (λxs H Q=>∃p ss,xs=[.ref p]/\cY X.K H p (ss.map V.str)/\ss.length<64/\∀ss',ss'.Perm ss->sortedS ss'=true->∀l,H l=none->Q (.ref l) (upd H l (.lst (ss'.map V.str)))):=by
 intro Ux s σ H xs us Q I r h;obtain⟨p,ss,rfl,hq,hl,q⟩:=h;obtain⟨u,rfl,rx⟩:=vals1 r;cases rx;obtain⟨Uy,r',pl,hz⟩:=I.list hq;have hlen:=r'.length;refine sorted_strs pl.isList (Dy r') (by rw[<-hlen,UL];exact hl) λout ss' a1 a2 a3=>?_;obtain⟨n,hn⟩:=sortedAll_at s.heap Uy out;have kp:∀b o,s.heap.get? b=some o->(sortedAll s.heap Uy out).get? b=some o:=λb o e=>sortedAll_old e;have fr:H 155=none:=I.hok.fresh (Xh _);have ll:(ss'.map V.str).length=(ss.map V.str).length:=by rw[UL,UL,a2.length_eq]
 refine⟨.ref 155,_,I.laid (t':=s.toks) kp (Xh _) (show cB X.prog X.w _ _ _ (.lst (ss'.map V.str))from⟨by rw[ll];exact hz,out.toList,n,pI a1,by simpa[afI]using hn⟩),rfl,q ss' a2 a3 _ fr⟩
noncomputable def strsOf:List D->Option (List Str)
 |[]=>some []
 | .str x::r=>(strsOf r).map (x::·)
 |_::_=>none
theorem jQ{K:UG}{J:Hp}:∀{ds:List D}{vs:List V}{ss:131},strsOf ds=some ss->aW K J ds vs->vs=ss.map V.str
 |[],_,_,h,.nil=>by cases h;rfl
 | .str x::r,_,ss,h,.cons q rs=>by
  unfold strsOf at h;cases z:strsOf r with
  |none=>rw[z]at h;cases h
  |some ss'=>
   rw[z]at h;cases h;cases q;rw[jQ z rs];rfl
theorem pA{K:UG}{J:Hp}:∀(ss:131),aW K J (ss.map D.str) (ss.map V.str)
 |[]=>.nil
 |x::r=>.cons (.str x) (pA r)
noncomputable def jU:List R->M R
 |[r]=>fY r>>=λxs=>match strsOf xs with
  |some ss=>if ss.length<64 then .ok (.l .fresh ((fL ss).map .str))else .bad
  |none=>.bad
 |_=>.bad
theorem oE:Wy "sorted"=some (.builtin "sorted"):=by decide +kernel
theorem foldl_size(c:Array Nat):∀(k:Nat)(acc:Array Nat),((Vv k c).foldl (·++·) acc).size=acc.size+k*c.size
 |0,acc=>by simp
 |k+1,acc=>by rw[WK,aaa,foldl_size c k,acY,ae2];omega
def fX(x:Str)(n:Nat):Str:=⟨(Vv n x.cps).foldl (·++·) #[]⟩
theorem Aq(x:Str)(n:Nat):(fX x n).length=n*x.length:=by unfold fX acR;simp only;rw[foldl_size];simp
theorem Lf:dU X (Ys .Mult) (λx y H Q=>∃z n,x=.str z/\y=.int n/\0<=n/\n<=1000/\z.length<=1000/\Q (.str (fX z n.toNat)) H):=by
 intro Ux s σ H x y v u Q I rx ry h;obtain⟨z,n,rfl,rfl,h0,h1,h2,q⟩:=h;obtain⟨t,rfl⟩:=rx;obtain⟨t',rfl⟩:=ry;have hz:acd (z.length*n.toNat)=false:=by have:z.length*n.toNat<=1000*1000:=aef h2 112;unfold acd;exact decide_eq_false (by have:=V6;omega)
 refine PySem.P.mul_str (by
  rw[decide_eq_false (by omega:¬n < -(2^63:Int)),decide_eq_false (by omega:¬n ≥ 2^63)];rfl) (λhn _=>?_) (λ_ _=>hz) ?_
 ·have:(2^63-1:Int)/1000<=(2^63-1)/n:=by refine(Int.le_ediv_iff_mul_le 112).mpr ?_;have:(2^63-1:Int)/1000*n<=(2^63-1:Int)/1000*1000:=Int.mul_le_mul_of_nonneg_left h1 120;exact Int.le_trans this 120
  have e:(2^63-1:Int)/1000=9223372036854775:=by decide
  omega
 ·split
  ·rename_i hn;have e:n=0:=by omega
   subst e;exact⟨by decide,.str _,H,I.tok _,⟨_,rfl⟩,q⟩
  ·split
   ·rename_i hn hc;have e:fX z n.toNat=z:=by
     unfold fX;rw[W_]at hc;rcases hc with hc|hc
     ·have e:n=1:=by simpa using hc
      subst e;simp
     ·have e:z.length=0:=by simpa using hc
      have e2:z.cps=#[]:=by unfold acR at e;exact Array.eq_empty_of_size_eq_zero e
      obtain⟨cz⟩:=z;simp only at e2;subst e2;congr 1;generalize n.toNat=k
      induction k with
      |zero=>rfl
      |succ k ih=>rw[WK,aaa];exact ih
    rw[e]at q;exact⟨.str z,H,I,⟨_,rfl⟩,q⟩
   ·exact⟨by
     have:=Aq z n.toNat
     unfold fX at this;rw[this,ae3];have:z.length*n.toNat<=1000*1000:=aef h2 112;rw[V6];omega,.str _,H,I.tok _,⟨_,rfl⟩,q⟩
noncomputable def Cu:R->R->M R
 | .d (.str z),.d (.int n)=>if 0<=n/\n<=1000/\z.length<=1000 then .ok (.d (.str (fX z n.toNat)))else .bad
 |_,_=>.bad
noncomputable def cD:D->String
 | .non=>"NoneType"
 | .bl _=>"bool"
 | .int _=>"int"
 | .str _=>"str"
 | .tup _=>"tuple"
 | .lst _=>"list"
 | .emp=>"dict"
 | .exn _ _ _=>"exc"
 | .dct _ _=>"dict"
 | .ob _ _=>"exc"
def b8(t T:String):Bool:=t==T||(t == "bool" && T == "int")
noncomputable def EO:R->Bool
 | .d (.int _)=>true
 |_=>false
noncomputable def Nl:R->Bool
 | .d (.str _)=>true
 |_=>false
def bZ(x y:R):M R:=if EO x then G4 x y else if Nl x then sX x y else sY x y
def cW(x y:R):M R:=if EO x then M5 x y else Cu x y
noncomputable def aI(x y:R):M R:=match x,y with
 | .d (.str z),.d (.int i)=>if z.length<=sizeLine then(match kG z.cps.toList i with
  |some k=>.ok (.d (.str ⟨#[k]⟩))
  |none=>.bad)else .bad
 |x,.d (.int i)=>i7 x>>=λxs=>(match kG xs i with
  |some d=>.ok (.d d)
  |none=>.bad)
 |_,_=>.bad
noncomputable def bW(P:U0)(w:Vj)(K:UG)(mg:145)(base:VU)(k n:Nat)(x:Str)(Fm:234):Prop:=
 ∃f fd ps,dF P w K mg base ia k f fd ps (oh K n Fm)/\mg x=some 344/\Vu K 344=true/\Binds K fd ps []
theorem MQ{P:U0}{w:Vj}{K:UG}{mg:145}{base:VU}{x UB:Str}{st:Xq}{f:UX}{fd:Vp}{N ps:131}{k:Nat}{Fm:234}(F:fN K x UB st f fd)(hm:mg x=some 344)(Sc:cK N ps (aF st))
  (hbi:156){gB:G O}
  (hb:∀(cdv:UH)(A:Vw)(outer:List Env)(s:UI)(H:Hp)(E:XK)(J:Hp)(T:359),cG k 213->
   IS 279 ⟨K,H,J,T⟩ (bu st) gB)
  (hF:304):bW P w K mg base (k+1) ps.length x Fm:=
 ⟨f,fd,ps,EA F Sc hb hF,hm,F.kp,F.binds hbi⟩
noncomputable def HG:List Str->Bool
 |[]=>true
 |x::r=>!(r.contains x)&&HG r
theorem fW:∀{l:131},HG l=true->l.Nodup
 |[],_=>XR
 |x::r,h=>by unfold HG at h;rw[Vg]at h;refine WD.mpr ⟨λz=>?_,fW h.2⟩;have:=h.1;simp[z]at this
theorem rQ{H:Hp}{s:UI}{a C:UX}{dx:259}(I:325)(h:H a=some (DX.XO a C dx))(xf:XF H dx ns vs):∃ox od,Xn s.heap a ox C od/\od.isSome=dx.isSome/\(∀d,dx=some d->∃o,od=some o/\s.heap.get? d=some o):=by
 obtain⟨⟨oe,fs,h1,h2,h3,h4⟩,_⟩:=I.hok a _ h;have hn:aeg oe=true:=by unfold aeg;rw[h4]
 rcases xf with⟨rfl,_⟩|⟨d,rfl,_,hd⟩
 ·exact⟨oe,none,⟨h1,h2,hn,by rw[h3];exact WV⟩,rfl,λd z=>by cases z⟩
 ·obtain⟨m,⟨o,es,ep,k1,_⟩,_⟩:=I.hok d _ hd;exact⟨oe,some o,⟨h1,h2,hn,by rw[h3];exact k1⟩,rfl,λd' z=>by cases z;exact⟨o,rfl,k1⟩⟩
noncomputable def IM(T:String):Prop:=(∀(K:UG)(t:String),t∈["NoneType","bool","int","str","tuple","list","dict"]->V0 K (.type t) (.type T)=some (b8 t T))/\Z9 T=true/\DX.i6.contains (.type T)=false/\b8 "exc" T=false/\b8 "dict" T=false
theorem Rh:IM "int":=⟨λK t h=>by
 simp only[UR,VA,or_false]at h;rcases h with rfl|rfl|rfl|rfl|rfl|rfl|rfl<;>rfl,by decide +kernel,by decide,by decide,by decide⟩
theorem Ho:IM "bool":=⟨λK t h=>by
 simp only[UR,VA,or_false]at h;rcases h with rfl|rfl|rfl|rfl|rfl|rfl|rfl<;>rfl,by decide +kernel,by decide,by decide,by decide⟩
theorem Ae{T:String}(kit:IM T):
  fc X (.builtin "isinstance") (λxs H Q=>∃d x,xs=[x,.ty T]/\Rep X.K H d x/\Q (.bl (b8 (cD d) T)) H):=by
 intro Ux s σ H xs us Q I r h;obtain⟨d,x,rfl,hd,q⟩:=h;obtain⟨u,w',rfl,rx,ry⟩:=vals2 r;cases ry;have fin:∀tk,EP X Ux σ Q (.bool (b8 (cD d) T)) {s with toks:=tk}:=λtk=>⟨.bl _,H,I.tok tk,rfl,q⟩;have F:=jX I;cases hd with
 |non=>cases rx;exact Vz acZ I.kIn WV (kit.1 X.K _ (by simp[cD])) 277 fin
 |bl y=>cases rx;exact Vz ac0 I.kIn WV (kit.1 X.K _ (by simp[cD])) 277 fin
 |int i=>obtain⟨t,rfl⟩:=rx;exact Vz adz I.kIn WV (kit.1 X.K _ (by simp[cD])) 277 fin
 |str y=>obtain⟨t,rfl⟩:=rx;exact Vz adA I.kIn WV (kit.1 X.K _ (by simp[cD])) 277 fin
 |tup h hs=>
  cases rx;obtain⟨Uy,r,o,h1,h2,_⟩:=F.t _ _ h;exact Vz acF I.kIn ⟨o,h1,h2⟩ (kit.1 X.K _ (by simp[cD])) 277 fin
 |lst h hs=>
  cases rx;obtain⟨Uy,r,o,h1,h2,_⟩:=F.l _ _ h;exact Vz ac1 I.kIn ⟨o,h1,h2⟩ (kit.1 X.K _ (by simp[cD])) 277 fin
 |emp h=>
  cases rx;obtain⟨o,h1,h2⟩:=F.e _ h;exact Vz X5 I.kIn ⟨o,h1,h2⟩ (kit.1 X.K _ (by simp[cD])) 277 fin
 |dct h _ _ _ _=>
  cases rx;obtain⟨o,es,h1,h2,_⟩:=F.d _ _ _ h;exact Vz X5 I.kIn ⟨o,h1,h2.1⟩ (kit.1 X.K _ (by simp[cD])) 277 fin
 | @ob a k xs vs h hs=>
  cases rx;cases k with
  |txt ss=>
   obtain⟨_,h2,_⟩:=h;obtain⟨_,_,vs,_,o,es,ep,h1,h2,_⟩:=(show cB X.prog X.w H s.heap a _ from I.hok a _ h2);simp only[cD,kit.2.2.2.1]at fin;exact Vz X5 I.kIn ⟨o,h1,h2.1⟩ ((kit.1 X.K _ 229).trans (congrArg some kit.2.2.2.2)) 277 fin
  |mem dom f=>
   obtain⟨_,h2⟩:=h;obtain⟨_,_,_,_,_,_,o,es,ep,h1,h2,_⟩:=(show cB X.prog X.w H s.heap a _ from I.hok a _ h2);simp only[cD,kit.2.2.2.1]at fin;exact Vz X5 I.kIn ⟨o,h1,h2.1⟩ ((kit.1 X.K _ 229).trans (congrArg some kit.2.2.2.2)) 277 fin
  |ins cls ns=>
   obtain⟨C,dx,_,ik,_,h3⟩:=h;obtain⟨mA,O,_⟩:=vd I.hok h3;obtain⟨od,J,_⟩:=O.look;simp only[cD,kit.2.2.2.1]at fin;exact Vz (W.kitx_own (ik.cl.get _) ik.cl.hd ik.ha ik.hn ik.htk ik.hm) I.kIn J (ik.no T kit.2.1 kit.2.2.1) 277 fin
 |exn h1 h2 h3 hs hx=>
  cases rx;obtain⟨P,G,E⟩:=hx;obtain⟨ox,od,J,_⟩:=rQ I h1 h3;simp only[cD,kit.2.2.2.1]at fin;exact Vz (DX.yY G E) I.kIn ⟨ox,od,J⟩ (DX.NB E kit.2.1 kit.2.2.1) 277 fin
def cP(T:String)(g:G R):G R:=λenv=>g env>>=λr=>.ok (.d (.bl (b8 (cD r.dat) T)))
noncomputable def I_:List D->Option (List Bool)
 |[]=>some []
 | .bl k::r=>(I_ r).map (k::·)
 |_::_=>none
noncomputable def QC:List R->M R
 |[r]=>fY r>>=λxs=>match I_ xs with
  |some ks=>.ok (.d (.bl (ks.all id)))
  |none=>.bad
 |_=>.bad
noncomputable def QE(neg:Bool):R->R->M R
 | .d (.str i),.d (.str j)=>.ok (.d (.bl (if neg then !(!(Zk j i 0 j.length 1).isEmpty)else !(Zk j i 0 j.length 1).isEmpty)))
 |_,_=>.bad
theorem Ln(hm:X.mg x=some u)(r:RelV v u)(hr:∀J,Rep c.K J d v)(hg:autoParam (Gl X x) zzA._auto_1)(hd:141):PD X c (.Name x pos) (gC d):=ua hr (mP hg hm r hd)
theorem MM{H:Hp}{s:UI}(I:135):V5<s.heap.objs.size:=by have h:UT<s.heap.objs.size:=(I.mod.glob.keeps I.bk).lt;exact Wl 120 h
theorem Fi:dU X (Ys .Add) (λx y H Q=>∃a b xs ys,x=.ref a/\y=.ref b/\eZ X.K H a xs/\eZ X.K H b ys/\xs.length+ys.length<=sizeLine/\
  (xs=[]->Q (.ref b) H)/\(ys=[]->Q 307 H)/\∀p,H p=none->Q (.ref p) (upd H p (.tup (xs++ys)))):=by
 intro Ux s σ H x y v u Q I rx ry h;obtain⟨a,b,xs,ys,rfl,rfl,ha,hb,hz,q0,q1,q2⟩:=h;by_cases hx:xs=[]
 ·cases rx;cases ry;obtain⟨Uy,r1,p1,_⟩:=I.tuple ha;obtain⟨its2,r2,p2,_⟩:=I.tuple hb;have he:Uy=[]:=r1.nil_iff.mpr hx;subst he;obtain⟨⟨cls,dd,data,sl⟩,ho,hc,n,hd⟩:=id p1;obtain⟨⟨cls2,dd2,data2,sl2⟩,ho2,hc2,n2,hd2⟩:=id p2;simp only at hc hd hc2 hd2;subst hc hd hc2 hd2;exact abz ⟨_,ho,rfl⟩ ⟨_,ho2,rfl⟩ aa7 acp Zq Zd (Y6 _ _) (tuple_addW0 a b _ _ n n2 dd dd2 sl sl2 rfl) ⟨ho,ho2,⟨.ref b,H,I,rfl,q0 hx⟩⟩
 ·exact Ld Ux s σ H 307 (.ref b) v u Q I rx ry ⟨a,b,xs,ys,rfl,rfl,ha,hb,hx,hz,q1,λ_=>q2⟩
noncomputable def Ct:R->R->M R
 | .d 333,.d (.tup ys)=>if xs.length+ys.length<=sizeLine then .ok (.d (.tup (xs++ys)))else .bad
 |_,_=>.bad
theorem Kf(hK:X.K=c.K):BD c (λx y H Q=>∃a b xs ys,x=.ref a/\y=.ref b/\eZ X.K H a xs/\eZ X.K H b ys/\xs.length+ys.length<=sizeLine/\
  (xs=[]->Q (.ref b) H)/\(ys=[]->Q 307 H)/\∀p,H p=none->Q (.ref p) (upd H p (.tup (xs++ys)))) Ct:=by
 intro He He' J H x y u v Q hp rx ry w;unfold Ct at w;split at w
 ·rename_i ds es;cases rx with
  |tup h1 s1=>
   cases ry with
   |tup h2 s2=>
    split at w
    ·rename_i hz;rw[s1.length,s2.length]at hz;refine⟨_,_,_,_,rfl,rfl,by rw[hK];exact gA hp.sub h1,by rw[hK];exact gA hp.sub h2,hz,λe=>?_,λe=>?_,λp hp'=>w _ _ _ (Ext.newJ hp.sub hp' _) (kX hp hp' (s1.append s2))⟩
     ·have e':ds=[]:=ZL (by rw[s1.length,e];rfl);subst e';exact w _ J H 312 (.tup h2 s2)
     ·have e':es=[]:=ZL (by rw[s2.length,e];rfl);subst e';rw[V7]at w;exact w _ J H 312 (.tup h1 s1)
    ·exact w.elim
 ·exact w.elim
noncomputable def Nm:R->Bool
 | .d (.tup _)=>true
 |_=>false
def fJ(x y:R):M R:=if Nm x then Ct x y else bZ x y
noncomputable def intsOf:List D->Option (List Int)
 |[]=>some []
 | .int i::r=>(intsOf r).map (i::·)
 |_::_=>none
theorem tR{K:UG}{J:Hp}:∀{ds:List D}{vs:List V}{ns:List Int},intsOf ds=some ns->aW K J ds vs->vs=ns.map V.int
 |[],_,_,h,.nil=>by cases h;rfl
 | .int x::r,_,ks,h,.cons q rs=>by
  unfold intsOf at h;cases z:intsOf r with
  |none=>rw[z]at h;cases h
  |some ks'=>
   rw[z]at h;cases h;cases q;rw[tR z rs];rfl
noncomputable def M4:R->R->M R
 | .d (.int i),.d (.int j)=>.ok (.d (.bl (decide (i<j))))
 | .d (.str i),.d (.str j)=>.ok (.d (.bl (decide (i.cps.toList<j.cps.toList))))
 | .d 333,.d (.tup ys)=>match intsOf xs,intsOf ys with
  |some ns,some ms=>.ok (.d (.bl (HT.lexLt ns ms)))
  |_,_=>.bad
 |_,_=>.bad
def signs(x:Str):List D:=x.cps.toList.map λk=>.str ⟨#[k]⟩
noncomputable def QG(g:G R):G (List D):=λenv=>g env>>=λr=>match r with
 | .d (.str x)=>.ok (signs x)
 |_=>.bad
theorem Ay{prog:U0}{w:Vj}{A:Vw}{E:136}{s:UI}{t sl:UX}{items:Array UH}{vl vu:UH}{lo hi:Option Int}{Q:136}(ht:afM s.heap t items)(hs:s.heap.IsSliceOf sl vl vu .none)(pl:acq vl lo)(pu:acq vu hi)
  (hw:HT.bT items.size 0 lo=0/\HT.bT items.size items.size hi=items.size) (h:Q (.ref t) s):UZ 139 A (Z5 (.ref t) (.ref sl)) Q E s:=by
 obtain⟨os,hos,hcs,hds⟩:=id hs;have S0:s.TypeIs (.ref sl) "slice":=⟨os,hos,hcs⟩;unfold Z5
 try with_reducible refine VG ?_
 first|refine UE (UJ ?_)|skip
 refine UE (aaG ht.typeIs 120 ?_);refine UE (Wt (name:=Y7 "__getitem__") ht.typeIs Vx
  (V3 Vx ht.typeIs Z6 ?_ (aao _ _)))
 show UZ _ _ (YI (.ref t)>>=_) _ _ s;refine UE (acs ht ?_);refine UE (Yw S0 ?_);rw[if_pos 120];refine UE (HT.k8 hs pl pu ?_);have hyes:(((HT.bT items.size 0 lo:Nat):Int)==0&&(1:Int)==1&&(HT.bT items.size items.size hi-HT.bT items.size 0 lo)==items.size)=true:=by rw[hw.1,hw.2];simp
 show UZ _ _ (if(((HT.bT items.size 0 lo:Nat):Int)==0&&(1:Int)==1&&(HT.bT items.size items.size hi-HT.bT items.size 0 lo)==items.size)=true then _ else _) _ _ s;rw[if_pos hyes];unfold ad_;refine UE (UE (Yw ht.typeIs (UJ ?_)));rw[if_pos 120];exact UE (ZY (UJ ⟨_,rfl,UJ h⟩))
theorem F7:sM X (λx lo hi H Q=>∃a xs,x=.ref a/\eZ X.K H a xs/\((HT.bT xs.length 0 lo=0/\HT.bT xs.length xs.length hi=xs.length)->Q 307 H)/\∀p,H p=none->Q (.ref p) (upd H p (.tup (lS xs lo hi)))):=by
 intro Ux s σ H x v vl vu lo hi sl Q I rx hs pl pu h;obtain⟨a,xs,rfl,hx,q0,q1⟩:=h;by_cases hw:HT.bT xs.length 0 lo=0/\HT.bT xs.length xs.length hi=xs.length
 ·cases rx;obtain⟨Uy,r,ht,hz⟩:=I.tuple hx;have hlen:Uy.toArray.size=xs.length:=by rw[U5];exact r.length.symm
  exact⟨"tuple",_,Vx.lookup,ht.typeIs,Ay ht hs pl pu (by rw[hlen];exact hw) ⟨.ref a,H,I,rfl,q0 hw⟩⟩
 ·exact Oz Ux s σ H 307 v vl vu lo hi sl Q I rx hs pl pu ⟨a,xs,rfl,hx,hw,q1⟩
theorem Cq{xs:List D}{lo hi:Option Int}(h:HT.bT xs.length 0 lo=0/\HT.bT xs.length xs.length hi=xs.length):cutD xs lo hi=xs:=by unfold cutD;rw[h.1,h.2];simp
noncomputable def G5:R->Option Int->Option Int->M R
 | .d 333,l,u=>.ok (.d (.tup (cutD xs l u)))
 |_,_,_=>.bad
theorem Q5(hK:X.K=c.K)(He J H:Hp)(x:R)(v:V)(l u:Option Int)(Q:VK)(hp:HI c J H)(rx:RR c He J H x v)(w:cJ (G5 x l u) (λz=>∀w J' H',Ext J H J' H'->RR c H J' H' z w->Q w H') c.T):
  ∃a xs,v=.ref a/\eZ X.K H a xs/\((HT.bT xs.length 0 l=0/\HT.bT xs.length xs.length u=xs.length)->Q 307 H)/\∀p,H p=none->Q (.ref p) (upd H p (.tup (lS xs l u))):=by
 unfold G5 at w;split at w
 ·rename_i ds;cases rx with
  |tup h1 s1=>
   refine⟨_,_,rfl,by rw[hK];exact gA hp.sub h1,λhw=>?_,λp hp'=>w _ _ _ (Ext.newJ hp.sub hp' _) (kX hp hp' (s1.cut _ _))⟩;rw[<-s1.length]at hw;rw[Cq hw]at w;exact w _ J H 312 (.tup h1 s1)
 ·exact w.elim
def ji(x:R)(l u:Option Int):M R:=if Nm x then G5 x l u else QF x l u
theorem Ar{prog:U0}{w:Vj}{A:Vw}{E:136}{s:UI}{sl:UX}{t:Tok}{n:Nat}{Q:Int×Int×Nat->UI->Prop}(hs:s.heap.IsSliceOf sl .none .none (.int (-1) t))
  (h:Q ((n:Int)-1,-1,n) s):UZ 139 A (XA (.ref sl) (pure (n:Int))) Q E s:=by
 obtain⟨os,hos,hcs,hds⟩:=id hs;unfold XA aav;refine UE (UE (Yh hos hds (x:=.none) rfl (UE (Yh hos hds (x:=.none) rfl (UE (Yh hos hds (x:=.int (-1) t) rfl (UJ ?_)))))));refine UE (aeH ?_);show UZ _ _ (if((-1:Int)==0)=true then _ else _) _ _ s;rw[if_neg 120];refine UE (aau (UE (aau (UE (UJ ?_)))));have e1:W6 none none (-1) (n:Int)=((n:Int)-1,-1):=rfl;have e2:VZ ((n:Int)-1) (-1) (-1)=n:=by
  unfold VZ;rw[if_neg 120];split
  ·simp only[Int.neg_neg,aeZ];omega
  ·omega
 show UZ _ _ (match W6 none none (-1) (n:Int)with|(lo,hi)=>pure (lo,(-1:Int),VZ lo hi (-1))) _ _ s;rw[e1];show UZ _ _ (pure ((n:Int)-1,(-1:Int),VZ ((n:Int)-1) (-1) (-1))) _ _ s;rw[e2];exact UJ h
theorem Ez{α β:Type}{f:α->Option β}{g:α->β}:∀(l:List α),(∀m∈l,f m=some (g m))->l.filterMap f=l.map g
 |[],_=>rfl
 |x::r,h=>by rw[YZ,h x UO,Vl];simp only;rw[Ez r λm hm=>h m (UN _ hm)]
theorem HX(xs:Array UH):((U8 xs.size).filterMap λ(m:Nat)=>xs[(((xs.size:Int)-1)+(m:Int)*(-1)).toNat]?)=xs.toList.reverse:=by
 have e:((U8 xs.size).filterMap λ(m:Nat)=>xs[(((xs.size:Int)-1)+(m:Int)*(-1)).toNat]?)=(U8 xs.size).map λm=>(xs.toList.reverse).getD m .none:=by
  refine Ez _ λm hm=>?_;have hm':m<xs.size:=Vf.mp hm;have e1:(((xs.size:Int)-1)+(m:Int)*(-1)).toNat=xs.size-1-m:=by omega
  rw[e1];simp[Vq,hm',abE,show xs.size-1-m<xs.size by omega]
 rw[e];refine YX 229 λi h1 h2=>?_;simp[Vq];have:i<xs.size:=by simpa using h1
 simp[abE,this,show xs.size-1-i<xs.size by omega]
theorem Gj{prog:U0}{w:Vj}{A:Vw}{E:136}{s:UI}{t sl:UX}{items:Array UH}{k:Tok}{Q:136}(ht:afM s.heap t items)(hs:s.heap.IsSliceOf sl .none .none (.int (-1) k))
  (h:Q 236 {s with heap:=s.heap.push {cls:=.type "tuple",data:=.seq items.toList.reverse.toArray}}) (hsz:items.size<=sizeLine):UZ 139 A (Z5 (.ref t) (.ref sl)) Q E s:=by
 obtain⟨os,hos,hcs,hds⟩:=id hs;have S0:s.TypeIs (.ref sl) "slice":=⟨os,hos,hcs⟩;have RS:sizeOk (.seq items.toList.reverse.toArray):=by show items.toList.reverse.toArray.size<=sizeLine;simpa using hsz
 unfold Z5
 try with_reducible refine VG ?_
 first|refine UE (UJ ?_)|skip
 refine UE (aaG ht.typeIs 120 ?_);refine UE (Wt (name:=Y7 "__getitem__") ht.typeIs Vx
  (V3 Vx ht.typeIs Z6 ?_ (aao _ _)))
 show UZ _ _ (YI (.ref t)>>=_) _ _ s;refine UE (acs ht ?_);refine UE (Yw S0 ?_);rw[if_pos 120];refine UE (Ar hs ?_);have hno:¬((((items.size:Int)-1)==0&&(-1:Int)==1&&items.size==items.size)=true):=by intro q;rw[Vg,Vg]at q;exact absurd (eq_of_beq q.1.2) 120
 show UZ _ _ (if(((items.size:Int)-1)==0&&(-1:Int)==1&&items.size==items.size)=true then _ else _) _ _ s;rw[if_neg hno,HX]
 first
  |exact UE (m:=V8 _) (Vn (UJ ⟨_,rfl,UJ h⟩) RS)
  |exact UE (m:=V8 _) (Vn (UE (UJ (UJ ⟨_,rfl,UJ h⟩))) RS)
  |exact UE (UE (m:=V8 _) (Vn (UJ (UJ ⟨_,rfl,UJ h⟩)) RS))
  |exact UE (UE (m:=V8 _) (Vn (UJ ⟨_,rfl,UJ h⟩) RS))
theorem aW.rev{K:UG}{J:Hp}:∀{ds:List D}{vs:List V},aW K J ds vs->aW K J ds.reverse vs.reverse
 |_,_,.nil=>.nil
 |_,_,.cons h hs=>by rw[Zu,Zu];exact(aW.rev hs).append (.cons h .nil)
noncomputable def M9(g:G R):G R:=λenv=>g env>>=λr=>match r with
 | .d 333=>.ok (.d (.tup xs.reverse))
 |_=>.bad
def BR(K:UG)(mg:145)(x:Str)(d:D):Prop:=∃u v,mg x=some u/\RelV v u/\∀J,Rep K J d v
theorem Pj{j:Nat}{p q:Pos}:PE X (.UnaryOp .USub (.Constant (.int 1) j p) q) (tC (.int (-1))):=dX (JB Gq zq) λσ H Q h=>⟨1,rfl,h⟩
theorem Cf:Wy "bool"=some (.type "bool"):=by decide +kernel
end
section
variable{X:Cx}{c:C}{e a b tg:VC}{es:List VC}{ga gb g:G R}{pos:Pos}{st:Xq}{t u:G O}{tb:G Bool}
def Jk:G O:=λ_=>.bad
noncomputable def nh(g:G R):G R:=λenv=>g env>>=λr=>match r with
 | .d (.int i)=>.ok (.d (.int (-i)))
 |_=>.bad
noncomputable def IC:R->M Bool
 | .d .non=>.ok false
 | .d (.bl b)=>.ok b
 | .d (.int i)=>.ok (i != 0)
 | .d (.str y)=>if y.length<=sizeLine then .ok ((y.length:Int) != 0)else .bad
 | .d 333=>.ok (!xs.isEmpty)
 | .d (.lst xs)=>.ok (!xs.isEmpty)
 | .d .emp=>.ok false
 | .d (.exn _ _ _)=>.bad
 | .d (.dct _ _)=>.bad
 | .d (.ob _ _)=>.bad
 | .l _ xs=>.ok (!xs.isEmpty)
 |_=>.bad
theorem Nk{K:UG}{J:Hp}{ds:List D}{vs:List V}(h:aW K J ds vs):ds.isEmpty=vs.isEmpty:=by cases h<;>rfl
theorem Mb{He J H:Hp}(hp:HI c J H){Q:Bool->Prop}{T:359}:∀{r:R}{v:V},RR c He J H r v->cJ (IC r) Q T->∃k,GC c.K v H k/\Q k
 | .d .non,_,h,w=>by cases h;exact⟨_,rfl,w⟩
 | .d (.bl b),_,h,w=>by cases h;exact⟨_,rfl,w⟩
 | .d (.int i),_,h,w=>by cases h;exact⟨_,rfl,w⟩
 | .d (.str y),_,h,w=>by
  cases h;unfold IC at w;simp only at w;split at w
  ·rename_i hz;exact⟨_,⟨hz,rfl⟩,w⟩
  ·exact w.elim
 | .d 333,_,h,w=>by
  cases h with
  |tup h1 h2=>exact⟨_,.inr (.inl ⟨_,gA hp.sub h1,rfl⟩),by rw[<-Nk h2];exact w⟩
 | .d (.lst xs),_,h,w=>by
  cases h with
  |lst h1 h2=>exact⟨_,.inl ⟨_,hp.sub.seq h1,rfl⟩,by rw[<-Nk h2];exact w⟩
 | .d .emp,_,h,w=>by
  cases h with
  |emp h1=>exact⟨_,.inr (.inr ⟨_,hp.sub _ _ h1,rfl⟩),w⟩
 | .d (.exn _ _ _),_,_,w=>w.elim
 | .d (.dct _ _),_,_,w=>w.elim
 | .d (.ob _ _),_,_,w=>w.elim
 | .o _ _ _,_,_,w=>w.elim
 | .l m xs,_,h,w=>by obtain⟨a,vs,rfl,h1,h2⟩:=RR.list hp h rfl;exact⟨_,.inl ⟨_,h1,rfl⟩,by rw[<-Nk h2];exact w⟩
def G_(g:G R):G Bool:=λenv=>g env>>=IC
noncomputable def lg(tb:G Bool)(u:G O):Nat->Ev->M O
 |0,_=>.bad
 |n+1,env=>tb env>>=λk=>if k=true then u env>>=λo=>(match o with
  | .nx e=>lg tb u n e
  | .ct e=>lg tb u n e
  | .bk e=>.ok (.nx e)
  | .rt r=>.ok (.rt r))else .ok (.nx env)
def yN(n:Nat)(tb:G Bool)(u:G O):G O:=λenv=>lg tb u n env
theorem aW.dropLast{K:UG}{J:Hp}{ds:List D}{vs:List V}(h:aW K J ds vs):aW K J ds.dropLast vs.dropLast:=by rw[abF,abF,h.length];exact h.take _
noncomputable def yM(i j:Nat):G O:=λenv=>match env[j]? with
 |some (some (.own xs))=>(match xs[xs.length-1]? with
  |some d=>.ok (.nx ((env.set j (some (.own xs.dropLast))).set i (some (.d d))))
  |none=>.bad)
 |_=>.bad
end
open PySem.AutoSeq1 in
theorem Ex(T:String)(hT:T="tuple"\/T="list")(l b:UX)(xs ys:Array UH)(n m:Nat)(dd:259)(sl:286)(z0:¬(!xs.isEmpty&&Xd (xs.size+ys.size))=true)(z1:xs.size<=sizeLine)(z2:xs.size+ys.size<=sizeLine+1):
  Meets (Ze.«list.extend» ⟨[.ref l,.ref b],[]⟩) λ_ R s=>s.heap.get? l=some {cls:=.type "list",dict:=none,data:=.seq xs n,slots:=#[]}/\
   s.heap.get? b=some {cls:=.type T,dict:=dd,data:=.seq ys m,slots:=sl}/\R (.ok (.ret Wk)) {s with heap:=s.heap.update l (XD λx=>x++ys),toks:=s.toks}:=
 .of_wp λprog w A R s h=>by
  obtain⟨hp,gs,dr,tk,os⟩:=s;obtain⟨h1,h2,h3⟩:=h;have t1:=AutoSeq1.idx_int;have t2:=AutoSeq1.sub_tuple_tuple;have t3:=AutoSeq1.sub_list_list;have t4:=AutoSeq1.sub_tuple_list;have t5:=AutoSeq1.sub_list_tuple;have z3:(xs++ys).size<=sizeLine+1:=by rw[acY];exact z2
  rcases hT with rfl|rfl
  ·wp_walk using(Wm h1 rfl (hz:=z1) (_hz':=z3)),aab h1,aab h2
   exact⟨_,rfl,h3⟩
  ·wp_walk using(Wm h1 rfl (hz:=z1) (_hz':=z3)),aab h1,aab h2
   exact⟨_,rfl,h3⟩
section
variable{X:Cx}{c:C}{e a b tg:VC}{es:List VC}{ga gb g:G R}{pos:Pos}
noncomputable def QS(K:UG):V->List V->Hp->VK->Prop:=λx vs H Q=>∃l b xs zs,x=.ref l/\vs=[.ref b]/\H l=some (.lst xs)/\(cY K H b zs\/eZ K H b zs)/\xs.length+zs.length<=sizeLine/\Q .non (upd H l (.lst (xs++zs)))
theorem NH:IP X "list.extend" (QS X.K):=by
 intro Ux s σ H x vs v us Q I rx rv h;obtain⟨l,b,xs,zs,rfl,rfl,hH,hB,hz,q⟩:=h;cases rx;obtain⟨u,rfl,ru⟩:=rv.one;cases ru;obtain⟨z,Uy,n,r,hl,e⟩:=I.lstM hH;have obj:∃T its2,(T="tuple"\/T="list")/\Vals zs its2/\∃dd m sl,s.heap.get? b=some {cls:=.type T,dict:=dd,data:=.seq its2.toArray m,slots:=sl}:=by
  rcases hB with hB|hB
  ·obtain⟨its2,r2,pl,_⟩:=I.list hB;obtain⟨⟨cls,dd,data,sl⟩,ho,hc,m,hd⟩:=pl.isList;simp only at hc hd;subst hc hd;exact⟨"list",its2,.inr rfl,r2,dd,m,sl,ho⟩
  ·obtain⟨its2,r2,pl,_⟩:=I.tuple hB;obtain⟨⟨cls,dd,data,sl⟩,ho,hc,m,hd⟩:=pl;simp only at hc hd;subst hc hd;exact⟨"tuple",its2,.inl rfl,r2,dd,m,sl,ho⟩
 obtain⟨T,its2,hT,r2,dd,m,sl,e2⟩:=obj;have hl2:=r2.length;have hsz:Uy.toArray.size+its2.toArray.size<=sizeLine:=by rw[U5,U5];omega
 have Sx:¬(!Uy.toArray.isEmpty&&Xd (Uy.toArray.size+its2.toArray.size))=true:=by rw[zj hsz,YQ];exact VV
 refine acT acz ⟨_,e,rfl⟩ ab_ (abY _ _) (Ex T hT l b Uy.toArray its2.toArray n m dd sl Sx (by rw[U5];omega) 112) ⟨e,e2,?_⟩;refine⟨.non,_,I.lset (its':=Uy++its2) hH e 229 (r.append r2) ?_,rfl,q⟩;rw[UQ];omega
noncomputable def yL(i:Nat)(g:G R):G O:=λenv=>match env[i]? with
 |some (some (.own xs))=>g env>>=λr=>i7 r>>=λys=>if xs.length+ys.length<=sizeLine then .ok (.nx (env.set i (some (.own (xs++ys)))))else .bad
 |_=>.bad
noncomputable def zm:V->Option (Option Bool)
 | .non=>some none
 | .bl k=>some (some k)
 |_=>none
theorem Iu(rx:RelV x v)(ry:RelV y u)(h:zm y=some o):isSame v u=pure (zm x==some o):=by
 cases y with
 |non=>
  cases h;cases ry;cases x with
  |non=>cases rx;rfl
  |bl k=>cases rx;rfl
  |int i=>obtain⟨t,rfl⟩:=rx;rfl
  |str z=>obtain⟨t,rfl⟩:=rx;rfl
  |byt z=>obtain⟨t,rfl⟩:=rx;rfl
  |flt z=>obtain⟨t,rfl⟩:=rx;rfl
  |ref p=>cases rx;rfl
  |ty n=>cases rx;rfl
 |bl k'=>
  cases h;cases ry;cases x with
  |non=>cases rx;rfl
  |bl k=>cases rx;cases k<;>cases k'<;>rfl
  |int i=>obtain⟨t,rfl⟩:=rx;rfl
  |str z=>obtain⟨t,rfl⟩:=rx;rfl
  |byt z=>obtain⟨t,rfl⟩:=rx;rfl
  |flt z=>obtain⟨t,rfl⟩:=rx;rfl
  |ref p=>cases rx;rfl
  |ty n=>cases rx;rfl
 |_=>cases h
theorem Fp:dU X (W9 .Is) (λx y H Q=>∃o,zm y=some o/\Q (.bl (zm x==some o)) H):=by intro Ux s σ H x y v u Q I rx ry h;obtain⟨o,ho,q⟩:=h;show UZ _ _ (do return acM (<-isSame v u)) _ _ s;rw[Iu rx ry ho];exact UE (UJ (UJ ⟨.bl _,H,I,rfl,q⟩))
noncomputable def Dg:R->Option (Option Bool)
 | .d .non=>some none
 | .d (.bl k)=>some (some k)
 |_=>none
noncomputable def vM(neg:Bool)(x y:R):M R:=match Dg y with
 |some o=>.ok (.d (.bl (if neg then !(Dg x==some o)else Dg x==some o)))
 |none=>.bad
theorem pW{He J H:Hp}:∀{r:R}{v:V},RR c He J H r v->zm v=Dg r
 | .d .non,_,h=>by cases h;rfl
 | .d (.bl _),_,h=>by cases h;rfl
 | .d (.int _),_,h=>by cases h;rfl
 | .d (.str _),_,h=>by cases h;rfl
 | .d (.tup _),_,h=>by cases h;rfl
 | .d (.lst _),_,h=>by cases h;rfl
 | .d .emp,_,h=>by cases h;rfl
 | .d (.exn _ _ _),_,h=>by cases h;rfl
 | .d (.dct _ _),_,h=>by cases h;rfl
 | .d (.ob _ _),_,h=>by cases h;rfl
 | .l .fresh _,_,h=>by obtain⟨_,_,rfl,_⟩:=h;rfl
 | .l .own _,_,h=>by obtain⟨_,_,rfl,_⟩:=h;rfl
 | .l .bor _,_,h=>by obtain⟨_,_,rfl,_⟩:=h;rfl
 | .o .fresh _ _,_,h=>by obtain⟨_,rfl,_⟩:=h;rfl
 | .o .own _ _,_,h=>by obtain⟨_,rfl,_⟩:=h;rfl
 | .o .bor _ _,_,h=>by obtain⟨_,rfl,_⟩:=h;rfl
end
inductive kq(K:UG):List (Str×D)->List (Str×UH)->Prop
 |nil:kq K [] []
 |cons {k:Str}{d:D}{v:V}{u:UH}{r:List (Str×D)}{rs:List (Str×UH)}:RelV v u->(∀J,Rep K J d v)->kq K r rs->kq K ((k,d)::r) ((k,u)::rs)
def jw(UC:List (Str×D))(k:Str):Option D:=(UC.find? λp=>p.1=k).map (·.2)
theorem kq.get{K:UG}{UC:List (Str×D)}{us:List (Str×UH)}(h:kq K UC us)(k:Str):(∀d,jw UC k=some d->∃u v,Y0 us k=some u/\RelV v u/\∀J,Rep K J d v)/\(Y0 us k).isSome=(jw UC k).isSome:=by
 induction h with
 |nil=>exact⟨(λd z=>nomatch z),rfl⟩
 | @cons k' d' v u r rs h1 h2 h3 ih=>
  by_cases e:k'=k
  ·have e1:jw ((k',d')::r) k=some d':=by simp[jw,Wn,e]
   have e2:Y0 ((k',u)::rs) k=some u:=by simp[Y0,Wn,e]
   rw[e1,e2];exact⟨λd z=>by cases z;exact⟨u,v,rfl,h1,h2⟩,rfl⟩
  ·have e1:jw ((k',d')::r) k=jw r k:=by simp[jw,Wn,e]
   have e2:Y0 ((k',u)::rs) k=Y0 rs k:=by simp[Y0,Wn,e]
   rw[e1,e2];exact ih
noncomputable def sC(K:UG)(w:Vj)(mg:145)(x:Str)(UC:List (Str×D)):Prop:=
 ∃(a:UX)(us:List (Str×UH)),mg x=some 307/\(a==V5)=false/\(∀(P:U0)(h:VU),K.In h->h.DictOf (aaU P w) a us)/\kq K UC us
section
variable{X:Cx}{c:C}{e a b tg i:VC}{es:List VC}{ga gb g:G R}{pos:Pos}
theorem Hj:ow X (λx y H Q=>∃a us k u v,x=.ref a/\y=.str k/\(∀(P:U0)(h:VU),X.K.In h->h.DictOf (aaU P X.w) a us)/\Y0 us k=some u/\RelV v u/\Q v H):=by intro value slice Ux s σ H x y v u Q I rx ry h hs;obtain⟨a,us,k,u',v',rfl,rfl,hd,hv,r,q⟩:=h;cases rx;obtain⟨t,rfl⟩:=ry;have dd:=hd X.prog s.heap I.kIn;exact aeJ dd.typeIs YR.lookup (adB (by show Xk k (.str k t)=true;simp[Xk]) dd.mapOf hv ⟨v',H,I.tok _,r,q⟩) hs
theorem NK:dU X (W9 .In) (λx y H Q=>∃a us k,x=.str k/\y=.ref a/\(a==V5)=false/\(∀(P:U0)(h:VU),X.K.In h->h.DictOf (aaU P X.w) a us)/\Q (.bl (Y0 us k).isSome) H):=by intro Ux s σ H x y v u Q I rx ry h;obtain⟨a,us,k,rfl,rfl,hn,hd,q⟩:=h;obtain⟨t,rfl⟩:=rx;cases ry;have dd:=hd X.prog s.heap I.kIn;exact wpAny_in_of (by show Xk k (.str k t)=true;simp[Xk]) hn dd.mapOf ⟨.bl _,H,I.tok _,rfl,q⟩
noncomputable def Cz(UC:List (Str×D))(g:G R):G R:=λenv=>g env>>=λr=>match r with
 | .d (.str k)=>(match jw UC k with
  |some d=>.ok (.d d)
  |none=>.bad)
 |_=>.bad
noncomputable def M8(neg:Bool)(UC:List (Str×D))(g:G R):G R:=λenv=>g env>>=λr=>match r with
 | .d (.str k)=>.ok (.d (.bl (if neg then !(jw UC k).isSome else(jw UC k).isSome)))
 |_=>.bad
end
def G1(w:Vj)(p:Str×Tok×UH):Z0:=⟨Wb w.params p.1,.str p.1 p.2.1,p.2.2⟩
theorem zo{P:U0}{w:Vj}:∀(es:List (Str×Tok×UH)),PySem.Pairs (aaU P w) (es.map (G1 w)) (es.map λp=>(p.1,p.2.2))
 |[]=>.nil
 |p::r=>.cons (by show Xk p.1 (.str p.1 p.2.1)=true;simp[Xk]) rfl (zo r)
theorem yx{K:UG}{w:Vj}{mg:145}{h0:VU}{x:Str}{f:UX}{ep:Nat}{UC:List (Str×D)}(es:List (Str×Tok×UH))(X:K.In h0)(G:h0.Ns UT mg)
  (g:U1 K UT x=some (some 344)) (l:K.lookup f=some {cls:=.type "dict",data:=.dict (es.map (G1 w)).toArray ep}) (nd:(es.map (·.1)).Nodup) (hs:(f==V5)=false) (hp:kq K UC (es.map λp=>(p.1,p.2.2))):sC K w mg x UC:=by
 refine⟨f,es.map λp=>(p.1,p.2.2),Vo X G g,hs,λP h hK=>?_,hp⟩;refine⟨_,_,_,hK f _ l,⟨rfl,rfl,rfl⟩,rfl,λe he=>?_,zo es,?_⟩
 ·have he':e∈es.map (G1 w):=by simpa using he
  obtain⟨p,_,rfl⟩:=Vc.mp he';exact⟨p.1,by show Xk p.1 (.str p.1 p.2.1)=true;simp[Xk],rfl⟩
 ·rw[Wc];exact nd
def vj(m:Int)(ns:List Int):Int:=ns.foldl (λm b=>if b>m then b else m) m
section
variable{prog:U0}{w:Vj}{A:Vw}{R:aa6->UI->Prop}{I:UX}{fp wr:List UX}{St:Nat->VU->Prop}{us:Array UH}{ns:List Int}{S:UX}{dv:UH}
theorem tZ:(toString "max"++toString ".loop":String)="max.loop":=by decide
theorem Nf{a b:Int}{t u:Tok}{s:UI}{Q:136}{E:136}(h:Q (.bool (decide (a>b))) s):UZ 139 A (ace .Gt (.int a t) (.int b u)) Q E s:=
 ac2 (op:=.Gt) (aes s a t) (aes s b u) F.slot_int_gt F.entry_int_gt (F.args_int_gt_2 _ _) (gives_int_gt _ _ t u) 277 h
theorem K6(W:afV prog w A.in1 I fp wr us.size (λi v=>us[i]?=some v) St)(hSf:S∉fp)(hu:∀(i:Nat)(v:UH),us[i]?=some v->∃t,v=.int (ns.getD i 0) t)(hl:us.size=ns.length):
  ∀(k j:Nat)(s:UI)(m:Int)(t:Tok)(c:Nat),ns.length-(j+1)=k->j+1<=ns.length->St (j+1) s.heap->s.heap.get? S=some {cls:=.type "list",dict:=none,data:=.seq #[.int m t,.int m t] c,slots:=#[]}->
  (∀(t':Tok)(h':VU)(tk:Nat),(∀b o,b∉wr->b≠S->s.heap.get? b=some o->h'.get? b=some o)->R (.ok (.ret (.int (vj m (ns.drop (j+1))) t'))) {s with heap:=h',toks:=tk})->
  WC 139 A (.builtin "max.loop" ⟨[.ref I,.none,.ref S],[("default",dv)]⟩) R s:=by
 have Su:S∉wr:=λz=>hSf (W.sub _ z);intro k
 induction k with
 |zero=>
  intro j s m t c hk hj hst hS hR;have hin:j+1=us.size:=by omega
  (refine V9 aa8 ?_);rw[VE XH _]
  (show UZ _ A.in1 (aac (.ref S)>>=_) _ _ s);refine UE (XS hS rfl ?_)
  (show UZ _ A.in1 (tryCatch (YM (.ref I)) _>>=_) _ _ s);refine UE (Xp (W.done s _ _ (hin▸hst) λh1 tk k1=>?_))
  have R9:=k1 S _ Su hS
  (show UZ _ A.in1 (aad S (λ_=>#[])>>=_) _ _ _);refine UE (Wm R9 rfl (UE (Y3 (UJ ?_))))
  have z:=hR t (h1.update S (XD λ_=>#[])) tk λb o hb R4 e=>(U_ _ _ (VF R4)).trans (k1 b o hb e);rw[Yq 112]at z;exact z
 |succ k ih=>
  intro j s m t c hk hj hst hS hR;have hlt:j+1<us.size:=by omega
  (refine V9 aa8 ?_);rw[VE XH _]
  (show UZ _ A.in1 (aac (.ref S)>>=_) _ _ s);refine UE (XS hS rfl ?_)
  (show UZ _ A.in1 (tryCatch (YM (.ref I)) _>>=_) _ _ s);refine UE (Xp (W.item (j+1) s _ _ hlt hst λv h1 tk hP R8 k1=>?_))
  have R9:=k1 S _ Su hS;obtain⟨t1,rfl⟩:=hu _ _ hP;have hd:ns.drop (j+1)=ns.getD (j+1) 0::ns.drop (j+1+1):=by rw[W7 (by omega:j+1<ns.length),Vq,U3 (by omega:j+1<ns.length)];rfl
  rw[hd]at hR;generalize ns.getD (j+1) 0=y at hR hP ⊢
  (show UZ _ A.in1 (tryCatch (holding [Y9 y t1,Y9 y t1] (ace .Gt (Y9 y t1) (Y9 m t)>>=_)) _>>=_) _ _ _);refine UE (Xp (VG (UE (Nf ?_))))
  (refine UE (VG (W2 ?_)));refine UE (Y3 (UJ ?_))
  by_cases hb:y>m
  ·rw[decide_eq_true hb];simp only[if_true]
   (refine UE (Wm R9 rfl (UE (Y3 ?_))));rw[tZ]
   refine UJ ⟨Wj XH _,ih (j+1) _ y t1 _ 112 112 (W.frame _ _ _ R8 λb SE o e=>?_) (Vy _ R9 rfl) λt2 h2 tk2 k2=>?_⟩
   ·exact(U_ _ _ (λz:S=b=>hSf (z▸SE))).trans e
   ·have q:=hR t2 h2 tk2 λb o R6 R4 e=>k2 b o R6 R4 ((U_ _ _ (VF R4)).trans (k1 b o R6 e));have e:vj m (y::ns.drop (j+1+1))=vj y (ns.drop (j+1+1)):=by show ac3 _ (if y>m then y else m) _=_;rw[if_pos hb];rfl
    rw[e]at q;exact q
  ·rw[decide_eq_false hb]
   (simp only[VM,if_false]);(refine UE (Y3 ?_));rw[tZ]
   refine UJ ⟨Wj XH _,ih (j+1) _ m t c 112 112 R8 R9 λt2 h2 tk2 k2=>?_⟩;have q:=hR t2 h2 tk2 λb o R6 R4 e=>k2 b o R6 R4 (k1 b o R6 e);have e:vj m (y::ns.drop (j+1+1))=vj m (ns.drop (j+1+1)):=by show ac3 _ (if y>m then y else m) _=_;rw[if_neg hb];rfl
   rw[e]at q;exact q
noncomputable def l6(d:Int):List Int->Int
 |[]=>d
 |n::r=>vj n r
theorem CW(W:afV prog w A.in1 I fp wr us.size (λi v=>us[i]?=some v) St)(hSf:S∉fp)(hu:∀(i:Nat)(v:UH),us[i]?=some v->∃t,v=.int (ns.getD i 0) t)(hl:us.size=ns.length){d:Int}{td:Tok}{s:UI}{c:Nat}(hst:St 0 s.heap)
  (hS:s.heap.get? S=some {cls:=.type "list",dict:=none,data:=.seq #[] c,slots:=#[]})
  (hR:∀(t':Tok)(h':VU)(tk:Nat),(∀b o,b∉wr->b≠S->s.heap.get? b=some o->h'.get? b=some o)->R (.ok (.ret (.int (l6 d ns) t'))) {s with heap:=h',toks:=tk}):
  WC 139 A (.builtin "max.loop" ⟨[.ref I,.none,.ref S],[("default",.int d td)]⟩) R s:=by
 have Su:S∉wr:=λz=>hSf (W.sub _ z)
 (refine V9 aa8 ?_);rw[VE XH _]
 (show UZ _ A.in1 (aac (.ref S)>>=_) _ _ s);refine UE (XS hS rfl ?_)
 (show UZ _ A.in1 (tryCatch (YM (.ref I)) _>>=_) _ _ s)
 cases ns with
 |nil=>
  have h0:(0:Nat)=us.size:=hl.symm;refine UE (Xp (W.done s _ _ (h0▸hst) λh1 tk k1=>?_));refine UE (ZY (UJ ?_));exact hR td h1 tk λb o hb _ e=>k1 b o hb e
 |cons y r=>
  have hn:0<us.size:=by rw[hl];exact ZI _
  refine UE (Xp (W.item 0 s _ _ hn hst λv h1 tk hP R8 k1=>?_));have R9:=k1 S _ Su hS;obtain⟨t1,rfl⟩:=hu _ _ hP
  (show UZ _ A.in1 (aad S (λ_=>#[Y9 ((y::r).getD 0 0) t1,Y9 ((y::r).getD 0 0) t1])>>=_) _ _ _);refine UE (Wm R9 rfl ?_)
  rw[tZ];refine UJ ⟨Wj XH _,K6 W hSf hu hl _ 0 _ y t1 _ rfl (ZI _) (W.frame _ _ _ R8 λb SE o e=>?_) (Vy _ R9 rfl) λt2 h2 tk2 k2=>?_⟩
  ·exact(U_ _ _ (λz:S=b=>hSf (z▸SE))).trans e
  ·exact hR t2 h2 tk2 λb o R6 R4 e=>k2 b o R6 R4 ((U_ _ _ (VF R4)).trans (k1 b o R6 e))
end
section
variable{prog:U0}{w:Vj}{A:Vw}{E:UH->UI->Prop}{s:UI}{l:UX}{us:Array UH}{ns:List Int}
theorem D_(a d:UH):ab5 "max" ⟨[a],[("default",d)]⟩:=by
 unfold ab5
 kernel_rfl
theorem Eg{d:Int}{td:Tok}{Q:136}(hh:A.handled=none)(hl:s.heap.IsList l us)(hu:∀(i:Nat)(v:UH),us[i]?=some v->∃t,v=.int (ns.getD i 0) t)(hn:us.size=ns.length)
  (h:∀(t':Tok)(h':VU)(tk:Nat),(∀b o,s.heap.get? b=some o->h'.get? b=some o)->Q (.int (l6 d ns) t') {s with heap:=h',toks:=tk}):UZ 139 A (call (.builtin "max") [.ref l] [("default",.int d td)]) Q E s:=by
 have ha:=D_ (.ref l) (.int d td);refine Yo (WW F.plain_max F.entry_max ?_);have core:UZ 139 A.in1 (Ze.«max» ⟨[.ref l],[("default",.int d td)]⟩) (λfin s'=>match fin with
   | .done f=>(match (afW f:aa6)with | .ok (.ret v)=>Q v s' | .ok _=>False | .error e=>E e s')
   | .again c'=>c'.quiet=true/\WC 139 A c' (λr s'=>match r with | .ok (.ret v)=>Q v s' | .ok _=>False | .error e=>E e s') s') E s:=by
  show UZ _ A.in1 (Xw "max" ["key","default"] 0 ⟨[],[("default",.int d td)]⟩>>=_) _ _ s;refine UE (Yz (show Xw "max" ["key","default"] 0 ⟨[],[("default",.int d td)]⟩=pure [none,some (.int d td)] by rfl) ?_);refine UE (UJ ?_);have hlt:l<s.heap.objs.size:=by obtain⟨_,e,_⟩:=hl;exact UY e
  refine UE (Zw hl ?_);refine UE (Vn ?_);rw[tZ];generalize hs2:s.heap.push {cls:=.type "list_iterator",data:=.fields #[.ref l,.int 0 0]}=H2;have hI:H2.IsListIter s.heap.objs.size l 0:=by rw[<-hs2];exact⟨_,US _ rfl,rfl,rfl⟩
  have hL:H2.IsList l us:=by rw[<-hs2];exact hl.push _
  have sz:H2.objs.size=s.heap.objs.size+1:=by rw[<-hs2,Wi]
  have W:=aev (prog:=prog) (w:=w) (A:=A.in1) (show A.in1.handled=none from hh) s.heap.objs.size l (U4 hlt) us;have hSf:H2.objs.size∉[s.heap.objs.size,l]:=λz=>by
   rcases UR.mp z with z|z
   ·exact absurd (sz.symm.trans z) (adC _)
   ·rw[UM]at z;exact absurd z.symm (U4 (by rw[sz];exact Ww hlt))
  refine UJ ⟨Wj XH _,CW W hSf hu hn (W.frame _ _ _ ⟨hI,hL⟩ λb _ o e=>UK _ e) (US _ rfl) λt' h' tk k=>?_⟩;refine h t' h' tk λb o e=>?_;have e2:H2.get? b=some o:=by rw[<-hs2];exact UK _ e
  have lt:=UY e;exact k b o (λz=>absurd (UM.mp z) (U4 lt)) (U4 (by rw[sz];exact Ww lt)) (UK _ e2)
 simp only[XG,F.kind_max];cases SO:aae "max" with
 |none=>exact UJ core
 |some sig=>
  simp only[ab5,SO]at ha;have h2:YS "max" sig ⟨[.ref l],[("default",.int d td)]⟩=pure ():=ha;show UZ _ A.in1 (YS "max" sig ⟨[.ref l],[("default",.int d td)]⟩) _ _ s;rw[h2];exact UJ core
end
section
variable{X:Cx}{c:C}{e a b tg i:VC}{es:List VC}{ga gb g:G R}{pos:Pos}
noncomputable def tG(d:Int)(g:G R):G R:=λenv=>g env>>=λr=>fY r>>=λxs=>match intsOf xs with
 |some ns=>.ok (.d (.int (l6 d ns)))
 |none=>.bad
theorem Mg{ns:List Int}{Uy:List UH}(r:Vals (ns.map V.int) Uy)(i:Nat)(v:UH)(h:Uy.toArray[i]?=some v):∃t,v=.int (ns.getD i 0) t:=by
 have h':Uy[i]?=some v:=by simpa using h
 have hl:=r.length;rw[UL]at hl;have hi:i<ns.length:=by rw[hl];exact(Vs.mp h').1
 obtain⟨u,hu,ru⟩:=r.get (show(ns.map V.int)[i]?=some (.int ns[i]) by rw[Vi,U3 hi];rfl);rw[h']at hu;cases hu;obtain⟨t,rfl⟩:=ru;exact⟨t,by rw[Vq,U3 hi];rfl⟩
end
theorem uT{P:U0}{w:Vj}{K:UG}{mg:145}{base:VU}{x UB:Str}{st:Xq}{f:UX}{fd:Vp}{ps:131}{k:Nat}{Fm:234}(F:fN K x UB st f fd)(hm:mg x=some 344)
  (hbi:156)
  (hF:∀as,Fm as=.bad):bW P w K mg base k ps.length x Fm:=
 ⟨f,fd,ps,⟨λvs H Q E ⟨J,as,_,_,_,h⟩=>(by rw[hF as]at h;exact h.elim),λA outer s H args us vs Q E _ _ _ _ ⟨J,as,_,_,_,h⟩=>(by rw[hF as]at h;exact h.elim)⟩,hm,F.kp,F.binds hbi⟩
section
variable{X:Cx}{c:C}{e a b d tg:VC}{es:List VC}{ga gb g:G R}{pos:Pos}
def QJ(K:UG)(tl:TE):TI:=λσ H R=>tl σ H λx H1=>∃a,x=.ref a/\(((∃xs,cY K H1 a xs)/\R (IJ K a) H1)\/((∃xs,eZ K H1 a xs)/\R (IL K a) H1))
theorem FF{tl:TE}(hl:PE X e tl):PI X tg e (QJ X.K tl):=λUx s σ H R I h=>bO (hl Ux s σ H _ I h) λv s1 ⟨x,H1,I1,r1,a,ex,q1⟩=>by
 subst ex;cases r1;have fp:∀b∈[s1.heap.objs.size],jG X Ux H1 b:=λb hb=>by rw[UM]at hb;subst hb;exact I1.fpOk (UW _) (I1.hok.fresh (UW _))
 rcases q1 with⟨⟨xs,hq⟩,q⟩|⟨⟨xs,hq⟩,q⟩
 ·obtain⟨Uy,rv,p,hz⟩:=I1.list hq;exact Zw p.isList ⟨s1.heap.objs.size,[s1.heap.objs.size],_,_,H1,rfl,I1.kept (t':=s1.toks) (λb o e=>UK _ e),Gk a _,⟨_,US _ rfl,rfl,rfl⟩,fp,q⟩
 ·obtain⟨Uy,rv,p,hz⟩:=I1.tuple hq;exact acG (show s1.heap.IsTuple a Uy.toArray from p) ⟨s1.heap.objs.size,[s1.heap.objs.size],_,_,H1,rfl,I1.kept (t':=s1.toks) (λb o e=>UK _ e),DJ a _,⟨_,US _ rfl,rfl,rfl⟩,fp,q⟩
theorem wD{J1:Hp}{a:UX}{vs:List V}{ds:List D}{U:Hp->Hp->Prop}(hU:∀J H,U J H->aY J1 J)(h:eZ c.K J1 a vs)(hs:aW c.K J1 ds vs):Walk c (IL c.K a) ds J1 U:=by intro i J H hp u;have h':=gA hp.sub (gA (hU J H u) h);refine⟨λhl=>⟨vs,h',by rw[<-hs.length];exact hl⟩,λd hd=>?_⟩;obtain⟨v,k1,k2⟩:=hs.get hd;refine⟨⟨vs,v,h',k1⟩,λx H2 ⟨e,hy⟩=>?_⟩;subst e;have:=hy vs h';rw[k1]at this;cases this;exact⟨J,Ext.refl hp.sub,k2.mono (hU J _ u)⟩
noncomputable def iS(g:G R):G (List D):=λenv=>g env>>=λr=>match r with
 | .d 333=>.ok xs
 | .d (.lst xs)=>.ok xs
 | .l .fresh xs=>.ok xs
 | .l .bor xs=>.ok xs
 |_=>.bad
def iT(g:G R):G (List D):=λenv=>g env>>=i7
end
section
variable{X:Cx}{c:C}{st:Xq}{g:G O}
theorem SR.frz{J H:Hp}{σ:L2.St}{env:Ev}(sr:SR c J H σ env){i:Nat}{x:Mn}{a:UX}{o:HO}{d:D}(hi:env[i]?=some (some (mS x)))(h1:σ[i]?=some (some 307))(h2:H a=some o)(h3:J a=none)(h4:c.H0 a=none)(h5:Rep c.K (L2.upd J a o) d 307):∃J',aY J J'/\SR c J' H σ (env.set i (some (.d d))):=by
 have s1:aY J (L2.upd J a o):=dY h3 _;refine⟨L2.upd J a o,s1,⟨⟨λb o q=>?_,sr.hp.ent,sr.hp.entJ.trans s1,λb k1 k2=>?_⟩,by simpa using sr.len,λj y q=>?_,λj k ys zs w hjk q1 q2 q3 q4=>?_⟩⟩
 ·by_cases hb:b=a
  ·subst hb;rw[bf]at q;cases q;exact h2
  ·rw[aU hb]at q;exact sr.hp.sub b o q
 ·have:b≠a:=λz=>k1 (z▸h4);rw[aU this];exact sr.hp.frz b k1 k2
 ·rcases fQ q with⟨rfl,hl,rfl⟩|⟨hj,q⟩
  ·exact⟨.ref a,h1,h5⟩
  ·obtain⟨w,k1,k2⟩:=sr.at_ j y q;refine⟨w,k1,?_⟩;have hne:∀(z:Mn) p',y=mS z->w=.ref p'->p'≠a:=λz p' e ew ep=>sr.sep i j x z 307 (VF hj) hi (e▸q) h1 (ep▸ew▸k1);cases y with
   |d x=>exact Rep.mono s1 k2
   |bor zs=>obtain⟨p,us,m1,m2,m3⟩:=k2;exact⟨p,us,m1,m2,m3.mono s1⟩
   |ob _ _=>obtain⟨p,m1,m2⟩:=k2;exact⟨p,m1,m2.mono s1 (aY.refl _)⟩
   |oo k zs=>
    obtain⟨p,rfl,m1,m2,m3⟩:=k2;exact⟨p,rfl,m1.mono s1 (aY.refl _),by rw[aU (hne (.oo k zs) p rfl rfl)];exact m2,m3⟩
   |own zs=>
    obtain⟨p,us,rfl,m1,m2,m3,m4⟩:=k2;exact⟨p,us,rfl,m1,by rw[aU (hne (.inl zs) p rfl rfl)];exact m2,m3,m4.mono s1⟩
 ·have f:∀(k:Nat)(ys:Mn),(env.set i (some (.d d)))[k]?=some (some (mS ys))->env[k]?=some (some (mS ys)):=λk ys q=>by
   rcases fQ q with⟨rfl,_,z⟩|⟨_,q⟩
   ·cases ys<;>cases z
   ·exact q
  exact sr.sep j k ys zs w hjk (f j ys q1) (f k zs q2) q3 q4
noncomputable def u6(i:Nat)(g:G O):G O:=λenv=>match env[i]? with
 |some (some (.own xs))=>g (env.set i (some (.d (.lst xs))))
 |_=>g env
end
structure QD(X:Cx)(c:C)(x0:VC)(x1:G R):Prop where
 h:PD X c x0 x1
structure QB(X:Cx)(c:C)(x0:VC)(x1:G Bool):Prop where
 h:PB X c x0 x1
structure kB(X:Cx)(c:C)(x0:List VC)(x1:338):Prop where
 h:DZ X c x0 x1
structure AE(X:Cx)(c:C)(x0:List VC)(x1:244):Prop where
 h:P9 X c x0 x1
structure ig(X:Cx)(c:C)(x0:Xq)(x1:G O):Prop where
 h:D3 X c x0 x1
structure lq(X:Cx)(c:C)(x0:List Xq)(x1:G O):Prop where
 h:IS X c x0 x1
structure yb(X:Cx)(c:C)(x0:VC)(x1:G Bool):Prop where
 h:Rj X c x0 x1
structure sL(X:Cx)(c:C)(x0:VC)(x1:GT):Prop where
 h:D4 X c x0 x1
structure BZ(X:Cx)(c:C)(x0:List VC)(x1:sE):Prop where
 h:Qt X c x0 x1
structure D6(X:Cx)(c:C)(x0:VC)(x1:VC)(x2:244):Prop where
 h:Qc X c x0 x1 x2
structure D5(X:Cx)(c:C)(x0:VC)(x1:VC)(x2:244):Prop where
 h:Qa X c x0 x1 x2
structure uP(X:Cx)(c:C)(x0:List VC)(x1:G Bool):Prop where
 h:BY X c x0 x1
structure IU(X:Cx)(c:C)(x0:Option VC)(x1:GO):Prop where
 h:MB X c x0 x1
section
variable{X:Cx}{c:C}{e a b:VC}{ga gb:G R}{pos:Pos}
theorem aa(i:Nat)(hN:autoParam (X.N[i]?=some x) zzA._auto_1)(hv:jK X.env.scope x:=by first|exact Yc rfl|exact Xa (Yc rfl)|exact Xa (Xa rfl))(hd:141)
 (hcd:autoParam ((x==306)=false) zzB._auto_1):QD X c (.Name x pos) (af i):=⟨Lo (eK hN hv hd hcd)⟩
theorem aj:QD X c (.Constant (.int i) j pos) (gC (.int i)):=⟨ua (λ_=>.int i) zq⟩
theorem kU:QD X c (.Constant (.bool i) j pos) (gC (.bl i)):=⟨ua (λ_=>.bl i) Ph⟩
theorem jr:QD X c (.Constant .none j pos) (gC .non):=⟨ua (λ_=>.non) NZ⟩
theorem aZ:QD X c (.Constant (.str x) j pos) (gC (.str x)):=⟨ua (λ_=>.str x) Fz⟩
theorem vt(ha:358)(hb:QD X c b gb):QD X c (.BinOp a .Sub b pos) (g2 g8 ga gb):=have ha:=ha.h;have hb:=hb.h;⟨lJ NS (iA λ_ _ _=>.int _) ha hb⟩
theorem cQ(ha:358)(hb:QD X c b gb):QD X c (.BinOp a .FloorDiv b pos) (g2 dG ga gb):=have ha:=ha.h;have hb:=hb.h;⟨lJ Le (B8 (λi j h=>KW h) λ_ _ _=>.int _) ha hb⟩
theorem bw(ha:358)(hb:QD X c b gb):QD X c (.BinOp a .Mod b pos) (g2 bV ga gb):=have ha:=ha.h;have hb:=hb.h;⟨lJ NN (B8 (λi j h=>by unfold Nt at h;exact of_decide_eq_true h) λ_ _ _=>.int _) ha hb⟩
theorem qd(ha:358)(hb:QD X c b gb):QD X c (.BinOp a .Pow b pos) (g2 kJ ga gb):=have ha:=ha.h;have hb:=hb.h;⟨lJ NR (B8 (λi j h=>KZ h) λ_ _ _=>.int _) ha hb⟩
theorem Og(ha:358)(hb:QD X c b gb):QD X c (.Compare a [.LtE] [b] pos) (g2 (b9 λi j=>.bl (decide (i<=j))) ga gb):=have ha:=ha.h;have hb:=hb.h;⟨t_ Pd (iA λ_ _ _=>.bl _) ha hb⟩
theorem az:kB X c [] ay:=⟨xJ gM λσ H Q ⟨J,env,sr,w⟩=>w [] J H (Ext.refl sr.hp.sub) rfl⟩
theorem ai{es:List VC}{g:G R}{gs:338}(h:QD X c e g)(hs:kB X c es gs)(hst:153):kB X c (e::es) (ah g gs):=have h:=h.h;have hs:=hs.h;⟨
 xJ (ez h hs hst) λσ H Q ⟨J,env,sr,w⟩=>by
  refine⟨J,env,sr,aB (aH w) λx wx u J1 H1 e1 r1=>?_⟩;refine⟨J1,env,sr.ext e1,aB (aH wx) λxs wy us J2 H2 e2 r2=>?_⟩;exact wy (u::us) J2 H2 (e1.trans e2) ⟨u,us,rfl,r1.ext e2,mw.from e1.h r2⟩⟩
end
section
variable{X:Cx}{c:C}{e a b:VC}{es:List VC}{ga gb g:G R}{pos:Pos}
theorem aL:AE X c [] aE:=⟨xJ gM λσ H Q ⟨J,env,sr,w⟩=>w [] J H (Ext.refl sr.hp.sub) .nil⟩
theorem aq{gs:244}(h:QD X c e g)(hs:AE X c es gs)(hst:153):AE X c (e::es) (ak g gs):=have h:=h.h;have hs:=hs.h;⟨
 xJ (ez h hs hst) λσ H Q ⟨J,env,sr,w⟩=>by
  refine⟨J,env,sr,aB (aH w) λx wx u J1 H1 e1 r1=>?_⟩;obtain⟨d,q,wx⟩:=kh wx;obtain⟨J1',e1',s1,rd⟩:=freeze e1 r1 q;refine⟨J1',env,sr.ext e1',aB (aH wx) λxs wy us J2 H2 e2 r2=>?_⟩;exact wy (u::us) J2 H2 (e1'.trans e2) (.cons (rd.mono e2.j) r2)⟩
theorem bQ{k}{gs:244}(h:AE X c es gs):QD X c (.Tuple es k pos) (bN gs):=have h:=h.h;⟨dX (N3 h) λσ H Q ⟨J,env,sr,w⟩=>by
 refine⟨J,env,sr,aB (aH w) λds wd vs J1 H1 e1 r1=>?_⟩;split at wd
 ·rename_i hz;rw[r1.length]at hz;exact⟨hz,λp hp=>wd _ _ _ (e1.trans (Ext.newJ e1.sub hp _)) (kX 377 hp r1)⟩
 ·exact wd.elim⟩
theorem bM{gs:244}(h:AE X c es gs):QD X c (.List es pos) (cC gs):=have h:=h.h;⟨dX (NY h) λσ H Q ⟨J,env,sr,w⟩=>by
 refine⟨J,env,sr,aB (aH w) λds wd vs J1 H1 e1 r1=>?_⟩;split at wd
 ·rename_i hz;rw[r1.length]at hz;exact⟨hz,λp hp=>wd _ _ _ (e1.trans (Ext.new e1.sub hp _)) (RR.from e1.h (jE 377 hp r1))⟩
 ·exact wd.elim⟩
theorem gx{p:Pos}{gs:338}(ha:kB X c (e::es) gs)(hm:X.mg "len"=none)(hK:375)(hg:autoParam (Gl X "len") zzA._auto_1)
  (he:153) (hpl:autoParam ((Wr pos 319).any (·.1)=false) zzA._auto_1):QD X c (.Call (.Name "len" p) (e::es) [] pos) (gN eV gs):=have ha:=ha.h;⟨
 rX (yr.or yq) (by
  intro He J H xs vs Q hp rs w;unfold eV at w;split at w
  ·obtain⟨v,rfl,r⟩:=rs.one;cases r;split at w
   ·rename_i hz;exact .inl ⟨_,rfl,hz,w _ J H 312 (.int _)⟩
   ·exact w.elim
  ·obtain⟨v,rfl,r⟩:=rs.one;obtain⟨xs,q,w⟩:=kg w;obtain⟨p,vs,rfl,hq,hs⟩:=mz hp r q;have w':=w (.int vs.length) J H 312 (by rw[hs.length];exact .int _);exact .inr ⟨p,vs,rfl,by rw[hK];exact hq,w'⟩
  ·exact w.elim) PySem.boot_len hm ha hg 120 120 he hpl⟩
theorem fB{gs:338}(ha:kB X c (e::es) gs)(hm:X.mg "tuple"=none)(hK:375)(hg:autoParam (Gl X "tuple") zzA._auto_1)
 (he:153) (hpl:autoParam ((Wr pos 319).any (·.1)=false) zzA._auto_1):QD X c (.Call (.Name "tuple" p) (e::es) [] pos) (gN f7 gs):=have ha:=ha.h;⟨
 o4 nS (by
  intro He J H xs vs Q hp rs w;unfold f7 at w;split at w
  ·obtain⟨v,rfl,r⟩:=rs.one;rename_i r0;obtain⟨xs,q,w⟩:=kg w;cases r0 with
   |d y=>
    cases y with
    |tup ys=>
     cases q;cases r with
     |tup h hs=>exact⟨_,_,rfl,.inr ⟨by rw[hK];exact gA hp.sub h,w _ J H 312 (.tup h hs)⟩⟩
    |lst ys=>
     cases q;obtain⟨p,vs,rfl,hq,hs⟩:=RR.list hp r rfl;exact⟨p,vs,rfl,.inl ⟨by rw[hK];exact hq,λl hl=>w _ _ _ (Ext.newJ hp.sub hl _) (kX hp hl hs)⟩⟩
    |_=>cases q
   |o _ _ _=>cases q
   |l m ys=>
    cases q;obtain⟨p,vs,rfl,hq,hs⟩:=RR.list hp r rfl;exact⟨p,vs,rfl,.inl ⟨by rw[hK];exact hq,λl hl=>w _ _ _ (Ext.newJ hp.sub hl _) (kX hp hl hs)⟩⟩
  ·exact w.elim) qy hm ha hg 120 120 he hpl⟩
theorem nJ{p:Pos}{gs:338}(ha:kB X c (e::es) gs)(hm:X.mg "list"=none)(hK:375)(hg:autoParam (Gl X "list") zzA._auto_1)
  (he:153) (hpl:autoParam ((Wr pos 319).any (·.1)=false) zzA._auto_1):QD X c (.Call (.Name "list" p) (e::es) [] pos) (gN lD gs):=have ha:=ha.h;⟨
 o4 yt (by
  intro He J H xs vs Q hp rs w;unfold lD at w;split at w
  ·obtain⟨v,rfl,r⟩:=rs.one;obtain⟨xs,q,w⟩:=kg w;obtain⟨p,vs,rfl,hq,hs⟩:=mz hp r q;exact⟨p,vs,rfl,by rw[hK];exact hq,λl hl=>w _ _ _ (Ext.new hp.sub hl _) (jE hp hl hs)⟩
  ·exact w.elim) Ci hm ha hg 120 120 he hpl⟩
theorem mV(h:QD X c e g)(he:∀whole,acn e X.env whole=(do let v <-whole;Ye e.pos;holding [v] (truthy v)):=by intro _;rfl):QB X c e (aK g):=have h:=h.h;⟨ue (N8 h he) λσ H Q ⟨J,env,sr,w⟩=>by
 refine⟨J,env,sr,aB (aH w) λr wr v J1 H1 e1 r1=>?_⟩;split at wr
 ·cases r1;exact⟨_,rfl,wr J1 H1 e1⟩
 ·exact wr.elim⟩
theorem jn{f:R->R->M R}(ho:dU X (W9 op) r)(hf:BD c r f)(ha:358)(hb:QD X c b gb)(hm:We op b=false:=by first|exact zh _|rfl):QB X c (.Compare a [op] [b] pos) (aK (g2 f ga gb)):=⟨kQ ho hf ha.h hb.h hm⟩
variable{t u:G Bool}{rest:List VC}
theorem fD(h:yb X c e t):QB X c e t:=have h:=h.h;⟨PW.pt h⟩
theorem jm(h:QB X c a t):yb X c (.BoolOp .And [a] pos) t:=have h:=h.h;⟨LF h⟩
theorem jo(h:QB X c a t):yb X c (.BoolOp .Or [a] pos) t:=have h:=h.h;⟨Oc h⟩
theorem j6(h:QB X c a t)(h':yb X c (.BoolOp .And (b::rest) pos) u):yb X c (.BoolOp .And (a::b::rest) pos) (bK t u):=have h:=h.h;have h':=h'.h;⟨JE (Ob h h') λσ H Q ⟨J,env,sr,w⟩=>by
 refine⟨J,env,sr,aB (aH w) λk wk J1 H1 e1=>?_⟩;cases k with
 |true=>
  rw[if_pos rfl]at wk ⊢;exact⟨J1,env,sr.ext e1,aB wk λk q J2 H2 e2=>q J2 H2 (e1.trans e2)⟩
 |false=>
  rw[if_neg 120]at wk ⊢;exact wk J1 H1 e1⟩
theorem iy(h:QB X c a t)(h':yb X c (.BoolOp .Or (b::rest) pos) u):yb X c (.BoolOp .Or (a::b::rest) pos) (bY t u):=have h:=h.h;have h':=h'.h;⟨JE (Pp h h') λσ H Q ⟨J,env,sr,w⟩=>by
 refine⟨J,env,sr,aB (aH w) λk wk J1 H1 e1=>?_⟩;cases k with
 |true=>
  rw[if_pos rfl]at wk ⊢;exact wk J1 H1 e1
 |false=>
  rw[if_neg 120]at wk ⊢;exact⟨J1,env,sr.ext e1,aB wk λk q J2 H2 e2=>q J2 H2 (e1.trans e2)⟩⟩
theorem pZ(h:QB X c a t):QB X c (.UnaryOp .Not a pos) (bD t):=have h:=h.h;⟨ue (N7 h) λσ H Q ⟨J,env,sr,w⟩=>⟨J,env,sr,aB (aH w) λk wk J1 H1 e1=>wk J1 H1 e1⟩⟩
theorem nG{op}(h:358):QD X c (.BoolOp op [a] pos) ga:=have h:=h.h;⟨N2 h⟩
theorem p_(h:358)(h':QD X c (.BoolOp .And (b::rest) pos) gb):QD X c (.BoolOp .And (a::b::rest) pos) (bz ga gb):=have h:=h.h;have h':=h'.h;⟨dX (NW h h') λσ H Q ⟨J,env,sr,w⟩=>by
 refine⟨J,env,sr,aB (aH w) λr wr v J1 H1 e1 r1=>?_⟩;split at wr
 ·cases r1;exact⟨true,rfl,Np ⟨J1,env,sr.ext e1,aB wr λz q v J2 H2 e2 r2=>q v J2 H2 (e1.trans e2) (RR.from e1.h r2)⟩⟩
 ·cases r1;exact⟨false,rfl,Nn (wr _ J1 H1 e1 (.bl _))⟩
 ·exact wr.elim⟩
theorem Bv(h:358):QD X c (.UnaryOp .Not a pos) (bC ga):=have h:=h.h;⟨dX (N1 h) λσ H Q ⟨J,env,sr,w⟩=>by
 refine⟨J,env,sr,aB (aH w) λr wr v J1 H1 e1 r1=>?_⟩;split at wr
 ·cases r1;exact⟨_,rfl,wr _ J1 H1 e1 (.bl _)⟩
 ·exact wr.elim⟩
theorem LI{x:VC}(hx:QB X c x t)(h:358)(h':QD X c b gb):QD X c (.IfExp x a b pos) (Qi t ga gb):=have hx:=hx.h;have h:=h.h;have h':=h'.h;⟨dX (HQ hx h h') λσ H Q ⟨J,env,sr,w⟩=>by
 refine⟨J,env,sr,aB (aH w) λk wk J1 H1 e1=>?_⟩;cases k with
 |true=>
  rw[if_pos rfl]at wk ⊢;exact⟨J1,env,sr.ext e1,aB wk λz q v J2 H2 e2 r2=>q v J2 H2 (e1.trans e2) (RR.from e1.h r2)⟩
 |false=>
  rw[if_neg 120]at wk ⊢;exact⟨J1,env,sr.ext e1,aB wk λz q v J2 H2 e2 r2=>q v J2 H2 (e1.trans e2) (RR.from e1.h r2)⟩⟩
end
section
variable{X:Cx}{c:C}{e a b tg:VC}{es:List VC}{ga gb g:G R}{pos:Pos}{st:Xq}{rest:List Xq}{t u:G O}{tb:G Bool}
theorem a_:lq X c [] bh:=⟨o7 vo λE σ H ⟨J,env,sr,w⟩=>w σ J H (aY.refl J) sr⟩
theorem ao(h:ig X c st t)(h':lq X c rest u):lq X c (st::rest) (av t u):=have h:=h.h;have h':=h'.h;⟨o7 (kT h h') λE σ H ⟨J,env,sr,w⟩=>by
 refine⟨J,env,sr,aB (aH w) λo wo=>?_⟩;cases o with
 |nx e=>exact λσ' J' H' s' sr'=>⟨J',e,sr',aB wo λo q=>q.mono s'⟩
 |rt r=>exact wo
 |bk e=>exact wo
 |ct e=>exact wo⟩
theorem aA(h:ig X c st t):lq X c [st] t:=have h:=h.h;⟨jk h⟩
theorem Dm:ig X c (.Break pos) Jl:=⟨fK HZ λE σ H ⟨J,env,sr,w⟩=>w σ J H (aY.refl J) sr⟩
theorem aQ(h:QD X c e g):ig X c (.Return (some e) pos) (aO g):=have h:=h.h;⟨fK (FL h) λE σ H ⟨J,env,sr,w⟩=>by
 refine⟨J,env,sr,aB (aH w) λr wr v J1 H1 e1 r1=>?_⟩;cases q:rF r with
 |bad=>rw[q]at wr;exact wr.elim
 |exc x=>cases r with
  |d _=>cases q
  |l m _=>cases m<;>cases q
  |o m _ _=>cases m<;>cases q
 |ok r'=>rw[q]at wr;exact wr v J1 H1 e1.j 377 (RR.rf sr.hp r1 q)⟩
theorem bg{x:VC}{as bs:List Xq}(hx:QB X c x tb)(h:lq X c as t)(h':lq X c bs u):ig X c (.If x as bs pos) (aM tb t u):=have hx:=hx.h;have h:=h.h;have h':=h'.h;⟨fK (Dl hx h h') λE σ H ⟨J,env,sr,w⟩=>by
 refine⟨J,env,sr,aB (aH w) λk wk J1 H1 e1=>?_⟩;cases k with
 |true=>
  rw[if_pos rfl]at wk ⊢;exact⟨J1,env,sr.ext e1,aB wk λo q=>q.mono e1.j⟩
 |false=>
  rw[if_neg 120]at wk ⊢;exact⟨J1,env,sr.ext e1,aB wk λo q=>q.mono e1.j⟩⟩
theorem aP(i:Nat){x:Str}{pos':Pos}(hN:X.N.Nodup)(h:QD X c e g)(hi:autoParam (X.N[i]?=some x) zzA._auto_1)(hx:Loc X.env.scope x:=by first|exact Yc rfl|exact Xa rfl)(hs:autoParam (Xj e (some (.Name x pos')) pos.line X.env=pure false) zzA._auto_1)
  (hf:151:=by first|exact .inl rfl|exact .inr rfl):ig X c (.Assign [.Name x pos'] e pos) (aN i g):=have h:=h.h;⟨fK (mR hN hi hx h hs hf) λE σ H ⟨J,env,sr,w⟩=>by
 refine⟨J,env,sr,aB (aH w) λr wr v J1 H1 e1 r1=>?_⟩;obtain⟨x,q,wr⟩:=qk wr;exact wr (σ.set i (some v)) J1 H1 e1.j (sr.set e1 r1 q)⟩
theorem aV(i:Nat){x:Str}(hN:X.N.Nodup)(hi:autoParam (X.N[i]?=some x) zzA._auto_1)(hx:Loc X.env.scope x:=by first|exact Yc rfl|exact Xa rfl)(hf:151:=by first|exact .inl rfl|exact .inr rfl):sL X c (.Name x pos) (aJ i):=⟨
 JC (Lx hN hi hx hf) λv σ H Q ⟨J,env,d,sr,rd,w⟩=>w _ (sr.setD (x:=.d d) rd λx z=>by cases x<;>cases z) λj xs q=>by
  rcases fQ q with⟨_,_,e⟩|⟨hj,q⟩
  ·cases xs<;>cases e
  ·exact⟨q,Vd (VF hj)⟩⟩
theorem gQ:BZ X c [] iY:=⟨FE Ly λvs σ H Q ⟨J,env,ds,sr,rd,w⟩=>by
 cases rd with
 |nil=>exact⟨rfl,w σ sr KO.refl⟩
 |cons _ _=>exact w.elim⟩
theorem cO{t:GT}{u:sE}(h:sL X c e t)(h':BZ X c es u)(hs:autoParam ((XC (e::es) X.env).map (·.2)=assign e X.env::(XC es X.env).map (·.2)) zzA._auto_1):BZ X c (e::es) (c5 t u):=have h:=h.h;have h':=h'.h;⟨
 FE (HV h h' hs) λvs σ H Q ⟨J,env,ds,sr,rd,w⟩=>by
  cases rd with
  |nil=>exact w.elim
  |cons r rs=>
   refine⟨_,_,rfl,J,env,_,sr,r,aB (aH w) λe1 w1 σ' sr' ko=>?_⟩;exact⟨J,e1,_,sr',rs,aB w1 λe2 q σ2 sr2 ko2=>q σ2 sr2 (ko.trans ko2)⟩⟩
theorem iJ{k:Nat}{u:sE}{n:Nat}(h:BZ X c es u)(hc:autoParam (X.calm=true) zzA._auto_1)(hK:375)(hn:autoParam ((XC es X.env).length=n) zzA._auto_1)(hst:autoParam ((XC es X.env).findIdx? (·.1)=none) zzA._auto_1):sL X c (.Tuple es k pos) (iE n u):=have h:=h.h;⟨
 JC (N4 hc h hn hst) λv σ H Q ⟨J,env,d,sr,rd,w⟩=>by
  cases rd with
  |tup h1 h2=>
   unfold iE at w;simp only at w;split at w
   ·rename_i hl;exact⟨_,_,rfl,by rw[hK];exact gA sr.hp.sub h1,by rw[<-h2.length];exact hl,J,env,_,sr,h2,w⟩
   ·exact w.elim
  |_=>exact w.elim⟩
theorem dj{UA:VC}{body:List Xq}{gi:244}{t:GT}(hi:D6 X c tg UA gi)(ht:sL X c tg t)(hb:lq X c body u)(hp:adO 126 X.A X.env X.xe:=by first|exact adU|exact ac4)(hc:autoParam (X.calm=true) zzA._auto_1)
  (hs:∀x,W3 UA X.env x=pure x:=by intro _;rfl):ig X c (.For tg UA body [] pos) (d8 gi t u):=have hi:=hi.h;have ht:=ht.h;have hb:=hb.h;⟨fK (N6 hp hc hi ht hb hs) λE σ H ⟨J,env,sr,w⟩=>by
 refine⟨J,env,sr,aB (aH w) λds wd It J1 H1 e1 wk=>?_⟩;refine⟨λi m σ H=>m=ds.length-i/\∃J' env,aY J1 J'/\SR c J' H σ env/\cJ (dR t u (ds.drop i) env) (oP c J' E) c.T,
  ⟨ds.length,by simp,J1,env,aY.refl J1,sr.ext e1,by rw[ab6];exact aB wd λo q=>q.mono e1.j⟩,?_⟩
 rintro i m σ H ⟨rfl,J',env,s',sr',w'⟩;obtain⟨w1,w2⟩:=wk i J' H sr'.hp s';by_cases hlt:i<ds.length
 ·obtain⟨g1,y1⟩:=w2 ds[i] (by simp[hlt]);rw[W7 hlt]at w';refine .inr ⟨g1,λσ2 H2=>∃J2 env2,aY J' J2/\SR c J2 H2 σ2 env2/\cJ (dR t u (ds.drop (i+1)) env2) (oP c J2 E) c.T,?_,?_⟩
  ·rintro σ2 H2 ⟨J2,env2,s2,sr2,w2⟩;exact⟨ds.length-(i+1),by omega,rfl,J2,env2,s'.trans s2,sr2,w2⟩
  ·intro x H2 hy;obtain⟨J2,e2,rx⟩:=y1 x H2 hy;refine⟨J2,env,ds[i],sr'.ext e2,rx,aB (aH w') λenv3 w3 σ3 sr3 _=>?_⟩;refine⟨J2,env3,sr3,aB (aH w3) λo wo=>?_⟩;cases o with
   |nx env4=>exact λσ4 J4 H4 s4 sr4=>⟨J4,env4,e2.j.trans s4,sr4,aB wo λo q=>q.mono (e2.j.trans s4)⟩
   |ct env4=>exact λσ4 J4 H4 s4 sr4=>⟨J4,env4,e2.j.trans s4,sr4,aB wo λo q=>q.mono (e2.j.trans s4)⟩
   |bk env4=>exact λσ4 J4 H4 s4 sr4=>wo σ4 J4 H4 (e2.j.trans s4) sr4
   |rt r=>exact λv J4 H4 s4 h4 r4=>wo v J4 H4 (e2.j.trans s4) h4 r4
 ·rw[Yq 112]at w';exact .inl ⟨w1 112,w' σ J' H (aY.refl J') sr'⟩⟩
theorem cU{p:Pos}{gs:338}(ha:kB X c [a] gs)(hm:X.mg "range"=none)(hg:autoParam (Gl X "range") zzA._auto_1)(hs:autoParam (UP [a] X.env=[(false,eval a X.env)]) zzA._auto_1):D6 X c tg (.Call (.Name "range" p) [a] [] pos) (dQ gs):=have ha:=ha.h;⟨
 xK (FG hg hm ha hs) λσ H Q ⟨J,env,sr,w⟩=>by
  refine⟨J,env,sr,aB (aH w) λrs wr vs J1 H1 e1 r1=>?_⟩;split at wr
  ·split at wr
   ·rename_i h;obtain⟨v,rfl,r⟩:=r1.one;cases r;have h:=fm.mp h;exact⟨_,rfl,Int.le_of_lt h.1,h.2,wr _ J1 H1 e1 DM⟩
   ·exact wr.elim
  ·exact wr.elim⟩
theorem nE{gi:244}(h:D6 X c tg e gi):D5 X c tg e gi:=have h:=h.h;⟨xK h λσ H Q ⟨J,env,sr,w⟩=>
 ⟨J,env,sr,aB w λds q It J1 H1 e1 wk=>q It J1 H1 e1 λi J' H' hp u=>wk i J' H' hp u.1⟩⟩
end
section
variable{X:Cx}{c:C}{e a b tg:VC}{es:List VC}{ga gb g:G R}{pos:Pos}
theorem fz(i:Nat){x:Str}{p1 p2 pos':Pos}(h:QD X c e g)(hN:autoParam (X.N[i]?=some x) zzA._auto_1)(hv:jK X.env.scope x:=by first|exact Yc rfl|exact Xa (Yc rfl)|exact Xa (Xa rfl))(hd:141)
  (hcd:autoParam ((x==306)=false) zzB._auto_1)
  (hbase:autoParam (WH (.Name x p1) "append" X.env (eval (.Name x p1) X.env)=eval (.Name x p1) X.env) zzA._auto_1)
  (hfew:autoParam (((Wr pos' (UP [e] X.env)).all (λx=>!x.1)&&(acy pos' (Z7 [] X.env)).all (λx=>x.1.isSome)
   && decide (([e]:List VC).length+([]:List adR).length+(if([]:List adR).isEmpty then 0 else 1)<30))=true) zzA._auto_1)
  (hline:autoParam ((p2.endLine==pos'.line)=true) zzA._auto_1) (hst:autoParam 326 zzA._auto_1) (hplain:autoParam ((Wr pos' (UP [] X.env)).any (·.1)=false) zzA._auto_1)
  (hs:autoParam (Xj (.Call (.Attribute (.Name x p1) "append" p2) [e] [] pos') none pos.line X.env=pure false) zzA._auto_1):ig X c (.Expr (.Call (.Attribute (.Name x p1) "append" p2) [e] [] pos') pos) (eG i g):=have h:=h.h;⟨
 fK (vn (Jz Zl PySem.F.slot_list_append PySem.F.type_list_append vX (eK hN hv hd hcd) (ez h gM hst) hbase hfew hline hst hplain) hs) λE σ H ⟨J,env,sr,w⟩=>by
  unfold eG at w;split at w
  ·rename_i xs hi;obtain⟨v,h1,a,vs,rfl,h2,h3,h4,h5⟩:=sr.at_ i _ hi;refine⟨.ref a,h1,.inl ⟨rfl,vs,cY.of h2⟩,?_⟩;refine⟨J,env,sr,aB (aH w) λr wr y J1 H1 e1 r1=>?_⟩;obtain⟨d,q,wr⟩:=kh wr;obtain⟨J2,e2,s2,rd⟩:=freeze e1 r1 q;split at wr
   ·rename_i hz;refine⟨a,vs,y,rfl,rfl,e2.h _ _ h2,by rw[<-h5.length];exact hz,?_⟩;refine wr σ J2 _ e2.j ?_;exact(sr.ext e2).upd hi h1 (e2.h _ _ h2) (e2.frz a (by rw[h2];intro z;cases z) h3) h4 ((h5.mono e2.j).append (.cons rd .nil))
   ·exact wr.elim
  ·exact w.elim⟩
end
section
variable{X:Cx}{c:C}
theorem dB:uP X c [] f_:=⟨λUx s σ H Q I ⟨J,env,sr,w⟩=>wpAny_tests_nil ⟨H,I,w J H (Ext.refl sr.hp.sub)⟩⟩
theorem lM{g:G Bool}(h:QB X c x g):uP X c [x] g:=have h:=h.h;⟨λUx s σ H Q I q=>wpAny_tests_one (h Ux s σ H Q I q)⟩
end
section
variable{K:UG}{J:Hp}{s:UI}
variable{X:Cx}{c:C}{e a b tg:VC}{es:List VC}{ga gb g:G R}{pos:Pos}
theorem mW(hu:337)(ha:358)(hb:QD X c b gb)(hK:375):QD X c (.Compare a [.Eq] [b] pos) (g2 159 ga gb):=have ha:=ha.h;have hb:=hb.h;⟨t_ (Fj hu) (B9 false hK) ha hb⟩
theorem bG(hu:337)(ha:358)(hb:QD X c b gb)(hK:375):QB X c (.Compare a [.Eq] [b] pos) (aK (g2 159 ga gb)):=have ha:=ha.h;have hb:=hb.h;⟨kQ (Fj hu) (B9 false hK) ha hb⟩
theorem uf(hu:337)(ha:358)(hb:QD X c b gb)(hK:375):QB X c (.Compare a [.NotEq] [b] pos) (aK (g2 (bB true) ga gb)):=have ha:=ha.h;have hb:=hb.h;⟨kQ (NQ hu) (B9 true hK) ha hb⟩
theorem pe(hu:337)(ha:358)(hb:QD X c b gb)(hK:375)(hm:autoParam (We .In b=false) zzA._auto_1):QD X c (.Compare a [.In] [b] pos) (g2 (gn false) ga gb):=have ha:=ha.h;have hb:=hb.h;⟨t_ (Fo hu) (B_ false hK) ha hb hm⟩
theorem FO(hu:337)(ha:358)(hb:QD X c b gb)(hK:375)(hm:autoParam (We .In b=false) zzA._auto_1):QB X c (.Compare a [.In] [b] pos) (aK (g2 (gn false) ga gb)):=have ha:=ha.h;have hb:=hb.h;⟨kQ (Fo hu) (B_ false hK) ha hb hm⟩
theorem lK(hu:337)(ha:358)(hb:QD X c b gb)(hK:375)(hm:autoParam (We .NotIn b=false) zzA._auto_1):QB X c (.Compare a [.NotIn] [b] pos) (aK (g2 (gn true) ga gb)):=have ha:=ha.h;have hb:=hb.h;⟨kQ (Fq hu) (B_ true hK) ha hb hm⟩
end
section
variable{X:Cx}{c:C}{e a b tg:VC}{es:List VC}{ga gb g:G R}{pos:Pos}
theorem iO:IU X c none qC:=⟨JD Lz λσ H Q ⟨J,env,sr,w⟩=>w J H (Ext.refl sr.hp.sub)⟩
theorem fC(h:QD X c e g):IU X c (some e) (lE g):=have h:=h.h;⟨JD (LA h) λσ H Q ⟨J,env,sr,w⟩=>by
 refine⟨J,env,sr,aB (aH w) λr wr v J1 H1 e1 r1=>?_⟩;split at wr
 ·cases r1;exact⟨_,rfl,wr J1 H1 e1⟩
 ·exact wr.elim⟩
theorem um{p:Pos}{gs:338}(ha:kB X c (e::es) gs)(hm:X.mg "sorted"=none)(hK:375)(hg:autoParam (Gl X "sorted") zzA._auto_1)
  (he:153) (hpl:autoParam ((Wr pos 319).any (·.1)=false) zzA._auto_1):QD X c (.Call (.Name "sorted" p) (e::es) [] pos) (gN jU gs):=have ha:=ha.h;⟨
 rX yu (by
  intro He J H xs vs Q hp rs w;unfold jU at w;split at w
  ·obtain⟨v,rfl,r⟩:=rs.one;obtain⟨xs,q,w⟩:=kc w;obtain⟨p,vs,rfl,h1,h2⟩:=RR.list hp r q;split at w
   ·rename_i ss z;split at w
    ·rename_i hl;have:=jQ z h2;subst this;refine⟨p,ss,rfl,by rw[hK];exact h1,hl,λss' hp' hs' l hl'=>?_⟩;rw[uC hp' hs'];exact w _ _ _ (Ext.new hp.sub hl' _) (jE hp hl' (pA _))
    ·exact w.elim
   ·exact w.elim
  ·exact w.elim) oE hm ha hg 120 120 he hpl⟩
theorem cg(ha:358)(hb:QD X c b gb):QD X c (.BinOp a .Add b pos) (g2 bZ ga gb):=by
 have ha:=ha.h;have hb:=hb.h;refine⟨?_⟩;have h1:BD c (pq λi j=>.int (i+j)) G4:=iA λ_ _ _=>.int _;have q:=lJ (pos:=pos) (Ff.or (t9.or Fg)) (BD.or (c:=c) (λx _=>EO x) h1 (BD.or (c:=c) (λx _=>Nl x) (f:=sX) (f':=sY) (by
  intro He He' J H x y u v Q hp rx ry w;unfold sX at w;split at w
  ·cases rx;cases ry;split at w
   ·rename_i h;exact⟨_,_,rfl,rfl,h,w _ J H 312 (.str _)⟩
   ·exact w.elim
  ·exact w.elim) (by
  intro He He' J H x y u v Q hp rx ry w;unfold sY at w;split at w
  ·rename_i hm;rw[Vg]at hm;obtain⟨p,vs,xs,e1,rfl,h1,s1⟩:=rx.made hm.1;obtain⟨p2,vs2,ys,e2,rfl,h2,s2⟩:=ry.made hm.2;rw[e1,e2]at w;simp only[aT]at w;split at w
   ·rename_i hz;rw[s1.length,s2.length]at hz;exact⟨p,p2,vs,vs2,rfl,rfl,h1,h2,hz,λq hq=>w _ J _ (Ext.new hp.sub hq _) (jE hp hq (s1.append s2))⟩
   ·exact w.elim
  ·exact w.elim))) ha hb
 exact q
theorem d7(ha:358)(hb:QD X c b gb):QD X c (.BinOp a .Mult b pos) (g2 cW ga gb):=by
 have ha:=ha.h;have hb:=hb.h;refine⟨?_⟩;have h1:BD c (rI BK λi j=>.int (i*j)) M5:=B8 (λi j h=>KY h) λ_ _ _=>.int _;exact lJ (pos:=pos) (NP.or Lf) (BD.or (c:=c) (λx _=>EO x) h1 (f':=Cu) (by
  intro He He' J H x y u v Q hp rx ry w;unfold Cu at w;split at w
  ·cases rx;cases ry;split at w
   ·rename_i h;exact⟨_,_,rfl,rfl,h.1,h.2.1,h.2.2,w _ J H 312 (.str _)⟩
   ·exact w.elim
  ·exact w.elim)) ha hb
theorem au(ha:358)(hb:QD X c b gb)(hK:375)(hs:pM b:=by exact λ_ _=>rfl):QD X c (.Subscript a b pos) (g2 aI ga gb):=have ha:=ha.h;have hb:=hb.h;⟨Pe Nq (by
 intro He He' J H x y u v Q hp rx ry w;rw[hK];unfold aI at w;split at w
 ·cases rx;cases ry;split at w
  ·rename_i h;split at w
   ·rename_i k hk;exact .inr (.inr ⟨_,_,k,rfl,rfl,h,hk,w _ J H 312 (.str _)⟩)
   ·exact w.elim
  ·exact w.elim
 ·cases ry;obtain⟨xs,q,w⟩:=kg w;obtain⟨p,vs,rfl,hl,hs⟩:=mz hp rx q;split at w
  ·rename_i d hd;obtain⟨z,h1,h2⟩:=LR hs hd;have fin:=w z J H 312 h2;rcases hl with hl|hl
   ·exact .inl ⟨p,vs,_,z,rfl,rfl,hl,h1,fin⟩
   ·exact .inr (.inl ⟨p,vs,_,z,rfl,rfl,hl,h1,fin⟩)
  ·exact w.elim
 ·exact w.elim) ha hb hs⟩
theorem aX{F:234}{gs:338}(G:bW X.prog X.w X.K X.mg X.base k n x F)(hr:cG k' X.A)(ha:kB X c (e::es) gs)(hk:autoParam (k<=k') zzB._auto_1)(hT:autoParam (c.K=X.K) zzA._auto_1)(hg:autoParam (Gl X x) zzA._auto_1)(hdb:141)
 (he:153) (hpl:autoParam ((Wr pos 319).any (·.1)=false) zzA._auto_1):QD X c 205 (gN (aD n F) gs):=by have ha:=ha.h;refine⟨?_⟩;obtain⟨f,fd,ps,h1,h2,h3,h4⟩:=G;exact Lm h1 (hr.mono hk) h2 h3 h4 ha hT hg hdb he hpl
theorem nF(h:QD X c e g)(ht:sL X c tg t)(hs:autoParam (ZU [tg] e pos.line X.env=pure false) zzA._auto_1)(hw:autoParam (aaQ [tg] e X.env=pure none) zzA._auto_1)
 (h1:autoParam ((XC [tg] X.env).map (·.2)=[assign tg X.env]) zzA._auto_1):ig X c (.Assign [tg] e pos) (oK t g):=have h:=h.h;have ht:=ht.h;⟨Li h ht (zu h ht hs hw h1)⟩
theorem Dq{T:String}{Ts:Str}{p p2:Pos}(kit:IM T)(hT:Wy Ts=some (.type T))(mT:X.mg Ts=none)
  (h:QD X c a g) (hm:X.mg "isinstance"=none) (hK:375) (hg:autoParam (Gl X "isinstance") zzA._auto_1) (Sw:autoParam (Gl X Ts) zzA._auto_1) (hn:autoParam (Ts≠"__name__") zzB._auto_1) (gz:autoParam ((Ts==389)=false) zzB._auto_1)
  (he:autoParam (UP [a,.Name Ts p2] X.env=(false,eval a X.env)::UP [.Name Ts p2] X.env) zzA._auto_1) (Sv:autoParam (UP [.Name Ts p2] X.env=(false,eval (.Name Ts p2) X.env)::UP [] X.env) zzA._auto_1)
  (hpl:autoParam ((Wr pos (UP [.Name Ts p2] X.env)).any (·.1)=false) zzA._auto_1):QD X c (.Call (.Name "isinstance" p) [a,.Name Ts p2] [] pos) (cP T g):=have h:=h.h;⟨
 dX (kR (Ae kit) hg hm 180 (ez h (ez (Bm Sw mT hT (v:=.ty T) rfl hn gz) gM Sv) he) 120 120 he hpl) λσ H Q ⟨J,env,sr,w⟩=>by
  refine⟨J,env,sr,aB (aH w) λr wr v J1 H1 e1 r1=>?_⟩;exact⟨r.dat,v,rfl,by rw[hK];exact r1.dat 377,wr _ J1 H1 e1 (.bl _)⟩⟩
theorem gO(ha:358)(hb:QD X c b gb)(hK:375):QD X c (.BinOp a .Add b pos) (g2 fJ ga gb):=by
 have ha:=ha.h;have hb:=hb.h;refine⟨?_⟩;have h1:BD c (pq λi j=>.int (i+j)) G4:=iA λ_ _ _=>.int _;exact lJ (pos:=pos) (Fi.or (Ff.or (t9.or Fg))) (BD.or (c:=c) (λx _=>Nm x) (Kf hK) (BD.or (c:=c) (λx _=>EO x) h1 (BD.or (c:=c) (λx _=>Nl x) (f:=sX) (f':=sY) (by
  intro He He' J H x y u v Q hp rx ry w;unfold sX at w;split at w
  ·cases rx;cases ry;split at w
   ·rename_i h;exact⟨_,_,rfl,rfl,h,w _ J H 312 (.str _)⟩
   ·exact w.elim
  ·exact w.elim) (by
  intro He He' J H x y u v Q hp rx ry w;unfold sY at w;split at w
  ·rename_i hm;rw[Vg]at hm;obtain⟨p,vs,xs,e1,rfl,h1,s1⟩:=rx.made hm.1;obtain⟨p2,vs2,ys,e2,rfl,h2,s2⟩:=ry.made hm.2;rw[e1,e2]at w;simp only[aT]at w;split at w
   ·rename_i hz;rw[s1.length,s2.length]at hz;exact⟨p,p2,vs,vs2,rfl,rfl,h1,h2,hz,λq hq=>w _ J _ (Ext.new hp.sub hq _) (jE hp hq (s1.append s2))⟩
   ·exact w.elim
  ·exact w.elim)))) ha hb
theorem iN{lo hi:Option VC}{gl gh:GO}{p2:Pos}(h:QD X c e g)(hl:IU X c lo gl)(hh:IU X c hi gh)(hK:375):QD X c (.Subscript e (.Slice lo hi none p2) pos) (mG ji g gl gh):=have h:=h.h;have hl:=hl.h;have hh:=hh.h;⟨Pf (F7.or L5) (by
 intro He J H x v l u Q hp rx w;unfold ji at w;split at w
 ·exact .inl (Q5 hK He J H x v l u Q hp rx w)
 ·obtain⟨xs,q,w⟩:=kc w;obtain⟨p,vs,rfl,h1,h2⟩:=rx.list hp q;exact .inr ⟨p,vs,rfl,by rw[hK];exact h1,λp' hp'=>w _ _ _ (Ext.new hp.sub hp' _) (jE hp hp' (h2.cut l u))⟩) h hl hh⟩
theorem LL{st:VC}{p2:Pos}(h:QD X c e g)(hst:PE X st (tC (.int (-1))))(hK:375):QD X c (.Subscript e (.Slice none none (some st) p2) pos) (M9 g):=by
 have h:=h.h;refine⟨?_⟩;intro Ux s σ H Q I ⟨J,env,sr,w⟩;refine acP (bO (h Ux s σ H (λv H1=>∃a xs,v=.ref a/\eZ X.K H1 a xs/\∀p,H1 p=none->Q (.ref p) (upd H1 p (.tup xs.reverse))) I ⟨J,env,sr,aB (aH w) λr wr v J1 H1 e1 r1=>?_⟩) λv s1 ⟨x,H1,I1,r1,a,xs,hx,hq,q⟩=>?_)
 ·split at wr
  ·cases r1 with
   |tup h1 s1=>
    exact⟨_,_,rfl,by rw[hK];exact gA e1.sub h1,λp hp'=>wr _ _ _ (e1.trans (Ext.newJ e1.sub hp' _)) (kX 377 hp' s1.rev)⟩
  ·exact wr.elim
 subst hx;cases r1;refine wpAny_Slice ?_;rw[acu];refine UJ (UJ ?_);rw[aeI];refine bO (hst Ux s1 σ H1 (λv H2=>v=.int (-1)/\H2=H1) I1 ⟨rfl,rfl⟩) λu s3 ⟨y,H3,I3,r3,hy,hH⟩=>?_;subst hy hH;obtain⟨k,rfl⟩:=r3;have I4:Inv X Ux σ H3 {s3 with heap:=s3.heap.push {cls:=.type "slice",data:=.fields #[.none,.none,.int (-1) k]}}:=I3.kept (t':=s3.toks) λb ob q=>UK _ q;obtain⟨Uy,r,ht,hz⟩:=I4.tuple hq;have hlen:=r.length;refine aeJ (ops:=[.ref a,.ref s3.heap.objs.size]) ht.typeIs Vx.lookup ?_ (by with_unfolding_all rfl);refine Gj ht (acv ..) ?_ (by rw[U5];omega);refine⟨.ref _,_,I4.laid (t':=s3.toks) (o:=.tup xs.reverse) (λb ob q=>UK _ q) (UW _) ?_,rfl,q _ (I4.hok.fresh (UW _))⟩;exact⟨by simpa using hz,_,r.reverse,adQ _ _,λo q=>by rw[US _ rfl]at q;cases q;rfl⟩
theorem o_(h:BR X.K X.mg x d)(hK:375)(hg:autoParam (Gl X x) zzA._auto_1)(hd:141):QD X c (.Name x pos) (gC d):=by refine⟨?_⟩;obtain⟨u,v,h1,h2,h3⟩:=h;exact Ln h1 h2 (λJ=>hK▸h3 J) hg hd
end
section
variable{X:Cx}{c:C}{e a b tg:VC}{es:List VC}{ga gb g:G R}{pos:Pos}{st:Xq}{t u:G O}{tb:G Bool}
theorem Dn:ig X c st Jk:=⟨λUx s σ H D I ⟨J,env,sr,w⟩=>w.elim⟩
theorem jq(h:QD X c a g):QD X c (.UnaryOp .USub a pos) (nh g):=have h:=h.h;⟨dX (JB Gq h) λσ H Q ⟨J,env,sr,w⟩=>by
 refine⟨J,env,sr,aB (aH w) λr wr v J1 H1 e1 r1=>?_⟩;split at wr
 ·cases r1;exact⟨_,rfl,wr _ J1 H1 e1 (.int _)⟩
 ·exact wr.elim⟩
theorem Bt(h:QD X c e g)(hK:375)(he:∀whole,acn e X.env whole=(do let v <-whole;Ye e.pos;holding [v] (truthy v)):=by intro _;rfl):QB X c e (G_ g):=have h:=h.h;⟨ue (Ia h he) λσ H Q ⟨J,env,sr,w⟩=>by
 refine⟨J,env,sr,aB (aH w) λr wr v J1 H1 e1 r1=>?_⟩;rw[hK];obtain⟨k,k1,k2⟩:=Mb 377 r1 wr;exact⟨k,k1,k2 J1 H1 e1⟩⟩
theorem Dp(n:Nat){body:List Xq}(ht:QB X c e tb)(hb:lq X c body u)(hp:adO 126 X.A X.env X.xe:=by first|exact adU|exact ac4):ig X c (.While e body [] pos) (yN n tb u):=have ht:=ht.h;have hb:=hb.h;⟨fK (H_ hp ht hb) λE σ H ⟨J,env,sr,w⟩=>by
 refine⟨λm σ H=>∃J' env,aY J J'/\SR c J' H σ env/\cJ (lg tb u m env) (oP c J' E) c.T,⟨n,J,env,aY.refl J,sr,w⟩,?_⟩;rintro m σ H ⟨J',env,s',sr',w'⟩;cases m with
 |zero=>exact w'.elim
 |succ m=>
  refine⟨J',env,sr',aB (aH w') λk wk J1 H1 e1=>?_⟩;cases k with
  |false=>
   rw[if_neg 120]at wk ⊢;exact wk σ J1 H1 e1.j (sr'.ext e1)
  |true=>
   rw[if_pos rfl]at wk ⊢;refine⟨λσ2 H2=>∃J2 env2,aY J1 J2/\SR c J2 H2 σ2 env2/\cJ (lg tb u m env2) (oP c J2 E) c.T,?_,?_⟩
   ·rintro σ2 H2 ⟨J2,env2,s2,sr2,w2⟩;exact⟨m,VS m,J2,env2,(s'.trans e1.j).trans s2,sr2,w2⟩
   ·refine⟨J1,env,sr'.ext e1,aB (aH wk) λo wo=>?_⟩;cases o with
    |nx env4=>exact λσ4 J4 H4 s4 sr4=>⟨J4,env4,s4,sr4,aB wo λo q=>q.mono (e1.j.trans s4)⟩
    |ct env4=>exact λσ4 J4 H4 s4 sr4=>⟨J4,env4,s4,sr4,aB wo λo q=>q.mono (e1.j.trans s4)⟩
    |bk env4=>exact λσ4 J4 H4 s4 sr4=>wo σ4 J4 H4 (e1.j.trans s4) sr4
    |rt r=>exact λv J4 H4 s4 h4 r4=>wo v J4 H4 (e1.j.trans s4) h4 r4⟩
theorem Ig(i j:Nat){x y:Str}{p1 p2 pos' pos'':Pos}(nd:X.N.Nodup)(hi:autoParam (X.N[i]?=some x) zzA._auto_1)(hx:Loc X.env.scope x:=by first|exact Yc rfl|exact Xa rfl)(hj:autoParam (X.N[j]?=some y) zzA._auto_1)
  (hv:jK X.env.scope y:=by first|exact Yc rfl|exact Xa (Yc rfl)|exact Xa (Xa rfl)) (hd:autoParam ((y==389)=false) zzB._auto_1) (hcd:autoParam ((y==306)=false) zzB._auto_1)
  (hbase:autoParam (WH (.Name y p1) "pop" X.env (eval (.Name y p1) X.env)=eval (.Name y p1) X.env) zzA._auto_1) (hline:autoParam ((p2.endLine==pos'.line)=true) zzA._auto_1)
  (hs:autoParam (Xj (.Call (.Attribute (.Name y p1) "pop" p2) [] [] pos') (some (.Name x pos'')) pos.line X.env=pure false) zzA._auto_1)
  (hf:151:=by first|exact .inl rfl|exact .inr rfl):ig X c (.Assign [.Name x pos''] (.Call (.Attribute (.Name y p1) "pop" p2) [] [] pos') pos) (yM i j):=⟨
 fK (mR nd hi hx (NX Zl PySem.F.slot_list_pop PySem.F.type_list_pop NI (eK hj hv hd hcd) hbase hline) hs hf) λE σ H ⟨J,env,sr,w⟩=>by
  unfold yM at w;split at w
  ·rename_i xs TR;split at w
   ·rename_i d SI;obtain⟨v,h1,p,vs,rfl,h2,h3,h4,h5⟩:=sr.at_ j _ TR;refine⟨.ref p,h1,.inl ⟨rfl,vs,cY.of h2⟩,?_⟩;obtain⟨z,hz,rz⟩:=h5.get SI;refine⟨p,vs,z,rfl,rfl,h2,by rw[<-h5.length];exact hz,?_⟩;have sr2:=sr.upd (xs':=xs.dropLast) (vs':=vs.dropLast) TR h1 h2 h3 h4 h5.dropLast;exact w (σ.set i (some z)) J _ (aY.refl J) (sr2.setD (x:=.d d) rz λx q=>by cases x<;>cases q)
   ·exact w.elim
  ·exact w.elim⟩
end
section
variable{X:Cx}{c:C}{e a b tg:VC}{es:List VC}{ga gb g:G R}{pos:Pos}
theorem Ao(i:Nat){x:Str}{p1 p2 pos':Pos}(h:QD X c e g)(hN:autoParam (X.N[i]?=some x) zzA._auto_1)(hv:jK X.env.scope x:=by first|exact Yc rfl|exact Xa (Yc rfl)|exact Xa (Xa rfl))(hd:141)
  (hcd:autoParam ((x==306)=false) zzB._auto_1)
  (hbase:autoParam (WH (.Name x p1) "extend" X.env (eval (.Name x p1) X.env)=eval (.Name x p1) X.env) zzA._auto_1)
  (hfew:autoParam (((Wr pos' (UP [e] X.env)).all (λx=>!x.1)&&(acy pos' (Z7 [] X.env)).all (λx=>x.1.isSome)
   && decide (([e]:List VC).length+([]:List adR).length+(if([]:List adR).isEmpty then 0 else 1)<30))=true) zzA._auto_1)
  (hline:autoParam ((p2.endLine==pos'.line)=true) zzA._auto_1) (hst:autoParam 326 zzA._auto_1) (hplain:autoParam ((Wr pos' (UP [] X.env)).any (·.1)=false) zzA._auto_1)
  (hs:autoParam (Xj (.Call (.Attribute (.Name x p1) "extend" p2) [e] [] pos') none pos.line X.env=pure false) zzA._auto_1) (hK:375):ig X c (.Expr (.Call (.Attribute (.Name x p1) "extend" p2) [e] [] pos') pos) (yL i g):=have h:=h.h;⟨
 fK (vn (Jz Zl PySem.F.slot_list_extend PySem.F.type_list_extend NH (eK hN hv hd hcd) (ez h gM hst) hbase hfew hline hst hplain) hs) λE σ H ⟨J,env,sr,w⟩=>by
  unfold yL at w;split at w
  ·rename_i xs hi;obtain⟨v,h1,a,vs,rfl,h2,h3,h4,h5⟩:=sr.at_ i _ hi;refine⟨.ref a,h1,.inl ⟨rfl,vs,cY.of h2⟩,?_⟩;refine⟨J,env,sr,aB (aH w) λr wr y J1 H1 e1 r1=>?_⟩;obtain⟨ys,q,wr⟩:=kg wr;split at wr
   ·rename_i hz;obtain⟨p,ws,rfl,hq,hs⟩:=mz 377 r1 q;refine⟨a,p,vs,ws,rfl,rfl,e1.h _ _ h2,by rw[hK];exact hq,by rw[<-h5.length,<-hs.length];exact hz,?_⟩;refine wr σ J1 _ e1.j ?_;exact(sr.ext e1).upd hi h1 (e1.h _ _ h2) (e1.frz a (by rw[h2];intro z;cases z) h3) h4 ((h5.mono e1.j).append hs)
   ·exact wr.elim
  ·exact w.elim⟩
theorem Of(ha:358)(hb:QD X c b gb):QD X c (.Compare a [.Is] [b] pos) (g2 (vM false) ga gb):=have ha:=ha.h;have hb:=hb.h;⟨t_ Fp (by
 intro He He' J H x y u v Q hp rx ry w;unfold vM at w;split at w
 ·rename_i o ho;refine⟨o,by rw[pW ry];exact ho,?_⟩;rw[pW rx];exact w _ J H 312 (.bl _)
 ·exact w.elim) ha hb⟩
theorem FP(ha:358)(hb:QD X c b gb):QB X c (.Compare a [.Is] [b] pos) (aK (g2 (vM false) ga gb)):=have ha:=ha.h;have hb:=hb.h;⟨kQ Fp (by
 intro He He' J H x y u v Q hp rx ry w;unfold vM at w;split at w
 ·rename_i o ho;refine⟨o,by rw[pW ry];exact ho,?_⟩;rw[pW rx];exact w _ J H 312 (.bl _)
 ·exact w.elim) ha hb⟩
end
section
variable{X:Cx}{c:C}{e a b tg i:VC}{es:List VC}{ga gb g:G R}{pos:Pos}
theorem zB{x:Str}{UC:List (Str×D)}{p:Pos}(h:sC X.K X.w X.mg x UC)(hi:QD X c i g)(hK:375)(hg:autoParam (Gl X x) zzA._auto_1)(hd:141)(hs:pM i:=by exact λ_ _=>rfl):QD X c (.Subscript (.Name x p) i pos) (Cz UC g):=by
 have hi:=hi.h;refine⟨?_⟩;obtain⟨a,us,h1,h2,h3,h4⟩:=h;refine dX (JA Hj (mP (v:=.ref a) hg h1 rfl hd) hi hs) λσ H Q ⟨J,env,sr,w⟩=>?_;refine⟨J,env,sr,aB (aH w) λr wr v J1 H1 e1 r1=>?_⟩;split at wr
 ·rename_i k;cases r1;split at wr
  ·rename_i d hd';obtain⟨u,v,k1,k2,k3⟩:=(h4.get k).1 d hd';exact⟨a,us,k,u,v,rfl,rfl,h3,k1,k2,wr v J1 H1 e1 (show Rep c.K J1 d v from hK▸k3 J1)⟩
  ·exact wr.elim
 ·exact wr.elim
theorem LH{x:Str}{UC:List (Str×D)}{p:Pos}(h:sC X.K X.w X.mg x UC)(ha:QD X c a g)(hg:autoParam (Gl X x) zzA._auto_1)(hd:141)(hm:autoParam (We .In (.Name x p)=false) zzA._auto_1):QB X c (.Compare a [.In] [.Name x p] pos) (aK (M8 false UC g)):=by
 have ha:=ha.h;refine⟨?_⟩;obtain⟨q,us,h1,h2,h3,h4⟩:=h;refine ue (vq NK ha (mP (v:=.ref q) hg h1 rfl hd) hm) λσ H Q ⟨J,env,sr,w⟩=>?_;refine⟨J,env,sr,aB (aH (aH w)) λr wr v J1 H1 e1 r1=>?_⟩;split at wr
 ·rename_i k;cases r1;refine⟨q,us,k,rfl,rfl,h2,h3,?_⟩;rw[(h4.get k).2];exact⟨_,rfl,wr J1 H1 e1⟩
 ·exact wr.elim
end
section
variable{prog:U0}{w:Vj}{A:Vw}{E:UH->UI->Prop}{s:UI}{l:UX}{us:Array UH}{ns:List Int}
variable{X:Cx}{c:C}{e a b tg i:VC}{es:List VC}{ga gb g:G R}{pos:Pos}
theorem zC{d:Int}{j:Nat}{p kp vp:Pos}(ha:QD X c e g)(hm:X.mg "max"=none)(hK:375)(hc:autoParam (X.calm=true) zzA._auto_1)(hg:autoParam (Gl X "max") zzA._auto_1)
  (he:autoParam (Wr pos (UP [e] X.env)=(false,eval e X.env)::Wr pos (UP [] X.env)) zzA._auto_1) (hst:autoParam 326 zzA._auto_1)
  (hplain:autoParam ((Wr pos (UP [e] X.env)).any (·.1)=false) zzA._auto_1):QD X c (.Call (.Name "max" p) [e] [⟨some "default",.Constant (.int d) j vp,kp⟩] pos) (tG d g):=by
 have ha:=ha.h;refine⟨?_⟩;intro Ux s σ H Q I ⟨J,env,sr,w⟩;refine Xc (oY I hg hm ae4 ?_ 120 120);refine aew (bO ((ez ha gM hst) pos Ux s σ H (λvs H1=>∃p ns J1,vs=[.ref p]/\cY X.K H1 p (ns.map V.int)/\Ext J H J1 H1/\∀v J' H',Ext J H J' H'->RR c H J' H' (.d (.int (l6 d ns))) v->Q v H') I ⟨J,env,sr,aB (aH w) λr wr v J1 H1 e1 r1=>?_⟩) λus s1 ⟨vs,H1,I1,rv,p,ns,J1,hvs,hq,e1,q⟩=>?_) he hplain rfl rfl
 ·obtain⟨xs,hx,wr⟩:=kc wr;obtain⟨p,ws,rfl,hl,hs⟩:=RR.list 377 r1 hx;split at wr
  ·rename_i ns hns;have:=tR hns hs;subst this;exact⟨p,ns,J1,rfl,by rw[hK];exact hl,e1,wr⟩
  ·exact wr.elim
 ·subst hvs;obtain⟨u,rfl,ru⟩:=rv.one;cases ru;refine ae5 (bO (zq Ux s1 σ H1 (λv H2=>v=.int d/\H2=H1) I1 ⟨rfl,rfl⟩) λdv s2 ⟨v2,H2,I2,r2,hv2,TZ⟩=>afc ?_);subst hv2 TZ;obtain⟨td,rfl⟩:=r2;obtain⟨Uy,r',pl,hz⟩:=I2.list hq;have hlen:=r'.length;rw[UL]at hlen;show UZ _ _ (call (.builtin "max") [.ref p] [("default",.int d td)]) _ _ s2;refine Eg (I2.ok.hd hc) pl.isList (Mg r') (by simp[hlen]) λt' h' tk k=>?_;exact⟨.int _,H2,I2.kept k,⟨t',rfl⟩,q _ J1 H2 e1 (.int _)⟩
end
section
variable{X:Cx}{c:C}{e a b d tg:VC}{es:List VC}{ga gb g:G R}{pos:Pos}
theorem gP(h:QD X c e g)(hK:375):D6 X c tg e (iS g):=have h:=h.h;⟨xK (FF h) λσ H Q ⟨J,env,sr,w⟩=>by
 refine⟨J,env,sr,aB (aH w) λr wr v J1 H1 e1 r1=>?_⟩;rw[hK];split at wr
 ·cases r1 with
  |tup h1 h2=>exact⟨_,rfl,.inr ⟨⟨_,gA e1.sub h1⟩,wr _ J1 H1 e1 (wD (λJ H u=>u) h1 h2)⟩⟩
 ·cases r1 with
  |lst h1 h2=>exact⟨_,rfl,.inl ⟨⟨_,e1.sub.seq h1⟩,wr _ J1 H1 e1 (pJ (.inl h1) h2)⟩⟩
 ·obtain⟨J2,e2,s2,rd⟩:=freeze e1 r1 rfl;cases rd with
  |lst h1 h2=>exact⟨_,rfl,.inl ⟨⟨_,e2.sub.seq h1⟩,wr _ J2 H1 e2 (pJ (.inl h1) h2)⟩⟩
 ·obtain⟨a,vs,rfl,h1,h2⟩:=r1;exact⟨_,rfl,.inl ⟨⟨_,(sr.hp.ext e1).ent.seq h1⟩,wr _ J1 H1 e1 (pJ (.inr h1) h2)⟩⟩
 ·exact wr.elim⟩
theorem eB(h:QD X c e g)(hK:375):D5 X c tg e (iT g):=have h:=h.h;⟨xK (FF h) λσ H Q ⟨J,env,sr,w⟩=>by
 refine⟨J,env,sr,aB (aH w) λr wr v J1 H1 e1 r1=>?_⟩;rw[hK];have lst:∀{xs:List D},fY r=.ok xs->(∀It J1' H1',Ext J H J1' H1'->Walk c It xs J1' (λJ' H'=>aY J1' J'/\aY H1' H')->Q It H1')->∃a,v=.ref a/\(((∃xs,cY c.K H1 a xs)/\Q (IJ c.K a) H1)\/((∃xs,eZ c.K H1 a xs)/\Q (IL c.K a) H1)):=fun {xs} q wr=>by obtain⟨a,vs,rfl,h1,h2⟩:=RR.list 377 r1 q;refine⟨a,rfl,.inl ⟨⟨_,h1⟩,wr _ J1 H1 e1 λi J' H' hp u=>?_⟩⟩;have h':=u.2.seq h1;refine⟨λhl=>⟨vs,h',by rw[<-h2.length];exact hl⟩,λd hd=>?_⟩;obtain⟨v,k1,k2⟩:=h2.get hd;refine⟨⟨vs,v,h',k1⟩,λx H2 ⟨e,hy⟩=>?_⟩;subst e;have:=hy vs h';rw[k1]at this;cases this;exact⟨J',Ext.refl hp.sub,k2.mono u.1⟩
 cases r with
 |d y=>
  cases y with
  |tup xs=>
   cases r1 with
   |tup h1 h2=>exact⟨_,rfl,.inr ⟨⟨_,gA e1.sub h1⟩,wr _ J1 H1 e1 (wD (λJ H u=>u.1) h1 h2)⟩⟩
  |lst xs=>exact lst rfl wr
  |_=>exact wr.elim
 |l m xs=>exact lst rfl wr
 |o _ _ _=>exact wr.elim⟩
end
section
variable{X:Cx}{c:C}{st:Xq}{g:G O}
theorem Ie(i:Nat)(h:ig X c st g):ig X c st (u6 i g):=have h:=h.h;⟨λUx s σ H D I ⟨J,env,sr,w⟩=>by
 unfold u6 at w;split at w
 ·rename_i xs hi;obtain⟨v,h1,a,vs,rfl,h2,h3,h4,h5⟩:=sr.at_ i _ hi;obtain⟨J',s1,sr'⟩:=sr.frz (x:=.inl xs) hi h1 h2 h3 h4 (.lst (.inl (.inl bf)) (h5.mono (dY h3 _)));exact h Ux s σ H D I ⟨J',_,sr',aB w λo q=>q.mono s1⟩
 ·exact h Ux s σ H D I ⟨J,env,sr,w⟩⟩
end
section
variable{X:Cx}{c:C}
theorem jl{P:U0}{w:Vj}{K:UG}{mg:145}{base:VU}{x UB:Str}{st:Xq}{f:UX}{fd:Vp}{N ps:131}{k:Nat}{Fm:234}(F:fN K x UB st f fd)(hm:mg x=some 344)(Sc:cK N ps (aF st))
  (hbi:156){gB:G O}
  (hb:∀(cdv:UH)(A:Vw)(outer:List Env)(s:UI)(H:Hp)(E:XK)(J:Hp)(T:359),cG k 213->
   lq 279 ⟨K,H,J,T⟩ (bu st) gB)
  (hF:304):bW P w K mg base (k+1) ps.length x Fm:=
 MQ F hm Sc hbi (λcdv A outer s H E J T hr=>(hb cdv A outer s H E J T hr).h) hF
theorem LG{P:U0}{w:Vj}{K:UG}{mg:145}{base:VU}{x UB:Str}{st:Xq}{f:UX}{fd:Vp}{N ps:131}{k:Nat}{Fm:234}(F:fN K x UB st f fd)(Sc:cK N ps (aF st)){gB:G O}
  (hb:∀(cdv:UH)(A:Vw)(outer:List Env)(s:UI)(H:Hp)(E:XK)(J:Hp)(T:359),cG k 213->
   lq 279 ⟨K,H,J,T⟩ (bu st) gB)
  (hF:304):dF P w K mg base ia (k+1) f fd ps (oh K ps.length Fm):=
 EA F Sc (λcdv A outer s H E J T hr=>(hb cdv A outer s H E J T hr).h) hF
end
end DL
namespace DX
open PySem PySem.Spec
open Builtin Builtin.ObjectAttr
inductive Tail(h:VU)(ns:131)(bmB:List UH):List UH->Prop
 |base:Tail h ns bmB bmB
 |own {a:UX}{c0:UH}{dd:259}{cd:ClassData}{sl:286}{m:145}{tl:List UH}:h.get? a=some {cls:=c0,dict:=dd,data:=.cls cd,slots:=sl}->h.Ns cd.ns m->(∀n∈ns,m n=none)->Tail h ns bmB tl->Tail h ns bmB (.ref a::tl)
theorem Tail.has{bmB tl:List UH}(T:Tail h ns bmB tl)(hb:bmB.contains (.type X)=b):tl.contains (.type X)=b:=by
 induction T with
 |base=>exact hb
 |own _ _ _ _ ih=>rw[Wz,ih];rfl
theorem Tail.old(T:Tail h ns bmB tl)(hi:("__init__":Str)∈ns):adS h bmB tl:=by
 induction T with
 |base=>exact .base
 |own a b c _ ih=>exact .own a b (c _ hi) ih
theorem Tail.refuse(T:Tail h ns bmB tl)(hb:aex self what bmB=pure ()):aex self what tl=pure ():=by
 induction T with
 |base=>exact hb
 |own _ _ _ _ ih=>rw[aeh];exact ih
section
variable{M:ab8}{prog:U0}{w:Vj}{A:Vw}{E:UH->UI->Prop}{h:VU}{g:Array abU}{d:afN}{t:Nat}{os:abo}
variable{nm q:Str}{C N x:UX}{bs bm bmB:List UH}{hdct:Bool}{sn:List Str}{sub:List UH}{ab:Bool}{col:Option Bool}{dd:Option UX}{k0 k1 k2 k3 k5:Option UH}{B newId sa owner:String}{ns:List Str}{mN mA:Str->Option UH}{name:Str}{v:UH}
theorem B6{Q:Option UH->UI->Prop}(T:Tail h ns bmB tl)(hn:n∈ns)(hr:adV bmB n=pure y)(hq:Q y ⟨h,g,d,t,os⟩):UZ M A (adV tl n) Q E ⟨h,g,d,t,os⟩:=by
 induction T with
 |base=>rw[hr];exact UJ hq
 |own a b c _ ih=>
  rw[adD];refine UE (wpAny_classOwn_cls a b ?_);rw[c n hn];exact ih
theorem vW{Q:Option UH->UI->Prop}(hC:h.get? C=some 144)(hN:h.Ns N mN)(hm:mN n=none)(T:Tail h ns bmB bm)(hn:n∈ns)(hbm:mroOf (.type B)=pure bmB)(hB:YF (.type B) n=pure y)
 (hq:Q y ⟨h,g,d,t,os⟩):UZ M A (YF 241 n) Q E ⟨h,g,d,t,os⟩:=by
 have hr:adV bmB n=pure y:=by rw[aeN,hbm]at hB;exact hB
 rw[aeN];refine UE (adW hC ?_);rw[adD];refine UE (wpAny_classOwn_exc hC hN ?_);rw[hm];exact B6 T hn hr hq
structure D7(h h':VU)(x:UX)(o:Obj)(name:Str)(v:UH)(dx:UX):Prop where
 new:h.objs.size<=dx
 obj:h'.get? x=some {o with dict:=some dx}
 dic:h'.Ns1 dx λy=>if y=name then some v else none
 keep:∀b u,b≠x->h.get? b=some u->h'.get? b=some u
theorem En{o:Obj}{Q:347}(SF:abV B bmB sa owner)(T:Tail h ns bmB bm)(hC:h.get? C=some 144)(hx:h.get? x=some o)(hc:o.cls=.ref C)(hq:Q () ⟨h,g,d,t,os⟩):
  UZ M A (XG sa ⟨[.ref x,nameV,v],[]⟩) Q E ⟨h,g,d,t,os⟩:=by
 have tQ:(VI C::bm).contains (.type owner)=true:=by simp only[Wz,T.has SF.hasOwner,aaq]
 have ha:=SF.args (.ref x) nameV v;simp only[XG,SF.kind,SF.split];refine UE ?_;unfold acV
 repeat (first|(with_reducible refine Wu hx ?_;rw[hc])|(with_reducible refine Yi hC ?_;rw[tQ])|wp_step)
 cases sg:aae sa with
 |none=>exact UJ hq
 |some sig=>
  simp only[ab5,sg]at ha;have h2:YS sa sig ⟨[.ref x,nameV,v],[]⟩=pure ():=ha;show UZ M A (YS sa sig _) Q E _;rw[h2];exact UJ hq
theorem zR{o:Obj}{Q:Fin->UI->Prop}(SF:abV B bmB sa owner)(T:Tail h ns bmB bm)(hC:h.get? C=some 388)(hN:h.Ns N mN)(hna:mN name=none)(hin:name∈ns)
 (hB:YF (.type B) name=pure none) (hxC:x≠C) (hx:h.get? x=some o) (hc:o.cls=.ref C) (hnc:∀c,o.data≠.cls c) (hdn:o.dict=none) (hq:∀h' tk' dx,D7 h h' x o name v dx->Q (.done (.ret .none)) ⟨h',g,d,tk',os⟩):
  UZ 139 A (Ze.«object.__setattr__» ⟨[.ref x,.str name tk,v],[]⟩) Q E ⟨h,g,d,t,os⟩:=by
 have hpass:aex (.ref x) "__setattr__" bm=pure ():=T.refuse (SF.passes (.ref x));unfold Ze.«object.__setattr__»
 repeat (first|rw[refuse_eq]|(rw[aeh,hpass])|(with_reducible refine Wu hx ?_;rw[hc])|with_reducible refine adW hC ?_|(with_reducible refine vW hC hN hna T hin SF.mro hB ?_)|wp_step)
 rw[hdn,if_neg (by simp[typeHasDict])];split
 ·rename_i hcd;cases hcd
 split
 ·rename_i c hcd;exact absurd hcd (hnc c)
 obtain⟨oD,qD⟩:∃oD:Obj,oD={cls:=.type "dict",data:=.dict #[]}:=⟨_,rfl⟩;have hx₁:=UK oD hx;have hxs:x≠h.objs.size:=U4 (UY hx);refine UE (wpAny_alloc' (UE ?_));rw[<-qD];refine wpAny_update' hx₁ (UJ ?_);have hgd:((h.push oD).update x λo=>{o with dict:=some h.objs.size}).get? h.objs.size=some oD:=(acf _ _ _ _ hxs.symm).trans (Heap.get?_push_at rfl (by rw[qD];rfl));have hnd:((h.push oD).update x λo=>{o with dict:=some h.objs.size}).Ns h.objs.size (λ_=>none):=⟨_,#[],_,hgd,by rw[qD],λe he=>absurd he 229,λ_=>rfl⟩;show UZ _ _ (storeInDict h.objs.size (.str name tk) name v) _ _ _;unfold storeInDict newKeyGuard;refine UE (UJ (UE (wpAny_nsSet1 (acO hnd) λh' hn' hs=>?_)));obtain⟨o2,es,ep,ho,hd,hcn⟩:=hn'.count (Within.cons name v Within.nil);refine UE (adv ho (by rw[hd];exact adw (Vr hcn (by simp only[Vt,abG,V6];omega))) ?_)
 wp_walk
 refine hq h' _ h.objs.size ⟨UW _,?_,hn',λb u hb hu=>?_⟩
 ·refine(hs.2 x hxs).trans (Vy _ hx₁ ?_);have hfr:=(Heap.get?_some_iff.mp hx).2;obtain⟨oc,od,odt,osl⟩:=o;cases odt<;>first|rfl|exact hfr
 ·exact(hs.2 b (U4 (UY hu))).trans ((acf _ _ _ _ hb).trans (UK _ hu))
theorem Aw{o:Obj}{Q:347}(SF:abV B bmB sa owner)(T:Tail h ns bmB bm)(hC:h.get? C=some 388)(hN:h.Ns N mN)(hns:mN "__setattr__"=none)(his:("__setattr__":Str)∈ns)(hna:mN name=none)(hin:name∈ns)
  (hB:YF (.type B) name=pure none) (hxC:x≠C) (hx:h.get? x=some o) (hc:o.cls=.ref C) (hnc:∀c,o.data≠.cls c) (hdn:o.dict=none) (hq:∀h' tk' dx,D7 h h' x o name v dx->Q () ⟨h',g,d,tk',os⟩):UZ 139 A (afj (.ref x) name v) Q E ⟨h,g,d,t,os⟩:=by
 have f3:=SF.slot.bind (.ref x);unfold afj callSpecial? specialOf
 repeat (any_goals (first|assumption|(with_reducible refine Wu hx ?_;rw[hc])|(with_reducible refine vW hC hN hns T his SF.mro SF.slot.lookup ?_)|wp_step))
 refine WW SF.slot.plain SF.entry (En SF T hC hx hc (zR SF T hC hN hna hin hB hxC hx hc hnc hdn (λh' tk' dx st=>?_)))
 repeat (any_goals (first|assumption|wp_step))
 exact hq h' tk' dx st
end
end DX
namespace DX
open PySem PySem.Spec
section
variable{prog:U0}{w:Vj}{A:Vw}{E:UH->UI->Prop}{h:VU}{g:Array abU}{d:afN}{t:Nat}{os:abo}
variable{nm q:Str}{C N e:UX}{bs bm bmB:List UH}{hdct:Bool}{sn:List Str}{sub:List UH}{ab:Bool}{col:Option Bool}{dd:Option UX}{k0 k1 k2 k3 k5:Option UH}{B newId nid initId:String}
theorem CJ{rest:List UH}{Q:136}(F:Yb B nid initId bmB)(T:adS h bmB bm)(hC:h.get? C=some 144)(he:h.get? e=some (qB C t0 dx))(hrest:rest.length<=sizeLine)
 (hq:∀h' t',h.objs.size<=t'->(∀b u,b≠e->h.get? b=some u->h'.get? b=some u)->h'.get? e=some (qB C t' dx)->Q .none ⟨h',g,d,t,os⟩):UZ 139 A (call (.builtin initId) (.ref e::rest)) Q E ⟨h,g,d,t,os⟩:=by
 refine Yo (WW F.init.plain F.initEntry (wpAny_check_init_subU F T hC he rfl ?_))
 wp_walk
 refine hq _ h.objs.size (UW _) (λb u hb hu=>?_) ?_
 ·rw[U_ _ _ (VF hb)];exact UK _ hu
 ·rw[Vy _ (UK _ he) rfl];rfl
end
end DX
namespace DX
open PySem PySem.Spec PyProof.Rows L2
abbrev NO(a C:UX)(dx:259):HO:=.ext λh=>∃t,h.get? a=some (qB C t dx)
theorem Dd{H:Hp}{h:VU}{a C t:UX}(x:h.get? a=some (qB C t dx)):cB P w H h a (NO a C dx):=
 ⟨⟨t,x⟩,⟨_,x⟩,λ_ _ ⟨t,q⟩ k=>⟨t,k _ q⟩⟩
theorem Dr{H:Hp}{s:UI}{h':VU}{x C t:UX}(I:325)(hx:H x=some (NO x C dx))(k:∀b u,b≠x->s.heap.get? b=some u->h'.get? b=some u)(ht:h'.get? x=some (qB C t dx)):
  L2.Inv X Ux σ H {s with heap:=h',toks:=tk}:=by
 have ne:∀b,H b=none->b≠x:=λb n z=>by rw[z,hx]at n;cases n
 refine I.call' (ch:=[]) rfl ⟨λb o hb hn _ _=>k b o (ne b hn) hb,λb o hb hn _ _=>⟨o.slots,k b o (ne b hn) hb⟩,λ_ _ _ n _=>n,λb o hb _=>?_,λ_ _ q=>q,λ_ _ _ q=>q,λ_ ps q=>⟨#[],by rw[q];simp⟩⟩ (λa o ha=>?_) I.bare (λb z=>by cases z)
 ·by_cases z:b=x
  ·exact⟨_,z▸ht⟩
  ·exact⟨o,k b o z hb⟩
 ·by_cases z:a=x
  ·subst z;rw[hx]at ha;obtain rfl:=Ve ha;exact Dd ht
  ·refine(I.hok a o ha).stay (λb u hb q=>k b u (λy=>?_) q) (λ_ q=>q) λ_ _ q=>q;rcases hb with rfl|hb
   ·exact z y
   ·rw[y,hx]at hb;cases hb
section
variable{X:Cx}{o e:VC}{es:List VC}{apos pos:Pos}{t:TA}{m:Str}
noncomputable def DB(bm:List UH)(K:UG)(t:TA):TE:=λσ H Q=>t σ H λvs H1=>∃x rest C dx nm q N bs hdct sn sub ab col dd k0 k1 k2 k3 k5 newId,vs=.ref x::rest/\rest.length<=sizeLine/\H1 x=some (NO x C dx)/\K.lookup C=some 144/\Q .non H1
theorem HU(he:PE X o λ_ H Q=>Q (.ref Cb) H)(F:Yb B nid initId bmB)(hT:∀h,X.K.In h->adS h bmB bm)(hg:WQ X.K (.ref Cb) "__getattribute__"=some (some (.builtin "type.__getattribute__")))(hr:aaf X.K Cb mc=true)
 (hf:aag X.K (.ref Cb) mc "__init__"=some (.val (.builtin initId))) (hh:Yk (.builtin initId)=true) (ha:PA X (e::es) t)
 (hst:153) (hpl:autoParam ((Wr pos 319).any (·.1)=false) zzA._auto_1)
 (ht:autoParam (eval (.Call (.Attribute o "__init__" apos) (e::es) [] pos) X.env=(do
 let ov <-eval o X.env
 Ye apos.atName
 let (f,first) <-holding [ov] (ae6 ov "__init__" pl)
 afJ pos f first (Wr pos (UP (e::es) X.env)) (acy pos (Z7 [] X.env)))) zzA._auto_1):PE X (.Call (.Attribute o "__init__" apos) (e::es) [] pos) (DB bm X.K t):=by
 intro Ux s σ H Q I h;refine W.methodCall_KW (pl:=pl) (bO (he Ux s σ H (λu H1=>u=.ref Cb/\DB bm X.K t σ H1 Q) I ⟨rfl,h⟩) λu s1 ⟨v,H1,I1,rv,ev,q⟩=>?_) ht;subst ev;obtain rfl:u=VI Cb:=rv;refine W.method_cls I1.kIn hg (W.cls_value I1.kIn hr hf hh ?_);have I1':L2.Inv X Ux σ H1 {s1 with toks:=s1.toks+1}:=I1.call' (ch:=[]) rfl .refl I1.hok I1.bare (λb z=>by cases z);refine ZH (bO (ha pos Ux _ σ H1 _ I1' q) λus s2 ⟨vs,H2,I2,r,q2⟩=>?_) hst hpl;obtain⟨x,rest,C,dx,nm,qn,N,bs,hdct,sn,sub,ab,col,dd,k0,k1,k2,k3,k5,newId,ev,hl,hx,lk,q3⟩:=q2;subst ev;cases r with
 |cons r1 r2=>
  obtain rfl:_=VI x:=r1;obtain⟨⟨t0,SJ⟩,_⟩:=I2.hok x _ hx;obtain⟨hp,gs,dr,tk,os⟩:=s2;exact CJ F (hT _ I2.kIn) (I2.kIn _ _ lk) SJ (by rw[<-r2.length];exact hl) λh' t' _ k ht'=>⟨.non,H2,Dr (s:=⟨hp,gs,dr,tk,os⟩) I2 hx k ht',rfl,q3⟩
end
theorem Iz{H:Hp}{s:UI}{h':VU}{x C t d:UX}{f:Str}(I:325)(hx:H x=some (NO x C none))(hd:H d=none)(nd:s.heap.objs.size<=d)(k:∀b o,b≠x->s.heap.get? b=some o->h'.get? b=some o)(ht:h'.get? x=some (qB C t (some d)))
 (dic:h'.Ns1 d λz=>if z=f then some u else none) (ry:RelV y u):L2.Inv X Ux σ (upd (upd H x (NO x C (some d))) d (.xd [(f,y)])) {s with heap:=h',toks:=tk}:=by
 have xd:x≠d:=λz=>by rw[z,hd]at hx;cases hx
 have up:∀b,b≠x->b≠d->upd (upd H x (NO x C (some d))) d (.xd [(f,y)]) b=H b:=λb h1 h2=>by rw[aU h2,aU h1]
 have ne:∀b,H b=none->b≠x:=λb n z=>by rw[z,hx]at n;cases n
 have old:∀b o,s.heap.get? b=some o->b≠d:=λb o hb z=>absurd (U6 (UY hb) (z▸nd)) (Ws _);have st:∀b o,H b=some o->(∀φ,o≠.ext φ)->upd (upd H x (NO x C (some d))) d (.xd [(f,y)]) b=some o:=λb o hb hn=>by rw[up b (λz=>by rw[z,hx]at hb;exact hn _ (Ve hb).symm) (λz=>by rw[z,hd]at hb;cases hb),hb]
 refine I.call' (ch:=[]) rfl ⟨λb o hb hn _ _=>k b o (ne b hn) hb,λb o hb hn _ _=>⟨o.slots,k b o (ne b hn) hb⟩,λb o hb n _=>by rw[up b (ne b n) (old b o hb)];exact n,λb o hb _=>?_,λb xs q=>st b _ q (λφ z=>by cases z),λb o u q=>st b _ q (λφ z=>by cases z),λb ps q=>⟨#[],by rw[st b _ q (λφ z=>by cases z)];simp⟩⟩ (λa o ha=>?_) I.bare (λb z=>by cases z)
 ·by_cases z:b=x
  ·exact⟨_,z▸ht⟩
  ·exact⟨o,k b o z hb⟩
 ·by_cases z:a=d
  ·subst z;rw[bf]at ha;obtain rfl:=Ve ha;refine⟨_,dic,λf'=>?_⟩;by_cases q:f'=f
   ·subst q;simp only[XQ,beq_self_eq_true,if_pos];exact ry
   ·have q':(f'==f)=false:=beq_eq_false_iff_ne.mpr q;simp only[XQ,q',if_neg q];trivial
  ·by_cases z2:a=x
   ·subst z2;rw[aU z,bf]at ha;obtain rfl:=Ve ha;exact Dd ht
   ·rw[up a z2 z]at ha;refine(I.hok a o ha).stay (λb u hb q=>k b u (λy=>?_) q) (λb q=>st b _ q (λφ z=>by cases z)) λb xs q=>st b _ q (λφ z=>by cases z);rcases hb with rfl|hb
    ·exact z2 y
    ·rw[y,hx]at hb;cases hb
section
variable{X:Cx}{o value:VC}{f:Str}{pos pos':Pos}{ta tv:TE}
noncomputable def JI(C:UX)(ta tv:TE)(f:Str):TS:=λD σ H=>tv σ H λy H1=>ta σ H1 λx H2=>∃a,x=.ref a/\H2 a=some (NO a C none)/\∀d,H2 d=none->D.nx σ (upd (upd H2 a (NO a C (some d))) d (.xd [(f,y)]))
theorem LB{C N:UX}{dd:259}(ha:PE X o ta)(hv:PE X value tv)(SF:abV B bmB sa owner)(hT:∀h,X.K.In h->Tail h ns bmB bm)
 (lk:X.K.lookup C=some 388) (hN:∀h,X.K.In h->∃mN,h.Ns N mN/\mN "__setattr__"=none/\mN f=none) (his:("__setattr__":Str)∈ns) (hin:f∈ns) (hB:YF (.type B) f=pure none)
 (hs:Xj value (some (.Attribute o f pos')) pos.line X.env=pure false):PS X (.Assign [.Attribute o f pos'] value pos) (JI C ta tv f):=by
 intro Ux s σ H D I h;refine Zs (bO (hv Ux s σ H _ I h) λu s1 ⟨y,H1,I1,ry,q1⟩=>bO (ha Ux s1 σ H1 _ I1 q1) λov s2 ⟨x,H2,I2,rx,a,ex,hx,q2⟩=>?_) hs;subst ex;obtain rfl:ov=VI a:=rx;obtain⟨⟨t0,SJ⟩,_⟩:=I2.hok a _ hx;obtain⟨mN,n1,n2,n3⟩:=hN _ I2.kIn;have aC:a≠C:=λz=>by have:=(I2.bs C _ (I2.ok.mod.kin _ _ lk)).2;rw[<-z,hx]at this;cases this
 obtain⟨hp,gs,dr,tk,os⟩:=s2;refine Aw SF (hT _ I2.kIn) (I2.kIn _ _ lk) n1 n2 his n3 hin hB aC SJ rfl (λc z=>by cases z) rfl λh' tk' d sd=>?_;have fd:H2 d=none:=I2.hok.fresh sd.new;exact⟨σ,_,Iz (s:=⟨hp,gs,dr,tk,os⟩) I2 hx fd sd.new sd.keep sd.obj sd.dic ry,q2 d fd⟩
end
noncomputable def Apart(X:Cx)(Ux:143)(T:UX):Prop:=(T∈X.ex\/X.s₀.heap.objs.size<=T)/\T≠X.env.locals/\(∀x c,X.env.cells.lookup x=some c->c≠T)/\∀p∈X.pn++Ux,p.1≠T
theorem apart_new{H:Hp}{s:UI}(I:325)(h:s.heap.objs.size<=T):Apart X Ux T:=by have ne:∀b,b<s.heap.objs.size->b≠T:=λb hb z=>absurd (U6 (z▸hb) h) (Ws _);refine⟨.inr (Vr I.sz h),(ne _ I.lt).symm,λx c hc=>?_,λp hp=>ne _ (UY (I.pin p hp).1)⟩;obtain⟨v,o,hv,_⟩:=I.cell x c hc;exact ne _ (UY hv)
noncomputable def pK(X:Cx)(E:XK):Prop:=∀(Ux:143)(σ:L2.St)(H':Hp)(s':UI)(e C:UX)(dx To:259),L2.Inv X Ux σ H' s'->Fl e C dx To s'.heap->X.s₀.heap.objs.size<=e->(∀T∈To.toList,X.s₀.heap.objs.size<=T/\Apart X Ux T)->
 H' e=some (XO e C dx)->(∀T∈To.toList,H' T=none)->E (.ref e) dx H'->X.xe (.ref e) s'
theorem Cn{P:U0}{w:Vj}{K:UG}{mg:145}{base:VU}{N:131}{UB:Str}{sc:Yd}{f:UX}{cd:UH}{A:Vw}{outer:List Env}{s:UI}{H:Hp}{E:XK}:
  pK (jH (kr P w) P w K mg base N UB sc f cd A outer s H E) E:=λUx σ H' s' e C dx To I fl newE newT iP free wish=>by
 have fr:=I.ok.frames;have st:=I.stack;have sf:=I.stkFree;have ss:=I.stkSub;show UZ _ _ (leaving (Y5 UB sc s.heap.objs.size f cd) (.ref e)) _ _ _;unfold leaving;refine UE (zl (A:=A.deeper (Y5 UB sc s.heap.objs.size f cd)) fr st rfl fl λh2 T' lf t0 fy=>?_);have fd:xT P w (frs outer) [] H s E e C dx To H' s':=⟨I.os,I.bare,I.base,I.hok,fl,newE,λT hT=>(newT T hT).1,iP,free,wish⟩;exact⟨e,C,dx,T',H',rfl,fd.left lf t0 fy sf (λb hb=>by
  rcases UR.mp (ss b hb)with z|z
  ·exact .inr (by rw[z];exact UW _)
  ·exact .inl z) I.sz⟩
structure B0(K:UG)(C f:UX):Prop where
 ex:∃nm q N bs bm hdct sn sub ab col dd k0 k1 k2 k3 k5 newId Bn inN bmN B nid initId bmB,K.lookup C=some 144/\Yb Bn newId inN bmN/\bmB.contains (.type Bn)=true/\Yb B nid initId bmB/\bm.contains 323=true/\
  (∀h,K.In h->adS h bmB bm/\∃mN,h.Ns N mN/\mN "__init__"=some 344)
 fn:∃oI:Obj,K.lookup f=some oI/\oI.cls=.type "function"
 kp:Vu K 241=true
section
variable{X:Cx}{CX:mj}{k:Nat}{f C:UX}{fd:Vp}{ps:List Str}{sp:Sp}{E:XK}{x:Str}{p pos:Pos}{e:VC}{es:List VC}{t:TA}
theorem F3{H:Hp}{s:UI}{Q:VK}{vs:List V}(M:B0 X.K C f)(F:265)(hr:cG (k+1) X.A)(hb:Binds X.K fd ps [])(hx:Passes CX X E)(I:325)(r:Vals vs us)(hl:vs.length<=sizeLine)
 (h:∀x,s.heap.objs.size<=x->sp (.ref x::vs) (upd H x (NO x C none)) (λv H2=>v=.non/\Q (.ref x) H2) E):UZ 126 X.A (call 241 us) (EP X Ux σ Q) X.xe s:=by
 obtain⟨nm,q,N,bs,bm,hdct,sn,sub,ab,col,dd,k0,k1,k2,k3,k5,newId,Bn,inN,bmN,B,nid,initId,bmB,lk,Fn,hBn,FB,_,hK⟩:=M.ex;obtain⟨oI,lI,cI⟩:=M.fn;obtain⟨T,mN,n1,n2⟩:=hK _ I.kIn;obtain⟨hp,gs,dr,tk,os⟩:=s;refine Ck Fn hBn FB T (I.kIn _ _ lk) n1 n2 (I.kIn _ _ lI) cI (λh' a tp md=>?_) (by rw[<-r.length];exact hl);have I2:L2.Inv X Ux σ (upd H a (NO a C none)) ⟨h',gs,dr,tk,os⟩:=I.laid md.keep md.new (Dd md.obj);have hq:=h a md.new;have r2:Vals (V.ref a::vs) (VI a::us):=.cons rfl r;have Ui:(VI a::us++[]).length=ps.length:=by rw[V7,<-r2.length];exact F.len _ _ _ _ hq
 have bd:=hb ⟨h',gs,dr,tk,os⟩ (VI a::us) I2.kIn Ui;rw[V7]at bd;refine Yo (Xo (F.run _ X.stack _ _ ⟨VI a::us,[]⟩ (VI a::us) _ _ E (hr.make C us []) (I2.env0.make C us []) bd r2 hq) λr s' hq'=>?_);cases r with
 |error e=>exact hx Ux σ _ _ e s' I2 hq'
 |ok fl=>
  cases fl with
  |ret u=>
   obtain⟨v,H',I3,rv,ev,q3⟩:=I2.after hq';subst ev;exact⟨rv,⟨V.ref a,H',I3,rfl,q3⟩⟩
  |next=>exact WB hq'
  |brk=>exact WB hq'
  |cont=>exact WB hq'
end
theorem LS{H:Hp}{x C:UX}(I:325)(hx:H x=some (NO x C dx)):L2.Inv X Ux σ (upd H x (XO x C dx)) s:=by
 have ne:∀b,H b=none->b≠x:=λb n z=>by rw[z,hx]at n;cases n
 have st:∀b o,H b=some o->(∀φ,o≠.ext φ)->upd H x (XO x C dx) b=some o:=λb o hb hn=>by rw[aU (λz=>by rw[z,hx]at hb;exact hn _ (Ve hb).symm),hb]
 obtain⟨⟨t0,SJ⟩,_⟩:=I.hok x _ hx;refine I.call' (ch:=[]) rfl ⟨λb o hb _ _ _=>hb,λb o hb _ _ _=>⟨o.slots,hb⟩,λb o hb n _=>by rw[aU (ne b n)];exact n,λb o hb _=>⟨o,hb⟩,λb xs q=>st b _ q (λφ z=>by cases z),λb o u q=>st b _ q (λφ z=>by cases z),λb ps q=>⟨#[],by rw[st b _ q (λφ z=>by cases z)];simp⟩⟩ (λa o ha=>?_) I.bare (λb z=>by cases z);by_cases z:a=x
 ·subst z;rw[bf]at ha;obtain rfl:=Ve ha;exact yS ⟨_,_,SJ,rfl,rfl,rfl⟩
 ·rw[aU z]at ha;exact(I.hok a o ha).stay (λb u _ q=>q) (λb q=>st b _ q (λφ z=>by cases z)) λb xs q=>st b _ q (λφ z=>by cases z)
section
variable{X:Cx}{CX:mj}{k:Nat}{f C:UX}{fd:Vp}{ps:List Str}{sp:Sp}{E E':XK}{x:Str}{p cpos pos:Pos}{e:VC}{es:List VC}{t:TA}
noncomputable def LV(n:Nat)(C:UX)(sp:Sp)(E E':XK)(t:TA):TS:=λD σ H=>t σ H λvs H1=>vs.length<=sizeLine/\∀x,n<=x->H1 x=none->sp (.ref x::vs) (upd H1 x (NO x C none)) (λv H2=>v=.non/\∃a dx,V.ref x=.ref a/\n<=a/\H2 a=some (NO a C dx)/\E' 307 dx (upd H2 a (XO a C dx))) E
theorem FN(M:B0 X.K C f)(F:265)(hr:cG (k+1) X.A)(hg:Gl X x)(hm:X.mg x=some 241)(hb:Binds X.K fd ps [])(hx:Passes CX X E)(hc:pK X E')(S3:X.calm=true)(ha:PA X (e::es) t)(hdb:141)
  (he:153) (hpl:autoParam ((Wr cpos 319).any (·.1)=false) zzA._auto_1):PS X (.Raise (some (.Call (.Name x p) (e::es) [] cpos)) none pos) (LV X.s₀.heap.objs.size C sp E E' t):=by
 intro Ux s σ H D I h;have M':=M;obtain⟨nm,q,N,bs,bm,hdct,sn,sub,ab,col,dd,k0,k1,k2,k3,k5,newId,Bn,inN,bmN,B,nid,initId,bmB,lk,Fn,hBn,FB,hbase,hK⟩:=M.ex;rw[arm_exec_Raise];simp only[evalOpt,afR];refine UE (Xm (w5 (C:=C) (nm:=nm) (q:=q) (N:=N) (bs:=bs) (bm:=bm) (hdct:=hdct) (sn:=sn) (sub:=sub) (ab:=ab) (col:=col) (dd:=dd) (k0:=k0) (k1:=k1) (k2:=k2) (k3:=k3) (k5:=k5) (newId:=newId) hbase (I.ok.hd S3) ?_));refine UE (VH (Q:=EP X Ux σ λv H2=>∃a dx,v=.ref a/\X.s₀.heap.objs.size<=a/\H2 a=some (NO a C dx)/\E' 307 dx (upd H2 a (XO a C dx))) ?_ (λv s₃ h₃=>UE (Xm (UJ ?_))) λ_ _ x=>x)
 ·refine Xc (jY I hg hm ?_ hdb);refine Zb (h₀:=X.base) I.ok.mod.kin M.kp (bO (ha cpos Ux s σ H _ I h) λus s1 ⟨vs,H1,I1,r,hl,q⟩=>⟨I1.kIn,?_⟩) he hpl;exact F3 M' F hr hb hx I1 r hl λa ha=>q a (Vr I1.sz ha) (I1.hok.fresh ha)
 ·obtain⟨v',H2,I2,rv,a,dx,ev,ha,Ss,hw⟩:=h₃;subst ev;obtain rfl:v=VI a:=rv;obtain⟨⟨t0,SJ⟩,_⟩:=I2.hok a _ Ss;exact⟨a,t0,dx,rfl,I2.kIn _ _ lk,SJ,hc Ux σ _ s₃ a C dx none (LS I2 Ss) ⟨t0,SJ⟩ ha (λT hT=>by cases hT) bf (λT hT=>by cases hT) hw⟩
end
noncomputable def uD(C:UX)(f:Str):Sp:=λvs H Q _=>∃e y,vs=[.ref e,y]/\H e=some (NO e C none)/\∀d,H d=none->Q .non (upd (upd H e (NO e C (some d))) d (.xd [(f,y)]))
theorem EL{C:UX}{K:UG}{dd:259}
 (lk:K.lookup C=some 144){H:Hp}{Q:VK}{E:XK}(h:uD C f vs H Q E):
  OG (JL (DB bm K (DA (sq 0) (DA (tC (.str msg)) DC)))) (JI C (sq 0) (sq 1) f) {nx:=λ_ H'=>Q .non H',rt:=Q} (start ["self",p] vs) H:=by obtain⟨e,y,rfl,he,hq⟩:=h;refine⟨.ref e,rfl,?_⟩;refine⟨e,[.str msg],C,none,nm,q,N,bs,hdct,sn,sub,ab,col,dd,k0,k1,k2,k3,k5,newId,rfl,(by show 1<=sizeLine;decide),he,lk,?_⟩;exact⟨y,rfl,.ref e,rfl,e,rfl,he,hq⟩
end DX
namespace DL
open PySem PySem.Spec PyProof.Rows L2 DX
noncomputable def MF(K:UG)(J:Hp)(x:Exc)(v:UH)(dx:259):Prop:=
 ∃a C vs,v=.ref a/\J a=some (XO a C dx)/\U1 K UT x.cls=some (some 241)/\XF J dx x.ns vs/\aW K J x.ds vs/\∃P,GX K P/\XE K P C
def XW(K:UG)(J H:Hp)(E:XK)(x:Exc):Prop:=∀v dx J' H',Ext J H J' H'->MF K J' x v dx->E v dx H'
noncomputable def zO(K:UG)(n:Nat)(F:234):Sp:=λvs H Q E=>∃J as,aY J H/\as.length=n/\gD K J H as vs/\cJ (F as) (λr=>∀v J' H',Ext J H J' H'->FR K H J' H' r v->Q v H') (XW K J H E)
abbrev Qg(P:U0)(w:Vj)(K:UG)(mg:145)(base:VU)(N:131)(UB:Str)(sc:Yd)(f:UX)(cd:UH)(A:Vw)(outer:List Env)(s:UI)(H:Hp)(E:XK):Cx:=jH (kr P w) P w K mg base N UB sc f cd A outer s H E
def ME(X:Cx)(c:C):Prop:=∃E,pK X E/\∀x,c.T x->XW c.K c.J0 c.H0 E x
theorem Gw{P:U0}{w:Vj}{K:UG}{mg:145}{base:VU}{N:131}{UB:Str}{sc:Yd}{f:UX}{cd:UH}{A:Vw}{outer:List Env}{s:UI}{H J:Hp}{E:XK}:ME (Qg P w K mg base N UB sc f cd A outer s H E) ⟨K,H,J,XW K J H E⟩:=
 ⟨E,Cn,λ_ h=>h⟩
theorem HI.since{c:C}{J H:Hp}(h:HI c J H):Ext c.J0 c.H0 J H:=⟨h.ent,h.entJ,h.sub,h.frz⟩
noncomputable def gI(n:Nat)(F:234):List R->M R:=λrs=>if rs.length=n then(match F (rs.map bH)with
 | .ok r=>.ok (cu r)
 | .exc x=>.exc x
 | .bad=>.bad)else .bad
noncomputable def kN(cls fld:Str)(gs:244):G O:=λenv=>gs env>>=λds=>match ds with
 |[d]=>.exc ⟨cls,[fld],[d]⟩
 |_=>.bad
section
variable{X:Cx}{c:C}{k:Nat}{f Ca:UX}{fd:Vp}{ps:List Str}{x fld:Str}{p cpos pos:Pos}{e:VC}{es:List VC}{gs:G (List D)}
theorem Fw(M:B0 X.K Ca f)(F:dF X.prog X.w X.K X.mg X.base ia k f fd ps (uD Ca fld))(hr:cG (k+1) X.A)(hg:Gl X x)(hm:X.mg x=some (.ref Ca))(hns:U1 c.K UT x=some (some (.ref Ca)))(TL:∃P,GX c.K P/\XE c.K P Ca)(hb:Binds X.K fd ps [])(hx:ME X c)(S3:X.calm=true)(ha:P9 X c (e::es) gs)(hdb:141)
  (he:153) (hpl:autoParam ((Wr cpos 319).any (·.1)=false) zzA._auto_1):D3 X c (.Raise (some (.Call (.Name x p) (e::es) [] cpos)) none pos) (kN x fld gs):=by
 obtain⟨E',hc,hE⟩:=hx;refine fK (FN (E:=E0) M F hr hg hm hb Dj hc S3 ha hdb he hpl) λD0 σ H ⟨J,env,sr,w⟩=>?_;refine⟨J,env,sr,aB (aH w) λds wr vs J1 H1 e1 rs=>?_⟩
 match ds,wr,rs with
 |[],wr,_=>exact wr.elim
 |_::_::_,wr,_=>exact wr.elim
 |[d0],wr,rs=>
  have wr:c.T ⟨x,[fld],[d0]⟩:=wr;cases rs with
  |cons r0 rn=>
   cases rn;rename_i v;refine⟨by show 1<=sizeLine;decide,λa han hn=>⟨a,v,rfl,bf,λdd hd=>?_⟩⟩;have da:dd≠a:=λz=>by rw[z,bf]at hd;cases hd
   have hd1:H1 dd=none:=by rw[aU da]at hd;exact hd
   have hp:=sr.hp.ext e1;have ja:J1 a=none:=by
    cases q:J1 a with
    |none=>rfl
    |some o=>rw[hp.sub a o q]at hn;cases hn
   have jd:J1 dd=none:=by
    cases q:J1 dd with
    |none=>rfl
    |some o=>rw[hp.sub dd o q]at hd1;cases hd1
   refine⟨rfl,a,some dd,rfl,han,by rw[aU (VF da),bf],?_⟩;have old:∀b,H1 b≠none->b≠a/\b≠dd:=λb hb=>⟨λz=>hb (z▸hn),λz=>hb (z▸hd1)⟩;refine hE _ wr 307 (some dd) (upd (upd J1 a (XO a Ca (some dd))) dd (.xd [(fld,v)])) _ (hp.since.trans ⟨λb o hb=>?_,λb o hb=>?_,λb o hb=>?_,λb hb hj=>?_⟩) ⟨a,Ca,[v],rfl,by rw[aU (VF da),bf],hns,.inr ⟨dd,rfl,rfl,bf⟩,.cons (r0.mono λb o hb=>?_) .nil,TL⟩
   ·obtain⟨n1,n2⟩:=old b (by rw[hb];intro z;cases z);rw[aU n1,aU n2,aU n1,aU n1];exact hb
   ·have n1:b≠a:=λz=>by rw[z,ja]at hb;cases hb
    have n2:b≠dd:=λz=>by rw[z,jd]at hb;cases hb
    rw[aU n2,aU n1];exact hb
   ·by_cases z1:b=dd
    ·subst z1;rw[bf]at hb;rw[aU da,bf];exact hb
    ·rw[aU z1]at hb;by_cases z2:b=a
     ·subst z2;rw[bf]at hb;rw[bf];exact hb
     ·rw[aU z2]at hb;rw[aU z2,aU z1,aU z2,aU z2];exact hp.sub b o hb
   ·obtain⟨n1,n2⟩:=old b hb;rw[aU n2,aU n1];exact hj
   ·have n1:b≠a:=λz=>by rw[z,ja]at hb;cases hb
    have n2:b≠dd:=λz=>by rw[z,jd]at hb;cases hb
    rw[aU n2,aU n1];exact hb
end
end DL
namespace DX
open PySem PySem.Spec PyProof.Rows L2
theorem Hx{X:Cx}{Ux:143}{σ:L2.St}{H:Hp}{s:UI}{e C T':UX}{dx To:259}{h':VU}(I:325)(ap:∀T∈To.toList,Apart X Ux T)(fr:∀T∈To.toList,H T=none)(iP:H e=some (XO e C dx))(lf:Left (vN X.stack) (e::To.toList) s.heap h')(fy:jz e C dx T' h'):L2.Inv X Ux σ H {s with heap:=h'}:=by
 have sf:=I.stkFree;have ne:∀b,H b=none->b≠e:=λb n z=>by rw[z,iP]at n;cases n
 refine I.call' (ch:=To.toList) rfl ⟨λb o hb hn hfs hx=>?_,λb o hb hn _ hx=>?_,λ_ _ _ n _=>n,λb o hb hx=>?_,λ_ _ q=>q,λ_ _ _ q=>q,λ_ ps q=>⟨#[],by rw[q];simp⟩⟩ (λa o ha=>?_) I.bare ap
 ·exact lf.keep b o hb (λz=>(UR.mp z).elim (ne b hn) hx) hfs
 ·exact lf.slot b o hb λz=>(UR.mp z).elim (ne b hn) hx
 ·by_cases z:b=e
  ·obtain⟨oe,_,q,_⟩:=fy.is;exact⟨oe,z▸q⟩
  ·obtain⟨sl,q⟩:=lf.slot b o hb λy=>(UR.mp y).elim z hx;exact⟨_,q⟩
 ·by_cases z:a=e
  ·subst z;rw[iP]at ha;obtain rfl:=Ve ha;exact yS fy.is
  ·refine(I.hok a o ha).stay (λb u hb q=>?_) (λ_ q=>q) λ_ _ q=>q;have tr:H b≠none:=by
    rcases hb with rfl|hb
    ·rw[ha];intro z;cases z
    ·rw[hb];intro z;cases z
   refine lf.keep b u q (λhm=>?_) λhm=>tr (sf b hm);rcases UR.mp hm with y|y
   ·rcases hb with rfl|hb
    ·exact z y
    ·rw[y,iP]at hb;cases hb
   ·exact tr (fr b y)
theorem HH{X:Cx}{Ux:143}{σ:L2.St}{H:Hp}{s:UI}{e C:UX}{dx To:259}{Q:347}{E:136}(hst:X.stack=X.env::X.outer)(hf:X.env.frame=some X.env.locals)(I:325)(fl:Fl e C dx To s.heap)(ap:∀T∈To.toList,Apart X Ux T)(fr:∀T∈To.toList,H T=none)
  (iP:H e=some (XO e C dx)) (h:∀h' T',L2.Inv X Ux σ H {s with heap:=h'}->jz e C dx T' h'->(s.heap.objs.size<=T'\/T'∈To.toList)->Q () {s with heap:=h'}):UZ 126 X.A (Yl (.ref e) X.env) (λ_ s'=>UZ 126 X.A (aaH (.ref e) none) Q E s') E s:=
 zl (hst▸I.ok.frames) (hst▸I.stack) hf fl λh' T' lf t0 fy=>h h' T' (Hx I ap fr iP (hst▸lf) fy) fy t0
section
variable{M:ab8}{A:Vw}{E:UH->UI->Prop}{h:VU}{g:Array abU}{d:afN}{t:Nat}{os:abo}
variable{nm q nb qb:Str}{C N Cb Nb e:UX}{bs bm bsb bmb:List UH}{hdct Sn:Bool}{sn snb:List Str}{sub subb:List UH}{ab abb:Bool}{col colb:Option Bool}{dd ddb:Option UX}{k0 k1 k2 k3 k5 j0 j1 j2 j3 j5:Option UH}{newId newIdb:String}
theorem w4{oe:Obj}{Q:Bool->UI->Prop}(hC:h.get? C=some 144)(hB:h.get? Cb=some (VP nb qb Cb Nb bsb bmb Sn snb subb abb colb ddb j0 j1 j2 j3 j5 newIdb))(he:h.get? e=some oe)(hc:oe.cls=.ref C)(hbase:bmb.contains 323=true)(hin:bm.contains (.ref Cb)=true)
  (hq:Q true ⟨h,g,d,t,os⟩):UZ M A (excMatches (.ref e) (.ref Cb)) Q E ⟨h,g,d,t,os⟩:=by
 have a1:(VI Cb::bmb).contains 323=true:=by simp only[Wz,hbase,aaq]
 have a2:(VI C::bm).contains (.ref Cb)=true:=by simp only[Wz,hin,aaq]
 have f:=tc_notTuple;unfold excMatches
 repeat (first|(with_reducible refine Wu he ?_;rw[hc])|with_reducible refine Wu hB ?_|(with_reducible refine Yi hB ?_;rw[a1])|(with_reducible refine Yi hC ?_;rw[a2])|wp_step)
 exact hq
end
theorem Cw{fr:259}{X:Cx}{Ux:143}{σ:L2.St}{H:Hp}{s:UI}{e C T:UX}{dx:259}{M:ab8}{A:Vw}{Q:347}{E:136}(I:325)(fy:jz e C dx T s.heap)(ap:Apart X Ux T)(ft:H T=none)
  (h:∀h',L2.Inv X Ux σ H {s with heap:=h'}->jz e C dx T h'->Q () {s with heap:=h'}):UZ M A (aaH (.ref e) fr) Q E s:=by
 refine JJ fy λh' ot fy2=>h h' ?_ fy2;refine I.call' (ch:=[T]) rfl ⟨λb o hb hn _ hx=>?_,λb o hb hn _ hx=>⟨o.slots,?_⟩,λ_ _ _ n _=>n,λb o hb hx=>⟨o,?_⟩,λ_ _ q=>q,λ_ _ _ q=>q,λ_ ps q=>⟨#[],by rw[q];simp⟩⟩ (λa o ha=>?_) I.bare (λb hb=>by rw[UM.mp hb];exact ap)
 ·exact(ot b λz=>hx (by simp[z])).trans hb
 ·exact(ot b λz=>hx (by simp[z])).trans hb
 ·exact(ot b λz=>hx (by simp[z])).trans hb
 ·refine(I.hok a o ha).stay (λb u hb q=>?_) (λ_ q=>q) λ_ _ q=>q;refine(ot b λz=>?_).trans q;rcases hb with rfl|hb
  ·rw[z,ft]at ha;cases ha
  ·rw[z,ft]at hb;cases hb
abbrev mk(X:Cx)(v:UH)(E:136):Cx:={X with A:=X.A.mark (some v),calm:=false,xe:=E}
theorem ze{H:Hp}(I:325)(v:UH)(E:136):L2.Inv (mk X v E) Ux σ H s:=
 ⟨⟨I.ok.mod,I.ok.kind,I.ok.glob,I.ok.blt,I.ok.above,I.ok.inj,I.ok.has,I.ok.cab,(λz=>by cases z),I.ok.frames,I.ok.stk,I.ok.exf,I.ok.bs,I.ok.bsz,I.ok.noex,I.ok.exfs,I.ok.funs,I.ok.frf⟩,I.os,I.bare,I.base,I.loc,I.cell,I.free,I.freeC,I.pin,I.hok,I.len⟩
theorem DK{H H':Hp}{E:136}(I0:L2.Inv X Ux σ' H' s')(I:L2.Inv (mk X v E) Ux σ H s):L2.Inv X Ux σ H s:=
 ⟨I0.ok,I.os,I.bare,I.base,I.loc,I.cell,I.free,I.freeC,I.pin,I.hok,I.len⟩
noncomputable def jb(CX:mj)(X:Cx)(E:XK)(σ:L2.St):Prop:=∀(Ux:143)(H:Hp)(s:UI)(e:UH)(s':UI),L2.Inv X Ux σ H s->CX X.stack H s E e s'->X.xe e s'
noncomputable def oi(X:Cx)(E:XK)(σ:L2.St):Prop:=∀(Ux:143)(H':Hp)(s':UI)(e C:UX)(dx To:259),L2.Inv X Ux σ H' s'->Fl e C dx To s'.heap->X.s₀.heap.objs.size<=e->(∀T∈To.toList,X.s₀.heap.objs.size<=T/\Apart X Ux T)->
 H' e=some (XO e C dx)->(∀T∈To.toList,H' T=none)->E (.ref e) dx H'->X.xe (.ref e) s'
theorem oi.passes{X:Cx}{E:XK}(h:oi X E σ):jb (kr X.prog X.w) X E σ:=λUx H s v s' I ⟨e,C,dx,T,H',ev,f⟩=>by subst ev;have J:L2.Inv X Ux σ H' s':=I.call' (ch:=[]) f.os f.un f.hok f.bare (λb z=>by cases z);exact h Ux H' s' e C dx (some T) J f.fl (Vr I.sz f.newE) (λU hU=>⟨Vr I.sz (f.newT U hU),apart_new I (f.newT U hU)⟩) f.iP f.free f.wish
section
variable{X:Cx}{CX:mj}{k:Nat}{f:UX}{fd:Vp}{ps:List Str}{sp:Sp}{dvs:List V}{ds:List UH}{E:XK}{x:Str}{p pos:Pos}{e:VC}{es:List VC}{t:TA}
theorem LU{H:Hp}{Q:VK}(F:265)(hr:cG k X.A)(hb:Binds X.K fd ps ds)(hd:Vals dvs ds)(hx:jb CX X E σ)
 (I:325) (r:Vals vs us) (h:sp (vs++dvs) H Q E):UZ 126 X.A (call 344 us) (EP X Ux σ Q) X.xe s:=by
 have rr:Vals (vs++dvs) (us++ds):=r.append hd;have ll:(us++ds).length=ps.length:=by rw[<-rr.length];exact F.len _ _ _ _ h
 refine Yo (Xo (F.run X.A X.stack s H ⟨us,[]⟩ (us++ds) (vs++dvs) Q E hr I.env0 (hb s us I.kIn ll) rr h) λr s1 hq=>?_)
 match r,hq with
 | .error e,hq=>exact hx Ux H s e s1 I hq
 | .ok (.ret u),hq=>exact I.after hq
 | .ok .next,hq=>exact WB hq
 | .ok .brk,hq=>exact WB hq
 | .ok .cont,hq=>exact WB hq
theorem zp(F:265)(hr:cG k X.A)(hg:Gl X x)(hm:X.mg x=some 344)(hk:Vu X.K 344=true)(hb:Binds X.K fd ps ds)(hd:Vals dvs ds)
  (ha:PA X (e::es) t) (hdb:141) (he:153) (hpl:autoParam ((Wr pos 319).any (·.1)=false) zzA._auto_1):
  PE X 205 (λσ H Q=>∃E,jb CX X E σ/\Dz sp dvs E t σ H Q):=by intro Ux s σ H Q I ⟨E,hx,h⟩;refine Xc (jY I hg hm ?_ hdb);exact Zb (h₀:=X.base) I.ok.mod.kin hk (bO (ha pos Ux s σ H _ I h) λus s1 ⟨vs,H1,I1,r,q⟩=>⟨I1.kIn,LU F hr hb hd hx I1 r q⟩) he hpl
end
abbrev tb(X:Cx)(pn:143)(xe:136):Cx:={X with pn:=pn,xe:=xe}
theorem Pb{X:Cx}{xe:136}(o:X.Ok):(tb X pn xe).Ok:=
 ⟨o.mod,o.kind,o.glob,o.blt,o.above,o.inj,o.has,o.cab,o.hd,o.frames,o.stk,o.exf,o.bs,o.bsz,o.noex,o.exfs,o.funs,o.frf⟩
theorem OL{X:Cx}{H:Hp}(I:325)(xe:136):L2.Inv (tb X (X.pn++Ux) xe) [] σ H s:=
 ⟨Pb I.ok,I.os,I.bare,I.base,I.loc,I.cell,I.free,I.freeC,λp hp=>I.pin p (by simpa using hp),I.hok,I.len⟩
theorem m6{X:Cx}{H:Hp}{xe:136}(o:X.Ok)(I:L2.Inv (tb X (X.pn++Ux) xe) pins' σ H s):L2.Inv X Ux σ H s:=
 ⟨o,I.os,I.bare,I.base,I.loc,I.cell,I.free,I.freeC,λp hp=>I.pin p (VR _ hp),I.hok,I.len⟩
theorem OA{X:Cx}{D:Ends}{xe:136}(o:X.Ok)(h:SP (tb X (X.pn++Ux) xe) [] D f s):SP X Ux D f s:=by
 cases f with
 |next=>obtain⟨σ,H,I,q⟩:=h;exact⟨σ,H,m6 o I,q⟩
 |brk=>obtain⟨σ,H,I,q⟩:=h;exact⟨σ,H,m6 o I,q⟩
 |cont=>obtain⟨σ,H,I,q⟩:=h;exact⟨σ,H,m6 o I,q⟩
 |ret u=>obtain⟨v,σ,H,I,r,q⟩:=h;exact⟨v,σ,H,m6 o I,r,q⟩
theorem KH{X:Cx}{σ:L2.St}{H:Hp}{M:ab8}{E:136}{pos:Pos}{Q:347}(I:325)(hN:X.N.Nodup)(hi:X.N[i]?=some x)(hk:X.env.scope.names.lookup x=some .local)
 (h:∀s',L2.Inv X Ux (σ.set i none) H s'->Q () s'):UZ M A (do bindName X.env x .none;unbindBehindTheSuite X.env x pos) Q E s:=by
 obtain⟨m,hn,hl⟩:=id I.loc;have cne:=I.cne;refine wpAny_nameGoes_keeps hk hn (by rw[I.ok.kind];rfl) λh' v hn' hs=>h _ ?_;obtain⟨oL,_,_,TU,_⟩:=id hn;have hok:eT X.prog X.w H h':=λb ob e=>by
  refine(I.hok b ob e).stay (λc w' hc q=>(hs.2 c ?_).trans q) (λ_ q=>q) λ_ _ q=>q;intro z;subst z;have fr:=I.free;rcases hc with z|hc
  ·rw[<-z]at e;rw[fr]at e;cases e
  ·rw[fr]at hc;cases hc
 have old:∀b o,X.s₀.heap.get? b=some o->b≠X.env.locals:=λb o e=>U4 (U6 (UY e) I.ok.above);refine⟨I.ok,I.os,I.bare,⟨λb o e n hb hx=>(hs.2 b (old b o e)).trans (I.base.keep b o e n hb hx),λb o e n hb hx=>?_,I.base.free,λb o e hx=>?_,I.base.tups,I.base.frzs,I.base.tbls⟩,⟨_,hn',λj y w' e1 e2 e3=>?_⟩,λy c e=>?_,I.free,I.freeC,λp hp=>?_,hok,by simpa using I.len⟩
 ·obtain⟨sl,e1⟩:=I.base.slot b o e n hb hx;exact⟨sl,(hs.2 b (old b o e)).trans e1⟩
 ·obtain⟨o',e1⟩:=I.base.there b o e hx;exact⟨o',(hs.2 b (old b o e)).trans e1⟩
 ·by_cases hj:j=i
  ·subst hj;rw[aaI]at e2;simp at e2
  ·rw[Vd (VF hj)]at e2;obtain⟨u',r',q⟩:=hl j y w' e1 e2 e3;refine⟨u',r',?_⟩;rcases q with⟨k,e⟩|⟨k,c,e,z⟩
   ·have ny:y≠x:=λe=>hj (rW hN e1 (e▸hi));exact .inl ⟨k,by simp[ny,e]⟩
   ·exact .inr ⟨k,c,e,z.sameBut hs (cne y c e)⟩
 ·obtain⟨w',z⟩:=I.cell y c e;exact⟨w',z.sameBut hs (cne y c e)⟩
 ·obtain⟨e,n,ne,nf,d⟩:=I.pin p hp;exact⟨(hs.2 p.1 ne).trans e,n,ne,nf,d⟩
structure Below(K:UG)(C Cb:UX):Prop where
 ex:∃nm q N bs bm hdct sn sub ab col dd k0 k1 k2 k3 k5 newId nb qb Nb bsb bmb Sn snb subb abb colb ddb j0 j1 j2 j3 j5 newIdb,K.lookup C=some 144/\
  K.lookup Cb=some (VP nb qb Cb Nb bsb bmb Sn snb subb abb colb ddb j0 j1 j2 j3 j5 newIdb)/\bmb.contains 323=true/\bm.contains (.ref Cb)=true
section
variable{X:Cx}{Ux:List (UX×Obj)}{σ:L2.St}{H:Hp}{s:UI}{e C Cb T:UX}{dx:Option UX}{D:Ends}{i j:Nat}{n y B:Str}{p1 p2 p3 pos pos2:Pos}
theorem EH(I:325)(fy:jz e C dx T s.heap)(ap:Apart X Ux T)(ft:H T=none)(hb:Below X.K C Cb)(hg:Gl X B)(hm:X.mg B=some (.ref Cb))(hdb:(B==389)=false)(hN:X.N.Nodup)(hi:X.N[i]?=some n)(hj:X.N[j]?=some y)
  (hn:X.env.scope.names.lookup n=some .local) (hy:X.env.scope.names.lookup y=some .local) (hs:Xj (.Name n p2) (some (.Name y p1)) pos2.line X.env=pure false) (hd:(n==389)=false) (hcd:(n==306)=false)
  (h:D.nx (((σ.set i (some (.ref e))).set j (some (.ref e))).set i none) H):
  UZ 126 X.A (afK (.ref e) X.env [.ExceptHandler (some (.Name B p3)) (some n) [.Assign [.Name y p1] (.Name n p2) pos2] pos]) (SP X Ux D) X.xe s:=by
 obtain⟨nm,q,N,bs,bm,hdct,sn,sub,ab,col,dd,k0,k1,k2,k3,k5,newId,nb,qb,Nb,bsb,bmb,Sn,snb,subb,abb,colb,ddb,j0,j1,j2,j3,j5,newIdb,lC,lB,hbase,hin⟩:=hb.ex;refine wpAny_handleBy_cons (codeAny_handlers_test ?_) (by intro q;cases q);refine jY (X:=mk X (.ref e) λ_ _=>False) (ze I _ _) hg hm ?_ hdb;obtain⟨oe,vs,oT,ts,_,he,hc,hrest⟩:=id fy;have kI:=I.kIn;obtain⟨hp,gs,dr,tk,os⟩:=s;refine w4 (kI _ _ lC) (kI _ _ lB) he hc hbase hin ?_;show WC _ _ _ _ _;refine codeAny_handlers_suite_as ?_;refine Cw I fy ap ft λh' I1 fy1=>?_;refine nN (X:=mk X (.ref e) λ_ _=>False) (v:=.ref e) (ze I1 _ _) hN hi (.inl hn) rfl (λs2 I2=>?_) (.inr hn);have st:=jk (mR (X:=mk X (.ref e) λ_ _=>False) (pos:=pos2) (pos':=p1) hN hj (.inl hy) (eK (X:=mk X (.ref e) λ_ _=>False) (i:=i) (x:=n) (pos:=p2) hi (.inl hn) hd hcd) hs (.inr hy));have hil:i<σ.length:=by rw[I.len];exact(Vs.mp hi).1
 refine VH (st Ux s2 (σ.set i (some (.ref e))) H {nx:=λσ' H'=>σ'=(σ.set i (some (.ref e))).set j (some (.ref e))/\H'=H,rt:=λ_ _=>False} I2 ⟨.ref e,by simp[hil],rfl,rfl⟩) (λf s3 h3=>?_) (λ_ _ z=>z.elim);cases f with
 |next=>
  obtain⟨σ',H',I3,rfl,rfl⟩:=h3;refine KH (X:=X) (DK I I3) hN hi hn λs4 I4=>?_;exact⟨_,_,I4,h⟩
 |brk=>obtain⟨_,_,_,z⟩:=h3;exact z.elim
 |cont=>obtain⟨_,_,_,z⟩:=h3;exact z.elim
 |ret u=>obtain⟨_,_,_,_,_,z⟩:=h3;exact z.elim
end
end DX
namespace DL
open PySem PySem.Spec PyProof.Rows L2 DX
abbrev C.wT(c:C)(T:359):C:={c with T:=T}
theorem SR.wT{c:C}{J H:Hp}(h:SR c J H σ env)(T:359):SR (c.wT T) J H σ env:=⟨⟨h.hp.sub,h.hp.ent,h.hp.entJ,h.hp.frz⟩,h.len,h.at_,h.sep⟩
theorem SR.unT{c:C}{J H:Hp}{T:359}(h:SR (c.wT T) J H σ env):SR c J H σ env:=⟨⟨h.hp.sub,h.hp.ent,h.hp.entJ,h.hp.frz⟩,h.len,h.at_,h.sep⟩
theorem HI.unT{c:C}{J H:Hp}{T:359}(h:HI (c.wT T) J H):HI c J H:=⟨h.sub,h.ent,h.entJ,h.frz⟩
theorem oP.wT{c:C}{J:Hp}{E:Ends}{T:359}:∀{o:O},oP c J E o->oP (c.wT T) J E o
 | .nx _,h=>λσ' J' H' q r=>h σ' J' H' q r.unT
 | .rt r,h=>λv J' H' q r1 r2=>h v J' H' q r1.unT (by cases r<;>exact r2)
 | .bk _,h=>λσ' J' H' q r=>h σ' J' H' q r.unT
 | .ct _,h=>λσ' J' H' q r=>h σ' J' H' q r.unT
noncomputable def Qd(c:C)(g:G O)(σ0:L2.St)(Jt Ht:Hp)(T:359):TS:=λD σ H=>σ=σ0/\∃J env,Ext Jt Ht J H/\SR (c.wT T) J H σ env/\cJ (g env) (oP (c.wT T) J D) T
noncomputable def Rl(c:C)(g:G R)(σ0:L2.St)(Jt Ht:Hp)(T:359):TE:=λσ H Q=>σ=σ0/\∃J env,Ext Jt Ht J H/\SR (c.wT T) J H σ env/\cJ (g env) (λr=>∀v J' H',Ext J H J' H'->RR (c.wT T) H J' H' r v->Q v H') T
structure rH(X:Cx)(c:C)(sts:List Xq)(g:G O):Prop where
 h:∀(pn:143)(xe:136)(T:359)(σ0:L2.St)(E:XK)(Jt Ht:Hp),jb (kr X.prog X.w) (tb X pn xe) E σ0->(∀x J H,T x->Ext Jt Ht J H->XW c.K J H E x)->iQ (tb X pn xe) sts (Qd c g σ0 Jt Ht T)
structure xq(X:Cx)(c:C)(st:Xq)(g:G O):Prop where
 h:∀(pn:143)(xe:136)(T:359)(σ0:L2.St)(E:XK)(Jt Ht:Hp),jb (kr X.prog X.w) (tb X pn xe) E σ0->(∀x J H,T x->Ext Jt Ht J H->XW c.K J H E x)->PS (tb X pn xe) st (Qd c g σ0 Jt Ht T)
structure xu(X:Cx)(c:C)(e:VC)(g:G R):Prop where
 h:∀(pn:143)(xe:136)(T:359)(σ0:L2.St)(E:XK)(Jt Ht:Hp),jb (kr X.prog X.w) (tb X pn xe) E σ0->(∀x J H,T x->Ext Jt Ht J H->XW c.K J H E x)->PE (tb X pn xe) e (Rl c g σ0 Jt Ht T)
section
variable{X:Cx}{c:C}{e:VC}{es:List VC}{pos:Pos}{g:G R}
theorem rZ{st:Xq}{t:G O}(h:xq X c st t):rH X c [st] t:=⟨λpn xe T σ0 E Jt Ht a b=>jk (h.h pn xe T σ0 E Jt Ht a b)⟩
theorem LN{tt:G Bool}{t u:G O}(hx:∀pn xe T,PB (tb X pn xe) (c.wT T) x tt)(h:rH X c as t)(h':rH X c bs u):xq X c (.If x as bs pos) (aM tt t u):=
 ⟨λpn xe T σ0 E Jt Ht a b=>fK (Dl (hx pn xe T) (h.h pn xe T σ0 E Jt Ht a b) (h'.h pn xe T σ0 E Jt Ht a b)) λD σ H ⟨es,J,env,ex,sr,w⟩=>by
  refine⟨J,env,sr,aB (aH w) λk wk J1 H1 e1=>?_⟩;cases k with
  |true=>
   rw[if_pos rfl]at wk ⊢;exact⟨es,J1,env,ex.trans e1,sr.ext e1,aB wk λo q=>q.mono e1.j⟩
  |false=>
   rw[if_neg 120]at wk ⊢;exact⟨es,J1,env,ex.trans e1,sr.ext e1,aB wk λo q=>q.mono e1.j⟩⟩
theorem zE(i:Nat){x:Str}{pos':Pos}(hN:X.N.Nodup)(h:xu X c e g)(hi:autoParam (X.N[i]?=some x) zzA._auto_1)(hx:Loc X.env.scope x:=by first|exact Yc rfl|exact Xa rfl)(hs:autoParam (Xj e (some (.Name x pos')) pos.line X.env=pure false) zzA._auto_1)
  (hf:151:=by first|exact .inl rfl|exact .inr rfl):xq X c (.Assign [.Name x pos'] e pos) (aN i g):=
 ⟨λpn xe T σ0 E Jt Ht a b=>fK (mR (X:=tb X pn xe) hN hi hx (h.h pn xe T σ0 E Jt Ht a b) hs hf) λD σ H ⟨es,J,env,ex,sr,w⟩=>by
  refine⟨es,J,env,ex,sr,aB (aH w) λr wr v J1 H1 e1 r1=>?_⟩;obtain⟨x,q,wr⟩:=qk wr;exact wr (σ.set i (some v)) J1 H1 e1.j (sr.set e1 r1 q)⟩
theorem FY{F:234}{gs:338}(G:dF X.prog X.w X.K X.mg X.base (kr X.prog X.w) k f fd ps (zO X.K n F))(hr:cG k X.A)(hm:X.mg x=some 344)(hk:Vu X.K 344=true)
 (hb:Binds X.K fd ps []) (ha:∀pn xe T,DZ (tb X pn xe) (c.wT T) (e::es) gs) (hT:autoParam (c.K=X.K) zzA._auto_1) (hg:autoParam (Gl X x) zzA._auto_1) (hdb:141) (he:153)
 (hpl:autoParam ((Wr pos 319).any (·.1)=false) zzA._auto_1):xu X c 205 (gN (gI n F) gs):=⟨λpn xe T σ0 E Jt Ht hp hE=>by
 refine dX (zp (X:=tb X pn xe) (CX:=kr X.prog X.w) G hr hg hm hk hb .nil (ha pn xe T) hdb he hpl) λσ H Q ⟨es,J,env,ex,sr,w⟩=>?_;subst es;refine⟨E,hp,J,env,sr,aB (aH w) λrs wr vs J1 H1 e1 r1=>?_⟩;unfold gI at wr;split at wr
 ·rename_i hl;have h1:=sr.hp.ext e1;have ar:=r1.args h1;have ar:gD c.K J1 H1 (rs.map bH) vs:=ar;rw[hT]at ar;refine⟨J1,rs.map bH,e1.sub,by simpa using hl,by rw[V7];exact ar,?_⟩;cases q:F (rs.map bH)with
  |bad=>rw[q]at wr;exact wr
  |exc x=>rw[q]at wr;exact hT▸hE x J1 H1 wr (ex.trans e1)
  |ok r=>
   rw[q]at wr;intro v J' H' e2 fr;refine wr v J' H' (e1.trans e2) ?_;cases r with
   |d y=>exact(show Rep c.K J' y v from hT▸fr)
   |o m _ _=>cases m with
    |own=>exact fr.elim
    |bor=>exact fr.elim
    |fresh=>obtain⟨a,h1,h2,h3,h4⟩:=fr;exact⟨a,h1,hT▸h2,h3,e1.h.free h4⟩
   |l m ys=>
    obtain⟨a,us,h1,h2,h3,h4,h5⟩:=fr;exact⟨a,us,h1,h2,h3,e1.h.free h4,hT▸h5⟩
 ·exact wr.elim⟩
noncomputable def oO(i j:Nat)(L:131)(g:G O):G O:=λenv=>match g env with
 | .exc x=>if L.contains x.cls=true then .ok (.nx ((env.set j (some (.d (.exn x.cls x.ns x.ds)))).set i none))else .bad
 | .ok o=>.ok o
 | .bad=>.bad
theorem SR.caught{J H:Hp}{σ:L2.St}{env:Ev}(sr:SR c J H σ env)(hij:i≠j)(r:Rep c.K J d v):SR c J H (((σ.set i (some u)).set j (some v)).set i none) ((env.set j (some (.d d))).set i none):=by
 refine⟨sr.hp,by simpa using sr.len,λk x q=>?_,λk l xs ys w Uh q1 q2 q3 q4=>?_⟩
 ·by_cases ki:k=i
  ·subst ki;rw[aaI]at q;simp at q
  ·rw[Vd (VF ki)]at q ⊢;rcases fQ q with⟨rfl,hl,rfl⟩|⟨kj,q⟩
   ·exact⟨v,by rw[V1 (by simpa using sr.len▸hl)],r⟩
   ·obtain⟨w,h1,h2⟩:=sr.at_ k x q;exact⟨w,by rw[Vd (VF kj),Vd (VF ki)];exact h1,h2⟩
 ·have f:∀(k:Nat)(ys:Mn),((env.set j (some (.d d))).set i none)[k]?=some (some (mS ys))->k≠i/\k≠j/\env[k]?=some (some (mS ys)):=λk ys q=>by
   by_cases ki:k=i
   ·subst ki;rw[aaI]at q;simp at q
   ·rw[Vd (VF ki)]at q;rcases fQ q with⟨rfl,hl,z⟩|⟨kj,q⟩
    ·cases ys<;>cases z
    ·exact⟨ki,kj,q⟩
  obtain⟨a1,a2,a3⟩:=f k xs q1;obtain⟨b1,b2,b3⟩:=f l ys q2;rw[Vd (VF a1),Vd (VF a2),Vd (VF a1)]at q3;rw[Vd (VF b1),Vd (VF b2),Vd (VF b1)]at q4;exact sr.sep k l xs ys w Uh a3 b3 q3 q4
theorem Ll{t:G O}{p1 p2 p3 pos2 hpos:Pos}(hb:rH X c body t)(Ua:∀cls∈L,∀C,U1 c.K UT cls=some (some 241)->Below X.K C Cb)(hm:X.mg B=some (.ref Cb))(hN:X.N.Nodup)
 (hst:X.stack=X.env::X.outer) (hfr:X.env.frame=some X.env.locals) (hg:autoParam (Gl X B) zzA._auto_1) (hi:autoParam (X.N[i]?=some n) zzA._auto_1) (hj:autoParam (X.N[j]?=some y) zzA._auto_1) (hij:autoParam (i≠j) zzB._auto_1) (hn:autoParam (X.env.scope.names.lookup n=some .local) zzA._auto_1) (hy:autoParam (X.env.scope.names.lookup y=some .local) zzA._auto_1)
 (hs:autoParam (Xj (.Name n p2) (some (.Name y p1)) pos2.line X.env=pure false) zzA._auto_1) (hdb:autoParam ((B==389)=false) zzB._auto_1) (hd:autoParam ((n==389)=false) zzB._auto_1) (hcd:autoParam ((n==306)=false) zzB._auto_1):
  D3 X c (.Try body [.ExceptHandler (some (.Name B p3)) (some n) [.Assign [.Name y p1] (.Name n p2) pos2] hpos] [] [] pos) (oO i j L t):=by
 intro Ux s σ H D I ⟨J,env,sr,w⟩;refine wpAny_Try_except ?_;have key:∀(T:359),(∀x,T x->L.contains x.cls=true/\oP c J D (.nx ((env.set j (some (.d (.exn x.cls x.ns x.ds)))).set i none)))->cJ (t env) (oP c J D) T->
   UZ 126 X.A (execs body X.env) (λf s₁=>match f with | .next=>UZ 126 X.A (execs [] X.env) (SP X Ux D) X.xe s₁|f=>SP X Ux D f s₁)
    (λe s₁=>UZ 126 X.A (Yl e X.env) 356 X.xe s₁) s:=by
  intro T hT wt
  let xe:UH->UI->Prop:=λe s₁=>UZ 126 X.A (Yl e X.env) 356 X.xe s₁
  let E:XK:=λv dx H'=>∃x J',T x/\Ext J H J' H'/\MF c.K J' x v dx
  have ca:oi (tb X (X.pn++Ux) xe) E σ:=λpins' H' s' e C dx To I' fl nw ap iP fr ⟨x,J',hx,ex,a,C',vs,ev,ha,hns,xf,rs,TL⟩=>by
   cases ev;have I2:=m6 I.ok I';have e1:XO e C dx=XO e C' dx:=by have:=ex.sub _ _ ha;rw[iP]at this;exact Ve this
   have ap2:∀T∈To.toList,Apart X Ux T:=λT hT=>⟨(ap T hT).2.1,(ap T hT).2.2.1,(ap T hT).2.2.2.1,λp hp=>(ap T hT).2.2.2.2 p (VR _ hp)⟩;refine HH hst hfr I2 fl ap2 fr iP λh' T' I3 fy t0=>?_;have isx:pL e C' dx h':=by have z:=fy.is;have e2:pL e C dx=pL e C' dx:=HO.ext.inj e1;rw[e2]at z;exact z
   have cc:C=C':=by obtain⟨oe,_,q1,q2,_⟩:=isx;obtain⟨oe',_,q1',q2',_⟩:=fy.is;rw[q1]at q1';cases q1';rw[q2]at q2';cases q2';rfl
   subst cc;obtain⟨hL,hw⟩:=hT x hx;have R6:=Ua x.cls (Wo.mp hL) C hns;refine EH (i:=i) (j:=j) I3 fy (t0.elim (apart_new I2) (ap2 T')) (t0.elim I2.hok.fresh (fr T')) R6 hg hm hdb hN hi hj hn hy hs hd hcd ?_;have rp:Rep c.K J' (.exn x.cls x.ns x.ds) (.ref e):=.exn ha hns xf rs TL;exact hw _ J' H' ex.j ((sr.ext ex).caught hij rp)
  have T8:∀x J1 H1,T x->Ext J H J1 H1->XW c.K J1 H1 E x:=λx J1 H1 hx e1 v dx J2 H2 e2 xr=>⟨x,J2,hx,e1.trans e2,xr⟩;refine VH (hb.h (X.pn++Ux) xe T σ E J H ca.passes T8 [] s σ H D (OL I xe) ⟨rfl,J,env,Ext.refl sr.hp.sub,sr.wT T,aB wt λo q=>q.wT⟩) (λf s1 h1=>?_) (λ_ _ z=>z);have h2:=OA I.ok h1;cases f with
  |next=>exact(vo Ux s1 _ _ D h2.choose_spec.choose_spec.1 h2.choose_spec.choose_spec.2)
  |brk=>exact h2
  |cont=>exact h2
  |ret u=>exact h2
 unfold oO at w;cases q:t env with
 |bad=>rw[q]at w;exact w.elim
 |ok o=>
  rw[q]at w;exact key (λ_=>False) (λx h=>h.elim) (by rw[q];exact w)
 |exc x=>
  rw[q]at w;by_cases hc:L.contains x.cls=true
  ·simp only[hc,if_true]at w;exact key (λx'=>x'=x) (λx' h=>by subst h;exact⟨hc,w⟩) (by rw[q];exact rfl)
  ·simp only[hc,if_false]at w;exact w.elim
end
end DL
namespace DX
open PySem PySem.Spec PyProof.Rows L2
theorem KJ{K:UG}{mg:145}{st:Xq}{fI:UX}{p1 p2 p3 p4 p5 p6 apos cpos epos pos:Pos}{C Cb N:UX}{dd:259}
 (F:fN K "__init__" UB st fI fd) (Sc:cK ["self",p] ["self",p] (aF st))
 (hst:bu st=[.Expr (.Call (.Attribute (.Name bname p1) "__init__" apos) [.Name "self" p2,.Constant (.str msg) j p3] [] cpos) epos,.Assign [.Attribute (.Name "self" p4) fld p5] (.Name p p6) pos])
 (hcall:∀env:Env,∃pl:Sem Bool,eval (.Call (.Attribute (.Name bname p1) "__init__" apos) [.Name "self" p2,.Constant (.str msg) j p3] [] cpos) env=(do
 let ov <-eval (.Name bname p1) env
 Ye apos.atName
 let (f,first) <-holding [ov] (ae6 ov "__init__" pl)
 afJ cpos f first (Wr cpos (UP [.Name "self" p2,.Constant (.str msg) j p3] env)) (acy cpos (Z7 [] env))))
 (Tq:∀(cdv:UH)(A:Vw)(outer:List Env)(s:UI)(H:Hp)(E:XK),Gl (jH ia P w K mg base ["self",p] UB (aF st) fI cdv A outer s H E).nox bname) (hm:mg bname=some (.ref Cb)) (v0:jK (aF st) "self") (v1:jK (aF st) p)
 (FB:Yb B nid initId bmB) (SF:abV B bmB sa owner) (lk:K.lookup C=some 388) (hT:∀h,K.In h->Tail h ns bmB bm) (hN:∀h,K.In h->∃mN,h.Ns N mN/\mN "__setattr__"=none/\mN fld=none)
 (hi0:("__init__":Str)∈ns) (his:("__setattr__":Str)∈ns) (hin:fld∈ns) (hB:YF (.type B) fld=pure none) (hga:WQ K (.ref Cb) "__getattribute__"=some (some (.builtin "type.__getattribute__"))) (hr:aaf K Cb mc=true)
 (hf:aag K (.ref Cb) mc "__init__"=some (.val (.builtin initId))) (hh:Yk (.builtin initId)=true) (hd1:(bname==389)=false) (hd2:(p==389)=false) (Tg:(p==306)=false):dF P w K mg base ia (k+1) fI fd ["self",p] (uD C fld):=by refine F.ok Sc (λvs H Q E ⟨e,y,h,_⟩=>by rw[h];rfl) λcdv A outer s H vs Q E hr0 h=>?_;rw[hst];obtain⟨pl,hc⟩:=hcall (jH ia P w K mg base ["self",p] UB (aF st) fI cdv A outer s H E).nox.env;refine⟨_,kT (vn (HU (bm:=bm) (mP (v:=.ref Cb) (Tq cdv A outer s H E) hm rfl hd1) FB (λh hk=>(hT h hk).old hi0) hga hr hf hh (ez (eK (i:=0) rfl v0) (ez Fz gM)) rfl rfl hc)) (jk (LB (eK (i:=0) rfl v0) (eK (i:=1) rfl v1 hd2 Tg) SF hT lk hN his hin hB rfl)),EL lk h⟩
section
variable{K:UG}{P C:UX}
theorem GJ(G:GX K P)(X:XE K P C):Below K C P:=by obtain⟨nm,q,N,bs,sn,sub,ab,col,dd,k0,k1,k2,k3,k5,l⟩:=X.lk;obtain⟨nm',q',N',bs',sn',sub',ab',col',dd',k0',k1',k2',k3',k5',l',_⟩:=G.lk;exact⟨nm,q,N,bs,_,true,sn,sub,ab,col,dd,k0,k1,k2,k3,k5,_,nm',q',N',bs',_,true,sn',sub',ab',col',dd',k0',k1',k2',k3',k5',_,l,l',by decide,by simp⟩
theorem BF(G:GX K P)(h:VU)(X:K.In h):Tail h quiet i6 (.ref P::i6):=by obtain⟨nm,q,N,bs,sn,sub,ab,col,dd,k0,k1,k2,k3,k5,l,hN⟩:=G.lk;obtain⟨m,h1,h2⟩:=hN h X;exact .own (X _ _ l) h1 h2 .base
end
end DX
namespace DL
open PySem PySem.Spec PyProof.Rows L2 DX
noncomputable def tX(L:131)(T:Str->Bool):D->Option Bool
 | .exn cls _ _=>if L.contains cls=true then some (T cls)else none
 | .ob _ _=>none
 |_=>some false
section
variable{X:Cx}{c:C}{e a:VC}{ga g:G R}{pos:Pos}{L:List Str}{T:Str->Bool}
theorem yp(hv:∀u,RelV vc u->u=cv)(h0:∀t∈["NoneType","bool","int","str","tuple","list","dict"],V0 X.K (.type t) cv=some false)
 (hX:∀cls∈L,∀C,U1 X.K UT cls=some (some 241)->∃P,GX X.K P/\XE X.K P C/\V0 X.K 241 cv=some (T cls)):
  fc X (.builtin "isinstance") (λxs H Q=>∃d x b,xs=[x,vc]/\Rep X.K H d x/\tX L T d=some b/\Q (.bl b) H):=by
 intro Ux s σ H xs us Q I r h;obtain⟨d,x,b,rfl,hd,hb,q⟩:=h;obtain⟨u,w',rfl,rx,ry⟩:=vals2 r;cases hv w' ry;have fin:∀tk,EP X Ux σ Q (.bool b) {s with toks:=tk}:=λtk=>⟨.bl _,H,I.tok tk,rfl,q⟩;have F:=jX I;cases hd with
 |non=>cases rx;cases hb;exact Vz acZ I.kIn WV (h0 _ 120) 277 fin
 |bl y=>cases rx;cases hb;exact Vz ac0 I.kIn WV (h0 _ 120) 277 fin
 |int i=>obtain⟨t,rfl⟩:=rx;cases hb;exact Vz adz I.kIn WV (h0 _ 120) 277 fin
 |str y=>obtain⟨t,rfl⟩:=rx;cases hb;exact Vz adA I.kIn WV (h0 _ 120) 277 fin
 |tup h hs=>
  cases rx;cases hb;obtain⟨Uy,r,o,h1,h2,_⟩:=F.t _ _ h;exact Vz acF I.kIn ⟨o,h1,h2⟩ (h0 _ 120) 277 fin
 |lst h hs=>
  cases rx;cases hb;obtain⟨Uy,r,o,h1,h2,_⟩:=F.l _ _ h;exact Vz ac1 I.kIn ⟨o,h1,h2⟩ (h0 _ 120) 277 fin
 |emp h=>
  cases rx;cases hb;obtain⟨o,h1,h2⟩:=F.e _ h;exact Vz X5 I.kIn ⟨o,h1,h2⟩ (h0 _ 120) 277 fin
 |dct h _ _ _ _=>
  cases rx;cases hb;obtain⟨o,es,h1,h2,_⟩:=F.d _ _ _ h;exact Vz X5 I.kIn ⟨o,h1,h2.1⟩ (h0 _ 120) 277 fin
 |ob _ _=>cases hb
 |exn h1 h2 h3 hs hx=>
  cases rx;rename_i cls ns vs ds;by_cases hL:L.contains cls=true
  ·have hb:(if L.contains cls=true then some (T cls)else none)=some b:=hb;rw[if_pos hL]at hb;obtain rfl:=Ve hb;obtain⟨P,G,XEc,hk⟩:=hX _ (Wo.mp hL) _ h2;obtain⟨ox,od,J,_⟩:=rQ I h1 h3;exact Vz (yY G XEc) I.kIn ⟨ox,od,J⟩ hk 277 fin
  ·have hb:(if L.contains cls=true then some (T cls)else none)=some b:=hb;rw[if_neg hL]at hb;cases hb
noncomputable def gJ(L:131)(T:Str->Bool)(g:G R):G R:=λenv=>g env>>=λr=>match tX L T r.dat with
 |some b=>.ok (.d (.bl b))
 |none=>.bad
theorem Fx(hm1:X.mg Cs=some (.ref Ca))(h0:∀t∈["NoneType","bool","int","str","tuple","list","dict"],V0 X.K (.type t) (.ref Ca)=some false)
 (hX:∀cls∈L,∀C,U1 X.K UT cls=some (some 241)->∃P,GX X.K P/\XE X.K P C/\V0 X.K 241 (.ref Ca)=some (T cls))
 (h:PD X c a g) (hm:X.mg "isinstance"=none) (hK:375) (hg:autoParam (Gl X "isinstance") zzA._auto_1) (Sw:autoParam (Gl X Cs) zzA._auto_1) (gz:autoParam ((Cs==389)=false) zzB._auto_1)
 (he:autoParam (UP [a,.Name Cs p2] X.env=(false,eval a X.env)::UP [.Name Cs p2] X.env) zzA._auto_1) (Sv:autoParam (UP [.Name Cs p2] X.env=(false,eval (.Name Cs p2) X.env)::UP [] X.env) zzA._auto_1)
 (hpl:autoParam ((Wr pos (UP [.Name Cs p2] X.env)).any (·.1)=false) zzA._auto_1):PD X c (.Call (.Name "isinstance" p) [a,.Name Cs p2] [] pos) (gJ L T g):=
 dX (kR (yp (vc:=.ref Ca) (λ_ h=>h) h0 hX) hg hm 180 (ez h (ez (mP (v:=.ref Ca) Sw hm1 rfl gz) gM Sv) he) 120 120 he hpl) λσ H Q ⟨J,env,sr,w⟩=>by
  refine⟨J,env,sr,aB (aH w) λr wr v J1 H1 e1 r1=>?_⟩;cases q:tX L T r.dat with
  |none=>rw[q]at wr;exact wr.elim
  |some b=>
   rw[q]at wr;exact⟨r.dat,v,b,rfl,by rw[hK];exact r1.dat 377,q,wr _ J1 H1 e1 (.bl _)⟩
theorem NV(hX:∀cls∈L,∀C,U1 X.K UT cls=some (some 241)->∃P,GX X.K P/\XE X.K P C)
 (h:PD X c a g) (mT:X.mg "ValueError"=none) (hm:X.mg "isinstance"=none) (hK:375) (hg:autoParam (Gl X "isinstance") zzA._auto_1) (Sw:autoParam (Gl X "ValueError") zzA._auto_1)
 (he:autoParam (UP [a,.Name "ValueError" p2] X.env=(false,eval a X.env)::UP [.Name "ValueError" p2] X.env) zzA._auto_1) (Sv:autoParam (UP [.Name "ValueError" p2] X.env=(false,eval (.Name "ValueError" p2) X.env)::UP [] X.env) zzA._auto_1)
 (hpl:autoParam ((Wr pos (UP [.Name "ValueError" p2] X.env)).any (·.1)=false) zzA._auto_1):PD X c (.Call (.Name "isinstance" p) [a,.Name "ValueError" p2] [] pos) (gJ L (λ_=>true) g):=
 dX (kR (yp (vc:=.ty "ValueError") (T:=λ_=>true) (λ_ h=>h) Hq λcls hc C hn=>let ⟨P,G,E⟩:=hX cls hc C hn;⟨P,G,E,K0 E⟩) hg hm 180 (ez h (ez (Bm Sw mT 180 (v:=.ty "ValueError") rfl 120 120) gM Sv) he) 120 120 he hpl) λσ H Q ⟨J,env,sr,w⟩=>by
  refine⟨J,env,sr,aB (aH w) λr wr v J1 H1 e1 r1=>?_⟩;cases q:tX L (λ_=>true) r.dat with
  |none=>rw[q]at wr;exact wr.elim
  |some b=>
   rw[q]at wr;exact⟨r.dat,v,b,rfl,by rw[hK];exact r1.dat 377,q,wr _ J1 H1 e1 (.bl _)⟩
end
theorem sA{K:UG}{J:Hp}{f:Str}:∀{ns:131}{ds:List D}{vs:List V}{d:D},aW K J ds vs->(ns.zip ds).lookup f=some d->∃v,(ns.zip vs).lookup f=some v/\Rep K J d v
 |[],_,_,_,_,h=>by simp at h
 |_::_,_,_,_,.nil,h=>by simp at h
 |n::ns,_,_,d,.cons r rs,h=>by
  rw[List.zip_cons_cons,Wq]at h ⊢;cases q:f==n with
  |true=>rw[q]at h;cases h;exact⟨_,rfl,r⟩
  |false=>rw[q]at h;exact sA rs h
theorem K3{o:Obj}(hd:o.data=.dict es ep)(h:aaD es f=some u):YN f o=some (some u):=by unfold YN;rw[hd];unfold aaD findBy at h;obtain⟨e,h1,h2⟩:=W0.mp h;rw[<-aco]at h1;dsimp only;rw[h1];exact congrArg (λx=>some (some x)) h2
theorem G7{K:UG}{P C:UX}{o:Obj}{f:Str}{u:UH}(E:XE K P C)(hf:U7 K 241 f=some none)(h:YN f o=some (some u)):Xu K C (some o) f=some (.value u):=by obtain⟨cd,hc,_,hd,_⟩:=sR E;unfold Xu;rw[hc,Ym,hf,Ym];simp[W.ownOf,hd,h]
theorem CH{K:UG}{J:Hp}{d:D}{v:V}{u:UH}(h:Rep K J d v)(r:RelV v u):Yk u=true:=by
 cases h with
 |non=>cases r;rfl
 |bl b=>cases r;rfl
 |int i=>obtain⟨t,rfl⟩:=r;rfl
 |str x=>obtain⟨t,rfl⟩:=r;rfl
 |emp _=>cases r;rfl
 |tup _ _=>cases r;rfl
 |lst _ _=>cases r;rfl
 |exn _ _ _ _ _=>cases r;rfl
 |dct _ _ _ _ _=>cases r;rfl
 |ob _ _=>cases r;rfl
noncomputable def Ji(L:131)(f:Str):D->Option D
 | .exn cls ns ds=>if L.contains cls=true then(ns.zip ds).lookup f else none
 |_=>none
theorem Kv{r:R}(h:Ji L f r.dat=some d):∃cls ns ds,r=.d (.exn cls ns ds):=by
 cases r with
 |l m xs=>cases h
 |o _ _ _=>cases h
 |d x=>
  cases x with
  |exn cls ns ds=>exact⟨cls,ns,ds,rfl⟩
  |_=>cases h
noncomputable def Jp(L:131)(f:Str)(g:G R):G R:=λenv=>g env>>=λr=>match Ji L f r.dat with
 |some d=>.ok (.d d)
 |none=>.bad
section
variable{X:Cx}{c:C}{e:VC}{g:G R}{pos:Pos}{L:List Str}{f:Str}
theorem Lp(hX:∀cls∈L,∀C,U1 X.K UT cls=some (some 241)->∃P,XE X.K P C/\U7 X.K 241 f=some none)(h:PD X c e g)(hK:375)(hb:autoParam (WH e f X.env (eval e X.env)=eval e X.env) zzA._auto_1):
  PD X c (.Attribute e f pos) (Jp L f g):=by
 intro Ux s σ H Q I ⟨J,env,sr,w⟩;refine AN hb (bO (h Ux s σ H (λv H1=>∃J1 r,Ext J H J1 H1/\RR c H J1 H1 r v/\cJ (match Ji L f r.dat with|some d=>.ok (.d d)|none=>.bad) (λr=>∀v J' H',Ext J H J' H'->RR c H J' H' r v->Q v H') c.T) I ⟨J,env,sr,aB (aH w) λr wr v J1 H1 e1 r1=>⟨J1,r,e1,r1,wr⟩⟩) λu s1 ⟨x,H1,I1,rx,J1,r,e1,r1,wr⟩=>?_);cases q:Ji L f r.dat with
 |none=>rw[q]at wr;exact wr.elim
 |some d=>
  rw[q]at wr;obtain⟨cls,ns,ds,rfl⟩:=Kv q
  ·have r1:Rep c.K J1 (.exn cls ns ds) x:=r1;have q:(if L.contains cls=true then(ns.zip ds).lookup f else none)=some d:=q;by_cases hL:L.contains cls=true
   ·rw[if_pos hL]at q;cases r1 with
    |exn h1 h2 h3 hs hx=>
     obtain rfl:u=VI _:=rx;obtain⟨P,E,hf⟩:=hX cls (Wo.mp hL) _ (by rw[hK];exact h2);obtain⟨ox,od,IA,_,hod⟩:=rQ I1 (e1.sub _ _ h1) (h3.mono e1.sub);obtain⟨v,lk,rv⟩:=sA hs q;rcases h3 with⟨_,z,_⟩|⟨dd,rfl,_,hd⟩
     ·subst z;simp at q
     ·obtain⟨o,rfl,ho⟩:=hod dd rfl;obtain⟨m,⟨o',es,ep,k1,k2,k3,k4,k5⟩,k6⟩:=I1.hok dd _ (e1.sub _ _ hd);rw[ho]at k1;cases k1;have k7:=k6 f;rw[lk]at k7;cases mf:m f with
      |none=>rw[mf]at k7;exact k7.elim
      |some u'=>
       rw[mf]at k7;exact EE I1.kIn IA E.ga E.gt (by rw[mO E];simp) (G7 E hf (K3 k2 ((k5 f).trans mf))) (CH rv k7) ⟨v,H1,I1.tok _,k7,wr v J1 H1 e1 rv⟩
   ·rw[if_neg hL]at q;cases q
end
end DL
namespace DX
open PySem PySem.Spec PyProof.Rows L2
open Sem (wp)
end DX
namespace DL
open PySem PySem.Spec PyProof.Rows L2 DX
noncomputable def Gy(P:U0)(w:Vj)(K:UG)(mg:145)(base:VU)(k n:Nat)(x:Str)(Fm:234):Prop:=
 ∃f fd ps,dF P w K mg base (kr P w) k f fd ps (zO K n Fm)/\mg x=some 344/\Vu K 344=true/\Binds K fd ps []
noncomputable def uQ(P:U0)(w:Vj)(K:UG)(mg:145)(base:VU)(k:Nat)(x fld:Str):Prop:=
 ∃Ca f fd ps,B0 K Ca f/\dF P w K mg base ia k f fd ps (uD Ca fld)/\mg x=some (.ref Ca)/\U1 K UT x=some (some (.ref Ca))/\Binds K fd ps []/\∃P,GX K P/\XE K P Ca
structure rK(K:UG)(mg:145)(L:131):Prop where
 ex:∃P,GX K P/\mg "PickError"=some (.ref P)/\(∀cls∈L,∃C,U1 K UT cls=some (some 241)/\XE K P C/\mg cls=some 241/\C≠P)/\
  ∀c1∈L,∀c2∈L,∀C,U1 K UT c1=some (some 241)->U1 K UT c2=some (some 241)->c1=c2
section
variable{X:Cx}{c:C}{e a:VC}{es:List VC}{pos:Pos}{g:G R}{L:List Str}
theorem Ij{F:234}{gs:338}(G:Gy X.prog X.w X.K X.mg X.base k n x F)(hr:cG k' X.A)(ha:∀pn xe T,kB (tb X pn xe) (c.wT T) (e::es) gs)(hk:autoParam (k<=k') zzB._auto_1)(hT:autoParam (c.K=X.K) zzA._auto_1)(hg:autoParam (Gl X x) zzA._auto_1)(hdb:141)
 (he:153) (hpl:autoParam ((Wr pos 319).any (·.1)=false) zzA._auto_1):xu X c 205 (gN (gI n F) gs):=by obtain⟨f,fd,ps,h1,h2,h3,h4⟩:=G;exact FY h1 (hr.mono hk) h2 h3 h4 (λpn xe T=>(ha pn xe T).h) hT hg hdb he hpl
theorem Ik{tt:G Bool}{t u:G O}(hx:∀pn xe T,QB (tb X pn xe) (c.wT T) x tt)(h:rH X c as t)(h':rH X c bs u):xq X c (.If x as bs pos) (aM tt t u):=LN (λpn xe T=>(hx pn xe T).h) h h'
theorem zz{gs:244}(R:uQ X.prog X.w X.K X.mg X.base k x fld)(hx:ME X c)(hr:cG k' X.A)(ha:AE X c (e::es) gs)(hk:autoParam (k+1<=k') zzB._auto_1)(hT:autoParam (c.K=X.K) zzA._auto_1)(S3:autoParam (X.calm=true) zzA._auto_1)(hg:autoParam (Gl X x) zzA._auto_1)(hdb:141)
 (he:153) (hpl:autoParam ((Wr cpos 319).any (·.1)=false) zzA._auto_1):ig X c (.Raise (some (.Call (.Name x p) (e::es) [] cpos)) none pos) (kN x fld gs):=by obtain⟨Ca,f,fd,ps,h1,h2,h3,h4,h5,h6⟩:=R;exact⟨Fw h1 h2 (hr.mono hk) hg h3 (by rw[hT];exact h4) (by rw[hT];exact h6) h5 hx S3 ha.h hdb he hpl⟩
theorem Ih{t:G O}{p1 p2 p3 pos2 hpos:Pos}(A:rK X.K X.mg L)(hb:rH X c body t)(hN:X.N.Nodup)(hT:autoParam (c.K=X.K) zzA._auto_1)
 (hst:autoParam (X.stack=X.env::X.outer) zzA._auto_1) (hfr:autoParam (X.env.frame=some X.env.locals) zzA._auto_1) (hg:autoParam (Gl X "PickError") zzA._auto_1) (hi:autoParam (X.N[i]?=some n) zzA._auto_1) (hj:autoParam (X.N[j]?=some y) zzA._auto_1) (hij:autoParam (i≠j) zzB._auto_1) (hn:autoParam (X.env.scope.names.lookup n=some .local) zzA._auto_1) (hy:autoParam (X.env.scope.names.lookup y=some .local) zzA._auto_1)
 (hs:autoParam (Xj (.Name n p2) (some (.Name y p1)) pos2.line X.env=pure false) zzA._auto_1) (hd:autoParam ((n==389)=false) zzB._auto_1) (hcd:autoParam ((n==306)=false) zzB._auto_1):
  ig X c (.Try body [.ExceptHandler (some (.Name "PickError" p3)) (some n) [.Assign [.Name y p1] (.Name n p2) pos2] hpos] [] [] pos) (oO i j L t):=by obtain⟨P,G,hm,hA,_⟩:=A.ex;refine⟨Ll hb (λcls hc C hn=>?_) hm hN hst hfr hg hi hj hij hn hy hs 120 hd hcd⟩;obtain⟨C',h1,h2,_⟩:=hA cls hc;rw[hT]at hn;rw[h1]at hn;cases hn;exact GJ G h2
theorem gw(A:rK X.K X.mg L)(hC:Cs∈L)(h:QD X c a g)(hm:X.mg "isinstance"=none)(hK:375)(hg:autoParam (Gl X "isinstance") zzA._auto_1)(Sw:autoParam (Gl X Cs) zzA._auto_1)(gz:autoParam ((Cs==389)=false) zzB._auto_1)
 (he:autoParam (UP [a,.Name Cs p2] X.env=(false,eval a X.env)::UP [.Name Cs p2] X.env) zzA._auto_1) (Sv:autoParam (UP [.Name Cs p2] X.env=(false,eval (.Name Cs p2) X.env)::UP [] X.env) zzA._auto_1)
 (hpl:autoParam ((Wr pos (UP [.Name Cs p2] X.env)).any (·.1)=false) zzA._auto_1):QD X c (.Call (.Name "isinstance" p) [a,.Name Cs p2] [] pos) (gJ L (λx=>x==Cs) g):=by
 obtain⟨P,G,hP,hA,hU⟩:=A.ex;obtain⟨D,d1,d2,d3,d4⟩:=hA Cs hC;obtain⟨cd,e1,_,_,e2⟩:=sR d2;have s1:(WS X.K D).isSome=true:=by rw[e1];rfl
 refine⟨Fx d3 (Bb s1 e2) (λcls hc C hn=>?_) h.h hm hK hg Sw gz he Sv hpl⟩;obtain⟨C',h1,h2,_⟩:=hA cls hc;rw[h1]at hn;cases hn;refine⟨P,G,h2,(Bc h2 s1 e2).trans ?_⟩;have pd:(P==D)=false:=by simpa using VF d4
 rw[pd,aaR];by_cases q:cls=Cs
 ·subst q;rw[h1]at d1;cases d1;simp
 ·have:C≠D:=λz=>q (hU cls hc Cs hC C h1 (z▸d1));rw[beq_eq_false_iff_ne.mpr this,beq_eq_false_iff_ne.mpr q]
theorem LJ{p p2:Pos}(A:rK X.K X.mg L)(h:QD X c a g)(hm:X.mg "isinstance"=none)(hK:375)(hg:autoParam (Gl X "isinstance") zzA._auto_1)(Sw:autoParam (Gl X "PickError") zzA._auto_1)
  (he:autoParam (UP [a,.Name "PickError" p2] X.env=(false,eval a X.env)::UP [.Name "PickError" p2] X.env) zzA._auto_1) (Sv:autoParam (UP [.Name "PickError" p2] X.env=(false,eval (.Name "PickError" p2) X.env)::UP [] X.env) zzA._auto_1)
  (hpl:autoParam ((Wr pos (UP [.Name "PickError" p2] X.env)).any (·.1)=false) zzA._auto_1):QD X c (.Call (.Name "isinstance" p) [a,.Name "PickError" p2] [] pos) (gJ L (λ_=>true) g):=by obtain⟨P,G,hP,hA,hU⟩:=A.ex;obtain⟨s1,e2⟩:=Qx G;refine⟨Fx hP (Bb s1 e2) (λcls hc C hn=>?_) h.h hm hK hg Sw 120 he Sv hpl⟩;obtain⟨C',h1,h2,_⟩:=hA cls hc;rw[h1]at hn;cases hn;exact⟨P,G,h2,(Bc h2 s1 e2).trans 229⟩
theorem LK(A:rK X.K X.mg L)(h:QD X c a g)(mT:X.mg "ValueError"=none)(hm:X.mg "isinstance"=none)(hK:375)(hg:autoParam (Gl X "isinstance") zzA._auto_1)(Sw:autoParam (Gl X "ValueError") zzA._auto_1)
 (he:autoParam (UP [a,.Name "ValueError" p2] X.env=(false,eval a X.env)::UP [.Name "ValueError" p2] X.env) zzA._auto_1) (Sv:autoParam (UP [.Name "ValueError" p2] X.env=(false,eval (.Name "ValueError" p2) X.env)::UP [] X.env) zzA._auto_1)
 (hpl:autoParam ((Wr pos (UP [.Name "ValueError" p2] X.env)).any (·.1)=false) zzA._auto_1):QD X c (.Call (.Name "isinstance" p) [a,.Name "ValueError" p2] [] pos) (gJ L (λ_=>true) g):=by obtain⟨P,G,hP,hA,hU⟩:=A.ex;refine⟨NV (λcls hc C hn=>?_) h.h mT hm hK hg Sw he Sv hpl⟩;obtain⟨C',h1,h2,_⟩:=hA cls hc;rw[h1]at hn;cases hn;exact⟨P,G,h2⟩
def IW(K:UG)(cls f:Str):Prop:=∃C P,U1 K UT cls=some (some 241)/\XE K P C/\U7 K 241 f=some none
theorem zD(A:IW X.K cls f)(h:QD X c e g)(hK:375)(hb:autoParam (WH e f X.env (eval e X.env)=eval e X.env) zzA._auto_1):QD X c (.Attribute e f pos) (Jp [cls] f g):=by obtain⟨C,P,h1,h2,h3⟩:=A;refine⟨Lp (λx hx C' hn=>?_) h.h hK hb⟩;obtain rfl:=UM.mp hx;rw[h1]at hn;cases hn;exact⟨P,h2,h3⟩
end
abbrev XL:List Str:=["NoWorld","NoTongue","NoSaying","NoMore","NoName","NoLetter","TooMany","NoCount","NoPoint","NoRow"]
section
variable{K:UG}{mg:Str->Option UH}{P C N:UX}{nm q:Str}{bs:List UH}{sn:List Str}{sub:List UH}{ab:Bool}{col:Option Bool}{dd:Option UX}{k0 k1 k2 k3 k5:Option UH}
theorem nP(l:K.lookup C=some (VP nm q C N bs (.ref P::i6) true sn sub ab col dd k0 k1 k2 k3 k5 "ValueError.__new__"))(g:U7 K 241 "__getattribute__"=some 287)(h:U7 K 241 "__getattr__"=some none)
  (k:U7 K 241 "__class__"=some (some 179)):XE K P C:=⟨⟨nm,q,N,bs,sn,sub,ab,col,dd,k0,k1,k2,k3,k5,l⟩,g,h,k⟩
theorem O4(l:K.lookup P=some (VP nm q P N bs i6 true sn sub ab col dd k0 k1 k2 k3 k5 "ValueError.__new__"))(ln:K.lookup N=some ⟨c,d,.dict es ep,sl⟩)(hs:zS es=true)(hq:(quiet.all λn=>(aaD es n).isNone)=true)
 (gt:WQ K 179 "__get__"=some (some 397)) (tk:Zh K 179=some true):GX K P:=
 ⟨gt,tk,nm,q,N,bs,sn,sub,ab,col,dd,k0,k1,k2,k3,k5,l,λh X=>⟨_,Df ln hs X,λn hn=>Option.isNone_iff_eq_none.mp (Xi.mp hq n hn)⟩⟩
theorem vY:∀{ps:294}{a b:Str}{C:UX},(ps.map (·.2)).Nodup->(a,C)∈ps->(b,C)∈ps->a=b
 |[],_,_,_,_,h,_=>by cases h
 |p::ps,a,b,C,nd,h1,h2=>by
  rw[Vl,WD]at nd;have no:∀x,(x,C)∈ps->p.2≠C:=λx hx z=>nd.1 (z▸Vc.mpr ⟨_,hx,rfl⟩);rcases UR.mp h1 with e1|h1<;>rcases UR.mp h2 with e2|h2
  ·rw[<-e1]at e2;exact(congrArg (·.1) e2).symm
  ·exact absurd (by rw[<-e1]) (no b h2)
  ·exact absurd (by rw[<-e2]) (no a h1)
  ·exact vY nd.2 h1 h2
theorem Mp(G:GX K P)(hm:mg "PickError"=some (.ref P)){ps:294}(h:∀p∈ps,U1 K UT p.1=some (some (.ref p.2))/\XE K P p.2/\mg p.1=some (.ref p.2))(nd:(P::ps.map (·.2)).Nodup):rK K mg (ps.map (·.1)):=by
 rw[WD]at nd;refine⟨P,G,hm,λcls hc=>?_,λc1 h1 c2 h2 C n1 n2=>?_⟩
 ·obtain⟨p,hp,rfl⟩:=Vc.mp hc;obtain⟨a,b,c⟩:=h p hp;exact⟨p.2,a,b,c,λz=>nd.1 (z▸Vc.mpr ⟨p,hp,rfl⟩)⟩
 ·obtain⟨p1,hp1,rfl⟩:=Vc.mp h1;obtain⟨p2,hp2,rfl⟩:=Vc.mp h2;have a1:=(h p1 hp1).1;have a2:=(h p2 hp2).1;rw[n1]at a1;rw[n2]at a2;cases acD (Ve (Ve a1));have e:p1.2=p2.2:=acD (Ve (Ve a2));exact vY nd.2 (C:=p1.2) hp1 (e▸hp2)
theorem Gv(n:U1 K UT cls=some (some 241))(E:XE K P C)(h:U7 K 241 f=some none):IW K cls f:=⟨C,P,n,E,h⟩
theorem Bw{p1 p2 p3 p4 p5 p6 apos cpos epos pos:Pos}{st:Xq}{fI:UX}(G:GX K P)(E:XE K P C)(hP:mg "PickError"=some (.ref P))(hx:mg x=some 241)
 (nx:U1 K UT x=some (some 241)) (l:K.lookup C=some (VP nm q C N bs (.ref P::i6) true sn sub ab col dd k0 k1 k2 k3 k5 "ValueError.__new__")) (ln:K.lookup N=some ⟨c,d,.dict es ep,sl⟩) (hs:zS es=true) (hi:aaD es "__init__"=some (.ref fI)) (Um:aaD es "__setattr__"=none) (hf:aaD es fld=none)
 (F:fN K "__init__" UB st fI fd) (kp:Vu K 241=true) (fn:∃oI:Obj,K.lookup fI=some oI/\oI.cls=.type "function") (Sc:cK ["self",p] ["self",p] (aF st))
 (hst:bu st=[.Expr (.Call (.Attribute (.Name "PickError" p1) "__init__" apos) [.Name "self" p2,.Constant (.str msg) j p3] [] cpos) epos,.Assign [.Attribute (.Name "self" p4) fld p5] (.Name p p6) pos])
 (hcall:∀env:Env,∃pl:Sem Bool,eval (.Call (.Attribute (.Name "PickError" p1) "__init__" apos) [.Name "self" p2,.Constant (.str msg) j p3] [] cpos) env=(do
 let ov <-eval (.Name "PickError" p1) env
 Ye apos.atName
 let (f,first) <-holding [ov] (ae6 ov "__init__" pl)
 afJ cpos f first (Wr cpos (UP [.Name "self" p2,.Constant (.str msg) j p3] env)) (acy cpos (Z7 [] env))))
 (Tq:∀(cdv:UH)(A:Vw)(outer:List Env)(s:UI)(H:Hp)(E:XK),Gl (jH ia Pg w K mg base ["self",p] UB (aF st) fI cdv A outer s H E).nox "PickError") (v0:jK (aF st) "self") (v1:jK (aF st) p)
 (Ue:fld∈quiet) (hB:YF (.type "ValueError") fld=pure none) (hga:WQ K (.ref P) "__getattribute__"=some (some (.builtin "type.__getattribute__"))) (hr:aaf K P mc=true) (hfc:aag K (.ref P) mc "__init__"=some (.val (.builtin "ValueError.__init__")))
 (hd2:(p==389)=false) (Tg:(p==306)=false)
 (hbi:∀(kV doc pm:UH)(an:259)(cdv ct:UH)(us:List UH),us.length=2->Za (Vm "__init__" UB (bX st) (bu st) (aF st) .none kV doc pm an cdv ct) ⟨us,[]⟩=pure ((["self",p]:List Str).zip us)):
  uQ Pg w K mg base 1 x fld:=by refine⟨C,fI,fd,["self",p],⟨⟨nm,q,N,bs,_,true,sn,sub,ab,col,dd,k0,k1,k2,k3,k5,_,"ValueError","ValueError.__init__",i6,"ValueError","ValueError.__new__","ValueError.__init__",i6,l,YJ,by decide,YJ,by simp,λh X=>⟨(BF G h X).old 120,_,Df ln hs X,hi⟩⟩,fn,kp⟩,?_,hx,nx,F.binds hbi,P,G,E⟩;exact KJ (k:=0) F Sc hst hcall Tq hP v0 v1 YJ PySem.F.store_ValueError l (λh X=>BF G h X) (λh X=>⟨_,Df ln hs X,Um,hf⟩) 120 120 Ue hB hga hr hfc 180 120 hd2 Tg
end
end DL
namespace K01
open PySem DL
def jN:List Str:=["_law_script","_law_k"]
noncomputable def ni:G O:=(av (aM (aK (g2 (b9 λi j=>.bl (decide (i<j))) (af 1) (gN eV (ah (af 0) ay)))) (aO (g2 bV (g2 aI (af 0) (af 1)) (g2 kJ 162 (gC (.int 64))))) bh)
 (aO 132))
def cS(as:List S):M R:=fin (ni (aG jN as))
noncomputable def qt:List Str:=["_law_cell_here","_law_many","_law_number","_law_base","_law_size","_law_words","_law_first","_law_signs","_law_at","_law_found","_law_k","_law_sign"]
noncomputable def lV:G O:=(av (aN 2 (g2 bV (g2 cW (af 0) (gC (.int 7129))) (gC (.int 1000033))))
 (av (aN 3 (g2 aI (gC (.str "bcdfg")) (g2 bV (af 2) (gC (.int 5)))))
 (av (aN 4 (g2 bZ 162 (g2 bV (g2 dG (af 2) (gC (.int 5))) (gC (.int 7)))))
 (av (aM (aK (g2 159 (g2 bV (g2 dG (af 2) (gC (.int 35))) 351) 137)) (aO (c9 1 [3] (dQ 253) (aJ 0) f_ (g2 cW (af 1) (g2 bZ 162 (af 0))))) bh)
 (av (aM (aK (g2 159 (g2 bV (g2 dG (af 2) (gC (.int 35))) 351) 162)) (av (aN 5 (cC (ak (gC (.str "and")) 242)))
 (av (aN 6 (g2 bV (g2 dG (af 2) (gC (.int 140))) (gC (.int 8))))
 (av (aN 7 (gC 305))
 (aO (gN jU (ah (c9 1 [5,6,7,2] (dQ 253) (aJ 0) f_ (g2 bZ (g2 aI (g2 bZ (af 1) (af 1)) (g2 bZ (af 2) (af 0))) (g2 aI (af 3) (g2 bV (g2 dG (af 4) (gC (.int 1120))) (gC (.int 26)))))) ay)))))) bh)
 (av (aN 8 (g2 bV (g2 dG (af 2) (gC (.int 105))) (af 4)))
 (av (aN 9 (cC aE))
 (av (d8 (dQ 253) (aJ 10) (av (aN 11 (g2 aI (gC 305) (g2 bV (g2 bZ (g2 dG (af 2) (gC (.int 840))) (g2 cW (gC (.int 5)) (af 10))) (gC (.int 26)))))
 (eG 9 (g2 bZ (g2 bZ (g2 cW (af 3) (af 8)) (af 11)) (g2 cW (af 3) (g2 g8 (g2 g8 (af 4) 137) (af 8)))))))
 (aO (gN jU (ah (af 9) ay)))))))))))
def fR(as:List S):M R:=fin (lV (aG qt as))
def BW:List Str:=["_law_bits","_law_many","_law_found","_law_point_here"]
noncomputable def nk:G O:=(av (aN 2 (cC aE))
 (av (d8 (dQ 253) (aJ 3) (av (aM (aK (g2 159 (g2 bV (af 0) 162) 137)) (eG 2 (af 3)) bh)
 (aN 0 (g2 dG (af 0) 162))))
 (aO (gN f7 276))))
def gU(as:List S):M R:=fin (nk (aG BW as))
def qu:List Str:=["_law_bits","_law_many","_law_found","_law_one","_law_other"]
noncomputable def lW:G O:=(av (aN 2 (cC aE))
 (av (d8 (dQ 253) (aJ 3) (d8 (dQ 253) (aJ 4) (av (aM (aK (g2 159 (g2 bV (af 0) 162) 137)) (eG 2 (bN (ak (af 3) (ak (af 4) aE)))) bh)
 (aN 0 (g2 dG (af 0) 162)))))
 (aO (gN f7 276))))
def gq(as:List S):M R:=fin (lW (aG qu as))
def oz:List Str:=["_law_cell_here","_law_names_here","_law_number","_law_first"]
noncomputable def kO:G O:=(av (aN 1 (gN (aD 2 fR) (ah (af 0) (ah (gC (.int 6)) ay))))
 (av (aN 2 (g2 bV (g2 cW (af 0) (gC (.int 523))) (gC (.int 10007))))
 (av (aN 3 (g2 bV (g2 dG (af 2) (gC (.int 16))) (gC (.int 3))))
 (aO (bN (ak (gN f7 (ah (mG ji (af 1) qC (lE (g2 bV (af 2) 351))) ay)) (ak (gN f7 (ah (mG ji (af 1) (lE (af 3)) (lE (g2 bZ (af 3) (g2 bV (g2 dG (af 2) 351) 351)))) ay)) aE)))))))
def gE(as:List S):M R:=fin (kO (aG oz as))
def qw:List Str:=["_law_script","_law_at","_law_many","_law_tongue_here","_law_marks","_law_k","_law_arrows","_law_bits"]
noncomputable def lY:G O:=(av (aN 4 (cC aE))
 (av (d8 (dQ (ah (gN eV (ah (g2 aI (af 3) 132) ay)) ay)) (aJ 5) (eG 4 (bN (ak (g2 aI (g2 aI (af 3) 132) (af 5)) (ak (gN (aD 2 gU) (ah (g2 bV (g2 cW (gN (aD 2 cS) (ah (af 0) (ah (g2 bZ (af 1) (af 5)) ay))) (gC (.int 167))) (g2 kJ 162 (gC (.int 8)))) 276)) aE)))))
 (av (aN 6 (cC aE))
 (av (d8 (dQ (ah (gN eV (ah (g2 aI (af 3) 137) ay)) ay)) (aJ 5) (av (aN 7 (g2 bV (g2 cW (gN (aD 2 cS) (ah (af 0) (ah (g2 bZ (g2 bZ (af 1) (gC (.int 3))) (af 5)) ay))) (gC (.int 11400714819323198485))) (g2 kJ 162 (gC (.int 64)))))
 (eG 6 (bN (ak (g2 aI (g2 aI (af 3) 137) (af 5)) (ak (gN (aD 2 gq) (ah (af 7) 276)) aE))))))
 (aO (bN (ak (af 2) (ak (gN f7 (ah (af 4) ay)) (ak (gN f7 (ah (af 6) ay)) aE)))))))))
def fS(as:List S):M R:=fin (lY (aG qw as))
def Ab:List Str:=["_law_thing","_law_many"]
noncomputable def Al:G O:=(aO (bz (cP "int" (af 0)) (bz (bC (cP "bool" (af 0))) (bz (g2 (b9 λi j=>.bl (decide (i<=j))) 132 (af 0)) (g2 (b9 λi j=>.bl (decide (i<j))) (af 0) (af 1))))))
def lQ(as:List S):M R:=fin (Al (aG Ab as))
def BU:List Str:=["_law_thing","_law_many"]
noncomputable def CB:G O:=(av (aM (bY (bD (aK (cP "tuple" (af 0)))) (aK (g2 (bB true) (gN eV (ah (af 0) ay)) 162))) 390 bh)
 (aO (bz (gN (aD 2 lQ) (ah 158 253)) (gN (aD 2 lQ) (ah 293 253)))))
def BP(as:List S):M R:=fin (CB (aG BU as))
def wI:List Str:=["_law_thing"]
noncomputable def wZ:G O:=(av (aM (bY (bD (aK (cP "str" (af 0)))) (bY (aK (g2 (b9 λi j=>.bl (decide (i<j))) (gN eV (ah (af 0) ay)) 162)) (aK (g2 (b9 λi j=>.bl (decide (j<i))) (gN eV (ah (af 0) ay)) (gC (.int 8)))))) 390 bh)
 (av (aM (aK (g2 (gn false) (af 0) (bN (ak (gC (.str "and")) 242)))) 390 bh)
 (aO (gN QC (ah (c9 1 [] (QG (af 0)) (aJ 0) f_ (g2 (QE false) (af 0) (gC 305))) ay)))))
def wH(as:List S):M R:=fin (wZ (aG wI as))
def BV:List Str:=["_law_thing","_law_many","_law_way","_law_k"]
noncomputable def CC:G O:=(av (aM (bY (bD (aK (cP "tuple" (af 0)))) (aK (g2 (bB true) (gN eV (ah (af 0) ay)) 162))) 390 bh)
 (av (aM (bY (bD (aK (gN (aD 1 wH) (ah 158 ay)))) (bD (aK (cP "tuple" 293)))) 390 bh)
 (av (d8 (dQ (ah (gN eV (ah 293 ay)) ay)) (aJ 3) (av (aM (bY (bK (aK (g2 159 (af 2) 132)) (bD (aK (gN (aD 2 lQ) (ah (g2 aI 293 (af 3)) 253))))) (bK (aK (g2 159 (af 2) 137)) (bD (aK (gN (aD 2 BP) (ah (g2 aI 293 (af 3)) 253)))))) 390 bh)
 (aM (bK (aK (g2 (b9 λi j=>.bl (decide (j<i))) (af 3) 132)) (bD (aK (g2 M4 (g2 aI 293 (g2 g8 (af 3) 137)) (g2 aI 293 (af 3)))))) 390 bh)))
 (aO (gC (.bl true))))))
def BQ(as:List S):M R:=fin (CC (aG BV as))
theorem iI(h:n<=1000):n<=sizeLine:=Vr h 120
def ND(k:Nat):Bool:=!(Zk "abcdefghijklmnopqrstuvwxyz" ⟨#[k]⟩ 0 (acR "abcdefghijklmnopqrstuvwxyz") 1).isEmpty
def words:List D:=[.str "and",.str "or",.str "not",.str "some",.str "every",.str "least",.str "true",.str "false"]
def E_(x:Str):Bool:=decide (2<=x.length)&&(decide (x.length<=8)&&(!inD (.str x) words&&x.cps.toList.all ND))
theorem Eo{ge:G R}{f:D->D}(tl:Ev):∀(ds:List D)(x:Option S),(∀d∈ds,ge (some (.d d)::tl)=.ok (.d (f d)))->fH (aJ 0) f_ ge ds (x::tl)=.ok (ds.map f)
 |[],_,_=>rfl
 |d::r,x,h=>by have ih:=Eo tl r (some (.d d)) λe he=>h e (UN _ he);unfold fH;simp only[aJ,List.set_cons_zero,aT,f_,if_true,h d UO,toD];rw[ih];rfl
theorem pO{α:Type}{xs:List α}{k:Nat}{x:α}(h:xs[k]?=some x):L2.kG xs (k:Int)=some x:=by have hk:k<xs.length:=(Vs.mp h).1;unfold L2.kG L2.yU;rw[if_pos 112,if_pos 112];simpa using h
theorem jT{xs:List D}{k:Nat}{x:D}(h:xs[k]?=some x):aI (.d 333) 332=.ok (.d x):=by unfold aI;simp only[i7,aT,pO h]
theorem pS{m:Md}{xs:List D}{k:Nat}{x:D}(h:xs[k]?=some x):aI (.l m xs) 332=.ok (.d x):=by unfold aI;simp only[i7,aT,pO h]
theorem A2{z:Str}{k:Nat}{c:Nat}(hz:z.length<=1000)(h:z.cps.toList[k]?=some c):aI (.d (.str z)) 332=.ok (.d (.str ⟨#[c]⟩)):=by unfold aI;simp only[iI hz,if_true,pO h]
theorem bq(xs:List D):eV [.d 333]=.ok (.d (.int xs.length)):=rfl
theorem eq_int(neg:Bool)(i j:Int):bB neg (.d (.int i)) (.d (.int j))=.ok (.d (.bl (if neg then !(i==j)else i==j))):=rfl
theorem c6(a:D)(r:List D):aI (.d (.tup (a::r))) (.d (.int 0))=.ok (.d a):=jT (k:=0) rfl
theorem c7(a b:D)(r:List D):aI (.d (.tup (a::b::r))) (.d (.int 1))=.ok (.d b):=jT (k:=1) rfl
theorem c8(a b c:D)(r:List D):aI (.d (.tup (a::b::c::r))) (.d (.int 2))=.ok (.d c):=jT (k:=2) rfl
theorem QX(n:Nat)(h:n<=1000):below 4611686018427387904 (n:Int)=true:=fm.mpr ⟨by omega,by omega⟩
def JG(j:Int):M (List D):=if below 4611686018427387904 j then .ok (eW 0 j.toNat)else .bad
theorem Ot(j:Int)(h:below 4611686018427387904 j=true):JG j=.ok (eW 0 j.toNat):=by unfold JG;exact if_pos h
theorem Oq{gs:338}(hg:gs env=.ok [.d (.int j)]):dQ gs env=JG j:=by unfold dQ JG;rw[hg];rfl
theorem Ip{gs:338}{env:Ev}{n:Nat}(hg:gs env=.ok [.d (.int (n:Int))])(h:n<=1000):dQ gs env=.ok (eW 0 n):=by rw[Oq hg,Ot _ (QX n h)];exact congrArg (λk=>M.ok (eW 0 k)) (W4 n)
theorem cR{t u:G O}(h:t env=.ok (.nx e)):av t u env=u e:=by unfold av;rw[h];rfl
theorem F6{t u:G O}(h:t env=.ok (.rt r)):av t u env=.ok (.rt r):=by unfold av;rw[h];rfl
theorem kL{g:244}{u:G O}(h:g env=.ok ds):d8 g t u env=dR t u ds env:=by unfold d8;rw[h];rfl
abbrev inner:G O:=(d8 (dQ (ah (gN eV 276) ay)) (aJ 3) (aM (bY (bD (aK (gN (aD 3 BQ) (ah (g2 aI (af 2) (af 3)) (ah 158 253))))) (bK (aK (g2 (b9 λi j=>.bl (decide (j<i))) (af 3) 132)) (bD (aK (g2 M4 (g2 aI (g2 aI (af 2) (g2 g8 (af 3) 137)) 132) (g2 aI (g2 aI (af 2) (af 3)) 132)))))) 390 bh))
theorem d_(i j:Int):bZ (.d (.int i)) (.d (.int j))=.ok (.d (.int (i+j))):=rfl
theorem PV(i j:Int):g8 (.d (.int i)) (.d (.int j))=.ok (.d (.int (i-j))):=rfl
theorem pR{C:Int->Int->Bool}{f:Int->Int->D}(h:C i j=true):fI C f (.d (.int i)) (.d (.int j))=.ok (.d (f i j)):=by show(if C i j=true then M.ok (R.d (f i j))else M.bad)=_;rw[if_pos h]
theorem j_(i j:Int)(h1:-(2^64)<j)(h2:j<2^64):cW (.d (.int i)) (.d (.int j))=.ok (.d (.int (i*j))):=pR (C:=rT) (f:=λi j=>.int (i*j)) (by unfold rT;rw[W_];exact Xa (fm.mpr ⟨h1,h2⟩))
theorem su(i j:Int)(h1:-(2^64)<i)(h2:i<2^64):cW (.d (.int i)) (.d (.int j))=.ok (.d (.int (i*j))):=pR (C:=rT) (f:=λi j=>.int (i*j)) (by unfold rT;rw[W_];exact Yc (fm.mpr ⟨h1,h2⟩))
theorem c_(i j:Int)(h1:0<j)(h2:j<1073741824):dG (.d (.int i)) (.d (.int j))=.ok (.d (.int (i/j))):=pR (by
 unfold CN;rw[Vg];exact⟨decide_eq_true h1,fm.mpr ⟨by omega,h2⟩⟩)
theorem bP(i j:Int)(h1:0<j):bV (.d (.int i)) (.d (.int j))=.ok (.d (.int (i%j))):=pR (decide_eq_true h1)
theorem vA:kJ (.d (.int 2)) (.d (.int 64))=.ok (.d (.int 18446744073709551616)):=pR 120
theorem OI:kJ (.d (.int 2)) (.d (.int 8))=.ok (.d (.int 256)):=pR 120
theorem DG(x y:Str)(h:x.length+y.length<=1000):bZ (.d (.str x)) (.d (.str y))=.ok (.d (.str (x++y))):=by show(if x.length+y.length<=sizeLine then M.ok (R.d (D.str (x++y)))else M.bad)=_;rw[if_pos (iI h)]
theorem DF(x:Str)(n:Int)(h0:0<=n)(h:n<=1000)(hx:x.length<=1000):cW (.d (.str x)) (.d (.int n))=.ok (.d (.str (fX x n.toNat))):=by show(if 0<=n/\n<=1000/\x.length<=1000 then M.ok (R.d (D.str (fX x n.toNat)))else M.bad)=_;rw[if_pos ⟨h0,h,hx⟩]
def MH:Str:="abcdefghijklmnopqrstuvwxyz"
theorem MI:∀k:Fin 26,MH.cps.toList[k.val]?=some (97+k.val):=by decide +kernel
theorem JY:MH.length<=1000:=by decide +kernel
theorem yV(i:Int)(h0:0<=i)(h:i<26):aI (.d 305) (.d (.int i))=.ok (.d (.str ⟨#[97+i.toNat]⟩)):=by
 have e:i=((i.toNat:Nat):Int):=by omega
 have:=A2 (z:=MH) (k:=i.toNat) JY (MI ⟨i.toNat,by omega⟩);rw[e];exact this
def bases:List Nat:=[98,99,100,102,103]
theorem Ke:∀k:Fin 5,("bcdfg":Str).cps.toList[k.val]?=some (bases.getD k.val 0):=by decide +kernel
theorem GI:("bcdfg":Str).length<=1000:=by decide +kernel
theorem KR(i:Int)(h0:0<=i)(h:i<5):∃b∈bases,aI (.d (.str "bcdfg")) (.d (.int i))=.ok 264:=by
 have e:i=((i.toNat:Nat):Int):=by omega
 have hb:i.toNat<bases.length:=by show _<5;omega
 refine⟨bases.getD i.toNat 0,?_,?_⟩
 ·rw[Vq,U3 hb];exact VT _
 ·have:=A2 (z:="bcdfg") (k:=i.toNat) GI (Ke ⟨i.toNat,by omega⟩);rw[e];exact this
theorem pQ(x y:Str):(x++y).cps.toList=x.cps.toList++y.cps.toList:=by show(x.cps++y.cps).toList=_;simp
theorem tE(c:Array Nat):∀(k:Nat)(acc:Array Nat),((Vv k c).foldl (·++·) acc).toList=acc.toList++(Vv k c.toList).flatten
 |0,acc=>by simp
 |k+1,acc=>by rw[WK,aaa,tE c k];simp[WK]
theorem jf(b n:Nat):(fX ⟨#[b]⟩ n).cps.toList=Vv n b:=by
 unfold fX;simp only;rw[tE]
 induction n with
 |zero=>rfl
 |succ n ih=>simpa[WK]using ih
theorem mK(x:Str):x.length=x.cps.toList.length:=by show x.cps.size=_;simp
theorem L8{x y:Str}(h:x.cps.toList=y.cps.toList):x=y:=by
 cases x with
 |mk a=>
  cases y with
  |mk b=>
   simp only at h;congr 1;exact adE.mp h
theorem jj{t:GT}{u:G O}(I:Nat->Ev->Prop)(n:Nat)
  (h:∀k,k<n->∀env,I k env->∃e1 e2,t (.int k) env=.ok e1/\u e1=.ok (.nx e2)/\I (k+1) e2) (env:Ev) (h0:I 0 env):
  ∃e,dR t u (eW 0 n) env=.ok (.nx e)/\I n e:=by
 have key:∀(m i:Nat),i+m=n->∀env,I i env->∃e,dR t u ((aah i m).map λ(k:Nat)=>D.int (0+(k:Int))) env=.ok (.nx e)/\I n e:=by
  intro m
  induction m with
  |zero=>exact λi hi env hI=>⟨env,rfl,(by omega:i=n)▸hI⟩
  |succ m ih=>
   intro i hi env hI;obtain⟨e1,e2,h1,h2,h3⟩:=h i 112 env hI;obtain⟨e,h4,h5⟩:=ih (i+1) 112 e2 h3;refine⟨e,?_,h5⟩;rw[adF,Vl];unfold dR;rw[adp,h1,aT,h2,aT];exact h4
 obtain⟨e,h1,h2⟩:=key n 0 112 env h0;refine⟨e,?_,h2⟩;unfold eW;rw[ZQ];exact h1
noncomputable def ef:List (List Nat):=[[97,110,100],[111,114],[110,111,116],[115,111,109,101],[101,118,101,114,121],[108,101,97,115,116],[116,114,117,101],[102,97,108,115,101]]
def eO:List Str:=["and","or","not","some","every","least","true","false"]
theorem wF:eO.map (λw=>w.cps.toList)=ef:=by decide +kernel
theorem wG:words=eO.map .str:=rfl
theorem EK(x:Str):inD (.str x) words=eO.any λw=>w==x:=by rw[wG];unfold inD;rw[abH];congr 1
theorem Hz:∀k:Fin 26,ND (97+k.val)=true:=by decide +kernel
theorem zf{x:Str}(h2:2<=x.cps.toList.length)(h8:x.cps.toList.length<=8)(hw:x.cps.toList∉ef)(ha:∀k∈x.cps.toList,97<=k/\k<123):E_ x=true:=by
 unfold E_;rw[mK,decide_eq_true h2,decide_eq_true h8,aaV,aaV,Vg];refine⟨?_,Xi.mpr λk hk=>?_⟩
 ·rw[ac5,acW];intro h;rw[EK,Yn]at h;obtain⟨w,h1,h3⟩:=h;have e:w=x:=eq_of_beq h3;subst e;refine hw ?_;rw[<-wF];exact Vc.mpr ⟨w,h1,rfl⟩
 ·obtain⟨h1,h3⟩:=ha k hk;have:=Hz ⟨k-97,by omega⟩;rw[show 97+(k-97)=k by omega]at this;exact this
theorem G6:∀b∈bases,∀w∈ef,¬(w.filter (· != b)).length<=1:=by decide
theorem zk(hb:b∈bases){l:249}(h:(l.filter (· != b)).length<=1):l∉ef:=λz=>G6 b hb l z h
theorem E6:∀w∈ef,∀w'∈ef,w'.dropLast≠w:=by decide
theorem rO:∀b∈bases,97<=b/\b<123:=by decide
theorem strs_map:∀(ss:131),strsOf (ss.map .str)=some ss
 |[]=>rfl
 |s::r=>by simp only[Vl,strsOf,strs_map r];rfl
theorem sorted_strs(m:Md)(ss:131)(h:ss.length<64):jU [.l m (ss.map .str)]=.ok (.l .fresh ((fL ss).map .str)):=by unfold jU;simp only[fY,aT,strs_map,h,if_true]
theorem Ga{ss:131}(h:ss.Nodup):(fL ss).Pairwise λa b=>a.cps.toList<b.cps.toList:=by
 have h1:=k9 ss;have h2:(fL ss).Nodup:=(gZ ss).symm.nodup h;have:=h1.and h2;refine this.imp fun {a b} ⟨x,y⟩=>?_;unfold gK at x;have x:=of_decide_eq_true x;rcases List.le_iff_lt_or_eq.mp x with z|z
 ·exact z
 ·exact absurd (L8 z) y
theorem yE{gi:244}{ge:G R}(hm:m<=1000)(f:Nat->D)(hi:gi env=.ok (eW 0 m))(hc:cE 1 cap env=none::tl)(h:∀k,k<m->ge (some (.d (.int (k:Nat)))::tl)=.ok (.d (f k))):
  c9 1 cap gi (aJ 0) f_ ge env=.ok (.l .fresh ((U8 m).map f)):=by
 have e:=Eo (ge:=ge) (f:=λd=>match d with | .int i=>f i.toNat|_=>.non) tl (eW 0 m) none λd hd=>by unfold eW at hd;rw[Vc]at hd;obtain⟨k,hk,rfl⟩:=hd;rw[adp];exact h k (Vf.mp hk)
 have hl:(eW 0 m).length<=sizeLine:=by unfold eW;rw[UL,V_];exact iI hm
 unfold c9;rw[hi,aT,if_pos hl,hc,e,aT];unfold eW;rw[Wc];congr 3;funext k;show f ((0:Int)+(k:Int)).toNat=f k;rw[adp,W4]
theorem F2(b:Nat):∀(i j:Nat),i<j->Vv i b<Vv j b
 |0,j+1,_=>by rw[WK];exact List.nil_lt_cons _ _
 |i+1,j+1,h=>by rw[WK,WK,List.cons_lt_cons_iff];exact .inr ⟨rfl,F2 b i j 112⟩
def vm(b k:Nat):Str:=fX ⟨#[b]⟩ (2+k)
def nC(f s k:Nat):Str:=(eO++eO).getD (f+k) ""++⟨#[97+s]⟩
def l7(b a r:Nat)(q:Int)(k:Nat):Str:=fX ⟨#[b]⟩ a++⟨#[97+((q+5*(k:Int))%26).toNat]⟩++fX ⟨#[b]⟩ r
def Good(m:Nat)(ss:131):Prop:=ss.length=m/\(∀s∈ss,E_ s=true)/\ss.Pairwise λa b=>a.cps.toList<b.cps.toList
theorem O3(hb:b∈bases)(hm:m<=6):Good m ((U8 m).map (vm b)):=by
 refine⟨by simp,λs hs=>?_,?_⟩
 ·obtain⟨k,hk,rfl⟩:=Vc.mp hs;have hk:=Vf.mp hk;have e:(vm b k).cps.toList=Vv (2+k) b:=jf b (2+k);refine zf (by rw[e,VL];omega) (by rw[e,VL];omega) (zk hb ?_) λx hx=>?_
  ·rw[e];simp
  ·rw[e]at hx;rw[Y8 hx];exact rO b hb
 ·rw[X6];refine Xz.imp fun {i j} h=>?_;show(fX _ _).cps.toList<(fX _ _).cps.toList;rw[jf,jf];exact F2 b _ _ 112
theorem qJ{ss:131}(hl:ss.length=m)(hn:∀s∈ss,E_ s=true)(hd:ss.Nodup):Good m (fL ss):=
 ⟨by rw[(gZ ss).length_eq,hl],λs hs=>hn s ((gZ ss).mem_iff.mp hs),Ga hd⟩
theorem yW(f s k:Nat)(h:f+k<16):(nC f s k).cps.toList=(ef++ef).getD (f+k) []++[97+s]:=by show(_++_:Str).cps.toList=_;rw[pQ];congr 1;rw[<-wF,<-VB,Vq,Vq,Vi];have hl:f+k<(eO++eO).length:=h;rw[U3 hl];rfl
theorem RD:∀j:Fin 16,(ef++ef).getD j.val []∈ef:=by decide
theorem Mh:∀w∈ef,2<=w.length/\w.length<=5/\∀k∈w,97<=k/\k<123:=by decide
theorem OS:∀(f:Fin 8)(j k:Fin 6),j.val≠k.val->(ef++ef).getD (f.val+j.val) []≠(ef++ef).getD (f.val+k.val) []:=by decide
theorem good2(hf:f<8)(hs:s<26)(hm:m<=6):Good m (fL ((U8 m).map (nC f s))):=by
 refine qJ 229 (λx hx=>?_) ?_
 ·obtain⟨k,hk,rfl⟩:=Vc.mp hx;have hk:=Vf.mp hk;have e:=yW f s k 112;have hw:=RD ⟨f+k,by omega⟩;obtain⟨h1,h2,h3⟩:=Mh _ hw;simp only at h1 h2 h3 hw;generalize (ef++ef).getD (f+k) []=w at e hw h1 h2 h3;refine zf (by rw[e,UQ];simp;omega) (by rw[e,UQ];simp;omega) (λz=>?_) λy hy=>?_
  ·rw[e]at z;exact E6 w hw _ z 229
  ·rw[e,Vk]at hy;rcases hy with hy|hy
   ·exact h3 y hy
   ·rw[UM]at hy;omega
 ·rw[aan,X6];refine(Xz (n:=m)).imp_of_mem fun {i j} hi hj h z=>?_;have hi:=Vf.mp hi;have hj:=Vf.mp hj;have z':(nC f s i).cps.toList=(nC f s j).cps.toList:=by rw[z]
  rw[yW f s i 112,yW f s j 112]at z';exact OS ⟨f,hf⟩ ⟨i,by omega⟩ ⟨j,by omega⟩ (show i≠j by omega) (aaJ z')
theorem yX(b a r:Nat)(q:Int)(k:Nat):(l7 b a r q k).cps.toList=Vv a b++[97+((q+5*(k:Int))%26).toNat]++Vv r b:=by show(_++_++_:Str).cps.toList=_;rw[pQ,pQ,jf,jf]
theorem good3(hb:b∈bases)(h2:1<=a+r)(h8:a+r<=7)(hm:m<=6):Good m (fL ((U8 m).map (l7 b a r q))):=by
 refine qJ 229 (λx hx=>?_) ?_
 ·obtain⟨k,hk,rfl⟩:=Vc.mp hx;have e:=yX b a r q k;refine zf (by rw[e];simp;omega) (by rw[e];simp;omega) (zk hb ?_) λy hy=>?_
  ·rw[e,aas,aas];have:∀n,(Vv n b).filter (· != b)=[]:=λn=>by simp
   rw[this,this,adX,V7];exact YA _ _
  ·rw[e,Vk,Vk,UM]at hy;rcases hy with(hy|hy)|hy
   ·rw[Y8 hy];exact rO b hb
   ·have:0<=(q+5*(k:Int))%26:=WU _ 120;have:(q+5*(k:Int))%26<26:=Xe _ 120;omega
   ·rw[Y8 hy];exact rO b hb
 ·rw[aan,X6];refine(Xz (n:=m)).imp_of_mem fun {i j} hi hj h z=>?_;have hi:=Vf.mp hi;have hj:=Vf.mp hj;have z':(l7 b a r q i).cps.toList=(l7 b a r q j).cps.toList:=by rw[z]
  rw[yX,yX]at z';have z2:=aaJ z';have z3:=List.append_cancel_left z2;have z4:97+((q+5*(i:Int))%26).toNat=97+((q+5*(j:Int))%26).toNat:=by simpa using z3
  have g1:0<=(q+5*(i:Int))%26:=WU _ 120;have g2:0<=(q+5*(j:Int))%26:=WU _ 120;have z5:(q+5*(i:Int))%26=(q+5*(j:Int))%26:=by omega
  omega
theorem Jw(m:Md)(xs:List D):eV [.l m xs]=.ok (.d (.int xs.length)):=rfl
def dz(ns:List Int)(k:Nat):Int:=(ns.map λx=>x%18446744073709551616).getD k 0
theorem xP(ns:List Int)(k:Nat):cS [.bor 282,.d (.int k)]=.ok (.d (.int (dz ns k))):=by
 unfold cS ni;by_cases h:k<ns.length
 ·have h':(k:Int)<ns.length:=by omega
  have e:(ns.map D.int)[k]?=some (.int ns[k]):=by rw[Vi,U3 h];rfl
  have e2:dz ns k=ns[k]%18446744073709551616:=by unfold dz;rw[Vq,Vi,U3 h];rfl
  simp[av,aM,bY,bK,bD,aK,cP,af,aG,S.rd,R.dat,cD,b8,g2,gN,ah,ay,gC,bh,aO,bz,bC,aD,bH,cu,rF,fin,b9,bq,eq_int,ak,aE,toD,toS,aN,c6,c7,c8,jN,Jw,h',pS e,vA,bP,e2]
 ·have h':¬(k:Int)<ns.length:=by omega
  have e2:dz ns k=0:=by unfold dz;rw[Vq,Vi,List.getElem?_eq_none 112];rfl
  simp[av,aM,bY,bK,bD,aK,cP,af,aG,S.rd,R.dat,cD,b8,g2,gN,ah,ay,gC,bh,aO,bz,bC,aD,bH,cu,rF,fin,b9,bq,eq_int,ak,aE,toD,toS,aN,c6,c7,c8,jN,Jw,h',e2]
abbrev eN(c m x2:Int)(x3:S)(x4:Int)(x5 x6 x7 x8 x9 x10 x11:Option S):Ev:=[some (.d (.int c)),some 298,some (.d (.int x2)),some x3,some (.d (.int x4)),x5,x6,x7,x8,x9,x10,x11]
theorem pB{m:Nat}{env:Ev}{gs:338}(h:m<=1000)(hg:gs env=.ok [.d (.int (m:Int))]):dQ gs env=.ok (eW 0 m):=Ip hg h
theorem Ml:cC (ak (gC (.str "and")) 242)=λ_=>.ok (.l .fresh words):=by funext env;rfl
theorem Kl(xs ys:List D)(h:xs.length+ys.length<=1000):bZ (.l .own xs) (.l .own ys)=.ok (.l .fresh (xs++ys)):=by show(if xs.length+ys.length<=sizeLine then M.ok (R.l Md.fresh (xs++ys))else M.bad)=_;rw[if_pos (iI h)]
theorem P5(j:Nat)(h:j<16):(words++words)[j]?=some (.str ((eO++eO).getD j "")):=by rw[wG,<-VB,Vi,Vq];have hl:j<(eO++eO).length:=h;rw[U3 hl];rfl
theorem OT:∀j:Fin 16,((eO++eO).getD j.val "").length<=5:=by decide +kernel
theorem iu{b:G Bool}{t u:G O}(h:b env=.ok false):aM b t u env=u env:=by unfold aM;rw[h];rfl
theorem gY{b:G Bool}{t u:G O}(h:b env=.ok true):aM b t u env=t env:=by unfold aM;rw[h];rfl
theorem CZ{g:G R}{f:List R->M R}(h:g env=.ok r)(hf:f [r]=.ok r'):gN f (ah g ay) env=.ok r':=by unfold gN ah;rw[h];exact hf
theorem zH{g:G R}(h:g env=.ok r)(h2:rF r=.ok r'):aO g env=.ok (.rt r'):=by unfold aO;rw[h,aT,h2];rfl
theorem JV(c:Int)(m:Nat)(hm:m<=6):∃ss:List Str,fR [.d (.int c),.d (.int m)]=.ok (.l .fresh (ss.map .str))/\Good m ss:=by
 unfold fR lV;rw[Ml];show ∃ss:List Str,fin (av _ _ [some (.d (.int c)),some 298,none,none,none,none,none,none,none,none,none,none])=_/\_;obtain⟨n,hn⟩:∃n,c*7129%1000033=n:=⟨_,rfl⟩;have n0:0<=n:=hn▸WU _ 120;have n1:n<1000033:=hn▸Xe _ 120;obtain⟨b,hb,eb⟩:=KR (n%5) 112 112;rw[cR (e:=[some (.d (.int c)),some 298,some (.d (.int n)),none,none,none,none,none,none,none,none,none]) (by simp[av,aM,bY,bK,bD,aK,cP,af,aG,S.rd,R.dat,cD,b8,g2,gN,ah,ay,gC,bh,aO,bz,bC,aD,bH,cu,rF,fin,b9,bq,eq_int,ak,aE,toD,toS,aN,c6,c7,c8,j_,bP,hn])];rw[cR (e:=[some (.d (.int c)),some 298,some (.d (.int n)),some 264,none,none,none,none,none,none,none,none]) (by simp[av,aM,bY,bK,bD,aK,cP,af,aG,S.rd,R.dat,cD,b8,g2,gN,ah,ay,gC,bh,aO,bz,bC,aD,bH,cu,rF,fin,b9,bq,eq_int,ak,aE,toD,toS,aN,c6,c7,c8,bP,eb])];rw[cR (e:=eN c m n 264 (2+n/5%7) none none none none none none none) (by simp[av,aM,bY,bK,bD,aK,cP,af,aG,S.rd,R.dat,cD,b8,g2,gN,ah,ay,gC,bh,aO,bz,bC,aD,bH,cu,rF,fin,b9,bq,eq_int,ak,aE,toD,toS,aN,c6,c7,c8,bP,c_,d_])];have lb:(⟨#[b]⟩:Str).length<=1000:=by show 1<=1000;decide
 by_cases c1:n/35%4=1
 ·refine⟨(U8 m).map (vm b),?_,O3 hb hm⟩;have cr:=yE (cap:=[3]) (gi:=dQ 253) (ge:=g2 cW (af 1) (g2 bZ 162 (af 0))) (env:=eN c m n 264 (2+n/5%7) none none none none none none none) (tl:=[some 264]) (m:=m) 112 (λk=>.str (vm b k)) (pB 112 125) rfl (λk hk=>by
   have:=DF ⟨#[b]⟩ (2+(k:Int)) 112 112 lb;have e:(2+(k:Int)).toNat=2+k:=by omega
   rw[e]at this;simp[av,aM,bY,bK,bD,aK,cP,af,aG,S.rd,R.dat,cD,b8,g2,gN,ah,ay,gC,bh,aO,bz,bC,aD,bH,cu,rF,fin,b9,bq,eq_int,ak,aE,toD,toS,aN,c6,c7,c8,d_,this,vm])
  rw[F6 (r:=.l .fresh (((U8 m).map (vm b)).map .str)) (by
   unfold aM aO;rw[cr];simp[av,aM,bY,bK,bD,aK,cP,af,aG,S.rd,R.dat,cD,b8,g2,gN,ah,ay,gC,bh,aO,bz,bC,aD,bH,cu,rF,fin,b9,bq,eq_int,ak,aE,toD,toS,aN,c6,c7,c8,c_,bP,c1])]
  rfl
 ·rw[cR (e:=eN c m n 264 (2+n/5%7) none none none none none none none) ((iu (by simp[av,aM,bY,bK,bD,aK,cP,af,aG,S.rd,R.dat,cD,b8,g2,gN,ah,ay,gC,bh,aO,bz,bC,aD,bH,cu,rF,fin,b9,bq,eq_int,ak,aE,toD,toS,aN,c6,c7,c8,c_,bP,c1])).trans rfl)];by_cases c2:n/35%4=2
  ·refine⟨fL ((U8 m).map (nC (n/140%8).toNat (n/1120%26).toNat)),?_,good2 112 112 hm⟩;have cr:=yE (cap:=[5,6,7,2]) (gi:=dQ 253) (ge:=(g2 bZ (g2 aI (g2 bZ (af 1) (af 1)) (g2 bZ (af 2) (af 0))) (g2 aI (af 3) (g2 bV (g2 dG (af 4) (gC (.int 1120))) (gC (.int 26)))))) (env:=eN c m n 264 (2+n/5%7) (some (.own words)) (some (.d (.int (n/140%8)))) (some (.d 305)) none none none none) (tl:=[some (.own words),some (.d (.int (n/140%8))),some (.d 305),some (.d (.int n))]) (m:=m) 112 (λk=>.str (nC (n/140%8).toNat (n/1120%26).toNat k)) (pB 112 125) rfl (λk hk=>by
    have ea:=yV (n/1120%26) 112 112;have ew:=pS (m:=.fresh) (P5 ((n/140%8).toNat+k) 112);have ei:(((n/140%8).toNat+k:Nat):Int)=n/140%8+k:=by omega
    rw[ei]at ew;have el:=OT ⟨(n/140%8).toNat+k,by omega⟩;simp only at el;have es:=DG ((eO++eO).getD ((n/140%8).toNat+k) "") ⟨#[97+(n/1120%26).toNat]⟩ (by show _+1<=_;omega);have ec:=Kl words words 120;unfold nC;generalize (eO++eO).getD ((n/140%8).toNat+k) ""=w at ew es ⊢;simp only[g2,af,gC,List.getElem?_cons_zero,List.getElem?_cons_succ,aT,S.rd,ec,d_];rw[ew,aT,c_ _ _ 120 120,aT,bP _ _ 120,aT,ea,aT,es])
   rw[F6 (r:=.l .fresh ((fL ((U8 m).map (nC (n/140%8).toNat (n/1120%26).toNat))).map .str)) (by
    unfold aM;rw[show aK (g2 159 (g2 bV (g2 dG (af 2) (gC (.int 35))) 351) 162) (eN c m n 264 (2+n/5%7) none none none none none none none)=.ok true by simp[av,aM,bY,bK,bD,aK,cP,af,aG,S.rd,R.dat,cD,b8,g2,gN,ah,ay,gC,bh,aO,bz,bC,aD,bH,cu,rF,fin,b9,bq,eq_int,ak,aE,toD,toS,aN,c6,c7,c8,c_,bP,c2],aT,if_pos rfl];rw[cR (e:=eN c m n 264 (2+n/5%7) (some (.own words)) none none none none none none) 125];rw[cR (e:=eN c m n 264 (2+n/5%7) (some (.own words)) (some (.d (.int (n/140%8)))) none none none none none) (by simp[av,aM,bY,bK,bD,aK,cP,af,aG,S.rd,R.dat,cD,b8,g2,gN,ah,ay,gC,bh,aO,bz,bC,aD,bH,cu,rF,fin,b9,bq,eq_int,ak,aE,toD,toS,aN,c6,c7,c8,c_,bP])];rw[cR (e:=eN c m n 264 (2+n/5%7) (some (.own words)) (some (.d (.int (n/140%8)))) (some (.d 305)) none none none none) 125];have hs:=sorted_strs .fresh ((U8 m).map (nC (n/140%8).toNat (n/1120%26).toNat)) (by simp;omega);rw[Wc]at hs;exact zH (CZ cr hs) rfl)]
   rfl
  ·rw[cR (e:=eN c m n 264 (2+n/5%7) none none none none none none none) ((iu (by simp[av,aM,bY,bK,bD,aK,cP,af,aG,S.rd,R.dat,cD,b8,g2,gN,ah,ay,gC,bh,aO,bz,bC,aD,bH,cu,rF,fin,b9,bq,eq_int,ak,aE,toD,toS,aN,c6,c7,c8,c_,bP,c2])).trans rfl)];have hz:0<2+n/5%7:=by omega
   rw[cR (e:=eN c m n 264 (2+n/5%7) none none none (some (.d (.int (n/105%(2+n/5%7))))) none none none) (by simp[av,aM,bY,bK,bD,aK,cP,af,aG,S.rd,R.dat,cD,b8,g2,gN,ah,ay,gC,bh,aO,bz,bC,aD,bH,cu,rF,fin,b9,bq,eq_int,ak,aE,toD,toS,aN,c6,c7,c8,c_,bP,hz])];rw[cR (e:=eN c m n 264 (2+n/5%7) none none none (some (.d (.int (n/105%(2+n/5%7))))) (some (.own [])) none none) 150];obtain⟨a,ha⟩:∃a,n/105%(2+n/5%7)=a:=⟨_,rfl⟩;have a0:0<=a:=ha▸WU _ 112;have a1:a<2+n/5%7:=ha▸Xe _ hz;obtain⟨z,hz2⟩:∃z,2+n/5%7=z:=⟨_,rfl⟩;have z1:2<=z/\z<=8:=by omega
   rw[ha,hz2];rw[hz2]at a1;refine⟨fL ((U8 m).map (l7 b a.toNat (z-1-a).toNat (n/840))),?_,good3 hb 112 112 hm⟩;have ra:=DF ⟨#[b]⟩ a 112 112 lb;have rr:=DF ⟨#[b]⟩ (z-1-a) 112 112 lb;have la:(fX ⟨#[b]⟩ a.toNat).length<=8:=by rw[mK,jf,VL];omega
   have lr:(fX ⟨#[b]⟩ (z-1-a).toNat).length<=8:=by rw[mK,jf,VL];omega
   obtain⟨e,h1,x,y,rfl⟩:=jj (t:=aJ 10) (u:=(av (aN 11 (g2 aI (gC 305) (g2 bV (g2 bZ (g2 dG (af 2) (gC (.int 840))) (g2 cW (gC (.int 5)) (af 10))) (gC (.int 26)))))
 (eG 9 (g2 bZ (g2 bZ (g2 cW (af 3) (af 8)) (af 11)) (g2 cW (af 3) (g2 g8 (g2 g8 (af 4) 137) (af 8))))))) (λk env=>∃x y,env=eN c m n 264 z none none none (some (.d (.int a))) (some (.own (((U8 k).map (l7 b a.toNat (z-1-a).toNat (n/840))).map .str))) x y) m (λk hk env ⟨x,y,he⟩=>by
    subst he;refine⟨_,_,rfl,?_,some 332,some (.d (.str ⟨#[97+((n/840+5*(k:Int))%26).toNat]⟩)),rfl⟩
    ·have ea:=yV ((n/840+5*(k:Int))%26) 112 112;rw[cR (e:=eN c m n 264 z none none none (some (.d (.int a))) (some (.own (((U8 k).map (l7 b a.toNat (z-1-a).toNat (n/840))).map .str))) (some 332) (some (.d (.str ⟨#[97+((n/840+5*(k:Int))%26).toNat]⟩)))) (by simp[av,aM,bY,bK,bD,aK,cP,af,aG,S.rd,R.dat,cD,b8,g2,gN,ah,ay,gC,bh,aO,bz,bC,aD,bH,cu,rF,fin,b9,bq,eq_int,ak,aE,toD,toS,aN,c6,c7,c8,aJ,d_,su,c_,bP,ea])];have e1:=DG (fX ⟨#[b]⟩ a.toNat) ⟨#[97+((n/840+5*(k:Int))%26).toNat]⟩ (by show _+1<=_;omega);have e2:=DG (fX ⟨#[b]⟩ a.toNat++⟨#[97+((n/840+5*(k:Int))%26).toNat]⟩) (fX ⟨#[b]⟩ (z-1-a).toNat) (by
      rw[mK,pQ,UQ,<-mK];simp;omega)
     have hk':k<sizeLine:=U6 (by omega:k<1000) 120;simp[av,aM,bY,bK,bD,aK,cP,af,aG,S.rd,R.dat,cD,b8,g2,gN,ah,ay,gC,bh,aO,bz,bC,aD,bH,cu,rF,fin,b9,bq,eq_int,ak,aE,toD,toS,aN,c6,c7,c8,eG,ra,rr,e1,e2,PV,hk',adY,l7]) (eN c m n 264 z none none none (some (.d (.int a))) (some (.own [])) none none) ⟨none,none,rfl⟩
   rw[cR ((kL (pB (m:=m) 112 125)).trans h1)];have hs:=sorted_strs .own ((U8 m).map (l7 b a.toNat (z-1-a).toNat (n/840))) (by simp;omega);rw[zH (CZ (r:=.l .own (((U8 m).map (l7 b a.toNat (z-1-a).toNat (n/840))).map .str)) rfl hs) rfl];rfl
abbrev dN(k:Nat):D:=.int k
abbrev dP(p:Nat×Nat):D:=.tup [.int p.1,.int p.2]
def NT(p q:Nat×Nat):Prop:=p.1<q.1\/(p.1=q.1/\p.2<q.2)
def xo(m:Nat)(xs:249):Prop:=xs.length<=8/\xs.Pairwise (· < ·)/\∀x∈xs,x<m
def xm(m:Nat)(ps:List (Nat×Nat)):Prop:=ps.length<=64/\ps.Pairwise NT/\∀p∈ps,p.1<m/\p.2<m
def D8(ss:131):Prop:=ss.length<=3/\(∀s∈ss,E_ s=true)/\ss.Pairwise λa b=>a.cps.toList<b.cps.toList
structure Wd where
 m:Nat
 ms:List (Str×List Nat)
 ar:List (Str×List (Nat×Nat))
abbrev kW(r:Str×List Nat):D:=.tup [.str r.1,.tup (r.2.map dN)]
abbrev pC(r:Str×List (Nat×Nat)):D:=.tup [.str r.1,.tup (r.2.map dP)]
def Wd.d(w:Wd):D:=.tup [.int w.m,.tup (w.ms.map kW),.tup (w.ar.map pC)]
theorem Mw(b:Int)(m:Nat)(hm:m<=8):∃xs:List Nat,gU [.d (.int b),.d (.int m)]=.ok (.d (.tup (xs.map dN)))/\xo m xs:=by
 unfold gU nk;show ∃xs:List Nat,fin (av _ _ [some (.d (.int b)),some 298,none,none])=_/\_;rw[cR (e:=[some (.d (.int b)),some 298,some (.own []),none]) 150];obtain⟨e,h1,b',xs,y,rfl,hl,hp,hx⟩:=jj (t:=aJ 3) (u:=(av (aM (aK (g2 159 (g2 bV (af 0) 162) 137)) (eG 2 (af 3)) bh)
 (aN 0 (g2 dG (af 0) 162)))) (λk env=>∃(b':Int)(xs:249)(y:Option S),env=[some (.d (.int b')),some 298,some (.own (xs.map dN)),y]/\xs.length<=k/\xs.Pairwise (· < ·)/\∀x∈xs,x<k) m (λk hk env ⟨b',xs,y,he,hl,hp,hx⟩=>by
  subst he;have hz:xs.length<sizeLine:=U6 (by omega:xs.length<1000) 120;by_cases hb:b'%2=1
  ·refine⟨_,_,rfl,?_,b'/2,xs++[k],some 332,rfl,by simp;omega,?_,λx hx'=>?_⟩
   ·rw[cR (e:=[some (.d (.int b')),some 298,some (.own ((xs++[k]).map dN)),some 332]) ((gY 163).trans (by simp[av,aM,bY,bK,bD,aK,cP,af,aG,S.rd,R.dat,cD,b8,g2,gN,ah,ay,gC,bh,aO,bz,bC,aD,bH,cu,rF,fin,b9,bq,eq_int,ak,aE,toD,toS,aN,c6,c7,c8,eG,hz]))];simp[av,aM,bY,bK,bD,aK,cP,af,aG,S.rd,R.dat,cD,b8,g2,gN,ah,ay,gC,bh,aO,bz,bC,aD,bH,cu,rF,fin,b9,bq,eq_int,ak,aE,toD,toS,aN,c6,c7,c8,c_]
   ·rw[ZR];exact⟨hp,aaW _ _,λa ha c hc=>by rw[UM]at hc;rw[hc];exact hx a ha⟩
   ·rw[Vk,UM]at hx';rcases hx' with h|h
    ·exact Ww (hx x h)
    ·omega
  ·refine⟨_,_,rfl,?_,b'/2,xs,some 332,rfl,by omega,hp,λx h=>Ww (hx x h)⟩;rw[cR (e:=[some (.d (.int b')),some 298,some (.own (xs.map dN)),some 332]) ((iu 163).trans rfl)];simp[av,aM,bY,bK,bD,aK,cP,af,aG,S.rd,R.dat,cD,b8,g2,gN,ah,ay,gC,bh,aO,bz,bC,aD,bH,cu,rF,fin,b9,bq,eq_int,ak,aE,toD,toS,aN,c6,c7,c8,c_]) [some (.d (.int b)),some 298,some (.own []),none] ⟨b,[],none,rfl,Vb _,.nil,λx h=>by cases h⟩
 rw[cR ((kL (pB (m:=m) 112 125)).trans h1)];exact⟨xs,rfl,by omega,hp,hx⟩
def Nh(k j:Nat)(p:Nat×Nat):Prop:=p.1<k\/(p.1=k/\p.2<j)
theorem Gz(b:Int)(m:Nat)(hm:m<=8):∃ps:List (Nat×Nat),gq [.d (.int b),.d (.int m)]=.ok (.d (.tup (ps.map dP)))/\xm m ps:=by
 unfold gq lW;show ∃ps:List (Nat×Nat),fin (av _ _ [some (.d (.int b)),some 298,none,none,none])=_/\_;rw[cR (e:=[some (.d (.int b)),some 298,some (.own []),none,none]) 150];obtain⟨e,h1,b',ps,y,z,rfl,hl,hp,hx⟩:=jj (t:=aJ 3) (u:=(d8 (dQ 253) (aJ 4) (av (aM (aK (g2 159 (g2 bV (af 0) 162) 137)) (eG 2 (bN (ak (af 3) (ak (af 4) aE)))) bh)
 (aN 0 (g2 dG (af 0) 162))))) (λk env=>∃(b':Int)(ps:List (Nat×Nat))(y z:Option S),env=[some (.d (.int b')),some 298,some (.own (ps.map dP)),y,z]/\ps.length<=8*k/\ps.Pairwise NT/\∀p∈ps,p.1<k/\p.2<m) m (λk hk env ⟨b',ps,y,z,he,hl,hp,hx⟩=>by
  subst he;obtain⟨e,h1,b2,qs,z,rfl,hl2,hp2,Ss⟩:=jj (t:=aJ 4) (u:=(av (aM (aK (g2 159 (g2 bV (af 0) 162) 137)) (eG 2 (bN (ak (af 3) (ak (af 4) aE)))) bh)
 (aN 0 (g2 dG (af 0) 162)))) (λj env=>∃(b2:Int)(qs:List (Nat×Nat))(z:Option S),env=[some (.d (.int b2)),some 298,some (.own (qs.map dP)),some 332,z]/\qs.length<=8*k+j/\qs.Pairwise NT/\∀p∈qs,Nh k j p/\p.2<m) m (λj hj env ⟨b2,qs,z,he,hl2,hp2,Ss⟩=>by
   subst he;have hz:qs.length<sizeLine:=U6 (by omega:qs.length<1000) 120;have SA:2<=sizeLine:=by decide
   by_cases hb:b2%2=1
   ·refine⟨_,_,rfl,?_,b2/2,qs++[(k,j)],some (.d (.int j)),rfl,by simp;omega,?_,λp hp'=>?_⟩
    ·rw[cR (e:=[some (.d (.int b2)),some 298,some (.own ((qs++[(k,j)]).map dP)),some 332,some (.d (.int j))]) ((gY 163).trans (by simp[av,aM,bY,bK,bD,aK,cP,af,aG,S.rd,R.dat,cD,b8,g2,gN,ah,ay,gC,bh,aO,bz,bC,aD,bH,cu,rF,fin,b9,bq,eq_int,ak,aE,toD,toS,aN,c6,c7,c8,eG,bN,hz,SA]))];simp[av,aM,bY,bK,bD,aK,cP,af,aG,S.rd,R.dat,cD,b8,g2,gN,ah,ay,gC,bh,aO,bz,bC,aD,bH,cu,rF,fin,b9,bq,eq_int,ak,aE,toD,toS,aN,c6,c7,c8,c_]
    ·rw[ZR];refine⟨hp2,aaW _ _,λa ha c hc=>?_⟩;rw[UM]at hc;rw[hc];exact(Ss a ha).1
    ·rw[Vk,UM]at hp';rcases hp' with h|h
     ·refine⟨?_,(Ss p h).2⟩;rcases(Ss p h).1 with q|⟨q,q'⟩
      ·exact .inl q
      ·exact .inr ⟨q,by omega⟩
     ·rw[h];exact⟨.inr ⟨rfl,VS _⟩,hj⟩
   ·refine⟨_,_,rfl,?_,b2/2,qs,some (.d (.int j)),rfl,by omega,hp2,λp h=>⟨?_,(Ss p h).2⟩⟩
    ·rw[cR (e:=[some (.d (.int b2)),some 298,some (.own (qs.map dP)),some 332,some (.d (.int j))]) ((iu 163).trans rfl)];simp[av,aM,bY,bK,bD,aK,cP,af,aG,S.rd,R.dat,cD,b8,g2,gN,ah,ay,gC,bh,aO,bz,bC,aD,bH,cu,rF,fin,b9,bq,eq_int,ak,aE,toD,toS,aN,c6,c7,c8,c_]
    ·rcases(Ss p h).1 with q|⟨q,q'⟩
     ·exact .inl q
     ·exact .inr ⟨q,by omega⟩) [some (.d (.int b')),some 298,some (.own (ps.map dP)),some 332,z] ⟨b',ps,z,rfl,hl,hp,λp h=>⟨.inl (hx p h).1,(hx p h).2⟩⟩
  refine⟨_,_,rfl,(kL (pB (m:=m) 112 125)).trans h1,b2,qs,some 332,z,rfl,by omega,hp2,λp h=>⟨?_,(Ss p h).2⟩⟩;rcases(Ss p h).1 with q|⟨q,q'⟩
  ·omega
  ·omega) [some (.d (.int b)),some 298,some (.own []),none,none] ⟨b,[],none,none,rfl,Vb _,.nil,λx h=>by cases h⟩
 rw[cR ((kL (pB (m:=m) 112 125)).trans h1)];exact⟨ps,rfl,by omega,hp,hx⟩
theorem u0{α:Type}(f:α->D)(xs:List α)(l u:Option Int):∃ys:List α,cutD (xs.map f) l u=ys.map f/\ys=(xs.drop (HT.bT xs.length 0 l)).take (HT.bT xs.length xs.length u-HT.bT xs.length 0 l):=by refine⟨_,?_,rfl⟩;unfold cutD;rw[UL,ZV,ZW]
theorem AS{α:Type}(xs:List α)(i j:Nat):((xs.drop i).take j).Sublist xs:=(aaF _ _).trans (ac6 _ _)
theorem Good.sub{ss ys:131}(h:Good m ss)(s:ys.Sublist ss)(hl:ys.length<=3):D8 ys:=⟨hl,λx hx=>h.2.1 x (s.subset hx),h.2.2.sublist s⟩
theorem Ox(xs:List D)(l u:Option Int):ji (.l .own xs) l u=.ok (.l .fresh (cutD xs l u)):=rfl
theorem BG(m:Md)(xs:List D):f7 [.l m xs]=.ok (.d 333):=rfl
theorem rE(c:Int):∃A B:List Str,gE [.d (.int c)]=.ok (.d 211)/\D8 A/\D8 B:=by
 obtain⟨ss,hs,hg⟩:=JV c 6 (UW _);have hs:fR [.d (.int c),.d (.int 6)]=.ok (.l .fresh (ss.map .str)):=hs;unfold gE kO;generalize fR=F_names at hs ⊢;show ∃A B:List Str,fin (av _ _ [some (.d (.int c)),none,none,none])=_/\_;obtain⟨n,hn⟩:∃n,c*523%10007=n:=⟨_,rfl⟩;have n0:0<=n:=hn▸WU _ 120;rw[cR (e:=[some (.d (.int c)),some (.own (ss.map .str)),none,none]) (by simp[av,aM,bY,bK,bD,aK,cP,af,aG,S.rd,R.dat,cD,b8,g2,gN,ah,ay,gC,bh,aO,bz,bC,aD,bH,cu,rF,fin,b9,bq,eq_int,ak,aE,toD,toS,aN,c6,c7,c8,hs])];rw[cR (e:=[some (.d (.int c)),some (.own (ss.map .str)),some (.d (.int n)),none]) (by simp[av,aM,bY,bK,bD,aK,cP,af,aG,S.rd,R.dat,cD,b8,g2,gN,ah,ay,gC,bh,aO,bz,bC,aD,bH,cu,rF,fin,b9,bq,eq_int,ak,aE,toD,toS,aN,c6,c7,c8,j_,bP,hn])];rw[cR (e:=[some (.d (.int c)),some (.own (ss.map .str)),some (.d (.int n)),some (.d (.int (n/16%3)))]) (by simp[av,aM,bY,bK,bD,aK,cP,af,aG,S.rd,R.dat,cD,b8,g2,gN,ah,ay,gC,bh,aO,bz,bC,aD,bH,cu,rF,fin,b9,bq,eq_int,ak,aE,toD,toS,aN,c6,c7,c8,c_,bP])];obtain⟨A,ha,ha'⟩:=u0 D.str ss none (some (n%4));obtain⟨B,hb,hb'⟩:=u0 D.str ss (some (n/16%3)) (some (n/16%3+n/4%4));refine⟨A,B,?_,hg.sub (ha'▸AS _ _ _) ?_,hg.sub (hb'▸AS _ _ _) ?_⟩
 ·have SA:2<=sizeLine:=by decide
  simp[av,aM,bY,bK,bD,aK,cP,af,aG,S.rd,R.dat,cD,b8,g2,gN,ah,ay,gC,bh,aO,bz,bC,aD,bH,cu,rF,fin,b9,bq,eq_int,ak,aE,toD,toS,aN,c6,c7,c8,bN,mG,qC,lE,bP,c_,d_,Ox,BG,ha,hb,SA]
 ·rw[ha',WI,HT.r6];have e:n%4=((n%4).toNat:Int):=by omega
  rw[e,HT.mZ];omega
 ·rw[hb',WI];have e:n/16%3=((n/16%3).toNat:Int):=by omega
  have e2:n/16%3+n/4%4=((n/16%3+n/4%4).toNat:Int):=by omega
  rw[e2,HT.mZ,e,HT.mZ,hg.1];omega
theorem Dw(Fs Fc:234)(ns:List Int)(a k m:Nat)(v:Int)(xs:249)(T T2:D)(s:Str)(ms:List (Str×List Nat))(hi:aI (.d T) 332=.ok (.d (.str s)))(hc:Fc [.bor 282,.d (.int ((a:Int)+k))]=.ok (.d (.int v)))(hx:Fs [.d (.int (v*167%256)),.d (.int m)]=.ok (.d (.tup (xs.map dN))))
  (SA:2<=sizeLine) (hz:ms.length<sizeLine):(eG 4 (bN (ak (g2 aI (g2 aI (af 3) 132) (af 5)) (ak (gN (aD 2 Fs) (ah (g2 bV (g2 cW (gN (aD 2 Fc) (ah (af 0) (ah (g2 bZ (af 1) (af 5)) ay))) (gC (.int 167))) (g2 kJ 162 (gC (.int 8)))) 276)) aE)))) [some (.bor 282),some (.d (.int a)),some 298,some (.d (.tup [T,T2])),some (.own (ms.map kW)),some 332,none,none]=.ok (.nx [some (.bor 282),some (.d (.int a)),some 298,some (.d (.tup [T,T2])),some (.own ((ms++[(s,xs)]).map kW)),some 332,none,none]):=by simp[av,aM,bY,bK,bD,aK,cP,af,aG,S.rd,R.dat,cD,b8,g2,gN,ah,ay,gC,bh,aO,bz,bC,aD,bH,cu,rF,fin,b9,bq,eq_int,ak,aE,toD,toS,aN,c6,c7,c8,eG,bN,hi,d_,hc,j_,OI,bP,hx,hz,SA]
theorem Av(Fs Fc:234)(ns:List Int)(a k m:Nat)(v:Int)(xs:List (Nat×Nat))(T T2:D)(s:Str)(ms:List D)(z:Option S)(rs:List (Str×List (Nat×Nat)))(hi:aI (.d T2) 332=.ok (.d (.str s)))(hc:Fc [.bor 282,.d (.int ((a:Int)+3+k))]=.ok (.d (.int v)))(hx:Fs [.d (.int (v*11400714819323198485%18446744073709551616)),.d (.int m)]=.ok (.d (.tup (xs.map dP))))
  (SA:2<=sizeLine) (hz:rs.length<sizeLine):(av (aN 7 (g2 bV (g2 cW (gN (aD 2 Fc) (ah (af 0) (ah (g2 bZ (g2 bZ (af 1) (gC (.int 3))) (af 5)) ay))) (gC (.int 11400714819323198485))) (g2 kJ 162 (gC (.int 64)))))
 (eG 6 (bN (ak (g2 aI (g2 aI (af 3) 137) (af 5)) (ak (gN (aD 2 Fs) (ah (af 7) 276)) aE))))) [some (.bor 282),some (.d (.int a)),some 298,some (.d (.tup [T,T2])),some (.own ms),some 332,some (.own (rs.map pC)),z]=.ok (.nx [some (.bor 282),some (.d (.int a)),some 298,some (.d (.tup [T,T2])),some (.own ms),some 332,some (.own ((rs++[(s,xs)]).map pC)),some (.d (.int (v*11400714819323198485%18446744073709551616)))]):=by simp[av,aM,bY,bK,bD,aK,cP,af,aG,S.rd,R.dat,cD,b8,g2,gN,ah,ay,gC,bh,aO,bz,bC,aD,bH,cu,rF,fin,b9,bq,eq_int,ak,aE,toD,toS,aN,c6,c7,c8,eG,bN,hi,d_,hc,j_,vA,bP,hx,hz,SA]
theorem JW(ns:List Int)(a m:Nat)(hm:m<=8)(A B:131)(hA:A.length<=3)(hB:B.length<=3):∃ms rs,fS [.bor 282,.d (.int a),.d (.int m),.d 211]=.ok (.d (Wd.d ⟨m,ms,rs⟩))/\
  ms.map VO=A/\rs.map VO=B/\(∀r∈ms,xo m r.2)/\∀r∈rs,xm m r.2:=by
 unfold fS lY;have HS:=λb=>Mw b m hm;have HP:=λb=>Gz b m hm;have HC:=xP ns;generalize gU=F_some at HS ⊢;generalize gq=F_pairs at HP ⊢;generalize cS=F_cell at HC ⊢;show ∃ms rs,fin (av _ _ [some (.bor 282),some (.d (.int a)),some 298,some (.d 211),none,none,none,none])=_/\_;have zA:∀k,k<3->k<sizeLine:=λk hk=>U6 (by omega:k<1000) 120;have SA:2<=sizeLine:=by decide
 have TY:3<=sizeLine:=by decide
 rw[cR (e:=[some (.bor 282),some (.d (.int a)),some 298,some (.d 211),some (.own []),none,none,none]) 150];obtain⟨e,h1,ms,y,rfl,hf,hp⟩:=jj (t:=aJ 5) (u:=(eG 4 (bN (ak (g2 aI (g2 aI (af 3) 132) (af 5)) (ak (gN (aD 2 F_some) (ah (g2 bV (g2 cW (gN (aD 2 F_cell) (ah (af 0) (ah (g2 bZ (af 1) (af 5)) ay))) (gC (.int 167))) (g2 kJ 162 (gC (.int 8)))) 276)) aE)))))
  (λk env=>∃(ms:List (Str×List Nat))(y:Option S),env=[some (.bor 282),some (.d (.int a)),some 298,some (.d 211),some (.own (ms.map kW)),y,none,none]/\ms.map VO=A.take k/\∀r∈ms,xo m r.2) A.length (λk hk env ⟨ms,y,he,hf,hp⟩=>by
   subst he;obtain⟨xs,hx,px⟩:=HS (dz ns (a+k)*167%256);have hc:=HC (a+k);rw[abI]at hc;have hi:aI (.d (.tup (A.map D.str))) 332=.ok (.d (.str A[k])):=jT (by rw[Vi,U3 hk];rfl);have hl:ms.length=k:=by have:=congrArg Z4 hf;rw[UL,WI]at this;omega
   have hz:=zA ms.length (by have:=hA;omega);refine⟨_,_,rfl,?_,ms++[(A[k],xs)],some 332,rfl,?_,λr hr=>?_⟩
   ·exact Dw F_some F_cell ns a k m _ xs _ _ _ ms hi hc hx SA hz
   ·rw[VB,hf,aei,U3 hk];rfl
   ·rw[Vk,UM]at hr;rcases hr with h|h
    ·exact hp r h
    ·rw[h];exact px) [some (.bor 282),some (.d (.int a)),some 298,some (.d 211),some (.own []),none,none,none] ⟨[],none,rfl,rfl,λr h=>by cases h⟩
 rw[cR ((kL (pB (m:=A.length) (by have:=hA;omega) 125)).trans h1)];rw[cR (e:=[some (.bor 282),some (.d (.int a)),some 298,some (.d 211),some (.own (ms.map kW)),y,some (.own []),none]) 150];obtain⟨e,h2,rs,y2,z2,rfl,hf2,hp2⟩:=jj (t:=aJ 5) (u:=(av (aN 7 (g2 bV (g2 cW (gN (aD 2 F_cell) (ah (af 0) (ah (g2 bZ (g2 bZ (af 1) (gC (.int 3))) (af 5)) ay))) (gC (.int 11400714819323198485))) (g2 kJ 162 (gC (.int 64)))))
 (eG 6 (bN (ak (g2 aI (g2 aI (af 3) 137) (af 5)) (ak (gN (aD 2 F_pairs) (ah (af 7) 276)) aE))))))
  (λk env=>∃(rs:List (Str×List (Nat×Nat)))(y z:Option S),env=[some (.bor 282),some (.d (.int a)),some 298,some (.d 211),some (.own (ms.map kW)),y,some (.own (rs.map pC)),z]/\rs.map VO=B.take k/\∀r∈rs,xm m r.2) B.length (λk hk env ⟨rs,y,z,he,hf,hp⟩=>by
   subst he;obtain⟨xs,hx,px⟩:=HP (dz ns (a+3+k)*11400714819323198485%18446744073709551616);have hc:=HC (a+3+k);rw[abI,abI]at hc;have hc:F_cell [.bor 282,.d (.int ((a:Int)+3+(k:Int)))]=.ok (.d (.int (dz ns (a+3+k)))):=hc;have hi:aI (.d (.tup (B.map D.str))) 332=.ok (.d (.str B[k])):=jT (by rw[Vi,U3 hk];rfl);have hl:rs.length=k:=by have:=congrArg Z4 hf;rw[UL,WI]at this;omega
   have hz:=zA rs.length (by have:=hB;omega);refine⟨_,_,rfl,?_,rs++[(B[k],xs)],some 332,some (.d (.int (dz ns (a+3+k)*11400714819323198485%18446744073709551616))),rfl,?_,λr hr=>?_⟩
   ·exact Av F_pairs F_cell ns a k m _ xs _ _ _ _ z rs hi hc hx SA hz
   ·rw[VB,hf,aei,U3 hk];rfl
   ·rw[Vk,UM]at hr;rcases hr with h|h
    ·exact hp r h
    ·rw[h];exact px) [some (.bor 282),some (.d (.int a)),some 298,some (.d 211),some (.own (ms.map kW)),y,some (.own []),none] ⟨[],y,none,rfl,rfl,λr h=>by cases h⟩
 rw[cR ((kL (pB (m:=B.length) (by have:=hB;omega) 125)).trans h2)];refine⟨ms,rs,?_,by rw[hf,ZM],by rw[hf2,ZM],hp,hp2⟩;simp[av,aM,bY,bK,bD,aK,cP,af,aG,S.rd,R.dat,cD,b8,g2,gN,ah,ay,gC,bh,aO,bz,bC,aD,bH,cu,rF,fin,b9,bq,eq_int,ak,aE,toD,toS,aN,c6,c7,c8,bN,BG,TY,Wd.d]
theorem Mx(ns:List Int)(a m:Nat)(hm:m<=8)(A B:131)(hA:D8 A)(hB:D8 B):∃ms rs,fS [.bor 282,.d (.int a),.d (.int m),.d 211]=.ok (.d (Wd.d ⟨m,ms,rs⟩))/\
  ms.map VO=A/\rs.map VO=B/\(∀r∈ms,xo m r.2)/\∀r∈rs,xm m r.2:=JW ns a m hm A B hA.1 hB.1
theorem wc{K:UG}{J:L2.Hp}:∀(ns:List Int),aW K J 282 (ns.map L2.V.int)
 |[]=>.nil
 |n::r=>.cons (.int n) (wc r)
end K01
namespace K02
open PySem DL
end K02
namespace K02
open PySem DL K01
end K02
namespace K04
open PySem DL
end K04
namespace K04
open PySem DL K01 K02
end K04
namespace DL
open PySem PySem.Spec PyProof.Rows L2 DX
structure m7(K:UG)(x UB:Str)(st:Xq)(f:UX)(fd:Vp):Prop where
 ex:∃(oc:UH)(od:259)(T:UX)(o:Obj)(n:Nat)(kV doc pm:UH)(an:259)(cdv ct:UH)(osl:286),
  fd=Vm x UB (bX st) (bu st) (aF st) (.ref T) kV doc pm an cdv ct/\K.lookup f=some ⟨oc,od,.func fd,osl⟩/\WR K cdv UB=true/\K.lookup T=some o/\o.data=.seq #[.none] n
 kp:Vu K 344=true
theorem yg{K:UG}{J H:Hp}:∀{as:List S}{vs:List V},gD K J H as vs->gD K J H (as++[.d .non]) (vs++[.non])
 |[],_,h=>by cases h;exact⟨.non,[],rfl,.non,rfl⟩
 |a::as,_,h=>by obtain⟨v,us,rfl,h1,h2⟩:=h;exact⟨v,us++[.non],rfl,h1,yg h2⟩
section
variable{P:U0}{w:Vj}{K:UG}{mg:Str->Option UH}{base:VU}
theorem Kw{st:Xq}{N ps:131}{Fm:234}(F:m7 K x UB st f fd)(Sc:cK N ps (aF st)){gB:G O}
 (hb:∀(cdv:UH)(A:Vw)(outer:List Env)(s:UI)(H:Hp)(E:XK)(J:Hp),cG k 213->IS (Qg P w K mg base N UB (aF st) f cdv A outer s H E) ⟨K,H,J,XW K J H E⟩ (bu st) gB)
 (hF:∀as,as.length=ps.length->Fm as≠.bad->fin (gB (aG N as))=Fm as):dF P w K mg base (kr P w) (k+1) f fd ps (zO K ps.length Fm):=by
 obtain⟨oc,od,T,o,n,kV,doc,pm,an,cdv,ct,osl,rfl,lk,hcd,lT,dT⟩:=F.ex;refine Jj lk hcd Sc (λvs H Q E ⟨J,as,h1,h2,h3,h4⟩=>by rw[h3.length,h2]) λA outer s H vs Q E hr ⟨J,as,h1,h2,h3,h4⟩=>?_;refine⟨_,hb cdv A outer s H E J hr,J,aG N as,zP h1 h3,?_⟩;have z:=hF as h2 (λq=>by rw[q]at h4;exact h4);rw[<-z]at h4;have ext:∀{J' H':Hp},HI ⟨K,H,J,XW K J H E⟩ J' H'->Ext J H J' H':=λhp=>⟨hp.ent,hp.entJ,hp.sub,hp.frz⟩;cases qg:gB (aG N as)with
 |bad=>rw[qg]at h4;exact h4
 |exc x=>rw[qg]at h4;exact h4
 |ok o=>
  rw[qg]at h4;cases o with
  |bk _=>exact h4.elim
  |ct _=>exact h4.elim
  |nx env=>exact λσ' J' H' _ sr=>h4 .non J' H' (ext sr.hp) .non
  |rt r=>exact λv J' H' _ hp rf=>h4 v J' H' (ext hp) (by
    cases r with
    |d x=>exact rf
    |o m _ _=>cases m<;>exact rf
    |l m xs=>exact rf)
noncomputable def Gx(P:U0)(w:Vj)(K:UG)(mg:145)(base:VU)(k n:Nat)(x:Str)(Fm:234):Prop:=
 ∃f fd ps,dF P w K mg base (kr P w) k f fd ps (zO K (n+1) Fm)/\mg x=some 344/\Vu K 344=true/\Binds K fd ps [.none]
theorem m7.bindsAll{st:Xq}{ps:131}(F:m7 K x UB st f fd)
 (h:∀(T:UX)(kV doc pm:UH)(an:259)(cdv ct:UH)(us:List UH),us.length=ps.length->∃k:Option (Array UH)->Sem (List (Str×UH)),
 Za 387 ⟨us,[]⟩=aac (.ref T)>>=k/\k (some #[.none])=pure (ps.zip us)):Binds K fd ps []:=by obtain⟨oc,od,T,o,n,kV,doc,pm,an,cdv,ct,osl,rfl,lk,hcd,lT,dT⟩:=F.ex;intro s us hK hl;rw[V7]at hl ⊢;obtain⟨k,h1,h2⟩:=h T kV doc pm an cdv ct us hl;exact .of_defaults (T:=T) (items:=#[.none]) rfl (hK _ _ lT) dT h1 h2
theorem m7.bindsOne{st:Xq}{ps:131}(F:m7 K x UB st f fd)
 (h:∀(T:UX)(kV doc pm:UH)(an:259)(cdv ct:UH)(us:List UH),us.length+1=ps.length->∃k:Option (Array UH)->Sem (List (Str×UH)),
 Za 387 ⟨us,[]⟩=aac (.ref T)>>=k/\k (some #[.none])=pure (ps.zip (us++[.none]))):Binds K fd ps [.none]:=by obtain⟨oc,od,T,o,n,kV,doc,pm,an,cdv,ct,osl,rfl,lk,hcd,lT,dT⟩:=F.ex;intro s us hK hl;obtain⟨k,h1,h2⟩:=h T kV doc pm an cdv ct us (by simpa using hl);exact .of_defaults (T:=T) (items:=#[.none]) rfl (hK _ _ lT) dT h1 h2
end
end DL
namespace DL
open PySem PySem.Spec PyProof.Rows L2
section
open PySem.SeqAt
open PySem.AutoSeq1 (wpAny_loadPart')
open PySem.MeetsSeq PySem.MeetsSeq2 PySem.MeetsSeq3
end
end DL
namespace DL
open PySem PySem.Spec PyProof.Rows L2
variable{n:Nat}
end DL
namespace DL
open PySem PySem.Spec PyProof.Rows L2
end DL
namespace DL
open PySem PySem.Spec PyProof.Rows L2
end DL
namespace DL
open PySem PySem.Spec PyProof.Rows L2
section
variable{prog:U0}{w:Vj}{A:Vw}{E:UH->UI->Prop}{s:UI}
abbrev Kp(h h':VU):Prop:=∀b o,h.get? b=some o->h'.get? b=some o
end
section
variable{K:UG}{J:Hp}
theorem IF{vs:List V}{us:List UH}(h:Vals vs us):∀{i:Nat},i<vs.length->RelV (vs.getD i V.non) (us.getD i Wk):=by
 induction vs generalizing us with
 |nil=>intro i hi;exact absurd hi (Xb _)
 |cons x r ih=>
  intro i hi;cases h with
  |cons q rs=>
   cases i with
   |zero=>simpa using q
   |succ i=>simpa using ih rs (i:=i) (by simpa using hi)
end
end DL
namespace DL
open PySem PySem.Spec PyProof.Rows L2
section
variable{X:Cx}{c:C}{e:VC}{g:G R}{pos:Pos}
noncomputable def kM(i:Nat)(f:R->R->M R)(g:G R):G O:=λenv=>match env[i]? with
 |some (some (.d d))=>g env>>=λy=>f (.d d) y>>=λz=>toS z>>=λx=>.ok (.nx (env.set i (some x)))
 |_=>.bad
theorem Lj(i:Nat){x:Str}{pos':Pos}{op:afD}{r:R2}{f:R->R->M R}(hN:X.N.Nodup)(ho:dU X (abu op) r)(hb:BD c r f)(h:PD X c e g)(hi:autoParam (X.N[i]?=some x) zzA._auto_1)(hx:Loc X.env.scope x:=by first|exact Yc rfl|exact Xa rfl)
  (hf:151:=by first|exact .inl rfl|exact .inr rfl):D3 X c (.AugAssign (.Name x pos') op e pos) (kM i f g):=
 fK (N5 hN hi hx h (λUx s σ H x y v u Q I rx ry q=>Qw ho I rx ry q) hf) λE σ H ⟨J,env,sr,w⟩=>by
 unfold kM at w;split at w
 ·rename_i d hd;obtain⟨v,h1,h2⟩:=sr.at_ i _ hd;refine⟨v,h1,J,env,sr,aB (aH w) λy wr v' J1 H1 e1 r1=>?_⟩;have sr1:=sr.ext e1;refine hb H H J1 H1 (.d d) y v v' _ sr1.hp (Rep.mono e1.j h2) r1 (aB (aH wr) λz wz w' J2 H2 e2 r2=>?_);obtain⟨x,q,wz⟩:=qk wz;exact wz (σ.set i (some w')) J2 H2 (e1.j.trans e2.j) (sr1.set e2 r2 q)
 ·exact w.elim
end
end DL
namespace DL
open PySem PySem.Spec PyProof.Rows L2 DX
section
variable{M:ab8}{A:Vw}{E:UH->UI->Prop}{s:UI}
theorem C_{scope:Yd}{globals:UX}{closure:294}{UB:Str}{func:259}{code:UH}{outer:Env}{builtins:UX}{Q:Env->UI->Prop}
  (hQ:Q (newEnv scope s.heap.objs.size globals (Wg 155 scope.names closure) UB func code (some outer) builtins) {s with heap:=adZ (s.heap.push {cls:=.type "dict",data:=.dict #[]}) scope.names}):
  UZ M A (aej scope globals closure [] UB func code (some outer) builtins) Q E s:=by simp only[aej,acH,if_true];refine UE (ad0 ?_);refine UE (wpAny_layCells _ (λname kind cells=>by cases hkc:kind==Zi<;>simp[hkc]) _ _ _ _ ?_);rw[show({s with heap:=s.heap.push {cls:=.type "dict",data:=.dict #[]}}:UI).heap.objs.size=s.heap.objs.size+1 from Wi ..];simp only[List.forIn_nil];exact UE (UJ (UJ hQ))
theorem je:∀(names:List (Str×XJ))(n:Nat)(acc:294)(x:Str),(∀y∈names,y.2=.cell->y.1≠x)->(Wg n names acc).lookup x=acc.lookup x
 |[],_,_,_,_=>by unfold Wg;rfl
 |(y,k)::r,n,acc,x,h=>by
  have hr:∀z∈r,z.2=.cell->z.1≠x:=λz hz=>h z (UN _ hz);unfold Wg;split
  ·rename_i hk;rw[je r _ _ x hr];have hy:y≠x:=h (y,k) (UO ..) (by simpa using hk);have:(x==y)=false:=by
    cases q:x==y with
    |false=>rfl
    |true=>exact absurd (eq_of_beq q).symm hy
   rw[Wq,this]
  ·exact je r _ _ x hr
end
theorem wW:∀(names:List (Str×XJ))(n:Nat)(acc:294),Wg n names acc=Wg n names []++acc:=by
 intro names
 suffices ∀(n:Nat)(a b:294),Wg n names (a++b)=Wg n names a++b by intro n acc;exact this n [] acc
 induction names with
 |nil=>intro n a b;unfold Wg;rfl
 |cons p r ih=>
  obtain⟨y,k⟩:=p;intro n a b;unfold Wg;split
  ·exact ih _ (_::a) b
  ·exact ih _ a b
def eu(names:List (Str×XJ))(x:Str):Bool:=names.any λy=>y.1==x&&y.2==.cell
theorem iB:∀(names:List (Str×XJ))(n:Nat)(acc:294)(x:Str),((acc.lookup x).isSome=true\/eu names x=true)->((Wg n names acc).lookup x).isSome=true
 |[],_,_,_,h=>by
  unfold Wg;rcases h with h|h
  ·exact h
  ·cases h
 |(y,k)::r,n,acc,x,h=>by
  unfold Wg;have e:eu ((y,k)::r) x=((y==x&&k==.cell)||eu r x):=rfl;rw[e]at h;split
  ·rename_i hk;refine iB r _ _ x ?_;by_cases hx:x=y
   ·left;subst hx;rw[Wq];simp
   ·rcases h with h|h
    ·left;rw[Wq];cases q:x==y with
     |true=>exact absurd (eq_of_beq q) hx
     |false=>exact h
    ·rw[W_,Vg]at h;rcases h with h|h
     ·exact absurd (eq_of_beq h.1).symm hx
     ·exact .inr h
  ·rename_i hk;refine iB r _ _ x ?_;rcases h with h|h
   ·exact .inl h
   ·rw[W_,Vg]at h;rcases h with h|h
    ·exact absurd h.2 hk
    ·exact .inr h
theorem gf{cl:294}(h:(Wg n names cl).lookup x=some d):
  (Wg n names []).lookup x=some d\/(eu names x=false/\cl.lookup x=some d):=by
 rw[wW,List.lookup_append]at h;cases q:(Wg n names []).lookup x with
 |some e=>rw[q]at h;left;simpa using h
 |none=>
  rw[q]at h;right;refine⟨?_,by simpa using h⟩;cases z:eu names x with
  |false=>rfl
  |true=>
   have:=iB names n [] x (.inr z);rw[q]at this;cases this
theorem n6{scope:Yd}(h:(relabel scope env).names.lookup x=some .cell\/(relabel scope env).names.lookup x=some .free):(x,WJ)∈scope.names\/eu scope.names x=true:=by
 unfold relabel at h;revert h;generalize scope.names=names
 induction names with
 |nil=>intro h;simp at h
 |cons p r ih=>
  obtain⟨n,k⟩:=p;intro h;rw[Vl]at h;simp only at h;by_cases hx:x=n
  ·subst hx;cases k with
   |free=>exact .inl (UO ..)
   |cell=>right;unfold eu;simp
   |_=>simp[Wq]at h
  ·have e:(x==n)=false:=by simpa using hx
   have h':(r.map λ(n,k)=>if 324 then(n,Zi)else(n,k)).lookup x=some .cell\/(r.map λ(n,k)=>if 324 then(n,Zi)else(n,k)).lookup x=some .free:=by split at h<;>simpa[Wq,e]using h
   rcases ih h' with z|z
   ·exact .inl (UN _ z)
   ·right;unfold eu at z ⊢;rw[WT,z,aaq]
section
variable{X:Cx}
noncomputable def eU(X:Cx)(own:131)(cap:249)(scope:Yd)(cl:294)(C:UX)(s:UI)(H:Hp)(fp:List UX):Cx:=
 {MV X own cap scope (Wg (C+1) scope.names cl) C s H fp with fn:=eu scope.names}
theorem Kq{H:Hp}{s:UI}{own:131}{scope:Yd}(I:135)(hk:scope.kind=.function)
 (hcl:fZ X.env.cells scope.names []=some cl) (ck:afx h1 155 (Wg 155 scope.names [])) (hfp:∀b∈fp,jG X Ux H b) (hin:∀b∈fp,b<s.heap.objs.size):(eU X own cap scope cl s.heap.objs.size s H fp).Ok:=by
 obtain⟨m1,m2⟩:=iM scope.names [] cl hcl (λx c h=>by simp at h);have lo:∀{x:Str}{d:UX},(Wg 155 scope.names []).lookup x=some d->s.heap.objs.size+1<=d:=fun {x d} h=>(ck.empty _ _ (Zm h)).2;have old:∀{x:Str}{d:UX},cl.lookup x=some d->d<s.heap.objs.size:=fun {x d} h=>by obtain⟨v,z⟩:=I.cell x d (m1 x d h);exact z.lt
 refine⟨I.ok.mod,hk,I.ok.glob,I.ok.blt,UW _,λx y d h1 h2=>?_,λx hx=>?_,λx d hf h=>?_,λhc=>I.ok.hd hc,I.ok.frames,.inl rfl,λb hb=>⟨U4 (hin b hb),λx d h=>?_⟩,
  I.bs,Vr I.ok.bsz I.sz,λb o h hb=>?_,λb hb hf=>?_,I.stack,I.stkFree⟩
 ·rcases gf h1 with h1|⟨_,h1⟩
  ·rcases gf h2 with h2|⟨_,h2⟩
   ·exact name_of_addr ck.apart (Zm h1) (Zm h2)
   ·exact absurd (U6 (old h2) (X7 (lo h1))) (Ws _)
  ·rcases gf h2 with h2|⟨_,h2⟩
   ·exact absurd (U6 (old h1) (X7 (lo h2))) (Ws _)
   ·exact I.ok.inj x y d (m1 x d h1) (m1 y d h2)
 ·refine VQ.mp (iB _ _ _ x ?_);rcases n6 hx with z|z
  ·exact .inl (m2 x (.inr z))
  ·exact .inr z
 ·rcases gf h with h|⟨z,h⟩
  ·exact X7 (lo h)
  ·have hf':eu scope.names x=true:=hf;rw[z]at hf';cases hf'
 ·rcases gf h with h|⟨_,h⟩
  ·exact WX (U6 (hin b hb) (X7 (lo h)))
  ·exact(hfp b hb).2.2.2.2.1 x d (m1 x d h)
 ·rcases(hfp b hb).2.2.2.1 with z|z
  ·exact I.ok.noex b o h z
  ·exact absurd (U6 (UY (I.ok.bs b o h).1) z) (Ws _)
 ·rcases UR.mp (I.stkSub b hf)with e|e
  ·exact(hfp b hb).2.1 e
  ·exact(hfp b hb).2.2.1 e
end
theorem za{cl:294}(h:eu names x=false):(Wg n names cl).lookup x=cl.lookup x:=
 je names n cl x λy hy hk e=>by unfold eu at h;have:=acN.mp h y hy;simp[hk,e]at this
section
variable{X:Cx}
theorem GW{Ux:143}{σ:L2.St}{H:Hp}{s:UI}{own:131}{cap:249}{scope:Yd}{cl:294}{fp:List UX}{h1:VU}{m:145}{tk:Nat}(I:135)(ok:(eU X own cap scope cl s.heap.objs.size s H fp).Ok)
  (hcl:fZ X.env.cells scope.names []=some cl) (ck:afx h1 155 (Wg 155 scope.names [])) (hcap:pP X cap=true) (Sk:∀j∈cap,∀x,X.N[j]?=some x->(relabel scope X.env).names.lookup x≠some .local)
  (hno:∀j∈cap,∀x,X.N[j]?=some x->eu scope.names x=false) (hns:h1.Ns s.heap.objs.size m) (old:∀b o,s.heap.get? b=some o->h1.get? b=some o):
  Inv (eU X own cap scope cl s.heap.objs.size s H fp) [] (Vv own.length none++cap.map λ(j:Nat)=>(σ[j]?).getD none) H {s with heap:=h1,toks:=tk}:=by
 obtain⟨m1,m2⟩:=iM scope.names [] cl hcl (λx c h=>by simp at h);refine⟨ok,rfl,I.bare,Un.kept old,⟨m,hns,λi x v q1 q2 q3=>?_⟩,λx d h=>?_,I.hok.fresh (UW _),λx d h=>?_,λp hp=>absurd (show p∈([]:List (UX×Obj))from hp) 229,I.hok.kept old,?_⟩
 ·obtain⟨j,h2,h3,h4⟩:=jO q2;have q1':(own++cap.map λ(j:Nat)=>(X.N[j]?).getD ("":Str))[i]?=some x:=q1;rw[Wx (by exact h2),Vi,h3]at q1';have hj:j∈cap:=XU h3;have hc:(match X.N[j]? with
   |some x=>(match X.env.scope.names.lookup x with
    |some .cell=>true
    |some .free=>true
    |_=>false)
   |none=>false)=true:=by unfold pP at hcap;exact Xi.mp hcap j hj
  cases hx:X.N[j]? with
  |none=>rw[hx]at hc;cases hc
  |some y=>
   rw[X4,hx]at q1';rw[hx]at hc;have e:y=x:=by simpa using q1'
   subst e;have kd:X.env.kindOf y=some .cell\/X.env.kindOf y=some .free:=by
    unfold afQ;simp only at hc;split at hc
    ·rename_i z;exact .inl z
    ·rename_i z;exact .inr z
    ·cases hc
   obtain⟨mX,nX,lX⟩:=I.loc;obtain⟨u,ru,lu⟩:=lX j y v hx h4 (kd.elim (λz=>.inr (.inl z)) λz=>.inr (.inr z));refine⟨u,ru,.inr ?_⟩;have kd':(relabel scope X.env).names.lookup y=some .cell\/(relabel scope X.env).names.lookup y=some .free:=by
    rcases q3 with z|z|z
    ·exact absurd z (Sk j hj y hx)
    ·exact .inl z
    ·exact .inr z
   refine⟨kd',?_⟩;have no:=hno j hj y hx;have fr:(y,WJ)∈scope.names:=by
    rcases n6 kd' with z|z
    ·exact z
    ·rw[no]at z;cases z
   obtain⟨d,hd⟩:=VQ.mp (m2 y (.inr fr));refine⟨d,(za no).trans hd,?_⟩;rcases lu with⟨z,_⟩|⟨_,d',hd',z⟩
   ·rcases kd with k|k<;>(rw[k]at z;cases z)
   ·have:=m1 y d hd;rw[hd']at this;cases this;obtain⟨o,ho,hod⟩:=z;exact⟨o,old _ _ ho,hod⟩
 ·rcases gf h with h|⟨_,h⟩
  ·exact⟨none,(ck.empty _ _ (Zm h)).1⟩
  ·obtain⟨v,o,ho,hod⟩:=I.cell x d (m1 x d h);exact⟨v,o,old _ _ ho,hod⟩
 ·rcases gf h with h|⟨_,h⟩
  ·exact I.hok.fresh (X7 (ck.empty _ _ (Zm h)).2)
  ·exact I.freeC x d (m1 x d h)
 ·show _=(own++cap.map λ(j:Nat)=>(X.N[j]?).getD ("":Str)).length;simp
end
theorem NJ(h:VU)(names:List (Str×XJ)):(adZ (h.push {cls:=.type "dict",data:=.dict #[]}) names).Ns h.objs.size (λ_=>none):=
 (Heap.Ns.new h (.type "dict")).keeps λb o e=>ad1 _ _ _ _ e
theorem Em(h:VU)(names:List (Str×XJ)):afx (adZ (h.push {cls:=.type "dict",data:=.dict #[]}) names) (h.objs.size+1) (Wg (h.objs.size+1) names []):=by have:=cellsFrom_ok names (h.push {cls:=.type "dict",data:=.dict #[]}) (h.objs.size+1) [] ⟨λ_ _ hm=>(nomatch hm),Zv⟩ (by rw[Wi];exact UW _);rw[Wi]at this;exact this
noncomputable def Ja(X:Cx)(cap:249)(scope:Yd):Bool:=cap.all λj=>match X.N[j]? with
 |some x=>!eu scope.names x
 |none=>true
section
variable{X:Cx}{c:C}{e:VC}{es:List VC}{g:G R}{pos:Pos}
theorem v5(i:Nat){x:Str}{pos':Pos}(hN:X.N.Nodup)(h:QD X c e g)(hi:autoParam (X.N[i]?=some x) zzA._auto_1)(hx:Loc X.env.scope x:=by first|exact Yc rfl|exact Xa rfl)(hf:151:=by first|exact .inl rfl|exact .inr rfl):
  ig X c (.AugAssign (.Name x pos') .Sub e pos) (kM i g8 g):=have h:=h.h;⟨Lj i hN KN (iA λ_ _ _=>.int _) h hi hx hf⟩
theorem KA{K:UG}{st:Xq}{kV doc pm cdv ct:UH}(l:K.lookup f=some ⟨oc,od,.func 387,osl⟩)
 (cd:WR K cdv UB=true) (k:Vu K 344=true) (lT:K.lookup T=some ⟨oT,dT,.seq #[.none] n,sT⟩):m7 K x UB st f 387:=
 ⟨⟨oc,od,T,_,n,kV,doc,pm,an,cdv,ct,osl,rfl,l,cd,lT,rfl⟩,k⟩
end
noncomputable def cH(gt:GT)(gts:G Bool)(act:Ev->M (List D×Ev)):List D->Ev->M (List D×Ev)
 |[],env=>.ok ([],env)
 |d::ds,env=>gt d env>>=λe=>gts e>>=λk=>if k=true then act e>>=λr=>cH gt gts act ds r.2>>=λz=>.ok (r.1++z.1,z.2)else cH gt gts act ds e
def xY(env:Ev)(σ:L2.St)(p:UX):Prop:=∀(j:Nat)(xs:Mn),env[j]?=some (some (mS xs))->σ[j]?≠some (some (.ref p))
structure xN(Acc:Hp->Hp->List D->Prop):Prop where
 ext:∀{J H J' H':Hp}{ys:List D},Acc J H ys->Ext J H J' H'->Acc J' H' ys
noncomputable def uO(X:Cx)(c:C)(p:UX)(Acc:Hp->Hp->List D->Prop)(J2 H2:Hp)(N:Nat)(m:Sem Unit)(act:Ev->M (List D×Ev)):Prop:=
 ∀(Ux:143)(s:UI)(σ:L2.St)(H J:Hp)(env:Ev)(ys:List D)(Qf:List D×Ev->Prop),Inv X Ux σ H s->Ext J2 H2 J H->SR c J H σ env->xY env σ p->Acc J H ys->ys.length+N<=sizeLine->cJ (act env) Qf c.T->
  UZ 126 X.A m (λ_ s'=>∃σ' H' J' r,Inv X Ux σ' H' s'/\Ext J2 H2 J' H'/\aY J J'/\SR c J' H' σ' r.2/\xY r.2 σ' p/\Acc J' H' (ys++r.1)/\r.1.length<=N/\Qf r) X.xe s
abbrev Gi(ifs:List VC)(env:Env):Sem Bool:=forIn ifs true λc r=>if r=true then do let ok <-acn c env (eval c env);pure (Xv ok)else pure (Xv r)
abbrev qi(Uz UA:VC)(ifs:List VC)(it:UH)(env:Env)(act:Sem Unit)(again':Sem Fin):Sem Fin:=do
 Ye UA.pos
 match <-YM it with
 |none=>pure (.done .next)
 |some v=>
  X3 Uz it v
  assign Uz env v
  let mut ok:=true
  for c in ifs do
   if ok then ok <-acn c env (eval c env)
  if ok then
   act
  again'
noncomputable def sF(prog:U0)(w:Vj)(A:Vw)(e:VC)(depth:Nat)(it acc:UH)(env:Env)(Uz:VC)(ifs:List VC)(m:Sem Unit):Prop:=
 ∀(R:aa6->UI->Prop)(E:136)(I:Nat->UI->Prop),(∀v s,E v s->aeO 139 A env (λx s'=>R (.error x) s') v s)->(∀n s,I n s->UZ 139 A (YM it) (λr s₁=>match r with
   |none=>R (.ok .next) s₁
   |some v=>UZ 139 A (X3 Uz it v) (λ_ s₁=>UZ 139 A (assign Uz env v) (λ_ s₂=>
     UZ 139 A (Gi ifs env) (λok s₃=>if ok=true then UZ 139 A m (λ_ s₅=>∃m,m<n/\I m s₅) E s₃ else ∃m,m<n/\I m s₃) E s₂) E s₁) E s₁) E s)->
  ∀(n:Nat)(s:UI),I n s->WC 139 A (.compLoop e depth it acc env) R s
section
variable{prog:U0}{w:Vj}{A:Vw}{Uz UA:VC}{ifs:List VC}{scope:Yd}{pos:Pos}{it acc:UH}{env:Env}{depth:Nat}{gens:List YG}{act:Sem Unit}
theorem zV{R:aa6->UI->Prop}{I:Nat->UI->Prop}{E:136}{code:Code}{n:Nat}{s:UI}{Q:Fin->UI->Prop}
  (T7:∀s,R (.ok .next) s->Q (.done .next) s) (TQ:∀s,(∃m,m<n/\I m s)->UZ 139 A (again code) Q E s)
  (t:UZ 139 A (YM it) (λr s₁=>match r with
   |none=>R (.ok .next) s₁
   |some v=>UZ 139 A (X3 Uz it v) (λ_ s₁=>UZ 139 A (assign Uz env v) (λ_ s₂=>
     UZ 139 A (Gi ifs env) (λok s₃=>if ok=true then UZ 139 A act (λ_ s₅=>∃m,m<n/\I m s₅) E s₃ else ∃m,m<n/\I m s₃) E s₂) E s₁) E s₁) E s):
  UZ 139 A (qi Uz UA ifs it env act (again code)) Q E s:=by
 refine UE (Xm (UE (VH t (λr s₁ h₁=>?_) λ_ _ f=>f)));cases r with
 |none=>exact UJ (T7 _ h₁)
 |some v=>
  refine UE (VH h₁ (λ_ s₁' h₁'=>?_) λ_ _ f=>f);refine UE (VH h₁' (λ_ s₂ h₂=>UE (VH h₂ (λok s₃ h₃=>?_) λ_ _ f=>f)) λ_ _ f=>f);cases ok with
  |false=>exact TQ _ h₃
  |true=>exact UE (VH h₃ (λ_ s₅ h₅=>TQ _ h₅) λ_ _ f=>f)
theorem CS{elt:VC}(ht:aaX (.ListComp elt gens scope pos) depth it acc env=qi Uz UA ifs it env act (again (.compLoop (.ListComp elt gens scope pos) depth it acc env))):sF prog w A (.ListComp elt gens scope pos) depth it acc env Uz ifs act:=by intro R E I hE turn n s h;refine codeAny_loop rfl I (λn s hI=>?_) n h;show UZ _ A ((aaX (.ListComp elt gens scope pos) depth it acc env).onRaise (λx=>do Yl x env;ad2 x)) _ _ s;refine wpAny_noted ?_;rw[ht];exact VH (zV (E:=E) (Q:=λf s'=>match f with | .done g=>R (.ok g) s' | .again c=>c=_/\∃m,m<n/\I m s') (λ_ h=>h) (λ_ h=>UJ ⟨rfl,h⟩) (turn n s hI)) (λ_ _ h=>h) hE
end
section
variable{X:Cx}{c:C}{p:UX}{Acc:Hp->Hp->List D->Prop}{J2 H2:Hp}{N:Nat}{m:Sem Unit}{act:Ev->M (List D×Ev)}{Uz:VC}{ifs:List VC}{gt:GT}{gts:G Bool}{e:VC}{depth:Nat}{acc:UH}{it:UX}{fp:List UX}{tn:Nat->VU->Prop}{It:It}{ds:List D}{J1:Hp}
theorem zc(aR:xN Acc)(hc:X.calm=true){Rx:136}(hx:∀v s,X.xe v s->aeO 126 X.A X.env Rx v s)(LP:sF X.prog X.w X.A e depth (.ref it) acc X.env Uz ifs m)(hT:D4 X c Uz gt)(hIf:BY X c ifs gts)(hA:uO X c p Acc J2 H2 N m act)(T:Turn X.prog X.w X.K Uz It fp it tn)
  (U:Hp->Hp->Prop) (wk:Walk c It ds J1 U){Ux:143}{s:UI}{σ:L2.St}{H J:Hp}{env:Ev}{ys:List D}{Qf:List D×Ev->Prop}(hU:∀J' H',Ext J2 H2 J' H'->aY J J'->U J' H') (I:135) (st:tn 0 s.heap) (fr:∀b∈fp,jG X Ux H b) (e2:Ext J2 H2 J H) (sr:SR c J H σ env) (no:xY env σ p) (ac:Acc J H ys)
  (hl:ys.length+ds.length*N<=sizeLine) (w:cJ (cH gt gts act ds env) Qf c.T):
  WC 126 X.A (.compLoop e depth (.ref it) acc X.env) (λr s'=>match r with | .error x=>Rx x s' | .ok f=>f=.next/\∃σ' H' J' r',Inv X Ux σ' H' s'/\Ext J2 H2 J' H'/\aY J J'/\SR c J' H' σ' r'.2/\xY r'.2 σ' p/\Acc J' H' (ys++r'.1)/\r'.1.length<=ds.length*N/\Qf r') s:=by
 refine LP _ X.xe (λn s'=>∃(i:Nat)(σ':L2.St)(H' J':Hp)(env':Ev)(zs:List D),n=ds.length-i/\i<=ds.length/\Inv X Ux σ' H' s'/\tn i s'.heap/\(∀b∈fp,H' b=none)/\Ext J2 H2 J' H'/\aY J J'/\SR c J' H' σ' env'/\xY env' σ' p/\Acc J' H' (ys++zs)/\zs.length<=i*N/\
  cJ (cH gt gts act (ds.drop i) env') (λr=>Qf (zs++r.1,r.2)) c.T) hx ?_ ds.length s ⟨0,σ,H,J,env,[],rfl,Vb _,I,st,λb hb=>(fr b hb).1,e2,aY.refl J,sr,no,by rw[V7];exact ac,by simp,by rw[ab6];exact w⟩
 rintro n s' ⟨i,σ',H',J',env',zs,rfl,hi,I',st',fr',e',sj,sr',no',ac',hz,w'⟩;have stat:∀{H':Hp},(∀b∈fp,H' b=none)->∀b∈fp,jG X Ux H' b:=λhn b hb=>⟨hn b hb,(fr b hb).2⟩;obtain⟨wk1,wk2⟩:=wk i J' H' sr'.hp (hU J' H' e' sj);by_cases hlt:i<ds.length
 ·obtain⟨g1,y1⟩:=wk2 ds[i] (by simp[hlt]);rw[W7 hlt]at w';refine VH (T.item X rfl rfl rfl hc i Ux s' σ' H' X.xe I' (stat fr') st' g1) (λr s4 ⟨u,hr,h4⟩=>?_) λ_ _ f=>f;subst hr;refine VH h4 (λ_ s5 ⟨x,H5,I5,r5,y5,st5,fr5⟩=>?_) λ_ _ f=>f;obtain⟨J5,e5,rx⟩:=y1 x H5 y5;have I5':=I5.pinned (stat fr5) (T.obj _ _ st5);have again:∀{σ7:L2.St}{H7:Hp}{s7:UI},Inv X (Ux++o6 fp s5.heap) σ7 H7 s7->Inv X Ux σ7 H7 s7/\tn (i+1) s7.heap/\(∀b∈fp,H7 b=none):=fun {σ7 H7 s7} I7=>by refine⟨I7.unpinned,T.keep _ _ _ st5 λb hb o e=>(I7.pin (b,o) (VJ _ (VJ _ (jP hb e)))).1,λb hb=>?_⟩;obtain⟨o,e,d⟩:=T.obj _ _ st5 b hb;exact(I7.pin (b,o) (VJ _ (VJ _ (jP hb e)))).2.1
  refine VH (hT _ s5 σ' H5 x u (λσ6 H6=>∃e6,H6=H5/\SR c J5 H5 σ6 e6/\KO env' σ' e6 σ6/\cJ (gts e6>>=λk=>if k=true then act e6>>=λr=>cH gt gts act (ds.drop (i+1)) r.2>>=λz=>.ok (r.1++z.1,z.2)else cH gt gts act (ds.drop (i+1)) e6)
   (λr=>Qf (zs++r.1,r.2)) c.T) I5' r5 ⟨J5,env',ds[i],sr'.ext e5,rx,aB (aH w') λe6 w6 σ6 sr6 ko=>⟨e6,rfl,sr6,ko,w6⟩⟩) (λ_ s6 ⟨σ6,H6,I6,e6,T3,sr6,ko,w6⟩=>?_) λ_ _ f=>f
  subst T3;have no6:xY e6 σ6 p:=λj xs q z=>by obtain⟨k1,k2⟩:=ko j xs q;exact no' j xs k1 (k2▸z)
  refine VH (hIf _ s6 σ6 H6 (λk H7=>∃J7,Ext J5 H6 J7 H7/\cJ (if k=true then act e6>>=λr=>cH gt gts act (ds.drop (i+1)) r.2>>=λz=>.ok (r.1++z.1,z.2)else cH gt gts act (ds.drop (i+1)) e6)
   (λr=>Qf (zs++r.1,r.2)) c.T) I6 ⟨J5,e6,sr6,aB (aH w6) λk wk J7 H7 e7=>⟨J7,e7,wk⟩⟩) (λk s7 ⟨H7,I7,J7,e7,w7⟩=>?_) λ_ _ f=>f
  have sr7:=sr6.ext e7;have ac7:=aR.ext (aR.ext ac' e5) e7;have x7:=(e'.trans e5).trans e7;have j7:=(sj.trans e5.j).trans e7.j;have hm:(i+1)*N=i*N+N:=by rw[Nat.add_mul,Nat.one_mul]
  cases k with
  |false=>
   rw[if_neg 120]at w7 ⊢;obtain⟨a1,a2,a3⟩:=again I7;exact⟨ds.length-(i+1),by omega,i+1,σ6,H7,J7,e6,zs,rfl,hlt,a1,a2,a3,x7,j7,sr7,no6,ac7,by omega,w7⟩
  |true=>
   rw[if_pos rfl]at w7 ⊢;have hN:(i+1)*N<=ds.length*N:=ZS N hlt;refine VH (hA _ s7 σ6 H7 J7 e6 (ys++zs) _ I7 x7 sr7 no6 ac7 (by rw[UQ];omega) (aH w7)) (λ_ s8 ⟨σ8,H8,J8,r,I8,x8,j8,sr8,no8,ac8,l8,w8⟩=>?_) λ_ _ f=>f;obtain⟨a1,a2,a3⟩:=again I8;refine⟨ds.length-(i+1),by omega,i+1,σ8,H8,J8,r.2,zs++r.1,rfl,hlt,a1,a2,a3,x8,j7.trans j8,sr8,no8,by rw[<-Zx];exact ac8,by rw[UQ];omega,?_⟩;refine aB (aH w8) λz q=>?_;rw[Zx];exact q
 ·have Ug:i=ds.length:=by omega
  subst Ug;rw[Yq (UW _)]at w';refine VH (T.done X rfl rfl rfl hc _ Ux s' σ' H' X.xe I' (stat fr') st' (wk1 (UW _))) (λr s4 ⟨hr,I9⟩=>?_) λ_ _ f=>f;subst hr;have w9:Qf (zs++[],env'):=w';rw[V7]at w9;exact⟨rfl,σ',H',J',(zs,env'),I9,e',sj,sr',no',ac',hz,w9⟩
end
section
variable{prog:U0}{w:Vj}{A:Vw}{R:aa6->UI->Prop}{s:UI}{it acc:UH}{env:Env}{scope:Yd}{pos:Pos}{g0:YG}{Uz UA:VC}{ifs:List VC}{rest:List YG}
theorem OC(h0:WC 139 A (.compLoop (.ListComp elt (g0::⟨Uz,UA,ifs,0⟩::rest) scope pos) 1 it acc env) R s)
 (h:UZ 139 A (aa5 it) (λit' s'=>WC 139 A (.compLoop (.ListComp elt (g0::⟨Uz,UA,ifs,0⟩::rest) scope pos) 1 it' acc env) R s') (λ_ _=>False) s):
  WC 139 A (.compStart (.ListComp elt (g0::⟨Uz,UA,ifs,0⟩::rest) scope pos) 1 it acc env) R s:=by
 refine Zf ?_;show UZ _ _ ((ad3 (.ListComp elt (g0::⟨Uz,UA,ifs,0⟩::rest) scope pos) 1 it acc env).onRaise (λx=>do Yl x env;Ye ad4)) _ _ s;refine aeP ?_;unfold ad3;show UZ _ _ (ask>>=_) _ _ s;refine UE (WZ (wpAny_ite ?_));split
 ·first
   |exact UE (UJ (UJ (abJ rfl h0)))
   |exact UJ (abJ rfl h0)
 ·refine UE (ZY ?_);show UZ _ _ (Ye UA.pos>>=_) _ _ s;exact UE (Xm (UE (VH h (λit' s' h'=>UJ (abJ rfl h')) λ_ _ x=>x.elim)))
end
noncomputable def jA(gi:244)(gt:GT)(gts:G Bool)(act:Ev->M (List D×Ev)):Ev->M (List D×Ev):=λenv=>gi env>>=λds=>if ds.length<=1000 then cH gt gts act ds env else .bad
abbrev Cy(e UA:VC)(acc:UH)(env:Env):Sem Unit:=do
 let x <-eval UA env
 Ye UA.pos
 let x <-W3 UA env x
 let _ <-runOwn (.compStart e 1 (<-holding [x] (aa5 x)) acc env) env
section
variable{X:Cx}{c:C}{p:UX}{Acc:Hp->Hp->List D->Prop}{J2 H2:Hp}{N:Nat}{m:Sem Unit}{act:Ev->M (List D×Ev)}{Uz UA:VC}{ifs:List VC}{gi:G (List D)}{gt:GT}{gts:G Bool}{e:VC}{acc:UH}
theorem Ka(aR:xN Acc)(hc:X.calm=true)(hx:∀v s,X.xe v s->False)(hs:∀x,W3 UA X.env x=pure x)
  (start:∀(it:UX)(R:aa6->UI->Prop)(s:UI),WC 126 X.A (.compLoop e 1 (.ref it) acc X.env) R s->UZ 126 X.A (aa5 (.ref it)) (λit' s'=>WC 126 X.A (.compLoop e 1 it' acc X.env) R s') (λ_ _=>False) s->WC 126 X.A (.compStart e 1 (.ref it) acc X.env) R s)
  (LP:∀it:UX,sF X.prog X.w X.A e 1 (.ref it) acc X.env Uz ifs m) (hi:Qc X c Uz UA gi) (hT:D4 X c Uz gt) (hIf:BY X c ifs gts) (hA:uO X c p Acc J2 H2 N m act):
  uO X c p Acc J2 H2 (1000*N) (Cy e UA acc X.env) (jA gi gt gts act):=by
 intro Ux s σ H J env ys Qf I x2 sr no ac hl w;refine UE (VH (hi Ux s σ H (λIt H1=>∃ds J1,Ext J H J1 H1/\Walk c It ds J1 (λJ' _=>aY J1 J')/\cJ (if ds.length<=1000 then cH gt gts act ds env else .bad) Qf c.T) I ⟨J,env,sr,aB (aH w) λds wd It J1 H1 e1 wk=>⟨ds,J1,e1,wk,wd⟩⟩) (λxv s1 h1=>?_) λv s f=>(hx v s f).elim);refine UE (Xm ?_);rw[hs xv];refine UE (UJ (UE (VG (VH h1 (λitv s2 h2=>?_) λv s f=>(hx v s f).elim))));obtain⟨it,fp,tn,It,H1,rfl,I1,T,st1,f1,ds,J1,e1,wk,w1⟩:=h2;have hsz:ds.length<=1000:=by
  by_cases z:ds.length<=1000
  ·exact z
  ·rw[if_neg z]at w1;exact w1.elim
 rw[if_pos hsz]at w1;have hm:ds.length*N<=1000*N:=ZS N hsz;have hb:ys.length+ds.length*N<=sizeLine:=Vr (Nat.add_le_add_left hm _) hl;have run:=zc (Rx:=λ_ _=>False) aR hc (λv s f=>(hx v s f).elim) (LP it) hT hIf hA T (λJ' _=>aY J1 J') wk (λ_ _ _ h=>h) I1 st1 f1 (x2.trans e1) (sr.ext e1) no (aR.ext ac e1) hb w1;have run':WC 126 X.A (.compLoop e 1 (.ref it) acc X.env) (λr s'=>match r with | .ok f=>UZ 126 X.A (pure ()) (λ_ s'=>∃σ' H' J' r,Inv X Ux σ' H' s'/\Ext J2 H2 J' H'/\aY J J'/\SR c J' H' σ' r.2/\xY r.2 σ' p/\Acc J' H' (ys++r.1)/\r.1.length<=1000*N/\Qf r) X.xe s' | .error e=>cameBackBy 126 X.A X.env X.xe e s') s2:=Xo run λr s' h=>by
  cases r with
  |error x=>exact h.elim
  |ok f=>
  obtain⟨_,σ',H',J',r',q1,q2,q3,q4,q5,q6,q7,q8⟩:=h;exact UJ ⟨σ',H',J',r',q1,q2,e1.j.trans q3,q4,q5,q6,Vr q7 hm,q8⟩
 exact UE (wpAny_runOwn (h:=none) (start it _ _ run' (T.self _ 0 _ _ _ st1 run')))
end
def gH(ge:G R):Ev->M (List D×Ev):=λe=>ge e>>=λr=>toD r>>=λy=>.ok ([y],e)
def B3(c:C)(p:UX):Hp->Hp->List D->Prop:=λJ H ys=>∃us,H p=some (.lst us)/\J p=none/\aW c.K J ys us
theorem rL:xN (B3 c p):=⟨fun {J H J' H' ys} ⟨us,h1,h2,h3⟩ e=>⟨us,e.h _ _ h1,e.frz _ (by rw[h1];intro z;cases z) h2,h3.mono e.j⟩⟩
section
variable{X:Cx}{c:C}{p:UX}{J2 H2:Hp}{elt:VC}{ge:G R}
theorem AG(hp2:H2 p=none)(hp0:c.H0 p=none)(hE:PD X c elt ge):uO X c p (B3 c p) J2 H2 1 (do let _ <-call (.builtin "list.append") [.ref p,<-eval elt X.env]) (gH ge):=by
 intro Ux s σ H J env ys Qf I x2 sr no ⟨us,h1,h2,h3⟩ hl w;have hlen:ys.length=us.length:=h3.length;refine UE (VH (hE _ s σ H (λv H8=>∃J8 y,Ext J H J8 H8/\Rep c.K J8 y v/\Qf ([y],env)) I ⟨J,env,sr,aB (aH w) λr wr v J8 H8 e8 r8=>?_⟩) (λu8 s8 ⟨v8,H8,I8,r8,J8,y,e8,ry,w8⟩=>?_) λv s f=>f)
 ·obtain⟨y,q,wr⟩:=kh wr;obtain⟨J9,e9,_,ry⟩:=freeze e8 r8 q;exact⟨J9,y,e9,ry,wr⟩
 have p8:H8 p=some (.lst us):=e8.h _ _ h1;have J8p:J8 p=none:=e8.frz _ (by rw[h1];intro z;cases z) h2;refine UE (VH (vX (X:=X) _ s8 σ H8 (.ref p) [v8] (.ref p) [u8] (λ_ H9=>H9=L2.upd H8 p (.lst (us++[v8]))) I8 rfl (.cons r8 .nil) ⟨_,us,v8,rfl,rfl,p8,by omega,rfl⟩) (λ_ s9 ⟨_,H9,I9,_,h9⟩=>?_) λv s f=>f);subst h9;exact UJ ⟨σ,_,J8,([y],env),I9,(x2.trans e8).other hp2 J8p,e8.j,(sr.ext e8).other J8p hp0 no,no,⟨us++[v8],bf,J8p,(h3.mono e8.j).append (.cons ry .nil)⟩,UW _,w8⟩
end
noncomputable def jC{ρ:Type}(lim n:Nat)(cap:249)(gi:244)(gt:GT)(gts:G Bool)(act:Ev->M (List D×Ev))(fin:List D->M ρ):G ρ:=λenv=>gi env>>=λds=>if ds.length<=lim then cH gt gts act ds (cE n cap env)>>=λr=>fin r.1 else .bad
section
variable{X:Cx}{c:C}
structure DN(X:Cx)(scope:Yd)(cap:249)(UA:VC):Prop where
 hk:scope.kind=.function
 hno:Ja X cap scope=true
 hnames:(scope.names.all λx=>!(x.2==.local)||(scope.names.lookup x.1==some .local))=true
 hcl:(fZ X.env.cells scope.names []).isSome=true
 hcap:pP X cap=true
 hloc:El X cap scope=true
 hnd:zg cap=true
 hcalm:X.calm=true
 hs:∀x,W3 UA X.env x=pure x
theorem MS{scope:Yd}(hcl:(fZ X.env.cells scope.names []).isSome=true)(hk:autoParam (scope.kind=.function) zzA._auto_1)(hno:autoParam (Ja X cap scope=true) zzA._auto_1)(hnames:autoParam ((scope.names.all λx=>!(x.2==.local)||(scope.names.lookup x.1==some .local))=true) zzA._auto_1)
 (hcap:autoParam (pP X cap=true) zzA._auto_1) (hloc:autoParam (El X cap scope=true) zzA._auto_1) (hnd:autoParam (zg cap=true) zzA._auto_1) (hcalm:autoParam (X.calm=true) zzA._auto_1) (hs:∀x,W3 UA X.env x=pure x:=by intro _;rfl):DN X scope cap UA:=⟨hk,hno,hnames,hcl,hcap,hloc,hnd,hcalm,hs⟩
noncomputable def Qn{ρ:Type}(c:C)(rr:Hp->Hp->Hp->ρ->V->Prop)(g:G ρ):TE:=λσ H Q=>∃J env,SR c J H σ env/\cJ (g env) (λr=>∀v J' H',Ext J H J' H'->rr H J' H' r v->Q v H') c.T
noncomputable def BL{ρ:Type}(X:Cx)(c:C)(rr:Hp->Hp->Hp->ρ->V->Prop)(cm:Option (UH->Sem Unit)->Sem UH)(g:G ρ):Prop:=
 ∀{Ux:143}{s:UI}{σ:L2.St}{H:Hp}{Q:VK}{use:Option (UH->Sem Unit)}{Q0:136},Inv X Ux σ H s->Qn c rr g σ H Q->
  (∀(acc C:UX)(m:145)(s':UI)(H':Hp)(fl:Flow),s'.heap.Ns C m->((C∈X.ex\/X.s₀.heap.objs.size<=C)/\C≠X.env.locals/\(∀x c,X.env.cells.lookup x=some c->c≠C)/\∀p∈X.pn++Ux,p.1≠C)->H' C=none->(∀h'',WN C s'.heap h''->Inv X Ux σ H' {s' with heap:=h''})->Q (.ref acc) H'->compPost 126 X.A X.xe use Q0 (.ref acc) C (.ok fl) s')->
  UZ 126 X.A (cm use) Q0 X.xe s
abbrev Mr(X:Cx)(c:C)(cm:Option (UH->Sem Unit)->Sem UH)(g:G R):Prop:=BL X c (RR c) cm g
abbrev AU(X:Cx)(own:131)(cap:249)(scope:Yd)(cl:294)(C:UX)(s:UI)(H:Hp)(fp:List UX)(xe:136):Cx:={eU X own cap scope cl C s H fp with xe:=xe}
noncomputable def MG(X:Cx)(own:131)(cap:249)(scope:Yd)(xc:List (Str×UX)->UX->UI->Hp->List UX->UH->UI->Prop):Prop:=
 ∀(cl:294)(C:UX)(s:UI)(H:Hp)(fp:List UX)(Ux:143)(σ:L2.St)(H2:Hp)(s2:UI),Inv X Ux σ H2 s2->s2.heap.objs.size<=s.heap.objs.size->(∀pi σ' H' s1 h'',Inv 177 pi σ' H' s1->WN C s1.heap h''->Inv X Ux σ H' {s1 with heap:=h''})->
  ∀v s',xc cl C s H fp v s'->aeO 126 X.A (eU X own cap scope cl C s H fp).env (λx s3=>∃m,s3.heap.Ns C m/\∀h',WN C s3.heap h'->∀cenv:Env,cenv.locals=C->UZ 126 X.A (passOn "comprehension.variables-let-go" x cenv:Sem UH) (λ_ _=>False) X.xe {s3 with heap:=h'}) v s'
abbrev BJ:List (Str×UX)->UX->UI->Hp->List UX->UH->UI->Prop:=λ_ _ _ _ _ _ _=>False
theorem Aa{own:131}{cap:249}{scope:Yd}:MG X own cap scope BJ:=λ_ _ _ _ _ _ _ _ _ _ _ _ _ _ f=>f.elim
theorem rP{ρ:Type}{rr:Hp->Hp->Hp->ρ->V->Prop}(own:131)(cap:249){xc:List (Str×UX)->UX->UI->Hp->List UX->UH->UI->Prop}{e Uz UA:VC}{ifs:List VC}{gs:List YG}{scope:Yd}{gi:244}{gt:GT}{gts:G Bool}{act:Ev->M (List D×Ev)}{fin:List D->M ρ}{newAcc:Sem UH}{ob:Obj}{o0:UX->HO}{Acc:UX->Hp->Hp->Hp->List D->Prop}{N lim:Nat}{m:UX->Env->Sem Unit}
  (hcls:clausesOf e=⟨Uz,UA,ifs,0⟩::gs) (hi:Qa X c Uz UA gi)
  (hnew:∀(s:UI)(Q:136)(E:136),Q 236 {s with heap:=s.heap.push ob}->UZ 126 X.A newAcc Q E s)
  (hob:∀(h:VU)(H:Hp),cB X.prog X.w H (h.push ob) h.objs.size (o0 h.objs.size))
  (aR:∀p H2,xN (Acc p H2)) (a0:∀(p:UX)(H2 J H:Hp),V5<p->H p=some (o0 p)->J p=none->Acc p H2 J H [])
  (hN:lim*N<=sizeLine) (LP:∀(it p:UX)(env:Env),sF X.prog X.w X.A e 0 (.ref it) (.ref p) env Uz ifs (m p env))
  (start:∀(it:UX)(acc:UH)(env:Env)(R:aa6->UI->Prop)(s:UI),WC 126 X.A (.compLoop e 0 (.ref it) acc env) R s->UZ 126 X.A (aa5 (.ref it)) (λit' s'=>WC 126 X.A (.compLoop e 0 it' acc env) R s') (aeO 126 X.A env λx s'=>R (.error x) s') s->WC 126 X.A (.compStart e 0 (.ref it) acc env) R s)
  (nofin:∀ys z,fin ys≠.exc z) (hend:∀{p:UX}{H2 J H J' H':Hp}{ys:List D}{r:ρ},H p=none->aY H H2->Ext J H J' H'->Acc p H2 J' H' ys->fin ys=.ok r->∃J'',Ext J H J'' H'/\rr H J'' H' r (.ref p))
  (hbody:∀(cl:294)(C:UX)(s:UI)(H:Hp)(fp:List UX),fZ X.env.cells scope.names []=some cl->D4 (AU X own cap scope cl C s H fp (xc cl C s H fp)) c Uz gt/\BY (AU X own cap scope cl C s H fp (xc cl C s H fp)) c ifs gts/\∀(p:UX)(J2 H2:Hp),H2 p=none->c.H0 p=none->uO (AU X own cap scope cl C s H fp (xc cl C s H fp)) c p (Acc p H2) J2 H2 N (m p (eU X own cap scope cl C s H fp).env) act)
  (hxc:MG X own cap scope xc) (a:DN X scope cap UA){pos':Pos}:BL X c rr (λuse=>comprehension e scope X.env pos' newAcc false (eval UA X.env) use) (jC lim own.length cap gi gt gts act fin):=by
 obtain⟨hk,hno,hnames,hcl,hcap,hloc,hnd,hcalm,hs⟩:=a;intro Ux s σ H Q use Q0 I h Tn;obtain⟨J,env,sr,w⟩:=h;obtain⟨cl,hcl⟩:=VQ.mp hcl;have Tv:∀j∈cap,∀x,X.N[j]?=some x->eu scope.names x=false:=λj hj x hx=>by have:=Xi.mp hno j hj;rw[hx]at this;simpa using this
 have SH:∀x∈scope.names,x.2=.local->scope.names.lookup x.1=some .local:=λy hy z=>by have:=Xi.mp hnames y hy;rw[z]at this;simpa using this
 have S4:∀j∈cap,∀x,X.N[j]?=some x->(relabel scope X.env).names.lookup x≠some .local:=λj hj x hx z=>by have:=Xi.mp hloc j hj;rw[hx]at this;simp only at this;rw[z]at this;cases this
 refine wpAny_comprehension_free (use:=use) hcls hs (wX hcl) hk SH ?_;refine bO (hi Ux s σ H (λIt H1=>∃ds J1,Ext J H J1 H1/\Walk c It ds J1 (λJ' H'=>aY J1 J'/\aY H1 H')/\
  cJ (if ds.length<=lim then cH gt gts act ds (cE own.length cap env)>>=λr=>fin r.1 else .bad) (λr=>∀v J' H',Ext J H J' H'->rr H J' H' r v->Q v H') c.T) I ⟨J,env,sr,aB (aH w) λds wd It J1 H1 e1 wk=>⟨ds,J1,e1,wk,wd⟩⟩) λxv s1 h1=>bO h1 λitv s2 h2=>?_
 obtain⟨it,fp,tn,It,H2,rfl,I2,T,st2,f2,ds,J2,e2,wk,w2⟩:=h2;have hsz:ds.length<=lim:=by
  by_cases z:ds.length<=lim
  ·exact z
  ·rw[if_neg z]at w2;exact w2.elim
 rw[if_pos hsz]at w2;have w3:=aH w2;refine hnew s2 _ _ (C_ ?_);dsimp only;generalize Tc:s2.heap.push ob=Hs;have hC:Hs.objs.size=s2.heap.objs.size+1:=by rw[<-Tc,Wi]
 have hp2:H2 s2.heap.objs.size=none:=I2.hok.fresh (UW _);have kHs:∀b o,s2.heap.get? b=some o->Hs.get? b=some o:=λb o e=>by rw[<-Tc];exact UK _ e
 have I3:Inv X Ux σ 142 {s2 with heap:=Hs,toks:=s2.toks}:=I2.laid (t':=s2.toks) kHs (UW _) (by rw[<-Tc];exact hob _ _);have f3:∀b∈fp,jG X Ux 142 b:=λb hb=>by obtain⟨o,ho,_⟩:=T.obj _ _ st2 b hb;exact⟨by rw[aU (U4 (UY ho))];exact(f2 b hb).1,(f2 b hb).2⟩
 have hin:∀b∈fp,b<Hs.objs.size:=λb hb=>by obtain⟨o,ho,_⟩:=T.obj _ _ st2 b hb;exact Wl (UY ho) (by rw[hC];exact VS _)
 obtain⟨h₁,eh₁⟩:∃h₁,h₁=adZ (Hs.push {cls:=.type "dict",data:=.dict #[]}) scope.names:=⟨_,rfl⟩;rw[<-eh₁];have hns₁:h₁.Ns Hs.objs.size (λ_=>none):=by rw[eh₁];exact NJ Hs scope.names
 have ck:afx h₁ (Hs.objs.size+1) (Wg (Hs.objs.size+1) scope.names []):=by rw[eh₁];exact Em Hs scope.names
 have okC:=Kq (own:=own) (cap:=cap) I3 hk hcl ck f3 hin;have old1:∀b o,Hs.get? b=some o->h₁.get? b=some o:=λb o e=>by rw[eh₁];exact ad1 _ _ _ _ (UK _ e)
 have I4:=GW (tk:=s2.toks) I3 okC hcl ck hcap S4 Tv hns₁ old1;have sr2:=sr.ext e2;have srA:SR c J2 142 σ env:=sr2.ext (Ext.new e2.sub hp2 _);have J2p:J2 s2.heap.objs.size=none:=e2.sub.free hp2;have H0p:c.H0 s2.heap.objs.size=none:=sr2.hp.ent.free hp2;have nown:∀(j:Nat)(xs:Mn),(cE own.length cap env)[j]?=some (some (mS xs))->(Vv own.length none++cap.map λ(j:Nat)=>(σ[j]?).getD none)[j]?≠some (some (.ref s2.heap.objs.size)):=λj xs q z=>by obtain⟨a,h1,h2,h3⟩:=jO q;obtain⟨a',h4,h5,h6⟩:=jO z;rw[h2]at h5;cases h5;obtain⟨p,k1,k2,_⟩:=sr2.mine h3;rw[h6]at k1;cases k1;exact k2 hp2
 obtain⟨hT,hIf,hE⟩:=hbody cl Hs.objs.size {s2 with heap:=Hs,toks:=s2.toks} 142 fp hcl;have fpC:∀{H':Hp},(∀b∈fp,H' b=none)->∀b∈fp,jG 331 [] H' b:=fun {H'} hn b hb=>by
  obtain⟨m1,_⟩:=iM scope.names [] cl hcl (λx c h=>by simp at h);refine⟨hn b hb,U4 (hin b hb),λz=>?_,.inl hb,λx d h=>(gf h).elim (λh=>WX (U6 (hin b hb) (X7 (ck.empty _ _ (Zm h)).2))) (λh=>(f2 b hb).2.2.2.2.1 x d (m1 x d h.2)),λp hp=>absurd (show p∈([]:List (UX×Obj))from hp) 229⟩;rcases UR.mp (I2.stkSub b z)with e|e
  ·exact(f2 b hb).2.1 e
  ·exact(f2 b hb).2.2.1 e
 have back:∀{pi:143}{σ':L2.St}{H':Hp}{s':UI}{h'':VU},Inv 331 pi σ' H' s'->WN Hs.objs.size s'.heap h''->Inv X Ux σ H' {s' with heap:=h''}:=fun {pi σ' H' s' h''} I' sb=>by
  have B:Un (frs X.stack) fp 142 H' Hs s'.heap:=I'.base;have ne2:∀{b:UX}{o:Obj},s2.heap.get? b=some o->b≠s2.heap.objs.size/\b≠Hs.objs.size:=fun {b o} e=>
   ⟨U4 (UY e),U4 (Wl (UY e) (by rw[hC];exact VS _))⟩
  have nH:∀{b:UX}{o:HO},H2 b=some o->L2.upd H2 s2.heap.objs.size (o0 s2.heap.objs.size) b=some o:=fun {b o} e=>by rw[aU (fO e hp2)];exact e
  refine Inv.call' (ch:=fp) (s':={s' with heap:=h''}) I2 I'.os ⟨λb o e n hf hx=>?_,λb o e n hf hx=>?_,λb o e n hx=>?_,λb o e hx=>?_,λb xs e=>B.tups b xs (nH e),λb o u e=>B.frzs b o u (nH e),λb ps e=>B.tbls b ps (nH e)⟩ (As I'.hok I'.free sb) I'.bare λb hb=>⟨(f2 b hb).2.2.2.1,(f2 b hb).2.1,(f2 b hb).2.2.2.2.1,(f2 b hb).2.2.2.2.2⟩
  ·exact(sb.2 b (ne2 e).2).trans (B.keep b o (kHs b o e) (by rw[aU (ne2 e).1];exact n) hf hx)
  ·obtain⟨sl,z⟩:=B.slot b o (kHs b o e) (by rw[aU (ne2 e).1];exact n) hf hx;exact⟨sl,(sb.2 b (ne2 e).2).trans z⟩
  ·exact B.free b o (kHs b o e) (by rw[aU (ne2 e).1];exact n) hx
  ·obtain⟨o',z⟩:=B.there b o (kHs b o e) hx;exact⟨o',(sb.2 b (ne2 e).2).trans z⟩
 have out:∀{pi:143}{σ':L2.St}{H':Hp}{s':UI}{xe:136},Inv (AU X own cap scope cl Hs.objs.size {s2 with heap:=Hs,toks:=s2.toks} 142 fp xe) pi σ' H' s'->Inv 331 pi σ' H' s':=λI=>⟨okC,I.os,I.bare,I.base,I.loc,I.cell,I.free,I.freeC,I.pin,I.hok,I.len⟩;have o:=okC;have okE:∀xe,(AU X own cap scope cl Hs.objs.size {s2 with heap:=Hs,toks:=s2.toks} 142 fp xe).Ok:=λxe=>⟨o.mod,o.kind,o.glob,o.blt,o.above,o.inj,o.has,o.cab,o.hd,o.frames,o.stk,o.exf,o.bs,o.bsz,o.noex,o.exfs,o.funs,o.frf⟩;have run:=λ(s4:UI)(I4:Inv 331 [] _ _ s4)(st4:tn 0 s4.heap)=>zc (X:=AU X own cap scope cl Hs.objs.size {s2 with heap:=Hs,toks:=s2.toks} 142 fp (xc cl Hs.objs.size {s2 with heap:=Hs,toks:=s2.toks} 142 fp)) (e:=e) (depth:=0) (acc:=.ref s2.heap.objs.size) (aR _ _) hcalm (hxc cl Hs.objs.size {s2 with heap:=Hs,toks:=s2.toks} 142 fp Ux σ H2 s2 I2 (Vr (Xh _) (aby hC.symm)) λ_ _ _ _ _ I' sb=>back I' sb) (LP it _ _) hT hIf (hE s2.heap.objs.size J2 H2 hp2 H0p) T (λJ' H'=>aY J2 J'/\aY H2 H') wk (λJ' H' x _=>⟨x.j,x.h⟩) ⟨okE _,I4.os,I4.bare,I4.base,I4.loc,I4.cell,I4.free,I4.freeC,I4.pin,I4.hok,I4.len⟩ st4 (fpC λb hb=>(f3 b hb).1) (Ext.new e2.sub hp2 _) (srA.cap own.length cap (Bl hnd)) nown (a0 _ _ _ _ (MM I2) bf J2p) (Vr (by rw[abG,abK];exact ZS N hsz) hN) w3;have st4:=T.keep _ _ _ st2 (λb hb o e=>old1 b o (kHs b o e));have go:=Xo (run _ I4 st4) (R':=compPost 126 X.A X.xe use Q0 (.ref s2.heap.objs.size) Hs.objs.size) λr s' h=>by
  cases r with
  |error x=>cases use<;>exact h
  |ok f=>
  obtain⟨_,σ',H',J',r',I9,x9,j9,sr9,no9,ac9,l9,w9⟩:=h;obtain⟨mm,hm,_⟩:=I9.loc;refine Tn s2.heap.objs.size Hs.objs.size mm _ H' _ hm (MJ I2 (by rw[hC];exact Xh _)) I9.free (λh'' sb=>back (out I9) sb) ?_;cases q:fin r'.1 with
  |bad=>rw[q]at w9;exact w9.elim
  |exc z=>rw[q]at w9;exact(nofin _ z q).elim
  |ok z=>
   rw[q]at w9;obtain⟨J9,x10,rr⟩:=hend (e2.h.free hp2) e2.h (e2.trans x9) ac9 q;exact w9 _ J9 H' x10 rr
 exact start it _ _ _ _ go (T.self _ 0 _ _ _ st4 go)
def xj(X:Cx)(c:C)(e:VC)(g:G R):Prop:=∃cm,Mr X c cm g/\eval e X.env=cm none/\∀use,evalThenUse e X.env use=(do let _ <-cm (some use))
theorem fP{g:G R}(h:xj X c e g):QD X c e g:=by obtain⟨cm,core,hev,_⟩:=h;refine⟨λUx s σ H Q I h=>?_⟩;rw[hev];exact core I h λacc C m s' H' fl hm hz hf hb q=>⟨m,hm,λh'' sb=>⟨.ref acc,H',hb h'' sb,rfl,q⟩⟩
theorem Bu(i:Nat){g:G R}{pos' pos2:Pos}(hN:X.N.Nodup)(h:xj X c e g)(hx:autoParam (X.N[i]?=some x) zzA._auto_1)(TX:autoParam (X.env.scope.names.lookup x=some .local) zzA._auto_1)
 (hsw:autoParam (Xj e (some (.Name x pos')) pos2.line X.env=pure true) zzA._auto_1):ig X c (.Assign [.Name x pos'] e pos2) (aN i g):=by
 obtain⟨cm,core,_,Tj⟩:=h;refine⟨λUx s σ H D I ⟨J,env,sr,w⟩=>?_⟩;rw[arm_exec_Assign];refine UE (Xm ?_);rw[show ZU [.Name x pos'] e pos2.line X.env=pure true from hsw];refine UE (UJ ?_);rw[if_pos rfl,Tj];refine UE (UE (core (Q:=λv H1=>∃J1 r xx,Ext J H J1 H1/\RR c H J1 H1 r v/\toS r=.ok xx/\oP c J D (.nx (env.set i (some xx)))) I ⟨J,env,sr,aB (aH w) λr wr v J1 H1 e1 r1=>?_⟩ λacc C m s' H' fl hm ap hf hb ⟨J1,r,xx,e1,r1,q1,w1⟩=>?_))
 ·obtain⟨xx,q,wr⟩:=qk wr;exact⟨J1,r,xx,e1,r1,q,wr⟩
 ·have I1:L2.Inv X Ux σ H' s':=hb s'.heap (ac_ ..);show UZ _ _ (do Ye pos';bindName X.env x (.ref acc)) _ _ _;refine UE (Xm (wpAny_bindName ?_));refine wA I1 hN hx (.inl TX) (v:=.ref acc) (u:=.ref acc) rfl (λs2 I2 ⟨a,sb,ha⟩=>?_) (.inr TX);have hac:C≠a:=λz=>by
   rcases ha with e|e
   ·exact ap.2.1 (z.trans e)
   ·exact ap.2.2.1 _ _ e z.symm
  refine⟨m,hm.sameBut sb hac,λh2 sb2=>?_⟩;refine UJ (UJ ⟨σ.set i (some (.ref acc)),H',Fv I2 ap hf sb2 (o0:=default),?_⟩);exact w1 _ J1 H' e1.j (sr.set e1 r1 q1)
end
noncomputable def yK(n:Nat)(cap:249)(gi0:244)(gt0:GT)(gts0:G Bool)(gi1:244)(gt1:GT)(gts1:G Bool)(ge:G R):G R:=jC 10000 n cap gi0 gt0 gts0 (jA gi1 gt1 gts1 (gH ge)) (λys=>.ok (.l .fresh ys))
theorem Mc(elt t0 i0 t1 i1:VC)(f0 f1:List VC)(scope:Yd)(pos:Pos)(it acc:UH)(env:Env):
  aaX 154 0 it acc env=(do
   Ye i0.pos
   match <-YM it with
   |none=>pure (.done .next)
   |some v=>
    X3 t0 it v
    assign t0 env v
    let mut ok:=true
    for c in f0 do
     if ok then ok <-acn c env (eval c env)
    if ok then
     let x <-eval i1 env
     Ye i1.pos
     let x <-W3 i1 env x
     let _ <-runOwn (.compStart 154 1 (<-holding [x] (aa5 x)) acc env) env
    again (.compLoop 154 0 it acc env)):=by rfl
theorem OM(elt t0 i0 t1 i1:VC)(f0 f1:List VC)(scope:Yd)(pos:Pos)(it acc:UH)(env:Env):
  aaX 154 0 it acc env=qi t0 i0 f0 it env (Cy 154 i1 acc env) (again (.compLoop 154 0 it acc env)):=by
 rw[Mc];refine bind_congr λ_=>bind_congr λr=>?_;cases r with
 |none=>rfl
 |some v=>
  refine bind_congr λ_=>bind_congr λ_=>bind_congr λok=>?_;cases ok with
  |false=>rfl
  |true=>simp only[Cy,bind_assoc,pure_bind,if_true]
theorem ON(elt t0 i0 t1 i1:VC)(f0 f1:List VC)(scope:Yd)(pos:Pos)(it acc:UH)(env:Env):
  aaX 154 1 it acc env=qi t1 i1 f1 it env (do let _ <-call (.builtin "list.append") [acc,<-eval elt env]) (again (.compLoop 154 1 it acc env)):=by rfl
section
variable{X:Cx}{c:C}
theorem Qz(own:131)(cap:249){scope:Yd}{pos:Pos}{gi0 gi1:244}{gts0 gts1:G Bool}{ge:G R}(hi:D5 X c t0 i0 gi0)
 (hbody:∀(cl:294)(C:UX)(s:UI)(H:Hp)(fp:List UX),fZ X.env.cells scope.names []=some cl->sL 177 c t0 gt0/\uP 177 c f0 gts0/\D6 177 c t1 i1 gi1/\sL 177 c t1 gt1/\uP 177 c f1 gts1/\QD 177 c elt ge)
 (a:DN X scope cap i0:=by exact MS rfl) (hs1:∀(en:Env) x,W3 i1 en x=pure x:=by intro _ _;rfl):xj X c 154 (yK own.length cap gi0 gt0 gts0 gi1 gt1 gts1 ge):=by
 refine⟨_,?_,rfl,λ_=>rfl⟩;refine rP (e:=.ListComp elt [⟨t0,i0,f0,0⟩,⟨t1,i1,f1,0⟩] scope pos) (ob:={cls:=.type "list",dict:=none,data:=.seq ([]:List UH).toArray}) (o0:=λ_=>.lst []) (Acc:=λp _=>B3 c p) (N:=1000*1) (lim:=10000) (m:=λp env=>Cy 154 i1 (.ref p) env) own cap rfl hi.h
  (λs Q E q=>Vn q) (λh H=>⟨Vb _,[],0,.nil,US _ rfl⟩) (λp _=>rL) (λp _ J H _ h1 h2=>⟨[],h1,h2,.nil⟩) 120 (λit p env=>CS (OM ..)) (λit acc env R s h0 h=>abj h0 h) (λys z q=>by cases q)
  (fun {p H2 J H J' H' ys r} hp _ e ⟨us,h1,h2,h3⟩ q=>by cases q;exact⟨J',e,⟨p,us,rfl,h1,h2,hp,h3⟩⟩) (λcl C s H fp hcc=>?_) Aa a
 obtain⟨b1,b2,b3,b4,b5,b6⟩:=hbody cl C s H fp hcc;exact⟨b1.h,b2.h,λp J2 H2 hp2 hp0=>Ka rL a.hcalm (λ_ _ f=>f) (λx=>hs1 _ x) (λit R s h0 h=>OC h0 h) (λit=>CS (ON ..)) b3.h b4.h b5.h (AG hp2 hp0 b6.h)⟩
end
end DL
namespace DL
open PySem PySem.Spec PyProof.Rows L2
section
variable{q:Nat->Nat->Bool}{n:Nat}
abbrev MK(p:Array Nat)(k:Nat):Nat:=p.getD k 0
end
end DL
namespace DL
open PySem PySem.Spec PyProof.Rows L2
variable{P R:D->Prop}
theorem Ku(xs ys:List D):cV 333 (.tup ys)=gg xs ys:=by rw[cV]
theorem A0(x y:D)(xs ys:List D):gg (x::xs) (y::ys)=(cV x y&&gg xs ys):=by rw[gg]
inductive Fm where
 |b|i|s|Uw (t:Fm)|tn|tc (x r:Fm)
end DL
namespace ST
open PySem PySem.SetTable
theorem u7(xs:Array Nat)(j:Nat)(hs:xs.toList.Pairwise (· < ·)):∀(f lo hi:Nat),hi<=xs.size->lo<=hi->hi-lo<=f->(∀i,i<lo->xs.getD i 0<j)->(∀i,hi<=i->i<xs.size->j<=xs.getD i 0)->
  below.go xs j f lo hi<=xs.size/\(∀i,i<below.go xs j f lo hi->xs.getD i 0<j)/\∀i,below.go xs j f lo hi<=i->i<xs.size->j<=xs.getD i 0
 |0,lo,hi,h1,h2,h3,h4,h5=>by
  have:lo=hi:=by omega
  subst this;exact⟨h1,h4,h5⟩
 |f+1,lo,hi,h1,h2,h3,h4,h5=>by
  have mono:∀a b,a<=b->b<xs.size->xs.getD a 0<=xs.getD b 0:=λa b hab hb=>by
   rcases acI hab with h|h
   ·have:=YT.mp hs a b (by simpa using Wl h hb) (by simpa using hb) h;simp[Xf,Wl h hb,hb]at this ⊢;omega
   ·rw[h];exact UW _
  unfold below.go;by_cases c:lo<hi
  ·rw[if_pos c];have hm:(lo+hi)/2<xs.size:=by omega
   have e:xs.getD ((lo+hi)/2) j=xs.getD ((lo+hi)/2) 0:=by simp[Xf,hm]
   by_cases d:xs.getD ((lo+hi)/2) j<j
   ·simp only[d,if_true];rw[e]at d;exact u7 xs j hs f _ hi h1 112 112 (λi hi'=>Xg (mono i ((lo+hi)/2) 112 hm) d) h5
   ·simp only[d,if_false];rw[e]at d;exact u7 xs j hs f lo _ 112 112 112 h4 (λi hi' hs'=>Vr 112 (mono ((lo+hi)/2) i hi' hs'))
  ·rw[if_neg c];have:lo=hi:=by omega
   subst this;exact⟨h1,h4,h5⟩
theorem m9(xs:Array Nat)(j:Nat)(hs:xs.toList.Pairwise (· < ·)):below xs j<=xs.size/\(∀i,i<below xs j->xs.getD i 0<j)/\∀i,below xs j<=i->i<xs.size->j<=xs.getD i 0:=
 u7 xs j hs xs.size 0 xs.size (UW _) (Vb _) 112 (λi h=>absurd h (Xb _)) (λi h1 h2=>by omega)
theorem below_at{xs:Array Nat}(hs:xs.toList.Pairwise (· < ·))(h:xs[i]?=some j):below xs j=i:=by
 obtain⟨hi,e⟩:=VD.mp h;obtain⟨b1,b2,b3⟩:=m9 xs j hs;have g:xs.getD i 0=j:=by simp[Xf,hi,e]
 rcases ada (below xs j) i with c|c|c
 ·have h1:=b3 (below xs j) (UW _) 112;have:=YT.mp hs (below xs j) i (by simpa using Wl c hi) (by simpa using hi) c;simp[Xf,Wl c hi]at h1;simp at this;omega
 ·exact c
 ·have:=b2 i c;omega
theorem F_{t:VX}(hs:t.place.toList.Pairwise (· < ·))(h:t.place[i]?=some j):t.slot j=.live i:=by unfold slot;rw[below_at hs h];show(if(t.place[i]?==some j)=true then Slot.live i else _)=_;rw[h];simp
theorem Du{t:VX}(hd:t.dummies=#[])(h:j∉t.place.toList):t.slot j=.empty:=by
 unfold slot;have h1:(t.place[below t.place j]?==some j)=false:=by
  rw[beq_eq_false_iff_ne];intro z;exact h (by
   obtain⟨hi,e⟩:=VD.mp z;rw[<-e];simp)
 have h2:has t.dummies j=false:=by rw[hd];rfl
 simp only[h1,h2,VM,if_false]
noncomputable def st(mask:Nat)(h:Int):Nat->Probe
 |0=>({mask:=mask,place:=#[],dummies:=#[],finger:=0,led:=true,moves:=0,plain:=true}:VX).probeStart h
 |n+1=>({mask:=mask,place:=#[],dummies:=#[],finger:=0,led:=true,moves:=0,plain:=true}:VX).advance (st mask h n)
abbrev pos(mask:Nat)(h:Int)(n:Nat):Nat:=(st mask h n).j
theorem se(mask:Nat)(h:Int):∀n,(st mask h n).dummy=none
 |0=>rfl
 |n+1=>by
  unfold st advance;split
  ·exact se mask h n
  ·exact se mask h n
noncomputable def tn(mask:Nat)(h:Int):Nat->Nat×Nat
 |0=>(bits h%(mask+1),bits h)
 |k+1=>leap mask (tn mask h k).1 (tn mask h k).2
theorem we(mask:Nat)(h:Int):∀(m n:Nat)(i p j:Nat),st mask h n={j:=j,more:=m,i:=i,perturb:=p,dummy:=none}->st mask h (n+m)={j:=j+m,more:=0,i:=i,perturb:=p,dummy:=none}
 |0,n,i,p,j,e=>e
 |m+1,n,i,p,j,e=>by
  have e1:st mask h (n+1)={j:=j+1,more:=m,i:=i,perturb:=p,dummy:=none}:=by show advance _ (st mask h n)=_;rw[e];unfold advance;simp
  have:=we mask h m (n+1) i p (j+1) e1;rw[show n+(m+1)=n+1+m by omega,this];congr 1;omega
theorem BH(mask:Nat)(h:Int):∀k,∃n,n<=10*k/\st mask h n={j:=(tn mask h k).1,more:=runEnd mask (tn mask h k).1-(tn mask h k).1,i:=(tn mask h k).1,perturb:=(tn mask h k).2,dummy:=none}
 |0=>⟨0,UW _,rfl⟩
 |k+1=>by
  obtain⟨n,hn,e⟩:=BH mask h k;have hm:runEnd mask (tn mask h k).1-(tn mask h k).1<=9:=by unfold runEnd;split<;>omega
  have:=we mask h _ n _ _ _ e;refine⟨n+(runEnd mask (tn mask h k).1-(tn mask h k).1)+1,by omega,?_⟩;show advance _ (st mask h (n+(runEnd mask (tn mask h k).1-(tn mask h k).1)))=_;rw[this];unfold advance;simp;exact⟨rfl,rfl,rfl,rfl⟩
theorem uF(mask:Nat)(h:Int):∀k,(tn mask h k).2=bits h/32^k
 |0=>by simp[tn]
 |k+1=>by show(tn mask h k).2/32=_;rw[uF mask h k,abk,adq]
theorem Kg(h:Int):bits h<2^64:=by unfold bits;have:=Xe h (b:=2^64) 120;omega
def EZ(mask i:Nat):Nat:=(i*5+1)%(mask+1)
noncomputable def g_(mask:Nat):Nat->Nat->Nat
 |0,i=>i
 |r+1,i=>EZ mask (g_ mask r i)
theorem zT(mask:Nat)(h:Int):∀r,(tn mask h (12+r)).1=g_ mask r (tn mask h 12).1
 |0=>rfl
 |r+1=>by
  show(leap mask (tn mask h (12+r)).1 (tn mask h (12+r)).2).1=EZ mask (g_ mask r (tn mask h 12).1);rw[<-zT mask h r,uF];unfold leap EZ;have:bits h/32^(12+r)/32=0:=by rw[abk,<-adq];refine Nat.div_eq_of_lt (U6 (Kg h) ?_);refine Vr (show 2^64<=32^13 by decide) (abZ 120 112)
  rw[this]
theorem Qy:∀i:Fin 8,∀j:Fin 8,(U8 8).any (λr=>g_ 7 r i.val==j.val)=true:=by decide +kernel
theorem OW:∀i:Fin 32,∀j:Fin 32,(U8 32).any (λr=>g_ 31 r i.val==j.val)=true:=by decide +kernel
def MW:List Nat:=(U8 128).map λr=>g_ 127 r 0
theorem AR:∀j:Fin 128,MW.contains j.val=true:=by decide +kernel
theorem Kn:g_ 127 128 0=0:=by decide +kernel
theorem nv(mask:Nat):∀a b i,g_ mask (a+b) i=g_ mask a (g_ mask b i)
 |0,b,i=>by rw[abK];rfl
 |a+1,b,i=>by rw[show a+1+b=(a+b)+1 by omega];show EZ mask (g_ mask (a+b) i)=EZ mask (g_ mask a (g_ mask b i));rw[nv mask a b i]
def mq(mask:Nat):Prop:=mask=7\/mask=31\/mask=127
theorem Ep{mask:Nat}(hm:mq mask)(i j:Nat)(hi:i<=mask)(hj:j<=mask):∃r,r<=mask/\g_ mask r i=j:=by
 rcases hm with rfl|rfl|rfl
 ·have:=Qy ⟨i,by omega⟩ ⟨j,by omega⟩;rw[Yn]at this;obtain⟨r,h1,h2⟩:=this;exact⟨r,by have:=Vf.mp h1;omega,by simpa using h2⟩
 ·have:=OW ⟨i,by omega⟩ ⟨j,by omega⟩;rw[Yn]at this;obtain⟨r,h1,h2⟩:=this;exact⟨r,by have:=Vf.mp h1;omega,by simpa using h2⟩
 ·have hi':=AR ⟨i,by omega⟩;have hj':=AR ⟨j,by omega⟩;rw[Wo]at hi' hj';obtain⟨a,ha,ea⟩:=Vc.mp hi';obtain⟨b,hb,eb⟩:=Vc.mp hj';have ha:=Vf.mp ha;have hb:=Vf.mp hb;have ea:g_ 127 a 0=i:=ea;have eb:g_ 127 b 0=j:=eb;by_cases c:a<=b
  ·refine⟨b-a,by omega,?_⟩;rw[<-ea,<-nv,show b-a+a=b by omega];exact eb
  ·refine⟨128+b-a,by omega,?_⟩;rw[<-ea,<-nv,show 128+b-a+a=b+128 by omega,nv,Kn];exact eb
theorem DH(mask:Nat)(h:Int)(k:Nat):(tn mask h k).1<=mask:=by
 cases k with
 |zero=>exact Zy (aaK _ 112)
 |succ k=>exact Zy (aaK _ 112)
theorem visits{mask:Nat}(hm:mq mask)(h:Int)(j:Nat)(hj:j<=mask):∃n,n<=10*(mask+12)/\pos mask h n=j:=by obtain⟨r,hr,e⟩:=Ep hm (tn mask h 12).1 j (DH mask h 12) hj;obtain⟨n,hn,q⟩:=BH mask h (12+r);refine⟨n,by omega,?_⟩;show(st mask h n).j=j;rw[q];show(tn mask h (12+r)).1=j;rw[zT,e]
theorem Cv{mask:Nat}(hm:mq mask)(h:Int)(P:249)(hP:P.length<=mask):∃n,n<=10*(mask+12)/\pos mask h n∉P/\∀m,m<n->pos mask h m∈P:=by
 have ex:∃j,j<=mask/\j∉P:=by
  by_cases c:∀j,j<=mask->j∈P
  ·exfalso;have:(U8 (mask+1)).length<=P.length:=WA ZN λj hj=>c j (by have:=Vf.mp hj;omega);rw[V_]at this;omega
  ·exact W8 λz=>c λj hj=>W8 λy=>z ⟨j,hj,y⟩
 obtain⟨j,hj,hn⟩:=ex;obtain⟨n,hn1,hn2⟩:=visits hm h j hj;have key:∀k,k<=n->(∃m,m<=k/\pos mask h m∉P/\∀m',m'<m->pos mask h m'∈P)\/∀m,m<=k->pos mask h m∈P:=by
  intro k
  induction k with
  |zero=>
   intro _;by_cases c:pos mask h 0∈P
   ·exact .inr λm hm=>by rw[show m=0 by omega];exact c
   ·exact .inl ⟨0,UW _,c,λm' h'=>absurd h' (Xb _)⟩
  |succ k ih=>
   intro hk;rcases ih 112 with⟨m,h1,h2⟩|h1
   ·exact .inl ⟨m,by omega,h2⟩
   ·by_cases c:pos mask h (k+1)∈P
    ·exact .inr λm hm=>by
      by_cases d:m<=k
      ·exact h1 m d
      ·rw[show m=k+1 by omega];exact c
    ·exact .inl ⟨k+1,UW _,c,λm' h'=>h1 m' 112⟩
 rcases key n (UW _)with⟨m,h1,h2,h3⟩|h1
 ·exact⟨m,by omega,h2,h3⟩
 ·exact absurd (h1 n (UW _)) (by rw[hn2];exact hn)
def Reach(mask:Nat)(P:249)(h:Int)(j:Nat):Prop:=∃n,pos mask h n=j/\∀m,m<n->pos mask h m∈P
theorem Reach.mono{mask:Nat}{P P':249}{h:Int}{j:Nat}(r:Reach mask P h j)(s:∀x∈P,x∈P'):Reach mask P' h j:=
 let ⟨n,h1,h2⟩:=r;⟨n,h1,λm hm=>s _ (h2 m hm)⟩
structure Tab(t:VX)(es:178)(L:List (Nat×Int×UH)):Prop where
 dm:t.dummies=#[]
 pl:t.place.toList=L.map (·.1)
 en:es.toList=L.map (·.2)
 so:(L.map (·.1)).Pairwise (· < ·)
 bd:∀e∈L,e.1<=t.mask
 mo:mq t.mask
 fl:L.length<=t.mask
 pr:∀e∈L,Reach t.mask (L.map (·.1)) e.2.1 e.1
section
variable{t:VX}{es:Array (Int×UH)}{L:List (Nat×Int×UH)}
theorem Tab.at_(T:Tab t es L){i:Nat}{e:Nat×Int×UH}(h:L[i]?=some e):t.place[i]?=some e.1/\es[i]?=some e.2:=by
 constructor
 ·rw[<-Yx,T.pl,Vi,h];rfl
 ·rw[<-Yx,T.en,Vi,h];rfl
theorem Tab.sop(T:Tab t es L):t.place.toList.Pairwise (· < ·):=by rw[T.pl];exact T.so
theorem nY{α:Type}(xs:Array α)(p:Nat)(x:α)(hp:p<=xs.size):(insertAt xs p x).toList=xs.toList.take p++x::xs.toList.drop p:=by
 unfold insertAt;simp
 (exact abl 229)
theorem Tab.put(T:Tab t es L)(h:Int)(x:UH)(n0:Nat)(hf:pos t.mask h n0∉L.map (·.1))(hb:∀m,m<n0->pos t.mask h m∈L.map (·.1))(hj:pos t.mask h n0<=t.mask)(hl:L.length+1<=t.mask):
  ∃L',Tab (t.put (pos t.mask h n0)).1 (insertAt es (t.put (pos t.mask h n0)).2 (h,x)) L'/\L'.Perm ((pos t.mask h n0,h,x)::L):=by
 obtain⟨b1,b2,b3⟩:=m9 t.place (pos t.mask h n0) T.sop;generalize hp:below t.place (pos t.mask h n0)=p at b1 b2 b3;have hsz:t.place.size=L.length:=by rw[<-Vh,T.pl,UL]
 have hes:es.size=L.length:=by rw[<-Vh,T.en,UL]
 have perm:(L.take p++(pos t.mask h n0,h,x)::L.drop p).Perm ((pos t.mask h n0,h,x)::L):=by
  have:=aa9 (a:=(pos t.mask h n0,h,x)) (l₁:=L.take p) (l₂:=L.drop p)
  rwa [WM]at this
 have e1:(t.put (pos t.mask h n0))=({t with place:=insertAt t.place p (pos t.mask h n0),dummies:=#[]},p):=by unfold SetTable.put;rw[hp,T.dm];rfl
 rw[e1];have getP:∀i (hi:i<L.length),t.place.getD i 0=L[i].1:=λi hi=>by
  have:=(T.at_ (U3 hi)).1;have hi':i<t.place.size:=by omega
  simp[Xf,hi'];rw[WE hi']at this;exact Ve this
 refine⟨L.take p++(pos t.mask h n0,h,x)::L.drop p,⟨rfl,?_,?_,?_,λe he=>?_,T.mo,?_,λe he=>?_⟩,perm⟩
 ·show(insertAt t.place p (pos t.mask h n0)).toList=_;rw[nY _ _ _ b1,T.pl];simp[ZV,ZW]
 ·show(insertAt es p (h,x)).toList=_;rw[nY _ _ _ 112,T.en];simp[ZV,ZW]
 ·rw[VB,Vl,ZR];refine⟨?_,?_,?_⟩
  ·rw[ZV];exact T.so.sublist (aaF _ _)
  ·rw[Zj];refine⟨λa ha=>?_,?_⟩
   ·obtain⟨e,he,rfl⟩:=Vc.mp ha;obtain⟨i,hi,rfl⟩:=XX.mp he;rw[adb];rw[WY]at hi;have:=b3 (p+i) 112 112;rw[getP _ 112]at this;rcases acI this with c|c
    ·exact c
    ·exact absurd (Vc.mpr ⟨L[p+i],VT _,c.symm⟩) hf
   ·rw[ZW];exact T.so.sublist (ac6 _ _)
  ·intro a ha b hb;obtain⟨e,he,rfl⟩:=Vc.mp ha;obtain⟨i,hi,rfl⟩:=XX.mp he;rw[List.getElem_take];rw[WI]at hi;have h1:=b2 i 112;rw[getP _ 112]at h1
   (rcases UR.mp hb with rfl|hb)
   ·exact h1
   ·obtain⟨e,he,rfl⟩:=Vc.mp hb;obtain⟨k,hk,rfl⟩:=XX.mp he;rw[adb];rw[WY]at hk;have:=b3 (p+k) 112 112;rw[getP _ 112]at this;omega
 ·rcases UR.mp (perm.mem_iff.mp he)with rfl|he
  ·exact hj
  ·exact T.bd e he
 ·rw[perm.length_eq];exact hl
 ·have sub:∀y∈L.map (·.1),y∈(L.take p++(pos t.mask h n0,h,x)::L.drop p).map (·.1):=λy hy=>by obtain⟨e,he,rfl⟩:=Vc.mp hy;exact Vc.mpr ⟨e,perm.mem_iff.mpr (UN _ he),rfl⟩
  rcases UR.mp (perm.mem_iff.mp he)with rfl|he
  ·exact⟨n0,rfl,λm hm=>sub _ (hb m hm)⟩
  ·exact(T.pr e he).mono sub
end
theorem mY(mask:Nat)(h:Int)(n i p m:Nat)(e:st mask h n={j:=i,more:=m,i:=i,perturb:=p,dummy:=none}):∀r,r<=m->st mask h (n+r)={j:=i+r,more:=m-r,i:=i,perturb:=p,dummy:=none}
 |0,_=>e
 |r+1,hr=>by show advance _ (st mask h (n+r))=_;rw[mY mask h n i p m e r 112];unfold advance;rw[if_pos (by show m-r>0;omega)];show Probe.mk _ _ _ _ _=_;congr 1
theorem Gm(mask:Nat)(h:Int)(k n:Nat)(e:st mask h n={j:=(tn mask h k).1,more:=runEnd mask (tn mask h k).1-(tn mask h k).1,i:=(tn mask h k).1,perturb:=(tn mask h k).2,dummy:=none}):
  st mask h (n+(runEnd mask (tn mask h k).1-(tn mask h k).1)+1)={j:=(tn mask h (k+1)).1,more:=runEnd mask (tn mask h (k+1)).1-(tn mask h (k+1)).1,i:=(tn mask h (k+1)).1,perturb:=(tn mask h (k+1)).2,dummy:=none}:=by show advance _ (st mask h (n+(runEnd mask (tn mask h k).1-(tn mask h k).1)))=_;rw[mY mask h n _ _ _ e _ (UW _)];unfold advance;simp;exact⟨rfl,rfl,rfl,rfl⟩
theorem vO(mask:Nat)(h:Int)(owner:Array (Option Nat))(G:249)(ho:∀j,j<=mask->((owner.getD j (some 0)).isNone=true↔j∉G)):
  ∀(f k n:Nat),st mask h n={j:=(tn mask h k).1,more:=runEnd mask (tn mask h k).1-(tn mask h k).1,i:=(tn mask h k).1,perturb:=(tn mask h k).2,dummy:=none}->(∀m,m<n->pos mask h m∈G)->
   (∃n',layClean.free mask owner f (tn mask h k).1 (tn mask h k).2=some (pos mask h n')/\pos mask h n'<=mask/\pos mask h n'∉G/\∀m,m<n'->pos mask h m∈G)\/(layClean.free mask owner f (tn mask h k).1 (tn mask h k).2=none/\∀r,r<f->(tn mask h (k+r)).1∈G)
 |0,k,n,e,hb=>.inr ⟨rfl,λr hr=>absurd hr (Xb _)⟩
 |f+1,k,n,e,hb=>by
  have hi:=DH mask h k;have re:runEnd mask (tn mask h k).1<=mask/\(tn mask h k).1<=runEnd mask (tn mask h k).1:=by unfold runEnd;split<;>omega
  unfold layClean.free;cases q:(U8 (runEnd mask (tn mask h k).1+1-(tn mask h k).1)).find? λr=>(owner.getD ((tn mask h k).1+r) (some 0)).isNone with
  |some r=>
   have h1:=ad5 q;have h2:=Vf.mp (aax q);have h3:pos mask h (n+r)=(tn mask h k).1+r:=by show(st mask h (n+r)).j=_;rw[mY mask h n _ _ _ e r 112]
   refine .inl ⟨n+r,?_,?_,?_,?_⟩
   ·show some _=_;rw[h3]
   ·rw[h3];omega
   ·rw[h3];exact(ho _ 112).mp h1
   ·intro m hm;by_cases c:m<n
    ·exact hb m c
    ·obtain⟨s,rfl⟩:∃s,m=n+s:=⟨m-n,by omega⟩;have h4:pos mask h (n+s)=(tn mask h k).1+s:=by show(st mask h (n+s)).j=_;rw[mY mask h n _ _ _ e s 112]
     rw[h4];refine W8 λz=>?_;have z':=(ho ((tn mask h k).1+s) 112).mpr z;rw[List.find?_eq_some_iff_append]at q;obtain⟨_,as,bs,eq,hall⟩:=q;have hs:s∈as:=by
      have hlen:as.length=r:=by
       have hl:as.length<(U8 (runEnd mask (tn mask h k).1+1-(tn mask h k).1)).length:=by rw[eq];simp
       have e3:(U8 (runEnd mask (tn mask h k).1+1-(tn mask h k).1))[as.length]?=some r:=by rw[eq];simp
       rw[V_]at hl;rw[Z_ hl]at e3;exact Ve e3
      have e4:(U8 (runEnd mask (tn mask h k).1+1-(tn mask h k).1))[s]?=some s:=Z_ 112;rw[eq,W5 112]at e4;exact XU e4
     have:=hall s hs;rw[z']at this;exact absurd this 120
  |none=>
   have hall:=acJ.mp q;have occ:∀s,s<=runEnd mask (tn mask h k).1-(tn mask h k).1->(tn mask h k).1+s∈G:=λs hs=>W8 λz=>by have z':=(ho ((tn mask h k).1+s) 112).mpr z;exact hall s (Vf.mpr 112) z'
   have nb:∀m,m<n+(runEnd mask (tn mask h k).1-(tn mask h k).1)+1->pos mask h m∈G:=λm hm=>by
    by_cases c:m<n
    ·exact hb m c
    ·obtain⟨s,rfl⟩:∃s,m=n+s:=⟨m-n,by omega⟩;have h4:pos mask h (n+s)=(tn mask h k).1+s:=by show(st mask h (n+s)).j=_;rw[mY mask h n _ _ _ e s 112]
     rw[h4];exact occ s 112
   rcases vO mask h owner G ho f (k+1) _ (Gm mask h k n e) nb with⟨n',g1,g2',g3⟩|⟨g1,g2'⟩
   ·exact .inl ⟨n',g1,g2',g3⟩
   ·refine .inr ⟨g1,λr hr=>?_⟩;cases r with
    |zero=>have:=occ 0 (Vb _);exact this
    |succ r=>have:=g2' r 112;rwa [show k+(r+1)=k+1+r by omega]
theorem Kz{mask:Nat}(hm:mq mask)(h:Int)(owner:Array (Option Nat))(G:249)(hG:G.length<=mask)(ho:∀j,j<=mask->((owner.getD j (some 0)).isNone=true↔j∉G)):
  ∃n',layClean.free mask owner (turns mask) (bits h%(mask+1)) (bits h)=some (pos mask h n')/\pos mask h n'<=mask/\pos mask h n'∉G/\∀m,m<n'->pos mask h m∈G:=by
 rcases vO mask h owner G ho (turns mask) 0 0 rfl (λm hm=>absurd hm (Xb _))with a|⟨_,b⟩
 ·exact a
 ·exfalso;have all:∀j,j<=mask->j∈G:=λj hj=>by obtain⟨r,hr,e⟩:=Ep hm (tn mask h 12).1 j (DH mask h 12) hj;have:=b (12+r) (by unfold turns;omega);rw[abK,zT,e]at this;exact this
  have:(U8 (mask+1)).length<=G.length:=WA ZN λj hj=>all j (by have:=Vf.mp hj;omega);rw[V_]at this;omega
structure Own(mask:Nat)(owner:Array (Option Nat))(G:249)(hs:List Int):Prop where
 sz:owner.size=mask+1
 ln:G.length=hs.length
 nd:G.Nodup
 bd:∀j∈G,j<=mask
 at_:∀j,j<=mask->owner.getD j none=if j∈G then some (G.idxOf j)else none
 pr:∀k (h1:k<G.length) (h2:k<hs.length),Reach mask G hs[k] G[k]
theorem Own.occ{mask:Nat}{owner:Array (Option Nat)}{G:249}{hs:List Int}(O:Own mask owner G hs):∀j,j<=mask->((owner.getD j (some 0)).isNone=true↔j∉G):=λj hj=>by
 have e:owner.getD j (some 0)=owner.getD j none:=by
  have:j<owner.size:=by rw[O.sz];omega
  simp[Xf,this]
 rw[e,O.at_ j hj];split<;>simp_all
theorem Own.step{mask:Nat}{owner:Array (Option Nat)}{G:249}{hs:List Int}(O:Own mask owner G hs)(hm:mq mask)(hl:hs.length<=mask)(h:Int):
  ∃j,layClean.free mask owner (turns mask) (bits h%(mask+1)) (bits h)=some j/\Own mask (owner.setIfInBounds j (some hs.length)) (G++[j]) (hs++[h]):=by
 obtain⟨n',e,b,f,r⟩:=Kz hm h owner G (by rw[O.ln];exact hl) O.occ;refine⟨_,e,⟨by rw[Array.size_setIfInBounds,O.sz],by simp[O.ln],?_,λj hj=>?_,λj hj=>?_,λk h1 h2=>?_⟩⟩
 ·rw[ade];refine⟨O.nd,by simp,λa ha b hb=>?_⟩;rw[UM]at hb;subst hb;intro z;subst z;exact f ha
 ·rcases Vk.mp hj with h1|h1
  ·exact O.bd j h1
  ·rw[UM.mp h1];exact b
 ·have hsz:j<owner.size:=by rw[O.sz];omega
  by_cases c:j=pos mask h n'
  ·subst c;rw[if_pos 229];simp[Xf,hsz];rw[adf,if_neg f];simp[O.ln]
  ·have e1:(owner.setIfInBounds (pos mask h n') (some hs.length)).getD j none=owner.getD j none:=by simp[Xf,hsz];rw[Array.getElem_setIfInBounds_ne];exact λz=>c z.symm
   rw[e1,O.at_ j hj];by_cases d:j∈G
   ·rw[if_pos d,if_pos (VR _ d),adf,if_pos d]
   ·rw[if_neg d,if_neg (by simp[d,c])]
 ·have sub:∀x∈G,x∈G++[pos mask h n']:=λx hx=>VR _ hx;by_cases c:k<G.length
  ·have:=(O.pr k c (by rw[<-O.ln];exact c)).mono sub;rw[aaL c,aaL (by rw[<-O.ln];exact c)];exact this
  ·have hk:k=G.length:=by simp at h1;omega
   subst hk;have e1:(G++[pos mask h n'])[G.length]=pos mask h n':=by simp
   have e2:(hs++[h])[G.length]=h:=by simp[O.ln]
   rw[e1,e2];exact⟨n',rfl,λm hm=>sub _ (r m hm)⟩
theorem y9{mask:Nat}(hm:mq mask):∀(rest hs:List Int)(owner:Array (Option Nat))(G:249),Own mask owner G hs->(hs++rest).length<=mask->∃owner' G',rest.foldl (λacc h=>do
  let (owner,k) <-acc
  let j <-layClean.free mask owner (turns mask) (bits h%(mask+1)) (bits h)
  pure (owner.setIfInBounds j (some k),k+1)) (some (owner,hs.length))=some (owner',(hs++rest).length)/\Own mask owner' G' (hs++rest)
 |[],hs,owner,G,O,_=>⟨owner,G,by simp,by simpa using O⟩
 |h::rest,hs,owner,G,O,hl=>by
  obtain⟨j,e,O'⟩:=O.step hm (by simp at hl;omega) h;obtain⟨owner',G',e2,O2⟩:=y9 hm rest (hs++[h]) _ _ O' (by simpa using hl);refine⟨owner',G',?_,by simpa using O2⟩;rw[aaa];have e3:(do
   let (owner,k) <-some (owner,hs.length)
   let j <-layClean.free mask owner (turns mask) (bits h%(mask+1)) (bits h)
   pure (owner.setIfInBounds j (some k),k+1):Option (Array (Option Nat)×Nat))=some (owner.setIfInBounds j (some hs.length),(hs++[h]).length):=by show Option.bind (layClean.free mask owner (turns mask) (bits h%(mask+1)) (bits h)) _=_;rw[e];simp
  rw[e3];simpa using e2
theorem Lg(mask:Nat):Own mask (Array.replicate (mask+1) none) [] []:=
 ⟨by simp,rfl,XR,λj h=>absurd h 229,λj hj=>by simp[Xf],λk h1=>absurd h1 229⟩
theorem EY{mask:Nat}(hm:mq mask)(hs:Array Int)(hl:hs.size<=mask):∃owner G,layClean mask hs=some owner/\Own mask owner G hs.toList:=by obtain⟨owner,G,e,O⟩:=y9 hm hs.toList [] _ [] (Lg mask) (by simpa using hl);refine⟨owner,G,?_,by simpa using O⟩;unfold layClean;rw[<-Array.foldl_toList];have e':=congrArg (afR (·.1)) e;exact e'
theorem K1{t:VX}{es:178}{mask:Nat}(hm:mq mask)(finger moves:Nat)(led plain:Bool)(hl:es.size<=mask):
  ∃t' UD L',laid mask finger moves led plain (es.map (·.1))=some (t',UD)/\t'.mask=mask/\t'.led=led/\t'.plain=plain/\Tab t' (UD.filterMap (es[·]?)) L'/\(UD.filterMap (es[·]?)).toList.Perm es.toList:=by
 obtain⟨owner,G,e,O⟩:=EY hm (es.map (·.1)) (by simpa using hl);have hlen:G.length=es.size:=by rw[O.ln];simp
 (let live:=(U8 (mask+1)).filterMap λj=>(owner.getD j none).map (j,·))
 have lv:∀p,p∈live↔p.1∈G/\p.2=G.idxOf p.1:=λp=>by
  show p∈(U8 (mask+1)).filterMap _↔_;rw[Y_];constructor
  ·rintro⟨j,hj,q⟩;have hj':j<=mask:=by have:=Vf.mp hj;omega
   rw[O.at_ j hj']at q;by_cases c:j∈G
   ·rw[if_pos c]at q;have q:(j,G.idxOf j)=p:=by simpa using q
    subst q;exact⟨c,rfl⟩
   ·rw[if_neg c]at q;exact absurd q 229
  ·rintro⟨h1,h2⟩;refine⟨p.1,Vf.mpr (by have:=O.bd _ h1;omega),?_⟩;rw[O.at_ _ (O.bd _ h1),if_pos h1];show some (p.1,G.idxOf p.1)=some p;rw[<-h2]
 have so1:live.Pairwise λa b=>a.1<b.1:=by
  show((U8 (mask+1)).filterMap _).Pairwise _;rw[aaY];refine Xz.imp ?_;intro a b hab x hx y hy;cases q1:owner.getD a none with
  |none=>rw[q1]at hx;exact absurd hx 229
  |some k1=>cases q2:owner.getD b none with
   |none=>rw[q2]at hy;exact absurd hy 229
   |some k2=>
    rw[q1]at hx;rw[q2]at hy;have hx:(a,k1)=x:=by simpa using hx
    have hy:(b,k2)=y:=by simpa using hy
    subst hx;subst hy;exact hab
 have ord:(live.map (·.2)).Perm (U8 es.size):=by
  rw[YK _ ZN]
  ·intro k;rw[Vc,Vf];constructor
   ·rintro⟨p,hp,rfl⟩;obtain⟨h1,h2⟩:=(lv p).mp hp;rw[h2,<-hlen];exact Wa h1
   ·intro hk;rw[<-hlen]at hk;exact⟨(G[k],k),(lv _).mpr ⟨VT _,(O.nd.idxOf_getElem k hk).symm⟩,rfl⟩
  ·show(live.map (·.2)).Pairwise _;rw[X6];refine(abL.mp so1).imp ?_;rintro a b ⟨ha,hb,hab⟩ z;obtain⟨a1,a2⟩:=(lv a).mp ha;obtain⟨b1,b2⟩:=(lv b).mp hb;rw[a2,b2]at z;have ga:=Yt (Wa a1);have gb:=Yt (Wa b1);have:a.1=b.1:=by rw[<-ga,<-gb];congr 1
   omega
 have inR:∀p∈live,∃h:p.2<es.size,True:=λp hp=>by have:p.2∈live.map (·.2):=Vc.mpr ⟨p,hp,rfl⟩;exact⟨Vf.mp (ord.mem_iff.mp this),trivial⟩
 let L':=live.map λp=>(p.1,es.getD p.2 default)
 have eL:(live.map (·.2)).toArray.filterMap (es[·]?)=(L'.map (·.2)).toArray:=by
  rw[List.filterMap_toArray];congr 1;show aek _ (live.map _)=(live.map _).map _;rw[acr,Wc];have:∀(l:List (Nat×Nat)),(∀p∈l,p∈live)->aek ((λx=>es[x]?) ∘ λx=>x.snd) l=ZX ((λx=>x.snd) ∘ λp=>(p.fst,es.getD p.snd default)) l:=by
   intro l
   induction l with
   |nil=>intro _;rfl
   |cons p l ih=>
    intro hl;obtain⟨hp,_⟩:=inR p (hl p 229);rw[aaM (b:=es.getD p.2 default)]
    ·rw[Vl,ih λq hq=>hl q (by simp[hq])];rfl
    ·show es[p.2]?=_;simp[Xf,hp]
  exact this live λp hp=>hp
 have eP:L'.map (·.1)=live.map (·.1):=by show(live.map _).map _=_;rw[Wc];rfl
 have memP:∀j,j∈live.map (·.1)↔j∈G:=λj=>by
  rw[Vc];constructor
  ·rintro⟨p,hp,rfl⟩;exact((lv p).mp hp).1
  ·intro h;exact⟨(j,G.idxOf j),(lv _).mpr ⟨h,rfl⟩,rfl⟩
 have lenL:L'.length=es.size:=by have:=ord.length_eq;rw[UL,V_]at this;show(live.map _).length=_;rw[UL,this]
 refine⟨{mask,place:=(live.map (·.1)).toArray,dummies:=#[],finger,led,moves,plain},(live.map (·.2)).toArray,L',?_,rfl,rfl,rfl,⟨rfl,?_,?_,?_,λx hx=>?_,hm,?_,λx hx=>?_⟩,?_⟩
 ·unfold laid;rw[e];rfl
 ·show(live.map (·.1)).toArray.toList=_;rw[eP]
 ·rw[eL]
 ·rw[eP,X6];exact so1
 ·obtain⟨p,hp,rfl⟩:=Vc.mp hx;exact O.bd _ ((lv p).mp hp).1
 ·show L'.length<=mask;rw[lenL];exact hl
 ·obtain⟨p,hp,rfl⟩:=Vc.mp hx;obtain⟨h1,h2⟩:=(lv p).mp hp;obtain⟨hs,_⟩:=inR p hp;have r:=O.pr p.2 112 (by simpa using hs);have e1:G[p.2]' 112=p.1:=by have:=Yt (Wa h1);rw[<-this];congr 1
  have e2:((es.map (·.1)).toList[p.2]'(by simpa using hs))=(es.getD p.2 default).1:=by simp[Xf,hs]
  rw[e1,e2]at r;show Reach mask (L'.map (·.1)) (es.getD p.2 default).1 p.1;refine r.mono λy hy=>?_;rw[eP];exact(memP y).mpr hy
 ·rw[eL];show(L'.map (·.2)).Perm es.toList;have e1:(live.map (·.2)).map (λk=>es.getD k default)=L'.map (·.2):=by show _=(live.map _).map _;rw[Wc,Wc];rfl
  rw[<-e1];refine(ord.map _).trans ?_;have:(U8 es.size).map (λk=>es.getD k default)=es.toList:=by refine YX 229 λi h1 h2=>?_;simp at h1;simp[Xf,h1]
  rw[this]
theorem F0{t:VX}{es:178}(hm:mq (sizeAbove w-1))(hl:es.size<=sizeAbove w-1):
  ∃t' UD L',t.relaid (es.map (·.1)) w=some (t',UD)/\t'.mask=sizeAbove w-1/\t'.led=t.led/\t'.plain=t.plain/\Tab t' (UD.filterMap (es[·]?)) L'/\(UD.filterMap (es[·]?)).toList.Perm es.toList:=
 K1 (t:=t) hm t.finger (t.movedTo (sizeAbove w-1)) t.led t.plain hl
end ST
namespace DL
open PySem PySem.Spec PyProof.Rows L2
end DL
namespace DL
open PySem PySem.Spec PyProof.Rows L2 ST
theorem cZ{t:VX}{es:178}(T:Tab t es L):t.fits es.size=true:=by
 have h1:t.place.size=L.length:=by rw[<-Vh,T.pl,UL]
 have h2:es.size=L.length:=by rw[<-Vh,T.en,UL]
 have h3:t.fill=L.length:=by unfold aeQ;rw[T.dm,h1];rfl
 unfold SetTable.fits;rw[h1,h2,h3];simp[T.fl]
end DL
namespace DL
open PySem PySem.Spec PyProof.Rows L2 DX
open Classical in
def KD:Type:={d:D // isKey d=true/\dep d<=8}
noncomputable instance:DecidableEq KD:=λa b=>aeR (a=b)
end DL
namespace DL
open PySem PySem.Spec PyProof.Rows L2 ST
theorem Eu(mask i:Nat)(h:i<=mask):i+(ad6 mask i-i)<=mask:=by unfold ad6;split<;>omega
theorem JK(mask:Nat)(h:Int):∀n,(ST.st mask h n).j+(ST.st mask h n).more<=mask
 |0=>Eu mask _ (Zy (aaK _ 112))
 |n+1=>by
  have ih:=JK mask h n;show(aa_ _ (ST.st mask h n)).j+(aa_ _ (ST.st mask h n)).more<=mask;unfold aa_;split
  ·dsimp only;omega
  ·exact Eu mask _ (Zy (aaK _ 112))
theorem FH(mask:Nat)(h:Int)(n:Nat):ST.pos mask h n<=mask:=by have:=JK mask h n;show(ST.st mask h n).j<=mask;omega
theorem JZ:Yu 20=32:=by decide +kernel
theorem J6:Yu 76=128:=by decide +kernel
theorem vB{es:178}{L:List (Nat×Int×UH)}(T:Tab t es L):L.length=es.size:=by rw[<-Vh,T.en,UL]
end DL
namespace DL
open PySem PySem.Spec PyProof.Rows L2 ST PySem.SetTable
section
variable{t:VX}{es:Array (Int×UH)}{L:List (Nat×Int×UH)}
theorem ud(T:Tab t es L)(h:Int)(n0:Nat)(hf:pos t.mask h n0∉L.map (·.1))(hb:∀m,m<n0->pos t.mask h m∈L.map (·.1)):
  ∀(d n F:Nat),n0-n=d->n<=n0->d<F->probe.go t (λ_=>h+1) h F (st t.mask h n)=some (.empty (pos t.mask h n0) none)
 |d,n,0,_,_,h=>absurd h (Xb _)
 |d,n,F+1,hd,hn,hF=>by
  by_cases c:n=n0
  ·subst c;unfold probe.go;rw[Du T.dm (by rw[T.pl];exact hf)];show some (Met.empty _ (st t.mask h n).dummy)=_;rw[se]
  ·obtain⟨e,he,ej⟩:=Vc.mp (hb n 112);obtain⟨i,hi,rfl⟩:=XX.mp he;have hs:t.slot (pos t.mask h n)=.live i:=F_ T.sop (by rw[(T.at_ (U3 hi)).1,ej]);have eg:probe.go t (λ_=>h+1) h (F+1) (st t.mask h n)=probe.go t (λ_=>h+1) h F (st t.mask h (n+1)):=by rw[probe.go,hs];show(if(h+1==h)=true then _ else _)=_;rw[if_neg (by rw[beq_iff_eq];omega)];rfl
   rw[eg];exact ud T h n0 hf hb (n0-(n+1)) (n+1) F rfl 112 112
theorem EB(T:Tab t es L)(h:Int)(n0:Nat)(hf:pos t.mask h n0∉L.map (·.1))(hb:∀m,m<n0->pos t.mask h m∈L.map (·.1))(hn0:n0<=10*(t.mask+12)):t.freeSlot h=some (pos t.mask h n0,false):=by have e:t.probe (λ_=>h+1) h (t.probeStart h)=some (.empty (pos t.mask h n0) none):=ud T h n0 hf hb n0 0 (10*turns t.mask) rfl (Vb _) (by unfold turns;omega);unfold SetTable.freeSlot;rw[e];rfl
theorem K2(T:Tab t es L)(h:Int)(x:UH)(n0:Nat)(hf:pos t.mask h n0∉L.map (·.1))(hb:∀m,m<n0->pos t.mask h m∈L.map (·.1))(hn0:n0<=10*(t.mask+12))(hl:L.length+1<=t.mask):
  layNew t es h x=(insertAt es (t.put (pos t.mask h n0)).2 (h,x),(t.put (pos t.mask h n0)).1,false,false):=by obtain⟨L',T',_⟩:=T.put h x n0 hf hb (FH _ _ _) hl;have fit:=cZ T';unfold layNew;rw[EB T h n0 hf hb hn0];dsimp only;unfold SetTable.orStandIn;rw[fit];rfl
theorem Hu{mask finger moves:Nat}{led plain:Bool}{t':VX}{UD:Array Nat}(hm:mq mask)(hl:es.size<=mask)(e:laid mask finger moves led plain (es.map (·.1))=some (t',UD)):UD.toList.Perm (U8 es.size):=by
 obtain⟨owner,G,e0,O⟩:=EY hm (es.map (·.1)) (by simpa using hl);have hlen:G.length=es.size:=by rw[O.ln];simp
 (let live:=(U8 (mask+1)).filterMap λj=>(owner.getD j none).map (j,·))
 have lv:∀p,p∈live↔p.1∈G/\p.2=G.idxOf p.1:=λp=>by
  show p∈(U8 (mask+1)).filterMap _↔_;rw[Y_];constructor
  ·rintro⟨j,hj,q⟩;have hj':j<=mask:=by have:=Vf.mp hj;omega
   rw[O.at_ j hj']at q;by_cases c:j∈G
   ·rw[if_pos c]at q;have q:(j,G.idxOf j)=p:=by simpa using q
    subst q;exact⟨c,rfl⟩
   ·rw[if_neg c]at q;exact absurd q 229
  ·rintro⟨h1,h2⟩;refine⟨p.1,Vf.mpr (by have:=O.bd _ h1;omega),?_⟩;rw[O.at_ _ (O.bd _ h1),if_pos h1];show some (p.1,G.idxOf p.1)=some p;rw[<-h2]
 have so1:live.Pairwise λa b=>a.1<b.1:=by
  show((U8 (mask+1)).filterMap _).Pairwise _;rw[aaY];refine Xz.imp ?_;intro a b hab x hx y hy;cases q1:owner.getD a none with
  |none=>rw[q1]at hx;exact absurd hx 229
  |some k1=>cases q2:owner.getD b none with
   |none=>rw[q2]at hy;exact absurd hy 229
   |some k2=>
    rw[q1]at hx;rw[q2]at hy;have hx:(a,k1)=x:=by simpa using hx
    have hy:(b,k2)=y:=by simpa using hy
    subst hx;subst hy;exact hab
 have ord:(live.map (·.2)).Perm (U8 es.size):=by
  rw[YK _ ZN]
  ·intro k;rw[Vc,Vf];constructor
   ·rintro⟨p,hp,rfl⟩;obtain⟨h1,h2⟩:=(lv p).mp hp;rw[h2,<-hlen];exact Wa h1
   ·intro hk;rw[<-hlen]at hk;exact⟨(G[k],k),(lv _).mpr ⟨VT _,(O.nd.idxOf_getElem k hk).symm⟩,rfl⟩
  ·show(live.map (·.2)).Pairwise _;rw[X6];refine(abL.mp so1).imp ?_;rintro a b ⟨ha,hb,hab⟩ z;obtain⟨a1,a2⟩:=(lv a).mp ha;obtain⟨b1,b2⟩:=(lv b).mp hb;rw[a2,b2]at z;have ga:=Yt (Wa a1);have gb:=Yt (Wa b1);have:a.1=b.1:=by rw[<-ga,<-gb];congr 1
   omega
 unfold laid at e;rw[e0]at e;have e1:(live.map (·.2)).toArray=UD:=by have:=Ve e;exact congrArg Prod.snd this
 rw[<-e1];exact ord
theorem F1(hm:mq (sizeAbove w-1))(hl:es.size<=sizeAbove w-1):∃t' es' L',relayAll t es w=(es',t',false)/\t'.mask=sizeAbove w-1/\t'.led=t.led/\t'.plain=t.plain/\Tab t' es' L'/\es'.toList.Perm es.toList:=by
 obtain⟨t',UD,L',e1,e2,e3,e4,e5,e6⟩:=F0 (t:=t) (es:=es) hm hl;have od:UD.toList.Perm (U8 es.size):=Hu hm hl e1;refine⟨t',UD.filterMap (es[·]?),L',?_,e2,e3,e4,e5,e6⟩;unfold relayAll;rw[e1];dsimp only;have c1:coversAll UD es.size=true:=by unfold coversAll;exact List.isPerm_iff.mpr od
 rw[c1,cZ e5];rfl
end
end DL
namespace DL
open PySem PySem.Spec PyProof.Rows L2 ST
theorem Gh:abM (.type "tuple") (.type "set")=pure false:=by rw[YU];kernel_rfl
theorem Gg:abM (.type "tuple") (.type "frozenset")=pure false:=by rw[YU];kernel_rfl
theorem EX:abM (.type "list") (.type "set")=pure false:=by rw[YU];kernel_rfl
theorem EW:abM (.type "list") (.type "frozenset")=pure false:=by rw[YU];kernel_rfl
abbrev fV(led:Bool):Obj:={cls:=.type "set",dict:=none,data:=.set #[] 0 (.fresh 0 0 led)}
abbrev dH(w:Vj):Bool:=!w.params.followText "set-order"
section
variable{prog:U0}{w:Vj}{A:Vw}{E:UH->UI->Prop}{s:UI}{K:UG}{J:Hp}
theorem Iw(a:UH){Q₁:136}(h:Q₁ 236 {s with heap:=s.heap.push (fV (dH w))}):
  (WC 139 A (.call (.builtin "set.__new__") ⟨[.type "set",a],[]⟩) (wants Q₁ E) s):=by
 refine(Zf ?_)
 (show UZ _ A.in1 (do XG "set.__new__" ⟨[.type "set",a],[]⟩;again (.builtin "set.__new__" ⟨[.type "set",a],[]⟩)) _ _ s)
 refine UE (Yz (PySem.F.newCall_set_1 a) (UJ ⟨Wj ad7 _,V9 F.entry_set_new ?_⟩))
 (rw[VE ad7 _])
 (unfold Ze.«set.__new__» aea)
 have hsub:=sub_set_self
 (obtain⟨hp,g,d,tk,os⟩:=s)
 dsimp only
 wp_walk
 (refine WZ (UJ ?_))
 dsimp only;simp only[newObj]
 (refine UE (ad0 (UJ ?_)))
 exact UJ h
noncomputable def GA(prog:U0)(w:Vj)(A:Vw)(E:136)(s:UI)(l:UX)(items:Array UH):Prop:=
 ∃(I:UX)(fp:List UX)(St:Nat->UI->Prop)(h2:VU),WalksS prog w A.in1.in1.in1 I fp [I] (λa b=>b=a) items.size (λi v=>items[i]?=some v) St/\s.heap.objs.size∉fp/\s.heap.objs.size<I/\St 0 {s with heap:=h2}/\(∀b o,(s.heap.push (fV (dH w))).get? b=some o->h2.get? b=some o)/\
  ∀R:UH->UI->Prop,R (.ref I) {s with heap:=h2}->UZ 139 A.in1.in1 (aa5 (.ref l)) R E {s with heap:=s.heap.push (fV (dH w))}
theorem zK{ol:Obj}{Q:136}{items:Array UH}(P:VU->Prop)(Sz:s.heap.get? l=some ol)(hcl:ol.cls=.type T)(Up:abM (.type T) (.type "set")=pure false)(Uo:abM (.type T) (.type "frozenset")=pure false)(hne:(XY T==XY "dict")=false)
 (it:GA prog w A E s l items)
 (loop:∀{I:UX}{fp:List UX}{St:Nat->UI->Prop}{h2:VU}{R:_->UI->Prop},WalksS prog w A.in1.in1.in1 I fp [I] (λa b=>b=a) items.size (λi v=>items[i]?=some v) St->s.heap.objs.size∉fp->s.heap.objs.size<I->St 0 {s with heap:=h2}->(∀b o,(s.heap.push (fV (dH w))).get? b=some o->h2.get? b=some o)->
 (∀s',Moved [s.heap.objs.size,I] (λa b=>b=a) {s with heap:=h2} s'->P s'.heap->R (.ok (.ret .none)) s')->WC 139 A.in1.in1 (.builtin "set.update.loop" ⟨[.ref s.heap.objs.size,.ref I],[]⟩) R {s with heap:=h2})
 (h:∀(h':VU)(tk:Nat),P h'->(∀b o,b<s.heap.objs.size->s.heap.get? b=some o->h'.get? b=some o)->Q 236 {s with heap:=h',toks:=tk}):
  (UZ 139 A (call (.type "set") [.ref l]) Q E s):=by
 (obtain⟨c,tl,Uk⟩:=YB.mro)
 (have hmade:=YB.made)
 have hsub:=YB.sub
 (refine Yo (Zf ?_))
 (show UZ _ _ (callAny (.type "set") _) _ _ _)
 (refine UJ ⟨aap _ 180,V9 F.entry_type_call ?_⟩)
 (rw[Around.under_plain (weight_type_call_type "set" [.ref l] []) rfl])
 (have h1:=YB.notType)
 (have h2:=YB.canCreate)
 have hct:=PySem.F.typeCall_set_1 (.ref l)
 (repeat (any_goals (first|assumption|wp_step)))
 refine Xo (Iw (.ref l) (E:=E) (Q₁:=λobj s₁=>obj=.ref s.heap.objs.size/\s₁={s with heap:=s.heap.push (fV (dH w))}) ⟨rfl,rfl⟩) λr s₁ hr=>?_;cases r with
 |error e=>exact hr
 |ok fl=>
  cases fl with
  |ret obj=>
   obtain⟨rfl,rfl⟩:=hr;have hS:(s.heap.push (fV (dH w))).get? s.heap.objs.size=some (fV (dH w)):=US _ rfl;have hT:Zn {s with heap:=s.heap.push (fV (dH w))} 236 "set":=⟨_,hS,rfl⟩
   (have hli:=YB.init.lookup)
   (have hbi:=YB.init.bind 236)
   (repeat (any_goals (first|assumption|wp_step)))
   refine Xo (WW (R:=wants (λr s₂=>r=.none/\∃h' tk,s₂={s with heap:=h',toks:=tk}/\P h'/\
     (∀b o,b<s.heap.objs.size->s.heap.get? b=some o->h'.get? b=some o)) E) YB.init.plain F.entry_set_init ((check_set_init_1 hT ?_))) λr₂ s₂ hr₂=>?_
   ·have TF:(s.heap.push (fV (dH w))).get? l=some ol:=UK _ Sz;have Uv:Zn {s with heap:=s.heap.push (fV (dH w))} (.ref l) T:=⟨_,TF,hcl⟩
    (unfold Ze.«set.__init__» noKeywords adM)
    generalize T6:aa5=PI
    wp_walk
    subst T6;obtain⟨I,fp,St,h2,W,hSf,hSI,st,hk,hit⟩:=it;refine hit _ (UE (ab7 (loop W hSf hSI st hk λs' hm hp=>?_)))
    (obtain⟨h',g',d',tk',os'⟩:=s')
    (have eg:g'=s.gens:=hm.gens)
    (have ed:d'=s.drawn:=hm.drawn)
    have eo:os'=s.os:=hm.os;subst eg;subst ed;subst eo;show UZ _ _ _ _ _ _;refine UJ ?_
    (show UZ _ _ (ret Wk) _ _ _)
    refine UJ ⟨rfl,h',tk',rfl,hp,λb o hb e=>hm.heap b o ?_ (hk b o (UK _ e))⟩;simp only[UR,VA,or_false,not_or];exact⟨U4 hb,U4 (Wl hb hSI)⟩
   ·cases r₂ with
    |error e=>exact hr₂
    |ok fl₂=>
     cases fl₂ with
     |ret r=>
      obtain⟨rfl,h',tk,rfl,hp,hk'⟩:=hr₂
      (repeat (any_goals (first|assumption|wp_step)))
      exact h _ _ hp hk'
     |_=>exact hr₂.elim
  |_=>exact hr.elim
theorem Hg(hh:A.handled=none)(hl:s.heap.IsTuple l items):GA prog w A E s l items:=by
 obtain⟨ol,Sz,hcl,nl,hdl⟩:=id hl;have hl1:(s.heap.push (fV (dH w))).IsTuple l items:=⟨_,UK _ Sz,hcl,nl,hdl⟩;have hlS:l<s.heap.objs.size:=UY Sz;have z1:(s.heap.push (fV (dH w))).objs.size=s.heap.objs.size+1:=Wi _ _;have SN:l≠(s.heap.push (fV (dH w))).objs.size:=by rw[z1];exact U4 (Ww hlS)
 refine⟨_,_,_,_,(Walks.tuple (A:=A.in1.in1.in1) (by simp[hh]) (s.heap.push (fV (dH w))).objs.size l SN items).toS,?_,?_,⟨⟨_,US _ rfl,rfl,rfl⟩,hl1.push _⟩,λb o e=>UK _ e,λR q=>acG hl1 q⟩
 ·rw[z1];simp only[UR,VA,or_false,not_or];exact⟨U4 (VS _),WX hlS⟩
 ·rw[z1];exact VS _
theorem KP(hh:A.handled=none)(hl:s.heap.IsList l items):GA prog w A E s l items:=by
 obtain⟨ol,Sz,hcl,nl,hdl⟩:=id hl;have hl1:(s.heap.push (fV (dH w))).IsList l items:=⟨_,UK _ Sz,hcl,nl,hdl⟩;have hlS:l<s.heap.objs.size:=UY Sz;have z1:(s.heap.push (fV (dH w))).objs.size=s.heap.objs.size+1:=Wi _ _;have SN:l≠(s.heap.push (fV (dH w))).objs.size:=by rw[z1];exact U4 (Ww hlS)
 refine⟨_,_,_,_,(aev (A:=A.in1.in1.in1) (by simp[hh]) (s.heap.push (fV (dH w))).objs.size l SN items).toS,?_,?_,⟨⟨_,US _ rfl,rfl,rfl⟩,hl1.push _⟩,λb o e=>UK _ e,λR q=>Zw hl1 q⟩
 ·rw[z1];simp only[UR,VA,or_false,not_or];exact⟨U4 (VS _),WX hlS⟩
 ·rw[z1];exact VS _
end
end DL
namespace ST
open PySem PySem.SetTable
theorem yi{xs:Array Nat}(hs:xs.toList.Pairwise (· < ·))(hi:i<=xs.size)(h1:∀k,k<i->xs.getD k 0<j)(h2:∀k,i<=k->k<xs.size->j<=xs.getD k 0):below xs j=i:=by
 obtain⟨b1,b2,b3⟩:=m9 xs j hs;rcases ada (below xs j) i with c|c|c
 ·have:=h1 _ c;have:=b3 _ (UW _) 112;omega
 ·exact c
 ·have:=b2 _ c;have:=h2 i (UW _) 112;omega
theorem Cd{xs:Array Nat}(hs:xs.toList.Pairwise (· < ·)):below xs 0=0:=yi hs (Vb _) (λk h=>absurd h (Xb _)) λk _ _=>Vb _
theorem Cc{xs:Array Nat}(hs:xs.toList.Pairwise (· < ·))(h:xs[i]?=some j):below xs (j+1)=i+1:=by
 obtain⟨hi,e⟩:=VD.mp h;have sw:=YT.mp hs;have gd:∀k (hk:k<xs.size),xs.getD k 0=xs[k]:=λk hk=>by simp[Xf,hk]
 refine yi hs 112 (λk hk=>?_) (λk h1 h2=>?_)
 ·rw[gd k 112];by_cases c:k=i
  ·subst c;omega
  ·have:=sw k i (by simp;omega) (by simpa using hi) 112;simp at this;omega
 ·rw[gd k h2];have:=sw i k (by simpa using hi) (by simpa using h2) 112;simp at this;omega
theorem vZ{α:Type}(next:Nat->Nat):∀(f k:Nat)(left:List α)(out:Array α),f=left.length->(ads next f k left out).toList.Perm (out.toList++left)
 |0,k,left,out,h=>by have:left=[]:=aaZ.mp h.symm;subst this;unfold ads;simp
 |f+1,k,left,out,h=>by
  have hl:next k%left.length<left.length:=aaK _ 112;unfold ads;rw[U3 hl];dsimp only;refine(vZ next f (k+1) _ _ (by rw[ab0];simp[hl];omega)).trans ?_;rw[Array.toList_push,Zx]
  (refine ae7 _ ?_)
  have e1:left.eraseIdx (next k%left.length)=left.take (next k%left.length)++left.drop (next k%left.length+1):=Zz _ _;have e2:left=left.take (next k%left.length)++left[next k%left.length]::left.drop (next k%left.length+1):=by rw[abm,WM]
  rw[e1,ZJ];exact(aa9.symm).trans (abN e2.symm)
theorem Di{α:Type}(next:Nat->Nat)(xs:Array α):(ad8 next xs).toList.Perm xs.toList:=by have h:=vZ next xs.size 0 xs.toList #[] 229;rw[show(#[]:Array α).toList++xs.toList=xs.toList from rfl]at h;exact h
end ST
namespace DL
open PySem PySem.Spec PyProof.Rows L2 ST
structure kD(h:VU)(a:UX)(led:Bool)(es:178)(ep:Nat)(t:VX):Prop where
 at_:h.get? a=some {cls:=.type "set",dict:=none,data:=.set es ep t}
 tab:∃L,Tab t es L
 pl:led=true->(!t.plain&&decide (es.size>1))=false
 ld:t.led=led
theorem kD.keep{h h':VU}(S:kD h a led es ep t)(e:∀o,h.get? a=some o->h'.get? a=some o):kD h' a led es ep t:=⟨e _ S.at_,S.tab,S.pl,S.ld⟩
abbrev lH(w:Vj):Bool:=!w.params.followText "set-order"
noncomputable def gR(w:Vj)(a ep:Nat)(es:178):Array (Int×UH):=if w.params.followText "set-order"=true then ad8 (w.params.setOrder a ep) es else es
theorem q_(w:Vj)(a ep:Nat)(es:178):(gR w a ep es).toList.Perm es.toList:=by
 unfold gR;split
 ·exact Di _ _
 ·exact .refl _
theorem mh(w:Vj)(a ep:Nat)(es:178):(gR w a ep es).size=es.size:=by rw[<-Vh,(q_ w a ep es).length_eq,Vh]
abbrev nZ(a:UX)(slot i n ep:Nat):Obj:={cls:=.type "set_iterator",data:=.fields #[.int slot 0,.int i 0,.ref a,.int n 0,.int ep 0]}
theorem lz:afL table "set.__iter__"=some Ze.«frozenset.__iter__»:=
 (ael (id':="frozenset.__iter__") (by kernel_rfl) rfl 180 (by kernel_rfl))
theorem cT:Slot "set_iterator" "__next__" "set_iterator.__next__":=
 (.of (owner:="set_iterator") (n:="__next__") (by rw[Zo,XM];kernel_rfl) 180 180 180
  (by first|exact .inl 180|exact .inr 180) (by rw[YU];kernel_rfl))
theorem iC:afL table "set_iterator.__next__"=some Ze.«set_iterator.__next__»:=(entryFor_of_tree (by kernel_rfl))
theorem iR(a:UH):ab5 "set_iterator.__next__" ⟨[a],[]⟩:=by unfold ab5;kernel_rfl
section
variable{prog:U0}{w:Vj}{A:Vw}{E:UH->UI->Prop}{s:UI}
theorem Hi{a:UX}{es:178}{ep:Nat}{t:VX}{Q:136}(S:kD s.heap a (lH w) es ep t)
  (hQ:Q 236 {s with heap:=s.heap.push (nZ a 0 0 es.size ep)}):UZ 139 A (aa5 307) Q E s:=by
 obtain⟨L,T⟩:=S.tab;have hT:s.TypeIs 307 "set":=⟨_,S.at_,rfl⟩;refine ZA hT aai (V3 aai hT lz ?_ (adg _));show UZ _ _ (X8 a>>=_) _ _ s;unfold X8;refine UE (UE (Xx S.at_ rfl (cZ T) (UJ ?_)));unfold setDrawn abW;refine UE (UE (X_ S.at_ rfl (cZ T) (UE (UE (WZ (UJ (UJ ?_)))))));dsimp only;split
 ·rename_i c;have c:(!w.params.followText "set-order" && (!t.plain&&decide (es.size>1)))=true:=c;rw[Vg]at c;exact absurd (c.2.symm.trans (S.pl c.1)) 120
 ·(refine UE (UJ ?_))
  refine UE (adh S.at_ rfl (cZ T) ?_)
  (refine UE (Vn ?_))
  exact UJ ⟨_,rfl,"set_iterator",_,⟨_,US _ rfl,rfl⟩,cT.lookup,hQ⟩
theorem zL{t:VX}{Q:Option (UH×Nat)->UI->Prop}(S:kD s.heap a (lH w) es ep t)(hb:w.params.followText "set-order"=false->YV t.place slot=i)
 (q1:∀e slot',(gR w a ep es)[i]?=some e->(w.params.followText "set-order"=false->YV t.place slot'=i+1)->Q (some (e.2,slot')) s) (q2:(gR w a ep es)[i]?=none->Q none s):
  UZ 139 A (setNext a slot i ep) Q E s:=by
 obtain⟨L,T⟩:=S.tab;unfold setNext abW;refine UE (X_ S.at_ rfl (cZ T) ?_);dsimp only
 (refine UE (UE (WZ (UJ ?_))))
 dsimp only;cases bt:w.params.followText "set-order" with
 |true=>
  rw[show(U9 prog w).w.params.followText "set-order"=true from bt];simp only[if_true,bne_self_eq_false,VM,if_false];unfold setWalk abW;refine UE (UE (X_ S.at_ rfl (cZ T) ?_));dsimp only
  (refine UE (UE (WZ (UJ ?_))))
  dsimp only;rw[show(U9 prog w).w.params.followText "set-order"=true from bt];simp only[if_true];refine UE (WZ (UJ ?_));dsimp only;have ew:gR w a ep es=ad8 ((U9 prog w).w.params.setOrder a ep) es:=by unfold gR;rw[if_pos bt];rfl
  rw[ew]at q1 q2;cases q:(ad8 ((U9 prog w).w.params.setOrder a ep) es)[i]? with
  |none=>exact UJ (q2 q)
  |some e=>exact UJ (q1 e slot q λz=>absurd (bt.symm.trans z) 120)
 |false=>
  rw[show(U9 prog w).w.params.followText "set-order"=false from bt]
  (simp only[VM,if_false])
  have ew:gR w a ep es=es:=by unfold gR;rw[if_neg (by rw[bt];decide)]
  rw[ew]at q1 q2;have Tt:t.led=true:=by rw[S.ld];show(!w.params.followText "set-order")=true;rw[bt];rfl
  split
  ·rename_i c;have c:(!t.plain&&decide (es.size>1))=true:=c;exact absurd (c.symm.trans (S.pl (by show(!w.params.followText "set-order")=true;rw[bt];rfl))) 120
  ·refine UE (Yz (a:=()) ?_ ?_)
   ·show(if(!t.led&&!es.isEmpty)=true then _ else pure ())=pure ();rw[Tt];rfl
   ·rw[hb bt];cases q:es[i]? with
    |none=>exact UJ (q2 q)
    |some e=>
     have hlen:i<t.place.size:=by
      have h1:=(VD.mp q).1;have h2:t.place.size=es.size:=by rw[<-Vh,T.pl,UL,vB T]
      omega
     have ep':t.place[i]?=some t.place[i]:=WE hlen;rw[ep'];exact UJ (q1 e _ q λ_=>Cc T.sop ep')
theorem HD{es:178}{t:VX}{Q:Option UH->UI->Prop}(hne:a≠I)(S:kD s.heap a (lH w) es ep t)(hI:s.heap.get? I=some (nZ a slot i es.size ep))(hb:w.params.followText "set-order"=false->YV t.place slot=i)(hi:i<es.size)
 (hQ:∀h' slot' e,(gR w a ep es)[i]?=some e->h'.get? I=some (nZ a slot' (i+1) es.size ep)->(w.params.followText "set-order"=false->YV t.place slot'=i+1)->WN I s.heap h'->Q (some e.2) {s with heap:=h'}):
  UZ 139 A (YM (.ref I)) Q E s:=by
 obtain⟨L,T⟩:=S.tab;have hT:s.TypeIs (.ref I) "set_iterator":=⟨_,hI,rfl⟩;unfold YM;refine UE (Zg (Wt (name:=Y7 "__next__") hT cT (V3 cT hT iC ?_ (iR _))));show UZ _ _ (aeS (.ref I)>>=_) _ _ s;refine UE (aay hI rfl ?_);dsimp only;refine UE (Xx S.at_ rfl (cZ T) ?_);simp only[bne_self_eq_false,VM,if_false,W4];refine UE (zL S hb (λe slot' q1 q2=>?_) λq=>?_)
 ·dsimp only;refine UE (XN hI 229 λh1 g1 b1=>?_);refine UE (XN (s:={s with heap:=h1}) g1 229 λh2 g2' b2=>?_);exact UJ ⟨_,rfl,UJ (hQ h2 slot' e q1 (g2'.trans (by simp[abv])) q2 (b1.trans b2))⟩
 ·exfalso;have:=(Array.getElem?_eq_none_iff.mp q);rw[mh]at this;omega
theorem Ks{es:178}{t:VX}{Q:Option UH->UI->Prop}(hh:A.handled=none)(S:kD s.heap a (lH w) es ep t)(hI:s.heap.get? I=some (nZ a slot es.size es.size ep))(hb:w.params.followText "set-order"=false->YV t.place slot=es.size)
 (hQ:∀h',afy I s.heap h'->Q none {s with heap:=h'}):UZ 139 A (YM (.ref I)) Q E s:=by
 obtain⟨L,T⟩:=S.tab;have hT:s.TypeIs (.ref I) "set_iterator":=⟨_,hI,rfl⟩;unfold YM;refine UE (Zg (Wt (name:=Y7 "__next__") hT cT (V3 cT hT iC ?_ (iR _))));show UZ _ _ (aeS (.ref I)>>=_) _ _ s;refine UE (aay hI rfl ?_);dsimp only;refine UE (Xx S.at_ rfl (cZ T) ?_);simp only[bne_self_eq_false,VM,if_false,W4];refine UE (zL S hb (λe slot' q1 q2=>?_) λq=>?_)
 ·exfalso;have:=(VD.mp q1).1;rw[mh]at this;omega
 ·dsimp only;refine UE (XN hI 229 λh1 g1 b1=>?_);refine UE ?_;simp only[newExc,newTuple]
  (refine UE (Vn ?_ (by size_fits)))
  (refine UE (m:=aaz _ _) (Yz (a:=Wk) (by first|rfl|(simp only[aaz];rfl)) ?_))
  (refine Vn ?_ (by size_fits))
  simp only[raiseNew]
  (refine UE (aeT ?_))
  (first|rw[show A.in1.handled=none from hh]|rw[hh])
  (refine UE (UJ (wpAny_throw ?_)))
  (refine UE (aba (T:="StopIteration") (b:=true) ⟨_,US _ rfl,rfl⟩ aem ?_))
  exact UJ (hQ _ ((b1.extBut.push _).push _))
end
theorem xh:YF (.type "set") "__len__"=pure (some (.builtin "set.__len__")):=by rw[Zo,XM];kernel_rfl
theorem uI{M:ab8}{A:Vw}{E:136}{s:UI}{α:Type}{c:Prop}[Decidable c]{m1 m2:Sem α}{Q:α->UI->Prop}(hc:c)(h:UZ M A m1 Q E s):UZ M A (if c then m1 else m2) Q E s:=by rw[if_pos hc];exact h
theorem yQ{prog:U0}{w:Vj}{A:Vw}{E:136}{s:UI}{a:UX}{Q:Bool->UI->Prop}(hT:s.TypeIs 307 "set")(hQ:Q false s):UZ 139 A (aaj 307) Q E s:=by
 have sp:splitId "set.__len__"=some ("set","__len__"):=by decide +kernel
 (unfold aaj)
 refine UE (ad9 hT xh ?_);dsimp -zeta only;rw[sp];dsimp -zeta only;refine UE (m:=acV 307 (.type "set")) (aba hT sub_set_self ?_)
 (show UZ _ _ (if(!true)=true then _ else _) _ _ _)
 rw[if_neg 120];refine uI 180 ?_
 (refine UE (Yw hT ?_))
 exact UJ hQ
theorem iX:Slot "set_iterator" "__iter__" "set_iterator.__iter__":=
 ((.of (owner:="set_iterator") (n:="__iter__") (by rw[Zo,XM];kernel_rfl) 180 180 180
  ((by first|exact .inl 180|exact .inr 180)) (by rw[YU];kernel_rfl)))
theorem nU:afL table "set_iterator.__iter__"=some Ze.«dict_keyiterator.__iter__»:=
 (ael (id':="dict_keyiterator.__iter__") (by kernel_rfl) rfl 180 (by kernel_rfl))
theorem oB(a:UH):ab5 "set_iterator.__iter__" ⟨[a],[]⟩:=by unfold ab5;kernel_rfl
section
variable{prog:U0}{w:Vj}{A:Vw}{E:UH->UI->Prop}{s:UI}
def lP(w:Vj)(a ep:Nat)(es:178):List UH:=(gR w a ep es).toList.map (·.2)
theorem Gu(hh:A.handled=none)(I a:UX)(hne:a≠I){es:178}{t:VX}:
  afV prog w A I [I,a] [I] es.size (λi v=>(lP w a ep es)[i]?=some v) (λi h=>∃slot,h.get? I=some (nZ a slot i es.size ep)/\kD h a (lH w) es ep t/\(w.params.followText "set-order"=false->YV t.place slot=i)) where
 sub:=λ_ hb=>by simp at hb;simp[hb]
 frame:=λ_ _ _ ⟨slot,h1,h2,h3⟩ hk=>⟨slot,hk I 229 _ h1,h2.keep λo e=>hk a 229 o e,h3⟩
 item:=λi s Q E hi ⟨slot,h1,h2,h3⟩ hQ=>by
  refine HD hne h2 h1 h3 hi λh' slot' e q1 q2 q3 q4=>?_;refine hQ e.2 h' s.toks ?_ ⟨slot',q2,h2.keep λo e=>?_,q3⟩ λb o hb e=>?_
  ·unfold lP;rw[Vi,Yx,q1];rfl
  ·rw[q4.2 a hne];exact e
  ·exact q4.extBut b o (λh=>hb (by simp[h])) e
 done:=λs Q E ⟨slot,h1,h2,h3⟩ hQ=>Ks hh h2 h1 h3 λh' he=>hQ h' s.toks λb o hb e=>he b o (λh=>hb (by simp[h])) e
 self:=λi s Q E ⟨slot,h1,h2,h3⟩ hQ=>by have hT:s.TypeIs (.ref I) "set_iterator":=⟨_,h1,rfl⟩;refine ZA hT iX (V3 iX hT nU ?_ (oB _));show UZ _ _ (ret (.ref I)) _ _ s;exact UJ ⟨_,rfl,"set_iterator",_,hT,cT.lookup,hQ⟩
theorem Ai{a:UX}{es:178}{ep:Nat}{t:VX}{Q:List UH->UI->Prop}(hh:A.handled=none)(S:kD s.heap a (lH w) es ep t)(hn:es.size<=76)
  (hQ:∀(h':VU)(tk:Nat),(∀b o,s.heap.get? b=some o->h'.get? b=some o)->s.heap.objs.size<h'.objs.size->Q (lP w a ep es) {s with heap:=h',toks:=tk}):UZ 139 A (collect 307) Q E s:=by
 have ha:a<s.heap.objs.size:=UY S.at_;have hT:s.TypeIs 307 "set":=⟨_,S.at_,rfl⟩;unfold collect
 (refine UE (ab7 (V9 abO ?_)))
 (rw[VE abP _])
 show UZ _ A.in1 (newList []>>=λl=>again (.builtin "list.__iadd__" ⟨[l,.ref a],[]⟩)) _ _ s
 (refine UE (Vn ?_))
 (refine UJ ⟨Wj ZC _,V9 adi ?_⟩)
 (rw[VE ZC _])
 generalize Tr:({cls:=.type "list",data:=.seq ([]:List UH).toArray}:Obj)=l0;have S1:kD (s.heap.push l0) a (lH w) es ep t:=S.keep λo e=>UK _ e;have hT1:Zn {s with heap:=s.heap.push l0} 307 "set":=⟨_,S1.at_,rfl⟩;show UZ _ A.in1 (Xy 236 307 236) _ _ _
 (unfold Xy)
 refine UE (Yw hT1 ?_);have h1:aaN 236 307=false:=by show(s.heap.objs.size==a)=false;exact beq_eq_false_iff_ne.mpr (WX ha)
 have h2:(XY "set" == XY "list")=false:=by decide
 have h3:(XY "set" == XY "tuple")=false:=by decide
 (simp only[h1,h2,h3,aaR,VM,if_false])
 refine UE (Hi S1 ?_)
 (refine UE (VG ?_))
 have z1:(s.heap.push l0).objs.size=s.heap.objs.size+1:=Wi _ _;rw[z1];have S2:kD ((s.heap.push l0).push (nZ a 0 0 es.size ep)) a (lH w) es ep t:=S1.keep λo e=>UK _ e;have hT2:Zn {s with heap:=(s.heap.push l0).push (nZ a 0 0 es.size ep)} 307 "set":=⟨_,S2.at_,rfl⟩;refine yQ hT2 ?_;refine uI 180 ?_
 (refine UE (ZY ?_))
 subst Tr;have hI:((s.heap.push {cls:=.type "list",data:=.seq ([]:List UH).toArray}).push (nZ a 0 0 es.size ep)).get? 155=some (nZ a 0 0 es.size ep):=by rw[<-z1];exact US _ rfl
 have hS₁:((s.heap.push {cls:=.type "list",data:=.seq ([]:List UH).toArray}).push (nZ a 0 0 es.size ep)).get? s.heap.objs.size=some {cls:=.type "list",data:=.seq ([]:List UH).toArray}:=UK _ (US _ rfl);refine UE ?_
 (show UZ _ A.in1 (aad s.heap.objs.size (·.push .none)>>=λ_=>aad s.heap.objs.size (·.pop)) _ _ _)
 (refine UE (Wm hS₁ rfl ?_))
 (have hS₂:=Vy (XD (·.push Wk)) hS₁ rfl)
 (refine Wm hS₂ rfl ?_)
 (have hS₃:=Vy (XD (·.pop)) hS₂ rfl)
 have oth:∀b o,b≠s.heap.objs.size->((s.heap.push {cls:=.type "list",data:=.seq ([]:List UH).toArray}).push (nZ a 0 0 es.size ep)).get? b=some o->
   ((((s.heap.push {cls:=.type "list",data:=.seq ([]:List UH).toArray}).push (nZ a 0 0 es.size ep)).update s.heap.objs.size (XD (·.push Wk))).update s.heap.objs.size (XD (·.pop))).get? b=some o:=
  (λb o hb e=>(U_ _ _ (VF hb)).trans ((U_ _ _ (VF hb)).trans e))
 have hne:a≠s.heap.objs.size+1:=U4 (Ww ha);have hSf:s.heap.objs.size∉[s.heap.objs.size+1,a]:=by simp only[UR,VA,or_false,not_or];exact⟨U4 (VS _),WX ha⟩
 obtain⟨L,T⟩:=S.tab;refine UJ ⟨Wj acg _,ab1 ((Gu (A:=A.in1) (prog:=prog) (w:=w) (es:=es) (ep:=ep) (t:=t) hh 155 a hne).toS) (by rw[V6];omega) _ hSf _ es.size 0 _ _ _ rfl (Vb _)
  ⟨0,oth _ _ (WX (VS _)) hI,S2.keep λo e=>oth _ _ (U4 ha) e,λ_=>Cd T.sop⟩ hS₃ (afz _) λs' acc' c' hm hS' hacc=>?_⟩
 (show UZ _ A (load s.heap.objs.size>>=_) _ _ s')
 (refine UE (aer hS' ?_))
 have eacc:acc'.toList=lP w a ep es:=by
  obtain⟨z,q⟩:=hacc;have lw:(lP w a ep es).length=es.size:=by unfold lP;rw[UL,Vh,mh]
  refine YX (by rw[Vh,z,lw]) λi x1 x2=>?_;have this:(lP w a ep es)[i]?=some (acc'[i]'(by simpa using x1)):=q i _ (WE (by simpa using x1));rw[U3 x2]at this
  (exact(Ve this).symm)
 refine UJ ?_;rw[eacc]
 (obtain⟨h',g',d',tk',os'⟩:=s')
 (have eg:g'=s.gens:=hm.gens)
 (have ed:d'=s.drawn:=hm.drawn)
 have eo:os'=s.os:=hm.os;subst eg;subst ed;subst eo;refine hQ h' tk' (λb o e=>?_) (UY hS');have lb:=UY e;refine hm.heap b o ?_ (oth b o (U4 lb) (UK _ (UK _ e)));simp only[UR,VA,or_false,not_or];exact⟨U4 lb,U4 (Ww lb)⟩
end
end DL
namespace DL
open PySem PySem.Spec PyProof.Rows L2 ST
noncomputable def dd:List D->List D
 |[]=>[]
 |x::xs=>if(dd xs).any (cV x)=true then dd xs else x::dd xs
end DL
namespace DL
open PySem PySem.Spec PyProof.Rows L2
end DL
namespace DL
open PySem PySem.Spec PyProof.Rows L2 DX
end DL
namespace DL
open PySem PySem.Spec PyProof.Rows L2
end DL
namespace DL
open PySem PySem.Spec PyProof.Rows L2 DX
end DL
namespace DL
open PySem PySem.Spec PyProof.Rows L2 ST DX
end DL
namespace DL
open PySem PySem.Spec PyProof.Rows L2 DX
section
open PySem.SeqAt
open PySem.AutoSeq1 (wpAny_loadPart')
open PySem.MeetsSeq PySem.MeetsSeq2 PySem.MeetsSeq3
end
theorem uY(gt:GT)(gts:G Bool)(ge:G R):∀(ds:List D)(env:Ev)(k:List D->M R),(cH gt gts (gH ge) ds env>>=λr=>k r.1)=(fH gt gts ge ds env>>=k)
 |[],env,k=>rfl
 |d::ds,env,k=>by
  unfold cH fH;cases gt d env with
  |bad=>rfl
  |exc z=>rfl
  |ok e=>
   show((gts e>>=λk=>if k=true then gH ge e>>=λr=>cH gt gts (gH ge) ds r.2>>=λz=>.ok (r.1++z.1,z.2)else cH gt gts (gH ge) ds e)>>=_)=((gts e>>=λk=>if k=true then ge e>>=λr=>toD r>>=λy=>fH gt gts ge ds e>>=λys=>.ok (y::ys)else fH gt gts ge ds e)>>=_);cases gts e with
   |bad=>rfl
   |exc z=>rfl
   |ok b=>
    cases b with
    |false=>exact uY gt gts ge ds e k
    |true=>
     show((gH ge e>>=λr=>cH gt gts (gH ge) ds r.2>>=λz=>.ok (r.1++z.1,z.2))>>=_)=((ge e>>=λr=>toD r>>=λy=>fH gt gts ge ds e>>=λys=>.ok (y::ys))>>=_);unfold gH;cases ge e with
     |bad=>rfl
     |exc z=>rfl
     |ok r=>
      show(((toD r>>=λy=>M.ok ([y],e))>>=λr=>cH gt gts (gH ge) ds r.2>>=λz=>.ok (r.1++z.1,z.2))>>=_)=((toD r>>=λy=>fH gt gts ge ds e>>=λys=>.ok (y::ys))>>=_);cases toD r with
      |bad=>rfl
      |exc z=>rfl
      |ok y=>
       have ih:=uY gt gts ge ds e λys=>k (y::ys);show((cH gt gts (gH ge) ds e>>=λz=>.ok ([y]++z.1,z.2))>>=λr=>k r.1)=((fH gt gts ge ds e>>=λys=>M.ok (y::ys))>>=k);have e1:((cH gt gts (gH ge) ds e>>=λz=>M.ok ([y]++z.1,z.2))>>=λr=>k r.1)=(cH gt gts (gH ge) ds e>>=λr=>k (y::r.1)):=by cases cH gt gts (gH ge) ds e<;>rfl
       have e2:((fH gt gts ge ds e>>=λys=>M.ok (y::ys))>>=k)=(fH gt gts ge ds e>>=λys=>k (y::ys)):=by cases fH gt gts ge ds e<;>rfl
       rw[e1,e2,ih]
theorem KC(n:Nat)(cap:249)(gi:244)(gt:GT)(gts:G Bool)(ge:G R):c9 n cap gi gt gts ge=jC sizeLine n cap gi gt gts (gH ge) (λys=>.ok (.l .fresh ys)):=by
 funext env;unfold c9 jC;cases gi env with
 |bad=>rfl
 |exc z=>rfl
 |ok ds=>
  show(if ds.length<=sizeLine then _ else _)=(if ds.length<=sizeLine then _ else _);by_cases c:ds.length<=sizeLine
  ·rw[if_pos c,if_pos c];exact(uY gt gts ge ds _ λys=>.ok (.l .fresh ys)).symm
  ·rw[if_neg c,if_neg c]
section
variable{X:Cx}{c:C}
theorem kH(own:131)(cap:249){scope:Yd}{pos:Pos}{gi:244}{gts:G Bool}{ge:G R}(hi:D5 X c Uz UA gi)
 (hbody:∀(cl:294)(C:UX)(s:UI)(H:Hp)(fp:List UX),fZ X.env.cells scope.names []=some cl->sL 177 c Uz gt/\uP 177 c ifs gts/\QD 177 c elt ge) (a:DN X scope cap UA:=by exact MS rfl):xj X c (.ListComp elt [⟨Uz,UA,ifs,0⟩] scope pos) (c9 own.length cap gi gt gts ge):=by
 refine⟨_,?_,rfl,λ_=>rfl⟩;rw[KC];refine rP (e:=.ListComp elt [⟨Uz,UA,ifs,0⟩] scope pos) (ob:={cls:=.type "list",dict:=none,data:=.seq ([]:List UH).toArray}) (o0:=λ_=>.lst []) (Acc:=λp _=>B3 c p) (N:=1) (lim:=sizeLine) (m:=λp env=>do let _ <-call (.builtin "list.append") [.ref p,<-eval elt env]) own cap rfl hi.h
  (λs Q E q=>Vn q) (λh H=>⟨Vb _,[],0,.nil,US _ rfl⟩) (λp _=>rL) (λp _ J H _ h1 h2=>⟨[],h1,h2,.nil⟩) (by rw[Nat.mul_one];exact UW _) (λit p env=>CS (compTurn_list ..)) (λit acc env R s h0 h=>abj h0 h) (λys z q=>by cases q)
  (fun {p H2 J H J' H' ys r} hp _ e ⟨us,h1,h2,h3⟩ q=>by cases q;exact⟨J',e,⟨p,us,rfl,h1,h2,hp,h3⟩⟩) (λcl C s H fp hcc=>?_) Aa a
 obtain⟨b1,b2,b3⟩:=hbody cl C s H fp hcc;exact⟨b1.h,b2.h,λp J2 H2 hp2 hp0=>AG hp2 hp0 b3.h⟩
end
end DL
namespace DL
open PySem PySem.Spec PyProof.Rows L2 DX
open Sem (wp)
end DL
namespace DL
open PySem PySem.Spec PyProof.Rows L2 DX
end DL
namespace DL
open PySem PySem.Spec PyProof.Rows L2
def FA(K:UG)(x:Str)(st:Xq):Prop:=∃f fd,U1 K UT x=some (some 344)/\fN K x x st f fd
theorem O1{K:UG}{st:Xq}(a:U1 K UT x=some (some 344))
 (l:K.lookup f=some ⟨u,o,.func (Vm x x (bX st) (bu st) (aF st) .none v d p n q r),s⟩) (c:WR K q x=true) (k:Vu K 344=true):FA K x st:=⟨f,_,a,oJ l c k⟩
def FB(K:UG)(mg:145)(x:Str)(st:Xq):Prop:=∃f fd,mg x=some 344/\fN K x x st f fd
theorem dO{K:UG}{h:VU}{mg:145}(X:K.In h)(G:h.Ns UT mg){st:Xq}(e:FA K x st):FB K mg x st:=let ⟨f,fd,a,F⟩:=e;⟨f,fd,Vo X G a,F⟩
theorem Rq{P:U0}{w:Vj}{K:UG}{mg:145}{base:VU}{x:Str}{st:Xq}{k:Nat}{Fm:234}(gB:G O)(N:131)(n:Nat)(e:FB K mg x st)
  (hb:N.Nodup->∀(f:UX)(cdv:UH)(A:Vw)(outer:List Env)(s:UI)(H:Hp)(E:XK)(J:Hp)(T:359),cG k (A.deeper (Y5 x (aF st) s.heap.objs.size f cdv))->
   lq (sS P w K mg base N x (aF st) f cdv A outer s H E) ⟨K,H,J,T⟩ (bu st) gB)
  (Sc:cK N (N.take n) (aF st))
  (hbi:∀(kV doc pm:UH)(an:259)(cdv ct:UH)(us:List UH),us.length=(N.take n).length->Za (Vm x x (bX st) (bu st) (aF st) .none kV doc pm an cdv ct) ⟨us,[]⟩=pure ((N.take n).zip us))
  (hF:∀as r,as.length=(N.take n).length->Fm as=.ok r->fin (gB (aG N as))=.ok r):bW P w K mg base (k+1) (N.take n).length x Fm:=
 let ⟨f,_,hm,F⟩:=e;jl F hm Sc hbi (hb Sc.nd f) hF
theorem qc{P:U0}{w:Vj}{K:UG}{mg:145}{base:VU}{x:Str}{st:Xq}{k:Nat}{Fm:234}(gB:G O)(N:131)(n:Nat)(e:FB K mg x st)
  (hb:N.Nodup->∀(f:UX)(cdv:UH)(A:Vw)(outer:List Env)(s:UI)(H:Hp)(E:XK)(J:Hp)(T:359),cG k (A.deeper (Y5 x (aF st) s.heap.objs.size f cdv))->
   lq (sS P w K mg base N x (aF st) f cdv A outer s H E) ⟨K,H,J,T⟩ (bu st) gB)
  (Sc:cK N (N.take n) (aF st):=by exact⟨rfl,rfl,rfl,by decide +kernel,rfl,by decide +kernel,by decide +kernel⟩)
  (hbi:∀(kV doc pm:UH)(an:259)(cdv ct:UH)(us:List UH),us.length=(N.take n).length->Za (Vm x x (bX st) (bu st) (aF st) .none kV doc pm an cdv ct) ⟨us,[]⟩=pure ((N.take n).zip us):=by
   intro _ _ _ _ _ _ us hl;rcases us with _|⟨_,_|⟨_,_|⟨_,_|⟨_,_|⟨_,_|⟨_,_|⟨_,_⟩⟩⟩⟩⟩⟩⟩<;>first|exact rfl|(cases hl;done)|exact nomatch hl)
  (hF:∀as r,as.length=(N.take n).length->Fm as=.ok r->fin (gB (aG N as))=.ok r:=by intro _ _ _ h;exact h):bW P w K mg base (k+1) (N.take n).length x Fm:=
 Rq gB N n e hb Sc hbi hF
end DL
namespace DL
open PySem PySem.Spec PyProof.Rows L2 PySem.Builtin PySem.Builtin.Str
end DL
namespace DL
open PySem PySem.Spec PyProof.Rows L2 DX
end DL
namespace DL
open PySem PySem.Spec PyProof.Rows L2
end DL
namespace DL
open PySem PySem.Spec PyProof.Rows L2 DX
section
variable{X:Cx}{c:C}
noncomputable def i9(X:Cx)(own:131)(cap:249)(scope:Yd):List (Str×UX)->UX->UI->Hp->List UX->UH->UI->Prop:=λcl C s H fp v s'=>
 ∃Ux σ H' e Ce dx To E,v=.ref e/\pK X E/\X.stack=X.env::X.outer/\X.env.frame=some X.env.locals/\Inv 177 Ux σ H' s'/\Fl e Ce dx To s'.heap/\s.heap.objs.size<=e/\(∀T∈To.toList,s.heap.objs.size<=T/\Apart 177 Ux T)/\H' e=some (XO e Ce dx)/\(∀T∈To.toList,H' T=none)/\E (.ref e) dx H'
end
end DL
namespace DL
open PySem PySem.Spec PyProof.Rows L2
section
variable{X:Cx}{c:C}{a b:VC}{ga gb:G R}{pos:Pos}
noncomputable def Pq(K:UG):R2:=λx y H Q=>∃l b xs zs,x=.ref l/\y=.ref b/\cY K H l xs/\cY K H b zs/\xs.length+zs.length<=sizeLine/\∀p,H p=none->Q (.ref p) (upd H p (.lst (xs++zs)))
theorem Lc:dU X (Ys .Add) (Pq X.K):=by
 intro Ux s σ H x y v u Q I rx ry h;obtain⟨l,b,xs,zs,rfl,rfl,hl,hb,hz,q⟩:=h;cases rx;cases ry;obtain⟨Uy,r,p1,z1⟩:=I.list hl;obtain⟨its2,r2,p2,z2⟩:=I.list hb;obtain⟨⟨cls,dd,data,sl⟩,ho,hc,n,hd⟩:=id p1.isList;obtain⟨⟨cls2,dd2,data2,sl2⟩,ho2,hc2,n2,hd2⟩:=id p2.isList
 (simp only at hc hd hc2 hd2)
 subst hc hd hc2 hd2;have e1:=r.length;have e2:=r2.length;refine abz ⟨_,ho,rfl⟩ ⟨_,ho2,rfl⟩ noFill_list_add seq_list_add PySem.F.slot_list_add PySem.F.entry_list_add (PySem.F.args_list_add_2 _ _) (list_addW l b Uy.toArray its2.toArray n n2 dd dd2 sl sl2 (by rw[U5,U5];omega)) ⟨ho,ho2,?_⟩;rw[show Uy.toArray++its2.toArray=(Uy++its2).toArray by simp];exact⟨.ref _,_,I.lnew (t':=s.toks) (r.append r2) (by rw[UQ];omega),rfl,q _ I.fresh⟩
def gX(x y:R):M R:=fY x>>=λxs=>fY y>>=λys=>if xs.length+ys.length<=sizeLine then .ok (.l .fresh (xs++ys))else .bad
theorem nI(ha:358)(hb:QD X c b gb)(hK:375):QD X c (.BinOp a .Add b pos) (g2 gX ga gb):=⟨lJ Lc (by
 intro He He' J H x y u v Q hp rx ry w;unfold gX at w;obtain⟨xs,q1,w⟩:=kc w;obtain⟨ys,q2,w⟩:=kc w;obtain⟨p,vs,rfl,h1,s1⟩:=RR.list hp rx q1;obtain⟨p2,vs2,rfl,h2,s2⟩:=RR.list hp ry q2;split at w
 ·rename_i hz;rw[s1.length,s2.length]at hz;exact⟨p,p2,vs,vs2,rfl,rfl,by rw[hK];exact h1,by rw[hK];exact h2,hz,λq hq=>w _ J _ (Ext.new hp.sub hq _) (jE hp hq (s1.append s2))⟩
 ·exact w.elim) ha.h hb.h⟩
end
end DL
namespace DL
open PySem PySem.Spec PyProof.Rows L2 DX
open Sem (wp)
end DL
namespace DL
open PySem PySem.Spec PyProof.Rows L2 DX
end DL
namespace DL
open PySem PySem.Spec PyProof.Rows L2
end DL
namespace DL
open PySem PySem.Spec PyProof.Rows L2
end DL
namespace DL
open PySem PySem.Spec PyProof.Rows L2
end DL
namespace DL
open PySem PySem.Spec PyProof.Rows L2 DX
section
variable{X:Cx}{c:C}{pos:Pos}
open Classical in
end
end DL
namespace DL
open PySem PySem.Spec PyProof.Rows L2 ST
noncomputable def gc:List Str->List Str
 |[]=>[]
 |x::r=>if(gc r).contains x then gc r else x::gc r
theorem jg:∀(l:131)(d:Str),d∈gc l↔d∈l
 |[],_=>Iff.rfl
 |x::r,d=>by
  unfold gc;split
  ·rename_i h;rw[jg r,UR];exact⟨.inr,λz=>z.elim (λz=>z▸(jg r x).mp (by simpa using h)) id⟩
  ·rw[UR,UR,jg r]
theorem sU:∀l:List Str,(gc l).Nodup
 |[]=>XR
 |x::r=>by
  unfold gc;split
  ·exact sU r
  ·rename_i h;exact WD.mpr ⟨by simpa using h,sU r⟩
inductive fM(w:Vj):List (Int×UH)->List Str->Prop
 |nil:fM w [] []
 |cons {i:Str}{k:Tok}{es:List (Int×UH)}{ns:131}:fM w es ns->fM w ((YY w i,.str i k)::es) (i::ns)
theorem fM.perm{w:Vj}{es es':List (Int×UH)}(p:es.Perm es'):∀{ns:131},fM w es ns->∃ns',ns.Perm ns'/\fM w es' ns':=by
 induction p with
 |nil=>intro ns h;exact⟨ns,.refl _,h⟩
 |cons x _ ih=>
  intro ns h;cases h with
  |cons h3=>obtain⟨ns',a,b⟩:=ih h3;exact⟨_,a.cons _,.cons b⟩
 |swap x y l=>
  intro ns h;cases h with
  |cons h3=>cases h3 with
   |cons h6=>exact⟨_,.swap _ _ _,.cons (.cons h6)⟩
 |trans _ _ ih1 ih2=>
  intro ns h;obtain⟨k1,a,b⟩:=ih1 h;obtain⟨k2,c,d⟩:=ih2 b;exact⟨k2,a.trans c,d⟩
theorem fM.length{w:Vj}{es:List (Int×UH)}{ns:131}(h:fM w es ns):es.length=ns.length:=by
 induction h with
 |nil=>rfl
 |cons _ ih=>simp[ih]
structure gG(w:Vj)(h:VU)(a:UX)(led:Bool)(ns:131)(es:178)(ep:Nat)(t:VX):Prop where
 at_:h.get? a=some {cls:=.type "set",dict:=none,data:=.set es ep t}
 tab:∃L,Tab t es L
 ld:t.led=led
 rm:ns.length*5<t.mask*3
 en:fM w es.toList ns
 nd:ns.Nodup
section
variable{w:Vj}{prog:U0}{E:UH->UI->Prop}{A:Vw}{s:UI}
theorem Hh{M:ab8}{c:Prop}[Decidable c]{α β:Type}{m1 m2:Sem α}{k:α->Sem β}{Q:β->UI->Prop}(h:UZ M A ((if c then m1 else m2)>>=k) Q E s):UZ M A (if c then m1>>=k else m2>>=k) Q E s:=by
 by_cases hc:c
 ·rw[if_pos hc]at h ⊢;exact h
 ·rw[if_neg hc]at h ⊢;exact h
theorem Ax{t:VX}{es:178}{L:List (Nat×Int×UH)}(h:Tab t es L):Tab {t with plain:=false} es L:=by cases h;constructor<;>assumption
theorem fM.elems{es:List (Int×UH)}{ns:131}(h:fM w es ns):ElemsOf (aaU prog w) es:=by
 induction h with
 |nil=>exact λe he=>nomatch he
 | @cons i k es ns _ ih=>
  intro e he
  (rcases UR.mp he with rfl|he)
  ·exact⟨⟨i,aey _ _ _ _,rfl⟩,rfl⟩
  ·exact ih e he
theorem fM.find{es:List (Int×UH)}{ns:131}(h:fM w es ns)(i:Str):(es.findIdx? λe=>(aaU prog w).is i e.2)=none↔i∉ns:=by
 rw[List.findIdx?_eq_none_iff]
 induction h with
 |nil=>simp
 | @cons j k es ns _ ih=>
  rw[UR,not_or,<-ih];have e:(aaU prog w).is i (.str j k)=decide (i=j):=KeyKind.is_eq_decide (aey prog w j k) i;constructor
  ·intro h;refine⟨λz=>?_,λx hx=>h x (UN _ hx)⟩;have:=h _ UO;rw[e,z]at this;simp at this
  ·rintro⟨h1,h2⟩ x hx
   (rcases UR.mp hx with rfl|hx)
   ·rw[e];simpa using h1
   ·exact h2 x hx
theorem AH{a:UX}{es:178}{ep:Nat}{t:VX}{led:Bool}{ns:131}{i:Str}{k:Tok}{Q:Bool->UI->Prop}(S:gG w s.heap a led ns es ep t)(hl:ns.length<76)
  (q1:i∈ns->Q false s) (q2:i∉ns->∀(h':VU) ns' es' ep' t',WN a s.heap h'->(i::ns).Perm ns'->gG w h' a led ns' es' ep' t'->Q true {s with heap:=h'}):
  UZ 139 A (setAddHashed a (.str i k) (YY w i)) Q E s:=by
 obtain⟨L,T⟩:=S.tab;have lenL:L.length=ns.length:=by rw[vB T,<-Vh,S.en.length]
 have hes:es.size=ns.length:=by rw[<-Vh,S.en.length]
 obtain⟨n0,b1,b2,b3⟩:=Cv T.mo (YY w i) (L.map (·.1)) (by rw[UL];exact T.fl)
 (unfold setAddHashed setAddHashedIn)
 refine VG (UE (X_ S.at_ rfl (cZ T) ?_));dsimp only;have sc:byScan (.str i k) es=true:=byScan_of (prog:=prog) (w:=w) (knd:=aaU prog w) rfl (by unfold scanBound;omega) S.en.elems;rw[sc];simp only[if_true];unfold setAddByScan;refine UE ?_
 (refine UE (ZY ?_))
 refine UE (wpAny_setScan_of (knd:=aaU prog w) (k:=i) (aey _ _ _ _) S.at_ rfl (cZ T) S.en.elems ?_);cases hr:List.findIdx? (λe=>(aaU prog w).is i e.2) es.toList with
 |some j=>
  dsimp only;have hin:i∈ns:=W8 λz=>by have:=(S.en.find (prog:=prog) (w:=w) i).mpr z;rw[hr]at this;cases this
  exact UJ (UJ (q1 hin))
 |none=>
  dsimp only;have hm:i∉ns:=(S.en.find i).mp hr;have rm:=S.rm;have ln:=K2 T (YY w i) (.str i k) n0 b2 b3 b1 (by rcases T.mo with h|h|h<;>rw[h]at rm ⊢<;>omega);rw[ln];dsimp only
  (refine UE (Yz (a:=()) rfl ?_))
  obtain⟨L',T',pm⟩:=T.put (YY w i) (.str i k) n0 b2 b3 (FH _ _ _) (by rcases T.mo with h|h|h<;>rw[h]at rm ⊢<;>omega);have fl:(t.put (pos t.mask (YY w i) n0)).1.mask=t.mask/\(t.put (pos t.mask (YY w i) n0)).1.plain=t.plain/\(t.put (pos t.mask (YY w i) n0)).1.led=t.led:=⟨rfl,rfl,rfl⟩;generalize t.put (pos t.mask (YY w i) n0)=tp at T' fl ⊢;obtain⟨t',p⟩:=tp;dsimp only at T' fl ⊢;obtain⟨f1,f2,f3⟩:=fl;obtain⟨ns',p1,p2⟩:∃ns',(i::ns).Perm ns'/\fM w (YH es p (YY w i,.str i k)).toList ns':=by refine fM.perm (es:=(YY w i,.str i k)::es.toList) ?_ (.cons S.en);rw[T'.en,T.en];exact(pm.map (·.2)).symm
  have nd':ns'.Nodup:=p1.nodup_iff.mp (WD.mpr ⟨hm,S.nd⟩);have lk:ns'.length=ns.length+1:=by rw[<-p1.length_eq];rfl
  refine Hh (UE (Yz (a:=!t'.plain) (by generalize t'.plain=pl;cases pl<;>rfl) ?_));rw[show(if(!t'.plain)=true then t' else {t' with plain:=false})={t' with plain:=false} by cases t';rename_i pl;cases pl<;>rfl];have T':=Ax T';have f1:({t' with plain:=false}:VX).mask=t.mask:=f1;have f3:({t' with plain:=false}:VX).led=t.led:=f3;generalize ({t' with plain:=false}:VX)=t' at T' f1 f3 ⊢;have esz:(YH es p (YY w i,YL i k)).size=ns'.length:=by rw[<-Vh,p2.length]
  refine UE (adj S.at_ rfl ?_ (by rw[esz,V6];omega));have hg:=Vy (aez (YH es p (YY w i,.str i k)) t') S.at_ rfl;have hfill:t'.fill=ns'.length:=by unfold aeQ;rw[T'.dm,<-Vh,T'.pl,UL,vB T',esz];rfl
  split
  ·rename_i c;simp only[aen,aaV]at c;unfold adG at c;rw[hfill,f1,decide_eq_true_eq]at c;have hW:(Yu (aaA ns'.length)=32/\ns'.length=5)\/(Yu (aaA ns'.length)=128/\ns'.length=19):=by
    unfold aaA;rw[if_neg 112];rcases T.mo with h|h|h
    ·rw[h]at c rm;have:ns'.length=5:=by omega
     rw[this];exact .inl ⟨JZ,rfl⟩
    ·rw[h]at c rm;have:ns'.length=19:=by omega
     rw[this];exact .inr ⟨J6,rfl⟩
    ·rw[h]at c;omega
   have hmo:mq (Yu (aaA ns'.length)-1):=by rcases hW with⟨h,_⟩|⟨h,_⟩<;>rw[h];exact .inr 394;exact .inr (.inr rfl)
   rw[esz];obtain⟨t2,es2,L2,g1,g2',g3,g4,g5,g6⟩:=F1 (t:=t') (es:=YH es p (YY w i,.str i k)) hmo (by rw[esz];rcases hW with⟨h,h'⟩|⟨h,h'⟩<;>rw[h]<;>omega);rw[g1];dsimp only
   (refine UE (Yz (a:=()) rfl ?_))
   obtain⟨ns2,r1,r2⟩:=p2.perm g6.symm;have es2z:es2.size=ns'.length:=by rw[<-Vh,r2.length,r1.length_eq]
   refine UE (adj (s:={s with heap:=s.heap.update a (aez (YH es p (YY w i,.str i k)) t')}) hg rfl ?_ (by rw[es2z,V6];omega));have Tp:=Vy (aez es2 t2) hg rfl;refine UJ (UJ (q2 hm _ ns2 _ _ _ ((aak _ _ _).trans (aak _ _ _)) (p1.trans r1) ⟨Tp,⟨L2,g5⟩,g3.trans (f3.trans S.ld),?_,r2,r1.nodup_iff.mp nd'⟩));rw[<-r1.length_eq,g2'];rcases hW with⟨h,h'⟩|⟨h,h'⟩<;>rw[h,h']<;>omega
  ·rename_i c;simp only[aen,aaV]at c;unfold adG at c;rw[hfill,f1,decide_eq_true_eq]at c;exact UJ (UJ (q2 hm _ ns' _ _ _ (aak _ _ _) p1 ⟨hg,⟨L',T'⟩,f3.trans S.ld,by rw[f1];omega,p2,nd'⟩))
end
theorem gG.keep{w:Vj}{h h':VU}{a:UX}{led:Bool}{ns:131}{es:178}{ep:Nat}{t:VX}(S:gG w h a led ns es ep t)(e:∀o,h.get? a=some o->h'.get? a=some o):gG w h' a led ns es ep t:=
 ⟨e _ S.at_,S.tab,S.ld,S.rm,S.en,S.nd⟩
section
variable{w:Vj}{prog:U0}{R:aa6->UI->Prop}{A:Vw}{I:UX}{fp wr:List UX}{G:Array abU->Array abU->Prop}{n:Nat}{P:Nat->UH->Prop}{St:Nat->UI->Prop}
theorem Gs(W:WalksS prog w A.in1 I fp wr G n P St)(S:UX)(hSf:S∉fp)(val:Nat->Str)(hval:∀i v,P i v->∃t,v=.str (val i) t)(hn:(gc ((U8 n).map val)).length<76){led:Bool}:
  ∀(k i:Nat)(s:UI)(ns:131)(es:178)(ep:Nat)(t:VX),n-i=k->i<=n->St i s->gG w s.heap S led ns es ep t->(∀d,d∈ns↔d∈(U8 i).map val)->
   (∀s' ns' es' ep' t',Moved (S::wr) G s s'->gG w s'.heap S led ns' es' ep' t'->(∀d,d∈ns'↔d∈(U8 n).map val)->R (.ok (.ret .none)) s')->
   (WC 139 A (.builtin "set.update.loop" ⟨[.ref S,.ref I],[]⟩) R s):=by
 (have Su:S∉wr:=λh=>hSf (W.sub _ h))
 (have hsub:∀b∈wr,b∈S::wr:=λb hb=>UN _ hb)
 intro k
 induction k with
 |zero=>
  intro i s ns es ep t hk hi hst hS hm hR;have hin:i=n:=by omega
  subst hin;refine V9 YW ?_;rw[VE WG _]
  (show UZ _ A.in1 (YM (.ref I)>>=_) _ _ s)
  refine UE (W.done s _ _ hst λs' SS=>?_)
  (show UZ _ A.in1 (ret Wk) _ _ s')
  exact UJ (hR s' ns es ep t (SS.mono hsub) (hS.keep λo e=>SS.heap S o Su e) hm)
 |succ k ih=>
  intro i s ns es ep t hk hi hst hS hm hR;have hlt:i<n:=by omega
  have hlen:ns.length<76:=Xg (WA hS.nd λd hd=>(jg _ d).mpr (by
   obtain⟨j,hj,e⟩:=Vc.mp ((hm d).mp hd);exact Vc.mpr ⟨j,Vf.mpr (Wl (Vf.mp hj) hlt),e⟩)) hn
  refine V9 YW ?_;rw[VE WG _]
  (show UZ _ A.in1 (YM (.ref I)>>=_) _ _ s)
  refine UE (W.item i s _ _ hlt hst λv s' hP S7 SS=>?_);obtain⟨tk,rfl⟩:=hval i v hP;have hS':=hS.keep (h':=s'.heap) λo e=>SS.heap S o Su e;have mem':∀(ns':131),(∀d,d∈ns'↔d=val i\/d∈ns)->∀d,d∈ns'↔d∈(U8 (i+1)).map val:=λns' h d=>by rw[h d,hm d,adY,VB,Vk];simp only[Vl,ado,UM];exact Or.comm
  show UZ _ A.in1 (holding [.str (val i) tk] (setAdd S (.str (val i) tk))>>=_) _ _ s'
  (refine UE (VG ?_))
  unfold setAdd;refine VG ?_
  (refine UE (aa4 ?_))
  refine AH (s:={s' with toks:=s'.toks+1}) hS' hlen (λhin=>?_) (λhin h' ns' es' ep' t' S9 S5 Td=>?_)
  ·refine UJ ⟨Wj WG _,ih (i+1) _ ns es ep t 112 hlt (W.frame _ s' _ _ S7 (Xh _) λb hb o e=>e) hS' (mem' ns λd=>⟨.inr,λh=>h.elim (λh=>h▸hin) id⟩) λs'' ns'' es'' ep'' t'' hm'' hS'' Tu=>?_⟩;exact hR s'' ns'' es'' ep'' t'' (afA W.gtrans ((SS.mono hsub).then_heap (Xh _) λb o hb e=>e) hm'') hS'' Tu
  ·refine UJ ⟨Wj WG _,ih (i+1) _ ns' es' ep' t' 112 hlt (W.frame _ s' _ _ S7 (Xh _) λb hb o e=>?_) Td (mem' ns' λd=>?_) λs'' ns'' es'' ep'' t'' hm'' hS'' Tu=>?_⟩
   ·(rw[S9.2 b (λh:b=S=>hSf (by rw[<-h];exact hb))];exact e)
   ·rw[<-S5.mem_iff,UR]
   ·refine hR s'' ns'' es'' ep'' t'' (afA W.gtrans ((SS.mono hsub).then_heap (Xh _) λb o hb e=>?_) hm'') hS'' Tu
    (rw[S9.2 b (λh:b=S=>hb (by rw[h];exact UO))];exact e)
end
theorem ux{w:Vj}{h:VU}{a:UX}{led:Bool}(e:h.get? a=some {cls:=.type "set",dict:=none,data:=.set #[] 0 (.fresh 0 0 led)}):gG w h a led [] #[] 0 (.fresh 0 0 led):=
 ⟨e,⟨[],⟨rfl,rfl,rfl,Zv,(λ_ h=>nomatch h),.inl rfl,Vb _,(λ_ h=>nomatch h)⟩⟩,rfl,(show 0*5<7*3 by decide),.nil,XR⟩
section
variable{w:Vj}{prog:U0}{A:Vw}{s:UI}{E:UH->UI->Prop}{l:UX}{items:Array UH}{ds:List Str}
theorem E8(hz:items.size=ds.length)(hi:∀(i:Nat)(v:UH),items[i]?=some v->∃t,v=.str (ds.getD i "") t)(hn:(gc ds).length<76){I:UX}{fp:List UX}{St:Nat->UI->Prop}{h2:VU}{R:_->UI->Prop}(W:WalksS prog w A.in1.in1.in1 I fp [I] (λa b=>b=a) items.size (λi v=>items[i]?=some v) St)(hSf:s.heap.objs.size∉fp)(st:St 0 {s with heap:=h2})
  (hk:∀b o,(s.heap.push (fV (dH w))).get? b=some o->h2.get? b=some o) (hR:∀s',Moved [s.heap.objs.size,I] (λa b=>b=a) {s with heap:=h2} s'->(∃ks es ep t,gG w s'.heap s.heap.objs.size (dH w) ks es ep t/\∀d,d∈ks↔d∈ds)->R (.ok (.ret .none)) s'):WC 139 A.in1.in1 (.builtin "set.update.loop" ⟨[.ref s.heap.objs.size,.ref I],[]⟩) R {s with heap:=h2}:=by
 have all:(U8 items.size).map (λi=>ds.getD i "")=ds:=by refine YX (by simp[hz]) λi a b=>?_;simp[b]
 exact Gs (A:=A.in1.in1) (led:=dH w) W s.heap.objs.size hSf (λi=>ds.getD i "") hi (by rw[all];exact hn) items.size 0 _ [] #[] 0 (.fresh 0 0 (dH w)) 112 (Vb _) st (ux (hk _ _ (US _ rfl))) (λd=>by simp) λs' ks es ep t hm hS' hmem=>hR s' hm ⟨ks,es,ep,t,hS',by rw[all]at hmem;exact hmem⟩
abbrev P6(Q:136)(w:Vj)(s:UI)(ds:131):Prop:=∀(h':VU)(tk:Nat) ks es ep t,gG w h' s.heap.objs.size (dH w) ks es ep t->(∀d,d∈ks↔d∈ds)->(∀b o,b<s.heap.objs.size->s.heap.get? b=some o->h'.get? b=some o)->Q 236 {s with heap:=h',toks:=tk}
theorem Mq{Q:136}(hh:A.handled=none)(hl:s.heap.IsTuple l items)(hz:items.size=ds.length)(hi:∀(i:Nat)(v:UH),items[i]?=some v->∃t,v=.str (ds.getD i "") t)(hn:(gc ds).length<76)(h:P6 Q w s ds):(UZ 139 A (call (.type "set") [.ref l]) Q E s):=by obtain⟨ol,Sz,hcl,_⟩:=id hl;exact zK (λh'=>∃ks es ep t,gG w h' s.heap.objs.size (dH w) ks es ep t/\∀d,d∈ks↔d∈ds) Sz hcl Gh Gg 120 (Hg hh hl) (λW a _ c d e=>E8 hz hi hn W a c d e) λh' tk ⟨ks,es,ep,t,a,b⟩=>h h' tk ks es ep t a b
theorem zM{Q:136}(hh:A.handled=none)(hl:s.heap.IsList l items)(hz:items.size=ds.length)(hi:∀(i:Nat)(v:UH),items[i]?=some v->∃t,v=.str (ds.getD i "") t)(hn:(gc ds).length<76)(h:P6 Q w s ds):(UZ 139 A (call (.type "set") [.ref l]) Q E s):=by obtain⟨ol,Sz,hcl,_⟩:=id hl;exact zK (λh'=>∃ks es ep t,gG w h' s.heap.objs.size (dH w) ks es ep t/\∀d,d∈ks↔d∈ds) Sz hcl EX EW 120 (KP hh hl) (λW a _ c d e=>E8 hz hi hn W a c d e) λh' tk ⟨ks,es,ep,t,a,b⟩=>h h' tk ks es ep t a b
end
section
variable{prog:U0}{w:Vj}{A:Vw}{E:UH->UI->Prop}{s:UI}
theorem wp_choose{M:ab8}{src:Source}{n:Nat}{Q:Nat->UI->Prop}(hn:n≠0)(h:∀i dr,i<n->Q i {s with drawn:=dr}):UZ M A (choose src n) Q E s:=fun Γ p hΓ=>by show n≠0/\_;exact⟨hn,h _ _ (aaK _ (Nat.pos_of_ne_zero hn))⟩
theorem AY{α:Type}{M:ab8}:∀(n:Nat)(xs:List α)(s:UI)(Q:List α->UI->Prop),xs.length=n->(∀l dr,l.Perm xs->Q l {s with drawn:=dr})->UZ M A (drawOrder n xs) Q E s
 |0,xs,s,Q,hn,h=>by have:xs=[]:=aaZ.mp hn;subst this;exact UJ (h [] s.drawn (.refl _))
 |n+1,[],s,Q,hn,h=>by cases hn
 |n+1,x::xs,s,Q,hn,h=>by
  show UZ _ _ (choose Source.order (x::xs).length>>=_) _ _ s;refine UE (wp_choose 229 λi dr hi=>?_);have e:(x::xs)[i]?=some (x::xs)[i]:=U3 hi;rw[e];dsimp only;refine UE (AY n ((x::xs).eraseIdx i) _ _ (by rw[ab0,if_pos hi];omega) λl dr' p=>UJ ?_);refine h _ dr' ((p.cons _).trans ?_);have e1:(x::xs).eraseIdx i=(x::xs).take i++(x::xs).drop (i+1):=Zz _ _;have e2:(x::xs)=(x::xs).take i++(x::xs)[i]::(x::xs).drop (i+1):=by rw[abm,WM]
  rw[e1];exact(aa9.symm).trans (abN e2.symm)
structure kC(h:VU)(a:UX)(es:178)(ep:Nat)(t:VX):Prop where
 at_:h.get? a=some {cls:=.type "set",dict:=none,data:=.set es ep t}
 tab:∃L,Tab t es L
 pl:t.plain=false
 two:1<es.size
theorem kC.keep{h h':VU}{a:UX}{es:178}{ep:Nat}{t:VX}(S:kC h a es ep t)(e:∀o,h.get? a=some o->h'.get? a=some o):kC h' a es ep t:=⟨e _ S.at_,S.tab,S.pl,S.two⟩
abbrev yT(a T:UX)(i n ep:Nat):Obj:={cls:=.type "set_iterator",data:=.fields #[.ref T,.int i 0,.ref a,.int n 0,.int ep 0]}
abbrev uG(os:249):Obj:={cls:=.type "tuple",data:=.seq (os.map λ(i:Nat)=>abv i).toArray}
theorem CM{a:UX}{es:178}{ep:Nat}{t:VX}{Q:136}(hw:w.params.followText "set-order"=false)(S:kC s.heap a es ep t)(hz:es.size<=76)
  (hQ:∀(os:249) dr,os.Perm (U8 es.size)->Q (.ref 155) {s with heap:=(s.heap.push (uG os)).push (yT a s.heap.objs.size 0 es.size ep),drawn:=dr}):UZ 139 A (aa5 307) Q E s:=by
 obtain⟨L,T⟩:=S.tab;have hT:s.TypeIs 307 "set":=⟨_,S.at_,rfl⟩;refine ZA hT aai (V3 aai hT lz ?_ (adg _));show UZ _ _ (X8 a>>=_) _ _ s;unfold X8;refine UE (UE (Xx S.at_ rfl (cZ T) (UJ ?_)));unfold setDrawn abW;refine UE (UE (X_ S.at_ rfl (cZ T) (UE (UE (WZ (UJ (UJ ?_)))))));dsimp only;refine uI (show(!w.params.followText "set-order" && (!t.plain&&decide (es.size>1)))=true by rw[hw,S.pl,decide_eq_true S.two];rfl) ?_;refine UE (AY es.size (U8 es.size) s _ (V_ ..) λos dr pm=>?_);have lo:os.length=es.size:=by rw[pm.length_eq,V_]
 refine UE (wpAny_newTuple ?_ (by rw[UL,lo,V6];omega));have S1:kC (s.heap.push (uG os)) a es ep t:=S.keep λo e=>UK _ e;refine UE (adh S1.at_ rfl (cZ T) ?_);refine UE (Vn ?_);have z1:(s.heap.push (uG os)).objs.size=s.heap.objs.size+1:=Wi _ _;have q:=hQ os dr pm;rw[<-z1]at q;exact UJ ⟨_,rfl,"set_iterator",_,⟨_,US _ rfl,rfl⟩,cT.lookup,q⟩
theorem Dc{I a T:UX}{es:178}{ep:Nat}{t:VX}{os:249}{i:Nat}{Q:Option UH->UI->Prop}(S:kC s.heap a es ep t)(hI:s.heap.get? I=some (yT a T i es.size ep))(SY:s.heap.get? T=some (uG os))(pm:os.Perm (U8 es.size))(hi:i<es.size)
  (hQ:∀h' k e,os[i]?=some k->es[k]?=some e->h'.get? I=some (yT a T (i+1) es.size ep)->WN I s.heap h'->Q (some e.2) {s with heap:=h'}):UZ 139 A (YM (.ref I)) Q E s:=by
 obtain⟨L,TT⟩:=S.tab;have lo:os.length=es.size:=by rw[pm.length_eq,V_]
 have hk:os[i]?=some (os[i]' 112):=U3 112;generalize (os[i]' 112)=k at hk;have kl:k<es.size:=Vf.mp (pm.mem_iff.mp (XU hk));have ek:es[k]?=some es[k]:=WE kl;have hT:s.TypeIs (.ref I) "set_iterator":=⟨_,hI,rfl⟩;unfold YM;refine UE (Zg (Wt (name:=Y7 "__next__") hT cT (V3 cT hT iC ?_ (iR _))));show UZ _ _ (aeS (.ref I)>>=_) _ _ s;refine UE (aay hI rfl ?_);dsimp only;refine UE (Xx S.at_ rfl (cZ TT) ?_);simp only[bne_self_eq_false,VM,if_false,W4];refine UE (XS SY rfl ?_);have ip:(os.map λ(i:Nat)=>abv i).toArray[i]?=some (.int k 0):=by rw[abQ,Vi,hk];rfl
 dsimp only;rw[ip];dsimp only;unfold setNextDrawn;refine UE (UE (X_ S.at_ rfl (cZ TT) ?_));simp only[bne_self_eq_false,VM,if_false,W4];rw[ek];refine UJ ?_;refine UE (XN hI 229 λh1 g1 b1=>?_);exact UJ ⟨_,rfl,UJ (hQ h1 k _ hk ek (g1.trans (by simp[abv])) b1)⟩
theorem Et{I a T:UX}{es:178}{ep:Nat}{t:VX}{os:249}{Q:Option UH->UI->Prop}(hh:A.handled=none)(S:kC s.heap a es ep t)(hI:s.heap.get? I=some (yT a T es.size es.size ep))(SY:s.heap.get? T=some (uG os))(pm:os.Perm (U8 es.size))
  (hQ:∀h',afy I s.heap h'->Q none {s with heap:=h'}):UZ 139 A (YM (.ref I)) Q E s:=by
 obtain⟨L,TT⟩:=S.tab;have lo:os.length=es.size:=by rw[pm.length_eq,V_]
 have hT:s.TypeIs (.ref I) "set_iterator":=⟨_,hI,rfl⟩;unfold YM;refine UE (Zg (Wt (name:=Y7 "__next__") hT cT (V3 cT hT iC ?_ (iR _))));show UZ _ _ (aeS (.ref I)>>=_) _ _ s;refine UE (aay hI rfl ?_);dsimp only;refine UE (Xx S.at_ rfl (cZ TT) ?_);simp only[bne_self_eq_false,VM,if_false,W4];refine UE (XS SY rfl ?_);have ip:(os.map λ(i:Nat)=>abv i).toArray[es.size]?=none:=by rw[abQ,List.getElem?_eq_none_iff,UL,lo];exact UW _
 dsimp only;rw[ip];dsimp only;refine UE (XN hI 229 λh0 g0 b0=>?_);refine UE (XN (s:={s with heap:=h0}) g0 229 λh1 g1 b1=>?_);refine UE ?_;simp only[newExc,newTuple]
 (refine UE (Vn ?_ (by size_fits)))
 (refine UE (m:=aaz _ _) (Yz (a:=Wk) (by first|rfl|(simp only[aaz];rfl)) ?_))
 (refine Vn ?_ (by size_fits))
 simp only[raiseNew]
 (refine UE (aeT ?_))
 (first|rw[show A.in1.handled=none from hh]|rw[hh])
 (refine UE (UJ (wpAny_throw ?_)))
 (refine UE (aba (T:="StopIteration") (b:=true) ⟨_,US _ rfl,rfl⟩ aem ?_))
 exact UJ (hQ _ (((b0.trans b1).extBut.push _).push _))
def sW(es:178)(os:249):List UH:=os.filterMap λk=>es[k]?.map (·.2)
theorem MZ{es:178}{os:249}(pm:os.Perm (U8 es.size)){i k:Nat}{e:Int×UH}(h1:os[i]?=some k)(h2:es[k]?=some e):(sW es os)[i]?=some e.2:=by
 have:sW es os=os.map λk=>(es.getD k default).2:=by
  unfold sW;have key:∀l:List Nat,(∀k∈l,k<es.size)->(l.filterMap λk=>es[k]?.map (·.2))=l.map λk=>(es.getD k default).2:=λl=>by
   induction l with
   |nil=>intro _;rfl
   |cons a l ih=>
    intro h;have ha:=h a UO;rw[aaM (b:=(es.getD a default).2) (by rw[WE ha];simp[Xf,ha]),Vl,ih λk hk=>h k (UN _ hk)]
  exact key os λk hk=>Vf.mp (pm.mem_iff.mp hk)
 rw[this,Vi,h1];obtain⟨hk,rfl⟩:=VD.mp h2;simp[Xf,hk]
theorem yH{es:178}{os:249}(pm:os.Perm (U8 es.size)):(sW es os).Perm (es.toList.map (·.2)):=by refine(pm.filterMap _).trans (abN ?_);have:=filterMap_getElem?_range es;rw[<-this,List.map_filterMap]
theorem Az(hh:A.handled=none)(I a T:UX)(hne:a≠I)(hnt:T≠I){es:178}{ep:Nat}{t:VX}{os:249}(pm:os.Perm (U8 es.size)):
  afV prog w A I [I,a,T] [I] es.size (λi v=>(sW es os)[i]?=some v) (λi h=>h.get? I=some (yT a T i es.size ep)/\h.get? T=some (uG os)/\kC h a es ep t) where
 sub:=λ_ hb=>by simp at hb;simp[hb]
 frame:=λ_ _ _ ⟨h1,h2,h3⟩ hk=>⟨hk I 229 _ h1,hk T 229 _ h2,h3.keep λo e=>hk a 229 o e⟩
 item:=λi s Q E hi ⟨h1,h2,h3⟩ hQ=>by
  refine Dc h3 h1 h2 pm hi λh' k e q1 q2 q3 q4=>?_;refine hQ e.2 h' s.toks (MZ pm q1 q2) ⟨q3,?_,h3.keep λo e=>?_⟩ λb o hb e=>?_
  ·rw[q4.2 T hnt];exact h2
  ·rw[q4.2 a hne];exact e
  ·exact q4.extBut b o (λh=>hb (by simp[h])) e
 done:=λs Q E ⟨h1,h2,h3⟩ hQ=>Et hh h3 h1 h2 pm λh' he=>hQ h' s.toks λb o hb e=>he b o (λh=>hb (by simp[h])) e
 self:=λi s Q E ⟨h1,h2,h3⟩ hQ=>by have hT:s.TypeIs (.ref I) "set_iterator":=⟨_,h1,rfl⟩;refine ZA hT iX (V3 iX hT nU ?_ (oB _));show UZ _ _ (ret (.ref I)) _ _ s;exact UJ ⟨_,rfl,"set_iterator",_,hT,cT.lookup,hQ⟩
theorem wY{a:UX}{es:178}{ep:Nat}{t:VX}{Q:List UH->UI->Prop}(hw:w.params.followText "set-order"=false)(hh:A.handled=none)(S:kC s.heap a es ep t)(hn:es.size<=76)
  (hQ:∀(os:249)(dr:afN)(h':VU)(tk:Nat),os.Perm (U8 es.size)->(∀b o,s.heap.get? b=some o->h'.get? b=some o)->s.heap.objs.size<h'.objs.size->Q (sW es os) {s with heap:=h',toks:=tk,drawn:=dr}):UZ 139 A (collect 307) Q E s:=by
 have ha:a<s.heap.objs.size:=UY S.at_;unfold collect
 (refine UE (ab7 (V9 abO ?_)))
 (rw[VE abP _])
 show UZ _ A.in1 (newList []>>=λl=>again (.builtin "list.__iadd__" ⟨[l,.ref a],[]⟩)) _ _ s
 (refine UE (Vn ?_))
 (refine UJ ⟨Wj ZC _,V9 adi ?_⟩)
 (rw[VE ZC _])
 generalize Tr:({cls:=.type "list",data:=.seq ([]:List UH).toArray}:Obj)=l0;have S1:kC (s.heap.push l0) a es ep t:=S.keep λo e=>UK _ e;have hT1:Zn {s with heap:=s.heap.push l0} 307 "set":=⟨_,S1.at_,rfl⟩;show UZ _ A.in1 (Xy 236 307 236) _ _ _
 (unfold Xy)
 refine UE (Yw hT1 ?_);have h1:aaN 236 307=false:=by show(s.heap.objs.size==a)=false;exact beq_eq_false_iff_ne.mpr (WX ha)
 have h2:(XY "set" == XY "list")=false:=by decide
 have h3:(XY "set" == XY "tuple")=false:=by decide
 (simp only[h1,h2,h3,aaR,VM,if_false])
 refine UE (CM hw S1 hn λos dr pm=>?_)
 (refine UE (VG ?_))
 have z1:(s.heap.push l0).objs.size=s.heap.objs.size+1:=Wi _ _;rw[z1];have z2:((s.heap.push l0).push (uG os)).objs.size=s.heap.objs.size+1+1:=by rw[Wi,z1]
 obtain⟨hp,ehp⟩:∃hp,hp=((s.heap.push l0).push (uG os)).push (yT a 155 0 es.size ep):=⟨_,rfl⟩;rw[<-ehp];have kp:∀b o,(s.heap.push l0).get? b=some o->hp.get? b=some o:=λb o e=>by rw[ehp];exact UK _ (UK _ e)
 have S2:kC hp a es ep t:=S1.keep λo e=>kp _ o e;have hT2:Zn {s with heap:=hp,drawn:=dr} 307 "set":=⟨_,S2.at_,rfl⟩;refine yQ hT2 ?_;refine uI 180 ?_
 (refine UE (ZY ?_))
 subst Tr;have hI:hp.get? (s.heap.objs.size+1+1)=some (yT a 155 0 es.size ep):=by rw[ehp,<-z2];exact US _ rfl
 have SY:hp.get? 155=some (uG os):=by rw[ehp,<-z1];exact UK _ (US _ rfl)
 have hS₁:hp.get? s.heap.objs.size=some {cls:=.type "list",data:=.seq ([]:List UH).toArray}:=kp _ _ (US _ rfl);refine UE ?_
 (show UZ _ A.in1 (aad s.heap.objs.size (·.push .none)>>=λ_=>aad s.heap.objs.size (·.pop)) _ _ _)
 (refine UE (Wm hS₁ rfl ?_))
 (have hS₂:=Vy (XD (·.push Wk)) hS₁ rfl)
 (refine Wm hS₂ rfl ?_)
 (have hS₃:=Vy (XD (·.pop)) hS₂ rfl)
 have oth:∀b o,b≠s.heap.objs.size->hp.get? b=some o->((hp.update s.heap.objs.size (XD (·.push Wk))).update s.heap.objs.size (XD (·.pop))).get? b=some o:=
  (λb o hb e=>(U_ _ _ (VF hb)).trans ((U_ _ _ (VF hb)).trans e))
 have l1:s.heap.objs.size<s.heap.objs.size+1:=VS _;have l2:s.heap.objs.size+1<s.heap.objs.size+1+1:=VS _;have hne:a≠s.heap.objs.size+1+1:=U4 (Wl (Wl ha l1) l2);have hSf:s.heap.objs.size∉[s.heap.objs.size+1+1,a,s.heap.objs.size+1]:=by simp only[UR,VA,or_false,not_or];exact⟨U4 (Wl l1 l2),WX ha,U4 l1⟩
 obtain⟨L,T⟩:=S.tab;refine UJ ⟨Wj acg _,ab1 ((Az (A:=A.in1) (prog:=prog) (w:=w) (es:=es) (ep:=ep) (t:=t) hh (s.heap.objs.size+1+1) a 155 hne (U4 l2) pm).toS) (by rw[V6];omega) _ hSf _ es.size 0 _ _ _ rfl (Vb _)
  ⟨oth _ _ (WX (Wl l1 l2)) hI,oth _ _ (WX l1) SY,S2.keep λo e=>oth _ _ (U4 ha) e⟩ hS₃ (afz _) λs' acc' c' hm hS' hacc=>?_⟩
 (show UZ _ A (load s.heap.objs.size>>=_) _ _ s')
 (refine UE (aer hS' ?_))
 have eacc:acc'.toList=sW es os:=by
  obtain⟨z,q⟩:=hacc;have lw:(sW es os).length=es.size:=by rw[(yH pm).length_eq,UL,Vh]
  refine YX (by rw[Vh,z,lw]) λi x1 x2=>?_;have this:(sW es os)[i]?=some (acc'[i]'(by simpa using x1)):=q i _ (WE (by simpa using x1));rw[U3 x2]at this
  (exact(Ve this).symm)
 refine UJ ?_;rw[eacc]
 (obtain⟨h',g',d',tk',os'⟩:=s')
 (have eg:g'=s.gens:=hm.gens)
 (have ed:d'=dr:=hm.drawn)
 have eo:os'=s.os:=hm.os;subst eg;subst ed;subst eo;refine hQ os d' h' tk' pm (λb o e=>?_) (UY hS');have lb:=UY e;refine hm.heap b o ?_ (oth b o (U4 lb) (kp _ _ (UK _ e)));simp only[UR,VA,or_false,not_or];exact⟨U4 lb,U4 (Wl (Wl lb l1) l2)⟩
theorem Dv{x:UH}{ks:131}{Q:136}(h64:ks.length<64)(Tf:∀(E:136)(C:List UH->UI->Prop),(∀vs ss dr h1 tk,aaw vs ss->ss.Perm ks->Kp s.heap h1->s.heap.objs.size<=h1.objs.size->C vs {s with heap:=h1,toks:=tk,drawn:=dr})->UZ 139 A.in1 (collect x) C E s)
  (h:∀h' tk dr l n (out:Array UH) ss',aaw out.toList ss'->ss'.Perm ks->sortedS ss'=true->Kp s.heap h'->s.heap.objs.size<=l->h'.get? l=some (afI "list" out n)->Q (.ref l) {s with heap:=h',toks:=tk,drawn:=dr}):UZ 139 A (call (.builtin "sorted") [x]) Q E s:=by
 refine Calls.call_function_entry kind_sorted plain_sorted entry_sorted (args_sorted1 _) ?_;unfold Ze.«sorted»;refine UE (m:=checkCount "sorted" 1 1 _) (UJ ?_);refine UE (Tf _ _ λvs ss dr h1 tk hS pm k1 le1=>?_);have lv:vs.length<64:=by
  have e:vs.length=ss.length:=by
   clear pm
   induction hS with
   |nil=>rfl
   |cons x t _ ih=>simp[ih]
  rw[e,pm.length_eq];exact h64
 refine UE (wpAny_newList ?_ (by rw[V6];omega));have gL:(h1.push (afI "list" vs.toArray 0)).get? h1.objs.size=some (afI "list" vs.toArray 0):=US _ rfl;refine UE (VG (V3 slot_list_sort ⟨_,gL,rfl⟩ entry_list_sort (list_sort_treeK strKind_oneLt gL hS.keysOf (λv₁ v₂ rest e=>keyKind_strs (by rw[<-e];exact hS)) lv λst' a1 a2=>⟨_,rfl,?_⟩) (args_list_sort _)));obtain⟨ss',b1,b2,b3⟩:=sorted_out_str hS a1 a2;obtain⟨n,hn⟩:=sortedHeap_at (out:=(arrOf st').map (·.2)) gL;refine UJ ⟨_,rfl,h _ tk dr _ n _ ss' b1 (b2.trans pm) b3 (λb o e=>?_) le1 hn⟩;have e1:=k1 b o e;rw[sortedHeap_old (U4 (UY e1)) (UY (UK _ e1))];exact UK _ e1
theorem fM.are{es:List (Int×UH)}{ns:131}(h:fM w es ns):aaw (es.map (·.2)) ns:=by
 induction h with
 |nil=>exact .nil
 |cons _ ih=>exact .cons _ _ ih
theorem aaw.perm{vs vs':List UH}(p:vs.Perm vs'):∀{ss:131},aaw vs ss->∃ss',ss'.Perm ss/\aaw vs' ss':=by
 induction p with
 |nil=>intro ss h;exact⟨ss,.refl _,h⟩
 |cons x _ ih=>
  intro ss h;cases h with
  |cons a t h=>obtain⟨ss',p,q⟩:=ih h;exact⟨_,p.cons _,.cons _ _ q⟩
 |swap x y l=>
  intro ss h;cases h with
  |cons a t h=>cases h with
   |cons b u h=>exact⟨_,.swap _ _ _,.cons _ _ (.cons _ _ h)⟩
 |trans _ _ ih1 ih2=>
  intro ss h;obtain⟨s1,p1,q1⟩:=ih1 h;obtain⟨s2,p2,q2⟩:=ih2 q1;exact⟨s2,p2.trans p1,q2⟩
theorem Aj{a:UX}{ks:131}{es:178}{ep:Nat}{t:VX}{C:List UH->UI->Prop}(hh:A.handled=none)(S:gG w s.heap a (dH w) ks es ep t)(hn:ks.length<=76)
  (hC:∀vs ss dr h1 tk,aaw vs ss->ss.Perm ks->Kp s.heap h1->s.heap.objs.size<=h1.objs.size->C vs {s with heap:=h1,toks:=tk,drawn:=dr}):UZ 139 A (collect 307) C E s:=by
 have hes:es.size=ks.length:=by rw[<-Vh,S.en.length]
 by_cases c:dH w=true/\(!t.plain&&decide (es.size>1))=true
 ·obtain⟨c1,c2⟩:=c;rw[Vg]at c2;refine wY (by cases q:w.params.followText "set-order" with
   |true=>rw[show dH w=!w.params.followText "set-order" from rfl,q]at c1;cases c1
   |false=>rfl) hh (t:=t) (ep:=ep) ⟨S.at_,S.tab,by simpa using c2.1,by simpa using c2.2⟩ 112 λos dr h1 tk pm k1 le=>?_
  obtain⟨ss,p1,q1⟩:=aaw.perm (yH pm).symm S.en.are;exact hC _ ss dr h1 tk q1 p1 k1 (ZG le)
 ·refine Ai hh (t:=t) (ep:=ep) (es:=es) ⟨S.at_,S.tab,λz=>?_,S.ld⟩ 112 λh1 tk k1 le=>?_
  ·cases q:(!t.plain&&decide (es.size>1))with
   |true=>exact(c ⟨z,q⟩).elim
   |false=>rfl
  ·obtain⟨ss,p1,q1⟩:=aaw.perm (vs':=lP w a ep es) ((q_ w a ep es).symm.map (·.2)) S.en.are;exact hC _ ss s.drawn h1 tk q1 p1 k1 (ZG le)
end
theorem EM{X:Cx}{Ux:143}{σ:L2.St}{H:Hp}{s:UI}(I:135)(dr:afN):Inv X Ux σ H {s with drawn:=dr}:=⟨I.ok,I.os,I.bare,I.base,I.loc,I.cell,I.free,I.freeC,I.pin,I.hok,I.len⟩
abbrev jx(w:Vj)(a:UX)(ns:131):HO:=.ext λh=>∃ks es ep t,gG w h a (dH w) ks es ep t/\∀d,d∈ks↔d∈ns
section
variable{X:Cx}
theorem r_{H:Hp}{h:VU}{a:UX}{ns ks:131}{es:178}{ep:Nat}{t:VX}(S:gG X.w h a (dH X.w) ks es ep t)(hm:∀d,d∈ks↔d∈ns):cB X.prog X.w H h a (jx X.w a ns):=
 ⟨⟨ks,es,ep,t,S,hm⟩,⟨_,S.at_⟩,λh1 h2 ⟨ks,es,ep,t,S,hm⟩ e=>⟨ks,es,ep,t,S.keep e,hm⟩⟩
theorem Af(hc:X.calm=true):fc X (.builtin "sorted") (λxs H Q=>∃p ns,xs=[.ref p]/\H p=some (jx X.w p ns)/\(gc ns).length<64/\∀l,H l=none->Q (.ref l) (upd H l (.lst ((fL (gc ns)).map V.str)))):=by
 intro Ux s σ H xs us Q I r h;obtain⟨p,ns,rfl,hp,l64,q⟩:=h;obtain⟨u,rfl,rx⟩:=vals1 r;cases rx;have hh:X.A.handled=none:=I.ok.hd hc;obtain⟨⟨ks,es,ep,t,S,hm⟩,_⟩:=(show cB X.prog X.w H s.heap p (jx X.w p ns)from I.hok p _ hp);have pm:ks.Perm (gc ns):=(YK S.nd (sU ns)).mpr λd=>by rw[hm d,jg]
 have len:=pm.length_eq;refine Dv (ks:=ks) 112 (λE C k=>Aj hh S 112 k) λh' tk dr l n out ss' a1 a2 a3 kp hl hg=>?_;have e:=uC (a2.trans pm) a3;subst e;have lo:(fL (gc ns)).length=ks.length:=a2.length_eq;exact⟨.ref l,_,(EM I dr).laid (t':=tk) kp hl (show cB X.prog X.w _ _ _ (.lst ((fL (gc ns)).map V.str))from⟨by rw[UL,lo,V6];omega,out.toList,n,pI a1,by simpa[afI]using hg⟩),rfl,q l (I.hok.fresh hl)⟩
theorem OD{K:UG}{J:Hp}{ms:131}{us:List UH}(rv:Vals (ms.map V.str) us):∀(i:Nat)(v:UH),us.toArray[i]?=some v->∃t,v=.str (ms.getD i "") t:=λi v q=>by
 have l1:ms.length=us.length:=by have:=rv.length;rwa [UL]at this
 have hi:i<us.length:=by have:=(VD.mp q).1;simpa using this
 have e:us.getD i Wk=v:=by simp at q;simp[afX,q]
 have r2:=IF rv (i:=i) (by rw[UL];omega);rw[e]at r2;have e2:(ms.map V.str).getD i V.non=.str (ms.getD i ""):=by simp[afX,show i<ms.length by omega]
 rw[e2]at r2;exact r2
theorem Ej(hc:X.calm=true):fc X (.type "set") (λxs H Q=>∃p ms,xs=[.ref p]/\cY X.K H p (ms.map V.str)/\(gc ms).length<64/\∀l,H l=none->Q (.ref l) (upd H l (jx X.w l ms))):=by
 intro Ux s σ H xs us Q I r h;obtain⟨p,ms,rfl,hq,l64,q⟩:=h;obtain⟨u,rfl,rx⟩:=vals1 r;cases rx;have hh:X.A.handled=none:=I.ok.hd hc;have fr:H s.heap.objs.size=none:=I.hok.fresh (UW _);obtain⟨Uy,r',pl,hz⟩:=I.list hq;have lm:Uy.length=ms.length:=by have:=r'.length;rw[UL]at this;exact this.symm
 refine zM hh pl.isList (by simp[lm]) (OD (K:=X.K) (J:=H) r') 112 λh' tk ks es ep t S hm kp=>?_;exact⟨.ref s.heap.objs.size,_,I.laid (t':=tk) (λb o e=>kp b o (UY e) e) (UW _) (r_ S hm),rfl,q _ fr⟩
end
end DL
namespace DL
open PySem PySem.Spec PyProof.Rows L2 ST DX
theorem Ea:Wy "set"=some (.type "set"):=by decide +kernel
section
variable{prog:U0}{w:Vj}{A:Vw}{E:UH->UI->Prop}{s:UI}
theorem Ed{a:UX}{es:178}{ep:Nat}{t:VX}{led:Bool}{ns:131}{x:Str}{k:Tok}{Q:136}(S:gG w s.heap a led ns es ep t)(hl:ns.length<76)
  (h:∀(h':VU) ns' es' ep' t',WN a s.heap h'->(∀d,d∈ns'↔d=x\/d∈ns)->gG w h' a led ns' es' ep' t'->Q .none {s with heap:=h',toks:=s.toks+1}):UZ 139 A (call (.builtin "set.add") [.ref a,.str x k]) Q E s:=by
 refine V3 F.slot_set_add ⟨_,S.at_,rfl⟩ F.entry_set_add ?_ (F.args_set_add_2 _ _);unfold Ze.«set.add» aeb;simp only[List.isEmpty_nil,bind_assoc];unfold aeA setAdd;refine UE (UJ ?_)
 try dsimp only
 refine UE (UJ ?_)
 try dsimp only
 refine UE ?_;refine VG ?_;refine UE (aa4 ?_);refine AH (s:={s with toks:=s.toks+1}) S hl (λhin=>?_) (λhin h' ns' es' ep' t' S9 S5 Td=>?_)
 ·show UZ _ _ (ret Wk) _ _ _;exact UJ ⟨_,rfl,h s.heap ns es ep t (ac_ ..) (λd=>⟨.inr,λz=>z.elim (λz=>z▸hin) id⟩) S⟩
 ·show UZ _ _ (ret Wk) _ _ _;exact UJ ⟨_,rfl,h h' ns' es' ep' t' S9 (λd=>by rw[<-S5.mem_iff,UR]) Td⟩
end
noncomputable def isLet(x:Str):Bool:=match x.cps.toList with
 |[c]=>decide (97<=c)&&decide (c<123)
 |_=>false
def IX:List Str:=(U8 26).map λk=>⟨#[97+k]⟩
theorem ER{x:Str}(h:isLet x=true):x∈IX:=by
 unfold isLet at h;split at h
 ·rename_i c hc;rw[Vg,decide_eq_true_eq,decide_eq_true_eq]at h;refine Vc.mpr ⟨c-97,Vf.mpr 112,?_⟩;rw[show 97+(c-97)=c by omega];cases x;congr 1;exact adE.mp hc.symm
 ·cases h
theorem vf{ns:131}(nd:ns.Nodup)(h:∀x∈ns,isLet x=true):ns.length<=26:=by have:=WA nd λx hx=>ER (h x hx);unfold IX at this;simpa using this
noncomputable def uR(ge:G R):Ev->M (List D×Ev):=λe=>ge e>>=λr=>match r with
 | .d (.str x)=>if isLet x=true then .ok ([.str x],e)else .bad
 |_=>.bad
def B4(w:Vj)(p:UX):Hp->Hp->List D->Prop:=λJ H ys=>∃ns,ys=ns.map .str/\(∀x∈ns,isLet x=true)/\H p=some (jx w p ns)/\J p=none
theorem GD{w:Vj}{p:UX}:xN (B4 w p):=⟨fun {J H J' H' ys} ⟨ns,h0,h1,h2,h3⟩ e=>⟨ns,h0,h1,e.h _ _ h2,e.frz _ (by rw[h2];intro z;cases z) h3⟩⟩
abbrev GG(elt:VC)(p:UX)(env:Env):Sem Unit:=do let v <-eval elt env;Ye elt.pos;let _ <-call (.builtin "set.add") [.ref p,v]
def JH(w:Vj):Hp->Hp->Hp->List Str->V->Prop:=λ_ _ H ns v=>∃p,v=.ref p/\H p=some (jx w p ns)
structure IV(X:Cx)(c:C)(e:VC)(g:G (List Str)):Prop where
 h:PE X e (Qn c (JH X.w) g)
section
variable{prog:U0}{w:Vj}{A:Vw}{Uz UA:VC}{ifs:List VC}{scope:Yd}{pos:Pos}{it acc:UH}{env:Env}{depth:Nat}{gens:List YG}{act:Sem Unit}
theorem O_{elt:VC}(ht:aaX (.SetComp elt gens scope pos) depth it acc env=qi Uz UA ifs it env act (again (.compLoop (.SetComp elt gens scope pos) depth it acc env))):sF prog w A (.SetComp elt gens scope pos) depth it acc env Uz ifs act:=by intro R E I hE turn n s h;refine codeAny_loop rfl I (λn s hI=>?_) n h;show UZ _ A ((aaX (.SetComp elt gens scope pos) depth it acc env).onRaise (λx=>do Yl x env;ad2 x)) _ _ s;refine wpAny_noted ?_;rw[ht];exact VH (zV (E:=E) (Q:=λf s'=>match f with | .done g=>R (.ok g) s' | .again c=>c=_/\∃m,m<n/\I m s') (λ_ h=>h) (λ_ h=>UJ ⟨rfl,h⟩) (turn n s hI)) (λ_ _ h=>h) hE
end
section
variable{prog:U0}{w:Vj}{A:Vw}{R:aa6->UI->Prop}{s:UI}{it acc:UH}{env:Env}{scope:Yd}{pos:Pos}{g0:YG}{Uz UA:VC}{ifs:List VC}{rest:List YG}{elt:VC}
theorem L7(h0:WC 139 A (.compLoop (.SetComp elt (⟨Uz,UA,ifs,0⟩::rest) scope pos) 0 it acc env) R s)
  (h:UZ 139 A (aa5 it) (λit' s'=>WC 139 A (.compLoop (.SetComp elt (⟨Uz,UA,ifs,0⟩::rest) scope pos) 0 it' acc env) R s') (aeO 139 A env λx s'=>R (.error x) s') s):
  WC 139 A (.compStart (.SetComp elt (⟨Uz,UA,ifs,0⟩::rest) scope pos) 0 it acc env) R s:=by
 refine Zf ?_;show UZ _ A ((ad3 (.SetComp elt (⟨Uz,UA,ifs,0⟩::rest) scope pos) 0 it acc env).onRaise (λx=>do Yl x env;Ye ad4)) _ _ s;refine aeP ?_;unfold ad3;show UZ _ A (ask>>=_) _ _ s;refine UE (WZ (wpAny_ite ?_));split
 ·first
   |exact UE (UJ (UJ (abJ rfl h0)))
   |exact UJ (abJ rfl h0)
 ·refine UE (ZY ?_);show UZ _ _ (Ye UA.pos>>=_) _ _ s;exact UE (Xm (UE (VH h (λit' s' h'=>UJ (abJ rfl h')) λ_ _ x=>x)))
end
theorem OO(elt t0 i0:VC)(f0:List VC)(scope:Yd)(pos:Pos)(it:UH)(p:UX)(env:Env):
  aaX (.SetComp elt [⟨t0,i0,f0,0⟩] scope pos) 0 it (.ref p) env=qi t0 i0 f0 it env (GG elt p env) (again (.compLoop (.SetComp elt [⟨t0,i0,f0,0⟩] scope pos) 0 it (.ref p) env)):=by rfl
section
variable{X:Cx}{c:C}{p:UX}{J2 H2:Hp}{elt:VC}{ge:G R}
theorem GF(hx:∀v s,X.xe v s->False)(hp2:H2 p=none)(hp0:c.H0 p=none)(hE:PD X c elt ge):uO X c p (B4 X.w p) J2 H2 1 (GG elt p X.env) (uR ge):=by
 intro Ux s σ H J env ys Qf I x2 sr no ⟨ns,h0,h1,h2,h3⟩ hl w;refine UE (VH (hE _ s σ H (λv H8=>∃J8 x,v=.str x/\Ext J H J8 H8/\isLet x=true/\Qf ([.str x],env)) I ⟨J,env,sr,aB (aH w) λr wr v J8 H8 e8 r8=>?_⟩) (λu8 s8 ⟨v8,H8,I8,r8,J8,x,hv,e8,lx,w8⟩=>?_) λv s f=>(hx v s f).elim)
 ·split at wr
  ·split at wr
   ·rename_i lx;cases r8;exact⟨J8,_,rfl,e8,lx,wr⟩
   ·exact wr.elim
  ·exact wr.elim
 subst hv;obtain⟨tk,rfl⟩:=r8;have p8:H8 p=some (jx X.w p ns):=e8.h _ _ h2;have J8p:J8 p=none:=e8.frz _ (by rw[h2];intro z;cases z) h3;obtain⟨⟨ks,es,ep,t,S,hm⟩,_⟩:=(show cB X.prog X.w H8 s8.heap p (jx X.w p ns)from I8.hok p _ p8);have kl:ks.length<=26:=vf S.nd λd hd=>h1 d ((hm d).mp hd);refine UE (Xm (UE (Ed S 112 λh' ns' es' ep' t' sb hm' S'=>?_)));have hm2:∀d,d∈ns'↔d∈ns++[x]:=λd=>by rw[hm' d,hm d,Vk,UM];exact Or.comm
 have I9:Inv X Ux σ (L2.upd H8 p (jx X.w p (ns++[x]))) {s8 with heap:=h',toks:=s8.toks+1}:=I8.write (e:=p) (by rw[p8];trivial) 394 (λb u hb q=>by rw[sb.2 b hb];exact q) ⟨_,S'.at_⟩ (r_ S' hm2);exact UJ ⟨σ,_,J8,([.str x],env),I9,(x2.trans e8).other hp2 J8p,e8.j,(sr.ext e8).other J8p hp0 no,no,⟨ns++[x],by rw[h0,VB];rfl,λz hz=>by
  rcases Vk.mp hz with hz|hz
  ·exact h1 z hz
  ·rw[UM.mp hz];exact lx,bf,J8p⟩,UW _,w8⟩
noncomputable def zW(ys:List D):List Str:=ys.map λd=>match d with
 | .str x=>x
 |_=>Xs
theorem zX(ns:131):zW (ns.map .str)=ns:=by unfold zW;rw[Wc];exact aal ns
def xD(n:Nat)(cap:249)(gi:244)(gt:GT)(gts:G Bool)(ge:G R):G (List Str):=jC 10000 n cap gi gt gts (uR ge) λys=>.ok (zW ys)
theorem K9{s:UI}{Q:136}{E:136}(q:Q 236 {s with heap:=s.heap.push (fV (dH X.w))}):UZ 126 X.A (newSet (.type "set")) Q E s:=by unfold newSet abW;refine UE (UE (WZ (UJ ?_)));dsimp only;simp only[newObj];exact UE (ad0 (UJ q))
theorem Oi{e:VC}{g:G (List Str)}{cm:Option (UH->Sem Unit)->Sem UH}(core:BL X c (JH X.w) cm g)(hev:eval e X.env=cm none):IV X c e g:=⟨λUx s σ H Q I h=>by
 rw[hev];exact core I h λacc C m s' H' fl hm hz hf hb q=>⟨m,hm,λh'' sb=>⟨.ref acc,H',hb h'' sb,rfl,q⟩⟩⟩
theorem LY{p:UX}{J H J' H':Hp}{ys:List D}{r:131}(e:Ext J H J' H')(a:B4 X.w p J' H' ys)(q:M.ok (zW ys)=.ok r):∃J'',Ext J H J'' H'/\JH X.w H J'' H' r (.ref p):=by obtain⟨ns,h0,h1,h2,h3⟩:=a;cases q;rw[h0,zX];exact⟨J',e,p,rfl,h2⟩
theorem Oh(own:131)(cap:249){elt t0 i0:VC}{f0:List VC}{scope:Yd}{pos:Pos}{gi0:244}{gt0:GT}{gts0:G Bool}{ge:G R}(hi:D5 X c t0 i0 gi0)
  (hbody:∀(cl:294)(C:UX)(s:UI)(H:Hp)(fp:List UX),fZ X.env.cells scope.names []=some cl->sL 177 c t0 gt0/\uP 177 c f0 gts0/\QD 177 c elt ge)
  (a:DN X scope cap i0:=by exact MS rfl):IV X c (.SetComp elt [⟨t0,i0,f0,0⟩] scope pos) (xD own.length cap gi0 gt0 gts0 ge):=by
 refine Oi ?_ rfl;refine rP (e:=.SetComp elt [⟨t0,i0,f0,0⟩] scope pos) (ob:=fV (dH X.w)) (o0:=λp=>jx X.w p []) (Acc:=λp _=>B4 X.w p) (N:=1) (lim:=10000) (m:=λp env=>GG elt p env) own cap rfl hi.h
  (λs Q E q=>K9 q) (λh H=>r_ (ux (US _ rfl)) λd=>Iff.rfl) (λp _=>GD) (λp _ J H _ h1 h2=>⟨[],rfl,λ_ h=>(nomatch h),h1,h2⟩) 120 (λit p env=>O_ (OO ..)) (λit acc env R s h0 h=>L7 h0 h) (λys z q=>by cases q)
  (fun {p H2 J H J' H' ys r} hp _ e a q=>LY e a q) (λcl C s H fp hcc=>?_) Aa a
 obtain⟨b1,b2,b3⟩:=hbody cl C s H fp hcc;exact⟨b1.h,b2.h,λp J2 H2 hp2 hp0=>GF (λ_ _ f=>f) hp2 hp0 b3.h⟩
noncomputable def Jo(gs:338):G (List Str):=λenv=>gs env>>=λrs=>match rs with
 |[r]=>fY r>>=λxs=>(match strsOf xs with
  |some ss=>if(gc ss).length<64 then .ok ss else .bad
  |none=>.bad)
 |_=>.bad
theorem LM{e:VC}{p:Pos}{pos:Pos}{gs:338}(ha:kB X c [e] gs)(hm:X.mg "set"=none)(hK:375)(hc:autoParam (X.calm=true) zzA._auto_1)(hg:autoParam (Gl X "set") zzA._auto_1)
  (he:autoParam 326 zzA._auto_1) (hpl:autoParam ((Wr pos (UP [] X.env)).any (·.1)=false) zzA._auto_1):IV X c (.Call (.Name "set" p) [e] [] pos) (Jo gs):=
 ⟨dX (o5 (Ej hc) hg hm Ea ha.h 120 120 he hpl) λσ H Q ⟨J,env,sr,w⟩=>by
  refine⟨J,env,sr,aB (aH w) λrs wr vs J1 H1 e1 r1=>?_⟩;split at wr
  ·obtain⟨v,rfl,r⟩:=r1.one;rename_i r0;obtain⟨xs,q,wr⟩:∃xs,fY r0=.ok xs/\cJ (match strsOf xs with
    |some ss=>if(gc ss).length<64 then M.ok ss else M.bad
    |none=>M.bad) (λr=>∀(v:V)(J' H':Hp),Ext J H J' H'->JH X.w H J' H' r v->Q v H') c.T:=by
    cases q:fY r0 with
    |ok xs=>rw[q]at wr;exact⟨xs,rfl,wr⟩
    |bad=>rw[q]at wr;exact wr.elim
    |exc z=>unfold fY at q;split at q<;>cases q
   obtain⟨p,vs,rfl,h1,h2⟩:=RR.list 377 r q;split at wr
   ·rename_i ss z;split at wr
    ·rename_i hl;have:=jQ z h2;subst this;refine⟨p,ss,rfl,by rw[hK];exact h1,hl,λl hl'=>?_⟩;exact wr _ _ _ (e1.trans (Ext.new e1.sub hl' _)) ⟨l,rfl,bf⟩
    ·exact wr.elim
   ·exact wr.elim
  ·exact wr.elim⟩
def mH(g:G (List Str)):G R:=λenv=>g env>>=λns=>if(gc ns).length<64 then .ok (.l .fresh ((fL (gc ns)).map .str))else .bad
theorem uh{e:VC}{p pos:Pos}{g:G (List Str)}(h:IV X c e g)(hm:X.mg "sorted"=none)(hc:autoParam (X.calm=true) zzA._auto_1)(hg:autoParam (Gl X "sorted") zzA._auto_1)
  (he:autoParam 326 zzA._auto_1) (hpl:autoParam ((Wr pos (UP [] X.env)).any (·.1)=false) zzA._auto_1):QD X c (.Call (.Name "sorted" p) [e] [] pos) (mH g):=
 ⟨dX (kR (Af hc) hg hm oE (ez h.h gM he) 120 120 he hpl) λσ H Q ⟨J,env,sr,w⟩=>by
  refine⟨J,env,sr,aB (aH w) λns wn v J1 H1 e1 ⟨p,hv,hp⟩=>?_⟩;split at wn
  ·rename_i hl;refine⟨p,ns,by rw[hv],hp,hl,λl hl'=>?_⟩;exact wn _ _ _ (e1.trans (Ext.new e1.sub hl' _)) (RR.from e1.h (jE 377 hl' (pA _)))
  ·exact wn.elim⟩
end
end DL
namespace WP
open PySem DL K01
def Wp{α:Type}(m:M α)(P:α->Prop):Prop:=∃a,m=.ok a/\P a
section
variable{α β:Type}{m:M α}{P P':α->Prop}{a:α}{env:Ev}{Q:O->Prop}{t u:G O}{g:G R}{r r':R}{i:Nat}{b:G Bool}
theorem Wp.mono(h:Wp m P)(k:∀a,P a->P' a):Wp m P':=let ⟨a,h1,h2⟩:=h;⟨a,h1,k a h2⟩
theorem Wp.eq(h:Wp m (·=a)):m=.ok a:=let ⟨_,h1,h2⟩:=h;h2▸h1
theorem Wp.bind{f:α->M β}{P:β->Prop}(h:Wp m λa=>Wp (f a) P):Wp (m>>=f) P:=by obtain⟨a,rfl,h2⟩:=h;exact h2
theorem xM{P:R->Prop}(h:Wp (t env) λo=>∃r,o=.rt r/\P r):Wp (fin (t env)) P:=by obtain⟨_,h1,r,rfl,h2⟩:=h;exact⟨r,by rw[h1];rfl,h2⟩
theorem dc(h:Wp (t env) (·=.rt r)):fin (t env)=.ok r:=by rw[h.eq];rfl
theorem bU (h:Wp (t env) λo=>match o with
 | .nx e=>Wp (u e) Q
 |o=>Q o):Wp (av t u env) Q:=by
 obtain⟨o,h1,h2⟩:=h;show Wp (t env>>=_) Q;rw[h1];cases o with
 |nx e=>exact h2
 |rt r=>exact⟨_,rfl,h2⟩
 |bk e=>exact⟨_,rfl,h2⟩
 |ct e=>exact⟨_,rfl,h2⟩
theorem jv(h:g env=.ok r)(h2:toS r=.ok x)(k:Q (.nx (env.set i (some x)))):Wp (aN i g env) Q:=⟨_,by show(g env>>=_)=_;rw[h,aT,h2];rfl,k⟩
theorem cF(h:g env=.ok r)(h2:toS r=.ok x)(k:Wp (u (env.set i (some x))) Q):Wp (av (aN i g) u env) Q:=bU (jv h h2 k)
theorem b_(h:g env=.ok r)(h2:rF r=.ok r')(k:Q (.rt r')):Wp (aO g env) Q:=⟨_,zH h h2,k⟩
theorem g9(k:Q (.nx env)):Wp (bh env) Q:=⟨_,rfl,k⟩
theorem Q3(k:Wp (u env) Q):Wp (av bh u env) Q:=bU (g9 k)
theorem fj(h:b env=.ok true)(k:Wp (t env) Q):Wp (aM b t u env) Q:=by rw[gY h];exact k
theorem rV(h:b env=.ok false)(k:Wp (u env) Q):Wp (aM b t u env) Q:=by rw[iu h];exact k
theorem iH(h:b env=.ok c)(k1:c=true->Wp (t env) Q)(k2:c=false->Wp (u env) Q):Wp (aM b t u env) Q:=by
 cases c with
 |true=>exact fj h (k1 rfl)
 |false=>exact rV h (k2 rfl)
theorem Q2{v:G O}(h:b env=.ok false)(k:Wp (av u v env) Q):Wp (av (aM b t u) v env) Q:=by
 have:av (aM b t u) v env=av u v env:=by unfold av;rw[iu h]
 rw[this];exact k
theorem br{v:G O}(h:b env=.ok false)(k:Wp (v env) Q):Wp (av (aM b t bh) v env) Q:=Q2 h (Q3 k)
theorem CP{gi:244}(h:gi env=.ok ds)(k:Wp (dR tg u ds env) Q):Wp (d8 gi tg u env) Q:=by rw[kL h];exact k
theorem lN{gi:244}{v:G O}(h:gi env=.ok ds) (k:Wp (dR tg t ds env) λo=>match o with
 | .nx e=>Wp (v e) Q
 |o=>Q o):Wp (av (d8 gi tg t) v env) Q:=bU (CP h k)
theorem k_{tg:GT}(I:Nat->Ev->Prop)(ds:List D)(h0:I 0 env)(step:∀(k:Nat)(hk:k<ds.length)(env:Ev),I k env->∃e,tg ds[k] env=.ok e/\Wp (u e) λo=>∃e,o=.nx e/\I (k+1) e)
  (k:∀e,I ds.length e->Q (.nx e)):Wp (dR tg u ds env) Q:=by
 have key:∀(es:List D)(i:Nat)(env:Ev),ds.drop i=es->i<=ds.length->I i env->Wp (dR tg u es env) Q:=by
  intro es
  induction es with
  |nil=>
   intro i env hd hi hI;have:i=ds.length:=by have:=congrArg Z4 hd;rw[WY]at this;simp at this;omega
   subst this;exact⟨_,rfl,k _ hI⟩
  |cons d es ih=>
   intro i env hd hi hI;have hlt:i<ds.length:=by have:=congrArg Z4 hd;rw[WY]at this;simp at this;omega
   have e1:=W7 hlt;rw[hd]at e1;obtain⟨q1,q2⟩:=aeU e1;obtain⟨e,h1,_,h2,e2,rfl,h3⟩:=step i hlt env hI;unfold dR;rw[q1,h1,aT,h2,aT];exact ih (i+1) e2 q2.symm 112 h3
 exact key ds 0 env rfl (Vb _) h0
theorem P4{tg:GT}(I:Nat->Ev->Prop)(h0:I 0 env)(step:∀(k:Nat),k<n->∀env,I k env->∃e,tg (.int k) env=.ok e/\Wp (u e) λo=>∃e,o=.nx e/\I (k+1) e)
 (k:∀e,I n e->Q (.nx e)):Wp (dR tg u (eW 0 n) env) Q:=by
 have hl:(eW 0 n).length=n:=by simp[eW]
 refine k_ I (eW 0 n) h0 (λj hj env hI=>?_) (by rw[hl];exact k);obtain⟨e,h1,h2⟩:=step j (by rw[hl]at hj;exact hj) env hI;refine⟨e,?_,h2⟩;rw[<-h1];simp[eW]
theorem n1{f:List R->M R}(hx:g env=.ok x)(hf:f [x]=.ok z):gN f (ah g ay) env=.ok z:=CZ hx hf
theorem two{f:R->R->M R}{h:G R}{x y z:R}(hx:g env=.ok x)(hy:h env=.ok y)(hf:f x y=.ok z):g2 f g h env=.ok z:=by show(g env>>=_)=_;rw[hx,aT,hy,aT,hf]
theorem c1{F:234}(hx:g env=.ok x)(hF:F [bH x]=.ok z):gN (aD 1 F) (ah g ay) env=.ok (cu z):=by show(ah g ay env>>=_)=_;unfold ah ay;rw[hx];show(match F [bH x]with | .ok r=>M.ok (cu r)|_=>M.bad)=_;rw[hF]
theorem c2{F:234}{h:G R}(hx:g env=.ok x)(hy:h env=.ok y)(hF:F [bH x,bH y]=.ok z):gN (aD 2 F) (ah g (ah h ay)) env=.ok (cu z):=by show(ah g (ah h ay) env>>=_)=_;unfold ah ay;rw[hx,hy];show(match F [bH x,bH y]with | .ok r=>M.ok (cu r)|_=>M.bad)=_;rw[hF]
theorem c3{F:234}{h k:G R}(hx:g env=.ok x)(hy:h env=.ok y)(hw:k env=.ok w)(hF:F [bH x,bH y,bH w]=.ok z):gN (aD 3 F) (ah g (ah h (ah k ay))) env=.ok (cu z):=by show(ah g (ah h (ah k ay)) env>>=_)=_;unfold ah ay;rw[hx,hy,hw];show(match F [bH x,bH y,bH w]with | .ok r=>M.ok (cu r)|_=>M.bad)=_;rw[hF]
theorem c4{F:234}{h k l:G R}(hx:g env=.ok x)(hy:h env=.ok y)(hw:k env=.ok w)(hv:l env=.ok v)(hF:F [bH x,bH y,bH w,bH v]=.ok z):gN (aD 4 F) (ah g (ah h (ah k (ah l ay)))) env=.ok (cu z):=by show(ah g (ah h (ah k (ah l ay))) env>>=_)=_;unfold ah ay;rw[hx,hy,hw,hv];show(match F [bH x,bH y,bH w,bH v]with | .ok r=>M.ok (cu r)|_=>M.bad)=_;rw[hF]
theorem MT{gi:244}{tg:GT}{ge:G R}{gts:G Bool}{α:Type}{xs:List α}{h:α->D}(o:α->Ev)(p:α->Bool)(f:α->D)(hi:gi env=.ok (xs.map h))(hl:xs.length<=1000000)
 (ho:∀x,(o x).length=n) (ht:∀x (e:Ev),e.length=n->tg (h x) (e++cE 0 cap env)=.ok (o x++cE 0 cap env))
 (hb:∀x∈xs,gts (o x++cE 0 cap env)=.ok (p x)/\(p x=true->∃r,ge (o x++cE 0 cap env)=.ok r/\toD r=.ok (f x))):c9 n cap gi tg gts ge env=.ok (.l .fresh ((xs.filter p).map f)):=by
 have key:∀(es:List α)(x:Ev),x.length=n->(∀d∈es,d∈xs)->fH tg gts ge (es.map h) (x++cE 0 cap env)=.ok ((es.filter p).map f):=by
  intro es
  induction es with
  |nil=>exact λ_ _ _=>rfl
  |cons d es ih=>
   intro x hx hm;obtain⟨h0,h1⟩:=hb d (hm d UO);have ih:=ih (o d) (ho d) λe he=>hm e (UN _ he);rw[Vl];unfold fH;rw[ht d x hx,aT,h0,aT];cases q:p d with
   |true=>
    obtain⟨r,h1,h2⟩:=h1 q;rw[if_pos rfl,h1,aT,h2,aT,ih,aa0 q];rfl
   |false=>
    rw[if_neg 120,aa1 (by simp[q])];exact ih
 unfold c9;rw[hi,aT,if_pos (by rw[V6,UL];omega)];show(fH tg gts ge _ (Vv n none++cE 0 cap env)>>=_)=_;rw[key xs _ VL λ_ h=>h];rfl
theorem IY{α:Type}(xs:List α):xs.filter (λ_=>true)=xs:=ach.mpr λ_ _=>rfl
theorem Cp{gi:244}{ge:G R}{gts:G Bool}{α:Type}{xs:List α}{h:α->D}(p:α->Bool)(f:α->D)(hi:gi env=.ok (xs.map h))(hl:xs.length<=1000000)
 (hb:∀x∈xs,gts (some (.d (h x))::cE 0 cap env)=.ok (p x)/\(p x=true->∃r,ge (some (.d (h x))::cE 0 cap env)=.ok r/\toD r=.ok (f x))):c9 1 cap gi (aJ 0) gts ge env=.ok (.l .fresh ((xs.filter p).map f)):=
 MT (λx=>[some (.d (h x))]) p f hi hl (λ_=>rfl) (λ_ e he=>match e,he with|[_],_=>rfl) hb
theorem uZ{gi:244}{ge:G R}{α:Type}{xs:List α}{h:α->D}(f:α->D)(hi:gi env=.ok (xs.map h))(hl:xs.length<=1000000)
 (hb:∀x∈xs,∃r,ge (some (.d (h x))::cE 0 cap env)=.ok r/\toD r=.ok (f x)):c9 1 cap gi (aJ 0) f_ ge env=.ok (.l .fresh (xs.map f)):=by
 have:=Cp (gts:=f_) (λ_=>true) f hi hl λx hx=>⟨rfl,λ_=>hb x hx⟩
 rwa [IY]at this
theorem MU{gi:244}{ge:G R}{gts:G Bool}{α:Type}{xs:List α}(a b:α->D)(p:α->Bool)(f:α->D)(hi:gi env=.ok (xs.map λx=>.tup [a x,b x]))(hl:xs.length<=1000)
 (h:∀x∈xs,gts (some (.d (a x))::some (.d (b x))::cE 0 cap env)=.ok (p x)/\(p x=true->∃r,ge (some (.d (a x))::some (.d (b x))::cE 0 cap env)=.ok r/\toD r=.ok (f x))):c9 2 cap gi (iE 2 (c5 (aJ 0) (c5 (aJ 1) iY))) gts ge env=.ok (.l .fresh ((xs.filter p).map f)):=
 MT (λx=>[some (.d (a x)),some (.d (b x))]) p f hi 112 (λ_=>rfl) (λ_ e he=>match e,he with|[_,_],_=>rfl) h
theorem Jb{gi:244}{ge:G R}{α:Type}{xs:List α}(a b:α->D)(f:α->D)(hi:gi env=.ok (xs.map λx=>.tup [a x,b x]))(hl:xs.length<=1000)
 (h:∀x∈xs,∃r,ge (some (.d (a x))::some (.d (b x))::cE 0 cap env)=.ok r/\toD r=.ok (f x)):c9 2 cap gi (iE 2 (c5 (aJ 0) (c5 (aJ 1) iY))) f_ ge env=.ok (.l .fresh (xs.map f)):=by
 have:=MU (gts:=f_) a b (λ_=>true) f hi hl λx hx=>⟨rfl,λ_=>h x hx⟩
 rwa [IY]at this
theorem QY(n:Nat):eW 0 n=(U8 n).map dN:=by simp[eW]
theorem Iq{gs:338}{n:Nat}(hg:gs env=.ok [.d (.int (n:Int))])(h:n<=1000):dQ gs env=.ok ((U8 n).map dN):=by rw[Ip hg h,QY]
theorem oM(h:g env=.ok x):ah g ay env=.ok [x]:=by show(g env>>=_)=_;rw[h];rfl
theorem bA:aE env=.ok []:=rfl
theorem aS{gs:244}(h:g env=.ok r)(h2:toD r=.ok d)(k:gs env=.ok ds):ak g gs env=.ok (d::ds):=by show(g env>>=_)=_;rw[h,aT,h2,aT,k];rfl
theorem di{gs:244}{ds:List D}(h:gs env=.ok ds)(hl:ds.length<=1000):bN gs env=.ok (.d (.tup ds)):=by show(gs env>>=_)=_;rw[h,aT,if_pos (iI hl)]
theorem dh{gs:244}{ds:List D}(h:gs env=.ok ds)(hl:ds.length<=1000):cC gs env=.ok (.l .fresh ds):=by show(gs env>>=_)=_;rw[h,aT,if_pos (iI hl)]
theorem oW{α:Type}{xs:List α}{h:α->D}(f:R)(hf:i7 f=.ok (xs.map h))(i:Int)(h0:0<=i)(hi:i<xs.length):∃x∈xs,aI f (.d (.int i))=.ok (.d (h x)):=by
 obtain⟨k,rfl⟩:=Int.eq_ofNat_of_zero_le h0;have hk:k<xs.length:=by omega
 refine⟨xs[k],VT hk,?_⟩;have h1:(xs.map h)[k]?=some (h xs[k]):=by rw[Vi,U3 hk];rfl
 cases f with
 |d x=>
  cases x with
  |tup ys=>cases hf;exact jT h1
  |lst ys=>cases hf;unfold aI;simp only[i7,aT,pO h1]
  |_=>cases hf
 |l m x=>cases hf;exact pS h1
 |o _ _ _=>cases hf
theorem P0(h:env[i]?=some (some (.own xs)))(k:Wp (t (env.set i (some (.d (.lst xs))))) Q):Wp (u6 i t env) Q:=by
 have:u6 i t env=t (env.set i (some (.d (.lst xs)))):=by unfold u6;rw[h]
 rw[this];exact k
theorem CO(h:g env=.ok r)(h2:toD r=.ok d)(h3:tg d env=.ok e)(k:Q (.nx e)):Wp (oK tg g env) Q:=⟨_,by show(g env>>=_)=_;rw[h,aT,h2,aT,h3];rfl,k⟩
theorem uq(h:g env=.ok r)(h2:toD r=.ok d)(h3:tg d env=.ok e)(k:Wp (u e) Q):Wp (av (oK tg g) u env) Q:=bU (CO h h2 h3 k)
theorem GU(xs:List D)(z:D):cutD (xs++[z]) none (some (-1))=xs:=by unfold cutD HT.bT;simp;rw[show((-1:Int)+((xs.length:Int)+1)).toNat=xs.length by omega];simp
theorem Ju(neg:Bool)(x:D)(ys:List D)(h:deps ys<=60)(hx:dep x<=60):gn neg (.d x) (.d (.tup ys))=.ok (.d (.bl (if neg then !inD x ys else inD x ys))):=by show(if deps ys<=60/\dep x<=60 then M.ok (R.d (.bl (if neg then !inD x ys else inD x ys)))else M.bad)=_;rw[if_pos ⟨h,hx⟩]
theorem O0(neg:Bool)(x y:R)(h:dep x.dat<=60)(hx:dep y.dat<=60):bB neg x y=.ok (.d (.bl (if neg then !cV x.dat y.dat else cV x.dat y.dat))):=by unfold bB;rw[if_pos ⟨h,hx⟩]
theorem u5:∀{xs:List D},(∀x∈xs,dep x<=n)->deps xs<=n
 |[],_=>Vb _
 |x::xs,h=>by have h1:=h x UO;have h2:=u5 (xs:=xs) λy hy=>h y (UN _ hy);simp only[deps];omega
theorem MX(xs:249):deps (xs.map dN)<=60:=u5 λx hx=>by obtain⟨k,_,rfl⟩:=Vc.mp hx;exact Vb _
theorem MY(xs:List (Nat×Nat)):deps (xs.map dP)<=60:=u5 λx hx=>by obtain⟨k,_,rfl⟩:=Vc.mp hx;exact(by decide:(1:Nat)<=60)
theorem BI{tb:G Bool}(I:Nat->Ev->Prop) (step:∀d env,I d env->(tb env=.ok false/\Q (.nx env))\/(tb env=.ok true/\Wp (t env) λo=>match o with
  | .nx e=>∃d',d'<d/\I d' e
  | .rt r=>Q (.rt r)
  |_=>False)):∀(n d:Nat)(env:Ev),I d env->d<n->Wp (lg tb t n env) Q
 |0,d,env,_,h=>absurd h (Xb _)
 |n+1,d,env,hI,h=>by
  unfold lg;rcases step d env hI with⟨h1,h2⟩|⟨h1,o,h2,h3⟩
  ·rw[h1];exact⟨_,rfl,h2⟩
  ·rw[h1,aT,if_pos rfl,h2,aT];cases o with
   |nx e=>
    obtain⟨d',hd,hI'⟩:=h3;exact BI I step n d' e hI' 112
   |rt r=>exact⟨_,rfl,h3⟩
   |bk e=>exact h3.elim
   |ct e=>exact h3.elim
theorem LW{tb:G Bool}(I:Nat->Ev->Prop)(d:Nat)(hd:d<n)(h0:I d env) (step:∀d env,I d env->(tb env=.ok false/\Wp (u env) Q)\/(tb env=.ok true/\Wp (t env) λo=>match o with
 | .nx e=>∃d',d'<d/\I d' e
 | .rt r=>Q (.rt r)
 |_=>False)):Wp (av (yN n tb t) u env) Q:=bU (BI I (λd env h=>by
  rcases step d env h with h|⟨h1,h2⟩
  ·exact .inl h
  ·refine .inr ⟨h1,h2.mono λo ho=>?_⟩;cases o<;>exact ho) n d env h0 hd)
theorem Jv{f:R->R->M R}(h0:env[i]?=some (some (.d d)))(h:g env=.ok y)(hf:f (.d d) y=.ok z)(h2:toS z=.ok x)(k:Q (.nx (env.set i (some x)))):Wp (kM i f g env) Q:=by refine⟨_,?_,k⟩;unfold kM;rw[h0];show(g env>>=_)=_;rw[h,aT,hf,aT,h2];rfl
end
end WP
namespace K12
open PySem DL
def qx:List Str:=["saying"]
noncomputable def qI:G O:=(av (aM (aK (g2 159 158 (gC (.str "row")))) (aO (gN lD (ah (g2 aI (af 0) 162) ay))) bh)
 (aO (c9 1 [0] (iT (Cz [("mark",(.tup [(.int 2)])),("arrow",(.tup [(.int 2),(.int 3)])),("same",(.tup [(.int 1),(.int 2)])),("not",(.tup [])),("and",(.tup [])),("or",(.tup [])),("some",(.tup [(.int 1)])),("every",(.tup [(.int 1)])),("least",(.tup [(.int 2)]))] 158)) (aJ 0) f_ (g2 aI (af 1) (af 0)))))
def fT(as:List S):M R:=fin (qI (aG qx as))
def AD:List Str:=["saying","word"]
noncomputable def A9:G O:=(av (aN 1 158)
 (av (aM (aK (g2 (gn false) (af 1) (bN (ak (gC (.str "and")) (ak (gC (.str "or")) aE))))) (aO 293) bh)
 (av (aM (aK (M8 false [("not",(.int 1)),("some",(.int 2)),("every",(.int 2)),("least",(.int 3))] (af 1))) (aO (bN (ak (g2 aI (af 0) (Cz [("not",(.int 1)),("some",(.int 2)),("every",(.int 2)),("least",(.int 3))] (af 1))) aE))) bh)
 (aO (bN aE)))))
def jS(as:List S):M R:=fin (A9 (aG AD as))
def vE:List Str:=["saying","parts","left","one"]
noncomputable def vP:G O:=(av (aN 1 (cC aE))
 (av (aN 2 (cC (ak (af 0) aE)))
 (av (yN 2000 (G_ (af 2)) (av (yM 3 2)
 (av (eG 1 (af 3))
 (yL 2 (M9 (gN (aD 1 K12.jS) (ah (af 3) ay)))))))
 (aO (af 1)))))
def iK(as:List S):M R:=fin (vP (aG vE as))
def sH:List Str:=["saying","inner","here"]
noncomputable def tL:G O:=(av (aN 2 (gN (aD 1 K12.fT) (ah (af 0) ay)))
 (av (aM (aK (g2 (gn false) 158 (gC (.tup [(.str "some"),(.str "every"),(.str "least")])))) (aO (mH (xD 1 [2] (iT (af 1)) (aJ 0) (aK (g2 (gn true) (af 0) (af 1))) (af 0)))) bh)
 (aO (mH (Jo (ah (g2 gX (af 2) (af 1)) ay))))))
def jM(as:List S):M R:=fin (tL (aG sH as))
def sI:List Str:=["saying","tongue","marks","arrows"]
noncomputable def tM:G O:=(av (oK (iE 2 (c5 (aJ 2) (c5 (aJ 3) iY))) (af 1))
 (av (aM (aK (g2 159 158 (gC (.str "mark")))) (aO (g2 (gn false) 293 (af 2))) bh)
 (av (aM (aK (g2 159 158 (gC (.str "arrow")))) (aO (g2 (gn false) 293 (af 3))) bh)
 (aO (gC (.bl true))))))
def gV(as:List S):M R:=fin (tM (aG sI as))
def nR:List Str:=["_law_cell_here"]
noncomputable def nV:G O:=(aO (c9 1 [0] (dQ (ah 351 ay)) (aJ 0) f_ (g2 aI (gC 305) (g2 bV (g2 bZ (af 1) (g2 cW (gC (.int 7)) (af 0))) (gC (.int 26))))))
def iz(as:List S):M R:=fin (nV (aG nR as))
def sG:List Str:=["_law_number","_law_tongue_here","_law_letters_here","_law_one","_law_other"]
noncomputable def tK:G O:=(av (aN 3 (g2 aI (af 2) (g2 bV (g2 dG (af 0) (gC (.int 3))) 351)))
 (av (aN 4 (g2 aI (af 2) (g2 bV (g2 dG (af 0) (gC (.int 12))) 351)))
 (av (aM (bK (aK (g2 159 (g2 bV (af 0) (gC (.int 3))) 132)) (aK (g2 (bB true) (g2 aI (af 1) 132) (bN aE)))) (aO (bN (ak (gC (.str "mark")) (ak (g2 aI (g2 aI (af 1) 132) (g2 bV (g2 dG (af 0) (gC (.int 48))) (gN eV (ah (g2 aI (af 1) 132) ay)))) (ak (af 3) aE))))) bh)
 (av (aM (bK (aK (g2 159 (g2 bV (af 0) (gC (.int 3))) 137)) (aK (g2 (bB true) (g2 aI (af 1) 137) (bN aE)))) (aO (bN (ak (gC (.str "arrow")) (ak (g2 aI (g2 aI (af 1) 137) (g2 bV (g2 dG (af 0) (gC (.int 48))) (gN eV (ah (g2 aI (af 1) 137) ay)))) (ak (af 3) (ak (af 4) aE)))))) bh)
 (aO (bN (ak (gC (.str "same")) (ak (af 3) (ak (af 4) aE)))))))))
def gT(as:List S):M R:=fin (tK (aG sG as))
def wK:List Str:=["_law_number","_law_letters_here","_law_top","_law_saying","_law_deep_here","_law_high","_law_letter"]
noncomputable def nW:G O:=(av (oK (iE 3 (c5 (aJ 3) (c5 (aJ 4) (c5 (aJ 5) iY)))) (af 2))
 (av (aN 6 (g2 aI (af 1) (g2 bV (g2 dG (af 0) (gC (.int 5))) 351)))
 (av (aM (bY (aK (g2 159 (g2 bV (af 0) (gC (.int 5))) 132)) (aK (g2 (b9 λi j=>.bl (decide (j<i))) (af 4) 162))) (aO (bN (ak (bN (ak (gC (.str "not")) (ak (af 3) aE))) (ak (af 4) (ak (g2 bZ (af 5) 137) aE))))) bh)
 (av (aM (aK (g2 159 (g2 bV (af 0) (gC (.int 5))) 351)) (aO (bN (ak (bN (ak (gC (.str "least")) (ak (g2 bZ 137 (g2 bV (g2 dG (af 0) (gC (.int 20))) (g2 aI (cC (ak (gC (.int 9)) (ak (gC (.int 3)) aE))) (g2 bV (g2 dG (af 0) (gC (.int 200))) 162)))) (ak (af 6) (ak (af 3) aE))))) (ak (g2 bZ (af 4) 137) (ak (g2 bZ (af 5) 137) aE))))) bh)
 (aO (bN (ak (bN (ak (g2 aI (cC (ak (gC (.str "some")) (ak (gC (.str "every")) aE))) (g2 bV (af 0) 162)) (ak (af 6) (ak (af 3) aE)))) (ak (g2 bZ (af 4) 137) (ak (g2 bZ (af 5) 137) aE)))))))))
def gm(as:List S):M R:=fin (nW (aG wK as))
def xU:List Str:=["_law_number","_law_some","_law_parts","_law_deep_here","_law_high"]
noncomputable def oQ:G O:=(av (aN 2 (gN f7 (ah (c9 1 [] (iT (af 1)) (aJ 0) f_ 158) ay)))
 (av (aN 3 (tG 0 (c9 1 [] (iT (af 1)) (aJ 0) f_ 293)))
 (av (aN 4 (tG 0 (c9 1 [] (iT (af 1)) (aJ 0) f_ (g2 aI (af 0) 162))))
 (av (aM (aK (g2 159 (gN eV 253) 137)) (aO (g2 aI (af 1) 132)) bh)
 (aO (bN (ak (bN (ak (g2 aI (cC (ak (gC (.str "and")) (ak (gC (.str "or")) aE))) (g2 bV (af 0) 162)) (ak (af 2) aE))) (ak (af 3) (ak (g2 bZ (af 4) 137) aE)))))))))
def f6(as:List S):M R:=fin (oQ (aG xU as))
def qp:List Str:=["_law_cells","_law_tongue_here","_law_letters_here","_law_stack","_law_k","_law_number","_law_way","_law_rest","_law_many"]
noncomputable def qF:G O:=(av (aN 3 (cC aE))
 (av (d8 (dQ (ah (gN eV (ah (af 0) ay)) ay)) (aJ 4) (av (aN 5 (g2 bV (g2 cW (g2 bZ (g2 bV (g2 aI (af 0) (af 4)) (g2 kJ 162 (gC (.int 64)))) (g2 cW (gC (.int 613)) (af 4))) (gC (.int 71993))) (gC (.int 998244353))))
 (av (aN 6 (g2 bV (af 5) (gC (.int 7))))
 (av (aN 7 (g2 dG (af 5) (gC (.int 7))))
 (aM (bY (aK (g2 159 (af 3) (cC aE))) (bY (aK (g2 (b9 λi j=>.bl (decide (i<j))) (af 6) (gC (.int 3)))) (aK (g2 (b9 λi j=>.bl (decide (j<i))) (g2 aI (g2 aI (af 3) (nh 137)) 162) (gC (.int 11)))))) (eG 3 (bN (ak (gN (aD 3 K12.gT) (ah (af 7) (ah (af 1) 276))) (ak 132 (ak 132 aE))))) (aM (bK (aK (g2 159 (af 6) (gC (.int 3)))) (aK (g2 (b9 λi j=>.bl (decide (j<i))) (gN eV (ah (af 3) ay)) 137))) (av (aN 8 (g2 bZ 162 (g2 bV (g2 dG (af 7) 162) 162)))
 (aN 3 (g2 bZ (mG ji (af 3) qC (lE (nh (af 8)))) (cC (ak (gN (aD 2 K12.f6) (ah (af 7) (ah (mG ji (af 3) (lE (nh (af 8))) qC) ay))) aE))))) (aM (bK (aK (g2 159 (af 6) 351)) (aK (g2 159 (g2 bV (af 7) 351) 132))) (eG 3 (bN (ak (bN (ak (g2 aI (cC (ak (gC (.str "and")) (ak (gC (.str "or")) aE))) (g2 bV (g2 dG (af 7) 351) 162)) (ak (bN aE) aE))) (ak 132 (ak 132 aE))))) (aN 3 (g2 bZ (mG ji (af 3) qC (lE (nh 137))) (cC (ak (gN (aD 3 K12.gm) (ah (af 7) (ah (af 2) (ah (g2 aI (af 3) (nh 137)) ay)))) aE)))))))))))
 (aO (g2 aI (gN (aD 2 K12.f6) (ah (gN eV (ah (af 0) ay)) (ah (af 3) ay))) 132))))
def ic(as:List S):M R:=fin (qF (aG qp as))
def oA:List Str:=["_law_saying"]
noncomputable def oR:G O:=(av (aM (bY (aK (g2 159 158 (gC (.str "and")))) (aK (g2 159 158 (gC (.str "or"))))) (aO (gN lD (ah 293 ay))) bh)
 (av (aM (bY (aK (g2 159 158 (gC (.str "mark")))) (bY (aK (g2 159 158 (gC (.str "arrow")))) (aK (g2 159 158 (gC (.str "same")))))) (aO (cC aE)) bh)
 (aO (cC (ak (g2 aI (af 0) (nh 137)) aE)))))
def fF(as:List S):M R:=fin (oR (aG oA as))
end K12
set_option maxHeartbeats 1000000
namespace K12
open PySem PySem.Spec PyProof.Rows DL K01 WP
inductive Sy(A B L:131):Nat->D->Prop
 |mark {k:Nat}{n a:Str}:n∈A->a∈L->Sy A B L (k+1) (.tup [.str "mark",.str n,.str a])
 |arrow {k:Nat}{n a b:Str}:n∈B->a∈L->b∈L->Sy A B L (k+1) (.tup [.str "arrow",.str n,.str a,.str b])
 |same {k:Nat}{a b:Str}:a∈L->b∈L->Sy A B L (k+1) (.tup [.str "same",.str a,.str b])
 |not {k:Nat}{xs:List D}:Sy A B L k 333->Sy A B L (k+1) (.tup [.str "not",.tup xs])
 |and {k:Nat}{ss:List D}:(∀s∈ss,Sy A B L k s)->ss.length<=100->Sy A B L (k+1) (.tup [.str "and",.tup ss])
 |or {k:Nat}{ss:List D}:(∀s∈ss,Sy A B L k s)->ss.length<=100->Sy A B L (k+1) (.tup [.str "or",.tup ss])
 |some {k:Nat}{a:Str}{xs:List D}:a∈L->Sy A B L k 333->Sy A B L (k+1) (.tup [.str "some",.str a,.tup xs])
 |every {k:Nat}{a:Str}{xs:List D}:a∈L->Sy A B L k 333->Sy A B L (k+1) (.tup [.str "every",.str a,.tup xs])
 |least {k:Nat}{i:Int}{a:Str}{xs:List D}:1<=i->a∈L->Sy A B L k 333->Sy A B L (k+1) (.tup [.str "least",.int i,.str a,.tup xs])
variable{A B L:List Str}{k:Nat}{d:D}
theorem Sy.tup(h:248):∃xs,d=.tup xs:=by cases h<;>exact⟨_,rfl⟩
theorem Sy.up(h:248):∀{j:Nat},k<=j->Sy A B L j d:=by
 induction h with
 |mark h1 h2=>intro j hj;obtain⟨j,rfl⟩:∃i,j=i+1:=⟨j-1,by omega⟩;exact .mark h1 h2
 |arrow h1 h2 h3=>intro j hj;obtain⟨j,rfl⟩:∃i,j=i+1:=⟨j-1,by omega⟩;exact .arrow h1 h2 h3
 |same h1 h2=>intro j hj;obtain⟨j,rfl⟩:∃i,j=i+1:=⟨j-1,by omega⟩;exact .same h1 h2
 |not _ ih=>intro j hj;obtain⟨j,rfl⟩:∃i,j=i+1:=⟨j-1,by omega⟩;exact .not (ih 112)
 |and _ h ih=>intro j hj;obtain⟨j,rfl⟩:∃i,j=i+1:=⟨j-1,by omega⟩;exact .and (λs hs=>ih s hs 112) h
 |or _ h ih=>intro j hj;obtain⟨j,rfl⟩:∃i,j=i+1:=⟨j-1,by omega⟩;exact .or (λs hs=>ih s hs 112) h
 |some h _ ih=>intro j hj;obtain⟨j,rfl⟩:∃i,j=i+1:=⟨j-1,by omega⟩;exact .some h (ih 112)
 |every h _ ih=>intro j hj;obtain⟨j,rfl⟩:∃i,j=i+1:=⟨j-1,by omega⟩;exact .every h (ih 112)
 |least h0 h _ ih=>intro j hj;obtain⟨j,rfl⟩:∃i,j=i+1:=⟨j-1,by omega⟩;exact .least h0 h (ih 112)
noncomputable def wd:D->Str
 | .tup (.str w::_)=>w
 |_=>Xs
noncomputable def wit:D->List D
 | .tup [.str w,x]=>if w == "not" then [x]else(match x with
  | .tup ss=>ss
  |_=>[])
 | .tup [.str _,.str _,.tup xs]=>[.tup xs]
 | .tup [.str _,.int _,.str _,.tup xs]=>[.tup xs]
 |_=>[]
noncomputable def dJ:D->List Str
 | .tup [.str w,.str a,.str b]=>if w == "mark" then [b]else [a,b]
 | .tup [.str _,.str a,.tup _]=>[a]
 | .tup [.str _,.str _,.str a,.str b]=>[a,b]
 | .tup [.str _,.int _,.str a,.tup _]=>[a]
 |_=>[]
noncomputable def own:D->List Str
 | .tup [.str w,.str a,.str b]=>if w == "mark" then [b]else [a,b]
 | .tup [.str _,.str _,.str a,.str b]=>[a,b]
 |_=>[]
noncomputable def bnd:D->List Str
 | .tup [.str _,.str a,.tup _]=>[a]
 | .tup [.str _,.int _,.str a,.tup _]=>[a]
 |_=>[]
theorem ku(h:248):jS [.d d]=.ok (.d (.tup (wit d))):=by cases h<;>rfl
theorem jy(h:248):fT [.d d]=.ok (.l .fresh ((dJ d).map .str)):=by cases h<;>rfl
theorem oj(h:248):fF [.d d]=.ok (.l .fresh (wit d)):=by cases h<;>rfl
theorem zd(h:248):dJ d=own d++bnd d:=by cases h<;>rfl
theorem cL(h:Sy A B L (k+1) d):∀s∈wit d,Sy A B L k s:=by
 intro s hs;cases h with
 |mark _ _=>cases hs
 |arrow _ _ _=>cases hs
 |same _ _=>cases hs
 |not h=>rw[UM.mp (show s∈[_]from hs)];exact h
 |and h _=>exact h s hs
 |or h _=>exact h s hs
 |some _ h=>rw[UM.mp (show s∈[_]from hs)];exact h
 |every _ h=>rw[UM.mp (show s∈[_]from hs)];exact h
 |least _ _ h=>rw[UM.mp (show s∈[_]from hs)];exact h
theorem ju(h:248):(wit d).length<=100:=by
 cases h with
 |and _ h=>exact h
 |or _ h=>exact h
 |mark _ _=>exact Vb _
 |arrow _ _ _=>exact Vb _
 |same _ _=>exact Vb _
 |_=>exact YC 1 99
theorem gv(h:248):∀x∈dJ d,x∈L:=by
 intro x hx;cases h with
 |mark _ h=>rw[UM.mp (show x∈[_]from hx)];exact h
 |arrow _ h1 h2=>rcases UR.mp (show x∈[_,_]from hx)with e|e;exact e▸h1;exact(UM.mp e)▸h2
 |same h1 h2=>rcases UR.mp (show x∈[_,_]from hx)with e|e;exact e▸h1;exact(UM.mp e)▸h2
 |not _=>cases hx
 |and _ _=>cases hx
 |or _ _=>cases hx
 |some h _=>rw[UM.mp (show x∈[_]from hx)];exact h
 |every h _=>rw[UM.mp (show x∈[_]from hx)];exact h
 |least _ h _=>rw[UM.mp (show x∈[_]from hx)];exact h
theorem b7(h:248):∃j,k=j+1:=by cases h<;>exact⟨_,rfl⟩
theorem fU{α β:Type}{f g:α->List β}:∀{l:List α},(∀x∈l,f x=g x)->l.flatMap f=l.flatMap g
 |[],_=>rfl
 |x::l,h=>by rw[VN,VN,h x UO,fU λy hy=>h y (UN _ hy)]
noncomputable def bx:Nat->D->List D
 |0,_=>[]
 |n+1,d=>d::(wit d).flatMap (bx n)
theorem mQ:∀{k:Nat}{d:D},Sy A B L k d->∀{j:Nat},k<=j->bx j d=bx k d
 |0,d,h,j,hj=>by obtain⟨_,e⟩:=b7 h;cases e
 |k+1,d,h,j,hj=>by obtain⟨j,rfl⟩:∃i,j=i+1:=⟨j-1,by omega⟩;show d::(wit d).flatMap (bx j)=d::(wit d).flatMap (bx k);congr 1;exact fU λs hs=>mQ (cL h s hs) 112
theorem j4:∀{k:Nat}{d:D},Sy A B L k d->∀p∈bx k d,Sy A B L k p
 |0,d,h,p,_=>by obtain⟨_,e⟩:=b7 h;cases e
 |k+1,d,h,p,hp=>by
  rcases UR.mp hp with rfl|hp
  ·exact h
  ·obtain⟨s,hs,hp⟩:=Wh.mp hp;exact(j4 (cL h s hs) p hp).up (Xh _)
end K12
namespace K51
open PySem DL
end K51
namespace K51
open PySem DL K01 WP
theorem DE(xs ys:List D)(h:xs.length+ys.length<=1000):fJ (.d 333) (.d (.tup ys))=.ok (.d (.tup (xs++ys))):=by show(if xs.length+ys.length<=sizeLine then M.ok (R.d (.tup (xs++ys)))else M.bad)=_;rw[if_pos (iI h)]
theorem QK(l:Nat)(xs:249):gn false (.d (dN l)) (.d (.tup (xs.map dN)))=.ok (.d (.bl (inD (dN l) (xs.map dN)))):=Ju false _ _ (MX xs) (Vb _)
theorem QL(l:Nat×Nat)(xs:List (Nat×Nat)):gn false (.d (dP l)) (.d (.tup (xs.map dP)))=.ok (.d (.bl (inD (dP l) (xs.map dP)))):=Ju false _ _ (MY xs) (by show(1:Nat)<=60;decide)
end K51
namespace K51
open PySem DL K01 WP
end K51
namespace K51
open PySem DL K01 WP
end K51
namespace K52
open PySem DL
end K52
namespace K52
open PySem DL K01 WP K51
variable{P:D->Prop}
end K52
namespace DL
open PySem PySem.Spec PyProof.Rows L2 DX
end DL
namespace K55
open PySem DL
end K55
namespace K55
open PySem DL K01 WP K51 K52
theorem Jh(a b:Nat):cV (dN a) (dN b)=(a==b):=by
 show((a:Int)==(b:Int))=_;by_cases h:a=b
 ·subst h;simp
 ·rw[beq_eq_false_iff_ne.mpr h,beq_eq_false_iff_ne.mpr 112]
theorem inN(l:Nat)(xs:249):inD (dN l) (xs.map dN)=decide (l∈xs):=by
 unfold inD;rw[abH,YD,Yn,decide_eq_true_eq];constructor
 ·rintro⟨x,hx,e⟩;have e:cV (dN x) (dN l)=true:=e;rw[Jh]at e;rw[<-eq_of_beq e];exact hx
 ·intro h;exact⟨l,h,by show cV (dN l) (dN l)=true;rw[Jh];simp⟩
theorem Qh(a b:Nat×Nat):cV (dP a) (dP b)=decide (a=b):=by
 have:cV (dP a) (dP b)=(cV (dN a.1) (dN b.1)&&(cV (dN a.2) (dN b.2)&&true)):=by show cV (.tup [dN a.1,dN a.2]) (.tup [dN b.1,dN b.2])=_;rw[Ku,A0,A0,gg]
 rw[this,Jh,Jh,YD];obtain⟨a1,a2⟩:=a;obtain⟨b1,b2⟩:=b;simp
theorem Nh(l:Nat×Nat)(xs:List (Nat×Nat)):inD (dP l) (xs.map dP)=decide (l∈xs):=by
 unfold inD;rw[abH,YD,Yn,decide_eq_true_eq];constructor
 ·rintro⟨x,hx,e⟩;have e:cV (dP x) (dP l)=true:=e;rw[Qh,decide_eq_true_eq]at e;rw[<-e];exact hx
 ·intro h;exact⟨l,h,by show cV (dP l) (dP l)=true;rw[Qh];simp⟩
noncomputable def Gp:D->Nat
 | .int i=>i.toNat
 |_=>0
noncomputable def OQ:D->Nat×Nat
 | .tup [x,y]=>(Gp x,Gp y)
 |_=>(0,0)
end K55
namespace K23
open PySem DL
end K23
namespace K23
open PySem DL K01 WP K51 K52 K55
section
variable{α β:Type}
theorem Co{gts:G Bool}{act:Ev->M (List D×Ev)}{h':β->D}{rest:Ev}(p:β->Bool)(f:β->D):∀(ys:List β),(∀y∈ys,gts (a0::some (.d (h' y))::rest)=.ok (p y)/\(p y=true->act (a0::some (.d (h' y))::rest)=.ok ([f y],a0::some (.d (h' y))::rest)))->
  ∀z:Option S,∃z',cH (aJ 1) gts act (ys.map h') (a0::z::rest)=.ok ((ys.filter p).map f,a0::z'::rest)
 |[],_,z=>⟨z,rfl⟩
 |y::ys,H,z=>by
  obtain⟨h1,h2⟩:=H y UO;obtain⟨z',ih⟩:=Co p f ys (λy hy=>H y (UN _ hy)) (some (.d (h' y)));refine⟨z',?_⟩;rw[Vl];unfold cH;show(gts (a0::some (.d (h' y))::rest)>>=λk=>if k=true then act (a0::some (.d (h' y))::rest)>>=λr=>cH (aJ 1) gts act (ys.map h') r.2>>=λz=>.ok (r.1++z.1,z.2)else cH (aJ 1) gts act (ys.map h') (a0::some (.d (h' y))::rest))=_;rw[h1,aT];cases q:p y with
  |true=>
   rw[if_pos rfl,h2 q,aT];show(cH (aJ 1) gts act (ys.map h') (a0::some (.d (h' y))::rest)>>=_)=_;rw[ih,aT,aa0 q];rfl
  |false=>
   rw[if_neg 120,ih,aa1 (by simp[q])]
theorem yC{gi1:244}{gts:G Bool}{act:Ev->M (List D×Ev)}{h:α->D}{h':β->D}{rest:Ev}(ys:α->List β)(p:α->β->Bool)(f:α->β->D):∀(xs:List α),(∀x∈xs,(ys x).length<=1000/\(∀z:Option S,gi1 (some (.d (h x))::z::rest)=.ok ((ys x).map h'))/\∀y∈ys x,gts (some (.d (h x))::some (.d (h' y))::rest)=.ok (p x y)/\(p x y=true->act (some (.d (h x))::some (.d (h' y))::rest)=.ok ([f x y],some (.d (h x))::some (.d (h' y))::rest)))->
  ∀z0 z:Option S,∃z0' z',cH (aJ 0) f_ (jA gi1 (aJ 1) gts act) (xs.map h) (z0::z::rest)=.ok (xs.flatMap λx=>((ys x).filter (p x)).map (f x),z0'::z'::rest)
 |[],_,z0,z=>⟨z0,z,rfl⟩
 |x::xs,H,z0,z=>by obtain⟨h1,h2,h3⟩:=H x UO;obtain⟨z1,e1⟩:=Co (a0:=some (.d (h x))) (p x) (f x) (ys x) h3 z;obtain⟨z0',z',ih⟩:=yC ys p f xs (λy hy=>H y (UN _ hy)) (some (.d (h x))) z1;refine⟨z0',z',?_⟩;rw[Vl];unfold cH;show(jA gi1 (aJ 1) gts act (some (.d (h x))::z::rest)>>=_)=_;unfold jA;rw[h2 z,aT,if_pos (by rw[UL];exact h1),e1,aT];show(cH (aJ 0) f_ (jA gi1 (aJ 1) gts act) (xs.map h) (some (.d (h x))::z1::rest)>>=_)=_;rw[ih];rfl
theorem Jc{gi0 gi1:244}{gts:G Bool}{act:Ev->M (List D×Ev)}{fin:List D->M R}{h:α->D}{h':β->D}{xs:List α}(ys:α->List β)(p:α->β->Bool)(f:α->β->D)(hi:gi0 env=.ok (xs.map h))(hl:xs.length<=10000)
 (H:∀x∈xs,(ys x).length<=1000/\(∀z:Option S,gi1 (some (.d (h x))::z::cE 0 cap env)=.ok ((ys x).map h'))/\∀y∈ys x,gts (some (.d (h x))::some (.d (h' y))::cE 0 cap env)=.ok (p x y)/\(p x y=true->act (some (.d (h x))::some (.d (h' y))::cE 0 cap env)=.ok ([f x y],some (.d (h x))::some (.d (h' y))::cE 0 cap env))):
  jC 10000 2 cap gi0 (aJ 0) f_ (jA gi1 (aJ 1) gts act) fin env=fin (xs.flatMap λx=>((ys x).filter (p x)).map (f x)):=by unfold jC;rw[hi,aT,if_pos (by rw[UL];exact hl)];obtain⟨z0',z',e⟩:=yC ys p f xs H none none;show(cH (aJ 0) f_ (jA gi1 (aJ 1) gts act) (xs.map h) (none::none::cE 0 cap env)>>=_)=_;rw[e];rfl
theorem AF{ge:G R}(h:ge env=.ok r)(h2:toD r=.ok d):gH ge env=.ok ([d],env):=by unfold gH;rw[h,aT,h2];rfl
end
section
variable{env:Ev}{Q:O->Prop}{g:G R}{t:G O}{r:R}{i:Nat}
theorem O7{xs ys:List D}(h0:env[i]?=some (some (.own xs)))(h:g env=.ok r)(h2:i7 r=.ok ys)(hl:xs.length+ys.length<=16777216)(k:Q (.nx (env.set i (some (.own (xs++ys)))))):Wp (yL i g env) Q:=by refine⟨_,?_,k⟩;unfold yL;rw[h0];show(g env>>=_)=_;rw[h,aT,h2,aT,if_pos (by rw[V6];exact hl)]
end
end K23
namespace K12
open PySem PySem.Spec PyProof.Rows DL K01 WP
variable{A B L:List Str}{k:Nat}{d:D}
theorem yZ{env:Ev}{i:Nat}{g:G R}{r:R}{Q:O->Prop}{xs:List D}{d:D}(h0:env[i]?=some (some (.own xs)))(h:g env=.ok r)(h2:toD r=.ok d)(hl:xs.length<=1000000)(k:Q (.nx (env.set i (some (.own (xs++[d])))))):Wp (eG i g env) Q:=by refine⟨_,?_,k⟩;unfold eG;rw[h0];show(g env>>=_)=_;rw[h,aT,h2,aT,if_pos (by rw[V6];omega)]
theorem O8{env:Ev}{i j:Nat}{Q:O->Prop}{xs:List D}{d:D}(h0:env[j]?=some (some (.own (xs++[d]))))(k:Q (.nx ((env.set j (some (.own xs))).set i (some (.d d))))):Wp (yM i j env) Q:=by
 refine⟨_,?_,k⟩;unfold yM;rw[h0];have e:(xs++[d])[(xs++[d]).length-1]?=some d:=by simp
 simp only[e];rw[List.dropLast_concat]
theorem HY(h:248):1<=(bx k d).length:=by obtain⟨j,rfl⟩:=b7 h;exact YC 1 _
theorem NC{l:List D}(h:∀d∈l,Sy A B L k d):l.length<=(l.flatMap (bx k)).length:=by
 induction l with
 |nil=>exact Vb _
 |cons d l ih=>
  have:=ih λx hx=>h x (UN _ hx);have:=HY (h d UO);rw[VN,UQ,Vt];omega
theorem A4(h:248):bx k d=d::(wit d).flatMap (bx k):=by obtain⟨j,rfl⟩:=b7 h;show d::(wit d).flatMap (bx j)=_;congr 1;exact fU λs hs=>(mQ (cL h s hs) (Xh j)).symm
theorem Mj(h:248):∀s∈wit d,Sy A B L k s:=λs hs=>by obtain⟨j,rfl⟩:=b7 h;exact(cL h s hs).up (Xh j)
theorem uL(h:248)(hN:(bx k d).length<2000):iK [.d d]=.ok (.l .fresh (bx k d)):=by
 refine dc (cF (r:=.l .fresh []) (x:=.own []) (dh bA (Vb _)) rfl (cF (r:=.l .fresh [d]) (x:=.own [d]) (dh (aS rfl rfl bA) (YC 1 999)) rfl ?_));refine LW (λm env=>∃done left x,env=[some (.d d),some (.own done),some (.own left),x]/\(∀s∈left,Sy A B L k s)/\done++left.reverse.flatMap (bx k)=bx k d/\m=(left.reverse.flatMap (bx k)).length) (bx k d).length hN ⟨[],[d],none,rfl,λs hs=>by rw[UM.mp hs];exact h,by simp,by simp⟩ ?_;rintro m env ⟨done,left,x,rfl,h1,h2,h3⟩;rcases abR left with rfl|⟨l,s,rfl⟩
 ·refine .inl ⟨rfl,b_ (r:=.l .own done) rfl rfl ?_⟩;have:done=bx k d:=by simpa using h2
  rw[this]
 ·rw[abS]at h1 h2 h3 ⊢;have hs:Sy A B L k s:=h1 s 229;refine .inr ⟨?_,?_⟩
  ·show M.ok (!(l++[s]).isEmpty)=_;simp
  have tot:=congrArg Z4 h2;rw[UQ,<-h3]at tot;rw[Y4,abn,ZJ,VN,A4 hs,adH,Vt]at h3;rw[Y4,abn,ZJ,VN,A4 hs]at h2;have hw:=ju hs;have ll:l.length<=(l.reverse.flatMap (bx k)).length:=by
   have:=NC (l:=l.reverse) (A:=A) (B:=B) (L:=L) (k:=k) λz hz=>h1 z (VR _ (adI.mp hz))
   rwa [aci]at this
  rw[UQ]at h3;refine bU (O8 (xs:=l) (d:=s) rfl (bU (yZ (d:=s) rfl rfl rfl 112 (K23.O7 (xs:=l) (ys:=(wit s).reverse) rfl (r:=.d (.tup (wit s).reverse)) ?_ rfl (by rw[aci];omega) ?_))))
  ·show(gN _ _ _>>=_)=_;rw[c1 (x:=.d s) (z:=.d (.tup (wit s))) rfl (ku hs)];rfl
  ·refine⟨_,?_,done++[s],l++(wit s).reverse,some (.d s),rfl,λz hz=>?_,?_,rfl⟩
   ·rw[Y4,ab2,WL,UQ];omega
   ·rcases Vk.mp hz with hz|hz
    ·exact h1 z (VR _ hz)
    ·exact Mj hs z (adI.mp hz)
   ·rw[Y4,ab2,WL,<-h2];simp
variable{A B L:List Str}{k:Nat}{d:D}
def mx(l:List Int):Int:=l.foldl (λa b=>if b>a then b else a) 0
noncomputable def dp:Nat->D->Int
 |0,_=>0
 |n+1,d=>mx ((wit d).map (dp n))+(if(bnd d).isEmpty then 0 else 1)
theorem MN(h:248):aK (g2 (gn false) 158 (gC (.tup [(.str "some"),(.str "every"),(.str "least")]))) (some (.d d)::tl)=.ok (!(bnd d).isEmpty):=by cases h<;>rfl
end K12
namespace K12
open PySem PySem.Spec PyProof.Rows DL K01 WP
open K23 (yC Co Jc AF)
variable{A B L:List Str}{k:Nat}{d:D}
theorem yG(l:131):deps (l.map .str)=0:=by
 induction l with
 |nil=>rfl
 |cons x l ih=>show max 0 (deps (l.map .str))=0;rw[ih];rfl
theorem strs_map(l:131):strsOf (l.map .str)=some l:=by
 induction l with
 |nil=>rfl
 |cons x l ih=>show(strsOf (l.map .str)).map (x::·)=_;rw[ih];rfl
theorem KI(x:Str)(fs:131):inD (.str x) (fs.map .str)=fs.any λw=>w==x:=by unfold inD;rw[abH];congr 1
theorem rS(neg:Bool)(x:Str)(l:131){r:R}(hr:i7 r=.ok (l.map .str)):gn neg (.d (.str x)) r=.ok (.d (.bl (if neg then !(l.any λw=>w==x)else l.any λw=>w==x))):=by unfold gn;rw[hr,aT,if_pos ⟨by rw[yG];omega,Vb _⟩];show M.ok (R.d (.bl (if neg=true then !inD (.str x) (l.map .str)else inD (.str x) (l.map .str))))=_;rw[KI]
theorem bJ{g:G R}{env:Ev}{b:Bool}(h:g env=.ok (.d (.bl b))):aK g env=.ok b:=by show(g env>>=_)=_;rw[h];rfl
theorem pN(x:Str)(l:131):(l.any λw=>w==x)=true↔x∈l:=by
 rw[Yn];constructor
 ·rintro⟨w,h1,h2⟩;rw[<-beq_iff_eq.mp h2];exact h1
 ·exact λh=>⟨x,h,beq_self_eq_true x⟩
theorem J_{ge:G R}{env:Ev}{x:Str}(h:ge env=.ok (.d (.str x)))(hx:isLet x=true):uR ge env=.ok ([.str x],env):=by unfold uR;rw[h,aT];show(if isLet x=true then M.ok ([D.str x],env)else .bad)=_;rw[if_pos hx]
theorem MR{act:Ev->M (List D×Ev)}{gts:G Bool}{α:Type}{p:α->Bool}{h f:α->D}{rest:Ev}:∀(ys:List α),(∀y∈ys,gts (some (.d (h y))::rest)=.ok (p y)/\(p y=true->act (some (.d (h y))::rest)=.ok ([f y],some (.d (h y))::rest)))->∀z:Option S,∃z',cH (aJ 0) gts act (ys.map h) (z::rest)=.ok ((ys.filter p).map f,z'::rest)
 |[],_,z=>⟨z,rfl⟩
 |y::ys,H,z=>by
  obtain⟨z',ih⟩:=MR ys (λy hy=>H y (UN _ hy)) (some (.d (h y)));obtain⟨h1,h2⟩:=H y UO;refine⟨z',?_⟩;rw[Vl];unfold cH;show(gts (some (.d (h y))::rest)>>=_)=_;rw[h1,aT,ZO];cases q:p y with
  |false=>exact ih
  |true=>
   show(act (some (.d (h y))::rest)>>=_)=_;rw[h2 q,aT];show(cH (aJ 0) gts act (ys.map h) (some (.d (h y))::rest)>>=_)=_;rw[ih];rfl
theorem Q4{env:Ev}{cap:249}{gi:244}{gts:G Bool}{xs:131}(p:Str->Bool)(hi:gi env=.ok (xs.map .str))(hl:xs.length<=10000)
  (H:∀x∈xs,gts (some (.d (.str x))::cE 0 cap env)=.ok (p x)/\isLet x=true):xD 1 cap gi (aJ 0) gts (af 0) env=.ok (xs.filter p):=by obtain⟨z,e⟩:=MR (α:=Str) (gts:=gts) (p:=p) (act:=uR (af 0)) (h:=D.str) (f:=D.str) (rest:=cE 0 cap env) xs (λx hx=>⟨(H x hx).1,λ_=>J_ rfl (H x hx).2⟩) none;unfold xD jC;rw[hi,aT,if_pos (by rw[UL];exact hl)];show(cH (aJ 0) gts (uR (af 0)) (xs.map .str) (none::cE 0 cap env)>>=_)=_;rw[e];show M.ok (zW ((xs.filter p).map .str))=_;rw[zX]
def jL(l:131):List Str:=fL (gc l)
theorem dM{x:Str}{l:131}:x∈jL l↔x∈l:=(gZ _).mem_iff.trans (jg l x)
theorem yF{l:131}(h:∀x∈l,isLet x=true):(gc l).length<=26:=vf (sU l) λx hx=>h x ((jg l x).mp hx)
theorem By{l:131}(h:∀x∈l,isLet x=true):(jL l).length<=26:=by have:=yF h;unfold jL;rw[(gZ _).length_eq];exact this
theorem Bx{g:G (List Str)}{env:Ev}{l:131}(h:g env=.ok l)(hl:∀x∈l,isLet x=true):mH g env=.ok (.l .fresh ((jL l).map .str)):=by unfold mH;rw[h,aT,if_pos (Xg (yF hl) 120)];rfl
noncomputable def bF:Nat->D->List Str
 |0,_=>[]
 |n+1,d=>if(bnd d).isEmpty then jL (dJ d++(wit d).flatMap (bF n))else jL (((wit d).flatMap (bF n)).filter λx=>!((dJ d).any λw=>w==x))
theorem K4(h:248):(dJ d).length<=2:=by cases h<;>exact UU rfl
theorem pX(h:248):(own d).length<=2:=by cases h<;>exact UU rfl
variable(hL:∀x∈L,isLet x=true)
include hL
theorem vh(h:248):∀x∈dJ d,isLet x=true:=λx hx=>hL x (gv h x hx)
theorem jW:∀(n:Nat){k:Nat}{d:D},Sy A B L k d->∀x∈bF n d,isLet x=true
 |0,_,_,_,x,hx=>by cases hx
 |n+1,k,d,h,x,hx=>by
  obtain⟨j,rfl⟩:=b7 h;have inner:∀x∈(wit d).flatMap (bF n),isLet x=true:=λx hx=>by obtain⟨s,hs,hx⟩:=Wh.mp hx;exact jW n (cL h s hs) x hx
  unfold bF at hx;split at hx
  ·rcases Vk.mp (dM.mp hx)with hx|hx
   ·exact vh hL h x hx
   ·exact inner x hx
  ·exact inner x ((Wf.mp (dM.mp hx)).1)
theorem mE(n:Nat)(h:248):(bF n d).length<=26:=by
 cases n with
 |zero=>exact Vb _
 |succ n=>
  obtain⟨j,rfl⟩:=b7 h;have inner:∀x∈(wit d).flatMap (bF n),isLet x=true:=λx hx=>by obtain⟨s,hs,hx⟩:=Wh.mp hx;exact jW hL n (cL h s hs) x hx
  unfold bF;split
  ·exact By λx hx=>(Vk.mp hx).elim (vh hL h x) (inner x)
  ·exact By λx hx=>inner x (Wf.mp hx).1
theorem tu{l:List D}(n:Nat)(h:∀s∈l,Sy A B L k s):(l.flatMap (bF n)).length<=26*l.length:=by
 induction l with
 |nil=>exact Vb _
 |cons s l ih=>
  have h1:=ih λx hx=>h x (UN _ hx);have h2:=mE hL n (h s UO);rw[VN,UQ,Vt];omega
theorem sD{inner:131}(h:248)(hi:∀x∈inner,isLet x=true)(hn:inner.length<=2600):
  jM [.d d,.bor (inner.map .str)]=.ok (.l .fresh ((if(bnd d).isEmpty then jL (dJ d++inner)else jL (inner.filter λx=>!((dJ d).any λw=>w==x))).map .str)):=by
 have h2:=K4 h;refine dc (cF (r:=.l .fresh ((dJ d).map .str)) (x:=.own ((dJ d).map .str)) (c1 (x:=.d d) (z:=.l .fresh ((dJ d).map .str)) rfl (jy h)) rfl ?_);refine bU (iH (MN h) (λq=>?_) λq=>g9 ?_)
 ·have q:(bnd d).isEmpty=false:=by simpa using q
  rw[q];refine b_ (r:=.l .fresh ((jL (inner.filter λx=>!((dJ d).any λw=>w==x))).map .str)) (Bx (Q4 (xs:=inner) _ rfl 112 λx hx=>⟨bJ (two (x:=.d (.str x)) (y:=.l .own ((dJ d).map .str)) rfl rfl (rS true x (dJ d) rfl)),hi x hx⟩) λx hx=>hi x (Wf.mp hx).1) rfl ?_;rfl
 ·have q:(bnd d).isEmpty=true:=by simpa using q
  rw[q];have hc:gX (.l .own ((dJ d).map .str)) (.l .bor (inner.map .str))=.ok (.l .fresh ((dJ d++inner).map .str)):=by show(if((dJ d).map D.str).length+(inner.map D.str).length<=sizeLine then M.ok (R.l .fresh ((dJ d).map D.str++inner.map D.str))else .bad)=_;rw[if_pos (by rw[V6,UL,UL];omega),VB]
  have hall:∀x∈dJ d++inner,isLet x=true:=λx hx=>(Vk.mp hx).elim (vh hL h x) (hi x);refine b_ (r:=.l .fresh ((jL (dJ d++inner)).map .str)) (Bx (l:=dJ d++inner) ?_ hall) rfl rfl;show(ah _ ay _>>=_)=_;rw[oM (two (x:=.l .own ((dJ d).map .str)) (y:=.l .bor (inner.map .str)) rfl rfl hc),aT];show(fY (.l .fresh ((dJ d++inner).map .str))>>=λxs=>(match strsOf xs with
   |some ss=>if(gc ss).length<64 then M.ok ss else .bad
   |none=>.bad))=_
  show(match strsOf ((dJ d++inner).map .str)with
   |some ss=>if(gc ss).length<64 then M.ok ss else .bad
   |none=>.bad)=_
  rw[strs_map];show(if(gc (dJ d++inner)).length<64 then M.ok (dJ d++inner)else .bad)=_;rw[if_pos (Xg (yF hall) 120)]
end K12
namespace K12
open PySem PySem.Spec PyProof.Rows DL K01 WP
variable{A B L:List Str}{k:Nat}{d:D}
theorem sO(h:248)(q:(bnd d).isEmpty=false){tl:Ev}:∃a,bnd d=[a]/\own d=[]/\g2 aI (af 0) (nh 162) (some (.d d)::tl)=.ok (.d (.str a)):=by
 cases h with
 |some _ _=>exact⟨_,rfl,rfl,rfl⟩
 |every _ _=>exact⟨_,rfl,rfl,rfl⟩
 |least _ _ _=>exact⟨_,rfl,rfl,rfl⟩
 |_=>exact absurd (show true=false from q) 120
noncomputable def fq:Nat->D->List Str->List Str
 |0,_,_=>[]
 |n+1,d,b=>((own d).filter λx=>!(b.any λw=>w==x))++(wit d).flatMap λs=>fq n s (b++bnd d)
theorem jV:∀{k:Nat}{d:D},Sy A B L k d->∀b,(fq k d b).length<=2*(bx k d).length
 |0,d,h,_=>Vb _
 |k+1,d,h,b=>by
  have h1:((own d).filter λx=>!(b.any λw=>w==x)).length<=2:=Vr (YA _ _) (pX h);have h2:∀l:List D,(∀s∈l,Sy A B L k s)->(l.flatMap λs=>fq k s (b++bnd d)).length<=2*(l.flatMap (bx k)).length:=by
   intro l
   induction l with
   |nil=>exact λ_=>Vb _
   |cons s l ih=>
    intro hl;have e1:=ih λx hx=>hl x (UN _ hx);have e2:=jV (hl s UO) (b++bnd d);rw[VN,VN,UQ,UQ];omega
  have h3:=h2 (wit d) (cL h);show(_++_:List Str).length<=2*(d::(wit d).flatMap (bx k)).length;rw[UQ,Vt];omega
theorem Bh(h:Sy A B L (k+1) d)(x:Str):x∈bF (k+1) d↔x∉bnd d/\(x∈own d\/∃s∈wit d,x∈bF k s):=by
 have E:bF (k+1) d=if(bnd d).isEmpty then jL (dJ d++(wit d).flatMap (bF k))else jL (((wit d).flatMap (bF k)).filter λx=>!((dJ d).any λw=>w==x)):=rfl
 rw[E];by_cases q:(bnd d).isEmpty=true
 ·rw[if_pos q];have e:bnd d=[]:=by simpa using q
  rw[dM,zd h,e,V7,Vk,Wh];simp
 ·rw[if_neg q];obtain⟨a,e1,e2,_⟩:=sO h (by simpa using q) (tl:=[]);rw[dM,Wf,zd h,e1,e2,adX,Wh];constructor
  ·rintro⟨h1,h2⟩;refine⟨λhx=>?_,.inr h1⟩;rw[(pN x [a]).mpr hx]at h2;cases h2
  ·rintro⟨h1,h2⟩;refine⟨h2.elim (λz=>by cases z) id,?_⟩;have:¬([a].any λw=>w==x)=true:=λz=>h1 ((pN x [a]).mp z);rw[adJ]at this;rw[this];rfl
theorem pV:∀{k:Nat}{d:D},Sy A B L k d->∀(b:131)(x:Str),x∈fq k d b↔x∈bF k d/\x∉b
 |0,d,h,b,x=>by obtain⟨_,e⟩:=b7 h;cases e
 |k+1,d,h,b,x=>by
  rw[Bh h];show x∈_++_↔_;rw[Vk,Wf,Wh];have e:(!(b.any λw=>w==x))=true↔x∉b:=by rw[ac5,<-adJ,pN]
  rw[e];constructor
  ·rintro(⟨h1,h2⟩|⟨s,hs,h3⟩)
   ·refine⟨⟨λhx=>?_,.inl h1⟩,h2⟩;by_cases q:(bnd d).isEmpty=true
    ·have e:bnd d=[]:=by simpa using q
     rw[e]at hx;cases hx
    ·obtain⟨a,e1,e2,_⟩:=sO h (by simpa using q) (tl:=[]);rw[e2]at h1;cases h1
   ·have h4:=(pV (cL h s hs) _ x).mp h3;rw[Vk,not_or]at h4;exact⟨⟨h4.2.2,.inr ⟨s,hs,h4.1⟩⟩,h4.2.1⟩
  ·rintro⟨⟨h1,h2|⟨s,hs,h2⟩⟩,h3⟩
   ·exact .inl ⟨h2,h3⟩
   ·exact .inr ⟨s,hs,(pV (cL h s hs) _ x).mpr ⟨h2,by rw[Vk,not_or];exact⟨h3,h1⟩⟩⟩
variable{A B L:List Str}{k:Nat}{d:D}
def cj(A B:131):D:=.tup [.tup (A.map .str),.tup (B.map .str)]
noncomputable def kP:D->Str
 | .tup (.str _::.str n::_)=>n
 |_=>Xs
def qZ(P:131)(d:D):Bool:=!cV (.str (wd d)) (.str "mark")||P.any λw=>w==kP d
def qY(Q:131)(d:D):Bool:=!cV (.str (wd d)) (.str "arrow")||Q.any λw=>w==kP d
theorem rD(h:248)(P Q:131):gV [.d d,.d (cj P Q)]=.ok (.d (.bl (qZ P d&&qY Q d))):=by
 cases h with
 |mark h1 h2=>
  rename_i n a;refine dc (bU (CO (r:=.d (cj P Q)) rfl rfl rfl (bU (fj rfl (b_ (two (x:=.d (.str n)) (y:=.d (.tup (P.map .str))) rfl rfl (rS false n P rfl)) rfl ?_)))));show O.rt (R.d (.bl (P.any λw=>w==n)))=.rt (.d (.bl ((P.any λw=>w==n)&&true)));rw[aeV]
 |arrow h1 h2 h3=>
  rename_i n a b;exact dc (bU (CO (r:=.d (cj P Q)) rfl rfl rfl (bU (rV rfl (g9 (bU (fj rfl (b_ (two (x:=.d (.str n)) (y:=.d (.tup (Q.map .str))) rfl rfl (rS false n Q rfl)) rfl rfl))))))))
 |_=>rfl
variable{A B L:List Str}{k:Nat}{d:D}
theorem kF{g h:G Bool}{env:Ev}{a b:Bool}(h1:g env=.ok a)(h2:a=true->h env=.ok b):bK g h env=.ok (a&&b):=by
 unfold bK;rw[h1,aT];cases a with
 |true=>exact h2 rfl
 |false=>rfl
theorem iD{g h:G Bool}{env:Ev}{a b:Bool}(h1:g env=.ok a)(h2:a=false->h env=.ok b):bY g h env=.ok (a||b):=by
 unfold bY;rw[h1,aT];cases a with
 |false=>exact h2 rfl
 |true=>rfl
theorem xR(c:Int):∃L:List Str,iz [.d (.int c)]=.ok (.l .fresh 382)/\L.length=4/\∀x∈L,isLet x=true:=by
 refine⟨(U8 4).map λ(k:Nat)=>⟨#[97+((c+7*(k:Int))%26).toNat]⟩,dc (b_ (r:=.l .fresh (((U8 4).map λ(k:Nat)=>(⟨#[97+((c+7*(k:Int))%26).toNat]⟩:Str)).map .str)) ?_ rfl rfl),by simp,λx hx=>?_⟩
 ·rw[Wc];exact uZ (α:=Nat) (h:=dN) (λ(k:Nat)=>.str ⟨#[97+((c+7*(k:Int))%26).toNat]⟩) (Iq rfl 120) 229 λk hk=>⟨_,WP.two rfl (WP.two (WP.two rfl (WP.two rfl rfl (su 7 k 120 120)) (d_ _ _)) rfl (bP _ 26 120)) (yV _ 112 112),rfl⟩
 ·obtain⟨k,_,rfl⟩:=Vc.mp hx;unfold isLet;show(decide (97<=97+((c+7*(k:Int))%26).toNat)&&decide (97+((c+7*(k:Int))%26).toNat<123))=true;rw[Vg,decide_eq_true_eq,decide_eq_true_eq];omega
theorem iU{m:Md}{L:131}(i:Int)(h0:0<=i)(hi:i<L.length):∃x∈L,aI (.l m 382) (.d (.int i))=.ok (.d (.str x)):=oW (h:=D.str) _ rfl i h0 hi
theorem Bk(A:131):bB true (.d (.tup (A.map .str))) (.d (.tup []))=.ok (.d (.bl (!A.isEmpty))):=by unfold bB;rw[if_pos ⟨by show deps (A.map .str)+1<=60;rw[yG];decide,by show 0+1<=60;decide⟩];cases A<;>rfl
theorem Mu(n:Int)(h4:L.length=4)(hA:A.length<=1000)(hB:B.length<=1000):∃s,gT [.d (.int n),.d (cj A B),.bor 382]=.ok (.d s)/\Sy A B L 1 s/\dep s<=2/\(bx 1 s).length<=1:=by
 obtain⟨a,ha,ea⟩:=iU (m:=.bor) (L:=L) (n/3%4) 112 112;obtain⟨b,hb,eb⟩:=iU (m:=.bor) (L:=L) (n/12%4) 112 112;have key:Wp (gT [.d (.int n),.d (cj A B),.bor 382]) λr=>∃s,r=.d s/\Sy A B L 1 s/\dep s<=2/\(bx 1 s).length<=1:=by
  refine xM (cF (WP.two rfl (WP.two (WP.two rfl rfl (c_ n 3 120 120)) rfl (bP _ 4 120)) ea) rfl (cF (WP.two rfl (WP.two (WP.two rfl rfl (c_ n 12 120 120)) rfl (bP _ 4 120)) eb) rfl ?_));refine bU (iH (c:=(n%3==0)&&!A.isEmpty) (kF (bJ (WP.two (WP.two rfl rfl (bP n 3 120)) rfl (eq_int false _ _))) λ_=>bJ (WP.two rfl rfl (Bk A))) (λq=>?_) λ_=>g9 (bU (iH (c:=(n%3==1)&&!B.isEmpty) (kF (bJ (WP.two (WP.two rfl rfl (bP n 3 120)) rfl (eq_int false _ _))) λ_=>bJ (WP.two rfl rfl (Bk B))) (λq=>?_) λ_=>g9 ?_)))
  ·have hp:0<A.length:=by
    rw[Vg]at q;cases A with
    |nil=>exact absurd q.2 120
    |cons x l=>exact ZI _
   obtain⟨x,hx,ex⟩:=oW (xs:=A) (h:=D.str) (.d (.tup (A.map .str))) rfl (n/48%A.length) (WU _ 112) (Xe _ 112);have el:eV [.d (.tup (A.map .str))]=.ok (.d (.int A.length)):=by show M.ok (R.d (.int ((A.map D.str).length:Nat)))=_;rw[UL]
   exact b_ (r:=.d (.tup [.str "mark",.str x,.str a])) (di (aS rfl rfl (aS (WP.two rfl (WP.two (WP.two rfl rfl (c_ n 48 120 120)) (n1 rfl el) (bP _ _ 112)) ex) rfl (aS rfl rfl bA))) (UU rfl)) rfl ⟨_,rfl,.tup [.str "mark",.str x,.str a],rfl,.mark hx ha,by show 0+1<=2;decide,UW 1⟩
  ·have hp:0<B.length:=by
    rw[Vg]at q;cases B with
    |nil=>exact absurd q.2 120
    |cons x l=>exact ZI _
   obtain⟨x,hx,ex⟩:=oW (xs:=B) (h:=D.str) (.d (.tup (B.map .str))) rfl (n/48%B.length) (WU _ 112) (Xe _ 112);have el:eV [.d (.tup (B.map .str))]=.ok (.d (.int B.length)):=by show M.ok (R.d (.int ((B.map D.str).length:Nat)))=_;rw[UL]
   exact b_ (r:=.d (.tup [.str "arrow",.str x,.str a,.str b])) (di (aS rfl rfl (aS (WP.two rfl (WP.two (WP.two rfl rfl (c_ n 48 120 120)) (n1 rfl el) (bP _ _ 112)) ex) rfl 237)) (UU rfl)) rfl ⟨_,rfl,.tup [.str "arrow",.str x,.str a,.str b],rfl,.arrow hx ha hb,by show 0+1<=2;decide,UW 1⟩
  ·exact b_ (r:=.d (.tup [.str "same",.str a,.str b])) (di (aS rfl rfl 237) (UU rfl)) rfl ⟨_,rfl,.tup [.str "same",.str a,.str b],rfl,.same ha hb,by show 0+1<=2;decide,UW 1⟩
 obtain⟨r,e,s,rfl,h⟩:=key;exact⟨s,e,h⟩
variable{A B L:List Str}
abbrev Ent:=Nat×D×Int×Int
abbrev ent(p:Ent):D:=.tup [p.2.1,.int p.2.2.1,.int p.2.2.2]
structure g7(A B L:131)(n:Nat)(s:D):Prop where
 pos:1<=n
 sy:Sy A B L n s
 dp:dep s<=n+1
 len:(bx n s).length<=n
theorem g7.wrap{n:Nat}{s d:D}(h:g7 A B L n s)(hw:wit d=[s])(hy:Sy A B L (n+1) d)(hd:dep d<=dep s+1):g7 A B L (n+1) d where
 pos:=by omega
 sy:=hy
 dp:=by have:=h.dp;omega
 len:=by show(d::(wit d).flatMap (bx n)).length<=n+1;rw[hw,Vt,VN,List.flatMap_nil,V7];have:=h.len;omega
theorem Kr(a b:D)(ha:dep a=0):dep (.tup [a,b])<=dep b+1:=by simp[dep,deps,ha]
theorem Er(a b c:D)(ha:dep a=0)(hb:dep b=0):dep (.tup [a,b,c])<=dep c+1:=by simp[dep,deps,ha,hb]
theorem GZ(a b c e:D)(ha:dep a=0)(hb:dep b=0)(hc:dep c=0):dep (.tup [a,b,c,e])<=dep e+1:=by simp[dep,deps,ha,hb,hc]
theorem DT(n:Int)(h4:L.length=4){p:Ent}(hp:g7 A B L p.1 p.2.1):∃q:Ent,gm [.d (.int n),.bor 382,.d (ent p)]=.ok (.d (ent q))/\g7 A B L q.1 q.2.1/\q.1=p.1+1:=by
 obtain⟨m,s,a,b⟩:=p;obtain⟨x,hx,ex⟩:=iU (m:=.bor) (L:=L) (n/5%4) 112 112;have hp:g7 A B L m s:=hp;have hy:=hp.sy;obtain⟨xs,rfl⟩:=hy.tup;have key:Wp (gm [.d (.int n),.bor 382,.d (ent (m,.tup xs,a,b))]) λr=>∃q:Ent,r=.d (ent q)/\g7 A B L q.1 q.2.1/\q.1=m+1:=by
  refine xM (uq (d:=ent (m,.tup xs,a,b)) rfl rfl rfl (cF (WP.two rfl (WP.two (WP.two rfl rfl (c_ n 5 120 120)) rfl (bP _ 4 120)) ex) rfl (bU (iH (c:=(n%5==0)||decide (2<a)) (iD (bJ (WP.two (WP.two rfl rfl (bP n 5 120)) rfl (eq_int false _ _))) λ_=>rfl) (λ_=>?_) λ_=>g9 (bU (iH (c:=n%5==4) (bJ (WP.two (WP.two rfl rfl (bP n 5 120)) rfl (eq_int false _ _))) (λ_=>?_) λ_=>g9 ?_))))))
  ·exact b_ (r:=.d (ent (m+1,.tup [.str "not",.tup xs],a,b+1))) (di (aS (di 237 (UU rfl)) rfl (aS rfl rfl (aS (WP.two rfl rfl (d_ _ _)) rfl bA))) (UU rfl)) rfl ⟨_,rfl,(m+1,.tup [.str "not",.tup xs],a,b+1),rfl,hp.wrap rfl (.not hy) (Kr _ _ rfl),rfl⟩
  ·obtain⟨v,hv,ev⟩:=oW (xs:=[(9:Int),3]) (h:=D.int) (.l .fresh [.int 9,.int 3]) rfl (n/200%2) 112 (by show _<2;omega);have v0:0<v:=by
    rcases UR.mp hv with rfl|hv
    ·decide
    ·rw[UM.mp hv];decide
   exact b_ (r:=.d (ent (m+1,.tup [.str "least",.int (1+n/20%v),.str x,.tup xs],a+1,b+1))) (di (aS (di (aS rfl rfl (aS (WP.two rfl (WP.two (WP.two rfl rfl (c_ n 20 120 120)) (WP.two (dh 237 (UU rfl)) (WP.two (WP.two rfl rfl (c_ n 200 120 120)) rfl (bP _ 2 120)) ev) (bP _ v v0)) (d_ _ _)) rfl 237)) (UU rfl)) rfl (aS (WP.two rfl rfl (d_ _ _)) rfl (aS (WP.two rfl rfl (d_ _ _)) rfl bA))) (UU rfl)) rfl ⟨_,rfl,(m+1,.tup [.str "least",.int (1+n/20%v),.str x,.tup xs],a+1,b+1),rfl,hp.wrap rfl (.least (by have:=WU (n/20) (show v≠0 by omega);omega) hx hy) (GZ _ _ _ _ rfl rfl rfl),rfl⟩
  ·obtain⟨v,hv,ev⟩:=iU (m:=.fresh) (L:=["some","every"]) (n%2) 112 (by show _<2;omega);refine b_ (r:=.d (ent (m+1,.tup [.str v,.str x,.tup xs],a+1,b+1))) (di (aS (di (aS (WP.two (dh 237 (UU rfl)) (WP.two rfl rfl (bP n 2 120)) ev) rfl 237) (UU rfl)) rfl (aS (WP.two rfl rfl (d_ _ _)) rfl (aS (WP.two rfl rfl (d_ _ _)) rfl bA))) (UU rfl)) rfl ⟨_,rfl,(m+1,.tup [.str v,.str x,.tup xs],a+1,b+1),rfl,hp.wrap rfl ?_ (Er _ _ _ rfl rfl),rfl⟩;rcases UR.mp hv with rfl|hv
   ·exact .some hx hy
   ·rw[UM.mp hv];exact .every hx hy
 obtain⟨r,e,q,rfl,h⟩:=key;exact⟨q,e,h⟩
noncomputable def dS:List Ent->Nat
 |[]=>0
 |p::l=>p.1+dS l
theorem vz(l m:List Ent):dS (l++m)=dS l+dS m:=by
 induction l with
 |nil=>exact(abK _).symm
 |cons p l ih=>show p.1+dS (l++m)=p.1+dS l+dS m;rw[ih];omega
theorem BC{st:List Ent}(h:∀p∈st,g7 A B L p.1 p.2.1):st.length<=dS st:=by
 induction st with
 |nil=>exact UW _
 |cons p l ih=>
  have h1:=ih λx hx=>h x (UN _ hx);have h2:=(h p UO).pos;show l.length+1<=p.1+dS l;omega
theorem Bj{st:List Ent}(h:∀p∈st,g7 A B L p.1 p.2.1):∀p∈st,p.1+st.length<=dS st+1:=by
 induction st with
 |nil=>exact λp hp=>by cases hp
 |cons q l ih=>
  intro p hp;have hl:∀p∈l,g7 A B L p.1 p.2.1:=λx hx=>h x (UN _ hx);have h2:=(h q UO).pos;show p.1+(l.length+1)<=q.1+dS l+1;rcases UR.mp hp with rfl|hp
  ·have:=BC hl;omega
  ·have:=ih hl p hp;omega
theorem Nj(f:Ent->Int)(l:List Ent):intsOf (l.map λx=>.int (f x))=some (l.map f):=by
 induction l with
 |nil=>rfl
 |cons x l ih=>
  show(intsOf (l.map λx=>.int (f x))).map (f x::·)=_;rw[ih];rfl
theorem Bg{g:G R}{env:Ev}{st:List Ent}{f:Ent->Int}(h:g env=.ok (.l .fresh (st.map λp=>.int (f p)))):tG 0 g env=.ok (.d (.int (l6 0 (st.map f)))):=by
 unfold tG;rw[h,aT];show(match intsOf (st.map λp=>.int (f p))with
  |some ns=>M.ok (R.d (.int (l6 0 ns)))
  |none=>.bad)=_
 rw[Nj]
theorem AX{l:List D}{n:Nat}(h:∀d∈l,dep d<=n):deps l<=n:=by
 induction l with
 |nil=>exact Vb _
 |cons d l ih=>
  show max (dep d) (deps l)<=n;exact Nat.max_le.mpr ⟨h d UO,ih λx hx=>h x (UN _ hx)⟩
theorem Hy{st:List Ent}(h:∀p∈st,g7 A B L p.1 p.2.1){N:Nat}(hN:∀p∈st,p.1<=N):((st.map λp=>p.2.1).flatMap (bx N)).length<=dS st:=by
 induction st with
 |nil=>exact Vb _
 |cons p l ih=>
  have h1:=ih (λx hx=>h x (UN _ hx)) λx hx=>hN x (UN _ hx);have h2:=h p UO;have h3:=mQ h2.sy (hN p UO);have h4:=h2.len;show((p.2.1::l.map λp=>p.2.1).flatMap (bx N)).length<=p.1+dS l;rw[VN,UQ,h3];omega
theorem vU{st:List Ent}(h:∀p∈st,g7 A B L p.1 p.2.1)(h1:st.length≠1)(hl:st.length<=100){v:Str}(hv:v="and"\/v="or"):g7 A B L (dS st+1) (.tup [.str v,.tup (st.map λp=>p.2.1)]):=by
 have hm:∀p∈st,p.1+1<=dS st:=λp hp=>by have:=Bj h p hp;have:0<st.length:=List.length_pos_of_mem hp;omega
 have TV:∀s∈st.map λp=>p.2.1,Sy A B L (dS st) s:=λs hs=>by obtain⟨p,hp,rfl⟩:=Vc.mp hs;exact(h p hp).sy.up (by have:=hm p hp;omega)
 have hw:wit (.tup [.str v,.tup (st.map λp=>p.2.1)])=st.map λp=>p.2.1:=by rcases hv with rfl|rfl<;>rfl
 refine⟨by omega,?_,?_,?_⟩
 ·rcases hv with rfl|rfl
  ·exact .and TV (by rw[UL];exact hl)
  ·exact .or TV (by rw[UL];exact hl)
 ·have:deps (st.map λp=>p.2.1)<=dS st:=AX λs hs=>by obtain⟨p,hp,rfl⟩:=Vc.mp hs;have:=(h p hp).dp;have:=hm p hp;omega
  simp[dep,deps];omega
 ·show(_::(wit _).flatMap (bx (dS st))).length<=_;rw[hw,Vt];have:=Hy h (N:=dS st) λp hp=>by have:=hm p hp;omega
  omega
theorem xQ(n:Int){st:List Ent}(h:∀p∈st,g7 A B L p.1 p.2.1)(hl:st.length<=100):∃q:Ent,f6 [.d (.int n),.bor (st.map ent)]=.ok (.d (ent q))/\g7 A B L q.1 q.2.1/\q.1<=dS st+1:=by
 have key:Wp (f6 [.d (.int n),.bor (st.map ent)]) λr=>∃q:Ent,r=.d (ent q)/\g7 A B L q.1 q.2.1/\q.1<=dS st+1:=by
  refine xM (cF (r:=.d (.tup (st.map λp=>p.2.1))) (n1 (uZ (α:=Ent) (xs:=st) (h:=ent) (λp=>p.2.1) rfl 112 λp hp=>⟨_,rfl,rfl⟩) rfl) rfl ?_);refine cF (Bg (f:=λp=>p.2.2.1) (uZ (α:=Ent) (xs:=st) (h:=ent) (λp=>.int p.2.2.1) rfl 112 λp hp=>⟨_,rfl,rfl⟩)) rfl ?_;refine cF (Bg (f:=λp=>p.2.2.2) (uZ (α:=Ent) (xs:=st) (h:=ent) (λp=>.int p.2.2.2) rfl 112 λp hp=>⟨_,rfl,rfl⟩)) rfl ?_;have el:eV [.l .bor (st.map ent)]=.ok (.d (.int st.length)):=by show M.ok (R.d (.int ((st.map ent).length:Nat)))=_;rw[UL]
  refine bU (iH (c:=((st.length:Int)==1)) (bJ (WP.two (n1 rfl el) rfl (eq_int false _ _))) (λq=>?_) λq=>g9 ?_)
  ·have q:st.length=1:=by have:=beq_iff_eq.mp q;omega
   match st,q,h with
   |[p],_,h=>exact b_ (r:=.d (ent p)) (WP.two (x:=.l .bor [ent p]) rfl rfl rfl) rfl ⟨_,rfl,p,rfl,h p UO,by show p.1<=p.1+0+1;omega⟩
  ·have q:st.length≠1:=λz=>by rw[z]at q;cases q
   obtain⟨v,hv,ev⟩:=iU (m:=.fresh) (L:=["and","or"]) (n%2) 112 (by show _<2;omega);have hv:v="and"\/v="or":=by
    rcases UR.mp hv with rfl|hv
    ·exact .inl rfl
    ·exact .inr (UM.mp hv)
   exact b_ (r:=.d (ent (dS st+1,.tup [.str v,.tup (st.map λp=>p.2.1)],l6 0 (st.map λp=>p.2.2.1),l6 0 (st.map λp=>p.2.2.2)+1))) (di (aS (di (aS (WP.two (dh 237 (UU rfl)) (WP.two rfl rfl (bP n 2 120)) ev) rfl (aS rfl rfl bA)) (UU rfl)) rfl (aS rfl rfl (aS (WP.two rfl rfl (d_ _ _)) rfl bA))) (UU rfl)) rfl ⟨_,rfl,(dS st+1,.tup [.str v,.tup (st.map λp=>p.2.1)],l6 0 (st.map λp=>p.2.2.1),l6 0 (st.map λp=>p.2.2.2)+1),rfl,vU h q hl hv,UW _⟩
 obtain⟨r,e,q,rfl,h⟩:=key;exact⟨q,e,h⟩
variable{A B L:List Str}
theorem GS(xs:List D)(m:Nat)(hm:0<m):cutD xs none (some (-(m:Int)))=xs.take (xs.length-m):=by
 unfold DL.cutD;rw[HT.r6];have e:HT.bT xs.length xs.length (some (-(m:Int)))=xs.length-m:=by show(if -(m:Int)<0 then(-(m:Int)+(xs.length:Int)).toNat else min (-(m:Int)).toNat xs.length)=_;rw[if_pos 112];omega
 rw[e,ab6,Nat.sub_zero]
theorem GV(xs:List D)(m:Nat)(hm:0<m):cutD xs (some (-(m:Int))) none=xs.drop (xs.length-m):=by
 unfold DL.cutD;rw[HT.r6];have e:HT.bT xs.length 0 (some (-(m:Int)))=xs.length-m:=by show(if -(m:Int)<0 then(-(m:Int)+(xs.length:Int)).toNat else min (-(m:Int)).toNat xs.length)=_;rw[if_pos 112];omega
 rw[e];exact abl (by rw[WY];omega)
theorem KS(m:Md)(ys:List D)(z:D):aI (.l m (ys++[z])) (.d (.int (-1)))=.ok (.d z):=by
 have e:L2.kG (ys++[z]) (-1)=some z:=by unfold L2.kG L2.yU;simp;rw[if_pos 112,show(-1+((ys.length:Int)+1)).toNat=ys.length by omega];simp
 show(match L2.kG (ys++[z]) (-1)with
  |some d=>M.ok (R.d d)
  |none=>.bad)=_
 rw[e]
theorem yw(xs ys:List D)(h:xs.length+ys.length<=1000):bZ (.l .fresh xs) (.l .fresh ys)=.ok (.l .fresh (xs++ys)):=by show(if xs.length+ys.length<=sizeLine then M.ok (R.l .fresh (xs++ys))else .bad)=_;rw[if_pos (by rw[V6];omega)]
structure kE(A B L:131)(k:Nat)(st:List Ent):Prop where
 ok:∀p∈st,g7 A B L p.1 p.2.1
 sum:dS st<=k
theorem kE.len{k:Nat}{st:List Ent}(h:kE A B L k st):st.length<=k:=Vr (BC h.ok) h.sum
theorem kE.push{k:Nat}{st:List Ent}(h:kE A B L k st){q:Ent}(hq:g7 A B L q.1 q.2.1)(h1:q.1<=1):kE A B L (k+1) (st++[q]) where
 ok p hp:=by
  rcases Vk.mp hp with hp|hp
  ·exact h.ok p hp
  ·rw[UM.mp hp];exact hq
 sum:=by rw[vz];have:=h.sum;show dS st+(q.1+0)<=k+1;omega
theorem kE.swap{k c:Nat}{st:List Ent}(h:kE A B L k st){q:Ent}(hq:g7 A B L q.1 q.2.1)(h1:q.1<=dS (st.drop c)+1):kE A B L (k+1) (st.take c++[q]) where
 ok p hp:=by
  rcases Vk.mp hp with hp|hp
  ·exact h.ok p (List.mem_of_mem_take hp)
  ·rw[UM.mp hp];exact hq
 sum:=by
  have e:dS st=dS (st.take c)+dS (st.drop c):=by rw[<-vz,WM]
  rw[vz];have:=h.sum;show dS (st.take c)+(q.1+0)<=k+1;omega
theorem ne_nil{k:Nat}{l:List Ent}{p:Ent}(h:kE A B L k (l++[p]))(hk:k<=56):bB false (.l .own ((l++[p]).map ent)) (.l .fresh [])=.ok (.d (.bl false)):=by
 have hd:dep (.lst ((l++[p]).map ent))<=60:=by
  have:deps ((l++[p]).map ent)<=59:=AX λd hd=>by
   obtain⟨q,hq,rfl⟩:=Vc.mp hd;have h1:=(h.ok q hq).dp;have h2:=Bj h.ok q hq;have h3:=h.sum;have:dep (ent q)<=dep q.2.1+1:=by simp[dep,deps]
   rw[UQ]at h2;have:[p].length=1:=rfl;omega
  show deps ((l++[p]).map ent)+1<=60;omega
 unfold bB;rw[if_pos ⟨hd,by show 0+1<=60;decide⟩];cases l<;>rfl
theorem Me{v:Str}(hv:v="and"\/v="or"):g7 A B L 1 (.tup [.str v,.tup []]):=vU (st:=[]) (λp hp=>by cases hp) 120 120 hv
theorem uK{cs:List Int}(hc:cs.length<=56)(h4:L.length=4)(hA:A.length<=1000)(hB:B.length<=1000):∃q:Ent,ic [.bor (cs.map .int),.d (cj A B),.bor 382]=.ok (.d q.2.1)/\g7 A B L q.1 q.2.1/\q.1<=57:=by
 have key:Wp (ic [.bor (cs.map .int),.d (cj A B),.bor 382]) λr=>∃q:Ent,r=.d q.2.1/\g7 A B L q.1 q.2.1/\q.1<=57:=by
  have el:eV [.l .bor (cs.map .int)]=.ok (.d (.int cs.length)):=by show M.ok (R.d (.int ((cs.map D.int).length:Nat)))=_;rw[UL]
  refine xM (cF (r:=.l .fresh []) (x:=.own []) (dh bA (Vb _)) rfl (lN (Iq (n:=cs.length) (oM (n1 rfl el)) 112) (k_ (λk e=>∃st y4 y5 y6 y7 y8,e=[some (.bor (cs.map .int)),some (.d (cj A B)),some (.bor 382),some (.own (st.map ent)),y4,y5,y6,y7,y8]/\kE A B L k st) _ ⟨[],none,none,none,none,none,rfl,⟨(λp hp=>by cases hp),UW 0⟩⟩ ?_ ?_)))
  ·rintro k hk e ⟨st,y4,y5,y6,y7,y8,rfl,ok⟩;rw[UL,V_]at hk;refine⟨[some (.bor (cs.map .int)),some (.d (cj A B)),some (.bor 382),some (.own (st.map ent)),some (.d (dN k)),y5,y6,y7,y8],by rw[abd,List.getElem_range];rfl,?_⟩;have ec:aI (.l .bor (cs.map .int)) (.d (dN k))=.ok (.d (.int cs[k])):=pS (by rw[Vi,U3 hk];rfl);generalize hN:(cs[k]%18446744073709551616+613*(k:Int))*71993%998244353=N;have sl:=ok.len;refine cF (r:=.d (.int N)) (x:=.d (.int N)) (hN▸WP.two (WP.two (WP.two (WP.two (WP.two rfl rfl ec) (WP.two rfl rfl vA) (bP _ _ 120)) (WP.two rfl rfl (su 613 k 120 120)) (d_ _ _)) rfl (j_ _ 71993 120 120)) rfl (bP _ 998244353 120)) rfl ?_;refine cF (r:=.d (.int (N%7))) (x:=.d (.int (N%7))) (WP.two rfl rfl (bP N 7 120)) rfl (cF (r:=.d (.int (N/7))) (x:=.d (.int (N/7))) (WP.two rfl rfl (c_ N 7 120 120)) rfl ?_);generalize N%7=w;generalize N/7=r;have push:∀y8:Option S,Wp (eG 3 (bN (ak (gN (aD 3 K12.gT) (ah (af 7) (ah (af 1) 276))) (ak 132 (ak 132 aE)))) [some (.bor (cs.map .int)),some (.d (cj A B)),some (.bor 382),some (.own (st.map ent)),some (.d (dN k)),some (.d (.int N)),some (.d (.int w)),some (.d (.int r)),y8]) λo=>∃e,o=.nx e/\∃st y4 y5 y6 y7 y8,e=[some (.bor (cs.map .int)),some (.d (cj A B)),some (.bor 382),some (.own (st.map ent)),y4,y5,y6,y7,y8]/\kE A B L (k+1) st:=λy8=>by obtain⟨s,es,h1,h2,h3⟩:=Mu (A:=A) (B:=B) (L:=L) r h4 hA hB;refine yZ (xs:=st.map ent) (d:=ent (1,s,0,0)) rfl (di (aS (c3 (x:=.d (.int r)) (y:=.d (cj A B)) (w:=.l .bor 382) (z:=.d s) rfl rfl rfl es) rfl 237) (UU rfl)) rfl (by rw[UL];omega) ⟨_,rfl,st++[(1,s,0,0)],some (.d (dN k)),some (.d (.int N)),some (.d (.int w)),some (.d (.int r)),y8,?_,ok.push (q:=(1,s,0,0)) ⟨UW 1,h1,h2,h3⟩ (UW 1)⟩;rw[VB];rfl
   rcases abR st with rfl|⟨l,p,rfl⟩
   ·exact fj rfl (push y8)
   rw[abS]at ok sl push ⊢;have e0:=ne_nil ok 112;have hp:=ok.ok p 229;have mp:(l++[p]).map ent=l.map ent++[ent p]:=by rw[VB];rfl
   have lp:(l++[p]).length=l.length+1:=by rw[UQ];rfl
   have ei:aI (.l .own ((l++[p]).map ent)) (.d (.int (-1)))=.ok (.d (ent p)):=by rw[mp];exact KS _ _ _
   refine iH (c:=false||(decide (w<3)||decide (11<p.2.2.2))) (iD (bJ (WP.two rfl (dh bA (Vb _)) e0)) λ_=>iD rfl λ_=>bJ (WP.two (WP.two (WP.two rfl rfl ei) rfl rfl) rfl rfl)) (λ_=>push y8) λ_=>?_;have eL:eV [.l .own ((l++[p]).map ent)]=.ok (.d (.int ((l++[p]).length:Nat))):=by show M.ok (R.d (.int (((l++[p]).map ent).length:Nat)))=_;rw[UL]
   refine iH (c:=(w==3)&&decide (1<(((l++[p]).length:Nat):Int))) (kF (bJ (WP.two rfl rfl (eq_int false _ _))) λ_=>bJ (WP.two (n1 rfl eL) rfl rfl)) (λ_=>?_) λ_=>?_
   ·obtain⟨m,hm,em⟩:∃m:Nat,0<m/\(2:Int)+r/2%2=m:=⟨(2+r/2%2).toNat,by omega,by omega⟩;refine cF (r:=.d (.int m)) (x:=.d (.int m)) (em▸WP.two rfl (WP.two (WP.two rfl rfl (c_ r 2 120 120)) rfl (bP _ 2 120)) (d_ _ _)) rfl ?_;have hdr:((l++[p]).map ent).drop (((l++[p]).map ent).length-m)=((l++[p]).drop ((l++[p]).length-m)).map ent:=by rw[UL,ZW]
    have htk:((l++[p]).map ent).take (((l++[p]).map ent).length-m)=((l++[p]).take ((l++[p]).length-m)).map ent:=by rw[UL,ZV]
    obtain⟨q,eq,h1,h2⟩:=xQ (A:=A) (B:=B) (L:=L) r (st:=(l++[p]).drop ((l++[p]).length-m)) (λx hx=>ok.ok x (List.mem_of_mem_drop hx)) (by rw[WY];omega);refine jv (r:=.l .fresh (((l++[p]).take ((l++[p]).length-m)++[q]).map ent)) (x:=.own (((l++[p]).take ((l++[p]).length-m)++[q]).map ent)) (WP.two (x:=.l .fresh (((l++[p]).take ((l++[p]).length-m)).map ent)) (y:=.l .fresh [ent q]) ?_ (dh (aS (c2 (x:=.d (.int r)) (y:=.l .fresh (((l++[p]).drop ((l++[p]).length-m)).map ent)) (z:=.d (ent q)) rfl ?_ eq) rfl bA) (UU rfl)) ?_) rfl ⟨_,rfl,_,_,_,_,_,_,rfl,ok.swap h1 h2⟩
    ·show M.ok (R.l .fresh (cutD ((l++[p]).map ent) none (some (-(m:Int)))))=_;rw[GS _ m hm,htk]
    ·show M.ok (R.l .fresh (cutD ((l++[p]).map ent) (some (-(m:Int))) none))=_;rw[GV _ m hm,hdr]
    ·rw[yw _ _ (by rw[UL,WI];show _+1<=1000;omega),VB];rfl
   refine iH (c:=(w==4)&&(r%4==0)) (kF (bJ (WP.two rfl rfl (eq_int false _ _))) λ_=>bJ (WP.two (WP.two rfl rfl (bP r 4 120)) rfl (eq_int false _ _))) (λ_=>?_) λ_=>?_
   ·obtain⟨v,hv,ev⟩:=iU (m:=.fresh) (L:=["and","or"]) (r/4%2) 112 (by show _<2;omega);have hv:v="and"\/v="or":=by
     rcases UR.mp hv with rfl|hv
     ·exact .inl rfl
     ·exact .inr (UM.mp hv)
    refine yZ (xs:=(l++[p]).map ent) (d:=ent (1,.tup [.str v,.tup []],0,0)) rfl (di (aS (di (aS (WP.two (dh 237 (UU rfl)) (WP.two (WP.two rfl rfl (c_ r 4 120 120)) rfl (bP _ 2 120)) ev) rfl (aS (di bA (Vb _)) rfl bA)) (UU rfl)) rfl 237) (UU rfl)) rfl (by rw[UL];omega) ⟨_,rfl,(l++[p])++[(1,.tup [.str v,.tup []],0,0)],some (.d (dN k)),some (.d (.int N)),some (.d (.int w)),some (.d (.int r)),y8,?_,ok.push (q:=(1,.tup [.str v,.tup []],0,0)) (Me hv) (UW 1)⟩;rw[VB (l₁:=l++[p])];rfl
   ·obtain⟨q,eq,h1,h2⟩:=DT (A:=A) (B:=B) (L:=L) r h4 hp;have sw:=ok.swap (c:=l.length) (q:=q) h1 (by rw[List.drop_left];show q.1<=p.1+0+1;omega);rw[List.take_left]at sw;refine jv (r:=.l .fresh ((l++[q]).map ent)) (x:=.own ((l++[q]).map ent)) (WP.two (x:=.l .fresh (l.map ent)) (y:=.l .fresh [ent q]) ?_ (dh (aS (c3 (x:=.d (.int r)) (y:=.l .bor 382) (w:=.d (ent p)) (z:=.d (ent q)) rfl rfl (WP.two rfl rfl ei) eq) rfl bA) (UU rfl)) ?_) rfl ⟨_,rfl,_,_,_,_,_,_,rfl,sw⟩
    ·show M.ok (R.l .fresh (cutD ((l++[p]).map ent) none (some (-1))))=_;rw[mp,GU]
    ·rw[yw _ _ (by rw[UL];show _+1<=1000;omega),VB];rfl
  ·rintro e ⟨st,y4,y5,y6,y7,y8,rfl,ok⟩;rw[UL,V_]at ok;have sl:=ok.len;obtain⟨q,eq,h1,h2⟩:=xQ (A:=A) (B:=B) (L:=L) (cs.length:Int) ok.ok 112;have:=ok.sum;exact b_ (r:=.d q.2.1) (WP.two (c2 (x:=.d (.int cs.length)) (y:=.l .own (st.map ent)) (z:=.d (ent q)) (n1 rfl el) rfl eq) rfl rfl) rfl ⟨_,rfl,q,rfl,h1,by omega⟩
 obtain⟨r,e,q,rfl,h⟩:=key;exact⟨q,e,h⟩
variable{A B L:List Str}
end K12
namespace S6
open PySem PySem.Spec PyProof.Rows L2 DL
end S6
namespace S6
end S6
namespace S6
open PySem PySem.Spec PyProof.Rows L2 DL
end S6
namespace S6
open PySem PySem.Spec PyProof.Rows L2 DL
end S6
namespace DL
open PySem PySem.Spec PyProof.Rows L2 S6
end DL
namespace K23
open PySem DL K01 WP K51 K52 K55
end K23
namespace K03
open PySem DL
end K03
namespace K03
open PySem DL K01 WP K51 K52 K55 K23
end K03
namespace L2
open PySem PySem.Spec PyProof.Rows
section
variable{κ:Type}[DecidableEq κ]
def dw(UC:List (κ×V))(k:κ):Option V:=(UC.find? λkv=>decide (kv.1=k)).map (·.2)
noncomputable def putK(UC:List (κ×V))(k:κ)(v:V):List (κ×V):=
 if(UC.any λkv=>decide (kv.1=k))=true then UC.map (λkv=>if kv.1=k then(kv.1,v)else kv)else UC++[(k,v)]
theorem eY{p:κ×V}{r:List (κ×V)}{k:κ}(e:p.1=k):dw (p::r) k=some p.2:=by simp[dw,Wn,e]
theorem eX{p:κ×V}{r:List (κ×V)}{k:κ}(e:¬p.1=k):dw (p::r) k=dw r k:=by simp[dw,Wn,e]
theorem nO(k:κ):∀UC:List (κ×V),(UC.any λkv=>decide (kv.1=k))=(dw UC k).isSome
 |[]=>rfl
 |p::r=>by
  rw[WT];by_cases e:p.1=k
  ·simp only[eY e,decide_eq_true e,Bool.true_or,acH]
  ·rw[eX e,decide_eq_false e,aeW];exact nO k r
theorem zZ(k j:κ)(y:V):∀UC:List (κ×V),dw (UC.map λkv=>if kv.1=k then(kv.1,y)else kv) j=(dw UC j).map λx=>if j=k then y else x
 |[]=>rfl
 |p::r=>by
  have ih:=zZ k j y r;rw[Vl];by_cases h:p.1=k
  ·rw[if_pos h];by_cases e:p.1=j
   ·rw[eY (p:=(p.1,y)) e,eY e,X4,if_pos (e.symm.trans h)]
   ·rw[eX (p:=(p.1,y)) e,eX e,ih]
  ·rw[if_neg h];by_cases e:p.1=j
   ·rw[eY (p:=p) e,eY e,X4,if_neg (λz=>h (e.trans z))]
   ·rw[eX (p:=p) e,eX e,ih]
theorem wB(k j:κ)(y:V):∀UC:List (κ×V),dw UC k=none->dw (UC++[(k,y)]) j=if j=k then some y else dw UC j
 |[],_=>by
  by_cases e:k=j
  ·rw[if_pos e.symm];exact eY (p:=(k,y)) e
  ·rw[if_neg (λz=>e z.symm)];exact eX (p:=(k,y)) e
 |p::r,hn=>by
  rw[adH];have hk:¬p.1=k:=λz=>by rw[eY z]at hn;cases hn
  rw[eX hk]at hn;have ih:=wB k j y r hn;by_cases e:p.1=j
  ·rw[eY e,eY e,if_neg (λz=>hk (e.trans z))]
  ·rw[eX e,eX e,ih]
theorem IE(UC:List (κ×V))(k j:κ)(y:V):dw (putK UC k y) j=if j=k then some y else dw UC j:=by
 unfold putK;by_cases a:(UC.any λkv=>decide (kv.1=k))=true
 ·rw[if_pos a,zZ];rw[nO]at a;by_cases e:j=k
  ·obtain⟨x,hx⟩:=VQ.mp a;rw[if_pos e,e,hx,X4,if_pos rfl]
  ·rw[if_neg e];cases dw UC j with
   |none=>rfl
   |some x=>rw[X4,if_neg e]
 ·rw[if_neg a];refine wB k j y UC ?_;rw[nO]at a;cases q:dw UC k with
  |none=>rfl
  |some x=>rw[q]at a;exact(a rfl).elim
theorem qN(UC:List (κ×V))(k:κ)(v:V):(putK UC k v).length<=UC.length+1:=by
 unfold putK;split
 ·rw[UL];omega
 ·rw[UQ,Vt,abG];omega
theorem jc.isSome_eq{o:Option V}{u:Option UH}(r:jc o u):o.isSome=u.isSome:=by
 cases o with
 |none=>cases u with
  |none=>rfl
  |some _=>exact(show False from r).elim
 |some _=>cases u with
  |none=>exact(show False from r).elim
  |some _=>rfl
theorem KV.val{UC:List (κ×V)}{vs:List (κ×UH)}(r:KV UC vs)(k:κ):jc (dw UC k) (Y0 vs k):=by
 unfold KV at r
 induction r with
 |nil=>exact WV
 | @cons p q ps qs h t ih=>
  obtain⟨h1,h2⟩:=h;by_cases e:p.1=k
  ·have e':q.1=k:=h1.symm.trans e;have b:Y0 (q::qs) k=some q.2:=by simp[Y0,Wn,e']
   rw[eY e,b];exact h2
  ·have e':¬q.1=k:=λz=>e (h1.trans z);have b:Y0 (q::qs) k=Y0 qs k:=by simp[Y0,Wn,e']
   rw[eX e,b];exact ih
theorem KV.any{UC:List (κ×V)}{vs:List (κ×UH)}(r:KV UC vs)(k:κ):(UC.any λkv=>decide (kv.1=k))=vs.any λkv=>decide (kv.1=k):=by
 unfold KV at r
 induction r with
 |nil=>rfl
 |cons h t ih=>rw[WT,WT,ih,h.1]
theorem KV.repl{UC:List (κ×V)}{vs:List (κ×UH)}(r:KV UC vs)(k:κ){y:V}{u:UH}(ry:RelV y u):
  KV (UC.map λkv=>if kv.1=k then(kv.1,y)else kv) (vs.map λkv=>if kv.1=k then(kv.1,u)else kv):=by
 unfold KV at r ⊢
 induction r with
 |nil=>exact .nil
 | @cons p q ps qs h t ih=>
  rw[Vl,Vl];refine .cons ?_ ih;obtain⟨h1,h2⟩:=h;by_cases e:p.1=k
  ·rw[if_pos e,if_pos (h1.symm.trans e)];exact⟨h1,ry⟩
  ·rw[if_neg e,if_neg (λz=>e (h1.trans z))];exact⟨h1,h2⟩
theorem KV.put{UC:List (κ×V)}{vs:List (κ×UH)}(r:KV UC vs)(k:κ){y:V}{u:UH}(ry:RelV y u):KV (putK UC k y) (stored vs k u):=by
 unfold putK stored;rw[r.any k];by_cases e:(vs.any λkv=>decide (kv.1=k))=true
 ·rw[if_pos e,if_pos e];exact r.repl k ry
 ·rw[if_neg e,if_neg e];exact afB r ⟨rfl,ry⟩
theorem KV.length{UC:List (κ×V)}{vs:List (κ×UH)}(r:KV UC vs):UC.length=vs.length:=aaO r
end
theorem xF{P:U0}{w:Vj}{k:Key}{u:UH}(r:RelV (kV k) u):(er P w).is k u=true:=by
 cases k with
 |inl i=>obtain⟨t,e⟩:=(show ∃t,u=Y9 i t from r);subst e;exact Am P w i t
 |inr x=>obtain⟨t,e⟩:=(show ∃t,u=YL x t from r);subst e;exact An P w x t
theorem vS{P:U0}{w:Vj}:∀{ks:List Key}{us:List UH},Vals (ks.map kV) us->ItemsAre (er P w) ks us
 |[],_,r=>by rw[ado]at r;cases r;exact .nil
 |k::ks,_,r=>by
  rw[Vl]at r;cases r with
  |cons h t=>exact .cons (xF h) (vS t)
abbrev KT(H:Hp):List (List Key×V)->List (List Key×UX×UH)->Prop:=aaB λp q=>p.1=q.1/\H q.2.1=some (.tup (p.1.map kV))/\RelV p.2 q.2.2
theorem KT.val{H:Hp}{UC:List (List Key×V)}{xs:List (List Key×UX×UH)}(r:KT H UC xs)(k:List Key):jc (dw UC k) ((ae8 xs k).map (·.2)):=by
 induction r with
 |nil=>exact WV
 | @cons p q ps qs h t ih=>
  obtain⟨h1,_,h2⟩:=h;by_cases e:p.1=k
  ·have e':q.1=k:=h1.symm.trans e;have b:ae8 (q::qs) k=some q.2:=by simp[ae8,Wn,e']
   rw[eY e,b];exact h2
  ·have e':¬q.1=k:=λz=>e (h1.trans z);have b:ae8 (q::qs) k=ae8 qs k:=by simp[ae8,Wn,e']
   rw[eX e,b];exact ih
theorem KT.repl{H:Hp}{UC:List (List Key×V)}{xs:List (List Key×UX×UH)}(r:KT H UC xs)(k:List Key){y:V}{u:UH}(ry:RelV y u):
  KT H (UC.map λkv=>if kv.1=k then(kv.1,y)else kv) (xs.map (putAt k u)):=by
 induction r with
 |nil=>exact .nil
 | @cons p q ps qs h t ih=>
  rw[Vl,Vl];refine .cons ?_ ih;obtain⟨h1,h2,h3⟩:=h;unfold putAt;by_cases e:p.1=k
  ·rw[if_pos e,if_pos (h1.symm.trans e)];exact⟨h1,h2,ry⟩
  ·rw[if_neg e,if_neg (λz=>e (h1.trans z))];exact⟨h1,h2,h3⟩
theorem KT.put{H:Hp}{UC:List (List Key×V)}{xs:List (List Key×UX×UH)}(r:KT H UC xs)(k:List Key){b:UX}{y:V}{u:UH}(hb:H b=some (.tup (k.map kV)))(ry:RelV y u):
  KT H (putK UC k y) (storedH xs k b u):=by
 have e:(UC.any λkv=>decide (kv.1=k))=(ae8 xs k).isSome:=by rw[nO,(r.val k).isSome_eq,adk]
 unfold putK storedH;rw[e];by_cases q:(ae8 xs k).isSome=true
 ·rw[if_pos q,if_pos q];exact r.repl k ry
 ·rw[if_neg q,if_neg q];exact afB r ⟨rfl,hb,ry⟩
theorem KT.keeps{H H':Hp}{UC:List (List Key×V)}{xs:List (List Key×UX×UH)}(r:KT H UC xs)(ht:∀b ys,H b=some (.tup ys)->H' b=some (.tup ys)):KT H' UC xs:=
 aaB.mapP r λ_ _ z=>⟨z.1,ht _ _ z.2.1,z.2.2⟩
section
variable{P:U0}{w:Vj}{H:Hp}{h:VU}{a:UX}
theorem JF{u:HO}(ok:eT P w H h)(e:Rd H a u):cB P w H h a u:=e.ok ok
theorem sV{UC:List (Key×V)}(ok:eT P w H h)(e:Rd H a (.dK UC)):UC.length<=sizeLine/\(a==V5)=false/\∃vs,KV UC vs/\h.DictOf (er P w) a vs:=
 show cB P w H h a (.dK UC)from JF ok e
theorem Jg{UC:List (Key×V)}(ok:eT P w H h)(e:H a=some (.dK UC)):UC.length<=sizeLine/\(a==V5)=false/\∃vs,KV UC vs/\h.DictOf (er P w) a vs:=sV ok (.inl e)
theorem tY{ks:List Key}(ok:eT P w H h)(e:H a=some (.tup (ks.map kV))):(abq (er P w)).is h ks a:=by obtain⟨_,Uy,r,⟨o,h1,h2,n,h3⟩,_⟩:=(show cB P w H h a (.tup (ks.map kV))from ok a _ e);exact⟨o,Uy.toArray,n,h1,h2,h3,by simpa using vS r⟩
theorem xy{UC:List (List Key×V)}(ok:eT P w H h)(e:Rd H a (.dT UC)):UC.length<=sizeLine/\(a==V5)=false/\
  ∃xs,KT H UC xs/\h.DictOfH (abq (er P w)) a xs:=by
 obtain⟨z,y,xs,r,o,es,ep,h1,h2,h3,h4,h5⟩:=(show cB P w H h a (.dT UC)from JF ok e);refine⟨z,y,xs,r,o,es,ep,h1,h2,h3,h4,λx hx=>?_,h5⟩;have all:∀{l:List (List Key×V)}{m:List (List Key×UX×UH)},KT H l m->∀x∈m,(abq (er P w)).is h x.1 x.2.1:=by
  intro l m q
  induction q with
  |nil=>intro x hx;exact nomatch hx
  | @cons p q ps qs hq t ih=>
   intro x hx;rcases UR.mp hx with e|hx
   ·subst e;exact tY ok (by rw[<-hq.1];exact hq.2.1)
   ·exact ih x hx
 exact all r x hx
theorem OZ{UC:List (List Key×V)}(ok:eT P w H h)(e:H a=some (.dT UC)):UC.length<=sizeLine/\(a==V5)=false/\
  ∃xs,KT H UC xs/\h.DictOfH (abq (er P w)) a xs:=xy ok (.inl e)
end
noncomputable def iF(H:Hp)(a:UX)(y:V)(r:Option V):Prop:=
 (∃UC k,Rd H a (.dK UC)/\y=kV k/\r=dw UC k)\/∃UC k b,Rd H a (.dT UC)/\y=.ref b/\H b=some (.tup (k.map kV))/\r=dw UC k
noncomputable def rj(H:Hp)(a:UX)(y v:V)(H':Hp):Prop:=
 (∃UC k,H a=some (.dK UC)/\y=kV k/\UC.length<sizeLine/\H'=upd H a (.dK (putK UC k v)))\/
 ∃UC k b,H a=some (.dT UC)/\y=.ref b/\H b=some (.tup (k.map kV))/\UC.length<sizeLine/\H'=upd H a (.dT (putK UC k v))
theorem iF.k{H:Hp}{a:UX}{UC:List (Key×V)}{k:Key}(e:H a=some (.dK UC)):iF H a (kV k) (dw UC k):=.inl ⟨UC,k,.inl e,rfl,rfl⟩
theorem iF.t{H:Hp}{a b:UX}{UC:List (List Key×V)}{k:List Key}(e:H a=some (.dT UC))(eb:H b=some (.tup (k.map kV))):iF H a (.ref b) (dw UC k):=.inr ⟨UC,k,b,.inl e,rfl,eb,rfl⟩
theorem rj.k{H:Hp}{a:UX}{UC:List (Key×V)}{k:Key}{v:V}(e:H a=some (.dK UC))(hl:UC.length<sizeLine):rj H a (kV k) v (upd H a (.dK (putK UC k v))):=.inl ⟨UC,k,e,rfl,hl,rfl⟩
theorem rj.t{H:Hp}{a b:UX}{UC:List (List Key×V)}{k:List Key}{v:V}(e:H a=some (.dT UC))(eb:H b=some (.tup (k.map kV)))(hl:UC.length<sizeLine):
  rj H a (.ref b) v (upd H a (.dT (putK UC k v))):=.inr ⟨UC,k,b,e,rfl,eb,hl,rfl⟩
section
variable{X:Cx}{Ux:List (UX×Obj)}{σ:St}{H:Hp}{s:UI}{a:UX}{y v:V}{u r:UH}{o:Option V}{A:Vw}{E:UH->UI->Prop}
theorem Inv.big(I:135):V5<s.heap.objs.size:=by have h:UT<s.heap.objs.size:=(I.mod.glob.keeps I.bk).lt;exact Wl 120 h
theorem vK{Q:136}(hu:A.units+1<YE)(I:135)(g:iF H a y (some v))(ry:RelV y u)(h:∀w' s',Inv X Ux σ H s'->RelV v w'->Q w' s'):
  UZ 126 A (Z5 307 u) Q E s:=by
 rcases g with⟨UC,k,e,ey,l⟩|⟨UC,k,b,e,ey,eb,l⟩
 ·subst ey;obtain⟨z,hd,vs,rel,dd⟩:=sV I.hok e;obtain⟨w',hw,rw'⟩:=jc.some_of (v:=v) (o:=Y0 vs k) (by rw[l];exact rel.val k);exact adB (xF ry) dd.mapOf hw (h w' _ (I.tok _) rw')
 ·subst ey;cases(show u=VI b from ry);obtain⟨z,hd,xs,rel,dd⟩:=xy I.hok e;obtain⟨w',hw,rw'⟩:=jc.some_of (v:=v) (o:=(ae8 xs k).map (·.2)) (by rw[l];exact rel.val k);obtain⟨p,hp,hp2⟩:=W0.mp hw;refine wpAny_getItem_heap (aat hu) (tY I.hok eb) dd hp ?_;rw[hp2];exact h w' _ (I.tok _) rw'
theorem AV{Q:136}(hu:A.units+1<YE)(I:135)(g:iF H a y o)(ry:RelV y u)(h:∀s',Inv X Ux σ H s'->Q (.bool (!o.isSome)) s'):
  UZ 126 A (W9 .NotIn u 307) Q E s:=by
 rcases g with⟨UC,k,e,ey,l⟩|⟨UC,k,b,e,ey,eb,l⟩
 ·subst ey;obtain⟨z,hd,vs,rel,dd⟩:=sV I.hok e;refine wpAny_notIn_of (xF ry) hd dd.mapOf ?_;rw[<-(rel.val k).isSome_eq,<-l];exact h _ (I.tok _)
 ·subst ey;cases(show u=VI b from ry);obtain⟨z,hd,xs,rel,dd⟩:=xy I.hok e;refine wpAny_notIn_heap (aat hu) (tY I.hok eb) hd dd ?_;have q:=(rel.val k).isSome_eq;rw[adk]at q;rw[<-q,<-l];exact h _ (I.tok _)
theorem AW{h':VU}{t':Nat}{ob:HO}(I:135)(mu:DU (H a))(hs:WN a s.heap h')(he:∃q,h'.get? a=some q)(new:cB X.prog X.w (upd H a ob) h' a ob):
  Inv X Ux σ (upd H a ob) {s with heap:=h',toks:=t'}:=
 I.write (x:=a) (e:=a) mu 394 (λb q hb z=>(hs.2 b hb).trans z) he new
theorem Es{P:U0}{w:Vj}{H':Hp}{h':VU}{UC:List (Key×V)}{vs:List (Key×UH)}(z:UC.length<=sizeLine)(hd:(a==V5)=false)(rel:KV UC vs)(dd:h'.DictOf (er P w) a vs):
  cB P w H' h' a (.dK UC):=⟨z,hd,vs,rel,dd⟩
theorem vL{H':Hp}{Q:347}(hu:A.units+1<YE)(I:135)(g:rj H a y v H')(ry:RelV y u)(rv:RelV v r)(h:∀s',Inv X Ux σ H' s'->Q () s'):
  UZ 126 A (aeD 307 u r) Q E s:=by
 rcases g with⟨UC,k,e,ey,l,eH⟩|⟨UC,k,b,e,ey,eb,l,eH⟩
 ·subst ey eH;obtain⟨z,hd,vs,rel,dd⟩:=Jg I.hok e;have hz:vs.length<=sizeLine:=by rw[<-rel.length];exact z
  have hl:(putK UC k v).length<=sizeLine:=by have:=qN UC k v;omega
  refine wpAny_setItem_pairs (hsz:=hz) (xF ry) dd λh' dd' hs=>h _ ?_;have he:∃q,h'.get? a=some q:=let ⟨q,_,_,hq,_⟩:=dd';⟨q,hq⟩
  exact AW I (by rw[e];exact WV) hs he (Es hl hd (rel.put k rv) dd')
 ·subst ey eH;cases(show u=VI b from ry);obtain⟨z,hd,xs,rel,dd⟩:=OZ I.hok e;have hz:xs.length<=sizeLine:=by rw[<-aaO rel];exact z
  have hl:(putK UC k v).length<=sizeLine:=by have:=qN UC k v;omega
  refine wpAny_setItem_heap (hsz:=hz) (aat hu) (tY I.hok eb) dd λh' dd' hs=>h _ ?_;obtain⟨q,es,ep,hq,h2,h3,h4,_,h5⟩:=dd';refine AW I (by rw[e];exact WV) hs ⟨q,hq⟩ ⟨hl,hd,_,(rel.put k eb rv).keeps λc ys ec=>?_,q,es,ep,hq,h2,h3,h4,h5⟩;rw[aU (Pa ec e 277)];exact ec
end
def xZ(i:VC):Prop:=∀ov iv,subscripted i false ov iv=operate [ov,iv] (Z5 ov iv)
theorem BB{prog:U0}{w:Vj}{A:Vw}{E:136}{s:UI}{env:Env}{value slice:VC}{pos:Pos}{T id:String}{Q:136}
  (hl:YF (.type T) "__getitem__"=pure (some (.builtin id))) (hs:xZ slice)
  (h:UZ 139 A (eval value env) (λo s₁=>UZ 139 A (eval slice env) (λi s₂=>s₂.TypeIs o T/\UZ 139 A (Z5 o i) Q E s₂) E s₁) E s):
  UZ 139 A (eval (.Subscript value slice pos) env) Q E s:=by
 refine acP (VH h (λo s₁ h₁=>VH h₁ (λi s₂ h₂=>?_) λ_ _ x=>x) λ_ _ x=>x);obtain⟨hT,h₂⟩:=h₂;unfold acw;refine UE ?_;rw[getitemInPython_of_ne hT.not_modules];refine UE (ad9 hT hl ?_);have fin:UZ 139 A (subscripted slice false o i) (λr s₃=>UZ 139 A (letTemporaryGo value o r>>=λ_=>pure r) Q E s₃) E s₂:=by rw[hs o i];exact wpAny_operating (VH h₂ (λr s₃ h₃=>UE (wpAny_letTemporaryGo (UJ h₃))) λ_ _ x=>x)
 first
  |exact UJ (UE fin)
  |exact UE (UJ (UE fin))
  |exact UE fin
theorem qA{X:Cx}{Ux:143}{σ:St}{H:Hp}{s:UI}{a:UX}{y:V}{o:Option V}(I:135)(g:iF H a y o):s.TypeIs 307 "dict":=by
 rcases g with⟨UC,k,e,_,_⟩|⟨UC,k,b,e,_,_,_⟩
 ·obtain⟨_,_,vs,_,dd⟩:=sV I.hok e;exact dd.typeIs
 ·obtain⟨_,_,xs,_,dd⟩:=xy I.hok e;exact dd.typeIs
def PJ(td ty:TE):TE:=λσ H Q=>td σ H λx H1=>ty σ H1 λy H2=>∃a v,x=.ref a/\iF H2 a y (some v)/\Q v H2
section
variable{X:Cx}{o i e value:VC}{pos pos' tpos:Pos}{td ty tv:TE}
theorem Ls(hu:X.A.units+1<YE)(ho:PE X o td)(hi:PE X i ty)(hs:xZ i):PE X (.Subscript o i pos) (PJ td ty):=by intro Ux s σ H Q I h;refine BB YR.lookup hs (bO (ho Ux s σ H _ I h) λu s1 ⟨x,H1,I1,rx,q1⟩=>bO (hi Ux s1 σ H1 _ I1 q1) λiv s2 ⟨y,H2,I2,ry,a,v,ex,g,q2⟩=>?_);subst ex;obtain rfl:u=VI a:=rx;exact⟨qA I2 g,vK hu I2 g ry λw' s3 I3 rw'=>⟨v,H2,I3,rw',q2⟩⟩
end
theorem G0{P:U0}{w:Vj}{H:Hp}(h:VU)(hb:V5<h.objs.size):cB P w H (h.push {cls:=.type "dict",data:=.dict #[]}) h.objs.size (.dK []):=
 ⟨Vb _,beq_eq_false_iff_ne.mpr (VF (U4 hb)),[],.nil,afY h⟩
section
variable{X:Cx}{Ux:List (UX×Obj)}{σ:St}{H:Hp}{s:UI}{a:UX}{UC:List (Key×V)}{A:Vw}{E:UH->UI->Prop}
theorem GY{Q:136}(I:135)(e:Rd H a (.dK UC))(h:∀p s',H p=none->Inv X Ux σ (upd H p (.dK UC)) s'->Q (.ref p) s'):UZ 126 A (call (.type "dict") [.ref a]) Q E s:=by obtain⟨z,hd,vs,rel,dd⟩:=sV I.hok e;refine kt_call_dict hd dd (by rw[<-rel.length];exact z) λh' dd' hs=>?_;refine h _ _ (I.hok.fresh (UW _)) (I.laid (a:=s.heap.objs.size) (o:=.dK UC) (t':=s.toks) (λb q hq=>?_) (UW _) (Es z (beq_eq_false_iff_ne.mpr (VF (U4 I.big))) rel dd'));exact(hs.2 b (U4 (UY hq))).trans (UK _ hq)
end
end L2
namespace DL
open PySem PySem.Spec PyProof.Rows L2 DX
noncomputable def yh:R->Option (List Str×List D)
 | .d .emp=>some ([],[])
 | .d (.ob (.txt ss) xs)=>some (ss,xs)
 | .o _ (.txt ss) xs=>some (ss,xs)
 |_=>none
noncomputable def cX{α:Type}:List Str->List α->Str->Option α
 |s::ss,d::ds,x=>if s=x then some d else cX ss ds x
 |_,_,_=>none
noncomputable def bL{α:Type}(ss:131)(xs:List α)(s:Str)(v:α):List Str×List α:=
 if ss.contains s=true then(ss,(ss.zip xs).map λp=>if p.1=s then v else p.2)else(ss++[s],xs++[v])
abbrev n5(ss:131)(vs:List V):List (Key×V):=(ss.map Yv).zip vs
section
variable{X:Cx}{c:C}{e ke a b:VC}{g gk ga gb:G R}{pos:Pos}
theorem RR.txt{He J H:Hp}(hp:HI c J H):∀{r:R}{v:V}{z:List Str×List D},RR c He J H r v->yh r=some z->∃a vs,v=.ref a/\H a=some (.dK (n5 z.1 vs))/\z.1.length=vs.length/\aW c.K J z.2 vs
 | .d .emp,v,z,h,e=>by
  cases e;cases h with
  |emp h=>exact⟨_,[],rfl,hp.sub _ _ h,rfl,.nil⟩
 | .d (.ob (.txt ss) xs),v,z,h,e=>by
  cases e;cases h with
  |ob h hs=>obtain⟨h1,h2,h3⟩:=h;exact⟨_,_,rfl,hp.sub _ _ h2,h1,hs⟩
 | .o .fresh (.txt ss) xs,v,z,⟨a,h1,⟨vs,⟨k1,k2,k3⟩,hs⟩,_⟩,e=>by cases e;exact⟨a,vs,h1,k2,k1,hs⟩
 | .o .own (.txt ss) xs,v,z,⟨a,h1,⟨vs,⟨k1,k2,k3⟩,hs⟩,_⟩,e=>by cases e;exact⟨a,vs,h1,k2,k1,hs⟩
 | .o .bor (.txt ss) xs,v,z,⟨a,h1,⟨vs,⟨k1,k2,k3⟩,hs⟩⟩,e=>by cases e;exact⟨a,vs,h1,hp.ent _ _ k2,k1,hs⟩
 | .o m (.ins _ _) _,_,_,_,e=>nomatch e
 | .o m (.mem _ _) _,_,_,_,e=>nomatch e
 | .d (.ob (.ins _ _) _),_,_,_,e=>nomatch e
 | .d (.ob (.mem _ _) _),_,_,_,e=>nomatch e
 | .d .non,_,_,_,e=>nomatch e
 | .d (.bl _),_,_,_,e=>nomatch e
 | .d (.int _),_,_,_,e=>nomatch e
 | .d (.str _),_,_,_,e=>nomatch e
 | .d (.tup _),_,_,_,e=>nomatch e
 | .d (.lst _),_,_,_,e=>nomatch e
 | .d (.dct _ _),_,_,_,e=>nomatch e
 | .d (.exn _ _ _),_,_,_,e=>nomatch e
 | .l _ _,_,_,_,e=>nomatch e
theorem vg{K:UG}{J:Hp}{x:Str}:∀{ss:131}{xs:List D}{vs:List V},ss.length=vs.length->aW K J xs vs->(∀d,cX ss xs x=some d->∃v,dw (n5 ss vs) (.inr x)=some v/\Rep K J d v)/\(cX ss xs x=none->dw (n5 ss vs) (.inr x)=none)
 |[],xs,vs,h,r=>⟨λd h=>(by cases xs<;>cases h),λ_=>rfl⟩
 |s::ss,_,_,h,.nil=>nomatch h
 |s::ss,d::xs,v::vs,h,.cons r rs=>by
  obtain⟨i1,i2⟩:=vg (x:=x) (ss:=ss) (by simpa using h) rs;unfold cX;show(∀d',_->∃v',dw ((Yv s,v)::n5 ss vs) (.inr x)=some v'/\_)/\(_->dw ((Yv s,v)::n5 ss vs) (.inr x)=none);by_cases q:s=x
  ·rw[if_pos q,eY (show(Yv s:Key)=.inr x by rw[q])];exact⟨λd' z=>by cases z;exact⟨v,rfl,r⟩,λz=>nomatch z⟩
  ·rw[if_neg q,eX (λz=>q (adN z))];exact⟨i1,i2⟩
noncomputable def kK(x y:R):M R:=match yh x,y with
 |some z,.d (.str k)=>(match cX z.1 z.2 k with
  |some d=>.ok (.d d)
  |none=>.bad)
 |_,_=>.bad
theorem jt(hu:337)(ha:358)(hb:QD X c b gb)(hs:xZ b:=by exact λ_ _=>rfl):QD X c (.Subscript a b pos) (g2 kK ga gb):=⟨dX (Ls 112 ha.h hb.h hs) λσ H Q ⟨J,env,sr,w⟩=>
 two (k:=λx y H2=>∃a v,x=.ref a/\iF H2 a y (some v)/\Q v H2) sr w λx y u v J2 H2 sr2 e2 rx ry w=>by
  unfold kK at w;split at w
  ·rename_i z k hz;cases ry;obtain⟨p,vs,rfl,h1,h2,h3⟩:=rx.txt sr2.hp hz;split at w
   ·rename_i d hl;obtain⟨v,hv,rd⟩:=(vg h2 h3).1 d hl;refine⟨p,v,rfl,?_,w v J2 H2 (Ext.refl sr2.hp.sub) rd⟩;rw[<-hv];exact iF.k (k:=.inr k) h1
   ·exact w.elim
  ·exact w.elim⟩
def Oj(neg:Bool):R2:=λx y H Q=>∃p o,y=.ref p/\iF H p x o/\Q (.bl (if neg then !o.isSome else o.isSome)) H
theorem Ft(hu:337):dU X (W9 .NotIn) (Oj true):=λUx s σ H x y v u Q I rx ry ⟨p,o,e,g,q⟩=>by subst e;cases ry;exact AV 112 I g rx λs' I'=>⟨.bl _,H,I',rfl,q⟩
noncomputable def oH(neg:Bool)(x y:R):M R:=match yh y,x with
 |some z,.d (.str k)=>.ok (.d (.bl (if neg then !(cX z.1 z.2 k).isSome else(cX z.1 z.2 k).isSome)))
 |_,_=>.bad
theorem ML(neg:Bool):BD c (Oj neg) (oH neg):=by
 intro He He' J H x y u v Q hp rx ry w;unfold oH at w;split at w
 ·rename_i z k hz;cases rx;obtain⟨p,vs,rfl,h1,h2,h3⟩:=ry.txt hp hz;refine⟨p,_,rfl,iF.k (k:=.inr k) h1,?_⟩;have e:(dw (n5 z.1 vs) (.inr k)).isSome=(cX z.1 z.2 k).isSome:=by
   obtain⟨l1,l2⟩:=vg (x:=k) h2 h3;cases q:cX z.1 z.2 k with
   |some d=>obtain⟨_,e,_⟩:=l1 d q;rw[e];rfl
   |none=>rw[l2 q];rfl
  rw[e];exact w _ J H 312 (.bl _)
 ·exact w.elim
theorem ug(hu:337)(ha:358)(hb:QD X c b gb)(hm:autoParam (We .NotIn b=false) zzA._auto_1):QB X c (.Compare a [.NotIn] [b] pos) (aK (g2 (oH true) ga gb)):=⟨kQ (Ft hu) (ML true) ha.h hb.h hm⟩
def CA(i:Nat):G O:=λenv=>.ok (.nx (env.set i (some (.oo (.txt []) []))))
theorem Fy:PE X (.Dict [] [] pos) (λσ H Q=>∀p,H p=none->(p==V5)=false->Q (.ref p) (upd H p (.dK []))):=λUx s σ H Q I h=>
 adK ⟨.ref s.heap.objs.size,_,I.laid (a:=s.heap.objs.size) (o:=.dK []) (t':=s.toks) (λ_ _ q=>UK _ q) (UW _) (G0 s.heap I.big),rfl,h _ (I.hok.fresh (UW _)) (beq_eq_false_iff_ne.mpr (VF (U4 I.big)))⟩
theorem v7(i:Nat){x:Str}{pos' p0:Pos}(hN:X.N.Nodup)(hi:autoParam (X.N[i]?=some x) zzA._auto_1)(hx:Loc X.env.scope x:=by first|exact Yc rfl|exact Xa rfl)(hs:autoParam (Xj (.Dict [] [] p0) (some (.Name x pos')) pos.line X.env=pure false) zzA._auto_1)
  (hf:151:=by first|exact .inl rfl|exact .inr rfl):ig X c (.Assign [.Name x pos'] (.Dict [] [] p0) pos) (CA i):=⟨fK (mR hN hi hx Fy hs hf) λE σ H ⟨J,env,sr,w⟩ p hp hq=>
 w _ J _ (aY.refl J) (sr.setM (y:=.oo (.txt []) []) (Ext.new sr.hp.sub hp _) hp ⟨p,rfl,⟨[],⟨rfl,bf,hq⟩,.nil⟩,sr.hp.sub.free hp,sr.hp.ent.free hp⟩)⟩
theorem AL{s:Str}:∀{ss:131}{vs:List V},ss.length=vs.length->((n5 ss vs).any λkv=>decide (kv.1=.inr s))=ss.contains s
 |[],_,_=>rfl
 |t::ss,[],h=>nomatch h
 |t::ss,v::vs,h=>by show(decide ((Yv t:Key)=.inr s)||(n5 ss vs).any λkv=>decide (kv.1=.inr s))=(s==t||ss.contains s);rw[AL (by simpa using h),EV];congr 1;rw[YD,decide_eq_true_iff,beq_iff_eq];exact eq_comm
theorem Bf{s:Str}{v:V}:∀{ss:131}{vs:List V},ss.length=vs.length->(n5 ss vs).map (λkv=>if kv.1=.inr s then(kv.1,v)else kv)=n5 ss ((ss.zip vs).map λp=>if p.1=s then v else p.2)
 |[],_,_=>rfl
 |t::ss,[],h=>nomatch h
 |t::ss,u::vs,h=>by
  refine List.cons_eq_cons.mpr ⟨?_,Bf (by simpa using h)⟩;show(if(Yv t:Key)=.inr s then((Yv t:Key),v)else((Yv t:Key),u))=(Yv t,if t=s then v else u);by_cases q:t=s
  ·rw[if_pos (by rw[q]),if_pos q]
  ·rw[if_neg (λz=>q (adN z)),if_neg q]
theorem LD{s:Str}{v:V}{ss:131}{vs:List V}(h:ss.length=vs.length):putK (n5 ss vs) (.inr s) v=n5 (bL ss vs s v).1 (bL ss vs s v).2:=by
 unfold putK bL;rw[AL h];split
 ·exact Bf h
 ·show _=(ZX Yv (ss++[s])).zip (vs++[v]);rw[VB,List.zip_append (by simpa using h)];rfl
theorem pY{α:Type}{s:Str}{v:α}{ss:131}{vs:List α}(h:ss.length=vs.length):(bL ss vs s v).1.length=(bL ss vs s v).2.length:=by
 unfold bL;split
 ·show ss.length=((ss.zip vs).map _).length;rw[UL,abT,<-h,abD]
 ·show(ss++[s]).length=(vs++[v]).length;rw[UQ,UQ,h];rfl
theorem Br{K:UG}{J:Hp}{s:Str}{d:D}{v:V}(r:Rep K J d v):∀{ss:131}{xs:List D}{vs:List V},aW K J xs vs->aW K J ((ss.zip xs).map λp=>if p.1=s then d else p.2) ((ss.zip vs).map λp=>if p.1=s then v else p.2)
 |[],_,_,_=>.nil
 |_::_,_,_,.nil=>.nil
 |t::ss,_,_,.cons r' rs=>by
  refine .cons ?_ (Br r rs);show Rep K J (if t=s then d else _) (if t=s then v else _);by_cases q:t=s
  ·rw[if_pos q,if_pos q];exact r
  ·rw[if_neg q,if_neg q];exact r'
theorem Ib{K:UG}{J:Hp}{s:Str}{d:D}{v:V}{ss:131}{xs:List D}{vs:List V}(r:Rep K J d v)(h:aW K J xs vs):aW K J (bL ss xs s d).2 (bL ss vs s v).2:=by
 unfold bL;split
 ·exact Br r h
 ·exact h.append (.cons r .nil)
theorem Bp{α β:Type}{s:Str}{v:α}{u:β}{ss:131}{vs:List α}{us:List β}:(bL ss vs s v).1=(bL ss us s u).1:=by unfold bL;split<;>rfl
def Pw:yc:=λo i v H Q=>∃p UC k,o=.ref p/\i=kV k/\H p=some (.dK UC)/\UC.length<sizeLine/\Q (upd H p (.dK (putK UC k v)))
theorem L4(hu:337):GB X Pw:=by intro Ux s σ H o i v ov iv u Q I ro ri rv ⟨p,UC,k,e1,e2,hp,hl,q⟩;subst e1 e2;cases ro;exact vL 112 I (rj.k hp hl) ri rv λs' I'=>⟨_,I',q⟩
noncomputable def oN(i:Nat)(gk g:G R):G O:=λenv=>match env[i]? with
 |some (some (.oo (.txt ss) xs))=>g env>>=λr=>toD r>>=λd=>gk env>>=λr2=>match r2 with
  | .d (.str k)=>if ss.length<=1000 then .ok (.nx (env.set i (some (.oo (.txt (bL ss xs k d).1) (bL ss xs k d).2))))else .bad
  |_=>.bad
 |_=>.bad
theorem rY(i:Nat){x:Str}{p1 p2:Pos}(hu:337)(h:QD X c e g)(hk:QD X c ke gk)(hN:autoParam (X.N[i]?=some x) zzA._auto_1)(hv:jK X.env.scope x:=by first|exact Yc rfl|exact Xa (Yc rfl)|exact Xa (Xa rfl))(hd:141)
  (hcd:autoParam ((x==306)=false) zzB._auto_1)
  (ha:∀v,assign (.Subscript (.Name x p1) ke p2) X.env v=(do
   let ov <-holding [v] (eval (.Name x p1) X.env)
   let iv <-holding [v,ov] (eval ke X.env)
   Ye p2
   (holding [v,ov,iv] (aeD ov iv v))
   release [v,ov,iv] []):=by intro _;rfl)
  (hs:autoParam (ZU [.Subscript (.Name x p1) ke p2] e pos.line X.env=pure false) zzA._auto_1) (hw:autoParam (aaQ [.Subscript (.Name x p1) ke p2] e X.env=pure none) zzA._auto_1)
  (h1:autoParam ((XC [.Subscript (.Name x p1) ke p2] X.env).map (·.2)=[assign (.Subscript (.Name x p1) ke p2) X.env]) zzA._auto_1):
  ig X c (.Assign [.Subscript (.Name x p1) ke p2] e pos) (oN i gk g):=
 ⟨fK (zu h.h (FD (eK hN hv hd hcd) hk.h (L4 hu) ha) hs hw h1) λE σ H ⟨J,env,sr,w⟩=>by
  unfold oN at w;split at w
  ·rename_i ss xs hi;obtain⟨v,q1,p,rfl,⟨vs,⟨k1,k2,k3⟩,hs⟩,h3,h4⟩:=sr.at_ i _ hi;refine⟨J,env,sr,aB (aH w) λr wr y J1 H1 e1 r1=>?_⟩;obtain⟨d,q,wr⟩:=kh wr;obtain⟨J2,e2,s2,rd⟩:=freeze e1 r1 q;refine⟨.ref p,q1,?_⟩;refine⟨J2,env,sr.ext e2,aB (aH wr) λrk wk vk J3 H3 e3 r3=>?_⟩;split at wk
   ·rename_i k;split at wk
    ·rename_i hl;cases r3;have e5:=e2.trans e3;have h3':=e5.frz p (by rw[k2];exact λz=>nomatch z) h3;refine⟨p,_,.inr k,rfl,rfl,e5.h _ _ k2,?_,?_⟩
     ·rw[abT,UL,<-k1,abD];exact Xg hl 120
     ·rw[LD k1];refine wk σ J3 _ e5.j ((sr.ext e5).updM (x:=.oo (.txt ss) xs) (y:=.oo (.txt (bL ss xs k d).1) (bL ss xs k d).2) hi q1 h3' h4 ⟨p,rfl,⟨(bL ss vs k y).2,⟨?_,?_,k3⟩,Ib (rd.mono e3.j) (hs.mono e5.j)⟩,h3',h4⟩)
      ·rw[Bp (us:=vs) (u:=y)];exact pY k1
      ·refine bf.trans ?_;rw[Bp (vs:=xs) (v:=d) (us:=vs) (u:=y)]
    ·exact wk.elim
   ·exact wk.elim
  ·exact w.elim⟩
theorem Ef:fc X (.type "dict") (λxs H Q=>∃a UC,xs=[.ref a]/\H a=some (.dK UC)/\∀p,H p=none->(p==V5)=false->Q (.ref p) (upd H p (.dK UC))):=by intro Ux s σ H xs us Q I r ⟨a,UC,e,h,q⟩;subst e;obtain⟨u,rfl,ru⟩:=vals1 r;cases ru;exact GY I (.inl h) λp s' hp I'=>⟨.ref p,_,I',rfl,q p hp (by have z:upd H p (HO.dK UC) p=some (.dK UC):=bf;obtain⟨_,h,_⟩:=Jg I'.hok z;exact h)⟩
theorem Cg:Wy "dict"=some (.type "dict"):=by decide +kernel
noncomputable def yJ:List R->M R
 |[r]=>match yh r with
  |some z=>.ok (.o .fresh (.txt z.1) z.2)
  |none=>.bad
 |_=>.bad
theorem FQ{p:Pos}{es:List VC}{gs:338}(ha:kB X c (e::es) gs)(hm:X.mg "dict"=none)(hg:autoParam (Gl X "dict") zzA._auto_1)
  (he:153) (hpl:autoParam ((Wr pos 319).any (·.1)=false) zzA._auto_1):QD X c (.Call (.Name "dict" p) (e::es) [] pos) (gN yJ gs):=
 ⟨o4 Ef (by
  intro He J H xs vs Q hp rs w;unfold yJ at w;split at w
  ·obtain⟨v,rfl,r⟩:=rs.one;split at w
   ·rename_i z hz;obtain⟨a,vs,rfl,h1,h2,h3⟩:=r.txt hp hz;exact⟨a,_,rfl,h1,λp hn hq=>w _ J _ (Ext.new hp.sub hn _) ⟨p,rfl,⟨vs,⟨h2,bf,hq⟩,h3⟩,hp.sub.free hn,hn⟩⟩
   ·exact w.elim
  ·exact w.elim) Cg hm ha.h hg 120 120 he hpl⟩
end
noncomputable def GH:R->Option (Str×List Str×List D)
 | .d (.ob (.ins cls ns) xs)=>some (cls,ns,xs)
 | .o _ (.ins cls ns) xs=>some (cls,ns,xs)
 |_=>none
section
variable{X:Cx}{c:C}{e ke a b:VC}{g gk ga gb:G R}{pos:Pos}
theorem RR.ins{He J H:Hp}(hp:HI c J H):∀{r:R}{v:V}{z:Str×List Str×List D},RR c He J H r v->GH r=some z->∃a C dx vs,v=.ref a/\U1 c.K UT z.1=some (some 241)/\ou c.K C/\z.2.1.length=vs.length/\H a=some (.ins C dx (z.2.1.zip vs))/\aW c.K J z.2.2 vs
 | .d (.ob (.ins _ _) xs),v,z,h,e=>by
  cases e;cases h with
  |ob h hs=>obtain⟨C,dx,h1,h2,h3,h4⟩:=h;exact⟨_,C,dx,_,rfl,h1,h2,h3,hp.sub _ _ h4,hs⟩
 | .o .fresh (.ins _ _) xs,v,z,⟨a,h1,⟨vs,⟨C,dx,k1,k2,k3,k4⟩,hs⟩,_⟩,e=>by cases e;exact⟨a,C,dx,vs,h1,k1,k2,k3,k4,hs⟩
 | .o .own (.ins _ _) xs,v,z,⟨a,h1,⟨vs,⟨C,dx,k1,k2,k3,k4⟩,hs⟩,_⟩,e=>by cases e;exact⟨a,C,dx,vs,h1,k1,k2,k3,k4,hs⟩
 | .o .bor (.ins _ _) xs,v,z,⟨a,h1,⟨vs,⟨C,dx,k1,k2,k3,k4⟩,hs⟩⟩,e=>by cases e;exact⟨a,C,dx,vs,h1,k1,k2,k3,hp.ent _ _ k4,hs⟩
 | .o m (.txt _) _,_,_,_,e=>nomatch e
 | .o m (.mem _ _) _,_,_,_,e=>nomatch e
 | .d (.ob (.txt _) _),_,_,_,e=>nomatch e
 | .d (.ob (.mem _ _) _),_,_,_,e=>nomatch e
 | .d .non,_,_,_,e=>nomatch e
 | .d .emp,_,_,_,e=>nomatch e
 | .d (.bl _),_,_,_,e=>nomatch e
 | .d (.int _),_,_,_,e=>nomatch e
 | .d (.str _),_,_,_,e=>nomatch e
 | .d (.tup _),_,_,_,e=>nomatch e
 | .d (.lst _),_,_,_,e=>nomatch e
 | .d (.dct _ _),_,_,_,e=>nomatch e
 | .d (.exn _ _ _),_,_,_,e=>nomatch e
 | .l _ _,_,_,_,e=>nomatch e
def nQ(K:UG)(cls f:Str):Prop:=∃C,U1 K UT cls=some (some 241)/\ie K C f
noncomputable def jh(cls f:Str)(r:R):M R:=match GH r with
 |some z=>if z.1=cls then(match (z.2.1.zip z.2.2).lookup f with
  |some d=>.ok (.d d)
  |none=>.bad)else .bad
 |none=>.bad
def fh(cls f:Str)(g:G R):G R:=λenv=>g env>>=jh cls f
theorem A1{He J H:Hp}(hp:HI c J H){cls f:Str}{r:R}{v:V}{d:D}(A:nQ c.K cls f)(h:RR c He J H r v)(e:jh cls f r=.ok (.d d)):∃a C dx fs u,v=.ref a/\H a=some (.ins C dx fs)/\qm c.K C/\ie c.K C f/\fs.lookup f=some u/\Rep c.K J d u:=by
 unfold jh at e;split at e
 ·rename_i z hz;split at e
  ·rename_i hc;split at e
   ·rename_i d' hl;cases e;obtain⟨a,C,dx,vs,h1,h2,h3,h4,h5,h6⟩:=h.ins hp hz;obtain⟨u,k1,k2⟩:=sA h6 hl;obtain⟨C',n1,n2⟩:=A;rw[hc,n1]at h2;cases h2;exact⟨a,C,dx,_,u,h1,h5,h3.cl,n2,k1,k2⟩
   ·cases e
  ·cases e
 ·cases e
theorem M3{cls f:Str}{r:R}{z:R}(e:jh cls f r=.ok z):∃d,z=.d d:=by
 unfold jh at e;split at e
 ·split at e
  ·split at e
   ·cases e;exact⟨_,rfl⟩
   ·cases e
  ·cases e
 ·cases e
theorem Ey{cls f:Str}{r:R}{x:Exc}:jh cls f r≠.exc x:=by
 intro e;unfold jh at e;split at e
 ·split at e
  ·split at e<;>cases e
  ·cases e
 ·cases e
theorem fE{cls f:Str}(A:nQ X.K cls f)(h:QD X c e g)(hK:375)(hb:autoParam (WH e f X.env (eval e X.env)=eval e X.env) zzA._auto_1):QD X c (.Attribute e f pos) (fh cls f g):=
 ⟨dX (uc h.h hb) λσ H Q ⟨J,env,sr,w⟩=>⟨J,env,sr,aB (aH w) λr wr v J1 H1 e1 r1=>by
  cases q:jh cls f r with
  |bad=>rw[q]at wr;exact wr.elim
  |exc x=>exact(Ey q).elim
  |ok z=>
   obtain⟨d,rfl⟩:=M3 q;rw[q]at wr;obtain⟨a,C,dx,fs,u,h1,h2,h3,h4,h5,h6⟩:=A1 377 (hK▸A) r1 q;exact⟨a,C,dx,fs,u,h1,h2,hK▸h3,hK▸h4,h5,wr u J1 H1 e1 h6⟩⟩⟩
noncomputable def Qo(c:C)(g:G O):TS:=λE σ H=>∃J env,SR c J H σ env/\cJ (g env) (λo=>match o with
 | .nx e=>∀J' H',aY J J'->SR c J' H' σ e->E.nx σ H'
 |_=>False) c.T
structure QI(X:Cx)(c:C)(x0:List Xq)(x1:G O):Prop where
 h:iQ X x0 (Qo c x1)
structure IT(X:Cx)(c:C)(x0:Xq)(x1:G O):Prop where
 h:PS X x0 (Qo c x1)
theorem mU{st:Xq}{rest:List Xq}{t u:G O}(h:IT X c st t)(h':QI X c rest u):QI X c (st::rest) (av t u):=⟨o7 (kT h.h h'.h) λE σ H ⟨J,env,sr,w⟩=>by
 refine⟨J,env,sr,aB (aH w) λo wo=>?_⟩;cases o with
 |nx e=>
  refine λJ' H' s' sr'=>⟨J',e,sr',aB wo λo q=>?_⟩;cases o with
  |nx e=>exact λJ2 H2 s2 sr2=>q J2 H2 (s'.trans s2) sr2
  |_=>exact q
 |rt r=>exact wo
 |bk e=>exact wo
 |ct e=>exact wo⟩
theorem Oe{st:Xq}{t:G O}(h:IT X c st t):QI X c [st] t:=⟨jk h.h⟩
theorem zw{f:Str}{y:V}:∀{ns:131}{vs:List V},ns.length=vs.length->ns.contains f=false->gj f y (ns.zip vs)=(ns++[f]).zip (vs++[y])
 |[],[],_,_=>rfl
 |[],_::_,h,_=>nomatch h
 |_::_,[],h,_=>nomatch h
 |n::ns,v::vs,h,q=>by have q1:((f==n)||ns.contains f)=false:=q;rw[ZT]at q1;show(if n=f then(n,y)::ns.zip vs else(n,v)::gj f y (ns.zip vs))=(n,v)::(ns++[f]).zip (vs++[y]);rw[if_neg (λz=>by rw[z]at q1;simp at q1),zw (by simpa using h) q1.2]
noncomputable def wj(cls f:Str)(d:D):S->Option S
 | .oo (.ins cl ns) xs=>if cl=cls/\ns.contains f=false/\ns.length<100 then some (.oo (.ins cl (ns++[f])) (xs++[d]))else none
 |_=>none
theorem Gd{J H:Hp}{σ:L2.St}{env:Ev}(sr:SR c J H σ env){i:Nat}{cls f:Str}{d:D}{s s':S}(A:nQ c.K cls f)(hi:env[i]?=some (some s))(e:wj cls f d s=some s'):
  ∃a C dx fs,σ[i]?=some (some 307)/\H a=some (.ins C dx fs)/\qm c.K C/\ie c.K C f/\fs.length<1000/\∀{J1 H1:Hp}{y:V},Ext J H J1 H1->Rep c.K J1 d y->SR c J1 (upd H1 a (.ins C dx (gj f y fs))) σ (env.set i (some s')):=by
 cases s with
 |oo k xs=>
  cases k with
  |ins cl ns=>
   simp only[wj]at e;split at e
   ·rename_i hc;obtain⟨rfl,hf,hl⟩:=hc;cases e;obtain⟨v,q1,a,rfl,⟨vs,⟨C,dx,k1,k2,k3,k4⟩,hs⟩,h3,h4⟩:=sr.at_ i _ hi;obtain⟨C',n1,n2⟩:=A;rw[n1]at k1;cases k1;refine⟨a,C,dx,_,q1,k4,k2.cl,n2,by rw[abT,<-k3,abD];omega,fun {J1 H1 y} e1 rd=>?_⟩;have h3':=e1.frz a (by rw[k4];exact λz=>nomatch z) h3;refine(sr.ext e1).updM (x:=.oo (.ins cl ns) xs) (y:=.oo (.ins cl (ns++[f])) (xs++[d])) hi q1 h3' h4 ⟨a,rfl,⟨vs++[y],⟨C,dx,n1,k2,by rw[UQ,UQ,k3];rfl,?_⟩,(hs.mono e1.j).append (.cons rd .nil)⟩,h3',h4⟩;rw[<-zw k3 hf];exact bf
   ·cases e
  |_=>cases e
 |_=>cases e
noncomputable def lU(i:Nat)(cls f:Str)(g:G R):G O:=λenv=>match env[i]? with
 |some (some s)=>g env>>=λr=>toD r>>=λd=>(match wj cls f d s with
  |some s'=>.ok (.nx (env.set i (some s')))
  |none=>.bad)
 |_=>.bad
theorem o8(i:Nat){x cls f:Str}{p1 p2:Pos}(A:nQ X.K cls f)(h:QD X c e g)(hK:375)(hN:autoParam (X.N[i]?=some x) zzA._auto_1)(hv:jK X.env.scope x:=by first|exact Yc rfl|exact Xa (Yc rfl)|exact Xa (Xa rfl))(hd:141)
  (hcd:autoParam ((x==306)=false) zzB._auto_1) (hs:autoParam (Xj e (some (.Attribute (.Name x p1) f p2)) pos.line X.env=pure false) zzA._auto_1):IT X c (.Assign [.Attribute (.Name x p1) f p2] e pos) (lU i cls f g):=
 ⟨fK (FJ (eK hN hv hd hcd) h.h hs) λE σ H ⟨J,env,sr,w⟩=>by
  unfold lU at w;split at w
  ·rename_i s hi;refine⟨J,env,sr,aB (aH w) λr wr y J1 H1 e1 r1=>?_⟩;obtain⟨d,q,wr⟩:=kh wr;obtain⟨J2,e2,s2,rd⟩:=freeze e1 r1 q;split at wr
   ·rename_i s' hs';obtain⟨a,C,dx,fs,q1,q2,q3,q4,q5,q6⟩:=Gd sr (hK▸A) hi hs';exact⟨.ref a,q1,a,C,dx,fs,rfl,e2.h _ _ q2,hK▸q3,hK▸q4,q5,wr J2 _ e2.j (q6 e2 rd)⟩
   ·exact wr.elim
  ·exact w.elim⟩
theorem E9{P:U0}{w:Vj}{H:Hp}{dom:List (List Int)}{f:List Int->Bool}(h:VU)(hb:V5<h.objs.size)(hd:dom.length<sizeLine):cB P w H (h.push {cls:=.type "dict",data:=.dict #[]}) h.objs.size (.memo dom f):=
 ⟨beq_eq_false_iff_ne.mpr (VF (U4 hb)),hd,[],λ_ z=>(nomatch z),[],.nil,_,#[],0,US _ rfl,⟨rfl,rfl,rfl⟩,rfl,rfl,XR⟩
theorem Lv:PE X (.Dict [] [] pos) (λσ H Q=>∃dom f,dom.length<sizeLine/\∀p,H p=none->Q (.ref p) (upd H p (.memo dom f))):=λUx s σ H Q I ⟨dom,f,hd,h⟩=>
 adK ⟨.ref s.heap.objs.size,_,I.laid (a:=s.heap.objs.size) (o:=.memo dom f) (t':=s.toks) (λ_ _ q=>UK _ q) (UW _) (E9 s.heap I.big hd),rfl,h _ (I.hok.fresh (UW _))⟩
abbrev Mm:=List (List Int)×(List Int->Bool)
noncomputable def G9(i:Nat)(cls f:Str)(m:Ev->Mm):G O:=λenv=>match env[i]? with
 |some (some s)=>if(m env).1.length<=1000000 then(match wj cls f (.ob (.mem (m env).1 (m env).2) []) s with
  |some s'=>.ok (.nx (env.set i (some s')))
  |none=>.bad)else .bad
 |_=>.bad
theorem Od(i:Nat)(m:Ev->Mm){x cls f:Str}{p0 p1 p2:Pos}(A:nQ X.K cls f)(hK:375)(hN:autoParam (X.N[i]?=some x) zzA._auto_1)(hv:jK X.env.scope x:=by first|exact Yc rfl|exact Xa (Yc rfl)|exact Xa (Xa rfl))(hd:141)
  (hcd:autoParam ((x==306)=false) zzB._auto_1) (hs:autoParam (Xj (.Dict [] [] p0) (some (.Attribute (.Name x p1) f p2)) pos.line X.env=pure false) zzA._auto_1):IT X c (.Assign [.Attribute (.Name x p1) f p2] (.Dict [] [] p0) pos) (G9 i cls f m):=
 ⟨fK (FJ (eK hN hv hd hcd) Lv hs) λE σ H ⟨J,env,sr,w⟩=>by
  unfold G9 at w;split at w
  ·rename_i s hi;split at w
   ·rename_i hl;split at w
    ·rename_i s' hs';obtain⟨a,C,dx,fs,q1,q2,q3,q4,q5,q6⟩:=Gd sr (hK▸A) hi hs';refine⟨(m env).1,(m env).2,Xg hl 120,λp hp=>?_⟩;have e2:=Ext.newJ sr.hp.sub hp (.memo (m env).1 (m env).2);exact⟨.ref a,q1,a,C,dx,fs,rfl,e2.h _ _ q2,hK▸q3,hK▸q4,q5,w _ _ e2.j (q6 e2 (.ob ⟨rfl,bf⟩ .nil))⟩
    ·exact w.elim
   ·exact w.elim
  ·exact w.elim⟩
end
noncomputable def u_(cls:Str)(N:131)(gB:G O)(as:List S):M R:=match gB (aG N (.oo (.ins cls []) []::as))with
 | .ok (.nx env)=>(match (env[0]?:Option (Option S))with
  |some (some (.oo k xs))=>.ok (.o .fresh k xs)
  |_=>.bad)
 |_=>.bad
noncomputable def Ql(K:UG)(C:UX)(n:Nat)(F:234):Sp:=λvs H Q _=>∃J as H1 x dx us,vs=.ref x::us/\H1 x=none/\H1 dx=none/\dx≠x/\H=upd (upd H1 dx (.own x)) x (.ins C dx [])/\aY J H1/\as.length=n/\gD K J H1 as us/\
 cJ (F as) (λr=>match r with
  | .o .fresh k xs=>∀J' H',Ext J H1 J' H'->iG K J' H' x k xs->J' x=none->Q .non H'
  |_=>False) (λ_=>False)
section
variable{P:U0}{w:Vj}{K:UG}{mg:Str->Option UH}{base:VU}{cls UB:Str}{st:Xq}{f C:UX}{fd:Vp}{N ps:List Str}{k n:Nat}
theorem Gb{J H1:Hp}{T:359}{as:List S}{x dx:UX}{us:List V}(nx:H1 x=none)(nd:H1 dx=none)(ne:dx≠x)(hC:U1 K UT cls=some (some 241))(ik:ou K C)(hs:aY J H1)(h:gD K J H1 as us):
  SR ⟨K,H1,J,T⟩ J (upd (upd H1 dx (.own x)) x (.ins C dx [])) (L2.start N (.ref x::us)) (aG N (.oo (.ins cls []) []::as)):=by
 have s1:aY H1 (upd (upd H1 dx (.own x)) x (.ins C dx [])):=(dY nd _).trans (dY (by rw[aU (VF ne)];exact nx) _);have MK:∀(i:Nat)(y:S),(aG N (.oo (.ins cls []) []::as))[i]?=some (some y)->(i=0/\y=.oo (.ins cls []) [])\/∃j v,i=j+1/\as[j]?=some y/\us[j]?=some v:=λi y q=>by
  have q:=pH q;cases i with
  |zero=>cases q;exact .inl ⟨rfl,rfl⟩
  |succ j=>have q:as[j]?=some y:=q;obtain⟨v,k1,_⟩:=h.get q;exact .inr ⟨j,v,rfl,q,k1⟩
 have own:∀(i:Nat)(xs:Mn),(aG N (.oo (.ins cls []) []::as))[i]?=some (some (mS xs))->i=0:=λi xs q=>by
  rcases MK i _ q with⟨rfl,_⟩|⟨j,v,rfl,q1,_⟩
  ·rfl
  ·obtain⟨v,_,k⟩:=h.get q1;cases xs<;>exact k.elim
 refine⟨⟨hs.trans s1,s1,aY.refl J,λ_ _ q=>q⟩,?_,λi y q=>?_,λi j xs ys v hij q1 q2=>absurd ((own i xs q1).trans (own j ys q2).symm) hij⟩
 ·unfold aG L2.start;rw[UQ,UQ,UL,UL,VL,VL,Vt,Vt,h.length]
 ·rcases MK i y q with⟨rfl,rfl⟩|⟨j,v,rfl,q1,q2⟩
  ·exact⟨.ref x,nM rfl,x,rfl,⟨[],⟨C,dx,hC,ik,rfl,bf⟩,.nil⟩,hs.free nx,nx⟩
  ·obtain⟨v,k1,k2⟩:=h.get q1;refine⟨v,nM (i:=j+1) k1,?_⟩;cases y with
   |d y=>exact k2
   |own y=>exact k2.elim
   |bor y=>exact k2
   |oo _ _=>exact k2.elim
   |ob _ _=>exact k2
theorem M6{gB:G O}(F:fN K "__init__" UB st f fd)(Sc:cK N ps (aF st))(hC:U1 K UT cls=some (some 241))(ik:ou K C)(hn:ps.length=n+1)
  (hb:∀(cdv:UH)(A:Vw)(outer:List Env)(s:UI)(H:Hp)(E:XK)(H0 J:Hp)(T:359),cG k 213->
   QI 279 ⟨K,H0,J,T⟩ (bu st) gB):dF P w K mg base ia (k+1) f fd ps (Ql K C n (u_ cls N gB)):=by
 refine F.ok Sc (λvs H Q E ⟨J,as,H1,x,dx,us,e,_,_,_,_,_,h2,h3,_⟩=>by rw[e,Vt,h3.length,h2,hn]) (λcdv A outer s H vs Q E hr ⟨J,as,H1,x,dx,us,e,nx,nd,ne,eH,h1,h2,h3,h4⟩=>?_);subst e eH;refine⟨_,(hb cdv A outer s _ E H1 J (λ_=>False) hr).h,J,_,Gb (T:=λ_=>False) nx nd ne hC ik h1 h3,?_⟩;unfold u_ at h4;cases qg:gB (aG N (.oo (.ins cls []) []::as))with
 |bad=>rw[qg]at h4;exact h4.elim
 |exc x=>rw[qg]at h4;exact h4.elim
 |ok o=>
  rw[qg]at h4;cases o with
  |rt _=>exact h4.elim
  |bk _=>exact h4.elim
  |ct _=>exact h4.elim
  |nx env=>
   intro J' H' sj sr;dsimp only at h4;split at h4
   ·rename_i k' xs hz;obtain⟨v,q1,a,rfl,oa,j1,_⟩:=sr.at_ 0 _ hz;have q2:(L2.start N (.ref x::us))[0]?=some (some (.ref x)):=nM rfl;rw[q2]at q1;cases q1;exact h4 J' H' ⟨sr.hp.ent,sr.hp.entJ,sr.hp.sub,sr.hp.frz⟩ oa j1
   ·exact h4.elim
noncomputable def xO(P:U0)(w:Vj)(K:UG)(mg:145)(base:VU)(k n:Nat)(cls:Str)(F:234):Prop:=
 ∃f fd ps C,dF P w K mg base ia k f fd ps (Ql K C n F)/\Mk K C f/\mg cls=some 241/\Binds K fd ps []
theorem Ic{gB:G O}(F:fN K "__init__" UB st f fd)(M:Mk K C f)(hm:mg cls=some 241)(hC:U1 K UT cls=some (some 241))(ik:ou K C)(Sc:cK N ps (aF st))
  (hbi:∀(kV doc pm:UH)(an:259)(cdv ct:UH)(us:List UH),us.length=ps.length->Za (Vm "__init__" UB (bX st) (bu st) (aF st) .none kV doc pm an cdv ct) ⟨us,[]⟩=pure (ps.zip us)) (hn:ps.length=n+1)
  (hb:∀(cdv:UH)(A:Vw)(outer:List Env)(s:UI)(H:Hp)(E:XK)(H0 J:Hp)(T:359),cG k 213->
   QI 279 ⟨K,H0,J,T⟩ (bu st) gB):xO P w K mg base (k+1) n cls (u_ cls N gB):=⟨f,fd,ps,C,M6 F Sc hC ik hn hb,M,hm,F.binds hbi⟩
theorem GL{Fm:234}(F:fN K "__init__" UB st f fd)(M:Mk K C f)(hm:mg cls=some 241)
  (hbi:∀(kV doc pm:UH)(an:259)(cdv ct:UH)(us:List UH),us.length=ps.length->Za (Vm "__init__" UB (bX st) (bu st) (aF st) .none kV doc pm an cdv ct) ⟨us,[]⟩=pure (ps.zip us)) (hF:∀as,Fm as=.bad):xO P w K mg base k n cls Fm:=
 ⟨f,fd,ps,C,⟨λvs H Q E ⟨J,as,_,_,_,_,_,_,_,_,_,_,_,_,h⟩=>(by rw[hF as]at h;exact h.elim),λA outer s H args us vs Q E _ _ _ _ ⟨J,as,_,_,_,_,_,_,_,_,_,_,_,_,h⟩=>(by rw[hF as]at h;exact h.elim)⟩,M,hm,F.binds hbi⟩
end
section
variable{X:Cx}{c:C}{e:VC}{es:List VC}{pos:Pos}
noncomputable def A7(n:Nat)(F:Ev->List S->M R)(gs:338):G R:=λenv=>gs env>>=λrs=>if rs.length=n then(match F env (rs.map bH)with
 | .ok (.o .fresh k xs)=>.ok (.o .fresh k xs)
 |_=>.bad)else .bad
theorem FT{α:Type}(gh:Ev->α){F:α->List S->M R}{k k' n:Nat}{x:Str}{p:Pos}{gs:338}(G:∀m,xO X.prog X.w X.K X.mg X.base k n x (F m))(hr:cG k' X.A)(ha:kB X c (e::es) gs)(hk:autoParam (k+1<=k') zzB._auto_1)(hT:autoParam (c.K=X.K) zzA._auto_1)(hg:autoParam (Gl X x) zzA._auto_1)(hdb:141)
  (he:153) (hpl:autoParam ((Wr pos 319).any (·.1)=false) zzA._auto_1):QD X c 205 (A7 n (λenv=>F (gh env)) gs):=
 ⟨λUx s σ H Q I ⟨J,env,sr,w⟩=>by
  obtain⟨f,fd,ps,C,h1,h2,h3,h4⟩:=G (gh env);refine Lu (E:=E0) h2 h1 (hr.mono hk) hg h3 h4 .nil Dj ha.h hdb he hpl Ux s σ H Q I ⟨J,env,sr,aB (aH w) λrs wr vs J1 H1 e1 r1=>λa dx na nd ne=>?_⟩;split at wr
  ·rename_i hl;refine⟨J1,rs.map bH,H1,a,dx,_,rfl,na,nd,ne,rfl,e1.sub,by simpa using hl,by rw[V7,<-hT];exact r1.args 377,?_⟩;dsimp only at wr;cases q:F (gh env) (rs.map bH)with
   |bad=>rw[q]at wr;exact wr.elim
   |exc x=>rw[q]at wr;exact wr.elim
   |ok r=>
    rw[q]at wr;cases r with
    |o m k xs=>
     cases m with
     |fresh=>exact λJ' H' e2 oa ja=>⟨rfl,wr 307 J' H' (e1.trans e2) ⟨a,rfl,hT▸oa,ja,e1.h.free na⟩⟩
     |own=>exact wr.elim
     |bor=>exact wr.elim
    |_=>exact wr.elim
  ·exact wr.elim⟩
end
theorem KL{K:UG}{C:UX}(h1:ZK K C Xs=true)(h2:Zr K C=true)(h3:aaE K C=true)(h4:U7 K 241 "__setattr__"=some (some (.builtin "object.__setattr__")))
  (ha:U7 K 241 "__class__"=some (some 179)) (hn:WQ K 179 "__get__"=some (some 397)) (htk:Zh K 179=some true)
  (hc:(WS K C).map (·.mro)=some [.ref C,.type "object"]):ou K C:=by
 obtain⟨cd,c1,c2⟩:=W0.mp hc;have hm:∀b,Wv K C b=some ([VI C,.type "object"].contains b):=λb=>by unfold Wv;rw[c1,Ym,c2];rfl
 refine⟨⟨h1,h2,h3,h4⟩,ha,hn,htk,by rw[hm];simp,λT k1 k2=>?_⟩;unfold V0 ZD;rw[if_neg 229];simp only[k1,if_true];show Wv K C _=_;rw[hm];have:T≠"object":=λz=>by rw[z]at k2;simp[i6]at k2
 simp[this]
def Gr(dom:List (List Int))(f:List Int->Bool)(UC:List (List Key×V)):Prop:=dom.length<sizeLine/\∀p∈UC,∃is,is∈dom/\p=(is.map Xl,V.bl (f is))
section
variable{X:Cx}{Ux:List (UX×Obj)}{σ:L2.St}{H:Hp}{s:UI}{a b:UX}{dom:List (List Int)}{f:List Int->Bool}{UC:List (List Key×V)}{is:List Int}
theorem Bd{H:Hp}:∀{UC:List (List Key×V)}{xs:List (List Key×UX×UH)},KT H UC xs->UC.map (·.1)=xs.map (·.1)
 |_,_,.nil=>rfl
 |_,_,.cons r rs=>by rw[Vl,Vl,r.1,Bd rs]
theorem Ba:∀{a b:List Int},a.map (Xl:Int->Key)=b.map Xl->a=b
 |[],[],_=>rfl
 |[],_::_,h=>nomatch h
 |_::_,[],h=>nomatch h
 |x::xs,y::ys,h=>by
  rw[Vl,Vl]at h;injection h with h1 h2
  rw[afe h1,Ba h2]
theorem Na(g:Gr dom f UC)(nd:(UC.map (·.1)).Nodup):UC.length<=dom.length:=by
 have:=WA nd (l₂:=dom.map λis=>is.map (Xl:Int->Key)) λk hk=>by obtain⟨p,hp,rfl⟩:=Vc.mp hk;obtain⟨is,h1,rfl⟩:=g.2 p hp;exact Vc.mpr ⟨is,h1,rfl⟩
 rw[UL,UL]at this;exact this
theorem Inv.opn(I:135)(h:H a=some (.memo dom f)):∃UC,Gr dom f UC/\UC.length<sizeLine/\Inv X Ux σ (upd H a (.dT UC)) s:=by obtain⟨h1,h2,UC,g,xs,kt,o,es,ep,e1,e2,e3,e4,e5⟩:=(show cB X.prog X.w H s.heap a (.memo dom f)from I.hok a _ h);have kt:KT H UC xs:=kt;have hl:UC.length<sizeLine:=Xg (Na ⟨h2,g⟩ (by rw[Bd kt];exact e5)) h2;refine⟨UC,⟨h2,g⟩,hl,?_⟩;have:=I.write (x:=a) (e:=a) (o:=.dT UC) (t':=s.toks) (h':=s.heap) (by rw[h];exact WV) 394 (λ_ _ _ q=>q) ⟨o,e1⟩ ⟨ZG hl,h1,xs,kt.keeps λb ys q=>by rw[aU (λz=>by rw[z,h]at q;cases q)];exact q,o,es,ep,e1,e2,e3,e4,e5⟩;exact this
theorem Inv.shut(I:135)(h:H a=some (.dT UC))(g:Gr dom f UC):Inv X Ux σ (upd H a (.memo dom f)) s:=by obtain⟨h1,h2,xs,kt,o,es,ep,e1,e2,e3,e4,e5⟩:=(show cB X.prog X.w H s.heap a (.dT UC)from I.hok a _ h);have kt:KT H UC xs:=kt;have:=I.write (x:=a) (e:=a) (o:=.memo dom f) (t':=s.toks) (h':=s.heap) (by rw[h];exact WV) 394 (λ_ _ _ q=>q) ⟨o,e1⟩ ⟨h2,g.1,UC,g.2,xs,kt.keeps λb ys q=>by rw[aU (λz=>by rw[z,h]at q;cases q)];exact q,o,es,ep,e1,e2,e3,e4,e5⟩;exact this
theorem zY{H:Hp}{a:UX}{o u:HO}(h:H a=some o):upd (upd H a u) a o=H:=by
 funext b;by_cases q:b=a
 ·rw[q,bf,h]
 ·rw[aU q,aU q]
theorem Nd(g:Gr dom f UC):dw UC (is.map Xl)=none\/dw UC (is.map Xl)=some (.bl (f is)):=by
 unfold dw;cases q:UC.find? λkv=>decide (kv.1=is.map Xl)with
 |none=>exact .inl rfl
 |some p=>
  obtain⟨js,_,rfl⟩:=g.2 p (aax q);have z:=ad5 q;have e:js.map (Xl:Int->Key)=is.map Xl:=of_decide_eq_true z;rw[Ba e];exact .inr rfl
theorem Nc(g:Gr dom f UC)(h:is∈dom):Gr dom f (putK UC (is.map Xl) (.bl (f is))):=by
 refine⟨g.1,?_⟩;unfold putK;split
 ·intro p hp;obtain⟨q,hq,rfl⟩:=Vc.mp hp;split
  ·rename_i e;exact⟨is,h,by rw[e]⟩
  ·exact g.2 q hq
 ·intro p hp;rcases Vk.mp hp with hp|hp
  ·exact g.2 p hp
  ·rw[UM.mp hp];exact⟨is,h,rfl⟩
theorem ve:is.map V.int=(is.map (Xl:Int->Key)).map kV:=by rw[Wc];rfl
noncomputable def QT:R2:=λx y H Q=>∃a b dom f is,y=.ref a/\H a=some (.memo dom f)/\x=.ref b/\H b=some (.tup (is.map V.int))/\Q (.bl true) H/\∀UC,Gr dom f UC->dw UC (is.map Xl)=some (.bl (f is))->Q (.bl false) (upd H a (.dT UC))
theorem NL(hu:337):dU X (W9 .NotIn) QT:=λUx s σ H x y v u Q I rx ry ⟨a,b,dom,f,is,e1,ha,e2,hb,q1,q2⟩=>by
 subst e1 e2;cases ry;obtain⟨UC,g,hl,I2⟩:=Inv.opn I ha;have hne:b≠a:=λz=>by rw[z,ha]at hb;cases hb
 refine AV (a:=a) (y:=.ref b) 112 I2 (iF.t (k:=is.map Xl) bf (by rw[aU hne,<-ve];exact hb)) rx λs' I'=>?_;rcases Nd (is:=is) g with e|e
 ·rw[e];have I3:=Inv.shut I' bf g;rw[zY ha]at I3;exact⟨.bl true,H,I3,rfl,q1⟩
 ·rw[e];exact⟨.bl false,_,I',rfl,q2 UC g e⟩
noncomputable def Pu:yc:=λo i v H Q=>∃a b dom f is,o=.ref a/\i=.ref b/\H a=some (.memo dom f)/\H b=some (.tup (is.map V.int))/\is∈dom/\v=.bl (f is)/\∀UC,Gr dom f UC->dw UC (is.map Xl)=some (.bl (f is))->Q (upd H a (.dT UC))
theorem L3(hu:337):GB X Pu:=by
 intro Ux s σ H o i v ov iv u Q I ro ri rv ⟨a,b,dom,f,is,e1,e2,ha,hb,hd,e3,q⟩;subst e1 e2 e3;cases ro;obtain⟨UC,g,hl,I2⟩:=Inv.opn I ha;have hne:b≠a:=λz=>by rw[z,ha]at hb;cases hb
 refine vL (a:=a) (y:=.ref b) (v:=.bl (f is)) 112 I2 (rj.t (k:=is.map Xl) bf (by rw[aU hne,<-ve];exact hb) hl) ri rv λs' I'=>?_;rw[Mf]at I';exact⟨_,I',q _ (Nc g hd) (by rw[IE,if_pos rfl])⟩
noncomputable def JM(td ty:TE):TE:=λσ H Q=>td σ H λx H1=>ty σ H1 λy H2=>∃a b dom f is UC,x=.ref a/\y=.ref b/\H2 a=some (.dT UC)/\Gr dom f UC/\dw UC (is.map Xl)=some (.bl (f is))/\H2 b=some (.tup (is.map V.int))/\Q (.bl (f is)) (upd H2 a (.memo dom f))
theorem Lw{o i:VC}{td ty:TE}{pos:Pos}(hu:337)(ho:PE X o td)(hi:PE X i ty)(hs:xZ i):PE X (.Subscript o i pos) (JM td ty):=by
 intro Ux s σ H Q I h;refine BB YR.lookup hs (bO (ho Ux s σ H _ I h) λu s1 ⟨x,H1,I1,rx,q1⟩=>bO (hi Ux s1 σ H1 _ I1 q1) λiv s2 ⟨y,H2,I2,ry,a,b,dom,f,is,UC,ex,ey,ha,g,hv,hb,q2⟩=>?_);subst ex ey;obtain rfl:u=VI a:=rx;have dg:iF H2 a (.ref b) (some (.bl (f is))):=by rw[<-hv];exact iF.t ha (by rw[<-ve];exact hb)
 exact⟨qA I2 dg,vK 112 I2 dg ry λw' s3 I3 rw'=>⟨_,_,Inv.shut I3 ha g,rw',q2⟩⟩
end
noncomputable def lF:List D->Option (List Int)
 |[]=>some []
 | .int i::r=>(lF r).map (i::·)
 |_=>none
theorem vR{K:UG}{J:Hp}:∀{xs:List D}{vs:List V}{is:List Int},aW K J xs vs->lF xs=some is->vs=is.map V.int
 |_,_,_,.nil,h=>by cases h;rfl
 | .int i::r,_,_,.cons (.int _) rs,h=>by obtain⟨js,h1,rfl⟩:=W0.mp (show(lF r).map (i::·)=some _ from h);rw[vR rs h1];rfl
 | .non::_,_,_,_,h=>nomatch h
 | .bl _::_,_,_,_,h=>nomatch h
 | .str _::_,_,_,_,h=>nomatch h
 | .tup _::_,_,_,_,h=>nomatch h
 | .lst _::_,_,_,_,h=>nomatch h
 | .emp::_,_,_,_,h=>nomatch h
 | .exn _ _ _::_,_,_,_,h=>nomatch h
 | .dct _ _::_,_,_,_,h=>nomatch h
 | .ob _ _::_,_,_,_,h=>nomatch h
noncomputable def xC(i j:Nat)(cls fl:Str)(gl ge:G R):G O:=λenv=>gl env>>=λr=>fY r>>=λxs=>af i (env.set j (some (.d 333)))>>=λrp=>jh cls fl rp>>=λrm=>match rm,lF xs,ge (env.set j (some (.d 333)))with
 | .d (.ob (.mem dom f) _),some is,.ok (.d (.bl b))=>if(dom.contains is=true/\j<env.length)/\b=f is then .ok (.rt (.d (.bl b)))else .bad
 |_,_,_=>.bad
section
variable{X:Cx}{c:C}{e l:VC}{g gl:G R}{pos posI posS p1 p2 p3 p4 p5 p6 p7 p8 p9 pa pb pc pd:Pos}
theorem IG{r:R}{α:Type}{k:List D->M α}{P:α->Prop}{T:359}(w:cJ (fY r>>=k) P T):∃xs,fY r=.ok xs/\cJ (k xs) P T:=by
 cases q:fY r with
 |ok xs=>rw[q]at w;exact⟨xs,rfl,w⟩
 |bad=>rw[q]at w;exact w.elim
 |exc x=>
  unfold fY at q;split at q<;>cases q
theorem KG{J H:Hp}{σ:L2.St}{env:Ev}(sr:SR c J H σ env){i:Nat}{α:Type}{k:R->M α}{P:α->Prop}{T:359}(w:cJ (af i env>>=k) P T):∃r v,σ[i]?=some (some v)/\RR c H J H r v/\cJ (k r) P T:=by
 unfold af at w;cases q:env[i]? with
 |none=>rw[q]at w;exact w.elim
 |some o=>
  cases o with
  |none=>rw[q]at w;exact w.elim
  |some x=>
   rw[q]at w;obtain⟨v,h1,h2⟩:=sr.at_ i x q;cases x with
   |d y=>exact⟨.d y,v,h1,h2,w⟩
   |own y=>exact⟨.l .own y,v,h1,h2,w⟩
   |bor y=>exact⟨.l .bor y,v,h1,h2,w⟩
   |oo k y=>exact⟨.o .own k y,v,h1,h2,w⟩
   |ob k y=>exact⟨.o .bor k y,v,h1,h2,w⟩
theorem FU{i j:Nat}{x y cls fl:Str}(hu:337)(A:nQ X.K cls fl)(hl:QD X c l gl)(he:QD X c e g)(hN:X.N.Nodup)(hm:X.mg "tuple"=none)(hij:autoParam (j≠i) zzB._auto_1)(hK:375)
  (hi:autoParam (X.N[i]?=some x) zzA._auto_1) (hv:jK X.env.scope x:=by first|exact Yc rfl|exact Xa (Yc rfl)|exact Xa (Xa rfl)) (hd:141) (hcd:autoParam ((x==306)=false) zzB._auto_1)
  (hj:autoParam (X.N[j]?=some y) zzA._auto_1) (TH:jK X.env.scope y:=by first|exact Yc rfl|exact Xa (Yc rfl)|exact Xa (Xa rfl)) (Th:autoParam ((y==389)=false) zzB._auto_1) (Te:autoParam ((y==306)=false) zzB._auto_1)
  (Ur:Loc X.env.scope y:=by first|exact Yc rfl|exact Xa rfl) (hg:autoParam (Gl X "tuple") zzA._auto_1) (hst:autoParam (UP [l] X.env=(false,eval l X.env)::UP [] X.env) zzA._auto_1) (hpl:autoParam ((Wr p2 (UP [] X.env)).any (·.1)=false) zzA._auto_1)
  (hs:autoParam (Xj (.Call (.Name "tuple" p1) [l] [] p2) (some (.Name y p3)) pos.line X.env=pure false) zzA._auto_1) (hf:X.fn y=true\/X.env.scope.names.lookup y=some .local:=by first|exact .inl rfl|exact .inr rfl)
  (hb1:autoParam (WH (.Name x p5) fl X.env (eval (.Name x p5) X.env)=eval (.Name x p5) X.env) zzA._auto_1) (hb2:autoParam (WH (.Name x p8) fl X.env (eval (.Name x p8) X.env)=eval (.Name x p8) X.env) zzA._auto_1) (T9:autoParam (WH (.Name x pa) fl X.env (eval (.Name x pa) X.env)=eval (.Name x pa) X.env) zzA._auto_1)
  (Uj:autoParam (We .NotIn (.Attribute (.Name x p5) fl p6)=false) zzA._auto_1)
  (ha:∀v,assign (.Subscript (.Attribute (.Name x p8) fl p9) (.Name y pc) posS) X.env v=(do
   let ov <-holding [v] (eval (.Attribute (.Name x p8) fl p9) X.env)
   let iv <-holding [v,ov] (eval (.Name y pc) X.env)
   Ye posS
   (holding [v,ov,iv] (aeD ov iv v))
   release [v,ov,iv] []):=by intro _;rfl)
  {q1 q2 q3:Pos}(hs2:autoParam (ZU [.Subscript (.Attribute (.Name x p8) fl p9) (.Name y pc) posS] e q1.line X.env=pure false) zzA._auto_1) (hw:autoParam (aaQ [.Subscript (.Attribute (.Name x p8) fl p9) (.Name y pc) posS] e X.env=pure none) zzA._auto_1)
  (h1:autoParam ((XC [.Subscript (.Attribute (.Name x p8) fl p9) (.Name y pc) posS] X.env).map (·.2)=[assign (.Subscript (.Attribute (.Name x p8) fl p9) (.Name y pc) posS) X.env]) zzA._auto_1) (hns:xZ (.Name y pd):=by exact λ_ _=>rfl):
  lq X c [.Assign [.Name y p3] (.Call (.Name "tuple" p1) [l] [] p2) pos,.If (.Compare (.Name y p4) [.NotIn] [.Attribute (.Name x p5) fl p6] p7) [.Assign [.Subscript (.Attribute (.Name x p8) fl p9) (.Name y pc) posS] e q1] [] posI,.Return (some (.Subscript (.Attribute (.Name x pa) fl pb) (.Name y pd) q2)) q3] (xC i j cls fl gl g):=by
 refine⟨o7 (kT (mR hN hj Ur (o5 nS hg hm qy (ez hl.h gM hst) 120 120 hst hpl) hs hf) (kT (Dl (vq (NL hu) (eK hj TH Th Te) (uc (eK hi hv hd hcd) hb1) Uj) (jk (zu he.h (FD (uc (eK hi hv hd hcd) hb2) (eK hj TH Th Te) (L3 hu) ha) hs2 hw h1)) vo) (jk (FL (Lw hu (uc (eK hi hv hd hcd) T9) (eK hj TH Th Te) hns))))) λE σ H ⟨J,env,sr,w⟩=>?_⟩;refine⟨J,env,sr,aB (aH w) λr wr v J1 H1 e1 r1=>?_⟩;obtain⟨xs,qa,wr⟩:=IG wr;obtain⟨p,vs,rfl,hq,hr⟩:=RR.list 377 r1 qa;refine⟨p,vs,rfl,.inl ⟨hK▸hq,λb hb=>?_⟩⟩;have hp1:=sr.hp.ext e1;have e2:Ext J H (upd J1 b (.tup vs)) (upd H1 b (.tup vs)):=e1.trans (Ext.newJ hp1.sub hb _);have sr2:SR c (upd J1 b (.tup vs)) (upd H1 b (.tup vs)) (σ.set j (some (.ref b))) (env.set j (some (.d 333))):=(sr.ext e2).setD (x:=.d 333) (kX hp1 hb hr) λx z=>by cases x<;>cases z
 have TM:upd J1 b (HO.tup vs) b=some (.tup vs):=bf;generalize upd J1 b (HO.tup vs)=J2 at e2 sr2 TM ⊢;generalize upd H1 b (HO.tup vs)=H2 at e2 sr2 ⊢;have SW:H2 b=some (.tup vs):=sr2.hp.sub _ _ TM;obtain⟨rp,vp,TJ,rrp,wr⟩:=KG sr2 wr;cases qf:jh cls fl rp with
 |bad=>rw[qf]at wr;exact wr.elim
 |exc z=>exact(Ey qf).elim
 |ok rm=>
  rw[qf]at wr;have wr:cJ (match rm,lF xs,g (env.set j (some (.d 333)))with
   | .d (.ob (.mem dom f) _),some is,.ok (.d (.bl b))=>if(dom.contains is=true/\j<env.length)/\b=f is then .ok (.rt (.d (.bl b)))else .bad
   |_,_,_=>.bad) (oP c J E) c.T:=wr
  split at wr
  ·rename_i dom f zs is bb hi2 Tp _;split at wr
   ·rename_i hc;obtain⟨a,C,dx,fs,u,rfl,k2,k3,k4,k5,k6⟩:=A1 sr2.hp (hK▸A) rrp qf;obtain rfl:=vR hr hi2;cases k6 with
    |ob h hs'=>
     rename_i am vs';obtain⟨_,T4⟩:=h;have SV:=sr2.hp.sub _ _ T4;have hne:a≠am:=λz=>by rw[z,SV]at k2;cases k2
     have hnb:b≠am:=λz=>by rw[z,SV]at SW;cases SW
     have hjl:j<σ.length:=sr.len▸hc.1.2;have hσj:(σ.set j (some (V.ref b)))[j]?=some (some (.ref b)):=V1 hjl;have k3:qm X.K C:=hK▸k3;have k4:ie X.K C fl:=hK▸k4;have hmem:is∈dom:=Wo.mp hc.1.1;obtain rfl:=hc.2;have ret:∀(J3 H3:Hp),Ext J2 H2 J3 H3->∀UC,Gr dom f UC->dw UC (is.map Xl)=some (.bl (f is))->JM (OF X.K (sq i) fl) (sq j) (σ.set j (some (.ref b))) (upd H3 am (.dT UC)) E.rt:=λJ3 H3 e3 UC gr hv=>by refine⟨.ref a,TJ,a,C,dx,fs,.ref am,rfl,by rw[aU hne];exact e3.h _ _ k2,k3,k4,k5,.ref b,hσj,am,b,dom,f,is,UC,rfl,rfl,bf,gr,hv,by rw[aU hnb];exact e3.h _ _ SW,?_⟩;rw[zY (e3.h _ _ SV)];exact wr (.bl (f is)) J3 H3 (e2.j.trans e3.j) (sr2.hp.ext e3) (.bl _)
     refine⟨.ref b,hσj,.ref a,TJ,a,C,dx,fs,.ref am,rfl,k2,k3,k4,k5,am,b,dom,f,is,rfl,SV,rfl,SW,⟨true,rfl,Np ?_⟩,λUC gr hv=>⟨false,rfl,Nn ?_⟩⟩
     ·refine⟨J2,_,sr2,?_⟩;rw[Tp];intro v J3 H3 e3 r3;cases r3;exact⟨.ref a,TJ,a,C,dx,fs,.ref am,rfl,e3.h _ _ k2,k3,k4,k5,.ref b,hσj,am,b,dom,f,is,rfl,rfl,e3.h _ _ SV,e3.h _ _ SW,hmem,rfl,λUC gr hv=>ret J3 H3 e3 UC gr hv⟩
     ·exact ret J2 H2 (Ext.refl sr2.hp.sub) UC gr hv
   ·exact wr.elim
  ·exact wr.elim
end
end DL
namespace K16
open PySem DL K01
noncomputable def IZ(w:Wd)(n:Str)(p:Nat):Bool:=match w.ms.find? λr=>r.1==n with
 |some r=>decide (p∈r.2)
 |none=>false
noncomputable def E1(w:Wd)(n:Str)(p q:Nat):Bool:=match w.ar.find? λr=>r.1==n with
 |some r=>decide ((p,q)∈r.2)
 |none=>false
def put(ρ:Str->Nat)(a:Str)(p:Nat):Str->Nat:=λb=>if b=a then p else ρ b
def cnt(m:Nat)(f:Nat->Bool):Nat:=((U8 m).filter f).length
noncomputable def sem(w:Wd):Nat->D->(Str->Nat)->Bool
 |0,_,_=>false
 |k+1,.tup [.str h,.str a,.str b],ρ=>if h == "mark" then IZ w a (ρ b)else ρ a==ρ b
 |k+1,.tup [.str _,.str n,.str a,.str b],ρ=>E1 w n (ρ a) (ρ b)
 |k+1,.tup [.str h,.tup ss],ρ=>if h == "not" then !(sem w k (.tup ss) ρ)else if h == "and" then ss.all λs=>sem w k s ρ else ss.any λs=>sem w k s ρ
 |k+1,.tup [.str h,.str a,.tup xs],ρ=>if h == "some" then decide (1<=cnt w.m λp=>sem w k 333 (put ρ a p))else decide (w.m<=cnt w.m λp=>sem w k 333 (put ρ a p))
 |k+1,.tup [.str _,.int i,.str a,.tup xs],ρ=>decide (i<=cnt w.m λp=>sem w k 333 (put ρ a p))
 |_,_,_=>false
noncomputable def tups(m:Nat):Nat->List (List Int)
 |0=>[[]]
 |k+1=>(U8 m).flatMap λ(p:Nat)=>(tups m k).map λl=>(p:Int)::l
noncomputable def asg:List Str->List Int->Str->Nat
 |a::as,i::is,b=>if b=a then i.toNat else asg as is b
 |_,_,_=>0
def mu(w:Wd)(d:D):Mm:=(if(K12.bF 60 d).length<=3 then tups w.m (K12.bF 60 d).length else [],λis=>sem w 60 d (asg (K12.bF 60 d) is))
noncomputable def JO:D->Str×List Nat
 | .tup [.str n,.tup xs]=>(n,xs.map K55.Gp)
 |_=>(Xs,[])
noncomputable def JN:D->Str×List (Nat×Nat)
 | .tup [.str n,.tup xs]=>(n,xs.map K55.OQ)
 |_=>(Xs,[])
noncomputable def OR:D->Wd
 | .tup [.int m,.tup ms,.tup ar]=>⟨m.toNat,ms.map JO,ar.map JN⟩
 |_=>⟨0,[],[]⟩
noncomputable def Qe(mu:D->Mm)(i:Nat)(env:Ev):Mm:=match env[i]? with
 |some (some (.d x))=>mu x
 |_=>([],λ_=>false)
noncomputable def HB(i:Nat)(env:Ev):D->Mm:=match env[i]? with
 |some (some (.d x))=>mu (OR x)
 |_=>λ_=>([],λ_=>false)
end K16
namespace K16
open PySem DL
def sJ:List Str:=["world","many","marks","arrows"]
noncomputable def tN:G O:=(av (oK (iE 3 (c5 (aJ 1) (c5 (aJ 2) (c5 (aJ 3) iY)))) (af 0))
 (aO (bN (ak (gN f7 (ah (c9 2 [] (iT (af 2)) (iE 2 (c5 (aJ 0) (c5 (aJ 1) iY))) f_ (af 0)) ay)) (ak (gN f7 (ah (c9 2 [] (iT (af 3)) (iE 2 (c5 (aJ 0) (c5 (aJ 1) iY))) f_ (af 0)) ay)) aE)))))
def gW(as:List S):M R:=fin (tN (aG sJ as))
def xW:List Str:=["rows","name","one","things"]
noncomputable def yO:G O:=(av (d8 (iS (af 0)) (iE 2 (c5 (aJ 2) (c5 (aJ 3) iY))) (aM (aK (g2 159 (af 2) (af 1))) (aO (af 3)) bh))
 Jk)
def i_(as:List S):M R:=fin (yO (aG xW as))
def DV:List Str:=["world","name","point"]
def EC:G O:=(aO (g2 (gn false) (af 2) (gN (aD 2 K16.i_) (ah 293 253))))
def om(as:List S):M R:=fin (EC (aG DV as))
def DW:List Str:=["world","name","one","other"]
def EF:G O:=(aO (g2 (gn false) (bN (ak (af 2) (ak (af 3) aE))) (gN (aD 2 K16.i_) (ah (g2 aI (af 0) 162) 253))))
def oq(as:List S):M R:=fin (EF (aG DW as))
def IQ:List Str:=["self","saying","earlier"]
noncomputable def tH(mu:D->Mm)(Fr:234):G O:=(av (lU 0 "Part" "saying" (af 1))
 (av (lU 0 "Part" "inner" (c9 1 [2] (iT (gN (aD 1 K12.jS) 253)) (aJ 0) f_ (A7 2 (λ_=>Fr) (ah (af 0) 253))))
 (av (lU 0 "Part" "table" (Qi (aK (g2 159 (g2 aI (af 1) 132) (gC (.str "row")))) (g2 aI (af 2) (g2 aI (af 1) 137)) (gC .non)))
 (av (lU 0 "Part" "free" (gN (aD 2 K12.jM) (ah (af 1) (ah (yK 2 [] (iT (fh "Part" "inner" (af 0))) (aJ 0) f_ (iS (fh "Part" "free" (af 0))) (aJ 1) f_ (af 1)) ay))))
 (av (lU 0 "Part" "kept" (bz (g2 (gn false) (g2 aI (af 1) 132) (gC (.tup [(.str "some"),(.str "every"),(.str "least")]))) (g2 (b9 λi j=>.bl (decide (i<=j))) (gN eV (ah (fh "Part" "free" (af 0)) ay)) (gC (.int 3)))))
 (G9 0 "Part" "found" (K16.Qe mu 1)))))))
noncomputable def gS(mu:D->Mm):Nat->List S->M R
 |0,_=>.bad
 |k+1,as=>u_ "Part" IQ (tH mu (gS mu k)) as
def JX:List Str:=["world","part","places","wanted","letter","spare","here","point"]
noncomputable def A8(Fr:234):G O:=(av (aN 4 (g2 aI (gN (aD 1 K12.fT) (ah (fh "Part" "saying" (af 1)) ay)) 132))
 (av (aN 5 (g2 g8 158 (af 3)))
 (av (aN 6 (gN yJ 276))
 (av (d8 (dQ (ah 158 ay)) (aJ 7) (av (oN 6 (af 4) (af 7))
 (av 318
 (aM (bY (aK (g2 159 (af 3) 132)) 364) Jl bh))))
 (aO (g2 159 (af 3) 132))))))
def jR(Fr:234)(as:List S):M R:=fin (A8 Fr (aG JX as))
def xV:List Str:=["world","parts","places","truth","part"]
noncomputable def oS(Fr:234):G O:=(av (d8 (iS (af 1)) (aJ 4) (aM (aK (g2 159 (gN (aD 3 Fr) (ah (af 0) (ah (af 4) 276))) (af 3))) (aO (gC (.bl true))) bh))
 390)
def gF(Fr:234)(as:List S):M R:=fin (oS Fr (aG xV as))
def DY:List Str:=["world","part","places","saying","word"]
noncomputable def vQ(Fr:234):G O:=(av (aN 3 (fh "Part" "saying" (af 1)))
 (av (aN 4 (g2 aI (af 3) 132))
 (av (aM (aK (g2 159 (af 4) (gC (.str "mark")))) (aO (gN (aD 3 K16.om) (ah (af 0) (ah (g2 aI (af 3) 137) (ah (g2 kK (af 2) (g2 aI (af 3) 162)) ay))))) bh)
 (av (aM (aK (g2 159 (af 4) (gC (.str "arrow")))) (aO (gN (aD 4 K16.oq) (ah (af 0) (ah (g2 aI (af 3) 137) (ah (g2 kK (af 2) (g2 aI (af 3) 162)) (ah (g2 kK (af 2) (g2 aI (af 3) (gC (.int 3)))) ay)))))) bh)
 (av (aM (aK (g2 159 (af 4) (gC (.str "same")))) (aO (g2 159 (g2 kK (af 2) (g2 aI (af 3) 137)) (g2 kK (af 2) (g2 aI (af 3) 162)))) bh)
 (av (aM (aK (g2 159 (af 4) (gC (.str "row")))) (aO (g2 aI (fh "Part" "table" (af 1)) (gN f7 (ah (c9 1 [2] (iT (g2 aI (af 3) 162)) (aJ 0) f_ (g2 kK (af 1) (af 0))) ay)))) bh)
 (av (aM (aK (g2 159 (af 4) (gC (.str "not")))) (aO (bC (gN (aD 3 Fr) (ah (af 0) (ah (g2 aI (fh "Part" "inner" (af 1)) 132) 276))))) bh)
 (av (aM (aK (g2 159 (af 4) (gC (.str "and")))) (aO (bC (gN (aD 4 (K16.gF Fr)) (ah (af 0) (ah (fh "Part" "inner" (af 1)) (ah (af 2) (ah (gC (.bl false)) ay))))))) bh)
 (av (aM (aK (g2 159 (af 4) (gC (.str "or")))) (aO (gN (aD 4 (K16.gF Fr)) (ah (af 0) (ah (fh "Part" "inner" (af 1)) (ah (af 2) (ah (gC (.bl true)) ay)))))) bh)
 (av (aM (aK (g2 159 (af 4) (gC (.str "some")))) (aO (gN (aD 4 (K16.jR Fr)) (ah (af 0) (ah (af 1) (ah (af 2) (ah 137 ay)))))) bh)
 (av (aM (aK (g2 159 (af 4) (gC (.str "every")))) (aO (gN (aD 4 (K16.jR Fr)) (ah (af 0) (ah (af 1) (ah (af 2) (ah 158 ay)))))) bh)
 (aO (gN (aD 4 (K16.jR Fr)) (ah (af 0) (ah (af 1) (ah (af 2) (ah (g2 aI (af 3) 137) ay)))))))))))))))))
def iL(Fr:234)(as:List S):M R:=fin (vQ Fr (aG DY as))
def Ac:List Str:=["world","part","places","points"]
noncomputable def lZ(Fr:234):G O:=(av (aM (bD (aK (fh "Part" "kept" (af 1)))) (aO (gN (aD 3 (K16.iL Fr)) (ah (af 0) (ah (af 1) 276)))) bh)
 (xC 1 3 "Part" "found" (c9 1 [2] (iT (fh "Part" "free" (af 1))) (aJ 0) f_ (g2 kK (af 1) (af 0))) (gN (aD 3 (K16.iL Fr)) (ah (af 0) (ah (af 1) 276)))))
noncomputable def dW:Nat->List S->M R
 |0,_=>.bad
 |k+1,as=>fin (lZ (dW k) (aG Ac as))
end K16
namespace K16
open PySem PySem.Spec PyProof.Rows DL K01 WP
open K12 (Sy wit dJ bnd own bF jL dM b7 cL gv fU)
variable{A B L:List Str}{k:Nat}{d:D}{w:Wd}
theorem mF:∀{k:Nat}{d:D},Sy A B L k d->∀{j:Nat},k<=j->bF j d=bF k d
 |0,d,h,j,hj=>by obtain⟨_,e⟩:=b7 h;cases e
 |k+1,d,h,j,hj=>by obtain⟨j,rfl⟩:∃i,j=i+1:=⟨j-1,by omega⟩;have:(wit d).flatMap (bF j)=(wit d).flatMap (bF k):=fU λs hs=>mF (cL h s hs) 112;unfold bF;rw[this]
theorem gu(hb:(bnd d).isEmpty=true){x:Str}(hx:x∈dJ d):x∈bF (k+1) d:=by unfold bF;rw[if_pos hb];exact dM.mpr (VR _ hx)
theorem xB(hb:(bnd d).isEmpty=true){s:D}(hs:s∈wit d){x:Str}(hx:x∈bF k s):x∈bF (k+1) d:=by unfold bF;rw[if_pos hb];exact dM.mpr (VJ _ (Wh.mpr ⟨s,hs,hx⟩))
theorem tF{a:Str}(hb:(bnd d).isEmpty=false)(ha:dJ d=[a]){s:D}(hs:s∈wit d){x:Str}(hx:x∈bF k s)(hn:x≠a):x∈bF (k+1) d:=by
 unfold bF;rw[hb,if_neg 120];refine dM.mpr (Wf.mpr ⟨Wh.mpr ⟨s,hs,hx⟩,?_⟩);rw[ha];have:(a==x)=false:=by simpa using VF hn
 simp[this]
theorem yd{f g:D->Bool}:∀{l:List D},(∀s∈l,f s=g s)->l.all f=l.all g
 |[],_=>rfl
 |x::l,h=>by rw[aaT,aaT,h x UO,yd λs hs=>h s (UN _ hs)]
theorem yf{f g:D->Bool}:∀{l:List D},(∀s∈l,f s=g s)->l.any f=l.any g
 |[],_=>rfl
 |x::l,h=>by rw[WT,WT,h x UO,yf λs hs=>h s (UN _ hs)]
theorem mC{m:Nat}{f g:Nat->Bool}(h:∀p,p<m->f p=g p):cnt m f=cnt m g:=by unfold cnt;congr 1;exact List.filter_congr λp hp=>h p (Vf.mp hp)
theorem kZ:∀{k:Nat}{d:D},Sy A B L k d->∀{j:Nat},k<=j->∀ρ,sem w j d ρ=sem w k d ρ
 |0,d,h,j,hj,ρ=>by obtain⟨_,e⟩:=b7 h;cases e
 |k+1,d,h,j,hj,ρ=>by
  obtain⟨j,rfl⟩:∃i,j=i+1:=⟨j-1,by omega⟩;have hj:k<=j:=by omega
  cases h with
  |mark _ _=>rfl
  |arrow _ _ _=>rfl
  |same _ _=>rfl
  |not h=>exact congrArg not (kZ h hj ρ)
  |and h _=>exact yd λs hs=>kZ (h s hs) hj ρ
  |or h _=>exact yf λs hs=>kZ (h s hs) hj ρ
  |some _ h=>exact congrArg (λn=>decide (1<=n)) (mC λp _=>kZ h hj _)
  |every _ h=>exact congrArg (λn=>decide (w.m<=n)) (mC λp _=>kZ h hj _)
  |least _ _ h=>exact congrArg (λn:Nat=>decide (_<=(n:Int))) (mC λp _=>kZ h hj _)
theorem zx{ρ ρ':Str->Nat}{a:Str}{p:Nat}{l:131}(h:∀x∈l,x≠a->ρ x=ρ' x):∀x∈l,put ρ a p x=put ρ' a p x:=λx hx=>by
 unfold put;by_cases q:x=a
 ·rw[if_pos q,if_pos q]
 ·rw[if_neg q,if_neg q];exact h x hx q
theorem kY:∀{k:Nat}{d:D},Sy A B L k d->∀{ρ ρ':Str->Nat},(∀x∈bF k d,ρ x=ρ' x)->sem w k d ρ=sem w k d ρ'
 |0,d,h,ρ,ρ',_=>by obtain⟨_,e⟩:=b7 h;cases e
 |k+1,_,.mark (n:=n) (a:=a) _ _,ρ,ρ',q=>congrArg (IZ w n) (q a (gu rfl (UM.mpr rfl)))
 |k+1,_,.arrow (n:=n) (a:=a) (b:=b) _ _ _,ρ,ρ',q=>by show E1 w n (ρ a) (ρ b)=E1 w n (ρ' a) (ρ' b);rw[q a (gu rfl UO),q b (gu rfl (UN _ (UM.mpr rfl)))]
 |k+1,_,.same (a:=a) (b:=b) _ _,ρ,ρ',q=>by show(ρ a==ρ b)=(ρ' a==ρ' b);rw[q a (gu rfl UO),q b (gu rfl (UN _ (UM.mpr rfl)))]
 |k+1,_,.not h,ρ,ρ',q=>congrArg not (kY h λx hx=>q x (xB rfl (UM.mpr rfl) hx))
 |k+1,_,.and h _,ρ,ρ',q=>yd λs hs=>kY (h s hs) λx hx=>q x (xB rfl hs hx)
 |k+1,_,.or h _,ρ,ρ',q=>yf λs hs=>kY (h s hs) λx hx=>q x (xB rfl hs hx)
 |k+1,_,.some _ h,ρ,ρ',q=>congrArg (λn=>decide (1<=n)) (mC λp _=>kY h (zx λx hx hn=>q x (tF rfl rfl (UM.mpr rfl) hx hn)))
 |k+1,_,.every _ h,ρ,ρ',q=>congrArg (λn=>decide (w.m<=n)) (mC λp _=>kY h (zx λx hx hn=>q x (tF rfl rfl (UM.mpr rfl) hx hn)))
 |k+1,_,.least _ _ h,ρ,ρ',q=>congrArg (λn:Nat=>decide (_<=(n:Int))) (mC λp _=>kY h (zx λx hx hn=>q x (tF rfl rfl (UM.mpr rfl) hx hn)))
theorem AM{ρ:Str->Nat}:∀{l:131}{x:Str},x∈l->asg l (l.map λa=>(ρ a:Int)) x=ρ x
 |a::l,x,h=>by
  show(if x=a then(ρ a:Int).toNat else asg l _ x)=_;by_cases q:x=a
  ·rw[if_pos q,q];rfl
  ·rw[if_neg q];exact AM ((UR.mp h).resolve_left q)
theorem zU{m:Nat}{ρ:Str->Nat}:∀{l:131},(∀a∈l,ρ a<m)->(l.map λa=>(ρ a:Int))∈tups m l.length
 |[],_=>UM.mpr rfl
 |a::l,h=>Wh.mpr ⟨ρ a,Vf.mpr (h a UO),Vc.mpr ⟨_,zU λb hb=>h b (UN _ hb),rfl⟩⟩
theorem ID{m:Nat}(hm:m<=8):∀{k:Nat},k<=3->(tups m k).length<=512:=by
 have step:∀k,(tups m k).length=m^k:=λk=>by
  induction k with
  |zero=>rfl
  |succ k ih=>
   have:∀(l:249),(l.flatMap λ(p:Nat)=>(tups m k).map λt=>(p:Int)::t).length=l.length*m^k:=λl=>by
    induction l with
    |nil=>simp
    |cons x l ih2=>rw[VN,UQ,ih2,UL,ih,Vt,ae2,Nat.add_comm]
   show((U8 m).flatMap λ(p:Nat)=>(tups m k).map λt=>(p:Int)::t).length=_;rw[this,V_,adq,ae3]
 intro k hk;rw[step];have h1:m^k<=8^k:=Nat.pow_le_pow_left hm k;have h2:8^k<=8^3:=abZ 120 hk;exact Vr h1 h2
end K16
namespace K16
open PySem PySem.Spec PyProof.Rows DL K01 WP
open K12 (Sy wit dJ bnd own wd bF jL dM b7 cL gv fU cj mE jW tu ju ku jy sD bJ)
variable{A B L:List Str}{k:Nat}{d:D}{w:Wd}
theorem rE(w:Wd)(h1:w.ms.length<=100)(h2:w.ar.length<=100):gW [.d w.d]=.ok (.d (cj (w.ms.map VO) (w.ar.map VO))):=by refine dc (uq rfl rfl rfl (b_ (di (aS (n1 (Jb (xs:=w.ms) (λr=>.str r.1) (λr=>.tup (r.2.map dN)) (λr=>.str r.1) rfl 112 λr hr=>⟨_,rfl,rfl⟩) (x:=.l .fresh (w.ms.map λr=>.str r.1)) rfl) rfl (aS (n1 (Jb (xs:=w.ar) (λr=>.str r.1) (λr=>.tup (r.2.map dP)) (λr=>.str r.1) rfl 112 λr hr=>⟨_,rfl,rfl⟩) (x:=.l .fresh (w.ar.map λr=>.str r.1)) rfl) rfl bA)) (UU rfl)) rfl ?_));unfold cj;rw[Wc,Wc];rfl
theorem Mt{α:Type}(nm:α->Str)(g:α->D){xs:List α}{n:Str}{r:α}(h:xs.find? (λr=>nm r==n)=some r)(hg:∀r,rF (.d (g r))=.ok (.d (g r))):i_ [.d (.tup (xs.map λr=>.tup [.str (nm r),g r])),.d (.str n)]=.ok (.d (g r)):=by
 refine dc (lN (ds:=xs.map λr=>.tup [.str (nm r),g r]) rfl ?_);have key:∀(X0:Option S)(ys:List α),ys.find? (λr=>nm r==n)=some r->∀x y:Option S,Wp (dR (iE 2 (c5 (aJ 2) (c5 (aJ 3) iY))) (aM (aK (g2 159 (af 2) (af 1))) (aO (af 3)) bh) (ys.map λr=>.tup [.str (nm r),g r]) [X0,some (.d (.str n)),x,y]) (λo=>o=.rt (.d (g r))):=by
  intro X0 ys
  induction ys with
  |nil=>intro h;cases h
  |cons y ys ih=>
   intro h x z;have ht:aK (g2 159 (af 2) (af 1)) [X0,some (.d (.str n)),some (.d (.str (nm y))),some (.d (g y))]=.ok (nm y==n):=rfl;rw[Vl];unfold dR;show Wp (aM _ _ _ [X0,some (.d (.str n)),some (.d (.str (nm y))),some (.d (g y))]>>=_) _;cases q:nm y==n with
   |true=>
    rw[q]at ht;rw[Wn,q]at h;cases h;rw[gY ht];exact⟨_,rfl,rfl⟩
   |false=>
    rw[q]at ht;rw[Wn,q]at h;rw[iu ht];exact ih h _ _
 exact(key _ xs h none none).mono λo e=>by subst e;rfl
theorem A3{α:Type}{l:List (Str×α)}{n:Str}(h:n∈l.map VO):∃r,l.find? (λr=>r.1==n)=some r:=by
 obtain⟨r,hr,rfl⟩:=Vc.mp h;cases q:l.find? (λx=>x.1==r.1)with
 |some r=>exact⟨r,rfl⟩
 |none=>have:=acJ.mp q r hr;simp at this
theorem JT(w:Wd){n:Str}(hn:n∈w.ms.map VO)(p:Nat):om [.d w.d,.d (.str n),.d (dN p)]=.ok (.d (.bl (IZ w n p))):=by obtain⟨r,hr⟩:=A3 hn;refine dc (b_ (WP.two (x:=.d (dN p)) (y:=cu (.d (.tup (r.2.map dN)))) rfl (c2 (x:=.d (.tup (w.ms.map kW))) (y:=.d (.str n)) rfl rfl (Mt (α:=Str×List Nat) VO (λr=>.tup (r.2.map dN)) hr λ_=>rfl)) (K51.QK p r.2)) rfl ?_);unfold IZ;rw[hr,K55.inN]
theorem JU(w:Wd){n:Str}(hn:n∈w.ar.map VO)(p q:Nat):oq [.d w.d,.d (.str n),.d (dN p),.d (dN q)]=.ok (.d (.bl (E1 w n p q))):=by obtain⟨r,hr⟩:=A3 hn;refine dc (b_ (WP.two (x:=.d (dP (p,q))) (y:=cu (.d (.tup (r.2.map dP)))) (di 237 (UU rfl)) (c2 (x:=.d (.tup (w.ar.map pC))) (y:=.d (.str n)) rfl rfl (Mt (α:=Str×List (Nat×Nat)) VO (λr=>.tup (r.2.map dP)) hr λ_=>rfl)) (K51.QL (p,q) r.2)) rfl ?_);unfold E1;rw[hr,K55.Nh]
def i8:List Str:=["saying","inner","table","free","kept","found"]
def qL(k:Nat)(d:D):Bool:=!(bnd d).isEmpty&&decide ((bF k d).length<=3)
noncomputable def iw(w:Wd):Nat->D->List D
 |0,_=>[]
 |k+1,d=>[d,.lst ((wit d).map λs=>.ob (.ins "Part" i8) (iw w k s)),.non,.lst ((bF (k+1) d).map .str),.bl (qL (k+1) d),.ob (.mem (mu w d).1 (mu w d).2) []]
def pd(w:Wd)(k:Nat)(d:D):D:=.ob (.ins "Part" i8) (iw w k d)
section
variable{env:Ev}{i:Nat}{g:G R}{r:R}{Q:O->Prop}{u:G O}
theorem O9{cls f:Str}{d:D}{s s':S}(h0:env[i]?=some (some s))(h:g env=.ok r)(h2:toD r=.ok d)(h3:wj cls f d s=some s')(k:Q (.nx (env.set i (some s')))):Wp (lU i cls f g env) Q:=⟨_,by unfold lU;rw[h0];show(g env>>=_)=_;rw[h,aT,h2,aT,h3],k⟩
theorem uw{cls f:Str}{d:D}{s s':S}(h0:env[i]?=some (some s))(h:g env=.ok r)(h2:toD r=.ok d)(h3:wj cls f d s=some s')(k:Wp (u (env.set i (some s'))) Q):Wp (av (lU i cls f g) u env) Q:=bU (O9 h0 h h2 h3 k)
theorem m5{cls f:Str}{ns:131}{xs:List D}{d:D}(h:ns.contains f=false)(hl:ns.length<100):wj cls f d (.oo (.ins cls ns) xs)=some (.oo (.ins cls (ns++[f])) (xs++[d])):=if_pos ⟨rfl,h,hl⟩
theorem Jx{n:Nat}{F:Ev->List S->M R}{gs:338}{rs:List R}{k:Kd}{xs:List D}(h:gs env=.ok rs)(hl:rs.length=n)(hF:F env (rs.map bH)=.ok (.o .fresh k xs)):A7 n F gs env=.ok (.o .fresh k xs):=by unfold A7;rw[h,aT,if_pos hl,hF]
theorem xw{a b:G R}{p:Bool}{q:Bool}(ha:a env=.ok (.d (.bl p)))(hb:b env=.ok (.d (.bl q))):bz a b env=.ok (.d (.bl (p&&q))):=by
 unfold bz;rw[ha,aT];cases p with
 |true=>exact hb
 |false=>rfl
end
theorem vC(h:248):aI (.d d) (.d (.int 0))=.ok (.d (.str (wd d))):=by cases h<;>rfl
theorem La(h:248):bB false (.d (.str (wd d))) (.d (.str "row"))=.ok (.d (.bl false)):=by cases h<;>rfl
theorem Ni(h:248):gn false (.d (.str (wd d))) (.d (.tup [.str "some",.str "every",.str "least"]))=.ok (.d (.bl (!(bnd d).isEmpty))):=by cases h<;>rfl
theorem DO(hL:∀x∈L,isLet x=true)(hm:w.m<=8):∀(n:Nat){k:Nat}{d:D},Sy A B L k d->k<=n->k<=60->gS (mu w) n [.d d,.d (.tup [])]=.ok (.o .fresh (.ins "Part" i8) (iw w k d))
 |0,k,d,h,hk,_=>by obtain⟨_,e⟩:=b7 h;omega
 |n+1,k,d,h,hk,Sm=>by
  obtain⟨j,rfl⟩:=b7 h;have hw:=ju h;have inner:∀x∈(wit d).flatMap (bF j),isLet x=true:=λx hx=>by obtain⟨s,hs,hx⟩:=Wh.mp hx;exact jW hL j (cL h s hs) x hx
  have hn:=tu hL j (cL h);have key:Wp (tH (mu w) (gS (mu w) n) [some (.oo (.ins "Part" []) []),some (.d d),some (.d (.tup []))]) (·=.nx [some (.oo (.ins "Part" i8) (iw w (j+1) d)),some (.d d),some (.d (.tup []))]):=by
   refine uw (d:=d) rfl rfl rfl (m5 rfl 120) ?_;refine uw (d:=.lst ((wit d).map (pd w j))) (r:=.l .fresh ((wit d).map (pd w j))) rfl (uZ (α:=D) (xs:=wit d) (h:=id) (pd w j) ?_ 112 λs hs=>⟨.o .fresh (.ins "Part" i8) (iw w j s),Jx (rs:=[.d s,.d (.tup [])]) rfl rfl (DO hL hm n (cL h s hs) 112 112),rfl⟩) rfl (m5 rfl 120) ?_
   ·rw[aal];show(gN _ _ _>>=_)=_;rw[c1 (x:=.d d) (z:=.d (.tup (wit d))) rfl (ku h)];rfl
   refine uw (d:=.non) (r:=.d .non) rfl ?_ rfl (m5 rfl 120) ?_
   ·show(aK (g2 159 (g2 aI (af 1) 132) (gC (.str "row"))) _>>=_)=_;rw[bJ (two (x:=.d (.str (wd d))) (y:=.d (.str "row")) (two (x:=.d d) (y:=.d (.int 0)) rfl rfl (vC h)) rfl (La h))];rfl
   refine uw (d:=.lst ((bF (j+1) d).map .str)) (r:=.l .fresh ((bF (j+1) d).map .str)) rfl (c2 (x:=.d d) (y:=.l .fresh (((wit d).flatMap (bF j)).map .str)) (z:=.l .fresh ((bF (j+1) d).map .str)) rfl ?_ (sD hL h inner 112)) rfl (m5 rfl 120) ?_
   ·unfold yK;refine(K23.Jc (α:=D) (β:=Str) (xs:=wit d) (h:=pd w j) (h':=D.str) (bF j) (λ_ _=>true) (λ_ y=>.str y) rfl 112 λs hs=>⟨Vr (mE hL j (cL h s hs)) 120,λz=>?_,λy hy=>⟨rfl,λ_=>K23.AF rfl rfl⟩⟩).trans ?_
    ·obtain⟨i,rfl⟩:=b7 (cL h s hs);rfl
    ·have:((wit d).flatMap λx=>((bF j x).filter λ_=>true).map D.str)=((wit d).flatMap (bF j)).map .str:=by rw[List.map_flatMap];exact fU λx _=>by rw[ach.mpr λ_ _=>rfl]
     rw[this]
   refine uw (d:=.bl (qL (j+1) d)) (r:=.d (.bl (qL (j+1) d))) rfl (xw (two (x:=.d (.str (wd d))) (y:=.d (.tup [.str "some",.str "every",.str "least"])) (two (x:=.d d) (y:=.d (.int 0)) rfl rfl (vC h)) rfl (Ni h)) ?_) rfl (m5 rfl 120) ?_
   ·show M.ok (R.d (.bl (decide ((((bF (j+1) d).map D.str).length:Int)<=3))))=_;rw[UL];congr 3;rw[decide_eq_decide];omega
   refine⟨_,?_,rfl⟩;have hf:=mF h Sm;have hlen:(mu w d).1.length<=1000000:=by
    unfold mu;show(if(bF 60 d).length<=3 then _ else _:List (List Int)).length<=_;split
    ·exact Vr (ID hm ‹_›) 120
    ·exact Vb _
   show(if(mu w d).1.length<=1000000 then(match wj "Part" "found" (.ob (.mem (mu w d).1 (mu w d).2) []) (.oo (.ins "Part" ["saying","inner","table","free","kept"]) [d,.lst ((wit d).map (pd w j)),.non,.lst ((bF (j+1) d).map .str),.bl (qL (j+1) d)])with
    |some s'=>M.ok (O.nx [some s',some (.d d),some (.d (.tup []))])
    |none=>.bad)else .bad)=_
   rw[if_pos hlen,m5 rfl 120];rfl
  obtain⟨_,hk,rfl⟩:=key;show u_ "Part" IQ (tH (mu w) (gS (mu w) n)) [.d d,.d (.tup [])]=_;unfold u_;show(match tH (mu w) (gS (mu w) n) [some (.oo (.ins "Part" []) []),some (.d d),some (.d (.tup []))]with
   | .ok (.nx env)=>_
   |_=>_)=_
  rw[hk];rfl
end K16
namespace K16
open PySem PySem.Spec PyProof.Rows DL K01 WP
open K12 (Sy wit dJ bnd own wd bF jL dM b7 cL gv fU cj mE jW tu ju ku jy sD bJ iD)
variable{A B L:List Str}{k:Nat}{d:D}{w:Wd}
theorem jZ{α:Type}{x:Str}:∀{ss:131}{xs:List α},ss.length=xs.length->(cX ss xs x).isSome=ss.contains x
 |[],_,_=>by unfold cX;rfl
 |s::ss,[],h=>nomatch h
 |s::ss,v::xs,h=>by
  unfold cX;rw[Wz];by_cases q:s=x
  ·rw[if_pos q,q,beq_self_eq_true];rfl
  ·rw[if_neg q,jZ (by simpa using h),show(x==s)=false by simpa using VF q,aeW]
theorem E2{α:Type}{s x:Str}{v:α}:∀{ss:131}{xs:List α},ss.length=xs.length->cX ss ((ss.zip xs).map λp=>if p.1=s then v else p.2) x=(cX ss xs x).map λd=>if x=s then v else d
 |[],_,_=>by unfold cX;rfl
 |t::ss,[],h=>nomatch h
 |t::ss,u::xs,h=>by
  show cX (t::ss) ((if t=s then v else u)::_) x=_;unfold cX;by_cases q:t=x
  ·rw[if_pos q,if_pos q,q];rfl
  ·rw[if_neg q,if_neg q];exact E2 (by simpa using h)
theorem Be{α:Type}{s x:Str}{v:α}:∀{ss:131}{xs:List α},ss.length=xs.length->cX (ss++[s]) (xs++[v]) x=(cX ss xs x).or (if s=x then some v else none)
 |[],[],_=>by show(if s=x then some v else cX [] [] x)=_;by_cases q:s=x<;>simp[cX,q]
 |[],_::_,h=>nomatch h
 |t::ss,[],h=>nomatch h
 |t::ss,u::xs,h=>by
  show(if t=x then some u else cX (ss++[s]) (xs++[v]) x)=(if t=x then some u else cX ss xs x).or _;by_cases q:t=x
  ·rw[if_pos q,if_pos q];rfl
  ·rw[if_neg q,if_neg q];exact Be (by simpa using h)
theorem E5{α:Type}{s x:Str}{v:α}{ss:131}{xs:List α}(h:ss.length=xs.length):cX (bL ss xs s v).1 (bL ss xs s v).2 x=if x=s then some v else cX ss xs x:=by
 unfold bL;split
 ·rename_i hc;show cX ss _ x=_;rw[E2 h];by_cases q:x=s
  ·rw[if_pos q,q];rw[<-jZ h]at hc;obtain⟨u,hu⟩:=VQ.mp hc;rw[hu,X4,if_pos rfl]
  ·rw[if_neg q];cases cX ss xs x<;>simp[q]
 ·rename_i hc;show cX (ss++[s]) (xs++[v]) x=_;rw[Be h];by_cases q:x=s
  ·rw[if_pos q,q,if_pos rfl];rw[<-jZ h]at hc;cases e:cX ss xs s with
   |none=>rfl
   |some u=>rw[e]at hc;exact(hc rfl).elim
  ·rw[if_neg q,if_neg (VF q),Option.or_none]
theorem Bq{α:Type}{s:Str}{v:α}{ss:131}{xs:List α}:(bL ss xs s v).1.contains s=true:=by
 unfold bL;split
 ·assumption
 ·simp
theorem N9{α:Type}{s:Str}{v:α}{ss:131}{xs:List α}(h:ss.contains s=true):(bL ss xs s v).1=ss:=by unfold bL;rw[if_pos h]
theorem N_{α:Type}{s:Str}{v:α}{ss:131}{xs:List α}:ss.length<=(bL ss xs s v).1.length:=by
 unfold bL;split
 ·exact UW _
 ·simp
structure Pl(m:Nat)(s:S)(F:131)(ρ:Str->Nat)(n:Nat):Prop where
 ex:∃r ss xs,s.rd=.ok r/\bH r=s/\yh r=some (ss,xs)/\ss.length=xs.length/\ss.length<=n/\∀a∈F,cX ss xs a=some (dN (ρ a))/\ρ a<m
theorem Bo{m:Nat}{s:S}{F:131}{ρ:Str->Nat}{n i:Nat}(hs:Pl m s F ρ n){env:Ev}(h0:env[i]?=some (some s)){gk:G R}{a:Str}(hk:gk env=.ok (.d (.str a)))(ha:a∈F):g2 kK (af i) gk env=.ok (.d (dN (ρ a))):=by
 obtain⟨r,ss,xs,h1,h2,h3,h4,h5,h6⟩:=hs.ex;refine WP.two (x:=r) (y:=.d (.str a)) (by unfold af;rw[h0];exact h1) hk ?_;unfold kK;rw[h3];show(match cX ss xs a with
  |some d=>M.ok (R.d d)
  |none=>.bad)=_
 rw[(h6 a ha).1]
def Pt(p:S)(xs:List D):Prop:=∃r,p.rd=.ok r/\bH r=p/\GH r=some (("Part":Str),i8,xs)
theorem jB{env:Ev}{i:Nat}{p:S}{xs:List D}{f:Str}{v:D}(h0:env[i]?=some (some p))(hp:Pt p xs)(hl:(i8.zip xs).lookup f=some v):fh "Part" f (af i) env=.ok (.d v):=by
 obtain⟨r,h1,h2,h3⟩:=hp;show(af i env>>=_)=_;unfold af;rw[h0];show(p.rd>>=_)=_;rw[h1,aT];unfold jh;rw[h3];show(if("Part":Str)="Part" then _ else _)=_;rw[if_pos rfl];show(match (i8.zip xs).lookup f with
  |some d=>M.ok (R.d d)
  |none=>.bad)=_
 rw[hl]
theorem QN{k:Nat}{d:D}:Pt (.d (pd w k d)) (iw w k d):=⟨_,rfl,rfl,rfl⟩
theorem e_{env:Ev}{i:Nat}{s:S}{r:R}(h0:env[i]?=some (some s))(h:s.rd=.ok r):af i env=.ok r:=by unfold af;rw[h0];exact h
theorem CQ{env:Ev}{i:Nat}{g gk:G R}{r:R}{Q:O->Prop}{ss:131}{xs:List D}{d:D}{a:Str}(h0:env[i]?=some (some (.oo (.txt ss) xs)))(h:g env=.ok r)(h2:toD r=.ok d)(hk:gk env=.ok (.d (.str a)))(hl:ss.length<=1000)(k:Q (.nx (env.set i (some (.oo (.txt (bL ss xs a d).1) (bL ss xs a d).2))))):Wp (oN i gk g env) Q:=⟨_,by unfold oN;rw[h0];show(g env>>=_)=_;rw[h,aT,h2,aT,hk,aT];exact if_pos hl,k⟩
abbrev bE(Fr:234):G O:=(av (oN 6 (af 4) (af 7))
 (av 318
 (aM (bY (aK (g2 159 (af 3) 132)) 364) Jl bh)))
section
variable{Fr:List S->M R}{p s:S}{ρ:Str->Nat}{j N:Nat}{x:D}{a:Str}
theorem Oa{ss:131}{xs:List D}{F':131}{m q:Nat}(hl:ss.length=xs.length)(hF:∀b∈F',b≠a->cX ss xs b=some (dN (ρ b))/\ρ b<m)(hq:q<m)(hN:(bL ss xs a (dN q)).1.length<=N):
  Pl m (.ob (.txt (bL ss xs a (dN q)).1) (bL ss xs a (dN q)).2) F' (put ρ a q) N:=by
 refine⟨_,_,_,rfl,rfl,rfl,pY hl,hN,λb hb=>?_⟩;rw[E5 hl];unfold put;by_cases e:b=a
 ·rw[if_pos e,if_pos e];exact⟨rfl,hq⟩
 ·rw[if_neg e,if_neg e];exact hF b hb e
theorem zb(hp:Pt p (iw w (j+1) d))(hw:wit d=[x])(hN:N<=900)(IH:∀(s:S)(ρ:Str->Nat),Pl w.m s (bF j x) ρ (N+1)->Fr [.d w.d,.d (pd w j x),s]=.ok (.d (.bl (sem w j x ρ)))):
  ∀(n q:Nat),q+n=w.m->∀(wt:Int)(ss:131)(xs:List D)(pt:Option S),1<=wt->ss.length=xs.length->(∀v:D,(bL ss xs a v).1.length<=N+1)->(∀b∈bF j x,b≠a->cX ss xs b=some (dN (ρ b))/\ρ b<w.m)->
   Wp (dR (aJ 7) (bE Fr) ((aah q n).map dN) [some 365,some p,some s,some (.d (.int wt)),some (.d (.str a)),some (.d (.int ((n:Int)-wt))),some (.oo (.txt ss) xs),pt])
    (λo=>∃(wt':Int)(e5 e6 e7:Option S),o=.nx [some 365,some p,some s,some (.d (.int wt')),some (.d (.str a)),e5,e6,e7]/\(wt'=0↔wt<=((aah q n).filter λt=>sem w j x (put ρ a t)).length))
 |0,q,hq,wt,ss,xs,pt,h1,hl,hn,hF=>⟨_,rfl,wt,_,_,_,rfl,by simp;omega⟩
 |n+1,q,hq,wt,ss,xs,pt,h1,hl,hn,hF=>by
  have hT:∀l:List Nat,(l.filter λt=>sem w j x (put ρ a t)).length<=l.length:=λl=>YA _ _;have hT:=hT (aah (q+1) n);rw[List.length_range']at hT;rw[adF,Vl,ZO];unfold dR;have hcall:gN (aD 3 Fr) (ah (af 0) (ah (g2 aI (fh "Part" "inner" (af 1)) 132) (ah (af 6) ay))) [some 365,some p,some s,some (.d (.int wt)),some (.d (.str a)),some (.d (.int (((n+1:Nat):Int)-wt))),some (.oo (.txt (bL ss xs a (dN q)).1) (bL ss xs a (dN q)).2),some (.d (dN q))]=.ok (.d (.bl (sem w j x (put ρ a q)))):=by refine c3 (x:=.d w.d) (y:=.d (pd w j x)) (w:=.o .own (.txt (bL ss xs a (dN q)).1) (bL ss xs a (dN q)).2) (z:=.d (.bl (sem w j x (put ρ a q)))) rfl (WP.two (x:=.d (.lst [pd w j x])) (y:=.d (.int 0)) (jB rfl hp (by rw[show iw w (j+1) d=[d,.lst ((wit d).map (pd w j)),.non,.lst ((bF (j+1) d).map .str),.bl (qL (j+1) d),.ob (.mem (mu w d).1 (mu w d).2) []]from rfl,hw];rfl)) rfl rfl) rfl (IH _ _ (Oa hl hF 112 (hn _)))
  have hstep:∀(P:O->Prop),Wp (av 318
 (aM (bY (aK (g2 159 (af 3) 132)) 364) Jl bh) [some 365,some p,some s,some (.d (.int wt)),some (.d (.str a)),some (.d (.int (((n+1:Nat):Int)-wt))),some (.oo (.txt (bL ss xs a (dN q)).1) (bL ss xs a (dN q)).2),some (.d (dN q))]) P->Wp (bE Fr [some 365,some p,some s,some (.d (.int wt)),some (.d (.str a)),some (.d (.int (((n+1:Nat):Int)-wt))),some (.oo (.txt ss) xs),some (.d (dN q))]) P:=λP h=>bU (CQ (d:=dN q) (a:=a) rfl rfl rfl rfl (by have:=hn (dN q);have:=N_ (s:=a) (v:=dN q) (ss:=ss) (xs:=xs);omega) h)
  have hn':∀v:D,(bL (bL ss xs a (dN q)).1 (bL ss xs a (dN q)).2 a v).1.length<=N+1:=λv=>by rw[N9 Bq];exact hn _
  have hF':∀b∈bF j x,b≠a->cX (bL ss xs a (dN q)).1 (bL ss xs a (dN q)).2 b=some (dN (ρ b))/\ρ b<w.m:=λb hb e=>by rw[E5 hl,if_neg e];exact hF b hb e
  show Wp (bE Fr [some 365,some p,some s,some (.d (.int wt)),some (.d (.str a)),some (.d (.int (((n+1:Nat):Int)-wt))),some (.oo (.txt ss) xs),some (.d (dN q))]>>=_) _;refine Wp.bind (hstep _ ?_);generalize hA:bL ss xs a (dN q)=A' at *;obtain⟨ss',xs'⟩:=A';have hl':ss'.length=xs'.length:=by have:=pY (s:=a) (v:=dN q) hl;rw[hA]at this;exact this
  cases hb:sem w j x (put ρ a q)with
  |true=>
   rw[hb]at hcall;refine bU (fj (bJ hcall) (Jv rfl rfl rfl rfl ?_));have ht:bY (aK (g2 159 (af 3) 132)) 364 [some 365,some p,some s,some (.d (.int (wt-1))),some (.d (.str a)),some (.d (.int (((n+1:Nat):Int)-wt))),some (.oo (.txt ss') xs'),some (.d (dN q))]=.ok ((wt-1==0)||decide ((((n+1:Nat):Int)-wt)<0)):=iD (bJ (eq_int false _ _)) λ_=>rfl;refine iH ht (λc=>?_) λc=>?_
   ·refine⟨_,rfl,?_⟩;refine⟨_,rfl,wt-1,_,_,_,rfl,?_⟩;simp only[if_true,Vt];rw[W_,beq_iff_eq,decide_eq_true_iff]at c;omega
   ·refine⟨_,rfl,?_⟩;rw[ZT,beq_eq_false_iff_ne,decide_eq_false_iff_not]at c;have e:(((n+1:Nat):Int)-wt)=(n:Int)-(wt-1):=by omega
    rw[e];refine(zb hp hw hN IH n (q+1) 112 (wt-1) ss' xs' (some (.d (dN q))) 112 hl' hn' hF').mono ?_;rintro o ⟨wt',e5,e6,e7,rfl,h⟩;refine⟨wt',e5,e6,e7,rfl,?_⟩;simp only[if_true,Vt];rw[h];omega
  |false=>
   rw[hb]at hcall;refine bU (rV (bJ hcall) (Jv rfl rfl rfl rfl ?_));have ht:bY (aK (g2 159 (af 3) 132)) 364 [some 365,some p,some s,some (.d (.int wt)),some (.d (.str a)),some (.d (.int (((n+1:Nat):Int)-wt-1))),some (.oo (.txt ss') xs'),some (.d (dN q))]=.ok ((wt==0)||decide ((((n+1:Nat):Int)-wt-1)<0)):=iD (bJ (eq_int false _ _)) λ_=>rfl;refine iH ht (λc=>?_) λc=>?_
   ·refine⟨_,rfl,?_⟩;refine⟨_,rfl,wt,_,_,_,rfl,?_⟩;simp only[VM,if_false];rw[W_,beq_iff_eq,decide_eq_true_iff]at c;omega
   ·refine⟨_,rfl,?_⟩;rw[ZT,beq_eq_false_iff_ne,decide_eq_false_iff_not]at c;have e:(((n+1:Nat):Int)-wt-1)=(n:Int)-wt:=by omega
    show Wp (dR (aJ 7) (bE Fr) ((aah (q+1) n).map dN) [some 365,some p,some s,some (.d (.int wt)),some (.d (.str a)),some (.d (.int (((n+1:Nat):Int)-wt-1))),some (.oo (.txt ss') xs'),some (.d (dN q))]) _;rw[e];refine(zb hp hw hN IH n (q+1) 112 wt ss' xs' (some (.d (dN q))) h1 hl' hn' hF').mono ?_;rintro o ⟨wt',e5,e6,e7,rfl,h⟩;refine⟨wt',e5,e6,e7,rfl,?_⟩;simp only[VM,if_false];exact h
end
variable{A B L:List Str}{k:Nat}{d:D}{w:Wd}
section
variable{Fr:List S->M R}{p s:S}{ρ:Str->Nat}{j N:Nat}{x:D}{a:Str}
theorem rC(h:Sy A B L (j+1) d)(hp:Pt p (iw w (j+1) d))(ha:dJ d=[a])(hb:(bnd d).isEmpty=false)(hw:wit d=[x])(hm:w.m<=8)(hN:N<=900)(hs:Pl w.m s (bF (j+1) d) ρ N)
  (IH:∀(s:S)(ρ:Str->Nat),Pl w.m s (bF j x) ρ (N+1)->Fr [.d w.d,.d (pd w j x),s]=.ok (.d (.bl (sem w j x ρ)))) (i:Int) (hi:1<=i):
  jR Fr [.d w.d,p,s,.d (.int i)]=.ok (.d (.bl (decide (i<=(cnt w.m λq=>sem w j x (put ρ a q):Nat))))):=by
 obtain⟨r,ss,xs,h1,h2,h3,h4,h5,h6⟩:=hs.ex;refine dc (cF (r:=.d (.str a)) (WP.two (x:=cu (.l .fresh [.str a])) (y:=.d (.int 0)) (c1 (x:=.d d) (z:=.l .fresh [.str a]) (jB rfl hp rfl) ?_) rfl rfl) rfl ?_)
 ·have:=jy h;rw[ha]at this;exact this
 refine cF (r:=.d (.int ((w.m:Int)-i))) (WP.two (x:=.d (.int w.m)) (y:=.d (.int i)) (WP.two (x:=.d w.d) (y:=.d (.int 0)) rfl rfl rfl) rfl rfl) rfl ?_;refine cF (r:=.o .fresh (.txt ss) xs) (x:=.oo (.txt ss) xs) (n1 (x:=r) (e_ rfl h1) ?_) rfl ?_
 ·show(match yh r with
   |some z=>M.ok (R.o .fresh (.txt z.1) z.2)
   |none=>.bad)=_
  rw[h3]
 refine lN (ds:=(aah 0 w.m).map dN) ?_ ?_
 ·rw[<-ZQ];exact Iq (oM (WP.two (x:=.d w.d) (y:=.d (.int 0)) rfl rfl rfl)) 112
 refine(zb (ρ:=ρ) (a:=a) hp hw hN IH w.m 0 112 i ss xs none hi h4 (λv=>?_) λb hb' e=>h6 b (tF hb ha (by rw[hw];exact UM.mpr rfl) hb' e)).mono ?_
 ·unfold bL;split
  ·show ss.length<=_;omega
  ·show(ss++[a]).length<=_;rw[UQ];show ss.length+1<=_;omega
 rintro o ⟨wt',e5,e6,e7,rfl,hz⟩;refine b_ (WP.two (x:=.d (.int wt')) (y:=.d (.int 0)) rfl rfl (eq_int false _ _)) rfl ?_;show O.rt (R.d (.bl (wt'==0)))=_;congr 3;rw[YD,beq_iff_eq,decide_eq_true_iff,hz];unfold cnt;rw[ZQ]
theorem II{ys:List D}(t:Bool)(hn:ys.length<=100)(IH:∀x∈ys,Fr [.d w.d,.d (pd w j x),s]=.ok (.d (.bl (sem w j x ρ))))(hs:∃r,s.rd=.ok r/\bH r=s):
  gF Fr [.d w.d,.d (.lst (ys.map (pd w j))),s,.d (.bl t)]=.ok (.d (.bl (ys.any λx=>sem w j x ρ==t))):=by
 obtain⟨r,h1,h2⟩:=hs;refine dc (lN (ds:=ys.map (pd w j)) rfl ?_);have key:∀(e1:Option S)(zs:List D),(∀x∈zs,x∈ys)->∀x:Option S,Wp (dR (aJ 4) (aM (aK (g2 159 (gN (aD 3 Fr) (ah (af 0) (ah (af 4) 276))) (af 3))) (aO (gC (.bl true))) bh) (zs.map (pd w j)) [some 365,e1,some s,some (.d (.bl t)),x])
   (λo=>((∃e,o=.nx e)/\(zs.any λx=>sem w j x ρ==t)=false)\/(o=.rt (.d (.bl true))/\(zs.any λx=>sem w j x ρ==t)=true)):=by
  intro e1 zs
  induction zs with
  |nil=>intro _ x;exact⟨_,rfl,.inl ⟨⟨_,rfl⟩,rfl⟩⟩
  |cons z zs ih=>
   intro hz x;have hc:gN (aD 3 Fr) (ah (af 0) (ah (af 4) 276)) [some 365,e1,some s,some (.d (.bl t)),some (.d (pd w j z))]=.ok (.d (.bl (sem w j z ρ))):=c3 (x:=.d w.d) (y:=.d (pd w j z)) (w:=r) (z:=.d (.bl (sem w j z ρ))) rfl rfl (e_ rfl h1) (by rw[h2];exact IH z (hz z UO));have ht:aK (g2 159 (gN (aD 3 Fr) (ah (af 0) (ah (af 4) 276))) (af 3)) [some 365,e1,some s,some (.d (.bl t)),some (.d (pd w j z))]=.ok (sem w j z ρ==t):=bJ (WP.two (x:=.d (.bl (sem w j z ρ))) (y:=.d (.bl t)) hc rfl rfl);rw[Vl,WT];unfold dR;show Wp (aM _ _ _ [some 365,e1,some s,some (.d (.bl t)),some (.d (pd w j z))]>>=_) _;cases q:sem w j z ρ==t with
   |true=>
    rw[q]at ht;rw[gY ht];exact⟨_,rfl,.inr ⟨rfl,rfl⟩⟩
   |false=>
    rw[q]at ht;rw[iu ht];exact ih (λx hx=>hz x (UN _ hx)) _
 refine(key _ ys (λ_ h=>h) none).mono ?_;rintro o (⟨⟨e,rfl⟩,h⟩|⟨rfl,h⟩)
 ·rw[h];exact b_ rfl rfl rfl
 ·show O.rt _=_;rw[h]
theorem AJ(f:D->Bool):∀l:List D,(!(l.any λx=>f x==false))=l.all f
 |[]=>rfl
 |x::l=>by rw[WT,aaT,<-AJ f l];cases f x<;>rfl
theorem AK(f:D->Bool):∀l:List D,(l.any λx=>f x==true)=l.any f
 |[]=>rfl
 |x::l=>by rw[WT,WT,<-AK f l];cases f x<;>rfl
theorem Fb{g:G R}{env:Ev}{b:Bool}(h:g env=.ok (.d (.bl b))):bC g env=.ok (.d (.bl (!b))):=by unfold bC;rw[h];rfl
theorem BO(nA:∀n∈A,n∈w.ms.map VO)(nB:∀n∈B,n∈w.ar.map VO)(m1:1<=w.m)(hm:w.m<=8)(h:Sy A B L (j+1) d)(hp:Pt p (iw w (j+1) d))(hN:N<=900)(hs:Pl w.m s (bF (j+1) d) ρ N)
  (IH:∀x∈wit d,∀(s:S)(ρ:Str->Nat),Pl w.m s (bF j x) ρ (N+1)->Fr [.d w.d,.d (pd w j x),s]=.ok (.d (.bl (sem w j x ρ)))):
  iL Fr [.d w.d,p,s]=.ok (.d (.bl (sem w (j+1) d ρ))):=by
 have hp2:=hp;obtain⟨rp,p1,p2,p3⟩:=hp2;obtain⟨rs,ss,xs,h1,h2,h3,h4,h5,h6⟩:=hs.ex;have sub:(bnd d).isEmpty=true->∀x∈wit d,Pl w.m s (bF j x) ρ (N+1):=λhb x hx=>⟨rs,ss,xs,h1,h2,h3,h4,by omega,λa ha=>h6 a (xB hb hx ha)⟩;refine dc (cF (r:=.d d) (jB rfl hp rfl) rfl (cF (r:=.d (.str (wd d))) (WP.two (x:=.d d) (y:=.d (.int 0)) rfl rfl (vC h)) rfl ?_));cases h with
 |mark i1 i2=>exact bU (fj rfl (b_ (c3 (x:=.d w.d) (y:=.d (.str _)) (w:=.d (dN _)) (z:=.d (.bl _)) rfl rfl (Bo hs rfl rfl (gu rfl (UM.mpr rfl))) (JT w (nA _ i1) _)) rfl rfl))
 |arrow i1 i2 i3=>exact br rfl (bU (fj rfl (b_ (c4 (x:=.d w.d) (y:=.d (.str _)) (w:=.d (dN _)) (v:=.d (dN _)) (z:=.d (.bl _)) rfl rfl (Bo hs rfl rfl (gu rfl UO)) (Bo hs rfl rfl (gu rfl (UN _ (UM.mpr rfl)))) (JU w (nB _ i1) _ _)) rfl rfl)))
 |same i1 i2=>
  rename_i a b;refine br rfl (br rfl (bU (fj rfl (b_ (WP.two (x:=.d (dN (ρ a))) (y:=.d (dN (ρ b))) (Bo hs rfl rfl (gu rfl UO)) (Bo hs rfl rfl (gu rfl (UN _ (UM.mpr rfl)))) (eq_int false _ _)) rfl ?_))));show O.rt (R.d (.bl ((ρ a:Int)==(ρ b:Int))))=O.rt (R.d (.bl (ρ a==ρ b)));congr 3;rw[YD,beq_iff_eq,beq_iff_eq];omega
 |not i1=>
  rename_i ys;refine br rfl (br rfl (br rfl (br rfl (bU (fj rfl (b_ (Fb (b:=sem w j (.tup ys) ρ) (c3 (x:=.d w.d) (y:=.d (pd w j (.tup ys))) (w:=rs) (z:=.d (.bl (sem w j (.tup ys) ρ))) rfl (WP.two (x:=.d (.lst [pd w j (.tup ys)])) (y:=.d (.int 0)) (jB rfl hp rfl) rfl rfl) (e_ rfl h1) (by rw[h2];exact IH _ (UM.mpr rfl) s ρ (sub rfl _ (UM.mpr rfl))))) rfl rfl))))))
 |and i1 i2=>
  rename_i ys;refine br rfl (br rfl (br rfl (br rfl (br rfl (bU (fj rfl (b_ (Fb (b:=ys.any λx=>sem w j x ρ==false) (c4 (x:=.d w.d) (y:=.d (.lst (ys.map (pd w j)))) (w:=rs) (v:=.d (.bl false)) (z:=.d (.bl (ys.any λx=>sem w j x ρ==false))) rfl (jB rfl hp rfl) (e_ rfl h1) rfl (by rw[h2];exact II false i2 (λx hx=>IH x hx s ρ (sub rfl x hx)) ⟨rs,h1,h2⟩))) rfl ?_)))))));rw[AJ];rfl
 |or i1 i2=>
  rename_i ys;refine br rfl (br rfl (br rfl (br rfl (br rfl (br rfl (bU (fj rfl (b_ (c4 (x:=.d w.d) (y:=.d (.lst (ys.map (pd w j)))) (w:=rs) (v:=.d (.bl true)) (z:=.d (.bl (ys.any λx=>sem w j x ρ==true))) rfl (jB rfl hp rfl) (e_ rfl h1) rfl (by rw[h2];exact II true i2 (λx hx=>IH x hx s ρ (sub rfl x hx)) ⟨rs,h1,h2⟩)) rfl ?_))))))));rw[AK];rfl
 |some i1 i2=>
  refine br rfl (br rfl (br rfl (br rfl (br rfl (br rfl (br rfl (bU (fj rfl (b_ (c4 (x:=.d w.d) (y:=rp) (w:=rs) (v:=.d (.int 1)) (z:=.d (.bl _)) rfl (e_ rfl p1) (e_ rfl h1) rfl (by rw[p2,h2];exact rC (.some i1 i2) hp rfl rfl rfl hm hN hs (IH _ (UM.mpr rfl)) 1 112)) rfl ?_)))))))));show O.rt (R.d (.bl (decide ((1:Int)<=(cnt w.m _:Nat)))))=O.rt (R.d (.bl (decide (1<=cnt w.m _))));congr 3;rw[decide_eq_decide];omega
 |every i1 i2=>
  refine br rfl (br rfl (br rfl (br rfl (br rfl (br rfl (br rfl (br rfl (bU (fj rfl (b_ (c4 (x:=.d w.d) (y:=rp) (w:=rs) (v:=.d (.int w.m)) (z:=.d (.bl _)) rfl (e_ rfl p1) (e_ rfl h1) rfl (by rw[p2,h2];exact rC (.every i1 i2) hp rfl rfl rfl hm hN hs (IH _ (UM.mpr rfl)) w.m 112)) rfl ?_))))))))));show O.rt (R.d (.bl (decide ((w.m:Int)<=(cnt w.m _:Nat)))))=O.rt (R.d (.bl (decide (w.m<=cnt w.m _))));congr 3;rw[decide_eq_decide];omega
 |least i0 i1 i2=>
  exact br rfl (br rfl (br rfl (br rfl (br rfl (br rfl (br rfl (br rfl (br rfl (b_ (c4 (x:=.d w.d) (y:=rp) (w:=rs) (v:=.d (.int _)) (z:=.d (.bl _)) rfl (e_ rfl p1) (e_ rfl h1) rfl (by rw[p2,h2];exact rC (.least i0 i1 i2) hp rfl rfl rfl hm hN hs (IH _ (UM.mpr rfl)) _ i0)) rfl rfl)))))))))
end
end K16
namespace K16
open PySem PySem.Spec PyProof.Rows DL K01 WP
open K12 (Sy wit dJ bnd own wd bF jL dM b7 cL gv fU cj mE jW tu ju ku jy sD bJ iD bx j4 uL rD qZ qY)
variable{A B L:List Str}{k:Nat}{d:D}{w:Wd}
theorem K7{i j:Nat}{cls fl:Str}{gl ge:G R}{env:Ev}{r rp:R}{xs zs:List D}{dom:List (List Int)}{f:List Int->Bool}{is:List Int}{b:Bool}(h1:gl env=.ok r)(h2:fY r=.ok xs)(h3:af i (env.set j (some (.d 333)))=.ok rp)(h4:jh cls fl rp=.ok (.d (.ob (.mem dom f) zs)))(h5:lF xs=some is)
  (h6:ge (env.set j (some (.d 333)))=.ok (.d (.bl b))) (h7:dom.contains is=true) (h8:j<env.length) (h9:b=f is):xC i j cls fl gl ge env=.ok (.rt (.d (.bl b))):=by unfold xC;rw[h1,aT,h2,aT,h3,aT,h4,aT,h5,h6];exact if_pos ⟨⟨h7,h8⟩,h9⟩
theorem ints_map(f:Str->Nat):∀l:List Str,lF (l.map λa=>dN (f a))=some (l.map λa=>(f a:Int))
 |[]=>rfl
 |a::l=>by show(lF (l.map λa=>dN (f a))).map ((f a:Int)::·)=_;rw[ints_map f l];rfl
theorem Mv(nA:∀n∈A,n∈w.ms.map VO)(nB:∀n∈B,n∈w.ar.map VO)(m1:1<=w.m)(hm:w.m<=8):∀(n k:Nat){d:D},Sy A B L k d->k<=n->k<=60->∀(p s:S)(ρ:Str->Nat)(N:Nat),N+k<=900->Pt p (iw w k d)->Pl w.m s (bF k d) ρ N->dW n [.d w.d,p,s]=.ok (.d (.bl (sem w k d ρ)))
 |0,k,d,h,hk,_=>by obtain⟨_,e⟩:=b7 h;omega
 |n+1,k,d,h,hk,Sm=>by
  obtain⟨j,rfl⟩:=b7 h;intro p s ρ N hN hp hs;have hp2:=hp;obtain⟨rp,p1,p2,p3⟩:=hp2;obtain⟨rs,ss,xs,h1,h2,h3,h4,h5,h6⟩:=hs.ex;have hr:iL (dW n) [.d w.d,p,s]=.ok (.d (.bl (sem w (j+1) d ρ))):=BO nA nB m1 hm h hp 112 hs λx hx s' ρ' hs'=>Mv nA nB m1 hm n j (cL h x hx) 112 112 _ s' ρ' (N+1) 112 QN hs';have hcall:∀e:Option S,gN (aD 3 (K16.iL (dW n))) (ah (af 0) (ah (af 1) 276)) [some 365,some p,some s,e]=.ok (.d (.bl (sem w (j+1) d ρ))):=λe=>c3 (x:=.d w.d) (y:=rp) (w:=rs) (z:=.d (.bl (sem w (j+1) d ρ))) rfl (e_ rfl p1) (e_ rfl h1) (by rw[p2,h2];exact hr);have hk0:aK (fh "Part" "kept" (af 1)) [some 365,some p,some s,none]=.ok (qL (j+1) d):=bJ (jB rfl hp rfl);have hk1:bD (aK (fh "Part" "kept" (af 1))) [some 365,some p,some s,none]=.ok (!qL (j+1) d):=by show(aK (fh "Part" "kept" (af 1)) _>>=_)=_;rw[hk0];rfl
  show fin (lZ (dW n) [some 365,some p,some s,none])=_;cases hq:qL (j+1) d with
  |false=>
   rw[hq]at hk1;exact dc (bU (fj hk1 (b_ (hcall none) rfl rfl)))
  |true=>
   rw[hq]at hk1;refine dc (br hk1 ⟨_,K7 (r:=.l .fresh ((bF (j+1) d).map λa=>dN (ρ a))) (rp:=rp) (zs:=[]) (dom:=(mu w d).1) (f:=(mu w d).2) (is:=(bF (j+1) d).map λa=>(ρ a:Int)) (b:=sem w (j+1) d ρ) ?_ rfl (e_ rfl p1) ?_ (ints_map ρ _) (hcall _) ?_ (UU rfl) ?_,rfl⟩)
   ·have hl:(bF (j+1) d).length<=3:=by unfold qL at hq;rw[Vg,decide_eq_true_iff]at hq;exact hq.2
    refine uZ (α:=Str) (xs:=bF (j+1) d) (h:=D.str) (λa=>dN (ρ a)) ?_ 112 λa ha=>⟨_,Bo (i:=1) hs rfl rfl ha,rfl⟩;show(fh _ _ _ _>>=_)=_;rw[jB (v:=.lst ((bF (j+1) d).map .str)) rfl hp rfl];rfl
   ·unfold jh;rw[p3];rfl
   ·have hl:(bF (j+1) d).length<=3:=by unfold qL at hq;rw[Vg,decide_eq_true_iff]at hq;exact hq.2
    rw[Wo];unfold mu;rw[mF h Sm,if_pos hl];exact zU λa ha=>(h6 a ha).2
   ·show _=sem w 60 d (asg (bF 60 d) _);rw[mF h Sm,kZ h Sm];exact kY h λx hx=>(AM hx).symm
theorem PZ(w:Wd):OR w.d=w:=by
 obtain⟨m,ms,ar⟩:=w;show Wd.mk (m:Int).toNat ((ms.map kW).map JO) ((ar.map pC).map JN)=_;have e1:∀r:Str×List Nat,JO (kW r)=r:=λr=>by show(r.1,(r.2.map dN).map K55.Gp)=r;rw[Wc,show(K55.Gp ∘ dN)=id from rfl,aal]
 have e2:∀r:Str×List (Nat×Nat),JN (pC r)=r:=λr=>by show(r.1,(r.2.map dP).map K55.OQ)=r;rw[Wc,show(K55.OQ ∘ dP)=id from funext λp=>rfl,aal]
 rw[Wc,Wc,show(JO ∘ kW)=id from funext e1,show(JN ∘ pC)=id from funext e2,aal,aal];rfl
end K16
namespace DL
open PySem PySem.Spec PyProof.Rows L2 DX
end DL
namespace K14
open PySem DL
end K14
namespace K14
open PySem PySem.Spec PyProof.Rows DL K01 WP K12
variable{A B L:List Str}
end K14
namespace DL
open PySem PySem.Spec PyProof.Rows L2
def h_(m:Str)(ns:131):Str:=ns.foldl (λm b=>if b.cps.toList<m.cps.toList then b else m) m
noncomputable def NG:List Str->Str
 |[]=>Xs
 |n::r=>h_ n r
section
variable{prog:U0}{w:Vj}{A:Vw}{R:aa6->UI->Prop}{I:UX}{fp wr:List UX}{St:Nat->VU->Prop}{us:Array UH}{ns:List Str}{S:UX}
theorem xG:(toString "min"++toString ".loop":String)="min.loop":=by decide
theorem NF{a b:Str}{t u:Tok}{s:UI}{Q:136}{E:136}(h:Q (.bool (decide (a.cps.toList<b.cps.toList))) s):UZ 139 A (ace .Lt (.str a t) (.str b u)) Q E s:=
 ac2 (op:=.Lt) (acS s a t) (acS s b u) F.slot_str_lt F.entry_str_lt (F.args_str_lt_2 _ _) (gives_str_lt _ _ t u) 277 h
theorem K8(W:afV prog w A.in1 I fp wr us.size (λi v=>us[i]?=some v) St)(hSf:S∉fp)(hu:∀(i:Nat)(v:UH),us[i]?=some v->∃t,v=.str (ns.getD i Xs) t)(hl:us.size=ns.length):
  ∀(k j:Nat)(s:UI)(m:Str)(t:Tok)(c:Nat),ns.length-(j+1)=k->j+1<=ns.length->St (j+1) s.heap->s.heap.get? S=some {cls:=.type "list",dict:=none,data:=.seq #[.str m t,.str m t] c,slots:=#[]}->
  (∀(t':Tok)(h':VU)(tk:Nat),(∀b o,b∉wr->b≠S->s.heap.get? b=some o->h'.get? b=some o)->R (.ok (.ret (.str (h_ m (ns.drop (j+1))) t'))) {s with heap:=h',toks:=tk})->
  WC 139 A (.builtin "min.loop" ⟨[.ref I,.none,.ref S],([]:List (Str×UH))⟩) R s:=by
 have Su:S∉wr:=λz=>hSf (W.sub _ z);intro k
 induction k with
 |zero=>
  intro j s m t c hk hj hst hS hR;have hin:j+1=us.size:=by omega
  (refine V9 abe ?_);rw[VE XI _]
  (show UZ _ A.in1 (aac (.ref S)>>=_) _ _ s);refine UE (XS hS rfl ?_)
  (show UZ _ A.in1 (tryCatch (YM (.ref I)) _>>=_) _ _ s);refine UE (Xp (W.done s _ _ (hin▸hst) λh1 tk k1=>?_))
  have R9:=k1 S _ Su hS
  (show UZ _ A.in1 (aad S (λ_=>#[])>>=_) _ _ _);refine UE (Wm R9 rfl (UE (Y3 (UJ ?_))))
  have z:=hR t (h1.update S (XD λ_=>#[])) tk λb o hb R4 e=>(U_ _ _ (VF R4)).trans (k1 b o hb e);rw[Yq 112]at z;exact z
 |succ k ih=>
  intro j s m t c hk hj hst hS hR;have hlt:j+1<us.size:=by omega
  (refine V9 abe ?_);rw[VE XI _]
  (show UZ _ A.in1 (aac (.ref S)>>=_) _ _ s);refine UE (XS hS rfl ?_)
  (show UZ _ A.in1 (tryCatch (YM (.ref I)) _>>=_) _ _ s);refine UE (Xp (W.item (j+1) s _ _ hlt hst λv h1 tk hP R8 k1=>?_))
  have R9:=k1 S _ Su hS;obtain⟨t1,rfl⟩:=hu _ _ hP;have hd:ns.drop (j+1)=ns.getD (j+1) Xs::ns.drop (j+1+1):=by rw[W7 (by omega:j+1<ns.length),Vq,U3 (by omega:j+1<ns.length)];rfl
  rw[hd]at hR;generalize ns.getD (j+1) Xs=y at hR hP ⊢
  (show UZ _ A.in1 (tryCatch (holding [YL y t1,YL y t1] (ace .Lt (YL y t1) (YL m t)>>=_)) _>>=_) _ _ _);refine UE (Xp (VG (UE (NF ?_))))
  (refine UE (VG (W2 ?_)));refine UE (Y3 (UJ ?_))
  by_cases hb:y.cps.toList<m.cps.toList
  ·rw[decide_eq_true hb];simp only[if_true]
   (refine UE (Wm R9 rfl (UE (Y3 ?_))));rw[xG]
   refine UJ ⟨Wj XI _,ih (j+1) _ y t1 _ 112 112 (W.frame _ _ _ R8 λb SE o e=>?_) (Vy _ R9 rfl) λt2 h2 tk2 k2=>?_⟩
   ·exact(U_ _ _ (λz:S=b=>hSf (z▸SE))).trans e
   ·have q:=hR t2 h2 tk2 λb o R6 R4 e=>k2 b o R6 R4 ((U_ _ _ (VF R4)).trans (k1 b o R6 e));have e:h_ m (y::ns.drop (j+1+1))=h_ y (ns.drop (j+1+1)):=by show ac3 _ (if y.cps.toList<m.cps.toList then y else m) _=_;rw[if_pos hb];rfl
    rw[e]at q;exact q
  ·rw[decide_eq_false hb]
   (simp only[VM,if_false]);(refine UE (Y3 ?_));rw[xG]
   refine UJ ⟨Wj XI _,ih (j+1) _ m t c 112 112 R8 R9 λt2 h2 tk2 k2=>?_⟩;have q:=hR t2 h2 tk2 λb o R6 R4 e=>k2 b o R6 R4 (k1 b o R6 e);have e:h_ m (y::ns.drop (j+1+1))=h_ m (ns.drop (j+1+1)):=by show ac3 _ (if y.cps.toList<m.cps.toList then y else m) _=_;rw[if_neg hb];rfl
   rw[e]at q;exact q
theorem CY(W:afV prog w A.in1 I fp wr us.size (λi v=>us[i]?=some v) St)(hSf:S∉fp)(hu:∀(i:Nat)(v:UH),us[i]?=some v->∃t,v=.str (ns.getD i Xs) t)(hl:us.size=ns.length)(hne:ns≠[]){s:UI}{c:Nat}(hst:St 0 s.heap)
  (hS:s.heap.get? S=some {cls:=.type "list",dict:=none,data:=.seq #[] c,slots:=#[]})
  (hR:∀(t':Tok)(h':VU)(tk:Nat),(∀b o,b∉wr->b≠S->s.heap.get? b=some o->h'.get? b=some o)->R (.ok (.ret (.str (NG ns) t'))) {s with heap:=h',toks:=tk}):
  WC 139 A (.builtin "min.loop" ⟨[.ref I,.none,.ref S],([]:List (Str×UH))⟩) R s:=by
 have Su:S∉wr:=λz=>hSf (W.sub _ z)
 (refine V9 abe ?_);rw[VE XI _]
 (show UZ _ A.in1 (aac (.ref S)>>=_) _ _ s);refine UE (XS hS rfl ?_)
 (show UZ _ A.in1 (tryCatch (YM (.ref I)) _>>=_) _ _ s)
 cases ns with
 |nil=>exact absurd rfl hne
 |cons y r=>
  have hn:0<us.size:=by rw[hl];exact ZI _
  refine UE (Xp (W.item 0 s _ _ hn hst λv h1 tk hP R8 k1=>?_));have R9:=k1 S _ Su hS;obtain⟨t1,rfl⟩:=hu _ _ hP
  (show UZ _ A.in1 (aad S (λ_=>#[YL ((y::r).getD 0 Xs) t1,YL ((y::r).getD 0 Xs) t1])>>=_) _ _ _);refine UE (Wm R9 rfl ?_)
  rw[xG];refine UJ ⟨Wj XI _,K8 W hSf hu hl _ 0 _ y t1 _ rfl (ZI _) (W.frame _ _ _ R8 λb SE o e=>?_) (Vy _ R9 rfl) λt2 h2 tk2 k2=>?_⟩
  ·exact(U_ _ _ (λz:S=b=>hSf (z▸SE))).trans e
  ·exact hR t2 h2 tk2 λb o R6 R4 e=>k2 b o R6 R4 ((U_ _ _ (VF R4)).trans (k1 b o R6 e))
end
section
variable{prog:U0}{w:Vj}{A:Vw}{E:UH->UI->Prop}{s:UI}{l:UX}{us:Array UH}{ns:List Str}
theorem args_min1(a:UH):ab5 "min" ⟨[a],[]⟩:=by
 unfold ab5
 kernel_rfl
theorem Ei{Q:136}(hh:A.handled=none)(hl:s.heap.IsList l us)(hu:∀(i:Nat)(v:UH),us[i]?=some v->∃t,v=.str (ns.getD i Xs) t)(hn:us.size=ns.length)(hne:ns≠[])
  (h:∀(t':Tok)(h':VU)(tk:Nat),(∀b o,s.heap.get? b=some o->h'.get? b=some o)->Q (.str (NG ns) t') {s with heap:=h',toks:=tk}):UZ 139 A (call (.builtin "min") [.ref l] []) Q E s:=by
 have ha:=args_min1 (.ref l);refine Yo (WW F.plain_min F.entry_min ?_);have core:UZ 139 A.in1 (Ze.«min» ⟨[.ref l],[]⟩) (λfin s'=>match fin with
   | .done f=>(match (afW f:aa6)with | .ok (.ret v)=>Q v s' | .ok _=>False | .error e=>E e s')
   | .again c'=>c'.quiet=true/\WC 139 A c' (λr s'=>match r with | .ok (.ret v)=>Q v s' | .ok _=>False | .error e=>E e s') s') E s:=by
  show UZ _ A.in1 (Xw "min" ["key","default"] 0 ⟨[],[]⟩>>=_) _ _ s;refine UE (Yz (show Xw "min" ["key","default"] 0 ⟨[],[]⟩=pure [none,none] by rfl) ?_);refine UE (UJ ?_);have hlt:l<s.heap.objs.size:=by obtain⟨_,e,_⟩:=hl;exact UY e
  refine UE (Zw hl ?_);refine UE (Vn ?_);rw[xG];generalize hs2:s.heap.push {cls:=.type "list_iterator",data:=.fields #[.ref l,.int 0 0]}=H2;have hI:H2.IsListIter s.heap.objs.size l 0:=by rw[<-hs2];exact⟨_,US _ rfl,rfl,rfl⟩
  have hL:H2.IsList l us:=by rw[<-hs2];exact hl.push _
  have sz:H2.objs.size=s.heap.objs.size+1:=by rw[<-hs2,Wi]
  have W:=aev (prog:=prog) (w:=w) (A:=A.in1) (show A.in1.handled=none from hh) s.heap.objs.size l (U4 hlt) us;have hSf:H2.objs.size∉[s.heap.objs.size,l]:=λz=>by
   rcases UR.mp z with z|z
   ·exact absurd (sz.symm.trans z) (adC _)
   ·rw[UM]at z;exact absurd z.symm (U4 (by rw[sz];exact Ww hlt))
  refine UJ ⟨Wj XI _,CY W hSf hu hn hne (W.frame _ _ _ ⟨hI,hL⟩ λb _ o e=>UK _ e) (US _ rfl) λt' h' tk k=>?_⟩;refine h t' h' tk λb o e=>?_;have e2:H2.get? b=some o:=by rw[<-hs2];exact UK _ e
  have lt:=UY e;exact k b o (λz=>absurd (UM.mp z) (U4 lt)) (U4 (by rw[sz];exact Ww lt)) (UK _ e2)
 simp only[XG,F.kind_min];cases SO:aae "min" with
 |none=>exact UJ core
 |some sig=>
  simp only[ab5,SO]at ha;have h2:YS "min" sig ⟨[.ref l],[]⟩=pure ():=ha;show UZ _ A.in1 (YS "min" sig ⟨[.ref l],[]⟩) _ _ s;rw[h2];exact UJ core
end
section
variable{X:Cx}{c:C}{e:VC}{g:G R}{pos:Pos}
noncomputable def xA:List R->M R
 |[r]=>fY r>>=λxs=>match strsOf xs with
  |some (n::ns)=>.ok (.d (.str (h_ n ns)))
  |_=>.bad
 |_=>.bad
theorem L_{ns:131}{Uy:List UH}(r:Vals (ns.map V.str) Uy)(i:Nat)(v:UH)(h:Uy.toArray[i]?=some v):∃t,v=.str (ns.getD i Xs) t:=by
 have h':Uy[i]?=some v:=by simpa using h
 have hl:=r.length;rw[UL]at hl;have hi:i<ns.length:=by rw[hl];exact(Vs.mp h').1
 obtain⟨u,hu,ru⟩:=r.get (show(ns.map V.str)[i]?=some (.str ns[i]) by rw[Vi,U3 hi];rfl);rw[h']at hu;cases hu;obtain⟨t,rfl⟩:=ru;exact⟨t,by rw[Vq,U3 hi];rfl⟩
theorem Eh(hc:X.calm=true):fc X (.builtin "min") (λxs H Q=>∃p n ns,xs=[.ref p]/\cY X.K H p ((n::ns).map V.str)/\Q (.str (h_ n ns)) H):=by intro Ux s σ H xs us Q I r h;obtain⟨p,n,ns,rfl,hq,q⟩:=h;obtain⟨u,rfl,ru⟩:=vals1 r;cases ru;obtain⟨Uy,r',pl,hz⟩:=I.list hq;have hlen:=r'.length;rw[UL]at hlen;exact Ei (I.ok.hd hc) pl.isList (L_ r') (by simp[hlen]) (List.cons_ne_nil _ _) λt' h' tk k=>⟨.str _,H,I.kept k,⟨t',rfl⟩,q⟩
theorem Ii{p:Pos}(ha:kB X c [e] g0)(hm:X.mg "min"=none)(hK:375)(hc:autoParam (X.calm=true) zzA._auto_1)(hg:autoParam (Gl X "min") zzA._auto_1)
  (he:autoParam 326 zzA._auto_1) (hpl:autoParam ((Wr pos (UP [] X.env)).any (·.1)=false) zzA._auto_1):QD X c (.Call (.Name "min" p) [e] [] pos) (gN xA g0):=
 ⟨rX (Eh hc) (by
  intro He J H xs vs Q hp rs w;unfold xA at w;split at w
  ·obtain⟨v,rfl,rx⟩:=rs.one;obtain⟨ys,hy,w⟩:=kc w;obtain⟨a,ws,rfl,hl,hs⟩:=RR.list hp rx hy;split at w
   ·rename_i n ns hns;have:=jQ hns hs;subst this;exact⟨a,n,ns,rfl,by rw[hK];exact hl,w _ J H 312 (.str _)⟩
   ·exact w.elim
  ·exact w.elim) boot_min hm ha.h hg 120 120 he hpl⟩
end
open DX
section
variable{X:Cx}{c:C}{e:VC}{es:List VC}{pos:Pos}
theorem FR.rr{K:UG}(hT:c.K=K){He H1 J' H':Hp}(e:aY He H1){r:R}{v:V}(fr:FR K H1 J' H' r v):RR c He J' H' (cu r) v:=by
 cases r with
 |d y=>exact(show Rep c.K J' y v from hT▸fr)
 |o m _ _=>cases m with
  |own=>exact fr.elim
  |bor=>exact fr.elim
  |fresh=>obtain⟨a,h1,h2,h3,h4⟩:=fr;exact⟨a,h1,hT▸h2,h3,e.free h4⟩
 |l m ys=>obtain⟨a,us,h1,h2,h3,h4,h5⟩:=fr;exact⟨a,us,h1,h2,h3,e.free h4,hT▸h5⟩
theorem FW{k k' n:Nat}{F:234}{x:Str}{p:Pos}{gs:338}(G:Gx X.prog X.w X.K X.mg X.base k n x F)(hr:cG k' X.A)(ha:∀pn xe T,kB (tb X pn xe) (c.wT T) (e::es) gs)(hk:autoParam (k<=k') zzB._auto_1)(hT:autoParam (c.K=X.K) zzA._auto_1)(hg:autoParam (Gl X x) zzA._auto_1)(hdb:141)
  (he:153) (hpl:autoParam ((Wr pos 319).any (·.1)=false) zzA._auto_1):xu X c 205 (gN (gI n (λas=>F (as++[.d .non]))) gs):=⟨λpn xe T σ0 E Jt Ht hp hE=>by
 obtain⟨f,fd,ps,h1,h2,h3,h4⟩:=G;refine dX (zp (X:=tb X pn xe) (CX:=kr X.prog X.w) h1 (hr.mono hk) hg h2 h3 h4 (dvs:=[.non]) (.cons rfl .nil) (ha pn xe T).h hdb he hpl) λσ H Q ⟨es,J,env,ex,sr,w⟩=>?_;subst es;refine⟨E,hp,J,env,sr,aB (aH w) λrs wr vs J1 H1 e1 r1=>?_⟩;unfold gI at wr;split at wr
 ·rename_i hl;have h1:=sr.hp.ext e1;have ar:=r1.args h1;have ar:gD c.K J1 H1 (rs.map bH) vs:=ar;rw[hT]at ar;refine⟨J1,rs.map bH++[.d .non],e1.sub,by simpa using hl,yg ar,?_⟩;dsimp only at wr;cases q:F (rs.map bH++[.d .non])with
  |bad=>rw[q]at wr;exact wr
  |exc x=>rw[q]at wr;exact hT▸hE x J1 H1 wr (ex.trans e1)
  |ok r=>
   rw[q]at wr;intro v J' H' e2 fr;exact wr v J' H' (e1.trans e2) (FR.rr (c:=c.wT T) hT e1.h fr)
 ·exact wr.elim⟩
end
end DL
namespace K15
open PySem DL
def xX:List Str:=["world","saying","places","tongue","part","asked","letter"]
noncomputable def mJ:G O:=(av (aM (aK (g2 (vM false) (af 2) (gC .non))) (CA 2) bh)
 (av (aN 3 (gN (aD 1 K16.gW) (ah (af 0) ay)))
 (av (d8 (iS (gN (aD 1 K12.iK) 253)) (aJ 4) (aM (bD (aK (gN (aD 2 K12.gV) (ah (af 4) (ah (af 3) ay))))) (kN "NoName" "name" (ak (g2 aI (af 4) 137) aE)) bh))
 (av (aN 5 (A7 2 (λenv=>K16.gS ((K16.HB 0) env) 60) (ah (af 1) (ah (bN aE) ay))))
 (av (d8 (iS (fh "Part" "free" (af 5))) (aJ 6) (aM (aK (g2 (oH true) (af 6) (af 2))) (kN "NoLetter" "letter" (ak (af 6) aE)) bh))
 (aO (gN (aD 3 (K16.dW 60)) (ah (af 0) (ah (af 5) 276)))))))))
def dD(as:List S):M R:=fin (mJ (aG xX as))
def qq:List Str:=["_law_caught","_law_some_here"]
noncomputable def qG:G O:=(av (aN 1 (cC (ak (gJ XL (λx=>x == "NoWorld") (af 0)) (ak (gJ XL (λx=>x == "NoTongue") (af 0)) (ak (gJ XL (λx=>x == "NoSaying") (af 0)) aE)))))
 (av (aN 1 (g2 fJ (af 1) (cC (ak (gJ XL (λx=>x == "NoMore") (af 0)) (ak (gJ XL (λx=>x == "NoName") (af 0)) (ak (gJ XL (λx=>x == "NoLetter") (af 0)) aE))))))
 (av (aN 1 (g2 fJ (af 1) (cC (ak (gJ XL (λx=>x == "TooMany") (af 0)) (ak (gJ XL (λx=>x == "NoCount") (af 0)) (ak (gJ XL (λx=>x == "NoPoint") (af 0)) aE))))))
 (av (aN 1 (g2 fJ (af 1) (cC (ak (gJ XL (λx=>x == "NoRow") (af 0)) (ak (gJ XL (λ_=>true) (af 0)) (ak (gJ XL (λ_=>true) (af 0)) aE))))))
 (aO (c9 1 [1] (dQ (ah (gC (.int 12)) ay)) (aJ 0) (G_ (g2 aI (af 1) (af 0))) (af 0)))))))
def gp(as:List S):M R:=fin (qG (aG qq as))
def wJ:List Str:=["_law_saying","_law_tongue_here","_law_found","_law_part"]
noncomputable def jI(Fr:234):G O:=(av (aM (bK (aK (g2 159 158 (gC (.str "mark")))) (aK (g2 (gn true) 293 (g2 aI (af 1) 132)))) (aO (cC (ak 293 aE))) bh)
 (av (aM (bK (aK (g2 159 158 (gC (.str "arrow")))) (aK (g2 (gn true) 293 (g2 aI (af 1) 137)))) (aO (cC (ak 293 aE))) bh)
 (av (aN 2 (cC aE))
 (av (d8 (iS (gN (aD 1 K12.fF) (ah (af 0) ay))) (aJ 3) (aN 2 (g2 gX (af 2) (gN (aD 2 Fr) (ah (af 3) 253)))))
 (aO (af 2))))))
noncomputable def dZ:Nat->List S->M R
 |0,_=>.bad
 |k+1,as=>fin (jI (dZ k) (aG wJ as))
def BS:List Str:=["_law_saying","_law_bound","_law_found","_law_part"]
noncomputable def nj(Fr:234):G O:=(av (aN 2 (cC aE))
 (av (aM (bY (aK (g2 159 158 (gC (.str "mark")))) (aK (g2 159 158 (gC (.str "arrow"))))) (aN 2 (gN lD (ah (mG ji (af 0) (lE 162) qC) ay))) bh)
 (av (aM (aK (g2 159 158 (gC (.str "same")))) (aN 2 (gN lD (ah (mG ji (af 0) (lE 137) qC) ay))) bh)
 (av (aN 2 (c9 1 [1] (iT (af 2)) (aJ 0) (aK (g2 (gn true) (af 0) (af 1))) (af 0)))
 (av (aM (bY (aK (g2 159 158 (gC (.str "some")))) (bY (aK (g2 159 158 (gC (.str "every")))) (aK (g2 159 158 (gC (.str "least")))))) (aN 1 (g2 gX (af 1) (cC (ak (g2 aI (af 0) (nh 162)) aE)))) bh)
 (av (d8 (iS (gN (aD 1 K12.fF) (ah (af 0) ay))) (aJ 3) (aN 2 (g2 gX (af 2) (gN (aD 2 Fr) (ah (af 3) 253)))))
 (aO (af 2))))))))
noncomputable def ff:Nat->List S->M R
 |0,_=>.bad
 |k+1,as=>fin (nj (ff k) (aG BS as))
def qo:List Str:=["_law_world_here","_law_saying","_law_places","_law_found","_law_caught","e"]
noncomputable def qE:G O:=(av (aN 3 (gC .non))
 (av (aN 4 (gC .non))
 (av (oO 5 4 XL (aM (aK (g2 (vM false) (af 2) (gC .non))) (aN 3 (gN (gI 2 (λas=>K15.dD (as++[.d .non]))) (ah (af 0) 253))) (aN 3 (gN (gI 3 K15.dD) (ah (af 0) (ah (af 1) 276))))))
 (aO (bN (ak (af 3) (ak (af 4) aE)))))))
def fk(as:List S):M R:=fin (qE (aG qo as))
def qv:List Str:=["_law_asked_here","_law_strange_ones","_law_lacking","_law_found","_law_caught"]
noncomputable def qH:G O:=(av (oK (iE 2 (c5 (aJ 3) (c5 (aJ 4) iY))) (af 0))
 (av (aM (aK (g2 (bB true) (af 1) (cC aE))) (aO (bz (g2 159 (gN (aD 1 K15.gp) (ah (af 4) ay)) (cC (ak 351 (ak (gC (.int 10)) (ak (gC (.int 11)) aE))))) (g2 159 (Jp ["NoName"] "name" (af 4)) (g2 aI (af 1) 132)))) bh)
 (av (aM (aK (g2 (bB true) (af 2) (cC aE))) (aO (bz (g2 159 (gN (aD 1 K15.gp) (ah (af 4) ay)) (cC (ak (gC (.int 5)) (ak (gC (.int 10)) (ak (gC (.int 11)) aE))))) (g2 159 (Jp ["NoLetter"] "letter" (af 4)) (gN xA 276)))) bh)
 (aO (bz (g2 (vM false) (af 4) (gC .non)) (cP "bool" (af 3)))))))
def eE(as:List S):M R:=fin (qH (aG qv as))
noncomputable def Qs:List Str:=["_law_script","_law_number","_law_tongue_here","_law_many","_law_world_here","_law_other","_law_letters_here","_law_saying","_law_places","_law_k","_law_strange_ones","_law_free_here","_law_lacking","_law_letter"]
noncomputable def M_:G O:=(av (aN 1 (g2 bV (g2 cW (gN (aD 2 K01.cS) (ah (af 0) (ah 132 ay))) (gC (.int 433))) (gC (.int 100003))))
 (av (aN 2 (gN (aD 1 K01.gE) (ah (gN (aD 2 K01.cS) (ah (af 0) (ah 137 ay))) ay)))
 (av (aN 3 (g2 fJ 137 (g2 bV (af 1) 351)))
 (av (aN 4 (gN (aD 4 K01.fS) (ah (af 0) (ah 162 (ah (af 3) 276)))))
 (av (aN 5 (g2 aI (cC 161) (g2 bV (g2 dG (af 1) 351) 351)))
 (av (aN 6 (gN (aD 1 K12.iz) (ah (g2 bV (gN (aD 2 K01.cS) (ah (af 0) (ah (gC (.int 8)) ay))) (gC (.int 26))) ay)))
 (av (aN 7 (gN (aD 3 K12.ic) (ah (mG ji (af 0) (lE (gC (.int 14))) (lE (gC (.int 62)))) (ah (af 5) (ah (af 6) ay)))))
 (av (CA 8)
 (av (d8 (dQ (ah 351 ay)) (aJ 9) (aM (aK (g2 (b9 λi j=>.bl (decide (j<i))) (g2 bV (g2 dG (gN (aD 2 K01.cS) (ah (af 0) (ah (g2 fJ (gC (.int 9)) (af 9)) ay))) (gC (.int 16))) 351) 132)) (oN 8 (g2 aI (af 6) (af 9)) (g2 bV (gN (aD 2 K01.cS) (ah (af 0) (ah (g2 fJ (gC (.int 9)) (af 9)) ay))) (af 3))) bh))
 (av (aN 10 (gN (aD 2 (K15.dZ 60)) (ah (af 7) 276)))
 (av (aN 11 (gN (aD 2 (K15.ff 60)) (ah (af 7) (ah (cC aE) ay))))
 (av (aN 12 (c9 1 [8] (iT (af 11)) (aJ 0) (aK (g2 (oH true) (af 0) (af 1))) (af 0)))
 (av (aM (bD (aK (gN (aD 3 K15.eE) (ah (gN (aD 3 K15.fk) (ah (af 4) (ah (af 7) (ah (af 8) ay)))) (ah (af 10) (ah (af 12) ay)))))) 390 bh)
 (av (aM (bD (aK (gN (aD 3 K15.eE) (ah (gN (aD 3 K15.fk) (ah (af 4) (ah (af 7) (ah (gC .non) ay)))) (ah (af 10) (ah (af 11) ay)))))) 390 bh)
 (av (u6 12 (d8 (iS (af 12)) (aJ 13) (oN 8 (af 13) 132)))
 (aO (gN (aD 3 K15.eE) (ah (gN (aD 3 K15.fk) (ah (af 4) (ah (af 7) (ah (af 8) ay)))) (ah (af 10) (ah (cC aE) ay))))))))))))))))))))
def uM(as:List S):M R:=fin (M_ (aG Qs as))
end K15
namespace K15
open PySem PySem.Spec PyProof.Rows L2 DL DX
structure eS(w:Vj)(K:UG)(mg:145):Prop where
 ValueError:mg "ValueError"=none
 bool:mg "bool"=none
 dict:mg "dict"=none
 isinstance:mg "isinstance"=none
 len:mg "len"=none
 list:mg "list"=none
 max:mg "max"=none
 min:mg "min"=none
 range:mg "range"=none
 set:mg "set"=none
 sorted:mg "sorted"=none
 tuple:mg "tuple"=none
 BINDERS:BR K mg "BINDERS" (.tup [(.str "some"),(.str "every"),(.str "least")])
 INNER_PLACES:sC K w mg "INNER_PLACES" [("not",(.int 1)),("some",(.int 2)),("every",(.int 2)),("least",(.int 3))]
 LETTER_PLACES:sC K w mg "LETTER_PLACES" [("mark",(.tup [(.int 2)])),("arrow",(.tup [(.int 2),(.int 3)])),("same",(.tup [(.int 1),(.int 2)])),("not",(.tup [])),("and",(.tup [])),("or",(.tup [])),("some",(.tup [(.int 1)])),("every",(.tup [(.int 1)])),("least",(.tup [(.int 2)]))]
 MOST_KEPT_LETTERS:BR K mg "MOST_KEPT_LETTERS" (.int 3)
 xall:rK K mg XL
 xf_letter:IW K "NoLetter" "letter"
 xf_name:IW K "NoName" "name"
 if_Part_found:nQ K "Part" "found"
 if_Part_free:nQ K "Part" "free"
 if_Part_inner:nQ K "Part" "inner"
 if_Part_kept:nQ K "Part" "kept"
 if_Part_saying:nQ K "Part" "saying"
 if_Part_table:nQ K "Part" "table"
section
variable{P:U0}{w:Vj}{K:UG}{mg:Str->Option UH}{base:VU}{f:UX}{fd:Vp}
abbrev uE:Xq:=top 13
theorem yv(m:357)(e:FB K mg "tongue_of" uE):bW P w K mg base 1 1 "tongue_of" K16.gW:=
 qc K16.tN K16.sJ 1 e (λnd _ cdv A outer s H E J T hr=>
 (ao (nF (aa 0) (iJ (cO (aV 1 nd) (cO (aV 2 nd) (cO (aV 3 nd) gQ)))))
 (aA (aQ (bQ (aq (fB (ai (fP (kH ["name","points"] [] (eB (aa 2)) (λ_ _ _ _ _ hc=>⟨(iJ (cO 366 (cO (aV 1 (fW rfl)) gQ))),dB,(aa 0)⟩))) az) m.tuple) (aq (fB (ai (fP (kH ["name","pairs"] [] (eB (aa 3)) (λ_ _ _ _ _ hc=>⟨(iJ (cO 366 (cO (aV 1 (fW rfl)) gQ))),dB,(aa 0)⟩))) az) m.tuple) aL)))))))
abbrev zI:Xq:=top 14
theorem Cj(m:357)(e:FB K mg "by_name" zI):bW P w K mg base 1 2 "by_name" K16.i_:=
 qc K16.yO K16.xW 2 e (λnd _ cdv A outer s H E J T hr=>
 (ao (dj (gP (aa 0)) (iJ (cO (aV 2 nd) (cO (aV 3 nd) gQ))) (aA (bg (bG hr.units (aa 2) (aa 1)) (aA (aQ (aa 3))) a_)))
 (aA Dn)))
abbrev F4:Xq:=top 15
theorem GN(m:357)(RV:bW P w K mg base 1 2 "by_name" K16.i_)(e:FB K mg "bears" F4):bW P w K mg base 2 3 "bears" K16.om:=
 qc K16.EC K16.DV 3 e (λnd _ cdv A outer s H E J T hr=>
 (aA (aQ (pe hr.units (aa 2) (aX RV hr (ai 339 (ai (aa 1) az)))))))
abbrev F8:Xq:=top 16
theorem GR(m:357)(RV:bW P w K mg base 1 2 "by_name" K16.i_)(e:FB K mg "leads" F8):bW P w K mg base 2 4 "leads" K16.oq:=
 qc K16.EF K16.DW 4 e (λnd _ cdv A outer s H E J T hr=>
 (aA (aQ (pe hr.units (bQ (aq (aa 2) (aq (aa 3) aL))) (aX RV hr (ai 339 (ai (aa 1) az)))))))
abbrev qX:Xq:=top 22
theorem wV(m:357)(e:FB K mg "letters_at" qX):bW P w K mg base 1 1 "letters_at" K12.fT:=
 qc K12.qI K12.qx 1 e (λnd _ cdv A outer s H E J T hr=>
 (ao (bg 175 (aA (aQ (nJ (ai 339 az) m.list))) a_)
 (aA (aQ (fP (kH ["place"] [0] (eB (zB m.LETTER_PLACES 339)) (λ_ _ _ _ _ hc=>⟨366,dB,(au (aa 1) (aa 0))⟩)))))))
abbrev BE:Xq:=top 23
theorem Ek(m:357)(e:FB K mg "within" BE):bW P w K mg base 1 1 "within" K12.jS:=
 qc K12.A9 K12.AD 1 e (λnd _ cdv A outer s H E J T hr=>
 (ao (aP 1 nd 339)
 (ao (bg (FO hr.units (aa 1) (bQ (aq aZ (aq aZ aL)))) (aA (aQ 339)) a_)
 (ao (bg (LH m.INNER_PLACES (aa 1)) (aA (aQ (bQ (aq (au (aa 0) (zB m.INNER_PLACES (aa 1))) aL)))) a_)
 (aA (aQ (bQ aL)))))))
abbrev wg:Xq:=top 24
theorem Ag(m:357)(RU:bW P w K mg base 1 1 "within" K12.jS)(e:FB K mg "parts_of" wg):bW P w K mg base 2 1 "parts_of" K12.iK:=
 qc K12.vP K12.vE 1 e (λnd _ cdv A outer s H E J T hr=>
 (ao (aP 1 nd (bM aL))
 (ao (aP 2 nd (bM (aq (aa 0) aL)))
 (ao (Dp 2000 (Bt (aa 2)) (ao (Ig 3 2 nd)
 (ao (fz 1 (aa 3))
 (aA (Ao 2 (LL (aX RU hr (ai (aa 3) az)) Pj))))))
 (aA (aQ (aa 1)))))))
abbrev uz:Xq:=top 25
theorem ym(m:357)(RI:bW P w K mg base 1 1 "letters_at" K12.fT)(e:FB K mg "free_from" uz):bW P w K mg base 2 2 "free_from" K12.jM:=
 qc K12.tL K12.sH 2 e (λnd _ cdv A outer s H E J T hr=>
 (ao (aP 2 nd (aX RI hr (ai (aa 0) az)))
 (ao (bg (FO hr.units 339 (o_ m.BINDERS)) (aA (aQ (uh (Oh ["letter"] [2] (eB (aa 1)) (λ_ _ _ _ _ hc=>⟨366,(lM (lK hr.units (aa 0) (aa 1))),(aa 0)⟩)) m.sorted))) a_)
 (aA (aQ (uh (LM (ai (nI (aa 2) (aa 1)) az) m.set) m.sorted))))))
abbrev uA:Xq:=top 26
theorem yo(m:357)(e:FB K mg "is_spoken" uA):bW P w K mg base 1 2 "is_spoken" K12.gV:=
 qc K12.tM K12.sI 2 e (λnd _ cdv A outer s H E J T hr=>
 (ao (nF (aa 1) (iJ (cO (aV 2 nd) (cO (aV 3 nd) gQ))))
 (ao (bg 175 (aA (aQ (pe hr.units 339 (aa 2)))) a_)
 (ao (bg 175 (aA (aQ (pe hr.units 339 (aa 3)))) a_)
 (aA (aQ kU))))))
abbrev qe:Xq:=topC 27 0
theorem Ow:cK ["self","saying","earlier"] ["self","saying","earlier"] (aF qe):=⟨rfl,rfl,rfl,by decide +kernel,rfl,by decide +kernel,by decide +kernel⟩
theorem AO(m:357)(RU:bW P w K mg base 1 1 "within" K12.jS)(RW:bW P w K mg base 2 2 "free_from" K12.jM)(F:fN K "__init__" "Part.__init__" qe f fd){C:UX}(M:Mk K C f)(hm:mg "Part"=some 241)(hC:U1 K UT "Part"=some (some 241))(ik:ou K C)(mu:D->Mm):∀fu:Nat,xO P w K mg base (2+2*fu) 2 "Part" (K16.gS mu fu)
 |0=>GL (ps:=["self","saying","earlier"]) F M hm 340 (λ_=>rfl)
 |fu+1=>
  have sc:=Ow;have hself:=AO m RU RW F M hm hC ik mu fu
  let Fr:=K16.gS mu fu
  Ic (k:=2+2*fu+1) (gB:=K16.tH mu (K16.gS mu fu)) F M hm hC ik sc 340 rfl (λcdv A outer s H E H0 J T hr=>
 (mU (o8 0 m.if_Part_saying (aa 1))
 (mU (o8 0 m.if_Part_inner (fP (kH ["one"] [2] (eB (aX RU hr (ai (aa 1) az) 112)) (λ_ _ _ _ _ hc=>⟨366,dB,(FT (λ_=>()) (F:=λ_=>Fr) (λ_=>hself) hr (ai (aa 0) (ai (aa 1) az)) 112)⟩))))
 (mU (o8 0 m.if_Part_table (LI (bG hr.units (au (aa 1) aj) aZ) (au (aa 2) (au (aa 1) aj)) jr))
 (mU (o8 0 m.if_Part_free (aX RW hr (ai (aa 1) (ai (fP (Qz ["part","letter"] [] (eB (fE m.if_Part_inner (aa 0))) (λ_ _ _ _ _ hc=>⟨366,dB,(gP (fE m.if_Part_free (aa 0))),(aV 1 (fW rfl)),dB,(aa 1)⟩))) az)) 112))
 (mU (o8 0 m.if_Part_kept (p_ (pe hr.units (au (aa 1) aj) (o_ m.BINDERS)) (nG (Og (gx (ai (fE m.if_Part_free (aa 0)) az) m.len) (o_ m.MOST_KEPT_LETTERS)))))
 (Oe (Od 0 (K16.Qe mu 1) m.if_Part_found))))))))
abbrev qh:Xq:=top 28
theorem Iv:cK ["world","part","places","wanted","letter","spare","here","point"] ["world","part","places","wanted"] (aF qh):=⟨rfl,rfl,rfl,by decide +kernel,rfl,by decide +kernel,by decide +kernel⟩
theorem Ec(m:357)(RI:bW P w K mg base 1 1 "letters_at" K12.fT){Fr:234}{L:Nat}(hL:2<=L)(hself:bW P w K mg base L 3 "part_holds" Fr)(F:fN K "enough" "enough" qh f fd)(hm:mg "enough"=some 344):bW P w K mg base (L+1) 4 "enough" (K16.jR Fr):=
 have sc:=Iv
 jl (k:=L+0) (gB:=K16.A8 Fr) F hm sc (λ_ _ _ _ _ _ us hl=>match us,hl with|[_,_,_,_],_=>rfl) (λcdv A outer s H E J T hr=>
 (ao (aP 4 sc.nd (au (aX RI hr (ai (fE m.if_Part_saying (aa 1)) az) 112) aj))
 (ao (aP 5 sc.nd (vt 339 (aa 3)))
 (ao (aP 6 sc.nd (FQ (ai (aa 2) az) m.dict))
 (ao (dj (cU (ai 339 az) m.range) (aV 7 sc.nd) (ao (rY 6 hr.units (aa 7) (aa 4))
 (ao (bg (mV (aX hself hr (ai (aa 0) (ai (au (fE m.if_Part_inner (aa 1)) aj) (ai (aa 6) az))) 112)) (aA (v5 3 sc.nd aj)) (aA (v5 5 sc.nd aj)))
 (aA (bg (fD (iy (bG hr.units (aa 3) aj) (jo (jn Dh (iA λ_ _ _=>.bl _) (aa 5) aj)))) (aA Dm) a_)))))
 (aA (aQ (mW hr.units (aa 3) aj)))))))) (λas r _ h=>h)
abbrev iW:Xq:=top 29
theorem w_:cK ["world","parts","places","truth","part"] ["world","parts","places","truth"] (aF iW):=⟨rfl,rfl,rfl,by decide +kernel,rfl,by decide +kernel,by decide +kernel⟩
theorem uX(m:357){Fr:234}{L:Nat}(hL:2<=L)(hself:bW P w K mg base L 3 "part_holds" Fr)(F:fN K "any_part_is" "any_part_is" iW f fd)(hm:mg "any_part_is"=some 344):bW P w K mg base (L+1) 4 "any_part_is" (K16.gF Fr):=
 have sc:=w_
 jl (k:=L+0) (gB:=K16.oS Fr) F hm sc (λ_ _ _ _ _ _ us hl=>match us,hl with|[_,_,_,_],_=>rfl) (λcdv A outer s H E J T hr=>
 (ao (dj (gP (aa 1)) (aV 4 sc.nd) (aA (bg (bG hr.units (aX hself hr (ai (aa 0) (ai (aa 4) (ai (aa 2) az))) 112) (aa 3)) (aA (aQ kU)) a_)))
 (aA (aQ kU)))) (λas r _ h=>h)
abbrev lO:Xq:=top 30
theorem Ds:cK ["world","part","places","saying","word"] ["world","part","places"] (aF lO):=⟨rfl,rfl,rfl,by decide +kernel,rfl,by decide +kernel,by decide +kernel⟩
theorem Ah(m:357)(R5:bW P w K mg base 2 3 "bears" K16.om)(R7:bW P w K mg base 2 4 "leads" K16.oq){Fr:234}{L:Nat}(hL:2<=L)(hself:bW P w K mg base L 3 "part_holds" Fr)(RL:bW P w K mg base (L+1) 4 "any_part_is" (K16.gF Fr))(RQ:bW P w K mg base (L+1) 4 "enough" (K16.jR Fr))(F:fN K "reckoned" "reckoned" lO f fd)(hm:mg "reckoned"=some 344):bW P w K mg base (L+2) 3 "reckoned" (K16.iL Fr):=
 have sc:=Ds
 jl (k:=L+1) (gB:=K16.vQ Fr) F hm sc 340 (λcdv A outer s H E J T hr=>
 (ao (aP 3 sc.nd (fE m.if_Part_saying (aa 1)))
 (ao (aP 4 sc.nd (au (aa 3) aj))
 (ao (bg (bG hr.units (aa 4) aZ) (aA (aQ (aX R5 hr (ai (aa 0) (ai (au (aa 3) aj) (ai (jt hr.units (aa 2) (au (aa 3) aj)) az))) 112))) a_)
 (ao (bg (bG hr.units (aa 4) aZ) (aA (aQ (aX R7 hr (ai (aa 0) (ai (au (aa 3) aj) (ai (jt hr.units (aa 2) (au (aa 3) aj)) (ai (jt hr.units (aa 2) (au (aa 3) aj)) az)))) 112))) a_)
 (ao (bg (bG hr.units (aa 4) aZ) (aA (aQ (mW hr.units (jt hr.units (aa 2) (au (aa 3) aj)) (jt hr.units (aa 2) (au (aa 3) aj))))) a_)
 (ao (bg (bG hr.units (aa 4) aZ) (aA (aQ (au (fE m.if_Part_table (aa 1)) (fB (ai (fP (kH ["letter"] [2] (eB (au (aa 3) aj)) (λ_ _ _ _ _ hc=>⟨366,dB,(jt hr.units (aa 1) (aa 0))⟩))) az) m.tuple)))) a_)
 (ao (bg (bG hr.units (aa 4) aZ) (aA (aQ (Bv (aX hself hr (ai (aa 0) (ai (au (fE m.if_Part_inner (aa 1)) aj) (ai (aa 2) az))) 112)))) a_)
 (ao (bg (bG hr.units (aa 4) aZ) (aA (aQ (Bv (aX RL hr (ai (aa 0) (ai (fE m.if_Part_inner (aa 1)) (ai (aa 2) (ai kU az)))) 112)))) a_)
 (ao (bg (bG hr.units (aa 4) aZ) (aA (aQ (aX RL hr (ai (aa 0) (ai (fE m.if_Part_inner (aa 1)) (ai (aa 2) (ai kU az)))) 112))) a_)
 (ao (bg (bG hr.units (aa 4) aZ) (aA (aQ (aX RQ hr (ai (aa 0) (ai (aa 1) (ai (aa 2) (ai aj az)))) 112))) a_)
 (ao (bg (bG hr.units (aa 4) aZ) (aA (aQ (aX RQ hr (ai (aa 0) (ai (aa 1) (ai (aa 2) (ai 339 az)))) 112))) a_)
 (aA (aQ (aX RQ hr (ai (aa 0) (ai (aa 1) (ai (aa 2) (ai (au (aa 3) aj) az)))) 112))))))))))))))) (λas r _ h=>h)
abbrev l_:Xq:=top 31
theorem zJ:cK ["world","part","places","points"] ["world","part","places"] (aF l_):=⟨rfl,rfl,rfl,by decide +kernel,rfl,by decide +kernel,by decide +kernel⟩
theorem nT(m:357)(RI:bW P w K mg base 1 1 "letters_at" K12.fT)(R5:bW P w K mg base 2 3 "bears" K16.om)(R7:bW P w K mg base 2 4 "leads" K16.oq)(F:fN K "part_holds" "part_holds" l_ f fd)(hm:mg "part_holds"=some 344){fenough:UX}{fdenough:Vp}(Fenough_:fN K "enough" "enough" qh fenough fdenough)(Se:mg "enough"=some (.ref fenough)){fany_part_is:UX}{fdany_part_is:Vp}(Fany_part_is_:fN K "any_part_is" "any_part_is" iW fany_part_is fdany_part_is)(RO:mg "any_part_is"=some (.ref fany_part_is)){freckoned:UX}{fdreckoned:Vp}(Freckoned_:fN K "reckoned" "reckoned" lO freckoned fdreckoned)(RX:mg "reckoned"=some (.ref freckoned)):∀fu:Nat,bW P w K mg base (2+3*fu) 3 "part_holds" (K16.dW fu)
 |0=>uT (ps:=["world","part","places"]) F hm 340 (λ_=>rfl)
 |fu+1=>
  have sc:=zJ;have hself:=nT m RI R5 R7 F hm Fenough_ Se Fany_part_is_ RO Freckoned_ RX fu;have RQ:=Ec m RI (L:=2+3*fu) 112 hself Fenough_ Se;have RL:=uX m (L:=2+3*fu) 112 hself Fany_part_is_ RO;have R1:=Ah m R5 R7 (L:=2+3*fu) 112 hself RL RQ Freckoned_ RX
  jl (k:=2+3*fu+2) (gB:=K16.lZ (K16.dW fu)) F hm sc 340 (λcdv A outer s H E J T hr=>
 (ao (bg (pZ (mV (fE m.if_Part_kept (aa 1)))) (aA (aQ (aX R1 hr (ai (aa 0) (ai (aa 1) (ai (aa 2) az))) 112))) a_)
 (by refine FU (i:=1) (j:=3) hr.units m.if_Part_found ?_ ?_ sc.nd m.tuple;exact(fP (kH ["letter"] [2] (eB (fE m.if_Part_free (aa 1))) (λ_ _ _ _ _ hc=>⟨366,dB,(jt hr.units (aa 1) (aa 0))⟩)));exact(aX R1 hr (ai (aa 0) (ai (aa 1) (ai (aa 2) az))) 112)))) (λas r _ h=>h)
abbrev jF:Xq:=top 32
theorem LX:cK ["world","saying","places","tongue","part","asked","letter"] ["world","saying","places"] (aF jF):=⟨rfl,rfl,rfl,by decide +kernel,rfl,by decide +kernel,by decide +kernel⟩
theorem G8(m:357)(SX:∀m,xO P w K mg base 122 2 "Part" (K16.gS m 60))(Sl:bW P w K mg base 1 1 "tongue_of" K16.gW)(Sq:bW P w K mg base 2 1 "parts_of" K12.iK)(Sj:bW P w K mg base 1 2 "is_spoken" K12.gV)(Sf:bW P w K mg base 182 3 "part_holds" (K16.dW 60))(rNoLetter:uQ P w K mg base 1 "NoLetter" "letter")(rNoName:uQ P w K mg base 1 "NoName" "name")(F:m7 K "holds" "holds" jF f fd):dF P w K mg base (kr P w) 183 f fd ["world","saying","places"] (zO K 3 K15.dD):=
 have sc:=LX
 Kw (k:=182) (gB:=K15.mJ) F sc (λcdv A outer s H E J hr=>lq.h (
 (ao (bg (FP (aa 2) jr) (aA (v7 2 sc.nd)) a_)
 (ao (aP 3 sc.nd (aX Sl hr (ai (aa 0) az)))
 (ao (dj (gP (aX Sq hr (ai (aa 1) az))) (aV 4 sc.nd) (aA (bg (pZ (mV (aX Sj hr (ai (aa 4) (ai (aa 3) az))))) (aA (zz rNoName Gw hr (aq (au (aa 4) aj) aL))) a_)))
 (ao (aP 5 sc.nd (FT (K16.HB 0) (F:=λm=>K16.gS m 60) SX hr (ai (aa 1) (ai (bQ aL) az))))
 (ao (dj (gP (fE m.if_Part_free (aa 5))) (aV 6 sc.nd) (aA (bg (ug hr.units (aa 6) (aa 2)) (aA (zz rNoLetter Gw hr (aq (aa 6) aL))) a_)))
 (aA (aQ (aX Sf hr (ai (aa 0) (ai (aa 5) (ai (aa 2) az))))))))))))) (λ_ _ _=>rfl)
theorem GP(G:dF P w K mg base (kr P w) 183 f fd ["world","saying","places"] (zO K 3 K15.dD))(F:m7 K "holds" "holds" jF f fd)(hm:mg "holds"=some 344):Gy P w K mg base 183 3 "holds" K15.dD:=⟨f,fd,["world","saying","places"],G,hm,F.kp,F.bindsAll (λT kV doc pm an cdv ct us hl=>match us,hl with|[_,_,_],_=>⟨_,rfl,rfl⟩)⟩
theorem Eb(G:dF P w K mg base (kr P w) 183 f fd ["world","saying","places"] (zO K 3 K15.dD))(F:m7 K "holds" "holds" jF f fd)(hm:mg "holds"=some 344):Gx P w K mg base 183 2 "holds" K15.dD:=⟨f,fd,["world","saying","places"],G,hm,F.kp,F.bindsOne (λT kV doc pm an cdv ct us hl=>match us,hl with|[_,_],_=>⟨_,rfl,rfl⟩)⟩
abbrev ur:Xq:=top 34
theorem yj(m:357)(e:FB K mg "_law_cell" ur):bW P w K mg base 1 2 "_law_cell" K01.cS:=
 qc K01.ni K01.jN 2 e (λnd _ cdv A outer s H E J T hr=>
 (ao (bg (jn Dh (iA λ_ _ _=>.bl _) (aa 1) (gx (ai (aa 0) az) m.len)) (aA (aQ (bw (au (aa 0) (aa 1)) (qd aj aj)))) a_)
 (aA (aQ aj))))
abbrev qS:Xq:=top 35
theorem wO(m:357)(e:FB K mg "_law_names" qS):bW P w K mg base 1 2 "_law_names" K01.fR:=
 qc K01.lV K01.qt 2 e (λnd _ cdv A outer s H E J T hr=>
 (ao (aP 2 nd (bw (d7 (aa 0) aj) aj))
 (ao (aP 3 nd (au aZ (bw (aa 2) aj)))
 (ao (aP 4 nd (cg aj (bw (cQ (aa 2) aj) aj)))
 (ao (bg (bG hr.units (bw (cQ (aa 2) aj) aj) aj) (aA (aQ (fP (kH ["_law_k"] [3] (nE (cU (ai (aa 1) az) m.range)) (λ_ _ _ _ _ hc=>⟨366,dB,(d7 (aa 1) (cg aj (aa 0)))⟩))))) a_)
 (ao (bg (bG hr.units (bw (cQ (aa 2) aj) aj) aj) (ao (aP 5 nd (bM (aq aZ (aq aZ (aq aZ (aq aZ (aq aZ (aq aZ (aq aZ (aq aZ aL))))))))))
 (ao (aP 6 nd (bw (cQ (aa 2) aj) aj))
 (ao (aP 7 nd aZ)
 (aA (aQ (um (ai (fP (kH ["_law_k"] [5,6,7,2] (nE (cU (ai (aa 1) az) m.range)) (λ_ _ _ _ _ hc=>⟨366,dB,(cg (au (cg (aa 1) (aa 1)) (cg (aa 2) (aa 0))) (au (aa 3) (bw (cQ (aa 4) aj) aj)))⟩))) az) m.sorted)))))) a_)
 (ao (aP 8 nd (bw (cQ (aa 2) aj) (aa 4)))
 (ao (aP 9 nd (bM aL))
 (ao (dj (cU (ai (aa 1) az) m.range) (aV 10 nd) (ao (aP 11 nd (au aZ (bw (cg (cQ (aa 2) aj) (d7 aj (aa 10))) aj)))
 (aA (fz 9 (cg (cg (d7 (aa 3) (aa 8)) (aa 11)) (d7 (aa 3) (vt (vt (aa 4) aj) (aa 8))))))))
 (aA (aQ (um (ai (aa 9) az) m.sorted))))))))))))
abbrev uv:Xq:=top 36
theorem yl(m:357)(e:FB K mg "_law_some" uv):bW P w K mg base 1 2 "_law_some" K01.gU:=
 qc K01.nk ["_law_bits","_law_many","_law_found","_law_point"] 2 e (λnd _ cdv A outer s H E J T hr=>
 (ao (aP 2 nd (bM aL))
 (ao (dj (cU (ai (aa 1) az) m.range) (aV 3 nd) (ao (bg (bG hr.units (bw (aa 0) aj) aj) (aA (fz 2 (aa 3))) a_)
 (aA (aP 0 nd (cQ (aa 0) aj)))))
 (aA (aQ (fB (ai (aa 2) az) m.tuple))))))
abbrev qU:Xq:=top 37
theorem wQ(m:357)(e:FB K mg "_law_pairs" qU):bW P w K mg base 1 2 "_law_pairs" K01.gq:=
 qc K01.lW K01.qu 2 e (λnd _ cdv A outer s H E J T hr=>
 (ao (aP 2 nd (bM aL))
 (ao (dj (cU (ai (aa 1) az) m.range) (aV 3 nd) (aA (dj (cU (ai (aa 1) az) m.range) (aV 4 nd) (ao (bg (bG hr.units (bw (aa 0) aj) aj) (aA (fz 2 (bQ (aq (aa 3) (aq (aa 4) aL))))) a_)
 (aA (aP 0 nd (cQ (aa 0) aj)))))))
 (aA (aQ (fB (ai (aa 2) az) m.tuple))))))
abbrev pF:Xq:=top 38
theorem uV(m:357)(Sa:bW P w K mg base 1 2 "_law_names" K01.fR)(e:FB K mg "_law_tongue" pF):bW P w K mg base 2 1 "_law_tongue" K01.gE:=
 qc K01.kO K01.oz 1 e (λnd _ cdv A outer s H E J T hr=>
 (ao (aP 1 nd (aX Sa hr (ai (aa 0) (ai aj az))))
 (ao (aP 2 nd (bw (d7 (aa 0) aj) aj))
 (ao (aP 3 nd (bw (cQ (aa 2) aj) aj))
 (aA (aQ (bQ (aq (fB (ai (iN (aa 1) iO (fC (bw (aa 2) aj))) az) m.tuple) (aq (fB (ai (iN (aa 1) (fC (aa 3)) (fC (cg (aa 3) (bw (cQ (aa 2) aj) aj)))) az) m.tuple) aL)))))))))
abbrev qW:Xq:=top 39
theorem wU(m:357)(RH:bW P w K mg base 1 2 "_law_cell" K01.cS)(Si:bW P w K mg base 1 2 "_law_some" K01.gU)(Sb:bW P w K mg base 1 2 "_law_pairs" K01.gq)(e:FB K mg "_law_world" qW):bW P w K mg base 2 4 "_law_world" K01.fS:=
 qc K01.lY K01.qw 4 e (λnd _ cdv A outer s H E J T hr=>
 (ao (aP 4 nd (bM aL))
 (ao (dj (cU (ai (gx (ai (au (aa 3) aj) az) m.len) az) m.range) (aV 5 nd) (aA (fz 4 (bQ (aq (au (au (aa 3) aj) (aa 5)) (aq (aX Si hr (ai (bw (d7 (aX RH hr (ai (aa 0) (ai (cg (aa 1) (aa 5)) az))) aj) (qd aj aj)) (ai (aa 2) az))) aL))))))
 (ao (aP 6 nd (bM aL))
 (ao (dj (cU (ai (gx (ai (au (aa 3) aj) az) m.len) az) m.range) (aV 5 nd) (ao (aP 7 nd (bw (d7 (aX RH hr (ai (aa 0) (ai (cg (cg (aa 1) aj) (aa 5)) az))) aj) (qd aj aj)))
 (aA (fz 6 (bQ (aq (au (au (aa 3) aj) (aa 5)) (aq (aX Sb hr (ai (aa 7) (ai (aa 2) az))) aL)))))))
 (aA (aQ (bQ (aq (aa 2) (aq (fB (ai (aa 4) az) m.tuple) (aq (fB (ai (aa 6) az) m.tuple) aL)))))))))))
abbrev n8:Xq:=top 40
theorem sP(m:357)(e:FB K mg "_law_letters" n8):bW P w K mg base 1 1 "_law_letters" K12.iz:=
 qc K12.nV K12.nR 1 e (λnd _ cdv A outer s H E J T hr=>
 (aA (aQ (fP (kH ["_law_k"] [0] (nE (cU (ai aj az) m.range)) (λ_ _ _ _ _ hc=>⟨366,dB,(au aZ (bw (cg (aa 1) (d7 aj (aa 0))) aj))⟩))))))
abbrev uu:Xq:=top 41
theorem yk(m:357)(e:FB K mg "_law_leaf" uu):bW P w K mg base 1 3 "_law_leaf" K12.gT:=
 qc K12.tK K12.sG 3 e (λnd _ cdv A outer s H E J T hr=>
 (ao (aP 3 nd (au (aa 2) (bw (cQ (aa 0) aj) aj)))
 (ao (aP 4 nd (au (aa 2) (bw (cQ (aa 0) aj) aj)))
 (ao (bg (fD (j6 (bG hr.units (bw (aa 0) aj) aj) (jm (uf hr.units (au (aa 1) aj) (bQ aL))))) (aA (aQ (bQ (aq aZ (aq (au (au (aa 1) aj) (bw (cQ (aa 0) aj) (gx (ai (au (aa 1) aj) az) m.len))) (aq (aa 3) aL)))))) a_)
 (ao (bg (fD (j6 (bG hr.units (bw (aa 0) aj) aj) (jm (uf hr.units (au (aa 1) aj) (bQ aL))))) (aA (aQ (bQ (aq aZ (aq (au (au (aa 1) aj) (bw (cQ (aa 0) aj) (gx (ai (au (aa 1) aj) az) m.len))) (aq (aa 3) (aq (aa 4) aL))))))) a_)
 (aA (aQ (bQ (aq aZ (aq (aa 3) (aq (aa 4) aL)))))))))))
abbrev n_:Xq:=top 42
theorem sQ(m:357)(e:FB K mg "_law_wrapped" n_):bW P w K mg base 1 3 "_law_wrapped" K12.gm:=
 qc K12.nW ["_law_number","_law_letters_here","_law_top","_law_saying","_law_deep","_law_high","_law_letter"] 3 e (λnd _ cdv A outer s H E J T hr=>
 (ao (nF (aa 2) (iJ (cO (aV 3 nd) (cO (aV 4 nd) (cO (aV 5 nd) gQ)))))
 (ao (aP 6 nd (au (aa 1) (bw (cQ (aa 0) aj) aj)))
 (ao (bg (fD (iy (bG hr.units (bw (aa 0) aj) aj) (jo (jn xH (iA λ_ _ _=>.bl _) (aa 4) aj)))) (aA (aQ (bQ (aq (bQ (aq aZ (aq (aa 3) aL))) (aq (aa 4) (aq (cg (aa 5) aj) aL)))))) a_)
 (ao (bg (bG hr.units (bw (aa 0) aj) aj) (aA (aQ (bQ (aq (bQ (aq aZ (aq (cg aj (bw (cQ (aa 0) aj) (au (bM (aq aj (aq aj aL))) (bw (cQ (aa 0) aj) aj)))) (aq (aa 6) (aq (aa 3) aL))))) (aq (cg (aa 4) aj) (aq (cg (aa 5) aj) aL)))))) a_)
 (aA (aQ (bQ (aq (bQ (aq (au (bM (aq aZ (aq aZ aL))) (bw (aa 0) aj)) (aq (aa 6) (aq (aa 3) aL)))) (aq (cg (aa 4) aj) (aq (cg (aa 5) aj) aL)))))))))))
abbrev pD:Xq:=top 43
theorem uU(m:357)(e:FB K mg "_law_joined" pD):bW P w K mg base 1 2 "_law_joined" K12.f6:=
 qc K12.oQ ["_law_number","_law_some_here","_law_parts","_law_deep","_law_high"] 2 e (λnd _ cdv A outer s H E J T hr=>
 (ao (aP 2 nd (fB (ai (fP (kH ["_law_one"] [] (eB (aa 1)) (λ_ _ _ _ _ hc=>⟨366,dB,339⟩))) az) m.tuple))
 (ao (aP 3 nd (zC (fP (kH ["_law_one"] [] (eB (aa 1)) (λ_ _ _ _ _ hc=>⟨366,dB,339⟩))) m.max))
 (ao (aP 4 nd (zC (fP (kH ["_law_one"] [] (eB (aa 1)) (λ_ _ _ _ _ hc=>⟨366,dB,339⟩))) m.max))
 (ao (bg (bG hr.units (gx (ai (aa 1) az) m.len) aj) (aA (aQ (au (aa 1) aj))) a_)
 (aA (aQ (bQ (aq (bQ (aq (au (bM (aq aZ (aq aZ aL))) (bw (aa 0) aj)) (aq (aa 2) aL))) (aq (aa 3) (aq (cg (aa 4) aj) aL)))))))))))
abbrev qQ:Xq:=top 44
theorem wM(m:357)(Sh:bW P w K mg base 1 3 "_law_leaf" K12.gT)(RP:bW P w K mg base 1 2 "_law_joined" K12.f6)(R0:bW P w K mg base 1 3 "_law_wrapped" K12.gm)(e:FB K mg "_law_grown" qQ):bW P w K mg base 2 3 "_law_grown" K12.ic:=
 qc K12.qF K12.qp 3 e (λnd _ cdv A outer s H E J T hr=>
 (ao (aP 3 nd (bM aL))
 (ao (dj (cU (ai (gx (ai (aa 0) az) m.len) az) m.range) (aV 4 nd) (ao (aP 5 nd (bw (d7 (cg (bw (au (aa 0) (aa 4)) (qd aj aj)) (d7 aj (aa 4))) aj) aj))
 (ao (aP 6 nd (bw (aa 5) aj))
 (ao (aP 7 nd (cQ (aa 5) aj))
 (aA (bg (fD (iy (bG hr.units (aa 3) (bM aL)) (iy (jn Dh (iA λ_ _ _=>.bl _) (aa 6) aj) (jo (jn xH (iA λ_ _ _=>.bl _) (au (au (aa 3) (jq aj)) aj) aj))))) (aA (fz 3 (bQ (aq (aX Sh hr (ai (aa 7) (ai (aa 1) (ai (aa 2) az)))) (aq aj (aq aj aL)))))) (aA (bg (fD (j6 (bG hr.units (aa 6) aj) (jm (jn xH (iA λ_ _ _=>.bl _) (gx (ai (aa 3) az) m.len) aj)))) (ao (aP 8 nd (cg aj (bw (cQ (aa 7) aj) aj)))
 (aA (aP 3 nd (cg (iN (aa 3) iO (fC (jq (aa 8)))) (bM (aq (aX RP hr (ai (aa 7) (ai (iN (aa 3) (fC (jq (aa 8))) iO) az))) aL)))))) (aA (bg (fD (j6 (bG hr.units (aa 6) aj) (jm (bG hr.units (bw (aa 7) aj) aj)))) (aA (fz 3 (bQ (aq (bQ (aq (au (bM (aq aZ (aq aZ aL))) (bw (cQ (aa 7) aj) aj)) (aq (bQ aL) aL))) (aq aj (aq aj aL)))))) (aA (aP 3 nd (cg (iN (aa 3) iO (fC (jq aj))) (bM (aq (aX R0 hr (ai (aa 7) (ai (aa 2) (ai (au (aa 3) (jq aj)) az)))) aL)))))))))))))))
 (aA (aQ (au (aX RP hr (ai (gx (ai (aa 0) az) m.len) (ai (aa 3) az))) aj))))))
abbrev qR:Xq:=top 45
theorem wN(m:357)(e:FB K mg "_law_kinds" qR):bW P w K mg base 1 1 "_law_kinds" K15.gp:=
 qc K15.qG K15.qq 1 e (λnd _ cdv A outer s H E J T hr=>
 (ao (aP 1 nd (bM (aq 281 (aq 281 (aq 281 aL)))))
 (ao (aP 1 nd (gO (aa 1) (bM (aq 281 (aq 281 (aq 281 aL))))))
 (ao (aP 1 nd (gO (aa 1) (bM (aq 281 (aq 281 (aq 281 aL))))))
 (ao (aP 1 nd (gO (aa 1) (bM (aq 281 (aq (LJ m.xall (aa 0) m.isinstance) (aq (LK m.xall (aa 0) m.ValueError m.isinstance) aL))))))
 (aA (aQ (fP (kH ["_law_k"] [1] (nE (cU (ai aj az) m.range)) (λ_ _ _ _ _ hc=>⟨366,(lM (Bt (au (aa 1) (aa 0)))),(aa 0)⟩))))))))))
abbrev pG:Xq:=top 46
theorem uW(m:357)(e:FB K mg "_law_within" pG):bW P w K mg base 1 1 "_law_within" K12.fF:=
 qc K12.oR K12.oA 1 e (λnd _ cdv A outer s H E J T hr=>
 (ao (bg (fD (iy 175 (jo 175))) (aA (aQ (nJ (ai 339 az) m.list))) a_)
 (ao (bg (fD (iy 175 (iy 175 (jo 175)))) (aA (aQ (bM aL))) a_)
 (aA (aQ (bM (aq (au (aa 0) (jq aj)) aL)))))))
abbrev jJ:Xq:=top 47
theorem vv:cK ["_law_saying","_law_tongue_here","_law_found","_law_part"] ["_law_saying","_law_tongue_here"] (aF jJ):=⟨rfl,rfl,rfl,by decide +kernel,rfl,by decide +kernel,by decide +kernel⟩
theorem ly(m:357)(RJ:bW P w K mg base 1 1 "_law_within" K12.fF)(F:fN K "_law_strange" "_law_strange" jJ f fd)(hm:mg "_law_strange"=some 344):∀fu:Nat,bW P w K mg base (1+fu) 2 "_law_strange" (K15.dZ fu)
 |0=>uT (ps:=["_law_saying","_law_tongue_here"]) F hm 311 (λ_=>rfl)
 |fu+1=>
  have sc:=vv;have hself:=ly m RJ F hm fu
  jl (k:=1+fu) (gB:=K15.jI (K15.dZ fu)) F hm sc 311 (λcdv A outer s H E J T hr=>
 (ao (bg (fD (j6 175 (jm (lK hr.units 339 (au (aa 1) aj))))) (aA (aQ (bM (aq 339 aL)))) a_)
 (ao (bg (fD (j6 175 (jm (lK hr.units 339 (au (aa 1) aj))))) (aA (aQ (bM (aq 339 aL)))) a_)
 (ao (aP 2 sc.nd (bM aL))
 (ao (dj (gP (aX RJ hr (ai (aa 0) az) 112)) (aV 3 sc.nd) (aA (aP 2 sc.nd (nI (aa 2) (aX hself hr (ai (aa 3) (ai (aa 1) az)) 112)))))
 (aA (aQ (aa 2)))))))) (λas r _ h=>h)
abbrev nK:Xq:=top 48
theorem Au:cK ["_law_saying","_law_bound","_law_found","_law_part"] ["_law_saying","_law_bound"] (aF nK):=⟨rfl,rfl,rfl,by decide +kernel,rfl,by decide +kernel,by decide +kernel⟩
theorem oF(m:357)(RJ:bW P w K mg base 1 1 "_law_within" K12.fF)(F:fN K "_law_free" "_law_free" nK f fd)(hm:mg "_law_free"=some 344):∀fu:Nat,bW P w K mg base (1+fu) 2 "_law_free" (K15.ff fu)
 |0=>uT (ps:=["_law_saying","_law_bound"]) F hm 311 (λ_=>rfl)
 |fu+1=>
  have sc:=Au;have hself:=oF m RJ F hm fu
  jl (k:=1+fu) (gB:=K15.nj (K15.ff fu)) F hm sc 311 (λcdv A outer s H E J T hr=>
 (ao (aP 2 sc.nd (bM aL))
 (ao (bg (fD (iy 175 (jo 175))) (aA (aP 2 sc.nd (nJ (ai (iN (aa 0) (fC aj) iO) az) m.list))) a_)
 (ao (bg 175 (aA (aP 2 sc.nd (nJ (ai (iN (aa 0) (fC aj) iO) az) m.list))) a_)
 (ao (Bu 2 sc.nd (kH ["_law_letter"] [1] (eB (aa 2)) (λ_ _ _ _ _ hc=>⟨366,(lM (lK hr.units (aa 0) (aa 1))),(aa 0)⟩)))
 (ao (bg (fD (iy 175 (iy 175 (jo 175)))) (aA (aP 1 sc.nd (nI (aa 1) (bM (aq (au (aa 0) (jq aj)) aL))))) a_)
 (ao (dj (gP (aX RJ hr (ai (aa 0) az) 112)) (aV 3 sc.nd) (aA (aP 2 sc.nd (nI (aa 2) (aX hself hr (ai (aa 3) (ai (aa 1) az)) 112)))))
 (aA (aQ (aa 2)))))))))) (λas r _ h=>h)
abbrev qP:Xq:=top 49
theorem wL(m:357)(SM:Gy P w K mg base 183 3 "holds" K15.dD)(SG:Gx P w K mg base 183 2 "holds" K15.dD)(e:FB K mg "_law_asked" qP):bW P w K mg base 184 3 "_law_asked" K15.fk:=
 qc K15.qE K15.qo 3 e (λnd _ cdv A outer s H E J T hr=>
 (ao (aP 3 nd jr)
 (ao (aP 4 nd jr)
 (ao (Ih (i:=5) (j:=4) m.xall (rZ (Ik (λ_ _ _=>(FP (aa 2) jr)) (rZ (zE 3 nd (FW SG hr (λ_ _ _=>(ai (aa 0) (ai (aa 1) az)))))) (rZ (zE 3 nd (Ij SM hr (λ_ _ _=>(ai (aa 0) (ai (aa 1) (ai (aa 2) az))))))))) nd)
 (aA (aQ (bQ (aq (aa 3) (aq (aa 4) aL)))))))))
abbrev qV:Xq:=top 50
theorem wR(m:357)(RT:bW P w K mg base 1 1 "_law_kinds" K15.gp)(e:FB K mg "_law_right" qV):bW P w K mg base 2 3 "_law_right" K15.eE:=
 qc K15.qH K15.qv 3 e (λnd _ cdv A outer s H E J T hr=>
 (ao (nF (aa 0) (iJ (cO (aV 3 nd) (cO (aV 4 nd) gQ))))
 (ao (bg (uf hr.units (aa 1) (bM aL)) (aA (aQ (p_ (mW hr.units (aX RT hr (ai (aa 4) az)) (bM (aq aj (aq aj (aq aj aL))))) (nG (mW hr.units (zD m.xf_name (aa 4)) (au (aa 1) aj)))))) a_)
 (ao (bg (uf hr.units (aa 2) (bM aL)) (aA (aQ (p_ (mW hr.units (aX RT hr (ai (aa 4) az)) (bM (aq aj (aq aj (aq aj aL))))) (nG (mW hr.units (zD m.xf_letter (aa 4)) (Ii (ai (aa 2) az) m.min)))))) a_)
 (aA (aQ (p_ (Of (aa 4) jr) (nG (Dq Ho Cf m.bool (aa 3) m.isinstance)))))))))
abbrev nL:Xq:=top 51
theorem Px:cK ["_law_script","_law_number","_law_tongue_here","_law_many","_law_world_here","_law_other","_law_letters_here","_law_saying","_law_places","_law_k","_law_strange_ones","_law_free_here","_law_lacking","_law_letter"] ["_law_script"] (aF nL):=⟨rfl,rfl,rfl,by decide +kernel,rfl,by decide +kernel,by decide +kernel⟩
theorem Pc(m:357)(RH:bW P w K mg base 1 2 "_law_cell" K01.cS)(R3:bW P w K mg base 2 1 "_law_tongue" K01.gE)(Sd:bW P w K mg base 2 4 "_law_world" K01.fS)(RY:bW P w K mg base 1 1 "_law_letters" K12.iz)(R_:bW P w K mg base 2 3 "_law_grown" K12.ic)(RZ:bW P w K mg base 61 2 "_law_strange" (K15.dZ 60))(Sg:bW P w K mg base 61 2 "_law_free" (K15.ff 60))(RM:bW P w K mg base 184 3 "_law_asked" K15.fk)(RN:bW P w K mg base 2 3 "_law_right" K15.eE)(F:fN K "law" "law" nL f fd):dF P w K mg base ia 185 f fd ["_law_script"] (oh K 1 K15.uM):=
 have sc:=Px
 LG (k:=184) (gB:=K15.M_) F sc (λcdv A outer s H E J T hr=>
 (ao (aP 1 sc.nd (bw (d7 (aX RH hr (ai (aa 0) (ai aj az))) aj) aj))
 (ao (aP 2 sc.nd (aX R3 hr (ai (aX RH hr (ai (aa 0) (ai aj az))) az)))
 (ao (aP 3 sc.nd (gO aj (bw (aa 1) aj)))
 (ao (aP 4 sc.nd (aX Sd hr (ai (aa 0) (ai aj (ai (aa 3) (ai (aa 2) az))))))
 (ao (aP 5 sc.nd (au (bM (aq (aa 2) (aq (aa 2) (aq (bQ (aq (au (aa 2) aj) (aq (au (aa 2) aj) aL))) (aq (bQ (aq (gO (au (aa 2) aj) (bQ (aq aZ aL))) (aq (gO (au (aa 2) aj) (bQ (aq aZ aL))) aL))) aL))))) (bw (cQ (aa 1) aj) aj)))
 (ao (aP 6 sc.nd (aX RY hr (ai (bw (aX RH hr (ai (aa 0) (ai aj az))) aj) az)))
 (ao (aP 7 sc.nd (aX R_ hr (ai (iN (aa 0) (fC aj) (fC aj)) (ai (aa 5) (ai (aa 6) az)))))
 (ao (v7 8 sc.nd)
 (ao (dj (cU (ai aj az) m.range) (aV 9 sc.nd) (aA (bg (jn xH (iA λ_ _ _=>.bl _) (bw (cQ (aX RH hr (ai (aa 0) (ai (gO aj (aa 9)) az))) aj) aj) aj) (aA (rY 8 hr.units (bw (aX RH hr (ai (aa 0) (ai (gO aj (aa 9)) az))) (aa 3)) (au (aa 6) (aa 9)))) a_)))
 (ao (aP 10 sc.nd (aX RZ hr (ai (aa 7) (ai (aa 2) az))))
 (ao (aP 11 sc.nd (aX Sg hr (ai (aa 7) (ai (bM aL) az))))
 (ao (Bu 12 sc.nd (kH ["_law_letter"] [8] (eB (aa 11)) (λ_ _ _ _ _ hc=>⟨366,(lM (ug hr.units (aa 0) (aa 1))),(aa 0)⟩)))
 (ao (bg (pZ (mV (aX RN hr (ai (aX RM hr (ai (aa 4) (ai (aa 7) (ai (aa 8) az)))) (ai (aa 10) (ai (aa 12) az)))))) (aA (aQ kU)) a_)
 (ao (bg (pZ (mV (aX RN hr (ai (aX RM hr (ai (aa 4) (ai (aa 7) (ai jr az)))) (ai (aa 10) (ai (aa 11) az)))))) (aA (aQ kU)) a_)
 (ao (Ie 12 (dj (gP (aa 12)) (aV 13 sc.nd) (aA (rY 8 hr.units aj (aa 13)))))
 (aA (aQ (aX RN hr (ai (aX RM hr (ai (aa 4) (ai (aa 7) (ai (aa 8) az)))) (ai (aa 10) (ai (bM aL) az)))))))))))))))))))))) (λas r _ h=>h)
end
end K15
namespace K14
open PySem PySem.Spec PyProof.Rows DL K01 WP K16
open K12 (Sy wit dJ bnd wd bF b7 cL gv bJ iD)
variable{A B L:List Str}{k:Nat}{d:D}{w:Wd}
end K14
namespace K14
open PySem PySem.Spec PyProof.Rows DL K01 WP K16
open K12 (Sy wit dJ bnd own wd bF b7 cL gv bJ iD bx pX zd dM fU ju)
variable{A B L:List Str}{k:Nat}{d:D}{w:Wd}
theorem Cm(xs ys:131)(h:xs.length+ys.length<=10000):gX (.l .own (xs.map .str)) (.l .fresh (ys.map .str))=.ok (.l .fresh ((xs++ys).map .str)):=by unfold gX;show(if(ZX D.str _).length+(ZX D.str _).length<=sizeLine then M.ok (R.l .fresh (ZX D.str _++ZX D.str _))else .bad)=_;rw[if_pos (by rw[V6,UL,UL];omega),<-VB]
end K14
namespace K14
open PySem PySem.Spec PyProof.Rows DL K01 WP K16
open K12 (Sy wit dJ bnd own wd bF b7 cL bJ iD bx mQ cj iU)
variable{A B L:List Str}{k:Nat}{d:D}{w:Wd}
end K14
namespace K03
open PySem DL K01 WP K51 K52 K55 K23
end K03
namespace K16
open PySem DL K01 WP K51 K52 K55 K23
open K12 (Sy wit dJ bnd bF b7 cL gv dM)
variable{A B L:List Str}{k:Nat}{d:D}{w:Wd}{ps:List Nat}
theorem A5:∀(n:Nat){k:Nat}{d:D},Sy A B L k d->∀x∈bF n d,x∈L
 |0,_,_,_,x,hx=>by cases hx
 |n+1,k,d,h,x,hx=>by
  obtain⟨j,rfl⟩:=b7 h;have inner:∀x∈(wit d).flatMap (bF n),x∈L:=λx hx=>by obtain⟨s,hs,hx⟩:=Wh.mp hx;exact A5 n (cL h s hs) x hx
  unfold bF at hx;split at hx
  ·rcases Vk.mp (dM.mp hx)with hx|hx
   ·exact gv h x hx
   ·exact inner x hx
  ·exact inner x ((Wf.mp (dM.mp hx)).1)
theorem Bs{α β:Type}(f:α->β){ss:131}{xs:List α}{s:Str}{v:α}:bL ss (xs.map f) s (f v)=((bL ss xs s v).1,(bL ss xs s v).2.map f):=by
 unfold bL;split
 ·refine afC rfl ?_;show((ss.zip (xs.map f)).map _)=((ss.zip xs).map _).map f;rw[List.zip_map_right,Wc,Wc];refine List.map_congr_left λp _=>?_;show(if p.1=s then f v else f p.2)=f (if p.1=s then v else p.2);split<;>rfl
 ·simp
theorem E4{α β:Type}(f:α->β){x:Str}:∀{ss:131}{xs:List α},cX ss (xs.map f) x=(cX ss xs x).map f
 |[],_=>by unfold cX;rfl
 |_::_,[]=>rfl
 |s::ss,v::xs=>by
  show(if s=x then some (f v)else cX ss (xs.map f) x)=(if s=x then some v else cX ss xs x).map f;split
  ·rfl
  ·exact E4 f
end K16
namespace K16
open PySem DL K01 WP
open K12 (Sy bF cj xR uK bx bJ)
theorem E3{α:Type}{x:Str}{v:α}:∀{ss:131}{xs:List α},cX ss xs x=some v->v∈xs
 |[],_,h=>by unfold cX at h;cases h
 |_::_,[],h=>by unfold cX at h;cases h
 |s::ss,u::xs,h=>by
  have h:(if s=x then some u else cX ss xs x)=some v:=h;split at h
  ·cases h;exact UO
  ·exact UN _ (E3 h)
theorem LC{ss:131}{xs:249}{s:Str}{v m:Nat}(h:∀p∈xs,p<m)(hv:v<m):∀p∈(bL ss xs s v).2,p<m:=by
 unfold bL;split
 ·intro p hp;obtain⟨q,hq,rfl⟩:=Vc.mp hp;split
  ·exact hv
  ·exact h _ (Z3 hq).2
 ·intro p hp;rcases Vk.mp hp with hp|hp
  ·exact h p hp
  ·rw[UM.mp hp];exact hv
theorem zy{ss:131}{xs:249}{s a:Str}{v:Nat}(h:ss.contains a=true):(bL ss xs s v).1.contains a=true:=by
 unfold bL;split
 ·exact h
 ·show(ss++[s]).contains a=true;rw[Wo]at h ⊢;exact VR _ h
theorem Po{m n:Nat}{ss:131}{qs:249}{F:131}(hl:ss.length=qs.length)(hn:ss.length<=n)(hF:∀a∈F,ss.contains a=true)(hm:∀q∈qs,q<m):Pl m (.ob (.txt ss) (qs.map dN)) F (λa=>(cX ss qs a).getD 0) n:=by refine⟨_,ss,qs.map dN,rfl,rfl,rfl,by rw[UL];exact hl,hn,λa ha=>?_⟩;have h1:=hF a ha;rw[<-jZ hl]at h1;obtain⟨q,hq⟩:=VQ.mp h1;rw[E4,hq];exact⟨rfl,hm q (E3 hq)⟩
end K16
namespace K14
open PySem DL K01 WP K16
open K12 (Sy bF cj bx mQ bJ iD b7)
theorem Jd(ns:List Int)(j:Nat)(hj:j<=62):∃cs:List Int,DL.cutD 282 (some 14) (some (j:Int))=cs.map .int/\cs.length<=56:=by obtain⟨cs,e1,e2⟩:=u0 D.int ns (some ((14:Nat):Int)) (some (j:Int));refine⟨cs,e1,?_⟩;rw[e2,HT.mZ,HT.mZ,WI,WY];omega
end K14
namespace K15
open PySem PySem.Spec PyProof.Rows DL K01 WP K16
open K12 (Sy wit dJ bnd own wd bF fq jV b7 cL gv bJ iD kF bx pX dM ju sO oj cj qZ qY kP rS)
variable{A B L P Q:List Str}{k:Nat}{d:D}
def bad(P Q:131)(p:D):Bool:=!(qZ P p&&qY Q p)
def dI(P Q:131)(k:Nat)(d:D):List Str:=((bx k d).filter (bad P Q)).map kP
abbrev cM:G Bool:=(bK (aK (g2 159 158 (gC (.str "mark")))) (aK (g2 (gn true) 293 (g2 aI (af 1) 132))))
abbrev cA:G Bool:=(bK (aK (g2 159 158 (gC (.str "arrow")))) (aK (g2 (gn true) 293 (g2 aI (af 1) 137))))
theorem MP(h:248){tl:Ev}:cM (some (.d d)::some (.d (cj P Q))::tl)=.ok (!(qZ P d)):=by
 cases h with
 | @mark _ n a _ _=>exact kF (a:=true) (b:=!(P.any λw=>w==n)) rfl λ_=>bJ (two (x:=.d (.str n)) (y:=.d (.tup (P.map .str))) rfl rfl (rS true n P rfl))
 |_=>rfl
theorem Kh(h:248){tl:Ev}:cA (some (.d d)::some (.d (cj P Q))::tl)=.ok (!(qY Q d)):=by
 cases h with
 | @arrow _ n a b _ _ _=>exact kF (a:=true) (b:=!(Q.any λw=>w==n)) rfl λ_=>bJ (two (x:=.d (.str n)) (y:=.d (.tup (Q.map .str))) rfl rfl (rS true n Q rfl))
 |_=>rfl
theorem rM(h:248)(q:bad P Q d=true):wit d=[]/\∀tl:Ev,g2 aI (af 0) 137 (some (.d d)::tl)=.ok (.d (.str (kP d))):=by
 cases h with
 |mark _ _=>exact⟨rfl,λ_=>rfl⟩
 |arrow _ _ _=>exact⟨rfl,λ_=>rfl⟩
 |_=>exact absurd q (by show ¬(false=true);decide)
theorem zQ(j:Nat)(d:D):dI P Q (j+1) d=(if bad P Q d=true then [kP d]else [])++(wit d).flatMap (dI P Q j):=by
 unfold dI;show((d::(wit d).flatMap (bx j)).filter (bad P Q)).map kP=_;have e:∀l:List D,((l.flatMap (bx j)).filter (bad P Q)).map kP=l.flatMap λs=>((bx j s).filter (bad P Q)).map kP:=λl=>by
  induction l with
  |nil=>rfl
  |cons s l ih=>rw[VN,aas,VB,ih,VN]
 rw[ZO];split
 ·rw[Vl,e];rfl
 ·rw[e];rfl
theorem Cm(xs ys:131)(h:xs.length+ys.length<=10000):gX (.l .own (xs.map .str)) (.l .fresh (ys.map .str))=.ok (.l .fresh ((xs++ys).map .str)):=K14.Cm xs ys h
theorem BA(k:Nat)(d:D):(dI P Q k d).length<=(bx k d).length:=by unfold dI;rw[UL];exact YA _ _
theorem vD:∀(n:Nat){k:Nat}{d:D},Sy A B L k d->k<=n->(bx k d).length<2000->dZ n [.d d,.d (cj P Q)]=.ok (.l .fresh ((dI P Q k d).map .str))
 |0,k,d,h,hk,_=>by obtain⟨_,e⟩:=b7 h;omega
 |n+1,k,d,h,hk,hN=>by
  obtain⟨j,rfl⟩:=b7 h;have hl:=BA (P:=P) (Q:=Q) (j+1) d;show fin (jI (dZ n) [some (.d d),some (.d (cj P Q)),none,none])=_;have hb:bad P Q d=true->dI P Q (j+1) d=[kP d]:=λq=>by rw[zQ,if_pos q,(rM h q).1];rfl
  have leaf:bad P Q d=true->Wp (aO (cC (ak 293 aE)) [some (.d d),some (.d (cj P Q)),none,none]) (·=.rt (.l .fresh ((dI P Q (j+1) d).map .str))):=λq=>by rw[hb q];exact b_ (dh (aS ((rM h q).2 _) rfl bA) (YC 1 999)) rfl rfl
  refine dc (bU (iH (c:=!(qZ P d)) (MP h) (λq=>?_) λq=>g9 (bU (iH (c:=!(qY Q d)) (Kh h) (λq2=>?_) λq2=>g9 ?_))))
  ·have q':qZ P d=false:=by simpa using q
   obtain⟨_,h1,rfl⟩:=leaf (by unfold bad;rw[q'];rfl);exact⟨_,h1,rfl⟩
  ·have q':qY Q d=false:=by simpa using q2
   obtain⟨_,h1,rfl⟩:=leaf (by unfold bad;rw[q',YQ];rfl);exact⟨_,h1,rfl⟩
  have hg:bad P Q d=false:=by
   have a:qZ P d=true:=by simpa using q
   have b:qY Q d=true:=by simpa using q2
   unfold bad;rw[a,b];rfl
  have es:dI P Q (j+1) d=(wit d).flatMap (dI P Q j):=by rw[zQ,hg,if_neg 120];rfl
  refine cF (r:=.l .fresh []) (x:=.own []) (dh bA (Vb _)) rfl ?_;refine lN (ds:=wit d) ?_ (k_ (λi e=>∃x,e=[some (.d d),some (.d (cj P Q)),some (.own ((((wit d).take i).flatMap (dI P Q j)).map .str)),x]) _ ⟨none,by simp⟩ ?_ ?_)
  ·show(gN _ _ _>>=_)=_;rw[c1 (x:=.d d) (z:=.l .fresh (wit d)) rfl (oj h)];rfl
  ·rintro i hi e ⟨x,rfl⟩;refine⟨[some (.d d),some (.d (cj P Q)),some (.own ((((wit d).take i).flatMap (dI P Q j)).map .str)),some (.d (wit d)[i])],rfl,?_⟩;have hs:=cL h _ (VT hi);have tw:((wit d).flatMap (bx j)).length+1=(bx (j+1) d).length:=rfl;have hp:(bx j (wit d)[i]).length<2000:=by
    have:(bx j (wit d)[i]).length<=((wit d).flatMap (bx j)).length:=by
     obtain⟨l1,l2,e⟩:=acK (VT hi);have:((wit d).flatMap (bx j)).length=(l1.flatMap (bx j)).length+((bx j (wit d)[i]).length+(l2.flatMap (bx j)).length):=by
      conv=>lhs;rw[e]
      rw[WL,VN,UQ,UQ]
     omega
    omega
   have ec:gN (aD 2 (dZ n)) (ah (af 3) 253) [some (.d d),some (.d (cj P Q)),some (.own ((((wit d).take i).flatMap (dI P Q j)).map .str)),some (.d (wit d)[i])]=.ok (.l .fresh ((dI P Q j (wit d)[i]).map .str)):=
    c2 (x:=.d (wit d)[i]) (y:=.d (cj P Q)) (z:=.l .fresh ((dI P Q j (wit d)[i]).map .str)) rfl rfl (vD n hs 112 hp)
   have et:((wit d).take (i+1)).flatMap (dI P Q j)=((wit d).take i).flatMap (dI P Q j)++dI P Q j (wit d)[i]:=by rw[Zp hi,WL];simp
   have hle:(((wit d).take i).flatMap (dI P Q j)).length<=((wit d).flatMap (dI P Q j)).length:=by
    conv=>rhs;rw[<-WM i (wit d)]
    rw[WL,UQ];omega
   have h4:=BA (P:=P) (Q:=Q) j (wit d)[i];rw[es]at hl;exact jv (r:=.l .fresh ((((wit d).take (i+1)).flatMap (dI P Q j)).map .str)) (x:=.own ((((wit d).take (i+1)).flatMap (dI P Q j)).map .str)) (two (x:=.l .own ((((wit d).take i).flatMap (dI P Q j)).map .str)) rfl ec (by rw[et];exact Cm _ _ 112)) rfl ⟨_,rfl,some (.d (wit d)[i]),rfl⟩
  ·rintro e ⟨x,rfl⟩;rw[ZM,<-es];exact b_ (r:=.l .own ((dI P Q (j+1) d).map .str)) rfl rfl rfl
theorem Lh(h:248){u:G O}{b:S}{Z:O->Prop}(z:Wp (u [some (.d d),some b,some (.own ((own d).map .str)),none]) Z):
  Wp (av (aN 2 (cC aE)) (av (aM (bY (aK (g2 159 158 (gC (.str "mark")))) (aK (g2 159 158 (gC (.str "arrow"))))) (aN 2 (gN lD (ah (mG ji (af 0) (lE 162) qC) ay))) bh)
 (av (aM (aK (g2 159 158 (gC (.str "same")))) (aN 2 (gN lD (ah (mG ji (af 0) (lE 137) qC) ay))) bh) u)) [some (.d d),some b,none,none]) Z:=by
 refine cF (r:=.l .fresh []) (x:=.own []) (dh bA (Vb _)) rfl ?_;cases h with
 |mark _ _=>exact bU (fj rfl (jv rfl rfl (br rfl z)))
 |arrow _ _ _=>exact bU (fj rfl (jv rfl rfl (br rfl z)))
 |same _ _=>exact br rfl (bU (fj rfl (jv rfl rfl z)))
 |_=>exact br rfl (br rfl z)
theorem MO(h:248){tl:Ev}:(bY (aK (g2 159 158 (gC (.str "some")))) (bY (aK (g2 159 158 (gC (.str "every")))) (aK (g2 159 158 (gC (.str "least")))))) (some (.d d)::tl)=.ok (!(bnd d).isEmpty):=by cases h<;>rfl
theorem AA:∀(n:Nat){k:Nat}{d:D},Sy A B L k d->k<=n->(bx k d).length<2000->∀b:List Str,b.length+k<=1000->ff n [.d d,.bor (b.map .str)]=.ok (.l .fresh ((fq k d b).map .str))
 |0,k,d,h,hk,_,_,_=>by obtain⟨_,e⟩:=b7 h;omega
 |n+1,k,d,h,hk,hN,b,hb=>by
  obtain⟨j,rfl⟩:=b7 h;have ho:=pX h;have hf:=jV h b;show fin (nj (ff n) [some (.d d),some (.bor (b.map .str)),none,none])=_;refine dc (Lh h (cF (r:=.l .fresh (((own d).filter λx=>!(b.any λw=>w==x)).map .str)) (x:=.own (((own d).filter λx=>!(b.any λw=>w==x)).map .str)) ?_ rfl ?_))
  ·exact Cp (α:=Str) (h:=D.str) _ D.str rfl 112 λx hx=>⟨bJ (two (x:=.d (.str x)) (y:=.l .bor (b.map .str)) rfl rfl (rS true x b rfl)),λ_=>⟨_,rfl,rfl⟩⟩
  have go:∀(bS:S)(bR:R),(∀a c e,af 1 [a,some bS,c,e]=.ok bR)->bH bR=.bor ((b++bnd d).map .str)->
    Wp (av (d8 (iS (gN (aD 1 K12.fF) (ah (af 0) ay))) (aJ 3) (aN 2 (g2 gX (af 2) (gN (aD 2 (ff n)) (ah (af 3) 253))))) (aO (af 2)) [some (.d d),some bS,some (.own (((own d).filter λx=>!(b.any λw=>w==x)).map .str)),none]) λo=>o=.rt (.l .fresh ((fq (j+1) d b).map .str)):=by
   intro bS bR hv ha;refine lN (ds:=wit d) ?_ (k_ (λi e=>∃x,e=[some (.d d),some bS,some (.own 261),x]) _ ⟨none,by simp⟩ ?_ ?_)
   ·show(gN _ _ _>>=_)=_;rw[c1 (x:=.d d) (z:=.l .fresh (wit d)) rfl (oj h)];rfl
   ·rintro i hi e ⟨x,rfl⟩;refine⟨[some (.d d),some bS,some (.own 261),some (.d (wit d)[i])],rfl,?_⟩;have hs:=cL h _ (VT hi);have hbd:(bnd d).length<=1:=by cases h<;>exact UU rfl
    have hp:(bx j (wit d)[i]).length<2000:=by
     have:(bx j (wit d)[i]).length<=((wit d).flatMap (bx j)).length:=by
      obtain⟨l1,l2,e⟩:=acK (VT hi);have:((wit d).flatMap (bx j)).length=(l1.flatMap (bx j)).length+((bx j (wit d)[i]).length+(l2.flatMap (bx j)).length):=by
       conv=>lhs;rw[e]
       rw[WL,VN,UQ,UQ]
      omega
     have e:(bx (j+1) d).length=((wit d).flatMap (bx j)).length+1:=rfl;omega
    have ec:gN (aD 2 (ff n)) (ah (af 3) 253) [some (.d d),some bS,some (.own 261),some (.d (wit d)[i])]=.ok (.l .fresh ((fq j (wit d)[i] (b++bnd d)).map .str)):=
     c2 (x:=.d (wit d)[i]) (y:=bR) (z:=.l .fresh ((fq j (wit d)[i] (b++bnd d)).map .str)) rfl (hv _ _ _) (by rw[ha];exact AA n hs 112 hp (b++bnd d) (by rw[UQ];omega))
    have et:((wit d).take (i+1)).flatMap (λs=>fq j s (b++bnd d))=((wit d).take i).flatMap (λs=>fq j s (b++bnd d))++fq j (wit d)[i] (b++bnd d):=by rw[Zp hi,WL];simp
    refine jv (r:=.l .fresh ((((own d).filter λx=>!(b.any λw=>w==x))++((wit d).take (i+1)).flatMap λs=>fq j s (b++bnd d)).map .str)) (x:=.own ((((own d).filter λx=>!(b.any λw=>w==x))++((wit d).take (i+1)).flatMap λs=>fq j s (b++bnd d)).map .str)) (two (x:=.l .own 261) rfl ec ?_) rfl ⟨_,rfl,some (.d (wit d)[i]),rfl⟩;have hle:(((wit d).take i).flatMap λs=>fq j s (b++bnd d)).length<=((wit d).flatMap λs=>fq j s (b++bnd d)).length:=by
     conv=>rhs;rw[<-WM i (wit d)]
     rw[WL,UQ];omega
    have h4:=jV hs (b++bnd d);have h5:(fq (j+1) d b).length=((own d).filter λx=>!(b.any λw=>w==x)).length+((wit d).flatMap λs=>fq j s (b++bnd d)).length:=UQ;unfold gX;show(if(ZX D.str _).length+(ZX D.str _).length<=sizeLine then M.ok (R.l .fresh (ZX D.str _++ZX D.str _))else .bad)=_;rw[if_pos (by rw[V6,UL,UL,UQ];omega),<-VB,Zx,et]
   ·rintro e ⟨x,rfl⟩;rw[ZM];exact b_ (r:=.l .own ((fq (j+1) d b).map .str)) rfl rfl rfl
  refine bU (iH (c:=!(bnd d).isEmpty) (MO h) (λq=>?_) λq=>g9 ?_)
  ·obtain⟨a,e1,e2,e3⟩:=sO h (by simpa using q) (tl:=[some (.bor (b.map .str)),some (.own (((own d).filter λx=>!(b.any λw=>w==x)).map .str)),none]);refine jv (r:=.l .fresh ((b++bnd d).map .str)) (x:=.own ((b++bnd d).map .str)) (two (x:=.l .bor (b.map .str)) (y:=.l .fresh [.str a]) rfl (dh (aS e3 rfl bA) (YC 1 999)) ?_) rfl (go (.own ((b++bnd d).map .str)) (.l .own ((b++bnd d).map .str)) (λ_ _ _=>rfl) rfl);unfold gX;show(if(b.map D.str).length+1<=sizeLine then M.ok (R.l .fresh (b.map D.str++[.str a]))else .bad)=_;rw[if_pos (by rw[V6,UL];omega),e1,VB];rfl
  ·have e:bnd d=[]:=by
    have q:(bnd d).isEmpty=true:=by simpa using q
    simpa using q
   exact go (.bor (b.map .str)) (.l .bor (b.map .str)) (λ_ _ _=>rfl) (by rw[e,V7];rfl)
end K15
namespace K15
open PySem PySem.Spec PyProof.Rows DL K01 WP K16
open K12 (Sy wit bF b7 bJ bx j4 cj qZ qY kP uL rD)
variable{A B L P Q:List Str}{k:Nat}{d:D}{w:Wd}
section
variable{t u:G O}{g:G R}{env e:Ev}{x:Exc}{tg:GT}{gi:G (List D)}{ds:List D}
theorem JQ(h:t env=.exc x):av t u env=.exc x:=by show(t env>>=_)=_;rw[h];rfl
theorem uJ(h:t env=.ok (.nx e))(k:u e=.exc x):av t u env=.exc x:=by show(t env>>=_)=_;rw[h];exact k
theorem JR{i:Nat}(h:g env=.exc x):aN i g env=.exc x:=by show(g env>>=_)=_;rw[h];rfl
theorem uy{i:Nat}{r:R}{s:S}(h:g env=.ok r)(h2:toS r=.ok s):aN i g env=.ok (.nx (env.set i (some s))):=(jv (Q:=(·=.nx (env.set i (some s)))) h h2 rfl).eq
theorem zF{c f:Str}{gs:244}{v:D}(h:gs env=.ok [v]):kN c f gs env=.exc ⟨c,[f],[v]⟩:=by show(gs env>>=_)=_;rw[h];rfl
theorem z_(I:Ev->Prop):∀(pre:List D){a:D}{post:List D},(∀d∈pre,∀env,I env->∃e1 e2,tg d env=.ok e1/\u e1=.ok (.nx e2)/\I e2)->(∀env,I env->∃e1,tg a env=.ok e1/\u e1=.exc x)->∀env,I env->dR tg u (pre++a::post) env=.exc x
 |[],a,post,_,h,env,hi=>by obtain⟨e1,h1,h2⟩:=h env hi;show(tg a env>>=_)=_;rw[h1];show(u e1>>=_)=_;rw[h2];rfl
 |d::pre,a,post,hp,h,env,hi=>by obtain⟨e1,e2,h1,h2,h3⟩:=hp d UO env hi;show(tg d env>>=_)=_;rw[h1];show(u e1>>=_)=_;rw[h2];exact z_ I pre (λd hd=>hp d (UN _ hd)) h e2 h3
theorem JP(h:gi env=.ok ds)(k:dR tg u ds env=.exc x):d8 gi tg u env=.exc x:=by show(gi env>>=_)=_;rw[h];exact k
theorem rR{α:Type}{p:α->Bool}:∀{l:List α}{a:α}{t:List α},l.filter p=a::t->∃pre post,l=pre++a::post/\(∀y∈pre,p y=false)/\p a=true
 |[],_,_,h=>by cases h
 |y::l,a,t,h=>by
  rw[ZO]at h;cases q:p y with
  |true=>rw[q,if_pos rfl]at h;cases h;exact⟨[],l,rfl,λ_ z=>absurd z VA,q⟩
  |false=>
   rw[q,if_neg 120]at h;obtain⟨pre,post,e,h1,h2⟩:=rR h;refine⟨y::pre,post,by rw[e];rfl,λz hz=>?_,h2⟩;rcases UR.mp hz with rfl|hz
   ·exact q
   ·exact h1 z hz
end
theorem any_true{x:Str}{l:131}(h:(!((l.any λw=>w==x)&&true))=false):x∈l:=(K12.pN x l).mp (by simpa using h)
theorem Pz:∀{k:Nat}{d:D},Sy A B L k d->(∀p∈bx k d,bad P Q p=false)->Sy P Q L k d:=by
 intro k d h;have up:∀{k:Nat}{d s:D},s∈wit d->(∀p∈bx (k+1) d,bad P Q p=false)->∀p∈bx k s,bad P Q p=false:=fun {k d s} hs hb p hp=>hb p (UN _ (Wh.mpr ⟨s,hs,hp⟩))
 induction h with
 |mark _ ha=>exact λhb=>.mark (any_true (hb _ UO)) ha
 | @arrow _ n _ _ _ ha hc=>exact λhb=>.arrow (any_true (by have:=hb _ UO;rw[aeV];exact this)) ha hc
 |same ha hc=>exact λ_=>.same ha hc
 |not _ ih=>exact λhb=>.not (ih (up UO hb))
 | @and k ss _ hl ih=>exact λhb=>.and (λs hs=>ih s hs (up (d:=.tup [.str "and",.tup ss]) hs hb)) hl
 | @or k ss _ hl ih=>exact λhb=>.or (λs hs=>ih s hs (up (d:=.tup [.str "or",.tup ss]) hs hb)) hl
 |some ha _ ih=>exact λhb=>.some ha (ih (up UO hb))
 |every ha _ ih=>exact λhb=>.every ha (ih (up UO hb))
 |least hi ha _ ih=>exact λhb=>.least hi ha (ih (up UO hb))
abbrev hU:G O:=(av (d8 (iS (fh "Part" "free" (af 5))) (aJ 6) (aM (aK (g2 (oH true) (af 6) (af 2))) (kN "NoLetter" "letter" (ak (af 6) aE)) bh))
 (aO (gN (aD 3 (K16.dW 60)) (ah (af 0) (ah (af 5) 276)))))
abbrev Jq:G O:=(d8 (iS (gN (aD 1 K12.iK) 253)) (aJ 4) (aM (bD (aK (gN (aD 2 K12.gV) (ah (af 4) (ah (af 3) ay))))) (kN "NoName" "name" (ak (g2 aI (af 4) 137) aE)) bh))
abbrev hM:G O:=(aN 5 (A7 2 (λenv=>K16.gS ((K16.HB 0) env) 60) (ah (af 1) (ah (bN aE) ay))))
abbrev hB:G O:=(av (aN 3 (gN (aD 1 K16.gW) (ah (af 0) ay))) (av Jq (av hM hU)))
abbrev tW(w:Wd):D:=cj (w.ms.map VO) (w.ar.map VO)
theorem OB(h:248){a b c:Option S}{tl:Ev}:bD (aK (gN (aD 2 K12.gV) (ah (af 4) (ah (af 3) ay)))) (a::b::c::some (.d (cj P Q))::some (.d d)::tl)=.ok (bad P Q d):=by show(aK _ _>>=_)=_;rw[bJ (c2 (x:=.d d) (y:=.d (cj P Q)) (z:=.d (.bl (qZ P d&&qY Q d))) rfl rfl (rD h P Q))];rfl
theorem Uy(h:248)(hN:(bx k d).length<2000){a:Option S}{tl:Ev}:iS (gN (aD 1 K12.iK) 253) (a::some (.d d)::tl)=.ok (bx k d):=by show(gN _ _ _>>=_)=_;rw[c1 (x:=.d d) (z:=.l .fresh (bx k d)) rfl (uL h hN)];rfl
theorem OU(h:248)(hN:(bx k d).length<2000){n:Str}{t:131}(hs:dI P Q k d=n::t)(a c e f:Option S):Jq [a,some (.d d),c,some (.d (cj P Q)),none,e,f]=.exc ⟨"NoName",["name"],[.str n]⟩:=by
 unfold dI at hs;cases q:(bx k d).filter (bad P Q)with
 |nil=>rw[q]at hs;cases hs
 |cons p r=>
  rw[q]at hs;obtain⟨rfl,_⟩:=aeU hs;obtain⟨pre,post,ep,h1,h2⟩:=rR q;refine JP (Uy h hN) ?_;rw[ep];have mem:∀y∈pre,Sy A B L k y:=λy hy=>j4 h y (by rw[ep];exact VR _ hy);have hp:=j4 h p (by rw[ep];exact VJ _ UO);refine z_ (λenv=>∃x,env=[a,some (.d d),c,some (.d (cj P Q)),x,e,f]) pre (λy hy env ⟨x,hx⟩=>?_) (λenv ⟨x,hx⟩=>?_) _ ⟨none,rfl⟩
  ·subst hx;exact⟨_,_,rfl,(rV (Q:=(·=.nx [a,some (.d d),c,some (.d (cj P Q)),some (.d y),e,f])) ((OB (mem y hy)).trans (congrArg M.ok (h1 y hy))) (g9 rfl)).eq,_,rfl⟩
  ·subst hx;refine⟨_,rfl,?_⟩;show aM _ _ _ [a,some (.d d),c,some (.d (cj P Q)),some (.d p),e,f]=_;rw[gY ((OB hp).trans (congrArg M.ok h2))];exact zF (aS (show g2 aI (af 4) 137 [a,some (.d d),c,some (.d (cj P Q)),some (.d p),e,f]=_ from(rM hp h2).2 []) rfl bA)
theorem K_(h:248)(hN:(bx k d).length<2000)(hs:dI P Q k d=[])(a c e f:Option S):∃x,Jq [a,some (.d d),c,some (.d (cj P Q)),none,e,f]=.ok (.nx [a,some (.d d),c,some (.d (cj P Q)),x,e,f]):=by
 have hb:∀p∈bx k d,bad P Q p=false:=λp hp=>by have:(bx k d).filter (bad P Q)=[]:=acj.mp hs;have:=Yr.mp this p hp;simpa using this
 have key:Wp (Jq [a,some (.d d),c,some (.d (cj P Q)),none,e,f]) (λo=>∃x,o=.nx [a,some (.d d),c,some (.d (cj P Q)),x,e,f]):=CP (Uy h hN) (k_ (λ_ env=>∃x:Option S,env=[a,some (.d d),c,some (.d (cj P Q)),x,e,f]) _ ⟨none,rfl⟩ (λi hi env ⟨x,hx⟩=>by
  subst hx;exact⟨_,rfl,rV ((OB (j4 h _ (VT hi))).trans (congrArg M.ok (hb _ (VT hi)))) (g9 ⟨_,rfl,_,rfl⟩)⟩) λenv ⟨x,hx⟩=>⟨x,by rw[hx]⟩)
 obtain⟨_,h1,x,rfl⟩:=key;exact⟨x,h1⟩
def iV(k:Nat)(d:D)(ss:131):List Str:=(bF k d).filter λa=>!ss.contains a
theorem DP(hL:∀x∈L,isLet x=true)(m1:1<=w.m)(hm:w.m<=8)(hms:w.ms.length<=100)(har:w.ar.length<=100)(h:248)(Sm:k<=60)(hN:(bx k d).length<2000){sl:S}{rs:R}{ss:131}{qs:249}
  (h1:sl.rd=.ok rs) (h2:bH rs=.ob (.txt ss) (qs.map dN)) (h3:yh rs=some (ss,qs.map dN)) (hl:ss.length=qs.length) (hn:ss.length<=300) (hq:∀q∈qs,q<w.m):
  (∀n t,dI (w.ms.map VO) (w.ar.map VO) k d=n::t->hB [some 365,some (.d d),some sl,none,none,none,none]=.exc ⟨"NoName",["name"],[.str n]⟩)/\
  (dI (w.ms.map VO) (w.ar.map VO) k d=[]->(∀a t,iV k d ss=a::t->hB [some 365,some (.d d),some sl,none,none,none,none]=.exc ⟨"NoLetter",["letter"],[.str a]⟩)/\(iV k d ss=[]->∃v,hB [some 365,some (.d d),some sl,none,none,none,none]=.ok (.rt (.d (.bl v))))):=by
 have st:aN 3 (gN (aD 1 K16.gW) (ah (af 0) ay)) [some 365,some (.d d),some sl,none,none,none,none]=.ok (.nx [some 365,some (.d d),some sl,some (.d (tW w)),none,none,none]):=uy (r:=.d (tW w)) (s:=.d (tW w)) (c1 (x:=.d w.d) (z:=.d (tW w)) rfl (rE w hms har)) rfl;refine⟨λn t hs=>uJ st (JQ (OU h hN hs _ _ _ _)),λhs=>?_⟩;obtain⟨x,hx⟩:=K_ h hN hs (some 365) (some sl) none none;have hy:Sy (w.ms.map VO) (w.ar.map VO) L k d:=Pz h λp hp=>by have:=Yr.mp (acj.mp hs) p hp;simpa using this
 have hp:hM [some 365,some (.d d),some sl,some (.d (tW w)),x,none,none]=.ok (.nx [some 365,some (.d d),some sl,some (.d (tW w)),x,some 383,none]):=by refine uy (r:=.o .fresh (.ins "Part" i8) (iw w k d)) (s:=.oo (.ins "Part" i8) (iw w k d)) (Jx (rs:=[.d d,.d (.tup [])]) rfl rfl ?_) rfl;show gS (mu (OR w.d)) 60 [.d d,.d (.tup [])]=_;rw[PZ];exact DO hL hm 60 hy Sm Sm
 have it:iS (fh "Part" "free" (af 5)) [some 365,some (.d d),some sl,some (.d (tW w)),x,some 383,none]=.ok ((bF k d).map .str):=by obtain⟨j,rfl⟩:=b7 h;rfl
 have ck:∀(a:Str)(tl:Ev),aK (g2 (oH true) (af 6) (af 2)) [some 365,some (.d d),some sl,some (.d (tW w)),x,some 383,some (.d (.str a))]=.ok (!ss.contains a):=λa tl=>by refine bJ (WP.two (x:=.d (.str a)) (y:=rs) rfl (e_ rfl h1) ?_);unfold oH;rw[h3];show M.ok (R.d (.bl (!(cX ss (qs.map dN) a).isSome)))=_;rw[jZ (by rw[UL];exact hl)]
 refine⟨λa t hk=>uJ st (uJ hx (uJ hp (JQ (JP it ?_)))),λhk=>?_⟩
 ·obtain⟨pre,post,ep,p1,p2⟩:=rR hk;rw[ep,VB,Vl];refine z_ (λenv=>∃y,env=[some 365,some (.d d),some sl,some (.d (tW w)),x,some 383,y]) _ (λy hy env ⟨z,hz⟩=>?_) (λenv ⟨z,hz⟩=>?_) _ ⟨none,rfl⟩
  ·subst hz;obtain⟨b,hb,rfl⟩:=Vc.mp hy;exact⟨_,_,rfl,(rV (Q:=(·=.nx [some 365,some (.d d),some sl,some (.d (tW w)),x,some 383,some (.d (.str b))])) ((ck b []).trans (congrArg M.ok (p1 b hb))) (g9 rfl)).eq,_,rfl⟩
  ·subst hz;refine⟨_,rfl,?_⟩;show aM _ _ _ [some 365,some (.d d),some sl,some (.d (tW w)),x,some 383,some (.d (.str a))]=_;rw[gY ((ck a []).trans (congrArg M.ok p2))];exact zF (aS rfl rfl bA)
 have has:∀a∈bF k d,ss.contains a=true:=λa ha=>by have:=Yr.mp hk a ha;simpa using this
 have pl:=Po hl hn has hq;refine⟨sem w k d (λa=>(cX ss qs a).getD 0),?_⟩;have key:Wp (hB [some 365,some (.d d),some sl,none,none,none,none]) (·=.rt (.d (.bl (sem w k d (λa=>(cX ss qs a).getD 0))))):=by
  refine bU ⟨_,st,bU ⟨_,hx,bU ⟨_,hp,lN it (k_ (λ_ env=>∃y:Option S,env=[some 365,some (.d d),some sl,some (.d (tW w)),x,some 383,y]) _ ⟨none,rfl⟩ ?_ ?_)⟩⟩⟩
  ·rintro i hi _ ⟨y,rfl⟩;have hi':i<(bF k d).length:=by simpa using hi
   rw[abd];exact⟨_,rfl,rV ((ck _ []).trans (congrArg M.ok (by rw[has _ (VT hi')];rfl))) (g9 ⟨_,rfl,_,rfl⟩)⟩
  rintro _ ⟨y,rfl⟩;exact b_ (c3 (x:=.d w.d) (y:=.o .own (.ins "Part" i8) (iw w k d)) (w:=rs) (z:=.d (.bl (sem w k d (λa=>(cX ss qs a).getD 0)))) rfl rfl (e_ rfl h1) (by rw[h2];exact Mv (λ_ h=>h) (λ_ h=>h) m1 hm 60 k hy Sm Sm _ _ _ 300 112 ⟨_,rfl,rfl,rfl⟩ pl)) rfl rfl
 exact key.eq
end K15
namespace K15
open PySem PySem.Spec PyProof.Rows DL K01 WP K16
open K12 (Sy wit bF fq jV b7 bJ bx cj pV Bh dM uK xR)
open K14 (Jd)
variable{A B L:List Str}{k:Nat}{d:D}{w:Wd}
theorem le_refl(x:Str):gK x x=true:=by
 have:=vV x x
 rwa [Bool.or_self]at this
theorem oZ:∀(r:131)(y:Str),h_ y r∈y::r/\∀b∈y::r,gK (h_ y r) b=true
 |[],y=>⟨UO,λb hb=>by rw[UM.mp hb];exact le_refl y⟩
 |c::r,y=>by
  show h_ (if c.cps.toList<y.cps.toList then c else y) r∈_/\∀b∈y::c::r,gK (h_ (if c.cps.toList<y.cps.toList then c else y) r) b=true;by_cases q:c.cps.toList<y.cps.toList
  ·rw[if_pos q];obtain⟨h1,h2⟩:=oZ r c;refine⟨UN _ h1,λb hb=>?_⟩;rcases UR.mp hb with rfl|hb
   ·exact lG _ _ _ (h2 c UO) (decide_eq_true (List.le_of_lt q))
   ·exact h2 b hb
  ·rw[if_neg q];obtain⟨h1,h2⟩:=oZ r y;refine⟨?_,λb hb=>?_⟩
   ·rcases UR.mp h1 with h|h
    ·rw[h];exact UO
    ·exact UN _ (UN _ h)
   ·rcases UR.mp hb with rfl|hb
    ·exact h2 b UO
    ·rcases UR.mp hb with rfl|hb
     ·exact lG _ _ _ (h2 y UO) (decide_eq_true (List.not_lt.mp q))
     ·exact h2 b (UN _ hb)
theorem mF:∀{k:Nat},Sy A B L k d->(bF k d).Pairwise λx y=>gK x y=true:=fun {k} h=>by obtain⟨j,rfl⟩:=b7 h;unfold bF;split<;>exact k9 _
theorem Hr(h:248){ss:131}{a:Str}{t Lk:131}(hk:iV k d ss=a::t)(hm:∀x,x∈Lk↔x∈iV k d ss):∃y r,Lk=y::r/\h_ y r=a:=by
 cases Lk with
 |nil=>exact absurd ((hm a).mpr (by rw[hk];exact UO)) VA
 |cons y r=>
  refine⟨y,r,rfl,?_⟩;obtain⟨h1,h2⟩:=oZ r y;have up:(a::t).Pairwise λx y=>gK x y=true:=by rw[<-hk];exact(mF h).filter _
  have m1:=(hm _).mp h1;rw[hk]at m1;have ha:=h2 a ((hm a).mpr (by rw[hk];exact UO));rcases UR.mp m1 with e|e
  ·exact e
  ·exact y_ ha ((Zj.mp up).1 _ e)
theorem PY{g:G O}{env:Ev}{i j:Nat}{T:131}{x:Exc}(h:g env=.exc x)(hc:T.contains x.cls=true):oO i j T g env=.ok (.nx ((env.set j (some (.d (.exn x.cls x.ns x.ds)))).set i none)):=by unfold oO;rw[h];exact if_pos hc
theorem PX{g:G O}{env:Ev}{i j:Nat}{T:131}{o:O}(h:g env=.ok o):oO i j T g env=.ok o:=by unfold oO;rw[h]
noncomputable def Comes(w:Wd)(k:Nat)(d:D)(ss:131)(m:M R):Prop:=
 (∀n t,dI (w.ms.map VO) (w.ar.map VO) k d=n::t->m=.exc ⟨"NoName",["name"],[.str n]⟩)/\
 (dI (w.ms.map VO) (w.ar.map VO) k d=[]->(∀a t,iV k d ss=a::t->m=.exc ⟨"NoLetter",["letter"],[.str a]⟩)/\(iV k d ss=[]->∃v,m=.ok (.d (.bl v))))
theorem yD{ss:131}{m:M O}(h:(∀n t,dI (w.ms.map VO) (w.ar.map VO) k d=n::t->m=.exc ⟨"NoName",["name"],[.str n]⟩)/\
  (dI (w.ms.map VO) (w.ar.map VO) k d=[]->(∀a t,iV k d ss=a::t->m=.exc ⟨"NoLetter",["letter"],[.str a]⟩)/\(iV k d ss=[]->∃v,m=.ok (.rt (.d (.bl v)))))):Comes w k d ss (fin m):=
 ⟨λn t q=>by rw[h.1 n t q];rfl,λq=>⟨λa t z=>by rw[(h.2 q).1 a t z];rfl,λz=>by obtain⟨v,e⟩:=(h.2 q).2 z;exact⟨v,by rw[e];rfl⟩⟩⟩
section
variable(hL:∀x∈L,isLet x=true)(m1:1<=w.m)(hm:w.m<=8)(hms:w.ms.length<=100)(har:w.ar.length<=100)(h:Sy A B L k d)(Sm:k<=60)(hN:(bx k d).length<2000)
include hL m1 hm hms har h Sm hN
theorem xS{ss:131}{qs:249}(hl:ss.length=qs.length)(hn:ss.length<=300)(hq:∀q∈qs,q<w.m):Comes w k d ss (dD [.d w.d,.d d,.ob (.txt ss) (qs.map dN)]):=by
 have e:mJ (aG xX [.d w.d,.d d,.ob (.txt ss) (qs.map dN)])=hB [some 365,some (.d d),some (.ob (.txt ss) (qs.map dN)),none,none,none,none]:=by show av (aM _ _ _) _ _=_;unfold av;rw[iu (bJ (WP.two (x:=.o .bor (.txt ss) (qs.map dN)) (y:=.d .non) rfl rfl rfl))];rfl
 show Comes w k d ss (fin (mJ _));rw[e];exact yD (DP hL m1 hm hms har h Sm hN (rs:=.o .bor (.txt ss) (qs.map dN)) rfl rfl rfl hl hn hq)
theorem Ms:Comes w k d [] (dD [.d w.d,.d d,.d .non]):=by
 have e:mJ (aG xX [.d w.d,.d d,.d .non])=hB [some 365,some (.d d),some (.oo (.txt []) (([]:List Nat).map dN)),none,none,none,none]:=by show av (aM _ _ _) _ _=_;unfold av;rw[gY (bJ (WP.two (x:=.d .non) (y:=.d .non) rfl rfl rfl))];rfl
 show Comes w k d [] (fin (mJ _));rw[e];exact yD (DP hL m1 hm hms har h Sm hN (qs:=[]) (rs:=.o .own (.txt []) []) rfl rfl rfl rfl (Vb _) (λ_ z=>absurd z VA))
end
theorem Ny(ns:131)(ds:List D):gp [.d (.exn "NoName" ns ds)]=.ok (.l .fresh [.int 4,.int 10,.int 11]):=by rfl
theorem Nz(ns:131)(ds:List D):gp [.d (.exn "NoLetter" ns ds)]=.ok (.l .fresh [.int 5,.int 10,.int 11]):=by rfl
theorem ne_nil(m:Md)(l:131):bB true (.l m (l.map .str)) (.l .fresh [])=.ok (.d (.bl (!l.isEmpty))):=by unfold bB;rw[if_pos ⟨by show deps (l.map .str)+1<=60;rw[K12.yG];decide,by show 0+1<=60;decide⟩];cases l<;>rfl
theorem Ge(x:Str):bB false (.d (.str x)) (.d (.str x))=.ok (.d (.bl true)):=by rw[O0 false (.d (.str x)) (.d (.str x)) (Vb _) (Vb _)];show M.ok (R.d (.bl (cV (.str x) (.str x))))=_;rw[m_]
theorem DR(n:Str)(t:131)(s:S):eE [.d (.tup [.non,.exn "NoName" ["name"] [.str n]]),.bor ((n::t).map .str),s]=.ok (.d (.bl true)):=by refine dc (uq rfl rfl rfl (bU (fj (bJ (two (x:=.l .bor ((n::t).map .str)) (y:=.l .fresh []) rfl (dh bA (Vb _)) (ne_nil _ _))) (b_ (xw (p:=true) (q:=true) (two (x:=.l .fresh [.int 4,.int 10,.int 11]) (y:=.l .fresh [.int 4,.int 10,.int 11]) (c1 (x:=.d (.exn "NoName" ["name"] [.str n])) (z:=.l .fresh [.int 4,.int 10,.int 11]) rfl (Ny _ _)) rfl rfl) (two (x:=.d (.str n)) (y:=.d (.str n)) rfl (two (x:=.l .bor ((n::t).map .str)) (y:=.d (.int 0)) rfl rfl (pS (k:=0) rfl)) (Ge n))) rfl rfl))))
theorem DQ(a y:Str)(r:131)(e:h_ y r=a):eE [.d (.tup [.non,.exn "NoLetter" ["letter"] [.str a]]),.bor [],.bor ((y::r).map .str)]=.ok (.d (.bl true)):=by
 have em:gN xA 276 [some (.d (.tup [.non,.exn "NoLetter" ["letter"] [.str a]])),some (.bor []),some (.bor ((y::r).map .str)),some (.d .non),some (.d (.exn "NoLetter" ["letter"] [.str a]))]=.ok (.d (.str a)):=by
  refine n1 (x:=.l .bor ((y::r).map .str)) rfl ?_;show(match strsOf ((y::r).map .str)with
   |some (n::ns)=>M.ok (R.d (.str (h_ n ns)))
   |_=>.bad)=_
  rw[K12.strs_map];show M.ok (R.d (.str (h_ y r)))=_;rw[e]
 refine dc (uq rfl rfl rfl (br 363 (bU (fj (bJ (two (x:=.l .bor ((y::r).map .str)) (y:=.l .fresh []) rfl (dh bA (Vb _)) (ne_nil _ _))) (b_ (xw (p:=true) (q:=true) (two (x:=.l .fresh [.int 5,.int 10,.int 11]) (y:=.l .fresh [.int 5,.int 10,.int 11]) (c1 (x:=.d (.exn "NoLetter" ["letter"] [.str a])) (z:=.l .fresh [.int 5,.int 10,.int 11]) rfl (Nz _ _)) rfl rfl) (two (x:=.d (.str a)) (y:=.d (.str a)) rfl em (Ge a))) rfl rfl)))))
theorem is_bool(v:Bool)(env:Ev)(h:af 3 env=.ok (.d (.bl v))):cP "bool" (af 3) env=.ok (.d (.bl true)):=by show(af 3 env>>=_)=_;rw[h];rfl
theorem DS(v:Bool):eE [.d (.tup [.bl v,.non]),.bor [],.bor []]=.ok (.d (.bl true)):=dc (uq rfl rfl rfl (br 363 (br 363 (b_ (xw (p:=true) (q:=true) (two (x:=.d .non) (y:=.d .non) rfl rfl rfl) (by exact is_bool v _ rfl)) rfl rfl))))
theorem JS{s:S}{m:M R}(hs:s=.d .non/\m=dD [.d w.d,.d d,.d .non]\/(∃ss xs,s=.ob (.txt ss) xs)/\m=dD [.d w.d,.d d,s]):
  (∀x,m=.exc x->XL.contains x.cls=true->fk [.d w.d,.d d,s]=.ok (.d (.tup [.non,.exn x.cls x.ns x.ds])))/\∀v,m=.ok (.d (.bl v))->fk [.d w.d,.d d,s]=.ok (.d (.tup [.bl v,.non])):=by
 have call:∀g:G O,g=(aM (aK (g2 (vM false) (af 2) (gC .non))) (aN 3 (gN (gI 2 (λas=>K15.dD (as++[.d .non]))) (ah (af 0) 253))) (aN 3 (gN (gI 3 K15.dD) (ah (af 0) (ah (af 1) 276)))))->
   (∀x,m=.exc x->g [some 365,some (.d d),some s,some (.d .non),some (.d .non),none]=.exc x)/\∀v,m=.ok (.d (.bl v))->g [some 365,some (.d d),some s,some (.d .non),some (.d .non),none]=.ok (.nx [some 365,some (.d d),some s,some (.d (.bl v)),some (.d .non),none]):=by
  rintro g rfl;rcases hs with⟨rfl,rfl⟩|⟨⟨ss,xs,rfl⟩,rfl⟩
  ·rw[gY (bJ (WP.two (x:=.d .non) (y:=.d .non) rfl rfl rfl))];have e:gN (gI 2 (λas=>K15.dD (as++[.d .non]))) (ah (af 0) 253) [some 365,some (.d d),some (.d .non),some (.d .non),some (.d .non),none]=(match dD [.d w.d,.d d,.d .non]with | .ok r=>M.ok (cu r) | .exc x=>.exc x | .bad=>.bad):=rfl;exact⟨λx q=>JR (by rw[e,q]),λv q=>uy (r:=.d (.bl v)) (s:=.d (.bl v)) (by rw[e,q];rfl) rfl⟩
  ·rw[iu (bJ (WP.two (x:=.o .bor (.txt ss) xs) (y:=.d .non) rfl rfl rfl))];have e:gN (gI 3 K15.dD) (ah (af 0) (ah (af 1) 276)) [some 365,some (.d d),some (.ob (.txt ss) xs),some (.d .non),some (.d .non),none]=(match dD [.d w.d,.d d,.ob (.txt ss) xs]with | .ok r=>M.ok (cu r) | .exc x=>.exc x | .bad=>.bad):=rfl;exact⟨λx q=>JR (by rw[e,q]),λv q=>uy (r:=.d (.bl v)) (s:=.d (.bl v)) (by rw[e,q];rfl) rfl⟩
 obtain⟨c1,c2⟩:=call _ rfl;exact⟨λx q hc=>dc (cF rfl rfl (cF rfl rfl (bU ⟨_,PY (c1 x q) hc,b_ (di 237 (UU rfl)) rfl rfl⟩))),λv q=>dc (cF rfl rfl (cF rfl rfl (bU ⟨_,PX (c2 v q),b_ (di 237 (UU rfl)) rfl rfl⟩)))⟩
theorem BN(h:248){ss:131}{s:S}{m:M R}(hc:Comes w k d ss m)(hs:s=.d .non/\m=dD [.d w.d,.d d,.d .non]\/(∃ss xs,s=.ob (.txt ss) xs)/\m=dD [.d w.d,.d d,s]){Lk:131}(hm:∀x,x∈Lk↔x∈iV k d ss):
  ∃t,fk [.d w.d,.d d,s]=.ok (.d t)/\eE [.d t,.bor ((dI (w.ms.map VO) (w.ar.map VO) k d).map .str),.bor (Lk.map .str)]=.ok (.d (.bl true)):=by
 obtain⟨a1,a2⟩:=JS (w:=w) (d:=d) hs;cases q:dI (w.ms.map VO) (w.ar.map VO) k d with
 |cons n t=>exact⟨_,a1 _ (hc.1 n t q) rfl,DR n t _⟩
 |nil=>
  cases z:iV k d ss with
  |cons a t=>
   obtain⟨y,r,rfl,e⟩:=Hr h z hm;exact⟨_,a1 _ ((hc.2 q).1 a t z) rfl,DQ a y r e⟩
  |nil=>
   obtain⟨v,e⟩:=(hc.2 q).2 z;have:Lk=[]:=by
    cases Lk with
    |nil=>rfl
    |cons y r=>have:=(hm y).mp UO;rw[z]at this;cases this
   subst this;exact⟨_,a2 v e,DS v⟩
structure Pk(m:Nat)(ss:131)(qs:249):Prop where
 len:ss.length=qs.length
 nd:ss.Nodup
 ab:∀a∈ss,isLet a=true
 lt:∀q∈qs,q<m
theorem Pk.few{m:Nat}{ss:131}{qs:249}(h:Pk m ss qs):ss.length<=26:=vf h.nd h.ab
theorem Pk.put{m:Nat}{ss:131}{qs:249}(h:Pk m ss qs){a:Str}{p:Nat}(ha:isLet a=true)(hp:p<m):Pk m (bL ss qs a p).1 (bL ss qs a p).2:=by
 refine⟨pY h.len,?_,?_,LC h.lt hp⟩
 ·unfold bL;split
  ·exact h.nd
  ·rename_i q;refine ade.mpr ⟨h.nd,WD.mpr ⟨VA,XR⟩,λx hx y hy=>?_⟩;rw[UM.mp hy];rintro rfl;exact q (Wo.mpr hx)
 ·unfold bL;split
  ·exact h.ab
  ·intro x hx;rcases Vk.mp hx with hx|hx
   ·exact h.ab x hx
   ·rw[UM.mp hx];exact ha
theorem DE(xs ys:List D)(h:xs.length+ys.length<=1000):fJ (.d 333) (.d (.tup ys))=.ok (.d (.tup (xs++ys))):=K51.DE xs ys h
theorem D9{g:G R}{env:Ev}{X:131}(h:g env=.ok (.d (.tup (X.map .str))))(hl:X.length<=100):g2 fJ g (bN (ak (gC (.str "zz")) aE)) env=.ok (.d (.tup ((X++[("zz":Str)]).map .str))):=by refine(two (x:=.d (.tup (X.map .str))) (y:=.d (.tup [.str "zz"])) h (di (aS rfl rfl bA) (YC 1 999)) (DE _ _ (by rw[UL];show X.length+1<=1000;omega))).trans ?_;rw[VB];rfl
theorem K5(ns:List Int)(hl:ns.length<=63):uM [.bor 282]=.ok (.d (.bl true)):=by
 obtain⟨A,B,hT,tA,tB⟩:=K01.rE (dz ns 1);obtain⟨L,T5,h4,hL⟩:=xR (dz ns 8%26);have hA:A.length<=100:=by have:=tA.1;omega
 have hB:B.length<=100:=by have:=tB.1;omega
 have cel:∀(k:Nat)(tl:Ev),gN (aD 2 K01.cS) (ah (af 0) (ah (gC (.int k)) ay)) (some (.bor 282)::tl)=.ok (.d (.int (dz ns k))):=λk tl=>c2 (x:=.l .bor (ns.map .int)) (y:=.d (.int k)) (z:=.d (.int (dz ns k))) rfl rfl (xP ns k);refine dc (cF (r:=.d (.int (dz ns 0*433%100003))) (WP.two (WP.two (cel 0 _) rfl (j_ _ 433 120 120)) rfl (bP _ 100003 120)) rfl ?_);generalize dz ns 0*433%100003=nb;refine cF (r:=.d (cj A B)) (x:=.d (cj A B)) (c1 (x:=.d (.int (dz ns 1))) (z:=.d (cj A B)) (cel 1 _) hT) rfl ?_;obtain⟨m,hm⟩:∃m:Nat,1+nb%4=m:=⟨(1+nb%4).toNat,by omega⟩;refine cF (r:=.d (.int m)) (by rw[<-hm];exact WP.two rfl (WP.two rfl rfl (bP _ 4 120)) (show fJ (.d (.int 1)) (.d (.int (nb%4)))=_ from d_ _ _)) rfl ?_;have m1:1<=m:=by omega
 have m8:m<=8:=by omega
 obtain⟨ms,rs,hw,fa,fb,pa,pb⟩:=Mx ns 2 m m8 A B tA tB;have hw:K01.fS [.bor 282,.d (.int 2),.d (.int m),.d (cj A B)]=.ok (.d (Wd.d ⟨m,ms,rs⟩)):=hw;have lm:(Wd.mk m ms rs).ms.length<=100:=by rw[<-fa,UL]at hA;exact hA
 have lr:(Wd.mk m ms rs).ar.length<=100:=by rw[<-fb,UL]at hB;exact hB
 have wm:(Wd.mk m ms rs).m=m:=rfl;have fa:(Wd.mk m ms rs).ms.map VO=A:=fa;have fb:(Wd.mk m ms rs).ar.map VO=B:=fb;generalize Wd.mk m ms rs=w at *;subst wm;refine cF (r:=.d w.d) (c4 (x:=.l .bor (ns.map .int)) (y:=.d (.int 2)) (w:=.d (.int w.m)) (v:=.d (cj A B)) (z:=.d w.d) rfl rfl rfl rfl hw) rfl ?_;have ot:∃A' B':List Str,A'.length<=1000/\B'.length<=1000/\g2 aI (cC 161) (g2 bV (g2 dG (af 1) 351) 351) [some (.bor 282),some (.d (.int nb)),some (.d (cj A B)),some (.d (.int w.m)),some 365,none,none,none,none,none,none,none,none,none]=.ok (.d (cj A' B')):=by
  have t2:∀xs:List D,xs.length<=2->xs.length<=1000:=λ_ h=>Vr h 120;have el:cC 161 [some (.bor 282),some (.d (.int nb)),some (.d (cj A B)),some (.d (.int w.m)),some 365,none,none,none,none,none,none,none,none,none]=.ok (.l .fresh ([(A,B),(A,B),(B,A),(A++[("zz":Str)],B++[("zz":Str)])].map λp=>cj p.1 p.2)):=by refine dh (aS rfl rfl (aS rfl rfl (aS (di 237 (UU rfl)) rfl (aS (di (aS (D9 (X:=A) rfl hA) rfl (aS (D9 (X:=B) rfl hB) rfl bA)) (UU rfl)) rfl bA)))) (UU rfl)
  obtain⟨p,hp,e⟩:=oW (.l .fresh ([(A,B),(A,B),(B,A),(A++[("zz":Str)],B++[("zz":Str)])].map λp:List Str×List Str=>cj p.1 p.2)) rfl (nb/4%4) 112 (by show _<(4:Int);omega);refine⟨p.1,p.2,?_,?_,WP.two el (WP.two (WP.two rfl rfl (c_ _ 4 120 120)) rfl (bP _ 4 120)) e⟩
  all_goals
   simp only[UR,VA,or_false]at hp;rcases hp with rfl|rfl|rfl|rfl<;>simp<;>omega
 obtain⟨A',B',lA,lB,eo⟩:=ot;refine cF (r:=.d (cj A' B')) eo rfl ?_;refine cF (r:=.l .fresh 382) (x:=.own 382) (c1 (x:=.d (.int (dz ns 8%26))) (z:=.l .fresh 382) (WP.two (cel 8 _) rfl (bP _ 26 120)) T5) rfl ?_;obtain⟨c0,e0,l0⟩:=Jd ns 62 120;obtain⟨q,hG,eok,q57⟩:=uK (A:=A') (B:=B') (L:=L) l0 h4 lA lB;refine cF (r:=.d q.2.1) (c3 (x:=.l .fresh (c0.map .int)) (y:=.d (cj A' B')) (w:=.l .own 382) (z:=.d q.2.1) (by show M.ok (R.l .fresh (DL.cutD (ns.map .int) (some 14) (some 62)))=_;exact congrArg (λz=>M.ok (R.l .fresh z)) e0) rfl rfl hG) rfl ?_;have hy:=eok.sy;have hN:(bx q.1 q.2.1).length<2000:=by have:=eok.len;omega
 generalize q.2.1=d at hy hN;have k60:q.1<=60:=by omega
 generalize q.1=k at hy hN k60;refine bU ⟨_,rfl,?_⟩;refine lN (Ip (n:=4) rfl 120) (P4 (λ_ env=>∃(ss:131)(qs:249)(x:Option S),env=[some (.bor 282),some (.d (.int nb)),some (.d (cj A B)),some (.d (.int w.m)),some 365,some (.d (cj A' B')),some (.own 382),some (.d d),some (.oo (.txt ss) (qs.map dN)),x,none,none,none,none]/\Pk w.m ss qs) ⟨[],[],none,rfl,rfl,XR,λ_ h=>absurd h VA,λ_ h=>absurd h VA⟩ ?_ ?_)
 ·rintro i hi _ ⟨ss,qs,x,rfl,pk⟩;have hiL:i<L.length:=by omega
  obtain⟨p,hp⟩:∃p:Nat,dz ns (9+i)%w.m=p:=⟨(dz ns (9+i)%w.m).toNat,by have:=WU (dz ns (9+i)) (b:=(w.m:Int)) 112;omega⟩;have S5:p<w.m:=by have:=Xe (dz ns (9+i)) (b:=(w.m:Int)) 112;omega
  have ce:∀(tl:List (Option S)),gN (aD 2 K01.cS) (ah (af 0) (ah (g2 fJ (gC (.int 9)) (af 9)) ay)) (some (.bor 282)::some (.d (.int nb))::some (.d (cj A B))::some (.d (.int w.m))::some 365::some (.d (cj A' B'))::some (.own 382)::some (.d d)::some (.oo (.txt ss) (qs.map dN))::some (.d (.int i))::tl)=.ok (.d (.int (dz ns (9+i)))):=λtl=>by refine c2 (x:=.l .bor (ns.map .int)) (y:=.d (.int ((9+i:Nat):Int))) (z:=.d (.int (dz ns (9+i)))) rfl ?_ (xP ns (9+i));show M.ok (R.d (.int (9+(i:Int))))=_;congr 3
  refine⟨_,rfl,iH (c:=decide (0<dz ns (9+i)/16%4)) (bJ (WP.two (x:=.d (.int (dz ns (9+i)/16%4))) (y:=.d (.int 0)) (WP.two (WP.two (ce _) rfl (c_ _ 16 120 120)) rfl (bP _ 4 120)) rfl rfl)) (λ_=>?_) λ_=>g9 ⟨_,rfl,ss,qs,_,rfl,pk⟩⟩;have e1:=Bs dN (ss:=ss) (xs:=qs) (s:=L[i]) (v:=p);refine CQ (r:=.d (dN p)) (d:=dN p) (a:=L[i]) rfl (WP.two (x:=.d (.int (dz ns (9+i)))) (y:=.d (.int w.m)) (ce _) rfl ((bP _ _ 112).trans (by rw[hp]))) rfl (WP.two (x:=.l .own 382) (y:=.d (.int i)) rfl rfl (pS (k:=i) (by simp[hiL]))) (by have:=pk.few;omega) ⟨_,rfl,(bL ss qs L[i] p).1,(bL ss qs L[i] p).2,some (.d (.int i)),?_,pk.put (hL _ (VT hiL)) S5⟩;rw[e1];rfl
 rintro _ ⟨ss,qs,x,rfl,pk⟩;refine cF (r:=.l .fresh ((dI A B k d).map .str)) (x:=.own ((dI A B k d).map .str)) (c2 (x:=.d d) (y:=.d (cj A B)) (z:=.l .fresh ((dI A B k d).map .str)) rfl rfl (vD 60 hy k60 hN)) rfl ?_;refine cF (r:=.l .fresh ((fq k d []).map .str)) (x:=.own ((fq k d []).map .str)) (c2 (x:=.d d) (y:=.l .fresh []) (z:=.l .fresh ((fq k d []).map .str)) rfl (dh bA (Vb _)) (AA 60 hy k60 hN [] (by show 0+k<=1000;omega))) rfl ?_;have lf:=jV hy [];have mf:∀x,x∈fq k d []↔x∈bF k d:=λx=>(pV hy [] x).trans ⟨And.left,λz=>⟨z,VA⟩⟩;obtain⟨Lk,S8⟩:∃Lk,Lk=(fq k d []).filter λa=>!ss.contains a:=⟨_,rfl⟩;refine cF (r:=.l .fresh (Lk.map .str)) (x:=.own (Lk.map .str)) ?_ rfl ?_
 ·rw[S8];refine Cp (α:=Str) (h:=D.str) (λa=>!ss.contains a) D.str rfl 112 λa ha=>⟨bJ (WP.two (x:=.d (.str a)) (y:=.o .own (.txt ss) (qs.map dN)) rfl rfl ?_),λ_=>⟨_,rfl,rfl⟩⟩;show M.ok (R.d (.bl (!(cX ss (qs.map dN) a).isSome)))=_;rw[jZ (by rw[UL];exact pk.len)]
 have mk:∀x,x∈Lk↔x∈iV k d ss:=λx=>by rw[S8];unfold iV;rw[Wf,Wf,mf]
 have P1:=xS hL m1 m8 lm lr hy k60 hN pk.len (by have:=pk.few;omega) pk.lt;have P2:=Ms hL m1 m8 lm lr hy k60 hN;obtain⟨t1,ta1,tr1⟩:=BN hy P1 (.inr ⟨⟨_,_,rfl⟩,rfl⟩) mk;obtain⟨t2,ta2,tr2⟩:=BN (Lk:=fq k d []) hy P2 (.inl ⟨rfl,rfl⟩) (λx=>(mf x).trans (by unfold iV;simp));rw[fa,fb]at tr1 tr2;have nt:∀{g:G R}{env:Ev},g env=.ok (.d (.bl true))->bD (aK g) env=.ok false:=fun {g env} hg=>by show(aK g env>>=_)=_;rw[bJ hg];rfl
 refine br (nt (c3 (x:=.d t1) (y:=.l .own ((dI A B k d).map .str)) (w:=.l .own (Lk.map .str)) (z:=.d (.bl true)) (c3 (x:=.d w.d) (y:=.d d) (w:=.o .own (.txt ss) (qs.map dN)) (z:=.d t1) rfl rfl rfl ta1) rfl rfl tr1)) ?_;refine br (nt (c3 (x:=.d t2) (y:=.l .own ((dI A B k d).map .str)) (w:=.l .own ((fq k d []).map .str)) (z:=.d (.bl true)) (c3 (x:=.d w.d) (y:=.d d) (w:=.d .non) (z:=.d t2) rfl rfl rfl ta2) rfl rfl tr2)) ?_;have letk:∀a∈Lk,isLet a=true:=λa ha=>hL a (A5 k hy a ((mf a).mp (by rw[S8]at ha;exact(Wf.mp ha).1)));refine bU (P0 rfl (CP rfl (k_ (λi env=>∃(ss':131)(qs':249)(y:Option S),env=[some (.bor 282),some (.d (.int nb)),some (.d (cj A B)),some (.d (.int w.m)),some 365,some (.d (cj A' B')),some (.own 382),some (.d d),some (.oo (.txt ss') (qs'.map dN)),x,some (.own ((dI A B k d).map .str)),some (.own ((fq k d []).map .str)),some (.d (.lst (Lk.map .str))),y]/\Pk w.m ss' qs'/\(∀a,ss.contains a=true->ss'.contains a=true)/\∀(j:Nat)(hj:j<Lk.length),j<i->ss'.contains Lk[j]=true) (Lk.map .str) ⟨ss,qs,none,rfl,pk,λ_ z=>z,λ_ _ z=>absurd z (Xb _)⟩ ?_ ?_)))
 ·rintro i hi _ ⟨ss',qs',y,rfl,pk',s1,s2⟩;have hi':i<Lk.length:=by simpa using hi
  rw[abd];have e1:=Bs dN (ss:=ss') (xs:=qs') (s:=Lk[i]) (v:=0);refine⟨_,rfl,CQ (r:=.d (dN 0)) (d:=dN 0) (a:=Lk[i]) rfl rfl rfl rfl (by have:=pk'.few;omega) ⟨_,rfl,(bL ss' qs' Lk[i] 0).1,(bL ss' qs' Lk[i] 0).2,some (.d (.str Lk[i])),?_,pk'.put (letk _ (VT hi')) 112,λa ha=>zy (s1 a ha),λj hj hji=>?_⟩⟩
  ·rw[e1];rfl
  ·by_cases e:j=i
   ·subst e;exact Bq
   ·exact zy (s2 j hj 112)
 rintro _ ⟨ss',qs',y,rfl,pk',s1,s2⟩;have P3:=xS hL m1 m8 lm lr hy k60 hN pk'.len (by have:=pk'.few;omega) pk'.lt;have nol:iV k d ss'=[]:=Yr.mpr λa ha=>by
  by_cases c:ss.contains a=true
  ·rw[s1 a c];decide
  ·have:a∈Lk:=by rw[S8];exact Wf.mpr ⟨(mf a).mpr ha,by simpa using c⟩
   obtain⟨j,hj,rfl⟩:=XX.mp this;rw[s2 j hj (by simpa using hj)];decide
 obtain⟨t3,ta3,tr3⟩:=BN (Lk:=[]) hy P3 (.inr ⟨⟨_,_,rfl⟩,rfl⟩) (λx=>by rw[nol]);rw[fa,fb]at tr3;exact b_ (c3 (x:=.d t3) (y:=.l .own ((dI A B k d).map .str)) (w:=.l .fresh []) (z:=.d (.bl true)) (c3 (x:=.d w.d) (y:=.d d) (w:=.o .own (.txt ss') (qs'.map dN)) (z:=.d t3) rfl rfl rfl ta3) rfl (dh bA (Vb _)) tr3) rfl rfl
end K15
namespace K15
open PySem PySem.Spec PyProof.Rows L2 DL DX
theorem all_mk{l:abB}{w:Vj}{K:UG}{h:VU}{mg:145}{fa:UX}(X:K.In h)(G:h.Ns UT mg)(Ud:mg "law"=some (.ref fa))
  {f14 f32:UX}{o14 n14 o32 n32:259}{s14 s32:286}{u14 v14 d14 p14 q14 r14 u32 v32 d32 p32 q32 r32:UH}
  {f9 C9c:UX}{o9 n9:259}{s9:286}{u9 v9 d9 p9 q9 r9:UH}
  {T14:UX}{oT14:UH}{dT14:259}{nT14:Nat}{sT14:286}
  {f1c:UX}{sl1c:286}{n1c:Nat}{t2:Tok}{t3:Tok}{t4:Tok}
  {fINNER_PLACES:UX}{epINNER_PLACES:Nat}{ktINNER_PLACES0:Tok}{ktINNER_PLACES1:Tok}{ktINNER_PLACES2:Tok}{ktINNER_PLACES3:Tok}{t5:Tok}{t6:Tok}{t7:Tok}{t8:Tok}
  {fLETTER_PLACES:UX}{epLETTER_PLACES:Nat}{ktLETTER_PLACES0:Tok}{ktLETTER_PLACES1:Tok}{ktLETTER_PLACES2:Tok}{ktLETTER_PLACES3:Tok}{ktLETTER_PLACES4:Tok}{ktLETTER_PLACES5:Tok}{ktLETTER_PLACES6:Tok}{ktLETTER_PLACES7:Tok}{ktLETTER_PLACES8:Tok}{f9c:UX}{sl9c:286}{n9c:Nat}{t10:Tok}{f11c:UX}{sl11c:286}{n11c:Nat}{t12:Tok}{t13:Tok}{f14c:UX}{sl14c:286}{n14c:Nat}{t15:Tok}{t16:Tok}{f17c:UX}{sl17c:286}{n17c:Nat}{f18c:UX}{sl18c:286}{n18c:Nat}{f19c:UX}{sl19c:286}{n19c:Nat}{f20c:UX}{sl20c:286}{n20c:Nat}{t21:Tok}{f22c:UX}{sl22c:286}{n22c:Nat}{t23:Tok}{f24c:UX}{sl24c:286}{n24c:Nat}{t25:Tok}
  {t26:Tok}
  {i9:UX}
  {BJ:UX}
  {xc1:UX}
  {xc2:UX}
  {xc3:UX}
  {xc4 xn4:UX}{nm4x q4x:Str}{bs4x:List UH}{sn4x:131}{su4x:List UH}{ab4x:Bool}{co4x:Option Bool}{dd4x:259}{ka4x kb4x kc4x kd4x ke4x:Option UH}
  {xc5 xn5:UX}{nm5x q5x:Str}{bs5x:List UH}{sn5x:131}{su5x:List UH}{ab5x:Bool}{co5x:Option Bool}{dd5x:259}{ka5x kb5x kc5x kd5x ke5x:Option UH}
  {xc6:UX}
  {xc7:UX}
  {xc8:UX}
  {xc9:UX}
  {cn5x:UH}{dn5x:259}{es5x:Array Z0}{ep5x:Nat}{sl5x:286}
  {xf5:UX}{od5x an5x:259}{fs5x:286}{oc5x kV5x dc5x pm5x cd5x ct5x:UH}
  {cn4x:UH}{dn4x:259}{es4x:Array Z0}{ep4x:Nat}{sl4x:286}
  {xf4:UX}{od4x an4x:259}{fs4x:286}{oc4x kV4x dc4x pm4x cd4x ct4x:UH}
  {mcP:UH}
  (e0:FA K "tongue_of" uE)
  (e1:FA K "by_name" zI)
  (e2:FA K "bears" F4)
  (e3:FA K "leads" F8)
  (e4:FA K "letters_at" qX)
  (e5:FA K "within" BE)
  (e6:FA K "parts_of" wg)
  (e7:FA K "free_from" uz)
  (e8:FA K "is_spoken" uA)
  (ja9:U1 K UT "Part"=some (some (.ref C9c)))
  (ji9:U7 K (.ref C9c) "__init__"=some (some (.ref f9)))
  (jl9:K.lookup f9=some ⟨u9,o9,.func (Vm "__init__" "Part.__init__" (bX qe) (bu qe) (aF qe) .none v9 d9 p9 n9 q9 r9),s9⟩)
  (jc9:WR K q9 "Part.__init__"=true)
  (jk9:Vu K (.ref f9)=true)
  (jm9:abx K C9c=true)
  (jf9:aeY K (.ref f9)=true)
  (jp9:Vu K (.ref C9c)=true)
  (jik9:ou K C9c)
  (jn_found:U7 K (.ref C9c) "found"=some none)
  (jn_free:U7 K (.ref C9c) "free"=some none)
  (jn_inner:U7 K (.ref C9c) "inner"=some none)
  (jn_kept:U7 K (.ref C9c) "kept"=some none)
  (jn_saying:U7 K (.ref C9c) "saying"=some none)
  (jn_table:U7 K (.ref C9c) "table"=some none)
  (e10:FA K "enough" qh)
  (e11:FA K "any_part_is" iW)
  (e12:FA K "reckoned" lO)
  (e13:FA K "part_holds" l_)
  (a14:U1 K UT "holds"=some (some (.ref f14)))
  (l14:K.lookup f14=some ⟨u14,o14,.func (Vm "holds" "holds" (bX jF) (bu jF) (aF jF) (.ref T14) v14 d14 p14 n14 q14 r14),s14⟩)
  (c14:WR K q14 "holds"=true)
  (k14:Vu K (.ref f14)=true)
  (lT14:K.lookup T14=some ⟨oT14,dT14,.seq #[.none] nT14,sT14⟩)
  (e15:FA K "_law_cell" ur)
  (e16:FA K "_law_names" qS)
  (e17:FA K "_law_some" uv)
  (e18:FA K "_law_pairs" qU)
  (e19:FA K "_law_tongue" pF)
  (e20:FA K "_law_world" qW)
  (e21:FA K "_law_letters" n8)
  (e22:FA K "_law_leaf" uu)
  (e23:FA K "_law_wrapped" n_)
  (e24:FA K "_law_joined" pD)
  (e25:FA K "_law_grown" qQ)
  (e26:FA K "_law_kinds" qR)
  (e27:FA K "_law_within" pG)
  (e28:FA K "_law_strange" jJ)
  (e29:FA K "_law_free" nK)
  (e30:FA K "_law_asked" qP)
  (e31:FA K "_law_right" qV)
  (a32:U1 K UT "law"=some (some (.ref f32)))
  (l32:K.lookup f32=some ⟨u32,o32,.func (Vm "law" "law" (bX nL) (bu nL) (aF nL) .none v32 d32 p32 n32 q32 r32),s32⟩)
  (c32:WR K q32 "law"=true)
  (k32:Vu K (.ref f32)=true)
  (z0:U1 K UT "ValueError"=some none)
  (z1:U1 K UT "bool"=some none)
  (z2:U1 K UT "dict"=some none)
  (z3:U1 K UT "isinstance"=some none)
  (z4:U1 K UT "len"=some none)
  (z5:U1 K UT "list"=some none)
  (z6:U1 K UT "max"=some none)
  (z7:U1 K UT "min"=some none)
  (z8:U1 K UT "range"=some none)
  (z9:U1 K UT "set"=some none)
  (z10:U1 K UT "sorted"=some none)
  (z11:U1 K UT "tuple"=some none)
  (gBINDERS:U1 K UT "BINDERS"=some (some (.ref f1c)))
  (lc1:K.lookup f1c=some ⟨.type "tuple",none,.seq #[(.str "some" t2),(.str "every" t3),(.str "least" t4)] n1c,sl1c⟩)
  (gINNER_PLACES:U1 K UT "INNER_PLACES"=some (some (.ref fINNER_PLACES)))
  (lINNER_PLACES:K.lookup fINNER_PLACES=some {cls:=.type "dict",data:=.dict #[⟨Wb w.params "not",.str "not" ktINNER_PLACES0,(.int 1 t5)⟩,⟨Wb w.params "some",.str "some" ktINNER_PLACES1,(.int 2 t6)⟩,⟨Wb w.params "every",.str "every" ktINNER_PLACES2,(.int 2 t7)⟩,⟨Wb w.params "least",.str "least" ktINNER_PLACES3,(.int 3 t8)⟩] epINNER_PLACES})
  (gLETTER_PLACES:U1 K UT "LETTER_PLACES"=some (some (.ref fLETTER_PLACES)))
  (lLETTER_PLACES:K.lookup fLETTER_PLACES=some {cls:=.type "dict",data:=.dict #[⟨Wb w.params "mark",.str "mark" ktLETTER_PLACES0,(.ref f9c)⟩,⟨Wb w.params "arrow",.str "arrow" ktLETTER_PLACES1,(.ref f11c)⟩,⟨Wb w.params "same",.str "same" ktLETTER_PLACES2,(.ref f14c)⟩,⟨Wb w.params "not",.str "not" ktLETTER_PLACES3,(.ref f17c)⟩,⟨Wb w.params "and",.str "and" ktLETTER_PLACES4,(.ref f18c)⟩,⟨Wb w.params "or",.str "or" ktLETTER_PLACES5,(.ref f19c)⟩,⟨Wb w.params "some",.str "some" ktLETTER_PLACES6,(.ref f20c)⟩,⟨Wb w.params "every",.str "every" ktLETTER_PLACES7,(.ref f22c)⟩,⟨Wb w.params "least",.str "least" ktLETTER_PLACES8,(.ref f24c)⟩] epLETTER_PLACES})
  (lc9:K.lookup f9c=some ⟨.type "tuple",none,.seq #[(.int 2 t10)] n9c,sl9c⟩)
  (lc11:K.lookup f11c=some ⟨.type "tuple",none,.seq #[(.int 2 t12),(.int 3 t13)] n11c,sl11c⟩)
  (lc14:K.lookup f14c=some ⟨.type "tuple",none,.seq #[(.int 1 t15),(.int 2 t16)] n14c,sl14c⟩)
  (lc17:K.lookup f17c=some ⟨.type "tuple",none,.seq #[] n17c,sl17c⟩)
  (lc18:K.lookup f18c=some ⟨.type "tuple",none,.seq #[] n18c,sl18c⟩)
  (lc19:K.lookup f19c=some ⟨.type "tuple",none,.seq #[] n19c,sl19c⟩)
  (lc20:K.lookup f20c=some ⟨.type "tuple",none,.seq #[(.int 1 t21)] n20c,sl20c⟩)
  (lc22:K.lookup f22c=some ⟨.type "tuple",none,.seq #[(.int 1 t23)] n22c,sl22c⟩)
  (lc24:K.lookup f24c=some ⟨.type "tuple",none,.seq #[(.int 2 t25)] n24c,sl24c⟩)
  (gMOST_KEPT_LETTERS:U1 K UT "MOST_KEPT_LETTERS"=some (some (.int 3 t26)))
  (xaP:U1 K UT "PickError"=some (some (.ref i9)))
  (GX0:GX K i9)
  (xa0:U1 K UT "NoWorld"=some (some (.ref BJ)))
  (xe0:XE K i9 BJ)
  (xa1:U1 K UT "NoTongue"=some (some (.ref xc1)))
  (xe1:XE K i9 xc1)
  (xa2:U1 K UT "NoSaying"=some (some (.ref xc2)))
  (xe2:XE K i9 xc2)
  (xa3:U1 K UT "NoMore"=some (some (.ref xc3)))
  (xe3:XE K i9 xc3)
  (xa4:U1 K UT "NoName"=some (some (.ref xc4)))
  (xl4:K.lookup xc4=some (VP nm4x q4x xc4 xn4 bs4x (.ref i9::i6) true sn4x su4x ab4x co4x dd4x ka4x kb4x kc4x kd4x ke4x "ValueError.__new__"))
  (xg4:U7 K (.ref xc4) "__getattribute__"=some 287)
  (xh4:U7 K (.ref xc4) "__getattr__"=some none)
  (xk4:U7 K (.ref xc4) "__class__"=some (some 179))
  (xa5:U1 K UT "NoLetter"=some (some (.ref xc5)))
  (xl5:K.lookup xc5=some (VP nm5x q5x xc5 xn5 bs5x (.ref i9::i6) true sn5x su5x ab5x co5x dd5x ka5x kb5x kc5x kd5x ke5x "ValueError.__new__"))
  (xg5:U7 K (.ref xc5) "__getattribute__"=some 287)
  (xh5:U7 K (.ref xc5) "__getattr__"=some none)
  (xk5:U7 K (.ref xc5) "__class__"=some (some 179))
  (xa6:U1 K UT "TooMany"=some (some (.ref xc6)))
  (xe6:XE K i9 xc6)
  (xa7:U1 K UT "NoCount"=some (some (.ref xc7)))
  (xe7:XE K i9 xc7)
  (xa8:U1 K UT "NoPoint"=some (some (.ref xc8)))
  (xe8:XE K i9 xc8)
  (xa9:U1 K UT "NoRow"=some (some (.ref xc9)))
  (xe9:XE K i9 xc9)
  (xfletter:U7 K (.ref xc5) "letter"=some none)
  (xfname:U7 K (.ref xc4) "name"=some none)
  (xp5:Vu K (.ref xc5)=true)
  (xm5:K.lookup xn5=some ⟨cn5x,dn5x,.dict es5x ep5x,sl5x⟩)
  (xs5:zS es5x=true)
  (xi5:aaD es5x "__init__"=some (.ref xf5))
  (xj5:aaD es5x "__setattr__"=none)
  (xo5:aaD es5x "letter"=none)
  (xu5:K.lookup xf5=some ⟨oc5x,od5x,.func (Vm "__init__" "NoLetter.__init__" (bX (topC 7 0)) (bu (topC 7 0)) (aF (topC 7 0)) .none kV5x dc5x pm5x an5x cd5x ct5x),fs5x⟩)
  (xv5:WR K cd5x "NoLetter.__init__"=true)
  (xw5:Vu K (.ref xf5)=true)
  (xz5:oc5x=.type "function")
  (xp4:Vu K (.ref xc4)=true)
  (xm4:K.lookup xn4=some ⟨cn4x,dn4x,.dict es4x ep4x,sl4x⟩)
  (xs4:zS es4x=true)
  (xi4:aaD es4x "__init__"=some (.ref xf4))
  (xj4:aaD es4x "__setattr__"=none)
  (xo4:aaD es4x "name"=none)
  (xu4:K.lookup xf4=some ⟨oc4x,od4x,.func (Vm "__init__" "NoName.__init__" (bX (topC 6 0)) (bu (topC 6 0)) (aF (topC 6 0)) .none kV4x dc4x pm4x an4x cd4x ct4x),fs4x⟩)
  (xv4:WR K cd4x "NoName.__init__"=true)
  (xw4:Vu K (.ref xf4)=true)
  (xz4:oc4x=.type "function")
  (xyP:WQ K (.ref i9) "__getattribute__"=some (some (.builtin "type.__getattribute__")))
  (xbP:YO K (.ref i9)=some mcP)
  (xrP:aaf K i9 mcP=true)
  (xeP:aag K (.ref i9) mcP "__init__"=some (.val (.builtin "ValueError.__init__")))
  (dINNER_PLACES:(fINNER_PLACES==V5)=false)
  (dLETTER_PLACES:(fLETTER_PLACES==V5)=false)
  (xd:(i9::([("NoWorld",BJ),("NoTongue",xc1),("NoSaying",xc2),("NoMore",xc3),("NoName",xc4),("NoLetter",xc5),("TooMany",xc6),("NoCount",xc7),("NoPoint",xc8),("NoRow",xc9)]:List (Str×UX)).map (λp:Str×UX=>p.2)).Nodup):
  ∃fd:Vp,(∀(s:UI)(v:UH),adP s fd ⟨[v],[]⟩ [("_law_script",v)])/\∀base:VU,K.In base->base.Ns UT mg->dF l.prog w K mg base ia 185 fa fd ["_law_script"] (oh K 1 K15.uM):=by
 have e:=Ud.symm.trans (Vo X G a32);cases e;have F9:=oJ (st:=qe) jl9 jc9 jk9;obtain⟨f10,d10,a10,F10⟩:=e10;obtain⟨f11,d11,a11,F11⟩:=e11;obtain⟨f12,d12,a12,F12⟩:=e12;obtain⟨f13,d13,a13,F13⟩:=e13;have F14:=KA (st:=jF) l14 c14 k14 lT14;obtain⟨f28,d28,a28,F28⟩:=e28;obtain⟨f29,d29,a29,F29⟩:=e29;have F32:=oJ (st:=nL) l32 c32 k32;have m:eS w K mg:=⟨VY X G z0,
   VY X G z1,
   VY X G z2,
   VY X G z3,
   VY X G z4,
   VY X G z5,
   VY X G z6,
   VY X G z7,
   VY X G z8,
   VY X G z9,
   VY X G z10,
   VY X G z11,
   ⟨_,(.ref f1c),Vo X G gBINDERS,rfl,λ_=>(.tup (vs:=[(L2.V.str "some"),(L2.V.str "every"),(L2.V.str "least")]) (.inr ⟨_,_,n1c,lc1,rfl,rfl,rfl,(by show 3<=sizeLine;decide),.cons ⟨_,rfl⟩ (.cons ⟨_,rfl⟩ (.cons ⟨_,rfl⟩ (.nil)))⟩) (.cons (.str _) (.cons (.str _) (.cons (.str _) (.nil)))))⟩,
   yx [("not",ktINNER_PLACES0,(.int 1 t5)),("some",ktINNER_PLACES1,(.int 2 t6)),("every",ktINNER_PLACES2,(.int 2 t7)),("least",ktINNER_PLACES3,(.int 3 t8))] X G gINNER_PLACES lINNER_PLACES (show(["not","some","every","least"]:List Str).Nodup by decide +kernel) dINNER_PLACES (.cons (v:=(.int 1)) ⟨_,rfl⟩ (λ_=>(.int _)) (.cons (v:=(.int 2)) ⟨_,rfl⟩ (λ_=>(.int _)) (.cons (v:=(.int 2)) ⟨_,rfl⟩ (λ_=>(.int _)) (.cons (v:=(.int 3)) ⟨_,rfl⟩ (λ_=>(.int _)) (.nil))))),
   yx [("mark",ktLETTER_PLACES0,(.ref f9c)),("arrow",ktLETTER_PLACES1,(.ref f11c)),("same",ktLETTER_PLACES2,(.ref f14c)),("not",ktLETTER_PLACES3,(.ref f17c)),("and",ktLETTER_PLACES4,(.ref f18c)),("or",ktLETTER_PLACES5,(.ref f19c)),("some",ktLETTER_PLACES6,(.ref f20c)),("every",ktLETTER_PLACES7,(.ref f22c)),("least",ktLETTER_PLACES8,(.ref f24c))] X G gLETTER_PLACES lLETTER_PLACES (show(["mark","arrow","same","not","and","or","some","every","least"]:List Str).Nodup by decide +kernel) dLETTER_PLACES (.cons (v:=(.ref f9c)) rfl (λ_=>(.tup (vs:=[(L2.V.int 2)]) (.inr ⟨_,_,n9c,lc9,rfl,rfl,rfl,(by show 1<=sizeLine;decide),.cons ⟨_,rfl⟩ (.nil)⟩) (.cons (.int _) (.nil)))) (.cons (v:=(.ref f11c)) rfl (λ_=>(.tup (vs:=[(L2.V.int 2),(L2.V.int 3)]) (.inr ⟨_,_,n11c,lc11,rfl,rfl,rfl,(by show 2<=sizeLine;decide),.cons ⟨_,rfl⟩ (.cons ⟨_,rfl⟩ (.nil))⟩) (.cons (.int _) (.cons (.int _) (.nil))))) (.cons (v:=(.ref f14c)) rfl (λ_=>(.tup (vs:=[(L2.V.int 1),(L2.V.int 2)]) (.inr ⟨_,_,n14c,lc14,rfl,rfl,rfl,(by show 2<=sizeLine;decide),.cons ⟨_,rfl⟩ (.cons ⟨_,rfl⟩ (.nil))⟩) (.cons (.int _) (.cons (.int _) (.nil))))) (.cons (v:=(.ref f17c)) rfl (λ_=>(.tup (vs:=[]) (.inr ⟨_,_,n17c,lc17,rfl,rfl,rfl,(by show 0<=sizeLine;decide),.nil⟩) (.nil))) (.cons (v:=(.ref f18c)) rfl (λ_=>(.tup (vs:=[]) (.inr ⟨_,_,n18c,lc18,rfl,rfl,rfl,(by show 0<=sizeLine;decide),.nil⟩) (.nil))) (.cons (v:=(.ref f19c)) rfl (λ_=>(.tup (vs:=[]) (.inr ⟨_,_,n19c,lc19,rfl,rfl,rfl,(by show 0<=sizeLine;decide),.nil⟩) (.nil))) (.cons (v:=(.ref f20c)) rfl (λ_=>(.tup (vs:=[(L2.V.int 1)]) (.inr ⟨_,_,n20c,lc20,rfl,rfl,rfl,(by show 1<=sizeLine;decide),.cons ⟨_,rfl⟩ (.nil)⟩) (.cons (.int _) (.nil)))) (.cons (v:=(.ref f22c)) rfl (λ_=>(.tup (vs:=[(L2.V.int 1)]) (.inr ⟨_,_,n22c,lc22,rfl,rfl,rfl,(by show 1<=sizeLine;decide),.cons ⟨_,rfl⟩ (.nil)⟩) (.cons (.int _) (.nil)))) (.cons (v:=(.ref f24c)) rfl (λ_=>(.tup (vs:=[(L2.V.int 2)]) (.inr ⟨_,_,n24c,lc24,rfl,rfl,rfl,(by show 1<=sizeLine;decide),.cons ⟨_,rfl⟩ (.nil)⟩) (.cons (.int _) (.nil)))) (.nil)))))))))),
   ⟨_,(.int 3),Vo X G gMOST_KEPT_LETTERS,⟨_,rfl⟩,λ_=>(.int _)⟩,
   show rK K mg XL from Mp GX0 (Vo X G xaP) (ps:=([("NoWorld",BJ),("NoTongue",xc1),("NoSaying",xc2),("NoMore",xc3),("NoName",xc4),("NoLetter",xc5),("TooMany",xc6),("NoCount",xc7),("NoPoint",xc8),("NoRow",xc9)]:List (Str×UX))) (V2.mpr ⟨⟨xa0,xe0,Vo X G xa0⟩,V2.mpr ⟨⟨xa1,xe1,Vo X G xa1⟩,V2.mpr ⟨⟨xa2,xe2,Vo X G xa2⟩,V2.mpr ⟨⟨xa3,xe3,Vo X G xa3⟩,V2.mpr ⟨⟨xa4,nP xl4 xg4 xh4 xk4,Vo X G xa4⟩,V2.mpr ⟨⟨xa5,nP xl5 xg5 xh5 xk5,Vo X G xa5⟩,V2.mpr ⟨⟨xa6,xe6,Vo X G xa6⟩,V2.mpr ⟨⟨xa7,xe7,Vo X G xa7⟩,V2.mpr ⟨⟨xa8,xe8,Vo X G xa8⟩,V2.mpr ⟨⟨xa9,xe9,Vo X G xa9⟩,λ_ z=>nomatch z⟩⟩⟩⟩⟩⟩⟩⟩⟩⟩) xd,
   Gv xa5 (nP xl5 xg5 xh5 xk5) xfletter,
   Gv xa4 (nP xl4 xg4 xh4 xk4) xfname,
   ⟨_,ja9,jn_found⟩,
   ⟨_,ja9,jn_free⟩,
   ⟨_,ja9,jn_inner⟩,
   ⟨_,ja9,jn_kept⟩,
   ⟨_,ja9,jn_saying⟩,
   ⟨_,ja9,jn_table⟩⟩
 refine⟨Vm "law" "law" (bX nL) (bu nL) (aF nL) .none v32 d32 p32 n32 q32 r32,λs v=>.of_eq rfl,λbase _ _=>?_⟩;have R_NoLetter:uQ l.prog w K mg base 1 "NoLetter" "letter":=Bw (st:=(topC 7 0)) GX0 (nP xl5 xg5 xh5 xk5) (Vo X G xaP) (Vo X G xa5) xa5 xl5 xm5 xs5 xi5 xj5 xo5 (oJ (st:=(topC 7 0)) xu5 xv5 xw5) xp5 ⟨_,xu5,xz5⟩ ⟨rfl,rfl,rfl,by decide +kernel,rfl,by decide +kernel,by decide +kernel⟩ rfl (λ_=>⟨_,rfl⟩) (λ_ _ _ _ _ _=>rfl) 394 394 120 (by rw[Zo,XM];kernel_rfl) xyP xrP xeP 120 120 311;have R_NoName:uQ l.prog w K mg base 1 "NoName" "name":=Bw (st:=(topC 6 0)) GX0 (nP xl4 xg4 xh4 xk4) (Vo X G xaP) (Vo X G xa4) xa4 xl4 xm4 xs4 xi4 xj4 xo4 (oJ (st:=(topC 6 0)) xu4 xv4 xw4) xp4 ⟨_,xu4,xz4⟩ ⟨rfl,rfl,rfl,by decide +kernel,rfl,by decide +kernel,by decide +kernel⟩ rfl (λ_=>⟨_,rfl⟩) (λ_ _ _ _ _ _=>rfl) 394 394 120 (by rw[Zo,XM];kernel_rfl) xyP xrP xeP 120 120 311;have C0:=yv (P:=l.prog) (base:=base) m (dO X G e0);have C1:=Cj (P:=l.prog) (base:=base) m (dO X G e1);have C2:=GN (P:=l.prog) (base:=base) m C1 (dO X G e2);have C3:=GR (P:=l.prog) (base:=base) m C1 (dO X G e3);have C4:=wV (P:=l.prog) (base:=base) m (dO X G e4);have C5:=Ek (P:=l.prog) (base:=base) m (dO X G e5);have C6:=Ag (P:=l.prog) (base:=base) m C5 (dO X G e6);have C7:=ym (P:=l.prog) (base:=base) m C4 (dO X G e7);have C8:=yo (P:=l.prog) (base:=base) m (dO X G e8);have C9:=λmu=>AO (P:=l.prog) (base:=base) m C5 C7 F9 ⟨jm9,ji9,jf9,jp9⟩ (Vo X G ja9) ja9 jik9 mu 60;have C13:=nT (P:=l.prog) (base:=base) m C4 C2 C3 F13 (Vo X G a13) F10 (Vo X G a10) F11 (Vo X G a11) F12 (Vo X G a12) 60;have O_holds:=G8 (P:=l.prog) (w:=w) (base:=base) m C9 C0 C6 C8 C13 R_NoLetter R_NoName F14;have C14:=GP O_holds F14 (Vo X G a14);have D_holds:=Eb O_holds F14 (Vo X G a14);have C15:=yj (P:=l.prog) (base:=base) m (dO X G e15);have C16:=wO (P:=l.prog) (base:=base) m (dO X G e16);have C17:=yl (P:=l.prog) (base:=base) m (dO X G e17);have C18:=wQ (P:=l.prog) (base:=base) m (dO X G e18);have C19:=uV (P:=l.prog) (base:=base) m C16 (dO X G e19);have C20:=wU (P:=l.prog) (base:=base) m C15 C17 C18 (dO X G e20);have C21:=sP (P:=l.prog) (base:=base) m (dO X G e21);have C22:=yk (P:=l.prog) (base:=base) m (dO X G e22);have C23:=sQ (P:=l.prog) (base:=base) m (dO X G e23);have C24:=uU (P:=l.prog) (base:=base) m (dO X G e24);have C25:=wM (P:=l.prog) (base:=base) m C22 C24 C23 (dO X G e25);have C26:=wN (P:=l.prog) (base:=base) m (dO X G e26);have C27:=uW (P:=l.prog) (base:=base) m (dO X G e27);have C28:=ly (P:=l.prog) (base:=base) m C27 F28 (Vo X G a28) 60;have C29:=oF (P:=l.prog) (base:=base) m C27 F29 (Vo X G a29) 60;have C30:=wL (P:=l.prog) (base:=base) m C14 D_holds (dO X G e30);have C31:=wR (P:=l.prog) (base:=base) m C26 (dO X G e31);exact Pc m C15 C19 C20 C21 C25 C28 C29 C30 C31 F32
theorem L6(K:UG)(H:Hp)(a:UX)(ns:List Int)(hl:ns.length<=63)(hO:BX H)(hS:cY K H a (ns.map V.int)):oh K 1 K15.uM [.ref a] H (λv _=>v=.bl true) λ_ _ _=>False:=by
 refine⟨λ_=>none,[.bor 282],λ_ _ z=>(by cases z),rfl,⟨_,[],rfl,⟨a,_,rfl,hS,?_⟩,rfl⟩,?_⟩
 ·exact K01.wc ns
 ·rw[K5 ns hl];intro v J H2 _ r;cases r;rfl
theorem walk{l:abB}{q:U0}{loose:131}{XP:(Str->Option UH)->VU->Prop}{YP:Vj->VU->Prop}{d:DefRec}{K:ZZ->UG}(hn:l.most=some 63)(hdf:d.params.defaults=[])
  (hY:∀(w:Vj)(h:VU),YP w h->(K w.params).In h)
  (F:∀(w:Vj)(mg:145)(fa:UX)(h:VU),(K w.params).In h->h.Ns UT mg->mg d.name=some (.ref fa)->
   ∃fd:Vp,(∀(s:UI)(u:UH),adP s fd ⟨[u],[]⟩ [("_law_script",u)])/\∀base:VU,(K w.params).In base->base.Ns UT mg->dF l.prog w (K w.params) mg base ia 185 fa fd ["_law_script"] (oh (K w.params) 1 K15.uM)):
  aeM q loose XP YP l.row.toRowW d [] (λf vs=>aet f vs):=
 L2.Mi (n:=63) (k:=185) (x:="_law_script") (CX:=λ_=>ia) (sp:=λw=>oh (K w.params) 1 K15.uM) hn 120 hdf ⟨rfl,by decide,by decide⟩ hY F (λw H a ns hl hO hS=>L6 _ H a ns hl hO hS) λ_ _ _ _ _ z=>z
end K15
open PySem PySem.W PyProof.Rows
set_option maxRecDepth 100000 in
set_option maxHeartbeats 0 in
theorem PySem.Challenge.cw_pickalike_k15_names_and_letters_that_lac_holds : PySem.Challenge.rw_pickalike_k15_names_and_letters_that_lac.Holds := by
 refine holds_law K15.look λsaid=>?_;refine holds_open (q:=K15.VW) (XP:=XL K15.VW []) (YP:=Hook.says K15.HK) K15.left (Hook.of K15.HK) (Hook.keeps K15.HK) (λs e=>xl_of s (ab3.mp e).1) XL.keeps (by rfl) (by rfl) (by rfl) (λs e=>recFacts_of (ab3.mp e).2) (by rfl) said 180 ⟨rfl,rfl,rfl,rfl,rfl,by decide +kernel⟩ ?hw ?hc
 (case hw=>w_witness2)
 delta K15.HK
 k_fill
 refine K15.walk (l:=Va) rfl rfl (K:=K15.KF) (λw h Y=>PySem.W.kIn_of Y) ?F
 case F=>
  intro w mg fa h KX G hmg;refine' K15.all_mk KX G hmg ..
  all_goals try first|k_is|(refine' DL.O1 ?a ?l ?c ?k;case a|l|c|k=>k_is)|(refine' DL.KL ?y0 ?y1 ?y2 ?y3 ?y4 ?y5 ?y6 ?y7<;>first|k_is|rfl)|rfl|(refine' DL.nP ?a ?l ?c ?k;case a|l|c|k=>k_is)|(refine' DL.O4 ?g0 ?g1 ?g2 ?g3 ?g4 ?g5;(case g0=>k_is);(case g1=>k_is);(case g2|g3=>rfl);case g4|g5=>k_is)
  all_goals decide
