import PyProof.Rows.All
import KE.KDictOf
import KE.KEqDict
import KE.KIsAll
import PySem.Challenge.RW_pickalike_k14_what_holds
theorem zA (_:True:=by rfl):True:=trivial
theorem zB (_:True:=by decide):True:=trivial
noncomputable section
open And renaming intro->Xq
open Array renaming length_toList->Rf,getElem?_eq_some_iff->R4,getElem?_eq_getElem->Ss,getD->Tf,getElem?_toList->Uu,toList->Xa,size_append->YI,toList_inj->Zb
open Bool renaming and_eq_true->Ra,false_eq_true->RI,false_ne_true->RQ,or_eq_true->S9,eq_iff_iff->Tc,and_false->Vo,or_eq_false_iff->VG,true_and->WE,and_eq_true_iff->XR,or_false->Yo,eq_false_iff->YG,not_false->ZX,false_or->aap
open Classical renaming byContradiction->S5,propDecidable->aam
open False renaming elim->TL
open ForInStep renaming yield->Tv
open Int renaming emod_nonneg->Sq,toNat_natCast->SG,emod_lt_of_pos->SJ,natCast_add->Xp,zero_add->Y4,ediv_one->aat
open List renaming mem_singleton->QK,length_map->QN,mem_cons_of_mem->QO,mem_cons_self->QT,length_append->QU,range->QX,mem_cons->QZ,size_toArray->Q3,getElem?_eq_getElem->Q5,mem_range->Rc,mem_map->Rg,getElem?_map->Rh,map_cons->Ri,mem_append->Rl,length_cons->Rm,flatMap_cons->Rr,getElem?_eq_some_iff->Rt,replicate->Rw,getD_eq_getElem?_getD->Ry,mem_append_right->RB,length_replicate->RC,getElem?_set_ne->RH,length_range->RO,map_append->RS,getElem?_set_self->RV,idxOf_lt_length_of_mem->R0,map_map->R3,append_nil->R6,find?_cons->R8,lookup_cons->Si,getElem?_append_right->Sk,mem_append_left->Sl,length_take->Sv,any_cons->Sx,mem_flatMap->Sz,replicate_succ->SA,mem_filter->SH,length_drop->SM,not_mem_nil->SN,getElem?_append_left->SY,nodup_cons->S8,all_eq_true->Th,getElem_mem->Ti,pairwise_lt_range->TH,drop_eq_getElem_cons->TY,mem_of_getElem?->TZ,mem_iff_getElem->T3,pairwise_map->T9,any_eq_true->Uh,getElem_idxOf->Ul,lookup->Us,length_filter_le->Uv,contains_iff_mem->Uw,take_append_drop->Ux,perm_ext_iff_of_nodup->UE,nodup_nil->UH,pairwise_iff_getElem->UJ,ext_getElem->UO,filterMap_cons->UQ,reverse_append->UT,eq_of_mem_replicate->UX,mem_filterMap->UZ,of_mem_zip->U0,getElem?_replicate->U1,drop_eq_nil_of_le->Vb,reverse_cons->Vf,append_assoc->Vi,eraseIdx_eq_take_drop_succ->Vk,singleton_append->Vt,nodup_range->Vy,flatMap_nil->Vz,range_eq_range'->VC,pairwise_append->VD,map_take->VI,map_drop->VJ,length->VO,getElem?_range->VU,foldl_cons->VV,range'->VZ,map_id->V4,filter_eq_self->V5,nodup_iff_pairwise_ne->V7,contains_cons->V9,pairwise_cons->V_,filter_append->Wa,mem_of_find?_eq_some->Wg,take_sublist->Wq,append_cancel_right->Wt,getElem_append_left->Wv,filterMap_cons_some->Ww,all_cons->WC,pairwise_singleton->WG,pairwise_filterMap->WI,length_eq_zero_iff->WJ,filter_cons_of_pos->WK,filter_cons_of_neg->WL,getElem_inj->WQ,perm_middle->WU,filter_cons->WX,take_of_length_le->W5,getElem_cons_drop->W6,reverse_singleton->W7,getElem?_reverse->Xi,dropLast_eq_take->Xj,any_map->Xm,nil_append->Xn,range_succ->Xo,getElem?_toArray->Xz,eq_nil_or_concat->XC,concat_eq_append->XD,length_zip->XG,length_eraseIdx->XM,reverse_reverse->XQ,drop_zero->XX,length_reverse->X_,flatMap_append->Yb,filterMap_map->Yj,find?_eq_none->Yx,map->Yy,any_eq_false->YA,drop_sublist->YK,getElem_drop->YN,idxOf_append->YO,filter_congr->YV,map_nil->Y3,range'_succ->Zc,take_length->Zd,cons_append->Zf,mem_reverse->Zg,getElem_map->Zh,isEmpty_iff->Zi,length_nil->Zz,find?_some->ZA,take_succ->ZS,filterMap->ZU,foldl->abi,getD->abn
open List.Nodup renaming length_le_of_subset->Sn
open List.Pairwise renaming nil->Vg,and_mem->Xs
open List.Perm renaming of_eq->Xv,append_left->aaB
open List.cons renaming inj->abr
open Nat renaming le_of_ble_eq_true->QS,le_refl->QV,ne_of_lt->Q7,lt_of_lt_of_le->Q9,zero_le->Rj,le_trans->RG,lt_succ_self->RN,lt_trans->Sf,lt_of_le_of_lt->SK,lt_succ_of_lt->SW,ne_of_gt->S7,le_succ->Tg,not_lt_zero->Tw,lt_irrefl->TU,le_of_succ_le->T_,le_of_lt_succ->Vj,le_of_lt->Vs,mul_le_mul_right->VE,pow_le_pow_right->VF,mod_lt->Wu,div_div_eq_div_mul->W4,min_self->Xh,succ_pos->Xl,zero_add->Xr,le_add_left->XA,lt_or_eq_of_le->Yw,lt_trichotomy->YM,le_of_eq->YX,pow_succ->Y5,mul_le_mul->ZP,succ_mul->aax,mul_comm->aay
open Ne renaming symm->Sb
open Option renaming isSome_iff_exists->RE,map_some->T8,map_eq_some_iff->Vc,bind_some->Vx,isSome_some->Yv,isSome_map->YU,getD_none->Y9,none->aaY
open Option.some renaming inj->RP
open Or renaming inr->Te,inl->Ug
open Prod renaming fst->RD,ext->abp
open PyProof.Rows renaming slot_tuple_getitem->Ru,envOfC->Va,callWith_type1->VN,entry_tuple_getitem->VR,args_tuple_getitem->V8,slicePart_none->Wc,StrsAre->Wf,AllBare->Wz,subscriptTail_builtinR->WZ,tupleItemsOf_->Yk,subscriptTail->Yn,Subscript_->YB,callWith_builtin1->Y0,callWith_kw->Z7,slicePart_int->aad,tail_any->aaf,IntsAre->aah,boot_max->aaz,kws_cons->aaA,kws_nil->aaH,seqObj->abd
open PyProof.Rows.F renaming plain_set_update_loop->Su,entry_set_update_loop->UM
open PyProof.Rows.IsTup renaming new->aau
open PySem renaming wpAny_bind->QF,Value->QH,wpAny_pure->QJ,Shared->QL,starEach->QY,Program->Q2,Addr->Q4,wpAny->Q8,mainGlobals->Q_,model->Rb,World->Ro,FuncData->Rp,wpAny_newObj_type->Rq,Expr->Rz,Around->RA,wpAny_holding->RJ,wpAny_mono->RM,SetTable->RT,wpAny_call_entry->RX,sysModules->RY,behindInMarks->R5,cellsFrom->R7,Heap->Sa,sizeLine_eq->Sd,wpAny_callSpecial?_slot->Sj,bootBuiltins->Sm,codeAny_builtin->So,compareOp->SI,wpAny_askSetting->SO,codeAny->SQ,foldedSetIterable->SV,attributeBase->SX,plainId_quiet->S4,wpAny_updateSeq->S_,backTo->Tn,wpAny_truthy_bool->Tt,wpAny_setEntries_of->Tz,assignEach->TM,Stmt->TR,NameKind->TV,wpAny_setField_rec->TX,wpAny_passesOwn->T5,letOwnedTupleGo->T6,wpAny_setState_of->Ub,codeAny_mono->Uc,wpAny_standAt->Ud,mem_of_lookup->Ue,wpAny_Call_Name_kw->Uk,Scope->Uo,cLine->Up,swapsWith->Ur,Comprehension->UB,standAt->UG,isSubtype_type->UK,binaryOp->UN,hashStr->UP,valueAt->UR,wpAny_of_eq->US,wpAny_typeOf->UW,wpAny_attempt->U3,mem_of_lookup->U8,pyNext->U_,sliceBounds->Ve,wpAny_pyIter_slot->Vl,bindArgs->Vn,wpAny_seqItems->Vq,wpAny_tryCatch->Vr,builtinLookup_eq_fast->Vu,checkBuiltinCall->Vw,codeAny_call_builtin->VB,swapsWithSole->VH,wpAny_rule->VL,wpAny_execs_nil->VM,wpAny_field->VP,getItem->VQ,wpAny_loadPart'->VX,codeAny_of_tree->V0,tupleKind_room_in1->Wb,wpAny_fieldsOf->Wh,firstArgMember->Wi,Paired->Wk,wpAny_call->Wo,wpAny_sequenceKey->Wr,wpAny_pyIter_list->Ws,swappedStores->WA,Builtin->WB,strKind->WD,compTurn->WH,wpAny_pyHash_str->WO,pyIter->WR,wpAny_Dict_empty->WT,wpAny_isInstance->WW,codeAny_compStart_list->W3,DictEntry->W8,tupleKind->W9,wpAny_isTrue_Compare1->W_,inplaceOp->Xb,updateSeq->Xk,isSubtype->Xu,typeLookup_type->Xw,setsByText->XH,wpAny_loadName_local->XI,codeAny_extend_loopS->XN,Result->XU,wpAny_runValue->XY,wpAny_loadName_cell->XZ,excClassObj->X5,wpAny_letGo->X7,isTrue->Yg,IsPart->Yi,evalPart_none->Yl,seqItems?->Yt,wpAny_pyIter_tuple->Yu,slot_list_getitem->YC,call_meets->YE,callerA->YF,wpAny_setEpoch_of->YR,wpAny_storeSet_of->YT,Within->YW,wpAny_execs_cons->Y7,wpAny_getItem_of->Za,PassesOwn->Zm,BindsTo->Zn,keywordEach->Zo,Keyword->Zp,pushCells->Zs,wpAny_alloc->Zt,pushCells_keeps->Zu,noteFrame->Zv,theTreesLotGoes->Zw,compStart->Zx,theWindowsPlace->Zy,pickOrder->ZE,wpAny_specialOf->ZF,Model->ZJ,wpAny_loadPart->ZK,recursionLimit->ZM,newFunctionEnv->ZT,entryFor_alias->ZV,isSubtype_stop->ZW,builtinsNs->ZZ,wpAny_Name->Z0,wpAny_load->Z1,typeLookup->Z2,typeIs_int->Z3,call->Z4,argsOk->Z6,strKind_is->Z8,setItem->aaa,intBits_le_64->aac,evalPart_some->aae,call_list_seq->aag,notedBy->aaj,wpAny_notedAt->aak,fieldsOf->aan,wpAny_handled->aao,storeName->aaq,rawInt->aar,atKey->aaC,bindL->aaO,bindC->aaP,CellsOk->aa0,Params->aa6,GenState->aa7,Operator->aa8,backToKw->aba,entryFor->abe
open PySem.Around renaming under_plainId->RW,under->YY
open PySem.Bind renaming checkArgs->ZR
open PySem.Builtin.Builtins renaming bindParams->VY
open PySem.Builtin.Frozenset renaming sizeOf->Ua,updateFrom->Zk,newClass->ZH,oneOther->ZI,addrOf->Z_
open PySem.Builtin.List renaming listTooLong->Td,listExtendWith->TF,listLengthHint->V2,listSameRef->Wx
open PySem.Builtin.Range renaming rangeSize->aab
open PySem.Builtin.Slice renaming slicePlaces->RU,sliceAdjust->S0,sliceApplied->TJ,sliceFields->We,slicePartIndex->Zj
open PySem.Builtin.Str renaming occurrences->U6,tooLong->X6
open PySem.Builtin.Tuple renaming tupleExact->RZ,tupleItemsOf->UD,tupleIsExact->ZG,tupleHashOf->ZO
open PySem.Calls renaming Name_function_global->V6,callWith_builtin->W0
open PySem.CmpOp renaming NotIn->aaM,In->abo
open PySem.Code renaming isFrame->YZ,frames->aaN
open PySem.DictEntry renaming refKey->abk
open PySem.Env renaming kindOf->abh
open PySem.F renaming plain_max_loop->TQ,called_set->Uy,slot_dict_getitem->UI,plainAttrs_list->U7,plain_list_iadd->Vm,attrBase_ValueError->VT,slot_set_iter->V1,entry_max_loop->WS,entry_proto_collect->Xx,plain_proto_collect->Xy,args_list_extend_2->XJ,entry_list_extend->X3,plain_extend_loop->X8,slot_list_extend->Yq,args_set_iter_1->YQ,entry_list_iadd->YS,plain_set_new->ZD
open PySem.Heap renaming get?_push_of_some->QM,get?_push_size->QW,lt_size->Q6,get?_update_other->RK,get?_update_self->Sg,size_push->Sh,SameBut->SD,ExtBut->aa1
open PySem.Heap.DictOf renaming new->Zr
open PySem.Heap.IsSliceOf renaming new->Ym
open PySem.Heap.SameBut renaming update->V3,refl->YL
open PySem.IsL renaming update->abl
open PySem.ItemsOf renaming nil->aa2
open PySem.Moved renaming trans->aa3
open PySem.NameKind renaming free->Sw,cell->U5
open PySem.Obj renaming mapSeq->T7,putSet->Z9
open PySem.Paired renaming length->Wy,snoc->aa4
open PySem.PassesOwn renaming leaving->YJ,never->Zq
open PySem.PyData renaming keyHash->R1
open PySem.SeqAt renaming EqAt->Uj,ne_of_list_tuple->W2
open PySem.SeqAt.EqAt renaming same->Xe,int_str->Yd,str_int->Ye,int_int->Yp,of_refs->Ys,tuple_list->aav,list_tuple->aaw,none_bool->aaE,bool_none->aaF,bool_bool->aaG,none_int->aaQ,none_str->aaR,bool_int->aaS,bool_str->aaT,int_none->aaU,int_bool->aaV,str_none->aaW,str_bool->aaX,str_str->aa_
open PySem.SeqAt.RcAt renaming tuples->YH,lists->Y_,lists_lengths->Z5
open PySem.SeqAt.RcNeAt renaming tuples->aaZ,lists->abb
open PySem.SetTable renaming sizeAbove->Um,insertAt->UC,below->UL,grown->Wj,advance->WV,tooFull->Ze,runEnd->ZC,fill->aal
open PySem.Shared renaming TypeIs->U9
open PySem.Str renaming ofString->UU,empty->Wn,length->YD
open PySem.Value renaming none->SS,ref->Tj,isStrOf->Tp,type->T4,int->UY,str->Yc,builtin->Yr,bool->Yz,isInt->aaI,bytes->aaK,float->aaL
open PySem.Value.ref renaming inj->abq
open PySem.W renaming Frag->QG,findIn->Rk,nsIn->Rn,fnOf->Rv,keepIn->RL,mg_of->R9,mg_none_of->R_,kia_one->Se,emptyDict->SE,mroIn->S3,codeIn->Tr,instObj->Tu,InstAt->Ui,specialIn->Uz,clsIn->UA,takesIn->U4,hasDictIn->Vd,kitx_dict->Vh,kitOne->Vp,plainGet->Vv,looks_findIn->VA,findObj->VS,methodObj->Wl,plainOver->Wm,cellsFrom_some->WY,takerIn->Xc,makesIn->Xd,OpenLaw->Xf,kitMeta->Xg,lookIn->XS,callWith_K->Yh,handedIn->Y8,typeIn->ZL,kitCls->ZN,notCls->ZQ,WalkO->aai,isFn->aas
open PySem.W.Hook renaming obs->WM,val->WN
open PySem.W.KeqHits renaming hit->aa5
open PySem.W.Looks renaming here->aa9
open PySem.W.OpenLaw renaming wellSaid->ZY
open PySem.W.RowW renaming records->aaD
open PySem.W.WData renaming int->abm
open PySem.W.WShape renaming has->abg
open PySem.Walks renaming list->abj
open PySem.Within renaming cons->abf
open PySem.pickOrder renaming go->Y6
open Sum renaming inl->Tq,inr->Uq
open Sum.inl renaming inj->aaJ
open Sum.inr renaming inj->Zl
open True renaming intro->TN
set_option Elab.async false
set_option linter.all false
set_option autoImplicit true
set_option relaxedAutoImplicit true
set_option maxRecDepth 100000
namespace L2
open PySem PySem.Spec PyProof.Rows
noncomputable def cD (s:TR):Arguments:=match s with
 | .FunctionDef _ a _ _ _ _ _ _ _ _=>a
 | _=>{posonlyargs:=[],args:=[],vararg:=none,kwonlyargs:=[],kw_defaults:=[],kwarg:=none,defaults:=[]}
noncomputable def bM (s:TR):List TR:=match s with
 | .FunctionDef _ _ b _ _ _ _ _ _ _=>b
 | _=>[]
noncomputable def aN (s:TR):Uo:=match s with
 | .FunctionDef _ _ _ _ _ _ sc _ _ _=>sc
 | _=>{kind:=.function,names:=[],isGenerator:=false,isCoroutine:=false}
end L2
namespace L2
open PySem PySem.W PyProof.Rows
noncomputable abbrev u5 (p q:Q2) (loose:List Str) (Xt:QL->Bool){α:Type}(Yf:QL->α) (Ya:Ro->α) (N:Nat) (row:String) (b:Bool):Prop:=∀w:Ro,((fencedOpening treeTable p w N).bind λs₀=>(topFrom treeTable p (w.withFollow row b) N s₀).map λs=>(openSeen q loose (importedModules p.main.body) Xt true s,Yf s))=some (openGood q loose,Ya (w.withFollow row b))
theorem LQ {p q:Q2}{loose:List Str}{Xt:QL->Bool}{α:Type}{Yf:QL->α}{Ya:Ro->α}{N:Nat}{row:String}(h1:u5 p q loose Xt Yf Ya N row false) (h2:u5 p q loose Xt Yf Ya N row true):LeftO p q loose Xt Yf Ya N:=λw=>by
 have e:=World.withFollow_self w row;unfold openEnds;rw [Option.map_bind];cases hb:w.params.followText row <;> rw [hb] at e
 ·have:=h1 w;rw [e] at this;exact this
 ·have:=h2 w;rw [e] at this;exact this
end L2
namespace K14
open PySem
noncomputable def top (i:Nat):TR:=PySem.Challenge.pw_pickalike_k14_what_holds.main.body.getD i (.Pass ⟨0,0,0,0⟩)
noncomputable def topC (i j:Nat):TR:=match top i with
 | .ClassDef (body:=b) ..=>b.getD j (.Pass ⟨0,0,0,0⟩)
 | _=>.Pass ⟨0,0,0,0⟩
end K14
set_option maxHeartbeats 4000000
namespace K14
open PySem PySem.Spec PyProof.Rows L2
noncomputable abbrev E (P:aa6) (k:Str) (t:Nat) (v:QH):W8:=⟨R1 P k,.str k t,v⟩
noncomputable abbrev cP (P:aa6) (k:Str) (t r:Nat):W8:=E P k t (.ref r)
noncomputable def MH (n:Str) (t l k a:Nat) (v w:QH) (r u:Nat):Obj:=⟨.type "code",none,.fields #[.str n t,.str n (t + 1),.str "/claim/cut.py" (t + 2),.int l 0,.int k 0,.int 0 0,.int 0 0,.int 3 0,.ref a,.bool true,.int 181 0,.ref (a + 1),.none,v,w,.ref r,.int u 0,.int l 0,.str "/claim/cut.py" (u + 1)],#[]⟩
noncomputable def gV (n:Str) (t l k a u:Nat):Obj:=MH n t l k a (.ref (a + 2)) (.ref (a + 3)) (a + 4) u
noncomputable def pe (n:Str) (t l k a u:Nat):Obj:=MH n t l k a .none .none (a + 2) u
noncomputable def fq (n:Str) (k:Nat) (m:QH) (c:Nat):Obj:=⟨.type "function",none,.func (Rv n n (cD (top k)) (bM (top k)) (aN (top k)) .none .none .none m none (.ref c) .none),#[]⟩
noncomputable def AF:QH:=.str "pickalike.worlds" 257
noncomputable def lQ:QH:=.str "pickalike.sayings" 294
noncomputable def gv:QH:=.str "law_pickalike_k14_what_holds" 464
noncomputable def KF (P:aa6):QG:=
(nat_lit 2,⟨.none,none,(.dict #[] 0),#[]⟩)::
(nat_lit 3,⟨(.type "dict"),none,(.dict #[E P "__name__" 165 (.str "law_pickalike_k14_what_holds" 464),E P "__doc__" 166 .none,E P "__package__" 167 .none,E P "__loader__" 168 (.builtin "__main__.__loader__#opaque"),E P "__spec__" 169 .none,cP P "__annotations__" 170 6,cP P "__builtins__" 171 4,E P "__file__" 173 (.str "/claim/cut.py" 172),E P "__cached__" 174 .none,cP P "PickError" 206 24,cP P "NoName" 231 44,cP P "NoLetter" 256 63,cP P "tongue_of" 264 70,cP P "by_name" 274 77,cP P "bears" 283 84,cP P "leads" 293 91,cP P "LETTER_PLACES" 322 92,cP P "INNER_PLACES" 335 102,cP P "BINDERS" 339 103,E P "MOST_KEPT_LETTERS" 341 (.int 3 340),cP P "letters_at" 347 108,cP P "within" 355 115,cP P "parts_of" 365 122,cP P "free_from" 371 127,cP P "is_spoken" 381 134,cP P "Part" 413 149,cP P "enough" 427 160,cP P "any_part_is" 438 167,cP P "reckoned" 444 172,cP P "part_holds" 450 177,cP P "holds" 463 185,cP P "_law_cell" 473 192,cP P "_law_names" 479 197,cP P "_law_some" 489 204,cP P "_law_pairs" 500 211,cP P "_law_tongue" 510 218,cP P "_law_world" 524 225,cP P "_law_letters" 530 230,cP P "_law_leaf" 541 237,cP P "_law_wrapped" 554 244,cP P "_law_joined" 560 249,cP P "_law_grown" 575 256,cP P "_law_enough" 587 263,cP P "_law_true" 593 268,cP P "_law_truth" 601 275,cP P "_law_free" 607 280,cP P "_law_deep" 620 287,cP P "law" 638 294] 48),#[]⟩)::
(nat_lit 69,pe "tongue_of" 259 15 1 66 262)::
(nat_lit 70,fq "tongue_of" 5 AF 69)::
(nat_lit 76,gV "by_name" 265 18 2 71 272)::
(nat_lit 77,fq "by_name" 6 AF 76)::
(nat_lit 83,gV "bears" 275 23 3 78 281)::
(nat_lit 84,fq "bears" 7 AF 83)::
(nat_lit 90,gV "leads" 284 25 4 85 291)::
(nat_lit 91,fq "leads" 8 AF 90)::
(nat_lit 92,⟨(.type "dict"),none,(.dict #[cP P "mark" 296 93,cP P "arrow" 298 94,cP P "same" 301 95,cP P "not" 304 96,cP P "and" 305 97,cP P "or" 306 98,cP P "some" 307 99,cP P "every" 309 100,cP P "least" 311 101] 9),#[]⟩)::
(nat_lit 93,⟨(.type "tuple"),none,(.seq #[(.int 2 297)] 0),#[]⟩)::
(nat_lit 94,⟨(.type "tuple"),none,(.seq #[(.int 2 299),(.int 3 300)] 0),#[]⟩)::
(nat_lit 95,⟨(.type "tuple"),none,(.seq #[(.int 1 302),(.int 2 303)] 0),#[]⟩)::
(nat_lit 96,⟨(.type "tuple"),none,(.seq #[] 0),#[]⟩)::
(nat_lit 97,⟨(.type "tuple"),none,(.seq #[] 0),#[]⟩)::
(nat_lit 98,⟨(.type "tuple"),none,(.seq #[] 0),#[]⟩)::
(nat_lit 99,⟨(.type "tuple"),none,(.seq #[(.int 1 308)] 0),#[]⟩)::
(nat_lit 100,⟨(.type "tuple"),none,(.seq #[(.int 1 310)] 0),#[]⟩)::
(nat_lit 101,⟨(.type "tuple"),none,(.seq #[(.int 2 312)] 0),#[]⟩)::
(nat_lit 102,⟨(.type "dict"),none,(.dict #[E P "not" 323 (.int 1 324),E P "some" 325 (.int 2 326),E P "every" 327 (.int 2 328),E P "least" 329 (.int 3 330)] 4),#[]⟩)::
(nat_lit 103,⟨(.type "tuple"),none,(.seq #[(.str "some" 336),(.str "every" 337),(.str "least" 338)] 0),#[]⟩)::
(nat_lit 107,pe "letters_at" 342 32 1 104 345)::
(nat_lit 108,fq "letters_at" 14 lQ 107)::
(nat_lit 114,gV "within" 348 36 1 109 353)::
(nat_lit 115,fq "within" 15 lQ 114)::
(nat_lit 121,gV "parts_of" 356 43 1 116 363)::
(nat_lit 122,fq "parts_of" 16 lQ 121)::
(nat_lit 126,pe "free_from" 366 51 2 123 369)::
(nat_lit 127,fq "free_from" 17 lQ 126)::
(nat_lit 133,gV "is_spoken" 372 56 2 128 379)::
(nat_lit 134,fq "is_spoken" 18 lQ 133)::
(nat_lit 145,⟨(.type "code"),none,(.fields #[(.str "__init__" 394),(.str "Part.__init__" 395),(.str "/claim/cut.py" 396),(.int 65 0),(.int 3 0),(.int 0 0),(.int 0 0),(.int 3 0),(.ref 142),(.bool true),(.int 181 0),(.ref 143),.none,.none,.none,(.ref 144),(.int 397 0),(.int 65 0),(.str "/claim/cut.py" 398)]),#[]⟩)::
(nat_lit 146,⟨(.type "function"),none,(.func (Rv "__init__" "Part.__init__" (cD (topC 19 0)) (bM (topC 19 0)) (aN (topC 19 0)) .none .none .none (.str "pickalike.sayings" 294) none (.ref 145) .none)),#[]⟩)::
(nat_lit 148,⟨(.type "dict"),none,(.dict #[E P "__module__" 389 (.str "pickalike.sayings" 294),E P "__firstlineno__" 393 (.int 63 392),cP P "__init__" 399 146,cP P "__static_attributes__" 406 147,cP P "__dict__" 408 150,cP P "__weakref__" 410 151,E P "__doc__" 411 .none] 4),#[]⟩)::
(nat_lit 149,⟨(.type "type"),none,(.cls ⟨"Part",[(.type "object")],[(.ref 149),(.type "object")],148,"Part",true,[],[],false,none,false⟩),#[none,none,(some (.str "Part" 382)),(some (.str "Part" 390)),(some (.builtin "object.__new__")),(some (.bool true))]⟩)::
(nat_lit 159,gV "enough" 414 72 4 154 425)::
(nat_lit 160,fq "enough" 20 lQ 159)::
(nat_lit 166,gV "any_part_is" 428 85 4 161 436)::
(nat_lit 167,fq "any_part_is" 21 lQ 166)::
(nat_lit 171,pe "reckoned" 439 90 3 168 442)::
(nat_lit 172,fq "reckoned" 22 lQ 171)::
(nat_lit 176,pe "part_holds" 445 112 3 173 448)::
(nat_lit 177,fq "part_holds" 23 lQ 176)::
(nat_lit 178,⟨(.type "tuple"),none,(.seq #[.none] 0),#[]⟩)::
(nat_lit 184,gV "holds" 451 119 3 179 461)::
(nat_lit 185,⟨(.type "function"),none,(.func (Rv "holds" "holds" (cD (top 24)) (bM (top 24)) (aN (top 24)) (.ref 178) .none .none (.str "pickalike.sayings" 294) none (.ref 184) .none)),#[]⟩)::
(nat_lit 191,gV "_law_cell" 466 132 2 186 471)::
(nat_lit 192,fq "_law_cell" 26 gv 191)::
(nat_lit 196,pe "_law_names" 474 136 2 193 477)::
(nat_lit 197,fq "_law_names" 27 gv 196)::
(nat_lit 203,gV "_law_some" 480 153 2 198 487)::
(nat_lit 204,fq "_law_some" 28 gv 203)::
(nat_lit 210,gV "_law_pairs" 490 160 2 205 498)::
(nat_lit 211,fq "_law_pairs" 29 gv 210)::
(nat_lit 217,gV "_law_tongue" 501 168 1 212 508)::
(nat_lit 218,fq "_law_tongue" 30 gv 217)::
(nat_lit 224,gV "_law_world" 511 173 4 219 522)::
(nat_lit 225,fq "_law_world" 31 gv 224)::
(nat_lit 229,pe "_law_letters" 525 182 1 226 528)::
(nat_lit 230,fq "_law_letters" 32 gv 229)::
(nat_lit 236,gV "_law_leaf" 531 184 3 231 539)::
(nat_lit 237,fq "_law_leaf" 33 gv 236)::
(nat_lit 243,gV "_law_wrapped" 542 192 3 238 552)::
(nat_lit 244,fq "_law_wrapped" 34 gv 243)::
(nat_lit 248,pe "_law_joined" 555 200 2 245 558)::
(nat_lit 249,fq "_law_joined" 35 gv 248)::
(nat_lit 255,gV "_law_grown" 561 207 3 250 573)::
(nat_lit 256,fq "_law_grown" 36 gv 255)::
(nat_lit 262,gV "_law_enough" 576 223 3 257 585)::
(nat_lit 263,fq "_law_enough" 37 gv 262)::
(nat_lit 267,pe "_law_true" 588 235 3 264 591)::
(nat_lit 268,fq "_law_true" 38 gv 267)::
(nat_lit 274,gV "_law_truth" 594 252 2 269 599)::
(nat_lit 275,fq "_law_truth" 39 gv 274)::
(nat_lit 279,pe "_law_free" 602 254 1 276 605)::
(nat_lit 280,fq "_law_free" 40 gv 279)::
(nat_lit 286,gV "_law_deep" 608 268 4 281 618)::
(nat_lit 287,fq "_law_deep" 41 gv 286)::
(nat_lit 293,gV "law" 621 276 1 288 636)::
(nat_lit 294,fq "law" 42 gv 293)::[]
noncomputable def VW:Q2:={PySem.Challenge.pw_pickalike_k14_what_holds with main:={PySem.Challenge.pw_pickalike_k14_what_holds.main with body:=[top 1,top 2,top 3,top 5,top 6,top 7,top 8,top 10,top 11,top 12,top 13,top 14,top 15,top 16,top 17,top 18,top 19,top 20,top 21,top 22,top 23,top 26,top 27,top 28,top 29,top 30,top 31,top 32,top 33,top 34,top 35,top 36,top 37,top 38,top 39,top 40,top 41,top 42]}}
noncomputable def HK:W.Hook:=W.kHook KF [2,3,69,70,76,77,83,84,90,91,92,93,94,95,96,97,98,99,100,101,102,103,107,108,114,115,121,122,126,127,133,134,145,146,148,149,159,160,166,167,171,172,176,177,178,184,185,191,192,196,197,203,204,210,211,217,218,224,225,229,230,236,237,243,244,248,249,255,256,262,263,267,268,274,275,279,280,286,287,293,294] (λ_=>by kernel_rfl)
noncomputable def XT:QL->Bool:=λs=>W.xlAt VW [] s && W.recOk (aaD PySem.Challenge.rw_pickalike_k14_what_holds.row.toRowW) s
theorem look:ZY PySem.Challenge.rw_pickalike_k14_what_holds=true:=by decide +kernel
theorem LR:L2.u5 PySem.Challenge.rw_pickalike_k14_what_holds.row.prog VW ["LETTER_PLACES","INNER_PLACES","holds"] XT (WM HK) (WN HK) 4426 "special-get-raises" false:=λw=>by kernel_rfl
theorem LS:L2.u5 PySem.Challenge.rw_pickalike_k14_what_holds.row.prog VW ["LETTER_PLACES","INNER_PLACES","holds"] XT (WM HK) (WN HK) 4426 "special-get-raises" true:=λw=>by kernel_rfl
theorem left:W.LeftO PySem.Challenge.rw_pickalike_k14_what_holds.row.prog VW ["LETTER_PLACES","INNER_PLACES","holds"] XT (WM HK) (WN HK) 4426:=L2.LQ LR LS
end K14
namespace L2
open PySem PySem.Spec PyProof.Rows
noncomputable abbrev Key:=Sum Int Str
noncomputable def oB:Key->QH->Bool
 | .inl k,v=>aaI k v
 | .inr x,v=>Tp x v
noncomputable def M5 (w:Ro):Key->Int
 | .inl k=>hashInt k
 | .inr x=>UP w x
theorem eB:∀{k:Key}{v:QH},oB k v=true->(∃i t,k=Tq i/\v=UY i t)\/(∃x t,k=Uq x/\v=Yc x t)
 | .inl i,v,h=>by obtain ⟨t,e⟩:=Value.isInt_shape (k:=i) (v:=v) h;exact .inl ⟨i,t,rfl,e⟩
 | .inr x,v,h=>by obtain ⟨t,e⟩:=Value.isStrOf_shape (x:=x) (v:=v) h;exact .inr ⟨x,t,rfl,e⟩
theorem Ce (i:Int) (t:Tok):oB (.inl i) (.int i t)=true:=by simp [oB,aaI]
theorem Cf (x:Str) (t:Tok):oB (.inr x) (.str x t)=true:=by simp [oB,Tp]
theorem JR (a b:Int):decide ((Tq a:Key)=Tq b)=(a == b):=by
 by_cases e:a=b
 ·subst e;simp
 ·have h:¬(Tq a:Key)=Tq b:=λq=>e (aaJ q);rw [decide_eq_false h];exact (beq_eq_false_iff_ne.mpr e).symm
theorem Cg (a b:Str):decide ((Uq a:Key)=Uq b)=decide (a=b):=by
 by_cases e:a=b
 ·subst e;simp
 ·have h:¬(Uq a:Key)=Uq b:=λq=>e (Zl q);rw [decide_eq_false h,decide_eq_false e]
theorem JS (a:Int) (b:Str):decide ((Tq a:Key)=Uq b)=false:=decide_eq_false (λq=>nomatch q)
theorem JT (a:Str) (b:Int):decide ((Uq a:Key)=Tq b)=false:=decide_eq_false (λq=>nomatch q)
noncomputable def d_ (prog:Q2) (w:Ro):PySem.KeyKind prog w Key where
 is:=oB
 hash:=M5 w
 inj:=λv a b ha hb=>by
  rcases eB ha with ⟨i,t,rfl,rfl⟩ | ⟨x,t,rfl,rfl⟩
  ·rcases eB hb with ⟨j,u,rfl,e⟩ | ⟨y,u,rfl,e⟩
   ·injection e with e1 _;rw [e1]
   ·exact nomatch e
  ·rcases eB hb with ⟨j,u,rfl,e⟩ | ⟨y,u,rfl,e⟩
   ·exact nomatch e
   ·injection e with e1 _;rw [e1]
 byValue:=λk v h=>by rcases eB h with ⟨i,t,rfl,rfl⟩ | ⟨x,t,rfl,rfl⟩ <;> rfl
 pyHash:=λhv h=>by
  rcases eB hv with ⟨i,t,rfl,rfl⟩ | ⟨x,t,rfl,rfl⟩
  ·exact wpAny_pyHash_int h
  ·exact WO h
 eqBool:=λhu hv h=>by
  rcases eB hu with ⟨i,t,rfl,rfl⟩ | ⟨x,t,rfl,rfl⟩
  ·rcases eB hv with ⟨j,u,rfl,rfl⟩ | ⟨y,u,rfl,rfl⟩
   ·rw [JR] at h;exact wpAny_eqBool_int h
   ·rw [JS] at h;exact Yd i t y u _ _ _ _ h
  ·rcases eB hv with ⟨j,u,rfl,rfl⟩ | ⟨y,u,rfl,rfl⟩
   ·rw [JT] at h;exact Ye x t j u _ _ _ _ h
   ·rw [Cg] at h;exact wpAny_eqBool_str h
 «strs»:=λk x t v h=>by
  rcases eB h with ⟨i,u,rfl,e⟩ | ⟨y,u,rfl,e⟩
  ·exact nomatch e
  ·injection e with e1 _
   subst e1;cases v <;> rfl
theorem yr (prog:Q2) (w:Ro) (i:Int) (t:Tok):(d_ prog w).is (.inl i) (.int i t)=true:=Ce i t
theorem yt (prog:Q2) (w:Ro) (x:Str) (t:Tok):(d_ prog w).is (.inr x) (.str x t)=true:=Cf x t
inductive V where
 | non | bl (b:Bool) | int (i:Int) | str (x:Str) | byt (b:Array UInt8) | flt (b:UInt64) | ref (a:Q4) | ty (n:String)
 deriving DecidableEq
noncomputable def RelV:V->QH->Prop
 | .non,u=>u=SS
 | .bl b,u=>u=Yz b
 | .int i,u=>∃t,u=UY i t
 | .str x,u=>∃t,u=Yc x t
 | .byt b,u=>∃t,u=aaK b t
 | .flt b,u=>∃t,u=aaL b t
 | .ref a,u=>u=Tj a
 | .ty n,u=>u=T4 n
noncomputable abbrev Vals:List V->List QH->Prop:=Wk RelV
theorem Vals.length {xs:List V}{us:List QH}(r:Vals xs us):xs.length=us.length:=Wy r
theorem Vals.get:∀{xs:List V}{us:List QH}{i:Nat}{x:V},Vals xs us->xs[i]?=some x->∃u,us[i]?=some u/\RelV x u
 | _,_,_,_,.nil,e=>by simp at e
 | _,_,0,_,.cons r _,e=>by simp at e;subst e;exact ⟨_,rfl,r⟩
 | _,_,i + 1,x,.cons _ t,e=>by obtain ⟨u,h1,h2⟩:=Vals.get (i:=i) (x:=x) t (by simpa using e);exact ⟨u,by simpa using h1,h2⟩
theorem Vals.append:∀{xs ys:List V}{us ws:List QH},Vals xs us->Vals ys ws->Vals (xs++ys) (us++ws)
 | _,_,_,_,.nil,s=>s
 | _,_,_,_,.cons r t,s=>.cons r (Vals.append t s)
theorem Vals.take:∀{xs:List V}{us:List QH}(n:Nat),Vals xs us->Vals (xs.take n) (us.take n)
 | _,_,0,_=>.nil
 | _,_,_ + 1,.nil=>.nil
 | _,_,n + 1,.cons r t=>.cons r (Vals.take n t)
theorem Vals.drop:∀{xs:List V}{us:List QH}(n:Nat),Vals xs us->Vals (xs.drop n) (us.drop n)
 | _,_,0,r=>r
 | _,_,_ + 1,.nil=>.nil
 | _,_,n + 1,.cons _ t=>Vals.drop n t
noncomputable def iF:Option V->Option QH->Prop
 | some v,some u=>RelV v u
 | none,none=>True
 | _,_=>False
noncomputable def KV {κ:Type}:List (κ×V)->List (κ×QH)->Prop:=Wk λ(p:κ×V) (q:κ×QH)=>p.1=q.1/\RelV p.2 q.2
noncomputable def kV:Key->V
 | .inl i=>.int i
 | .inr x=>.str x
inductive HO where
  | lst (xs:List V)
  | tup (xs:List V)
  | dK (QC:List (Key×V)) | dT (QC:List (List Key×V))
  | set (S:Int->Bool) (n:Nat)
  | ins (C dx:Q4) (fs:List (Str×V))
  | own (x:Q4)
  | xd (fs:List (Str×V))
  | met (f x:Q4)
  | rng (lo hi:Int)
  | frz (o:Obj) (u:HO)
  | tbl (ps:Array QH)
  | ext (φ:Sa->Prop)
 | memo (dom:List (List Int)) (f:List Int->Bool)
noncomputable abbrev Hp:=Q4->Option HO
noncomputable def upd (H:Hp) (a:Q4) (o:HO):Hp:=λb=>if b=a then some o else H b
theorem bI {H:Hp}:upd H a o a=some o:=by unfold upd;rw [if_pos rfl]
theorem bh {H:Hp}(h:b≠a):upd H a o b=H b:=by unfold upd;rw [if_neg h]
theorem Iu {H:Hp}:upd (upd H a o) a u=upd H a u:=by funext b;unfold upd;split <;> rfl
theorem LV {H:Hp}{a b:Q4}{o u:HO}(h:H a=some o) (h':H b=some u) (d:o≠u):a≠b:=by intro e;subst e;rw [h] at h';exact d (RP h')
theorem fH {H:Hp}(h:H a=some o) (h':H b=none):a≠b:=by intro e;subst e;rw [h] at h';cases h'
section
variable (P:Q2) (w:Ro)
noncomputable def Nz (h:Sa) (a:Q4):Prop:=∀o,h.get? a=some o->o.dict=none
noncomputable def cu (H:Hp) (h:Sa) (a:Q4):HO->Prop
 | .lst xs=>xs.length<=sizeLine/\∃(Qx:List QH) (n:Nat),Vals xs Qx/\h.get? a=some {cls:=.type "list",data:=.seq Qx.toArray n}
 | .tup xs=>xs.length<=sizeLine/\∃Qx:List QH,Vals xs Qx/\IsTup h a Qx.toArray/\Nz h a
 | .dK QC=>QC.length<=sizeLine/\(a == RY)=false/\∃vs,KV QC vs/\h.DictOf (d_ P w) a vs
 | .dT QC=>QC.length<=sizeLine/\(a == RY)=false/\∃xs:List (List Key×Q4×QH),
   Wk (λ(p:List Key×V) (q:List Key×Q4×QH)=>p.1=q.1/\H q.2.1=some (.tup (p.1.map kV))/\RelV p.2 q.2.2) QC xs/\
   ∃o es ep,h.get? a=some o/\o.ExactDict/\o.data=.dict es ep/\es.toList=xs.map (entryOfKey (W9 (d_ P w)))/\(xs.map (·.1)).Nodup
 | .set S n=>h.SetOf (intKind P w) a S n
 | .ins C dx fs=>H dx=some (.own a)/\fs.length<=1000/\dx≠a/\h.get? a=some (Tu C dx)/\
   ∃mA,h.Ns1 dx mA/\(∀f,iF (fs.lookup f) (mA f))/\YW mA (fs.map (·.1))
 | .own _=>∃o,h.get? a=some o
 | .xd fs=>∃mA,h.Ns1 a mA/\∀f,iF (fs.lookup f) (mA f)
 | .rng lo hi=>∃t u v,h.get? a=some {cls:=.type "range",data:=.fields #[.int lo t,.int hi u,.int 1 v]}
 | .frz o u=>h.get? a=some o/\cu H h a u
 | .tbl ps=>h.get? a=some {cls:=.none,data:=.fields ps}
 | .met f x=>h.get? a=some (Wl (.ref f) (.ref x))
 | .ext φ=>φ h/\(∃o,h.get? a=some o)/\∀h1 h2:Sa,φ h1->(∀o,h1.get? a=some o->h2.get? a=some o)->φ h2
 | .memo dom f=>(a == RY)=false/\dom.length < sizeLine/\∃QC:List (List Key×V),(∀p∈QC,∃is,is∈dom/\p=(is.map Tq,V.bl (f is)))/\∃xs:List (List Key×Q4×QH),
   Wk (λ(p:List Key×V) (q:List Key×Q4×QH)=>p.1=q.1/\H q.2.1=some (.tup (p.1.map kV))/\RelV p.2 q.2.2) QC xs/\
   ∃o es ep,h.get? a=some o/\o.ExactDict/\o.data=.dict es ep/\es.toList=xs.map (entryOfKey (W9 (d_ P w)))/\(xs.map (·.1)).Nodup
noncomputable def eW (H:Hp) (h:Sa):Prop:=∀a o,H a=some o->cu P w H h a o
end
section
variable {P:Q2}{w:Ro}{H H':Hp}{h h':Sa}{a:Q4}{o:HO}
theorem cu.lt (x:cu P w H h a o):a < h.objs.size:=by
 cases o with
 | lst xs=>obtain ⟨_,_,_,_,e⟩:=x;exact Q6 e
 | tup xs=>obtain ⟨_,_,_,p,_⟩:=x;exact p.lt
 | dK QC=>obtain ⟨_,_,_,_,o,_,_,e,_⟩:=x;exact Q6 e
 | dT QC=>obtain ⟨_,_,_,_,o,_,_,e,_⟩:=x;exact Q6 e
 | set S n=>obtain ⟨o,_,_,_,e,_⟩:=x;exact Q6 e
 | ins C dx fs=>obtain ⟨_,_,_,e,_⟩:=x;exact Q6 e
 | own y=>obtain ⟨_,e⟩:=x;exact Q6 e
 | xd fs=>obtain ⟨_,⟨_,_,_,e,_⟩,_⟩:=x;exact Q6 e
 | rng lo hi=>obtain ⟨_,_,_,e⟩:=x;exact Q6 e
 | frz ob u=>obtain ⟨e,_⟩:=x;exact Q6 e
 | tbl ps=>exact Q6 (show h.get? a=some _ from x)
 | met f y=>exact Q6 (show h.get? a=some _ from x)
 | ext φ=>obtain ⟨_,⟨_,e⟩,_⟩:=x;exact Q6 e
 | memo d f=>obtain ⟨_,_,_,_,_,_,o,_,_,e,_⟩:=x;exact Q6 e
theorem Wk.mapP {α β:Type}{F G:α->β->Prop}:∀{l₁:List α}{l₂:List β},Wk F l₁ l₂->(∀a b,F a b->G a b)->Wk G l₁ l₂
 | _,_,.nil,_=>.nil
 | _,_,.cons r t,f=>.cons (f _ _ r) (Wk.mapP t f)
theorem cu.stay (x:cu P w H h a o) (k:∀b u,(b=a\/H b=some (.own a))->h.get? b=some u->h'.get? b=some u)
  (ho:∀b,H b=some (.own a)->H' b=some (.own a)) (ht:∀b xs,H b=some (.tup xs)->H' b=some (.tup xs)):cu P w H' h' a o:=by
 induction o with
 | lst xs=>obtain ⟨z,Qx,n,r,e⟩:=x;exact ⟨z,Qx,n,r,k _ _ (.inl rfl) e⟩
 | tup xs=>obtain ⟨z,Qx,r,⟨ob,e,c⟩,nd⟩:=x;exact ⟨z,Qx,r,⟨ob,k _ _ (.inl rfl) e,c⟩,λo q=>by rw [k _ _ (.inl rfl) e] at q;cases q;exact nd _ e⟩
 | dK QC=>obtain ⟨z,y,vs,r,ob,es,ep,e,c⟩:=x;exact ⟨z,y,vs,r,ob,es,ep,k _ _ (.inl rfl) e,c⟩
 | dT QC=>
  obtain ⟨z,y,xs,r,ob,es,ep,e,c⟩:=x;exact ⟨z,y,xs,Wk.mapP r λp q z=>⟨z.1,ht _ _ z.2.1,z.2.2⟩,ob,es,ep,k _ _ (.inl rfl) e,c⟩
 | set S n=>obtain ⟨ob,es,ep,t,e,c⟩:=x;exact ⟨ob,es,ep,t,k _ _ (.inl rfl) e,c⟩
 | ins C dx fs=>
  obtain ⟨d,z,ne,e,mA,⟨od,es,ep,e2,c⟩,r⟩:=x;exact ⟨ho _ d,z,ne,k _ _ (.inl rfl) e,mA,⟨od,es,ep,k _ _ (.inr d) e2,c⟩,r⟩
 | own y=>obtain ⟨ob,e⟩:=x;exact ⟨ob,k _ _ (.inl rfl) e⟩
 | xd fs=>obtain ⟨mA,⟨od,es,ep,e,c⟩,r⟩:=x;exact ⟨mA,⟨od,es,ep,k _ _ (.inl rfl) e,c⟩,r⟩
 | rng lo hi=>obtain ⟨t,u,v,e⟩:=x;exact ⟨t,u,v,k _ _ (.inl rfl) e⟩
 | frz ob u ih=>obtain ⟨e,q⟩:=x;exact ⟨k _ _ (.inl rfl) e,ih q⟩
 | tbl ps=>
  have e:h.get? a=some {cls:=.none,data:=.fields ps}:=x;show h'.get? a=some {cls:=.none,data:=.fields ps};exact k a _ (.inl rfl) e
 | met f y=>
  have e:h.get? a=some (Wl (.ref f) (.ref y)):=x;show h'.get? a=some (Wl (.ref f) (.ref y));exact k a _ (.inl rfl) e
 | ext φ=>obtain ⟨p,⟨o,e⟩,st⟩:=x;exact ⟨st _ _ p λo q=>k _ _ (.inl rfl) q,⟨o,k _ _ (.inl rfl) e⟩,st⟩
 | memo d f=>
  obtain ⟨y,z,QC,m,xs,r,ob,es,ep,e,c⟩:=x;exact ⟨y,z,QC,m,xs,Wk.mapP r λp q z=>⟨z.1,ht _ _ z.2.1,z.2.2⟩,ob,es,ep,k _ _ (.inl rfl) e,c⟩
theorem eW.lt (x:eW P w H h) (e:H a=some o):a < h.objs.size:=(x a o e).lt
theorem eW.fresh (x:eW P w H h) (e:h.objs.size<=a):H a=none:=by
 cases q:H a with
 | none=>rfl
 | some u=>exact absurd (Q9 (x.lt q) e) (TU _)
theorem eW.kept (x:eW P w H h) (k:∀b u,h.get? b=some u->h'.get? b=some u):eW P w H h':=λa o e=>
 (x a o e).stay (λb u _ q=>k b u q) (λ_ q=>q) λ_ _ q=>q
theorem eW.laid (x:eW P w H h) (k:∀b u,h.get? b=some u->h'.get? b=some u) (hp:h.objs.size<=a) (new:cu P w (upd H a o) h' a o):eW P w (upd H a o) h':=λb u e=>by
 have hn:=x.fresh hp;by_cases hb:b=a
 ·subst hb;rw [bI] at e;cases e;exact new
 ·rw [bh hb] at e;exact (x b u e).stay (λc v _ q=>k c v q) (λc q=>by rw [bh (fH q hn)];exact q) λc xs q=>by rw [bh (fH q hn)];exact q
end
noncomputable def Rd (H:Hp) (a:Q4) (u:HO):Prop:=H a=some u\/∃o,H a=some (.frz o u)
theorem Rd.ok {H:Hp}(r:Rd H a u) (x:eW P w H h):cu P w H h a u:=by
 rcases r with r | ⟨o,r⟩
 ·exact x a u r
 ·obtain ⟨_,q⟩:=x a _ r;exact q
noncomputable def Bo:Option HO->Prop
 | some (.lst _)=>True
 | some (.dK _)=>True
 | some (.dT _)=>True
 | some (.set _ _)=>True
 | some (.ins _ _ _)=>True
 | some (.ext _)=>True
 | some (.memo _ _)=>True
 | _=>False
section
variable {P:Q2}{w:Ro}{H:Hp}{h h':Sa}{x e:Q4}{o':HO}
theorem eW.write (ok:eW P w H h) (mu:Bo (H x)) (he:e=x\/H e=some (.own x)) (k:∀b u,b≠e->h.get? b=some u->h'.get? b=some u) (O0:∃u,h'.get? e=some u)
  (new:cu P w (upd H x o') h' x o'):eW P w (upd H x o') h':=λb u q=>by
 have nown:∀c y,H c=some (.own y)->c≠x:=λc y r z=>by subst z;rw [r] at mu;exact mu
 have ntup:∀c xs,H c=some (.tup xs)->c≠x:=λc xs r z=>by subst z;rw [r] at mu;exact mu
 by_cases hb:b=x
 ·subst hb;rw [bI] at q;cases q;exact new
 ·rw [bh hb] at q;by_cases OX:b=e
  ·have q':H b=some (.own x):=by
    rcases he with z | z
    ·exact absurd (OX.trans z) hb
    ·rw [OX];exact z
   rw [q] at q';cases q';obtain ⟨v,hv⟩:=O0;exact ⟨v,by rw [OX];exact hv⟩
  ·refine (ok b u q).stay (λc v hc r=>k c v ?_ r) (λc r=>by rw [bh (nown c b r)];exact r) λc xs r=>by rw [bh (ntup c xs r)];exact r
   rcases hc with rfl | hc
   ·exact OX
   ·rintro rfl;rcases he with z | z
    ·exact nown c b hc z
    ·rw [hc] at z;cases z;exact hb rfl
end
structure Un (fs ex:List Q4) (H H':Hp) (h h':Sa):Prop where
 keep:∀b o,h.get? b=some o->H b=none->b∉fs->b∉ex->h'.get? b=some o
 slot:∀b o,h.get? b=some o->H b=none->b∈fs->b∉ex->∃sl,h'.get? b=some {o with slots:=sl}
 free:∀b o,h.get? b=some o->H b=none->b∉ex->H' b=none
 there:∀b o,h.get? b=some o->b∉ex->∃o',h'.get? b=some o'
 tups:∀b xs,H b=some (.tup xs)->H' b=some (.tup xs)
 frzs:∀b o u,H b=some (.frz o u)->H' b=some (.frz o u)
 tbls:∀b ps,H b=some (.tbl ps)->∃more,H' b=some (.tbl (ps++more))
section
variable {fs fs' ex ex':List Q4}{H H1 H2:Hp}{h h1 h2 h':Sa}{a x e:Q4}{o:HO}
theorem Un.any (u:Un fs ex H H1 h h1) (q:h.get? b=some ob) (n:H b=none) (hx:b∉ex):∃sl,h1.get? b=some {ob with slots:=sl}:=by
 by_cases hb:b∈fs
 ·exact u.slot b ob q n hb hx
 ·exact ⟨ob.slots,u.keep b ob q n hb hx⟩
theorem Un.kept (k:∀b u,h.get? b=some u->h'.get? b=some u):Un fs ex H H h h':=
 ⟨λb ob q _ _ _=>k b ob q,λb ob q _ _ _=>⟨ob.slots,k b ob q⟩,λ_ _ _ n _=>n,λb ob q _=>⟨ob,k b ob q⟩,λ_ _ q=>q,λ_ _ _ q=>q,λ_ ps q=>⟨#[],by rw [q];simp⟩⟩
theorem Un.refl:Un fs ex H H h h:=Un.kept λ_ _ q=>q
theorem Un.laid (k:∀b u,h.get? b=some u->h'.get? b=some u) (hp:h.objs.size<=a) (hn:H a=none):Un fs ex H (upd H a o) h h' where
 keep:=λb u q _ _ _=>k b u q
 slot:=λb u q _ _ _=>⟨u.slots,k b u q⟩
 free:=λb u q n _=>by rw [bh (Q7 (Q9 (Q6 q) hp))];exact n
 there:=λb u q _=>⟨u,k b u q⟩
 tups:=λb xs q=>by rw [bh (fH q hn)];exact q
 frzs:=λb u xs q=>by rw [bh (fH q hn)];exact q
 tbls:=λb ps q=>⟨#[],by rw [bh (fH q hn),q];simp⟩
theorem Un.write (mu:Bo (H x)) (he:e=x\/H e=some (.own x)) (k:∀b u,b≠e->h.get? b=some u->h'.get? b=some u) (O0:∃u,h'.get? e=some u):Un fs ex H (upd H x o) h h':=by
 have hx:∀b,H b=none->b≠x:=λb n z=>by subst z;rw [n] at mu;exact mu
 have hb:∀b,H b=none->b≠e:=λb n z=>by
  subst z;rcases he with r | r
  ·exact hx b n r
  ·rw [n] at r;cases r
 have hm:∀b u,H b=some u->¬Bo (some u)->b≠x:=λb u q nm z=>by subst z;rw [q] at mu;exact nm mu
 refine ⟨λb u q n _ _=>k b u (hb b n) q,λb u q n _ _=>⟨u.slots,k b u (hb b n) q⟩,λb u q n _=>by rw [bh (hx b n)];exact n,λb u q _=>?_,
  λb xs q=>by rw [bh (hm b _ q λz=>z)];exact q,λb u xs q=>by rw [bh (hm b _ q λz=>z)];exact q,λb ps q=>⟨#[],by rw [bh (hm b _ q λz=>z),q];simp⟩⟩
 by_cases OX:b=e
 ·subst OX;exact O0
 ·exact ⟨u,k b u OX q⟩
end
noncomputable def Du (h:Sa) (H:Hp):List Q4:=(QX h.objs.size).filter λa=>(H a).isSome
noncomputable def lR (h:Sa) (H:Hp):Sa:=W.hideAll h (Du h H)
theorem B7 (h:Sa) (H:Hp):(lR h H).objs.size=h.objs.size:=W.hideAll_size _ _
theorem Eh {h:Sa}{H:Hp}(e:h.get? b=some o) (n:H b=none):(lR h H).get? b=some o:=
 W.hideAll_get _ e λhm=>by have q:(H b).isSome=true:=(SH.mp hm).2;rw [n] at q;simp at q
theorem Hf {h:Sa}{H:Hp}(e:(lR h H).get? b=some o):h.get? b=some o/\H b=none:=by
 have e':h.get? b=some o:=W.of_hideAll (Du h H) e;refine ⟨e',?_⟩;cases q:H b with
 | none=>rfl
 | some x=>
  have hm:b∈Du h H:=SH.mpr ⟨Rc.mpr (Q6 e'),by simp [q]⟩;have z:(lR h H).get? b=none:=W.hideAll_none (Du h H) hm;rw [z] at e;cases e
noncomputable def Gx (g h:Sa) (L:Q4):List (Q4×Obj):=(QX h.objs.size).filterMap λa=>if a=L\/(g.get? a).isSome=true then none else (h.get? a).map λo=>(a,o)
noncomputable def rest (g h:Sa) (L d:Q4):List (Q4×Obj):=(Gx g h L).filter λp=>decide (p.1≠d)
structure Mod (K:QG) (mg:Str->Option QH) (base:Sa):Prop where
 kin:K.In base
 glob:base.Ns Q_ mg
 blt:∃mb,base.Ns ZZ mb/\∀x:Str,x≠"__name__"->mb x=Sm x
 nolimit:base.NoLimit
structure Cx where
 prog:Q2
 w:Ro
 K:QG
 mg:Str->Option QH
 base:Sa
 A:RA
 N:List Str
 s₀:QL
 H₀:Hp
 env:Env
 outer:List Env
 stack:List Env
 ex:List Q4
 fn:Str->Bool
 calm:Bool
 pn:List (Q4×Obj)
 xe:QH->QL->Prop
noncomputable def frs (l:List Env):List Q4:=l.filterMap (·.frame)
noncomputable abbrev Cx.fs (X:Cx):List Q4:=frs X.outer
noncomputable def mF (sc:Uo) (x:Str):Prop:=sc.names.lookup x=some .local\/sc.names.lookup x=some .cell\/sc.names.lookup x=some .free
noncomputable def Loc (sc:Uo) (x:Str):Prop:=sc.names.lookup x=some .local\/sc.names.lookup x=some .cell
noncomputable def Look (env:Env) (h:Sa) (m:Str->Option QH) (x:Str) (u:QH):Prop:=
 (env.kindOf x=some .local/\m x=some u)\/((env.kindOf x=some .cell\/env.kindOf x=some .free)/\∃c,env.cells.lookup x=some c/\h.IsCell c (some u))
structure Cx.Ok (X:Cx):Prop where
 mod:Mod X.K X.mg X.base
 kind:X.env.scope.kind=.function
 glob:X.env.globals=Q_
 blt:X.env.builtins=ZZ
 above:X.s₀.heap.objs.size<=X.env.locals
 inj:∀x y c,X.env.cells.lookup x=some c->X.env.cells.lookup y=some c->x=y
 has:∀x,(X.env.kindOf x=some .cell\/X.env.kindOf x=some .free)->∃c,X.env.cells.lookup x=some c
 cab:∀x c,X.fn x=true->X.env.cells.lookup x=some c->X.s₀.heap.objs.size<=c
 hd:X.calm=true->X.A.handled=none
 frames:X.A.frames=some X.stack
 stk:X.stack=X.outer\/(X.stack=X.env::X.outer/\X.env.frame=some X.env.locals)
 exf:∀b∈X.ex,b≠X.env.locals/\∀x c,X.env.cells.lookup x=some c->c≠b
 bs:∀b o,X.base.get? b=some o->X.s₀.heap.get? b=some o/\X.H₀ b=none
 bsz:X.base.objs.size<=X.s₀.heap.objs.size
 noex:∀b o,X.base.get? b=some o->b∉X.ex
 exfs:∀b∈X.ex,b∉X.fs
 funs:X.s₀.heap.FunFrames X.base X.outer
 frf:∀b∈X.fs,X.H₀ b=none
structure Inv (X:Cx) (Qw:List (Q4×Obj)) (σ:List (Option V)) (H:Hp) (s:QL):Prop where
 ok:X.Ok
 os:s.os=X.s₀.os
 bare:Wz s.gens
 base:Un X.fs X.ex X.H₀ H X.s₀.heap s.heap
 loc:∃m,s.heap.Ns X.env.locals m/\∀(i:Nat) (x:Str) (v:V),X.N[i]?=some x->σ[i]?=some (some v)->mF X.env.scope x->∃u,RelV v u/\Look X.env s.heap m x u
 cell:∀x c,X.env.cells.lookup x=some c->∃v,s.heap.IsCell c v
 free:H X.env.locals=none
 freeC:∀x c,X.env.cells.lookup x=some c->H c=none
 pin:∀p∈X.pn++Qw,s.heap.get? p.1=some p.2/\H p.1=none/\p.1≠X.env.locals/\p.1∉X.fs/\∀v,p.2.data≠.cell v
 hok:eW X.prog X.w H s.heap
 len:σ.length=X.N.length
section
variable {X:Cx}{Qw:List (Q4×Obj)}{σ:List (Option V)}{H H':Hp}{s:QL}{h':Sa}
theorem Cx.Ok.nofr (ok:X.Ok) (e:X.base.get? b=some o):b∉X.fs:=λhb=>by have:=(ok.funs.mem hb).1;rw [e] at this;cases this
theorem Inv.bs (I:Inv X Qw σ H s):∀b o,X.base.get? b=some o->s.heap.get? b=some o/\H b=none:=λb o e=>
 ⟨I.base.keep b o (I.ok.bs b o e).1 (I.ok.bs b o e).2 (I.ok.nofr e) (I.ok.noex b o e),I.base.free b o (I.ok.bs b o e).1 (I.ok.bs b o e).2 (I.ok.noex b o e)⟩
theorem Inv.bk (I:Inv X Qw σ H s):∀b o,X.base.get? b=some o->s.heap.get? b=some o:=λb o e=>(I.bs b o e).1
theorem Inv.mod (I:Inv X Qw σ H s):Mod X.K X.mg X.base:=I.ok.mod
theorem Inv.kIn (I:Inv X Qw σ H s):X.K.In s.heap:=I.ok.mod.kin.keeps I.bk
theorem Inv.lt (I:Inv X Qw σ H s):X.env.locals < s.heap.objs.size:=let ⟨_,hn,_⟩:=I.loc;hn.lt
theorem Inv.sz (I:Inv X Qw σ H s):X.s₀.heap.objs.size<=s.heap.objs.size:=RG I.ok.above (Vs I.lt)
theorem Inv.nofs (I:Inv X Qw σ H s) (h:s.heap.objs.size<=a):a∉X.fs:=λhb=>by obtain ⟨_,o,ho,_⟩:=I.ok.funs.mem hb;exact absurd (Q9 (Q6 ho) (RG I.sz h)) (TU _)
theorem Inv.cne (I:Inv X Qw σ H s):∀x c,X.env.cells.lookup x=some c->c≠X.env.locals:=λx c e z=>by obtain ⟨v,o,ho,hd⟩:=I.cell x c e;obtain ⟨m,⟨o',es,ep,ho',hd',_⟩,_⟩:=I.loc;rw [z,ho'] at ho;cases ho;rw [hd'] at hd;cases hd
theorem Inv.funs (I:Inv X Qw σ H s):s.heap.FunFrames X.base X.outer:=by
 have all:∀(l:List Env),(∀b∈frs l,b∈X.fs)->X.s₀.heap.FunFrames X.base l->s.heap.FunFrames X.base l:=by
  intro l
  induction l with
  | nil=>intro _ _;trivial
  | cons env r ih=>
   intro hs hl;obtain ⟨hk,⟨L,o,hf,hn,ho,hd⟩,hr⟩:=hl;have hL:L∈X.fs:=hs L (by unfold frs;rw [UQ,hf];exact QT);obtain ⟨sl,e⟩:=I.base.slot L o ho (I.ok.frf L hL) hL λz=>I.ok.exfs L z hL;exact ⟨hk,⟨L,_,hf,hn,e,hd⟩,ih (λb hb=>hs b (by unfold frs;rw [UQ,hf];exact QO _ hb)) hr⟩
 exact all X.outer (λ_ hb=>hb) I.ok.funs
theorem Inv.stack (I:Inv X Qw σ H s):s.heap.FunFrames X.base X.stack:=by
 rcases I.ok.stk with e | ⟨e,hf⟩
 ·rw [e];exact I.funs
 ·rw [e];obtain ⟨m,hn,_⟩:=I.loc;refine .cons (by rw [I.ok.kind];decide) hf hn ?_ I.funs;exact Heap.get?_none_of_le (RG I.ok.bsz I.ok.above)
theorem Inv.stkSub (I:Inv X Qw σ H s):∀b∈frs X.stack,b∈X.env.locals::X.fs:=λb hb=>by
 rcases I.ok.stk with e | ⟨e,hf⟩
 ·rw [e] at hb;exact QO _ hb
 ·rw [e] at hb;unfold frs at hb;rw [UQ,hf] at hb;exact hb
theorem Inv.stkFree (I:Inv X Qw σ H s):∀b∈frs X.stack,H b=none:=λb hb=>by
 rcases QZ.mp (I.stkSub b hb) with e | hb
 ·rw [e];exact I.free
 ·obtain ⟨_,o,ho,_⟩:=I.ok.funs.mem hb;exact I.base.free b o ho (I.ok.frf b hb) λz=>I.ok.exfs b z hb
theorem Inv.step {g':Array aa7}{t':Nat}{d':Drawn}{ch:List Q4}(I:Inv X Qw σ H s)
  (hch:∀b∈ch,(b∈X.ex\/X.s₀.heap.objs.size<=b)/\b≠X.env.locals/\(∀x c,X.env.cells.lookup x=some c->c≠b)/\∀p∈X.pn++Qw,p.1≠b)
  (keep:∀b o,b≠X.env.locals->b∉X.fs->b∉ch->s.heap.get? b=some o->H b=none->h'.get? b=some o)
  (slot:∀b o,b≠X.env.locals->b∈X.fs->b∉ch->s.heap.get? b=some o->H b=none->∃sl,h'.get? b=some {o with slots:=sl}) (free:∀b o,b∉ch->s.heap.get? b=some o->H b=none->H' b=none)
  (there:∀b o,b∉ch->s.heap.get? b=some o->∃o',h'.get? b=some o')
  (tups:∀b xs,H b=some (.tup xs)->H' b=some (.tup xs)) (frzs:∀b o u,H b=some (.frz o u)->H' b=some (.frz o u)) (tbls:∀b ps,H b=some (.tbl ps)->∃more,H' b=some (.tbl (ps++more)))
  (ns:∀m,s.heap.Ns X.env.locals m->h'.Ns X.env.locals m) (hok:eW X.prog X.w H' h') (hg:Wz g'):
  Inv X Qw σ H' {s with heap:=h',gens:=g',drawn:=d',toks:=t'}:=by
 have neL:∀b o,X.s₀.heap.get? b=some o->b≠X.env.locals:=λb o e=>Q7 (Q9 (Q6 e) I.ok.above);have neC:∀b o,X.s₀.heap.get? b=some o->b∉X.ex->b∉ch:=λb o e hx hb=>by
  rcases (hch b hb).1 with z | z
  ·exact hx z
  ·exact absurd (Q9 (Q6 e) z) (TU _)
 have cellK:∀x c,X.env.cells.lookup x=some c->∀v,s.heap.IsCell c v->h'.IsCell c v:=λx c e v ⟨o,ho,hd⟩=>by
  have nch:c∉ch:=λz=>(hch c z).2.2.1 x c e rfl;by_cases hc:c∈X.fs
  ·obtain ⟨sl,q⟩:=slot c o (I.cne x c e) hc nch ho (I.freeC x c e);exact ⟨_,q,hd⟩
  ·exact ⟨o,keep c o (I.cne x c e) hc nch ho (I.freeC x c e),hd⟩
 refine ⟨I.ok,I.os,hg,⟨λb o e n hb hx=>?_,λb o e n hb hx=>?_,λb o e n hx=>?_,λb o e hx=>?_,λb xs e=>tups b xs (I.base.tups b xs e),λb o xs e=>frzs b o xs (I.base.frzs b o xs e),λb ps e=>?_⟩,?_,λx c e=>?_,?_,λx c e=>?_,λp hp=>?_,hok,I.len⟩
 ·exact keep b o (neL b o e) hb (neC b o e hx) (I.base.keep b o e n hb hx) (I.base.free b o e n hx)
 ·obtain ⟨sl,e1⟩:=I.base.slot b o e n hb hx;obtain ⟨sl',e2⟩:=slot b _ (neL b o e) hb (neC b o e hx) e1 (I.base.free b o e n hx);exact ⟨sl',e2⟩
 ·obtain ⟨o',e1⟩:=I.base.there b o e hx;exact free b o' (neC b o e hx) e1 (I.base.free b o e n hx)
 ·obtain ⟨o',e1⟩:=I.base.there b o e hx;exact there b o' (neC b o e hx) e1
 ·obtain ⟨m1,e1⟩:=I.base.tbls b ps e;obtain ⟨m2,e2⟩:=tbls b _ e1;exact ⟨m1++m2,by rw [e2,Array.append_assoc]⟩
 ·obtain ⟨m,hn,hl⟩:=I.loc;refine ⟨m,ns m hn,λi x v e1 e2 e3=>?_⟩;obtain ⟨u,r,l⟩:=hl i x v e1 e2 e3;refine ⟨u,r,?_⟩;rcases l with l | ⟨k,c,e,z⟩
  ·exact .inl l
  ·exact .inr ⟨k,c,e,cellK x c e _ z⟩
 ·obtain ⟨v,z⟩:=I.cell x c e;exact ⟨v,cellK x c e v z⟩
 ·obtain ⟨m,⟨o,_,_,ho,_⟩,_⟩:=I.loc;exact free _ o (λz=>(hch _ z).2.1 rfl) ho I.free
 ·obtain ⟨v,o,ho,hd⟩:=I.cell x c e;exact free c o (λz=>(hch c z).2.2.1 x c e rfl) ho (I.freeC x c e)
 ·obtain ⟨e,n,ne,nf,d⟩:=I.pin p hp;have nch:p.1∉ch:=λz=>(hch p.1 z).2.2.2 p hp rfl;exact ⟨keep p.1 p.2 ne nf nch e n,free p.1 p.2 nch e n,ne,nf,d⟩
theorem Inv.un (I:Inv X Qw σ H s) (u:Un X.fs [] H H' s.heap h') (hok:eW X.prog X.w H' h'):Inv X Qw σ H' {s with heap:=h',toks:=t'}:=by
 obtain ⟨m,⟨o,es,ep,ho,r⟩,_⟩:=id I.loc;obtain ⟨sl,hL⟩:=u.any ho I.free (by simp);exact I.step (g':=s.gens) (d':=s.drawn) (ch:=[]) (λ_ z=>nomatch z) (λb o _ hb _ e n=>u.keep b o e n hb (by simp)) (λb o _ hb _ e n=>u.slot b o e n hb (by simp)) (λb o _ e n=>u.free b o e n (by simp)) (λb o _ e=>u.there b o e (by simp)) u.tups u.frzs u.tbls (λm' hm=>by
  obtain ⟨o',es',ep',ho',r'⟩:=hm;rw [ho] at ho';cases ho';exact ⟨_,es',ep',hL,r'⟩) hok I.bare
theorem Inv.call (I:Inv X Qw σ H s) (u:Un (frs X.stack) ch H H' s.heap h') (hok:eW X.prog X.w H' h') (hg:Wz g')
 (hch:∀b∈ch,(b∈X.ex\/X.s₀.heap.objs.size<=b)/\b≠X.env.locals/\(∀x c,X.env.cells.lookup x=some c->c≠b)/\∀p∈X.pn++Qw,p.1≠b):
  Inv X Qw σ H' {s with heap:=h',gens:=g',drawn:=d',toks:=t'}:=by
 obtain ⟨m,⟨o,es,ep,ho,r⟩,_⟩:=id I.loc;obtain ⟨sl,hL⟩:=u.any ho I.free λz=>(hch _ z).2.1 rfl;exact I.step (ch:=ch) hch (λb o hL hb hc e n=>u.keep b o e n (λz=>(QZ.mp (I.stkSub b z)).elim hL hb) hc) (λb o _ _ hc e n=>u.any e n hc) (λb o hc e n=>u.free b o e n hc) (λb o hc e=>u.there b o e hc) u.tups u.frzs u.tbls (λm' hm=>by
  obtain ⟨o',es',ep',ho',r'⟩:=hm;rw [ho] at ho';cases ho';exact ⟨_,es',ep',hL,r'⟩) hok hg
theorem Inv.turned {t':Nat}{it:Q4}(I:Inv X Qw σ H s) (k:∀b o,b≠it->s.heap.get? b=some o->h'.get? b=some o) (hn:H it=none) (hL:it≠X.env.locals)
  (h1:it∈X.ex\/X.s₀.heap.objs.size<=it) (h2:∀x c,X.env.cells.lookup x=some c->c≠it) (h3:∀p∈X.pn++Qw,p.1≠it):Inv X Qw σ H {s with heap:=h',toks:=t'}:=by
 have nit:∀b u,H b=some u->b≠it:=λb u e z=>by rw [z,hn] at e;cases e
 refine I.step (g':=s.gens) (d':=s.drawn) (ch:=[it]) (λb hb=>?_) (λb o _ _ hc e _=>k b o (λz=>hc (by simp [z])) e) (λb o _ _ hc e _=>⟨o.slots,k b o (λz=>hc (by simp [z])) e⟩) (λ_ _ _ _ n=>n)
  (λb o hc e=>⟨o,k b o (λz=>hc (by simp [z])) e⟩) (λ_ _ e=>e) (λ_ _ _ e=>e) (λb ps e=>⟨#[],by rw [e];simp⟩) (λm hm=>?_) (λb u e=>?_) I.bare
 ·have e:b=it:=by simpa using hb
  subst e;exact ⟨h1,hL,h2,h3⟩
 ·obtain ⟨o,es,ep,ho,r⟩:=hm;exact ⟨o,es,ep,k _ o (Sb hL) ho,r⟩
 ·refine (I.hok b u e).stay (λc v hc q=>k c v ?_ q) (λ_ q=>q) λ_ _ q=>q;rcases hc with z | z
  ·rw [z];exact nit b u e
  ·exact nit c _ z
theorem Inv.tok (I:Inv X Qw σ H s) (t:Nat):Inv X Qw σ H {s with toks:=t}:=I.un (h':=s.heap) (t':=t) Un.refl I.hok
theorem Inv.kept (I:Inv X Qw σ H s) (k:∀b u,s.heap.get? b=some u->h'.get? b=some u):Inv X Qw σ H {s with heap:=h',toks:=t'}:=I.un (Un.kept k) (I.hok.kept k)
theorem Inv.laid (I:Inv X Qw σ H s) (k:∀b u,s.heap.get? b=some u->h'.get? b=some u) (hp:s.heap.objs.size<=a) (new:cu X.prog X.w (upd H a o) h' a o):
  Inv X Qw σ (upd H a o) {s with heap:=h',toks:=t'}:=I.un (Un.laid k hp (I.hok.fresh hp)) (I.hok.laid k hp new)
theorem Inv.write (I:Inv X Qw σ H s) (mu:Bo (H x)) (he:e=x\/H e=some (.own x)) (k:∀b u,b≠e->s.heap.get? b=some u->h'.get? b=some u) (O0:∃u,h'.get? e=some u)
 (new:cu X.prog X.w (upd H x o) h' x o):Inv X Qw σ (upd H x o) {s with heap:=h',toks:=t'}:=I.un (Un.write mu he k O0) (I.hok.write mu he k O0 new)
theorem Inv.pins_of (I:Inv X Qw σ H s) (h:∀p∈pins',s.heap.get? p.1=some p.2/\H p.1=none/\p.1≠X.env.locals/\p.1∉X.fs/\∀v,p.2.data≠.cell v):Inv X pins' σ H s:=
 ⟨I.ok,I.os,I.bare,I.base,I.loc,I.cell,I.free,I.freeC,λp hp=>(Rl.mp hp).elim (λz=>I.pin p (Sl _ z)) (h p),I.hok,I.len⟩
theorem xr {N:List Str}(hN:N.Nodup){i j:Nat}{x:Str}(a:N[i]?=some x) (b:N[j]?=some x):i=j:=by obtain ⟨h1,e1⟩:=Rt.mp a;obtain ⟨h2,e2⟩:=Rt.mp b;exact (WQ hN).mp (e1.trans e2.symm)
theorem uE {M:ZJ}{E:QH->QL->Prop}{Q:Unit->QL->Prop}(I:Inv X Qw σ H s) (hN:X.N.Nodup) (hi:X.N[i]?=some x) (hx:Loc X.env.scope x) (r:RelV v u)
 (h:∀s',Inv X Qw (σ.set i (some v)) H s'->(∃a,SD a s.heap s'.heap/\(a=X.env.locals\/X.env.cells.lookup x=some a))->Q () s') (hf:X.fn x=true\/X.env.scope.names.lookup x=some .local:=by first | exact .inl rfl | exact .inr rfl | assumption):Q8 M A (aaq X.env x u) Q E s:=by
 obtain ⟨m,hn,hl⟩:=id I.loc;have hcls:(X.env.scope.kind == .class || (X.env.scope.kind == .module && X.env.locals != X.env.globals))=false:=by rw [I.ok.kind];rfl
 have hiσ:i < σ.length:=by rw [I.len];exact (Rt.mp hi).1
 have cne:=I.cne;have tracked:∀{a:Q4}{h':Sa},(∃o,s.heap.get? a=some o/\H a=none)->SD a s.heap h'->eW X.prog X.w H h':=fun {a h'} ha hs b ob e=>by
  obtain ⟨_,_,hfree⟩:=ha;refine (I.hok b ob e).stay (λc w' hc q=>(hs.2 c ?_).trans q) (λ_ q=>q) λ_ _ q=>q;rintro rfl;rcases hc with rfl | hc
  ·rw [hfree] at e;cases e
  ·rw [hfree] at hc;cases hc
 rcases hx with hk | hk
 ·refine wpAny_storeName_local hk hn (λh' hn' hs=>?_) hcls;obtain ⟨oL,_,_,Ql,_⟩:=id hn;refine h _ ⟨I.ok,I.os,I.bare,⟨λb o e n hb hx=>?_,λb o e n hb hx=>?_,I.base.free,λb o e hx=>?_,I.base.tups,I.base.frzs,I.base.tbls⟩,⟨_,hn',λj y v' e1 e2 e3=>?_⟩,λy c e=>?_,I.free,I.freeC,λp hp=>?_,tracked ⟨oL,Ql,I.free⟩ hs,by simpa using I.len⟩ ⟨_,hs,.inl rfl⟩
  ·exact (hs.2 b (Q7 (Q9 (Q6 e) I.ok.above))).trans (I.base.keep b o e n hb hx)
  ·obtain ⟨sl,e1⟩:=I.base.slot b o e n hb hx;exact ⟨sl,(hs.2 b (Q7 (Q9 (Q6 e) I.ok.above))).trans e1⟩
  ·obtain ⟨o',e1⟩:=I.base.there b o e hx;exact ⟨o',(hs.2 b (Q7 (Q9 (Q6 e) I.ok.above))).trans e1⟩
  ·by_cases hj:j=i
   ·subst hj;rw [hi] at e1;cases e1;rw [RV hiσ] at e2;cases e2;exact ⟨u,r,.inl ⟨hk,by simp⟩⟩
   ·rw [RH (Sb hj)] at e2;obtain ⟨u',r',q⟩:=hl j y v' e1 e2 e3;refine ⟨u',r',?_⟩;rcases q with ⟨k,e⟩ | ⟨k,c,e,z⟩
    ·refine .inl ⟨k,?_⟩;have:y≠x:=λe=>hj (xr hN e1 (e▸hi));simp [this,e]
    ·exact .inr ⟨k,c,e,z.sameBut hs (cne y c e)⟩
  ·obtain ⟨w',z⟩:=I.cell y c e;exact ⟨w',z.sameBut hs (cne y c e)⟩
  ·obtain ⟨e,n,ne,nf,d⟩:=I.pin p hp;exact ⟨(hs.2 p.1 ne).trans e,n,ne,nf,d⟩
 ·have hfn:X.fn x=true:=by
   rcases hf with z | z
   ·exact z
   ·rw [z] at hk;cases hk
  obtain ⟨c,hc⟩:=I.ok.has x (.inl hk);obtain ⟨w',z⟩:=I.cell x c hc;refine wpAny_storeName_cell I.ok.kind hk hc z (λh' hc' hs=>?_);obtain ⟨oc,hoc,Pr⟩:=id z;refine h {s with heap:=h'} ⟨I.ok,I.os,I.bare,⟨λb o e n hb hx=>?_,λb o e n hb hx=>?_,I.base.free,λb o e hx=>?_,I.base.tups,I.base.frzs,I.base.tbls⟩,⟨m,hn.sameBut hs (Sb (cne x c hc)),λj y v' e1 e2 e3=>?_⟩,λy c' e=>?_,I.free,I.freeC,λp hp=>?_,tracked ⟨oc,hoc,I.freeC x c hc⟩ hs,by simpa using I.len⟩ ⟨c,hs,.inr hc⟩
  ·exact (hs.2 b (Q7 (Q9 (Q6 e) (I.ok.cab x c hfn hc)))).trans (I.base.keep b o e n hb hx)
  ·obtain ⟨sl,e1⟩:=I.base.slot b o e n hb hx;exact ⟨sl,(hs.2 b (Q7 (Q9 (Q6 e) (I.ok.cab x c hfn hc)))).trans e1⟩
  ·obtain ⟨o',e1⟩:=I.base.there b o e hx;exact ⟨o',(hs.2 b (Q7 (Q9 (Q6 e) (I.ok.cab x c hfn hc)))).trans e1⟩
  ·by_cases hj:j=i
   ·subst hj;rw [hi] at e1;cases e1;rw [RV hiσ] at e2;cases e2;exact ⟨u,r,.inr ⟨.inl hk,c,hc,hc'⟩⟩
   ·rw [RH (Sb hj)] at e2;obtain ⟨u',r',q⟩:=hl j y v' e1 e2 e3;refine ⟨u',r',?_⟩;rcases q with q | ⟨k,c',e,z'⟩
    ·exact .inl q
    ·refine .inr ⟨k,c',e,z'.sameBut hs ?_⟩;rintro rfl;exact hj (xr hN e1 (I.ok.inj _ _ _ e hc▸hi))
  ·by_cases hcc:c'=c
   ·subst hcc;exact ⟨_,hc'⟩
   ·obtain ⟨w2,z2⟩:=I.cell y c' e;exact ⟨w2,z2.sameBut hs hcc⟩
  ·obtain ⟨e,n,ne,nf,d⟩:=I.pin p hp;refine ⟨(hs.2 p.1 ?_).trans e,n,ne,nf,d⟩;intro q;rw [q,hoc] at e;have q':oc=p.2:=RP e;exact d w' (by rw [<-q'];exact Pr)
theorem qh {M:ZJ}{E:QH->QL->Prop}{Q:Unit->QL->Prop}(I:Inv X Qw σ H s) (hN:X.N.Nodup) (hi:X.N[i]?=some x) (hx:Loc X.env.scope x) (r:RelV v u)
 (h:∀s',Inv X Qw (σ.set i (some v)) H s'->Q () s') (hf:X.fn x=true\/X.env.scope.names.lookup x=some .local:=by first | exact .inl rfl | exact .inr rfl | assumption):Q8 M A (aaq X.env x u) Q E s:=
 uE I hN hi hx r (λs' I' _=>h s' I') hf
theorem Inv.call' {s':QL}(I:Inv X Qw σ H s) (ho:s'.os=s.os) (u:Un (frs X.stack) ch H H' s.heap s'.heap) (hok:eW X.prog X.w H' s'.heap) (hg:Wz s'.gens)
 (hch:∀b∈ch,(b∈X.ex\/X.s₀.heap.objs.size<=b)/\b≠X.env.locals/\(∀x c,X.env.cells.lookup x=some c->c≠b)/\∀p∈X.pn++Qw,p.1≠b):Inv X Qw σ H' s':=by obtain ⟨h',g',d',t',o'⟩:=s';have e:o'=s.os:=ho;subst e;exact I.call (g':=g') (t':=t') (d':=d') u hok hg hch
end
noncomputable abbrev XK:=QH->Option Q4->Hp->Prop
noncomputable abbrev St:=List (Option V)
noncomputable abbrev VK:=V->Hp->Prop
noncomputable abbrev TE:=St->Hp->VK->Prop
noncomputable abbrev TT:=St->Hp->(Bool->Hp->Prop)->Prop
noncomputable abbrev TA:=St->Hp->(List V->Hp->Prop)->Prop
structure Ends where
 nx:St->Hp->Prop
 rt:VK
 bk:St->Hp->Prop:=λ_ _=>False
 ct:St->Hp->Prop:=λ_ _=>False
noncomputable abbrev TS:=Ends->St->Hp->Prop
noncomputable def EP (X:Cx) (Qw:List (Q4×Obj)) (σ:St) (Q:VK) (u:QH) (s':QL):Prop:=∃v H',Inv X Qw σ H' s'/\RelV v u/\Q v H'
noncomputable def TP (X:Cx) (Qw:List (Q4×Obj)) (σ:St) (Q:Bool->Hp->Prop) (b:Bool) (s':QL):Prop:=∃H',Inv X Qw σ H' s'/\Q b H'
noncomputable def AP (X:Cx) (Qw:List (Q4×Obj)) (σ:St) (Q:List V->Hp->Prop) (us:List QH) (s':QL):Prop:=∃vs H',Inv X Qw σ H' s'/\Vals vs us/\Q vs H'
noncomputable def SP (X:Cx) (Qw:List (Q4×Obj)) (D:Ends) (f:Flow) (s':QL):Prop:=
 match f with
 | .next=>∃σ' H',Inv X Qw σ' H' s'/\D.nx σ' H'
 | .brk=>∃σ' H',Inv X Qw σ' H' s'/\D.bk σ' H'
 | .cont=>∃σ' H',Inv X Qw σ' H' s'/\D.ct σ' H'
 | .ret u=>∃v σ' H',Inv X Qw σ' H' s'/\RelV v u/\D.rt v H'
noncomputable def PE (X:Cx) (e:Rz) (t:TE):Prop:=
 ∀(Qw:List (Q4×Obj)) (s:QL) (σ:St) (H:Hp) (Q:VK),Inv X Qw σ H s->t σ H Q->Q8 (Rb X.prog X.w) X.A (eval e X.env) (EP X Qw σ Q) X.xe s
noncomputable def PT (X:Cx) (e:Rz) (t:TT):Prop:=
 ∀(Qw:List (Q4×Obj)) (s:QL) (σ:St) (H:Hp) (Q:Bool->Hp->Prop),Inv X Qw σ H s->t σ H Q->Q8 (Rb X.prog X.w) X.A (Yg e X.env (eval e X.env)) (TP X Qw σ Q) X.xe s
noncomputable def PW (X:Cx) (e:Rz) (t:TT):Prop:=
 ∀(whole:Sem QH) (Qw:List (Q4×Obj)) (s:QL) (σ:St) (H:Hp) (Q:Bool->Hp->Prop),Inv X Qw σ H s->t σ H Q->Q8 (Rb X.prog X.w) X.A (Yg e X.env whole) (TP X Qw σ Q) X.xe s
theorem PW.pt (h:PW X e t):PT X e t:=h _
noncomputable def PA (X:Cx) (es:List Rz) (t:TA):Prop:=
 ∀(pos:Pos) (Qw:List (Q4×Obj)) (s:QL) (σ:St) (H:Hp) (Q:List V->Hp->Prop),Inv X Qw σ H s->t σ H Q->Q8 (Rb X.prog X.w) X.A (spliced (Tn pos (QY es X.env))) (AP X Qw σ Q) X.xe s
noncomputable def PS (X:Cx) (st:TR) (t:TS):Prop:=
 ∀(Qw:List (Q4×Obj)) (s:QL) (σ:St) (H:Hp) (D:Ends),Inv X Qw σ H s->t D σ H->Q8 (Rb X.prog X.w) X.A (exec st X.env) (SP X Qw D) X.xe s
noncomputable def iO (X:Cx) (st:List TR) (t:TS):Prop:=
 ∀(Qw:List (Q4×Obj)) (s:QL) (σ:St) (H:Hp) (D:Ends),Inv X Qw σ H s->t D σ H->Q8 (Rb X.prog X.w) X.A (execs st X.env) (SP X Qw D) X.xe s
theorem bU {α:Type}{t:Sem α}{Q Q':α->QL->Prop}{M:ZJ}{A:RA}{E:QH->QL->Prop}{s:QL}(h:Q8 M A t Q E s) (hQ:∀a s,Q a s->Q' a s):Q8 M A t Q' E s:=RM h hQ λ_ _ x=>x
section
variable {X:Cx}
theorem bin {a b:Rz}{ta tb:TE}(ha:PE X a ta) (hb:PE X b tb){Qw:List (Q4×Obj)}{s:QL}{σ:St}{H:Hp}{R:V->V->Hp->Prop}(I:Inv X Qw σ H s) (h:ta σ H λx H1=>tb σ H1 λy H2=>R x y H2)
  {α:Type}{Q:α->QL->Prop}{f:QH->QH->Sem α}
  (hf:∀v u s2 x y H2,Inv X Qw σ H2 s2->RelV x v->RelV y u->R x y H2->Q8 (Rb X.prog X.w) X.A (f v u) Q X.xe s2):
  Q8 (Rb X.prog X.w) X.A (eval a X.env) (λv s₁=>Q8 (Rb X.prog X.w) X.A (eval b X.env) (λu s₂=>Q8 (Rb X.prog X.w) X.A (f v u) Q X.xe s₂) X.xe s₁) X.xe s:=by refine bU (ha Qw s σ H _ I h) λv s1 ⟨x,H1,I1,r1,q1⟩=>?_;refine bU (hb Qw s1 σ H1 _ I1 q1) λu s2 ⟨y,H2,I2,r2,q2⟩=>?_;exact hf v u s2 x y H2 I2 r1 r2 q2
noncomputable def Bb (i:Nat):TE:=λσ H Q=>∃v,σ[i]?=some (some v)/\Q v H
noncomputable def tC (v:V):TE:=λ_ H Q=>Q v H
theorem fU {pos:Pos}(hN:X.N[i]?=some x) (hv:mF X.env.scope x) (hd:autoParam ((x == ("__debug__":Str))=false) zB._auto_1) (hcd:autoParam ((x == ("__classdict__":Str))=false) zB._auto_1):PE X (.Name x pos) (Bb i):=by
 intro Qw s σ H Q I h;obtain ⟨v,e,h⟩:=h;obtain ⟨m,hn,hl⟩:=I.loc;obtain ⟨u,r,l⟩:=hl i x v hN e hv;have fin:EP X Qw σ Q u s:=⟨v,H,I,r,h⟩;rcases l with ⟨hk,hm⟩ | ⟨hk,c,hc,hcell⟩
 ·exact Z0 (XI I.ok.kind hk hn hm fin) hd
 ·rcases hk with hk | hk
  ·exact Z0 (XZ I.ok.kind hk hc hcell fin) hd
  ·exact Z0 (wpAny_loadName_free I.ok.kind hk hc hcell fin hcd) hd
theorem xD {i j pos}:PE X (.Constant (.int i) j pos) (tC (.int i)):=λ_ _ _ H _ I h=>wpAny_Constant_int ⟨.int i,H,I.tok _,⟨_,rfl⟩,h⟩
theorem L5 {b j pos}:PE X (.Constant (.bool b) j pos) (tC (.bl b)):=λ_ _ _ H _ I h=>Constant_bool ⟨.bl b,H,I,rfl,h⟩
theorem Kz {j pos}:PE X (.Constant .none j pos) (tC .non):=λ_ _ _ H _ I h=>Constant_none ⟨.non,H,I,rfl,h⟩
theorem KG {x j pos}:PE X (.Constant (.str x) j pos) (tC (.str x)):=λ_ _ _ H _ I h=>Calls.Constant_str ⟨.str x,H,I.tok _,⟨_,rfl⟩,h⟩
noncomputable def Gl (X:Cx) (x:Str):Prop:=X.env.kindOf x=some .globalImplicit
theorem sZ {E:QH->QL->Prop}{H:Hp}{pos:Pos}{Q:QH->QL->Prop}(I:Inv X Qw σ H s) (hg:Gl X x) (hm:X.mg x=some u) (h:Q u s)
 (hd:autoParam ((x == ("__debug__":Str))=false) zB._auto_1):Q8 (Rb X.prog X.w) X.A (eval (.Name x pos) X.env) Q E s:=
 V6 I.ok.kind hg (Calls.loadGlobal_global (by rw [I.ok.glob];exact I.mod.glob.keeps I.bk) hm h) hd
theorem nD {E:QH->QL->Prop}{H:Hp}{pos:Pos}{Q:QH->QL->Prop}(I:Inv X Qw σ H s) (hg:Gl X x) (hm:X.mg x=none) (hv:Sm x=some u) (h:Q u s)
 (hn:autoParam (x≠"__name__") zB._auto_1) (hd:autoParam ((x == ("__debug__":Str))=false) zB._auto_1):Q8 (Rb X.prog X.w) X.A (eval (.Name x pos) X.env) Q E s:=by obtain ⟨mb,h1,h2⟩:=I.mod.blt;exact V6 I.ok.kind hg (Calls.loadGlobal_builtin (by rw [I.ok.glob];exact I.mod.glob.keeps I.bk) hm (by rw [I.ok.blt];exact h1.keeps I.bk) ((h2 x hn).trans hv) h) hd
theorem tG {pos:Pos}(hg:Gl X x) (hm:X.mg x=some u) (r:RelV v u) (hd:autoParam ((x == ("__debug__":Str))=false) zB._auto_1):PE X (.Name x pos) (tC v):=
 λ_ _ _ H _ I h=>sZ I hg hm ⟨v,H,I,r,h⟩ hd
theorem Hu {pos:Pos}(hg:Gl X x) (hm:X.mg x=none) (hv:Sm x=some u) (r:RelV v u) (hn:autoParam (x≠"__name__") zB._auto_1) (hd:autoParam ((x == ("__debug__":Str))=false) zB._auto_1):PE X (.Name x pos) (tC v):=
 λ_ _ _ H _ I h=>nD I hg hm hv ⟨v,H,I,r,h⟩ hn hd
variable {a b:Rz}{ta tb:TE}{pos:Pos}
noncomputable def PC (X:Cx) (op:CmpOp) (a b:Rz) (t:TE):Prop:=
 ∀(Qw:List (Q4×Obj)) (s:QL) (σ:St) (H:Hp) (Q:VK),Inv X Qw σ H s->t σ H Q->
  Q8 (Rb X.prog X.w) X.A (eval a X.env) (λv s₁=>Q8 (Rb X.prog X.w) X.A (eval b X.env) (λu s₂=>Q8 (Rb X.prog X.w) X.A (SI op v u) (EP X Qw σ Q) X.xe s₂) X.xe s₁) X.xe s
theorem Ez (b:Rz) (h:op≠.In) (h2:op≠.NotIn):R5 op b=false:=by
 have e1:(op == abo)=false:=by cases op <;> first | rfl | exact absurd rfl h
 have e2:(op == aaM)=false:=by cases op <;> first | rfl | exact absurd rfl h2
 cases b <;> simp [R5,e1,e2]
noncomputable def tB (t:TE):TT:=λσ H Q=>t σ H λx H1=>∃c,x=.bl c/\Q c H1
theorem NI {op:CmpOp}{t:TE}(h:PC X op a b t) (h1:R5 op b=false:=by first | exact Ez _ (by decide) (by decide) | rfl):PT X (.Compare a [op] [b] pos) (tB t):=by intro Qw s σ H Q I hw;refine W_ (bU (h Qw s σ H _ I hw) λv s1 h1=>bU h1 λu s2 h2=>bU h2 λc s3 ⟨x,H1,I1,r1,q1⟩=>?_) h1;obtain ⟨d,rfl,q⟩:=q1;cases r1;exact Tt ⟨H1,I1,q⟩
theorem KP {e:Rz}{t:TE}(h:PE X e t) (he:∀whole,Yg e X.env whole=(do let v <-whole;UG e.pos;holding [v] (truthy v)):=by intro _;rfl):PT X e (tB t):=by intro Qw s σ H Q I hw;refine isTrue_plain (bU (h Qw s σ H _ I hw) λv s1 ⟨x,H1,I1,r1,q1⟩=>?_) (he _);obtain ⟨d,rfl,q⟩:=q1;cases r1;exact Tt ⟨H1,I1,q⟩
variable {tA tB':TT}{rest:List Rz}
noncomputable def Nj (t u:TT):TT:=λσ H Q=>t σ H λc H1=>if c=true then u σ H1 Q else Q false H1
noncomputable def NQ (t u:TT):TT:=λσ H Q=>t σ H λc H1=>if c=true then Q true H1 else u σ H1 Q
noncomputable def Nq (t:TT):TT:=λσ H Q=>t σ H λc H1=>Q (!c) H1
theorem HJ (ha:PT X a tA):PW X (.BoolOp .And [a] pos) tA:=by
 intro wh Qw s σ H Q I h;refine isTrue_and (bU (ha Qw s σ H Q I h) λc s1 e=>?_);cases c with
 | true=>exact isTrue_and_nil e
 | false=>exact e
theorem KU (ha:PT X a tA):PW X (.BoolOp .Or [a] pos) tA:=by
 intro wh Qw s σ H Q I h;refine isTrue_or (bU (ha Qw s σ H Q I h) λc s1 e=>?_);cases c with
 | false=>exact isTrue_or_nil e
 | true=>exact e
theorem KS (ha:PT X a tA) (hb:PW X (.BoolOp .And (b::rest) pos) tB'):PW X (.BoolOp .And (a::b::rest) pos) (Nj tA tB'):=by
 intro wh Qw s σ H Q I h;refine isTrue_and (bU (ha Qw s σ H _ I h) λc s1 ⟨H1,I1,q1⟩=>?_);cases c with
 | true=>exact hb wh Qw s1 σ H1 Q I1 q1
 | false=>exact ⟨H1,I1,q1⟩
theorem L_ (ha:PT X a tA) (hb:PW X (.BoolOp .Or (b::rest) pos) tB'):PW X (.BoolOp .Or (a::b::rest) pos) (NQ tA tB'):=by
 intro wh Qw s σ H Q I h;refine isTrue_or (bU (ha Qw s σ H _ I h) λc s1 ⟨H1,I1,q1⟩=>?_);cases c with
 | true=>exact ⟨H1,I1,q1⟩
 | false=>exact hb wh Qw s1 σ H1 Q I1 q1
theorem KN (ha:PT X a tA):PT X (.UnaryOp .Not a pos) (Nq tA):=by intro Qw s σ H Q I h;exact isTrue_not (ha Qw s σ H (λc H1=>Q (!c) H1) I h)
noncomputable def Mg (ta tb:TE):TE:=λσ H Q=>ta σ H λx H1=>∃c,x=.bl c/\if c=true then tb σ H1 Q else Q (.bl false) H1
noncomputable def Mq (ta:TE):TE:=λσ H Q=>ta σ H λx H1=>∃c,x=.bl c/\Q (.bl (!c)) H1
theorem KC {op}{t:TE}(h:PE X a t):PE X (.BoolOp op [a] pos) t:=λQw s σ H Q I hw=>BoolOp_one (h Qw s σ H Q I hw)
theorem Kv (ha:PE X a ta) (hb:PE X (.BoolOp .And (b::rest) pos) tb):PE X (.BoolOp .And (a::b::rest) pos) (Mg ta tb):=by
 intro Qw s σ H Q I h;refine BoolOp_and (bU (ha Qw s σ H _ I h) λv s1 ⟨x,H1,I1,r1,q1⟩=>?_);obtain ⟨c,rfl,q1⟩:=q1;cases r1;refine Tt ?_;cases c with
 | true=>exact hb Qw s1 σ H1 Q I1 q1
 | false=>exact ⟨.bl false,H1,I1,rfl,q1⟩
theorem KA (ha:PE X a ta):PE X (.UnaryOp .Not a pos) (Mq ta):=by intro Qw s σ H Q I h;refine UnaryOp_ (bU (ha Qw s σ H _ I h) λv s1 ⟨x,H1,I1,r1,q1⟩=>?_);obtain ⟨c,rfl,q1⟩:=q1;cases r1;exact not_of (Tt ⟨.bl (!c),H1,I1,rfl,q1⟩)
noncomputable def NP (t:TT) (ta tb:TE):TE:=λσ H Q=>t σ H λc H1=>if c=true then ta σ H1 Q else tb σ H1 Q
theorem EE {c:Rz}(hc:PT X c tA) (ha:PE X a ta) (hb:PE X b tb):PE X (.IfExp c a b pos) (NP tA ta tb):=by
 intro Qw s σ H Q I h;refine wpAny_IfExp (bU (hc Qw s σ H _ I h) λd s1 ⟨H1,I1,q1⟩=>?_);cases d with
 | true=>exact ha Qw s1 σ H1 Q I1 q1
 | false=>exact hb Qw s1 σ H1 Q I1 q1
end
noncomputable def c6 (K:QG) (H:Hp) (a:Q4) (xs:List V):Prop:=
 Rd H a (.lst xs)\/
  ∃(o:Obj) (Qx:Array QH) (n:Nat),K.lookup a=some o/\o.cls=.type "list"/\o.dict=none/\o.data=.seq Qx n/\Qx.size<=sizeLine/\Vals xs Qx.toList
noncomputable def fP (K:QG) (H:Hp) (a:Q4) (xs:List V):Prop:=
 Rd H a (.tup xs)\/
  ∃(o:Obj) (Qx:Array QH) (n:Nat),K.lookup a=some o/\o.cls=.type "tuple"/\o.dict=none/\o.data=.seq Qx n/\Qx.size<=sizeLine/\Vals xs Qx.toList
noncomputable def MU:QH->Option V
 | .none=>some .non
 | .bool b=>some (.bl b)
 | .int i _=>some (.int i)
 | .str x _=>some (.str x)
 | .bytes b _=>some (.byt b)
 | .float b _=>some (.flt b)
 | .ref a=>some (.ref a)
 | .type n=>some (.ty n)
 | _=>none
theorem RelV.abs (r:RelV x u):MU u=some x:=by
 cases x with
 | non=>cases r;rfl
 | bl _=>cases r;rfl
 | int _=>obtain ⟨t,rfl⟩:=r;rfl
 | str _=>obtain ⟨t,rfl⟩:=r;rfl
 | byt _=>obtain ⟨t,rfl⟩:=r;rfl
 | flt _=>obtain ⟨t,rfl⟩:=r;rfl
 | ref _=>cases r;rfl
 | ty _=>cases r;rfl
theorem RelV.inj (r:RelV x u) (q:RelV y u):x=y:=RP (r.abs.symm.trans q.abs)
theorem Vals.inj:∀{xs ys:List V}{us:List QH},Vals xs us->Vals ys us->xs=ys
 | _,_,_,.nil,.nil=>rfl
 | _,_,_,.cons r t,.cons r' t'=>by rw [r.inj r',Vals.inj t t']
section
variable {X:Cx}{Qw:List (Q4×Obj)}{σ:St}{H:Hp}{s:QL}{a:Q4}{xs ys:List V}
theorem c6.of {K:QG}(h:H a=some (.lst xs)):c6 K H a xs:=.inl (.inl h)
theorem Inv.list (I:Inv X Qw σ H s) (h:c6 X.K H a xs):∃Qx:List QH,Vals xs Qx/\PlainL s.heap a Qx.toArray/\xs.length<=sizeLine:=by
 rcases h with h | ⟨o,Qx,n,hk,hc,hd,hs,hz,r⟩
 ·obtain ⟨z,Qx,n,r,e⟩:=h.ok I.hok;exact ⟨Qx,r,⟨_,n,e,rfl,rfl,rfl⟩,z⟩
 ·refine ⟨Qx.toList,r,⟨o,n,I.kIn a o hk,hc,hd,by simpa using hs⟩,?_⟩;have e:=r.length;simp only [Rf] at e;omega
theorem Inv.tuple (I:Inv X Qw σ H s) (h:fP X.K H a xs):∃Qx:List QH,Vals xs Qx/\IsTup s.heap a Qx.toArray/\xs.length<=sizeLine:=by
 rcases h with h | ⟨o,Qx,n,hk,hc,hn,hs,hz,r⟩
 ·obtain ⟨z,Qx,r,p,_⟩:=h.ok I.hok;exact ⟨Qx,r,p,z⟩
 ·refine ⟨Qx.toList,r,⟨o,I.kIn a o hk,hc,n,by simpa using hs⟩,?_⟩;have e:=r.length;simp only [Rf] at e;omega
theorem Inv.list_inj (I:Inv X Qw σ H s) (h:c6 X.K H a xs) (h':c6 X.K H a ys):xs=ys:=by
 obtain ⟨Qx,r,⟨o,n,e,_,_,d⟩,_⟩:=I.list h;obtain ⟨its',r',⟨o',n',e',_,_,d'⟩,_⟩:=I.list h';rw [e] at e';cases e';rw [d] at d';injection d' with d1 _
 have:Qx=its':=by simpa using congrArg Xa d1
 subst this;exact r.inj r'
theorem Inv.tuple_inj (I:Inv X Qw σ H s) (h:fP X.K H a xs) (h':fP X.K H a ys):xs=ys:=by
 obtain ⟨Qx,r,⟨o,e,_,n,d⟩,_⟩:=I.tuple h;obtain ⟨its',r',⟨o',e',_,n',d'⟩,_⟩:=I.tuple h';rw [e] at e';cases e';rw [d] at d';injection d' with d1 _
 have:Qx=its':=by simpa using congrArg Xa d1
 subst this;exact r.inj r'
end
noncomputable abbrev Cx.wish (X:Cx) (E:QH->QL->Prop):Cx:={X with xe:=E}
noncomputable abbrev Cx.nox (X:Cx):Cx:=X.wish λ_ _=>False
theorem Cx.Ok.wish {X:Cx}(ok:X.Ok) (E:QH->QL->Prop):(X.wish E).Ok:=
 ⟨ok.mod,ok.kind,ok.glob,ok.blt,ok.above,ok.inj,ok.has,ok.cab,ok.hd,ok.frames,ok.stk,ok.exf,ok.bs,ok.bsz,ok.noex,ok.exfs,ok.funs,ok.frf⟩
theorem Cx.Ok.unwish {X:Cx}{E:QH->QL->Prop}(ok:(X.wish E).Ok):X.Ok:=
 ⟨ok.mod,ok.kind,ok.glob,ok.blt,ok.above,ok.inj,ok.has,ok.cab,ok.hd,ok.frames,ok.stk,ok.exf,ok.bs,ok.bsz,ok.noex,ok.exfs,ok.funs,ok.frf⟩
section
variable {X:Cx}{Qw:List (Q4×Obj)}{σ:St}{H:Hp}{s:QL}{E:QH->QL->Prop}
theorem Inv.wish (I:Inv X Qw σ H s) (E:QH->QL->Prop):Inv (X.wish E) Qw σ H s:=⟨I.ok.wish E,I.os,I.bare,I.base,I.loc,I.cell,I.free,I.freeC,I.pin,I.hok,I.len⟩
theorem Inv.unwish (I:Inv (X.wish E) Qw σ H s):Inv X Qw σ H s:=⟨I.ok.unwish,I.os,I.bare,I.base,I.loc,I.cell,I.free,I.freeC,I.pin,I.hok,I.len⟩
theorem SP.unwish {D:Ends}(h:SP (X.wish E) Qw D f s'):SP X Qw D f s':=by
 cases f with
 | next=>obtain ⟨σ',H',I,q⟩:=h;exact ⟨σ',H',I.unwish,q⟩
 | brk=>obtain ⟨σ',H',I,q⟩:=h;exact ⟨σ',H',I.unwish,q⟩
 | cont=>obtain ⟨σ',H',I,q⟩:=h;exact ⟨σ',H',I.unwish,q⟩
 | ret u=>obtain ⟨v,σ',H',I,r,q⟩:=h;exact ⟨v,σ',H',I.unwish,r,q⟩
theorem iO.nox {st:List TR}{t:TS}(h:iO X.nox st t):iO X st t:=λQw s σ H D I hw=>
 RM (h Qw s σ H D (I.wish _) hw) (λ_ _ q=>q.unwish) λ_ _ z=>TL z
end
section
variable {X:Cx}{st:TR}{rest:List TR}{t u:TS}{e:Rz}{te:TE}{pos:Pos}
noncomputable def Mp:TS:=λD σ H=>D.nx σ H
noncomputable def Nt (t u:TS):TS:=λD σ H=>t {D with nx:=u D} σ H
theorem zB:iO X [] Mp:=λ_ _ σ H _ I h=>VM ⟨σ,H,I,h⟩
theorem lY (h1:PS X st t) (h2:iO X rest u):iO X (st::rest) (Nt t u):=by
 intro Qw s σ H D I h;refine Y7 (bU (h1 Qw s σ H {D with nx:=u D} I h) λf s1 q=>?_);cases f with
 | next=>
  obtain ⟨σ',H',I',q⟩:=q;exact h2 Qw s1 σ' H' D I' q
 | ret v=>exact q
 | brk=>exact q
 | cont=>exact q
theorem oE (h1:PS X st t):iO X [st] t:=by
 intro Qw s σ H D I h;refine Y7 (bU (h1 Qw s σ H D I h) λf s1 q=>?_);cases f with
 | next=>exact VM q
 | ret v=>exact q
 | brk=>exact q
 | cont=>exact q
noncomputable def Lm:TS:=λD σ H=>D.bk σ H
theorem EK:PS X (.Break pos) Lm:=λ_ _ σ H _ I h=>wpAny_Break ⟨σ,H,I,h⟩
theorem Inv.quiet {H:Hp}(I:Inv X Qw σ H s):interactive X.env=false:=by simp [interactive,I.ok.kind]
noncomputable def Mj (te:TE):TS:=λD σ H=>te σ H λ_ H1=>D.nx σ H1
theorem zz (he:PE X e te) (hs:autoParam (Ur e none pos.line X.env=pure false) zA._auto_1):PS X (.Expr e pos) (Mj te):=by intro Qw s σ H D I h;exact wpAny_Expr_any (bU (he Qw s σ H _ I h) λv s1 ⟨x,H1,I1,r1,q1⟩=>⟨σ,H1,I1,q1⟩) I.quiet hs
noncomputable def Nr (te:TE):TS:=λD σ H=>te σ H D.rt
theorem CS (he:PE X e te):PS X (.Return (some e) pos) (Nr te):=by intro Qw s σ H D I h;exact wpAny_Return_some (bU (he Qw s σ H _ I h) λv s1 ⟨x,H1,I1,r1,q1⟩=>⟨x,σ,H1,I1,r1,q1⟩)
noncomputable def Nn (c:TT) (t u:TS):TS:=λD σ H=>c σ H λb H1=>if b=true then t D σ H1 else u D σ H1
theorem F5 {c:Rz}{a b:List TR}{tc:TT}(hc:PT X c tc) (ha:iO X a t) (hb:iO X b u):PS X (.If c a b pos) (Nn tc t u):=by
 intro Qw s σ H D I h;refine wpAny_If (bU (hc Qw s σ H _ I h) λd s1 ⟨H1,I1,q1⟩=>?_);cases d with
 | true=>exact ha Qw s1 σ H1 D I1 q1
 | false=>exact hb Qw s1 σ H1 D I1 q1
end
noncomputable abbrev TG:=V->St->Hp->(St->Hp->Prop)->Prop
noncomputable abbrev tY:=List V->St->Hp->(St->Hp->Prop)->Prop
noncomputable def PG (X:Cx) (Qy:Rz) (t:TG):Prop:=
 ∀(Qw:List (Q4×Obj)) (s:QL) (σ:St) (H:Hp) (v:V) (u:QH) (Q:St->Hp->Prop),Inv X Qw σ H s->RelV v u->t v σ H Q->
  Q8 (Rb X.prog X.w) X.A (assign Qy X.env u) (λ_ s'=>∃σ' H',Inv X Qw σ' H' s'/\Q σ' H') X.xe s
noncomputable def vG (X:Cx) (ts:List Rz) (t:tY):Prop:=
 ∀(Qw:List (Q4×Obj)) (s:QL) (σ:St) (H:Hp) (vs:List V) (us:List QH) (Q:St->Hp->Prop),Inv X Qw σ H s->Vals vs us->t vs σ H Q->
  Q8 (Rb X.prog X.w) X.A (assignInOrder ((TM ts X.env).map (·.2)) us) (λ_ s'=>∃σ' H',Inv X Qw σ' H' s'/\Q σ' H') X.xe s
noncomputable abbrev vJ:=V->V->V->Hp->(Hp->Prop)->Prop
noncomputable def DM (X:Cx) (t:vJ):Prop:=
 ∀(Qw:List (Q4×Obj)) (s:QL) (σ:St) (H:Hp) (o i v:V) (ov iv u:QH) (Q:Hp->Prop),Inv X Qw σ H s->RelV o ov->RelV i iv->RelV v u->t o i v H Q->
  Q8 (Rb X.prog X.w) X.A (aaa ov iv u) (λ_ s'=>∃H',Inv X Qw σ H' s'/\Q H') X.xe s
noncomputable abbrev IV:=V->V->Hp->VK->Prop
noncomputable def ND (X:Cx) (op:aa8) (t:IV):Prop:=
 ∀(Qw:List (Q4×Obj)) (s:QL) (σ:St) (H:Hp) (x y:V) (v u:QH) (Q:VK),Inv X Qw σ H s->RelV x v->RelV y u->t x y H Q->
  Q8 (Rb X.prog X.w) X.A (Xb op v u) (EP X Qw σ Q) X.xe s
section
variable {X:Cx}{pos:Pos}
noncomputable def FN (i:Nat):TG:=λv σ H Q=>Q (σ.set i (some v)) H
theorem HA (hN:X.N.Nodup) (hi:X.N[i]?=some x) (hx:Loc X.env.scope x) (hf:X.fn x=true\/X.env.scope.names.lookup x=some .local:=by first | exact .inl rfl | exact .inr rfl | assumption):PG X (.Name x pos) (FN i):=by intro Qw s σ H v u Q I r h;exact wpAny_assign_Name (qh I hN hi hx r (λs' I'=>⟨_,H,I',h⟩) hf)
noncomputable def ay:tY:=λvs σ H Q=>vs=[]/\Q σ H
noncomputable def ah (t:TG) (u:tY):tY:=λvs σ H Q=>∃v r,vs=v::r/\t v σ H λσ' H'=>u r σ' H' Q
theorem HB:vG X [] ay:=by intro Qw s σ H vs us Q I r h;obtain ⟨e,h⟩:=h;subst e;cases r;exact assignInOrder_nil ⟨σ,H,I,h⟩
theorem EG {e:Rz}{es:List Rz}{t:TG}{u:tY}(h1:PG X e t) (h2:vG X es u)
  (hs:autoParam ((TM (e::es) X.env).map (·.2)=assign e X.env::(TM es X.env).map (·.2)) zA._auto_1):vG X (e::es) (ah t u):=by
 intro Qw s σ H vs us Q I r h;obtain ⟨v,vr,e1,h⟩:=h;subst e1;cases r with
 | cons r rr=>
  rw [hs];refine assignInOrder_cons (bU (h1 Qw s σ H _ _ _ I r h) λ_ s1 ⟨σ1,H1,I1,q1⟩=>?_);exact h2 Qw s1 σ1 H1 _ _ Q I1 rr q1
noncomputable def b7 (K:QG) (n:Nat) (t:tY):TG:=λv σ H Q=>∃a xs,v=.ref a/\fP K H a xs/\xs.length=n/\t xs σ H Q
theorem KI (hc:X.calm=true) (h:vG X es t)
 (hn:autoParam ((TM es X.env).length=n) zA._auto_1) (hst:autoParam ((TM es X.env).findIdx? (·.1)=none) zA._auto_1):PG X (.Tuple es k pos) (b7 X.K n t):=by intro Qw s σ H v u Q I r hw;obtain ⟨a,xs,e1,hq,hl,hw⟩:=hw;subst e1;cases r;obtain ⟨Qx,rv,ht,hz⟩:=I.tuple hq;refine assign_Tuple_tuple (I.ok.hd hc) ht (by simp [hn,<-hl,rv.length]) hst λh' hx=>?_;have I1:Inv X Qw σ H {s with heap:=h'}:=I.kept (t':=s.toks) λb o e=>hx b o (Q7 (Q6 e)) e;exact h Qw _ σ H xs _ Q I1 (by simpa using rv) hw
noncomputable def M3 (to ti:TE) (t:vJ):TG:=λv σ H Q=>to σ H λo H1=>ti σ H1 λi H2=>t o i v H2 λH3=>Q σ H3
theorem CK {o i:Rz}{to ti:TE}{t:vJ}(ho:PE X o to) (hi:PE X i ti) (hs:DM X t)
  (ha:∀v,assign (.Subscript o i pos) X.env v=(do
   let ov <-holding [v] (eval o X.env)
   let iv <-holding [v,ov] (eval i X.env)
   UG pos
   holding [v,ov,iv] (aaa ov iv v)
   release [v,ov,iv] []):=by intro _;rfl):PG X (.Subscript o i pos) (M3 to ti t):=by intro Qw s σ H v u Q I r h;rw [ha];refine QF (RJ (bU (ho Qw s σ H _ I h) λov s1 ⟨x,H1,I1,r1,q1⟩=>?_));refine QF (RJ (bU (hi Qw s1 σ H1 _ I1 q1) λiv s2 ⟨y,H2,I2,r2,q2⟩=>?_));refine QF (Ud (QF (RJ (bU (hs Qw s2 σ H2 x y v ov iv u _ I2 r1 r2 r q2) λ_ s3 ⟨H3,I3,q3⟩=>?_))));exact wpAny_release ⟨σ,H3,I3,q3⟩
noncomputable def E2 (te:TE) (g:TG):TS:=λD σ H=>te σ H λx H1=>g x σ H1 D.nx
theorem xE {tg e:Rz}{te:TE}{g:TG}(he:PE X e te) (hg:PG X tg g) (hs:autoParam (VH [tg] e pos.line X.env=pure false) zA._auto_1) (hw:autoParam (WA [tg] e X.env=pure none) zA._auto_1)
  (h1:autoParam ((TM [tg] X.env).map (·.2)=[assign tg X.env]) zA._auto_1):PS X (.Assign [tg] e pos) (E2 te g):=by intro Qw s σ H D I h;refine wpAny_Assign_stores (bU (he Qw s σ H _ I h) λv s1 ⟨x,H1,I1,r1,q1⟩=>?_) hs hw;rw [h1];exact bU (hg Qw s1 σ H1 x v _ I1 r1 q1) λ_ s2 q=>q
theorem rH {i:Nat}{x:Str}{e:Rz}{te:TE}{pos':Pos}(hN:X.N.Nodup) (hi:X.N[i]?=some x) (hx:Loc X.env.scope x) (he:PE X e te) (hs:autoParam (Ur e (some (.Name x pos')) pos.line X.env=pure false) zA._auto_1) (hf:X.fn x=true\/X.env.scope.names.lookup x=some .local:=by first | exact .inl rfl | exact .inr rfl | assumption):
  PS X (.Assign [.Name x pos'] e pos) (E2 te (FN i)):=by intro Qw s σ H D I h;refine wpAny_Assign_Name (bU (he Qw s σ H _ I h) λv s1 ⟨y,H1,I1,r1,q1⟩=>?_) hs;exact qh I1 hN hi hx r1 (λs2 I2=>⟨_,H1,I2,q1⟩) hf
noncomputable def Nk (i:Nat) (te:TE) (ti:IV):TS:=λD σ H=>∃x,σ[i]?=some (some x)/\te σ H λy H1=>ti x y H1 λz H2=>D.nx (σ.set i (some z)) H2
theorem KJ {i:Nat}{x:Str}{e:Rz}{te:TE}{op:aa8}{ti:IV}{pos':Pos}(hN:X.N.Nodup) (hi:X.N[i]?=some x) (hx:Loc X.env.scope x) (he:PE X e te) (ho:ND X op ti) (hf:X.fn x=true\/X.env.scope.names.lookup x=some .local:=by first | exact .inl rfl | exact .inr rfl | assumption):
  PS X (.AugAssign (.Name x pos') op e pos) (Nk i te ti):=by
 intro Qw s σ H D I h;obtain ⟨v,e1,h⟩:=h;obtain ⟨m,hn,hl⟩:=I.loc;have vis:mF X.env.scope x:=by rcases hx with k | k;exact .inl k;exact .inr (.inl k)
 obtain ⟨u,r,l⟩:=hl i x v hi e1 vis;refine wpAny_AugAssign_Name ?_;have go:Q8 (Rb X.prog X.w) X.A (eval e X.env) (λw s₂=>Q8 (Rb X.prog X.w) X.A (Xb op u w) (λr s₃=>Q8 (Rb X.prog X.w) X.A (aaq X.env x r) (λ_=>SP X Qw D .next) X.xe s₃) X.xe s₂) X.xe s:=by refine bU (he Qw s σ H _ I h) λw s1 ⟨y,H1,I1,r1,q1⟩=>?_;refine bU (ho Qw s1 σ H1 v y u w _ I1 r r1 q1) λz s2 ⟨zv,H2,I2,r2,q2⟩=>?_;exact qh I2 hN hi hx r2 (λs3 I3=>⟨_,H2,I3,q2⟩) hf
 rcases l with ⟨hk,hm⟩ | ⟨hk,c,hc,hcell⟩
 ·exact XI I.ok.kind hk hn hm go
 ·rcases hk with hk | hk
  ·exact XZ I.ok.kind hk hc hcell go
  ·rcases hx with k | k
   ·have:X.env.scope.names.lookup x=some .free:=hk;rw [k] at this;cases this
   ·have:X.env.scope.names.lookup x=some .free:=hk;rw [k] at this;cases this
noncomputable def Lo (c:TT) (tb:TS):TS:=λD σ H=>∃W:Nat->St->Hp->Prop,(∃m,W m σ H)/\∀m σ H,W m σ H->
 c σ H λb H1=>if b=true then ∃N:St->Hp->Prop,(∀σ' H',N σ' H'->∃m',m' < m/\W m' σ' H')/\tb {D with nx:=N,ct:=N,bk:=D.nx} σ H1 else D.nx σ H1
theorem EL {c:Rz}{body:List TR}{tc:TT}{tb:TS}(hp:Zm (Rb X.prog X.w) X.A X.env X.xe) (hc:PT X c tc) (hb:iO X body tb):PS X (.While c body [] pos) (Lo tc tb):=by
 intro Qw s σ H D I h;obtain ⟨W,⟨m0,w0⟩,turn⟩:=h;refine wpAny_While (codeAny_whileLoop (λn s'=>∃σ' H',Inv X Qw σ' H' s'/\W n σ' H') ?_ m0 ⟨σ,H,I,w0⟩);rintro n s1 ⟨σ1,H1,I1,w1⟩;refine T5 hp (bU (hc Qw s1 σ1 H1 _ I1 (turn n σ1 H1 w1)) λb s2 ⟨H2,I2,q2⟩=>?_);cases b with
 | true=>
  obtain ⟨N,hN,q2⟩:=q2;rw [if_pos rfl];refine T5 hp (bU (hb Qw s2 σ1 H2 _ I2 q2) λf s3 q3=>?_);cases f with
  | next=>
   obtain ⟨σ3,H3,I3,n3⟩:=q3;obtain ⟨m',hm,w3⟩:=hN σ3 H3 n3;exact ⟨m',hm,σ3,H3,I3,w3⟩
  | cont=>
   obtain ⟨σ3,H3,I3,n3⟩:=q3;obtain ⟨m',hm,w3⟩:=hN σ3 H3 n3;exact ⟨m',hm,σ3,H3,I3,w3⟩
  | brk=>exact q3
  | ret v=>exact q3
 | false=>
  rw [if_neg RQ];exact VM ⟨σ1,H2,I2,q2⟩
end
structure It where
 go:Nat->Hp->Prop
 yld:Nat->Hp->V->Hp->Prop
 stop:Nat->Hp->Prop
noncomputable def jn (X:Cx) (Qw:List (Q4×Obj)) (H:Hp) (b:Q4):Prop:=
 H b=none/\b≠X.env.locals/\b∉X.fs/\(b∈X.ex\/X.s₀.heap.objs.size<=b)/\(∀x c,X.env.cells.lookup x=some c->c≠b)/\∀p∈X.pn++Qw,p.1≠b
theorem Inv.fpOk {H H':Hp}{s:QL}(I:Inv X Qw σ H s) (hb:s.heap.objs.size<=b) (hn:H' b=none):jn X Qw H' b:=by
 refine ⟨hn,S7 (Q9 I.lt hb),I.nofs hb,.inr (RG I.sz hb),λx c e z=>?_,λp hp z=>?_⟩
 ·obtain ⟨v,q⟩:=I.cell x c e;exact absurd (Q9 q.lt (by rw [z];exact hb)) (TU _)
 ·exact absurd (Q9 (Q6 (I.pin p hp).1) (by rw [z];exact hb)) (TU _)
structure Turn (P:Q2) (w:Ro) (K:QG) (tg:Rz) (J:It) (fp:List Q4) (it:Q4) (tn:Nat->Sa->Prop):Prop where
 mem:it∈fp
 obj:∀i h,tn i h->∀b∈fp,∃o,h.get? b=some o/\∀v,o.data≠.cell v
 keep:∀i h h',tn i h->(∀b∈fp,∀o,h.get? b=some o->h'.get? b=some o)->tn i h'
 item:∀(X:Cx),X.prog=P->X.w=w->X.K=K->X.calm=true->∀(i:Nat) (Qw:List (Q4×Obj)) (s:QL) (σ:St) (H:Hp) (E:QH->QL->Prop),Inv X Qw σ H s->(∀b∈fp,jn X Qw H b)->tn i s.heap->J.go i H->
  Q8 (Rb P w) X.A (U_ (.ref it)) (λr s1=>∃u,r=some u/\
   Q8 (Rb P w) X.A (T6 tg (.ref it) u) (λ_ s2=>∃x H',Inv X Qw σ H' s2/\RelV x u/\J.yld i H x H'/\tn (i + 1) s2.heap/\∀b∈fp,H' b=none) E s1) E s
 done:∀(X:Cx),X.prog=P->X.w=w->X.K=K->X.calm=true->∀(i:Nat) (Qw:List (Q4×Obj)) (s:QL) (σ:St) (H:Hp) (E:QH->QL->Prop),Inv X Qw σ H s->(∀b∈fp,jn X Qw H b)->tn i s.heap->J.stop i H->
  Q8 (Rb P w) X.A (U_ (.ref it)) (λr s1=>r=none/\Inv X Qw σ H s1) E s
 self:∀(A:RA) (i:Nat) (s:QL) (Q:QH->QL->Prop) (E:QH->QL->Prop),tn i s.heap->Q (.ref it) s->Q8 (Rb P w) A (WR (.ref it)) Q E s
noncomputable abbrev TI:=St->Hp->(It->Hp->Prop)->Prop
noncomputable def MB (X:Cx) (Qw:List (Q4×Obj)) (σ:St) (tg:Rz) (R:It->Hp->Prop) (itv:QH) (s2:QL):Prop:=
 ∃(it:Q4) (fp:List Q4) (tn:Nat->Sa->Prop) (J:It) (H':Hp),itv=.ref it/\Inv X Qw σ H' s2/\Turn X.prog X.w X.K tg J fp it tn/\tn 0 s2.heap/\(∀b∈fp,jn X Qw H' b)/\R J H'
noncomputable def PI (X:Cx) (tg Qz:Rz) (wi:TI):Prop:=
 ∀(Qw:List (Q4×Obj)) (s:QL) (σ:St) (H:Hp) (R:It->Hp->Prop),Inv X Qw σ H s->wi σ H R->
  Q8 (Rb X.prog X.w) X.A (eval Qz X.env) (λv s1=>Q8 (Rb X.prog X.w) X.A (WR v) (MB X Qw σ tg R) X.xe s1) X.xe s
theorem AE {M:ZJ}{E:QH->QL->Prop}{s:QL}{o:Obj}{Q:Unit->QL->Prop}(ho:s.heap.get? it=some o) (hc:o.cls=.type n) (hd:o.data=.fields vs)
 (hn:["enumerate","zip","dict_itemiterator","dict_reverseitemiterator","odict_iterator","itertools.zip_longest","itertools.pairwise"].contains n=false) (hQ:Q () s):Q8 M A (T6 tg (.ref it) u) Q E s:=by
 unfold T6;cases tg <;> first
  | exact QJ hQ
  | (cases u <;> first
    | exact QJ hQ
    | (refine QF (Z1 ho ?_);rw [hc,hd];show Q8 M A (if (["enumerate","zip","dict_itemiterator","dict_reverseitemiterator","odict_iterator","itertools.zip_longest","itertools.pairwise"].contains n && vs[0]? == some (aar _))=true then _ else _) Q E s;rw [if_neg (by intro h;rw [hn,Bool.false_and] at h;cases h)];exact QJ hQ))
noncomputable def E_ (K:QG) (a:Q4):It:=
 ⟨λi H=>∃xs x,c6 K H a xs/\xs[i]?=some x,λi H x H'=>H'=H/\∀xs,c6 K H a xs->xs[i]?=some x,λi H=>∃xs,c6 K H a xs/\xs.length<=i⟩
noncomputable def Fd (K:QG) (a:Q4):It:=
 ⟨λi H=>∃xs x,fP K H a xs/\xs[i]?=some x,λi H x H'=>H'=H/\∀xs,fP K H a xs->xs[i]?=some x,λi H=>∃xs,fP K H a xs/\xs.length<=i⟩
noncomputable def Fb (lo:Int) (n:Nat):It:=⟨λi _=>i < n,λi H x H'=>H'=H/\x=.int (lo + i),λi _=>n<=i⟩
theorem Dw {P:Q2}{w:Ro}{K:QG}{tg:Rz}(a it:Q4):Turn P w K tg (E_ K a) [it] it (λi h=>h.IsListIter it a i) where
 mem:=by simp
 obj:=λi h st b hb=>by
  have e:b=it:=by simpa using hb
  subst e;obtain ⟨o,e,c,d⟩:=st;exact ⟨o,e,λv z=>by rw [d] at z;cases z⟩
 keep:=λi h h' st k=>st.at λo e=>k it (by simp) o e
 item:=by intro X hP hw hK hc i Qw s σ H E I hf st hg;subst hP hw hK;obtain ⟨xs,x,hq,hx⟩:=hg;obtain ⟨Qx,rv,p,hz⟩:=I.list hq;obtain ⟨u,hu,ru⟩:=rv.get hx;obtain ⟨f0,f1,f2,f3,f4,f5⟩:=hf it (by simp);refine wpAny_pyNext_list_item st p.isList (x:=u) (by simpa using hu) λh' st' sb=>?_;have I1:Inv X Qw σ H {s with heap:=h'}:=I.turned (t':=s.toks) (λb o hb e=>(sb.2 b hb).trans e) f0 f1 f3 f4 f5;obtain ⟨o,e,c,d⟩:=id st';exact ⟨u,rfl,AE (s:={s with heap:=h'}) e c d (by decide) ⟨x,H,I1,ru,⟨rfl,λys hy=>by rw [I.list_inj hy hq];exact hx⟩,st',λb hb=>(hf b hb).1⟩⟩
 done:=by intro X hP hw hK hc i Qw s σ H E I hf st hg;subst hP hw hK;obtain ⟨xs,hq,hx⟩:=hg;obtain ⟨Qx,rv,p,hz⟩:=I.list hq;obtain ⟨f0,f1,f2,f3,f4,f5⟩:=hf it (by simp);have hl:=rv.length;exact wpAny_pyNext_list_end (I.ok.hd hc) st p.isList (by simp;omega) λh' eb=>⟨rfl,I.turned (t':=s.toks) (λb o hb e=>eb b o hb e) f0 f1 f3 f4 f5⟩
 self:=λ_ _ _ _ _ st h=>wpAny_pyIter_listiter st h
theorem Bg {P:Q2}{w:Ro}{K:QG}{tg:Rz}(a it:Q4):Turn P w K tg (Fd K a) [it] it (λi h=>h.IsTupleIter it a i) where
 mem:=by simp
 obj:=λi h st b hb=>by
  have e:b=it:=by simpa using hb
  subst e;obtain ⟨o,e,c,d⟩:=st;exact ⟨o,e,λv z=>by rw [d] at z;cases z⟩
 keep:=λi h h' st k=>st.at λo e=>k it (by simp) o e
 item:=by intro X hP hw hK hc i Qw s σ H E I hf st hg;subst hP hw hK;obtain ⟨xs,x,hq,hx⟩:=hg;obtain ⟨Qx,rv,p,hz⟩:=I.tuple hq;obtain ⟨u,hu,ru⟩:=rv.get hx;obtain ⟨f0,f1,f2,f3,f4,f5⟩:=hf it (by simp);refine wpAny_pyNext_tuple_item st (show s.heap.IsTuple a Qx.toArray from p) (x:=u) (by simpa using hu) λh' st' sb=>?_;have I1:Inv X Qw σ H {s with heap:=h'}:=I.turned (t':=s.toks) (λb o hb e=>(sb.2 b hb).trans e) f0 f1 f3 f4 f5;obtain ⟨o,e,c,d⟩:=id st';exact ⟨u,rfl,AE (s:={s with heap:=h'}) e c d (by decide) ⟨x,H,I1,ru,⟨rfl,λys hy=>by rw [I.tuple_inj hy hq];exact hx⟩,st',λb hb=>(hf b hb).1⟩⟩
 done:=by intro X hP hw hK hc i Qw s σ H E I hf st hg;subst hP hw hK;obtain ⟨xs,hq,hx⟩:=hg;obtain ⟨Qx,rv,p,hz⟩:=I.tuple hq;obtain ⟨f0,f1,f2,f3,f4,f5⟩:=hf it (by simp);have hl:=rv.length;exact wpAny_pyNext_tuple_end (I.ok.hd hc) st (show s.heap.IsTuple a Qx.toArray from p) (by simp;omega) λh' eb=>⟨rfl,I.turned (t':=s.toks) (λb o hb e=>eb b o hb e) f0 f1 f3 f4 f5⟩
 self:=λ_ _ _ _ _ st h=>wpAny_pyIter_tupleiter st h
theorem Bf {P:Q2}{w:Ro}{K:QG}{tg:Rz}(it:Q4) (lo:Int) (n:Nat):Turn P w K tg (Fb lo n) [it] it (λi h=>IsRangeIter h it (lo + (i:Nat) * 1) ((n:Int) - (i:Nat)) 1) where
 mem:=by simp
 obj:=λi h st b hb=>by
  have e:b=it:=by simpa using hb
  subst e;exact ⟨_,st,λv z=>by
   have z':Data.fields _=Data.cell v:=z;cases z'⟩
 keep:=λi h h' st k=>k it (by simp) _ st
 item:=by intro X hP hw hK hc i Qw s σ H E I hf st hg;subst hP hw hK;obtain ⟨f0,f1,f2,f3,f4,f5⟩:=hf it (by simp);have W:=Walks.range (prog:=X.prog) (w:=X.w) (I.ok.hd hc) it lo 1 n;refine W.item i s _ _ hg st λv h' tk hv st' kk=>?_;obtain ⟨t,rfl⟩:=hv;have I1:Inv X Qw σ H {s with heap:=h',toks:=tk}:=I.turned (λb o hb e=>kk b o (by simpa using hb) e) f0 f1 f3 f4 f5;refine ⟨_,rfl,AE (s:={s with heap:=h',toks:=tk}) (n:="range_iterator") st' rfl rfl (by decide) ⟨.int (lo + i),H,I1,⟨t,?_⟩,⟨rfl,rfl⟩,st',λb hb=>(hf b hb).1⟩⟩;rw [Int.mul_one]
 done:=by intro X hP hw hK hc i Qw s σ H E I hf st hg;subst hP hw hK;obtain ⟨f0,f1,f2,f3,f4,f5⟩:=hf it (by simp);exact wpAny_pyNext_range_end (I.ok.hd hc) st (by have:n<=i:=hg;omega) λh' eb=>⟨rfl,I.turned (t':=s.toks) (λb o hb e=>eb b o hb e) f0 f1 f3 f4 f5⟩
 self:=λ_ _ _ _ _ st h=>wpAny_pyIter_rangeiter st h
section
variable {X:Cx}{tg:Rz}
theorem EW {Qw:List (Q4×Obj)}{σ:St}{H:Hp}{s:QL}{R:It->Hp->Prop}{E:QH->QL->Prop}{lo hi:Int}{t u v:Tok}{tk:Nat}(I:Inv X Qw σ H s) (h1:-(2 ^ 62)<=lo) (h2:lo < 2 ^ 62) (h3:-(2 ^ 62)<=hi) (h4:hi < 2 ^ 62)
  (q:R (Fb lo (hi - lo).toNat) H):Q8 (Rb X.prog X.w) X.A (WR (.ref s.heap.objs.size)) (MB X Qw σ tg R) E {s with heap:=s.heap.push {cls:=.type "range",data:=.fields #[.int lo t,.int hi u,.int 1 v]},toks:=tk}:=by
 refine wpAny_pyIter_range (IsRange.new ..) (small_one h1 h2 h3 h4) ?_;have I1:Inv X Qw σ H {s with heap:=s.heap.push {cls:=.type "range",data:=.fields #[.int lo t,.int hi u,.int 1 v]},toks:=tk}:=I.kept λb o e=>QM _ e;refine ⟨(s.heap.push {cls:=.type "range",data:=.fields #[.int lo t,.int hi u,.int 1 v]}).objs.size,[(s.heap.push {cls:=.type "range",data:=.fields #[.int lo t,.int hi u,.int 1 v]}).objs.size],_,_,H,rfl,
  I1.kept (t':=tk) λb o e=>QM _ e,Bf _ lo (hi - lo).toNat,?_,λb hb=>?_,q⟩
 ·have e1:lo + ((0:Nat):Int) * 1=lo:=by simp
  have e2:(((hi - lo).toNat:Nat):Int) - ((0:Nat):Int)=aab lo hi 1:=by rw [rangeSize_one];split <;> omega
  show IsRangeIter _ _ (lo + ((0:Nat):Int) * 1) ((((hi - lo).toNat:Nat):Int) - ((0:Nat):Int)) 1;rw [e1,e2];exact QW _ rfl
 ·have e:b=(s.heap.push {cls:=.type "range",data:=.fields #[.int lo t,.int hi u,.int 1 v]}).objs.size:=by simpa using hb
  subst e;exact I1.fpOk (QV _) (I1.hok.fresh (QV _))
noncomputable def LJ (ta:TA):TI:=λσ H R=>ta σ H λvs H1=>∃j:Int,vs=[.int j]/\-(2 ^ 62)<=j/\j < 2 ^ 62/\R (Fb 0 j.toNat) H1
theorem CN {a:Rz}{ta:TA}{p pos:Pos}(hg:Gl X "range") (hm:X.mg "range"=none) (ha:PA X [a] ta) (hs:autoParam (QY [a] X.env=[(false,eval a X.env)]) zA._auto_1):PI X tg (.Call (.Name "range" p) [a] [] pos) (LJ ta):=by
 intro Qw s σ H R I h;refine Call_ (nD I hg hm boot_range (VN (bU (ha pos Qw s σ H _ I h) λus s1 ⟨vs,H1,I1,r1,q1⟩=>?_) hs rfl));obtain ⟨j,e,q1,q2,q⟩:=q1;subst e;cases r1 with
 | cons r rr=>
  cases rr;obtain ⟨t,rfl⟩:=r;exact call_range_1 (EW I1 (by omega) (by omega) q1 q2 (by simpa using q))
noncomputable def Nm (wi:TI) (g:TG) (tb:TS):TS:=λD σ H=>wi σ H λJ H1=>∃W:Nat->Nat->St->Hp->Prop,(∃m,W 0 m σ H1)/\∀i m σ H,W i m σ H->
 (J.stop i H/\D.nx σ H)\/(J.go i H/\∃N:St->Hp->Prop,(∀σ' H',N σ' H'->∃m',m' < m/\W (i + 1) m' σ' H')/\∀x H',J.yld i H x H'->g x σ H' λσ2 H2=>tb {D with nx:=N,ct:=N,bk:=D.nx} σ2 H2)
noncomputable def nI (fp:List Q4) (h:Sa):List (Q4×Obj):=fp.filterMap λb=>(h.get? b).map λo=>(b,o)
theorem ju {h:Sa}(hb:b∈fp) (e:h.get? b=some o):(b,o)∈nI fp h:=UZ.mpr ⟨b,hb,by rw [e];rfl⟩
theorem Cz {h:Sa}{p:Q4×Obj}(hp:p∈nI fp h):p.1∈fp/\h.get? p.1=some p.2:=by
 obtain ⟨b,hb,e⟩:=UZ.mp hp;cases q:h.get? b with
 | none=>rw [q] at e;cases e
 | some o=>
  rw [q] at e;have e':(b,o)=p:=RP e;subst e';exact ⟨hb,q⟩
theorem Inv.pinned {H:Hp}{s:QL}(I:Inv X Qw σ H s) (hf:∀b∈fp,jn X Qw H b) (ho:∀b∈fp,∃o,s.heap.get? b=some o/\∀v,o.data≠.cell v):Inv X (Qw++nI fp s.heap) σ H s:=
 I.pins_of λp hp=>(Rl.mp hp).elim (λz=>I.pin p (RB _ z)) λz=>by obtain ⟨hb,e⟩:=Cz z;obtain ⟨f0,f1,f2,_⟩:=hf p.1 hb;obtain ⟨o,e',d⟩:=ho p.1 hb;rw [e] at e';cases e';exact ⟨e,f0,f1,f2,d⟩
theorem Inv.unpinned {H:Hp}(I:Inv X (Qw++pl) σ H s):Inv X Qw σ H s:=I.pins_of λp hp=>I.pin p (RB _ (Sl _ hp))
theorem KL {Qz:Rz}{body:List TR}{wi:TI}{g:TG}{tb:TS}{pos:Pos}(hp:Zm (Rb X.prog X.w) X.A X.env X.xe) (hc:X.calm=true) (hi:PI X tg Qz wi) (hg:PG X tg g) (hb:iO X body tb)
  (hs:∀x,SV Qz X.env x=pure x:=by intro _;rfl):PS X (.For tg Qz body [] pos) (Nm wi g tb):=by
 intro Qw s σ H D I h;refine wpAny_For (bU (hi Qw s σ H _ I h) λv s1 h1=>bU h1 λitv s2 h2=>?_) hs;obtain ⟨it,fp,tn,J,H2,e,I2,T,st2,f2,W,⟨m0,w0⟩,turn⟩:=h2;subst e;have stat:∀{H':Hp},(∀b∈fp,H' b=none)->∀b∈fp,jn X Qw H' b:=λhn b hb=>⟨hn b hb,(f2 b hb).2⟩;refine codeAny_forLoop_any (λn s'=>∃i σ' H',Inv X Qw σ' H' s'/\tn i s'.heap/\(∀b∈fp,H' b=none)/\W i n σ' H') ?_ m0 ⟨0,σ,H2,I2,st2,λb hb=>(f2 b hb).1,w0⟩;rintro n s3 ⟨i,σ3,H3,I3,st3,fr3,w3⟩;rcases turn i n σ3 H3 w3 with ⟨stop,qn⟩ | ⟨go,N,hN,step⟩
 ·refine T5 hp (bU (T.done X rfl rfl rfl hc i Qw s3 σ3 H3 X.xe I3 (stat fr3) st3 stop) λr s4 ⟨hr,I4⟩=>?_);subst hr;exact VM ⟨σ3,H3,I4,qn⟩
 ·refine T5 hp (bU (T.item X rfl rfl rfl hc i Qw s3 σ3 H3 X.xe I3 (stat fr3) st3 go) λr s4 ⟨u,hr,h4⟩=>?_);subst hr;refine T5 hp (bU h4 λ_ s5 ⟨x,H5,I5,r5,y5,st5,fr5⟩=>?_);have I5':=I5.pinned (stat fr5) (T.obj _ _ st5);refine T5 hp (bU (hg _ s5 σ3 H5 x u _ I5' r5 (step x H5 y5)) λ_ s6 ⟨σ6,H6,I6,q6⟩=>?_);refine T5 hp (bU (hb _ s6 σ6 H6 _ I6 q6) λf s7 q7=>?_);have again:∀{σ7:St}{H7:Hp},Inv X (Qw++nI fp s5.heap) σ7 H7 s7->N σ7 H7->∃m,m < n/\∃i σ' H',Inv X Qw σ' H' s7/\tn i s7.heap/\(∀b∈fp,H' b=none)/\W i m σ' H':=fun {σ7 H7} I7 n7=>by obtain ⟨m',hm,w7⟩:=hN σ7 H7 n7;refine ⟨m',hm,i + 1,σ7,H7,I7.unpinned,T.keep _ _ _ st5 λb hb o e=>(I7.pin (b,o) (RB _ (RB _ (ju hb e)))).1,λb hb=>?_,w7⟩;obtain ⟨o,e,d⟩:=T.obj _ _ st5 b hb;exact (I7.pin (b,o) (RB _ (RB _ (ju hb e)))).2.1
  cases f with
  | next=>obtain ⟨σ7,H7,I7,n7⟩:=q7;exact again I7 n7
  | cont=>obtain ⟨σ7,H7,I7,n7⟩:=q7;exact again I7 n7
  | brk=>obtain ⟨σ7,H7,I7,q7⟩:=q7;exact ⟨σ7,H7,I7.unpinned,q7⟩
  | ret v=>obtain ⟨x7,σ7,H7,I7,r7,q7⟩:=q7;exact ⟨x7,σ7,H7,I7.unpinned,r7,q7⟩
end
noncomputable abbrev R2:=V->V->Hp->VK->Prop
noncomputable def dH (X:Cx) (f:QH->QH->Sem QH) (r:R2):Prop:=
 ∀(Qw:List (Q4×Obj)) (s:QL) (σ:St) (H:Hp) (x y:V) (v u:QH) (Q:VK),Inv X Qw σ H s->RelV x v->RelV y u->r x y H Q->
  Q8 (Rb X.prog X.w) X.A (f v u) (EP X Qw σ Q) X.xe s
noncomputable def IW (X:Cx) (f:QH->Sem QH) (r:V->Hp->VK->Prop):Prop:=
 ∀(Qw:List (Q4×Obj)) (s:QL) (σ:St) (H:Hp) (x:V) (v:QH) (Q:VK),Inv X Qw σ H s->RelV x v->r x H Q->
  Q8 (Rb X.prog X.w) X.A (f v) (EP X Qw σ Q) X.xe s
noncomputable def fB (X:Cx) (f:QH) (r:List V->Hp->VK->Prop):Prop:=
 ∀(Qw:List (Q4×Obj)) (s:QL) (σ:St) (H:Hp) (xs:List V) (us:List QH) (Q:VK),Inv X Qw σ H s->Vals xs us->r xs H Q->
  Q8 (Rb X.prog X.w) X.A (call f us) (EP X Qw σ Q) X.xe s
noncomputable def MS (X:Cx) (r:V->Hp->(Bool->Hp->Prop)->Prop):Prop:=
 ∀(Qw:List (Q4×Obj)) (s:QL) (σ:St) (H:Hp) (x:V) (v:QH) (Q:Bool->Hp->Prop),Inv X Qw σ H s->RelV x v->r x H Q->
  Q8 (Rb X.prog X.w) X.A (truthy v) (TP X Qw σ Q) X.xe s
noncomputable def Dq (r:R2) (ta tb:TE):TE:=λσ H Q=>ta σ H λx H1=>tb σ H1 λy H2=>r x y H2 Q
noncomputable def NU (r:V->Hp->VK->Prop) (ta:TE):TE:=λσ H Q=>ta σ H λx H1=>r x H1 Q
noncomputable def rI (C:Int->Int->Prop) (g:Int->Int->V):R2:=λx y H Q=>∃i j,x=.int i/\y=.int j/\C i j/\Q (g i j) H
noncomputable def nO (g:Int->Int->V):R2:=λx y H Q=>∃i j,x=.int i/\y=.int j/\Q (g i j) H
noncomputable def rU (g:Int->V):V->Hp->VK->Prop:=λx H Q=>∃i,x=.int i/\Q (g i) H
section
variable {X:Cx}{a b c:Rz}{ta tb tc:TE}{pos:Pos}
theorem DT (ha:PE X a ta) (hb:PE X b tb){Qw:List (Q4×Obj)}{s:QL}{σ:St}{H:Hp}{R:V->V->Hp->Prop}(I:Inv X Qw σ H s)
  (h:ta σ H λx H1=>tb σ H1 λy H2=>R x y H2){Q:QH->QL->Prop}{f:QH->QH->Sem QH}
  (hf:∀v u s2 x y H2,Inv X Qw σ H2 s2->RelV x v->RelV y u->R x y H2->Q8 (Rb X.prog X.w) X.A (f v u) Q X.xe s2):
  Q8 (Rb X.prog X.w) X.A (eval a X.env) (λv s₁=>Q8 (Rb X.prog X.w) X.A (eval b X.env) (λu s₂=>Q8 (Rb X.prog X.w) X.A (f v u) Q X.xe s₂) X.xe s₁) X.xe s:=by refine bU (ha Qw s σ H _ I h) λv s1 ⟨x,H1,I1,r1,q1⟩=>?_;refine bU (hb Qw s1 σ H1 _ I1 q1) λu s2 ⟨y,H2,I2,r2,q2⟩=>?_;exact hf v u s2 x y H2 I2 r1 r2 q2
theorem L7 (ho:dH X (UN op) r) (ha:PE X a ta) (hb:PE X b tb):PE X (.BinOp a op b pos) (Dq r ta tb):=by intro Qw s σ H Q I h;exact wpAny_BinOp (DT ha hb I h λv u s2 x y H2 I2 rx ry q=>ho Qw s2 σ H2 x y v u Q I2 rx ry q)
theorem F2 {r:V->Hp->VK->Prop}(ho:IW X (unaryOp op) r) (ha:PE X a ta):PE X (.UnaryOp op a pos) (NU r ta):=by intro Qw s σ H Q I h;exact UnaryOp_ (bU (ha Qw s σ H _ I h) λv s1 ⟨x,H1,I1,r1,q1⟩=>ho Qw s1 σ H1 x v Q I1 r1 q1)
theorem MV (ho:dH X (Xb op) r){H:Hp}{Q:VK}(I:Inv X Qw σ H s)
 (rx:RelV x v) (ry:RelV y u) (q:r x y H Q):Q8 (Rb X.prog X.w) X.A (Xb op v u) (EP X Qw σ Q) X.xe s:=ho Qw s σ H x y v u Q I rx ry q
theorem CA {f:QH->QH->Sem QH}{C:Int->Int->Prop}{g:Int->Int->Int}
  (rule:∀(i j:Int) (t u:Tok) (s:QL) (Q:QH->QL->Prop) (E:QH->QL->Prop),C i j->Q (.int (g i j) s.toks) {s with toks:=s.toks + 1}->Q8 (Rb X.prog X.w) X.A (f (.int i t) (.int j u)) Q E s):
  dH X f (rI C λi j=>.int (g i j)):=by intro Qw s σ H x y v u Q I rx ry h;obtain ⟨i,j,rfl,rfl,hc,q⟩:=h;obtain ⟨t,rfl⟩:=rx;obtain ⟨t',rfl⟩:=ry;exact rule i j t t' s _ _ hc ⟨.int (g i j),H,I.tok _,⟨_,rfl⟩,q⟩
theorem EB {f:QH->QH->Sem QH}{g:Int->Int->Int}
  (rule:∀(i j:Int) (t u:Tok) (s:QL) (Q:QH->QL->Prop) (E:QH->QL->Prop),Q (.int (g i j) s.toks) {s with toks:=s.toks + 1}->Q8 (Rb X.prog X.w) X.A (f (.int i t) (.int j u)) Q E s):
  dH X f (nO λi j=>.int (g i j)):=by intro Qw s σ H x y v u Q I rx ry h;obtain ⟨i,j,rfl,rfl,q⟩:=h;obtain ⟨t,rfl⟩:=rx;obtain ⟨t',rfl⟩:=ry;exact rule i j t t' s _ _ ⟨.int (g i j),H,I.tok _,⟨_,rfl⟩,q⟩
theorem AW {f:QH->QH->Sem QH}{g:Int->Int->Bool}
  (rule:∀(i j:Int) (t u:Tok) (s:QL) (Q:QH->QL->Prop) (E:QH->QL->Prop),Q (.bool (g i j)) s->Q8 (Rb X.prog X.w) X.A (f (.int i t) (.int j u)) Q E s):
  dH X f (nO λi j=>.bl (g i j)):=by intro Qw s σ H x y v u Q I rx ry h;obtain ⟨i,j,rfl,rfl,q⟩:=h;obtain ⟨t,rfl⟩:=rx;obtain ⟨t',rfl⟩:=ry;exact rule i j t t' s _ _ ⟨.bl (g i j),H,I,rfl,q⟩
noncomputable def MO (i j:Int):Prop:=0 < j/\j < 1073741824
noncomputable def ID (i j:Int):Prop:=0<=j/\j<=1000000/\i.natAbs < 2 ^ 64
noncomputable def zO (i j:Int):Prop:=(-(2 ^ 64) < i/\i < 2 ^ 64)\/(-(2 ^ 64) < j/\j < 2 ^ 64)
theorem zO.ok (h:zO i j):IntMulOk i j:=by
 rcases h with ⟨h1,h2⟩ | ⟨h1,h2⟩
 ·exact .of_left (aac h1 h2)
 ·exact .of_right (aac h1 h2)
theorem Ka:dH X (UN .Add) (nO λi j=>.int (i + j)):=EB λ_ _ _ _ _ _ _ q=>add_int q
theorem Kr:dH X (UN .Sub) (nO λi j=>.int (i - j)):=EB λ_ _ _ _ _ _ _ q=>sub_int q
theorem Kl:dH X (UN .Mult) (rI zO λi j=>.int (i * j)):=CA λ_ _ _ _ _ _ _ hc q=>mul_int q hc.ok
theorem Hh:dH X (UN .FloorDiv) (rI MO λi j=>.int (i / j)):=CA λi j _ _ _ _ _ hc q=>by have h1:(0:Int) < j:=hc.1;have h2:j < 1073741824:=hc.2;exact floordiv_int (by omega) (by rw [Int.fdiv_eq_ediv_of_nonneg i (by omega)];exact q) (.inl (PyProof.noPylong_small (by omega)))
theorem Kh:dH X (UN .Mod) (rI (λ_ j=>0 < j) λi j=>.int (i % j)):=CA λi j _ _ _ _ _ hc q=>by have h1:(0:Int) < j:=hc;exact mod_int' (by omega) (by rw [Int.fmod_eq_emod_of_nonneg i (by omega)];exact q)
theorem Ko:dH X (UN .Pow) (rI ID λi j=>.int (i ^ j.toNat)):=CA λ_ _ _ _ _ _ _ hc q=>pow_int_small hc.1 hc.2.1 hc.2.2 q
theorem Kq:dH X (UN .LShift) (rI ID λi j=>.int (i * 2 ^ j.toNat)):=CA λ_ _ _ _ _ _ _ hc q=>lshift_int_small hc.1 hc.2.1 hc.2.2 q
theorem GU:dH X (Xb .Sub) (nO λi j=>.int (i - j)):=EB λ_ _ _ _ _ _ _ q=>isub_int q
theorem NV {f:QH->Sem QH}{g:Int->Int}
  (rule:∀(i:Int) (t:Tok) (s:QL) (Q:QH->QL->Prop) (E:QH->QL->Prop),Q (.int (g i) s.toks) {s with toks:=s.toks + 1}->Q8 (Rb X.prog X.w) X.A (f (.int i t)) Q E s):
  IW X f (rU λi=>.int (g i)):=by intro Qw s σ H x v Q I rx h;obtain ⟨i,rfl,q⟩:=h;obtain ⟨t,rfl⟩:=rx;exact rule i t s _ _ ⟨.int (g i),H,I.tok _,⟨_,rfl⟩,q⟩
theorem DB:IW X (unaryOp .USub) (rU λi=>.int (-i)):=NV λ_ _ _ _ _ q=>neg_int q
theorem AY:dH X (SI .Lt) (nO λi j=>.bl (decide (i < j))):=AW λ_ _ _ _ _ _ _ q=>lt_int q
theorem LZ:dH X (SI .LtE) (nO λi j=>.bl (decide (i<=j))):=AW λ_ _ _ _ _ _ _ q=>le_int q
theorem vg:dH X (SI .Gt) (nO λi j=>.bl (decide (j < i))):=AW λ_ _ _ _ _ _ _ q=>gt_int q
theorem LY:dH X (SI .GtE) (nO λi j=>.bl (decide (j<=i))):=AW λ_ _ _ _ _ _ _ q=>ge_int q
theorem dH.or {f:QH->QH->Sem QH}{r r':R2}(h:dH X f r) (h':dH X f r'):dH X f (λx y H Q=>r x y H Q\/r' x y H Q):=by
 intro Qw s σ H x y v u Q I rx ry q;rcases q with q | q
 ·exact h Qw s σ H x y v u Q I rx ry q
 ·exact h' Qw s σ H x y v u Q I rx ry q
theorem xu (b:Rz) (h:autoParam (op≠.In) zB._auto_1) (h2:autoParam (op≠.NotIn) zB._auto_1):R5 op b=false:=by
 have e1:(op == abo)=false:=by cases op <;> first | rfl | exact absurd rfl h
 have e2:(op == aaM)=false:=by cases op <;> first | rfl | exact absurd rfl h2
 cases b <;> simp [R5,e1,e2]
theorem Hv (ho:dH X (SI op) r) (ha:PE X a ta) (hb:PE X b tb) (hm:R5 op b=false):PE X (.Compare a [op] [b] pos) (Dq r ta tb):=by intro Qw s σ H Q I h;exact wpAny_Compare1 (DT ha hb I h λv u s2 x y H2 I2 rx ry q=>ho Qw s2 σ H2 x y v u Q I2 rx ry q) hm
noncomputable def Ms (t:TE):TT:=λσ H Q=>t σ H λx H'=>∃k,x=.bl k/\Q k H'
theorem tK {op:CmpOp}{r:R2}(ho:dH X (SI op) r) (ha:PE X a ta) (hb:PE X b tb) (hm:R5 op b=false):PT X (.Compare a [op] [b] pos) (Ms (Dq r ta tb)):=by
 intro Qw s σ H Q I h;refine W_ (bU (ha Qw s σ H _ I h) λv s1 ⟨x,H1,I1,r1,q1⟩=>bU (hb Qw s1 σ H1 _ I1 q1) λu s2 ⟨y,H2,I2,r2,q2⟩=>
  bU (ho Qw s2 σ H2 x y v u _ I2 r1 r2 q2) λc s3 ⟨z,H3,I3,r3,k,e,q3⟩=>?_) hm
 subst e;cases r3;exact Tt ⟨H3,I3,q3⟩
noncomputable def DN (K:QG) (x:V) (H:Hp) (k:Bool):Prop:=
 match x with
 | .non=>k=false
 | .bl b=>k=b
 | .int i=>k=(i != 0)
 | .str y=>y.length<=sizeLine/\k=((y.length:Int) != 0)
 | .byt y=>y.size<=sizeLine/\k=((y.size:Int) != 0)
 | .ref p=>(∃xs,c6 K H p xs/\k=!xs.isEmpty)\/(∃xs,fP K H p xs/\k=!xs.isEmpty)\/∃QC,H p=some (.dK QC)/\k=!QC.isEmpty
 | _=>False
theorem AG {κ:Type}{QC:List (κ×V)}{vs:List (κ×QH)}(r:KV QC vs):(!vs.isEmpty)=!QC.isEmpty:=by cases r <;> rfl
theorem qZ {xs:List V}{Qx:List QH}(r:Vals xs Qx):(!Qx.toArray.isEmpty)=!xs.isEmpty:=by cases r <;> simp
theorem lg:(sizeLine:Nat) < 2 ^ 63:=by rw [Sd];decide
theorem Lq:MS X (λx H Q=>∃k,DN X.K x H k/\Q k H):=by
 intro Qw s σ H x v Q I rx h;obtain ⟨k,e,q⟩:=h;have hl:=lg;have hs:sizeLine=16777216:=Sd;cases x with
 | non=>
  cases rx;have e':k=false:=e;subst e';exact truthy_none ⟨H,I,q⟩
 | bl b=>
  cases rx;have e':k=b:=e;subst e';exact Tt ⟨H,I,q⟩
 | int i=>
  obtain ⟨t,rfl⟩:=rx;have e':k=(i != 0):=e;subst e';exact PySem.P.truthy_int ⟨H,I,q⟩
 | str y=>
  obtain ⟨t,rfl⟩:=rx;obtain ⟨hy,e'⟩:y.length<=sizeLine/\k=((y.length:Int) != 0):=e;subst e';exact PySem.P.truthy_str (by omega) ⟨H,I.tok _,q⟩
 | byt y=>
  obtain ⟨t,rfl⟩:=rx;obtain ⟨hy,e'⟩:y.size<=sizeLine/\k=((y.size:Int) != 0):=e;subst e';exact W.truthy_bytes (by omega) ⟨H,I.tok _,q⟩
 | ref p=>
  cases rx;have e':(∃xs,c6 X.K H p xs/\k=!xs.isEmpty)\/(∃xs,fP X.K H p xs/\k=!xs.isEmpty)\/∃QC,H p=some (.dK QC)/\k=!QC.isEmpty:=e;rcases e' with ⟨xs,hx,e'⟩ | ⟨xs,hx,e'⟩ | ⟨QC,hx,e'⟩
  ·subst e';obtain ⟨Qx,r,pl,hz⟩:=I.list hx;have hlen:=r.length;exact wpAny_truthy_list pl.isList (by simp only [Q3];omega) ⟨H,I.tok _,by rw [qZ r];exact q⟩
  ·subst e';obtain ⟨Qx,r,pl,hz⟩:=I.tuple hx;have hlen:=r.length;exact truthy_tuple pl (by simp only [Q3];omega) ⟨H,I.tok _,by rw [qZ r];exact q⟩
  ·subst e';obtain ⟨hz,hS,vs,r,m⟩:QC.length<=sizeLine/\(p == RY)=false/\∃vs,KV QC vs/\s.heap.DictOf (d_ X.prog X.w) p vs:=I.hok p _ hx;have hlen:QC.length=vs.length:=Wy r;exact wpAny_truthy_dict hS m (by omega) ⟨H,I.tok _,by rw [AG r];exact q⟩
 | _=>exact (show False from e).elim
theorem EM (ha:PE X a ta) (he:∀whole,Yg a X.env whole=(do let v <-whole;UG a.pos;holding [v] (truthy v))):
  PT X a (λσ H Q=>ta σ H λx H'=>∃k,DN X.K x H' k/\Q k H'):=by intro Qw s σ H Q I h;exact isTrue_plain (bU (ha Qw s σ H _ I h) λv s1 ⟨x,H1,I1,r1,q1⟩=>Lq Qw s1 σ H1 x v Q I1 r1 q1) (he _)
theorem AX:dH X (UN .Add) (λx y H Q=>∃i j,x=.str i/\y=.str j/\i.length + j.length<=sizeLine/\Q (.str (i++j)) H):=by intro Qw s σ H x y v u Q I rx ry h;obtain ⟨i,j,rfl,rfl,hz,q⟩:=h;obtain ⟨t,rfl⟩:=rx;obtain ⟨t',rfl⟩:=ry;exact add_str (λt' tk=>⟨.str (i++j),H,I.tok _,⟨_,rfl⟩,q⟩) hz
theorem vals1 (r:Vals [x] us):∃u,us=[u]/\RelV x u:=by
 cases r with
 | cons r1 r2=>cases r2;exact ⟨_,rfl,r1⟩
theorem vals2 (r:Vals [x,y] us):∃u w',us=[u,w']/\RelV x u/\RelV y w':=by
 cases r with
 | cons r1 r2=>
  cases r2 with
  | cons r3 r4=>cases r4;exact ⟨_,_,rfl,r1,r3⟩
end
structure sA (h:Sa) (x dx C:Q4) (mA:Str->Option QH):Prop where
 obj:h.get? x=some (Tu C dx)
 ns:h.Ns1 dx mA
 ne:dx≠x
theorem Cs {h:Sa}{dx:Q4}{mA:Str->Option QH}(n:h.Ns1 dx mA):∃od,h.get? dx=some od/\∀name,XS name od=some (mA name):=by
 obtain ⟨o,es,ep,ho,hd,hk,_,hm⟩:=n;refine ⟨o,ho,λname=>?_⟩;have e:=hm name;unfold nsFind findBy at e;rw [<-Array.find?_toList] at e;unfold XS;rw [hd];dsimp only;split
 ·rename_i y q;rw [q] at e;exact congrArg some e
 ·rename_i q;rw [q] at e;have a:es.toList.any (·.refKey)=false:=by rw [YA];intro y hy;obtain ⟨z,t,hkey⟩:=hk y (Array.mem_toList_iff.mp hy);simp [abk,hkey]
  have a':¬es.toList.any (·.refKey)=true:=by rw [a];exact RQ
  rw [if_neg a'];exact congrArg some e
theorem sA.look {h:Sa}{x dx C:Q4}{mA:Str->Option QH}(I:sA h x dx C mA):∃od,Ui h x (Tu C dx) C (some od)/\∀name,XS name od=some (mA name):=
 let ⟨od,ho,hl⟩:=Cs I.ns
 ⟨od,⟨I.obj,rfl,rfl,ho⟩,hl⟩
section
variable {prog:Q2}{w:Ro}{A:RA}{E:QH->QL->Prop}{s:QL}{K:QG}{x dx C f:Q4}{mA:Str->Option QH}{name:Str}{v:QH}
theorem get_map {expr:Bool}{Q:QH->QL->Prop}(X:K.In s.heap) (I:sA s.heap x dx C mA) (hg:Vv K C name=true) (hh:Vd K C=true)
  (ha:Rk K (.ref C) name=some none) (hv:mA name=some v) (hv':Y8 v=true) (h:Q v {s with toks:=s.toks + 1}):
  Q8 (Rb prog w) A (getAttr (.ref x) name expr) Q E s:=by obtain ⟨od,J,hl⟩:=I.look;exact W.get_value X J (W.plainGet_of hg).1 (W.findObj_own hh ha rfl (by rw [hl,hv])) hv' h
theorem Ig {ns:List Str}{Q:Unit->QL->Prop}(X:K.In s.heap) (I:sA s.heap x dx C mA)
  (hs:Rk K (.ref C) "__setattr__"=some (some (.builtin "object.__setattr__"))) (hp:Wm K C=true) (ht:Xc K C name=some none) (hh:Vd K C=true)
  (hw:YW mA ns) (hsz:ns.length<=sizeLine)
  (h:∀h',sA h' x dx C (λy=>if y=name then some v else mA y)->SD dx s.heap h'->Q () {s with heap:=h',toks:=s.toks + 2}):
  Q8 (Rb prog w) A (setAttr (.ref x) name v) Q E s:=by obtain ⟨od,J,hl⟩:=I.look;refine W.set_plain X J hs (W.osa_open (s:={s with toks:=s.toks + 1}) (r:=none) X J hp ht λb=>?_);obtain ⟨cd,hc,hd'⟩:=W.any_some hh;have hx:s.heap.get? x=some ⟨.ref C,some dx,.plain,#[]⟩:=I.obj;refine QF (QJ (QF (QF (ZK hx (QF (aa9 (s:={s with toks:=s.toks + 1}) (W.looks_clsIn X hc) ?_))))));rw [hd'];refine QJ (a:=some dx) (QF (QJ (QF ?_)));refine wpAny_nsSet1 (s:={s with toks:=s.toks + 1}) I.ns λh' hn2 hs2=>?_;obtain ⟨oD,esD,epD,Qk,P_,P9⟩:=hn2.count (abf name v hw);refine QF (wpAny_lookBehind Qk (by rw [P_];exact pastItsLine_dict (RG P9 (by rw [Rm];omega))) ?_);exact QJ (h _ ⟨(hs2.2 _ (Sb I.ne)).trans I.obj,hn2,I.ne⟩ hs2)
theorem Ew {R:XU->QL->Prop}{vs:List QH}{kw:List (Str×QH)}(X:K.In s.heap) (hm:Xd K C=true)
  (hi:Rk K (.ref C) "__init__"=some (some (.ref f))) (hf:ZL K (.ref f)=some (.type "function"))
  (h:SQ (Rb prog w) (A.under (.builtin "type.__call__" ⟨.ref C::vs,kw⟩)) (.call (.ref f) ⟨.ref (s.heap.objs.size + 1)::vs,kw⟩) (W.InitBack (s.heap.objs.size + 1) R)
   {s with heap:=(s.heap.push SE).push (Tu C s.heap.objs.size)}):
  SQ (Rb prog w) A (.call (.ref C) ⟨vs,kw⟩) R s:=by obtain ⟨hh,g,d,t,os⟩:=s;exact W.make_core (W.makes_of X hm) (VA X hi) (λself=>W.bind_fn X self hf) (.inl rfl) h
end
noncomputable def f6 (f:Str) (v:V):List (Str×V)->List (Str×V)
 | []=>[(f,v)]
 | (g,x)::r=>if g=f then (g,v)::r else (g,x)::f6 f v r
theorem pC (f g:Str) (v:V):∀fs:List (Str×V),(f6 f v fs).lookup g=if g=f then some v else fs.lookup g
 | []=>by
  show Us g [(f,v)]=_;by_cases h:g=f
  ·have hb:(g == f)=true:=beq_iff_eq.mpr h;simp only [Us,hb,if_pos h]
  ·have hb:(g == f)=false:=beq_eq_false_iff_ne.mpr h;simp only [Us,hb,if_neg h]
 | (k,x)::r=>by
  have ih:=pC f g v r;rw [show f6 f v ((k,x)::r)=(if k=f then (k,v)::r else (k,x)::f6 f v r) from rfl];by_cases hk:k=f
  ·rw [if_pos hk];by_cases h:g=k
   ·have hb:(g == k)=true:=beq_iff_eq.mpr h;simp only [Us,hb,if_pos (h.trans hk)]
   ·have hb:(g == k)=false:=beq_eq_false_iff_ne.mpr h;simp only [Us,hb,if_neg (λe:g=f=>h (e.trans hk.symm))]
  ·rw [if_neg hk];by_cases h:g=k
   ·have hb:(g == k)=true:=beq_iff_eq.mpr h;simp only [Us,hb,if_neg (λe:g=f=>hk (h.symm.trans e))]
   ·have hb:(g == k)=false:=beq_eq_false_iff_ne.mpr h;simp only [Us,hb];exact ih
theorem nC (f:Str) (v:V):∀fs:List (Str×V),f∈(f6 f v fs).map (·.1)/\∀g,g∈fs.map (·.1)->g∈(f6 f v fs).map (·.1)
 | []=>⟨by simp [f6],λg h=>by simp at h⟩
 | (k,x)::r=>by
  obtain ⟨i1,i2⟩:=nC f v r;rw [show f6 f v ((k,x)::r)=(if k=f then (k,v)::r else (k,x)::f6 f v r) from rfl];by_cases hk:k=f
  ·rw [if_pos hk];subst hk;exact ⟨by simp,λg h=>by simpa using h⟩
  ·rw [if_neg hk];refine ⟨?_,λg h=>?_⟩
   ·rw [Ri];exact QO _ i1
   ·rw [Ri] at h ⊢;rcases QZ.mp h with e | e
    ·exact QZ.mpr (.inl e)
    ·exact QO _ (i2 g e)
theorem pA (f:Str) (v:V):∀fs:List (Str×V),(f6 f v fs).length<=fs.length + 1
 | []=>by simp [f6]
 | (k,x)::r=>by
  have ih:=pA f v r;rw [show f6 f v ((k,x)::r)=(if k=f then (k,v)::r else (k,x)::f6 f v r) from rfl];by_cases hk:k=f
  ·rw [if_pos hk,Rm,Rm];omega
  ·rw [if_neg hk,Rm,Rm];omega
theorem iF.some_of {v:V}{o:Option QH}(r:iF (some v) o):∃u,o=some u/\RelV v u:=by
 cases o with
 | none=>exact (show False from r).elim
 | some u=>exact ⟨u,rfl,r⟩
theorem B6 {v:V}{u:QH}(r:RelV v u):Y8 u=true:=by
 cases v with
 | non=>cases (show u=SS from r);rfl
 | bl b=>cases (show u=Yz b from r);rfl
 | int i=>obtain ⟨t,e⟩:=(show ∃t,u=UY i t from r);cases e;rfl
 | str x=>obtain ⟨t,e⟩:=(show ∃t,u=Yc x t from r);cases e;rfl
 | byt b=>obtain ⟨t,e⟩:=(show ∃t,u=aaK b t from r);cases e;rfl
 | flt b=>obtain ⟨t,e⟩:=(show ∃t,u=aaL b t from r);cases e;rfl
 | ref a=>cases (show u=Tj a from r);rfl
 | ty n=>cases (show u=T4 n from r);rfl
section
variable {P:Q2}{w:Ro}{H H':Hp}{h h':Sa}{a C dx:Q4}{fs fs':List (Str×V)}
theorem sW (hok:eW P w H h) (e:H a=some (.ins C dx fs)):∃mA,sA h a dx C mA/\(∀f,iF (fs.lookup f) (mA f))/\YW mA (fs.map (·.1))/\fs.length<=1000/\H dx=some (.own a):=by obtain ⟨d,z,ne,ob,mA,n,r,q⟩:=(show cu P w H h a (.ins C dx fs) from hok a _ e);exact ⟨mA,⟨ob,n,ne⟩,r,q,z,d⟩
end
structure oR (K:QG) (C:Q4):Prop where
 pg:Vv K C Wn=true
 hd:Vd K C=true
 po:Wm K C=true
 sa:Rk K (.ref C) "__setattr__"=some (some (.builtin "object.__setattr__"))
theorem oR.get {K:QG}{C:Q4}(c:oR K C) (f:Str):Vv K C f=true:=c.pg
noncomputable def gU (K:QG) (C:Q4) (f:Str):Prop:=Rk K (.ref C) f=some none
theorem gU.taker {K:QG}{C:Q4}{f:Str}(n:gU K C f):Xc K C f=some none:=by unfold Xc;rw [show Rk K (.ref C) f=some none from n];rfl
section
variable {X:Cx}{Qw:List (Q4×Obj)}{σ:St}{H:Hp}{s:QL}{a C dx:Q4}{fs:List (Str×V)}{f:Str}{v:V}{A:RA}{E:QH->QL->Prop}
theorem AD {b:Bool}{Q:QH->QL->Prop}(I:Inv X Qw σ H s) (e:H a=some (.ins C dx fs)) (c:oR X.K C) (n:gU X.K C f) (l:fs.lookup f=some v)
  (h:∀u s',Inv X Qw σ H s'->RelV v u->Q u s'):Q8 (Rb X.prog X.w) A (getAttr (.ref a) f b) Q E s:=by obtain ⟨mA,O,r,_,_,_⟩:=sW I.hok e;obtain ⟨u,hu,ru⟩:=iF.some_of (v:=v) (o:=mA f) (by rw [<-l];exact r f);exact get_map I.kIn O (c.get f) c.hd n hu (B6 ru) (h u _ (I.tok _) ru)
theorem A7 {y:V}{u:QH}{Q:Unit->QL->Prop}(I:Inv X Qw σ H s) (e:H a=some (.ins C dx fs)) (c:oR X.K C) (n:gU X.K C f) (hl:fs.length < 1000) (ry:RelV y u)
  (h:∀s',Inv X Qw σ (upd H a (.ins C dx (f6 f y fs))) s'->Q () s'):Q8 (Rb X.prog X.w) A (setAttr (.ref a) f u) Q E s:=by
 obtain ⟨mA,O,r,wi,_,ho⟩:=sW I.hok e;have hz:(fs.map (·.1)).length<=sizeLine:=by rw [QN,Sd];omega
 refine Ig I.kIn O c.sa c.po n.taker c.hd wi hz λh' O' sb=>h _ ?_;have hd:∃o,h'.get? dx=some o:=let ⟨o,_,_,e',_⟩:=O'.ns;⟨o,e'⟩
 refine I.write (x:=a) (e:=dx) (by rw [e];exact TN) (.inr ho) (λb q hb z=>(sb.2 b hb).trans z) hd ?_;refine ⟨by rw [bh O.ne];exact ho,?_,O.ne,O'.obj,_,O'.ns,λg=>?_,λg hg=>?_⟩
 ·have:=pA f y fs;omega
 ·show iF ((f6 f y fs).lookup g) (if g=f then some u else mA g);rw [pC];by_cases q:g=f
  ·rw [if_pos q,if_pos q];exact ry
  ·rw [if_neg q,if_neg q];exact r g
 ·by_cases q:g=f
  ·rw [q];exact (nC f y fs).1
  ·refine (nC f y fs).2 g (wi g λz=>hg ?_);show (if g=f then some u else mA g)=none;rw [if_neg q];exact z
theorem Inv.made (I:Inv X Qw σ H s):Inv X Qw σ (upd (upd H s.heap.objs.size (.own (s.heap.objs.size + 1))) (s.heap.objs.size + 1) (.ins C s.heap.objs.size []))
  {s with heap:=(s.heap.push SE).push (Tu C s.heap.objs.size)}:=by
 have e1:(s.heap.push SE).get? s.heap.objs.size=some SE:=QW s.heap rfl;have e2:((s.heap.push SE).push (Tu C s.heap.objs.size)).get? (s.heap.objs.size + 1)=some (Tu C s.heap.objs.size):=by
  have:=QW (s.heap.push SE) (o:=Tu C s.heap.objs.size) rfl
  rwa [Sh] at this
 have e3:(s.heap.push SE).Ns s.heap.objs.size (λ_=>none):=⟨SE,#[],_,e1,rfl,(λe he=>absurd he (by simp)),λ_=>rfl⟩;have I1:=I.laid (a:=s.heap.objs.size) (o:=.own (s.heap.objs.size + 1)) (h':=s.heap.push SE) (t':=s.toks) (λb u q=>QM _ q) (QV _) ⟨_,e1⟩;refine I1.laid (a:=s.heap.objs.size + 1) (o:=.ins C s.heap.objs.size []) (t':=s.toks) (λb u q=>QM _ q) (YX (Sh _ _)) ?_;have ne:s.heap.objs.size≠s.heap.objs.size + 1:=Q7 (RN _);refine ⟨by rw [bh ne,bI],Rj _,ne,e2,λ_=>none,(Heap.Ns1.of_empty e3).at λo q=>QM _ q,λ_=>TN,λy hy=>absurd rfl hy⟩
theorem Gy {pos:Pos}{Q:QH->QL->Prop}(hb:SX e f env (eval e env)=eval e env)
 (h:Q8 (Rb prog w) A (eval e env) (λo s₁=>Q8 (Rb prog w) A (getAttr o f true) Q E s₁) E s):Q8 (Rb prog w) A (eval (.Attribute e f pos) env) Q E s:=
 Attribute_any_ h (by rw [arm_eval_Attribute,hb])
end
noncomputable def Ln (K:QG) (ta:TE) (f:Str):TE:=λσ H Q=>ta σ H λx H1=>∃a C dx fs v,x=.ref a/\H1 a=some (.ins C dx fs)/\oR K C/\gU K C f/\fs.lookup f=some v/\Q v H1
noncomputable def Nd (K:QG) (ta tv:TE) (f:Str):TS:=λD σ H=>tv σ H λy H1=>ta σ H1 λx H2=>∃a C dx fs,x=.ref a/\H2 a=some (.ins C dx fs)/\oR K C/\gU K C f/\fs.length < 1000/\
 D.nx σ (upd H2 a (.ins C dx (f6 f y fs)))
section
variable {X:Cx}{o e value:Rz}{f:Str}{pos pos' tpos:Pos}{ta tv:TE}
theorem rE (he:PE X e ta) (hb:SX e f X.env (eval e X.env)=eval e X.env):PE X (.Attribute e f pos) (Ln X.K ta f):=by intro Qw s σ H Q I h;refine Gy hb (bU (he Qw s σ H _ I h) λu s1 ⟨x,H1,I1,rx,a,C,dx,fs,v,ex,ea,c,n,l,q⟩=>?_);subst ex;obtain rfl:u=Tj a:=rx;exact AD I1 ea c n l λu' s2 I2 ru=>⟨v,H1,I2,ru,q⟩
theorem CQ (ha:PE X o ta) (hv:PE X value tv) (hs:Ur value (some (.Attribute o f pos')) pos.line X.env=pure false):PS X (.Assign [.Attribute o f pos'] value pos) (Nd X.K ta tv f):=by intro Qw s σ H D I h;refine plainObj_wpAny_Assign_Attribute (bU (hv Qw s σ H _ I h) λu s1 ⟨y,H1,I1,ry,q⟩=>bU (ha Qw s1 σ H1 _ I1 q) λov s2 ⟨x,H2,I2,rx,a,C,dx,fs,ex,ea,c,n,l,q2⟩=>?_) hs;subst ex;obtain rfl:ov=Tj a:=rx;exact A7 I2 ea c n l ry λs3 I3=>⟨σ,_,I3,q2⟩
end
structure cR (k:Nat) (A:RA):Prop where
 hd:A.handled=none
 dp:A.depth + 3 * k + 5 < ZM
 un:A.units + 16 * k + 200 < Up
theorem cR.mono (r:cR k A) (h:j<=k):cR j A:=⟨r.hd,by have:=r.dp;omega,by have:=r.un;omega⟩
theorem cR.deeper {A:RA}(r:cR (k + 1) A) (env:Env):cR k (A.deeper env):=
 ⟨r.hd,by have:=r.dp;show A.depth + 1 + 3 * k + 5 < _;omega,by have:=r.un;show A.units + 3 + 16 * k + 200 < _;omega⟩
theorem AM {A:RA}{C:Q4}:(A.under (.builtin "type.__call__" ⟨.ref C::us,kw⟩)).depth=A.depth + 1:=by
 first | rfl | simp [YY,Code.weight,Code.isCreation,Code.isGuard,Code.isCaller,aaN,YZ,guardIds]
theorem AN {A:RA}{C:Q4}:(A.under (.builtin "type.__call__" ⟨.ref C::us,kw⟩)).units=A.units + 1:=by
 first | rfl | simp [YY,Code.cUnits,aaN,YZ]
theorem cR.make {A:RA}(r:cR (k + 1) A) (C:Q4) (us:List QH) (kw:List (Str×QH)):cR k (A.under (.builtin "type.__call__" ⟨.ref C::us,kw⟩)):=
 ⟨r.hd,by have:=r.dp;rw [AM];omega,by have:=r.un;rw [AN];omega⟩
theorem cR.depth {A:RA}(r:cR k A):A.depth < ZM:=by have:=r.dp;omega
theorem cR.units {A:RA}(r:cR k A):A.units + 64 < Up:=by have:=r.un;omega
noncomputable def E3:TA:=λ_ H Q=>Q [] H
noncomputable def Mh (ta:TE) (tr:TA):TA:=λσ H Q=>ta σ H λx H1=>tr σ H1 λxs H2=>Q (x::xs) H2
section
variable {X:Cx}{e:Rz}{es:List Rz}{te:TE}{t:TA}{pos:Pos}
theorem ji:PA X [] E3:=λ_ _ _ _ H Q I h=>Calls.spliced_nil ⟨[],H,I,.nil,h⟩
theorem gF (ha:PE X e te) (hr:PA X es t) (hs:autoParam (QY (e::es) X.env=(false,eval e X.env)::QY es X.env) zA._auto_1):PA X (e::es) (Mh te t):=by intro pos Qw s σ H Q I h;rw [hs];show Q8 _ _ (spliced ((false,eval e X.env)::Tn pos (QY es X.env))) _ _ s;refine Calls.spliced_cons (bU (ha Qw s σ H _ I h) λu s1 ⟨x,H1,I1,r1,q1⟩=>?_);exact bU (hr pos Qw s1 σ H1 _ I1 q1) λus s2 ⟨xs,H2,I2,r2,q2⟩=>⟨x::xs,H2,I2,.cons r1 r2,q2⟩
noncomputable def Nu (t:TA):TE:=λσ H Q=>t σ H λxs H1=>xs.length<=sizeLine/\∀p,H1 p=none->Q (.ref p) (upd H1 p (.tup xs))
noncomputable def Np (t:TA):TE:=λσ H Q=>t σ H λxs H1=>xs.length<=sizeLine/\∀p,H1 p=none->Q (.ref p) (upd H1 p (.lst xs))
theorem KH {x1}(h:PA X es t):PE X (.Tuple es x1 pos) (Nu t):=by intro Qw s σ H Q I hq;refine wpAny_Tuple_spliced (bU (h pos Qw s σ H _ I hq) λus s1 ⟨xs,H1,I1,r,z,q⟩=>⟨by rw [<-r.length];exact z,?_⟩);have hf:H1 s1.heap.objs.size=none:=I1.hok.fresh (QV _);refine ⟨.ref s1.heap.objs.size,upd H1 s1.heap.objs.size (.tup xs),I1.laid (t':=s1.toks) (λb u e=>QM _ e) (QV _) ?_,rfl,q _ hf⟩;exact ⟨z,us,r,⟨_,QW _ rfl,rfl,_,rfl⟩,λo q=>by rw [QW _ rfl] at q;cases q;rfl⟩
theorem Ky (h:PA X es t):PE X (.List es pos) (Np t):=by intro Qw s σ H Q I hq;refine wpAny_List_spliced (bU (h pos Qw s σ H _ I hq) λus s1 ⟨xs,H1,I1,r,z,q⟩=>⟨by rw [<-r.length];exact z,?_⟩);have hf:H1 s1.heap.objs.size=none:=I1.hok.fresh (QV _);refine ⟨.ref s1.heap.objs.size,upd H1 s1.heap.objs.size (.lst xs),I1.laid (t':=s1.toks) (λb u e=>QM _ e) (QV _) ?_,rfl,q _ hf⟩;exact ⟨z,us,0,r,QW _ rfl⟩
end
noncomputable abbrev Sp:=List V->Hp->VK->XK->Prop
noncomputable abbrev qk:=List Env->Hp->QL->XK->QH->QL->Prop
structure pP (P:Q2) (w:Ro) (K:QG) (mg:Str->Option QH) (base:Sa) (A:RA) (outer:List Env) (s:QL) (H:Hp):Prop where
 frames:A.frames=some outer
 mod:Mod K mg base
 bs:∀b o,base.get? b=some o->s.heap.get? b=some o/\H b=none
 bsz:base.objs.size<=s.heap.objs.size
 funs:s.heap.FunFrames base outer
 frf:∀b∈frs outer,H b=none
 hok:eW P w H s.heap
 bare:Wz s.gens
noncomputable def CE (outer:List Env) (P:Q2) (w:Ro) (H:Hp) (s:QL) (Q:VK) (u:QH) (s':QL):Prop:=
 ∃v H',s'.os=s.os/\Wz s'.gens/\Un (frs outer) [] H H' s.heap s'.heap/\eW P w H' s'.heap/\RelV v u/\Q v H'
noncomputable def CR (CX:qk) (outer:List Env) (P:Q2) (w:Ro) (H:Hp) (s:QL) (Q:VK) (E:XK) (r:XU) (s':QL):Prop:=
 match r with
 | .ok (.ret u)=>CE outer P w H s Q u s'
 | .ok _=>False
 | .error e=>CX outer H s E e s'
structure eG (P:Q2) (w:Ro) (K:QG) (mg:Str->Option QH) (base:Sa) (CX:qk) (k:Nat) (f:Q4) (fd:Rp) (ps:List Str) (sp:Sp):Prop where
 len:∀vs H Q E,sp vs H Q E->vs.length=ps.length
 run:∀(A:RA) (outer:List Env) (s:QL) (H:Hp) (args:Args) (us:List QH) (vs:List V) (Q:VK) (E:XK),cR k A->pP P w K mg base A outer s H->Zn s fd args (ps.zip us)->Vals vs us->sp vs H Q E->
  SQ (Rb P w) A (.call (.ref f) args) (CR CX outer P w H s Q E) s
theorem pP.make {P:Q2}{w:Ro}{K:QG}{mg:Str->Option QH}{base:Sa}{A:RA}{outer:List Env}{s:QL}{H:Hp}(e:pP P w K mg base A outer s H) (C:Q4) (us:List QH) (kw:List (Str×QH)):
  pP P w K mg base (A.under (.builtin "type.__call__" ⟨.ref C::us,kw⟩)) outer s H:=⟨by first | exact e.frames | (simpa [YY,Code.envs,YZ,pushEnvs] using e.frames),e.mod,e.bs,e.bsz,e.funs,e.frf,e.hok,e.bare⟩
section
variable {X:Cx}{Qw:List (Q4×Obj)}{σ:St}{H:Hp}{s s':QL}
theorem Inv.env0 (I:Inv X Qw σ H s):pP X.prog X.w X.K X.mg X.base X.A X.stack s H:=
 ⟨I.ok.frames,I.ok.mod,I.bs,RG I.ok.bsz I.sz,I.stack,I.stkFree,I.hok,I.bare⟩
theorem Inv.after {Q:VK}(I:Inv X Qw σ H s) (h:CE X.stack X.prog X.w H s Q u s'):EP X Qw σ Q u s':=by obtain ⟨v,H',os,bare,un,hok,r,q⟩:=h;obtain ⟨hh,g,d,t,os'⟩:=s';obtain rfl:os'=s.os:=os;exact ⟨v,H',I.call (h':=hh) (g':=g) (d':=d) (t':=t) (ch:=[]) un hok bare (λb z=>absurd z (by simp)),r,q⟩
end
noncomputable def Gd (sp:Sp) (dvs:List V) (E:XK) (t:TA):TE:=λσ H Q=>t σ H λvs H1=>sp (vs++dvs) H1 Q E
noncomputable def Ml (C:Q4) (sp:Sp) (dvs:List V) (E:XK) (t:TA):TE:=λσ H Q=>t σ H λvs H1=>∀x dx,H1 x=none->H1 dx=none->dx≠x->
 sp (.ref x::(vs++dvs)) (upd (upd H1 dx (.own x)) x (.ins C dx [])) (λv H2=>v=.non/\Q (.ref x) H2) E
noncomputable def Binds (K:QG) (fd:Rp) (ps:List Str) (ds:List QH):Prop:=
 ∀(s:QL) (us:List QH),K.In s.heap->(us++ds).length=ps.length->Zn s fd ⟨us,[]⟩ (ps.zip (us++ds))
theorem Binds.all {K:QG}{fd:Rp}{ps:List Str}(h:∀us:List QH,us.length=ps.length->Vn fd ⟨us,[]⟩=pure (ps.zip us)):Binds K fd ps []:=λs us _ hl=>by rw [R6] at hl ⊢;exact .of_eq (h us hl)
noncomputable def Passes (CX:qk) (X:Cx) (E:XK):Prop:=∀(Qw:List (Q4×Obj)) (σ:St) (H:Hp) (s:QL) (e:QH) (s':QL),Inv X Qw σ H s->CX X.stack H s E e s'->X.xe e s'
section
variable {X:Cx}{CX:qk}{k:Nat}{f C:Q4}{fd:Rp}{ps:List Str}{sp:Sp}{dvs:List V}{ds:List QH}{E:XK}{x m:Str}{p pos apos:Pos}{e o:Rz}{es:List Rz}{ta:TE}{t:TA}
theorem Lc {H:Hp}{Q:VK}(F:eG X.prog X.w X.K X.mg X.base CX k f fd ps sp) (hr:cR k X.A) (hb:Binds X.K fd ps ds) (hd:Vals dvs ds) (hx:Passes CX X E)
 (I:Inv X Qw σ H s) (r:Vals vs us) (h:sp (vs++dvs) H Q E):Q8 (Rb X.prog X.w) X.A (call (.ref f) us) (EP X Qw σ Q) X.xe s:=by
 have r2:Vals (vs++dvs) (us++ds):=r.append hd;have hl:(us++ds).length=ps.length:=by rw [<-r2.length];exact F.len _ _ _ _ h
 refine Wo (Uc (F.run X.A X.stack s H ⟨us,[]⟩ (us++ds) (vs++dvs) Q E hr I.env0 (hb s us I.kIn hl) r2 h) λr s' hq=>?_);cases r with
 | error e=>exact hx Qw σ H s e s' I hq
 | ok fl=>
  cases fl with
  | ret u=>exact I.after hq
  | next=>exact TL hq
  | brk=>exact TL hq
  | cont=>exact TL hq
theorem tF (F:eG X.prog X.w X.K X.mg X.base CX k f fd ps sp) (hr:cR k X.A) (hg:Gl X x) (hm:X.mg x=some (.ref f)) (hk:RL X.K (.ref f)=true) (hb:Binds X.K fd ps ds) (hd:Vals dvs ds) (hx:Passes CX X E)
  (ha:PA X (e::es) t) (hdb:autoParam ((x == ("__debug__":Str))=false) zB._auto_1) (he:autoParam (QY (e::es) X.env=(false,eval e X.env)::QY es X.env) zA._auto_1) (hpl:autoParam ((Tn pos (QY es X.env)).any (·.1)=false) zA._auto_1):
  PE X (.Call (.Name x p) (e::es) [] pos) (Gd sp dvs E t):=by intro Qw s σ H Q I h;refine Uk (sZ I hg hm ?_ hdb);refine Yh (h₀:=X.base) I.ok.mod.kin hk (bU (ha pos Qw s σ H _ I h) λus s1 ⟨vs,H1,I1,r,q⟩=>⟨I1.kIn,?_⟩) he hpl;exact Lc F hr hb hd hx I1 r q
structure Mk (K:QG) (C f:Q4):Prop where
 makes:Xd K C=true
 init:Rk K (.ref C) "__init__"=some (some (.ref f))
 fn:aas K (.ref f)=true
 kp:RL K (.ref C)=true
theorem EX {Qw:List (Q4×Obj)}{σ:St}{H:Hp}{s:QL}{Q:VK}{us:List QH}{vs:List V}(M:Mk X.K C f) (F:eG X.prog X.w X.K X.mg X.base CX k f fd ps sp) (hr:cR (k + 1) X.A) (hb:Binds X.K fd ps ds) (hd:Vals dvs ds)
  (hx:Passes CX X E) (I:Inv X Qw σ H s) (r:Vals vs us)
  (h:∀x dx,H x=none->H dx=none->dx≠x->sp (.ref x::(vs++dvs)) (upd (upd H dx (.own x)) x (.ins C dx [])) (λv H2=>v=.non/\Q (.ref x) H2) E):
  Q8 (Rb X.prog X.w) X.A (call (.ref C) us) (EP X Qw σ Q) X.xe s:=by
 have hq:=h (s.heap.objs.size + 1) s.heap.objs.size (I.hok.fresh (Tg _)) (I.hok.fresh (QV _)) (Q7 (RN _));have I2:=Inv.made (C:=C) I;have r2:Vals (V.ref (s.heap.objs.size + 1)::(vs++dvs)) (Tj (s.heap.objs.size + 1)::(us++ds)):=.cons rfl (r.append hd);have hl:(Tj (s.heap.objs.size + 1)::us++ds).length=ps.length:=by have e:=r2.length;rw [F.len _ _ _ _ hq] at e;exact e.symm
 refine Wo (Ew (f:=f) I.kIn M.makes M.init (beq_iff_eq.mp M.fn) (Uc (F.run _ X.stack _ _ ⟨Tj (s.heap.objs.size + 1)::us,[]⟩ (Tj (s.heap.objs.size + 1)::(us++ds)) _ _ E (hr.make C us [])
  (I2.env0.make C us []) (hb _ (Tj (s.heap.objs.size + 1)::us) I2.kIn hl) r2 hq) λr s' hq'=>?_))
 cases r with
 | error e=>exact hx Qw σ _ _ e s' I2 hq'
 | ok fl=>
  cases fl with
  | ret u=>
   obtain ⟨v,H',I3,rv,ev,q3⟩:=I2.after hq';subst ev;exact ⟨rv,⟨V.ref (s.heap.objs.size + 1),H',I3,rfl,q3⟩⟩
  | next=>exact TL hq'
  | brk=>exact TL hq'
  | cont=>exact TL hq'
theorem Hx (M:Mk X.K C f) (F:eG X.prog X.w X.K X.mg X.base CX k f fd ps sp) (hr:cR (k + 1) X.A) (hg:Gl X x) (hm:X.mg x=some (.ref C)) (hb:Binds X.K fd ps ds) (hd:Vals dvs ds) (hx:Passes CX X E)
  (ha:PA X (e::es) t) (hdb:autoParam ((x == ("__debug__":Str))=false) zB._auto_1) (he:autoParam (QY (e::es) X.env=(false,eval e X.env)::QY es X.env) zA._auto_1) (hpl:autoParam ((Tn pos (QY es X.env)).any (·.1)=false) zA._auto_1):
  PE X (.Call (.Name x p) (e::es) [] pos) (Ml C sp dvs E t):=by intro Qw s σ H Q I h;refine Uk (sZ I hg hm ?_ hdb);refine Yh (h₀:=X.base) I.ok.mod.kin M.kp (bU (ha pos Qw s σ H _ I h) λus s1 ⟨vs,H1,I1,r,q⟩=>⟨I1.kIn,?_⟩) he hpl;exact EX M F hr hb hd hx I1 r q
end
structure cJ (N P:List Str) (sc:Uo):Prop where
 kind:sc.kind=.function
 co:sc.isCoroutine=false
 gen:sc.isGenerator=false
 nd:N.Nodup
 pre:N.take P.length=P
 par:∀x∈P,sc.names.lookup x=some .local\/sc.names.lookup x=some .cell
 nofree:∀y∈sc.names,y.2≠.free
theorem ua {kindOf:Str->Option TV}:∀{binds:List (Str×QH)}{m:Str->Option QH},(∀v,(x,v)∉binds)->aaO kindOf binds m x=m x
 | [],_,_=>rfl
 | (n,v)::r,m,h=>by
  unfold aaO;rw [ua λw hw=>h w (QO _ hw)];split
  ·have:x≠n:=by rintro rfl;exact h v QT
   simp [this]
  ·rfl
theorem t9 {kindOf:Str->Option TV}:∀{binds:List (Str×QH)}{m:Str->Option QH},(∀v,(x,v)∉binds)->aaP kindOf binds m x=m x
 | [],_,_=>rfl
 | (n,v)::r,m,h=>by
  unfold aaP;rw [t9 λw hw=>h w (QO _ hw)];split
  ·rfl
  ·have:x≠n:=by rintro rfl;exact h v QT
   simp [this]
theorem t_ {kindOf:Str->Option TV}{x:Str}{v:QH}:∀{P:List Str}{vs:List QH}{i:Nat}{m:Str->Option QH},P.Nodup->P[i]?=some x->vs[i]?=some v->kindOf x=some .local->
  aaO kindOf (P.zip vs) m x=some v
 | [],_,_,_,_,h,_,_=>by simp at h
 | _::_,[],_,_,_,_,h,_=>by simp at h
 | p::P,w::vs,0,m,nd,h1,h2,hk=>by simp at h1 h2;subst h1;subst h2;show aaO kindOf ((p,w)::P.zip vs) m p=_;unfold aaO;rw [ua λv hv=>(S8.mp nd).1 (U0 hv).1,if_pos hk];simp
 | p::P,w::vs,i + 1,m,nd,h1,h2,hk=>by show aaO kindOf ((p,w)::P.zip vs) m x=_;unfold aaO;exact t_ (i:=i) (S8.mp nd).2 (by simpa using h1) (by simpa using h2) hk
theorem tZ {kindOf:Str->Option TV}{x:Str}{v:QH}:∀{P:List Str}{vs:List QH}{i:Nat}{m:Str->Option QH},P.Nodup->P[i]?=some x->vs[i]?=some v->kindOf x≠some .local->
  aaP kindOf (P.zip vs) m x=some v
 | [],_,_,_,_,h,_,_=>by simp at h
 | _::_,[],_,_,_,_,h,_=>by simp at h
 | p::P,w::vs,0,m,nd,h1,h2,hk=>by simp at h1 h2;subst h1;subst h2;show aaP kindOf ((p,w)::P.zip vs) m p=_;unfold aaP;rw [t9 λv hv=>(S8.mp nd).1 (U0 hv).1,if_neg hk];simp
 | p::P,w::vs,i + 1,m,nd,h1,h2,hk=>by show aaP kindOf ((p,w)::P.zip vs) m x=_;unfold aaP;exact tZ (i:=i) (S8.mp nd).2 (by simpa using h1) (by simpa using h2) hk
noncomputable def start (N:List Str) (vs:List V):St:=vs.map some++Rw (N.length - vs.length) none
noncomputable def nj (CX:qk) (P:Q2) (w:Ro) (K:QG) (mg:Str->Option QH) (base:Sa) (N:List Str) (QA:Str) (Qv:Uo) (f:Q4) (cd:QH) (A:RA) (outer:List Env) (s:QL) (H:Hp) (E:XK):Cx where
 prog:=P
 w:=w
 K:=K
 mg:=mg
 base:=base
 A:=A.deeper (Va QA Qv s.heap.objs.size f cd)
 N:=N
 s₀:=s
 H₀:=H
 env:=Va QA Qv s.heap.objs.size f cd
 outer:=outer
 stack:=Va QA Qv s.heap.objs.size f cd::outer
 ex:=[]
 calm:=true
 fn:=λ_=>true
 pn:=[]
 xe:=λe s'=>Q8 (Rb P w) (A.deeper (Va QA Qv s.heap.objs.size f cd)) (leaving (Va QA Qv s.heap.objs.size f cd) e) (λ_ s''=>CX outer H s E e s'') (λe' s''=>CX outer H s E e' s'') s'
theorem we {sc:Uo}(h:sc.names.lookup x=some .cell):∃c,(R7 n sc.names []).lookup x=some c:=by have q:=WY sc.names n [] (.inl h);exact RE.mp q
theorem Ca {CX:qk}{P:Q2}{w:Ro}{K:QG}{mg:Str->Option QH}{base:Sa}{N ps:List Str}{QA:Str}{Qv:Uo}{f:Q4}{cd:QH}{A:RA}{outer:List Env}{s s1:QL}{H:Hp}{E:XK}{us:List QH}{vs:List V}
  (S:cJ N ps Qv) (hd:A.handled=none) (e0:pP P w K mg base A outer s H) (hl:vs.length=ps.length) (r:Vals vs us)
  (x:InCallC s s.heap.objs.size (aaO (Va QA Qv s.heap.objs.size f cd).kindOf (ps.zip us) λ_=>none) (R7 (s.heap.objs.size + 1) Qv.names []) (aaP (Va QA Qv s.heap.objs.size f cd).kindOf (ps.zip us) λ_=>none) s1):
  Inv (nj CX P w K mg base N QA Qv f cd A outer s H E) [] (start N vs) H s1:=by
 have hpl:ps.length<=N.length:=by have:=congrArg VO S.pre;rw [Sv] at this;omega
 obtain ⟨h1,tk,rfl,hk⟩:=x.done;have noA:∀b:Q4,b∉(nj CX P w K mg base N QA Qv f cd A outer s H E).ex:=λb z=>absurd (show b∈([]:List Q4) from z) (by simp);refine ⟨⟨e0.mod,S.kind,rfl,rfl,QV _,λy z c h1 h2=>?_,λy hy=>?_,λy c _ h=>?_,λ_=>hd,Around.frames_deeper e0.frames,.inr ⟨rfl,rfl⟩,λb z=>absurd z (noA b),e0.bs,e0.bsz,λb _ _=>noA b,λb z=>absurd z (noA b),e0.funs,e0.frf⟩,
  rfl,e0.bare,Un.kept hk,⟨_,x.toInCall.ns,λi y v h1 h2 h3=>?_⟩,λy c h=>⟨_,x.cell y c h⟩,e0.hok.fresh (QV _),λy c h=>?_,λp hp=>absurd (show p∈([]:List (Q4×Obj)) from hp) (by simp),e0.hok.kept hk,?_⟩
 ·exact name_of_addr x.apart (Ue h1) (Ue h2)
 ·have hy:Qv.names.lookup y=some .cell\/Qv.names.lookup y=some .free:=hy;rcases hy with hy | hy
  ·exact we hy
  ·exact absurd rfl (S.nofree _ (Ue hy))
 ·exact Vs (x.above y c (Ue h))
 ·have hi:i < vs.length:=by
   unfold start at h2;by_cases hi:i < vs.length
   ·exact hi
   ·rw [Sk (by simpa using hi)] at h2;rw [U1] at h2;split at h2 <;> cases h2
  have ha:vs[i]?=some v:=by
   unfold start at h2;rw [SY (by simpa using hi),Rh] at h2;cases e:vs[i]? with
   | none=>rw [e] at h2;cases h2
   | some a=>rw [e] at h2;cases h2;rfl
  obtain ⟨u,hu,rv⟩:=r.get ha;have hp:ps[i]?=some y:=by rw [<-S.pre,List.getElem?_take_of_lt (by omega)];exact h1
  have ndP:ps.Nodup:=by rw [<-S.pre];exact S.nd.sublist (Wq _ _)
  refine ⟨u,rv,?_⟩;rcases S.par y (TZ hp) with k | k
  ·exact .inl ⟨k,t_ ndP hp hu k⟩
  ·obtain ⟨c,e⟩:=we (n:=s.heap.objs.size + 1) k;refine .inr ⟨.inl k,c,e,?_⟩;have q:=x.cell y c e;rw [tZ ndP hp hu (by show Qv.names.lookup y≠_;rw [k];decide)] at q;exact q
 ·exact e0.hok.fresh (Vs (x.above y c (Ue h)))
 ·unfold start;show _=N.length;rw [QU,QN,RC];omega
theorem FJ {K:QG}{mg:Str->Option QH}{dV kV doc pm cdv ct oc:QH}
 {N ps:List Str}{sp:Sp}(lk:K.lookup f=some ⟨oc,od,.func (Rv name QA params body Qv dV kV doc pm an cdv ct),osl⟩) (hcd:Tr K cdv QA=true) (S:cJ N ps Qv)
 (len:∀vs H Q E,sp vs H Q E->vs.length=ps.length)
 (hbody:∀(A:RA) (outer:List Env) (s:QL) (H:Hp) (vs:List V) (Q:VK) (E:XK),cR k (A.deeper (Va QA Qv s.heap.objs.size f cdv))->sp vs H Q E->
 ∃t,iO (nj CX P w K mg base N QA Qv f cdv A outer s H E) body t/\t {nx:=λ_ H'=>Q .non H',rt:=Q} (start N vs) H):
  eG P w K mg base CX (k + 1) f (Rv name QA params body Qv dV kV doc pm an cdv ct) ps sp:=by
 refine ⟨len,λA outer s H args us vs Q E hr e0 hb r ON=>?_⟩;have hl:=len _ _ _ _ ON;have KX:K.In s.heap:=e0.mod.kin.keeps λb o e=>(e0.bs b o e).1;have lim:s.heap.NoLimit:=e0.mod.nolimit.keeps λb o e=>(e0.bs b o e).1;have hkind:∀y∈ps.zip us,Qv.names.lookup y.1=some .local\/(Qv.names.lookup y.1=some .cell/\((R7 (s.heap.objs.size + 1) Qv.names []).lookup y.1).isSome=true):=λ⟨n,v⟩ hy=>by
  rcases S.par n (U0 hy).1 with q | q
  ·exact .inl q
  ·exact .inr ⟨q,WY _ _ _ (.inl q)⟩
 refine codeAny_call_function hr.depth (KX _ _ lk) rfl S.co S.gen rfl (W.codeRec_of KX hcd) (hb _ _ _ _ ?_);refine wpAny_newFunctionEnv_cells S.kind hkind λenv he s1 x=>?_;subst he;refine ⟨lim.keeps x.toInCall.keep,codeAny_func ?_⟩;obtain ⟨t,ht,hq⟩:=hbody A outer s H vs Q E (hr.deeper _) ON;have I:Inv (nj CX P w K mg base N QA Qv f cdv A outer s H E) [] (start N vs) H s1:=Ca S hr.hd e0 hl r x;refine RM (ht [] s1 (start N vs) H _ I hq) (λfl s' hs=>?_) λe s' hs=>hs;have fin:∀{σ':St}{H':Hp}{v:V}{u:QH},Inv (nj CX P w K mg base N QA Qv f cdv A outer s H E) [] σ' H' s'->RelV v u->Q v H'->CE outer P w H s Q u s':=
  fun {σ' H' v u} J rv q=>⟨v,H',J.os,J.bare,J.base,J.hok,rv,q⟩
 cases fl with
 | ret u=>
  obtain ⟨v,σ',H',J,rv,q⟩:=hs;exact fin J rv q
 | next=>
  obtain ⟨σ',H',J,q⟩:=hs;exact fin (v:=V.non) (u:=SS) J rfl q
 | brk=>
  obtain ⟨_,_,_,q⟩:=hs;exact TL q
 | cont=>
  obtain ⟨_,_,_,q⟩:=hs;exact TL q
section
variable {X:Cx}{x:Str}{p pos:Pos}{e:Rz}{es:List Rz}{t:TA}{id T:String}{r:List V->Hp->VK->Prop}
noncomputable def ML (r:List V->Hp->VK->Prop) (t:TA):TE:=λσ H Q=>t σ H λvs H1=>r vs H1 Q
theorem pX (hc:fB X (.builtin id) r) (hg:Gl X x) (hm:X.mg x=none) (hv:Sm x=some (.builtin id)) (ha:PA X (e::es) t) (hn:autoParam (x≠"__name__") zB._auto_1) (hdb:autoParam ((x == ("__debug__":Str))=false) zB._auto_1)
  (he:autoParam (QY (e::es) X.env=(false,eval e X.env)::QY es X.env) zA._auto_1) (hpl:autoParam ((Tn pos (QY es X.env)).any (·.1)=false) zA._auto_1):PE X (.Call (.Name x p) (e::es) [] pos) (ML r t):=by intro Qw s σ H Q I h;refine Uk (nD I hg hm hv ?_ hn hdb);exact Y0 (bU (ha pos Qw s σ H _ I h) λus s1 ⟨vs,H1,I1,r1,q1⟩=>hc Qw s1 σ H1 vs us Q I1 r1 q1) he hpl
theorem nG (hc:fB X (.type T) r) (hg:Gl X x) (hm:X.mg x=none) (hv:Sm x=some (.type T)) (ha:PA X (e::es) t) (hn:autoParam (x≠"__name__") zB._auto_1) (hdb:autoParam ((x == ("__debug__":Str))=false) zB._auto_1)
  (he:autoParam (QY (e::es) X.env=(false,eval e X.env)::QY es X.env) zA._auto_1) (hpl:autoParam ((Tn pos (QY es X.env)).any (·.1)=false) zA._auto_1):PE X (.Call (.Name x p) (e::es) [] pos) (ML r t):=by intro Qw s σ H Q I h;refine Uk (nD I hg hm hv ?_ hn hdb);exact VN (bU (ha pos Qw s σ H _ I h) λus s1 ⟨vs,H1,I1,r1,q1⟩=>hc Qw s1 σ H1 vs us Q I1 r1 q1) he hpl
end
end L2
namespace HT
open PySem PyProof.Rows
noncomputable def lexLt:List Int->List Int->Bool
 | [],[]=>false
 | [],_::_=>true
 | _::_,[]=>false
 | x::xs,y::ys=>if x=y then lexLt xs ys else decide (x < y)
section
open PySem.SeqAt
open PySem.AutoSeq1 (wpAny_loadPart')
open PySem.MeetsSeq PySem.MeetsSeq2 PySem.MeetsSeq3
end
section
variable {prog:Q2}{w:Ro}{A:RA}{E:QH->QL->Prop}{s:QL}
noncomputable def bP (n d:Nat):Option Int->Nat
 | none=>d
 | some v=>if v < 0 then (v + (n:Int)).toNat else min v.toNat n
theorem qb (n d:Nat):bP n d none=d:=rfl
theorem lD (n d k:Nat):bP n d (some (k:Int))=min k n:=by show (if (k:Int) < 0 then ((k:Int) + (n:Int)).toNat else min (k:Int).toNat n)=min k n;rw [if_neg (by omega),SG]
theorem Ld (n d:Nat) (hd:d<=n) (o:Option Int):bP n d o<=n:=by
 cases o with
 | none=>exact hd
 | some v=>
  show (if v < 0 then (v + (n:Int)).toNat else min v.toNat n)<=n;by_cases hv:v < 0
  ·rw [if_pos hv];omega
  ·rw [if_neg hv];exact Nat.min_le_right _ _
theorem yU (v:Int) (n d:Nat):(if v < 0 then max (v + (n:Int)) 0 else min v (n:Int))=((bP n d (some v):Nat):Int):=by
 show (if v < 0 then max (v + (n:Int)) 0 else min v (n:Int))=(((if v < 0 then (v + (n:Int)).toNat else min v.toNat n):Nat):Int);by_cases hv:v < 0
 ·simp only [if_pos hv];omega
 ·simp only [if_neg hv];omega
theorem Ad (lo hi:Option Int) (n:Nat):S0 lo hi 1 (n:Int)=(((bP n 0 lo:Nat):Int),((bP n n hi:Nat):Int)):=by
 have h1:¬((1:Int) < 0):=by omega
 unfold S0;simp only [h1,if_false];refine abp ?_ ?_
 ·cases lo with
  | none=>rfl
  | some v=>exact yU v n 0
 ·cases hi with
  | none=>rfl
  | some v=>exact yU v n n
theorem A0 (i j:Nat):RU (i:Int) (j:Int) 1=j - i:=by
 unfold RU;have h1:(1:Int) > 0:=by omega
 simp only [h1,if_true,aat];split <;> omega
theorem rX {Q:Option Int->QL->Prop}(p:Yi v o) (h:Q o s):Q8 (Rb prog w) A (Zj v) Q E s:=by
 cases p with
 | none=>exact Wc h
 | int i t=>exact aad h
theorem j3 {sl:Q4}{vl vu:QH}{lo hi:Option Int}{n:Nat}{Q:Int×Int×Nat->QL->Prop}(hs:s.heap.IsSliceOf sl vl vu .none) (pl:Yi vl lo) (pu:Yi vu hi)
  (h:Q (((bP n 0 lo:Nat):Int),1,bP n n hi - bP n 0 lo) s):Q8 (Rb prog w) A (TJ (.ref sl) (pure (n:Int))) Q E s:=by obtain ⟨os,hos,hcs,hds⟩:=id hs;unfold TJ We;refine QF (QF (VP hos hds (x:=vl) rfl (QF (VP hos hds (x:=vu) rfl (QF (VP hos hds (x:=.none) rfl (QJ ?_)))))));refine QF (Wc ?_);show Q8 _ _ (if ((1:Int) == 0)=true then _ else _) _ _ s;rw [if_neg (by decide)];refine QF (rX pl (QF (rX pu (QF (QJ ?_)))));show Q8 _ _ (match S0 lo hi 1 (n:Int) with | (lo,hi)=>pure (lo,(1:Int),RU lo hi 1)) _ _ s;rw [Ad lo hi n];show Q8 _ _ (pure (((bP n 0 lo:Nat):Int),(1:Int),RU ((bP n 0 lo:Nat):Int) ((bP n n hi:Nat):Int) 1)) _ _ s;rw [A0];exact QJ h
theorem EH (xs:Array QH) (i k:Nat):((QX k).filterMap λ(m:Nat)=>xs[((i:Int) + (m:Int) * 1).toNat]?).toArray=((xs.toList.drop i).take k).toArray:=by
 have e:(λ(m:Nat)=>xs[((i:Int) + (m:Int) * 1).toNat]?)=λm=>xs[i + m]?:=by
  funext m;have:((i:Int) + (m:Int) * 1).toNat=i + m:=by omega
  rw [this]
 rw [e];have:=pick_run xs i k;rw [Yj] at this;have e2:((λx=>xs[x]?) ∘ λx=>i + x)=λm=>xs[i + m]?:=rfl;rw [e2] at this;rw [this]
theorem oQ {t sl:Q4}{items:Array QH}{vl vu:QH}{lo hi:Option Int}{Q:QH->QL->Prop}(ht:IsTup s.heap t items) (hs:s.heap.IsSliceOf sl vl vu .none) (pl:Yi vl lo) (pu:Yi vu hi)
  (hw:¬(bP items.size 0 lo=0/\bP items.size items.size hi=items.size))
  (h:Q (.ref s.heap.objs.size) {s with heap:=s.heap.push {cls:=.type "tuple",data:=.seq ((items.toList.drop (bP items.size 0 lo)).take (bP items.size items.size hi - bP items.size 0 lo)).toArray}})
  (hsz:items.size<=sizeLine):Q8 (Rb prog w) A (VQ (.ref t) (.ref sl)) Q E s:=by
 have Ob:sizeOk (.seq ((items.toList.drop (bP items.size 0 lo)).take (bP items.size items.size hi - bP items.size 0 lo)).toArray):=by show ((items.toList.drop (bP items.size 0 lo)).take (bP items.size items.size hi - bP items.size 0 lo)).toArray.size<=sizeLine;rw [Q3,Sv,SM,Rf];omega
 have hj:bP items.size items.size hi<=items.size:=Ld _ _ (QV _) hi;obtain ⟨os,hos,hcs,hds⟩:=id hs;have O7:s.TypeIs (.ref sl) "slice":=⟨os,hos,hcs⟩;unfold VQ
 try with_reducible refine RJ ?_
 first | refine QF (QJ ?_) | skip
 refine QF (Wr ht.typeIs (by decide) ?_);refine QF (Sj (name:=UU "__getitem__") ht.typeIs Ru
  (RX Ru ht.typeIs VR ?_ (V8 _ _)))
 show Q8 _ _ (UD (.ref t) >>= _) _ _ s;refine QF (Yk ht ?_);refine QF (UW O7 ?_);rw [if_pos (by decide)];refine QF (j3 hs pl pu ?_);have hno:¬((((bP items.size 0 lo:Nat):Int) == 0 && (1:Int) == 1 && (bP items.size items.size hi - bP items.size 0 lo) == items.size)=true):=by intro q;rw [Ra,Ra] at q;have q1:((bP items.size 0 lo:Nat):Int)=0:=eq_of_beq q.1.1;have q2:bP items.size items.size hi - bP items.size 0 lo=items.size:=eq_of_beq q.2;exact hw ⟨by omega,by omega⟩
 show Q8 _ _ (if (((bP items.size 0 lo:Nat):Int) == 0 && (1:Int) == 1 && (bP items.size items.size hi - bP items.size 0 lo) == items.size)=true then _ else _) _ _ s;rw [if_neg hno,EH]
 first
  | exact QF (m:=RZ _) (Rq (QJ ⟨_,rfl,QJ h⟩) Ob)
  | exact QF (m:=RZ _) (Rq (QF (QJ (QJ ⟨_,rfl,QJ h⟩))) Ob)
  | exact QF (QF (m:=RZ _) (Rq (QJ (QJ ⟨_,rfl,QJ h⟩)) Ob))
  | exact QF (QF (m:=RZ _) (Rq (QJ ⟨_,rfl,QJ h⟩) Ob))
end
end HT
namespace L2
open PySem PySem.Spec PyProof.Rows
noncomputable abbrev TO:=St->Hp->(Option Int->Hp->Prop)->Prop
noncomputable def PO (X:Cx) (e:Option Rz) (t:TO):Prop:=
 ∀(Qw:List (Q4×Obj)) (s:QL) (σ:St) (H:Hp) (Q:Option Int->Hp->Prop),Inv X Qw σ H s->t σ H Q->
  Q8 (Rb X.prog X.w) X.A (evalPart e X.env) (λu s'=>∃o H',Inv X Qw σ H' s'/\Yi u o/\Q o H') X.xe s
noncomputable def Io:TO:=λ_ H Q=>Q none H
noncomputable def Mr (t:TE):TO:=λσ H Q=>t σ H λx H1=>∃i,x=.int i/\Q (some i) H1
section
variable {X:Cx}{e:Rz}{te:TE}{lo hi:Option Rz}{tl th:TO}{pos p2:Pos}
theorem HD:PO X none Io:=by intro Qw s σ H Q I h;rw [Yl];exact QJ ⟨none,H,I,.none,h⟩
theorem HG (h:PE X e te):PO X (some e) (Mr te):=by intro Qw s σ H Q I hw;rw [aae];refine bU (h Qw s σ H _ I hw) λu s1 ⟨x,H1,I1,r1,q1⟩=>?_;obtain ⟨i,rfl,q⟩:=q1;obtain ⟨t,rfl⟩:=r1;exact ⟨some i,H1,I1,.int i t,q⟩
noncomputable def qz (X:Cx) (r:V->Option Int->Option Int->Hp->VK->Prop):Prop:=
 ∀(Qw:List (Q4×Obj)) (s:QL) (σ:St) (H:Hp) (x:V) (v vl vu:QH) (lo hi:Option Int) (sl:Q4) (Q:VK),Inv X Qw σ H s->RelV x v->s.heap.IsSliceOf sl vl vu .none->Yi vl lo->Yi vu hi->r x lo hi H Q->
  ∃T id,Z2 (.type T) "__getitem__"=pure (some (.builtin id))/\s.TypeIs v T/\Q8 (Rb X.prog X.w) X.A (VQ v (.ref sl)) (EP X Qw σ Q) X.xe s
theorem qz.or {r r':V->Option Int->Option Int->Hp->VK->Prop}(h:qz X r) (h':qz X r'):qz X (λx lo hi H Q=>r x lo hi H Q\/r' x lo hi H Q):=by
 intro Qw s σ H x v vl vu lo hi sl Q I rx hs pl pu q;rcases q with q | q
 ·exact h Qw s σ H x v vl vu lo hi sl Q I rx hs pl pu q
 ·exact h' Qw s σ H x v vl vu lo hi sl Q I rx hs pl pu q
noncomputable def NS (r:V->Option Int->Option Int->Hp->VK->Prop) (te:TE) (tl th:TO):TE:=λσ H Q=>te σ H λx H1=>tl σ H1 λl H2=>th σ H2 λu H3=>r x l u H3 Q
theorem EF {r:V->Option Int->Option Int->Hp->VK->Prop}(hr:qz X r) (he:PE X e te) (hl:PO X lo tl) (hu:PO X hi th):PE X (.Subscript e (.Slice lo hi none p2) pos) (NS r te tl th):=by intro Qw s σ H Q I h;refine YB (bU (he Qw s σ H _ I h) λv s1 ⟨x,H1,I1,r1,q1⟩=>?_);refine wpAny_Slice (bU (hl Qw s1 σ H1 _ I1 q1) λvl s2 ⟨l,H2,I2,pl,q2⟩=>bU (hu Qw s2 σ H2 _ I2 q2) λvu s3 ⟨u,H3,I3,pu,q3⟩=>?_);rw [Yl];refine QJ ?_;have I4:Inv X Qw σ H3 {s3 with heap:=s3.heap.push {cls:=.type "slice",data:=.fields #[vl,vu,.none]}}:=I3.kept (t':=s3.toks) λb ob q=>QM _ q;obtain ⟨T,id,hT,ht,hg⟩:=hr Qw {s3 with heap:=s3.heap.push {cls:=.type "slice",data:=.fields #[vl,vu,.none]}} σ H3 x v vl vu l u s3.heap.objs.size Q I4 r1 (Ym ..) pl pu q3;show Q8 (Rb X.prog X.w) X.A (Yn e (.Slice lo hi none p2) v (.ref s3.heap.objs.size)) (EP X Qw σ Q) X.xe {s3 with heap:=s3.heap.push {cls:=.type "slice",data:=.fields #[vl,vu,.none]}};exact aaf (ops:=[.ref s3.heap.objs.size,v]) ht hT hg (by with_unfolding_all rfl)
noncomputable def kF (xs:List V) (lo hi:Option Int):List V:=(xs.drop (HT.bP xs.length 0 lo)).take (HT.bP xs.length xs.length hi - HT.bP xs.length 0 lo)
theorem o4 (xs:List V) (lo hi:Option Int):(kF xs lo hi).length<=xs.length:=by unfold kF;rw [Sv,SM];omega
noncomputable def Nb (K:QG):V->Option Int->Option Int->Hp->VK->Prop:=λx lo hi H Q=>∃a xs,x=.ref a/\fP K H a xs/\
 ¬(HT.bP xs.length 0 lo=0/\HT.bP xs.length xs.length hi=xs.length)/\∀p,H p=none->Q (.ref p) (upd H p (.tup (kF xs lo hi)))
theorem Lg:qz X (Nb X.K):=by
 intro Qw s σ H x v vl vu lo hi sl Q I rx hs pl pu h;obtain ⟨a,xs,rfl,hx,hw,q⟩:=h;cases rx;obtain ⟨Qx,r,ht,hz⟩:=I.tuple hx;have hlen:Qx.toArray.size=xs.length:=by rw [Q3];exact r.length.symm
 refine ⟨"tuple",_,Ru.lookup,ht.typeIs,?_⟩;refine HT.oQ ht hs pl pu (by rw [hlen];exact hw) ?_ (by rw [hlen];exact hz);rw [hlen];refine ⟨.ref s.heap.objs.size,_,I.laid (t':=s.toks) (o:=.tup (kF xs lo hi)) (λb ob q=>QM _ q) (QV _) ?_,rfl,q _ (I.hok.fresh (QV _))⟩;exact ⟨RG (o4 xs lo hi) hz,_,(r.drop (HT.bP xs.length 0 lo)).take (HT.bP xs.length xs.length hi - HT.bP xs.length 0 lo),aau _ _,λo q=>by rw [QW _ rfl] at q;cases q;rfl⟩
end
noncomputable def wU (n:Nat) (i:Int):Option Nat:=if 0<=i then (if i < n then some i.toNat else none) else if -(n:Int)<=i then some (i + n).toNat else none
noncomputable def jN {α:Type}(xs:List α) (i:Int):Option α:=(wU xs.length i).bind λj=>xs[j]?
theorem GW (h:wU n i=some j):seqIndex? i n=some j/\j < n/\-(n:Int)<=i/\i < n:=by
 unfold wU at h;by_cases h0:0<=i
 ·rw [if_pos h0] at h;by_cases h1:i < n
  ·rw [if_pos h1] at h;have e:i.toNat=j:=RP h;exact ⟨by rw [seqIndex_of h0 h1,e],by omega,by omega,h1⟩
  ·rw [if_neg h1] at h;cases h
 ·rw [if_neg h0] at h;by_cases h1:-(n:Int)<=i
  ·rw [if_pos h1] at h;have e:(i + n).toNat=j:=RP h;exact ⟨by rw [seqIndex_neg (by omega) h1,e],by omega,h1,by omega⟩
  ·rw [if_neg h1] at h;cases h
theorem sF {α:Type}{xs:List α}{i:Int}{v:α}(h:jN xs i=some v):∃j,seqIndex? i xs.length=some j/\xs[j]?=some v/\j < xs.length/\-(xs.length:Int)<=i/\i < xs.length:=by
 unfold jN at h;cases e:wU xs.length i with
 | none=>rw [e] at h;cases h
 | some j=>
  rw [e] at h;obtain ⟨h1,h2,h3,h4⟩:=GW e;exact ⟨j,h1,h,h2,h3,h4⟩
noncomputable def n6 (b:Rz):Prop:=∀o i,subscripted b false o i=operate [o,i] (VQ o i)
noncomputable def m9 (X:Cx) (r:R2):Prop:=
 ∀(value slice:Rz) (Qw:List (Q4×Obj)) (s:QL) (σ:St) (H:Hp) (x y:V) (v u:QH) (Q:VK),Inv X Qw σ H s->RelV x v->RelV y u->r x y H Q->
  subscripted slice false v u=operate [v,u] (VQ v u)->Q8 (Rb X.prog X.w) X.A (Yn value slice v u) (EP X Qw σ Q) X.xe s
noncomputable def MA (X:Cx) (id:String) (r:V->List V->Hp->VK->Prop):Prop:=
 ∀(Qw:List (Q4×Obj)) (s:QL) (σ:St) (H:Hp) (x:V) (xs:List V) (v:QH) (us:List QH) (Q:VK),Inv X Qw σ H s->RelV x v->Vals xs us->r x xs H Q->
  Q8 (Rb X.prog X.w) X.A (call (.builtin id) (v::us)) (EP X Qw σ Q) X.xe s
section
variable {X:Cx}{a b:Rz}{ta tb:TE}{pos:Pos}
theorem m9.or {r r':R2}(h:m9 X r) (h':m9 X r'):m9 X (λx y H Q=>r x y H Q\/r' x y H Q):=by
 intro value slice Qw s σ H x y v u Q I rx ry q hs;rcases q with q | q
 ·exact h value slice Qw s σ H x y v u Q I rx ry q hs
 ·exact h' value slice Qw s σ H x y v u Q I rx ry q hs
theorem F1 (hr:m9 X r) (ha:PE X a ta) (hb:PE X b tb) (hs:n6 b):PE X (.Subscript a b pos) (Dq r ta tb):=by intro Qw s σ H Q I h;exact YB (DT ha hb I h λv u s2 x y H2 I2 rx ry q=>hr a b Qw s2 σ H2 x y v u Q I2 rx ry q (hs _ _))
noncomputable def K6 (K:QG):R2:=λx y H Q=>∃p xs i v,x=.ref p/\y=.int i/\c6 K H p xs/\jN xs i=some v/\Q v H
noncomputable def K8 (K:QG):R2:=λx y H Q=>∃p xs i v,x=.ref p/\y=.int i/\fP K H p xs/\jN xs i=some v/\Q v H
noncomputable def K7:R2:=λx y H Q=>∃z i c,x=.str z/\y=.int i/\z.length<=sizeLine/\jN z.cps.toList i=some c/\Q (.str ⟨#[c]⟩) H
theorem G0:m9 X (K6 X.K):=by
 intro value slice Qw s σ H x y v u Q I rx ry h hs;obtain ⟨p,xs,i,z,rfl,rfl,hq,he,q⟩:=h;cases rx;obtain ⟨t,rfl⟩:=ry;obtain ⟨Qx,r,pl,hz⟩:=I.list hq;obtain ⟨j,h1,h2,h3,h4,h5⟩:=sF he;obtain ⟨w,ew,rw'⟩:=r.get h2;have hl:=r.length;have hn:=lg;have fin:EP X Qw σ Q w s:=⟨z,H,I,rw',q⟩;by_cases h0:0<=i
 ·have hj:i.toNat=j:=by rw [seqIndex_of h0 h5] at h1;exact RP h1
  exact item_listR pl.isList h0 (by omega) (by rw [hj];simpa using ew) fin hs
 ·have hj:(i + (Qx.toArray.size:Int)).toNat=j:=by rw [seqIndex_neg (by omega) h4] at h1;rw [Q3,<-hl];exact RP h1
  exact WZ (x:=w) pl.isList.typeIs YC.lookup
   (wpAny_getItem_list_neg (Q:=λr s'=>r=w/\EP X Qw σ Q r s') pl.isList (by omega) (by rw [Q3] <;> omega) (by omega) (by rw [hj];simpa using ew) ⟨rfl,fin⟩) hs
theorem JP:m9 X (K8 X.K):=by
 intro value slice Qw s σ H x y v u Q I rx ry h hs;obtain ⟨p,xs,i,z,rfl,rfl,hq,he,q⟩:=h;cases rx;obtain ⟨t,rfl⟩:=ry;obtain ⟨Qx,r,pl,hz⟩:=I.tuple hq;obtain ⟨j,h1,h2,h3,h4,h5⟩:=sF he;obtain ⟨w,ew,rw'⟩:=r.get h2;have hl:=r.length;have hn:=lg;have fin:EP X Qw σ Q w s:=⟨z,H,I,rw',q⟩;exact WZ (x:=w) pl.typeIs slot_tuple_getitem.lookup
  (getItem_tuple (j:=j) (Q:=λr s'=>r=w/\EP X Qw σ Q r s') pl (by omega) (by omega) (by rw [Q3,<-hl];exact h1) (by simpa using ew) ⟨rfl,fin⟩) hs
theorem f_:m9 X K7:=by
 intro value slice Qw s σ H x y v u Q I rx ry h hs;obtain ⟨z,i,c,rfl,rfl,hz,he,q⟩:=h;obtain ⟨t,rfl⟩:=rx;obtain ⟨t',rfl⟩:=ry;obtain ⟨j,h1,h2,h3,h4,h5⟩:=sF he;have hl:z.cps.toList.length=z.length:=by simp [YD]
 rw [hl] at h1 h4 h5;have hn:=lg;exact aaf (typeIs_str s z t) slot_str_getitem.lookup (getItem_str (c:=c) (by
  have e1:decide (i < -(2 ^ 63:Int))=false:=decide_eq_false (by omega);have e2:decide (i ≥ 2 ^ 63)=false:=decide_eq_false (by omega);rw [e1,e2,Yo]) (by rw [h1];simpa using h2) ⟨.str ⟨#[c]⟩,H,I.tok _,⟨_,rfl⟩,q⟩) hs
noncomputable def NK (K:QG):R2:=λx y H Q=>K6 K x y H Q\/K8 K x y H Q\/K7 x y H Q
theorem JO:m9 X (NK X.K):=G0.or (JP.or f_)
theorem Inv.lst {H:Hp}{s:QL}{xs:List V}(I:Inv X Qw σ H s) (h:H p=some (.lst xs)):
  ∃(Qx:List QH) (n:Nat),Vals xs Qx/\s.heap.get? p=some {cls:=.type "list",data:=.seq Qx.toArray n}/\xs.length<=sizeLine:=by obtain ⟨z,Qx,n,r,e⟩:=I.hok p _ h;exact ⟨Qx,n,r,e,z⟩
theorem xW (lo hi:Option Int) (n:Nat):(Ve lo hi none n).1=((HT.bP n 0 lo:Nat):Int)/\(Ve lo hi none n).2.1=((HT.bP n n hi:Nat):Int)/\(Ve lo hi none n).2.2=1:=by
 refine ⟨?_,?_,rfl⟩
 ·cases lo with
  | none=>simp [Ve,HT.bP]
  | some i=>
   simp only [Ve,HT.bP,Y9,show (1:Int) > 0 by decide,if_true];by_cases h:i < 0
   ·simp only [h,if_true] <;> omega
   ·simp only [h,if_false] <;> omega
 ·cases hi with
  | none=>simp [Ve,HT.bP]
  | some i=>
   simp only [Ve,HT.bP,Y9,show (1:Int) > 0 by decide,if_true];by_cases h:i < 0
   ·simp only [h,if_true] <;> omega
   ·simp only [h,if_false] <;> omega
theorem uY (Qx:List QH) (lo hi:Option Int):slicePick Qx.toArray lo hi none=((Qx.drop (HT.bP Qx.length 0 lo)).take (HT.bP Qx.length Qx.length hi - HT.bP Qx.length 0 lo)).toArray:=by obtain ⟨h1,h2,h3⟩:=xW lo hi Qx.toArray.size;unfold slicePick;rw [h1,h2,h3];simp only [sliceRange_one,pick_run,Q3] <;> rfl
noncomputable def Na (K:QG):V->Option Int->Option Int->Hp->VK->Prop:=λx lo hi H Q=>∃a xs,x=.ref a/\c6 K H a xs/\∀p,H p=none->Q (.ref p) (upd H p (.lst (kF xs lo hi)))
theorem Ij:qz X (Na X.K):=by intro Qw s σ H x v vl vu lo hi sl Q I rx hs pl pu h;obtain ⟨a,xs,rfl,hx,q⟩:=h;cases rx;obtain ⟨Qx,r,ht,hz⟩:=I.list hx;have hlen:=r.length;refine ⟨"list",_,YC.lookup,ht.isList.typeIs,?_⟩;refine wpAny_getItem_list_slice ht.isList hs pl pu .none (by simp) ?_ (by rw [Q3] <;> omega);rw [uY,<-hlen];refine ⟨.ref s.heap.objs.size,_,I.laid (t':=s.toks) (o:=.lst (kF xs lo hi)) (λb ob q=>QM _ q) (QV _) ?_,rfl,q _ (I.hok.fresh (QV _))⟩;exact ⟨RG (o4 xs lo hi) hz,_,0,(r.drop (HT.bP xs.length 0 lo)).take (HT.bP xs.length xs.length hi - HT.bP xs.length 0 lo),QW _ rfl⟩
noncomputable def qK:V->Bool
 | .non=>true
 | .bl _=>true
 | .int _=>true
 | .str _=>true
 | _=>false
noncomputable def Jq:V->V->Bool
 | .non,.non=>true
 | .bl a,.bl b=>a == b
 | .bl a,.int b=>(if a then 1 else 0) == b
 | .int a,.bl b=>a == (if b then 1 else 0)
 | .int a,.int b=>a == b
 | .str a,.str b=>a == b
 | _,_=>false
theorem Jp (ry:RelV y u) (rx:RelV x v) (fy:qK y=true) (fx:qK x=true):Uj A s u v (Jq y x):=by
 cases y with
 | non=>
  cases ry;cases x with
  | non=>cases rx;exact Xe _
  | bl b=>cases rx;exact aaE b
  | int b=>obtain ⟨t,rfl⟩:=rx;exact aaQ b t
  | str b=>obtain ⟨t,rfl⟩:=rx;exact aaR b t
  | _=>exact absurd (show false=true from fx) RQ
 | bl a=>
  cases ry;cases x with
  | non=>cases rx;exact aaF a
  | bl b=>cases rx;exact aaG a b
  | int b=>obtain ⟨t,rfl⟩:=rx;exact aaS a b t
  | str b=>obtain ⟨t,rfl⟩:=rx;exact aaT a b t
  | _=>exact absurd (show false=true from fx) RQ
 | int a=>
  obtain ⟨t',rfl⟩:=ry;cases x with
  | non=>cases rx;exact aaU a t'
  | bl b=>cases rx;exact aaV a t' b
  | int b=>obtain ⟨t,rfl⟩:=rx;exact Yp a t' b t
  | str b=>obtain ⟨t,rfl⟩:=rx;exact Yd a t' b t
  | _=>exact absurd (show false=true from fx) RQ
 | str a=>
  obtain ⟨t',rfl⟩:=ry;cases x with
  | non=>cases rx;exact aaW a t'
  | bl b=>cases rx;exact aaX a t' b
  | int b=>obtain ⟨t,rfl⟩:=rx;exact Ye a t' b t
  | str b=>obtain ⟨t,rfl⟩:=rx;exact aa_ a t' b t
  | _=>exact absurd (show false=true from fx) RQ
 | _=>exact absurd (show false=true from fy) RQ
theorem vX:fB X (.builtin "len") (λxs H Q=>∃p ys,xs=[.ref p]/\(c6 X.K H p ys\/fP X.K H p ys)/\Q (.int ys.length) H):=by
 intro Qw s σ H xs us Q I r h;obtain ⟨p,ys,rfl,hq,q⟩:=h;obtain ⟨u,rfl,rx⟩:=vals1 r;cases rx;have hn:=lg;rcases hq with hq | hq
 ·obtain ⟨Qx,r',pl,hz⟩:=I.list hq;have hlen:=r'.length;exact Calls.call_len_list pl.isList (by simp only [Q3] <;> omega) ⟨.int ys.length,H,I.tok _,⟨s.toks + 1,by rw [Q3,hlen]⟩,q⟩
 ·obtain ⟨Qx,r',pl,hz⟩:=I.tuple hq;have hlen:=r'.length;exact len_tuple pl (by simp only [Q3] <;> omega) ⟨.int ys.length,H,I.tok _,⟨s.toks + 1,by rw [Q3,hlen]⟩,q⟩
theorem vY:fB X (.builtin "len") (λxs H Q=>∃z,xs=[.str z]/\z.length<=sizeLine/\Q (.int z.length) H):=by intro Qw s σ H xs us Q I r h;obtain ⟨z,rfl,hz,q⟩:=h;obtain ⟨u,rfl,t,rfl⟩:=vals1 r;have hn:=lg;exact len_str (by omega) ⟨.int z.length,H,I.tok _,⟨_,rfl⟩,q⟩
theorem fB.or {f:QH}{r r':List V->Hp->VK->Prop}(h:fB X f r) (h':fB X f r'):fB X f (λxs H Q=>r xs H Q\/r' xs H Q):=by
 intro Qw s σ H xs us Q I rs q;rcases q with q | q
 ·exact h Qw s σ H xs us Q I rs q
 ·exact h' Qw s σ H xs us Q I rs q
theorem vZ:fB X (.type "list") (λxs H Q=>∃p ys,xs=[.ref p]/\(c6 X.K H p ys\/fP X.K H p ys)/\∀l,H l=none->Q (.ref l) (upd H l (.lst ys))):=by
 intro Qw s σ H xs us Q I r h;obtain ⟨p,ys,rfl,hq,q⟩:=h;obtain ⟨u,rfl,rx⟩:=vals1 r;cases rx;have fin:∀(Qx:List QH),Vals ys Qx->ys.length<=sizeLine->∀(h':Sa) (c':Nat),(∀b o',s.heap.get? b=some o'->h'.get? b=some o')->
   h'.get? s.heap.objs.size=some {cls:=.type "list",dict:=none,data:=.seq Qx.toArray c',slots:=#[]}->EP X Qw σ Q (.ref s.heap.objs.size) {s with heap:=h'}:=λQx r' hz h' c' kp e=>
  ⟨.ref s.heap.objs.size,_,I.laid (t':=s.toks) kp (QV _) (show cu X.prog X.w _ h' _ (.lst ys) from ⟨hz,Qx,c',r',e⟩),rfl,q _ (I.hok.fresh (QV _))⟩
 rcases hq with hq | hq
 ·obtain ⟨Qx,r',pl,hz⟩:=I.list hq;have hlen:=r'.length;obtain ⟨o,ho,hc,n,hd⟩:=pl.isList;exact aag p (.inl rfl) ho hc hd (λh' c' kp e=>fin Qx r' hz h' c' kp e) (by simp only [Q3] <;> omega)
 ·obtain ⟨Qx,r',pl,hz⟩:=I.tuple hq;have hlen:=r'.length;obtain ⟨o,ho,hc,n,hd⟩:=pl;exact aag p (.inr rfl) ho hc hd (λh' c' kp e=>fin Qx r' hz h' c' kp e) (by simp only [Q3] <;> omega)
theorem mG:fB X (.type "tuple") (λxs H Q=>∃p ys,xs=[.ref p]/\((c6 X.K H p ys/\∀l,H l=none->Q (.ref l) (upd H l (.tup ys)))\/(fP X.K H p ys/\Q (.ref p) H))):=by
 intro Qw s σ H xs us Q I r h;obtain ⟨p,ys,rfl,h⟩:=h;obtain ⟨u,rfl,rx⟩:=vals1 r;cases rx;rcases h with ⟨hq,q⟩ | ⟨hq,q⟩
 ·obtain ⟨Qx,r',pl,hz⟩:=I.list hq;have hlen:=r'.length;refine call_tuple_list pl.isList (λh' kp=>?_) (by simp only [Q3] <;> omega);have I1:Inv X Qw σ H {s with heap:=h'}:=I.kept (t':=s.toks) kp;have I2:Inv X Qw σ (upd H h'.objs.size (.tup ys)) {s with heap:=h'.push {cls:=.type "tuple",data:=.seq Qx.toArray}}:=
   I1.laid (t':=s.toks) (λb o e=>QM _ e) (QV _) (show cu X.prog X.w _ _ _ (.tup ys) from ⟨hz,Qx,r',aau _ _,λo q=>by rw [QW _ rfl] at q;cases q;rfl⟩)
  exact ⟨.ref h'.objs.size,_,I2,rfl,q _ (I1.hok.fresh (QV _))⟩
 ·obtain ⟨Qx,r',pl,hz⟩:=I.tuple hq;exact call_tuple_same pl ⟨.ref p,H,I,rfl,q⟩
noncomputable def Lv (K:QG) (T:String) (x:V) (H:Hp):Prop:=match x with
 | .str _=>T="str"
 | .int _=>T="int"
 | .ref p=>(T="list"/\∃xs,c6 K H p xs)\/(T="tuple"/\∃o,K.lookup p=some o/\o.cls=.type "tuple"/\o.dict=none)\/
   (T="dict"/\((∃QC,H p=some (.dK QC))\/∃QC,H p=some (.dT QC)))\/(T="set"/\∃S n,H p=some (.set S n))
 | _=>False
theorem Dz {H:Hp}{s:QL}(I:Inv X Qw σ H s) (r:RelV x v) (ty:Lv X.K T x H):
  s.TypeIs v T/\∀a,v=.ref a->∃ob,s.heap.get? a=some ob/\ob.dict=none:=by
 cases x with
 | str z=>
  obtain ⟨t,rfl⟩:=r;cases (show T="str" from ty);exact ⟨typeIs_str s z t,λ_ e=>nomatch e⟩
 | int i=>
  obtain ⟨t,rfl⟩:=r;cases (show T="int" from ty);exact ⟨Z3 s i t,λ_ e=>nomatch e⟩
 | ref p=>
  cases r;rcases ty with ⟨rfl,xs,hq⟩ | ⟨rfl,o,hk,hc,hd⟩ | ⟨rfl,hk⟩ | ⟨rfl,S,n,hk⟩
  ·obtain ⟨Qx,_,pl,_⟩:=I.list hq;refine ⟨pl.isList.typeIs,λa e=>?_⟩;cases e;obtain ⟨o,n,e,c,hd,_⟩:=pl;exact ⟨o,e,hd⟩
  ·refine ⟨⟨o,I.kIn p o hk,hc⟩,λa e=>?_⟩;cases e;exact ⟨o,I.kIn _ o hk,hd⟩
  ·have z:∃o,s.heap.get? p=some o/\o.ExactDict:=by
    rcases hk with ⟨QC,hk⟩ | ⟨QC,hk⟩
    ·obtain ⟨_,_,_,_,o,_,_,e,ex,_⟩:=I.hok p _ hk;exact ⟨o,e,ex⟩
    ·obtain ⟨_,_,_,_,o,_,_,e,ex,_⟩:=I.hok p _ hk;exact ⟨o,e,ex⟩
   obtain ⟨o,e,ex⟩:=z;refine ⟨⟨o,e,ex.1⟩,λa e2=>?_⟩;cases e2;exact ⟨o,e,ex.2.1⟩
  ·obtain ⟨o,_,_,_,e,ex,_⟩:=I.hok p _ hk;refine ⟨⟨o,e,ex.1⟩,λa e2=>?_⟩;cases e2;exact ⟨o,e,ex.2.1⟩
 | _=>exact TL ty
noncomputable def Nl (K:QG) (T:String) (r:V->List V->Hp->VK->Prop) (to:TE):TE:=λσ H Q=>to σ H λx H1=>Lv K T x H1/\r x [] H1 Q
noncomputable def NN (K:QG) (T:String) (r:V->List V->Hp->VK->Prop) (to:TE) (t:TA):TE:=λσ H Q=>to σ H λx H1=>Lv K T x H1/\t σ H1 λxs H2=>r x xs H2 Q
variable {o e:Rz}{es:List Rz}{to:TE}{t:TA}{name:Str}{apos cpos:Pos}{T id:String}{r:V->List V->Hp->VK->Prop}
theorem Kw (pa:PlainAttrs T) (slot:Slot T name id) (hty:typeOf (.builtin id)=pure (.type "method_descriptor")) (hm:MA X id r) (ho:PE X o to)
  (hbase:autoParam (SX o name X.env (eval o X.env)=eval o X.env) zA._auto_1) (hline:autoParam ((apos.endLine == cpos.line)=true) zA._auto_1):PE X (.Call (.Attribute o name apos) [] [] cpos) (Nl X.K T r to):=by intro Qw s σ H Q I h;refine wpAny_Call_method0_late hbase hline (bU (ho Qw s σ H _ I h) λv s1 ⟨x,H1,I1,r1,ty,q1⟩=>?_);obtain ⟨h1,h2⟩:=Dz I1 r1 ty;exact ⟨T,id,pa,slot,hty,h1,h2,W0 rfl (PySem.evalArgs_none (hm Qw s1 σ H1 x [] v [] Q I1 r1 .nil q1))⟩
theorem F0 (pa:PlainAttrs T) (slot:Slot T name id) (hty:typeOf (.builtin id)=pure (.type "method_descriptor")) (hm:MA X id r) (ho:PE X o to) (ha:PA X (e::es) t)
  (hbase:autoParam (SX o name X.env (eval o X.env)=eval o X.env) zA._auto_1)
  (hfew:autoParam (((Tn cpos (QY (e::es) X.env)).all (λx=>!x.1) && (aba cpos (Zo [] X.env)).all (λx=>x.1.isSome)
   && decide ((e::es).length + ([]:List Zp).length + (if ([]:List Zp).isEmpty then 0 else 1) < 30))=true) zA._auto_1)
  (hline:autoParam ((apos.endLine == cpos.line)=true) zA._auto_1) (hs:autoParam (QY (e::es) X.env=(false,eval e X.env)::QY es X.env) zA._auto_1) (hplain:autoParam ((Tn cpos (QY es X.env)).any (·.1)=false) zA._auto_1):
  PE X (.Call (.Attribute o name apos) (e::es) [] cpos) (NN X.K T r to t):=by intro Qw s σ H Q I h;refine wpAny_Call_method_late hbase hfew hline rfl (bU (ho Qw s σ H _ I h) λv s1 ⟨x,H1,I1,r1,ty,q1⟩=>?_);obtain ⟨h1,h2⟩:=Dz I1 r1 ty;refine ⟨T,id,pa,slot,hty,h1,h2,?_⟩;have hA:=ha cpos Qw s1 σ H1 _ I1 q1;rw [hs] at hA ⊢;refine W0 (by show (false || (Tn cpos (QY es X.env)).any (·.1))=false;rw [hplain] <;> rfl) (Calls.evalArgs_plain ?_);exact bU hA λus s2 ⟨vs,H2,I2,r2,q2⟩=>hm Qw s2 σ H2 x vs v us Q I2 r1 r2 q2
end
noncomputable def Ff (X:Cx) (id:String) (r:V->List V->Hp->VK->Prop):Prop:=
 ∀(Qw:List (Q4×Obj)) (s:QL) (σ:St) (H:Hp) (x:V) (xs:List V) (v:QH) (us:List QH) (Q:VK),Inv X Qw σ H s->RelV x v->Vals xs us->r x xs H Q->
  Q8 (Rb X.prog X.w) X.A (call (.builtin id) (v::us)) (EP X Qw σ Q) X.xe s
theorem Vals.one:∀{x:V}{us:List QH},Vals [x] us->∃u,us=[u]/\RelV x u
 | _,_,.cons r .nil=>⟨_,rfl,r⟩
theorem Vals.zero:∀{us:List QH},Vals [] us->us=[]
 | _,.nil=>rfl
theorem Vals.dropLast {xs:List V}{us:List QH}(h:Vals xs us):Vals xs.dropLast us.dropLast:=by
 induction h with
 | nil=>exact .nil
 | cons r t ih=>
  cases t with
  | nil=>exact .nil
  | cons q t'=>exact .cons r ih
theorem Vals.reverse {xs:List V}{us:List QH}(h:Vals xs us):Vals xs.reverse us.reverse:=by
 induction h with
 | nil=>exact .nil
 | cons r t ih=>rw [Vf,Vf];exact Vals.append ih (.cons r .nil)
theorem Aq {α:Type}(l:List α):l.eraseIdx (l.length - 1)=l.dropLast:=by
 induction l with
 | nil=>rfl
 | cons a r ih=>
  cases r with
  | nil=>rfl
  | cons b r=>
   have e:(a::b::r).length - 1=((b::r).length - 1) + 1:=by have h1:(a::b::r).length=r.length + 2:=rfl;have h2:(b::r).length=r.length + 1:=rfl;omega
   rw [e,List.eraseIdx_cons_succ,ih]
   all_goals rfl
section
variable {X:Cx}{Qw:List (Q4×Obj)}{σ:St}{H:Hp}{s:QL}{l b:Q4}{xs ys zs:List V}
theorem Inv.lset {Qx its':List QH}{f:Array QH->Array QH}(I:Inv X Qw σ H s) (hH:H l=some (.lst xs))
 (e:s.heap.get? l=some {cls:=.type "list",data:=.seq Qx.toArray n}) (hf:f Qx.toArray=its'.toArray) (hv:Vals ys its') (hz:ys.length<=sizeLine):
  Inv X Qw σ (upd H l (.lst ys)) {s with heap:=s.heap.update l (T7 f),toks:=t'}:=by have q:=abl e f;rw [hf] at q;refine I.write (x:=l) (e:=l) (by rw [hH];exact trivial) (.inl rfl) (λb' u hb hu=>(RK s.heap (T7 f) (Sb hb)).trans hu) ⟨_,q⟩ ?_;exact ⟨hz,its',_,hv,q⟩
theorem Inv.lnew {Qx:List QH}(I:Inv X Qw σ H s) (hv:Vals ys Qx) (hz:ys.length<=sizeLine):
  Inv X Qw σ (upd H s.heap.objs.size (.lst ys)) {s with heap:=s.heap.push {cls:=.type "list",data:=.seq Qx.toArray},toks:=t'}:=
 I.laid (λ_ _ q=>QM _ q) (QV _) ⟨hz,Qx,0,hv,QW _ rfl⟩
theorem Inv.fresh (I:Inv X Qw σ H s):H s.heap.objs.size=none:=I.hok.fresh (QV _)
theorem Inv.lstM (I:Inv X Qw σ H s) (hH:H l=some (.lst xs)):xs.length<=sizeLine/\∃(Qx:List QH) (n:Nat),Vals xs Qx/\xs.length=Qx.length/\s.heap.get? l=some {cls:=.type "list",data:=.seq Qx.toArray n}:=by obtain ⟨z,Qx,n,r,e⟩:=I.hok l _ hH;exact ⟨z,Qx,n,r,r.length,e⟩
theorem xw (h:n<=sizeLine):Td n=false:=by unfold Td;exact decide_eq_false (by omega)
end
section
variable {X:Cx}
noncomputable def HZ:V->List V->Hp->VK->Prop:=λx vs H Q=>∃l xs y,x=.ref l/\vs=[y]/\H l=some (.lst xs)/\xs.length < sizeLine/\Q .non (upd H l (.lst (xs++[y])))
theorem uu:Ff X "list.append" HZ:=by intro Qw s σ H x vs v us Q I rx rv h;obtain ⟨l,xs,y,rfl,rfl,hH,hz,q⟩:=h;cases rx;obtain ⟨u,rfl,ru⟩:=rv.one;obtain ⟨z,Qx,n,r,hl,e⟩:=I.lstM hH;refine YE F.slot_list_append ⟨_,e,rfl⟩ F.entry_list_append (F.args_list_append_2 _ _) (PySem.list_append l Qx.toArray n u (by rw [Q3];omega)) ⟨e,?_⟩;refine ⟨.non,_,I.lset (its':=Qx++[u]) hH e (by simp) (r.append (.cons ru .nil)) ?_,rfl,q⟩;rw [QU,List.length_singleton];omega
noncomputable def H_:V->List V->Hp->VK->Prop:=λx vs H Q=>∃l b xs zs,x=.ref l/\vs=[.ref b]/\H l=some (.lst xs)/\H b=some (.lst zs)/\xs.length + zs.length<=sizeLine/\Q .non (upd H l (.lst (xs++zs)))
theorem MJ:Ff X "list.extend" H_:=by
 intro Qw s σ H x vs v us Q I rx rv h;obtain ⟨l,b,xs,zs,rfl,rfl,hH,hB,hz,q⟩:=h;cases rx;obtain ⟨u,rfl,ru⟩:=rv.one;cases ru;obtain ⟨z,Qx,n,r,hl,e⟩:=I.lstM hH;obtain ⟨z2,its2,n2,r2,hl2,e2⟩:=I.lstM hB;have hsz:Qx.toArray.size + its2.toArray.size<=sizeLine:=by rw [Q3,Q3];omega
 have OJ:¬(!Qx.toArray.isEmpty && Td (Qx.toArray.size + its2.toArray.size))=true:=by rw [xw hsz,Vo];exact RQ
 refine YE Yq ⟨_,e,rfl⟩ X3 (XJ _ _)
  (AutoSeq1.list_extend_list_list_0 l Qx.toArray n b its2.toArray n2 OJ (by rw [Q3];omega) (by omega)) ⟨e,e2,?_⟩
 refine ⟨.non,_,I.lset (its':=Qx++its2) hH e (by simp) (r.append r2) ?_,rfl,q⟩;rw [QU];omega
noncomputable def M_:V->List V->Hp->VK->Prop:=λx vs H Q=>∃l xs y,x=.ref l/\vs=[]/\H l=some (.lst xs)/\xs[xs.length - 1]?=some y/\Q y (upd H l (.lst xs.dropLast))
theorem JY:Ff X "list.pop" M_:=by
 intro Qw s σ H x vs v us Q I rx rv h;obtain ⟨l,xs,y,rfl,rfl,hH,hy,q⟩:=h;cases rx;have Qp:=rv.zero;subst Qp;obtain ⟨z,Qx,n,r,hl,e⟩:=I.lstM hH;obtain ⟨u,hu,ru⟩:=r.get hy;have hy':Qx.toArray[Qx.toArray.size - 1]?=some u:=by show Qx.toArray[Qx.length - 1]?=some u;rw [<-Uu,<-hl];exact hu
 refine YE F.slot_list_pop ⟨_,e,rfl⟩ F.entry_list_pop (F.args_list_pop_1 _) (MeetsSeq.list_pop_last l Qx.toArray n u hy' (by rw [Q3];omega)) ⟨e,?_⟩;refine ⟨y,_,I.lset (its':=Qx.dropLast) hH e ?_ r.dropLast ?_,ru,q⟩
 ·show Qx.toArray.eraseIdxIfInBounds (Qx.toArray.size - 1)=Qx.dropLast.toArray;rw [Q3,List.eraseIdxIfInBounds_toArray,Aq]
 ·rw [List.length_dropLast];omega
noncomputable def M7:R2:=λx y H Q=>∃l b xs zs,x=.ref l/\y=.ref b/\H l=some (.lst xs)/\H b=some (.lst zs)/\xs.length + zs.length<=sizeLine/\∀p,H p=none->Q (.ref p) (upd H p (.lst (xs++zs)))
theorem Kc:dH X (UN .Add) M7:=by
 intro Qw s σ H x y v u Q I rx ry h;obtain ⟨l,b,xs,zs,rfl,rfl,hH,hB,hz,q⟩:=h;cases rx;cases ry;obtain ⟨z,Qx,n,r,hl,e⟩:=I.lstM hH;obtain ⟨z2,its2,n2,r2,hl2,e2⟩:=I.lstM hB;refine PySem.P.add_list e e2 ?_ (by rw [Q3,Q3];omega);have ea:Qx.toArray++its2.toArray=(Qx++its2).toArray:=by simp
 rw [ea];exact ⟨.ref _,_,I.lnew (t':=s.toks) (r.append r2) (by rw [QU];omega),rfl,q _ I.fresh⟩
end
end L2
namespace Att
open PySem PySem.W PySem.Calls PyProof.Rows
theorem qY:∀(ns:List Int) (vs:List QH),WellAll P h vs (ns.map abm)->aah vs ns:=by
 intro ns
 induction ns with
 | nil=>
  intro vs w;rw [Y3] at w;cases w;exact .nil
 | cons n ns ih=>
  intro vs w;rw [Ri] at w;cases w with
  | cons a b=>
   cases a;exact .cons _ _ (ih _ b)
theorem Dg {l:OpenLaw}(hn:l.most=some n){h:Sa}
 (hpre:l.row.toRowW.claim.pre args=true) (hwl:WellAll P h vals args):
  ∃a vs ns,vals=[Tj a]/\args=[WData.list (ns.map abm)]/\h.get? a=some {cls:=.type "list",data:=.seq vs.toArray}/\aah vs ns/\ns.length<=n:=by
 have hsh:WShape.hasAll [] args [.list .int]=true:=(pre_splitW hpre).1;have hc:l.pre.holds [] {args:=args}=true:=(pre_splitW hpre).2;obtain ⟨d,r,rfl,h1,h2⟩:=hasAllW_cons hsh;obtain rfl:=hasAllW_nil h2;obtain ⟨xs,rfl,h3⟩:=hasW_list h1;obtain ⟨ns,rfl⟩:=items_int h3;have hlen:ns.length<=n:=by
  unfold OpenLaw.pre at hc;have h4:(WTm.not (.lt (.lit (.int (n:Int))) (.len (.arg 0)))).holds [] {args:=[.list (ns.map .int)]}=true:=by have h4:=(holds_andW hc).1;rw [hn] at h4;exact h4
  have h5:=condW_of h4 (w_not (w_lt w_lit (w_len_list (w_arg rfl))));rw [QN] at h5;refine Nat.le_of_not_lt λq=>?_;have q':(n:Int) < ((ns.length:Nat):Int):=by omega
  first
   | (rw [decide_eq_true q'] at h5;exact absurd h5 (by decide))
   | (simp at h5;omega)
 cases hwl with
 | cons w1 w2=>
  cases w2;cases w1 with
  | list ho hall=>exact ⟨_,_,ns,rfl,rfl,ho,qY ns _ hall,hlen⟩
theorem CP (l:OpenLaw) (args:List WData):l.row.toRowW.claim.post args (.bool true) args=true:=
 postW_of (r:=l.row.toRowW) (X:=(true == true))
  (show abg [] (.bool true) .bool=true by first | rfl | decide | simp [abg,WShape.arms,WShape.armsAll])
  (show (WTm.eq .res (.lit (.bool true))).value [] {args:=args,res:=some (.bool true),after:=args}=some (.bool (true == true)) from w_eq_bool (w_res rfl) w_lit) rfl
theorem yi {l:OpenLaw}{XP:(Str->Option QH)->Sa->Prop}{YP:Ro->Sa->Prop}{d:DefRec}
 (hn:l.most=some n) (hdf:d.params.defaults=[])
 (call:∀(w:Ro) (s₀ s₁:QL) (mg mb:Str->Option QH) (fa:Q4) (o:Obj) (pm cd doc:QH) (a:Q4) (vs:List QH) (ns:List Int),
 Ground q loose [] XP w s₀ mg mb s₁.heap->YP w s₁.heap->
 s₁.heap.get? fa=some o->o.data=.func (docDef d.name d.params d.body d.scope pm cd doc)->s₁.heap.CodeRec cd d.name->mg d.name=some (.ref fa)->
 s₁.heap.get? a=some {cls:=.type "list",data:=.seq vs.toArray}->aah vs ns->ns.length<=n->s₁.gens=#[]->
 SQ (Rb l.prog w) YF (.call (.ref fa) ⟨[.ref a],[]⟩) (λr s'=>r=.ok (.ret (.bool true))/\OldK s₁.heap s'.heap/\s'.os=s₁.os/\Wz s'.gens) s₁):
  WalkO q loose XP YP l.row.toRowW d [] (λf vs=>Z4 f vs):=by intro w s₀ s₁ mg mb G Y fa o pm cd doc dV kV ho hd hcd hD hmg hg args vals as hpre hlay hrd hwl hlo;obtain rfl:dV=.none:=Dflts.none hD hdf;obtain rfl:kV=.none:=Dflts.noKw hD;obtain ⟨a,vs,ns,rfl,rfl,hobj,hints,hlen⟩:=Dg hn hpre hwl;refine enter_call (Uc (call w s₀ s₁ mg mb fa o pm cd doc a vs ns G Y ho (fd_plain hd) hcd hmg hobj hints hlen hg) λr s' hq=>?_);obtain ⟨rfl,h2,h3,h4⟩:=hq;exact ⟨.inl ⟨.bool true,.bool true,[],rfl,λ_=>rfl,.bool true,CP l _,λ_=>⟨Vg,λ_ hm=>(nomatch hm)⟩⟩,h2,h3,h4⟩
end Att
namespace L2
open PySem PySem.Spec PyProof.Rows
theorem uG:∀{vs:List QH}{ns:List Int},aah vs ns->Vals (ns.map V.int) vs
 | _,_,.nil=>.nil
 | _,_,.cons n t h=>.cons ⟨t,rfl⟩ (uG h)
noncomputable def zZ (H:Hp):Prop:=∀b,H b=none\/∃o xs,H b=some (.frz o (.lst xs))
theorem Er {K:QG}{mg mb:Str->Option QH}{sp:Sp}{s₁:QL}{vs:List QH}{ns:List Int}
 (KX:K.In s₁.heap) (hns:s₁.heap.Ns Q_ mg) (hb:s₁.heap.Ns ZZ mb) (P8:∀x:Str,x≠"__name__"->mb x=Sm x) (hlim:s₁.heap.NoLimit) (hg:s₁.gens=#[])
 (ha:s₁.heap.get? a=some {cls:=.type "list",data:=.seq vs.toArray}) (hi:aah vs ns) (hl:ns.length<=sizeLine) (hr:cR k YF)
 (F:∀base:Sa,K.In base->base.Ns Q_ mg->eG P w K mg base CX k fa fd [x] sp) (hbind:∀(s:QL) (u:QH),Zn s fd ⟨[u],[]⟩ [(x,u)])
 (ON:∀H:Hp,zZ H->c6 K H a (ns.map V.int)->sp [.ref a] H (λv _=>v=.bl true) λ_ _ _=>False)
 (Pb:∀H e s',CX [] H s₁ (λ_ _ _=>False) e s'->False):
  SQ (Rb P w) YF (.call (.ref fa) ⟨[.ref a],[]⟩) (λr s'=>r=.ok (.ret (.bool true))/\OldK s₁.heap s'.heap/\s'.os=s₁.os/\Wz s'.gens) s₁:=by
 have rv:=uG hi;have lenV:=hi.length;have core:∀H:Hp,zZ H->c6 K H a (ns.map V.int)->eW P w H s₁.heap->(∀b,H b≠none->b=a)->(H a≠none->K.lookup a=none)->
   SQ (Rb P w) YF (.call (.ref fa) ⟨[.ref a],[]⟩) (λr s'=>r=.ok (.ret (.bool true))/\OldK s₁.heap s'.heap/\s'.os=s₁.os/\Wz s'.gens) s₁:=by
  intro H hO hS hok hA hK;have base_of:∀{b:Q4}{o:Obj},s₁.heap.get? b=some o->H b=none->(lR s₁.heap H).get? b=some o:=λe n=>Eh e n;have noA:∀{b:Q4}{o:Obj}{es:Array W8}{ep:Nat},s₁.heap.get? b=some o->o.data=.dict es ep->H b=none:=fun {b o es ep} e d=>by
   cases q:H b with
   | none=>rfl
   | some u=>
    have e':b=a:=hA b (by rw [q];simp);subst e';rw [ha] at e;cases e;have d':Data.seq vs.toArray _=Data.dict es ep:=d;cases d'
  have nsK:∀{b:Q4}{m:Str->Option QH},s₁.heap.Ns b m->(lR s₁.heap H).Ns b m:=fun {b m} ⟨o,es,ep,e,d,r⟩=>⟨o,es,ep,base_of e (noA e d),d,r⟩;have PM:K.In (lR s₁.heap H):=λb o e=>base_of (KX b o e) (by
   cases q:H b with
   | none=>rfl
   | some u=>
    have e':b=a:=hA b (by rw [q];simp);subst e';rw [hK (by rw [q];simp)] at e;cases e)
  have hM:Mod K mg (lR s₁.heap H):=⟨PM,nsK hns,⟨mb,nsK hb,P8⟩,let ⟨mc,h1,h2⟩:=hlim;⟨mc,nsK h1,h2⟩⟩;have e0:pP P w K mg (lR s₁.heap H) YF [] s₁ H:=⟨rfl,hM,λb o e=>Hf e,YX (B7 _ _),trivial,λb hb=>absurd (show b∈([]:List Q4) from hb) (by simp),hok,.of_eq hg⟩;refine Uc ((F _ PM (nsK hns)).run YF [] s₁ H ⟨[.ref a],[]⟩ [.ref a] [.ref a] _ _ hr e0 (hbind s₁ (.ref a)) (.cons rfl .nil) (ON H hO hS)) λr s' h=>?_;cases r with
  | error e=>exact (Pb H e s' h).elim
  | ok fl=>
   cases fl with
   | next=>exact TL h
   | brk=>exact TL h
   | cont=>exact TL h
   | ret u=>
    obtain ⟨v,H',os,bare,un,Pu,r',q⟩:=h;have q':v=.bl true:=q;subst q';obtain rfl:u=Yz true:=r';refine ⟨rfl,OldK.of_keep λb o e=>?_,os,bare⟩;cases q:H b with
    | none=>exact un.keep b o e q (by intro z;exact absurd (show b∈([]:List Q4) from z) (by simp)) (by simp)
    | some u=>
     rcases hO b with z | ⟨ob,xs,z⟩
     ·rw [q] at z;cases z
     ·have z2:=un.frzs b ob _ z;obtain ⟨e1,_⟩:=hok b _ z;obtain ⟨e2,_⟩:=Pu b _ z2;rw [e] at e1;cases e1;exact e2
 cases hk:K.lookup a with
 | some o=>
  have e:=KX a o hk;rw [ha] at e;cases e;refine core (λ_=>none) (λ_=>.inl rfl) (.inr ⟨_,vs.toArray,_,hk,rfl,rfl,rfl,by rw [Q3,lenV];exact hl,by simpa using rv⟩) (λb u z=>by have z':(none:Option HO)=some u:=z;cases z') (λb z=>absurd rfl z) λz=>absurd rfl z
 | none=>
  refine core (λb=>if b=a then some (.frz {cls:=.type "list",data:=.seq vs.toArray} (.lst (ns.map V.int))) else none) (λb=>?_) (.inl (.inr ⟨{cls:=.type "list",data:=.seq vs.toArray},if_pos rfl⟩)) (λb u z=>?_) (λb z=>?_) λ_=>hk
  ·by_cases hb:b=a
   ·exact .inr ⟨_,_,if_pos hb⟩
   ·exact .inl (if_neg hb)
  ·by_cases hb:b=a
   ·have z':=(if_pos hb).symm.trans z;cases z';subst hb;exact ⟨ha,by rw [QN];exact hl,vs,_,rv,ha⟩
   ·have z':=(if_neg hb).symm.trans z;cases z'
  ·by_cases hb:b=a
   ·exact hb
   ·exact absurd (if_neg hb) z
noncomputable abbrev N1 {K:QG}{h:Sa}(_:K.In h):QG:=K
theorem Iz {l:Xf}{XP:(Str->Option QH)->Sa->Prop}{YP:Ro->Sa->Prop}{d:DefRec}{K:aa6->QG}{CX:Ro->qk}{sp:Ro->Sp}
 (hn:l.most=some n) (hn2:n<=sizeLine) (hdf:d.params.defaults=[]) (hr:cR k YF)
 (hY:∀(w:Ro) (h:Sa),YP w h->(K w.params).In h)
 (F:∀(w:Ro) (mg:Str->Option QH) (fa:Q4) (h:Sa),(K w.params).In h->h.Ns Q_ mg->mg d.name=some (.ref fa)->
 ∃fd:Rp,(∀(s:QL) (u:QH),Zn s fd ⟨[u],[]⟩ [(x,u)])/\
 ∀base:Sa,(K w.params).In base->base.Ns Q_ mg->eG l.prog w (K w.params) mg base (CX w) k fa fd [x] (sp w))
 (ON:∀(w:Ro) (H:Hp) (a:Q4) (ns:List Int),ns.length<=n->zZ H->c6 (K w.params) H a (ns.map V.int)->sp w [.ref a] H (λv _=>v=.bl true) λ_ _ _=>False)
 (Pb:∀(w:Ro) (H:Hp) (s:QL) (e:QH) (s':QL),CX w [] H s (λ_ _ _=>False) e s'->False):
  aai q loose XP YP l.row.toRowW d [] (λf vs=>Z4 f vs):=by refine Att.yi hn hdf λw s₀ s₁ mg mb fa o pm cd doc a vs ns G Y ho hd hcd hmg hobj hints hlen hg=>?_;have KX:=hY w _ Y;obtain ⟨fd,hb,hF⟩:=F w mg fa _ KX G.T.g hmg;exact Er KX G.T.g G.T.b G.T.builtins G.T.nolimit hg hobj hints (RG hlen hn2) hr hF hb (λH hO hS=>ON w H a ns hlen hO hS) λH e s'=>Pb w H s₁ e s'
noncomputable abbrev jH:qk:=λ_ _ _ _ _ _=>False
noncomputable abbrev E0:XK:=λ_ _ _=>False
theorem FZ:Passes jH X E0:=λ_ _ _ _ _ _ _ h=>h.elim
structure fF (K:QG) (x QA:Str) (st:TR) (f:Q4) (fd:Rp):Prop where
 ex:∃(oc:QH) (od:Option Q4) (kV doc pm:QH) (an:Option Q4) (cdv ct:QH) (osl:Array (Option QH)),
  fd=Rv x QA (cD st) (bM st) (aN st) .none kV doc pm an cdv ct/\K.lookup f=some ⟨oc,od,.func fd,osl⟩/\Tr K cdv QA=true
 kp:RL K (.ref f)=true
section
variable {P:Q2}{w:Ro}{K:QG}{mg:Str->Option QH}{base:Sa}
theorem fF.ok {st:TR}{N ps:List Str}{sp:Sp}(F:fF K x QA st f fd) (S:cJ N ps (aN st)) (len:∀vs H Q E,sp vs H Q E->vs.length=ps.length)
 (hbody:∀(cdv:QH) (A:RA) (outer:List Env) (s:QL) (H:Hp) (vs:List V) (Q:VK) (E:XK),cR k (A.deeper (Va QA (aN st) s.heap.objs.size f cdv))->sp vs H Q E->
 ∃t,iO (nj jH P w K mg base N QA (aN st) f cdv A outer s H E).nox (bM st) t/\t {nx:=λ_ H'=>Q .non H',rt:=Q} (start N vs) H):eG P w K mg base jH (k + 1) f fd ps sp:=by obtain ⟨oc,od,kV,doc,pm,an,cdv,ct,osl,rfl,lk,hcd⟩:=F.ex;refine FJ lk hcd S len λA outer s H vs Q E hr ON=>?_;obtain ⟨t,h,q⟩:=hbody cdv A outer s H vs Q E hr ON;exact ⟨t,h.nox,q⟩
theorem fF.binds {st:TR}{ps:List Str}(F:fF K x QA st f fd)
 (h:∀(kV doc pm:QH) (an:Option Q4) (cdv ct:QH) (us:List QH),us.length=ps.length->Vn (Rv x QA (cD st) (bM st) (aN st) .none kV doc pm an cdv ct) ⟨us,[]⟩=pure (ps.zip us)):Binds K fd ps []:=by obtain ⟨oc,od,kV,doc,pm,an,cdv,ct,osl,rfl,lk,hcd⟩:=F.ex;exact .all (h kV doc pm an cdv ct)
theorem wI {st:TR}{kV doc pm cdv ct:QH}(l:K.lookup f=some ⟨oc,od,.func (Rv x QA (cD st) (bM st) (aN st) .none kV doc pm an cdv ct),osl⟩)
 (c:Tr K cdv QA=true) (k:RL K (.ref f)=true):fF K x QA st f (Rv x QA (cD st) (bM st) (aN st) .none kV doc pm an cdv ct):=⟨⟨oc,od,kV,doc,pm,an,cdv,ct,osl,rfl,l,c⟩,k⟩
end
theorem JM {A B:Prop}(h:B):if false=true then A else B:=by rw [if_neg RQ];exact h
theorem JN {A B:Prop}(h:A):if true=true then A else B:=by rw [if_pos rfl];exact h
noncomputable def aW (H H':Hp):Prop:=∀b o,H b=some o->H' b=some o
theorem aW.refl (H:Hp):aW H H:=λ_ _ h=>h
theorem aW.trans {H H1 H2:Hp}(a:aW H H1) (b:aW H1 H2):aW H H2:=λc o h=>b c o (a c o h)
theorem aW.free {H H':Hp}(e:aW H H') (h:H' l=aaY):H l=aaY:=by
 cases q:H l with
 | none=>rfl
 | some o=>
  rw [e l o q] at h;cases h
theorem aW.seq {K:QG}{H H':Hp}{a:Q4}{xs:List V}(e:aW H H') (h:c6 K H a xs):c6 K H' a xs:=by
 rcases h with (h | ⟨o,h⟩) | h
 ·exact .inl (.inl (e _ _ h))
 ·exact .inl (.inr ⟨o,e _ _ h⟩)
 ·exact .inr h
end L2
namespace DX
open PySem PySem.Spec
open Sem (wp)
noncomputable abbrev NG (C t:Q4) (dx:Option Q4):Obj:={cls:=.ref C,dict:=dx,data:=.fields #[.ref t,.none,.none,.none,.bool false,.none]}
end DX
namespace DX
open PySem PySem.Spec
section
variable {M:ZJ}{A:RA}{E:QH->QL->Prop}{s:QL}
noncomputable def Ny (e C:Q4) (dx:Option Q4) (T:Q4) (h:Sa):Prop:=
 ∃oe vs oT ts v,h.get? e=some oe/\oe.cls=.ref C/\oe.dict=dx/\oe.data=.fields vs/\vs[1]?=some (.ref T)/\T≠e/\h.get? T=some oT/\oT.data=.fields ts/\ts[3]?=some v
end
end DX
namespace DX
open PySem PySem.Spec PyProof.Rows L2
noncomputable def LA (a C:Q4) (dx:Option Q4):Sa->Prop:=λh=>∃oe vs,h.get? a=some oe/\oe.cls=.ref C/\oe.dict=dx/\oe.data=.fields vs
noncomputable abbrev XO (a C:Q4) (dx:Option Q4):HO:=.ext (LA a C dx)
noncomputable def Fl (e C:Q4) (dx:Option Q4):Option Q4->Sa->Prop
 | none,h=>∃t,h.get? e=some (NG C t dx)
 | some T,h=>Ny e C dx T h
structure MP (P:Q2) (w:Ro) (fs ex:List Q4) (H:Hp) (s:QL) (E:XK) (e C:Q4) (dx To:Option Q4) (H':Hp) (s':QL):Prop where
 os:s'.os=s.os
 bare:Wz s'.gens
 un:Un fs ex H H' s.heap s'.heap
 hok:eW P w H' s'.heap
 fl:Fl e C dx To s'.heap
 newE:s.heap.objs.size<=e
 newT:∀T∈To.toList,s.heap.objs.size<=T
 Du:H' e=some (XO e C dx)
 free:∀T∈To.toList,H' T=none
 wish:E (.ref e) dx H'
noncomputable def ql (P:Q2) (w:Ro):qk:=λouter H s E v s'=>∃e C dx T H',v=.ref e/\MP P w (frs outer) [] H s E e C dx (some T) H' s'
end DX
namespace DX
open PySem PySem.Spec PyProof.Rows
open Sem (wp)
section
variable {prog:Q2}{w:Ro}{A:RA}{E:QH->QL->Prop}{s:QL}{K:QG}{x C:Q4}{ox:Obj}{od:Option Obj}{name:Str}
theorem D0 {M:ZJ}{Q:Unit->QL->Prop}(X:K.In s.heap) (I:Ui s.heap x ox C od) (hm:S3 K C (.type "BaseException")=some true) (hq:Q () s):Q8 M A (Vw "BaseException.__getattribute__" ⟨[.ref x,nameV],[]⟩) Q E s:=by
 have hk:builtinKind "BaseException.__getattribute__"=some .slot:=by decide +kernel
 have ON:splitId "BaseException.__getattribute__"=some ("BaseException","__getattribute__"):=by decide +kernel
 have ha:=F.args_bexc_ga (.ref x) nameV;have L1:=I.type (M:=M);have L2:=W.looks_mroIn (M:=M) X hm;simp only [Vw,hk,ON];have L:W.Looks M s.heap (isInstance (.ref x) (.type "BaseException")) true:=L1.andThen L2;refine QF (L.here ?_);obtain ⟨h,g,d,t,os⟩:=s
 repeat (any_goals (first | assumption | wp_step))
theorem entry_class {Q:Fin->QL->Prop}(X:K.In s.heap) (I:Ui s.heap x ox C od) (hf:VS K C od "__class__"=some (.bind (.builtin "getset_descriptor.__get__") (.builtin "object.__class__"))) (hm:S3 K C (.type "object")=some true) (h:Q (.done (.ret (.ref C))) s):
  Q8 (Rb prog w) A (WB.«object.__getattribute__» ⟨[.ref x,.str "__class__" tk],[]⟩) Q E s:=by obtain ⟨hh,g,d,t,os⟩:=s;have L0:=I.type (M:=Rb prog w);have L1:=W.looks_find (M:=Rb prog w) X I hf;refine QF (QJ (QF (QJ (QF (L0.at (QF (L1.at ?_)))))));show Q8 _ _ (holding [_] (call _ [_,.ref x,.ref C]) >>= ret) _ _ _;exact QF (RJ (Wo (W.class_get (ox:=ox) (od:=od) X I hm (QJ h))))
theorem JB {tk:Tok}{fill expr:Bool}{Q:QH->QL->Prop}(X:K.In s.heap) (I:Ui s.heap x ox C od) (hga:Rk K (.ref C) "__getattribute__"=some (some (.builtin "BaseException.__getattribute__"))) (hgt:Rk K (.ref C) "__getattr__"=some none)
  (h:SQ (Rb prog w) A (.call (.builtin "BaseException.__getattribute__") ⟨[.ref x,.str name tk],[]⟩) (λr s'=>match r with | .ok (.ret v)=>Q8 (Rb prog w) A (handedOut v) Q E s' | _=>False) s):Q8 (Rb prog w) A (getAttrBy (.ref x) (.str name tk) fill expr) Q E s:=by
 obtain ⟨hh,g,d,t,os⟩:=s;have L0:=I.type (M:=Rb prog w);have L1:=VA (M:=Rb prog w) X hga;have L2:=VA (M:=Rb prog w) X hgt;have OO:(Yr "BaseException.__getattribute__" == Yr "object.__getattribute__")=false:=by decide +kernel
 unfold getAttrBy;refine RJ (QF (L0.at (QF (L1.at ?_))));dsimp only;rw [OO,Vo,if_neg (by decide)];unfold getAttrByItsOwn;refine QF (L2.at ?_);have h0:(expr && onTheHeap (Yr "BaseException.__getattribute__"))=false:=by cases expr <;> rfl
 refine QF (U3 (RJ ?_));unfold callGetattribute;rw [h0,if_neg (by decide)];unfold boundAndCalled;rw [VT.ga.bind (.ref x)];refine QF (QJ (Wo (Uc h λr s' q=>?_)))
 match r,q with
 | .ok (.ret v),q=>exact q
theorem get_class {Q:Option QH->QL->Prop}(X:K.In s.heap) (I:Ui s.heap x ox C od) (hga:Rk K (.ref C) "__getattribute__"=some (some (.builtin "BaseException.__getattribute__"))) (hgt:Rk K (.ref C) "__getattr__"=some none)
  (hm:S3 K C (.type "BaseException")=some true) (hf:VS K C od "__class__"=some (.bind (.builtin "getset_descriptor.__get__") (.builtin "object.__class__"))) (ho:S3 K C (.type "object")=some true) (h:Q (some (.ref C)) {s with toks:=s.toks + 1}):
  Q8 (Rb prog w) A (getAttr? (.ref x) "__class__") Q E s:=by obtain ⟨hp,g,d,t,os⟩:=s;unfold getAttr? getAttrBy?;refine QF (wpAny_mkText (QF (U3 (JB (s:=⟨hp,g,d,t + 1,os⟩) X I hga hgt ?_))));refine VB VT.ga.plain F.entry_bexc_ga (D0 (s:=⟨hp,g,d,t + 1,os⟩) X I hm (entry_class (s:=⟨hp,g,d,t + 1,os⟩) X I hf ho ?_));exact QJ (QJ h)
end
end DX
namespace DX
open PySem PySem.Spec PyProof.Rows L2
noncomputable abbrev nY:List QH:=[.type "ValueError",.type "Exception",.type "BaseException",.type "object"]
noncomputable def quiet:List Str:=["__init__","__setattr__","name","letter","many","told","point","row"]
noncomputable def Lk (es:Array W8):Bool:=es.toList.all λe=>match e.key with | .str _ _=>true | _=>false
theorem LW {K:QG}(l:K.lookup N=some ⟨c,d,.dict es ep,sl⟩) (hk:Lk es=true){h:Sa}(X:K.In h):h.Ns N (nsFind es):=by
 refine ⟨_,es,ep,X _ _ l,rfl,λe he=>?_,λ_=>rfl⟩;have:=Th.mp hk e (by simpa using he);cases q:e.key with
 | str n t=>exact ⟨n,t,rfl⟩
 | _=>rw [q] at this;cases this
structure GX (K:QG) (P:Q4):Prop where
 gt:Uz K (.builtin "object.__class__") "__get__"=some (some (.builtin "getset_descriptor.__get__"))
 tk:U4 K (.builtin "object.__class__")=some true
 lk:∃nm q N bs sn sub ab col dd k0 k1 k2 k3 k5,K.lookup P=some (X5 nm q P N bs nY true sn sub ab col dd k0 k1 k2 k3 k5 "ValueError.__new__")/\∀h,K.In h->∃m,h.Ns N m/\∀n∈quiet,m n=none
structure XE (K:QG) (P C:Q4):Prop where
 lk:∃nm q N bs sn sub ab col dd k0 k1 k2 k3 k5,K.lookup C=some (X5 nm q C N bs (.ref P::nY) true sn sub ab col dd k0 k1 k2 k3 k5 "ValueError.__new__")
 ga:Rk K (.ref C) "__getattribute__"=some (some (.builtin "BaseException.__getattribute__"))
 gt:Rk K (.ref C) "__getattr__"=some none
 cl:Rk K (.ref C) "__class__"=some (some (.builtin "object.__class__"))
section
variable {K:QG}{P C:Q4}
theorem BL (X:XE K P C):∃cd,UA K C=some cd/\cd.mro=.ref C::.ref P::nY/\cd.hasDict=true/\ZL K (.ref C)=some (.type "type"):=by
 obtain ⟨nm,q,N,bs,sn,sub,ab,col,dd,k0,k1,k2,k3,k5,l⟩:=X.lk;have h1:UA K C=some {name:=nm,bases:=bs,mro:=.ref C::.ref P::nY,ns:=N,qualname:=q,hasDict:=true,slotNames:=sn,subclasses:=sub,abstract:=ab,collection:=col,hasDel:=false}:=by unfold UA;rw [l]
 refine ⟨_,h1,rfl,rfl,?_⟩;show (K.lookup C).map (·.cls)=_;rw [l];rfl
theorem xm (X:XE K P C) (b:QH):S3 K C b=some ((Tj C::.ref P::nY).contains b):=by obtain ⟨cd,h1,h2,_⟩:=BL X;unfold S3;rw [h1,Vx,h2];rfl
end
theorem JU {K:QG}{P C:Q4}(X:XE K P C){T:String}(h1:Xg T=true) (h2:nY.contains (.type T)=false):Vp K (.ref C) (.type T)=some false:=by unfold Vp ZN;rw [if_neg (by simp)];simp only [h1,if_true];show S3 K C _=_;rw [xm X,V9,V9,h2];rfl
theorem GK {K:QG}{C:Q4}{od:Option Obj}{name:Str}{a g:QH}(hc:(UA K C).isSome=true) (ha:Rk K (.ref C) name=some (some a)) (hg:Uz K a "__get__"=some (some g)) (ht:U4 K a=some true):VS K C od name=some (.bind g a):=by obtain ⟨cd,hc⟩:=RE.mp hc;unfold VS;rw [hc,Vx,ha,Vx];simp [hg,ht]
theorem Eo {K:QG}{e P C:Q4}(G:GX K P) (E:XE K P C):W.KitX K (.ref e) (.ref C) (λh=>∃ox od,Ui h e ox C od):=by
 obtain ⟨cd,hc,hm,hd,ht⟩:=BL E;refine ⟨λM h _ ⟨ox,od,I⟩=>I.type,λM h X _=>?_,λh tp dd Qx n sl X htp=>?_,λX ⟨ox,od,I⟩ k=>?_⟩
 ·unfold UA at hc;split at hc
  ·rename_i ho;intro A' Q' E' s' k q;unfold isType loadHead;exact QF (ZK (k _ _ (X _ _ ho)) (QJ q))
  ·cases hc
 ·refine YG.mpr λq=>?_;obtain rfl:C=tp:=abq (beq_iff_eq.mp q);unfold UA at hc;split at hc
  ·rename_i ho;have z:=(X _ _ ho).symm.trans htp;cases z
  ·cases hc
 ·exact get_class X I E.ga E.gt (by rw [xm E];simp) (GK (by rw [hc];rfl) E.cl G.gt G.tk) (by rw [xm E];simp) k
end DX
namespace DL
open PySem PySem.Spec PyProof.Rows L2
inductive Kd where
 | txt (ss:List Str) | ins (cls:Str) (ns:List Str) | mem (dom:List (List Int)) (f:List Int->Bool)
inductive D where
 | non | bl (b:Bool) | int (i:Int) | str (x:Str) | tup (xs:List D) | lst (xs:List D) | emp
 | exn (cls:Str) (ns:List Str) (ds:List D)
  | dct (ks vs:List D)
  | ob (k:Kd) (xs:List D)
mutual
noncomputable def isKey:D->Bool
 | .int _=>true
 | .tup xs=>areKeys xs
 | _=>false
noncomputable def areKeys:List D->Bool
 | []=>true
 | x::xs=>isKey x && areKeys xs
end
mutual
noncomputable def LI:D->Int
 | .int i=>hashInt i
 | .tup xs=>reduceHash (ZO (qW xs))
 | _=>0
noncomputable def qW:List D->List Int
 | []=>[]
 | x::xs=>LI x::qW xs
end
mutual
noncomputable def dep:D->Nat
 | .tup xs=>deps xs + 1
 | .lst xs=>deps xs + 1
 | .emp=>5000
 | .exn _ _ _=>5000
 | .dct _ _=>5000
 | .ob _ _=>5000
 | _=>0
noncomputable def deps:List D->Nat
 | []=>0
 | x::xs=>max (dep x) (deps xs)
end
structure IQ (ks:List D):Prop where
 key:areKeys ks=true
 nd:ks.Nodup
 dp:deps ks<=8
 tp:∀k∈ks,∃xs,k=.tup xs
noncomputable def IP (p:Int×V×V) (e:W8):Prop:=e.hash=p.1/\RelV p.2.1 e.key/\RelV p.2.2 e.val
noncomputable abbrev FG (a:Q4) (ep:Nat) (QC:List (Int×V×V)):HO:=.ext λh=>∃o es,h.get? a=some o/\o.ExactDict/\o.data=.dict es ep/\Wk IP QC es.toList
noncomputable def XF (J:Hp) (dx:Option Q4) (ns:List Str) (vs:List V):Prop:=(dx=none/\ns=[]/\vs=[])\/∃d,dx=some d/\ns.length=vs.length/\J d=some (.xd (ns.zip vs))
theorem XF.mono {J J':Hp}(e:aW J J') (h:XF J dx ns vs):XF J' dx ns vs:=by
 rcases h with h | ⟨d,h1,h2,h3⟩
 ·exact .inl h
 ·exact .inr ⟨d,h1,h2,e _ _ h3⟩
structure m7 (K:QG) (C:Q4):Prop where
 cl:L2.oR K C
 ha:Rk K (.ref C) "__class__"=some (some (.builtin "object.__class__"))
 hn:Uz K (.builtin "object.__class__") "__get__"=some (some (.builtin "getset_descriptor.__get__"))
 htk:U4 K (.builtin "object.__class__")=some true
 hm:S3 K C (.type "object")=some true
 no:∀T,Xg T=true->DX.nY.contains (.type T)=false->Vp K (.ref C) (.type T)=some false
noncomputable def vF (K:QG) (H:Hp) (a:Q4) (vs:List V):Kd->Prop
 | .txt ss=>ss.length=vs.length/\H a=some (.dK ((ss.map Uq).zip vs))/\(a == RY)=false
 | .ins cls ns=>∃C dx,Rn K Q_ cls=some (some (.ref C))/\m7 K C/\ns.length=vs.length/\H a=some (.ins C dx (ns.zip vs))
 | .mem dom f=>vs=[]/\H a=some (.memo dom f)
theorem vF.mono {K:QG}{H H':Hp}{a:Q4}{vs:List V}(e:∀o,H a=some o->H' a=some o):∀{k:Kd},vF K H a vs k->vF K H' a vs k
 | .txt _,⟨h1,h2,h3⟩=>⟨h1,e _ h2,h3⟩
 | .ins _ _,⟨C,dx,h1,h2,h3,h4⟩=>⟨C,dx,h1,h2,h3,e _ h4⟩
 | .mem _ _,⟨h1,h2⟩=>⟨h1,e _ h2⟩
theorem vF.some {K:QG}{H:Hp}{a:Q4}{vs:List V}:∀{k:Kd},vF K H a vs k->∃o,H a=some o
 | .txt _,⟨_,h2,_⟩=>⟨_,h2⟩
 | .ins _ _,⟨_,_,_,_,_,h3⟩=>⟨_,h3⟩
 | .mem _ _,⟨_,h2⟩=>⟨_,h2⟩
mutual
inductive Rep (K:QG) (J:Hp):D->V->Prop
 | non:Rep K J .non .non
 | bl (b:Bool):Rep K J (.bl b) (.bl b)
 | int (i:Int):Rep K J (.int i) (.int i)
 | str (x:Str):Rep K J (.str x) (.str x)
 | emp {a:Q4}:J a=some (.dK [])->Rep K J .emp (.ref a)
 | tup {a:Q4}{vs:List V}{ds:List D}:fP K J a vs->aX K J ds vs->Rep K J (.tup ds) (.ref a)
 | lst {a:Q4}{vs:List V}{ds:List D}:c6 K J a vs->aX K J ds vs->Rep K J (.lst ds) (.ref a)
 | exn {a C:Q4}{dx:Option Q4}{cls:Str}{ns:List Str}{vs:List V}{ds:List D}:J a=some (DX.XO a C dx)->Rn K Q_ cls=some (some (.ref C))->XF J dx ns vs->aX K J ds vs->(∃P,DX.GX K P/\DX.XE K P C)->Rep K J (.exn cls ns ds) (.ref a)
 | dct {a:Q4}{ep:Nat}{ks vs:List D}{us ws:List V}:J a=some (FG a ep ((qW ks).zip (us.zip ws)))->aX K J ks us->aX K J vs ws->IQ ks->(a == RY)=false/\ks.length=vs.length->Rep K J (.dct ks vs) (.ref a)
 | ob {a:Q4}{k:Kd}{xs:List D}{vs:List V}:vF K J a vs k->aX K J xs vs->Rep K J (.ob k xs) (.ref a)
inductive aX (K:QG) (J:Hp):List D->List V->Prop
 | nil:aX K J [] []
 | cons {d:D}{v:V}{ds:List D}{vs:List V}:Rep K J d v->aX K J ds vs->aX K J (d::ds) (v::vs)
end
theorem gj {K:QG}{H H':Hp}{a:Q4}{xs:List V}(e:aW H H') (h:fP K H a xs):fP K H' a xs:=by
 rcases h with (h | ⟨o,h⟩) | h
 ·exact .inl (.inl (e _ _ h))
 ·exact .inl (.inr ⟨o,e _ _ h⟩)
 ·exact .inr h
mutual
theorem Rep.mono {K:QG}{J J':Hp}(e:aW J J'):∀{d:D}{v:V},Rep K J d v->Rep K J' d v
 | _,_,.non=>.non
 | _,_,.bl b=>.bl b
 | _,_,.int i=>.int i
 | _,_,.str x=>.str x
 | _,_,.emp h=>.emp (e _ _ h)
 | _,_,.tup h hs=>.tup (gj e h) (aX.mono e hs)
 | _,_,.lst h hs=>.lst (e.seq h) (aX.mono e hs)
 | _,_,.exn h1 h2 h3 hs hx=>.exn (e _ _ h1) h2 (h3.mono e) (aX.mono e hs) hx
 | _,_,.dct h h1 h2 h3 h4=>.dct (e _ _ h) (aX.mono e h1) (aX.mono e h2) h3 h4
 | _,_,.ob h hs=>.ob (h.mono (e _)) (aX.mono e hs)
theorem aX.mono {K:QG}{J J':Hp}(e:aW J J'):∀{ds:List D}{vs:List V},aX K J ds vs->aX K J' ds vs
 | _,_,.nil=>.nil
 | _,_,.cons h hs=>.cons (Rep.mono e h) (aX.mono e hs)
end
section
variable {K:QG}{J:Hp}
theorem aX.length:∀{ds:List D}{vs:List V},aX K J ds vs->ds.length=vs.length
 | _,_,.nil=>rfl
 | _,_,.cons _ hs=>congrArg (· + 1) (aX.length hs)
theorem aX.get:∀{ds:List D}{vs:List V}{i:Nat}{d:D},aX K J ds vs->ds[i]?=some d->∃v,vs[i]?=some v/\Rep K J d v
 | _,_,_,_,.nil,e=>by simp at e
 | _,_,0,_,.cons r _,e=>by simp at e;subst e;exact ⟨_,rfl,r⟩
 | _,_,i + 1,d,.cons _ t,e=>by obtain ⟨v,h1,h2⟩:=aX.get (i:=i) (d:=d) t (by simpa using e);exact ⟨v,by simpa using h1,h2⟩
theorem aX.append:∀{ds es:List D}{vs us:List V},aX K J ds vs->aX K J es us->aX K J (ds++es) (vs++us)
 | _,_,_,_,.nil,s=>s
 | _,_,_,_,.cons r t,s=>.cons r (aX.append t s)
theorem aX.take:∀{ds:List D}{vs:List V}(n:Nat),aX K J ds vs->aX K J (ds.take n) (vs.take n)
 | _,_,0,_=>.nil
 | _,_,_ + 1,.nil=>.nil
 | _,_,n + 1,.cons r t=>.cons r (aX.take n t)
theorem aX.drop:∀{ds:List D}{vs:List V}(n:Nat),aX K J ds vs->aX K J (ds.drop n) (vs.drop n)
 | _,_,0,r=>r
 | _,_,_ + 1,.nil=>.nil
 | _,_,n + 1,.cons _ t=>aX.drop n t
end
noncomputable def gO (K:QG) (J H:Hp) (a:Q4) (ks vs:List D):Prop:=∃us ws ep,H a=some (FG a ep ((qW ks).zip (us.zip ws)))/\aX K J ks us/\aX K J vs ws/\IQ ks/\(a == RY)=false/\ks.length=vs.length
theorem gO.mono {K:QG}{J J' H H':Hp}{a:Q4}{ks vs:List D}(e:aW J J') (e':aW H H'):gO K J H a ks vs->gO K J' H' a ks vs
 | ⟨us,ws,ep,h1,h2,h3,h4⟩=>⟨us,ws,ep,e' _ _ h1,h2.mono e,h3.mono e,h4⟩
theorem gO.ne {K:QG}{J H:Hp}{a:Q4}{ks vs:List D}:gO K J H a ks vs->H a≠none
 | ⟨us,ws,ep,h1,_⟩=>by rw [h1];intro z;cases z
theorem gO.rep {K:QG}{J H:Hp}{a:Q4}{ks vs:List D}(e:aW J H):gO K J H a ks vs->Rep K H (.dct ks vs) (.ref a)
 | ⟨us,ws,ep,h1,h2,h3,h4,h5⟩=>.dct h1 (h2.mono e) (h3.mono e) h4 h5
noncomputable def ie (K:QG) (J H:Hp) (a:Q4) (k:Kd) (xs:List D):Prop:=∃vs,vF K H a vs k/\aX K J xs vs
theorem ie.mono {K:QG}{J J' H H':Hp}{a:Q4}{k:Kd}{xs:List D}(e:aW J J') (e':aW H H'):ie K J H a k xs->ie K J' H' a k xs
 | ⟨vs,h1,h2⟩=>⟨vs,h1.mono (e' _),h2.mono e⟩
theorem ie.ne {K:QG}{J H:Hp}{a:Q4}{k:Kd}{xs:List D}:ie K J H a k xs->H a≠none
 | ⟨vs,h1,_⟩=>by obtain ⟨o,h⟩:=h1.some;rw [h];intro z;cases z
noncomputable def NR (K:QG) (J:Hp) (P:Q4->Prop):List D->List V->Prop
 | [],vs=>vs=[]
 | x::xs,vs=>∃ds b ws us,x=.lst ds/\vs=.ref b::us/\J b=some (.lst ws)/\aX K J ds ws/\P b/\V.ref b∉us/\NR K J P xs us
theorem NR.mono {K:QG}{J J':Hp}{P P':Q4->Prop}(e:aW J J') (k:∀b,P b->P' b):∀{xs:List D}{vs:List V},NR K J P xs vs->NR K J' P' xs vs
 | [],_,h=>h
 | _::_,_,⟨ds,b,ws,us,h1,h2,h3,h4,h5,h6,h7⟩=>⟨ds,b,ws,us,h1,h2,e _ _ h3,h4.mono e,k b h5,h6,h7.mono e k⟩
theorem NR.reps {K:QG}{J:Hp}{P:Q4->Prop}:∀{xs:List D}{vs:List V},NR K J P xs vs->aX K J xs vs
 | [],_,h=>by cases h;exact .nil
 | _::_,_,⟨ds,b,ws,us,h1,h2,h3,h4,h5,h6,h7⟩=>by subst h1;subst h2;exact .cons (.lst (.inl (.inl h3)) h4) h7.reps
theorem NR.mem {K:QG}{J:Hp}{P:Q4->Prop}:∀{xs:List D}{vs:List V}{u:V},NR K J P xs vs->u∈vs->∃b ws,u=.ref b/\J b=some (.lst ws)/\P b
 | [],_,_,h,m=>by cases h;cases m
 | _::_,_,_,⟨ds,b,ws,us,h1,h2,h3,h4,h5,h6,h7⟩,m=>by
  subst h2;rcases QZ.mp m with e | e
  ·exact ⟨b,ws,e,h3,h5⟩
  ·exact h7.mem e
structure Exc where
 cls:Str
 ns:List Str
 ds:List D
inductive M (α:Type) where
 | bad | ok (a:α) | exc (x:Exc)
noncomputable def M.bind {α β:Type}:M α->(α->M β)->M β
 | .bad,_=>.bad
 | .ok a,f=>f a
 | .exc x,_=>.exc x
instance:Monad M where
 pure:=M.ok
 bind:=M.bind
@[simp] theorem aS {α β:Type}(a:α) (f:α->M β):(M.ok a >>= f)=f a:=rfl
noncomputable def cM {α:Type}(m:M α) (Q:α->Prop) (T:Exc->Prop):Prop:=match m with
 | .bad=>False
 | .ok a=>Q a
 | .exc x=>T x
theorem aI {α β:Type}{m:M α}{f:α->M β}{Q:β->Prop}{T:Exc->Prop}(h:cM (m >>= f) Q T):cM m (λa=>cM (f a) Q T) T:=by
 cases m with
 | bad=>exact h
 | ok a=>exact h
 | exc x=>exact h
theorem aC {α:Type}{m:M α}{Q Q':α->Prop}{T:Exc->Prop}(h:cM m Q T) (k:∀a,Q a->Q' a):cM m Q' T:=by
 cases m with
 | bad=>exact h
 | ok a=>exact k a h
 | exc x=>exact h
inductive Md where
 | fresh | own | bor
inductive R where
 | d (x:D) | l (m:Md) (xs:List D)
  | mo (ks vs:List D) | mb (ks vs:List D) | mf (ks vs:List D)
  | o (m:Md) (k:Kd) (xs:List D)
  | ln (xs:List D)
inductive S where
 | d (x:D) | own (xs:List D) | bor (xs:List D) | dk (ks vs:List D) | db (ks vs:List D)
  | fn (x:Str)
  | ow2 (xs:List D)
  | tn (xs:List D)
  | oo (k:Kd) (xs:List D) | ob (k:Kd) (xs:List D)
noncomputable abbrev Ev:=List (Option S)
inductive Mn where
 | inl (xs:List D) | inr (p:List D×List D) | nst (xs:List D) | oo (k:Kd) (xs:List D)
noncomputable def mS:Mn->S
 | .inl xs=>.own xs
 | .inr p=>.dk p.1 p.2
 | .nst xs=>.ow2 xs
 | .oo k xs=>.oo k xs
structure C where
 K:QG
 H0:Hp
 J0:Hp
 T:Exc->Prop
structure HI (c:C) (J H:Hp):Prop where
 sub:aW J H
 ent:aW c.H0 H
 entJ:aW c.J0 J
 frz:∀a,c.H0 a≠none->c.J0 a=none->J a=none
structure Ext (J H J' H':Hp):Prop where
 h:aW H H'
 j:aW J J'
 sub:aW J' H'
 frz:∀a,H a≠none->J a=none->J' a=none
theorem aW.ne {H H':Hp}(e:aW H H') (h:H a≠none):H' a≠none:=by
 cases q:H a with
 | none=>exact absurd q h
 | some o=>rw [e a o q];intro z;cases z
theorem Ext.refl {J H:Hp}(h:aW J H):Ext J H J H:=⟨aW.refl H,aW.refl J,h,λ_ _ q=>q⟩
theorem Ext.trans {J H J1 H1 J2 H2:Hp}(a:Ext J H J1 H1) (b:Ext J1 H1 J2 H2):Ext J H J2 H2:=
 ⟨a.h.trans b.h,a.j.trans b.j,b.sub,λp h q=>b.frz p (aW.ne a.h h) (a.frz p h q)⟩
theorem HI.ext {J H J' H':Hp}(h:HI c J H) (e:Ext J H J' H'):HI c J' H':=
 ⟨e.sub,h.ent.trans e.h,h.entJ.trans e.j,λa h0 j0=>e.frz a (aW.ne h.ent h0) (h.frz a h0 j0)⟩
theorem cC {H:Hp}(h:H p=none) (o:HO):aW H (upd H p o):=λb u q=>by rw [bh (fH q h)];exact q
theorem Ext.new {J H:Hp}(h:aW J H) (e:H p=none) (o:HO):Ext J H J (upd H p o):=
 ⟨cC e o,aW.refl J,λb u q=>cC e o b u (h b u q),λ_ _ q=>q⟩
theorem Ext.newJ {J H:Hp}(h:aW J H) (e:H p=none) (o:HO):Ext J H (upd J p o) (upd H p o):=
 ⟨cC e o,cC (h.free e) o,λb u q=>by
  by_cases hb:b=p
  ·subst hb;rw [bI] at q ⊢;exact q
  ·rw [bh hb] at q ⊢;exact h b u q,λa ha q=>by
  have:a≠p:=λz=>ha (z▸e);rw [bh this];exact q⟩
noncomputable def pQ (c:C) (J H:Hp):S->V->Prop
 | .d x,v=>Rep c.K J x v
 | .own xs,v=>∃a vs,v=.ref a/\H a=some (.lst vs)/\J a=none/\c.H0 a=none/\aX c.K J xs vs
 | .bor xs,v=>∃a vs,v=.ref a/\c6 c.K c.H0 a vs/\aX c.K J xs vs
 | .dk ks vs,v=>∃a,v=.ref a/\gO c.K J H a ks vs/\J a=none/\c.H0 a=none
 | .db ks vs,v=>∃a,v=.ref a/\gO c.K J c.H0 a ks vs
 | .fn x,v=>∃f,v=.ref f/\Rn c.K Q_ x=some (some (.ref f))
 | .ow2 xs,v=>∃a vs,v=.ref a/\H a=some (.lst vs)/\J a=none/\c.H0 a=none/\NR c.K J (λb=>c.H0 b=none/\c.J0 b=none) xs vs
 | .tn xs,v=>∃a vs,v=.ref a/\fP c.K J a vs/\NR c.K J (λb=>c.H0 b=none/\c.J0 b=none) xs vs
 | .oo k xs,v=>∃a,v=.ref a/\ie c.K J H a k xs/\J a=none/\c.H0 a=none
 | .ob k xs,v=>∃a,v=.ref a/\ie c.K J c.H0 a k xs
theorem pQ.ext {c:C}{J H J' H':Hp}(e:Ext J H J' H'):∀{x:S}{v:V},pQ c J H x v->pQ c J' H' x v
 | .d x,v,h=>Rep.mono e.j h
 | .own xs,v,⟨a,vs,h1,h2,h3,h4,h5⟩=>⟨a,vs,h1,e.h _ _ h2,e.frz a (by rw [h2];intro z;cases z) h3,h4,aX.mono e.j h5⟩
 | .bor xs,v,⟨a,vs,h1,h2,h3⟩=>⟨a,vs,h1,h2,aX.mono e.j h3⟩
 | .dk _ _,v,⟨a,h1,h2,h3,h4⟩=>⟨a,h1,h2.mono e.j e.h,e.frz a h2.ne h3,h4⟩
 | .db _ _,v,⟨a,h1,h2⟩=>⟨a,h1,h2.mono e.j (aW.refl _)⟩
 | .fn _,v,h=>h
 | .ow2 _,v,⟨a,vs,h1,h2,h3,h4,h5⟩=>⟨a,vs,h1,e.h _ _ h2,e.frz a (by rw [h2];intro z;cases z) h3,h4,h5.mono e.j λ_ h=>h⟩
 | .tn _,v,⟨a,vs,h1,h2,h3⟩=>⟨a,vs,h1,gj e.j h2,h3.mono e.j λ_ h=>h⟩
 | .oo _ _,v,⟨a,h1,h2,h3,h4⟩=>⟨a,h1,h2.mono e.j e.h,e.frz a h2.ne h3,h4⟩
 | .ob _ _,v,⟨a,h1,h2⟩=>⟨a,h1,h2.mono e.j (aW.refl _)⟩
noncomputable def kh (H:Hp) (σ:L2.St) (i:Nat):List V:=match σ[i]? with
 | some (some (.ref p))=>(match H p with
  | some (.lst vs)=>vs
  | _=>[])
 | _=>[]
theorem jT {H:Hp}(h:σ[i]?=some (some (.ref p))) (h2:H p=some (.lst vs)):kh H σ i=vs:=by
 unfold kh;rw [h];show (match H p with
  | some (.lst vs)=>vs
  | _=>[])=vs
 rw [h2]
noncomputable def vI (H:Hp) (σ:L2.St) (env:Ev):Prop:=∀(i j:Nat) (xs ys:List D),i≠j->env[i]?=some (some (.ow2 xs))->env[j]?=some (some (.ow2 ys))->∀u∈kh H σ i,u∉kh H σ j
theorem oA {H:Hp}{σ:L2.St}(h:k≠i):kh H (σ.set i v) k=kh H σ k:=by unfold kh;rw [RH (Sb h)]
theorem vI.by {H H':Hp}(h:vI H σ env) (f:Nat->Nat) (hf:∀i j xs ys,i≠j->env'[i]?=some (some (.ow2 xs))->env'[j]?=some (some (.ow2 ys))->f i≠f j) (k:∀i xs,env'[i]?=some (some (.ow2 xs))->(∃xs',env[f i]?=some (some (.ow2 xs')))/\kh H' σ' i=kh H σ (f i)):vI H' σ' env':=by intro i j xs ys hij h1 h2 u hu;obtain ⟨⟨xs',k1⟩,k2⟩:=k i xs h1;obtain ⟨⟨ys',k3⟩,k4⟩:=k j ys h2;rw [k4];rw [k2] at hu;exact h (f i) (f j) xs' ys' (hf i j xs ys hij h1 h2) k1 k3 u hu
theorem vI.keep {H H':Hp}(h:vI H σ env) (k:∀i xs,env'[i]?=some (some (.ow2 xs))->(∃xs',env[i]?=some (some (.ow2 xs')))/\kh H' σ' i=kh H σ i):vI H' σ' env':=h.by id (λ_ _ _ _ h _ _=>h) k
structure SR (c:C) (J H:Hp) (σ:L2.St) (env:Ev):Prop where
 hp:HI c J H
 len:env.length=σ.length
 at_:∀(i:Nat) (x:S),env[i]?=some (some x)->∃v,σ[i]?=some (some v)/\pQ c J H x v
 sep:∀(i j:Nat) (xs ys:Mn) (v:V),i≠j->env[i]?=some (some (mS xs))->env[j]?=some (some (mS ys))->σ[i]?=some (some v)->σ[j]?≠some (some v)
 sp2:vI H σ env
theorem SR.nst {c:C}{J H:Hp}(h:SR c J H σ env) (q:env[i]?=some (some (.ow2 xs))):∃p vs,σ[i]?=some (some (.ref p))/\H p=some (.lst vs)/\J p=none/\c.H0 p=none/\NR c.K J (λb=>c.H0 b=none/\c.J0 b=none) xs vs/\kh H σ i=vs:=by obtain ⟨_,h1,p,vs,rfl,h2,h3⟩:=h.at_ i _ q;exact ⟨p,vs,h1,h2,h3.1,h3.2.1,h3.2.2,jT h1 h2⟩
theorem SR.ext {J H J' H':Hp}(h:SR c J H σ env) (e:Ext J H J' H'):SR c J' H' σ env:=
 ⟨h.hp.ext e,h.len,λi x q=>let ⟨v,q1,q2⟩:=h.at_ i x q;⟨v,q1,q2.ext e⟩,h.sep,h.sp2.keep λi xs q=>⟨⟨xs,q⟩,let ⟨_,_,h1,h2,_,_,_,h3⟩:=h.nst q;h3▸jT h1 (e.h _ _ h2)⟩⟩
theorem SR.mine {c:C}{J H:Hp}{σ:L2.St}{env:Ev}(sr:SR c J H σ env){i:Nat}:∀{x:Mn},env[i]?=some (some (mS x))->∃p,σ[i]?=some (some (.ref p))/\H p≠none/\J p=none/\c.H0 p=none
 | .inl xs,h=>let ⟨_,k1,p,vs,e,k2,k3,k4,_⟩:=sr.at_ i (.own xs) h;⟨p,e▸k1,by rw [k2];exact λz=>(by cases z),k3,k4⟩
 | .inr q,h=>let ⟨_,k1,p,e,k2,k3,k4⟩:=sr.at_ i (.dk q.1 q.2) h;⟨p,e▸k1,k2.ne,k3,k4⟩
 | .nst xs,h=>let ⟨p,vs,k1,k2,k3,k4,_⟩:=sr.nst h;⟨p,k1,by rw [k2];exact λz=>(by cases z),k3,k4⟩
 | .oo k xs,h=>let ⟨_,k1,p,e,k2,k3,k4⟩:=sr.at_ i (.oo k xs) h;⟨p,e▸k1,k2.ne,k3,k4⟩
noncomputable def RR (c:C) (He J H:Hp):R->V->Prop
 | .d x,v=>Rep c.K J x v
 | .l .fresh xs,v=>∃a vs,v=.ref a/\H a=some (.lst vs)/\J a=none/\He a=none/\aX c.K J xs vs
 | .l .own xs,v=>∃a vs,v=.ref a/\H a=some (.lst vs)/\J a=none/\c.H0 a=none/\aX c.K J xs vs
 | .l .bor xs,v=>∃a vs,v=.ref a/\c6 c.K c.H0 a vs/\aX c.K J xs vs
 | .mo ks vs,v=>∃a,v=.ref a/\gO c.K J H a ks vs/\J a=none/\c.H0 a=none
 | .mb ks vs,v=>∃a,v=.ref a/\gO c.K J c.H0 a ks vs
 | .mf ks vs,v=>∃a,v=.ref a/\gO c.K J H a ks vs/\J a=none/\He a=none
 | .ln xs,v=>∃a vs,v=.ref a/\H a=some (.lst vs)/\J a=none/\He a=none/\NR c.K J (λb=>He b=none) xs vs
 | .o .fresh k xs,v=>∃a,v=.ref a/\ie c.K J H a k xs/\J a=none/\He a=none
 | .o .own k xs,v=>∃a,v=.ref a/\ie c.K J H a k xs/\J a=none/\c.H0 a=none
 | .o .bor k xs,v=>∃a,v=.ref a/\ie c.K J c.H0 a k xs
theorem RR.ext {c:C}{He J H J' H':Hp}(e:Ext J H J' H'):∀{x:R}{v:V},RR c He J H x v->RR c He J' H' x v
 | .d x,v,h=>Rep.mono e.j h
 | .l .fresh xs,v,⟨a,vs,h1,h2,h3,h4,h5⟩=>⟨a,vs,h1,e.h _ _ h2,e.frz a (by rw [h2];intro z;cases z) h3,h4,aX.mono e.j h5⟩
 | .l .own xs,v,⟨a,vs,h1,h2,h3,h4,h5⟩=>⟨a,vs,h1,e.h _ _ h2,e.frz a (by rw [h2];intro z;cases z) h3,h4,aX.mono e.j h5⟩
 | .l .bor xs,v,⟨a,vs,h1,h2,h3⟩=>⟨a,vs,h1,h2,aX.mono e.j h3⟩
 | .mo _ _,v,⟨a,h1,h2,h3,h4⟩=>⟨a,h1,h2.mono e.j e.h,e.frz a h2.ne h3,h4⟩
 | .mb _ _,v,⟨a,h1,h2⟩=>⟨a,h1,h2.mono e.j (aW.refl _)⟩
 | .mf _ _,v,⟨a,h1,h2,h3,h4⟩=>⟨a,h1,h2.mono e.j e.h,e.frz a h2.ne h3,h4⟩
 | .ln _,v,⟨a,vs,h1,h2,h3,h4,h5⟩=>⟨a,vs,h1,e.h _ _ h2,e.frz a (by rw [h2];intro z;cases z) h3,h4,h5.mono e.j λ_ h=>h⟩
 | .o .fresh _ _,v,⟨a,h1,h2,h3,h4⟩=>⟨a,h1,h2.mono e.j e.h,e.frz a h2.ne h3,h4⟩
 | .o .own _ _,v,⟨a,h1,h2,h3,h4⟩=>⟨a,h1,h2.mono e.j e.h,e.frz a h2.ne h3,h4⟩
 | .o .bor _ _,v,⟨a,h1,h2⟩=>⟨a,h1,h2.mono e.j (aW.refl _)⟩
theorem RR.from {c:C}{He He' J H:Hp}(e:aW He He'):∀{x:R}{v:V},RR c He' J H x v->RR c He J H x v
 | .d x,v,h=>h
 | .l .fresh xs,v,⟨a,vs,h1,h2,h3,h4,h5⟩=>⟨a,vs,h1,h2,h3,e.free h4,h5⟩
 | .l .own xs,v,h=>h
 | .l .bor xs,v,h=>h
 | .mo _ _,v,h=>h
 | .mb _ _,v,h=>h
 | .mf _ _,v,⟨a,h1,h2,h3,h4⟩=>⟨a,h1,h2,h3,e.free h4⟩
 | .ln _,v,⟨a,vs,h1,h2,h3,h4,h5⟩=>⟨a,vs,h1,h2,h3,e.free h4,h5.mono (aW.refl _) λ_ h=>e.free h⟩
 | .o .fresh _ _,v,⟨a,h1,h2,h3,h4⟩=>⟨a,h1,h2,h3,e.free h4⟩
 | .o .own _ _,v,h=>h
 | .o .bor _ _,v,h=>h
noncomputable def fS:R->M (List D)
 | .d (.lst xs)=>.ok xs
 | .l _ xs=>.ok xs
 | _=>.bad
noncomputable def toD:R->M D
 | .d x=>.ok x
 | .l .fresh xs=>.ok (.lst xs)
 | .mf ks vs=>.ok (.dct ks vs)
 | .ln xs=>.ok (.lst xs)
 | .o .fresh k xs=>.ok (.ob k xs)
 | _=>.bad
theorem RR.list {c:C}{He J H:Hp}(hp:HI c J H):∀{r:R}{v:V}{xs:List D},RR c He J H r v->fS r=.ok xs->∃a vs,v=.ref a/\c6 c.K H a vs/\aX c.K J xs vs
 | .d (.lst ys),v,xs,h,e=>by
  cases e;cases h with
  | lst h hs=>exact ⟨_,_,rfl,hp.sub.seq h,hs⟩
 | .l .fresh ys,v,xs,⟨a,vs,h1,h2,h3,h4,h5⟩,e=>by cases e;exact ⟨a,vs,h1,c6.of h2,h5⟩
 | .l .own ys,v,xs,⟨a,vs,h1,h2,h3,h4,h5⟩,e=>by cases e;exact ⟨a,vs,h1,c6.of h2,h5⟩
 | .l .bor ys,v,xs,⟨a,vs,h1,h2,h3⟩,e=>by cases e;exact ⟨a,vs,h1,hp.ent.seq h2,h3⟩
 | .d .non,_,_,_,e=>nomatch e
 | .d (.bl _),_,_,_,e=>nomatch e
 | .d (.int _),_,_,_,e=>nomatch e
 | .d (.str _),_,_,_,e=>nomatch e
 | .d (.tup _),_,_,_,e=>nomatch e
 | .d .emp,_,_,_,e=>nomatch e
 | .d (.dct _ _),_,_,_,e=>nomatch e
 | .d (.ob _ _),_,_,_,e=>nomatch e
 | .mo _ _,_,_,_,e=>nomatch e
 | .mb _ _,_,_,_,e=>nomatch e
 | .mf _ _,_,_,_,e=>nomatch e
 | .ln _,_,_,_,e=>nomatch e
 | .o _ _ _,_,_,_,e=>nomatch e
theorem ow {Je He J H:Hp}(x:Ext Je He J H) (h2:H a=some o) (h3:J a=none) (h4:He a=none):Ext Je He (upd J a o) H:=by
 refine ⟨x.h,x.j.trans (cC h3 _),λb u q=>?_,λb hb q=>?_⟩
 ·by_cases hb:b=a
  ·subst hb;rw [bI] at q;cases q;exact h2
  ·rw [bh hb] at q;exact x.sub b u q
 ·have:b≠a:=λz=>hb (z▸h4);rw [bh this];exact x.frz b hb q
theorem freeze {c:C}{Je He J H:Hp}(x:Ext Je He J H):∀{r:R}{v:V}{d:D},RR c He J H r v->toD r=.ok d->∃J',Ext Je He J' H/\aW J J'/\Rep c.K J' d v
 | .d y,v,d,h,e=>by cases e;exact ⟨J,x,aW.refl J,h⟩
 | .l .fresh ys,v,d,⟨a,vs,h1,h2,h3,h4,h5⟩,e=>by cases e;subst h1;exact ⟨_,ow x h2 h3 h4,cC h3 _,.lst (.inl (.inl bI)) (aX.mono (cC h3 _) h5)⟩
 | .mf ks vs,v,d,⟨a,h1,⟨us,ws,ep,h2,m1,m2,m3⟩,h3,h4⟩,e=>by cases e;subst h1;exact ⟨_,ow x h2 h3 h4,cC h3 _,.dct bI (m1.mono (cC h3 _)) (m2.mono (cC h3 _)) m3.1 m3.2⟩
 | .ln ys,v,d,⟨a,vs,h1,h2,h3,h4,h5⟩,e=>by cases e;subst h1;exact ⟨_,ow x h2 h3 h4,cC h3 _,.lst (.inl (.inl bI)) (h5.reps.mono (cC h3 _))⟩
 | .o .fresh k ys,v,d,⟨a,h1,⟨vs,h2,h5⟩,h3,h4⟩,e=>by cases e;subst h1;obtain ⟨u,hu⟩:=h2.some;exact ⟨_,ow x hu h3 h4,cC h3 _,.ob (h2.mono λo q=>by rw [hu] at q;cases q;exact bI) (h5.mono (cC h3 _))⟩
 | .o .own _ _,_,_,_,e=>nomatch e
 | .o .bor _ _,_,_,_,e=>nomatch e
 | .l .own _,_,_,_,e=>nomatch e
 | .l .bor _,_,_,_,e=>nomatch e
 | .mo _ _,_,_,_,e=>nomatch e
 | .mb _ _,_,_,_,e=>nomatch e
noncomputable abbrev G (α:Type):=Ev->M α
noncomputable def tD (c:C) (g:G R):TE:=λσ H Q=>∃J env,SR c J H σ env/\cM (g env) (λr=>∀v J' H',Ext J H J' H'->RR c H J' H' r v->Q v H') c.T
noncomputable def PD (X:Cx) (c:C) (e:Rz) (g:G R):Prop:=PE X e (tD c g)
noncomputable def tB (c:C) (g:G Bool):TT:=λσ H Q=>∃J env,SR c J H σ env/\cM (g env) (λb=>∀J' H',Ext J H J' H'->Q b H') c.T
noncomputable def PB (X:Cx) (c:C) (e:Rz) (g:G Bool):Prop:=PT X e (tB c g)
noncomputable def kR (c:C) (He J H:Hp):List R->List V->Prop
 | [],vs=>vs=[]
 | r::rs,vs=>∃v us,vs=v::us/\RR c He J H r v/\kR c He J H rs us
noncomputable def tA (c:C) (g:G (List R)):TA:=λσ H Q=>∃J env,SR c J H σ env/\cM (g env) (λrs=>∀vs J' H',Ext J H J' H'->kR c H J' H' rs vs->Q vs H') c.T
noncomputable def yK (X:Cx) (c:C) (es:List Rz) (g:G (List R)):Prop:=PA X es (tA c g)
noncomputable def NL (c:C) (g:G (List D)):TA:=λσ H Q=>∃J env,SR c J H σ env/\cM (g env) (λds=>∀vs J' H',Ext J H J' H'->aX c.K J' ds vs->Q vs H') c.T
noncomputable def NB (X:Cx) (c:C) (es:List Rz) (g:G (List D)):Prop:=PA X es (NL c g)
inductive O where
 | nx (e:Ev) | rt (r:R) | bk (e:Ev) | ct (e:Ev)
noncomputable def RF (c:C) (J H:Hp):R->V->Prop
 | .d x,v=>Rep c.K J x v
 | .l _ xs,v=>∃a vs,v=.ref a/\H a=some (.lst vs)/\J a=none/\c.H0 a=none/\aX c.K J xs vs
 | .mf ks vs,v=>∃a,v=.ref a/\gO c.K J H a ks vs/\J a=none/\c.H0 a=none
 | .ln xs,v=>∃a vs,v=.ref a/\H a=some (.lst vs)/\J a=none/\c.H0 a=none/\NR c.K J (λb=>c.H0 b=none) xs vs
 | .o .fresh k xs,v=>∃a,v=.ref a/\ie c.K J H a k xs/\J a=none/\c.H0 a=none
 | _,_=>False
noncomputable def oP (c:C) (J:Hp) (E:Ends):O->Prop
 | .nx e=>∀σ' J' H',aW J J'->SR c J' H' σ' e->E.nx σ' H'
 | .rt r=>∀v J' H',aW J J'->HI c J' H'->RF c J' H' r v->E.rt v H'
 | .bk e=>∀σ' J' H',aW J J'->SR c J' H' σ' e->E.bk σ' H'
 | .ct e=>∀σ' J' H',aW J J'->SR c J' H' σ' e->E.ct σ' H'
noncomputable def tS (c:C) (g:G O):TS:=λE σ H=>∃J env,SR c J H σ env/\cM (g env) (oP c J E) c.T
noncomputable def IT (X:Cx) (c:C) (st:TR) (g:G O):Prop:=PS X st (tS c g)
noncomputable def Fi (X:Cx) (c:C) (st:List TR) (g:G O):Prop:=iO X st (tS c g)
theorem oP.mono {c:C}{J J1:Hp}{E:Ends}(e:aW J J1):∀{o:O},oP c J E o->oP c J1 E o
 | .nx _,h=>λσ' J' H' q r=>h σ' J' H' (e.trans q) r
 | .rt _,h=>λσ' J' H' q r=>h σ' J' H' (e.trans q) r
 | .bk _,h=>λσ' J' H' q r=>h σ' J' H' (e.trans q) r
 | .ct _,h=>λσ' J' H' q r=>h σ' J' H' (e.trans q) r
noncomputable def tW (c:C) (g:G O):TS:=λE σ H=>∃J env,SR c J H σ env/\cM (g env) (oP c c.J0 E) c.T
theorem Mt {g:G O}{E:Ends}{H:Hp}(h:tW c g E σ H):tS c g E σ H:=by obtain ⟨J,env,sr,w⟩:=h;exact ⟨J,env,sr,aC w λo q=>q.mono sr.hp.entJ⟩
theorem eE {t t':TE}(h:PE X e t) (k:∀σ H Q,t' σ H Q->t σ H Q):PE X e t':=λQw s σ H Q I q=>h Qw s σ H Q I (k σ H Q q)
theorem rJ (h:PT X e t) (k:∀σ H Q,t' σ H Q->t σ H Q):PT X e t':=λQw s σ H Q I q=>h Qw s σ H Q I (k σ H Q q)
theorem vh (h:PA X es t) (k:∀σ H Q,t' σ H Q->t σ H Q):PA X es t':=λpos Qw s σ H Q I q=>h pos Qw s σ H Q I (k σ H Q q)
theorem fZ {st:TR}{t t':TS}(h:PS X st t) (k:∀D σ H,t' D σ H->t D σ H):PS X st t':=λQw s σ H D I q=>h Qw s σ H D I (k D σ H q)
theorem nK {st:List TR}{t t':TS}(h:iO X st t) (k:∀D σ H,t' D σ H->t D σ H):iO X st t':=λQw s σ H D I q=>h Qw s σ H D I (k D σ H q)
section
variable {X:Cx}{c:C}{e a b:Rz}{ga gb:G R}{pos:Pos}
noncomputable def S.rd:S->M R
 | .d x=>.ok (.d x)
 | .own xs=>.ok (.l .own xs)
 | .bor xs=>.ok (.l .bor xs)
 | .dk ks vs=>.ok (.mo ks vs)
 | .db ks vs=>.ok (.mb ks vs)
 | .fn _=>.bad
 | .ow2 xs=>.ok (.l .own xs)
 | .tn xs=>.ok (.d (.tup xs))
 | .oo k xs=>.ok (.o .own k xs)
 | .ob k xs=>.ok (.o .bor k xs)
noncomputable def af (i:Nat):G R:=λenv=>match env[i]? with
 | some (some x)=>x.rd
 | _=>.bad
theorem Ht (h:PE X (.Name x pos) (Bb i)):PD X c (.Name x pos) (af i):=eE h λσ H Q ⟨J,env,sr,w⟩=>by
 unfold af at w;cases q:env[i]? with
 | none=>rw [q] at w;exact w.elim
 | some o=>
  cases o with
  | none=>rw [q] at w;exact w.elim
  | some x=>
   rw [q] at w;obtain ⟨v,h1,h2⟩:=sr.at_ i x q;refine ⟨v,h1,?_⟩;cases x with
   | fn _=>exact w.elim
   | ow2 _=>obtain ⟨a,vs,k1,k2,k3,k4,k5⟩:=h2;exact w v J H (Ext.refl sr.hp.sub) ⟨a,vs,k1,k2,k3,k4,k5.reps⟩
   | tn _=>obtain ⟨a,vs,rfl,k1,k2⟩:=h2;exact w (.ref a) J H (Ext.refl sr.hp.sub) (.tup k1 k2.reps)
   | _=>exact w v J H (Ext.refl sr.hp.sub) h2
noncomputable def gC (d:D):G R:=λ_=>.ok (.d d)
theorem rD (hr:∀J,Rep c.K J d v) (h:PE X e (tC v)):PD X c e (gC d):=eE h λσ H Q ⟨J,env,sr,w⟩=>w v J H (Ext.refl sr.hp.sub) (hr J)
noncomputable def BD (c:C) (r:R2) (f:R->R->M R):Prop:=∀(He He' J H:Hp) (x y:R) (u v:V) (Q:VK),HI c J H->RR c He J H x u->RR c He' J H y v->
 cM (f x y) (λz=>∀w J' H',Ext J H J' H'->RR c H J' H' z w->Q w H') c.T->r u v H Q
noncomputable def g2 (f:R->R->M R) (ga gb:G R):G R:=λenv=>ga env >>= λx=>gb env >>= λy=>f x y
theorem two {P:R->R->M R}{σ:L2.St}{H:Hp}{k:V->V->Hp->Prop}{Q:VK}{J:Hp}{env:Ev}(sr:SR c J H σ env)
  (w:cM (g2 P ga gb env) (λr=>∀v J' H',Ext J H J' H'->RR c H J' H' r v->Q v H') c.T)
  (hk:∀x y u v J2 H2,SR c J2 H2 σ env->Ext J H J2 H2->RR c H J2 H2 x u->RR c H J2 H2 y v->cM (P x y) (λz=>∀w J' H',Ext J2 H2 J' H'->RR c H2 J' H' z w->Q w H') c.T->k u v H2):
  tD c ga σ H λu H1=>tD c gb σ H1 λv H2=>k u v H2:=by refine ⟨J,env,sr,aC (aI w) λx wx u J1 H1 e1 r1=>?_⟩;have sr1:=sr.ext e1;refine ⟨J1,env,sr1,aC (aI wx) λy wy v J2 H2 e2 r2=>?_⟩;exact hk x y u v J2 H2 (sr1.ext e2) (e1.trans e2) (r1.ext e2) (RR.from e1.h r2) (aC wy λz q w J' H' e3 r3=>q w J' H' ((e1.trans e2).trans e3) (RR.from (e1.h.trans e2.h) r3))
theorem EC {t:TE}{f:R->R->M R}(ht:PE X e t) (heq:t=Dq r (tD c ga) (tD c gb)) (hf:BD c r f):PD X c e (g2 f ga gb):=by subst heq;exact eE ht λσ H Q ⟨J,env,sr,w⟩=>two (k:=λu v H2=>r u v H2 Q) sr w λx y u v J2 H2 sr2 e2 r1 r2 q=>hf H H J2 H2 x y u v Q sr2.hp r1 r2 q
theorem kq {f:R->R->M R}(ho:dH X (UN op) r) (hf:BD c r f) (ha:PD X c a ga) (hb:PD X c b gb):PD X c (.BinOp a op b pos) (g2 f ga gb):=EC (L7 ho ha hb) rfl hf
theorem nF {f:R->R->M R}(ho:dH X (SI op) r) (hf:BD c r f) (ha:PD X c a ga) (hb:PD X c b gb) (hm:R5 op b=false:=by first | exact xu _ | rfl):PD X c (.Compare a [op] [b] pos) (g2 f ga gb):=EC (Hv ho ha hb hm) rfl hf
theorem L3 {f:R->R->M R}(ho:m9 X r) (hf:BD c r f) (ha:PD X c a ga) (hb:PD X c b gb) (hs:n6 b:=by exact λ_ _=>rfl):PD X c (.Subscript a b pos) (g2 f ga gb):=EC (F1 ho ha hb hs) rfl hf
theorem BD.or {r r':R2}{f f':R->R->M R}(p:R->R->Bool) (h:BD c r f) (h':BD c r' f'):BD c (λx y H Q=>r x y H Q\/r' x y H Q) (λx y=>if p x y then f x y else f' x y):=by
 intro He He' J H x y u v Q hp rx ry w;simp only at w;cases q:p x y with
 | true=>rw [q] at w;exact .inl (h He He' J H x y u v Q hp rx ry w)
 | false=>rw [q] at w;exact .inr (h' He He' J H x y u v Q hp rx ry w)
noncomputable def fI (C:Int->Int->Bool) (f:Int->Int->D):R->R->M R
 | .d (.int i),.d (.int j)=>if C i j then .ok (.d (f i j)) else .bad
 | _,_=>.bad
noncomputable def bV (f:Int->Int->D):R->R->M R
 | .d (.int i),.d (.int j)=>.ok (.d (f i j))
 | _,_=>.bad
theorem vO {P:Int->Int->Prop}{Cb:Int->Int->Bool}{g:Int->Int->V}{f:Int->Int->D}(hC:∀i j,Cb i j=true->P i j) (hr:∀i j J,Rep c.K J (f i j) (g i j)):BD c (rI P g) (fI Cb f):=by
 intro He He' J H x y u v Q hp rx ry w;unfold fI at w;split at w
 ·cases rx;cases ry;rename_i i j;cases q:Cb i j with
  | true=>rw [q] at w;exact ⟨i,j,rfl,rfl,hC i j q,w _ J H (Ext.refl hp.sub) (hr i j J)⟩
  | false=>rw [q] at w;exact w.elim
 ·exact w.elim
theorem gY {g:Int->Int->V}{f:Int->Int->D}(hr:∀i j J,Rep c.K J (f i j) (g i j)):BD c (nO g) (bV f):=by
 intro He He' J H x y u v Q hp rx ry w;unfold bV at w;split at w
 ·cases rx;cases ry;rename_i i j;exact ⟨i,j,rfl,rfl,w _ J H (Ext.refl hp.sub) (hr i j J)⟩
 ·exact w.elim
noncomputable def below (n:Nat) (j:Int):Bool:=Nat.blt j.natAbs n
theorem eY:below n j=true↔-(n:Int) < j/\j < n:=by unfold below;rw [Nat.blt_eq];omega
noncomputable def AJ (_ j:Int):Bool:=decide (0 < j) && below 1073741824 j
noncomputable def JQ (_ j:Int):Bool:=decide (0 < j)
noncomputable def pW (i j:Int):Bool:=below 18446744073709551616 i || below 18446744073709551616 j
theorem G2 (h:pW i j=true):(-(2 ^ 64) < i/\i < 2 ^ 64)\/(-(2 ^ 64) < j/\j < 2 ^ 64):=by unfold pW at h;rw [S9] at h;exact h.imp eY.mp eY.mp
theorem G1 (h:AJ i j=true):0 < j/\j < 1073741824:=by unfold AJ at h;rw [Ra] at h;exact ⟨of_decide_eq_true h.1,(eY.mp h.2).2⟩
noncomputable def sX (i j:Int):Bool:=decide (0<=j) && below 1000001 j && below 18446744073709551616 i
theorem zj {i j:Int}(h:sX i j=true):0<=j/\j<=1000000/\i.natAbs < 2 ^ 64:=by unfold sX at h;rw [Ra,Ra] at h;have h2:=eY.mp h.1.2;have h3:=eY.mp h.2;exact ⟨of_decide_eq_true h.1.1,by omega,by omega⟩
noncomputable abbrev Jr:R->R->M R:=bV λi j=>.int (i + j)
noncomputable abbrev gP:R->R->M R:=bV λi j=>.int (i - j)
noncomputable abbrev Ju:R->R->M R:=fI pW λi j=>.int (i * j)
noncomputable abbrev cH:R->R->M R:=fI AJ λi j=>.int (i / j)
noncomputable abbrev bz:R->R->M R:=fI JQ λi j=>.int (i % j)
noncomputable abbrev jP:R->R->M R:=fI sX λi j=>.int (i ^ j.toNat)
noncomputable def Ar:R->R->M R
 | .d (.str i),.d (.str j)=>if i.length + j.length<=sizeLine then .ok (.d (.str (i++j))) else .bad
 | _,_=>.bad
theorem Ia {K:QG}{J:Hp}{ds:List D}{vs:List V}{i:Int}{d:D}(h:aX K J ds vs) (e:jN ds i=some d):∃v,jN vs i=some v/\Rep K J d v:=by
 unfold jN at e ⊢;rw [h.length] at e;cases q:wU vs.length i with
 | none=>rw [q] at e;cases e
 | some j=>rw [q] at e;exact h.get e
theorem lF {f:List D->M R}{Q:R->Prop}{T:Exc->Prop}(w:cM (fS x >>= f) Q T):∃xs,fS x=.ok xs/\cM (f xs) Q T:=by
 cases q:fS x with
 | bad=>rw [q] at w;exact w.elim
 | ok xs=>rw [q] at w;exact ⟨xs,rfl,w⟩
 | exc z=>unfold fS at q;split at q <;> cases q
noncomputable def wQ:R->Bool
 | .l .fresh _=>true
 | .l .own _=>true
 | _=>false
noncomputable def As (x y:R):M R:=if wQ x && wQ y then fS x >>= λxs=>fS y >>= λys=>if xs.length + ys.length<=sizeLine then .ok (.l .fresh (xs++ys)) else .bad else .bad
theorem RR.made {He J H:Hp}:∀{r:R}{v:V},wQ r=true->RR c He J H r v->∃a vs xs,fS r=.ok xs/\v=.ref a/\H a=some (.lst vs)/\aX c.K J xs vs
 | .l .fresh xs,v,_,⟨a,vs,h1,h2,h3,h4,h5⟩=>⟨a,vs,xs,rfl,h1,h2,h5⟩
 | .l .own xs,v,_,⟨a,vs,h1,h2,h3,h4,h5⟩=>⟨a,vs,xs,rfl,h1,h2,h5⟩
 | .l .bor _,_,e,_=>nomatch e
 | .mo _ _,_,e,_=>nomatch e
 | .mb _ _,_,e,_=>nomatch e
 | .mf _ _,_,e,_=>nomatch e
 | .ln _,_,e,_=>nomatch e
 | .o _ _ _,_,e,_=>nomatch e
 | .d _,_,e,_=>nomatch e
theorem jX {J H:Hp}(hp:HI c J H) (e:H p=none) (h:aX c.K J xs vs):RR c H J (upd H p (.lst vs)) (.l .fresh xs) (.ref p):=
 ⟨p,vs,rfl,bI,hp.sub.free e,e,h⟩
noncomputable def CD (c:C) (r:List V->Hp->VK->Prop) (f:List R->M R):Prop:=∀(He J H:Hp) (xs:List R) (vs:List V) (Q:VK),HI c J H->kR c He J H xs vs->
 cM (f xs) (λz=>∀w J' H',Ext J H J' H'->RR c H J' H' z w->Q w H') c.T->r vs H Q
noncomputable def gN (f:List R->M R) (gs:G (List R)):G R:=λenv=>gs env >>= f
theorem Ku {t:TE}{ta:TA}{r:List V->Hp->VK->Prop}{f:List R->M R}{gs:G (List R)}(ht:PE X e t) (heq:t=λσ H Q=>tA c gs σ H λvs H1=>r vs H1 Q) (hf:CD c r f):PD X c e (gN f gs):=by subst heq;refine eE ht λσ H Q ⟨J,env,sr,w⟩=>⟨J,env,sr,aC (aI w) λrs w vs J1 H1 e1 r1=>?_⟩;exact hf H J1 H1 rs vs Q (sr.hp.ext e1) r1 (aC w λz q v J' H' e2 r2=>q v J' H' (e1.trans e2) (RR.from e1.h r2))
noncomputable def ay:G (List R):=λ_=>.ok []
noncomputable def ah (g:G R) (gs:G (List R)):G (List R):=λenv=>g env >>= λx=>gs env >>= λxs=>.ok (x::xs)
theorem kR.from {He He' J H:Hp}(e:aW He He'):∀{xs:List R}{vs:List V},kR c He' J H xs vs->kR c He J H xs vs
 | [],_,h=>h
 | _::_,_,⟨v,us,h1,h2,h3⟩=>⟨v,us,h1,RR.from e h2,kR.from e h3⟩
theorem xC {id:String}{x:Str}{p:Pos}{es:List Rz}{r:List V->Hp->VK->Prop}{f:List R->M R}{gs:G (List R)}(hc:fB X (.builtin id) r) (hf:CD c r f) (hv:Sm x=some (.builtin id)) (hm:X.mg x=none) (ha:yK X c (e::es) gs)
  (hg:autoParam (Gl X x) zA._auto_1) (hn:autoParam (x≠"__name__") zB._auto_1) (hdb:autoParam ((x == ("__debug__":Str))=false) zB._auto_1)
  (he:autoParam (QY (e::es) X.env=(false,eval e X.env)::QY es X.env) zA._auto_1) (hpl:autoParam ((Tn pos (QY es X.env)).any (·.1)=false) zA._auto_1):PD X c (.Call (.Name x p) (e::es) [] pos) (gN f gs):=
 Ku (ta:=E3) (pX hc hg hm hv ha hn hdb he hpl) rfl hf
theorem nE {r:List V->Hp->VK->Prop}{f:List R->M R}{gs:G (List R)}(hc:fB X (.type T) r) (hf:CD c r f) (hv:Sm x=some (.type T)) (hm:X.mg x=none) (ha:yK X c (e::es) gs)
 (hg:autoParam (Gl X x) zA._auto_1) (hn:autoParam (x≠"__name__") zB._auto_1) (hdb:autoParam ((x == ("__debug__":Str))=false) zB._auto_1)
 (he:autoParam (QY (e::es) X.env=(false,eval e X.env)::QY es X.env) zA._auto_1) (hpl:autoParam ((Tn pos (QY es X.env)).any (·.1)=false) zA._auto_1):PD X c (.Call (.Name x p) (e::es) [] pos) (gN f gs):=
 Ku (ta:=E3) (nG hc hg hm hv ha hn hdb he hpl) rfl hf
end
section
variable {X:Cx}{c:C}{e a b:Rz}{es:List Rz}{ga gb g:G R}{pos:Pos}
noncomputable def aK:G (List D):=λ_=>.ok []
noncomputable def ao (g:G R) (gs:G (List D)):G (List D):=λenv=>g env >>= λx=>toD x >>= λd=>gs env >>= λds=>.ok (d::ds)
theorem jF {α:Type}{f:D->M α}{Q:α->Prop}{T:Exc->Prop}(w:cM (toD x >>= f) Q T):∃d,toD x=.ok d/\cM (f d) Q T:=by
 cases q:toD x with
 | bad=>rw [q] at w;exact w.elim
 | ok xs=>rw [q] at w;exact ⟨xs,rfl,w⟩
 | exc z=>unfold toD at q;split at q <;> cases q
noncomputable def b7 (gs:G (List D)):G R:=λenv=>gs env >>= λds=>if ds.length<=sizeLine then .ok (.d (.tup ds)) else .bad
noncomputable def dJ (gs:G (List D)):G R:=λenv=>gs env >>= λds=>if ds.length<=sizeLine then .ok (.l .fresh ds) else .bad
theorem lB {J H:Hp}(hp:HI c J H) (e:H p=none) (h:aX c.K J xs vs):Rep c.K (upd J p (.tup vs)) (.tup xs) (.ref p):=
 .tup (.inl (.inl bI)) (h.mono (cC (hp.sub.free e) _))
noncomputable def iP:R->M (List D)
 | .d (.tup xs)=>.ok xs
 | .d (.lst xs)=>.ok xs
 | .l _ xs=>.ok xs
 | _=>.bad
theorem kT {He J H:Hp}(hp:HI c J H):∀{r:R}{v:V}{xs:List D},RR c He J H r v->iP r=.ok xs->∃a vs,v=.ref a/\(c6 c.K H a vs\/fP c.K H a vs)/\aX c.K J xs vs
 | .d (.tup ys),v,xs,h,e=>by
  cases e;cases h with
  | tup h hs=>exact ⟨_,_,rfl,.inr (gj hp.sub h),hs⟩
 | .d (.lst ys),v,xs,h,e=>let ⟨a,vs,h1,h2,h3⟩:=RR.list hp h e;⟨a,vs,h1,.inl h2,h3⟩
 | .l m ys,v,xs,h,e=>let ⟨a,vs,h1,h2,h3⟩:=RR.list hp h e;⟨a,vs,h1,.inl h2,h3⟩
 | .d .non,_,_,_,e=>nomatch e
 | .d (.bl _),_,_,_,e=>nomatch e
 | .d (.int _),_,_,_,e=>nomatch e
 | .d (.str _),_,_,_,e=>nomatch e
 | .d .emp,_,_,_,e=>nomatch e
 | .d (.dct _ _),_,_,_,e=>nomatch e
 | .d (.ob _ _),_,_,_,e=>nomatch e
theorem jE {α:Type}{f:List D->M α}{Q:α->Prop}{T:Exc->Prop}(w:cM (iP x >>= f) Q T):∃xs,iP x=.ok xs/\cM (f xs) Q T:=by
 cases q:iP x with
 | bad=>rw [q] at w;exact w.elim
 | ok xs=>rw [q] at w;exact ⟨xs,rfl,w⟩
 | exc z=>unfold iP at q;split at q <;> cases q
noncomputable def eS:List R->M R
 | [.d (.str z)]=>if z.length<=sizeLine then .ok (.d (.int z.length)) else .bad
 | [r]=>iP r >>= λxs=>.ok (.d (.int xs.length))
 | _=>.bad
theorem kR.one {He J H:Hp}(h:kR c He J H [r] vs):∃v,vs=[v]/\RR c He J H r v:=by obtain ⟨v,us,rfl,h1,h2⟩:=h;cases h2;exact ⟨v,rfl,h1⟩
noncomputable def fG:List R->M R
 | [r]=>iP r >>= λxs=>.ok (.d (.tup xs))
 | _=>.bad
theorem oZ:Sm "tuple"=some (.type "tuple"):=by decide +kernel
theorem Al:Sm "list"=some (.type "list"):=by decide +kernel
noncomputable def oq:List R->M R
 | [r]=>iP r >>= λxs=>.ok (.l .fresh xs)
 | _=>.bad
noncomputable def aJ (g:G R):G Bool:=λenv=>g env >>= λr=>match r with
 | .d (.bl k)=>.ok k
 | _=>.bad
theorem jj {f:R->R->M R}(ho:dH X (SI op) r) (hf:BD c r f) (ha:PD X c a ga) (hb:PD X c b gb) (hm:R5 op b=false:=by first | exact xu _ | rfl):PB X c (.Compare a [op] [b] pos) (aJ (g2 f ga gb)):=
 rJ (tK ho ha hb hm) λσ H Q ⟨J,env,sr,w⟩=>by
  have w2:=aI w;refine two (k:=λu v H2=>r u v H2 λz H3=>∃k,z=.bl k/\Q k H3) (Q:=λz H3=>∃k,z=.bl k/\Q k H3) sr (aC w2 λr0 wr v J1 H1 e1 r1=>?_)
   λx y u v J2 H2 sr2 e2 r1 r2 q=>hf H H J2 H2 x y u v _ sr2.hp r1 r2 q
  split at wr
  ·cases r1;exact ⟨_,rfl,wr J1 H1 e1⟩
  ·exact wr.elim
noncomputable def bQ (g h:G Bool):G Bool:=λenv=>g env >>= λk=>if k=true then h env else .ok false
noncomputable def bW (g h:G Bool):G Bool:=λenv=>g env >>= λk=>if k=true then .ok true else h env
noncomputable def bH (g:G Bool):G Bool:=λenv=>g env >>= λk=>.ok (!k)
noncomputable def NC (X:Cx) (c:C) (e:Rz) (g:G Bool):Prop:=PW X e (tB c g)
variable {t u:G Bool}{rest:List Rz}
theorem F6 {X:Cx}{e:Rz}{t t':TT}(h:PW X e t) (k:∀σ H Q,t' σ H Q->t σ H Q):PW X e t':=λwh Qw s σ H Q I q=>h wh Qw s σ H Q I (k σ H Q q)
noncomputable def bB (g h:G R):G R:=λenv=>g env >>= λr=>match r with
 | .d (.bl true)=>h env
 | .d (.bl false)=>.ok (.d (.bl false))
 | _=>.bad
noncomputable def bG (g:G R):G R:=λenv=>g env >>= λr=>match r with
 | .d (.bl k)=>.ok (.d (.bl (!k)))
 | _=>.bad
noncomputable def MG (t:G Bool) (g h:G R):G R:=λenv=>t env >>= λk=>if k=true then g env else h env
end
section
variable {X:Cx}{c:C}{e a b tg:Rz}{es:List Rz}{ga gb g:G R}{pos:Pos}{st:TR}{rest:List TR}{t u:G O}{tb:G Bool}
noncomputable def bf:G O:=λenv=>.ok (.nx env)
noncomputable def au (t u:G O):G O:=λenv=>t env >>= λo=>match o with
 | .nx e=>u e
 | o=>.ok o
noncomputable def FL:G O:=λenv=>.ok (.bk env)
noncomputable def rF:R->M R
 | .d x=>.ok (.d x)
 | .l .fresh xs=>.ok (.l .fresh xs)
 | .l .own xs=>.ok (.l .fresh xs)
 | .l .bor _=>.bad
 | .mo ks vs=>.ok (.mf ks vs)
 | .mf ks vs=>.ok (.mf ks vs)
 | .mb _ _=>.bad
 | .ln xs=>.ok (.ln xs)
 | .o .fresh k xs=>.ok (.o .fresh k xs)
 | .o .own k xs=>.ok (.o .fresh k xs)
 | .o .bor _ _=>.bad
noncomputable def aL (g:G R):G O:=λenv=>g env >>= λr=>rF r >>= λr=>.ok (.rt r)
theorem RR.rf {J H J1 H1:Hp}(hp:HI c J H):∀{r r':R}{v:V},RR c H J1 H1 r v->rF r=.ok r'->RF c J1 H1 r' v
 | .d x,r',v,h,e=>by cases e;exact h
 | .l .fresh xs,r',v,⟨a,vs,h1,h2,h3,h4,h5⟩,e=>by cases e;exact ⟨a,vs,h1,h2,h3,hp.ent.free h4,h5⟩
 | .l .own xs,r',v,⟨a,vs,h1,h2,h3,h4,h5⟩,e=>by cases e;exact ⟨a,vs,h1,h2,h3,h4,h5⟩
 | .l .bor _,_,_,_,e=>nomatch e
 | .mo _ _,_,v,⟨a,h1,h2,h3,h4⟩,e=>by cases e;exact ⟨a,h1,h2,h3,h4⟩
 | .mb _ _,_,_,_,e=>nomatch e
 | .mf _ _,_,v,⟨a,h1,h2,h3,h4⟩,e=>by cases e;exact ⟨a,h1,h2,h3,hp.ent.free h4⟩
 | .ln _,_,v,⟨a,vs,h1,h2,h3,h4,h5⟩,e=>by cases e;exact ⟨a,vs,h1,h2,h3,hp.ent.free h4,h5.mono (aW.refl _) λ_ h=>hp.ent.free h⟩
 | .o .fresh _ _,_,v,⟨a,h1,h2,h3,h4⟩,e=>by cases e;exact ⟨a,h1,h2,h3,hp.ent.free h4⟩
 | .o .own _ _,_,v,⟨a,h1,h2,h3,h4⟩,e=>by cases e;exact ⟨a,h1,h2,h3,h4⟩
 | .o .bor _ _,_,_,_,e=>nomatch e
noncomputable def aG (b:G Bool) (t u:G O):G O:=λenv=>b env >>= λk=>if k=true then t env else u env
noncomputable def toS:R->M S
 | .d x=>.ok (.d x)
 | .l .fresh xs=>.ok (.own xs)
 | .l .bor xs=>.ok (.bor xs)
 | .l .own _=>.bad
 | .mb ks vs=>.ok (.db ks vs)
 | .mf ks vs=>.ok (.dk ks vs)
 | .mo _ _=>.bad
 | .ln xs=>.ok (.ow2 xs)
 | .o .fresh k xs=>.ok (.oo k xs)
 | .o .bor k xs=>.ok (.ob k xs)
 | .o .own _ _=>.bad
theorem dY {α:Type}{l:List (Option α)}{i j:Nat}{x y:α}(h:(l.set i (some x))[j]?=some (some y)):(j=i/\i < l.length/\y=x)\/(j≠i/\l[j]?=some (some y)):=by
 by_cases e:j=i
 ·subst e;have hj:j < l.length:=by have:=(Rt.mp h).1;simpa using this
  rw [RV hj] at h;cases h;exact .inl ⟨rfl,hj,rfl⟩
 ·rw [RH (Sb e)] at h;exact .inr ⟨e,h⟩
theorem SR.setD {J H:Hp}{σ:L2.St}{env:Ev}(sr:SR c J H σ env){i:Nat}{x:S}{v:V}(h:pQ c J H x v) (hx:∀xs,x≠mS xs):SR c J H (σ.set i (some v)) (env.set i (some x)):=by
 refine ⟨sr.hp,by simpa using sr.len,λj y q=>?_,λj k xs ys w hjk q1 q2 q3 q4=>?_,sr.sp2.keep λk xs q=>?_⟩
 ·rcases dY q with ⟨rfl,hl,rfl⟩ | ⟨hj,q⟩
  ·exact ⟨v,by rw [RV (by rw [<-sr.len];exact hl)],h⟩
  ·obtain ⟨w,h1,h2⟩:=sr.at_ j y q;exact ⟨w,by rw [RH (Sb hj)];exact h1,h2⟩
 ·rcases dY q1 with ⟨rfl,hl,e⟩ | ⟨hj,q1⟩
  ·exact hx xs e.symm
  ·rcases dY q2 with ⟨rfl,hl,e⟩ | ⟨hk,q2⟩
   ·exact hx ys e.symm
   ·rw [RH (Sb hj)] at q3;rw [RH (Sb hk)] at q4;exact sr.sep j k xs ys w hjk q1 q2 q3 q4
 ·rcases dY q with ⟨_,_,e⟩ | ⟨hk,q⟩
  ·exact (hx (.nst xs) e.symm).elim
  ·exact ⟨⟨xs,q⟩,oA hk⟩
theorem SR.setM {J He:Hp}{σ:L2.St}{env:Ev}(sr:SR c J He σ env){J1 H1:Hp}(e1:Ext J He J1 H1){i:Nat}{y:Mn}{p:Q4}(h3:He p=none) (h:pQ c J1 H1 (mS y) (.ref p)) (hn:∀xs,y=.nst xs->∀vs,H1 p=some (.lst vs)->∀u∈vs,∃b,u=.ref b/\He b=none:=by exact λ_ z=>nomatch z):SR c J1 H1 (σ.set i (some (.ref p))) (env.set i (some (mS y))):=by
 have sr1:=sr.ext e1;have old:∀(j:Nat) (ys:Mn),env[j]?=some (some (mS ys))->σ[j]?≠some (some (.ref p)):=λj ys qj z=>by obtain ⟨a,k1,k2,_⟩:=sr.mine qj;rw [z] at k1;cases k1;exact k2 h3
 have new:∀(j:Nat) (xs ys:List D),i < env.length->j≠i->mS y=.ow2 xs->env[j]?=some (some (.ow2 ys))->∀u∈kh H1 (σ.set i (some (.ref p))) i,u∉kh H1 (σ.set i (some (.ref p))) j:=λj xs ys hl hj e q u hu hv=>by
  have hy:y=.nst xs:=by cases y <;> cases e;rfl
  subst hy;obtain ⟨_,vs,rfl',k2,_⟩:=h;cases rfl';rw [jT (RV (by rw [<-sr.len];exact hl)) k2] at hu;obtain ⟨b,rfl,hb⟩:=hn xs rfl vs k2 u hu;obtain ⟨p',ws,m1,m2,_,_,m3,m4⟩:=sr.nst q;rw [oA hj,jT m1 (e1.h _ _ m2)] at hv;obtain ⟨b',_,e',m5,_⟩:=m3.mem hv;cases e';rw [sr.hp.sub _ _ m5] at hb;cases hb
 refine ⟨sr1.hp,by simpa using sr.len,λj y q=>?_,λj k ys zs w hjk q1 q2 q3 q4=>?_,λj k ys zs hjk q1 q2 u hu=>?_⟩
 ·rcases dY q with ⟨rfl,hl,rfl⟩ | ⟨hj,q⟩
  ·exact ⟨.ref p,by rw [RV (by rw [<-sr.len];exact hl)],h⟩
  ·obtain ⟨w,k1,k2⟩:=sr1.at_ j y q;exact ⟨w,by rw [RH (Sb hj)];exact k1,k2⟩
 ·rcases dY q1 with ⟨rfl,hl,e⟩ | ⟨hj,q1'⟩
  ·rcases dY q2 with ⟨rfl,_,_⟩ | ⟨hk,q2⟩
   ·exact hjk rfl
   ·rw [RV (by rw [<-sr.len];exact hl)] at q3;cases q3;rw [RH (Sb hk)] at q4;exact old k zs q2 q4
  ·rw [RH (Sb hj)] at q3;rcases dY q2 with ⟨rfl,hl,e⟩ | ⟨hk,q2⟩
   ·rw [RV (by rw [<-sr.len];exact hl)] at q4;cases q4;exact old j ys q1' q3
   ·rw [RH (Sb hk)] at q4;exact sr.sep j k ys zs w hjk q1' q2 q3 q4
 ·rcases dY q1 with ⟨rfl,hl,e⟩ | ⟨hj,q1'⟩
  ·rcases dY q2 with ⟨rfl,_,_⟩ | ⟨hk,q2⟩
   ·exact (hjk rfl).elim
   ·exact new k ys zs hl hk e.symm q2 u hu
  ·rcases dY q2 with ⟨rfl,hl,e⟩ | ⟨hk,q2⟩
   ·exact λhv=>new j zs ys hl hj e.symm q1' u hv hu
   ·rw [oA hj] at hu;rw [oA hk];exact sr1.sp2 j k ys zs hjk q1' q2 u hu
theorem SR.set {J He:Hp}{σ:L2.St}{env:Ev}(sr:SR c J He σ env){J1 H1:Hp}(e1:Ext J He J1 H1) (h:RR c He J1 H1 r v) (q:toS r=.ok x):SR c J1 H1 (σ.set i (some v)) (env.set i (some x)):=by
 have sr1:=sr.ext e1;cases r with
 | d y=>cases q;exact sr1.setD h (λx z=>by cases x <;> cases z)
 | mb _ _=>cases q;exact sr1.setD h (λx z=>by cases x <;> cases z)
 | mf ks vs=>cases q;obtain ⟨p,rfl,h1,h2,h3⟩:=h;exact sr.setM (y:=.inr (ks,vs)) e1 h3 ⟨p,rfl,h1,h2,sr.hp.ent.free h3⟩
 | mo _ _=>cases q
 | ln xs=>
  cases q;obtain ⟨p,vs,rfl,h1,h2,h3,h4⟩:=h;refine sr.setM (y:=.nst xs) e1 h3 ⟨p,vs,rfl,h1,h2,sr.hp.ent.free h3,h4.mono (aW.refl _) λb hb=>⟨sr.hp.ent.free hb,sr.hp.entJ.free (sr.hp.sub.free hb)⟩⟩ λ_ _ ws q u hu=>?_;rw [h1] at q;cases q;obtain ⟨b,_,e,_,hb⟩:=h4.mem hu;exact ⟨b,e,hb⟩
 | o m k xs=>
  cases m with
  | own=>cases q
  | bor=>cases q;exact sr1.setD h (λx z=>by cases x <;> cases z)
  | fresh=>cases q;obtain ⟨p,rfl,h1,h2,h3⟩:=h;exact sr.setM (y:=.oo k xs) e1 h3 ⟨p,rfl,h1,h2,sr.hp.ent.free h3⟩
 | l m xs=>
  cases m with
  | own=>cases q
  | bor=>cases q;exact sr1.setD h (λx z=>by cases x <;> cases z)
  | fresh=>
   cases q;obtain ⟨p,vs,rfl,h1,h2,h3,h4⟩:=h;exact sr.setM (y:=.inl xs) e1 h3 ⟨p,vs,rfl,h1,h2,sr.hp.ent.free h3,h4⟩
theorem tV {α:Type}{f:S->M α}{Q:α->Prop}{T:Exc->Prop}(w:cM (toS x >>= f) Q T):∃d,toS x=.ok d/\cM (f d) Q T:=by
 cases q:toS x with
 | bad=>rw [q] at w;exact w.elim
 | ok xs=>rw [q] at w;exact ⟨xs,rfl,w⟩
 | exc z=>unfold toS at q;split at q <;> cases q
noncomputable def aO (i:Nat) (g:G R):G O:=λenv=>g env >>= λr=>toS r >>= λx=>.ok (.nx (env.set i (some x)))
noncomputable abbrev GT:=D->Ev->M Ev
noncomputable def KO (env:Ev) (σ:L2.St) (e:Ev) (σ':L2.St):Prop:=∀(j:Nat) (xs:Mn),e[j]?=some (some (mS xs))->env[j]?=some (some (mS xs))/\σ'[j]?=σ[j]?
theorem KO.refl:KO env σ env σ:=λ_ _ h=>⟨h,rfl⟩
theorem KO.trans (a:KO env σ e1 s1) (b:KO e1 s1 e2 s2):KO env σ e2 s2:=λj xs h=>by obtain ⟨h1,h2⟩:=b j xs h;obtain ⟨h3,h4⟩:=a j xs h1;exact ⟨h3,h2.trans h4⟩
noncomputable def tT (c:C) (g:GT):TG:=λv σ H Q=>∃J env d,SR c J H σ env/\Rep c.K J d v/\cM (g d env) (λe=>∀σ',SR c J H σ' e->KO env σ e σ'->Q σ' H) c.T
noncomputable def Bs (X:Cx) (c:C) (tg:Rz) (g:GT):Prop:=PG X tg (tT c g)
noncomputable abbrev qp:=List D->Ev->M Ev
noncomputable def NT (c:C) (g:qp):tY:=λvs σ H Q=>∃J env ds,SR c J H σ env/\aX c.K J ds vs/\cM (g ds env) (λe=>∀σ',SR c J H σ' e->KO env σ e σ'->Q σ' H) c.T
noncomputable def MR (X:Cx) (c:C) (tgs:List Rz) (g:qp):Prop:=vG X tgs (NT c g)
theorem F3 {t t':TG}(h:PG X e t) (k:∀v σ H Q,t' v σ H Q->t v σ H Q):PG X e t':=λQw s σ H v u Q I r q=>h Qw s σ H v u Q I r (k v σ H Q q)
theorem CL {X:Cx}{e:List Rz}{t t':tY}(h:vG X e t) (k:∀v σ H Q,t' v σ H Q->t v σ H Q):vG X e t':=λQw s σ H vs us Q I r q=>h Qw s σ H vs us Q I r (k vs σ H Q q)
noncomputable def aF (i:Nat):GT:=λd env=>.ok (env.set i (some (.d d)))
noncomputable def h_:qp:=λds env=>match ds with
 | []=>.ok env
 | _=>.bad
noncomputable def cV (t:GT) (u:qp):qp:=λds env=>match ds with
 | d::r=>t d env >>= λe=>u r e
 | []=>.bad
noncomputable def gJ (n:Nat) (u:qp):GT:=λd env=>match d with
 | .tup ds=>if ds.length=n then u ds env else .bad
 | _=>.bad
noncomputable def pV (t:GT) (g:G R):G O:=λenv=>g env >>= λr=>toD r >>= λd=>t d env >>= λe=>.ok (.nx e)
theorem Hl {t:GT}(h:PD X c e g) (ht:Bs X c tg t)
  (hq:PS X (.Assign [tg] e pos) (E2 (tD c g) (tT c t))):IT X c (.Assign [tg] e pos) (pV t g):=fZ hq λE σ H ⟨J,env,sr,w⟩=>by refine ⟨J,env,sr,aC (aI w) λr wr v J1 H1 e1 r1=>?_⟩;obtain ⟨d,q,wr⟩:=jF wr;obtain ⟨J1',e1',s1,rd⟩:=freeze e1 r1 q;refine ⟨J1',env,d,sr.ext e1',rd,aC (aI wr) λe2 w2 σ' sr' _=>?_⟩;exact w2 σ' J1' H1 e1'.j sr'
noncomputable def Walk (c:C) (It:It) (ds:List D) (J1:Hp) (U:Hp->Hp->Prop):Prop:=∀(i:Nat) (J H:Hp),HI c J H->U J H->
 (ds.length<=i->It.stop i H)/\∀d,ds[i]?=some d->It.go i H/\∀x H2,It.yld i H x H2->∃J2,Ext J H J2 H2/\Rep c.K J2 d x
noncomputable def tI (c:C) (g:G (List D)):TI:=λσ H Q=>∃J env,SR c J H σ env/\cM (g env) (λds=>∀It J1 H1,Ext J H J1 H1->Walk c It ds J1 (λJ' _=>aW J1 J')->Q It H1) c.T
noncomputable def MD (X:Cx) (c:C) (tg Qz:Rz) (g:G (List D)):Prop:=PI X tg Qz (tI c g)
theorem vj {X:Cx}{tg it:Rz}{t t':TI}(h:PI X tg it t) (k:∀σ H Q,t' σ H Q->t σ H Q):PI X tg it t':=λQw s σ H Q I q=>h Qw s σ H Q I (k σ H Q q)
noncomputable def dj (t:GT) (u:G O):List D->Ev->M O
 | [],env=>.ok (.nx env)
 | d::ds,env=>t d env >>= λe=>u e >>= λo=>match o with
  | .nx e=>dj t u ds e
  | .ct e=>dj t u ds e
  | .bk e=>.ok (.nx e)
  | .rt r=>.ok (.rt r)
noncomputable def dW (g:G (List D)) (t:GT) (u:G O):G O:=λenv=>g env >>= λds=>dj t u ds env
noncomputable def NZ (g:G R):G (List D):=λenv=>g env >>= λr=>match r with
 | .d (.tup xs)=>.ok xs
 | _=>.bad
theorem nZ {J1:Hp}{a:Q4}{vs:List V}{ds:List D}(h:c6 c.K J1 a vs\/c6 c.K c.H0 a vs) (hs:aX c.K J1 ds vs):Walk c (E_ c.K a) ds J1 (λJ' _=>aW J1 J'):=by intro i J H hp u;have h':c6 c.K H a vs:=h.elim (λh=>hp.sub.seq (u.seq h)) λh=>hp.ent.seq h;refine ⟨λhl=>⟨vs,h',by rw [<-hs.length];exact hl⟩,λd hd=>?_⟩;obtain ⟨v,h1,h2⟩:=hs.get hd;refine ⟨⟨vs,v,h',h1⟩,λx H2 ⟨e,hy⟩=>?_⟩;subst e;have:=hy vs h';rw [h1] at this;cases this;exact ⟨J,Ext.refl hp.sub,h2.mono u⟩
noncomputable def eT (lo:Int) (n:Nat):List D:=(QX n).map λ(k:Nat)=>.int (lo + (k:Int))
theorem Bh {J1:Hp}{lo:Int}{n:Nat}{Ut:Hp->Hp->Prop}:Walk c (Fb lo n) (eT lo n) J1 Ut:=by
 intro i J H hp u;refine ⟨λhl=>(show n<=i by simpa [eT] using hl),λd hd=>?_⟩;have hi:i < n:=by have:=(Rt.mp hd).1;simpa [eT] using this
 have hd':d=.int (lo + i):=by unfold eT at hd;rw [Rh,VU hi] at hd;exact (RP hd).symm
 subst hd';exact ⟨hi,λx H2 ⟨e,hx⟩=>by subst e hx;exact ⟨J,Ext.refl hp.sub,.int _⟩⟩
noncomputable def dz (gs:G (List R)):G (List D):=λenv=>gs env >>= λrs=>match rs with
 | [.d (.int j)]=>if below 4611686018427387904 j then .ok (eT 0 j.toNat) else .bad
 | _=>.bad
noncomputable def NO (c:C) (g:G (List D)):TI:=λσ H Q=>∃J env,SR c J H σ env/\cM (g env) (λds=>∀It J1 H1,Ext J H J1 H1->Walk c It ds J1 (λJ' H'=>aW J1 J'/\aW H1 H')->Q It H1) c.T
noncomputable def MC (X:Cx) (c:C) (tg Qz:Rz) (g:G (List D)):Prop:=PI X tg Qz (NO c g)
end
section
variable {X:Cx}{c:C}{e a b tg:Rz}{es:List Rz}{ga gb g:G R}{pos:Pos}
theorem SR.updM {J H:Hp}{σ:L2.St}{env:Ev}(sr:SR c J H σ env){i:Nat}{x y:Mn}{p:Q4}{o:HO}(hi:env[i]?=some (some (mS x))) (hs:σ[i]?=some (some (.ref p))) (hJ:J p=none) (h0:c.H0 p=none)
  (h:pQ c J (L2.upd H p o) (mS y) (.ref p)) (hy:∀xs,y≠.nst xs:=by exact λ_ z=>nomatch z):SR c J (L2.upd H p o) σ (env.set i (some (mS y))):=by
 refine ⟨⟨λb o q=>?_,λb o q=>?_,sr.hp.entJ,sr.hp.frz⟩,by simpa using sr.len,λj y q=>?_,λj k ys zs w hjk q1 q2 q3 q4=>?_,sr.sp2.keep λk xs q=>?_⟩
 ·have:b≠p:=λz=>by rw [z,hJ] at q;cases q
  rw [bh this];exact sr.hp.sub b o q
 ·have:b≠p:=λz=>by rw [z,h0] at q;cases q
  rw [bh this];exact sr.hp.ent b o q
 ·rcases dY q with ⟨rfl,hl,rfl⟩ | ⟨hj,q⟩
  ·exact ⟨.ref p,hs,h⟩
  ·obtain ⟨w,k1,k2⟩:=sr.at_ j y q;refine ⟨w,k1,?_⟩;have hne:∀(z:Mn) p',y=mS z->w=.ref p'->p'≠p:=λz p' e ew ep=>sr.sep i j x z (.ref p) (Sb hj) hi (e▸q) hs (ep▸ew▸k1);cases y with
   | d x=>exact k2
   | bor zs=>exact k2
   | db _ _=>exact k2
   | fn _=>exact k2
   | tn _=>exact k2
   | ob _ _=>exact k2
   | dk ks zs=>
    obtain ⟨p',rfl,⟨us,ws,ep,m1,mr⟩,m2⟩:=k2;exact ⟨p',rfl,⟨us,ws,ep,by rw [bh (hne (.inr (ks,zs)) p' rfl rfl)];exact m1,mr⟩,m2⟩
   | oo k zs=>
    obtain ⟨p',rfl,⟨ws,m1,mr⟩,m2⟩:=k2;exact ⟨p',rfl,⟨ws,m1.mono λo q=>by rw [bh (hne (.oo k zs) p' rfl rfl)];exact q,mr⟩,m2⟩
   | own zs=>
    obtain ⟨p',us,rfl,m1,m2,m3,m4⟩:=k2;exact ⟨p',us,rfl,by rw [bh (hne (.inl zs) p' rfl rfl)];exact m1,m2,m3,m4⟩
   | ow2 zs=>
    obtain ⟨p',us,rfl,m1,m2,m3,m4⟩:=k2;exact ⟨p',us,rfl,by rw [bh (hne (.nst zs) p' rfl rfl)];exact m1,m2,m3,m4⟩
 ·have f:∀(k:Nat) (ys:Mn),(env.set i (some (mS y)))[k]?=some (some (mS ys))->∃ys',env[k]?=some (some (mS ys')):=λk ys q=>by
   rcases dY q with ⟨rfl,_,_⟩ | ⟨_,q⟩
   ·exact ⟨x,hi⟩
   ·exact ⟨ys,q⟩
  obtain ⟨ys',r1⟩:=f j ys q1;obtain ⟨zs',r2⟩:=f k zs q2;exact sr.sep j k ys' zs' w hjk r1 r2 q3 q4
 ·rcases dY q with ⟨rfl,_,e⟩ | ⟨hk,q⟩
  ·exact (hy xs (by cases y <;> cases e;rfl)).elim
  ·obtain ⟨p',vs,m1,m2,_,_,_,m3⟩:=sr.nst q;have hne:p'≠p:=λe=>sr.sep i k x (.nst xs) (.ref p) (Sb hk) hi q hs (e▸m1);exact ⟨⟨xs,q⟩,(jT m1 (by rw [bh hne];exact m2)).trans m3.symm⟩
theorem SR.upd {J H:Hp}{env:Ev}(sr:SR c J H σ env) (hi:env[i]?=some (some (.own xs))) (hs:σ[i]?=some (some (.ref p))) (hH:H p=some (.lst vs)) (hJ:J p=none) (h0:c.H0 p=none)
 (h:aX c.K J xs' vs'):SR c J (L2.upd H p (.lst vs')) σ (env.set i (some (.own xs'))):=sr.updM (x:=.inl xs) (y:=.inl xs') hi hs hJ h0 ⟨p,vs',rfl,bI,hJ,h0,h⟩
noncomputable def dR (i:Nat) (g:G R):G O:=λenv=>match env[i]? with
 | some (some (.own xs))=>g env >>= λr=>toD r >>= λd=>if xs.length < sizeLine then .ok (.nx (env.set i (some (.own (xs++[d]))))) else .bad
 | _=>.bad
noncomputable def bO:R->S
 | .d x=>.d x
 | .l _ xs=>.bor xs
 | .mo ks vs=>.db ks vs
 | .mb ks vs=>.db ks vs
 | .mf ks vs=>.db ks vs
 | .ln xs=>.bor xs
 | .o _ k xs=>.ob k xs
noncomputable def ia (K:QG) (J H:Hp):List S->List V->Prop
 | [],vs=>vs=[]
 | s::ss,vs=>∃v us,vs=v::us/\(match s with
  | .d x=>Rep K J x v
  | .bor xs=>∃a ws,v=.ref a/\c6 K H a ws/\aX K J xs ws
  | .db ks ws=>∃a,v=.ref a/\gO K J H a ks ws
  | .ob k xs=>∃a,v=.ref a/\ie K J H a k xs
  | .fn x=>∃f,v=.ref f/\Rn K Q_ x=some (some (.ref f))
  | _=>False)/\ia K J H ss us
theorem ia.length {K:QG}{J H:Hp}:∀{ss:List S}{vs:List V},ia K J H ss vs->vs.length=ss.length
 | [],_,h=>by cases h;rfl
 | _::_,_,⟨_,_,h,_,h2⟩=>by subst h;exact congrArg (· + 1) h2.length
theorem ia.get {K:QG}{J H:Hp}:∀{ss:List S}{vs:List V}{i:Nat}{s:S},ia K J H ss vs->ss[i]?=some s->∃v,vs[i]?=some v/\(match s with
  | .d x=>Rep K J x v
  | .bor xs=>∃a ws,v=.ref a/\c6 K H a ws/\aX K J xs ws
  | .db ks ws=>∃a,v=.ref a/\gO K J H a ks ws
  | .ob k xs=>∃a,v=.ref a/\ie K J H a k xs
  | .fn x=>∃f,v=.ref f/\Rn K Q_ x=some (some (.ref f))
  | _=>False)
 | [],_,_,_,_,e=>by simp at e
 | _::_,_,0,_,⟨v,us,h,h1,h2⟩,e=>by simp at e;subst e;subst h;exact ⟨v,rfl,h1⟩
 | _::_,_,i + 1,s,⟨v,us,h,h1,h2⟩,e=>by subst h;obtain ⟨v,k1,k2⟩:=ia.get (i:=i) (s:=s) h2 (by simpa using e);exact ⟨v,by simpa using k1,k2⟩
noncomputable def FR (K:QG) (H J' H':Hp):R->V->Prop
 | .d x,v=>Rep K J' x v
 | .l _ xs,v=>∃a vs,v=.ref a/\H' a=some (.lst vs)/\J' a=none/\H a=none/\aX K J' xs vs
 | .mf ks vs,v=>∃a,v=.ref a/\gO K J' H' a ks vs/\J' a=none/\H a=none
 | .ln xs,v=>∃a vs,v=.ref a/\H' a=some (.lst vs)/\J' a=none/\H a=none/\NR K J' (λb=>H b=none) xs vs
 | .o .fresh k xs,v=>∃a,v=.ref a/\ie K J' H' a k xs/\J' a=none/\H a=none
 | _,_=>False
noncomputable def mW (K:QG) (n:Nat) (F:List S->M R):Sp:=λvs H Q _=>∃J as,aW J H/\as.length=n/\ia K J H as vs/\cM (F as) (λr=>∀v J' H',Ext J H J' H'->FR K H J' H' r v->Q v H') (λ_=>False)
noncomputable def fin:M O->M R
 | .ok (.rt r)=>.ok r
 | .ok (.nx _)=>.ok (.d .non)
 | .exc x=>.exc x
 | _=>.bad
noncomputable def aD (N:List Str) (as:List S):Ev:=as.map some++Rw (N.length - as.length) none
theorem nV {N:List Str}{as:List S}{i:Nat}{x:S}(h:(aD N as)[i]?=some (some x)):as[i]?=some x:=by
 unfold aD at h;by_cases hi:i < as.length
 ·rw [SY (by simpa using hi),Rh] at h;cases q:as[i]? with
  | none=>rw [q] at h;cases h
  | some y=>rw [q] at h;cases h;rfl
 ·rw [Sk (by simpa using hi),U1] at h;split at h <;> cases h
theorem mj {N:List Str}{vs:List V}{i:Nat}{v:V}(h:vs[i]?=some v):(L2.start N vs)[i]?=some (some v):=by unfold L2.start;have hi:i < vs.length:=(Rt.mp h).1;rw [SY (by simpa using hi),Rh,h];rfl
theorem xX {K:QG}{J H:Hp}{T:Exc->Prop}{N:List Str}{as:List S}{vs:List V}(hs:aW J H) (h:ia K J H as vs):SR ⟨K,H,J,T⟩ J H (L2.start N vs) (aD N as):=by
 have own:∀(i:Nat) (xs:Mn),(aD N as)[i]?≠some (some (mS xs)):=λi xs q=>by obtain ⟨v,_,k⟩:=h.get (nV q);cases xs <;> exact k
 refine ⟨⟨hs,aW.refl H,aW.refl J,λ_ _ q=>q⟩,?_,λi x q=>?_,λi j xs ys v _ q=>absurd q (own i xs),λi j xs ys _ q=>absurd q (own i (.nst xs))⟩
 ·unfold aD L2.start;rw [QU,QU,QN,QN,RC,RC,h.length]
 ·obtain ⟨v,k1,k2⟩:=h.get (nV q);refine ⟨v,mj k1,?_⟩;cases x with
  | d y=>exact k2
  | own y=>exact k2.elim
  | bor y=>exact k2
  | dk _ _=>exact k2.elim
  | db _ _=>exact k2
  | fn _=>exact k2
  | ow2 _=>exact k2.elim
  | tn _=>exact k2.elim
  | oo _ _=>exact k2.elim
  | ob _ _=>exact k2
noncomputable abbrev qE (P:Q2) (w:Ro) (K:QG) (mg:Str->Option QH) (base:Sa) (N:List Str) (QA:Str) (sc:Uo) (f:Q4) (cd:QH) (A:RA) (outer:List Env) (s:QL) (H:Hp) (E:XK):Cx:=(nj jH P w K mg base N QA sc f cd A outer s H E).nox
theorem Jx {P:Q2}{w:Ro}{K:QG}{mg:Str->Option QH}{base:Sa}{x QA:Str}{st:TR}{f:Q4}{fd:Rp}{N ps:List Str}{k:Nat}{Fm:List S->M R}(F:fF K x QA st f fd) (Sc:cJ N ps (aN st)){gB:G O}
  (hb:∀(cdv:QH) (A:RA) (outer:List Env) (s:QL) (H:Hp) (E:XK) (J:Hp) (T:Exc->Prop),cR k (A.deeper (Va QA (aN st) s.heap.objs.size f cdv))->
   iO (qE P w K mg base N QA (aN st) f cdv A outer s H E) (bM st) (tW ⟨K,H,J,T⟩ gB))
  (hF:∀as r,as.length=ps.length->Fm as=.ok r->fin (gB (aD N as))=.ok r):eG P w K mg base jH (k + 1) f fd ps (mW K ps.length Fm):=by
 refine F.ok Sc (λvs H Q E h=>?_) (λcdv A outer s H vs Q E hr h=>?_)
 ·obtain ⟨J,as,h1,h2,h3,h4⟩:=h;rw [h3.length,h2]
 ·obtain ⟨J,as,h1,h2,h3,h4⟩:=h;refine ⟨_,hb cdv A outer s H E J (λ_=>False) hr,J,aD N as,xX h1 h3,?_⟩;cases q:Fm as with
  | bad=>rw [q] at h4;exact h4.elim
  | exc x=>rw [q] at h4;exact h4.elim
  | ok r=>
   rw [q] at h4;have z:=hF as r h2 q;have ext:∀{J' H':Hp},HI ⟨K,H,J,λ_=>False⟩ J' H'->Ext J H J' H':=λhp=>⟨hp.ent,hp.entJ,hp.sub,hp.frz⟩;cases qg:gB (aD N as) with
   | bad=>rw [qg] at z;cases z
   | exc x=>rw [qg] at z;cases z
   | ok o=>
    rw [qg] at z;cases o with
    | bk _=>cases z
    | ct _=>cases z
    | nx env=>cases z;exact λσ' J' H' _ sr=>h4 .non J' H' (ext sr.hp) .non
    | rt r'=>
     cases z;exact λv J' H' _ hp rf=>h4 v J' H' (ext hp) (by
      cases r with
      | d x=>exact rf
      | l m xs=>exact rf
      | mo _ _=>exact rf
      | mf _ _=>exact rf
      | ln _=>exact rf
      | o m _ _=>cases m <;> exact rf
      | mb _ _=>exact rf)
theorem BY {P:Q2}{w:Ro}{K:QG}{mg:Str->Option QH}{base:Sa}{x QA:Str}{st:TR}{f:Q4}{fd:Rp}{N ps:List Str}{k:Nat}{Fm:List S->M R}(F:fF K x QA st f fd) (Sc:cJ N ps (aN st)){gB:G O}
  (hb:∀(cdv:QH) (A:RA) (outer:List Env) (s:QL) (H:Hp) (E:XK) (J:Hp) (T:Exc->Prop),cR k (A.deeper (Va QA (aN st) s.heap.objs.size f cdv))->
   Fi (qE P w K mg base N QA (aN st) f cdv A outer s H E) ⟨K,H,J,T⟩ (bM st) gB)
  (hF:∀as r,as.length=ps.length->Fm as=.ok r->fin (gB (aD N as))=.ok r):eG P w K mg base jH (k + 1) f fd ps (mW K ps.length Fm):=Jx F Sc (λcdv A outer s H E J T hr=>nK (hb cdv A outer s H E J T hr) λ_ _ _ q=>Mt q) hF
noncomputable def cg:R->R
 | .d x=>.d x
 | .l _ xs=>.l .fresh xs
 | .mo ks vs=>.mo ks vs
 | .mb ks vs=>.mb ks vs
 | .mf ks vs=>.mf ks vs
 | .ln xs=>.ln xs
 | .o m k xs=>.o m k xs
noncomputable def aB (n:Nat) (F:List S->M R):List R->M R:=λrs=>if rs.length=n then (match F (rs.map bO) with
 | .ok r=>.ok (cg r)
 | _=>.bad) else .bad
theorem kR.args {He J H:Hp}(hp:HI c J H):∀{rs:List R}{vs:List V},kR c He J H rs vs->ia c.K J H (rs.map bO) vs
 | [],_,h=>h
 | r::rs,_,⟨v,us,h,h1,h2⟩=>by
  refine ⟨v,us,h,?_,kR.args hp h2⟩;cases r with
  | d x=>exact h1
  | l m xs=>exact RR.list hp h1 rfl
  | mo _ _=>obtain ⟨a,h1,h2,_⟩:=h1;exact ⟨a,h1,h2⟩
  | mb _ _=>obtain ⟨a,h1,h2⟩:=h1;exact ⟨a,h1,h2.mono (aW.refl _) hp.ent⟩
  | mf _ _=>obtain ⟨a,h1,h2,_⟩:=h1;exact ⟨a,h1,h2⟩
  | o m _ _=>cases m with
   | own=>obtain ⟨a,h1,h2,_⟩:=h1;exact ⟨a,h1,h2⟩
   | fresh=>obtain ⟨a,h1,h2,_⟩:=h1;exact ⟨a,h1,h2⟩
   | bor=>obtain ⟨a,h1,h2⟩:=h1;exact ⟨a,h1,h2.mono (aW.refl _) hp.ent⟩
  | ln _=>obtain ⟨a,vs,h1,h2,_,_,h5⟩:=h1;exact ⟨a,vs,h1,.inl (.inl h2),h5.reps⟩
theorem Mf {F:List S->M R}{J H J1 H1:Hp}{Q:VK}{as:List S}{T:Exc->Prop}(hT:c.K=X.K) (e1:Ext J H J1 H1) (ar:ia c.K J1 H1 as vs) (hl:as.length=n)
 (wr:cM (match F as with
 | .ok r=>.ok (cg r)
 | _=>.bad) (λr=>∀v J' H',Ext J H J' H'->RR c H J' H' r v->Q v H') T):mW X.K n F (vs++[]) H1 Q E0:=by
 rw [hT] at ar;refine ⟨J1,as,e1.sub,hl,by rw [R6];exact ar,?_⟩;cases q:F as with
 | bad=>rw [q] at wr;exact wr
 | exc x=>rw [q] at wr;exact wr
 | ok r=>
  rw [q] at wr;intro v J' H' e2 fr;refine wr v J' H' (e1.trans e2) ?_;cases r with
  | d y=>exact (show Rep c.K J' y v from hT▸fr)
  | mo _ _=>exact fr.elim
  | mb _ _=>exact fr.elim
  | mf _ _=>obtain ⟨a,h1,h2,h3,h4⟩:=fr;exact ⟨a,h1,hT▸h2,h3,e1.h.free h4⟩
  | o m _ _=>cases m with
   | own=>exact fr.elim
   | bor=>exact fr.elim
   | fresh=>obtain ⟨a,h1,h2,h3,h4⟩:=fr;exact ⟨a,h1,hT▸h2,h3,e1.h.free h4⟩
  | ln _=>obtain ⟨a,us,h1,h2,h3,h4,h5⟩:=fr;exact ⟨a,us,h1,h2,h3,e1.h.free h4,hT▸h5.mono (aW.refl _) λ_ h=>e1.h.free h⟩
  | l m ys=>
   obtain ⟨a,us,h1,h2,h3,h4,h5⟩:=fr;exact ⟨a,us,h1,h2,h3,e1.h.free h4,hT▸h5⟩
theorem DY {n:Nat}{F:List S->M R}{gs:G (List R)}(hT:c.K=X.K):∀σ H Q,tD c (gN (aB n F) gs) σ H Q->Gd (mW X.K n F) [] E0 (tA c gs) σ H Q:=λσ H Q ⟨J,env,sr,w⟩=>by
 refine ⟨J,env,sr,aC (aI w) λrs wr vs J1 H1 e1 r1=>?_⟩;unfold aB at wr;split at wr
 ·rename_i hl;exact Mf hT e1 (r1.args (sr.hp.ext e1)) (by simpa using hl) wr
 ·exact wr.elim
theorem Hq {F:List S->M R}{gs:G (List R)}(G:eG X.prog X.w X.K X.mg X.base jH k f fd ps (mW X.K n F)) (hr:cR k X.A) (hm:X.mg x=some (.ref f)) (hk:RL X.K (.ref f)=true)
 (hb:Binds X.K fd ps []) (ha:yK X c (e::es) gs) (hT:autoParam (c.K=X.K) zA._auto_1) (hg:autoParam (Gl X x) zA._auto_1) (hdb:autoParam ((x == ("__debug__":Str))=false) zB._auto_1) (he:autoParam (QY (e::es) X.env=(false,eval e X.env)::QY es X.env) zA._auto_1)
 (hpl:autoParam ((Tn pos (QY es X.env)).any (·.1)=false) zA._auto_1):PD X c (.Call (.Name x p) (e::es) [] pos) (gN (aB n F) gs):=
 eE (tF (E:=E0) G hr hg hm hk hb .nil FZ ha hdb he hpl) (DY hT)
end
noncomputable def fQ (cells:List (Str×Q4)):List (Str×TV)->List (Str×Q4)->Option (List (Str×Q4))
 | [],cs=>some cs
 | (n,k)::r,cs=>if k == .free then (match cells.lookup n with
  | some a=>fQ cells r ((n,a)::cs)
  | none=>none) else fQ cells r cs
theorem kE {env:Env}:∀(names:List (Str×TV)) (cs cl:List (Str×Q4)),fQ env.cells names cs=some cl->
  (forIn names cs λ(x:Str×TV) (r:List (Str×Q4))=>(if (x.2 == .free)=true then do let a <-cellOf env x.1;pure (Tv ((x.1,a)::r)) else pure (Tv r):Sem (ForInStep (List (Str×Q4)))))=(pure cl:Sem (List (Str×Q4)))
 | [],cs,cl,h=>by cases h;rfl
 | (n,k)::r,cs,cl,h=>by
  unfold fQ at h;rw [List.forIn_cons];cases hk:(k == Sw) with
  | true=>
   rw [hk,if_pos rfl] at h;cases hc:env.cells.lookup n with
   | none=>rw [hc] at h;cases h
   | some a=>
    rw [hc] at h;have e:cellOf env n=pure a:=by unfold cellOf;rw [hc]
    simp only [hk,if_true,e];exact kE r ((n,a)::cs) cl h
  | false=>
   rw [hk,if_neg (by decide)] at h;simp only [hk];exact kE r cs cl h
theorem uT {Qv:Uo}{env:Env}(h:fQ env.cells Qv.names []=some cl):closureFor Qv env=pure cl:=by have q:=kE (env:=env) Qv.names [] cl h;unfold closureFor;show ((forIn Qv.names [] λ(x:Str×TV) (r:List (Str×Q4))=>(if (x.2 == .free)=true then do let a <-cellOf env x.1;pure (Tv ((x.1,a)::r)) else pure (Tv r):Sem (ForInStep (List (Str×Q4))))) >>= λz=>pure z)=pure cl;rw [q];rfl
theorem iw {cells:List (Str×Q4)}:∀(names:List (Str×TV)) (cs cl:List (Str×Q4)),fQ cells names cs=some cl->(∀x c,cs.lookup x=some c->cells.lookup x=some c)->
  (∀x c,cl.lookup x=some c->cells.lookup x=some c)/\(∀x,((cs.lookup x).isSome=true\/(x,Sw)∈names)->(cl.lookup x).isSome=true)
 | [],cs,cl,h,k=>by cases h;exact ⟨k,λx hx=>hx.elim id λz=>by cases z⟩
 | (n,kd)::r,cs,cl,h,k=>by
  unfold fQ at h;cases hk:(kd == Sw) with
  | true=>
   rw [hk,if_pos rfl] at h;cases hc:cells.lookup n with
   | none=>rw [hc] at h;cases h
   | some a=>
    rw [hc] at h;obtain ⟨h1,h2⟩:=iw r ((n,a)::cs) cl h (λx c q=>by
     rw [Si] at q;cases e:x == n with
     | true=>
      rw [e] at q;cases q;have:x=n:=by simpa using e
      rw [this];exact hc
     | false=>rw [e] at q;exact k x c q)
    refine ⟨h1,λx hx=>h2 x ?_⟩;by_cases e:x=n
    ·left;subst e;rw [Si];simp
    ·have e':(x == n)=false:=by simpa using e
     rcases hx with hx | hx
     ·left;rw [Si,e'];exact hx
     ·right;rcases QZ.mp hx with z | z
      ·cases z;exact absurd rfl e
      ·exact z
  | false=>
   rw [hk,if_neg (by decide)] at h;obtain ⟨h1,h2⟩:=iw r cs cl h k;refine ⟨h1,λx hx=>h2 x ?_⟩;rcases hx with hx | hx
   ·exact .inl hx
   ·rcases QZ.mp hx with z | z
    ·cases z;simp at hk
    ·exact .inr z
section
variable {X:Cx}
noncomputable def cN (X:Cx) (own:List Str) (cap:List Nat):List Str:=own++cap.map λ(j:Nat)=>(X.N[j]?).getD ("":Str)
noncomputable def Jj (X:Cx) (own:List Str) (cap:List Nat) (Qv:Uo) (cl:List (Str×Q4)) (C:Q4) (s:QL) (H:Hp) (fp:List Q4):Cx where
 prog:=X.prog
 w:=X.w
 K:=X.K
 mg:=X.mg
 base:=X.base
 A:=X.A
 N:=cN X own cap
 s₀:=s
 H₀:=H
 env:=compEnvC Qv cl C X.env
 outer:=X.stack
 stack:=X.stack
 ex:=fp
 fn:=λ_=>false
 calm:=X.calm
 pn:=[]
 xe:=λ_ _=>False
noncomputable def oj (X:Cx) (cap:List Nat):Bool:=cap.all λj=>match X.N[j]? with
 | some x=>(match X.env.scope.names.lookup x with
  | some .cell=>true
  | some .free=>true
  | _=>false)
 | none=>false
theorem xP {Qv:Uo}(hc:∀y∈Qv.names,y.2≠.cell):∀{x:Str},((relabel Qv env).names.lookup x=some .cell\/(relabel Qv env).names.lookup x=some .free)->(x,Sw)∈Qv.names:=by
 unfold relabel;have main:∀(names:List (Str×TV)),(∀y∈names,y.2≠.cell)->∀x,((names.map λ(n,k)=>if (k == Sw && env.scope.kind == .function && env.kindOf n == some .cell) then (n,U5) else (n,k)).lookup x=some .cell\/
   (names.map λ(n,k)=>if (k == Sw && env.scope.kind == .function && env.kindOf n == some .cell) then (n,U5) else (n,k)).lookup x=some .free)->(x,Sw)∈names:=by
  intro names
  induction names with
  | nil=>intro _ x h;simp at h
  | cons p r ih=>
   obtain ⟨n,k⟩:=p;intro hc x h;rw [Ri] at h;simp only at h;by_cases hx:x=n
   ·subst hx;have hk:k≠.cell:=hc (x,k) QT;have:k=.free:=by
     by_cases q:(k == Sw && env.scope.kind == .function && env.kindOf x == some .cell)=true
     ·rw [Ra,Ra] at q;simpa using q.1.1
     ·rw [if_neg q,Si] at h;simp at h;rcases h with h | h
      ·exact absurd h hk
      ·exact h
    subst this;exact QT
   ·have hx':(x == n)=false:=by simpa using hx
    refine QO _ (ih (λy hy=>hc y (QO _ hy)) x ?_);have red:∀(q:Str×TV) (l:List (Str×TV)),q.1=n->Us x (q::l)=Us x l:=λq l hq=>by obtain ⟨q1,q2⟩:=q;simp only at hq;subst hq;rw [Si,hx']
    have hq:(if (k == Sw && env.scope.kind == .function && env.kindOf n == some .cell) then (n,U5) else (n,k)).1=n:=by split <;> rfl
    rw [red _ _ hq] at h;exact h
 intro x h;exact main Qv.names hc x h
end
section
variable {X:Cx}{c:C}
noncomputable def z_ (X:Cx) (c:C) (ifs:List Rz) (g:G Bool):Prop:=
 ∀(Qw:List (Q4×Obj)) (s:QL) (σ:L2.St) (H:Hp) (Q:Bool->Hp->Prop),Inv X Qw σ H s->tB c g σ H Q->
  Q8 (Rb X.prog X.w) X.A (forIn ifs true λc r=>if r=true then do let ok <-Yg c X.env (eval c X.env);pure (Tv ok) else pure (Tv r)) (TP X Qw σ Q) X.xe s
noncomputable def fT:G Bool:=λ_=>.ok true
noncomputable def fk (gt:GT) (gts:G Bool) (ge:G R):List D->Ev->M (List D)
 | [],_=>.ok []
 | d::ds,env=>gt d env >>= λe=>gts e >>= λk=>if k=true then ge e >>= λr=>toD r >>= λy=>fk gt gts ge ds e >>= λys=>.ok (y::ys) else fk gt gts ge ds e
noncomputable def cE (n:Nat) (cap:List Nat) (env:Ev):Ev:=Rw n none++cap.map λ(j:Nat)=>(env[j]?).getD none
noncomputable def cZ (n:Nat) (cap:List Nat) (gi:G (List D)) (gt:GT) (gts:G Bool) (ge:G R):G R:=λenv=>gi env >>= λds=>if ds.length<=sizeLine then fk gt gts ge ds (cE n cap env) >>= λys=>.ok (.l .fresh ys) else .bad
theorem gZ {α:Type}{n:Nat}{cap:List Nat}{env:List (Option α)}{i:Nat}{x:α}(h:(Rw n none++cap.map λ(j:Nat)=>(env[j]?).getD none)[i]?=some (some x)):∃j,n<=i/\cap[i - n]?=some j/\env[j]?=some (some x):=by
 by_cases hi:i < n
 ·rw [SY (by simpa using hi),U1] at h;split at h <;> cases h
 ·rw [Sk (by simpa using hi),RC,Rh] at h;cases q:cap[i - n]? with
  | none=>rw [q] at h;cases h
  | some j=>
   rw [q] at h;refine ⟨j,by omega,rfl,?_⟩;have h':(env[j]?).getD none=some x:=RP h;cases z:env[j]? with
   | none=>rw [z] at h';cases h'
   | some o=>rw [z] at h';exact congrArg some h'
theorem Fx {α:Type}{n:Nat}{cap:List Nat}{env:List (Option α)}{i j:Nat}{x:α}(h1:n<=i) (h2:cap[i - n]?=some j) (h3:env[j]?=some (some x)):(Rw n none++cap.map λ(j:Nat)=>(env[j]?).getD none)[i]?=some (some x):=by rw [Sk (by simpa using h1),RC,Rh,h2];simp [h3]
theorem SR.cap {J H:Hp}{σ:L2.St}{env:Ev}(sr:SR c J H σ env) (n:Nat) (cap:List Nat) (hnd:cap.Nodup):SR c J H (Rw n none++cap.map λ(j:Nat)=>(σ[j]?).getD none) (cE n cap env):=by
 refine ⟨sr.hp,by simp [cE],λi x q=>?_,λi j xs ys v hij q1 q2 q3 q4=>?_,sr.sp2.by (λi=>(cap[i - n]?).getD 0) (λi j xs ys hij q1 q2 z=>?_) λi xs q=>?_⟩
 ·obtain ⟨j,h1,h2,h3⟩:=gZ q;obtain ⟨v,k1,k2⟩:=sr.at_ j x h3;exact ⟨v,Fx h1 h2 k1,k2⟩
 ·obtain ⟨a,h1,h2,h3⟩:=gZ q1;obtain ⟨b,h4,h5,h6⟩:=gZ q2;obtain ⟨a',h7,h8,h9⟩:=gZ q3;obtain ⟨b',Qs,h11,h12⟩:=gZ q4;rw [h2] at h8;cases h8;rw [h5] at h11;cases h11;have hab:a≠b:=λz=>by subst z;have e1:=(Rt.mp h2);have e2:=(Rt.mp h5);have:=(WQ hnd).mp (e1.2.trans e2.2.symm);omega
  exact sr.sep a b xs ys v hab h3 h6 h9 h12
 ·obtain ⟨a,h1,h2,h3⟩:=gZ q1;obtain ⟨b,h4,h5,h6⟩:=gZ q2;have e1:=(Rt.mp h2);have e2:=(Rt.mp h5);rw [h2,h5] at z;have:=(WQ hnd).mp (e1.2.trans ((show a=b from z).trans e2.2.symm));omega
 ·obtain ⟨a,h1,h2,h3⟩:=gZ q;obtain ⟨p,vs,m1,m2,_,_,_,m3⟩:=sr.nst h3;rw [h2];exact ⟨⟨xs,h3⟩,(jT (Fx h1 h2 m1) m2).trans m3.symm⟩
theorem SR.other {J H:Hp}(sr:SR c J H σ env) (hJ:J p=none) (h0:c.H0 p=none) (hn:∀(j:Nat) (xs:Mn),env[j]?=some (some (mS xs))->σ[j]?≠some (some (.ref p))):SR c J (L2.upd H p o) σ env:=by
 refine ⟨⟨λb u q=>?_,λb u q=>?_,sr.hp.entJ,sr.hp.frz⟩,sr.len,λj y q=>?_,sr.sep,sr.sp2.keep λk xs q=>let ⟨p',vs,m1,m2,_,_,_,m3⟩:=sr.nst q;⟨⟨xs,q⟩,(jT m1 (by rw [bh (show p'≠p from λe=>hn k (.nst xs) q (by rw [<-e];exact m1))];exact m2)).trans m3.symm⟩⟩
 ·have:b≠p:=λz=>by rw [z,hJ] at q;cases q
  rw [bh this];exact sr.hp.sub b u q
 ·have:b≠p:=λz=>by rw [z,h0] at q;cases q
  rw [bh this];exact sr.hp.ent b u q
 ·obtain ⟨w,k1,k2⟩:=sr.at_ j y q;refine ⟨w,k1,?_⟩;cases y with
  | d x=>exact k2
  | bor zs=>exact k2
  | db _ _=>exact k2
  | fn _=>exact k2
  | tn _=>exact k2
  | ob _ _=>exact k2
  | dk ks zs=>
   obtain ⟨p',rfl,⟨us,ws,ep,m1,mr⟩,m2⟩:=k2;have hne:p'≠p:=λz=>hn j (.inr (ks,zs)) q (z▸k1);exact ⟨p',rfl,⟨us,ws,ep,by rw [bh hne];exact m1,mr⟩,m2⟩
  | oo k zs=>
   obtain ⟨p',rfl,⟨ws,m1,mr⟩,m2⟩:=k2;have hne:p'≠p:=λz=>hn j (.oo k zs) q (z▸k1);exact ⟨p',rfl,⟨ws,m1.mono λo q=>by rw [bh hne];exact q,mr⟩,m2⟩
  | own zs=>
   obtain ⟨p',us,rfl,m1,m2,m3,m4⟩:=k2;have hne:p'≠p:=λz=>hn j (.inl zs) q (z▸k1);exact ⟨p',us,rfl,by rw [bh hne];exact m1,m2,m3,m4⟩
  | ow2 zs=>
   obtain ⟨p',us,rfl,m1,m2,m3,m4⟩:=k2;have hne:p'≠p:=λz=>hn j (.nst zs) q (z▸k1);exact ⟨p',us,rfl,by rw [bh hne];exact m1,m2,m3,m4⟩
theorem Ext.other {J H J' H':Hp}(e:Ext J H J' H') (h:H p=none) (hJ:J' p=none):Ext J H J' (L2.upd H' p o):=
 ⟨λb u q=>by rw [bh (fH q h)];exact e.h b u q,e.j,λb u q=>by
  have:b≠p:=λz=>by rw [z,hJ] at q;cases q
  rw [bh this];exact e.sub b u q,e.frz⟩
theorem yx {H:Hp}(x:eW P w H h) (hn:H a=none) (sb:SD a h h'):eW P w H h':=λb u e=>by
 refine (x b u e).stay (λd v hd q=>(sb.2 d ?_).trans q) (λ_ q=>q) λ_ _ q=>q;rintro rfl;rcases hd with rfl | hd
 ·rw [hn] at e;cases e
 ·rw [hn] at hd;cases hd
theorem Nv {Qw:List (Q4×Obj)}{σ:L2.St}{H:Hp}{s:QL}{own:List Str}{cap:List Nat}{Qv:Uo}{cl:List (Str×Q4)}{fp:List Q4}{h1:Sa}{m:Str->Option QH}{tk:Nat}(I:Inv X Qw σ H s) (ok:(Jj X own cap Qv cl s.heap.objs.size s H fp).Ok)
  (hcl:fQ X.env.cells Qv.names []=some cl) (hcell:∀y∈Qv.names,y.2≠.cell) (hcap:oj X cap=true) (OF:∀j∈cap,∀x,X.N[j]?=some x->(relabel Qv X.env).names.lookup x≠some .local)
  (hns:h1.Ns s.heap.objs.size m) (old:∀b o,s.heap.get? b=some o->h1.get? b=some o):
  Inv (Jj X own cap Qv cl s.heap.objs.size s H fp) [] (Rw own.length none++cap.map λ(j:Nat)=>(σ[j]?).getD none) H {s with heap:=h1,toks:=tk}:=by
 obtain ⟨m1,m2⟩:=iw Qv.names [] cl hcl (λx c h=>by simp at h);refine ⟨ok,rfl,I.bare,Un.kept old,⟨m,hns,λi x v q1 q2 q3=>?_⟩,λx d h=>?_,I.hok.fresh (QV _),λx d h=>I.freeC x d (m1 x d h),λp hp=>absurd (show p∈([]:List (Q4×Obj)) from hp) (by simp),I.hok.kept old,?_⟩
 ·obtain ⟨j,h2,h3,h4⟩:=gZ q2;have q1':(own++cap.map λ(j:Nat)=>(X.N[j]?).getD ("":Str))[i]?=some x:=q1;rw [Sk (by exact h2),Rh,h3] at q1';have hj:j∈cap:=TZ h3;have hc:(match X.N[j]? with
   | some x=>(match X.env.scope.names.lookup x with
    | some .cell=>true
    | some .free=>true
    | _=>false)
   | none=>false)=true:=by unfold oj at hcap;exact Th.mp hcap j hj
  cases hx:X.N[j]? with
  | none=>rw [hx] at hc;cases hc
  | some y=>
   rw [T8,hx] at q1';rw [hx] at hc;have e:y=x:=by simpa using q1'
   subst e;have kd:X.env.kindOf y=some .cell\/X.env.kindOf y=some .free:=by
    unfold abh;simp only at hc;split at hc
    ·rename_i z;exact .inl z
    ·rename_i z;exact .inr z
    ·cases hc
   obtain ⟨mX,nX,lX⟩:=I.loc;obtain ⟨u,ru,lu⟩:=lX j y v hx h4 (kd.elim (λz=>.inr (.inl z)) λz=>.inr (.inr z));refine ⟨u,ru,.inr ?_⟩;have kd':(relabel Qv X.env).names.lookup y=some .cell\/(relabel Qv X.env).names.lookup y=some .free:=by
    rcases q3 with z | z | z
    ·exact absurd z (OF j hj y hx)
    ·exact .inl z
    ·exact .inr z
   refine ⟨kd',?_⟩;obtain ⟨d,hd⟩:=RE.mp (m2 y (.inr (xP hcell kd')));refine ⟨d,hd,?_⟩;rcases lu with ⟨z,_⟩ | ⟨_,d',hd',z⟩
   ·rcases kd with k | k <;> (rw [k] at z;cases z)
   ·have:=m1 y d hd;rw [hd'] at this;cases this;obtain ⟨o,ho,hod⟩:=z;exact ⟨o,old _ _ ho,hod⟩
 ·obtain ⟨v,o,ho,hod⟩:=I.cell x d (m1 x d h);exact ⟨v,o,old _ _ ho,hod⟩
 ·show _=(own++cap.map λ(j:Nat)=>(X.N[j]?).getD ("":Str)).length;simp
noncomputable def BJ (X:Cx) (cap:List Nat) (Qv:Uo):Bool:=cap.all λj=>match X.N[j]? with
 | some x=>!((relabel Qv X.env).names.lookup x == some .local)
 | none=>true
noncomputable def xq:List Nat->Bool
 | []=>true
 | x::r=>!(r.contains x) && xq r
theorem zw:∀{l:List Nat},xq l=true->l.Nodup
 | [],_=>UH
 | x::r,h=>by unfold xq at h;rw [Ra] at h;refine S8.mpr ⟨λz=>?_,zw h.2⟩;have:=h.1;simp [z] at this
theorem I0 {X:Cx}{H:Hp}{s:QL}(I:L2.Inv X Qw σ H s) (h:s.heap.objs.size<=T):(T∈X.ex\/X.s₀.heap.objs.size<=T)/\T≠X.env.locals/\(∀x c,X.env.cells.lookup x=some c->c≠T)/\∀p∈X.pn++Qw,p.1≠T:=by have ne:∀b,b < s.heap.objs.size->b≠T:=λb hb z=>absurd (Q9 (z▸hb) h) (TU _);refine ⟨.inr (RG I.sz h),(ne _ I.lt).symm,λx c hc=>?_,λp hp=>ne _ (Q6 (I.pin p hp).1)⟩;obtain ⟨v,o,hv,_⟩:=I.cell x c hc;exact ne _ (Q6 hv)
theorem CH {X:Cx}{H:Hp}{s:QL}{C:Q4}{o0:Obj}(I:L2.Inv X Qw σ H s) (ap:(C∈X.ex\/X.s₀.heap.objs.size<=C)/\C≠X.env.locals/\(∀x c,X.env.cells.lookup x=some c->c≠C)/\∀p∈X.pn++Qw,p.1≠C) (hf:H C=none) (sb:SD C s.heap h'):L2.Inv X Qw σ H {s with heap:=h'}:=by
 refine I.call' (ch:=[C]) rfl ⟨λb o hb hn _ hx=>?_,λb o hb hn _ hx=>⟨o.slots,?_⟩,λ_ _ _ n _=>n,λb o hb hx=>⟨o,?_⟩,λ_ _ q=>q,λ_ _ _ q=>q,λ_ ps q=>⟨#[],by rw [q];simp⟩⟩ (λa o ha=>?_) I.bare (λb hb=>by rw [QK.mp hb];exact ap)
 ·exact (sb.2 b λz=>hx (by simp [z])).trans hb
 ·exact (sb.2 b λz=>hx (by simp [z])).trans hb
 ·exact (sb.2 b λz=>hx (by simp [z])).trans hb
 ·refine (I.hok a o ha).stay (λb u hb q=>(sb.2 b λz=>?_).trans q) (λ_ q=>q) λ_ _ q=>q;rcases hb with rfl | hb
  ·rw [z,hf] at ha;cases ha
  ·rw [z,hf] at hb;cases hb
end
mutual
noncomputable def c7:D->D->Bool
 | .non,.non=>true
 | .bl p,.bl q=>p == q
 | .bl p,.int q=>(if p then 1 else 0) == q
 | .int p,.bl q=>p == (if q then 1 else 0)
 | .int p,.int q=>p == q
 | .str p,.str q=>p == q
 | .tup p,.tup q=>fY p q
 | .lst p,.lst q=>fY p q
 | .emp,.emp=>true
 | .exn _ _ _,.exn _ _ _=>true
 | .dct _ _,.dct _ _=>true
 | .ob _ _,.ob _ _=>true
 | _,_=>false
noncomputable def fY:List D->List D->Bool
 | [],[]=>true
 | x::xs,y::ys=>c7 x y && fY xs ys
 | _,_=>false
end
mutual
theorem pU:∀d:D,c7 d d=true
 | .non=>by simp [c7]
 | .bl _=>by simp [c7]
 | .int _=>by simp [c7]
 | .str _=>by simp [c7]
 | .tup xs=>by simp only [c7];exact nk xs
 | .lst xs=>by simp only [c7];exact nk xs
 | .emp=>by simp [c7]
 | .exn _ _ _=>by simp [c7]
 | .dct _ _=>by simp [c7]
 | .ob _ _=>by simp [c7]
theorem nk:∀ds:List D,fY ds ds=true
 | []=>by simp [fY]
 | x::xs=>by simp only [fY,pU x,nk xs,Bool.and_self]
end
theorem lI:∀{xs ys:List D},xs.length≠ys.length->fY xs ys=false
 | [],[],h=>absurd rfl h
 | [],_::_,_=>by simp [fY]
 | _::_,[],_=>by simp [fY]
 | x::xs,y::ys,h=>by simp only [fY,lI (xs:=xs) (ys:=ys) (λz=>h (congrArg (· + 1) z)),Vo]
noncomputable def lW (xs ys:List D) (j:Nat):Bool:=match xs[j]?,ys[j]? with
 | some x,some y=>c7 x y
 | _,_=>false
theorem lJ:∀{xs ys:List D},xs.length=ys.length->(QX xs.length).all (lW xs ys)=fY xs ys
 | [],[],_=>by simp [fY]
 | x::xs,y::ys,h=>by have ih:=lJ (xs:=xs) (ys:=ys) (by simpa using h);rw [Rm,List.range_succ_eq_map,WC,List.all_map];simp only [fY];rw [<-ih];rfl
theorem wF (xs ys:List D):((QX (min xs.length ys.length)).all (lW xs ys) && xs.length == ys.length)=fY xs ys:=by
 by_cases h:xs.length=ys.length
 ·rw [<-h,Xh,lJ h];simp
 ·rw [lI h,beq_eq_false_iff_ne.mpr h,Vo]
section
structure HF (K:QG) (J:Hp) (s:QL):Prop where
 t:∀a xs,fP K J a xs->∃Qx:List QH,Vals xs Qx/\s.heap.IsTuple a Qx.toArray
 l:∀a xs,c6 K J a xs->∃Qx:List QH,Vals xs Qx/\s.heap.IsList a Qx.toArray
 e:∀a,J a=some (.dK [])->∃o,s.heap.get? a=some o/\o.cls=.type "dict"
 d:∀a ep QC,J a=some (FG a ep QC)->∃o es,s.heap.get? a=some o/\o.ExactDict/\o.data=.dict es ep/\Wk IP QC es.toList
variable {K:QG}{J:Hp}{s:QL}
theorem HF.of {X:Cx}{c:C}{H:Hp}(I:Inv X Qw σ H s) (hs:aW J H):HF X.K J s:=
 ⟨λa xs h=>let ⟨Qx,r,p,_⟩:=I.tuple (gj hs h);⟨Qx,r,p⟩,λa xs h=>let ⟨Qx,r,p,_⟩:=I.list (hs.seq h);⟨Qx,r,p.isList⟩,λa h=>by
  obtain ⟨_,_,vs,_,p⟩:=(show cu X.prog X.w H s.heap a (.dK []) from I.hok a _ (hs _ _ h));obtain ⟨o,es,ep,h1,h2,_⟩:=p;exact ⟨o,h1,h2.1⟩,λa ep QC h=>(show cu X.prog X.w H s.heap a (FG a ep QC) from I.hok a _ (hs _ _ h)).1⟩
theorem Cd {xs ys:List QH}(h:s.heap.IsTuple a xs.toArray) (h':s.heap.IsTuple a ys.toArray):xs=ys:=by
 obtain ⟨o,ho,_,n,hd⟩:=h;obtain ⟨o',ho',_,n',hd'⟩:=h';rw [ho] at ho';cases ho';rw [hd] at hd';injection hd' with h1 _
 simpa using congrArg Xa h1
theorem AH {xs ys:List QH}(h:s.heap.IsList a xs.toArray) (h':s.heap.IsList a ys.toArray):xs=ys:=by
 obtain ⟨o,ho,_,n,hd⟩:=h;obtain ⟨o',ho',_,n',hd'⟩:=h';rw [ho] at ho';cases ho';rw [hd] at hd';injection hd' with h1 _
 simpa using congrArg Xa h1
mutual
theorem Rep.inj (F:HF K J s):∀{d e:D}{v:V},Rep K J d v->Rep K J e v->dep d<=1000->dep e<=1000->d=e
 | _,_,_,.emp _,_,h,_=>by unfold dep at h;omega
 | _,_,_,.exn _ _ _ _ _,_,h,_=>by unfold dep at h;omega
 | _,_,_,.dct _ _ _ _ _,_,h,_=>by unfold dep at h;omega
 | _,_,_,.ob _ _,_,h,_=>by unfold dep at h;omega
 | _,_,_,.non,.non,_,_=>rfl
 | _,_,_,.bl _,.bl _,_,_=>rfl
 | _,_,_,.int _,.int _,_,_=>rfl
 | _,_,_,.str _,.str _,_,_=>rfl
 | _,_,_,.tup _ _,.emp _,_,h=>by unfold dep at h;omega
 | _,_,_,.lst _ _,.emp _,_,h=>by unfold dep at h;omega
 | _,_,_,.tup _ _,.exn _ _ _ _ _,_,h=>by unfold dep at h;omega
 | _,_,_,.tup _ _,.dct _ _ _ _ _,_,h=>by unfold dep at h;omega
 | _,_,_,.tup _ _,.ob _ _,_,h=>by unfold dep at h;omega
 | _,_,_,.lst _ _,.exn _ _ _ _ _,_,h=>by unfold dep at h;omega
 | _,_,_,.lst _ _,.dct _ _ _ _ _,_,h=>by unfold dep at h;omega
 | _,_,_,.lst _ _,.ob _ _,_,h=>by unfold dep at h;omega
 | _,_,_,.tup h hs,.tup h' hs',k,k'=>by obtain ⟨Qx,r,p⟩:=F.t _ _ h;obtain ⟨its',r',p'⟩:=F.t _ _ h';have:=Cd p p';subst this;have:=r.inj r';subst this;rw [aX.inj F hs hs' (by unfold dep at k;omega) (by unfold dep at k';omega)]
 | _,_,_,.lst h hs,.lst h' hs',k,k'=>by obtain ⟨Qx,r,p⟩:=F.l _ _ h;obtain ⟨its',r',p'⟩:=F.l _ _ h';have:=AH p p';subst this;have:=r.inj r';subst this;rw [aX.inj F hs hs' (by unfold dep at k;omega) (by unfold dep at k';omega)]
 | _,_,_,.tup h _,.lst h' _,_,_=>by obtain ⟨Qx,r,p⟩:=F.t _ _ h;obtain ⟨its',r',p'⟩:=F.l _ _ h';exact absurd rfl (W2 p' p)
 | _,_,_,.lst h _,.tup h' _,_,_=>by obtain ⟨Qx,r,p⟩:=F.l _ _ h;obtain ⟨its',r',p'⟩:=F.t _ _ h';exact absurd rfl (W2 p p')
theorem aX.inj (F:HF K J s):∀{ds es:List D}{vs:List V},aX K J ds vs->aX K J es vs->deps ds<=1000->deps es<=1000->ds=es
 | _,_,_,.nil,.nil,_,_=>rfl
 | _,_,_,.cons h hs,.cons h' hs',k,k'=>by rw [Rep.inj F h h' (by unfold deps at k;omega) (by unfold deps at k';omega),aX.inj F hs hs' (by unfold deps at k;omega) (by unfold deps at k';omega)]
end
theorem iN {A:RA}(h:s.heap.IsTuple a Qx) (r:RelV v u) (f:qK v=true) (hu:A.units < Up):Uj A s (.ref a) u false/\Uj A s u (.ref a) false:=by
 cases v with
 | non=>cases r;exact ⟨.tuple_none h hu,.none_tuple h hu⟩
 | bl b=>cases r;exact ⟨.tuple_bool b h hu,.bool_tuple b h hu⟩
 | int i=>obtain ⟨t,rfl⟩:=r;exact ⟨.tuple_int i t h hu,.int_tuple i t h hu⟩
 | str x=>obtain ⟨t,rfl⟩:=r;exact ⟨.tuple_str x t h hu,.str_tuple x t h hu⟩
 | _=>exact absurd (show false=true from f) RQ
theorem jh {A:RA}(h:s.heap.IsList a Qx) (r:RelV v u) (f:qK v=true) (hu:A.units < Up):Uj A s (.ref a) u false/\Uj A s u (.ref a) false:=by
 cases v with
 | non=>cases r;exact ⟨.list_none h hu,.none_list h hu⟩
 | bl b=>cases r;exact ⟨.list_bool b h hu,.bool_list b h hu⟩
 | int i=>obtain ⟨t,rfl⟩:=r;exact ⟨.list_int i t h hu,.int_list i t h hu⟩
 | str x=>obtain ⟨t,rfl⟩:=r;exact ⟨.list_str x t h hu,.str_list x t h hu⟩
 | _=>exact absurd (show false=true from f) RQ
noncomputable def ny:D->Bool
 | .tup _=>false
 | .lst _=>false
 | .emp=>false
 | .exn _ _ _=>false
 | .dct _ _=>false
 | .ob _ _=>false
 | _=>true
theorem Rep.flat (h:Rep K J d v) (f:ny d=true):qK v=true:=by cases h <;> first | rfl | cases f
theorem Ea (h:Rep K J d v) (h':Rep K J e w) (f:ny d=true) (f':ny e=true):Jq v w=c7 d e:=by cases h <;> cases h' <;> first | rfl | cases f | cases f' | simp [Jq,c7]
theorem in1_units (A:RA):A.in1.units=A.units + 1:=rfl
theorem qJ (F:HF K J s) (A:RA) (hd:Rep K J d v) (he:Rep K J e w) (rv:RelV v u) (rw':RelV w u') (f:ny d=true) (hu:A.units < Up) (hu':dep e<=1000):Uj A s u u' (c7 d e):=by
 cases q:ny e with
 | true=>rw [<-Ea hd he f q];exact Jp rv rw' (hd.flat f) (he.flat q)
 | false=>
  cases he with
  | tup h' hs'=>
   cases rw';obtain ⟨its',r',p'⟩:=F.t _ _ h';have:=(iN p' rv (hd.flat f) hu).2;cases hd <;> first | exact this | cases f
  | lst h' hs'=>
   cases rw';obtain ⟨its',r',p'⟩:=F.l _ _ h';have:=(jh p' rv (hd.flat f) hu).2;cases hd <;> first | exact this | cases f
  | emp _=>unfold dep at hu';omega
  | exn _ _ _ _ _=>unfold dep at hu';omega
  | dct _ _ _ _ _=>unfold dep at hu';omega
  | ob _ _=>unfold dep at hu';omega
  | _=>cases q
mutual
theorem BU (F:HF K J s):∀{d e:D}{v w:V}{u u':QH}(A:RA),Rep K J d v->Rep K J e w->RelV v u->RelV w u'->A.units + dep d < Up->dep d<=1000->dep e<=1000->Uj A s u u' (c7 d e)
 | .tup ds,e,_,w,u,u',A,.tup h hs,he,rv,rw',hu,hd1,hu'=>by
  cases rv;obtain ⟨Qx,r,p⟩:=F.t _ _ h;have N5:A.units < Up:=by unfold dep at hu;omega
  cases he with
  | tup h' hs'=>
   cases rw';obtain ⟨its',r',p'⟩:=F.t _ _ h';rename_i a vs b ws es;by_cases q:a=b
   ·subst q;have:=Rep.inj F (.tup h hs) (.tup h' hs') hd1 hu';rw [<-this,pU];exact Xe _
   ·have l1:Qx.length=ds.length:=by rw [<-r.length,hs.length]
    have l2:its'.length=es.length:=by rw [<-r'.length,hs'.length]
    simp only [c7];rw [<-wF,<-l1,<-l2];refine Ys q ?_;have:=YH (e:=lW ds es) p p' N5 λj j1 j2=>by
     have k1:j < ds.length:=by rw [<-l1];simpa using j1
     have k2:j < es.length:=by rw [<-l2];simpa using j2
     have:=kX F A.in1 hs hs' r r' (by rw [in1_units];unfold dep at hu;omega) (by unfold dep at hd1;omega) (by unfold dep at hu';omega) j k1 k2;have m1:j < Qx.length:=by simpa using j1
     have m2:j < its'.length:=by simpa using j2
     simpa [m1,m2] using this
    simpa using this
  | lst h' hs'=>
   cases rw';obtain ⟨its',r',p'⟩:=F.l _ _ h';exact aav p p' N5
  | non=>exact (iN p rw' rfl N5).1
  | bl _=>exact (iN p rw' rfl N5).1
  | int _=>exact (iN p rw' rfl N5).1
  | str _=>exact (iN p rw' rfl N5).1
  | emp _=>unfold dep at hu';omega
  | exn _ _ _ _ _=>unfold dep at hu';omega
  | dct _ _ _ _ _=>unfold dep at hu';omega
  | ob _ _=>unfold dep at hu';omega
 | .lst ds,e,_,w,u,u',A,.lst h hs,he,rv,rw',hu,hd1,hu'=>by
  cases rv;obtain ⟨Qx,r,p⟩:=F.l _ _ h;have N5:A.units < Up:=by unfold dep at hu;omega
  cases he with
  | lst h' hs'=>
   cases rw';obtain ⟨its',r',p'⟩:=F.l _ _ h';rename_i a vs b ws es;by_cases q:a=b
   ·subst q;have:=Rep.inj F (.lst h hs) (.lst h' hs') hd1 hu';rw [<-this,pU];exact Xe _
   ·have l1:Qx.length=ds.length:=by rw [<-r.length,hs.length]
    have l2:its'.length=es.length:=by rw [<-r'.length,hs'.length]
    simp only [c7];refine Ys q ?_;by_cases z:ds.length=es.length
    ·rw [<-lJ z,<-l1];have:=Y_ (e:=lW ds es) p p' (by simp;omega) N5 λj j1 j2=>by
      have k1:j < ds.length:=by rw [<-l1];simpa using j1
      have k2:j < es.length:=by rw [<-l2];simpa using j2
      have:=kX F A.in1 hs hs' r r' (by rw [in1_units];unfold dep at hu;omega) (by unfold dep at hd1;omega) (by unfold dep at hu';omega) j k1 k2;have m1:j < Qx.length:=by simpa using j1
      have m2:j < its'.length:=by simpa using j2
      simpa [m1,m2] using this
     simpa using this
    ·rw [lI z];exact Z5 p p' (by simp;omega) N5
  | tup h' hs'=>
   cases rw';obtain ⟨its',r',p'⟩:=F.t _ _ h';exact aaw p p' N5
  | non=>exact (jh p rw' rfl N5).1
  | bl _=>exact (jh p rw' rfl N5).1
  | int _=>exact (jh p rw' rfl N5).1
  | str _=>exact (jh p rw' rfl N5).1
  | emp _=>unfold dep at hu';omega
  | exn _ _ _ _ _=>unfold dep at hu';omega
  | dct _ _ _ _ _=>unfold dep at hu';omega
  | ob _ _=>unfold dep at hu';omega
 | .non,e,v,w,u,u',A,hd,he,rv,rw',hu,_,hu'=>qJ F A hd he rv rw' rfl (by omega) hu'
 | .bl _,e,v,w,u,u',A,hd,he,rv,rw',hu,_,hu'=>qJ F A hd he rv rw' rfl (by omega) hu'
 | .int _,e,v,w,u,u',A,hd,he,rv,rw',hu,_,hu'=>qJ F A hd he rv rw' rfl (by omega) hu'
 | .emp,e,v,w,u,u',A,hd,he,rv,rw',hu,hd1,hu'=>by unfold dep at hd1;omega
 | .exn _ _ _,e,v,w,u,u',A,hd,he,rv,rw',hu,hd1,hu'=>by unfold dep at hd1;omega
 | .dct _ _,e,v,w,u,u',A,hd,he,rv,rw',hu,hd1,hu'=>by unfold dep at hd1;omega
 | .ob _ _,e,v,w,u,u',A,hd,he,rv,rw',hu,hd1,hu'=>by unfold dep at hd1;omega
 | .str _,e,v,w,u,u',A,hd,he,rv,rw',hu,_,hu'=>qJ F A hd he rv rw' rfl (by omega) hu'
theorem kX (F:HF K J s):∀{ds es:List D}{vs ws:List V}{us us':List QH}(A:RA),aX K J ds vs->aX K J es ws->Vals vs us->Vals ws us'->A.units + deps ds < Up->deps ds<=1000->deps es<=1000->
  ∀(j:Nat) (h1:j < ds.length) (h2:j < es.length),Uj A s (us.getD j .none) (us'.getD j .none) (lW ds es j)
 | _,_,_,_,_,_,A,.cons h hs,.cons h' hs',.cons r rs,.cons r' rs',hu,k1,k2,0,_,_=>BU F A h h' r r' (by unfold deps at hu;omega) (by unfold deps at k1;omega) (by unfold deps at k2;omega)
 | _,_,_,_,_,_,A,.cons h hs,.cons h' hs',.cons r rs,.cons r' rs',hu,k1,k2,j + 1,h1,h2=>kX F A hs hs' rs rs' (by unfold deps at hu;omega) (by unfold deps at k1;omega) (by unfold deps at k2;omega) j (by simpa using h1) (by simpa using h2)
end
end
section
variable {K:QG}{J:Hp}{s:QL}
theorem C_ (F:HF K J s) (A:RA) (hd:Rep K J d v) (he:Rep K J e w) (rv:RelV v u) (rw':RelV w u') (hu:A.units + dep d < Up) (hd1:dep d<=1000) (hu':dep e<=1000):SeqAt.RcAt A s u u' (c7 d e)/\SeqAt.RcNeAt A s u u' (!c7 d e):=by
 have N5:A.units < Up:=by omega
 cases hd with
 | non=>
  cases rv;cases he with
  | non=>cases rw';exact ⟨.none_none,.none_none⟩
  | bl b=>cases rw';exact ⟨.none_bool b,.none_bool b⟩
  | int i=>obtain ⟨t,rfl⟩:=rw';exact ⟨.none_int i t,.none_int i t⟩
  | str x=>obtain ⟨t,rfl⟩:=rw';exact ⟨.none_str x t,.none_str x t⟩
  | tup h hs=>cases rw';obtain ⟨Qx,r,p⟩:=F.t _ _ h;exact ⟨.none_tuple p N5,.none_tuple p N5⟩
  | lst h hs=>cases rw';obtain ⟨Qx,r,p⟩:=F.l _ _ h;exact ⟨.none_list p N5,.none_list p N5⟩
  | emp _=>unfold dep at hu';omega
  | exn _ _ _ _ _=>unfold dep at hu';omega
  | dct _ _ _ _ _=>unfold dep at hu';omega
  | ob _ _=>unfold dep at hu';omega
 | bl a=>
  cases rv;cases he with
  | non=>cases rw';exact ⟨.bool_none a,.bool_none a⟩
  | bl b=>cases rw';exact ⟨.bool_bool a b,.bool_bool a b⟩
  | int i=>obtain ⟨t,rfl⟩:=rw';exact ⟨.bool_int a i t,.bool_int a i t⟩
  | str x=>obtain ⟨t,rfl⟩:=rw';exact ⟨.bool_str a x t,.bool_str a x t⟩
  | tup h hs=>cases rw';obtain ⟨Qx,r,p⟩:=F.t _ _ h;exact ⟨.bool_tuple a p N5,.bool_tuple a p N5⟩
  | lst h hs=>cases rw';obtain ⟨Qx,r,p⟩:=F.l _ _ h;exact ⟨.bool_list a p N5,.bool_list a p N5⟩
  | emp _=>unfold dep at hu';omega
  | exn _ _ _ _ _=>unfold dep at hu';omega
  | dct _ _ _ _ _=>unfold dep at hu';omega
  | ob _ _=>unfold dep at hu';omega
 | int a=>
  obtain ⟨t0,rfl⟩:=rv;cases he with
  | non=>cases rw';exact ⟨.int_none a t0,.int_none a t0⟩
  | bl b=>cases rw';exact ⟨.int_bool a t0 b,.int_bool a t0 b⟩
  | int i=>obtain ⟨t,rfl⟩:=rw';exact ⟨.int_int a t0 i t,.int_int a t0 i t⟩
  | str x=>obtain ⟨t,rfl⟩:=rw';exact ⟨.int_str a t0 x t,.int_str a t0 x t⟩
  | tup h hs=>cases rw';obtain ⟨Qx,r,p⟩:=F.t _ _ h;exact ⟨.int_tuple a t0 p N5,.int_tuple a t0 p N5⟩
  | lst h hs=>cases rw';obtain ⟨Qx,r,p⟩:=F.l _ _ h;exact ⟨.int_list a t0 p N5,.int_list a t0 p N5⟩
  | emp _=>unfold dep at hu';omega
  | exn _ _ _ _ _=>unfold dep at hu';omega
  | dct _ _ _ _ _=>unfold dep at hu';omega
  | ob _ _=>unfold dep at hu';omega
 | str a=>
  obtain ⟨t0,rfl⟩:=rv;cases he with
  | non=>cases rw';exact ⟨.str_none a t0,.str_none a t0⟩
  | bl b=>cases rw';exact ⟨.str_bool a t0 b,.str_bool a t0 b⟩
  | int i=>obtain ⟨t,rfl⟩:=rw';exact ⟨.str_int a t0 i t,.str_int a t0 i t⟩
  | str x=>obtain ⟨t,rfl⟩:=rw';exact ⟨.str_str a t0 x t,.str_str a t0 x t⟩
  | tup h hs=>cases rw';obtain ⟨Qx,r,p⟩:=F.t _ _ h;exact ⟨.str_tuple a t0 p N5,.str_tuple a t0 p N5⟩
  | lst h hs=>cases rw';obtain ⟨Qx,r,p⟩:=F.l _ _ h;exact ⟨.str_list a t0 p N5,.str_list a t0 p N5⟩
  | emp _=>unfold dep at hu';omega
  | exn _ _ _ _ _=>unfold dep at hu';omega
  | dct _ _ _ _ _=>unfold dep at hu';omega
  | ob _ _=>unfold dep at hu';omega
 | tup h hs=>
  cases rv;obtain ⟨Qx,r,p⟩:=F.t _ _ h;cases he with
  | non=>cases rw';exact ⟨.tuple_none p N5,.tuple_none p N5⟩
  | bl b=>cases rw';exact ⟨.tuple_bool b p N5,.tuple_bool b p N5⟩
  | int i=>obtain ⟨t,rfl⟩:=rw';exact ⟨.tuple_int i t p N5,.tuple_int i t p N5⟩
  | str x=>obtain ⟨t,rfl⟩:=rw';exact ⟨.tuple_str x t p N5,.tuple_str x t p N5⟩
  | lst h' hs'=>cases rw';obtain ⟨its',r',p'⟩:=F.l _ _ h';exact ⟨.tuple_list p p' N5,.tuple_list p p' N5⟩
  | emp _=>unfold dep at hu';omega
  | exn _ _ _ _ _=>unfold dep at hu';omega
  | dct _ _ _ _ _=>unfold dep at hu';omega
  | ob _ _=>unfold dep at hu';omega
  | tup h' hs'=>
   cases rw';obtain ⟨its',r',p'⟩:=F.t _ _ h';rename_i a vs ds b ws es;have l1:Qx.length=ds.length:=by rw [<-r.length,hs.length]
   have l2:its'.length=es.length:=by rw [<-r'.length,hs'.length]
   have it:∀(j:Nat) (j1:j < Qx.toArray.size) (j2:j < its'.toArray.size),Uj A.in1 s Qx.toArray[j] its'.toArray[j] (lW ds es j):=λj j1 j2=>by
    have k1:j < ds.length:=by rw [<-l1];simpa using j1
    have k2:j < es.length:=by rw [<-l2];simpa using j2
    have:=kX F A.in1 hs hs' r r' (by rw [in1_units];unfold dep at hu;omega) (by unfold dep at hd1;omega) (by unfold dep at hu';omega) j k1 k2;have m1:j < Qx.length:=by simpa using j1
    have m2:j < its'.length:=by simpa using j2
    simpa [m1,m2] using this
   simp only [c7];rw [<-wF,<-l1,<-l2];have q1:=YH p p' N5 it;have q2:=aaZ p p' N5 it;exact ⟨by simpa using q1,by simpa using q2⟩
 | emp _=>unfold dep at hd1;omega
 | exn _ _ _ _ _=>unfold dep at hd1;omega
 | dct _ _ _ _ _=>unfold dep at hd1;omega
 | ob _ _=>unfold dep at hd1;omega
 | lst h hs=>
  cases rv;obtain ⟨Qx,r,p⟩:=F.l _ _ h;cases he with
  | non=>cases rw';exact ⟨.list_none p N5,.list_none p N5⟩
  | bl b=>cases rw';exact ⟨.list_bool b p N5,.list_bool b p N5⟩
  | int i=>obtain ⟨t,rfl⟩:=rw';exact ⟨.list_int i t p N5,.list_int i t p N5⟩
  | str x=>obtain ⟨t,rfl⟩:=rw';exact ⟨.list_str x t p N5,.list_str x t p N5⟩
  | tup h' hs'=>cases rw';obtain ⟨its',r',p'⟩:=F.t _ _ h';exact ⟨.list_tuple p p' N5,.list_tuple p p' N5⟩
  | emp _=>unfold dep at hu';omega
  | exn _ _ _ _ _=>unfold dep at hu';omega
  | dct _ _ _ _ _=>unfold dep at hu';omega
  | ob _ _=>unfold dep at hu';omega
  | lst h' hs'=>
   cases rw';obtain ⟨its',r',p'⟩:=F.l _ _ h';rename_i a vs ds b ws es;have l1:Qx.length=ds.length:=by rw [<-r.length,hs.length]
   have l2:its'.length=es.length:=by rw [<-r'.length,hs'.length]
   have it:∀(j:Nat) (j1:j < Qx.toArray.size) (j2:j < its'.toArray.size),Uj A.in1 s Qx.toArray[j] its'.toArray[j] (lW ds es j):=λj j1 j2=>by
    have k1:j < ds.length:=by rw [<-l1];simpa using j1
    have k2:j < es.length:=by rw [<-l2];simpa using j2
    have:=kX F A.in1 hs hs' r r' (by rw [in1_units];unfold dep at hu;omega) (by unfold dep at hd1;omega) (by unfold dep at hu';omega) j k1 k2;have m1:j < Qx.length:=by simpa using j1
    have m2:j < its'.length:=by simpa using j2
    simpa [m1,m2] using this
   simp only [c7];by_cases z:ds.length=es.length
   ·rw [<-lJ z,<-l1];have q1:=Y_ p p' (by simp;omega) N5 it;have q2:=abb p p' (by simp;omega) N5 it;exact ⟨by simpa using q1,by simpa using q2⟩
   ·rw [lI z];exact ⟨.lists_lengths p p' (by simp;omega) N5,.lists_lengths p p' (by simp;omega) N5⟩
end
section
variable {X:Cx}{c:C}{e a b tg:Rz}{es:List Rz}{ga gb g:G R}{pos:Pos}
theorem RR.rep {He J H:Hp}(hp:HI c J H):∀{r:R}{v:V}{d:D},RR c He J H r v->(∀xs,r=.l .fresh xs\/r=.l .own xs\/r=.l .bor xs->d=.lst xs)->(∀x,r=.d x->d=x)->(∀ks vs,r≠.mo ks vs/\r≠.mb ks vs/\r≠.mf ks vs/\r≠.ln ks/\∀m k,r≠.o m k ks)->Rep c.K H d v
 | .o _ _ _,_,_,_,_,_,n=>((n _ []).2.2.2.2 _ _ rfl).elim
 | .mo _ _,_,_,_,_,_,n=>((n _ _).1 rfl).elim
 | .mb _ _,_,_,_,_,_,n=>((n _ _).2.1 rfl).elim
 | .mf _ _,_,_,_,_,_,n=>((n _ _).2.2.1 rfl).elim
 | .ln _,_,_,_,_,_,n=>((n _ []).2.2.2.1 rfl).elim
 | .d x,v,d,h,_,k,_=>by rw [k x rfl];exact Rep.mono hp.sub h
 | .l m xs,v,d,h,k,_,_=>by have e:d=.lst xs:=k xs (by cases m;exact .inl rfl;exact .inr (.inl rfl);exact .inr (.inr rfl));obtain ⟨a,vs,rfl,h1,h2⟩:=RR.list hp h rfl;rw [e];exact .lst h1 (h2.mono hp.sub)
noncomputable def R.dat:R->D
 | .d x=>x
 | .l _ xs=>.lst xs
 | .mo ks vs=>.dct ks vs
 | .mb ks vs=>.dct ks vs
 | .mf ks vs=>.dct ks vs
 | .ln xs=>.lst xs
 | .o _ k xs=>.ob k xs
theorem RR.dat {He J H:Hp}(hp:HI c J H){r:R}(h:RR c He J H r v):Rep c.K H r.dat v:=by
 by_cases hm:∃ks vs,r=.mo ks vs
 ·obtain ⟨ks,vs,rfl⟩:=hm;obtain ⟨a,rfl,h,_⟩:=h;exact h.rep hp.sub
 by_cases hb:∃ks vs,r=.mb ks vs
 ·obtain ⟨ks,vs,rfl⟩:=hb;obtain ⟨a,rfl,h⟩:=h;exact (h.mono (aW.refl _) hp.ent).rep hp.sub
 by_cases hf:∃ks vs,r=.mf ks vs
 ·obtain ⟨ks,vs,rfl⟩:=hf;obtain ⟨a,rfl,h,_⟩:=h;exact h.rep hp.sub
 by_cases hl:∃xs,r=.ln xs
 ·obtain ⟨xs,rfl⟩:=hl;obtain ⟨a,vs,rfl,h,_,_,h5⟩:=h;exact .lst (.inl (.inl h)) (h5.reps.mono hp.sub)
 by_cases ho:∃m k xs,r=.o m k xs
 ·obtain ⟨m,k,xs,rfl⟩:=ho;cases m with
  | fresh=>obtain ⟨a,rfl,⟨vs,h,h5⟩,_⟩:=h;exact .ob h (h5.mono hp.sub)
  | own=>obtain ⟨a,rfl,⟨vs,h,h5⟩,_⟩:=h;exact .ob h (h5.mono hp.sub)
  | bor=>obtain ⟨a,rfl,vs,h,h5⟩:=h;exact .ob (h.mono (hp.ent _)) (h5.mono hp.sub)
 refine h.rep hp (λxs q=>?_) (λx q=>by rw [q];rfl) λks vs=>⟨λz=>hm ⟨_,_,z⟩,λz=>hb ⟨_,_,z⟩,λz=>hf ⟨_,_,z⟩,λz=>hl ⟨_,z⟩,λm k z=>ho ⟨m,k,_,z⟩⟩;rcases q with q | q | q <;> (rw [q];rfl)
noncomputable def EU (K:QG) (neg:Bool):R2:=λx y H Q=>∃d e,Rep K H d x/\Rep K H e y/\dep d<=60/\dep e<=60/\Q (.bl (if neg then !c7 d e else c7 d e)) H
theorem k9 {H:Hp}(I:Inv X Qw σ H s):HF X.K H s:=HF.of (c:=⟨X.K,H,H,λ_=>True⟩) I (aW.refl H)
theorem CB (hu:X.A.units + 64 < Up):dH X (SI .Eq) (EU X.K false):=by intro Qw s σ H x y v u Q I rx ry h;obtain ⟨d,e,h1,h2,h3,h4,q⟩:=h;exact (C_ (k9 I) X.A h1 h2 rx ry (by omega) (by omega) (by omega)).1 X.prog X.w X.xe _ ⟨.bl _,H,I,rfl,q⟩
theorem Km (hu:X.A.units + 64 < Up):dH X (SI .NotEq) (EU X.K true):=by intro Qw s σ H x y v u Q I rx ry h;obtain ⟨d,e,h1,h2,h3,h4,q⟩:=h;exact (C_ (k9 I) X.A h1 h2 rx ry (by omega) (by omega) (by omega)).2 X.prog X.w X.xe _ ⟨.bl _,H,I,rfl,q⟩
noncomputable def bu (neg:Bool) (x y:R):M R:=if dep x.dat<=60/\dep y.dat<=60 then .ok (.d (.bl (if neg then !c7 x.dat y.dat else c7 x.dat y.dat))) else .bad
theorem Af (neg:Bool) (hK:X.K=c.K):BD c (EU X.K neg) (bu neg):=by
 intro He He' J H x y u v Q hp rx ry w;unfold bu at w;split at w
 ·rename_i hd;exact ⟨x.dat,y.dat,by rw [hK];exact rx.dat hp,by rw [hK];exact ry.dat hp,hd.1,hd.2,w _ J H (Ext.refl hp.sub) (.bl _)⟩
 ·exact w.elim
noncomputable def inD (d:D) (xs:List D):Bool:=xs.any λx=>c7 x d
noncomputable def EV (K:QG) (neg:Bool):R2:=λx y H Q=>∃d p vs ds,Rep K H d x/\dep d<=60/\y=.ref p/\(c6 K H p vs\/fP K H p vs)/\aX K H ds vs/\deps ds<=60/\Q (.bl (if neg then !inD d ds else inD d ds)) H
theorem uy {K:QG}{H:Hp}{y:QH}:∀{ds:List D}{vs:List V}{us:List QH},aX K H ds vs->Vals vs us->deps ds<=60->y∈us->∃d' v',Rep K H d' v'/\RelV v' y/\dep d'<=60
 | _,_,_,.nil,.nil,_,hy=>nomatch hy
 | _,_,_,.cons r hs,.cons q rs,hd,hy=>by
  unfold deps at hd;rcases QZ.mp hy with rfl | hy
  ·exact ⟨_,_,r,q,by omega⟩
  ·exact uy hs rs (by omega) hy
open Classical in
noncomputable def Ae (K:QG) (H:Hp) (d:D) (y:QH):Bool:=decide (∃d' v',Rep K H d' v'/\RelV v' y/\dep d'<=1000/\c7 d' d=true)
theorem yO {K:QG}{H:Hp}{s:QL}(F:HF K H s){d d':D}{v':V}{y:QH}(r':Rep K H d' v') (q':RelV v' y) (hd:dep d'<=1000):Ae K H d y=c7 d' d:=by
 classical
 unfold Ae;cases z:c7 d' d with
 | true=>exact decide_eq_true ⟨d',v',r',q',hd,z⟩
 | false=>
  refine decide_eq_false ?_;rintro ⟨d2,v2,r2,q2,hd2,z2⟩;have:v2=v':=q2.inj q';subst this;rw [Rep.inj F r2 r' hd2 hd] at z2;rw [z] at z2;cases z2
theorem vL {K:QG}{H:Hp}{s:QL}(F:HF K H s){d:D}:∀{ds:List D}{vs:List V}{us:List QH},aX K H ds vs->Vals vs us->deps ds<=1000->us.any (Ae K H d)=inD d ds
 | _,_,_,.nil,.nil,_=>rfl
 | _,_,_,.cons r hs,.cons q rs,hd=>by unfold deps at hd;unfold inD;rw [Sx,Sx,vL F hs rs (by omega),yO F r q (by omega)];rfl
theorem qB {A:RA}{s:QL}{K:QG}{H:Hp}(F:HF K H s){d:D}{x:V}{u:QH}(h:Rep K H d x) (rx:RelV x u) (OV:dep d<=60) (hA:A.units + 60 < Up){ds:List D}{vs:List V}{us:List QH}(hs:aX K H ds vs) (rs:Vals vs us) (hd:deps ds<=60):
  ∃e:QH->Bool,(∀y∈us,Uj A s y u (e y))/\us.any e=inD d ds:=by refine ⟨Ae K H d,λy hy=>?_,vL F hs rs (by omega)⟩;obtain ⟨d',v',r',q',hd'⟩:=uy hs rs hd hy;rw [yO F r' q' (by omega)];exact BU F A r' h q' rx (by omega) (by omega) (by omega)
theorem CC (hu:X.A.units + 64 < Up):dH X (SI .In) (EV X.K false):=by
 intro Qw s σ H x y v u Q I rx ry h;obtain ⟨d,p,vs,ds,h1,OV,rfl,h2,h3,h4,q⟩:=h;cases ry;have F:=k9 I;rcases h2 with h2 | h2
 ·obtain ⟨Qx,r,pl⟩:=F.l _ _ h2;obtain ⟨e,he,hany⟩:=qB (A:=X.A.in1) F h1 rx OV (by rw [in1_units];omega) h3 r h4;exact SeqAt.in_listAt e pl (λz hz=>he z (by simpa using hz)) ⟨.bl _,H,I,rfl,by rw [show Qx.toArray.any e=Qx.any e by simp,hany];exact q⟩
 ·obtain ⟨Qx,r,pl⟩:=F.t _ _ h2;obtain ⟨e,he,hany⟩:=qB (A:=X.A.in1) F h1 rx OV (by rw [in1_units];omega) h3 r h4;exact SeqAt.in_tupleAt e pl (λz hz=>he z (by simpa using hz)) ⟨.bl _,H,I,rfl,by rw [show Qx.toArray.any e=Qx.any e by simp,hany];exact q⟩
theorem CF (hu:X.A.units + 64 < Up):dH X (SI .NotIn) (EV X.K true):=by
 intro Qw s σ H x y v u Q I rx ry h;obtain ⟨d,p,vs,ds,h1,OV,rfl,h2,h3,h4,q⟩:=h;cases ry;have F:=k9 I;rcases h2 with h2 | h2
 ·obtain ⟨Qx,r,pl⟩:=F.l _ _ h2;obtain ⟨e,he,hany⟩:=qB (A:=X.A.in1) F h1 rx OV (by rw [in1_units];omega) h3 r h4;exact SeqAt.notIn_listAt e pl (λz hz=>he z (by simpa using hz)) ⟨.bl _,H,I,rfl,by rw [show Qx.toArray.any e=Qx.any e by simp,hany];exact q⟩
 ·obtain ⟨Qx,r,pl⟩:=F.t _ _ h2;obtain ⟨e,he,hany⟩:=qB (A:=X.A.in1) F h1 rx OV (by rw [in1_units];omega) h3 r h4;exact SeqAt.notIn_tupleAt e pl (λz hz=>he z (by simpa using hz)) ⟨.bl _,H,I,rfl,by rw [show Qx.toArray.any e=Qx.any e by simp,hany];exact q⟩
noncomputable def gM (neg:Bool) (x y:R):M R:=iP y >>= λys=>if deps ys<=60/\dep x.dat<=60 then .ok (.d (.bl (if neg then !inD x.dat ys else inD x.dat ys))) else .bad
theorem Ag (neg:Bool) (hK:X.K=c.K):BD c (EV X.K neg) (gM neg):=by
 intro He He' J H x y u v Q hp rx ry w;obtain ⟨ys,q,w⟩:=jE w;obtain ⟨p,vs,rfl,h1,h2⟩:=kT hp ry q;split at w
 ·rename_i hd;exact ⟨x.dat,p,vs,ys,by rw [hK];exact rx.dat hp,hd.2,rfl,by rw [hK];exact h1,by rw [hK];exact h2.mono hp.sub,hd.1,w _ J H (Ext.refl hp.sub) (.bl _)⟩
 ·exact w.elim
noncomputable abbrev GO:=G (Option Int)
noncomputable def tO (c:C) (g:GO):TO:=λσ H Q=>∃J env,SR c J H σ env/\cM (g env) (λo=>∀J' H',Ext J H J' H'->Q o H') c.T
noncomputable def IU (X:Cx) (c:C) (e:Option Rz) (g:GO):Prop:=PO X e (tO c g)
theorem F4 {X:Cx}{e:Option Rz}{t t':TO}(h:PO X e t) (k:∀σ H Q,t' σ H Q->t σ H Q):PO X e t':=λQw s σ H Q I q=>h Qw s σ H Q I (k σ H Q q)
noncomputable def uf:GO:=λ_=>.ok none
noncomputable def jq (g:G R):GO:=λenv=>g env >>= λr=>match r with
 | .d (.int i)=>.ok (some i)
 | _=>.bad
noncomputable def cutD (xs:List D) (lo hi:Option Int):List D:=(xs.drop (HT.bP xs.length 0 lo)).take (HT.bP xs.length xs.length hi - HT.bP xs.length 0 lo)
theorem aX.cut {K:QG}{J:Hp}{xs:List D}{vs:List V}(h:aX K J xs vs) (lo hi:Option Int):aX K J (cutD xs lo hi) (kF vs lo hi):=by unfold cutD kF;rw [h.length];exact (h.drop _).take _
noncomputable def k7 (f:R->Option Int->Option Int->M R) (g:G R) (lo hi:GO):G R:=λenv=>g env >>= λx=>lo env >>= λl=>hi env >>= λu=>f x l u
theorem L4 {r:V->Option Int->Option Int->Hp->VK->Prop}{f:R->Option Int->Option Int->M R}{lo hi:Option Rz}{gl gh:GO}{p2:Pos}(hr:qz X r) (hf:∀(He J H:Hp) (x:R) (v:V) (l u:Option Int) (Q:VK),HI c J H->RR c He J H x v->
   cM (f x l u) (λz=>∀w J' H',Ext J H J' H'->RR c H J' H' z w->Q w H') c.T->r v l u H Q) (h:PD X c e g) (hl:IU X c lo gl) (hh:IU X c hi gh):PD X c (.Subscript e (.Slice lo hi none p2) pos) (k7 f g gl gh):=
 eE (EF hr h hl hh) λσ H Q ⟨J,env,sr,w⟩=>by refine ⟨J,env,sr,aC (aI w) λx wx v J1 H1 e1 r1=>?_⟩;refine ⟨J1,env,sr.ext e1,aC (aI wx) λl wl J2 H2 e2=>?_⟩;refine ⟨J2,env,(sr.ext e1).ext e2,aC (aI wl) λu wu J3 H3 e3=>?_⟩;have ee:=(e1.trans e2).trans e3;exact hf H J3 H3 x v l u Q (sr.hp.ext ee) ((r1.ext e2).ext e3) (aC wu λz q w J' H' e4 r4=>q w J' H' (ee.trans e4) (RR.from ee.h r4))
noncomputable def M0 (x:R) (l u:Option Int):M R:=fS x >>= λxs=>.ok (.l .fresh (cutD xs l u))
theorem Ba {ss:List Str}:∀{us:List QH},Vals (ss.map V.str) us->Wf us ss:=by
 induction ss with
 | nil=>intro us h;cases h;exact .nil
 | cons x r ih=>
  intro us h;cases h with
  | cons q rs=>
   obtain ⟨t,rfl⟩:=q;exact .cons x t (ih rs)
theorem nW:∀{us:List QH}{ss:List Str},Wf us ss->Vals (ss.map V.str) us
 | _,_,.nil=>.nil
 | _,_,.cons y t h=>.cons ⟨t,rfl⟩ (nW h)
noncomputable def iQ (x y:Str):Bool:=decide (x.cps.toList<=y.cps.toList)
noncomputable def fm (ss:List Str):List Str:=ss.mergeSort iQ
theorem ur (x y z:Str) (h1:iQ x y=true) (h2:iQ y z=true):iQ x z=true:=by unfold iQ at *;exact decide_eq_true (List.le_trans (of_decide_eq_true h1) (of_decide_eq_true h2))
theorem Cn (x y:Str):(iQ x y || iQ y x)=true:=by
 unfold iQ;rw [S9];rcases List.le_total x.cps.toList y.cps.toList with h | h
 ·exact .inl (decide_eq_true h)
 ·exact .inr (decide_eq_true h)
theorem Es (h1:iQ x y=true) (h2:iQ y x=true):x=y:=by unfold iQ at *;have:=List.le_antisymm (of_decide_eq_true h1) (of_decide_eq_true h2);obtain ⟨⟨cx⟩⟩:=x;obtain ⟨⟨cy⟩⟩:=y;simp only at this;rw [this]
theorem nU (ss:List Str):(fm ss).Pairwise λx y=>iQ x y=true:=List.pairwise_mergeSort ur Cn ss
theorem gI (ss:List Str):(fm ss).Perm ss:=List.mergeSort_perm ss iQ
theorem rN:∀(x:Str) (r:List Str),risingS x r=true->(x::r).Pairwise λx y=>iQ x y=true
 | x,[],_=>by simp
 | x,y::r,h=>by
  unfold risingS at h;rw [Ra] at h;have hy:=rN y r h.2;have hxy:iQ x y=true:=by
   have h1:=h.1;rw [ltCps_eq] at h1;unfold iQ;refine decide_eq_true ?_;have:¬y.cps.toList < x.cps.toList:=by simpa using h1
   exact this
  refine V_.mpr ⟨λz hz=>?_,hy⟩;rcases QZ.mp hz with rfl | hz
  ·exact hxy
  ·exact ur x y z hxy ((V_.mp hy).1 z hz)
theorem rY {ss ss':List Str}(hp:ss'.Perm ss) (hs:sortedS ss'=true):ss'=fm ss:=by
 have pw:ss'.Pairwise λx y=>iQ x y=true:=by
  cases ss' with
  | nil=>exact Vg
  | cons x r=>exact rN x r hs
 exact (hp.trans (gI ss).symm).eq_of_pairwise (λx y _ _ h1 h2=>Es h1 h2) pw (nU ss)
theorem v5:fB X (.builtin "sorted") (λxs H Q=>∃p ss,xs=[.ref p]/\c6 X.K H p (ss.map V.str)/\ss.length < 64/\∀ss',ss'.Perm ss->sortedS ss'=true->∀l,H l=none->Q (.ref l) (upd H l (.lst (ss'.map V.str)))):=by
 intro Qw s σ H xs us Q I r h;obtain ⟨p,ss,rfl,hq,hl,q⟩:=h;obtain ⟨u,rfl,rx⟩:=vals1 r;cases rx;obtain ⟨Qx,r',pl,hz⟩:=I.list hq;have hlen:=r'.length;refine sorted_strs pl.isList (Ba r') (by rw [<-hlen,QN];exact hl) λout ss' a1 a2 a3=>?_;obtain ⟨n,hn⟩:=sortedAll_at s.heap Qx out;have kp:∀b o,s.heap.get? b=some o->(sortedAll s.heap Qx out).get? b=some o:=λb o e=>sortedAll_old e;have fr:H (s.heap.objs.size + 1)=none:=I.hok.fresh (Tg _);have ll:(ss'.map V.str).length=(ss.map V.str).length:=by rw [QN,QN,a2.length_eq]
 refine ⟨.ref (s.heap.objs.size + 1),_,I.laid (t':=s.toks) kp (Tg _) (show cu X.prog X.w _ _ _ (.lst (ss'.map V.str)) from ⟨by rw [ll];exact hz,out.toList,n,nW a1,by simpa [abd] using hn⟩),rfl,q ss' a2 a3 _ fr⟩
noncomputable def strsOf:List D->Option (List Str)
 | []=>some []
 | .str x::r=>(strsOf r).map (x::·)
 | _::_=>none
theorem mq {K:QG}{J:Hp}:∀{ds:List D}{vs:List V}{ss:List Str},strsOf ds=some ss->aX K J ds vs->vs=ss.map V.str
 | [],_,_,h,.nil=>by cases h;rfl
 | .str x::r,_,ss,h,.cons q rs=>by
  unfold strsOf at h;cases z:strsOf r with
  | none=>rw [z] at h;cases h
  | some ss'=>
   rw [z] at h;cases h;cases q;rw [mq z rs];rfl
theorem nP {K:QG}{J:Hp}:∀(ss:List Str),aX K J (ss.map D.str) (ss.map V.str)
 | []=>.nil
 | x::r=>.cons (.str x) (nP r)
noncomputable def jy:List R->M R
 | [r]=>fS r >>= λxs=>match strsOf xs with
  | some ss=>if ss.length < 64 then .ok (.l .fresh ((fm ss).map .str)) else .bad
  | none=>.bad
 | _=>.bad
theorem ng:Sm "sorted"=some (.builtin "sorted"):=by decide +kernel
theorem foldl_size (c:Array Nat):∀(k:Nat) (acc:Array Nat),((Rw k c).foldl (·++·) acc).size=acc.size + k * c.size
 | 0,acc=>by simp
 | k + 1,acc=>by rw [SA,VV,foldl_size c k,YI,aax];omega
noncomputable def fO (x:Str) (n:Nat):Str:=⟨(Rw n x.cps).foldl (·++·) #[]⟩
theorem yv (x:Str) (n:Nat):(fO x n).length=n * x.length:=by unfold fO YD;simp only;rw [foldl_size];simp
theorem Hi:dH X (UN .Mult) (λx y H Q=>∃z n,x=.str z/\y=.int n/\0<=n/\n<=1000/\z.length<=1000/\Q (.str (fO z n.toNat)) H):=by
 intro Qw s σ H x y v u Q I rx ry h;obtain ⟨z,n,rfl,rfl,h0,h1,h2,q⟩:=h;obtain ⟨t,rfl⟩:=rx;obtain ⟨t',rfl⟩:=ry;have hz:X6 (z.length * n.toNat)=false:=by have:z.length * n.toNat<=1000 * 1000:=ZP h2 (by omega);unfold X6;exact decide_eq_false (by have:=Sd;omega)
 refine PySem.P.mul_str (by
  rw [decide_eq_false (by omega:¬n < -(2 ^ 63:Int)),decide_eq_false (by omega:¬n ≥ 2 ^ 63)];rfl) (λhn _=>?_) (λ_ _=>hz) ?_
 ·have:(2 ^ 63 - 1:Int) / 1000<=(2 ^ 63 - 1) / n:=by refine (Int.le_ediv_iff_mul_le (by omega)).mpr ?_;have:(2 ^ 63 - 1:Int) / 1000 * n<=(2 ^ 63 - 1:Int) / 1000 * 1000:=Int.mul_le_mul_of_nonneg_left h1 (by decide);exact Int.le_trans this (by decide)
  have e:(2 ^ 63 - 1:Int) / 1000=9223372036854775:=by decide
  omega
 ·split
  ·rename_i hn;have e:n=0:=by omega
   subst e;exact ⟨by decide,.str _,H,I.tok _,⟨_,rfl⟩,q⟩
  ·split
   ·rename_i hn hc;have e:fO z n.toNat=z:=by
     unfold fO;rw [S9] at hc;rcases hc with hc | hc
     ·have e:n=1:=by simpa using hc
      subst e;simp
     ·have e:z.length=0:=by simpa using hc
      have e2:z.cps=#[]:=by unfold YD at e;exact Array.eq_empty_of_size_eq_zero e
      obtain ⟨cz⟩:=z;simp only at e2;subst e2;congr 1;generalize n.toNat=k
      induction k with
      | zero=>rfl
      | succ k ih=>rw [SA,VV];exact ih
    rw [e] at q;exact ⟨.str z,H,I,⟨_,rfl⟩,q⟩
   ·exact ⟨by
     have:=yv z n.toNat
     unfold fO at this;rw [this,aay];have:z.length * n.toNat<=1000 * 1000:=ZP h2 (by omega);rw [Sd];omega,.str _,H,I.tok _,⟨_,rfl⟩,q⟩
noncomputable def Au:R->R->M R
 | .d (.str z),.d (.int n)=>if 0<=n/\n<=1000/\z.length<=1000 then .ok (.d (.str (fO z n.toNat))) else .bad
 | _,_=>.bad
noncomputable def cj:D->String
 | .non=>"NoneType"
 | .bl _=>"bool"
 | .int _=>"int"
 | .str _=>"str"
 | .tup _=>"tuple"
 | .lst _=>"list"
 | .emp=>"dict"
 | .exn _ _ _=>"exc"
 | .dct _ _=>"dict"
 | .ob _ _=>"exc"
noncomputable def bX (t T:String):Bool:=t == T || (t == "bool" && T == "int")
noncomputable def FT:R->Bool
 | .d (.int _)=>true
 | _=>false
noncomputable def MI:R->Bool
 | .d (.str _)=>true
 | _=>false
noncomputable def bA (x y:R):M R:=if FT x then Jr x y else if MI x then Ar x y else As x y
noncomputable def cO (x y:R):M R:=if FT x then Ju x y else Au x y
noncomputable def aP (x y:R):M R:=match x,y with
 | .d (.str z),.d (.int i)=>if z.length<=sizeLine then (match jN z.cps.toList i with
  | some k=>.ok (.d (.str ⟨#[k]⟩))
  | none=>.bad) else .bad
 | x,.d (.int i)=>iP x >>= λxs=>(match jN xs i with
  | some d=>.ok (.d d)
  | none=>.bad)
 | _,_=>.bad
noncomputable def bS (P:Q2) (w:Ro) (K:QG) (mg:Str->Option QH) (base:Sa) (k n:Nat) (x:Str) (Fm:List S->M R):Prop:=
 ∃f fd ps,eG P w K mg base jH k f fd ps (mW K n Fm)/\mg x=some (.ref f)/\RL K (.ref f)=true/\Binds K fd ps []
theorem Jd {P:Q2}{w:Ro}{K:QG}{mg:Str->Option QH}{base:Sa}{x QA:Str}{st:TR}{f:Q4}{fd:Rp}{N ps:List Str}{k:Nat}{Fm:List S->M R}(F:fF K x QA st f fd) (hm:mg x=some (.ref f)) (Sc:cJ N ps (aN st))
  (hbi:∀(kV doc pm:QH) (an:Option Q4) (cdv ct:QH) (us:List QH),us.length=ps.length->Vn (Rv x QA (cD st) (bM st) (aN st) .none kV doc pm an cdv ct) ⟨us,[]⟩=pure (ps.zip us)){gB:G O}
  (hb:∀(cdv:QH) (A:RA) (outer:List Env) (s:QL) (H:Hp) (E:XK) (J:Hp) (T:Exc->Prop),cR k (A.deeper (Va QA (aN st) s.heap.objs.size f cdv))->
   Fi (qE P w K mg base N QA (aN st) f cdv A outer s H E) ⟨K,H,J,T⟩ (bM st) gB)
  (hF:∀as r,as.length=ps.length->Fm as=.ok r->fin (gB (aD N as))=.ok r):bS P w K mg base (k + 1) ps.length x Fm:=
 ⟨f,fd,ps,BY F Sc hb hF,hm,F.kp,F.binds hbi⟩
noncomputable def EA:List Str->Bool
 | []=>true
 | x::r=>!(r.contains x) && EA r
theorem fh:∀{l:List Str},EA l=true->l.Nodup
 | [],_=>UH
 | x::r,h=>by unfold EA at h;rw [Ra] at h;refine S8.mpr ⟨λz=>?_,fh h.2⟩;have:=h.1;simp [z] at this
theorem Eb {H:Hp}{s:QL}{a C:Q4}{dx:Option Q4}(I:L2.Inv X Qw σ H s) (h:H a=some (DX.XO a C dx)) (xf:XF H dx ns vs):∃ox od,Ui s.heap a ox C od/\od.isSome=dx.isSome/\(∀d,dx=some d->∃o,od=some o/\s.heap.get? d=some o):=by
 obtain ⟨⟨oe,fs,h1,h2,h3,h4⟩,_⟩:=I.hok a _ h;have hn:ZQ oe=true:=by unfold ZQ;rw [h4]
 rcases xf with ⟨rfl,_⟩ | ⟨d,rfl,_,hd⟩
 ·exact ⟨oe,none,⟨h1,h2,hn,by rw [h3];exact TN⟩,rfl,λd z=>by cases z⟩
 ·obtain ⟨m,⟨o,es,ep,k1,_⟩,_⟩:=I.hok d _ hd;exact ⟨oe,some o,⟨h1,h2,hn,by rw [h3];exact k1⟩,rfl,λd' z=>by cases z;exact ⟨o,rfl,k1⟩⟩
noncomputable def Fe (T:String):Prop:=(∀(K:QG) (t:String),t∈["NoneType","bool","int","str","tuple","list","dict"]->Vp K (.type t) (.type T)=some (bX t T))/\Xg T=true/\DX.nY.contains (.type T)=false/\bX "exc" T=false/\bX "dict" T=false
theorem Nx:Fe "int":=⟨λK t h=>by
 simp only [QZ,SN,or_false] at h;rcases h with rfl | rfl | rfl | rfl | rfl | rfl | rfl <;> rfl,by decide +kernel,by decide,by decide,by decide⟩
theorem En:Fe "bool":=⟨λK t h=>by
 simp only [QZ,SN,or_false] at h;rcases h with rfl | rfl | rfl | rfl | rfl | rfl | rfl <;> rfl,by decide +kernel,by decide,by decide,by decide⟩
theorem yj {T:String}(kit:Fe T):
  fB X (.builtin "isinstance") (λxs H Q=>∃d x,xs=[x,.ty T]/\Rep X.K H d x/\Q (.bl (bX (cj d) T)) H):=by
 intro Qw s σ H xs us Q I r h;obtain ⟨d,x,rfl,hd,q⟩:=h;obtain ⟨u,w',rfl,rx,ry⟩:=vals2 r;cases ry;have fin:∀tk,EP X Qw σ Q (.bool (bX (cj d) T)) {s with toks:=tk}:=λtk=>⟨.bl _,H,I.tok tk,rfl,q⟩;have F:=k9 I;cases hd with
 | non=>cases rx;exact Se W.kitx_none I.kIn TN (kit.1 X.K _ (by simp [cj])) (λz=>nomatch z) fin
 | bl y=>cases rx;exact Se W.kitx_bool I.kIn TN (kit.1 X.K _ (by simp [cj])) (λz=>nomatch z) fin
 | int i=>obtain ⟨t,rfl⟩:=rx;exact Se W.kitx_int I.kIn TN (kit.1 X.K _ (by simp [cj])) (λz=>nomatch z) fin
 | str y=>obtain ⟨t,rfl⟩:=rx;exact Se W.kitx_str I.kIn TN (kit.1 X.K _ (by simp [cj])) (λz=>nomatch z) fin
 | tup h hs=>
  cases rx;obtain ⟨Qx,r,o,h1,h2,_⟩:=F.t _ _ h;exact Se W.kitx_tuple I.kIn ⟨o,h1,h2⟩ (kit.1 X.K _ (by simp [cj])) (λz=>nomatch z) fin
 | lst h hs=>
  cases rx;obtain ⟨Qx,r,o,h1,h2,_⟩:=F.l _ _ h;exact Se W.kitx_list I.kIn ⟨o,h1,h2⟩ (kit.1 X.K _ (by simp [cj])) (λz=>nomatch z) fin
 | emp h=>
  cases rx;obtain ⟨o,h1,h2⟩:=F.e _ h;exact Se Vh I.kIn ⟨o,h1,h2⟩ (kit.1 X.K _ (by simp [cj])) (λz=>nomatch z) fin
 | dct h _ _ _ _=>
  cases rx;obtain ⟨o,es,h1,h2,_⟩:=F.d _ _ _ h;exact Se Vh I.kIn ⟨o,h1,h2.1⟩ (kit.1 X.K _ (by simp [cj])) (λz=>nomatch z) fin
 | @ob a k xs vs h hs=>
  cases rx;cases k with
  | txt ss=>
   obtain ⟨_,h2,_⟩:=h;obtain ⟨_,_,vs,_,o,es,ep,h1,h2,_⟩:=(show cu X.prog X.w H s.heap a _ from I.hok a _ h2);simp only [cj,kit.2.2.2.1] at fin;exact Se Vh I.kIn ⟨o,h1,h2.1⟩ ((kit.1 X.K _ (by simp)).trans (congrArg some kit.2.2.2.2)) (λz=>nomatch z) fin
  | mem dom f=>
   obtain ⟨_,h2⟩:=h;obtain ⟨_,_,_,_,_,_,o,es,ep,h1,h2,_⟩:=(show cu X.prog X.w H s.heap a _ from I.hok a _ h2);simp only [cj,kit.2.2.2.1] at fin;exact Se Vh I.kIn ⟨o,h1,h2.1⟩ ((kit.1 X.K _ (by simp)).trans (congrArg some kit.2.2.2.2)) (λz=>nomatch z) fin
  | ins cls ns=>
   obtain ⟨C,dx,_,ik,_,h3⟩:=h;obtain ⟨mA,O,_⟩:=sW I.hok h3;obtain ⟨od,J,_⟩:=O.look;simp only [cj,kit.2.2.2.1] at fin;exact Se (W.kitx_own (ik.cl.get _) ik.cl.hd ik.ha ik.hn ik.htk ik.hm) I.kIn J (ik.no T kit.2.1 kit.2.2.1) (λz=>nomatch z) fin
 | exn h1 h2 h3 hs hx=>
  cases rx;obtain ⟨P,G,E⟩:=hx;obtain ⟨ox,od,J,_⟩:=Eb I h1 h3;simp only [cj,kit.2.2.2.1] at fin;exact Se (DX.Eo G E) I.kIn ⟨ox,od,J⟩ (DX.JU E kit.2.1 kit.2.2.1) (λz=>nomatch z) fin
noncomputable def cL (T:String) (g:G R):G R:=λenv=>g env >>= λr=>.ok (.d (.bl (bX (cj r.dat) T)))
noncomputable def Fw:List D->Option (List Bool)
 | []=>some []
 | .bl k::r=>(Fw r).map (k::·)
 | _::_=>none
noncomputable def MY:List R->M R
 | [r]=>fS r >>= λxs=>match Fw xs with
  | some ks=>.ok (.d (.bl (ks.all id)))
  | none=>.bad
 | _=>.bad
noncomputable def MZ (neg:Bool):R->R->M R
 | .d (.str i),.d (.str j)=>.ok (.d (.bl (if neg then !(!(U6 j i 0 j.length 1).isEmpty) else !(U6 j i 0 j.length 1).isEmpty)))
 | _,_=>.bad
theorem Hr (hm:X.mg x=some u) (r:RelV v u) (hr:∀J,Rep c.K J d v) (hg:autoParam (Gl X x) zA._auto_1) (hd:autoParam ((x == ("__debug__":Str))=false) zB._auto_1):PD X c (.Name x pos) (gC d):=rD hr (tG hg hm r hd)
theorem By {H:Hp}{s:QL}(I:Inv X Qw σ H s):RY < s.heap.objs.size:=by have h:Q_ < s.heap.objs.size:=(I.mod.glob.keeps I.bk).lt;exact Sf (by decide) h
noncomputable def NY:R->R->M R
 | .d (.tup xs),.d (.tup ys)=>if xs.length + ys.length<=sizeLine then .ok (.d (.tup (xs++ys))) else .bad
 | _,_=>.bad
noncomputable def NH:R->Bool
 | .d (.tup _)=>true
 | _=>false
noncomputable def intsOf:List D->Option (List Int)
 | []=>some []
 | .int i::r=>(intsOf r).map (i::·)
 | _::_=>none
theorem qX {K:QG}{J:Hp}:∀{ds:List D}{vs:List V}{ns:List Int},intsOf ds=some ns->aX K J ds vs->vs=ns.map V.int
 | [],_,_,h,.nil=>by cases h;rfl
 | .int x::r,_,ks,h,.cons q rs=>by
  unfold intsOf at h;cases z:intsOf r with
  | none=>rw [z] at h;cases h
  | some ks'=>
   rw [z] at h;cases h;cases q;rw [qX z rs];rfl
noncomputable def Jt:R->R->M R
 | .d (.int i),.d (.int j)=>.ok (.d (.bl (decide (i < j))))
 | .d (.str i),.d (.str j)=>.ok (.d (.bl (decide (i.cps.toList < j.cps.toList))))
 | .d (.tup xs),.d (.tup ys)=>match intsOf xs,intsOf ys with
  | some ns,some ms=>.ok (.d (.bl (HT.lexLt ns ms)))
  | _,_=>.bad
 | _,_=>.bad
noncomputable def signs (x:Str):List D:=x.cps.toList.map λk=>.str ⟨#[k]⟩
noncomputable def M1 (g:G R):G (List D):=λenv=>g env >>= λr=>match r with
 | .d (.str x)=>.ok (signs x)
 | _=>.bad
theorem yE {prog:Q2}{w:Ro}{A:RA}{E:QH->QL->Prop}{s:QL}{t sl:Q4}{items:Array QH}{vl vu:QH}{lo hi:Option Int}{Q:QH->QL->Prop}(ht:IsTup s.heap t items) (hs:s.heap.IsSliceOf sl vl vu .none) (pl:Yi vl lo) (pu:Yi vu hi)
  (hw:HT.bP items.size 0 lo=0/\HT.bP items.size items.size hi=items.size) (h:Q (.ref t) s):Q8 (Rb prog w) A (VQ (.ref t) (.ref sl)) Q E s:=by
 obtain ⟨os,hos,hcs,hds⟩:=id hs;have O7:s.TypeIs (.ref sl) "slice":=⟨os,hos,hcs⟩;unfold VQ
 try with_reducible refine RJ ?_
 first | refine QF (QJ ?_) | skip
 refine QF (Wr ht.typeIs (by decide) ?_);refine QF (Sj (name:=UU "__getitem__") ht.typeIs Ru
  (RX Ru ht.typeIs VR ?_ (V8 _ _)))
 show Q8 _ _ (UD (.ref t) >>= _) _ _ s;refine QF (Yk ht ?_);refine QF (UW O7 ?_);rw [if_pos (by decide)];refine QF (HT.j3 hs pl pu ?_);have hyes:(((HT.bP items.size 0 lo:Nat):Int) == 0 && (1:Int) == 1 && (HT.bP items.size items.size hi - HT.bP items.size 0 lo) == items.size)=true:=by rw [hw.1,hw.2];simp
 show Q8 _ _ (if (((HT.bP items.size 0 lo:Nat):Int) == 0 && (1:Int) == 1 && (HT.bP items.size items.size hi - HT.bP items.size 0 lo) == items.size)=true then _ else _) _ _ s;rw [if_pos hyes];unfold ZG;refine QF (QF (UW ht.typeIs (QJ ?_)));rw [if_pos (by decide)];exact QF (VL (QJ ⟨_,rfl,QJ h⟩))
theorem Di:qz X (λx lo hi H Q=>∃a xs,x=.ref a/\fP X.K H a xs/\((HT.bP xs.length 0 lo=0/\HT.bP xs.length xs.length hi=xs.length)->Q (.ref a) H)/\∀p,H p=none->Q (.ref p) (upd H p (.tup (kF xs lo hi)))):=by
 intro Qw s σ H x v vl vu lo hi sl Q I rx hs pl pu h;obtain ⟨a,xs,rfl,hx,q0,q1⟩:=h;by_cases hw:HT.bP xs.length 0 lo=0/\HT.bP xs.length xs.length hi=xs.length
 ·cases rx;obtain ⟨Qx,r,ht,hz⟩:=I.tuple hx;have hlen:Qx.toArray.size=xs.length:=by rw [Q3];exact r.length.symm
  exact ⟨"tuple",_,Ru.lookup,ht.typeIs,yE ht hs pl pu (by rw [hlen];exact hw) ⟨.ref a,H,I,rfl,q0 hw⟩⟩
 ·exact Lg Qw s σ H (.ref a) v vl vu lo hi sl Q I rx hs pl pu ⟨a,xs,rfl,hx,hw,q1⟩
theorem Ao {xs:List D}{lo hi:Option Int}(h:HT.bP xs.length 0 lo=0/\HT.bP xs.length xs.length hi=xs.length):cutD xs lo hi=xs:=by unfold cutD;rw [h.1,h.2];simp
noncomputable def Ec:R->Option Int->Option Int->M R
 | .d (.tup xs),l,u=>.ok (.d (.tup (cutD xs l u)))
 | _,_,_=>.bad
theorem Ni (hK:X.K=c.K) (He J H:Hp) (x:R) (v:V) (l u:Option Int) (Q:VK) (hp:HI c J H) (rx:RR c He J H x v) (w:cM (Ec x l u) (λz=>∀w J' H',Ext J H J' H'->RR c H J' H' z w->Q w H') c.T):
  ∃a xs,v=.ref a/\fP X.K H a xs/\((HT.bP xs.length 0 l=0/\HT.bP xs.length xs.length u=xs.length)->Q (.ref a) H)/\∀p,H p=none->Q (.ref p) (upd H p (.tup (kF xs l u))):=by
 unfold Ec at w;split at w
 ·rename_i ds;cases rx with
  | tup h1 s1=>
   refine ⟨_,_,rfl,by rw [hK];exact gj hp.sub h1,λhw=>?_,λp hp'=>w _ _ _ (Ext.newJ hp.sub hp' _) (lB hp hp' (s1.cut _ _))⟩;rw [<-s1.length] at hw;rw [Ao hw] at w;exact w _ J H (Ext.refl hp.sub) (.tup h1 s1)
 ·exact w.elim
noncomputable def iW (x:R) (l u:Option Int):M R:=if NH x then Ec x l u else M0 x l u
theorem yw {prog:Q2}{w:Ro}{A:RA}{E:QH->QL->Prop}{s:QL}{sl:Q4}{t:Tok}{n:Nat}{Q:Int×Int×Nat->QL->Prop}(hs:s.heap.IsSliceOf sl .none .none (.int (-1) t))
  (h:Q ((n:Int) - 1,-1,n) s):Q8 (Rb prog w) A (TJ (.ref sl) (pure (n:Int))) Q E s:=by
 obtain ⟨os,hos,hcs,hds⟩:=id hs;unfold TJ We;refine QF (QF (VP hos hds (x:=.none) rfl (QF (VP hos hds (x:=.none) rfl (QF (VP hos hds (x:=.int (-1) t) rfl (QJ ?_)))))));refine QF (aad ?_);show Q8 _ _ (if ((-1:Int) == 0)=true then _ else _) _ _ s;rw [if_neg (by decide)];refine QF (Wc (QF (Wc (QF (QJ ?_)))));have e1:S0 none none (-1) (n:Int)=((n:Int) - 1,-1):=rfl;have e2:RU ((n:Int) - 1) (-1) (-1)=n:=by
  unfold RU;rw [if_neg (by decide)];split
  ·simp only [Int.neg_neg,aat];omega
  ·omega
 show Q8 _ _ (match S0 none none (-1) (n:Int) with | (lo,hi)=>pure (lo,(-1:Int),RU lo hi (-1))) _ _ s;rw [e1];show Q8 _ _ (pure ((n:Int) - 1,(-1:Int),RU ((n:Int) - 1) (-1) (-1))) _ _ s;rw [e2];exact QJ h
theorem BX {α β:Type}{f:α->Option β}{g:α->β}:∀(l:List α),(∀m∈l,f m=some (g m))->l.filterMap f=l.map g
 | [],_=>rfl
 | x::r,h=>by rw [UQ,h x QT,Ri];simp only;rw [BX r λm hm=>h m (QO _ hm)]
theorem EI (xs:Array QH):((QX xs.size).filterMap λ(m:Nat)=>xs[(((xs.size:Int) - 1) + (m:Int) * (-1)).toNat]?)=xs.toList.reverse:=by
 have e:((QX xs.size).filterMap λ(m:Nat)=>xs[(((xs.size:Int) - 1) + (m:Int) * (-1)).toNat]?)=(QX xs.size).map λm=>(xs.toList.reverse).getD m .none:=by
  refine BX _ λm hm=>?_;have hm':m < xs.size:=Rc.mp hm;have e1:(((xs.size:Int) - 1) + (m:Int) * (-1)).toNat=xs.size - 1 - m:=by omega
  rw [e1];simp [Ry,hm',Xi,show xs.size - 1 - m < xs.size by omega]
 rw [e];refine UO (by simp) λi h1 h2=>?_;simp [Ry];have:i < xs.size:=by simpa using h1
 simp [Xi,this,show xs.size - 1 - i < xs.size by omega]
theorem Dv {prog:Q2}{w:Ro}{A:RA}{E:QH->QL->Prop}{s:QL}{t sl:Q4}{items:Array QH}{k:Tok}{Q:QH->QL->Prop}(ht:IsTup s.heap t items) (hs:s.heap.IsSliceOf sl .none .none (.int (-1) k))
  (h:Q (.ref s.heap.objs.size) {s with heap:=s.heap.push {cls:=.type "tuple",data:=.seq items.toList.reverse.toArray}}) (hsz:items.size<=sizeLine):Q8 (Rb prog w) A (VQ (.ref t) (.ref sl)) Q E s:=by
 obtain ⟨os,hos,hcs,hds⟩:=id hs;have O7:s.TypeIs (.ref sl) "slice":=⟨os,hos,hcs⟩;have Ob:sizeOk (.seq items.toList.reverse.toArray):=by show items.toList.reverse.toArray.size<=sizeLine;simpa using hsz
 unfold VQ
 try with_reducible refine RJ ?_
 first | refine QF (QJ ?_) | skip
 refine QF (Wr ht.typeIs (by decide) ?_);refine QF (Sj (name:=UU "__getitem__") ht.typeIs Ru
  (RX Ru ht.typeIs VR ?_ (V8 _ _)))
 show Q8 _ _ (UD (.ref t) >>= _) _ _ s;refine QF (Yk ht ?_);refine QF (UW O7 ?_);rw [if_pos (by decide)];refine QF (yw hs ?_);have hno:¬((((items.size:Int) - 1) == 0 && (-1:Int) == 1 && items.size == items.size)=true):=by intro q;rw [Ra,Ra] at q;exact absurd (eq_of_beq q.1.2) (by decide)
 show Q8 _ _ (if (((items.size:Int) - 1) == 0 && (-1:Int) == 1 && items.size == items.size)=true then _ else _) _ _ s;rw [if_neg hno,EI]
 first
  | exact QF (m:=RZ _) (Rq (QJ ⟨_,rfl,QJ h⟩) Ob)
  | exact QF (m:=RZ _) (Rq (QF (QJ (QJ ⟨_,rfl,QJ h⟩))) Ob)
  | exact QF (QF (m:=RZ _) (Rq (QJ (QJ ⟨_,rfl,QJ h⟩)) Ob))
  | exact QF (QF (m:=RZ _) (Rq (QJ ⟨_,rfl,QJ h⟩) Ob))
theorem aX.rev {K:QG}{J:Hp}:∀{ds:List D}{vs:List V},aX K J ds vs->aX K J ds.reverse vs.reverse
 | _,_,.nil=>.nil
 | _,_,.cons h hs=>by rw [Vf,Vf];exact (aX.rev hs).append (.cons h .nil)
noncomputable def Jz (g:G R):G R:=λenv=>g env >>= λr=>match r with
 | .d (.tup xs)=>.ok (.d (.tup xs.reverse))
 | _=>.bad
noncomputable def zT (K:QG) (mg:Str->Option QH) (x:Str) (d:D):Prop:=∃u v,mg x=some u/\RelV v u/\∀J,Rep K J d v
theorem L6 {j:Nat}{p q:Pos}:PE X (.UnaryOp .USub (.Constant (.int 1) j p) q) (tC (.int (-1))):=eE (F2 DB xD) λσ H Q h=>⟨1,rfl,h⟩
theorem Aj:Sm "bool"=some (.type "bool"):=by decide +kernel
end
section
variable {X:Cx}{c:C}{e a b tg:Rz}{es:List Rz}{ga gb g:G R}{pos:Pos}{st:TR}{t u:G O}{tb:G Bool}
noncomputable def oz:G O:=λ_=>.bad
noncomputable def iH (g:G R):G R:=λenv=>g env >>= λr=>match r with
 | .d (.int i)=>.ok (.d (.int (-i)))
 | _=>.bad
noncomputable def E4:R->M Bool
 | .d .non=>.ok false
 | .d (.bl b)=>.ok b
 | .d (.int i)=>.ok (i != 0)
 | .d (.str y)=>if y.length<=sizeLine then .ok ((y.length:Int) != 0) else .bad
 | .d (.tup xs)=>.ok (!xs.isEmpty)
 | .d (.lst xs)=>.ok (!xs.isEmpty)
 | .d .emp=>.ok false
 | .d (.exn _ _ _)=>.bad
 | .d (.dct _ _)=>.bad
 | .d (.ob _ _)=>.bad
 | .l _ xs=>.ok (!xs.isEmpty)
 | _=>.bad
theorem JL {K:QG}{J:Hp}{ds:List D}{vs:List V}(h:aX K J ds vs):ds.isEmpty=vs.isEmpty:=by cases h <;> rfl
theorem Ip {He J H:Hp}(hp:HI c J H){Q:Bool->Prop}{T:Exc->Prop}:∀{r:R}{v:V},RR c He J H r v->cM (E4 r) Q T->∃k,DN c.K v H k/\Q k
 | .d .non,_,h,w=>by cases h;exact ⟨_,rfl,w⟩
 | .d (.bl b),_,h,w=>by cases h;exact ⟨_,rfl,w⟩
 | .d (.int i),_,h,w=>by cases h;exact ⟨_,rfl,w⟩
 | .d (.str y),_,h,w=>by
  cases h;unfold E4 at w;simp only at w;split at w
  ·rename_i hz;exact ⟨_,⟨hz,rfl⟩,w⟩
  ·exact w.elim
 | .d (.tup xs),_,h,w=>by
  cases h with
  | tup h1 h2=>exact ⟨_,.inr (.inl ⟨_,gj hp.sub h1,rfl⟩),by rw [<-JL h2];exact w⟩
 | .d (.lst xs),_,h,w=>by
  cases h with
  | lst h1 h2=>exact ⟨_,.inl ⟨_,hp.sub.seq h1,rfl⟩,by rw [<-JL h2];exact w⟩
 | .d .emp,_,h,w=>by
  cases h with
  | emp h1=>exact ⟨_,.inr (.inr ⟨_,hp.sub _ _ h1,rfl⟩),w⟩
 | .d (.exn _ _ _),_,_,w=>w.elim
 | .d (.dct _ _),_,_,w=>w.elim
 | .d (.ob _ _),_,_,w=>w.elim
 | .mo _ _,_,_,w=>w.elim
 | .mb _ _,_,_,w=>w.elim
 | .mf _ _,_,_,w=>w.elim
 | .ln _,_,_,w=>w.elim
 | .o _ _ _,_,_,w=>w.elim
 | .l m xs,_,h,w=>by obtain ⟨a,vs,rfl,h1,h2⟩:=RR.list hp h rfl;exact ⟨_,.inl ⟨_,h1,rfl⟩,by rw [<-JL h2];exact w⟩
noncomputable def JA (g:G R):G Bool:=λenv=>g env >>= E4
noncomputable def j4 (tb:G Bool) (u:G O):Nat->Ev->M O
 | 0,_=>.bad
 | n + 1,env=>tb env >>= λk=>if k=true then u env >>= λo=>(match o with
  | .nx e=>j4 tb u n e
  | .ct e=>j4 tb u n e
  | .bk e=>.ok (.nx e)
  | .rt r=>.ok (.rt r)) else .ok (.nx env)
noncomputable def wM (n:Nat) (tb:G Bool) (u:G O):G O:=λenv=>j4 tb u n env
theorem aX.dropLast {K:QG}{J:Hp}{ds:List D}{vs:List V}(h:aX K J ds vs):aX K J ds.dropLast vs.dropLast:=by rw [Xj,Xj,h.length];exact h.take _
noncomputable def wL (i j:Nat):G O:=λenv=>match env[j]? with
 | some (some (.own xs))=>(match xs[xs.length - 1]? with
  | some d=>.ok (.nx ((env.set j (some (.own xs.dropLast))).set i (some (.d d))))
  | none=>.bad)
 | _=>.bad
end
open PySem.AutoSeq1 in
theorem BV (T:String) (hT:T="tuple"\/T="list") (l b:Q4) (xs ys:Array QH) (n m:Nat) (dd:Option Q4) (sl:Array (Option QH)) (z0:¬(!xs.isEmpty && Td (xs.size + ys.size))=true) (z1:xs.size<=sizeLine) (z2:xs.size + ys.size<=sizeLine + 1):
  Meets (WB.«list.extend» ⟨[.ref l,.ref b],[]⟩) λ_ R s=>s.heap.get? l=some {cls:=.type "list",dict:=none,data:=.seq xs n,slots:=#[]}/\
   s.heap.get? b=some {cls:=.type T,dict:=dd,data:=.seq ys m,slots:=sl}/\R (.ok (.ret SS)) {s with heap:=s.heap.update l (T7 λx=>x++ys),toks:=s.toks}:=
 .of_wp λprog w A R s h=>by
  obtain ⟨hp,gs,dr,tk,os⟩:=s;obtain ⟨h1,h2,h3⟩:=h;have t1:=AutoSeq1.idx_int;have t2:=AutoSeq1.sub_tuple_tuple;have t3:=AutoSeq1.sub_list_list;have t4:=AutoSeq1.sub_tuple_list;have t5:=AutoSeq1.sub_list_tuple;have z3:(xs++ys).size<=sizeLine + 1:=by rw [YI];exact z2
  rcases hT with rfl | rfl
  ·wp_walk using (S_ h1 rfl (hz:=z1) (_hz':=z3)),VX h1,VX h2
   exact ⟨_,rfl,h3⟩
  ·wp_walk using (S_ h1 rfl (hz:=z1) (_hz':=z3)),VX h1,VX h2
   exact ⟨_,rfl,h3⟩
section
variable {X:Cx}{c:C}{e a b tg:Rz}{es:List Rz}{ga gb g:G R}{pos:Pos}
noncomputable def M8 (K:QG):V->List V->Hp->VK->Prop:=λx vs H Q=>∃l b xs zs,x=.ref l/\vs=[.ref b]/\H l=some (.lst xs)/\(c6 K H b zs\/fP K H b zs)/\xs.length + zs.length<=sizeLine/\Q .non (upd H l (.lst (xs++zs)))
theorem JX:Ff X "list.extend" (M8 X.K):=by
 intro Qw s σ H x vs v us Q I rx rv h;obtain ⟨l,b,xs,zs,rfl,rfl,hH,hB,hz,q⟩:=h;cases rx;obtain ⟨u,rfl,ru⟩:=rv.one;cases ru;obtain ⟨z,Qx,n,r,hl,e⟩:=I.lstM hH;have obj:∃T its2,(T="tuple"\/T="list")/\Vals zs its2/\∃dd m sl,s.heap.get? b=some {cls:=.type T,dict:=dd,data:=.seq its2.toArray m,slots:=sl}:=by
  rcases hB with hB | hB
  ·obtain ⟨its2,r2,pl,_⟩:=I.list hB;obtain ⟨⟨cls,dd,data,sl⟩,ho,hc,m,hd⟩:=pl.isList;simp only at hc hd;subst hc hd;exact ⟨"list",its2,.inr rfl,r2,dd,m,sl,ho⟩
  ·obtain ⟨its2,r2,pl,_⟩:=I.tuple hB;obtain ⟨⟨cls,dd,data,sl⟩,ho,hc,m,hd⟩:=pl;simp only at hc hd;subst hc hd;exact ⟨"tuple",its2,.inl rfl,r2,dd,m,sl,ho⟩
 obtain ⟨T,its2,hT,r2,dd,m,sl,e2⟩:=obj;have hl2:=r2.length;have hsz:Qx.toArray.size + its2.toArray.size<=sizeLine:=by rw [Q3,Q3];omega
 have OJ:¬(!Qx.toArray.isEmpty && Td (Qx.toArray.size + its2.toArray.size))=true:=by rw [xw hsz,Vo];exact RQ
 refine YE Yq ⟨_,e,rfl⟩ X3 (XJ _ _) (BV T hT l b Qx.toArray its2.toArray n m dd sl OJ (by rw [Q3];omega) (by omega)) ⟨e,e2,?_⟩;refine ⟨.non,_,I.lset (its':=Qx++its2) hH e (by simp) (r.append r2) ?_,rfl,q⟩;rw [QU];omega
noncomputable def wK (i:Nat) (g:G R):G O:=λenv=>match env[i]? with
 | some (some (.own xs))=>g env >>= λr=>iP r >>= λys=>if xs.length + ys.length<=sizeLine then .ok (.nx (env.set i (some (.own (xs++ys))))) else .bad
 | _=>.bad
noncomputable def xA:V->Option (Option Bool)
 | .non=>some none
 | .bl k=>some (some k)
 | _=>none
theorem EY (rx:RelV x v) (ry:RelV y u) (h:xA y=some o):isSame v u=pure (xA x == some o):=by
 cases y with
 | non=>
  cases h;cases ry;cases x with
  | non=>cases rx;rfl
  | bl k=>cases rx;rfl
  | int i=>obtain ⟨t,rfl⟩:=rx;rfl
  | str z=>obtain ⟨t,rfl⟩:=rx;rfl
  | byt z=>obtain ⟨t,rfl⟩:=rx;rfl
  | flt z=>obtain ⟨t,rfl⟩:=rx;rfl
  | ref p=>cases rx;rfl
  | ty n=>cases rx;rfl
 | bl k'=>
  cases h;cases ry;cases x with
  | non=>cases rx;rfl
  | bl k=>cases rx;cases k <;> cases k' <;> rfl
  | int i=>obtain ⟨t,rfl⟩:=rx;rfl
  | str z=>obtain ⟨t,rfl⟩:=rx;rfl
  | byt z=>obtain ⟨t,rfl⟩:=rx;rfl
  | flt z=>obtain ⟨t,rfl⟩:=rx;rfl
  | ref p=>cases rx;rfl
  | ty n=>cases rx;rfl
 | _=>cases h
theorem Kf:dH X (SI .Is) (λx y H Q=>∃o,xA y=some o/\Q (.bl (xA x == some o)) H):=by intro Qw s σ H x y v u Q I rx ry h;obtain ⟨o,ho,q⟩:=h;show Q8 _ _ (do return Yz (<-isSame v u)) _ _ s;rw [EY rx ry ho];exact QF (QJ (QJ ⟨.bl _,H,I,rfl,q⟩))
noncomputable def AV:R->Option (Option Bool)
 | .d .non=>some none
 | .d (.bl k)=>some (some k)
 | _=>none
noncomputable def FI (neg:Bool) (x y:R):M R:=match AV y with
 | some o=>.ok (.d (.bl (if neg then !(AV x == some o) else AV x == some o)))
 | none=>.bad
theorem zx {He J H:Hp}:∀{r:R}{v:V},RR c He J H r v->xA v=AV r
 | .d .non,_,h=>by cases h;rfl
 | .d (.bl _),_,h=>by cases h;rfl
 | .d (.int _),_,h=>by cases h;rfl
 | .d (.str _),_,h=>by cases h;rfl
 | .d (.tup _),_,h=>by cases h;rfl
 | .d (.lst _),_,h=>by cases h;rfl
 | .d .emp,_,h=>by cases h;rfl
 | .d (.exn _ _ _),_,h=>by cases h;rfl
 | .d (.dct _ _),_,h=>by cases h;rfl
 | .d (.ob _ _),_,h=>by cases h;rfl
 | .l .fresh _,_,h=>by obtain ⟨_,_,rfl,_⟩:=h;rfl
 | .l .own _,_,h=>by obtain ⟨_,_,rfl,_⟩:=h;rfl
 | .l .bor _,_,h=>by obtain ⟨_,_,rfl,_⟩:=h;rfl
 | .mo _ _,_,h=>by obtain ⟨_,rfl,_⟩:=h;rfl
 | .mb _ _,_,h=>by obtain ⟨_,rfl,_⟩:=h;rfl
 | .mf _ _,_,h=>by obtain ⟨_,rfl,_⟩:=h;rfl
 | .ln _,_,h=>by obtain ⟨_,_,rfl,_⟩:=h;rfl
 | .o .fresh _ _,_,h=>by obtain ⟨_,rfl,_⟩:=h;rfl
 | .o .own _ _,_,h=>by obtain ⟨_,rfl,_⟩:=h;rfl
 | .o .bor _ _,_,h=>by obtain ⟨_,rfl,_⟩:=h;rfl
end
inductive jG (K:QG):List (Str×D)->List (Str×QH)->Prop
 | nil:jG K [] []
 | cons {k:Str}{d:D}{v:V}{u:QH}{r:List (Str×D)}{rs:List (Str×QH)}:RelV v u->(∀J,Rep K J d v)->jG K r rs->jG K ((k,d)::r) ((k,u)::rs)
noncomputable def i9 (QC:List (Str×D)) (k:Str):Option D:=(QC.find? λp=>p.1=k).map (·.2)
theorem jG.get {K:QG}{QC:List (Str×D)}{us:List (Str×QH)}(h:jG K QC us) (k:Str):(∀d,i9 QC k=some d->∃u v,UR us k=some u/\RelV v u/\∀J,Rep K J d v)/\(UR us k).isSome=(i9 QC k).isSome:=by
 induction h with
 | nil=>exact ⟨(λd z=>nomatch z),rfl⟩
 | @cons k' d' v u r rs h1 h2 h3 ih=>
  by_cases e:k'=k
  ·have e1:i9 ((k',d')::r) k=some d':=by simp [i9,R8,e]
   have e2:UR ((k',u)::rs) k=some u:=by simp [UR,R8,e]
   rw [e1,e2];exact ⟨λd z=>by cases z;exact ⟨u,v,rfl,h1,h2⟩,rfl⟩
  ·have e1:i9 ((k',d')::r) k=i9 r k:=by simp [i9,R8,e]
   have e2:UR ((k',u)::rs) k=UR rs k:=by simp [UR,R8,e]
   rw [e1,e2];exact ih
noncomputable def qi (K:QG) (w:Ro) (mg:Str->Option QH) (x:Str) (QC:List (Str×D)):Prop:=
 ∃(a:Q4) (us:List (Str×QH)),mg x=some (.ref a)/\(a == RY)=false/\(∀(P:Q2) (h:Sa),K.In h->h.DictOf (WD P w) a us)/\jG K QC us
section
variable {X:Cx}{c:C}{e a b tg i:Rz}{es:List Rz}{ga gb g:G R}{pos:Pos}
theorem Em:m9 X (λx y H Q=>∃a us k u v,x=.ref a/\y=.str k/\(∀(P:Q2) (h:Sa),X.K.In h->h.DictOf (WD P X.w) a us)/\UR us k=some u/\RelV v u/\Q v H):=by intro value slice Qw s σ H x y v u Q I rx ry h hs;obtain ⟨a,us,k,u',v',rfl,rfl,hd,hv,r,q⟩:=h;cases rx;obtain ⟨t,rfl⟩:=ry;have dd:=hd X.prog s.heap I.kIn;exact aaf dd.typeIs UI.lookup (Za (by show Tp k (.str k t)=true;simp [Tp]) dd.mapOf hv ⟨v',H,I.tok _,r,q⟩) hs
theorem Ke:dH X (SI .In) (λx y H Q=>∃a us k,x=.str k/\y=.ref a/\(a == RY)=false/\(∀(P:Q2) (h:Sa),X.K.In h->h.DictOf (WD P X.w) a us)/\Q (.bl (UR us k).isSome) H):=by intro Qw s σ H x y v u Q I rx ry h;obtain ⟨a,us,k,rfl,rfl,hn,hd,q⟩:=h;obtain ⟨t,rfl⟩:=rx;cases ry;have dd:=hd X.prog s.heap I.kIn;exact wpAny_in_of (by show Tp k (.str k t)=true;simp [Tp]) hn dd.mapOf ⟨.bl _,H,I.tok _,rfl,q⟩
noncomputable def Ay (QC:List (Str×D)) (g:G R):G R:=λenv=>g env >>= λr=>match r with
 | .d (.str k)=>(match i9 QC k with
  | some d=>.ok (.d d)
  | none=>.bad)
 | _=>.bad
noncomputable def Jy (neg:Bool) (QC:List (Str×D)) (g:G R):G R:=λenv=>g env >>= λr=>match r with
 | .d (.str k)=>.ok (.d (.bl (if neg then !(i9 QC k).isSome else (i9 QC k).isSome)))
 | _=>.bad
end
noncomputable def D_ (w:Ro) (p:Str×Tok×QH):W8:=⟨R1 w.params p.1,.str p.1 p.2.1,p.2.2⟩
theorem xB {P:Q2}{w:Ro}:∀(es:List (Str×Tok×QH)),PySem.Pairs (WD P w) (es.map (D_ w)) (es.map λp=>(p.1,p.2.2))
 | []=>.nil
 | p::r=>.cons (by show Tp p.1 (.str p.1 p.2.1)=true;simp [Tp]) rfl (xB r)
theorem wc {K:QG}{w:Ro}{mg:Str->Option QH}{h0:Sa}{x:Str}{f:Q4}{ep:Nat}{QC:List (Str×D)}(es:List (Str×Tok×QH)) (X:K.In h0) (G:h0.Ns Q_ mg)
  (g:Rn K Q_ x=some (some (.ref f))) (l:K.lookup f=some {cls:=.type "dict",data:=.dict (es.map (D_ w)).toArray ep}) (nd:(es.map (·.1)).Nodup) (hs:(f == RY)=false) (hp:jG K QC (es.map λp=>(p.1,p.2.2))):qi K w mg x QC:=by
 refine ⟨f,es.map λp=>(p.1,p.2.2),R9 X G g,hs,λP h hK=>?_,hp⟩;refine ⟨_,_,_,hK f _ l,⟨rfl,rfl,rfl⟩,rfl,λe he=>?_,xB es,?_⟩
 ·have he':e∈es.map (D_ w):=by simpa using he
  obtain ⟨p,_,rfl⟩:=Rg.mp he';exact ⟨p.1,by show Tp p.1 (.str p.1 p.2.1)=true;simp [Tp],rfl⟩
 ·rw [R3];exact nd
noncomputable def tw (m:Int) (ns:List Int):Int:=ns.foldl (λm b=>if b > m then b else m) m
section
variable {prog:Q2}{w:Ro}{A:RA}{R:XU->QL->Prop}{I:Q4}{fp wr:List Q4}{St:Nat->Sa->Prop}{us:Array QH}{ns:List Int}{S:Q4}{dv:QH}
theorem rB:(toString "max"++toString ".loop":String)="max.loop":=by decide
theorem JG {a b:Int}{t u:Tok}{s:QL}{Q:QH->QL->Prop}{E:QH->QL->Prop}(h:Q (.bool (decide (a > b))) s):Q8 (Rb prog w) A (richCompare .Gt (.int a t) (.int b u)) Q E s:=
 richCompare_gives (op:=.Gt) (Z3 s a t) (Z3 s b u) F.slot_int_gt F.entry_int_gt (F.args_int_gt_2 _ _) (gives_int_gt _ _ t u) (λz=>nomatch z) h
theorem G7 (W:Walks prog w A.in1 I fp wr us.size (λi v=>us[i]?=some v) St) (hSf:S∉fp) (hu:∀(i:Nat) (v:QH),us[i]?=some v->∃t,v=.int (ns.getD i 0) t) (hl:us.size=ns.length):
  ∀(k j:Nat) (s:QL) (m:Int) (t:Tok) (c:Nat),ns.length - (j + 1)=k->j + 1<=ns.length->St (j + 1) s.heap->s.heap.get? S=some {cls:=.type "list",dict:=none,data:=.seq #[.int m t,.int m t] c,slots:=#[]}->
  (∀(t':Tok) (h':Sa) (tk:Nat),(∀b o,b∉wr->b≠S->s.heap.get? b=some o->h'.get? b=some o)->R (.ok (.ret (.int (tw m (ns.drop (j + 1))) t'))) {s with heap:=h',toks:=tk})->
  SQ (Rb prog w) A (.builtin "max.loop" ⟨[.ref I,.none,.ref S],[("default",dv)]⟩) R s:=by
 have OW:S∉wr:=λz=>hSf (W.sub _ z);intro k
 induction k with
 | zero=>
  intro j s m t c hk hj hst hS hR;have hin:j + 1=us.size:=by omega
  (refine So WS ?_);rw [RW TQ _]
  (show Q8 _ A.in1 (Yt (.ref S) >>= _) _ _ s);refine QF (Vq hS rfl ?_)
  (show Q8 _ A.in1 (tryCatch (U_ (.ref I)) _ >>= _) _ _ s);refine QF (Vr (W.done s _ _ (hin▸hst) λh1 tk k1=>?_))
  have OT:=k1 S _ OW hS
  (show Q8 _ A.in1 (Xk S (λ_=>#[]) >>= _) _ _ _);refine QF (S_ OT rfl (QF (X7 (QJ ?_))))
  have z:=hR t (h1.update S (T7 λ_=>#[])) tk λb o hb OP e=>(RK _ _ (Sb OP)).trans (k1 b o hb e);rw [Vb (by omega)] at z;exact z
 | succ k ih=>
  intro j s m t c hk hj hst hS hR;have hlt:j + 1 < us.size:=by omega
  (refine So WS ?_);rw [RW TQ _]
  (show Q8 _ A.in1 (Yt (.ref S) >>= _) _ _ s);refine QF (Vq hS rfl ?_)
  (show Q8 _ A.in1 (tryCatch (U_ (.ref I)) _ >>= _) _ _ s);refine QF (Vr (W.item (j + 1) s _ _ hlt hst λv h1 tk hP OS k1=>?_))
  have OT:=k1 S _ OW hS;obtain ⟨t1,rfl⟩:=hu _ _ hP;have hd:ns.drop (j + 1)=ns.getD (j + 1) 0::ns.drop (j + 1 + 1):=by rw [TY (by omega:j + 1 < ns.length),Ry,Q5 (by omega:j + 1 < ns.length)];rfl
  rw [hd] at hR;generalize ns.getD (j + 1) 0=y at hR hP ⊢
  (show Q8 _ A.in1 (tryCatch (holding [UY y t1,UY y t1] (richCompare .Gt (UY y t1) (UY m t) >>= _)) _ >>= _) _ _ _);refine QF (Vr (RJ (QF (JG ?_))))
  (refine QF (RJ (Tt ?_)));refine QF (X7 (QJ ?_))
  by_cases hb:y > m
  ·rw [decide_eq_true hb];simp only [if_true]
   (refine QF (S_ OT rfl (QF (X7 ?_))));rw [rB]
   refine QJ ⟨S4 TQ _,ih (j + 1) _ y t1 _ (by omega) (by omega) (W.frame _ _ _ OS λb Pe o e=>?_) (Sg _ OT rfl) λt2 h2 tk2 k2=>?_⟩
   ·exact (RK _ _ (λz:S=b=>hSf (z▸Pe))).trans e
   ·have q:=hR t2 h2 tk2 λb o OU OP e=>k2 b o OU OP ((RK _ _ (Sb OP)).trans (k1 b o OU e));have e:tw m (y::ns.drop (j + 1 + 1))=tw y (ns.drop (j + 1 + 1)):=by show abi _ (if y > m then y else m) _=_;rw [if_pos hb];rfl
    rw [e] at q;exact q
  ·rw [decide_eq_false hb]
   (simp only [RI,if_false]);(refine QF (X7 ?_));rw [rB]
   refine QJ ⟨S4 TQ _,ih (j + 1) _ m t c (by omega) (by omega) OS OT λt2 h2 tk2 k2=>?_⟩;have q:=hR t2 h2 tk2 λb o OU OP e=>k2 b o OU OP (k1 b o OU e);have e:tw m (y::ns.drop (j + 1 + 1))=tw m (ns.drop (j + 1 + 1)):=by show abi _ (if y > m then y else m) _=_;rw [if_neg hb];rfl
   rw [e] at q;exact q
noncomputable def kM (d:Int):List Int->Int
 | []=>d
 | n::r=>tw n r
theorem AO (W:Walks prog w A.in1 I fp wr us.size (λi v=>us[i]?=some v) St) (hSf:S∉fp) (hu:∀(i:Nat) (v:QH),us[i]?=some v->∃t,v=.int (ns.getD i 0) t) (hl:us.size=ns.length){d:Int}{td:Tok}{s:QL}{c:Nat}(hst:St 0 s.heap)
  (hS:s.heap.get? S=some {cls:=.type "list",dict:=none,data:=.seq #[] c,slots:=#[]})
  (hR:∀(t':Tok) (h':Sa) (tk:Nat),(∀b o,b∉wr->b≠S->s.heap.get? b=some o->h'.get? b=some o)->R (.ok (.ret (.int (kM d ns) t'))) {s with heap:=h',toks:=tk}):
  SQ (Rb prog w) A (.builtin "max.loop" ⟨[.ref I,.none,.ref S],[("default",.int d td)]⟩) R s:=by
 have OW:S∉wr:=λz=>hSf (W.sub _ z)
 (refine So WS ?_);rw [RW TQ _]
 (show Q8 _ A.in1 (Yt (.ref S) >>= _) _ _ s);refine QF (Vq hS rfl ?_)
 (show Q8 _ A.in1 (tryCatch (U_ (.ref I)) _ >>= _) _ _ s)
 cases ns with
 | nil=>
  have h0:(0:Nat)=us.size:=hl.symm;refine QF (Vr (W.done s _ _ (h0▸hst) λh1 tk k1=>?_));refine QF (VL (QJ ?_));exact hR td h1 tk λb o hb _ e=>k1 b o hb e
 | cons y r=>
  have hn:0 < us.size:=by rw [hl];exact Xl _
  refine QF (Vr (W.item 0 s _ _ hn hst λv h1 tk hP OS k1=>?_));have OT:=k1 S _ OW hS;obtain ⟨t1,rfl⟩:=hu _ _ hP
  (show Q8 _ A.in1 (Xk S (λ_=>#[UY ((y::r).getD 0 0) t1,UY ((y::r).getD 0 0) t1]) >>= _) _ _ _);refine QF (S_ OT rfl ?_)
  rw [rB];refine QJ ⟨S4 TQ _,G7 W hSf hu hl _ 0 _ y t1 _ rfl (Xl _) (W.frame _ _ _ OS λb Pe o e=>?_) (Sg _ OT rfl) λt2 h2 tk2 k2=>?_⟩
  ·exact (RK _ _ (λz:S=b=>hSf (z▸Pe))).trans e
  ·exact hR t2 h2 tk2 λb o OU OP e=>k2 b o OU OP ((RK _ _ (Sb OP)).trans (k1 b o OU e))
end
section
variable {prog:Q2}{w:Ro}{A:RA}{E:QH->QL->Prop}{s:QL}{l:Q4}{us:Array QH}{ns:List Int}
theorem Bx (a d:QH):Z6 "max" ⟨[a],[("default",d)]⟩:=by
 unfold Z6
 kernel_rfl
theorem BG {d:Int}{td:Tok}{Q:QH->QL->Prop}(hh:A.handled=none) (hl:s.heap.IsList l us) (hu:∀(i:Nat) (v:QH),us[i]?=some v->∃t,v=.int (ns.getD i 0) t) (hn:us.size=ns.length)
  (h:∀(t':Tok) (h':Sa) (tk:Nat),(∀b o,s.heap.get? b=some o->h'.get? b=some o)->Q (.int (kM d ns) t') {s with heap:=h',toks:=tk}):Q8 (Rb prog w) A (call (.builtin "max") [.ref l] [("default",.int d td)]) Q E s:=by
 have ha:=Bx (.ref l) (.int d td);refine Wo (VB F.plain_max F.entry_max ?_);have core:Q8 (Rb prog w) A.in1 (WB.«max» ⟨[.ref l],[("default",.int d td)]⟩) (λfin s'=>match fin with
   | .done f=>(match (Except.ok f:XU) with | .ok (.ret v)=>Q v s' | .ok _=>False | .error e=>E e s')
   | .again c'=>c'.quiet=true/\SQ (Rb prog w) A c' (λr s'=>match r with | .ok (.ret v)=>Q v s' | .ok _=>False | .error e=>E e s') s') E s:=by
  show Q8 _ A.in1 (VY "max" ["key","default"] 0 ⟨[],[("default",.int d td)]⟩ >>= _) _ _ s;refine QF (US (show VY "max" ["key","default"] 0 ⟨[],[("default",.int d td)]⟩=pure [none,some (.int d td)] by rfl) ?_);refine QF (QJ ?_);have hlt:l < s.heap.objs.size:=by obtain ⟨_,e,_⟩:=hl;exact Q6 e
  refine QF (Ws hl ?_);refine QF (Rq ?_);rw [rB];generalize hs2:s.heap.push {cls:=.type "list_iterator",data:=.fields #[.ref l,.int 0 0]}=H2;have hI:H2.IsListIter s.heap.objs.size l 0:=by rw [<-hs2];exact ⟨_,QW _ rfl,rfl,rfl⟩
  have hL:H2.IsList l us:=by rw [<-hs2];exact hl.push _
  have sz:H2.objs.size=s.heap.objs.size + 1:=by rw [<-hs2,Sh]
  have W:=abj (prog:=prog) (w:=w) (A:=A.in1) (show A.in1.handled=none from hh) s.heap.objs.size l (Q7 hlt) us;have hSf:H2.objs.size∉[s.heap.objs.size,l]:=λz=>by
   rcases QZ.mp z with z | z
   ·exact absurd (sz.symm.trans z) (Nat.succ_ne_self _)
   ·rw [QK] at z;exact absurd z.symm (Q7 (by rw [sz];exact SW hlt))
  refine QJ ⟨S4 TQ _,AO W hSf hu hn (W.frame _ _ _ ⟨hI,hL⟩ λb _ o e=>QM _ e) (QW _ rfl) λt' h' tk k=>?_⟩;refine h t' h' tk λb o e=>?_;have e2:H2.get? b=some o:=by rw [<-hs2];exact QM _ e
  have lt:=Q6 e;exact k b o (λz=>absurd (QK.mp z) (Q7 lt)) (Q7 (by rw [sz];exact SW lt)) (QM _ e2)
 simp only [Vw,F.kind_max];cases Px:Manifest.signature? "max" with
 | none=>exact QJ core
 | some sig=>
  simp only [Z6,Px] at ha;have h2:ZR "max" sig ⟨[.ref l],[("default",.int d td)]⟩=pure ():=ha;show Q8 _ A.in1 (ZR "max" sig ⟨[.ref l],[("default",.int d td)]⟩) _ _ s;rw [h2];exact QJ core
end
section
variable {X:Cx}{c:C}{e a b tg i:Rz}{es:List Rz}{ga gb g:G R}{pos:Pos}
noncomputable def qP (d:Int) (g:G R):G R:=λenv=>g env >>= λr=>fS r >>= λxs=>match intsOf xs with
 | some ns=>.ok (.d (.int (kM d ns)))
 | none=>.bad
theorem Iv {ns:List Int}{Qx:List QH}(r:Vals (ns.map V.int) Qx) (i:Nat) (v:QH) (h:Qx.toArray[i]?=some v):∃t,v=.int (ns.getD i 0) t:=by
 have h':Qx[i]?=some v:=by simpa using h
 have hl:=r.length;rw [QN] at hl;have hi:i < ns.length:=by rw [hl];exact (Rt.mp h').1
 obtain ⟨u,hu,ru⟩:=r.get (show (ns.map V.int)[i]?=some (.int ns[i]) by rw [Rh,Q5 hi];rfl);rw [h'] at hu;cases hu;obtain ⟨t,rfl⟩:=ru;exact ⟨t,by rw [Ry,Q5 hi];rfl⟩
end
theorem sG {P:Q2}{w:Ro}{K:QG}{mg:Str->Option QH}{base:Sa}{x QA:Str}{st:TR}{f:Q4}{fd:Rp}{ps:List Str}{k:Nat}{Fm:List S->M R}(F:fF K x QA st f fd) (hm:mg x=some (.ref f))
  (hbi:∀(kV doc pm:QH) (an:Option Q4) (cdv ct:QH) (us:List QH),us.length=ps.length->Vn (Rv x QA (cD st) (bM st) (aN st) .none kV doc pm an cdv ct) ⟨us,[]⟩=pure (ps.zip us))
  (hF:∀as,Fm as=.bad):bS P w K mg base k ps.length x Fm:=
 ⟨f,fd,ps,⟨λvs H Q E ⟨J,as,_,_,_,h⟩=>(by rw [hF as] at h;exact h.elim),λA outer s H args us vs Q E _ _ _ _ ⟨J,as,_,_,_,h⟩=>(by rw [hF as] at h;exact h.elim)⟩,hm,F.kp,F.binds hbi⟩
section
variable {X:Cx}{c:C}{e a b d tg:Rz}{es:List Rz}{ga gb g:G R}{pos:Pos}
noncomputable def M4 (K:QG) (tl:TE):TI:=λσ H R=>tl σ H λx H1=>∃a,x=.ref a/\(((∃xs,c6 K H1 a xs)/\R (E_ K a) H1)\/((∃xs,fP K H1 a xs)/\R (Fd K a) H1))
theorem CM {tl:TE}(hl:PE X e tl):PI X tg e (M4 X.K tl):=λQw s σ H R I h=>bU (hl Qw s σ H _ I h) λv s1 ⟨x,H1,I1,r1,a,ex,q1⟩=>by
 subst ex;cases r1;have fp:∀b∈[s1.heap.objs.size],jn X Qw H1 b:=λb hb=>by rw [QK] at hb;subst hb;exact I1.fpOk (QV _) (I1.hok.fresh (QV _))
 rcases q1 with ⟨⟨xs,hq⟩,q⟩ | ⟨⟨xs,hq⟩,q⟩
 ·obtain ⟨Qx,rv,p,hz⟩:=I1.list hq;exact Ws p.isList ⟨s1.heap.objs.size,[s1.heap.objs.size],_,_,H1,rfl,I1.kept (t':=s1.toks) (λb o e=>QM _ e),Dw a _,⟨_,QW _ rfl,rfl,rfl⟩,fp,q⟩
 ·obtain ⟨Qx,rv,p,hz⟩:=I1.tuple hq;exact Yu (show s1.heap.IsTuple a Qx.toArray from p) ⟨s1.heap.objs.size,[s1.heap.objs.size],_,_,H1,rfl,I1.kept (t':=s1.toks) (λb o e=>QM _ e),Bg a _,⟨_,QW _ rfl,rfl,rfl⟩,fp,q⟩
theorem uH {J1:Hp}{a:Q4}{vs:List V}{ds:List D}{U:Hp->Hp->Prop}(hU:∀J H,U J H->aW J1 J) (h:fP c.K J1 a vs) (hs:aX c.K J1 ds vs):Walk c (Fd c.K a) ds J1 U:=by intro i J H hp u;have h':=gj hp.sub (gj (hU J H u) h);refine ⟨λhl=>⟨vs,h',by rw [<-hs.length];exact hl⟩,λd hd=>?_⟩;obtain ⟨v,k1,k2⟩:=hs.get hd;refine ⟨⟨vs,v,h',k1⟩,λx H2 ⟨e,hy⟩=>?_⟩;subst e;have:=hy vs h';rw [k1] at this;cases this;exact ⟨J,Ext.refl hp.sub,k2.mono (hU J _ u)⟩
noncomputable def kG (g:G R):G (List D):=λenv=>g env >>= λr=>match r with
 | .d (.tup xs)=>.ok xs
 | .d (.lst xs)=>.ok xs
 | .l .fresh xs=>.ok xs
 | .l .bor xs=>.ok xs
 | _=>.bad
noncomputable def gQ (g:G R):G (List D):=λenv=>g env >>= iP
end
section
variable {X:Cx}{c:C}{st:TR}{g:G O}
theorem SR.frz {J H:Hp}{σ:L2.St}{env:Ev}(sr:SR c J H σ env){i:Nat}{x:Mn}{a:Q4}{o:HO}{d:D}(hi:env[i]?=some (some (mS x))) (h1:σ[i]?=some (some (.ref a))) (h2:H a=some o) (h3:J a=none) (h4:c.H0 a=none) (h5:Rep c.K (L2.upd J a o) d (.ref a)):∃J',aW J J'/\SR c J' H σ (env.set i (some (.d d))):=by
 have s1:aW J (L2.upd J a o):=cC h3 _;refine ⟨L2.upd J a o,s1,⟨⟨λb o q=>?_,sr.hp.ent,sr.hp.entJ.trans s1,λb k1 k2=>?_⟩,by simpa using sr.len,λj y q=>?_,λj k ys zs w hjk q1 q2 q3 q4=>?_,sr.sp2.keep λk xs q=>?_⟩⟩
 ·by_cases hb:b=a
  ·subst hb;rw [bI] at q;cases q;exact h2
  ·rw [bh hb] at q;exact sr.hp.sub b o q
 ·have:b≠a:=λz=>k1 (z▸h4);rw [bh this];exact sr.hp.frz b k1 k2
 ·rcases dY q with ⟨rfl,hl,rfl⟩ | ⟨hj,q⟩
  ·exact ⟨.ref a,h1,h5⟩
  ·obtain ⟨w,k1,k2⟩:=sr.at_ j y q;refine ⟨w,k1,?_⟩;have hne:∀(z:Mn) p',y=mS z->w=.ref p'->p'≠a:=λz p' e ew ep=>sr.sep i j x z (.ref a) (Sb hj) hi (e▸q) h1 (ep▸ew▸k1);cases y with
   | d x=>exact Rep.mono s1 k2
   | bor zs=>obtain ⟨p,us,m1,m2,m3⟩:=k2;exact ⟨p,us,m1,m2,m3.mono s1⟩
   | db _ _=>obtain ⟨p,m1,m2⟩:=k2;exact ⟨p,m1,m2.mono s1 (aW.refl _)⟩
   | ob _ _=>obtain ⟨p,m1,m2⟩:=k2;exact ⟨p,m1,m2.mono s1 (aW.refl _)⟩
   | oo k zs=>
    obtain ⟨p,rfl,m1,m2,m3⟩:=k2;exact ⟨p,rfl,m1.mono s1 (aW.refl _),by rw [bh (hne (.oo k zs) p rfl rfl)];exact m2,m3⟩
   | fn _=>exact k2
   | tn zs=>obtain ⟨p,us,rfl,m1,m2⟩:=k2;exact ⟨p,us,rfl,gj s1 m1,m2.mono s1 λ_ h=>h⟩
   | dk ks zs=>
    obtain ⟨p,rfl,m1,m2,m3⟩:=k2;exact ⟨p,rfl,m1.mono s1 (aW.refl _),by rw [bh (hne (.inr (ks,zs)) p rfl rfl)];exact m2,m3⟩
   | own zs=>
    obtain ⟨p,us,rfl,m1,m2,m3,m4⟩:=k2;exact ⟨p,us,rfl,m1,by rw [bh (hne (.inl zs) p rfl rfl)];exact m2,m3,m4.mono s1⟩
   | ow2 zs=>
    obtain ⟨p,us,rfl,m1,m2,m3,m4⟩:=k2;exact ⟨p,us,rfl,m1,by rw [bh (hne (.nst zs) p rfl rfl)];exact m2,m3,m4.mono s1 λ_ h=>h⟩
 ·have f:∀(k:Nat) (ys:Mn),(env.set i (some (.d d)))[k]?=some (some (mS ys))->env[k]?=some (some (mS ys)):=λk ys q=>by
   rcases dY q with ⟨rfl,_,z⟩ | ⟨_,q⟩
   ·cases ys <;> cases z
   ·exact q
  exact sr.sep j k ys zs w hjk (f j ys q1) (f k zs q2) q3 q4
 ·rcases dY q with ⟨_,_,e⟩ | ⟨hk,q⟩
  ·cases e
  ·exact ⟨⟨xs,q⟩,rfl⟩
noncomputable def sS (i:Nat) (g:G O):G O:=λenv=>match env[i]? with
 | some (some (.own xs))=>g (env.set i (some (.d (.lst xs))))
 | some (some (.dk ks vs))=>g (env.set i (some (.d (.dct ks vs))))
 | _=>g env
end
structure QD (X:Cx) (c:C) (x0:Rz) (x1:G R):Prop where
 h:PD X c x0 x1
structure QB (X:Cx) (c:C) (x0:Rz) (x1:G Bool):Prop where
 h:PB X c x0 x1
structure j5 (X:Cx) (c:C) (x0:List Rz) (x1:G (List R)):Prop where
 h:yK X c x0 x1
structure Bt (X:Cx) (c:C) (x0:List Rz) (x1:G (List D)):Prop where
 h:NB X c x0 x1
structure iE (X:Cx) (c:C) (x0:TR) (x1:G O):Prop where
 h:IT X c x0 x1
structure j6 (X:Cx) (c:C) (x0:List TR) (x1:G O):Prop where
 h:Fi X c x0 x1
structure vH (X:Cx) (c:C) (x0:Rz) (x1:G Bool):Prop where
 h:NC X c x0 x1
structure qy (X:Cx) (c:C) (x0:Rz) (x1:GT):Prop where
 h:Bs X c x0 x1
structure Aa (X:Cx) (c:C) (x0:List Rz) (x1:qp):Prop where
 h:MR X c x0 x1
structure Bv (X:Cx) (c:C) (x0:Rz) (x1:Rz) (x2:G (List D)):Prop where
 h:MD X c x0 x1 x2
structure Bu (X:Cx) (c:C) (x0:Rz) (x1:Rz) (x2:G (List D)):Prop where
 h:MC X c x0 x1 x2
structure sD (X:Cx) (c:C) (x0:List Rz) (x1:G Bool):Prop where
 h:z_ X c x0 x1
structure Fo (X:Cx) (c:C) (x0:Option Rz) (x1:GO):Prop where
 h:IU X c x0 x1
section
variable {X:Cx}{c:C}{e a b:Rz}{ga gb:G R}{pos:Pos}
theorem aa (i:Nat) (hN:autoParam (X.N[i]?=some x) zA._auto_1) (hv:mF X.env.scope x:=by first | exact Ug rfl | exact Te (Ug rfl) | exact Te (Te rfl)) (hd:autoParam ((x == ("__debug__":Str))=false) zB._auto_1)
 (hcd:autoParam ((x == ("__classdict__":Str))=false) zB._auto_1):QD X c (.Name x pos) (af i):=⟨Ht (fU hN hv hd hcd)⟩
theorem aj:QD X c (.Constant (.int i) j pos) (gC (.int i)):=⟨rD (λ_=>.int i) xD⟩
theorem iJ:QD X c (.Constant (.bool i) j pos) (gC (.bl i)):=⟨rD (λ_=>.bl i) L5⟩
theorem tN:QD X c (.Constant .none j pos) (gC .non):=⟨rD (λ_=>.non) Kz⟩
theorem aU:QD X c (.Constant (.str x) j pos) (gC (.str x)):=⟨rD (λ_=>.str x) KG⟩
theorem tP (ha:QD X c a ga) (hb:QD X c b gb):QD X c (.BinOp a .Sub b pos) (g2 gP ga gb):=have ha:=ha.h;have hb:=hb.h;⟨kq Kr (gY λ_ _ _=>.int _) ha hb⟩
theorem bY (ha:QD X c a ga) (hb:QD X c b gb):QD X c (.BinOp a .FloorDiv b pos) (g2 cH ga gb):=have ha:=ha.h;have hb:=hb.h;⟨kq Hh (vO (λi j h=>G1 h) λ_ _ _=>.int _) ha hb⟩
theorem bg (ha:QD X c a ga) (hb:QD X c b gb):QD X c (.BinOp a .Mod b pos) (g2 bz ga gb):=have ha:=ha.h;have hb:=hb.h;⟨kq Kh (vO (λi j h=>by unfold JQ at h;exact of_decide_eq_true h) λ_ _ _=>.int _) ha hb⟩
theorem oH (ha:QD X c a ga) (hb:QD X c b gb):QD X c (.BinOp a .Pow b pos) (g2 jP ga gb):=have ha:=ha.h;have hb:=hb.h;⟨kq Ko (vO (λi j h=>zj h) λ_ _ _=>.int _) ha hb⟩
theorem K2 (ha:QD X c a ga) (hb:QD X c b gb):QD X c (.Compare a [.LtE] [b] pos) (g2 (bV λi j=>.bl (decide (i<=j))) ga gb):=have ha:=ha.h;have hb:=hb.h;⟨nF LZ (gY λ_ _ _=>.bl _) ha hb⟩
theorem K1 (ha:QD X c a ga) (hb:QD X c b gb):QD X c (.Compare a [.Gt] [b] pos) (g2 (bV λi j=>.bl (decide (j < i))) ga gb):=have ha:=ha.h;have hb:=hb.h;⟨nF vg (gY λ_ _ _=>.bl _) ha hb⟩
theorem K0 (ha:QD X c a ga) (hb:QD X c b gb):QD X c (.Compare a [.GtE] [b] pos) (g2 (bV λi j=>.bl (decide (j<=i))) ga gb):=have ha:=ha.h;have hb:=hb.h;⟨nF LY (gY λ_ _ _=>.bl _) ha hb⟩
theorem av:j5 X c [] ay:=⟨vh ji λσ H Q ⟨J,env,sr,w⟩=>w [] J H (Ext.refl sr.hp.sub) rfl⟩
theorem ai {es:List Rz}{g:G R}{gs:G (List R)}(h:QD X c e g) (hs:j5 X c es gs) (hst:autoParam (QY (e::es) X.env=(false,eval e X.env)::QY es X.env) zA._auto_1):j5 X c (e::es) (ah g gs):=have h:=h.h;have hs:=hs.h;⟨
 vh (gF h hs hst) λσ H Q ⟨J,env,sr,w⟩=>by
  refine ⟨J,env,sr,aC (aI w) λx wx u J1 H1 e1 r1=>?_⟩;refine ⟨J1,env,sr.ext e1,aC (aI wx) λxs wy us J2 H2 e2 r2=>?_⟩;exact wy (u::us) J2 H2 (e1.trans e2) ⟨u,us,rfl,r1.ext e2,kR.from e1.h r2⟩⟩
end
section
variable {X:Cx}{c:C}{e a b:Rz}{es:List Rz}{ga gb g:G R}{pos:Pos}
theorem aV:Bt X c [] aK:=⟨vh ji λσ H Q ⟨J,env,sr,w⟩=>w [] J H (Ext.refl sr.hp.sub) .nil⟩
theorem aA {gs:G (List D)}(h:QD X c e g) (hs:Bt X c es gs) (hst:autoParam (QY (e::es) X.env=(false,eval e X.env)::QY es X.env) zA._auto_1):Bt X c (e::es) (ao g gs):=have h:=h.h;have hs:=hs.h;⟨
 vh (gF h hs hst) λσ H Q ⟨J,env,sr,w⟩=>by
  refine ⟨J,env,sr,aC (aI w) λx wx u J1 H1 e1 r1=>?_⟩;obtain ⟨d,q,wx⟩:=jF wx;obtain ⟨J1',e1',s1,rd⟩:=freeze e1 r1 q;refine ⟨J1',env,sr.ext e1',aC (aI wx) λxs wy us J2 H2 e2 r2=>?_⟩;exact wy (u::us) J2 H2 (e1'.trans e2) (.cons (rd.mono e2.j) r2)⟩
theorem bR {k}{gs:G (List D)}(h:Bt X c es gs):QD X c (.Tuple es k pos) (b7 gs):=have h:=h.h;⟨eE (KH h) λσ H Q ⟨J,env,sr,w⟩=>by
 refine ⟨J,env,sr,aC (aI w) λds wd vs J1 H1 e1 r1=>?_⟩;split at wd
 ·rename_i hz;rw [r1.length] at hz;exact ⟨hz,λp hp=>wd _ _ _ (e1.trans (Ext.newJ e1.sub hp _)) (lB (sr.hp.ext e1) hp r1)⟩
 ·exact wd.elim⟩
theorem cQ {gs:G (List D)}(h:Bt X c es gs):QD X c (.List es pos) (dJ gs):=have h:=h.h;⟨eE (Ky h) λσ H Q ⟨J,env,sr,w⟩=>by
 refine ⟨J,env,sr,aC (aI w) λds wd vs J1 H1 e1 r1=>?_⟩;split at wd
 ·rename_i hz;rw [r1.length] at hz;exact ⟨hz,λp hp=>wd _ _ _ (e1.trans (Ext.new e1.sub hp _)) (RR.from e1.h (jX (sr.hp.ext e1) hp r1))⟩
 ·exact wd.elim⟩
theorem gf {p:Pos}{gs:G (List R)}(ha:j5 X c (e::es) gs) (hm:X.mg "len"=none) (hK:autoParam (X.K=c.K) zA._auto_1) (hg:autoParam (Gl X "len") zA._auto_1)
  (he:autoParam (QY (e::es) X.env=(false,eval e X.env)::QY es X.env) zA._auto_1) (hpl:autoParam ((Tn pos (QY es X.env)).any (·.1)=false) zA._auto_1):QD X c (.Call (.Name "len" p) (e::es) [] pos) (gN eS gs):=have ha:=ha.h;⟨
 xC (vY.or vX) (by
  intro He J H xs vs Q hp rs w;unfold eS at w;split at w
  ·obtain ⟨v,rfl,r⟩:=rs.one;cases r;split at w
   ·rename_i hz;exact .inl ⟨_,rfl,hz,w _ J H (Ext.refl hp.sub) (.int _)⟩
   ·exact w.elim
  ·obtain ⟨v,rfl,r⟩:=rs.one;obtain ⟨xs,q,w⟩:=jE w;obtain ⟨p,vs,rfl,hq,hs⟩:=kT hp r q;have w':=w (.int vs.length) J H (Ext.refl hp.sub) (by rw [hs.length];exact .int _);exact .inr ⟨p,vs,rfl,by rw [hK];exact hq,w'⟩
  ·exact w.elim) PySem.boot_len hm ha hg (by decide) (by decide) he hpl⟩
theorem eK {gs:G (List R)}(ha:j5 X c (e::es) gs) (hm:X.mg "tuple"=none) (hK:autoParam (X.K=c.K) zA._auto_1) (hg:autoParam (Gl X "tuple") zA._auto_1)
 (he:autoParam (QY (e::es) X.env=(false,eval e X.env)::QY es X.env) zA._auto_1) (hpl:autoParam ((Tn pos (QY es X.env)).any (·.1)=false) zA._auto_1):QD X c (.Call (.Name "tuple" p) (e::es) [] pos) (gN fG gs):=have ha:=ha.h;⟨
 nE mG (by
  intro He J H xs vs Q hp rs w;unfold fG at w;split at w
  ·obtain ⟨v,rfl,r⟩:=rs.one;rename_i r0;obtain ⟨xs,q,w⟩:=jE w;cases r0 with
   | d y=>
    cases y with
    | tup ys=>
     cases q;cases r with
     | tup h hs=>exact ⟨_,_,rfl,.inr ⟨by rw [hK];exact gj hp.sub h,w _ J H (Ext.refl hp.sub) (.tup h hs)⟩⟩
    | lst ys=>
     cases q;obtain ⟨p,vs,rfl,hq,hs⟩:=RR.list hp r rfl;exact ⟨p,vs,rfl,.inl ⟨by rw [hK];exact hq,λl hl=>w _ _ _ (Ext.newJ hp.sub hl _) (lB hp hl hs)⟩⟩
    | _=>cases q
   | mo _ _=>cases q
   | mb _ _=>cases q
   | mf _ _=>cases q
   | ln _=>cases q
   | o _ _ _=>cases q
   | l m ys=>
    cases q;obtain ⟨p,vs,rfl,hq,hs⟩:=RR.list hp r rfl;exact ⟨p,vs,rfl,.inl ⟨by rw [hK];exact hq,λl hl=>w _ _ _ (Ext.newJ hp.sub hl _) (lB hp hl hs)⟩⟩
  ·exact w.elim) oZ hm ha hg (by decide) (by decide) he hpl⟩
theorem l6 {p:Pos}{gs:G (List R)}(ha:j5 X c (e::es) gs) (hm:X.mg "list"=none) (hK:autoParam (X.K=c.K) zA._auto_1) (hg:autoParam (Gl X "list") zA._auto_1)
  (he:autoParam (QY (e::es) X.env=(false,eval e X.env)::QY es X.env) zA._auto_1) (hpl:autoParam ((Tn pos (QY es X.env)).any (·.1)=false) zA._auto_1):QD X c (.Call (.Name "list" p) (e::es) [] pos) (gN oq gs):=have ha:=ha.h;⟨
 nE vZ (by
  intro He J H xs vs Q hp rs w;unfold oq at w;split at w
  ·obtain ⟨v,rfl,r⟩:=rs.one;obtain ⟨xs,q,w⟩:=jE w;obtain ⟨p,vs,rfl,hq,hs⟩:=kT hp r q;exact ⟨p,vs,rfl,by rw [hK];exact hq,λl hl=>w _ _ _ (Ext.new hp.sub hl _) (jX hp hl hs)⟩
  ·exact w.elim) Al hm ha hg (by decide) (by decide) he hpl⟩
theorem iA (h:QD X c e g) (he:∀whole,Yg e X.env whole=(do let v <-whole;UG e.pos;holding [v] (truthy v)):=by intro _;rfl):QB X c e (aJ g):=have h:=h.h;⟨rJ (KP h he) λσ H Q ⟨J,env,sr,w⟩=>by
 refine ⟨J,env,sr,aC (aI w) λr wr v J1 H1 e1 r1=>?_⟩;split at wr
 ·cases r1;exact ⟨_,rfl,wr J1 H1 e1⟩
 ·exact wr.elim⟩
theorem jC {f:R->R->M R}(ho:dH X (SI op) r) (hf:BD c r f) (ha:QD X c a ga) (hb:QD X c b gb) (hm:R5 op b=false:=by first | exact xu _ | rfl):QB X c (.Compare a [op] [b] pos) (aJ (g2 f ga gb)):=⟨jj ho hf ha.h hb.h hm⟩
variable {t u:G Bool}{rest:List Rz}
theorem fz (h:vH X c e t):QB X c e t:=have h:=h.h;⟨PW.pt h⟩
theorem lZ (h:QB X c a t):vH X c (.BoolOp .And [a] pos) t:=have h:=h.h;⟨HJ h⟩
theorem iz (h:QB X c a t):vH X c (.BoolOp .Or [a] pos) t:=have h:=h.h;⟨KU h⟩
theorem oF (h:QB X c a t) (h':vH X c (.BoolOp .And (b::rest) pos) u):vH X c (.BoolOp .And (a::b::rest) pos) (bQ t u):=have h:=h.h;have h':=h'.h;⟨F6 (KS h h') λσ H Q ⟨J,env,sr,w⟩=>by
 refine ⟨J,env,sr,aC (aI w) λk wk J1 H1 e1=>?_⟩;cases k with
 | true=>
  rw [if_pos rfl] at wk ⊢;exact ⟨J1,env,sr.ext e1,aC wk λk q J2 H2 e2=>q J2 H2 (e1.trans e2)⟩
 | false=>
  rw [if_neg (by decide)] at wk ⊢;exact wk J1 H1 e1⟩
theorem gW (h:QB X c a t) (h':vH X c (.BoolOp .Or (b::rest) pos) u):vH X c (.BoolOp .Or (a::b::rest) pos) (bW t u):=have h:=h.h;have h':=h'.h;⟨F6 (L_ h h') λσ H Q ⟨J,env,sr,w⟩=>by
 refine ⟨J,env,sr,aC (aI w) λk wk J1 H1 e1=>?_⟩;cases k with
 | true=>
  rw [if_pos rfl] at wk ⊢;exact wk J1 H1 e1
 | false=>
  rw [if_neg (by decide)] at wk ⊢;exact ⟨J1,env,sr.ext e1,aC wk λk q J2 H2 e2=>q J2 H2 (e1.trans e2)⟩⟩
theorem jD (h:QB X c a t):QB X c (.UnaryOp .Not a pos) (bH t):=have h:=h.h;⟨rJ (KN h) λσ H Q ⟨J,env,sr,w⟩=>⟨J,env,sr,aC (aI w) λk wk J1 H1 e1=>wk J1 H1 e1⟩⟩
theorem p_ {op}(h:QD X c a ga):QD X c (.BoolOp op [a] pos) ga:=have h:=h.h;⟨KC h⟩
theorem tM (h:QD X c a ga) (h':QD X c (.BoolOp .And (b::rest) pos) gb):QD X c (.BoolOp .And (a::b::rest) pos) (bB ga gb):=have h:=h.h;have h':=h'.h;⟨eE (Kv h h') λσ H Q ⟨J,env,sr,w⟩=>by
 refine ⟨J,env,sr,aC (aI w) λr wr v J1 H1 e1 r1=>?_⟩;split at wr
 ·cases r1;exact ⟨true,rfl,JN ⟨J1,env,sr.ext e1,aC wr λz q v J2 H2 e2 r2=>q v J2 H2 (e1.trans e2) (RR.from e1.h r2)⟩⟩
 ·cases r1;exact ⟨false,rfl,JM (wr _ J1 H1 e1 (.bl _))⟩
 ·exact wr.elim⟩
theorem oG (h:QD X c a ga):QD X c (.UnaryOp .Not a pos) (bG ga):=have h:=h.h;⟨eE (KA h) λσ H Q ⟨J,env,sr,w⟩=>by
 refine ⟨J,env,sr,aC (aI w) λr wr v J1 H1 e1 r1=>?_⟩;split at wr
 ·cases r1;exact ⟨_,rfl,wr _ J1 H1 e1 (.bl _)⟩
 ·exact wr.elim⟩
theorem HV {x:Rz}(hx:QB X c x t) (h:QD X c a ga) (h':QD X c b gb):QD X c (.IfExp x a b pos) (MG t ga gb):=have hx:=hx.h;have h:=h.h;have h':=h'.h;⟨eE (EE hx h h') λσ H Q ⟨J,env,sr,w⟩=>by
 refine ⟨J,env,sr,aC (aI w) λk wk J1 H1 e1=>?_⟩;cases k with
 | true=>
  rw [if_pos rfl] at wk ⊢;exact ⟨J1,env,sr.ext e1,aC wk λz q v J2 H2 e2 r2=>q v J2 H2 (e1.trans e2) (RR.from e1.h r2)⟩
 | false=>
  rw [if_neg (by decide)] at wk ⊢;exact ⟨J1,env,sr.ext e1,aC wk λz q v J2 H2 e2 r2=>q v J2 H2 (e1.trans e2) (RR.from e1.h r2)⟩⟩
end
section
variable {X:Cx}{c:C}{e a b tg:Rz}{es:List Rz}{ga gb g:G R}{pos:Pos}{st:TR}{rest:List TR}{t u:G O}{tb:G Bool}
theorem aY:j6 X c [] bf:=⟨nK zB λE σ H ⟨J,env,sr,w⟩=>w σ J H (aW.refl J) sr⟩
theorem ak (h:iE X c st t) (h':j6 X c rest u):j6 X c (st::rest) (au t u):=have h:=h.h;have h':=h'.h;⟨nK (lY h h') λE σ H ⟨J,env,sr,w⟩=>by
 refine ⟨J,env,sr,aC (aI w) λo wo=>?_⟩;cases o with
 | nx e=>exact λσ' J' H' s' sr'=>⟨J',e,sr',aC wo λo q=>q.mono s'⟩
 | rt r=>exact wo
 | bk e=>exact wo
 | ct e=>exact wo⟩
theorem az (h:iE X c st t):j6 X c [st] t:=have h:=h.h;⟨oE h⟩
theorem A2:iE X c (.Break pos) FL:=⟨fZ EK λE σ H ⟨J,env,sr,w⟩=>w σ J H (aW.refl J) sr⟩
theorem aH (h:QD X c e g):iE X c (.Return (some e) pos) (aL g):=have h:=h.h;⟨fZ (CS h) λE σ H ⟨J,env,sr,w⟩=>by
 refine ⟨J,env,sr,aC (aI w) λr wr v J1 H1 e1 r1=>?_⟩;cases q:rF r with
 | bad=>rw [q] at wr;exact wr.elim
 | exc x=>cases r with
  | d _=>cases q
  | l m _=>cases m <;> cases q
  | mo _ _=>cases q
  | mb _ _=>cases q
  | mf _ _=>cases q
  | ln _=>cases q
  | o m _ _=>cases m <;> cases q
 | ok r'=>rw [q] at wr;exact wr v J1 H1 e1.j (sr.hp.ext e1) (RR.rf sr.hp r1 q)⟩
theorem a_ {x:Rz}{as bs:List TR}(hx:QB X c x tb) (h:j6 X c as t) (h':j6 X c bs u):iE X c (.If x as bs pos) (aG tb t u):=have hx:=hx.h;have h:=h.h;have h':=h'.h;⟨fZ (F5 hx h h') λE σ H ⟨J,env,sr,w⟩=>by
 refine ⟨J,env,sr,aC (aI w) λk wk J1 H1 e1=>?_⟩;cases k with
 | true=>
  rw [if_pos rfl] at wk ⊢;exact ⟨J1,env,sr.ext e1,aC wk λo q=>q.mono e1.j⟩
 | false=>
  rw [if_neg (by decide)] at wk ⊢;exact ⟨J1,env,sr.ext e1,aC wk λo q=>q.mono e1.j⟩⟩
theorem aM (i:Nat){x:Str}{pos':Pos}(hN:X.N.Nodup) (h:QD X c e g) (hi:autoParam (X.N[i]?=some x) zA._auto_1) (hx:Loc X.env.scope x:=by first | exact Ug rfl | exact Te rfl) (hs:autoParam (Ur e (some (.Name x pos')) pos.line X.env=pure false) zA._auto_1)
  (hf:X.fn x=true\/X.env.scope.names.lookup x=some .local:=by first | exact .inl rfl | exact .inr rfl):iE X c (.Assign [.Name x pos'] e pos) (aO i g):=have h:=h.h;⟨fZ (rH hN hi hx h hs hf) λE σ H ⟨J,env,sr,w⟩=>by
 refine ⟨J,env,sr,aC (aI w) λr wr v J1 H1 e1 r1=>?_⟩;obtain ⟨x,q,wr⟩:=tV wr;exact wr (σ.set i (some v)) J1 H1 e1.j (sr.set e1 r1 q)⟩
theorem aT (i:Nat){x:Str}(hN:X.N.Nodup) (hi:autoParam (X.N[i]?=some x) zA._auto_1) (hx:Loc X.env.scope x:=by first | exact Ug rfl | exact Te rfl) (hf:X.fn x=true\/X.env.scope.names.lookup x=some .local:=by first | exact .inl rfl | exact .inr rfl):qy X c (.Name x pos) (aF i):=⟨
 F3 (HA hN hi hx hf) λv σ H Q ⟨J,env,d,sr,rd,w⟩=>w _ (sr.setD (x:=.d d) rd λx z=>by cases x <;> cases z) λj xs q=>by
  rcases dY q with ⟨_,_,e⟩ | ⟨hj,q⟩
  ·cases xs <;> cases e
  ·exact ⟨q,RH (Sb hj)⟩⟩
theorem fX:Aa X c [] h_:=⟨CL HB λvs σ H Q ⟨J,env,ds,sr,rd,w⟩=>by
 cases rd with
 | nil=>exact ⟨rfl,w σ sr KO.refl⟩
 | cons _ _=>exact w.elim⟩
theorem b_ {t:GT}{u:qp}(h:qy X c e t) (h':Aa X c es u) (hs:autoParam ((TM (e::es) X.env).map (·.2)=assign e X.env::(TM es X.env).map (·.2)) zA._auto_1):Aa X c (e::es) (cV t u):=have h:=h.h;have h':=h'.h;⟨
 CL (EG h h' hs) λvs σ H Q ⟨J,env,ds,sr,rd,w⟩=>by
  cases rd with
  | nil=>exact w.elim
  | cons r rs=>
   refine ⟨_,_,rfl,J,env,_,sr,r,aC (aI w) λe1 w1 σ' sr' ko=>?_⟩;exact ⟨J,e1,_,sr',rs,aC w1 λe2 q σ2 sr2 ko2=>q σ2 sr2 (ko.trans ko2)⟩⟩
theorem gw {k:Nat}{u:qp}{n:Nat}(h:Aa X c es u) (hc:autoParam (X.calm=true) zA._auto_1) (hK:autoParam (X.K=c.K) zA._auto_1) (hn:autoParam ((TM es X.env).length=n) zA._auto_1) (hst:autoParam ((TM es X.env).findIdx? (·.1)=none) zA._auto_1):qy X c (.Tuple es k pos) (gJ n u):=have h:=h.h;⟨
 F3 (KI hc h hn hst) λv σ H Q ⟨J,env,d,sr,rd,w⟩=>by
  cases rd with
  | tup h1 h2=>
   unfold gJ at w;simp only at w;split at w
   ·rename_i hl;exact ⟨_,_,rfl,by rw [hK];exact gj sr.hp.sub h1,by rw [<-h2.length];exact hl,J,env,_,sr,h2,w⟩
   ·exact w.elim
  | _=>exact w.elim⟩
theorem cX {Qz:Rz}{body:List TR}{gi:G (List D)}{t:GT}(hi:Bv X c tg Qz gi) (ht:qy X c tg t) (hb:j6 X c body u) (hp:Zm (Rb X.prog X.w) X.A X.env X.xe:=by first | exact Zq | exact YJ) (hc:autoParam (X.calm=true) zA._auto_1)
  (hs:∀x,SV Qz X.env x=pure x:=by intro _;rfl):iE X c (.For tg Qz body [] pos) (dW gi t u):=have hi:=hi.h;have ht:=ht.h;have hb:=hb.h;⟨fZ (KL hp hc hi ht hb hs) λE σ H ⟨J,env,sr,w⟩=>by
 refine ⟨J,env,sr,aC (aI w) λds wd It J1 H1 e1 wk=>?_⟩;refine ⟨λi m σ H=>m=ds.length - i/\∃J' env,aW J1 J'/\SR c J' H σ env/\cM (dj t u (ds.drop i) env) (oP c J' E) c.T,
  ⟨ds.length,by simp,J1,env,aW.refl J1,sr.ext e1,by rw [XX];exact aC wd λo q=>q.mono e1.j⟩,?_⟩
 rintro i m σ H ⟨rfl,J',env,s',sr',w'⟩;obtain ⟨w1,w2⟩:=wk i J' H sr'.hp s';by_cases hlt:i < ds.length
 ·obtain ⟨g1,y1⟩:=w2 ds[i] (by simp [hlt]);rw [TY hlt] at w';refine .inr ⟨g1,λσ2 H2=>∃J2 env2,aW J' J2/\SR c J2 H2 σ2 env2/\cM (dj t u (ds.drop (i + 1)) env2) (oP c J2 E) c.T,?_,?_⟩
  ·rintro σ2 H2 ⟨J2,env2,s2,sr2,w2⟩;exact ⟨ds.length - (i + 1),by omega,rfl,J2,env2,s'.trans s2,sr2,w2⟩
  ·intro x H2 hy;obtain ⟨J2,e2,rx⟩:=y1 x H2 hy;refine ⟨J2,env,ds[i],sr'.ext e2,rx,aC (aI w') λenv3 w3 σ3 sr3 _=>?_⟩;refine ⟨J2,env3,sr3,aC (aI w3) λo wo=>?_⟩;cases o with
   | nx env4=>exact λσ4 J4 H4 s4 sr4=>⟨J4,env4,e2.j.trans s4,sr4,aC wo λo q=>q.mono (e2.j.trans s4)⟩
   | ct env4=>exact λσ4 J4 H4 s4 sr4=>⟨J4,env4,e2.j.trans s4,sr4,aC wo λo q=>q.mono (e2.j.trans s4)⟩
   | bk env4=>exact λσ4 J4 H4 s4 sr4=>wo σ4 J4 H4 (e2.j.trans s4) sr4
   | rt r=>exact λv J4 H4 s4 h4 r4=>wo v J4 H4 (e2.j.trans s4) h4 r4
 ·rw [Vb (by omega)] at w';exact .inl ⟨w1 (by omega),w' σ J' H (aW.refl J') sr'⟩⟩
theorem cB {p:Pos}{gs:G (List R)}(ha:j5 X c [a] gs) (hm:X.mg "range"=none) (hg:autoParam (Gl X "range") zA._auto_1) (hs:autoParam (QY [a] X.env=[(false,eval a X.env)]) zA._auto_1):Bv X c tg (.Call (.Name "range" p) [a] [] pos) (dz gs):=have ha:=ha.h;⟨
 vj (CN hg hm ha hs) λσ H Q ⟨J,env,sr,w⟩=>by
  refine ⟨J,env,sr,aC (aI w) λrs wr vs J1 H1 e1 r1=>?_⟩;split at wr
  ·split at wr
   ·rename_i h;obtain ⟨v,rfl,r⟩:=r1.one;cases r;have h:=eY.mp h;exact ⟨_,rfl,Int.le_of_lt h.1,h.2,wr _ J1 H1 e1 Bh⟩
   ·exact wr.elim
  ·exact wr.elim⟩
theorem pY {gi:G (List D)}(h:Bv X c tg e gi):Bu X c tg e gi:=have h:=h.h;⟨vj h λσ H Q ⟨J,env,sr,w⟩=>
 ⟨J,env,sr,aC w λds q It J1 H1 e1 wk=>q It J1 H1 e1 λi J' H' hp u=>wk i J' H' hp u.1⟩⟩
end
section
variable {X:Cx}{c:C}{e a b tg:Rz}{es:List Rz}{ga gb g:G R}{pos:Pos}
theorem eF (i:Nat){x:Str}{p1 p2 pos':Pos}(h:QD X c e g) (hN:autoParam (X.N[i]?=some x) zA._auto_1) (hv:mF X.env.scope x:=by first | exact Ug rfl | exact Te (Ug rfl) | exact Te (Te rfl)) (hd:autoParam ((x == ("__debug__":Str))=false) zB._auto_1)
  (hcd:autoParam ((x == ("__classdict__":Str))=false) zB._auto_1)
  (hbase:autoParam (SX (.Name x p1) "append" X.env (eval (.Name x p1) X.env)=eval (.Name x p1) X.env) zA._auto_1)
  (hfew:autoParam (((Tn pos' (QY [e] X.env)).all (λx=>!x.1) && (aba pos' (Zo [] X.env)).all (λx=>x.1.isSome)
   && decide (([e]:List Rz).length + ([]:List Zp).length + (if ([]:List Zp).isEmpty then 0 else 1) < 30))=true) zA._auto_1)
  (hline:autoParam ((p2.endLine == pos'.line)=true) zA._auto_1) (hst:autoParam (QY [e] X.env=(false,eval e X.env)::QY [] X.env) zA._auto_1) (hplain:autoParam ((Tn pos' (QY [] X.env)).any (·.1)=false) zA._auto_1)
  (hs:autoParam (Ur (.Call (.Attribute (.Name x p1) "append" p2) [e] [] pos') none pos.line X.env=pure false) zA._auto_1):iE X c (.Expr (.Call (.Attribute (.Name x p1) "append" p2) [e] [] pos') pos) (dR i g):=have h:=h.h;⟨
 fZ (zz (F0 U7 PySem.F.slot_list_append PySem.F.type_list_append uu (fU hN hv hd hcd) (gF h ji hst) hbase hfew hline hst hplain) hs) λE σ H ⟨J,env,sr,w⟩=>by
  unfold dR at w;split at w
  ·rename_i xs hi;obtain ⟨v,h1,a,vs,rfl,h2,h3,h4,h5⟩:=sr.at_ i _ hi;refine ⟨.ref a,h1,.inl ⟨rfl,vs,c6.of h2⟩,?_⟩;refine ⟨J,env,sr,aC (aI w) λr wr y J1 H1 e1 r1=>?_⟩;obtain ⟨d,q,wr⟩:=jF wr;obtain ⟨J2,e2,s2,rd⟩:=freeze e1 r1 q;split at wr
   ·rename_i hz;refine ⟨a,vs,y,rfl,rfl,e2.h _ _ h2,by rw [<-h5.length];exact hz,?_⟩;refine wr σ J2 _ e2.j ?_;exact (sr.ext e2).upd hi h1 (e2.h _ _ h2) (e2.frz a (by rw [h2];intro z;cases z) h3) h4 ((h5.mono e2.j).append (.cons rd .nil))
   ·exact wr.elim
  ·exact w.elim⟩
end
section
variable {X:Cx}{c:C}
theorem dD:sD X c [] fT:=⟨λQw s σ H Q I ⟨J,env,sr,w⟩=>wpAny_tests_nil ⟨H,I,w J H (Ext.refl sr.hp.sub)⟩⟩
theorem kr {g:G Bool}(h:QB X c x g):sD X c [x] g:=have h:=h.h;⟨λQw s σ H Q I q=>wpAny_tests_one (h Qw s σ H Q I q)⟩
end
section
variable {K:QG}{J:Hp}{s:QL}
variable {X:Cx}{c:C}{e a b tg:Rz}{es:List Rz}{ga gb g:G R}{pos:Pos}
theorem jl (hu:X.A.units + 64 < Up) (ha:QD X c a ga) (hb:QD X c b gb) (hK:autoParam (X.K=c.K) zA._auto_1):QD X c (.Compare a [.Eq] [b] pos) (g2 (bu false) ga gb):=have ha:=ha.h;have hb:=hb.h;⟨nF (CB hu) (Af false hK) ha hb⟩
theorem br (hu:X.A.units + 64 < Up) (ha:QD X c a ga) (hb:QD X c b gb) (hK:autoParam (X.K=c.K) zA._auto_1):QB X c (.Compare a [.Eq] [b] pos) (aJ (g2 (bu false) ga gb)):=have ha:=ha.h;have hb:=hb.h;⟨jj (CB hu) (Af false hK) ha hb⟩
theorem xK (hu:X.A.units + 64 < Up) (ha:QD X c a ga) (hb:QD X c b gb) (hK:autoParam (X.K=c.K) zA._auto_1):QB X c (.Compare a [.NotEq] [b] pos) (aJ (g2 (bu true) ga gb)):=have ha:=ha.h;have hb:=hb.h;⟨jj (Km hu) (Af true hK) ha hb⟩
theorem jV (hu:X.A.units + 64 < Up) (ha:QD X c a ga) (hb:QD X c b gb) (hK:autoParam (X.K=c.K) zA._auto_1) (hm:autoParam (R5 .In b=false) zA._auto_1):QD X c (.Compare a [.In] [b] pos) (g2 (gM false) ga gb):=have ha:=ha.h;have hb:=hb.h;⟨nF (CC hu) (Ag false hK) ha hb hm⟩
theorem CU (hu:X.A.units + 64 < Up) (ha:QD X c a ga) (hb:QD X c b gb) (hK:autoParam (X.K=c.K) zA._auto_1) (hm:autoParam (R5 .In b=false) zA._auto_1):QB X c (.Compare a [.In] [b] pos) (aJ (g2 (gM false) ga gb)):=have ha:=ha.h;have hb:=hb.h;⟨jj (CC hu) (Ag false hK) ha hb hm⟩
theorem CV (hu:X.A.units + 64 < Up) (ha:QD X c a ga) (hb:QD X c b gb) (hK:autoParam (X.K=c.K) zA._auto_1) (hm:autoParam (R5 .NotIn b=false) zA._auto_1):QB X c (.Compare a [.NotIn] [b] pos) (aJ (g2 (gM true) ga gb)):=have ha:=ha.h;have hb:=hb.h;⟨jj (CF hu) (Ag true hK) ha hb hm⟩
end
section
variable {X:Cx}{c:C}{e a b tg:Rz}{es:List Rz}{ga gb g:G R}{pos:Pos}
theorem iB:Fo X c none uf:=⟨F4 HD λσ H Q ⟨J,env,sr,w⟩=>w J H (Ext.refl sr.hp.sub)⟩
theorem dU (h:QD X c e g):Fo X c (some e) (jq g):=have h:=h.h;⟨F4 (HG h) λσ H Q ⟨J,env,sr,w⟩=>by
 refine ⟨J,env,sr,aC (aI w) λr wr v J1 H1 e1 r1=>?_⟩;split at wr
 ·cases r1;exact ⟨_,rfl,wr J1 H1 e1⟩
 ·exact wr.elim⟩
theorem rL {p:Pos}{gs:G (List R)}(ha:j5 X c (e::es) gs) (hm:X.mg "sorted"=none) (hK:autoParam (X.K=c.K) zA._auto_1) (hg:autoParam (Gl X "sorted") zA._auto_1)
  (he:autoParam (QY (e::es) X.env=(false,eval e X.env)::QY es X.env) zA._auto_1) (hpl:autoParam ((Tn pos (QY es X.env)).any (·.1)=false) zA._auto_1):QD X c (.Call (.Name "sorted" p) (e::es) [] pos) (gN jy gs):=have ha:=ha.h;⟨
 xC v5 (by
  intro He J H xs vs Q hp rs w;unfold jy at w;split at w
  ·obtain ⟨v,rfl,r⟩:=rs.one;obtain ⟨xs,q,w⟩:=lF w;obtain ⟨p,vs,rfl,h1,h2⟩:=RR.list hp r q;split at w
   ·rename_i ss z;split at w
    ·rename_i hl;have:=mq z h2;subst this;refine ⟨p,ss,rfl,by rw [hK];exact h1,hl,λss' hp' hs' l hl'=>?_⟩;rw [rY hp' hs'];exact w _ _ _ (Ext.new hp.sub hl' _) (jX hp hl' (nP _))
    ·exact w.elim
   ·exact w.elim
  ·exact w.elim) ng hm ha hg (by decide) (by decide) he hpl⟩
theorem bD (ha:QD X c a ga) (hb:QD X c b gb):QD X c (.BinOp a .Add b pos) (g2 bA ga gb):=by
 have ha:=ha.h;have hb:=hb.h;refine ⟨?_⟩;have h1:BD c (nO λi j=>.int (i + j)) Jr:=gY λ_ _ _=>.int _;have q:=kq (pos:=pos) (Ka.or (AX.or Kc)) (BD.or (c:=c) (λx _=>FT x) h1 (BD.or (c:=c) (λx _=>MI x) (f:=Ar) (f':=As) (by
  intro He He' J H x y u v Q hp rx ry w;unfold Ar at w;split at w
  ·cases rx;cases ry;split at w
   ·rename_i h;exact ⟨_,_,rfl,rfl,h,w _ J H (Ext.refl hp.sub) (.str _)⟩
   ·exact w.elim
  ·exact w.elim) (by
  intro He He' J H x y u v Q hp rx ry w;unfold As at w;split at w
  ·rename_i hm;rw [Ra] at hm;obtain ⟨p,vs,xs,e1,rfl,h1,s1⟩:=rx.made hm.1;obtain ⟨p2,vs2,ys,e2,rfl,h2,s2⟩:=ry.made hm.2;rw [e1,e2] at w;simp only [aS] at w;split at w
   ·rename_i hz;rw [s1.length,s2.length] at hz;exact ⟨p,p2,vs,vs2,rfl,rfl,h1,h2,hz,λq hq=>w _ J _ (Ext.new hp.sub hq _) (jX hp hq (s1.append s2))⟩
   ·exact w.elim
  ·exact w.elim))) ha hb
 exact q
theorem dB (ha:QD X c a ga) (hb:QD X c b gb):QD X c (.BinOp a .Mult b pos) (g2 cO ga gb):=by
 have ha:=ha.h;have hb:=hb.h;refine ⟨?_⟩;have h1:BD c (rI zO λi j=>.int (i * j)) Ju:=vO (λi j h=>G2 h) λ_ _ _=>.int _;exact kq (pos:=pos) (Kl.or Hi) (BD.or (c:=c) (λx _=>FT x) h1 (f':=Au) (by
  intro He He' J H x y u v Q hp rx ry w;unfold Au at w;split at w
  ·cases rx;cases ry;split at w
   ·rename_i h;exact ⟨_,_,rfl,rfl,h.1,h.2.1,h.2.2,w _ J H (Ext.refl hp.sub) (.str _)⟩
   ·exact w.elim
  ·exact w.elim)) ha hb
theorem aq (ha:QD X c a ga) (hb:QD X c b gb) (hK:autoParam (X.K=c.K) zA._auto_1) (hs:n6 b:=by exact λ_ _=>rfl):QD X c (.Subscript a b pos) (g2 aP ga gb):=have ha:=ha.h;have hb:=hb.h;⟨L3 JO (by
 intro He He' J H x y u v Q hp rx ry w;rw [hK];unfold aP at w;split at w
 ·cases rx;cases ry;split at w
  ·rename_i h;split at w
   ·rename_i k hk;exact .inr (.inr ⟨_,_,k,rfl,rfl,h,hk,w _ J H (Ext.refl hp.sub) (.str _)⟩)
   ·exact w.elim
  ·exact w.elim
 ·cases ry;obtain ⟨xs,q,w⟩:=jE w;obtain ⟨p,vs,rfl,hl,hs⟩:=kT hp rx q;split at w
  ·rename_i d hd;obtain ⟨z,h1,h2⟩:=Ia hs hd;have fin:=w z J H (Ext.refl hp.sub) h2;rcases hl with hl | hl
   ·exact .inl ⟨p,vs,_,z,rfl,rfl,hl,h1,fin⟩
   ·exact .inr (.inl ⟨p,vs,_,z,rfl,rfl,hl,h1,fin⟩)
  ·exact w.elim
 ·exact w.elim) ha hb hs⟩
theorem aZ {F:List S->M R}{gs:G (List R)}(G:bS X.prog X.w X.K X.mg X.base k n x F) (hr:cR k' X.A) (ha:j5 X c (e::es) gs) (hk:autoParam (k<=k') zB._auto_1) (hT:autoParam (c.K=X.K) zA._auto_1) (hg:autoParam (Gl X x) zA._auto_1) (hdb:autoParam ((x == ("__debug__":Str))=false) zB._auto_1)
 (he:autoParam (QY (e::es) X.env=(false,eval e X.env)::QY es X.env) zA._auto_1) (hpl:autoParam ((Tn pos (QY es X.env)).any (·.1)=false) zA._auto_1):QD X c (.Call (.Name x p) (e::es) [] pos) (gN (aB n F) gs):=by have ha:=ha.h;refine ⟨?_⟩;obtain ⟨f,fd,ps,h1,h2,h3,h4⟩:=G;exact Hq h1 (hr.mono hk) h2 h3 h4 ha hT hg hdb he hpl
theorem pZ (h:QD X c e g) (ht:qy X c tg t) (hs:autoParam (VH [tg] e pos.line X.env=pure false) zA._auto_1) (hw:autoParam (WA [tg] e X.env=pure none) zA._auto_1)
 (h1:autoParam ((TM [tg] X.env).map (·.2)=[assign tg X.env]) zA._auto_1):iE X c (.Assign [tg] e pos) (pV t g):=have h:=h.h;have ht:=ht.h;⟨Hl h ht (xE h ht hs hw h1)⟩
theorem A4 {T:String}{Ts:Str}{p p2:Pos}(kit:Fe T) (hT:Sm Ts=some (.type T)) (mT:X.mg Ts=none)
  (h:QD X c a g) (hm:X.mg "isinstance"=none) (hK:autoParam (X.K=c.K) zA._auto_1) (hg:autoParam (Gl X "isinstance") zA._auto_1) (Qe:autoParam (Gl X Ts) zA._auto_1) (hn:autoParam (Ts≠"__name__") zB._auto_1) (Qa:autoParam ((Ts == ("__debug__":Str))=false) zB._auto_1)
  (he:autoParam (QY [a,.Name Ts p2] X.env=(false,eval a X.env)::QY [.Name Ts p2] X.env) zA._auto_1) (Qc:autoParam (QY [.Name Ts p2] X.env=(false,eval (.Name Ts p2) X.env)::QY [] X.env) zA._auto_1)
  (hpl:autoParam ((Tn pos (QY [.Name Ts p2] X.env)).any (·.1)=false) zA._auto_1):QD X c (.Call (.Name "isinstance" p) [a,.Name Ts p2] [] pos) (cL T g):=have h:=h.h;⟨
 eE (pX (yj kit) hg hm (by decide +kernel) (gF h (gF (Hu Qe mT hT (v:=.ty T) rfl hn Qa) ji Qc) he) (by decide) (by decide) he hpl) λσ H Q ⟨J,env,sr,w⟩=>by
  refine ⟨J,env,sr,aC (aI w) λr wr v J1 H1 e1 r1=>?_⟩;exact ⟨r.dat,v,rfl,by rw [hK];exact r1.dat (sr.hp.ext e1),wr _ J1 H1 e1 (.bl _)⟩⟩
theorem CW:QD X c (.Dict [] [] pos) (gC .emp):=⟨λQw s σ H Q I ⟨J,env,sr,w⟩=>by
 have fr:H s.heap.objs.size=none:=I.hok.fresh (QV _);refine WT ⟨.ref s.heap.objs.size,_,I.laid (a:=s.heap.objs.size) (o:=.dK []) (t':=s.toks) (λ_ _ q=>QM _ q) (QV _) ?_,rfl,w _ _ _ (Ext.newJ sr.hp.sub fr _) (.emp bI)⟩;exact ⟨Rj _,beq_eq_false_iff_ne.mpr (Sb (Q7 (By I))),[],.nil,Zr _⟩⟩
theorem gH {lo hi:Option Rz}{gl gh:GO}{p2:Pos}(h:QD X c e g) (hl:Fo X c lo gl) (hh:Fo X c hi gh) (hK:autoParam (X.K=c.K) zA._auto_1):QD X c (.Subscript e (.Slice lo hi none p2) pos) (k7 iW g gl gh):=have h:=h.h;have hl:=hl.h;have hh:=hh.h;⟨L4 (Di.or Ij) (by
 intro He J H x v l u Q hp rx w;unfold iW at w;split at w
 ·exact .inl (Ni hK He J H x v l u Q hp rx w)
 ·obtain ⟨xs,q,w⟩:=lF w;obtain ⟨p,vs,rfl,h1,h2⟩:=rx.list hp q;exact .inr ⟨p,vs,rfl,by rw [hK];exact h1,λp' hp'=>w _ _ _ (Ext.new hp.sub hp' _) (jX hp hp' (h2.cut l u))⟩) h hl hh⟩
theorem HW {st:Rz}{p2:Pos}(h:QD X c e g) (hst:PE X st (tC (.int (-1)))) (hK:autoParam (X.K=c.K) zA._auto_1):QD X c (.Subscript e (.Slice none none (some st) p2) pos) (Jz g):=by
 have h:=h.h;refine ⟨?_⟩;intro Qw s σ H Q I ⟨J,env,sr,w⟩;refine YB (bU (h Qw s σ H (λv H1=>∃a xs,v=.ref a/\fP X.K H1 a xs/\∀p,H1 p=none->Q (.ref p) (upd H1 p (.tup xs.reverse))) I ⟨J,env,sr,aC (aI w) λr wr v J1 H1 e1 r1=>?_⟩) λv s1 ⟨x,H1,I1,r1,a,xs,hx,hq,q⟩=>?_)
 ·split at wr
  ·cases r1 with
   | tup h1 s1=>
    exact ⟨_,_,rfl,by rw [hK];exact gj e1.sub h1,λp hp'=>wr _ _ _ (e1.trans (Ext.newJ e1.sub hp' _)) (lB (sr.hp.ext e1) hp' s1.rev)⟩
  ·exact wr.elim
 subst hx;cases r1;refine wpAny_Slice ?_;rw [Yl];refine QJ (QJ ?_);rw [aae];refine bU (hst Qw s1 σ H1 (λv H2=>v=.int (-1)/\H2=H1) I1 ⟨rfl,rfl⟩) λu s3 ⟨y,H3,I3,r3,hy,hH⟩=>?_;subst hy hH;obtain ⟨k,rfl⟩:=r3;have I4:Inv X Qw σ H3 {s3 with heap:=s3.heap.push {cls:=.type "slice",data:=.fields #[.none,.none,.int (-1) k]}}:=I3.kept (t':=s3.toks) λb ob q=>QM _ q;obtain ⟨Qx,r,ht,hz⟩:=I4.tuple hq;have hlen:=r.length;refine aaf (ops:=[.ref a,.ref s3.heap.objs.size]) ht.typeIs Ru.lookup ?_ (by with_unfolding_all rfl);refine Dv ht (Ym ..) ?_ (by rw [Q3];omega);refine ⟨.ref _,_,I4.laid (t':=s3.toks) (o:=.tup xs.reverse) (λb ob q=>QM _ q) (QV _) ?_,rfl,q _ (I4.hok.fresh (QV _))⟩;exact ⟨by simpa using hz,_,r.reverse,aau _ _,λo q=>by rw [QW _ rfl] at q;cases q;rfl⟩
theorem nN (h:zT X.K X.mg x d) (hK:autoParam (X.K=c.K) zA._auto_1) (hg:autoParam (Gl X x) zA._auto_1) (hd:autoParam ((x == ("__debug__":Str))=false) zB._auto_1):QD X c (.Name x pos) (gC d):=by refine ⟨?_⟩;obtain ⟨u,v,h1,h2,h3⟩:=h;exact Hr h1 h2 (λJ=>hK▸h3 J) hg hd
end
section
variable {X:Cx}{c:C}{e a b tg:Rz}{es:List Rz}{ga gb g:G R}{pos:Pos}{st:TR}{t u:G O}{tb:G Bool}
theorem l5:iE X c st oz:=⟨λQw s σ H D I ⟨J,env,sr,w⟩=>w.elim⟩
theorem gG (h:QD X c a g):QD X c (.UnaryOp .USub a pos) (iH g):=have h:=h.h;⟨eE (F2 DB h) λσ H Q ⟨J,env,sr,w⟩=>by
 refine ⟨J,env,sr,aC (aI w) λr wr v J1 H1 e1 r1=>?_⟩;split at wr
 ·cases r1;exact ⟨_,rfl,wr _ J1 H1 e1 (.int _)⟩
 ·exact wr.elim⟩
theorem HR (h:QD X c e g) (hK:autoParam (X.K=c.K) zA._auto_1) (he:∀whole,Yg e X.env whole=(do let v <-whole;UG e.pos;holding [v] (truthy v)):=by intro _;rfl):QB X c e (JA g):=have h:=h.h;⟨rJ (EM h he) λσ H Q ⟨J,env,sr,w⟩=>by
 refine ⟨J,env,sr,aC (aI w) λr wr v J1 H1 e1 r1=>?_⟩;rw [hK];obtain ⟨k,k1,k2⟩:=Ip (sr.hp.ext e1) r1 wr;exact ⟨k,k1,k2 J1 H1 e1⟩⟩
theorem A3 (n:Nat){body:List TR}(ht:QB X c e tb) (hb:j6 X c body u) (hp:Zm (Rb X.prog X.w) X.A X.env X.xe:=by first | exact Zq | exact YJ):iE X c (.While e body [] pos) (wM n tb u):=have ht:=ht.h;have hb:=hb.h;⟨fZ (EL hp ht hb) λE σ H ⟨J,env,sr,w⟩=>by
 refine ⟨λm σ H=>∃J' env,aW J J'/\SR c J' H σ env/\cM (j4 tb u m env) (oP c J' E) c.T,⟨n,J,env,aW.refl J,sr,w⟩,?_⟩;rintro m σ H ⟨J',env,s',sr',w'⟩;cases m with
 | zero=>exact w'.elim
 | succ m=>
  refine ⟨J',env,sr',aC (aI w') λk wk J1 H1 e1=>?_⟩;cases k with
  | false=>
   rw [if_neg (by decide)] at wk ⊢;exact wk σ J1 H1 e1.j (sr'.ext e1)
  | true=>
   rw [if_pos rfl] at wk ⊢;refine ⟨λσ2 H2=>∃J2 env2,aW J1 J2/\SR c J2 H2 σ2 env2/\cM (j4 tb u m env2) (oP c J2 E) c.T,?_,?_⟩
   ·rintro σ2 H2 ⟨J2,env2,s2,sr2,w2⟩;exact ⟨m,RN m,J2,env2,(s'.trans e1.j).trans s2,sr2,w2⟩
   ·refine ⟨J1,env,sr'.ext e1,aC (aI wk) λo wo=>?_⟩;cases o with
    | nx env4=>exact λσ4 J4 H4 s4 sr4=>⟨J4,env4,s4,sr4,aC wo λo q=>q.mono (e1.j.trans s4)⟩
    | ct env4=>exact λσ4 J4 H4 s4 sr4=>⟨J4,env4,s4,sr4,aC wo λo q=>q.mono (e1.j.trans s4)⟩
    | bk env4=>exact λσ4 J4 H4 s4 sr4=>wo σ4 J4 H4 (e1.j.trans s4) sr4
    | rt r=>exact λv J4 H4 s4 h4 r4=>wo v J4 H4 (e1.j.trans s4) h4 r4⟩
theorem ES (i j:Nat){x y:Str}{p1 p2 pos' pos'':Pos}(nd:X.N.Nodup) (hi:autoParam (X.N[i]?=some x) zA._auto_1) (hx:Loc X.env.scope x:=by first | exact Ug rfl | exact Te rfl) (hj:autoParam (X.N[j]?=some y) zA._auto_1)
  (hv:mF X.env.scope y:=by first | exact Ug rfl | exact Te (Ug rfl) | exact Te (Te rfl)) (hd:autoParam ((y == ("__debug__":Str))=false) zB._auto_1) (hcd:autoParam ((y == ("__classdict__":Str))=false) zB._auto_1)
  (hbase:autoParam (SX (.Name y p1) "pop" X.env (eval (.Name y p1) X.env)=eval (.Name y p1) X.env) zA._auto_1) (hline:autoParam ((p2.endLine == pos'.line)=true) zA._auto_1)
  (hs:autoParam (Ur (.Call (.Attribute (.Name y p1) "pop" p2) [] [] pos') (some (.Name x pos'')) pos.line X.env=pure false) zA._auto_1)
  (hf:X.fn x=true\/X.env.scope.names.lookup x=some .local:=by first | exact .inl rfl | exact .inr rfl):iE X c (.Assign [.Name x pos''] (.Call (.Attribute (.Name y p1) "pop" p2) [] [] pos') pos) (wL i j):=⟨
 fZ (rH nd hi hx (Kw U7 PySem.F.slot_list_pop PySem.F.type_list_pop JY (fU hj hv hd hcd) hbase hline) hs hf) λE σ H ⟨J,env,sr,w⟩=>by
  unfold wL at w;split at w
  ·rename_i xs PR;split at w
   ·rename_i d OV;obtain ⟨v,h1,p,vs,rfl,h2,h3,h4,h5⟩:=sr.at_ j _ PR;refine ⟨.ref p,h1,.inl ⟨rfl,vs,c6.of h2⟩,?_⟩;obtain ⟨z,hz,rz⟩:=h5.get OV;refine ⟨p,vs,z,rfl,rfl,h2,by rw [<-h5.length];exact hz,?_⟩;have sr2:=sr.upd (xs':=xs.dropLast) (vs':=vs.dropLast) PR h1 h2 h3 h4 h5.dropLast;exact w (σ.set i (some z)) J _ (aW.refl J) (sr2.setD (x:=.d d) rz λx q=>by cases x <;> cases q)
   ·exact w.elim
  ·exact w.elim⟩
end
section
variable {X:Cx}{c:C}{e a b tg:Rz}{es:List Rz}{ga gb g:G R}{pos:Pos}
theorem yu (i:Nat){x:Str}{p1 p2 pos':Pos}(h:QD X c e g) (hN:autoParam (X.N[i]?=some x) zA._auto_1) (hv:mF X.env.scope x:=by first | exact Ug rfl | exact Te (Ug rfl) | exact Te (Te rfl)) (hd:autoParam ((x == ("__debug__":Str))=false) zB._auto_1)
  (hcd:autoParam ((x == ("__classdict__":Str))=false) zB._auto_1)
  (hbase:autoParam (SX (.Name x p1) "extend" X.env (eval (.Name x p1) X.env)=eval (.Name x p1) X.env) zA._auto_1)
  (hfew:autoParam (((Tn pos' (QY [e] X.env)).all (λx=>!x.1) && (aba pos' (Zo [] X.env)).all (λx=>x.1.isSome)
   && decide (([e]:List Rz).length + ([]:List Zp).length + (if ([]:List Zp).isEmpty then 0 else 1) < 30))=true) zA._auto_1)
  (hline:autoParam ((p2.endLine == pos'.line)=true) zA._auto_1) (hst:autoParam (QY [e] X.env=(false,eval e X.env)::QY [] X.env) zA._auto_1) (hplain:autoParam ((Tn pos' (QY [] X.env)).any (·.1)=false) zA._auto_1)
  (hs:autoParam (Ur (.Call (.Attribute (.Name x p1) "extend" p2) [e] [] pos') none pos.line X.env=pure false) zA._auto_1) (hK:autoParam (X.K=c.K) zA._auto_1):iE X c (.Expr (.Call (.Attribute (.Name x p1) "extend" p2) [e] [] pos') pos) (wK i g):=have h:=h.h;⟨
 fZ (zz (F0 U7 PySem.F.slot_list_extend PySem.F.type_list_extend JX (fU hN hv hd hcd) (gF h ji hst) hbase hfew hline hst hplain) hs) λE σ H ⟨J,env,sr,w⟩=>by
  unfold wK at w;split at w
  ·rename_i xs hi;obtain ⟨v,h1,a,vs,rfl,h2,h3,h4,h5⟩:=sr.at_ i _ hi;refine ⟨.ref a,h1,.inl ⟨rfl,vs,c6.of h2⟩,?_⟩;refine ⟨J,env,sr,aC (aI w) λr wr y J1 H1 e1 r1=>?_⟩;obtain ⟨ys,q,wr⟩:=jE wr;split at wr
   ·rename_i hz;obtain ⟨p,ws,rfl,hq,hs⟩:=kT (sr.hp.ext e1) r1 q;refine ⟨a,p,vs,ws,rfl,rfl,e1.h _ _ h2,by rw [hK];exact hq,by rw [<-h5.length,<-hs.length];exact hz,?_⟩;refine wr σ J1 _ e1.j ?_;exact (sr.ext e1).upd hi h1 (e1.h _ _ h2) (e1.frz a (by rw [h2];intro z;cases z) h3) h4 ((h5.mono e1.j).append hs)
   ·exact wr.elim
  ·exact w.elim⟩
theorem KZ (ha:QD X c a ga) (hb:QD X c b gb):QB X c (.Compare a [.Is] [b] pos) (aJ (g2 (FI false) ga gb)):=have ha:=ha.h;have hb:=hb.h;⟨jj Kf (by
 intro He He' J H x y u v Q hp rx ry w;unfold FI at w;split at w
 ·rename_i o ho;refine ⟨o,by rw [zx ry];exact ho,?_⟩;rw [zx rx];exact w _ J H (Ext.refl hp.sub) (.bl _)
 ·exact w.elim) ha hb⟩
end
section
variable {X:Cx}{c:C}{e a b tg i:Rz}{es:List Rz}{ga gb g:G R}{pos:Pos}
theorem xN {x:Str}{QC:List (Str×D)}{p:Pos}(h:qi X.K X.w X.mg x QC) (hi:QD X c i g) (hK:autoParam (X.K=c.K) zA._auto_1) (hg:autoParam (Gl X x) zA._auto_1) (hd:autoParam ((x == ("__debug__":Str))=false) zB._auto_1) (hs:n6 i:=by exact λ_ _=>rfl):QD X c (.Subscript (.Name x p) i pos) (Ay QC g):=by
 have hi:=hi.h;refine ⟨?_⟩;obtain ⟨a,us,h1,h2,h3,h4⟩:=h;refine eE (F1 Em (tG (v:=.ref a) hg h1 rfl hd) hi hs) λσ H Q ⟨J,env,sr,w⟩=>?_;refine ⟨J,env,sr,aC (aI w) λr wr v J1 H1 e1 r1=>?_⟩;split at wr
 ·rename_i k;cases r1;split at wr
  ·rename_i d hd';obtain ⟨u,v,k1,k2,k3⟩:=(h4.get k).1 d hd';exact ⟨a,us,k,u,v,rfl,rfl,h3,k1,k2,wr v J1 H1 e1 (show Rep c.K J1 d v from hK▸k3 J1)⟩
  ·exact wr.elim
 ·exact wr.elim
theorem HM {x:Str}{QC:List (Str×D)}{p:Pos}(h:qi X.K X.w X.mg x QC) (ha:QD X c a g) (hg:autoParam (Gl X x) zA._auto_1) (hd:autoParam ((x == ("__debug__":Str))=false) zB._auto_1) (hm:autoParam (R5 .In (.Name x p)=false) zA._auto_1):QB X c (.Compare a [.In] [.Name x p] pos) (aJ (Jy false QC g)):=by
 have ha:=ha.h;refine ⟨?_⟩;obtain ⟨q,us,h1,h2,h3,h4⟩:=h;refine rJ (tK Ke ha (tG (v:=.ref q) hg h1 rfl hd) hm) λσ H Q ⟨J,env,sr,w⟩=>?_;refine ⟨J,env,sr,aC (aI (aI w)) λr wr v J1 H1 e1 r1=>?_⟩;split at wr
 ·rename_i k;cases r1;refine ⟨q,us,k,rfl,rfl,h2,h3,?_⟩;rw [(h4.get k).2];exact ⟨_,rfl,wr J1 H1 e1⟩
 ·exact wr.elim
end
section
variable {prog:Q2}{w:Ro}{A:RA}{E:QH->QL->Prop}{s:QL}{l:Q4}{us:Array QH}{ns:List Int}
variable {X:Cx}{c:C}{e a b tg i:Rz}{es:List Rz}{ga gb g:G R}{pos:Pos}
theorem xO {d:Int}{j:Nat}{p kp vp:Pos}(ha:QD X c e g) (hm:X.mg "max"=none) (hK:autoParam (X.K=c.K) zA._auto_1) (hc:autoParam (X.calm=true) zA._auto_1) (hg:autoParam (Gl X "max") zA._auto_1)
  (he:autoParam (Tn pos (QY [e] X.env)=(false,eval e X.env)::Tn pos (QY [] X.env)) zA._auto_1) (hst:autoParam (QY [e] X.env=(false,eval e X.env)::QY [] X.env) zA._auto_1)
  (hplain:autoParam ((Tn pos (QY [e] X.env)).any (·.1)=false) zA._auto_1):QD X c (.Call (.Name "max" p) [e] [⟨some "default",.Constant (.int d) j vp,kp⟩] pos) (qP d g):=by
 have ha:=ha.h;refine ⟨?_⟩;intro Qw s σ H Q I ⟨J,env,sr,w⟩;refine Uk (nD I hg hm aaz ?_ (by decide) (by decide));refine Z7 (bU ((gF ha ji hst) pos Qw s σ H (λvs H1=>∃p ns J1,vs=[.ref p]/\c6 X.K H1 p (ns.map V.int)/\Ext J H J1 H1/\∀v J' H',Ext J H J' H'->RR c H J' H' (.d (.int (kM d ns))) v->Q v H') I ⟨J,env,sr,aC (aI w) λr wr v J1 H1 e1 r1=>?_⟩) λus s1 ⟨vs,H1,I1,rv,p,ns,J1,hvs,hq,e1,q⟩=>?_) he hplain rfl rfl
 ·obtain ⟨xs,hx,wr⟩:=lF wr;obtain ⟨p,ws,rfl,hl,hs⟩:=RR.list (sr.hp.ext e1) r1 hx;split at wr
  ·rename_i ns hns;have:=qX hns hs;subst this;exact ⟨p,ns,J1,rfl,by rw [hK];exact hl,e1,wr⟩
  ·exact wr.elim
 ·subst hvs;obtain ⟨u,rfl,ru⟩:=rv.one;cases ru;refine aaA (bU (xD Qw s1 σ H1 (λv H2=>v=.int d/\H2=H1) I1 ⟨rfl,rfl⟩) λdv s2 ⟨v2,H2,I2,r2,hv2,PZ⟩=>aaH ?_);subst hv2 PZ;obtain ⟨td,rfl⟩:=r2;obtain ⟨Qx,r',pl,hz⟩:=I2.list hq;have hlen:=r'.length;rw [QN] at hlen;show Q8 _ _ (call (.builtin "max") [.ref p] [("default",.int d td)]) _ _ s2;refine BG (I2.ok.hd hc) pl.isList (Iv r') (by simp [hlen]) λt' h' tk k=>?_;exact ⟨.int _,H2,I2.kept k,⟨t',rfl⟩,q _ J1 H2 e1 (.int _)⟩
end
section
variable {X:Cx}{c:C}{e a b d tg:Rz}{es:List Rz}{ga gb g:G R}{pos:Pos}
theorem ir (h:QD X c e g) (hK:autoParam (X.K=c.K) zA._auto_1):Bv X c tg e (kG g):=have h:=h.h;⟨vj (CM h) λσ H Q ⟨J,env,sr,w⟩=>by
 refine ⟨J,env,sr,aC (aI w) λr wr v J1 H1 e1 r1=>?_⟩;rw [hK];split at wr
 ·cases r1 with
  | tup h1 h2=>exact ⟨_,rfl,.inr ⟨⟨_,gj e1.sub h1⟩,wr _ J1 H1 e1 (uH (λJ H u=>u) h1 h2)⟩⟩
 ·cases r1 with
  | lst h1 h2=>exact ⟨_,rfl,.inl ⟨⟨_,e1.sub.seq h1⟩,wr _ J1 H1 e1 (nZ (.inl h1) h2)⟩⟩
 ·obtain ⟨J2,e2,s2,rd⟩:=freeze e1 r1 rfl;cases rd with
  | lst h1 h2=>exact ⟨_,rfl,.inl ⟨⟨_,e2.sub.seq h1⟩,wr _ J2 H1 e2 (nZ (.inl h1) h2)⟩⟩
 ·obtain ⟨a,vs,rfl,h1,h2⟩:=r1;exact ⟨_,rfl,.inl ⟨⟨_,(sr.hp.ext e1).ent.seq h1⟩,wr _ J1 H1 e1 (nZ (.inr h1) h2)⟩⟩
 ·exact wr.elim⟩
theorem dS (h:QD X c e g) (hK:autoParam (X.K=c.K) zA._auto_1):Bu X c tg e (gQ g):=have h:=h.h;⟨vj (CM h) λσ H Q ⟨J,env,sr,w⟩=>by
 refine ⟨J,env,sr,aC (aI w) λr wr v J1 H1 e1 r1=>?_⟩;rw [hK];have lst:∀{xs:List D},fS r=.ok xs->(∀It J1' H1',Ext J H J1' H1'->Walk c It xs J1' (λJ' H'=>aW J1' J'/\aW H1' H')->Q It H1')->∃a,v=.ref a/\(((∃xs,c6 c.K H1 a xs)/\Q (E_ c.K a) H1)\/((∃xs,fP c.K H1 a xs)/\Q (Fd c.K a) H1)):=fun {xs} q wr=>by obtain ⟨a,vs,rfl,h1,h2⟩:=RR.list (sr.hp.ext e1) r1 q;refine ⟨a,rfl,.inl ⟨⟨_,h1⟩,wr _ J1 H1 e1 λi J' H' hp u=>?_⟩⟩;have h':=u.2.seq h1;refine ⟨λhl=>⟨vs,h',by rw [<-h2.length];exact hl⟩,λd hd=>?_⟩;obtain ⟨v,k1,k2⟩:=h2.get hd;refine ⟨⟨vs,v,h',k1⟩,λx H2 ⟨e,hy⟩=>?_⟩;subst e;have:=hy vs h';rw [k1] at this;cases this;exact ⟨J',Ext.refl hp.sub,k2.mono u.1⟩
 cases r with
 | d y=>
  cases y with
  | tup xs=>
   cases r1 with
   | tup h1 h2=>exact ⟨_,rfl,.inr ⟨⟨_,gj e1.sub h1⟩,wr _ J1 H1 e1 (uH (λJ H u=>u.1) h1 h2)⟩⟩
  | lst xs=>exact lst rfl wr
  | _=>exact wr.elim
 | l m xs=>exact lst rfl wr
 | mo _ _=>exact wr.elim
 | mb _ _=>exact wr.elim
 | mf _ _=>exact wr.elim
 | ln _=>exact wr.elim
 | o _ _ _=>exact wr.elim⟩
end
section
variable {X:Cx}{c:C}{st:TR}{g:G O}
theorem ER (i:Nat) (h:iE X c st g):iE X c st (sS i g):=have h:=h.h;⟨λQw s σ H D I ⟨J,env,sr,w⟩=>by
 unfold sS at w;split at w
 ·rename_i xs hi;obtain ⟨v,h1,a,vs,rfl,h2,h3,h4,h5⟩:=sr.at_ i _ hi;obtain ⟨J',s1,sr'⟩:=sr.frz (x:=.inl xs) hi h1 h2 h3 h4 (.lst (.inl (.inl bI)) (h5.mono (cC h3 _)));exact h Qw s σ H D I ⟨J',_,sr',aC w λo q=>q.mono s1⟩
 ·rename_i ks vs hi;obtain ⟨v,h1,a,rfl,⟨us,ws,ep,h2,m1,m2,m3,m4⟩,h3,h4⟩:=sr.at_ i _ hi;obtain ⟨J',s1,sr'⟩:=sr.frz (x:=.inr (ks,vs)) hi h1 h2 h3 h4 (.dct bI (m1.mono (cC h3 _)) (m2.mono (cC h3 _)) m3 m4);exact h Qw s σ H D I ⟨J',_,sr',aC w λo q=>q.mono s1⟩
 ·exact h Qw s σ H D I ⟨J,env,sr,w⟩⟩
end
section
variable {X:Cx}{c:C}
theorem iy {P:Q2}{w:Ro}{K:QG}{mg:Str->Option QH}{base:Sa}{x QA:Str}{st:TR}{f:Q4}{fd:Rp}{N ps:List Str}{k:Nat}{Fm:List S->M R}(F:fF K x QA st f fd) (hm:mg x=some (.ref f)) (Sc:cJ N ps (aN st))
  (hbi:∀(kV doc pm:QH) (an:Option Q4) (cdv ct:QH) (us:List QH),us.length=ps.length->Vn (Rv x QA (cD st) (bM st) (aN st) .none kV doc pm an cdv ct) ⟨us,[]⟩=pure (ps.zip us)){gB:G O}
  (hb:∀(cdv:QH) (A:RA) (outer:List Env) (s:QL) (H:Hp) (E:XK) (J:Hp) (T:Exc->Prop),cR k (A.deeper (Va QA (aN st) s.heap.objs.size f cdv))->
   j6 (qE P w K mg base N QA (aN st) f cdv A outer s H E) ⟨K,H,J,T⟩ (bM st) gB)
  (hF:∀as r,as.length=ps.length->Fm as=.ok r->fin (gB (aD N as))=.ok r):bS P w K mg base (k + 1) ps.length x Fm:=
 Jd F hm Sc hbi (λcdv A outer s H E J T hr=>(hb cdv A outer s H E J T hr).h) hF
theorem HL {P:Q2}{w:Ro}{K:QG}{mg:Str->Option QH}{base:Sa}{x QA:Str}{st:TR}{f:Q4}{fd:Rp}{N ps:List Str}{k:Nat}{Fm:List S->M R}(F:fF K x QA st f fd) (Sc:cJ N ps (aN st)){gB:G O}
  (hb:∀(cdv:QH) (A:RA) (outer:List Env) (s:QL) (H:Hp) (E:XK) (J:Hp) (T:Exc->Prop),cR k (A.deeper (Va QA (aN st) s.heap.objs.size f cdv))->
   j6 (qE P w K mg base N QA (aN st) f cdv A outer s H E) ⟨K,H,J,T⟩ (bM st) gB)
  (hF:∀as r,as.length=ps.length->Fm as=.ok r->fin (gB (aD N as))=.ok r):eG P w K mg base jH (k + 1) f fd ps (mW K ps.length Fm):=
 BY F Sc (λcdv A outer s H E J T hr=>(hb cdv A outer s H E J T hr).h) hF
end
end DL
namespace DX
open PySem PySem.Spec
open Builtin Builtin.ObjectAttr
end DX
namespace DX
open PySem PySem.Spec
end DX
namespace DX
open PySem PySem.Spec PyProof.Rows L2
end DX
namespace DL
open PySem PySem.Spec PyProof.Rows L2 DX
noncomputable def MT (K:QG) (J:Hp) (x:Exc) (v:QH) (dx:Option Q4):Prop:=
 ∃a C vs,v=.ref a/\J a=some (XO a C dx)/\Rn K Q_ x.cls=some (some (.ref C))/\XF J dx x.ns vs/\aX K J x.ds vs/\∃P,GX K P/\XE K P C
noncomputable def XW (K:QG) (J H:Hp) (E:XK) (x:Exc):Prop:=∀v dx J' H',Ext J H J' H'->MT K J' x v dx->E v dx H'
noncomputable def uB (K:QG) (n:Nat) (F:List S->M R):Sp:=λvs H Q E=>∃J as,aW J H/\as.length=n/\ia K J H as vs/\cM (F as) (λr=>∀v J' H',Ext J H J' H'->FR K H J' H' r v->Q v H') (XW K J H E)
noncomputable abbrev NF (P:Q2) (w:Ro) (K:QG) (mg:Str->Option QH) (base:Sa) (N:List Str) (QA:Str) (sc:Uo) (f:Q4) (cd:QH) (A:RA) (outer:List Env) (s:QL) (H:Hp) (E:XK):Cx:=nj (ql P w) P w K mg base N QA sc f cd A outer s H E
end DL
namespace DX
open PySem PySem.Spec PyProof.Rows L2
end DX
namespace DL
open PySem PySem.Spec PyProof.Rows L2 DX
end DL
namespace DX
open PySem PySem.Spec PyProof.Rows L2
end DX
namespace DL
open PySem PySem.Spec PyProof.Rows L2 DX
theorem yf {K:QG}{J:Hp}{f:Str}:∀{ns:List Str}{ds:List D}{vs:List V}{d:D},aX K J ds vs->(ns.zip ds).lookup f=some d->∃v,(ns.zip vs).lookup f=some v/\Rep K J d v
 | [],_,_,_,_,h=>by simp at h
 | _::_,_,_,_,.nil,h=>by simp at h
 | n::ns,_,_,d,.cons r rs,h=>by
  rw [List.zip_cons_cons,Si] at h ⊢;cases q:f == n with
  | true=>rw [q] at h;cases h;exact ⟨_,rfl,r⟩
  | false=>rw [q] at h;exact yf rs h
end DL
namespace DX
open PySem PySem.Spec PyProof.Rows L2
open Sem (wp)
end DX
namespace DL
open PySem PySem.Spec PyProof.Rows L2 DX
noncomputable def DH (P:Q2) (w:Ro) (K:QG) (mg:Str->Option QH) (base:Sa) (k n:Nat) (x:Str) (Fm:List S->M R):Prop:=
 ∃f fd ps,eG P w K mg base (ql P w) k f fd ps (uB K n Fm)/\mg x=some (.ref f)/\RL K (.ref f)=true/\Binds K fd ps []
section
variable {X:Cx}{c:C}{e a:Rz}{es:List Rz}{pos:Pos}{g:G R}{L:List Str}
theorem ED {k n:Nat}{f:Q4}{fd:Rp}{ps:List Str}{F:List S->M R}{x:Str}{p:Pos}{gs:G (List R)}(G:eG X.prog X.w X.K X.mg X.base (ql X.prog X.w) k f fd ps (uB X.K n F)) (hr:cR k X.A) (hm:X.mg x=some (.ref f)) (hk:RL X.K (.ref f)=true)
  (hb:Binds X.K fd ps []) (ha:yK X c (e::es) gs) (hT:autoParam (c.K=X.K) zA._auto_1) (hg:autoParam (Gl X x) zA._auto_1) (hdb:autoParam ((x == ("__debug__":Str))=false) zB._auto_1) (he:autoParam (QY (e::es) X.env=(false,eval e X.env)::QY es X.env) zA._auto_1)
  (hpl:autoParam ((Tn pos (QY es X.env)).any (·.1)=false) zA._auto_1):PD X c (.Call (.Name x p) (e::es) [] pos) (gN (aB n F) gs):=by
 refine eE (tF (E:=λ_ _ _=>False) G hr hg hm hk hb .nil (λQw σ H s v s' I ⟨e,C,dx,T,H',ev,f⟩=>f.wish.elim) ha hdb he hpl) λσ H Q ⟨J,env,sr,w⟩=>?_;refine ⟨J,env,sr,aC (aI w) λrs wr vs J1 H1 e1 r1=>?_⟩;unfold aB at wr;split at wr
 ·rename_i hl;have h1:=sr.hp.ext e1;have ar:=r1.args h1;rw [hT] at ar;refine ⟨J1,rs.map bO,e1.sub,by simpa using hl,by rw [R6];exact ar,?_⟩;cases q:F (rs.map bO) with
  | bad=>rw [q] at wr;exact wr
  | exc x=>rw [q] at wr;exact wr.elim
  | ok r=>
   rw [q] at wr;intro v J' H' e2 fr;refine wr v J' H' (e1.trans e2) ?_;cases r with
   | d y=>exact (show Rep c.K J' y v from hT▸fr)
   | mo _ _=>exact fr.elim
   | mb _ _=>exact fr.elim
   | mf _ _=>obtain ⟨a,h1,h2,h3,h4⟩:=fr;exact ⟨a,h1,hT▸h2,h3,e1.h.free h4⟩
   | o m _ _=>cases m with
    | own=>exact fr.elim
    | bor=>exact fr.elim
    | fresh=>obtain ⟨a,h1,h2,h3,h4⟩:=fr;exact ⟨a,h1,hT▸h2,h3,e1.h.free h4⟩
   | ln _=>obtain ⟨a,us,h1,h2,h3,h4,h5⟩:=fr;exact ⟨a,us,h1,h2,h3,e1.h.free h4,hT▸h5.mono (aW.refl _) λ_ h=>e1.h.free h⟩
   | l m ys=>
    obtain ⟨a,us,h1,h2,h3,h4,h5⟩:=fr;exact ⟨a,us,h1,h2,h3,e1.h.free h4,hT▸h5⟩
 ·exact wr.elim
theorem iZ {F:List S->M R}{gs:G (List R)}(G:DH X.prog X.w X.K X.mg X.base k n x F) (hr:cR k' X.A) (ha:j5 X c (e::es) gs) (hk:autoParam (k<=k') zB._auto_1) (hT:autoParam (c.K=X.K) zA._auto_1) (hg:autoParam (Gl X x) zA._auto_1) (hdb:autoParam ((x == ("__debug__":Str))=false) zB._auto_1)
 (he:autoParam (QY (e::es) X.env=(false,eval e X.env)::QY es X.env) zA._auto_1) (hpl:autoParam ((Tn pos (QY es X.env)).any (·.1)=false) zA._auto_1):QD X c (.Call (.Name x p) (e::es) [] pos) (gN (aB n F) gs):=by obtain ⟨f,fd,ps,h1,h2,h3,h4⟩:=G;exact ⟨ED h1 (hr.mono hk) h2 h3 h4 ha.h hT hg hdb he hpl⟩
end
section
variable {K:QG}{mg:Str->Option QH}{P C N:Q4}{nm q:Str}{bs:List QH}{sn:List Str}{sub:List QH}{ab:Bool}{col:Option Bool}{dd:Option Q4}{k0 k1 k2 k3 k5:Option QH}
theorem My (l:K.lookup C=some (X5 nm q C N bs (.ref P::nY) true sn sub ab col dd k0 k1 k2 k3 k5 "ValueError.__new__")) (g:Rk K (.ref C) "__getattribute__"=some (some (.builtin "BaseException.__getattribute__"))) (h:Rk K (.ref C) "__getattr__"=some none)
  (k:Rk K (.ref C) "__class__"=some (some (.builtin "object.__class__"))):XE K P C:=⟨⟨nm,q,N,bs,sn,sub,ab,col,dd,k0,k1,k2,k3,k5,l⟩,g,h,k⟩
theorem LH (l:K.lookup P=some (X5 nm q P N bs nY true sn sub ab col dd k0 k1 k2 k3 k5 "ValueError.__new__")) (ln:K.lookup N=some ⟨c,d,.dict es ep,sl⟩) (hs:Lk es=true) (hq:(quiet.all λn=>(nsFind es n).isNone)=true)
 (gt:Uz K (.builtin "object.__class__") "__get__"=some (some (.builtin "getset_descriptor.__get__"))) (tk:U4 K (.builtin "object.__class__")=some true):GX K P:=
 ⟨gt,tk,nm,q,N,bs,sn,sub,ab,col,dd,k0,k1,k2,k3,k5,l,λh X=>⟨_,LW ln hs X,λn hn=>Option.isNone_iff_eq_none.mp (Th.mp hq n hn)⟩⟩
end
end DL
namespace K01
open PySem DL
noncomputable def jt:List Str:=["_law_script","_law_k"]
noncomputable def lM:G O:=(au (aG (aJ (g2 (bV λi j=>.bl (decide (i < j))) (af 1) (gN eS (ah (af 0) ay)))) (aL (g2 bz (g2 aP (af 0) (af 1)) (g2 jP (gC (.int 2)) (gC (.int 64))))) bf)
 (aL (gC (.int 0))))
noncomputable def b8 (as:List S):M R:=fin (lM (aD jt as))
noncomputable def oU:List Str:=["_law_cell_here","_law_many","_law_number","_law_base","_law_size","_law_words","_law_first","_law_signs","_law_at","_law_found","_law_k","_law_sign"]
noncomputable def kI:G O:=(au (aO 2 (g2 bz (g2 cO (af 0) (gC (.int 7129))) (gC (.int 1000033))))
 (au (aO 3 (g2 aP (gC (.str "bcdfg")) (g2 bz (af 2) (gC (.int 5)))))
 (au (aO 4 (g2 bA (gC (.int 2)) (g2 bz (g2 cH (af 2) (gC (.int 5))) (gC (.int 7)))))
 (au (aG (aJ (g2 (bu false) (g2 bz (g2 cH (af 2) (gC (.int 35))) (gC (.int 4))) (gC (.int 1)))) (aL (cZ 1 [3] (dz (ah (af 1) ay)) (aF 0) fT (g2 cO (af 1) (g2 bA (gC (.int 2)) (af 0))))) bf)
 (au (aG (aJ (g2 (bu false) (g2 bz (g2 cH (af 2) (gC (.int 35))) (gC (.int 4))) (gC (.int 2)))) (au (aO 5 (dJ (ao (gC (.str "and")) (ao (gC (.str "or")) (ao (gC (.str "not")) (ao (gC (.str "some")) (ao (gC (.str "every")) (ao (gC (.str "least")) (ao (gC (.str "true")) (ao (gC (.str "false")) aK))))))))))
 (au (aO 6 (g2 bz (g2 cH (af 2) (gC (.int 140))) (gC (.int 8))))
 (au (aO 7 (gC (.str "abcdefghijklmnopqrstuvwxyz")))
 (aL (gN jy (ah (cZ 1 [5,6,7,2] (dz (ah (af 1) ay)) (aF 0) fT (g2 bA (g2 aP (g2 bA (af 1) (af 1)) (g2 bA (af 2) (af 0))) (g2 aP (af 3) (g2 bz (g2 cH (af 4) (gC (.int 1120))) (gC (.int 26)))))) ay)))))) bf)
 (au (aO 8 (g2 bz (g2 cH (af 2) (gC (.int 105))) (af 4)))
 (au (aO 9 (dJ aK))
 (au (dW (dz (ah (af 1) ay)) (aF 10) (au (aO 11 (g2 aP (gC (.str "abcdefghijklmnopqrstuvwxyz")) (g2 bz (g2 bA (g2 cH (af 2) (gC (.int 840))) (g2 cO (gC (.int 5)) (af 10))) (gC (.int 26)))))
 (dR 9 (g2 bA (g2 bA (g2 cO (af 3) (af 8)) (af 11)) (g2 cO (af 3) (g2 gP (g2 gP (af 4) (gC (.int 1))) (af 8)))))))
 (aL (gN jy (ah (af 9) ay)))))))))))
noncomputable def fJ (as:List S):M R:=fin (kI (aD oU as))
noncomputable def zX:List Str:=["_law_bits","_law_many","_law_found","_law_point_here"]
noncomputable def lO:G O:=(au (aO 2 (dJ aK))
 (au (dW (dz (ah (af 1) ay)) (aF 3) (au (aG (aJ (g2 (bu false) (g2 bz (af 0) (gC (.int 2))) (gC (.int 1)))) (dR 2 (af 3)) bf)
 (aO 0 (g2 cH (af 0) (gC (.int 2))))))
 (aL (gN fG (ah (af 2) ay)))))
noncomputable def gA (as:List S):M R:=fin (lO (aD zX as))
noncomputable def oV:List Str:=["_law_bits","_law_many","_law_found","_law_one","_law_other"]
noncomputable def kJ:G O:=(au (aO 2 (dJ aK))
 (au (dW (dz (ah (af 1) ay)) (aF 3) (dW (dz (ah (af 1) ay)) (aF 4) (au (aG (aJ (g2 (bu false) (g2 bz (af 0) (gC (.int 2))) (gC (.int 1)))) (dR 2 (b7 (ao (af 3) (ao (af 4) aK)))) bf)
 (aO 0 (g2 cH (af 0) (gC (.int 2)))))))
 (aL (gN fG (ah (af 2) ay)))))
noncomputable def gc (as:List S):M R:=fin (kJ (aD oV as))
noncomputable def m_:List Str:=["_law_cell_here","_law_names_here","_law_number","_law_first"]
noncomputable def jS:G O:=(au (aO 1 (gN (aB 2 fJ) (ah (af 0) (ah (gC (.int 6)) ay))))
 (au (aO 2 (g2 bz (g2 cO (af 0) (gC (.int 523))) (gC (.int 10007))))
 (au (aO 3 (g2 bz (g2 cH (af 2) (gC (.int 16))) (gC (.int 3))))
 (aL (b7 (ao (gN fG (ah (k7 iW (af 1) uf (jq (g2 bz (af 2) (gC (.int 4))))) ay)) (ao (gN fG (ah (k7 iW (af 1) (jq (af 3)) (jq (g2 bA (af 3) (g2 bz (g2 cH (af 2) (gC (.int 4))) (gC (.int 4)))))) ay)) aK)))))))
noncomputable def gm (as:List S):M R:=fin (jS (aD m_ as))
noncomputable def oX:List Str:=["_law_script","_law_at","_law_many","_law_tongue_here","_law_marks","_law_k","_law_arrows","_law_bits"]
noncomputable def kK:G O:=(au (aO 4 (dJ aK))
 (au (dW (dz (ah (gN eS (ah (g2 aP (af 3) (gC (.int 0))) ay)) ay)) (aF 5) (dR 4 (b7 (ao (g2 aP (g2 aP (af 3) (gC (.int 0))) (af 5)) (ao (gN (aB 2 gA) (ah (g2 bz (g2 cO (gN (aB 2 b8) (ah (af 0) (ah (g2 bA (af 1) (af 5)) ay))) (gC (.int 167))) (g2 jP (gC (.int 2)) (gC (.int 8)))) (ah (af 2) ay))) aK)))))
 (au (aO 6 (dJ aK))
 (au (dW (dz (ah (gN eS (ah (g2 aP (af 3) (gC (.int 1))) ay)) ay)) (aF 5) (au (aO 7 (g2 bz (g2 cO (gN (aB 2 b8) (ah (af 0) (ah (g2 bA (g2 bA (af 1) (gC (.int 3))) (af 5)) ay))) (gC (.int 11400714819323198485))) (g2 jP (gC (.int 2)) (gC (.int 64)))))
 (dR 6 (b7 (ao (g2 aP (g2 aP (af 3) (gC (.int 1))) (af 5)) (ao (gN (aB 2 gc) (ah (af 7) (ah (af 2) ay))) aK))))))
 (aL (b7 (ao (af 2) (ao (gN fG (ah (af 4) ay)) (ao (gN fG (ah (af 6) ay)) aK)))))))))
noncomputable def fK (as:List S):M R:=fin (kK (aD oX as))
noncomputable def yg:List Str:=["_law_thing","_law_many"]
noncomputable def yq:G O:=(aL (bB (cL "int" (af 0)) (bB (bG (cL "bool" (af 0))) (bB (g2 (bV λi j=>.bl (decide (i<=j))) (gC (.int 0)) (af 0)) (g2 (bV λi j=>.bl (decide (i < j))) (af 0) (af 1))))))
noncomputable def kD (as:List S):M R:=fin (yq (aD yg as))
noncomputable def zV:List Str:=["_law_thing","_law_many"]
noncomputable def AA:G O:=(au (aG (bW (bH (aJ (cL "tuple" (af 0)))) (aJ (g2 (bu true) (gN eS (ah (af 0) ay)) (gC (.int 2))))) (aL (gC (.bl false))) bf)
 (aL (bB (gN (aB 2 kD) (ah (g2 aP (af 0) (gC (.int 0))) (ah (af 1) ay))) (gN (aB 2 kD) (ah (g2 aP (af 0) (gC (.int 1))) (ah (af 1) ay))))))
noncomputable def zR (as:List S):M R:=fin (AA (aD zV as))
noncomputable def uL:List Str:=["_law_thing"]
noncomputable def uV:G O:=(au (aG (bW (bH (aJ (cL "str" (af 0)))) (bW (aJ (g2 (bV λi j=>.bl (decide (i < j))) (gN eS (ah (af 0) ay)) (gC (.int 2)))) (aJ (g2 (bV λi j=>.bl (decide (j < i))) (gN eS (ah (af 0) ay)) (gC (.int 8)))))) (aL (gC (.bl false))) bf)
 (au (aG (aJ (g2 (gM false) (af 0) (b7 (ao (gC (.str "and")) (ao (gC (.str "or")) (ao (gC (.str "not")) (ao (gC (.str "some")) (ao (gC (.str "every")) (ao (gC (.str "least")) (ao (gC (.str "true")) (ao (gC (.str "false")) aK))))))))))) (aL (gC (.bl false))) bf)
 (aL (gN MY (ah (cZ 1 [] (M1 (af 0)) (aF 0) fT (g2 (MZ false) (af 0) (gC (.str "abcdefghijklmnopqrstuvwxyz")))) ay)))))
noncomputable def uK (as:List S):M R:=fin (uV (aD uL as))
noncomputable def zW:List Str:=["_law_thing","_law_many","_law_way","_law_k"]
noncomputable def AB:G O:=(au (aG (bW (bH (aJ (cL "tuple" (af 0)))) (aJ (g2 (bu true) (gN eS (ah (af 0) ay)) (gC (.int 2))))) (aL (gC (.bl false))) bf)
 (au (aG (bW (bH (aJ (gN (aB 1 uK) (ah (g2 aP (af 0) (gC (.int 0))) ay)))) (bH (aJ (cL "tuple" (g2 aP (af 0) (gC (.int 1))))))) (aL (gC (.bl false))) bf)
 (au (dW (dz (ah (gN eS (ah (g2 aP (af 0) (gC (.int 1))) ay)) ay)) (aF 3) (au (aG (bW (bQ (aJ (g2 (bu false) (af 2) (gC (.int 0)))) (bH (aJ (gN (aB 2 kD) (ah (g2 aP (g2 aP (af 0) (gC (.int 1))) (af 3)) (ah (af 1) ay)))))) (bQ (aJ (g2 (bu false) (af 2) (gC (.int 1)))) (bH (aJ (gN (aB 2 zR) (ah (g2 aP (g2 aP (af 0) (gC (.int 1))) (af 3)) (ah (af 1) ay))))))) (aL (gC (.bl false))) bf)
 (aG (bQ (aJ (g2 (bV λi j=>.bl (decide (j < i))) (af 3) (gC (.int 0)))) (bH (aJ (g2 Jt (g2 aP (g2 aP (af 0) (gC (.int 1))) (g2 gP (af 3) (gC (.int 1)))) (g2 aP (g2 aP (af 0) (gC (.int 1))) (af 3)))))) (aL (gC (.bl false))) bf)))
 (aL (gC (.bl true))))))
noncomputable def zS (as:List S):M R:=fin (AB (aD zW as))
theorem iX (h:n<=1000):n<=sizeLine:=RG h (by decide)
noncomputable def JW (k:Nat):Bool:=!(U6 "abcdefghijklmnopqrstuvwxyz" ⟨#[k]⟩ 0 (YD "abcdefghijklmnopqrstuvwxyz") 1).isEmpty
noncomputable def words:List D:=[.str "and",.str "or",.str "not",.str "some",.str "every",.str "least",.str "true",.str "false"]
noncomputable def Cy (x:Str):Bool:=decide (2<=x.length) && (decide (x.length<=8) && (!inD (.str x) words && x.cps.toList.all JW))
theorem BN {ge:G R}{f:D->D}(tl:Ev):∀(ds:List D) (x:Option S),(∀d∈ds,ge (some (.d d)::tl)=.ok (.d (f d)))->fk (aF 0) fT ge ds (x::tl)=.ok (ds.map f)
 | [],_,_=>rfl
 | d::r,x,h=>by have ih:=BN tl r (some (.d d)) λe he=>h e (QO _ he);unfold fk;simp only [aF,List.set_cons_zero,aS,fT,if_true,h d QT,toD];rw [ih];rfl
theorem oi {α:Type}{xs:List α}{k:Nat}{x:α}(h:xs[k]?=some x):L2.jN xs (k:Int)=some x:=by have hk:k < xs.length:=(Rt.mp h).1;unfold L2.jN L2.wU;rw [if_pos (by omega),if_pos (by omega)];simpa using h
theorem jx {xs:List D}{k:Nat}{x:D}(h:xs[k]?=some x):aP (.d (.tup xs)) (.d (.int k))=.ok (.d x):=by unfold aP;simp only [iP,aS,oi h]
theorem kg {m:Md}{xs:List D}{k:Nat}{x:D}(h:xs[k]?=some x):aP (.l m xs) (.d (.int k))=.ok (.d x):=by unfold aP;simp only [iP,aS,oi h]
theorem zc {z:Str}{k:Nat}{c:Nat}(hz:z.length<=1000) (h:z.cps.toList[k]?=some c):aP (.d (.str z)) (.d (.int k))=.ok (.d (.str ⟨#[c]⟩)):=by unfold aP;simp only [iX hz,if_true,oi h]
theorem bq (xs:List D):eS [.d (.tup xs)]=.ok (.d (.int xs.length)):=rfl
theorem eq_int (neg:Bool) (i j:Int):bu neg (.d (.int i)) (.d (.int j))=.ok (.d (.bl (if neg then !(i == j) else i == j))):=rfl
theorem dc (a:D) (r:List D):aP (.d (.tup (a::r))) (.d (.int 0))=.ok (.d a):=jx (k:=0) rfl
theorem dh (a b:D) (r:List D):aP (.d (.tup (a::b::r))) (.d (.int 1))=.ok (.d b):=jx (k:=1) rfl
theorem di (a b c:D) (r:List D):aP (.d (.tup (a::b::c::r))) (.d (.int 2))=.ok (.d c):=jx (k:=2) rfl
theorem Nc (n:Nat) (h:n<=1000):below 4611686018427387904 (n:Int)=true:=eY.mpr ⟨by omega,by omega⟩
noncomputable def F8 (j:Int):M (List D):=if below 4611686018427387904 j then .ok (eT 0 j.toNat) else .bad
theorem Lb (j:Int) (h:below 4611686018427387904 j=true):F8 j=.ok (eT 0 j.toNat):=by unfold F8;exact if_pos h
theorem La {gs:G (List R)}(hg:gs env=.ok [.d (.int j)]):dz gs env=F8 j:=by unfold dz F8;rw [hg];rfl
theorem xQ {gs:G (List R)}{env:Ev}{n:Nat}(hg:gs env=.ok [.d (.int (n:Int))]) (h:n<=1000):dz gs env=.ok (eT 0 n):=by rw [La hg,Lb _ (Nc n h)];exact congrArg (λk=>M.ok (eT 0 k)) (SG n)
theorem cK {t u:G O}(h:t env=.ok (.nx e)):au t u env=u e:=by unfold au;rw [h];rfl
theorem Dh {t u:G O}(h:t env=.ok (.rt r)):au t u env=.ok (.rt r):=by unfold au;rw [h];rfl
theorem jQ {g:G (List D)}{u:G O}(h:g env=.ok ds):dW g t u env=dj t u ds env:=by unfold dW;rw [h];rfl
noncomputable abbrev inner:G O:=(dW (dz (ah (gN eS (ah (af 2) ay)) ay)) (aF 3) (aG (bW (bH (aJ (gN (aB 3 zS) (ah (g2 aP (af 2) (af 3)) (ah (g2 aP (af 0) (gC (.int 0))) (ah (af 1) ay)))))) (bQ (aJ (g2 (bV λi j=>.bl (decide (j < i))) (af 3) (gC (.int 0)))) (bH (aJ (g2 Jt (g2 aP (g2 aP (af 2) (g2 gP (af 3) (gC (.int 1)))) (gC (.int 0))) (g2 aP (g2 aP (af 2) (af 3)) (gC (.int 0)))))))) (aL (gC (.bl false))) bf))
theorem cU (i j:Int):bA (.d (.int i)) (.d (.int j))=.ok (.d (.int (i + j))):=rfl
theorem Mv (i j:Int):gP (.d (.int i)) (.d (.int j))=.ok (.d (.int (i - j))):=rfl
theorem lK {C:Int->Int->Bool}{f:Int->Int->D}(h:C i j=true):fI C f (.d (.int i)) (.d (.int j))=.ok (.d (f i j)):=by show (if C i j=true then M.ok (R.d (f i j)) else M.bad)=_;rw [if_pos h]
theorem i6 (i j:Int) (h1:-(2 ^ 64) < j) (h2:j < 2 ^ 64):cO (.d (.int i)) (.d (.int j))=.ok (.d (.int (i * j))):=lK (C:=pW) (f:=λi j=>.int (i * j)) (by unfold pW;rw [S9];exact Te (eY.mpr ⟨h1,h2⟩))
theorem mw (i j:Int) (h1:-(2 ^ 64) < i) (h2:i < 2 ^ 64):cO (.d (.int i)) (.d (.int j))=.ok (.d (.int (i * j))):=lK (C:=pW) (f:=λi j=>.int (i * j)) (by unfold pW;rw [S9];exact Ug (eY.mpr ⟨h1,h2⟩))
theorem cI (i j:Int) (h1:0 < j) (h2:j < 1073741824):cH (.d (.int i)) (.d (.int j))=.ok (.d (.int (i / j))):=lK (by
 unfold AJ;rw [Ra];exact ⟨decide_eq_true h1,eY.mpr ⟨by omega,h2⟩⟩)
theorem bC (i j:Int) (h1:0 < j):bz (.d (.int i)) (.d (.int j))=.ok (.d (.int (i % j))):=lK (decide_eq_true h1)
theorem tR:jP (.d (.int 2)) (.d (.int 64))=.ok (.d (.int 18446744073709551616)):=lK (by decide)
theorem Lp:jP (.d (.int 2)) (.d (.int 8))=.ok (.d (.int 256)):=lK (by decide)
theorem Bd (x y:Str) (h:x.length + y.length<=1000):bA (.d (.str x)) (.d (.str y))=.ok (.d (.str (x++y))):=by show (if x.length + y.length<=sizeLine then M.ok (R.d (D.str (x++y))) else M.bad)=_;rw [if_pos (iX h)]
theorem Bc (x:Str) (n:Int) (h0:0<=n) (h:n<=1000) (hx:x.length<=1000):cO (.d (.str x)) (.d (.int n))=.ok (.d (.str (fO x n.toNat))):=by show (if 0<=n/\n<=1000/\x.length<=1000 then M.ok (R.d (D.str (fO x n.toNat))) else M.bad)=_;rw [if_pos ⟨h0,h,hx⟩]
noncomputable def IY:Str:="abcdefghijklmnopqrstuvwxyz"
theorem IZ:∀k:Fin 26,IY.cps.toList[k.val]?=some (97 + k.val):=by decide +kernel
theorem Gq:IY.length<=1000:=by decide +kernel
theorem q_ (i:Int) (h0:0<=i) (h:i < 26):aP (.d (.str "abcdefghijklmnopqrstuvwxyz")) (.d (.int i))=.ok (.d (.str ⟨#[97 + i.toNat]⟩)):=by
 have e:i=((i.toNat:Nat):Int):=by omega
 have:=zc (z:=IY) (k:=i.toNat) Gq (IZ ⟨i.toNat,by omega⟩);rw [e];exact this
noncomputable def bases:List Nat:=[98,99,100,102,103]
theorem Gz:∀k:Fin 5,("bcdfg":Str).cps.toList[k.val]?=some (bases.getD k.val 0):=by decide +kernel
theorem DS:("bcdfg":Str).length<=1000:=by decide +kernel
theorem GY (i:Int) (h0:0<=i) (h:i < 5):∃b∈bases,aP (.d (.str "bcdfg")) (.d (.int i))=.ok (.d (.str ⟨#[b]⟩)):=by
 have e:i=((i.toNat:Nat):Int):=by omega
 have hb:i.toNat < bases.length:=by show _ < 5;omega
 refine ⟨bases.getD i.toNat 0,?_,?_⟩
 ·rw [Ry,Q5 hb];exact Ti _
 ·have:=zc (z:="bcdfg") (k:=i.toNat) DS (Gz ⟨i.toNat,by omega⟩);rw [e];exact this
theorem om (x y:Str):(x++y).cps.toList=x.cps.toList++y.cps.toList:=by show (x.cps++y.cps).toList=_;simp
theorem qM (c:Array Nat):∀(k:Nat) (acc:Array Nat),((Rw k c).foldl (·++·) acc).toList=acc.toList++(Rw k c.toList).flatten
 | 0,acc=>by simp
 | k + 1,acc=>by rw [SA,VV,qM c k];simp [SA]
theorem iT (b n:Nat):(fO ⟨#[b]⟩ n).cps.toList=Rw n b:=by
 unfold fO;simp only;rw [qM]
 induction n with
 | zero=>rfl
 | succ n ih=>simpa [SA] using ih
theorem k_ (x:Str):x.length=x.cps.toList.length:=by show x.cps.size=_;simp
theorem Im {x y:Str}(h:x.cps.toList=y.cps.toList):x=y:=by
 cases x with
 | mk a=>
  cases y with
  | mk b=>
   simp only at h;congr 1;exact Zb.mp h
theorem iY {t:GT}{u:G O}(I:Nat->Ev->Prop) (n:Nat)
  (h:∀k,k < n->∀env,I k env->∃e1 e2,t (.int k) env=.ok e1/\u e1=.ok (.nx e2)/\I (k + 1) e2) (env:Ev) (h0:I 0 env):
  ∃e,dj t u (eT 0 n) env=.ok (.nx e)/\I n e:=by
 have key:∀(m i:Nat),i + m=n->∀env,I i env->∃e,dj t u ((VZ i m).map λ(k:Nat)=>D.int (0 + (k:Int))) env=.ok (.nx e)/\I n e:=by
  intro m
  induction m with
  | zero=>exact λi hi env hI=>⟨env,rfl,(by omega:i=n)▸hI⟩
  | succ m ih=>
   intro i hi env hI;obtain ⟨e1,e2,h1,h2,h3⟩:=h i (by omega) env hI;obtain ⟨e,h4,h5⟩:=ih (i + 1) (by omega) e2 h3;refine ⟨e,?_,h5⟩;rw [Zc,Ri];unfold dj;rw [Y4,h1,aS,h2,aS];exact h4
 obtain ⟨e,h1,h2⟩:=key n 0 (by omega) env h0;refine ⟨e,?_,h2⟩;unfold eT;rw [VC];exact h1
noncomputable def dZ:List (List Nat):=[[97,110,100],[111,114],[110,111,116],[115,111,109,101],[101,118,101,114,121],[108,101,97,115,116],[116,114,117,101],[102,97,108,115,101]]
noncomputable def eO:List Str:=["and","or","not","some","every","least","true","false"]
theorem uI:eO.map (λw=>w.cps.toList)=dZ:=by decide +kernel
theorem uJ:words=eO.map .str:=rfl
theorem B8 (x:Str):inD (.str x) words=eO.any λw=>w == x:=by rw [uJ];unfold inD;rw [Xm];congr 1
theorem Eu:∀k:Fin 26,JW (97 + k.val)=true:=by decide +kernel
theorem xo {x:Str}(h2:2<=x.cps.toList.length) (h8:x.cps.toList.length<=8) (hw:x.cps.toList∉dZ) (ha:∀k∈x.cps.toList,97<=k/\k < 123):Cy x=true:=by
 unfold Cy;rw [k_,decide_eq_true h2,decide_eq_true h8,WE,WE,Ra];refine ⟨?_,Th.mpr λk hk=>?_⟩
 ·rw [Bool.not_eq_true',YG];intro h;rw [B8,Uh] at h;obtain ⟨w,h1,h3⟩:=h;have e:w=x:=eq_of_beq h3;subst e;refine hw ?_;rw [<-uI];exact Rg.mpr ⟨w,h1,rfl⟩
 ·obtain ⟨h1,h3⟩:=ha k hk;have:=Eu ⟨k - 97,by omega⟩;rw [show 97 + (k - 97)=k by omega] at this;exact this
theorem Ed:∀b∈bases,∀w∈dZ,¬(w.filter (· != b)).length<=1:=by decide
theorem xy (hb:b∈bases){l:List Nat}(h:(l.filter (· != b)).length<=1):l∉dZ:=λz=>Ed b hb l z h
theorem Cr:∀w∈dZ,∀w'∈dZ,w'.dropLast≠w:=by decide
theorem pS:∀b∈bases,97<=b/\b < 123:=by decide
theorem strs_map:∀(ss:List Str),strsOf (ss.map .str)=some ss
 | []=>rfl
 | s::r=>by simp only [Ri,strsOf,strs_map r];rfl
theorem sorted_strs (m:Md) (ss:List Str) (h:ss.length < 64):jy [.l m (ss.map .str)]=.ok (.l .fresh ((fm ss).map .str)):=by unfold jy;simp only [fS,aS,strs_map,h,if_true]
theorem Dm {ss:List Str}(h:ss.Nodup):(fm ss).Pairwise λa b=>a.cps.toList < b.cps.toList:=by
 have h1:=nU ss;have h2:(fm ss).Nodup:=(gI ss).symm.nodup h;have:=h1.and h2;refine this.imp fun {a b} ⟨x,y⟩=>?_;unfold iQ at x;have x:=of_decide_eq_true x;rcases List.le_iff_lt_or_eq.mp x with z | z
 ·exact z
 ·exact absurd (Im z) y
theorem wA {gi:G (List D)}{ge:G R}(hm:m<=1000) (f:Nat->D) (hi:gi env=.ok (eT 0 m)) (hc:cE 1 cap env=none::tl) (h:∀k,k < m->ge (some (.d (.int (k:Nat)))::tl)=.ok (.d (f k))):
  cZ 1 cap gi (aF 0) fT ge env=.ok (.l .fresh ((QX m).map f)):=by
 have e:=BN (ge:=ge) (f:=λd=>match d with | .int i=>f i.toNat | _=>.non) tl (eT 0 m) none λd hd=>by unfold eT at hd;rw [Rg] at hd;obtain ⟨k,hk,rfl⟩:=hd;rw [Y4];exact h k (Rc.mp hk)
 have hl:(eT 0 m).length<=sizeLine:=by unfold eT;rw [QN,RO];exact iX hm
 unfold cZ;rw [hi,aS,if_pos hl,hc,e,aS];unfold eT;rw [R3];congr 3;funext k;show f ((0:Int) + (k:Int)).toNat=f k;rw [Y4,SG]
theorem De (b:Nat):∀(i j:Nat),i < j->Rw i b < Rw j b
 | 0,j + 1,_=>by rw [SA];exact List.nil_lt_cons _ _
 | i + 1,j + 1,h=>by rw [SA,SA,List.cons_lt_cons_iff];exact .inr ⟨rfl,De b i j (by omega)⟩
noncomputable def tE (b k:Nat):Str:=fO ⟨#[b]⟩ (2 + k)
noncomputable def lV (f s k:Nat):Str:=(eO++eO).getD (f + k) ""++⟨#[97 + s]⟩
noncomputable def kN (b a r:Nat) (q:Int) (k:Nat):Str:=fO ⟨#[b]⟩ a++⟨#[97 + ((q + 5 * (k:Int)) % 26).toNat]⟩++fO ⟨#[b]⟩ r
noncomputable def Good (m:Nat) (ss:List Str):Prop:=ss.length=m/\(∀s∈ss,Cy s=true)/\ss.Pairwise λa b=>a.cps.toList < b.cps.toList
theorem LG (hb:b∈bases) (hm:m<=6):Good m ((QX m).map (tE b)):=by
 refine ⟨by simp,λs hs=>?_,?_⟩
 ·obtain ⟨k,hk,rfl⟩:=Rg.mp hs;have hk:=Rc.mp hk;have e:(tE b k).cps.toList=Rw (2 + k) b:=iT b (2 + k);refine xo (by rw [e,RC];omega) (by rw [e,RC];omega) (xy hb ?_) λx hx=>?_
  ·rw [e];simp
  ·rw [e] at hx;rw [UX hx];exact pS b hb
 ·rw [T9];refine TH.imp fun {i j} h=>?_;show (fO _ _).cps.toList < (fO _ _).cps.toList;rw [iT,iT];exact De b _ _ (by omega)
theorem o_ {ss:List Str}(hl:ss.length=m) (hn:∀s∈ss,Cy s=true) (hd:ss.Nodup):Good m (fm ss):=
 ⟨by rw [(gI ss).length_eq,hl],λs hs=>hn s ((gI ss).mem_iff.mp hs),Dm hd⟩
theorem wV (f s k:Nat) (h:f + k < 16):(lV f s k).cps.toList=(dZ++dZ).getD (f + k) []++[97 + s]:=by show (_++_:Str).cps.toList=_;rw [om];congr 1;rw [<-uI,<-RS,Ry,Ry,Rh];have hl:f + k < (eO++eO).length:=h;rw [Q5 hl];rfl
theorem NW:∀j:Fin 16,(dZ++dZ).getD j.val []∈dZ:=by decide
theorem Iw:∀w∈dZ,2<=w.length/\w.length<=5/\∀k∈w,97<=k/\k < 123:=by decide
theorem Ly:∀(f:Fin 8) (j k:Fin 6),j.val≠k.val->(dZ++dZ).getD (f.val + j.val) []≠(dZ++dZ).getD (f.val + k.val) []:=by decide
theorem good2 (hf:f < 8) (hs:s < 26) (hm:m<=6):Good m (fm ((QX m).map (lV f s))):=by
 refine o_ (by simp) (λx hx=>?_) ?_
 ·obtain ⟨k,hk,rfl⟩:=Rg.mp hx;have hk:=Rc.mp hk;have e:=wV f s k (by omega);have hw:=NW ⟨f + k,by omega⟩;obtain ⟨h1,h2,h3⟩:=Iw _ hw;simp only at h1 h2 h3 hw;generalize (dZ++dZ).getD (f + k) []=w at e hw h1 h2 h3;refine xo (by rw [e,QU];simp;omega) (by rw [e,QU];simp;omega) (λz=>?_) λy hy=>?_
  ·rw [e] at z;exact Cr w hw _ z (by simp)
  ·rw [e,Rl] at hy;rcases hy with hy | hy
   ·exact h3 y hy
   ·rw [QK] at hy;omega
 ·rw [V7,T9];refine (TH (n:=m)).imp_of_mem fun {i j} hi hj h z=>?_;have hi:=Rc.mp hi;have hj:=Rc.mp hj;have z':(lV f s i).cps.toList=(lV f s j).cps.toList:=by rw [z]
  rw [wV f s i (by omega),wV f s j (by omega)] at z';exact Ly ⟨f,hf⟩ ⟨i,by omega⟩ ⟨j,by omega⟩ (show i≠j by omega) (Wt z')
theorem wW (b a r:Nat) (q:Int) (k:Nat):(kN b a r q k).cps.toList=Rw a b++[97 + ((q + 5 * (k:Int)) % 26).toNat]++Rw r b:=by show (_++_++_:Str).cps.toList=_;rw [om,om,iT,iT]
theorem good3 (hb:b∈bases) (h2:1<=a + r) (h8:a + r<=7) (hm:m<=6):Good m (fm ((QX m).map (kN b a r q))):=by
 refine o_ (by simp) (λx hx=>?_) ?_
 ·obtain ⟨k,hk,rfl⟩:=Rg.mp hx;have e:=wW b a r q k;refine xo (by rw [e];simp;omega) (by rw [e];simp;omega) (xy hb ?_) λy hy=>?_
  ·rw [e,Wa,Wa];have:∀n,(Rw n b).filter (· != b)=[]:=λn=>by simp
   rw [this,this,Xn,R6];exact Uv _ _
  ·rw [e,Rl,Rl,QK] at hy;rcases hy with (hy | hy) | hy
   ·rw [UX hy];exact pS b hb
   ·have:0<=(q + 5 * (k:Int)) % 26:=Sq _ (by decide);have:(q + 5 * (k:Int)) % 26 < 26:=SJ _ (by decide);omega
   ·rw [UX hy];exact pS b hb
 ·rw [V7,T9];refine (TH (n:=m)).imp_of_mem fun {i j} hi hj h z=>?_;have hi:=Rc.mp hi;have hj:=Rc.mp hj;have z':(kN b a r q i).cps.toList=(kN b a r q j).cps.toList:=by rw [z]
  rw [wW,wW] at z';have z2:=Wt z';have z3:=List.append_cancel_left z2;have z4:97 + ((q + 5 * (i:Int)) % 26).toNat=97 + ((q + 5 * (j:Int)) % 26).toNat:=by simpa using z3
  have g1:0<=(q + 5 * (i:Int)) % 26:=Sq _ (by decide);have g2:0<=(q + 5 * (j:Int)) % 26:=Sq _ (by decide);have z5:(q + 5 * (i:Int)) % 26=(q + 5 * (j:Int)) % 26:=by omega
  omega
theorem FW (m:Md) (xs:List D):eS [.l m xs]=.ok (.d (.int xs.length)):=rfl
noncomputable def cW (ns:List Int) (k:Nat):Int:=(ns.map λx=>x % 18446744073709551616).getD k 0
theorem qm (ns:List Int) (k:Nat):b8 [.bor (ns.map D.int),.d (.int k)]=.ok (.d (.int (cW ns k))):=by
 unfold b8 lM;by_cases h:k < ns.length
 ·have h':(k:Int) < ns.length:=by omega
  have e:(ns.map D.int)[k]?=some (.int ns[k]):=by rw [Rh,Q5 h];rfl
  have e2:cW ns k=ns[k] % 18446744073709551616:=by unfold cW;rw [Ry,Rh,Q5 h];rfl
  simp [au,aG,bW,bQ,bH,aJ,cL,af,aD,S.rd,R.dat,cj,bX,g2,gN,ah,ay,gC,bf,aL,bB,bG,aB,bO,cg,rF,fin,bV,bq,eq_int,ao,aK,toD,toS,aO,dc,dh,di,jt,FW,h',kg e,tR,bC,e2]
 ·have h':¬(k:Int) < ns.length:=by omega
  have e2:cW ns k=0:=by unfold cW;rw [Ry,Rh,List.getElem?_eq_none (by omega)];rfl
  simp [au,aG,bW,bQ,bH,aJ,cL,af,aD,S.rd,R.dat,cj,bX,g2,gN,ah,ay,gC,bf,aL,bB,bG,aB,bO,cg,rF,fin,bV,bq,eq_int,ao,aK,toD,toS,aO,dc,dh,di,jt,FW,h',e2]
noncomputable abbrev eN (c m x2:Int) (x3:S) (x4:Int) (x5 x6 x7 x8 x9 x10 x11:Option S):Ev:=[some (.d (.int c)),some (.d (.int m)),some (.d (.int x2)),some x3,some (.d (.int x4)),x5,x6,x7,x8,x9,x10,x11]
theorem nQ {m:Nat}{env:Ev}{gs:G (List R)}(h:m<=1000) (hg:gs env=.ok [.d (.int (m:Int))]):dz gs env=.ok (eT 0 m):=xQ hg h
theorem IB:dJ (ao (gC (.str "and")) (ao (gC (.str "or")) (ao (gC (.str "not")) (ao (gC (.str "some")) (ao (gC (.str "every")) (ao (gC (.str "least")) (ao (gC (.str "true")) (ao (gC (.str "false")) aK))))))))=λ_=>.ok (.l .fresh words):=by funext env;rfl
theorem GC (xs ys:List D) (h:xs.length + ys.length<=1000):bA (.l .own xs) (.l .own ys)=.ok (.l .fresh (xs++ys)):=by show (if xs.length + ys.length<=sizeLine then M.ok (R.l Md.fresh (xs++ys)) else M.bad)=_;rw [if_pos (iX h)]
theorem Mx (j:Nat) (h:j < 16):(words++words)[j]?=some (.str ((eO++eO).getD j "")):=by rw [uJ,<-RS,Rh,Ry];have hl:j < (eO++eO).length:=h;rw [Q5 hl];rfl
theorem Lz:∀j:Fin 16,((eO++eO).getD j.val "").length<=5:=by decide +kernel
theorem iI {b:G Bool}{t u:G O}(h:b env=.ok false):aG b t u env=u env:=by unfold aG;rw [h];rfl
theorem jA {b:G Bool}{t u:G O}(h:b env=.ok true):aG b t u env=t env:=by unfold aG;rw [h];rfl
theorem AQ {g:G R}{f:List R->M R}(h:g env=.ok r) (hf:f [r]=.ok r'):gN f (ah g ay) env=.ok r':=by unfold gN ah;rw [h];exact hf
theorem rM {g:G R}(h:g env=.ok r) (h2:rF r=.ok r'):aL g env=.ok (.rt r'):=by unfold aL;rw [h,aS,h2];rfl
theorem Gm (c:Int) (m:Nat) (hm:m<=6):∃ss:List Str,fJ [.d (.int c),.d (.int m)]=.ok (.l .fresh (ss.map .str))/\Good m ss:=by
 unfold fJ kI;rw [IB];show ∃ss:List Str,fin (au _ _ [some (.d (.int c)),some (.d (.int m)),none,none,none,none,none,none,none,none,none,none])=_/\_;obtain ⟨n,hn⟩:∃n,c * 7129 % 1000033=n:=⟨_,rfl⟩;have n0:0<=n:=hn▸Sq _ (by decide);have n1:n < 1000033:=hn▸SJ _ (by decide);obtain ⟨b,hb,eb⟩:=GY (n % 5) (by omega) (by omega);rw [cK (e:=[some (.d (.int c)),some (.d (.int m)),some (.d (.int n)),none,none,none,none,none,none,none,none,none]) (by simp [au,aG,bW,bQ,bH,aJ,cL,af,aD,S.rd,R.dat,cj,bX,g2,gN,ah,ay,gC,bf,aL,bB,bG,aB,bO,cg,rF,fin,bV,bq,eq_int,ao,aK,toD,toS,aO,dc,dh,di,i6,bC,hn])];rw [cK (e:=[some (.d (.int c)),some (.d (.int m)),some (.d (.int n)),some (.d (.str ⟨#[b]⟩)),none,none,none,none,none,none,none,none]) (by simp [au,aG,bW,bQ,bH,aJ,cL,af,aD,S.rd,R.dat,cj,bX,g2,gN,ah,ay,gC,bf,aL,bB,bG,aB,bO,cg,rF,fin,bV,bq,eq_int,ao,aK,toD,toS,aO,dc,dh,di,bC,eb])];rw [cK (e:=eN c m n (.d (.str ⟨#[b]⟩)) (2 + n / 5 % 7) none none none none none none none) (by simp [au,aG,bW,bQ,bH,aJ,cL,af,aD,S.rd,R.dat,cj,bX,g2,gN,ah,ay,gC,bf,aL,bB,bG,aB,bO,cg,rF,fin,bV,bq,eq_int,ao,aK,toD,toS,aO,dc,dh,di,bC,cI,cU])];have lb:(⟨#[b]⟩:Str).length<=1000:=by show 1<=1000;decide
 by_cases c1:n / 35 % 4=1
 ·refine ⟨(QX m).map (tE b),?_,LG hb hm⟩;have cr:=wA (cap:=[3]) (gi:=dz (ah (af 1) ay)) (ge:=g2 cO (af 1) (g2 bA (gC (.int 2)) (af 0))) (env:=eN c m n (.d (.str ⟨#[b]⟩)) (2 + n / 5 % 7) none none none none none none none) (tl:=[some (.d (.str ⟨#[b]⟩))]) (m:=m) (by omega) (λk=>.str (tE b k)) (nQ (by omega) (by simp [au,aG,bW,bQ,bH,aJ,cL,af,aD,S.rd,R.dat,cj,bX,g2,gN,ah,ay,gC,bf,aL,bB,bG,aB,bO,cg,rF,fin,bV,bq,eq_int,ao,aK,toD,toS,aO,dc,dh,di])) rfl (λk hk=>by
   have:=Bc ⟨#[b]⟩ (2 + (k:Int)) (by omega) (by omega) lb;have e:(2 + (k:Int)).toNat=2 + k:=by omega
   rw [e] at this;simp [au,aG,bW,bQ,bH,aJ,cL,af,aD,S.rd,R.dat,cj,bX,g2,gN,ah,ay,gC,bf,aL,bB,bG,aB,bO,cg,rF,fin,bV,bq,eq_int,ao,aK,toD,toS,aO,dc,dh,di,cU,this,tE])
  rw [Dh (r:=.l .fresh (((QX m).map (tE b)).map .str)) (by
   unfold aG aL;rw [cr];simp [au,aG,bW,bQ,bH,aJ,cL,af,aD,S.rd,R.dat,cj,bX,g2,gN,ah,ay,gC,bf,aL,bB,bG,aB,bO,cg,rF,fin,bV,bq,eq_int,ao,aK,toD,toS,aO,dc,dh,di,cI,bC,c1])]
  rfl
 ·rw [cK (e:=eN c m n (.d (.str ⟨#[b]⟩)) (2 + n / 5 % 7) none none none none none none none) ((iI (by simp [au,aG,bW,bQ,bH,aJ,cL,af,aD,S.rd,R.dat,cj,bX,g2,gN,ah,ay,gC,bf,aL,bB,bG,aB,bO,cg,rF,fin,bV,bq,eq_int,ao,aK,toD,toS,aO,dc,dh,di,cI,bC,c1])).trans rfl)];by_cases c2:n / 35 % 4=2
  ·refine ⟨fm ((QX m).map (lV (n / 140 % 8).toNat (n / 1120 % 26).toNat)),?_,good2 (by omega) (by omega) hm⟩;have cr:=wA (cap:=[5,6,7,2]) (gi:=dz (ah (af 1) ay)) (ge:=(g2 bA (g2 aP (g2 bA (af 1) (af 1)) (g2 bA (af 2) (af 0))) (g2 aP (af 3) (g2 bz (g2 cH (af 4) (gC (.int 1120))) (gC (.int 26)))))) (env:=eN c m n (.d (.str ⟨#[b]⟩)) (2 + n / 5 % 7) (some (.own words)) (some (.d (.int (n / 140 % 8)))) (some (.d (.str "abcdefghijklmnopqrstuvwxyz"))) none none none none) (tl:=[some (.own words),some (.d (.int (n / 140 % 8))),some (.d (.str "abcdefghijklmnopqrstuvwxyz")),some (.d (.int n))]) (m:=m) (by omega) (λk=>.str (lV (n / 140 % 8).toNat (n / 1120 % 26).toNat k)) (nQ (by omega) (by simp [au,aG,bW,bQ,bH,aJ,cL,af,aD,S.rd,R.dat,cj,bX,g2,gN,ah,ay,gC,bf,aL,bB,bG,aB,bO,cg,rF,fin,bV,bq,eq_int,ao,aK,toD,toS,aO,dc,dh,di])) rfl (λk hk=>by
    have ea:=q_ (n / 1120 % 26) (by omega) (by omega);have ew:=kg (m:=.fresh) (Mx ((n / 140 % 8).toNat + k) (by omega));have ei:(((n / 140 % 8).toNat + k:Nat):Int)=n / 140 % 8 + k:=by omega
    rw [ei] at ew;have el:=Lz ⟨(n / 140 % 8).toNat + k,by omega⟩;simp only at el;have es:=Bd ((eO++eO).getD ((n / 140 % 8).toNat + k) "") ⟨#[97 + (n / 1120 % 26).toNat]⟩ (by show _ + 1<=_;omega);have ec:=GC words words (by decide);unfold lV;generalize (eO++eO).getD ((n / 140 % 8).toNat + k) ""=w at ew es ⊢;simp only [g2,af,gC,List.getElem?_cons_zero,List.getElem?_cons_succ,aS,S.rd,ec,cU];rw [ew,aS,cI _ _ (by decide) (by decide),aS,bC _ _ (by decide),aS,ea,aS,es])
   rw [Dh (r:=.l .fresh ((fm ((QX m).map (lV (n / 140 % 8).toNat (n / 1120 % 26).toNat))).map .str)) (by
    unfold aG;rw [show aJ (g2 (bu false) (g2 bz (g2 cH (af 2) (gC (.int 35))) (gC (.int 4))) (gC (.int 2))) (eN c m n (.d (.str ⟨#[b]⟩)) (2 + n / 5 % 7) none none none none none none none)=.ok true by simp [au,aG,bW,bQ,bH,aJ,cL,af,aD,S.rd,R.dat,cj,bX,g2,gN,ah,ay,gC,bf,aL,bB,bG,aB,bO,cg,rF,fin,bV,bq,eq_int,ao,aK,toD,toS,aO,dc,dh,di,cI,bC,c2],aS,if_pos rfl];rw [cK (e:=eN c m n (.d (.str ⟨#[b]⟩)) (2 + n / 5 % 7) (some (.own words)) none none none none none none) (by simp [au,aG,bW,bQ,bH,aJ,cL,af,aD,S.rd,R.dat,cj,bX,g2,gN,ah,ay,gC,bf,aL,bB,bG,aB,bO,cg,rF,fin,bV,bq,eq_int,ao,aK,toD,toS,aO,dc,dh,di])];rw [cK (e:=eN c m n (.d (.str ⟨#[b]⟩)) (2 + n / 5 % 7) (some (.own words)) (some (.d (.int (n / 140 % 8)))) none none none none none) (by simp [au,aG,bW,bQ,bH,aJ,cL,af,aD,S.rd,R.dat,cj,bX,g2,gN,ah,ay,gC,bf,aL,bB,bG,aB,bO,cg,rF,fin,bV,bq,eq_int,ao,aK,toD,toS,aO,dc,dh,di,cI,bC])];rw [cK (e:=eN c m n (.d (.str ⟨#[b]⟩)) (2 + n / 5 % 7) (some (.own words)) (some (.d (.int (n / 140 % 8)))) (some (.d (.str "abcdefghijklmnopqrstuvwxyz"))) none none none none) (by simp [au,aG,bW,bQ,bH,aJ,cL,af,aD,S.rd,R.dat,cj,bX,g2,gN,ah,ay,gC,bf,aL,bB,bG,aB,bO,cg,rF,fin,bV,bq,eq_int,ao,aK,toD,toS,aO,dc,dh,di])];have hs:=sorted_strs .fresh ((QX m).map (lV (n / 140 % 8).toNat (n / 1120 % 26).toNat)) (by simp;omega);rw [R3] at hs;exact rM (AQ cr hs) rfl)]
   rfl
  ·rw [cK (e:=eN c m n (.d (.str ⟨#[b]⟩)) (2 + n / 5 % 7) none none none none none none none) ((iI (by simp [au,aG,bW,bQ,bH,aJ,cL,af,aD,S.rd,R.dat,cj,bX,g2,gN,ah,ay,gC,bf,aL,bB,bG,aB,bO,cg,rF,fin,bV,bq,eq_int,ao,aK,toD,toS,aO,dc,dh,di,cI,bC,c2])).trans rfl)];have hz:0 < 2 + n / 5 % 7:=by omega
   rw [cK (e:=eN c m n (.d (.str ⟨#[b]⟩)) (2 + n / 5 % 7) none none none (some (.d (.int (n / 105 % (2 + n / 5 % 7))))) none none none) (by simp [au,aG,bW,bQ,bH,aJ,cL,af,aD,S.rd,R.dat,cj,bX,g2,gN,ah,ay,gC,bf,aL,bB,bG,aB,bO,cg,rF,fin,bV,bq,eq_int,ao,aK,toD,toS,aO,dc,dh,di,cI,bC,hz])];rw [cK (e:=eN c m n (.d (.str ⟨#[b]⟩)) (2 + n / 5 % 7) none none none (some (.d (.int (n / 105 % (2 + n / 5 % 7))))) (some (.own [])) none none) (by simp [au,aG,bW,bQ,bH,aJ,cL,af,aD,S.rd,R.dat,cj,bX,g2,gN,ah,ay,gC,bf,aL,bB,bG,aB,bO,cg,rF,fin,bV,bq,eq_int,ao,aK,toD,toS,aO,dc,dh,di,dJ])];obtain ⟨a,ha⟩:∃a,n / 105 % (2 + n / 5 % 7)=a:=⟨_,rfl⟩;have a0:0<=a:=ha▸Sq _ (by omega);have a1:a < 2 + n / 5 % 7:=ha▸SJ _ hz;obtain ⟨z,hz2⟩:∃z,2 + n / 5 % 7=z:=⟨_,rfl⟩;have z1:2<=z/\z<=8:=by omega
   rw [ha,hz2];rw [hz2] at a1;refine ⟨fm ((QX m).map (kN b a.toNat (z - 1 - a).toNat (n / 840))),?_,good3 hb (by omega) (by omega) hm⟩;have ra:=Bc ⟨#[b]⟩ a (by omega) (by omega) lb;have rr:=Bc ⟨#[b]⟩ (z - 1 - a) (by omega) (by omega) lb;have la:(fO ⟨#[b]⟩ a.toNat).length<=8:=by rw [k_,iT,RC];omega
   have lr:(fO ⟨#[b]⟩ (z - 1 - a).toNat).length<=8:=by rw [k_,iT,RC];omega
   obtain ⟨e,h1,x,y,rfl⟩:=iY (t:=aF 10) (u:=(au (aO 11 (g2 aP (gC (.str "abcdefghijklmnopqrstuvwxyz")) (g2 bz (g2 bA (g2 cH (af 2) (gC (.int 840))) (g2 cO (gC (.int 5)) (af 10))) (gC (.int 26)))))
 (dR 9 (g2 bA (g2 bA (g2 cO (af 3) (af 8)) (af 11)) (g2 cO (af 3) (g2 gP (g2 gP (af 4) (gC (.int 1))) (af 8))))))) (λk env=>∃x y,env=eN c m n (.d (.str ⟨#[b]⟩)) z none none none (some (.d (.int a))) (some (.own (((QX k).map (kN b a.toNat (z - 1 - a).toNat (n / 840))).map .str))) x y) m (λk hk env ⟨x,y,he⟩=>by
    subst he;refine ⟨_,_,rfl,?_,some (.d (.int k)),some (.d (.str ⟨#[97 + ((n / 840 + 5 * (k:Int)) % 26).toNat]⟩)),rfl⟩
    ·have ea:=q_ ((n / 840 + 5 * (k:Int)) % 26) (by omega) (by omega);rw [cK (e:=eN c m n (.d (.str ⟨#[b]⟩)) z none none none (some (.d (.int a))) (some (.own (((QX k).map (kN b a.toNat (z - 1 - a).toNat (n / 840))).map .str))) (some (.d (.int k))) (some (.d (.str ⟨#[97 + ((n / 840 + 5 * (k:Int)) % 26).toNat]⟩)))) (by simp [au,aG,bW,bQ,bH,aJ,cL,af,aD,S.rd,R.dat,cj,bX,g2,gN,ah,ay,gC,bf,aL,bB,bG,aB,bO,cg,rF,fin,bV,bq,eq_int,ao,aK,toD,toS,aO,dc,dh,di,aF,cU,mw,cI,bC,ea])];have e1:=Bd (fO ⟨#[b]⟩ a.toNat) ⟨#[97 + ((n / 840 + 5 * (k:Int)) % 26).toNat]⟩ (by show _ + 1<=_;omega);have e2:=Bd (fO ⟨#[b]⟩ a.toNat++⟨#[97 + ((n / 840 + 5 * (k:Int)) % 26).toNat]⟩) (fO ⟨#[b]⟩ (z - 1 - a).toNat) (by
      rw [k_,om,QU,<-k_];simp;omega)
     have hk':k < sizeLine:=Q9 (by omega:k < 1000) (by decide);simp [au,aG,bW,bQ,bH,aJ,cL,af,aD,S.rd,R.dat,cj,bX,g2,gN,ah,ay,gC,bf,aL,bB,bG,aB,bO,cg,rF,fin,bV,bq,eq_int,ao,aK,toD,toS,aO,dc,dh,di,dR,ra,rr,e1,e2,Mv,hk',Xo,kN]) (eN c m n (.d (.str ⟨#[b]⟩)) z none none none (some (.d (.int a))) (some (.own [])) none none) ⟨none,none,rfl⟩
   rw [cK ((jQ (nQ (m:=m) (by omega) (by simp [au,aG,bW,bQ,bH,aJ,cL,af,aD,S.rd,R.dat,cj,bX,g2,gN,ah,ay,gC,bf,aL,bB,bG,aB,bO,cg,rF,fin,bV,bq,eq_int,ao,aK,toD,toS,aO,dc,dh,di]))).trans h1)];have hs:=sorted_strs .own ((QX m).map (kN b a.toNat (z - 1 - a).toNat (n / 840))) (by simp;omega);rw [rM (AQ (r:=.l .own (((QX m).map (kN b a.toNat (z - 1 - a).toNat (n / 840))).map .str)) rfl hs) rfl];rfl
noncomputable abbrev dN (k:Nat):D:=.int k
noncomputable abbrev dP (p:Nat×Nat):D:=.tup [.int p.1,.int p.2]
noncomputable def Ks (p q:Nat×Nat):Prop:=p.1 < q.1\/(p.1=q.1/\p.2 < q.2)
noncomputable def u7 (m:Nat) (xs:List Nat):Prop:=xs.length<=8/\xs.Pairwise (· < ·)/\∀x∈xs,x < m
noncomputable def u6 (m:Nat) (ps:List (Nat×Nat)):Prop:=ps.length<=64/\ps.Pairwise Ks/\∀p∈ps,p.1 < m/\p.2 < m
noncomputable def Bw (ss:List Str):Prop:=ss.length<=3/\(∀s∈ss,Cy s=true)/\ss.Pairwise λa b=>a.cps.toList < b.cps.toList
structure Wd where
 m:Nat
 ms:List (Str×List Nat)
 ar:List (Str×List (Nat×Nat))
noncomputable abbrev jW (r:Str×List Nat):D:=.tup [.str r.1,.tup (r.2.map dN)]
noncomputable abbrev nR (r:Str×List (Nat×Nat)):D:=.tup [.str r.1,.tup (r.2.map dP)]
noncomputable def Wd.d (w:Wd):D:=.tup [.int w.m,.tup (w.ms.map jW),.tup (w.ar.map nR)]
theorem IL (b:Int) (m:Nat) (hm:m<=8):∃xs:List Nat,gA [.d (.int b),.d (.int m)]=.ok (.d (.tup (xs.map dN)))/\u7 m xs:=by
 unfold gA lO;show ∃xs:List Nat,fin (au _ _ [some (.d (.int b)),some (.d (.int m)),none,none])=_/\_;rw [cK (e:=[some (.d (.int b)),some (.d (.int m)),some (.own []),none]) (by simp [au,aG,bW,bQ,bH,aJ,cL,af,aD,S.rd,R.dat,cj,bX,g2,gN,ah,ay,gC,bf,aL,bB,bG,aB,bO,cg,rF,fin,bV,bq,eq_int,ao,aK,toD,toS,aO,dc,dh,di,dJ])];obtain ⟨e,h1,b',xs,y,rfl,hl,hp,hx⟩:=iY (t:=aF 3) (u:=(au (aG (aJ (g2 (bu false) (g2 bz (af 0) (gC (.int 2))) (gC (.int 1)))) (dR 2 (af 3)) bf)
 (aO 0 (g2 cH (af 0) (gC (.int 2)))))) (λk env=>∃(b':Int) (xs:List Nat) (y:Option S),env=[some (.d (.int b')),some (.d (.int m)),some (.own (xs.map dN)),y]/\xs.length<=k/\xs.Pairwise (· < ·)/\∀x∈xs,x < k) m (λk hk env ⟨b',xs,y,he,hl,hp,hx⟩=>by
  subst he;have hz:xs.length < sizeLine:=Q9 (by omega:xs.length < 1000) (by decide);by_cases hb:b' % 2=1
  ·refine ⟨_,_,rfl,?_,b' / 2,xs++[k],some (.d (.int k)),rfl,by simp;omega,?_,λx hx'=>?_⟩
   ·rw [cK (e:=[some (.d (.int b')),some (.d (.int m)),some (.own ((xs++[k]).map dN)),some (.d (.int k))]) ((jA (by simp [au,aG,bW,bQ,bH,aJ,cL,af,aD,S.rd,R.dat,cj,bX,g2,gN,ah,ay,gC,bf,aL,bB,bG,aB,bO,cg,rF,fin,bV,bq,eq_int,ao,aK,toD,toS,aO,dc,dh,di,bC,hb])).trans (by simp [au,aG,bW,bQ,bH,aJ,cL,af,aD,S.rd,R.dat,cj,bX,g2,gN,ah,ay,gC,bf,aL,bB,bG,aB,bO,cg,rF,fin,bV,bq,eq_int,ao,aK,toD,toS,aO,dc,dh,di,dR,hz]))];simp [au,aG,bW,bQ,bH,aJ,cL,af,aD,S.rd,R.dat,cj,bX,g2,gN,ah,ay,gC,bf,aL,bB,bG,aB,bO,cg,rF,fin,bV,bq,eq_int,ao,aK,toD,toS,aO,dc,dh,di,cI]
   ·rw [VD];exact ⟨hp,WG _ _,λa ha c hc=>by rw [QK] at hc;rw [hc];exact hx a ha⟩
   ·rw [Rl,QK] at hx';rcases hx' with h | h
    ·exact SW (hx x h)
    ·omega
  ·refine ⟨_,_,rfl,?_,b' / 2,xs,some (.d (.int k)),rfl,by omega,hp,λx h=>SW (hx x h)⟩;rw [cK (e:=[some (.d (.int b')),some (.d (.int m)),some (.own (xs.map dN)),some (.d (.int k))]) ((iI (by simp [au,aG,bW,bQ,bH,aJ,cL,af,aD,S.rd,R.dat,cj,bX,g2,gN,ah,ay,gC,bf,aL,bB,bG,aB,bO,cg,rF,fin,bV,bq,eq_int,ao,aK,toD,toS,aO,dc,dh,di,bC,hb])).trans rfl)];simp [au,aG,bW,bQ,bH,aJ,cL,af,aD,S.rd,R.dat,cj,bX,g2,gN,ah,ay,gC,bf,aL,bB,bG,aB,bO,cg,rF,fin,bV,bq,eq_int,ao,aK,toD,toS,aO,dc,dh,di,cI]) [some (.d (.int b)),some (.d (.int m)),some (.own []),none] ⟨b,[],none,rfl,Rj _,.nil,λx h=>by cases h⟩
 rw [cK ((jQ (nQ (m:=m) (by omega) (by simp [au,aG,bW,bQ,bH,aJ,cL,af,aD,S.rd,R.dat,cj,bX,g2,gN,ah,ay,gC,bf,aL,bB,bG,aB,bO,cg,rF,fin,bV,bq,eq_int,ao,aK,toD,toS,aO,dc,dh,di]))).trans h1)];exact ⟨xs,rfl,by omega,hp,hx⟩
noncomputable def FP (k j:Nat) (p:Nat×Nat):Prop:=p.1 < k\/(p.1=k/\p.2 < j)
theorem DJ (b:Int) (m:Nat) (hm:m<=8):∃ps:List (Nat×Nat),gc [.d (.int b),.d (.int m)]=.ok (.d (.tup (ps.map dP)))/\u6 m ps:=by
 unfold gc kJ;show ∃ps:List (Nat×Nat),fin (au _ _ [some (.d (.int b)),some (.d (.int m)),none,none,none])=_/\_;rw [cK (e:=[some (.d (.int b)),some (.d (.int m)),some (.own []),none,none]) (by simp [au,aG,bW,bQ,bH,aJ,cL,af,aD,S.rd,R.dat,cj,bX,g2,gN,ah,ay,gC,bf,aL,bB,bG,aB,bO,cg,rF,fin,bV,bq,eq_int,ao,aK,toD,toS,aO,dc,dh,di,dJ])];obtain ⟨e,h1,b',ps,y,z,rfl,hl,hp,hx⟩:=iY (t:=aF 3) (u:=(dW (dz (ah (af 1) ay)) (aF 4) (au (aG (aJ (g2 (bu false) (g2 bz (af 0) (gC (.int 2))) (gC (.int 1)))) (dR 2 (b7 (ao (af 3) (ao (af 4) aK)))) bf)
 (aO 0 (g2 cH (af 0) (gC (.int 2))))))) (λk env=>∃(b':Int) (ps:List (Nat×Nat)) (y z:Option S),env=[some (.d (.int b')),some (.d (.int m)),some (.own (ps.map dP)),y,z]/\ps.length<=8 * k/\ps.Pairwise Ks/\∀p∈ps,p.1 < k/\p.2 < m) m (λk hk env ⟨b',ps,y,z,he,hl,hp,hx⟩=>by
  subst he;obtain ⟨e,h1,b2,qs,z,rfl,hl2,hp2,OO⟩:=iY (t:=aF 4) (u:=(au (aG (aJ (g2 (bu false) (g2 bz (af 0) (gC (.int 2))) (gC (.int 1)))) (dR 2 (b7 (ao (af 3) (ao (af 4) aK)))) bf)
 (aO 0 (g2 cH (af 0) (gC (.int 2)))))) (λj env=>∃(b2:Int) (qs:List (Nat×Nat)) (z:Option S),env=[some (.d (.int b2)),some (.d (.int m)),some (.own (qs.map dP)),some (.d (.int k)),z]/\qs.length<=8 * k + j/\qs.Pairwise Ks/\∀p∈qs,FP k j p/\p.2 < m) m (λj hj env ⟨b2,qs,z,he,hl2,hp2,OO⟩=>by
   subst he;have hz:qs.length < sizeLine:=Q9 (by omega:qs.length < 1000) (by decide);have OM:2<=sizeLine:=by decide
   by_cases hb:b2 % 2=1
   ·refine ⟨_,_,rfl,?_,b2 / 2,qs++[(k,j)],some (.d (.int j)),rfl,by simp;omega,?_,λp hp'=>?_⟩
    ·rw [cK (e:=[some (.d (.int b2)),some (.d (.int m)),some (.own ((qs++[(k,j)]).map dP)),some (.d (.int k)),some (.d (.int j))]) ((jA (by simp [au,aG,bW,bQ,bH,aJ,cL,af,aD,S.rd,R.dat,cj,bX,g2,gN,ah,ay,gC,bf,aL,bB,bG,aB,bO,cg,rF,fin,bV,bq,eq_int,ao,aK,toD,toS,aO,dc,dh,di,bC,hb])).trans (by simp [au,aG,bW,bQ,bH,aJ,cL,af,aD,S.rd,R.dat,cj,bX,g2,gN,ah,ay,gC,bf,aL,bB,bG,aB,bO,cg,rF,fin,bV,bq,eq_int,ao,aK,toD,toS,aO,dc,dh,di,dR,b7,hz,OM]))];simp [au,aG,bW,bQ,bH,aJ,cL,af,aD,S.rd,R.dat,cj,bX,g2,gN,ah,ay,gC,bf,aL,bB,bG,aB,bO,cg,rF,fin,bV,bq,eq_int,ao,aK,toD,toS,aO,dc,dh,di,cI]
    ·rw [VD];refine ⟨hp2,WG _ _,λa ha c hc=>?_⟩;rw [QK] at hc;rw [hc];exact (OO a ha).1
    ·rw [Rl,QK] at hp';rcases hp' with h | h
     ·refine ⟨?_,(OO p h).2⟩;rcases (OO p h).1 with q | ⟨q,q'⟩
      ·exact .inl q
      ·exact .inr ⟨q,by omega⟩
     ·rw [h];exact ⟨.inr ⟨rfl,RN _⟩,hj⟩
   ·refine ⟨_,_,rfl,?_,b2 / 2,qs,some (.d (.int j)),rfl,by omega,hp2,λp h=>⟨?_,(OO p h).2⟩⟩
    ·rw [cK (e:=[some (.d (.int b2)),some (.d (.int m)),some (.own (qs.map dP)),some (.d (.int k)),some (.d (.int j))]) ((iI (by simp [au,aG,bW,bQ,bH,aJ,cL,af,aD,S.rd,R.dat,cj,bX,g2,gN,ah,ay,gC,bf,aL,bB,bG,aB,bO,cg,rF,fin,bV,bq,eq_int,ao,aK,toD,toS,aO,dc,dh,di,bC,hb])).trans rfl)];simp [au,aG,bW,bQ,bH,aJ,cL,af,aD,S.rd,R.dat,cj,bX,g2,gN,ah,ay,gC,bf,aL,bB,bG,aB,bO,cg,rF,fin,bV,bq,eq_int,ao,aK,toD,toS,aO,dc,dh,di,cI]
    ·rcases (OO p h).1 with q | ⟨q,q'⟩
     ·exact .inl q
     ·exact .inr ⟨q,by omega⟩) [some (.d (.int b')),some (.d (.int m)),some (.own (ps.map dP)),some (.d (.int k)),z] ⟨b',ps,z,rfl,hl,hp,λp h=>⟨.inl (hx p h).1,(hx p h).2⟩⟩
  refine ⟨_,_,rfl,(jQ (nQ (m:=m) (by omega) (by simp [au,aG,bW,bQ,bH,aJ,cL,af,aD,S.rd,R.dat,cj,bX,g2,gN,ah,ay,gC,bf,aL,bB,bG,aB,bO,cg,rF,fin,bV,bq,eq_int,ao,aK,toD,toS,aO,dc,dh,di]))).trans h1,b2,qs,some (.d (.int k)),z,rfl,by omega,hp2,λp h=>⟨?_,(OO p h).2⟩⟩;rcases (OO p h).1 with q | ⟨q,q'⟩
  ·omega
  ·omega) [some (.d (.int b)),some (.d (.int m)),some (.own []),none,none] ⟨b,[],none,none,rfl,Rj _,.nil,λx h=>by cases h⟩
 rw [cK ((jQ (nQ (m:=m) (by omega) (by simp [au,aG,bW,bQ,bH,aJ,cL,af,aD,S.rd,R.dat,cj,bX,g2,gN,ah,ay,gC,bf,aL,bB,bG,aB,bO,cg,rF,fin,bV,bq,eq_int,ao,aK,toD,toS,aO,dc,dh,di]))).trans h1)];exact ⟨ps,rfl,by omega,hp,hx⟩
theorem sO {α:Type}(f:α->D) (xs:List α) (l u:Option Int):∃ys:List α,cutD (xs.map f) l u=ys.map f/\ys=(xs.drop (HT.bP xs.length 0 l)).take (HT.bP xs.length xs.length u - HT.bP xs.length 0 l):=by refine ⟨_,?_,rfl⟩;unfold cutD;rw [QN,VI,VJ]
theorem yW {α:Type}(xs:List α) (i j:Nat):((xs.drop i).take j).Sublist xs:=(Wq _ _).trans (YK _ _)
theorem Good.sub {ss ys:List Str}(h:Good m ss) (s:ys.Sublist ss) (hl:ys.length<=3):Bw ys:=⟨hl,λx hx=>h.2.1 x (s.subset hx),h.2.2.sublist s⟩
theorem Lf (xs:List D) (l u:Option Int):iW (.l .own xs) l u=.ok (.l .fresh (cutD xs l u)):=rfl
theorem zL (m:Md) (xs:List D):fG [.l m xs]=.ok (.d (.tup xs)):=rfl
theorem pO (c:Int):∃A B:List Str,gm [.d (.int c)]=.ok (.d (.tup [.tup (A.map .str),.tup (B.map .str)]))/\Bw A/\Bw B:=by
 obtain ⟨ss,hs,hg⟩:=Gm c 6 (QV _);have hs:fJ [.d (.int c),.d (.int 6)]=.ok (.l .fresh (ss.map .str)):=hs;unfold gm jS;generalize fJ=F_names at hs ⊢;show ∃A B:List Str,fin (au _ _ [some (.d (.int c)),none,none,none])=_/\_;obtain ⟨n,hn⟩:∃n,c * 523 % 10007=n:=⟨_,rfl⟩;have n0:0<=n:=hn▸Sq _ (by decide);rw [cK (e:=[some (.d (.int c)),some (.own (ss.map .str)),none,none]) (by simp [au,aG,bW,bQ,bH,aJ,cL,af,aD,S.rd,R.dat,cj,bX,g2,gN,ah,ay,gC,bf,aL,bB,bG,aB,bO,cg,rF,fin,bV,bq,eq_int,ao,aK,toD,toS,aO,dc,dh,di,hs])];rw [cK (e:=[some (.d (.int c)),some (.own (ss.map .str)),some (.d (.int n)),none]) (by simp [au,aG,bW,bQ,bH,aJ,cL,af,aD,S.rd,R.dat,cj,bX,g2,gN,ah,ay,gC,bf,aL,bB,bG,aB,bO,cg,rF,fin,bV,bq,eq_int,ao,aK,toD,toS,aO,dc,dh,di,i6,bC,hn])];rw [cK (e:=[some (.d (.int c)),some (.own (ss.map .str)),some (.d (.int n)),some (.d (.int (n / 16 % 3)))]) (by simp [au,aG,bW,bQ,bH,aJ,cL,af,aD,S.rd,R.dat,cj,bX,g2,gN,ah,ay,gC,bf,aL,bB,bG,aB,bO,cg,rF,fin,bV,bq,eq_int,ao,aK,toD,toS,aO,dc,dh,di,cI,bC])];obtain ⟨A,ha,ha'⟩:=sO D.str ss none (some (n % 4));obtain ⟨B,hb,hb'⟩:=sO D.str ss (some (n / 16 % 3)) (some (n / 16 % 3 + n / 4 % 4));refine ⟨A,B,?_,hg.sub (ha'▸yW _ _ _) ?_,hg.sub (hb'▸yW _ _ _) ?_⟩
 ·have OM:2<=sizeLine:=by decide
  simp [au,aG,bW,bQ,bH,aJ,cL,af,aD,S.rd,R.dat,cj,bX,g2,gN,ah,ay,gC,bf,aL,bB,bG,aB,bO,cg,rF,fin,bV,bq,eq_int,ao,aK,toD,toS,aO,dc,dh,di,b7,k7,uf,jq,bC,cI,cU,Lf,zL,ha,hb,OM]
 ·rw [ha',Sv,HT.qb];have e:n % 4=((n % 4).toNat:Int):=by omega
  rw [e,HT.lD];omega
 ·rw [hb',Sv];have e:n / 16 % 3=((n / 16 % 3).toNat:Int):=by omega
  have e2:n / 16 % 3 + n / 4 % 4=((n / 16 % 3 + n / 4 % 4).toNat:Int):=by omega
  rw [e2,HT.lD,e,HT.lD,hg.1];omega
theorem A_ (Fs Fc:List S->M R) (ns:List Int) (a k m:Nat) (v:Int) (xs:List Nat) (T T2:D) (s:Str) (ms:List (Str×List Nat)) (hi:aP (.d T) (.d (.int k))=.ok (.d (.str s))) (hc:Fc [.bor (ns.map D.int),.d (.int ((a:Int) + k))]=.ok (.d (.int v))) (hx:Fs [.d (.int (v * 167 % 256)),.d (.int m)]=.ok (.d (.tup (xs.map dN))))
  (OM:2<=sizeLine) (hz:ms.length < sizeLine):(dR 4 (b7 (ao (g2 aP (g2 aP (af 3) (gC (.int 0))) (af 5)) (ao (gN (aB 2 Fs) (ah (g2 bz (g2 cO (gN (aB 2 Fc) (ah (af 0) (ah (g2 bA (af 1) (af 5)) ay))) (gC (.int 167))) (g2 jP (gC (.int 2)) (gC (.int 8)))) (ah (af 2) ay))) aK)))) [some (.bor (ns.map D.int)),some (.d (.int a)),some (.d (.int m)),some (.d (.tup [T,T2])),some (.own (ms.map jW)),some (.d (.int k)),none,none]=.ok (.nx [some (.bor (ns.map D.int)),some (.d (.int a)),some (.d (.int m)),some (.d (.tup [T,T2])),some (.own ((ms++[(s,xs)]).map jW)),some (.d (.int k)),none,none]):=by simp [au,aG,bW,bQ,bH,aJ,cL,af,aD,S.rd,R.dat,cj,bX,g2,gN,ah,ay,gC,bf,aL,bB,bG,aB,bO,cg,rF,fin,bV,bq,eq_int,ao,aK,toD,toS,aO,dc,dh,di,dR,b7,hi,cU,hc,i6,Lp,bC,hx,hz,OM]
theorem yC (Fs Fc:List S->M R) (ns:List Int) (a k m:Nat) (v:Int) (xs:List (Nat×Nat)) (T T2:D) (s:Str) (ms:List D) (z:Option S) (rs:List (Str×List (Nat×Nat))) (hi:aP (.d T2) (.d (.int k))=.ok (.d (.str s))) (hc:Fc [.bor (ns.map D.int),.d (.int ((a:Int) + 3 + k))]=.ok (.d (.int v))) (hx:Fs [.d (.int (v * 11400714819323198485 % 18446744073709551616)),.d (.int m)]=.ok (.d (.tup (xs.map dP))))
  (OM:2<=sizeLine) (hz:rs.length < sizeLine):(au (aO 7 (g2 bz (g2 cO (gN (aB 2 Fc) (ah (af 0) (ah (g2 bA (g2 bA (af 1) (gC (.int 3))) (af 5)) ay))) (gC (.int 11400714819323198485))) (g2 jP (gC (.int 2)) (gC (.int 64)))))
 (dR 6 (b7 (ao (g2 aP (g2 aP (af 3) (gC (.int 1))) (af 5)) (ao (gN (aB 2 Fs) (ah (af 7) (ah (af 2) ay))) aK))))) [some (.bor (ns.map D.int)),some (.d (.int a)),some (.d (.int m)),some (.d (.tup [T,T2])),some (.own ms),some (.d (.int k)),some (.own (rs.map nR)),z]=.ok (.nx [some (.bor (ns.map D.int)),some (.d (.int a)),some (.d (.int m)),some (.d (.tup [T,T2])),some (.own ms),some (.d (.int k)),some (.own ((rs++[(s,xs)]).map nR)),some (.d (.int (v * 11400714819323198485 % 18446744073709551616)))]):=by simp [au,aG,bW,bQ,bH,aJ,cL,af,aD,S.rd,R.dat,cj,bX,g2,gN,ah,ay,gC,bf,aL,bB,bG,aB,bO,cg,rF,fin,bV,bq,eq_int,ao,aK,toD,toS,aO,dc,dh,di,dR,b7,hi,cU,hc,i6,tR,bC,hx,hz,OM]
theorem Gn (ns:List Int) (a m:Nat) (hm:m<=8) (A B:List Str) (hA:A.length<=3) (hB:B.length<=3):∃ms rs,fK [.bor (ns.map D.int),.d (.int a),.d (.int m),.d (.tup [.tup (A.map .str),.tup (B.map .str)])]=.ok (.d (Wd.d ⟨m,ms,rs⟩))/\
  ms.map RD=A/\rs.map RD=B/\(∀r∈ms,u7 m r.2)/\∀r∈rs,u6 m r.2:=by
 unfold fK kK;have HS:=λb=>IL b m hm;have HP:=λb=>DJ b m hm;have HC:=qm ns;generalize gA=F_some at HS ⊢;generalize gc=F_pairs at HP ⊢;generalize b8=F_cell at HC ⊢;show ∃ms rs,fin (au _ _ [some (.bor (ns.map D.int)),some (.d (.int a)),some (.d (.int m)),some (.d (.tup [.tup (A.map .str),.tup (B.map .str)])),none,none,none,none])=_/\_;have zA:∀k,k < 3->k < sizeLine:=λk hk=>Q9 (by omega:k < 1000) (by decide);have OM:2<=sizeLine:=by decide
 have PY:3<=sizeLine:=by decide
 rw [cK (e:=[some (.bor (ns.map D.int)),some (.d (.int a)),some (.d (.int m)),some (.d (.tup [.tup (A.map .str),.tup (B.map .str)])),some (.own []),none,none,none]) (by simp [au,aG,bW,bQ,bH,aJ,cL,af,aD,S.rd,R.dat,cj,bX,g2,gN,ah,ay,gC,bf,aL,bB,bG,aB,bO,cg,rF,fin,bV,bq,eq_int,ao,aK,toD,toS,aO,dc,dh,di,dJ])];obtain ⟨e,h1,ms,y,rfl,hf,hp⟩:=iY (t:=aF 5) (u:=(dR 4 (b7 (ao (g2 aP (g2 aP (af 3) (gC (.int 0))) (af 5)) (ao (gN (aB 2 F_some) (ah (g2 bz (g2 cO (gN (aB 2 F_cell) (ah (af 0) (ah (g2 bA (af 1) (af 5)) ay))) (gC (.int 167))) (g2 jP (gC (.int 2)) (gC (.int 8)))) (ah (af 2) ay))) aK)))))
  (λk env=>∃(ms:List (Str×List Nat)) (y:Option S),env=[some (.bor (ns.map D.int)),some (.d (.int a)),some (.d (.int m)),some (.d (.tup [.tup (A.map .str),.tup (B.map .str)])),some (.own (ms.map jW)),y,none,none]/\ms.map RD=A.take k/\∀r∈ms,u7 m r.2) A.length (λk hk env ⟨ms,y,he,hf,hp⟩=>by
   subst he;obtain ⟨xs,hx,px⟩:=HS (cW ns (a + k) * 167 % 256);have hc:=HC (a + k);rw [Xp] at hc;have hi:aP (.d (.tup (A.map D.str))) (.d (.int k))=.ok (.d (.str A[k])):=jx (by rw [Rh,Q5 hk];rfl);have hl:ms.length=k:=by have:=congrArg VO hf;rw [QN,Sv] at this;omega
   have hz:=zA ms.length (by have:=hA;omega);refine ⟨_,_,rfl,?_,ms++[(A[k],xs)],some (.d (.int k)),rfl,?_,λr hr=>?_⟩
   ·exact A_ F_some F_cell ns a k m _ xs _ _ _ ms hi hc hx OM hz
   ·rw [RS,hf,ZS,Q5 hk];rfl
   ·rw [Rl,QK] at hr;rcases hr with h | h
    ·exact hp r h
    ·rw [h];exact px) [some (.bor (ns.map D.int)),some (.d (.int a)),some (.d (.int m)),some (.d (.tup [.tup (A.map .str),.tup (B.map .str)])),some (.own []),none,none,none] ⟨[],none,rfl,rfl,λr h=>by cases h⟩
 rw [cK ((jQ (nQ (m:=A.length) (by have:=hA;omega) (by simp [au,aG,bW,bQ,bH,aJ,cL,af,aD,S.rd,R.dat,cj,bX,g2,gN,ah,ay,gC,bf,aL,bB,bG,aB,bO,cg,rF,fin,bV,bq,eq_int,ao,aK,toD,toS,aO,dc,dh,di]))).trans h1)];rw [cK (e:=[some (.bor (ns.map D.int)),some (.d (.int a)),some (.d (.int m)),some (.d (.tup [.tup (A.map .str),.tup (B.map .str)])),some (.own (ms.map jW)),y,some (.own []),none]) (by simp [au,aG,bW,bQ,bH,aJ,cL,af,aD,S.rd,R.dat,cj,bX,g2,gN,ah,ay,gC,bf,aL,bB,bG,aB,bO,cg,rF,fin,bV,bq,eq_int,ao,aK,toD,toS,aO,dc,dh,di,dJ])];obtain ⟨e,h2,rs,y2,z2,rfl,hf2,hp2⟩:=iY (t:=aF 5) (u:=(au (aO 7 (g2 bz (g2 cO (gN (aB 2 F_cell) (ah (af 0) (ah (g2 bA (g2 bA (af 1) (gC (.int 3))) (af 5)) ay))) (gC (.int 11400714819323198485))) (g2 jP (gC (.int 2)) (gC (.int 64)))))
 (dR 6 (b7 (ao (g2 aP (g2 aP (af 3) (gC (.int 1))) (af 5)) (ao (gN (aB 2 F_pairs) (ah (af 7) (ah (af 2) ay))) aK))))))
  (λk env=>∃(rs:List (Str×List (Nat×Nat))) (y z:Option S),env=[some (.bor (ns.map D.int)),some (.d (.int a)),some (.d (.int m)),some (.d (.tup [.tup (A.map .str),.tup (B.map .str)])),some (.own (ms.map jW)),y,some (.own (rs.map nR)),z]/\rs.map RD=B.take k/\∀r∈rs,u6 m r.2) B.length (λk hk env ⟨rs,y,z,he,hf,hp⟩=>by
   subst he;obtain ⟨xs,hx,px⟩:=HP (cW ns (a + 3 + k) * 11400714819323198485 % 18446744073709551616);have hc:=HC (a + 3 + k);rw [Xp,Xp] at hc;have hc:F_cell [.bor (ns.map D.int),.d (.int ((a:Int) + 3 + (k:Int)))]=.ok (.d (.int (cW ns (a + 3 + k)))):=hc;have hi:aP (.d (.tup (B.map D.str))) (.d (.int k))=.ok (.d (.str B[k])):=jx (by rw [Rh,Q5 hk];rfl);have hl:rs.length=k:=by have:=congrArg VO hf;rw [QN,Sv] at this;omega
   have hz:=zA rs.length (by have:=hB;omega);refine ⟨_,_,rfl,?_,rs++[(B[k],xs)],some (.d (.int k)),some (.d (.int (cW ns (a + 3 + k) * 11400714819323198485 % 18446744073709551616))),rfl,?_,λr hr=>?_⟩
   ·exact yC F_pairs F_cell ns a k m _ xs _ _ _ _ z rs hi hc hx OM hz
   ·rw [RS,hf,ZS,Q5 hk];rfl
   ·rw [Rl,QK] at hr;rcases hr with h | h
    ·exact hp r h
    ·rw [h];exact px) [some (.bor (ns.map D.int)),some (.d (.int a)),some (.d (.int m)),some (.d (.tup [.tup (A.map .str),.tup (B.map .str)])),some (.own (ms.map jW)),y,some (.own []),none] ⟨[],y,none,rfl,rfl,λr h=>by cases h⟩
 rw [cK ((jQ (nQ (m:=B.length) (by have:=hB;omega) (by simp [au,aG,bW,bQ,bH,aJ,cL,af,aD,S.rd,R.dat,cj,bX,g2,gN,ah,ay,gC,bf,aL,bB,bG,aB,bO,cg,rF,fin,bV,bq,eq_int,ao,aK,toD,toS,aO,dc,dh,di]))).trans h2)];refine ⟨ms,rs,?_,by rw [hf,Zd],by rw [hf2,Zd],hp,hp2⟩;simp [au,aG,bW,bQ,bH,aJ,cL,af,aD,S.rd,R.dat,cj,bX,g2,gN,ah,ay,gC,bf,aL,bB,bG,aB,bO,cg,rF,fin,bV,bq,eq_int,ao,aK,toD,toS,aO,dc,dh,di,b7,zL,PY,Wd.d]
theorem IM (ns:List Int) (a m:Nat) (hm:m<=8) (A B:List Str) (hA:Bw A) (hB:Bw B):∃ms rs,fK [.bor (ns.map D.int),.d (.int a),.d (.int m),.d (.tup [.tup (A.map .str),.tup (B.map .str)])]=.ok (.d (Wd.d ⟨m,ms,rs⟩))/\
  ms.map RD=A/\rs.map RD=B/\(∀r∈ms,u7 m r.2)/\∀r∈rs,u6 m r.2:=Gn ns a m hm A B hA.1 hB.1
theorem uz {K:QG}{J:L2.Hp}:∀(ns:List Int),aX K J (ns.map D.int) (ns.map L2.V.int)
 | []=>.nil
 | n::r=>.cons (.int n) (uz r)
end K01
namespace K02
open PySem DL
end K02
namespace K02
open PySem DL K01
end K02
namespace K04
open PySem DL
end K04
namespace K04
open PySem DL K01 K02
end K04
namespace DL
open PySem PySem.Spec PyProof.Rows L2 DX
structure lG (K:QG) (x QA:Str) (st:TR) (f:Q4) (fd:Rp):Prop where
 ex:∃(oc:QH) (od:Option Q4) (T:Q4) (o:Obj) (n:Nat) (kV doc pm:QH) (an:Option Q4) (cdv ct:QH) (osl:Array (Option QH)),
  fd=Rv x QA (cD st) (bM st) (aN st) (.ref T) kV doc pm an cdv ct/\K.lookup f=some ⟨oc,od,.func fd,osl⟩/\Tr K cdv QA=true/\K.lookup T=some o/\o.data=.seq #[.none] n
 kp:RL K (.ref f)=true
theorem vN {K:QG}{J H:Hp}:∀{as:List S}{vs:List V},ia K J H as vs->ia K J H (as++[.d .non]) (vs++[.non])
 | [],_,h=>by cases h;exact ⟨.non,[],rfl,.non,rfl⟩
 | a::as,_,h=>by obtain ⟨v,us,rfl,h1,h2⟩:=h;exact ⟨v,us++[.non],rfl,h1,vN h2⟩
section
variable {P:Q2}{w:Ro}{K:QG}{mg:Str->Option QH}{base:Sa}
theorem GJ {st:TR}{N ps:List Str}{Fm:List S->M R}(F:lG K x QA st f fd) (Sc:cJ N ps (aN st)){gB:G O}
 (hb:∀(cdv:QH) (A:RA) (outer:List Env) (s:QL) (H:Hp) (E:XK) (J:Hp),cR k (A.deeper (Va QA (aN st) s.heap.objs.size f cdv))->Fi (NF P w K mg base N QA (aN st) f cdv A outer s H E) ⟨K,H,J,XW K J H E⟩ (bM st) gB)
 (hF:∀as,as.length=ps.length->Fm as≠.bad->fin (gB (aD N as))=Fm as):eG P w K mg base (ql P w) (k + 1) f fd ps (uB K ps.length Fm):=by
 obtain ⟨oc,od,T,o,n,kV,doc,pm,an,cdv,ct,osl,rfl,lk,hcd,lT,dT⟩:=F.ex;refine FJ lk hcd Sc (λvs H Q E ⟨J,as,h1,h2,h3,h4⟩=>by rw [h3.length,h2]) λA outer s H vs Q E hr ⟨J,as,h1,h2,h3,h4⟩=>?_;refine ⟨_,hb cdv A outer s H E J hr,J,aD N as,xX h1 h3,?_⟩;have z:=hF as h2 (λq=>by rw [q] at h4;exact h4);rw [<-z] at h4;have ext:∀{J' H':Hp},HI ⟨K,H,J,XW K J H E⟩ J' H'->Ext J H J' H':=λhp=>⟨hp.ent,hp.entJ,hp.sub,hp.frz⟩;cases qg:gB (aD N as) with
 | bad=>rw [qg] at h4;exact h4
 | exc x=>rw [qg] at h4;exact h4
 | ok o=>
  rw [qg] at h4;cases o with
  | bk _=>exact h4.elim
  | ct _=>exact h4.elim
  | nx env=>exact λσ' J' H' _ sr=>h4 .non J' H' (ext sr.hp) .non
  | rt r=>exact λv J' H' _ hp rf=>h4 v J' H' (ext hp) (by
    cases r with
    | d x=>exact rf
    | mo _ _=>exact rf
    | mf _ _=>exact rf
    | ln _=>exact rf
    | o m _ _=>cases m <;> exact rf
    | mb _ _=>exact rf
    | l m xs=>exact rf)
noncomputable def DG (P:Q2) (w:Ro) (K:QG) (mg:Str->Option QH) (base:Sa) (k n:Nat) (x:Str) (Fm:List S->M R):Prop:=
 ∃f fd ps,eG P w K mg base (ql P w) k f fd ps (uB K (n + 1) Fm)/\mg x=some (.ref f)/\RL K (.ref f)=true/\Binds K fd ps [.none]
theorem lG.bindsAll {st:TR}{ps:List Str}(F:lG K x QA st f fd)
 (h:∀(T:Q4) (kV doc pm:QH) (an:Option Q4) (cdv ct:QH) (us:List QH),us.length=ps.length->∃k:Option (Array QH)->Sem (List (Str×QH)),
 Vn (Rv x QA (cD st) (bM st) (aN st) (.ref T) kV doc pm an cdv ct) ⟨us,[]⟩=Yt (.ref T) >>= k/\k (some #[.none])=pure (ps.zip us)):Binds K fd ps []:=by obtain ⟨oc,od,T,o,n,kV,doc,pm,an,cdv,ct,osl,rfl,lk,hcd,lT,dT⟩:=F.ex;intro s us hK hl;rw [R6] at hl ⊢;obtain ⟨k,h1,h2⟩:=h T kV doc pm an cdv ct us hl;exact .of_defaults (T:=T) (items:=#[.none]) rfl (hK _ _ lT) dT h1 h2
theorem lG.bindsOne {st:TR}{ps:List Str}(F:lG K x QA st f fd)
 (h:∀(T:Q4) (kV doc pm:QH) (an:Option Q4) (cdv ct:QH) (us:List QH),us.length + 1=ps.length->∃k:Option (Array QH)->Sem (List (Str×QH)),
 Vn (Rv x QA (cD st) (bM st) (aN st) (.ref T) kV doc pm an cdv ct) ⟨us,[]⟩=Yt (.ref T) >>= k/\k (some #[.none])=pure (ps.zip (us++[.none]))):Binds K fd ps [.none]:=by obtain ⟨oc,od,T,o,n,kV,doc,pm,an,cdv,ct,osl,rfl,lk,hcd,lT,dT⟩:=F.ex;intro s us hK hl;obtain ⟨k,h1,h2⟩:=h T kV doc pm an cdv ct us (by simpa using hl);exact .of_defaults (T:=T) (items:=#[.none]) rfl (hK _ _ lT) dT h1 h2
end
section
variable {X:Cx}{c:C}{e:Rz}{es:List Rz}{pos:Pos}
theorem CI {k n:Nat}{f:Q4}{fd:Rp}{ps:List Str}{F:List S->M R}{x:Str}{p:Pos}{gs:G (List R)}(G:eG X.prog X.w X.K X.mg X.base (ql X.prog X.w) k f fd ps (uB X.K (n + 1) F)) (hr:cR k X.A) (hm:X.mg x=some (.ref f)) (hk:RL X.K (.ref f)=true)
  (hb:Binds X.K fd ps [.none]) (ha:yK X c (e::es) gs) (hT:autoParam (c.K=X.K) zA._auto_1) (hg:autoParam (Gl X x) zA._auto_1) (hdb:autoParam ((x == ("__debug__":Str))=false) zB._auto_1) (he:autoParam (QY (e::es) X.env=(false,eval e X.env)::QY es X.env) zA._auto_1)
  (hpl:autoParam ((Tn pos (QY es X.env)).any (·.1)=false) zA._auto_1):PD X c (.Call (.Name x p) (e::es) [] pos) (gN (aB n (λas=>F (as++[.d .non]))) gs):=by
 refine eE (tF (E:=λ_ _ _=>False) G hr hg hm hk hb (dvs:=[.non]) (.cons rfl .nil) (λQw σ H s v s' I ⟨e,C,dx,T,H',ev,f⟩=>f.wish.elim) ha hdb he hpl) λσ H Q ⟨J,env,sr,w⟩=>?_;refine ⟨J,env,sr,aC (aI w) λrs wr vs J1 H1 e1 r1=>?_⟩;unfold aB at wr;split at wr
 ·rename_i hl;have h1:=sr.hp.ext e1;have ar:=r1.args h1;rw [hT] at ar;refine ⟨J1,rs.map bO++[.d .non],e1.sub,by simpa using hl,vN ar,?_⟩;dsimp only at wr;cases q:F (rs.map bO++[.d .non]) with
  | bad=>rw [q] at wr;exact wr
  | exc x=>rw [q] at wr;exact wr.elim
  | ok r=>
   rw [q] at wr;intro v J' H' e2 fr;refine wr v J' H' (e1.trans e2) ?_;cases r with
   | d y=>exact (show Rep c.K J' y v from hT▸fr)
   | mo _ _=>exact fr.elim
   | mb _ _=>exact fr.elim
   | mf _ _=>obtain ⟨a,h1,h2,h3,h4⟩:=fr;exact ⟨a,h1,hT▸h2,h3,e1.h.free h4⟩
   | o m _ _=>cases m with
    | own=>exact fr.elim
    | bor=>exact fr.elim
    | fresh=>obtain ⟨a,h1,h2,h3,h4⟩:=fr;exact ⟨a,h1,hT▸h2,h3,e1.h.free h4⟩
   | ln _=>obtain ⟨a,us,h1,h2,h3,h4,h5⟩:=fr;exact ⟨a,us,h1,h2,h3,e1.h.free h4,hT▸h5.mono (aW.refl _) λ_ h=>e1.h.free h⟩
   | l m ys=>
    obtain ⟨a,us,h1,h2,h3,h4,h5⟩:=fr;exact ⟨a,us,h1,h2,h3,e1.h.free h4,hT▸h5⟩
 ·exact wr.elim
theorem ET {k k' n:Nat}{F:List S->M R}{x:Str}{p:Pos}{gs:G (List R)}(G:DG X.prog X.w X.K X.mg X.base k n x F) (hr:cR k' X.A) (ha:j5 X c (e::es) gs) (hk:autoParam (k<=k') zB._auto_1) (hT:autoParam (c.K=X.K) zA._auto_1) (hg:autoParam (Gl X x) zA._auto_1) (hdb:autoParam ((x == ("__debug__":Str))=false) zB._auto_1)
  (he:autoParam (QY (e::es) X.env=(false,eval e X.env)::QY es X.env) zA._auto_1) (hpl:autoParam ((Tn pos (QY es X.env)).any (·.1)=false) zA._auto_1):QD X c (.Call (.Name x p) (e::es) [] pos) (gN (aB n (λas=>F (as++[.d .non]))) gs):=by obtain ⟨f,fd,ps,h1,h2,h3,h4⟩:=G;exact ⟨CI h1 (hr.mono hk) h2 h3 h4 ha.h hT hg hdb he hpl⟩
end
end DL
namespace DL
open PySem PySem.Spec PyProof.Rows L2
section
open PySem.SeqAt
open PySem.AutoSeq1 (wpAny_loadPart')
open PySem.MeetsSeq PySem.MeetsSeq2 PySem.MeetsSeq3
end
end DL
namespace DL
open PySem PySem.Spec PyProof.Rows L2
variable {n:Nat}
end DL
namespace DL
open PySem PySem.Spec PyProof.Rows L2
end DL
namespace DL
open PySem PySem.Spec PyProof.Rows L2
end DL
namespace DL
open PySem PySem.Spec PyProof.Rows L2
section
variable {prog:Q2}{w:Ro}{A:RA}{E:QH->QL->Prop}{s:QL}
noncomputable abbrev Kp (h h':Sa):Prop:=∀b o,h.get? b=some o->h'.get? b=some o
end
section
variable {K:QG}{J:Hp}
theorem E7 {vs:List V}{us:List QH}(h:Vals vs us):∀{i:Nat},i < vs.length->RelV (vs.getD i V.non) (us.getD i SS):=by
 induction vs generalizing us with
 | nil=>intro i hi;exact absurd hi (Tw _)
 | cons x r ih=>
  intro i hi;cases h with
  | cons q rs=>
   cases i with
   | zero=>simpa using q
   | succ i=>simpa using ih rs (i:=i) (by simpa using hi)
end
end DL
namespace DL
open PySem PySem.Spec PyProof.Rows L2
section
variable {X:Cx}{c:C}{e:Rz}{g:G R}{pos:Pos}
noncomputable def jR (i:Nat) (f:R->R->M R) (g:G R):G O:=λenv=>match env[i]? with
 | some (some (.d d))=>g env >>= λy=>f (.d d) y >>= λz=>toS z >>= λx=>.ok (.nx (env.set i (some x)))
 | _=>.bad
theorem Ho (i:Nat){x:Str}{pos':Pos}{op:aa8}{r:R2}{f:R->R->M R}(hN:X.N.Nodup) (ho:dH X (Xb op) r) (hb:BD c r f) (h:PD X c e g) (hi:autoParam (X.N[i]?=some x) zA._auto_1) (hx:Loc X.env.scope x:=by first | exact Ug rfl | exact Te rfl)
  (hf:X.fn x=true\/X.env.scope.names.lookup x=some .local:=by first | exact .inl rfl | exact .inr rfl):IT X c (.AugAssign (.Name x pos') op e pos) (jR i f g):=
 fZ (KJ hN hi hx h (λQw s σ H x y v u Q I rx ry q=>MV ho I rx ry q) hf) λE σ H ⟨J,env,sr,w⟩=>by
 unfold jR at w;split at w
 ·rename_i d hd;obtain ⟨v,h1,h2⟩:=sr.at_ i _ hd;refine ⟨v,h1,J,env,sr,aC (aI w) λy wr v' J1 H1 e1 r1=>?_⟩;have sr1:=sr.ext e1;refine hb H H J1 H1 (.d d) y v v' _ sr1.hp (Rep.mono e1.j h2) r1 (aC (aI wr) λz wz w' J2 H2 e2 r2=>?_);obtain ⟨x,q,wz⟩:=tV wz;exact wz (σ.set i (some w')) J2 H2 (e1.j.trans e2.j) (sr1.set e2 r2 q)
 ·exact w.elim
end
end DL
namespace DL
open PySem PySem.Spec PyProof.Rows L2 DX
section
variable {M:ZJ}{A:RA}{E:QH->QL->Prop}{s:QL}
theorem AR {Qv:Uo}{globals:Q4}{closure:List (Str×Q4)}{QA:Str}{func:Option Q4}{code:QH}{outer:Env}{builtins:Q4}{Q:Env->QL->Prop}
  (hQ:Q (newEnv Qv s.heap.objs.size globals (R7 (s.heap.objs.size + 1) Qv.names closure) QA func code (some outer) builtins) {s with heap:=Zs (s.heap.push {cls:=.type "dict",data:=.dict #[]}) Qv.names}):
  Q8 M A (ZT Qv globals closure [] QA func code (some outer) builtins) Q E s:=by simp only [ZT,Yv,if_true];refine QF (Zt ?_);refine QF (wpAny_layCells _ (λname kind cells=>by cases hkc:kind == U5 <;> simp [hkc]) _ _ _ _ ?_);rw [show ({s with heap:=s.heap.push {cls:=.type "dict",data:=.dict #[]}}:QL).heap.objs.size=s.heap.objs.size + 1 from Sh ..];simp only [List.forIn_nil];exact QF (QJ (QJ hQ))
theorem iS:∀(names:List (Str×TV)) (n:Nat) (acc:List (Str×Q4)) (x:Str),(∀y∈names,y.2=.cell->y.1≠x)->(R7 n names acc).lookup x=acc.lookup x
 | [],_,_,_,_=>by unfold R7;rfl
 | (y,k)::r,n,acc,x,h=>by
  have hr:∀z∈r,z.2=.cell->z.1≠x:=λz hz=>h z (QO _ hz);unfold R7;split
  ·rename_i hk;rw [iS r _ _ x hr];have hy:y≠x:=h (y,k) (QT ..) (by simpa using hk);have:(x == y)=false:=by
    cases q:x == y with
    | false=>rfl
    | true=>exact absurd (eq_of_beq q).symm hy
   rw [Si,this]
  ·exact iS r _ _ x hr
end
theorem uS:∀(names:List (Str×TV)) (n:Nat) (acc:List (Str×Q4)),R7 n names acc=R7 n names []++acc:=by
 intro names
 suffices ∀(n:Nat) (a b:List (Str×Q4)),R7 n names (a++b)=R7 n names a++b by intro n acc;exact this n [] acc
 induction names with
 | nil=>intro n a b;unfold R7;rfl
 | cons p r ih=>
  obtain ⟨y,k⟩:=p;intro n a b;unfold R7;split
  ·exact ih _ (_::a) b
  ·exact ih _ a b
noncomputable def ef (names:List (Str×TV)) (x:Str):Bool:=names.any λy=>y.1 == x && y.2 == .cell
theorem g7:∀(names:List (Str×TV)) (n:Nat) (acc:List (Str×Q4)) (x:Str),((acc.lookup x).isSome=true\/ef names x=true)->((R7 n names acc).lookup x).isSome=true
 | [],_,_,_,h=>by
  unfold R7;rcases h with h | h
  ·exact h
  ·cases h
 | (y,k)::r,n,acc,x,h=>by
  unfold R7;have e:ef ((y,k)::r) x=((y == x && k == .cell) || ef r x):=rfl;rw [e] at h;split
  ·rename_i hk;refine g7 r _ _ x ?_;by_cases hx:x=y
   ·left;subst hx;rw [Si];simp
   ·rcases h with h | h
    ·left;rw [Si];cases q:x == y with
     | true=>exact absurd (eq_of_beq q) hx
     | false=>exact h
    ·rw [S9,Ra] at h;rcases h with h | h
     ·exact absurd (eq_of_beq h.1).symm hx
     ·exact .inr h
  ·rename_i hk;refine g7 r _ _ x ?_;rcases h with h | h
   ·exact .inl h
   ·rw [S9,Ra] at h;rcases h with h | h
    ·exact absurd h.2 hk
    ·exact .inr h
theorem fW {cl:List (Str×Q4)}(h:(R7 n names cl).lookup x=some d):
  (R7 n names []).lookup x=some d\/(ef names x=false/\cl.lookup x=some d):=by
 rw [uS,List.lookup_append] at h;cases q:(R7 n names []).lookup x with
 | some e=>rw [q] at h;left;simpa using h
 | none=>
  rw [q] at h;right;refine ⟨?_,by simpa using h⟩;cases z:ef names x with
  | false=>rfl
  | true=>
   have:=g7 names n [] x (.inr z);rw [q] at this;cases this
theorem mR {Qv:Uo}(h:(relabel Qv env).names.lookup x=some .cell\/(relabel Qv env).names.lookup x=some .free):(x,Sw)∈Qv.names\/ef Qv.names x=true:=by
 unfold relabel at h;revert h;generalize Qv.names=names
 induction names with
 | nil=>intro h;simp at h
 | cons p r ih=>
  obtain ⟨n,k⟩:=p;intro h;rw [Ri] at h;simp only at h;by_cases hx:x=n
  ·subst hx;cases k with
   | free=>exact .inl (QT ..)
   | cell=>right;unfold ef;simp
   | _=>simp [Si] at h
  ·have e:(x == n)=false:=by simpa using hx
   have h':(r.map λ(n,k)=>if (k == Sw && env.scope.kind == .function && env.kindOf n == some .cell) then (n,U5) else (n,k)).lookup x=some .cell\/(r.map λ(n,k)=>if (k == Sw && env.scope.kind == .function && env.kindOf n == some .cell) then (n,U5) else (n,k)).lookup x=some .free:=by split at h <;> simpa [Si,e] using h
   rcases ih h' with z | z
   ·exact .inl (QO _ z)
   ·right;unfold ef at z ⊢;rw [Sx,z,Bool.or_true]
section
variable {X:Cx}
noncomputable def fc (X:Cx) (own:List Str) (cap:List Nat) (Qv:Uo) (cl:List (Str×Q4)) (C:Q4) (s:QL) (H:Hp) (fp:List Q4):Cx:=
 {Jj X own cap Qv (R7 (C + 1) Qv.names cl) C s H fp with fn:=ef Qv.names}
theorem GF {H:Hp}{s:QL}{own:List Str}{Qv:Uo}(I:Inv X Qw σ H s) (hk:Qv.kind=.function)
 (hcl:fQ X.env.cells Qv.names []=some cl) (ck:aa0 h1 (s.heap.objs.size + 1) (R7 (s.heap.objs.size + 1) Qv.names [])) (hfp:∀b∈fp,jn X Qw H b) (hin:∀b∈fp,b < s.heap.objs.size):(fc X own cap Qv cl s.heap.objs.size s H fp).Ok:=by
 obtain ⟨m1,m2⟩:=iw Qv.names [] cl hcl (λx c h=>by simp at h);have lo:∀{x:Str}{d:Q4},(R7 (s.heap.objs.size + 1) Qv.names []).lookup x=some d->s.heap.objs.size + 1<=d:=fun {x d} h=>(ck.empty _ _ (U8 h)).2;have old:∀{x:Str}{d:Q4},cl.lookup x=some d->d < s.heap.objs.size:=fun {x d} h=>by obtain ⟨v,z⟩:=I.cell x d (m1 x d h);exact z.lt
 refine ⟨I.ok.mod,hk,I.ok.glob,I.ok.blt,QV _,λx y d h1 h2=>?_,λx hx=>?_,λx d hf h=>?_,λhc=>I.ok.hd hc,I.ok.frames,.inl rfl,λb hb=>⟨Q7 (hin b hb),λx d h=>?_⟩,
  I.bs,RG I.ok.bsz I.sz,λb o h hb=>?_,λb hb hf=>?_,I.stack,I.stkFree⟩
 ·rcases fW h1 with h1 | ⟨_,h1⟩
  ·rcases fW h2 with h2 | ⟨_,h2⟩
   ·exact name_of_addr ck.apart (U8 h1) (U8 h2)
   ·exact absurd (Q9 (old h2) (T_ (lo h1))) (TU _)
  ·rcases fW h2 with h2 | ⟨_,h2⟩
   ·exact absurd (Q9 (old h1) (T_ (lo h2))) (TU _)
   ·exact I.ok.inj x y d (m1 x d h1) (m1 y d h2)
 ·refine RE.mp (g7 _ _ _ x ?_);rcases mR hx with z | z
  ·exact .inl (m2 x (.inr z))
  ·exact .inr z
 ·rcases fW h with h | ⟨z,h⟩
  ·exact T_ (lo h)
  ·have hf':ef Qv.names x=true:=hf;rw [z] at hf';cases hf'
 ·rcases fW h with h | ⟨_,h⟩
  ·exact S7 (Q9 (hin b hb) (T_ (lo h)))
  ·exact (hfp b hb).2.2.2.2.1 x d (m1 x d h)
 ·rcases (hfp b hb).2.2.2.1 with z | z
  ·exact I.ok.noex b o h z
  ·exact absurd (Q9 (Q6 (I.ok.bs b o h).1) z) (TU _)
 ·rcases QZ.mp (I.stkSub b hf) with e | e
  ·exact (hfp b hb).2.1 e
  ·exact (hfp b hb).2.2.1 e
end
theorem w_ {cl:List (Str×Q4)}(h:ef names x=false):(R7 n names cl).lookup x=cl.lookup x:=
 iS names n cl x λy hy hk e=>by unfold ef at h;have:=YA.mp h y hy;simp [hk,e] at this
section
variable {X:Cx}
theorem D6 {Qw:List (Q4×Obj)}{σ:L2.St}{H:Hp}{s:QL}{own:List Str}{cap:List Nat}{Qv:Uo}{cl:List (Str×Q4)}{fp:List Q4}{h1:Sa}{m:Str->Option QH}{tk:Nat}(I:Inv X Qw σ H s) (ok:(fc X own cap Qv cl s.heap.objs.size s H fp).Ok)
  (hcl:fQ X.env.cells Qv.names []=some cl) (ck:aa0 h1 (s.heap.objs.size + 1) (R7 (s.heap.objs.size + 1) Qv.names [])) (hcap:oj X cap=true) (OF:∀j∈cap,∀x,X.N[j]?=some x->(relabel Qv X.env).names.lookup x≠some .local)
  (hno:∀j∈cap,∀x,X.N[j]?=some x->ef Qv.names x=false) (hns:h1.Ns s.heap.objs.size m) (old:∀b o,s.heap.get? b=some o->h1.get? b=some o):
  Inv (fc X own cap Qv cl s.heap.objs.size s H fp) [] (Rw own.length none++cap.map λ(j:Nat)=>(σ[j]?).getD none) H {s with heap:=h1,toks:=tk}:=by
 obtain ⟨m1,m2⟩:=iw Qv.names [] cl hcl (λx c h=>by simp at h);refine ⟨ok,rfl,I.bare,Un.kept old,⟨m,hns,λi x v q1 q2 q3=>?_⟩,λx d h=>?_,I.hok.fresh (QV _),λx d h=>?_,λp hp=>absurd (show p∈([]:List (Q4×Obj)) from hp) (by simp),I.hok.kept old,?_⟩
 ·obtain ⟨j,h2,h3,h4⟩:=gZ q2;have q1':(own++cap.map λ(j:Nat)=>(X.N[j]?).getD ("":Str))[i]?=some x:=q1;rw [Sk (by exact h2),Rh,h3] at q1';have hj:j∈cap:=TZ h3;have hc:(match X.N[j]? with
   | some x=>(match X.env.scope.names.lookup x with
    | some .cell=>true
    | some .free=>true
    | _=>false)
   | none=>false)=true:=by unfold oj at hcap;exact Th.mp hcap j hj
  cases hx:X.N[j]? with
  | none=>rw [hx] at hc;cases hc
  | some y=>
   rw [T8,hx] at q1';rw [hx] at hc;have e:y=x:=by simpa using q1'
   subst e;have kd:X.env.kindOf y=some .cell\/X.env.kindOf y=some .free:=by
    unfold abh;simp only at hc;split at hc
    ·rename_i z;exact .inl z
    ·rename_i z;exact .inr z
    ·cases hc
   obtain ⟨mX,nX,lX⟩:=I.loc;obtain ⟨u,ru,lu⟩:=lX j y v hx h4 (kd.elim (λz=>.inr (.inl z)) λz=>.inr (.inr z));refine ⟨u,ru,.inr ?_⟩;have kd':(relabel Qv X.env).names.lookup y=some .cell\/(relabel Qv X.env).names.lookup y=some .free:=by
    rcases q3 with z | z | z
    ·exact absurd z (OF j hj y hx)
    ·exact .inl z
    ·exact .inr z
   refine ⟨kd',?_⟩;have no:=hno j hj y hx;have fr:(y,Sw)∈Qv.names:=by
    rcases mR kd' with z | z
    ·exact z
    ·rw [no] at z;cases z
   obtain ⟨d,hd⟩:=RE.mp (m2 y (.inr fr));refine ⟨d,(w_ no).trans hd,?_⟩;rcases lu with ⟨z,_⟩ | ⟨_,d',hd',z⟩
   ·rcases kd with k | k <;> (rw [k] at z;cases z)
   ·have:=m1 y d hd;rw [hd'] at this;cases this;obtain ⟨o,ho,hod⟩:=z;exact ⟨o,old _ _ ho,hod⟩
 ·rcases fW h with h | ⟨_,h⟩
  ·exact ⟨none,(ck.empty _ _ (U8 h)).1⟩
  ·obtain ⟨v,o,ho,hod⟩:=I.cell x d (m1 x d h);exact ⟨v,o,old _ _ ho,hod⟩
 ·rcases fW h with h | ⟨_,h⟩
  ·exact I.hok.fresh (T_ (ck.empty _ _ (U8 h)).2)
  ·exact I.freeC x d (m1 x d h)
 ·show _=(own++cap.map λ(j:Nat)=>(X.N[j]?).getD ("":Str)).length;simp
end
theorem J_ (h:Sa) (names:List (Str×TV)):(Zs (h.push {cls:=.type "dict",data:=.dict #[]}) names).Ns h.objs.size (λ_=>none):=
 (Heap.Ns.new h (.type "dict")).keeps λb o e=>Zu _ _ _ _ e
theorem BK (h:Sa) (names:List (Str×TV)):aa0 (Zs (h.push {cls:=.type "dict",data:=.dict #[]}) names) (h.objs.size + 1) (R7 (h.objs.size + 1) names []):=by have:=cellsFrom_ok names (h.push {cls:=.type "dict",data:=.dict #[]}) (h.objs.size + 1) [] ⟨λ_ _ hm=>(nomatch hm),Vg⟩ (by rw [Sh];exact QV _);rw [Sh] at this;exact this
noncomputable def Fy (X:Cx) (cap:List Nat) (Qv:Uo):Bool:=cap.all λj=>match X.N[j]? with
 | some x=>!ef Qv.names x
 | none=>true
section
variable {X:Cx}{c:C}{e:Rz}{es:List Rz}{g:G R}{pos:Pos}
theorem uw (i:Nat){x:Str}{pos':Pos}(hN:X.N.Nodup) (h:QD X c e g) (hi:autoParam (X.N[i]?=some x) zA._auto_1) (hx:Loc X.env.scope x:=by first | exact Ug rfl | exact Te rfl) (hf:X.fn x=true\/X.env.scope.names.lookup x=some .local:=by first | exact .inl rfl | exact .inr rfl):
  iE X c (.AugAssign (.Name x pos') .Sub e pos) (jR i gP g):=have h:=h.h;⟨Ho i hN GU (gY λ_ _ _=>.int _) h hi hx hf⟩
theorem GN {K:QG}{st:TR}{kV doc pm cdv ct:QH}(l:K.lookup f=some ⟨oc,od,.func (Rv x QA (cD st) (bM st) (aN st) (.ref T) kV doc pm an cdv ct),osl⟩)
 (cd:Tr K cdv QA=true) (k:RL K (.ref f)=true) (lT:K.lookup T=some ⟨oT,dT,.seq #[.none] n,sT⟩):lG K x QA st f (Rv x QA (cD st) (bM st) (aN st) (.ref T) kV doc pm an cdv ct):=
 ⟨⟨oc,od,T,_,n,kV,doc,pm,an,cdv,ct,osl,rfl,l,cd,lT,rfl⟩,k⟩
end
noncomputable def cA (gt:GT) (gts:G Bool) (act:Ev->M (List D×Ev)):List D->Ev->M (List D×Ev)
 | [],env=>.ok ([],env)
 | d::ds,env=>gt d env >>= λe=>gts e >>= λk=>if k=true then act e >>= λr=>cA gt gts act ds r.2 >>= λz=>.ok (r.1++z.1,z.2) else cA gt gts act ds e
noncomputable def vD (env:Ev) (σ:L2.St) (p:Q4):Prop:=∀(j:Nat) (xs:Mn),env[j]?=some (some (mS xs))->σ[j]?≠some (some (.ref p))
structure vn (Acc:Hp->Hp->List D->Prop):Prop where
 ext:∀{J H J' H':Hp}{ys:List D},Acc J H ys->Ext J H J' H'->Acc J' H' ys
noncomputable def sC (X:Cx) (c:C) (p:Q4) (Acc:Hp->Hp->List D->Prop) (J2 H2:Hp) (N:Nat) (m:Sem Unit) (act:Ev->M (List D×Ev)):Prop:=
 ∀(Qw:List (Q4×Obj)) (s:QL) (σ:L2.St) (H J:Hp) (env:Ev) (ys:List D) (Qf:List D×Ev->Prop),Inv X Qw σ H s->Ext J2 H2 J H->SR c J H σ env->vD env σ p->Acc J H ys->ys.length + N<=sizeLine->cM (act env) Qf c.T->
  Q8 (Rb X.prog X.w) X.A m (λ_ s'=>∃σ' H' J' r,Inv X Qw σ' H' s'/\Ext J2 H2 J' H'/\aW J J'/\SR c J' H' σ' r.2/\vD r.2 σ' p/\Acc J' H' (ys++r.1)/\r.1.length<=N/\Qf r) X.xe s
noncomputable abbrev Dt (ifs:List Rz) (env:Env):Sem Bool:=forIn ifs true λc r=>if r=true then do let ok <-Yg c env (eval c env);pure (Tv ok) else pure (Tv r)
noncomputable abbrev oM (Qy Qz:Rz) (ifs:List Rz) (it:QH) (env:Env) (act:Sem Unit) (again':Sem Fin):Sem Fin:=do
 UG Qz.pos
 match <-U_ it with
 | none=>pure (.done .next)
 | some v=>
  T6 Qy it v
  assign Qy env v
  let mut ok:=true
  for c in ifs do
   if ok then ok <-Yg c env (eval c env)
  if ok then
   act
  again'
noncomputable def qq (prog:Q2) (w:Ro) (A:RA) (e:Rz) (depth:Nat) (it acc:QH) (env:Env) (Qy:Rz) (ifs:List Rz) (m:Sem Unit):Prop:=
 ∀(R:XU->QL->Prop) (E:QH->QL->Prop) (I:Nat->QL->Prop),(∀v s,E v s->aaj (Rb prog w) A env (λx s'=>R (.error x) s') v s)->(∀n s,I n s->Q8 (Rb prog w) A (U_ it) (λr s₁=>match r with
   | none=>R (.ok .next) s₁
   | some v=>Q8 (Rb prog w) A (T6 Qy it v) (λ_ s₁=>Q8 (Rb prog w) A (assign Qy env v) (λ_ s₂=>
     Q8 (Rb prog w) A (Dt ifs env) (λok s₃=>if ok=true then Q8 (Rb prog w) A m (λ_ s₅=>∃m,m < n/\I m s₅) E s₃ else ∃m,m < n/\I m s₃) E s₂) E s₁) E s₁) E s)->
  ∀(n:Nat) (s:QL),I n s->SQ (Rb prog w) A (.compLoop e depth it acc env) R s
section
variable {prog:Q2}{w:Ro}{A:RA}{Qy Qz:Rz}{ifs:List Rz}{Qv:Uo}{pos:Pos}{it acc:QH}{env:Env}{depth:Nat}{gens:List UB}{act:Sem Unit}
theorem x_ {R:XU->QL->Prop}{I:Nat->QL->Prop}{E:QH->QL->Prop}{code:Code}{n:Nat}{s:QL}{Q:Fin->QL->Prop}
  (P6:∀s,R (.ok .next) s->Q (.done .next) s) (PN:∀s,(∃m,m < n/\I m s)->Q8 (Rb prog w) A (again code) Q E s)
  (t:Q8 (Rb prog w) A (U_ it) (λr s₁=>match r with
   | none=>R (.ok .next) s₁
   | some v=>Q8 (Rb prog w) A (T6 Qy it v) (λ_ s₁=>Q8 (Rb prog w) A (assign Qy env v) (λ_ s₂=>
     Q8 (Rb prog w) A (Dt ifs env) (λok s₃=>if ok=true then Q8 (Rb prog w) A act (λ_ s₅=>∃m,m < n/\I m s₅) E s₃ else ∃m,m < n/\I m s₃) E s₂) E s₁) E s₁) E s):
  Q8 (Rb prog w) A (oM Qy Qz ifs it env act (again code)) Q E s:=by
 refine QF (Ud (QF (RM t (λr s₁ h₁=>?_) λ_ _ f=>f)));cases r with
 | none=>exact QJ (P6 _ h₁)
 | some v=>
  refine QF (RM h₁ (λ_ s₁' h₁'=>?_) λ_ _ f=>f);refine QF (RM h₁' (λ_ s₂ h₂=>QF (RM h₂ (λok s₃ h₃=>?_) λ_ _ f=>f)) λ_ _ f=>f);cases ok with
  | false=>exact PN _ h₃
  | true=>exact QF (RM h₃ (λ_ s₅ h₅=>PN _ h₅) λ_ _ f=>f)
theorem AL {elt:Rz}(ht:WH (.ListComp elt gens Qv pos) depth it acc env=oM Qy Qz ifs it env act (again (.compLoop (.ListComp elt gens Qv pos) depth it acc env))):qq prog w A (.ListComp elt gens Qv pos) depth it acc env Qy ifs act:=by intro R E I hE turn n s h;refine codeAny_loop rfl I (λn s hI=>?_) n h;show Q8 _ A ((WH (.ListComp elt gens Qv pos) depth it acc env).onRaise (λx=>do Zv x env;Zw x)) _ _ s;refine wpAny_noted ?_;rw [ht];exact RM (x_ (E:=E) (Q:=λf s'=>match f with | .done g=>R (.ok g) s' | .again c=>c=_/\∃m,m < n/\I m s') (λ_ h=>h) (λ_ h=>QJ ⟨rfl,h⟩) (turn n s hI)) (λ_ _ h=>h) hE
end
section
variable {X:Cx}{c:C}{p:Q4}{Acc:Hp->Hp->List D->Prop}{J2 H2:Hp}{N:Nat}{m:Sem Unit}{act:Ev->M (List D×Ev)}{Qy:Rz}{ifs:List Rz}{gt:GT}{gts:G Bool}{e:Rz}{depth:Nat}{acc:QH}{it:Q4}{fp:List Q4}{tn:Nat->Sa->Prop}{It:It}{ds:List D}{J1:Hp}
theorem xj (aR:vn Acc) (hc:X.calm=true){Rx:QH->QL->Prop}(hx:∀v s,X.xe v s->aaj (Rb X.prog X.w) X.A X.env Rx v s) (LP:qq X.prog X.w X.A e depth (.ref it) acc X.env Qy ifs m) (hT:Bs X c Qy gt) (hIf:z_ X c ifs gts) (hA:sC X c p Acc J2 H2 N m act) (T:Turn X.prog X.w X.K Qy It fp it tn)
  (U:Hp->Hp->Prop) (wk:Walk c It ds J1 U){Qw:List (Q4×Obj)}{s:QL}{σ:L2.St}{H J:Hp}{env:Ev}{ys:List D}{Qf:List D×Ev->Prop}(hU:∀J' H',Ext J2 H2 J' H'->aW J J'->U J' H') (I:Inv X Qw σ H s) (st:tn 0 s.heap) (fr:∀b∈fp,jn X Qw H b) (e2:Ext J2 H2 J H) (sr:SR c J H σ env) (no:vD env σ p) (ac:Acc J H ys)
  (hl:ys.length + ds.length * N<=sizeLine) (w:cM (cA gt gts act ds env) Qf c.T):
  SQ (Rb X.prog X.w) X.A (.compLoop e depth (.ref it) acc X.env) (λr s'=>match r with | .error x=>Rx x s' | .ok f=>f=.next/\∃σ' H' J' r',Inv X Qw σ' H' s'/\Ext J2 H2 J' H'/\aW J J'/\SR c J' H' σ' r'.2/\vD r'.2 σ' p/\Acc J' H' (ys++r'.1)/\r'.1.length<=ds.length * N/\Qf r') s:=by
 refine LP _ X.xe (λn s'=>∃(i:Nat) (σ':L2.St) (H' J':Hp) (env':Ev) (zs:List D),n=ds.length - i/\i<=ds.length/\Inv X Qw σ' H' s'/\tn i s'.heap/\(∀b∈fp,H' b=none)/\Ext J2 H2 J' H'/\aW J J'/\SR c J' H' σ' env'/\vD env' σ' p/\Acc J' H' (ys++zs)/\zs.length<=i * N/\
  cM (cA gt gts act (ds.drop i) env') (λr=>Qf (zs++r.1,r.2)) c.T) hx ?_ ds.length s ⟨0,σ,H,J,env,[],rfl,Rj _,I,st,λb hb=>(fr b hb).1,e2,aW.refl J,sr,no,by rw [R6];exact ac,by simp,by rw [XX];exact w⟩
 rintro n s' ⟨i,σ',H',J',env',zs,rfl,hi,I',st',fr',e',sj,sr',no',ac',hz,w'⟩;have stat:∀{H':Hp},(∀b∈fp,H' b=none)->∀b∈fp,jn X Qw H' b:=λhn b hb=>⟨hn b hb,(fr b hb).2⟩;obtain ⟨wk1,wk2⟩:=wk i J' H' sr'.hp (hU J' H' e' sj);by_cases hlt:i < ds.length
 ·obtain ⟨g1,y1⟩:=wk2 ds[i] (by simp [hlt]);rw [TY hlt] at w';refine RM (T.item X rfl rfl rfl hc i Qw s' σ' H' X.xe I' (stat fr') st' g1) (λr s4 ⟨u,hr,h4⟩=>?_) λ_ _ f=>f;subst hr;refine RM h4 (λ_ s5 ⟨x,H5,I5,r5,y5,st5,fr5⟩=>?_) λ_ _ f=>f;obtain ⟨J5,e5,rx⟩:=y1 x H5 y5;have I5':=I5.pinned (stat fr5) (T.obj _ _ st5);have again:∀{σ7:L2.St}{H7:Hp}{s7:QL},Inv X (Qw++nI fp s5.heap) σ7 H7 s7->Inv X Qw σ7 H7 s7/\tn (i + 1) s7.heap/\(∀b∈fp,H7 b=none):=fun {σ7 H7 s7} I7=>by refine ⟨I7.unpinned,T.keep _ _ _ st5 λb hb o e=>(I7.pin (b,o) (RB _ (RB _ (ju hb e)))).1,λb hb=>?_⟩;obtain ⟨o,e,d⟩:=T.obj _ _ st5 b hb;exact (I7.pin (b,o) (RB _ (RB _ (ju hb e)))).2.1
  refine RM (hT _ s5 σ' H5 x u (λσ6 H6=>∃e6,H6=H5/\SR c J5 H5 σ6 e6/\KO env' σ' e6 σ6/\cM (gts e6 >>= λk=>if k=true then act e6 >>= λr=>cA gt gts act (ds.drop (i + 1)) r.2 >>= λz=>.ok (r.1++z.1,z.2) else cA gt gts act (ds.drop (i + 1)) e6)
   (λr=>Qf (zs++r.1,r.2)) c.T) I5' r5 ⟨J5,env',ds[i],sr'.ext e5,rx,aC (aI w') λe6 w6 σ6 sr6 ko=>⟨e6,rfl,sr6,ko,w6⟩⟩) (λ_ s6 ⟨σ6,H6,I6,e6,P0,sr6,ko,w6⟩=>?_) λ_ _ f=>f
  subst P0;have no6:vD e6 σ6 p:=λj xs q z=>by obtain ⟨k1,k2⟩:=ko j xs q;exact no' j xs k1 (k2▸z)
  refine RM (hIf _ s6 σ6 H6 (λk H7=>∃J7,Ext J5 H6 J7 H7/\cM (if k=true then act e6 >>= λr=>cA gt gts act (ds.drop (i + 1)) r.2 >>= λz=>.ok (r.1++z.1,z.2) else cA gt gts act (ds.drop (i + 1)) e6)
   (λr=>Qf (zs++r.1,r.2)) c.T) I6 ⟨J5,e6,sr6,aC (aI w6) λk wk J7 H7 e7=>⟨J7,e7,wk⟩⟩) (λk s7 ⟨H7,I7,J7,e7,w7⟩=>?_) λ_ _ f=>f
  have sr7:=sr6.ext e7;have ac7:=aR.ext (aR.ext ac' e5) e7;have x7:=(e'.trans e5).trans e7;have j7:=(sj.trans e5.j).trans e7.j;have hm:(i + 1) * N=i * N + N:=by rw [Nat.add_mul,Nat.one_mul]
  cases k with
  | false=>
   rw [if_neg (by decide)] at w7 ⊢;obtain ⟨a1,a2,a3⟩:=again I7;exact ⟨ds.length - (i + 1),by omega,i + 1,σ6,H7,J7,e6,zs,rfl,hlt,a1,a2,a3,x7,j7,sr7,no6,ac7,by omega,w7⟩
  | true=>
   rw [if_pos rfl] at w7 ⊢;have hN:(i + 1) * N<=ds.length * N:=VE N hlt;refine RM (hA _ s7 σ6 H7 J7 e6 (ys++zs) _ I7 x7 sr7 no6 ac7 (by rw [QU];omega) (aI w7)) (λ_ s8 ⟨σ8,H8,J8,r,I8,x8,j8,sr8,no8,ac8,l8,w8⟩=>?_) λ_ _ f=>f;obtain ⟨a1,a2,a3⟩:=again I8;refine ⟨ds.length - (i + 1),by omega,i + 1,σ8,H8,J8,r.2,zs++r.1,rfl,hlt,a1,a2,a3,x8,j7.trans j8,sr8,no8,by rw [<-Vi];exact ac8,by rw [QU];omega,?_⟩;refine aC (aI w8) λz q=>?_;rw [Vi];exact q
 ·have Qg:i=ds.length:=by omega
  subst Qg;rw [Vb (QV _)] at w';refine RM (T.done X rfl rfl rfl hc _ Qw s' σ' H' X.xe I' (stat fr') st' (wk1 (QV _))) (λr s4 ⟨hr,I9⟩=>?_) λ_ _ f=>f;subst hr;have w9:Qf (zs++[],env'):=w';rw [R6] at w9;exact ⟨rfl,σ',H',J',(zs,env'),I9,e',sj,sr',no',ac',hz,w9⟩
end
section
variable {prog:Q2}{w:Ro}{A:RA}{R:XU->QL->Prop}{s:QL}{it acc:QH}{env:Env}{Qv:Uo}{pos:Pos}{g0:UB}{Qy Qz:Rz}{ifs:List Rz}{rest:List UB}
theorem Lj (h0:SQ (Rb prog w) A (.compLoop (.ListComp elt (g0::⟨Qy,Qz,ifs,0⟩::rest) Qv pos) 1 it acc env) R s)
 (h:Q8 (Rb prog w) A (WR it) (λit' s'=>SQ (Rb prog w) A (.compLoop (.ListComp elt (g0::⟨Qy,Qz,ifs,0⟩::rest) Qv pos) 1 it' acc env) R s') (λ_ _=>False) s):
  SQ (Rb prog w) A (.compStart (.ListComp elt (g0::⟨Qy,Qz,ifs,0⟩::rest) Qv pos) 1 it acc env) R s:=by
 refine V0 ?_;show Q8 _ _ ((Zx (.ListComp elt (g0::⟨Qy,Qz,ifs,0⟩::rest) Qv pos) 1 it acc env).onRaise (λx=>do Zv x env;UG Zy)) _ _ s;refine aak ?_;unfold Zx;show Q8 _ _ (ask >>= _) _ _ s;refine QF (SO (wpAny_ite ?_));split
 ·first
   | exact QF (QJ (QJ (Xq rfl h0)))
   | exact QJ (Xq rfl h0)
 ·refine QF (VL ?_);show Q8 _ _ (UG Qz.pos >>= _) _ _ s;exact QF (Ud (QF (RM h (λit' s' h'=>QJ (Xq rfl h')) λ_ _ x=>x.elim)))
end
noncomputable def jd (gi:G (List D)) (gt:GT) (gts:G Bool) (act:Ev->M (List D×Ev)):Ev->M (List D×Ev):=λenv=>gi env >>= λds=>if ds.length<=1000 then cA gt gts act ds env else .bad
noncomputable abbrev Ax (e Qz:Rz) (acc:QH) (env:Env):Sem Unit:=do
 let x <-eval Qz env
 UG Qz.pos
 let x <-SV Qz env x
 let _ <-runOwn (.compStart e 1 (<-holding [x] (WR x)) acc env) env
section
variable {X:Cx}{c:C}{p:Q4}{Acc:Hp->Hp->List D->Prop}{J2 H2:Hp}{N:Nat}{m:Sem Unit}{act:Ev->M (List D×Ev)}{Qy Qz:Rz}{ifs:List Rz}{gi:G (List D)}{gt:GT}{gts:G Bool}{e:Rz}{acc:QH}
theorem Gw (aR:vn Acc) (hc:X.calm=true) (hx:∀v s,X.xe v s->False) (hs:∀x,SV Qz X.env x=pure x)
  (start:∀(it:Q4) (R:XU->QL->Prop) (s:QL),SQ (Rb X.prog X.w) X.A (.compLoop e 1 (.ref it) acc X.env) R s->Q8 (Rb X.prog X.w) X.A (WR (.ref it)) (λit' s'=>SQ (Rb X.prog X.w) X.A (.compLoop e 1 it' acc X.env) R s') (λ_ _=>False) s->SQ (Rb X.prog X.w) X.A (.compStart e 1 (.ref it) acc X.env) R s)
  (LP:∀it:Q4,qq X.prog X.w X.A e 1 (.ref it) acc X.env Qy ifs m) (hi:MD X c Qy Qz gi) (hT:Bs X c Qy gt) (hIf:z_ X c ifs gts) (hA:sC X c p Acc J2 H2 N m act):
  sC X c p Acc J2 H2 (1000 * N) (Ax e Qz acc X.env) (jd gi gt gts act):=by
 intro Qw s σ H J env ys Qf I x2 sr no ac hl w;refine QF (RM (hi Qw s σ H (λIt H1=>∃ds J1,Ext J H J1 H1/\Walk c It ds J1 (λJ' _=>aW J1 J')/\cM (if ds.length<=1000 then cA gt gts act ds env else .bad) Qf c.T) I ⟨J,env,sr,aC (aI w) λds wd It J1 H1 e1 wk=>⟨ds,J1,e1,wk,wd⟩⟩) (λxv s1 h1=>?_) λv s f=>(hx v s f).elim);refine QF (Ud ?_);rw [hs xv];refine QF (QJ (QF (RJ (RM h1 (λitv s2 h2=>?_) λv s f=>(hx v s f).elim))));obtain ⟨it,fp,tn,It,H1,rfl,I1,T,st1,f1,ds,J1,e1,wk,w1⟩:=h2;have hsz:ds.length<=1000:=by
  by_cases z:ds.length<=1000
  ·exact z
  ·rw [if_neg z] at w1;exact w1.elim
 rw [if_pos hsz] at w1;have hm:ds.length * N<=1000 * N:=VE N hsz;have hb:ys.length + ds.length * N<=sizeLine:=RG (Nat.add_le_add_left hm _) hl;have run:=xj (Rx:=λ_ _=>False) aR hc (λv s f=>(hx v s f).elim) (LP it) hT hIf hA T (λJ' _=>aW J1 J') wk (λ_ _ _ h=>h) I1 st1 f1 (x2.trans e1) (sr.ext e1) no (aR.ext ac e1) hb w1;have run':SQ (Rb X.prog X.w) X.A (.compLoop e 1 (.ref it) acc X.env) (λr s'=>match r with | .ok f=>Q8 (Rb X.prog X.w) X.A (pure ()) (λ_ s'=>∃σ' H' J' r,Inv X Qw σ' H' s'/\Ext J2 H2 J' H'/\aW J J'/\SR c J' H' σ' r.2/\vD r.2 σ' p/\Acc J' H' (ys++r.1)/\r.1.length<=1000 * N/\Qf r) X.xe s' | .error e=>cameBackBy (Rb X.prog X.w) X.A X.env X.xe e s') s2:=Uc run λr s' h=>by
  cases r with
  | error x=>exact h.elim
  | ok f=>
  obtain ⟨_,σ',H',J',r',q1,q2,q3,q4,q5,q6,q7,q8⟩:=h;exact QJ ⟨σ',H',J',r',q1,q2,e1.j.trans q3,q4,q5,q6,RG q7 hm,q8⟩
 exact QF (wpAny_runOwn (h:=none) (start it _ _ run' (T.self _ 0 _ _ _ st1 run')))
end
noncomputable def gq (ge:G R):Ev->M (List D×Ev):=λe=>ge e >>= λr=>toD r >>= λy=>.ok ([y],e)
noncomputable def Ab (c:C) (p:Q4):Hp->Hp->List D->Prop:=λJ H ys=>∃us,H p=some (.lst us)/\J p=none/\aX c.K J ys us
theorem pR:vn (Ab c p):=⟨fun {J H J' H' ys} ⟨us,h1,h2,h3⟩ e=>⟨us,e.h _ _ h1,e.frz _ (by rw [h1];intro z;cases z) h2,h3.mono e.j⟩⟩
section
variable {X:Cx}{c:C}{p:Q4}{J2 H2:Hp}{elt:Rz}{ge:G R}
theorem yM (hp2:H2 p=none) (hp0:c.H0 p=none) (hE:PD X c elt ge):sC X c p (Ab c p) J2 H2 1 (do let _ <-call (.builtin "list.append") [.ref p,<-eval elt X.env]) (gq ge):=by
 intro Qw s σ H J env ys Qf I x2 sr no ⟨us,h1,h2,h3⟩ hl w;have hlen:ys.length=us.length:=h3.length;refine QF (RM (hE _ s σ H (λv H8=>∃J8 y,Ext J H J8 H8/\Rep c.K J8 y v/\Qf ([y],env)) I ⟨J,env,sr,aC (aI w) λr wr v J8 H8 e8 r8=>?_⟩) (λu8 s8 ⟨v8,H8,I8,r8,J8,y,e8,ry,w8⟩=>?_) λv s f=>f)
 ·obtain ⟨y,q,wr⟩:=jF wr;obtain ⟨J9,e9,_,ry⟩:=freeze e8 r8 q;exact ⟨J9,y,e9,ry,wr⟩
 have p8:H8 p=some (.lst us):=e8.h _ _ h1;have J8p:J8 p=none:=e8.frz _ (by rw [h1];intro z;cases z) h2;refine QF (RM (uu (X:=X) _ s8 σ H8 (.ref p) [v8] (.ref p) [u8] (λ_ H9=>H9=L2.upd H8 p (.lst (us++[v8]))) I8 rfl (.cons r8 .nil) ⟨_,us,v8,rfl,rfl,p8,by omega,rfl⟩) (λ_ s9 ⟨_,H9,I9,_,h9⟩=>?_) λv s f=>f);subst h9;exact QJ ⟨σ,_,J8,([y],env),I9,(x2.trans e8).other hp2 J8p,e8.j,(sr.ext e8).other J8p hp0 no,no,⟨us++[v8],bI,J8p,(h3.mono e8.j).append (.cons ry .nil)⟩,QV _,w8⟩
end
noncomputable def jf {ρ:Type}(lim n:Nat) (cap:List Nat) (gi:G (List D)) (gt:GT) (gts:G Bool) (act:Ev->M (List D×Ev)) (fin:List D->M ρ):G ρ:=λenv=>gi env >>= λds=>if ds.length<=lim then cA gt gts act ds (cE n cap env) >>= λr=>fin r.1 else .bad
section
variable {X:Cx}{c:C}
structure Bj (X:Cx) (Qv:Uo) (cap:List Nat) (Qz:Rz):Prop where
 hk:Qv.kind=.function
 hno:Fy X cap Qv=true
 hnames:(Qv.names.all λx=>!(x.2 == .local) || (Qv.names.lookup x.1 == some .local))=true
 hcl:(fQ X.env.cells Qv.names []).isSome=true
 hcap:oj X cap=true
 hloc:BJ X cap Qv=true
 hnd:xq cap=true
 hcalm:X.calm=true
 hs:∀x,SV Qz X.env x=pure x
theorem Jg {Qv:Uo}(hcl:(fQ X.env.cells Qv.names []).isSome=true) (hk:autoParam (Qv.kind=.function) zA._auto_1) (hno:autoParam (Fy X cap Qv=true) zA._auto_1) (hnames:autoParam ((Qv.names.all λx=>!(x.2 == .local) || (Qv.names.lookup x.1 == some .local))=true) zA._auto_1)
 (hcap:autoParam (oj X cap=true) zA._auto_1) (hloc:autoParam (BJ X cap Qv=true) zA._auto_1) (hnd:autoParam (xq cap=true) zA._auto_1) (hcalm:autoParam (X.calm=true) zA._auto_1) (hs:∀x,SV Qz X.env x=pure x:=by intro _;rfl):Bj X Qv cap Qz:=⟨hk,hno,hnames,hcl,hcap,hloc,hnd,hcalm,hs⟩
noncomputable def MM {ρ:Type}(c:C) (rr:Hp->Hp->Hp->ρ->V->Prop) (g:G ρ):TE:=λσ H Q=>∃J env,SR c J H σ env/\cM (g env) (λr=>∀v J' H',Ext J H J' H'->rr H J' H' r v->Q v H') c.T
noncomputable def zP {ρ:Type}(X:Cx) (c:C) (rr:Hp->Hp->Hp->ρ->V->Prop) (cm:Option (QH->Sem Unit)->Sem QH) (g:G ρ):Prop:=
 ∀{Qw:List (Q4×Obj)}{s:QL}{σ:L2.St}{H:Hp}{Q:VK}{use:Option (QH->Sem Unit)}{Q0:QH->QL->Prop},Inv X Qw σ H s->MM c rr g σ H Q->
  (∀(acc C:Q4) (m:Str->Option QH) (s':QL) (H':Hp) (fl:Flow),s'.heap.Ns C m->((C∈X.ex\/X.s₀.heap.objs.size<=C)/\C≠X.env.locals/\(∀x c,X.env.cells.lookup x=some c->c≠C)/\∀p∈X.pn++Qw,p.1≠C)->H' C=none->(∀h'',SD C s'.heap h''->Inv X Qw σ H' {s' with heap:=h''})->Q (.ref acc) H'->compPost (Rb X.prog X.w) X.A X.xe use Q0 (.ref acc) C (.ok fl) s')->
  Q8 (Rb X.prog X.w) X.A (cm use) Q0 X.xe s
noncomputable abbrev IE (X:Cx) (c:C) (cm:Option (QH->Sem Unit)->Sem QH) (g:G R):Prop:=zP X c (RR c) cm g
noncomputable abbrev yX (X:Cx) (own:List Str) (cap:List Nat) (Qv:Uo) (cl:List (Str×Q4)) (C:Q4) (s:QL) (H:Hp) (fp:List Q4) (xe:QH->QL->Prop):Cx:={fc X own cap Qv cl C s H fp with xe:=xe}
noncomputable def IX (X:Cx) (own:List Str) (cap:List Nat) (Qv:Uo) (xc:List (Str×Q4)->Q4->QL->Hp->List Q4->QH->QL->Prop):Prop:=
 ∀(cl:List (Str×Q4)) (C:Q4) (s:QL) (H:Hp) (fp:List Q4) (Qw:List (Q4×Obj)) (σ:L2.St) (H2:Hp) (s2:QL),Inv X Qw σ H2 s2->s2.heap.objs.size<=s.heap.objs.size->(∀pi σ' H' s1 h'',Inv (fc X own cap Qv cl C s H fp) pi σ' H' s1->SD C s1.heap h''->Inv X Qw σ H' {s1 with heap:=h''})->
  ∀v s',xc cl C s H fp v s'->aaj (Rb X.prog X.w) X.A (fc X own cap Qv cl C s H fp).env (λx s3=>∃m,s3.heap.Ns C m/\∀h',SD C s3.heap h'->∀cenv:Env,cenv.locals=C->Q8 (Rb X.prog X.w) X.A (passOn "comprehension.variables-let-go" x cenv:Sem QH) (λ_ _=>False) X.xe {s3 with heap:=h'}) v s'
noncomputable abbrev NX:List (Str×Q4)->Q4->QL->Hp->List Q4->QH->QL->Prop:=λ_ _ _ _ _ _ _=>False
theorem ye {own:List Str}{cap:List Nat}{Qv:Uo}:IX X own cap Qv NX:=λ_ _ _ _ _ _ _ _ _ _ _ _ _ _ f=>f.elim
theorem pT {ρ:Type}{rr:Hp->Hp->Hp->ρ->V->Prop}(own:List Str) (cap:List Nat){xc:List (Str×Q4)->Q4->QL->Hp->List Q4->QH->QL->Prop}{e Qy Qz:Rz}{ifs:List Rz}{gs:List UB}{Qv:Uo}{gi:G (List D)}{gt:GT}{gts:G Bool}{act:Ev->M (List D×Ev)}{fin:List D->M ρ}{newAcc:Sem QH}{ob:Obj}{o0:Q4->HO}{Acc:Q4->Hp->Hp->Hp->List D->Prop}{N lim:Nat}{m:Q4->Env->Sem Unit}
  (hcls:clausesOf e=⟨Qy,Qz,ifs,0⟩::gs) (hi:MC X c Qy Qz gi)
  (hnew:∀(s:QL) (Q:QH->QL->Prop) (E:QH->QL->Prop),Q (.ref s.heap.objs.size) {s with heap:=s.heap.push ob}->Q8 (Rb X.prog X.w) X.A newAcc Q E s)
  (hob:∀(h:Sa) (H:Hp),cu X.prog X.w H (h.push ob) h.objs.size (o0 h.objs.size))
  (aR:∀p H2,vn (Acc p H2)) (a0:∀(p:Q4) (H2 J H:Hp),RY < p->H p=some (o0 p)->J p=none->Acc p H2 J H [])
  (hN:lim * N<=sizeLine) (LP:∀(it p:Q4) (env:Env),qq X.prog X.w X.A e 0 (.ref it) (.ref p) env Qy ifs (m p env))
  (start:∀(it:Q4) (acc:QH) (env:Env) (R:XU->QL->Prop) (s:QL),SQ (Rb X.prog X.w) X.A (.compLoop e 0 (.ref it) acc env) R s->Q8 (Rb X.prog X.w) X.A (WR (.ref it)) (λit' s'=>SQ (Rb X.prog X.w) X.A (.compLoop e 0 it' acc env) R s') (aaj (Rb X.prog X.w) X.A env λx s'=>R (.error x) s') s->SQ (Rb X.prog X.w) X.A (.compStart e 0 (.ref it) acc env) R s)
  (nofin:∀ys z,fin ys≠.exc z) (hend:∀{p:Q4}{H2 J H J' H':Hp}{ys:List D}{r:ρ},H p=none->aW H H2->Ext J H J' H'->Acc p H2 J' H' ys->fin ys=.ok r->∃J'',Ext J H J'' H'/\rr H J'' H' r (.ref p))
  (hbody:∀(cl:List (Str×Q4)) (C:Q4) (s:QL) (H:Hp) (fp:List Q4),fQ X.env.cells Qv.names []=some cl->Bs (yX X own cap Qv cl C s H fp (xc cl C s H fp)) c Qy gt/\z_ (yX X own cap Qv cl C s H fp (xc cl C s H fp)) c ifs gts/\∀(p:Q4) (J2 H2:Hp),H2 p=none->c.H0 p=none->sC (yX X own cap Qv cl C s H fp (xc cl C s H fp)) c p (Acc p H2) J2 H2 N (m p (fc X own cap Qv cl C s H fp).env) act)
  (hxc:IX X own cap Qv xc) (a:Bj X Qv cap Qz){pos':Pos}:zP X c rr (λuse=>comprehension e Qv X.env pos' newAcc false (eval Qz X.env) use) (jf lim own.length cap gi gt gts act fin):=by
 obtain ⟨hk,hno,hnames,hcl,hcap,hloc,hnd,hcalm,hs⟩:=a;intro Qw s σ H Q use Q0 I h Pk;obtain ⟨J,env,sr,w⟩:=h;obtain ⟨cl,hcl⟩:=RE.mp hcl;have Pq:∀j∈cap,∀x,X.N[j]?=some x->ef Qv.names x=false:=λj hj x hx=>by have:=Th.mp hno j hj;rw [hx] at this;simpa using this
 have OR:∀x∈Qv.names,x.2=.local->Qv.names.lookup x.1=some .local:=λy hy z=>by have:=Th.mp hnames y hy;rw [z] at this;simpa using this
 have O9:∀j∈cap,∀x,X.N[j]?=some x->(relabel Qv X.env).names.lookup x≠some .local:=λj hj x hx z=>by have:=Th.mp hloc j hj;rw [hx] at this;simp only at this;rw [z] at this;cases this
 refine wpAny_comprehension_free (use:=use) hcls hs (uT hcl) hk OR ?_;refine bU (hi Qw s σ H (λIt H1=>∃ds J1,Ext J H J1 H1/\Walk c It ds J1 (λJ' H'=>aW J1 J'/\aW H1 H')/\
  cM (if ds.length<=lim then cA gt gts act ds (cE own.length cap env) >>= λr=>fin r.1 else .bad) (λr=>∀v J' H',Ext J H J' H'->rr H J' H' r v->Q v H') c.T) I ⟨J,env,sr,aC (aI w) λds wd It J1 H1 e1 wk=>⟨ds,J1,e1,wk,wd⟩⟩) λxv s1 h1=>bU h1 λitv s2 h2=>?_
 obtain ⟨it,fp,tn,It,H2,rfl,I2,T,st2,f2,ds,J2,e2,wk,w2⟩:=h2;have hsz:ds.length<=lim:=by
  by_cases z:ds.length<=lim
  ·exact z
  ·rw [if_neg z] at w2;exact w2.elim
 rw [if_pos hsz] at w2;have w3:=aI w2;refine hnew s2 _ _ (AR ?_);dsimp only;generalize Pc:s2.heap.push ob=Hs;have hC:Hs.objs.size=s2.heap.objs.size + 1:=by rw [<-Pc,Sh]
 have hp2:H2 s2.heap.objs.size=none:=I2.hok.fresh (QV _);have kHs:∀b o,s2.heap.get? b=some o->Hs.get? b=some o:=λb o e=>by rw [<-Pc];exact QM _ e
 have I3:Inv X Qw σ (L2.upd H2 s2.heap.objs.size (o0 s2.heap.objs.size)) {s2 with heap:=Hs,toks:=s2.toks}:=I2.laid (t':=s2.toks) kHs (QV _) (by rw [<-Pc];exact hob _ _);have f3:∀b∈fp,jn X Qw (L2.upd H2 s2.heap.objs.size (o0 s2.heap.objs.size)) b:=λb hb=>by obtain ⟨o,ho,_⟩:=T.obj _ _ st2 b hb;exact ⟨by rw [bh (Q7 (Q6 ho))];exact (f2 b hb).1,(f2 b hb).2⟩
 have hin:∀b∈fp,b < Hs.objs.size:=λb hb=>by obtain ⟨o,ho,_⟩:=T.obj _ _ st2 b hb;exact Sf (Q6 ho) (by rw [hC];exact RN _)
 obtain ⟨h₁,eh₁⟩:∃h₁,h₁=Zs (Hs.push {cls:=.type "dict",data:=.dict #[]}) Qv.names:=⟨_,rfl⟩;rw [<-eh₁];have hns₁:h₁.Ns Hs.objs.size (λ_=>none):=by rw [eh₁];exact J_ Hs Qv.names
 have ck:aa0 h₁ (Hs.objs.size + 1) (R7 (Hs.objs.size + 1) Qv.names []):=by rw [eh₁];exact BK Hs Qv.names
 have okC:=GF (own:=own) (cap:=cap) I3 hk hcl ck f3 hin;have old1:∀b o,Hs.get? b=some o->h₁.get? b=some o:=λb o e=>by rw [eh₁];exact Zu _ _ _ _ (QM _ e)
 have I4:=D6 (tk:=s2.toks) I3 okC hcl ck hcap O9 Pq hns₁ old1;have sr2:=sr.ext e2;have srA:SR c J2 (L2.upd H2 s2.heap.objs.size (o0 s2.heap.objs.size)) σ env:=sr2.ext (Ext.new e2.sub hp2 _);have J2p:J2 s2.heap.objs.size=none:=e2.sub.free hp2;have H0p:c.H0 s2.heap.objs.size=none:=sr2.hp.ent.free hp2;have nown:∀(j:Nat) (xs:Mn),(cE own.length cap env)[j]?=some (some (mS xs))->(Rw own.length none++cap.map λ(j:Nat)=>(σ[j]?).getD none)[j]?≠some (some (.ref s2.heap.objs.size)):=λj xs q z=>by obtain ⟨a,h1,h2,h3⟩:=gZ q;obtain ⟨a',h4,h5,h6⟩:=gZ z;rw [h2] at h5;cases h5;obtain ⟨p,k1,k2,_⟩:=sr2.mine h3;rw [h6] at k1;cases k1;exact k2 hp2
 obtain ⟨hT,hIf,hE⟩:=hbody cl Hs.objs.size {s2 with heap:=Hs,toks:=s2.toks} (L2.upd H2 s2.heap.objs.size (o0 s2.heap.objs.size)) fp hcl;have fpC:∀{H':Hp},(∀b∈fp,H' b=none)->∀b∈fp,jn (fc X own cap Qv cl Hs.objs.size {s2 with heap:=Hs,toks:=s2.toks} (L2.upd H2 s2.heap.objs.size (o0 s2.heap.objs.size)) fp) [] H' b:=fun {H'} hn b hb=>by
  obtain ⟨m1,_⟩:=iw Qv.names [] cl hcl (λx c h=>by simp at h);refine ⟨hn b hb,Q7 (hin b hb),λz=>?_,.inl hb,λx d h=>(fW h).elim (λh=>S7 (Q9 (hin b hb) (T_ (ck.empty _ _ (U8 h)).2))) (λh=>(f2 b hb).2.2.2.2.1 x d (m1 x d h.2)),λp hp=>absurd (show p∈([]:List (Q4×Obj)) from hp) (by simp)⟩;rcases QZ.mp (I2.stkSub b z) with e | e
  ·exact (f2 b hb).2.1 e
  ·exact (f2 b hb).2.2.1 e
 have back:∀{pi:List (Q4×Obj)}{σ':L2.St}{H':Hp}{s':QL}{h'':Sa},Inv (fc X own cap Qv cl Hs.objs.size {s2 with heap:=Hs,toks:=s2.toks} (L2.upd H2 s2.heap.objs.size (o0 s2.heap.objs.size)) fp) pi σ' H' s'->SD Hs.objs.size s'.heap h''->Inv X Qw σ H' {s' with heap:=h''}:=fun {pi σ' H' s' h''} I' sb=>by
  have B:Un (frs X.stack) fp (L2.upd H2 s2.heap.objs.size (o0 s2.heap.objs.size)) H' Hs s'.heap:=I'.base;have ne2:∀{b:Q4}{o:Obj},s2.heap.get? b=some o->b≠s2.heap.objs.size/\b≠Hs.objs.size:=fun {b o} e=>
   ⟨Q7 (Q6 e),Q7 (Sf (Q6 e) (by rw [hC];exact RN _))⟩
  have nH:∀{b:Q4}{o:HO},H2 b=some o->L2.upd H2 s2.heap.objs.size (o0 s2.heap.objs.size) b=some o:=fun {b o} e=>by rw [bh (fH e hp2)];exact e
  refine Inv.call' (ch:=fp) (s':={s' with heap:=h''}) I2 I'.os ⟨λb o e n hf hx=>?_,λb o e n hf hx=>?_,λb o e n hx=>?_,λb o e hx=>?_,λb xs e=>B.tups b xs (nH e),λb o u e=>B.frzs b o u (nH e),λb ps e=>B.tbls b ps (nH e)⟩ (yx I'.hok I'.free sb) I'.bare λb hb=>⟨(f2 b hb).2.2.2.1,(f2 b hb).2.1,(f2 b hb).2.2.2.2.1,(f2 b hb).2.2.2.2.2⟩
  ·exact (sb.2 b (ne2 e).2).trans (B.keep b o (kHs b o e) (by rw [bh (ne2 e).1];exact n) hf hx)
  ·obtain ⟨sl,z⟩:=B.slot b o (kHs b o e) (by rw [bh (ne2 e).1];exact n) hf hx;exact ⟨sl,(sb.2 b (ne2 e).2).trans z⟩
  ·exact B.free b o (kHs b o e) (by rw [bh (ne2 e).1];exact n) hx
  ·obtain ⟨o',z⟩:=B.there b o (kHs b o e) hx;exact ⟨o',(sb.2 b (ne2 e).2).trans z⟩
 have out:∀{pi:List (Q4×Obj)}{σ':L2.St}{H':Hp}{s':QL}{xe:QH->QL->Prop},Inv (yX X own cap Qv cl Hs.objs.size {s2 with heap:=Hs,toks:=s2.toks} (L2.upd H2 s2.heap.objs.size (o0 s2.heap.objs.size)) fp xe) pi σ' H' s'->Inv (fc X own cap Qv cl Hs.objs.size {s2 with heap:=Hs,toks:=s2.toks} (L2.upd H2 s2.heap.objs.size (o0 s2.heap.objs.size)) fp) pi σ' H' s':=λI=>⟨okC,I.os,I.bare,I.base,I.loc,I.cell,I.free,I.freeC,I.pin,I.hok,I.len⟩;have o:=okC;have okE:∀xe,(yX X own cap Qv cl Hs.objs.size {s2 with heap:=Hs,toks:=s2.toks} (L2.upd H2 s2.heap.objs.size (o0 s2.heap.objs.size)) fp xe).Ok:=λxe=>⟨o.mod,o.kind,o.glob,o.blt,o.above,o.inj,o.has,o.cab,o.hd,o.frames,o.stk,o.exf,o.bs,o.bsz,o.noex,o.exfs,o.funs,o.frf⟩;have run:=λ(s4:QL) (I4:Inv (fc X own cap Qv cl Hs.objs.size {s2 with heap:=Hs,toks:=s2.toks} (L2.upd H2 s2.heap.objs.size (o0 s2.heap.objs.size)) fp) [] _ _ s4) (st4:tn 0 s4.heap)=>xj (X:=yX X own cap Qv cl Hs.objs.size {s2 with heap:=Hs,toks:=s2.toks} (L2.upd H2 s2.heap.objs.size (o0 s2.heap.objs.size)) fp (xc cl Hs.objs.size {s2 with heap:=Hs,toks:=s2.toks} (L2.upd H2 s2.heap.objs.size (o0 s2.heap.objs.size)) fp)) (e:=e) (depth:=0) (acc:=.ref s2.heap.objs.size) (aR _ _) hcalm (hxc cl Hs.objs.size {s2 with heap:=Hs,toks:=s2.toks} (L2.upd H2 s2.heap.objs.size (o0 s2.heap.objs.size)) fp Qw σ H2 s2 I2 (RG (Tg _) (YX hC.symm)) λ_ _ _ _ _ I' sb=>back I' sb) (LP it _ _) hT hIf (hE s2.heap.objs.size J2 H2 hp2 H0p) T (λJ' H'=>aW J2 J'/\aW H2 H') wk (λJ' H' x _=>⟨x.j,x.h⟩) ⟨okE _,I4.os,I4.bare,I4.base,I4.loc,I4.cell,I4.free,I4.freeC,I4.pin,I4.hok,I4.len⟩ st4 (fpC λb hb=>(f3 b hb).1) (Ext.new e2.sub hp2 _) (srA.cap own.length cap (zw hnd)) nown (a0 _ _ _ _ (By I2) bI J2p) (RG (by rw [Zz,Xr];exact VE N hsz) hN) w3;have st4:=T.keep _ _ _ st2 (λb hb o e=>old1 b o (kHs b o e));have go:=Uc (run _ I4 st4) (R':=compPost (Rb X.prog X.w) X.A X.xe use Q0 (.ref s2.heap.objs.size) Hs.objs.size) λr s' h=>by
  cases r with
  | error x=>cases use <;> exact h
  | ok f=>
  obtain ⟨_,σ',H',J',r',I9,x9,j9,sr9,no9,ac9,l9,w9⟩:=h;obtain ⟨mm,hm,_⟩:=I9.loc;refine Pk s2.heap.objs.size Hs.objs.size mm _ H' _ hm (I0 I2 (by rw [hC];exact Tg _)) I9.free (λh'' sb=>back (out I9) sb) ?_;cases q:fin r'.1 with
  | bad=>rw [q] at w9;exact w9.elim
  | exc z=>rw [q] at w9;exact (nofin _ z q).elim
  | ok z=>
   rw [q] at w9;obtain ⟨J9,x10,rr⟩:=hend (e2.h.free hp2) e2.h (e2.trans x9) ac9 q;exact w9 _ J9 H' x10 rr
 exact start it _ _ _ _ go (T.self _ 0 _ _ _ st4 go)
noncomputable def u0 (X:Cx) (c:C) (e:Rz) (g:G R):Prop:=∃cm,IE X c cm g/\eval e X.env=cm none/\∀use,evalThenUse e X.env use=(do let _ <-cm (some use))
theorem fj {g:G R}(h:u0 X c e g):QD X c e g:=by obtain ⟨cm,core,hev,_⟩:=h;refine ⟨λQw s σ H Q I h=>?_⟩;rw [hev];exact core I h λacc C m s' H' fl hm hz hf hb q=>⟨m,hm,λh'' sb=>⟨.ref acc,H',hb h'' sb,rfl,q⟩⟩
theorem HU (i:Nat){g:G R}{pos' pos2:Pos}(hN:X.N.Nodup) (h:u0 X c e g) (hx:autoParam (X.N[i]?=some x) zA._auto_1) (PV:autoParam (X.env.scope.names.lookup x=some .local) zA._auto_1)
 (hsw:autoParam (Ur e (some (.Name x pos')) pos2.line X.env=pure true) zA._auto_1):iE X c (.Assign [.Name x pos'] e pos2) (aO i g):=by
 obtain ⟨cm,core,_,Pj⟩:=h;refine ⟨λQw s σ H D I ⟨J,env,sr,w⟩=>?_⟩;rw [arm_exec_Assign];refine QF (Ud ?_);rw [show VH [.Name x pos'] e pos2.line X.env=pure true from hsw];refine QF (QJ ?_);rw [if_pos rfl,Pj];refine QF (QF (core (Q:=λv H1=>∃J1 r xx,Ext J H J1 H1/\RR c H J1 H1 r v/\toS r=.ok xx/\oP c J D (.nx (env.set i (some xx)))) I ⟨J,env,sr,aC (aI w) λr wr v J1 H1 e1 r1=>?_⟩ λacc C m s' H' fl hm ap hf hb ⟨J1,r,xx,e1,r1,q1,w1⟩=>?_))
 ·obtain ⟨xx,q,wr⟩:=tV wr;exact ⟨J1,r,xx,e1,r1,q,wr⟩
 ·have I1:L2.Inv X Qw σ H' s':=hb s'.heap (YL ..);show Q8 _ _ (do UG pos';bindName X.env x (.ref acc)) _ _ _;refine QF (Ud (wpAny_bindName ?_));refine uE I1 hN hx (.inl PV) (v:=.ref acc) (u:=.ref acc) rfl (λs2 I2 ⟨a,sb,ha⟩=>?_) (.inr PV);have hac:C≠a:=λz=>by
   rcases ha with e | e
   ·exact ap.2.1 (z.trans e)
   ·exact ap.2.2.1 _ _ e z.symm
  refine ⟨m,hm.sameBut sb hac,λh2 sb2=>?_⟩;refine QJ (QJ ⟨σ.set i (some (.ref acc)),H',CH I2 ap hf sb2 (o0:=default),?_⟩);exact w1 _ J1 H' e1.j (sr.set e1 r1 q1)
end
noncomputable def wJ (n:Nat) (cap:List Nat) (gi0:G (List D)) (gt0:GT) (gts0:G Bool) (gi1:G (List D)) (gt1:GT) (gts1:G Bool) (ge:G R):G R:=jf 10000 n cap gi0 gt0 gts0 (jd gi1 gt1 gts1 (gq ge)) (λys=>.ok (.l .fresh ys))
theorem Iq (elt t0 i0 t1 i1:Rz) (f0 f1:List Rz) (Qv:Uo) (pos:Pos) (it acc:QH) (env:Env):
  WH (.ListComp elt [⟨t0,i0,f0,0⟩,⟨t1,i1,f1,0⟩] Qv pos) 0 it acc env=(do
   UG i0.pos
   match <-U_ it with
   | none=>pure (.done .next)
   | some v=>
    T6 t0 it v
    assign t0 env v
    let mut ok:=true
    for c in f0 do
     if ok then ok <-Yg c env (eval c env)
    if ok then
     let x <-eval i1 env
     UG i1.pos
     let x <-SV i1 env x
     let _ <-runOwn (.compStart (.ListComp elt [⟨t0,i0,f0,0⟩,⟨t1,i1,f1,0⟩] Qv pos) 1 (<-holding [x] (WR x)) acc env) env
    again (.compLoop (.ListComp elt [⟨t0,i0,f0,0⟩,⟨t1,i1,f1,0⟩] Qv pos) 0 it acc env)):=by rfl
theorem Lr (elt t0 i0 t1 i1:Rz) (f0 f1:List Rz) (Qv:Uo) (pos:Pos) (it acc:QH) (env:Env):
  WH (.ListComp elt [⟨t0,i0,f0,0⟩,⟨t1,i1,f1,0⟩] Qv pos) 0 it acc env=oM t0 i0 f0 it env (Ax (.ListComp elt [⟨t0,i0,f0,0⟩,⟨t1,i1,f1,0⟩] Qv pos) i1 acc env) (again (.compLoop (.ListComp elt [⟨t0,i0,f0,0⟩,⟨t1,i1,f1,0⟩] Qv pos) 0 it acc env)):=by
 rw [Iq];refine bind_congr λ_=>bind_congr λr=>?_;cases r with
 | none=>rfl
 | some v=>
  refine bind_congr λ_=>bind_congr λ_=>bind_congr λok=>?_;cases ok with
  | false=>rfl
  | true=>simp only [Ax,bind_assoc,pure_bind,if_true]
theorem Ls (elt t0 i0 t1 i1:Rz) (f0 f1:List Rz) (Qv:Uo) (pos:Pos) (it acc:QH) (env:Env):
  WH (.ListComp elt [⟨t0,i0,f0,0⟩,⟨t1,i1,f1,0⟩] Qv pos) 1 it acc env=oM t1 i1 f1 it env (do let _ <-call (.builtin "list.append") [acc,<-eval elt env]) (again (.compLoop (.ListComp elt [⟨t0,i0,f0,0⟩,⟨t1,i1,f1,0⟩] Qv pos) 1 it acc env)):=by rfl
section
variable {X:Cx}{c:C}
theorem MX (own:List Str) (cap:List Nat){Qv:Uo}{pos:Pos}{gi0 gi1:G (List D)}{gts0 gts1:G Bool}{ge:G R}(hi:Bu X c t0 i0 gi0)
 (hbody:∀(cl:List (Str×Q4)) (C:Q4) (s:QL) (H:Hp) (fp:List Q4),fQ X.env.cells Qv.names []=some cl->qy (fc X own cap Qv cl C s H fp) c t0 gt0/\sD (fc X own cap Qv cl C s H fp) c f0 gts0/\Bv (fc X own cap Qv cl C s H fp) c t1 i1 gi1/\qy (fc X own cap Qv cl C s H fp) c t1 gt1/\sD (fc X own cap Qv cl C s H fp) c f1 gts1/\QD (fc X own cap Qv cl C s H fp) c elt ge)
 (a:Bj X Qv cap i0:=by exact Jg rfl) (hs1:∀(en:Env) x,SV i1 en x=pure x:=by intro _ _;rfl):u0 X c (.ListComp elt [⟨t0,i0,f0,0⟩,⟨t1,i1,f1,0⟩] Qv pos) (wJ own.length cap gi0 gt0 gts0 gi1 gt1 gts1 ge):=by
 refine ⟨_,?_,rfl,λ_=>rfl⟩;refine pT (e:=.ListComp elt [⟨t0,i0,f0,0⟩,⟨t1,i1,f1,0⟩] Qv pos) (ob:={cls:=.type "list",dict:=none,data:=.seq ([]:List QH).toArray}) (o0:=λ_=>.lst []) (Acc:=λp _=>Ab c p) (N:=1000 * 1) (lim:=10000) (m:=λp env=>Ax (.ListComp elt [⟨t0,i0,f0,0⟩,⟨t1,i1,f1,0⟩] Qv pos) i1 (.ref p) env) own cap rfl hi.h
  (λs Q E q=>Rq q) (λh H=>⟨Rj _,[],0,.nil,QW _ rfl⟩) (λp _=>pR) (λp _ J H _ h1 h2=>⟨[],h1,h2,.nil⟩) (by decide) (λit p env=>AL (Lr ..)) (λit acc env R s h0 h=>W3 h0 h) (λys z q=>by cases q)
  (fun {p H2 J H J' H' ys r} hp _ e ⟨us,h1,h2,h3⟩ q=>by cases q;exact ⟨J',e,⟨p,us,rfl,h1,h2,hp,h3⟩⟩) (λcl C s H fp hcc=>?_) ye a
 obtain ⟨b1,b2,b3,b4,b5,b6⟩:=hbody cl C s H fp hcc;exact ⟨b1.h,b2.h,λp J2 H2 hp2 hp0=>Gw pR a.hcalm (λ_ _ f=>f) (λx=>hs1 _ x) (λit R s h0 h=>Lj h0 h) (λit=>AL (Ls ..)) b3.h b4.h b5.h (yM hp2 hp0 b6.h)⟩
end
end DL
namespace DL
open PySem PySem.Spec PyProof.Rows L2
section
variable {q:Nat->Nat->Bool}{n:Nat}
noncomputable abbrev I_ (p:Array Nat) (k:Nat):Nat:=p.getD k 0
end
end DL
namespace DL
open PySem PySem.Spec PyProof.Rows L2
variable {P R:D->Prop}
theorem GI (xs ys:List D):c7 (.tup xs) (.tup ys)=fY xs ys:=by rw [c7]
theorem za (x y:D) (xs ys:List D):fY (x::xs) (y::ys)=(c7 x y && fY xs ys):=by rw [fY]
inductive Fm where
 | b | i | s | Qu (t:Fm) | tn | tc (x r:Fm)
end DL
namespace ST
open PySem PySem.SetTable
theorem sU (xs:Array Nat) (j:Nat) (hs:xs.toList.Pairwise (· < ·)):∀(f lo hi:Nat),hi<=xs.size->lo<=hi->hi - lo<=f->(∀i,i < lo->xs.getD i 0 < j)->(∀i,hi<=i->i < xs.size->j<=xs.getD i 0)->
  below.go xs j f lo hi<=xs.size/\(∀i,i < below.go xs j f lo hi->xs.getD i 0 < j)/\∀i,below.go xs j f lo hi<=i->i < xs.size->j<=xs.getD i 0
 | 0,lo,hi,h1,h2,h3,h4,h5=>by
  have:lo=hi:=by omega
  subst this;exact ⟨h1,h4,h5⟩
 | f + 1,lo,hi,h1,h2,h3,h4,h5=>by
  have mono:∀a b,a<=b->b < xs.size->xs.getD a 0<=xs.getD b 0:=λa b hab hb=>by
   rcases Yw hab with h | h
   ·have:=UJ.mp hs a b (by simpa using Sf h hb) (by simpa using hb) h;simp [Tf,Sf h hb,hb] at this ⊢;omega
   ·rw [h];exact QV _
  unfold below.go;by_cases c:lo < hi
  ·rw [if_pos c];have hm:(lo + hi) / 2 < xs.size:=by omega
   have e:xs.getD ((lo + hi) / 2) j=xs.getD ((lo + hi) / 2) 0:=by simp [Tf,hm]
   by_cases d:xs.getD ((lo + hi) / 2) j < j
   ·simp only [d,if_true];rw [e] at d;exact sU xs j hs f _ hi h1 (by omega) (by omega) (λi hi'=>SK (mono i ((lo + hi) / 2) (by omega) hm) d) h5
   ·simp only [d,if_false];rw [e] at d;exact sU xs j hs f lo _ (by omega) (by omega) (by omega) h4 (λi hi' hs'=>RG (by omega) (mono ((lo + hi) / 2) i hi' hs'))
  ·rw [if_neg c];have:lo=hi:=by omega
   subst this;exact ⟨h1,h4,h5⟩
theorem lH (xs:Array Nat) (j:Nat) (hs:xs.toList.Pairwise (· < ·)):below xs j<=xs.size/\(∀i,i < below xs j->xs.getD i 0 < j)/\∀i,below xs j<=i->i < xs.size->j<=xs.getD i 0:=
 sU xs j hs xs.size 0 xs.size (QV _) (Rj _) (by omega) (λi h=>absurd h (Tw _)) (λi h1 h2=>by omega)
theorem below_at {xs:Array Nat}(hs:xs.toList.Pairwise (· < ·)) (h:xs[i]?=some j):below xs j=i:=by
 obtain ⟨hi,e⟩:=R4.mp h;obtain ⟨b1,b2,b3⟩:=lH xs j hs;have g:xs.getD i 0=j:=by simp [Tf,hi,e]
 rcases YM (below xs j) i with c | c | c
 ·have h1:=b3 (below xs j) (QV _) (by omega);have:=UJ.mp hs (below xs j) i (by simpa using Sf c hi) (by simpa using hi) c;simp [Tf,Sf c hi] at h1;simp at this;omega
 ·exact c
 ·have:=b2 i c;omega
theorem Dl {t:RT}(hs:t.place.toList.Pairwise (· < ·)) (h:t.place[i]?=some j):t.slot j=.live i:=by unfold slot;rw [below_at hs h];show (if (t.place[i]? == some j)=true then Slot.live i else _)=_;rw [h];simp
theorem A8 {t:RT}(hd:t.dummies=#[]) (h:j∉t.place.toList):t.slot j=.empty:=by
 unfold slot;have h1:(t.place[below t.place j]? == some j)=false:=by
  rw [beq_eq_false_iff_ne];intro z;exact h (by
   obtain ⟨hi,e⟩:=R4.mp z;rw [<-e];simp)
 have h2:has t.dummies j=false:=by rw [hd];rfl
 simp only [h1,h2,RI,if_false]
noncomputable def st (mask:Nat) (h:Int):Nat->Probe
 | 0=>({mask:=mask,place:=#[],dummies:=#[],finger:=0,led:=true,moves:=0,plain:=true}:RT).probeStart h
 | n + 1=>({mask:=mask,place:=#[],dummies:=#[],finger:=0,led:=true,moves:=0,plain:=true}:RT).advance (st mask h n)
noncomputable abbrev pos (mask:Nat) (h:Int) (n:Nat):Nat:=(st mask h n).j
theorem qe (mask:Nat) (h:Int):∀n,(st mask h n).dummy=none
 | 0=>rfl
 | n + 1=>by
  unfold st advance;split
  ·exact qe mask h n
  ·exact qe mask h n
noncomputable def tn (mask:Nat) (h:Int):Nat->Nat×Nat
 | 0=>(bits h % (mask + 1),bits h)
 | k + 1=>leap mask (tn mask h k).1 (tn mask h k).2
theorem uA (mask:Nat) (h:Int):∀(m n:Nat) (i p j:Nat),st mask h n={j:=j,more:=m,i:=i,perturb:=p,dummy:=none}->st mask h (n + m)={j:=j + m,more:=0,i:=i,perturb:=p,dummy:=none}
 | 0,n,i,p,j,e=>e
 | m + 1,n,i,p,j,e=>by
  have e1:st mask h (n + 1)={j:=j + 1,more:=m,i:=i,perturb:=p,dummy:=none}:=by show advance _ (st mask h n)=_;rw [e];unfold advance;simp
  have:=uA mask h m (n + 1) i p (j + 1) e1;rw [show n + (m + 1)=n + 1 + m by omega,this];congr 1;omega
theorem zM (mask:Nat) (h:Int):∀k,∃n,n<=10 * k/\st mask h n={j:=(tn mask h k).1,more:=runEnd mask (tn mask h k).1 - (tn mask h k).1,i:=(tn mask h k).1,perturb:=(tn mask h k).2,dummy:=none}
 | 0=>⟨0,QV _,rfl⟩
 | k + 1=>by
  obtain ⟨n,hn,e⟩:=zM mask h k;have hm:runEnd mask (tn mask h k).1 - (tn mask h k).1<=9:=by unfold runEnd;split <;> omega
  have:=uA mask h _ n _ _ _ e;refine ⟨n + (runEnd mask (tn mask h k).1 - (tn mask h k).1) + 1,by omega,?_⟩;show advance _ (st mask h (n + (runEnd mask (tn mask h k).1 - (tn mask h k).1)))=_;rw [this];unfold advance;simp;exact ⟨rfl,rfl,rfl,rfl⟩
theorem r_ (mask:Nat) (h:Int):∀k,(tn mask h k).2=bits h / 32 ^ k
 | 0=>by simp [tn]
 | k + 1=>by show (tn mask h k).2 / 32=_;rw [r_ mask h k,W4,Y5]
theorem GA (h:Int):bits h < 2 ^ 64:=by unfold bits;have:=SJ h (b:=2 ^ 64) (by decide);omega
noncomputable def Cm (mask i:Nat):Nat:=(i * 5 + 1) % (mask + 1)
noncomputable def gS (mask:Nat):Nat->Nat->Nat
 | 0,i=>i
 | r + 1,i=>Cm mask (gS mask r i)
theorem xY (mask:Nat) (h:Int):∀r,(tn mask h (12 + r)).1=gS mask r (tn mask h 12).1
 | 0=>rfl
 | r + 1=>by
  show (leap mask (tn mask h (12 + r)).1 (tn mask h (12 + r)).2).1=Cm mask (gS mask r (tn mask h 12).1);rw [<-xY mask h r,r_];unfold leap Cm;have:bits h / 32 ^ (12 + r) / 32=0:=by rw [W4,<-Y5];refine Nat.div_eq_of_lt (Q9 (GA h) ?_);refine RG (show 2 ^ 64<=32 ^ 13 by decide) (VF (by decide) (by omega))
  rw [this]
theorem MW:∀i:Fin 8,∀j:Fin 8,(QX 8).any (λr=>gS 7 r i.val == j.val)=true:=by decide +kernel
theorem LC:∀i:Fin 32,∀j:Fin 32,(QX 32).any (λr=>gS 31 r i.val == j.val)=true:=by decide +kernel
noncomputable def Jk:List Nat:=(QX 128).map λr=>gS 127 r 0
theorem yV:∀j:Fin 128,Jk.contains j.val=true:=by decide +kernel
theorem GD:gS 127 128 0=0:=by decide +kernel
theorem lU (mask:Nat):∀a b i,gS mask (a + b) i=gS mask a (gS mask b i)
 | 0,b,i=>by rw [Xr];rfl
 | a + 1,b,i=>by rw [show a + 1 + b=(a + b) + 1 by omega];show Cm mask (gS mask (a + b) i)=Cm mask (gS mask a (gS mask b i));rw [lU mask a b i]
noncomputable def kQ (mask:Nat):Prop:=mask=7\/mask=31\/mask=127
theorem BO {mask:Nat}(hm:kQ mask) (i j:Nat) (hi:i<=mask) (hj:j<=mask):∃r,r<=mask/\gS mask r i=j:=by
 rcases hm with rfl | rfl | rfl
 ·have:=MW ⟨i,by omega⟩ ⟨j,by omega⟩;rw [Uh] at this;obtain ⟨r,h1,h2⟩:=this;exact ⟨r,by have:=Rc.mp h1;omega,by simpa using h2⟩
 ·have:=LC ⟨i,by omega⟩ ⟨j,by omega⟩;rw [Uh] at this;obtain ⟨r,h1,h2⟩:=this;exact ⟨r,by have:=Rc.mp h1;omega,by simpa using h2⟩
 ·have hi':=yV ⟨i,by omega⟩;have hj':=yV ⟨j,by omega⟩;rw [Uw] at hi' hj';obtain ⟨a,ha,ea⟩:=Rg.mp hi';obtain ⟨b,hb,eb⟩:=Rg.mp hj';have ha:=Rc.mp ha;have hb:=Rc.mp hb;have ea:gS 127 a 0=i:=ea;have eb:gS 127 b 0=j:=eb;by_cases c:a<=b
  ·refine ⟨b - a,by omega,?_⟩;rw [<-ea,<-lU,show b - a + a=b by omega];exact eb
  ·refine ⟨128 + b - a,by omega,?_⟩;rw [<-ea,<-lU,show 128 + b - a + a=b + 128 by omega,lU,GD];exact eb
theorem Be (mask:Nat) (h:Int) (k:Nat):(tn mask h k).1<=mask:=by
 cases k with
 | zero=>exact Vj (Wu _ (by omega))
 | succ k=>exact Vj (Wu _ (by omega))
theorem visits {mask:Nat}(hm:kQ mask) (h:Int) (j:Nat) (hj:j<=mask):∃n,n<=10 * (mask + 12)/\pos mask h n=j:=by obtain ⟨r,hr,e⟩:=BO hm (tn mask h 12).1 j (Be mask h 12) hj;obtain ⟨n,hn,q⟩:=zM mask h (12 + r);refine ⟨n,by omega,?_⟩;show (st mask h n).j=j;rw [q];show (tn mask h (12 + r)).1=j;rw [xY,e]
theorem Aw {mask:Nat}(hm:kQ mask) (h:Int) (P:List Nat) (hP:P.length<=mask):∃n,n<=10 * (mask + 12)/\pos mask h n∉P/\∀m,m < n->pos mask h m∈P:=by
 have ex:∃j,j<=mask/\j∉P:=by
  by_cases c:∀j,j<=mask->j∈P
  ·exfalso;have:(QX (mask + 1)).length<=P.length:=Sn Vy λj hj=>c j (by have:=Rc.mp hj;omega);rw [RO] at this;omega
  ·exact S5 λz=>c λj hj=>S5 λy=>z ⟨j,hj,y⟩
 obtain ⟨j,hj,hn⟩:=ex;obtain ⟨n,hn1,hn2⟩:=visits hm h j hj;have key:∀k,k<=n->(∃m,m<=k/\pos mask h m∉P/\∀m',m' < m->pos mask h m'∈P)\/∀m,m<=k->pos mask h m∈P:=by
  intro k
  induction k with
  | zero=>
   intro _;by_cases c:pos mask h 0∈P
   ·exact .inr λm hm=>by rw [show m=0 by omega];exact c
   ·exact .inl ⟨0,QV _,c,λm' h'=>absurd h' (Tw _)⟩
  | succ k ih=>
   intro hk;rcases ih (by omega) with ⟨m,h1,h2⟩ | h1
   ·exact .inl ⟨m,by omega,h2⟩
   ·by_cases c:pos mask h (k + 1)∈P
    ·exact .inr λm hm=>by
      by_cases d:m<=k
      ·exact h1 m d
      ·rw [show m=k + 1 by omega];exact c
    ·exact .inl ⟨k + 1,QV _,c,λm' h'=>h1 m' (by omega)⟩
 rcases key n (QV _) with ⟨m,h1,h2,h3⟩ | h1
 ·exact ⟨m,by omega,h2,h3⟩
 ·exact absurd (h1 n (QV _)) (by rw [hn2];exact hn)
noncomputable def Reach (mask:Nat) (P:List Nat) (h:Int) (j:Nat):Prop:=∃n,pos mask h n=j/\∀m,m < n->pos mask h m∈P
theorem Reach.mono {mask:Nat}{P P':List Nat}{h:Int}{j:Nat}(r:Reach mask P h j) (s:∀x∈P,x∈P'):Reach mask P' h j:=
 let ⟨n,h1,h2⟩:=r;⟨n,h1,λm hm=>s _ (h2 m hm)⟩
structure Tab (t:RT) (es:Array (Int×QH)) (L:List (Nat×Int×QH)):Prop where
 dm:t.dummies=#[]
 pl:t.place.toList=L.map (·.1)
 en:es.toList=L.map (·.2)
 so:(L.map (·.1)).Pairwise (· < ·)
 bd:∀e∈L,e.1<=t.mask
 mo:kQ t.mask
 fl:L.length<=t.mask
 pr:∀e∈L,Reach t.mask (L.map (·.1)) e.2.1 e.1
section
variable {t:RT}{es:Array (Int×QH)}{L:List (Nat×Int×QH)}
theorem Tab.at_ (T:Tab t es L){i:Nat}{e:Nat×Int×QH}(h:L[i]?=some e):t.place[i]?=some e.1/\es[i]?=some e.2:=by
 constructor
 ·rw [<-Uu,T.pl,Rh,h];rfl
 ·rw [<-Uu,T.en,Rh,h];rfl
theorem Tab.sop (T:Tab t es L):t.place.toList.Pairwise (· < ·):=by rw [T.pl];exact T.so
theorem mO {α:Type}(xs:Array α) (p:Nat) (x:α) (hp:p<=xs.size):(insertAt xs p x).toList=xs.toList.take p++x::xs.toList.drop p:=by
 unfold insertAt;simp
 (exact W5 (by simp))
theorem Tab.put (T:Tab t es L) (h:Int) (x:QH) (n0:Nat) (hf:pos t.mask h n0∉L.map (·.1)) (hb:∀m,m < n0->pos t.mask h m∈L.map (·.1)) (hj:pos t.mask h n0<=t.mask) (hl:L.length + 1<=t.mask):
  ∃L',Tab (t.put (pos t.mask h n0)).1 (insertAt es (t.put (pos t.mask h n0)).2 (h,x)) L'/\L'.Perm ((pos t.mask h n0,h,x)::L):=by
 obtain ⟨b1,b2,b3⟩:=lH t.place (pos t.mask h n0) T.sop;generalize hp:below t.place (pos t.mask h n0)=p at b1 b2 b3;have hsz:t.place.size=L.length:=by rw [<-Rf,T.pl,QN]
 have hes:es.size=L.length:=by rw [<-Rf,T.en,QN]
 have perm:(L.take p++(pos t.mask h n0,h,x)::L.drop p).Perm ((pos t.mask h n0,h,x)::L):=by
  have:=WU (a:=(pos t.mask h n0,h,x)) (l₁:=L.take p) (l₂:=L.drop p)
  rwa [Ux] at this
 have e1:(t.put (pos t.mask h n0))=({t with place:=insertAt t.place p (pos t.mask h n0),dummies:=#[]},p):=by unfold SetTable.put;rw [hp,T.dm];rfl
 rw [e1];have getP:∀i (hi:i < L.length),t.place.getD i 0=L[i].1:=λi hi=>by
  have:=(T.at_ (Q5 hi)).1;have hi':i < t.place.size:=by omega
  simp [Tf,hi'];rw [Ss hi'] at this;exact RP this
 refine ⟨L.take p++(pos t.mask h n0,h,x)::L.drop p,⟨rfl,?_,?_,?_,λe he=>?_,T.mo,?_,λe he=>?_⟩,perm⟩
 ·show (insertAt t.place p (pos t.mask h n0)).toList=_;rw [mO _ _ _ b1,T.pl];simp [VI,VJ]
 ·show (insertAt es p (h,x)).toList=_;rw [mO _ _ _ (by omega),T.en];simp [VI,VJ]
 ·rw [RS,Ri,VD];refine ⟨?_,?_,?_⟩
  ·rw [VI];exact T.so.sublist (Wq _ _)
  ·rw [V_];refine ⟨λa ha=>?_,?_⟩
   ·obtain ⟨e,he,rfl⟩:=Rg.mp ha;obtain ⟨i,hi,rfl⟩:=T3.mp he;rw [YN];rw [SM] at hi;have:=b3 (p + i) (by omega) (by omega);rw [getP _ (by omega)] at this;rcases Yw this with c | c
    ·exact c
    ·exact absurd (Rg.mpr ⟨L[p + i],Ti _,c.symm⟩) hf
   ·rw [VJ];exact T.so.sublist (YK _ _)
  ·intro a ha b hb;obtain ⟨e,he,rfl⟩:=Rg.mp ha;obtain ⟨i,hi,rfl⟩:=T3.mp he;rw [List.getElem_take];rw [Sv] at hi;have h1:=b2 i (by omega);rw [getP _ (by omega)] at h1
   (rcases QZ.mp hb with rfl | hb)
   ·exact h1
   ·obtain ⟨e,he,rfl⟩:=Rg.mp hb;obtain ⟨k,hk,rfl⟩:=T3.mp he;rw [YN];rw [SM] at hk;have:=b3 (p + k) (by omega) (by omega);rw [getP _ (by omega)] at this;omega
 ·rcases QZ.mp (perm.mem_iff.mp he) with rfl | he
  ·exact hj
  ·exact T.bd e he
 ·rw [perm.length_eq];exact hl
 ·have sub:∀y∈L.map (·.1),y∈(L.take p++(pos t.mask h n0,h,x)::L.drop p).map (·.1):=λy hy=>by obtain ⟨e,he,rfl⟩:=Rg.mp hy;exact Rg.mpr ⟨e,perm.mem_iff.mpr (QO _ he),rfl⟩
  rcases QZ.mp (perm.mem_iff.mp he) with rfl | he
  ·exact ⟨n0,rfl,λm hm=>sub _ (hb m hm)⟩
  ·exact (T.pr e he).mono sub
end
theorem lC (mask:Nat) (h:Int) (n i p m:Nat) (e:st mask h n={j:=i,more:=m,i:=i,perturb:=p,dummy:=none}):∀r,r<=m->st mask h (n + r)={j:=i + r,more:=m - r,i:=i,perturb:=p,dummy:=none}
 | 0,_=>e
 | r + 1,hr=>by show advance _ (st mask h (n + r))=_;rw [lC mask h n i p m e r (by omega)];unfold advance;rw [if_pos (by show m - r > 0;omega)];show Probe.mk _ _ _ _ _=_;congr 1
theorem Dy (mask:Nat) (h:Int) (k n:Nat) (e:st mask h n={j:=(tn mask h k).1,more:=runEnd mask (tn mask h k).1 - (tn mask h k).1,i:=(tn mask h k).1,perturb:=(tn mask h k).2,dummy:=none}):
  st mask h (n + (runEnd mask (tn mask h k).1 - (tn mask h k).1) + 1)={j:=(tn mask h (k + 1)).1,more:=runEnd mask (tn mask h (k + 1)).1 - (tn mask h (k + 1)).1,i:=(tn mask h (k + 1)).1,perturb:=(tn mask h (k + 1)).2,dummy:=none}:=by show advance _ (st mask h (n + (runEnd mask (tn mask h k).1 - (tn mask h k).1)))=_;rw [lC mask h n _ _ _ e _ (QV _)];unfold advance;simp;exact ⟨rfl,rfl,rfl,rfl⟩
theorem ue (mask:Nat) (h:Int) (owner:Array (Option Nat)) (G:List Nat) (ho:∀j,j<=mask->((owner.getD j (some 0)).isNone=true↔j∉G)):
  ∀(f k n:Nat),st mask h n={j:=(tn mask h k).1,more:=runEnd mask (tn mask h k).1 - (tn mask h k).1,i:=(tn mask h k).1,perturb:=(tn mask h k).2,dummy:=none}->(∀m,m < n->pos mask h m∈G)->
   (∃n',layClean.free mask owner f (tn mask h k).1 (tn mask h k).2=some (pos mask h n')/\pos mask h n'<=mask/\pos mask h n'∉G/\∀m,m < n'->pos mask h m∈G)\/(layClean.free mask owner f (tn mask h k).1 (tn mask h k).2=none/\∀r,r < f->(tn mask h (k + r)).1∈G)
 | 0,k,n,e,hb=>.inr ⟨rfl,λr hr=>absurd hr (Tw _)⟩
 | f + 1,k,n,e,hb=>by
  have hi:=Be mask h k;have re:runEnd mask (tn mask h k).1<=mask/\(tn mask h k).1<=runEnd mask (tn mask h k).1:=by unfold runEnd;split <;> omega
  unfold layClean.free;cases q:(QX (runEnd mask (tn mask h k).1 + 1 - (tn mask h k).1)).find? λr=>(owner.getD ((tn mask h k).1 + r) (some 0)).isNone with
  | some r=>
   have h1:=ZA q;have h2:=Rc.mp (Wg q);have h3:pos mask h (n + r)=(tn mask h k).1 + r:=by show (st mask h (n + r)).j=_;rw [lC mask h n _ _ _ e r (by omega)]
   refine .inl ⟨n + r,?_,?_,?_,?_⟩
   ·show some _=_;rw [h3]
   ·rw [h3];omega
   ·rw [h3];exact (ho _ (by omega)).mp h1
   ·intro m hm;by_cases c:m < n
    ·exact hb m c
    ·obtain ⟨s,rfl⟩:∃s,m=n + s:=⟨m - n,by omega⟩;have h4:pos mask h (n + s)=(tn mask h k).1 + s:=by show (st mask h (n + s)).j=_;rw [lC mask h n _ _ _ e s (by omega)]
     rw [h4];refine S5 λz=>?_;have z':=(ho ((tn mask h k).1 + s) (by omega)).mpr z;rw [List.find?_eq_some_iff_append] at q;obtain ⟨_,as,bs,eq,hall⟩:=q;have hs:s∈as:=by
      have hlen:as.length=r:=by
       have hl:as.length < (QX (runEnd mask (tn mask h k).1 + 1 - (tn mask h k).1)).length:=by rw [eq];simp
       have e3:(QX (runEnd mask (tn mask h k).1 + 1 - (tn mask h k).1))[as.length]?=some r:=by rw [eq];simp
       rw [RO] at hl;rw [VU hl] at e3;exact RP e3
      have e4:(QX (runEnd mask (tn mask h k).1 + 1 - (tn mask h k).1))[s]?=some s:=VU (by omega);rw [eq,SY (by omega)] at e4;exact TZ e4
     have:=hall s hs;rw [z'] at this;exact absurd this (by decide)
  | none=>
   have hall:=Yx.mp q;have occ:∀s,s<=runEnd mask (tn mask h k).1 - (tn mask h k).1->(tn mask h k).1 + s∈G:=λs hs=>S5 λz=>by have z':=(ho ((tn mask h k).1 + s) (by omega)).mpr z;exact hall s (Rc.mpr (by omega)) z'
   have nb:∀m,m < n + (runEnd mask (tn mask h k).1 - (tn mask h k).1) + 1->pos mask h m∈G:=λm hm=>by
    by_cases c:m < n
    ·exact hb m c
    ·obtain ⟨s,rfl⟩:∃s,m=n + s:=⟨m - n,by omega⟩;have h4:pos mask h (n + s)=(tn mask h k).1 + s:=by show (st mask h (n + s)).j=_;rw [lC mask h n _ _ _ e s (by omega)]
     rw [h4];exact occ s (by omega)
   rcases ue mask h owner G ho f (k + 1) _ (Dy mask h k n e) nb with ⟨n',g1,g2',g3⟩ | ⟨g1,g2'⟩
   ·exact .inl ⟨n',g1,g2',g3⟩
   ·refine .inr ⟨g1,λr hr=>?_⟩;cases r with
    | zero=>have:=occ 0 (Rj _);exact this
    | succ r=>have:=g2' r (by omega);rwa [show k + (r + 1)=k + 1 + r by omega]
theorem GL {mask:Nat}(hm:kQ mask) (h:Int) (owner:Array (Option Nat)) (G:List Nat) (hG:G.length<=mask) (ho:∀j,j<=mask->((owner.getD j (some 0)).isNone=true↔j∉G)):
  ∃n',layClean.free mask owner (turns mask) (bits h % (mask + 1)) (bits h)=some (pos mask h n')/\pos mask h n'<=mask/\pos mask h n'∉G/\∀m,m < n'->pos mask h m∈G:=by
 rcases ue mask h owner G ho (turns mask) 0 0 rfl (λm hm=>absurd hm (Tw _)) with a | ⟨_,b⟩
 ·exact a
 ·exfalso;have all:∀j,j<=mask->j∈G:=λj hj=>by obtain ⟨r,hr,e⟩:=BO hm (tn mask h 12).1 j (Be mask h 12) hj;have:=b (12 + r) (by unfold turns;omega);rw [Xr,xY,e] at this;exact this
  have:(QX (mask + 1)).length<=G.length:=Sn Vy λj hj=>all j (by have:=Rc.mp hj;omega);rw [RO] at this;omega
structure Own (mask:Nat) (owner:Array (Option Nat)) (G:List Nat) (hs:List Int):Prop where
 sz:owner.size=mask + 1
 ln:G.length=hs.length
 nd:G.Nodup
 bd:∀j∈G,j<=mask
 at_:∀j,j<=mask->owner.getD j none=if j∈G then some (G.idxOf j) else none
 pr:∀k (h1:k < G.length) (h2:k < hs.length),Reach mask G hs[k] G[k]
theorem Own.occ {mask:Nat}{owner:Array (Option Nat)}{G:List Nat}{hs:List Int}(O:Own mask owner G hs):∀j,j<=mask->((owner.getD j (some 0)).isNone=true↔j∉G):=λj hj=>by
 have e:owner.getD j (some 0)=owner.getD j none:=by
  have:j < owner.size:=by rw [O.sz];omega
  simp [Tf,this]
 rw [e,O.at_ j hj];split <;> simp_all
theorem Own.step {mask:Nat}{owner:Array (Option Nat)}{G:List Nat}{hs:List Int}(O:Own mask owner G hs) (hm:kQ mask) (hl:hs.length<=mask) (h:Int):
  ∃j,layClean.free mask owner (turns mask) (bits h % (mask + 1)) (bits h)=some j/\Own mask (owner.setIfInBounds j (some hs.length)) (G++[j]) (hs++[h]):=by
 obtain ⟨n',e,b,f,r⟩:=GL hm h owner G (by rw [O.ln];exact hl) O.occ;refine ⟨_,e,⟨by rw [Array.size_setIfInBounds,O.sz],by simp [O.ln],?_,λj hj=>?_,λj hj=>?_,λk h1 h2=>?_⟩⟩
 ·rw [List.nodup_append];refine ⟨O.nd,by simp,λa ha b hb=>?_⟩;rw [QK] at hb;subst hb;intro z;subst z;exact f ha
 ·rcases Rl.mp hj with h1 | h1
  ·exact O.bd j h1
  ·rw [QK.mp h1];exact b
 ·have hsz:j < owner.size:=by rw [O.sz];omega
  by_cases c:j=pos mask h n'
  ·subst c;rw [if_pos (by simp)];simp [Tf,hsz];rw [YO,if_neg f];simp [O.ln]
  ·have e1:(owner.setIfInBounds (pos mask h n') (some hs.length)).getD j none=owner.getD j none:=by simp [Tf,hsz];rw [Array.getElem_setIfInBounds_ne];exact λz=>c z.symm
   rw [e1,O.at_ j hj];by_cases d:j∈G
   ·rw [if_pos d,if_pos (Sl _ d),YO,if_pos d]
   ·rw [if_neg d,if_neg (by simp [d,c])]
 ·have sub:∀x∈G,x∈G++[pos mask h n']:=λx hx=>Sl _ hx;by_cases c:k < G.length
  ·have:=(O.pr k c (by rw [<-O.ln];exact c)).mono sub;rw [Wv c,Wv (by rw [<-O.ln];exact c)];exact this
  ·have hk:k=G.length:=by simp at h1;omega
   subst hk;have e1:(G++[pos mask h n'])[G.length]=pos mask h n':=by simp
   have e2:(hs++[h])[G.length]=h:=by simp [O.ln]
   rw [e1,e2];exact ⟨n',rfl,λm hm=>sub _ (r m hm)⟩
theorem wZ {mask:Nat}(hm:kQ mask):∀(rest hs:List Int) (owner:Array (Option Nat)) (G:List Nat),Own mask owner G hs->(hs++rest).length<=mask->∃owner' G',rest.foldl (λacc h=>do
  let (owner,k) <-acc
  let j <-layClean.free mask owner (turns mask) (bits h % (mask + 1)) (bits h)
  pure (owner.setIfInBounds j (some k),k + 1)) (some (owner,hs.length))=some (owner',(hs++rest).length)/\Own mask owner' G' (hs++rest)
 | [],hs,owner,G,O,_=>⟨owner,G,by simp,by simpa using O⟩
 | h::rest,hs,owner,G,O,hl=>by
  obtain ⟨j,e,O'⟩:=O.step hm (by simp at hl;omega) h;obtain ⟨owner',G',e2,O2⟩:=wZ hm rest (hs++[h]) _ _ O' (by simpa using hl);refine ⟨owner',G',?_,by simpa using O2⟩;rw [VV];have e3:(do
   let (owner,k) <-some (owner,hs.length)
   let j <-layClean.free mask owner (turns mask) (bits h % (mask + 1)) (bits h)
   pure (owner.setIfInBounds j (some k),k + 1):Option (Array (Option Nat)×Nat))=some (owner.setIfInBounds j (some hs.length),(hs++[h]).length):=by show Option.bind (layClean.free mask owner (turns mask) (bits h % (mask + 1)) (bits h)) _=_;rw [e];simp
  rw [e3];simpa using e2
theorem Hj (mask:Nat):Own mask (Array.replicate (mask + 1) none) [] []:=
 ⟨by simp,rfl,UH,λj h=>absurd h (by simp),λj hj=>by simp [Tf],λk h1=>absurd h1 (by simp)⟩
theorem Ck {mask:Nat}(hm:kQ mask) (hs:Array Int) (hl:hs.size<=mask):∃owner G,layClean mask hs=some owner/\Own mask owner G hs.toList:=by obtain ⟨owner,G,e,O⟩:=wZ hm hs.toList [] _ [] (Hj mask) (by simpa using hl);refine ⟨owner,G,?_,by simpa using O⟩;unfold layClean;rw [<-Array.foldl_toList];have e':=congrArg (Option.map (·.1)) e;exact e'
theorem G3 {t:RT}{es:Array (Int×QH)}{mask:Nat}(hm:kQ mask) (finger moves:Nat) (led plain:Bool) (hl:es.size<=mask):
  ∃t' QE L',laid mask finger moves led plain (es.map (·.1))=some (t',QE)/\t'.mask=mask/\t'.led=led/\t'.plain=plain/\Tab t' (QE.filterMap (es[·]?)) L'/\(QE.filterMap (es[·]?)).toList.Perm es.toList:=by
 obtain ⟨owner,G,e,O⟩:=Ck hm (es.map (·.1)) (by simpa using hl);have hlen:G.length=es.size:=by rw [O.ln];simp
 (let live:=(QX (mask + 1)).filterMap λj=>(owner.getD j none).map (j,·))
 have lv:∀p,p∈live↔p.1∈G/\p.2=G.idxOf p.1:=λp=>by
  show p∈(QX (mask + 1)).filterMap _↔_;rw [UZ];constructor
  ·rintro ⟨j,hj,q⟩;have hj':j<=mask:=by have:=Rc.mp hj;omega
   rw [O.at_ j hj'] at q;by_cases c:j∈G
   ·rw [if_pos c] at q;have q:(j,G.idxOf j)=p:=by simpa using q
    subst q;exact ⟨c,rfl⟩
   ·rw [if_neg c] at q;exact absurd q (by simp)
  ·rintro ⟨h1,h2⟩;refine ⟨p.1,Rc.mpr (by have:=O.bd _ h1;omega),?_⟩;rw [O.at_ _ (O.bd _ h1),if_pos h1];show some (p.1,G.idxOf p.1)=some p;rw [<-h2]
 have so1:live.Pairwise λa b=>a.1 < b.1:=by
  show ((QX (mask + 1)).filterMap _).Pairwise _;rw [WI];refine TH.imp ?_;intro a b hab x hx y hy;cases q1:owner.getD a none with
  | none=>rw [q1] at hx;exact absurd hx (by simp)
  | some k1=>cases q2:owner.getD b none with
   | none=>rw [q2] at hy;exact absurd hy (by simp)
   | some k2=>
    rw [q1] at hx;rw [q2] at hy;have hx:(a,k1)=x:=by simpa using hx
    have hy:(b,k2)=y:=by simpa using hy
    subst hx;subst hy;exact hab
 have ord:(live.map (·.2)).Perm (QX es.size):=by
  rw [UE _ Vy]
  ·intro k;rw [Rg,Rc];constructor
   ·rintro ⟨p,hp,rfl⟩;obtain ⟨h1,h2⟩:=(lv p).mp hp;rw [h2,<-hlen];exact R0 h1
   ·intro hk;rw [<-hlen] at hk;exact ⟨(G[k],k),(lv _).mpr ⟨Ti _,(O.nd.idxOf_getElem k hk).symm⟩,rfl⟩
  ·show (live.map (·.2)).Pairwise _;rw [T9];refine (Xs.mp so1).imp ?_;rintro a b ⟨ha,hb,hab⟩ z;obtain ⟨a1,a2⟩:=(lv a).mp ha;obtain ⟨b1,b2⟩:=(lv b).mp hb;rw [a2,b2] at z;have ga:=Ul (R0 a1);have gb:=Ul (R0 b1);have:a.1=b.1:=by rw [<-ga,<-gb];congr 1
   omega
 have inR:∀p∈live,∃h:p.2 < es.size,True:=λp hp=>by have:p.2∈live.map (·.2):=Rg.mpr ⟨p,hp,rfl⟩;exact ⟨Rc.mp (ord.mem_iff.mp this),trivial⟩
 let L':=live.map λp=>(p.1,es.getD p.2 default)
 have eL:(live.map (·.2)).toArray.filterMap (es[·]?)=(L'.map (·.2)).toArray:=by
  rw [List.filterMap_toArray];congr 1;show ZU _ (live.map _)=(live.map _).map _;rw [Yj,R3];have:∀(l:List (Nat×Nat)),(∀p∈l,p∈live)->ZU ((λx=>es[x]?) ∘ λx=>x.snd) l=Yy ((λx=>x.snd) ∘ λp=>(p.fst,es.getD p.snd default)) l:=by
   intro l
   induction l with
   | nil=>intro _;rfl
   | cons p l ih=>
    intro hl;obtain ⟨hp,_⟩:=inR p (hl p (by simp));rw [Ww (b:=es.getD p.2 default)]
    ·rw [Ri,ih λq hq=>hl q (by simp [hq])];rfl
    ·show es[p.2]?=_;simp [Tf,hp]
  exact this live λp hp=>hp
 have eP:L'.map (·.1)=live.map (·.1):=by show (live.map _).map _=_;rw [R3];rfl
 have memP:∀j,j∈live.map (·.1)↔j∈G:=λj=>by
  rw [Rg];constructor
  ·rintro ⟨p,hp,rfl⟩;exact ((lv p).mp hp).1
  ·intro h;exact ⟨(j,G.idxOf j),(lv _).mpr ⟨h,rfl⟩,rfl⟩
 have lenL:L'.length=es.size:=by have:=ord.length_eq;rw [QN,RO] at this;show (live.map _).length=_;rw [QN,this]
 refine ⟨{mask,place:=(live.map (·.1)).toArray,dummies:=#[],finger,led,moves,plain},(live.map (·.2)).toArray,L',?_,rfl,rfl,rfl,⟨rfl,?_,?_,?_,λx hx=>?_,hm,?_,λx hx=>?_⟩,?_⟩
 ·unfold laid;rw [e];rfl
 ·show (live.map (·.1)).toArray.toList=_;rw [eP]
 ·rw [eL]
 ·rw [eP,T9];exact so1
 ·obtain ⟨p,hp,rfl⟩:=Rg.mp hx;exact O.bd _ ((lv p).mp hp).1
 ·show L'.length<=mask;rw [lenL];exact hl
 ·obtain ⟨p,hp,rfl⟩:=Rg.mp hx;obtain ⟨h1,h2⟩:=(lv p).mp hp;obtain ⟨hs,_⟩:=inR p hp;have r:=O.pr p.2 (by omega) (by simpa using hs);have e1:G[p.2]'(by omega)=p.1:=by have:=Ul (R0 h1);rw [<-this];congr 1
  have e2:((es.map (·.1)).toList[p.2]'(by simpa using hs))=(es.getD p.2 default).1:=by simp [Tf,hs]
  rw [e1,e2] at r;show Reach mask (L'.map (·.1)) (es.getD p.2 default).1 p.1;refine r.mono λy hy=>?_;rw [eP];exact (memP y).mpr hy
 ·rw [eL];show (L'.map (·.2)).Perm es.toList;have e1:(live.map (·.2)).map (λk=>es.getD k default)=L'.map (·.2):=by show _=(live.map _).map _;rw [R3,R3];rfl
  rw [<-e1];refine (ord.map _).trans ?_;have:(QX es.size).map (λk=>es.getD k default)=es.toList:=by refine UO (by simp) λi h1 h2=>?_;simp at h1;simp [Tf,h1]
  rw [this]
theorem Dc {t:RT}{es:Array (Int×QH)}(hm:kQ (sizeAbove w - 1)) (hl:es.size<=sizeAbove w - 1):
  ∃t' QE L',t.relaid (es.map (·.1)) w=some (t',QE)/\t'.mask=sizeAbove w - 1/\t'.led=t.led/\t'.plain=t.plain/\Tab t' (QE.filterMap (es[·]?)) L'/\(QE.filterMap (es[·]?)).toList.Perm es.toList:=
 G3 (t:=t) hm t.finger (t.movedTo (sizeAbove w - 1)) t.led t.plain hl
end ST
namespace DL
open PySem PySem.Spec PyProof.Rows L2
end DL
namespace DL
open PySem PySem.Spec PyProof.Rows L2 ST
theorem c8 {t:RT}{es:Array (Int×QH)}(T:Tab t es L):t.fits es.size=true:=by
 have h1:t.place.size=L.length:=by rw [<-Rf,T.pl,QN]
 have h2:es.size=L.length:=by rw [<-Rf,T.en,QN]
 have h3:t.fill=L.length:=by unfold aal;rw [T.dm,h1];rfl
 unfold SetTable.fits;rw [h1,h2,h3];simp [T.fl]
end DL
namespace DL
open PySem PySem.Spec PyProof.Rows L2 DX
open Classical in
noncomputable def KD:Type:={d:D // isKey d=true/\dep d<=8}
noncomputable instance:DecidableEq KD:=λa b=>aam (a=b)
end DL
namespace DL
open PySem PySem.Spec PyProof.Rows L2 ST
theorem BS (mask i:Nat) (h:i<=mask):i + (ZC mask i - i)<=mask:=by unfold ZC;split <;> omega
theorem Gb (mask:Nat) (h:Int):∀n,(ST.st mask h n).j + (ST.st mask h n).more<=mask
 | 0=>BS mask _ (Vj (Wu _ (by omega)))
 | n + 1=>by
  have ih:=Gb mask h n;show (WV _ (ST.st mask h n)).j + (WV _ (ST.st mask h n)).more<=mask;unfold WV;split
  ·dsimp only;omega
  ·exact BS mask _ (Vj (Wu _ (by omega)))
theorem CO (mask:Nat) (h:Int) (n:Nat):ST.pos mask h n<=mask:=by have:=Gb mask h n;show (ST.st mask h n).j<=mask;omega
theorem Gs:Um 20=32:=by decide +kernel
theorem Gu:Um 76=128:=by decide +kernel
theorem tU {es:Array (Int×QH)}{L:List (Nat×Int×QH)}(T:Tab t es L):L.length=es.size:=by rw [<-Rf,T.en,QN]
end DL
namespace DL
open PySem PySem.Spec PyProof.Rows L2 ST PySem.SetTable
section
variable {t:RT}{es:Array (Int×QH)}{L:List (Nat×Int×QH)}
theorem rG (T:Tab t es L) (h:Int) (n0:Nat) (hf:pos t.mask h n0∉L.map (·.1)) (hb:∀m,m < n0->pos t.mask h m∈L.map (·.1)):
  ∀(d n F:Nat),n0 - n=d->n<=n0->d < F->probe.go t (λ_=>h + 1) h F (st t.mask h n)=some (.empty (pos t.mask h n0) none)
 | d,n,0,_,_,h=>absurd h (Tw _)
 | d,n,F + 1,hd,hn,hF=>by
  by_cases c:n=n0
  ·subst c;unfold probe.go;rw [A8 T.dm (by rw [T.pl];exact hf)];show some (Met.empty _ (st t.mask h n).dummy)=_;rw [qe]
  ·obtain ⟨e,he,ej⟩:=Rg.mp (hb n (by omega));obtain ⟨i,hi,rfl⟩:=T3.mp he;have hs:t.slot (pos t.mask h n)=.live i:=Dl T.sop (by rw [(T.at_ (Q5 hi)).1,ej]);have eg:probe.go t (λ_=>h + 1) h (F + 1) (st t.mask h n)=probe.go t (λ_=>h + 1) h F (st t.mask h (n + 1)):=by rw [probe.go,hs];show (if (h + 1 == h)=true then _ else _)=_;rw [if_neg (by rw [beq_iff_eq];omega)];rfl
   rw [eg];exact rG T h n0 hf hb (n0 - (n + 1)) (n + 1) F rfl (by omega) (by omega)
theorem BZ (T:Tab t es L) (h:Int) (n0:Nat) (hf:pos t.mask h n0∉L.map (·.1)) (hb:∀m,m < n0->pos t.mask h m∈L.map (·.1)) (hn0:n0<=10 * (t.mask + 12)):t.freeSlot h=some (pos t.mask h n0,false):=by have e:t.probe (λ_=>h + 1) h (t.probeStart h)=some (.empty (pos t.mask h n0) none):=rG T h n0 hf hb n0 0 (10 * turns t.mask) rfl (Rj _) (by unfold turns;omega);unfold SetTable.freeSlot;rw [e];rfl
theorem G4 (T:Tab t es L) (h:Int) (x:QH) (n0:Nat) (hf:pos t.mask h n0∉L.map (·.1)) (hb:∀m,m < n0->pos t.mask h m∈L.map (·.1)) (hn0:n0<=10 * (t.mask + 12)) (hl:L.length + 1<=t.mask):
  layNew t es h x=(insertAt es (t.put (pos t.mask h n0)).2 (h,x),(t.put (pos t.mask h n0)).1,false,false):=by obtain ⟨L',T',_⟩:=T.put h x n0 hf hb (CO _ _ _) hl;have fit:=c8 T';unfold layNew;rw [BZ T h n0 hf hb hn0];dsimp only;unfold SetTable.orStandIn;rw [fit];rfl
theorem Ep {mask finger moves:Nat}{led plain:Bool}{t':RT}{QE:Array Nat}(hm:kQ mask) (hl:es.size<=mask) (e:laid mask finger moves led plain (es.map (·.1))=some (t',QE)):QE.toList.Perm (QX es.size):=by
 obtain ⟨owner,G,e0,O⟩:=Ck hm (es.map (·.1)) (by simpa using hl);have hlen:G.length=es.size:=by rw [O.ln];simp
 (let live:=(QX (mask + 1)).filterMap λj=>(owner.getD j none).map (j,·))
 have lv:∀p,p∈live↔p.1∈G/\p.2=G.idxOf p.1:=λp=>by
  show p∈(QX (mask + 1)).filterMap _↔_;rw [UZ];constructor
  ·rintro ⟨j,hj,q⟩;have hj':j<=mask:=by have:=Rc.mp hj;omega
   rw [O.at_ j hj'] at q;by_cases c:j∈G
   ·rw [if_pos c] at q;have q:(j,G.idxOf j)=p:=by simpa using q
    subst q;exact ⟨c,rfl⟩
   ·rw [if_neg c] at q;exact absurd q (by simp)
  ·rintro ⟨h1,h2⟩;refine ⟨p.1,Rc.mpr (by have:=O.bd _ h1;omega),?_⟩;rw [O.at_ _ (O.bd _ h1),if_pos h1];show some (p.1,G.idxOf p.1)=some p;rw [<-h2]
 have so1:live.Pairwise λa b=>a.1 < b.1:=by
  show ((QX (mask + 1)).filterMap _).Pairwise _;rw [WI];refine TH.imp ?_;intro a b hab x hx y hy;cases q1:owner.getD a none with
  | none=>rw [q1] at hx;exact absurd hx (by simp)
  | some k1=>cases q2:owner.getD b none with
   | none=>rw [q2] at hy;exact absurd hy (by simp)
   | some k2=>
    rw [q1] at hx;rw [q2] at hy;have hx:(a,k1)=x:=by simpa using hx
    have hy:(b,k2)=y:=by simpa using hy
    subst hx;subst hy;exact hab
 have ord:(live.map (·.2)).Perm (QX es.size):=by
  rw [UE _ Vy]
  ·intro k;rw [Rg,Rc];constructor
   ·rintro ⟨p,hp,rfl⟩;obtain ⟨h1,h2⟩:=(lv p).mp hp;rw [h2,<-hlen];exact R0 h1
   ·intro hk;rw [<-hlen] at hk;exact ⟨(G[k],k),(lv _).mpr ⟨Ti _,(O.nd.idxOf_getElem k hk).symm⟩,rfl⟩
  ·show (live.map (·.2)).Pairwise _;rw [T9];refine (Xs.mp so1).imp ?_;rintro a b ⟨ha,hb,hab⟩ z;obtain ⟨a1,a2⟩:=(lv a).mp ha;obtain ⟨b1,b2⟩:=(lv b).mp hb;rw [a2,b2] at z;have ga:=Ul (R0 a1);have gb:=Ul (R0 b1);have:a.1=b.1:=by rw [<-ga,<-gb];congr 1
   omega
 unfold laid at e;rw [e0] at e;have e1:(live.map (·.2)).toArray=QE:=by have:=RP e;exact congrArg Prod.snd this
 rw [<-e1];exact ord
theorem Dd (hm:kQ (sizeAbove w - 1)) (hl:es.size<=sizeAbove w - 1):∃t' es' L',relayAll t es w=(es',t',false)/\t'.mask=sizeAbove w - 1/\t'.led=t.led/\t'.plain=t.plain/\Tab t' es' L'/\es'.toList.Perm es.toList:=by
 obtain ⟨t',QE,L',e1,e2,e3,e4,e5,e6⟩:=Dc (t:=t) (es:=es) hm hl;have od:QE.toList.Perm (QX es.size):=Ep hm hl e1;refine ⟨t',QE.filterMap (es[·]?),L',?_,e2,e3,e4,e5,e6⟩;unfold relayAll;rw [e1];dsimp only;have c1:coversAll QE es.size=true:=by unfold coversAll;exact List.isPerm_iff.mpr od
 rw [c1,c8 e5];rfl
end
end DL
namespace DL
open PySem PySem.Spec PyProof.Rows L2 ST
theorem Ds:Xu (.type "tuple") (.type "set")=pure false:=by rw [UK];kernel_rfl
theorem Dr:Xu (.type "tuple") (.type "frozenset")=pure false:=by rw [UK];kernel_rfl
theorem Cj:Xu (.type "list") (.type "set")=pure false:=by rw [UK];kernel_rfl
theorem Ci:Xu (.type "list") (.type "frozenset")=pure false:=by rw [UK];kernel_rfl
noncomputable abbrev fN (led:Bool):Obj:={cls:=.type "set",dict:=none,data:=.set #[] 0 (.fresh 0 0 led)}
noncomputable abbrev dF (w:Ro):Bool:=!w.params.followText "set-order"
section
variable {prog:Q2}{w:Ro}{A:RA}{E:QH->QL->Prop}{s:QL}{K:QG}{J:Hp}
theorem E1 (a:QH){Q₁:QH->QL->Prop}(h:Q₁ (.ref s.heap.objs.size) {s with heap:=s.heap.push (fN (dF w))}):
  (SQ (Rb prog w) A (.call (.builtin "set.__new__") ⟨[.type "set",a],[]⟩) (wants Q₁ E) s):=by
 refine (V0 ?_)
 (show Q8 _ A.in1 (do Vw "set.__new__" ⟨[.type "set",a],[]⟩;again (.builtin "set.__new__" ⟨[.type "set",a],[]⟩)) _ _ s)
 refine QF (US (PySem.F.newCall_set_1 a) (QJ ⟨S4 ZD _,So F.entry_set_new ?_⟩))
 (rw [RW ZD _])
 (unfold WB.«set.__new__» ZH)
 have hsub:=sub_set_self
 (obtain ⟨hp,g,d,tk,os⟩:=s)
 dsimp only
 wp_walk
 (refine SO (QJ ?_))
 dsimp only;simp only [newObj]
 (refine QF (Zt (QJ ?_)))
 exact QJ h
noncomputable def DK (prog:Q2) (w:Ro) (A:RA) (E:QH->QL->Prop) (s:QL) (l:Q4) (items:Array QH):Prop:=
 ∃(I:Q4) (fp:List Q4) (St:Nat->QL->Prop) (h2:Sa),WalksS prog w A.in1.in1.in1 I fp [I] (λa b=>b=a) items.size (λi v=>items[i]?=some v) St/\s.heap.objs.size∉fp/\s.heap.objs.size < I/\St 0 {s with heap:=h2}/\(∀b o,(s.heap.push (fN (dF w))).get? b=some o->h2.get? b=some o)/\
  ∀R:QH->QL->Prop,R (.ref I) {s with heap:=h2}->Q8 (Rb prog w) A.in1.in1 (WR (.ref l)) R E {s with heap:=s.heap.push (fN (dF w))}
theorem xT {ol:Obj}{Q:QH->QL->Prop}{items:Array QH}(P:Sa->Prop) (OL:s.heap.get? l=some ol) (hcl:ol.cls=.type T) (Qo:Xu (.type T) (.type "set")=pure false) (Qn:Xu (.type T) (.type "frozenset")=pure false) (hne:(T4 T == T4 "dict")=false)
 (it:DK prog w A E s l items)
 (loop:∀{I:Q4}{fp:List Q4}{St:Nat->QL->Prop}{h2:Sa}{R:_->QL->Prop},WalksS prog w A.in1.in1.in1 I fp [I] (λa b=>b=a) items.size (λi v=>items[i]?=some v) St->s.heap.objs.size∉fp->s.heap.objs.size < I->St 0 {s with heap:=h2}->(∀b o,(s.heap.push (fN (dF w))).get? b=some o->h2.get? b=some o)->
 (∀s',Moved [s.heap.objs.size,I] (λa b=>b=a) {s with heap:=h2} s'->P s'.heap->R (.ok (.ret .none)) s')->SQ (Rb prog w) A.in1.in1 (.builtin "set.update.loop" ⟨[.ref s.heap.objs.size,.ref I],[]⟩) R {s with heap:=h2})
 (h:∀(h':Sa) (tk:Nat),P h'->(∀b o,b < s.heap.objs.size->s.heap.get? b=some o->h'.get? b=some o)->Q (.ref s.heap.objs.size) {s with heap:=h',toks:=tk}):
  (Q8 (Rb prog w) A (call (.type "set") [.ref l]) Q E s):=by
 (obtain ⟨c,tl,Qj⟩:=Uy.mro)
 (have hmade:=Uy.made)
 have hsub:=Uy.sub
 (refine Wo (V0 ?_))
 (show Q8 _ _ (callAny (.type "set") _) _ _ _)
 (refine QJ ⟨Code.quiet_builtin _ (by decide +kernel),So F.entry_type_call ?_⟩)
 (rw [Around.under_plain (weight_type_call_type "set" [.ref l] []) rfl])
 (have h1:=Uy.notType)
 (have h2:=Uy.canCreate)
 have hct:=PySem.F.typeCall_set_1 (.ref l)
 (repeat (any_goals (first | assumption | wp_step)))
 refine Uc (E1 (.ref l) (E:=E) (Q₁:=λobj s₁=>obj=.ref s.heap.objs.size/\s₁={s with heap:=s.heap.push (fN (dF w))}) ⟨rfl,rfl⟩) λr s₁ hr=>?_;cases r with
 | error e=>exact hr
 | ok fl=>
  cases fl with
  | ret obj=>
   obtain ⟨rfl,rfl⟩:=hr;have hS:(s.heap.push (fN (dF w))).get? s.heap.objs.size=some (fN (dF w)):=QW _ rfl;have hT:U9 {s with heap:=s.heap.push (fN (dF w))} (.ref s.heap.objs.size) "set":=⟨_,hS,rfl⟩
   (have hli:=Uy.init.lookup)
   (have hbi:=Uy.init.bind (.ref s.heap.objs.size))
   (repeat (any_goals (first | assumption | wp_step)))
   refine Uc (VB (R:=wants (λr s₂=>r=.none/\∃h' tk,s₂={s with heap:=h',toks:=tk}/\P h'/\
     (∀b o,b < s.heap.objs.size->s.heap.get? b=some o->h'.get? b=some o)) E) Uy.init.plain F.entry_set_init ((check_set_init_1 hT ?_))) λr₂ s₂ hr₂=>?_
   ·have Pw:(s.heap.push (fN (dF w))).get? l=some ol:=QM _ OL;have Qt:U9 {s with heap:=s.heap.push (fN (dF w))} (.ref l) T:=⟨_,Pw,hcl⟩
    (unfold WB.«set.__init__» noKeywords Zk)
    generalize P5:WR=PI
    wp_walk
    subst P5;obtain ⟨I,fp,St,h2,W,hSf,hSI,st,hk,hit⟩:=it;refine hit _ (QF (XY (loop W hSf hSI st hk λs' hm hp=>?_)))
    (obtain ⟨h',g',d',tk',os'⟩:=s')
    (have eg:g'=s.gens:=hm.gens)
    (have ed:d'=s.drawn:=hm.drawn)
    have eo:os'=s.os:=hm.os;subst eg;subst ed;subst eo;show Q8 _ _ _ _ _ _;refine QJ ?_
    (show Q8 _ _ (ret SS) _ _ _)
    refine QJ ⟨rfl,h',tk',rfl,hp,λb o hb e=>hm.heap b o ?_ (hk b o (QM _ e))⟩;simp only [QZ,SN,or_false,not_or];exact ⟨Q7 hb,Q7 (Sf hb hSI)⟩
   ·cases r₂ with
    | error e=>exact hr₂
    | ok fl₂=>
     cases fl₂ with
     | ret r=>
      obtain ⟨rfl,h',tk,rfl,hp,hk'⟩:=hr₂
      (repeat (any_goals (first | assumption | wp_step)))
      exact h _ _ hp hk'
     | _=>exact hr₂.elim
  | _=>exact hr.elim
theorem Ej (hh:A.handled=none) (hl:s.heap.IsTuple l items):DK prog w A E s l items:=by
 obtain ⟨ol,OL,hcl,nl,hdl⟩:=id hl;have hl1:(s.heap.push (fN (dF w))).IsTuple l items:=⟨_,QM _ OL,hcl,nl,hdl⟩;have hlS:l < s.heap.objs.size:=Q6 OL;have z1:(s.heap.push (fN (dF w))).objs.size=s.heap.objs.size + 1:=Sh _ _;have OY:l≠(s.heap.push (fN (dF w))).objs.size:=by rw [z1];exact Q7 (SW hlS)
 refine ⟨_,_,_,_,(Walks.tuple (A:=A.in1.in1.in1) (by simp [hh]) (s.heap.push (fN (dF w))).objs.size l OY items).toS,?_,?_,⟨⟨_,QW _ rfl,rfl,rfl⟩,hl1.push _⟩,λb o e=>QM _ e,λR q=>Yu hl1 q⟩
 ·rw [z1];simp only [QZ,SN,or_false,not_or];exact ⟨Q7 (RN _),S7 hlS⟩
 ·rw [z1];exact RN _
theorem GV (hh:A.handled=none) (hl:s.heap.IsList l items):DK prog w A E s l items:=by
 obtain ⟨ol,OL,hcl,nl,hdl⟩:=id hl;have hl1:(s.heap.push (fN (dF w))).IsList l items:=⟨_,QM _ OL,hcl,nl,hdl⟩;have hlS:l < s.heap.objs.size:=Q6 OL;have z1:(s.heap.push (fN (dF w))).objs.size=s.heap.objs.size + 1:=Sh _ _;have OY:l≠(s.heap.push (fN (dF w))).objs.size:=by rw [z1];exact Q7 (SW hlS)
 refine ⟨_,_,_,_,(abj (A:=A.in1.in1.in1) (by simp [hh]) (s.heap.push (fN (dF w))).objs.size l OY items).toS,?_,?_,⟨⟨_,QW _ rfl,rfl,rfl⟩,hl1.push _⟩,λb o e=>QM _ e,λR q=>Ws hl1 q⟩
 ·rw [z1];simp only [QZ,SN,or_false,not_or];exact ⟨Q7 (RN _),S7 hlS⟩
 ·rw [z1];exact RN _
end
end DL
namespace ST
open PySem PySem.SetTable
theorem vP {xs:Array Nat}(hs:xs.toList.Pairwise (· < ·)) (hi:i<=xs.size) (h1:∀k,k < i->xs.getD k 0 < j) (h2:∀k,i<=k->k < xs.size->j<=xs.getD k 0):below xs j=i:=by
 obtain ⟨b1,b2,b3⟩:=lH xs j hs;rcases YM (below xs j) i with c | c | c
 ·have:=h1 _ c;have:=b3 _ (QV _) (by omega);omega
 ·exact c
 ·have:=b2 _ c;have:=h2 i (QV _) (by omega);omega
theorem Ai {xs:Array Nat}(hs:xs.toList.Pairwise (· < ·)):below xs 0=0:=vP hs (Rj _) (λk h=>absurd h (Tw _)) λk _ _=>Rj _
theorem Ah {xs:Array Nat}(hs:xs.toList.Pairwise (· < ·)) (h:xs[i]?=some j):below xs (j + 1)=i + 1:=by
 obtain ⟨hi,e⟩:=R4.mp h;have sw:=UJ.mp hs;have gd:∀k (hk:k < xs.size),xs.getD k 0=xs[k]:=λk hk=>by simp [Tf,hk]
 refine vP hs (by omega) (λk hk=>?_) (λk h1 h2=>?_)
 ·rw [gd k (by omega)];by_cases c:k=i
  ·subst c;omega
  ·have:=sw k i (by simp;omega) (by simpa using hi) (by omega);simp at this;omega
 ·rw [gd k h2];have:=sw i k (by simpa using hi) (by simpa using h2) (by omega);simp at this;omega
theorem uv {α:Type}(next:Nat->Nat):∀(f k:Nat) (left:List α) (out:Array α),f=left.length->(Y6 next f k left out).toList.Perm (out.toList++left)
 | 0,k,left,out,h=>by have:left=[]:=WJ.mp h.symm;subst this;unfold Y6;simp
 | f + 1,k,left,out,h=>by
  have hl:next k % left.length < left.length:=Wu _ (by omega);unfold Y6;rw [Q5 hl];dsimp only;refine (uv next f (k + 1) _ _ (by rw [XM];simp [hl];omega)).trans ?_;rw [Array.toList_push,Vi]
  (refine aaB _ ?_)
  have e1:left.eraseIdx (next k % left.length)=left.take (next k % left.length)++left.drop (next k % left.length + 1):=Vk _ _;have e2:left=left.take (next k % left.length)++left[next k % left.length]::left.drop (next k % left.length + 1):=by rw [W6,Ux]
  rw [e1,Vt];exact (WU.symm).trans (Xv e2.symm)
theorem AZ {α:Type}(next:Nat->Nat) (xs:Array α):(ZE next xs).toList.Perm xs.toList:=by have h:=uv next xs.size 0 xs.toList #[] (by simp);rw [show (#[]:Array α).toList++xs.toList=xs.toList from rfl] at h;exact h
end ST
namespace DL
open PySem PySem.Spec PyProof.Rows L2 ST
structure jL (h:Sa) (a:Q4) (led:Bool) (es:Array (Int×QH)) (ep:Nat) (t:RT):Prop where
 at_:h.get? a=some {cls:=.type "set",dict:=none,data:=.set es ep t}
 tab:∃L,Tab t es L
 pl:led=true->(!t.plain && decide (es.size > 1))=false
 ld:t.led=led
theorem jL.keep {h h':Sa}(S:jL h a led es ep t) (e:∀o,h.get? a=some o->h'.get? a=some o):jL h' a led es ep t:=⟨e _ S.at_,S.tab,S.pl,S.ld⟩
noncomputable abbrev kj (w:Ro):Bool:=!w.params.followText "set-order"
noncomputable def gx (w:Ro) (a ep:Nat) (es:Array (Int×QH)):Array (Int×QH):=if w.params.followText "set-order"=true then ZE (w.params.setOrder a ep) es else es
theorem pK (w:Ro) (a ep:Nat) (es:Array (Int×QH)):(gx w a ep es).toList.Perm es.toList:=by
 unfold gx;split
 ·exact AZ _ _
 ·exact .refl _
theorem kP (w:Ro) (a ep:Nat) (es:Array (Int×QH)):(gx w a ep es).size=es.size:=by rw [<-Rf,(pK w a ep es).length_eq,Rf]
noncomputable abbrev mP (a:Q4) (slot i n ep:Nat):Obj:={cls:=.type "set_iterator",data:=.fields #[.int slot 0,.int i 0,.ref a,.int n 0,.int ep 0]}
theorem j_:abe table "set.__iter__"=some WB.«frozenset.__iter__»:=
 (ZV (id':="frozenset.__iter__") (by kernel_rfl) rfl (by decide +kernel) (by kernel_rfl))
theorem cT:Slot "set_iterator" "__next__" "set_iterator.__next__":=
 (.of (owner:="set_iterator") (n:="__next__") (by rw [Xw,Vu];kernel_rfl) (by decide +kernel) (by decide +kernel) (by decide +kernel)
  (by first | exact .inl (by decide +kernel) | exact .inr (by decide +kernel)) (by rw [UK];kernel_rfl))
theorem g8:abe table "set_iterator.__next__"=some WB.«set_iterator.__next__»:=(entryFor_of_tree (by kernel_rfl))
theorem iG (a:QH):Z6 "set_iterator.__next__" ⟨[a],[]⟩:=by unfold Z6;kernel_rfl
section
variable {prog:Q2}{w:Ro}{A:RA}{E:QH->QL->Prop}{s:QL}
theorem El {a:Q4}{es:Array (Int×QH)}{ep:Nat}{t:RT}{Q:QH->QL->Prop}(S:jL s.heap a (kj w) es ep t)
  (hQ:Q (.ref s.heap.objs.size) {s with heap:=s.heap.push (mP a 0 0 es.size ep)}):Q8 (Rb prog w) A (WR (.ref a)) Q E s:=by
 obtain ⟨L,T⟩:=S.tab;have hT:s.TypeIs (.ref a) "set":=⟨_,S.at_,rfl⟩;refine Vl hT V1 (RX V1 hT j_ ?_ (YQ _));show Q8 _ _ (Ua a >>= _) _ _ s;unfold Ua;refine QF (QF (Tz S.at_ rfl (c8 T) (QJ ?_)));unfold setDrawn XH;refine QF (QF (Ub S.at_ rfl (c8 T) (QF (QF (SO (QJ (QJ ?_)))))));dsimp only;split
 ·rename_i c;have c:(!w.params.followText "set-order" && (!t.plain && decide (es.size > 1)))=true:=c;rw [Ra] at c;exact absurd (c.2.symm.trans (S.pl c.1)) (by decide)
 ·(refine QF (QJ ?_))
  refine QF (YR S.at_ rfl (c8 T) ?_)
  (refine QF (Rq ?_))
  exact QJ ⟨_,rfl,"set_iterator",_,⟨_,QW _ rfl,rfl⟩,cT.lookup,hQ⟩
theorem xU {t:RT}{Q:Option (QH×Nat)->QL->Prop}(S:jL s.heap a (kj w) es ep t) (hb:w.params.followText "set-order"=false->UL t.place slot=i)
 (q1:∀e slot',(gx w a ep es)[i]?=some e->(w.params.followText "set-order"=false->UL t.place slot'=i + 1)->Q (some (e.2,slot')) s) (q2:(gx w a ep es)[i]?=none->Q none s):
  Q8 (Rb prog w) A (setNext a slot i ep) Q E s:=by
 obtain ⟨L,T⟩:=S.tab;unfold setNext XH;refine QF (Ub S.at_ rfl (c8 T) ?_);dsimp only
 (refine QF (QF (SO (QJ ?_))))
 dsimp only;cases bt:w.params.followText "set-order" with
 | true=>
  rw [show (Rb prog w).w.params.followText "set-order"=true from bt];simp only [if_true,bne_self_eq_false,RI,if_false];unfold setWalk XH;refine QF (QF (Ub S.at_ rfl (c8 T) ?_));dsimp only
  (refine QF (QF (SO (QJ ?_))))
  dsimp only;rw [show (Rb prog w).w.params.followText "set-order"=true from bt];simp only [if_true];refine QF (SO (QJ ?_));dsimp only;have ew:gx w a ep es=ZE ((Rb prog w).w.params.setOrder a ep) es:=by unfold gx;rw [if_pos bt];rfl
  rw [ew] at q1 q2;cases q:(ZE ((Rb prog w).w.params.setOrder a ep) es)[i]? with
  | none=>exact QJ (q2 q)
  | some e=>exact QJ (q1 e slot q λz=>absurd (bt.symm.trans z) (by decide))
 | false=>
  rw [show (Rb prog w).w.params.followText "set-order"=false from bt]
  (simp only [RI,if_false])
  have ew:gx w a ep es=es:=by unfold gx;rw [if_neg (by rw [bt];decide)]
  rw [ew] at q1 q2;have Po:t.led=true:=by rw [S.ld];show (!w.params.followText "set-order")=true;rw [bt];rfl
  split
  ·rename_i c;have c:(!t.plain && decide (es.size > 1))=true:=c;exact absurd (c.symm.trans (S.pl (by show (!w.params.followText "set-order")=true;rw [bt];rfl))) (by decide)
  ·refine QF (US (a:=()) ?_ ?_)
   ·show (if (!t.led && !es.isEmpty)=true then _ else pure ())=pure ();rw [Po];rfl
   ·rw [hb bt];cases q:es[i]? with
    | none=>exact QJ (q2 q)
    | some e=>
     have hlen:i < t.place.size:=by
      have h1:=(R4.mp q).1;have h2:t.place.size=es.size:=by rw [<-Rf,T.pl,QN,tU T]
      omega
     have ep':t.place[i]?=some t.place[i]:=Ss hlen;rw [ep'];exact QJ (q1 e _ q λ_=>Ah T.sop ep')
theorem Ey {es:Array (Int×QH)}{t:RT}{Q:Option QH->QL->Prop}(hne:a≠I) (S:jL s.heap a (kj w) es ep t) (hI:s.heap.get? I=some (mP a slot i es.size ep)) (hb:w.params.followText "set-order"=false->UL t.place slot=i) (hi:i < es.size)
 (hQ:∀h' slot' e,(gx w a ep es)[i]?=some e->h'.get? I=some (mP a slot' (i + 1) es.size ep)->(w.params.followText "set-order"=false->UL t.place slot'=i + 1)->SD I s.heap h'->Q (some e.2) {s with heap:=h'}):
  Q8 (Rb prog w) A (U_ (.ref I)) Q E s:=by
 obtain ⟨L,T⟩:=S.tab;have hT:s.TypeIs (.ref I) "set_iterator":=⟨_,hI,rfl⟩;unfold U_;refine QF (U3 (Sj (name:=UU "__next__") hT cT (RX cT hT g8 ?_ (iG _))));show Q8 _ _ (aan (.ref I) >>= _) _ _ s;refine QF (Wh hI rfl ?_);dsimp only;refine QF (Tz S.at_ rfl (c8 T) ?_);simp only [bne_self_eq_false,RI,if_false,SG];refine QF (xU S hb (λe slot' q1 q2=>?_) λq=>?_)
 ·dsimp only;refine QF (TX hI (by simp) λh1 g1 b1=>?_);refine QF (TX (s:={s with heap:=h1}) g1 (by simp) λh2 g2' b2=>?_);exact QJ ⟨_,rfl,QJ (hQ h2 slot' e q1 (g2'.trans (by simp [aar])) q2 (b1.trans b2))⟩
 ·exfalso;have:=(Array.getElem?_eq_none_iff.mp q);rw [kP] at this;omega
theorem GH {es:Array (Int×QH)}{t:RT}{Q:Option QH->QL->Prop}(hh:A.handled=none) (S:jL s.heap a (kj w) es ep t) (hI:s.heap.get? I=some (mP a slot es.size es.size ep)) (hb:w.params.followText "set-order"=false->UL t.place slot=es.size)
 (hQ:∀h',aa1 I s.heap h'->Q none {s with heap:=h'}):Q8 (Rb prog w) A (U_ (.ref I)) Q E s:=by
 obtain ⟨L,T⟩:=S.tab;have hT:s.TypeIs (.ref I) "set_iterator":=⟨_,hI,rfl⟩;unfold U_;refine QF (U3 (Sj (name:=UU "__next__") hT cT (RX cT hT g8 ?_ (iG _))));show Q8 _ _ (aan (.ref I) >>= _) _ _ s;refine QF (Wh hI rfl ?_);dsimp only;refine QF (Tz S.at_ rfl (c8 T) ?_);simp only [bne_self_eq_false,RI,if_false,SG];refine QF (xU S hb (λe slot' q1 q2=>?_) λq=>?_)
 ·exfalso;have:=(R4.mp q1).1;rw [kP] at this;omega
 ·dsimp only;refine QF (TX hI (by simp) λh1 g1 b1=>?_);refine QF ?_;simp only [newExc,newTuple]
  (refine QF (Rq ?_ (by size_fits)))
  (refine QF (m:=Wi _ _) (US (a:=SS) (by first | rfl | (simp only [Wi];rfl)) ?_))
  (refine Rq ?_ (by size_fits))
  simp only [raiseNew]
  (refine QF (aao ?_))
  (first | rw [show A.in1.handled=none from hh] | rw [hh])
  (refine QF (QJ (wpAny_throw ?_)))
  (refine QF (WW (T:="StopIteration") (b:=true) ⟨_,QW _ rfl,rfl⟩ ZW ?_))
  exact QJ (hQ _ ((b1.extBut.push _).push _))
end
theorem uZ:Z2 (.type "set") "__len__"=pure (some (.builtin "set.__len__")):=by rw [Xw,Vu];kernel_rfl
theorem sq {M:ZJ}{A:RA}{E:QH->QL->Prop}{s:QL}{α:Type}{c:Prop} [Decidable c] {m1 m2:Sem α}{Q:α->QL->Prop}(hc:c) (h:Q8 M A m1 Q E s):Q8 M A (if c then m1 else m2) Q E s:=by rw [if_pos hc];exact h
theorem wO {prog:Q2}{w:Ro}{A:RA}{E:QH->QL->Prop}{s:QL}{a:Q4}{Q:Bool->QL->Prop}(hT:s.TypeIs (.ref a) "set") (hQ:Q false s):Q8 (Rb prog w) A (V2 (.ref a)) Q E s:=by
 have sp:splitId "set.__len__"=some ("set","__len__"):=by decide +kernel
 (unfold V2)
 refine QF (ZF hT uZ ?_);dsimp -zeta only;rw [sp];dsimp -zeta only;refine QF (m:=isInstance (.ref a) (.type "set")) (WW hT sub_set_self ?_)
 (show Q8 _ _ (if (!true)=true then _ else _) _ _ _)
 rw [if_neg (by decide)];refine sq (by decide +kernel) ?_
 (refine QF (UW hT ?_))
 exact QJ hQ
theorem iM:Slot "set_iterator" "__iter__" "set_iterator.__iter__":=
 ((.of (owner:="set_iterator") (n:="__iter__") (by rw [Xw,Vu];kernel_rfl) (by decide +kernel) (by decide +kernel) (by decide +kernel)
  ((by first | exact .inl (by decide +kernel) | exact .inr (by decide +kernel))) (by rw [UK];kernel_rfl)))
theorem mJ:abe table "set_iterator.__iter__"=some WB.«dict_keyiterator.__iter__»:=
 (ZV (id':="dict_keyiterator.__iter__") (by kernel_rfl) rfl (by decide +kernel) (by kernel_rfl))
theorem nc (a:QH):Z6 "set_iterator.__iter__" ⟨[a],[]⟩:=by unfold Z6;kernel_rfl
section
variable {prog:Q2}{w:Ro}{A:RA}{E:QH->QL->Prop}{s:QL}
noncomputable def kC (w:Ro) (a ep:Nat) (es:Array (Int×QH)):List QH:=(gx w a ep es).toList.map (·.2)
theorem DF (hh:A.handled=none) (I a:Q4) (hne:a≠I){es:Array (Int×QH)}{t:RT}:
  Walks prog w A I [I,a] [I] es.size (λi v=>(kC w a ep es)[i]?=some v) (λi h=>∃slot,h.get? I=some (mP a slot i es.size ep)/\jL h a (kj w) es ep t/\(w.params.followText "set-order"=false->UL t.place slot=i)) where
 sub:=λ_ hb=>by simp at hb;simp [hb]
 frame:=λ_ _ _ ⟨slot,h1,h2,h3⟩ hk=>⟨slot,hk I (by simp) _ h1,h2.keep λo e=>hk a (by simp) o e,h3⟩
 item:=λi s Q E hi ⟨slot,h1,h2,h3⟩ hQ=>by
  refine Ey hne h2 h1 h3 hi λh' slot' e q1 q2 q3 q4=>?_;refine hQ e.2 h' s.toks ?_ ⟨slot',q2,h2.keep λo e=>?_,q3⟩ λb o hb e=>?_
  ·unfold kC;rw [Rh,Uu,q1];rfl
  ·rw [q4.2 a hne];exact e
  ·exact q4.extBut b o (λh=>hb (by simp [h])) e
 done:=λs Q E ⟨slot,h1,h2,h3⟩ hQ=>GH hh h2 h1 h3 λh' he=>hQ h' s.toks λb o hb e=>he b o (λh=>hb (by simp [h])) e
 self:=λi s Q E ⟨slot,h1,h2,h3⟩ hQ=>by have hT:s.TypeIs (.ref I) "set_iterator":=⟨_,h1,rfl⟩;refine Vl hT iM (RX iM hT mJ ?_ (nc _));show Q8 _ _ (ret (.ref I)) _ _ s;exact QJ ⟨_,rfl,"set_iterator",_,hT,cT.lookup,hQ⟩
theorem yo {a:Q4}{es:Array (Int×QH)}{ep:Nat}{t:RT}{Q:List QH->QL->Prop}(hh:A.handled=none) (S:jL s.heap a (kj w) es ep t) (hn:es.size<=76)
  (hQ:∀(h':Sa) (tk:Nat),(∀b o,s.heap.get? b=some o->h'.get? b=some o)->s.heap.objs.size < h'.objs.size->Q (kC w a ep es) {s with heap:=h',toks:=tk}):Q8 (Rb prog w) A (collect (.ref a)) Q E s:=by
 have ha:a < s.heap.objs.size:=Q6 S.at_;have hT:s.TypeIs (.ref a) "set":=⟨_,S.at_,rfl⟩;unfold collect
 (refine QF (XY (So Xx ?_)))
 (rw [RW Xy _])
 show Q8 _ A.in1 (newList [] >>= λl=>again (.builtin "list.__iadd__" ⟨[l,.ref a],[]⟩)) _ _ s
 (refine QF (Rq ?_))
 (refine QJ ⟨S4 Vm _,So YS ?_⟩)
 (rw [RW Vm _])
 generalize O8:({cls:=.type "list",data:=.seq ([]:List QH).toArray}:Obj)=l0;have S1:jL (s.heap.push l0) a (kj w) es ep t:=S.keep λo e=>QM _ e;have hT1:U9 {s with heap:=s.heap.push l0} (.ref a) "set":=⟨_,S1.at_,rfl⟩;show Q8 _ A.in1 (TF (.ref s.heap.objs.size) (.ref a) (.ref s.heap.objs.size)) _ _ _
 (unfold TF)
 refine QF (UW hT1 ?_);have h1:Wx (.ref s.heap.objs.size) (.ref a)=false:=by show (s.heap.objs.size == a)=false;exact beq_eq_false_iff_ne.mpr (S7 ha)
 have h2:(T4 "set" == T4 "list")=false:=by decide
 have h3:(T4 "set" == T4 "tuple")=false:=by decide
 (simp only [h1,h2,h3,Yo,RI,if_false])
 refine QF (El S1 ?_)
 (refine QF (RJ ?_))
 have z1:(s.heap.push l0).objs.size=s.heap.objs.size + 1:=Sh _ _;rw [z1];have S2:jL ((s.heap.push l0).push (mP a 0 0 es.size ep)) a (kj w) es ep t:=S1.keep λo e=>QM _ e;have hT2:U9 {s with heap:=(s.heap.push l0).push (mP a 0 0 es.size ep)} (.ref a) "set":=⟨_,S2.at_,rfl⟩;refine wO hT2 ?_;refine sq (by decide +kernel) ?_
 (refine QF (VL ?_))
 subst O8;have hI:((s.heap.push {cls:=.type "list",data:=.seq ([]:List QH).toArray}).push (mP a 0 0 es.size ep)).get? (s.heap.objs.size + 1)=some (mP a 0 0 es.size ep):=by rw [<-z1];exact QW _ rfl
 have hS₁:((s.heap.push {cls:=.type "list",data:=.seq ([]:List QH).toArray}).push (mP a 0 0 es.size ep)).get? s.heap.objs.size=some {cls:=.type "list",data:=.seq ([]:List QH).toArray}:=QM _ (QW _ rfl);refine QF ?_
 (show Q8 _ A.in1 (Xk s.heap.objs.size (·.push .none) >>= λ_=>Xk s.heap.objs.size (·.pop)) _ _ _)
 (refine QF (S_ hS₁ rfl ?_))
 (have hS₂:=Sg (T7 (·.push SS)) hS₁ rfl)
 (refine S_ hS₂ rfl ?_)
 (have hS₃:=Sg (T7 (·.pop)) hS₂ rfl)
 have oth:∀b o,b≠s.heap.objs.size->((s.heap.push {cls:=.type "list",data:=.seq ([]:List QH).toArray}).push (mP a 0 0 es.size ep)).get? b=some o->
   ((((s.heap.push {cls:=.type "list",data:=.seq ([]:List QH).toArray}).push (mP a 0 0 es.size ep)).update s.heap.objs.size (T7 (·.push SS))).update s.heap.objs.size (T7 (·.pop))).get? b=some o:=
  (λb o hb e=>(RK _ _ (Sb hb)).trans ((RK _ _ (Sb hb)).trans e))
 have hne:a≠s.heap.objs.size + 1:=Q7 (SW ha);have hSf:s.heap.objs.size∉[s.heap.objs.size + 1,a]:=by simp only [QZ,SN,or_false,not_or];exact ⟨Q7 (RN _),S7 ha⟩
 obtain ⟨L,T⟩:=S.tab;refine QJ ⟨S4 X8 _,XN ((DF (A:=A.in1) (prog:=prog) (w:=w) (es:=es) (ep:=ep) (t:=t) hh (s.heap.objs.size + 1) a hne).toS) (by rw [Sd];omega) _ hSf _ es.size 0 _ _ _ rfl (Rj _)
  ⟨0,oth _ _ (S7 (RN _)) hI,S2.keep λo e=>oth _ _ (Q7 ha) e,λ_=>Ai T.sop⟩ hS₃ (aa2 _) λs' acc' c' hm hS' hacc=>?_⟩
 (show Q8 _ A (load s.heap.objs.size >>= _) _ _ s')
 (refine QF (Z1 hS' ?_))
 have eacc:acc'.toList=kC w a ep es:=by
  obtain ⟨z,q⟩:=hacc;have lw:(kC w a ep es).length=es.size:=by unfold kC;rw [QN,Rf,kP]
  refine UO (by rw [Rf,z,lw]) λi x1 x2=>?_;have this:(kC w a ep es)[i]?=some (acc'[i]'(by simpa using x1)):=q i _ (Ss (by simpa using x1));rw [Q5 x2] at this
  (exact (RP this).symm)
 refine QJ ?_;rw [eacc]
 (obtain ⟨h',g',d',tk',os'⟩:=s')
 (have eg:g'=s.gens:=hm.gens)
 (have ed:d'=s.drawn:=hm.drawn)
 have eo:os'=s.os:=hm.os;subst eg;subst ed;subst eo;refine hQ h' tk' (λb o e=>?_) (Q6 hS');have lb:=Q6 e;refine hm.heap b o ?_ (oth b o (Q7 lb) (QM _ (QM _ e)));simp only [QZ,SN,or_false,not_or];exact ⟨Q7 lb,Q7 (SW lb)⟩
end
end DL
namespace DL
open PySem PySem.Spec PyProof.Rows L2 ST
noncomputable def dd:List D->List D
 | []=>[]
 | x::xs=>if (dd xs).any (c7 x)=true then dd xs else x::dd xs
end DL
namespace DL
open PySem PySem.Spec PyProof.Rows L2
end DL
namespace DL
open PySem PySem.Spec PyProof.Rows L2 DX
end DL
namespace DL
open PySem PySem.Spec PyProof.Rows L2
end DL
namespace DL
open PySem PySem.Spec PyProof.Rows L2 DX
end DL
namespace DL
open PySem PySem.Spec PyProof.Rows L2 ST DX
end DL
namespace DL
open PySem PySem.Spec PyProof.Rows L2 DX
section
open PySem.SeqAt
open PySem.AutoSeq1 (wpAny_loadPart')
open PySem.MeetsSeq PySem.MeetsSeq2 PySem.MeetsSeq3
end
theorem sM (gt:GT) (gts:G Bool) (ge:G R):∀(ds:List D) (env:Ev) (k:List D->M R),(cA gt gts (gq ge) ds env >>= λr=>k r.1)=(fk gt gts ge ds env >>= k)
 | [],env,k=>rfl
 | d::ds,env,k=>by
  unfold cA fk;cases gt d env with
  | bad=>rfl
  | exc z=>rfl
  | ok e=>
   show ((gts e >>= λk=>if k=true then gq ge e >>= λr=>cA gt gts (gq ge) ds r.2 >>= λz=>.ok (r.1++z.1,z.2) else cA gt gts (gq ge) ds e) >>= _)=((gts e >>= λk=>if k=true then ge e >>= λr=>toD r >>= λy=>fk gt gts ge ds e >>= λys=>.ok (y::ys) else fk gt gts ge ds e) >>= _);cases gts e with
   | bad=>rfl
   | exc z=>rfl
   | ok b=>
    cases b with
    | false=>exact sM gt gts ge ds e k
    | true=>
     show ((gq ge e >>= λr=>cA gt gts (gq ge) ds r.2 >>= λz=>.ok (r.1++z.1,z.2)) >>= _)=((ge e >>= λr=>toD r >>= λy=>fk gt gts ge ds e >>= λys=>.ok (y::ys)) >>= _);unfold gq;cases ge e with
     | bad=>rfl
     | exc z=>rfl
     | ok r=>
      show (((toD r >>= λy=>M.ok ([y],e)) >>= λr=>cA gt gts (gq ge) ds r.2 >>= λz=>.ok (r.1++z.1,z.2)) >>= _)=((toD r >>= λy=>fk gt gts ge ds e >>= λys=>.ok (y::ys)) >>= _);cases toD r with
      | bad=>rfl
      | exc z=>rfl
      | ok y=>
       have ih:=sM gt gts ge ds e λys=>k (y::ys);show ((cA gt gts (gq ge) ds e >>= λz=>.ok ([y]++z.1,z.2)) >>= λr=>k r.1)=((fk gt gts ge ds e >>= λys=>M.ok (y::ys)) >>= k);have e1:((cA gt gts (gq ge) ds e >>= λz=>M.ok ([y]++z.1,z.2)) >>= λr=>k r.1)=(cA gt gts (gq ge) ds e >>= λr=>k (y::r.1)):=by cases cA gt gts (gq ge) ds e <;> rfl
       have e2:((fk gt gts ge ds e >>= λys=>M.ok (y::ys)) >>= k)=(fk gt gts ge ds e >>= λys=>k (y::ys)):=by cases fk gt gts ge ds e <;> rfl
       rw [e1,e2,ih]
theorem GP (n:Nat) (cap:List Nat) (gi:G (List D)) (gt:GT) (gts:G Bool) (ge:G R):cZ n cap gi gt gts ge=jf sizeLine n cap gi gt gts (gq ge) (λys=>.ok (.l .fresh ys)):=by
 funext env;unfold cZ jf;cases gi env with
 | bad=>rfl
 | exc z=>rfl
 | ok ds=>
  show (if ds.length<=sizeLine then _ else _)=(if ds.length<=sizeLine then _ else _);by_cases c:ds.length<=sizeLine
  ·rw [if_pos c,if_pos c];exact (sM gt gts ge ds _ λys=>.ok (.l .fresh ys)).symm
  ·rw [if_neg c,if_neg c]
section
variable {X:Cx}{c:C}
theorem jO (own:List Str) (cap:List Nat){Qv:Uo}{pos:Pos}{gi:G (List D)}{gts:G Bool}{ge:G R}(hi:Bu X c Qy Qz gi)
 (hbody:∀(cl:List (Str×Q4)) (C:Q4) (s:QL) (H:Hp) (fp:List Q4),fQ X.env.cells Qv.names []=some cl->qy (fc X own cap Qv cl C s H fp) c Qy gt/\sD (fc X own cap Qv cl C s H fp) c ifs gts/\QD (fc X own cap Qv cl C s H fp) c elt ge) (a:Bj X Qv cap Qz:=by exact Jg rfl):u0 X c (.ListComp elt [⟨Qy,Qz,ifs,0⟩] Qv pos) (cZ own.length cap gi gt gts ge):=by
 refine ⟨_,?_,rfl,λ_=>rfl⟩;rw [GP];refine pT (e:=.ListComp elt [⟨Qy,Qz,ifs,0⟩] Qv pos) (ob:={cls:=.type "list",dict:=none,data:=.seq ([]:List QH).toArray}) (o0:=λ_=>.lst []) (Acc:=λp _=>Ab c p) (N:=1) (lim:=sizeLine) (m:=λp env=>do let _ <-call (.builtin "list.append") [.ref p,<-eval elt env]) own cap rfl hi.h
  (λs Q E q=>Rq q) (λh H=>⟨Rj _,[],0,.nil,QW _ rfl⟩) (λp _=>pR) (λp _ J H _ h1 h2=>⟨[],h1,h2,.nil⟩) (by rw [Nat.mul_one];exact QV _) (λit p env=>AL (compTurn_list ..)) (λit acc env R s h0 h=>W3 h0 h) (λys z q=>by cases q)
  (fun {p H2 J H J' H' ys r} hp _ e ⟨us,h1,h2,h3⟩ q=>by cases q;exact ⟨J',e,⟨p,us,rfl,h1,h2,hp,h3⟩⟩) (λcl C s H fp hcc=>?_) ye a
 obtain ⟨b1,b2,b3⟩:=hbody cl C s H fp hcc;exact ⟨b1.h,b2.h,λp J2 H2 hp2 hp0=>yM hp2 hp0 b3.h⟩
end
end DL
namespace DL
open PySem PySem.Spec PyProof.Rows L2 DX
open Sem (wp)
end DL
namespace DL
open PySem PySem.Spec PyProof.Rows L2 DX
end DL
namespace DL
open PySem PySem.Spec PyProof.Rows L2
noncomputable def FA (K:QG) (x:Str) (st:TR):Prop:=∃f fd,Rn K Q_ x=some (some (.ref f))/\fF K x x st f fd
theorem LF {K:QG}{st:TR}(a:Rn K Q_ x=some (some (.ref f)))
 (l:K.lookup f=some ⟨u,o,.func (Rv x x (cD st) (bM st) (aN st) .none v d p n q r),s⟩) (c:Tr K q x=true) (k:RL K (.ref f)=true):FA K x st:=⟨f,_,a,wI l c k⟩
noncomputable def FB (K:QG) (mg:Str->Option QH) (x:Str) (st:TR):Prop:=∃f fd,mg x=some (.ref f)/\fF K x x st f fd
theorem dX {K:QG}{h:Sa}{mg:Str->Option QH}(X:K.In h) (G:h.Ns Q_ mg){st:TR}(e:FA K x st):FB K mg x st:=let ⟨f,fd,a,F⟩:=e;⟨f,fd,R9 X G a,F⟩
theorem NJ {P:Q2}{w:Ro}{K:QG}{mg:Str->Option QH}{base:Sa}{x:Str}{st:TR}{k:Nat}{Fm:List S->M R}(gB:G O) (N:List Str) (n:Nat) (e:FB K mg x st)
  (hb:N.Nodup->∀(f:Q4) (cdv:QH) (A:RA) (outer:List Env) (s:QL) (H:Hp) (E:XK) (J:Hp) (T:Exc->Prop),cR k (A.deeper (Va x (aN st) s.heap.objs.size f cdv))->
   j6 (qE P w K mg base N x (aN st) f cdv A outer s H E) ⟨K,H,J,T⟩ (bM st) gB)
  (Sc:cJ N (N.take n) (aN st))
  (hbi:∀(kV doc pm:QH) (an:Option Q4) (cdv ct:QH) (us:List QH),us.length=(N.take n).length->Vn (Rv x x (cD st) (bM st) (aN st) .none kV doc pm an cdv ct) ⟨us,[]⟩=pure ((N.take n).zip us))
  (hF:∀as r,as.length=(N.take n).length->Fm as=.ok r->fin (gB (aD N as))=.ok r):bS P w K mg base (k + 1) (N.take n).length x Fm:=
 let ⟨f,_,hm,F⟩:=e;iy F hm Sc hbi (hb Sc.nd f) hF
theorem qc {P:Q2}{w:Ro}{K:QG}{mg:Str->Option QH}{base:Sa}{x:Str}{st:TR}{k:Nat}{Fm:List S->M R}(gB:G O) (N:List Str) (n:Nat) (e:FB K mg x st)
  (hb:N.Nodup->∀(f:Q4) (cdv:QH) (A:RA) (outer:List Env) (s:QL) (H:Hp) (E:XK) (J:Hp) (T:Exc->Prop),cR k (A.deeper (Va x (aN st) s.heap.objs.size f cdv))->
   j6 (qE P w K mg base N x (aN st) f cdv A outer s H E) ⟨K,H,J,T⟩ (bM st) gB)
  (Sc:cJ N (N.take n) (aN st):=by exact ⟨rfl,rfl,rfl,by decide +kernel,rfl,by decide +kernel,by decide +kernel⟩)
  (hbi:∀(kV doc pm:QH) (an:Option Q4) (cdv ct:QH) (us:List QH),us.length=(N.take n).length->Vn (Rv x x (cD st) (bM st) (aN st) .none kV doc pm an cdv ct) ⟨us,[]⟩=pure ((N.take n).zip us):=by
   intro _ _ _ _ _ _ us hl;rcases us with _ | ⟨_,_ | ⟨_,_ | ⟨_,_ | ⟨_,_ | ⟨_,_ | ⟨_,_ | ⟨_,_⟩⟩⟩⟩⟩⟩⟩ <;> first | exact rfl | (cases hl;done) | exact nomatch hl)
  (hF:∀as r,as.length=(N.take n).length->Fm as=.ok r->fin (gB (aD N as))=.ok r:=by intro _ _ _ h;exact h):bS P w K mg base (k + 1) (N.take n).length x Fm:=
 NJ gB N n e hb Sc hbi hF
end DL
namespace DL
open PySem PySem.Spec PyProof.Rows L2 PySem.Builtin PySem.Builtin.Str
end DL
namespace DL
open PySem PySem.Spec PyProof.Rows L2 DX
end DL
namespace DL
open PySem PySem.Spec PyProof.Rows L2
end DL
namespace DL
open PySem PySem.Spec PyProof.Rows L2 DX
end DL
namespace DL
open PySem PySem.Spec PyProof.Rows L2
section
variable {X:Cx}{c:C}{a b:Rz}{ga gb:G R}{pos:Pos}
noncomputable def Ma (K:QG):R2:=λx y H Q=>∃l b xs zs,x=.ref l/\y=.ref b/\c6 K H l xs/\c6 K H b zs/\xs.length + zs.length<=sizeLine/\∀p,H p=none->Q (.ref p) (upd H p (.lst (xs++zs)))
theorem Hg:dH X (UN .Add) (Ma X.K):=by
 intro Qw s σ H x y v u Q I rx ry h;obtain ⟨l,b,xs,zs,rfl,rfl,hl,hb,hz,q⟩:=h;cases rx;cases ry;obtain ⟨Qx,r,p1,z1⟩:=I.list hl;obtain ⟨its2,r2,p2,z2⟩:=I.list hb;obtain ⟨⟨cls,dd,data,sl⟩,ho,hc,n,hd⟩:=id p1.isList;obtain ⟨⟨cls2,dd2,data2,sl2⟩,ho2,hc2,n2,hd2⟩:=id p2.isList
 (simp only at hc hd hc2 hd2)
 subst hc hd hc2 hd2;have e1:=r.length;have e2:=r2.length;refine concat_meets ⟨_,ho,rfl⟩ ⟨_,ho2,rfl⟩ noFill_list_add seq_list_add PySem.F.slot_list_add PySem.F.entry_list_add (PySem.F.args_list_add_2 _ _) (list_addW l b Qx.toArray its2.toArray n n2 dd dd2 sl sl2 (by rw [Q3,Q3];omega)) ⟨ho,ho2,?_⟩;rw [show Qx.toArray++its2.toArray=(Qx++its2).toArray by simp];exact ⟨.ref _,_,I.lnew (t':=s.toks) (r.append r2) (by rw [QU];omega),rfl,q _ I.fresh⟩
noncomputable def kc (x y:R):M R:=fS x >>= λxs=>fS y >>= λys=>if xs.length + ys.length<=sizeLine then .ok (.l .fresh (xs++ys)) else .bad
theorem xM (ha:QD X c a ga) (hb:QD X c b gb) (hK:autoParam (X.K=c.K) zA._auto_1):QD X c (.BinOp a .Add b pos) (g2 kc ga gb):=⟨kq Hg (by
 intro He He' J H x y u v Q hp rx ry w;unfold kc at w;obtain ⟨xs,q1,w⟩:=lF w;obtain ⟨ys,q2,w⟩:=lF w;obtain ⟨p,vs,rfl,h1,s1⟩:=RR.list hp rx q1;obtain ⟨p2,vs2,rfl,h2,s2⟩:=RR.list hp ry q2;split at w
 ·rename_i hz;rw [s1.length,s2.length] at hz;exact ⟨p,p2,vs,vs2,rfl,rfl,by rw [hK];exact h1,by rw [hK];exact h2,hz,λq hq=>w _ J _ (Ext.new hp.sub hq _) (jX hp hq (s1.append s2))⟩
 ·exact w.elim) ha.h hb.h⟩
end
end DL
namespace DL
open PySem PySem.Spec PyProof.Rows L2 DX
open Sem (wp)
end DL
namespace DL
open PySem PySem.Spec PyProof.Rows L2 DX
end DL
namespace DL
open PySem PySem.Spec PyProof.Rows L2
end DL
namespace DL
open PySem PySem.Spec PyProof.Rows L2
end DL
namespace DL
open PySem PySem.Spec PyProof.Rows L2
end DL
namespace DL
open PySem PySem.Spec PyProof.Rows L2 DX
section
variable {X:Cx}{c:C}{pos:Pos}
open Classical in
end
end DL
namespace DL
open PySem PySem.Spec PyProof.Rows L2 ST
noncomputable def fV:List Str->List Str
 | []=>[]
 | x::r=>if (fV r).contains x then fV r else x::fV r
theorem iU:∀(l:List Str) (d:Str),d∈fV l↔d∈l
 | [],_=>Iff.rfl
 | x::r,d=>by
  unfold fV;split
  ·rename_i h;rw [iU r,QZ];exact ⟨.inr,λz=>z.elim (λz=>z▸(iU r x).mp (by simpa using h)) id⟩
  ·rw [QZ,QZ,iU r]
theorem qF:∀l:List Str,(fV l).Nodup
 | []=>UH
 | x::r=>by
  unfold fV;split
  ·exact qF r
  ·rename_i h;exact S8.mpr ⟨by simpa using h,qF r⟩
inductive fC (w:Ro):List (Int×QH)->List Str->Prop
 | nil:fC w [] []
 | cons {i:Str}{k:Tok}{es:List (Int×QH)}{ns:List Str}:fC w es ns->fC w ((UP w i,.str i k)::es) (i::ns)
theorem fC.perm {w:Ro}{es es':List (Int×QH)}(p:es.Perm es'):∀{ns:List Str},fC w es ns->∃ns',ns.Perm ns'/\fC w es' ns':=by
 induction p with
 | nil=>intro ns h;exact ⟨ns,.refl _,h⟩
 | cons x _ ih=>
  intro ns h;cases h with
  | cons h3=>obtain ⟨ns',a,b⟩:=ih h3;exact ⟨_,a.cons _,.cons b⟩
 | swap x y l=>
  intro ns h;cases h with
  | cons h3=>cases h3 with
   | cons h6=>exact ⟨_,.swap _ _ _,.cons (.cons h6)⟩
 | trans _ _ ih1 ih2=>
  intro ns h;obtain ⟨k1,a,b⟩:=ih1 h;obtain ⟨k2,c,d⟩:=ih2 b;exact ⟨k2,a.trans c,d⟩
theorem fC.length {w:Ro}{es:List (Int×QH)}{ns:List Str}(h:fC w es ns):es.length=ns.length:=by
 induction h with
 | nil=>rfl
 | cons _ ih=>simp [ih]
structure gp (w:Ro) (h:Sa) (a:Q4) (led:Bool) (ns:List Str) (es:Array (Int×QH)) (ep:Nat) (t:RT):Prop where
 at_:h.get? a=some {cls:=.type "set",dict:=none,data:=.set es ep t}
 tab:∃L,Tab t es L
 ld:t.led=led
 rm:ns.length * 5 < t.mask * 3
 en:fC w es.toList ns
 nd:ns.Nodup
section
variable {w:Ro}{prog:Q2}{E:QH->QL->Prop}{A:RA}{s:QL}
theorem Ek {M:ZJ}{c:Prop} [Decidable c] {α β:Type}{m1 m2:Sem α}{k:α->Sem β}{Q:β->QL->Prop}(h:Q8 M A ((if c then m1 else m2) >>= k) Q E s):Q8 M A (if c then m1 >>= k else m2 >>= k) Q E s:=by
 by_cases hc:c
 ·rw [if_pos hc] at h ⊢;exact h
 ·rw [if_neg hc] at h ⊢;exact h
theorem yD {t:RT}{es:Array (Int×QH)}{L:List (Nat×Int×QH)}(h:Tab t es L):Tab {t with plain:=false} es L:=by cases h;constructor <;> assumption
theorem fC.elems {es:List (Int×QH)}{ns:List Str}(h:fC w es ns):ElemsOf (WD prog w) es:=by
 induction h with
 | nil=>exact λe he=>nomatch he
 | @cons i k es ns _ ih=>
  intro e he
  (rcases QZ.mp he with rfl | he)
  ·exact ⟨⟨i,Z8 _ _ _ _,rfl⟩,rfl⟩
  ·exact ih e he
theorem fC.find {es:List (Int×QH)}{ns:List Str}(h:fC w es ns) (i:Str):(es.findIdx? λe=>(WD prog w).is i e.2)=none↔i∉ns:=by
 rw [List.findIdx?_eq_none_iff]
 induction h with
 | nil=>simp
 | @cons j k es ns _ ih=>
  rw [QZ,not_or,<-ih];have e:(WD prog w).is i (.str j k)=decide (i=j):=KeyKind.is_eq_decide (Z8 prog w j k) i;constructor
  ·intro h;refine ⟨λz=>?_,λx hx=>h x (QO _ hx)⟩;have:=h _ QT;rw [e,z] at this;simp at this
  ·rintro ⟨h1,h2⟩ x hx
   (rcases QZ.mp hx with rfl | hx)
   ·rw [e];simpa using h1
   ·exact h2 x hx
theorem yN {a:Q4}{es:Array (Int×QH)}{ep:Nat}{t:RT}{led:Bool}{ns:List Str}{i:Str}{k:Tok}{Q:Bool->QL->Prop}(S:gp w s.heap a led ns es ep t) (hl:ns.length < 76)
  (q1:i∈ns->Q false s) (q2:i∉ns->∀(h':Sa) ns' es' ep' t',SD a s.heap h'->(i::ns).Perm ns'->gp w h' a led ns' es' ep' t'->Q true {s with heap:=h'}):
  Q8 (Rb prog w) A (setAddHashed a (.str i k) (UP w i)) Q E s:=by
 obtain ⟨L,T⟩:=S.tab;have lenL:L.length=ns.length:=by rw [tU T,<-Rf,S.en.length]
 have hes:es.size=ns.length:=by rw [<-Rf,S.en.length]
 obtain ⟨n0,b1,b2,b3⟩:=Aw T.mo (UP w i) (L.map (·.1)) (by rw [QN];exact T.fl)
 (unfold setAddHashed setAddHashedIn)
 refine RJ (QF (Ub S.at_ rfl (c8 T) ?_));dsimp only;have sc:byScan (.str i k) es=true:=byScan_of (prog:=prog) (w:=w) (knd:=WD prog w) rfl (by unfold scanBound;omega) S.en.elems;rw [sc];simp only [if_true];unfold setAddByScan;refine QF ?_
 (refine QF (VL ?_))
 refine QF (wpAny_setScan_of (knd:=WD prog w) (k:=i) (Z8 _ _ _ _) S.at_ rfl (c8 T) S.en.elems ?_);cases hr:List.findIdx? (λe=>(WD prog w).is i e.2) es.toList with
 | some j=>
  dsimp only;have hin:i∈ns:=S5 λz=>by have:=(S.en.find (prog:=prog) (w:=w) i).mpr z;rw [hr] at this;cases this
  exact QJ (QJ (q1 hin))
 | none=>
  dsimp only;have hm:i∉ns:=(S.en.find i).mp hr;have rm:=S.rm;have ln:=G4 T (UP w i) (.str i k) n0 b2 b3 b1 (by rcases T.mo with h | h | h <;> rw [h] at rm ⊢ <;> omega);rw [ln];dsimp only
  (refine QF (US (a:=()) rfl ?_))
  obtain ⟨L',T',pm⟩:=T.put (UP w i) (.str i k) n0 b2 b3 (CO _ _ _) (by rcases T.mo with h | h | h <;> rw [h] at rm ⊢ <;> omega);have fl:(t.put (pos t.mask (UP w i) n0)).1.mask=t.mask/\(t.put (pos t.mask (UP w i) n0)).1.plain=t.plain/\(t.put (pos t.mask (UP w i) n0)).1.led=t.led:=⟨rfl,rfl,rfl⟩;generalize t.put (pos t.mask (UP w i) n0)=tp at T' fl ⊢;obtain ⟨t',p⟩:=tp;dsimp only at T' fl ⊢;obtain ⟨f1,f2,f3⟩:=fl;obtain ⟨ns',p1,p2⟩:∃ns',(i::ns).Perm ns'/\fC w (UC es p (UP w i,.str i k)).toList ns':=by refine fC.perm (es:=(UP w i,.str i k)::es.toList) ?_ (.cons S.en);rw [T'.en,T.en];exact (pm.map (·.2)).symm
  have nd':ns'.Nodup:=p1.nodup_iff.mp (S8.mpr ⟨hm,S.nd⟩);have lk:ns'.length=ns.length + 1:=by rw [<-p1.length_eq];rfl
  refine Ek (QF (US (a:=!t'.plain) (by generalize t'.plain=pl;cases pl <;> rfl) ?_));rw [show (if (!t'.plain)=true then t' else {t' with plain:=false})={t' with plain:=false} by cases t';rename_i pl;cases pl <;> rfl];have T':=yD T';have f1:({t' with plain:=false}:RT).mask=t.mask:=f1;have f3:({t' with plain:=false}:RT).led=t.led:=f3;generalize ({t' with plain:=false}:RT)=t' at T' f1 f3 ⊢;have esz:(UC es p (UP w i,Yc i k)).size=ns'.length:=by rw [<-Rf,p2.length]
  refine QF (YT S.at_ rfl ?_ (by rw [esz,Sd];omega));have hg:=Sg (Z9 (UC es p (UP w i,.str i k)) t') S.at_ rfl;have hfill:t'.fill=ns'.length:=by unfold aal;rw [T'.dm,<-Rf,T'.pl,QN,tU T',esz];rfl
  split
  ·rename_i c;simp only [ZX,WE] at c;unfold Ze at c;rw [hfill,f1,decide_eq_true_eq] at c;have hW:(Um (Wj ns'.length)=32/\ns'.length=5)\/(Um (Wj ns'.length)=128/\ns'.length=19):=by
    unfold Wj;rw [if_neg (by omega)];rcases T.mo with h | h | h
    ·rw [h] at c rm;have:ns'.length=5:=by omega
     rw [this];exact .inl ⟨Gs,rfl⟩
    ·rw [h] at c rm;have:ns'.length=19:=by omega
     rw [this];exact .inr ⟨Gu,rfl⟩
    ·rw [h] at c;omega
   have hmo:kQ (Um (Wj ns'.length) - 1):=by rcases hW with ⟨h,_⟩ | ⟨h,_⟩ <;> rw [h];exact .inr (.inl rfl);exact .inr (.inr rfl)
   rw [esz];obtain ⟨t2,es2,L2,g1,g2',g3,g4,g5,g6⟩:=Dd (t:=t') (es:=UC es p (UP w i,.str i k)) hmo (by rw [esz];rcases hW with ⟨h,h'⟩ | ⟨h,h'⟩ <;> rw [h] <;> omega);rw [g1];dsimp only
   (refine QF (US (a:=()) rfl ?_))
   obtain ⟨ns2,r1,r2⟩:=p2.perm g6.symm;have es2z:es2.size=ns'.length:=by rw [<-Rf,r2.length,r1.length_eq]
   refine QF (YT (s:={s with heap:=s.heap.update a (Z9 (UC es p (UP w i,.str i k)) t')}) hg rfl ?_ (by rw [es2z,Sd];omega));have Pn:=Sg (Z9 es2 t2) hg rfl;refine QJ (QJ (q2 hm _ ns2 _ _ _ ((V3 _ _ _).trans (V3 _ _ _)) (p1.trans r1) ⟨Pn,⟨L2,g5⟩,g3.trans (f3.trans S.ld),?_,r2,r1.nodup_iff.mp nd'⟩));rw [<-r1.length_eq,g2'];rcases hW with ⟨h,h'⟩ | ⟨h,h'⟩ <;> rw [h,h'] <;> omega
  ·rename_i c;simp only [ZX,WE] at c;unfold Ze at c;rw [hfill,f1,decide_eq_true_eq] at c;exact QJ (QJ (q2 hm _ ns' _ _ _ (V3 _ _ _) p1 ⟨hg,⟨L',T'⟩,f3.trans S.ld,by rw [f1];omega,p2,nd'⟩))
end
theorem gp.keep {w:Ro}{h h':Sa}{a:Q4}{led:Bool}{ns:List Str}{es:Array (Int×QH)}{ep:Nat}{t:RT}(S:gp w h a led ns es ep t) (e:∀o,h.get? a=some o->h'.get? a=some o):gp w h' a led ns es ep t:=
 ⟨e _ S.at_,S.tab,S.ld,S.rm,S.en,S.nd⟩
section
variable {w:Ro}{prog:Q2}{R:XU->QL->Prop}{A:RA}{I:Q4}{fp wr:List Q4}{G:Array aa7->Array aa7->Prop}{n:Nat}{P:Nat->QH->Prop}{St:Nat->QL->Prop}
theorem DC (W:WalksS prog w A.in1 I fp wr G n P St) (S:Q4) (hSf:S∉fp) (val:Nat->Str) (hval:∀i v,P i v->∃t,v=.str (val i) t) (hn:(fV ((QX n).map val)).length < 76){led:Bool}:
  ∀(k i:Nat) (s:QL) (ns:List Str) (es:Array (Int×QH)) (ep:Nat) (t:RT),n - i=k->i<=n->St i s->gp w s.heap S led ns es ep t->(∀d,d∈ns↔d∈(QX i).map val)->
   (∀s' ns' es' ep' t',Moved (S::wr) G s s'->gp w s'.heap S led ns' es' ep' t'->(∀d,d∈ns'↔d∈(QX n).map val)->R (.ok (.ret .none)) s')->
   (SQ (Rb prog w) A (.builtin "set.update.loop" ⟨[.ref S,.ref I],[]⟩) R s):=by
 (have OW:S∉wr:=λh=>hSf (W.sub _ h))
 (have hsub:∀b∈wr,b∈S::wr:=λb hb=>QO _ hb)
 intro k
 induction k with
 | zero=>
  intro i s ns es ep t hk hi hst hS hm hR;have hin:i=n:=by omega
  subst hin;refine So UM ?_;rw [RW Su _]
  (show Q8 _ A.in1 (U_ (.ref I) >>= _) _ _ s)
  refine QF (W.done s _ _ hst λs' O1=>?_)
  (show Q8 _ A.in1 (ret SS) _ _ s')
  exact QJ (hR s' ns es ep t (O1.mono hsub) (hS.keep λo e=>O1.heap S o OW e) hm)
 | succ k ih=>
  intro i s ns es ep t hk hi hst hS hm hR;have hlt:i < n:=by omega
  have hlen:ns.length < 76:=SK (Sn hS.nd λd hd=>(iU _ d).mpr (by
   obtain ⟨j,hj,e⟩:=Rg.mp ((hm d).mp hd);exact Rg.mpr ⟨j,Rc.mpr (Sf (Rc.mp hj) hlt),e⟩)) hn
  refine So UM ?_;rw [RW Su _]
  (show Q8 _ A.in1 (U_ (.ref I) >>= _) _ _ s)
  refine QF (W.item i s _ _ hlt hst λv s' hP O_ O1=>?_);obtain ⟨tk,rfl⟩:=hval i v hP;have hS':=hS.keep (h':=s'.heap) λo e=>O1.heap S o OW e;have mem':∀(ns':List Str),(∀d,d∈ns'↔d=val i\/d∈ns)->∀d,d∈ns'↔d∈(QX (i + 1)).map val:=λns' h d=>by rw [h d,hm d,Xo,RS,Rl];simp only [Ri,Y3,QK];exact Or.comm
  show Q8 _ A.in1 (holding [.str (val i) tk] (setAdd S (.str (val i) tk)) >>= _) _ _ s'
  (refine QF (RJ ?_))
  unfold setAdd;refine RJ ?_
  (refine QF (WO ?_))
  refine yN (s:={s' with toks:=s'.toks + 1}) hS' hlen (λhin=>?_) (λhin h' ns' es' ep' t' Pa OZ Pd=>?_)
  ·refine QJ ⟨S4 Su _,ih (i + 1) _ ns es ep t (by omega) hlt (W.frame _ s' _ _ O_ (Tg _) λb hb o e=>e) hS' (mem' ns λd=>⟨.inr,λh=>h.elim (λh=>h▸hin) id⟩) λs'' ns'' es'' ep'' t'' hm'' hS'' Pp=>?_⟩;exact hR s'' ns'' es'' ep'' t'' (aa3 W.gtrans ((O1.mono hsub).then_heap (Tg _) λb o hb e=>e) hm'') hS'' Pp
  ·refine QJ ⟨S4 Su _,ih (i + 1) _ ns' es' ep' t' (by omega) hlt (W.frame _ s' _ _ O_ (Tg _) λb hb o e=>?_) Pd (mem' ns' λd=>?_) λs'' ns'' es'' ep'' t'' hm'' hS'' Pp=>?_⟩
   ·(rw [Pa.2 b (λh:b=S=>hSf (by rw [<-h];exact hb))];exact e)
   ·rw [<-OZ.mem_iff,QZ]
   ·refine hR s'' ns'' es'' ep'' t'' (aa3 W.gtrans ((O1.mono hsub).then_heap (Tg _) λb o hb e=>?_) hm'') hS'' Pp
    (rw [Pa.2 b (λh:b=S=>hb (by rw [h];exact QT))];exact e)
end
theorem rT {w:Ro}{h:Sa}{a:Q4}{led:Bool}(e:h.get? a=some {cls:=.type "set",dict:=none,data:=.set #[] 0 (.fresh 0 0 led)}):gp w h a led [] #[] 0 (.fresh 0 0 led):=
 ⟨e,⟨[],⟨rfl,rfl,rfl,Vg,(λ_ h=>nomatch h),.inl rfl,Rj _,(λ_ h=>nomatch h)⟩⟩,rfl,(show 0 * 5 < 7 * 3 by decide),.nil,UH⟩
section
variable {w:Ro}{prog:Q2}{A:RA}{s:QL}{E:QH->QL->Prop}{l:Q4}{items:Array QH}{ds:List Str}
theorem Cu (hz:items.size=ds.length) (hi:∀(i:Nat) (v:QH),items[i]?=some v->∃t,v=.str (ds.getD i "") t) (hn:(fV ds).length < 76){I:Q4}{fp:List Q4}{St:Nat->QL->Prop}{h2:Sa}{R:_->QL->Prop}(W:WalksS prog w A.in1.in1.in1 I fp [I] (λa b=>b=a) items.size (λi v=>items[i]?=some v) St) (hSf:s.heap.objs.size∉fp) (st:St 0 {s with heap:=h2})
  (hk:∀b o,(s.heap.push (fN (dF w))).get? b=some o->h2.get? b=some o) (hR:∀s',Moved [s.heap.objs.size,I] (λa b=>b=a) {s with heap:=h2} s'->(∃ks es ep t,gp w s'.heap s.heap.objs.size (dF w) ks es ep t/\∀d,d∈ks↔d∈ds)->R (.ok (.ret .none)) s'):SQ (Rb prog w) A.in1.in1 (.builtin "set.update.loop" ⟨[.ref s.heap.objs.size,.ref I],[]⟩) R {s with heap:=h2}:=by
 have all:(QX items.size).map (λi=>ds.getD i "")=ds:=by refine UO (by simp [hz]) λi a b=>?_;simp [b]
 exact DC (A:=A.in1.in1) (led:=dF w) W s.heap.objs.size hSf (λi=>ds.getD i "") hi (by rw [all];exact hn) items.size 0 _ [] #[] 0 (.fresh 0 0 (dF w)) (by omega) (Rj _) st (rT (hk _ _ (QW _ rfl))) (λd=>by simp) λs' ks es ep t hm hS' hmem=>hR s' hm ⟨ks,es,ep,t,hS',by rw [all] at hmem;exact hmem⟩
noncomputable abbrev Mz (Q:QH->QL->Prop) (w:Ro) (s:QL) (ds:List Str):Prop:=∀(h':Sa) (tk:Nat) ks es ep t,gp w h' s.heap.objs.size (dF w) ks es ep t->(∀d,d∈ks↔d∈ds)->(∀b o,b < s.heap.objs.size->s.heap.get? b=some o->h'.get? b=some o)->Q (.ref s.heap.objs.size) {s with heap:=h',toks:=tk}
theorem IC {Q:QH->QL->Prop}(hh:A.handled=none) (hl:s.heap.IsTuple l items) (hz:items.size=ds.length) (hi:∀(i:Nat) (v:QH),items[i]?=some v->∃t,v=.str (ds.getD i "") t) (hn:(fV ds).length < 76) (h:Mz Q w s ds):(Q8 (Rb prog w) A (call (.type "set") [.ref l]) Q E s):=by obtain ⟨ol,OL,hcl,_⟩:=id hl;exact xT (λh'=>∃ks es ep t,gp w h' s.heap.objs.size (dF w) ks es ep t/\∀d,d∈ks↔d∈ds) OL hcl Ds Dr (by decide) (Ej hh hl) (λW a _ c d e=>Cu hz hi hn W a c d e) λh' tk ⟨ks,es,ep,t,a,b⟩=>h h' tk ks es ep t a b
theorem xV {Q:QH->QL->Prop}(hh:A.handled=none) (hl:s.heap.IsList l items) (hz:items.size=ds.length) (hi:∀(i:Nat) (v:QH),items[i]?=some v->∃t,v=.str (ds.getD i "") t) (hn:(fV ds).length < 76) (h:Mz Q w s ds):(Q8 (Rb prog w) A (call (.type "set") [.ref l]) Q E s):=by obtain ⟨ol,OL,hcl,_⟩:=id hl;exact xT (λh'=>∃ks es ep t,gp w h' s.heap.objs.size (dF w) ks es ep t/\∀d,d∈ks↔d∈ds) OL hcl Cj Ci (by decide) (GV hh hl) (λW a _ c d e=>Cu hz hi hn W a c d e) λh' tk ⟨ks,es,ep,t,a,b⟩=>h h' tk ks es ep t a b
end
section
variable {prog:Q2}{w:Ro}{A:RA}{E:QH->QL->Prop}{s:QL}
theorem wp_choose {M:ZJ}{src:Source}{n:Nat}{Q:Nat->QL->Prop}(hn:n≠0) (h:∀i dr,i < n->Q i {s with drawn:=dr}):Q8 M A (choose src n) Q E s:=fun Γ p hΓ=>by show n≠0/\_;exact ⟨hn,h _ _ (Wu _ (Nat.pos_of_ne_zero hn))⟩
theorem y_ {α:Type}{M:ZJ}:∀(n:Nat) (xs:List α) (s:QL) (Q:List α->QL->Prop),xs.length=n->(∀l dr,l.Perm xs->Q l {s with drawn:=dr})->Q8 M A (drawOrder n xs) Q E s
 | 0,xs,s,Q,hn,h=>by have:xs=[]:=WJ.mp hn;subst this;exact QJ (h [] s.drawn (.refl _))
 | n + 1,[],s,Q,hn,h=>by cases hn
 | n + 1,x::xs,s,Q,hn,h=>by
  show Q8 _ _ (choose Source.order (x::xs).length >>= _) _ _ s;refine QF (wp_choose (by simp) λi dr hi=>?_);have e:(x::xs)[i]?=some (x::xs)[i]:=Q5 hi;rw [e];dsimp only;refine QF (y_ n ((x::xs).eraseIdx i) _ _ (by rw [XM,if_pos hi];omega) λl dr' p=>QJ ?_);refine h _ dr' ((p.cons _).trans ?_);have e1:(x::xs).eraseIdx i=(x::xs).take i++(x::xs).drop (i + 1):=Vk _ _;have e2:(x::xs)=(x::xs).take i++(x::xs)[i]::(x::xs).drop (i + 1):=by rw [W6,Ux]
  rw [e1];exact (WU.symm).trans (Xv e2.symm)
structure jK (h:Sa) (a:Q4) (es:Array (Int×QH)) (ep:Nat) (t:RT):Prop where
 at_:h.get? a=some {cls:=.type "set",dict:=none,data:=.set es ep t}
 tab:∃L,Tab t es L
 pl:t.plain=false
 two:1 < es.size
theorem jK.keep {h h':Sa}{a:Q4}{es:Array (Int×QH)}{ep:Nat}{t:RT}(S:jK h a es ep t) (e:∀o,h.get? a=some o->h'.get? a=some o):jK h' a es ep t:=⟨e _ S.at_,S.tab,S.pl,S.two⟩
noncomputable abbrev wR (a T:Q4) (i n ep:Nat):Obj:={cls:=.type "set_iterator",data:=.fields #[.ref T,.int i 0,.ref a,.int n 0,.int ep 0]}
noncomputable abbrev sd (os:List Nat):Obj:={cls:=.type "tuple",data:=.seq (os.map λ(i:Nat)=>aar i).toArray}
theorem AI {a:Q4}{es:Array (Int×QH)}{ep:Nat}{t:RT}{Q:QH->QL->Prop}(hw:w.params.followText "set-order"=false) (S:jK s.heap a es ep t) (hz:es.size<=76)
  (hQ:∀(os:List Nat) dr,os.Perm (QX es.size)->Q (.ref (s.heap.objs.size + 1)) {s with heap:=(s.heap.push (sd os)).push (wR a s.heap.objs.size 0 es.size ep),drawn:=dr}):Q8 (Rb prog w) A (WR (.ref a)) Q E s:=by
 obtain ⟨L,T⟩:=S.tab;have hT:s.TypeIs (.ref a) "set":=⟨_,S.at_,rfl⟩;refine Vl hT V1 (RX V1 hT j_ ?_ (YQ _));show Q8 _ _ (Ua a >>= _) _ _ s;unfold Ua;refine QF (QF (Tz S.at_ rfl (c8 T) (QJ ?_)));unfold setDrawn XH;refine QF (QF (Ub S.at_ rfl (c8 T) (QF (QF (SO (QJ (QJ ?_)))))));dsimp only;refine sq (show (!w.params.followText "set-order" && (!t.plain && decide (es.size > 1)))=true by rw [hw,S.pl,decide_eq_true S.two];rfl) ?_;refine QF (y_ es.size (QX es.size) s _ (RO ..) λos dr pm=>?_);have lo:os.length=es.size:=by rw [pm.length_eq,RO]
 refine QF (wpAny_newTuple ?_ (by rw [QN,lo,Sd];omega));have S1:jK (s.heap.push (sd os)) a es ep t:=S.keep λo e=>QM _ e;refine QF (YR S1.at_ rfl (c8 T) ?_);refine QF (Rq ?_);have z1:(s.heap.push (sd os)).objs.size=s.heap.objs.size + 1:=Sh _ _;have q:=hQ os dr pm;rw [<-z1] at q;exact QJ ⟨_,rfl,"set_iterator",_,⟨_,QW _ rfl,rfl⟩,cT.lookup,q⟩
theorem AS {I a T:Q4}{es:Array (Int×QH)}{ep:Nat}{t:RT}{os:List Nat}{i:Nat}{Q:Option QH->QL->Prop}(S:jK s.heap a es ep t) (hI:s.heap.get? I=some (wR a T i es.size ep)) (O6:s.heap.get? T=some (sd os)) (pm:os.Perm (QX es.size)) (hi:i < es.size)
  (hQ:∀h' k e,os[i]?=some k->es[k]?=some e->h'.get? I=some (wR a T (i + 1) es.size ep)->SD I s.heap h'->Q (some e.2) {s with heap:=h'}):Q8 (Rb prog w) A (U_ (.ref I)) Q E s:=by
 obtain ⟨L,TT⟩:=S.tab;have lo:os.length=es.size:=by rw [pm.length_eq,RO]
 have hk:os[i]?=some (os[i]'(by omega)):=Q5 (by omega);generalize (os[i]'(by omega))=k at hk;have kl:k < es.size:=Rc.mp (pm.mem_iff.mp (TZ hk));have ek:es[k]?=some es[k]:=Ss kl;have hT:s.TypeIs (.ref I) "set_iterator":=⟨_,hI,rfl⟩;unfold U_;refine QF (U3 (Sj (name:=UU "__next__") hT cT (RX cT hT g8 ?_ (iG _))));show Q8 _ _ (aan (.ref I) >>= _) _ _ s;refine QF (Wh hI rfl ?_);dsimp only;refine QF (Tz S.at_ rfl (c8 TT) ?_);simp only [bne_self_eq_false,RI,if_false,SG];refine QF (Vq O6 rfl ?_);have ip:(os.map λ(i:Nat)=>aar i).toArray[i]?=some (.int k 0):=by rw [Xz,Rh,hk];rfl
 dsimp only;rw [ip];dsimp only;unfold setNextDrawn;refine QF (QF (Ub S.at_ rfl (c8 TT) ?_));simp only [bne_self_eq_false,RI,if_false,SG];rw [ek];refine QJ ?_;refine QF (TX hI (by simp) λh1 g1 b1=>?_);exact QJ ⟨_,rfl,QJ (hQ h1 k _ hk ek (g1.trans (by simp [aar])) b1)⟩
theorem BR {I a T:Q4}{es:Array (Int×QH)}{ep:Nat}{t:RT}{os:List Nat}{Q:Option QH->QL->Prop}(hh:A.handled=none) (S:jK s.heap a es ep t) (hI:s.heap.get? I=some (wR a T es.size es.size ep)) (O6:s.heap.get? T=some (sd os)) (pm:os.Perm (QX es.size))
  (hQ:∀h',aa1 I s.heap h'->Q none {s with heap:=h'}):Q8 (Rb prog w) A (U_ (.ref I)) Q E s:=by
 obtain ⟨L,TT⟩:=S.tab;have lo:os.length=es.size:=by rw [pm.length_eq,RO]
 have hT:s.TypeIs (.ref I) "set_iterator":=⟨_,hI,rfl⟩;unfold U_;refine QF (U3 (Sj (name:=UU "__next__") hT cT (RX cT hT g8 ?_ (iG _))));show Q8 _ _ (aan (.ref I) >>= _) _ _ s;refine QF (Wh hI rfl ?_);dsimp only;refine QF (Tz S.at_ rfl (c8 TT) ?_);simp only [bne_self_eq_false,RI,if_false,SG];refine QF (Vq O6 rfl ?_);have ip:(os.map λ(i:Nat)=>aar i).toArray[es.size]?=none:=by rw [Xz,List.getElem?_eq_none_iff,QN,lo];exact QV _
 dsimp only;rw [ip];dsimp only;refine QF (TX hI (by simp) λh0 g0 b0=>?_);refine QF (TX (s:={s with heap:=h0}) g0 (by simp) λh1 g1 b1=>?_);refine QF ?_;simp only [newExc,newTuple]
 (refine QF (Rq ?_ (by size_fits)))
 (refine QF (m:=Wi _ _) (US (a:=SS) (by first | rfl | (simp only [Wi];rfl)) ?_))
 (refine Rq ?_ (by size_fits))
 simp only [raiseNew]
 (refine QF (aao ?_))
 (first | rw [show A.in1.handled=none from hh] | rw [hh])
 (refine QF (QJ (wpAny_throw ?_)))
 (refine QF (WW (T:="StopIteration") (b:=true) ⟨_,QW _ rfl,rfl⟩ ZW ?_))
 exact QJ (hQ _ (((b0.trans b1).extBut.push _).push _))
noncomputable def qH (es:Array (Int×QH)) (os:List Nat):List QH:=os.filterMap λk=>es[k]?.map (·.2)
theorem Jo {es:Array (Int×QH)}{os:List Nat}(pm:os.Perm (QX es.size)){i k:Nat}{e:Int×QH}(h1:os[i]?=some k) (h2:es[k]?=some e):(qH es os)[i]?=some e.2:=by
 have:qH es os=os.map λk=>(es.getD k default).2:=by
  unfold qH;have key:∀l:List Nat,(∀k∈l,k < es.size)->(l.filterMap λk=>es[k]?.map (·.2))=l.map λk=>(es.getD k default).2:=λl=>by
   induction l with
   | nil=>intro _;rfl
   | cons a l ih=>
    intro h;have ha:=h a QT;rw [Ww (b:=(es.getD a default).2) (by rw [Ss ha];simp [Tf,ha]),Ri,ih λk hk=>h k (QO _ hk)]
  exact key os λk hk=>Rc.mp (pm.mem_iff.mp hk)
 rw [this,Rh,h1];obtain ⟨hk,rfl⟩:=R4.mp h2;simp [Tf,hk]
theorem wD {es:Array (Int×QH)}{os:List Nat}(pm:os.Perm (QX es.size)):(qH es os).Perm (es.toList.map (·.2)):=by refine (pm.filterMap _).trans (Xv ?_);have:=filterMap_getElem?_range es;rw [<-this,List.map_filterMap]
theorem yF (hh:A.handled=none) (I a T:Q4) (hne:a≠I) (hnt:T≠I){es:Array (Int×QH)}{ep:Nat}{t:RT}{os:List Nat}(pm:os.Perm (QX es.size)):
  Walks prog w A I [I,a,T] [I] es.size (λi v=>(qH es os)[i]?=some v) (λi h=>h.get? I=some (wR a T i es.size ep)/\h.get? T=some (sd os)/\jK h a es ep t) where
 sub:=λ_ hb=>by simp at hb;simp [hb]
 frame:=λ_ _ _ ⟨h1,h2,h3⟩ hk=>⟨hk I (by simp) _ h1,hk T (by simp) _ h2,h3.keep λo e=>hk a (by simp) o e⟩
 item:=λi s Q E hi ⟨h1,h2,h3⟩ hQ=>by
  refine AS h3 h1 h2 pm hi λh' k e q1 q2 q3 q4=>?_;refine hQ e.2 h' s.toks (Jo pm q1 q2) ⟨q3,?_,h3.keep λo e=>?_⟩ λb o hb e=>?_
  ·rw [q4.2 T hnt];exact h2
  ·rw [q4.2 a hne];exact e
  ·exact q4.extBut b o (λh=>hb (by simp [h])) e
 done:=λs Q E ⟨h1,h2,h3⟩ hQ=>BR hh h3 h1 h2 pm λh' he=>hQ h' s.toks λb o hb e=>he b o (λh=>hb (by simp [h])) e
 self:=λi s Q E ⟨h1,h2,h3⟩ hQ=>by have hT:s.TypeIs (.ref I) "set_iterator":=⟨_,h1,rfl⟩;refine Vl hT iM (RX iM hT mJ ?_ (nc _));show Q8 _ _ (ret (.ref I)) _ _ s;exact QJ ⟨_,rfl,"set_iterator",_,hT,cT.lookup,hQ⟩
theorem uU {a:Q4}{es:Array (Int×QH)}{ep:Nat}{t:RT}{Q:List QH->QL->Prop}(hw:w.params.followText "set-order"=false) (hh:A.handled=none) (S:jK s.heap a es ep t) (hn:es.size<=76)
  (hQ:∀(os:List Nat) (dr:Drawn) (h':Sa) (tk:Nat),os.Perm (QX es.size)->(∀b o,s.heap.get? b=some o->h'.get? b=some o)->s.heap.objs.size < h'.objs.size->Q (qH es os) {s with heap:=h',toks:=tk,drawn:=dr}):Q8 (Rb prog w) A (collect (.ref a)) Q E s:=by
 have ha:a < s.heap.objs.size:=Q6 S.at_;unfold collect
 (refine QF (XY (So Xx ?_)))
 (rw [RW Xy _])
 show Q8 _ A.in1 (newList [] >>= λl=>again (.builtin "list.__iadd__" ⟨[l,.ref a],[]⟩)) _ _ s
 (refine QF (Rq ?_))
 (refine QJ ⟨S4 Vm _,So YS ?_⟩)
 (rw [RW Vm _])
 generalize O8:({cls:=.type "list",data:=.seq ([]:List QH).toArray}:Obj)=l0;have S1:jK (s.heap.push l0) a es ep t:=S.keep λo e=>QM _ e;have hT1:U9 {s with heap:=s.heap.push l0} (.ref a) "set":=⟨_,S1.at_,rfl⟩;show Q8 _ A.in1 (TF (.ref s.heap.objs.size) (.ref a) (.ref s.heap.objs.size)) _ _ _
 (unfold TF)
 refine QF (UW hT1 ?_);have h1:Wx (.ref s.heap.objs.size) (.ref a)=false:=by show (s.heap.objs.size == a)=false;exact beq_eq_false_iff_ne.mpr (S7 ha)
 have h2:(T4 "set" == T4 "list")=false:=by decide
 have h3:(T4 "set" == T4 "tuple")=false:=by decide
 (simp only [h1,h2,h3,Yo,RI,if_false])
 refine QF (AI hw S1 hn λos dr pm=>?_)
 (refine QF (RJ ?_))
 have z1:(s.heap.push l0).objs.size=s.heap.objs.size + 1:=Sh _ _;rw [z1];have z2:((s.heap.push l0).push (sd os)).objs.size=s.heap.objs.size + 1 + 1:=by rw [Sh,z1]
 obtain ⟨hp,ehp⟩:∃hp,hp=((s.heap.push l0).push (sd os)).push (wR a (s.heap.objs.size + 1) 0 es.size ep):=⟨_,rfl⟩;rw [<-ehp];have kp:∀b o,(s.heap.push l0).get? b=some o->hp.get? b=some o:=λb o e=>by rw [ehp];exact QM _ (QM _ e)
 have S2:jK hp a es ep t:=S1.keep λo e=>kp _ o e;have hT2:U9 {s with heap:=hp,drawn:=dr} (.ref a) "set":=⟨_,S2.at_,rfl⟩;refine wO hT2 ?_;refine sq (by decide +kernel) ?_
 (refine QF (VL ?_))
 subst O8;have hI:hp.get? (s.heap.objs.size + 1 + 1)=some (wR a (s.heap.objs.size + 1) 0 es.size ep):=by rw [ehp,<-z2];exact QW _ rfl
 have O6:hp.get? (s.heap.objs.size + 1)=some (sd os):=by rw [ehp,<-z1];exact QM _ (QW _ rfl)
 have hS₁:hp.get? s.heap.objs.size=some {cls:=.type "list",data:=.seq ([]:List QH).toArray}:=kp _ _ (QW _ rfl);refine QF ?_
 (show Q8 _ A.in1 (Xk s.heap.objs.size (·.push .none) >>= λ_=>Xk s.heap.objs.size (·.pop)) _ _ _)
 (refine QF (S_ hS₁ rfl ?_))
 (have hS₂:=Sg (T7 (·.push SS)) hS₁ rfl)
 (refine S_ hS₂ rfl ?_)
 (have hS₃:=Sg (T7 (·.pop)) hS₂ rfl)
 have oth:∀b o,b≠s.heap.objs.size->hp.get? b=some o->((hp.update s.heap.objs.size (T7 (·.push SS))).update s.heap.objs.size (T7 (·.pop))).get? b=some o:=
  (λb o hb e=>(RK _ _ (Sb hb)).trans ((RK _ _ (Sb hb)).trans e))
 have l1:s.heap.objs.size < s.heap.objs.size + 1:=RN _;have l2:s.heap.objs.size + 1 < s.heap.objs.size + 1 + 1:=RN _;have hne:a≠s.heap.objs.size + 1 + 1:=Q7 (Sf (Sf ha l1) l2);have hSf:s.heap.objs.size∉[s.heap.objs.size + 1 + 1,a,s.heap.objs.size + 1]:=by simp only [QZ,SN,or_false,not_or];exact ⟨Q7 (Sf l1 l2),S7 ha,Q7 l1⟩
 obtain ⟨L,T⟩:=S.tab;refine QJ ⟨S4 X8 _,XN ((yF (A:=A.in1) (prog:=prog) (w:=w) (es:=es) (ep:=ep) (t:=t) hh (s.heap.objs.size + 1 + 1) a (s.heap.objs.size + 1) hne (Q7 l2) pm).toS) (by rw [Sd];omega) _ hSf _ es.size 0 _ _ _ rfl (Rj _)
  ⟨oth _ _ (S7 (Sf l1 l2)) hI,oth _ _ (S7 l1) O6,S2.keep λo e=>oth _ _ (Q7 ha) e⟩ hS₃ (aa2 _) λs' acc' c' hm hS' hacc=>?_⟩
 (show Q8 _ A (load s.heap.objs.size >>= _) _ _ s')
 (refine QF (Z1 hS' ?_))
 have eacc:acc'.toList=qH es os:=by
  obtain ⟨z,q⟩:=hacc;have lw:(qH es os).length=es.size:=by rw [(wD pm).length_eq,QN,Rf]
  refine UO (by rw [Rf,z,lw]) λi x1 x2=>?_;have this:(qH es os)[i]?=some (acc'[i]'(by simpa using x1)):=q i _ (Ss (by simpa using x1));rw [Q5 x2] at this
  (exact (RP this).symm)
 refine QJ ?_;rw [eacc]
 (obtain ⟨h',g',d',tk',os'⟩:=s')
 (have eg:g'=s.gens:=hm.gens)
 (have ed:d'=dr:=hm.drawn)
 have eo:os'=s.os:=hm.os;subst eg;subst ed;subst eo;refine hQ os d' h' tk' pm (λb o e=>?_) (Q6 hS');have lb:=Q6 e;refine hm.heap b o ?_ (oth b o (Q7 lb) (kp _ _ (QM _ e)));simp only [QZ,SN,or_false,not_or];exact ⟨Q7 lb,Q7 (Sf (Sf lb l1) l2)⟩
theorem A9 {x:QH}{ks:List Str}{Q:QH->QL->Prop}(h64:ks.length < 64) (Pg:∀(E:QH->QL->Prop) (C:List QH->QL->Prop),(∀vs ss dr h1 tk,Wf vs ss->ss.Perm ks->Kp s.heap h1->s.heap.objs.size<=h1.objs.size->C vs {s with heap:=h1,toks:=tk,drawn:=dr})->Q8 (Rb prog w) A.in1 (collect x) C E s)
  (h:∀h' tk dr l n (out:Array QH) ss',Wf out.toList ss'->ss'.Perm ks->sortedS ss'=true->Kp s.heap h'->s.heap.objs.size<=l->h'.get? l=some (abd "list" out n)->Q (.ref l) {s with heap:=h',toks:=tk,drawn:=dr}):Q8 (Rb prog w) A (call (.builtin "sorted") [x]) Q E s:=by
 refine Calls.call_function_entry kind_sorted plain_sorted entry_sorted (args_sorted1 _) ?_;unfold WB.«sorted»;refine QF (m:=checkCount "sorted" 1 1 _) (QJ ?_);refine QF (Pg _ _ λvs ss dr h1 tk hS pm k1 le1=>?_);have lv:vs.length < 64:=by
  have e:vs.length=ss.length:=by
   clear pm
   induction hS with
   | nil=>rfl
   | cons x t _ ih=>simp [ih]
  rw [e,pm.length_eq];exact h64
 refine QF (wpAny_newList ?_ (by rw [Sd];omega));have gL:(h1.push (abd "list" vs.toArray 0)).get? h1.objs.size=some (abd "list" vs.toArray 0):=QW _ rfl;refine QF (RJ (RX slot_list_sort ⟨_,gL,rfl⟩ entry_list_sort (list_sort_treeK strKind_oneLt gL hS.keysOf (λv₁ v₂ rest e=>keyKind_strs (by rw [<-e];exact hS)) lv λst' a1 a2=>⟨_,rfl,?_⟩) (args_list_sort _)));obtain ⟨ss',b1,b2,b3⟩:=sorted_out_str hS a1 a2;obtain ⟨n,hn⟩:=sortedHeap_at (out:=(arrOf st').map (·.2)) gL;refine QJ ⟨_,rfl,h _ tk dr _ n _ ss' b1 (b2.trans pm) b3 (λb o e=>?_) le1 hn⟩;have e1:=k1 b o e;rw [sortedHeap_old (Q7 (Q6 e1)) (Q6 (QM _ e1))];exact QM _ e1
theorem fC.are {es:List (Int×QH)}{ns:List Str}(h:fC w es ns):Wf (es.map (·.2)) ns:=by
 induction h with
 | nil=>exact .nil
 | cons _ ih=>exact .cons _ _ ih
theorem Wf.perm {vs vs':List QH}(p:vs.Perm vs'):∀{ss:List Str},Wf vs ss->∃ss',ss'.Perm ss/\Wf vs' ss':=by
 induction p with
 | nil=>intro ss h;exact ⟨ss,.refl _,h⟩
 | cons x _ ih=>
  intro ss h;cases h with
  | cons a t h=>obtain ⟨ss',p,q⟩:=ih h;exact ⟨_,p.cons _,.cons _ _ q⟩
 | swap x y l=>
  intro ss h;cases h with
  | cons a t h=>cases h with
   | cons b u h=>exact ⟨_,.swap _ _ _,.cons _ _ (.cons _ _ h)⟩
 | trans _ _ ih1 ih2=>
  intro ss h;obtain ⟨s1,p1,q1⟩:=ih1 h;obtain ⟨s2,p2,q2⟩:=ih2 q1;exact ⟨s2,p2.trans p1,q2⟩
theorem yp {a:Q4}{ks:List Str}{es:Array (Int×QH)}{ep:Nat}{t:RT}{C:List QH->QL->Prop}(hh:A.handled=none) (S:gp w s.heap a (dF w) ks es ep t) (hn:ks.length<=76)
  (hC:∀vs ss dr h1 tk,Wf vs ss->ss.Perm ks->Kp s.heap h1->s.heap.objs.size<=h1.objs.size->C vs {s with heap:=h1,toks:=tk,drawn:=dr}):Q8 (Rb prog w) A (collect (.ref a)) C E s:=by
 have hes:es.size=ks.length:=by rw [<-Rf,S.en.length]
 by_cases c:dF w=true/\(!t.plain && decide (es.size > 1))=true
 ·obtain ⟨c1,c2⟩:=c;rw [Ra] at c2;refine uU (by cases q:w.params.followText "set-order" with
   | true=>rw [show dF w=!w.params.followText "set-order" from rfl,q] at c1;cases c1
   | false=>rfl) hh (t:=t) (ep:=ep) ⟨S.at_,S.tab,by simpa using c2.1,by simpa using c2.2⟩ (by omega) λos dr h1 tk pm k1 le=>?_
  obtain ⟨ss,p1,q1⟩:=Wf.perm (wD pm).symm S.en.are;exact hC _ ss dr h1 tk q1 p1 k1 (Vs le)
 ·refine yo hh (t:=t) (ep:=ep) (es:=es) ⟨S.at_,S.tab,λz=>?_,S.ld⟩ (by omega) λh1 tk k1 le=>?_
  ·cases q:(!t.plain && decide (es.size > 1)) with
   | true=>exact (c ⟨z,q⟩).elim
   | false=>rfl
  ·obtain ⟨ss,p1,q1⟩:=Wf.perm (vs':=kC w a ep es) ((pK w a ep es).symm.map (·.2)) S.en.are;exact hC _ ss s.drawn h1 tk q1 p1 k1 (Vs le)
end
theorem B_ {X:Cx}{Qw:List (Q4×Obj)}{σ:L2.St}{H:Hp}{s:QL}(I:Inv X Qw σ H s) (dr:Drawn):Inv X Qw σ H {s with drawn:=dr}:=⟨I.ok,I.os,I.bare,I.base,I.loc,I.cell,I.free,I.freeC,I.pin,I.hok,I.len⟩
noncomputable abbrev i_ (w:Ro) (a:Q4) (ns:List Str):HO:=.ext λh=>∃ks es ep t,gp w h a (dF w) ks es ep t/\∀d,d∈ks↔d∈ns
section
variable {X:Cx}
theorem qd {H:Hp}{h:Sa}{a:Q4}{ns ks:List Str}{es:Array (Int×QH)}{ep:Nat}{t:RT}(S:gp X.w h a (dF X.w) ks es ep t) (hm:∀d,d∈ks↔d∈ns):cu X.prog X.w H h a (i_ X.w a ns):=
 ⟨⟨ks,es,ep,t,S,hm⟩,⟨_,S.at_⟩,λh1 h2 ⟨ks,es,ep,t,S,hm⟩ e=>⟨ks,es,ep,t,S.keep e,hm⟩⟩
theorem yk (hc:X.calm=true):fB X (.builtin "sorted") (λxs H Q=>∃p ns,xs=[.ref p]/\H p=some (i_ X.w p ns)/\(fV ns).length < 64/\∀l,H l=none->Q (.ref l) (upd H l (.lst ((fm (fV ns)).map V.str)))):=by
 intro Qw s σ H xs us Q I r h;obtain ⟨p,ns,rfl,hp,l64,q⟩:=h;obtain ⟨u,rfl,rx⟩:=vals1 r;cases rx;have hh:X.A.handled=none:=I.ok.hd hc;obtain ⟨⟨ks,es,ep,t,S,hm⟩,_⟩:=(show cu X.prog X.w H s.heap p (i_ X.w p ns) from I.hok p _ hp);have pm:ks.Perm (fV ns):=(UE S.nd (qF ns)).mpr λd=>by rw [hm d,iU]
 have len:=pm.length_eq;refine A9 (ks:=ks) (by omega) (λE C k=>yp hh S (by omega) k) λh' tk dr l n out ss' a1 a2 a3 kp hl hg=>?_;have e:=rY (a2.trans pm) a3;subst e;have lo:(fm (fV ns)).length=ks.length:=a2.length_eq;exact ⟨.ref l,_,(B_ I dr).laid (t':=tk) kp hl (show cu X.prog X.w _ _ _ (.lst ((fm (fV ns)).map V.str)) from ⟨by rw [QN,lo,Sd];omega,out.toList,n,nW a1,by simpa [abd] using hg⟩),rfl,q l (I.hok.fresh hl)⟩
theorem Ll {K:QG}{J:Hp}{ms:List Str}{us:List QH}(rv:Vals (ms.map V.str) us):∀(i:Nat) (v:QH),us.toArray[i]?=some v->∃t,v=.str (ms.getD i "") t:=λi v q=>by
 have l1:ms.length=us.length:=by have:=rv.length;rwa [QN] at this
 have hi:i < us.length:=by have:=(R4.mp q).1;simpa using this
 have e:us.getD i SS=v:=by simp at q;simp [abn,q]
 have r2:=E7 rv (i:=i) (by rw [QN];omega);rw [e] at r2;have e2:(ms.map V.str).getD i V.non=.str (ms.getD i ""):=by simp [abn,show i < ms.length by omega]
 rw [e2] at r2;exact r2
theorem BH (hc:X.calm=true):fB X (.type "set") (λxs H Q=>∃p ms,xs=[.ref p]/\c6 X.K H p (ms.map V.str)/\(fV ms).length < 64/\∀l,H l=none->Q (.ref l) (upd H l (i_ X.w l ms))):=by
 intro Qw s σ H xs us Q I r h;obtain ⟨p,ms,rfl,hq,l64,q⟩:=h;obtain ⟨u,rfl,rx⟩:=vals1 r;cases rx;have hh:X.A.handled=none:=I.ok.hd hc;have fr:H s.heap.objs.size=none:=I.hok.fresh (QV _);obtain ⟨Qx,r',pl,hz⟩:=I.list hq;have lm:Qx.length=ms.length:=by have:=r'.length;rw [QN] at this;exact this.symm
 refine xV hh pl.isList (by simp [lm]) (Ll (K:=X.K) (J:=H) r') (by omega) λh' tk ks es ep t S hm kp=>?_;exact ⟨.ref s.heap.objs.size,_,I.laid (t':=tk) (λb o e=>kp b o (Q6 e) e) (QV _) (qd S hm),rfl,q _ fr⟩
end
end DL
namespace DL
open PySem PySem.Spec PyProof.Rows L2 ST DX
theorem BA:Sm "set"=some (.type "set"):=by decide +kernel
section
variable {prog:Q2}{w:Ro}{A:RA}{E:QH->QL->Prop}{s:QL}
theorem BE {a:Q4}{es:Array (Int×QH)}{ep:Nat}{t:RT}{led:Bool}{ns:List Str}{x:Str}{k:Tok}{Q:QH->QL->Prop}(S:gp w s.heap a led ns es ep t) (hl:ns.length < 76)
  (h:∀(h':Sa) ns' es' ep' t',SD a s.heap h'->(∀d,d∈ns'↔d=x\/d∈ns)->gp w h' a led ns' es' ep' t'->Q .none {s with heap:=h',toks:=s.toks + 1}):Q8 (Rb prog w) A (call (.builtin "set.add") [.ref a,.str x k]) Q E s:=by
 refine RX F.slot_set_add ⟨_,S.at_,rfl⟩ F.entry_set_add ?_ (F.args_set_add_2 _ _);unfold WB.«set.add» ZI;simp only [List.isEmpty_nil,bind_assoc];unfold Z_ setAdd;refine QF (QJ ?_)
 try dsimp only
 refine QF (QJ ?_)
 try dsimp only
 refine QF ?_;refine RJ ?_;refine QF (WO ?_);refine yN (s:={s with toks:=s.toks + 1}) S hl (λhin=>?_) (λhin h' ns' es' ep' t' Pa OZ Pd=>?_)
 ·show Q8 _ _ (ret SS) _ _ _;exact QJ ⟨_,rfl,h s.heap ns es ep t (YL ..) (λd=>⟨.inr,λz=>z.elim (λz=>z▸hin) id⟩) S⟩
 ·show Q8 _ _ (ret SS) _ _ _;exact QJ ⟨_,rfl,h h' ns' es' ep' t' Pa (λd=>by rw [<-OZ.mem_iff,QZ]) Pd⟩
end
noncomputable def isLet (x:Str):Bool:=match x.cps.toList with
 | [c]=>decide (97<=c) && decide (c < 123)
 | _=>false
noncomputable def Fq:List Str:=(QX 26).map λk=>⟨#[97 + k]⟩
theorem Cc {x:Str}(h:isLet x=true):x∈Fq:=by
 unfold isLet at h;split at h
 ·rename_i c hc;rw [Ra,decide_eq_true_eq,decide_eq_true_eq] at h;refine Rg.mpr ⟨c - 97,Rc.mpr (by omega),?_⟩;rw [show 97 + (c - 97)=c by omega];cases x;congr 1;exact Zb.mp hc.symm
 ·cases h
theorem zl {ns:List Str}(nd:ns.Nodup) (h:∀x∈ns,isLet x=true):ns.length<=26:=by have:=Sn nd λx hx=>Cc (h x hx);unfold Fq at this;simpa using this
noncomputable def sE (ge:G R):Ev->M (List D×Ev):=λe=>ge e >>= λr=>match r with
 | .d (.str x)=>if isLet x=true then .ok ([.str x],e) else .bad
 | _=>.bad
noncomputable def Ac (w:Ro) (p:Q4):Hp->Hp->List D->Prop:=λJ H ys=>∃ns,ys=ns.map .str/\(∀x∈ns,isLet x=true)/\H p=some (i_ w p ns)/\J p=none
theorem DO {w:Ro}{p:Q4}:vn (Ac w p):=⟨fun {J H J' H' ys} ⟨ns,h0,h1,h2,h3⟩ e=>⟨ns,h0,h1,e.h _ _ h2,e.frz _ (by rw [h2];intro z;cases z) h3⟩⟩
noncomputable abbrev DQ (elt:Rz) (p:Q4) (env:Env):Sem Unit:=do let v <-eval elt env;UG elt.pos;let _ <-call (.builtin "set.add") [.ref p,v]
noncomputable def F_ (w:Ro):Hp->Hp->Hp->List Str->V->Prop:=λ_ _ H ns v=>∃p,v=.ref p/\H p=some (i_ w p ns)
structure Fp (X:Cx) (c:C) (e:Rz) (g:G (List Str)):Prop where
 h:PE X e (MM c (F_ X.w) g)
section
variable {prog:Q2}{w:Ro}{A:RA}{Qy Qz:Rz}{ifs:List Rz}{Qv:Uo}{pos:Pos}{it acc:QH}{env:Env}{depth:Nat}{gens:List UB}{act:Sem Unit}
theorem LU {elt:Rz}(ht:WH (.SetComp elt gens Qv pos) depth it acc env=oM Qy Qz ifs it env act (again (.compLoop (.SetComp elt gens Qv pos) depth it acc env))):qq prog w A (.SetComp elt gens Qv pos) depth it acc env Qy ifs act:=by intro R E I hE turn n s h;refine codeAny_loop rfl I (λn s hI=>?_) n h;show Q8 _ A ((WH (.SetComp elt gens Qv pos) depth it acc env).onRaise (λx=>do Zv x env;Zw x)) _ _ s;refine wpAny_noted ?_;rw [ht];exact RM (x_ (E:=E) (Q:=λf s'=>match f with | .done g=>R (.ok g) s' | .again c=>c=_/\∃m,m < n/\I m s') (λ_ h=>h) (λ_ h=>QJ ⟨rfl,h⟩) (turn n s hI)) (λ_ _ h=>h) hE
end
section
variable {prog:Q2}{w:Ro}{A:RA}{R:XU->QL->Prop}{s:QL}{it acc:QH}{env:Env}{Qv:Uo}{pos:Pos}{g0:UB}{Qy Qz:Rz}{ifs:List Rz}{rest:List UB}{elt:Rz}
theorem Il (h0:SQ (Rb prog w) A (.compLoop (.SetComp elt (⟨Qy,Qz,ifs,0⟩::rest) Qv pos) 0 it acc env) R s)
  (h:Q8 (Rb prog w) A (WR it) (λit' s'=>SQ (Rb prog w) A (.compLoop (.SetComp elt (⟨Qy,Qz,ifs,0⟩::rest) Qv pos) 0 it' acc env) R s') (aaj (Rb prog w) A env λx s'=>R (.error x) s') s):
  SQ (Rb prog w) A (.compStart (.SetComp elt (⟨Qy,Qz,ifs,0⟩::rest) Qv pos) 0 it acc env) R s:=by
 refine V0 ?_;show Q8 _ A ((Zx (.SetComp elt (⟨Qy,Qz,ifs,0⟩::rest) Qv pos) 0 it acc env).onRaise (λx=>do Zv x env;UG Zy)) _ _ s;refine aak ?_;unfold Zx;show Q8 _ A (ask >>= _) _ _ s;refine QF (SO (wpAny_ite ?_));split
 ·first
   | exact QF (QJ (QJ (Xq rfl h0)))
   | exact QJ (Xq rfl h0)
 ·refine QF (VL ?_);show Q8 _ _ (UG Qz.pos >>= _) _ _ s;exact QF (Ud (QF (RM h (λit' s' h'=>QJ (Xq rfl h')) λ_ _ x=>x)))
end
theorem Lu (elt t0 i0:Rz) (f0:List Rz) (Qv:Uo) (pos:Pos) (it:QH) (p:Q4) (env:Env):
  WH (.SetComp elt [⟨t0,i0,f0,0⟩] Qv pos) 0 it (.ref p) env=oM t0 i0 f0 it env (DQ elt p env) (again (.compLoop (.SetComp elt [⟨t0,i0,f0,0⟩] Qv pos) 0 it (.ref p) env)):=by rfl
section
variable {X:Cx}{c:C}{p:Q4}{J2 H2:Hp}{elt:Rz}{ge:G R}
theorem DP (hx:∀v s,X.xe v s->False) (hp2:H2 p=none) (hp0:c.H0 p=none) (hE:PD X c elt ge):sC X c p (Ac X.w p) J2 H2 1 (DQ elt p X.env) (sE ge):=by
 intro Qw s σ H J env ys Qf I x2 sr no ⟨ns,h0,h1,h2,h3⟩ hl w;refine QF (RM (hE _ s σ H (λv H8=>∃J8 x,v=.str x/\Ext J H J8 H8/\isLet x=true/\Qf ([.str x],env)) I ⟨J,env,sr,aC (aI w) λr wr v J8 H8 e8 r8=>?_⟩) (λu8 s8 ⟨v8,H8,I8,r8,J8,x,hv,e8,lx,w8⟩=>?_) λv s f=>(hx v s f).elim)
 ·split at wr
  ·split at wr
   ·rename_i lx;cases r8;exact ⟨J8,_,rfl,e8,lx,wr⟩
   ·exact wr.elim
  ·exact wr.elim
 subst hv;obtain ⟨tk,rfl⟩:=r8;have p8:H8 p=some (i_ X.w p ns):=e8.h _ _ h2;have J8p:J8 p=none:=e8.frz _ (by rw [h2];intro z;cases z) h3;obtain ⟨⟨ks,es,ep,t,S,hm⟩,_⟩:=(show cu X.prog X.w H8 s8.heap p (i_ X.w p ns) from I8.hok p _ p8);have kl:ks.length<=26:=zl S.nd λd hd=>h1 d ((hm d).mp hd);refine QF (Ud (QF (BE S (by omega) λh' ns' es' ep' t' sb hm' S'=>?_)));have hm2:∀d,d∈ns'↔d∈ns++[x]:=λd=>by rw [hm' d,hm d,Rl,QK];exact Or.comm
 have I9:Inv X Qw σ (L2.upd H8 p (i_ X.w p (ns++[x]))) {s8 with heap:=h',toks:=s8.toks + 1}:=I8.write (e:=p) (by rw [p8];trivial) (.inl rfl) (λb u hb q=>by rw [sb.2 b hb];exact q) ⟨_,S'.at_⟩ (qd S' hm2);exact QJ ⟨σ,_,J8,([.str x],env),I9,(x2.trans e8).other hp2 J8p,e8.j,(sr.ext e8).other J8p hp0 no,no,⟨ns++[x],by rw [h0,RS];rfl,λz hz=>by
  rcases Rl.mp hz with hz | hz
  ·exact h1 z hz
  ·rw [QK.mp hz];exact lx,bI,J8p⟩,QV _,w8⟩
noncomputable def ya (ys:List D):List Str:=ys.map λd=>match d with
 | .str x=>x
 | _=>Wn
theorem yb (ns:List Str):ya (ns.map .str)=ns:=by unfold ya;rw [R3];exact V4 ns
noncomputable def ve (n:Nat) (cap:List Nat) (gi:G (List D)) (gt:GT) (gts:G Bool) (ge:G R):G (List Str):=jf 10000 n cap gi gt gts (sE ge) λys=>.ok (ya ys)
theorem G9 {s:QL}{Q:QH->QL->Prop}{E:QH->QL->Prop}(q:Q (.ref s.heap.objs.size) {s with heap:=s.heap.push (fN (dF X.w))}):Q8 (Rb X.prog X.w) X.A (newSet (.type "set")) Q E s:=by unfold newSet XH;refine QF (QF (SO (QJ ?_)));dsimp only;simp only [newObj];exact QF (Zt (QJ q))
theorem K4 {e:Rz}{g:G (List Str)}{cm:Option (QH->Sem Unit)->Sem QH}(core:zP X c (F_ X.w) cm g) (hev:eval e X.env=cm none):Fp X c e g:=⟨λQw s σ H Q I h=>by
 rw [hev];exact core I h λacc C m s' H' fl hm hz hf hb q=>⟨m,hm,λh'' sb=>⟨.ref acc,H',hb h'' sb,rfl,q⟩⟩⟩
theorem Ie {p:Q4}{J H J' H':Hp}{ys:List D}{r:List Str}(e:Ext J H J' H') (a:Ac X.w p J' H' ys) (q:M.ok (ya ys)=.ok r):∃J'',Ext J H J'' H'/\F_ X.w H J'' H' r (.ref p):=by obtain ⟨ns,h0,h1,h2,h3⟩:=a;cases q;rw [h0,yb];exact ⟨J',e,p,rfl,h2⟩
theorem K3 (own:List Str) (cap:List Nat){elt t0 i0:Rz}{f0:List Rz}{Qv:Uo}{pos:Pos}{gi0:G (List D)}{gt0:GT}{gts0:G Bool}{ge:G R}(hi:Bu X c t0 i0 gi0)
  (hbody:∀(cl:List (Str×Q4)) (C:Q4) (s:QL) (H:Hp) (fp:List Q4),fQ X.env.cells Qv.names []=some cl->qy (fc X own cap Qv cl C s H fp) c t0 gt0/\sD (fc X own cap Qv cl C s H fp) c f0 gts0/\QD (fc X own cap Qv cl C s H fp) c elt ge)
  (a:Bj X Qv cap i0:=by exact Jg rfl):Fp X c (.SetComp elt [⟨t0,i0,f0,0⟩] Qv pos) (ve own.length cap gi0 gt0 gts0 ge):=by
 refine K4 ?_ rfl;refine pT (e:=.SetComp elt [⟨t0,i0,f0,0⟩] Qv pos) (ob:=fN (dF X.w)) (o0:=λp=>i_ X.w p []) (Acc:=λp _=>Ac X.w p) (N:=1) (lim:=10000) (m:=λp env=>DQ elt p env) own cap rfl hi.h
  (λs Q E q=>G9 q) (λh H=>qd (rT (QW _ rfl)) λd=>Iff.rfl) (λp _=>DO) (λp _ J H _ h1 h2=>⟨[],rfl,λ_ h=>(nomatch h),h1,h2⟩) (by decide) (λit p env=>LU (Lu ..)) (λit acc env R s h0 h=>Il h0 h) (λys z q=>by cases q)
  (fun {p H2 J H J' H' ys r} hp _ e a q=>Ie e a q) (λcl C s H fp hcc=>?_) ye a
 obtain ⟨b1,b2,b3⟩:=hbody cl C s H fp hcc;exact ⟨b1.h,b2.h,λp J2 H2 hp2 hp0=>DP (λ_ _ f=>f) hp2 hp0 b3.h⟩
noncomputable def FO (gs:G (List R)):G (List Str):=λenv=>gs env >>= λrs=>match rs with
 | [r]=>fS r >>= λxs=>(match strsOf xs with
  | some ss=>if (fV ss).length < 64 then .ok ss else .bad
  | none=>.bad)
 | _=>.bad
theorem HY {e:Rz}{p:Pos}{pos:Pos}{gs:G (List R)}(ha:j5 X c [e] gs) (hm:X.mg "set"=none) (hK:autoParam (X.K=c.K) zA._auto_1) (hc:autoParam (X.calm=true) zA._auto_1) (hg:autoParam (Gl X "set") zA._auto_1)
  (he:autoParam (QY [e] X.env=(false,eval e X.env)::QY [] X.env) zA._auto_1) (hpl:autoParam ((Tn pos (QY [] X.env)).any (·.1)=false) zA._auto_1):Fp X c (.Call (.Name "set" p) [e] [] pos) (FO gs):=
 ⟨eE (nG (BH hc) hg hm BA ha.h (by decide) (by decide) he hpl) λσ H Q ⟨J,env,sr,w⟩=>by
  refine ⟨J,env,sr,aC (aI w) λrs wr vs J1 H1 e1 r1=>?_⟩;split at wr
  ·obtain ⟨v,rfl,r⟩:=r1.one;rename_i r0;obtain ⟨xs,q,wr⟩:∃xs,fS r0=.ok xs/\cM (match strsOf xs with
    | some ss=>if (fV ss).length < 64 then M.ok ss else M.bad
    | none=>M.bad) (λr=>∀(v:V) (J' H':Hp),Ext J H J' H'->F_ X.w H J' H' r v->Q v H') c.T:=by
    cases q:fS r0 with
    | ok xs=>rw [q] at wr;exact ⟨xs,rfl,wr⟩
    | bad=>rw [q] at wr;exact wr.elim
    | exc z=>unfold fS at q;split at q <;> cases q
   obtain ⟨p,vs,rfl,h1,h2⟩:=RR.list (sr.hp.ext e1) r q;split at wr
   ·rename_i ss z;split at wr
    ·rename_i hl;have:=mq z h2;subst this;refine ⟨p,ss,rfl,by rw [hK];exact h1,hl,λl hl'=>?_⟩;exact wr _ _ _ (e1.trans (Ext.new e1.sub hl' _)) ⟨l,rfl,bI⟩
    ·exact wr.elim
   ·exact wr.elim
  ·exact wr.elim⟩
noncomputable def k8 (g:G (List Str)):G R:=λenv=>g env >>= λns=>if (fV ns).length < 64 then .ok (.l .fresh ((fm (fV ns)).map .str)) else .bad
theorem rK {e:Rz}{p pos:Pos}{g:G (List Str)}(h:Fp X c e g) (hm:X.mg "sorted"=none) (hc:autoParam (X.calm=true) zA._auto_1) (hg:autoParam (Gl X "sorted") zA._auto_1)
  (he:autoParam (QY [e] X.env=(false,eval e X.env)::QY [] X.env) zA._auto_1) (hpl:autoParam ((Tn pos (QY [] X.env)).any (·.1)=false) zA._auto_1):QD X c (.Call (.Name "sorted" p) [e] [] pos) (k8 g):=
 ⟨eE (pX (yk hc) hg hm ng (gF h.h ji he) (by decide) (by decide) he hpl) λσ H Q ⟨J,env,sr,w⟩=>by
  refine ⟨J,env,sr,aC (aI w) λns wn v J1 H1 e1 ⟨p,hv,hp⟩=>?_⟩;split at wn
  ·rename_i hl;refine ⟨p,ns,by rw [hv],hp,hl,λl hl'=>?_⟩;exact wn _ _ _ (e1.trans (Ext.new e1.sub hl' _)) (RR.from e1.h (jX (sr.hp.ext e1) hl' (nP _)))
  ·exact wn.elim⟩
end
end DL
namespace WP
open PySem DL K01
noncomputable def Wp {α:Type}(m:M α) (P:α->Prop):Prop:=∃a,m=.ok a/\P a
section
variable {α β:Type}{m:M α}{P P':α->Prop}{a:α}{env:Ev}{Q:O->Prop}{t u:G O}{g:G R}{r r':R}{i:Nat}{b:G Bool}
theorem Wp.mono (h:Wp m P) (k:∀a,P a->P' a):Wp m P':=let ⟨a,h1,h2⟩:=h;⟨a,h1,k a h2⟩
theorem Wp.eq (h:Wp m (·=a)):m=.ok a:=let ⟨_,h1,h2⟩:=h;h2▸h1
theorem Wp.bind {f:α->M β}{P:β->Prop}(h:Wp m λa=>Wp (f a) P):Wp (m >>= f) P:=by obtain ⟨a,rfl,h2⟩:=h;exact h2
theorem se {P:R->Prop}(h:Wp (t env) λo=>∃r,o=.rt r/\P r):Wp (fin (t env)) P:=by obtain ⟨_,h1,r,rfl,h2⟩:=h;exact ⟨r,by rw [h1];rfl,h2⟩
theorem cS (h:Wp (t env) (·=.rt r)):fin (t env)=.ok r:=by rw [h.eq];rfl
theorem bx (h:Wp (t env) λo=>match o with
 | .nx e=>Wp (u e) Q
 | o=>Q o):Wp (au t u env) Q:=by
 obtain ⟨o,h1,h2⟩:=h;show Wp (t env >>= _) Q;rw [h1];cases o with
 | nx e=>exact h2
 | rt r=>exact ⟨_,rfl,h2⟩
 | bk e=>exact ⟨_,rfl,h2⟩
 | ct e=>exact ⟨_,rfl,h2⟩
theorem gD (h:g env=.ok r) (h2:toS r=.ok x) (k:Q (.nx (env.set i (some x)))):Wp (aO i g env) Q:=⟨_,by show (g env >>= _)=_;rw [h,aS,h2];rfl,k⟩
theorem bL (h:g env=.ok r) (h2:toS r=.ok x) (k:Wp (u (env.set i (some x))) Q):Wp (au (aO i g) u env) Q:=bx (gD h h2 k)
theorem bJ (h:g env=.ok r) (h2:rF r=.ok r') (k:Q (.rt r')):Wp (aL g env) Q:=⟨_,rM h h2,k⟩
theorem ig (k:Q (.nx env)):Wp (bf env) Q:=⟨_,rfl,k⟩
theorem Ng (k:Wp (u env) Q):Wp (au bf u env) Q:=bx (ig k)
theorem c5 (h:b env=.ok true) (k:Wp (t env) Q):Wp (aG b t u env) Q:=by rw [jA h];exact k
theorem wY (h:b env=.ok false) (k:Wp (u env) Q):Wp (aG b t u env) Q:=by rw [iI h];exact k
theorem gR (h:b env=.ok c) (k1:c=true->Wp (t env) Q) (k2:c=false->Wp (u env) Q):Wp (aG b t u env) Q:=by
 cases c with
 | true=>exact c5 h (k1 rfl)
 | false=>exact wY h (k2 rfl)
theorem Nf {v:G O}(h:b env=.ok false) (k:Wp (au u v env) Q):Wp (au (aG b t u) v env) Q:=by
 have:au (aG b t u) v env=au u v env:=by unfold au;rw [iI h]
 rw [this];exact k
theorem aE {v:G O}(h:b env=.ok false) (k:Wp (v env) Q):Wp (au (aG b t bf) v env) Q:=Nf h (Ng k)
theorem LL {xs:List D}(h0:env[i]?=some (some (.own xs))) (h:g env=.ok r) (h2:toD r=.ok d) (hl:xs.length<=1000) (k:Q (.nx (env.set i (some (.own (xs++[d])))))):Wp (dR i g env) Q:=by refine ⟨_,?_,k⟩;unfold dR;rw [h0];show (g env >>= _)=_;rw [h,aS,h2,aS,if_pos (SK hl (by decide))]
theorem lS {gi:G (List D)}(h:gi env=.ok ds) (k:Wp (dj tg u ds env) Q):Wp (dW gi tg u env) Q:=by rw [jQ h];exact k
theorem g_ {gi:G (List D)}{v:G O}(h:gi env=.ok ds) (k:Wp (dj tg t ds env) λo=>match o with
 | .nx e=>Wp (v e) Q
 | o=>Q o):Wp (au (dW gi tg t) v env) Q:=bx (lS h k)
theorem sf {tg:GT}(I:Nat->Ev->Prop) (ds:List D) (h0:I 0 env) (step:∀(k:Nat) (hk:k < ds.length) (env:Ev),I k env->∃e,tg ds[k] env=.ok e/\Wp (u e) λo=>∃e,o=.nx e/\I (k + 1) e)
  (k:∀e,I ds.length e->Q (.nx e)):Wp (dj tg u ds env) Q:=by
 have key:∀(es:List D) (i:Nat) (env:Ev),ds.drop i=es->i<=ds.length->I i env->Wp (dj tg u es env) Q:=by
  intro es
  induction es with
  | nil=>
   intro i env hd hi hI;have:i=ds.length:=by have:=congrArg VO hd;rw [SM] at this;simp at this;omega
   subst this;exact ⟨_,rfl,k _ hI⟩
  | cons d es ih=>
   intro i env hd hi hI;have hlt:i < ds.length:=by have:=congrArg VO hd;rw [SM] at this;simp at this;omega
   have e1:=TY hlt;rw [hd] at e1;obtain ⟨q1,q2⟩:=abr e1;obtain ⟨e,h1,_,h2,e2,rfl,h3⟩:=step i hlt env hI;unfold dj;rw [q1,h1,aS,h2,aS];exact ih (i + 1) e2 q2.symm (by omega) h3
 exact key ds 0 env rfl (Rj _) h0
theorem vm {tg:GT}(I:Nat->Ev->Prop) (h0:I 0 env) (step:∀(k:Nat),k < n->∀env,I k env->∃e,tg (.int k) env=.ok e/\Wp (u e) λo=>∃e,o=.nx e/\I (k + 1) e)
 (k:∀e,I n e->Q (.nx e)):Wp (dj tg u (eT 0 n) env) Q:=by
 have hl:(eT 0 n).length=n:=by simp [eT]
 refine sf I (eT 0 n) h0 (λj hj env hI=>?_) (by rw [hl];exact k);obtain ⟨e,h1,h2⟩:=step j (by rw [hl] at hj;exact hj) env hI;refine ⟨e,?_,h2⟩;rw [<-h1];simp [eT]
theorem n1 {f:List R->M R}(hx:g env=.ok x) (hf:f [x]=.ok z):gN f (ah g ay) env=.ok z:=AQ hx hf
theorem two {f:R->R->M R}{h:G R}{x y z:R}(hx:g env=.ok x) (hy:h env=.ok y) (hf:f x y=.ok z):g2 f g h env=.ok z:=by show (g env >>= _)=_;rw [hx,aS,hy,aS,hf]
theorem c1 {F:List S->M R}(hx:g env=.ok x) (hF:F [bO x]=.ok z):gN (aB 1 F) (ah g ay) env=.ok (cg z):=by show (ah g ay env >>= _)=_;unfold ah ay;rw [hx];show (match F [bO x] with | .ok r=>M.ok (cg r) | _=>M.bad)=_;rw [hF]
theorem c2 {F:List S->M R}{h:G R}(hx:g env=.ok x) (hy:h env=.ok y) (hF:F [bO x,bO y]=.ok z):gN (aB 2 F) (ah g (ah h ay)) env=.ok (cg z):=by show (ah g (ah h ay) env >>= _)=_;unfold ah ay;rw [hx,hy];show (match F [bO x,bO y] with | .ok r=>M.ok (cg r) | _=>M.bad)=_;rw [hF]
theorem c3 {F:List S->M R}{h k:G R}(hx:g env=.ok x) (hy:h env=.ok y) (hw:k env=.ok w) (hF:F [bO x,bO y,bO w]=.ok z):gN (aB 3 F) (ah g (ah h (ah k ay))) env=.ok (cg z):=by show (ah g (ah h (ah k ay)) env >>= _)=_;unfold ah ay;rw [hx,hy,hw];show (match F [bO x,bO y,bO w] with | .ok r=>M.ok (cg r) | _=>M.bad)=_;rw [hF]
theorem c4 {F:List S->M R}{h k l:G R}(hx:g env=.ok x) (hy:h env=.ok y) (hw:k env=.ok w) (hv:l env=.ok v) (hF:F [bO x,bO y,bO w,bO v]=.ok z):gN (aB 4 F) (ah g (ah h (ah k (ah l ay)))) env=.ok (cg z):=by show (ah g (ah h (ah k (ah l ay))) env >>= _)=_;unfold ah ay;rw [hx,hy,hw,hv];show (match F [bO x,bO y,bO w,bO v] with | .ok r=>M.ok (cg r) | _=>M.bad)=_;rw [hF]
theorem Jh {gi:G (List D)}{tg:GT}{ge:G R}{gts:G Bool}{α:Type}{xs:List α}{h:α->D}(o:α->Ev) (p:α->Bool) (f:α->D) (hi:gi env=.ok (xs.map h)) (hl:xs.length<=1000000)
 (ho:∀x,(o x).length=n) (ht:∀x (e:Ev),e.length=n->tg (h x) (e++cE 0 cap env)=.ok (o x++cE 0 cap env))
 (hb:∀x∈xs,gts (o x++cE 0 cap env)=.ok (p x)/\(p x=true->∃r,ge (o x++cE 0 cap env)=.ok r/\toD r=.ok (f x))):cZ n cap gi tg gts ge env=.ok (.l .fresh ((xs.filter p).map f)):=by
 have key:∀(es:List α) (x:Ev),x.length=n->(∀d∈es,d∈xs)->fk tg gts ge (es.map h) (x++cE 0 cap env)=.ok ((es.filter p).map f):=by
  intro es
  induction es with
  | nil=>exact λ_ _ _=>rfl
  | cons d es ih=>
   intro x hx hm;obtain ⟨h0,h1⟩:=hb d (hm d QT);have ih:=ih (o d) (ho d) λe he=>hm e (QO _ he);rw [Ri];unfold fk;rw [ht d x hx,aS,h0,aS];cases q:p d with
   | true=>
    obtain ⟨r,h1,h2⟩:=h1 q;rw [if_pos rfl,h1,aS,h2,aS,ih,WK q];rfl
   | false=>
    rw [if_neg (by decide),WL (by simp [q])];exact ih
 unfold cZ;rw [hi,aS,if_pos (by rw [Sd,QN];omega)];show (fk tg gts ge _ (Rw n none++cE 0 cap env) >>= _)=_;rw [key xs _ RC λ_ h=>h];rfl
theorem Ft {α:Type}(xs:List α):xs.filter (λ_=>true)=xs:=V5.mpr λ_ _=>rfl
theorem Fz {gi:G (List D)}{ge:G R}{gts:G Bool}{α:Type}{xs:List α}{h:α->D}(p:α->Bool) (f:α->D) (hi:gi env=.ok (xs.map h)) (hl:xs.length<=1000000)
 (hb:∀x∈xs,gts (some (.d (h x))::cE 0 cap env)=.ok (p x)/\(p x=true->∃r,ge (some (.d (h x))::cE 0 cap env)=.ok r/\toD r=.ok (f x))):cZ 1 cap gi (aF 0) gts ge env=.ok (.l .fresh ((xs.filter p).map f)):=
 Jh (λx=>[some (.d (h x))]) p f hi hl (λ_=>rfl) (λ_ e he=>match e,he with | [_],_=>rfl) hb
theorem sN {gi:G (List D)}{ge:G R}{α:Type}{xs:List α}{h:α->D}(f:α->D) (hi:gi env=.ok (xs.map h)) (hl:xs.length<=1000000)
 (hb:∀x∈xs,∃r,ge (some (.d (h x))::cE 0 cap env)=.ok r/\toD r=.ok (f x)):cZ 1 cap gi (aF 0) fT ge env=.ok (.l .fresh (xs.map f)):=by
 have:=Fz (gts:=fT) (λ_=>true) f hi hl λx hx=>⟨rfl,λ_=>hb x hx⟩
 rwa [Ft] at this
theorem wj {gi:G (List D)}{ge:G R}{gts:G Bool}{α:Type}{xs:List α}(a b:α->D) (p:α->Bool) (f:α->D) (hi:gi env=.ok (xs.map λx=>.tup [a x,b x])) (hl:xs.length<=1000)
 (h:∀x∈xs,gts (some (.d (a x))::some (.d (b x))::cE 0 cap env)=.ok (p x)/\(p x=true->∃r,ge (some (.d (a x))::some (.d (b x))::cE 0 cap env)=.ok r/\toD r=.ok (f x))):cZ 2 cap gi (gJ 2 (cV (aF 0) (cV (aF 1) h_))) gts ge env=.ok (.l .fresh ((xs.filter p).map f)):=
 Jh (λx=>[some (.d (a x)),some (.d (b x))]) p f hi (by omega) (λ_=>rfl) (λ_ e he=>match e,he with | [_,_],_=>rfl) h
theorem FD {gi:G (List D)}{ge:G R}{α:Type}{xs:List α}(a b:α->D) (f:α->D) (hi:gi env=.ok (xs.map λx=>.tup [a x,b x])) (hl:xs.length<=1000)
 (h:∀x∈xs,∃r,ge (some (.d (a x))::some (.d (b x))::cE 0 cap env)=.ok r/\toD r=.ok (f x)):cZ 2 cap gi (gJ 2 (cV (aF 0) (cV (aF 1) h_))) fT ge env=.ok (.l .fresh (xs.map f)):=by
 have:=wj (gts:=fT) a b (λ_=>true) f hi hl λx hx=>⟨rfl,λ_=>h x hx⟩
 rwa [Ft] at this
theorem K_ (n:Nat):eT 0 n=(QX n).map dN:=by simp [eT]
theorem A5 {gs:G (List R)}{n:Nat}(hg:gs env=.ok [.d (.int (n:Int))]) (h:n<=1000):dz gs env=.ok ((QX n).map dN):=by rw [xQ hg h,K_]
theorem jg (h:g env=.ok x):ah g ay env=.ok [x]:=by show (g env >>= _)=_;rw [h];rfl
theorem bN:aK env=.ok []:=rfl
theorem aQ {gs:G (List D)}(h:g env=.ok r) (h2:toD r=.ok d) (k:gs env=.ok ds):ao g gs env=.ok (d::ds):=by show (g env >>= _)=_;rw [h,aS,h2,aS,k];rfl
theorem dG {gs:G (List D)}{ds:List D}(h:gs env=.ok ds) (hl:ds.length<=1000):b7 gs env=.ok (.d (.tup ds)):=by show (gs env >>= _)=_;rw [h,aS,if_pos (iX hl)]
theorem dI {gs:G (List D)}{ds:List D}(h:gs env=.ok ds) (hl:ds.length<=1000):dJ gs env=.ok (.l .fresh ds):=by show (gs env >>= _)=_;rw [h,aS,if_pos (iX hl)]
theorem rj {α:Type}{xs:List α}{h:α->D}(f:R) (hf:iP f=.ok (xs.map h)) (i:Int) (h0:0<=i) (hi:i < xs.length):∃x∈xs,aP f (.d (.int i))=.ok (.d (h x)):=by
 obtain ⟨k,rfl⟩:=Int.eq_ofNat_of_zero_le h0;have hk:k < xs.length:=by omega
 refine ⟨xs[k],Ti hk,?_⟩;have h1:(xs.map h)[k]?=some (h xs[k]):=by rw [Rh,Q5 hk];rfl
 cases f with
 | d x=>
  cases x with
  | tup ys=>cases hf;exact jx h1
  | lst ys=>cases hf;unfold aP;simp only [iP,aS,oi h1]
  | _=>cases hf
 | l m x=>cases hf;exact kg h1
 | mo _ _=>cases hf
 | mb _ _=>cases hf
 | mf _ _=>cases hf
 | ln _=>cases hf
 | o _ _ _=>cases hf
theorem oN (h:env[i]?=some (some (.own xs))) (k:Wp (t (env.set i (some (.d (.lst xs))))) Q):Wp (sS i t env) Q:=by
 have:sS i t env=t (env.set i (some (.d (.lst xs)))):=by unfold sS;rw [h]
 rw [this];exact k
theorem AK (h:g env=.ok r) (h2:toD r=.ok d) (h3:tg d env=.ok e) (k:Q (.nx e)):Wp (pV tg g env) Q:=⟨_,by show (g env >>= _)=_;rw [h,aS,h2,aS,h3];rfl,k⟩
theorem Ga (h:g env=.ok r) (h2:toD r=.ok d) (h3:tg d env=.ok e) (k:Wp (u e) Q):Wp (au (pV tg g) u env) Q:=bx (AK h h2 h3 k)
theorem D4 (xs:List D) (z:D):cutD (xs++[z]) none (some (-1))=xs:=by unfold cutD HT.bP;simp;rw [show ((-1:Int) + ((xs.length:Int) + 1)).toNat=xs.length by omega];simp
theorem FQ (neg:Bool) (x:D) (ys:List D) (h:deps ys<=60) (hx:dep x<=60):gM neg (.d x) (.d (.tup ys))=.ok (.d (.bl (if neg then !inD x ys else inD x ys))):=by show (if deps ys<=60/\dep x<=60 then M.ok (R.d (.bl (if neg then !inD x ys else inD x ys))) else M.bad)=_;rw [if_pos ⟨h,hx⟩]
theorem sP:∀{xs:List D},(∀x∈xs,dep x<=n)->deps xs<=n
 | [],_=>Rj _
 | x::xs,h=>by have h1:=h x QT;have h2:=sP (xs:=xs) λy hy=>h y (QO _ hy);simp only [deps];omega
theorem Jl (xs:List Nat):deps (xs.map dN)<=60:=sP λx hx=>by obtain ⟨k,_,rfl⟩:=Rg.mp hx;exact Rj _
theorem Jm (xs:List (Nat×Nat)):deps (xs.map dP)<=60:=sP λx hx=>by obtain ⟨k,_,rfl⟩:=Rg.mp hx;exact (by decide:(1:Nat)<=60)
theorem zN {tb:G Bool}(I:Nat->Ev->Prop) (step:∀d env,I d env->(tb env=.ok false/\Q (.nx env))\/(tb env=.ok true/\Wp (t env) λo=>match o with
  | .nx e=>∃d',d' < d/\I d' e
  | .rt r=>Q (.rt r)
  | _=>False)):∀(n d:Nat) (env:Ev),I d env->d < n->Wp (j4 tb t n env) Q
 | 0,d,env,_,h=>absurd h (Tw _)
 | n + 1,d,env,hI,h=>by
  unfold j4;rcases step d env hI with ⟨h1,h2⟩ | ⟨h1,o,h2,h3⟩
  ·rw [h1];exact ⟨_,rfl,h2⟩
  ·rw [h1,aS,if_pos rfl,h2,aS];cases o with
   | nx e=>
    obtain ⟨d',hd,hI'⟩:=h3;exact zN I step n d' e hI' (by omega)
   | rt r=>exact ⟨_,rfl,h3⟩
   | bk e=>exact h3.elim
   | ct e=>exact h3.elim
theorem Ib {tb:G Bool}(I:Nat->Ev->Prop) (d:Nat) (hd:d < n) (h0:I d env) (step:∀d env,I d env->(tb env=.ok false/\Wp (u env) Q)\/(tb env=.ok true/\Wp (t env) λo=>match o with
 | .nx e=>∃d',d' < d/\I d' e
 | .rt r=>Q (.rt r)
 | _=>False)):Wp (au (wM n tb t) u env) Q:=bx (zN I (λd env h=>by
  rcases step d env h with h | ⟨h1,h2⟩
  ·exact .inl h
  ·refine .inr ⟨h1,h2.mono λo ho=>?_⟩;cases o <;> exact ho) n d env h0 hd)
theorem FU {f:R->R->M R}(h0:env[i]?=some (some (.d d))) (h:g env=.ok y) (hf:f (.d d) y=.ok z) (h2:toS z=.ok x) (k:Q (.nx (env.set i (some x)))):Wp (jR i f g env) Q:=by refine ⟨_,?_,k⟩;unfold jR;rw [h0];show (g env >>= _)=_;rw [h,aS,hf,aS,h2];rfl
end
end WP
namespace K12
open PySem DL
noncomputable def oY:List Str:=["saying"]
noncomputable def o8:G O:=(au (aG (aJ (g2 (bu false) (g2 aP (af 0) (gC (.int 0))) (gC (.str "row")))) (aL (gN oq (ah (g2 aP (af 0) (gC (.int 2))) ay))) bf)
 (aL (cZ 1 [0] (gQ (Ay [("mark",(.tup [(.int 2)])),("arrow",(.tup [(.int 2),(.int 3)])),("same",(.tup [(.int 1),(.int 2)])),("not",(.tup [])),("and",(.tup [])),("or",(.tup [])),("some",(.tup [(.int 1)])),("every",(.tup [(.int 1)])),("least",(.tup [(.int 2)]))] (g2 aP (af 0) (gC (.int 0))))) (aF 0) fT (g2 aP (af 1) (af 0)))))
noncomputable def fL (as:List S):M R:=fin (o8 (aD oY as))
noncomputable def yJ:List Str:=["saying","word"]
noncomputable def zg:G O:=(au (aO 1 (g2 aP (af 0) (gC (.int 0))))
 (au (aG (aJ (g2 (gM false) (af 1) (b7 (ao (gC (.str "and")) (ao (gC (.str "or")) aK))))) (aL (g2 aP (af 0) (gC (.int 1)))) bf)
 (au (aG (aJ (Jy false [("not",(.int 1)),("some",(.int 2)),("every",(.int 2)),("least",(.int 3))] (af 1))) (aL (b7 (ao (g2 aP (af 0) (Ay [("not",(.int 1)),("some",(.int 2)),("every",(.int 2)),("least",(.int 3))] (af 1))) aK))) bf)
 (aL (b7 aK)))))
noncomputable def jw (as:List S):M R:=fin (zg (aD yJ as))
noncomputable def tX:List Str:=["saying","parts","left","one"]
noncomputable def ug:G O:=(au (aO 1 (dJ aK))
 (au (aO 2 (dJ (ao (af 0) aK)))
 (au (wM 2000 (JA (af 2)) (au (wL 3 2)
 (au (dR 1 (af 3))
 (wK 2 (Jz (gN (aB 1 K12.jw) (ah (af 3) ay)))))))
 (aL (af 1)))))
noncomputable def jc (as:List S):M R:=fin (ug (aD tX as))
noncomputable def qv:List Str:=["saying","inner","here"]
noncomputable def qT:G O:=(au (aO 2 (gN (aB 1 K12.fL) (ah (af 0) ay)))
 (au (aG (aJ (g2 (gM false) (g2 aP (af 0) (gC (.int 0))) (gC (.tup [(.str "some"),(.str "every"),(.str "least")])))) (aL (k8 (ve 1 [2] (gQ (af 1)) (aF 0) (aJ (g2 (gM true) (af 0) (af 1))) (af 0)))) bf)
 (aL (k8 (FO (ah (g2 kc (af 2) (af 1)) ay))))))
noncomputable def jr (as:List S):M R:=fin (qT (aD qv as))
noncomputable def qw:List Str:=["saying","tongue","marks","arrows"]
noncomputable def qU:G O:=(au (pV (gJ 2 (cV (aF 2) (cV (aF 3) h_))) (af 1))
 (au (aG (aJ (g2 (bu false) (g2 aP (af 0) (gC (.int 0))) (gC (.str "mark")))) (aL (g2 (gM false) (g2 aP (af 0) (gC (.int 1))) (af 2))) bf)
 (au (aG (aJ (g2 (bu false) (g2 aP (af 0) (gC (.int 0))) (gC (.str "arrow")))) (aL (g2 (gM false) (g2 aP (af 0) (gC (.int 1))) (af 3))) bf)
 (aL (gC (.bl true))))))
noncomputable def iC (as:List S):M R:=fin (qU (aD qw as))
noncomputable def vA:List Str:=["_law_number","_law_some","_law_parts","_law_deep_here","_law_high"]
noncomputable def nu:G O:=(au (aO 2 (gN fG (ah (cZ 1 [] (gQ (af 1)) (aF 0) fT (g2 aP (af 0) (gC (.int 0)))) ay)))
 (au (aO 3 (qP 0 (cZ 1 [] (gQ (af 1)) (aF 0) fT (g2 aP (af 0) (gC (.int 1))))))
 (au (aO 4 (qP 0 (cZ 1 [] (gQ (af 1)) (aF 0) fT (g2 aP (af 0) (gC (.int 2))))))
 (au (aG (aJ (g2 (bu false) (gN eS (ah (af 1) ay)) (gC (.int 1)))) (aL (g2 aP (af 1) (gC (.int 0)))) bf)
 (aL (b7 (ao (b7 (ao (g2 aP (dJ (ao (gC (.str "and")) (ao (gC (.str "or")) aK))) (g2 bz (af 0) (gC (.int 2)))) (ao (af 2) aK))) (ao (af 3) (ao (g2 bA (af 4) (gC (.int 1))) aK)))))))))
noncomputable def fR (as:List S):M R:=fin (nu (aD vA as))
noncomputable def oW:List Str:=["_law_found","_law_due"]
noncomputable def o7:G O:=(aL (bB (cL "bool" (af 0)) (g2 (bu false) (af 0) (af 1))))
noncomputable def c_ (as:List S):M R:=fin (o7 (aD oW as))
end K12
set_option maxHeartbeats 1000000
namespace K12
open PySem PySem.Spec PyProof.Rows DL K01 WP
inductive Sy (A B L:List Str):Nat->D->Prop
 | mark {k:Nat}{n a:Str}:n∈A->a∈L->Sy A B L (k + 1) (.tup [.str "mark",.str n,.str a])
 | arrow {k:Nat}{n a b:Str}:n∈B->a∈L->b∈L->Sy A B L (k + 1) (.tup [.str "arrow",.str n,.str a,.str b])
 | same {k:Nat}{a b:Str}:a∈L->b∈L->Sy A B L (k + 1) (.tup [.str "same",.str a,.str b])
 | not {k:Nat}{xs:List D}:Sy A B L k (.tup xs)->Sy A B L (k + 1) (.tup [.str "not",.tup xs])
 | and {k:Nat}{ss:List D}:(∀s∈ss,Sy A B L k s)->ss.length<=100->Sy A B L (k + 1) (.tup [.str "and",.tup ss])
 | or {k:Nat}{ss:List D}:(∀s∈ss,Sy A B L k s)->ss.length<=100->Sy A B L (k + 1) (.tup [.str "or",.tup ss])
 | some {k:Nat}{a:Str}{xs:List D}:a∈L->Sy A B L k (.tup xs)->Sy A B L (k + 1) (.tup [.str "some",.str a,.tup xs])
 | every {k:Nat}{a:Str}{xs:List D}:a∈L->Sy A B L k (.tup xs)->Sy A B L (k + 1) (.tup [.str "every",.str a,.tup xs])
 | least {k:Nat}{i:Int}{a:Str}{xs:List D}:1<=i->a∈L->Sy A B L k (.tup xs)->Sy A B L (k + 1) (.tup [.str "least",.int i,.str a,.tup xs])
variable {A B L:List Str}{k:Nat}{d:D}
theorem Sy.tup (h:Sy A B L k d):∃xs,d=.tup xs:=by cases h <;> exact ⟨_,rfl⟩
theorem Sy.up (h:Sy A B L k d):∀{j:Nat},k<=j->Sy A B L j d:=by
 induction h with
 | mark h1 h2=>intro j hj;obtain ⟨j,rfl⟩:∃i,j=i + 1:=⟨j - 1,by omega⟩;exact .mark h1 h2
 | arrow h1 h2 h3=>intro j hj;obtain ⟨j,rfl⟩:∃i,j=i + 1:=⟨j - 1,by omega⟩;exact .arrow h1 h2 h3
 | same h1 h2=>intro j hj;obtain ⟨j,rfl⟩:∃i,j=i + 1:=⟨j - 1,by omega⟩;exact .same h1 h2
 | not _ ih=>intro j hj;obtain ⟨j,rfl⟩:∃i,j=i + 1:=⟨j - 1,by omega⟩;exact .not (ih (by omega))
 | and _ h ih=>intro j hj;obtain ⟨j,rfl⟩:∃i,j=i + 1:=⟨j - 1,by omega⟩;exact .and (λs hs=>ih s hs (by omega)) h
 | or _ h ih=>intro j hj;obtain ⟨j,rfl⟩:∃i,j=i + 1:=⟨j - 1,by omega⟩;exact .or (λs hs=>ih s hs (by omega)) h
 | some h _ ih=>intro j hj;obtain ⟨j,rfl⟩:∃i,j=i + 1:=⟨j - 1,by omega⟩;exact .some h (ih (by omega))
 | every h _ ih=>intro j hj;obtain ⟨j,rfl⟩:∃i,j=i + 1:=⟨j - 1,by omega⟩;exact .every h (ih (by omega))
 | least h0 h _ ih=>intro j hj;obtain ⟨j,rfl⟩:∃i,j=i + 1:=⟨j - 1,by omega⟩;exact .least h0 h (ih (by omega))
noncomputable def wd:D->Str
 | .tup (.str w::_)=>w
 | _=>Wn
noncomputable def wit:D->List D
 | .tup [.str w,x]=>if w == "not" then [x] else (match x with
  | .tup ss=>ss
  | _=>[])
 | .tup [.str _,.str _,.tup xs]=>[.tup xs]
 | .tup [.str _,.int _,.str _,.tup xs]=>[.tup xs]
 | _=>[]
noncomputable def dO:D->List Str
 | .tup [.str w,.str a,.str b]=>if w == "mark" then [b] else [a,b]
 | .tup [.str _,.str a,.tup _]=>[a]
 | .tup [.str _,.str _,.str a,.str b]=>[a,b]
 | .tup [.str _,.int _,.str a,.tup _]=>[a]
 | _=>[]
noncomputable def own:D->List Str
 | .tup [.str w,.str a,.str b]=>if w == "mark" then [b] else [a,b]
 | .tup [.str _,.str _,.str a,.str b]=>[a,b]
 | _=>[]
noncomputable def bnd:D->List Str
 | .tup [.str _,.str a,.tup _]=>[a]
 | .tup [.str _,.int _,.str a,.tup _]=>[a]
 | _=>[]
theorem jI (h:Sy A B L k d):jw [.d d]=.ok (.d (.tup (wit d))):=by cases h <;> rfl
theorem jb (h:Sy A B L k d):fL [.d d]=.ok (.l .fresh ((dO d).map .str)):=by cases h <;> rfl
theorem Cv (h:Sy A B L k d):dO d=own d++bnd d:=by cases h <;> rfl
theorem cG (h:Sy A B L (k + 1) d):∀s∈wit d,Sy A B L k s:=by
 intro s hs;cases h with
 | mark _ _=>cases hs
 | arrow _ _ _=>cases hs
 | same _ _=>cases hs
 | not h=>rw [QK.mp (show s∈[_] from hs)];exact h
 | and h _=>exact h s hs
 | or h _=>exact h s hs
 | some _ h=>rw [QK.mp (show s∈[_] from hs)];exact h
 | every _ h=>rw [QK.mp (show s∈[_] from hs)];exact h
 | least _ _ h=>rw [QK.mp (show s∈[_] from hs)];exact h
theorem i7 (h:Sy A B L k d):(wit d).length<=100:=by
 cases h with
 | and _ h=>exact h
 | or _ h=>exact h
 | mark _ _=>exact Rj _
 | arrow _ _ _=>exact Rj _
 | same _ _=>exact Rj _
 | _=>exact XA 1 99
theorem gE (h:Sy A B L k d):∀x∈dO d,x∈L:=by
 intro x hx;cases h with
 | mark _ h=>rw [QK.mp (show x∈[_] from hx)];exact h
 | arrow _ h1 h2=>rcases QZ.mp (show x∈[_,_] from hx) with e | e;exact e▸h1;exact (QK.mp e)▸h2
 | same h1 h2=>rcases QZ.mp (show x∈[_,_] from hx) with e | e;exact e▸h1;exact (QK.mp e)▸h2
 | not _=>cases hx
 | and _ _=>cases hx
 | or _ _=>cases hx
 | some h _=>rw [QK.mp (show x∈[_] from hx)];exact h
 | every h _=>rw [QK.mp (show x∈[_] from hx)];exact h
 | least _ h _=>rw [QK.mp (show x∈[_] from hx)];exact h
theorem b9 (h:Sy A B L k d):∃j,k=j + 1:=by cases h <;> exact ⟨_,rfl⟩
theorem fM {α β:Type}{f g:α->List β}:∀{l:List α},(∀x∈l,f x=g x)->l.flatMap f=l.flatMap g
 | [],_=>rfl
 | x::l,h=>by rw [Rr,Rr,h x QT,fM λy hy=>h y (QO _ hy)]
noncomputable def bK:Nat->D->List D
 | 0,_=>[]
 | n + 1,d=>d::(wit d).flatMap (bK n)
theorem jB:∀{k:Nat}{d:D},Sy A B L k d->∀{j:Nat},k<=j->bK j d=bK k d
 | 0,d,h,j,hj=>by obtain ⟨_,e⟩:=b9 h;cases e
 | k + 1,d,h,j,hj=>by obtain ⟨j,rfl⟩:∃i,j=i + 1:=⟨j - 1,by omega⟩;show d::(wit d).flatMap (bK j)=d::(wit d).flatMap (bK k);congr 1;exact fM λs hs=>jB (cG h s hs) (by omega)
theorem tH:∀{k:Nat}{d:D},Sy A B L k d->∀p∈bK k d,Sy A B L k p
 | 0,d,h,p,_=>by obtain ⟨_,e⟩:=b9 h;cases e
 | k + 1,d,h,p,hp=>by
  rcases QZ.mp hp with rfl | hp
  ·exact h
  ·obtain ⟨s,hs,hp⟩:=Sz.mp hp;exact (tH (cG h s hs) p hp).up (Tg _)
end K12
namespace K51
open PySem DL
end K51
namespace K51
open PySem DL K01 WP
theorem JH (l:Nat) (xs:List Nat):gM false (.d (dN l)) (.d (.tup (xs.map dN)))=.ok (.d (.bl (inD (dN l) (xs.map dN)))):=FQ false _ _ (Jl xs) (Rj _)
theorem JI (l:Nat×Nat) (xs:List (Nat×Nat)):gM false (.d (dP l)) (.d (.tup (xs.map dP)))=.ok (.d (.bl (inD (dP l) (xs.map dP)))):=FQ false _ _ (Jm xs) (by show (1:Nat)<=60;decide)
end K51
namespace K51
open PySem DL K01 WP
end K51
namespace K51
open PySem DL K01 WP
end K51
namespace K52
open PySem DL
end K52
namespace K52
open PySem DL K01 WP K51
variable {P:D->Prop}
end K52
namespace DL
open PySem PySem.Spec PyProof.Rows L2 DX
end DL
namespace K55
open PySem DL
end K55
namespace K55
open PySem DL K01 WP K51 K52
theorem FH (a b:Nat):c7 (dN a) (dN b)=(a == b):=by
 show ((a:Int) == (b:Int))=_;by_cases h:a=b
 ·subst h;simp
 ·rw [beq_eq_false_iff_ne.mpr h,beq_eq_false_iff_ne.mpr (by omega)]
theorem inN (l:Nat) (xs:List Nat):inD (dN l) (xs.map dN)=decide (l∈xs):=by
 unfold inD;rw [Xm,Tc,Uh,decide_eq_true_eq];constructor
 ·rintro ⟨x,hx,e⟩;have e:c7 (dN x) (dN l)=true:=e;rw [FH] at e;rw [<-eq_of_beq e];exact hx
 ·intro h;exact ⟨l,h,by show c7 (dN l) (dN l)=true;rw [FH];simp⟩
theorem MF (a b:Nat×Nat):c7 (dP a) (dP b)=decide (a=b):=by
 have:c7 (dP a) (dP b)=(c7 (dN a.1) (dN b.1) && (c7 (dN a.2) (dN b.2) && true)):=by show c7 (.tup [dN a.1,dN a.2]) (.tup [dN b.1,dN b.2])=_;rw [GI,za,za,fY]
 rw [this,FH,FH,Tc];obtain ⟨a1,a2⟩:=a;obtain ⟨b1,b2⟩:=b;simp
theorem FP (l:Nat×Nat) (xs:List (Nat×Nat)):inD (dP l) (xs.map dP)=decide (l∈xs):=by
 unfold inD;rw [Xm,Tc,Uh,decide_eq_true_eq];constructor
 ·rintro ⟨x,hx,e⟩;have e:c7 (dP x) (dP l)=true:=e;rw [MF,decide_eq_true_eq] at e;rw [<-e];exact hx
 ·intro h;exact ⟨l,h,by show c7 (dP l) (dP l)=true;rw [MF];simp⟩
noncomputable def DA:D->Nat
 | .int i=>i.toNat
 | _=>0
noncomputable def Lw:D->Nat×Nat
 | .tup [x,y]=>(DA x,DA y)
 | _=>(0,0)
end K55
namespace K23
open PySem DL
end K23
namespace K23
open PySem DL K01 WP K51 K52 K55
section
variable {α β:Type}
theorem An {gts:G Bool}{act:Ev->M (List D×Ev)}{h':β->D}{rest:Ev}(p:β->Bool) (f:β->D):∀(ys:List β),(∀y∈ys,gts (a0::some (.d (h' y))::rest)=.ok (p y)/\(p y=true->act (a0::some (.d (h' y))::rest)=.ok ([f y],a0::some (.d (h' y))::rest)))->
  ∀z:Option S,∃z',cA (aF 1) gts act (ys.map h') (a0::z::rest)=.ok ((ys.filter p).map f,a0::z'::rest)
 | [],_,z=>⟨z,rfl⟩
 | y::ys,H,z=>by
  obtain ⟨h1,h2⟩:=H y QT;obtain ⟨z',ih⟩:=An p f ys (λy hy=>H y (QO _ hy)) (some (.d (h' y)));refine ⟨z',?_⟩;rw [Ri];unfold cA;show (gts (a0::some (.d (h' y))::rest) >>= λk=>if k=true then act (a0::some (.d (h' y))::rest) >>= λr=>cA (aF 1) gts act (ys.map h') r.2 >>= λz=>.ok (r.1++z.1,z.2) else cA (aF 1) gts act (ys.map h') (a0::some (.d (h' y))::rest))=_;rw [h1,aS];cases q:p y with
  | true=>
   rw [if_pos rfl,h2 q,aS];show (cA (aF 1) gts act (ys.map h') (a0::some (.d (h' y))::rest) >>= _)=_;rw [ih,aS,WK q];rfl
  | false=>
   rw [if_neg (by decide),ih,WL (by simp [q])]
theorem wg {gi1:G (List D)}{gts:G Bool}{act:Ev->M (List D×Ev)}{h:α->D}{h':β->D}{rest:Ev}(ys:α->List β) (p:α->β->Bool) (f:α->β->D):∀(xs:List α),(∀x∈xs,(ys x).length<=1000/\(∀z:Option S,gi1 (some (.d (h x))::z::rest)=.ok ((ys x).map h'))/\∀y∈ys x,gts (some (.d (h x))::some (.d (h' y))::rest)=.ok (p x y)/\(p x y=true->act (some (.d (h x))::some (.d (h' y))::rest)=.ok ([f x y],some (.d (h x))::some (.d (h' y))::rest)))->
  ∀z0 z:Option S,∃z0' z',cA (aF 0) fT (jd gi1 (aF 1) gts act) (xs.map h) (z0::z::rest)=.ok (xs.flatMap λx=>((ys x).filter (p x)).map (f x),z0'::z'::rest)
 | [],_,z0,z=>⟨z0,z,rfl⟩
 | x::xs,H,z0,z=>by obtain ⟨h1,h2,h3⟩:=H x QT;obtain ⟨z1,e1⟩:=An (a0:=some (.d (h x))) (p x) (f x) (ys x) h3 z;obtain ⟨z0',z',ih⟩:=wg ys p f xs (λy hy=>H y (QO _ hy)) (some (.d (h x))) z1;refine ⟨z0',z',?_⟩;rw [Ri];unfold cA;show (jd gi1 (aF 1) gts act (some (.d (h x))::z::rest) >>= _)=_;unfold jd;rw [h2 z,aS,if_pos (by rw [QN];exact h1),e1,aS];show (cA (aF 0) fT (jd gi1 (aF 1) gts act) (xs.map h) (some (.d (h x))::z1::rest) >>= _)=_;rw [ih];rfl
theorem FE {gi0 gi1:G (List D)}{gts:G Bool}{act:Ev->M (List D×Ev)}{fin:List D->M R}{h:α->D}{h':β->D}{xs:List α}(ys:α->List β) (p:α->β->Bool) (f:α->β->D) (hi:gi0 env=.ok (xs.map h)) (hl:xs.length<=10000)
 (H:∀x∈xs,(ys x).length<=1000/\(∀z:Option S,gi1 (some (.d (h x))::z::cE 0 cap env)=.ok ((ys x).map h'))/\∀y∈ys x,gts (some (.d (h x))::some (.d (h' y))::cE 0 cap env)=.ok (p x y)/\(p x y=true->act (some (.d (h x))::some (.d (h' y))::cE 0 cap env)=.ok ([f x y],some (.d (h x))::some (.d (h' y))::cE 0 cap env))):
  jf 10000 2 cap gi0 (aF 0) fT (jd gi1 (aF 1) gts act) fin env=fin (xs.flatMap λx=>((ys x).filter (p x)).map (f x)):=by unfold jf;rw [hi,aS,if_pos (by rw [QN];exact hl)];obtain ⟨z0',z',e⟩:=wg ys p f xs H none none;show (cA (aF 0) fT (jd gi1 (aF 1) gts act) (xs.map h) (none::none::cE 0 cap env) >>= _)=_;rw [e];rfl
theorem yL {ge:G R}(h:ge env=.ok r) (h2:toD r=.ok d):gq ge env=.ok ([d],env):=by unfold gq;rw [h,aS,h2];rfl
end
section
variable {env:Ev}{Q:O->Prop}{g:G R}{t:G O}{r:R}{i:Nat}
theorem LM {xs ys:List D}(h0:env[i]?=some (some (.own xs))) (h:g env=.ok r) (h2:iP r=.ok ys) (hl:xs.length + ys.length<=16777216) (k:Q (.nx (env.set i (some (.own (xs++ys)))))):Wp (wK i g env) Q:=by refine ⟨_,?_,k⟩;unfold wK;rw [h0];show (g env >>= _)=_;rw [h,aS,h2,aS,if_pos (by rw [Sd];exact hl)]
end
end K23
namespace K12
open PySem PySem.Spec PyProof.Rows DL K01 WP
variable {A B L:List Str}{k:Nat}{d:D}
theorem wX {env:Ev}{i:Nat}{g:G R}{r:R}{Q:O->Prop}{xs:List D}{d:D}(h0:env[i]?=some (some (.own xs))) (h:g env=.ok r) (h2:toD r=.ok d) (hl:xs.length<=1000000) (k:Q (.nx (env.set i (some (.own (xs++[d])))))):Wp (dR i g env) Q:=by refine ⟨_,?_,k⟩;unfold dR;rw [h0];show (g env >>= _)=_;rw [h,aS,h2,aS,if_pos (by rw [Sd];omega)]
theorem LN {env:Ev}{i j:Nat}{Q:O->Prop}{xs:List D}{d:D}(h0:env[j]?=some (some (.own (xs++[d])))) (k:Q (.nx ((env.set j (some (.own xs))).set i (some (.d d))))):Wp (wL i j env) Q:=by
 refine ⟨_,?_,k⟩;unfold wL;rw [h0];have e:(xs++[d])[(xs++[d]).length - 1]?=some d:=by simp
 simp only [e];rw [List.dropLast_concat]
theorem EJ (h:Sy A B L k d):1<=(bK k d).length:=by obtain ⟨j,rfl⟩:=b9 h;exact XA 1 _
theorem JV {l:List D}(h:∀d∈l,Sy A B L k d):l.length<=(l.flatMap (bK k)).length:=by
 induction l with
 | nil=>exact Rj _
 | cons d l ih=>
  have:=ih λx hx=>h x (QO _ hx);have:=EJ (h d QT);rw [Rr,QU,Rm];omega
theorem zd (h:Sy A B L k d):bK k d=d::(wit d).flatMap (bK k):=by obtain ⟨j,rfl⟩:=b9 h;show d::(wit d).flatMap (bK j)=_;congr 1;exact fM λs hs=>(jB (cG h s hs) (Tg j)).symm
theorem IA (h:Sy A B L k d):∀s∈wit d,Sy A B L k s:=λs hs=>by obtain ⟨j,rfl⟩:=b9 h;exact (cG h s hs).up (Tg j)
theorem yH (h:Sy A B L k d) (hN:(bK k d).length < 2000):jc [.d d]=.ok (.l .fresh (bK k d)):=by
 refine cS (bL (r:=.l .fresh []) (x:=.own []) (dI bN (Rj _)) rfl (bL (r:=.l .fresh [d]) (x:=.own [d]) (dI (aQ rfl rfl bN) (XA 1 999)) rfl ?_));refine Ib (λm env=>∃done left x,env=[some (.d d),some (.own done),some (.own left),x]/\(∀s∈left,Sy A B L k s)/\done++left.reverse.flatMap (bK k)=bK k d/\m=(left.reverse.flatMap (bK k)).length) (bK k d).length hN ⟨[],[d],none,rfl,λs hs=>by rw [QK.mp hs];exact h,by simp,by simp⟩ ?_;rintro m env ⟨done,left,x,rfl,h1,h2,h3⟩;rcases XC left with rfl | ⟨l,s,rfl⟩
 ·refine .inl ⟨rfl,bJ (r:=.l .own done) rfl rfl ?_⟩;have:done=bK k d:=by simpa using h2
  rw [this]
 ·rw [XD] at h1 h2 h3 ⊢;have hs:Sy A B L k s:=h1 s (by simp);refine .inr ⟨?_,?_⟩
  ·show M.ok (!(l++[s]).isEmpty)=_;simp
  have tot:=congrArg VO h2;rw [QU,<-h3] at tot;rw [UT,W7,Vt,Rr,zd hs,Zf,Rm] at h3;rw [UT,W7,Vt,Rr,zd hs] at h2;have hw:=i7 hs;have ll:l.length<=(l.reverse.flatMap (bK k)).length:=by
   have:=JV (l:=l.reverse) (A:=A) (B:=B) (L:=L) (k:=k) λz hz=>h1 z (Sl _ (Zg.mp hz))
   rwa [X_] at this
  rw [QU] at h3;refine bx (LN (xs:=l) (d:=s) rfl (bx (wX (d:=s) rfl rfl rfl (by omega) (K23.LM (xs:=l) (ys:=(wit s).reverse) rfl (r:=.d (.tup (wit s).reverse)) ?_ rfl (by rw [X_];omega) ?_))))
  ·show (gN _ _ _ >>= _)=_;rw [c1 (x:=.d s) (z:=.d (.tup (wit s))) rfl (jI hs)];rfl
  ·refine ⟨_,?_,done++[s],l++(wit s).reverse,some (.d s),rfl,λz hz=>?_,?_,rfl⟩
   ·rw [UT,XQ,Yb,QU];omega
   ·rcases Rl.mp hz with hz | hz
    ·exact h1 z (Sl _ hz)
    ·exact IA hs z (Zg.mp hz)
   ·rw [UT,XQ,Yb,<-h2];simp
variable {A B L:List Str}{k:Nat}{d:D}
noncomputable def mx (l:List Int):Int:=l.foldl (λa b=>if b > a then b else a) 0
noncomputable def dp:Nat->D->Int
 | 0,_=>0
 | n + 1,d=>mx ((wit d).map (dp n)) + (if (bnd d).isEmpty then 0 else 1)
theorem Jc (h:Sy A B L k d):aJ (g2 (gM false) (g2 aP (af 0) (gC (.int 0))) (gC (.tup [(.str "some"),(.str "every"),(.str "least")]))) (some (.d d)::tl)=.ok (!(bnd d).isEmpty):=by cases h <;> rfl
end K12
namespace K12
open PySem PySem.Spec PyProof.Rows DL K01 WP
open K23 (wg An FE yL)
variable {A B L:List Str}{k:Nat}{d:D}
theorem wC (l:List Str):deps (l.map .str)=0:=by
 induction l with
 | nil=>rfl
 | cons x l ih=>show max 0 (deps (l.map .str))=0;rw [ih];rfl
theorem strs_map (l:List Str):strsOf (l.map .str)=some l:=by
 induction l with
 | nil=>rfl
 | cons x l ih=>show (strsOf (l.map .str)).map (x::·)=_;rw [ih];rfl
theorem GR (x:Str) (fs:List Str):inD (.str x) (fs.map .str)=fs.any λw=>w == x:=by unfold inD;rw [Xm];congr 1
theorem Ei (neg:Bool) (x:Str) (l:List Str){r:R}(hr:iP r=.ok (l.map .str)):gM neg (.d (.str x)) r=.ok (.d (.bl (if neg then !(l.any λw=>w == x) else l.any λw=>w == x))):=by unfold gM;rw [hr,aS,if_pos ⟨by rw [wC];omega,Rj _⟩];show M.ok (R.d (.bl (if neg=true then !inD (.str x) (l.map .str) else inD (.str x) (l.map .str))))=_;rw [GR]
theorem bZ {g:G R}{env:Ev}{b:Bool}(h:g env=.ok (.d (.bl b))):aJ g env=.ok b:=by show (g env >>= _)=_;rw [h];rfl
theorem yQ (x:Str) (l:List Str):(l.any λw=>w == x)=true↔x∈l:=by
 rw [Uh];constructor
 ·rintro ⟨w,h1,h2⟩;rw [<-beq_iff_eq.mp h2];exact h1
 ·exact λh=>⟨x,h,beq_self_eq_true x⟩
theorem Gv {ge:G R}{env:Ev}{x:Str}(h:ge env=.ok (.d (.str x))) (hx:isLet x=true):sE ge env=.ok ([.str x],env):=by unfold sE;rw [h,aS];show (if isLet x=true then M.ok ([D.str x],env) else .bad)=_;rw [if_pos hx]
theorem Jf {act:Ev->M (List D×Ev)}{gts:G Bool}{α:Type}{p:α->Bool}{h f:α->D}{rest:Ev}:∀(ys:List α),(∀y∈ys,gts (some (.d (h y))::rest)=.ok (p y)/\(p y=true->act (some (.d (h y))::rest)=.ok ([f y],some (.d (h y))::rest)))->∀z:Option S,∃z',cA (aF 0) gts act (ys.map h) (z::rest)=.ok ((ys.filter p).map f,z'::rest)
 | [],_,z=>⟨z,rfl⟩
 | y::ys,H,z=>by
  obtain ⟨z',ih⟩:=Jf ys (λy hy=>H y (QO _ hy)) (some (.d (h y)));obtain ⟨h1,h2⟩:=H y QT;refine ⟨z',?_⟩;rw [Ri];unfold cA;show (gts (some (.d (h y))::rest) >>= _)=_;rw [h1,aS,WX];cases q:p y with
  | false=>exact ih
  | true=>
   show (act (some (.d (h y))::rest) >>= _)=_;rw [h2 q,aS];show (cA (aF 0) gts act (ys.map h) (some (.d (h y))::rest) >>= _)=_;rw [ih];rfl
theorem Nh {env:Ev}{cap:List Nat}{gi:G (List D)}{gts:G Bool}{xs:List Str}(p:Str->Bool) (hi:gi env=.ok (xs.map .str)) (hl:xs.length<=10000)
  (H:∀x∈xs,gts (some (.d (.str x))::cE 0 cap env)=.ok (p x)/\isLet x=true):ve 1 cap gi (aF 0) gts (af 0) env=.ok (xs.filter p):=by obtain ⟨z,e⟩:=Jf (α:=Str) (gts:=gts) (p:=p) (act:=sE (af 0)) (h:=D.str) (f:=D.str) (rest:=cE 0 cap env) xs (λx hx=>⟨(H x hx).1,λ_=>Gv rfl (H x hx).2⟩) none;unfold ve jf;rw [hi,aS,if_pos (by rw [QN];exact hl)];show (cA (aF 0) gts (sE (af 0)) (xs.map .str) (none::cE 0 cap env) >>= _)=_;rw [e];show M.ok (ya ((xs.filter p).map .str))=_;rw [yb]
noncomputable def kB (l:List Str):List Str:=fm (fV l)
theorem d8 {x:Str}{l:List Str}:x∈kB l↔x∈l:=(gI _).mem_iff.trans (iU l x)
theorem wB {l:List Str}(h:∀x∈l,isLet x=true):(fV l).length<=26:=zl (qF l) λx hx=>h x ((iU l x).mp hx)
theorem zH {l:List Str}(h:∀x∈l,isLet x=true):(kB l).length<=26:=by have:=wB h;unfold kB;rw [(gI _).length_eq];exact this
theorem zG {g:G (List Str)}{env:Ev}{l:List Str}(h:g env=.ok l) (hl:∀x∈l,isLet x=true):k8 g env=.ok (.l .fresh ((kB l).map .str)):=by unfold k8;rw [h,aS,if_pos (SK (wB hl) (by decide))];rfl
noncomputable def bF:Nat->D->List Str
 | 0,_=>[]
 | n + 1,d=>if (bnd d).isEmpty then kB (dO d++(wit d).flatMap (bF n)) else kB (((wit d).flatMap (bF n)).filter λx=>!((dO d).any λw=>w == x))
theorem G5 (h:Sy A B L k d):(dO d).length<=2:=by cases h <;> exact QS rfl
theorem zy (h:Sy A B L k d):(own d).length<=2:=by cases h <;> exact QS rfl
variable (hL:∀x∈L,isLet x=true)
include hL
theorem tu (h:Sy A B L k d):∀x∈dO d,isLet x=true:=λx hx=>hL x (gE h x hx)
theorem jz:∀(n:Nat){k:Nat}{d:D},Sy A B L k d->∀x∈bF n d,isLet x=true
 | 0,_,_,_,x,hx=>by cases hx
 | n + 1,k,d,h,x,hx=>by
  obtain ⟨j,rfl⟩:=b9 h;have inner:∀x∈(wit d).flatMap (bF n),isLet x=true:=λx hx=>by obtain ⟨s,hs,hx⟩:=Sz.mp hx;exact jz n (cG h s hs) x hx
  unfold bF at hx;split at hx
  ·rcases Rl.mp (d8.mp hx) with hx | hx
   ·exact tu hL h x hx
   ·exact inner x hx
  ·exact inner x ((SH.mp (d8.mp hx)).1)
theorem kZ (n:Nat) (h:Sy A B L k d):(bF n d).length<=26:=by
 cases n with
 | zero=>exact Rj _
 | succ n=>
  obtain ⟨j,rfl⟩:=b9 h;have inner:∀x∈(wit d).flatMap (bF n),isLet x=true:=λx hx=>by obtain ⟨s,hs,hx⟩:=Sz.mp hx;exact jz hL n (cG h s hs) x hx
  unfold bF;split
  ·exact zH λx hx=>(Rl.mp hx).elim (tu hL h x) (inner x)
  ·exact zH λx hx=>inner x (SH.mp hx).1
theorem qL {l:List D}(n:Nat) (h:∀s∈l,Sy A B L k s):(l.flatMap (bF n)).length<=26 * l.length:=by
 induction l with
 | nil=>exact Rj _
 | cons s l ih=>
  have h1:=ih λx hx=>h x (QO _ hx);have h2:=kZ hL n (h s QT);rw [Rr,QU,Rm];omega
theorem qo {inner:List Str}(h:Sy A B L k d) (hi:∀x∈inner,isLet x=true) (hn:inner.length<=2600):
  jr [.d d,.bor (inner.map .str)]=.ok (.l .fresh ((if (bnd d).isEmpty then kB (dO d++inner) else kB (inner.filter λx=>!((dO d).any λw=>w == x))).map .str)):=by
 have h2:=G5 h;refine cS (bL (r:=.l .fresh ((dO d).map .str)) (x:=.own ((dO d).map .str)) (c1 (x:=.d d) (z:=.l .fresh ((dO d).map .str)) rfl (jb h)) rfl ?_);refine bx (gR (Jc h) (λq=>?_) λq=>ig ?_)
 ·have q:(bnd d).isEmpty=false:=by simpa using q
  rw [q];refine bJ (r:=.l .fresh ((kB (inner.filter λx=>!((dO d).any λw=>w == x))).map .str)) (zG (Nh (xs:=inner) _ rfl (by omega) λx hx=>⟨bZ (two (x:=.d (.str x)) (y:=.l .own ((dO d).map .str)) rfl rfl (Ei true x (dO d) rfl)),hi x hx⟩) λx hx=>hi x (SH.mp hx).1) rfl ?_;rfl
 ·have q:(bnd d).isEmpty=true:=by simpa using q
  rw [q];have hc:kc (.l .own ((dO d).map .str)) (.l .bor (inner.map .str))=.ok (.l .fresh ((dO d++inner).map .str)):=by show (if ((dO d).map D.str).length + (inner.map D.str).length<=sizeLine then M.ok (R.l .fresh ((dO d).map D.str++inner.map D.str)) else .bad)=_;rw [if_pos (by rw [Sd,QN,QN];omega),RS]
  have hall:∀x∈dO d++inner,isLet x=true:=λx hx=>(Rl.mp hx).elim (tu hL h x) (hi x);refine bJ (r:=.l .fresh ((kB (dO d++inner)).map .str)) (zG (l:=dO d++inner) ?_ hall) rfl rfl;show (ah _ ay _ >>= _)=_;rw [jg (two (x:=.l .own ((dO d).map .str)) (y:=.l .bor (inner.map .str)) rfl rfl hc),aS];show (fS (.l .fresh ((dO d++inner).map .str)) >>= λxs=>(match strsOf xs with
   | some ss=>if (fV ss).length < 64 then M.ok ss else .bad
   | none=>.bad))=_
  show (match strsOf ((dO d++inner).map .str) with
   | some ss=>if (fV ss).length < 64 then M.ok ss else .bad
   | none=>.bad)=_
  rw [strs_map];show (if (fV (dO d++inner)).length < 64 then M.ok (dO d++inner) else .bad)=_;rw [if_pos (SK (wB hall) (by decide))]
end K12
namespace K12
open PySem PySem.Spec PyProof.Rows DL K01 WP
variable {A B L:List Str}{k:Nat}{d:D}
variable {A B L:List Str}{k:Nat}{d:D}
noncomputable def dw (A B:List Str):D:=.tup [.tup (A.map .str),.tup (B.map .str)]
noncomputable def J6:D->Str
 | .tup (.str _::.str n::_)=>n
 | _=>Wn
noncomputable def Li (P:List Str) (d:D):Bool:=!c7 (.str (wd d)) (.str "mark") || P.any λw=>w == J6 d
noncomputable def Lh (Q:List Str) (d:D):Bool:=!c7 (.str (wd d)) (.str "arrow") || Q.any λw=>w == J6 d
theorem vt (h:Sy A B L k d) (P Q:List Str):iC [.d d,.d (dw P Q)]=.ok (.d (.bl (Li P d && Lh Q d))):=by
 cases h with
 | mark h1 h2=>
  rename_i n a;refine cS (bx (AK (r:=.d (dw P Q)) rfl rfl rfl (bx (c5 rfl (bJ (two (x:=.d (.str n)) (y:=.d (.tup (P.map .str))) rfl rfl (Ei false n P rfl)) rfl ?_)))));show O.rt (R.d (.bl (P.any λw=>w == n)))=.rt (.d (.bl ((P.any λw=>w == n) && true)));rw [Bool.and_true]
 | arrow h1 h2 h3=>
  rename_i n a b;exact cS (bx (AK (r:=.d (dw P Q)) rfl rfl rfl (bx (wY rfl (ig (bx (c5 rfl (bJ (two (x:=.d (.str n)) (y:=.d (.tup (Q.map .str))) rfl rfl (Ei false n Q rfl)) rfl rfl))))))))
 | _=>rfl
theorem rZ (h:Sy A B L k d):(Li A d && Lh B d)=true:=by
 cases h with
 | mark h1 h2=>exact congrArg (· && true) ((yQ _ A).mpr h1)
 | arrow h1 h2 h3=>exact (yQ _ B).mpr h1
 | _=>rfl
theorem yI (b:Bool):c_ [.d (.bl b),.d (.bl b)]=.ok (.d (.bl true)):=by cases b <;> rfl
variable {A B L:List Str}{k:Nat}{d:D}
theorem qA {g h:G Bool}{env:Ev}{a b:Bool}(h1:g env=.ok a) (h2:a=true->h env=.ok b):bQ g h env=.ok (a && b):=by
 unfold bQ;rw [h1,aS];cases a with
 | true=>exact h2 rfl
 | false=>rfl
theorem g9 {g h:G Bool}{env:Ev}{a b:Bool}(h1:g env=.ok a) (h2:a=false->h env=.ok b):bW g h env=.ok (a || b):=by
 unfold bW;rw [h1,aS];cases a with
 | false=>exact h2 rfl
 | true=>rfl
theorem f_ {m:Md}{L:List Str}(i:Int) (h0:0<=i) (hi:i < L.length):∃x∈L,aP (.l m (L.map .str)) (.d (.int i))=.ok (.d (.str x)):=rj (h:=D.str) _ rfl i h0 hi
theorem zu (A:List Str):bu true (.d (.tup (A.map .str))) (.d (.tup []))=.ok (.d (.bl (!A.isEmpty))):=by unfold bu;rw [if_pos ⟨by show deps (A.map .str) + 1<=60;rw [wC];decide,by show 0 + 1<=60;decide⟩];cases A <;> rfl
variable {A B L:List Str}
noncomputable abbrev Ent:=Nat×D×Int×Int
noncomputable abbrev ent (p:Ent):D:=.tup [p.2.1,.int p.2.2.1,.int p.2.2.2]
structure gK (A B L:List Str) (n:Nat) (s:D):Prop where
 pos:1<=n
 sy:Sy A B L n s
 dp:dep s<=n + 1
 len:(bK n s).length<=n
theorem gK.wrap {n:Nat}{s d:D}(h:gK A B L n s) (hw:wit d=[s]) (hy:Sy A B L (n + 1) d) (hd:dep d<=dep s + 1):gK A B L (n + 1) d where
 pos:=by omega
 sy:=hy
 dp:=by have:=h.dp;omega
 len:=by show (d::(wit d).flatMap (bK n)).length<=n + 1;rw [hw,Rm,Rr,Vz,R6];have:=h.len;omega
theorem GG (a b:D) (ha:dep a=0):dep (.tup [a,b])<=dep b + 1:=by simp [dep,deps,ha]
theorem BP (a b c:D) (ha:dep a=0) (hb:dep b=0):dep (.tup [a,b,c])<=dep c + 1:=by simp [dep,deps,ha,hb]
theorem D8 (a b c e:D) (ha:dep a=0) (hb:dep b=0) (hc:dep c=0):dep (.tup [a,b,c,e])<=dep e + 1:=by simp [dep,deps,ha,hb,hc]
noncomputable def dM:List Ent->Nat
 | []=>0
 | p::l=>p.1 + dM l
theorem tQ (l m:List Ent):dM (l++m)=dM l + dM m:=by
 induction l with
 | nil=>exact (Xr _).symm
 | cons p l ih=>show p.1 + dM (l++m)=p.1 + dM l + dM m;rw [ih];omega
theorem zJ {st:List Ent}(h:∀p∈st,gK A B L p.1 p.2.1):st.length<=dM st:=by
 induction st with
 | nil=>exact QV _
 | cons p l ih=>
  have h1:=ih λx hx=>h x (QO _ hx);have h2:=(h p QT).pos;show l.length + 1<=p.1 + dM l;omega
theorem zq {st:List Ent}(h:∀p∈st,gK A B L p.1 p.2.1):∀p∈st,p.1 + st.length<=dM st + 1:=by
 induction st with
 | nil=>exact λp hp=>by cases hp
 | cons q l ih=>
  intro p hp;have hl:∀p∈l,gK A B L p.1 p.2.1:=λx hx=>h x (QO _ hx);have h2:=(h q QT).pos;show p.1 + (l.length + 1)<=q.1 + dM l + 1;rcases QZ.mp hp with rfl | hp
  ·have:=zJ hl;omega
  ·have:=ih hl p hp;omega
theorem JK (f:Ent->Int) (l:List Ent):intsOf (l.map λx=>.int (f x))=some (l.map f):=by
 induction l with
 | nil=>rfl
 | cons x l ih=>
  show (intsOf (l.map λx=>.int (f x))).map (f x::·)=_;rw [ih];rfl
theorem zp {g:G R}{env:Ev}{st:List Ent}{f:Ent->Int}(h:g env=.ok (.l .fresh (st.map λp=>.int (f p)))):qP 0 g env=.ok (.d (.int (kM 0 (st.map f)))):=by
 unfold qP;rw [h,aS];show (match intsOf (st.map λp=>.int (f p)) with
  | some ns=>M.ok (R.d (.int (kM 0 ns)))
  | none=>.bad)=_
 rw [JK]
theorem y9 {l:List D}{n:Nat}(h:∀d∈l,dep d<=n):deps l<=n:=by
 induction l with
 | nil=>exact Rj _
 | cons d l ih=>
  show max (dep d) (deps l)<=n;exact Nat.max_le.mpr ⟨h d QT,ih λx hx=>h x (QO _ hx)⟩
theorem Et {st:List Ent}(h:∀p∈st,gK A B L p.1 p.2.1){N:Nat}(hN:∀p∈st,p.1<=N):((st.map λp=>p.2.1).flatMap (bK N)).length<=dM st:=by
 induction st with
 | nil=>exact Rj _
 | cons p l ih=>
  have h1:=ih (λx hx=>h x (QO _ hx)) λx hx=>hN x (QO _ hx);have h2:=h p QT;have h3:=jB h2.sy (hN p QT);have h4:=h2.len;show ((p.2.1::l.map λp=>p.2.1).flatMap (bK N)).length<=p.1 + dM l;rw [Rr,QU,h3];omega
theorem uq {st:List Ent}(h:∀p∈st,gK A B L p.1 p.2.1) (h1:st.length≠1) (hl:st.length<=100){v:Str}(hv:v="and"\/v="or"):gK A B L (dM st + 1) (.tup [.str v,.tup (st.map λp=>p.2.1)]):=by
 have hm:∀p∈st,p.1 + 1<=dM st:=λp hp=>by have:=zq h p hp;have:0 < st.length:=List.length_pos_of_mem hp;omega
 have PU:∀s∈st.map λp=>p.2.1,Sy A B L (dM st) s:=λs hs=>by obtain ⟨p,hp,rfl⟩:=Rg.mp hs;exact (h p hp).sy.up (by have:=hm p hp;omega)
 have hw:wit (.tup [.str v,.tup (st.map λp=>p.2.1)])=st.map λp=>p.2.1:=by rcases hv with rfl | rfl <;> rfl
 refine ⟨by omega,?_,?_,?_⟩
 ·rcases hv with rfl | rfl
  ·exact .and PU (by rw [QN];exact hl)
  ·exact .or PU (by rw [QN];exact hl)
 ·have:deps (st.map λp=>p.2.1)<=dM st:=y9 λs hs=>by obtain ⟨p,hp,rfl⟩:=Rg.mp hs;have:=(h p hp).dp;have:=hm p hp;omega
  simp [dep,deps];omega
 ·show (_::(wit _).flatMap (bK (dM st))).length<=_;rw [hw,Rm];have:=Et h (N:=dM st) λp hp=>by have:=hm p hp;omega
  omega
theorem vq (n:Int){st:List Ent}(h:∀p∈st,gK A B L p.1 p.2.1) (hl:st.length<=100):∃q:Ent,fR [.d (.int n),.bor (st.map ent)]=.ok (.d (ent q))/\gK A B L q.1 q.2.1/\q.1<=dM st + 1:=by
 have key:Wp (fR [.d (.int n),.bor (st.map ent)]) λr=>∃q:Ent,r=.d (ent q)/\gK A B L q.1 q.2.1/\q.1<=dM st + 1:=by
  refine se (bL (r:=.d (.tup (st.map λp=>p.2.1))) (n1 (sN (α:=Ent) (xs:=st) (h:=ent) (λp=>p.2.1) rfl (by omega) λp hp=>⟨_,rfl,rfl⟩) rfl) rfl ?_);refine bL (zp (f:=λp=>p.2.2.1) (sN (α:=Ent) (xs:=st) (h:=ent) (λp=>.int p.2.2.1) rfl (by omega) λp hp=>⟨_,rfl,rfl⟩)) rfl ?_;refine bL (zp (f:=λp=>p.2.2.2) (sN (α:=Ent) (xs:=st) (h:=ent) (λp=>.int p.2.2.2) rfl (by omega) λp hp=>⟨_,rfl,rfl⟩)) rfl ?_;have el:eS [.l .bor (st.map ent)]=.ok (.d (.int st.length)):=by show M.ok (R.d (.int ((st.map ent).length:Nat)))=_;rw [QN]
  refine bx (gR (c:=((st.length:Int) == 1)) (bZ (WP.two (n1 rfl el) rfl (eq_int false _ _))) (λq=>?_) λq=>ig ?_)
  ·have q:st.length=1:=by have:=beq_iff_eq.mp q;omega
   match st,q,h with
   | [p],_,h=>exact bJ (r:=.d (ent p)) (WP.two (x:=.l .bor [ent p]) rfl rfl rfl) rfl ⟨_,rfl,p,rfl,h p QT,by show p.1<=p.1 + 0 + 1;omega⟩
  ·have q:st.length≠1:=λz=>by rw [z] at q;cases q
   obtain ⟨v,hv,ev⟩:=f_ (m:=.fresh) (L:=["and","or"]) (n % 2) (by omega) (by show _ < 2;omega);have hv:v="and"\/v="or":=by
    rcases QZ.mp hv with rfl | hv
    ·exact .inl rfl
    ·exact .inr (QK.mp hv)
   exact bJ (r:=.d (ent (dM st + 1,.tup [.str v,.tup (st.map λp=>p.2.1)],kM 0 (st.map λp=>p.2.2.1),kM 0 (st.map λp=>p.2.2.2) + 1))) (dG (aQ (dG (aQ (WP.two (dI (aQ rfl rfl (aQ rfl rfl bN)) (QS rfl)) (WP.two rfl rfl (bC n 2 (by decide))) ev) rfl (aQ rfl rfl bN)) (QS rfl)) rfl (aQ rfl rfl (aQ (WP.two rfl rfl (cU _ _)) rfl bN))) (QS rfl)) rfl ⟨_,rfl,(dM st + 1,.tup [.str v,.tup (st.map λp=>p.2.1)],kM 0 (st.map λp=>p.2.2.1),kM 0 (st.map λp=>p.2.2.2) + 1),rfl,uq h q hl hv,QV _⟩
 obtain ⟨r,e,q,rfl,h⟩:=key;exact ⟨q,e,h⟩
variable {A B L:List Str}
theorem D3 (xs:List D) (m:Nat) (hm:0 < m):cutD xs none (some (-(m:Int)))=xs.take (xs.length - m):=by
 unfold DL.cutD;rw [HT.qb];have e:HT.bP xs.length xs.length (some (-(m:Int)))=xs.length - m:=by show (if -(m:Int) < 0 then (-(m:Int) + (xs.length:Int)).toNat else min (-(m:Int)).toNat xs.length)=_;rw [if_pos (by omega)];omega
 rw [e,XX,Nat.sub_zero]
theorem D5 (xs:List D) (m:Nat) (hm:0 < m):cutD xs (some (-(m:Int))) none=xs.drop (xs.length - m):=by
 unfold DL.cutD;rw [HT.qb];have e:HT.bP xs.length 0 (some (-(m:Int)))=xs.length - m:=by show (if -(m:Int) < 0 then (-(m:Int) + (xs.length:Int)).toNat else min (-(m:Int)).toNat xs.length)=_;rw [if_pos (by omega)];omega
 rw [e];exact W5 (by rw [SM];omega)
theorem GZ (m:Md) (ys:List D) (z:D):aP (.l m (ys++[z])) (.d (.int (-1)))=.ok (.d z):=by
 have e:L2.jN (ys++[z]) (-1)=some z:=by unfold L2.jN L2.wU;simp;rw [if_pos (by omega),show (-1 + ((ys.length:Int) + 1)).toNat=ys.length by omega];simp
 show (match L2.jN (ys++[z]) (-1) with
  | some d=>M.ok (R.d d)
  | none=>.bad)=_
 rw [e]
theorem v_ (xs ys:List D) (h:xs.length + ys.length<=1000):bA (.l .fresh xs) (.l .fresh ys)=.ok (.l .fresh (xs++ys)):=by show (if xs.length + ys.length<=sizeLine then M.ok (R.l .fresh (xs++ys)) else .bad)=_;rw [if_pos (by rw [Sd];omega)]
structure jM (A B L:List Str) (k:Nat) (st:List Ent):Prop where
 ok:∀p∈st,gK A B L p.1 p.2.1
 sum:dM st<=k
theorem jM.len {k:Nat}{st:List Ent}(h:jM A B L k st):st.length<=k:=RG (zJ h.ok) h.sum
theorem jM.push {k:Nat}{st:List Ent}(h:jM A B L k st){q:Ent}(hq:gK A B L q.1 q.2.1) (h1:q.1<=1):jM A B L (k + 1) (st++[q]) where
 ok p hp:=by
  rcases Rl.mp hp with hp | hp
  ·exact h.ok p hp
  ·rw [QK.mp hp];exact hq
 sum:=by rw [tQ];have:=h.sum;show dM st + (q.1 + 0)<=k + 1;omega
theorem jM.swap {k c:Nat}{st:List Ent}(h:jM A B L k st){q:Ent}(hq:gK A B L q.1 q.2.1) (h1:q.1<=dM (st.drop c) + 1):jM A B L (k + 1) (st.take c++[q]) where
 ok p hp:=by
  rcases Rl.mp hp with hp | hp
  ·exact h.ok p (List.mem_of_mem_take hp)
  ·rw [QK.mp hp];exact hq
 sum:=by
  have e:dM st=dM (st.take c) + dM (st.drop c):=by rw [<-tQ,Ux]
  rw [tQ];have:=h.sum;show dM (st.take c) + (q.1 + 0)<=k + 1;omega
theorem ne_nil {k:Nat}{l:List Ent}{p:Ent}(h:jM A B L k (l++[p])) (hk:k<=56):bu false (.l .own ((l++[p]).map ent)) (.l .fresh [])=.ok (.d (.bl false)):=by
 have hd:dep (.lst ((l++[p]).map ent))<=60:=by
  have:deps ((l++[p]).map ent)<=59:=y9 λd hd=>by
   obtain ⟨q,hq,rfl⟩:=Rg.mp hd;have h1:=(h.ok q hq).dp;have h2:=zq h.ok q hq;have h3:=h.sum;have:dep (ent q)<=dep q.2.1 + 1:=by simp [dep,deps]
   rw [QU] at h2;have:[p].length=1:=rfl;omega
  show deps ((l++[p]).map ent) + 1<=60;omega
 unfold bu;rw [if_pos ⟨hd,by show 0 + 1<=60;decide⟩];cases l <;> rfl
theorem Ir {v:Str}(hv:v="and"\/v="or"):gK A B L 1 (.tup [.str v,.tup []]):=uq (st:=[]) (λp hp=>by cases hp) (by decide) (by decide) hv
variable {A B L:List Str}
end K12
namespace S6
open PySem PySem.Spec PyProof.Rows L2 DL
end S6
namespace S6
end S6
namespace S6
open PySem PySem.Spec PyProof.Rows L2 DL
end S6
namespace S6
open PySem PySem.Spec PyProof.Rows L2 DL
end S6
namespace DL
open PySem PySem.Spec PyProof.Rows L2 S6
end DL
namespace K23
open PySem DL K01 WP K51 K52 K55
end K23
namespace K03
open PySem DL
end K03
namespace K03
open PySem DL K01 WP K51 K52 K55 K23
end K03
namespace L2
open PySem PySem.Spec PyProof.Rows
section
variable {κ:Type} [DecidableEq κ]
noncomputable def cY (QC:List (κ×V)) (k:κ):Option V:=(QC.find? λkv=>decide (kv.1=k)).map (·.2)
noncomputable def putK (QC:List (κ×V)) (k:κ) (v:V):List (κ×V):=
 if (QC.any λkv=>decide (kv.1=k))=true then QC.map (λkv=>if kv.1=k then (kv.1,v) else kv) else QC++[(k,v)]
theorem ez {p:κ×V}{r:List (κ×V)}{k:κ}(e:p.1=k):cY (p::r) k=some p.2:=by simp [cY,R8,e]
theorem er {p:κ×V}{r:List (κ×V)}{k:κ}(e:¬p.1=k):cY (p::r) k=cY r k:=by simp [cY,R8,e]
theorem mz (k:κ):∀QC:List (κ×V),(QC.any λkv=>decide (kv.1=k))=(cY QC k).isSome
 | []=>rfl
 | p::r=>by
  rw [Sx];by_cases e:p.1=k
  ·simp only [ez e,decide_eq_true e,Bool.true_or,Yv]
  ·rw [er e,decide_eq_false e,aap];exact mz k r
theorem yd (k j:κ) (y:V):∀QC:List (κ×V),cY (QC.map λkv=>if kv.1=k then (kv.1,y) else kv) j=(cY QC j).map λx=>if j=k then y else x
 | []=>rfl
 | p::r=>by
  have ih:=yd k j y r;rw [Ri];by_cases h:p.1=k
  ·rw [if_pos h];by_cases e:p.1=j
   ·rw [ez (p:=(p.1,y)) e,ez e,T8,if_pos (e.symm.trans h)]
   ·rw [er (p:=(p.1,y)) e,er e,ih]
  ·rw [if_neg h];by_cases e:p.1=j
   ·rw [ez (p:=p) e,ez e,T8,if_neg (λz=>h (e.trans z))]
   ·rw [er (p:=p) e,er e,ih]
theorem uF (k j:κ) (y:V):∀QC:List (κ×V),cY QC k=none->cY (QC++[(k,y)]) j=if j=k then some y else cY QC j
 | [],_=>by
  by_cases e:k=j
  ·rw [if_pos e.symm];exact ez (p:=(k,y)) e
  ·rw [if_neg (λz=>e z.symm)];exact er (p:=(k,y)) e
 | p::r,hn=>by
  rw [Zf];have hk:¬p.1=k:=λz=>by rw [ez z] at hn;cases hn
  rw [er hk] at hn;have ih:=uF k j y r hn;by_cases e:p.1=j
  ·rw [ez e,ez e,if_neg (λz=>hk (e.trans z))]
  ·rw [er e,er e,ih]
theorem E6 (QC:List (κ×V)) (k j:κ) (y:V):cY (putK QC k y) j=if j=k then some y else cY QC j:=by
 unfold putK;by_cases a:(QC.any λkv=>decide (kv.1=k))=true
 ·rw [if_pos a,yd];rw [mz] at a;by_cases e:j=k
  ·obtain ⟨x,hx⟩:=RE.mp a;rw [if_pos e,e,hx,T8,if_pos rfl]
  ·rw [if_neg e];cases cY QC j with
   | none=>rfl
   | some x=>rw [T8,if_neg e]
 ·rw [if_neg a];refine uF k j y QC ?_;rw [mz] at a;cases q:cY QC k with
  | none=>rfl
  | some x=>rw [q] at a;exact (a rfl).elim
theorem pB (QC:List (κ×V)) (k:κ) (v:V):(putK QC k v).length<=QC.length + 1:=by
 unfold putK;split
 ·rw [QN];omega
 ·rw [QU,Rm,Zz];omega
theorem iF.isSome_eq {o:Option V}{u:Option QH}(r:iF o u):o.isSome=u.isSome:=by
 cases o with
 | none=>cases u with
  | none=>rfl
  | some _=>exact (show False from r).elim
 | some _=>cases u with
  | none=>exact (show False from r).elim
  | some _=>rfl
theorem KV.val {QC:List (κ×V)}{vs:List (κ×QH)}(r:KV QC vs) (k:κ):iF (cY QC k) (UR vs k):=by
 unfold KV at r
 induction r with
 | nil=>exact TN
 | @cons p q ps qs h t ih=>
  obtain ⟨h1,h2⟩:=h;by_cases e:p.1=k
  ·have e':q.1=k:=h1.symm.trans e;have b:UR (q::qs) k=some q.2:=by simp [UR,R8,e']
   rw [ez e,b];exact h2
  ·have e':¬q.1=k:=λz=>e (h1.trans z);have b:UR (q::qs) k=UR qs k:=by simp [UR,R8,e']
   rw [er e,b];exact ih
theorem KV.any {QC:List (κ×V)}{vs:List (κ×QH)}(r:KV QC vs) (k:κ):(QC.any λkv=>decide (kv.1=k))=vs.any λkv=>decide (kv.1=k):=by
 unfold KV at r
 induction r with
 | nil=>rfl
 | cons h t ih=>rw [Sx,Sx,ih,h.1]
theorem KV.repl {QC:List (κ×V)}{vs:List (κ×QH)}(r:KV QC vs) (k:κ){y:V}{u:QH}(ry:RelV y u):
  KV (QC.map λkv=>if kv.1=k then (kv.1,y) else kv) (vs.map λkv=>if kv.1=k then (kv.1,u) else kv):=by
 unfold KV at r ⊢
 induction r with
 | nil=>exact .nil
 | @cons p q ps qs h t ih=>
  rw [Ri,Ri];refine .cons ?_ ih;obtain ⟨h1,h2⟩:=h;by_cases e:p.1=k
  ·rw [if_pos e,if_pos (h1.symm.trans e)];exact ⟨h1,ry⟩
  ·rw [if_neg e,if_neg (λz=>e (h1.trans z))];exact ⟨h1,h2⟩
theorem KV.put {QC:List (κ×V)}{vs:List (κ×QH)}(r:KV QC vs) (k:κ){y:V}{u:QH}(ry:RelV y u):KV (putK QC k y) (stored vs k u):=by
 unfold putK stored;rw [r.any k];by_cases e:(vs.any λkv=>decide (kv.1=k))=true
 ·rw [if_pos e,if_pos e];exact r.repl k ry
 ·rw [if_neg e,if_neg e];exact aa4 r ⟨rfl,ry⟩
theorem KV.keys {QC:List (κ×V)}{vs:List (κ×QH)}(r:KV QC vs):QC.map (·.1)=vs.map (·.1):=by
 unfold KV at r
 induction r with
 | nil=>rfl
 | cons h t ih=>rw [Ri,Ri,ih,h.1]
theorem KV.length {QC:List (κ×V)}{vs:List (κ×QH)}(r:KV QC vs):QC.length=vs.length:=Wy r
end
theorem vf {P:Q2}{w:Ro}{k:Key}{u:QH}(r:RelV (kV k) u):(d_ P w).is k u=true:=by
 cases k with
 | inl i=>obtain ⟨t,e⟩:=(show ∃t,u=UY i t from r);subst e;exact yr P w i t
 | inr x=>obtain ⟨t,e⟩:=(show ∃t,u=Yc x t from r);subst e;exact yt P w x t
theorem uo {P:Q2}{w:Ro}:∀{ks:List Key}{us:List QH},Vals (ks.map kV) us->ItemsAre (d_ P w) ks us
 | [],_,r=>by rw [Y3] at r;cases r;exact .nil
 | k::ks,_,r=>by
  rw [Ri] at r;cases r with
  | cons h t=>exact .cons (vf h) (uo t)
noncomputable abbrev KT (H:Hp):List (List Key×V)->List (List Key×Q4×QH)->Prop:=Wk λp q=>p.1=q.1/\H q.2.1=some (.tup (p.1.map kV))/\RelV p.2 q.2.2
theorem KT.val {H:Hp}{QC:List (List Key×V)}{xs:List (List Key×Q4×QH)}(r:KT H QC xs) (k:List Key):iF (cY QC k) ((aaC xs k).map (·.2)):=by
 induction r with
 | nil=>exact TN
 | @cons p q ps qs h t ih=>
  obtain ⟨h1,_,h2⟩:=h;by_cases e:p.1=k
  ·have e':q.1=k:=h1.symm.trans e;have b:aaC (q::qs) k=some q.2:=by simp [aaC,R8,e']
   rw [ez e,b];exact h2
  ·have e':¬q.1=k:=λz=>e (h1.trans z);have b:aaC (q::qs) k=aaC qs k:=by simp [aaC,R8,e']
   rw [er e,b];exact ih
theorem KT.repl {H:Hp}{QC:List (List Key×V)}{xs:List (List Key×Q4×QH)}(r:KT H QC xs) (k:List Key){y:V}{u:QH}(ry:RelV y u):
  KT H (QC.map λkv=>if kv.1=k then (kv.1,y) else kv) (xs.map (putAt k u)):=by
 induction r with
 | nil=>exact .nil
 | @cons p q ps qs h t ih=>
  rw [Ri,Ri];refine .cons ?_ ih;obtain ⟨h1,h2,h3⟩:=h;unfold putAt;by_cases e:p.1=k
  ·rw [if_pos e,if_pos (h1.symm.trans e)];exact ⟨h1,h2,ry⟩
  ·rw [if_neg e,if_neg (λz=>e (h1.trans z))];exact ⟨h1,h2,h3⟩
theorem KT.put {H:Hp}{QC:List (List Key×V)}{xs:List (List Key×Q4×QH)}(r:KT H QC xs) (k:List Key){b:Q4}{y:V}{u:QH}(hb:H b=some (.tup (k.map kV))) (ry:RelV y u):
  KT H (putK QC k y) (storedH xs k b u):=by
 have e:(QC.any λkv=>decide (kv.1=k))=(aaC xs k).isSome:=by rw [mz,(r.val k).isSome_eq,YU]
 unfold putK storedH;rw [e];by_cases q:(aaC xs k).isSome=true
 ·rw [if_pos q,if_pos q];exact r.repl k ry
 ·rw [if_neg q,if_neg q];exact aa4 r ⟨rfl,hb,ry⟩
theorem KT.keeps {H H':Hp}{QC:List (List Key×V)}{xs:List (List Key×Q4×QH)}(r:KT H QC xs) (ht:∀b ys,H b=some (.tup ys)->H' b=some (.tup ys)):KT H' QC xs:=
 Wk.mapP r λ_ _ z=>⟨z.1,ht _ _ z.2.1,z.2.2⟩
section
variable {P:Q2}{w:Ro}{H:Hp}{h:Sa}{a:Q4}
theorem F7 {u:HO}(ok:eW P w H h) (e:Rd H a u):cu P w H h a u:=e.ok ok
theorem qG {QC:List (Key×V)}(ok:eW P w H h) (e:Rd H a (.dK QC)):QC.length<=sizeLine/\(a == RY)=false/\∃vs,KV QC vs/\h.DictOf (d_ P w) a vs:=
 show cu P w H h a (.dK QC) from F7 ok e
theorem u_ {QC:List (Key×V)}(ok:eW P w H h) (e:H a=some (.dK QC)):QC.length<=sizeLine/\(a == RY)=false/\∃vs,KV QC vs/\h.DictOf (d_ P w) a vs:=qG ok (.inl e)
theorem rq {ks:List Key}(ok:eW P w H h) (e:H a=some (.tup (ks.map kV))):(W9 (d_ P w)).is h ks a:=by obtain ⟨_,Qx,r,⟨o,h1,h2,n,h3⟩,_⟩:=(show cu P w H h a (.tup (ks.map kV)) from ok a _ e);exact ⟨o,Qx.toArray,n,h1,h2,h3,by simpa using uo r⟩
theorem vc {QC:List (List Key×V)}(ok:eW P w H h) (e:Rd H a (.dT QC)):QC.length<=sizeLine/\(a == RY)=false/\
  ∃xs,KT H QC xs/\h.DictOfH (W9 (d_ P w)) a xs:=by
 obtain ⟨z,y,xs,r,o,es,ep,h1,h2,h3,h4,h5⟩:=(show cu P w H h a (.dT QC) from F7 ok e);refine ⟨z,y,xs,r,o,es,ep,h1,h2,h3,h4,λx hx=>?_,h5⟩;have all:∀{l:List (List Key×V)}{m:List (List Key×Q4×QH)},KT H l m->∀x∈m,(W9 (d_ P w)).is h x.1 x.2.1:=by
  intro l m q
  induction q with
  | nil=>intro x hx;exact nomatch hx
  | @cons p q ps qs hq t ih=>
   intro x hx;rcases QZ.mp hx with e | hx
   ·subst e;exact rq ok (by rw [<-hq.1];exact hq.2.1)
   ·exact ih x hx
 exact all r x hx
theorem LD {QC:List (List Key×V)}(ok:eW P w H h) (e:H a=some (.dT QC)):QC.length<=sizeLine/\(a == RY)=false/\
  ∃xs,KT H QC xs/\h.DictOfH (W9 (d_ P w)) a xs:=vc ok (.inl e)
end
noncomputable def ic (H:Hp) (a:Q4) (y:V) (r:Option V):Prop:=
 (∃QC k,Rd H a (.dK QC)/\y=kV k/\r=cY QC k)\/∃QC k b,Rd H a (.dT QC)/\y=.ref b/\H b=some (.tup (k.map kV))/\r=cY QC k
noncomputable def pL (H:Hp) (a:Q4) (y v:V) (H':Hp):Prop:=
 (∃QC k,H a=some (.dK QC)/\y=kV k/\QC.length < sizeLine/\H'=upd H a (.dK (putK QC k v)))\/
 ∃QC k b,H a=some (.dT QC)/\y=.ref b/\H b=some (.tup (k.map kV))/\QC.length < sizeLine/\H'=upd H a (.dT (putK QC k v))
theorem ic.k {H:Hp}{a:Q4}{QC:List (Key×V)}{k:Key}(e:H a=some (.dK QC)):ic H a (kV k) (cY QC k):=.inl ⟨QC,k,.inl e,rfl,rfl⟩
theorem ic.t {H:Hp}{a b:Q4}{QC:List (List Key×V)}{k:List Key}(e:H a=some (.dT QC)) (eb:H b=some (.tup (k.map kV))):ic H a (.ref b) (cY QC k):=.inr ⟨QC,k,b,.inl e,rfl,eb,rfl⟩
theorem pL.k {H:Hp}{a:Q4}{QC:List (Key×V)}{k:Key}{v:V}(e:H a=some (.dK QC)) (hl:QC.length < sizeLine):pL H a (kV k) v (upd H a (.dK (putK QC k v))):=.inl ⟨QC,k,e,rfl,hl,rfl⟩
theorem pL.t {H:Hp}{a b:Q4}{QC:List (List Key×V)}{k:List Key}{v:V}(e:H a=some (.dT QC)) (eb:H b=some (.tup (k.map kV))) (hl:QC.length < sizeLine):
  pL H a (.ref b) v (upd H a (.dT (putK QC k v))):=.inr ⟨QC,k,b,e,rfl,eb,hl,rfl⟩
section
variable {X:Cx}{Qw:List (Q4×Obj)}{σ:St}{H:Hp}{s:QL}{a:Q4}{y v:V}{u r:QH}{o:Option V}{A:RA}{E:QH->QL->Prop}
theorem Inv.big (I:Inv X Qw σ H s):RY < s.heap.objs.size:=by have h:Q_ < s.heap.objs.size:=(I.mod.glob.keeps I.bk).lt;exact Sf (by decide) h
theorem uc {Q:QH->QL->Prop}(hu:A.units + 1 < Up) (I:Inv X Qw σ H s) (g:ic H a y (some v)) (ry:RelV y u) (h:∀w' s',Inv X Qw σ H s'->RelV v w'->Q w' s'):
  Q8 (Rb X.prog X.w) A (VQ (.ref a) u) Q E s:=by
 rcases g with ⟨QC,k,e,ey,l⟩ | ⟨QC,k,b,e,ey,eb,l⟩
 ·subst ey;obtain ⟨z,hd,vs,rel,dd⟩:=qG I.hok e;obtain ⟨w',hw,rw'⟩:=iF.some_of (v:=v) (o:=UR vs k) (by rw [l];exact rel.val k);exact Za (vf ry) dd.mapOf hw (h w' _ (I.tok _) rw')
 ·subst ey;cases (show u=Tj b from ry);obtain ⟨z,hd,xs,rel,dd⟩:=vc I.hok e;obtain ⟨w',hw,rw'⟩:=iF.some_of (v:=v) (o:=(aaC xs k).map (·.2)) (by rw [l];exact rel.val k);obtain ⟨p,hp,hp2⟩:=Vc.mp hw;refine wpAny_getItem_heap (Wb hu) (rq I.hok eb) dd hp ?_;rw [hp2];exact h w' _ (I.tok _) rw'
theorem yY {Q:QH->QL->Prop}(hu:A.units + 1 < Up) (I:Inv X Qw σ H s) (g:ic H a y o) (ry:RelV y u) (h:∀s',Inv X Qw σ H s'->Q (.bool (!o.isSome)) s'):
  Q8 (Rb X.prog X.w) A (SI .NotIn u (.ref a)) Q E s:=by
 rcases g with ⟨QC,k,e,ey,l⟩ | ⟨QC,k,b,e,ey,eb,l⟩
 ·subst ey;obtain ⟨z,hd,vs,rel,dd⟩:=qG I.hok e;refine wpAny_notIn_of (vf ry) hd dd.mapOf ?_;rw [<-(rel.val k).isSome_eq,<-l];exact h _ (I.tok _)
 ·subst ey;cases (show u=Tj b from ry);obtain ⟨z,hd,xs,rel,dd⟩:=vc I.hok e;refine wpAny_notIn_heap (Wb hu) (rq I.hok eb) hd dd ?_;have q:=(rel.val k).isSome_eq;rw [YU] at q;rw [<-q,<-l];exact h _ (I.tok _)
theorem yZ {h':Sa}{t':Nat}{ob:HO}(I:Inv X Qw σ H s) (mu:Bo (H a)) (hs:SD a s.heap h') (he:∃q,h'.get? a=some q) (new:cu X.prog X.w (upd H a ob) h' a ob):
  Inv X Qw σ (upd H a ob) {s with heap:=h',toks:=t'}:=
 I.write (x:=a) (e:=a) mu (.inl rfl) (λb q hb z=>(hs.2 b hb).trans z) he new
theorem BQ {P:Q2}{w:Ro}{H':Hp}{h':Sa}{QC:List (Key×V)}{vs:List (Key×QH)}(z:QC.length<=sizeLine) (hd:(a == RY)=false) (rel:KV QC vs) (dd:h'.DictOf (d_ P w) a vs):
  cu P w H' h' a (.dK QC):=⟨z,hd,vs,rel,dd⟩
theorem ud {H':Hp}{Q:Unit->QL->Prop}(hu:A.units + 1 < Up) (I:Inv X Qw σ H s) (g:pL H a y v H') (ry:RelV y u) (rv:RelV v r) (h:∀s',Inv X Qw σ H' s'->Q () s'):
  Q8 (Rb X.prog X.w) A (aaa (.ref a) u r) Q E s:=by
 rcases g with ⟨QC,k,e,ey,l,eH⟩ | ⟨QC,k,b,e,ey,eb,l,eH⟩
 ·subst ey eH;obtain ⟨z,hd,vs,rel,dd⟩:=u_ I.hok e;have hz:vs.length<=sizeLine:=by rw [<-rel.length];exact z
  have hl:(putK QC k v).length<=sizeLine:=by have:=pB QC k v;omega
  refine wpAny_setItem_pairs (hsz:=hz) (vf ry) dd λh' dd' hs=>h _ ?_;have he:∃q,h'.get? a=some q:=let ⟨q,_,_,hq,_⟩:=dd';⟨q,hq⟩
  exact yZ I (by rw [e];exact TN) hs he (BQ hl hd (rel.put k rv) dd')
 ·subst ey eH;cases (show u=Tj b from ry);obtain ⟨z,hd,xs,rel,dd⟩:=LD I.hok e;have hz:xs.length<=sizeLine:=by rw [<-Wy rel];exact z
  have hl:(putK QC k v).length<=sizeLine:=by have:=pB QC k v;omega
  refine wpAny_setItem_heap (hsz:=hz) (Wb hu) (rq I.hok eb) dd λh' dd' hs=>h _ ?_;obtain ⟨q,es,ep,hq,h2,h3,h4,_,h5⟩:=dd';refine yZ I (by rw [e];exact TN) hs ⟨q,hq⟩ ⟨hl,hd,_,(rel.put k eb rv).keeps λc ys ec=>?_,q,es,ep,hq,h2,h3,h4,h5⟩;rw [bh (LV ec e (λz=>nomatch z))];exact ec
end
noncomputable def vE (i:Rz):Prop:=∀ov iv,subscripted i false ov iv=operate [ov,iv] (VQ ov iv)
theorem zI {prog:Q2}{w:Ro}{A:RA}{E:QH->QL->Prop}{s:QL}{env:Env}{value slice:Rz}{pos:Pos}{T id:String}{Q:QH->QL->Prop}
  (hl:Z2 (.type T) "__getitem__"=pure (some (.builtin id))) (hs:vE slice)
  (h:Q8 (Rb prog w) A (eval value env) (λo s₁=>Q8 (Rb prog w) A (eval slice env) (λi s₂=>s₂.TypeIs o T/\Q8 (Rb prog w) A (VQ o i) Q E s₂) E s₁) E s):
  Q8 (Rb prog w) A (eval (.Subscript value slice pos) env) Q E s:=by
 refine YB (RM h (λo s₁ h₁=>RM h₁ (λi s₂ h₂=>?_) λ_ _ x=>x) λ_ _ x=>x);obtain ⟨hT,h₂⟩:=h₂;unfold Yn;refine QF ?_;rw [getitemInPython_of_ne hT.not_modules];refine QF (ZF hT hl ?_);have fin:Q8 (Rb prog w) A (subscripted slice false o i) (λr s₃=>Q8 (Rb prog w) A (letTemporaryGo value o r >>= λ_=>pure r) Q E s₃) E s₂:=by rw [hs o i];exact wpAny_operating (RM h₂ (λr s₃ h₃=>QF (wpAny_letTemporaryGo (QJ h₃))) λ_ _ x=>x)
 first
  | exact QJ (QF fin)
  | exact QF (QJ (QF fin))
  | exact QF fin
theorem o5 {X:Cx}{Qw:List (Q4×Obj)}{σ:St}{H:Hp}{s:QL}{a:Q4}{y:V}{o:Option V}(I:Inv X Qw σ H s) (g:ic H a y o):s.TypeIs (.ref a) "dict":=by
 rcases g with ⟨QC,k,e,_,_⟩ | ⟨QC,k,b,e,_,_,_⟩
 ·obtain ⟨_,_,vs,_,dd⟩:=qG I.hok e;exact dd.typeIs
 ·obtain ⟨_,_,xs,_,dd⟩:=vc I.hok e;exact dd.typeIs
noncomputable def Mi (td ty:TE):TE:=λσ H Q=>td σ H λx H1=>ty σ H1 λy H2=>∃a v,x=.ref a/\ic H2 a y (some v)/\Q v H2
section
variable {X:Cx}{o i e value:Rz}{pos pos' tpos:Pos}{td ty tv:TE}
theorem Hw (hu:X.A.units + 1 < Up) (ho:PE X o td) (hi:PE X i ty) (hs:vE i):PE X (.Subscript o i pos) (Mi td ty):=by intro Qw s σ H Q I h;refine zI UI.lookup hs (bU (ho Qw s σ H _ I h) λu s1 ⟨x,H1,I1,rx,q1⟩=>bU (hi Qw s1 σ H1 _ I1 q1) λiv s2 ⟨y,H2,I2,ry,a,v,ex,g,q2⟩=>?_);subst ex;obtain rfl:u=Tj a:=rx;exact ⟨o5 I2 g,uc hu I2 g ry λw' s3 I3 rw'=>⟨v,H2,I3,rw',q2⟩⟩
end
theorem D9 {P:Q2}{w:Ro}{H:Hp}(h:Sa) (hb:RY < h.objs.size):cu P w H (h.push {cls:=.type "dict",data:=.dict #[]}) h.objs.size (.dK []):=
 ⟨Rj _,beq_eq_false_iff_ne.mpr (Sb (Q7 hb)),[],.nil,Zr h⟩
section
variable {X:Cx}{Qw:List (Q4×Obj)}{σ:St}{H:Hp}{s:QL}{a:Q4}{QC:List (Key×V)}{A:RA}{E:QH->QL->Prop}
theorem D7 {Q:QH->QL->Prop}(I:Inv X Qw σ H s) (e:Rd H a (.dK QC)) (h:∀p s',H p=none->Inv X Qw σ (upd H p (.dK QC)) s'->Q (.ref p) s'):Q8 (Rb X.prog X.w) A (call (.type "dict") [.ref a]) Q E s:=by obtain ⟨z,hd,vs,rel,dd⟩:=qG I.hok e;refine kt_call_dict hd dd (by rw [<-rel.length];exact z) λh' dd' hs=>?_;refine h _ _ (I.hok.fresh (QV _)) (I.laid (a:=s.heap.objs.size) (o:=.dK QC) (t':=s.toks) (λb q hq=>?_) (QV _) (BQ z (beq_eq_false_iff_ne.mpr (Sb (Q7 I.big))) rel dd'));exact (hs.2 b (Q7 (Q6 hq))).trans (QM _ hq)
end
end L2
namespace DL
open PySem PySem.Spec PyProof.Rows L2 DX
noncomputable def kU:R->Option (List Str×List D)
 | .d .emp=>some ([],[])
 | .d (.ob (.txt ss) xs)=>some (ss,xs)
 | .o _ (.txt ss) xs=>some (ss,xs)
 | _=>none
noncomputable def cF {α:Type}:List Str->List α->Str->Option α
 | s::ss,d::ds,x=>if s=x then some d else cF ss ds x
 | _,_,_=>none
noncomputable def bw {α:Type}(ss:List Str) (xs:List α) (s:Str) (v:α):List Str×List α:=
 if ss.contains s=true then (ss,(ss.zip xs).map λp=>if p.1=s then v else p.2) else (ss++[s],xs++[v])
noncomputable abbrev mQ (ss:List Str) (vs:List V):List (Key×V):=(ss.map Uq).zip vs
section
variable {X:Cx}{c:C}{e ke a b:Rz}{g gk ga gb:G R}{pos:Pos}
theorem RR.txt {He J H:Hp}(hp:HI c J H):∀{r:R}{v:V}{z:List Str×List D},RR c He J H r v->kU r=some z->∃a vs,v=.ref a/\H a=some (.dK (mQ z.1 vs))/\z.1.length=vs.length/\aX c.K J z.2 vs
 | .d .emp,v,z,h,e=>by
  cases e;cases h with
  | emp h=>exact ⟨_,[],rfl,hp.sub _ _ h,rfl,.nil⟩
 | .d (.ob (.txt ss) xs),v,z,h,e=>by
  cases e;cases h with
  | ob h hs=>obtain ⟨h1,h2,h3⟩:=h;exact ⟨_,_,rfl,hp.sub _ _ h2,h1,hs⟩
 | .o .fresh (.txt ss) xs,v,z,⟨a,h1,⟨vs,⟨k1,k2,k3⟩,hs⟩,_⟩,e=>by cases e;exact ⟨a,vs,h1,k2,k1,hs⟩
 | .o .own (.txt ss) xs,v,z,⟨a,h1,⟨vs,⟨k1,k2,k3⟩,hs⟩,_⟩,e=>by cases e;exact ⟨a,vs,h1,k2,k1,hs⟩
 | .o .bor (.txt ss) xs,v,z,⟨a,h1,⟨vs,⟨k1,k2,k3⟩,hs⟩⟩,e=>by cases e;exact ⟨a,vs,h1,hp.ent _ _ k2,k1,hs⟩
 | .o m (.ins _ _) _,_,_,_,e=>nomatch e
 | .o m (.mem _ _) _,_,_,_,e=>nomatch e
 | .d (.ob (.ins _ _) _),_,_,_,e=>nomatch e
 | .d (.ob (.mem _ _) _),_,_,_,e=>nomatch e
 | .d .non,_,_,_,e=>nomatch e
 | .d (.bl _),_,_,_,e=>nomatch e
 | .d (.int _),_,_,_,e=>nomatch e
 | .d (.str _),_,_,_,e=>nomatch e
 | .d (.tup _),_,_,_,e=>nomatch e
 | .d (.lst _),_,_,_,e=>nomatch e
 | .d (.dct _ _),_,_,_,e=>nomatch e
 | .d (.exn _ _ _),_,_,_,e=>nomatch e
 | .l _ _,_,_,_,e=>nomatch e
 | .ln _,_,_,_,e=>nomatch e
 | .mo _ _,_,_,_,e=>nomatch e
 | .mb _ _,_,_,_,e=>nomatch e
 | .mf _ _,_,_,_,e=>nomatch e
theorem s_ {K:QG}{J:Hp}{x:Str}:∀{ss:List Str}{xs:List D}{vs:List V},ss.length=vs.length->aX K J xs vs->(∀d,cF ss xs x=some d->∃v,cY (mQ ss vs) (.inr x)=some v/\Rep K J d v)/\(cF ss xs x=none->cY (mQ ss vs) (.inr x)=none)
 | [],xs,vs,h,r=>⟨λd h=>(by cases xs <;> cases h),λ_=>rfl⟩
 | s::ss,_,_,h,.nil=>nomatch h
 | s::ss,d::xs,v::vs,h,.cons r rs=>by
  obtain ⟨i1,i2⟩:=s_ (x:=x) (ss:=ss) (by simpa using h) rs;unfold cF;show (∀d',_->∃v',cY ((Uq s,v)::mQ ss vs) (.inr x)=some v'/\_)/\(_->cY ((Uq s,v)::mQ ss vs) (.inr x)=none);by_cases q:s=x
  ·rw [if_pos q,ez (show (Uq s:Key)=.inr x by rw [q])];exact ⟨λd' z=>by cases z;exact ⟨v,rfl,r⟩,λz=>nomatch z⟩
  ·rw [if_neg q,er (λz=>q (Zl z))];exact ⟨i1,i2⟩
noncomputable def gu (x y:R):M R:=match kU x,y with
 | some z,.d (.str k)=>(match cF z.1 z.2 k with
  | some d=>.ok (.d d)
  | none=>.bad)
 | _,_=>.bad
theorem e_ (hu:X.A.units + 64 < Up) (ha:QD X c a ga) (hb:QD X c b gb) (hs:vE b:=by exact λ_ _=>rfl):QD X c (.Subscript a b pos) (g2 gu ga gb):=⟨eE (Hw (by omega) ha.h hb.h hs) λσ H Q ⟨J,env,sr,w⟩=>
 two (k:=λx y H2=>∃a v,x=.ref a/\ic H2 a y (some v)/\Q v H2) sr w λx y u v J2 H2 sr2 e2 rx ry w=>by
  unfold gu at w;split at w
  ·rename_i z k hz;cases ry;obtain ⟨p,vs,rfl,h1,h2,h3⟩:=rx.txt sr2.hp hz;split at w
   ·rename_i d hl;obtain ⟨v,hv,rd⟩:=(s_ h2 h3).1 d hl;refine ⟨p,v,rfl,?_,w v J2 H2 (Ext.refl sr2.hp.sub) rd⟩;rw [<-hv];exact ic.k (k:=.inr k) h1
   ·exact w.elim
  ·exact w.elim⟩
noncomputable def K5 (neg:Bool):R2:=λx y H Q=>∃p o,y=.ref p/\ic H p x o/\Q (.bl (if neg then !o.isSome else o.isSome)) H
theorem CG (hu:X.A.units + 64 < Up):dH X (SI .NotIn) (K5 true):=λQw s σ H x y v u Q I rx ry ⟨p,o,e,g,q⟩=>by subst e;cases ry;exact yY (by omega) I g rx λs' I'=>⟨.bl _,H,I',rfl,q⟩
noncomputable def sQ (neg:Bool) (x y:R):M R:=match kU y,x with
 | some z,.d (.str k)=>.ok (.d (.bl (if neg then !(cF z.1 z.2 k).isSome else (cF z.1 z.2 k).isSome)))
 | _,_=>.bad
theorem Ja (neg:Bool):BD c (K5 neg) (sQ neg):=by
 intro He He' J H x y u v Q hp rx ry w;unfold sQ at w;split at w
 ·rename_i z k hz;cases rx;obtain ⟨p,vs,rfl,h1,h2,h3⟩:=ry.txt hp hz;refine ⟨p,_,rfl,ic.k (k:=.inr k) h1,?_⟩;have e:(cY (mQ z.1 vs) (.inr k)).isSome=(cF z.1 z.2 k).isSome:=by
   obtain ⟨l1,l2⟩:=s_ (x:=k) h2 h3;cases q:cF z.1 z.2 k with
   | some d=>obtain ⟨_,e,_⟩:=l1 d q;rw [e];rfl
   | none=>rw [l2 q];rfl
  rw [e];exact w _ J H (Ext.refl hp.sub) (.bl _)
 ·exact w.elim
theorem A1 (hu:X.A.units + 64 < Up) (ha:QD X c a ga) (hb:QD X c b gb) (hm:autoParam (R5 .NotIn b=false) zA._auto_1):QB X c (.Compare a [.NotIn] [b] pos) (aJ (g2 (sQ true) ga gb)):=⟨jj (CG hu) (Ja true) ha.h hb.h hm⟩
noncomputable def Az (i:Nat):G O:=λenv=>.ok (.nx (env.set i (some (.oo (.txt []) []))))
theorem CJ:PE X (.Dict [] [] pos) (λσ H Q=>∀p,H p=none->(p == RY)=false->Q (.ref p) (upd H p (.dK []))):=λQw s σ H Q I h=>
 WT ⟨.ref s.heap.objs.size,_,I.laid (a:=s.heap.objs.size) (o:=.dK []) (t':=s.toks) (λ_ _ q=>QM _ q) (QV _) (D9 s.heap I.big),rfl,h _ (I.hok.fresh (QV _)) (beq_eq_false_iff_ne.mpr (Sb (Q7 I.big)))⟩
theorem ux (i:Nat){x:Str}{pos' p0:Pos}(hN:X.N.Nodup) (hi:autoParam (X.N[i]?=some x) zA._auto_1) (hx:Loc X.env.scope x:=by first | exact Ug rfl | exact Te rfl) (hs:autoParam (Ur (.Dict [] [] p0) (some (.Name x pos')) pos.line X.env=pure false) zA._auto_1)
  (hf:X.fn x=true\/X.env.scope.names.lookup x=some .local:=by first | exact .inl rfl | exact .inr rfl):iE X c (.Assign [.Name x pos'] (.Dict [] [] p0) pos) (Az i):=⟨fZ (rH hN hi hx CJ hs hf) λE σ H ⟨J,env,sr,w⟩ p hp hq=>
 w _ J _ (aW.refl J) (sr.setM (y:=.oo (.txt []) []) (Ext.new sr.hp.sub hp _) hp ⟨p,rfl,⟨[],⟨rfl,bI,hq⟩,.nil⟩,sr.hp.sub.free hp,sr.hp.ent.free hp⟩)⟩
theorem yP {s:Str}:∀{ss:List Str}{vs:List V},ss.length=vs.length->((mQ ss vs).any λkv=>decide (kv.1=.inr s))=ss.contains s
 | [],_,_=>rfl
 | t::ss,[],h=>nomatch h
 | t::ss,v::vs,h=>by show (decide ((Uq t:Key)=.inr s) || (mQ ss vs).any λkv=>decide (kv.1=.inr s))=(s == t || ss.contains s);rw [yP (by simpa using h),Cg];congr 1;rw [Tc,decide_eq_true_iff,beq_iff_eq];exact eq_comm
theorem zo {s:Str}{v:V}:∀{ss:List Str}{vs:List V},ss.length=vs.length->(mQ ss vs).map (λkv=>if kv.1=.inr s then (kv.1,v) else kv)=mQ ss ((ss.zip vs).map λp=>if p.1=s then v else p.2)
 | [],_,_=>rfl
 | t::ss,[],h=>nomatch h
 | t::ss,u::vs,h=>by
  refine List.cons_eq_cons.mpr ⟨?_,zo (by simpa using h)⟩;show (if (Uq t:Key)=.inr s then ((Uq t:Key),v) else ((Uq t:Key),u))=(Uq t,if t=s then v else u);by_cases q:t=s
  ·rw [if_pos (by rw [q]),if_pos q]
  ·rw [if_neg (λz=>q (Zl z)),if_neg q]
theorem HH {s:Str}{v:V}{ss:List Str}{vs:List V}(h:ss.length=vs.length):putK (mQ ss vs) (.inr s) v=mQ (bw ss vs s v).1 (bw ss vs s v).2:=by
 unfold putK bw;rw [yP h];split
 ·exact zo h
 ·show _=(Yy Uq (ss++[s])).zip (vs++[v]);rw [RS,List.zip_append (by simpa using h)];rfl
theorem lz {α:Type}{s:Str}{v:α}{ss:List Str}{vs:List α}(h:ss.length=vs.length):(bw ss vs s v).1.length=(bw ss vs s v).2.length:=by
 unfold bw;split
 ·show ss.length=((ss.zip vs).map _).length;rw [QN,XG,<-h,Xh]
 ·show (ss++[s]).length=(vs++[v]).length;rw [QU,QU,h];rfl
theorem zF {K:QG}{J:Hp}{s:Str}{d:D}{v:V}(r:Rep K J d v):∀{ss:List Str}{xs:List D}{vs:List V},aX K J xs vs->aX K J ((ss.zip xs).map λp=>if p.1=s then d else p.2) ((ss.zip vs).map λp=>if p.1=s then v else p.2)
 | [],_,_,_=>.nil
 | _::_,_,_,.nil=>.nil
 | t::ss,_,_,.cons r' rs=>by
  refine .cons ?_ (zF r rs);show Rep K J (if t=s then d else _) (if t=s then v else _);by_cases q:t=s
  ·rw [if_pos q,if_pos q];exact r
  ·rw [if_neg q,if_neg q];exact r'
theorem EN {K:QG}{J:Hp}{s:Str}{d:D}{v:V}{ss:List Str}{xs:List D}{vs:List V}(r:Rep K J d v) (h:aX K J xs vs):aX K J (bw ss xs s d).2 (bw ss vs s v).2:=by
 unfold bw;split
 ·exact zF r h
 ·exact h.append (.cons r .nil)
theorem zD {α β:Type}{s:Str}{v:α}{u:β}{ss:List Str}{vs:List α}{us:List β}:(bw ss vs s v).1=(bw ss us s u).1:=by unfold bw;split <;> rfl
noncomputable def Mc:vJ:=λo i v H Q=>∃p QC k,o=.ref p/\i=kV k/\H p=some (.dK QC)/\QC.length < sizeLine/\Q (upd H p (.dK (putK QC k v)))
theorem Ii (hu:X.A.units + 64 < Up):DM X Mc:=by intro Qw s σ H o i v ov iv u Q I ro ri rv ⟨p,QC,k,e1,e2,hp,hl,q⟩;subst e1 e2;cases ro;exact ud (by omega) I (pL.k hp hl) ri rv λs' I'=>⟨_,I',q⟩
noncomputable def jo (i:Nat) (gk g:G R):G O:=λenv=>match env[i]? with
 | some (some (.oo (.txt ss) xs))=>g env >>= λr=>toD r >>= λd=>gk env >>= λr2=>match r2 with
  | .d (.str k)=>if ss.length<=1000 then .ok (.nx (env.set i (some (.oo (.txt (bw ss xs k d).1) (bw ss xs k d).2)))) else .bad
  | _=>.bad
 | _=>.bad
theorem jU (i:Nat){x:Str}{p1 p2:Pos}(hu:X.A.units + 64 < Up) (h:QD X c e g) (hk:QD X c ke gk) (hN:autoParam (X.N[i]?=some x) zA._auto_1) (hv:mF X.env.scope x:=by first | exact Ug rfl | exact Te (Ug rfl) | exact Te (Te rfl)) (hd:autoParam ((x == ("__debug__":Str))=false) zB._auto_1)
  (hcd:autoParam ((x == ("__classdict__":Str))=false) zB._auto_1)
  (ha:∀v,assign (.Subscript (.Name x p1) ke p2) X.env v=(do
   let ov <-holding [v] (eval (.Name x p1) X.env)
   let iv <-holding [v,ov] (eval ke X.env)
   UG p2
   (holding [v,ov,iv] (aaa ov iv v))
   release [v,ov,iv] []):=by intro _;rfl)
  (hs:autoParam (VH [.Subscript (.Name x p1) ke p2] e pos.line X.env=pure false) zA._auto_1) (hw:autoParam (WA [.Subscript (.Name x p1) ke p2] e X.env=pure none) zA._auto_1)
  (h1:autoParam ((TM [.Subscript (.Name x p1) ke p2] X.env).map (·.2)=[assign (.Subscript (.Name x p1) ke p2) X.env]) zA._auto_1):
  iE X c (.Assign [.Subscript (.Name x p1) ke p2] e pos) (jo i gk g):=
 ⟨fZ (xE h.h (CK (fU hN hv hd hcd) hk.h (Ii hu) ha) hs hw h1) λE σ H ⟨J,env,sr,w⟩=>by
  unfold jo at w;split at w
  ·rename_i ss xs hi;obtain ⟨v,q1,p,rfl,⟨vs,⟨k1,k2,k3⟩,hs⟩,h3,h4⟩:=sr.at_ i _ hi;refine ⟨J,env,sr,aC (aI w) λr wr y J1 H1 e1 r1=>?_⟩;obtain ⟨d,q,wr⟩:=jF wr;obtain ⟨J2,e2,s2,rd⟩:=freeze e1 r1 q;refine ⟨.ref p,q1,?_⟩;refine ⟨J2,env,sr.ext e2,aC (aI wr) λrk wk vk J3 H3 e3 r3=>?_⟩;split at wk
   ·rename_i k;split at wk
    ·rename_i hl;cases r3;have e5:=e2.trans e3;have h3':=e5.frz p (by rw [k2];exact λz=>nomatch z) h3;refine ⟨p,_,.inr k,rfl,rfl,e5.h _ _ k2,?_,?_⟩
     ·rw [XG,QN,<-k1,Xh];exact SK hl (by decide)
     ·rw [HH k1];refine wk σ J3 _ e5.j ((sr.ext e5).updM (x:=.oo (.txt ss) xs) (y:=.oo (.txt (bw ss xs k d).1) (bw ss xs k d).2) hi q1 h3' h4 ⟨p,rfl,⟨(bw ss vs k y).2,⟨?_,?_,k3⟩,EN (rd.mono e3.j) (hs.mono e5.j)⟩,h3',h4⟩)
      ·rw [zD (us:=vs) (u:=y)];exact lz k1
      ·refine bI.trans ?_;rw [zD (vs:=xs) (v:=d) (us:=vs) (u:=y)]
    ·exact wk.elim
   ·exact wk.elim
  ·exact w.elim⟩
theorem BF:fB X (.type "dict") (λxs H Q=>∃a QC,xs=[.ref a]/\H a=some (.dK QC)/\∀p,H p=none->(p == RY)=false->Q (.ref p) (upd H p (.dK QC))):=by intro Qw s σ H xs us Q I r ⟨a,QC,e,h,q⟩;subst e;obtain ⟨u,rfl,ru⟩:=vals1 r;cases ru;exact D7 I (.inl h) λp s' hp I'=>⟨.ref p,_,I',rfl,q p hp (by have z:upd H p (HO.dK QC) p=some (.dK QC):=bI;obtain ⟨_,h,_⟩:=u_ I'.hok z;exact h)⟩
theorem Ak:Sm "dict"=some (.type "dict"):=by decide +kernel
noncomputable def kY:List R->M R
 | [r]=>match kU r with
  | some z=>.ok (.o .fresh (.txt z.1) z.2)
  | none=>.bad
 | _=>.bad
theorem nM {p:Pos}{es:List Rz}{gs:G (List R)}(ha:j5 X c (e::es) gs) (hm:X.mg "dict"=none) (hg:autoParam (Gl X "dict") zA._auto_1)
  (he:autoParam (QY (e::es) X.env=(false,eval e X.env)::QY es X.env) zA._auto_1) (hpl:autoParam ((Tn pos (QY es X.env)).any (·.1)=false) zA._auto_1):QD X c (.Call (.Name "dict" p) (e::es) [] pos) (gN kY gs):=
 ⟨nE BF (by
  intro He J H xs vs Q hp rs w;unfold kY at w;split at w
  ·obtain ⟨v,rfl,r⟩:=rs.one;split at w
   ·rename_i z hz;obtain ⟨a,vs,rfl,h1,h2,h3⟩:=r.txt hp hz;exact ⟨a,_,rfl,h1,λp hn hq=>w _ J _ (Ext.new hp.sub hn _) ⟨p,rfl,⟨vs,⟨h2,bI,hq⟩,h3⟩,hp.sub.free hn,hn⟩⟩
   ·exact w.elim
  ·exact w.elim) Ak hm ha.h hg (by decide) (by decide) he hpl⟩
end
noncomputable def DR:R->Option (Str×List Str×List D)
 | .d (.ob (.ins cls ns) xs)=>some (cls,ns,xs)
 | .o _ (.ins cls ns) xs=>some (cls,ns,xs)
 | _=>none
section
variable {X:Cx}{c:C}{e ke a b:Rz}{g gk ga gb:G R}{pos:Pos}
theorem RR.ins {He J H:Hp}(hp:HI c J H):∀{r:R}{v:V}{z:Str×List Str×List D},RR c He J H r v->DR r=some z->∃a C dx vs,v=.ref a/\Rn c.K Q_ z.1=some (some (.ref C))/\m7 c.K C/\z.2.1.length=vs.length/\H a=some (.ins C dx (z.2.1.zip vs))/\aX c.K J z.2.2 vs
 | .d (.ob (.ins _ _) xs),v,z,h,e=>by
  cases e;cases h with
  | ob h hs=>obtain ⟨C,dx,h1,h2,h3,h4⟩:=h;exact ⟨_,C,dx,_,rfl,h1,h2,h3,hp.sub _ _ h4,hs⟩
 | .o .fresh (.ins _ _) xs,v,z,⟨a,h1,⟨vs,⟨C,dx,k1,k2,k3,k4⟩,hs⟩,_⟩,e=>by cases e;exact ⟨a,C,dx,vs,h1,k1,k2,k3,k4,hs⟩
 | .o .own (.ins _ _) xs,v,z,⟨a,h1,⟨vs,⟨C,dx,k1,k2,k3,k4⟩,hs⟩,_⟩,e=>by cases e;exact ⟨a,C,dx,vs,h1,k1,k2,k3,k4,hs⟩
 | .o .bor (.ins _ _) xs,v,z,⟨a,h1,⟨vs,⟨C,dx,k1,k2,k3,k4⟩,hs⟩⟩,e=>by cases e;exact ⟨a,C,dx,vs,h1,k1,k2,k3,hp.ent _ _ k4,hs⟩
 | .o m (.txt _) _,_,_,_,e=>nomatch e
 | .o m (.mem _ _) _,_,_,_,e=>nomatch e
 | .d (.ob (.txt _) _),_,_,_,e=>nomatch e
 | .d (.ob (.mem _ _) _),_,_,_,e=>nomatch e
 | .d .non,_,_,_,e=>nomatch e
 | .d .emp,_,_,_,e=>nomatch e
 | .d (.bl _),_,_,_,e=>nomatch e
 | .d (.int _),_,_,_,e=>nomatch e
 | .d (.str _),_,_,_,e=>nomatch e
 | .d (.tup _),_,_,_,e=>nomatch e
 | .d (.lst _),_,_,_,e=>nomatch e
 | .d (.dct _ _),_,_,_,e=>nomatch e
 | .d (.exn _ _ _),_,_,_,e=>nomatch e
 | .l _ _,_,_,_,e=>nomatch e
 | .ln _,_,_,_,e=>nomatch e
 | .mo _ _,_,_,_,e=>nomatch e
 | .mb _ _,_,_,_,e=>nomatch e
 | .mf _ _,_,_,_,e=>nomatch e
noncomputable def mC (K:QG) (cls f:Str):Prop:=∃C,Rn K Q_ cls=some (some (.ref C))/\gU K C f
noncomputable def iV (cls f:Str) (r:R):M R:=match DR r with
 | some z=>if z.1=cls then (match (z.2.1.zip z.2.2).lookup f with
  | some d=>.ok (.d d)
  | none=>.bad) else .bad
 | none=>.bad
noncomputable def ff (cls f:Str) (g:G R):G R:=λenv=>g env >>= iV cls f
theorem zb {He J H:Hp}(hp:HI c J H){cls f:Str}{r:R}{v:V}{d:D}(A:mC c.K cls f) (h:RR c He J H r v) (e:iV cls f r=.ok (.d d)):∃a C dx fs u,v=.ref a/\H a=some (.ins C dx fs)/\oR c.K C/\gU c.K C f/\fs.lookup f=some u/\Rep c.K J d u:=by
 unfold iV at e;split at e
 ·rename_i z hz;split at e
  ·rename_i hc;split at e
   ·rename_i d' hl;cases e;obtain ⟨a,C,dx,vs,h1,h2,h3,h4,h5,h6⟩:=h.ins hp hz;obtain ⟨u,k1,k2⟩:=yf h6 hl;obtain ⟨C',n1,n2⟩:=A;rw [hc,n1] at h2;cases h2;exact ⟨a,C,dx,_,u,h1,h5,h3.cl,n2,k1,k2⟩
   ·cases e
  ·cases e
 ·cases e
theorem Js {cls f:Str}{r:R}{z:R}(e:iV cls f r=.ok z):∃d,z=.d d:=by
 unfold iV at e;split at e
 ·split at e
  ·split at e
   ·cases e;exact ⟨_,rfl⟩
   ·cases e
  ·cases e
 ·cases e
theorem BW {cls f:Str}{r:R}{x:Exc}:iV cls f r≠.exc x:=by
 intro e;unfold iV at e;split at e
 ·split at e
  ·split at e <;> cases e
  ·cases e
 ·cases e
theorem eZ {cls f:Str}(A:mC X.K cls f) (h:QD X c e g) (hK:autoParam (X.K=c.K) zA._auto_1) (hb:autoParam (SX e f X.env (eval e X.env)=eval e X.env) zA._auto_1):QD X c (.Attribute e f pos) (ff cls f g):=
 ⟨eE (rE h.h hb) λσ H Q ⟨J,env,sr,w⟩=>⟨J,env,sr,aC (aI w) λr wr v J1 H1 e1 r1=>by
  cases q:iV cls f r with
  | bad=>rw [q] at wr;exact wr.elim
  | exc x=>exact (BW q).elim
  | ok z=>
   obtain ⟨d,rfl⟩:=Js q;rw [q] at wr;obtain ⟨a,C,dx,fs,u,h1,h2,h3,h4,h5,h6⟩:=zb (sr.hp.ext e1) (hK▸A) r1 q;exact ⟨a,C,dx,fs,u,h1,h2,hK▸h3,hK▸h4,h5,wr u J1 H1 e1 h6⟩⟩⟩
noncomputable def MN (c:C) (g:G O):TS:=λE σ H=>∃J env,SR c J H σ env/\cM (g env) (λo=>match o with
 | .nx e=>∀J' H',aW J J'->SR c J' H' σ e->E.nx σ H'
 | _=>False) c.T
structure QI (X:Cx) (c:C) (x0:List TR) (x1:G O):Prop where
 h:iO X x0 (MN c x1)
structure Fj (X:Cx) (c:C) (x0:TR) (x1:G O):Prop where
 h:PS X x0 (MN c x1)
theorem lA {st:TR}{rest:List TR}{t u:G O}(h:Fj X c st t) (h':QI X c rest u):QI X c (st::rest) (au t u):=⟨nK (lY h.h h'.h) λE σ H ⟨J,env,sr,w⟩=>by
 refine ⟨J,env,sr,aC (aI w) λo wo=>?_⟩;cases o with
 | nx e=>
  refine λJ' H' s' sr'=>⟨J',e,sr',aC wo λo q=>?_⟩;cases o with
  | nx e=>exact λJ2 H2 s2 sr2=>q J2 H2 (s'.trans s2) sr2
  | _=>exact q
 | rt r=>exact wo
 | bk e=>exact wo
 | ct e=>exact wo⟩
theorem KY {st:TR}{t:G O}(h:Fj X c st t):QI X c [st] t:=⟨oE h.h⟩
theorem xF {f:Str}{y:V}:∀{ns:List Str}{vs:List V},ns.length=vs.length->ns.contains f=false->f6 f y (ns.zip vs)=(ns++[f]).zip (vs++[y])
 | [],[],_,_=>rfl
 | [],_::_,h,_=>nomatch h
 | _::_,[],h,_=>nomatch h
 | n::ns,v::vs,h,q=>by have q1:((f == n) || ns.contains f)=false:=q;rw [VG] at q1;show (if n=f then (n,y)::ns.zip vs else (n,v)::f6 f y (ns.zip vs))=(n,v)::(ns++[f]).zip (vs++[y]);rw [if_neg (λz=>by rw [z] at q1;simp at q1),xF (by simpa using h) q1.2]
noncomputable def uD (cls f:Str) (d:D):S->Option S
 | .oo (.ins cl ns) xs=>if cl=cls/\ns.contains f=false/\ns.length < 100 then some (.oo (.ins cl (ns++[f])) (xs++[d])) else none
 | _=>none
theorem Dp {J H:Hp}{σ:L2.St}{env:Ev}(sr:SR c J H σ env){i:Nat}{cls f:Str}{d:D}{s s':S}(A:mC c.K cls f) (hi:env[i]?=some (some s)) (e:uD cls f d s=some s'):
  ∃a C dx fs,σ[i]?=some (some (.ref a))/\H a=some (.ins C dx fs)/\oR c.K C/\gU c.K C f/\fs.length < 1000/\∀{J1 H1:Hp}{y:V},Ext J H J1 H1->Rep c.K J1 d y->SR c J1 (upd H1 a (.ins C dx (f6 f y fs))) σ (env.set i (some s')):=by
 cases s with
 | oo k xs=>
  cases k with
  | ins cl ns=>
   simp only [uD] at e;split at e
   ·rename_i hc;obtain ⟨rfl,hf,hl⟩:=hc;cases e;obtain ⟨v,q1,a,rfl,⟨vs,⟨C,dx,k1,k2,k3,k4⟩,hs⟩,h3,h4⟩:=sr.at_ i _ hi;obtain ⟨C',n1,n2⟩:=A;rw [n1] at k1;cases k1;refine ⟨a,C,dx,_,q1,k4,k2.cl,n2,by rw [XG,<-k3,Xh];omega,fun {J1 H1 y} e1 rd=>?_⟩;have h3':=e1.frz a (by rw [k4];exact λz=>nomatch z) h3;refine (sr.ext e1).updM (x:=.oo (.ins cl ns) xs) (y:=.oo (.ins cl (ns++[f])) (xs++[d])) hi q1 h3' h4 ⟨a,rfl,⟨vs++[y],⟨C,dx,n1,k2,by rw [QU,QU,k3];rfl,?_⟩,(hs.mono e1.j).append (.cons rd .nil)⟩,h3',h4⟩;rw [<-xF k3 hf];exact bI
   ·cases e
  | _=>cases e
 | _=>cases e
noncomputable def kH (i:Nat) (cls f:Str) (g:G R):G O:=λenv=>match env[i]? with
 | some (some s)=>g env >>= λr=>toD r >>= λd=>(match uD cls f d s with
  | some s'=>.ok (.nx (env.set i (some s')))
  | none=>.bad)
 | _=>.bad
theorem nL (i:Nat){x cls f:Str}{p1 p2:Pos}(A:mC X.K cls f) (h:QD X c e g) (hK:autoParam (X.K=c.K) zA._auto_1) (hN:autoParam (X.N[i]?=some x) zA._auto_1) (hv:mF X.env.scope x:=by first | exact Ug rfl | exact Te (Ug rfl) | exact Te (Te rfl)) (hd:autoParam ((x == ("__debug__":Str))=false) zB._auto_1)
  (hcd:autoParam ((x == ("__classdict__":Str))=false) zB._auto_1) (hs:autoParam (Ur e (some (.Attribute (.Name x p1) f p2)) pos.line X.env=pure false) zA._auto_1):Fj X c (.Assign [.Attribute (.Name x p1) f p2] e pos) (kH i cls f g):=
 ⟨fZ (CQ (fU hN hv hd hcd) h.h hs) λE σ H ⟨J,env,sr,w⟩=>by
  unfold kH at w;split at w
  ·rename_i s hi;refine ⟨J,env,sr,aC (aI w) λr wr y J1 H1 e1 r1=>?_⟩;obtain ⟨d,q,wr⟩:=jF wr;obtain ⟨J2,e2,s2,rd⟩:=freeze e1 r1 q;split at wr
   ·rename_i s' hs';obtain ⟨a,C,dx,fs,q1,q2,q3,q4,q5,q6⟩:=Dp sr (hK▸A) hi hs';exact ⟨.ref a,q1,a,C,dx,fs,rfl,e2.h _ _ q2,hK▸q3,hK▸q4,q5,wr J2 _ e2.j (q6 e2 rd)⟩
   ·exact wr.elim
  ·exact w.elim⟩
theorem Cw {P:Q2}{w:Ro}{H:Hp}{dom:List (List Int)}{f:List Int->Bool}(h:Sa) (hb:RY < h.objs.size) (hd:dom.length < sizeLine):cu P w H (h.push {cls:=.type "dict",data:=.dict #[]}) h.objs.size (.memo dom f):=
 ⟨beq_eq_false_iff_ne.mpr (Sb (Q7 hb)),hd,[],λ_ z=>(nomatch z),[],.nil,_,#[],0,QW _ rfl,⟨rfl,rfl,rfl⟩,rfl,rfl,UH⟩
theorem Hy:PE X (.Dict [] [] pos) (λσ H Q=>∃dom f,dom.length < sizeLine/\∀p,H p=none->Q (.ref p) (upd H p (.memo dom f))):=λQw s σ H Q I ⟨dom,f,hd,h⟩=>
 WT ⟨.ref s.heap.objs.size,_,I.laid (a:=s.heap.objs.size) (o:=.memo dom f) (t':=s.toks) (λ_ _ q=>QM _ q) (QV _) (Cw s.heap I.big hd),rfl,h _ (I.hok.fresh (QV _))⟩
noncomputable abbrev Mm:=List (List Int)×(List Int->Bool)
noncomputable def Eg (i:Nat) (cls f:Str) (m:Ev->Mm):G O:=λenv=>match env[i]? with
 | some (some s)=>if (m env).1.length<=1000000 then (match uD cls f (.ob (.mem (m env).1 (m env).2) []) s with
  | some s'=>.ok (.nx (env.set i (some s')))
  | none=>.bad) else .bad
 | _=>.bad
theorem KW (i:Nat) (m:Ev->Mm){x cls f:Str}{p0 p1 p2:Pos}(A:mC X.K cls f) (hK:autoParam (X.K=c.K) zA._auto_1) (hN:autoParam (X.N[i]?=some x) zA._auto_1) (hv:mF X.env.scope x:=by first | exact Ug rfl | exact Te (Ug rfl) | exact Te (Te rfl)) (hd:autoParam ((x == ("__debug__":Str))=false) zB._auto_1)
  (hcd:autoParam ((x == ("__classdict__":Str))=false) zB._auto_1) (hs:autoParam (Ur (.Dict [] [] p0) (some (.Attribute (.Name x p1) f p2)) pos.line X.env=pure false) zA._auto_1):Fj X c (.Assign [.Attribute (.Name x p1) f p2] (.Dict [] [] p0) pos) (Eg i cls f m):=
 ⟨fZ (CQ (fU hN hv hd hcd) Hy hs) λE σ H ⟨J,env,sr,w⟩=>by
  unfold Eg at w;split at w
  ·rename_i s hi;split at w
   ·rename_i hl;split at w
    ·rename_i s' hs';obtain ⟨a,C,dx,fs,q1,q2,q3,q4,q5,q6⟩:=Dp sr (hK▸A) hi hs';refine ⟨(m env).1,(m env).2,SK hl (by decide),λp hp=>?_⟩;have e2:=Ext.newJ sr.hp.sub hp (.memo (m env).1 (m env).2);exact ⟨.ref a,q1,a,C,dx,fs,rfl,e2.h _ _ q2,hK▸q3,hK▸q4,q5,w _ _ e2.j (q6 e2 (.ob ⟨rfl,bI⟩ .nil))⟩
    ·exact w.elim
   ·exact w.elim
  ·exact w.elim⟩
end
noncomputable def sV (cls:Str) (N:List Str) (gB:G O) (as:List S):M R:=match gB (aD N (.oo (.ins cls []) []::as)) with
 | .ok (.nx env)=>(match (env[0]?:Option (Option S)) with
  | some (some (.oo k xs))=>.ok (.o .fresh k xs)
  | _=>.bad)
 | _=>.bad
noncomputable def MK (K:QG) (C:Q4) (n:Nat) (F:List S->M R):Sp:=λvs H Q _=>∃J as H1 x dx us,vs=.ref x::us/\H1 x=none/\H1 dx=none/\dx≠x/\H=upd (upd H1 dx (.own x)) x (.ins C dx [])/\aW J H1/\as.length=n/\ia K J H1 as us/\
 cM (F as) (λr=>match r with
  | .o .fresh k xs=>∀J' H',Ext J H1 J' H'->ie K J' H' x k xs->J' x=none->Q .non H'
  | _=>False) (λ_=>False)
section
variable {P:Q2}{w:Ro}{K:QG}{mg:Str->Option QH}{base:Sa}{cls QA:Str}{st:TR}{f C:Q4}{fd:Rp}{N ps:List Str}{k n:Nat}
theorem Dn {J H1:Hp}{T:Exc->Prop}{as:List S}{x dx:Q4}{us:List V}(nx:H1 x=none) (nd:H1 dx=none) (ne:dx≠x) (hC:Rn K Q_ cls=some (some (.ref C))) (ik:m7 K C) (hs:aW J H1) (h:ia K J H1 as us):
  SR ⟨K,H1,J,T⟩ J (upd (upd H1 dx (.own x)) x (.ins C dx [])) (L2.start N (.ref x::us)) (aD N (.oo (.ins cls []) []::as)):=by
 have s1:aW H1 (upd (upd H1 dx (.own x)) x (.ins C dx [])):=(cC nd _).trans (cC (by rw [bh (Sb ne)];exact nx) _);have I_:∀(i:Nat) (y:S),(aD N (.oo (.ins cls []) []::as))[i]?=some (some y)->(i=0/\y=.oo (.ins cls []) [])\/∃j v,i=j + 1/\as[j]?=some y/\us[j]?=some v:=λi y q=>by
  have q:=nV q;cases i with
  | zero=>cases q;exact .inl ⟨rfl,rfl⟩
  | succ j=>have q:as[j]?=some y:=q;obtain ⟨v,k1,_⟩:=h.get q;exact .inr ⟨j,v,rfl,q,k1⟩
 have own:∀(i:Nat) (xs:Mn),(aD N (.oo (.ins cls []) []::as))[i]?=some (some (mS xs))->i=0:=λi xs q=>by
  rcases I_ i _ q with ⟨rfl,_⟩ | ⟨j,v,rfl,q1,_⟩
  ·rfl
  ·obtain ⟨v,_,k⟩:=h.get q1;cases xs <;> exact k.elim
 refine ⟨⟨hs.trans s1,s1,aW.refl J,λ_ _ q=>q⟩,?_,λi y q=>?_,λi j xs ys v hij q1 q2=>absurd ((own i xs q1).trans (own j ys q2).symm) hij,λi j xs ys hij q1 q2=>absurd ((own i (.nst xs) q1).trans (own j (.nst ys) q2).symm) hij⟩
 ·unfold aD L2.start;rw [QU,QU,QN,QN,RC,RC,Rm,Rm,h.length]
 ·rcases I_ i y q with ⟨rfl,rfl⟩ | ⟨j,v,rfl,q1,q2⟩
  ·exact ⟨.ref x,mj rfl,x,rfl,⟨[],⟨C,dx,hC,ik,rfl,bI⟩,.nil⟩,hs.free nx,nx⟩
  ·obtain ⟨v,k1,k2⟩:=h.get q1;refine ⟨v,mj (i:=j + 1) k1,?_⟩;cases y with
   | d y=>exact k2
   | own y=>exact k2.elim
   | bor y=>exact k2
   | dk _ _=>exact k2.elim
   | db _ _=>exact k2
   | fn _=>exact k2
   | ow2 _=>exact k2.elim
   | tn _=>exact k2.elim
   | oo _ _=>exact k2.elim
   | ob _ _=>exact k2
theorem Jw {gB:G O}(F:fF K "__init__" QA st f fd) (Sc:cJ N ps (aN st)) (hC:Rn K Q_ cls=some (some (.ref C))) (ik:m7 K C) (hn:ps.length=n + 1)
  (hb:∀(cdv:QH) (A:RA) (outer:List Env) (s:QL) (H:Hp) (E:XK) (H0 J:Hp) (T:Exc->Prop),cR k (A.deeper (Va QA (aN st) s.heap.objs.size f cdv))->
   QI (qE P w K mg base N QA (aN st) f cdv A outer s H E) ⟨K,H0,J,T⟩ (bM st) gB):eG P w K mg base jH (k + 1) f fd ps (MK K C n (sV cls N gB)):=by
 refine F.ok Sc (λvs H Q E ⟨J,as,H1,x,dx,us,e,_,_,_,_,_,h2,h3,_⟩=>by rw [e,Rm,h3.length,h2,hn]) (λcdv A outer s H vs Q E hr ⟨J,as,H1,x,dx,us,e,nx,nd,ne,eH,h1,h2,h3,h4⟩=>?_);subst e eH;refine ⟨_,(hb cdv A outer s _ E H1 J (λ_=>False) hr).h,J,_,Dn (T:=λ_=>False) nx nd ne hC ik h1 h3,?_⟩;unfold sV at h4;cases qg:gB (aD N (.oo (.ins cls []) []::as)) with
 | bad=>rw [qg] at h4;exact h4.elim
 | exc x=>rw [qg] at h4;exact h4.elim
 | ok o=>
  rw [qg] at h4;cases o with
  | rt _=>exact h4.elim
  | bk _=>exact h4.elim
  | ct _=>exact h4.elim
  | nx env=>
   intro J' H' sj sr;dsimp only at h4;split at h4
   ·rename_i k' xs hz;obtain ⟨v,q1,a,rfl,oa,j1,_⟩:=sr.at_ 0 _ hz;have q2:(L2.start N (.ref x::us))[0]?=some (some (.ref x)):=mj rfl;rw [q2] at q1;cases q1;exact h4 J' H' ⟨sr.hp.ent,sr.hp.entJ,sr.hp.sub,sr.hp.frz⟩ oa j1
   ·exact h4.elim
noncomputable def vo (P:Q2) (w:Ro) (K:QG) (mg:Str->Option QH) (base:Sa) (k n:Nat) (cls:Str) (F:List S->M R):Prop:=
 ∃f fd ps C,eG P w K mg base jH k f fd ps (MK K C n F)/\Mk K C f/\mg cls=some (.ref C)/\Binds K fd ps []
theorem EO {gB:G O}(F:fF K "__init__" QA st f fd) (M:Mk K C f) (hm:mg cls=some (.ref C)) (hC:Rn K Q_ cls=some (some (.ref C))) (ik:m7 K C) (Sc:cJ N ps (aN st))
  (hbi:∀(kV doc pm:QH) (an:Option Q4) (cdv ct:QH) (us:List QH),us.length=ps.length->Vn (Rv "__init__" QA (cD st) (bM st) (aN st) .none kV doc pm an cdv ct) ⟨us,[]⟩=pure (ps.zip us)) (hn:ps.length=n + 1)
  (hb:∀(cdv:QH) (A:RA) (outer:List Env) (s:QL) (H:Hp) (E:XK) (H0 J:Hp) (T:Exc->Prop),cR k (A.deeper (Va QA (aN st) s.heap.objs.size f cdv))->
   QI (qE P w K mg base N QA (aN st) f cdv A outer s H E) ⟨K,H0,J,T⟩ (bM st) gB):vo P w K mg base (k + 1) n cls (sV cls N gB):=⟨f,fd,ps,C,Jw F Sc hC ik hn hb,M,hm,F.binds hbi⟩
theorem DU {Fm:List S->M R}(F:fF K "__init__" QA st f fd) (M:Mk K C f) (hm:mg cls=some (.ref C))
  (hbi:∀(kV doc pm:QH) (an:Option Q4) (cdv ct:QH) (us:List QH),us.length=ps.length->Vn (Rv "__init__" QA (cD st) (bM st) (aN st) .none kV doc pm an cdv ct) ⟨us,[]⟩=pure (ps.zip us)) (hF:∀as,Fm as=.bad):vo P w K mg base k n cls Fm:=
 ⟨f,fd,ps,C,⟨λvs H Q E ⟨J,as,_,_,_,_,_,_,_,_,_,_,_,_,h⟩=>(by rw [hF as] at h;exact h.elim),λA outer s H args us vs Q E _ _ _ _ ⟨J,as,_,_,_,_,_,_,_,_,_,_,_,_,h⟩=>(by rw [hF as] at h;exact h.elim)⟩,M,hm,F.binds hbi⟩
end
section
variable {X:Cx}{c:C}{e:Rz}{es:List Rz}{pos:Pos}
noncomputable def ze (n:Nat) (F:Ev->List S->M R) (gs:G (List R)):G R:=λenv=>gs env >>= λrs=>if rs.length=n then (match F env (rs.map bO) with
 | .ok (.o .fresh k xs)=>.ok (.o .fresh k xs)
 | _=>.bad) else .bad
theorem CY {α:Type}(gh:Ev->α){F:α->List S->M R}{k k' n:Nat}{x:Str}{p:Pos}{gs:G (List R)}(G:∀m,vo X.prog X.w X.K X.mg X.base k n x (F m)) (hr:cR k' X.A) (ha:j5 X c (e::es) gs) (hk:autoParam (k + 1<=k') zB._auto_1) (hT:autoParam (c.K=X.K) zA._auto_1) (hg:autoParam (Gl X x) zA._auto_1) (hdb:autoParam ((x == ("__debug__":Str))=false) zB._auto_1)
  (he:autoParam (QY (e::es) X.env=(false,eval e X.env)::QY es X.env) zA._auto_1) (hpl:autoParam ((Tn pos (QY es X.env)).any (·.1)=false) zA._auto_1):QD X c (.Call (.Name x p) (e::es) [] pos) (ze n (λenv=>F (gh env)) gs):=
 ⟨λQw s σ H Q I ⟨J,env,sr,w⟩=>by
  obtain ⟨f,fd,ps,C,h1,h2,h3,h4⟩:=G (gh env);refine Hx (E:=E0) h2 h1 (hr.mono hk) hg h3 h4 .nil FZ ha.h hdb he hpl Qw s σ H Q I ⟨J,env,sr,aC (aI w) λrs wr vs J1 H1 e1 r1=>λa dx na nd ne=>?_⟩;split at wr
  ·rename_i hl;refine ⟨J1,rs.map bO,H1,a,dx,_,rfl,na,nd,ne,rfl,e1.sub,by simpa using hl,by rw [R6,<-hT];exact r1.args (sr.hp.ext e1),?_⟩;dsimp only at wr;cases q:F (gh env) (rs.map bO) with
   | bad=>rw [q] at wr;exact wr.elim
   | exc x=>rw [q] at wr;exact wr.elim
   | ok r=>
    rw [q] at wr;cases r with
    | o m k xs=>
     cases m with
     | fresh=>exact λJ' H' e2 oa ja=>⟨rfl,wr (.ref a) J' H' (e1.trans e2) ⟨a,rfl,hT▸oa,ja,e1.h.free na⟩⟩
     | own=>exact wr.elim
     | bor=>exact wr.elim
    | _=>exact wr.elim
  ·exact wr.elim⟩
end
theorem GS {K:QG}{C:Q4}(h1:Vv K C Wn=true) (h2:Vd K C=true) (h3:Wm K C=true) (h4:Rk K (.ref C) "__setattr__"=some (some (.builtin "object.__setattr__")))
  (ha:Rk K (.ref C) "__class__"=some (some (.builtin "object.__class__"))) (hn:Uz K (.builtin "object.__class__") "__get__"=some (some (.builtin "getset_descriptor.__get__"))) (htk:U4 K (.builtin "object.__class__")=some true)
  (hc:(UA K C).map (·.mro)=some [.ref C,.type "object"]):m7 K C:=by
 obtain ⟨cd,c1,c2⟩:=Vc.mp hc;have hm:∀b,S3 K C b=some ([Tj C,.type "object"].contains b):=λb=>by unfold S3;rw [c1,Vx,c2];rfl
 refine ⟨⟨h1,h2,h3,h4⟩,ha,hn,htk,by rw [hm];simp,λT k1 k2=>?_⟩;unfold Vp ZN;rw [if_neg (by simp)];simp only [k1,if_true];show S3 K C _=_;rw [hm];have:T≠"object":=λz=>by rw [z] at k2;simp [nY] at k2
 simp [this]
noncomputable def Gr (dom:List (List Int)) (f:List Int->Bool) (QC:List (List Key×V)):Prop:=dom.length < sizeLine/\∀p∈QC,∃is,is∈dom/\p=(is.map Tq,V.bl (f is))
section
variable {X:Cx}{Qw:List (Q4×Obj)}{σ:L2.St}{H:Hp}{s:QL}{a b:Q4}{dom:List (List Int)}{f:List Int->Bool}{QC:List (List Key×V)}{is:List Int}
theorem zk {H:Hp}:∀{QC:List (List Key×V)}{xs:List (List Key×Q4×QH)},KT H QC xs->QC.map (·.1)=xs.map (·.1)
 | _,_,.nil=>rfl
 | _,_,.cons r rs=>by rw [Ri,Ri,r.1,zk rs]
theorem zh:∀{a b:List Int},a.map (Tq:Int->Key)=b.map Tq->a=b
 | [],[],_=>rfl
 | [],_::_,h=>nomatch h
 | _::_,[],h=>nomatch h
 | x::xs,y::ys,h=>by
  rw [Ri,Ri] at h;injection h with h1 h2
  rw [aaJ h1,zh h2]
theorem JD (g:Gr dom f QC) (nd:(QC.map (·.1)).Nodup):QC.length<=dom.length:=by
 have:=Sn nd (l₂:=dom.map λis=>is.map (Tq:Int->Key)) λk hk=>by obtain ⟨p,hp,rfl⟩:=Rg.mp hk;obtain ⟨is,h1,rfl⟩:=g.2 p hp;exact Rg.mpr ⟨is,h1,rfl⟩
 rw [QN,QN] at this;exact this
theorem Inv.opn (I:Inv X Qw σ H s) (h:H a=some (.memo dom f)):∃QC,Gr dom f QC/\QC.length < sizeLine/\Inv X Qw σ (upd H a (.dT QC)) s:=by obtain ⟨h1,h2,QC,g,xs,kt,o,es,ep,e1,e2,e3,e4,e5⟩:=(show cu X.prog X.w H s.heap a (.memo dom f) from I.hok a _ h);have kt:KT H QC xs:=kt;have hl:QC.length < sizeLine:=SK (JD ⟨h2,g⟩ (by rw [zk kt];exact e5)) h2;refine ⟨QC,⟨h2,g⟩,hl,?_⟩;have:=I.write (x:=a) (e:=a) (o:=.dT QC) (t':=s.toks) (h':=s.heap) (by rw [h];exact TN) (.inl rfl) (λ_ _ _ q=>q) ⟨o,e1⟩ ⟨Vs hl,h1,xs,kt.keeps λb ys q=>by rw [bh (λz=>by rw [z,h] at q;cases q)];exact q,o,es,ep,e1,e2,e3,e4,e5⟩;exact this
theorem Inv.shut (I:Inv X Qw σ H s) (h:H a=some (.dT QC)) (g:Gr dom f QC):Inv X Qw σ (upd H a (.memo dom f)) s:=by obtain ⟨h1,h2,xs,kt,o,es,ep,e1,e2,e3,e4,e5⟩:=(show cu X.prog X.w H s.heap a (.dT QC) from I.hok a _ h);have kt:KT H QC xs:=kt;have:=I.write (x:=a) (e:=a) (o:=.memo dom f) (t':=s.toks) (h':=s.heap) (by rw [h];exact TN) (.inl rfl) (λ_ _ _ q=>q) ⟨o,e1⟩ ⟨h2,g.1,QC,g.2,xs,kt.keeps λb ys q=>by rw [bh (λz=>by rw [z,h] at q;cases q)];exact q,o,es,ep,e1,e2,e3,e4,e5⟩;exact this
theorem yc {H:Hp}{a:Q4}{o u:HO}(h:H a=some o):upd (upd H a u) a o=H:=by
 funext b;by_cases q:b=a
 ·rw [q,bI,h]
 ·rw [bh q,bh q]
theorem JF (g:Gr dom f QC):cY QC (is.map Tq)=none\/cY QC (is.map Tq)=some (.bl (f is)):=by
 unfold cY;cases q:QC.find? λkv=>decide (kv.1=is.map Tq) with
 | none=>exact .inl rfl
 | some p=>
  obtain ⟨js,_,rfl⟩:=g.2 p (Wg q);have z:=ZA q;have e:js.map (Tq:Int->Key)=is.map Tq:=of_decide_eq_true z;rw [zh e];exact .inr rfl
theorem JE (g:Gr dom f QC) (h:is∈dom):Gr dom f (putK QC (is.map Tq) (.bl (f is))):=by
 refine ⟨g.1,?_⟩;unfold putK;split
 ·intro p hp;obtain ⟨q,hq,rfl⟩:=Rg.mp hp;split
  ·rename_i e;exact ⟨is,h,by rw [e]⟩
  ·exact g.2 q hq
 ·intro p hp;rcases Rl.mp hp with hp | hp
  ·exact g.2 p hp
  ·rw [QK.mp hp];exact ⟨is,h,rfl⟩
theorem sY:is.map V.int=(is.map (Tq:Int->Key)).map kV:=by rw [R3];rfl
noncomputable def M9:R2:=λx y H Q=>∃a b dom f is,y=.ref a/\H a=some (.memo dom f)/\x=.ref b/\H b=some (.tup (is.map V.int))/\Q (.bl true) H/\∀QC,Gr dom f QC->cY QC (is.map Tq)=some (.bl (f is))->Q (.bl false) (upd H a (.dT QC))
theorem Kg (hu:X.A.units + 64 < Up):dH X (SI .NotIn) M9:=λQw s σ H x y v u Q I rx ry ⟨a,b,dom,f,is,e1,ha,e2,hb,q1,q2⟩=>by
 subst e1 e2;cases ry;obtain ⟨QC,g,hl,I2⟩:=Inv.opn I ha;have hne:b≠a:=λz=>by rw [z,ha] at hb;cases hb
 refine yY (a:=a) (y:=.ref b) (by omega) I2 (ic.t (k:=is.map Tq) bI (by rw [bh hne,<-sY];exact hb)) rx λs' I'=>?_;rcases JF (is:=is) g with e | e
 ·rw [e];have I3:=Inv.shut I' bI g;rw [yc ha] at I3;exact ⟨.bl true,H,I3,rfl,q1⟩
 ·rw [e];exact ⟨.bl false,_,I',rfl,q2 QC g e⟩
noncomputable def Mb:vJ:=λo i v H Q=>∃a b dom f is,o=.ref a/\i=.ref b/\H a=some (.memo dom f)/\H b=some (.tup (is.map V.int))/\is∈dom/\v=.bl (f is)/\∀QC,Gr dom f QC->cY QC (is.map Tq)=some (.bl (f is))->Q (upd H a (.dT QC))
theorem Ih (hu:X.A.units + 64 < Up):DM X Mb:=by
 intro Qw s σ H o i v ov iv u Q I ro ri rv ⟨a,b,dom,f,is,e1,e2,ha,hb,hd,e3,q⟩;subst e1 e2 e3;cases ro;obtain ⟨QC,g,hl,I2⟩:=Inv.opn I ha;have hne:b≠a:=λz=>by rw [z,ha] at hb;cases hb
 refine ud (a:=a) (y:=.ref b) (v:=.bl (f is)) (by omega) I2 (pL.t (k:=is.map Tq) bI (by rw [bh hne,<-sY];exact hb) hl) ri rv λs' I'=>?_;rw [Iu] at I';exact ⟨_,I',q _ (JE g hd) (by rw [E6,if_pos rfl])⟩
noncomputable def Ge (td ty:TE):TE:=λσ H Q=>td σ H λx H1=>ty σ H1 λy H2=>∃a b dom f is QC,x=.ref a/\y=.ref b/\H2 a=some (.dT QC)/\Gr dom f QC/\cY QC (is.map Tq)=some (.bl (f is))/\H2 b=some (.tup (is.map V.int))/\Q (.bl (f is)) (upd H2 a (.memo dom f))
theorem Hz {o i:Rz}{td ty:TE}{pos:Pos}(hu:X.A.units + 64 < Up) (ho:PE X o td) (hi:PE X i ty) (hs:vE i):PE X (.Subscript o i pos) (Ge td ty):=by
 intro Qw s σ H Q I h;refine zI UI.lookup hs (bU (ho Qw s σ H _ I h) λu s1 ⟨x,H1,I1,rx,q1⟩=>bU (hi Qw s1 σ H1 _ I1 q1) λiv s2 ⟨y,H2,I2,ry,a,b,dom,f,is,QC,ex,ey,ha,g,hv,hb,q2⟩=>?_);subst ex ey;obtain rfl:u=Tj a:=rx;have dg:ic H2 a (.ref b) (some (.bl (f is))):=by rw [<-hv];exact ic.t ha (by rw [<-sY];exact hb)
 exact ⟨o5 I2 dg,uc (by omega) I2 dg ry λw' s3 I3 rw'=>⟨_,_,Inv.shut I3 ha g,rw',q2⟩⟩
end
noncomputable def gg:List D->Option (List Int)
 | []=>some []
 | .int i::r=>(gg r).map (i::·)
 | _=>none
theorem ki {K:QG}{J:Hp}:∀{xs:List D}{vs:List V}{is:List Int},aX K J xs vs->gg xs=some is->vs=is.map V.int
 | _,_,_,.nil,h=>by cases h;rfl
 | .int i::r,_,_,.cons (.int _) rs,h=>by obtain ⟨js,h1,rfl⟩:=Vc.mp (show (gg r).map (i::·)=some _ from h);rw [ki rs h1];rfl
 | .non::_,_,_,_,h=>nomatch h
 | .bl _::_,_,_,_,h=>nomatch h
 | .str _::_,_,_,_,h=>nomatch h
 | .tup _::_,_,_,_,h=>nomatch h
 | .lst _::_,_,_,_,h=>nomatch h
 | .emp::_,_,_,_,h=>nomatch h
 | .exn _ _ _::_,_,_,_,h=>nomatch h
 | .dct _ _::_,_,_,_,h=>nomatch h
 | .ob _ _::_,_,_,_,h=>nomatch h
noncomputable def vd (i j:Nat) (cls fl:Str) (gl ge:G R):G O:=λenv=>gl env >>= λr=>fS r >>= λxs=>af i (env.set j (some (.d (.tup xs)))) >>= λrp=>iV cls fl rp >>= λrm=>match rm,gg xs,ge (env.set j (some (.d (.tup xs)))) with
 | .d (.ob (.mem dom f) _),some is,.ok (.d (.bl b))=>if (dom.contains is=true/\j < env.length)/\b=f is then .ok (.rt (.d (.bl b))) else .bad
 | _,_,_=>.bad
section
variable {X:Cx}{c:C}{e l:Rz}{g gl:G R}{pos posI posS p1 p2 p3 p4 p5 p6 p7 p8 p9 pa pb pc pd:Pos}
theorem E8 {r:R}{α:Type}{k:List D->M α}{P:α->Prop}{T:Exc->Prop}(w:cM (fS r >>= k) P T):∃xs,fS r=.ok xs/\cM (k xs) P T:=by
 cases q:fS r with
 | ok xs=>rw [q] at w;exact ⟨xs,rfl,w⟩
 | bad=>rw [q] at w;exact w.elim
 | exc x=>
  unfold fS at q;split at q <;> cases q
theorem GQ {J H:Hp}{σ:L2.St}{env:Ev}(sr:SR c J H σ env){i:Nat}{α:Type}{k:R->M α}{P:α->Prop}{T:Exc->Prop}(w:cM (af i env >>= k) P T):∃r v,σ[i]?=some (some v)/\RR c H J H r v/\cM (k r) P T:=by
 unfold af at w;cases q:env[i]? with
 | none=>rw [q] at w;exact w.elim
 | some o=>
  cases o with
  | none=>rw [q] at w;exact w.elim
  | some x=>
   rw [q] at w;obtain ⟨v,h1,h2⟩:=sr.at_ i x q;cases x with
   | fn _=>exact w.elim
   | ow2 _=>obtain ⟨a,vs,k1,k2,k3,k4,k5⟩:=h2;exact ⟨.l .own _,v,h1,⟨a,vs,k1,k2,k3,k4,k5.reps⟩,w⟩
   | tn _=>obtain ⟨a,vs,rfl,k1,k2⟩:=h2;exact ⟨.d (.tup _),_,h1,Rep.tup k1 k2.reps,w⟩
   | d y=>exact ⟨.d y,v,h1,h2,w⟩
   | own y=>exact ⟨.l .own y,v,h1,h2,w⟩
   | bor y=>exact ⟨.l .bor y,v,h1,h2,w⟩
   | dk k y=>exact ⟨.mo k y,v,h1,h2,w⟩
   | db k y=>exact ⟨.mb k y,v,h1,h2,w⟩
   | oo k y=>exact ⟨.o .own k y,v,h1,h2,w⟩
   | ob k y=>exact ⟨.o .bor k y,v,h1,h2,w⟩
theorem CZ {i j:Nat}{x y cls fl:Str}(hu:X.A.units + 64 < Up) (A:mC X.K cls fl) (hl:QD X c l gl) (he:QD X c e g) (hN:X.N.Nodup) (hm:X.mg "tuple"=none) (hij:autoParam (j≠i) zB._auto_1) (hK:autoParam (X.K=c.K) zA._auto_1)
  (hi:autoParam (X.N[i]?=some x) zA._auto_1) (hv:mF X.env.scope x:=by first | exact Ug rfl | exact Te (Ug rfl) | exact Te (Te rfl)) (hd:autoParam ((x == ("__debug__":Str))=false) zB._auto_1) (hcd:autoParam ((x == ("__classdict__":Str))=false) zB._auto_1)
  (hj:autoParam (X.N[j]?=some y) zA._auto_1) (Py:mF X.env.scope y:=by first | exact Ug rfl | exact Te (Ug rfl) | exact Te (Te rfl)) (Ph:autoParam ((y == ("__debug__":Str))=false) zB._auto_1) (Pf:autoParam ((y == ("__classdict__":Str))=false) zB._auto_1)
  (Qq:Loc X.env.scope y:=by first | exact Ug rfl | exact Te rfl) (hg:autoParam (Gl X "tuple") zA._auto_1) (hst:autoParam (QY [l] X.env=(false,eval l X.env)::QY [] X.env) zA._auto_1) (hpl:autoParam ((Tn p2 (QY [] X.env)).any (·.1)=false) zA._auto_1)
  (hs:autoParam (Ur (.Call (.Name "tuple" p1) [l] [] p2) (some (.Name y p3)) pos.line X.env=pure false) zA._auto_1) (hf:X.fn y=true\/X.env.scope.names.lookup y=some .local:=by first | exact .inl rfl | exact .inr rfl)
  (hb1:autoParam (SX (.Name x p5) fl X.env (eval (.Name x p5) X.env)=eval (.Name x p5) X.env) zA._auto_1) (hb2:autoParam (SX (.Name x p8) fl X.env (eval (.Name x p8) X.env)=eval (.Name x p8) X.env) zA._auto_1) (P7:autoParam (SX (.Name x pa) fl X.env (eval (.Name x pa) X.env)=eval (.Name x pa) X.env) zA._auto_1)
  (Qi:autoParam (R5 .NotIn (.Attribute (.Name x p5) fl p6)=false) zA._auto_1)
  (ha:∀v,assign (.Subscript (.Attribute (.Name x p8) fl p9) (.Name y pc) posS) X.env v=(do
   let ov <-holding [v] (eval (.Attribute (.Name x p8) fl p9) X.env)
   let iv <-holding [v,ov] (eval (.Name y pc) X.env)
   UG posS
   (holding [v,ov,iv] (aaa ov iv v))
   release [v,ov,iv] []):=by intro _;rfl)
  {q1 q2 q3:Pos}(hs2:autoParam (VH [.Subscript (.Attribute (.Name x p8) fl p9) (.Name y pc) posS] e q1.line X.env=pure false) zA._auto_1) (hw:autoParam (WA [.Subscript (.Attribute (.Name x p8) fl p9) (.Name y pc) posS] e X.env=pure none) zA._auto_1)
  (h1:autoParam ((TM [.Subscript (.Attribute (.Name x p8) fl p9) (.Name y pc) posS] X.env).map (·.2)=[assign (.Subscript (.Attribute (.Name x p8) fl p9) (.Name y pc) posS) X.env]) zA._auto_1) (hns:vE (.Name y pd):=by exact λ_ _=>rfl):
  j6 X c [.Assign [.Name y p3] (.Call (.Name "tuple" p1) [l] [] p2) pos,.If (.Compare (.Name y p4) [.NotIn] [.Attribute (.Name x p5) fl p6] p7) [.Assign [.Subscript (.Attribute (.Name x p8) fl p9) (.Name y pc) posS] e q1] [] posI,.Return (some (.Subscript (.Attribute (.Name x pa) fl pb) (.Name y pd) q2)) q3] (vd i j cls fl gl g):=by
 refine ⟨nK (lY (rH hN hj Qq (nG mG hg hm oZ (gF hl.h ji hst) (by decide) (by decide) hst hpl) hs hf) (lY (F5 (tK (Kg hu) (fU hj Py Ph Pf) (rE (fU hi hv hd hcd) hb1) Qi) (oE (xE he.h (CK (rE (fU hi hv hd hcd) hb2) (fU hj Py Ph Pf) (Ih hu) ha) hs2 hw h1)) zB) (oE (CS (Hz hu (rE (fU hi hv hd hcd) P7) (fU hj Py Ph Pf) hns))))) λE σ H ⟨J,env,sr,w⟩=>?_⟩;refine ⟨J,env,sr,aC (aI w) λr wr v J1 H1 e1 r1=>?_⟩;obtain ⟨xs,qa,wr⟩:=E8 wr;obtain ⟨p,vs,rfl,hq,hr⟩:=RR.list (sr.hp.ext e1) r1 qa;refine ⟨p,vs,rfl,.inl ⟨hK▸hq,λb hb=>?_⟩⟩;have hp1:=sr.hp.ext e1;have e2:Ext J H (upd J1 b (.tup vs)) (upd H1 b (.tup vs)):=e1.trans (Ext.newJ hp1.sub hb _);have sr2:SR c (upd J1 b (.tup vs)) (upd H1 b (.tup vs)) (σ.set j (some (.ref b))) (env.set j (some (.d (.tup xs)))):=(sr.ext e2).setD (x:=.d (.tup xs)) (lB hp1 hb hr) λx z=>by cases x <;> cases z
 have PL:upd J1 b (HO.tup vs) b=some (.tup vs):=bI;generalize upd J1 b (HO.tup vs)=J2 at e2 sr2 PL ⊢;generalize upd H1 b (HO.tup vs)=H2 at e2 sr2 ⊢;have O4:H2 b=some (.tup vs):=sr2.hp.sub _ _ PL;obtain ⟨rp,vp,Pz,rrp,wr⟩:=GQ sr2 wr;cases qf:iV cls fl rp with
 | bad=>rw [qf] at wr;exact wr.elim
 | exc z=>exact (BW qf).elim
 | ok rm=>
  rw [qf] at wr;have wr:cM (match rm,gg xs,g (env.set j (some (.d (.tup xs)))) with
   | .d (.ob (.mem dom f) _),some is,.ok (.d (.bl b))=>if (dom.contains is=true/\j < env.length)/\b=f is then .ok (.rt (.d (.bl b))) else .bad
   | _,_,_=>.bad) (oP c J E) c.T:=wr
  split at wr
  ·rename_i dom f zs is bb hi2 Pn _;split at wr
   ·rename_i hc;obtain ⟨a,C,dx,fs,u,rfl,k2,k3,k4,k5,k6⟩:=zb sr2.hp (hK▸A) rrp qf;obtain rfl:=ki hr hi2;cases k6 with
    | ob h hs'=>
     rename_i am vs';obtain ⟨_,P1⟩:=h;have O3:=sr2.hp.sub _ _ P1;have hne:a≠am:=λz=>by rw [z,O3] at k2;cases k2
     have hnb:b≠am:=λz=>by rw [z,O3] at O4;cases O4
     have hjl:j < σ.length:=sr.len▸hc.1.2;have hσj:(σ.set j (some (V.ref b)))[j]?=some (some (.ref b)):=RV hjl;have k3:oR X.K C:=hK▸k3;have k4:gU X.K C fl:=hK▸k4;have hmem:is∈dom:=Uw.mp hc.1.1;obtain rfl:=hc.2;have ret:∀(J3 H3:Hp),Ext J2 H2 J3 H3->∀QC,Gr dom f QC->cY QC (is.map Tq)=some (.bl (f is))->Ge (Ln X.K (Bb i) fl) (Bb j) (σ.set j (some (.ref b))) (upd H3 am (.dT QC)) E.rt:=λJ3 H3 e3 QC gr hv=>by refine ⟨.ref a,Pz,a,C,dx,fs,.ref am,rfl,by rw [bh hne];exact e3.h _ _ k2,k3,k4,k5,.ref b,hσj,am,b,dom,f,is,QC,rfl,rfl,bI,gr,hv,by rw [bh hnb];exact e3.h _ _ O4,?_⟩;rw [yc (e3.h _ _ O3)];exact wr (.bl (f is)) J3 H3 (e2.j.trans e3.j) (sr2.hp.ext e3) (.bl _)
     refine ⟨.ref b,hσj,.ref a,Pz,a,C,dx,fs,.ref am,rfl,k2,k3,k4,k5,am,b,dom,f,is,rfl,O3,rfl,O4,⟨true,rfl,JN ?_⟩,λQC gr hv=>⟨false,rfl,JM ?_⟩⟩
     ·refine ⟨J2,_,sr2,?_⟩;rw [Pn];intro v J3 H3 e3 r3;cases r3;exact ⟨.ref a,Pz,a,C,dx,fs,.ref am,rfl,e3.h _ _ k2,k3,k4,k5,.ref b,hσj,am,b,dom,f,is,rfl,rfl,e3.h _ _ O3,e3.h _ _ O4,hmem,rfl,λQC gr hv=>ret J3 H3 e3 QC gr hv⟩
     ·exact ret J2 H2 (Ext.refl sr2.hp.sub) QC gr hv
   ·exact wr.elim
  ·exact wr.elim
end
end DL
namespace K16
open PySem DL K01
noncomputable def yS (w:Wd) (n:Str) (p:Nat):Bool:=match w.ms.find? λr=>r.1 == n with
 | some r=>decide (p∈r.2)
 | none=>false
noncomputable def w4 (w:Wd) (n:Str) (p q:Nat):Bool:=match w.ar.find? λr=>r.1 == n with
 | some r=>decide ((p,q)∈r.2)
 | none=>false
noncomputable def put (ρ:Str->Nat) (a:Str) (p:Nat):Str->Nat:=λb=>if b=a then p else ρ b
noncomputable def cnt (m:Nat) (f:Nat->Bool):Nat:=((QX m).filter f).length
noncomputable def sem (w:Wd):Nat->D->(Str->Nat)->Bool
 | 0,_,_=>false
 | k + 1,.tup [.str h,.str a,.str b],ρ=>if h == "mark" then yS w a (ρ b) else ρ a == ρ b
 | k + 1,.tup [.str _,.str n,.str a,.str b],ρ=>w4 w n (ρ a) (ρ b)
 | k + 1,.tup [.str h,.tup ss],ρ=>if h == "not" then !(sem w k (.tup ss) ρ) else if h == "and" then ss.all λs=>sem w k s ρ else ss.any λs=>sem w k s ρ
 | k + 1,.tup [.str h,.str a,.tup xs],ρ=>if h == "some" then decide (1<=cnt w.m λp=>sem w k (.tup xs) (put ρ a p)) else decide (w.m<=cnt w.m λp=>sem w k (.tup xs) (put ρ a p))
 | k + 1,.tup [.str _,.int i,.str a,.tup xs],ρ=>decide (i<=cnt w.m λp=>sem w k (.tup xs) (put ρ a p))
 | _,_,_=>false
noncomputable def tups (m:Nat):Nat->List (List Int)
 | 0=>[[]]
 | k + 1=>(QX m).flatMap λ(p:Nat)=>(tups m k).map λl=>(p:Int)::l
noncomputable def asg:List Str->List Int->Str->Nat
 | a::as,i::is,b=>if b=a then i.toNat else asg as is b
 | _,_,_=>0
noncomputable def mu (w:Wd) (d:D):Mm:=(if (K12.bF 60 d).length<=3 then tups w.m (K12.bF 60 d).length else [],λis=>sem w 60 d (asg (K12.bF 60 d) is))
noncomputable def Gh:D->Str×List Nat
 | .tup [.str n,.tup xs]=>(n,xs.map K55.DA)
 | _=>(Wn,[])
noncomputable def Gg:D->Str×List (Nat×Nat)
 | .tup [.str n,.tup xs]=>(n,xs.map K55.Lw)
 | _=>(Wn,[])
noncomputable def Lx:D->Wd
 | .tup [.int m,.tup ms,.tup ar]=>⟨m.toNat,ms.map Gh,ar.map Gg⟩
 | _=>⟨0,[],[]⟩
noncomputable def ME (mu:D->Mm) (i:Nat) (env:Ev):Mm:=match env[i]? with
 | some (some (.d x))=>mu x
 | _=>([],λ_=>false)
noncomputable def Ex (i:Nat) (env:Ev):D->Mm:=match env[i]? with
 | some (some (.d x))=>mu (Lx x)
 | _=>λ_=>([],λ_=>false)
end K16
namespace K16
open PySem DL
noncomputable def qx:List Str:=["world","many","marks","arrows"]
noncomputable def qV:G O:=(au (pV (gJ 3 (cV (aF 1) (cV (aF 2) (cV (aF 3) h_)))) (af 0))
 (aL (b7 (ao (gN fG (ah (cZ 2 [] (gQ (af 2)) (gJ 2 (cV (aF 0) (cV (aF 1) h_))) fT (af 0)) ay)) (ao (gN fG (ah (cZ 2 [] (gQ (af 3)) (gJ 2 (cV (aF 0) (cV (aF 1) h_))) fT (af 0)) ay)) aK)))))
noncomputable def iD (as:List S):M R:=fin (qV (aD qx as))
noncomputable def vC:List Str:=["rows","name","one","things"]
noncomputable def wN:G O:=(au (dW (kG (af 0)) (gJ 2 (cV (aF 2) (cV (aF 3) h_))) (aG (aJ (g2 (bu false) (af 2) (af 1))) (aL (af 3)) bf))
 oz)
noncomputable def iR (as:List S):M R:=fin (wN (aD vC as))
noncomputable def Bp:List Str:=["world","name","point"]
noncomputable def B3:G O:=(aL (g2 (gM false) (af 2) (gN (aB 2 K16.iR) (ah (g2 aP (af 0) (gC (.int 1))) (ah (af 1) ay)))))
noncomputable def mZ (as:List S):M R:=fin (B3 (aD Bp as))
noncomputable def Bq:List Str:=["world","name","one","other"]
noncomputable def B5:G O:=(aL (g2 (gM false) (b7 (ao (af 2) (ao (af 3) aK))) (gN (aB 2 K16.iR) (ah (g2 aP (af 0) (gC (.int 2))) (ah (af 1) ay)))))
noncomputable def m6 (as:List S):M R:=fin (B5 (aD Bq as))
noncomputable def Fg:List Str:=["self","saying","earlier"]
noncomputable def qQ (mu:D->Mm) (Fr:List S->M R):G O:=(au (kH 0 "Part" "saying" (af 1))
 (au (kH 0 "Part" "inner" (cZ 1 [2] (gQ (gN (aB 1 K12.jw) (ah (af 1) ay))) (aF 0) fT (ze 2 (λ_=>Fr) (ah (af 0) (ah (af 1) ay)))))
 (au (kH 0 "Part" "table" (MG (aJ (g2 (bu false) (g2 aP (af 1) (gC (.int 0))) (gC (.str "row")))) (g2 aP (af 2) (g2 aP (af 1) (gC (.int 1)))) (gC .non)))
 (au (kH 0 "Part" "free" (gN (aB 2 K12.jr) (ah (af 1) (ah (wJ 2 [] (gQ (ff "Part" "inner" (af 0))) (aF 0) fT (kG (ff "Part" "free" (af 0))) (aF 1) fT (af 1)) ay))))
 (au (kH 0 "Part" "kept" (bB (g2 (gM false) (g2 aP (af 1) (gC (.int 0))) (gC (.tup [(.str "some"),(.str "every"),(.str "least")]))) (g2 (bV λi j=>.bl (decide (i<=j))) (gN eS (ah (ff "Part" "free" (af 0)) ay)) (gC (.int 3)))))
 (Eg 0 "Part" "found" (K16.ME mu 1)))))))
noncomputable def gy (mu:D->Mm):Nat->List S->M R
 | 0,_=>.bad
 | k + 1,as=>sV "Part" Fg (qQ mu (gy mu k)) as
noncomputable def Gp:List Str:=["world","part","places","wanted","letter","spare","here","point"]
noncomputable def zf (Fr:List S->M R):G O:=(au (aO 4 (g2 aP (gN (aB 1 K12.fL) (ah (ff "Part" "saying" (af 1)) ay)) (gC (.int 0))))
 (au (aO 5 (g2 gP (g2 aP (af 0) (gC (.int 0))) (af 3)))
 (au (aO 6 (gN kY (ah (af 2) ay)))
 (au (dW (dz (ah (g2 aP (af 0) (gC (.int 0))) ay)) (aF 7) (au (jo 6 (af 4) (af 7))
 (au (aG (aJ (gN (aB 3 Fr) (ah (af 0) (ah (g2 aP (ff "Part" "inner" (af 1)) (gC (.int 0))) (ah (af 6) ay))))) (jR 3 gP (gC (.int 1))) (jR 5 gP (gC (.int 1))))
 (aG (bW (aJ (g2 (bu false) (af 3) (gC (.int 0)))) (aJ (g2 (bV λi j=>.bl (decide (i < j))) (af 5) (gC (.int 0))))) FL bf))))
 (aL (g2 (bu false) (af 3) (gC (.int 0))))))))
noncomputable def jv (Fr:List S->M R) (as:List S):M R:=fin (zf Fr (aD Gp as))
noncomputable def vB:List Str:=["world","parts","places","truth","part"]
noncomputable def nv (Fr:List S->M R):G O:=(au (dW (kG (af 1)) (aF 4) (aG (aJ (g2 (bu false) (gN (aB 3 Fr) (ah (af 0) (ah (af 4) (ah (af 2) ay)))) (af 3))) (aL (gC (.bl true))) bf))
 (aL (gC (.bl false))))
noncomputable def gn (Fr:List S->M R) (as:List S):M R:=fin (nv Fr (aD vB as))
noncomputable def Br:List Str:=["world","part","places","saying","word"]
noncomputable def uh (Fr:List S->M R):G O:=(au (aO 3 (ff "Part" "saying" (af 1)))
 (au (aO 4 (g2 aP (af 3) (gC (.int 0))))
 (au (aG (aJ (g2 (bu false) (af 4) (gC (.str "mark")))) (aL (gN (aB 3 K16.mZ) (ah (af 0) (ah (g2 aP (af 3) (gC (.int 1))) (ah (g2 gu (af 2) (g2 aP (af 3) (gC (.int 2)))) ay))))) bf)
 (au (aG (aJ (g2 (bu false) (af 4) (gC (.str "arrow")))) (aL (gN (aB 4 K16.m6) (ah (af 0) (ah (g2 aP (af 3) (gC (.int 1))) (ah (g2 gu (af 2) (g2 aP (af 3) (gC (.int 2)))) (ah (g2 gu (af 2) (g2 aP (af 3) (gC (.int 3)))) ay)))))) bf)
 (au (aG (aJ (g2 (bu false) (af 4) (gC (.str "same")))) (aL (g2 (bu false) (g2 gu (af 2) (g2 aP (af 3) (gC (.int 1)))) (g2 gu (af 2) (g2 aP (af 3) (gC (.int 2)))))) bf)
 (au (aG (aJ (g2 (bu false) (af 4) (gC (.str "row")))) (aL (g2 aP (ff "Part" "table" (af 1)) (gN fG (ah (cZ 1 [2] (gQ (g2 aP (af 3) (gC (.int 2)))) (aF 0) fT (g2 gu (af 1) (af 0))) ay)))) bf)
 (au (aG (aJ (g2 (bu false) (af 4) (gC (.str "not")))) (aL (bG (gN (aB 3 Fr) (ah (af 0) (ah (g2 aP (ff "Part" "inner" (af 1)) (gC (.int 0))) (ah (af 2) ay)))))) bf)
 (au (aG (aJ (g2 (bu false) (af 4) (gC (.str "and")))) (aL (bG (gN (aB 4 (K16.gn Fr)) (ah (af 0) (ah (ff "Part" "inner" (af 1)) (ah (af 2) (ah (gC (.bl false)) ay))))))) bf)
 (au (aG (aJ (g2 (bu false) (af 4) (gC (.str "or")))) (aL (gN (aB 4 (K16.gn Fr)) (ah (af 0) (ah (ff "Part" "inner" (af 1)) (ah (af 2) (ah (gC (.bl true)) ay)))))) bf)
 (au (aG (aJ (g2 (bu false) (af 4) (gC (.str "some")))) (aL (gN (aB 4 (K16.jv Fr)) (ah (af 0) (ah (af 1) (ah (af 2) (ah (gC (.int 1)) ay)))))) bf)
 (au (aG (aJ (g2 (bu false) (af 4) (gC (.str "every")))) (aL (gN (aB 4 (K16.jv Fr)) (ah (af 0) (ah (af 1) (ah (af 2) (ah (g2 aP (af 0) (gC (.int 0))) ay)))))) bf)
 (aL (gN (aB 4 (K16.jv Fr)) (ah (af 0) (ah (af 1) (ah (af 2) (ah (g2 aP (af 3) (gC (.int 1))) ay)))))))))))))))))
noncomputable def iu (Fr:List S->M R) (as:List S):M R:=fin (uh Fr (aD Br as))
noncomputable def yh:List Str:=["world","part","places","points"]
noncomputable def kL (Fr:List S->M R):G O:=(au (aG (bH (aJ (ff "Part" "kept" (af 1)))) (aL (gN (aB 3 (K16.iu Fr)) (ah (af 0) (ah (af 1) (ah (af 2) ay))))) bf)
 (vd 1 3 "Part" "found" (cZ 1 [2] (gQ (ff "Part" "free" (af 1))) (aF 0) fT (g2 gu (af 1) (af 0))) (gN (aB 3 (K16.iu Fr)) (ah (af 0) (ah (af 1) (ah (af 2) ay))))))
noncomputable def dQ:Nat->List S->M R
 | 0,_=>.bad
 | k + 1,as=>fin (kL (dQ k) (aD yh as))
noncomputable def IS:List Str:=["world","saying","places","tongue","part","asked","letter"]
noncomputable def B4:G O:=(au (aG (aJ (g2 (FI false) (af 2) (gC .non))) (Az 2) bf)
 (au (aO 3 (gN (aB 1 K16.iD) (ah (af 0) ay)))
 (au (dW (kG (gN (aB 1 K12.jc) (ah (af 1) ay))) (aF 4) (aG (bH (aJ (gN (aB 2 K12.iC) (ah (af 4) (ah (af 3) ay))))) oz bf))
 (au (aO 5 (ze 2 (λenv=>K16.gy ((K16.Ex 0) env) 60) (ah (af 1) (ah (b7 aK) ay))))
 (au (dW (kG (ff "Part" "free" (af 5))) (aF 6) (aG (aJ (g2 (sQ true) (af 6) (af 2))) oz bf))
 (aL (gN (aB 3 (K16.dQ 60)) (ah (af 0) (ah (af 5) (ah (af 2) ay))))))))))
noncomputable def eV (as:List S):M R:=fin (B4 (aD IS as))
end K16
namespace K16
open PySem PySem.Spec PyProof.Rows DL K01 WP
open K12 (Sy wit dO bnd own bF kB d8 b9 cG gE fM)
variable {A B L:List Str}{k:Nat}{d:D}{w:Wd}
theorem qO:∀{k:Nat}{d:D},Sy A B L k d->∀{j:Nat},k<=j->bF j d=bF k d
 | 0,d,h,j,hj=>by obtain ⟨_,e⟩:=b9 h;cases e
 | k + 1,d,h,j,hj=>by obtain ⟨j,rfl⟩:∃i,j=i + 1:=⟨j - 1,by omega⟩;have:(wit d).flatMap (bF j)=(wit d).flatMap (bF k):=fM λs hs=>qO (cG h s hs) (by omega);unfold bF;rw [this]
theorem d7 (hb:(bnd d).isEmpty=true){x:Str}(hx:x∈dO d):x∈bF (k + 1) d:=by unfold bF;rw [if_pos hb];exact d8.mpr (Sl _ hx)
theorem qN (hb:(bnd d).isEmpty=true){s:D}(hs:s∈wit d){x:Str}(hx:x∈bF k s):x∈bF (k + 1) d:=by unfold bF;rw [if_pos hb];exact d8.mpr (RB _ (Sz.mpr ⟨s,hs,hx⟩))
theorem nq {a:Str}(hb:(bnd d).isEmpty=false) (ha:dO d=[a]){s:D}(hs:s∈wit d){x:Str}(hx:x∈bF k s) (hn:x≠a):x∈bF (k + 1) d:=by
 unfold bF;rw [hb,if_neg (by decide)];refine d8.mpr (SH.mpr ⟨Sz.mpr ⟨s,hs,hx⟩,?_⟩);rw [ha];have:(a == x)=false:=by simpa using Sb hn
 simp [this]
theorem vK {f g:D->Bool}:∀{l:List D},(∀s∈l,f s=g s)->l.all f=l.all g
 | [],_=>rfl
 | x::l,h=>by rw [WC,WC,h x QT,vK λs hs=>h s (QO _ hs)]
theorem vM {f g:D->Bool}:∀{l:List D},(∀s∈l,f s=g s)->l.any f=l.any g
 | [],_=>rfl
 | x::l,h=>by rw [Sx,Sx,h x QT,vM λs hs=>h s (QO _ hs)]
theorem kW {m:Nat}{f g:Nat->Bool}(h:∀p,p < m->f p=g p):cnt m f=cnt m g:=by unfold cnt;congr 1;exact YV λp hp=>h p (Rc.mp hp)
theorem jZ:∀{k:Nat}{d:D},Sy A B L k d->∀{j:Nat},k<=j->∀ρ,sem w j d ρ=sem w k d ρ
 | 0,d,h,j,hj,ρ=>by obtain ⟨_,e⟩:=b9 h;cases e
 | k + 1,d,h,j,hj,ρ=>by
  obtain ⟨j,rfl⟩:∃i,j=i + 1:=⟨j - 1,by omega⟩;have hj:k<=j:=by omega
  cases h with
  | mark _ _=>rfl
  | arrow _ _ _=>rfl
  | same _ _=>rfl
  | not h=>exact congrArg not (jZ h hj ρ)
  | and h _=>exact vK λs hs=>jZ (h s hs) hj ρ
  | or h _=>exact vM λs hs=>jZ (h s hs) hj ρ
  | some _ h=>exact congrArg (λn=>decide (1<=n)) (kW λp _=>jZ h hj _)
  | every _ h=>exact congrArg (λn=>decide (w.m<=n)) (kW λp _=>jZ h hj _)
  | least _ _ h=>exact congrArg (λn:Nat=>decide (_<=(n:Int))) (kW λp _=>jZ h hj _)
theorem xG {ρ ρ':Str->Nat}{a:Str}{p:Nat}{l:List Str}(h:∀x∈l,x≠a->ρ x=ρ' x):∀x∈l,put ρ a p x=put ρ' a p x:=λx hx=>by
 unfold put;by_cases q:x=a
 ·rw [if_pos q,if_pos q]
 ·rw [if_neg q,if_neg q];exact h x hx q
theorem jY:∀{k:Nat}{d:D},Sy A B L k d->∀{ρ ρ':Str->Nat},(∀x∈bF k d,ρ x=ρ' x)->sem w k d ρ=sem w k d ρ'
 | 0,d,h,ρ,ρ',_=>by obtain ⟨_,e⟩:=b9 h;cases e
 | k + 1,_,.mark (n:=n) (a:=a) _ _,ρ,ρ',q=>congrArg (yS w n) (q a (d7 rfl (QK.mpr rfl)))
 | k + 1,_,.arrow (n:=n) (a:=a) (b:=b) _ _ _,ρ,ρ',q=>by show w4 w n (ρ a) (ρ b)=w4 w n (ρ' a) (ρ' b);rw [q a (d7 rfl QT),q b (d7 rfl (QO _ (QK.mpr rfl)))]
 | k + 1,_,.same (a:=a) (b:=b) _ _,ρ,ρ',q=>by show (ρ a == ρ b)=(ρ' a == ρ' b);rw [q a (d7 rfl QT),q b (d7 rfl (QO _ (QK.mpr rfl)))]
 | k + 1,_,.not h,ρ,ρ',q=>congrArg not (jY h λx hx=>q x (qN rfl (QK.mpr rfl) hx))
 | k + 1,_,.and h _,ρ,ρ',q=>vK λs hs=>jY (h s hs) λx hx=>q x (qN rfl hs hx)
 | k + 1,_,.or h _,ρ,ρ',q=>vM λs hs=>jY (h s hs) λx hx=>q x (qN rfl hs hx)
 | k + 1,_,.some _ h,ρ,ρ',q=>congrArg (λn=>decide (1<=n)) (kW λp _=>jY h (xG λx hx hn=>q x (nq rfl rfl (QK.mpr rfl) hx hn)))
 | k + 1,_,.every _ h,ρ,ρ',q=>congrArg (λn=>decide (w.m<=n)) (kW λp _=>jY h (xG λx hx hn=>q x (nq rfl rfl (QK.mpr rfl) hx hn)))
 | k + 1,_,.least _ _ h,ρ,ρ',q=>congrArg (λn:Nat=>decide (_<=(n:Int))) (kW λp _=>jY h (xG λx hx hn=>q x (nq rfl rfl (QK.mpr rfl) hx hn)))
theorem yR {ρ:Str->Nat}:∀{l:List Str}{x:Str},x∈l->asg l (l.map λa=>(ρ a:Int)) x=ρ x
 | a::l,x,h=>by
  show (if x=a then (ρ a:Int).toNat else asg l _ x)=_;by_cases q:x=a
  ·rw [if_pos q,q];rfl
  ·rw [if_neg q];exact yR ((QZ.mp h).resolve_left q)
theorem xZ {m:Nat} {ρ:Str->Nat}:∀{l:List Str},(∀a∈l,ρ a < m)->(l.map λa=>(ρ a:Int))∈tups m l.length
 | [],_=>QK.mpr rfl
 | a::l,h=>Sz.mpr ⟨ρ a,Rc.mpr (h a QT),Rg.mpr ⟨_,xZ λb hb=>h b (QO _ hb),rfl⟩⟩
theorem E5 {m:Nat}(hm:m<=8):∀{k:Nat},k<=3->(tups m k).length<=512:=by
 have step:∀k,(tups m k).length=m ^ k:=λk=>by
  induction k with
  | zero=>rfl
  | succ k ih=>
   have:∀(l:List Nat),(l.flatMap λ(p:Nat)=>(tups m k).map λt=>(p:Int)::t).length=l.length * m ^ k:=λl=>by
    induction l with
    | nil=>simp
    | cons x l ih2=>rw [Rr,QU,ih2,QN,ih,Rm,aax,Nat.add_comm]
   show ((QX m).flatMap λ(p:Nat)=>(tups m k).map λt=>(p:Int)::t).length=_;rw [this,RO,Y5,aay]
 intro k hk;rw [step];have h1:m ^ k<=8 ^ k:=Nat.pow_le_pow_left hm k;have h2:8 ^ k<=8 ^ 3:=VF (by decide) hk;exact RG h1 h2
end K16
namespace K16
open PySem PySem.Spec PyProof.Rows DL K01 WP
open K12 (Sy wit dO bnd own wd bF kB d8 b9 cG gE fM dw kZ jz qL i7 jI jb qo bZ)
variable {A B L:List Str}{k:Nat}{d:D}{w:Wd}
theorem pO (w:Wd) (h1:w.ms.length<=100) (h2:w.ar.length<=100):iD [.d w.d]=.ok (.d (dw (w.ms.map RD) (w.ar.map RD))):=by refine cS (Ga rfl rfl rfl (bJ (dG (aQ (n1 (FD (xs:=w.ms) (λr=>.str r.1) (λr=>.tup (r.2.map dN)) (λr=>.str r.1) rfl (by omega) λr hr=>⟨_,rfl,rfl⟩) (x:=.l .fresh (w.ms.map λr=>.str r.1)) rfl) rfl (aQ (n1 (FD (xs:=w.ar) (λr=>.str r.1) (λr=>.tup (r.2.map dP)) (λr=>.str r.1) rfl (by omega) λr hr=>⟨_,rfl,rfl⟩) (x:=.l .fresh (w.ar.map λr=>.str r.1)) rfl) rfl bN)) (QS rfl)) rfl ?_));unfold dw;rw [R3,R3];rfl
theorem IF {α:Type}(nm:α->Str) (g:α->D){xs:List α}{n:Str}{r:α}(h:xs.find? (λr=>nm r == n)=some r) (hg:∀r,rF (.d (g r))=.ok (.d (g r))):iR [.d (.tup (xs.map λr=>.tup [.str (nm r),g r])),.d (.str n)]=.ok (.d (g r)):=by
 refine cS (g_ (ds:=xs.map λr=>.tup [.str (nm r),g r]) rfl ?_);have key:∀(X0:Option S) (ys:List α),ys.find? (λr=>nm r == n)=some r->∀x y:Option S,Wp (dj (gJ 2 (cV (aF 2) (cV (aF 3) h_))) (aG (aJ (g2 (bu false) (af 2) (af 1))) (aL (af 3)) bf) (ys.map λr=>.tup [.str (nm r),g r]) [X0,some (.d (.str n)),x,y]) (λo=>o=.rt (.d (g r))):=by
  intro X0 ys
  induction ys with
  | nil=>intro h;cases h
  | cons y ys ih=>
   intro h x z;have ht:aJ (g2 (bu false) (af 2) (af 1)) [X0,some (.d (.str n)),some (.d (.str (nm y))),some (.d (g y))]=.ok (nm y == n):=rfl;rw [Ri];unfold dj;show Wp (aG _ _ _ [X0,some (.d (.str n)),some (.d (.str (nm y))),some (.d (g y))] >>= _) _;cases q:nm y == n with
   | true=>
    rw [q] at ht;rw [R8,q] at h;cases h;rw [jA ht];exact ⟨_,rfl,rfl⟩
   | false=>
    rw [q] at ht;rw [R8,q] at h;rw [iI ht];exact ih h _ _
 exact (key _ xs h none none).mono λo e=>by subst e;rfl
theorem ou {α:Type}{l:List (Str×α)}{n:Str}(h:n∈l.map RD):∃r,l.find? (λr=>r.1 == n)=some r:=by
 obtain ⟨r,hr,rfl⟩:=Rg.mp h;cases q:l.find? (λx=>x.1 == r.1) with
 | some r=>exact ⟨r,rfl⟩
 | none=>have:=Yx.mp q r hr;simp at this
theorem Gi (w:Wd){n:Str}(hn:n∈w.ms.map RD) (p:Nat):mZ [.d w.d,.d (.str n),.d (dN p)]=.ok (.d (.bl (yS w n p))):=by obtain ⟨r,hr⟩:=ou hn;refine cS (bJ (WP.two (x:=.d (dN p)) (y:=cg (.d (.tup (r.2.map dN)))) rfl (c2 (x:=.d (.tup (w.ms.map jW))) (y:=.d (.str n)) rfl rfl (IF (α:=Str×List Nat) RD (λr=>.tup (r.2.map dN)) hr λ_=>rfl)) (K51.JH p r.2)) rfl ?_);unfold yS;rw [hr,K55.inN]
theorem Gk (w:Wd){n:Str}(hn:n∈w.ar.map RD) (p q:Nat):m6 [.d w.d,.d (.str n),.d (dN p),.d (dN q)]=.ok (.d (.bl (w4 w n p q))):=by obtain ⟨r,hr⟩:=ou hn;refine cS (bJ (WP.two (x:=.d (dP (p,q))) (y:=cg (.d (.tup (r.2.map dP)))) (dG (aQ rfl rfl (aQ rfl rfl bN)) (QS rfl)) (c2 (x:=.d (.tup (w.ar.map nR))) (y:=.d (.str n)) rfl rfl (IF (α:=Str×List (Nat×Nat)) RD (λr=>.tup (r.2.map dP)) hr λ_=>rfl)) (K51.JI (p,q) r.2)) rfl ?_);unfold w4;rw [hr,K55.FP]
noncomputable def ly:List Str:=["saying","inner","table","free","kept","found"]
noncomputable def pq (k:Nat) (d:D):Bool:=!(bnd d).isEmpty && decide ((bF k d).length<=3)
noncomputable def jk (w:Wd):Nat->D->List D
 | 0,_=>[]
 | k + 1,d=>[d,.lst ((wit d).map λs=>.ob (.ins "Part" ly) (jk w k s)),.non,.lst ((bF (k + 1) d).map .str),.bl (pq (k + 1) d),.ob (.mem (mu w d).1 (mu w d).2) []]
noncomputable def pd (w:Wd) (k:Nat) (d:D):D:=.ob (.ins "Part" ly) (jk w k d)
section
variable {env:Ev}{i:Nat}{g:G R}{r:R}{Q:O->Prop}{u:G O}
theorem LO {cls f:Str}{d:D}{s s':S}(h0:env[i]?=some (some s)) (h:g env=.ok r) (h2:toD r=.ok d) (h3:uD cls f d s=some s') (k:Q (.nx (env.set i (some s')))):Wp (kH i cls f g env) Q:=⟨_,by unfold kH;rw [h0];show (g env >>= _)=_;rw [h,aS,h2,aS,h3],k⟩
theorem rS {cls f:Str}{d:D}{s s':S}(h0:env[i]?=some (some s)) (h:g env=.ok r) (h2:toD r=.ok d) (h3:uD cls f d s=some s') (k:Wp (u (env.set i (some s'))) Q):Wp (au (kH i cls f g) u env) Q:=bx (LO h0 h h2 h3 k)
theorem lE {cls f:Str}{ns:List Str}{xs:List D}{d:D}(h:ns.contains f=false) (hl:ns.length < 100):uD cls f d (.oo (.ins cls ns) xs)=some (.oo (.ins cls (ns++[f])) (xs++[d])):=if_pos ⟨rfl,h,hl⟩
theorem FY {n:Nat}{F:Ev->List S->M R}{gs:G (List R)}{rs:List R}{k:Kd}{xs:List D}(h:gs env=.ok rs) (hl:rs.length=n) (hF:F env (rs.map bO)=.ok (.o .fresh k xs)):ze n F gs env=.ok (.o .fresh k xs):=by unfold ze;rw [h,aS,if_pos hl,hF]
theorem Fv {a b:G R}{p:Bool}{q:Bool}(ha:a env=.ok (.d (.bl p))) (hb:b env=.ok (.d (.bl q))):bB a b env=.ok (.d (.bl (p && q))):=by
 unfold bB;rw [ha,aS];cases p with
 | true=>exact hb
 | false=>rfl
end
theorem oO (h:Sy A B L k d):aP (.d d) (.d (.int 0))=.ok (.d (.str (wd d))):=by cases h <;> rfl
theorem G_ (h:Sy A B L k d):bu false (.d (.str (wd d))) (.d (.str "row"))=.ok (.d (.bl false)):=by cases h <;> rfl
theorem JJ (h:Sy A B L k d):gM false (.d (.str (wd d))) (.d (.tup [.str "some",.str "every",.str "least"]))=.ok (.d (.bl (!(bnd d).isEmpty))):=by cases h <;> rfl
theorem Bk (hL:∀x∈L,isLet x=true) (hm:w.m<=8):∀(n:Nat){k:Nat}{d:D},Sy A B L k d->k<=n->k<=60->gy (mu w) n [.d d,.d (.tup [])]=.ok (.o .fresh (.ins "Part" ly) (jk w k d))
 | 0,k,d,h,hk,_=>by obtain ⟨_,e⟩:=b9 h;omega
 | n + 1,k,d,h,hk,OH=>by
  obtain ⟨j,rfl⟩:=b9 h;have hw:=i7 h;have inner:∀x∈(wit d).flatMap (bF j),isLet x=true:=λx hx=>by obtain ⟨s,hs,hx⟩:=Sz.mp hx;exact jz hL j (cG h s hs) x hx
  have hn:=qL hL j (cG h);have key:Wp (qQ (mu w) (gy (mu w) n) [some (.oo (.ins "Part" []) []),some (.d d),some (.d (.tup []))]) (·=.nx [some (.oo (.ins "Part" ly) (jk w (j + 1) d)),some (.d d),some (.d (.tup []))]):=by
   refine rS (d:=d) rfl rfl rfl (lE rfl (by decide)) ?_;refine rS (d:=.lst ((wit d).map (pd w j))) (r:=.l .fresh ((wit d).map (pd w j))) rfl (sN (α:=D) (xs:=wit d) (h:=id) (pd w j) ?_ (by omega) λs hs=>⟨.o .fresh (.ins "Part" ly) (jk w j s),FY (rs:=[.d s,.d (.tup [])]) rfl rfl (Bk hL hm n (cG h s hs) (by omega) (by omega)),rfl⟩) rfl (lE rfl (by decide)) ?_
   ·rw [V4];show (gN _ _ _ >>= _)=_;rw [c1 (x:=.d d) (z:=.d (.tup (wit d))) rfl (jI h)];rfl
   refine rS (d:=.non) (r:=.d .non) rfl ?_ rfl (lE rfl (by decide)) ?_
   ·show (aJ (g2 (bu false) (g2 aP (af 1) (gC (.int 0))) (gC (.str "row"))) _ >>= _)=_;rw [bZ (two (x:=.d (.str (wd d))) (y:=.d (.str "row")) (two (x:=.d d) (y:=.d (.int 0)) rfl rfl (oO h)) rfl (G_ h))];rfl
   refine rS (d:=.lst ((bF (j + 1) d).map .str)) (r:=.l .fresh ((bF (j + 1) d).map .str)) rfl (c2 (x:=.d d) (y:=.l .fresh (((wit d).flatMap (bF j)).map .str)) (z:=.l .fresh ((bF (j + 1) d).map .str)) rfl ?_ (qo hL h inner (by omega))) rfl (lE rfl (by decide)) ?_
   ·unfold wJ;refine (K23.FE (α:=D) (β:=Str) (xs:=wit d) (h:=pd w j) (h':=D.str) (bF j) (λ_ _=>true) (λ_ y=>.str y) rfl (by omega) λs hs=>⟨RG (kZ hL j (cG h s hs)) (by decide),λz=>?_,λy hy=>⟨rfl,λ_=>K23.yL rfl rfl⟩⟩).trans ?_
    ·obtain ⟨i,rfl⟩:=b9 (cG h s hs);rfl
    ·have:((wit d).flatMap λx=>((bF j x).filter λ_=>true).map D.str)=((wit d).flatMap (bF j)).map .str:=by rw [List.map_flatMap];exact fM λx _=>by rw [V5.mpr λ_ _=>rfl]
     rw [this]
   refine rS (d:=.bl (pq (j + 1) d)) (r:=.d (.bl (pq (j + 1) d))) rfl (Fv (two (x:=.d (.str (wd d))) (y:=.d (.tup [.str "some",.str "every",.str "least"])) (two (x:=.d d) (y:=.d (.int 0)) rfl rfl (oO h)) rfl (JJ h)) ?_) rfl (lE rfl (by decide)) ?_
   ·show M.ok (R.d (.bl (decide ((((bF (j + 1) d).map D.str).length:Int)<=3))))=_;rw [QN];congr 3;rw [decide_eq_decide];omega
   refine ⟨_,?_,rfl⟩;have hf:=qO h OH;have hlen:(mu w d).1.length<=1000000:=by
    unfold mu;show (if (bF 60 d).length<=3 then _ else _:List (List Int)).length<=_;split
    ·exact RG (E5 hm ‹_›) (by decide)
    ·exact Rj _
   show (if (mu w d).1.length<=1000000 then (match uD "Part" "found" (.ob (.mem (mu w d).1 (mu w d).2) []) (.oo (.ins "Part" ["saying","inner","table","free","kept"]) [d,.lst ((wit d).map (pd w j)),.non,.lst ((bF (j + 1) d).map .str),.bl (pq (j + 1) d)]) with
    | some s'=>M.ok (O.nx [some s',some (.d d),some (.d (.tup []))])
    | none=>.bad) else .bad)=_
   rw [if_pos hlen,lE rfl (by decide)];rfl
  obtain ⟨_,hk,rfl⟩:=key;show sV "Part" Fg (qQ (mu w) (gy (mu w) n)) [.d d,.d (.tup [])]=_;unfold sV;show (match qQ (mu w) (gy (mu w) n) [some (.oo (.ins "Part" []) []),some (.d d),some (.d (.tup []))] with
   | .ok (.nx env)=>_
   | _=>_)=_
  rw [hk];rfl
end K16
namespace K16
open PySem PySem.Spec PyProof.Rows DL K01 WP
open K12 (Sy wit dO bnd own wd bF kB d8 b9 cG gE fM dw kZ jz qL i7 jI jb qo bZ g9)
variable {A B L:List Str}{k:Nat}{d:D}{w:Wd}
theorem lq {α:Type}{x:Str}:∀{ss:List Str}{xs:List α},ss.length=xs.length->(cF ss xs x).isSome=ss.contains x
 | [],_,_=>by unfold cF;rfl
 | s::ss,[],h=>nomatch h
 | s::ss,v::xs,h=>by
  unfold cF;rw [V9];by_cases q:s=x
  ·rw [if_pos q,q,beq_self_eq_true];rfl
  ·rw [if_neg q,lq (by simpa using h),show (x == s)=false by simpa using Sb q,aap]
theorem Co {α:Type}{s x:Str}{v:α}:∀{ss:List Str}{xs:List α},ss.length=xs.length->cF ss ((ss.zip xs).map λp=>if p.1=s then v else p.2) x=(cF ss xs x).map λd=>if x=s then v else d
 | [],_,_=>by unfold cF;rfl
 | t::ss,[],h=>nomatch h
 | t::ss,u::xs,h=>by
  show cF (t::ss) ((if t=s then v else u)::_) x=_;unfold cF;by_cases q:t=x
  ·rw [if_pos q,if_pos q,q];rfl
  ·rw [if_neg q,if_neg q];exact Co (by simpa using h)
theorem zm {α:Type}{s x:Str}{v:α}:∀{ss:List Str}{xs:List α},ss.length=xs.length->cF (ss++[s]) (xs++[v]) x=(cF ss xs x).or (if s=x then some v else none)
 | [],[],_=>by show (if s=x then some v else cF [] [] x)=_;by_cases q:s=x <;> simp [cF,q]
 | [],_::_,h=>nomatch h
 | t::ss,[],h=>nomatch h
 | t::ss,u::xs,h=>by
  show (if t=x then some u else cF (ss++[s]) (xs++[v]) x)=(if t=x then some u else cF ss xs x).or _;by_cases q:t=x
  ·rw [if_pos q,if_pos q];rfl
  ·rw [if_neg q,if_neg q];exact zm (by simpa using h)
theorem Cq {α:Type}{s x:Str}{v:α}{ss:List Str}{xs:List α}(h:ss.length=xs.length):cF (bw ss xs s v).1 (bw ss xs s v).2 x=if x=s then some v else cF ss xs x:=by
 unfold bw;split
 ·rename_i hc;show cF ss _ x=_;rw [Co h];by_cases q:x=s
  ·rw [if_pos q,q];rw [<-lq h] at hc;obtain ⟨u,hu⟩:=RE.mp hc;rw [hu,T8,if_pos rfl]
  ·rw [if_neg q];cases cF ss xs x <;> simp [q]
 ·rename_i hc;show cF (ss++[s]) (xs++[v]) x=_;rw [zm h];by_cases q:x=s
  ·rw [if_pos q,q,if_pos rfl];rw [<-lq h] at hc;cases e:cF ss xs s with
   | none=>rfl
   | some u=>rw [e] at hc;exact (hc rfl).elim
  ·rw [if_neg q,if_neg (Sb q),Option.or_none]
theorem zE {α:Type}{s:Str}{v:α}{ss:List Str}{xs:List α}:(bw ss xs s v).1.contains s=true:=by
 unfold bw;split
 ·assumption
 ·simp
theorem KQ {α:Type}{s:Str}{v:α}{ss:List Str}{xs:List α}(h:ss.contains s=true):(bw ss xs s v).1=ss:=by unfold bw;rw [if_pos h]
theorem KR {α:Type}{s:Str}{v:α}{ss:List Str}{xs:List α}:ss.length<=(bw ss xs s v).1.length:=by
 unfold bw;split
 ·exact QV _
 ·simp
structure Pl (m:Nat) (s:S) (F:List Str) (ρ:Str->Nat) (n:Nat):Prop where
 ex:∃r ss xs,s.rd=.ok r/\bO r=s/\kU r=some (ss,xs)/\ss.length=xs.length/\ss.length<=n/\∀a∈F,cF ss xs a=some (dN (ρ a))/\ρ a < m
theorem nJ {m:Nat}{s:S}{F:List Str} {ρ:Str->Nat}{n i:Nat}(hs:Pl m s F ρ n){env:Ev}(h0:env[i]?=some (some s)){gk:G R}{a:Str}(hk:gk env=.ok (.d (.str a))) (ha:a∈F):g2 gu (af i) gk env=.ok (.d (dN (ρ a))):=by
 obtain ⟨r,ss,xs,h1,h2,h3,h4,h5,h6⟩:=hs.ex;refine WP.two (x:=r) (y:=.d (.str a)) (by unfold af;rw [h0];exact h1) hk ?_;unfold gu;rw [h3];show (match cF ss xs a with
  | some d=>M.ok (R.d d)
  | none=>.bad)=_
 rw [(h6 a ha).1]
noncomputable def Pt (p:S) (xs:List D):Prop:=∃r,p.rd=.ok r/\bO r=p/\DR r=some (("Part":Str),ly,xs)
theorem je {env:Ev}{i:Nat}{p:S}{xs:List D}{f:Str}{v:D}(h0:env[i]?=some (some p)) (hp:Pt p xs) (hl:(ly.zip xs).lookup f=some v):ff "Part" f (af i) env=.ok (.d v):=by
 obtain ⟨r,h1,h2,h3⟩:=hp;show (af i env >>= _)=_;unfold af;rw [h0];show (p.rd >>= _)=_;rw [h1,aS];unfold iV;rw [h3];show (if ("Part":Str)="Part" then _ else _)=_;rw [if_pos rfl];show (match (ly.zip xs).lookup f with
  | some d=>M.ok (R.d d)
  | none=>.bad)=_
 rw [hl]
theorem M6 {k:Nat}{d:D}:Pt (.d (pd w k d)) (jk w k d):=⟨_,rfl,rfl,rfl⟩
theorem c9 {env:Ev}{i:Nat}{s:S}{r:R}(h0:env[i]?=some (some s)) (h:s.rd=.ok r):af i env=.ok r:=by unfold af;rw [h0];exact h
theorem rA {env:Ev}{i:Nat}{g gk:G R}{r:R}{Q:O->Prop}{ss:List Str}{xs:List D}{d:D}{a:Str}(h0:env[i]?=some (some (.oo (.txt ss) xs))) (h:g env=.ok r) (h2:toD r=.ok d) (hk:gk env=.ok (.d (.str a))) (hl:ss.length<=1000) (k:Q (.nx (env.set i (some (.oo (.txt (bw ss xs a d).1) (bw ss xs a d).2))))):Wp (jo i gk g env) Q:=⟨_,by unfold jo;rw [h0];show (g env >>= _)=_;rw [h,aS,h2,aS,hk,aS];exact if_pos hl,k⟩
noncomputable abbrev bE (Fr:List S->M R):G O:=(au (jo 6 (af 4) (af 7))
 (au (aG (aJ (gN (aB 3 Fr) (ah (af 0) (ah (g2 aP (ff "Part" "inner" (af 1)) (gC (.int 0))) (ah (af 6) ay))))) (jR 3 gP (gC (.int 1))) (jR 5 gP (gC (.int 1))))
 (aG (bW (aJ (g2 (bu false) (af 3) (gC (.int 0)))) (aJ (g2 (bV λi j=>.bl (decide (i < j))) (af 5) (gC (.int 0))))) FL bf)))
section
variable {Fr:List S->M R}{p s:S} {ρ:Str->Nat}{j N:Nat}{x:D}{a:Str}
theorem CT {ss:List Str}{xs:List D}{F':List Str}{m q:Nat}(hl:ss.length=xs.length) (hF:∀b∈F',b≠a->cF ss xs b=some (dN (ρ b))/\ρ b < m) (hq:q < m) (hN:(bw ss xs a (dN q)).1.length<=N):
  Pl m (.ob (.txt (bw ss xs a (dN q)).1) (bw ss xs a (dN q)).2) F' (put ρ a q) N:=by
 refine ⟨_,_,_,rfl,rfl,rfl,lz hl,hN,λb hb=>?_⟩;rw [Cq hl];unfold put;by_cases e:b=a
 ·rw [if_pos e,if_pos e];exact ⟨rfl,hq⟩
 ·rw [if_neg e,if_neg e];exact hF b hb e
theorem xg (hp:Pt p (jk w (j + 1) d)) (hw:wit d=[x]) (hN:N<=900) (IH:∀(s:S) (ρ:Str->Nat),Pl w.m s (bF j x) ρ (N + 1)->Fr [.d w.d,.d (pd w j x),s]=.ok (.d (.bl (sem w j x ρ)))):
  ∀(n q:Nat),q + n=w.m->∀(wt:Int) (ss:List Str) (xs:List D) (pt:Option S),1<=wt->ss.length=xs.length->(∀v:D,(bw ss xs a v).1.length<=N + 1)->(∀b∈bF j x,b≠a->cF ss xs b=some (dN (ρ b))/\ρ b < w.m)->
   Wp (dj (aF 7) (bE Fr) ((VZ q n).map dN) [some (.d w.d),some p,some s,some (.d (.int wt)),some (.d (.str a)),some (.d (.int ((n:Int) - wt))),some (.oo (.txt ss) xs),pt])
    (λo=>∃(wt':Int) (e5 e6 e7:Option S),o=.nx [some (.d w.d),some p,some s,some (.d (.int wt')),some (.d (.str a)),e5,e6,e7]/\(wt'=0↔wt<=((VZ q n).filter λt=>sem w j x (put ρ a t)).length))
 | 0,q,hq,wt,ss,xs,pt,h1,hl,hn,hF=>⟨_,rfl,wt,_,_,_,rfl,by simp;omega⟩
 | n + 1,q,hq,wt,ss,xs,pt,h1,hl,hn,hF=>by
  have hT:∀l:List Nat,(l.filter λt=>sem w j x (put ρ a t)).length<=l.length:=λl=>Uv _ _;have hT:=hT (VZ (q + 1) n);rw [List.length_range'] at hT;rw [Zc,Ri,WX];unfold dj;have hcall:gN (aB 3 Fr) (ah (af 0) (ah (g2 aP (ff "Part" "inner" (af 1)) (gC (.int 0))) (ah (af 6) ay))) [some (.d w.d),some p,some s,some (.d (.int wt)),some (.d (.str a)),some (.d (.int (((n + 1:Nat):Int) - wt))),some (.oo (.txt (bw ss xs a (dN q)).1) (bw ss xs a (dN q)).2),some (.d (dN q))]=.ok (.d (.bl (sem w j x (put ρ a q)))):=by refine c3 (x:=.d w.d) (y:=.d (pd w j x)) (w:=.o .own (.txt (bw ss xs a (dN q)).1) (bw ss xs a (dN q)).2) (z:=.d (.bl (sem w j x (put ρ a q)))) rfl (WP.two (x:=.d (.lst [pd w j x])) (y:=.d (.int 0)) (je rfl hp (by rw [show jk w (j + 1) d=[d,.lst ((wit d).map (pd w j)),.non,.lst ((bF (j + 1) d).map .str),.bl (pq (j + 1) d),.ob (.mem (mu w d).1 (mu w d).2) []] from rfl,hw];rfl)) rfl rfl) rfl (IH _ _ (CT hl hF (by omega) (hn _)))
  have hstep:∀(P:O->Prop),Wp (au (aG (aJ (gN (aB 3 Fr) (ah (af 0) (ah (g2 aP (ff "Part" "inner" (af 1)) (gC (.int 0))) (ah (af 6) ay))))) (jR 3 gP (gC (.int 1))) (jR 5 gP (gC (.int 1))))
 (aG (bW (aJ (g2 (bu false) (af 3) (gC (.int 0)))) (aJ (g2 (bV λi j=>.bl (decide (i < j))) (af 5) (gC (.int 0))))) FL bf) [some (.d w.d),some p,some s,some (.d (.int wt)),some (.d (.str a)),some (.d (.int (((n + 1:Nat):Int) - wt))),some (.oo (.txt (bw ss xs a (dN q)).1) (bw ss xs a (dN q)).2),some (.d (dN q))]) P->Wp (bE Fr [some (.d w.d),some p,some s,some (.d (.int wt)),some (.d (.str a)),some (.d (.int (((n + 1:Nat):Int) - wt))),some (.oo (.txt ss) xs),some (.d (dN q))]) P:=λP h=>bx (rA (d:=dN q) (a:=a) rfl rfl rfl rfl (by have:=hn (dN q);have:=KR (s:=a) (v:=dN q) (ss:=ss) (xs:=xs);omega) h)
  have hn':∀v:D,(bw (bw ss xs a (dN q)).1 (bw ss xs a (dN q)).2 a v).1.length<=N + 1:=λv=>by rw [KQ zE];exact hn _
  have hF':∀b∈bF j x,b≠a->cF (bw ss xs a (dN q)).1 (bw ss xs a (dN q)).2 b=some (dN (ρ b))/\ρ b < w.m:=λb hb e=>by rw [Cq hl,if_neg e];exact hF b hb e
  show Wp (bE Fr [some (.d w.d),some p,some s,some (.d (.int wt)),some (.d (.str a)),some (.d (.int (((n + 1:Nat):Int) - wt))),some (.oo (.txt ss) xs),some (.d (dN q))] >>= _) _;refine Wp.bind (hstep _ ?_);generalize hA:bw ss xs a (dN q)=A' at *;obtain ⟨ss',xs'⟩:=A';have hl':ss'.length=xs'.length:=by have:=lz (s:=a) (v:=dN q) hl;rw [hA] at this;exact this
  cases hb:sem w j x (put ρ a q) with
  | true=>
   rw [hb] at hcall;refine bx (c5 (bZ hcall) (FU rfl rfl rfl rfl ?_));have ht:bW (aJ (g2 (bu false) (af 3) (gC (.int 0)))) (aJ (g2 (bV λi j=>.bl (decide (i < j))) (af 5) (gC (.int 0)))) [some (.d w.d),some p,some s,some (.d (.int (wt - 1))),some (.d (.str a)),some (.d (.int (((n + 1:Nat):Int) - wt))),some (.oo (.txt ss') xs'),some (.d (dN q))]=.ok ((wt - 1 == 0) || decide ((((n + 1:Nat):Int) - wt) < 0)):=g9 (bZ (eq_int false _ _)) λ_=>rfl;refine gR ht (λc=>?_) λc=>?_
   ·refine ⟨_,rfl,?_⟩;refine ⟨_,rfl,wt - 1,_,_,_,rfl,?_⟩;simp only [if_true,Rm];rw [S9,beq_iff_eq,decide_eq_true_iff] at c;omega
   ·refine ⟨_,rfl,?_⟩;rw [VG,beq_eq_false_iff_ne,decide_eq_false_iff_not] at c;have e:(((n + 1:Nat):Int) - wt)=(n:Int) - (wt - 1):=by omega
    rw [e];refine (xg hp hw hN IH n (q + 1) (by omega) (wt - 1) ss' xs' (some (.d (dN q))) (by omega) hl' hn' hF').mono ?_;rintro o ⟨wt',e5,e6,e7,rfl,h⟩;refine ⟨wt',e5,e6,e7,rfl,?_⟩;simp only [if_true,Rm];rw [h];omega
  | false=>
   rw [hb] at hcall;refine bx (wY (bZ hcall) (FU rfl rfl rfl rfl ?_));have ht:bW (aJ (g2 (bu false) (af 3) (gC (.int 0)))) (aJ (g2 (bV λi j=>.bl (decide (i < j))) (af 5) (gC (.int 0)))) [some (.d w.d),some p,some s,some (.d (.int wt)),some (.d (.str a)),some (.d (.int (((n + 1:Nat):Int) - wt - 1))),some (.oo (.txt ss') xs'),some (.d (dN q))]=.ok ((wt == 0) || decide ((((n + 1:Nat):Int) - wt - 1) < 0)):=g9 (bZ (eq_int false _ _)) λ_=>rfl;refine gR ht (λc=>?_) λc=>?_
   ·refine ⟨_,rfl,?_⟩;refine ⟨_,rfl,wt,_,_,_,rfl,?_⟩;simp only [RI,if_false];rw [S9,beq_iff_eq,decide_eq_true_iff] at c;omega
   ·refine ⟨_,rfl,?_⟩;rw [VG,beq_eq_false_iff_ne,decide_eq_false_iff_not] at c;have e:(((n + 1:Nat):Int) - wt - 1)=(n:Int) - wt:=by omega
    show Wp (dj (aF 7) (bE Fr) ((VZ (q + 1) n).map dN) [some (.d w.d),some p,some s,some (.d (.int wt)),some (.d (.str a)),some (.d (.int (((n + 1:Nat):Int) - wt - 1))),some (.oo (.txt ss') xs'),some (.d (dN q))]) _;rw [e];refine (xg hp hw hN IH n (q + 1) (by omega) wt ss' xs' (some (.d (dN q))) h1 hl' hn' hF').mono ?_;rintro o ⟨wt',e5,e6,e7,rfl,h⟩;refine ⟨wt',e5,e6,e7,rfl,?_⟩;simp only [RI,if_false];exact h
end
variable {A B L:List Str}{k:Nat}{d:D}{w:Wd}
section
variable {Fr:List S->M R}{p s:S} {ρ:Str->Nat}{j N:Nat}{x:D}{a:Str}
theorem pM (h:Sy A B L (j + 1) d) (hp:Pt p (jk w (j + 1) d)) (ha:dO d=[a]) (hb:(bnd d).isEmpty=false) (hw:wit d=[x]) (hm:w.m<=8) (hN:N<=900) (hs:Pl w.m s (bF (j + 1) d) ρ N)
  (IH:∀(s:S) (ρ:Str->Nat),Pl w.m s (bF j x) ρ (N + 1)->Fr [.d w.d,.d (pd w j x),s]=.ok (.d (.bl (sem w j x ρ)))) (i:Int) (hi:1<=i):
  jv Fr [.d w.d,p,s,.d (.int i)]=.ok (.d (.bl (decide (i<=(cnt w.m λq=>sem w j x (put ρ a q):Nat))))):=by
 obtain ⟨r,ss,xs,h1,h2,h3,h4,h5,h6⟩:=hs.ex;refine cS (bL (r:=.d (.str a)) (WP.two (x:=cg (.l .fresh [.str a])) (y:=.d (.int 0)) (c1 (x:=.d d) (z:=.l .fresh [.str a]) (je rfl hp rfl) ?_) rfl rfl) rfl ?_)
 ·have:=jb h;rw [ha] at this;exact this
 refine bL (r:=.d (.int ((w.m:Int) - i))) (WP.two (x:=.d (.int w.m)) (y:=.d (.int i)) (WP.two (x:=.d w.d) (y:=.d (.int 0)) rfl rfl rfl) rfl rfl) rfl ?_;refine bL (r:=.o .fresh (.txt ss) xs) (x:=.oo (.txt ss) xs) (n1 (x:=r) (c9 rfl h1) ?_) rfl ?_
 ·show (match kU r with
   | some z=>M.ok (R.o .fresh (.txt z.1) z.2)
   | none=>.bad)=_
  rw [h3]
 refine g_ (ds:=(VZ 0 w.m).map dN) ?_ ?_
 ·rw [<-VC];exact A5 (jg (WP.two (x:=.d w.d) (y:=.d (.int 0)) rfl rfl rfl)) (by omega)
 refine (xg (ρ:=ρ) (a:=a) hp hw hN IH w.m 0 (by omega) i ss xs none hi h4 (λv=>?_) λb hb' e=>h6 b (nq hb ha (by rw [hw];exact QK.mpr rfl) hb' e)).mono ?_
 ·unfold bw;split
  ·show ss.length<=_;omega
  ·show (ss++[a]).length<=_;rw [QU];show ss.length + 1<=_;omega
 rintro o ⟨wt',e5,e6,e7,rfl,hz⟩;refine bJ (WP.two (x:=.d (.int wt')) (y:=.d (.int 0)) rfl rfl (eq_int false _ _)) rfl ?_;show O.rt (R.d (.bl (wt' == 0)))=_;congr 3;rw [Tc,beq_iff_eq,decide_eq_true_iff,hz];unfold cnt;rw [VC]
theorem E9 {ys:List D}(t:Bool) (hn:ys.length<=100) (IH:∀x∈ys,Fr [.d w.d,.d (pd w j x),s]=.ok (.d (.bl (sem w j x ρ)))) (hs:∃r,s.rd=.ok r/\bO r=s):
  gn Fr [.d w.d,.d (.lst (ys.map (pd w j))),s,.d (.bl t)]=.ok (.d (.bl (ys.any λx=>sem w j x ρ == t))):=by
 obtain ⟨r,h1,h2⟩:=hs;refine cS (g_ (ds:=ys.map (pd w j)) rfl ?_);have key:∀(e1:Option S) (zs:List D),(∀x∈zs,x∈ys)->∀x:Option S,Wp (dj (aF 4) (aG (aJ (g2 (bu false) (gN (aB 3 Fr) (ah (af 0) (ah (af 4) (ah (af 2) ay)))) (af 3))) (aL (gC (.bl true))) bf) (zs.map (pd w j)) [some (.d w.d),e1,some s,some (.d (.bl t)),x])
   (λo=>((∃e,o=.nx e)/\(zs.any λx=>sem w j x ρ == t)=false)\/(o=.rt (.d (.bl true))/\(zs.any λx=>sem w j x ρ == t)=true)):=by
  intro e1 zs
  induction zs with
  | nil=>intro _ x;exact ⟨_,rfl,.inl ⟨⟨_,rfl⟩,rfl⟩⟩
  | cons z zs ih=>
   intro hz x;have hc:gN (aB 3 Fr) (ah (af 0) (ah (af 4) (ah (af 2) ay))) [some (.d w.d),e1,some s,some (.d (.bl t)),some (.d (pd w j z))]=.ok (.d (.bl (sem w j z ρ))):=c3 (x:=.d w.d) (y:=.d (pd w j z)) (w:=r) (z:=.d (.bl (sem w j z ρ))) rfl rfl (c9 rfl h1) (by rw [h2];exact IH z (hz z QT));have ht:aJ (g2 (bu false) (gN (aB 3 Fr) (ah (af 0) (ah (af 4) (ah (af 2) ay)))) (af 3)) [some (.d w.d),e1,some s,some (.d (.bl t)),some (.d (pd w j z))]=.ok (sem w j z ρ == t):=bZ (WP.two (x:=.d (.bl (sem w j z ρ))) (y:=.d (.bl t)) hc rfl rfl);rw [Ri,Sx];unfold dj;show Wp (aG _ _ _ [some (.d w.d),e1,some s,some (.d (.bl t)),some (.d (pd w j z))] >>= _) _;cases q:sem w j z ρ == t with
   | true=>
    rw [q] at ht;rw [jA ht];exact ⟨_,rfl,.inr ⟨rfl,rfl⟩⟩
   | false=>
    rw [q] at ht;rw [iI ht];exact ih (λx hx=>hz x (QO _ hx)) _
 refine (key _ ys (λ_ h=>h) none).mono ?_;rintro o (⟨⟨e,rfl⟩,h⟩ | ⟨rfl,h⟩)
 ·rw [h];exact bJ rfl rfl rfl
 ·show O.rt _=_;rw [h]
theorem n_ (f:D->Bool):∀l:List D,(!(l.any λx=>f x == false))=l.all f
 | []=>rfl
 | x::l=>by rw [Sx,WC,<-n_ f l];cases f x <;> rfl
theorem oh (f:D->Bool):∀l:List D,(l.any λx=>f x == true)=l.any f
 | []=>rfl
 | x::l=>by rw [Sx,Sx,<-oh f l];cases f x <;> rfl
theorem rC {g:G R}{env:Ev}{b:Bool}(h:g env=.ok (.d (.bl b))):bG g env=.ok (.d (.bl (!b))):=by unfold bG;rw [h];rfl
theorem zQ (nA:∀n∈A,n∈w.ms.map RD) (nB:∀n∈B,n∈w.ar.map RD) (m1:1<=w.m) (hm:w.m<=8) (h:Sy A B L (j + 1) d) (hp:Pt p (jk w (j + 1) d)) (hN:N<=900) (hs:Pl w.m s (bF (j + 1) d) ρ N)
  (IH:∀x∈wit d,∀(s:S) (ρ:Str->Nat),Pl w.m s (bF j x) ρ (N + 1)->Fr [.d w.d,.d (pd w j x),s]=.ok (.d (.bl (sem w j x ρ)))):
  iu Fr [.d w.d,p,s]=.ok (.d (.bl (sem w (j + 1) d ρ))):=by
 have hp2:=hp;obtain ⟨rp,p1,p2,p3⟩:=hp2;obtain ⟨rs,ss,xs,h1,h2,h3,h4,h5,h6⟩:=hs.ex;have sub:(bnd d).isEmpty=true->∀x∈wit d,Pl w.m s (bF j x) ρ (N + 1):=λhb x hx=>⟨rs,ss,xs,h1,h2,h3,h4,by omega,λa ha=>h6 a (qN hb hx ha)⟩;refine cS (bL (r:=.d d) (je rfl hp rfl) rfl (bL (r:=.d (.str (wd d))) (WP.two (x:=.d d) (y:=.d (.int 0)) rfl rfl (oO h)) rfl ?_));cases h with
 | mark i1 i2=>exact bx (c5 rfl (bJ (c3 (x:=.d w.d) (y:=.d (.str _)) (w:=.d (dN _)) (z:=.d (.bl _)) rfl rfl (nJ hs rfl rfl (d7 rfl (QK.mpr rfl))) (Gi w (nA _ i1) _)) rfl rfl))
 | arrow i1 i2 i3=>exact aE rfl (bx (c5 rfl (bJ (c4 (x:=.d w.d) (y:=.d (.str _)) (w:=.d (dN _)) (v:=.d (dN _)) (z:=.d (.bl _)) rfl rfl (nJ hs rfl rfl (d7 rfl QT)) (nJ hs rfl rfl (d7 rfl (QO _ (QK.mpr rfl)))) (Gk w (nB _ i1) _ _)) rfl rfl)))
 | same i1 i2=>
  rename_i a b;refine aE rfl (aE rfl (bx (c5 rfl (bJ (WP.two (x:=.d (dN (ρ a))) (y:=.d (dN (ρ b))) (nJ hs rfl rfl (d7 rfl QT)) (nJ hs rfl rfl (d7 rfl (QO _ (QK.mpr rfl)))) (eq_int false _ _)) rfl ?_))));show O.rt (R.d (.bl ((ρ a:Int) == (ρ b:Int))))=O.rt (R.d (.bl (ρ a == ρ b)));congr 3;rw [Tc,beq_iff_eq,beq_iff_eq];omega
 | not i1=>
  rename_i ys;refine aE rfl (aE rfl (aE rfl (aE rfl (bx (c5 rfl (bJ (rC (b:=sem w j (.tup ys) ρ) (c3 (x:=.d w.d) (y:=.d (pd w j (.tup ys))) (w:=rs) (z:=.d (.bl (sem w j (.tup ys) ρ))) rfl (WP.two (x:=.d (.lst [pd w j (.tup ys)])) (y:=.d (.int 0)) (je rfl hp rfl) rfl rfl) (c9 rfl h1) (by rw [h2];exact IH _ (QK.mpr rfl) s ρ (sub rfl _ (QK.mpr rfl))))) rfl rfl))))))
 | and i1 i2=>
  rename_i ys;refine aE rfl (aE rfl (aE rfl (aE rfl (aE rfl (bx (c5 rfl (bJ (rC (b:=ys.any λx=>sem w j x ρ == false) (c4 (x:=.d w.d) (y:=.d (.lst (ys.map (pd w j)))) (w:=rs) (v:=.d (.bl false)) (z:=.d (.bl (ys.any λx=>sem w j x ρ == false))) rfl (je rfl hp rfl) (c9 rfl h1) rfl (by rw [h2];exact E9 false i2 (λx hx=>IH x hx s ρ (sub rfl x hx)) ⟨rs,h1,h2⟩))) rfl ?_)))))));rw [n_];rfl
 | or i1 i2=>
  rename_i ys;refine aE rfl (aE rfl (aE rfl (aE rfl (aE rfl (aE rfl (bx (c5 rfl (bJ (c4 (x:=.d w.d) (y:=.d (.lst (ys.map (pd w j)))) (w:=rs) (v:=.d (.bl true)) (z:=.d (.bl (ys.any λx=>sem w j x ρ == true))) rfl (je rfl hp rfl) (c9 rfl h1) rfl (by rw [h2];exact E9 true i2 (λx hx=>IH x hx s ρ (sub rfl x hx)) ⟨rs,h1,h2⟩)) rfl ?_))))))));rw [oh];rfl
 | some i1 i2=>
  refine aE rfl (aE rfl (aE rfl (aE rfl (aE rfl (aE rfl (aE rfl (bx (c5 rfl (bJ (c4 (x:=.d w.d) (y:=rp) (w:=rs) (v:=.d (.int 1)) (z:=.d (.bl _)) rfl (c9 rfl p1) (c9 rfl h1) rfl (by rw [p2,h2];exact pM (.some i1 i2) hp rfl rfl rfl hm hN hs (IH _ (QK.mpr rfl)) 1 (by omega))) rfl ?_)))))))));show O.rt (R.d (.bl (decide ((1:Int)<=(cnt w.m _:Nat)))))=O.rt (R.d (.bl (decide (1<=cnt w.m _))));congr 3;rw [decide_eq_decide];omega
 | every i1 i2=>
  refine aE rfl (aE rfl (aE rfl (aE rfl (aE rfl (aE rfl (aE rfl (aE rfl (bx (c5 rfl (bJ (c4 (x:=.d w.d) (y:=rp) (w:=rs) (v:=.d (.int w.m)) (z:=.d (.bl _)) rfl (c9 rfl p1) (c9 rfl h1) rfl (by rw [p2,h2];exact pM (.every i1 i2) hp rfl rfl rfl hm hN hs (IH _ (QK.mpr rfl)) w.m (by omega))) rfl ?_))))))))));show O.rt (R.d (.bl (decide ((w.m:Int)<=(cnt w.m _:Nat)))))=O.rt (R.d (.bl (decide (w.m<=cnt w.m _))));congr 3;rw [decide_eq_decide];omega
 | least i0 i1 i2=>
  exact aE rfl (aE rfl (aE rfl (aE rfl (aE rfl (aE rfl (aE rfl (aE rfl (aE rfl (bJ (c4 (x:=.d w.d) (y:=rp) (w:=rs) (v:=.d (.int _)) (z:=.d (.bl _)) rfl (c9 rfl p1) (c9 rfl h1) rfl (by rw [p2,h2];exact pM (.least i0 i1 i2) hp rfl rfl rfl hm hN hs (IH _ (QK.mpr rfl)) _ i0)) rfl rfl)))))))))
end
end K16
namespace K16
open PySem PySem.Spec PyProof.Rows DL K01 WP
open K12 (Sy wit dO bnd own wd bF kB d8 b9 cG gE fM dw kZ jz qL i7 jI jb qo bZ g9 bK tH yH vt rZ Li Lh)
variable {A B L:List Str}{k:Nat}{d:D}{w:Wd}
theorem G8 {i j:Nat}{cls fl:Str}{gl ge:G R}{env:Ev}{r rp:R}{xs zs:List D}{dom:List (List Int)}{f:List Int->Bool}{is:List Int}{b:Bool}(h1:gl env=.ok r) (h2:fS r=.ok xs) (h3:af i (env.set j (some (.d (.tup xs))))=.ok rp) (h4:iV cls fl rp=.ok (.d (.ob (.mem dom f) zs))) (h5:gg xs=some is)
  (h6:ge (env.set j (some (.d (.tup xs))))=.ok (.d (.bl b))) (h7:dom.contains is=true) (h8:j < env.length) (h9:b=f is):vd i j cls fl gl ge env=.ok (.rt (.d (.bl b))):=by unfold vd;rw [h1,aS,h2,aS,h3,aS,h4,aS,h5,h6];exact if_pos ⟨⟨h7,h8⟩,h9⟩
theorem ints_map (f:Str->Nat):∀l:List Str,gg (l.map λa=>dN (f a))=some (l.map λa=>(f a:Int))
 | []=>rfl
 | a::l=>by show (gg (l.map λa=>dN (f a))).map ((f a:Int)::·)=_;rw [ints_map f l];rfl
theorem IK (nA:∀n∈A,n∈w.ms.map RD) (nB:∀n∈B,n∈w.ar.map RD) (m1:1<=w.m) (hm:w.m<=8):∀(n k:Nat){d:D},Sy A B L k d->k<=n->k<=60->∀(p s:S) (ρ:Str->Nat) (N:Nat),N + k<=900->Pt p (jk w k d)->Pl w.m s (bF k d) ρ N->dQ n [.d w.d,p,s]=.ok (.d (.bl (sem w k d ρ)))
 | 0,k,d,h,hk,_=>by obtain ⟨_,e⟩:=b9 h;omega
 | n + 1,k,d,h,hk,OH=>by
  obtain ⟨j,rfl⟩:=b9 h;intro p s ρ N hN hp hs;have hp2:=hp;obtain ⟨rp,p1,p2,p3⟩:=hp2;obtain ⟨rs,ss,xs,h1,h2,h3,h4,h5,h6⟩:=hs.ex;have hr:iu (dQ n) [.d w.d,p,s]=.ok (.d (.bl (sem w (j + 1) d ρ))):=zQ nA nB m1 hm h hp (by omega) hs λx hx s' ρ' hs'=>IK nA nB m1 hm n j (cG h x hx) (by omega) (by omega) _ s' ρ' (N + 1) (by omega) M6 hs';have hcall:∀e:Option S,gN (aB 3 (K16.iu (dQ n))) (ah (af 0) (ah (af 1) (ah (af 2) ay))) [some (.d w.d),some p,some s,e]=.ok (.d (.bl (sem w (j + 1) d ρ))):=λe=>c3 (x:=.d w.d) (y:=rp) (w:=rs) (z:=.d (.bl (sem w (j + 1) d ρ))) rfl (c9 rfl p1) (c9 rfl h1) (by rw [p2,h2];exact hr);have hk0:aJ (ff "Part" "kept" (af 1)) [some (.d w.d),some p,some s,none]=.ok (pq (j + 1) d):=bZ (je rfl hp rfl);have hk1:bH (aJ (ff "Part" "kept" (af 1))) [some (.d w.d),some p,some s,none]=.ok (!pq (j + 1) d):=by show (aJ (ff "Part" "kept" (af 1)) _ >>= _)=_;rw [hk0];rfl
  show fin (kL (dQ n) [some (.d w.d),some p,some s,none])=_;cases hq:pq (j + 1) d with
  | false=>
   rw [hq] at hk1;exact cS (bx (c5 hk1 (bJ (hcall none) rfl rfl)))
  | true=>
   rw [hq] at hk1;refine cS (aE hk1 ⟨_,G8 (r:=.l .fresh ((bF (j + 1) d).map λa=>dN (ρ a))) (rp:=rp) (zs:=[]) (dom:=(mu w d).1) (f:=(mu w d).2) (is:=(bF (j + 1) d).map λa=>(ρ a:Int)) (b:=sem w (j + 1) d ρ) ?_ rfl (c9 rfl p1) ?_ (ints_map ρ _) (hcall _) ?_ (QS rfl) ?_,rfl⟩)
   ·have hl:(bF (j + 1) d).length<=3:=by unfold pq at hq;rw [Ra,decide_eq_true_iff] at hq;exact hq.2
    refine sN (α:=Str) (xs:=bF (j + 1) d) (h:=D.str) (λa=>dN (ρ a)) ?_ (by omega) λa ha=>⟨_,nJ (i:=1) hs rfl rfl ha,rfl⟩;show (ff _ _ _ _ >>= _)=_;rw [je (v:=.lst ((bF (j + 1) d).map .str)) rfl hp rfl];rfl
   ·unfold iV;rw [p3];rfl
   ·have hl:(bF (j + 1) d).length<=3:=by unfold pq at hq;rw [Ra,decide_eq_true_iff] at hq;exact hq.2
    rw [Uw];unfold mu;rw [qO h OH,if_pos hl];exact xZ λa ha=>(h6 a ha).2
   ·show _=sem w 60 d (asg (bF 60 d) _);rw [qO h OH,jZ h OH];exact jY h λx hx=>(yR hx).symm
theorem Mw (w:Wd):Lx w.d=w:=by
 obtain ⟨m,ms,ar⟩:=w;show Wd.mk (m:Int).toNat ((ms.map jW).map Gh) ((ar.map nR).map Gg)=_;have e1:∀r:Str×List Nat,Gh (jW r)=r:=λr=>by show (r.1,(r.2.map dN).map K55.DA)=r;rw [R3,show (K55.DA ∘ dN)=id from rfl,V4]
 have e2:∀r:Str×List (Nat×Nat),Gg (nR r)=r:=λr=>by show (r.1,(r.2.map dP).map K55.Lw)=r;rw [R3,show (K55.Lw ∘ dP)=id from funext λp=>rfl,V4]
 rw [R3,R3,show (Gh ∘ jW)=id from funext e1,show (Gg ∘ nR)=id from funext e2,V4,V4];rfl
theorem LK {r:R}{z:List Str×List D}(h:kU r=some z):FI false r (.d .non)=.ok (.d (.bl false)):=by
 unfold kU at h;split at h
 ·rfl
 ·rfl
 ·rfl
 ·cases h
noncomputable abbrev hR:G O:=(au (aO 3 (gN (aB 1 K16.iD) (ah (af 0) ay)))
 (au (dW (kG (gN (aB 1 K12.jc) (ah (af 1) ay))) (aF 4) (aG (bH (aJ (gN (aB 2 K12.iC) (ah (af 4) (ah (af 3) ay))))) oz bf))
 (au (aO 5 (ze 2 (λenv=>K16.gy ((K16.Ex 0) env) 60) (ah (af 1) (ah (b7 aK) ay))))
 (au (dW (kG (ff "Part" "free" (af 5))) (aF 6) (aG (aJ (g2 (sQ true) (af 6) (af 2))) oz bf))
 (aL (gN (aB 3 (K16.dQ 60)) (ah (af 0) (ah (af 5) (ah (af 2) ay)))))))))
theorem II (hL:∀x∈L,isLet x=true) (m1:1<=w.m) (hm:w.m<=8) (hms:w.ms.length<=100) (har:w.ar.length<=100) (h:Sy (w.ms.map RD) (w.ar.map RD) L k d) (OH:k<=60) (hN:(bK k d).length < 2000){s sl:S} {ρ:Str->Nat}{rs:R}{ss:List Str}{xs:List D}(h1:sl.rd=.ok rs) (h2:bO rs=s) (h3:kU rs=some (ss,xs)) (h6:∀a∈bF k d,cF ss xs a=some (dN (ρ a))/\ρ a < w.m) (hs:Pl w.m s (bF k d) ρ 300):
  Wp (hR [some (.d w.d),some (.d d),some sl,none,none,none,none]) (·=.rt (.d (.bl (sem w k d ρ)))):=by
 refine bL (r:=.d (dw (w.ms.map RD) (w.ar.map RD))) (c1 (x:=.d w.d) (z:=.d (dw (w.ms.map RD) (w.ar.map RD))) rfl (pO w hms har)) rfl ?_;refine g_ (ds:=bK k d) ?_ ?_
 ·show (gN _ _ _ >>= _)=_;rw [c1 (x:=.d d) (z:=.l .fresh (bK k d)) rfl (yH h hN)];rfl
 refine sf (λ_ env=>∃x:Option S,env=[some (.d w.d),some (.d d),some sl,some (.d (dw (w.ms.map RD) (w.ar.map RD))),x,none,none]) _ ⟨none,rfl⟩ ?_ ?_
 ·rintro i hi _ ⟨x,rfl⟩;refine ⟨_,rfl,?_⟩;have hy:=tH h _ (Ti hi);refine wY (?_:bH _ _=.ok (!true)) (ig ⟨_,rfl,_,rfl⟩);show (aJ _ _ >>= _)=_;rw [bZ (b:=true) (c2 (x:=.d (bK k d)[i]) (y:=.d (dw (w.ms.map RD) (w.ar.map RD))) (z:=.d (.bl true)) rfl rfl (by rw [<-rZ hy];exact vt hy _ _))];rfl
 rintro _ ⟨x,rfl⟩;refine bL (r:=.o .fresh (.ins "Part" ly) (jk w k d)) (x:=.oo (.ins "Part" ly) (jk w k d)) (FY (rs:=[.d d,.d (.tup [])]) rfl rfl ?_) rfl ?_
 ·show gy (mu (Lx w.d)) 60 [.d d,.d (.tup [])]=_;rw [Mw];exact Bk hL hm 60 h OH OH
 have pt0:Pt (.oo (.ins "Part" ly) (jk w k d)) (jk w k d)\/True:=.inr trivial;refine g_ (ds:=(bF k d).map .str) ?_ ?_
 ·obtain ⟨j,rfl⟩:=b9 h;rfl
 refine sf (λ_ env=>∃y:Option S,env=[some (.d w.d),some (.d d),some sl,some (.d (dw (w.ms.map RD) (w.ar.map RD))),x,some (.oo (.ins "Part" ly) (jk w k d)),y]) _ ⟨none,rfl⟩ ?_ ?_
 ·rintro i hi _ ⟨y,rfl⟩;refine ⟨_,rfl,?_⟩;have hi':i < (bF k d).length:=by simpa using hi
  have ha:=Ti hi';rw [Zh];refine wY (bZ (WP.two (x:=.d (.str (bF k d)[i])) (y:=rs) rfl (c9 rfl h1) ?_)) (ig ⟨_,rfl,_,rfl⟩);unfold sQ;rw [h3];show M.ok (R.d (.bl (!(cF ss xs (bF k d)[i]).isSome)))=_;rw [(h6 _ ha).1];rfl
 rintro _ ⟨y,rfl⟩;exact bJ (c3 (x:=.d w.d) (y:=.o .own (.ins "Part" ly) (jk w k d)) (w:=rs) (z:=.d (.bl (sem w k d ρ))) rfl rfl (c9 rfl h1) (by rw [h2];exact IK (λ_ h=>h) (λ_ h=>h) m1 hm 60 k h OH OH _ s ρ 300 (by omega) ⟨_,rfl,rfl,rfl⟩ hs)) rfl rfl
theorem n5 (hL:∀x∈L,isLet x=true) (m1:1<=w.m) (hm:w.m<=8) (hms:w.ms.length<=100) (har:w.ar.length<=100) (h:Sy (w.ms.map RD) (w.ar.map RD) L k d) (OH:k<=60) (hN:(bK k d).length < 2000){s:S} {ρ:Str->Nat}(hs:Pl w.m s (bF k d) ρ 300):
  eV [.d w.d,.d d,s]=.ok (.d (.bl (sem w k d ρ))):=by obtain ⟨rs,ss,xs,h1,h2,h3,h4,h5,h6⟩:=hs.ex;exact cS (aE (bZ (WP.two (x:=rs) (y:=.d .non) (c9 rfl h1) rfl (LK h3))) (II hL m1 hm hms har h OH hN h1 h2 h3 h6 hs))
theorem DI (hL:∀x∈L,isLet x=true) (m1:1<=w.m) (hm:w.m<=8) (hms:w.ms.length<=100) (har:w.ar.length<=100) (h:Sy (w.ms.map RD) (w.ar.map RD) L k d) (OH:k<=60) (hN:(bK k d).length < 2000) (h0:bF k d=[]) (ρ:Str->Nat):
  eV [.d w.d,.d d,.d .non]=.ok (.d (.bl (sem w k d ρ))):=cS (bx (c5 rfl ⟨_,rfl,II (sl:=.oo (.txt []) []) (rs:=.o .own (.txt []) []) hL m1 hm hms har h OH hN rfl rfl rfl (by rw [h0];exact λ_ z=>nomatch z) ⟨_,[],[],rfl,rfl,rfl,rfl,Rj _,by rw [h0];exact λ_ z=>nomatch z⟩⟩))
end K16
namespace DL
open PySem PySem.Spec PyProof.Rows L2 DX
section
variable {X:Cx}{c:C}{a b:Rz}{ga gb:G R}{pos:Pos}
noncomputable def Av:R->R->M R:=fI sX λi j=>.int (i * 2 ^ j.toNat)
theorem HX (ha:QD X c a ga) (hb:QD X c b gb):QD X c (.BinOp a .LShift b pos) (g2 Av ga gb):=⟨kq Kq (vO (λi j h=>zj h) λ_ _ _=>.int _) ha.h hb.h⟩
theorem DE {κ:Type} [DecidableEq κ]:∀{QC:List (κ×V)},(QC.map (·.1)).Nodup->∀p∈QC,cY QC p.1=some p.2
 | [],_,p,hp=>nomatch hp
 | q::QC,nd,p,hp=>by
  rw [Ri,S8] at nd;rcases QZ.mp hp with e | hp
  ·rw [e,ez rfl]
  ·rw [er (λz=>nd.1 (z▸List.mem_map_of_mem hp))];exact DE nd.2 p hp
theorem um {A:RA}{s:QL}{QC:List (Key×V)}{kb:List (Key×QH)}(hb:L2.KV QC kb):∀{l:List (Key×V)}{ka:List (Key×QH)},L2.KV l ka->(∀p∈l,cY QC p.1=some p.2/\∃i,p.2=.int i)->W.KeqHits A s kb ka true
 | _,_,.nil,_=>.nil
 | (k,v)::l,(k',u)::ka,.cons r rs,h=>by obtain ⟨e1,i,e2⟩:=h _ QT;obtain ⟨rfl,r2⟩:k=k'/\RelV v u:=r;have e2:v=.int i:=e2;subst e2;obtain ⟨t,rfl⟩:=r2;have hv:=hb.val k;rw [show cY QC k=some (.int i) from e1] at hv;obtain ⟨y,hy,t',rfl⟩:=iF.some_of hv;have:=aa5 hy (Yp (A:=A) (s:=s) i t i t') (um hb rs λp hp=>h p (QO _ hp));simpa using this
noncomputable def K9:R2:=λx y H Q=>∃a b QC,x=.ref a/\y=.ref b/\H a=some (.dK QC)/\H b=some (.dK QC)/\(∀p∈QC,∃i,p.2=.int i)/\Q (.bl false) H
theorem Kn (hu:X.A.units + 64 < Up):dH X (SI .NotEq) K9:=λQw s σ H x y v u Q I rx ry ⟨a,b,QC,e1,e2,ha,hb,hi,q⟩=>by
 subst e1 e2;cases rx;cases ry;obtain ⟨_,sa,ka,ra,da⟩:=u_ I.hok ha;obtain ⟨_,sb,kb,rb,db⟩:=u_ I.hok hb;have nd:(QC.map (·.1)).Nodup:=by obtain ⟨_,_,_,_,_,_,_,_,nd⟩:=da;rw [ra.keys];exact nd
 refine W.keq_ne sa sb da db (by omega) (λ_=>um rb ra λp hp=>⟨DE nd p hp,hi p hp⟩) ⟨.bl false,H,I,?_,q⟩;rw [<-ra.length,<-rb.length,beq_self_eq_true];rfl
noncomputable def wG (x y:R):M R:=match kU x,kU y with
 | some z,some z'=>(match gg z.2,gg z'.2 with
  | some is,some js=>if z.1=z'.1/\is=js then .ok (.d (.bl false)) else .bad
  | _,_=>.bad)
 | _,_=>.bad
theorem Jb:BD c K9 wG:=by
 intro He He' J H x y u v Q hp rx ry w;unfold wG at w;split at w
 ·rename_i z z' hz hz';split at w
  ·rename_i is js hi hj;split at w
   ·rename_i e;obtain ⟨a,vs,rfl,h1,h2,h3⟩:=rx.txt hp hz;obtain ⟨b,us,rfl,k1,k2,k3⟩:=ry.txt hp hz';obtain rfl:=ki h3 hi;obtain rfl:=ki k3 hj;obtain ⟨e1,rfl⟩:=e;rw [<-e1] at k1;refine ⟨a,b,_,rfl,rfl,h1,k1,λp hp=>?_,w _ J H (Ext.refl hp.sub) (.bl _)⟩;obtain ⟨i,_,hi⟩:=Rg.mp (U0 hp).2;exact ⟨i,hi.symm⟩
   ·exact w.elim
  ·exact w.elim
 ·exact w.elim
theorem HQ (hu:X.A.units + 64 < Up) (ha:QD X c a ga) (hb:QD X c b gb):QB X c (.Compare a [.NotEq] [b] pos) (aJ (g2 wG ga gb)):=⟨jj (Kn hu) Jb ha.h hb.h⟩
end
end DL
namespace K14
open PySem DL
noncomputable def mD:List Str:=["_law_cell_here"]
noncomputable def mK:G O:=(aL (cZ 1 [0] (dz (ah (gC (.int 8)) ay)) (aF 0) fT (g2 aP (gC (.str "abcdefghijklmnopqrstuvwxyz")) (g2 bz (g2 bA (af 1) (g2 cO (gC (.int 7)) (af 0))) (gC (.int 26))))))
noncomputable def gX (as:List S):M R:=fin (mK (aD mD as))
noncomputable def qu:List Str:=["_law_number","_law_tongue_here","_law_letters_here","_law_one","_law_other"]
noncomputable def qS:G O:=(au (aO 3 (g2 aP (af 2) (g2 bz (g2 cH (af 0) (gC (.int 3))) (gC (.int 8)))))
 (au (aO 4 (g2 aP (af 2) (g2 bz (g2 cH (af 0) (gC (.int 24))) (gC (.int 8)))))
 (au (aG (bQ (aJ (g2 (bu false) (g2 bz (af 0) (gC (.int 3))) (gC (.int 0)))) (aJ (g2 (bu true) (g2 aP (af 1) (gC (.int 0))) (b7 aK)))) (aL (b7 (ao (gC (.str "mark")) (ao (g2 aP (g2 aP (af 1) (gC (.int 0))) (g2 bz (g2 cH (af 0) (gC (.int 192))) (gN eS (ah (g2 aP (af 1) (gC (.int 0))) ay)))) (ao (af 3) aK))))) bf)
 (au (aG (bQ (aJ (g2 (bu false) (g2 bz (af 0) (gC (.int 3))) (gC (.int 1)))) (aJ (g2 (bu true) (g2 aP (af 1) (gC (.int 1))) (b7 aK)))) (aL (b7 (ao (gC (.str "arrow")) (ao (g2 aP (g2 aP (af 1) (gC (.int 1))) (g2 bz (g2 cH (af 0) (gC (.int 192))) (gN eS (ah (g2 aP (af 1) (gC (.int 1))) ay)))) (ao (af 3) (ao (af 4) aK)))))) bf)
 (aL (b7 (ao (gC (.str "same")) (ao (af 3) (ao (af 4) aK)))))))))
noncomputable def fE (as:List S):M R:=fin (qS (aD qu as))
noncomputable def mE:List Str:=["_law_number","_law_letters_here","_law_top","_law_saying","_law_deep_here","_law_high","_law_letter"]
noncomputable def mL:G O:=(au (pV (gJ 3 (cV (aF 3) (cV (aF 4) (cV (aF 5) h_)))) (af 2))
 (au (aO 6 (g2 aP (af 1) (g2 bz (g2 cH (af 0) (gC (.int 5))) (gC (.int 8)))))
 (au (aG (bW (aJ (g2 (bu false) (g2 bz (af 0) (gC (.int 5))) (gC (.int 0)))) (aJ (g2 (bV λi j=>.bl (decide (j < i))) (af 4) (gC (.int 2))))) (aL (b7 (ao (b7 (ao (gC (.str "not")) (ao (af 3) aK))) (ao (af 4) (ao (g2 bA (af 5) (gC (.int 1))) aK))))) bf)
 (au (aG (aJ (g2 (bu false) (g2 bz (af 0) (gC (.int 5))) (gC (.int 4)))) (aL (b7 (ao (b7 (ao (gC (.str "least")) (ao (g2 bA (gC (.int 1)) (g2 bz (g2 cH (af 0) (gC (.int 20))) (g2 aP (dJ (ao (gC (.int 9)) (ao (gC (.int 3)) aK))) (g2 bz (g2 cH (af 0) (gC (.int 200))) (gC (.int 2)))))) (ao (af 6) (ao (af 3) aK))))) (ao (g2 bA (af 4) (gC (.int 1))) (ao (g2 bA (af 5) (gC (.int 1))) aK))))) bf)
 (aL (b7 (ao (b7 (ao (g2 aP (dJ (ao (gC (.str "some")) (ao (gC (.str "every")) aK))) (g2 bz (af 0) (gC (.int 2)))) (ao (af 6) (ao (af 3) aK)))) (ao (g2 bA (af 4) (gC (.int 1))) (ao (g2 bA (af 5) (gC (.int 1))) aK)))))))))
noncomputable def f7 (as:List S):M R:=fin (mL (aD mE as))
noncomputable def oS:List Str:=["_law_cells","_law_tongue_here","_law_letters_here","_law_stack","_law_k","_law_number","_law_way","_law_rest","_law_many"]
noncomputable def o6:G O:=(au (aO 3 (dJ aK))
 (au (dW (dz (ah (gN eS (ah (af 0) ay)) ay)) (aF 4) (au (aO 5 (g2 bz (g2 cO (g2 bA (g2 bz (g2 aP (af 0) (af 4)) (g2 jP (gC (.int 2)) (gC (.int 64)))) (g2 cO (gC (.int 613)) (af 4))) (gC (.int 71993))) (gC (.int 998244353))))
 (au (aO 6 (g2 bz (af 5) (gC (.int 7))))
 (au (aO 7 (g2 cH (af 5) (gC (.int 7))))
 (aG (bW (aJ (g2 (bu false) (af 3) (dJ aK))) (bW (aJ (g2 (bV λi j=>.bl (decide (i < j))) (af 6) (gC (.int 3)))) (aJ (g2 (bV λi j=>.bl (decide (j < i))) (g2 aP (g2 aP (af 3) (iH (gC (.int 1)))) (gC (.int 2))) (gC (.int 11)))))) (dR 3 (b7 (ao (gN (aB 3 K14.fE) (ah (af 7) (ah (af 1) (ah (af 2) ay)))) (ao (gC (.int 0)) (ao (gC (.int 0)) aK))))) (aG (bQ (aJ (g2 (bu false) (af 6) (gC (.int 3)))) (aJ (g2 (bV λi j=>.bl (decide (j < i))) (gN eS (ah (af 3) ay)) (gC (.int 1))))) (au (aO 8 (g2 bA (gC (.int 2)) (g2 bz (g2 cH (af 7) (gC (.int 2))) (gC (.int 2)))))
 (aO 3 (g2 bA (k7 iW (af 3) uf (jq (iH (af 8)))) (dJ (ao (gN (aB 2 K12.fR) (ah (af 7) (ah (k7 iW (af 3) (jq (iH (af 8))) uf) ay))) aK))))) (aG (bQ (aJ (g2 (bu false) (af 6) (gC (.int 4)))) (aJ (g2 (bu false) (g2 bz (af 7) (gC (.int 4))) (gC (.int 0))))) (dR 3 (b7 (ao (b7 (ao (g2 aP (dJ (ao (gC (.str "and")) (ao (gC (.str "or")) aK))) (g2 bz (g2 cH (af 7) (gC (.int 4))) (gC (.int 2)))) (ao (b7 aK) aK))) (ao (gC (.int 0)) (ao (gC (.int 0)) aK))))) (aO 3 (g2 bA (k7 iW (af 3) uf (jq (iH (gC (.int 1))))) (dJ (ao (gN (aB 3 K14.f7) (ah (af 7) (ah (af 2) (ah (g2 aP (af 3) (iH (gC (.int 1)))) ay)))) aK)))))))))))
 (aL (g2 aP (gN (aB 2 K12.fR) (ah (gN eS (ah (af 0) ay)) (ah (af 3) ay))) (gC (.int 0))))))
noncomputable def gT (as:List S):M R:=fin (o6 (aD oS as))
noncomputable def vz:List Str:=["_law_world_here","_law_saying","_law_places","_law_many","_law_point","_law_known"]
noncomputable def nt (Fr:List S->M R):G O:=(au (aO 3 (gC (.int 0)))
 (au (dW (dz (ah (g2 aP (af 0) (gC (.int 0))) ay)) (aF 4) (au (aO 5 (gN kY (ah (af 2) ay)))
 (au (jo 5 (g2 aP (af 1) (iH (gC (.int 2)))) (af 4))
 (aG (aJ (gN (aB 3 Fr) (ah (af 0) (ah (g2 aP (af 1) (iH (gC (.int 1)))) (ah (af 5) ay))))) (aO 3 (g2 bA (af 3) (gC (.int 1)))) bf))))
 (au (aG (aJ (g2 (bu false) (g2 aP (af 1) (gC (.int 0))) (gC (.str "some")))) (aL (g2 (bV λi j=>.bl (decide (j < i))) (af 3) (gC (.int 0)))) bf)
 (au (aG (aJ (g2 (bu false) (g2 aP (af 1) (gC (.int 0))) (gC (.str "every")))) (aL (g2 (bu false) (af 3) (g2 aP (af 0) (gC (.int 0))))) bf)
 (aL (g2 (bV λi j=>.bl (decide (j<=i))) (af 3) (g2 aP (af 1) (gC (.int 1)))))))))
noncomputable def jJ (Fr:List S->M R) (as:List S):M R:=fin (nt Fr (aD vz as))
noncomputable def zY:List Str:=["_law_world_here","_law_saying","_law_places","_law_head","_law_pairs_here","_law_part"]
noncomputable def lP (Fr:List S->M R):G O:=(au (aO 3 (g2 aP (af 1) (gC (.int 0))))
 (au (aG (aJ (g2 (bu false) (af 3) (gC (.str "mark")))) (aL (g2 (gM false) (g2 gu (af 2) (g2 aP (af 1) (gC (.int 2)))) (g2 aP (cZ 2 [1] (gQ (g2 aP (af 0) (gC (.int 1)))) (gJ 2 (cV (aF 0) (cV (aF 1) h_))) (aJ (g2 (bu false) (af 0) (g2 aP (af 2) (gC (.int 1))))) (af 1)) (gC (.int 0))))) bf)
 (au (aG (aJ (g2 (bu false) (af 3) (gC (.str "arrow")))) (au (aO 4 (g2 aP (cZ 2 [1] (gQ (g2 aP (af 0) (gC (.int 2)))) (gJ 2 (cV (aF 0) (cV (aF 1) h_))) (aJ (g2 (bu false) (af 0) (g2 aP (af 2) (gC (.int 1))))) (af 1)) (gC (.int 0))))
 (aL (g2 (gM false) (b7 (ao (g2 gu (af 2) (g2 aP (af 1) (gC (.int 2)))) (ao (g2 gu (af 2) (g2 aP (af 1) (gC (.int 3)))) aK))) (af 4)))) bf)
 (au (aG (aJ (g2 (bu false) (af 3) (gC (.str "same")))) (aL (g2 (bu false) (g2 gu (af 2) (g2 aP (af 1) (gC (.int 1)))) (g2 gu (af 2) (g2 aP (af 1) (gC (.int 2)))))) bf)
 (au (aG (aJ (g2 (bu false) (af 3) (gC (.str "not")))) (aL (bG (gN (aB 3 Fr) (ah (af 0) (ah (g2 aP (af 1) (gC (.int 1))) (ah (af 2) ay)))))) bf)
 (au (aG (bW (aJ (g2 (bu false) (af 3) (gC (.str "and")))) (aJ (g2 (bu false) (af 3) (gC (.str "or"))))) (au (dW (kG (g2 aP (af 1) (gC (.int 1)))) (aF 5) (aG (aJ (g2 (bu false) (gN (aB 3 Fr) (ah (af 0) (ah (af 5) (ah (af 2) ay)))) (g2 (bu false) (af 3) (gC (.str "or"))))) (aL (g2 (bu false) (af 3) (gC (.str "or")))) bf))
 (aL (g2 (bu false) (af 3) (gC (.str "and"))))) bf)
 (aL (gN (aB 3 (K14.jJ Fr)) (ah (af 0) (ah (af 1) (ah (af 2) ay)))))))))))
noncomputable def eX:Nat->List S->M R
 | 0,_=>.bad
 | k + 1,as=>fin (lP (eX k) (aD zY as))
noncomputable def zU:List Str:=["_law_saying","_law_found","_law_parts","_law_part"]
noncomputable def lN (Fr:List S->M R):G O:=(au (aG (bW (aJ (g2 (bu false) (g2 aP (af 0) (gC (.int 0))) (gC (.str "mark")))) (aJ (g2 (bu false) (g2 aP (af 0) (gC (.int 0))) (gC (.str "arrow"))))) (aL (gN oq (ah (k7 iW (af 0) (jq (gC (.int 2))) uf) ay))) bf)
 (au (aG (aJ (g2 (bu false) (g2 aP (af 0) (gC (.int 0))) (gC (.str "same")))) (aL (gN oq (ah (k7 iW (af 0) (jq (gC (.int 1))) uf) ay))) bf)
 (au (aO 1 (dJ aK))
 (au (aO 2 (dJ (ao (g2 aP (af 0) (iH (gC (.int 1)))) aK)))
 (au (aG (bW (aJ (g2 (bu false) (g2 aP (af 0) (gC (.int 0))) (gC (.str "and")))) (aJ (g2 (bu false) (g2 aP (af 0) (gC (.int 0))) (gC (.str "or"))))) (aO 2 (gN oq (ah (g2 aP (af 0) (gC (.int 1))) ay))) bf)
 (au (sS 2 (dW (kG (af 2)) (aF 3) (aO 1 (g2 kc (af 1) (gN (aB 1 Fr) (ah (af 3) ay))))))
 (au (aG (bW (aJ (g2 (bu false) (g2 aP (af 0) (gC (.int 0))) (gC (.str "some")))) (bW (aJ (g2 (bu false) (g2 aP (af 0) (gC (.int 0))) (gC (.str "every")))) (aJ (g2 (bu false) (g2 aP (af 0) (gC (.int 0))) (gC (.str "least")))))) (aO 1 (cZ 1 [0] (gQ (af 1)) (aF 0) (aJ (g2 (bu true) (af 0) (g2 aP (af 1) (iH (gC (.int 2)))))) (af 0))) bf)
 (aL (af 1)))))))))
noncomputable def fD:Nat->List S->M R
 | 0,_=>.bad
 | k + 1,as=>fin (lN (fD k) (aD zU as))
noncomputable def qt:List Str:=["_law_script","_law_number","_law_tongue_here","_law_letters_here","_law_parts","_law_k","_law_saying"]
noncomputable def qR:G O:=(au (aO 4 (dJ aK))
 (au (dW (dz (ah (gC (.int 4)) ay)) (aF 5) (dR 4 (gN (aB 3 K14.fE) (ah (g2 bz (g2 cO (g2 bA (gN (aB 2 K01.b8) (ah (af 0) (ah (g2 bA (gC (.int 14)) (af 5)) ay))) (g2 cO (gC (.int 613)) (af 5))) (gC (.int 71993))) (gC (.int 998244353))) (ah (af 2) (ah (af 3) ay))))))
 (au (aO 6 (b7 (ao (g2 aP (dJ (ao (gC (.str "and")) (ao (gC (.str "or")) aK))) (g2 bz (af 1) (gC (.int 2)))) (ao (gN fG (ah (af 4) ay)) aK))))
 (au (dW (dz (ah (g2 bA (gC (.int 6)) (g2 bz (g2 cH (af 1) (gC (.int 2))) (gC (.int 3)))) ay)) (aF 5) (aO 6 (b7 (ao (g2 aP (dJ (ao (gC (.str "some")) (ao (gC (.str "every")) aK))) (g2 bz (g2 cH (g2 cH (af 1) (gC (.int 6))) (g2 Av (gC (.int 1)) (af 5))) (gC (.int 2)))) (ao (g2 aP (af 3) (af 5)) (ao (af 6) aK))))))
 (aL (af 6))))))
noncomputable def gz (as:List S):M R:=fin (qR (aD qt as))
noncomputable def MQ:List Str:=["_law_script","_law_number","_law_tongue_here","_law_many","_law_cells","_law_letters_here","_law_saying","_law_world_here","_law_places","_law_k","_law_due","_law_handed"]
noncomputable def JC:G O:=(au (aO 1 (g2 bz (g2 cO (gN (aB 2 K01.b8) (ah (af 0) (ah (gC (.int 0)) ay))) (gC (.int 433))) (gC (.int 100003))))
 (au (aO 2 (gN (aB 1 K01.gm) (ah (gN (aB 2 K01.b8) (ah (af 0) (ah (gC (.int 1)) ay))) ay)))
 (au (aO 3 (g2 bA (gC (.int 1)) (g2 bz (af 1) (gC (.int 4)))))
 (au (aO 4 (k7 iW (af 0) (jq (gC (.int 14))) (jq (gC (.int 62)))))
 (au (aG (aJ (g2 (bu false) (g2 bz (g2 cH (af 1) (gC (.int 4))) (gC (.int 8))) (gC (.int 3)))) (au (aO 3 (g2 bA (gC (.int 5)) (g2 bz (g2 cH (af 1) (gC (.int 32))) (gC (.int 4)))))
 (aO 4 (k7 iW (af 0) (jq (gC (.int 14))) (jq (gC (.int 26)))))) bf)
 (au (aO 5 (gN (aB 1 K14.gX) (ah (g2 bz (gN (aB 2 K01.b8) (ah (af 0) (ah (gC (.int 8)) ay))) (gC (.int 26))) ay)))
 (au (aO 6 (gN (aB 3 K14.gT) (ah (af 4) (ah (af 2) (ah (af 5) ay)))))
 (au (aG (aJ (g2 (bu false) (g2 bz (g2 cH (af 1) (gC (.int 768))) (gC (.int 8))) (gC (.int 1)))) (au (aO 3 (g2 bA (gC (.int 1)) (g2 bz (g2 cH (af 1) (gC (.int 4))) (gC (.int 2)))))
 (aO 6 (gN (aB 4 K14.gz) (ah (af 0) (ah (gN (aB 2 K01.b8) (ah (af 0) (ah (gC (.int 13)) ay))) (ah (af 2) (ah (af 5) ay))))))) bf)
 (au (aO 7 (gN (aB 4 K01.fK) (ah (af 0) (ah (gC (.int 2)) (ah (af 3) (ah (af 2) ay))))))
 (au (Az 8)
 (au (dW (dz (ah (gC (.int 8)) ay)) (aF 9) (jo 8 (g2 aP (af 5) (af 9)) (g2 bz (gN (aB 2 K01.b8) (ah (af 0) (ah (g2 bA (gC (.int 9)) (af 9)) ay))) (af 3))))
 (au (aG (aJ (g2 (bu false) (g2 bz (g2 cH (af 1) (gC (.int 256))) (gC (.int 3))) (gC (.int 1)))) (jo 8 (g2 aP (gC (.str "abcdefghijklmnopqrstuvwxyz")) (g2 bz (g2 bA (gN (aB 2 K01.b8) (ah (af 0) (ah (gC (.int 8)) ay))) (gC (.int 1))) (gC (.int 26)))) (gC (.int 0))) bf)
 (au (aO 10 (gN (aB 3 (K14.eX 60)) (ah (af 7) (ah (af 6) (ah (af 8) ay)))))
 (au (aO 11 (gN kY (ah (af 8) ay)))
 (au (aG (bW (bH (aJ (gN (aB 2 K12.c_) (ah (gN (aB 3 K16.eV) (ah (af 7) (ah (af 6) (ah (af 11) ay)))) (ah (af 10) ay))))) (aJ (g2 wG (af 11) (af 8)))) (aL (gC (.bl false))) bf)
 (au (jo 11 (g2 aP (af 5) (gC (.int 0))) (g2 bz (g2 bA (g2 gu (af 8) (g2 aP (af 5) (gC (.int 0)))) (gC (.int 1))) (af 3)))
 (au (aG (bH (aJ (gN (aB 2 K12.c_) (ah (gN (aB 3 K16.eV) (ah (af 7) (ah (af 6) (ah (af 11) ay)))) (ah (gN (aB 3 (K14.eX 60)) (ah (af 7) (ah (af 6) (ah (af 11) ay)))) ay))))) (aL (gC (.bl false))) bf)
 (au (aG (bH (aJ (gN (aB 2 K12.c_) (ah (gN (aB 3 K16.eV) (ah (af 7) (ah (b7 (ao (gC (.str "not")) (ao (af 6) aK))) (ah (af 8) ay)))) (ah (bG (af 10)) ay))))) (aL (gC (.bl false))) bf)
 (au (aG (aJ (g2 (bu false) (gN (aB 1 (K14.fD 60)) (ah (af 6) ay)) (dJ aK))) (au (aG (bH (aJ (gN (aB 2 K12.c_) (ah (gN (aB 3 K16.eV) (ah (af 7) (ah (af 6) (ah (gC .non) ay)))) (ah (af 10) ay))))) (aL (gC (.bl false))) bf)
 (aL (bB (gN (aB 2 K12.c_) (ah (gN (aB 2 (λas=>K16.eV (as++[.d .non]))) (ah (af 7) (ah (af 6) ay))) (ah (af 10) ay))) (gN (aB 2 K12.c_) (ah (gN (aB 3 K16.eV) (ah (af 7) (ah (af 6) (ah (gC .emp) ay)))) (ah (af 10) ay)))))) bf)
 (aL (gN (aB 2 K12.c_) (ah (gN (aB 3 K16.eV) (ah (af 7) (ah (af 6) (ah (af 8) ay)))) (ah (af 10) ay)))))))))))))))))))))))
noncomputable def su (as:List S):M R:=fin (JC (aD MQ as))
end K14
namespace K14
open PySem PySem.Spec PyProof.Rows L2 DL DX
structure eU (w:Ro) (K:QG) (mg:Str->Option QH):Prop where
 bool:mg "bool"=none
 dict:mg "dict"=none
 isinstance:mg "isinstance"=none
 len:mg "len"=none
 list:mg "list"=none
 max:mg "max"=none
 range:mg "range"=none
 set:mg "set"=none
 sorted:mg "sorted"=none
 tuple:mg "tuple"=none
 BINDERS:zT K mg "BINDERS" (.tup [(.str "some"),(.str "every"),(.str "least")])
 INNER_PLACES:qi K w mg "INNER_PLACES" [("not",(.int 1)),("some",(.int 2)),("every",(.int 2)),("least",(.int 3))]
 LETTER_PLACES:qi K w mg "LETTER_PLACES" [("mark",(.tup [(.int 2)])),("arrow",(.tup [(.int 2),(.int 3)])),("same",(.tup [(.int 1),(.int 2)])),("not",(.tup [])),("and",(.tup [])),("or",(.tup [])),("some",(.tup [(.int 1)])),("every",(.tup [(.int 1)])),("least",(.tup [(.int 2)]))]
 MOST_KEPT_LETTERS:zT K mg "MOST_KEPT_LETTERS" (.int 3)
 if_Part_found:mC K "Part" "found"
 if_Part_free:mC K "Part" "free"
 if_Part_inner:mC K "Part" "inner"
 if_Part_kept:mC K "Part" "kept"
 if_Part_saying:mC K "Part" "saying"
 if_Part_table:mC K "Part" "table"
section
variable {P:Q2}{w:Ro}{K:QG}{mg:Str->Option QH}{base:Sa}{f:Q4}{fd:Rp}
noncomputable abbrev r6:TR:=top 5
theorem v7 (m:eU w K mg) (e:FB K mg "tongue_of" r6):bS P w K mg base 1 1 "tongue_of" K16.iD:=
 qc K16.qV K16.qx 1 e (λnd _ cdv A outer s H E J T hr=>
 (ak (pZ (aa 0) (gw (b_ (aT 1 nd) (b_ (aT 2 nd) (b_ (aT 3 nd) fX)))))
 (az (aH (bR (aA (eK (ai (fj (jO ["name","points"] [] (dS (aa 2)) (λ_ _ _ _ _ hc=>⟨(gw (b_ (aT 0 (fh rfl)) (b_ (aT 1 (fh rfl)) fX))),dD,(aa 0)⟩))) av) m.tuple) (aA (eK (ai (fj (jO ["name","pairs"] [] (dS (aa 3)) (λ_ _ _ _ _ hc=>⟨(gw (b_ (aT 0 (fh rfl)) (b_ (aT 1 (fh rfl)) fX))),dD,(aa 0)⟩))) av) m.tuple) aV)))))))
noncomputable abbrev xR:TR:=top 6
theorem Am (m:eU w K mg) (e:FB K mg "by_name" xR):bS P w K mg base 1 2 "by_name" K16.iR:=
 qc K16.wN K16.vC 2 e (λnd _ cdv A outer s H E J T hr=>
 (ak (cX (ir (aa 0)) (gw (b_ (aT 2 nd) (b_ (aT 3 nd) fX))) (az (a_ (br hr.units (aa 2) (aa 1)) (az (aH (aa 3))) aY)))
 (az l5)))
noncomputable abbrev Df:TR:=top 7
theorem DV (m:eU w K mg) (Of:bS P w K mg base 1 2 "by_name" K16.iR) (e:FB K mg "bears" Df):bS P w K mg base 2 3 "bears" K16.mZ:=
 qc K16.B3 K16.Bp 3 e (λnd _ cdv A outer s H E J T hr=>
 (az (aH (jV hr.units (aa 2) (aZ Of hr (ai (aq (aa 0) aj) (ai (aa 1) av)))))))
noncomputable abbrev Dj:TR:=top 8
theorem DZ (m:eU w K mg) (Of:bS P w K mg base 1 2 "by_name" K16.iR) (e:FB K mg "leads" Dj):bS P w K mg base 2 4 "leads" K16.m6:=
 qc K16.B5 K16.Bq 4 e (λnd _ cdv A outer s H E J T hr=>
 (az (aH (jV hr.units (bR (aA (aa 2) (aA (aa 3) aV))) (aZ Of hr (ai (aq (aa 0) aj) (ai (aa 1) av)))))))
noncomputable abbrev pJ:TR:=top 14
theorem uR (m:eU w K mg) (e:FB K mg "letters_at" pJ):bS P w K mg base 1 1 "letters_at" K12.fL:=
 qc K12.o8 K12.oY 1 e (λnd _ cdv A outer s H E J T hr=>
 (ak (a_ (br hr.units (aq (aa 0) aj) aU) (az (aH (l6 (ai (aq (aa 0) aj) av) m.list))) aY)
 (az (aH (fj (jO ["place"] [0] (dS (xN m.LETTER_PLACES (aq (aa 0) aj))) (λ_ _ _ _ _ hc=>⟨(aT 0 (fh rfl)),dD,(aq (aa 1) (aa 0))⟩)))))))
noncomputable abbrev zK:TR:=top 15
theorem BI (m:eU w K mg) (e:FB K mg "within" zK):bS P w K mg base 1 1 "within" K12.jw:=
 qc K12.zg K12.yJ 1 e (λnd _ cdv A outer s H E J T hr=>
 (ak (aM 1 nd (aq (aa 0) aj))
 (ak (a_ (CU hr.units (aa 1) (bR (aA aU (aA aU aV)))) (az (aH (aq (aa 0) aj))) aY)
 (ak (a_ (HM m.INNER_PLACES (aa 1)) (az (aH (bR (aA (aq (aa 0) (xN m.INNER_PLACES (aa 1))) aV)))) aY)
 (az (aH (bR aV)))))))
noncomputable abbrev uC:TR:=top 16
theorem yl (m:eU w K mg) (Od:bS P w K mg base 1 1 "within" K12.jw) (e:FB K mg "parts_of" uC):bS P w K mg base 2 1 "parts_of" K12.jc:=
 qc K12.ug K12.tX 1 e (λnd _ cdv A outer s H E J T hr=>
 (ak (aM 1 nd (cQ aV))
 (ak (aM 2 nd (cQ (aA (aa 0) aV)))
 (ak (A3 2000 (HR (aa 2)) (ak (ES 3 2 nd)
 (ak (eF 1 (aa 3))
 (az (yu 2 (HW (aZ Od hr (ai (aa 3) av)) L6))))))
 (az (aH (aa 1)))))))
noncomputable abbrev rV:TR:=top 17
theorem vV (m:eU w K mg) (N4:bS P w K mg base 1 1 "letters_at" K12.fL) (e:FB K mg "free_from" rV):bS P w K mg base 2 2 "free_from" K12.jr:=
 qc K12.qT K12.qv 2 e (λnd _ cdv A outer s H E J T hr=>
 (ak (aM 2 nd (aZ N4 hr (ai (aa 0) av)))
 (ak (a_ (CU hr.units (aq (aa 0) aj) (nN m.BINDERS)) (az (aH (rK (K3 ["letter"] [2] (dS (aa 1)) (λ_ _ _ _ _ hc=>⟨(aT 0 (fh rfl)),(kr (CV hr.units (aa 0) (aa 1))),(aa 0)⟩)) m.sorted))) aY)
 (az (aH (rK (HY (ai (xM (aa 2) (aa 1)) av) m.set) m.sorted))))))
noncomputable abbrev rW:TR:=top 18
theorem vW (m:eU w K mg) (e:FB K mg "is_spoken" rW):bS P w K mg base 1 2 "is_spoken" K12.iC:=
 qc K12.qU K12.qw 2 e (λnd _ cdv A outer s H E J T hr=>
 (ak (pZ (aa 1) (gw (b_ (aT 2 nd) (b_ (aT 3 nd) fX))))
 (ak (a_ (br hr.units (aq (aa 0) aj) aU) (az (aH (jV hr.units (aq (aa 0) aj) (aa 2)))) aY)
 (ak (a_ (br hr.units (aq (aa 0) aj) aU) (az (aH (jV hr.units (aq (aa 0) aj) (aa 3)))) aY)
 (az (aH iJ))))))
noncomputable abbrev oJ:TR:=topC 19 0
theorem Le:cJ ["self","saying","earlier"] ["self","saying","earlier"] (aN oJ):=⟨rfl,rfl,rfl,by decide +kernel,rfl,by decide +kernel,by decide +kernel⟩
theorem yT (m:eU w K mg) (Od:bS P w K mg base 1 1 "within" K12.jw) (Og:bS P w K mg base 2 2 "free_from" K12.jr) (F:fF K "__init__" "Part.__init__" oJ f fd){C:Q4}(M:Mk K C f) (hm:mg "Part"=some (.ref C)) (hC:Rn K Q_ "Part"=some (some (.ref C))) (ik:m7 K C) (mu:D->Mm):∀fu:Nat,vo P w K mg base (2 + 2 * fu) 2 "Part" (K16.gy mu fu)
 | 0=>DU (ps:=["self","saying","earlier"]) F M hm (λ_ _ _ _ _ _ us hl=>match us,hl with | [_,_,_],_=>rfl) (λ_=>rfl)
 | fu + 1=>
  have sc:=Le;have hself:=yT m Od Og F M hm hC ik mu fu
  let Fr:=K16.gy mu fu
  EO (k:=2 + 2 * fu + 1) (gB:=K16.qQ mu (K16.gy mu fu)) F M hm hC ik sc (λ_ _ _ _ _ _ us hl=>match us,hl with | [_,_,_],_=>rfl) rfl (λcdv A outer s H E H0 J T hr=>
 (lA (nL 0 m.if_Part_saying (aa 1))
 (lA (nL 0 m.if_Part_inner (fj (jO ["one"] [2] (dS (aZ Od hr (ai (aa 1) av) (by omega))) (λ_ _ _ _ _ hc=>⟨(aT 0 (fh rfl)),dD,(CY (λ_=>()) (F:=λ_=>Fr) (λ_=>hself) hr (ai (aa 0) (ai (aa 1) av)) (by omega))⟩))))
 (lA (nL 0 m.if_Part_table (HV (br hr.units (aq (aa 1) aj) aU) (aq (aa 2) (aq (aa 1) aj)) tN))
 (lA (nL 0 m.if_Part_free (aZ Og hr (ai (aa 1) (ai (fj (MX ["part","letter"] [] (dS (eZ m.if_Part_inner (aa 0))) (λ_ _ _ _ _ hc=>⟨(aT 0 (fh rfl)),dD,(ir (eZ m.if_Part_free (aa 0))),(aT 1 (fh rfl)),dD,(aa 1)⟩))) av)) (by omega)))
 (lA (nL 0 m.if_Part_kept (tM (jV hr.units (aq (aa 1) aj) (nN m.BINDERS)) (p_ (K2 (gf (ai (eZ m.if_Part_free (aa 0)) av) m.len) (nN m.MOST_KEPT_LETTERS)))))
 (KY (KW 0 (K16.ME mu 1) m.if_Part_found))))))))
noncomputable abbrev oK:TR:=top 20
theorem EZ:cJ ["world","part","places","wanted","letter","spare","here","point"] ["world","part","places","wanted"] (aN oK):=⟨rfl,rfl,rfl,by decide +kernel,rfl,by decide +kernel,by decide +kernel⟩
theorem BC (m:eU w K mg) (N4:bS P w K mg base 1 1 "letters_at" K12.fL){Fr:List S->M R}{L:Nat}(hL:2<=L) (hself:bS P w K mg base L 3 "part_holds" Fr) (F:fF K "enough" "enough" oK f fd) (hm:mg "enough"=some (.ref f)):bS P w K mg base (L + 1) 4 "enough" (K16.jv Fr):=
 have sc:=EZ
 iy (k:=L + 0) (gB:=K16.zf Fr) F hm sc (λ_ _ _ _ _ _ us hl=>match us,hl with | [_,_,_,_],_=>rfl) (λcdv A outer s H E J T hr=>
 (ak (aM 4 sc.nd (aq (aZ N4 hr (ai (eZ m.if_Part_saying (aa 1)) av) (by omega)) aj))
 (ak (aM 5 sc.nd (tP (aq (aa 0) aj) (aa 3)))
 (ak (aM 6 sc.nd (nM (ai (aa 2) av) m.dict))
 (ak (cX (cB (ai (aq (aa 0) aj) av) m.range) (aT 7 sc.nd) (ak (jU 6 hr.units (aa 7) (aa 4))
 (ak (a_ (iA (aZ hself hr (ai (aa 0) (ai (aq (eZ m.if_Part_inner (aa 1)) aj) (ai (aa 6) av))) (by omega))) (az (uw 3 sc.nd aj)) (az (uw 5 sc.nd aj)))
 (az (a_ (fz (gW (br hr.units (aa 3) aj) (iz (jC AY (gY λ_ _ _=>.bl _) (aa 5) aj)))) (az A2) aY)))))
 (az (aH (jl hr.units (aa 3) aj)))))))) (λas r _ h=>h)
noncomputable abbrev iL:TR:=top 21
theorem uX:cJ ["world","parts","places","truth","part"] ["world","parts","places","truth"] (aN iL):=⟨rfl,rfl,rfl,by decide +kernel,rfl,by decide +kernel,by decide +kernel⟩
theorem sL (m:eU w K mg){Fr:List S->M R}{L:Nat}(hL:2<=L) (hself:bS P w K mg base L 3 "part_holds" Fr) (F:fF K "any_part_is" "any_part_is" iL f fd) (hm:mg "any_part_is"=some (.ref f)):bS P w K mg base (L + 1) 4 "any_part_is" (K16.gn Fr):=
 have sc:=uX
 iy (k:=L + 0) (gB:=K16.nv Fr) F hm sc (λ_ _ _ _ _ _ us hl=>match us,hl with | [_,_,_,_],_=>rfl) (λcdv A outer s H E J T hr=>
 (ak (cX (ir (aa 1)) (aT 4 sc.nd) (az (a_ (br hr.units (aZ hself hr (ai (aa 0) (ai (aa 4) (ai (aa 2) av))) (by omega)) (aa 3)) (az (aH iJ)) aY)))
 (az (aH iJ)))) (λas r _ h=>h)
noncomputable abbrev ku:TR:=top 22
theorem A6:cJ ["world","part","places","saying","word"] ["world","part","places"] (aN ku):=⟨rfl,rfl,rfl,by decide +kernel,rfl,by decide +kernel,by decide +kernel⟩
theorem ym (m:eU w K mg) (Oq:bS P w K mg base 2 3 "bears" K16.mZ) (Ot:bS P w K mg base 2 4 "leads" K16.m6){Fr:List S->M R}{L:Nat}(hL:2<=L) (hself:bS P w K mg base L 3 "part_holds" Fr) (N6:bS P w K mg base (L + 1) 4 "any_part_is" (K16.gn Fr)) (Oa:bS P w K mg base (L + 1) 4 "enough" (K16.jv Fr)) (F:fF K "reckoned" "reckoned" ku f fd) (hm:mg "reckoned"=some (.ref f)):bS P w K mg base (L + 2) 3 "reckoned" (K16.iu Fr):=
 have sc:=A6
 iy (k:=L + 1) (gB:=K16.uh Fr) F hm sc (λ_ _ _ _ _ _ us hl=>match us,hl with | [_,_,_],_=>rfl) (λcdv A outer s H E J T hr=>
 (ak (aM 3 sc.nd (eZ m.if_Part_saying (aa 1)))
 (ak (aM 4 sc.nd (aq (aa 3) aj))
 (ak (a_ (br hr.units (aa 4) aU) (az (aH (aZ Oq hr (ai (aa 0) (ai (aq (aa 3) aj) (ai (e_ hr.units (aa 2) (aq (aa 3) aj)) av))) (by omega)))) aY)
 (ak (a_ (br hr.units (aa 4) aU) (az (aH (aZ Ot hr (ai (aa 0) (ai (aq (aa 3) aj) (ai (e_ hr.units (aa 2) (aq (aa 3) aj)) (ai (e_ hr.units (aa 2) (aq (aa 3) aj)) av)))) (by omega)))) aY)
 (ak (a_ (br hr.units (aa 4) aU) (az (aH (jl hr.units (e_ hr.units (aa 2) (aq (aa 3) aj)) (e_ hr.units (aa 2) (aq (aa 3) aj))))) aY)
 (ak (a_ (br hr.units (aa 4) aU) (az (aH (aq (eZ m.if_Part_table (aa 1)) (eK (ai (fj (jO ["letter"] [2] (dS (aq (aa 3) aj)) (λ_ _ _ _ _ hc=>⟨(aT 0 (fh rfl)),dD,(e_ hr.units (aa 1) (aa 0))⟩))) av) m.tuple)))) aY)
 (ak (a_ (br hr.units (aa 4) aU) (az (aH (oG (aZ hself hr (ai (aa 0) (ai (aq (eZ m.if_Part_inner (aa 1)) aj) (ai (aa 2) av))) (by omega))))) aY)
 (ak (a_ (br hr.units (aa 4) aU) (az (aH (oG (aZ N6 hr (ai (aa 0) (ai (eZ m.if_Part_inner (aa 1)) (ai (aa 2) (ai iJ av)))) (by omega))))) aY)
 (ak (a_ (br hr.units (aa 4) aU) (az (aH (aZ N6 hr (ai (aa 0) (ai (eZ m.if_Part_inner (aa 1)) (ai (aa 2) (ai iJ av)))) (by omega)))) aY)
 (ak (a_ (br hr.units (aa 4) aU) (az (aH (aZ Oa hr (ai (aa 0) (ai (aa 1) (ai (aa 2) (ai aj av)))) (by omega)))) aY)
 (ak (a_ (br hr.units (aa 4) aU) (az (aH (aZ Oa hr (ai (aa 0) (ai (aa 1) (ai (aa 2) (ai (aq (aa 0) aj) av)))) (by omega)))) aY)
 (az (aH (aZ Oa hr (ai (aa 0) (ai (aa 1) (ai (aa 2) (ai (aq (aa 3) aj) av)))) (by omega)))))))))))))))) (λas r _ h=>h)
noncomputable abbrev kO:TR:=top 23
theorem xS:cJ ["world","part","places","points"] ["world","part","places"] (aN kO):=⟨rfl,rfl,rfl,by decide +kernel,rfl,by decide +kernel,by decide +kernel⟩
theorem mH (m:eU w K mg) (N4:bS P w K mg base 1 1 "letters_at" K12.fL) (Oq:bS P w K mg base 2 3 "bears" K16.mZ) (Ot:bS P w K mg base 2 4 "leads" K16.m6) (F:fF K "part_holds" "part_holds" kO f fd) (hm:mg "part_holds"=some (.ref f)){fenough:Q4}{fdenough:Rp}(Fenough_:fF K "enough" "enough" oK fenough fdenough) (Oz:mg "enough"=some (.ref fenough)){fany_part_is:Q4}{fdany_part_is:Rp}(Fany_part_is_:fF K "any_part_is" "any_part_is" iL fany_part_is fdany_part_is) (N8:mg "any_part_is"=some (.ref fany_part_is)){freckoned:Q4}{fdreckoned:Rp}(Freckoned_:fF K "reckoned" "reckoned" ku freckoned fdreckoned) (Oh:mg "reckoned"=some (.ref freckoned)):∀fu:Nat,bS P w K mg base (2 + 3 * fu) 3 "part_holds" (K16.dQ fu)
 | 0=>sG (ps:=["world","part","places"]) F hm (λ_ _ _ _ _ _ us hl=>match us,hl with | [_,_,_],_=>rfl) (λ_=>rfl)
 | fu + 1=>
  have sc:=xS;have hself:=mH m N4 Oq Ot F hm Fenough_ Oz Fany_part_is_ N8 Freckoned_ Oh fu;have Oa:=BC m N4 (L:=2 + 3 * fu) (by omega) hself Fenough_ Oz;have N6:=sL m (L:=2 + 3 * fu) (by omega) hself Fany_part_is_ N8;have Ol:=ym m Oq Ot (L:=2 + 3 * fu) (by omega) hself N6 Oa Freckoned_ Oh
  iy (k:=2 + 3 * fu + 2) (gB:=K16.kL (K16.dQ fu)) F hm sc (λ_ _ _ _ _ _ us hl=>match us,hl with | [_,_,_],_=>rfl) (λcdv A outer s H E J T hr=>
 (ak (a_ (jD (iA (eZ m.if_Part_kept (aa 1)))) (az (aH (aZ Ol hr (ai (aa 0) (ai (aa 1) (ai (aa 2) av))) (by omega)))) aY)
 (by refine CZ (i:=1) (j:=3) hr.units m.if_Part_found ?_ ?_ sc.nd m.tuple;exact (fj (jO ["letter"] [2] (dS (eZ m.if_Part_free (aa 1))) (λ_ _ _ _ _ hc=>⟨(aT 0 (fh rfl)),dD,(e_ hr.units (aa 1) (aa 0))⟩)));exact (aZ Ol hr (ai (aa 0) (ai (aa 1) (ai (aa 2) av))) (by omega))))) (λas r _ h=>h)
noncomputable abbrev jm:TR:=top 24
theorem Ic:cJ ["world","saying","places","tongue","part","asked","letter"] ["world","saying","places"] (aN jm):=⟨rfl,rfl,rfl,by decide +kernel,rfl,by decide +kernel,by decide +kernel⟩
theorem Ef (m:eU w K mg) (O5:∀m,vo P w K mg base 122 2 "Part" (K16.gy m 60)) (OG:bS P w K mg base 1 1 "tongue_of" K16.iD) (OI:bS P w K mg base 2 1 "parts_of" K12.jc) (OE:bS P w K mg base 1 2 "is_spoken" K12.iC) (OA:bS P w K mg base 182 3 "part_holds" (K16.dQ 60)) (F:lG K "holds" "holds" jm f fd):eG P w K mg base (ql P w) 183 f fd ["world","saying","places"] (uB K 3 K16.eV):=
 have sc:=Ic
 GJ (k:=182) (gB:=K16.B4) F sc (λcdv A outer s H E J hr=>j6.h (
 (ak (a_ (KZ (aa 2) tN) (az (ux 2 sc.nd)) aY)
 (ak (aM 3 sc.nd (aZ OG hr (ai (aa 0) av)))
 (ak (cX (ir (aZ OI hr (ai (aa 1) av))) (aT 4 sc.nd) (az (a_ (jD (iA (aZ OE hr (ai (aa 4) (ai (aa 3) av))))) (az l5) aY)))
 (ak (aM 5 sc.nd (CY (K16.Ex 0) (F:=λm=>K16.gy m 60) O5 hr (ai (aa 1) (ai (bR aV) av))))
 (ak (cX (ir (eZ m.if_Part_free (aa 5))) (aT 6 sc.nd) (az (a_ (A1 hr.units (aa 6) (aa 2)) (az l5) aY)))
 (az (aH (aZ OA hr (ai (aa 0) (ai (aa 5) (ai (aa 2) av))))))))))))) (λ_ _ _=>rfl)
theorem DW (G:eG P w K mg base (ql P w) 183 f fd ["world","saying","places"] (uB K 3 K16.eV)) (F:lG K "holds" "holds" jm f fd) (hm:mg "holds"=some (.ref f)):DH P w K mg base 183 3 "holds" K16.eV:=⟨f,fd,["world","saying","places"],G,hm,F.kp,F.bindsAll (λT kV doc pm an cdv ct us hl=>match us,hl with | [_,_,_],_=>⟨_,rfl,rfl⟩)⟩
theorem BB (G:eG P w K mg base (ql P w) 183 f fd ["world","saying","places"] (uB K 3 K16.eV)) (F:lG K "holds" "holds" jm f fd) (hm:mg "holds"=some (.ref f)):DG P w K mg base 183 2 "holds" K16.eV:=⟨f,fd,["world","saying","places"],G,hm,F.kp,F.bindsOne (λT kV doc pm an cdv ct us hl=>match us,hl with | [_,_],_=>⟨_,rfl,rfl⟩)⟩
noncomputable abbrev rO:TR:=top 26
theorem vQ (m:eU w K mg) (e:FB K mg "_law_cell" rO):bS P w K mg base 1 2 "_law_cell" K01.b8:=
 qc K01.lM K01.jt 2 e (λnd _ cdv A outer s H E J T hr=>
 (ak (a_ (jC AY (gY λ_ _ _=>.bl _) (aa 1) (gf (ai (aa 0) av) m.len)) (az (aH (bg (aq (aa 0) (aa 1)) (oH aj aj)))) aY)
 (az (aH aj))))
noncomputable abbrev pF:TR:=top 27
theorem uN (m:eU w K mg) (e:FB K mg "_law_names" pF):bS P w K mg base 1 2 "_law_names" K01.fJ:=
 qc K01.kI K01.oU 2 e (λnd _ cdv A outer s H E J T hr=>
 (ak (aM 2 nd (bg (dB (aa 0) aj) aj))
 (ak (aM 3 nd (aq aU (bg (aa 2) aj)))
 (ak (aM 4 nd (bD aj (bg (bY (aa 2) aj) aj)))
 (ak (a_ (br hr.units (bg (bY (aa 2) aj) aj) aj) (az (aH (fj (jO ["_law_k"] [3] (pY (cB (ai (aa 1) av) m.range)) (λ_ _ _ _ _ hc=>⟨(aT 0 (fh rfl)),dD,(dB (aa 1) (bD aj (aa 0)))⟩))))) aY)
 (ak (a_ (br hr.units (bg (bY (aa 2) aj) aj) aj) (ak (aM 5 nd (cQ (aA aU (aA aU (aA aU (aA aU (aA aU (aA aU (aA aU (aA aU aV))))))))))
 (ak (aM 6 nd (bg (bY (aa 2) aj) aj))
 (ak (aM 7 nd aU)
 (az (aH (rL (ai (fj (jO ["_law_k"] [5,6,7,2] (pY (cB (ai (aa 1) av) m.range)) (λ_ _ _ _ _ hc=>⟨(aT 0 (fh rfl)),dD,(bD (aq (bD (aa 1) (aa 1)) (bD (aa 2) (aa 0))) (aq (aa 3) (bg (bY (aa 4) aj) aj)))⟩))) av) m.sorted)))))) aY)
 (ak (aM 8 nd (bg (bY (aa 2) aj) (aa 4)))
 (ak (aM 9 nd (cQ aV))
 (ak (cX (cB (ai (aa 1) av) m.range) (aT 10 nd) (ak (aM 11 nd (aq aU (bg (bD (bY (aa 2) aj) (dB aj (aa 10))) aj)))
 (az (eF 9 (bD (bD (dB (aa 3) (aa 8)) (aa 11)) (dB (aa 3) (tP (tP (aa 4) aj) (aa 8))))))))
 (az (aH (rL (ai (aa 9) av) m.sorted))))))))))))
noncomputable abbrev rR:TR:=top 28
theorem vU (m:eU w K mg) (e:FB K mg "_law_some" rR):bS P w K mg base 1 2 "_law_some" K01.gA:=
 qc K01.lO ["_law_bits","_law_many","_law_found","_law_point"] 2 e (λnd _ cdv A outer s H E J T hr=>
 (ak (aM 2 nd (cQ aV))
 (ak (cX (cB (ai (aa 1) av) m.range) (aT 3 nd) (ak (a_ (br hr.units (bg (aa 0) aj) aj) (az (eF 2 (aa 3))) aY)
 (az (aM 0 nd (bY (aa 0) aj)))))
 (az (aH (eK (ai (aa 2) av) m.tuple))))))
noncomputable abbrev pG:TR:=top 29
theorem uO (m:eU w K mg) (e:FB K mg "_law_pairs" pG):bS P w K mg base 1 2 "_law_pairs" K01.gc:=
 qc K01.kJ K01.oV 2 e (λnd _ cdv A outer s H E J T hr=>
 (ak (aM 2 nd (cQ aV))
 (ak (cX (cB (ai (aa 1) av) m.range) (aT 3 nd) (az (cX (cB (ai (aa 1) av) m.range) (aT 4 nd) (ak (a_ (br hr.units (bg (aa 0) aj) aj) (az (eF 2 (bR (aA (aa 3) (aA (aa 4) aV))))) aY)
 (az (aM 0 nd (bY (aa 0) aj)))))))
 (az (aH (eK (ai (aa 2) av) m.tuple))))))
noncomputable abbrev nT:TR:=top 30
theorem sJ (m:eU w K mg) (Ov:bS P w K mg base 1 2 "_law_names" K01.fJ) (e:FB K mg "_law_tongue" nT):bS P w K mg base 2 1 "_law_tongue" K01.gm:=
 qc K01.jS K01.m_ 1 e (λnd _ cdv A outer s H E J T hr=>
 (ak (aM 1 nd (aZ Ov hr (ai (aa 0) (ai aj av))))
 (ak (aM 2 nd (bg (dB (aa 0) aj) aj))
 (ak (aM 3 nd (bg (bY (aa 2) aj) aj))
 (az (aH (bR (aA (eK (ai (gH (aa 1) iB (dU (bg (aa 2) aj))) av) m.tuple) (aA (eK (ai (gH (aa 1) (dU (aa 3)) (dU (bD (aa 3) (bg (bY (aa 2) aj) aj)))) av) m.tuple) aV)))))))))
noncomputable abbrev pI:TR:=top 31
theorem uQ (m:eU w K mg) (N2:bS P w K mg base 1 2 "_law_cell" K01.b8) (OD:bS P w K mg base 1 2 "_law_some" K01.gA) (Ow:bS P w K mg base 1 2 "_law_pairs" K01.gc) (e:FB K mg "_law_world" pI):bS P w K mg base 2 4 "_law_world" K01.fK:=
 qc K01.kK K01.oX 4 e (λnd _ cdv A outer s H E J T hr=>
 (ak (aM 4 nd (cQ aV))
 (ak (cX (cB (ai (gf (ai (aq (aa 3) aj) av) m.len) av) m.range) (aT 5 nd) (az (eF 4 (bR (aA (aq (aq (aa 3) aj) (aa 5)) (aA (aZ OD hr (ai (bg (dB (aZ N2 hr (ai (aa 0) (ai (bD (aa 1) (aa 5)) av))) aj) (oH aj aj)) (ai (aa 2) av))) aV))))))
 (ak (aM 6 nd (cQ aV))
 (ak (cX (cB (ai (gf (ai (aq (aa 3) aj) av) m.len) av) m.range) (aT 5 nd) (ak (aM 7 nd (bg (dB (aZ N2 hr (ai (aa 0) (ai (bD (bD (aa 1) aj) (aa 5)) av))) aj) (oH aj aj)))
 (az (eF 6 (bR (aA (aq (aq (aa 3) aj) (aa 5)) (aA (aZ Ow hr (ai (aa 7) (ai (aa 2) av))) aV)))))))
 (az (aH (bR (aA (aa 2) (aA (eK (ai (aa 4) av) m.tuple) (aA (eK (ai (aa 6) av) m.tuple) aV)))))))))))
noncomputable abbrev mU:TR:=top 32
theorem qC (m:eU w K mg) (e:FB K mg "_law_letters" mU):bS P w K mg base 1 1 "_law_letters" K14.gX:=
 qc K14.mK K14.mD 1 e (λnd _ cdv A outer s H E J T hr=>
 (az (aH (fj (jO ["_law_k"] [0] (pY (cB (ai aj av) m.range)) (λ_ _ _ _ _ hc=>⟨(aT 0 (fh rfl)),dD,(aq aU (bg (bD (aa 1) (dB aj (aa 0))) aj))⟩))))))
noncomputable abbrev rQ:TR:=top 33
theorem vS (m:eU w K mg) (e:FB K mg "_law_leaf" rQ):bS P w K mg base 1 3 "_law_leaf" K14.fE:=
 qc K14.qS K14.qu 3 e (λnd _ cdv A outer s H E J T hr=>
 (ak (aM 3 nd (aq (aa 2) (bg (bY (aa 0) aj) aj)))
 (ak (aM 4 nd (aq (aa 2) (bg (bY (aa 0) aj) aj)))
 (ak (a_ (fz (oF (br hr.units (bg (aa 0) aj) aj) (lZ (xK hr.units (aq (aa 1) aj) (bR aV))))) (az (aH (bR (aA aU (aA (aq (aq (aa 1) aj) (bg (bY (aa 0) aj) (gf (ai (aq (aa 1) aj) av) m.len))) (aA (aa 3) aV)))))) aY)
 (ak (a_ (fz (oF (br hr.units (bg (aa 0) aj) aj) (lZ (xK hr.units (aq (aa 1) aj) (bR aV))))) (az (aH (bR (aA aU (aA (aq (aq (aa 1) aj) (bg (bY (aa 0) aj) (gf (ai (aq (aa 1) aj) av) m.len))) (aA (aa 3) (aA (aa 4) aV))))))) aY)
 (az (aH (bR (aA aU (aA (aa 3) (aA (aa 4) aV)))))))))))
noncomputable abbrev mV:TR:=top 34
theorem qD (m:eU w K mg) (e:FB K mg "_law_wrapped" mV):bS P w K mg base 1 3 "_law_wrapped" K14.f7:=
 qc K14.mL K14.mE 3 e (λnd _ cdv A outer s H E J T hr=>
 (ak (pZ (aa 2) (gw (b_ (aT 3 nd) (b_ (aT 4 nd) (b_ (aT 5 nd) fX)))))
 (ak (aM 6 nd (aq (aa 1) (bg (bY (aa 0) aj) aj)))
 (ak (a_ (fz (gW (br hr.units (bg (aa 0) aj) aj) (iz (jC vg (gY λ_ _ _=>.bl _) (aa 4) aj)))) (az (aH (bR (aA (bR (aA aU (aA (aa 3) aV))) (aA (aa 4) (aA (bD (aa 5) aj) aV)))))) aY)
 (ak (a_ (br hr.units (bg (aa 0) aj) aj) (az (aH (bR (aA (bR (aA aU (aA (bD aj (bg (bY (aa 0) aj) (aq (cQ (aA aj (aA aj aV))) (bg (bY (aa 0) aj) aj)))) (aA (aa 6) (aA (aa 3) aV))))) (aA (bD (aa 4) aj) (aA (bD (aa 5) aj) aV)))))) aY)
 (az (aH (bR (aA (bR (aA (aq (cQ (aA aU (aA aU aV))) (bg (aa 0) aj)) (aA (aa 6) (aA (aa 3) aV)))) (aA (bD (aa 4) aj) (aA (bD (aa 5) aj) aV)))))))))))
noncomputable abbrev nS:TR:=top 35
theorem sI (m:eU w K mg) (e:FB K mg "_law_joined" nS):bS P w K mg base 1 2 "_law_joined" K12.fR:=
 qc K12.nu ["_law_number","_law_some_here","_law_parts","_law_deep_here","_law_high"] 2 e (λnd _ cdv A outer s H E J T hr=>
 (ak (aM 2 nd (eK (ai (fj (jO ["_law_one"] [] (dS (aa 1)) (λ_ _ _ _ _ hc=>⟨(aT 0 (fh rfl)),dD,(aq (aa 0) aj)⟩))) av) m.tuple))
 (ak (aM 3 nd (xO (fj (jO ["_law_one"] [] (dS (aa 1)) (λ_ _ _ _ _ hc=>⟨(aT 0 (fh rfl)),dD,(aq (aa 0) aj)⟩))) m.max))
 (ak (aM 4 nd (xO (fj (jO ["_law_one"] [] (dS (aa 1)) (λ_ _ _ _ _ hc=>⟨(aT 0 (fh rfl)),dD,(aq (aa 0) aj)⟩))) m.max))
 (ak (a_ (br hr.units (gf (ai (aa 1) av) m.len) aj) (az (aH (aq (aa 1) aj))) aY)
 (az (aH (bR (aA (bR (aA (aq (cQ (aA aU (aA aU aV))) (bg (aa 0) aj)) (aA (aa 2) aV))) (aA (aa 3) (aA (bD (aa 4) aj) aV)))))))))))
noncomputable abbrev pD:TR:=top 36
theorem uM (m:eU w K mg) (N9:bS P w K mg base 1 3 "_law_leaf" K14.fE) (N_:bS P w K mg base 1 2 "_law_joined" K12.fR) (Oj:bS P w K mg base 1 3 "_law_wrapped" K14.f7) (e:FB K mg "_law_grown" pD):bS P w K mg base 2 3 "_law_grown" K14.gT:=
 qc K14.o6 K14.oS 3 e (λnd _ cdv A outer s H E J T hr=>
 (ak (aM 3 nd (cQ aV))
 (ak (cX (cB (ai (gf (ai (aa 0) av) m.len) av) m.range) (aT 4 nd) (ak (aM 5 nd (bg (dB (bD (bg (aq (aa 0) (aa 4)) (oH aj aj)) (dB aj (aa 4))) aj) aj))
 (ak (aM 6 nd (bg (aa 5) aj))
 (ak (aM 7 nd (bY (aa 5) aj))
 (az (a_ (fz (gW (br hr.units (aa 3) (cQ aV)) (gW (jC AY (gY λ_ _ _=>.bl _) (aa 6) aj) (iz (jC vg (gY λ_ _ _=>.bl _) (aq (aq (aa 3) (gG aj)) aj) aj))))) (az (eF 3 (bR (aA (aZ N9 hr (ai (aa 7) (ai (aa 1) (ai (aa 2) av)))) (aA aj (aA aj aV)))))) (az (a_ (fz (oF (br hr.units (aa 6) aj) (lZ (jC vg (gY λ_ _ _=>.bl _) (gf (ai (aa 3) av) m.len) aj)))) (ak (aM 8 nd (bD aj (bg (bY (aa 7) aj) aj)))
 (az (aM 3 nd (bD (gH (aa 3) iB (dU (gG (aa 8)))) (cQ (aA (aZ N_ hr (ai (aa 7) (ai (gH (aa 3) (dU (gG (aa 8))) iB) av))) aV)))))) (az (a_ (fz (oF (br hr.units (aa 6) aj) (lZ (br hr.units (bg (aa 7) aj) aj)))) (az (eF 3 (bR (aA (bR (aA (aq (cQ (aA aU (aA aU aV))) (bg (bY (aa 7) aj) aj)) (aA (bR aV) aV))) (aA aj (aA aj aV)))))) (az (aM 3 nd (bD (gH (aa 3) iB (dU (gG aj))) (cQ (aA (aZ Oj hr (ai (aa 7) (ai (aa 2) (ai (aq (aa 3) (gG aj)) av)))) aV)))))))))))))))
 (az (aH (aq (aZ N_ hr (ai (gf (ai (aa 0) av) m.len) (ai (aa 3) av))) aj))))))
noncomputable abbrev iK:TR:=top 37
theorem uW:cJ ["_law_world_here","_law_saying","_law_places","_law_many","_law_point","_law_known"] ["_law_world_here","_law_saying","_law_places"] (aN iK):=⟨rfl,rfl,rfl,by decide +kernel,rfl,by decide +kernel,by decide +kernel⟩
theorem sH (m:eU w K mg){Fr:List S->M R}{L:Nat}(hL:0<=L) (hself:bS P w K mg base L 3 "_law_true" Fr) (F:fF K "_law_enough" "_law_enough" iK f fd) (hm:mg "_law_enough"=some (.ref f)):bS P w K mg base (L + 1) 3 "_law_enough" (K14.jJ Fr):=
 have sc:=uW
 iy (k:=L + 0) (gB:=K14.nt Fr) F hm sc (λ_ _ _ _ _ _ us hl=>match us,hl with | [_,_,_],_=>rfl) (λcdv A outer s H E J T hr=>
 (ak (aM 3 sc.nd aj)
 (ak (cX (cB (ai (aq (aa 0) aj) av) m.range) (aT 4 sc.nd) (ak (aM 5 sc.nd (nM (ai (aa 2) av) m.dict))
 (ak (jU 5 hr.units (aa 4) (aq (aa 1) (gG aj)))
 (az (a_ (iA (aZ hself hr (ai (aa 0) (ai (aq (aa 1) (gG aj)) (ai (aa 5) av))) (by omega))) (az (aM 3 sc.nd (bD (aa 3) aj))) aY)))))
 (ak (a_ (br hr.units (aq (aa 1) aj) aU) (az (aH (K1 (aa 3) aj))) aY)
 (ak (a_ (br hr.units (aq (aa 1) aj) aU) (az (aH (jl hr.units (aa 3) (aq (aa 0) aj)))) aY)
 (az (aH (K0 (aa 3) (aq (aa 1) aj))))))))) (λas r _ h=>h)
noncomputable abbrev l_:TR:=top 38
theorem yz:cJ ["_law_world_here","_law_saying","_law_places","_law_head","_law_pairs_here","_law_part"] ["_law_world_here","_law_saying","_law_places"] (aN l_):=⟨rfl,rfl,rfl,by decide +kernel,rfl,by decide +kernel,by decide +kernel⟩
theorem ni (m:eU w K mg) (F:fF K "_law_true" "_law_true" l_ f fd) (hm:mg "_law_true"=some (.ref f)){f_law_enough:Q4}{fd_law_enough:Rp}(F_law_enough_:fF K "_law_enough" "_law_enough" iK f_law_enough fd_law_enough) (N7:mg "_law_enough"=some (.ref f_law_enough)):∀fu:Nat,bS P w K mg base (0 + 2 * fu) 3 "_law_true" (K14.eX fu)
 | 0=>sG (ps:=["_law_world_here","_law_saying","_law_places"]) F hm (λ_ _ _ _ _ _ us hl=>match us,hl with | [_,_,_],_=>rfl) (λ_=>rfl)
 | fu + 1=>
  have sc:=yz;have hself:=ni m F hm F_law_enough_ N7 fu;have Om:=sH m (L:=0 + 2 * fu) (by omega) hself F_law_enough_ N7
  iy (k:=0 + 2 * fu + 1) (gB:=K14.lP (K14.eX fu)) F hm sc (λ_ _ _ _ _ _ us hl=>match us,hl with | [_,_,_],_=>rfl) (λcdv A outer s H E J T hr=>
 (ak (aM 3 sc.nd (aq (aa 1) aj))
 (ak (a_ (br hr.units (aa 3) aU) (az (aH (jV hr.units (e_ hr.units (aa 2) (aq (aa 1) aj)) (aq (fj (jO ["_law_name","_law_points"] [1] (dS (aq (aa 0) aj)) (λ_ _ _ _ _ hc=>⟨(gw (b_ (aT 0 (fh rfl)) (b_ (aT 1 (fh rfl)) fX))),(kr (br hr.units (aa 0) (aq (aa 2) aj))),(aa 1)⟩))) aj)))) aY)
 (ak (a_ (br hr.units (aa 3) aU) (ak (aM 4 sc.nd (aq (fj (jO ["_law_name","_law_pairs_here"] [1] (dS (aq (aa 0) aj)) (λ_ _ _ _ _ hc=>⟨(gw (b_ (aT 0 (fh rfl)) (b_ (aT 1 (fh rfl)) fX))),(kr (br hr.units (aa 0) (aq (aa 2) aj))),(aa 1)⟩))) aj))
 (az (aH (jV hr.units (bR (aA (e_ hr.units (aa 2) (aq (aa 1) aj)) (aA (e_ hr.units (aa 2) (aq (aa 1) aj)) aV))) (aa 4))))) aY)
 (ak (a_ (br hr.units (aa 3) aU) (az (aH (jl hr.units (e_ hr.units (aa 2) (aq (aa 1) aj)) (e_ hr.units (aa 2) (aq (aa 1) aj))))) aY)
 (ak (a_ (br hr.units (aa 3) aU) (az (aH (oG (aZ hself hr (ai (aa 0) (ai (aq (aa 1) aj) (ai (aa 2) av))) (by omega))))) aY)
 (ak (a_ (fz (gW (br hr.units (aa 3) aU) (iz (br hr.units (aa 3) aU)))) (ak (cX (ir (aq (aa 1) aj)) (aT 5 sc.nd) (az (a_ (br hr.units (aZ hself hr (ai (aa 0) (ai (aa 5) (ai (aa 2) av))) (by omega)) (jl hr.units (aa 3) aU)) (az (aH (jl hr.units (aa 3) aU))) aY)))
 (az (aH (jl hr.units (aa 3) aU)))) aY)
 (az (aH (aZ Om hr (ai (aa 0) (ai (aa 1) (ai (aa 2) av))) (by omega))))))))))) (λas r _ h=>h)
noncomputable abbrev pH:TR:=top 39
theorem uP (m:eU w K mg) (e:FB K mg "_law_truth" pH):bS P w K mg base 1 2 "_law_truth" K12.c_:=
 qc K12.o7 K12.oW 2 e (λnd _ cdv A outer s H E J T hr=>
 (az (aH (tM (A4 En Aj m.bool (aa 0) m.isinstance) (p_ (jl hr.units (aa 0) (aa 1)))))))
noncomputable abbrev l7:TR:=top 40
theorem yy:cJ ["_law_saying","_law_found","_law_parts","_law_part"] ["_law_saying"] (aN l7):=⟨rfl,rfl,rfl,by decide +kernel,rfl,by decide +kernel,by decide +kernel⟩
theorem nh (m:eU w K mg) (F:fF K "_law_free" "_law_free" l7 f fd) (hm:mg "_law_free"=some (.ref f)):∀fu:Nat,bS P w K mg base (0 + fu) 1 "_law_free" (K14.fD fu)
 | 0=>sG (ps:=["_law_saying"]) F hm (λ_ _ _ _ _ _ us hl=>match us,hl with | [_],_=>rfl) (λ_=>rfl)
 | fu + 1=>
  have sc:=yy;have hself:=nh m F hm fu
  iy (k:=0 + fu) (gB:=K14.lN (K14.fD fu)) F hm sc (λ_ _ _ _ _ _ us hl=>match us,hl with | [_],_=>rfl) (λcdv A outer s H E J T hr=>
 (ak (a_ (fz (gW (br hr.units (aq (aa 0) aj) aU) (iz (br hr.units (aq (aa 0) aj) aU)))) (az (aH (l6 (ai (gH (aa 0) (dU aj) iB) av) m.list))) aY)
 (ak (a_ (br hr.units (aq (aa 0) aj) aU) (az (aH (l6 (ai (gH (aa 0) (dU aj) iB) av) m.list))) aY)
 (ak (aM 1 sc.nd (cQ aV))
 (ak (aM 2 sc.nd (cQ (aA (aq (aa 0) (gG aj)) aV)))
 (ak (a_ (fz (gW (br hr.units (aq (aa 0) aj) aU) (iz (br hr.units (aq (aa 0) aj) aU)))) (az (aM 2 sc.nd (l6 (ai (aq (aa 0) aj) av) m.list))) aY)
 (ak (ER 2 (cX (ir (aa 2)) (aT 3 sc.nd) (az (aM 1 sc.nd (xM (aa 1) (aZ hself hr (ai (aa 3) av) (by omega)))))))
 (ak (a_ (fz (gW (br hr.units (aq (aa 0) aj) aU) (gW (br hr.units (aq (aa 0) aj) aU) (iz (br hr.units (aq (aa 0) aj) aU))))) (az (HU 1 sc.nd (jO ["_law_letter"] [0] (dS (aa 1)) (λ_ _ _ _ _ hc=>⟨(aT 0 (fh rfl)),(kr (xK hr.units (aa 0) (aq (aa 1) (gG aj)))),(aa 0)⟩)))) aY)
 (az (aH (aa 1))))))))))) (λas r _ h=>h)
noncomputable abbrev rP:TR:=top 41
theorem vR (m:eU w K mg) (N2:bS P w K mg base 1 2 "_law_cell" K01.b8) (N9:bS P w K mg base 1 3 "_law_leaf" K14.fE) (e:FB K mg "_law_deep" rP):bS P w K mg base 2 4 "_law_deep" K14.gz:=
 qc K14.qR K14.qt 4 e (λnd _ cdv A outer s H E J T hr=>
 (ak (aM 4 nd (cQ aV))
 (ak (cX (cB (ai aj av) m.range) (aT 5 nd) (az (eF 4 (aZ N9 hr (ai (bg (dB (bD (aZ N2 hr (ai (aa 0) (ai (bD aj (aa 5)) av))) (dB aj (aa 5))) aj) aj) (ai (aa 2) (ai (aa 3) av)))))))
 (ak (aM 6 nd (bR (aA (aq (cQ (aA aU (aA aU aV))) (bg (aa 1) aj)) (aA (eK (ai (aa 4) av) m.tuple) aV))))
 (ak (cX (cB (ai (bD aj (bg (bY (aa 1) aj) aj)) av) m.range) (aT 5 nd) (az (aM 6 nd (bR (aA (aq (cQ (aA aU (aA aU aV))) (bg (bY (bY (aa 1) aj) (HX aj (aa 5))) aj)) (aA (aq (aa 3) (aa 5)) (aA (aa 6) aV)))))))
 (az (aH (aa 6))))))))
noncomputable abbrev mh:TR:=top 42
theorem Me:cJ ["_law_script","_law_number","_law_tongue_here","_law_many","_law_cells","_law_letters_here","_law_saying","_law_world_here","_law_places","_law_k","_law_due","_law_handed"] ["_law_script"] (aN mh):=⟨rfl,rfl,rfl,by decide +kernel,rfl,by decide +kernel,by decide +kernel⟩
theorem LX (m:eU w K mg) (N2:bS P w K mg base 1 2 "_law_cell" K01.b8) (Oo:bS P w K mg base 2 1 "_law_tongue" K01.gm) (Oi:bS P w K mg base 1 1 "_law_letters" K14.gX) (Ou:bS P w K mg base 2 3 "_law_grown" K14.gT) (OB:bS P w K mg base 2 4 "_law_deep" K14.gz) (Ox:bS P w K mg base 2 4 "_law_world" K01.fK) (Oe:bS P w K mg base 120 3 "_law_true" (K14.eX 60)) (Oc:DH P w K mg base 183 3 "holds" K16.eV) (N3:bS P w K mg base 1 2 "_law_truth" K12.c_) (OC:bS P w K mg base 60 1 "_law_free" (K14.fD 60)) (OQ:DG P w K mg base 183 2 "holds" K16.eV) (F:fF K "law" "law" mh f fd):eG P w K mg base jH 184 f fd ["_law_script"] (mW K 1 K14.su):=
 have sc:=Me
 HL (k:=183) (gB:=K14.JC) F sc (λcdv A outer s H E J T hr=>
 (ak (aM 1 sc.nd (bg (dB (aZ N2 hr (ai (aa 0) (ai aj av))) aj) aj))
 (ak (aM 2 sc.nd (aZ Oo hr (ai (aZ N2 hr (ai (aa 0) (ai aj av))) av)))
 (ak (aM 3 sc.nd (bD aj (bg (aa 1) aj)))
 (ak (aM 4 sc.nd (gH (aa 0) (dU aj) (dU aj)))
 (ak (a_ (br hr.units (bg (bY (aa 1) aj) aj) aj) (ak (aM 3 sc.nd (bD aj (bg (bY (aa 1) aj) aj)))
 (az (aM 4 sc.nd (gH (aa 0) (dU aj) (dU aj))))) aY)
 (ak (aM 5 sc.nd (aZ Oi hr (ai (bg (aZ N2 hr (ai (aa 0) (ai aj av))) aj) av)))
 (ak (aM 6 sc.nd (aZ Ou hr (ai (aa 4) (ai (aa 2) (ai (aa 5) av)))))
 (ak (a_ (br hr.units (bg (bY (aa 1) aj) aj) aj) (ak (aM 3 sc.nd (bD aj (bg (bY (aa 1) aj) aj)))
 (az (aM 6 sc.nd (aZ OB hr (ai (aa 0) (ai (aZ N2 hr (ai (aa 0) (ai aj av))) (ai (aa 2) (ai (aa 5) av)))))))) aY)
 (ak (aM 7 sc.nd (aZ Ox hr (ai (aa 0) (ai aj (ai (aa 3) (ai (aa 2) av))))))
 (ak (ux 8 sc.nd)
 (ak (cX (cB (ai aj av) m.range) (aT 9 sc.nd) (az (jU 8 hr.units (bg (aZ N2 hr (ai (aa 0) (ai (bD aj (aa 9)) av))) (aa 3)) (aq (aa 5) (aa 9)))))
 (ak (a_ (br hr.units (bg (bY (aa 1) aj) aj) aj) (az (jU 8 hr.units aj (aq aU (bg (bD (aZ N2 hr (ai (aa 0) (ai aj av))) aj) aj)))) aY)
 (ak (aM 10 sc.nd (aZ Oe hr (ai (aa 7) (ai (aa 6) (ai (aa 8) av)))))
 (ak (aM 11 sc.nd (nM (ai (aa 8) av) m.dict))
 (ak (a_ (fz (gW (jD (iA (aZ N3 hr (ai (iZ Oc hr (ai (aa 7) (ai (aa 6) (ai (aa 11) av)))) (ai (aa 10) av))))) (iz (HQ hr.units (aa 11) (aa 8))))) (az (aH iJ)) aY)
 (ak (jU 11 hr.units (bg (bD (e_ hr.units (aa 8) (aq (aa 5) aj)) aj) (aa 3)) (aq (aa 5) aj))
 (ak (a_ (jD (iA (aZ N3 hr (ai (iZ Oc hr (ai (aa 7) (ai (aa 6) (ai (aa 11) av)))) (ai (aZ Oe hr (ai (aa 7) (ai (aa 6) (ai (aa 11) av)))) av))))) (az (aH iJ)) aY)
 (ak (a_ (jD (iA (aZ N3 hr (ai (iZ Oc hr (ai (aa 7) (ai (bR (aA aU (aA (aa 6) aV))) (ai (aa 8) av)))) (ai (oG (aa 10)) av))))) (az (aH iJ)) aY)
 (ak (a_ (br hr.units (aZ OC hr (ai (aa 6) av)) (cQ aV)) (ak (a_ (jD (iA (aZ N3 hr (ai (iZ Oc hr (ai (aa 7) (ai (aa 6) (ai tN av)))) (ai (aa 10) av))))) (az (aH iJ)) aY)
 (az (aH (tM (aZ N3 hr (ai (ET OQ hr (ai (aa 7) (ai (aa 6) av))) (ai (aa 10) av))) (p_ (aZ N3 hr (ai (iZ Oc hr (ai (aa 7) (ai (aa 6) (ai CW av)))) (ai (aa 10) av)))))))) aY)
 (az (aH (aZ N3 hr (ai (iZ Oc hr (ai (aa 7) (ai (aa 6) (ai (aa 8) av)))) (ai (aa 10) av))))))))))))))))))))))))) (λas r _ h=>h)
end
end K14
namespace K14
open PySem PySem.Spec PyProof.Rows DL K01 WP K12
variable {A B L:List Str}
theorem IJ (c:Int):∃L:List Str,gX [.d (.int c)]=.ok (.l .fresh (L.map .str))/\L.length=8/\∀x∈L,isLet x=true:=by
 refine ⟨(QX 8).map λ(k:Nat)=>⟨#[97 + ((c + 7 * (k:Int)) % 26).toNat]⟩,cS (bJ (r:=.l .fresh (((QX 8).map λ(k:Nat)=>(⟨#[97 + ((c + 7 * (k:Int)) % 26).toNat]⟩:Str)).map .str)) ?_ rfl rfl),by simp,λx hx=>?_⟩
 ·rw [R3];exact sN (α:=Nat) (h:=dN) (λ(k:Nat)=>.str ⟨#[97 + ((c + 7 * (k:Int)) % 26).toNat]⟩) (A5 rfl (by decide)) (by simp) λk hk=>⟨_,WP.two rfl (WP.two (WP.two rfl (WP.two rfl rfl (mw 7 k (by decide) (by decide))) (cU _ _)) rfl (bC _ 26 (by decide))) (q_ _ (by omega) (by omega)),rfl⟩
 ·obtain ⟨k,_,rfl⟩:=Rg.mp hx;unfold isLet;show (decide (97<=97 + ((c + 7 * (k:Int)) % 26).toNat) && decide (97 + ((c + 7 * (k:Int)) % 26).toNat < 123))=true;rw [Ra,decide_eq_true_eq,decide_eq_true_eq];omega
theorem Bl (n:Int) (h4:L.length=8) (hA:A.length<=1000) (hB:B.length<=1000):∃s,fE [.d (.int n),.d (dw A B),.bor (L.map .str)]=.ok (.d s)/\Sy A B L 1 s/\dep s<=2/\(bK 1 s).length<=1:=by
 obtain ⟨a,ha,ea⟩:=f_ (m:=.bor) (L:=L) (n / 3 % 8) (by omega) (by omega);obtain ⟨b,hb,eb⟩:=f_ (m:=.bor) (L:=L) (n / 24 % 8) (by omega) (by omega);have key:Wp (fE [.d (.int n),.d (dw A B),.bor (L.map .str)]) λr=>∃s,r=.d s/\Sy A B L 1 s/\dep s<=2/\(bK 1 s).length<=1:=by
  refine se (bL (WP.two rfl (WP.two (WP.two rfl rfl (cI n 3 (by decide) (by decide))) rfl (bC _ 8 (by decide))) ea) rfl (bL (WP.two rfl (WP.two (WP.two rfl rfl (cI n 24 (by decide) (by decide))) rfl (bC _ 8 (by decide))) eb) rfl ?_));refine bx (gR (c:=(n % 3 == 0) && !A.isEmpty) (qA (bZ (WP.two (WP.two rfl rfl (bC n 3 (by decide))) rfl (eq_int false _ _))) λ_=>bZ (WP.two rfl rfl (zu A))) (λq=>?_) λ_=>ig (bx (gR (c:=(n % 3 == 1) && !B.isEmpty) (qA (bZ (WP.two (WP.two rfl rfl (bC n 3 (by decide))) rfl (eq_int false _ _))) λ_=>bZ (WP.two rfl rfl (zu B))) (λq=>?_) λ_=>ig ?_)))
  ·have hp:0 < A.length:=by
    rw [Ra] at q;cases A with
    | nil=>exact absurd q.2 (by decide)
    | cons x l=>exact Xl _
   obtain ⟨x,hx,ex⟩:=rj (xs:=A) (h:=D.str) (.d (.tup (A.map .str))) rfl (n / 192 % A.length) (Sq _ (by omega)) (SJ _ (by omega));have el:eS [.d (.tup (A.map .str))]=.ok (.d (.int A.length)):=by show M.ok (R.d (.int ((A.map D.str).length:Nat)))=_;rw [QN]
   exact bJ (r:=.d (.tup [.str "mark",.str x,.str a])) (dG (aQ rfl rfl (aQ (WP.two rfl (WP.two (WP.two rfl rfl (cI n 192 (by decide) (by decide))) (n1 rfl el) (bC _ _ (by omega))) ex) rfl (aQ rfl rfl bN))) (QS rfl)) rfl ⟨_,rfl,.tup [.str "mark",.str x,.str a],rfl,.mark hx ha,by show 0 + 1<=2;decide,QV 1⟩
  ·have hp:0 < B.length:=by
    rw [Ra] at q;cases B with
    | nil=>exact absurd q.2 (by decide)
    | cons x l=>exact Xl _
   obtain ⟨x,hx,ex⟩:=rj (xs:=B) (h:=D.str) (.d (.tup (B.map .str))) rfl (n / 192 % B.length) (Sq _ (by omega)) (SJ _ (by omega));have el:eS [.d (.tup (B.map .str))]=.ok (.d (.int B.length)):=by show M.ok (R.d (.int ((B.map D.str).length:Nat)))=_;rw [QN]
   exact bJ (r:=.d (.tup [.str "arrow",.str x,.str a,.str b])) (dG (aQ rfl rfl (aQ (WP.two rfl (WP.two (WP.two rfl rfl (cI n 192 (by decide) (by decide))) (n1 rfl el) (bC _ _ (by omega))) ex) rfl (aQ rfl rfl (aQ rfl rfl bN)))) (QS rfl)) rfl ⟨_,rfl,.tup [.str "arrow",.str x,.str a,.str b],rfl,.arrow hx ha hb,by show 0 + 1<=2;decide,QV 1⟩
  ·exact bJ (r:=.d (.tup [.str "same",.str a,.str b])) (dG (aQ rfl rfl (aQ rfl rfl (aQ rfl rfl bN))) (QS rfl)) rfl ⟨_,rfl,.tup [.str "same",.str a,.str b],rfl,.same ha hb,by show 0 + 1<=2;decide,QV 1⟩
 obtain ⟨r,e,s,rfl,h⟩:=key;exact ⟨s,e,h⟩
theorem Bm (n:Int) (h4:L.length=8){p:Ent}(hp:gK A B L p.1 p.2.1):∃q:Ent,f7 [.d (.int n),.bor (L.map .str),.d (ent p)]=.ok (.d (ent q))/\gK A B L q.1 q.2.1/\q.1=p.1 + 1:=by
 obtain ⟨m,s,a,b⟩:=p;obtain ⟨x,hx,ex⟩:=f_ (m:=.bor) (L:=L) (n / 5 % 8) (by omega) (by omega);have hp:gK A B L m s:=hp;have hy:=hp.sy;obtain ⟨xs,rfl⟩:=hy.tup;have key:Wp (f7 [.d (.int n),.bor (L.map .str),.d (ent (m,.tup xs,a,b))]) λr=>∃q:Ent,r=.d (ent q)/\gK A B L q.1 q.2.1/\q.1=m + 1:=by
  refine se (Ga (d:=ent (m,.tup xs,a,b)) rfl rfl rfl (bL (WP.two rfl (WP.two (WP.two rfl rfl (cI n 5 (by decide) (by decide))) rfl (bC _ 8 (by decide))) ex) rfl (bx (gR (c:=(n % 5 == 0) || decide (2 < a)) (g9 (bZ (WP.two (WP.two rfl rfl (bC n 5 (by decide))) rfl (eq_int false _ _))) λ_=>rfl) (λ_=>?_) λ_=>ig (bx (gR (c:=n % 5 == 4) (bZ (WP.two (WP.two rfl rfl (bC n 5 (by decide))) rfl (eq_int false _ _))) (λ_=>?_) λ_=>ig ?_))))))
  ·exact bJ (r:=.d (ent (m + 1,.tup [.str "not",.tup xs],a,b + 1))) (dG (aQ (dG (aQ rfl rfl (aQ rfl rfl bN)) (QS rfl)) rfl (aQ rfl rfl (aQ (WP.two rfl rfl (cU _ _)) rfl bN))) (QS rfl)) rfl ⟨_,rfl,(m + 1,.tup [.str "not",.tup xs],a,b + 1),rfl,hp.wrap rfl (.not hy) (GG _ _ rfl),rfl⟩
  ·obtain ⟨v,hv,ev⟩:=rj (xs:=[(9:Int),3]) (h:=D.int) (.l .fresh [.int 9,.int 3]) rfl (n / 200 % 2) (by omega) (by show _ < 2;omega);have v0:0 < v:=by
    rcases QZ.mp hv with rfl | hv
    ·decide
    ·rw [QK.mp hv];decide
   exact bJ (r:=.d (ent (m + 1,.tup [.str "least",.int (1 + n / 20 % v),.str x,.tup xs],a + 1,b + 1))) (dG (aQ (dG (aQ rfl rfl (aQ (WP.two rfl (WP.two (WP.two rfl rfl (cI n 20 (by decide) (by decide))) (WP.two (dI (aQ rfl rfl (aQ rfl rfl bN)) (QS rfl)) (WP.two (WP.two rfl rfl (cI n 200 (by decide) (by decide))) rfl (bC _ 2 (by decide))) ev) (bC _ v v0)) (cU _ _)) rfl (aQ rfl rfl (aQ rfl rfl bN)))) (QS rfl)) rfl (aQ (WP.two rfl rfl (cU _ _)) rfl (aQ (WP.two rfl rfl (cU _ _)) rfl bN))) (QS rfl)) rfl ⟨_,rfl,(m + 1,.tup [.str "least",.int (1 + n / 20 % v),.str x,.tup xs],a + 1,b + 1),rfl,hp.wrap rfl (.least (by have:=Sq (n / 20) (show v≠0 by omega);omega) hx hy) (D8 _ _ _ _ rfl rfl rfl),rfl⟩
  ·obtain ⟨v,hv,ev⟩:=f_ (m:=.fresh) (L:=["some","every"]) (n % 2) (by omega) (by show _ < 2;omega);refine bJ (r:=.d (ent (m + 1,.tup [.str v,.str x,.tup xs],a + 1,b + 1))) (dG (aQ (dG (aQ (WP.two (dI (aQ rfl rfl (aQ rfl rfl bN)) (QS rfl)) (WP.two rfl rfl (bC n 2 (by decide))) ev) rfl (aQ rfl rfl (aQ rfl rfl bN))) (QS rfl)) rfl (aQ (WP.two rfl rfl (cU _ _)) rfl (aQ (WP.two rfl rfl (cU _ _)) rfl bN))) (QS rfl)) rfl ⟨_,rfl,(m + 1,.tup [.str v,.str x,.tup xs],a + 1,b + 1),rfl,hp.wrap rfl ?_ (BP _ _ _ rfl rfl),rfl⟩;rcases QZ.mp hv with rfl | hv
   ·exact .some hx hy
   ·rw [QK.mp hv];exact .every hx hy
 obtain ⟨r,e,q,rfl,h⟩:=key;exact ⟨q,e,h⟩
theorem Gj {cs:List Int}(hc:cs.length<=56) (h4:L.length=8) (hA:A.length<=1000) (hB:B.length<=1000):∃q:Ent,gT [.bor (cs.map .int),.d (dw A B),.bor (L.map .str)]=.ok (.d q.2.1)/\gK A B L q.1 q.2.1/\q.1<=57:=by
 have key:Wp (gT [.bor (cs.map .int),.d (dw A B),.bor (L.map .str)]) λr=>∃q:Ent,r=.d q.2.1/\gK A B L q.1 q.2.1/\q.1<=57:=by
  have el:eS [.l .bor (cs.map .int)]=.ok (.d (.int cs.length)):=by show M.ok (R.d (.int ((cs.map D.int).length:Nat)))=_;rw [QN]
  refine se (bL (r:=.l .fresh []) (x:=.own []) (dI bN (Rj _)) rfl (g_ (A5 (n:=cs.length) (jg (n1 rfl el)) (by omega)) (sf (λk e=>∃st y4 y5 y6 y7 y8,e=[some (.bor (cs.map .int)),some (.d (dw A B)),some (.bor (L.map .str)),some (.own (st.map ent)),y4,y5,y6,y7,y8]/\jM A B L k st) _ ⟨[],none,none,none,none,none,rfl,⟨(λp hp=>by cases hp),QV 0⟩⟩ ?_ ?_)))
  ·rintro k hk e ⟨st,y4,y5,y6,y7,y8,rfl,ok⟩;rw [QN,RO] at hk;refine ⟨[some (.bor (cs.map .int)),some (.d (dw A B)),some (.bor (L.map .str)),some (.own (st.map ent)),some (.d (dN k)),y5,y6,y7,y8],by rw [Zh,List.getElem_range];rfl,?_⟩;have ec:aP (.l .bor (cs.map .int)) (.d (dN k))=.ok (.d (.int cs[k])):=kg (by rw [Rh,Q5 hk];rfl);generalize hN:(cs[k] % 18446744073709551616 + 613 * (k:Int)) * 71993 % 998244353=N;have sl:=ok.len;refine bL (r:=.d (.int N)) (x:=.d (.int N)) (hN▸WP.two (WP.two (WP.two (WP.two (WP.two rfl rfl ec) (WP.two rfl rfl tR) (bC _ _ (by decide))) (WP.two rfl rfl (mw 613 k (by decide) (by decide))) (cU _ _)) rfl (i6 _ 71993 (by decide) (by decide))) rfl (bC _ 998244353 (by decide))) rfl ?_;refine bL (r:=.d (.int (N % 7))) (x:=.d (.int (N % 7))) (WP.two rfl rfl (bC N 7 (by decide))) rfl (bL (r:=.d (.int (N / 7))) (x:=.d (.int (N / 7))) (WP.two rfl rfl (cI N 7 (by decide) (by decide))) rfl ?_);generalize N % 7=w;generalize N / 7=r;have push:∀y8:Option S,Wp (dR 3 (b7 (ao (gN (aB 3 K14.fE) (ah (af 7) (ah (af 1) (ah (af 2) ay)))) (ao (gC (.int 0)) (ao (gC (.int 0)) aK)))) [some (.bor (cs.map .int)),some (.d (dw A B)),some (.bor (L.map .str)),some (.own (st.map ent)),some (.d (dN k)),some (.d (.int N)),some (.d (.int w)),some (.d (.int r)),y8]) λo=>∃e,o=.nx e/\∃st y4 y5 y6 y7 y8,e=[some (.bor (cs.map .int)),some (.d (dw A B)),some (.bor (L.map .str)),some (.own (st.map ent)),y4,y5,y6,y7,y8]/\jM A B L (k + 1) st:=λy8=>by obtain ⟨s,es,h1,h2,h3⟩:=Bl (A:=A) (B:=B) (L:=L) r h4 hA hB;refine wX (xs:=st.map ent) (d:=ent (1,s,0,0)) rfl (dG (aQ (c3 (x:=.d (.int r)) (y:=.d (dw A B)) (w:=.l .bor (L.map .str)) (z:=.d s) rfl rfl rfl es) rfl (aQ rfl rfl (aQ rfl rfl bN))) (QS rfl)) rfl (by rw [QN];omega) ⟨_,rfl,st++[(1,s,0,0)],some (.d (dN k)),some (.d (.int N)),some (.d (.int w)),some (.d (.int r)),y8,?_,ok.push (q:=(1,s,0,0)) ⟨QV 1,h1,h2,h3⟩ (QV 1)⟩;rw [RS];rfl
   rcases XC st with rfl | ⟨l,p,rfl⟩
   ·exact c5 rfl (push y8)
   rw [XD] at ok sl push ⊢;have e0:=ne_nil ok (by omega);have hp:=ok.ok p (by simp);have mp:(l++[p]).map ent=l.map ent++[ent p]:=by rw [RS];rfl
   have lp:(l++[p]).length=l.length + 1:=by rw [QU];rfl
   have ei:aP (.l .own ((l++[p]).map ent)) (.d (.int (-1)))=.ok (.d (ent p)):=by rw [mp];exact GZ _ _ _
   refine gR (c:=false || (decide (w < 3) || decide (11 < p.2.2.2))) (g9 (bZ (WP.two rfl (dI bN (Rj _)) e0)) λ_=>g9 rfl λ_=>bZ (WP.two (WP.two (WP.two rfl rfl ei) rfl rfl) rfl rfl)) (λ_=>push y8) λ_=>?_;have eL:eS [.l .own ((l++[p]).map ent)]=.ok (.d (.int ((l++[p]).length:Nat))):=by show M.ok (R.d (.int (((l++[p]).map ent).length:Nat)))=_;rw [QN]
   refine gR (c:=(w == 3) && decide (1 < (((l++[p]).length:Nat):Int))) (qA (bZ (WP.two rfl rfl (eq_int false _ _))) λ_=>bZ (WP.two (n1 rfl eL) rfl rfl)) (λ_=>?_) λ_=>?_
   ·obtain ⟨m,hm,em⟩:∃m:Nat,0 < m/\(2:Int) + r / 2 % 2=m:=⟨(2 + r / 2 % 2).toNat,by omega,by omega⟩;refine bL (r:=.d (.int m)) (x:=.d (.int m)) (em▸WP.two rfl (WP.two (WP.two rfl rfl (cI r 2 (by decide) (by decide))) rfl (bC _ 2 (by decide))) (cU _ _)) rfl ?_;have hdr:((l++[p]).map ent).drop (((l++[p]).map ent).length - m)=((l++[p]).drop ((l++[p]).length - m)).map ent:=by rw [QN,VJ]
    have htk:((l++[p]).map ent).take (((l++[p]).map ent).length - m)=((l++[p]).take ((l++[p]).length - m)).map ent:=by rw [QN,VI]
    obtain ⟨q,eq,h1,h2⟩:=vq (A:=A) (B:=B) (L:=L) r (st:=(l++[p]).drop ((l++[p]).length - m)) (λx hx=>ok.ok x (List.mem_of_mem_drop hx)) (by rw [SM];omega);refine gD (r:=.l .fresh (((l++[p]).take ((l++[p]).length - m)++[q]).map ent)) (x:=.own (((l++[p]).take ((l++[p]).length - m)++[q]).map ent)) (WP.two (x:=.l .fresh (((l++[p]).take ((l++[p]).length - m)).map ent)) (y:=.l .fresh [ent q]) ?_ (dI (aQ (c2 (x:=.d (.int r)) (y:=.l .fresh (((l++[p]).drop ((l++[p]).length - m)).map ent)) (z:=.d (ent q)) rfl ?_ eq) rfl bN) (QS rfl)) ?_) rfl ⟨_,rfl,_,_,_,_,_,_,rfl,ok.swap h1 h2⟩
    ·show M.ok (R.l .fresh (cutD ((l++[p]).map ent) none (some (-(m:Int)))))=_;rw [D3 _ m hm,htk]
    ·show M.ok (R.l .fresh (cutD ((l++[p]).map ent) (some (-(m:Int))) none))=_;rw [D5 _ m hm,hdr]
    ·rw [v_ _ _ (by rw [QN,Sv];show _ + 1<=1000;omega),RS];rfl
   refine gR (c:=(w == 4) && (r % 4 == 0)) (qA (bZ (WP.two rfl rfl (eq_int false _ _))) λ_=>bZ (WP.two (WP.two rfl rfl (bC r 4 (by decide))) rfl (eq_int false _ _))) (λ_=>?_) λ_=>?_
   ·obtain ⟨v,hv,ev⟩:=f_ (m:=.fresh) (L:=["and","or"]) (r / 4 % 2) (by omega) (by show _ < 2;omega);have hv:v="and"\/v="or":=by
     rcases QZ.mp hv with rfl | hv
     ·exact .inl rfl
     ·exact .inr (QK.mp hv)
    refine wX (xs:=(l++[p]).map ent) (d:=ent (1,.tup [.str v,.tup []],0,0)) rfl (dG (aQ (dG (aQ (WP.two (dI (aQ rfl rfl (aQ rfl rfl bN)) (QS rfl)) (WP.two (WP.two rfl rfl (cI r 4 (by decide) (by decide))) rfl (bC _ 2 (by decide))) ev) rfl (aQ (dG bN (Rj _)) rfl bN)) (QS rfl)) rfl (aQ rfl rfl (aQ rfl rfl bN))) (QS rfl)) rfl (by rw [QN];omega) ⟨_,rfl,(l++[p])++[(1,.tup [.str v,.tup []],0,0)],some (.d (dN k)),some (.d (.int N)),some (.d (.int w)),some (.d (.int r)),y8,?_,ok.push (q:=(1,.tup [.str v,.tup []],0,0)) (Ir hv) (QV 1)⟩;rw [RS (l₁:=l++[p])];rfl
   ·obtain ⟨q,eq,h1,h2⟩:=Bm (A:=A) (B:=B) (L:=L) r h4 hp;have sw:=ok.swap (c:=l.length) (q:=q) h1 (by rw [List.drop_left];show q.1<=p.1 + 0 + 1;omega);rw [List.take_left] at sw;refine gD (r:=.l .fresh ((l++[q]).map ent)) (x:=.own ((l++[q]).map ent)) (WP.two (x:=.l .fresh (l.map ent)) (y:=.l .fresh [ent q]) ?_ (dI (aQ (c3 (x:=.d (.int r)) (y:=.l .bor (L.map .str)) (w:=.d (ent p)) (z:=.d (ent q)) rfl rfl (WP.two rfl rfl ei) eq) rfl bN) (QS rfl)) ?_) rfl ⟨_,rfl,_,_,_,_,_,_,rfl,sw⟩
    ·show M.ok (R.l .fresh (cutD ((l++[p]).map ent) none (some (-1))))=_;rw [mp,D4]
    ·rw [v_ _ _ (by rw [QN];show _ + 1<=1000;omega),RS];rfl
  ·rintro e ⟨st,y4,y5,y6,y7,y8,rfl,ok⟩;rw [QN,RO] at ok;have sl:=ok.len;obtain ⟨q,eq,h1,h2⟩:=vq (A:=A) (B:=B) (L:=L) (cs.length:Int) ok.ok (by omega);have:=ok.sum;exact bJ (r:=.d q.2.1) (WP.two (c2 (x:=.d (.int cs.length)) (y:=.l .own (st.map ent)) (z:=.d (ent q)) (n1 rfl el) rfl eq) rfl rfl) rfl ⟨_,rfl,q,rfl,h1,by omega⟩
 obtain ⟨r,e,q,rfl,h⟩:=key;exact ⟨q,e,h⟩
end K14
namespace K14
open PySem PySem.Spec PyProof.Rows DL K01 WP K16
open K12 (Sy wit dO bnd wd bF b9 cG gE bZ g9)
variable {A B L:List Str}{k:Nat}{d:D}{w:Wd}
theorem wH {α:Type}{l:List α}{p:α->Bool}{r:α}(h:l.find? p=some r):∃t,l.filter p=r::t:=by
 induction l with
 | nil=>cases h
 | cons x l ih=>
  rw [R8] at h;rw [WX];cases q:p x with
  | true=>rw [q] at h;cases h;exact ⟨_,rfl⟩
  | false=>rw [q] at h;exact ih h
section
variable {Fr:List S->M R}{s:S} {ρ:Str->Nat}{j N:Nat}{x:D}{a:Str}
noncomputable abbrev bT (Fr:List S->M R):G O:=(au (aO 5 (gN kY (ah (af 2) ay)))
 (au (jo 5 (g2 aP (af 1) (iH (gC (.int 2)))) (af 4))
 (aG (aJ (gN (aB 3 Fr) (ah (af 0) (ah (g2 aP (af 1) (iH (gC (.int 1)))) (ah (af 5) ay))))) (aO 3 (g2 bA (af 3) (gC (.int 1)))) bf)))
theorem Jv {f:Nat->Bool}(q:Nat):(((QX (q + 1)).filter f).length:Int)=((QX q).filter f).length + (if f q then 1 else 0):=by rw [Xo,Wa,QU];cases h:f q <;> simp [h]
theorem xh (m8:w.m<=8) (hi2:aP (.d d) (.d (.int (-2)))=.ok (.d (.str a))) (hi1:aP (.d d) (.d (.int (-1)))=.ok (.d x)) (hN:N<=900){rs:R}{ss:List Str}{xs:List D}(h1:s.rd=.ok rs) (h3:kU rs=some (ss,xs)) (h4:ss.length=xs.length) (h5:ss.length<=N)
  (hF:∀b∈bF j x,b≠a->cF ss xs b=some (dN (ρ b))/\ρ b < w.m) (IH:∀(s:S) (ρ:Str->Nat),Pl w.m s (bF j x) ρ (N + 1)->Fr [.d w.d,.d x,s]=.ok (.d (.bl (sem w j x ρ)))):
  Wp (dj (aF 4) (bT Fr) ((QX w.m).map dN) [some (.d w.d),some (.d d),some s,some (.d (.int 0)),none,none])
   (λo=>∃e4 e5:Option S,o=.nx [some (.d w.d),some (.d d),some s,some (.d (.int (K16.cnt w.m λq=>sem w j x (put ρ a q):Nat))),e4,e5]):=by
 rw [<-K_];refine vm (n:=w.m) (λq env=>∃e4 e5:Option S,env=[some (.d w.d),some (.d d),some s,some (.d (.int (((QX q).filter λq=>sem w j x (put ρ a q)).length:Nat))),e4,e5]) ⟨none,none,rfl⟩ ?_ ?_
 ·rintro q hq _ ⟨e4,e5,rfl⟩;refine ⟨_,rfl,bL (r:=.o .fresh (.txt ss) xs) (x:=.oo (.txt ss) xs) (n1 (x:=rs) (c9 rfl h1) ?_) rfl ?_⟩
  ·show (match kU rs with
    | some z=>M.ok (R.o .fresh (.txt z.1) z.2)
    | none=>.bad)=_
   rw [h3]
  refine bx (rA (d:=dN q) (a:=a) rfl rfl rfl (WP.two (x:=.d d) (y:=.d (.int (-2))) rfl rfl hi2) (by omega) ?_);have hl:(bw ss xs a (dN q)).1.length<=N + 1:=by
   unfold bw;split
   ·show ss.length<=_;omega
   ·show (ss++[a]).length<=_;rw [QU];show ss.length + 1<=_;omega
  have hc:=c3 (env:=[some (.d w.d),some (.d d),some s,some (.d (.int (((QX q).filter λq=>sem w j x (put ρ a q)).length:Nat))),some (.d (dN q)),some (.oo (.txt (bw ss xs a (dN q)).1) (bw ss xs a (dN q)).2)]) (g:=af 0) (h:=g2 aP (af 1) (iH (gC (.int 1)))) (k:=af 5) (F:=Fr) (x:=.d w.d) (y:=.d x) (w:=.o .own (.txt (bw ss xs a (dN q)).1) (bw ss xs a (dN q)).2) (z:=.d (.bl (sem w j x (put ρ a q)))) rfl (WP.two (x:=.d d) (y:=.d (.int (-1))) rfl rfl hi1) rfl (IH _ _ (CT h4 hF hq hl));have e:=Jv (f:=λq=>sem w j x (put ρ a q)) q;refine gR (bZ hc) (λc=>gD (WP.two rfl rfl (cU _ _)) rfl ⟨_,rfl,some (.d (dN q)),some (.oo (.txt (bw ss xs a (dN q)).1) (bw ss xs a (dN q)).2),?_⟩) λc=>ig ⟨_,rfl,some (.d (dN q)),some (.oo (.txt (bw ss xs a (dN q)).1) (bw ss xs a (dN q)).2),?_⟩
  ·rw [c,if_pos rfl] at e;rw [e];rfl
  ·rw [c,if_neg (by decide),Int.add_zero] at e;rw [e];rfl
 ·rintro _ ⟨e4,e5,rfl⟩;exact ⟨e4,e5,rfl⟩
theorem Ji (m:Nat) (f:Nat->Bool):K16.cnt m f<=m:=by have:=Uv f (QX m);rw [RO] at this;exact this
theorem mY (m8:w.m<=8) (h:Sy A B L (j + 1) d) (ha:dO d=[a]) (hb:(bnd d).isEmpty=false) (hw:wit d=[x]) (hN:N<=900) (hs:Pl w.m s (bF (j + 1) d) ρ N)
  (IH:∀(s:S) (ρ:Str->Nat),Pl w.m s (bF j x) ρ (N + 1)->Fr [.d w.d,.d x,s]=.ok (.d (.bl (sem w j x ρ)))):jJ Fr [.d w.d,.d d,s]=.ok (.d (.bl (sem w (j + 1) d ρ))):=by
 obtain ⟨rs,ss,xs,h1,h2,h3,h4,h5,h6⟩:=hs.ex;have hF:∀b∈bF j x,b≠a->cF ss xs b=some (dN (ρ b))/\ρ b < w.m:=λb hb' e=>h6 b (nq hb ha (by rw [hw];exact QK.mpr rfl) hb' e);refine cS (bL (r:=.d (.int 0)) rfl rfl (g_ (ds:=(QX w.m).map dN) (A5 (jg (WP.two (x:=.d w.d) (y:=.d (.int 0)) rfl rfl rfl)) (by omega)) ?_));cases h with
 | mark _ _=>cases hb
 | arrow _ _ _=>cases hb
 | same _ _=>cases hb
 | not _=>cases hb
 | and _ _=>cases hb
 | or _ _=>cases hb
 | some i1 i2=>
  cases ha;cases hw;refine (xh m8 rfl rfl hN h1 h3 h4 h5 hF IH).mono ?_;rintro o ⟨e4,e5,rfl⟩;refine bx (c5 rfl (bJ rfl rfl ?_));show O.rt (R.d (.bl (decide ((0:Int) < (K16.cnt w.m _:Nat)))))=O.rt (R.d (.bl (decide (1<=K16.cnt w.m _))));congr 3;rw [decide_eq_decide];omega
 | every i1 i2=>
  cases ha;cases hw;refine (xh m8 rfl rfl hN h1 h3 h4 h5 hF IH).mono ?_;rintro o ⟨e4,e5,rfl⟩;refine aE rfl (bx (c5 rfl (bJ (WP.two (x:=.d (.int _)) (y:=.d (.int w.m)) rfl rfl (eq_int false _ _)) rfl ?_)));show O.rt (R.d (.bl (((K16.cnt w.m _:Nat):Int) == (w.m:Int))))=O.rt (R.d (.bl (decide (w.m<=K16.cnt w.m _))));congr 3;rw [Tc,beq_iff_eq,decide_eq_true_iff];exact ⟨λe=>by omega,λe=>by have:=Nat.le_antisymm (Ji _ _) e;omega⟩
 | least i0 i1 i2=>
  cases ha;cases hw;refine (xh m8 rfl rfl hN h1 h3 h4 h5 hF IH).mono ?_;rintro o ⟨e4,e5,rfl⟩;exact aE rfl (aE rfl (bJ rfl rfl rfl))
theorem Ct {ys:List D}(t:Bool) (wd0:Str) (hw:bu false (.d (.str wd0)) (.d (.str "or"))=.ok (.d (.bl t))) (e1:Option S) (hs:∃r,s.rd=.ok r/\bO r=s) (IH:∀x∈ys,Fr [.d w.d,.d x,s]=.ok (.d (.bl (sem w j x ρ)))):∀(zs:List D),(∀x∈zs,x∈ys)->∀x:Option S,
  Wp (dj (aF 5) (aG (aJ (g2 (bu false) (gN (aB 3 Fr) (ah (af 0) (ah (af 5) (ah (af 2) ay)))) (g2 (bu false) (af 3) (gC (.str "or"))))) (aL (g2 (bu false) (af 3) (gC (.str "or")))) bf) zs [some (.d w.d),e1,some s,some (.d (.str wd0)),none,x])
   (λo=>((∃z,o=.nx [some (.d w.d),e1,some s,some (.d (.str wd0)),none,z])/\(zs.any λx=>sem w j x ρ == t)=false)\/(o=.rt (.d (.bl t))/\(zs.any λx=>sem w j x ρ == t)=true)):=by
 obtain ⟨r,h1,h2⟩:=hs;intro zs
 induction zs with
 | nil=>intro _ x;exact ⟨_,rfl,.inl ⟨⟨_,rfl⟩,rfl⟩⟩
 | cons z zs ih=>
  intro hz x;have ht:aJ (g2 (bu false) (gN (aB 3 Fr) (ah (af 0) (ah (af 5) (ah (af 2) ay)))) (g2 (bu false) (af 3) (gC (.str "or")))) [some (.d w.d),e1,some s,some (.d (.str wd0)),none,some (.d z)]=.ok (sem w j z ρ == t):=bZ (WP.two (x:=cg (.d (.bl (sem w j z ρ)))) (y:=.d (.bl t)) (c3 (x:=.d w.d) (y:=.d z) (w:=r) (z:=.d (.bl (sem w j z ρ))) rfl rfl (c9 rfl h1) (by rw [h2];exact IH z (hz z QT))) (WP.two (x:=.d (.str wd0)) (y:=.d (.str "or")) rfl rfl hw) rfl);rw [Sx];unfold dj;show Wp (aG _ _ _ [some (.d w.d),e1,some s,some (.d (.str wd0)),none,some (.d z)] >>= _) _;cases q:sem w j z ρ == t with
  | true=>
   rw [q] at ht;rw [jA ht,rM (WP.two (x:=.d (.str wd0)) (y:=.d (.str "or")) rfl rfl hw) rfl];exact ⟨_,rfl,.inr ⟨rfl,rfl⟩⟩
  | false=>
   rw [q] at ht;rw [iI ht];exact ih (λx hx=>hz x (QO _ hx)) _
end
theorem vv (nA:∀n∈A,n∈w.ms.map RD) (nB:∀n∈B,n∈w.ar.map RD) (l1:w.ms.length<=100) (l2:w.ar.length<=100) (hm:w.m<=8):∀(n k:Nat){d:D},Sy A B L k d->k<=n->∀(s:S) (ρ:Str->Nat) (N:Nat),N + k<=900->Pl w.m s (bF k d) ρ N->eX n [.d w.d,.d d,s]=.ok (.d (.bl (sem w k d ρ)))
 | 0,k,d,h,hk=>by obtain ⟨_,e⟩:=b9 h;omega
 | n + 1,k,d,h,hk=>by
  obtain ⟨j,rfl⟩:=b9 h;intro s ρ N hN hs;obtain ⟨rs,ss,xs,h1,h2,h3,h4,h5,h6⟩:=hs.ex;have IH:∀x∈wit d,∀(s:S) (ρ:Str->Nat),Pl w.m s (bF j x) ρ (N + 1)->eX n [.d w.d,.d x,s]=.ok (.d (.bl (sem w j x ρ))):=λx hx s' ρ' hs'=>vv nA nB l1 l2 hm n j (cG h x hx) (by omega) s' ρ' (N + 1) (by omega) hs';have sub:(bnd d).isEmpty=true->∀x∈wit d,Pl w.m s (bF j x) ρ (N + 1):=λhb x hx=>⟨rs,ss,xs,h1,h2,h3,h4,by omega,λa ha=>h6 a (qN hb hx ha)⟩;show fin (lP (eX n) [some (.d w.d),some (.d d),some s,none,none,none])=_;refine cS (bL (r:=.d (.str (wd d))) (WP.two (x:=.d d) (y:=.d (.int 0)) rfl rfl (oO h)) rfl ?_);have hz:=h;cases h with
  | @mark _ nm a i1 i2=>
   obtain ⟨r,hr⟩:=ou (nA _ i1);obtain ⟨t,ht⟩:=wH hr;refine bx (c5 rfl (bJ (WP.two (x:=.d (dN (ρ a))) (y:=.d (.tup (r.2.map dN))) (nJ hs rfl rfl (d7 rfl (QK.mpr rfl))) (WP.two (x:=.l .fresh ((w.ms.filter λr=>r.1 == nm).map λr=>.tup (r.2.map dN))) (y:=.d (.int 0)) (wj (xs:=w.ms) (λr=>.str r.1) (λr=>.tup (r.2.map dN)) (λr=>r.1 == nm) (λr=>.tup (r.2.map dN)) rfl (by omega) λr hr=>⟨rfl,λ_=>⟨_,rfl,rfl⟩⟩) rfl (by rw [ht];exact kg (k:=0) rfl)) (K51.JH _ r.2)) rfl ?_));show O.rt (R.d (.bl (inD (dN (ρ a)) (r.2.map dN))))=O.rt (R.d (.bl (yS w nm (ρ a))));unfold yS;rw [hr,K55.inN]
  | @arrow _ nm a b i1 i2 i3=>
   obtain ⟨r,hr⟩:=ou (nB _ i1);obtain ⟨t,ht⟩:=wH hr;refine aE rfl (bx (c5 rfl (bL (r:=.d (.tup (r.2.map dP))) (WP.two (x:=.l .fresh ((w.ar.filter λr=>r.1 == nm).map λr=>.tup (r.2.map dP))) (y:=.d (.int 0)) (wj (xs:=w.ar) (λr=>.str r.1) (λr=>.tup (r.2.map dP)) (λr=>r.1 == nm) (λr=>.tup (r.2.map dP)) rfl (by omega) λr hr=>⟨rfl,λ_=>⟨_,rfl,rfl⟩⟩) rfl (by rw [ht];exact kg (k:=0) rfl)) rfl (bJ (WP.two (x:=.d (dP (ρ a,ρ b))) (y:=.d (.tup (r.2.map dP))) (dG (aQ (nJ hs rfl rfl (d7 rfl QT)) rfl (aQ (nJ hs rfl rfl (d7 rfl (QO _ (QK.mpr rfl)))) rfl bN)) (QS rfl)) rfl (K51.JI _ r.2)) rfl ?_))));show O.rt (R.d (.bl (inD (dP (ρ a,ρ b)) (r.2.map dP))))=O.rt (R.d (.bl (w4 w nm (ρ a) (ρ b))));unfold w4;rw [hr,K55.FP]
  | @same _ a b i1 i2=>
   refine aE rfl (aE rfl (bx (c5 rfl (bJ (WP.two (x:=.d (dN (ρ a))) (y:=.d (dN (ρ b))) (nJ hs rfl rfl (d7 rfl QT)) (nJ hs rfl rfl (d7 rfl (QO _ (QK.mpr rfl)))) (eq_int false _ _)) rfl ?_))));show O.rt (R.d (.bl ((ρ a:Int) == (ρ b:Int))))=O.rt (R.d (.bl (ρ a == ρ b)));congr 3;rw [Tc,beq_iff_eq,beq_iff_eq];omega
  | @not _ ys i1=>exact aE rfl (aE rfl (aE rfl (bx (c5 rfl (bJ (rC (b:=sem w j (.tup ys) ρ) (c3 (x:=.d w.d) (y:=.d (.tup ys)) (w:=rs) (z:=.d (.bl (sem w j (.tup ys) ρ))) rfl rfl (c9 rfl h1) (by rw [h2];exact IH _ (QK.mpr rfl) s ρ (sub rfl _ (QK.mpr rfl))))) rfl rfl)))))
  | @and _ ys i1 i2=>
   refine aE rfl (aE rfl (aE rfl (aE rfl (bx (c5 rfl (g_ (ds:=ys) rfl ((Ct (ys:=ys) (j:=j) (ρ:=ρ) false _ rfl _ ⟨rs,h1,h2⟩ (λx hx=>IH x hx s ρ (sub rfl x hx)) ys (λ_ h=>h) none).mono ?_)))))));rintro o (⟨⟨z,rfl⟩,hh⟩ | ⟨rfl,hh⟩)
   ·refine bJ rfl rfl ?_;show O.rt (R.d (.bl true))=O.rt (R.d (.bl (ys.all λs=>sem w j s ρ)));rw [<-n_,hh];rfl
   ·show O.rt (R.d (.bl false))=O.rt (R.d (.bl (ys.all λs=>sem w j s ρ)));rw [<-n_,hh];rfl
  | @or _ ys i1 i2=>
   refine aE rfl (aE rfl (aE rfl (aE rfl (bx (c5 rfl (g_ (ds:=ys) rfl ((Ct (ys:=ys) (j:=j) (ρ:=ρ) true _ rfl _ ⟨rs,h1,h2⟩ (λx hx=>IH x hx s ρ (sub rfl x hx)) ys (λ_ h=>h) none).mono ?_)))))));rintro o (⟨⟨z,rfl⟩,hh⟩ | ⟨rfl,hh⟩)
   ·refine bJ rfl rfl ?_;show O.rt (R.d (.bl false))=O.rt (R.d (.bl (ys.any λs=>sem w j s ρ)));rw [<-oh,hh]
   ·show O.rt (R.d (.bl true))=O.rt (R.d (.bl (ys.any λs=>sem w j s ρ)));rw [<-oh,hh]
  | some i1 i2=>exact aE rfl (aE rfl (aE rfl (aE rfl (aE rfl (bJ (c3 (x:=.d w.d) (y:=.d _) (w:=rs) (z:=.d (.bl _)) rfl rfl (c9 rfl h1) (by rw [h2];exact mY hm hz rfl rfl rfl (by omega) hs (IH _ (QK.mpr rfl)))) rfl rfl)))))
  | every i1 i2=>exact aE rfl (aE rfl (aE rfl (aE rfl (aE rfl (bJ (c3 (x:=.d w.d) (y:=.d _) (w:=rs) (z:=.d (.bl _)) rfl rfl (c9 rfl h1) (by rw [h2];exact mY hm hz rfl rfl rfl (by omega) hs (IH _ (QK.mpr rfl)))) rfl rfl)))))
  | least i0 i1 i2=>exact aE rfl (aE rfl (aE rfl (aE rfl (aE rfl (bJ (c3 (x:=.d w.d) (y:=.d _) (w:=rs) (z:=.d (.bl _)) rfl rfl (c9 rfl h1) (by rw [h2];exact mY hm hz rfl rfl rfl (by omega) hs (IH _ (QK.mpr rfl)))) rfl rfl)))))
end K14
namespace K14
open PySem PySem.Spec PyProof.Rows DL K01 WP K16
open K12 (Sy wit dO bnd own wd bF b9 cG gE bZ g9 bK zy Cv d8 fM i7)
variable {A B L:List Str}{k:Nat}{d:D}{w:Wd}
noncomputable def fl:Nat->D->List Str
 | 0,_=>[]
 | k + 1,d=>(own d++(wit d).flatMap (fl k)).filter λx=>!(bnd d).contains x
theorem qI:∀{k:Nat}{d:D},Sy A B L k d->(fl k d).length<=2 * (bK k d).length
 | 0,_,h=>by obtain ⟨_,e⟩:=b9 h;cases e
 | k + 1,d,h=>by
  have key:∀l:List D,(∀s∈l,Sy A B L k s)->(l.flatMap (fl k)).length<=2 * (l.flatMap (bK k)).length:=λl=>by
   induction l with
   | nil=>exact λ_=>QV _
   | cons s l ih=>
    intro hl;have h1:=ih λx hx=>hl x (QO _ hx);have h2:=qI (hl s QT);rw [Rr,Rr,QU,QU];omega
  have h1:=key (wit d) (cG h);have h2:=zy h;have h3:=Uv (λx=>!(bnd d).contains x) (own d++(wit d).flatMap (fl k));rw [QU] at h3;show ((own d++(wit d).flatMap (fl k)).filter λx=>!(bnd d).contains x).length<=2 * (d::(wit d).flatMap (bK k)).length;rw [Rm];omega
theorem GB (h:Sy A B L k d) (q:(bnd d).isEmpty=false):∃a,bnd d=[a]/\own d=[]/\dO d=[a]:=by
 cases h with
 | some _ _=>exact ⟨_,rfl,rfl,rfl⟩
 | every _ _=>exact ⟨_,rfl,rfl,rfl⟩
 | least _ _ _=>exact ⟨_,rfl,rfl,rfl⟩
 | _=>cases q
theorem B0:∀{k:Nat}{d:D},Sy A B L k d->∀x∈bF k d,x∈fl k d
 | 0,_,h,x,hx=>by cases hx
 | k + 1,d,h,x,hx=>by
  have inner:x∈(wit d).flatMap (bF k)->x∈(wit d).flatMap (fl k):=λhx=>by obtain ⟨s,hs,hx⟩:=Sz.mp hx;exact Sz.mpr ⟨s,hs,B0 (cG h s hs) x hx⟩
  unfold bF at hx;cases hb:(bnd d).isEmpty with
  | true=>
   rw [hb,if_pos rfl] at hx;have e:bnd d=[]:=Zi.mp hb;refine SH.mpr ⟨?_,by rw [e];rfl⟩;rw [Cv h,e,R6] at hx;exact Rl.mpr ((Rl.mp (d8.mp hx)).imp id inner)
  | false=>
   rw [hb,if_neg (by decide)] at hx;obtain ⟨a,e1,e2,e3⟩:=GB h hb;obtain ⟨h1,h2⟩:=SH.mp (d8.mp hx);refine SH.mpr ⟨RB _ (inner h1),?_⟩;rw [e3] at h2;rw [e1];have:(a == x)=false:=by simpa using h2
   have:(x == a)=false:=by rw [beq_eq_false_iff_ne] at this ⊢;exact Sb this
   simp;exact beq_eq_false_iff_ne.mp this
theorem LB (xs ys:List Str) (h:xs.length + ys.length<=10000):kc (.l .own (xs.map .str)) (.l .fresh (ys.map .str))=.ok (.l .fresh ((xs++ys).map .str)):=by unfold kc;show (if (Yy D.str _).length + (Yy D.str _).length<=sizeLine then M.ok (R.l .fresh (Yy D.str _++Yy D.str _)) else .bad)=_;rw [if_pos (by rw [Sd,QN,QN];omega),<-RS]
theorem yG:∀(n:Nat){k:Nat}{d:D},Sy A B L k d->k<=n->(bK k d).length < 2000->fD n [.d d]=.ok (.l .fresh ((fl k d).map .str))
 | 0,k,d,h,hk,_=>by obtain ⟨_,e⟩:=b9 h;omega
 | n + 1,k,d,h,hk,hN=>by
  obtain ⟨j,rfl⟩:=b9 h;have hw:=i7 h;have hN':∀s∈wit d,(bK j s).length < 2000:=λs hs=>by
   have:∀l:List D,s∈l->(bK j s).length<=(l.flatMap (bK j)).length:=λl=>by
    induction l with
    | nil=>exact λh=>nomatch h
    | cons y l ih=>
     intro hm;rw [Rr,QU];rcases QZ.mp hm with rfl | hm
     ·omega
     ·have:=ih hm;omega
   have h1:=this _ hs;have h2:(bK (j + 1) d).length=((wit d).flatMap (bK j)).length + 1:=rfl;omega
  have loop:∀(zs:List D),(∀x∈zs,x∈wit d)->∀(acc:List Str) (x:Option S),acc.length + 2 * (zs.flatMap (bK j)).length<=4000->Wp (dj (aF 3) (aO 1 (g2 kc (af 1) (gN (aB 1 (fD n)) (ah (af 3) ay)))) zs [some (.d d),some (.own (acc.map .str)),some (.d (.lst (wit d))),x]) (λo=>∃z,o=.nx [some (.d d),some (.own ((acc++zs.flatMap (fl j)).map .str)),some (.d (.lst (wit d))),z]):=by
   intro zs
   induction zs with
   | nil=>intro _ acc x _;exact ⟨_,rfl,x,by rw [Vz,R6]⟩
   | cons z zs ih=>
    intro hz acc x hl;have PJ:=hz z QT;have e:=yG n (cG h z PJ) (by omega) (hN' z PJ);have l1:=qI (cG h z PJ);rw [Rr,QU] at hl;unfold dj;show Wp (aO 1 _ [some (.d d),some (.own (acc.map .str)),some (.d (.lst (wit d))),some (.d z)] >>= _) _;refine Wp.bind (gD (r:=.l .fresh ((acc++fl j z).map .str)) (x:=.own ((acc++fl j z).map .str)) (WP.two (x:=.l .own (acc.map .str)) (y:=cg (.l .fresh ((fl j z).map .str))) rfl (c1 (x:=.d z) (z:=.l .fresh ((fl j z).map .str)) rfl e) (LB _ _ (by omega))) rfl ?_);refine (ih (λx hx=>hz x (QO _ hx)) (acc++fl j z) (some (.d z)) (by rw [QU];omega)).mono ?_;rintro o ⟨y,rfl⟩;exact ⟨y,by rw [Rr,Vi]⟩
  have O8:([]:List Str).length + 2 * ((wit d).flatMap (bK j)).length<=4000:=by have h2:(bK (j + 1) d).length=((wit d).flatMap (bK j)).length + 1:=rfl;show 0 + _<=_;omega
  have run:=loop (wit d) (λ_ h=>h) [] none O8;have X4:((wit d).flatMap (fl j)).length<=4000:=by
   have h1:=qI h;have key:∀l:List D,(∀s∈l,Sy A B L j s)->(l.flatMap (fl j)).length<=2 * (l.flatMap (bK j)).length:=λl=>by
    induction l with
    | nil=>exact λ_=>QV _
    | cons s l ih=>
     intro hl;have h1:=ih λx hx=>hl x (QO _ hx);have h2:=qI (hl s QT);rw [Rr,Rr,QU,QU];omega
   have:=key (wit d) (cG h);have h2:(bK (j + 1) d).length=((wit d).flatMap (bK j)).length + 1:=rfl;omega
  have bin:∀{a:Str}(z:Option S),aP (.d d) (.d (.int (-2)))=.ok (.d (.str a))->cZ 1 [0] (gQ (af 1)) (aF 0) (aJ (g2 (bu true) (af 0) (g2 aP (af 1) (iH (gC (.int 2)))))) (af 0) [some (.d d),some (.own (((wit d).flatMap (fl j)).map .str)),some (.d (.lst (wit d))),z]=.ok (.l .fresh ((((wit d).flatMap (fl j)).filter λx=>!(x == a)).map .str)):=λz hi=>Fz (α:=Str) (xs:=(wit d).flatMap (fl j)) (h:=D.str) (λx=>!(x == _)) D.str rfl (by omega) λx hx=>⟨bZ (WP.two (x:=.d (.str x)) (y:=.d (.str _)) rfl (WP.two (x:=.d d) (y:=.d (.int (-2))) rfl rfl hi) rfl),λ_=>⟨_,rfl,rfl⟩⟩;have fin1:∀a:Str,bnd d=[a]->own d=[]->((wit d).flatMap (fl j)).filter (λx=>!(x == a))=fl (j + 1) d:=λa e1 e2=>by show _=(own d++(wit d).flatMap (fl j)).filter λx=>!(bnd d).contains x;rw [e1,e2,Xn];exact YV λx _=>by simp;rw [Tc,beq_iff_eq,decide_eq_true_iff]
  have fin0:bnd d=[]->own d=[]->(wit d).flatMap (fl j)=fl (j + 1) d:=λe1 e2=>by show _=(own d++(wit d).flatMap (fl j)).filter λx=>!(bnd d).contains x;rw [e1,e2,Xn];exact (V5.mpr λ_ _=>rfl).symm
  show fin (lN (fD n) [some (.d d),none,none,none])=_;cases h with
  | mark _ _=>rfl
  | arrow _ _ _=>rfl
  | same _ _=>rfl
  | not _=>
   refine cS (aE rfl (aE rfl (bL (r:=.l .fresh []) (x:=.own []) rfl rfl (bL (r:=.l .fresh [_]) (x:=.own [_]) (dI (aQ rfl rfl bN) (QS rfl)) rfl (aE rfl (bx (oN rfl (lS rfl (run.mono ?_)))))))));rintro o ⟨z,rfl⟩;refine aE rfl (bJ rfl rfl ?_);rw [<-fin0 rfl rfl];rfl
  | and _ _=>
   refine cS (aE rfl (aE rfl (bL (r:=.l .fresh []) (x:=.own []) rfl rfl (bL (r:=.l .fresh [_]) (x:=.own [_]) (dI (aQ rfl rfl bN) (QS rfl)) rfl (bx (c5 rfl (gD (r:=.l .fresh _) (x:=.own _) rfl rfl (bx (oN rfl (lS rfl (run.mono ?_)))))))))));rintro o ⟨z,rfl⟩;refine aE rfl (bJ rfl rfl ?_);rw [<-fin0 rfl rfl];rfl
  | or _ _=>
   refine cS (aE rfl (aE rfl (bL (r:=.l .fresh []) (x:=.own []) rfl rfl (bL (r:=.l .fresh [_]) (x:=.own [_]) (dI (aQ rfl rfl bN) (QS rfl)) rfl (bx (c5 rfl (gD (r:=.l .fresh _) (x:=.own _) rfl rfl (bx (oN rfl (lS rfl (run.mono ?_)))))))))));rintro o ⟨z,rfl⟩;refine aE rfl (bJ rfl rfl ?_);rw [<-fin0 rfl rfl];rfl
  | some _ _=>
   refine cS (aE rfl (aE rfl (bL (r:=.l .fresh []) (x:=.own []) rfl rfl (bL (r:=.l .fresh [_]) (x:=.own [_]) (dI (aQ rfl rfl bN) (QS rfl)) rfl (aE rfl (bx (oN rfl (lS rfl (run.mono ?_)))))))));rintro o ⟨z,rfl⟩;refine bx (c5 rfl (gD (bin z rfl) rfl (bJ rfl rfl ?_)));rw [<-fin1 _ rfl rfl]
  | every _ _=>
   refine cS (aE rfl (aE rfl (bL (r:=.l .fresh []) (x:=.own []) rfl rfl (bL (r:=.l .fresh [_]) (x:=.own [_]) (dI (aQ rfl rfl bN) (QS rfl)) rfl (aE rfl (bx (oN rfl (lS rfl (run.mono ?_)))))))));rintro o ⟨z,rfl⟩;refine bx (c5 rfl (gD (bin z rfl) rfl (bJ rfl rfl ?_)));rw [<-fin1 _ rfl rfl]
  | least _ _ _=>
   refine cS (aE rfl (aE rfl (bL (r:=.l .fresh []) (x:=.own []) rfl rfl (bL (r:=.l .fresh [_]) (x:=.own [_]) (dI (aQ rfl rfl bN) (QS rfl)) rfl (aE rfl (bx (oN rfl (lS rfl (run.mono ?_)))))))));rintro o ⟨z,rfl⟩;refine bx (c5 rfl (gD (bin z rfl) rfl (bJ rfl rfl ?_)));rw [<-fin1 _ rfl rfl]
end K14
namespace K14
open PySem PySem.Spec PyProof.Rows DL K01 WP K16
open K12 (Sy wit dO bnd own wd bF b9 cG bZ g9 bK jB dw f_)
variable {A B L:List Str}{k:Nat}{d:D}{w:Wd}
theorem Mu (k:Nat) (h:k<=8):Av (.d (.int 1)) (.d (.int k))=.ok (.d (.int ((2 ^ k:Nat):Int))):=by
 have e:Av (.d (.int 1)) (.d (.int k))=.ok (.d (.int (1 * 2 ^ (k:Int).toNat))):=lK (C:=sX) (f:=λi j=>.int (i * 2 ^ j.toNat)) (by
  unfold sX;rw [Ra,Ra,decide_eq_true_iff];refine ⟨⟨by omega,?_⟩,rfl⟩;unfold below;simp;omega)
 rw [e,SG,Int.one_mul]
 push_cast
 rfl
theorem pw (k:Nat) (h:k<=8):(0:Int) < ((2 ^ k:Nat):Int)/\((2 ^ k:Nat):Int) < 1073741824:=by have h1:0 < 2 ^ k:=Nat.two_pow_pos k;have h2:2 ^ k<=2 ^ 8:=VF (by decide) h;have h3:2 ^ 8=256:=rfl;omega
theorem IG (ns:List Int) (c:Int) (h8:L.length=8) (hA:A.length<=1000) (hB:B.length<=1000):∃s,gz [.bor (ns.map .int),.d (.int c),.d (dw A B),.bor (L.map .str)]=.ok (.d s)/\Sy A B L 10 s/\(bK 10 s).length<=20:=by
 have key:Wp (gz [.bor (ns.map .int),.d (.int c),.d (dw A B),.bor (L.map .str)]) λr=>∃s,r=.d s/\Sy A B L 10 s/\(bK 10 s).length<=20:=by
  refine se (bL (r:=.l .fresh []) (x:=.own []) (dI bN (Rj _)) rfl (g_ (xQ (n:=4) rfl (by decide)) ?_));refine vm (λk env=>∃(qs:List D) (x:Option S),env=[some (.bor (ns.map .int)),some (.d (.int c)),some (.d (dw A B)),some (.bor (L.map .str)),some (.own qs),x,none]/\qs.length=k/\∀q∈qs,Sy A B L 1 q/\(bK 1 q).length<=1) ⟨[],none,rfl,rfl,λ_ z=>(nomatch z)⟩ ?_ ?_
  ·rintro k hk _ ⟨qs,x,rfl,l1,l2⟩;obtain ⟨s,es,sy,_,sl⟩:=Bl (A:=A) (B:=B) (L:=L) ((cW ns (14 + k) + 613 * k) * 71993 % 998244353) h8 hA hB;refine ⟨_,rfl,LL (d:=s) rfl (c3 (x:=.d (.int ((cW ns (14 + k) + 613 * k) * 71993 % 998244353))) (y:=.d (dw A B)) (w:=.l .bor (L.map .str)) (z:=.d s) (WP.two (WP.two (WP.two (x:=.d (.int (cW ns (14 + k)))) (c2 (x:=.l .bor (ns.map .int)) (y:=.d (.int ((14 + k:Nat):Int))) (z:=.d (.int (cW ns (14 + k)))) rfl ?_ (qm ns (14 + k))) (WP.two rfl rfl (mw 613 k (by decide) (by decide))) (cU _ _)) rfl (i6 _ 71993 (by decide) (by decide))) rfl (bC _ 998244353 (by decide))) rfl rfl es) rfl (by omega) ⟨_,rfl,qs++[s],some (.d (.int k)),rfl,by rw [QU,l1];rfl,λq hq=>?_⟩⟩
   ·show M.ok (R.d (.int (14 + (k:Int))))=_;congr 3
   ·rcases Rl.mp hq with hq | hq
    ·exact l2 q hq
    ·rw [QK.mp hq];exact ⟨sy,sl⟩
  ·rintro _ ⟨qs,x,rfl,l1,l2⟩;obtain ⟨v,hv,ev⟩:=f_ (m:=.fresh) (L:=["and","or"]) (c % 2) (by omega) (by show _ < 2;omega);have s0:Sy A B L 2 (.tup [.str v,.tup qs]):=by
    rcases QZ.mp hv with rfl | hv
    ·exact .and (λs hs=>(l2 s hs).1) (by omega)
    ·rw [QK.mp hv];exact .or (λs hs=>(l2 s hs).1) (by omega)
   have w0:wit (.tup [.str v,.tup qs])=qs:=by
    rcases QZ.mp hv with rfl | hv
    ·rfl
    ·rw [QK.mp hv];rfl
   have p0:(bK 2 (.tup [.str v,.tup qs])).length<=5:=by
    have:∀l:List D,(∀q∈l,Sy A B L 1 q/\(bK 1 q).length<=1)->(l.flatMap (bK 1)).length<=l.length:=λl=>by
     induction l with
     | nil=>exact λ_=>QV _
     | cons q l ih=>
      intro h;have h1:=ih λx hx=>h x (QO _ hx);have h2:=(h q QT).2;rw [Rr,QU,Rm];omega
    have h1:=this qs l2;show ((D.tup [.str v,.tup qs])::(wit (.tup [.str v,.tup qs])).flatMap (bK 1)).length<=5;rw [w0,Rm];omega
   refine bL (r:=.d (.tup [.str v,.tup qs])) (dG (aQ (WP.two (dI (aQ rfl rfl (aQ rfl rfl bN)) (QS rfl)) (WP.two rfl rfl (bC c 2 (by decide))) ev) rfl (aQ (n1 (x:=.l .own qs) rfl rfl) rfl bN)) (QS rfl)) rfl ?_;obtain ⟨n,hn⟩:∃n:Nat,6 + c / 2 % 3=n:=⟨(6 + c / 2 % 3).toNat,by omega⟩;have n8:n<=8:=by omega
   refine g_ (xQ (n:=n) (jg (by rw [<-hn];exact WP.two rfl (WP.two (WP.two rfl rfl (cI c 2 (by decide) (by decide))) rfl (bC _ 3 (by decide))) (cU _ _))) (by omega)) ?_;refine vm (λk env=>∃(xs:List D) (x:Option S),env=[some (.bor (ns.map .int)),some (.d (.int c)),some (.d (dw A B)),some (.bor (L.map .str)),some (.own qs),x,some (.d (.tup xs))]/\Sy A B L (2 + k) (.tup xs)/\(bK (2 + k) (.tup xs)).length<=5 + k) ⟨_,x,rfl,s0,p0⟩ ?_ ?_
   ·rintro k hk _ ⟨xs,x,rfl,sy,sl⟩;obtain ⟨u,hu,eu⟩:=f_ (m:=.fresh) (L:=["some","every"]) (c / 6 / ((2 ^ k:Nat):Int) % 2) (by omega) (by show _ < 2;omega);obtain ⟨a,ha,ea⟩:=f_ (m:=.bor) (L:=L) (k:Int) (by omega) (by omega);have pk:=pw k (by omega);have wu:wit (.tup [.str u,.str a,.tup xs])=[.tup xs]:=rfl;refine ⟨_,rfl,gD (r:=.d (.tup [.str u,.str a,.tup xs])) (dG (aQ (WP.two (dI (aQ rfl rfl (aQ rfl rfl bN)) (QS rfl)) (WP.two (WP.two (WP.two rfl rfl (cI c 6 (by decide) (by decide))) (WP.two rfl rfl (Mu k (by omega))) (cI _ _ pk.1 pk.2)) rfl (bC _ 2 (by decide))) eu) rfl (aQ (WP.two rfl rfl ea) rfl (aQ rfl rfl bN))) (QS rfl)) rfl ⟨_,rfl,[.str u,.str a,.tup xs],some (.d (.int k)),rfl,?_,?_⟩⟩
    ·rcases QZ.mp hu with rfl | hu
     ·exact .some ha sy
     ·rw [QK.mp hu];exact .every ha sy
    ·show ((D.tup [.str u,.str a,.tup xs])::(wit (.tup [.str u,.str a,.tup xs])).flatMap (bK (2 + k))).length<=5 + (k + 1);rw [wu,Rm,Rr,Vz,R6];omega
   ·rintro _ ⟨xs,x,rfl,sy,sl⟩;exact bJ rfl rfl ⟨_,rfl,_,rfl,sy.up (by omega),by rw [jB sy (show 2 + n<=10 by omega)];omega⟩
 obtain ⟨_,h,s,rfl,hs⟩:=key;exact ⟨s,h,hs⟩
end K14
namespace K03
open PySem DL K01 WP K51 K52 K55 K23
end K03
namespace K16
open PySem DL K01 WP K51 K52 K55 K23
open K12 (Sy wit dO bnd bF b9 cG gE d8)
variable {A B L:List Str}{k:Nat}{d:D}{w:Wd}{ps:List Nat}
theorem sR:∀(n:Nat){k:Nat}{d:D},Sy A B L k d->∀x∈bF n d,x∈L
 | 0,_,_,_,x,hx=>by cases hx
 | n + 1,k,d,h,x,hx=>by
  obtain ⟨j,rfl⟩:=b9 h;have inner:∀x∈(wit d).flatMap (bF n),x∈L:=λx hx=>by obtain ⟨s,hs,hx⟩:=Sz.mp hx;exact sR n (cG h s hs) x hx
  unfold bF at hx;split at hx
  ·rcases Rl.mp (d8.mp hx) with hx | hx
   ·exact gE h x hx
   ·exact inner x hx
  ·exact inner x ((SH.mp (d8.mp hx)).1)
theorem tL {α β:Type}(f:α->β){ss:List Str}{xs:List α}{s:Str}{v:α}:bw ss (xs.map f) s (f v)=((bw ss xs s v).1,(bw ss xs s v).2.map f):=by
 unfold bw;split
 ·refine abp rfl ?_;show ((ss.zip (xs.map f)).map _)=((ss.zip xs).map _).map f;rw [List.zip_map_right,R3,R3];refine List.map_congr_left λp _=>?_;show (if p.1=s then f v else f p.2)=f (if p.1=s then v else p.2);split <;> rfl
 ·simp
theorem w5 {α β:Type}(f:α->β){x:Str}:∀{ss:List Str}{xs:List α},cF ss (xs.map f) x=(cF ss xs x).map f
 | [],_=>by unfold cF;rfl
 | _::_,[]=>rfl
 | s::ss,v::xs=>by
  show (if s=x then some (f v) else cF ss (xs.map f) x)=(if s=x then some v else cF ss xs x).map f;split
  ·rfl
  ·exact w5 f
end K16
namespace K16
open PySem DL K01 WP
open K12 (Sy bF dw bK bZ)
theorem Cp {α:Type}{x:Str}{v:α}:∀{ss:List Str}{xs:List α},cF ss xs x=some v->v∈xs
 | [],_,h=>by unfold cF at h;cases h
 | _::_,[],h=>by unfold cF at h;cases h
 | s::ss,u::xs,h=>by
  have h:(if s=x then some u else cF ss xs x)=some v:=h;split at h
  ·cases h;exact QT
  ·exact QO _ (Cp h)
theorem zC {ss:List Str}{xs:List Nat}{s:Str}{v m:Nat}(h:∀p∈xs,p < m) (hv:v < m):∀p∈(bw ss xs s v).2,p < m:=by
 unfold bw;split
 ·intro p hp;obtain ⟨q,hq,rfl⟩:=Rg.mp hp;split
  ·exact hv
  ·exact h _ (U0 hq).2
 ·intro p hp;rcases Rl.mp hp with hp | hp
  ·exact h p hp
  ·rw [QK.mp hp];exact hv
theorem xH {ss:List Str}{xs:List Nat}{s a:Str}{v:Nat}(h:ss.contains a=true):(bw ss xs s v).1.contains a=true:=by
 unfold bw;split
 ·exact h
 ·show (ss++[s]).contains a=true;rw [Uw] at h ⊢;exact Sl _ h
theorem xJ {ss:List Str}{xs:List Nat}{s:Str}{v:Nat}:(bw ss xs s v).1.length<=ss.length + 1:=by
 unfold bw;split
 ·exact Tg _
 ·show (ss++[s]).length<=_;rw [QU];exact QV _
theorem L8 {m n:Nat}{ss:List Str}{qs:List Nat}{F:List Str}(hl:ss.length=qs.length) (hn:ss.length<=n) (hF:∀a∈F,ss.contains a=true) (hm:∀q∈qs,q < m):Pl m (.ob (.txt ss) (qs.map dN)) F (λa=>(cF ss qs a).getD 0) n:=by refine ⟨_,ss,qs.map dN,rfl,rfl,rfl,by rw [QN];exact hl,hn,λa ha=>?_⟩;have h1:=hF a ha;rw [<-lq hl] at h1;obtain ⟨q,hq⟩:=RE.mp h1;rw [w5,hq];exact ⟨rfl,hm q (Cp hq)⟩
end K16
namespace K14
open PySem DL K01 WP K16
open K12 (Sy bF dw bK jB bZ g9 yI b9)
theorem FF (ns:List Int) (j:Nat) (hj:j<=62):∃cs:List Int,DL.cutD (ns.map D.int) (some 14) (some (j:Int))=cs.map .int/\cs.length<=56:=by obtain ⟨cs,e1,e2⟩:=sO D.int ns (some ((14:Nat):Int)) (some (j:Int));refine ⟨cs,e1,?_⟩;rw [e2,HT.lD,HT.lD,Sv,SM];omega
theorem Gf {a b:G R}{env:Ev}{v:Bool}(ha:a env=.ok (.d (.bl v))) (hb:b env=.ok (.d (.bl v))):gN (aB 2 K12.c_) (ah a (ah b ay)) env=.ok (.d (.bl true)):=c2 (x:=.d (.bl v)) (y:=.d (.bl v)) (z:=.d (.bl true)) ha hb (yI v)
theorem AU {a b:G R}{env:Ev}{v:Bool}(ha:a env=.ok (.d (.bl v))) (hb:b env=.ok (.d (.bl v))):bH (aJ (gN (aB 2 K12.c_) (ah a (ah b ay)))) env=.ok false:=by show (aJ _ env >>= _)=_;rw [bZ (Gf ha hb)];rfl
theorem B9:∀l:List Nat,gg (l.map dN)=some (l.map λ(n:Nat)=>(n:Int))
 | []=>rfl
 | a::l=>by show (gg (l.map dN)).map ((a:Int)::·)=_;rw [B9 l];rfl
theorem JZ (ss:List Str) (qs:List Nat):wG (.o .own (.txt ss) (qs.map dN)) (.o .own (.txt ss) (qs.map dN))=.ok (.d (.bl false)):=by
 show (match gg (qs.map dN),gg (qs.map dN) with
  | some is,some js=>if ss=ss/\is=js then M.ok (R.d (.bl false)) else .bad
  | _,_=>.bad)=_
 rw [B9];exact if_pos ⟨rfl,rfl⟩
structure Dk (L:List Str) (m:Nat) (ss:List Str) (qs:List Nat):Prop where
 len:ss.length=qs.length
 few:ss.length<=20
 lt:∀q∈qs,q < m
 has:∀a∈L,ss.contains a=true
theorem Dk.pl {L F:List Str}{m:Nat}{ss:List Str}{qs:List Nat}(h:Dk L m ss qs) (hF:∀a∈F,a∈L):Pl m (.ob (.txt ss) (qs.map dN)) F (λa=>(cF ss qs a).getD 0) 300:=L8 h.len (by have:=h.few;omega) (λa ha=>h.has a (hF a ha)) h.lt
theorem Dk.put {L:List Str}{m:Nat}{ss:List Str}{qs:List Nat}(h:Dk L m ss qs) (hf:ss.length<=19){a:Str}{p:Nat}(hp:p < m):Dk L m (bw ss qs a p).1 (bw ss qs a p).2:=⟨lz h.len,by have:=xJ (ss:=ss) (xs:=qs) (s:=a) (v:=p);omega,zC h.lt hp,λb hb=>xH (h.has b hb)⟩
theorem G6 (ns:List Int) (hl:ns.length<=63):su [.bor (ns.map D.int)]=.ok (.d (.bl true)):=by
 obtain ⟨A,B,hT,tA,tB⟩:=K01.pO (cW ns 1);obtain ⟨L,P4,h8,hL⟩:=IJ (cW ns 8 % 26);have hA:A.length<=1000:=by have:=tA.1;omega
 have hB:B.length<=1000:=by have:=tB.1;omega
 have cel:∀(k:Nat) (tl:Ev),gN (aB 2 K01.b8) (ah (af 0) (ah (gC (.int k)) ay)) (some (.bor (ns.map D.int))::tl)=.ok (.d (.int (cW ns k))):=λk tl=>c2 (x:=.l .bor (ns.map .int)) (y:=.d (.int k)) (z:=.d (.int (cW ns k))) rfl rfl (qm ns k);refine cS (bL (r:=.d (.int (cW ns 0 * 433 % 100003))) (WP.two (WP.two (cel 0 _) rfl (i6 _ 433 (by decide) (by decide))) rfl (bC _ 100003 (by decide))) rfl ?_);generalize cW ns 0 * 433 % 100003=nb;refine bL (r:=.d (dw A B)) (x:=.d (dw A B)) (c1 (x:=.d (.int (cW ns 1))) (z:=.d (dw A B)) (cel 1 _) hT) rfl ?_;refine bL (r:=.d (.int (1 + nb % 4))) (WP.two rfl (WP.two rfl rfl (bC _ 4 (by decide))) (cU _ _)) rfl ?_;obtain ⟨c0,e0,l0⟩:=FF ns 62 (by decide);refine bL (r:=.l .fresh (c0.map .int)) (x:=.own (c0.map .int)) (by show M.ok (R.l .fresh (DL.cutD (ns.map .int) (some 14) (some 62)))=_;exact congrArg (λz=>M.ok (R.l .fresh z)) e0) rfl ?_;have i5:Wp (aG (aJ (g2 (bu false) (g2 bz (g2 cH (af 1) (gC (.int 4))) (gC (.int 8))) (gC (.int 3)))) (au (aO 3 (g2 bA (gC (.int 5)) (g2 bz (g2 cH (af 1) (gC (.int 32))) (gC (.int 4)))))
 (aO 4 (k7 iW (af 0) (jq (gC (.int 14))) (jq (gC (.int 26)))))) bf [some (.bor (ns.map D.int)),some (.d (.int nb)),some (.d (dw A B)),some (.d (.int (1 + nb % 4))),some (.own (c0.map .int)),none,none,none,none,none,none,none]) (λo=>∃(m:Nat) (cs:List Int),o=.nx [some (.bor (ns.map D.int)),some (.d (.int nb)),some (.d (dw A B)),some (.d (.int m)),some (.own (cs.map .int)),none,none,none,none,none,none,none]/\1<=m/\m<=8/\cs.length<=56):=by obtain ⟨m0,hm0⟩:∃m:Nat,1 + nb % 4=m:=⟨(1 + nb % 4).toNat,by omega⟩;refine gR (c:=nb / 4 % 8 == 3) (bZ (WP.two (WP.two (WP.two rfl rfl (cI _ 4 (by decide) (by decide))) rfl (bC _ 8 (by decide))) rfl (eq_int false _ _))) (λ_=>?_) λ_=>ig ⟨m0,c0,by rw [hm0],by omega,by omega,l0⟩;obtain ⟨c1',e1,l1⟩:=FF ns 26 (by decide);obtain ⟨m1,hm1⟩:∃m:Nat,5 + nb / 32 % 4=m:=⟨(5 + nb / 32 % 4).toNat,by omega⟩;refine bL (r:=.d (.int m1)) (by rw [<-hm1];exact WP.two rfl (WP.two (WP.two rfl rfl (cI _ 32 (by decide) (by decide))) rfl (bC _ 4 (by decide))) (cU _ _)) rfl ?_;exact gD (r:=.l .fresh (c1'.map .int)) (x:=.own (c1'.map .int)) (by show M.ok (R.l .fresh (DL.cutD (ns.map .int) (some 14) (some 26)))=_;exact congrArg (λz=>M.ok (R.l .fresh z)) e1) rfl ⟨m1,c1',rfl,by omega,by omega,l1⟩
 refine bx (i5.mono ?_);rintro o ⟨m2,cs,rfl,m21,m28,lc⟩;refine bL (r:=.l .fresh (L.map .str)) (x:=.own (L.map .str)) (c1 (x:=.d (.int (cW ns 8 % 26))) (z:=.l .fresh (L.map .str)) (WP.two (cel 8 _) rfl (bC _ 26 (by decide))) P4) rfl ?_;obtain ⟨q,hG,eok,q57⟩:=Gj (A:=A) (B:=B) (L:=L) lc h8 hA hB;refine bL (r:=.d q.2.1) (c3 (x:=.l .own (cs.map .int)) (y:=.d (dw A B)) (w:=.l .own (L.map .str)) (z:=.d q.2.1) rfl rfl rfl hG) rfl ?_;have i8:Wp (aG (aJ (g2 (bu false) (g2 bz (g2 cH (af 1) (gC (.int 768))) (gC (.int 8))) (gC (.int 1)))) (au (aO 3 (g2 bA (gC (.int 1)) (g2 bz (g2 cH (af 1) (gC (.int 4))) (gC (.int 2)))))
 (aO 6 (gN (aB 4 K14.gz) (ah (af 0) (ah (gN (aB 2 K01.b8) (ah (af 0) (ah (gC (.int 13)) ay))) (ah (af 2) (ah (af 5) ay))))))) bf [some (.bor (ns.map D.int)),some (.d (.int nb)),some (.d (dw A B)),some (.d (.int m2)),some (.own (cs.map .int)),some (.own (L.map .str)),some (.d q.2.1),none,none,none,none,none]) (λo=>∃(m n:Nat) (s:D),o=.nx [some (.bor (ns.map D.int)),some (.d (.int nb)),some (.d (dw A B)),some (.d (.int m)),some (.own (cs.map .int)),some (.own (L.map .str)),some (.d s),none,none,none,none,none]/\1<=m/\m<=8/\Sy A B L n s/\n<=58/\(bK n s).length < 1000):=by refine gR (c:=nb / 768 % 8 == 1) (bZ (WP.two (WP.two (WP.two rfl rfl (cI _ 768 (by decide) (by decide))) rfl (bC _ 8 (by decide))) rfl (eq_int false _ _))) (λ_=>?_) λ_=>ig ⟨m2,q.1,q.2.1,rfl,m21,m28,eok.sy,by omega,by have:=eok.len;omega⟩;obtain ⟨m1,hm1⟩:∃m:Nat,1 + nb / 4 % 2=m:=⟨(1 + nb / 4 % 2).toNat,by omega⟩;obtain ⟨s,es,sy,sl⟩:=IG (A:=A) (B:=B) (L:=L) ns (cW ns 13) h8 hA hB;refine bL (r:=.d (.int m1)) (by rw [<-hm1];exact WP.two rfl (WP.two (WP.two rfl rfl (cI _ 4 (by decide) (by decide))) rfl (bC _ 2 (by decide))) (cU _ _)) rfl ?_;exact gD (r:=.d s) (c4 (x:=.l .bor (ns.map .int)) (y:=.d (.int (cW ns 13))) (w:=.d (dw A B)) (v:=.l .own (L.map .str)) (z:=.d s) rfl (cel 13 _) rfl rfl es) rfl ⟨m1,10,s,rfl,by omega,by omega,sy,by decide,by omega⟩
 refine bx (i8.mono ?_);rintro o ⟨m,n,s,rfl,m1,m8,hy,n58,hN⟩;obtain ⟨ms,rs,hw,fa,fb,pa,pb⟩:=IM ns 2 m m8 A B tA tB;have hw:K01.fK [.bor (ns.map D.int),.d (.int 2),.d (.int m),.d (dw A B)]=.ok (.d (Wd.d ⟨m,ms,rs⟩)):=hw;have lm:(Wd.mk m ms rs).ms.length<=100:=by have:=tA.1;rw [<-fa,QN] at this;show ms.length<=100;omega
 have lr:(Wd.mk m ms rs).ar.length<=100:=by have:=tB.1;rw [<-fb,QN] at this;show rs.length<=100;omega
 have wm:(Wd.mk m ms rs).m=m:=rfl;have fa:(Wd.mk m ms rs).ms.map RD=A:=fa;have fb:(Wd.mk m ms rs).ar.map RD=B:=fb;generalize Wd.mk m ms rs=w at *;subst wm;refine bL (r:=.d w.d) (c4 (x:=.l .bor (ns.map .int)) (y:=.d (.int 2)) (w:=.d (.int w.m)) (v:=.d (dw A B)) (z:=.d w.d) rfl rfl rfl rfl hw) rfl ?_;refine bx ⟨_,rfl,?_⟩;refine g_ (xQ (n:=8) rfl (by decide)) (vm (λk env=>∃(ss:List Str) (qs:List Nat) (x:Option S),env=[some (.bor (ns.map D.int)),some (.d (.int nb)),some (.d (dw A B)),some (.d (.int w.m)),some (.own (cs.map .int)),some (.own (L.map .str)),some (.d s),some (.d w.d),some (.oo (.txt ss) (qs.map dN)),x,none,none]/\ss.length=qs.length/\ss.length<=k/\(∀q∈qs,q < w.m)/\∀(i:Nat) (hi:i < L.length),i < k->ss.contains L[i]=true) ⟨[],[],none,rfl,rfl,QV _,λ_ h=>(nomatch h),λ_ _ h=>(nomatch h)⟩ ?_ ?_)
 ·rintro k hk _ ⟨ss,qs,x,rfl,l1,l2,l3,l4⟩;have Qh:k < L.length:=by omega
  obtain ⟨p,hp⟩:∃p:Nat,cW ns (9 + k) % w.m=p:=⟨(cW ns (9 + k) % w.m).toNat,by have:=Sq (cW ns (9 + k)) (b:=(w.m:Int)) (by omega);omega⟩;have OZ:p < w.m:=by have:=SJ (cW ns (9 + k)) (b:=(w.m:Int)) (by omega);omega
  refine ⟨_,rfl,rA (r:=.d (dN p)) (d:=dN p) (a:=L[k]) rfl (WP.two (x:=.d (.int (cW ns (9 + k)))) (y:=.d (.int w.m)) (c2 (x:=.l .bor (ns.map .int)) (y:=.d (.int ((9 + k:Nat):Int))) (z:=.d (.int (cW ns (9 + k)))) rfl ?_ (qm ns (9 + k))) rfl ((bC _ _ (by omega)).trans (by rw [hp]))) rfl (WP.two (x:=.l .own (L.map .str)) (y:=.d (.int k)) rfl rfl (kg (k:=k) (by simp [Qh]))) (by omega) ⟨_,rfl,(bw ss qs L[k] p).1,(bw ss qs L[k] p).2,some (.d (.int k)),?_,?_,?_,?_,?_⟩⟩
  ·show M.ok (R.d (.int (9 + (k:Int))))=_;congr 3
  ·have e1:=tL dN (ss:=ss) (xs:=qs) (s:=L[k]) (v:=p);rw [e1];rfl
  ·exact lz l1
  ·have:=xJ (ss:=ss) (xs:=qs) (s:=L[k]) (v:=p);omega
  ·exact zC l3 OZ
  ·intro i hi hik;by_cases e:i=k
   ·subst e;exact zE
   ·exact xH (l4 i hi (by omega))
 rintro _ ⟨ss,qs,x,rfl,l1,l2,l3,l4⟩;have dk0:Dk L w.m ss qs:=⟨l1,by omega,l3,λa ha=>by
  obtain ⟨i,hi,rfl⟩:=T3.mp ha;exact l4 i hi (by omega)⟩
 have i12:Wp (aG (aJ (g2 (bu false) (g2 bz (g2 cH (af 1) (gC (.int 256))) (gC (.int 3))) (gC (.int 1)))) (jo 8 (g2 aP (gC (.str "abcdefghijklmnopqrstuvwxyz")) (g2 bz (g2 bA (gN (aB 2 K01.b8) (ah (af 0) (ah (gC (.int 8)) ay))) (gC (.int 1))) (gC (.int 26)))) (gC (.int 0))) bf [some (.bor (ns.map D.int)),some (.d (.int nb)),some (.d (dw A B)),some (.d (.int w.m)),some (.own (cs.map .int)),some (.own (L.map .str)),some (.d s),some (.d w.d),some (.oo (.txt ss) (qs.map dN)),x,none,none]) (λo=>∃(ss:List Str) (qs:List Nat),o=.nx [some (.bor (ns.map D.int)),some (.d (.int nb)),some (.d (dw A B)),some (.d (.int w.m)),some (.own (cs.map .int)),some (.own (L.map .str)),some (.d s),some (.d w.d),some (.oo (.txt ss) (qs.map dN)),x,none,none]/\Dk L w.m ss qs/\ss.length<=9):=by refine gR (c:=nb / 256 % 3 == 1) (bZ (WP.two (WP.two (WP.two rfl rfl (cI _ 256 (by decide) (by decide))) rfl (bC _ 3 (by decide))) rfl (eq_int false _ _))) (λ_=>?_) λ_=>ig ⟨ss,qs,rfl,dk0,by omega⟩;generalize hx:(⟨#[97 + ((cW ns 8 + 1) % 26).toNat]⟩:Str)=xl;refine rA (d:=dN 0) (a:=xl) rfl rfl rfl (hx▸WP.two rfl (WP.two (WP.two (cel 8 _) rfl (cU _ _)) rfl (bC _ 26 (by decide))) (q_ _ (by omega) (by omega))) (by omega) ⟨(bw ss qs xl 0).1,(bw ss qs xl 0).2,?_,dk0.put (by omega) (a:=xl) (p:=0) (by omega),RG xJ (by omega)⟩;have e1:=tL dN (ss:=ss) (xs:=qs) (s:=xl) (v:=0);rw [e1];rfl
 refine bx (i12.mono ?_);clear i12 dk0 l1 l2 l3 l4 i8 i5;clear ss qs;rintro o ⟨ss,qs,rfl,dk,d9⟩;have hy1:Sy (w.ms.map RD) (w.ar.map RD) L n s:=by rw [fa,fb];exact hy
 have PX:Sy A B L (n + 1) (.tup [.str "not",s]):=by obtain ⟨xs,rfl⟩:=hy.tup;exact .not hy
 have PF:Sy (w.ms.map RD) (w.ar.map RD) L (n + 1) (.tup [.str "not",s]):=by rw [fa,fb];exact PX
 have sub:∀a∈bF n s,a∈L:=sR n hy;have nA:∀a∈A,a∈w.ms.map RD:=λa ha=>by rw [fa];exact ha
 have nB:∀a∈B,a∈w.ar.map RD:=λa ha=>by rw [fb];exact ha
 have pl:=dk.pl sub;have T:=vv nA nB lm lr m8 60 n hy (by omega) _ _ 300 (by omega) pl;have H:=n5 hL m1 m8 lm lr hy1 (by omega) (by omega) pl;have pN:(bK (n + 1) (.tup [.str "not",s])).length < 2000:=by show ((D.tup [.str "not",s])::[s].flatMap (bK n)).length < 2000;rw [Rm,Rr,Vz,R6];omega
 have HN:=n5 hL m1 m8 lm lr PF (by omega) pN (dk.pl (sR (n + 1) PX));have semN:sem w (n + 1) (.tup [.str "not",s]) (λa=>(cF ss qs a).getD 0)=!sem w n s (λa=>(cF ss qs a).getD 0):=by obtain ⟨xs,rfl⟩:=hy.tup;rfl
 rw [semN] at HN;generalize hv:sem w n s (λa=>(cF ss qs a).getD 0)=v at T H HN;refine bL (r:=.d (.bl v)) (c3 (x:=.d w.d) (y:=.d s) (w:=.o .own (.txt ss) (qs.map dN)) (z:=.d (.bl v)) rfl rfl rfl T) rfl ?_;refine bL (r:=.o .fresh (.txt ss) (qs.map dN)) (x:=.oo (.txt ss) (qs.map dN)) (n1 (x:=.o .own (.txt ss) (qs.map dN)) rfl rfl) rfl ?_;refine aE (g9 (a:=false) (b:=false) (AU (v:=v) (c3 (x:=.d w.d) (y:=.d s) (w:=.o .own (.txt ss) (qs.map dN)) (z:=.d (.bl v)) rfl rfl rfl H) rfl) λ_=>bZ (WP.two (x:=.o .own (.txt ss) (qs.map dN)) (y:=.o .own (.txt ss) (qs.map dN)) rfl rfl (JZ ss qs))) ?_;have PK:0 < L.length:=by omega
 have hk0:∀tl:Ev,g2 aP (af 5) (gC (.int 0)) (some (.bor (ns.map D.int))::some (.d (.int nb))::some (.d (dw A B))::some (.d (.int w.m))::some (.own (cs.map .int))::some (.own (L.map .str))::tl)=.ok (.d (.str L[0])):=λtl=>WP.two (x:=.l .own (L.map .str)) (y:=.d (.int 0)) rfl rfl (kg (k:=0) (by simp [PK]));obtain ⟨q0,Qm⟩:∃q0,cF ss qs L[0]=some q0:=by have:=dk.has L[0] (Ti PK);rw [<-lq dk.len] at this;exact RE.mp this
 obtain ⟨p,hp⟩:∃p:Nat,((q0:Int) + 1) % w.m=p:=⟨(((q0:Int) + 1) % w.m).toNat,by have:=Sq ((q0:Int) + 1) (b:=(w.m:Int)) (by omega);omega⟩;have OZ:p < w.m:=by have:=SJ ((q0:Int) + 1) (b:=(w.m:Int)) (by omega);omega
 refine bx (rA (r:=.d (dN p)) (d:=dN p) (a:=L[0]) rfl (WP.two (x:=.d (.int ((q0:Int) + 1))) (y:=.d (.int w.m)) (WP.two (x:=.d (dN q0)) (y:=.d (.int 1)) (WP.two (x:=.o .own (.txt ss) (qs.map dN)) (y:=.d (.str L[0])) rfl (hk0 _) ?_) rfl (cU _ _)) rfl ((bC _ _ (by omega)).trans (by rw [hp]))) rfl (hk0 _) (by omega) ?_)
 ·show (match cF ss (qs.map dN) L[0] with
   | some d=>M.ok (R.d d)
   | none=>.bad)=_
  rw [w5,Qm];rfl
 have dk2:=dk.put (by omega) (a:=L[0]) OZ;have ep:=tL dN (ss:=ss) (xs:=qs) (s:=L[0]) (v:=p);rw [ep];have pl2:=dk2.pl sub;have T2:=vv nA nB lm lr m8 60 n hy (by omega) _ _ 300 (by omega) pl2;have H2:=n5 hL m1 m8 lm lr hy1 (by omega) (by omega) pl2;generalize sem w n s (λa=>(cF (bw ss qs L[0] p).1 (bw ss qs L[0] p).2 a).getD 0)=v2 at T2 H2;refine aE (AU (v:=v2) (c3 (x:=.d w.d) (y:=.d s) (w:=.o .own (.txt (bw ss qs L[0] p).1) ((bw ss qs L[0] p).2.map dN)) (z:=.d (.bl v2)) rfl rfl rfl H2) (c3 (x:=.d w.d) (y:=.d s) (w:=.o .own (.txt (bw ss qs L[0] p).1) ((bw ss qs L[0] p).2.map dN)) (z:=.d (.bl v2)) rfl rfl rfl T2)) ?_;refine aE (AU (v:=!v) (c3 (x:=.d w.d) (y:=.d (.tup [.str "not",s])) (w:=.o .own (.txt ss) (qs.map dN)) (z:=.d (.bl (!v))) rfl (dG (aQ rfl rfl (aQ rfl rfl bN)) (QS rfl)) rfl HN) (K16.rC rfl)) ?_;have hf:=yG 60 hy (by omega) (by omega);have feq:bu false (.l .fresh ((fl n s).map .str)) (.l .fresh [])=.ok (.d (.bl ((fl n s).isEmpty))):=by unfold bu;rw [if_pos ⟨by show deps ((fl n s).map .str) + 1<=60;rw [K12.wC];decide,by show 0 + 1<=60;decide⟩];cases fl n s <;> rfl
 refine bx (gR (c:=(fl n s).isEmpty) (bZ (WP.two (x:=cg (.l .fresh ((fl n s).map .str))) (y:=.l .fresh []) (c1 (x:=.d s) (z:=.l .fresh ((fl n s).map .str)) rfl hf) (dI bN (Rj _)) feq)) (λc=>?_) λc=>ig ?_)
 ·have f0:bF n s=[]:=by
   have e:fl n s=[]:=Zi.mp c;cases q:bF n s with
   | nil=>rfl
   | cons a l=>
    have:=B0 hy a (by rw [q];exact QT);rw [e] at this;cases this
  have H0:=DI hL m1 m8 lm lr hy1 (by omega) (by omega) f0 (λa=>(cF ss qs a).getD 0);have HE:=n5 hL m1 m8 lm lr hy1 (by omega) (by omega) (s:=.d .emp) (ρ:=λa=>(cF ss qs a).getD 0) ⟨_,[],[],rfl,rfl,rfl,rfl,Rj _,by rw [f0];exact λ_ z=>nomatch z⟩;rw [hv] at H0 HE;refine aE (AU (v:=v) (c3 (x:=.d w.d) (y:=.d s) (w:=.d .non) (z:=.d (.bl v)) rfl rfl rfl H0) rfl) ?_;exact bJ (Fv (p:=true) (q:=true) (Gf (v:=v) (c2 (x:=.d w.d) (y:=.d s) (z:=.d (.bl v)) rfl rfl H0) rfl) (Gf (v:=v) (c3 (x:=.d w.d) (y:=.d s) (w:=.d .emp) (z:=.d (.bl v)) rfl rfl rfl HE) rfl)) rfl rfl
 ·exact bJ (Gf (v:=v) (c3 (x:=.d w.d) (y:=.d s) (w:=.o .own (.txt ss) (qs.map dN)) (z:=.d (.bl v)) rfl rfl rfl H) rfl) rfl rfl
end K14
namespace K14
open PySem PySem.Spec PyProof.Rows L2 DL DX
theorem all_mk {l:Xf}{w:Ro}{K:QG}{h:Sa}{mg:Str->Option QH}{fa:Q4}(X:K.In h) (G:h.Ns Q_ mg) (Qd:mg "law"=some (.ref fa))
  {f14 f31:Q4}{o14 n14 o31 n31:Option Q4}{s14 s31:Array (Option QH)}{u14 v14 d14 p14 q14 r14 u31 v31 d31 p31 q31 r31:QH}
  {f9 C9c:Q4}{o9 n9:Option Q4}{s9:Array (Option QH)}{u9 v9 d9 p9 q9 r9:QH}
  {T14:Q4}{oT14:QH}{dT14:Option Q4}{nT14:Nat}{sT14:Array (Option QH)}
  {f1c:Q4}{sl1c:Array (Option QH)}{n1c:Nat}{t2:Tok}{t3:Tok}{t4:Tok}
  {fINNER_PLACES:Q4}{epINNER_PLACES:Nat}{ktINNER_PLACES0:Tok}{ktINNER_PLACES1:Tok}{ktINNER_PLACES2:Tok}{ktINNER_PLACES3:Tok}{t5:Tok}{t6:Tok}{t7:Tok}{t8:Tok}
  {fLETTER_PLACES:Q4}{epLETTER_PLACES:Nat}{ktLETTER_PLACES0:Tok}{ktLETTER_PLACES1:Tok}{ktLETTER_PLACES2:Tok}{ktLETTER_PLACES3:Tok}{ktLETTER_PLACES4:Tok}{ktLETTER_PLACES5:Tok}{ktLETTER_PLACES6:Tok}{ktLETTER_PLACES7:Tok}{ktLETTER_PLACES8:Tok}{f9c:Q4}{sl9c:Array (Option QH)}{n9c:Nat}{t10:Tok}{f11c:Q4}{sl11c:Array (Option QH)}{n11c:Nat}{t12:Tok}{t13:Tok}{f14c:Q4}{sl14c:Array (Option QH)}{n14c:Nat}{t15:Tok}{t16:Tok}{f17c:Q4}{sl17c:Array (Option QH)}{n17c:Nat}{f18c:Q4}{sl18c:Array (Option QH)}{n18c:Nat}{f19c:Q4}{sl19c:Array (Option QH)}{n19c:Nat}{f20c:Q4}{sl20c:Array (Option QH)}{n20c:Nat}{t21:Tok}{f22c:Q4}{sl22c:Array (Option QH)}{n22c:Nat}{t23:Tok}{f24c:Q4}{sl24c:Array (Option QH)}{n24c:Nat}{t25:Tok}
  {t26:Tok}
  (e0:FA K "tongue_of" r6)
  (e1:FA K "by_name" xR)
  (e2:FA K "bears" Df)
  (e3:FA K "leads" Dj)
  (e4:FA K "letters_at" pJ)
  (e5:FA K "within" zK)
  (e6:FA K "parts_of" uC)
  (e7:FA K "free_from" rV)
  (e8:FA K "is_spoken" rW)
  (ja9:Rn K Q_ "Part"=some (some (.ref C9c)))
  (ji9:Rk K (.ref C9c) "__init__"=some (some (.ref f9)))
  (jl9:K.lookup f9=some ⟨u9,o9,.func (Rv "__init__" "Part.__init__" (cD oJ) (bM oJ) (aN oJ) .none v9 d9 p9 n9 q9 r9),s9⟩)
  (jc9:Tr K q9 "Part.__init__"=true)
  (jk9:RL K (.ref f9)=true)
  (jm9:Xd K C9c=true)
  (jf9:aas K (.ref f9)=true)
  (jp9:RL K (.ref C9c)=true)
  (jik9:m7 K C9c)
  (jn_found:Rk K (.ref C9c) "found"=some none)
  (jn_free:Rk K (.ref C9c) "free"=some none)
  (jn_inner:Rk K (.ref C9c) "inner"=some none)
  (jn_kept:Rk K (.ref C9c) "kept"=some none)
  (jn_saying:Rk K (.ref C9c) "saying"=some none)
  (jn_table:Rk K (.ref C9c) "table"=some none)
  (e10:FA K "enough" oK)
  (e11:FA K "any_part_is" iL)
  (e12:FA K "reckoned" ku)
  (e13:FA K "part_holds" kO)
  (a14:Rn K Q_ "holds"=some (some (.ref f14)))
  (l14:K.lookup f14=some ⟨u14,o14,.func (Rv "holds" "holds" (cD jm) (bM jm) (aN jm) (.ref T14) v14 d14 p14 n14 q14 r14),s14⟩)
  (c14:Tr K q14 "holds"=true)
  (k14:RL K (.ref f14)=true)
  (lT14:K.lookup T14=some ⟨oT14,dT14,.seq #[.none] nT14,sT14⟩)
  (e15:FA K "_law_cell" rO)
  (e16:FA K "_law_names" pF)
  (e17:FA K "_law_some" rR)
  (e18:FA K "_law_pairs" pG)
  (e19:FA K "_law_tongue" nT)
  (e20:FA K "_law_world" pI)
  (e21:FA K "_law_letters" mU)
  (e22:FA K "_law_leaf" rQ)
  (e23:FA K "_law_wrapped" mV)
  (e24:FA K "_law_joined" nS)
  (e25:FA K "_law_grown" pD)
  (e26:FA K "_law_enough" iK)
  (e27:FA K "_law_true" l_)
  (e28:FA K "_law_truth" pH)
  (e29:FA K "_law_free" l7)
  (e30:FA K "_law_deep" rP)
  (a31:Rn K Q_ "law"=some (some (.ref f31)))
  (l31:K.lookup f31=some ⟨u31,o31,.func (Rv "law" "law" (cD mh) (bM mh) (aN mh) .none v31 d31 p31 n31 q31 r31),s31⟩)
  (c31:Tr K q31 "law"=true)
  (k31:RL K (.ref f31)=true)
  (z0:Rn K Q_ "bool"=some none)
  (z1:Rn K Q_ "dict"=some none)
  (z2:Rn K Q_ "isinstance"=some none)
  (z3:Rn K Q_ "len"=some none)
  (z4:Rn K Q_ "list"=some none)
  (z5:Rn K Q_ "max"=some none)
  (z6:Rn K Q_ "range"=some none)
  (z7:Rn K Q_ "set"=some none)
  (z8:Rn K Q_ "sorted"=some none)
  (z9:Rn K Q_ "tuple"=some none)
  (gBINDERS:Rn K Q_ "BINDERS"=some (some (.ref f1c)))
  (lc1:K.lookup f1c=some ⟨.type "tuple",none,.seq #[(.str "some" t2),(.str "every" t3),(.str "least" t4)] n1c,sl1c⟩)
  (gINNER_PLACES:Rn K Q_ "INNER_PLACES"=some (some (.ref fINNER_PLACES)))
  (lINNER_PLACES:K.lookup fINNER_PLACES=some {cls:=.type "dict",data:=.dict #[⟨R1 w.params "not",.str "not" ktINNER_PLACES0,(.int 1 t5)⟩,⟨R1 w.params "some",.str "some" ktINNER_PLACES1,(.int 2 t6)⟩,⟨R1 w.params "every",.str "every" ktINNER_PLACES2,(.int 2 t7)⟩,⟨R1 w.params "least",.str "least" ktINNER_PLACES3,(.int 3 t8)⟩] epINNER_PLACES})
  (gLETTER_PLACES:Rn K Q_ "LETTER_PLACES"=some (some (.ref fLETTER_PLACES)))
  (lLETTER_PLACES:K.lookup fLETTER_PLACES=some {cls:=.type "dict",data:=.dict #[⟨R1 w.params "mark",.str "mark" ktLETTER_PLACES0,(.ref f9c)⟩,⟨R1 w.params "arrow",.str "arrow" ktLETTER_PLACES1,(.ref f11c)⟩,⟨R1 w.params "same",.str "same" ktLETTER_PLACES2,(.ref f14c)⟩,⟨R1 w.params "not",.str "not" ktLETTER_PLACES3,(.ref f17c)⟩,⟨R1 w.params "and",.str "and" ktLETTER_PLACES4,(.ref f18c)⟩,⟨R1 w.params "or",.str "or" ktLETTER_PLACES5,(.ref f19c)⟩,⟨R1 w.params "some",.str "some" ktLETTER_PLACES6,(.ref f20c)⟩,⟨R1 w.params "every",.str "every" ktLETTER_PLACES7,(.ref f22c)⟩,⟨R1 w.params "least",.str "least" ktLETTER_PLACES8,(.ref f24c)⟩] epLETTER_PLACES})
  (lc9:K.lookup f9c=some ⟨.type "tuple",none,.seq #[(.int 2 t10)] n9c,sl9c⟩)
  (lc11:K.lookup f11c=some ⟨.type "tuple",none,.seq #[(.int 2 t12),(.int 3 t13)] n11c,sl11c⟩)
  (lc14:K.lookup f14c=some ⟨.type "tuple",none,.seq #[(.int 1 t15),(.int 2 t16)] n14c,sl14c⟩)
  (lc17:K.lookup f17c=some ⟨.type "tuple",none,.seq #[] n17c,sl17c⟩)
  (lc18:K.lookup f18c=some ⟨.type "tuple",none,.seq #[] n18c,sl18c⟩)
  (lc19:K.lookup f19c=some ⟨.type "tuple",none,.seq #[] n19c,sl19c⟩)
  (lc20:K.lookup f20c=some ⟨.type "tuple",none,.seq #[(.int 1 t21)] n20c,sl20c⟩)
  (lc22:K.lookup f22c=some ⟨.type "tuple",none,.seq #[(.int 1 t23)] n22c,sl22c⟩)
  (lc24:K.lookup f24c=some ⟨.type "tuple",none,.seq #[(.int 2 t25)] n24c,sl24c⟩)
  (gMOST_KEPT_LETTERS:Rn K Q_ "MOST_KEPT_LETTERS"=some (some (.int 3 t26)))
  (dINNER_PLACES:(fINNER_PLACES == RY)=false)
  (dLETTER_PLACES:(fLETTER_PLACES == RY)=false):
  ∃fd:Rp,(∀(s:QL) (v:QH),Zn s fd ⟨[v],[]⟩ [("_law_script",v)])/\∀base:Sa,K.In base->base.Ns Q_ mg->eG l.prog w K mg base jH 184 fa fd ["_law_script"] (mW K 1 K14.su):=by
 have e:=Qd.symm.trans (R9 X G a31);cases e;have F9:=wI (st:=oJ) jl9 jc9 jk9;obtain ⟨f10,d10,a10,F10⟩:=e10;obtain ⟨f11,d11,a11,F11⟩:=e11;obtain ⟨f12,d12,a12,F12⟩:=e12;obtain ⟨f13,d13,a13,F13⟩:=e13;have F14:=GN (st:=jm) l14 c14 k14 lT14;obtain ⟨f26,d26,a26,F26⟩:=e26;obtain ⟨f27,d27,a27,F27⟩:=e27;obtain ⟨f29,d29,a29,F29⟩:=e29;have F31:=wI (st:=mh) l31 c31 k31;have m:eU w K mg:=⟨R_ X G z0,
   R_ X G z1,
   R_ X G z2,
   R_ X G z3,
   R_ X G z4,
   R_ X G z5,
   R_ X G z6,
   R_ X G z7,
   R_ X G z8,
   R_ X G z9,
   ⟨_,(.ref f1c),R9 X G gBINDERS,rfl,λ_=>(.tup (vs:=[(L2.V.str "some"),(L2.V.str "every"),(L2.V.str "least")]) (.inr ⟨_,_,n1c,lc1,rfl,rfl,rfl,(by show 3<=sizeLine;decide),.cons ⟨_,rfl⟩ (.cons ⟨_,rfl⟩ (.cons ⟨_,rfl⟩ (.nil)))⟩) (.cons (.str _) (.cons (.str _) (.cons (.str _) (.nil)))))⟩,
   wc [("not",ktINNER_PLACES0,(.int 1 t5)),("some",ktINNER_PLACES1,(.int 2 t6)),("every",ktINNER_PLACES2,(.int 2 t7)),("least",ktINNER_PLACES3,(.int 3 t8))] X G gINNER_PLACES lINNER_PLACES (show (["not","some","every","least"]:List Str).Nodup by decide +kernel) dINNER_PLACES (.cons (v:=(.int 1)) ⟨_,rfl⟩ (λ_=>(.int _)) (.cons (v:=(.int 2)) ⟨_,rfl⟩ (λ_=>(.int _)) (.cons (v:=(.int 2)) ⟨_,rfl⟩ (λ_=>(.int _)) (.cons (v:=(.int 3)) ⟨_,rfl⟩ (λ_=>(.int _)) (.nil))))),
   wc [("mark",ktLETTER_PLACES0,(.ref f9c)),("arrow",ktLETTER_PLACES1,(.ref f11c)),("same",ktLETTER_PLACES2,(.ref f14c)),("not",ktLETTER_PLACES3,(.ref f17c)),("and",ktLETTER_PLACES4,(.ref f18c)),("or",ktLETTER_PLACES5,(.ref f19c)),("some",ktLETTER_PLACES6,(.ref f20c)),("every",ktLETTER_PLACES7,(.ref f22c)),("least",ktLETTER_PLACES8,(.ref f24c))] X G gLETTER_PLACES lLETTER_PLACES (show (["mark","arrow","same","not","and","or","some","every","least"]:List Str).Nodup by decide +kernel) dLETTER_PLACES (.cons (v:=(.ref f9c)) rfl (λ_=>(.tup (vs:=[(L2.V.int 2)]) (.inr ⟨_,_,n9c,lc9,rfl,rfl,rfl,(by show 1<=sizeLine;decide),.cons ⟨_,rfl⟩ (.nil)⟩) (.cons (.int _) (.nil)))) (.cons (v:=(.ref f11c)) rfl (λ_=>(.tup (vs:=[(L2.V.int 2),(L2.V.int 3)]) (.inr ⟨_,_,n11c,lc11,rfl,rfl,rfl,(by show 2<=sizeLine;decide),.cons ⟨_,rfl⟩ (.cons ⟨_,rfl⟩ (.nil))⟩) (.cons (.int _) (.cons (.int _) (.nil))))) (.cons (v:=(.ref f14c)) rfl (λ_=>(.tup (vs:=[(L2.V.int 1),(L2.V.int 2)]) (.inr ⟨_,_,n14c,lc14,rfl,rfl,rfl,(by show 2<=sizeLine;decide),.cons ⟨_,rfl⟩ (.cons ⟨_,rfl⟩ (.nil))⟩) (.cons (.int _) (.cons (.int _) (.nil))))) (.cons (v:=(.ref f17c)) rfl (λ_=>(.tup (vs:=[]) (.inr ⟨_,_,n17c,lc17,rfl,rfl,rfl,(by show 0<=sizeLine;decide),.nil⟩) (.nil))) (.cons (v:=(.ref f18c)) rfl (λ_=>(.tup (vs:=[]) (.inr ⟨_,_,n18c,lc18,rfl,rfl,rfl,(by show 0<=sizeLine;decide),.nil⟩) (.nil))) (.cons (v:=(.ref f19c)) rfl (λ_=>(.tup (vs:=[]) (.inr ⟨_,_,n19c,lc19,rfl,rfl,rfl,(by show 0<=sizeLine;decide),.nil⟩) (.nil))) (.cons (v:=(.ref f20c)) rfl (λ_=>(.tup (vs:=[(L2.V.int 1)]) (.inr ⟨_,_,n20c,lc20,rfl,rfl,rfl,(by show 1<=sizeLine;decide),.cons ⟨_,rfl⟩ (.nil)⟩) (.cons (.int _) (.nil)))) (.cons (v:=(.ref f22c)) rfl (λ_=>(.tup (vs:=[(L2.V.int 1)]) (.inr ⟨_,_,n22c,lc22,rfl,rfl,rfl,(by show 1<=sizeLine;decide),.cons ⟨_,rfl⟩ (.nil)⟩) (.cons (.int _) (.nil)))) (.cons (v:=(.ref f24c)) rfl (λ_=>(.tup (vs:=[(L2.V.int 2)]) (.inr ⟨_,_,n24c,lc24,rfl,rfl,rfl,(by show 1<=sizeLine;decide),.cons ⟨_,rfl⟩ (.nil)⟩) (.cons (.int _) (.nil)))) (.nil)))))))))),
   ⟨_,(.int 3),R9 X G gMOST_KEPT_LETTERS,⟨_,rfl⟩,λ_=>(.int _)⟩,
   ⟨_,ja9,jn_found⟩,
   ⟨_,ja9,jn_free⟩,
   ⟨_,ja9,jn_inner⟩,
   ⟨_,ja9,jn_kept⟩,
   ⟨_,ja9,jn_saying⟩,
   ⟨_,ja9,jn_table⟩⟩
 refine ⟨Rv "law" "law" (cD mh) (bM mh) (aN mh) .none v31 d31 p31 n31 q31 r31,λs v=>.of_eq rfl,λbase _ _=>?_⟩;have C0:=v7 (P:=l.prog) (base:=base) m (dX X G e0);have C1:=Am (P:=l.prog) (base:=base) m (dX X G e1);have C2:=DV (P:=l.prog) (base:=base) m C1 (dX X G e2);have C3:=DZ (P:=l.prog) (base:=base) m C1 (dX X G e3);have C4:=uR (P:=l.prog) (base:=base) m (dX X G e4);have C5:=BI (P:=l.prog) (base:=base) m (dX X G e5);have C6:=yl (P:=l.prog) (base:=base) m C5 (dX X G e6);have C7:=vV (P:=l.prog) (base:=base) m C4 (dX X G e7);have C8:=vW (P:=l.prog) (base:=base) m (dX X G e8);have C9:=λmu=>yT (P:=l.prog) (base:=base) m C5 C7 F9 ⟨jm9,ji9,jf9,jp9⟩ (R9 X G ja9) ja9 jik9 mu 60;have C13:=mH (P:=l.prog) (base:=base) m C4 C2 C3 F13 (R9 X G a13) F10 (R9 X G a10) F11 (R9 X G a11) F12 (R9 X G a12) 60;have O_holds:=Ef (P:=l.prog) (w:=w) (base:=base) m C9 C0 C6 C8 C13 F14;have C14:=DW O_holds F14 (R9 X G a14);have D_holds:=BB O_holds F14 (R9 X G a14);have C15:=vQ (P:=l.prog) (base:=base) m (dX X G e15);have C16:=uN (P:=l.prog) (base:=base) m (dX X G e16);have C17:=vU (P:=l.prog) (base:=base) m (dX X G e17);have C18:=uO (P:=l.prog) (base:=base) m (dX X G e18);have C19:=sJ (P:=l.prog) (base:=base) m C16 (dX X G e19);have C20:=uQ (P:=l.prog) (base:=base) m C15 C17 C18 (dX X G e20);have C21:=qC (P:=l.prog) (base:=base) m (dX X G e21);have C22:=vS (P:=l.prog) (base:=base) m (dX X G e22);have C23:=qD (P:=l.prog) (base:=base) m (dX X G e23);have C24:=sI (P:=l.prog) (base:=base) m (dX X G e24);have C25:=uM (P:=l.prog) (base:=base) m C22 C24 C23 (dX X G e25);have C27:=ni (P:=l.prog) (base:=base) m F27 (R9 X G a27) F26 (R9 X G a26) 60;have C28:=uP (P:=l.prog) (base:=base) m (dX X G e28);have C29:=nh (P:=l.prog) (base:=base) m F29 (R9 X G a29) 60;have C30:=vR (P:=l.prog) (base:=base) m C15 C22 (dX X G e30);exact LX m C15 C19 C21 C25 C30 C20 C27 C14 C28 C29 D_holds F31
theorem Ik (K:QG) (H:Hp) (a:Q4) (ns:List Int) (hl:ns.length<=63) (hO:zZ H) (hS:c6 K H a (ns.map V.int)):mW K 1 K14.su [.ref a] H (λv _=>v=.bl true) λ_ _ _=>False:=by
 refine ⟨λ_=>none,[.bor (ns.map D.int)],λ_ _ z=>(by cases z),rfl,⟨_,[],rfl,⟨a,_,rfl,hS,?_⟩,rfl⟩,?_⟩
 ·exact K01.uz ns
 ·rw [G6 ns hl];intro v J H2 _ r;cases r;rfl
theorem walk {l:Xf}{q:Q2}{loose:List Str}{XP:(Str->Option QH)->Sa->Prop}{YP:Ro->Sa->Prop}{d:DefRec}{K:aa6->QG}(hn:l.most=some 63) (hdf:d.params.defaults=[])
  (hY:∀(w:Ro) (h:Sa),YP w h->(K w.params).In h)
  (F:∀(w:Ro) (mg:Str->Option QH) (fa:Q4) (h:Sa),(K w.params).In h->h.Ns Q_ mg->mg d.name=some (.ref fa)->
   ∃fd:Rp,(∀(s:QL) (u:QH),Zn s fd ⟨[u],[]⟩ [("_law_script",u)])/\∀base:Sa,(K w.params).In base->base.Ns Q_ mg->eG l.prog w (K w.params) mg base jH 184 fa fd ["_law_script"] (mW (K w.params) 1 K14.su)):
  aai q loose XP YP l.row.toRowW d [] (λf vs=>Z4 f vs):=
 L2.Iz (n:=63) (k:=184) (x:="_law_script") (CX:=λ_=>jH) (sp:=λw=>mW (K w.params) 1 K14.su) hn (by decide) hdf ⟨rfl,by decide,by decide⟩ hY F (λw H a ns hl hO hS=>Ik _ H a ns hl hO hS) λ_ _ _ _ _ z=>z
end K14
open PySem PySem.W PyProof.Rows
set_option maxRecDepth 100000 in
set_option maxHeartbeats 0 in
theorem PySem.Challenge.cw_pickalike_k14_what_holds_holds : PySem.Challenge.rw_pickalike_k14_what_holds.Holds := by
 refine holds_law K14.look λsaid=>?_;refine holds_open (q:=K14.VW) (XP:=XL K14.VW []) (YP:=Hook.says K14.HK) K14.left (Hook.of K14.HK) (Hook.keeps K14.HK) (λs e=>xl_of s (XR.mp e).1) XL.keeps (by rfl) (by rfl) (by rfl) (λs e=>recFacts_of (XR.mp e).2) (by rfl) said (by decide +kernel) ⟨rfl,rfl,rfl,rfl,rfl,by decide +kernel⟩ ?hw ?hc
 (case hw=>w_witness2)
 delta K14.HK
 k_fill
 refine K14.walk (l:=PySem.Challenge.rw_pickalike_k14_what_holds) rfl rfl (K:=K14.KF) (λw h Y=>PySem.W.kIn_of Y) ?F
 case F=>
  intro w mg fa h KX G hmg;refine' K14.all_mk KX G hmg ..
  all_goals try first | k_is | (refine' DL.LF ?a ?l ?c ?k;case a | l | c | k=>k_is) | (refine' DL.GS ?y0 ?y1 ?y2 ?y3 ?y4 ?y5 ?y6 ?y7 <;> first | k_is | rfl) | rfl | (refine' DL.My ?a ?l ?c ?k;case a | l | c | k=>k_is) | (refine' DL.LH ?y0 ?y1 ?y2 ?y3 ?y4 ?y5;(case y0=>k_is);(case y1=>k_is);(case y2 | y3=>rfl);case y4 | y5=>k_is)
  all_goals decide
