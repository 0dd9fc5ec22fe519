import PyProof.Rows.All
import KE.KIntText
import KE.KIsAll
import KE.KUnpackStar
import PySem.Challenge.RW_pickalike_k05_written_and_read
theorem zA (_:True:=by rfl):True:=trivial
theorem zB (_:True:=by decide):True:=trivial
noncomputable section
open Array renaming getElem?_eq_some_iff->SI,length_toList->SS,append_assoc->Up,size_append->UL,toList_inj->U0,toList->Vd,append_empty->V7
open Bool renaming and_eq_true->Pr,false_ne_true->Qu,or_eq_true->RB,and_eq_true_iff->RH,true_and->RJ,not_eq_true'->SG,and_false->TH,eq_false_iff->UK,or_true->Vj,and_self->V0,not_eq_false'->V_,or_false->XY
open Classical renaming propDecidable->X7,not_not->YX
open False renaming elim->RX
open ForInStep renaming yield->RT
open Function renaming comp_def->RN
open Int renaming emod_nonneg->Sx,toNat_natCast->SD,emod_lt_of_pos->Uv,natCast_add->Vp,le_of_lt->WB,zero_add->WC
open List renaming length_map->Pj,mem_map->Pn,mem_cons->Pp,length_append->Pu,mem_cons_of_mem->Py,all_eq_true->PF,getElem?_set_ne->PN,getElem?_eq_getElem->PV,map_map->PY,size_toArray->PZ,mem_cons_self->P0,mem_singleton->P1,length_cons->P4,mem_append->P8,not_mem_nil->P9,getD_eq_getElem?_getD->Qa,range->Qc,getElem?_eq_some_iff->Qd,replicate->Qe,getElem?_map->Qg,map_cons->Qh,append_nil->Ql,mem_append_right->Qo,map_append->Qs,mem_range->Qt,getElem?_append_right->Qy,getElem_mem->Qz,length_replicate->QE,take_succ_eq_append_getElem->QH,getElem?_set_self->QI,mem_of_getElem?->QK,forall_mem_cons->QL,length_drop->QX,getElem?_append_left->Q2,map_congr_left->Q9,take_length->Q_,zipWith->Rg,lookup_cons->Rj,replicate_succ->Rk,length->Rp,pairwise_map->Rv,drop_eq_getElem_cons->Ry,getElem_map->RE,filterMap_cons->RO,nodup_cons->RQ,length_nil->RS,length_take->RY,map_nil->R0,contains_cons->R3,drop_zero->R8,mem_append_left->R9,foldl_cons->Sd,pairwise_cons->So,append_assoc->SH,all_map->SY,eq_of_mem_replicate->S4,append_cancel_right->S5,getElem?_replicate->S7,all_cons->S_,getElem?_cons_zero->Te,getElem?_cons_succ->Tf,filter_append->Tg,pairwise_singleton->Th,drop_eq_nil_of_le->Tp,pairwise_lt_range->Tq,reverse_cons->Tu,getElem?_set->Tw,length_range->Tz,eq_nil_of_length_eq_zero->TR,mem_iff_getElem->TY,getElem_zipWith->TZ,length_zipWith->Ud,take_left'->Ug,drop_left'->Uh,filter_map->Ui,nodup_iff_pairwise_ne->Uo,getElem?_drop->Ux,getElem_inj->UW,any_eq_true->U1,mem_flatten->U4,range_succ_eq_map->U7,of_mem_zip->Vg,forIn_cons->Vm,getElem?_reverse->Vn,contains_iff_mem->Vo,pairwise_append->Vt,getElem_toArray->Vv,mem_of_mem_drop->Vw,forIn_nil->Vx,drop_drop->Vy,length_reverse->VG,mem_filterMap->VN,zip_cons_cons->VP,filterMap_map->VS,any_cons->V3,set_cons_zero->V9,take_sublist->Wb,getElem_drop->Wr,any_eq_false->Wt,ext_getElem->WQ,zipIdx_cons->WR,append_inj'->WV,mem_filter->WZ,zipIdx_nil->W8,nil_append->Xb,nodup_nil->Xl,take_succ->Xp,map_take->X4,map_drop->X5,any_map->Yg,lookup->YD,take->Y4,drop->Y5
open List.Pairwise renaming nil->UH,imp_of_mem->XI
open List.cons renaming inj->Rb
open Nat renaming le_refl->PJ,lt_of_lt_of_le->PM,le_trans->P6,ne_of_lt->QA,le_add_left->QF,zero_le->QG,lt_irrefl->Q6,le_of_succ_le->Se,ne_of_gt->TL,le_of_eq->TN,le_add_right->TU,le_succ->Ua,lt_trans->Uu,lt_succ_self->U3,mul_le_mul_right->Vu,lt_succ_of_lt->Wq,lt_trichotomy->Wu,le_of_lt->Wv,sub_self->WD,le_of_not_lt->WJ,add_mul->Xe,one_mul->Xf,mul_le_mul->Xm,zero_add->Yh,sub_zero->Yj,mul_one->YJ,not_lt->YS
open Ne renaming symm->QC
open Option renaming isSome_iff_exists->Rn,bind_some->UY,getD_none->WI,map_some->W7,none->YC
open Option.some renaming inj->P7
open Or renaming inr->TX,inl->UZ
open Prod renaming fst->Rz,ext->XS
open Prod.mk renaming inj->T7
open PyProof.Rows renaming slot_tuple_getitem->QM,callWith_type1->RP,envOfC->SK,IntsAre->Tt,AllBare->UO,subscriptTail_builtinR->U6,entry_tuple_getitem->VA,args_tuple_getitem->VT,callWith_builtin1->Wy,len_partsBetween->WU,slicePart_none->Xi,Subscript_->Xx,tupleItemsOf_->XU,subscriptTail->XX,IsTup->Yo,lt_int->Yt,tail_any->YK,seqObj->YO
open PyProof.Rows.IsTup renaming new->W5
open PySem renaming wpAny_bind->Pf,Value->Ph,Shared->Pk,starEach->Po,mainGlobals->Pz,Addr->PK,wpAny_pure->PU,Program->PX,wpAny->P_,FuncData->Qi,model->Qj,World->Qn,Expr->Qq,sizeLine_eq->Qw,Around->Qx,bootBuiltins->QO,behindInMarks->QS,wpAny_field->QU,Heap->QV,cellsFrom->QW,wpAny_mono->QZ,compareOp->Q8,backTo->Ra,assignEach->Rm,wpAny_newObj_type->Ro,wpAny_callSpecial?_slot->Rq,excClassObj->Rr,wpAny_truthy_bool->Ru,wpAny_holding->RI,wpAny_loadPart_at->RM,strValues->RU,Stmt->RV,NameKind->RZ,attributeBase->R1,wpAny_setField_rec->R5,wpAny_seqItems->R7,noteFrame->Sb,mem_of_lookup->Sg,wpAny_getItem_str_slice->Sj,wpAny_call_entry->Sk,wpAny_Call_Name_kw->Sl,swapsWith->Sq,letOwnedTupleGo->Ss,wpAny_loadPart'->Su,sliceBounds->Sv,wpAny_pyIter_list->Sy,foldedSetIterable->Sz,binaryOp->SA,typeIs_str->SE,Scope->SJ,wpAny_isSubtype_exc->SV,ExcBaseFacts->S3,wpAny_passesOwn->S6,IsPair->Tc,wpAny_standAt->Td,mem_of_lookup->Ti,wpAny_setField->TJ,codeAny_mono->TM,wpAny_updateSeq_pair->TV,cLine->T3,sysModules->T5,post_val_or_str->Ue,wpAny_pyIter_tuple->Uq,bindArgs->Ur,codeAny->Uy,wpAny_call->UC,slot_list_getitem->UE,wpAny_getItem_list_slice->UG,setFlight->UI,swapsWithSole->UP,wpAny_attempt->UR,wpAny_onRaise->US,wpAny_Call_method1_late->UT,noFill_tuple_add->UX,codeAny_compStart_list->U9,DictEntry->U_,wpAny_isTrue_Compare1->Vc,wpAny_execs_nil->Ve,rawInt->Vf,codeAny_call_builtin->Vs,Builtin->Vz,keywordEach->VB,Keyword->VC,Paired->VJ,swappedStores->VL,pyNext->VM,seq_tuple_add->VQ,IsPart->VR,evalPart_none->VU,evalPart_some->VV,ZipApart->V5,IsZip->V6,builtinsNs->Wa,getItem->Wf,wpAny_sequenceKey->Wg,callerA->Wh,wpAny_rule->Wm,isTrue->Ww,concat_meets->Wz,wpAny_typeOf->WA,wpAny_execs_cons->WH,checkBuiltinCall->WK,wpAny_pyIter_zip->WT,importedModules->WX,treeTable->WY,Model->W0,standAt->W2,BindsTo->W4,slicePick->W6,wpAny_letGo->W9,wpAny_updateSeq->W_,pushCells->Xc,pushCells_keeps->Xd,recursionLimit->Xh,firstArgMember->Xo,newFunctionEnv->Xq,numbered_texts->Xr,Params->Xu,wpAny_Name->Xw,call_meets->Xz,call->XA,JoinOk->XD,GenState->XN,intBits_le_64->XR,backToKw->XZ,OwnTail->X3,Comprehension->X6,compTurn_list->X8,pyIter->Yb,PassesOwn->Yc,bindL->Yr,bindC->Ys,CellsOk->YH,notedBy->YI,handleBy->YQ
open PySem.AutoSeq1 renaming sub_tuple_tuple->UD
open PySem.Builtin.List renaming listTooLong->RC
open PySem.Builtin.Range renaming rangeSize->XQ
open PySem.Builtin.Slice renaming slicePlaces->R6,sliceAdjust->SM,sliceApplied->Uk,slicePartIndex->WW,sliceFields->Xj
open PySem.Builtin.SmallTypes renaming nextOf->Qm,ownedTupleIsFree->Rl,ownedTupleHandOut->SO
open PySem.Builtin.Str renaming occurrences->QT,tooLong->VE,strKind->Xs
open PySem.Builtin.Tuple renaming tupleExact->Sa,tupleItemsOf->Ul,tupleCompareSizes->Wc,tupleIsExact->Xg,tupleHashOf->Xk
open PySem.Calls renaming Name_function_global->Uj
open PySem.Challenge renaming rw_pickalike_k05_written_and_read->P5,pw_pickalike_k05_written_and_read->Rc
open PySem.CmpOp renaming NotIn->Yp,In->Y6
open PySem.Code renaming quiet_builtin->V8
open PySem.Data renaming cell->W3,fields->Yq,seq->YM
open PySem.EntryCells renaming newEntry->T8
open PySem.Env renaming kindOf->YT
open PySem.F renaming slot_tuple_iterator_next->RW,slot_str_getitem->Sf,plainAttrs_list->Si,args_tuple_add_2->SW,entry_tuple_add->S8,slot_tuple_add->Tj,args_tuple_iterator_next_1->T4,attrBase_ValueError->T_,entry_tuple_iterator_next->Ub,slot_zip_next->Uc,excBase_ValueError->Um,slot_list_append->UM,type_list_append->UN,slot_list_index->UU,args_list_extend_2->Vq,entry_list_extend->VD,slot_list_extend->VY,args_zip_next_1->Wn,entry_zip_next->WS
open PySem.Heap renaming get?_push_of_some->Pq,get?_push_size->Px,lt_size->PL,get?_update_other->Rh,SameBut->RA,size_push->RK,get?_update_self->Sw,ExtBut->YF
open PySem.Heap.IsList renaming push->WO
open PySem.Heap.IsSliceOf renaming new->VX
open PySem.Heap.IsTuple renaming push->YV
open PySem.Heap.SameBut renaming update->VF,refl->YW
open PySem.IsL renaming update->YY
open PySem.NameKind renaming free->Ri,cell->S9
open PySem.Obj renaming data_mapFields->Sn,isFreed_of_fields->TQ,mapFields->UQ,mapSeq->Xy
open PySem.Paired renaming length->XM
open PySem.PassesOwn renaming leaving->Wo,never->Xa
open PySem.SeqAt renaming EqAt->R_,ne_of_list_tuple->U8,list_indexAt->XG
open PySem.SeqAt.EqAt renaming same->Vh,int_str->VH,str_int->VI,int_int->VO,of_refs->V2,str_str->XH,tuple_list->Yd,list_tuple->Ye,none_bool->Yl,bool_none->Ym,bool_bool->Yn,none_int->Yu,none_str->Yv,bool_int->Yw,bool_str->Yx,int_none->Yy,int_bool->Yz,str_none->YA,str_bool->YB,str_str->YL
open PySem.SeqAt.RcAt renaming tuples->Wi,lists->WL,lists_lengths->XC
open PySem.SeqAt.RcNeAt renaming tuples->YE,lists->YN
open PySem.Shared renaming heap->YG
open PySem.Str renaming empty->Rf,ofString->SX,length->T6,mk->Y3
open PySem.Txt renaming partition->Pw,slice->QY,split->Q7,join->RD,slice_le->Uw
open PySem.Value renaming ref->RG,none->RL,bool->Tr,builtin->VZ,str->X_,int->YZ
open PySem.Value.ref renaming inj->V1
open PySem.W renaming Frag->Pe,nsIn->PR,mg_of->Qk,kia_one->Qp,mg_none_of->Qv,keepIn->QN,findIn->Q3,kitOne->Q4,fnOf->Q5,clsIn->Rw,mroIn->R4,InstAt->SN,kitx_dict->Tv,codeIn->TF,findObj->T9,callWith_K->Us,typeIn->Uz,kitCls->UA,methodObj->UB,specialIn->UJ,cellsFrom_some->U5,OpenLaw->Vi,takesIn->Vk,kitMeta->Vl,looks_findIn->Vr,kitx_tuple->V4,kitx_none->Wj,kitx_bool->Wk,kitx_list->Wl,kitx_int->WM,kitx_str->WN,notCls->Xn,openEnds->XJ,WalkO->X0
open PySem.W.Hook renaming obs->WE,val->WG
open PySem.W.KIN renaming call_text->Yi
open PySem.W.OpenLaw renaming wellSaid->Xv
open PySem.W.RowW renaming records->Yk
open PySem.W.WData renaming int->Y0
open PySem.W.WShape renaming has->YR
open PySem.Walks renaming list->YU
open Sum renaming inl->Va,inr->Vb
open True renaming intro->S0
set_option Elab.async false
set_option linter.all false
set_option autoImplicit true
set_option relaxedAutoImplicit true
set_option maxRecDepth 100000
namespace L2
open PySem PySem.Spec PyProof.Rows
noncomputable def d8 (s:RV):Arguments:=match s with
 | .FunctionDef _ a _ _ _ _ _ _ _ _=>a
 | _=>{posonlyargs:=[],args:=[],vararg:=none,kwonlyargs:=[],kw_defaults:=[],kwarg:=none,defaults:=[]}
noncomputable def bW (s:RV):List RV:=match s with
 | .FunctionDef _ _ b _ _ _ _ _ _ _=>b
 | _=>[]
noncomputable def aQ (s:RV):SJ:=match s with
 | .FunctionDef _ _ _ _ _ _ sc _ _ _=>sc
 | _=>{kind:=.function,names:=[],isGenerator:=false,isCoroutine:=false}
end L2
namespace L2
open PySem PySem.W PyProof.Rows
noncomputable abbrev Lr (q:PX) (s:Pk):=(seen ((recsOf q).map (·.name)) (ownsOf q) [] {s with gens:=#[]},s.heap.bltView)
noncomputable abbrev Fy (p q:PX) (loose:List Str) (Xt:Pk->Bool) (s:Pk):Bool:=s.heap.keysOk (looseW q loose) ((recsOf q).map (·.name)) ((litsOf q).map (·.1)) ((clssOf q (looseW q loose)).map (·.name)) && s.heap.accountedOkI (WX p.main.body) && s.heap.isNs Pz && s.heap.isNs Wa && tablesOk q s.heap && Xt s && (if true then s.gens.size == 0 else !leftWithCleanup s.gens)
noncomputable abbrev Fz (q:PX) (loose:List Str) (s:Pk):=(pinSeenD q (drecsOf q) s,plainSeenE q (looseW q loose) s,plainSeenD q loose s,wideSeen q s,clsSeenW q loose s)
noncomputable abbrev EF (p q:PX) (N:Nat):Prop:=∀w,(XJ WY p w N).map (Lr q)=some (expectedOf q,bltViewBooted)
noncomputable abbrev EG (p q:PX) (loose:List Str) (Xt:Pk->Bool) (N:Nat):Prop:=∀w,(XJ WY p w N).map (Fy p q loose Xt)=some true
noncomputable abbrev EH (p q:PX) (loose:List Str) (N:Nat):Prop:=∀w,(XJ WY p w N).map (Fz q loose)=some (pinGoodD (drecsOf q),plainGoodE q (looseW q loose),plainGoodD q loose,wideGood q,clsGoodW q loose)
noncomputable abbrev EI (p q:PX){α:Type}(Yf:Pk->α) (Ya:Qn->α) (N:Nat):Prop:=∀w,(XJ WY p w N).map (λs=>(tabsOk q s,Yf s))=some (true,Ya w)
theorem KY {p q:PX}{loose:List Str}{Xt:Pk->Bool}{α:Type}{Yf:Pk->α}{Ya:Qn->α}{N:Nat}(h1:EF p q N) (h2:EG p q loose Xt N) (h3:EH p q loose N) (h4:EI p q Yf Ya N):LeftO p q loose Xt Yf Ya N:=λw=>by obtain ⟨s,e,e1⟩:=Option.map_eq_some_iff.mp (h1 w);have e2:=h2 w;have e3:=h3 w;have e4:=h4 w;rw [e] at e2 e3 e4 ⊢;obtain ⟨a1,a2⟩:=T7 e1;obtain ⟨b1,b2⟩:=T7 (P7 e4);show some (openSeen q loose (WX p.main.body) Xt true s,Yf s)=_;unfold openSeen openGood;rw [a1,a2,b1,b2];show some ((_,_,Fy p q loose Xt s,_,Fz q loose s),_)=_;rw [P7 e2,P7 e3]
end L2
namespace K05
open PySem
noncomputable def top (i:Nat):RV:=Rc.main.body.getD i (.Pass ⟨0,0,0,0⟩)
end K05
set_option maxHeartbeats 4000000
namespace K05
open PySem PySem.Spec PyProof.Rows L2
noncomputable abbrev E (P:Xu) (k:Str) (t:Nat) (v:Ph):U_:=⟨PyData.keyHash P k,.str k t,v⟩
noncomputable abbrev cD (P:Xu) (k:Str) (t r:Nat):U_:=E P k t (.ref r)
noncomputable def LN (n:Str) (t l k a:Nat) (v w:Ph) (r u:Nat):Obj:=⟨.type "code",none,.fields #[.str n t,.str n (t + 1),.str "/claim/cut.py" (t + 2),.int l 0,.int k 0,.int 0 0,.int 0 0,.int 3 0,.ref a,.bool true,.int 181 0,.ref (a + 1),.none,v,w,.ref r,.int u 0,.int l 0,.str "/claim/cut.py" (u + 1)],#[]⟩
noncomputable def k_ (n:Str) (t l k a u:Nat):Obj:=LN n t l k a (.ref (a + 2)) (.ref (a + 3)) (a + 4) u
noncomputable def iS (n:Str) (t l k a u:Nat):Obj:=LN n t l k a .none .none (a + 2) u
noncomputable def eS (n:Str) (k:Nat) (m:Ph) (c:Nat):Obj:=⟨.type "function",none,.func (Q5 n n (d8 (top k)) (bW (top k)) (aQ (top k)) .none .none .none m none (.ref c) .none),#[]⟩
noncomputable def qK (p:Nat):Obj:=⟨.type "tuple",none,.seq #[.ref p] 0,#[]⟩
noncomputable def gr (n:Str) (a d p b t:Nat):Obj:=⟨.type "type",none,.cls ⟨n,[.ref p],[.ref a,.ref p,.type "ValueError",.type "Exception",.type "BaseException",.type "object"],d,n,true,[],[],false,none,false⟩,#[some (.ref b),none,some (.str n t),some (.str n (t + 8)),some (.builtin "ValueError.__new__"),some (.bool true)]⟩
noncomputable def E1 (P:Xu) (m:Ph) (t l a:Nat):Obj:=⟨.type "dict",none,.dict #[E P "__module__" t m,E P "__firstlineno__" (t + 4) (.int l (t + 3)),cD P "__static_attributes__" (t + 5) a,E P "__doc__" (t + 6) .none] 2,#[]⟩
noncomputable def zR (P:Xu) (m:Ph) (t l f a:Nat):Obj:=⟨.type "dict",none,.dict #[E P "__module__" t m,E P "__firstlineno__" (t + 4) (.int l (t + 3)),cD P "__init__" (t + 12) f,cD P "__static_attributes__" (t + 14) a,E P "__doc__" (t + 15) .none] 2,#[]⟩
noncomputable def lO:Ph:=.str "pickalike.errors" 187
noncomputable def lP:Ph:=.str "pickalike.worlds" 421
noncomputable def o6:Ph:=.str "pickalike.worldtexts" 504
noncomputable def ig:Ph:=.str "law_pickalike_k05_written_and_read" 569
noncomputable def KF (P:Xu):Pe:=
(nat_lit 2,⟨.none,none,(.dict #[] 0),#[]⟩)::
(nat_lit 3,⟨(.type "dict"),none,(.dict #[E P "__name__" 165 (.str "law_pickalike_k05_written_and_read" 569),E P "__doc__" 166 .none,E P "__package__" 167 .none,E P "__loader__" 168 (.builtin "__main__.__loader__#opaque"),E P "__spec__" 169 .none,cD P "__annotations__" 170 6,cD P "__builtins__" 171 4,E P "__file__" 173 (.str "/claim/cut.py" 172),E P "__cached__" 174 .none,cD P "PickError" 206 24,cD P "NoWorld" 222 37,cD P "NoTongue" 238 49,cD P "NoSaying" 254 61,cD P "NoMore" 270 73,cD P "NoName" 295 92,cD P "NoLetter" 320 111,cD P "TooMany" 345 130,cD P "NoCount" 370 149,cD P "NoPoint" 395 168,cD P "NoRow" 420 187,E P "LETTERS" 424 (.str "abcdefghijklmnopqrstuvwxyz" 423),cD P "WORDS" 433 190,E P "MOST_POINTS" 435 (.int 8 434),E P "MOST_NAMES" 437 (.int 3 436),cD P "is_whole" 444 197,cD P "is_name" 450 202,cD P "is_point" 458 209,cD P "is_pair" 466 216,cD P "rise" 472 221,cD P "are_points" 478 226,cD P "are_pairs" 484 231,cD P "is_named" 491 238,cD P "are_named" 497 243,cD P "is_world" 503 248,cD P "FIGURES" 515 249,cD P "show_mark" 521 254,cD P "show_arrow" 527 259,cD P "show_world" 533 264,cD P "read_figure" 540 271,cD P "read_pair" 550 278,cD P "read_mark" 556 283,cD P "read_arrow" 562 288,cD P "read_world" 568 293,cD P "_law_cell" 578 300,cD P "_law_names" 584 305,cD P "_law_some" 594 312,cD P "_law_pairs" 605 319,cD P "_law_tongue" 615 326,cD P "_law_world" 629 333,cD P "_law_kinds" 635 338,cD P "_law_same" 641 343,cD P "_law_text" 647 348,cD P "_law_is_name" 653 353,cD P "_law_rising" 659 358,cD P "_law_things" 665 363,cD P "_law_writes" 671 368,cD P "_law_turned" 685 375,cD P "_law_read" 696 382,cD P "law" 710 389] 59),#[]⟩)::
(nat_lit 15,⟨(.type "tuple"),none,(.seq #[(.type "ValueError")] 0),#[]⟩)::
(nat_lit 23,⟨(.type "dict"),none,(.dict #[E P "__module__" 196 (.str "pickalike.errors" 187),E P "__firstlineno__" 200 (.int 2 199),cD P "__static_attributes__" 201 22,cD P "__weakref__" 203 25,E P "__doc__" 204 .none] 3),#[]⟩)::
(nat_lit 24,⟨(.type "type"),none,(.cls ⟨"PickError",[(.type "ValueError")],[(.ref 24),(.type "ValueError"),(.type "Exception"),(.type "BaseException"),(.type "object")],23,"PickError",true,[],[(.ref 37),(.ref 49),(.ref 61),(.ref 73),(.ref 92),(.ref 111),(.ref 130),(.ref 149),(.ref 168),(.ref 187)],false,none,false⟩),#[(some (.ref 15)),none,(some (.str "PickError" 189)),(some (.str "PickError" 197)),(some (.builtin "ValueError.__new__")),(some (.bool true))]⟩)::
(nat_lit 25,⟨(.type "getset_descriptor"),none,(.fields #[(.str "__weakref__" 202),(.ref 24),(.builtin "ExceptionGroup.__weakref__"),.none]),#[]⟩)::
(nat_lit 28,qK 24)::
(nat_lit 36,E1 P lO 214 4 35)::
(nat_lit 37,gr "NoWorld" 37 36 24 28 207)::
(nat_lit 40,qK 24)::
(nat_lit 48,E1 P lO 230 6 47)::
(nat_lit 49,gr "NoTongue" 49 48 24 40 223)::
(nat_lit 52,qK 24)::
(nat_lit 60,E1 P lO 246 8 59)::
(nat_lit 61,gr "NoSaying" 61 60 24 52 239)::
(nat_lit 64,qK 24)::
(nat_lit 72,E1 P lO 262 10 71)::
(nat_lit 73,gr "NoMore" 73 72 24 64 255)::
(nat_lit 76,qK 24)::
(nat_lit 91,zR P lO 278 12 89 90)::
(nat_lit 92,gr "NoName" 92 91 24 76 271)::
(nat_lit 95,qK 24)::
(nat_lit 110,zR P lO 303 17 108 109)::
(nat_lit 111,gr "NoLetter" 111 110 24 95 296)::
(nat_lit 114,qK 24)::
(nat_lit 129,zR P lO 328 22 127 128)::
(nat_lit 130,gr "TooMany" 130 129 24 114 321)::
(nat_lit 133,qK 24)::
(nat_lit 148,zR P lO 353 27 146 147)::
(nat_lit 149,gr "NoCount" 149 148 24 133 346)::
(nat_lit 152,qK 24)::
(nat_lit 167,zR P lO 378 32 165 166)::
(nat_lit 168,gr "NoPoint" 168 167 24 152 371)::
(nat_lit 171,qK 24)::
(nat_lit 186,zR P lO 403 37 184 185)::
(nat_lit 187,gr "NoRow" 187 186 24 171 396)::
(nat_lit 190,⟨(.type "tuple"),none,(.seq #[(.str "and" 425),(.str "or" 426),(.str "not" 427),(.str "some" 428),(.str "every" 429),(.str "least" 430),(.str "true" 431),(.str "false" 432)] 0),#[]⟩)::
(nat_lit 196,k_ "is_whole" 438 47 1 191 442)::
(nat_lit 197,eS "is_whole" 17 lP 196)::
(nat_lit 201,iS "is_name" 445 49 1 198 448)::
(nat_lit 202,eS "is_name" 18 lP 201)::
(nat_lit 208,k_ "is_point" 451 53 2 203 456)::
(nat_lit 209,eS "is_point" 19 lP 208)::
(nat_lit 215,k_ "is_pair" 459 55 2 210 464)::
(nat_lit 216,eS "is_pair" 20 lP 215)::
(nat_lit 220,iS "rise" 467 59 1 217 470)::
(nat_lit 221,eS "rise" 21 lP 220)::
(nat_lit 225,iS "are_points" 473 61 2 222 476)::
(nat_lit 226,eS "are_points" 22 lP 225)::
(nat_lit 230,iS "are_pairs" 479 65 2 227 482)::
(nat_lit 231,eS "are_pairs" 23 lP 230)::
(nat_lit 237,k_ "is_named" 485 69 1 232 489)::
(nat_lit 238,eS "is_named" 24 lP 237)::
(nat_lit 242,iS "are_named" 492 71 1 239 495)::
(nat_lit 243,eS "are_named" 25 lP 242)::
(nat_lit 247,iS "is_world" 498 75 1 244 501)::
(nat_lit 248,eS "is_world" 26 lP 247)::
(nat_lit 249,⟨(.type "tuple"),none,(.seq #[(.str "0" 506),(.str "1" 507),(.str "2" 508),(.str "3" 509),(.str "4" 510),(.str "5" 511),(.str "6" 512),(.str "7" 513),(.str "8" 514)] 0),#[]⟩)::
(nat_lit 253,iS "show_mark" 516 88 2 250 519)::
(nat_lit 254,eS "show_mark" 29 o6 253)::
(nat_lit 258,iS "show_arrow" 522 90 2 255 525)::
(nat_lit 259,eS "show_arrow" 30 o6 258)::
(nat_lit 263,iS "show_world" 528 92 1 260 531)::
(nat_lit 264,eS "show_world" 31 o6 263)::
(nat_lit 270,k_ "read_figure" 534 98 1 265 538)::
(nat_lit 271,eS "read_figure" 32 o6 270)::
(nat_lit 277,k_ "read_pair" 541 102 1 272 548)::
(nat_lit 278,eS "read_pair" 33 o6 277)::
(nat_lit 282,iS "read_mark" 551 105 1 279 554)::
(nat_lit 283,eS "read_mark" 34 o6 282)::
(nat_lit 287,iS "read_arrow" 557 108 1 284 560)::
(nat_lit 288,eS "read_arrow" 35 o6 287)::
(nat_lit 292,iS "read_world" 563 111 1 289 566)::
(nat_lit 293,eS "read_world" 36 o6 292)::
(nat_lit 299,k_ "_law_cell" 571 122 2 294 576)::
(nat_lit 300,eS "_law_cell" 38 ig 299)::
(nat_lit 304,iS "_law_names" 579 126 2 301 582)::
(nat_lit 305,eS "_law_names" 39 ig 304)::
(nat_lit 311,k_ "_law_some" 585 143 2 306 592)::
(nat_lit 312,eS "_law_some" 40 ig 311)::
(nat_lit 318,k_ "_law_pairs" 595 150 2 313 603)::
(nat_lit 319,eS "_law_pairs" 41 ig 318)::
(nat_lit 325,k_ "_law_tongue" 606 158 1 320 613)::
(nat_lit 326,eS "_law_tongue" 42 ig 325)::
(nat_lit 332,k_ "_law_world" 616 163 4 327 627)::
(nat_lit 333,eS "_law_world" 43 ig 332)::
(nat_lit 337,iS "_law_kinds" 630 172 1 334 633)::
(nat_lit 338,eS "_law_kinds" 44 ig 337)::
(nat_lit 342,iS "_law_same" 636 178 2 339 639)::
(nat_lit 343,eS "_law_same" 45 ig 342)::
(nat_lit 347,iS "_law_text" 642 186 1 344 645)::
(nat_lit 348,eS "_law_text" 46 ig 347)::
(nat_lit 352,iS "_law_is_name" 648 193 1 349 651)::
(nat_lit 353,eS "_law_is_name" 47 ig 352)::
(nat_lit 357,iS "_law_rising" 654 199 1 354 657)::
(nat_lit 358,eS "_law_rising" 48 ig 357)::
(nat_lit 362,iS "_law_things" 660 201 3 359 663)::
(nat_lit 363,eS "_law_things" 49 ig 362)::
(nat_lit 367,iS "_law_writes" 666 215 1 364 669)::
(nat_lit 368,eS "_law_writes" 50 ig 367)::
(nat_lit 374,k_ "_law_turned" 672 235 2 369 683)::
(nat_lit 375,eS "_law_turned" 51 ig 374)::
(nat_lit 381,k_ "_law_read" 686 255 1 376 694)::
(nat_lit 382,eS "_law_read" 52 ig 381)::
(nat_lit 388,k_ "law" 697 268 1 383 708)::
(nat_lit 389,eS "law" 53 ig 388)::[]
noncomputable def VW:PX:={Rc with main:={Rc.main with body:=[top 1,top 2,top 3,top 4,top 5,top 6,top 7,top 8,top 9,top 10,top 11,top 13,top 14,top 15,top 16,top 17,top 18,top 19,top 20,top 21,top 22,top 23,top 24,top 25,top 26,top 28,top 29,top 30,top 31,top 32,top 33,top 34,top 35,top 36,top 38,top 39,top 40,top 41,top 42,top 43,top 44,top 45,top 46,top 47,top 48,top 49,top 50,top 51,top 52,top 53]}}
noncomputable def HK:W.Hook:=W.kHook KF [2,3,15,23,24,25,28,36,37,40,48,49,52,60,61,64,72,73,76,91,92,95,110,111,114,129,130,133,148,149,152,167,168,171,186,187,190,196,197,201,202,208,209,215,216,220,221,225,226,230,231,237,238,242,243,247,248,249,253,254,258,259,263,264,270,271,277,278,282,283,287,288,292,293,299,300,304,305,311,312,318,319,325,326,332,333,337,338,342,343,347,348,352,353,357,358,362,363,367,368,374,375,381,382,388,389] (λ_=>by kernel_rfl)
noncomputable def XT:Pk->Bool:=λs=>W.xlAt VW [] s && W.recOk (Yk P5.row.toRowW) s
theorem look:Xv P5=true:=by decide +kernel
theorem KZ:L2.EF P5.row.prog VW 7276:=λw=>by kernel_rfl
theorem K0:L2.EG P5.row.prog VW [] XT 7276:=λw=>by kernel_rfl
theorem K1:L2.EH P5.row.prog VW [] 7276:=λw=>by kernel_rfl
theorem K2:L2.EI P5.row.prog VW (WE HK) (WG HK) 7276:=λw=>by kernel_rfl
theorem left:W.LeftO P5.row.prog VW [] XT (WE HK) (WG HK) 7276:=L2.KY KZ K0 K1 K2
end K05
namespace L2
open PySem PySem.Spec PyProof.Rows
noncomputable abbrev Key:=Sum Int Str
noncomputable def E4:Key->Ph->Bool
 | .inl k,v=>Value.isInt k v
 | .inr x,v=>Value.isStrOf x v
noncomputable def Me (w:Qn):Key->Int
 | .inl k=>hashInt k
 | .inr x=>hashStr w x
theorem er:∀{k:Key}{v:Ph},E4 k v=true->(∃i t,k=Va i/\v=YZ i t)\/(∃x t,k=Vb x/\v=X_ x t)
 | .inl i,v,h=>by obtain ⟨t,e⟩:=Value.isInt_shape (k:=i) (v:=v) h;exact .inl ⟨i,t,rfl,e⟩
 | .inr x,v,h=>by obtain ⟨t,e⟩:=Value.isStrOf_shape (x:=x) (v:=v) h;exact .inr ⟨x,t,rfl,e⟩
theorem Jg (a b:Int):decide ((Va a:Key)=Va b)=(a == b):=by
 by_cases e:a=b
 ·subst e;simp
 ·have h:¬(Va a:Key)=Va b:=λq=>e (Sum.inl.inj q);rw [decide_eq_false h];exact (beq_eq_false_iff_ne.mpr e).symm
theorem Jj (a b:Str):decide ((Vb a:Key)=Vb b)=decide (a=b):=by
 by_cases e:a=b
 ·subst e;simp
 ·have h:¬(Vb a:Key)=Vb b:=λq=>e (Sum.inr.inj q);rw [decide_eq_false h,decide_eq_false e]
theorem Jh (a:Int) (b:Str):decide ((Va a:Key)=Vb b)=false:=decide_eq_false (λq=>nomatch q)
theorem Ji (a:Str) (b:Int):decide ((Vb a:Key)=Va b)=false:=decide_eq_false (λq=>nomatch q)
noncomputable def uF (prog:PX) (w:Qn):PySem.KeyKind prog w Key where
 is:=E4
 hash:=Me w
 inj:=λv a b ha hb=>by
  rcases er ha with ⟨i,t,rfl,rfl⟩ | ⟨x,t,rfl,rfl⟩
  ·rcases er hb with ⟨j,u,rfl,e⟩ | ⟨y,u,rfl,e⟩
   ·injection e with e1 _;rw [e1]
   ·exact nomatch e
  ·rcases er hb with ⟨j,u,rfl,e⟩ | ⟨y,u,rfl,e⟩
   ·exact nomatch e
   ·injection e with e1 _;rw [e1]
 byValue:=λk v h=>by rcases er h with ⟨i,t,rfl,rfl⟩ | ⟨x,t,rfl,rfl⟩ <;> rfl
 pyHash:=λhv h=>by
  rcases er hv with ⟨i,t,rfl,rfl⟩ | ⟨x,t,rfl,rfl⟩
  ·exact wpAny_pyHash_int h
  ·exact wpAny_pyHash_str h
 eqBool:=λhu hv h=>by
  rcases er hu with ⟨i,t,rfl,rfl⟩ | ⟨x,t,rfl,rfl⟩
  ·rcases er hv with ⟨j,u,rfl,rfl⟩ | ⟨y,u,rfl,rfl⟩
   ·rw [Jg] at h;exact wpAny_eqBool_int h
   ·rw [Jh] at h;exact VH i t y u _ _ _ _ h
  ·rcases er hv with ⟨j,u,rfl,rfl⟩ | ⟨y,u,rfl,rfl⟩
   ·rw [Ji] at h;exact VI x t j u _ _ _ _ h
   ·rw [Jj] at h;exact wpAny_eqBool_str h
 «strs»:=λk x t v h=>by
  rcases er h with ⟨i,u,rfl,e⟩ | ⟨y,u,rfl,e⟩
  ·exact nomatch e
  ·injection e with e1 _
   subst e1;cases v <;> rfl
inductive V where
 | non | bl (b:Bool) | int (i:Int) | str (x:Str) | byt (b:Array UInt8) | flt (b:UInt64) | ref (a:PK) | ty (n:String)
 deriving DecidableEq
noncomputable def RelV:V->Ph->Prop
 | .non,u=>u=RL
 | .bl b,u=>u=Tr b
 | .int i,u=>∃t,u=YZ i t
 | .str x,u=>∃t,u=X_ x t
 | .byt b,u=>∃t,u=Value.bytes b t
 | .flt b,u=>∃t,u=Value.float b t
 | .ref a,u=>u=RG a
 | .ty n,u=>u=Value.type n
noncomputable abbrev Vals:List V->List Ph->Prop:=VJ RelV
theorem Vals.length {xs:List V}{us:List Ph}(r:Vals xs us):xs.length=us.length:=XM r
theorem Vals.get:∀{xs:List V}{us:List Ph}{i:Nat}{x:V},Vals xs us->xs[i]?=some x->∃u,us[i]?=some u/\RelV x u
 | _,_,_,_,.nil,e=>by simp at e
 | _,_,0,_,.cons r _,e=>by simp at e;subst e;exact ⟨_,rfl,r⟩
 | _,_,i + 1,x,.cons _ t,e=>by obtain ⟨u,h1,h2⟩:=Vals.get (i:=i) (x:=x) t (by simpa using e);exact ⟨u,by simpa using h1,h2⟩
theorem Vals.append:∀{xs ys:List V}{us ws:List Ph},Vals xs us->Vals ys ws->Vals (xs++ys) (us++ws)
 | _,_,_,_,.nil,s=>s
 | _,_,_,_,.cons r t,s=>.cons r (Vals.append t s)
theorem Vals.take:∀{xs:List V}{us:List Ph}(n:Nat),Vals xs us->Vals (xs.take n) (us.take n)
 | _,_,0,_=>.nil
 | _,_,_ + 1,.nil=>.nil
 | _,_,n + 1,.cons r t=>.cons r (Vals.take n t)
theorem Vals.drop:∀{xs:List V}{us:List Ph}(n:Nat),Vals xs us->Vals (xs.drop n) (us.drop n)
 | _,_,0,r=>r
 | _,_,_ + 1,.nil=>.nil
 | _,_,n + 1,.cons _ t=>Vals.drop n t
noncomputable def Im:Option V->Option Ph->Prop
 | some v,some u=>RelV v u
 | none,none=>True
 | _,_=>False
noncomputable def KV {κ:Type}:List (κ×V)->List (κ×Ph)->Prop:=VJ λ(p:κ×V) (q:κ×Ph)=>p.1=q.1/\RelV p.2 q.2
noncomputable def kV:Key->V
 | .inl i=>.int i
 | .inr x=>.str x
inductive HO where
  | lst (xs:List V)
  | tup (xs:List V)
  | dK (Pd:List (Key×V)) | dT (Pd:List (List Key×V))
  | set (S:Int->Bool) (n:Nat)
  | ins (C dx:PK) (fs:List (Str×V))
  | own (x:PK)
  | xd (fs:List (Str×V))
  | met (f x:PK)
  | rng (lo hi:Int)
  | frz (o:Obj) (u:HO)
  | tbl (ps:Array Ph)
  | ext (φ:QV->Prop)
noncomputable abbrev Hp:=PK->Option HO
noncomputable def upd (H:Hp) (a:PK) (o:HO):Hp:=λb=>if b=a then some o else H b
theorem bI {H:Hp}:upd H a o a=some o:=by unfold upd;rw [if_pos rfl]
theorem aW {H:Hp}(h:b≠a):upd H a o b=H b:=by unfold upd;rw [if_neg h]
theorem HJ {H:Hp}:upd (upd H a o) a u=upd H a u:=by funext b;unfold upd;split <;> rfl
theorem e_ {H:Hp}(h:H a=some o) (h':H b=none):a≠b:=by intro e;subst e;rw [h] at h';cases h'
section
variable (P:PX) (w:Qn)
noncomputable def MJ (h:QV) (a:PK):Prop:=∀o,h.get? a=some o->o.dict=none
noncomputable def dX (H:Hp) (h:QV) (a:PK):HO->Prop
 | .lst xs=>xs.length<=sizeLine/\∃(O8:List Ph) (n:Nat),Vals xs O8/\h.get? a=some {cls:=.type "list",data:=.seq O8.toArray n}
 | .tup xs=>xs.length<=sizeLine/\∃O8:List Ph,Vals xs O8/\Yo h a O8.toArray/\MJ h a
 | .dK Pd=>Pd.length<=sizeLine/\(a == T5)=false/\∃vs,KV Pd vs/\h.DictOf (uF P w) a vs
 | .dT Pd=>Pd.length<=sizeLine/\(a == T5)=false/\∃xs:List (List Key×PK×Ph),
   VJ (λ(p:List Key×V) (q:List Key×PK×Ph)=>p.1=q.1/\H q.2.1=some (.tup (p.1.map kV))/\RelV p.2 q.2.2) Pd xs/\
   ∃o es ep,h.get? a=some o/\o.ExactDict/\o.data=.dict es ep/\es.toList=xs.map (entryOfKey (tupleKind (uF P w)))/\(xs.map (·.1)).Nodup
 | .set S n=>h.SetOf (intKind P w) a S n
 | .ins C dx fs=>H dx=some (.own a)/\fs.length<=1000/\dx≠a/\h.get? a=some (W.instObj C dx)/\
   ∃mA,h.Ns1 dx mA/\(∀f,Im (fs.lookup f) (mA f))/\PySem.Within mA (fs.map (·.1))
 | .own _=>∃o,h.get? a=some o
 | .xd fs=>∃mA,h.Ns1 a mA/\∀f,Im (fs.lookup f) (mA f)
 | .rng lo hi=>∃t u v,h.get? a=some {cls:=.type "range",data:=.fields #[.int lo t,.int hi u,.int 1 v]}
 | .frz o u=>h.get? a=some o/\dX H h a u
 | .tbl ps=>h.get? a=some {cls:=.none,data:=.fields ps}
 | .met f x=>h.get? a=some (UB (.ref f) (.ref x))
 | .ext φ=>φ h/\(∃o,h.get? a=some o)/\∀h1 h2:QV,φ h1->(∀o,h1.get? a=some o->h2.get? a=some o)->φ h2
noncomputable def gn (H:Hp) (h:QV):Prop:=∀a o,H a=some o->dX P w H h a o
end
section
variable {P:PX}{w:Qn}{H H':Hp}{h h':QV}{a:PK}{o:HO}
theorem dX.lt (x:dX P w H h a o):a < h.objs.size:=by
 cases o with
 | lst xs=>obtain ⟨_,_,_,_,e⟩:=x;exact PL e
 | tup xs=>obtain ⟨_,_,_,p,_⟩:=x;exact p.lt
 | dK Pd=>obtain ⟨_,_,_,_,o,_,_,e,_⟩:=x;exact PL e
 | dT Pd=>obtain ⟨_,_,_,_,o,_,_,e,_⟩:=x;exact PL e
 | set S n=>obtain ⟨o,_,_,_,e,_⟩:=x;exact PL e
 | ins C dx fs=>obtain ⟨_,_,_,e,_⟩:=x;exact PL e
 | own y=>obtain ⟨_,e⟩:=x;exact PL e
 | xd fs=>obtain ⟨_,⟨_,_,_,e,_⟩,_⟩:=x;exact PL e
 | rng lo hi=>obtain ⟨_,_,_,e⟩:=x;exact PL e
 | frz ob u=>obtain ⟨e,_⟩:=x;exact PL e
 | tbl ps=>exact PL (show h.get? a=some _ from x)
 | met f y=>exact PL (show h.get? a=some _ from x)
 | ext φ=>obtain ⟨_,⟨_,e⟩,_⟩:=x;exact PL e
theorem VJ.mapP {α β:Type}{F G:α->β->Prop}:∀{l₁:List α}{l₂:List β},VJ F l₁ l₂->(∀a b,F a b->G a b)->VJ G l₁ l₂
 | _,_,.nil,_=>.nil
 | _,_,.cons r t,f=>.cons (f _ _ r) (VJ.mapP t f)
theorem dX.stay (x:dX P w H h a o) (k:∀b u,(b=a\/H b=some (.own a))->h.get? b=some u->h'.get? b=some u)
  (ho:∀b,H b=some (.own a)->H' b=some (.own a)) (ht:∀b xs,H b=some (.tup xs)->H' b=some (.tup xs)):dX P w H' h' a o:=by
 induction o with
 | lst xs=>obtain ⟨z,O8,n,r,e⟩:=x;exact ⟨z,O8,n,r,k _ _ (.inl rfl) e⟩
 | tup xs=>obtain ⟨z,O8,r,⟨ob,e,c⟩,nd⟩:=x;exact ⟨z,O8,r,⟨ob,k _ _ (.inl rfl) e,c⟩,λo q=>by rw [k _ _ (.inl rfl) e] at q;cases q;exact nd _ e⟩
 | dK Pd=>obtain ⟨z,y,vs,r,ob,es,ep,e,c⟩:=x;exact ⟨z,y,vs,r,ob,es,ep,k _ _ (.inl rfl) e,c⟩
 | dT Pd=>
  obtain ⟨z,y,xs,r,ob,es,ep,e,c⟩:=x;exact ⟨z,y,xs,VJ.mapP r λp q z=>⟨z.1,ht _ _ z.2.1,z.2.2⟩,ob,es,ep,k _ _ (.inl rfl) e,c⟩
 | set S n=>obtain ⟨ob,es,ep,t,e,c⟩:=x;exact ⟨ob,es,ep,t,k _ _ (.inl rfl) e,c⟩
 | ins C dx fs=>
  obtain ⟨d,z,ne,e,mA,⟨od,es,ep,e2,c⟩,r⟩:=x;exact ⟨ho _ d,z,ne,k _ _ (.inl rfl) e,mA,⟨od,es,ep,k _ _ (.inr d) e2,c⟩,r⟩
 | own y=>obtain ⟨ob,e⟩:=x;exact ⟨ob,k _ _ (.inl rfl) e⟩
 | xd fs=>obtain ⟨mA,⟨od,es,ep,e,c⟩,r⟩:=x;exact ⟨mA,⟨od,es,ep,k _ _ (.inl rfl) e,c⟩,r⟩
 | rng lo hi=>obtain ⟨t,u,v,e⟩:=x;exact ⟨t,u,v,k _ _ (.inl rfl) e⟩
 | frz ob u ih=>obtain ⟨e,q⟩:=x;exact ⟨k _ _ (.inl rfl) e,ih q⟩
 | tbl ps=>
  have e:h.get? a=some {cls:=.none,data:=.fields ps}:=x;show h'.get? a=some {cls:=.none,data:=.fields ps};exact k a _ (.inl rfl) e
 | met f y=>
  have e:h.get? a=some (UB (.ref f) (.ref y)):=x;show h'.get? a=some (UB (.ref f) (.ref y));exact k a _ (.inl rfl) e
 | ext φ=>obtain ⟨p,⟨o,e⟩,st⟩:=x;exact ⟨st _ _ p λo q=>k _ _ (.inl rfl) q,⟨o,k _ _ (.inl rfl) e⟩,st⟩
theorem gn.lt (x:gn P w H h) (e:H a=some o):a < h.objs.size:=(x a o e).lt
theorem gn.fresh (x:gn P w H h) (e:h.objs.size<=a):H a=none:=by
 cases q:H a with
 | none=>rfl
 | some u=>exact absurd (PM (x.lt q) e) (Q6 _)
theorem gn.kept (x:gn P w H h) (k:∀b u,h.get? b=some u->h'.get? b=some u):gn P w H h':=λa o e=>
 (x a o e).stay (λb u _ q=>k b u q) (λ_ q=>q) λ_ _ q=>q
theorem gn.laid (x:gn P w H h) (k:∀b u,h.get? b=some u->h'.get? b=some u) (hp:h.objs.size<=a) (new:dX P w (upd H a o) h' a o):gn P w (upd H a o) h':=λb u e=>by
 have hn:=x.fresh hp;by_cases hb:b=a
 ·subst hb;rw [bI] at e;cases e;exact new
 ·rw [aW hb] at e;exact (x b u e).stay (λc v _ q=>k c v q) (λc q=>by rw [aW (e_ q hn)];exact q) λc xs q=>by rw [aW (e_ q hn)];exact q
end
noncomputable def Rd (H:Hp) (a:PK) (u:HO):Prop:=H a=some u\/∃o,H a=some (.frz o u)
theorem Rd.ok {H:Hp}(r:Rd H a u) (x:gn P w H h):dX P w H h a u:=by
 rcases r with r | ⟨o,r⟩
 ·exact x a u r
 ·obtain ⟨_,q⟩:=x a _ r;exact q
noncomputable def EJ:Option HO->Prop
 | some (.lst _)=>True
 | some (.dK _)=>True
 | some (.dT _)=>True
 | some (.set _ _)=>True
 | some (.ins _ _ _)=>True
 | some (.ext _)=>True
 | _=>False
section
variable {P:PX}{w:Qn}{H:Hp}{h h':QV}{x e:PK}{o':HO}
theorem gn.write (ok:gn P w H h) (mu:EJ (H x)) (he:e=x\/H e=some (.own x)) (k:∀b u,b≠e->h.get? b=some u->h'.get? b=some u) (Oa:∃u,h'.get? e=some u)
  (new:dX P w (upd H x o') h' x o'):gn P w (upd H x o') h':=λb u q=>by
 have nown:∀c y,H c=some (.own y)->c≠x:=λc y r z=>by subst z;rw [r] at mu;exact mu
 have ntup:∀c xs,H c=some (.tup xs)->c≠x:=λc xs r z=>by subst z;rw [r] at mu;exact mu
 by_cases hb:b=x
 ·subst hb;rw [bI] at q;cases q;exact new
 ·rw [aW hb] at q;by_cases NP:b=e
  ·have q':H b=some (.own x):=by
    rcases he with z | z
    ·exact absurd (NP.trans z) hb
    ·rw [NP];exact z
   rw [q] at q';cases q';obtain ⟨v,hv⟩:=Oa;exact ⟨v,by rw [NP];exact hv⟩
  ·refine (ok b u q).stay (λc v hc r=>k c v ?_ r) (λc r=>by rw [aW (nown c b r)];exact r) λc xs r=>by rw [aW (ntup c xs r)];exact r
   rcases hc with rfl | hc
   ·exact NP
   ·rintro rfl;rcases he with z | z
    ·exact nown c b hc z
    ·rw [hc] at z;cases z;exact hb rfl
end
structure Un (fs ex:List PK) (H H':Hp) (h h':QV):Prop where
 keep:∀b o,h.get? b=some o->H b=none->b∉fs->b∉ex->h'.get? b=some o
 slot:∀b o,h.get? b=some o->H b=none->b∈fs->b∉ex->∃sl,h'.get? b=some {o with slots:=sl}
 free:∀b o,h.get? b=some o->H b=none->b∉ex->H' b=none
 there:∀b o,h.get? b=some o->b∉ex->∃o',h'.get? b=some o'
 tups:∀b xs,H b=some (.tup xs)->H' b=some (.tup xs)
 frzs:∀b o u,H b=some (.frz o u)->H' b=some (.frz o u)
 tbls:∀b ps,H b=some (.tbl ps)->∃more,H' b=some (.tbl (ps++more))
section
variable {fs fs' ex ex':List PK}{H H1 H2:Hp}{h h1 h2 h':QV}{a x e:PK}{o:HO}
theorem Un.any (u:Un fs ex H H1 h h1) (q:h.get? b=some ob) (n:H b=none) (hx:b∉ex):∃sl,h1.get? b=some {ob with slots:=sl}:=by
 by_cases hb:b∈fs
 ·exact u.slot b ob q n hb hx
 ·exact ⟨ob.slots,u.keep b ob q n hb hx⟩
theorem Un.kept (k:∀b u,h.get? b=some u->h'.get? b=some u):Un fs ex H H h h':=
 ⟨λb ob q _ _ _=>k b ob q,λb ob q _ _ _=>⟨ob.slots,k b ob q⟩,λ_ _ _ n _=>n,λb ob q _=>⟨ob,k b ob q⟩,λ_ _ q=>q,λ_ _ _ q=>q,λ_ ps q=>⟨#[],by rw [q];simp⟩⟩
theorem Un.refl:Un fs ex H H h h:=Un.kept λ_ _ q=>q
theorem Un.laid (k:∀b u,h.get? b=some u->h'.get? b=some u) (hp:h.objs.size<=a) (hn:H a=none):Un fs ex H (upd H a o) h h' where
 keep:=λb u q _ _ _=>k b u q
 slot:=λb u q _ _ _=>⟨u.slots,k b u q⟩
 free:=λb u q n _=>by rw [aW (QA (PM (PL q) hp))];exact n
 there:=λb u q _=>⟨u,k b u q⟩
 tups:=λb xs q=>by rw [aW (e_ q hn)];exact q
 frzs:=λb u xs q=>by rw [aW (e_ q hn)];exact q
 tbls:=λb ps q=>⟨#[],by rw [aW (e_ q hn),q];simp⟩
theorem Un.write (mu:EJ (H x)) (he:e=x\/H e=some (.own x)) (k:∀b u,b≠e->h.get? b=some u->h'.get? b=some u) (Oa:∃u,h'.get? e=some u):Un fs ex H (upd H x o) h h':=by
 have hx:∀b,H b=none->b≠x:=λb n z=>by subst z;rw [n] at mu;exact mu
 have hb:∀b,H b=none->b≠e:=λb n z=>by
  subst z;rcases he with r | r
  ·exact hx b n r
  ·rw [n] at r;cases r
 have hm:∀b u,H b=some u->¬EJ (some u)->b≠x:=λb u q nm z=>by subst z;rw [q] at mu;exact nm mu
 refine ⟨λb u q n _ _=>k b u (hb b n) q,λb u q n _ _=>⟨u.slots,k b u (hb b n) q⟩,λb u q n _=>by rw [aW (hx b n)];exact n,λb u q _=>?_,
  λb xs q=>by rw [aW (hm b _ q λz=>z)];exact q,λb u xs q=>by rw [aW (hm b _ q λz=>z)];exact q,λb ps q=>⟨#[],by rw [aW (hm b _ q λz=>z),q];simp⟩⟩
 by_cases NP:b=e
 ·subst NP;exact Oa
 ·exact ⟨u,k b u NP q⟩
end
noncomputable def gv (h:QV) (H:Hp):List PK:=(Qc h.objs.size).filter λa=>(H a).isSome
noncomputable def nc (h:QV) (H:Hp):QV:=W.hideAll h (gv h H)
theorem BQ (h:QV) (H:Hp):(nc h H).objs.size=h.objs.size:=W.hideAll_size _ _
theorem DJ {h:QV}{H:Hp}(e:h.get? b=some o) (n:H b=none):(nc h H).get? b=some o:=
 W.hideAll_get _ e λhm=>by have q:(H b).isSome=true:=(WZ.mp hm).2;rw [n] at q;simp at q
theorem GD {h:QV}{H:Hp}(e:(nc h H).get? b=some o):h.get? b=some o/\H b=none:=by
 have e':h.get? b=some o:=W.of_hideAll (gv h H) e;refine ⟨e',?_⟩;cases q:H b with
 | none=>rfl
 | some x=>
  have hm:b∈gv h H:=WZ.mpr ⟨Qt.mpr (PL e'),by simp [q]⟩;have z:(nc h H).get? b=none:=W.hideAll_none (gv h H) hm;rw [z] at e;cases e
noncomputable def F7 (g h:QV) (L:PK):List (PK×Obj):=(Qc h.objs.size).filterMap λa=>if a=L\/(g.get? a).isSome=true then none else (h.get? a).map λo=>(a,o)
noncomputable def O_ (g h:QV) (L d:PK):List (PK×Obj):=(F7 g h L).filter λp=>decide (p.1≠d)
structure Mod (K:Pe) (mg:Str->Option Ph) (base:QV):Prop where
 kin:K.In base
 glob:base.Ns Pz mg
 blt:∃mb,base.Ns Wa mb/\∀x:Str,x≠"__name__"->mb x=QO x
 nolimit:base.NoLimit
structure Cx where
 prog:PX
 w:Qn
 K:Pe
 mg:Str->Option Ph
 base:QV
 A:Qx
 N:List Str
 s₀:Pk
 H₀:Hp
 env:Env
 outer:List Env
 stack:List Env
 ex:List PK
 fn:Str->Bool
 calm:Bool
 pn:List (PK×Obj)
 xe:Ph->Pk->Prop
noncomputable def frs (l:List Env):List PK:=l.filterMap (·.frame)
noncomputable abbrev Cx.fs (X:Cx):List PK:=frs X.outer
noncomputable def zE (sc:SJ) (x:Str):Prop:=sc.names.lookup x=some .local\/sc.names.lookup x=some .cell\/sc.names.lookup x=some .free
noncomputable def Loc (sc:SJ) (x:Str):Prop:=sc.names.lookup x=some .local\/sc.names.lookup x=some .cell
noncomputable def Look (env:Env) (h:QV) (m:Str->Option Ph) (x:Str) (u:Ph):Prop:=
 (env.kindOf x=some .local/\m x=some u)\/((env.kindOf x=some .cell\/env.kindOf x=some .free)/\∃c,env.cells.lookup x=some c/\h.IsCell c (some u))
structure Cx.Ok (X:Cx):Prop where
 mod:Mod X.K X.mg X.base
 kind:X.env.scope.kind=.function
 glob:X.env.globals=Pz
 blt:X.env.builtins=Wa
 above:X.s₀.heap.objs.size<=X.env.locals
 inj:∀x y c,X.env.cells.lookup x=some c->X.env.cells.lookup y=some c->x=y
 has:∀x,(X.env.kindOf x=some .cell\/X.env.kindOf x=some .free)->∃c,X.env.cells.lookup x=some c
 cab:∀x c,X.fn x=true->X.env.cells.lookup x=some c->X.s₀.heap.objs.size<=c
 hd:X.calm=true->X.A.handled=none
 frames:X.A.frames=some X.stack
 stk:X.stack=X.outer\/(X.stack=X.env::X.outer/\X.env.frame=some X.env.locals)
 exf:∀b∈X.ex,b≠X.env.locals/\∀x c,X.env.cells.lookup x=some c->c≠b
 bs:∀b o,X.base.get? b=some o->X.s₀.heap.get? b=some o/\X.H₀ b=none
 bsz:X.base.objs.size<=X.s₀.heap.objs.size
 noex:∀b o,X.base.get? b=some o->b∉X.ex
 exfs:∀b∈X.ex,b∉X.fs
 funs:X.s₀.heap.FunFrames X.base X.outer
 frf:∀b∈X.fs,X.H₀ b=none
structure Inv (X:Cx) (O6:List (PK×Obj)) (σ:List (Option V)) (H:Hp) (s:Pk):Prop where
 ok:X.Ok
 os:s.os=X.s₀.os
 bare:UO s.gens
 base:Un X.fs X.ex X.H₀ H X.s₀.heap s.heap
 loc:∃m,s.heap.Ns X.env.locals m/\∀(i:Nat) (x:Str) (v:V),X.N[i]?=some x->σ[i]?=some (some v)->zE X.env.scope x->∃u,RelV v u/\Look X.env s.heap m x u
 cell:∀x c,X.env.cells.lookup x=some c->∃v,s.heap.IsCell c v
 free:H X.env.locals=none
 freeC:∀x c,X.env.cells.lookup x=some c->H c=none
 pin:∀p∈X.pn++O6,s.heap.get? p.1=some p.2/\H p.1=none/\p.1≠X.env.locals/\p.1∉X.fs/\∀v,p.2.data≠.cell v
 hok:gn X.prog X.w H s.heap
 len:σ.length=X.N.length
section
variable {X:Cx}{O6:List (PK×Obj)}{σ:List (Option V)}{H H':Hp}{s:Pk}{h':QV}
theorem Cx.Ok.nofr (ok:X.Ok) (e:X.base.get? b=some o):b∉X.fs:=λhb=>by have:=(ok.funs.mem hb).1;rw [e] at this;cases this
theorem Inv.bs (I:Inv X O6 σ H s):∀b o,X.base.get? b=some o->s.heap.get? b=some o/\H b=none:=λb o e=>
 ⟨I.base.keep b o (I.ok.bs b o e).1 (I.ok.bs b o e).2 (I.ok.nofr e) (I.ok.noex b o e),I.base.free b o (I.ok.bs b o e).1 (I.ok.bs b o e).2 (I.ok.noex b o e)⟩
theorem Inv.bk (I:Inv X O6 σ H s):∀b o,X.base.get? b=some o->s.heap.get? b=some o:=λb o e=>(I.bs b o e).1
theorem Inv.mod (I:Inv X O6 σ H s):Mod X.K X.mg X.base:=I.ok.mod
theorem Inv.kIn (I:Inv X O6 σ H s):X.K.In s.heap:=I.ok.mod.kin.keeps I.bk
theorem Inv.lt (I:Inv X O6 σ H s):X.env.locals < s.heap.objs.size:=let ⟨_,hn,_⟩:=I.loc;hn.lt
theorem Inv.sz (I:Inv X O6 σ H s):X.s₀.heap.objs.size<=s.heap.objs.size:=P6 I.ok.above (Wv I.lt)
theorem Inv.nofs (I:Inv X O6 σ H s) (h:s.heap.objs.size<=a):a∉X.fs:=λhb=>by obtain ⟨_,o,ho,_⟩:=I.ok.funs.mem hb;exact absurd (PM (PL ho) (P6 I.sz h)) (Q6 _)
theorem Inv.cne (I:Inv X O6 σ H s):∀x c,X.env.cells.lookup x=some c->c≠X.env.locals:=λx c e z=>by obtain ⟨v,o,ho,hd⟩:=I.cell x c e;obtain ⟨m,⟨o',es,ep,ho',hd',_⟩,_⟩:=I.loc;rw [z,ho'] at ho;cases ho;rw [hd'] at hd;cases hd
theorem Inv.funs (I:Inv X O6 σ H s):s.heap.FunFrames X.base X.outer:=by
 have all:∀(l:List Env),(∀b∈frs l,b∈X.fs)->X.s₀.heap.FunFrames X.base l->s.heap.FunFrames X.base l:=by
  intro l
  induction l with
  | nil=>intro _ _;trivial
  | cons env r ih=>
   intro hs hl;obtain ⟨hk,⟨L,o,hf,hn,ho,hd⟩,hr⟩:=hl;have hL:L∈X.fs:=hs L (by unfold frs;rw [RO,hf];exact P0);obtain ⟨sl,e⟩:=I.base.slot L o ho (I.ok.frf L hL) hL λz=>I.ok.exfs L z hL;exact ⟨hk,⟨L,_,hf,hn,e,hd⟩,ih (λb hb=>hs b (by unfold frs;rw [RO,hf];exact Py _ hb)) hr⟩
 exact all X.outer (λ_ hb=>hb) I.ok.funs
theorem Inv.stack (I:Inv X O6 σ H s):s.heap.FunFrames X.base X.stack:=by
 rcases I.ok.stk with e | ⟨e,hf⟩
 ·rw [e];exact I.funs
 ·rw [e];obtain ⟨m,hn,_⟩:=I.loc;refine .cons (by rw [I.ok.kind];decide) hf hn ?_ I.funs;exact Heap.get?_none_of_le (P6 I.ok.bsz I.ok.above)
theorem Inv.stkSub (I:Inv X O6 σ H s):∀b∈frs X.stack,b∈X.env.locals::X.fs:=λb hb=>by
 rcases I.ok.stk with e | ⟨e,hf⟩
 ·rw [e] at hb;exact Py _ hb
 ·rw [e] at hb;unfold frs at hb;rw [RO,hf] at hb;exact hb
theorem Inv.stkFree (I:Inv X O6 σ H s):∀b∈frs X.stack,H b=none:=λb hb=>by
 rcases Pp.mp (I.stkSub b hb) with e | hb
 ·rw [e];exact I.free
 ·obtain ⟨_,o,ho,_⟩:=I.ok.funs.mem hb;exact I.base.free b o ho (I.ok.frf b hb) λz=>I.ok.exfs b z hb
theorem Inv.step {g':Array XN}{t':Nat}{d':Drawn}{ch:List PK}(I:Inv X O6 σ H s)
  (hch:∀b∈ch,(b∈X.ex\/X.s₀.heap.objs.size<=b)/\b≠X.env.locals/\(∀x c,X.env.cells.lookup x=some c->c≠b)/\∀p∈X.pn++O6,p.1≠b)
  (keep:∀b o,b≠X.env.locals->b∉X.fs->b∉ch->s.heap.get? b=some o->H b=none->h'.get? b=some o)
  (slot:∀b o,b≠X.env.locals->b∈X.fs->b∉ch->s.heap.get? b=some o->H b=none->∃sl,h'.get? b=some {o with slots:=sl}) (free:∀b o,b∉ch->s.heap.get? b=some o->H b=none->H' b=none)
  (there:∀b o,b∉ch->s.heap.get? b=some o->∃o',h'.get? b=some o')
  (tups:∀b xs,H b=some (.tup xs)->H' b=some (.tup xs)) (frzs:∀b o u,H b=some (.frz o u)->H' b=some (.frz o u)) (tbls:∀b ps,H b=some (.tbl ps)->∃more,H' b=some (.tbl (ps++more)))
  (ns:∀m,s.heap.Ns X.env.locals m->h'.Ns X.env.locals m) (hok:gn X.prog X.w H' h') (hg:UO g'):
  Inv X O6 σ H' {s with heap:=h',gens:=g',drawn:=d',toks:=t'}:=by
 have neL:∀b o,X.s₀.heap.get? b=some o->b≠X.env.locals:=λb o e=>QA (PM (PL e) I.ok.above);have neC:∀b o,X.s₀.heap.get? b=some o->b∉X.ex->b∉ch:=λb o e hx hb=>by
  rcases (hch b hb).1 with z | z
  ·exact hx z
  ·exact absurd (PM (PL e) z) (Q6 _)
 have cellK:∀x c,X.env.cells.lookup x=some c->∀v,s.heap.IsCell c v->h'.IsCell c v:=λx c e v ⟨o,ho,hd⟩=>by
  have nch:c∉ch:=λz=>(hch c z).2.2.1 x c e rfl;by_cases hc:c∈X.fs
  ·obtain ⟨sl,q⟩:=slot c o (I.cne x c e) hc nch ho (I.freeC x c e);exact ⟨_,q,hd⟩
  ·exact ⟨o,keep c o (I.cne x c e) hc nch ho (I.freeC x c e),hd⟩
 refine ⟨I.ok,I.os,hg,⟨λb o e n hb hx=>?_,λb o e n hb hx=>?_,λb o e n hx=>?_,λb o e hx=>?_,λb xs e=>tups b xs (I.base.tups b xs e),λb o xs e=>frzs b o xs (I.base.frzs b o xs e),λb ps e=>?_⟩,?_,λx c e=>?_,?_,λx c e=>?_,λp hp=>?_,hok,I.len⟩
 ·exact keep b o (neL b o e) hb (neC b o e hx) (I.base.keep b o e n hb hx) (I.base.free b o e n hx)
 ·obtain ⟨sl,e1⟩:=I.base.slot b o e n hb hx;obtain ⟨sl',e2⟩:=slot b _ (neL b o e) hb (neC b o e hx) e1 (I.base.free b o e n hx);exact ⟨sl',e2⟩
 ·obtain ⟨o',e1⟩:=I.base.there b o e hx;exact free b o' (neC b o e hx) e1 (I.base.free b o e n hx)
 ·obtain ⟨o',e1⟩:=I.base.there b o e hx;exact there b o' (neC b o e hx) e1
 ·obtain ⟨m1,e1⟩:=I.base.tbls b ps e;obtain ⟨m2,e2⟩:=tbls b _ e1;exact ⟨m1++m2,by rw [e2,Up]⟩
 ·obtain ⟨m,hn,hl⟩:=I.loc;refine ⟨m,ns m hn,λi x v e1 e2 e3=>?_⟩;obtain ⟨u,r,l⟩:=hl i x v e1 e2 e3;refine ⟨u,r,?_⟩;rcases l with l | ⟨k,c,e,z⟩
  ·exact .inl l
  ·exact .inr ⟨k,c,e,cellK x c e _ z⟩
 ·obtain ⟨v,z⟩:=I.cell x c e;exact ⟨v,cellK x c e v z⟩
 ·obtain ⟨m,⟨o,_,_,ho,_⟩,_⟩:=I.loc;exact free _ o (λz=>(hch _ z).2.1 rfl) ho I.free
 ·obtain ⟨v,o,ho,hd⟩:=I.cell x c e;exact free c o (λz=>(hch c z).2.2.1 x c e rfl) ho (I.freeC x c e)
 ·obtain ⟨e,n,ne,nf,d⟩:=I.pin p hp;have nch:p.1∉ch:=λz=>(hch p.1 z).2.2.2 p hp rfl;exact ⟨keep p.1 p.2 ne nf nch e n,free p.1 p.2 nch e n,ne,nf,d⟩
theorem Inv.un (I:Inv X O6 σ H s) (u:Un X.fs [] H H' s.heap h') (hok:gn X.prog X.w H' h'):Inv X O6 σ H' {s with heap:=h',toks:=t'}:=by
 obtain ⟨m,⟨o,es,ep,ho,r⟩,_⟩:=id I.loc;obtain ⟨sl,hL⟩:=u.any ho I.free (by simp);exact I.step (g':=s.gens) (d':=s.drawn) (ch:=[]) (λ_ z=>nomatch z) (λb o _ hb _ e n=>u.keep b o e n hb (by simp)) (λb o _ hb _ e n=>u.slot b o e n hb (by simp)) (λb o _ e n=>u.free b o e n (by simp)) (λb o _ e=>u.there b o e (by simp)) u.tups u.frzs u.tbls (λm' hm=>by
  obtain ⟨o',es',ep',ho',r'⟩:=hm;rw [ho] at ho';cases ho';exact ⟨_,es',ep',hL,r'⟩) hok I.bare
theorem Inv.call (I:Inv X O6 σ H s) (u:Un (frs X.stack) ch H H' s.heap h') (hok:gn X.prog X.w H' h') (hg:UO g')
 (hch:∀b∈ch,(b∈X.ex\/X.s₀.heap.objs.size<=b)/\b≠X.env.locals/\(∀x c,X.env.cells.lookup x=some c->c≠b)/\∀p∈X.pn++O6,p.1≠b):
  Inv X O6 σ H' {s with heap:=h',gens:=g',drawn:=d',toks:=t'}:=by
 obtain ⟨m,⟨o,es,ep,ho,r⟩,_⟩:=id I.loc;obtain ⟨sl,hL⟩:=u.any ho I.free λz=>(hch _ z).2.1 rfl;exact I.step (ch:=ch) hch (λb o hL hb hc e n=>u.keep b o e n (λz=>(Pp.mp (I.stkSub b z)).elim hL hb) hc) (λb o _ _ hc e n=>u.any e n hc) (λb o hc e n=>u.free b o e n hc) (λb o hc e=>u.there b o e hc) u.tups u.frzs u.tbls (λm' hm=>by
  obtain ⟨o',es',ep',ho',r'⟩:=hm;rw [ho] at ho';cases ho';exact ⟨_,es',ep',hL,r'⟩) hok hg
theorem Inv.turned {t':Nat}{it:PK}(I:Inv X O6 σ H s) (k:∀b o,b≠it->s.heap.get? b=some o->h'.get? b=some o) (hn:H it=none) (hL:it≠X.env.locals)
  (h1:it∈X.ex\/X.s₀.heap.objs.size<=it) (h2:∀x c,X.env.cells.lookup x=some c->c≠it) (h3:∀p∈X.pn++O6,p.1≠it):Inv X O6 σ H {s with heap:=h',toks:=t'}:=by
 have nit:∀b u,H b=some u->b≠it:=λb u e z=>by rw [z,hn] at e;cases e
 refine I.step (g':=s.gens) (d':=s.drawn) (ch:=[it]) (λb hb=>?_) (λb o _ _ hc e _=>k b o (λz=>hc (by simp [z])) e) (λb o _ _ hc e _=>⟨o.slots,k b o (λz=>hc (by simp [z])) e⟩) (λ_ _ _ _ n=>n)
  (λb o hc e=>⟨o,k b o (λz=>hc (by simp [z])) e⟩) (λ_ _ e=>e) (λ_ _ _ e=>e) (λb ps e=>⟨#[],by rw [e];simp⟩) (λm hm=>?_) (λb u e=>?_) I.bare
 ·have e:b=it:=by simpa using hb
  subst e;exact ⟨h1,hL,h2,h3⟩
 ·obtain ⟨o,es,ep,ho,r⟩:=hm;exact ⟨o,es,ep,k _ o (QC hL) ho,r⟩
 ·refine (I.hok b u e).stay (λc v hc q=>k c v ?_ q) (λ_ q=>q) λ_ _ q=>q;rcases hc with z | z
  ·rw [z];exact nit b u e
  ·exact nit c _ z
theorem Inv.tok (I:Inv X O6 σ H s) (t:Nat):Inv X O6 σ H {s with toks:=t}:=I.un (h':=s.heap) (t':=t) Un.refl I.hok
theorem Inv.kept (I:Inv X O6 σ H s) (k:∀b u,s.heap.get? b=some u->h'.get? b=some u):Inv X O6 σ H {s with heap:=h',toks:=t'}:=I.un (Un.kept k) (I.hok.kept k)
theorem Inv.laid (I:Inv X O6 σ H s) (k:∀b u,s.heap.get? b=some u->h'.get? b=some u) (hp:s.heap.objs.size<=a) (new:dX X.prog X.w (upd H a o) h' a o):
  Inv X O6 σ (upd H a o) {s with heap:=h',toks:=t'}:=I.un (Un.laid k hp (I.hok.fresh hp)) (I.hok.laid k hp new)
theorem Inv.write (I:Inv X O6 σ H s) (mu:EJ (H x)) (he:e=x\/H e=some (.own x)) (k:∀b u,b≠e->s.heap.get? b=some u->h'.get? b=some u) (Oa:∃u,h'.get? e=some u)
 (new:dX X.prog X.w (upd H x o) h' x o):Inv X O6 σ (upd H x o) {s with heap:=h',toks:=t'}:=I.un (Un.write mu he k Oa) (I.hok.write mu he k Oa new)
theorem Inv.pins_of (I:Inv X O6 σ H s) (h:∀p∈pins',s.heap.get? p.1=some p.2/\H p.1=none/\p.1≠X.env.locals/\p.1∉X.fs/\∀v,p.2.data≠.cell v):Inv X pins' σ H s:=
 ⟨I.ok,I.os,I.bare,I.base,I.loc,I.cell,I.free,I.freeC,λp hp=>(P8.mp hp).elim (λz=>I.pin p (R9 _ z)) (h p),I.hok,I.len⟩
theorem rC {N:List Str}(hN:N.Nodup){i j:Nat}{x:Str}(a:N[i]?=some x) (b:N[j]?=some x):i=j:=by obtain ⟨h1,e1⟩:=Qd.mp a;obtain ⟨h2,e2⟩:=Qd.mp b;exact (UW hN).mp (e1.trans e2.symm)
theorem vv {M:W0}{E:Ph->Pk->Prop}{Q:Unit->Pk->Prop}(I:Inv X O6 σ H s) (hN:X.N.Nodup) (hi:X.N[i]?=some x) (hx:Loc X.env.scope x) (r:RelV v u)
 (h:∀s',Inv X O6 (σ.set i (some v)) H s'->(∃a,RA a s.heap s'.heap/\(a=X.env.locals\/X.env.cells.lookup x=some a))->Q () s') (hf:X.fn x=true\/X.env.scope.names.lookup x=some .local:=by first | exact .inl rfl | exact .inr rfl | assumption):P_ M A (storeName X.env x u) Q E s:=by
 obtain ⟨m,hn,hl⟩:=id I.loc;have hcls:(X.env.scope.kind == .class || (X.env.scope.kind == .module && X.env.locals != X.env.globals))=false:=by rw [I.ok.kind];rfl
 have hiσ:i < σ.length:=by rw [I.len];exact (Qd.mp hi).1
 have cne:=I.cne;have tracked:∀{a:PK}{h':QV},(∃o,s.heap.get? a=some o/\H a=none)->RA a s.heap h'->gn X.prog X.w H h':=fun {a h'} ha hs b ob e=>by
  obtain ⟨_,_,hfree⟩:=ha;refine (I.hok b ob e).stay (λc w' hc q=>(hs.2 c ?_).trans q) (λ_ q=>q) λ_ _ q=>q;rintro rfl;rcases hc with rfl | hc
  ·rw [hfree] at e;cases e
  ·rw [hfree] at hc;cases hc
 rcases hx with hk | hk
 ·refine wpAny_storeName_local hk hn (λh' hn' hs=>?_) hcls;obtain ⟨oL,_,_,OF,_⟩:=id hn;refine h _ ⟨I.ok,I.os,I.bare,⟨λb o e n hb hx=>?_,λb o e n hb hx=>?_,I.base.free,λb o e hx=>?_,I.base.tups,I.base.frzs,I.base.tbls⟩,⟨_,hn',λj y v' e1 e2 e3=>?_⟩,λy c e=>?_,I.free,I.freeC,λp hp=>?_,tracked ⟨oL,OF,I.free⟩ hs,by simpa using I.len⟩ ⟨_,hs,.inl rfl⟩
  ·exact (hs.2 b (QA (PM (PL e) I.ok.above))).trans (I.base.keep b o e n hb hx)
  ·obtain ⟨sl,e1⟩:=I.base.slot b o e n hb hx;exact ⟨sl,(hs.2 b (QA (PM (PL e) I.ok.above))).trans e1⟩
  ·obtain ⟨o',e1⟩:=I.base.there b o e hx;exact ⟨o',(hs.2 b (QA (PM (PL e) I.ok.above))).trans e1⟩
  ·by_cases hj:j=i
   ·subst hj;rw [hi] at e1;cases e1;rw [QI hiσ] at e2;cases e2;exact ⟨u,r,.inl ⟨hk,by simp⟩⟩
   ·rw [PN (QC hj)] at e2;obtain ⟨u',r',q⟩:=hl j y v' e1 e2 e3;refine ⟨u',r',?_⟩;rcases q with ⟨k,e⟩ | ⟨k,c,e,z⟩
    ·refine .inl ⟨k,?_⟩;have:y≠x:=λe=>hj (rC hN e1 (e▸hi));simp [this,e]
    ·exact .inr ⟨k,c,e,z.sameBut hs (cne y c e)⟩
  ·obtain ⟨w',z⟩:=I.cell y c e;exact ⟨w',z.sameBut hs (cne y c e)⟩
  ·obtain ⟨e,n,ne,nf,d⟩:=I.pin p hp;exact ⟨(hs.2 p.1 ne).trans e,n,ne,nf,d⟩
 ·have hfn:X.fn x=true:=by
   rcases hf with z | z
   ·exact z
   ·rw [z] at hk;cases hk
  obtain ⟨c,hc⟩:=I.ok.has x (.inl hk);obtain ⟨w',z⟩:=I.cell x c hc;refine wpAny_storeName_cell I.ok.kind hk hc z (λh' hc' hs=>?_);obtain ⟨oc,hoc,Ot⟩:=id z;refine h {s with heap:=h'} ⟨I.ok,I.os,I.bare,⟨λb o e n hb hx=>?_,λb o e n hb hx=>?_,I.base.free,λb o e hx=>?_,I.base.tups,I.base.frzs,I.base.tbls⟩,⟨m,hn.sameBut hs (QC (cne x c hc)),λj y v' e1 e2 e3=>?_⟩,λy c' e=>?_,I.free,I.freeC,λp hp=>?_,tracked ⟨oc,hoc,I.freeC x c hc⟩ hs,by simpa using I.len⟩ ⟨c,hs,.inr hc⟩
  ·exact (hs.2 b (QA (PM (PL e) (I.ok.cab x c hfn hc)))).trans (I.base.keep b o e n hb hx)
  ·obtain ⟨sl,e1⟩:=I.base.slot b o e n hb hx;exact ⟨sl,(hs.2 b (QA (PM (PL e) (I.ok.cab x c hfn hc)))).trans e1⟩
  ·obtain ⟨o',e1⟩:=I.base.there b o e hx;exact ⟨o',(hs.2 b (QA (PM (PL e) (I.ok.cab x c hfn hc)))).trans e1⟩
  ·by_cases hj:j=i
   ·subst hj;rw [hi] at e1;cases e1;rw [QI hiσ] at e2;cases e2;exact ⟨u,r,.inr ⟨.inl hk,c,hc,hc'⟩⟩
   ·rw [PN (QC hj)] at e2;obtain ⟨u',r',q⟩:=hl j y v' e1 e2 e3;refine ⟨u',r',?_⟩;rcases q with q | ⟨k,c',e,z'⟩
    ·exact .inl q
    ·refine .inr ⟨k,c',e,z'.sameBut hs ?_⟩;rintro rfl;exact hj (rC hN e1 (I.ok.inj _ _ _ e hc▸hi))
  ·by_cases hcc:c'=c
   ·subst hcc;exact ⟨_,hc'⟩
   ·obtain ⟨w2,z2⟩:=I.cell y c' e;exact ⟨w2,z2.sameBut hs hcc⟩
  ·obtain ⟨e,n,ne,nf,d⟩:=I.pin p hp;refine ⟨(hs.2 p.1 ?_).trans e,n,ne,nf,d⟩;intro q;rw [q,hoc] at e;have q':oc=p.2:=P7 e;exact d w' (by rw [<-q'];exact Ot)
theorem rM {M:W0}{E:Ph->Pk->Prop}{Q:Unit->Pk->Prop}(I:Inv X O6 σ H s) (hN:X.N.Nodup) (hi:X.N[i]?=some x) (hx:Loc X.env.scope x) (r:RelV v u)
 (h:∀s',Inv X O6 (σ.set i (some v)) H s'->Q () s') (hf:X.fn x=true\/X.env.scope.names.lookup x=some .local:=by first | exact .inl rfl | exact .inr rfl | assumption):P_ M A (storeName X.env x u) Q E s:=
 vv I hN hi hx r (λs' I' _=>h s' I') hf
theorem Inv.call' {s':Pk}(I:Inv X O6 σ H s) (ho:s'.os=s.os) (u:Un (frs X.stack) ch H H' s.heap s'.heap) (hok:gn X.prog X.w H' s'.heap) (hg:UO s'.gens)
 (hch:∀b∈ch,(b∈X.ex\/X.s₀.heap.objs.size<=b)/\b≠X.env.locals/\(∀x c,X.env.cells.lookup x=some c->c≠b)/\∀p∈X.pn++O6,p.1≠b):Inv X O6 σ H' s':=by obtain ⟨h',g',d',t',o'⟩:=s';have e:o'=s.os:=ho;subst e;exact I.call (g':=g') (t':=t') (d':=d') u hok hg hch
end
noncomputable abbrev XK:=Ph->Option PK->Hp->Prop
noncomputable abbrev St:=List (Option V)
noncomputable abbrev VK:=V->Hp->Prop
noncomputable abbrev TE:=St->Hp->VK->Prop
noncomputable abbrev TT:=St->Hp->(Bool->Hp->Prop)->Prop
noncomputable abbrev TA:=St->Hp->(List V->Hp->Prop)->Prop
structure Ends where
 nx:St->Hp->Prop
 rt:VK
 bk:St->Hp->Prop:=λ_ _=>False
 ct:St->Hp->Prop:=λ_ _=>False
noncomputable abbrev TS:=Ends->St->Hp->Prop
noncomputable def EP (X:Cx) (O6:List (PK×Obj)) (σ:St) (Q:VK) (u:Ph) (s':Pk):Prop:=∃v H',Inv X O6 σ H' s'/\RelV v u/\Q v H'
noncomputable def TP (X:Cx) (O6:List (PK×Obj)) (σ:St) (Q:Bool->Hp->Prop) (b:Bool) (s':Pk):Prop:=∃H',Inv X O6 σ H' s'/\Q b H'
noncomputable def AP (X:Cx) (O6:List (PK×Obj)) (σ:St) (Q:List V->Hp->Prop) (us:List Ph) (s':Pk):Prop:=∃vs H',Inv X O6 σ H' s'/\Vals vs us/\Q vs H'
noncomputable def SP (X:Cx) (O6:List (PK×Obj)) (D:Ends) (f:Flow) (s':Pk):Prop:=
 match f with
 | .next=>∃σ' H',Inv X O6 σ' H' s'/\D.nx σ' H'
 | .brk=>∃σ' H',Inv X O6 σ' H' s'/\D.bk σ' H'
 | .cont=>∃σ' H',Inv X O6 σ' H' s'/\D.ct σ' H'
 | .ret u=>∃v σ' H',Inv X O6 σ' H' s'/\RelV v u/\D.rt v H'
noncomputable def PE (X:Cx) (e:Qq) (t:TE):Prop:=
 ∀(O6:List (PK×Obj)) (s:Pk) (σ:St) (H:Hp) (Q:VK),Inv X O6 σ H s->t σ H Q->P_ (Qj X.prog X.w) X.A (eval e X.env) (EP X O6 σ Q) X.xe s
noncomputable def PT (X:Cx) (e:Qq) (t:TT):Prop:=
 ∀(O6:List (PK×Obj)) (s:Pk) (σ:St) (H:Hp) (Q:Bool->Hp->Prop),Inv X O6 σ H s->t σ H Q->P_ (Qj X.prog X.w) X.A (Ww e X.env (eval e X.env)) (TP X O6 σ Q) X.xe s
noncomputable def PW (X:Cx) (e:Qq) (t:TT):Prop:=
 ∀(whole:Sem Ph) (O6:List (PK×Obj)) (s:Pk) (σ:St) (H:Hp) (Q:Bool->Hp->Prop),Inv X O6 σ H s->t σ H Q->P_ (Qj X.prog X.w) X.A (Ww e X.env whole) (TP X O6 σ Q) X.xe s
theorem PW.pt (h:PW X e t):PT X e t:=h _
noncomputable def PA (X:Cx) (es:List Qq) (t:TA):Prop:=
 ∀(pos:Pos) (O6:List (PK×Obj)) (s:Pk) (σ:St) (H:Hp) (Q:List V->Hp->Prop),Inv X O6 σ H s->t σ H Q->P_ (Qj X.prog X.w) X.A (spliced (Ra pos (Po es X.env))) (AP X O6 σ Q) X.xe s
noncomputable def PS (X:Cx) (st:RV) (t:TS):Prop:=
 ∀(O6:List (PK×Obj)) (s:Pk) (σ:St) (H:Hp) (D:Ends),Inv X O6 σ H s->t D σ H->P_ (Qj X.prog X.w) X.A (exec st X.env) (SP X O6 D) X.xe s
noncomputable def iQ (X:Cx) (st:List RV) (t:TS):Prop:=
 ∀(O6:List (PK×Obj)) (s:Pk) (σ:St) (H:Hp) (D:Ends),Inv X O6 σ H s->t D σ H->P_ (Qj X.prog X.w) X.A (execs st X.env) (SP X O6 D) X.xe s
theorem bT {α:Type}{t:Sem α}{Q Q':α->Pk->Prop}{M:W0}{A:Qx}{E:Ph->Pk->Prop}{s:Pk}(h:P_ M A t Q E s) (hQ:∀a s,Q a s->Q' a s):P_ M A t Q' E s:=QZ h hQ λ_ _ x=>x
section
variable {X:Cx}
theorem bin {a b:Qq}{ta tb:TE}(ha:PE X a ta) (hb:PE X b tb){O6:List (PK×Obj)}{s:Pk}{σ:St}{H:Hp}{R:V->V->Hp->Prop}(I:Inv X O6 σ H s) (h:ta σ H λx H1=>tb σ H1 λy H2=>R x y H2)
  {α:Type}{Q:α->Pk->Prop}{f:Ph->Ph->Sem α}
  (hf:∀v u s2 x y H2,Inv X O6 σ H2 s2->RelV x v->RelV y u->R x y H2->P_ (Qj X.prog X.w) X.A (f v u) Q X.xe s2):
  P_ (Qj X.prog X.w) X.A (eval a X.env) (λv s₁=>P_ (Qj X.prog X.w) X.A (eval b X.env) (λu s₂=>P_ (Qj X.prog X.w) X.A (f v u) Q X.xe s₂) X.xe s₁) X.xe s:=by refine bT (ha O6 s σ H _ I h) λv s1 ⟨x,H1,I1,r1,q1⟩=>?_;refine bT (hb O6 s1 σ H1 _ I1 q1) λu s2 ⟨y,H2,I2,r2,q2⟩=>?_;exact hf v u s2 x y H2 I2 r1 r2 q2
noncomputable def Kn (i:Nat):TE:=λσ H Q=>∃v,σ[i]?=some (some v)/\Q v H
noncomputable def tC (v:V):TE:=λ_ H Q=>Q v H
theorem pA {pos:Pos}(hN:X.N[i]?=some x) (hv:zE X.env.scope x) (hd:autoParam ((x == ("__debug__":Str))=false) zB._auto_1) (hcd:autoParam ((x == ("__classdict__":Str))=false) zB._auto_1):PE X (.Name x pos) (Kn i):=by
 intro O6 s σ H Q I h;obtain ⟨v,e,h⟩:=h;obtain ⟨m,hn,hl⟩:=I.loc;obtain ⟨u,r,l⟩:=hl i x v hN e hv;have fin:EP X O6 σ Q u s:=⟨v,H,I,r,h⟩;rcases l with ⟨hk,hm⟩ | ⟨hk,c,hc,hcell⟩
 ·exact Xw (wpAny_loadName_local I.ok.kind hk hn hm fin) hd
 ·rcases hk with hk | hk
  ·exact Xw (wpAny_loadName_cell I.ok.kind hk hc hcell fin) hd
  ·exact Xw (wpAny_loadName_free I.ok.kind hk hc hcell fin hcd) hd
theorem yu {i j pos}:PE X (.Constant (.int i) j pos) (tC (.int i)):=λ_ _ _ H _ I h=>wpAny_Constant_int ⟨.int i,H,I.tok _,⟨_,rfl⟩,h⟩
theorem Ld {b j pos}:PE X (.Constant (.bool b) j pos) (tC (.bl b)):=λ_ _ _ H _ I h=>Constant_bool ⟨.bl b,H,I,rfl,h⟩
theorem JH {j pos}:PE X (.Constant .none j pos) (tC .non):=λ_ _ _ H _ I h=>Constant_none ⟨.non,H,I,rfl,h⟩
theorem JK {x j pos}:PE X (.Constant (.str x) j pos) (tC (.str x)):=λ_ _ _ H _ I h=>Calls.Constant_str ⟨.str x,H,I.tok _,⟨_,rfl⟩,h⟩
noncomputable def Gl (X:Cx) (x:Str):Prop:=X.env.kindOf x=some .globalImplicit
theorem mh {E:Ph->Pk->Prop}{H:Hp}{pos:Pos}{Q:Ph->Pk->Prop}(I:Inv X O6 σ H s) (hg:Gl X x) (hm:X.mg x=some u) (h:Q u s)
 (hd:autoParam ((x == ("__debug__":Str))=false) zB._auto_1):P_ (Qj X.prog X.w) X.A (eval (.Name x pos) X.env) Q E s:=
 Uj I.ok.kind hg (Calls.loadGlobal_global (by rw [I.ok.glob];exact I.mod.glob.keeps I.bk) hm h) hd
theorem l_ {E:Ph->Pk->Prop}{H:Hp}{pos:Pos}{Q:Ph->Pk->Prop}(I:Inv X O6 σ H s) (hg:Gl X x) (hm:X.mg x=none) (hv:QO x=some u) (h:Q u s)
 (hn:autoParam (x≠"__name__") zB._auto_1) (hd:autoParam ((x == ("__debug__":Str))=false) zB._auto_1):P_ (Qj X.prog X.w) X.A (eval (.Name x pos) X.env) Q E s:=by obtain ⟨mb,h1,h2⟩:=I.mod.blt;exact Uj I.ok.kind hg (Calls.loadGlobal_builtin (by rw [I.ok.glob];exact I.mod.glob.keeps I.bk) hm (by rw [I.ok.blt];exact h1.keeps I.bk) ((h2 x hn).trans hv) h) hd
theorem Ab {pos:Pos}(hg:Gl X x) (hm:X.mg x=some u) (r:RelV v u) (hd:autoParam ((x == ("__debug__":Str))=false) zB._auto_1):PE X (.Name x pos) (tC v):=
 λ_ _ _ H _ I h=>mh I hg hm ⟨v,H,I,r,h⟩ hd
theorem Aa {pos:Pos}(hg:Gl X x) (hm:X.mg x=none) (hv:QO x=some u) (r:RelV v u) (hn:autoParam (x≠"__name__") zB._auto_1) (hd:autoParam ((x == ("__debug__":Str))=false) zB._auto_1):PE X (.Name x pos) (tC v):=
 λ_ _ _ H _ I h=>l_ I hg hm hv ⟨v,H,I,r,h⟩ hn hd
variable {a b:Qq}{ta tb:TE}{pos:Pos}
noncomputable def PC (X:Cx) (op:CmpOp) (a b:Qq) (t:TE):Prop:=
 ∀(O6:List (PK×Obj)) (s:Pk) (σ:St) (H:Hp) (Q:VK),Inv X O6 σ H s->t σ H Q->
  P_ (Qj X.prog X.w) X.A (eval a X.env) (λv s₁=>P_ (Qj X.prog X.w) X.A (eval b X.env) (λu s₂=>P_ (Qj X.prog X.w) X.A (Q8 op v u) (EP X O6 σ Q) X.xe s₂) X.xe s₁) X.xe s
theorem DS (b:Qq) (h:op≠.In) (h2:op≠.NotIn):QS op b=false:=by
 have e1:(op == Y6)=false:=by cases op <;> first | rfl | exact absurd rfl h
 have e2:(op == Yp)=false:=by cases op <;> first | rfl | exact absurd rfl h2
 cases b <;> simp [QS,e1,e2]
noncomputable def tB (t:TE):TT:=λσ H Q=>t σ H λx H1=>∃c,x=.bl c/\Q c H1
theorem MP {op:CmpOp}{t:TE}(h:PC X op a b t) (h1:QS op b=false:=by first | exact DS _ (by decide) (by decide) | rfl):PT X (.Compare a [op] [b] pos) (tB t):=by intro O6 s σ H Q I hw;refine Vc (bT (h O6 s σ H _ I hw) λv s1 h1=>bT h1 λu s2 h2=>bT h2 λc s3 ⟨x,H1,I1,r1,q1⟩=>?_) h1;obtain ⟨d,rfl,q⟩:=q1;cases r1;exact Ru ⟨H1,I1,q⟩
theorem JR {e:Qq}{t:TE}(h:PE X e t) (he:∀whole,Ww e X.env whole=(do let v <-whole;W2 e.pos;holding [v] (truthy v)):=by intro _;rfl):PT X e (tB t):=by intro O6 s σ H Q I hw;refine isTrue_plain (bT (h O6 s σ H _ I hw) λv s1 ⟨x,H1,I1,r1,q1⟩=>?_) (he _);obtain ⟨d,rfl,q⟩:=q1;cases r1;exact Ru ⟨H1,I1,q⟩
variable {tA tB':TT}{O_:List Qq}
noncomputable def My (t u:TT):TT:=λσ H Q=>t σ H λc H1=>if c=true then u σ H1 Q else Q false H1
noncomputable def M0 (t u:TT):TT:=λσ H Q=>t σ H λc H1=>if c=true then Q true H1 else u σ H1 Q
noncomputable def MC (t:TT):TT:=λσ H Q=>t σ H λc H1=>Q (!c) H1
theorem G3 (ha:PT X a tA):PW X (.BoolOp .And [a] pos) tA:=by
 intro wh O6 s σ H Q I h;refine isTrue_and (bT (ha O6 s σ H Q I h) λc s1 e=>?_);cases c with
 | true=>exact isTrue_and_nil e
 | false=>exact e
theorem JT (ha:PT X a tA):PW X (.BoolOp .Or [a] pos) tA:=by
 intro wh O6 s σ H Q I h;refine isTrue_or (bT (ha O6 s σ H Q I h) λc s1 e=>?_);cases c with
 | false=>exact isTrue_or_nil e
 | true=>exact e
theorem JS (ha:PT X a tA) (hb:PW X (.BoolOp .And (b::O_) pos) tB'):PW X (.BoolOp .And (a::b::O_) pos) (My tA tB'):=by
 intro wh O6 s σ H Q I h;refine isTrue_and (bT (ha O6 s σ H _ I h) λc s1 ⟨H1,I1,q1⟩=>?_);cases c with
 | true=>exact hb wh O6 s1 σ H1 Q I1 q1
 | false=>exact ⟨H1,I1,q1⟩
theorem Ll (ha:PT X a tA) (hb:PW X (.BoolOp .Or (b::O_) pos) tB'):PW X (.BoolOp .Or (a::b::O_) pos) (M0 tA tB'):=by
 intro wh O6 s σ H Q I h;refine isTrue_or (bT (ha O6 s σ H _ I h) λc s1 ⟨H1,I1,q1⟩=>?_);cases c with
 | true=>exact ⟨H1,I1,q1⟩
 | false=>exact hb wh O6 s1 σ H1 Q I1 q1
theorem JQ (ha:PT X a tA):PT X (.UnaryOp .Not a pos) (MC tA):=by intro O6 s σ H Q I h;exact isTrue_not (ha O6 s σ H (λc H1=>Q (!c) H1) I h)
noncomputable def Lu (ta tb:TE):TE:=λσ H Q=>ta σ H λx H1=>∃c,x=.bl c/\if c=true then tb σ H1 Q else Q (.bl false) H1
noncomputable def Ly (ta:TE):TE:=λσ H Q=>ta σ H λx H1=>∃c,x=.bl c/\Q (.bl (!c)) H1
theorem JJ {op}{t:TE}(h:PE X a t):PE X (.BoolOp op [a] pos) t:=λO6 s σ H Q I hw=>BoolOp_one (h O6 s σ H Q I hw)
theorem JG (ha:PE X a ta) (hb:PE X (.BoolOp .And (b::O_) pos) tb):PE X (.BoolOp .And (a::b::O_) pos) (Lu ta tb):=by
 intro O6 s σ H Q I h;refine BoolOp_and (bT (ha O6 s σ H _ I h) λv s1 ⟨x,H1,I1,r1,q1⟩=>?_);obtain ⟨c,rfl,q1⟩:=q1;cases r1;refine Ru ?_;cases c with
 | true=>exact hb O6 s1 σ H1 Q I1 q1
 | false=>exact ⟨.bl false,H1,I1,rfl,q1⟩
theorem JI (ha:PE X a ta):PE X (.UnaryOp .Not a pos) (Ly ta):=by intro O6 s σ H Q I h;refine UnaryOp_ (bT (ha O6 s σ H _ I h) λv s1 ⟨x,H1,I1,r1,q1⟩=>?_);obtain ⟨c,rfl,q1⟩:=q1;cases r1;exact not_of (Ru ⟨.bl (!c),H1,I1,rfl,q1⟩)
end
noncomputable def cX (K:Pe) (H:Hp) (a:PK) (xs:List V):Prop:=
 Rd H a (.lst xs)\/
  ∃(o:Obj) (O8:Array Ph) (n:Nat),K.lookup a=some o/\o.cls=.type "list"/\o.dict=none/\o.data=.seq O8 n/\O8.size<=sizeLine/\Vals xs O8.toList
noncomputable def dF (K:Pe) (H:Hp) (a:PK) (xs:List V):Prop:=
 Rd H a (.tup xs)\/
  ∃(o:Obj) (O8:Array Ph) (n:Nat),K.lookup a=some o/\o.cls=.type "tuple"/\o.dict=none/\o.data=.seq O8 n/\O8.size<=sizeLine/\Vals xs O8.toList
noncomputable def L6:Ph->Option V
 | .none=>some .non
 | .bool b=>some (.bl b)
 | .int i _=>some (.int i)
 | .str x _=>some (.str x)
 | .bytes b _=>some (.byt b)
 | .float b _=>some (.flt b)
 | .ref a=>some (.ref a)
 | .type n=>some (.ty n)
 | _=>none
theorem RelV.abs (r:RelV x u):L6 u=some x:=by
 cases x with
 | non=>cases r;rfl
 | bl _=>cases r;rfl
 | int _=>obtain ⟨t,rfl⟩:=r;rfl
 | str _=>obtain ⟨t,rfl⟩:=r;rfl
 | byt _=>obtain ⟨t,rfl⟩:=r;rfl
 | flt _=>obtain ⟨t,rfl⟩:=r;rfl
 | ref _=>cases r;rfl
 | ty _=>cases r;rfl
theorem RelV.inj (r:RelV x u) (q:RelV y u):x=y:=P7 (r.abs.symm.trans q.abs)
theorem Vals.inj:∀{xs ys:List V}{us:List Ph},Vals xs us->Vals ys us->xs=ys
 | _,_,_,.nil,.nil=>rfl
 | _,_,_,.cons r t,.cons r' t'=>by rw [r.inj r',Vals.inj t t']
section
variable {X:Cx}{O6:List (PK×Obj)}{σ:St}{H:Hp}{s:Pk}{a:PK}{xs ys:List V}
theorem cX.of {K:Pe}(h:H a=some (.lst xs)):cX K H a xs:=.inl (.inl h)
theorem Inv.list (I:Inv X O6 σ H s) (h:cX X.K H a xs):∃O8:List Ph,Vals xs O8/\PlainL s.heap a O8.toArray/\xs.length<=sizeLine:=by
 rcases h with h | ⟨o,O8,n,hk,hc,hd,hs,hz,r⟩
 ·obtain ⟨z,O8,n,r,e⟩:=h.ok I.hok;exact ⟨O8,r,⟨_,n,e,rfl,rfl,rfl⟩,z⟩
 ·refine ⟨O8.toList,r,⟨o,n,I.kIn a o hk,hc,hd,by simpa using hs⟩,?_⟩;have e:=r.length;simp only [SS] at e;omega
theorem Inv.tuple (I:Inv X O6 σ H s) (h:dF X.K H a xs):∃O8:List Ph,Vals xs O8/\Yo s.heap a O8.toArray/\xs.length<=sizeLine:=by
 rcases h with h | ⟨o,O8,n,hk,hc,hn,hs,hz,r⟩
 ·obtain ⟨z,O8,r,p,_⟩:=h.ok I.hok;exact ⟨O8,r,p,z⟩
 ·refine ⟨O8.toList,r,⟨o,I.kIn a o hk,hc,n,by simpa using hs⟩,?_⟩;have e:=r.length;simp only [SS] at e;omega
theorem Inv.list_inj (I:Inv X O6 σ H s) (h:cX X.K H a xs) (h':cX X.K H a ys):xs=ys:=by
 obtain ⟨O8,r,⟨o,n,e,_,_,d⟩,_⟩:=I.list h;obtain ⟨its',r',⟨o',n',e',_,_,d'⟩,_⟩:=I.list h';rw [e] at e';cases e';rw [d] at d';injection d' with d1 _
 have:O8=its':=by simpa using congrArg Vd d1
 subst this;exact r.inj r'
theorem Inv.tuple_inj (I:Inv X O6 σ H s) (h:dF X.K H a xs) (h':dF X.K H a ys):xs=ys:=by
 obtain ⟨O8,r,⟨o,e,_,n,d⟩,_⟩:=I.tuple h;obtain ⟨its',r',⟨o',e',_,n',d'⟩,_⟩:=I.tuple h';rw [e] at e';cases e';rw [d] at d';injection d' with d1 _
 have:O8=its':=by simpa using congrArg Vd d1
 subst this;exact r.inj r'
end
noncomputable abbrev Cx.wish (X:Cx) (E:Ph->Pk->Prop):Cx:={X with xe:=E}
noncomputable abbrev Cx.nox (X:Cx):Cx:=X.wish λ_ _=>False
theorem Cx.Ok.wish {X:Cx}(ok:X.Ok) (E:Ph->Pk->Prop):(X.wish E).Ok:=
 ⟨ok.mod,ok.kind,ok.glob,ok.blt,ok.above,ok.inj,ok.has,ok.cab,ok.hd,ok.frames,ok.stk,ok.exf,ok.bs,ok.bsz,ok.noex,ok.exfs,ok.funs,ok.frf⟩
theorem Cx.Ok.unwish {X:Cx}{E:Ph->Pk->Prop}(ok:(X.wish E).Ok):X.Ok:=
 ⟨ok.mod,ok.kind,ok.glob,ok.blt,ok.above,ok.inj,ok.has,ok.cab,ok.hd,ok.frames,ok.stk,ok.exf,ok.bs,ok.bsz,ok.noex,ok.exfs,ok.funs,ok.frf⟩
section
variable {X:Cx}{O6:List (PK×Obj)}{σ:St}{H:Hp}{s:Pk}{E:Ph->Pk->Prop}
theorem Inv.wish (I:Inv X O6 σ H s) (E:Ph->Pk->Prop):Inv (X.wish E) O6 σ H s:=⟨I.ok.wish E,I.os,I.bare,I.base,I.loc,I.cell,I.free,I.freeC,I.pin,I.hok,I.len⟩
theorem Inv.unwish (I:Inv (X.wish E) O6 σ H s):Inv X O6 σ H s:=⟨I.ok.unwish,I.os,I.bare,I.base,I.loc,I.cell,I.free,I.freeC,I.pin,I.hok,I.len⟩
theorem SP.unwish {D:Ends}(h:SP (X.wish E) O6 D f s'):SP X O6 D f s':=by
 cases f with
 | next=>obtain ⟨σ',H',I,q⟩:=h;exact ⟨σ',H',I.unwish,q⟩
 | brk=>obtain ⟨σ',H',I,q⟩:=h;exact ⟨σ',H',I.unwish,q⟩
 | cont=>obtain ⟨σ',H',I,q⟩:=h;exact ⟨σ',H',I.unwish,q⟩
 | ret u=>obtain ⟨v,σ',H',I,r,q⟩:=h;exact ⟨v,σ',H',I.unwish,r,q⟩
theorem iQ.nox {st:List RV}{t:TS}(h:iQ X.nox st t):iQ X st t:=λO6 s σ H D I hw=>
 QZ (h O6 s σ H D (I.wish _) hw) (λ_ _ q=>q.unwish) λ_ _ z=>RX z
end
section
variable {X:Cx}{st:RV}{O_:List RV}{t u:TS}{e:Qq}{te:TE}{pos:Pos}
noncomputable def Lx:TS:=λD σ H=>D.nx σ H
noncomputable def ME (t u:TS):TS:=λD σ H=>t {D with nx:=u D} σ H
theorem Ac:iQ X [] Lx:=λ_ _ σ H _ I h=>Ve ⟨σ,H,I,h⟩
theorem yw (h1:PS X st t) (h2:iQ X O_ u):iQ X (st::O_) (ME t u):=by
 intro O6 s σ H D I h;refine WH (bT (h1 O6 s σ H {D with nx:=u D} I h) λf s1 q=>?_);cases f with
 | next=>
  obtain ⟨σ',H',I',q⟩:=q;exact h2 O6 s1 σ' H' D I' q
 | ret v=>exact q
 | brk=>exact q
 | cont=>exact q
theorem uJ (h1:PS X st t):iQ X [st] t:=by
 intro O6 s σ H D I h;refine WH (bT (h1 O6 s σ H D I h) λf s1 q=>?_);cases f with
 | next=>exact Ve q
 | ret v=>exact q
 | brk=>exact q
 | cont=>exact q
theorem Inv.quiet {H:Hp}(I:Inv X O6 σ H s):interactive X.env=false:=by simp [interactive,I.ok.kind]
noncomputable def Lw (te:TE):TS:=λD σ H=>te σ H λ_ H1=>D.nx σ H1
theorem uI (he:PE X e te) (hs:autoParam (Sq e none pos.line X.env=pure false) zA._auto_1):PS X (.Expr e pos) (Lw te):=by intro O6 s σ H D I h;exact wpAny_Expr_any (bT (he O6 s σ H _ I h) λv s1 ⟨x,H1,I1,r1,q1⟩=>⟨σ,H1,I1,q1⟩) I.quiet hs
noncomputable def MD (te:TE):TS:=λD σ H=>te σ H D.rt
theorem JP (he:PE X e te):PS X (.Return (some e) pos) (MD te):=by intro O6 s σ H D I h;exact wpAny_Return_some (bT (he O6 s σ H _ I h) λv s1 ⟨x,H1,I1,r1,q1⟩=>⟨x,σ,H1,I1,r1,q1⟩)
noncomputable def MA (c:TT) (t u:TS):TS:=λD σ H=>c σ H λb H1=>if b=true then t D σ H1 else u D σ H1
theorem Lh {c:Qq}{a b:List RV}{tc:TT}(hc:PT X c tc) (ha:iQ X a t) (hb:iQ X b u):PS X (.If c a b pos) (MA tc t u):=by
 intro O6 s σ H D I h;refine wpAny_If (bT (hc O6 s σ H _ I h) λd s1 ⟨H1,I1,q1⟩=>?_);cases d with
 | true=>exact ha O6 s1 σ H1 D I1 q1
 | false=>exact hb O6 s1 σ H1 D I1 q1
end
noncomputable abbrev TG:=V->St->Hp->(St->Hp->Prop)->Prop
noncomputable abbrev qB:=List V->St->Hp->(St->Hp->Prop)->Prop
noncomputable def PG (X:Cx) (O9:Qq) (t:TG):Prop:=
 ∀(O6:List (PK×Obj)) (s:Pk) (σ:St) (H:Hp) (v:V) (u:Ph) (Q:St->Hp->Prop),Inv X O6 σ H s->RelV v u->t v σ H Q->
  P_ (Qj X.prog X.w) X.A (assign O9 X.env u) (λ_ s'=>∃σ' H',Inv X O6 σ' H' s'/\Q σ' H') X.xe s
noncomputable def uR (X:Cx) (ts:List Qq) (t:qB):Prop:=
 ∀(O6:List (PK×Obj)) (s:Pk) (σ:St) (H:Hp) (vs:List V) (us:List Ph) (Q:St->Hp->Prop),Inv X O6 σ H s->Vals vs us->t vs σ H Q->
  P_ (Qj X.prog X.w) X.A (assignInOrder ((Rm ts X.env).map (·.2)) us) (λ_ s'=>∃σ' H',Inv X O6 σ' H' s'/\Q σ' H') X.xe s
section
variable {X:Cx}{pos:Pos}
noncomputable def EY (i:Nat):TG:=λv σ H Q=>Q (σ.set i (some v)) H
theorem GV (hN:X.N.Nodup) (hi:X.N[i]?=some x) (hx:Loc X.env.scope x) (hf:X.fn x=true\/X.env.scope.names.lookup x=some .local:=by first | exact .inl rfl | exact .inr rfl | assumption):PG X (.Name x pos) (EY i):=by intro O6 s σ H v u Q I r h;exact wpAny_assign_Name (rM I hN hi hx r (λs' I'=>⟨_,H,I',h⟩) hf)
noncomputable def ak:qB:=λvs σ H Q=>vs=[]/\Q σ H
noncomputable def ah (t:TG) (u:qB):qB:=λvs σ H Q=>∃v r,vs=v::r/\t v σ H λσ' H'=>u r σ' H' Q
theorem GW:uR X [] ak:=by intro O6 s σ H vs us Q I r h;obtain ⟨e,h⟩:=h;subst e;cases r;exact assignInOrder_nil ⟨σ,H,I,h⟩
theorem D8 {e:Qq}{es:List Qq}{t:TG}{u:qB}(h1:PG X e t) (h2:uR X es u)
  (hs:autoParam ((Rm (e::es) X.env).map (·.2)=assign e X.env::(Rm es X.env).map (·.2)) zA._auto_1):uR X (e::es) (ah t u):=by
 intro O6 s σ H vs us Q I r h;obtain ⟨v,vr,e1,h⟩:=h;subst e1;cases r with
 | cons r rr=>
  rw [hs];refine assignInOrder_cons (bT (h1 O6 s σ H _ _ _ I r h) λ_ s1 ⟨σ1,H1,I1,q1⟩=>?_);exact h2 O6 s1 σ1 H1 _ _ Q I1 rr q1
noncomputable def c9 (K:Pe) (n:Nat) (t:qB):TG:=λv σ H Q=>∃a xs,v=.ref a/\dF K H a xs/\xs.length=n/\t xs σ H Q
theorem JL (hc:X.calm=true) (h:uR X es t)
 (hn:autoParam ((Rm es X.env).length=n) zA._auto_1) (hst:autoParam ((Rm es X.env).findIdx? (·.1)=none) zA._auto_1):PG X (.Tuple es k pos) (c9 X.K n t):=by intro O6 s σ H v u Q I r hw;obtain ⟨a,xs,e1,hq,hl,hw⟩:=hw;subst e1;cases r;obtain ⟨O8,rv,ht,hz⟩:=I.tuple hq;refine assign_Tuple_tuple (I.ok.hd hc) ht (by simp [hn,<-hl,rv.length]) hst λh' hx=>?_;have I1:Inv X O6 σ H {s with heap:=h'}:=I.kept (t':=s.toks) λb o e=>hx b o (QA (PL e)) e;exact h O6 _ σ H xs _ Q I1 (by simpa using rv) hw
noncomputable def Ew (te:TE) (g:TG):TS:=λD σ H=>te σ H λx H1=>g x σ H1 D.nx
theorem Ct {tg e:Qq}{te:TE}{g:TG}(he:PE X e te) (hg:PG X tg g) (hs:autoParam (UP [tg] e pos.line X.env=pure false) zA._auto_1) (hw:autoParam (VL [tg] e X.env=pure none) zA._auto_1)
  (h1:autoParam ((Rm [tg] X.env).map (·.2)=[assign tg X.env]) zA._auto_1):PS X (.Assign [tg] e pos) (Ew te g):=by intro O6 s σ H D I h;refine wpAny_Assign_stores (bT (he O6 s σ H _ I h) λv s1 ⟨x,H1,I1,r1,q1⟩=>?_) hs hw;rw [h1];exact bT (hg O6 s1 σ H1 x v _ I1 r1 q1) λ_ s2 q=>q
theorem sV {i:Nat}{x:Str}{e:Qq}{te:TE}{pos':Pos}(hN:X.N.Nodup) (hi:X.N[i]?=some x) (hx:Loc X.env.scope x) (he:PE X e te) (hs:autoParam (Sq e (some (.Name x pos')) pos.line X.env=pure false) zA._auto_1) (hf:X.fn x=true\/X.env.scope.names.lookup x=some .local:=by first | exact .inl rfl | exact .inr rfl | assumption):
  PS X (.Assign [.Name x pos'] e pos) (Ew te (EY i)):=by intro O6 s σ H D I h;refine wpAny_Assign_Name (bT (he O6 s σ H _ I h) λv s1 ⟨y,H1,I1,r1,q1⟩=>?_) hs;exact rM I1 hN hi hx r1 (λs2 I2=>⟨_,H1,I2,q1⟩) hf
end
structure It where
 go:Nat->Hp->Prop
 yld:Nat->Hp->V->Hp->Prop
 stop:Nat->Hp->Prop
noncomputable def iJ (X:Cx) (O6:List (PK×Obj)) (H:Hp) (b:PK):Prop:=
 H b=none/\b≠X.env.locals/\b∉X.fs/\(b∈X.ex\/X.s₀.heap.objs.size<=b)/\(∀x c,X.env.cells.lookup x=some c->c≠b)/\∀p∈X.pn++O6,p.1≠b
theorem Inv.fpOk {H H':Hp}{s:Pk}(I:Inv X O6 σ H s) (hb:s.heap.objs.size<=b) (hn:H' b=none):iJ X O6 H' b:=by
 refine ⟨hn,TL (PM I.lt hb),I.nofs hb,.inr (P6 I.sz hb),λx c e z=>?_,λp hp z=>?_⟩
 ·obtain ⟨v,q⟩:=I.cell x c e;exact absurd (PM q.lt (by rw [z];exact hb)) (Q6 _)
 ·exact absurd (PM (PL (I.pin p hp).1) (by rw [z];exact hb)) (Q6 _)
structure Turn (P:PX) (w:Qn) (K:Pe) (tg:Qq) (J:It) (fp:List PK) (it:PK) (tn:Nat->QV->Prop):Prop where
 mem:it∈fp
 obj:∀i h,tn i h->∀b∈fp,∃o,h.get? b=some o/\∀v,o.data≠.cell v
 keep:∀i h h',tn i h->(∀b∈fp,∀o,h.get? b=some o->h'.get? b=some o)->tn i h'
 item:∀(X:Cx),X.prog=P->X.w=w->X.K=K->X.calm=true->∀(i:Nat) (O6:List (PK×Obj)) (s:Pk) (σ:St) (H:Hp) (E:Ph->Pk->Prop),Inv X O6 σ H s->(∀b∈fp,iJ X O6 H b)->tn i s.heap->J.go i H->
  P_ (Qj P w) X.A (VM (.ref it)) (λr s1=>∃u,r=some u/\
   P_ (Qj P w) X.A (Ss tg (.ref it) u) (λ_ s2=>∃x H',Inv X O6 σ H' s2/\RelV x u/\J.yld i H x H'/\tn (i + 1) s2.heap/\∀b∈fp,H' b=none) E s1) E s
 done:∀(X:Cx),X.prog=P->X.w=w->X.K=K->X.calm=true->∀(i:Nat) (O6:List (PK×Obj)) (s:Pk) (σ:St) (H:Hp) (E:Ph->Pk->Prop),Inv X O6 σ H s->(∀b∈fp,iJ X O6 H b)->tn i s.heap->J.stop i H->
  P_ (Qj P w) X.A (VM (.ref it)) (λr s1=>r=none/\Inv X O6 σ H s1) E s
 self:∀(A:Qx) (i:Nat) (s:Pk) (Q:Ph->Pk->Prop) (E:Ph->Pk->Prop),tn i s.heap->Q (.ref it) s->P_ (Qj P w) A (Yb (.ref it)) Q E s
noncomputable abbrev TI:=St->Hp->(It->Hp->Prop)->Prop
noncomputable def Ik (X:Cx) (O6:List (PK×Obj)) (σ:St) (tg:Qq) (R:It->Hp->Prop) (itv:Ph) (s2:Pk):Prop:=
 ∃(it:PK) (fp:List PK) (tn:Nat->QV->Prop) (J:It) (H':Hp),itv=.ref it/\Inv X O6 σ H' s2/\Turn X.prog X.w X.K tg J fp it tn/\tn 0 s2.heap/\(∀b∈fp,iJ X O6 H' b)/\R J H'
noncomputable def PI (X:Cx) (tg Pa:Qq) (wi:TI):Prop:=
 ∀(O6:List (PK×Obj)) (s:Pk) (σ:St) (H:Hp) (R:It->Hp->Prop),Inv X O6 σ H s->wi σ H R->
  P_ (Qj X.prog X.w) X.A (eval Pa X.env) (λv s1=>P_ (Qj X.prog X.w) X.A (Yb v) (Ik X O6 σ tg R) X.xe s1) X.xe s
theorem wj {M:W0}{E:Ph->Pk->Prop}{s:Pk}{o:Obj}{Q:Unit->Pk->Prop}(ho:s.heap.get? it=some o) (hc:o.cls=.type n) (hd:o.data=.fields vs)
 (hn:["enumerate","zip","dict_itemiterator","dict_reverseitemiterator","odict_iterator","itertools.zip_longest","itertools.pairwise"].contains n=false) (hQ:Q () s):P_ M A (Ss tg (.ref it) u) Q E s:=by
 unfold Ss;cases tg <;> first
  | exact PU hQ
  | (cases u <;> first
    | exact PU hQ
    | (refine Pf (wpAny_load ho ?_);rw [hc,hd];show P_ M A (if (["enumerate","zip","dict_itemiterator","dict_reverseitemiterator","odict_iterator","itertools.zip_longest","itertools.pairwise"].contains n && vs[0]? == some (Vf _))=true then _ else _) Q E s;rw [if_neg (by intro h;rw [hn,Bool.false_and] at h;cases h)];exact PU hQ))
noncomputable def zx (K:Pe) (a:PK):It:=
 ⟨λi H=>∃xs x,cX K H a xs/\xs[i]?=some x,λi H x H'=>H'=H/\∀xs,cX K H a xs->xs[i]?=some x,λi H=>∃xs,cX K H a xs/\xs.length<=i⟩
noncomputable def zy (K:Pe) (a:PK):It:=
 ⟨λi H=>∃xs x,dF K H a xs/\xs[i]?=some x,λi H x H'=>H'=H/\∀xs,dF K H a xs->xs[i]?=some x,λi H=>∃xs,dF K H a xs/\xs.length<=i⟩
noncomputable def Bo (lo:Int) (n:Nat):It:=⟨λi _=>i < n,λi H x H'=>H'=H/\x=.int (lo + i),λi _=>n<=i⟩
theorem vA {P:PX}{w:Qn}{K:Pe}{tg:Qq}(a it:PK):Turn P w K tg (zx K a) [it] it (λi h=>h.IsListIter it a i) where
 mem:=by simp
 obj:=λi h st b hb=>by
  have e:b=it:=by simpa using hb
  subst e;obtain ⟨o,e,c,d⟩:=st;exact ⟨o,e,λv z=>by rw [d] at z;cases z⟩
 keep:=λi h h' st k=>st.at λo e=>k it (by simp) o e
 item:=by intro X hP hw hK hc i O6 s σ H E I hf st hg;subst hP hw hK;obtain ⟨xs,x,hq,hx⟩:=hg;obtain ⟨O8,rv,p,hz⟩:=I.list hq;obtain ⟨u,hu,ru⟩:=rv.get hx;obtain ⟨f0,f1,f2,f3,f4,f5⟩:=hf it (by simp);refine wpAny_pyNext_list_item st p.isList (x:=u) (by simpa using hu) λh' st' sb=>?_;have I1:Inv X O6 σ H {s with heap:=h'}:=I.turned (t':=s.toks) (λb o hb e=>(sb.2 b hb).trans e) f0 f1 f3 f4 f5;obtain ⟨o,e,c,d⟩:=id st';exact ⟨u,rfl,wj (s:={s with heap:=h'}) e c d (by decide) ⟨x,H,I1,ru,⟨rfl,λys hy=>by rw [I.list_inj hy hq];exact hx⟩,st',λb hb=>(hf b hb).1⟩⟩
 done:=by intro X hP hw hK hc i O6 s σ H E I hf st hg;subst hP hw hK;obtain ⟨xs,hq,hx⟩:=hg;obtain ⟨O8,rv,p,hz⟩:=I.list hq;obtain ⟨f0,f1,f2,f3,f4,f5⟩:=hf it (by simp);have hl:=rv.length;exact wpAny_pyNext_list_end (I.ok.hd hc) st p.isList (by simp;omega) λh' eb=>⟨rfl,I.turned (t':=s.toks) (λb o hb e=>eb b o hb e) f0 f1 f3 f4 f5⟩
 self:=λ_ _ _ _ _ st h=>wpAny_pyIter_listiter st h
theorem tR {P:PX}{w:Qn}{K:Pe}{tg:Qq}(a it:PK):Turn P w K tg (zy K a) [it] it (λi h=>h.IsTupleIter it a i) where
 mem:=by simp
 obj:=λi h st b hb=>by
  have e:b=it:=by simpa using hb
  subst e;obtain ⟨o,e,c,d⟩:=st;exact ⟨o,e,λv z=>by rw [d] at z;cases z⟩
 keep:=λi h h' st k=>st.at λo e=>k it (by simp) o e
 item:=by intro X hP hw hK hc i O6 s σ H E I hf st hg;subst hP hw hK;obtain ⟨xs,x,hq,hx⟩:=hg;obtain ⟨O8,rv,p,hz⟩:=I.tuple hq;obtain ⟨u,hu,ru⟩:=rv.get hx;obtain ⟨f0,f1,f2,f3,f4,f5⟩:=hf it (by simp);refine wpAny_pyNext_tuple_item st (show s.heap.IsTuple a O8.toArray from p) (x:=u) (by simpa using hu) λh' st' sb=>?_;have I1:Inv X O6 σ H {s with heap:=h'}:=I.turned (t':=s.toks) (λb o hb e=>(sb.2 b hb).trans e) f0 f1 f3 f4 f5;obtain ⟨o,e,c,d⟩:=id st';exact ⟨u,rfl,wj (s:={s with heap:=h'}) e c d (by decide) ⟨x,H,I1,ru,⟨rfl,λys hy=>by rw [I.tuple_inj hy hq];exact hx⟩,st',λb hb=>(hf b hb).1⟩⟩
 done:=by intro X hP hw hK hc i O6 s σ H E I hf st hg;subst hP hw hK;obtain ⟨xs,hq,hx⟩:=hg;obtain ⟨O8,rv,p,hz⟩:=I.tuple hq;obtain ⟨f0,f1,f2,f3,f4,f5⟩:=hf it (by simp);have hl:=rv.length;exact wpAny_pyNext_tuple_end (I.ok.hd hc) st (show s.heap.IsTuple a O8.toArray from p) (by simp;omega) λh' eb=>⟨rfl,I.turned (t':=s.toks) (λb o hb e=>eb b o hb e) f0 f1 f3 f4 f5⟩
 self:=λ_ _ _ _ _ st h=>wpAny_pyIter_tupleiter st h
theorem Be {P:PX}{w:Qn}{K:Pe}{tg:Qq}(it:PK) (lo:Int) (n:Nat):Turn P w K tg (Bo lo n) [it] it (λi h=>IsRangeIter h it (lo + (i:Nat) * 1) ((n:Int) - (i:Nat)) 1) where
 mem:=by simp
 obj:=λi h st b hb=>by
  have e:b=it:=by simpa using hb
  subst e;exact ⟨_,st,λv z=>by
   have z':Yq _=W3 v:=z;cases z'⟩
 keep:=λi h h' st k=>k it (by simp) _ st
 item:=by intro X hP hw hK hc i O6 s σ H E I hf st hg;subst hP hw hK;obtain ⟨f0,f1,f2,f3,f4,f5⟩:=hf it (by simp);have W:=Walks.range (prog:=X.prog) (w:=X.w) (I.ok.hd hc) it lo 1 n;refine W.item i s _ _ hg st λv h' tk hv st' kk=>?_;obtain ⟨t,rfl⟩:=hv;have I1:Inv X O6 σ H {s with heap:=h',toks:=tk}:=I.turned (λb o hb e=>kk b o (by simpa using hb) e) f0 f1 f3 f4 f5;refine ⟨_,rfl,wj (s:={s with heap:=h',toks:=tk}) (n:="range_iterator") st' rfl rfl (by decide) ⟨.int (lo + i),H,I1,⟨t,?_⟩,⟨rfl,rfl⟩,st',λb hb=>(hf b hb).1⟩⟩;rw [Int.mul_one]
 done:=by intro X hP hw hK hc i O6 s σ H E I hf st hg;subst hP hw hK;obtain ⟨f0,f1,f2,f3,f4,f5⟩:=hf it (by simp);exact wpAny_pyNext_range_end (I.ok.hd hc) st (by have:n<=i:=hg;omega) λh' eb=>⟨rfl,I.turned (t':=s.toks) (λb o hb e=>eb b o hb e) f0 f1 f3 f4 f5⟩
 self:=λ_ _ _ _ _ st h=>wpAny_pyIter_rangeiter st h
section
variable {X:Cx}{tg:Qq}
noncomputable def KQ (K:Pe) (tl:TE):TI:=λσ H R=>tl σ H λx H1=>∃a,x=.ref a/\(∃xs,cX K H1 a xs)/\R (zx K a) H1
noncomputable def Mb (K:Pe) (tl:TE):TI:=λσ H R=>tl σ H λx H1=>∃a,x=.ref a/\(∃xs,dF K H1 a xs)/\R (zy K a) H1
theorem GY {l:Qq}{tl:TE}(hl:PE X l tl):PI X tg l (KQ X.K tl):=by
 intro O6 s σ H R I h;refine bT (hl O6 s σ H _ I h) λv s1 ⟨x,H1,I1,r1,q1⟩=>?_;obtain ⟨a,e,⟨xs,hq⟩,q⟩:=q1;subst e;cases r1;obtain ⟨O8,rv,p,hz⟩:=I1.list hq;refine Sy p.isList ?_;refine ⟨s1.heap.objs.size,[s1.heap.objs.size],_,_,H1,rfl,I1.kept (t':=s1.toks) λb o e=>Pq _ e,vA a _,⟨_,Px _ rfl,rfl,rfl⟩,λb hb=>?_,q⟩;have e:b=s1.heap.objs.size:=by simpa using hb
 subst e;exact I1.fpOk (PJ _) (I1.hok.fresh (PJ _))
theorem JN {l:Qq}{tl:TE}(hl:PE X l tl):PI X tg l (Mb X.K tl):=by
 intro O6 s σ H R I h;refine bT (hl O6 s σ H _ I h) λv s1 ⟨x,H1,I1,r1,q1⟩=>?_;obtain ⟨a,e,⟨xs,hq⟩,q⟩:=q1;subst e;cases r1;obtain ⟨O8,rv,p,hz⟩:=I1.tuple hq;refine Uq (show s1.heap.IsTuple a O8.toArray from p) ?_;refine ⟨s1.heap.objs.size,[s1.heap.objs.size],_,_,H1,rfl,I1.kept (t':=s1.toks) λb o e=>Pq _ e,tR a _,⟨_,Px _ rfl,rfl,rfl⟩,λb hb=>?_,q⟩;have e:b=s1.heap.objs.size:=by simpa using hb
 subst e;exact I1.fpOk (PJ _) (I1.hok.fresh (PJ _))
theorem yE {O6:List (PK×Obj)}{σ:St}{H:Hp}{s:Pk}{R:It->Hp->Prop}{E:Ph->Pk->Prop}{lo hi:Int}{t u v:Tok}{tk:Nat}(I:Inv X O6 σ H s) (h1:-(2 ^ 62)<=lo) (h2:lo < 2 ^ 62) (h3:-(2 ^ 62)<=hi) (h4:hi < 2 ^ 62)
  (q:R (Bo lo (hi - lo).toNat) H):P_ (Qj X.prog X.w) X.A (Yb (.ref s.heap.objs.size)) (Ik X O6 σ tg R) E {s with heap:=s.heap.push {cls:=.type "range",data:=.fields #[.int lo t,.int hi u,.int 1 v]},toks:=tk}:=by
 refine wpAny_pyIter_range (IsRange.new ..) (small_one h1 h2 h3 h4) ?_;have I1:Inv X O6 σ H {s with heap:=s.heap.push {cls:=.type "range",data:=.fields #[.int lo t,.int hi u,.int 1 v]},toks:=tk}:=I.kept λb o e=>Pq _ e;refine ⟨(s.heap.push {cls:=.type "range",data:=.fields #[.int lo t,.int hi u,.int 1 v]}).objs.size,[(s.heap.push {cls:=.type "range",data:=.fields #[.int lo t,.int hi u,.int 1 v]}).objs.size],_,_,H,rfl,
  I1.kept (t':=tk) λb o e=>Pq _ e,Be _ lo (hi - lo).toNat,?_,λb hb=>?_,q⟩
 ·have e1:lo + ((0:Nat):Int) * 1=lo:=by simp
  have e2:(((hi - lo).toNat:Nat):Int) - ((0:Nat):Int)=XQ lo hi 1:=by rw [rangeSize_one];split <;> omega
  show IsRangeIter _ _ (lo + ((0:Nat):Int) * 1) ((((hi - lo).toNat:Nat):Int) - ((0:Nat):Int)) 1;rw [e1,e2];exact Px _ rfl
 ·have e:b=(s.heap.push {cls:=.type "range",data:=.fields #[.int lo t,.int hi u,.int 1 v]}).objs.size:=by simpa using hb
  subst e;exact I1.fpOk (PJ _) (I1.hok.fresh (PJ _))
noncomputable def KR (ta:TA):TI:=λσ H R=>ta σ H λvs H1=>∃j:Int,vs=[.int j]/\-(2 ^ 62)<=j/\j < 2 ^ 62/\R (Bo 0 j.toNat) H1
noncomputable def KS (ta:TA):TI:=λσ H R=>ta σ H λvs H1=>∃i j:Int,vs=[.int i,.int j]/\(-(2 ^ 62)<=i/\i < 2 ^ 62/\-(2 ^ 62)<=j/\j < 2 ^ 62)/\R (Bo i (j - i).toNat) H1
theorem Co {a:Qq}{ta:TA}{p pos:Pos}(hg:Gl X "range") (hm:X.mg "range"=none) (ha:PA X [a] ta) (hs:autoParam (Po [a] X.env=[(false,eval a X.env)]) zA._auto_1):PI X tg (.Call (.Name "range" p) [a] [] pos) (KR ta):=by
 intro O6 s σ H R I h;refine Call_ (l_ I hg hm boot_range (RP (bT (ha pos O6 s σ H _ I h) λus s1 ⟨vs,H1,I1,r1,q1⟩=>?_) hs rfl));obtain ⟨j,e,q1,q2,q⟩:=q1;subst e;cases r1 with
 | cons r rr=>
  cases rr;obtain ⟨t,rfl⟩:=r;exact call_range_1 (yE I1 (by omega) (by omega) q1 q2 (by simpa using q))
theorem Cp {a b:Qq}{ta:TA}{p pos:Pos}(hg:Gl X "range") (hm:X.mg "range"=none) (ha:PA X [a,b] ta) (hs:autoParam (Po [a,b] X.env=[(false,eval a X.env),(false,eval b X.env)]) zA._auto_1) (hs2:autoParam (Po [b] X.env=[(false,eval b X.env)]) zA._auto_1):
  PI X tg (.Call (.Name "range" p) [a,b] [] pos) (KS ta):=by
 intro O6 s σ H R I h;refine Call_ (l_ I hg hm boot_range (RP (bT (ha pos O6 s σ H _ I h) λus s1 ⟨vs,H1,I1,r1,q1⟩=>?_) (by rw [hs,hs2]) (by rw [hs2];rfl)));obtain ⟨i,j,e,⟨q1,q2,q3,q4⟩,q⟩:=q1;subst e;cases r1 with
 | cons r rr=>
  cases rr with
  | cons r' rr=>
   cases rr;obtain ⟨t,rfl⟩:=r;obtain ⟨t',rfl⟩:=r';exact call_range_2 (yE I1 q1 q2 q3 q4 q)
noncomputable def Mz (wi:TI) (g:TG) (tb:TS):TS:=λD σ H=>wi σ H λJ H1=>∃W:Nat->Nat->St->Hp->Prop,(∃m,W 0 m σ H1)/\∀i m σ H,W i m σ H->
 (J.stop i H/\D.nx σ H)\/(J.go i H/\∃N:St->Hp->Prop,(∀σ' H',N σ' H'->∃m',m' < m/\W (i + 1) m' σ' H')/\∀x H',J.yld i H x H'->g x σ H' λσ2 H2=>tb {D with nx:=N,ct:=N,bk:=D.nx} σ2 H2)
noncomputable def pB (fp:List PK) (h:QV):List (PK×Obj):=fp.filterMap λb=>(h.get? b).map λo=>(b,o)
theorem jX {h:QV}(hb:b∈fp) (e:h.get? b=some o):(b,o)∈pB fp h:=VN.mpr ⟨b,hb,by rw [e];rfl⟩
theorem B7 {h:QV}{p:PK×Obj}(hp:p∈pB fp h):p.1∈fp/\h.get? p.1=some p.2:=by
 obtain ⟨b,hb,e⟩:=VN.mp hp;cases q:h.get? b with
 | none=>rw [q] at e;cases e
 | some o=>
  rw [q] at e;have e':(b,o)=p:=P7 e;subst e';exact ⟨hb,q⟩
theorem Inv.pinned {H:Hp}{s:Pk}(I:Inv X O6 σ H s) (hf:∀b∈fp,iJ X O6 H b) (ho:∀b∈fp,∃o,s.heap.get? b=some o/\∀v,o.data≠.cell v):Inv X (O6++pB fp s.heap) σ H s:=
 I.pins_of λp hp=>(P8.mp hp).elim (λz=>I.pin p (Qo _ z)) λz=>by obtain ⟨hb,e⟩:=B7 z;obtain ⟨f0,f1,f2,_⟩:=hf p.1 hb;obtain ⟨o,e',d⟩:=ho p.1 hb;rw [e] at e';cases e';exact ⟨e,f0,f1,f2,d⟩
theorem Inv.unpinned {H:Hp}(I:Inv X (O6++pl) σ H s):Inv X O6 σ H s:=I.pins_of λp hp=>I.pin p (Qo _ (R9 _ hp))
theorem Cu {Pa:Qq}{body:List RV}{wi:TI}{g:TG}{tb:TS}{pos:Pos}(hp:Yc (Qj X.prog X.w) X.A X.env X.xe) (hc:X.calm=true) (hi:PI X tg Pa wi) (hg:PG X tg g) (hb:iQ X body tb)
  (hs:∀x,Sz Pa X.env x=pure x:=by intro _;rfl):PS X (.For tg Pa body [] pos) (Mz wi g tb):=by
 intro O6 s σ H D I h;refine wpAny_For (bT (hi O6 s σ H _ I h) λv s1 h1=>bT h1 λitv s2 h2=>?_) hs;obtain ⟨it,fp,tn,J,H2,e,I2,T,st2,f2,W,⟨m0,w0⟩,turn⟩:=h2;subst e;have stat:∀{H':Hp},(∀b∈fp,H' b=none)->∀b∈fp,iJ X O6 H' b:=λhn b hb=>⟨hn b hb,(f2 b hb).2⟩;refine codeAny_forLoop_any (λn s'=>∃i σ' H',Inv X O6 σ' H' s'/\tn i s'.heap/\(∀b∈fp,H' b=none)/\W i n σ' H') ?_ m0 ⟨0,σ,H2,I2,st2,λb hb=>(f2 b hb).1,w0⟩;rintro n s3 ⟨i,σ3,H3,I3,st3,fr3,w3⟩;rcases turn i n σ3 H3 w3 with ⟨stop,qn⟩ | ⟨go,N,hN,step⟩
 ·refine S6 hp (bT (T.done X rfl rfl rfl hc i O6 s3 σ3 H3 X.xe I3 (stat fr3) st3 stop) λr s4 ⟨hr,I4⟩=>?_);subst hr;exact Ve ⟨σ3,H3,I4,qn⟩
 ·refine S6 hp (bT (T.item X rfl rfl rfl hc i O6 s3 σ3 H3 X.xe I3 (stat fr3) st3 go) λr s4 ⟨u,hr,h4⟩=>?_);subst hr;refine S6 hp (bT h4 λ_ s5 ⟨x,H5,I5,r5,y5,st5,fr5⟩=>?_);have I5':=I5.pinned (stat fr5) (T.obj _ _ st5);refine S6 hp (bT (hg _ s5 σ3 H5 x u _ I5' r5 (step x H5 y5)) λ_ s6 ⟨σ6,H6,I6,q6⟩=>?_);refine S6 hp (bT (hb _ s6 σ6 H6 _ I6 q6) λf s7 q7=>?_);have again:∀{σ7:St}{H7:Hp},Inv X (O6++pB fp s5.heap) σ7 H7 s7->N σ7 H7->∃m,m < n/\∃i σ' H',Inv X O6 σ' H' s7/\tn i s7.heap/\(∀b∈fp,H' b=none)/\W i m σ' H':=fun {σ7 H7} I7 n7=>by obtain ⟨m',hm,w7⟩:=hN σ7 H7 n7;refine ⟨m',hm,i + 1,σ7,H7,I7.unpinned,T.keep _ _ _ st5 λb hb o e=>(I7.pin (b,o) (Qo _ (Qo _ (jX hb e)))).1,λb hb=>?_,w7⟩;obtain ⟨o,e,d⟩:=T.obj _ _ st5 b hb;exact (I7.pin (b,o) (Qo _ (Qo _ (jX hb e)))).2.1
  cases f with
  | next=>obtain ⟨σ7,H7,I7,n7⟩:=q7;exact again I7 n7
  | cont=>obtain ⟨σ7,H7,I7,n7⟩:=q7;exact again I7 n7
  | brk=>obtain ⟨σ7,H7,I7,q7⟩:=q7;exact ⟨σ7,H7,I7.unpinned,q7⟩
  | ret v=>obtain ⟨x7,σ7,H7,I7,r7,q7⟩:=q7;exact ⟨x7,σ7,H7,I7.unpinned,r7,q7⟩
end
noncomputable abbrev R2:=V->V->Hp->VK->Prop
noncomputable def dD (X:Cx) (f:Ph->Ph->Sem Ph) (r:R2):Prop:=
 ∀(O6:List (PK×Obj)) (s:Pk) (σ:St) (H:Hp) (x y:V) (v u:Ph) (Q:VK),Inv X O6 σ H s->RelV x v->RelV y u->r x y H Q->
  P_ (Qj X.prog X.w) X.A (f v u) (EP X O6 σ Q) X.xe s
noncomputable def Io (X:Cx) (f:Ph->Sem Ph) (r:V->Hp->VK->Prop):Prop:=
 ∀(O6:List (PK×Obj)) (s:Pk) (σ:St) (H:Hp) (x:V) (v:Ph) (Q:VK),Inv X O6 σ H s->RelV x v->r x H Q->
  P_ (Qj X.prog X.w) X.A (f v) (EP X O6 σ Q) X.xe s
noncomputable def dj (X:Cx) (f:Ph) (r:List V->Hp->VK->Prop):Prop:=
 ∀(O6:List (PK×Obj)) (s:Pk) (σ:St) (H:Hp) (xs:List V) (us:List Ph) (Q:VK),Inv X O6 σ H s->Vals xs us->r xs H Q->
  P_ (Qj X.prog X.w) X.A (call f us) (EP X O6 σ Q) X.xe s
noncomputable def L5 (X:Cx) (r:V->Hp->(Bool->Hp->Prop)->Prop):Prop:=
 ∀(O6:List (PK×Obj)) (s:Pk) (σ:St) (H:Hp) (x:V) (v:Ph) (Q:Bool->Hp->Prop),Inv X O6 σ H s->RelV x v->r x H Q->
  P_ (Qj X.prog X.w) X.A (truthy v) (TP X O6 σ Q) X.xe s
noncomputable def CU (r:R2) (ta tb:TE):TE:=λσ H Q=>ta σ H λx H1=>tb σ H1 λy H2=>r x y H2 Q
noncomputable def M4 (r:V->Hp->VK->Prop) (ta:TE):TE:=λσ H Q=>ta σ H λx H1=>r x H1 Q
noncomputable def rI (C:Int->Int->Prop) (g:Int->Int->V):R2:=λx y H Q=>∃i j,x=.int i/\y=.int j/\C i j/\Q (g i j) H
noncomputable def oj (g:Int->Int->V):R2:=λx y H Q=>∃i j,x=.int i/\y=.int j/\Q (g i j) H
noncomputable def rU (g:Int->V):V->Hp->VK->Prop:=λx H Q=>∃i,x=.int i/\Q (g i) H
section
variable {X:Cx}{a b c:Qq}{ta tb tc:TE}{pos:Pos}
theorem Ds (ha:PE X a ta) (hb:PE X b tb){O6:List (PK×Obj)}{s:Pk}{σ:St}{H:Hp}{R:V->V->Hp->Prop}(I:Inv X O6 σ H s)
  (h:ta σ H λx H1=>tb σ H1 λy H2=>R x y H2){Q:Ph->Pk->Prop}{f:Ph->Ph->Sem Ph}
  (hf:∀v u s2 x y H2,Inv X O6 σ H2 s2->RelV x v->RelV y u->R x y H2->P_ (Qj X.prog X.w) X.A (f v u) Q X.xe s2):
  P_ (Qj X.prog X.w) X.A (eval a X.env) (λv s₁=>P_ (Qj X.prog X.w) X.A (eval b X.env) (λu s₂=>P_ (Qj X.prog X.w) X.A (f v u) Q X.xe s₂) X.xe s₁) X.xe s:=by refine bT (ha O6 s σ H _ I h) λv s1 ⟨x,H1,I1,r1,q1⟩=>?_;refine bT (hb O6 s1 σ H1 _ I1 q1) λu s2 ⟨y,H2,I2,r2,q2⟩=>?_;exact hf v u s2 x y H2 I2 r1 r2 q2
theorem Lf (ho:dD X (SA op) r) (ha:PE X a ta) (hb:PE X b tb):PE X (.BinOp a op b pos) (CU r ta tb):=by intro O6 s σ H Q I h;exact wpAny_BinOp (Ds ha hb I h λv u s2 x y H2 I2 rx ry q=>ho O6 s2 σ H2 x y v u Q I2 rx ry q)
theorem Fg {r:V->Hp->VK->Prop}(ho:Io X (unaryOp op) r) (ha:PE X a ta):PE X (.UnaryOp op a pos) (M4 r ta):=by intro O6 s σ H Q I h;exact UnaryOp_ (bT (ha O6 s σ H _ I h) λv s1 ⟨x,H1,I1,r1,q1⟩=>ho O6 s1 σ H1 x v Q I1 r1 q1)
theorem Fb {f:Ph->Ph->Sem Ph}{C:Int->Int->Prop}{g:Int->Int->Int}
  (rule:∀(i j:Int) (t u:Tok) (s:Pk) (Q:Ph->Pk->Prop) (E:Ph->Pk->Prop),C i j->Q (.int (g i j) s.toks) {s with toks:=s.toks + 1}->P_ (Qj X.prog X.w) X.A (f (.int i t) (.int j u)) Q E s):
  dD X f (rI C λi j=>.int (g i j)):=by intro O6 s σ H x y v u Q I rx ry h;obtain ⟨i,j,rfl,rfl,hc,q⟩:=h;obtain ⟨t,rfl⟩:=rx;obtain ⟨t',rfl⟩:=ry;exact rule i j t t' s _ _ hc ⟨.int (g i j),H,I.tok _,⟨_,rfl⟩,q⟩
theorem Jw {f:Ph->Ph->Sem Ph}{g:Int->Int->Int}
  (rule:∀(i j:Int) (t u:Tok) (s:Pk) (Q:Ph->Pk->Prop) (E:Ph->Pk->Prop),Q (.int (g i j) s.toks) {s with toks:=s.toks + 1}->P_ (Qj X.prog X.w) X.A (f (.int i t) (.int j u)) Q E s):
  dD X f (oj λi j=>.int (g i j)):=by intro O6 s σ H x y v u Q I rx ry h;obtain ⟨i,j,rfl,rfl,q⟩:=h;obtain ⟨t,rfl⟩:=rx;obtain ⟨t',rfl⟩:=ry;exact rule i j t t' s _ _ ⟨.int (g i j),H,I.tok _,⟨_,rfl⟩,q⟩
theorem DV {f:Ph->Ph->Sem Ph}{g:Int->Int->Bool}
  (rule:∀(i j:Int) (t u:Tok) (s:Pk) (Q:Ph->Pk->Prop) (E:Ph->Pk->Prop),Q (.bool (g i j)) s->P_ (Qj X.prog X.w) X.A (f (.int i t) (.int j u)) Q E s):
  dD X f (oj λi j=>.bl (g i j)):=by intro O6 s σ H x y v u Q I rx ry h;obtain ⟨i,j,rfl,rfl,q⟩:=h;obtain ⟨t,rfl⟩:=rx;obtain ⟨t',rfl⟩:=ry;exact rule i j t t' s _ _ ⟨.bl (g i j),H,I,rfl,q⟩
noncomputable def LX (i j:Int):Prop:=0 < j/\j < 1073741824
noncomputable def LY (i j:Int):Prop:=0<=j/\j<=1000000/\i.natAbs < 2 ^ 64
noncomputable def Ak (i j:Int):Prop:=(-(2 ^ 64) < i/\i < 2 ^ 64)\/(-(2 ^ 64) < j/\j < 2 ^ 64)
theorem Ak.ok (h:Ak i j):IntMulOk i j:=by
 rcases h with ⟨h1,h2⟩ | ⟨h1,h2⟩
 ·exact .of_left (XR h1 h2)
 ·exact .of_right (XR h1 h2)
theorem B8:dD X (SA .Add) (oj λi j=>.int (i + j)):=Jw λ_ _ _ _ _ _ _ q=>add_int q
theorem JD:dD X (SA .Sub) (oj λi j=>.int (i - j)):=Jw λ_ _ _ _ _ _ _ q=>sub_int q
theorem JA:dD X (SA .Mult) (rI Ak λi j=>.int (i * j)):=Fb λ_ _ _ _ _ _ _ hc q=>mul_int q hc.ok
theorem GH:dD X (SA .FloorDiv) (rI LX λi j=>.int (i / j)):=Fb λi j _ _ _ _ _ hc q=>by have h1:(0:Int) < j:=hc.1;have h2:j < 1073741824:=hc.2;exact floordiv_int (by omega) (by rw [Int.fdiv_eq_ediv_of_nonneg i (by omega)];exact q) (.inl (PyProof.noPylong_small (by omega)))
theorem Jz:dD X (SA .Mod) (rI (λ_ j=>0 < j) λi j=>.int (i % j)):=Fb λi j _ _ _ _ _ hc q=>by have h1:(0:Int) < j:=hc;exact mod_int' (by omega) (by rw [Int.fmod_eq_emod_of_nonneg i (by omega)];exact q)
theorem JC:dD X (SA .Pow) (rI LY λi j=>.int (i ^ j.toNat)):=Fb λ_ _ _ _ _ _ _ hc q=>pow_int_small hc.1 hc.2.1 hc.2.2 q
theorem M5 {f:Ph->Sem Ph}{g:Int->Int}
  (rule:∀(i:Int) (t:Tok) (s:Pk) (Q:Ph->Pk->Prop) (E:Ph->Pk->Prop),Q (.int (g i) s.toks) {s with toks:=s.toks + 1}->P_ (Qj X.prog X.w) X.A (f (.int i t)) Q E s):
  Io X f (rU λi=>.int (g i)):=by intro O6 s σ H x v Q I rx h;obtain ⟨i,rfl,q⟩:=h;obtain ⟨t,rfl⟩:=rx;exact rule i t s _ _ ⟨.int (g i),H,I.tok _,⟨_,rfl⟩,q⟩
theorem CY:Io X (unaryOp .USub) (rU λi=>.int (-i)):=M5 λ_ _ _ _ _ q=>neg_int q
theorem xO {O6:List (PK×Obj)}{σ:St}{H:Hp}{s:Pk}{Q:VK}{k k':Bool}(I:Inv X O6 σ H s) (q:Q (.bl k) H) (e:k=k'):EP X O6 σ Q (.bool k') s:=by subst e;exact ⟨.bl k,H,I,rfl,q⟩
theorem qf:dD X (Q8 .Lt) (oj λi j=>.bl (decide (i < j))):=DV λ_ _ _ _ _ _ _ q=>lt_int q
theorem La:dD X (Q8 .LtE) (oj λi j=>.bl (decide (i<=j))):=DV λ_ _ _ _ _ _ _ q=>le_int q
theorem sR:dD X (Q8 .Gt) (oj λi j=>.bl (decide (j < i))):=DV λ_ _ _ _ _ _ _ q=>gt_int q
theorem Cf:dD X (Q8 .Lt) (λx y H Q=>∃i j,x=.str i/\y=.str j/\Q (.bl (decide (i.cps.toList < j.cps.toList))) H):=by intro O6 s σ H x y v u Q I rx ry h;obtain ⟨i,j,rfl,rfl,q⟩:=h;obtain ⟨t,rfl⟩:=rx;obtain ⟨t',rfl⟩:=ry;exact lt_str (xO I q rfl)
theorem ve:dD X (Q8 .In) (λx y H Q=>∃i j,x=.str i/\y=.str j/\Q (.bl (!(QT j i 0 j.length 1).isEmpty)) H):=by intro O6 s σ H x y v u Q I rx ry h;obtain ⟨i,j,rfl,rfl,q⟩:=h;obtain ⟨t,rfl⟩:=rx;obtain ⟨t',rfl⟩:=ry;exact in_str (xO I q rfl)
theorem yr:dD X (Q8 .NotIn) (λx y H Q=>∃i j,x=.str i/\y=.str j/\Q (.bl (!(!(QT j i 0 j.length 1).isEmpty))) H):=by intro O6 s σ H x y v u Q I rx ry h;obtain ⟨i,j,rfl,rfl,q⟩:=h;obtain ⟨t,rfl⟩:=rx;obtain ⟨t',rfl⟩:=ry;exact notIn_str (xO I q rfl)
theorem dD.or {f:Ph->Ph->Sem Ph}{r r':R2}(h:dD X f r) (h':dD X f r'):dD X f (λx y H Q=>r x y H Q\/r' x y H Q):=by
 intro O6 s σ H x y v u Q I rx ry q;rcases q with q | q
 ·exact h O6 s σ H x y v u Q I rx ry q
 ·exact h' O6 s σ H x y v u Q I rx ry q
theorem yj (b:Qq) (h:autoParam (op≠.In) zB._auto_1) (h2:autoParam (op≠.NotIn) zB._auto_1):QS op b=false:=by
 have e1:(op == Y6)=false:=by cases op <;> first | rfl | exact absurd rfl h
 have e2:(op == Yp)=false:=by cases op <;> first | rfl | exact absurd rfl h2
 cases b <;> simp [QS,e1,e2]
theorem GU (ho:dD X (Q8 op) r) (ha:PE X a ta) (hb:PE X b tb) (hm:QS op b=false):PE X (.Compare a [op] [b] pos) (CU r ta tb):=by intro O6 s σ H Q I h;exact wpAny_Compare1 (Ds ha hb I h λv u s2 x y H2 I2 rx ry q=>ho O6 s2 σ H2 x y v u Q I2 rx ry q) hm
noncomputable def LA (t:TE):TT:=λσ H Q=>t σ H λx H'=>∃k,x=.bl k/\Q k H'
theorem G1 {op:CmpOp}{r:R2}(ho:dD X (Q8 op) r) (ha:PE X a ta) (hb:PE X b tb) (hm:QS op b=false):PT X (.Compare a [op] [b] pos) (LA (CU r ta tb)):=by
 intro O6 s σ H Q I h;refine Vc (bT (ha O6 s σ H _ I h) λv s1 ⟨x,H1,I1,r1,q1⟩=>bT (hb O6 s1 σ H1 _ I1 q1) λu s2 ⟨y,H2,I2,r2,q2⟩=>
  bT (ho O6 s2 σ H2 x y v u _ I2 r1 r2 q2) λc s3 ⟨z,H3,I3,r3,k,e,q3⟩=>?_) hm
 subst e;cases r3;exact Ru ⟨H3,I3,q3⟩
noncomputable def Km (r r':R2) (ta tb tc:TE):TE:=λσ H Q=>ta σ H λx H1=>tb σ H1 λy H2=>r x y H2 λz H3=>∃k,z=.bl k/\
 (if k=true then tc σ H3 λw' H4=>r' y w' H4 Q else Q (.bl false) H3)
theorem D5 {op op':CmpOp}{r r':R2}(ho:dD X (Q8 op) r) (ho':dD X (Q8 op') r') (ha:PE X a ta) (hb:PE X b tb) (hc:PE X c tc)
  (hm:lastMarks [op,op'] [b,c]=false:=by with_unfolding_all rfl):PE X (.Compare a [op,op'] [b,c] pos) (Km r r' ta tb tc):=by
 intro O6 s σ H Q I h;refine Compare_chain (bT (ha O6 s σ H _ I h) λv s1 ⟨x,H1,I1,r1,q1⟩=>chain_link (bT (hb O6 s1 σ H1 _ I1 q1) λu s2 ⟨y,H2,I2,r2,q2⟩=>
  bT (ho O6 s2 σ H2 x y v u _ I2 r1 r2 q2) λd s3 ⟨z,H3,I3,r3,k,e,q3⟩=>?_)) hm
 subst e;cases r3;refine Ru ?_;cases k with
 | false=>exact ite_ff ⟨.bl false,H3,I3,rfl,q3⟩
 | true=>exact ite_tt (chain_last (bT (hc O6 s3 σ H3 _ I3 q3) λw' s4 ⟨z',H4,I4,r4,q4⟩=>ho' O6 s4 σ H4 y z' u w' Q I4 r2 r4 q4))
noncomputable def Dm (K:Pe) (x:V) (H:Hp) (k:Bool):Prop:=
 match x with
 | .non=>k=false
 | .bl b=>k=b
 | .int i=>k=(i != 0)
 | .str y=>y.length<=sizeLine/\k=((y.length:Int) != 0)
 | .byt y=>y.size<=sizeLine/\k=((y.size:Int) != 0)
 | .ref p=>(∃xs,cX K H p xs/\k=!xs.isEmpty)\/(∃xs,dF K H p xs/\k=!xs.isEmpty)\/∃Pd,H p=some (.dK Pd)/\k=!Pd.isEmpty
 | _=>False
theorem AO {κ:Type}{Pd:List (κ×V)}{vs:List (κ×Ph)}(r:KV Pd vs):(!vs.isEmpty)=!Pd.isEmpty:=by cases r <;> rfl
theorem sL {xs:List V}{O8:List Ph}(r:Vals xs O8):(!O8.toArray.isEmpty)=!xs.isEmpty:=by cases r <;> simp
theorem mq:(sizeLine:Nat) < 2 ^ 63:=by rw [Qw];decide
theorem Kq:L5 X (λx H Q=>∃k,Dm X.K x H k/\Q k H):=by
 intro O6 s σ H x v Q I rx h;obtain ⟨k,e,q⟩:=h;have hl:=mq;have hs:sizeLine=16777216:=Qw;cases x with
 | non=>
  cases rx;have e':k=false:=e;subst e';exact truthy_none ⟨H,I,q⟩
 | bl b=>
  cases rx;have e':k=b:=e;subst e';exact Ru ⟨H,I,q⟩
 | int i=>
  obtain ⟨t,rfl⟩:=rx;have e':k=(i != 0):=e;subst e';exact PySem.P.truthy_int ⟨H,I,q⟩
 | str y=>
  obtain ⟨t,rfl⟩:=rx;obtain ⟨hy,e'⟩:y.length<=sizeLine/\k=((y.length:Int) != 0):=e;subst e';exact PySem.P.truthy_str (by omega) ⟨H,I.tok _,q⟩
 | byt y=>
  obtain ⟨t,rfl⟩:=rx;obtain ⟨hy,e'⟩:y.size<=sizeLine/\k=((y.size:Int) != 0):=e;subst e';exact W.truthy_bytes (by omega) ⟨H,I.tok _,q⟩
 | ref p=>
  cases rx;have e':(∃xs,cX X.K H p xs/\k=!xs.isEmpty)\/(∃xs,dF X.K H p xs/\k=!xs.isEmpty)\/∃Pd,H p=some (.dK Pd)/\k=!Pd.isEmpty:=e;rcases e' with ⟨xs,hx,e'⟩ | ⟨xs,hx,e'⟩ | ⟨Pd,hx,e'⟩
  ·subst e';obtain ⟨O8,r,pl,hz⟩:=I.list hx;have hlen:=r.length;exact wpAny_truthy_list pl.isList (by simp only [PZ];omega) ⟨H,I.tok _,by rw [sL r];exact q⟩
  ·subst e';obtain ⟨O8,r,pl,hz⟩:=I.tuple hx;have hlen:=r.length;exact truthy_tuple pl (by simp only [PZ];omega) ⟨H,I.tok _,by rw [sL r];exact q⟩
  ·subst e';obtain ⟨hz,hS,vs,r,m⟩:Pd.length<=sizeLine/\(p == T5)=false/\∃vs,KV Pd vs/\s.heap.DictOf (uF X.prog X.w) p vs:=I.hok p _ hx;have hlen:Pd.length=vs.length:=XM r;exact wpAny_truthy_dict hS m (by omega) ⟨H,I.tok _,by rw [AO r];exact q⟩
 | _=>exact (show False from e).elim
theorem Ea (ha:PE X a ta) (he:∀whole,Ww a X.env whole=(do let v <-whole;W2 a.pos;holding [v] (truthy v))):
  PT X a (λσ H Q=>ta σ H λx H'=>∃k,Dm X.K x H' k/\Q k H'):=by intro O6 s σ H Q I h;exact isTrue_plain (bT (ha O6 s σ H _ I h) λv s1 ⟨x,H1,I1,r1,q1⟩=>Kq O6 s1 σ H1 x v Q I1 r1 q1) (he _)
theorem sQ:dD X (SA .Add) (λx y H Q=>∃i j,x=.str i/\y=.str j/\i.length + j.length<=sizeLine/\Q (.str (i++j)) H):=by intro O6 s σ H x y v u Q I rx ry h;obtain ⟨i,j,rfl,rfl,hz,q⟩:=h;obtain ⟨t,rfl⟩:=rx;obtain ⟨t',rfl⟩:=ry;exact add_str (λt' tk=>⟨.str (i++j),H,I.tok _,⟨_,rfl⟩,q⟩) hz
theorem vals1 (r:Vals [x] us):∃u,us=[u]/\RelV x u:=by
 cases r with
 | cons r1 r2=>cases r2;exact ⟨_,rfl,r1⟩
theorem vals2 (r:Vals [x,y] us):∃u w',us=[u,w']/\RelV x u/\RelV y w':=by
 cases r with
 | cons r1 r2=>
  cases r2 with
  | cons r3 r4=>cases r4;exact ⟨_,_,rfl,r1,r3⟩
theorem BA (hc:X.calm=true):dj X (.builtin "max") (λxs H Q=>∃i j,xs=[.int i,.int j]/\Q (.int (if j > i then j else i)) H):=by
 intro O6 s σ H xs us Q I r h;obtain ⟨i,j,rfl,q⟩:=h;obtain ⟨u,w',rfl,⟨t,rfl⟩,⟨t',rfl⟩⟩:=vals2 r;refine max_two_ints (I.ok.hd hc) λh' tk k=>⟨_,H,I.kept k,?_,q⟩;by_cases hj:j > i
 ·rw [if_pos hj,if_pos hj];exact ⟨_,rfl⟩
 ·rw [if_neg hj,if_neg hj];exact ⟨_,rfl⟩
theorem BB (hc:X.calm=true):dj X (.builtin "min") (λxs H Q=>∃i j,xs=[.int i,.int j]/\Q (.int (if j < i then j else i)) H):=by
 intro O6 s σ H xs us Q I r h;obtain ⟨i,j,rfl,q⟩:=h;obtain ⟨u,w',rfl,⟨t,rfl⟩,⟨t',rfl⟩⟩:=vals2 r;refine min_two_ints (I.ok.hd hc) λh' tk k=>⟨_,H,I.kept k,?_,q⟩;by_cases hj:j < i
 ·rw [if_pos hj,if_pos hj];exact ⟨_,rfl⟩
 ·rw [if_neg hj,if_neg hj];exact ⟨_,rfl⟩
theorem Bx:dj X (.type "int") (λxs H Q=>(∃i,xs=[.int i]/\Q (.int i) H)\/∃k,xs=[.bl k]/\Q (.int (if k then 1 else 0)) H):=by
 intro O6 s σ H xs us Q I r h;rcases h with ⟨i,rfl,q⟩ | ⟨k,rfl,q⟩
 ·obtain ⟨u,rfl,t,rfl⟩:=vals1 r;exact call_int_int ⟨.int i,H,I,⟨_,rfl⟩,q⟩
 ·obtain ⟨u,rfl,r1⟩:=vals1 r;cases r1;exact call_int_bool ⟨.int (if k then 1 else 0),H,I.tok _,⟨_,rfl⟩,q⟩
end
structure cH (k:Nat) (A:Qx):Prop where
 hd:A.handled=none
 dp:A.depth + 3 * k + 5 < Xh
 un:A.units + 16 * k + 200 < T3
theorem cH.mono (r:cH k A) (h:j<=k):cH j A:=⟨r.hd,by have:=r.dp;omega,by have:=r.un;omega⟩
theorem cH.deeper {A:Qx}(r:cH (k + 1) A) (env:Env):cH k (A.deeper env):=
 ⟨r.hd,by have:=r.dp;show A.depth + 1 + 3 * k + 5 < _;omega,by have:=r.un;show A.units + 3 + 16 * k + 200 < _;omega⟩
theorem cH.depth {A:Qx}(r:cH k A):A.depth < Xh:=by have:=r.dp;omega
theorem cH.units {A:Qx}(r:cH k A):A.units + 64 < T3:=by have:=r.un;omega
noncomputable def Ex:TA:=λ_ H Q=>Q [] H
noncomputable def Lv (ta:TE) (tr:TA):TA:=λσ H Q=>ta σ H λx H1=>tr σ H1 λxs H2=>Q (x::xs) H2
section
variable {X:Cx}{e:Qq}{es:List Qq}{te:TE}{t:TA}{pos:Pos}
theorem gT:PA X [] Ex:=λ_ _ _ _ H Q I h=>Calls.spliced_nil ⟨[],H,I,.nil,h⟩
theorem fz (ha:PE X e te) (hr:PA X es t) (hs:autoParam (Po (e::es) X.env=(false,eval e X.env)::Po es X.env) zA._auto_1):PA X (e::es) (Lv te t):=by intro pos O6 s σ H Q I h;rw [hs];show P_ _ _ (spliced ((false,eval e X.env)::Ra pos (Po es X.env))) _ _ s;refine Calls.spliced_cons (bT (ha O6 s σ H _ I h) λu s1 ⟨x,H1,I1,r1,q1⟩=>?_);exact bT (hr pos O6 s1 σ H1 _ I1 q1) λus s2 ⟨xs,H2,I2,r2,q2⟩=>⟨x::xs,H2,I2,.cons r1 r2,q2⟩
noncomputable def MF (t:TA):TE:=λσ H Q=>t σ H λxs H1=>xs.length<=sizeLine/\∀p,H1 p=none->Q (.ref p) (upd H1 p (.tup xs))
noncomputable def MB (t:TA):TE:=λσ H Q=>t σ H λxs H1=>xs.length<=sizeLine/\∀p,H1 p=none->Q (.ref p) (upd H1 p (.lst xs))
theorem Ck {x1}(h:PA X es t):PE X (.Tuple es x1 pos) (MF t):=by intro O6 s σ H Q I hq;refine wpAny_Tuple_spliced (bT (h pos O6 s σ H _ I hq) λus s1 ⟨xs,H1,I1,r,z,q⟩=>⟨by rw [<-r.length];exact z,?_⟩);have hf:H1 s1.heap.objs.size=none:=I1.hok.fresh (PJ _);refine ⟨.ref s1.heap.objs.size,upd H1 s1.heap.objs.size (.tup xs),I1.laid (t':=s1.toks) (λb u e=>Pq _ e) (PJ _) ?_,rfl,q _ hf⟩;exact ⟨z,us,r,⟨_,Px _ rfl,rfl,_,rfl⟩,λo q=>by rw [Px _ rfl] at q;cases q;rfl⟩
theorem yv (h:PA X es t):PE X (.List es pos) (MB t):=by intro O6 s σ H Q I hq;refine wpAny_List_spliced (bT (h pos O6 s σ H _ I hq) λus s1 ⟨xs,H1,I1,r,z,q⟩=>⟨by rw [<-r.length];exact z,?_⟩);have hf:H1 s1.heap.objs.size=none:=I1.hok.fresh (PJ _);refine ⟨.ref s1.heap.objs.size,upd H1 s1.heap.objs.size (.lst xs),I1.laid (t':=s1.toks) (λb u e=>Pq _ e) (PJ _) ?_,rfl,q _ hf⟩;exact ⟨z,us,0,r,Px _ rfl⟩
end
noncomputable abbrev Sp:=List V->Hp->VK->XK->Prop
noncomputable abbrev ow:=List Env->Hp->Pk->XK->Ph->Pk->Prop
structure Al (P:PX) (w:Qn) (K:Pe) (mg:Str->Option Ph) (base:QV) (A:Qx) (outer:List Env) (s:Pk) (H:Hp):Prop where
 frames:A.frames=some outer
 mod:Mod K mg base
 bs:∀b o,base.get? b=some o->s.heap.get? b=some o/\H b=none
 bsz:base.objs.size<=s.heap.objs.size
 funs:s.heap.FunFrames base outer
 frf:∀b∈frs outer,H b=none
 hok:gn P w H s.heap
 bare:UO s.gens
noncomputable def CE (outer:List Env) (P:PX) (w:Qn) (H:Hp) (s:Pk) (Q:VK) (u:Ph) (s':Pk):Prop:=
 ∃v H',s'.os=s.os/\UO s'.gens/\Un (frs outer) [] H H' s.heap s'.heap/\gn P w H' s'.heap/\RelV v u/\Q v H'
noncomputable def CR (CX:ow) (outer:List Env) (P:PX) (w:Qn) (H:Hp) (s:Pk) (Q:VK) (E:XK) (r:Result) (s':Pk):Prop:=
 match r with
 | .ok (.ret u)=>CE outer P w H s Q u s'
 | .ok _=>False
 | .error e=>CX outer H s E e s'
structure fL (P:PX) (w:Qn) (K:Pe) (mg:Str->Option Ph) (base:QV) (CX:ow) (k:Nat) (f:PK) (fd:Qi) (ps:List Str) (sp:Sp):Prop where
 len:∀vs H Q E,sp vs H Q E->vs.length=ps.length
 run:∀(A:Qx) (outer:List Env) (s:Pk) (H:Hp) (args:Args) (us:List Ph) (vs:List V) (Q:VK) (E:XK),cH k A->Al P w K mg base A outer s H->W4 s fd args (ps.zip us)->Vals vs us->sp vs H Q E->
  Uy (Qj P w) A (.call (.ref f) args) (CR CX outer P w H s Q E) s
section
variable {X:Cx}{O6:List (PK×Obj)}{σ:St}{H:Hp}{s s':Pk}
theorem Inv.env0 (I:Inv X O6 σ H s):Al X.prog X.w X.K X.mg X.base X.A X.stack s H:=
 ⟨I.ok.frames,I.ok.mod,I.bs,P6 I.ok.bsz I.sz,I.stack,I.stkFree,I.hok,I.bare⟩
theorem Inv.after {Q:VK}(I:Inv X O6 σ H s) (h:CE X.stack X.prog X.w H s Q u s'):EP X O6 σ Q u s':=by obtain ⟨v,H',os,bare,un,hok,r,q⟩:=h;obtain ⟨hh,g,d,t,os'⟩:=s';obtain rfl:os'=s.os:=os;exact ⟨v,H',I.call (h':=hh) (g':=g) (d':=d) (t':=t) (ch:=[]) un hok bare (λb z=>absurd z (by simp)),r,q⟩
end
noncomputable def Ba (sp:Sp) (dvs:List V) (E:XK) (t:TA):TE:=λσ H Q=>t σ H λvs H1=>sp (vs++dvs) H1 Q E
noncomputable def Binds (K:Pe) (fd:Qi) (ps:List Str) (ds:List Ph):Prop:=
 ∀(s:Pk) (us:List Ph),K.In s.heap->(us++ds).length=ps.length->W4 s fd ⟨us,[]⟩ (ps.zip (us++ds))
theorem Binds.all {K:Pe}{fd:Qi}{ps:List Str}(h:∀us:List Ph,us.length=ps.length->Ur fd ⟨us,[]⟩=pure (ps.zip us)):Binds K fd ps []:=λs us _ hl=>by rw [Ql] at hl ⊢;exact .of_eq (h us hl)
noncomputable def Passes (CX:ow) (X:Cx) (E:XK):Prop:=∀(O6:List (PK×Obj)) (σ:St) (H:Hp) (s:Pk) (e:Ph) (s':Pk),Inv X O6 σ H s->CX X.stack H s E e s'->X.xe e s'
section
variable {X:Cx}{CX:ow}{k:Nat}{f C:PK}{fd:Qi}{ps:List Str}{sp:Sp}{dvs:List V}{ds:List Ph}{E:XK}{x m:Str}{p pos apos:Pos}{e o:Qq}{es:List Qq}{ta:TE}{t:TA}
theorem J6 {H:Hp}{Q:VK}(F:fL X.prog X.w X.K X.mg X.base CX k f fd ps sp) (hr:cH k X.A) (hb:Binds X.K fd ps ds) (hd:Vals dvs ds) (hx:Passes CX X E)
 (I:Inv X O6 σ H s) (r:Vals vs us) (h:sp (vs++dvs) H Q E):P_ (Qj X.prog X.w) X.A (call (.ref f) us) (EP X O6 σ Q) X.xe s:=by
 have r2:Vals (vs++dvs) (us++ds):=r.append hd;have hl:(us++ds).length=ps.length:=by rw [<-r2.length];exact F.len _ _ _ _ h
 refine UC (TM (F.run X.A X.stack s H ⟨us,[]⟩ (us++ds) (vs++dvs) Q E hr I.env0 (hb s us I.kIn hl) r2 h) λr s' hq=>?_);cases r with
 | error e=>exact hx O6 σ H s e s' I hq
 | ok fl=>
  cases fl with
  | ret u=>exact I.after hq
  | next=>exact RX hq
  | brk=>exact RX hq
  | cont=>exact RX hq
theorem uH (F:fL X.prog X.w X.K X.mg X.base CX k f fd ps sp) (hr:cH k X.A) (hg:Gl X x) (hm:X.mg x=some (.ref f)) (hk:QN X.K (.ref f)=true) (hb:Binds X.K fd ps ds) (hd:Vals dvs ds) (hx:Passes CX X E)
  (ha:PA X (e::es) t) (hdb:autoParam ((x == ("__debug__":Str))=false) zB._auto_1) (he:autoParam (Po (e::es) X.env=(false,eval e X.env)::Po es X.env) zA._auto_1) (hpl:autoParam ((Ra pos (Po es X.env)).any (·.1)=false) zA._auto_1):
  PE X (.Call (.Name x p) (e::es) [] pos) (Ba sp dvs E t):=by intro O6 s σ H Q I h;refine Sl (mh I hg hm ?_ hdb);refine Us (h₀:=X.base) I.ok.mod.kin hk (bT (ha pos O6 s σ H _ I h) λus s1 ⟨vs,H1,I1,r,q⟩=>⟨I1.kIn,?_⟩) he hpl;exact J6 F hr hb hd hx I1 r q
end
structure cL (N P:List Str) (sc:SJ):Prop where
 kind:sc.kind=.function
 co:sc.isCoroutine=false
 gen:sc.isGenerator=false
 nd:N.Nodup
 pre:N.take P.length=P
 par:∀x∈P,sc.names.lookup x=some .local\/sc.names.lookup x=some .cell
 nofree:∀y∈sc.names,y.2≠.free
theorem uX {kindOf:Str->Option RZ}:∀{binds:List (Str×Ph)}{m:Str->Option Ph},(∀v,(x,v)∉binds)->Yr kindOf binds m x=m x
 | [],_,_=>rfl
 | (n,v)::r,m,h=>by
  unfold Yr;rw [uX λw hw=>h w (Py _ hw)];split
  ·have:x≠n:=by rintro rfl;exact h v P0
   simp [this]
  ·rfl
theorem uV {kindOf:Str->Option RZ}:∀{binds:List (Str×Ph)}{m:Str->Option Ph},(∀v,(x,v)∉binds)->Ys kindOf binds m x=m x
 | [],_,_=>rfl
 | (n,v)::r,m,h=>by
  unfold Ys;rw [uV λw hw=>h w (Py _ hw)];split
  ·rfl
  ·have:x≠n:=by rintro rfl;exact h v P0
   simp [this]
theorem uW {kindOf:Str->Option RZ}{x:Str}{v:Ph}:∀{P:List Str}{vs:List Ph}{i:Nat}{m:Str->Option Ph},P.Nodup->P[i]?=some x->vs[i]?=some v->kindOf x=some .local->
  Yr kindOf (P.zip vs) m x=some v
 | [],_,_,_,_,h,_,_=>by simp at h
 | _::_,[],_,_,_,_,h,_=>by simp at h
 | p::P,w::vs,0,m,nd,h1,h2,hk=>by simp at h1 h2;subst h1;subst h2;show Yr kindOf ((p,w)::P.zip vs) m p=_;unfold Yr;rw [uX λv hv=>(RQ.mp nd).1 (Vg hv).1,if_pos hk];simp
 | p::P,w::vs,i + 1,m,nd,h1,h2,hk=>by show Yr kindOf ((p,w)::P.zip vs) m x=_;unfold Yr;exact uW (i:=i) (RQ.mp nd).2 (by simpa using h1) (by simpa using h2) hk
theorem uU {kindOf:Str->Option RZ}{x:Str}{v:Ph}:∀{P:List Str}{vs:List Ph}{i:Nat}{m:Str->Option Ph},P.Nodup->P[i]?=some x->vs[i]?=some v->kindOf x≠some .local->
  Ys kindOf (P.zip vs) m x=some v
 | [],_,_,_,_,h,_,_=>by simp at h
 | _::_,[],_,_,_,_,h,_=>by simp at h
 | p::P,w::vs,0,m,nd,h1,h2,hk=>by simp at h1 h2;subst h1;subst h2;show Ys kindOf ((p,w)::P.zip vs) m p=_;unfold Ys;rw [uV λv hv=>(RQ.mp nd).1 (Vg hv).1,if_neg hk];simp
 | p::P,w::vs,i + 1,m,nd,h1,h2,hk=>by show Ys kindOf ((p,w)::P.zip vs) m x=_;unfold Ys;exact uU (i:=i) (RQ.mp nd).2 (by simpa using h1) (by simpa using h2) hk
noncomputable def start (N:List Str) (vs:List V):St:=vs.map some++Qe (N.length - vs.length) none
noncomputable def lG (CX:ow) (P:PX) (w:Qn) (K:Pe) (mg:Str->Option Ph) (base:QV) (N:List Str) (Pb:Str) (O5:SJ) (f:PK) (cd:Ph) (A:Qx) (outer:List Env) (s:Pk) (H:Hp) (E:XK):Cx where
 prog:=P
 w:=w
 K:=K
 mg:=mg
 base:=base
 A:=A.deeper (SK Pb O5 s.heap.objs.size f cd)
 N:=N
 s₀:=s
 H₀:=H
 env:=SK Pb O5 s.heap.objs.size f cd
 outer:=outer
 stack:=SK Pb O5 s.heap.objs.size f cd::outer
 ex:=[]
 calm:=true
 fn:=λ_=>true
 pn:=[]
 xe:=λe s'=>P_ (Qj P w) (A.deeper (SK Pb O5 s.heap.objs.size f cd)) (leaving (SK Pb O5 s.heap.objs.size f cd) e) (λ_ s''=>CX outer H s E e s'') (λe' s''=>CX outer H s E e' s'') s'
theorem xD {sc:SJ}(h:sc.names.lookup x=some .cell):∃c,(QW n sc.names []).lookup x=some c:=by have q:=U5 sc.names n [] (.inl h);exact Rn.mp q
theorem BS {CX:ow}{P:PX}{w:Qn}{K:Pe}{mg:Str->Option Ph}{base:QV}{N ps:List Str}{Pb:Str}{O5:SJ}{f:PK}{cd:Ph}{A:Qx}{outer:List Env}{s s1:Pk}{H:Hp}{E:XK}{us:List Ph}{vs:List V}
  (S:cL N ps O5) (hd:A.handled=none) (e0:Al P w K mg base A outer s H) (hl:vs.length=ps.length) (r:Vals vs us)
  (x:InCallC s s.heap.objs.size (Yr (SK Pb O5 s.heap.objs.size f cd).kindOf (ps.zip us) λ_=>none) (QW (s.heap.objs.size + 1) O5.names []) (Ys (SK Pb O5 s.heap.objs.size f cd).kindOf (ps.zip us) λ_=>none) s1):
  Inv (lG CX P w K mg base N Pb O5 f cd A outer s H E) [] (start N vs) H s1:=by
 have hpl:ps.length<=N.length:=by have:=congrArg Rp S.pre;rw [RY] at this;omega
 obtain ⟨h1,tk,rfl,hk⟩:=x.done;have noA:∀b:PK,b∉(lG CX P w K mg base N Pb O5 f cd A outer s H E).ex:=λb z=>absurd (show b∈([]:List PK) from z) (by simp);refine ⟨⟨e0.mod,S.kind,rfl,rfl,PJ _,λy z c h1 h2=>?_,λy hy=>?_,λy c _ h=>?_,λ_=>hd,Around.frames_deeper e0.frames,.inr ⟨rfl,rfl⟩,λb z=>absurd z (noA b),e0.bs,e0.bsz,λb _ _=>noA b,λb z=>absurd z (noA b),e0.funs,e0.frf⟩,
  rfl,e0.bare,Un.kept hk,⟨_,x.toInCall.ns,λi y v h1 h2 h3=>?_⟩,λy c h=>⟨_,x.cell y c h⟩,e0.hok.fresh (PJ _),λy c h=>?_,λp hp=>absurd (show p∈([]:List (PK×Obj)) from hp) (by simp),e0.hok.kept hk,?_⟩
 ·exact name_of_addr x.apart (Sg h1) (Sg h2)
 ·have hy:O5.names.lookup y=some .cell\/O5.names.lookup y=some .free:=hy;rcases hy with hy | hy
  ·exact xD hy
  ·exact absurd rfl (S.nofree _ (Sg hy))
 ·exact Wv (x.above y c (Sg h))
 ·have hi:i < vs.length:=by
   unfold start at h2;by_cases hi:i < vs.length
   ·exact hi
   ·rw [Qy (by simpa using hi)] at h2;rw [S7] at h2;split at h2 <;> cases h2
  have ha:vs[i]?=some v:=by
   unfold start at h2;rw [Q2 (by simpa using hi),Qg] at h2;cases e:vs[i]? with
   | none=>rw [e] at h2;cases h2
   | some a=>rw [e] at h2;cases h2;rfl
  obtain ⟨u,hu,rv⟩:=r.get ha;have hp:ps[i]?=some y:=by rw [<-S.pre,List.getElem?_take_of_lt (by omega)];exact h1
  have ndP:ps.Nodup:=by rw [<-S.pre];exact S.nd.sublist (Wb _ _)
  refine ⟨u,rv,?_⟩;rcases S.par y (QK hp) with k | k
  ·exact .inl ⟨k,uW ndP hp hu k⟩
  ·obtain ⟨c,e⟩:=xD (n:=s.heap.objs.size + 1) k;refine .inr ⟨.inl k,c,e,?_⟩;have q:=x.cell y c e;rw [uU ndP hp hu (by show O5.names.lookup y≠_;rw [k];decide)] at q;exact q
 ·exact e0.hok.fresh (Wv (x.above y c (Sg h)))
 ·unfold start;show _=N.length;rw [Pu,Pj,QE];omega
theorem EX {K:Pe}{mg:Str->Option Ph}{dV kV doc pm cdv ct oc:Ph}
 {N ps:List Str}{sp:Sp}(lk:K.lookup f=some ⟨oc,od,.func (Q5 name Pb params body O5 dV kV doc pm an cdv ct),osl⟩) (hcd:TF K cdv Pb=true) (S:cL N ps O5)
 (len:∀vs H Q E,sp vs H Q E->vs.length=ps.length)
 (hbody:∀(A:Qx) (outer:List Env) (s:Pk) (H:Hp) (vs:List V) (Q:VK) (E:XK),cH k (A.deeper (SK Pb O5 s.heap.objs.size f cdv))->sp vs H Q E->
 ∃t,iQ (lG CX P w K mg base N Pb O5 f cdv A outer s H E) body t/\t {nx:=λ_ H'=>Q .non H',rt:=Q} (start N vs) H):
  fL P w K mg base CX (k + 1) f (Q5 name Pb params body O5 dV kV doc pm an cdv ct) ps sp:=by
 refine ⟨len,λA outer s H args us vs Q E hr e0 hb r NU=>?_⟩;have hl:=len _ _ _ _ NU;have KX:K.In s.heap:=e0.mod.kin.keeps λb o e=>(e0.bs b o e).1;have lim:s.heap.NoLimit:=e0.mod.nolimit.keeps λb o e=>(e0.bs b o e).1;have hkind:∀y∈ps.zip us,O5.names.lookup y.1=some .local\/(O5.names.lookup y.1=some .cell/\((QW (s.heap.objs.size + 1) O5.names []).lookup y.1).isSome=true):=λ⟨n,v⟩ hy=>by
  rcases S.par n (Vg hy).1 with q | q
  ·exact .inl q
  ·exact .inr ⟨q,U5 _ _ _ (.inl q)⟩
 refine codeAny_call_function hr.depth (KX _ _ lk) rfl S.co S.gen rfl (W.codeRec_of KX hcd) (hb _ _ _ _ ?_);refine wpAny_newFunctionEnv_cells S.kind hkind λenv he s1 x=>?_;subst he;refine ⟨lim.keeps x.toInCall.keep,codeAny_func ?_⟩;obtain ⟨t,ht,hq⟩:=hbody A outer s H vs Q E (hr.deeper _) NU;have I:Inv (lG CX P w K mg base N Pb O5 f cdv A outer s H E) [] (start N vs) H s1:=BS S hr.hd e0 hl r x;refine QZ (ht [] s1 (start N vs) H _ I hq) (λfl s' hs=>?_) λe s' hs=>hs;have fin:∀{σ':St}{H':Hp}{v:V}{u:Ph},Inv (lG CX P w K mg base N Pb O5 f cdv A outer s H E) [] σ' H' s'->RelV v u->Q v H'->CE outer P w H s Q u s':=
  fun {σ' H' v u} J rv q=>⟨v,H',J.os,J.bare,J.base,J.hok,rv,q⟩
 cases fl with
 | ret u=>
  obtain ⟨v,σ',H',J,rv,q⟩:=hs;exact fin J rv q
 | next=>
  obtain ⟨σ',H',J,q⟩:=hs;exact fin (v:=V.non) (u:=RL) J rfl q
 | brk=>
  obtain ⟨_,_,_,q⟩:=hs;exact RX q
 | cont=>
  obtain ⟨_,_,_,q⟩:=hs;exact RX q
section
variable {X:Cx}{x:Str}{p pos:Pos}{e:Qq}{es:List Qq}{t:TA}{id T:String}{r:List V->Hp->VK->Prop}
noncomputable def LU (r:List V->Hp->VK->Prop) (t:TA):TE:=λσ H Q=>t σ H λvs H1=>r vs H1 Q
theorem nD (hc:dj X (.builtin id) r) (hg:Gl X x) (hm:X.mg x=none) (hv:QO x=some (.builtin id)) (ha:PA X (e::es) t) (hn:autoParam (x≠"__name__") zB._auto_1) (hdb:autoParam ((x == ("__debug__":Str))=false) zB._auto_1)
  (he:autoParam (Po (e::es) X.env=(false,eval e X.env)::Po es X.env) zA._auto_1) (hpl:autoParam ((Ra pos (Po es X.env)).any (·.1)=false) zA._auto_1):PE X (.Call (.Name x p) (e::es) [] pos) (LU r t):=by intro O6 s σ H Q I h;refine Sl (l_ I hg hm hv ?_ hn hdb);exact Wy (bT (ha pos O6 s σ H _ I h) λus s1 ⟨vs,H1,I1,r1,q1⟩=>hc O6 s1 σ H1 vs us Q I1 r1 q1) he hpl
theorem Cj (hc:dj X (.type T) r) (hg:Gl X x) (hm:X.mg x=none) (hv:QO x=some (.type T)) (ha:PA X (e::es) t) (hn:autoParam (x≠"__name__") zB._auto_1) (hdb:autoParam ((x == ("__debug__":Str))=false) zB._auto_1)
  (he:autoParam (Po (e::es) X.env=(false,eval e X.env)::Po es X.env) zA._auto_1) (hpl:autoParam ((Ra pos (Po es X.env)).any (·.1)=false) zA._auto_1):PE X (.Call (.Name x p) (e::es) [] pos) (LU r t):=by intro O6 s σ H Q I h;refine Sl (l_ I hg hm hv ?_ hn hdb);exact RP (bT (ha pos O6 s σ H _ I h) λus s1 ⟨vs,H1,I1,r1,q1⟩=>hc O6 s1 σ H1 vs us Q I1 r1 q1) he hpl
end
end L2
namespace HT
open PySem PyProof.Rows
noncomputable def lexLt:List Int->List Int->Bool
 | [],[]=>false
 | [],_::_=>true
 | _::_,[]=>false
 | x::xs,y::ys=>if x=y then lexLt xs ys else decide (x < y)
theorem nk (x y:Int) (xs ys:List Int):lexLt (x::xs) (y::ys)=if x=y then lexLt xs ys else decide (x < y):=rfl
theorem oh:lexLt [] []=false:=rfl
theorem uE (y:Int) (ys:List Int):lexLt [] (y::ys)=true:=rfl
theorem uD (x:Int) (xs:List Int):lexLt (x::xs) []=false:=rfl
theorem Dy (A:Qx) (s:Pk) (a:Int) (t:Tok) (c:Int) (u:Tok):∃e,R_ A s (.int a t) (.int c u) e/\(e=true↔a=c):=
 ⟨(a == c),VO a t c u,by simp⟩
theorem Em (A:Qx) (s:Pk) (a:Int) (t:Tok) (c:Int) (u:Tok) (prog:PX) (w:Qn) (E:Ph->Pk->Prop) (Q:Ph->Pk->Prop) (h:Q (.bool (decide (a < c))) s):
  P_ (Qj prog w) A (richCompare .Lt (.int a t) (.int c u)) Q E s:=
 (Yt h:P_ (Qj prog w) A (Q8 .Lt (.int a t) (.int c u)) Q E s)
section
open PySem.SeqAt
open PySem.AutoSeq1 (wpAny_loadPart')
open PySem.MeetsSeq PySem.MeetsSeq2 PySem.MeetsSeq3
theorem vZ (l b:PK) (O7 Pc:Array Ph) (n n2:Nat) (dd dd2:Option PK) (sl sl2:Array (Option Ph)) (ns ms:List Int) (hi:Tt O7.toList ns) (hj:Tt Pc.toList ms):
  Meets (Vz.«tuple.__lt__» ⟨[.ref l,.ref b],[]⟩)
   (λ_ R s=>s.heap.get? l=some {cls:=.type "tuple",dict:=dd,data:=.seq O7 n,slots:=sl}/\s.heap.get? b=some {cls:=.type "tuple",dict:=dd2,data:=.seq Pc n2,slots:=sl2}/\
    R (.ok (.ret (.bool (lexLt ns ms)))) s):=
 .of_wp λprog w A R s h=>by
  obtain ⟨hp,g,d,tk,os⟩:=s;obtain ⟨hl,hb,h⟩:=h;have f2:=UD;have z1:O7.size=ns.length:=by rw [<-hi.length];simp
  have z2:Pc.size=ms.length:=by rw [<-hj.length];simp
  wp_walk using Su hl,Su hb,wpAny_forIn_list _ (λO_ b s'=>b.1=none/\s'=⟨hp,g,d,tk,os⟩/\∃(vs ws:List Ph) (ns' ms':List Int),O_=vs.zip ws/\
   Tt vs ns'/\Tt ws ms'/\ns'.length + Pc.size=ms'.length + O7.size/\R (.ok (.ret (.bool (lexLt ns' ms')))) ⟨hp,g,d,tk,os⟩) _
  case turn=>
   rintro ⟨y,x⟩ O_ b s' ⟨hb',rfl,vs,ws,ns',ms',hz,Ow,hwi,hlen,hR⟩;cases Ow with
   | nil=>rw [List.zip_nil_left] at hz;cases hz
   | cons a t Ox=>
    cases hwi with
    | nil=>rw [List.zip_nil_right] at hz;cases hz
    | cons c u Oz=>
     rw [VP] at hz;injection hz with hyx hrest
     injection hyx with hy hx
     subst hy hx;rw [nk] at hR;simp only [P4] at hlen;obtain ⟨e,he,hiff⟩:=Dy A.in1 ⟨hp,g,d,tk,os⟩ a t c u;refine Pf (he prog w _ _ ?_);cases e with
     | true=>
      rw [if_pos (hiff.mp rfl)] at hR
      wp_walk
      exact ⟨rfl,rfl,_,_,_,_,hrest,Ox,Oz,by omega,hR⟩
     | false=>
      rw [if_neg (λq=>absurd (hiff.mpr q) Qu)] at hR;have OZ:=Em A.in1 ⟨hp,g,d,tk,os⟩ a t c u prog w
      wp_walk using OZ
      exact ⟨_,rfl,by simpa using hR⟩
  case fin=>
   rintro ⟨b1,b2⟩ s' ⟨hb',rfl,vs,ws,ns',ms',hz,Ow,hwi,hlen,hR⟩;simp only at hb';subst hb';have hv:lexLt ns' ms'=decide (O7.size < Pc.size):=by
    cases Ow with
    | nil=>
     cases hwi with
     | nil=>
      simp only [RS] at hlen;rw [oh];exact (decide_eq_false (by omega)).symm
     | cons c u hw=>
      simp only [RS,P4] at hlen;rw [uE];exact (decide_eq_true (by omega)).symm
    | cons a t hv=>
     cases hwi with
     | nil=>
      simp only [RS,P4] at hlen;rw [uD];exact (decide_eq_false (by omega)).symm
     | cons c u hw=>
      rw [VP] at hz;cases hz
   rw [hv] at hR
   wp_walk
   exact ⟨_,rfl,by simpa [Wc] using hR⟩
  case h=>
   exact ⟨rfl,rfl,O7.toList,Pc.toList,ns,ms,rfl,hi,hj,by omega,h⟩
end
section
variable {prog:PX}{w:Qn}{A:Qx}{E:Ph->Pk->Prop}{s:Pk}
theorem AU {l b:PK}{O7 Pc:Array Ph}{ns ms:List Int}{Q:Ph->Pk->Prop}(hl:Yo s.heap l O7) (hb:Yo s.heap b Pc) (hi:Tt O7.toList ns) (hj:Tt Pc.toList ms)
  (hu:A.units < T3) (h:Q (.bool (lexLt ns ms)) s):P_ (Qj prog w) A (Q8 .Lt (.ref l) (.ref b)) Q E s:=by
 obtain ⟨⟨cls,dd,data,sl⟩,ho,hc,n,hd⟩:=id hl;obtain ⟨⟨cls2,dd2,data2,sl2⟩,ho2,hc2,n2,hd2⟩:=id hb;simp only at hc hd hc2 hd2;subst hc hd hc2 hd2;exact richCompare_meets_room (op:=.Lt) ⟨_,ho,rfl⟩ ⟨_,ho2,rfl⟩ PySem.F.slot_tuple_lt PySem.F.entry_tuple_lt (PySem.F.args_tuple_lt_2 _ _) (vZ l b O7 Pc n n2 dd dd2 sl sl2 ns ms hi hj)
  ⟨ho,ho2,show Tr (lexLt ns ms)≠Value.notImplemented/\Q (.bool (lexLt ns ms)) s from ⟨(λx=>nomatch x),h⟩⟩ hu
theorem Gf {vs ws:List Ph}{Q:Ph->Pk->Prop}(ht:Yo s.heap t vs.toArray) (hb:Yo s.heap b ws.toArray) (hv:vs≠[])
 (h1:ws=[]->Q (.ref t) s) (h2:ws≠[]->Q (.ref s.heap.objs.size) {s with heap:=s.heap.push {cls:=.type "tuple",data:=.seq (vs++ws).toArray}})
 (hsz:vs.length + ws.length<=sizeLine):P_ (Qj prog w) A (SA .Add (.ref t) (.ref b)) Q E s:=by
 obtain ⟨⟨cls,dd,data,sl⟩,ho,hc,n,hd⟩:=id ht;obtain ⟨⟨cls2,dd2,data2,sl2⟩,ho2,hc2,n2,hd2⟩:=id hb;simp only at hc hd hc2 hd2;subst hc hd hc2 hd2;have e:vs.toArray++ws.toArray=(vs++ws).toArray:=by simp
 by_cases hw:ws=[]
 ·exact Wz ⟨_,ho,rfl⟩ ⟨_,ho2,rfl⟩ UX VQ Tj S8 (SW _ _)
   (tuple_addW1 t b vs.toArray ws.toArray n n2 dd dd2 sl sl2 (by simpa using hv) (by simp [hw])) ⟨ho,ho2,h1 hw⟩
 ·refine Wz ⟨_,ho,rfl⟩ ⟨_,ho2,rfl⟩ UX VQ Tj S8 (SW _ _)
   (tuple_addW2 t b vs.toArray ws.toArray n n2 dd dd2 sl sl2 (by simpa using hv) (by simpa using hw) (by rw [PZ,PZ];exact hsz)) ⟨ho,ho2,?_⟩
  rw [e];exact h2 hw
noncomputable def bM (n d:Nat):Option Int->Nat
 | none=>d
 | some v=>if v < 0 then (v + (n:Int)).toNat else min v.toNat n
theorem Ep (n d:Nat):bM n d none=d:=rfl
theorem uN (n d k:Nat):bM n d (some (k:Int))=min k n:=by show (if (k:Int) < 0 then ((k:Int) + (n:Int)).toNat else min (k:Int).toNat n)=min k n;rw [if_neg (by omega),SD]
theorem J_ (n d:Nat) (hd:d<=n) (o:Option Int):bM n d o<=n:=by
 cases o with
 | none=>exact hd
 | some v=>
  show (if v < 0 then (v + (n:Int)).toNat else min v.toNat n)<=n;by_cases hv:v < 0
  ·rw [if_pos hv];omega
  ·rw [if_neg hv];exact Nat.min_le_right _ _
theorem zJ (v:Int) (n d:Nat):(if v < 0 then max (v + (n:Int)) 0 else min v (n:Int))=((bM n d (some v):Nat):Int):=by
 show (if v < 0 then max (v + (n:Int)) 0 else min v (n:Int))=(((if v < 0 then (v + (n:Int)).toNat else min v.toNat n):Nat):Int);by_cases hv:v < 0
 ·simp only [if_pos hv];omega
 ·simp only [if_neg hv];omega
theorem Ax (lo hi:Option Int) (n:Nat):SM lo hi 1 (n:Int)=(((bM n 0 lo:Nat):Int),((bM n n hi:Nat):Int)):=by
 have h1:¬((1:Int) < 0):=by omega
 unfold SM;simp only [h1,if_false];refine XS ?_ ?_
 ·cases lo with
  | none=>rfl
  | some v=>exact zJ v n 0
 ·cases hi with
  | none=>rfl
  | some v=>exact zJ v n n
theorem A3 (i j:Nat):R6 (i:Int) (j:Int) 1=j - i:=by
 unfold R6;have h1:(1:Int) > 0:=by omega
 simp only [h1,if_true,Int.ediv_one];split <;> omega
theorem tM {Q:Option Int->Pk->Prop}(p:VR v o) (h:Q o s):P_ (Qj prog w) A (WW v) Q E s:=by
 cases p with
 | none=>exact Xi h
 | int i t=>exact slicePart_int h
theorem kW {sl:PK}{vl vu:Ph}{lo hi:Option Int}{n:Nat}{Q:Int×Int×Nat->Pk->Prop}(hs:s.heap.IsSliceOf sl vl vu .none) (pl:VR vl lo) (pu:VR vu hi)
  (h:Q (((bM n 0 lo:Nat):Int),1,bM n n hi - bM n 0 lo) s):P_ (Qj prog w) A (Uk (.ref sl) (pure (n:Int))) Q E s:=by obtain ⟨os,hos,hcs,hds⟩:=id hs;unfold Uk Xj;refine Pf (Pf (QU hos hds (x:=vl) rfl (Pf (QU hos hds (x:=vu) rfl (Pf (QU hos hds (x:=.none) rfl (PU ?_)))))));refine Pf (Xi ?_);show P_ _ _ (if ((1:Int) == 0)=true then _ else _) _ _ s;rw [if_neg (by decide)];refine Pf (tM pl (Pf (tM pu (Pf (PU ?_)))));show P_ _ _ (match SM lo hi 1 (n:Int) with | (lo,hi)=>pure (lo,(1:Int),R6 lo hi 1)) _ _ s;rw [Ax lo hi n];show P_ _ _ (pure (((bM n 0 lo:Nat):Int),(1:Int),R6 ((bM n 0 lo:Nat):Int) ((bM n n hi:Nat):Int) 1)) _ _ s;rw [A3];exact PU h
theorem D9 (xs:Array Ph) (i k:Nat):((Qc k).filterMap λ(m:Nat)=>xs[((i:Int) + (m:Int) * 1).toNat]?).toArray=((xs.toList.drop i).take k).toArray:=by
 have e:(λ(m:Nat)=>xs[((i:Int) + (m:Int) * 1).toNat]?)=λm=>xs[i + m]?:=by
  funext m;have:((i:Int) + (m:Int) * 1).toNat=i + m:=by omega
  rw [this]
 rw [e];have:=pick_run xs i k;rw [VS] at this;have e2:((λx=>xs[x]?) ∘ λx=>i + x)=λm=>xs[i + m]?:=rfl;rw [e2] at this;rw [this]
theorem qo {t sl:PK}{O7:Array Ph}{vl vu:Ph}{lo hi:Option Int}{Q:Ph->Pk->Prop}(ht:Yo s.heap t O7) (hs:s.heap.IsSliceOf sl vl vu .none) (pl:VR vl lo) (pu:VR vu hi)
  (hw:¬(bM O7.size 0 lo=0/\bM O7.size O7.size hi=O7.size))
  (h:Q (.ref s.heap.objs.size) {s with heap:=s.heap.push {cls:=.type "tuple",data:=.seq ((O7.toList.drop (bM O7.size 0 lo)).take (bM O7.size O7.size hi - bM O7.size 0 lo)).toArray}})
  (hsz:O7.size<=sizeLine):P_ (Qj prog w) A (Wf (.ref t) (.ref sl)) Q E s:=by
 have NN:sizeOk (.seq ((O7.toList.drop (bM O7.size 0 lo)).take (bM O7.size O7.size hi - bM O7.size 0 lo)).toArray):=by show ((O7.toList.drop (bM O7.size 0 lo)).take (bM O7.size O7.size hi - bM O7.size 0 lo)).toArray.size<=sizeLine;rw [PZ,RY,QX,SS];omega
 have hj:bM O7.size O7.size hi<=O7.size:=J_ _ _ (PJ _) hi;obtain ⟨os,hos,hcs,hds⟩:=id hs;have Oi:s.TypeIs (.ref sl) "slice":=⟨os,hos,hcs⟩;unfold Wf
 try with_reducible refine RI ?_
 first | refine Pf (PU ?_) | skip
 refine Pf (Wg ht.typeIs (by decide) ?_);refine Pf (Rq (name:=SX "__getitem__") ht.typeIs QM
  (Sk QM ht.typeIs VA ?_ (VT _ _)))
 show P_ _ _ (Ul (.ref t) >>= _) _ _ s;refine Pf (XU ht ?_);refine Pf (WA Oi ?_);rw [if_pos (by decide)];refine Pf (kW hs pl pu ?_);have hno:¬((((bM O7.size 0 lo:Nat):Int) == 0 && (1:Int) == 1 && (bM O7.size O7.size hi - bM O7.size 0 lo) == O7.size)=true):=by intro q;rw [Pr,Pr] at q;have q1:((bM O7.size 0 lo:Nat):Int)=0:=eq_of_beq q.1.1;have q2:bM O7.size O7.size hi - bM O7.size 0 lo=O7.size:=eq_of_beq q.2;exact hw ⟨by omega,by omega⟩
 show P_ _ _ (if (((bM O7.size 0 lo:Nat):Int) == 0 && (1:Int) == 1 && (bM O7.size O7.size hi - bM O7.size 0 lo) == O7.size)=true then _ else _) _ _ s;rw [if_neg hno,D9]
 first
  | exact Pf (m:=Sa _) (Ro (PU ⟨_,rfl,PU h⟩) NN)
  | exact Pf (m:=Sa _) (Ro (Pf (PU (PU ⟨_,rfl,PU h⟩))) NN)
  | exact Pf (Pf (m:=Sa _) (Ro (PU (PU ⟨_,rfl,PU h⟩)) NN))
  | exact Pf (Pf (m:=Sa _) (Ro (PU ⟨_,rfl,PU h⟩) NN))
end
end HT
namespace L2
open PySem PySem.Spec PyProof.Rows
noncomputable abbrev TO:=St->Hp->(Option Int->Hp->Prop)->Prop
noncomputable def PO (X:Cx) (e:Option Qq) (t:TO):Prop:=
 ∀(O6:List (PK×Obj)) (s:Pk) (σ:St) (H:Hp) (Q:Option Int->Hp->Prop),Inv X O6 σ H s->t σ H Q->
  P_ (Qj X.prog X.w) X.A (evalPart e X.env) (λu s'=>∃o H',Inv X O6 σ H' s'/\VR u o/\Q o H') X.xe s
noncomputable def HE:TO:=λ_ H Q=>Q none H
noncomputable def Lz (t:TE):TO:=λσ H Q=>t σ H λx H1=>∃i,x=.int i/\Q (some i) H1
theorem intsAre_of {ns:List Int}:∀{us:List Ph},Vals (ns.map V.int) us->Tt us ns:=by
 induction ns with
 | nil=>intro us r;rw [R0] at r;cases r;exact .nil
 | cons n ns ih=>
  intro us r;rw [Qh] at r;cases r with
  | cons r1 r2=>
   obtain ⟨t,e⟩:=r1;subst e;exact .cons n t (ih r2)
section
variable {X:Cx}{e:Qq}{te:TE}{lo hi:Option Qq}{tl th:TO}{pos p2:Pos}
theorem GZ:PO X none HE:=by intro O6 s σ H Q I h;rw [VU];exact PU ⟨none,H,I,.none,h⟩
theorem G0 (h:PE X e te):PO X (some e) (Lz te):=by intro O6 s σ H Q I hw;rw [VV];refine bT (h O6 s σ H _ I hw) λu s1 ⟨x,H1,I1,r1,q1⟩=>?_;obtain ⟨i,rfl,q⟩:=q1;obtain ⟨t,rfl⟩:=r1;exact ⟨some i,H1,I1,.int i t,q⟩
noncomputable def qA (X:Cx) (r:V->Option Int->Option Int->Hp->VK->Prop):Prop:=
 ∀(O6:List (PK×Obj)) (s:Pk) (σ:St) (H:Hp) (x:V) (v vl vu:Ph) (lo hi:Option Int) (sl:PK) (Q:VK),Inv X O6 σ H s->RelV x v->s.heap.IsSliceOf sl vl vu .none->VR vl lo->VR vu hi->r x lo hi H Q->
  ∃T id,typeLookup (.type T) "__getitem__"=pure (some (.builtin id))/\s.TypeIs v T/\P_ (Qj X.prog X.w) X.A (Wf v (.ref sl)) (EP X O6 σ Q) X.xe s
theorem qA.or {r r':V->Option Int->Option Int->Hp->VK->Prop}(h:qA X r) (h':qA X r'):qA X (λx lo hi H Q=>r x lo hi H Q\/r' x lo hi H Q):=by
 intro O6 s σ H x v vl vu lo hi sl Q I rx hs pl pu q;rcases q with q | q
 ·exact h O6 s σ H x v vl vu lo hi sl Q I rx hs pl pu q
 ·exact h' O6 s σ H x v vl vu lo hi sl Q I rx hs pl pu q
noncomputable def M1 (r:V->Option Int->Option Int->Hp->VK->Prop) (te:TE) (tl th:TO):TE:=λσ H Q=>te σ H λx H1=>tl σ H1 λl H2=>th σ H2 λu H3=>r x l u H3 Q
theorem D6 {r:V->Option Int->Option Int->Hp->VK->Prop}(hr:qA X r) (he:PE X e te) (hl:PO X lo tl) (hu:PO X hi th):PE X (.Subscript e (.Slice lo hi none p2) pos) (M1 r te tl th):=by intro O6 s σ H Q I h;refine Xx (bT (he O6 s σ H _ I h) λv s1 ⟨x,H1,I1,r1,q1⟩=>?_);refine wpAny_Slice (bT (hl O6 s1 σ H1 _ I1 q1) λvl s2 ⟨l,H2,I2,pl,q2⟩=>bT (hu O6 s2 σ H2 _ I2 q2) λvu s3 ⟨u,H3,I3,pu,q3⟩=>?_);rw [VU];refine PU ?_;have I4:Inv X O6 σ H3 {s3 with heap:=s3.heap.push {cls:=.type "slice",data:=.fields #[vl,vu,.none]}}:=I3.kept (t':=s3.toks) λb ob q=>Pq _ q;obtain ⟨T,id,hT,ht,hg⟩:=hr O6 {s3 with heap:=s3.heap.push {cls:=.type "slice",data:=.fields #[vl,vu,.none]}} σ H3 x v vl vu l u s3.heap.objs.size Q I4 r1 (VX ..) pl pu q3;show P_ (Qj X.prog X.w) X.A (XX e (.Slice lo hi none p2) v (.ref s3.heap.objs.size)) (EP X O6 σ Q) X.xe {s3 with heap:=s3.heap.push {cls:=.type "slice",data:=.fields #[vl,vu,.none]}};exact YK (ops:=[.ref s3.heap.objs.size,v]) ht hT hg (by with_unfolding_all rfl)
noncomputable def lF (xs:List V) (lo hi:Option Int):List V:=(xs.drop (HT.bM xs.length 0 lo)).take (HT.bM xs.length xs.length hi - HT.bM xs.length 0 lo)
theorem qD (xs:List V) (lo hi:Option Int):(lF xs lo hi).length<=xs.length:=by unfold lF;rw [RY,QX];omega
noncomputable def Mq (K:Pe):V->Option Int->Option Int->Hp->VK->Prop:=λx lo hi H Q=>∃a xs,x=.ref a/\dF K H a xs/\
 ¬(HT.bM xs.length 0 lo=0/\HT.bM xs.length xs.length hi=xs.length)/\∀p,H p=none->Q (.ref p) (upd H p (.tup (lF xs lo hi)))
theorem Kg:qA X (Mq X.K):=by
 intro O6 s σ H x v vl vu lo hi sl Q I rx hs pl pu h;obtain ⟨a,xs,rfl,hx,hw,q⟩:=h;cases rx;obtain ⟨O8,r,ht,hz⟩:=I.tuple hx;have hlen:O8.toArray.size=xs.length:=by rw [PZ];exact r.length.symm
 refine ⟨"tuple",_,QM.lookup,ht.typeIs,?_⟩;refine HT.qo ht hs pl pu (by rw [hlen];exact hw) ?_ (by rw [hlen];exact hz);rw [hlen];refine ⟨.ref s.heap.objs.size,_,I.laid (t':=s.toks) (o:=.tup (lF xs lo hi)) (λb ob q=>Pq _ q) (PJ _) ?_,rfl,q _ (I.hok.fresh (PJ _))⟩;exact ⟨P6 (qD xs lo hi) hz,_,(r.drop (HT.bM xs.length 0 lo)).take (HT.bM xs.length xs.length hi - HT.bM xs.length 0 lo),W5 _ _,λo q=>by rw [Px _ rfl] at q;cases q;rfl⟩
noncomputable def Mm (K:Pe):R2:=λx y H Q=>∃a b ns ms,x=.ref a/\y=.ref b/\dF K H a (ns.map V.int)/\dF K H b (ms.map V.int)/\Q (.bl (HT.lexLt ns ms)) H
theorem Jy (hu:X.A.units < T3):dD X (Q8 .Lt) (Mm X.K):=by intro O6 s σ H x y v u Q I rx ry h;obtain ⟨a,b,ns,ms,rfl,rfl,ha,hb,q⟩:=h;cases rx;cases ry;obtain ⟨O8,r1,p1,_⟩:=I.tuple ha;obtain ⟨its2,r2,p2,_⟩:=I.tuple hb;have i1:Tt O8.toArray.toList ns:=intsAre_of r1;have i2:Tt its2.toArray.toList ms:=intsAre_of r2;exact HT.AU p1 p2 i1 i2 hu ⟨.bl (HT.lexLt ns ms),H,I,rfl,q⟩
noncomputable def Lm (K:Pe):R2:=λx y H Q=>∃a b xs ys,x=.ref a/\y=.ref b/\dF K H a xs/\dF K H b ys/\xs≠[]/\xs.length + ys.length<=sizeLine/\
 (ys=[]->Q (.ref a) H)/\(ys≠[]->∀p,H p=none->Q (.ref p) (upd H p (.tup (xs++ys))))
theorem Vals.nil_iff (r:Vals xs us):us=[]↔xs=[]:=by
 cases r with
 | nil=>simp
 | cons _ _=>simp
theorem GG:dD X (SA .Add) (Lm X.K):=by intro O6 s σ H x y v u Q I rx ry h;obtain ⟨a,b,xs,ys,rfl,rfl,ha,hb,hx,hz,q1,q2⟩:=h;cases rx;cases ry;obtain ⟨O8,r1,p1,_⟩:=I.tuple ha;obtain ⟨its2,r2,p2,_⟩:=I.tuple hb;refine HT.Gf p1 p2 (λz=>hx (r1.nil_iff.mp z)) (λz=>⟨.ref a,H,I,rfl,q1 (r2.nil_iff.mp z)⟩) (λz=>?_) (by rw [<-r1.length,<-r2.length];exact hz);refine ⟨.ref s.heap.objs.size,_,I.laid (t':=s.toks) (o:=.tup (xs++ys)) (λb ob q=>Pq _ q) (PJ _) ?_,rfl,q2 (λw=>z (r2.nil_iff.mpr w)) _ (I.hok.fresh (PJ _))⟩;exact ⟨by rw [Pu];exact hz,_,r1.append r2,W5 _ _,λo q=>by rw [Px _ rfl] at q;cases q;rfl⟩
end
noncomputable def xT (n:Nat) (i:Int):Option Nat:=if 0<=i then (if i < n then some i.toNat else none) else if -(n:Int)<=i then some (i + n).toNat else none
noncomputable def lV {α:Type}(xs:List α) (i:Int):Option α:=(xT xs.length i).bind λj=>xs[j]?
theorem Gs (h:xT n i=some j):seqIndex? i n=some j/\j < n/\-(n:Int)<=i/\i < n:=by
 unfold xT at h;by_cases h0:0<=i
 ·rw [if_pos h0] at h;by_cases h1:i < n
  ·rw [if_pos h1] at h;have e:i.toNat=j:=P7 h;exact ⟨by rw [seqIndex_of h0 h1,e],by omega,by omega,h1⟩
  ·rw [if_neg h1] at h;cases h
 ·rw [if_neg h0] at h;by_cases h1:-(n:Int)<=i
  ·rw [if_pos h1] at h;have e:(i + n).toNat=j:=P7 h;exact ⟨by rw [seqIndex_neg (by omega) h1,e],by omega,h1,by omega⟩
  ·rw [if_neg h1] at h;cases h
theorem ud {α:Type}{xs:List α}{i:Int}{v:α}(h:lV xs i=some v):∃j,seqIndex? i xs.length=some j/\xs[j]?=some v/\j < xs.length/\-(xs.length:Int)<=i/\i < xs.length:=by
 unfold lV at h;cases e:xT xs.length i with
 | none=>rw [e] at h;cases h
 | some j=>
  rw [e] at h;obtain ⟨h1,h2,h3,h4⟩:=Gs e;exact ⟨j,h1,h,h2,h3,h4⟩
noncomputable def pR (b:Qq):Prop:=∀o i,subscripted b false o i=operate [o,i] (Wf o i)
noncomputable def qp (X:Cx) (r:R2):Prop:=
 ∀(value slice:Qq) (O6:List (PK×Obj)) (s:Pk) (σ:St) (H:Hp) (x y:V) (v u:Ph) (Q:VK),Inv X O6 σ H s->RelV x v->RelV y u->r x y H Q->
  subscripted slice false v u=operate [v,u] (Wf v u)->P_ (Qj X.prog X.w) X.A (XX value slice v u) (EP X O6 σ Q) X.xe s
noncomputable def MI (X:Cx) (id:String) (r:V->List V->Hp->VK->Prop):Prop:=
 ∀(O6:List (PK×Obj)) (s:Pk) (σ:St) (H:Hp) (x:V) (xs:List V) (v:Ph) (us:List Ph) (Q:VK),Inv X O6 σ H s->RelV x v->Vals xs us->r x xs H Q->
  P_ (Qj X.prog X.w) X.A (call (.builtin id) (v::us)) (EP X O6 σ Q) X.xe s
section
variable {X:Cx}{a b:Qq}{ta tb:TE}{pos:Pos}
theorem qp.or {r r':R2}(h:qp X r) (h':qp X r'):qp X (λx y H Q=>r x y H Q\/r' x y H Q):=by
 intro value slice O6 s σ H x y v u Q I rx ry q hs;rcases q with q | q
 ·exact h value slice O6 s σ H x y v u Q I rx ry q hs
 ·exact h' value slice O6 s σ H x y v u Q I rx ry q hs
theorem Ff (hr:qp X r) (ha:PE X a ta) (hb:PE X b tb) (hs:pR b):PE X (.Subscript a b pos) (CU r ta tb):=by intro O6 s σ H Q I h;exact Xx (Ds ha hb I h λv u s2 x y H2 I2 rx ry q=>hr a b O6 s2 σ H2 x y v u Q I2 rx ry q (hs _ _))
noncomputable def JW (K:Pe):R2:=λx y H Q=>∃p xs i v,x=.ref p/\y=.int i/\cX K H p xs/\lV xs i=some v/\Q v H
noncomputable def JY (K:Pe):R2:=λx y H Q=>∃p xs i v,x=.ref p/\y=.int i/\dF K H p xs/\lV xs i=some v/\Q v H
noncomputable def JX:R2:=λx y H Q=>∃z i c,x=.str z/\y=.int i/\z.length<=sizeLine/\lV z.cps.toList i=some c/\Q (.str ⟨#[c]⟩) H
theorem Gv:qp X (JW X.K):=by
 intro value slice O6 s σ H x y v u Q I rx ry h hs;obtain ⟨p,xs,i,z,rfl,rfl,hq,he,q⟩:=h;cases rx;obtain ⟨t,rfl⟩:=ry;obtain ⟨O8,r,pl,hz⟩:=I.list hq;obtain ⟨j,h1,h2,h3,h4,h5⟩:=ud he;obtain ⟨w,ew,rw'⟩:=r.get h2;have hl:=r.length;have hn:=mq;have fin:EP X O6 σ Q w s:=⟨z,H,I,rw',q⟩;by_cases h0:0<=i
 ·have hj:i.toNat=j:=by rw [seqIndex_of h0 h5] at h1;exact P7 h1
  exact item_listR pl.isList h0 (by omega) (by rw [hj];simpa using ew) fin hs
 ·have hj:(i + (O8.toArray.size:Int)).toNat=j:=by rw [seqIndex_neg (by omega) h4] at h1;rw [PZ,<-hl];exact P7 h1
  exact U6 (x:=w) pl.isList.typeIs UE.lookup
   (wpAny_getItem_list_neg (Q:=λr s'=>r=w/\EP X O6 σ Q r s') pl.isList (by omega) (by rw [PZ] <;> omega) (by omega) (by rw [hj];simpa using ew) ⟨rfl,fin⟩) hs
theorem BW:qp X (JY X.K):=by
 intro value slice O6 s σ H x y v u Q I rx ry h hs;obtain ⟨p,xs,i,z,rfl,rfl,hq,he,q⟩:=h;cases rx;obtain ⟨t,rfl⟩:=ry;obtain ⟨O8,r,pl,hz⟩:=I.tuple hq;obtain ⟨j,h1,h2,h3,h4,h5⟩:=ud he;obtain ⟨w,ew,rw'⟩:=r.get h2;have hl:=r.length;have hn:=mq;have fin:EP X O6 σ Q w s:=⟨z,H,I,rw',q⟩;exact U6 (x:=w) pl.typeIs slot_tuple_getitem.lookup
  (getItem_tuple (j:=j) (Q:=λr s'=>r=w/\EP X O6 σ Q r s') pl (by omega) (by omega) (by rw [PZ,<-hl];exact h1) (by simpa using ew) ⟨rfl,fin⟩) hs
theorem Jd:qp X JX:=by
 intro value slice O6 s σ H x y v u Q I rx ry h hs;obtain ⟨z,i,c,rfl,rfl,hz,he,q⟩:=h;obtain ⟨t,rfl⟩:=rx;obtain ⟨t',rfl⟩:=ry;obtain ⟨j,h1,h2,h3,h4,h5⟩:=ud he;have hl:z.cps.toList.length=z.length:=by simp [T6]
 rw [hl] at h1 h4 h5;have hn:=mq;exact YK (SE s z t) slot_str_getitem.lookup (getItem_str (c:=c) (by
  have e1:decide (i < -(2 ^ 63:Int))=false:=decide_eq_false (by omega);have e2:decide (i ≥ 2 ^ 63)=false:=decide_eq_false (by omega);rw [e1,e2,XY]) (by rw [h1];simpa using h2) ⟨.str ⟨#[c]⟩,H,I.tok _,⟨_,rfl⟩,q⟩) hs
noncomputable def MS (K:Pe):R2:=λx y H Q=>JW K x y H Q\/JY K x y H Q\/JX x y H Q
theorem Jb:qp X (MS X.K):=Gv.or (BW.or Jd)
theorem Inv.lst {H:Hp}{s:Pk}{xs:List V}(I:Inv X O6 σ H s) (h:H p=some (.lst xs)):
  ∃(O8:List Ph) (n:Nat),Vals xs O8/\s.heap.get? p=some {cls:=.type "list",data:=.seq O8.toArray n}/\xs.length<=sizeLine:=by obtain ⟨z,O8,n,r,e⟩:=I.hok p _ h;exact ⟨O8,n,r,e,z⟩
theorem yN (lo hi:Option Int) (n:Nat):(Sv lo hi none n).1=((HT.bM n 0 lo:Nat):Int)/\(Sv lo hi none n).2.1=((HT.bM n n hi:Nat):Int)/\(Sv lo hi none n).2.2=1:=by
 refine ⟨?_,?_,rfl⟩
 ·cases lo with
  | none=>simp [Sv,HT.bM]
  | some i=>
   simp only [Sv,HT.bM,WI,show (1:Int) > 0 by decide,if_true];by_cases h:i < 0
   ·simp only [h,if_true] <;> omega
   ·simp only [h,if_false] <;> omega
 ·cases hi with
  | none=>simp [Sv,HT.bM]
  | some i=>
   simp only [Sv,HT.bM,WI,show (1:Int) > 0 by decide,if_true];by_cases h:i < 0
   ·simp only [h,if_true] <;> omega
   ·simp only [h,if_false] <;> omega
theorem vX (O8:List Ph) (lo hi:Option Int):W6 O8.toArray lo hi none=((O8.drop (HT.bM O8.length 0 lo)).take (HT.bM O8.length O8.length hi - HT.bM O8.length 0 lo)).toArray:=by obtain ⟨h1,h2,h3⟩:=yN lo hi O8.toArray.size;unfold W6;rw [h1,h2,h3];simp only [sliceRange_one,pick_run,PZ] <;> rfl
noncomputable def Mp (K:Pe):V->Option Int->Option Int->Hp->VK->Prop:=λx lo hi H Q=>∃a xs,x=.ref a/\cX K H a xs/\∀p,H p=none->Q (.ref p) (upd H p (.lst (lF xs lo hi)))
theorem Hw:qA X (Mp X.K):=by intro O6 s σ H x v vl vu lo hi sl Q I rx hs pl pu h;obtain ⟨a,xs,rfl,hx,q⟩:=h;cases rx;obtain ⟨O8,r,ht,hz⟩:=I.list hx;have hlen:=r.length;refine ⟨"list",_,UE.lookup,ht.isList.typeIs,?_⟩;refine UG ht.isList hs pl pu .none (by simp) ?_ (by rw [PZ] <;> omega);rw [vX,<-hlen];refine ⟨.ref s.heap.objs.size,_,I.laid (t':=s.toks) (o:=.lst (lF xs lo hi)) (λb ob q=>Pq _ q) (PJ _) ?_,rfl,q _ (I.hok.fresh (PJ _))⟩;exact ⟨P6 (qD xs lo hi) hz,_,0,(r.drop (HT.bM xs.length 0 lo)).take (HT.bM xs.length xs.length hi - HT.bM xs.length 0 lo),Px _ rfl⟩
noncomputable def sd:V->Bool
 | .non=>true
 | .bl _=>true
 | .int _=>true
 | .str _=>true
 | _=>false
noncomputable def IL:V->V->Bool
 | .non,.non=>true
 | .bl a,.bl b=>a == b
 | .bl a,.int b=>(if a then 1 else 0) == b
 | .int a,.bl b=>a == (if b then 1 else 0)
 | .int a,.int b=>a == b
 | .str a,.str b=>a == b
 | _,_=>false
theorem IK (ry:RelV y u) (rx:RelV x v) (fy:sd y=true) (fx:sd x=true):R_ A s u v (IL y x):=by
 cases y with
 | non=>
  cases ry;cases x with
  | non=>cases rx;exact Vh _
  | bl b=>cases rx;exact Yl b
  | int b=>obtain ⟨t,rfl⟩:=rx;exact Yu b t
  | str b=>obtain ⟨t,rfl⟩:=rx;exact Yv b t
  | _=>exact absurd (show false=true from fx) Qu
 | bl a=>
  cases ry;cases x with
  | non=>cases rx;exact Ym a
  | bl b=>cases rx;exact Yn a b
  | int b=>obtain ⟨t,rfl⟩:=rx;exact Yw a b t
  | str b=>obtain ⟨t,rfl⟩:=rx;exact Yx a b t
  | _=>exact absurd (show false=true from fx) Qu
 | int a=>
  obtain ⟨t',rfl⟩:=ry;cases x with
  | non=>cases rx;exact Yy a t'
  | bl b=>cases rx;exact Yz a t' b
  | int b=>obtain ⟨t,rfl⟩:=rx;exact VO a t' b t
  | str b=>obtain ⟨t,rfl⟩:=rx;exact VH a t' b t
  | _=>exact absurd (show false=true from fx) Qu
 | str a=>
  obtain ⟨t',rfl⟩:=ry;cases x with
  | non=>cases rx;exact YA a t'
  | bl b=>cases rx;exact YB a t' b
  | int b=>obtain ⟨t,rfl⟩:=rx;exact VI a t' b t
  | str b=>obtain ⟨t,rfl⟩:=rx;exact YL a t' b t
  | _=>exact absurd (show false=true from fx) Qu
 | _=>exact absurd (show false=true from fy) Qu
theorem xu:dj X (.builtin "len") (λxs H Q=>∃p ys,xs=[.ref p]/\(cX X.K H p ys\/dF X.K H p ys)/\Q (.int ys.length) H):=by
 intro O6 s σ H xs us Q I r h;obtain ⟨p,ys,rfl,hq,q⟩:=h;obtain ⟨u,rfl,rx⟩:=vals1 r;cases rx;have hn:=mq;rcases hq with hq | hq
 ·obtain ⟨O8,r',pl,hz⟩:=I.list hq;have hlen:=r'.length;exact Calls.call_len_list pl.isList (by simp only [PZ] <;> omega) ⟨.int ys.length,H,I.tok _,⟨s.toks + 1,by rw [PZ,hlen]⟩,q⟩
 ·obtain ⟨O8,r',pl,hz⟩:=I.tuple hq;have hlen:=r'.length;exact len_tuple pl (by simp only [PZ] <;> omega) ⟨.int ys.length,H,I.tok _,⟨s.toks + 1,by rw [PZ,hlen]⟩,q⟩
theorem xw:dj X (.builtin "len") (λxs H Q=>∃z,xs=[.str z]/\z.length<=sizeLine/\Q (.int z.length) H):=by intro O6 s σ H xs us Q I r h;obtain ⟨z,rfl,hz,q⟩:=h;obtain ⟨u,rfl,t,rfl⟩:=vals1 r;have hn:=mq;exact len_str (by omega) ⟨.int z.length,H,I.tok _,⟨_,rfl⟩,q⟩
theorem dj.or {r r':List V->Hp->VK->Prop}(h:dj X f r) (h':dj X f r'):dj X f (λxs H Q=>r xs H Q\/r' xs H Q):=by
 intro O6 s σ H xs us Q I rs q;rcases q with q | q
 ·exact h O6 s σ H xs us Q I rs q
 ·exact h' O6 s σ H xs us Q I rs q
theorem vL:dj X (.type "tuple") (λxs H Q=>∃p ys,xs=[.ref p]/\((cX X.K H p ys/\∀l,H l=none->Q (.ref l) (upd H l (.tup ys)))\/(dF X.K H p ys/\Q (.ref p) H))):=by
 intro O6 s σ H xs us Q I r h;obtain ⟨p,ys,rfl,h⟩:=h;obtain ⟨u,rfl,rx⟩:=vals1 r;cases rx;rcases h with ⟨hq,q⟩ | ⟨hq,q⟩
 ·obtain ⟨O8,r',pl,hz⟩:=I.list hq;have hlen:=r'.length;refine call_tuple_list pl.isList (λh' kp=>?_) (by simp only [PZ] <;> omega);have I1:Inv X O6 σ H {s with heap:=h'}:=I.kept (t':=s.toks) kp;have I2:Inv X O6 σ (upd H h'.objs.size (.tup ys)) {s with heap:=h'.push {cls:=.type "tuple",data:=.seq O8.toArray}}:=
   I1.laid (t':=s.toks) (λb o e=>Pq _ e) (PJ _) (show dX X.prog X.w _ _ _ (.tup ys) from ⟨hz,O8,r',W5 _ _,λo q=>by rw [Px _ rfl] at q;cases q;rfl⟩)
  exact ⟨.ref h'.objs.size,_,I2,rfl,q _ (I1.hok.fresh (PJ _))⟩
 ·obtain ⟨O8,r',pl,hz⟩:=I.tuple hq;exact call_tuple_same pl ⟨.ref p,H,I,rfl,q⟩
noncomputable def LW (K:Pe) (T:String) (x:V) (H:Hp):Prop:=match x with
 | .str _=>T="str"
 | .int _=>T="int"
 | .ref p=>(T="list"/\∃xs,cX K H p xs)\/(T="tuple"/\∃o,K.lookup p=some o/\o.cls=.type "tuple"/\o.dict=none)\/
   (T="dict"/\((∃Pd,H p=some (.dK Pd))\/∃Pd,H p=some (.dT Pd)))\/(T="set"/\∃S n,H p=some (.set S n))
 | _=>False
theorem Ks {H:Hp}{s:Pk}(I:Inv X O6 σ H s) (r:RelV x v) (ty:LW X.K T x H):
  s.TypeIs v T/\∀a,v=.ref a->∃ob,s.heap.get? a=some ob/\ob.dict=none:=by
 cases x with
 | str z=>
  obtain ⟨t,rfl⟩:=r;cases (show T="str" from ty);exact ⟨SE s z t,λ_ e=>nomatch e⟩
 | int i=>
  obtain ⟨t,rfl⟩:=r;cases (show T="int" from ty);exact ⟨typeIs_int s i t,λ_ e=>nomatch e⟩
 | ref p=>
  cases r;rcases ty with ⟨rfl,xs,hq⟩ | ⟨rfl,o,hk,hc,hd⟩ | ⟨rfl,hk⟩ | ⟨rfl,S,n,hk⟩
  ·obtain ⟨O8,_,pl,_⟩:=I.list hq;refine ⟨pl.isList.typeIs,λa e=>?_⟩;cases e;obtain ⟨o,n,e,c,hd,_⟩:=pl;exact ⟨o,e,hd⟩
  ·refine ⟨⟨o,I.kIn p o hk,hc⟩,λa e=>?_⟩;cases e;exact ⟨o,I.kIn _ o hk,hd⟩
  ·have z:∃o,s.heap.get? p=some o/\o.ExactDict:=by
    rcases hk with ⟨Pd,hk⟩ | ⟨Pd,hk⟩
    ·obtain ⟨_,_,_,_,o,_,_,e,ex,_⟩:=I.hok p _ hk;exact ⟨o,e,ex⟩
    ·obtain ⟨_,_,_,_,o,_,_,e,ex,_⟩:=I.hok p _ hk;exact ⟨o,e,ex⟩
   obtain ⟨o,e,ex⟩:=z;refine ⟨⟨o,e,ex.1⟩,λa e2=>?_⟩;cases e2;exact ⟨o,e,ex.2.1⟩
  ·obtain ⟨o,_,_,_,e,ex,_⟩:=I.hok p _ hk;refine ⟨⟨o,e,ex.1⟩,λa e2=>?_⟩;cases e2;exact ⟨o,e,ex.2.1⟩
 | _=>exact RX ty
noncomputable def MY (K:Pe) (T:String) (r:V->List V->Hp->VK->Prop) (to:TE) (t:TA):TE:=λσ H Q=>to σ H λx H1=>LW K T x H1/\t σ H1 λxs H2=>r x xs H2 Q
variable {o e:Qq}{es:List Qq}{to:TE}{t:TA}{name:Str}{apos cpos:Pos}{T id:String}{r:V->List V->Hp->VK->Prop}
theorem A2 (pa:PlainAttrs T) (slot:Slot T name id) (hty:typeOf (.builtin id)=pure (.type "method_descriptor")) (hm:MI X id r) (ho:PE X o to) (ha:PA X (e::es) t)
  (hbase:autoParam (R1 o name X.env (eval o X.env)=eval o X.env) zA._auto_1)
  (hfew:autoParam (((Ra cpos (Po (e::es) X.env)).all (λx=>!x.1) && (XZ cpos (VB [] X.env)).all (λx=>x.1.isSome)
   && decide ((e::es).length + ([]:List VC).length + (if ([]:List VC).isEmpty then 0 else 1) < 30))=true) zA._auto_1)
  (hline:autoParam ((apos.endLine == cpos.line)=true) zA._auto_1) (hs:autoParam (Po (e::es) X.env=(false,eval e X.env)::Po es X.env) zA._auto_1) (hplain:autoParam ((Ra cpos (Po es X.env)).any (·.1)=false) zA._auto_1):
  PE X (.Call (.Attribute o name apos) (e::es) [] cpos) (MY X.K T r to t):=by intro O6 s σ H Q I h;refine wpAny_Call_method_late hbase hfew hline rfl (bT (ho O6 s σ H _ I h) λv s1 ⟨x,H1,I1,r1,ty,q1⟩=>?_);obtain ⟨h1,h2⟩:=Ks I1 r1 ty;refine ⟨T,id,pa,slot,hty,h1,h2,?_⟩;have hA:=ha cpos O6 s1 σ H1 _ I1 q1;rw [hs] at hA ⊢;refine Calls.callWith_builtin (by show (false || (Ra cpos (Po es X.env)).any (·.1))=false;rw [hplain] <;> rfl) (Calls.evalArgs_plain ?_);exact bT hA λus s2 ⟨vs,H2,I2,r2,q2⟩=>hm O6 s2 σ H2 x vs v us Q I2 r1 r2 q2
end
noncomputable def Ii (X:Cx) (id:String) (r:V->List V->Hp->VK->Prop):Prop:=
 ∀(O6:List (PK×Obj)) (s:Pk) (σ:St) (H:Hp) (x:V) (xs:List V) (v:Ph) (us:List Ph) (Q:VK),Inv X O6 σ H s->RelV x v->Vals xs us->r x xs H Q->
  P_ (Qj X.prog X.w) X.A (call (.builtin id) (v::us)) (EP X O6 σ Q) X.xe s
theorem Vals.one:∀{x:V}{us:List Ph},Vals [x] us->∃u,us=[u]/\RelV x u
 | _,_,.cons r .nil=>⟨_,rfl,r⟩
theorem Vals.reverse {xs:List V}{us:List Ph}(h:Vals xs us):Vals xs.reverse us.reverse:=by
 induction h with
 | nil=>exact .nil
 | cons r t ih=>rw [Tu,Tu];exact Vals.append ih (.cons r .nil)
section
variable {X:Cx}{O6:List (PK×Obj)}{σ:St}{H:Hp}{s:Pk}{l b:PK}{xs ys zs:List V}
theorem Inv.lset {O8 its':List Ph}{f:Array Ph->Array Ph}(I:Inv X O6 σ H s) (hH:H l=some (.lst xs))
 (e:s.heap.get? l=some {cls:=.type "list",data:=.seq O8.toArray n}) (hf:f O8.toArray=its'.toArray) (hv:Vals ys its') (hz:ys.length<=sizeLine):
  Inv X O6 σ (upd H l (.lst ys)) {s with heap:=s.heap.update l (Xy f),toks:=t'}:=by have q:=YY e f;rw [hf] at q;refine I.write (x:=l) (e:=l) (by rw [hH];exact trivial) (.inl rfl) (λb' u hb hu=>(Rh s.heap (Xy f) (QC hb)).trans hu) ⟨_,q⟩ ?_;exact ⟨hz,its',_,hv,q⟩
theorem Inv.lnew {O8:List Ph}(I:Inv X O6 σ H s) (hv:Vals ys O8) (hz:ys.length<=sizeLine):
  Inv X O6 σ (upd H s.heap.objs.size (.lst ys)) {s with heap:=s.heap.push {cls:=.type "list",data:=.seq O8.toArray},toks:=t'}:=
 I.laid (λ_ _ q=>Pq _ q) (PJ _) ⟨hz,O8,0,hv,Px _ rfl⟩
theorem Inv.fresh (I:Inv X O6 σ H s):H s.heap.objs.size=none:=I.hok.fresh (PJ _)
theorem Inv.lstM (I:Inv X O6 σ H s) (hH:H l=some (.lst xs)):xs.length<=sizeLine/\∃(O8:List Ph) (n:Nat),Vals xs O8/\xs.length=O8.length/\s.heap.get? l=some {cls:=.type "list",data:=.seq O8.toArray n}:=by obtain ⟨z,O8,n,r,e⟩:=I.hok l _ hH;exact ⟨z,O8,n,r,r.length,e⟩
theorem yk (h:n<=sizeLine):RC n=false:=by unfold RC;exact decide_eq_false (by omega)
end
section
variable {X:Cx}
noncomputable def Hj:V->List V->Hp->VK->Prop:=λx vs H Q=>∃l xs y,x=.ref l/\vs=[y]/\H l=some (.lst xs)/\xs.length < sizeLine/\Q .non (upd H l (.lst (xs++[y])))
theorem o_:Ii X "list.append" Hj:=by intro O6 s σ H x vs v us Q I rx rv h;obtain ⟨l,xs,y,rfl,rfl,hH,hz,q⟩:=h;cases rx;obtain ⟨u,rfl,ru⟩:=rv.one;obtain ⟨z,O8,n,r,hl,e⟩:=I.lstM hH;refine Xz F.slot_list_append ⟨_,e,rfl⟩ F.entry_list_append (F.args_list_append_2 _ _) (PySem.list_append l O8.toArray n u (by rw [PZ];omega)) ⟨e,?_⟩;refine ⟨.non,_,I.lset (its':=O8++[u]) hH e (by simp) (r.append (.cons ru .nil)) ?_,rfl,q⟩;rw [Pu,List.length_singleton];omega
noncomputable def Hl:V->List V->Hp->VK->Prop:=λx vs H Q=>∃l b xs zs,x=.ref l/\vs=[.ref b]/\H l=some (.lst xs)/\H b=some (.lst zs)/\xs.length + zs.length<=sizeLine/\Q .non (upd H l (.lst (xs++zs)))
theorem LO:Ii X "list.extend" Hl:=by
 intro O6 s σ H x vs v us Q I rx rv h;obtain ⟨l,b,xs,zs,rfl,rfl,hH,hB,hz,q⟩:=h;cases rx;obtain ⟨u,rfl,ru⟩:=rv.one;cases ru;obtain ⟨z,O8,n,r,hl,e⟩:=I.lstM hH;obtain ⟨z2,its2,n2,r2,hl2,e2⟩:=I.lstM hB;have hsz:O8.toArray.size + its2.toArray.size<=sizeLine:=by rw [PZ,PZ];omega
 have NZ:¬(!O8.toArray.isEmpty && RC (O8.toArray.size + its2.toArray.size))=true:=by rw [yk hsz,TH];exact Qu
 refine Xz VY ⟨_,e,rfl⟩ VD (Vq _ _)
  (AutoSeq1.list_extend_list_list_0 l O8.toArray n b its2.toArray n2 NZ (by rw [PZ];omega) (by omega)) ⟨e,e2,?_⟩
 refine ⟨.non,_,I.lset (its':=O8++its2) hH e (by simp) (r.append r2) ?_,rfl,q⟩;rw [Pu];omega
noncomputable def Mk:R2:=λx y H Q=>∃l b xs zs,x=.ref l/\y=.ref b/\H l=some (.lst xs)/\H b=some (.lst zs)/\xs.length + zs.length<=sizeLine/\∀p,H p=none->Q (.ref p) (upd H p (.lst (xs++zs)))
theorem B9:dD X (SA .Add) Mk:=by
 intro O6 s σ H x y v u Q I rx ry h;obtain ⟨l,b,xs,zs,rfl,rfl,hH,hB,hz,q⟩:=h;cases rx;cases ry;obtain ⟨z,O8,n,r,hl,e⟩:=I.lstM hH;obtain ⟨z2,its2,n2,r2,hl2,e2⟩:=I.lstM hB;refine PySem.P.add_list e e2 ?_ (by rw [PZ,PZ];omega);have ea:O8.toArray++its2.toArray=(O8++its2).toArray:=by simp
 rw [ea];exact ⟨.ref _,_,I.lnew (t':=s.toks) (r.append r2) (by rw [Pu];omega),rfl,q _ I.fresh⟩
end
end L2
namespace Att
open PySem PySem.W PySem.Calls PyProof.Rows
theorem sJ:∀(ns:List Int) (vs:List Ph),WellAll P h vs (ns.map Y0)->Tt vs ns:=by
 intro ns
 induction ns with
 | nil=>
  intro vs w;rw [R0] at w;cases w;exact .nil
 | cons n ns ih=>
  intro vs w;rw [Qh] at w;cases w with
  | cons a b=>
   cases a;exact .cons _ _ (ih _ b)
theorem CI {l:OpenLaw}(hn:l.most=some n){h:QV}
 (hpre:l.row.toRowW.claim.pre args=true) (hwl:WellAll P h vals args):
  ∃a vs ns,vals=[RG a]/\args=[WData.list (ns.map Y0)]/\h.get? a=some {cls:=.type "list",data:=.seq vs.toArray}/\Tt vs ns/\ns.length<=n:=by
 have hsh:WShape.hasAll [] args [.list .int]=true:=(pre_splitW hpre).1;have hc:l.pre.holds [] {args:=args}=true:=(pre_splitW hpre).2;obtain ⟨d,r,rfl,h1,h2⟩:=hasAllW_cons hsh;obtain rfl:=hasAllW_nil h2;obtain ⟨xs,rfl,h3⟩:=hasW_list h1;obtain ⟨ns,rfl⟩:=items_int h3;have hlen:ns.length<=n:=by
  unfold OpenLaw.pre at hc;have h4:(WTm.not (.lt (.lit (.int (n:Int))) (.len (.arg 0)))).holds [] {args:=[.list (ns.map .int)]}=true:=by have h4:=(holds_andW hc).1;rw [hn] at h4;exact h4
  have h5:=condW_of h4 (w_not (w_lt w_lit (w_len_list (w_arg rfl))));rw [Pj] at h5;refine WJ λq=>?_;have q':(n:Int) < ((ns.length:Nat):Int):=by omega
  first
   | (rw [decide_eq_true q'] at h5;exact absurd h5 (by decide))
   | (simp at h5;omega)
 cases hwl with
 | cons w1 w2=>
  cases w2;cases w1 with
  | list ho hall=>exact ⟨_,_,ns,rfl,rfl,ho,sJ ns _ hall,hlen⟩
theorem Cq (l:OpenLaw) (args:List WData):l.row.toRowW.claim.post args (.bool true) args=true:=
 postW_of (r:=l.row.toRowW) (X:=(true == true))
  (show YR [] (.bool true) .bool=true by first | rfl | decide | simp [YR,WShape.arms,WShape.armsAll])
  (show (WTm.eq .res (.lit (.bool true))).value [] {args:=args,res:=some (.bool true),after:=args}=some (.bool (true == true)) from w_eq_bool (w_res rfl) w_lit) rfl
theorem y_ {l:OpenLaw}{XP:(Str->Option Ph)->QV->Prop}{YP:Qn->QV->Prop}{d:DefRec}
 (hn:l.most=some n) (hdf:d.params.defaults=[])
 (call:∀(w:Qn) (s₀ s₁:Pk) (mg mb:Str->Option Ph) (fa:PK) (o:Obj) (pm cd doc:Ph) (a:PK) (vs:List Ph) (ns:List Int),
 Ground q loose [] XP w s₀ mg mb s₁.heap->YP w s₁.heap->
 s₁.heap.get? fa=some o->o.data=.func (docDef d.name d.params d.body d.scope pm cd doc)->s₁.heap.CodeRec cd d.name->mg d.name=some (.ref fa)->
 s₁.heap.get? a=some {cls:=.type "list",data:=.seq vs.toArray}->Tt vs ns->ns.length<=n->s₁.gens=#[]->
 Uy (Qj l.prog w) Wh (.call (.ref fa) ⟨[.ref a],[]⟩) (λr s'=>r=.ok (.ret (.bool true))/\OldK s₁.heap s'.heap/\s'.os=s₁.os/\UO s'.gens) s₁):
  WalkO q loose XP YP l.row.toRowW d [] (λf vs=>XA f vs):=by intro w s₀ s₁ mg mb G Y fa o pm cd doc dV kV ho hd hcd hD hmg hg args vals as hpre hlay hrd hwl hlo;obtain rfl:dV=.none:=Dflts.none hD hdf;obtain rfl:kV=.none:=Dflts.noKw hD;obtain ⟨a,vs,ns,rfl,rfl,hobj,hints,hlen⟩:=CI hn hpre hwl;refine enter_call (TM (call w s₀ s₁ mg mb fa o pm cd doc a vs ns G Y ho (fd_plain hd) hcd hmg hobj hints hlen hg) λr s' hq=>?_);obtain ⟨rfl,h2,h3,h4⟩:=hq;exact ⟨.inl ⟨.bool true,.bool true,[],rfl,λ_=>rfl,.bool true,Cq l _,λ_=>⟨UH,λ_ hm=>(nomatch hm)⟩⟩,h2,h3,h4⟩
end Att
namespace L2
open PySem PySem.Spec PyProof.Rows
theorem vB:∀{vs:List Ph}{ns:List Int},Tt vs ns->Vals (ns.map V.int) vs
 | _,_,.nil=>.nil
 | _,_,.cons n t h=>.cons ⟨t,rfl⟩ (vB h)
noncomputable def As (H:Hp):Prop:=∀b,H b=none\/∃o xs,H b=some (.frz o (.lst xs))
theorem DO {K:Pe}{mg mb:Str->Option Ph}{sp:Sp}{s₁:Pk}{vs:List Ph}{ns:List Int}
 (KX:K.In s₁.heap) (hns:s₁.heap.Ns Pz mg) (hb:s₁.heap.Ns Wa mb) (OP:∀x:Str,x≠"__name__"->mb x=QO x) (hlim:s₁.heap.NoLimit) (hg:s₁.gens=#[])
 (ha:s₁.heap.get? a=some {cls:=.type "list",data:=.seq vs.toArray}) (hi:Tt vs ns) (hl:ns.length<=sizeLine) (hr:cH k Wh)
 (F:∀base:QV,K.In base->base.Ns Pz mg->fL P w K mg base CX k fa fd [x] sp) (hbind:∀(s:Pk) (u:Ph),W4 s fd ⟨[u],[]⟩ [(x,u)])
 (NU:∀H:Hp,As H->cX K H a (ns.map V.int)->sp [.ref a] H (λv _=>v=.bl true) λ_ _ _=>False)
 (Og:∀H e s',CX [] H s₁ (λ_ _ _=>False) e s'->False):
  Uy (Qj P w) Wh (.call (.ref fa) ⟨[.ref a],[]⟩) (λr s'=>r=.ok (.ret (.bool true))/\OldK s₁.heap s'.heap/\s'.os=s₁.os/\UO s'.gens) s₁:=by
 have rv:=vB hi;have lenV:=hi.length;have core:∀H:Hp,As H->cX K H a (ns.map V.int)->gn P w H s₁.heap->(∀b,H b≠none->b=a)->(H a≠none->K.lookup a=none)->
   Uy (Qj P w) Wh (.call (.ref fa) ⟨[.ref a],[]⟩) (λr s'=>r=.ok (.ret (.bool true))/\OldK s₁.heap s'.heap/\s'.os=s₁.os/\UO s'.gens) s₁:=by
  intro H hO hS hok hA hK;have base_of:∀{b:PK}{o:Obj},s₁.heap.get? b=some o->H b=none->(nc s₁.heap H).get? b=some o:=λe n=>DJ e n;have noA:∀{b:PK}{o:Obj}{es:Array U_}{ep:Nat},s₁.heap.get? b=some o->o.data=.dict es ep->H b=none:=fun {b o es ep} e d=>by
   cases q:H b with
   | none=>rfl
   | some u=>
    have e':b=a:=hA b (by rw [q];simp);subst e';rw [ha] at e;cases e;have d':YM vs.toArray _=Data.dict es ep:=d;cases d'
  have nsK:∀{b:PK}{m:Str->Option Ph},s₁.heap.Ns b m->(nc s₁.heap H).Ns b m:=fun {b m} ⟨o,es,ep,e,d,r⟩=>⟨o,es,ep,base_of e (noA e d),d,r⟩;have OC:K.In (nc s₁.heap H):=λb o e=>base_of (KX b o e) (by
   cases q:H b with
   | none=>rfl
   | some u=>
    have e':b=a:=hA b (by rw [q];simp);subst e';rw [hK (by rw [q];simp)] at e;cases e)
  have hM:Mod K mg (nc s₁.heap H):=⟨OC,nsK hns,⟨mb,nsK hb,OP⟩,let ⟨mc,h1,h2⟩:=hlim;⟨mc,nsK h1,h2⟩⟩;have e0:Al P w K mg (nc s₁.heap H) Wh [] s₁ H:=⟨rfl,hM,λb o e=>GD e,TN (BQ _ _),trivial,λb hb=>absurd (show b∈([]:List PK) from hb) (by simp),hok,.of_eq hg⟩;refine TM ((F _ OC (nsK hns)).run Wh [] s₁ H ⟨[.ref a],[]⟩ [.ref a] [.ref a] _ _ hr e0 (hbind s₁ (.ref a)) (.cons rfl .nil) (NU H hO hS)) λr s' h=>?_;cases r with
  | error e=>exact (Og H e s' h).elim
  | ok fl=>
   cases fl with
   | next=>exact RX h
   | brk=>exact RX h
   | cont=>exact RX h
   | ret u=>
    obtain ⟨v,H',os,bare,un,Ou,r',q⟩:=h;have q':v=.bl true:=q;subst q';obtain rfl:u=Tr true:=r';refine ⟨rfl,OldK.of_keep λb o e=>?_,os,bare⟩;cases q:H b with
    | none=>exact un.keep b o e q (by intro z;exact absurd (show b∈([]:List PK) from z) (by simp)) (by simp)
    | some u=>
     rcases hO b with z | ⟨ob,xs,z⟩
     ·rw [q] at z;cases z
     ·have z2:=un.frzs b ob _ z;obtain ⟨e1,_⟩:=hok b _ z;obtain ⟨e2,_⟩:=Ou b _ z2;rw [e] at e1;cases e1;exact e2
 cases hk:K.lookup a with
 | some o=>
  have e:=KX a o hk;rw [ha] at e;cases e;refine core (λ_=>none) (λ_=>.inl rfl) (.inr ⟨_,vs.toArray,_,hk,rfl,rfl,rfl,by rw [PZ,lenV];exact hl,by simpa using rv⟩) (λb u z=>by have z':(none:Option HO)=some u:=z;cases z') (λb z=>absurd rfl z) λz=>absurd rfl z
 | none=>
  refine core (λb=>if b=a then some (.frz {cls:=.type "list",data:=.seq vs.toArray} (.lst (ns.map V.int))) else none) (λb=>?_) (.inl (.inr ⟨{cls:=.type "list",data:=.seq vs.toArray},if_pos rfl⟩)) (λb u z=>?_) (λb z=>?_) λ_=>hk
  ·by_cases hb:b=a
   ·exact .inr ⟨_,_,if_pos hb⟩
   ·exact .inl (if_neg hb)
  ·by_cases hb:b=a
   ·have z':=(if_pos hb).symm.trans z;cases z';subst hb;exact ⟨ha,by rw [Pj];exact hl,vs,_,rv,ha⟩
   ·have z':=(if_neg hb).symm.trans z;cases z'
  ·by_cases hb:b=a
   ·exact hb
   ·exact absurd (if_neg hb) z
noncomputable abbrev M8 {K:Pe}{h:QV}(_:K.In h):Pe:=K
theorem HM {l:Vi}{XP:(Str->Option Ph)->QV->Prop}{YP:Qn->QV->Prop}{d:DefRec}{K:Xu->Pe}{CX:Qn->ow}{sp:Qn->Sp}
 (hn:l.most=some n) (hn2:n<=sizeLine) (hdf:d.params.defaults=[]) (hr:cH k Wh)
 (hY:∀(w:Qn) (h:QV),YP w h->(K w.params).In h)
 (F:∀(w:Qn) (mg:Str->Option Ph) (fa:PK) (h:QV),(K w.params).In h->h.Ns Pz mg->mg d.name=some (.ref fa)->
 ∃fd:Qi,(∀(s:Pk) (u:Ph),W4 s fd ⟨[u],[]⟩ [(x,u)])/\
 ∀base:QV,(K w.params).In base->base.Ns Pz mg->fL l.prog w (K w.params) mg base (CX w) k fa fd [x] (sp w))
 (NU:∀(w:Qn) (H:Hp) (a:PK) (ns:List Int),ns.length<=n->As H->cX (K w.params) H a (ns.map V.int)->sp w [.ref a] H (λv _=>v=.bl true) λ_ _ _=>False)
 (Og:∀(w:Qn) (H:Hp) (s:Pk) (e:Ph) (s':Pk),CX w [] H s (λ_ _ _=>False) e s'->False):
  X0 q loose XP YP l.row.toRowW d [] (λf vs=>XA f vs):=by refine Att.y_ hn hdf λw s₀ s₁ mg mb fa o pm cd doc a vs ns G Y ho hd hcd hmg hobj hints hlen hg=>?_;have KX:=hY w _ Y;obtain ⟨fd,hb,hF⟩:=F w mg fa _ KX G.T.g hmg;exact DO KX G.T.g G.T.b G.T.builtins G.T.nolimit hg hobj hints (P6 hlen hn2) hr hF hb (λH hO hS=>NU w H a ns hlen hO hS) λH e s'=>Og w H s₁ e s'
noncomputable abbrev lT:ow:=λ_ _ _ _ _ _=>False
noncomputable abbrev E0:XK:=λ_ _ _=>False
theorem Lb:Passes lT X E0:=λ_ _ _ _ _ _ _ h=>h.elim
structure gz (K:Pe) (x Pb:Str) (st:RV) (f:PK) (fd:Qi):Prop where
 ex:∃(oc:Ph) (od:Option PK) (kV doc pm:Ph) (an:Option PK) (cdv ct:Ph) (osl:Array (Option Ph)),
  fd=Q5 x Pb (d8 st) (bW st) (aQ st) .none kV doc pm an cdv ct/\K.lookup f=some ⟨oc,od,.func fd,osl⟩/\TF K cdv Pb=true
 kp:QN K (.ref f)=true
section
variable {P:PX}{w:Qn}{K:Pe}{mg:Str->Option Ph}{base:QV}
theorem gz.ok {st:RV}{N ps:List Str}{sp:Sp}(F:gz K x Pb st f fd) (S:cL N ps (aQ st)) (len:∀vs H Q E,sp vs H Q E->vs.length=ps.length)
 (hbody:∀(cdv:Ph) (A:Qx) (outer:List Env) (s:Pk) (H:Hp) (vs:List V) (Q:VK) (E:XK),cH k (A.deeper (SK Pb (aQ st) s.heap.objs.size f cdv))->sp vs H Q E->
 ∃t,iQ (lG lT P w K mg base N Pb (aQ st) f cdv A outer s H E).nox (bW st) t/\t {nx:=λ_ H'=>Q .non H',rt:=Q} (start N vs) H):fL P w K mg base lT (k + 1) f fd ps sp:=by obtain ⟨oc,od,kV,doc,pm,an,cdv,ct,osl,rfl,lk,hcd⟩:=F.ex;refine EX lk hcd S len λA outer s H vs Q E hr NU=>?_;obtain ⟨t,h,q⟩:=hbody cdv A outer s H vs Q E hr NU;exact ⟨t,h.nox,q⟩
theorem gz.binds {st:RV}{ps:List Str}(F:gz K x Pb st f fd)
 (h:∀(kV doc pm:Ph) (an:Option PK) (cdv ct:Ph) (us:List Ph),us.length=ps.length->Ur (Q5 x Pb (d8 st) (bW st) (aQ st) .none kV doc pm an cdv ct) ⟨us,[]⟩=pure (ps.zip us)):Binds K fd ps []:=by obtain ⟨oc,od,kV,doc,pm,an,cdv,ct,osl,rfl,lk,hcd⟩:=F.ex;exact .all (h kV doc pm an cdv ct)
theorem BO {st:RV}{kV doc pm cdv ct:Ph}(l:K.lookup f=some ⟨oc,od,.func (Q5 x Pb (d8 st) (bW st) (aQ st) .none kV doc pm an cdv ct),osl⟩)
 (c:TF K cdv Pb=true) (k:QN K (.ref f)=true):gz K x Pb st f (Q5 x Pb (d8 st) (bW st) (aQ st) .none kV doc pm an cdv ct):=⟨⟨oc,od,kV,doc,pm,an,cdv,ct,osl,rfl,l,c⟩,k⟩
end
theorem I_ {A B:Prop}(h:B):if false=true then A else B:=by rw [if_neg Qu];exact h
theorem Ja {A B:Prop}(h:A):if true=true then A else B:=by rw [if_pos rfl];exact h
noncomputable def aV (H H':Hp):Prop:=∀b o,H b=some o->H' b=some o
theorem aV.refl (H:Hp):aV H H:=λ_ _ h=>h
theorem aV.trans {H H1 H2:Hp}(a:aV H H1) (b:aV H1 H2):aV H H2:=λc o h=>b c o (a c o h)
theorem aV.free {H H':Hp}(e:aV H H') (h:H' l=YC):H l=YC:=by
 cases q:H l with
 | none=>rfl
 | some o=>
  rw [e l o q] at h;cases h
theorem aV.seq {K:Pe}{H H':Hp}{a:PK}{xs:List V}(e:aV H H') (h:cX K H a xs):cX K H' a xs:=by
 rcases h with (h | ⟨o,h⟩) | h
 ·exact .inl (.inl (e _ _ h))
 ·exact .inl (.inr ⟨o,e _ _ h⟩)
 ·exact .inr h
end L2
namespace DX
open PySem PySem.Spec
open Sem (wp)
noncomputable abbrev u5 (C t:PK) (dx:Option PK):Obj:={cls:=.ref C,dict:=dx,data:=.fields #[.ref t,.none,.none,.none,.bool false,.none]}
structure Made (h h':QV) (C e t:PK):Prop where
 keep:∀b o,h.get? b=some o->h'.get? b=some o
 new:h.objs.size<=e
 obj:h'.get? e=some (u5 C t none)
section
variable {prog:PX}{w:Qn}{A:Qx}{E:Ph->Pk->Prop}{s:Pk}{env:Env}
variable {nm q:Str}{C N:PK}{bs bm bmB:List Ph}{hdct:Bool}{sn:List Str}{sub:List Ph}{ab:Bool}{col:Option Bool}{dd:Option PK}{k0 k1 k2 k3 k5:Option Ph}{B Bn newId nid initId inN:String}{bmN:List Ph}
theorem vV {Q:Flow->Pk->Prop}(hbase:bm.contains (.type "BaseException")=true) (hh:A.handled=none)
 (h:P_ (Qj prog w) A x (λv s₁=>∃e t dx,v=.ref e/\s₁.heap.get? C=some (Rr nm q C N bs bm hdct sn sub ab col dd k0 k1 k2 k3 k5 newId)/\s₁.heap.get? e=some (u5 C t dx)/\E (.ref e) s₁) E s):P_ (Qj prog w) A (raiseStmt env (some x) none) Q E s:=by
 have OT:(RG C::bm).contains (.type "BaseException")=true:=by simp only [R3,hbase,Vj]
 unfold raiseStmt;refine Pf (QZ h (λv s₁ h₁=>?_) λ_ _ x=>x);obtain ⟨e,t,dx,rfl,hC,he,hE⟩:=h₁;obtain ⟨hp,g,d,tk,os⟩:=s₁
 repeat (first | with_reducible refine RM he ?_ | with_reducible refine RM hC ?_ | (with_reducible refine SV hC ?_;rw [OT]) | wp_step)
 exact wpAny_raiseNew_none hh hE
end
end DX
namespace DX
open PySem PySem.Spec
noncomputable abbrev sy (l:List Env):List PK:=l.filterMap (·.frame)
structure Ij (fs:List PK) (e:PK) (oe:Obj) (vs:Array Ph) (fl:Ph) (h h':QV):Prop where
 keep:∀b o,h.get? b=some o->b≠e->b∉fs->h'.get? b=some o
 slot:∀b o,h.get? b=some o->b≠e->∃sl,h'.get? b=some {o with slots:=sl}
 exc:∃T oT ts,h.objs.size<=T/\T≠e/\h'.get? e=some {oe with data:=.fields (vs.setIfInBounds 1 (.ref T))}/\h'.get? T=some oT/\oT.data=.fields ts/\ts[3]?=some fl
section
variable {M:W0}{A:Qx}{E:Ph->Pk->Prop}{s:Pk}
theorem AV {o:Obj}(hd:o.data=.fields vs) (f:Array Ph->Array Ph):UQ f o={o with data:=.fields (f vs)}:=by obtain ⟨c,d,dt,sl⟩:=o;obtain rfl:dt=.fields vs:=hd;rfl
theorem Dw {env:Env}{oe:Obj}{vs:Array Ph}{Q:Unit->Pk->Prop}(hfr:A.frames=some (env::outer)) (hl:s.heap.FunFrames base (env::outer)) (hf:env.frame=some L)
 (he:s.heap.get? e=some oe) (hd:oe.data=.fields vs) (hsz:1 < vs.size) (h:∀h',Ij (sy (env::outer)) e oe vs (Vf L) s.heap h'->Q () {s with heap:=h'}):
  P_ M A (do let a <-frameOf env;let pl <-entryPlaceOf L hadNext;let b <-T8 head a .none (Vf L) .none pl;setField (.ref e) 1 b) Q E s:=by
 have Oj:e∉sy (env::outer):=λhm=>by obtain ⟨_,o,ho,hnf⟩:=hl.mem hm;rw [he] at ho;exact hnf vs ((P7 ho)▸hd)
 refine Pf (wpAny_frameOf_fun hfr hl hf λh₁ hs₁=>Pf (wpAny_entryPlaceOf λpl hpl=>?_));unfold T8 newFields;refine Pf (Ro ?_ (hpl.sizeOk5 _ _ _ _ _));obtain ⟨oT,qT⟩:∃oT:Obj,oT={cls:=.type "traceback",dict:=none,data:=.fields ([head,.ref L,.none,Vf L,.none]++(if pl.isEmpty then Qe 6 RL else pl)).toArray}:=⟨_,rfl⟩;rw [<-qT];have nf:oT.isFreed=false:=by rw [qT];rfl
 have he₁:h₁.get? e=some oe:=(hs₁.2.1 e Oj).trans he;have he₂:=Pq oT he₁;refine TJ he₂ hd hsz (h _ ?_);have N5:h₁.objs.size≠e:=TL (PL he₁);have he₃:=Sw (UQ (·.setIfInBounds 1 (RG h₁.objs.size))) he₂ (TQ (Sn hd _));have up:∀b o,b≠e->h₁.get? b=some o->((h₁.push oT).update e (UQ (·.setIfInBounds 1 (RG h₁.objs.size)))).get? b=some o:=λb o NP hb=>by rw [Rh _ _ (QC NP)];exact Pq _ hb
 refine ⟨λb o hb NP OQ=>up b o NP ((hs₁.2.1 b OQ).trans hb),λb o hb NP=>?_,⟨h₁.objs.size,oT,([head,.ref L,.none,Vf L,.none]++(if pl.isEmpty then Qe 6 RL else pl)).toArray,?_,N5,by rw [he₃,AV hd],?_,by rw [qT],?_⟩⟩
 ·obtain ⟨sl,hs⟩:=hs₁.2.2 b o hb;exact ⟨sl,up b _ NP hs⟩
 ·exact TN hs₁.1.symm
 ·rw [Rh _ _ (QC N5)];exact Px h₁ nf
 ·first | (simp;done) | (rcases hpl with rfl | ⟨_,_,_,_,_,_,_,rfl⟩ <;> simp)
noncomputable def ji (e C:PK) (dx:Option PK) (T:PK) (h:QV):Prop:=
 ∃oe vs oT ts v,h.get? e=some oe/\oe.cls=.ref C/\oe.dict=dx/\oe.data=.fields vs/\vs[1]?=some (.ref T)/\T≠e/\h.get? T=some oT/\oT.data=.fields ts/\ts[3]?=some v
structure Left (fs no:List PK) (h h':QV):Prop where
 keep:∀b o,h.get? b=some o->b∉no->b∉fs->h'.get? b=some o
 slot:∀b o,h.get? b=some o->b∉no->∃sl,h'.get? b=some {o with slots:=sl}
theorem FD {e C T:PK}{dx fr:Option PK}{Q:Unit->Pk->Prop}(hy:ji e C dx T s.heap) (h:∀h',(∀b,b≠T->h'.get? b=s.heap.get? b)->ji e C dx T h'->Q () {s with heap:=h'}):P_ M A (UI (.ref e) fr) Q E s:=by obtain ⟨oe,vs,oT,ts,v,he,hc,hx,hd,h1,N5,hT,gr,h3⟩:=hy;unfold UI;refine Pf (QU he hd h1 ?_);rw [if_pos (show (RG T != RL)=true from by simp)];have l3:=(SI.mp h3).1;exact TJ hT gr l3 (h _ (λb hb=>Rh _ _ (QC hb)) ⟨oe,vs,_,_,_,(Rh _ _ N5).trans he,hc,hx,hd,h1,N5,Sw _ hT (TQ (Sn gr _)),Sn gr _,Array.getElem?_setIfInBounds_self_of_lt l3⟩)
theorem zM {base:QV}{env:Env}{outer:List Env}{L e C:PK}{dx:Option PK}{oe:Obj}{vs:Array Ph}{head:Ph}{hadNext:Bool}{Q:Unit->Pk->Prop}(hfr:A.frames=some (env::outer)) (hl:s.heap.FunFrames base (env::outer)) (hf:env.frame=some L)
  (he:s.heap.get? e=some oe) (hc:oe.cls=.ref C) (hx:oe.dict=dx) (hd:oe.data=.fields vs) (hsz:1 < vs.size) (h:∀h' T,Left (sy (env::outer)) [e] s.heap h'->s.heap.objs.size<=T->ji e C dx T h'->Q () {s with heap:=h'}):
  P_ M A (do let a <-frameOf env;let pl <-entryPlaceOf L hadNext;let b <-T8 head a .none (Vf L) .none pl;setField (.ref e) 1 b) Q E s:=by refine Dw hfr hl hf he hd hsz λh₁ ne=>?_;obtain ⟨T,oT,ts,t0,tn,e1,e2,dT,f3⟩:=ne.exc;exact h _ T ⟨λb o hb hn hfs=>ne.keep b o hb (λz=>hn (by simp [z])) hfs,λb o hb hn=>ne.slot b o hb (λz=>hn (by simp [z]))⟩ t0 ⟨_,_,_,_,_,e1,hc,hx,rfl,by simp [hsz],tn,e2,dT,f3⟩
theorem AY {base:QV}{env:Env}{outer:List Env}{L e C t:PK}{dx:Option PK}{Q:Unit->Pk->Prop}(hfr:A.frames=some (env::outer)) (hl:s.heap.FunFrames base (env::outer)) (hf:env.frame=some L) (he:s.heap.get? e=some (u5 C t dx))
  (h:∀h' T,Left (sy (env::outer)) [e] s.heap h'->s.heap.objs.size<=T->ji e C dx T h'->Q () {s with heap:=h'}):P_ M A (Sb (.ref e) env) Q E s:=by unfold Sb;simp only [hf];refine Pf (QU he rfl (x:=.none) rfl ?_);rw [if_neg (by decide)];exact zM hfr hl hf he rfl rfl rfl (by show 1 < 6;decide) h
theorem B6 {base:QV}{env:Env}{outer:List Env}{L e C T:PK}{dx:Option PK}{Q:Unit->Pk->Prop}(hfr:A.frames=some (env::outer)) (hl:s.heap.FunFrames base (env::outer)) (hf:env.frame=some L) (hy:ji e C dx T s.heap)
  (h:∀h' T',Left (sy (env::outer)) [e,T] s.heap h'->(s.heap.objs.size<=T'\/T'=T)->ji e C dx T' h'->Q () {s with heap:=h'}):P_ M A (Sb (.ref e) env) Q E s:=by
 have O0:=hy;obtain ⟨oe,vs,oT,ts,v,he,hc,hx,hd,h1,N5,hT,gr,h3⟩:=hy;unfold Sb;simp only [hf];refine Pf (QU he hd h1 ?_);rw [if_pos (show (RG T != RL)=true from by simp)];refine Pf (QU hT gr h3 ?_);by_cases hv:(v == Vf L)=true
 ·rw [if_pos hv];exact PU (h s.heap T ⟨λb o hb _ _=>hb,λb o hb _=>⟨o.slots,hb⟩⟩ (.inr rfl) O0)
 rw [if_neg hv];refine Pf (TJ hT gr (SI.mp h3).1 ?_);have other:∀b,b≠T->(s.heap.update T (UQ (·.setIfInBounds 3 RL))).get? b=s.heap.get? b:=λb hb=>Rh _ _ (QC hb);have noR:∀b o,s.heap.get? b=some o->(∀vs,o.data≠.fields vs)->b≠T:=λb o hb hnf z=>by rw [z,hT] at hb;exact hnf ts ((P7 hb)▸gr)
 refine zM hfr (hl.of_keeps λb o hb hnf=>⟨o,(other b (noR b o hb hnf)).trans hb,rfl⟩) hf ((other e (QC N5)).trans he) hc hx hd (SI.mp h1).1 λh' T' lf t0 fy=>h h' T' ⟨λb o hb hn hfs=>?_,λb o hb hn=>?_⟩ (.inl (by rw [<-Heap.size_update];exact t0)) fy
 ·have n1:b≠e:=λz=>hn (by simp [z]);have n2:b≠T:=λz=>hn (by simp [z]);exact lf.keep b o ((other b n2).trans hb) (by simp [n1]) hfs
 ·have n1:b≠e:=λz=>hn (by simp [z]);have n2:b≠T:=λz=>hn (by simp [z]);exact lf.slot b o ((other b n2).trans hb) (by simp [n1])
end
end DX
namespace DX
open PySem PySem.Spec PyProof.Rows L2
noncomputable def pQ (a C:PK) (dx:Option PK):QV->Prop:=λh=>∃oe vs,h.get? a=some oe/\oe.cls=.ref C/\oe.dict=dx/\oe.data=.fields vs
noncomputable abbrev XO (a C:PK) (dx:Option PK):HO:=.ext (pQ a C dx)
noncomputable def Fl (e C:PK) (dx:Option PK):Option PK->QV->Prop
 | none,h=>∃t,h.get? e=some (u5 C t dx)
 | some T,h=>ji e C dx T h
theorem ji.is {e C T:PK}(f:ji e C dx T h):pQ e C dx h:=by obtain ⟨oe,vs,_,_,_,h1,h2,h3,h4,_⟩:=f;exact ⟨oe,vs,h1,h2,h3,h4⟩
theorem xS {H:Hp}{a C:PK}(x:pQ a C dx h):dX P w H h a (XO a C dx):=by
 refine ⟨x,?_,λh1 h2 q k=>?_⟩
 ·obtain ⟨oe,_,h1,_⟩:=x;exact ⟨oe,h1⟩
 ·obtain ⟨oe,vs,h1,h3⟩:=q;exact ⟨oe,vs,k oe h1,h3⟩
section
variable {M:W0}{A:Qx}{E:Ph->Pk->Prop}{s:Pk}
theorem yo {base:QV}{env:Env}{outer:List Env}{L e C:PK}{dx To:Option PK}{Q:Unit->Pk->Prop}(hfr:A.frames=some (env::outer)) (hl:s.heap.FunFrames base (env::outer)) (hf:env.frame=some L) (hy:Fl e C dx To s.heap)
  (h:∀h' T',Left (sy (env::outer)) (e::To.toList) s.heap h'->(s.heap.objs.size<=T'\/T'∈To.toList)->ji e C dx T' h'->Q () {s with heap:=h'}):P_ M A (Sb (.ref e) env) Q E s:=by
 cases To with
 | none=>
  obtain ⟨t,he⟩:=hy;exact AY hfr hl hf he λh' T l t=>h h' T l (.inl t)
 | some T=>exact B6 hfr hl hf hy λh' T' l t=>h h' T' l (t.imp id λz=>by rw [z];exact P1.mpr rfl)
theorem ym {base:QV}{env:Env}{outer:List Env}{L e C:PK}{dx To:Option PK}{Q:Unit->Pk->Prop}(hfr:A.frames=some (env::outer)) (hl:s.heap.FunFrames base (env::outer)) (hf:env.frame=some L) (hy:Fl e C dx To s.heap)
  (h:∀h' T',Left (sy (env::outer)) (e::To.toList) s.heap h'->(s.heap.objs.size<=T'\/T'∈To.toList)->ji e C dx T' h'->Q () {s with heap:=h'}):P_ M A (Sb (.ref e) env) (λ_ s'=>P_ M A (UI (.ref e) none) Q E s') E s:=
 yo hfr hl hf hy λh1 T1 lf t fy=>FD fy λh2 ot fy2=>by
  have ne:∀b o,s.heap.get? b=some o->b∉e::To.toList->b≠T1:=λb o hb hn z=>t.elim (λt=>absurd (z▸PL hb) (YS.mpr t)) λt=>hn (Py _ (z▸t));exact h h2 T1 ⟨λb o hb hn hfs=>(ot b (ne b o hb hn)).trans (lf.keep b o hb hn hfs),λb o hb hn=>by
   obtain ⟨sl,q⟩:=lf.slot b o hb hn;exact ⟨sl,(ot b (ne b o hb hn)).trans q⟩⟩ t fy2
end
structure wK (P:PX) (w:Qn) (fs ex:List PK) (H:Hp) (s:Pk) (E:XK) (e C:PK) (dx To:Option PK) (H':Hp) (s':Pk):Prop where
 os:s'.os=s.os
 bare:UO s'.gens
 un:Un fs ex H H' s.heap s'.heap
 hok:gn P w H' s'.heap
 fl:Fl e C dx To s'.heap
 newE:s.heap.objs.size<=e
 newT:∀T∈To.toList,s.heap.objs.size<=T
 gv:H' e=some (XO e C dx)
 free:∀T∈To.toList,H' T=none
 wish:E (.ref e) dx H'
noncomputable def kr (P:PX) (w:Qn):ow:=λouter H s E v s'=>∃e C dx T H',v=.ref e/\wK P w (frs outer) [] H s E e C dx (some T) H' s'
theorem wK.left {P:PX}{w:Qn}{fs fr ex:List PK}{H H':Hp}{s s':Pk}{E:XK}{e C T':PK}{dx To:Option PK}{h2:QV}(f:wK P w fs ex H s E e C dx To H' s') (lf:Left fr (e::To.toList) s'.heap h2) (t0:s'.heap.objs.size<=T'\/T'∈To.toList) (fy:ji e C dx T' h2)
  (hfr:∀b∈fr,H' b=none) (hold:∀b∈fr,b∈fs\/s.heap.objs.size<=b) (hsz:s.heap.objs.size<=s'.heap.objs.size):wK P w fs ex H s E e C dx (some T') H' {s' with heap:=h2}:=by
 have old:∀b o,s.heap.get? b=some o->b∉e::To.toList:=λb o hb hm=>by
  have lt:=PL hb;rcases Pp.mp hm with z | z
  ·exact absurd (PM lt (z▸f.newE)) (Q6 _)
  ·exact absurd (PM lt (f.newT b z)) (Q6 _)
 refine ⟨f.os,f.bare,⟨λb o hb hn hf hx=>?_,λb o hb hn hf hx=>?_,f.un.free,λb o hb hx=>?_,f.un.tups,f.un.frzs,f.un.tbls⟩,λa o ha=>?_,fy,f.newE,λT hT=>?_,f.gv,λT hT=>?_,f.wish⟩
 ·refine lf.keep b o (f.un.keep b o hb hn hf hx) (old b o hb) λhm=>?_;rcases hold b hm with z | z
  ·exact hf z
  ·exact absurd (PM (PL hb) z) (Q6 _)
 ·obtain ⟨sl,q⟩:=f.un.slot b o hb hn hf hx;obtain ⟨sl2,q2⟩:=lf.slot b _ q (old b o hb);exact ⟨sl2,q2⟩
 ·obtain ⟨o',q⟩:=f.un.there b o hb hx;obtain ⟨sl2,q2⟩:=lf.slot b _ q (old b o hb);exact ⟨_,q2⟩
 ·by_cases z:a=e
  ·subst z;rw [f.gv] at ha;obtain rfl:=P7 ha;exact xS fy.is
  ·refine (f.hok a o ha).stay (λb u hb q=>?_) (λ_ q=>q) λ_ _ q=>q;have tr:H' b≠none:=by
    rcases hb with rfl | hb
    ·rw [ha];intro z;cases z
    ·rw [hb];intro z;cases z
   refine lf.keep b u q (λhm=>?_) λhm=>tr (hfr b hm);rcases Pp.mp hm with y | y
   ·rcases hb with rfl | hb
    ·exact z y
    ·rw [y,f.gv] at hb;cases hb
   ·exact tr (f.free b y)
 ·obtain rfl:T=T':=by simpa using hT
  exact t0.elim (P6 hsz) (f.newT T)
 ·obtain rfl:T=T':=by simpa using hT
  exact t0.elim f.hok.fresh (f.free T)
end DX
namespace DX
open PySem PySem.Spec PyProof.Rows
open Sem (wp)
section
variable {prog:PX}{w:Qn}{A:Qx}{E:Ph->Pk->Prop}{s:Pk}{K:Pe}{x C:PK}{ox:Obj}{od:Option Obj}{name:Str}
theorem Du {M:W0}{Q:Unit->Pk->Prop}(X:K.In s.heap) (I:SN s.heap x ox C od) (hm:R4 K C (.type "BaseException")=some true) (hq:Q () s):P_ M A (WK "BaseException.__getattribute__" ⟨[.ref x,nameV],[]⟩) Q E s:=by
 have hk:builtinKind "BaseException.__getattribute__"=some .slot:=by decide +kernel
 have NU:splitId "BaseException.__getattribute__"=some ("BaseException","__getattribute__"):=by decide +kernel
 have ha:=F.args_bexc_ga (.ref x) nameV;have L1:=I.type (M:=M);have L2:=W.looks_mroIn (M:=M) X hm;simp only [WK,hk,NU];have L:W.Looks M s.heap (isInstance (.ref x) (.type "BaseException")) true:=L1.andThen L2;refine Pf (L.here ?_);obtain ⟨h,g,d,t,os⟩:=s
 repeat (any_goals (first | assumption | wp_step))
theorem entry_class {Q:Fin->Pk->Prop}(X:K.In s.heap) (I:SN s.heap x ox C od) (hf:T9 K C od "__class__"=some (.bind (.builtin "getset_descriptor.__get__") (.builtin "object.__class__"))) (hm:R4 K C (.type "object")=some true) (h:Q (.done (.ret (.ref C))) s):
  P_ (Qj prog w) A (Vz.«object.__getattribute__» ⟨[.ref x,.str "__class__" tk],[]⟩) Q E s:=by obtain ⟨hh,g,d,t,os⟩:=s;have L0:=I.type (M:=Qj prog w);have L1:=W.looks_find (M:=Qj prog w) X I hf;refine Pf (PU (Pf (PU (Pf (L0.at (Pf (L1.at ?_)))))));show P_ _ _ (holding [_] (call _ [_,.ref x,.ref C]) >>= ret) _ _ _;exact Pf (RI (UC (W.class_get (ox:=ox) (od:=od) X I hm (PU h))))
theorem IU {tk:Tok}{fill expr:Bool}{Q:Ph->Pk->Prop}(X:K.In s.heap) (I:SN s.heap x ox C od) (hga:Q3 K (.ref C) "__getattribute__"=some (some (.builtin "BaseException.__getattribute__"))) (hgt:Q3 K (.ref C) "__getattr__"=some none)
  (h:Uy (Qj prog w) A (.call (.builtin "BaseException.__getattribute__") ⟨[.ref x,.str name tk],[]⟩) (λr s'=>match r with | .ok (.ret v)=>P_ (Qj prog w) A (handedOut v) Q E s' | _=>False) s):P_ (Qj prog w) A (getAttrBy (.ref x) (.str name tk) fill expr) Q E s:=by
 obtain ⟨hh,g,d,t,os⟩:=s;have L0:=I.type (M:=Qj prog w);have L1:=Vr (M:=Qj prog w) X hga;have L2:=Vr (M:=Qj prog w) X hgt;have NT:(VZ "BaseException.__getattribute__" == VZ "object.__getattribute__")=false:=by decide +kernel
 unfold getAttrBy;refine RI (Pf (L0.at (Pf (L1.at ?_))));dsimp only;rw [NT,TH,if_neg (by decide)];unfold getAttrByItsOwn;refine Pf (L2.at ?_);have h0:(expr && onTheHeap (VZ "BaseException.__getattribute__"))=false:=by cases expr <;> rfl
 refine Pf (UR (RI ?_));unfold callGetattribute;rw [h0,if_neg (by decide)];unfold boundAndCalled;rw [T_.ga.bind (.ref x)];refine Pf (PU (UC (TM h λr s' q=>?_)))
 match r,q with
 | .ok (.ret v),q=>exact q
theorem get_class {Q:Option Ph->Pk->Prop}(X:K.In s.heap) (I:SN s.heap x ox C od) (hga:Q3 K (.ref C) "__getattribute__"=some (some (.builtin "BaseException.__getattribute__"))) (hgt:Q3 K (.ref C) "__getattr__"=some none)
  (hm:R4 K C (.type "BaseException")=some true) (hf:T9 K C od "__class__"=some (.bind (.builtin "getset_descriptor.__get__") (.builtin "object.__class__"))) (ho:R4 K C (.type "object")=some true) (h:Q (some (.ref C)) {s with toks:=s.toks + 1}):
  P_ (Qj prog w) A (getAttr? (.ref x) "__class__") Q E s:=by obtain ⟨hp,g,d,t,os⟩:=s;unfold getAttr? getAttrBy?;refine Pf (wpAny_mkText (Pf (UR (IU (s:=⟨hp,g,d,t + 1,os⟩) X I hga hgt ?_))));refine Vs T_.ga.plain F.entry_bexc_ga (Du (s:=⟨hp,g,d,t + 1,os⟩) X I hm (entry_class (s:=⟨hp,g,d,t + 1,os⟩) X I hf ho ?_));exact PU (PU h)
end
end DX
namespace DX
open PySem PySem.Spec PyProof.Rows L2
noncomputable abbrev jQ:List Ph:=[.type "ValueError",.type "Exception",.type "BaseException",.type "object"]
noncomputable def quiet:List Str:=["__init__","__setattr__","name","letter","many","told","point","row"]
noncomputable def A9 (es:Array U_):Bool:=es.toList.all λe=>match e.key with | .str _ _=>true | _=>false
theorem E9 {K:Pe}(l:K.lookup N=some ⟨c,d,.dict es ep,sl⟩) (hk:A9 es=true){h:QV}(X:K.In h):h.Ns N (nsFind es):=by
 refine ⟨_,es,ep,X _ _ l,rfl,λe he=>?_,λ_=>rfl⟩;have:=PF.mp hk e (by simpa using he);cases q:e.key with
 | str n t=>exact ⟨n,t,rfl⟩
 | _=>rw [q] at this;cases this
structure GX (K:Pe) (P:PK):Prop where
 gt:UJ K (.builtin "object.__class__") "__get__"=some (some (.builtin "getset_descriptor.__get__"))
 tk:Vk K (.builtin "object.__class__")=some true
 lk:∃nm q N bs sn sub ab col dd k0 k1 k2 k3 k5,K.lookup P=some (Rr nm q P N bs jQ true sn sub ab col dd k0 k1 k2 k3 k5 "ValueError.__new__")/\∀h,K.In h->∃m,h.Ns N m/\∀n∈quiet,m n=none
structure XE (K:Pe) (P C:PK):Prop where
 lk:∃nm q N bs sn sub ab col dd k0 k1 k2 k3 k5,K.lookup C=some (Rr nm q C N bs (.ref P::jQ) true sn sub ab col dd k0 k1 k2 k3 k5 "ValueError.__new__")
 ga:Q3 K (.ref C) "__getattribute__"=some (some (.builtin "BaseException.__getattribute__"))
 gt:Q3 K (.ref C) "__getattr__"=some none
 cl:Q3 K (.ref C) "__class__"=some (some (.builtin "object.__class__"))
section
variable {K:Pe}{P C:PK}
theorem xE (X:XE K P C):∃cd,Rw K C=some cd/\cd.mro=.ref C::.ref P::jQ/\cd.hasDict=true/\Uz K (.ref C)=some (.type "type"):=by
 obtain ⟨nm,q,N,bs,sn,sub,ab,col,dd,k0,k1,k2,k3,k5,l⟩:=X.lk;have h1:Rw K C=some {name:=nm,bases:=bs,mro:=.ref C::.ref P::jQ,ns:=N,qualname:=q,hasDict:=true,slotNames:=sn,subclasses:=sub,abstract:=ab,collection:=col,hasDel:=false}:=by unfold Rw;rw [l]
 refine ⟨_,h1,rfl,rfl,?_⟩;show (K.lookup C).map (·.cls)=_;rw [l];rfl
theorem o9 (X:XE K P C) (b:Ph):R4 K C b=some ((RG C::.ref P::jQ).contains b):=by obtain ⟨cd,h1,h2,_⟩:=xE X;unfold R4;rw [h1,UY,h2];rfl
theorem L7 (G:GX K P):(Rw K P).isSome=true/\Uz K (.ref P)=some (.type "type"):=by
 obtain ⟨nm,q,N,bs,sn,sub,ab,col,dd,k0,k1,k2,k3,k5,l,_⟩:=G.lk;refine ⟨?_,?_⟩
 ·unfold Rw;rw [l];rfl
 ·show (K.lookup P).map (·.cls)=_;rw [l];rfl
theorem zW (X:XE K P C){D:PK}(h1:(Rw K D).isSome=true) (h2:Uz K (.ref D)=some (.type "type")):Q4 K (.ref C) (.ref D)=some (C == D || P == D):=by
 unfold Q4 UA;by_cases q:C=D
 ·subst q;simp
 ·rw [if_neg (by simpa using q)];simp only [h1,h2,V0,beq_self_eq_true,if_true];show R4 K C (.ref D)=_;rw [o9 X];have e1:(C == D)=false:=by simpa using q
  simp [e1,R3,q,jQ,eq_comm];by_cases z:P=D <;> simp [z]
theorem Gz (X:XE K P C):Q4 K (.ref C) (.type "ValueError")=some true:=by
 unfold Q4 UA;rw [if_neg (by simp)];have:Vl "ValueError"=true:=by decide +kernel
 simp only [this,if_true];show R4 K C _=_;rw [o9 X];simp
theorem zV {D:PK}(h1:(Rw K D).isSome=true) (h2:Uz K (.ref D)=some (.type "type")) (t:String) (h:t∈["NoneType","bool","int","str","tuple","list","dict"]):Q4 K (.type t) (.ref D)=some false:=by unfold Q4 UA;rw [if_neg (by simp)];simp only [h1,h2,V0,beq_self_eq_true,if_true];simp only [Pp,P9,or_false] at h;rcases h with rfl | rfl | rfl | rfl | rfl | rfl | rfl <;> rfl
theorem DN (t:String) (h:t∈["NoneType","bool","int","str","tuple","list","dict"]):Q4 K (.type t) (.type "ValueError")=some false:=by simp only [Pp,P9,or_false] at h;rcases h with rfl | rfl | rfl | rfl | rfl | rfl | rfl <;> rfl
end
theorem Jl {K:Pe}{P C:PK}(X:XE K P C){T:String}(h1:Vl T=true) (h2:jQ.contains (.type T)=false):Q4 K (.ref C) (.type T)=some false:=by unfold Q4 UA;rw [if_neg (by simp)];simp only [h1,if_true];show R4 K C _=_;rw [o9 X,R3,R3,h2];rfl
theorem Gp {K:Pe}{C:PK}{od:Option Obj}{name:Str}{a g:Ph}(hc:(Rw K C).isSome=true) (ha:Q3 K (.ref C) name=some (some a)) (hg:UJ K a "__get__"=some (some g)) (ht:Vk K a=some true):T9 K C od name=some (.bind g a):=by obtain ⟨cd,hc⟩:=Rn.mp hc;unfold T9;rw [hc,UY,ha,UY];simp [hg,ht]
theorem xX {K:Pe}{e P C:PK}(G:GX K P) (E:XE K P C):W.KitX K (.ref e) (.ref C) (λh=>∃ox od,SN h e ox C od):=by
 obtain ⟨cd,hc,hm,hd,ht⟩:=xE E;refine ⟨λM h _ ⟨ox,od,I⟩=>I.type,λM h X _=>?_,λh tp dd O8 n sl X htp=>?_,λX ⟨ox,od,I⟩ k=>?_⟩
 ·unfold Rw at hc;split at hc
  ·rename_i ho;intro A' Q' E' s' k q;unfold isType loadHead;exact Pf (wpAny_loadPart (k _ _ (X _ _ ho)) (PU q))
  ·cases hc
 ·refine UK.mpr λq=>?_;obtain rfl:C=tp:=V1 (beq_iff_eq.mp q);unfold Rw at hc;split at hc
  ·rename_i ho;have z:=(X _ _ ho).symm.trans htp;cases z
  ·cases hc
 ·exact get_class X I E.ga E.gt (by rw [o9 E];simp) (Gp (by rw [hc];rfl) E.cl G.gt G.tk) (by rw [o9 E];simp) k
end DX
namespace DL
open PySem PySem.Spec PyProof.Rows L2
inductive D where
 | non | bl (b:Bool) | int (i:Int) | str (x:Str) | tup (xs:List D) | lst (xs:List D) | emp
 | exn (cls:Str) (ns:List Str) (ds:List D)
  | dct (ks vs:List D)
mutual
noncomputable def isKey:D->Bool
 | .int _=>true
 | .tup xs=>areKeys xs
 | _=>false
noncomputable def areKeys:List D->Bool
 | []=>true
 | x::xs=>isKey x && areKeys xs
end
mutual
noncomputable def KP:D->Int
 | .int i=>hashInt i
 | .tup xs=>reduceHash (Xk (sI xs))
 | _=>0
noncomputable def sI:List D->List Int
 | []=>[]
 | x::xs=>KP x::sI xs
end
mutual
noncomputable def dep:D->Nat
 | .tup xs=>deps xs + 1
 | .lst xs=>deps xs + 1
 | .emp=>5000
 | .exn _ _ _=>5000
 | .dct _ _=>5000
 | _=>0
noncomputable def deps:List D->Nat
 | []=>0
 | x::xs=>max (dep x) (deps xs)
end
structure Ie (ks:List D):Prop where
 key:areKeys ks=true
 nd:ks.Nodup
 dp:deps ks<=8
 tp:∀k∈ks,∃xs,k=.tup xs
noncomputable def Ib (p:Int×V×V) (e:U_):Prop:=e.hash=p.1/\RelV p.2.1 e.key/\RelV p.2.2 e.val
noncomputable abbrev EV (a:PK) (ep:Nat) (Pd:List (Int×V×V)):HO:=.ext λh=>∃o es,h.get? a=some o/\o.ExactDict/\o.data=.dict es ep/\VJ Ib Pd es.toList
noncomputable def XF (J:Hp) (dx:Option PK) (ns:List Str) (vs:List V):Prop:=(dx=none/\ns=[]/\vs=[])\/∃d,dx=some d/\ns.length=vs.length/\J d=some (.xd (ns.zip vs))
theorem XF.mono {J J':Hp}(e:aV J J') (h:XF J dx ns vs):XF J' dx ns vs:=by
 rcases h with h | ⟨d,h1,h2,h3⟩
 ·exact .inl h
 ·exact .inr ⟨d,h1,h2,e _ _ h3⟩
mutual
inductive Rep (K:Pe) (J:Hp):D->V->Prop
 | non:Rep K J .non .non
 | bl (b:Bool):Rep K J (.bl b) (.bl b)
 | int (i:Int):Rep K J (.int i) (.int i)
 | str (x:Str):Rep K J (.str x) (.str x)
 | emp {a:PK}:J a=some (.dK [])->Rep K J .emp (.ref a)
 | tup {a:PK}{vs:List V}{ds:List D}:dF K J a vs->aT K J ds vs->Rep K J (.tup ds) (.ref a)
 | lst {a:PK}{vs:List V}{ds:List D}:cX K J a vs->aT K J ds vs->Rep K J (.lst ds) (.ref a)
 | exn {a C:PK}{dx:Option PK}{cls:Str}{ns:List Str}{vs:List V}{ds:List D}:J a=some (DX.XO a C dx)->PR K Pz cls=some (some (.ref C))->XF J dx ns vs->aT K J ds vs->(∃P,DX.GX K P/\DX.XE K P C)->Rep K J (.exn cls ns ds) (.ref a)
 | dct {a:PK}{ep:Nat}{ks vs:List D}{us ws:List V}:J a=some (EV a ep ((sI ks).zip (us.zip ws)))->aT K J ks us->aT K J vs ws->Ie ks->(a == T5)=false/\ks.length=vs.length->Rep K J (.dct ks vs) (.ref a)
inductive aT (K:Pe) (J:Hp):List D->List V->Prop
 | nil:aT K J [] []
 | cons {d:D}{v:V}{ds:List D}{vs:List V}:Rep K J d v->aT K J ds vs->aT K J (d::ds) (v::vs)
end
theorem cV {K:Pe}{H H':Hp}{a:PK}{xs:List V}(e:aV H H') (h:dF K H a xs):dF K H' a xs:=by
 rcases h with (h | ⟨o,h⟩) | h
 ·exact .inl (.inl (e _ _ h))
 ·exact .inl (.inr ⟨o,e _ _ h⟩)
 ·exact .inr h
mutual
theorem Rep.mono {K:Pe}{J J':Hp}(e:aV J J'):∀{d:D}{v:V},Rep K J d v->Rep K J' d v
 | _,_,.non=>.non
 | _,_,.bl b=>.bl b
 | _,_,.int i=>.int i
 | _,_,.str x=>.str x
 | _,_,.emp h=>.emp (e _ _ h)
 | _,_,.tup h hs=>.tup (cV e h) (aT.mono e hs)
 | _,_,.lst h hs=>.lst (e.seq h) (aT.mono e hs)
 | _,_,.exn h1 h2 h3 hs hx=>.exn (e _ _ h1) h2 (h3.mono e) (aT.mono e hs) hx
 | _,_,.dct h h1 h2 h3 h4=>.dct (e _ _ h) (aT.mono e h1) (aT.mono e h2) h3 h4
theorem aT.mono {K:Pe}{J J':Hp}(e:aV J J'):∀{ds:List D}{vs:List V},aT K J ds vs->aT K J' ds vs
 | _,_,.nil=>.nil
 | _,_,.cons h hs=>.cons (Rep.mono e h) (aT.mono e hs)
end
section
variable {K:Pe}{J:Hp}
theorem aT.length:∀{ds:List D}{vs:List V},aT K J ds vs->ds.length=vs.length
 | _,_,.nil=>rfl
 | _,_,.cons _ hs=>congrArg (· + 1) (aT.length hs)
theorem aT.get:∀{ds:List D}{vs:List V}{i:Nat}{d:D},aT K J ds vs->ds[i]?=some d->∃v,vs[i]?=some v/\Rep K J d v
 | _,_,_,_,.nil,e=>by simp at e
 | _,_,0,_,.cons r _,e=>by simp at e;subst e;exact ⟨_,rfl,r⟩
 | _,_,i + 1,d,.cons _ t,e=>by obtain ⟨v,h1,h2⟩:=aT.get (i:=i) (d:=d) t (by simpa using e);exact ⟨v,by simpa using h1,h2⟩
theorem aT.append:∀{ds es:List D}{vs us:List V},aT K J ds vs->aT K J es us->aT K J (ds++es) (vs++us)
 | _,_,_,_,.nil,s=>s
 | _,_,_,_,.cons r t,s=>.cons r (aT.append t s)
theorem aT.take:∀{ds:List D}{vs:List V}(n:Nat),aT K J ds vs->aT K J (ds.take n) (vs.take n)
 | _,_,0,_=>.nil
 | _,_,_ + 1,.nil=>.nil
 | _,_,n + 1,.cons r t=>.cons r (aT.take n t)
theorem aT.drop:∀{ds:List D}{vs:List V}(n:Nat),aT K J ds vs->aT K J (ds.drop n) (vs.drop n)
 | _,_,0,r=>r
 | _,_,_ + 1,.nil=>.nil
 | _,_,n + 1,.cons _ t=>aT.drop n t
end
noncomputable def ie (K:Pe) (J H:Hp) (a:PK) (ks vs:List D):Prop:=∃us ws ep,H a=some (EV a ep ((sI ks).zip (us.zip ws)))/\aT K J ks us/\aT K J vs ws/\Ie ks/\(a == T5)=false/\ks.length=vs.length
theorem ie.mono {K:Pe}{J J' H H':Hp}{a:PK}{ks vs:List D}(e:aV J J') (e':aV H H'):ie K J H a ks vs->ie K J' H' a ks vs
 | ⟨us,ws,ep,h1,h2,h3,h4⟩=>⟨us,ws,ep,e' _ _ h1,h2.mono e,h3.mono e,h4⟩
theorem ie.ne {K:Pe}{J H:Hp}{a:PK}{ks vs:List D}:ie K J H a ks vs->H a≠none
 | ⟨us,ws,ep,h1,_⟩=>by rw [h1];intro z;cases z
theorem ie.rep {K:Pe}{J H:Hp}{a:PK}{ks vs:List D}(e:aV J H):ie K J H a ks vs->Rep K H (.dct ks vs) (.ref a)
 | ⟨us,ws,ep,h1,h2,h3,h4,h5⟩=>.dct h1 (h2.mono e) (h3.mono e) h4 h5
noncomputable def NR (K:Pe) (J:Hp) (P:PK->Prop):List D->List V->Prop
 | [],vs=>vs=[]
 | x::xs,vs=>∃ds b ws us,x=.lst ds/\vs=.ref b::us/\J b=some (.lst ws)/\aT K J ds ws/\P b/\V.ref b∉us/\NR K J P xs us
theorem NR.mono {K:Pe}{J J':Hp}{P P':PK->Prop}(e:aV J J') (k:∀b,P b->P' b):∀{xs:List D}{vs:List V},NR K J P xs vs->NR K J' P' xs vs
 | [],_,h=>h
 | _::_,_,⟨ds,b,ws,us,h1,h2,h3,h4,h5,h6,h7⟩=>⟨ds,b,ws,us,h1,h2,e _ _ h3,h4.mono e,k b h5,h6,h7.mono e k⟩
theorem NR.reps {K:Pe}{J:Hp}{P:PK->Prop}:∀{xs:List D}{vs:List V},NR K J P xs vs->aT K J xs vs
 | [],_,h=>by cases h;exact .nil
 | _::_,_,⟨ds,b,ws,us,h1,h2,h3,h4,h5,h6,h7⟩=>by subst h1;subst h2;exact .cons (.lst (.inl (.inl h3)) h4) h7.reps
theorem NR.mem {K:Pe}{J:Hp}{P:PK->Prop}:∀{xs:List D}{vs:List V}{u:V},NR K J P xs vs->u∈vs->∃b ws,u=.ref b/\J b=some (.lst ws)/\P b
 | [],_,_,h,m=>by cases h;cases m
 | _::_,_,_,⟨ds,b,ws,us,h1,h2,h3,h4,h5,h6,h7⟩,m=>by
  subst h2;rcases Pp.mp m with e | e
  ·exact ⟨b,ws,e,h3,h5⟩
  ·exact h7.mem e
structure Exc where
 cls:Str
 ns:List Str
 ds:List D
inductive M (α:Type) where
 | bad | ok (a:α) | exc (x:Exc)
noncomputable def M.bind {α β:Type}:M α->(α->M β)->M β
 | .bad,_=>.bad
 | .ok a,f=>f a
 | .exc x,_=>.exc x
instance:Monad M where
 pure:=M.ok
 bind:=M.bind
@[simp] theorem aY {α β:Type}(a:α) (f:α->M β):(M.ok a >>= f)=f a:=rfl
noncomputable def cg {α:Type}(m:M α) (Q:α->Prop) (T:Exc->Prop):Prop:=match m with
 | .bad=>False
 | .ok a=>Q a
 | .exc x=>T x
theorem aH {α β:Type}{m:M α}{f:α->M β}{Q:β->Prop}{T:Exc->Prop}(h:cg (m >>= f) Q T):cg m (λa=>cg (f a) Q T) T:=by
 cases m with
 | bad=>exact h
 | ok a=>exact h
 | exc x=>exact h
theorem aB {α:Type}{m:M α}{Q Q':α->Prop}{T:Exc->Prop}(h:cg m Q T) (k:∀a,Q a->Q' a):cg m Q' T:=by
 cases m with
 | bad=>exact h
 | ok a=>exact k a h
 | exc x=>exact h
inductive Md where
 | fresh | own | bor
inductive R where
 | d (x:D) | l (m:Md) (xs:List D)
  | mo (ks vs:List D) | mb (ks vs:List D) | mf (ks vs:List D)
  | ln (xs:List D)
inductive S where
 | d (x:D) | own (xs:List D) | bor (xs:List D) | dk (ks vs:List D) | db (ks vs:List D)
  | fn (x:Str)
  | ow2 (xs:List D)
  | tn (xs:List D)
noncomputable abbrev Ev:=List (Option S)
inductive Mn where
 | inl (xs:List D) | inr (p:List D×List D) | nst (xs:List D)
noncomputable def mS:Mn->S
 | .inl xs=>.own xs
 | .inr p=>.dk p.1 p.2
 | .nst xs=>.ow2 xs
structure C where
 K:Pe
 H0:Hp
 J0:Hp
 T:Exc->Prop
structure HI (c:C) (J H:Hp):Prop where
 sub:aV J H
 ent:aV c.H0 H
 entJ:aV c.J0 J
 frz:∀a,c.H0 a≠none->c.J0 a=none->J a=none
structure Ext (J H J' H':Hp):Prop where
 h:aV H H'
 j:aV J J'
 sub:aV J' H'
 frz:∀a,H a≠none->J a=none->J' a=none
theorem aV.ne {H H':Hp}(e:aV H H') (h:H a≠none):H' a≠none:=by
 cases q:H a with
 | none=>exact absurd q h
 | some o=>rw [e a o q];intro z;cases z
theorem Ext.refl {J H:Hp}(h:aV J H):Ext J H J H:=⟨aV.refl H,aV.refl J,h,λ_ _ q=>q⟩
theorem Ext.trans {J H J1 H1 J2 H2:Hp}(a:Ext J H J1 H1) (b:Ext J1 H1 J2 H2):Ext J H J2 H2:=
 ⟨a.h.trans b.h,a.j.trans b.j,b.sub,λp h q=>b.frz p (aV.ne a.h h) (a.frz p h q)⟩
theorem HI.ext {J H J' H':Hp}(h:HI c J H) (e:Ext J H J' H'):HI c J' H':=
 ⟨e.sub,h.ent.trans e.h,h.entJ.trans e.j,λa h0 j0=>e.frz a (aV.ne h.ent h0) (h.frz a h0 j0)⟩
theorem cj {H:Hp}(h:H p=none) (o:HO):aV H (upd H p o):=λb u q=>by rw [aW (e_ q h)];exact q
theorem Ext.new {J H:Hp}(h:aV J H) (e:H p=none) (o:HO):Ext J H J (upd H p o):=
 ⟨cj e o,aV.refl J,λb u q=>cj e o b u (h b u q),λ_ _ q=>q⟩
theorem Ext.newJ {J H:Hp}(h:aV J H) (e:H p=none) (o:HO):Ext J H (upd J p o) (upd H p o):=
 ⟨cj e o,cj (h.free e) o,λb u q=>by
  by_cases hb:b=p
  ·subst hb;rw [bI] at q ⊢;exact q
  ·rw [aW hb] at q ⊢;exact h b u q,λa ha q=>by
  have:a≠p:=λz=>ha (z▸e);rw [aW this];exact q⟩
noncomputable def iK (c:C) (J H:Hp):S->V->Prop
 | .d x,v=>Rep c.K J x v
 | .own xs,v=>∃a vs,v=.ref a/\H a=some (.lst vs)/\J a=none/\c.H0 a=none/\aT c.K J xs vs
 | .bor xs,v=>∃a vs,v=.ref a/\cX c.K c.H0 a vs/\aT c.K J xs vs
 | .dk ks vs,v=>∃a,v=.ref a/\ie c.K J H a ks vs/\J a=none/\c.H0 a=none
 | .db ks vs,v=>∃a,v=.ref a/\ie c.K J c.H0 a ks vs
 | .fn x,v=>∃f,v=.ref f/\PR c.K Pz x=some (some (.ref f))
 | .ow2 xs,v=>∃a vs,v=.ref a/\H a=some (.lst vs)/\J a=none/\c.H0 a=none/\NR c.K J (λb=>c.H0 b=none/\c.J0 b=none) xs vs
 | .tn xs,v=>∃a vs,v=.ref a/\dF c.K J a vs/\NR c.K J (λb=>c.H0 b=none/\c.J0 b=none) xs vs
theorem iK.ext {c:C}{J H J' H':Hp}(e:Ext J H J' H'):∀{x:S}{v:V},iK c J H x v->iK c J' H' x v
 | .d x,v,h=>Rep.mono e.j h
 | .own xs,v,⟨a,vs,h1,h2,h3,h4,h5⟩=>⟨a,vs,h1,e.h _ _ h2,e.frz a (by rw [h2];intro z;cases z) h3,h4,aT.mono e.j h5⟩
 | .bor xs,v,⟨a,vs,h1,h2,h3⟩=>⟨a,vs,h1,h2,aT.mono e.j h3⟩
 | .dk _ _,v,⟨a,h1,h2,h3,h4⟩=>⟨a,h1,h2.mono e.j e.h,e.frz a h2.ne h3,h4⟩
 | .db _ _,v,⟨a,h1,h2⟩=>⟨a,h1,h2.mono e.j (aV.refl _)⟩
 | .fn _,v,h=>h
 | .ow2 _,v,⟨a,vs,h1,h2,h3,h4,h5⟩=>⟨a,vs,h1,e.h _ _ h2,e.frz a (by rw [h2];intro z;cases z) h3,h4,h5.mono e.j λ_ h=>h⟩
 | .tn _,v,⟨a,vs,h1,h2,h3⟩=>⟨a,vs,h1,cV e.j h2,h3.mono e.j λ_ h=>h⟩
noncomputable def lg (H:Hp) (σ:L2.St) (i:Nat):List V:=match σ[i]? with
 | some (some (.ref p))=>(match H p with
  | some (.lst vs)=>vs
  | _=>[])
 | _=>[]
theorem kO {H:Hp}(h:σ[i]?=some (some (.ref p))) (h2:H p=some (.lst vs)):lg H σ i=vs:=by
 unfold lg;rw [h];show (match H p with
  | some (.lst vs)=>vs
  | _=>[])=vs
 rw [h2]
noncomputable def wV (H:Hp) (σ:L2.St) (env:Ev):Prop:=∀(i j:Nat) (xs ys:List D),i≠j->env[i]?=some (some (.ow2 xs))->env[j]?=some (some (.ow2 ys))->∀u∈lg H σ i,u∉lg H σ j
theorem jv {H:Hp}{σ:L2.St}(h:k≠i):lg H (σ.set i v) k=lg H σ k:=by unfold lg;rw [PN (QC h)]
theorem wV.by {H H':Hp}(h:wV H σ env) (f:Nat->Nat) (hf:∀i j xs ys,i≠j->env'[i]?=some (some (.ow2 xs))->env'[j]?=some (some (.ow2 ys))->f i≠f j) (k:∀i xs,env'[i]?=some (some (.ow2 xs))->(∃xs',env[f i]?=some (some (.ow2 xs')))/\lg H' σ' i=lg H σ (f i)):wV H' σ' env':=by intro i j xs ys hij h1 h2 u hu;obtain ⟨⟨xs',k1⟩,k2⟩:=k i xs h1;obtain ⟨⟨ys',k3⟩,k4⟩:=k j ys h2;rw [k4];rw [k2] at hu;exact h (f i) (f j) xs' ys' (hf i j xs ys hij h1 h2) k1 k3 u hu
theorem wV.keep {H H':Hp}(h:wV H σ env) (k:∀i xs,env'[i]?=some (some (.ow2 xs))->(∃xs',env[i]?=some (some (.ow2 xs')))/\lg H' σ' i=lg H σ i):wV H' σ' env':=h.by id (λ_ _ _ _ h _ _=>h) k
structure SR (c:C) (J H:Hp) (σ:L2.St) (env:Ev):Prop where
 hp:HI c J H
 len:env.length=σ.length
 at_:∀(i:Nat) (x:S),env[i]?=some (some x)->∃v,σ[i]?=some (some v)/\iK c J H x v
 sep:∀(i j:Nat) (xs ys:Mn) (v:V),i≠j->env[i]?=some (some (mS xs))->env[j]?=some (some (mS ys))->σ[i]?=some (some v)->σ[j]?≠some (some v)
 sp2:wV H σ env
theorem SR.nst {c:C}{J H:Hp}(h:SR c J H σ env) (q:env[i]?=some (some (.ow2 xs))):∃p vs,σ[i]?=some (some (.ref p))/\H p=some (.lst vs)/\J p=none/\c.H0 p=none/\NR c.K J (λb=>c.H0 b=none/\c.J0 b=none) xs vs/\lg H σ i=vs:=by obtain ⟨_,h1,p,vs,rfl,h2,h3⟩:=h.at_ i _ q;exact ⟨p,vs,h1,h2,h3.1,h3.2.1,h3.2.2,kO h1 h2⟩
theorem SR.ext {J H J' H':Hp}(h:SR c J H σ env) (e:Ext J H J' H'):SR c J' H' σ env:=
 ⟨h.hp.ext e,h.len,λi x q=>let ⟨v,q1,q2⟩:=h.at_ i x q;⟨v,q1,q2.ext e⟩,h.sep,h.sp2.keep λi xs q=>⟨⟨xs,q⟩,let ⟨_,_,h1,h2,_,_,_,h3⟩:=h.nst q;h3▸kO h1 (e.h _ _ h2)⟩⟩
theorem SR.mine {c:C}{J H:Hp}{σ:L2.St}{env:Ev}(sr:SR c J H σ env){i:Nat}:∀{x:Mn},env[i]?=some (some (mS x))->∃p,σ[i]?=some (some (.ref p))/\H p≠none/\J p=none/\c.H0 p=none
 | .inl xs,h=>let ⟨_,k1,p,vs,e,k2,k3,k4,_⟩:=sr.at_ i (.own xs) h;⟨p,e▸k1,by rw [k2];exact λz=>(by cases z),k3,k4⟩
 | .inr q,h=>let ⟨_,k1,p,e,k2,k3,k4⟩:=sr.at_ i (.dk q.1 q.2) h;⟨p,e▸k1,k2.ne,k3,k4⟩
 | .nst xs,h=>let ⟨p,vs,k1,k2,k3,k4,_⟩:=sr.nst h;⟨p,k1,by rw [k2];exact λz=>(by cases z),k3,k4⟩
noncomputable def RR (c:C) (He J H:Hp):R->V->Prop
 | .d x,v=>Rep c.K J x v
 | .l .fresh xs,v=>∃a vs,v=.ref a/\H a=some (.lst vs)/\J a=none/\He a=none/\aT c.K J xs vs
 | .l .own xs,v=>∃a vs,v=.ref a/\H a=some (.lst vs)/\J a=none/\c.H0 a=none/\aT c.K J xs vs
 | .l .bor xs,v=>∃a vs,v=.ref a/\cX c.K c.H0 a vs/\aT c.K J xs vs
 | .mo ks vs,v=>∃a,v=.ref a/\ie c.K J H a ks vs/\J a=none/\c.H0 a=none
 | .mb ks vs,v=>∃a,v=.ref a/\ie c.K J c.H0 a ks vs
 | .mf ks vs,v=>∃a,v=.ref a/\ie c.K J H a ks vs/\J a=none/\He a=none
 | .ln xs,v=>∃a vs,v=.ref a/\H a=some (.lst vs)/\J a=none/\He a=none/\NR c.K J (λb=>He b=none) xs vs
theorem RR.ext {c:C}{He J H J' H':Hp}(e:Ext J H J' H'):∀{x:R}{v:V},RR c He J H x v->RR c He J' H' x v
 | .d x,v,h=>Rep.mono e.j h
 | .l .fresh xs,v,⟨a,vs,h1,h2,h3,h4,h5⟩=>⟨a,vs,h1,e.h _ _ h2,e.frz a (by rw [h2];intro z;cases z) h3,h4,aT.mono e.j h5⟩
 | .l .own xs,v,⟨a,vs,h1,h2,h3,h4,h5⟩=>⟨a,vs,h1,e.h _ _ h2,e.frz a (by rw [h2];intro z;cases z) h3,h4,aT.mono e.j h5⟩
 | .l .bor xs,v,⟨a,vs,h1,h2,h3⟩=>⟨a,vs,h1,h2,aT.mono e.j h3⟩
 | .mo _ _,v,⟨a,h1,h2,h3,h4⟩=>⟨a,h1,h2.mono e.j e.h,e.frz a h2.ne h3,h4⟩
 | .mb _ _,v,⟨a,h1,h2⟩=>⟨a,h1,h2.mono e.j (aV.refl _)⟩
 | .mf _ _,v,⟨a,h1,h2,h3,h4⟩=>⟨a,h1,h2.mono e.j e.h,e.frz a h2.ne h3,h4⟩
 | .ln _,v,⟨a,vs,h1,h2,h3,h4,h5⟩=>⟨a,vs,h1,e.h _ _ h2,e.frz a (by rw [h2];intro z;cases z) h3,h4,h5.mono e.j λ_ h=>h⟩
theorem RR.from {c:C}{He He' J H:Hp}(e:aV He He'):∀{x:R}{v:V},RR c He' J H x v->RR c He J H x v
 | .d x,v,h=>h
 | .l .fresh xs,v,⟨a,vs,h1,h2,h3,h4,h5⟩=>⟨a,vs,h1,h2,h3,e.free h4,h5⟩
 | .l .own xs,v,h=>h
 | .l .bor xs,v,h=>h
 | .mo _ _,v,h=>h
 | .mb _ _,v,h=>h
 | .mf _ _,v,⟨a,h1,h2,h3,h4⟩=>⟨a,h1,h2,h3,e.free h4⟩
 | .ln _,v,⟨a,vs,h1,h2,h3,h4,h5⟩=>⟨a,vs,h1,h2,h3,e.free h4,h5.mono (aV.refl _) λ_ h=>e.free h⟩
noncomputable def jk:R->M (List D)
 | .d (.lst xs)=>.ok xs
 | .l _ xs=>.ok xs
 | _=>.bad
noncomputable def toD:R->M D
 | .d x=>.ok x
 | .l .fresh xs=>.ok (.lst xs)
 | .mf ks vs=>.ok (.dct ks vs)
 | .ln xs=>.ok (.lst xs)
 | _=>.bad
theorem RR.list {c:C}{He J H:Hp}(hp:HI c J H):∀{r:R}{v:V}{xs:List D},RR c He J H r v->jk r=.ok xs->∃a vs,v=.ref a/\cX c.K H a vs/\aT c.K J xs vs
 | .d (.lst ys),v,xs,h,e=>by
  cases e;cases h with
  | lst h hs=>exact ⟨_,_,rfl,hp.sub.seq h,hs⟩
 | .l .fresh ys,v,xs,⟨a,vs,h1,h2,h3,h4,h5⟩,e=>by cases e;exact ⟨a,vs,h1,cX.of h2,h5⟩
 | .l .own ys,v,xs,⟨a,vs,h1,h2,h3,h4,h5⟩,e=>by cases e;exact ⟨a,vs,h1,cX.of h2,h5⟩
 | .l .bor ys,v,xs,⟨a,vs,h1,h2,h3⟩,e=>by cases e;exact ⟨a,vs,h1,hp.ent.seq h2,h3⟩
 | .d .non,_,_,_,e=>nomatch e
 | .d (.bl _),_,_,_,e=>nomatch e
 | .d (.int _),_,_,_,e=>nomatch e
 | .d (.str _),_,_,_,e=>nomatch e
 | .d (.tup _),_,_,_,e=>nomatch e
 | .d .emp,_,_,_,e=>nomatch e
 | .d (.dct _ _),_,_,_,e=>nomatch e
 | .mo _ _,_,_,_,e=>nomatch e
 | .mb _ _,_,_,_,e=>nomatch e
 | .mf _ _,_,_,_,e=>nomatch e
 | .ln _,_,_,_,e=>nomatch e
theorem p6 {Je He J H:Hp}(x:Ext Je He J H) (h2:H a=some o) (h3:J a=none) (h4:He a=none):Ext Je He (upd J a o) H:=by
 refine ⟨x.h,x.j.trans (cj h3 _),λb u q=>?_,λb hb q=>?_⟩
 ·by_cases hb:b=a
  ·subst hb;rw [bI] at q;cases q;exact h2
  ·rw [aW hb] at q;exact x.sub b u q
 ·have:b≠a:=λz=>hb (z▸h4);rw [aW this];exact x.frz b hb q
theorem freeze {c:C}{Je He J H:Hp}(x:Ext Je He J H):∀{r:R}{v:V}{d:D},RR c He J H r v->toD r=.ok d->∃J',Ext Je He J' H/\aV J J'/\Rep c.K J' d v
 | .d y,v,d,h,e=>by cases e;exact ⟨J,x,aV.refl J,h⟩
 | .l .fresh ys,v,d,⟨a,vs,h1,h2,h3,h4,h5⟩,e=>by cases e;subst h1;exact ⟨_,p6 x h2 h3 h4,cj h3 _,.lst (.inl (.inl bI)) (aT.mono (cj h3 _) h5)⟩
 | .mf ks vs,v,d,⟨a,h1,⟨us,ws,ep,h2,m1,m2,m3⟩,h3,h4⟩,e=>by cases e;subst h1;exact ⟨_,p6 x h2 h3 h4,cj h3 _,.dct bI (m1.mono (cj h3 _)) (m2.mono (cj h3 _)) m3.1 m3.2⟩
 | .ln ys,v,d,⟨a,vs,h1,h2,h3,h4,h5⟩,e=>by cases e;subst h1;exact ⟨_,p6 x h2 h3 h4,cj h3 _,.lst (.inl (.inl bI)) (h5.reps.mono (cj h3 _))⟩
 | .l .own _,_,_,_,e=>nomatch e
 | .l .bor _,_,_,_,e=>nomatch e
 | .mo _ _,_,_,_,e=>nomatch e
 | .mb _ _,_,_,_,e=>nomatch e
noncomputable abbrev G (α:Type):=Ev->M α
noncomputable def tD (c:C) (g:G R):TE:=λσ H Q=>∃J env,SR c J H σ env/\cg (g env) (λr=>∀v J' H',Ext J H J' H'->RR c H J' H' r v->Q v H') c.T
noncomputable def PD (X:Cx) (c:C) (e:Qq) (g:G R):Prop:=PE X e (tD c g)
noncomputable def tB (c:C) (g:G Bool):TT:=λσ H Q=>∃J env,SR c J H σ env/\cg (g env) (λb=>∀J' H',Ext J H J' H'->Q b H') c.T
noncomputable def PB (X:Cx) (c:C) (e:Qq) (g:G Bool):Prop:=PT X e (tB c g)
noncomputable def kE (c:C) (He J H:Hp):List R->List V->Prop
 | [],vs=>vs=[]
 | r::rs,vs=>∃v us,vs=v::us/\RR c He J H r v/\kE c He J H rs us
noncomputable def tA (c:C) (g:G (List R)):TA:=λσ H Q=>∃J env,SR c J H σ env/\cg (g env) (λrs=>∀vs J' H',Ext J H J' H'->kE c H J' H' rs vs->Q vs H') c.T
noncomputable def wN (X:Cx) (c:C) (es:List Qq) (g:G (List R)):Prop:=PA X es (tA c g)
noncomputable def MX (c:C) (g:G (List D)):TA:=λσ H Q=>∃J env,SR c J H σ env/\cg (g env) (λds=>∀vs J' H',Ext J H J' H'->aT c.K J' ds vs->Q vs H') c.T
noncomputable def LG (X:Cx) (c:C) (es:List Qq) (g:G (List D)):Prop:=PA X es (MX c g)
inductive O where
 | nx (e:Ev) | rt (r:R) | bk (e:Ev) | ct (e:Ev)
noncomputable def RF (c:C) (J H:Hp):R->V->Prop
 | .d x,v=>Rep c.K J x v
 | .l _ xs,v=>∃a vs,v=.ref a/\H a=some (.lst vs)/\J a=none/\c.H0 a=none/\aT c.K J xs vs
 | .mf ks vs,v=>∃a,v=.ref a/\ie c.K J H a ks vs/\J a=none/\c.H0 a=none
 | .ln xs,v=>∃a vs,v=.ref a/\H a=some (.lst vs)/\J a=none/\c.H0 a=none/\NR c.K J (λb=>c.H0 b=none) xs vs
 | _,_=>False
noncomputable def oP (c:C) (J:Hp) (E:Ends):O->Prop
 | .nx e=>∀σ' J' H',aV J J'->SR c J' H' σ' e->E.nx σ' H'
 | .rt r=>∀v J' H',aV J J'->HI c J' H'->RF c J' H' r v->E.rt v H'
 | .bk e=>∀σ' J' H',aV J J'->SR c J' H' σ' e->E.bk σ' H'
 | .ct e=>∀σ' J' H',aV J J'->SR c J' H' σ' e->E.ct σ' H'
noncomputable def tS (c:C) (g:G O):TS:=λE σ H=>∃J env,SR c J H σ env/\cg (g env) (oP c J E) c.T
noncomputable def EK (X:Cx) (c:C) (st:RV) (g:G O):Prop:=PS X st (tS c g)
noncomputable def EL (X:Cx) (c:C) (st:List RV) (g:G O):Prop:=iQ X st (tS c g)
theorem oP.mono {c:C}{J J1:Hp}{E:Ends}(e:aV J J1):∀{o:O},oP c J E o->oP c J1 E o
 | .nx _,h=>λσ' J' H' q r=>h σ' J' H' (e.trans q) r
 | .rt _,h=>λσ' J' H' q r=>h σ' J' H' (e.trans q) r
 | .bk _,h=>λσ' J' H' q r=>h σ' J' H' (e.trans q) r
 | .ct _,h=>λσ' J' H' q r=>h σ' J' H' (e.trans q) r
noncomputable def tW (c:C) (g:G O):TS:=λE σ H=>∃J env,SR c J H σ env/\cg (g env) (oP c c.J0 E) c.T
theorem Bb {g:G O}{E:Ends}{H:Hp}(h:tW c g E σ H):tS c g E σ H:=by obtain ⟨J,env,sr,w⟩:=h;exact ⟨J,env,sr,aB w λo q=>q.mono sr.hp.entJ⟩
theorem fc {t t':TE}(h:PE X e t) (k:∀σ H Q,t' σ H Q->t σ H Q):PE X e t':=λO6 s σ H Q I q=>h O6 s σ H Q I (k σ H Q q)
theorem wG (h:PT X e t) (k:∀σ H Q,t' σ H Q->t σ H Q):PT X e t':=λO6 s σ H Q I q=>h O6 s σ H Q I (k σ H Q q)
theorem wF (h:PA X es t) (k:∀σ H Q,t' σ H Q->t σ H Q):PA X es t':=λpos O6 s σ H Q I q=>h pos O6 s σ H Q I (k σ H Q q)
theorem gK {st:RV}{t t':TS}(h:PS X st t) (k:∀D σ H,t' D σ H->t D σ H):PS X st t':=λO6 s σ H D I q=>h O6 s σ H D I (k D σ H q)
theorem pC {st:List RV}{t t':TS}(h:iQ X st t) (k:∀D σ H,t' D σ H->t D σ H):iQ X st t':=λO6 s σ H D I q=>h O6 s σ H D I (k D σ H q)
section
variable {X:Cx}{c:C}{e a b:Qq}{ga gb:G R}{pos:Pos}
noncomputable def S.rd:S->M R
 | .d x=>.ok (.d x)
 | .own xs=>.ok (.l .own xs)
 | .bor xs=>.ok (.l .bor xs)
 | .dk ks vs=>.ok (.mo ks vs)
 | .db ks vs=>.ok (.mb ks vs)
 | .fn _=>.bad
 | .ow2 xs=>.ok (.l .own xs)
 | .tn xs=>.ok (.d (.tup xs))
noncomputable def aa (i:Nat):G R:=λenv=>match env[i]? with
 | some (some x)=>x.rd
 | _=>.bad
theorem GS (h:PE X (.Name x pos) (Kn i)):PD X c (.Name x pos) (aa i):=fc h λσ H Q ⟨J,env,sr,w⟩=>by
 unfold aa at w;cases q:env[i]? with
 | none=>rw [q] at w;exact w.elim
 | some o=>
  cases o with
  | none=>rw [q] at w;exact w.elim
  | some x=>
   rw [q] at w;obtain ⟨v,h1,h2⟩:=sr.at_ i x q;refine ⟨v,h1,?_⟩;cases x with
   | fn _=>exact w.elim
   | ow2 _=>obtain ⟨a,vs,k1,k2,k3,k4,k5⟩:=h2;exact w v J H (Ext.refl sr.hp.sub) ⟨a,vs,k1,k2,k3,k4,k5.reps⟩
   | tn _=>obtain ⟨a,vs,rfl,k1,k2⟩:=h2;exact w (.ref a) J H (Ext.refl sr.hp.sub) (.tup k1 k2.reps)
   | _=>exact w v J H (Ext.refl sr.hp.sub) h2
noncomputable def gC (d:D):G R:=λ_=>.ok (.d d)
theorem sU (hr:∀J,Rep c.K J d v) (h:PE X e (tC v)):PD X c e (gC d):=fc h λσ H Q ⟨J,env,sr,w⟩=>w v J H (Ext.refl sr.hp.sub) (hr J)
noncomputable def BD (c:C) (r:R2) (f:R->R->M R):Prop:=∀(He He' J H:Hp) (x y:R) (u v:V) (Q:VK),HI c J H->RR c He J H x u->RR c He' J H y v->
 cg (f x y) (λz=>∀w J' H',Ext J H J' H'->RR c H J' H' z w->Q w H') c.T->r u v H Q
noncomputable def g2 (f:R->R->M R) (ga gb:G R):G R:=λenv=>ga env >>= λx=>gb env >>= λy=>f x y
theorem two {P:R->R->M R}{σ:L2.St}{H:Hp}{k:V->V->Hp->Prop}{Q:VK}{J:Hp}{env:Ev}(sr:SR c J H σ env)
  (w:cg (g2 P ga gb env) (λr=>∀v J' H',Ext J H J' H'->RR c H J' H' r v->Q v H') c.T)
  (hk:∀x y u v J2 H2,SR c J2 H2 σ env->Ext J H J2 H2->RR c H J2 H2 x u->RR c H J2 H2 y v->cg (P x y) (λz=>∀w J' H',Ext J2 H2 J' H'->RR c H2 J' H' z w->Q w H') c.T->k u v H2):
  tD c ga σ H λu H1=>tD c gb σ H1 λv H2=>k u v H2:=by refine ⟨J,env,sr,aB (aH w) λx wx u J1 H1 e1 r1=>?_⟩;have sr1:=sr.ext e1;refine ⟨J1,env,sr1,aB (aH wx) λy wy v J2 H2 e2 r2=>?_⟩;exact hk x y u v J2 H2 (sr1.ext e2) (e1.trans e2) (r1.ext e2) (RR.from e1.h r2) (aB wy λz q w J' H' e3 r3=>q w J' H' ((e1.trans e2).trans e3) (RR.from (e1.h.trans e2.h) r3))
theorem DY {t:TE}{f:R->R->M R}(ht:PE X e t) (heq:t=CU r (tD c ga) (tD c gb)) (hf:BD c r f):PD X c e (g2 f ga gb):=by subst heq;exact fc ht λσ H Q ⟨J,env,sr,w⟩=>two (k:=λu v H2=>r u v H2 Q) sr w λx y u v J2 H2 sr2 e2 r1 r2 q=>hf H H J2 H2 x y u v Q sr2.hp r1 r2 q
theorem nC {f:R->R->M R}(ho:dD X (SA op) r) (hf:BD c r f) (ha:PD X c a ga) (hb:PD X c b gb):PD X c (.BinOp a op b pos) (g2 f ga gb):=DY (Lf ho ha hb) rfl hf
theorem pq {f:R->R->M R}(ho:dD X (Q8 op) r) (hf:BD c r f) (ha:PD X c a ga) (hb:PD X c b gb) (hm:QS op b=false:=by first | exact yj _ | rfl):PD X c (.Compare a [op] [b] pos) (g2 f ga gb):=DY (GU ho ha hb hm) rfl hf
theorem Lc {f:R->R->M R}(ho:qp X r) (hf:BD c r f) (ha:PD X c a ga) (hb:PD X c b gb) (hs:pR b:=by exact λ_ _=>rfl):PD X c (.Subscript a b pos) (g2 f ga gb):=DY (Ff ho ha hb hs) rfl hf
theorem BD.or {r r':R2}{f f':R->R->M R}(p:R->R->Bool) (h:BD c r f) (h':BD c r' f'):BD c (λx y H Q=>r x y H Q\/r' x y H Q) (λx y=>if p x y then f x y else f' x y):=by
 intro He He' J H x y u v Q hp rx ry w;simp only at w;cases q:p x y with
 | true=>rw [q] at w;exact .inl (h He He' J H x y u v Q hp rx ry w)
 | false=>rw [q] at w;exact .inr (h' He He' J H x y u v Q hp rx ry w)
noncomputable def fI (C:Int->Int->Bool) (f:Int->Int->D):R->R->M R
 | .d (.int i),.d (.int j)=>if C i j then .ok (.d (f i j)) else .bad
 | _,_=>.bad
noncomputable def bz (f:Int->Int->D):R->R->M R
 | .d (.int i),.d (.int j)=>.ok (.d (f i j))
 | _,_=>.bad
theorem Az {P:Int->Int->Prop}{Cb:Int->Int->Bool}{g:Int->Int->V}{f:Int->Int->D}(hC:∀i j,Cb i j=true->P i j) (hr:∀i j J,Rep c.K J (f i j) (g i j)):BD c (rI P g) (fI Cb f):=by
 intro He He' J H x y u v Q hp rx ry w;unfold fI at w;split at w
 ·cases rx;cases ry;rename_i i j;cases q:Cb i j with
  | true=>rw [q] at w;exact ⟨i,j,rfl,rfl,hC i j q,w _ J H (Ext.refl hp.sub) (hr i j J)⟩
  | false=>rw [q] at w;exact w.elim
 ·exact w.elim
theorem iD {g:Int->Int->V}{f:Int->Int->D}(hr:∀i j J,Rep c.K J (f i j) (g i j)):BD c (oj g) (bz f):=by
 intro He He' J H x y u v Q hp rx ry w;unfold bz at w;split at w
 ·cases rx;cases ry;rename_i i j;exact ⟨i,j,rfl,rfl,w _ J H (Ext.refl hp.sub) (hr i j J)⟩
 ·exact w.elim
noncomputable def below (n:Nat) (j:Int):Bool:=Nat.blt j.natAbs n
theorem cO:below n j=true↔-(n:Int) < j/\j < n:=by unfold below;rw [Nat.blt_eq];omega
noncomputable def AR (_ j:Int):Bool:=decide (0 < j) && below 1073741824 j
noncomputable def Jf (_ j:Int):Bool:=decide (0 < j)
noncomputable def rq (i j:Int):Bool:=below 18446744073709551616 i || below 18446744073709551616 j
theorem Gx (h:rq i j=true):(-(2 ^ 64) < i/\i < 2 ^ 64)\/(-(2 ^ 64) < j/\j < 2 ^ 64):=by unfold rq at h;rw [RB] at h;exact h.imp cO.mp cO.mp
theorem Gw (h:AR i j=true):0 < j/\j < 1073741824:=by unfold AR at h;rw [Pr] at h;exact ⟨of_decide_eq_true h.1,(cO.mp h.2).2⟩
noncomputable def DM (i j:Int):Bool:=decide (0<=j) && below 1000001 j && below 18446744073709551616 i
theorem Gy {i j:Int}(h:DM i j=true):0<=j/\j<=1000000/\i.natAbs < 2 ^ 64:=by unfold DM at h;rw [Pr,Pr] at h;have h2:=cO.mp h.1.2;have h3:=cO.mp h.2;exact ⟨of_decide_eq_true h.1.1,by omega,by omega⟩
noncomputable abbrev DB:R->R->M R:=bz λi j=>.int (i + j)
noncomputable abbrev oQ:R->R->M R:=bz λi j=>.int (i - j)
noncomputable abbrev IM:R->R->M R:=fI rq λi j=>.int (i * j)
noncomputable abbrev fE:R->R->M R:=fI AR λi j=>.int (i / j)
noncomputable abbrev cQ:R->R->M R:=fI Jf λi j=>.int (i % j)
noncomputable abbrev lH:R->R->M R:=fI DM λi j=>.int (i ^ j.toNat)
noncomputable def rX:R->R->M R
 | .d (.str i),.d (.str j)=>if i.length + j.length<=sizeLine then .ok (.d (.str (i++j))) else .bad
 | _,_=>.bad
theorem Hq {K:Pe}{J:Hp}{ds:List D}{vs:List V}{i:Int}{d:D}(h:aT K J ds vs) (e:lV ds i=some d):∃v,lV vs i=some v/\Rep K J d v:=by
 unfold lV at e ⊢;rw [h.length] at e;cases q:xT vs.length i with
 | none=>rw [q] at e;cases e
 | some j=>rw [q] at e;exact h.get e
theorem kh {f:List D->M R}{Q:R->Prop}{T:Exc->Prop}(w:cg (jk x >>= f) Q T):∃xs,jk x=.ok xs/\cg (f xs) Q T:=by
 cases q:jk x with
 | bad=>rw [q] at w;exact w.elim
 | ok xs=>rw [q] at w;exact ⟨xs,rfl,w⟩
 | exc z=>unfold jk at q;split at q <;> cases q
noncomputable def sM:R->Bool
 | .l .fresh _=>true
 | .l .own _=>true
 | _=>false
noncomputable def pY (x y:R):M R:=if sM x && sM y then jk x >>= λxs=>jk y >>= λys=>if xs.length + ys.length<=sizeLine then .ok (.l .fresh (xs++ys)) else .bad else .bad
theorem RR.made {He J H:Hp}:∀{r:R}{v:V},sM r=true->RR c He J H r v->∃a vs xs,jk r=.ok xs/\v=.ref a/\H a=some (.lst vs)/\aT c.K J xs vs
 | .l .fresh xs,v,_,⟨a,vs,h1,h2,h3,h4,h5⟩=>⟨a,vs,xs,rfl,h1,h2,h5⟩
 | .l .own xs,v,_,⟨a,vs,h1,h2,h3,h4,h5⟩=>⟨a,vs,xs,rfl,h1,h2,h5⟩
 | .l .bor _,_,e,_=>nomatch e
 | .mo _ _,_,e,_=>nomatch e
 | .mb _ _,_,e,_=>nomatch e
 | .mf _ _,_,e,_=>nomatch e
 | .ln _,_,e,_=>nomatch e
 | .d _,_,e,_=>nomatch e
theorem kU {J H:Hp}(hp:HI c J H) (e:H p=none) (h:aT c.K J xs vs):RR c H J (upd H p (.lst vs)) (.l .fresh xs) (.ref p):=
 ⟨p,vs,rfl,bI,hp.sub.free e,e,h⟩
noncomputable def CD (c:C) (r:List V->Hp->VK->Prop) (f:List R->M R):Prop:=∀(He J H:Hp) (xs:List R) (vs:List V) (Q:VK),HI c J H->kE c He J H xs vs->
 cg (f xs) (λz=>∀w J' H',Ext J H J' H'->RR c H J' H' z w->Q w H') c.T->r vs H Q
noncomputable def gN (f:List R->M R) (gs:G (List R)):G R:=λenv=>gs env >>= f
theorem JE {t:TE}{ta:TA}{r:List V->Hp->VK->Prop}{f:List R->M R}{gs:G (List R)}(ht:PE X e t) (heq:t=λσ H Q=>tA c gs σ H λvs H1=>r vs H1 Q) (hf:CD c r f):PD X c e (gN f gs):=by subst heq;refine fc ht λσ H Q ⟨J,env,sr,w⟩=>⟨J,env,sr,aB (aH w) λrs w vs J1 H1 e1 r1=>?_⟩;exact hf H J1 H1 rs vs Q (sr.hp.ext e1) r1 (aB w λz q v J' H' e2 r2=>q v J' H' (e1.trans e2) (RR.from e1.h r2))
noncomputable def ak:G (List R):=λ_=>.ok []
noncomputable def ah (g:G R) (gs:G (List R)):G (List R):=λenv=>g env >>= λx=>gs env >>= λxs=>.ok (x::xs)
theorem kE.from {He He' J H:Hp}(e:aV He He'):∀{xs:List R}{vs:List V},kE c He' J H xs vs->kE c He J H xs vs
 | [],_,h=>h
 | _::_,_,⟨v,us,h1,h2,h3⟩=>⟨v,us,h1,RR.from e h2,kE.from e h3⟩
theorem kQ {id:String}{x:Str}{p:Pos}{es:List Qq}{r:List V->Hp->VK->Prop}{f:List R->M R}{gs:G (List R)}(hc:dj X (.builtin id) r) (hf:CD c r f) (hv:QO x=some (.builtin id)) (hm:X.mg x=none) (ha:wN X c (e::es) gs)
  (hg:autoParam (Gl X x) zA._auto_1) (hn:autoParam (x≠"__name__") zB._auto_1) (hdb:autoParam ((x == ("__debug__":Str))=false) zB._auto_1)
  (he:autoParam (Po (e::es) X.env=(false,eval e X.env)::Po es X.env) zA._auto_1) (hpl:autoParam ((Ra pos (Po es X.env)).any (·.1)=false) zA._auto_1):PD X c (.Call (.Name x p) (e::es) [] pos) (gN f gs):=
 JE (ta:=Ex) (nD hc hg hm hv ha hn hdb he hpl) rfl hf
theorem pg {r:List V->Hp->VK->Prop}{f:List R->M R}{gs:G (List R)}(hc:dj X (.type T) r) (hf:CD c r f) (hv:QO x=some (.type T)) (hm:X.mg x=none) (ha:wN X c (e::es) gs)
 (hg:autoParam (Gl X x) zA._auto_1) (hn:autoParam (x≠"__name__") zB._auto_1) (hdb:autoParam ((x == ("__debug__":Str))=false) zB._auto_1)
 (he:autoParam (Po (e::es) X.env=(false,eval e X.env)::Po es X.env) zA._auto_1) (hpl:autoParam ((Ra pos (Po es X.env)).any (·.1)=false) zA._auto_1):PD X c (.Call (.Name x p) (e::es) [] pos) (gN f gs):=
 JE (ta:=Ex) (Cj hc hg hm hv ha hn hdb he hpl) rfl hf
end
section
variable {X:Cx}{c:C}{e a b:Qq}{es:List Qq}{ga gb g:G R}{pos:Pos}
noncomputable def aC:G (List D):=λ_=>.ok []
noncomputable def aj (g:G R) (gs:G (List D)):G (List D):=λenv=>g env >>= λx=>toD x >>= λd=>gs env >>= λds=>.ok (d::ds)
theorem kq {α:Type}{f:D->M α}{Q:α->Prop}{T:Exc->Prop}(w:cg (toD x >>= f) Q T):∃d,toD x=.ok d/\cg (f d) Q T:=by
 cases q:toD x with
 | bad=>rw [q] at w;exact w.elim
 | ok xs=>rw [q] at w;exact ⟨xs,rfl,w⟩
 | exc z=>unfold toD at q;split at q <;> cases q
noncomputable def c9 (gs:G (List D)):G R:=λenv=>gs env >>= λds=>if ds.length<=sizeLine then .ok (.d (.tup ds)) else .bad
noncomputable def cT (gs:G (List D)):G R:=λenv=>gs env >>= λds=>if ds.length<=sizeLine then .ok (.l .fresh ds) else .bad
theorem mG {J H:Hp}(hp:HI c J H) (e:H p=none) (h:aT c.K J xs vs):Rep c.K (upd J p (.tup vs)) (.tup xs) (.ref p):=
 .tup (.inl (.inl bI)) (h.mono (cj (hp.sub.free e) _))
noncomputable def jE:R->M (List D)
 | .d (.tup xs)=>.ok xs
 | .d (.lst xs)=>.ok xs
 | .l _ xs=>.ok xs
 | _=>.bad
theorem pT {He J H:Hp}(hp:HI c J H):∀{r:R}{v:V}{xs:List D},RR c He J H r v->jE r=.ok xs->∃a vs,v=.ref a/\(cX c.K H a vs\/dF c.K H a vs)/\aT c.K J xs vs
 | .d (.tup ys),v,xs,h,e=>by
  cases e;cases h with
  | tup h hs=>exact ⟨_,_,rfl,.inr (cV hp.sub h),hs⟩
 | .d (.lst ys),v,xs,h,e=>let ⟨a,vs,h1,h2,h3⟩:=RR.list hp h e;⟨a,vs,h1,.inl h2,h3⟩
 | .l m ys,v,xs,h,e=>let ⟨a,vs,h1,h2,h3⟩:=RR.list hp h e;⟨a,vs,h1,.inl h2,h3⟩
 | .d .non,_,_,_,e=>nomatch e
 | .d (.bl _),_,_,_,e=>nomatch e
 | .d (.int _),_,_,_,e=>nomatch e
 | .d (.str _),_,_,_,e=>nomatch e
 | .d .emp,_,_,_,e=>nomatch e
 | .d (.dct _ _),_,_,_,e=>nomatch e
theorem mL {α:Type}{f:List D->M α}{Q:α->Prop}{T:Exc->Prop}(w:cg (jE x >>= f) Q T):∃xs,jE x=.ok xs/\cg (f xs) Q T:=by
 cases q:jE x with
 | bad=>rw [q] at w;exact w.elim
 | ok xs=>rw [q] at w;exact ⟨xs,rfl,w⟩
 | exc z=>unfold jE at q;split at q <;> cases q
noncomputable def dz:List R->M R
 | [.d (.str z)]=>if z.length<=sizeLine then .ok (.d (.int z.length)) else .bad
 | [r]=>jE r >>= λxs=>.ok (.d (.int xs.length))
 | _=>.bad
theorem kE.one {He J H:Hp}(h:kE c He J H [r] vs):∃v,vs=[v]/\RR c He J H r v:=by obtain ⟨v,us,rfl,h1,h2⟩:=h;cases h2;exact ⟨v,rfl,h1⟩
theorem kE.two {He J H:Hp}{r r':R}{vs:List V}(h:kE c He J H [r,r'] vs):∃v v',vs=[v,v']/\RR c He J H r v/\RR c He J H r' v':=by obtain ⟨v,us,rfl,h1,v2,us2,rfl,h2,h3⟩:=h;cases h3;exact ⟨v,v2,rfl,h1,h2⟩
noncomputable def eH:List R->M R
 | [r]=>jE r >>= λxs=>.ok (.d (.tup xs))
 | _=>.bad
theorem za:QO "tuple"=some (.type "tuple"):=by decide +kernel
noncomputable def aK (g:G R):G Bool:=λenv=>g env >>= λr=>match r with
 | .d (.bl k)=>.ok k
 | _=>.bad
theorem jI {f:R->R->M R}(ho:dD X (Q8 op) r) (hf:BD c r f) (ha:PD X c a ga) (hb:PD X c b gb) (hm:QS op b=false:=by first | exact yj _ | rfl):PB X c (.Compare a [op] [b] pos) (aK (g2 f ga gb)):=
 wG (G1 ho ha hb hm) λσ H Q ⟨J,env,sr,w⟩=>by
  have w2:=aH w;refine two (k:=λu v H2=>r u v H2 λz H3=>∃k,z=.bl k/\Q k H3) (Q:=λz H3=>∃k,z=.bl k/\Q k H3) sr (aB w2 λr0 wr v J1 H1 e1 r1=>?_)
   λx y u v J2 H2 sr2 e2 r1 r2 q=>hf H H J2 H2 x y u v _ sr2.hp r1 r2 q
  split at wr
  ·cases r1;exact ⟨_,rfl,wr J1 H1 e1⟩
  ·exact wr.elim
noncomputable def bf (g h:G Bool):G Bool:=λenv=>g env >>= λk=>if k=true then h env else .ok false
noncomputable def bu (g h:G Bool):G Bool:=λenv=>g env >>= λk=>if k=true then .ok true else h env
noncomputable def aP (g:G Bool):G Bool:=λenv=>g env >>= λk=>.ok (!k)
noncomputable def MK (X:Cx) (c:C) (e:Qq) (g:G Bool):Prop:=PW X e (tB c g)
variable {t u:G Bool}{O_:List Qq}
theorem Ft {X:Cx}{e:Qq}{t t':TT}(h:PW X e t) (k:∀σ H Q,t' σ H Q->t σ H Q):PW X e t':=λwh O6 s σ H Q I q=>h wh O6 s σ H Q I (k σ H Q q)
noncomputable def aO (g h:G R):G R:=λenv=>g env >>= λr=>match r with
 | .d (.bl true)=>h env
 | .d (.bl false)=>.ok (.d (.bl false))
 | _=>.bad
noncomputable def aS (g:G R):G R:=λenv=>g env >>= λr=>match r with
 | .d (.bl k)=>.ok (.d (.bl (!k)))
 | _=>.bad
end
section
variable {X:Cx}{c:C}{e a b tg:Qq}{es:List Qq}{ga gb g:G R}{pos:Pos}{st:RV}{O_:List RV}{t u:G O}{tb:G Bool}
noncomputable def aU:G O:=λenv=>.ok (.nx env)
noncomputable def aq (t u:G O):G O:=λenv=>t env >>= λo=>match o with
 | .nx e=>u e
 | o=>.ok o
noncomputable def rF:R->M R
 | .d x=>.ok (.d x)
 | .l .fresh xs=>.ok (.l .fresh xs)
 | .l .own xs=>.ok (.l .fresh xs)
 | .l .bor _=>.bad
 | .mo ks vs=>.ok (.mf ks vs)
 | .mf ks vs=>.ok (.mf ks vs)
 | .mb _ _=>.bad
 | .ln xs=>.ok (.ln xs)
noncomputable def aE (g:G R):G O:=λenv=>g env >>= λr=>rF r >>= λr=>.ok (.rt r)
theorem RR.rf {J H J1 H1:Hp}(hp:HI c J H):∀{r r':R}{v:V},RR c H J1 H1 r v->rF r=.ok r'->RF c J1 H1 r' v
 | .d x,r',v,h,e=>by cases e;exact h
 | .l .fresh xs,r',v,⟨a,vs,h1,h2,h3,h4,h5⟩,e=>by cases e;exact ⟨a,vs,h1,h2,h3,hp.ent.free h4,h5⟩
 | .l .own xs,r',v,⟨a,vs,h1,h2,h3,h4,h5⟩,e=>by cases e;exact ⟨a,vs,h1,h2,h3,h4,h5⟩
 | .l .bor _,_,_,_,e=>nomatch e
 | .mo _ _,_,v,⟨a,h1,h2,h3,h4⟩,e=>by cases e;exact ⟨a,h1,h2,h3,h4⟩
 | .mb _ _,_,_,_,e=>nomatch e
 | .mf _ _,_,v,⟨a,h1,h2,h3,h4⟩,e=>by cases e;exact ⟨a,h1,h2,h3,hp.ent.free h4⟩
 | .ln _,_,v,⟨a,vs,h1,h2,h3,h4,h5⟩,e=>by cases e;exact ⟨a,vs,h1,h2,h3,hp.ent.free h4,h5.mono (aV.refl _) λ_ h=>hp.ent.free h⟩
noncomputable def aJ (b:G Bool) (t u:G O):G O:=λenv=>b env >>= λk=>if k=true then t env else u env
noncomputable def toS:R->M S
 | .d x=>.ok (.d x)
 | .l .fresh xs=>.ok (.own xs)
 | .l .bor xs=>.ok (.bor xs)
 | .l .own _=>.bad
 | .mb ks vs=>.ok (.db ks vs)
 | .mf ks vs=>.ok (.dk ks vs)
 | .mo _ _=>.bad
 | .ln xs=>.ok (.ow2 xs)
theorem cR {α:Type}{l:List (Option α)}{i j:Nat}{x y:α}(h:(l.set i (some x))[j]?=some (some y)):(j=i/\i < l.length/\y=x)\/(j≠i/\l[j]?=some (some y)):=by
 by_cases e:j=i
 ·subst e;have hj:j < l.length:=by have:=(Qd.mp h).1;simpa using this
  rw [QI hj] at h;cases h;exact .inl ⟨rfl,hj,rfl⟩
 ·rw [PN (QC e)] at h;exact .inr ⟨e,h⟩
theorem SR.setD {J H:Hp}{σ:L2.St}{env:Ev}(sr:SR c J H σ env){i:Nat}{x:S}{v:V}(h:iK c J H x v) (hx:∀xs,x≠mS xs):SR c J H (σ.set i (some v)) (env.set i (some x)):=by
 refine ⟨sr.hp,by simpa using sr.len,λj y q=>?_,λj k xs ys w hjk q1 q2 q3 q4=>?_,sr.sp2.keep λk xs q=>?_⟩
 ·rcases cR q with ⟨rfl,hl,rfl⟩ | ⟨hj,q⟩
  ·exact ⟨v,by rw [QI (by rw [<-sr.len];exact hl)],h⟩
  ·obtain ⟨w,h1,h2⟩:=sr.at_ j y q;exact ⟨w,by rw [PN (QC hj)];exact h1,h2⟩
 ·rcases cR q1 with ⟨rfl,hl,e⟩ | ⟨hj,q1⟩
  ·exact hx xs e.symm
  ·rcases cR q2 with ⟨rfl,hl,e⟩ | ⟨hk,q2⟩
   ·exact hx ys e.symm
   ·rw [PN (QC hj)] at q3;rw [PN (QC hk)] at q4;exact sr.sep j k xs ys w hjk q1 q2 q3 q4
 ·rcases cR q with ⟨_,_,e⟩ | ⟨hk,q⟩
  ·exact (hx (.nst xs) e.symm).elim
  ·exact ⟨⟨xs,q⟩,jv hk⟩
theorem SR.setM {J He:Hp}{σ:L2.St}{env:Ev}(sr:SR c J He σ env){J1 H1:Hp}(e1:Ext J He J1 H1){i:Nat}{y:Mn}{p:PK}(h3:He p=none) (h:iK c J1 H1 (mS y) (.ref p)) (hn:∀xs,y=.nst xs->∀vs,H1 p=some (.lst vs)->∀u∈vs,∃b,u=.ref b/\He b=none:=by exact λ_ z=>nomatch z):SR c J1 H1 (σ.set i (some (.ref p))) (env.set i (some (mS y))):=by
 have sr1:=sr.ext e1;have old:∀(j:Nat) (ys:Mn),env[j]?=some (some (mS ys))->σ[j]?≠some (some (.ref p)):=λj ys qj z=>by obtain ⟨a,k1,k2,_⟩:=sr.mine qj;rw [z] at k1;cases k1;exact k2 h3
 have new:∀(j:Nat) (xs ys:List D),i < env.length->j≠i->mS y=.ow2 xs->env[j]?=some (some (.ow2 ys))->∀u∈lg H1 (σ.set i (some (.ref p))) i,u∉lg H1 (σ.set i (some (.ref p))) j:=λj xs ys hl hj e q u hu hv=>by
  have hy:y=.nst xs:=by cases y <;> cases e;rfl
  subst hy;obtain ⟨_,vs,rfl',k2,_⟩:=h;cases rfl';rw [kO (QI (by rw [<-sr.len];exact hl)) k2] at hu;obtain ⟨b,rfl,hb⟩:=hn xs rfl vs k2 u hu;obtain ⟨p',ws,m1,m2,_,_,m3,m4⟩:=sr.nst q;rw [jv hj,kO m1 (e1.h _ _ m2)] at hv;obtain ⟨b',_,e',m5,_⟩:=m3.mem hv;cases e';rw [sr.hp.sub _ _ m5] at hb;cases hb
 refine ⟨sr1.hp,by simpa using sr.len,λj y q=>?_,λj k ys zs w hjk q1 q2 q3 q4=>?_,λj k ys zs hjk q1 q2 u hu=>?_⟩
 ·rcases cR q with ⟨rfl,hl,rfl⟩ | ⟨hj,q⟩
  ·exact ⟨.ref p,by rw [QI (by rw [<-sr.len];exact hl)],h⟩
  ·obtain ⟨w,k1,k2⟩:=sr1.at_ j y q;exact ⟨w,by rw [PN (QC hj)];exact k1,k2⟩
 ·rcases cR q1 with ⟨rfl,hl,e⟩ | ⟨hj,q1'⟩
  ·rcases cR q2 with ⟨rfl,_,_⟩ | ⟨hk,q2⟩
   ·exact hjk rfl
   ·rw [QI (by rw [<-sr.len];exact hl)] at q3;cases q3;rw [PN (QC hk)] at q4;exact old k zs q2 q4
  ·rw [PN (QC hj)] at q3;rcases cR q2 with ⟨rfl,hl,e⟩ | ⟨hk,q2⟩
   ·rw [QI (by rw [<-sr.len];exact hl)] at q4;cases q4;exact old j ys q1' q3
   ·rw [PN (QC hk)] at q4;exact sr.sep j k ys zs w hjk q1' q2 q3 q4
 ·rcases cR q1 with ⟨rfl,hl,e⟩ | ⟨hj,q1'⟩
  ·rcases cR q2 with ⟨rfl,_,_⟩ | ⟨hk,q2⟩
   ·exact (hjk rfl).elim
   ·exact new k ys zs hl hk e.symm q2 u hu
  ·rcases cR q2 with ⟨rfl,hl,e⟩ | ⟨hk,q2⟩
   ·exact λhv=>new j zs ys hl hj e.symm q1' u hv hu
   ·rw [jv hj] at hu;rw [jv hk];exact sr1.sp2 j k ys zs hjk q1' q2 u hu
theorem SR.set {J He:Hp}{σ:L2.St}{env:Ev}(sr:SR c J He σ env){J1 H1:Hp}(e1:Ext J He J1 H1) (h:RR c He J1 H1 r v) (q:toS r=.ok x):SR c J1 H1 (σ.set i (some v)) (env.set i (some x)):=by
 have sr1:=sr.ext e1;cases r with
 | d y=>cases q;exact sr1.setD h (λx z=>by cases x <;> cases z)
 | mb _ _=>cases q;exact sr1.setD h (λx z=>by cases x <;> cases z)
 | mf ks vs=>cases q;obtain ⟨p,rfl,h1,h2,h3⟩:=h;exact sr.setM (y:=.inr (ks,vs)) e1 h3 ⟨p,rfl,h1,h2,sr.hp.ent.free h3⟩
 | mo _ _=>cases q
 | ln xs=>
  cases q;obtain ⟨p,vs,rfl,h1,h2,h3,h4⟩:=h;refine sr.setM (y:=.nst xs) e1 h3 ⟨p,vs,rfl,h1,h2,sr.hp.ent.free h3,h4.mono (aV.refl _) λb hb=>⟨sr.hp.ent.free hb,sr.hp.entJ.free (sr.hp.sub.free hb)⟩⟩ λ_ _ ws q u hu=>?_;rw [h1] at q;cases q;obtain ⟨b,_,e,_,hb⟩:=h4.mem hu;exact ⟨b,e,hb⟩
 | l m xs=>
  cases m with
  | own=>cases q
  | bor=>cases q;exact sr1.setD h (λx z=>by cases x <;> cases z)
  | fresh=>
   cases q;obtain ⟨p,vs,rfl,h1,h2,h3,h4⟩:=h;exact sr.setM (y:=.inl xs) e1 h3 ⟨p,vs,rfl,h1,h2,sr.hp.ent.free h3,h4⟩
theorem uP {α:Type}{f:S->M α}{Q:α->Prop}{T:Exc->Prop}(w:cg (toS x >>= f) Q T):∃d,toS x=.ok d/\cg (f d) Q T:=by
 cases q:toS x with
 | bad=>rw [q] at w;exact w.elim
 | ok xs=>rw [q] at w;exact ⟨xs,rfl,w⟩
 | exc z=>unfold toS at q;split at q <;> cases q
noncomputable def aG (i:Nat) (g:G R):G O:=λenv=>g env >>= λr=>toS r >>= λx=>.ok (.nx (env.set i (some x)))
noncomputable abbrev GT:=D->Ev->M Ev
noncomputable def KO (env:Ev) (σ:L2.St) (e:Ev) (σ':L2.St):Prop:=∀(j:Nat) (xs:Mn),e[j]?=some (some (mS xs))->env[j]?=some (some (mS xs))/\σ'[j]?=σ[j]?
theorem KO.refl:KO env σ env σ:=λ_ _ h=>⟨h,rfl⟩
theorem KO.trans (a:KO env σ e1 s1) (b:KO e1 s1 e2 s2):KO env σ e2 s2:=λj xs h=>by obtain ⟨h1,h2⟩:=b j xs h;obtain ⟨h3,h4⟩:=a j xs h1;exact ⟨h3,h2.trans h4⟩
noncomputable def tT (c:C) (g:GT):TG:=λv σ H Q=>∃J env d,SR c J H σ env/\Rep c.K J d v/\cg (g d env) (λe=>∀σ',SR c J H σ' e->KO env σ e σ'->Q σ' H) c.T
noncomputable def EM (X:Cx) (c:C) (tg:Qq) (g:GT):Prop:=PG X tg (tT c g)
noncomputable abbrev nY:=List D->Ev->M Ev
noncomputable def M3 (c:C) (g:nY):qB:=λvs σ H Q=>∃J env ds,SR c J H σ env/\aT c.K J ds vs/\cg (g ds env) (λe=>∀σ',SR c J H σ' e->KO env σ e σ'->Q σ' H) c.T
noncomputable def L4 (X:Cx) (c:C) (tgs:List Qq) (g:nY):Prop:=uR X tgs (M3 c g)
theorem Fi {t t':TG}(h:PG X e t) (k:∀v σ H Q,t' v σ H Q->t v σ H Q):PG X e t':=λO6 s σ H v u Q I r q=>h O6 s σ H v u Q I r (k v σ H Q q)
theorem Cm {X:Cx}{e:List Qq}{t t':qB}(h:uR X e t) (k:∀v σ H Q,t' v σ H Q->t v σ H Q):uR X e t':=λO6 s σ H vs us Q I r q=>h O6 s σ H vs us Q I r (k vs σ H Q q)
noncomputable def aF (i:Nat):GT:=λd env=>.ok (env.set i (some (.d d)))
noncomputable def cK:nY:=λds env=>match ds with
 | []=>.ok env
 | _=>.bad
noncomputable def bq (t:GT) (u:nY):nY:=λds env=>match ds with
 | d::r=>t d env >>= λe=>u r e
 | []=>.bad
noncomputable def cS (n:Nat) (u:nY):GT:=λd env=>match d with
 | .tup ds=>if ds.length=n then u ds env else .bad
 | _=>.bad
noncomputable def iL (t:GT) (g:G R):G O:=λenv=>g env >>= λr=>toD r >>= λd=>t d env >>= λe=>.ok (.nx e)
theorem GN {t:GT}(h:PD X c e g) (ht:EM X c tg t)
  (hq:PS X (.Assign [tg] e pos) (Ew (tD c g) (tT c t))):EK X c (.Assign [tg] e pos) (iL t g):=gK hq λE σ H ⟨J,env,sr,w⟩=>by refine ⟨J,env,sr,aB (aH w) λr wr v J1 H1 e1 r1=>?_⟩;obtain ⟨d,q,wr⟩:=kq wr;obtain ⟨J1',e1',s1,rd⟩:=freeze e1 r1 q;refine ⟨J1',env,d,sr.ext e1',rd,aB (aH wr) λe2 w2 σ' sr' _=>?_⟩;exact w2 σ' J1' H1 e1'.j sr'
noncomputable def Walk (c:C) (It:It) (ds:List D) (J1:Hp) (U:Hp->Hp->Prop):Prop:=∀(i:Nat) (J H:Hp),HI c J H->U J H->
 (ds.length<=i->It.stop i H)/\∀d,ds[i]?=some d->It.go i H/\∀x H2,It.yld i H x H2->∃J2,Ext J H J2 H2/\Rep c.K J2 d x
noncomputable def tI (c:C) (g:G (List D)):TI:=λσ H Q=>∃J env,SR c J H σ env/\cg (g env) (λds=>∀It J1 H1,Ext J H J1 H1->Walk c It ds J1 (λJ' _=>aV J1 J')->Q It H1) c.T
noncomputable def ML (X:Cx) (c:C) (tg Pa:Qq) (g:G (List D)):Prop:=PI X tg Pa (tI c g)
theorem lq {X:Cx}{tg it:Qq}{t t':TI}(h:PI X tg it t) (k:∀σ H Q,t' σ H Q->t σ H Q):PI X tg it t':=λO6 s σ H Q I q=>h O6 s σ H Q I (k σ H Q q)
noncomputable def eu (t:GT) (u:G O):List D->Ev->M O
 | [],env=>.ok (.nx env)
 | d::ds,env=>t d env >>= λe=>u e >>= λo=>match o with
  | .nx e=>eu t u ds e
  | .ct e=>eu t u ds e
  | .bk e=>.ok (.nx e)
  | .rt r=>.ok (.rt r)
noncomputable def gI (g:G (List D)) (t:GT) (u:G O):G O:=λenv=>g env >>= λds=>eu t u ds env
noncomputable def iM (g:G R):G (List D):=λenv=>g env >>= λr=>match r with
 | .d (.tup xs)=>.ok xs
 | _=>.bad
theorem MG {J1:Hp}{a:PK}{vs:List V}{ds:List D}{Ut:Hp->Hp->Prop}(h:dF c.K J1 a vs) (hs:aT c.K J1 ds vs) (hu:∀J H,Ut J H->aV J1 J) (hinj:∀J H ys,HI c J H->Ut J H->dF c.K H a ys->ys=vs):Walk c (zy c.K a) ds J1 Ut:=by intro i J H hp u;have h':=cV hp.sub (cV (hu J H u) h);refine ⟨λhl=>⟨vs,h',by rw [<-hs.length];exact hl⟩,λd hd=>?_⟩;obtain ⟨v,h1,h2⟩:=hs.get hd;refine ⟨⟨vs,v,h',h1⟩,λx H2 ⟨e,hy⟩=>?_⟩;subst e;have:=hy vs h';rw [h1] at this;cases this;exact ⟨J,Ext.refl hp.sub,h2.mono (hu J _ u)⟩
theorem lz {J1:Hp}{a:PK}{vs:List V}{ds:List D}(h:cX c.K J1 a vs\/cX c.K c.H0 a vs) (hs:aT c.K J1 ds vs):Walk c (zx c.K a) ds J1 (λJ' _=>aV J1 J'):=by intro i J H hp u;have h':cX c.K H a vs:=h.elim (λh=>hp.sub.seq (u.seq h)) λh=>hp.ent.seq h;refine ⟨λhl=>⟨vs,h',by rw [<-hs.length];exact hl⟩,λd hd=>?_⟩;obtain ⟨v,h1,h2⟩:=hs.get hd;refine ⟨⟨vs,v,h',h1⟩,λx H2 ⟨e,hy⟩=>?_⟩;subst e;have:=hy vs h';rw [h1] at this;cases this;exact ⟨J,Ext.refl hp.sub,h2.mono u⟩
noncomputable def eg (lo:Int) (n:Nat):List D:=(Qc n).map λ(k:Nat)=>.int (lo + (k:Int))
theorem tZ {J1:Hp}{lo:Int}{n:Nat}{Ut:Hp->Hp->Prop}:Walk c (Bo lo n) (eg lo n) J1 Ut:=by
 intro i J H hp u;refine ⟨λhl=>(show n<=i by simpa [eg] using hl),λd hd=>?_⟩;have hi:i < n:=by have:=(Qd.mp hd).1;simpa [eg] using this
 have hd':d=.int (lo + i):=by unfold eg at hd;rw [Qg,List.getElem?_range hi] at hd;exact (P7 hd).symm
 subst hd';exact ⟨hi,λx H2 ⟨e,hx⟩=>by subst e hx;exact ⟨J,Ext.refl hp.sub,.int _⟩⟩
noncomputable def dJ (gs:G (List R)):G (List D):=λenv=>gs env >>= λrs=>match rs with
 | [.d (.int j)]=>if below 4611686018427387904 j then .ok (eg 0 j.toNat) else .bad
 | _=>.bad
noncomputable def wg (gs:G (List R)):G (List D):=λenv=>gs env >>= λrs=>match rs with
 | [.d (.int i),.d (.int j)]=>if below 4611686018427387904 i && below 4611686018427387904 j then .ok (eg i (j - i).toNat) else .bad
 | _=>.bad
noncomputable def MZ (c:C) (g:G (List D)):TI:=λσ H Q=>∃J env,SR c J H σ env/\cg (g env) (λds=>∀It J1 H1,Ext J H J1 H1->Walk c It ds J1 (λJ' H'=>aV J1 J'/\aV H1 H')->Q It H1) c.T
noncomputable def LH (X:Cx) (c:C) (tg Pa:Qq) (g:G (List D)):Prop:=PI X tg Pa (MZ c g)
end
section
variable {X:Cx}{c:C}{e a b tg:Qq}{es:List Qq}{ga gb g:G R}{pos:Pos}
theorem SR.updM {J H:Hp}{σ:L2.St}{env:Ev}(sr:SR c J H σ env){i:Nat}{x y:Mn}{p:PK}{o:HO}(hi:env[i]?=some (some (mS x))) (hs:σ[i]?=some (some (.ref p))) (hJ:J p=none) (h0:c.H0 p=none)
  (h:iK c J (L2.upd H p o) (mS y) (.ref p)) (hy:∀xs,y≠.nst xs:=by exact λ_ z=>nomatch z):SR c J (L2.upd H p o) σ (env.set i (some (mS y))):=by
 refine ⟨⟨λb o q=>?_,λb o q=>?_,sr.hp.entJ,sr.hp.frz⟩,by simpa using sr.len,λj y q=>?_,λj k ys zs w hjk q1 q2 q3 q4=>?_,sr.sp2.keep λk xs q=>?_⟩
 ·have:b≠p:=λz=>by rw [z,hJ] at q;cases q
  rw [aW this];exact sr.hp.sub b o q
 ·have:b≠p:=λz=>by rw [z,h0] at q;cases q
  rw [aW this];exact sr.hp.ent b o q
 ·rcases cR q with ⟨rfl,hl,rfl⟩ | ⟨hj,q⟩
  ·exact ⟨.ref p,hs,h⟩
  ·obtain ⟨w,k1,k2⟩:=sr.at_ j y q;refine ⟨w,k1,?_⟩;have hne:∀(z:Mn) p',y=mS z->w=.ref p'->p'≠p:=λz p' e ew ep=>sr.sep i j x z (.ref p) (QC hj) hi (e▸q) hs (ep▸ew▸k1);cases y with
   | d x=>exact k2
   | bor zs=>exact k2
   | db _ _=>exact k2
   | fn _=>exact k2
   | tn _=>exact k2
   | dk ks zs=>
    obtain ⟨p',rfl,⟨us,ws,ep,m1,mr⟩,m2⟩:=k2;exact ⟨p',rfl,⟨us,ws,ep,by rw [aW (hne (.inr (ks,zs)) p' rfl rfl)];exact m1,mr⟩,m2⟩
   | own zs=>
    obtain ⟨p',us,rfl,m1,m2,m3,m4⟩:=k2;exact ⟨p',us,rfl,by rw [aW (hne (.inl zs) p' rfl rfl)];exact m1,m2,m3,m4⟩
   | ow2 zs=>
    obtain ⟨p',us,rfl,m1,m2,m3,m4⟩:=k2;exact ⟨p',us,rfl,by rw [aW (hne (.nst zs) p' rfl rfl)];exact m1,m2,m3,m4⟩
 ·have f:∀(k:Nat) (ys:Mn),(env.set i (some (mS y)))[k]?=some (some (mS ys))->∃ys',env[k]?=some (some (mS ys')):=λk ys q=>by
   rcases cR q with ⟨rfl,_,_⟩ | ⟨_,q⟩
   ·exact ⟨x,hi⟩
   ·exact ⟨ys,q⟩
  obtain ⟨ys',r1⟩:=f j ys q1;obtain ⟨zs',r2⟩:=f k zs q2;exact sr.sep j k ys' zs' w hjk r1 r2 q3 q4
 ·rcases cR q with ⟨rfl,_,e⟩ | ⟨hk,q⟩
  ·exact (hy xs (by cases y <;> cases e;rfl)).elim
  ·obtain ⟨p',vs,m1,m2,_,_,_,m3⟩:=sr.nst q;have hne:p'≠p:=λe=>sr.sep i k x (.nst xs) (.ref p) (QC hk) hi q hs (e▸m1);exact ⟨⟨xs,q⟩,(kO m1 (by rw [aW hne];exact m2)).trans m3.symm⟩
theorem SR.upd {J H:Hp}{env:Ev}(sr:SR c J H σ env) (hi:env[i]?=some (some (.own xs))) (hs:σ[i]?=some (some (.ref p))) (hH:H p=some (.lst vs)) (hJ:J p=none) (h0:c.H0 p=none)
 (h:aT c.K J xs' vs'):SR c J (L2.upd H p (.lst vs')) σ (env.set i (some (.own xs'))):=sr.updM (x:=.inl xs) (y:=.inl xs') hi hs hJ h0 ⟨p,vs',rfl,bI,hJ,h0,h⟩
noncomputable def dW (i:Nat) (g:G R):G O:=λenv=>match env[i]? with
 | some (some (.own xs))=>g env >>= λr=>toD r >>= λd=>if xs.length < sizeLine then .ok (.nx (env.set i (some (.own (xs++[d]))))) else .bad
 | _=>.bad
noncomputable def bh:R->S
 | .d x=>.d x
 | .l _ xs=>.bor xs
 | .mo ks vs=>.db ks vs
 | .mb ks vs=>.db ks vs
 | .mf ks vs=>.db ks vs
 | .ln xs=>.bor xs
noncomputable def jL (K:Pe) (J H:Hp):List S->List V->Prop
 | [],vs=>vs=[]
 | s::ss,vs=>∃v us,vs=v::us/\(match s with
  | .d x=>Rep K J x v
  | .bor xs=>∃a ws,v=.ref a/\cX K H a ws/\aT K J xs ws
  | .db ks ws=>∃a,v=.ref a/\ie K J H a ks ws
  | .fn x=>∃f,v=.ref f/\PR K Pz x=some (some (.ref f))
  | _=>False)/\jL K J H ss us
theorem jL.length {K:Pe}{J H:Hp}:∀{ss:List S}{vs:List V},jL K J H ss vs->vs.length=ss.length
 | [],_,h=>by cases h;rfl
 | _::_,_,⟨_,_,h,_,h2⟩=>by subst h;exact congrArg (· + 1) h2.length
theorem jL.get {K:Pe}{J H:Hp}:∀{ss:List S}{vs:List V}{i:Nat}{s:S},jL K J H ss vs->ss[i]?=some s->∃v,vs[i]?=some v/\(match s with
  | .d x=>Rep K J x v
  | .bor xs=>∃a ws,v=.ref a/\cX K H a ws/\aT K J xs ws
  | .db ks ws=>∃a,v=.ref a/\ie K J H a ks ws
  | .fn x=>∃f,v=.ref f/\PR K Pz x=some (some (.ref f))
  | _=>False)
 | [],_,_,_,_,e=>by simp at e
 | _::_,_,0,_,⟨v,us,h,h1,h2⟩,e=>by simp at e;subst e;subst h;exact ⟨v,rfl,h1⟩
 | _::_,_,i + 1,s,⟨v,us,h,h1,h2⟩,e=>by subst h;obtain ⟨v,k1,k2⟩:=jL.get (i:=i) (s:=s) h2 (by simpa using e);exact ⟨v,by simpa using k1,k2⟩
noncomputable def FR (K:Pe) (H J' H':Hp):R->V->Prop
 | .d x,v=>Rep K J' x v
 | .l _ xs,v=>∃a vs,v=.ref a/\H' a=some (.lst vs)/\J' a=none/\H a=none/\aT K J' xs vs
 | .mf ks vs,v=>∃a,v=.ref a/\ie K J' H' a ks vs/\J' a=none/\H a=none
 | .ln xs,v=>∃a vs,v=.ref a/\H' a=some (.lst vs)/\J' a=none/\H a=none/\NR K J' (λb=>H b=none) xs vs
 | _,_=>False
noncomputable def ou (K:Pe) (n:Nat) (F:List S->M R):Sp:=λvs H Q _=>∃J as,aV J H/\as.length=n/\jL K J H as vs/\cg (F as) (λr=>∀v J' H',Ext J H J' H'->FR K H J' H' r v->Q v H') (λ_=>False)
noncomputable def fin:M O->M R
 | .ok (.rt r)=>.ok r
 | .ok (.nx _)=>.ok (.d .non)
 | .exc x=>.exc x
 | _=>.bad
noncomputable def ay (N:List Str) (as:List S):Ev:=as.map some++Qe (N.length - as.length) none
theorem vt {N:List Str}{as:List S}{i:Nat}{x:S}(h:(ay N as)[i]?=some (some x)):as[i]?=some x:=by
 unfold ay at h;by_cases hi:i < as.length
 ·rw [Q2 (by simpa using hi),Qg] at h;cases q:as[i]? with
  | none=>rw [q] at h;cases h
  | some y=>rw [q] at h;cases h;rfl
 ·rw [Qy (by simpa using hi),S7] at h;split at h <;> cases h
theorem Eu {N:List Str}{vs:List V}{i:Nat}{v:V}(h:vs[i]?=some v):(L2.start N vs)[i]?=some (some v):=by unfold L2.start;have hi:i < vs.length:=(Qd.mp h).1;rw [Q2 (by simpa using hi),Qg,h];rfl
theorem yP {K:Pe}{J H:Hp}{T:Exc->Prop}{N:List Str}{as:List S}{vs:List V}(hs:aV J H) (h:jL K J H as vs):SR ⟨K,H,J,T⟩ J H (L2.start N vs) (ay N as):=by
 have own:∀(i:Nat) (xs:Mn),(ay N as)[i]?≠some (some (mS xs)):=λi xs q=>by obtain ⟨v,_,k⟩:=h.get (vt q);cases xs <;> exact k
 refine ⟨⟨hs,aV.refl H,aV.refl J,λ_ _ q=>q⟩,?_,λi x q=>?_,λi j xs ys v _ q=>absurd q (own i xs),λi j xs ys _ q=>absurd q (own i (.nst xs))⟩
 ·unfold ay L2.start;rw [Pu,Pu,Pj,Pj,QE,QE,h.length]
 ·obtain ⟨v,k1,k2⟩:=h.get (vt q);refine ⟨v,Eu k1,?_⟩;cases x with
  | d y=>exact k2
  | own y=>exact k2.elim
  | bor y=>exact k2
  | dk _ _=>exact k2.elim
  | db _ _=>exact k2
  | fn _=>exact k2
  | ow2 _=>exact k2.elim
  | tn _=>exact k2.elim
noncomputable abbrev u0 (P:PX) (w:Qn) (K:Pe) (mg:Str->Option Ph) (base:QV) (N:List Str) (Pb:Str) (sc:SJ) (f:PK) (cd:Ph) (A:Qx) (outer:List Env) (s:Pk) (H:Hp) (E:XK):Cx:=(lG lT P w K mg base N Pb sc f cd A outer s H E).nox
theorem BN {P:PX}{w:Qn}{K:Pe}{mg:Str->Option Ph}{base:QV}{x Pb:Str}{st:RV}{f:PK}{fd:Qi}{N ps:List Str}{k:Nat}{Fm:List S->M R}(F:gz K x Pb st f fd) (Sc:cL N ps (aQ st)){gB:G O}
  (hb:∀(cdv:Ph) (A:Qx) (outer:List Env) (s:Pk) (H:Hp) (E:XK) (J:Hp) (T:Exc->Prop),cH k (A.deeper (SK Pb (aQ st) s.heap.objs.size f cdv))->
   iQ (u0 P w K mg base N Pb (aQ st) f cdv A outer s H E) (bW st) (tW ⟨K,H,J,T⟩ gB))
  (hF:∀as r,as.length=ps.length->Fm as=.ok r->fin (gB (ay N as))=.ok r):fL P w K mg base lT (k + 1) f fd ps (ou K ps.length Fm):=by
 refine F.ok Sc (λvs H Q E h=>?_) (λcdv A outer s H vs Q E hr h=>?_)
 ·obtain ⟨J,as,h1,h2,h3,h4⟩:=h;rw [h3.length,h2]
 ·obtain ⟨J,as,h1,h2,h3,h4⟩:=h;refine ⟨_,hb cdv A outer s H E J (λ_=>False) hr,J,ay N as,yP h1 h3,?_⟩;cases q:Fm as with
  | bad=>rw [q] at h4;exact h4.elim
  | exc x=>rw [q] at h4;exact h4.elim
  | ok r=>
   rw [q] at h4;have z:=hF as r h2 q;have ext:∀{J' H':Hp},HI ⟨K,H,J,λ_=>False⟩ J' H'->Ext J H J' H':=λhp=>⟨hp.ent,hp.entJ,hp.sub,hp.frz⟩;cases qg:gB (ay N as) with
   | bad=>rw [qg] at z;cases z
   | exc x=>rw [qg] at z;cases z
   | ok o=>
    rw [qg] at z;cases o with
    | bk _=>cases z
    | ct _=>cases z
    | nx env=>cases z;exact λσ' J' H' _ sr=>h4 .non J' H' (ext sr.hp) .non
    | rt r'=>
     cases z;exact λv J' H' _ hp rf=>h4 v J' H' (ext hp) (by
      cases r with
      | d x=>exact rf
      | l m xs=>exact rf
      | mo _ _=>exact rf
      | mf _ _=>exact rf
      | ln _=>exact rf
      | mb _ _=>exact rf)
theorem BL {P:PX}{w:Qn}{K:Pe}{mg:Str->Option Ph}{base:QV}{x Pb:Str}{st:RV}{f:PK}{fd:Qi}{N ps:List Str}{k:Nat}{Fm:List S->M R}(F:gz K x Pb st f fd) (Sc:cL N ps (aQ st)){gB:G O}
  (hb:∀(cdv:Ph) (A:Qx) (outer:List Env) (s:Pk) (H:Hp) (E:XK) (J:Hp) (T:Exc->Prop),cH k (A.deeper (SK Pb (aQ st) s.heap.objs.size f cdv))->
   EL (u0 P w K mg base N Pb (aQ st) f cdv A outer s H E) ⟨K,H,J,T⟩ (bW st) gB)
  (hF:∀as r,as.length=ps.length->Fm as=.ok r->fin (gB (ay N as))=.ok r):fL P w K mg base lT (k + 1) f fd ps (ou K ps.length Fm):=BN F Sc (λcdv A outer s H E J T hr=>pC (hb cdv A outer s H E J T hr) λ_ _ _ q=>Bb q) hF
noncomputable def bA:R->R
 | .d x=>.d x
 | .l _ xs=>.l .fresh xs
 | .mo ks vs=>.mo ks vs
 | .mb ks vs=>.mb ks vs
 | .mf ks vs=>.mf ks vs
 | .ln xs=>.ln xs
noncomputable def au (n:Nat) (F:List S->M R):List R->M R:=λrs=>if rs.length=n then (match F (rs.map bh) with
 | .ok r=>.ok (bA r)
 | _=>.bad) else .bad
theorem kE.args {He J H:Hp}(hp:HI c J H):∀{rs:List R}{vs:List V},kE c He J H rs vs->jL c.K J H (rs.map bh) vs
 | [],_,h=>h
 | r::rs,_,⟨v,us,h,h1,h2⟩=>by
  refine ⟨v,us,h,?_,kE.args hp h2⟩;cases r with
  | d x=>exact h1
  | l m xs=>exact RR.list hp h1 rfl
  | mo _ _=>obtain ⟨a,h1,h2,_⟩:=h1;exact ⟨a,h1,h2⟩
  | mb _ _=>obtain ⟨a,h1,h2⟩:=h1;exact ⟨a,h1,h2.mono (aV.refl _) hp.ent⟩
  | mf _ _=>obtain ⟨a,h1,h2,_⟩:=h1;exact ⟨a,h1,h2⟩
  | ln _=>obtain ⟨a,vs,h1,h2,_,_,h5⟩:=h1;exact ⟨a,vs,h1,.inl (.inl h2),h5.reps⟩
theorem Ls {F:List S->M R}{J H J1 H1:Hp}{Q:VK}{as:List S}{T:Exc->Prop}(hT:c.K=X.K) (e1:Ext J H J1 H1) (ar:jL c.K J1 H1 as vs) (hl:as.length=n)
 (wr:cg (match F as with
 | .ok r=>.ok (bA r)
 | _=>.bad) (λr=>∀v J' H',Ext J H J' H'->RR c H J' H' r v->Q v H') T):ou X.K n F (vs++[]) H1 Q E0:=by
 rw [hT] at ar;refine ⟨J1,as,e1.sub,hl,by rw [Ql];exact ar,?_⟩;cases q:F as with
 | bad=>rw [q] at wr;exact wr
 | exc x=>rw [q] at wr;exact wr
 | ok r=>
  rw [q] at wr;intro v J' H' e2 fr;refine wr v J' H' (e1.trans e2) ?_;cases r with
  | d y=>exact (show Rep c.K J' y v from hT▸fr)
  | mo _ _=>exact fr.elim
  | mb _ _=>exact fr.elim
  | mf _ _=>obtain ⟨a,h1,h2,h3,h4⟩:=fr;exact ⟨a,h1,hT▸h2,h3,e1.h.free h4⟩
  | ln _=>obtain ⟨a,us,h1,h2,h3,h4,h5⟩:=fr;exact ⟨a,us,h1,h2,h3,e1.h.free h4,hT▸h5.mono (aV.refl _) λ_ h=>e1.h.free h⟩
  | l m ys=>
   obtain ⟨a,us,h1,h2,h3,h4,h5⟩:=fr;exact ⟨a,us,h1,h2,h3,e1.h.free h4,hT▸h5⟩
theorem Dt {n:Nat}{F:List S->M R}{gs:G (List R)}(hT:c.K=X.K):∀σ H Q,tD c (gN (au n F) gs) σ H Q->Ba (ou X.K n F) [] E0 (tA c gs) σ H Q:=λσ H Q ⟨J,env,sr,w⟩=>by
 refine ⟨J,env,sr,aB (aH w) λrs wr vs J1 H1 e1 r1=>?_⟩;unfold au at wr;split at wr
 ·rename_i hl;exact Ls hT e1 (r1.args (sr.hp.ext e1)) (by simpa using hl) wr
 ·exact wr.elim
theorem GQ {F:List S->M R}{gs:G (List R)}(G:fL X.prog X.w X.K X.mg X.base lT k f fd ps (ou X.K n F)) (hr:cH k X.A) (hm:X.mg x=some (.ref f)) (hk:QN X.K (.ref f)=true)
 (hb:Binds X.K fd ps []) (ha:wN X c (e::es) gs) (hT:autoParam (c.K=X.K) zA._auto_1) (hg:autoParam (Gl X x) zA._auto_1) (hdb:autoParam ((x == ("__debug__":Str))=false) zB._auto_1) (he:autoParam (Po (e::es) X.env=(false,eval e X.env)::Po es X.env) zA._auto_1)
 (hpl:autoParam ((Ra pos (Po es X.env)).any (·.1)=false) zA._auto_1):PD X c (.Call (.Name x p) (e::es) [] pos) (gN (au n F) gs):=
 fc (uH (E:=E0) G hr hg hm hk hb .nil Lb ha hdb he hpl) (Dt hT)
end
noncomputable def gw (cells:List (Str×PK)):List (Str×RZ)->List (Str×PK)->Option (List (Str×PK))
 | [],cs=>some cs
 | (n,k)::r,cs=>if k == .free then (match cells.lookup n with
  | some a=>gw cells r ((n,a)::cs)
  | none=>none) else gw cells r cs
theorem lE {env:Env}:∀(names:List (Str×RZ)) (cs cl:List (Str×PK)),gw env.cells names cs=some cl->
  (forIn names cs λ(x:Str×RZ) (r:List (Str×PK))=>(if (x.2 == .free)=true then do let a <-cellOf env x.1;pure (RT ((x.1,a)::r)) else pure (RT r):Sem (ForInStep (List (Str×PK)))))=(pure cl:Sem (List (Str×PK)))
 | [],cs,cl,h=>by cases h;rfl
 | (n,k)::r,cs,cl,h=>by
  unfold gw at h;rw [Vm];cases hk:(k == Ri) with
  | true=>
   rw [hk,if_pos rfl] at h;cases hc:env.cells.lookup n with
   | none=>rw [hc] at h;cases h
   | some a=>
    rw [hc] at h;have e:cellOf env n=pure a:=by unfold cellOf;rw [hc]
    simp only [hk,if_true,e];exact lE r ((n,a)::cs) cl h
  | false=>
   rw [hk,if_neg (by decide)] at h;simp only [hk];exact lE r cs cl h
theorem vR {O5:SJ}{env:Env}(h:gw env.cells O5.names []=some cl):closureFor O5 env=pure cl:=by have q:=lE (env:=env) O5.names [] cl h;unfold closureFor;show ((forIn O5.names [] λ(x:Str×RZ) (r:List (Str×PK))=>(if (x.2 == .free)=true then do let a <-cellOf env x.1;pure (RT ((x.1,a)::r)) else pure (RT r):Sem (ForInStep (List (Str×PK))))) >>= λz=>pure z)=pure cl;rw [q];rfl
theorem iR {cells:List (Str×PK)}:∀(names:List (Str×RZ)) (cs cl:List (Str×PK)),gw cells names cs=some cl->(∀x c,cs.lookup x=some c->cells.lookup x=some c)->
  (∀x c,cl.lookup x=some c->cells.lookup x=some c)/\(∀x,((cs.lookup x).isSome=true\/(x,Ri)∈names)->(cl.lookup x).isSome=true)
 | [],cs,cl,h,k=>by cases h;exact ⟨k,λx hx=>hx.elim id λz=>by cases z⟩
 | (n,kd)::r,cs,cl,h,k=>by
  unfold gw at h;cases hk:(kd == Ri) with
  | true=>
   rw [hk,if_pos rfl] at h;cases hc:cells.lookup n with
   | none=>rw [hc] at h;cases h
   | some a=>
    rw [hc] at h;obtain ⟨h1,h2⟩:=iR r ((n,a)::cs) cl h (λx c q=>by
     rw [Rj] at q;cases e:x == n with
     | true=>
      rw [e] at q;cases q;have:x=n:=by simpa using e
      rw [this];exact hc
     | false=>rw [e] at q;exact k x c q)
    refine ⟨h1,λx hx=>h2 x ?_⟩;by_cases e:x=n
    ·left;subst e;rw [Rj];simp
    ·have e':(x == n)=false:=by simpa using e
     rcases hx with hx | hx
     ·left;rw [Rj,e'];exact hx
     ·right;rcases Pp.mp hx with z | z
      ·cases z;exact absurd rfl e
      ·exact z
  | false=>
   rw [hk,if_neg (by decide)] at h;obtain ⟨h1,h2⟩:=iR r cs cl h k;refine ⟨h1,λx hx=>h2 x ?_⟩;rcases hx with hx | hx
   ·exact .inl hx
   ·rcases Pp.mp hx with z | z
    ·cases z;simp at hk
    ·exact .inr z
section
variable {X:Cx}
noncomputable def cN (X:Cx) (own:List Str) (cap:List Nat):List Str:=own++cap.map λ(j:Nat)=>(X.N[j]?).getD ("":Str)
noncomputable def IF (X:Cx) (own:List Str) (cap:List Nat) (O5:SJ) (cl:List (Str×PK)) (C:PK) (s:Pk) (H:Hp) (fp:List PK):Cx where
 prog:=X.prog
 w:=X.w
 K:=X.K
 mg:=X.mg
 base:=X.base
 A:=X.A
 N:=cN X own cap
 s₀:=s
 H₀:=H
 env:=compEnvC O5 cl C X.env
 outer:=X.stack
 stack:=X.stack
 ex:=fp
 fn:=λ_=>false
 calm:=X.calm
 pn:=[]
 xe:=λ_ _=>False
noncomputable def pU (X:Cx) (cap:List Nat):Bool:=cap.all λj=>match X.N[j]? with
 | some x=>(match X.env.scope.names.lookup x with
  | some .cell=>true
  | some .free=>true
  | _=>false)
 | none=>false
theorem yF {O5:SJ}(hc:∀y∈O5.names,y.2≠.cell):∀{x:Str},((relabel O5 env).names.lookup x=some .cell\/(relabel O5 env).names.lookup x=some .free)->(x,Ri)∈O5.names:=by
 unfold relabel;have main:∀(names:List (Str×RZ)),(∀y∈names,y.2≠.cell)->∀x,((names.map λ(n,k)=>if (k == Ri && env.scope.kind == .function && env.kindOf n == some .cell) then (n,S9) else (n,k)).lookup x=some .cell\/
   (names.map λ(n,k)=>if (k == Ri && env.scope.kind == .function && env.kindOf n == some .cell) then (n,S9) else (n,k)).lookup x=some .free)->(x,Ri)∈names:=by
  intro names
  induction names with
  | nil=>intro _ x h;simp at h
  | cons p r ih=>
   obtain ⟨n,k⟩:=p;intro hc x h;rw [Qh] at h;simp only at h;by_cases hx:x=n
   ·subst hx;have hk:k≠.cell:=hc (x,k) P0;have:k=.free:=by
     by_cases q:(k == Ri && env.scope.kind == .function && env.kindOf x == some .cell)=true
     ·rw [Pr,Pr] at q;simpa using q.1.1
     ·rw [if_neg q,Rj] at h;simp at h;rcases h with h | h
      ·exact absurd h hk
      ·exact h
    subst this;exact P0
   ·have hx':(x == n)=false:=by simpa using hx
    refine Py _ (ih (λy hy=>hc y (Py _ hy)) x ?_);have red:∀(q:Str×RZ) (l:List (Str×RZ)),q.1=n->YD x (q::l)=YD x l:=λq l hq=>by obtain ⟨q1,q2⟩:=q;simp only at hq;subst hq;rw [Rj,hx']
    have hq:(if (k == Ri && env.scope.kind == .function && env.kindOf n == some .cell) then (n,S9) else (n,k)).1=n:=by split <;> rfl
    rw [red _ _ hq] at h;exact h
 intro x h;exact main O5.names hc x h
end
section
variable {X:Cx}{c:C}
noncomputable def Dk (X:Cx) (c:C) (ifs:List Qq) (g:G Bool):Prop:=
 ∀(O6:List (PK×Obj)) (s:Pk) (σ:L2.St) (H:Hp) (Q:Bool->Hp->Prop),Inv X O6 σ H s->tB c g σ H Q->
  P_ (Qj X.prog X.w) X.A (forIn ifs true λc r=>if r=true then do let ok <-Ww c X.env (eval c X.env);pure (RT ok) else pure (RT r)) (TP X O6 σ Q) X.xe s
noncomputable def dc:G Bool:=λ_=>.ok true
noncomputable def dR (gt:GT) (gts:G Bool) (ge:G R):List D->Ev->M (List D)
 | [],_=>.ok []
 | d::ds,env=>gt d env >>= λe=>gts e >>= λk=>if k=true then ge e >>= λr=>toD r >>= λy=>dR gt gts ge ds e >>= λys=>.ok (y::ys) else dR gt gts ge ds e
noncomputable def cE (n:Nat) (cap:List Nat) (env:Ev):Ev:=Qe n none++cap.map λ(j:Nat)=>(env[j]?).getD none
noncomputable def bC (n:Nat) (cap:List Nat) (gi:G (List D)) (gt:GT) (gts:G Bool) (ge:G R):G R:=λenv=>gi env >>= λds=>if ds.length<=sizeLine then dR gt gts ge ds (cE n cap env) >>= λys=>.ok (.l .fresh ys) else .bad
theorem iE {α:Type}{n:Nat}{cap:List Nat}{env:List (Option α)}{i:Nat}{x:α}(h:(Qe n none++cap.map λ(j:Nat)=>(env[j]?).getD none)[i]?=some (some x)):∃j,n<=i/\cap[i - n]?=some j/\env[j]?=some (some x):=by
 by_cases hi:i < n
 ·rw [Q2 (by simpa using hi),S7] at h;split at h <;> cases h
 ·rw [Qy (by simpa using hi),QE,Qg] at h;cases q:cap[i - n]? with
  | none=>rw [q] at h;cases h
  | some j=>
   rw [q] at h;refine ⟨j,by omega,rfl,?_⟩;have h':(env[j]?).getD none=some x:=P7 h;cases z:env[j]? with
   | none=>rw [z] at h';cases h'
   | some o=>rw [z] at h';exact congrArg some h'
theorem ET {α:Type}{n:Nat}{cap:List Nat}{env:List (Option α)}{i j:Nat}{x:α}(h1:n<=i) (h2:cap[i - n]?=some j) (h3:env[j]?=some (some x)):(Qe n none++cap.map λ(j:Nat)=>(env[j]?).getD none)[i]?=some (some x):=by rw [Qy (by simpa using h1),QE,Qg,h2];simp [h3]
theorem SR.cap {J H:Hp}{σ:L2.St}{env:Ev}(sr:SR c J H σ env) (n:Nat) (cap:List Nat) (hnd:cap.Nodup):SR c J H (Qe n none++cap.map λ(j:Nat)=>(σ[j]?).getD none) (cE n cap env):=by
 refine ⟨sr.hp,by simp [cE],λi x q=>?_,λi j xs ys v hij q1 q2 q3 q4=>?_,sr.sp2.by (λi=>(cap[i - n]?).getD 0) (λi j xs ys hij q1 q2 z=>?_) λi xs q=>?_⟩
 ·obtain ⟨j,h1,h2,h3⟩:=iE q;obtain ⟨v,k1,k2⟩:=sr.at_ j x h3;exact ⟨v,ET h1 h2 k1,k2⟩
 ·obtain ⟨a,h1,h2,h3⟩:=iE q1;obtain ⟨b,h4,h5,h6⟩:=iE q2;obtain ⟨a',h7,h8,h9⟩:=iE q3;obtain ⟨b',O1,h11,h12⟩:=iE q4;rw [h2] at h8;cases h8;rw [h5] at h11;cases h11;have hab:a≠b:=λz=>by subst z;have e1:=(Qd.mp h2);have e2:=(Qd.mp h5);have:=(UW hnd).mp (e1.2.trans e2.2.symm);omega
  exact sr.sep a b xs ys v hab h3 h6 h9 h12
 ·obtain ⟨a,h1,h2,h3⟩:=iE q1;obtain ⟨b,h4,h5,h6⟩:=iE q2;have e1:=(Qd.mp h2);have e2:=(Qd.mp h5);rw [h2,h5] at z;have:=(UW hnd).mp (e1.2.trans ((show a=b from z).trans e2.2.symm));omega
 ·obtain ⟨a,h1,h2,h3⟩:=iE q;obtain ⟨p,vs,m1,m2,_,_,_,m3⟩:=sr.nst h3;rw [h2];exact ⟨⟨xs,h3⟩,(kO (ET h1 h2 m1) m2).trans m3.symm⟩
theorem SR.other {J H:Hp}(sr:SR c J H σ env) (hJ:J p=none) (h0:c.H0 p=none) (hn:∀(j:Nat) (xs:Mn),env[j]?=some (some (mS xs))->σ[j]?≠some (some (.ref p))):SR c J (L2.upd H p o) σ env:=by
 refine ⟨⟨λb u q=>?_,λb u q=>?_,sr.hp.entJ,sr.hp.frz⟩,sr.len,λj y q=>?_,sr.sep,sr.sp2.keep λk xs q=>let ⟨p',vs,m1,m2,_,_,_,m3⟩:=sr.nst q;⟨⟨xs,q⟩,(kO m1 (by rw [aW (show p'≠p from λe=>hn k (.nst xs) q (by rw [<-e];exact m1))];exact m2)).trans m3.symm⟩⟩
 ·have:b≠p:=λz=>by rw [z,hJ] at q;cases q
  rw [aW this];exact sr.hp.sub b u q
 ·have:b≠p:=λz=>by rw [z,h0] at q;cases q
  rw [aW this];exact sr.hp.ent b u q
 ·obtain ⟨w,k1,k2⟩:=sr.at_ j y q;refine ⟨w,k1,?_⟩;cases y with
  | d x=>exact k2
  | bor zs=>exact k2
  | db _ _=>exact k2
  | fn _=>exact k2
  | tn _=>exact k2
  | dk ks zs=>
   obtain ⟨p',rfl,⟨us,ws,ep,m1,mr⟩,m2⟩:=k2;have hne:p'≠p:=λz=>hn j (.inr (ks,zs)) q (z▸k1);exact ⟨p',rfl,⟨us,ws,ep,by rw [aW hne];exact m1,mr⟩,m2⟩
  | own zs=>
   obtain ⟨p',us,rfl,m1,m2,m3,m4⟩:=k2;have hne:p'≠p:=λz=>hn j (.inl zs) q (z▸k1);exact ⟨p',us,rfl,by rw [aW hne];exact m1,m2,m3,m4⟩
  | ow2 zs=>
   obtain ⟨p',us,rfl,m1,m2,m3,m4⟩:=k2;have hne:p'≠p:=λz=>hn j (.nst zs) q (z▸k1);exact ⟨p',us,rfl,by rw [aW hne];exact m1,m2,m3,m4⟩
theorem Ext.other {J H J' H':Hp}(e:Ext J H J' H') (h:H p=none) (hJ:J' p=none):Ext J H J' (L2.upd H' p o):=
 ⟨λb u q=>by rw [aW (e_ q h)];exact e.h b u q,e.j,λb u q=>by
  have:b≠p:=λz=>by rw [z,hJ] at q;cases q
  rw [aW this];exact e.sub b u q,e.frz⟩
theorem zj {H:Hp}(x:gn P w H h) (hn:H a=none) (sb:RA a h h'):gn P w H h':=λb u e=>by
 refine (x b u e).stay (λd v hd q=>(sb.2 d ?_).trans q) (λ_ q=>q) λ_ _ q=>q;rintro rfl;rcases hd with rfl | hd
 ·rw [hn] at e;cases e
 ·rw [hn] at hd;cases hd
theorem MH {O6:List (PK×Obj)}{σ:L2.St}{H:Hp}{s:Pk}{own:List Str}{cap:List Nat}{O5:SJ}{cl:List (Str×PK)}{fp:List PK}{h1:QV}{m:Str->Option Ph}{tk:Nat}(I:Inv X O6 σ H s) (ok:(IF X own cap O5 cl s.heap.objs.size s H fp).Ok)
  (hcl:gw X.env.cells O5.names []=some cl) (hcell:∀y∈O5.names,y.2≠.cell) (hcap:pU X cap=true) (NG:∀j∈cap,∀x,X.N[j]?=some x->(relabel O5 X.env).names.lookup x≠some .local)
  (hns:h1.Ns s.heap.objs.size m) (old:∀b o,s.heap.get? b=some o->h1.get? b=some o):
  Inv (IF X own cap O5 cl s.heap.objs.size s H fp) [] (Qe own.length none++cap.map λ(j:Nat)=>(σ[j]?).getD none) H {s with heap:=h1,toks:=tk}:=by
 obtain ⟨m1,m2⟩:=iR O5.names [] cl hcl (λx c h=>by simp at h);refine ⟨ok,rfl,I.bare,Un.kept old,⟨m,hns,λi x v q1 q2 q3=>?_⟩,λx d h=>?_,I.hok.fresh (PJ _),λx d h=>I.freeC x d (m1 x d h),λp hp=>absurd (show p∈([]:List (PK×Obj)) from hp) (by simp),I.hok.kept old,?_⟩
 ·obtain ⟨j,h2,h3,h4⟩:=iE q2;have q1':(own++cap.map λ(j:Nat)=>(X.N[j]?).getD ("":Str))[i]?=some x:=q1;rw [Qy (by exact h2),Qg,h3] at q1';have hj:j∈cap:=QK h3;have hc:(match X.N[j]? with
   | some x=>(match X.env.scope.names.lookup x with
    | some .cell=>true
    | some .free=>true
    | _=>false)
   | none=>false)=true:=by unfold pU at hcap;exact PF.mp hcap j hj
  cases hx:X.N[j]? with
  | none=>rw [hx] at hc;cases hc
  | some y=>
   rw [W7,hx] at q1';rw [hx] at hc;have e:y=x:=by simpa using q1'
   subst e;have kd:X.env.kindOf y=some .cell\/X.env.kindOf y=some .free:=by
    unfold YT;simp only at hc;split at hc
    ·rename_i z;exact .inl z
    ·rename_i z;exact .inr z
    ·cases hc
   obtain ⟨mX,nX,lX⟩:=I.loc;obtain ⟨u,ru,lu⟩:=lX j y v hx h4 (kd.elim (λz=>.inr (.inl z)) λz=>.inr (.inr z));refine ⟨u,ru,.inr ?_⟩;have kd':(relabel O5 X.env).names.lookup y=some .cell\/(relabel O5 X.env).names.lookup y=some .free:=by
    rcases q3 with z | z | z
    ·exact absurd z (NG j hj y hx)
    ·exact .inl z
    ·exact .inr z
   refine ⟨kd',?_⟩;obtain ⟨d,hd⟩:=Rn.mp (m2 y (.inr (yF hcell kd')));refine ⟨d,hd,?_⟩;rcases lu with ⟨z,_⟩ | ⟨_,d',hd',z⟩
   ·rcases kd with k | k <;> (rw [k] at z;cases z)
   ·have:=m1 y d hd;rw [hd'] at this;cases this;obtain ⟨o,ho,hod⟩:=z;exact ⟨o,old _ _ ho,hod⟩
 ·obtain ⟨v,o,ho,hod⟩:=I.cell x d (m1 x d h);exact ⟨v,o,old _ _ ho,hod⟩
 ·show _=(own++cap.map λ(j:Nat)=>(X.N[j]?).getD ("":Str)).length;simp
noncomputable def BE (X:Cx) (cap:List Nat) (O5:SJ):Bool:=cap.all λj=>match X.N[j]? with
 | some x=>!((relabel O5 X.env).names.lookup x == some .local)
 | none=>true
noncomputable def yi:List Nat->Bool
 | []=>true
 | x::r=>!(r.contains x) && yi r
theorem zX:∀{l:List Nat},yi l=true->l.Nodup
 | [],_=>Xl
 | x::r,h=>by unfold yi at h;rw [Pr] at h;refine RQ.mpr ⟨λz=>?_,zX h.2⟩;have:=h.1;simp [z] at this
theorem Iv {X:Cx}{H:Hp}{s:Pk}(I:L2.Inv X O6 σ H s) (h:s.heap.objs.size<=T):(T∈X.ex\/X.s₀.heap.objs.size<=T)/\T≠X.env.locals/\(∀x c,X.env.cells.lookup x=some c->c≠T)/\∀p∈X.pn++O6,p.1≠T:=by have ne:∀b,b < s.heap.objs.size->b≠T:=λb hb z=>absurd (PM (z▸hb) h) (Q6 _);refine ⟨.inr (P6 I.sz h),(ne _ I.lt).symm,λx c hc=>?_,λp hp=>ne _ (PL (I.pin p hp).1)⟩;obtain ⟨v,o,hv,_⟩:=I.cell x c hc;exact ne _ (PL hv)
theorem Cg {X:Cx}{H:Hp}{s:Pk}{C:PK}{o0:Obj}(I:L2.Inv X O6 σ H s) (ap:(C∈X.ex\/X.s₀.heap.objs.size<=C)/\C≠X.env.locals/\(∀x c,X.env.cells.lookup x=some c->c≠C)/\∀p∈X.pn++O6,p.1≠C) (hf:H C=none) (sb:RA C s.heap h'):L2.Inv X O6 σ H {s with heap:=h'}:=by
 refine I.call' (ch:=[C]) rfl ⟨λb o hb hn _ hx=>?_,λb o hb hn _ hx=>⟨o.slots,?_⟩,λ_ _ _ n _=>n,λb o hb hx=>⟨o,?_⟩,λ_ _ q=>q,λ_ _ _ q=>q,λ_ ps q=>⟨#[],by rw [q];simp⟩⟩ (λa o ha=>?_) I.bare (λb hb=>by rw [P1.mp hb];exact ap)
 ·exact (sb.2 b λz=>hx (by simp [z])).trans hb
 ·exact (sb.2 b λz=>hx (by simp [z])).trans hb
 ·exact (sb.2 b λz=>hx (by simp [z])).trans hb
 ·refine (I.hok a o ha).stay (λb u hb q=>(sb.2 b λz=>?_).trans q) (λ_ q=>q) λ_ _ q=>q;rcases hb with rfl | hb
  ·rw [z,hf] at ha;cases ha
  ·rw [z,hf] at hb;cases hb
end
mutual
noncomputable def eo:D->D->Bool
 | .non,.non=>true
 | .bl p,.bl q=>p == q
 | .bl p,.int q=>(if p then 1 else 0) == q
 | .int p,.bl q=>p == (if q then 1 else 0)
 | .int p,.int q=>p == q
 | .str p,.str q=>p == q
 | .tup p,.tup q=>i9 p q
 | .lst p,.lst q=>i9 p q
 | .emp,.emp=>true
 | .exn _ _ _,.exn _ _ _=>true
 | .dct _ _,.dct _ _=>true
 | _,_=>false
noncomputable def i9:List D->List D->Bool
 | [],[]=>true
 | x::xs,y::ys=>eo x y && i9 xs ys
 | _,_=>false
end
mutual
theorem kF:∀d:D,eo d d=true
 | .non=>by simp [eo]
 | .bl _=>by simp [eo]
 | .int _=>by simp [eo]
 | .str _=>by simp [eo]
 | .tup xs=>by simp only [eo];exact oO xs
 | .lst xs=>by simp only [eo];exact oO xs
 | .emp=>by simp [eo]
 | .exn _ _ _=>by simp [eo]
 | .dct _ _=>by simp [eo]
theorem oO:∀ds:List D,i9 ds ds=true
 | []=>by simp [i9]
 | x::xs=>by simp only [i9,kF x,oO xs,V0]
end
theorem mW:∀{xs ys:List D},xs.length≠ys.length->i9 xs ys=false
 | [],[],h=>absurd rfl h
 | [],_::_,_=>by simp [i9]
 | _::_,[],_=>by simp [i9]
 | x::xs,y::ys,h=>by simp only [i9,mW (xs:=xs) (ys:=ys) (λz=>h (congrArg (· + 1) z)),TH]
noncomputable def nv (xs ys:List D) (j:Nat):Bool:=match xs[j]?,ys[j]? with
 | some x,some y=>eo x y
 | _,_=>false
theorem mY:∀{xs ys:List D},xs.length=ys.length->(Qc xs.length).all (nv xs ys)=i9 xs ys
 | [],[],_=>by simp [i9]
 | x::xs,y::ys,h=>by have ih:=mY (xs:=xs) (ys:=ys) (by simpa using h);rw [P4,U7,S_,SY];simp only [i9];rw [<-ih];rfl
theorem xM (xs ys:List D):((Qc (min xs.length ys.length)).all (nv xs ys) && xs.length == ys.length)=i9 xs ys:=by
 by_cases h:xs.length=ys.length
 ·rw [<-h,Nat.min_self,mY h];simp
 ·rw [mW h,beq_eq_false_iff_ne.mpr h,TH]
section
structure HF (K:Pe) (J:Hp) (s:Pk):Prop where
 t:∀a xs,dF K J a xs->∃O8:List Ph,Vals xs O8/\s.heap.IsTuple a O8.toArray
 l:∀a xs,cX K J a xs->∃O8:List Ph,Vals xs O8/\s.heap.IsList a O8.toArray
 e:∀a,J a=some (.dK [])->∃o,s.heap.get? a=some o/\o.cls=.type "dict"
 d:∀a ep Pd,J a=some (EV a ep Pd)->∃o es,s.heap.get? a=some o/\o.ExactDict/\o.data=.dict es ep/\VJ Ib Pd es.toList
variable {K:Pe}{J:Hp}{s:Pk}
theorem HF.of {X:Cx}{c:C}{H:Hp}(I:Inv X O6 σ H s) (hs:aV J H):HF X.K J s:=
 ⟨λa xs h=>let ⟨O8,r,p,_⟩:=I.tuple (cV hs h);⟨O8,r,p⟩,λa xs h=>let ⟨O8,r,p,_⟩:=I.list (hs.seq h);⟨O8,r,p.isList⟩,λa h=>by
  obtain ⟨_,_,vs,_,p⟩:=(show dX X.prog X.w H s.heap a (.dK []) from I.hok a _ (hs _ _ h));obtain ⟨o,es,ep,h1,h2,_⟩:=p;exact ⟨o,h1,h2.1⟩,λa ep Pd h=>(show dX X.prog X.w H s.heap a (EV a ep Pd) from I.hok a _ (hs _ _ h)).1⟩
theorem BU {xs ys:List Ph}(h:s.heap.IsTuple a xs.toArray) (h':s.heap.IsTuple a ys.toArray):xs=ys:=by
 obtain ⟨o,ho,_,n,hd⟩:=h;obtain ⟨o',ho',_,n',hd'⟩:=h';rw [ho] at ho';cases ho';rw [hd] at hd';injection hd' with h1 _
 simpa using congrArg Vd h1
theorem AQ {xs ys:List Ph}(h:s.heap.IsList a xs.toArray) (h':s.heap.IsList a ys.toArray):xs=ys:=by
 obtain ⟨o,ho,_,n,hd⟩:=h;obtain ⟨o',ho',_,n',hd'⟩:=h';rw [ho] at ho';cases ho';rw [hd] at hd';injection hd' with h1 _
 simpa using congrArg Vd h1
mutual
theorem Rep.inj (F:HF K J s):∀{d e:D}{v:V},Rep K J d v->Rep K J e v->dep d<=1000->dep e<=1000->d=e
 | _,_,_,.emp _,_,h,_=>by unfold dep at h;omega
 | _,_,_,.exn _ _ _ _ _,_,h,_=>by unfold dep at h;omega
 | _,_,_,.dct _ _ _ _ _,_,h,_=>by unfold dep at h;omega
 | _,_,_,.non,.non,_,_=>rfl
 | _,_,_,.bl _,.bl _,_,_=>rfl
 | _,_,_,.int _,.int _,_,_=>rfl
 | _,_,_,.str _,.str _,_,_=>rfl
 | _,_,_,.tup _ _,.emp _,_,h=>by unfold dep at h;omega
 | _,_,_,.lst _ _,.emp _,_,h=>by unfold dep at h;omega
 | _,_,_,.tup _ _,.exn _ _ _ _ _,_,h=>by unfold dep at h;omega
 | _,_,_,.tup _ _,.dct _ _ _ _ _,_,h=>by unfold dep at h;omega
 | _,_,_,.lst _ _,.exn _ _ _ _ _,_,h=>by unfold dep at h;omega
 | _,_,_,.lst _ _,.dct _ _ _ _ _,_,h=>by unfold dep at h;omega
 | _,_,_,.tup h hs,.tup h' hs',k,k'=>by obtain ⟨O8,r,p⟩:=F.t _ _ h;obtain ⟨its',r',p'⟩:=F.t _ _ h';have:=BU p p';subst this;have:=r.inj r';subst this;rw [aT.inj F hs hs' (by unfold dep at k;omega) (by unfold dep at k';omega)]
 | _,_,_,.lst h hs,.lst h' hs',k,k'=>by obtain ⟨O8,r,p⟩:=F.l _ _ h;obtain ⟨its',r',p'⟩:=F.l _ _ h';have:=AQ p p';subst this;have:=r.inj r';subst this;rw [aT.inj F hs hs' (by unfold dep at k;omega) (by unfold dep at k';omega)]
 | _,_,_,.tup h _,.lst h' _,_,_=>by obtain ⟨O8,r,p⟩:=F.t _ _ h;obtain ⟨its',r',p'⟩:=F.l _ _ h';exact absurd rfl (U8 p' p)
 | _,_,_,.lst h _,.tup h' _,_,_=>by obtain ⟨O8,r,p⟩:=F.l _ _ h;obtain ⟨its',r',p'⟩:=F.t _ _ h';exact absurd rfl (U8 p p')
theorem aT.inj (F:HF K J s):∀{ds es:List D}{vs:List V},aT K J ds vs->aT K J es vs->deps ds<=1000->deps es<=1000->ds=es
 | _,_,_,.nil,.nil,_,_=>rfl
 | _,_,_,.cons h hs,.cons h' hs',k,k'=>by rw [Rep.inj F h h' (by unfold deps at k;omega) (by unfold deps at k';omega),aT.inj F hs hs' (by unfold deps at k;omega) (by unfold deps at k';omega)]
end
theorem jg {A:Qx}(h:s.heap.IsTuple a O8) (r:RelV v u) (f:sd v=true) (hu:A.units < T3):R_ A s (.ref a) u false/\R_ A s u (.ref a) false:=by
 cases v with
 | non=>cases r;exact ⟨.tuple_none h hu,.none_tuple h hu⟩
 | bl b=>cases r;exact ⟨.tuple_bool b h hu,.bool_tuple b h hu⟩
 | int i=>obtain ⟨t,rfl⟩:=r;exact ⟨.tuple_int i t h hu,.int_tuple i t h hu⟩
 | str x=>obtain ⟨t,rfl⟩:=r;exact ⟨.tuple_str x t h hu,.str_tuple x t h hu⟩
 | _=>exact absurd (show false=true from f) Qu
theorem jH {A:Qx}(h:s.heap.IsList a O8) (r:RelV v u) (f:sd v=true) (hu:A.units < T3):R_ A s (.ref a) u false/\R_ A s u (.ref a) false:=by
 cases v with
 | non=>cases r;exact ⟨.list_none h hu,.none_list h hu⟩
 | bl b=>cases r;exact ⟨.list_bool b h hu,.bool_list b h hu⟩
 | int i=>obtain ⟨t,rfl⟩:=r;exact ⟨.list_int i t h hu,.int_list i t h hu⟩
 | str x=>obtain ⟨t,rfl⟩:=r;exact ⟨.list_str x t h hu,.str_list x t h hu⟩
 | _=>exact absurd (show false=true from f) Qu
noncomputable def o7:D->Bool
 | .tup _=>false
 | .lst _=>false
 | .emp=>false
 | .exn _ _ _=>false
 | .dct _ _=>false
 | _=>true
theorem Rep.flat (h:Rep K J d v) (f:o7 d=true):sd v=true:=by cases h <;> first | rfl | cases f
theorem DA (h:Rep K J d v) (h':Rep K J e w) (f:o7 d=true) (f':o7 e=true):IL v w=eo d e:=by cases h <;> cases h' <;> first | rfl | cases f | cases f' | simp [IL,eo]
theorem in1_units (A:Qx):A.in1.units=A.units + 1:=rfl
theorem r_ (F:HF K J s) (A:Qx) (hd:Rep K J d v) (he:Rep K J e w) (rv:RelV v u) (rw':RelV w u') (f:o7 d=true) (hu:A.units < T3) (hu':dep e<=1000):R_ A s u u' (eo d e):=by
 cases q:o7 e with
 | true=>rw [<-DA hd he f q];exact IK rv rw' (hd.flat f) (he.flat q)
 | false=>
  cases he with
  | tup h' hs'=>
   cases rw';obtain ⟨its',r',p'⟩:=F.t _ _ h';have:=(jg p' rv (hd.flat f) hu).2;cases hd <;> first | exact this | cases f
  | lst h' hs'=>
   cases rw';obtain ⟨its',r',p'⟩:=F.l _ _ h';have:=(jH p' rv (hd.flat f) hu).2;cases hd <;> first | exact this | cases f
  | emp _=>unfold dep at hu';omega
  | exn _ _ _ _ _=>unfold dep at hu';omega
  | dct _ _ _ _ _=>unfold dep at hu';omega
  | _=>cases q
mutual
theorem BI (F:HF K J s):∀{d e:D}{v w:V}{u u':Ph}(A:Qx),Rep K J d v->Rep K J e w->RelV v u->RelV w u'->A.units + dep d < T3->dep d<=1000->dep e<=1000->R_ A s u u' (eo d e)
 | .tup ds,e,_,w,u,u',A,.tup h hs,he,rv,rw',hu,hd1,hu'=>by
  cases rv;obtain ⟨O8,r,p⟩:=F.t _ _ h;have M_:A.units < T3:=by unfold dep at hu;omega
  cases he with
  | tup h' hs'=>
   cases rw';obtain ⟨its',r',p'⟩:=F.t _ _ h';rename_i a vs b ws es;by_cases q:a=b
   ·subst q;have:=Rep.inj F (.tup h hs) (.tup h' hs') hd1 hu';rw [<-this,kF];exact Vh _
   ·have l1:O8.length=ds.length:=by rw [<-r.length,hs.length]
    have l2:its'.length=es.length:=by rw [<-r'.length,hs'.length]
    simp only [eo];rw [<-xM,<-l1,<-l2];refine V2 q ?_;have:=Wi (e:=nv ds es) p p' M_ λj j1 j2=>by
     have k1:j < ds.length:=by rw [<-l1];simpa using j1
     have k2:j < es.length:=by rw [<-l2];simpa using j2
     have:=l0 F A.in1 hs hs' r r' (by rw [in1_units];unfold dep at hu;omega) (by unfold dep at hd1;omega) (by unfold dep at hu';omega) j k1 k2;have m1:j < O8.length:=by simpa using j1
     have m2:j < its'.length:=by simpa using j2
     simpa [m1,m2] using this
    simpa using this
  | lst h' hs'=>
   cases rw';obtain ⟨its',r',p'⟩:=F.l _ _ h';exact Yd p p' M_
  | non=>exact (jg p rw' rfl M_).1
  | bl _=>exact (jg p rw' rfl M_).1
  | int _=>exact (jg p rw' rfl M_).1
  | str _=>exact (jg p rw' rfl M_).1
  | emp _=>unfold dep at hu';omega
  | exn _ _ _ _ _=>unfold dep at hu';omega
  | dct _ _ _ _ _=>unfold dep at hu';omega
 | .lst ds,e,_,w,u,u',A,.lst h hs,he,rv,rw',hu,hd1,hu'=>by
  cases rv;obtain ⟨O8,r,p⟩:=F.l _ _ h;have M_:A.units < T3:=by unfold dep at hu;omega
  cases he with
  | lst h' hs'=>
   cases rw';obtain ⟨its',r',p'⟩:=F.l _ _ h';rename_i a vs b ws es;by_cases q:a=b
   ·subst q;have:=Rep.inj F (.lst h hs) (.lst h' hs') hd1 hu';rw [<-this,kF];exact Vh _
   ·have l1:O8.length=ds.length:=by rw [<-r.length,hs.length]
    have l2:its'.length=es.length:=by rw [<-r'.length,hs'.length]
    simp only [eo];refine V2 q ?_;by_cases z:ds.length=es.length
    ·rw [<-mY z,<-l1];have:=WL (e:=nv ds es) p p' (by simp;omega) M_ λj j1 j2=>by
      have k1:j < ds.length:=by rw [<-l1];simpa using j1
      have k2:j < es.length:=by rw [<-l2];simpa using j2
      have:=l0 F A.in1 hs hs' r r' (by rw [in1_units];unfold dep at hu;omega) (by unfold dep at hd1;omega) (by unfold dep at hu';omega) j k1 k2;have m1:j < O8.length:=by simpa using j1
      have m2:j < its'.length:=by simpa using j2
      simpa [m1,m2] using this
     simpa using this
    ·rw [mW z];exact XC p p' (by simp;omega) M_
  | tup h' hs'=>
   cases rw';obtain ⟨its',r',p'⟩:=F.t _ _ h';exact Ye p p' M_
  | non=>exact (jH p rw' rfl M_).1
  | bl _=>exact (jH p rw' rfl M_).1
  | int _=>exact (jH p rw' rfl M_).1
  | str _=>exact (jH p rw' rfl M_).1
  | emp _=>unfold dep at hu';omega
  | exn _ _ _ _ _=>unfold dep at hu';omega
  | dct _ _ _ _ _=>unfold dep at hu';omega
 | .non,e,v,w,u,u',A,hd,he,rv,rw',hu,_,hu'=>r_ F A hd he rv rw' rfl (by omega) hu'
 | .bl _,e,v,w,u,u',A,hd,he,rv,rw',hu,_,hu'=>r_ F A hd he rv rw' rfl (by omega) hu'
 | .int _,e,v,w,u,u',A,hd,he,rv,rw',hu,_,hu'=>r_ F A hd he rv rw' rfl (by omega) hu'
 | .emp,e,v,w,u,u',A,hd,he,rv,rw',hu,hd1,hu'=>by unfold dep at hd1;omega
 | .exn _ _ _,e,v,w,u,u',A,hd,he,rv,rw',hu,hd1,hu'=>by unfold dep at hd1;omega
 | .dct _ _,e,v,w,u,u',A,hd,he,rv,rw',hu,hd1,hu'=>by unfold dep at hd1;omega
 | .str _,e,v,w,u,u',A,hd,he,rv,rw',hu,_,hu'=>r_ F A hd he rv rw' rfl (by omega) hu'
theorem l0 (F:HF K J s):∀{ds es:List D}{vs ws:List V}{us us':List Ph}(A:Qx),aT K J ds vs->aT K J es ws->Vals vs us->Vals ws us'->A.units + deps ds < T3->deps ds<=1000->deps es<=1000->
  ∀(j:Nat) (h1:j < ds.length) (h2:j < es.length),R_ A s (us.getD j .none) (us'.getD j .none) (nv ds es j)
 | _,_,_,_,_,_,A,.cons h hs,.cons h' hs',.cons r rs,.cons r' rs',hu,k1,k2,0,_,_=>BI F A h h' r r' (by unfold deps at hu;omega) (by unfold deps at k1;omega) (by unfold deps at k2;omega)
 | _,_,_,_,_,_,A,.cons h hs,.cons h' hs',.cons r rs,.cons r' rs',hu,k1,k2,j + 1,h1,h2=>l0 F A hs hs' rs rs' (by unfold deps at hu;omega) (by unfold deps at k1;omega) (by unfold deps at k2;omega) j (by simpa using h1) (by simpa using h2)
end
end
section
variable {K:Pe}{J:Hp}{s:Pk}
theorem CC (F:HF K J s) (A:Qx) (hd:Rep K J d v) (he:Rep K J e w) (rv:RelV v u) (rw':RelV w u') (hu:A.units + dep d < T3) (hd1:dep d<=1000) (hu':dep e<=1000):SeqAt.RcAt A s u u' (eo d e)/\SeqAt.RcNeAt A s u u' (!eo d e):=by
 have M_:A.units < T3:=by omega
 cases hd with
 | non=>
  cases rv;cases he with
  | non=>cases rw';exact ⟨.none_none,.none_none⟩
  | bl b=>cases rw';exact ⟨.none_bool b,.none_bool b⟩
  | int i=>obtain ⟨t,rfl⟩:=rw';exact ⟨.none_int i t,.none_int i t⟩
  | str x=>obtain ⟨t,rfl⟩:=rw';exact ⟨.none_str x t,.none_str x t⟩
  | tup h hs=>cases rw';obtain ⟨O8,r,p⟩:=F.t _ _ h;exact ⟨.none_tuple p M_,.none_tuple p M_⟩
  | lst h hs=>cases rw';obtain ⟨O8,r,p⟩:=F.l _ _ h;exact ⟨.none_list p M_,.none_list p M_⟩
  | emp _=>unfold dep at hu';omega
  | exn _ _ _ _ _=>unfold dep at hu';omega
  | dct _ _ _ _ _=>unfold dep at hu';omega
 | bl a=>
  cases rv;cases he with
  | non=>cases rw';exact ⟨.bool_none a,.bool_none a⟩
  | bl b=>cases rw';exact ⟨.bool_bool a b,.bool_bool a b⟩
  | int i=>obtain ⟨t,rfl⟩:=rw';exact ⟨.bool_int a i t,.bool_int a i t⟩
  | str x=>obtain ⟨t,rfl⟩:=rw';exact ⟨.bool_str a x t,.bool_str a x t⟩
  | tup h hs=>cases rw';obtain ⟨O8,r,p⟩:=F.t _ _ h;exact ⟨.bool_tuple a p M_,.bool_tuple a p M_⟩
  | lst h hs=>cases rw';obtain ⟨O8,r,p⟩:=F.l _ _ h;exact ⟨.bool_list a p M_,.bool_list a p M_⟩
  | emp _=>unfold dep at hu';omega
  | exn _ _ _ _ _=>unfold dep at hu';omega
  | dct _ _ _ _ _=>unfold dep at hu';omega
 | int a=>
  obtain ⟨t0,rfl⟩:=rv;cases he with
  | non=>cases rw';exact ⟨.int_none a t0,.int_none a t0⟩
  | bl b=>cases rw';exact ⟨.int_bool a t0 b,.int_bool a t0 b⟩
  | int i=>obtain ⟨t,rfl⟩:=rw';exact ⟨.int_int a t0 i t,.int_int a t0 i t⟩
  | str x=>obtain ⟨t,rfl⟩:=rw';exact ⟨.int_str a t0 x t,.int_str a t0 x t⟩
  | tup h hs=>cases rw';obtain ⟨O8,r,p⟩:=F.t _ _ h;exact ⟨.int_tuple a t0 p M_,.int_tuple a t0 p M_⟩
  | lst h hs=>cases rw';obtain ⟨O8,r,p⟩:=F.l _ _ h;exact ⟨.int_list a t0 p M_,.int_list a t0 p M_⟩
  | emp _=>unfold dep at hu';omega
  | exn _ _ _ _ _=>unfold dep at hu';omega
  | dct _ _ _ _ _=>unfold dep at hu';omega
 | str a=>
  obtain ⟨t0,rfl⟩:=rv;cases he with
  | non=>cases rw';exact ⟨.str_none a t0,.str_none a t0⟩
  | bl b=>cases rw';exact ⟨.str_bool a t0 b,.str_bool a t0 b⟩
  | int i=>obtain ⟨t,rfl⟩:=rw';exact ⟨.str_int a t0 i t,.str_int a t0 i t⟩
  | str x=>obtain ⟨t,rfl⟩:=rw';exact ⟨.str_str a t0 x t,.str_str a t0 x t⟩
  | tup h hs=>cases rw';obtain ⟨O8,r,p⟩:=F.t _ _ h;exact ⟨.str_tuple a t0 p M_,.str_tuple a t0 p M_⟩
  | lst h hs=>cases rw';obtain ⟨O8,r,p⟩:=F.l _ _ h;exact ⟨.str_list a t0 p M_,.str_list a t0 p M_⟩
  | emp _=>unfold dep at hu';omega
  | exn _ _ _ _ _=>unfold dep at hu';omega
  | dct _ _ _ _ _=>unfold dep at hu';omega
 | tup h hs=>
  cases rv;obtain ⟨O8,r,p⟩:=F.t _ _ h;cases he with
  | non=>cases rw';exact ⟨.tuple_none p M_,.tuple_none p M_⟩
  | bl b=>cases rw';exact ⟨.tuple_bool b p M_,.tuple_bool b p M_⟩
  | int i=>obtain ⟨t,rfl⟩:=rw';exact ⟨.tuple_int i t p M_,.tuple_int i t p M_⟩
  | str x=>obtain ⟨t,rfl⟩:=rw';exact ⟨.tuple_str x t p M_,.tuple_str x t p M_⟩
  | lst h' hs'=>cases rw';obtain ⟨its',r',p'⟩:=F.l _ _ h';exact ⟨.tuple_list p p' M_,.tuple_list p p' M_⟩
  | emp _=>unfold dep at hu';omega
  | exn _ _ _ _ _=>unfold dep at hu';omega
  | dct _ _ _ _ _=>unfold dep at hu';omega
  | tup h' hs'=>
   cases rw';obtain ⟨its',r',p'⟩:=F.t _ _ h';rename_i a vs ds b ws es;have l1:O8.length=ds.length:=by rw [<-r.length,hs.length]
   have l2:its'.length=es.length:=by rw [<-r'.length,hs'.length]
   have it:∀(j:Nat) (j1:j < O8.toArray.size) (j2:j < its'.toArray.size),R_ A.in1 s O8.toArray[j] its'.toArray[j] (nv ds es j):=λj j1 j2=>by
    have k1:j < ds.length:=by rw [<-l1];simpa using j1
    have k2:j < es.length:=by rw [<-l2];simpa using j2
    have:=l0 F A.in1 hs hs' r r' (by rw [in1_units];unfold dep at hu;omega) (by unfold dep at hd1;omega) (by unfold dep at hu';omega) j k1 k2;have m1:j < O8.length:=by simpa using j1
    have m2:j < its'.length:=by simpa using j2
    simpa [m1,m2] using this
   simp only [eo];rw [<-xM,<-l1,<-l2];have q1:=Wi p p' M_ it;have q2:=YE p p' M_ it;exact ⟨by simpa using q1,by simpa using q2⟩
 | emp _=>unfold dep at hd1;omega
 | exn _ _ _ _ _=>unfold dep at hd1;omega
 | dct _ _ _ _ _=>unfold dep at hd1;omega
 | lst h hs=>
  cases rv;obtain ⟨O8,r,p⟩:=F.l _ _ h;cases he with
  | non=>cases rw';exact ⟨.list_none p M_,.list_none p M_⟩
  | bl b=>cases rw';exact ⟨.list_bool b p M_,.list_bool b p M_⟩
  | int i=>obtain ⟨t,rfl⟩:=rw';exact ⟨.list_int i t p M_,.list_int i t p M_⟩
  | str x=>obtain ⟨t,rfl⟩:=rw';exact ⟨.list_str x t p M_,.list_str x t p M_⟩
  | tup h' hs'=>cases rw';obtain ⟨its',r',p'⟩:=F.t _ _ h';exact ⟨.list_tuple p p' M_,.list_tuple p p' M_⟩
  | emp _=>unfold dep at hu';omega
  | exn _ _ _ _ _=>unfold dep at hu';omega
  | dct _ _ _ _ _=>unfold dep at hu';omega
  | lst h' hs'=>
   cases rw';obtain ⟨its',r',p'⟩:=F.l _ _ h';rename_i a vs ds b ws es;have l1:O8.length=ds.length:=by rw [<-r.length,hs.length]
   have l2:its'.length=es.length:=by rw [<-r'.length,hs'.length]
   have it:∀(j:Nat) (j1:j < O8.toArray.size) (j2:j < its'.toArray.size),R_ A.in1 s O8.toArray[j] its'.toArray[j] (nv ds es j):=λj j1 j2=>by
    have k1:j < ds.length:=by rw [<-l1];simpa using j1
    have k2:j < es.length:=by rw [<-l2];simpa using j2
    have:=l0 F A.in1 hs hs' r r' (by rw [in1_units];unfold dep at hu;omega) (by unfold dep at hd1;omega) (by unfold dep at hu';omega) j k1 k2;have m1:j < O8.length:=by simpa using j1
    have m2:j < its'.length:=by simpa using j2
    simpa [m1,m2] using this
   simp only [eo];by_cases z:ds.length=es.length
   ·rw [<-mY z,<-l1];have q1:=WL p p' (by simp;omega) M_ it;have q2:=YN p p' (by simp;omega) M_ it;exact ⟨by simpa using q1,by simpa using q2⟩
   ·rw [mW z];exact ⟨.lists_lengths p p' (by simp;omega) M_,.lists_lengths p p' (by simp;omega) M_⟩
end
section
variable {X:Cx}{c:C}{e a b tg:Qq}{es:List Qq}{ga gb g:G R}{pos:Pos}
theorem RR.rep {He J H:Hp}(hp:HI c J H):∀{r:R}{v:V}{d:D},RR c He J H r v->(∀xs,r=.l .fresh xs\/r=.l .own xs\/r=.l .bor xs->d=.lst xs)->(∀x,r=.d x->d=x)->(∀ks vs,r≠.mo ks vs/\r≠.mb ks vs/\r≠.mf ks vs/\r≠.ln ks)->Rep c.K H d v
 | .mo _ _,_,_,_,_,_,n=>((n _ _).1 rfl).elim
 | .mb _ _,_,_,_,_,_,n=>((n _ _).2.1 rfl).elim
 | .mf _ _,_,_,_,_,_,n=>((n _ _).2.2.1 rfl).elim
 | .ln _,_,_,_,_,_,n=>((n _ []).2.2.2 rfl).elim
 | .d x,v,d,h,_,k,_=>by rw [k x rfl];exact Rep.mono hp.sub h
 | .l m xs,v,d,h,k,_,_=>by have e:d=.lst xs:=k xs (by cases m;exact .inl rfl;exact .inr (.inl rfl);exact .inr (.inr rfl));obtain ⟨a,vs,rfl,h1,h2⟩:=RR.list hp h rfl;rw [e];exact .lst h1 (h2.mono hp.sub)
noncomputable def R.dat:R->D
 | .d x=>x
 | .l _ xs=>.lst xs
 | .mo ks vs=>.dct ks vs
 | .mb ks vs=>.dct ks vs
 | .mf ks vs=>.dct ks vs
 | .ln xs=>.lst xs
theorem RR.dat {He J H:Hp}(hp:HI c J H){r:R}(h:RR c He J H r v):Rep c.K H r.dat v:=by
 by_cases hm:∃ks vs,r=.mo ks vs
 ·obtain ⟨ks,vs,rfl⟩:=hm;obtain ⟨a,rfl,h,_⟩:=h;exact h.rep hp.sub
 by_cases hb:∃ks vs,r=.mb ks vs
 ·obtain ⟨ks,vs,rfl⟩:=hb;obtain ⟨a,rfl,h⟩:=h;exact (h.mono (aV.refl _) hp.ent).rep hp.sub
 by_cases hf:∃ks vs,r=.mf ks vs
 ·obtain ⟨ks,vs,rfl⟩:=hf;obtain ⟨a,rfl,h,_⟩:=h;exact h.rep hp.sub
 by_cases hl:∃xs,r=.ln xs
 ·obtain ⟨xs,rfl⟩:=hl;obtain ⟨a,vs,rfl,h,_,_,h5⟩:=h;exact .lst (.inl (.inl h)) (h5.reps.mono hp.sub)
 refine h.rep hp (λxs q=>?_) (λx q=>by rw [q];rfl) λks vs=>⟨λz=>hm ⟨_,_,z⟩,λz=>hb ⟨_,_,z⟩,λz=>hf ⟨_,_,z⟩,λz=>hl ⟨_,z⟩⟩;rcases q with q | q | q <;> (rw [q];rfl)
noncomputable def Ek (K:Pe) (neg:Bool):R2:=λx y H Q=>∃d e,Rep K H d x/\Rep K H e y/\dep d<=60/\dep e<=60/\Q (.bl (if neg then !eo d e else eo d e)) H
theorem kg {H:Hp}(I:Inv X O6 σ H s):HF X.K H s:=HF.of (c:=⟨X.K,H,H,λ_=>True⟩) I (aV.refl H)
theorem Cc (hu:X.A.units + 64 < T3):dD X (Q8 .Eq) (Ek X.K false):=by intro O6 s σ H x y v u Q I rx ry h;obtain ⟨d,e,h1,h2,h3,h4,q⟩:=h;exact (CC (kg I) X.A h1 h2 rx ry (by omega) (by omega) (by omega)).1 X.prog X.w X.xe _ ⟨.bl _,H,I,rfl,q⟩
theorem JB (hu:X.A.units + 64 < T3):dD X (Q8 .NotEq) (Ek X.K true):=by intro O6 s σ H x y v u Q I rx ry h;obtain ⟨d,e,h1,h2,h3,h4,q⟩:=h;exact (CC (kg I) X.A h1 h2 rx ry (by omega) (by omega) (by omega)).2 X.prog X.w X.xe _ ⟨.bl _,H,I,rfl,q⟩
noncomputable def cJ (neg:Bool) (x y:R):M R:=if dep x.dat<=60/\dep y.dat<=60 then .ok (.d (.bl (if neg then !eo x.dat y.dat else eo x.dat y.dat))) else .bad
theorem AA (neg:Bool) (hK:X.K=c.K):BD c (Ek X.K neg) (cJ neg):=by
 intro He He' J H x y u v Q hp rx ry w;unfold cJ at w;split at w
 ·rename_i hd;exact ⟨x.dat,y.dat,by rw [hK];exact rx.dat hp,by rw [hK];exact ry.dat hp,hd.1,hd.2,w _ J H (Ext.refl hp.sub) (.bl _)⟩
 ·exact w.elim
noncomputable def inD (d:D) (xs:List D):Bool:=xs.any λx=>eo x d
noncomputable def El (K:Pe) (neg:Bool):R2:=λx y H Q=>∃d p vs ds,Rep K H d x/\dep d<=60/\y=.ref p/\(cX K H p vs\/dF K H p vs)/\aT K H ds vs/\deps ds<=60/\Q (.bl (if neg then !inD d ds else inD d ds)) H
theorem vg {K:Pe}{H:Hp}{y:Ph}:∀{ds:List D}{vs:List V}{us:List Ph},aT K H ds vs->Vals vs us->deps ds<=60->y∈us->∃d' v',Rep K H d' v'/\RelV v' y/\dep d'<=60
 | _,_,_,.nil,.nil,_,hy=>nomatch hy
 | _,_,_,.cons r hs,.cons q rs,hd,hy=>by
  unfold deps at hd;rcases Pp.mp hy with rfl | hy
  ·exact ⟨_,_,r,q,by omega⟩
  ·exact vg hs rs (by omega) hy
open Classical in
noncomputable def Ay (K:Pe) (H:Hp) (d:D) (y:Ph):Bool:=decide (∃d' v',Rep K H d' v'/\RelV v' y/\dep d'<=1000/\eo d' d=true)
theorem zG {K:Pe}{H:Hp}{s:Pk}(F:HF K H s){d d':D}{v':V}{y:Ph}(r':Rep K H d' v') (q':RelV v' y) (hd:dep d'<=1000):Ay K H d y=eo d' d:=by
 classical
 unfold Ay;cases z:eo d' d with
 | true=>exact decide_eq_true ⟨d',v',r',q',hd,z⟩
 | false=>
  refine decide_eq_false ?_;rintro ⟨d2,v2,r2,q2,hd2,z2⟩;have:v2=v':=q2.inj q';subst this;rw [Rep.inj F r2 r' hd2 hd] at z2;rw [z] at z2;cases z2
theorem wZ {K:Pe}{H:Hp}{s:Pk}(F:HF K H s){d:D}:∀{ds:List D}{vs:List V}{us:List Ph},aT K H ds vs->Vals vs us->deps ds<=1000->us.any (Ay K H d)=inD d ds
 | _,_,_,.nil,.nil,_=>rfl
 | _,_,_,.cons r hs,.cons q rs,hd=>by unfold deps at hd;unfold inD;rw [V3,V3,wZ F hs rs (by omega),zG F r q (by omega)];rfl
theorem rT {A:Qx}{s:Pk}{K:Pe}{H:Hp}(F:HF K H s){d:D}{x:V}{u:Ph}(h:Rep K H d x) (rx:RelV x u) (N_:dep d<=60) (hA:A.units + 60 < T3){ds:List D}{vs:List V}{us:List Ph}(hs:aT K H ds vs) (rs:Vals vs us) (hd:deps ds<=60):
  ∃e:Ph->Bool,(∀y∈us,R_ A s y u (e y))/\us.any e=inD d ds:=by refine ⟨Ay K H d,λy hy=>?_,wZ F hs rs (by omega)⟩;obtain ⟨d',v',r',q',hd'⟩:=vg hs rs hd hy;rw [zG F r' q' (by omega)];exact BI F A r' h q' rx (by omega) (by omega) (by omega)
theorem Jx (hu:X.A.units + 64 < T3):dD X (Q8 .In) (El X.K false):=by
 intro O6 s σ H x y v u Q I rx ry h;obtain ⟨d,p,vs,ds,h1,N_,rfl,h2,h3,h4,q⟩:=h;cases ry;have F:=kg I;rcases h2 with h2 | h2
 ·obtain ⟨O8,r,pl⟩:=F.l _ _ h2;obtain ⟨e,he,hany⟩:=rT (A:=X.A.in1) F h1 rx N_ (by rw [in1_units];omega) h3 r h4;exact SeqAt.in_listAt e pl (λz hz=>he z (by simpa using hz)) ⟨.bl _,H,I,rfl,by rw [show O8.toArray.any e=O8.any e by simp,hany];exact q⟩
 ·obtain ⟨O8,r,pl⟩:=F.t _ _ h2;obtain ⟨e,he,hany⟩:=rT (A:=X.A.in1) F h1 rx N_ (by rw [in1_units];omega) h3 r h4;exact SeqAt.in_tupleAt e pl (λz hz=>he z (by simpa using hz)) ⟨.bl _,H,I,rfl,by rw [show O8.toArray.any e=O8.any e by simp,hany];exact q⟩
theorem vf (hu:X.A.units + 64 < T3):dD X (Q8 .NotIn) (El X.K true):=by
 intro O6 s σ H x y v u Q I rx ry h;obtain ⟨d,p,vs,ds,h1,N_,rfl,h2,h3,h4,q⟩:=h;cases ry;have F:=kg I;rcases h2 with h2 | h2
 ·obtain ⟨O8,r,pl⟩:=F.l _ _ h2;obtain ⟨e,he,hany⟩:=rT (A:=X.A.in1) F h1 rx N_ (by rw [in1_units];omega) h3 r h4;exact SeqAt.notIn_listAt e pl (λz hz=>he z (by simpa using hz)) ⟨.bl _,H,I,rfl,by rw [show O8.toArray.any e=O8.any e by simp,hany];exact q⟩
 ·obtain ⟨O8,r,pl⟩:=F.t _ _ h2;obtain ⟨e,he,hany⟩:=rT (A:=X.A.in1) F h1 rx N_ (by rw [in1_units];omega) h3 r h4;exact SeqAt.notIn_tupleAt e pl (λz hz=>he z (by simpa using hz)) ⟨.bl _,H,I,rfl,by rw [show O8.toArray.any e=O8.any e by simp,hany];exact q⟩
noncomputable def gQ (neg:Bool) (x y:R):M R:=jE y >>= λys=>if deps ys<=60/\dep x.dat<=60 then .ok (.d (.bl (if neg then !inD x.dat ys else inD x.dat ys))) else .bad
theorem AB (neg:Bool) (hK:X.K=c.K):BD c (El X.K neg) (gQ neg):=by
 intro He He' J H x y u v Q hp rx ry w;obtain ⟨ys,q,w⟩:=mL w;obtain ⟨p,vs,rfl,h1,h2⟩:=pT hp ry q;split at w
 ·rename_i hd;exact ⟨x.dat,p,vs,ys,by rw [hK];exact rx.dat hp,hd.2,rfl,by rw [hK];exact h1,by rw [hK];exact h2.mono hp.sub,hd.1,w _ J H (Ext.refl hp.sub) (.bl _)⟩
 ·exact w.elim
noncomputable abbrev GO:=G (Option Int)
noncomputable def tO (c:C) (g:GO):TO:=λσ H Q=>∃J env,SR c J H σ env/\cg (g env) (λo=>∀J' H',Ext J H J' H'->Q o H') c.T
noncomputable def Il (X:Cx) (c:C) (e:Option Qq) (g:GO):Prop:=PO X e (tO c g)
theorem Fj {X:Cx}{e:Option Qq}{t t':TO}(h:PO X e t) (k:∀σ H Q,t' σ H Q->t σ H Q):PO X e t':=λO6 s σ H Q I q=>h O6 s σ H Q I (k σ H Q q)
noncomputable def dZ:GO:=λ_=>.ok none
noncomputable def dM (g:G R):GO:=λenv=>g env >>= λr=>match r with
 | .d (.int i)=>.ok (some i)
 | _=>.bad
noncomputable def cutD (xs:List D) (lo hi:Option Int):List D:=(xs.drop (HT.bM xs.length 0 lo)).take (HT.bM xs.length xs.length hi - HT.bM xs.length 0 lo)
theorem aT.cut {K:Pe}{J:Hp}{xs:List D}{vs:List V}(h:aT K J xs vs) (lo hi:Option Int):aT K J (cutD xs lo hi) (lF vs lo hi):=by unfold cutD lF;rw [h.length];exact (h.drop _).take _
noncomputable def dw (f:R->Option Int->Option Int->M R) (g:G R) (lo hi:GO):G R:=λenv=>g env >>= λx=>lo env >>= λl=>hi env >>= λu=>f x l u
theorem Fe {r:V->Option Int->Option Int->Hp->VK->Prop}{f:R->Option Int->Option Int->M R}{lo hi:Option Qq}{gl gh:GO}{p2:Pos}(hr:qA X r) (hf:∀(He J H:Hp) (x:R) (v:V) (l u:Option Int) (Q:VK),HI c J H->RR c He J H x v->
   cg (f x l u) (λz=>∀w J' H',Ext J H J' H'->RR c H J' H' z w->Q w H') c.T->r v l u H Q) (h:PD X c e g) (hl:Il X c lo gl) (hh:Il X c hi gh):PD X c (.Subscript e (.Slice lo hi none p2) pos) (dw f g gl gh):=
 fc (D6 hr h hl hh) λσ H Q ⟨J,env,sr,w⟩=>by refine ⟨J,env,sr,aB (aH w) λx wx v J1 H1 e1 r1=>?_⟩;refine ⟨J1,env,sr.ext e1,aB (aH wx) λl wl J2 H2 e2=>?_⟩;refine ⟨J2,env,(sr.ext e1).ext e2,aB (aH wl) λu wu J3 H3 e3=>?_⟩;have ee:=(e1.trans e2).trans e3;exact hf H J3 H3 x v l u Q (sr.hp.ext ee) ((r1.ext e2).ext e3) (aB wu λz q w J' H' e4 r4=>q w J' H' (ee.trans e4) (RR.from ee.h r4))
noncomputable def L8 (x:R) (l u:Option Int):M R:=jk x >>= λxs=>.ok (.l .fresh (cutD xs l u))
theorem A_ {ss:List Str}:∀{us:List Ph},Vals (ss.map V.str) us->StrsAre us ss:=by
 induction ss with
 | nil=>intro us h;cases h;exact .nil
 | cons x r ih=>
  intro us h;cases h with
  | cons q rs=>
   obtain ⟨t,rfl⟩:=q;exact .cons x t (ih rs)
theorem vC:∀{us:List Ph}{ss:List Str},StrsAre us ss->Vals (ss.map V.str) us
 | _,_,.nil=>.nil
 | _,_,.cons y t h=>.cons ⟨t,rfl⟩ (vC h)
noncomputable def jl (x y:Str):Bool:=decide (x.cps.toList<=y.cps.toList)
noncomputable def h_ (ss:List Str):List Str:=ss.mergeSort jl
theorem u9 (x y z:Str) (h1:jl x y=true) (h2:jl y z=true):jl x z=true:=by unfold jl at *;exact decide_eq_true (List.le_trans (of_decide_eq_true h1) (of_decide_eq_true h2))
theorem B3 (x y:Str):(jl x y || jl y x)=true:=by
 unfold jl;rw [RB];rcases List.le_total x.cps.toList y.cps.toList with h | h
 ·exact .inl (decide_eq_true h)
 ·exact .inr (decide_eq_true h)
theorem DP (h1:jl x y=true) (h2:jl y x=true):x=y:=by unfold jl at *;have:=List.le_antisymm (of_decide_eq_true h1) (of_decide_eq_true h2);obtain ⟨⟨cx⟩⟩:=x;obtain ⟨⟨cy⟩⟩:=y;simp only at this;rw [this]
theorem pN (ss:List Str):(h_ ss).Pairwise λx y=>jl x y=true:=List.pairwise_mergeSort u9 B3 ss
theorem jY (ss:List Str):(h_ ss).Perm ss:=List.mergeSort_perm ss jl
theorem tw:∀(x:Str) (r:List Str),risingS x r=true->(x::r).Pairwise λx y=>jl x y=true
 | x,[],_=>by simp
 | x,y::r,h=>by
  unfold risingS at h;rw [Pr] at h;have hy:=tw y r h.2;have hxy:jl x y=true:=by
   have h1:=h.1;rw [ltCps_eq] at h1;unfold jl;refine decide_eq_true ?_;have:¬y.cps.toList < x.cps.toList:=by simpa using h1
   exact this
  refine So.mpr ⟨λz hz=>?_,hy⟩;rcases Pp.mp hz with rfl | hz
  ·exact hxy
  ·exact u9 x y z hxy ((So.mp hy).1 z hz)
theorem A7 {ss ss':List Str}(hp:ss'.Perm ss) (hs:sortedS ss'=true):ss'=h_ ss:=by
 have pw:ss'.Pairwise λx y=>jl x y=true:=by
  cases ss' with
  | nil=>exact UH
  | cons x r=>exact tw x r hs
 exact (hp.trans (jY ss).symm).eq_of_pairwise (λx y _ _ h1 h2=>DP h1 h2) pw (pN ss)
theorem xy:dj X (.builtin "sorted") (λxs H Q=>∃p ss,xs=[.ref p]/\cX X.K H p (ss.map V.str)/\ss.length < 64/\∀ss',ss'.Perm ss->sortedS ss'=true->∀l,H l=none->Q (.ref l) (upd H l (.lst (ss'.map V.str)))):=by
 intro O6 s σ H xs us Q I r h;obtain ⟨p,ss,rfl,hq,hl,q⟩:=h;obtain ⟨u,rfl,rx⟩:=vals1 r;cases rx;obtain ⟨O8,r',pl,hz⟩:=I.list hq;have hlen:=r'.length;refine sorted_strs pl.isList (A_ r') (by rw [<-hlen,Pj];exact hl) λout ss' a1 a2 a3=>?_;obtain ⟨n,hn⟩:=sortedAll_at s.heap O8 out;have kp:∀b o,s.heap.get? b=some o->(sortedAll s.heap O8 out).get? b=some o:=λb o e=>sortedAll_old e;have fr:H (s.heap.objs.size + 1)=none:=I.hok.fresh (Ua _);have ll:(ss'.map V.str).length=(ss.map V.str).length:=by rw [Pj,Pj,a2.length_eq]
 refine ⟨.ref (s.heap.objs.size + 1),_,I.laid (t':=s.toks) kp (Ua _) (show dX X.prog X.w _ _ _ (.lst (ss'.map V.str)) from ⟨by rw [ll];exact hz,out.toList,n,vC a1,by simpa [YO] using hn⟩),rfl,q ss' a2 a3 _ fr⟩
noncomputable def strsOf:List D->Option (List Str)
 | []=>some []
 | .str x::r=>(strsOf r).map (x::·)
 | _::_=>none
theorem tQ {K:Pe}{J:Hp}:∀{ds:List D}{vs:List V}{ss:List Str},strsOf ds=some ss->aT K J ds vs->vs=ss.map V.str
 | [],_,_,h,.nil=>by cases h;rfl
 | .str x::r,_,ss,h,.cons q rs=>by
  unfold strsOf at h;cases z:strsOf r with
  | none=>rw [z] at h;cases h
  | some ss'=>
   rw [z] at h;cases h;cases q;rw [tQ z rs];rfl
theorem vj {K:Pe}{J:Hp}:∀(ss:List Str),aT K J (ss.map D.str) (ss.map V.str)
 | []=>.nil
 | x::r=>.cons (.str x) (vj r)
noncomputable def j_:List R->M R
 | [r]=>jk r >>= λxs=>match strsOf xs with
  | some ss=>if ss.length < 64 then .ok (.l .fresh ((h_ ss).map .str)) else .bad
  | none=>.bad
 | _=>.bad
theorem w5:QO "sorted"=some (.builtin "sorted"):=by decide +kernel
theorem foldl_size (c:Array Nat):∀(k:Nat) (acc:Array Nat),((Qe k c).foldl (·++·) acc).size=acc.size + k * c.size
 | 0,acc=>by simp
 | k + 1,acc=>by rw [Rk,Sd,foldl_size c k,UL,Nat.succ_mul];omega
noncomputable def gf (x:Str) (n:Nat):Str:=⟨(Qe n x.cps).foldl (·++·) #[]⟩
theorem zh (x:Str) (n:Nat):(gf x n).length=n * x.length:=by unfold gf T6;simp only;rw [foldl_size];simp
theorem GI:dD X (SA .Mult) (λx y H Q=>∃z n,x=.str z/\y=.int n/\0<=n/\n<=1000/\z.length<=1000/\Q (.str (gf z n.toNat)) H):=by
 intro O6 s σ H x y v u Q I rx ry h;obtain ⟨z,n,rfl,rfl,h0,h1,h2,q⟩:=h;obtain ⟨t,rfl⟩:=rx;obtain ⟨t',rfl⟩:=ry;have hz:VE (z.length * n.toNat)=false:=by have:z.length * n.toNat<=1000 * 1000:=Xm h2 (by omega);unfold VE;exact decide_eq_false (by have:=Qw;omega)
 refine PySem.P.mul_str (by
  rw [decide_eq_false (by omega:¬n < -(2 ^ 63:Int)),decide_eq_false (by omega:¬n ≥ 2 ^ 63)];rfl) (λhn _=>?_) (λ_ _=>hz) ?_
 ·have:(2 ^ 63 - 1:Int) / 1000<=(2 ^ 63 - 1) / n:=by refine (Int.le_ediv_iff_mul_le (by omega)).mpr ?_;have:(2 ^ 63 - 1:Int) / 1000 * n<=(2 ^ 63 - 1:Int) / 1000 * 1000:=Int.mul_le_mul_of_nonneg_left h1 (by decide);exact Int.le_trans this (by decide)
  have e:(2 ^ 63 - 1:Int) / 1000=9223372036854775:=by decide
  omega
 ·split
  ·rename_i hn;have e:n=0:=by omega
   subst e;exact ⟨by decide,.str _,H,I.tok _,⟨_,rfl⟩,q⟩
  ·split
   ·rename_i hn hc;have e:gf z n.toNat=z:=by
     unfold gf;rw [RB] at hc;rcases hc with hc | hc
     ·have e:n=1:=by simpa using hc
      subst e;simp
     ·have e:z.length=0:=by simpa using hc
      have e2:z.cps=#[]:=by unfold T6 at e;exact Array.eq_empty_of_size_eq_zero e
      obtain ⟨cz⟩:=z;simp only at e2;subst e2;congr 1;generalize n.toNat=k
      induction k with
      | zero=>rfl
      | succ k ih=>rw [Rk,Sd];exact ih
    rw [e] at q;exact ⟨.str z,H,I,⟨_,rfl⟩,q⟩
   ·exact ⟨by
     have:=zh z n.toNat
     unfold gf at this;rw [this,Nat.mul_comm];have:z.length * n.toNat<=1000 * 1000:=Xm h2 (by omega);rw [Qw];omega,.str _,H,I.tok _,⟨_,rfl⟩,q⟩
noncomputable def AK:R->R->M R
 | .d (.str z),.d (.int n)=>if 0<=n/\n<=1000/\z.length<=1000 then .ok (.d (.str (gf z n.toNat))) else .bad
 | _,_=>.bad
noncomputable def bD:D->String
 | .non=>"NoneType"
 | .bl _=>"bool"
 | .int _=>"int"
 | .str _=>"str"
 | .tup _=>"tuple"
 | .lst _=>"list"
 | .emp=>"dict"
 | .exn _ _ _=>"exc"
 | .dct _ _=>"dict"
noncomputable def bg (t T:String):Bool:=t == T || (t == "bool" && T == "int")
noncomputable def zS:R->Bool
 | .d (.int _)=>true
 | _=>false
noncomputable def E2:R->Bool
 | .d (.str _)=>true
 | _=>false
noncomputable def cB (x y:R):M R:=if zS x then DB x y else if E2 x then rX x y else pY x y
noncomputable def c8 (x y:R):M R:=if zS x then IM x y else AK x y
noncomputable def bP (x y:R):M R:=match x,y with
 | .d (.str z),.d (.int i)=>if z.length<=sizeLine then (match lV z.cps.toList i with
  | some k=>.ok (.d (.str ⟨#[k]⟩))
  | none=>.bad) else .bad
 | x,.d (.int i)=>jE x >>= λxs=>(match lV xs i with
  | some d=>.ok (.d d)
  | none=>.bad)
 | _,_=>.bad
noncomputable def bQ (P:PX) (w:Qn) (K:Pe) (mg:Str->Option Ph) (base:QV) (k n:Nat) (x:Str) (Fm:List S->M R):Prop:=
 ∃f fd ps,fL P w K mg base lT k f fd ps (ou K n Fm)/\mg x=some (.ref f)/\QN K (.ref f)=true/\Binds K fd ps []
theorem IA {P:PX}{w:Qn}{K:Pe}{mg:Str->Option Ph}{base:QV}{x Pb:Str}{st:RV}{f:PK}{fd:Qi}{N ps:List Str}{k:Nat}{Fm:List S->M R}(F:gz K x Pb st f fd) (hm:mg x=some (.ref f)) (Sc:cL N ps (aQ st))
  (hbi:∀(kV doc pm:Ph) (an:Option PK) (cdv ct:Ph) (us:List Ph),us.length=ps.length->Ur (Q5 x Pb (d8 st) (bW st) (aQ st) .none kV doc pm an cdv ct) ⟨us,[]⟩=pure (ps.zip us)){gB:G O}
  (hb:∀(cdv:Ph) (A:Qx) (outer:List Env) (s:Pk) (H:Hp) (E:XK) (J:Hp) (T:Exc->Prop),cH k (A.deeper (SK Pb (aQ st) s.heap.objs.size f cdv))->
   EL (u0 P w K mg base N Pb (aQ st) f cdv A outer s H E) ⟨K,H,J,T⟩ (bW st) gB)
  (hF:∀as r,as.length=ps.length->Fm as=.ok r->fin (gB (ay N as))=.ok r):bQ P w K mg base (k + 1) ps.length x Fm:=
 ⟨f,fd,ps,BL F Sc hb hF,hm,F.kp,F.binds hbi⟩
noncomputable def DT:List Str->Bool
 | []=>true
 | x::r=>!(r.contains x) && DT r
theorem c6:∀{l:List Str},DT l=true->l.Nodup
 | [],_=>Xl
 | x::r,h=>by unfold DT at h;rw [Pr] at h;refine RQ.mpr ⟨λz=>?_,c6 h.2⟩;have:=h.1;simp [z] at this
theorem xN {H:Hp}{s:Pk}{a C:PK}{dx:Option PK}(I:L2.Inv X O6 σ H s) (h:H a=some (DX.XO a C dx)) (xf:XF H dx ns vs):∃ox od,SN s.heap a ox C od/\od.isSome=dx.isSome/\(∀d,dx=some d->∃o,od=some o/\s.heap.get? d=some o):=by
 obtain ⟨⟨oe,fs,h1,h2,h3,h4⟩,_⟩:=I.hok a _ h;have hn:Xn oe=true:=by unfold Xn;rw [h4]
 rcases xf with ⟨rfl,_⟩ | ⟨d,rfl,_,hd⟩
 ·exact ⟨oe,none,⟨h1,h2,hn,by rw [h3];exact S0⟩,rfl,λd z=>by cases z⟩
 ·obtain ⟨m,⟨o,es,ep,k1,_⟩,_⟩:=I.hok d _ hd;exact ⟨oe,some o,⟨h1,h2,hn,by rw [h3];exact k1⟩,rfl,λd' z=>by cases z;exact ⟨o,rfl,k1⟩⟩
noncomputable def zz (T:String):Prop:=(∀(K:Pe) (t:String),t∈["NoneType","bool","int","str","tuple","list","dict"]->Q4 K (.type t) (.type T)=some (bg t T))/\Vl T=true/\DX.jQ.contains (.type T)=false/\bg "exc" T=false
theorem uC:zz "int":=⟨λK t h=>by
 simp only [Pp,P9,or_false] at h;rcases h with rfl | rfl | rfl | rfl | rfl | rfl | rfl <;> rfl,by decide +kernel,by decide,by decide⟩
theorem ni:zz "bool":=⟨λK t h=>by
 simp only [Pp,P9,or_false] at h;rcases h with rfl | rfl | rfl | rfl | rfl | rfl | rfl <;> rfl,by decide +kernel,by decide,by decide⟩
theorem l7:zz "str":=⟨λK t h=>by
 simp only [Pp,P9,or_false] at h;rcases h with rfl | rfl | rfl | rfl | rfl | rfl | rfl <;> rfl,by decide +kernel,by decide,by decide⟩
theorem kit_tuple:zz "tuple":=⟨λK t h=>by
 simp only [Pp,P9,or_false] at h;rcases h with rfl | rfl | rfl | rfl | rfl | rfl | rfl <;> rfl,by decide +kernel,by decide,by decide⟩
theorem zf {T:String}(kit:zz T):
  dj X (.builtin "isinstance") (λxs H Q=>∃d x,xs=[x,.ty T]/\Rep X.K H d x/\Q (.bl (bg (bD d) T)) H):=by
 intro O6 s σ H xs us Q I r h;obtain ⟨d,x,rfl,hd,q⟩:=h;obtain ⟨u,w',rfl,rx,ry⟩:=vals2 r;cases ry;have fin:∀tk,EP X O6 σ Q (.bool (bg (bD d) T)) {s with toks:=tk}:=λtk=>⟨.bl _,H,I.tok tk,rfl,q⟩;have F:=kg I;cases hd with
 | non=>cases rx;exact Qp Wj I.kIn S0 (kit.1 X.K _ (by simp [bD])) (λz=>nomatch z) fin
 | bl y=>cases rx;exact Qp Wk I.kIn S0 (kit.1 X.K _ (by simp [bD])) (λz=>nomatch z) fin
 | int i=>obtain ⟨t,rfl⟩:=rx;exact Qp WM I.kIn S0 (kit.1 X.K _ (by simp [bD])) (λz=>nomatch z) fin
 | str y=>obtain ⟨t,rfl⟩:=rx;exact Qp WN I.kIn S0 (kit.1 X.K _ (by simp [bD])) (λz=>nomatch z) fin
 | tup h hs=>
  cases rx;obtain ⟨O8,r,o,h1,h2,_⟩:=F.t _ _ h;exact Qp V4 I.kIn ⟨o,h1,h2⟩ (kit.1 X.K _ (by simp [bD])) (λz=>nomatch z) fin
 | lst h hs=>
  cases rx;obtain ⟨O8,r,o,h1,h2,_⟩:=F.l _ _ h;exact Qp Wl I.kIn ⟨o,h1,h2⟩ (kit.1 X.K _ (by simp [bD])) (λz=>nomatch z) fin
 | emp h=>
  cases rx;obtain ⟨o,h1,h2⟩:=F.e _ h;exact Qp Tv I.kIn ⟨o,h1,h2⟩ (kit.1 X.K _ (by simp [bD])) (λz=>nomatch z) fin
 | dct h _ _ _ _=>
  cases rx;obtain ⟨o,es,h1,h2,_⟩:=F.d _ _ _ h;exact Qp Tv I.kIn ⟨o,h1,h2.1⟩ (kit.1 X.K _ (by simp [bD])) (λz=>nomatch z) fin
 | exn h1 h2 h3 hs hx=>
  cases rx;obtain ⟨P,G,E⟩:=hx;obtain ⟨ox,od,J,_⟩:=xN I h1 h3;simp only [bD,kit.2.2.2] at fin;exact Qp (DX.xX G E) I.kIn ⟨ox,od,J⟩ (DX.Jl E kit.2.1 kit.2.2.1) (λz=>nomatch z) fin
noncomputable def br (T:String) (g:G R):G R:=λenv=>g env >>= λr=>.ok (.d (.bl (bg (bD r.dat) T)))
noncomputable def mV:List D->Option (List Bool)
 | []=>some []
 | .bl k::r=>(mV r).map (k::·)
 | _::_=>none
theorem uY {K:Pe}{J:Hp}:∀{ds:List D}{vs:List V}{ks:List Bool},mV ds=some ks->aT K J ds vs->vs=ks.map V.bl
 | [],_,_,h,.nil=>by cases h;rfl
 | .bl x::r,_,ks,h,.cons q rs=>by
  unfold mV at h;cases z:mV r with
  | none=>rw [z] at h;cases h
  | some ks'=>
   rw [z] at h;cases h;cases q;rw [uY z rs];rfl
theorem yW:∀{ks:List Bool}{us:List Ph},Vals (ks.map V.bl) us->us=ks.map Tr
 | [],_,.nil=>rfl
 | k::ks,_,.cons r rs=>by cases r;rw [yW rs];rfl
theorem all_range (ks:List Bool):(Qc ks.length).all (λi=>ks.getD i true)=ks.all id:=by
 induction ks with
 | nil=>rfl
 | cons k r ih=>
  rw [P4,U7,S_,SY,S_];simp only [List.getD_cons_zero];rw [<-ih];rfl
theorem Bw (hc:X.calm=true):dj X (.builtin "all") (λxs H Q=>∃(p:PK) (ks:List Bool),xs=[.ref p]/\cX X.K H p (ks.map V.bl)/\Q (.bl (ks.all id)) H):=by
 intro O6 s σ H xs us Q I r h;obtain ⟨p,ks,rfl,hq,q⟩:=h;obtain ⟨u,rfl,rx⟩:=vals1 r;cases rx;obtain ⟨O8,r',pl,hz⟩:=I.list hq;have hi:=yW r';subst hi;have OY:p≠s.heap.objs.size:=by obtain ⟨o,h1,_⟩:=pl.isList;exact QA (PL h1)
 refine call_all_walk (Sy pl.isList ⟨s.heap.objs.size,_,_,_,_,_,(λi=>ks.getD i true),rfl,YU (A:=X.A.in1) (show X.A.in1.handled=none from I.ok.hd hc) s.heap.objs.size p OY (ks.map Tr).toArray,⟨⟨_,Px _ rfl,rfl,rfl⟩,WO pl.isList _⟩,?_,λh' tk k=>?_⟩)
 ·intro i v s' Q' E' hP hQ;have e:∃k,ks[i]?=some k/\v=.bool k:=by
   have hP':(ks.map Tr)[i]?=some v:=by simpa using hP
   rw [Qg] at hP';cases z:ks[i]? with
   | none=>rw [z] at hP';cases hP'
   | some k=>rw [z] at hP';cases hP';exact ⟨k,rfl,rfl⟩
  obtain ⟨k,e1,rfl⟩:=e;simp only at hQ;rw [Qa,e1] at hQ;exact Ru hQ
 ·have sz:(ks.map Tr).toArray.size=ks.length:=by simp
  rw [sz,all_range];refine ⟨.bl (ks.all id),H,?_,rfl,q⟩;refine I.kept λb o e=>k b o (λz=>?_) (Pq _ e);have:b=s.heap.objs.size:=by simpa using z
  exact absurd (this▸PL e) (Q6 _)
noncomputable def eV:List R->M R
 | [r]=>jk r >>= λxs=>match mV xs with
  | some ks=>.ok (.d (.bl (ks.all id)))
  | none=>.bad
 | _=>.bad
theorem Bt:QO "all"=some (.builtin "all"):=by decide +kernel
noncomputable def ju (neg:Bool):R->R->M R
 | .d (.str i),.d (.str j)=>.ok (.d (.bl (if neg then !(!(QT j i 0 j.length 1).isEmpty) else !(QT j i 0 j.length 1).isEmpty)))
 | _,_=>.bad
noncomputable def IS (p q:Int->Int->Bool) (ga gb gc:G R):G R:=λenv=>ga env >>= λx=>gb env >>= λy=>match x,y with
 | .d (.int i),.d (.int j)=>if p i j then (gc env >>= λz=>match z with
  | .d (.int k)=>.ok (.d (.bl (q j k)))
  | _=>.bad) else .ok (.d (.bl false))
 | _,_=>.bad
noncomputable def DC:List R->M R
 | [.d (.int i),.d (.int j)]=>.ok (.d (.int (if j > i then j else i)))
 | _=>.bad
noncomputable def DE:List R->M R
 | [.d (.int i),.d (.int j)]=>.ok (.d (.int (if j < i then j else i)))
 | _=>.bad
theorem GR (hm:X.mg x=some u) (r:RelV v u) (hr:∀J,Rep c.K J d v) (hg:autoParam (Gl X x) zA._auto_1) (hd:autoParam ((x == ("__debug__":Str))=false) zB._auto_1):PD X c (.Name x pos) (gC d):=sU hr (Ab hg hm r hd)
theorem Iz {H:Hp}{s:Pk}(I:Inv X O6 σ H s):T5 < s.heap.objs.size:=by have h:Pz < s.heap.objs.size:=(I.mod.glob.keeps I.bk).lt;exact Uu (by decide) h
theorem B_:dD X (SA .Add) (λx y H Q=>∃a b xs ys,x=.ref a/\y=.ref b/\dF X.K H a xs/\dF X.K H b ys/\xs.length + ys.length<=sizeLine/\
  (xs=[]->Q (.ref b) H)/\(ys=[]->Q (.ref a) H)/\∀p,H p=none->Q (.ref p) (upd H p (.tup (xs++ys)))):=by
 intro O6 s σ H x y v u Q I rx ry h;obtain ⟨a,b,xs,ys,rfl,rfl,ha,hb,hz,q0,q1,q2⟩:=h;by_cases hx:xs=[]
 ·cases rx;cases ry;obtain ⟨O8,r1,p1,_⟩:=I.tuple ha;obtain ⟨its2,r2,p2,_⟩:=I.tuple hb;have he:O8=[]:=r1.nil_iff.mpr hx;subst he;obtain ⟨⟨cls,dd,data,sl⟩,ho,hc,n,hd⟩:=id p1;obtain ⟨⟨cls2,dd2,data2,sl2⟩,ho2,hc2,n2,hd2⟩:=id p2;simp only at hc hd hc2 hd2;subst hc hd hc2 hd2;exact Wz ⟨_,ho,rfl⟩ ⟨_,ho2,rfl⟩ UX VQ Tj S8 (SW _ _) (tuple_addW0 a b _ _ n n2 dd dd2 sl sl2 rfl) ⟨ho,ho2,⟨.ref b,H,I,rfl,q0 hx⟩⟩
 ·exact GG O6 s σ H (.ref a) (.ref b) v u Q I rx ry ⟨a,b,xs,ys,rfl,rfl,ha,hb,hx,hz,q1,λ_=>q2⟩
noncomputable def AJ:R->R->M R
 | .d (.tup xs),.d (.tup ys)=>if xs.length + ys.length<=sizeLine then .ok (.d (.tup (xs++ys))) else .bad
 | _,_=>.bad
theorem F_ (hK:X.K=c.K):BD c (λx y H Q=>∃a b xs ys,x=.ref a/\y=.ref b/\dF X.K H a xs/\dF X.K H b ys/\xs.length + ys.length<=sizeLine/\
  (xs=[]->Q (.ref b) H)/\(ys=[]->Q (.ref a) H)/\∀p,H p=none->Q (.ref p) (upd H p (.tup (xs++ys)))) AJ:=by
 intro He He' J H x y u v Q hp rx ry w;unfold AJ at w;split at w
 ·rename_i ds es;cases rx with
  | tup h1 s1=>
   cases ry with
   | tup h2 s2=>
    split at w
    ·rename_i hz;rw [s1.length,s2.length] at hz;refine ⟨_,_,_,_,rfl,rfl,by rw [hK];exact cV hp.sub h1,by rw [hK];exact cV hp.sub h2,hz,λe=>?_,λe=>?_,λp hp'=>w _ _ _ (Ext.newJ hp.sub hp' _) (mG hp hp' (s1.append s2))⟩
     ·have e':ds=[]:=TR (by rw [s1.length,e];rfl);subst e';exact w _ J H (Ext.refl hp.sub) (.tup h2 s2)
     ·have e':es=[]:=TR (by rw [s2.length,e];rfl);subst e';rw [Ql] at w;exact w _ J H (Ext.refl hp.sub) (.tup h1 s1)
    ·exact w.elim
 ·exact w.elim
noncomputable def IZ:R->Bool
 | .d (.tup _)=>true
 | _=>false
noncomputable def bO (x y:R):M R:=if IZ x then AJ x y else cB x y
noncomputable def intsOf:List D->Option (List Int)
 | []=>some []
 | .int i::r=>(intsOf r).map (i::·)
 | _::_=>none
theorem ng {K:Pe}{J:Hp}:∀{ds:List D}{vs:List V}{ns:List Int},intsOf ds=some ns->aT K J ds vs->vs=ns.map V.int
 | [],_,_,h,.nil=>by cases h;rfl
 | .int x::r,_,ks,h,.cons q rs=>by
  unfold intsOf at h;cases z:intsOf r with
  | none=>rw [z] at h;cases h
  | some ks'=>
   rw [z] at h;cases h;cases q;rw [ng z rs];rfl
noncomputable def q9:R->R->M R
 | .d (.int i),.d (.int j)=>.ok (.d (.bl (decide (i < j))))
 | .d (.str i),.d (.str j)=>.ok (.d (.bl (decide (i.cps.toList < j.cps.toList))))
 | .d (.tup xs),.d (.tup ys)=>match intsOf xs,intsOf ys with
  | some ns,some ms=>.ok (.d (.bl (HT.lexLt ns ms)))
  | _,_=>.bad
 | _,_=>.bad
end
noncomputable def EE (x:Str):It:=⟨λi _=>i < x.cps.size,λi H y H'=>H'=H/\∃k,x.cps[i]?=some k/\y=.str ⟨#[k]⟩,λi _=>x.cps.size<=i⟩
theorem yS {P:PX}{w:Qn}{K:Pe}{tg:Qq}{ty:String}{x:Str}{t:Tok}(it:PK) (hty:["enumerate","zip","dict_itemiterator","dict_reverseitemiterator","odict_iterator","itertools.zip_longest","itertools.pairwise"].contains ty=false)
  (W:∀A:Qx,A.handled=none->Walks P w A it [it] [it] x.cps.size (SignAt x) (λi h=>h.IsStrIter it ty x t i))
  (Ws:∀(A:Qx) (i:Nat) (s:Pk) (Q:Ph->Pk->Prop) (E:Ph->Pk->Prop),s.heap.IsStrIter it ty x t i->Q (.ref it) s->P_ (Qj P w) A (Yb (.ref it)) Q E s)
  (We:∀(A:Qx) (i:Nat) (s:Pk) (Q:Option Ph->Pk->Prop) (E:Ph->Pk->Prop),A.handled=none->s.heap.IsStrIter it ty x t i->x.cps[i]?=none->(∀h',(∀b o,b≠it->s.heap.get? b=some o->h'.get? b=some o)->Q none {s with heap:=h'})->P_ (Qj P w) A (VM (.ref it)) Q E s):Turn P w K tg (EE x) [it] it (λi h=>h.IsStrIter it ty x t i) where
 mem:=by simp
 obj:=λi h st b hb=>by
  have e:b=it:=by simpa using hb
  subst e;obtain ⟨o,e,c,d⟩:=st;exact ⟨o,e,λv z=>by rw [d] at z;cases z⟩
 keep:=λi h h' st k=>by obtain ⟨o,e,r⟩:=st;exact ⟨o,k it (by simp) o e,r⟩
 item:=by intro X hP hw hK hc i O6 s σ H E I hf st hg;subst hP hw hK;obtain ⟨f0,f1,f2,f3,f4,f5⟩:=hf it (by simp);refine (W X.A (I.ok.hd hc)).item i s _ _ hg st λv h' tk hv st' kk=>?_;obtain ⟨k,u,hk,rfl⟩:=hv;have I1:Inv X O6 σ H {s with heap:=h',toks:=tk}:=I.turned (λb o hb e=>kk b o (by simpa using hb) e) f0 f1 f3 f4 f5;obtain ⟨o,e,c,d⟩:=id st';exact ⟨_,rfl,wj (s:={s with heap:=h',toks:=tk}) e c d hty ⟨.str ⟨#[k]⟩,H,I1,⟨u,rfl⟩,⟨rfl,k,hk,rfl⟩,st',λb hb=>(hf b hb).1⟩⟩
 done:=by
  intro X hP hw hK hc i O6 s σ H E I hf st hg;subst hP hw hK;obtain ⟨f0,f1,f2,f3,f4,f5⟩:=hf it (by simp);have hx:x.cps[i]?=none:=by have:x.cps.size<=i:=hg;simp;omega
  exact We X.A i s _ E (I.ok.hd hc) st hx λh' eb=>⟨rfl,I.turned (t':=s.toks) (λb o hb e=>eb b o hb e) f0 f1 f3 f4 f5⟩
 self:=Ws
section
variable {X:Cx}{c:C}{e a b tg:Qq}{es:List Qq}{ga gb g:G R}{pos:Pos}
noncomputable def signs (x:Str):List D:=x.cps.toList.map λk=>.str ⟨#[k]⟩
noncomputable def uA (g:G R):G (List D):=λenv=>g env >>= λr=>match r with
 | .d (.str x)=>.ok (signs x)
 | _=>.bad
noncomputable def Ma (tl:TE):TI:=λσ H R=>tl σ H λx H1=>∃z,x=.str z/\R (EE z) H1
theorem JM {l:Qq}{tl:TE}(hl:PE X l tl):PI X tg l (Ma tl):=by
 intro O6 s σ H R I h;refine bT (hl O6 s σ H _ I h) λv s1 ⟨x,H1,I1,r1,q1⟩=>?_;obtain ⟨z,rfl,q⟩:=q1;obtain ⟨t,rfl⟩:=r1;have fin:∀(ty:String) (o:Obj) (T:Turn X.prog X.w X.K tg (EE z) [s1.heap.objs.size] s1.heap.objs.size (λi h=>h.IsStrIter s1.heap.objs.size ty z t i)),(s1.heap.push o).IsStrIter s1.heap.objs.size ty z t 0->
   Ik X O6 σ tg R (.ref s1.heap.objs.size) {s1 with heap:=s1.heap.push o}:=λty o T hst=>
  ⟨s1.heap.objs.size,[s1.heap.objs.size],_,_,H1,rfl,I1.kept (t':=s1.toks) λb o e=>Pq _ e,T,hst,λb hb=>by
   have e:b=s1.heap.objs.size:=by simpa using hb
   subst e;exact I1.fpOk (PJ _) (I1.hok.fresh (PJ _)),q⟩
 cases ha:z.cps.all (· < 128)
 ·exact wpAny_pyIter_wide ha (fin "str_iterator" _ (yS _ (by decide) (λA hA=>Walks.strWide hA _ z t) (λA i s Q E st hQ=>wpAny_pyIter_striter_wide st hQ) (λA i s Q E hA st hx hQ=>wpAny_pyNext_wide_end hA st hx hQ)) ⟨_,Px _ rfl,rfl,rfl⟩)
 ·exact wpAny_pyIter_ascii ha (fin "str_ascii_iterator" _ (yS _ (by decide) (λA hA=>Walks.strAscii hA _ z t) (λA i s Q E st hQ=>wpAny_pyIter_striter_ascii st hQ) (λA i s Q E hA st hx hQ=>wpAny_pyNext_ascii_end hA st hx hQ)) ⟨_,Px _ rfl,rfl,rfl⟩)
theorem EB {J1:Hp}{x:Str}{Ut:Hp->Hp->Prop}:Walk c (EE x) (signs x) J1 Ut:=by
 intro i J H hp u;have hl:(signs x).length=x.cps.size:=by simp [signs]
 refine ⟨λh=>(show x.cps.size<=i by rw [<-hl];exact h),λd hd=>?_⟩;have hi:i < x.cps.size:=by rw [<-hl];exact (Qd.mp hd).1
 refine ⟨hi,λy H2 ⟨e1,k,hk,e2⟩=>?_⟩;subst e1 e2;refine ⟨J,Ext.refl hp.sub,?_⟩;unfold signs at hd;rw [Qg] at hd;have hk':x.cps.toList[i]?=some k:=by simpa using hk
 rw [hk'] at hd;cases hd;exact .str _
theorem zp {prog:PX}{w:Qn}{A:Qx}{E:Ph->Pk->Prop}{s:Pk}{t sl:PK}{O7:Array Ph}{vl vu:Ph}{lo hi:Option Int}{Q:Ph->Pk->Prop}(ht:Yo s.heap t O7) (hs:s.heap.IsSliceOf sl vl vu .none) (pl:VR vl lo) (pu:VR vu hi)
  (hw:HT.bM O7.size 0 lo=0/\HT.bM O7.size O7.size hi=O7.size) (h:Q (.ref t) s):P_ (Qj prog w) A (Wf (.ref t) (.ref sl)) Q E s:=by
 obtain ⟨os,hos,hcs,hds⟩:=id hs;have Oi:s.TypeIs (.ref sl) "slice":=⟨os,hos,hcs⟩;unfold Wf
 try with_reducible refine RI ?_
 first | refine Pf (PU ?_) | skip
 refine Pf (Wg ht.typeIs (by decide) ?_);refine Pf (Rq (name:=SX "__getitem__") ht.typeIs QM
  (Sk QM ht.typeIs VA ?_ (VT _ _)))
 show P_ _ _ (Ul (.ref t) >>= _) _ _ s;refine Pf (XU ht ?_);refine Pf (WA Oi ?_);rw [if_pos (by decide)];refine Pf (HT.kW hs pl pu ?_);have hyes:(((HT.bM O7.size 0 lo:Nat):Int) == 0 && (1:Int) == 1 && (HT.bM O7.size O7.size hi - HT.bM O7.size 0 lo) == O7.size)=true:=by rw [hw.1,hw.2];simp
 show P_ _ _ (if (((HT.bM O7.size 0 lo:Nat):Int) == 0 && (1:Int) == 1 && (HT.bM O7.size O7.size hi - HT.bM O7.size 0 lo) == O7.size)=true then _ else _) _ _ s;rw [if_pos hyes];unfold Xg;refine Pf (Pf (WA ht.typeIs (PU ?_)));rw [if_pos (by decide)];exact Pf (Wm (PU ⟨_,rfl,PU h⟩))
theorem CL:qA X (λx lo hi H Q=>∃a xs,x=.ref a/\dF X.K H a xs/\((HT.bM xs.length 0 lo=0/\HT.bM xs.length xs.length hi=xs.length)->Q (.ref a) H)/\∀p,H p=none->Q (.ref p) (upd H p (.tup (lF xs lo hi)))):=by
 intro O6 s σ H x v vl vu lo hi sl Q I rx hs pl pu h;obtain ⟨a,xs,rfl,hx,q0,q1⟩:=h;by_cases hw:HT.bM xs.length 0 lo=0/\HT.bM xs.length xs.length hi=xs.length
 ·cases rx;obtain ⟨O8,r,ht,hz⟩:=I.tuple hx;have hlen:O8.toArray.size=xs.length:=by rw [PZ];exact r.length.symm
  exact ⟨"tuple",_,QM.lookup,ht.typeIs,zp ht hs pl pu (by rw [hlen];exact hw) ⟨.ref a,H,I,rfl,q0 hw⟩⟩
 ·exact Kg O6 s σ H (.ref a) v vl vu lo hi sl Q I rx hs pl pu ⟨a,xs,rfl,hx,hw,q1⟩
theorem AI {xs:List D}{lo hi:Option Int}(h:HT.bM xs.length 0 lo=0/\HT.bM xs.length xs.length hi=xs.length):cutD xs lo hi=xs:=by unfold cutD;rw [h.1,h.2];simp
noncomputable def DF:R->Option Int->Option Int->M R
 | .d (.tup xs),l,u=>.ok (.d (.tup (cutD xs l u)))
 | _,_,_=>.bad
theorem Mx (hK:X.K=c.K) (He J H:Hp) (x:R) (v:V) (l u:Option Int) (Q:VK) (hp:HI c J H) (rx:RR c He J H x v) (w:cg (DF x l u) (λz=>∀w J' H',Ext J H J' H'->RR c H J' H' z w->Q w H') c.T):
  ∃a xs,v=.ref a/\dF X.K H a xs/\((HT.bM xs.length 0 l=0/\HT.bM xs.length xs.length u=xs.length)->Q (.ref a) H)/\∀p,H p=none->Q (.ref p) (upd H p (.tup (lF xs l u))):=by
 unfold DF at w;split at w
 ·rename_i ds;cases rx with
  | tup h1 s1=>
   refine ⟨_,_,rfl,by rw [hK];exact cV hp.sub h1,λhw=>?_,λp hp'=>w _ _ _ (Ext.newJ hp.sub hp' _) (mG hp hp' (s1.cut _ _))⟩;rw [<-s1.length] at hw;rw [AI hw] at w;exact w _ J H (Ext.refl hp.sub) (.tup h1 s1)
 ·exact w.elim
noncomputable def eZ (x:R) (l u:Option Int):M R:=if IZ x then DF x l u else L8 x l u
theorem BK {α β:Type}{f:α->Option β}{g:α->β}:∀(l:List α),(∀m∈l,f m=some (g m))->l.filterMap f=l.map g
 | [],_=>rfl
 | x::r,h=>by rw [RO,h x P0,Qh];simp only;rw [BK r λm hm=>h m (Py _ hm)]
theorem D_ (xs:Array Ph):((Qc xs.size).filterMap λ(m:Nat)=>xs[(((xs.size:Int) - 1) + (m:Int) * (-1)).toNat]?)=xs.toList.reverse:=by
 have e:((Qc xs.size).filterMap λ(m:Nat)=>xs[(((xs.size:Int) - 1) + (m:Int) * (-1)).toNat]?)=(Qc xs.size).map λm=>(xs.toList.reverse).getD m .none:=by
  refine BK _ λm hm=>?_;have hm':m < xs.size:=Qt.mp hm;have e1:(((xs.size:Int) - 1) + (m:Int) * (-1)).toNat=xs.size - 1 - m:=by omega
  rw [e1];simp [Qa,hm',Vn,show xs.size - 1 - m < xs.size by omega]
 rw [e];refine WQ (by simp) λi h1 h2=>?_;simp [Qa];have:i < xs.size:=by simpa using h1
 simp [Vn,this,show xs.size - 1 - i < xs.size by omega]
theorem aT.rev {K:Pe}{J:Hp}:∀{ds:List D}{vs:List V},aT K J ds vs->aT K J ds.reverse vs.reverse
 | _,_,.nil=>.nil
 | _,_,.cons h hs=>by rw [Tu,Tu];exact (aT.rev hs).append (.cons h .nil)
end
structure jm (prog:PX) (w:Qn) (it src:PK) (vals:Array Ph) (St:Nat->QV->Prop):Prop where
 keep:∀(k:Nat) (h h':QV),St k h->(∀o,h.get? it=some o->h'.get? it=some o)->(∀o,h.get? src=some o->h'.get? src=some o)->St k h'
 there:∀(k:Nat) (h:QV),St k h->∃o,h.get? it=some o/\∀v,o.data≠.cell v
 item:∀(A:Qx) (s:Pk) (k:Nat) (x:Ph) (Q:Ph->Pk->Prop) (E:Ph->Pk->Prop),St k s.heap->vals[k]?=some x->(∀h',St (k + 1) h'->RA it s.heap h'->Q x {s with heap:=h'})->
  P_ (Qj prog w) A (Qm (.ref it)) Q E s
 fin:∀(A:Qx) (s:Pk) (k:Nat) (Q:Ph->Pk->Prop) (E:Ph->Pk->Prop),A.handled=none->St k s.heap->vals[k]?=none->
  (∀h' e,YF it s.heap h'->(∃o,h'.get? e=some o/\o.cls=.type "StopIteration")->E (.ref e) {s with heap:=h'})->P_ (Qj prog w) A (Qm (.ref it)) Q E s
theorem k8 (prog:PX) (w:Qn) (it l:PK) (vals:Array Ph) (hne:l≠it):jm prog w it l vals (λk h=>h.IsListIter it l k/\h.IsList l vals) where
 keep:=λk h h' st k1 k2=>⟨st.1.at λo e=>k1 o e,st.2.at λo e=>k2 o e⟩
 there:=λk h st=>by obtain ⟨⟨o,e,_,d⟩,_⟩:=st;exact ⟨o,e,λv z=>by rw [d] at z;cases z⟩
 item:=λA s k x Q E st hx hQ=>wpAny_nextOf_list_item st.1 st.2 hx λh' a1 a2=>hQ h' ⟨a1,st.2.extBut a2.extBut hne⟩ a2
 fin:=λA s k Q E hh st hx hE=>wpAny_nextOf_list_end hh st.1 st.2 hx hE
theorem next_tuple_item {prog:PX}{w:Qn}{A:Qx}{E:Ph->Pk->Prop}{s:Pk}{it t:PK}{k:Nat}{vals:Array Ph}{x:Ph}{Q:Ph->Pk->Prop}(hit:s.heap.IsTupleIter it t k) (ht:s.heap.IsTuple t vals) (hx:vals[k]?=some x)
  (hQ:∀h',h'.IsTupleIter it t (k + 1)->RA it s.heap h'->Q x {s with heap:=h'}):P_ (Qj prog w) A (Qm (.ref it)) Q E s:=by obtain ⟨oi,N4,OE,hdi⟩:=id hit;obtain ⟨ot,Ov,_,nt,hdt⟩:=ht;unfold Qm;refine Pf (Rq (name:=SX "__next__") hit.typeIs RW (Sk RW hit.typeIs Ub ?_ (T4 _)));show P_ _ _ (field (.ref it) 0 >>= _) _ _ s;refine Pf (QU N4 hdi (x:=.ref t) rfl ?_);show P_ _ _ (if (RG t == RL)=true then _ else _) _ _ s;rw [if_neg (show ¬(RG t == RL)=true from λz=>Qu z)];show P_ _ _ (field (.ref it) 1 >>= _) _ _ s;refine Pf (QU N4 hdi (x:=.int k 0) rfl ?_);show P_ _ _ (seqItems? (.ref t) >>= _) _ _ s;refine Pf (R7 Ov hdt ?_);simp only [SD,hx];refine Pf (TJ N4 hdi (by simp) (PU ⟨x,rfl,PU (hQ _ ?_ (VF ..))⟩));exact ⟨_,Sw _ N4 (TQ (Sn hdi _)),(Obj.cls_mapFields ..).trans OE,by rw [Sn hdi] <;> simp [Vf]⟩
theorem next_tuple_end {prog:PX}{w:Qn}{A:Qx}{E:Ph->Pk->Prop}{s:Pk}{it t:PK}{k:Nat}{vals:Array Ph}{Q:Ph->Pk->Prop}(hh:A.handled=none) (hit:s.heap.IsTupleIter it t k) (ht:s.heap.IsTuple t vals) (hx:vals[k]?=none)
  (hE:∀h' e,YF it s.heap h'->(∃o,h'.get? e=some o/\o.cls=.type "StopIteration")->E (.ref e) {s with heap:=h'}):P_ (Qj prog w) A (Qm (.ref it)) Q E s:=by
 obtain ⟨oi,N4,OE,hdi⟩:=id hit;obtain ⟨ot,Ov,_,nt,hdt⟩:=ht;unfold Qm;refine Pf (Rq (name:=SX "__next__") hit.typeIs RW (Sk RW hit.typeIs Ub ?_ (T4 _)));show P_ _ _ (field (.ref it) 0 >>= _) _ _ s;refine Pf (QU N4 hdi (x:=.ref t) rfl ?_);show P_ _ _ (if (RG t == RL)=true then _ else _) _ _ s;rw [if_neg (show ¬(RG t == RL)=true from λz=>Qu z)];show P_ _ _ (field (.ref it) 1 >>= _) _ _ s;refine Pf (QU N4 hdi (x:=.int k 0) rfl ?_);show P_ _ _ (seqItems? (.ref t) >>= _) _ _ s;refine Pf (R7 Ov hdt ?_);simp only [SD,hx];refine Pf (Wm (Pf (TJ N4 hdi (by simp) ?_)));show P_ _ _ (newExc (.type "StopIteration") [] >>= _) _ _ _;refine Pf ?_;simp only [newExc,newTuple];refine Pf (Ro ?_ (by size_fits));refine Pf (m:=Xo _ _) (wpAny_of_eq (a:=RL) (by first | rfl | (simp only [Xo];rfl)) ?_);refine Ro ?_ (by size_fits);simp only [raiseNew];refine Pf (wpAny_handled ?_)
 first | rw [show A.in1.handled=none from hh] | rw [hh]
 refine Pf (PU (wpAny_throw ?_));exact hE _ _ (((VF ..).extBut.push _).push _) ⟨_,Px _ rfl,rfl⟩
theorem jV (prog:PX) (w:Qn) (it t:PK) (vals:Array Ph) (hne:t≠it):jm prog w it t vals (λk h=>h.IsTupleIter it t k/\h.IsTuple t vals) where
 keep:=λk h h' st k1 k2=>by obtain ⟨⟨o,e,r⟩,⟨o2,e2,r2⟩⟩:=st;exact ⟨⟨o,k1 o e,r⟩,⟨o2,k2 o2 e2,r2⟩⟩
 there:=λk h st=>by obtain ⟨⟨o,e,_,d⟩,_⟩:=st;exact ⟨o,e,λv z=>by rw [d] at z;cases z⟩
 item:=λA s k x Q E st hx hQ=>next_tuple_item st.1 st.2 hx λh' a1 a2=>hQ h' ⟨a1,st.2.extBut a2.extBut hne⟩ a2
 fin:=λA s k Q E hh st hx hE=>next_tuple_end hh st.1 st.2 hx hE
section
variable {prog:PX}{w:Qn}{A:Qx}{E:Ph->Pk->Prop}{s:Pk}
theorem zu {z TI TO i1 i2 l1 l2:PK}{k:Nat}{xs ys:Array Ph}{x y a b:Ph}{S1 S2:Nat->QV->Prop}{Q:Ph->Pk->Prop}(N1:jm prog w i1 l1 xs S1) (N2:jm prog w i2 l2 ys S2) (D:V5 z TI TO i1 i2 l1 l2)
  (hz:V6 s.heap z TI TO .none) (hTI:Tc s.heap TI (.ref i1) (.ref i2)) (hTO:Tc s.heap TO a b) (st1:S1 k s.heap) (st2:S2 k s.heap) (hx:xs[k]?=some x) (hy:ys[k]?=some y)
  (hQ:∀h',V6 h' z TI TO (Vf s.heap.objs.size)->Tc h' TO x y->S1 (k + 1) h'->S2 (k + 1) h'->Tc h' s.heap.objs.size x y->h'.objs.size=s.heap.objs.size + 1->
   (∀q o,q≠z->q≠TO->q≠i1->q≠i2->s.heap.get? q=some o->h'.get? q=some o)->Q (.ref s.heap.objs.size) {s with heap:=h'}):
  P_ (Qj prog w) A (Vz.«zip.__next__» ⟨[.ref z],[]⟩) (λfin s'=>∃v,fin=.done (.ret v)/\Q v s') E s:=by
 have move:∀{S:Nat->QV->Prop}{it src q:PK}{vals:Array Ph}{m:Nat}{h h':QV},jm prog w it src vals S->S m h->RA q h h'->it≠q->src≠q->S m h':=λN st sb n1 n2=>N.keep _ _ _ st (λo e=>sb.extBut _ _ n1 e) λo e=>sb.extBut _ _ n2 e;show P_ _ _ (field (.ref z) 2 >>= _) _ _ _;refine Pf (QU hz rfl (x:=.bool false) rfl ?_);show P_ _ _ (field (.ref z) 3 >>= _) _ _ _;refine Pf (QU hz rfl (x:=.ref TI) rfl ?_);refine Pf (R7 hTI rfl ?_);show P_ _ _ (Rl (.ref z) >>= _) _ _ _;refine Pf ?_;unfold Rl;refine Pf (QU hz rfl (x:=.none) rfl (PU ?_));simp only [if_true];refine Pf (Wm ?_);refine Pf (QU hz rfl (x:=.ref TO) rfl ?_);refine Pf (R5 hz (by simp) λg1 z1 b1=>?_)
 replace z1:V6 g1 z TI TO .ellipsis:=z1
 refine Pf ?_;simp only [WR,W8,Vm,Vx];refine Pf (Pf (US ?_));show P_ _ _ (Qm (.ref i1) >>= _) _ _ _;refine Pf (N1.item _ _ k x _ _ (move N1 st1 b1 D.i1z D.l1z) hx λg2 p1 b2=>PU ?_);have o2:Tc g2 TO a b:=b2.extBut _ _ D.TOi1 (b1.extBut _ _ D.TOz hTO);refine Pf (R7 o2 rfl ?_);refine Pf (TV o2 λg3 o3 b3=>?_)
 replace o3:Tc g3 TO x b:=o3
 refine Pf (W9 (PU ?_));refine Pf (Pf (US ?_));show P_ _ _ (Qm (.ref i2) >>= _) _ _ _;have q2:=move N2 (move N2 (move N2 st2 b1 D.i2z D.l2z) b2 D.i12.symm D.l2i1) b3 D.TOi2.symm D.l2TO;refine Pf (N2.item _ _ k y _ _ q2 hy λg4 p2 b4=>PU ?_);have o4:Tc g4 TO x b:=b4.extBut _ _ D.TOi2 o3;refine Pf (R7 o4 rfl ?_);refine Pf (TV o4 λg5 o5 b5=>?_)
 replace o5:Tc g5 TO x y:=o5
 refine Pf (W9 (PU (PU ?_)));refine Pf (R7 o5 rfl ?_);refine Pf (wpAny_newTuple ?_);have sz5:g5.objs.size=s.heap.objs.size:=by rw [b5.1,b4.1,b3.1,b2.1,b1.1]
 have z5:V6 g5 z TI TO .ellipsis:=b5.extBut _ _ D.TOz.symm (b4.extBut _ _ D.i2z.symm (b3.extBut _ _ D.TOz.symm (b2.extBut _ _ D.i1z.symm z1)));have k5:∀q o,q≠z->q≠TO->q≠i1->q≠i2->s.heap.get? q=some o->g5.get? q=some o:=λq o c1 c2 c3 c4 e=>b5.extBut _ _ c2 (b4.extBut _ _ c4 (b3.extBut _ _ c2 (b2.extBut _ _ c3 (b1.extBut _ _ c1 e))));have p15:S1 (k + 1) g5:=move N1 (move N1 (move N1 p1 b3 D.TOi1.symm D.l1TO) b4 D.i12 D.l1i2) b5 D.TOi1.symm D.l1TO;have p25:S2 (k + 1) g5:=move N2 p2 b5 D.TOi2.symm D.l2TO;have zlt:z < g5.objs.size:=PL z5;show P_ _ _ (SO (.ref z) (.ref g5.objs.size) >>= _) _ _ _;refine Pf ?_;unfold SO;have z6:V6 (g5.push {cls:=.type "tuple",data:=.seq #[x,y]}) z TI TO .ellipsis:=Pq _ z5;refine Pf (R5 z6 (by simp) λg7 z7 b7=>?_)
 replace z7:V6 g7 z TI TO (Vf g5.objs.size):=z7
 refine R5 z7 (by simp) λg8 z8 b8=>?_
 replace z8:V6 g8 z TI TO (Vf g5.objs.size):=z8
 have up:∀q o,q≠z->g5.get? q=some o->g8.get? q=some o:=λq o c1 e=>b8.extBut _ _ c1 (b7.extBut _ _ c1 (Pq _ e));have t8:Tc g8 g5.objs.size x y:=b8.extBut _ _ (TL zlt) (b7.extBut _ _ (TL zlt) (Px _ rfl));have sz8:g8.objs.size=g5.objs.size + 1:=by rw [b8.1,b7.1,RK]
 rw [sz5] at z8 t8 sz8;refine PU ⟨_,rfl,?_⟩;show Q (.ref g5.objs.size) _;rw [sz5];exact hQ g8 z8 (up _ _ D.TOz o5) (N1.keep _ _ _ p15 (λo e=>up _ o D.i1z e) λo e=>up _ o D.l1z e) (N2.keep _ _ _ p25 (λo e=>up _ o D.i2z e) λo e=>up _ o D.l2z e) t8 sz8 λq o c1 c2 c3 c4 e=>up q o c1 (k5 q o c1 c2 c3 c4 e)
theorem Bh {z TI TO i1 i2 l1 l2:PK}{k:Nat}{xs ys:Array Ph}{a b:Ph}{S1 S2:Nat->QV->Prop}{Q:Fin->Pk->Prop}(hh:A.handled=none) (N1:jm prog w i1 l1 xs S1) (N2:jm prog w i2 l2 ys S2) (D:V5 z TI TO i1 i2 l1 l2)
  (hz:V6 s.heap z TI TO .none) (hTI:Tc s.heap TI (.ref i1) (.ref i2)) (hTO:Tc s.heap TO a b) (st1:S1 k s.heap) (st2:S2 k s.heap) (hend:xs[k]?=none\/ys[k]?=none)
  (hE:∀h' e,(∀q o,q≠z->q≠TO->q≠i1->q≠i2->s.heap.get? q=some o->h'.get? q=some o)->(∃o,h'.get? e=some o/\o.cls=.type "StopIteration")->E (.ref e) {s with heap:=h'}):
  P_ (Qj prog w) A (Vz.«zip.__next__» ⟨[.ref z],[]⟩) Q E s:=by
 have move:∀{S:Nat->QV->Prop}{it src q:PK}{vals:Array Ph}{m:Nat}{h h':QV},jm prog w it src vals S->S m h->RA q h h'->it≠q->src≠q->S m h':=λN st sb n1 n2=>N.keep _ _ _ st (λo e=>sb.extBut _ _ n1 e) λo e=>sb.extBut _ _ n2 e;show P_ _ _ (field (.ref z) 2 >>= _) _ _ _;refine Pf (QU hz rfl (x:=.bool false) rfl ?_);show P_ _ _ (field (.ref z) 3 >>= _) _ _ _;refine Pf (QU hz rfl (x:=.ref TI) rfl ?_);refine Pf (R7 hTI rfl ?_);show P_ _ _ (Rl (.ref z) >>= _) _ _ _;refine Pf ?_;unfold Rl;refine Pf (QU hz rfl (x:=.none) rfl (PU ?_));simp only [if_true];refine Pf (Wm ?_);refine Pf (QU hz rfl (x:=.ref TO) rfl ?_);refine Pf (R5 hz (by simp) λg1 z1 b1=>?_)
 replace z1:V6 g1 z TI TO .ellipsis:=z1
 refine Pf ?_;simp only [WR,W8,Vm,Vx];refine Pf (Pf (US ?_));show P_ _ _ (Qm (.ref i1) >>= _) _ _ _;cases hx:xs[k]? with
 | none=>
  refine Pf (N1.fin _ _ k _ _ hh (move N1 st1 b1 D.i1z D.l1z) hx λg2 e b2 he=>?_);obtain ⟨oe,N9,hce⟩:=he;have z2:V6 g2 z TI TO .ellipsis:=b2 _ _ D.i1z.symm z1;have Om:e≠z:=λq=>by subst q;rw [z2] at N9;cases N9;simp at hce
  refine R5 z2 (by simp) λg3 _ b3=>hE g3 e (λq o c1 _ c3 _ u=>b3.extBut _ _ c1 (b2 _ _ c3 (b1.extBut _ _ c1 u))) ⟨oe,b3.extBut _ _ Om N9,hce⟩
 | some x=>
  have hy:ys[k]?=none:=by rcases hend with h | h;rw [hx] at h;cases h;exact h
  refine Pf (N1.item _ _ k x _ _ (move N1 st1 b1 D.i1z D.l1z) hx λg2 p1 b2=>PU ?_);have o2:Tc g2 TO a b:=b2.extBut _ _ D.TOi1 (b1.extBut _ _ D.TOz hTO);refine Pf (R7 o2 rfl ?_);refine Pf (TV o2 λg3 o3 b3=>?_);refine Pf (W9 (PU ?_));refine Pf (Pf (US ?_));show P_ _ _ (Qm (.ref i2) >>= _) _ _ _;have q2:=move N2 (move N2 (move N2 st2 b1 D.i2z D.l2z) b2 D.i12.symm D.l2i1) b3 D.TOi2.symm D.l2TO;refine Pf (N2.fin _ _ k _ _ hh q2 hy λg4 e b4 he=>?_);obtain ⟨oe,N9,hce⟩:=he;have z4:V6 g4 z TI TO .ellipsis:=b4 _ _ D.i2z.symm (b3.extBut _ _ D.TOz.symm (b2.extBut _ _ D.i1z.symm z1));have Om:e≠z:=λq=>by subst q;rw [z4] at N9;cases N9;simp at hce
  refine R5 z4 (by simp) λg5 _ b5=>hE g5 e (λq o c1 c2 c3 c4 u=>b5.extBut _ _ c1 (b4 _ _ c4 (b3.extBut _ _ c2 (b2.extBut _ _ c3 (b1.extBut _ _ c1 u))))) ⟨oe,b5.extBut _ _ Om N9,hce⟩
theorem vU {z TI TO i1 i2 l1 l2:PK}{k:Nat}{xs ys:Array Ph}{x y a b:Ph}{S1 S2:Nat->QV->Prop}{Q:Option Ph->Pk->Prop}(N1:jm prog w i1 l1 xs S1) (N2:jm prog w i2 l2 ys S2) (D:V5 z TI TO i1 i2 l1 l2)
  (hz:V6 s.heap z TI TO .none) (hTI:Tc s.heap TI (.ref i1) (.ref i2)) (hTO:Tc s.heap TO a b) (st1:S1 k s.heap) (st2:S2 k s.heap) (hx:xs[k]?=some x) (hy:ys[k]?=some y)
  (hQ:∀h',V6 h' z TI TO (Vf s.heap.objs.size)->Tc h' TO x y->S1 (k + 1) h'->S2 (k + 1) h'->Tc h' s.heap.objs.size x y->h'.objs.size=s.heap.objs.size + 1->
   (∀q o,q≠z->q≠TO->q≠i1->q≠i2->s.heap.get? q=some o->h'.get? q=some o)->Q (some (.ref s.heap.objs.size)) {s with heap:=h'}):P_ (Qj prog w) A (VM (.ref z)) Q E s:=by
 have zt:s.TypeIs (.ref z) "zip":=⟨_,hz,rfl⟩;unfold VM;exact Pf (UR (Rq (name:=SX "__next__") zt Uc (Sk Uc zt WS
   (zu N1 N2 D hz hTI hTO st1 st2 hx hy λh' a1 a2 a3 a4 a5 a6 a7=>PU (hQ h' a1 a2 a3 a4 a5 a6 a7)) (Wn _))))
theorem sY {z TI TO i1 i2 l1 l2:PK}{k:Nat}{xs ys:Array Ph}{a b:Ph}{S1 S2:Nat->QV->Prop}{Q:Option Ph->Pk->Prop}(hh:A.handled=none) (N1:jm prog w i1 l1 xs S1) (N2:jm prog w i2 l2 ys S2) (D:V5 z TI TO i1 i2 l1 l2)
  (hz:V6 s.heap z TI TO .none) (hTI:Tc s.heap TI (.ref i1) (.ref i2)) (hTO:Tc s.heap TO a b) (st1:S1 k s.heap) (st2:S2 k s.heap) (hend:xs[k]?=none\/ys[k]?=none)
  (hQ:∀h',(∀q o,q≠z->q≠TO->q≠i1->q≠i2->s.heap.get? q=some o->h'.get? q=some o)->Q none {s with heap:=h'}):P_ (Qj prog w) A (VM (.ref z)) Q E s:=by have zt:s.TypeIs (.ref z) "zip":=⟨_,hz,rfl⟩;unfold VM;refine Pf (UR (Rq (name:=SX "__next__") zt Uc (Sk Uc zt WS (Bh hh N1 N2 D hz hTI hTO st1 st2 hend λh' e hk he=>?_) (Wn _))));obtain ⟨o,ho,hc⟩:=he;exact Pf (wpAny_isInstance (T:="StopIteration") (b:=true) ⟨o,ho,hc⟩ isSubtype_stop (PU (hQ _ hk)))
end
noncomputable abbrev CZ (h:QV) (o1 o2:Obj):QV:=((h.push o1).push o2).push {cls:=.type "tuple",data:=.seq #[.ref h.objs.size,.ref (h.push o1).objs.size]}
noncomputable abbrev C_ (h:QV) (o1 o2:Obj):QV:=(CZ h o1 o2).push {cls:=.type "tuple",data:=.seq #[.none,.none]}
noncomputable abbrev Dc (h:QV) (o1 o2:Obj):QV:=(C_ h o1 o2).push {cls:=.type "zip",data:=.fields #[.none,.bool false,.bool false,.ref ((h.push o1).push o2).objs.size,.ref (CZ h o1 o2).objs.size]}
noncomputable def cI (k:String) (l:PK):Obj:={cls:=.type k,data:=.fields #[.ref l,.int 0 0]}
noncomputable def oA (k:String) (h:QV) (l:PK) (vals:Array Ph):Prop:=(k="list_iterator"/\h.IsList l vals)\/(k="tuple_iterator"/\h.IsTuple l vals)
theorem oA.push {k:String}{h:QV}{l:PK}{vals:Array Ph}(x:oA k h l vals) (o:Obj):oA k (h.push o) l vals:=x.elim (λx=>.inl ⟨x.1,WO x.2 _⟩) λx=>.inr ⟨x.1,YV x.2 _⟩
theorem yy {prog:PX}{w:Qn}{A:Qx}{E:Ph->Pk->Prop}{s:Pk}{k:String}{l:PK}{vals:Array Ph}{Q:Ph->Pk->Prop}(x:oA k s.heap l vals) (h:Q (.ref s.heap.objs.size) {s with heap:=s.heap.push (cI k l)}):P_ (Qj prog w) A (Yb (.ref l)) Q E s:=by
 rcases x with ⟨rfl,x⟩ | ⟨rfl,x⟩
 ·exact Sy x h
 ·exact Uq x h
theorem HU (k1 k2:String) (l1 l2:PK) (xs ys:Array Ph):
  Meets (Vz.«zip.__new__» ⟨[.type "zip",.ref l1,.ref l2],[]⟩) (λ_ R s=>oA k1 s.heap l1 xs/\oA k2 s.heap l2 ys/\
   R (.ok (.ret (.ref (C_ s.heap (cI k1 l1) (cI k2 l2)).objs.size))) {s with heap:=Dc s.heap (cI k1 l1) (cI k2 l2)}):=
 .of_wp λprog w A R s h=>by
  obtain ⟨hp,g,d,tk,os⟩:=s;obtain ⟨q1,q2,h⟩:=h;have hsub:=sub_zip;have L1:oA k1 (YG ⟨hp,g,d,tk,os⟩) l1 xs:=q1;have L2:oA k2 (YG ⟨hp.push (cI k1 l1),g,d,tk,os⟩) l2 ys:=oA.push q2 _
  wp_walk using yy L1,yy L2
  exact ⟨_,rfl,h⟩
noncomputable def SQ (k:String) (it l:PK) (vals:Array Ph) (m:Nat) (h:QV):Prop:=(k="list_iterator"/\h.IsListIter it l m/\h.IsList l vals)\/(k="tuple_iterator"/\h.IsTupleIter it l m/\h.IsTuple l vals)
noncomputable def IQ (k:String) (it l:PK) (m:Nat) (h:QV):Prop:=(k="list_iterator"/\h.IsListIter it l m)\/(k="tuple_iterator"/\h.IsTupleIter it l m)
theorem SQ.iq {k:String}{it l:PK}{vals:Array Ph}{m:Nat}{h:QV}(x:SQ k it l vals m h):IQ k it l m h:=x.elim (λx=>.inl ⟨x.1,x.2.1⟩) λx=>.inr ⟨x.1,x.2.1⟩
theorem r9 (prog:PX) (w:Qn) (k:String) (it l:PK) (vals:Array Ph) (hne:l≠it):jm prog w it l vals (SQ k it l vals) where
 keep:=λm h h' st k1 k2=>by
  rcases st with ⟨e,st⟩ | ⟨e,st⟩
  ·exact .inl ⟨e,(k8 prog w it l vals hne).keep m h h' st k1 k2⟩
  ·exact .inr ⟨e,(jV prog w it l vals hne).keep m h h' st k1 k2⟩
 there:=λm h st=>by
  rcases st with ⟨e,st⟩ | ⟨e,st⟩
  ·exact (k8 prog w it l vals hne).there m h st
  ·exact (jV prog w it l vals hne).there m h st
 item:=λA s m x Q E st hx hQ=>by
  rcases st with ⟨e,st⟩ | ⟨e,st⟩
  ·exact (k8 prog w it l vals hne).item A s m x Q E st hx λh' a1 a2=>hQ h' (.inl ⟨e,a1⟩) a2
  ·exact (jV prog w it l vals hne).item A s m x Q E st hx λh' a1 a2=>hQ h' (.inr ⟨e,a1⟩) a2
 fin:=λA s m Q E hh st hx hE=>by
  rcases st with ⟨e,st⟩ | ⟨e,st⟩
  ·exact (k8 prog w it l vals hne).fin A s m Q E hh st hx hE
  ·exact (jV prog w it l vals hne).fin A s m Q E hh st hx hE
noncomputable def iw (k:String) (K:Pe) (H:Hp) (l:PK) (xs:List V):Prop:=(k="list_iterator"/\cX K H l xs)\/(k="tuple_iterator"/\dF K H l xs)
section
variable {X:Cx}{O6:List (PK×Obj)}{σ:L2.St}{H:Hp}{s:Pk}
theorem iw.get {k:String}{l:PK}{xs:List V}(I:Inv X O6 σ H s) (h:iw k X.K H l xs):∃O8:List Ph,Vals xs O8/\oA k s.heap l O8.toArray:=by
 rcases h with ⟨e,h⟩ | ⟨e,h⟩
 ·obtain ⟨O8,r,p,_⟩:=I.list h;exact ⟨O8,r,.inl ⟨e,p.isList⟩⟩
 ·obtain ⟨O8,r,p,_⟩:=I.tuple h;exact ⟨O8,r,.inr ⟨e,p⟩⟩
theorem iw.inj {k:String}{l:PK}{xs ys:List V}(I:Inv X O6 σ H s) (h:iw k X.K H l xs) (h':iw k X.K H l ys):xs=ys:=by
 rcases h with ⟨e,h⟩ | ⟨e,h⟩ <;> rcases h' with ⟨e',h'⟩ | ⟨e',h'⟩
 ·exact I.list_inj h h'
 ·rw [e] at e';exact absurd e' (by decide)
 ·rw [e] at e';exact absurd e' (by decide)
 ·exact I.tuple_inj h h'
theorem iw.ne {k:String}{l b:PK}{xs:List V}(I:Inv X O6 σ H s) (h:iw k X.K H l xs) (f:iJ X O6 H b):l≠b:=by
 have t:(∃o,H l=some o)\/∃o,X.K.lookup l=some o:=by
  rcases h with ⟨_,h⟩ | ⟨_,h⟩ <;> rcases h with (h | ⟨o,h⟩) | ⟨o,_,_,h,_⟩
  ·exact .inl ⟨_,h⟩
  ·exact .inl ⟨_,h⟩
  ·exact .inr ⟨o,h⟩
  ·exact .inl ⟨_,h⟩
  ·exact .inl ⟨_,h⟩
  ·exact .inr ⟨o,h⟩
 rintro rfl;rcases t with ⟨o,t⟩ | ⟨o,t⟩
 ·rw [f.1] at t;cases t
 ·have hb:X.base.get? l=some o:=I.ok.mod.kin l o t;rcases f.2.2.2.1 with z | z
  ·exact I.ok.noex l o hb z
  ·exact absurd (PM (PL (I.ok.bs l o hb).1) z) (Q6 _)
end
noncomputable def LF (K:Pe) (k1:String) (l1:PK) (k2:String) (l2:PK):It:=
 ⟨λi H=>∃xs ys x y,iw k1 K H l1 xs/\iw k2 K H l2 ys/\xs[i]?=some x/\ys[i]?=some y,
  λi H v H'=>∃p,H p=none/\v=.ref p/\∀xs ys x y,iw k1 K H l1 xs->iw k2 K H l2 ys->xs[i]?=some x->ys[i]?=some y->H'=upd H p (.tup [x,y]),
  λi H=>∃xs ys,iw k1 K H l1 xs/\iw k2 K H l2 ys/\(xs.length<=i\/ys.length<=i)⟩
noncomputable def LV (k1 k2:String) (l1 l2 z TI TO i1 i2:PK) (i:Nat) (h:QV):Prop:=V6 h z TI TO .none/\Tc h TI (.ref i1) (.ref i2)/\(∃a b,Tc h TO a b)/\IQ k1 i1 l1 i h/\IQ k2 i2 l2 i h
theorem IQ.keep {k:String}{it l:PK}{m:Nat}{h h':QV}(x:IQ k it l m h) (kp:∀o,h.get? it=some o->h'.get? it=some o):IQ k it l m h':=by
 rcases x with ⟨e,o,h1,r⟩ | ⟨e,o,h1,r⟩
 ·exact .inl ⟨e,o,kp o h1,r⟩
 ·exact .inr ⟨e,o,kp o h1,r⟩
theorem IQ.obj {k:String}{it l:PK}{m:Nat}{h:QV}(x:IQ k it l m h):∃o,h.get? it=some o/\∀v,o.data≠.cell v:=by rcases x with ⟨e,o,h1,_,d⟩ | ⟨e,o,h1,_,d⟩ <;> exact ⟨o,h1,λv z=>by rw [d] at z;cases z⟩
theorem IQ.sq {k:String}{it l:PK}{m:Nat}{h:QV}{vals:Array Ph}(x:IQ k it l m h) (q:oA k h l vals):SQ k it l vals m h:=by
 rcases x with ⟨e,x⟩ | ⟨e,x⟩ <;> rcases q with ⟨e',q⟩ | ⟨e',q⟩
 ·exact .inl ⟨e,x,q⟩
 ·rw [e] at e';exact absurd e' (by decide)
 ·rw [e] at e';exact absurd e' (by decide)
 ·exact .inr ⟨e,x,q⟩
theorem EA {P:PX}{w:Qn}{K:Pe}{elts:List Qq}{kk:Nat}{tp:Pos}(k1 k2:String) (l1 l2 z TI TO i1 i2:PK) (n1:TI≠z) (n2:TO≠z) (n3:i1≠z) (n4:i2≠z) (n5:TI≠TO) (n6:TI≠i1) (n7:TI≠i2) (n8:TO≠i1) (n9:TO≠i2) (n10:i1≠i2):
  Turn P w K (.Tuple elts kk tp) (LF K k1 l1 k2 l2) [z,TI,TO,i1,i2] z (LV k1 k2 l1 l2 z TI TO i1 i2) where
 mem:=by simp
 obj:=λi h st b hb=>by
  obtain ⟨hz,hTI,⟨a,c,hTO⟩,q1,q2⟩:=st;simp only [Pp,P9,or_false] at hb;rcases hb with rfl | rfl | rfl | rfl | rfl
  ·exact ⟨_,hz,λv q=>by cases (show Yq _=W3 v from q)⟩
  ·exact ⟨_,hTI,λv q=>by cases (show YM _ _=W3 v from q)⟩
  ·exact ⟨_,hTO,λv q=>by cases (show YM _ _=W3 v from q)⟩
  ·exact q1.obj
  ·exact q2.obj
 keep:=λi h h' st kp=>by obtain ⟨hz,hTI,⟨a,c,hTO⟩,q1,q2⟩:=st;exact ⟨kp z (by simp) _ hz,kp TI (by simp) _ hTI,⟨a,c,kp TO (by simp) _ hTO⟩,q1.keep λo e=>kp i1 (by simp) o e,q2.keep λo e=>kp i2 (by simp) o e⟩
 item:=by
  intro X hP hw hK hc i O6 s σ H E I hf st hg;subst hP hw hK;obtain ⟨hz,hTI,⟨a,c,hTO⟩,q1,q2⟩:=st;obtain ⟨xs,ys,x,y,s1,s2,hx,hy⟩:=hg;obtain ⟨O8,r1,p1⟩:=s1.get I;obtain ⟨its2,r2,p2⟩:=s2.get I;obtain ⟨u,hu,ru⟩:=r1.get hx;obtain ⟨v,hv,rv⟩:=r2.get hy;have ne1:∀b∈[z,TI,TO,i1,i2],l1≠b:=λb hb=>s1.ne I (hf b hb);have ne2:∀b∈[z,TI,TO,i1,i2],l2≠b:=λb hb=>s2.ne I (hf b hb);have Dz:V5 z TI TO i1 i2 l1 l2:=⟨n1,n2,n3,n4,n5,n6,n7,n8,n9,n10,ne1 z (by simp),ne1 TO (by simp),ne1 i1 (by simp),ne1 i2 (by simp),ne2 z (by simp),ne2 TO (by simp),ne2 i1 (by simp),ne2 i2 (by simp)⟩;refine vU (r9 X.prog X.w k1 i1 l1 O8.toArray (ne1 i1 (by simp))) (r9 X.prog X.w k2 i2 l2 its2.toArray (ne2 i2 (by simp))) Dz hz hTI hTO (q1.sq p1) (q2.sq p2) (by simpa using hu) (by simpa using hv) λh' a1 a2 a3 a4 a5 a6 hk=>?_;refine ⟨_,rfl,wpAny_letOwnedTupleGo_zip (s:={s with heap:=h'}) a1 λh'' z'' sb=>?_⟩;have fT:H s.heap.objs.size=none:=I.hok.fresh (PJ _);have old:∀{b:PK}{o:Obj},s.heap.get? b=some o->b≠s.heap.objs.size:=λe=>QA (PL e);have zT:z≠s.heap.objs.size:=old hz;have kk':∀b o,b∉[z,TO,i1,i2]->s.heap.get? b=some o->h''.get? b=some o:=λb o hb e=>by simp only [Pp,P9,or_false,not_or] at hb;exact sb.extBut _ _ hb.1 (hk b o hb.1 hb.2.1 hb.2.2.1 hb.2.2.2 e)
  have ff:∀b∈[z,TO,i1,i2],iJ X O6 H b:=λb hb=>hf b (by
   simp only [Pp,P9,or_false] at hb ⊢;rcases hb with rfl | rfl | rfl | rfl <;> simp)
  have Tn:∀b∈[z,TI,TO,i1,i2],b≠s.heap.objs.size:=λb hb=>by
   simp only [Pp,P9,or_false] at hb;rcases hb with rfl | rfl | rfl | rfl | rfl
   ·exact old hz
   ·exact old hTI
   ·exact old hTO
   ·exact old q1.obj.choose_spec.1
   ·exact old q2.obj.choose_spec.1
  have up':∀{b:PK}{o:HO},H b=some o->upd H s.heap.objs.size (.tup [x,y]) b=some o:=λe=>by rw [aW (e_ e fT)];exact e
  have I2:Inv X O6 σ (upd H s.heap.objs.size (.tup [x,y])) {s with heap:=h'',gens:=s.gens,drawn:=s.drawn,toks:=s.toks}:=by
   refine I.step (ch:=[z,TO,i1,i2]) (λb hb=>⟨(ff b hb).2.2.2.1,(ff b hb).2.1,(ff b hb).2.2.2.2.1,(ff b hb).2.2.2.2.2⟩) (λb o _ _ hb e _=>kk' b o hb e) (λb o _ _ hb e _=>⟨o.slots,kk' b o hb e⟩) (λb o hb e n=>by rw [aW (old e)];exact n)
    (λb o hb e=>⟨o,kk' b o hb e⟩) (λb xs e=>up' e) (λb o q e=>up' e) (λb ps e=>⟨#[],by rw [V7];exact up' e⟩) (λm hm=>?_) (λb q e=>?_) I.bare
   ·obtain ⟨o,es,ep,ho,r⟩:=hm;exact ⟨o,es,ep,kk' _ o (λhb=>(ff _ hb).2.1 rfl) ho,r⟩
   ·by_cases hb:b=s.heap.objs.size
    ·subst hb;rw [bI] at e;cases e;refine ⟨(by show 2<=sizeLine;decide),[u,v],.cons ru (.cons rv .nil),⟨_,sb.extBut _ _ (QC zT) a5,rfl,0,rfl⟩,λo q=>by rw [sb.extBut _ _ (QC zT) a5] at q;cases q;rfl⟩
    ·rw [aW hb] at e;have nch:∀d,(d=b\/H d=some (.own b))->d∉[z,TO,i1,i2]:=λd hd hm=>by
      have:=(ff d hm).1;rcases hd with rfl | hd
      ·rw [this] at e;cases e
      ·rw [this] at hd;cases hd
     exact (I.hok b q e).stay (λd o hd ho=>kk' d o (nch d hd) ho) (λ_ h=>up' h) λ_ _ h=>up' h
  refine ⟨.ref s.heap.objs.size,_,I2,rfl,⟨s.heap.objs.size,fT,rfl,λxs' ys' x' y' c1 c2 c3 c4=>?_⟩,⟨z'',sb.extBut _ _ n1 (hk TI _ n1 n5 n6 n7 hTI),⟨_,_,sb.extBut _ _ n2 a2⟩,a3.iq.keep λo e=>sb.extBut _ _ n3 e,a4.iq.keep λo e=>sb.extBut _ _ n4 e⟩,λb hb=>by rw [aW (Tn b hb)];exact (hf b hb).1⟩;have e1:=iw.inj I c1 s1;have e2:=iw.inj I c2 s2;subst e1 e2;rw [hx] at c3;rw [hy] at c4;cases c3;cases c4;rfl
 done:=by
  intro X hP hw hK hc i O6 s σ H E I hf st hg;subst hP hw hK;obtain ⟨hz,hTI,⟨a,c,hTO⟩,q1,q2⟩:=st;obtain ⟨xs,ys,s1,s2,hend⟩:=hg;obtain ⟨O8,r1,p1⟩:=s1.get I;obtain ⟨its2,r2,p2⟩:=s2.get I;have ne1:∀b∈[z,TI,TO,i1,i2],l1≠b:=λb hb=>s1.ne I (hf b hb);have ne2:∀b∈[z,TI,TO,i1,i2],l2≠b:=λb hb=>s2.ne I (hf b hb);have Dz:V5 z TI TO i1 i2 l1 l2:=⟨n1,n2,n3,n4,n5,n6,n7,n8,n9,n10,ne1 z (by simp),ne1 TO (by simp),ne1 i1 (by simp),ne1 i2 (by simp),ne2 z (by simp),ne2 TO (by simp),ne2 i1 (by simp),ne2 i2 (by simp)⟩;have Oc:O8.toArray[i]?=none\/its2.toArray[i]?=none:=by
   have e1:=r1.length;have e2:=r2.length;rcases hend with h | h
   ·left;simp;omega
   ·right;simp;omega
  refine sY (I.ok.hd hc) (r9 X.prog X.w k1 i1 l1 O8.toArray (ne1 i1 (by simp))) (r9 X.prog X.w k2 i2 l2 its2.toArray (ne2 i2 (by simp))) Dz hz hTI hTO (q1.sq p1) (q2.sq p2) Oc λh' hk=>⟨rfl,?_⟩;have ff:∀b∈[z,TO,i1,i2],iJ X O6 H b:=λb hb=>hf b (by
   simp only [Pp,P9,or_false] at hb ⊢;rcases hb with rfl | rfl | rfl | rfl <;> simp)
  have kk':∀b o,b∉[z,TO,i1,i2]->s.heap.get? b=some o->h'.get? b=some o:=λb o hb e=>by simp only [Pp,P9,or_false,not_or] at hb;exact hk b o hb.1 hb.2.1 hb.2.2.1 hb.2.2.2 e
  refine I.step (ch:=[z,TO,i1,i2]) (g':=s.gens) (d':=s.drawn) (t':=s.toks) (λb hb=>⟨(ff b hb).2.2.2.1,(ff b hb).2.1,(ff b hb).2.2.2.2.1,(ff b hb).2.2.2.2.2⟩) (λb o _ _ hb e _=>kk' b o hb e) (λb o _ _ hb e _=>⟨o.slots,kk' b o hb e⟩) (λb o hb e n=>n)
    (λb o hb e=>⟨o,kk' b o hb e⟩) (λb xs e=>e) (λb o q e=>e) (λb ps e=>⟨#[],by rw [V7];exact e⟩) (λm hm=>?_) (λb q e=>?_) I.bare
  ·obtain ⟨o,es,ep,ho,r⟩:=hm;exact ⟨o,es,ep,kk' _ o (λhb=>(ff _ hb).2.1 rfl) ho,r⟩
  ·have nch:∀d,(d=b\/H d=some (.own b))->d∉[z,TO,i1,i2]:=λd hd hm=>by
    have:=(ff d hm).1;rcases hd with rfl | hd
    ·rw [this] at e;cases e
    ·rw [this] at hd;cases hd
   exact (I.hok b q e).stay (λd o hd ho=>kk' d o (nch d hd) ho) (λ_ h=>h) λ_ _ h=>h
 self:=λA i s Q E st h=>WT st.1 h
section
variable {X:Cx}{c:C}{e a b:Qq}{es:List Qq}{ga gb g:G R}{pos:Pos}{elts:List Qq}{kk:Nat}{tp:Pos}
noncomputable def Mc (K:Pe) (ta:TA):TI:=λσ H Q=>ta σ H λvs H1=>∃k1 l1 xs k2 l2 ys,vs=[.ref l1,.ref l2]/\iw k1 K H1 l1 xs/\iw k2 K H1 l2 ys/\Q (LF K k1 l1 k2 l2) H1
theorem JO {ta:TA}{p:Pos}(hg:Gl X "zip") (hm:X.mg "zip"=none) (ha:PA X [a,b] ta) (hs:autoParam (Po [a,b] X.env=[(false,eval a X.env),(false,eval b X.env)]) zA._auto_1) (hs2:autoParam (Po [b] X.env=[(false,eval b X.env)]) zA._auto_1):
  PI X (.Tuple elts kk tp) (.Call (.Name "zip" p) [a,b] [] pos) (Mc X.K ta):=by
 intro O6 s σ H R I h;refine Call_ (l_ I hg hm boot_zip (RP (bT (ha pos O6 s σ H _ I h) λus s1 ⟨vs,H1,I1,r1,q1⟩=>?_) (by rw [hs,hs2]) (by rw [hs2];rfl)));obtain ⟨k1,l1,xs,k2,l2,ys,e,s1',s2',q⟩:=q1;subst e;obtain ⟨O8,v1,p1⟩:=s1'.get I1;obtain ⟨its2,v2,p2⟩:=s2'.get I1;cases r1 with
 | cons r rr=>
  cases rr with
  | cons r' rr=>
   cases rr;cases r;cases r';refine callType_new F.called_zip (by decide) (F.typeCall_zip_2 _ _) (F.newCall_zip_2 _ _) (λ_=>by first | exact F.args_object_init _ | rfl | decide) F.entry_zip_new (HU k1 k2 l1 l2 O8.toArray its2.toArray) ?_;refine ⟨p1,p2,?_⟩;have f0:∀{h:QV}{o:Obj},o.isFreed=false->(h.push o).get? h.objs.size=some o:=λho=>Px _ ho;have gp:∀{h:QV}{q:PK}{u:Obj}(o:Obj),h.get? q=some u->(h.push o).get? q=some u:=λo e=>Pq _ e;refine ⟨⟨_,Px _ rfl,rfl⟩,WT (f0:=.none) (Px _ rfl) ?_⟩;have e1:(s1.heap.push (cI k1 l1)).objs.size=s1.heap.objs.size + 1:=RK ..;have e2:((s1.heap.push (cI k1 l1)).push (cI k2 l2)).objs.size=s1.heap.objs.size + 2:=by rw [RK,e1]
   have e3:(CZ s1.heap (cI k1 l1) (cI k2 l2)).objs.size=s1.heap.objs.size + 3:=by unfold CZ;rw [RK,e2]
   have e4:(C_ s1.heap (cI k1 l1) (cI k2 l2)).objs.size=s1.heap.objs.size + 4:=by unfold C_;rw [RK,e3]
   have up5:∀b o,s1.heap.get? b=some o->(Dc s1.heap (cI k1 l1) (cI k2 l2)).get? b=some o:=λb o h=>gp _ (gp _ (gp _ (gp _ (gp _ h))));have I5:Inv X O6 σ H1 {s1 with heap:=Dc s1.heap (cI k1 l1) (cI k2 l2)}:=I1.kept (t':=s1.toks) up5;refine ⟨_,[(C_ s1.heap (cI k1 l1) (cI k2 l2)).objs.size,((s1.heap.push (cI k1 l1)).push (cI k2 l2)).objs.size,(CZ s1.heap (cI k1 l1) (cI k2 l2)).objs.size,s1.heap.objs.size,(s1.heap.push (cI k1 l1)).objs.size],
    LV k1 k2 l1 l2 _ _ _ _ _,_,H1,rfl,I5,EA k1 k2 l1 l2 _ _ _ _ _ (by rw [e2,e4];simp [PK]) (by rw [e3,e4];simp) (by rw [e4];simp) (by rw [e1,e4];simp) (by rw [e2,e3];simp) (by rw [e2];simp) (by rw [e2,e1];simp) (by rw [e3];simp) (by rw [e3,e1];simp) (by rw [e1];simp),?_,?_,q⟩
   ·refine ⟨Px _ rfl,gp _ (gp _ (Px _ rfl)),⟨.none,.none,gp _ (Px _ rfl)⟩,?_,?_⟩
    ·have h1:(Dc s1.heap (cI k1 l1) (cI k2 l2)).get? s1.heap.objs.size=some (cI k1 l1):=gp _ (gp _ (gp _ (gp _ (Px _ rfl))));rcases p1 with ⟨rfl,_⟩ | ⟨rfl,_⟩
     ·exact .inl ⟨rfl,_,h1,rfl,rfl⟩
     ·exact .inr ⟨rfl,_,h1,rfl,rfl⟩
    ·have h1:(Dc s1.heap (cI k1 l1) (cI k2 l2)).get? (s1.heap.push (cI k1 l1)).objs.size=some (cI k2 l2):=gp _ (gp _ (gp _ (Px _ rfl)));rcases p2 with ⟨rfl,_⟩ | ⟨rfl,_⟩
     ·exact .inl ⟨rfl,_,h1,rfl,rfl⟩
     ·exact .inr ⟨rfl,_,h1,rfl,rfl⟩
   ·intro b hb;have hle:s1.heap.objs.size<=b:=by
     simp only [Pp,P9,or_false] at hb;rcases hb with rfl | rfl | rfl | rfl | rfl
     ·rw [e4];exact TU _ _
     ·rw [e2];exact TU _ _
     ·rw [e3];exact TU _ _
     ·exact PJ _
     ·rw [e1];exact TU _ _
    have fp:=I1.fpOk hle (I1.hok.fresh hle);exact fp
noncomputable def uT:R->M (List D)
 | .d (.tup xs)=>.ok xs
 | .d (.lst xs)=>.ok xs
 | .l _ xs=>.ok xs
 | _=>.bad
noncomputable def AM (gs:G (List R)):G (List D):=λenv=>gs env >>= λrs=>match rs with
 | [x,y]=>uT x >>= λxs=>uT y >>= λys=>.ok (Rg (λa b=>.tup [a,b]) xs ys)
 | _=>.bad
theorem iw.same {k:String}{K:Pe}{H H':Hp}{l:PK}{xs:List V}(e:aV H H') (h:iw k K H l xs):iw k K H' l xs:=h.elim (λh=>.inl ⟨h.1,e.seq h.2⟩) λh=>.inr ⟨h.1,cV e h.2⟩
theorem CQ {He J1 H1:Hp}{r:R}{v:V}{xs:List D}(hp:HI c J1 H1) (h:RR c He J1 H1 r v) (q:uT r=.ok xs):∃k l vs,v=.ref l/\aT c.K J1 xs vs/\iw k c.K H1 l vs:=by
 unfold uT at q;split at q
 ·cases q;cases h with
  | tup h1 h2=>exact ⟨"tuple_iterator",_,_,rfl,h2,.inr ⟨rfl,cV hp.sub h1⟩⟩
 ·cases q;cases h with
  | lst h1 h2=>exact ⟨"list_iterator",_,_,rfl,h2,.inl ⟨rfl,hp.sub.seq h1⟩⟩
 ·cases q;obtain ⟨a,vs,rfl,h1,h2⟩:=RR.list hp h rfl;exact ⟨"list_iterator",_,_,rfl,h2,.inl ⟨rfl,h1⟩⟩
 ·cases q
theorem Aj {α:Type}{x:R}{f:List D->M α}{Q:α->Prop}{T:Exc->Prop}(w:cg (uT x >>= f) Q T):∃xs,uT x=.ok xs/\cg (f xs) Q T:=by
 cases q:uT x with
 | bad=>rw [q] at w;exact w.elim
 | ok xs=>rw [q] at w;exact ⟨xs,rfl,w⟩
 | exc z=>unfold uT at q;split at q <;> cases q
theorem En {K:Pe}{J:Hp}{xs ys:List D}{us vs:List V}{i:Nat}{d:D}(h1:aT K J xs us) (h2:aT K J ys vs) (e:(Rg (λa b=>D.tup [a,b]) xs ys)[i]?=some d):∃x y u v,d=.tup [x,y]/\us[i]?=some u/\vs[i]?=some v/\Rep K J x u/\Rep K J y v:=by
 rw [List.getElem?_zipWith] at e;cases q1:xs[i]? with
 | none=>rw [q1] at e;simp at e
 | some x=>
  cases q2:ys[i]? with
  | none=>rw [q1,q2] at e;simp at e
  | some y=>
   rw [q1,q2] at e;simp at e;obtain ⟨u,a1,a2⟩:=h1.get q1;obtain ⟨v,b1,b2⟩:=h2.get q2;exact ⟨x,y,u,v,e.symm,a1,b1,a2,b2⟩
end
section
variable {X:Cx}{c:C}{e a b tg:Qq}{es:List Qq}{ga gb g:G R}{pos:Pos}
noncomputable def pP (K:Pe) (mg:Str->Option Ph) (x:Str) (d:D):Prop:=∃u v,mg x=some u/\RelV v u/\∀J,Rep K J d v
theorem Le {j:Nat}{p q:Pos}:PE X (.UnaryOp .USub (.Constant (.int 1) j p) q) (tC (.int (-1))):=fc (Fg CY yu) λσ H Q h=>⟨1,rfl,h⟩
theorem oM:QO "int"=some (.type "int"):=by decide +kernel
theorem jU:QO "bool"=some (.type "bool"):=by decide +kernel
theorem jG:QO "str"=some (.type "str"):=by decide +kernel
theorem fk:QO "tuple"=some (.type "tuple"):=by decide +kernel
end
section
variable {X:Cx}{c:C}{e a b tg:Qq}{es:List Qq}{ga gb g:G R}{pos:Pos}{st:RV}{t u:G O}{tb:G Bool}
noncomputable def q_ (g:G R):G R:=λenv=>g env >>= λr=>match r with
 | .d (.int i)=>.ok (.d (.int (-i)))
 | _=>.bad
noncomputable def Ey:R->M Bool
 | .d .non=>.ok false
 | .d (.bl b)=>.ok b
 | .d (.int i)=>.ok (i != 0)
 | .d (.str y)=>if y.length<=sizeLine then .ok ((y.length:Int) != 0) else .bad
 | .d (.tup xs)=>.ok (!xs.isEmpty)
 | .d (.lst xs)=>.ok (!xs.isEmpty)
 | .d .emp=>.ok false
 | .d (.exn _ _ _)=>.bad
 | .d (.dct _ _)=>.bad
 | .l _ xs=>.ok (!xs.isEmpty)
 | _=>.bad
theorem IY {K:Pe}{J:Hp}{ds:List D}{vs:List V}(h:aT K J ds vs):ds.isEmpty=vs.isEmpty:=by cases h <;> rfl
theorem HH {He J H:Hp}(hp:HI c J H){Q:Bool->Prop}{T:Exc->Prop}:∀{r:R}{v:V},RR c He J H r v->cg (Ey r) Q T->∃k,Dm c.K v H k/\Q k
 | .d .non,_,h,w=>by cases h;exact ⟨_,rfl,w⟩
 | .d (.bl b),_,h,w=>by cases h;exact ⟨_,rfl,w⟩
 | .d (.int i),_,h,w=>by cases h;exact ⟨_,rfl,w⟩
 | .d (.str y),_,h,w=>by
  cases h;unfold Ey at w;simp only at w;split at w
  ·rename_i hz;exact ⟨_,⟨hz,rfl⟩,w⟩
  ·exact w.elim
 | .d (.tup xs),_,h,w=>by
  cases h with
  | tup h1 h2=>exact ⟨_,.inr (.inl ⟨_,cV hp.sub h1,rfl⟩),by rw [<-IY h2];exact w⟩
 | .d (.lst xs),_,h,w=>by
  cases h with
  | lst h1 h2=>exact ⟨_,.inl ⟨_,hp.sub.seq h1,rfl⟩,by rw [<-IY h2];exact w⟩
 | .d .emp,_,h,w=>by
  cases h with
  | emp h1=>exact ⟨_,.inr (.inr ⟨_,hp.sub _ _ h1,rfl⟩),w⟩
 | .d (.exn _ _ _),_,_,w=>w.elim
 | .d (.dct _ _),_,_,w=>w.elim
 | .mo _ _,_,_,w=>w.elim
 | .mb _ _,_,_,w=>w.elim
 | .mf _ _,_,_,w=>w.elim
 | .ln _,_,_,w=>w.elim
 | .l m xs,_,h,w=>by obtain ⟨a,vs,rfl,h1,h2⟩:=RR.list hp h rfl;exact ⟨_,.inl ⟨_,h1,rfl⟩,by rw [<-IY h2];exact w⟩
noncomputable def IT (g:G R):G Bool:=λenv=>g env >>= Ey
end
open PySem.AutoSeq1 in
theorem BJ (T:String) (hT:T="tuple"\/T="list") (l b:PK) (xs ys:Array Ph) (n m:Nat) (dd:Option PK) (sl:Array (Option Ph)) (z0:¬(!xs.isEmpty && RC (xs.size + ys.size))=true) (z1:xs.size<=sizeLine) (z2:xs.size + ys.size<=sizeLine + 1):
  Meets (Vz.«list.extend» ⟨[.ref l,.ref b],[]⟩) λ_ R s=>s.heap.get? l=some {cls:=.type "list",dict:=none,data:=.seq xs n,slots:=#[]}/\
   s.heap.get? b=some {cls:=.type T,dict:=dd,data:=.seq ys m,slots:=sl}/\R (.ok (.ret RL)) {s with heap:=s.heap.update l (Xy λx=>x++ys),toks:=s.toks}:=
 .of_wp λprog w A R s h=>by
  obtain ⟨hp,gs,dr,tk,os⟩:=s;obtain ⟨h1,h2,h3⟩:=h;have t1:=AutoSeq1.idx_int;have t2:=UD;have t3:=AutoSeq1.sub_list_list;have t4:=AutoSeq1.sub_tuple_list;have t5:=AutoSeq1.sub_list_tuple;have z3:(xs++ys).size<=sizeLine + 1:=by rw [UL];exact z2
  rcases hT with rfl | rfl
  ·wp_walk using (W_ h1 rfl (hz:=z1) (_hz':=z3)),Su h1,Su h2
   exact ⟨_,rfl,h3⟩
  ·wp_walk using (W_ h1 rfl (hz:=z1) (_hz':=z3)),Su h1,Su h2
   exact ⟨_,rfl,h3⟩
section
variable {X:Cx}{c:C}{e a b tg:Qq}{es:List Qq}{ga gb g:G R}{pos:Pos}
noncomputable def Ml (K:Pe):V->List V->Hp->VK->Prop:=λx vs H Q=>∃l b xs zs,x=.ref l/\vs=[.ref b]/\H l=some (.lst xs)/\(cX K H b zs\/dF K H b zs)/\xs.length + zs.length<=sizeLine/\Q .non (upd H l (.lst (xs++zs)))
theorem Jo:Ii X "list.extend" (Ml X.K):=by
 intro O6 s σ H x vs v us Q I rx rv h;obtain ⟨l,b,xs,zs,rfl,rfl,hH,hB,hz,q⟩:=h;cases rx;obtain ⟨u,rfl,ru⟩:=rv.one;cases ru;obtain ⟨z,O8,n,r,hl,e⟩:=I.lstM hH;have obj:∃T its2,(T="tuple"\/T="list")/\Vals zs its2/\∃dd m sl,s.heap.get? b=some {cls:=.type T,dict:=dd,data:=.seq its2.toArray m,slots:=sl}:=by
  rcases hB with hB | hB
  ·obtain ⟨its2,r2,pl,_⟩:=I.list hB;obtain ⟨⟨cls,dd,data,sl⟩,ho,hc,m,hd⟩:=pl.isList;simp only at hc hd;subst hc hd;exact ⟨"list",its2,.inr rfl,r2,dd,m,sl,ho⟩
  ·obtain ⟨its2,r2,pl,_⟩:=I.tuple hB;obtain ⟨⟨cls,dd,data,sl⟩,ho,hc,m,hd⟩:=pl;simp only at hc hd;subst hc hd;exact ⟨"tuple",its2,.inl rfl,r2,dd,m,sl,ho⟩
 obtain ⟨T,its2,hT,r2,dd,m,sl,e2⟩:=obj;have hl2:=r2.length;have hsz:O8.toArray.size + its2.toArray.size<=sizeLine:=by rw [PZ,PZ];omega
 have NZ:¬(!O8.toArray.isEmpty && RC (O8.toArray.size + its2.toArray.size))=true:=by rw [yk hsz,TH];exact Qu
 refine Xz VY ⟨_,e,rfl⟩ VD (Vq _ _) (BJ T hT l b O8.toArray its2.toArray n m dd sl NZ (by rw [PZ];omega) (by omega)) ⟨e,e2,?_⟩;refine ⟨.non,_,I.lset (its':=O8++its2) hH e (by simp) (r.append r2) ?_,rfl,q⟩;rw [Pu];omega
noncomputable def uw (i:Nat) (g:G R):G O:=λenv=>match env[i]? with
 | some (some (.own xs))=>g env >>= λr=>jE r >>= λys=>if xs.length + ys.length<=sizeLine then .ok (.nx (env.set i (some (.own (xs++ys))))) else .bad
 | _=>.bad
noncomputable def yq:V->Option (Option Bool)
 | .non=>some none
 | .bl k=>some (some k)
 | _=>none
theorem Es (rx:RelV x v) (ry:RelV y u) (h:yq y=some o):isSame v u=pure (yq x == some o):=by
 cases y with
 | non=>
  cases h;cases ry;cases x with
  | non=>cases rx;rfl
  | bl k=>cases rx;rfl
  | int i=>obtain ⟨t,rfl⟩:=rx;rfl
  | str z=>obtain ⟨t,rfl⟩:=rx;rfl
  | byt z=>obtain ⟨t,rfl⟩:=rx;rfl
  | flt z=>obtain ⟨t,rfl⟩:=rx;rfl
  | ref p=>cases rx;rfl
  | ty n=>cases rx;rfl
 | bl k'=>
  cases h;cases ry;cases x with
  | non=>cases rx;rfl
  | bl k=>cases rx;cases k <;> cases k' <;> rfl
  | int i=>obtain ⟨t,rfl⟩:=rx;rfl
  | str z=>obtain ⟨t,rfl⟩:=rx;rfl
  | byt z=>obtain ⟨t,rfl⟩:=rx;rfl
  | flt z=>obtain ⟨t,rfl⟩:=rx;rfl
  | ref p=>cases rx;rfl
  | ty n=>cases rx;rfl
 | _=>cases h
theorem Cd:dD X (Q8 .Is) (λx y H Q=>∃o,yq y=some o/\Q (.bl (yq x == some o)) H):=by intro O6 s σ H x y v u Q I rx ry h;obtain ⟨o,ho,q⟩:=h;show P_ _ _ (do return Tr (<-isSame v u)) _ _ s;rw [Es rx ry ho];exact Pf (PU (PU ⟨.bl _,H,I,rfl,q⟩))
noncomputable def AZ:R->Option (Option Bool)
 | .d .non=>some none
 | .d (.bl k)=>some (some k)
 | _=>none
noncomputable def rY (neg:Bool) (x y:R):M R:=match AZ y with
 | some o=>.ok (.d (.bl (if neg then !(AZ x == some o) else AZ x == some o)))
 | none=>.bad
theorem qe {He J H:Hp}:∀{r:R}{v:V},RR c He J H r v->yq v=AZ r
 | .d .non,_,h=>by cases h;rfl
 | .d (.bl _),_,h=>by cases h;rfl
 | .d (.int _),_,h=>by cases h;rfl
 | .d (.str _),_,h=>by cases h;rfl
 | .d (.tup _),_,h=>by cases h;rfl
 | .d (.lst _),_,h=>by cases h;rfl
 | .d .emp,_,h=>by cases h;rfl
 | .d (.exn _ _ _),_,h=>by cases h;rfl
 | .d (.dct _ _),_,h=>by cases h;rfl
 | .l .fresh _,_,h=>by obtain ⟨_,_,rfl,_⟩:=h;rfl
 | .l .own _,_,h=>by obtain ⟨_,_,rfl,_⟩:=h;rfl
 | .l .bor _,_,h=>by obtain ⟨_,_,rfl,_⟩:=h;rfl
 | .mo _ _,_,h=>by obtain ⟨_,rfl,_⟩:=h;rfl
 | .mb _ _,_,h=>by obtain ⟨_,rfl,_⟩:=h;rfl
 | .mf _ _,_,h=>by obtain ⟨_,rfl,_⟩:=h;rfl
 | .ln _,_,h=>by obtain ⟨_,_,rfl,_⟩:=h;rfl
end
theorem Gb {P:PX}{w:Qn}{K:Pe}{mg:Str->Option Ph}{base:QV}{x Pb:Str}{st:RV}{f:PK}{fd:Qi}{ps:List Str}{k:Nat}{Fm:List S->M R}(F:gz K x Pb st f fd) (hm:mg x=some (.ref f))
  (hbi:∀(kV doc pm:Ph) (an:Option PK) (cdv ct:Ph) (us:List Ph),us.length=ps.length->Ur (Q5 x Pb (d8 st) (bW st) (aQ st) .none kV doc pm an cdv ct) ⟨us,[]⟩=pure (ps.zip us))
  (hF:∀as,Fm as=.bad):bQ P w K mg base k ps.length x Fm:=
 ⟨f,fd,ps,⟨λvs H Q E ⟨J,as,_,_,_,h⟩=>(by rw [hF as] at h;exact h.elim),λA outer s H args us vs Q E _ _ _ _ ⟨J,as,_,_,_,h⟩=>(by rw [hF as] at h;exact h.elim)⟩,hm,F.kp,F.binds hbi⟩
section
variable {X:Cx}{c:C}{e a b d tg:Qq}{es:List Qq}{ga gb g:G R}{pos:Pos}
noncomputable def L_ (K:Pe) (tl:TE):TI:=λσ H R=>tl σ H λx H1=>∃a,x=.ref a/\(((∃xs,cX K H1 a xs)/\R (zx K a) H1)\/((∃xs,dF K H1 a xs)/\R (zy K a) H1))
theorem Cn {tl:TE}(hl:PE X e tl):PI X tg e (L_ X.K tl):=λO6 s σ H R I h=>bT (hl O6 s σ H _ I h) λv s1 ⟨x,H1,I1,r1,a,ex,q1⟩=>by
 subst ex;cases r1;have fp:∀b∈[s1.heap.objs.size],iJ X O6 H1 b:=λb hb=>by rw [P1] at hb;subst hb;exact I1.fpOk (PJ _) (I1.hok.fresh (PJ _))
 rcases q1 with ⟨⟨xs,hq⟩,q⟩ | ⟨⟨xs,hq⟩,q⟩
 ·obtain ⟨O8,rv,p,hz⟩:=I1.list hq;exact Sy p.isList ⟨s1.heap.objs.size,[s1.heap.objs.size],_,_,H1,rfl,I1.kept (t':=s1.toks) (λb o e=>Pq _ e),vA a _,⟨_,Px _ rfl,rfl,rfl⟩,fp,q⟩
 ·obtain ⟨O8,rv,p,hz⟩:=I1.tuple hq;exact Uq (show s1.heap.IsTuple a O8.toArray from p) ⟨s1.heap.objs.size,[s1.heap.objs.size],_,_,H1,rfl,I1.kept (t':=s1.toks) (λb o e=>Pq _ e),tR a _,⟨_,Px _ rfl,rfl,rfl⟩,fp,q⟩
theorem vD {J1:Hp}{a:PK}{vs:List V}{ds:List D}{U:Hp->Hp->Prop}(hU:∀J H,U J H->aV J1 J) (h:dF c.K J1 a vs) (hs:aT c.K J1 ds vs):Walk c (zy c.K a) ds J1 U:=by intro i J H hp u;have h':=cV hp.sub (cV (hU J H u) h);refine ⟨λhl=>⟨vs,h',by rw [<-hs.length];exact hl⟩,λd hd=>?_⟩;obtain ⟨v,k1,k2⟩:=hs.get hd;refine ⟨⟨vs,v,h',k1⟩,λx H2 ⟨e,hy⟩=>?_⟩;subst e;have:=hy vs h';rw [k1] at this;cases this;exact ⟨J,Ext.refl hp.sub,k2.mono (hU J _ u)⟩
noncomputable def uz (g:G R):G (List D):=λenv=>g env >>= λr=>match r with
 | .d (.tup xs)=>.ok xs
 | .d (.lst xs)=>.ok xs
 | .l .fresh xs=>.ok xs
 | .l .bor xs=>.ok xs
 | _=>.bad
noncomputable def gy (g:G R):G (List D):=λenv=>g env >>= jE
end
section
variable {X:Cx}{c:C}{st:RV}{g:G O}
theorem SR.frz {J H:Hp}{σ:L2.St}{env:Ev}(sr:SR c J H σ env){i:Nat}{x:Mn}{a:PK}{o:HO}{d:D}(hi:env[i]?=some (some (mS x))) (h1:σ[i]?=some (some (.ref a))) (h2:H a=some o) (h3:J a=none) (h4:c.H0 a=none) (h5:Rep c.K (L2.upd J a o) d (.ref a)):∃J',aV J J'/\SR c J' H σ (env.set i (some (.d d))):=by
 have s1:aV J (L2.upd J a o):=cj h3 _;refine ⟨L2.upd J a o,s1,⟨⟨λb o q=>?_,sr.hp.ent,sr.hp.entJ.trans s1,λb k1 k2=>?_⟩,by simpa using sr.len,λj y q=>?_,λj k ys zs w hjk q1 q2 q3 q4=>?_,sr.sp2.keep λk xs q=>?_⟩⟩
 ·by_cases hb:b=a
  ·subst hb;rw [bI] at q;cases q;exact h2
  ·rw [aW hb] at q;exact sr.hp.sub b o q
 ·have:b≠a:=λz=>k1 (z▸h4);rw [aW this];exact sr.hp.frz b k1 k2
 ·rcases cR q with ⟨rfl,hl,rfl⟩ | ⟨hj,q⟩
  ·exact ⟨.ref a,h1,h5⟩
  ·obtain ⟨w,k1,k2⟩:=sr.at_ j y q;refine ⟨w,k1,?_⟩;have hne:∀(z:Mn) p',y=mS z->w=.ref p'->p'≠a:=λz p' e ew ep=>sr.sep i j x z (.ref a) (QC hj) hi (e▸q) h1 (ep▸ew▸k1);cases y with
   | d x=>exact Rep.mono s1 k2
   | bor zs=>obtain ⟨p,us,m1,m2,m3⟩:=k2;exact ⟨p,us,m1,m2,m3.mono s1⟩
   | db _ _=>obtain ⟨p,m1,m2⟩:=k2;exact ⟨p,m1,m2.mono s1 (aV.refl _)⟩
   | fn _=>exact k2
   | tn zs=>obtain ⟨p,us,rfl,m1,m2⟩:=k2;exact ⟨p,us,rfl,cV s1 m1,m2.mono s1 λ_ h=>h⟩
   | dk ks zs=>
    obtain ⟨p,rfl,m1,m2,m3⟩:=k2;exact ⟨p,rfl,m1.mono s1 (aV.refl _),by rw [aW (hne (.inr (ks,zs)) p rfl rfl)];exact m2,m3⟩
   | own zs=>
    obtain ⟨p,us,rfl,m1,m2,m3,m4⟩:=k2;exact ⟨p,us,rfl,m1,by rw [aW (hne (.inl zs) p rfl rfl)];exact m2,m3,m4.mono s1⟩
   | ow2 zs=>
    obtain ⟨p,us,rfl,m1,m2,m3,m4⟩:=k2;exact ⟨p,us,rfl,m1,by rw [aW (hne (.nst zs) p rfl rfl)];exact m2,m3,m4.mono s1 λ_ h=>h⟩
 ·have f:∀(k:Nat) (ys:Mn),(env.set i (some (.d d)))[k]?=some (some (mS ys))->env[k]?=some (some (mS ys)):=λk ys q=>by
   rcases cR q with ⟨rfl,_,z⟩ | ⟨_,q⟩
   ·cases ys <;> cases z
   ·exact q
  exact sr.sep j k ys zs w hjk (f j ys q1) (f k zs q2) q3 q4
 ·rcases cR q with ⟨_,_,e⟩ | ⟨hk,q⟩
  ·cases e
  ·exact ⟨⟨xs,q⟩,rfl⟩
noncomputable def DH (i:Nat) (g:G O):G O:=λenv=>match env[i]? with
 | some (some (.own xs))=>g (env.set i (some (.d (.lst xs))))
 | some (some (.dk ks vs))=>g (env.set i (some (.d (.dct ks vs))))
 | _=>g env
end
structure QD (X:Cx) (c:C) (x0:Qq) (x1:G R):Prop where
 h:PD X c x0 x1
structure QB (X:Cx) (c:C) (x0:Qq) (x1:G Bool):Prop where
 h:PB X c x0 x1
structure jj (X:Cx) (c:C) (x0:List Qq) (x1:G (List R)):Prop where
 h:wN X c x0 x1
structure zC (X:Cx) (c:C) (x0:List Qq) (x1:G (List D)):Prop where
 h:LG X c x0 x1
structure jD (X:Cx) (c:C) (x0:RV) (x1:G O):Prop where
 h:EK X c x0 x1
structure lU (X:Cx) (c:C) (x0:List RV) (x1:G O):Prop where
 h:EL X c x0 x1
structure wO (X:Cx) (c:C) (x0:Qq) (x1:G Bool):Prop where
 h:MK X c x0 x1
structure uS (X:Cx) (c:C) (x0:Qq) (x1:GT):Prop where
 h:EM X c x0 x1
structure wR (X:Cx) (c:C) (x0:List Qq) (x1:nY):Prop where
 h:L4 X c x0 x1
structure wQ (X:Cx) (c:C) (x0:Qq) (x1:Qq) (x2:G (List D)):Prop where
 h:ML X c x0 x1 x2
structure Bp (X:Cx) (c:C) (x0:Qq) (x1:Qq) (x2:G (List D)):Prop where
 h:LH X c x0 x1 x2
structure Au (X:Cx) (c:C) (x0:List Qq) (x1:G Bool):Prop where
 h:Dk X c x0 x1
structure zD (X:Cx) (c:C) (x0:Option Qq) (x1:GO):Prop where
 h:Il X c x0 x1
section
variable {X:Cx}{c:C}{e a b:Qq}{ga gb:G R}{pos:Pos}
theorem af (i:Nat) (hN:autoParam (X.N[i]?=some x) zA._auto_1) (hv:zE X.env.scope x:=by first | exact UZ rfl | exact TX (UZ rfl) | exact TX (TX rfl)) (hd:autoParam ((x == ("__debug__":Str))=false) zB._auto_1)
 (hcd:autoParam ((x == ("__classdict__":Str))=false) zB._auto_1):QD X c (.Name x pos) (aa i):=⟨GS (pA hN hv hd hcd)⟩
theorem az:QD X c (.Constant (.int i) j pos) (gC (.int i)):=⟨sU (λ_=>.int i) yu⟩
theorem eY:QD X c (.Constant (.bool i) j pos) (gC (.bl i)):=⟨sU (λ_=>.bl i) Ld⟩
theorem fC:QD X c (.Constant .none j pos) (gC .non):=⟨sU (λ_=>.non) JH⟩
theorem aN:QD X c (.Constant (.str x) j pos) (gC (.str x)):=⟨sU (λ_=>.str x) JK⟩
theorem uM (ha:QD X c a ga) (hb:QD X c b gb):QD X c (.BinOp a .Sub b pos) (g2 oQ ga gb):=have ha:=ha.h;have hb:=hb.h;⟨nC JD (iD λ_ _ _=>.int _) ha hb⟩
theorem d_ (ha:QD X c a ga) (hb:QD X c b gb):QD X c (.BinOp a .FloorDiv b pos) (g2 fE ga gb):=have ha:=ha.h;have hb:=hb.h;⟨nC GH (Az (λi j h=>Gw h) λ_ _ _=>.int _) ha hb⟩
theorem b_ (ha:QD X c a ga) (hb:QD X c b gb):QD X c (.BinOp a .Mod b pos) (g2 cQ ga gb):=have ha:=ha.h;have hb:=hb.h;⟨nC Jz (Az (λi j h=>by unfold Jf at h;exact of_decide_eq_true h) λ_ _ _=>.int _) ha hb⟩
theorem uL (ha:QD X c a ga) (hb:QD X c b gb):QD X c (.BinOp a .Pow b pos) (g2 lH ga gb):=have ha:=ha.h;have hb:=hb.h;⟨nC JC (Az (λi j h=>Gy h) λ_ _ _=>.int _) ha hb⟩
theorem ao:jj X c [] ak:=⟨wF gT λσ H Q ⟨J,env,sr,w⟩=>w [] J H (Ext.refl sr.hp.sub) rfl⟩
theorem ai {es:List Qq}{g:G R}{gs:G (List R)}(h:QD X c e g) (hs:jj X c es gs) (hst:autoParam (Po (e::es) X.env=(false,eval e X.env)::Po es X.env) zA._auto_1):jj X c (e::es) (ah g gs):=have h:=h.h;have hs:=hs.h;⟨
 wF (fz h hs hst) λσ H Q ⟨J,env,sr,w⟩=>by
  refine ⟨J,env,sr,aB (aH w) λx wx u J1 H1 e1 r1=>?_⟩;refine ⟨J1,env,sr.ext e1,aB (aH wx) λxs wy us J2 H2 e2 r2=>?_⟩;exact wy (u::us) J2 H2 (e1.trans e2) ⟨u,us,rfl,r1.ext e2,kE.from e1.h r2⟩⟩
end
section
variable {X:Cx}{c:C}{e a b:Qq}{es:List Qq}{ga gb g:G R}{pos:Pos}
theorem bw:zC X c [] aC:=⟨wF gT λσ H Q ⟨J,env,sr,w⟩=>w [] J H (Ext.refl sr.hp.sub) .nil⟩
theorem aA {gs:G (List D)}(h:QD X c e g) (hs:zC X c es gs) (hst:autoParam (Po (e::es) X.env=(false,eval e X.env)::Po es X.env) zA._auto_1):zC X c (e::es) (aj g gs):=have h:=h.h;have hs:=hs.h;⟨
 wF (fz h hs hst) λσ H Q ⟨J,env,sr,w⟩=>by
  refine ⟨J,env,sr,aB (aH w) λx wx u J1 H1 e1 r1=>?_⟩;obtain ⟨d,q,wx⟩:=kq wx;obtain ⟨J1',e1',s1,rd⟩:=freeze e1 r1 q;refine ⟨J1',env,sr.ext e1',aB (aH wx) λxs wy us J2 H2 e2 r2=>?_⟩;exact wy (u::us) J2 H2 (e1'.trans e2) (.cons (rd.mono e2.j) r2)⟩
theorem dU {k}{gs:G (List D)}(h:zC X c es gs):QD X c (.Tuple es k pos) (c9 gs):=have h:=h.h;⟨fc (Ck h) λσ H Q ⟨J,env,sr,w⟩=>by
 refine ⟨J,env,sr,aB (aH w) λds wd vs J1 H1 e1 r1=>?_⟩;split at wd
 ·rename_i hz;rw [r1.length] at hz;exact ⟨hz,λp hp=>wd _ _ _ (e1.trans (Ext.newJ e1.sub hp _)) (mG (sr.hp.ext e1) hp r1)⟩
 ·exact wd.elim⟩
theorem cM {gs:G (List D)}(h:zC X c es gs):QD X c (.List es pos) (cT gs):=have h:=h.h;⟨fc (yv h) λσ H Q ⟨J,env,sr,w⟩=>by
 refine ⟨J,env,sr,aB (aH w) λds wd vs J1 H1 e1 r1=>?_⟩;split at wd
 ·rename_i hz;rw [r1.length] at hz;exact ⟨hz,λp hp=>wd _ _ _ (e1.trans (Ext.new e1.sub hp _)) (RR.from e1.h (kU (sr.hp.ext e1) hp r1))⟩
 ·exact wd.elim⟩
theorem c7 {p:Pos}{gs:G (List R)}(ha:jj X c (e::es) gs) (hm:X.mg "len"=none) (hK:autoParam (X.K=c.K) zA._auto_1) (hg:autoParam (Gl X "len") zA._auto_1)
  (he:autoParam (Po (e::es) X.env=(false,eval e X.env)::Po es X.env) zA._auto_1) (hpl:autoParam ((Ra pos (Po es X.env)).any (·.1)=false) zA._auto_1):QD X c (.Call (.Name "len" p) (e::es) [] pos) (gN dz gs):=have ha:=ha.h;⟨
 kQ (xw.or xu) (by
  intro He J H xs vs Q hp rs w;unfold dz at w;split at w
  ·obtain ⟨v,rfl,r⟩:=rs.one;cases r;split at w
   ·rename_i hz;exact .inl ⟨_,rfl,hz,w _ J H (Ext.refl hp.sub) (.int _)⟩
   ·exact w.elim
  ·obtain ⟨v,rfl,r⟩:=rs.one;obtain ⟨xs,q,w⟩:=mL w;obtain ⟨p,vs,rfl,hq,hs⟩:=pT hp r q;have w':=w (.int vs.length) J H (Ext.refl hp.sub) (by rw [hs.length];exact .int _);exact .inr ⟨p,vs,rfl,by rw [hK];exact hq,w'⟩
  ·exact w.elim) PySem.boot_len hm ha hg (by decide) (by decide) he hpl⟩
theorem dI {gs:G (List R)}(ha:jj X c (e::es) gs) (hm:X.mg "tuple"=none) (hK:autoParam (X.K=c.K) zA._auto_1) (hg:autoParam (Gl X "tuple") zA._auto_1)
 (he:autoParam (Po (e::es) X.env=(false,eval e X.env)::Po es X.env) zA._auto_1) (hpl:autoParam ((Ra pos (Po es X.env)).any (·.1)=false) zA._auto_1):QD X c (.Call (.Name "tuple" p) (e::es) [] pos) (gN eH gs):=have ha:=ha.h;⟨
 pg vL (by
  intro He J H xs vs Q hp rs w;unfold eH at w;split at w
  ·obtain ⟨v,rfl,r⟩:=rs.one;rename_i r0;obtain ⟨xs,q,w⟩:=mL w;cases r0 with
   | d y=>
    cases y with
    | tup ys=>
     cases q;cases r with
     | tup h hs=>exact ⟨_,_,rfl,.inr ⟨by rw [hK];exact cV hp.sub h,w _ J H (Ext.refl hp.sub) (.tup h hs)⟩⟩
    | lst ys=>
     cases q;obtain ⟨p,vs,rfl,hq,hs⟩:=RR.list hp r rfl;exact ⟨p,vs,rfl,.inl ⟨by rw [hK];exact hq,λl hl=>w _ _ _ (Ext.newJ hp.sub hl _) (mG hp hl hs)⟩⟩
    | _=>cases q
   | mo _ _=>cases q
   | mb _ _=>cases q
   | mf _ _=>cases q
   | ln _=>cases q
   | l m ys=>
    cases q;obtain ⟨p,vs,rfl,hq,hs⟩:=RR.list hp r rfl;exact ⟨p,vs,rfl,.inl ⟨by rw [hK];exact hq,λl hl=>w _ _ _ (Ext.newJ hp.sub hl _) (mG hp hl hs)⟩⟩
  ·exact w.elim) za hm ha hg (by decide) (by decide) he hpl⟩
theorem cu (h:QD X c e g) (he:∀whole,Ww e X.env whole=(do let v <-whole;W2 e.pos;holding [v] (truthy v)):=by intro _;rfl):QB X c e (aK g):=have h:=h.h;⟨wG (JR h he) λσ H Q ⟨J,env,sr,w⟩=>by
 refine ⟨J,env,sr,aB (aH w) λr wr v J1 H1 e1 r1=>?_⟩;split at wr
 ·cases r1;exact ⟨_,rfl,wr J1 H1 e1⟩
 ·exact wr.elim⟩
theorem g_ {f:R->R->M R}(ho:dD X (Q8 op) r) (hf:BD c r f) (ha:QD X c a ga) (hb:QD X c b gb) (hm:QS op b=false:=by first | exact yj _ | rfl):QB X c (.Compare a [op] [b] pos) (aK (g2 f ga gb)):=⟨jI ho hf ha.h hb.h hm⟩
variable {t u:G Bool}{O_:List Qq}
theorem dH (h:wO X c e t):QB X c e t:=have h:=h.h;⟨PW.pt h⟩
theorem rG (h:QB X c a t):wO X c (.BoolOp .And [a] pos) t:=have h:=h.h;⟨G3 h⟩
theorem eU (h:QB X c a t):wO X c (.BoolOp .Or [a] pos) t:=have h:=h.h;⟨JT h⟩
theorem mD (h:QB X c a t) (h':wO X c (.BoolOp .And (b::O_) pos) u):wO X c (.BoolOp .And (a::b::O_) pos) (bf t u):=have h:=h.h;have h':=h'.h;⟨Ft (JS h h') λσ H Q ⟨J,env,sr,w⟩=>by
 refine ⟨J,env,sr,aB (aH w) λk wk J1 H1 e1=>?_⟩;cases k with
 | true=>
  rw [if_pos rfl] at wk ⊢;exact ⟨J1,env,sr.ext e1,aB wk λk q J2 H2 e2=>q J2 H2 (e1.trans e2)⟩
 | false=>
  rw [if_neg (by decide)] at wk ⊢;exact wk J1 H1 e1⟩
theorem eK (h:QB X c a t) (h':wO X c (.BoolOp .Or (b::O_) pos) u):wO X c (.BoolOp .Or (a::b::O_) pos) (bu t u):=have h:=h.h;have h':=h'.h;⟨Ft (Ll h h') λσ H Q ⟨J,env,sr,w⟩=>by
 refine ⟨J,env,sr,aB (aH w) λk wk J1 H1 e1=>?_⟩;cases k with
 | true=>
  rw [if_pos rfl] at wk ⊢;exact wk J1 H1 e1
 | false=>
  rw [if_neg (by decide)] at wk ⊢;exact ⟨J1,env,sr.ext e1,aB wk λk q J2 H2 e2=>q J2 H2 (e1.trans e2)⟩⟩
theorem cU (h:QB X c a t):QB X c (.UnaryOp .Not a pos) (aP t):=have h:=h.h;⟨wG (JQ h) λσ H Q ⟨J,env,sr,w⟩=>⟨J,env,sr,aB (aH w) λk wk J1 H1 e1=>wk J1 H1 e1⟩⟩
theorem fH {op}(h:QD X c a ga):QD X c (.BoolOp op [a] pos) ga:=have h:=h.h;⟨JJ h⟩
theorem fB (h:QD X c a ga) (h':QD X c (.BoolOp .And (b::O_) pos) gb):QD X c (.BoolOp .And (a::b::O_) pos) (aO ga gb):=have h:=h.h;have h':=h'.h;⟨fc (JG h h') λσ H Q ⟨J,env,sr,w⟩=>by
 refine ⟨J,env,sr,aB (aH w) λr wr v J1 H1 e1 r1=>?_⟩;split at wr
 ·cases r1;exact ⟨true,rfl,Ja ⟨J1,env,sr.ext e1,aB wr λz q v J2 H2 e2 r2=>q v J2 H2 (e1.trans e2) (RR.from e1.h r2)⟩⟩
 ·cases r1;exact ⟨false,rfl,I_ (wr _ J1 H1 e1 (.bl _))⟩
 ·exact wr.elim⟩
theorem Hf (h:QD X c a ga):QD X c (.UnaryOp .Not a pos) (aS ga):=have h:=h.h;⟨fc (JI h) λσ H Q ⟨J,env,sr,w⟩=>by
 refine ⟨J,env,sr,aB (aH w) λr wr v J1 H1 e1 r1=>?_⟩;split at wr
 ·cases r1;exact ⟨_,rfl,wr _ J1 H1 e1 (.bl _)⟩
 ·exact wr.elim⟩
end
section
variable {X:Cx}{c:C}{e a b tg:Qq}{es:List Qq}{ga gb g:G R}{pos:Pos}{st:RV}{O_:List RV}{t u:G O}{tb:G Bool}
theorem bx:lU X c [] aU:=⟨pC Ac λE σ H ⟨J,env,sr,w⟩=>w σ J H (aV.refl J) sr⟩
theorem av (h:jD X c st t) (h':lU X c O_ u):lU X c (st::O_) (aq t u):=have h:=h.h;have h':=h'.h;⟨pC (yw h h') λE σ H ⟨J,env,sr,w⟩=>by
 refine ⟨J,env,sr,aB (aH w) λo wo=>?_⟩;cases o with
 | nx e=>exact λσ' J' H' s' sr'=>⟨J',e,sr',aB wo λo q=>q.mono s'⟩
 | rt r=>exact wo
 | bk e=>exact wo
 | ct e=>exact wo⟩
theorem aD (h:jD X c st t):lU X c [st] t:=have h:=h.h;⟨uJ h⟩
theorem aM (h:QD X c e g):jD X c (.Return (some e) pos) (aE g):=have h:=h.h;⟨gK (JP h) λE σ H ⟨J,env,sr,w⟩=>by
 refine ⟨J,env,sr,aB (aH w) λr wr v J1 H1 e1 r1=>?_⟩;cases q:rF r with
 | bad=>rw [q] at wr;exact wr.elim
 | exc x=>cases r with
  | d _=>cases q
  | l m _=>cases m <;> cases q
  | mo _ _=>cases q
  | mb _ _=>cases q
  | mf _ _=>cases q
  | ln _=>cases q
 | ok r'=>rw [q] at wr;exact wr v J1 H1 e1.j (sr.hp.ext e1) (RR.rf sr.hp r1 q)⟩
theorem bG {x:Qq}{as bs:List RV}(hx:QB X c x tb) (h:lU X c as t) (h':lU X c bs u):jD X c (.If x as bs pos) (aJ tb t u):=have hx:=hx.h;have h:=h.h;have h':=h'.h;⟨gK (Lh hx h h') λE σ H ⟨J,env,sr,w⟩=>by
 refine ⟨J,env,sr,aB (aH w) λk wk J1 H1 e1=>?_⟩;cases k with
 | true=>
  rw [if_pos rfl] at wk ⊢;exact ⟨J1,env,sr.ext e1,aB wk λo q=>q.mono e1.j⟩
 | false=>
  rw [if_neg (by decide)] at wk ⊢;exact ⟨J1,env,sr.ext e1,aB wk λo q=>q.mono e1.j⟩⟩
theorem aZ (i:Nat){x:Str}{pos':Pos}(hN:X.N.Nodup) (h:QD X c e g) (hi:autoParam (X.N[i]?=some x) zA._auto_1) (hx:Loc X.env.scope x:=by first | exact UZ rfl | exact TX rfl) (hs:autoParam (Sq e (some (.Name x pos')) pos.line X.env=pure false) zA._auto_1)
  (hf:X.fn x=true\/X.env.scope.names.lookup x=some .local:=by first | exact .inl rfl | exact .inr rfl):jD X c (.Assign [.Name x pos'] e pos) (aG i g):=have h:=h.h;⟨gK (sV hN hi hx h hs hf) λE σ H ⟨J,env,sr,w⟩=>by
 refine ⟨J,env,sr,aB (aH w) λr wr v J1 H1 e1 r1=>?_⟩;obtain ⟨x,q,wr⟩:=uP wr;exact wr (σ.set i (some v)) J1 H1 e1.j (sr.set e1 r1 q)⟩
theorem aI (i:Nat){x:Str}(hN:X.N.Nodup) (hi:autoParam (X.N[i]?=some x) zA._auto_1) (hx:Loc X.env.scope x:=by first | exact UZ rfl | exact TX rfl) (hf:X.fn x=true\/X.env.scope.names.lookup x=some .local:=by first | exact .inl rfl | exact .inr rfl):uS X c (.Name x pos) (aF i):=⟨
 Fi (GV hN hi hx hf) λv σ H Q ⟨J,env,d,sr,rd,w⟩=>w _ (sr.setD (x:=.d d) rd λx z=>by cases x <;> cases z) λj xs q=>by
  rcases cR q with ⟨_,_,e⟩ | ⟨hj,q⟩
  ·cases xs <;> cases e
  ·exact ⟨q,PN (QC hj)⟩⟩
theorem cP:wR X c [] cK:=⟨Cm GW λvs σ H Q ⟨J,env,ds,sr,rd,w⟩=>by
 cases rd with
 | nil=>exact ⟨rfl,w σ sr KO.refl⟩
 | cons _ _=>exact w.elim⟩
theorem a_ {t:GT}{u:nY}(h:uS X c e t) (h':wR X c es u) (hs:autoParam ((Rm (e::es) X.env).map (·.2)=assign e X.env::(Rm es X.env).map (·.2)) zA._auto_1):wR X c (e::es) (bq t u):=have h:=h.h;have h':=h'.h;⟨
 Cm (D8 h h' hs) λvs σ H Q ⟨J,env,ds,sr,rd,w⟩=>by
  cases rd with
  | nil=>exact w.elim
  | cons r rs=>
   refine ⟨_,_,rfl,J,env,_,sr,r,aB (aH w) λe1 w1 σ' sr' ko=>?_⟩;exact ⟨J,e1,_,sr',rs,aB w1 λe2 q σ2 sr2 ko2=>q σ2 sr2 (ko.trans ko2)⟩⟩
theorem dB {k:Nat}{u:nY}{n:Nat}(h:wR X c es u) (hc:autoParam (X.calm=true) zA._auto_1) (hK:autoParam (X.K=c.K) zA._auto_1) (hn:autoParam ((Rm es X.env).length=n) zA._auto_1) (hst:autoParam ((Rm es X.env).findIdx? (·.1)=none) zA._auto_1):uS X c (.Tuple es k pos) (cS n u):=have h:=h.h;⟨
 Fi (JL hc h hn hst) λv σ H Q ⟨J,env,d,sr,rd,w⟩=>by
  cases rd with
  | tup h1 h2=>
   unfold cS at w;simp only at w;split at w
   ·rename_i hl;exact ⟨_,_,rfl,by rw [hK];exact cV sr.hp.sub h1,by rw [<-h2.length];exact hl,J,env,_,sr,h2,w⟩
   ·exact w.elim
  | _=>exact w.elim⟩
theorem eX {Pa:Qq}{body:List RV}{gi:G (List D)}{t:GT}(hi:wQ X c tg Pa gi) (ht:uS X c tg t) (hb:lU X c body u) (hp:Yc (Qj X.prog X.w) X.A X.env X.xe:=by first | exact Xa | exact Wo) (hc:autoParam (X.calm=true) zA._auto_1)
  (hs:∀x,Sz Pa X.env x=pure x:=by intro _;rfl):jD X c (.For tg Pa body [] pos) (gI gi t u):=have hi:=hi.h;have ht:=ht.h;have hb:=hb.h;⟨gK (Cu hp hc hi ht hb hs) λE σ H ⟨J,env,sr,w⟩=>by
 refine ⟨J,env,sr,aB (aH w) λds wd It J1 H1 e1 wk=>?_⟩;refine ⟨λi m σ H=>m=ds.length - i/\∃J' env,aV J1 J'/\SR c J' H σ env/\cg (eu t u (ds.drop i) env) (oP c J' E) c.T,
  ⟨ds.length,by simp,J1,env,aV.refl J1,sr.ext e1,by rw [R8];exact aB wd λo q=>q.mono e1.j⟩,?_⟩
 rintro i m σ H ⟨rfl,J',env,s',sr',w'⟩;obtain ⟨w1,w2⟩:=wk i J' H sr'.hp s';by_cases hlt:i < ds.length
 ·obtain ⟨g1,y1⟩:=w2 ds[i] (by simp [hlt]);rw [Ry hlt] at w';refine .inr ⟨g1,λσ2 H2=>∃J2 env2,aV J' J2/\SR c J2 H2 σ2 env2/\cg (eu t u (ds.drop (i + 1)) env2) (oP c J2 E) c.T,?_,?_⟩
  ·rintro σ2 H2 ⟨J2,env2,s2,sr2,w2⟩;exact ⟨ds.length - (i + 1),by omega,rfl,J2,env2,s'.trans s2,sr2,w2⟩
  ·intro x H2 hy;obtain ⟨J2,e2,rx⟩:=y1 x H2 hy;refine ⟨J2,env,ds[i],sr'.ext e2,rx,aB (aH w') λenv3 w3 σ3 sr3 _=>?_⟩;refine ⟨J2,env3,sr3,aB (aH w3) λo wo=>?_⟩;cases o with
   | nx env4=>exact λσ4 J4 H4 s4 sr4=>⟨J4,env4,e2.j.trans s4,sr4,aB wo λo q=>q.mono (e2.j.trans s4)⟩
   | ct env4=>exact λσ4 J4 H4 s4 sr4=>⟨J4,env4,e2.j.trans s4,sr4,aB wo λo q=>q.mono (e2.j.trans s4)⟩
   | bk env4=>exact λσ4 J4 H4 s4 sr4=>wo σ4 J4 H4 (e2.j.trans s4) sr4
   | rt r=>exact λv J4 H4 s4 h4 r4=>wo v J4 H4 (e2.j.trans s4) h4 r4
 ·rw [Tp (by omega)] at w';exact .inl ⟨w1 (by omega),w' σ J' H (aV.refl J') sr'⟩⟩
theorem jA (h:QD X c e g) (hK:autoParam (X.K=c.K) zA._auto_1):wQ X c tg e (iM g):=have h:=h.h;⟨lq (JN h) λσ H Q ⟨J,env,sr,w⟩=>by
 refine ⟨J,env,sr,aB (aH w) λr wr v J1 H1 e1 r1=>?_⟩;split at wr
 ·cases r1 with
  | tup h1 h2=>
   refine ⟨_,rfl,⟨_,by rw [hK];exact cV e1.sub h1⟩,?_⟩;rw [hK];refine wr _ J1 H1 e1 (λi J' H' hp u=>?_);have h':=cV hp.sub (cV u h1);refine ⟨λhl=>⟨_,h',by rw [<-h2.length];exact hl⟩,λd hd=>?_⟩;obtain ⟨v,k1,k2⟩:=h2.get hd;refine ⟨⟨_,v,h',k1⟩,λx H2 ⟨e,hy⟩=>?_⟩;subst e;have:=hy _ h';rw [k1] at this;cases this;exact ⟨J',Ext.refl hp.sub,k2.mono u⟩
 ·exact wr.elim⟩
theorem cZ {p:Pos}{gs:G (List R)}(ha:jj X c [a] gs) (hm:X.mg "range"=none) (hg:autoParam (Gl X "range") zA._auto_1) (hs:autoParam (Po [a] X.env=[(false,eval a X.env)]) zA._auto_1):wQ X c tg (.Call (.Name "range" p) [a] [] pos) (dJ gs):=have ha:=ha.h;⟨
 lq (Co hg hm ha hs) λσ H Q ⟨J,env,sr,w⟩=>by
  refine ⟨J,env,sr,aB (aH w) λrs wr vs J1 H1 e1 r1=>?_⟩;split at wr
  ·split at wr
   ·rename_i h;obtain ⟨v,rfl,r⟩:=r1.one;cases r;have h:=cO.mp h;exact ⟨_,rfl,WB h.1,h.2,wr _ J1 H1 e1 tZ⟩
   ·exact wr.elim
  ·exact wr.elim⟩
theorem zg {p:Pos}{gs:G (List R)}(ha:jj X c [a,b] gs) (hm:X.mg "range"=none) (hg:autoParam (Gl X "range") zA._auto_1) (hs:autoParam (Po [a,b] X.env=[(false,eval a X.env),(false,eval b X.env)]) zA._auto_1) (hs2:autoParam (Po [b] X.env=[(false,eval b X.env)]) zA._auto_1):wQ X c tg (.Call (.Name "range" p) [a,b] [] pos) (wg gs):=have ha:=ha.h;⟨
 lq (Cp hg hm ha hs hs2) λσ H Q ⟨J,env,sr,w⟩=>by
  refine ⟨J,env,sr,aB (aH w) λrs wr vs J1 H1 e1 r1=>?_⟩;split at wr
  ·split at wr
   ·rename_i h;obtain ⟨v,v2,rfl,r,r2⟩:=r1.two;cases r;cases r2;rw [Pr] at h;have h1:=cO.mp h.1;have h2:=cO.mp h.2;exact ⟨_,_,rfl,⟨WB h1.1,h1.2,WB h2.1,h2.2⟩,wr _ J1 H1 e1 tZ⟩
   ·exact wr.elim
  ·exact wr.elim⟩
theorem dS {gi:G (List D)}(h:wQ X c tg e gi):Bp X c tg e gi:=have h:=h.h;⟨lq h λσ H Q ⟨J,env,sr,w⟩=>
 ⟨J,env,sr,aB w λds q It J1 H1 e1 wk=>q It J1 H1 e1 λi J' H' hp u=>wk i J' H' hp u.1⟩⟩
end
section
variable {X:Cx}{c:C}{e a b tg:Qq}{es:List Qq}{ga gb g:G R}{pos:Pos}
theorem eB (i:Nat){x:Str}{p1 p2 pos':Pos}(h:QD X c e g) (hN:autoParam (X.N[i]?=some x) zA._auto_1) (hv:zE X.env.scope x:=by first | exact UZ rfl | exact TX (UZ rfl) | exact TX (TX rfl)) (hd:autoParam ((x == ("__debug__":Str))=false) zB._auto_1)
  (hcd:autoParam ((x == ("__classdict__":Str))=false) zB._auto_1)
  (hbase:autoParam (R1 (.Name x p1) "append" X.env (eval (.Name x p1) X.env)=eval (.Name x p1) X.env) zA._auto_1)
  (hfew:autoParam (((Ra pos' (Po [e] X.env)).all (λx=>!x.1) && (XZ pos' (VB [] X.env)).all (λx=>x.1.isSome)
   && decide (([e]:List Qq).length + ([]:List VC).length + (if ([]:List VC).isEmpty then 0 else 1) < 30))=true) zA._auto_1)
  (hline:autoParam ((p2.endLine == pos'.line)=true) zA._auto_1) (hst:autoParam (Po [e] X.env=(false,eval e X.env)::Po [] X.env) zA._auto_1) (hplain:autoParam ((Ra pos' (Po [] X.env)).any (·.1)=false) zA._auto_1)
  (hs:autoParam (Sq (.Call (.Attribute (.Name x p1) "append" p2) [e] [] pos') none pos.line X.env=pure false) zA._auto_1):jD X c (.Expr (.Call (.Attribute (.Name x p1) "append" p2) [e] [] pos') pos) (dW i g):=have h:=h.h;⟨
 gK (uI (A2 Si UM UN o_ (pA hN hv hd hcd) (fz h gT hst) hbase hfew hline hst hplain) hs) λE σ H ⟨J,env,sr,w⟩=>by
  unfold dW at w;split at w
  ·rename_i xs hi;obtain ⟨v,h1,a,vs,rfl,h2,h3,h4,h5⟩:=sr.at_ i _ hi;refine ⟨.ref a,h1,.inl ⟨rfl,vs,cX.of h2⟩,?_⟩;refine ⟨J,env,sr,aB (aH w) λr wr y J1 H1 e1 r1=>?_⟩;obtain ⟨d,q,wr⟩:=kq wr;obtain ⟨J2,e2,s2,rd⟩:=freeze e1 r1 q;split at wr
   ·rename_i hz;refine ⟨a,vs,y,rfl,rfl,e2.h _ _ h2,by rw [<-h5.length];exact hz,?_⟩;refine wr σ J2 _ e2.j ?_;exact (sr.ext e2).upd hi h1 (e2.h _ _ h2) (e2.frz a (by rw [h2];intro z;cases z) h3) h4 ((h5.mono e2.j).append (.cons rd .nil))
   ·exact wr.elim
  ·exact w.elim⟩
end
section
variable {X:Cx}{c:C}
theorem bR:Au X c [] dc:=⟨λO6 s σ H Q I ⟨J,env,sr,w⟩=>wpAny_tests_nil ⟨H,I,w J H (Ext.refl sr.hp.sub)⟩⟩
theorem pG {g:G Bool}(h:QB X c x g):Au X c [x] g:=have h:=h.h;⟨λO6 s σ H Q I q=>wpAny_tests_one (h O6 s σ H Q I q)⟩
end
section
variable {K:Pe}{J:Hp}{s:Pk}
variable {X:Cx}{c:C}{e a b tg:Qq}{es:List Qq}{ga gb g:G R}{pos:Pos}
theorem mF (hu:X.A.units + 64 < T3) (ha:QD X c a ga) (hb:QD X c b gb) (hK:autoParam (X.K=c.K) zA._auto_1):QD X c (.Compare a [.Eq] [b] pos) (g2 (cJ false) ga gb):=have ha:=ha.h;have hb:=hb.h;⟨pq (Cc hu) (AA false hK) ha hb⟩
theorem fZ (hu:X.A.units + 64 < T3) (ha:QD X c a ga) (hb:QD X c b gb) (hK:autoParam (X.K=c.K) zA._auto_1):QB X c (.Compare a [.Eq] [b] pos) (aK (g2 (cJ false) ga gb)):=have ha:=ha.h;have hb:=hb.h;⟨jI (Cc hu) (AA false hK) ha hb⟩
theorem mE (hu:X.A.units + 64 < T3) (ha:QD X c a ga) (hb:QD X c b gb) (hK:autoParam (X.K=c.K) zA._auto_1):QB X c (.Compare a [.NotEq] [b] pos) (aK (g2 (cJ true) ga gb)):=have ha:=ha.h;have hb:=hb.h;⟨jI (JB hu) (AA true hK) ha hb⟩
theorem CA (hu:X.A.units + 64 < T3) (ha:QD X c a ga) (hb:QD X c b gb) (hK:autoParam (X.K=c.K) zA._auto_1) (hm:autoParam (QS .NotIn b=false) zA._auto_1):QD X c (.Compare a [.NotIn] [b] pos) (g2 (gQ true) ga gb):=have ha:=ha.h;have hb:=hb.h;⟨pq (vf hu) (AB true hK) ha hb hm⟩
theorem s_ (hu:X.A.units + 64 < T3) (ha:QD X c a ga) (hb:QD X c b gb) (hK:autoParam (X.K=c.K) zA._auto_1) (hm:autoParam (QS .In b=false) zA._auto_1):QB X c (.Compare a [.In] [b] pos) (aK (g2 (gQ false) ga gb)):=have ha:=ha.h;have hb:=hb.h;⟨jI (Jx hu) (AB false hK) ha hb hm⟩
theorem pF (hu:X.A.units + 64 < T3) (ha:QD X c a ga) (hb:QD X c b gb) (hK:autoParam (X.K=c.K) zA._auto_1) (hm:autoParam (QS .NotIn b=false) zA._auto_1):QB X c (.Compare a [.NotIn] [b] pos) (aK (g2 (gQ true) ga gb)):=have ha:=ha.h;have hb:=hb.h;⟨jI (vf hu) (AB true hK) ha hb hm⟩
end
section
variable {X:Cx}{c:C}{e a b tg:Qq}{es:List Qq}{ga gb g:G R}{pos:Pos}
theorem bV:zD X c none dZ:=⟨Fj GZ λσ H Q ⟨J,env,sr,w⟩=>w J H (Ext.refl sr.hp.sub)⟩
theorem bS (h:QD X c e g):zD X c (some e) (dM g):=have h:=h.h;⟨Fj (G0 h) λσ H Q ⟨J,env,sr,w⟩=>by
 refine ⟨J,env,sr,aB (aH w) λr wr v J1 H1 e1 r1=>?_⟩;split at wr
 ·cases r1;exact ⟨_,rfl,wr J1 H1 e1⟩
 ·exact wr.elim⟩
theorem tu {p:Pos}{gs:G (List R)}(ha:jj X c (e::es) gs) (hm:X.mg "sorted"=none) (hK:autoParam (X.K=c.K) zA._auto_1) (hg:autoParam (Gl X "sorted") zA._auto_1)
  (he:autoParam (Po (e::es) X.env=(false,eval e X.env)::Po es X.env) zA._auto_1) (hpl:autoParam ((Ra pos (Po es X.env)).any (·.1)=false) zA._auto_1):QD X c (.Call (.Name "sorted" p) (e::es) [] pos) (gN j_ gs):=have ha:=ha.h;⟨
 kQ xy (by
  intro He J H xs vs Q hp rs w;unfold j_ at w;split at w
  ·obtain ⟨v,rfl,r⟩:=rs.one;obtain ⟨xs,q,w⟩:=kh w;obtain ⟨p,vs,rfl,h1,h2⟩:=RR.list hp r q;split at w
   ·rename_i ss z;split at w
    ·rename_i hl;have:=tQ z h2;subst this;refine ⟨p,ss,rfl,by rw [hK];exact h1,hl,λss' hp' hs' l hl'=>?_⟩;rw [A7 hp' hs'];exact w _ _ _ (Ext.new hp.sub hl' _) (kU hp hl' (vj _))
    ·exact w.elim
   ·exact w.elim
  ·exact w.elim) w5 hm ha hg (by decide) (by decide) he hpl⟩
theorem ef (ha:QD X c a ga) (hb:QD X c b gb):QD X c (.BinOp a .Add b pos) (g2 cB ga gb):=by
 have ha:=ha.h;have hb:=hb.h;refine ⟨?_⟩;have h1:BD c (oj λi j=>.int (i + j)) DB:=iD λ_ _ _=>.int _;have q:=nC (pos:=pos) (B8.or (sQ.or B9)) (BD.or (c:=c) (λx _=>zS x) h1 (BD.or (c:=c) (λx _=>E2 x) (f:=rX) (f':=pY) (by
  intro He He' J H x y u v Q hp rx ry w;unfold rX at w;split at w
  ·cases rx;cases ry;split at w
   ·rename_i h;exact ⟨_,_,rfl,rfl,h,w _ J H (Ext.refl hp.sub) (.str _)⟩
   ·exact w.elim
  ·exact w.elim) (by
  intro He He' J H x y u v Q hp rx ry w;unfold pY at w;split at w
  ·rename_i hm;rw [Pr] at hm;obtain ⟨p,vs,xs,e1,rfl,h1,s1⟩:=rx.made hm.1;obtain ⟨p2,vs2,ys,e2,rfl,h2,s2⟩:=ry.made hm.2;rw [e1,e2] at w;simp only [aY] at w;split at w
   ·rename_i hz;rw [s1.length,s2.length] at hz;exact ⟨p,p2,vs,vs2,rfl,rfl,h1,h2,hz,λq hq=>w _ J _ (Ext.new hp.sub hq _) (kU hp hq (s1.append s2))⟩
   ·exact w.elim
  ·exact w.elim))) ha hb
 exact q
theorem fq (ha:QD X c a ga) (hb:QD X c b gb):QD X c (.BinOp a .Mult b pos) (g2 c8 ga gb):=by
 have ha:=ha.h;have hb:=hb.h;refine ⟨?_⟩;have h1:BD c (rI Ak λi j=>.int (i * j)) IM:=Az (λi j h=>Gx h) λ_ _ _=>.int _;exact nC (pos:=pos) (JA.or GI) (BD.or (c:=c) (λx _=>zS x) h1 (f':=AK) (by
  intro He He' J H x y u v Q hp rx ry w;unfold AK at w;split at w
  ·cases rx;cases ry;split at w
   ·rename_i h;exact ⟨_,_,rfl,rfl,h.1,h.2.1,h.2.2,w _ J H (Ext.refl hp.sub) (.str _)⟩
   ·exact w.elim
  ·exact w.elim)) ha hb
theorem bE (ha:QD X c a ga) (hb:QD X c b gb) (hK:autoParam (X.K=c.K) zA._auto_1) (hs:pR b:=by exact λ_ _=>rfl):QD X c (.Subscript a b pos) (g2 bP ga gb):=have ha:=ha.h;have hb:=hb.h;⟨Lc Jb (by
 intro He He' J H x y u v Q hp rx ry w;rw [hK];unfold bP at w;split at w
 ·cases rx;cases ry;split at w
  ·rename_i h;split at w
   ·rename_i k hk;exact .inr (.inr ⟨_,_,k,rfl,rfl,h,hk,w _ J H (Ext.refl hp.sub) (.str _)⟩)
   ·exact w.elim
  ·exact w.elim
 ·cases ry;obtain ⟨xs,q,w⟩:=mL w;obtain ⟨p,vs,rfl,hl,hs⟩:=pT hp rx q;split at w
  ·rename_i d hd;obtain ⟨z,h1,h2⟩:=Hq hs hd;have fin:=w z J H (Ext.refl hp.sub) h2;rcases hl with hl | hl
   ·exact .inl ⟨p,vs,_,z,rfl,rfl,hl,h1,fin⟩
   ·exact .inr (.inl ⟨p,vs,_,z,rfl,rfl,hl,h1,fin⟩)
  ·exact w.elim
 ·exact w.elim) ha hb hs⟩
theorem bB {F:List S->M R}{gs:G (List R)}(G:bQ X.prog X.w X.K X.mg X.base k n x F) (hr:cH k' X.A) (ha:jj X c (e::es) gs) (hk:autoParam (k<=k') zB._auto_1) (hT:autoParam (c.K=X.K) zA._auto_1) (hg:autoParam (Gl X x) zA._auto_1) (hdb:autoParam ((x == ("__debug__":Str))=false) zB._auto_1)
 (he:autoParam (Po (e::es) X.env=(false,eval e X.env)::Po es X.env) zA._auto_1) (hpl:autoParam ((Ra pos (Po es X.env)).any (·.1)=false) zA._auto_1):QD X c (.Call (.Name x p) (e::es) [] pos) (gN (au n F) gs):=by have ha:=ha.h;refine ⟨?_⟩;obtain ⟨f,fd,ps,h1,h2,h3,h4⟩:=G;exact GQ h1 (hr.mono hk) h2 h3 h4 ha hT hg hdb he hpl
theorem jy (h:QD X c e g) (ht:uS X c tg t) (hs:autoParam (UP [tg] e pos.line X.env=pure false) zA._auto_1) (hw:autoParam (VL [tg] e X.env=pure none) zA._auto_1)
 (h1:autoParam ((Rm [tg] X.env).map (·.2)=[assign tg X.env]) zA._auto_1):jD X c (.Assign [tg] e pos) (iL t g):=have h:=h.h;have ht:=ht.h;⟨GN h ht (Ct h ht hs hw h1)⟩
theorem bU {T:String}{Ts:Str}{p p2:Pos}(kit:zz T) (hT:QO Ts=some (.type T)) (mT:X.mg Ts=none)
  (h:QD X c a g) (hm:X.mg "isinstance"=none) (hK:autoParam (X.K=c.K) zA._auto_1) (hg:autoParam (Gl X "isinstance") zA._auto_1) (NW:autoParam (Gl X Ts) zA._auto_1) (hn:autoParam (Ts≠"__name__") zB._auto_1) (gr:autoParam ((Ts == ("__debug__":Str))=false) zB._auto_1)
  (he:autoParam (Po [a,.Name Ts p2] X.env=(false,eval a X.env)::Po [.Name Ts p2] X.env) zA._auto_1) (NV:autoParam (Po [.Name Ts p2] X.env=(false,eval (.Name Ts p2) X.env)::Po [] X.env) zA._auto_1)
  (hpl:autoParam ((Ra pos (Po [.Name Ts p2] X.env)).any (·.1)=false) zA._auto_1):QD X c (.Call (.Name "isinstance" p) [a,.Name Ts p2] [] pos) (br T g):=have h:=h.h;⟨
 fc (nD (zf kit) hg hm (by decide +kernel) (fz h (fz (Aa NW mT hT (v:=.ty T) rfl hn gr) gT NV) he) (by decide) (by decide) he hpl) λσ H Q ⟨J,env,sr,w⟩=>by
  refine ⟨J,env,sr,aB (aH w) λr wr v J1 H1 e1 r1=>?_⟩;exact ⟨r.dat,v,rfl,by rw [hK];exact r1.dat (sr.hp.ext e1),wr _ J1 H1 e1 (.bl _)⟩⟩
theorem gF {p:Pos}{gs:G (List R)}(ha:jj X c (e::es) gs) (hm:X.mg "all"=none) (hK:autoParam (X.K=c.K) zA._auto_1) (hc:autoParam (X.calm=true) zA._auto_1) (hg:autoParam (Gl X "all") zA._auto_1)
  (he:autoParam (Po (e::es) X.env=(false,eval e X.env)::Po es X.env) zA._auto_1) (hpl:autoParam ((Ra pos (Po es X.env)).any (·.1)=false) zA._auto_1):QD X c (.Call (.Name "all" p) (e::es) [] pos) (gN eV gs):=have ha:=ha.h;⟨
 kQ (Bw hc) (by
  intro He J H xs vs Q hp rs w;unfold eV at w;split at w
  ·obtain ⟨v,rfl,r⟩:=rs.one;obtain ⟨xs,q,w⟩:=kh w;obtain ⟨p,vs,rfl,h1,h2⟩:=RR.list hp r q;split at w
   ·rename_i ks z;have:=uY z h2;subst this;exact ⟨p,ks,rfl,by rw [hK];exact h1,w _ J H (Ext.refl hp.sub) (.bl _)⟩
   ·exact w.elim
  ·exact w.elim) Bt hm ha hg (by decide) (by decide) he hpl⟩
theorem Ae (ha:QD X c a ga) (hb:QD X c b gb) (hm:autoParam (QS .In b=false) zA._auto_1):QD X c (.Compare a [.In] [b] pos) (g2 (ju false) ga gb):=have ha:=ha.h;have hb:=hb.h;⟨pq ve (by
 intro He He' J H x y u v Q hp rx ry w;unfold ju at w;split at w
 ·cases rx;cases ry;exact ⟨_,_,rfl,rfl,w _ J H (Ext.refl hp.sub) (.bl _)⟩
 ·exact w.elim) ha hb hm⟩
theorem JU {op op':CmpOp}{p q:Int->Int->Bool}{x:Qq}{gc:G R}(ho:dD X (Q8 op) (oj λi j=>.bl (p i j))) (ho':dD X (Q8 op') (oj λi j=>.bl (q i j))) (ha:QD X c a ga) (hb:QD X c b gb) (hc:QD X c x gc)
  (hm:lastMarks [op,op'] [b,x]=false:=by with_unfolding_all rfl):QD X c (.Compare a [op,op'] [b,x] pos) (IS p q ga gb gc):=have ha:=ha.h;have hb:=hb.h;have hc:=hc.h;⟨fc (D5 ho ho' ha hb hc hm) λσ H Q ⟨J,env,sr,w⟩=>by
 refine ⟨J,env,sr,aB (aH w) λr1 w1 v1 J1 H1 e1 q1=>?_⟩;refine ⟨J1,env,sr.ext e1,aB (aH w1) λr2 w2 v2 J2 H2 e2 q2=>?_⟩;split at w2
 ·rename_i i j;cases q1;cases q2;refine ⟨i,j,rfl,rfl,p i j,rfl,?_⟩;cases hp:p i j with
  | true=>
   rw [hp] at w2;refine Ja ⟨J2,env,(sr.ext e1).ext e2,aB (aH w2) λr3 w3 v3 J3 H3 e3 q3=>?_⟩;split at w3
   ·cases q3;exact ⟨j,_,rfl,rfl,w3 _ J3 H3 ((e1.trans e2).trans e3) (.bl _)⟩
   ·exact w3.elim
  | false=>
   rw [hp] at w2;exact I_ (w2 _ J2 H2 (e1.trans e2) (.bl _))
 ·exact w2.elim⟩
theorem G9 {p:Pos}{gs:G (List R)}(ha:jj X c (e::es) gs) (hm:X.mg "max"=none) (hc:autoParam (X.calm=true) zA._auto_1) (hg:autoParam (Gl X "max") zA._auto_1)
  (he:autoParam (Po (e::es) X.env=(false,eval e X.env)::Po es X.env) zA._auto_1) (hpl:autoParam ((Ra pos (Po es X.env)).any (·.1)=false) zA._auto_1):QD X c (.Call (.Name "max" p) (e::es) [] pos) (gN DC gs):=have ha:=ha.h;⟨
 kQ (BA hc) (by
  intro He J H xs vs Q hp rs w;unfold DC at w;split at w
  ·obtain ⟨v,v',rfl,r,r'⟩:=rs.two;cases r;cases r';exact ⟨_,_,rfl,w _ J H (Ext.refl hp.sub) (.int _)⟩
  ·exact w.elim) (by decide +kernel) hm ha hg (by decide) (by decide) he hpl⟩
theorem G_ {p:Pos}{gs:G (List R)}(ha:jj X c (e::es) gs) (hm:X.mg "min"=none) (hc:autoParam (X.calm=true) zA._auto_1) (hg:autoParam (Gl X "min") zA._auto_1)
  (he:autoParam (Po (e::es) X.env=(false,eval e X.env)::Po es X.env) zA._auto_1) (hpl:autoParam ((Ra pos (Po es X.env)).any (·.1)=false) zA._auto_1):QD X c (.Call (.Name "min" p) (e::es) [] pos) (gN DE gs):=have ha:=ha.h;⟨
 kQ (BB hc) (by
  intro He J H xs vs Q hp rs w;unfold DE at w;split at w
  ·obtain ⟨v,v',rfl,r,r'⟩:=rs.two;cases r;cases r';exact ⟨_,_,rfl,w _ J H (Ext.refl hp.sub) (.int _)⟩
  ·exact w.elim) (by decide +kernel) hm ha hg (by decide) (by decide) he hpl⟩
theorem bH (ha:QD X c a ga) (hb:QD X c b gb) (hK:autoParam (X.K=c.K) zA._auto_1):QD X c (.BinOp a .Add b pos) (g2 bO ga gb):=by
 have ha:=ha.h;have hb:=hb.h;refine ⟨?_⟩;have h1:BD c (oj λi j=>.int (i + j)) DB:=iD λ_ _ _=>.int _;exact nC (pos:=pos) (B_.or (B8.or (sQ.or B9))) (BD.or (c:=c) (λx _=>IZ x) (F_ hK) (BD.or (c:=c) (λx _=>zS x) h1 (BD.or (c:=c) (λx _=>E2 x) (f:=rX) (f':=pY) (by
  intro He He' J H x y u v Q hp rx ry w;unfold rX at w;split at w
  ·cases rx;cases ry;split at w
   ·rename_i h;exact ⟨_,_,rfl,rfl,h,w _ J H (Ext.refl hp.sub) (.str _)⟩
   ·exact w.elim
  ·exact w.elim) (by
  intro He He' J H x y u v Q hp rx ry w;unfold pY at w;split at w
  ·rename_i hm;rw [Pr] at hm;obtain ⟨p,vs,xs,e1,rfl,h1,s1⟩:=rx.made hm.1;obtain ⟨p2,vs2,ys,e2,rfl,h2,s2⟩:=ry.made hm.2;rw [e1,e2] at w;simp only [aY] at w;split at w
   ·rename_i hz;rw [s1.length,s2.length] at hz;exact ⟨p,p2,vs,vs2,rfl,rfl,h1,h2,hz,λq hq=>w _ J _ (Ext.new hp.sub hq _) (kU hp hq (s1.append s2))⟩
   ·exact w.elim
  ·exact w.elim)))) ha hb
theorem Af (hu:X.A.units + 64 < T3) (ha:QD X c a ga) (hb:QD X c b gb) (hK:autoParam (X.K=c.K) zA._auto_1):QD X c (.Compare a [.Lt] [b] pos) (g2 q9 ga gb):=have ha:=ha.h;have hb:=hb.h;⟨pq (qf.or (Cf.or (Jy (by omega)))) (by
 intro He He' J H x y u v Q hp rx ry w;unfold q9 at w;split at w
 ·cases rx;cases ry;exact .inl ⟨_,_,rfl,rfl,w _ J H (Ext.refl hp.sub) (.bl _)⟩
 ·cases rx;cases ry;exact .inr (.inl ⟨_,_,rfl,rfl,w _ J H (Ext.refl hp.sub) (.bl _)⟩)
 ·cases rx with
  | tup h1 s1=>
   cases ry with
   | tup h2 s2=>
    split at w
    ·rename_i ns ms z1 z2;have e1:=ng z1 s1;have e2:=ng z2 s2;subst e1 e2;exact .inr (.inr ⟨_,_,ns,ms,rfl,rfl,by rw [hK];exact cV hp.sub h1,by rw [hK];exact cV hp.sub h2,w _ J H (Ext.refl hp.sub) (.bl _)⟩)
    ·exact w.elim
 ·exact w.elim) ha hb⟩
theorem yD (h:QD X c e g):wQ X c tg e (uA g):=have h:=h.h;⟨lq (JM h) λσ H Q ⟨J,env,sr,w⟩=>by
 refine ⟨J,env,sr,aB (aH w) λr wr v J1 H1 e1 r1=>?_⟩;split at wr
 ·cases r1;exact ⟨_,rfl,wr _ J1 H1 e1 EB⟩
 ·exact wr.elim⟩
theorem gH {lo hi:Option Qq}{gl gh:GO}{p2:Pos}(h:QD X c e g) (hl:zD X c lo gl) (hh:zD X c hi gh) (hK:autoParam (X.K=c.K) zA._auto_1):QD X c (.Subscript e (.Slice lo hi none p2) pos) (dw eZ g gl gh):=have h:=h.h;have hl:=hl.h;have hh:=hh.h;⟨Fe (CL.or Hw) (by
 intro He J H x v l u Q hp rx w;unfold eZ at w;split at w
 ·exact .inl (Mx hK He J H x v l u Q hp rx w)
 ·obtain ⟨xs,q,w⟩:=kh w;obtain ⟨p,vs,rfl,h1,h2⟩:=rx.list hp q;exact .inr ⟨p,vs,rfl,by rw [hK];exact h1,λp' hp'=>w _ _ _ (Ext.new hp.sub hp' _) (kU hp hp' (h2.cut l u))⟩) h hl hh⟩
end
section
variable {X:Cx}{c:C}{e a b:Qq}{es:List Qq}{ga gb g:G R}{pos:Pos}{elts:List Qq}{kk:Nat}{tp:Pos}
theorem Eg {p:Pos}{gs:G (List R)}(ha:jj X c [a,b] gs) (hm:X.mg "zip"=none) (hK:autoParam (X.K=c.K) zA._auto_1) (hg:autoParam (Gl X "zip") zA._auto_1) (hs:autoParam (Po [a,b] X.env=[(false,eval a X.env),(false,eval b X.env)]) zA._auto_1) (hs2:autoParam (Po [b] X.env=[(false,eval b X.env)]) zA._auto_1):Bp X c (.Tuple elts kk tp) (.Call (.Name "zip" p) [a,b] [] pos) (AM gs):=have ha:=ha.h;⟨
 lq (JO hg hm ha hs hs2) λσ H Q ⟨J,env,sr,w⟩=>by
  refine ⟨J,env,sr,aB (aH w) λrs wr vs J1 H1 e1 r1=>?_⟩;split at wr
  ·obtain ⟨v,v2,rfl,r,r2⟩:=r1.two;obtain ⟨xs,q1,wr⟩:=Aj wr;obtain ⟨ys,q2,wr⟩:=Aj wr;have hp1:=sr.hp.ext e1;obtain ⟨k1,l1,us1,rfl,a1,s1⟩:=CQ hp1 r q1;obtain ⟨k2,l2,us2,rfl,a2,s2⟩:=CQ hp1 r2 q2;refine ⟨k1,l1,us1,k2,l2,us2,rfl,by rw [hK];exact s1,by rw [hK];exact s2,?_⟩;rw [hK];refine wr _ J1 H1 e1 λi J' H' hp u=>?_;have t1:=s1.same u.2;have t2:=s2.same u.2;refine ⟨λhl=>⟨us1,us2,t1,t2,?_⟩,λd hd=>?_⟩
   ·rw [Ud,a1.length,a2.length] at hl;omega
   ·obtain ⟨x,y,ux,uy,rfl,b1,b2,c1,c2⟩:=En a1 a2 hd;refine ⟨⟨us1,us2,ux,uy,t1,t2,b1,b2⟩,λz H2 ⟨q,hq,e,hy⟩=>?_⟩;have:=hy us1 us2 ux uy t1 t2 b1 b2;subst this e;have s':aV J' (upd J' q (.tup [ux,uy])):=cj (hp.sub.free hq) _;exact ⟨_,Ext.newJ hp.sub hq _,.tup (.inl (.inl bI)) (.cons ((c1.mono u.1).mono s') (.cons ((c2.mono u.1).mono s') .nil))⟩
  ·exact wr.elim⟩
end
section
variable {X:Cx}{c:C}{e a b tg:Qq}{es:List Qq}{ga gb g:G R}{pos:Pos}
theorem jJ (h:pP X.K X.mg x d) (hK:autoParam (X.K=c.K) zA._auto_1) (hg:autoParam (Gl X x) zA._auto_1) (hd:autoParam ((x == ("__debug__":Str))=false) zB._auto_1):QD X c (.Name x pos) (gC d):=by refine ⟨?_⟩;obtain ⟨u,v,h1,h2,h3⟩:=h;exact GR h1 h2 (λJ=>hK▸h3 J) hg hd
end
section
variable {X:Cx}{c:C}{e a b tg:Qq}{es:List Qq}{ga gb g:G R}{pos:Pos}{st:RV}{t u:G O}{tb:G Bool}
theorem Ag (h:QD X c a g):QD X c (.UnaryOp .USub a pos) (q_ g):=have h:=h.h;⟨fc (Fg CY h) λσ H Q ⟨J,env,sr,w⟩=>by
 refine ⟨J,env,sr,aB (aH w) λr wr v J1 H1 e1 r1=>?_⟩;split at wr
 ·cases r1;exact ⟨_,rfl,wr _ J1 H1 e1 (.int _)⟩
 ·exact wr.elim⟩
theorem G6 (h:QD X c e g) (hK:autoParam (X.K=c.K) zA._auto_1) (he:∀whole,Ww e X.env whole=(do let v <-whole;W2 e.pos;holding [v] (truthy v)):=by intro _;rfl):QB X c e (IT g):=have h:=h.h;⟨wG (Ea h he) λσ H Q ⟨J,env,sr,w⟩=>by
 refine ⟨J,env,sr,aB (aH w) λr wr v J1 H1 e1 r1=>?_⟩;rw [hK];obtain ⟨k,k1,k2⟩:=HH (sr.hp.ext e1) r1 wr;exact ⟨k,k1,k2 J1 H1 e1⟩⟩
end
section
variable {X:Cx}{c:C}{e a b tg:Qq}{es:List Qq}{ga gb g:G R}{pos:Pos}
theorem qL (i:Nat){x:Str}{p1 p2 pos':Pos}(h:QD X c e g) (hN:autoParam (X.N[i]?=some x) zA._auto_1) (hv:zE X.env.scope x:=by first | exact UZ rfl | exact TX (UZ rfl) | exact TX (TX rfl)) (hd:autoParam ((x == ("__debug__":Str))=false) zB._auto_1)
  (hcd:autoParam ((x == ("__classdict__":Str))=false) zB._auto_1)
  (hbase:autoParam (R1 (.Name x p1) "extend" X.env (eval (.Name x p1) X.env)=eval (.Name x p1) X.env) zA._auto_1)
  (hfew:autoParam (((Ra pos' (Po [e] X.env)).all (λx=>!x.1) && (XZ pos' (VB [] X.env)).all (λx=>x.1.isSome)
   && decide (([e]:List Qq).length + ([]:List VC).length + (if ([]:List VC).isEmpty then 0 else 1) < 30))=true) zA._auto_1)
  (hline:autoParam ((p2.endLine == pos'.line)=true) zA._auto_1) (hst:autoParam (Po [e] X.env=(false,eval e X.env)::Po [] X.env) zA._auto_1) (hplain:autoParam ((Ra pos' (Po [] X.env)).any (·.1)=false) zA._auto_1)
  (hs:autoParam (Sq (.Call (.Attribute (.Name x p1) "extend" p2) [e] [] pos') none pos.line X.env=pure false) zA._auto_1) (hK:autoParam (X.K=c.K) zA._auto_1):jD X c (.Expr (.Call (.Attribute (.Name x p1) "extend" p2) [e] [] pos') pos) (uw i g):=have h:=h.h;⟨
 gK (uI (A2 Si PySem.F.slot_list_extend PySem.F.type_list_extend Jo (pA hN hv hd hcd) (fz h gT hst) hbase hfew hline hst hplain) hs) λE σ H ⟨J,env,sr,w⟩=>by
  unfold uw at w;split at w
  ·rename_i xs hi;obtain ⟨v,h1,a,vs,rfl,h2,h3,h4,h5⟩:=sr.at_ i _ hi;refine ⟨.ref a,h1,.inl ⟨rfl,vs,cX.of h2⟩,?_⟩;refine ⟨J,env,sr,aB (aH w) λr wr y J1 H1 e1 r1=>?_⟩;obtain ⟨ys,q,wr⟩:=mL wr;split at wr
   ·rename_i hz;obtain ⟨p,ws,rfl,hq,hs⟩:=pT (sr.hp.ext e1) r1 q;refine ⟨a,p,vs,ws,rfl,rfl,e1.h _ _ h2,by rw [hK];exact hq,by rw [<-h5.length,<-hs.length];exact hz,?_⟩;refine wr σ J1 _ e1.j ?_;exact (sr.ext e1).upd hi h1 (e1.h _ _ h2) (e1.frz a (by rw [h2];intro z;cases z) h3) h4 ((h5.mono e1.j).append hs)
   ·exact wr.elim
  ·exact w.elim⟩
theorem JV (ha:QD X c a ga) (hb:QD X c b gb):QD X c (.Compare a [.Is] [b] pos) (g2 (rY false) ga gb):=have ha:=ha.h;have hb:=hb.h;⟨pq Cd (by
 intro He He' J H x y u v Q hp rx ry w;unfold rY at w;split at w
 ·rename_i o ho;refine ⟨o,by rw [qe ry];exact ho,?_⟩;rw [qe rx];exact w _ J H (Ext.refl hp.sub) (.bl _)
 ·exact w.elim) ha hb⟩
theorem Cy (ha:QD X c a ga) (hb:QD X c b gb):QB X c (.Compare a [.Is] [b] pos) (aK (g2 (rY false) ga gb)):=have ha:=ha.h;have hb:=hb.h;⟨jI Cd (by
 intro He He' J H x y u v Q hp rx ry w;unfold rY at w;split at w
 ·rename_i o ho;refine ⟨o,by rw [qe ry];exact ho,?_⟩;rw [qe rx];exact w _ J H (Ext.refl hp.sub) (.bl _)
 ·exact w.elim) ha hb⟩
end
section
variable {X:Cx}{c:C}{e a b d tg:Qq}{es:List Qq}{ga gb g:G R}{pos:Pos}
theorem kT (h:QD X c e g) (hK:autoParam (X.K=c.K) zA._auto_1):wQ X c tg e (uz g):=have h:=h.h;⟨lq (Cn h) λσ H Q ⟨J,env,sr,w⟩=>by
 refine ⟨J,env,sr,aB (aH w) λr wr v J1 H1 e1 r1=>?_⟩;rw [hK];split at wr
 ·cases r1 with
  | tup h1 h2=>exact ⟨_,rfl,.inr ⟨⟨_,cV e1.sub h1⟩,wr _ J1 H1 e1 (vD (λJ H u=>u) h1 h2)⟩⟩
 ·cases r1 with
  | lst h1 h2=>exact ⟨_,rfl,.inl ⟨⟨_,e1.sub.seq h1⟩,wr _ J1 H1 e1 (lz (.inl h1) h2)⟩⟩
 ·obtain ⟨J2,e2,s2,rd⟩:=freeze e1 r1 rfl;cases rd with
  | lst h1 h2=>exact ⟨_,rfl,.inl ⟨⟨_,e2.sub.seq h1⟩,wr _ J2 H1 e2 (lz (.inl h1) h2)⟩⟩
 ·obtain ⟨a,vs,rfl,h1,h2⟩:=r1;exact ⟨_,rfl,.inl ⟨⟨_,(sr.hp.ext e1).ent.seq h1⟩,wr _ J1 H1 e1 (lz (.inr h1) h2)⟩⟩
 ·exact wr.elim⟩
theorem fJ (h:QD X c e g) (hK:autoParam (X.K=c.K) zA._auto_1):Bp X c tg e (gy g):=have h:=h.h;⟨lq (Cn h) λσ H Q ⟨J,env,sr,w⟩=>by
 refine ⟨J,env,sr,aB (aH w) λr wr v J1 H1 e1 r1=>?_⟩;rw [hK];have lst:∀{xs:List D},jk r=.ok xs->(∀It J1' H1',Ext J H J1' H1'->Walk c It xs J1' (λJ' H'=>aV J1' J'/\aV H1' H')->Q It H1')->∃a,v=.ref a/\(((∃xs,cX c.K H1 a xs)/\Q (zx c.K a) H1)\/((∃xs,dF c.K H1 a xs)/\Q (zy c.K a) H1)):=fun {xs} q wr=>by obtain ⟨a,vs,rfl,h1,h2⟩:=RR.list (sr.hp.ext e1) r1 q;refine ⟨a,rfl,.inl ⟨⟨_,h1⟩,wr _ J1 H1 e1 λi J' H' hp u=>?_⟩⟩;have h':=u.2.seq h1;refine ⟨λhl=>⟨vs,h',by rw [<-h2.length];exact hl⟩,λd hd=>?_⟩;obtain ⟨v,k1,k2⟩:=h2.get hd;refine ⟨⟨vs,v,h',k1⟩,λx H2 ⟨e,hy⟩=>?_⟩;subst e;have:=hy vs h';rw [k1] at this;cases this;exact ⟨J',Ext.refl hp.sub,k2.mono u.1⟩
 cases r with
 | d y=>
  cases y with
  | tup xs=>
   cases r1 with
   | tup h1 h2=>exact ⟨_,rfl,.inr ⟨⟨_,cV e1.sub h1⟩,wr _ J1 H1 e1 (vD (λJ H u=>u.1) h1 h2)⟩⟩
  | lst xs=>exact lst rfl wr
  | _=>exact wr.elim
 | l m xs=>exact lst rfl wr
 | mo _ _=>exact wr.elim
 | mb _ _=>exact wr.elim
 | mf _ _=>exact wr.elim
 | ln _=>exact wr.elim⟩
end
section
variable {X:Cx}{c:C}{st:RV}{g:G O}
theorem Ec (i:Nat) (h:jD X c st g):jD X c st (DH i g):=have h:=h.h;⟨λO6 s σ H D I ⟨J,env,sr,w⟩=>by
 unfold DH at w;split at w
 ·rename_i xs hi;obtain ⟨v,h1,a,vs,rfl,h2,h3,h4,h5⟩:=sr.at_ i _ hi;obtain ⟨J',s1,sr'⟩:=sr.frz (x:=.inl xs) hi h1 h2 h3 h4 (.lst (.inl (.inl bI)) (h5.mono (cj h3 _)));exact h O6 s σ H D I ⟨J',_,sr',aB w λo q=>q.mono s1⟩
 ·rename_i ks vs hi;obtain ⟨v,h1,a,rfl,⟨us,ws,ep,h2,m1,m2,m3,m4⟩,h3,h4⟩:=sr.at_ i _ hi;obtain ⟨J',s1,sr'⟩:=sr.frz (x:=.inr (ks,vs)) hi h1 h2 h3 h4 (.dct bI (m1.mono (cj h3 _)) (m2.mono (cj h3 _)) m3 m4);exact h O6 s σ H D I ⟨J',_,sr',aB w λo q=>q.mono s1⟩
 ·exact h O6 s σ H D I ⟨J,env,sr,w⟩⟩
end
section
variable {X:Cx}{c:C}
theorem Ad {P:PX}{w:Qn}{K:Pe}{mg:Str->Option Ph}{base:QV}{x Pb:Str}{st:RV}{f:PK}{fd:Qi}{N ps:List Str}{k:Nat}{Fm:List S->M R}(F:gz K x Pb st f fd) (hm:mg x=some (.ref f)) (Sc:cL N ps (aQ st))
  (hbi:∀(kV doc pm:Ph) (an:Option PK) (cdv ct:Ph) (us:List Ph),us.length=ps.length->Ur (Q5 x Pb (d8 st) (bW st) (aQ st) .none kV doc pm an cdv ct) ⟨us,[]⟩=pure (ps.zip us)){gB:G O}
  (hb:∀(cdv:Ph) (A:Qx) (outer:List Env) (s:Pk) (H:Hp) (E:XK) (J:Hp) (T:Exc->Prop),cH k (A.deeper (SK Pb (aQ st) s.heap.objs.size f cdv))->
   lU (u0 P w K mg base N Pb (aQ st) f cdv A outer s H E) ⟨K,H,J,T⟩ (bW st) gB)
  (hF:∀as r,as.length=ps.length->Fm as=.ok r->fin (gB (ay N as))=.ok r):bQ P w K mg base (k + 1) ps.length x Fm:=
 IA F hm Sc hbi (λcdv A outer s H E J T hr=>(hb cdv A outer s H E J T hr).h) hF
theorem G4 {P:PX}{w:Qn}{K:Pe}{mg:Str->Option Ph}{base:QV}{x Pb:Str}{st:RV}{f:PK}{fd:Qi}{N ps:List Str}{k:Nat}{Fm:List S->M R}(F:gz K x Pb st f fd) (Sc:cL N ps (aQ st)){gB:G O}
  (hb:∀(cdv:Ph) (A:Qx) (outer:List Env) (s:Pk) (H:Hp) (E:XK) (J:Hp) (T:Exc->Prop),cH k (A.deeper (SK Pb (aQ st) s.heap.objs.size f cdv))->
   lU (u0 P w K mg base N Pb (aQ st) f cdv A outer s H E) ⟨K,H,J,T⟩ (bW st) gB)
  (hF:∀as r,as.length=ps.length->Fm as=.ok r->fin (gB (ay N as))=.ok r):fL P w K mg base lT (k + 1) f fd ps (ou K ps.length Fm):=
 BL F Sc (λcdv A outer s H E J T hr=>(hb cdv A outer s H E J T hr).h) hF
end
end DL
namespace DX
open PySem PySem.Spec
open Builtin Builtin.ObjectAttr
inductive Tail (h:QV) (ns:List Str) (bmB:List Ph):List Ph->Prop
 | base:Tail h ns bmB bmB
 | own {a:PK}{c0:Ph}{dd:Option PK}{cd:ClassData}{sl:Array (Option Ph)}{m:Str->Option Ph}{tl:List Ph}:h.get? a=some {cls:=c0,dict:=dd,data:=.cls cd,slots:=sl}->h.Ns cd.ns m->(∀n∈ns,m n=none)->Tail h ns bmB tl->Tail h ns bmB (.ref a::tl)
theorem Tail.old (T:Tail h ns bmB tl) (hi:("__init__":Str)∈ns):X3 h bmB tl:=by
 induction T with
 | base=>exact .base
 | own a b c _ ih=>exact .own a b (c _ hi) ih
end DX
namespace DX
open PySem PySem.Spec
section
variable {prog:PX}{w:Qn}{A:Qx}{E:Ph->Pk->Prop}{h:QV}{g:Array XN}{d:Drawn}{t:Nat}{os:OsState}
variable {nm q:Str}{C N e:PK}{bs bm bmB:List Ph}{hdct:Bool}{sn:List Str}{sub:List Ph}{ab:Bool}{col:Option Bool}{dd:Option PK}{k0 k1 k2 k3 k5:Option Ph}{B newId nid initId:String}
theorem AN {O_:List Ph}{Q:Ph->Pk->Prop}(F:S3 B nid initId bmB) (T:X3 h bmB bm) (hC:h.get? C=some (Rr nm q C N bs bm hdct sn sub ab col dd k0 k1 k2 k3 k5 newId)) (he:h.get? e=some (u5 C t0 dx)) (hrest:O_.length<=sizeLine)
 (hq:∀h' t',h.objs.size<=t'->(∀b u,b≠e->h.get? b=some u->h'.get? b=some u)->h'.get? e=some (u5 C t' dx)->Q .none ⟨h',g,d,t,os⟩):P_ (Qj prog w) A (call (.builtin initId) (.ref e::O_)) Q E ⟨h,g,d,t,os⟩:=by
 refine UC (Vs F.init.plain F.initEntry (wpAny_check_init_subU F T hC he rfl ?_))
 wp_walk
 refine hq _ h.objs.size (PJ _) (λb u hb hu=>?_) ?_
 ·rw [Rh _ _ (QC hb)];exact Pq _ hu
 ·rw [Sw _ (Pq _ he) rfl];rfl
end
end DX
namespace DX
open PySem PySem.Spec PyProof.Rows L2
noncomputable abbrev NO (a C:PK) (dx:Option PK):HO:=.ext λh=>∃t,h.get? a=some (u5 C t dx)
theorem K7 {H:Hp}{h:QV}{a C t:PK}(x:h.get? a=some (u5 C t dx)):dX P w H h a (NO a C dx):=
 ⟨⟨t,x⟩,⟨_,x⟩,λ_ _ ⟨t,q⟩ k=>⟨t,k _ q⟩⟩
noncomputable def Apart (X:Cx) (O6:List (PK×Obj)) (T:PK):Prop:=(T∈X.ex\/X.s₀.heap.objs.size<=T)/\T≠X.env.locals/\(∀x c,X.env.cells.lookup x=some c->c≠T)/\∀p∈X.pn++O6,p.1≠T
theorem apart_new {H:Hp}{s:Pk}(I:L2.Inv X O6 σ H s) (h:s.heap.objs.size<=T):Apart X O6 T:=by have ne:∀b,b < s.heap.objs.size->b≠T:=λb hb z=>absurd (PM (z▸hb) h) (Q6 _);refine ⟨.inr (P6 I.sz h),(ne _ I.lt).symm,λx c hc=>?_,λp hp=>ne _ (PL (I.pin p hp).1)⟩;obtain ⟨v,o,hv,_⟩:=I.cell x c hc;exact ne _ (PL hv)
noncomputable def jZ (X:Cx) (E:XK):Prop:=∀(O6:List (PK×Obj)) (σ:L2.St) (H':Hp) (s':Pk) (e C:PK) (dx To:Option PK),L2.Inv X O6 σ H' s'->Fl e C dx To s'.heap->X.s₀.heap.objs.size<=e->(∀T∈To.toList,X.s₀.heap.objs.size<=T/\Apart X O6 T)->
 H' e=some (XO e C dx)->(∀T∈To.toList,H' T=none)->E (.ref e) dx H'->X.xe (.ref e) s'
theorem jZ.passes {X:Cx}{E:XK}(h:jZ X E):Passes (kr X.prog X.w) X E:=λO6 σ H s v s' I ⟨e,C,dx,T,H',ev,f⟩=>by subst ev;have I':L2.Inv X O6 σ H' s':=I.call' (ch:=[]) f.os f.un f.hok f.bare (λb z=>by cases z);exact h O6 σ H' s' e C dx (some T) I' f.fl (P6 I.sz f.newE) (λT' hT=>⟨P6 I.sz (f.newT T' hT),apart_new I (f.newT T' hT)⟩) f.gv f.free f.wish
theorem AF {P:PX}{w:Qn}{K:Pe}{mg:Str->Option Ph}{base:QV}{N:List Str}{Pb:Str}{sc:SJ}{f:PK}{cd:Ph}{A:Qx}{outer:List Env}{s:Pk}{H:Hp}{E:XK}:
  jZ (lG (kr P w) P w K mg base N Pb sc f cd A outer s H E) E:=λO6 σ H' s' e C dx To I fl newE newT gv free wish=>by
 have fr:=I.ok.frames;have st:=I.stack;have sf:=I.stkFree;have ss:=I.stkSub;show P_ _ _ (leaving (SK Pb sc s.heap.objs.size f cd) (.ref e)) _ _ _;unfold leaving;refine Pf (ym (A:=A.deeper (SK Pb sc s.heap.objs.size f cd)) fr st rfl fl λh2 T' lf t0 fy=>?_);have fd:wK P w (frs outer) [] H s E e C dx To H' s':=⟨I.os,I.bare,I.base,I.hok,fl,newE,λT hT=>(newT T hT).1,gv,free,wish⟩;exact ⟨e,C,dx,T',H',rfl,fd.left lf t0 fy sf (λb hb=>by
  rcases Pp.mp (ss b hb) with z | z
  ·exact .inr (by rw [z];exact PJ _)
  ·exact .inl z) I.sz⟩
theorem Hr {H:Hp}{x C:PK}(I:L2.Inv X O6 σ H s) (hx:H x=some (NO x C dx)):L2.Inv X O6 σ (upd H x (XO x C dx)) s:=by
 have ne:∀b,H b=none->b≠x:=λb n z=>by rw [z,hx] at n;cases n
 have st:∀b o,H b=some o->(∀φ,o≠.ext φ)->upd H x (XO x C dx) b=some o:=λb o hb hn=>by rw [aW (λz=>by rw [z,hx] at hb;exact hn _ (P7 hb).symm),hb]
 obtain ⟨⟨t0,Of⟩,_⟩:=I.hok x _ hx;refine I.call' (ch:=[]) rfl ⟨λb o hb _ _ _=>hb,λb o hb _ _ _=>⟨o.slots,hb⟩,λb o hb n _=>by rw [aW (ne b n)];exact n,λb o hb _=>⟨o,hb⟩,λb xs q=>st b _ q (λφ z=>by cases z),λb o u q=>st b _ q (λφ z=>by cases z),λb ps q=>⟨#[],by rw [st b _ q (λφ z=>by cases z)];simp⟩⟩ (λa o ha=>?_) I.bare (λb z=>by cases z);by_cases z:a=x
 ·subst z;rw [bI] at ha;obtain rfl:=P7 ha;exact xS ⟨_,_,Of,rfl,rfl,rfl⟩
 ·rw [aW z] at ha;exact (I.hok a o ha).stay (λb u _ q=>q) (λb q=>st b _ q (λφ z=>by cases z)) λb xs q=>st b _ q (λφ z=>by cases z)
end DX
namespace DL
open PySem PySem.Spec PyProof.Rows L2 DX
noncomputable def Ip (K:Pe) (J:Hp) (x:Exc) (v:Ph) (dx:Option PK):Prop:=
 ∃a C vs,v=.ref a/\J a=some (XO a C dx)/\PR K Pz x.cls=some (some (.ref C))/\XF J dx x.ns vs/\aT K J x.ds vs/\∃P,GX K P/\XE K P C
noncomputable def XW (K:Pe) (J H:Hp) (E:XK) (x:Exc):Prop:=∀v dx J' H',Ext J H J' H'->Ip K J' x v dx->E v dx H'
noncomputable def CN (K:Pe) (n:Nat) (F:List S->M R):Sp:=λvs H Q E=>∃J as,aV J H/\as.length=n/\jL K J H as vs/\cg (F as) (λr=>∀v J' H',Ext J H J' H'->FR K H J' H' r v->Q v H') (XW K J H E)
theorem gz.okX {P:PX}{w:Qn}{K:Pe}{mg:Str->Option Ph}{base:QV}{x Pb:Str}{st:RV}{f:PK}{fd:Qi}{N ps:List Str}{k:Nat}{sp:Sp}(F:gz K x Pb st f fd) (S:cL N ps (aQ st)) (len:∀vs H Q E,sp vs H Q E->vs.length=ps.length)
  (hbody:∀(cdv:Ph) (A:Qx) (outer:List Env) (s:Pk) (H:Hp) (vs:List V) (Q:VK) (E:XK),cH k (A.deeper (SK Pb (aQ st) s.heap.objs.size f cdv))->sp vs H Q E->
   ∃t,iQ (lG (kr P w) P w K mg base N Pb (aQ st) f cdv A outer s H E) (bW st) t/\t {nx:=λ_ H'=>Q .non H',rt:=Q} (start N vs) H):fL P w K mg base (kr P w) (k + 1) f fd ps sp:=by obtain ⟨oc,od,kV,doc,pm,an,cdv,ct,osl,rfl,lk,hcd⟩:=F.ex;exact EX lk hcd S len λA outer s H vs Q E hr NU=>hbody cdv A outer s H vs Q E hr NU
noncomputable abbrev IG (P:PX) (w:Qn) (K:Pe) (mg:Str->Option Ph) (base:QV) (N:List Str) (Pb:Str) (sc:SJ) (f:PK) (cd:Ph) (A:Qx) (outer:List Env) (s:Pk) (H:Hp) (E:XK):Cx:=lG (kr P w) P w K mg base N Pb sc f cd A outer s H E
theorem IP {P:PX}{w:Qn}{K:Pe}{mg:Str->Option Ph}{base:QV}{x Pb:Str}{st:RV}{f:PK}{fd:Qi}{N ps:List Str}{k:Nat}{Fm:List S->M R}(F:gz K x Pb st f fd) (Sc:cL N ps (aQ st)){gB:G O}
  (hb:∀(cdv:Ph) (A:Qx) (outer:List Env) (s:Pk) (H:Hp) (E:XK) (J:Hp),cH k (A.deeper (SK Pb (aQ st) s.heap.objs.size f cdv))->EL (IG P w K mg base N Pb (aQ st) f cdv A outer s H E) ⟨K,H,J,XW K J H E⟩ (bW st) gB)
  (hF:∀as,as.length=ps.length->Fm as≠.bad->fin (gB (ay N as))=Fm as):fL P w K mg base (kr P w) (k + 1) f fd ps (CN K ps.length Fm):=by
 refine gz.okX F Sc (λvs H Q E ⟨J,as,h1,h2,h3,h4⟩=>by rw [h3.length,h2]) (λcdv A outer s H vs Q E hr ⟨J,as,h1,h2,h3,h4⟩=>?_);refine ⟨_,hb cdv A outer s H E J hr,J,ay N as,yP h1 h3,?_⟩;have z:=hF as h2 (λq=>by rw [q] at h4;exact h4);rw [<-z] at h4;have ext:∀{J' H':Hp},HI ⟨K,H,J,XW K J H E⟩ J' H'->Ext J H J' H':=λhp=>⟨hp.ent,hp.entJ,hp.sub,hp.frz⟩;cases qg:gB (ay N as) with
 | bad=>rw [qg] at h4;exact h4
 | exc x=>rw [qg] at h4;exact h4
 | ok o=>
  rw [qg] at h4;cases o with
  | bk _=>exact h4.elim
  | ct _=>exact h4.elim
  | nx env=>exact λσ' J' H' _ sr=>h4 .non J' H' (ext sr.hp) .non
  | rt r=>exact λv J' H' _ hp rf=>h4 v J' H' (ext hp) (by
    cases r with
    | d x=>exact rf
    | mo _ _=>exact rf
    | mf _ _=>exact rf
    | ln _=>exact rf
    | mb _ _=>exact rf
    | l m xs=>exact rf)
noncomputable def wW (X:Cx) (c:C):Prop:=∃E,jZ X E/\∀x,c.T x->XW c.K c.J0 c.H0 E x
theorem iC {P:PX}{w:Qn}{K:Pe}{mg:Str->Option Ph}{base:QV}{N:List Str}{Pb:Str}{sc:SJ}{f:PK}{cd:Ph}{A:Qx}{outer:List Env}{s:Pk}{H J:Hp}{E:XK}:wW (IG P w K mg base N Pb sc f cd A outer s H E) ⟨K,H,J,XW K J H E⟩:=
 ⟨E,AF,λ_ h=>h⟩
theorem HI.since {c:C}{J H:Hp}(h:HI c J H):Ext c.J0 c.H0 J H:=⟨h.ent,h.entJ,h.sub,h.frz⟩
noncomputable def dY (n:Nat) (F:List S->M R):List R->M R:=λrs=>if rs.length=n then (match F (rs.map bh) with
 | .ok r=>.ok (bA r)
 | .exc x=>.exc x
 | .bad=>.bad) else .bad
section
variable {X:Cx}{c:C}{e:Qq}{es:List Qq}{pos:Pos}
theorem D3 {F:List S->M R}{gs:G (List R)}(G:fL X.prog X.w X.K X.mg X.base (kr X.prog X.w) k f fd ps (CN X.K n F)) (hx:wW X c) (hr:cH k X.A) (hm:X.mg x=some (.ref f)) (hk:QN X.K (.ref f)=true)
 (hb:Binds X.K fd ps []) (ha:wN X c (e::es) gs) (hT:autoParam (c.K=X.K) zA._auto_1) (hg:autoParam (Gl X x) zA._auto_1) (hdb:autoParam ((x == ("__debug__":Str))=false) zB._auto_1) (he:autoParam (Po (e::es) X.env=(false,eval e X.env)::Po es X.env) zA._auto_1)
 (hpl:autoParam ((Ra pos (Po es X.env)).any (·.1)=false) zA._auto_1):PD X c (.Call (.Name x p) (e::es) [] pos) (gN (dY n F) gs):=by
 obtain ⟨E,hc,hE⟩:=hx;refine fc (uH (E:=E) G hr hg hm hk hb .nil hc.passes ha hdb he hpl) λσ H Q ⟨J,env,sr,w⟩=>?_;refine ⟨J,env,sr,aB (aH w) λrs wr vs J1 H1 e1 r1=>?_⟩;unfold dY at wr;split at wr
 ·rename_i hl;have h1:=sr.hp.ext e1;have ar:=r1.args h1;rw [hT] at ar;refine ⟨J1,rs.map bh,e1.sub,by simpa using hl,by rw [Ql];exact ar,?_⟩;cases q:F (rs.map bh) with
  | bad=>rw [q] at wr;exact wr
  | exc x=>
   rw [q] at wr;exact λv dx J' H' e2 xr=>hE x wr v dx J' H' (h1.ext e2).since (hT▸xr)
  | ok r=>
   rw [q] at wr;intro v J' H' e2 fr;refine wr v J' H' (e1.trans e2) ?_;cases r with
   | d y=>exact (show Rep c.K J' y v from hT▸fr)
   | mo _ _=>exact fr.elim
   | mb _ _=>exact fr.elim
   | mf _ _=>obtain ⟨a,h1,h2,h3,h4⟩:=fr;exact ⟨a,h1,hT▸h2,h3,e1.h.free h4⟩
   | ln _=>obtain ⟨a,us,h1,h2,h3,h4,h5⟩:=fr;exact ⟨a,us,h1,h2,h3,e1.h.free h4,hT▸h5.mono (aV.refl _) λ_ h=>e1.h.free h⟩
   | l m ys=>
    obtain ⟨a,us,h1,h2,h3,h4,h5⟩:=fr;exact ⟨a,us,h1,h2,h3,e1.h.free h4,hT▸h5⟩
 ·exact wr.elim
end
end DL
namespace DX
open PySem PySem.Spec PyProof.Rows L2
theorem xZ {X:Cx}{O6:List (PK×Obj)}{σ:L2.St}{H:Hp}{s:Pk}{e C T':PK}{dx To:Option PK}{h':QV}(I:L2.Inv X O6 σ H s) (ap:∀T∈To.toList,Apart X O6 T) (fr:∀T∈To.toList,H T=none) (gv:H e=some (XO e C dx)) (lf:Left (sy X.stack) (e::To.toList) s.heap h') (fy:ji e C dx T' h'):L2.Inv X O6 σ H {s with heap:=h'}:=by
 have sf:=I.stkFree;have ne:∀b,H b=none->b≠e:=λb n z=>by rw [z,gv] at n;cases n
 refine I.call' (ch:=To.toList) rfl ⟨λb o hb hn hfs hx=>?_,λb o hb hn _ hx=>?_,λ_ _ _ n _=>n,λb o hb hx=>?_,λ_ _ q=>q,λ_ _ _ q=>q,λ_ ps q=>⟨#[],by rw [q];simp⟩⟩ (λa o ha=>?_) I.bare ap
 ·exact lf.keep b o hb (λz=>(Pp.mp z).elim (ne b hn) hx) hfs
 ·exact lf.slot b o hb λz=>(Pp.mp z).elim (ne b hn) hx
 ·by_cases z:b=e
  ·obtain ⟨oe,_,q,_⟩:=fy.is;exact ⟨oe,z▸q⟩
  ·obtain ⟨sl,q⟩:=lf.slot b o hb λy=>(Pp.mp y).elim z hx;exact ⟨_,q⟩
 ·by_cases z:a=e
  ·subst z;rw [gv] at ha;obtain rfl:=P7 ha;exact xS fy.is
  ·refine (I.hok a o ha).stay (λb u hb q=>?_) (λ_ q=>q) λ_ _ q=>q;have tr:H b≠none:=by
    rcases hb with rfl | hb
    ·rw [ha];intro z;cases z
    ·rw [hb];intro z;cases z
   refine lf.keep b u q (λhm=>?_) λhm=>tr (sf b hm);rcases Pp.mp hm with y | y
   ·rcases hb with rfl | hb
    ·exact z y
    ·rw [y,gv] at hb;cases hb
   ·exact tr (fr b y)
theorem DU {X:Cx}{O6:List (PK×Obj)}{σ:L2.St}{H:Hp}{s:Pk}{e C:PK}{dx To:Option PK}{Q:Unit->Pk->Prop}{E:Ph->Pk->Prop}(hst:X.stack=X.env::X.outer) (hf:X.env.frame=some X.env.locals) (I:L2.Inv X O6 σ H s) (fl:Fl e C dx To s.heap) (ap:∀T∈To.toList,Apart X O6 T) (fr:∀T∈To.toList,H T=none)
  (gv:H e=some (XO e C dx)) (h:∀h' T',L2.Inv X O6 σ H {s with heap:=h'}->ji e C dx T' h'->(s.heap.objs.size<=T'\/T'∈To.toList)->Q () {s with heap:=h'}):P_ (Qj X.prog X.w) X.A (Sb (.ref e) X.env) (λ_ s'=>P_ (Qj X.prog X.w) X.A (UI (.ref e) none) Q E s') E s:=
 ym (hst▸I.ok.frames) (hst▸I.stack) hf fl λh' T' lf t0 fy=>h h' T' (xZ I ap fr gv (hst▸lf) fy) fy t0
section
variable {M:W0}{A:Qx}{E:Ph->Pk->Prop}{h:QV}{g:Array XN}{d:Drawn}{t:Nat}{os:OsState}
variable {nm q nb qb:Str}{C N Cb Nb e:PK}{bs bm bsb bmb:List Ph}{hdct NL:Bool}{sn snb:List Str}{sub subb:List Ph}{ab abb:Bool}{col colb:Option Bool}{dd ddb:Option PK}{k0 k1 k2 k3 k5 j0 j1 j2 j3 j5:Option Ph}{newId newIdb:String}
theorem vS {oe:Obj}{Q:Bool->Pk->Prop}(hC:h.get? C=some (Rr nm q C N bs bm hdct sn sub ab col dd k0 k1 k2 k3 k5 newId)) (hB:h.get? Cb=some (Rr nb qb Cb Nb bsb bmb NL snb subb abb colb ddb j0 j1 j2 j3 j5 newIdb)) (he:h.get? e=some oe) (hc:oe.cls=.ref C) (hbase:bmb.contains (.type "BaseException")=true) (hin:bm.contains (.ref Cb)=true)
  (hq:Q true ⟨h,g,d,t,os⟩):P_ M A (excMatches (.ref e) (.ref Cb)) Q E ⟨h,g,d,t,os⟩:=by
 have a1:(RG Cb::bmb).contains (.type "BaseException")=true:=by simp only [R3,hbase,Vj]
 have a2:(RG C::bm).contains (.ref Cb)=true:=by simp only [R3,hin,Vj]
 have f:=tc_notTuple;unfold excMatches
 repeat (first | (with_reducible refine RM he ?_;rw [hc]) | with_reducible refine RM hB ?_ | (with_reducible refine SV hB ?_;rw [a1]) | (with_reducible refine SV hC ?_;rw [a2]) | wp_step)
 exact hq
end
theorem se {fr:Option PK}{X:Cx}{O6:List (PK×Obj)}{σ:L2.St}{H:Hp}{s:Pk}{e C T:PK}{dx:Option PK}{M:W0}{A:Qx}{Q:Unit->Pk->Prop}{E:Ph->Pk->Prop}(I:L2.Inv X O6 σ H s) (fy:ji e C dx T s.heap) (ap:Apart X O6 T) (ft:H T=none)
  (h:∀h',L2.Inv X O6 σ H {s with heap:=h'}->ji e C dx T h'->Q () {s with heap:=h'}):P_ M A (UI (.ref e) fr) Q E s:=by
 refine FD fy λh' ot fy2=>h h' ?_ fy2;refine I.call' (ch:=[T]) rfl ⟨λb o hb hn _ hx=>?_,λb o hb hn _ hx=>⟨o.slots,?_⟩,λ_ _ _ n _=>n,λb o hb hx=>⟨o,?_⟩,λ_ _ q=>q,λ_ _ _ q=>q,λ_ ps q=>⟨#[],by rw [q];simp⟩⟩ (λa o ha=>?_) I.bare (λb hb=>by rw [P1.mp hb];exact ap)
 ·exact (ot b λz=>hx (by simp [z])).trans hb
 ·exact (ot b λz=>hx (by simp [z])).trans hb
 ·exact (ot b λz=>hx (by simp [z])).trans hb
 ·refine (I.hok a o ha).stay (λb u hb q=>?_) (λ_ q=>q) λ_ _ q=>q;refine (ot b λz=>?_).trans q;rcases hb with rfl | hb
  ·rw [z,ft] at ha;cases ha
  ·rw [z,ft] at hb;cases hb
noncomputable abbrev mk (X:Cx) (v:Ph) (E:Ph->Pk->Prop):Cx:={X with A:=X.A.mark (some v),calm:=false,xe:=E}
theorem yb {H:Hp}(I:L2.Inv X O6 σ H s) (v:Ph) (E:Ph->Pk->Prop):L2.Inv (mk X v E) O6 σ H s:=
 ⟨⟨I.ok.mod,I.ok.kind,I.ok.glob,I.ok.blt,I.ok.above,I.ok.inj,I.ok.has,I.ok.cab,(λz=>by cases z),I.ok.frames,I.ok.stk,I.ok.exf,I.ok.bs,I.ok.bsz,I.ok.noex,I.ok.exfs,I.ok.funs,I.ok.frf⟩,I.os,I.bare,I.base,I.loc,I.cell,I.free,I.freeC,I.pin,I.hok,I.len⟩
theorem Bf {H H':Hp}{E:Ph->Pk->Prop}(I0:L2.Inv X O6 σ' H' s') (I:L2.Inv (mk X v E) O6 σ H s):L2.Inv X O6 σ H s:=
 ⟨I0.ok,I.os,I.bare,I.base,I.loc,I.cell,I.free,I.freeC,I.pin,I.hok,I.len⟩
noncomputable def jo (CX:ow) (X:Cx) (E:XK) (σ:L2.St):Prop:=∀(O6:List (PK×Obj)) (H:Hp) (s:Pk) (e:Ph) (s':Pk),L2.Inv X O6 σ H s->CX X.stack H s E e s'->X.xe e s'
noncomputable def oz (X:Cx) (E:XK) (σ:L2.St):Prop:=∀(O6:List (PK×Obj)) (H':Hp) (s':Pk) (e C:PK) (dx To:Option PK),L2.Inv X O6 σ H' s'->Fl e C dx To s'.heap->X.s₀.heap.objs.size<=e->(∀T∈To.toList,X.s₀.heap.objs.size<=T/\Apart X O6 T)->
 H' e=some (XO e C dx)->(∀T∈To.toList,H' T=none)->E (.ref e) dx H'->X.xe (.ref e) s'
theorem oz.passes {X:Cx}{E:XK}(h:oz X E σ):jo (kr X.prog X.w) X E σ:=λO6 H s v s' I ⟨e,C,dx,T,H',ev,f⟩=>by subst ev;have J:L2.Inv X O6 σ H' s':=I.call' (ch:=[]) f.os f.un f.hok f.bare (λb z=>by cases z);exact h O6 H' s' e C dx (some T) J f.fl (P6 I.sz f.newE) (λU hU=>⟨P6 I.sz (f.newT U hU),apart_new I (f.newT U hU)⟩) f.gv f.free f.wish
section
variable {X:Cx}{CX:ow}{k:Nat}{f:PK}{fd:Qi}{ps:List Str}{sp:Sp}{dvs:List V}{ds:List Ph}{E:XK}{x:Str}{p pos:Pos}{e:Qq}{es:List Qq}{t:TA}
theorem Hu {H:Hp}{Q:VK}(F:fL X.prog X.w X.K X.mg X.base CX k f fd ps sp) (hr:cH k X.A) (hb:Binds X.K fd ps ds) (hd:Vals dvs ds) (hx:jo CX X E σ)
 (I:L2.Inv X O6 σ H s) (r:Vals vs us) (h:sp (vs++dvs) H Q E):P_ (Qj X.prog X.w) X.A (call (.ref f) us) (EP X O6 σ Q) X.xe s:=by
 have rr:Vals (vs++dvs) (us++ds):=r.append hd;have ll:(us++ds).length=ps.length:=by rw [<-rr.length];exact F.len _ _ _ _ h
 refine UC (TM (F.run X.A X.stack s H ⟨us,[]⟩ (us++ds) (vs++dvs) Q E hr I.env0 (hb s us I.kIn ll) rr h) λr s1 hq=>?_)
 match r,hq with
 | .error e,hq=>exact hx O6 H s e s1 I hq
 | .ok (.ret u),hq=>exact I.after hq
 | .ok .next,hq=>exact RX hq
 | .ok .brk,hq=>exact RX hq
 | .ok .cont,hq=>exact RX hq
theorem D4 (F:fL X.prog X.w X.K X.mg X.base CX k f fd ps sp) (hr:cH k X.A) (hg:Gl X x) (hm:X.mg x=some (.ref f)) (hk:QN X.K (.ref f)=true) (hb:Binds X.K fd ps ds) (hd:Vals dvs ds)
  (ha:PA X (e::es) t) (hdb:autoParam ((x == ("__debug__":Str))=false) zB._auto_1) (he:autoParam (Po (e::es) X.env=(false,eval e X.env)::Po es X.env) zA._auto_1) (hpl:autoParam ((Ra pos (Po es X.env)).any (·.1)=false) zA._auto_1):
  PE X (.Call (.Name x p) (e::es) [] pos) (λσ H Q=>∃E,jo CX X E σ/\Ba sp dvs E t σ H Q):=by intro O6 s σ H Q I ⟨E,hx,h⟩;refine Sl (mh I hg hm ?_ hdb);exact Us (h₀:=X.base) I.ok.mod.kin hk (bT (ha pos O6 s σ H _ I h) λus s1 ⟨vs,H1,I1,r,q⟩=>⟨I1.kIn,Hu F hr hb hd hx I1 r q⟩) he hpl
end
noncomputable abbrev tb (X:Cx) (pn:List (PK×Obj)) (xe:Ph->Pk->Prop):Cx:={X with pn:=pn,xe:=xe}
theorem K9 {X:Cx}{xe:Ph->Pk->Prop}(o:X.Ok):(tb X pn xe).Ok:=
 ⟨o.mod,o.kind,o.glob,o.blt,o.above,o.inj,o.has,o.cab,o.hd,o.frames,o.stk,o.exf,o.bs,o.bsz,o.noex,o.exfs,o.funs,o.frf⟩
theorem Kr {X:Cx}{H:Hp}(I:L2.Inv X O6 σ H s) (xe:Ph->Pk->Prop):L2.Inv (tb X (X.pn++O6) xe) [] σ H s:=
 ⟨K9 I.ok,I.os,I.bare,I.base,I.loc,I.cell,I.free,I.freeC,λp hp=>I.pin p (by simpa using hp),I.hok,I.len⟩
theorem mJ {X:Cx}{H:Hp}{xe:Ph->Pk->Prop}(o:X.Ok) (I:L2.Inv (tb X (X.pn++O6) xe) pins' σ H s):L2.Inv X O6 σ H s:=
 ⟨o,I.os,I.bare,I.base,I.loc,I.cell,I.free,I.freeC,λp hp=>I.pin p (R9 _ hp),I.hok,I.len⟩
theorem Kh {X:Cx}{D:Ends}{xe:Ph->Pk->Prop}(o:X.Ok) (h:SP (tb X (X.pn++O6) xe) [] D f s):SP X O6 D f s:=by
 cases f with
 | next=>obtain ⟨σ,H,I,q⟩:=h;exact ⟨σ,H,mJ o I,q⟩
 | brk=>obtain ⟨σ,H,I,q⟩:=h;exact ⟨σ,H,mJ o I,q⟩
 | cont=>obtain ⟨σ,H,I,q⟩:=h;exact ⟨σ,H,mJ o I,q⟩
 | ret u=>obtain ⟨v,σ,H,I,r,q⟩:=h;exact ⟨v,σ,H,mJ o I,r,q⟩
theorem Gr {X:Cx}{σ:L2.St}{H:Hp}{M:W0}{E:Ph->Pk->Prop}{pos:Pos}{Q:Unit->Pk->Prop}(I:L2.Inv X O6 σ H s) (hN:X.N.Nodup) (hi:X.N[i]?=some x) (hk:X.env.scope.names.lookup x=some .local)
 (h:∀s',L2.Inv X O6 (σ.set i none) H s'->Q () s'):P_ M A (do bindName X.env x .none;unbindBehindTheSuite X.env x pos) Q E s:=by
 obtain ⟨m,hn,hl⟩:=id I.loc;have cne:=I.cne;refine wpAny_nameGoes_keeps hk hn (by rw [I.ok.kind];rfl) λh' v hn' hs=>h _ ?_;obtain ⟨oL,_,_,OF,_⟩:=id hn;have hok:gn X.prog X.w H h':=λb ob e=>by
  refine (I.hok b ob e).stay (λc w' hc q=>(hs.2 c ?_).trans q) (λ_ q=>q) λ_ _ q=>q;intro z;subst z;have fr:=I.free;rcases hc with z | hc
  ·rw [<-z] at e;rw [fr] at e;cases e
  ·rw [fr] at hc;cases hc
 have old:∀b o,X.s₀.heap.get? b=some o->b≠X.env.locals:=λb o e=>QA (PM (PL e) I.ok.above);refine ⟨I.ok,I.os,I.bare,⟨λb o e n hb hx=>(hs.2 b (old b o e)).trans (I.base.keep b o e n hb hx),λb o e n hb hx=>?_,I.base.free,λb o e hx=>?_,I.base.tups,I.base.frzs,I.base.tbls⟩,⟨_,hn',λj y w' e1 e2 e3=>?_⟩,λy c e=>?_,I.free,I.freeC,λp hp=>?_,hok,by simpa using I.len⟩
 ·obtain ⟨sl,e1⟩:=I.base.slot b o e n hb hx;exact ⟨sl,(hs.2 b (old b o e)).trans e1⟩
 ·obtain ⟨o',e1⟩:=I.base.there b o e hx;exact ⟨o',(hs.2 b (old b o e)).trans e1⟩
 ·by_cases hj:j=i
  ·subst hj;rw [Tw] at e2;simp at e2
  ·rw [PN (QC hj)] at e2;obtain ⟨u',r',q⟩:=hl j y w' e1 e2 e3;refine ⟨u',r',?_⟩;rcases q with ⟨k,e⟩ | ⟨k,c,e,z⟩
   ·have ny:y≠x:=λe=>hj (rC hN e1 (e▸hi));exact .inl ⟨k,by simp [ny,e]⟩
   ·exact .inr ⟨k,c,e,z.sameBut hs (cne y c e)⟩
 ·obtain ⟨w',z⟩:=I.cell y c e;exact ⟨w',z.sameBut hs (cne y c e)⟩
 ·obtain ⟨e,n,ne,nf,d⟩:=I.pin p hp;exact ⟨(hs.2 p.1 ne).trans e,n,ne,nf,d⟩
structure Below (K:Pe) (C Cb:PK):Prop where
 ex:∃nm q N bs bm hdct sn sub ab col dd k0 k1 k2 k3 k5 newId nb qb Nb bsb bmb NL snb subb abb colb ddb j0 j1 j2 j3 j5 newIdb,K.lookup C=some (Rr nm q C N bs bm hdct sn sub ab col dd k0 k1 k2 k3 k5 newId)/\
  K.lookup Cb=some (Rr nb qb Cb Nb bsb bmb NL snb subb abb colb ddb j0 j1 j2 j3 j5 newIdb)/\bmb.contains (.type "BaseException")=true/\bm.contains (.ref Cb)=true
section
variable {X:Cx}{O6:List (PK×Obj)}{σ:L2.St}{H:Hp}{s:Pk}{e C Cb T:PK}{dx:Option PK}{D:Ends}{i j:Nat}{n y B:Str}{p1 p2 p3 pos pos2:Pos}
theorem BP (I:L2.Inv X O6 σ H s) (fy:ji e C dx T s.heap) (ap:Apart X O6 T) (ft:H T=none) (hb:Below X.K C Cb) (hg:Gl X B) (hm:X.mg B=some (.ref Cb)) (hdb:(B == ("__debug__":Str))=false) (hN:X.N.Nodup) (hi:X.N[i]?=some n) (hj:X.N[j]?=some y)
  (hn:X.env.scope.names.lookup n=some .local) (hy:X.env.scope.names.lookup y=some .local) (hs:Sq (.Name n p2) (some (.Name y p1)) pos2.line X.env=pure false) (hd:(n == ("__debug__":Str))=false) (hcd:(n == ("__classdict__":Str))=false)
  (h:D.nx (((σ.set i (some (.ref e))).set j (some (.ref e))).set i none) H):
  P_ (Qj X.prog X.w) X.A (YQ (.ref e) X.env [.ExceptHandler (some (.Name B p3)) (some n) [.Assign [.Name y p1] (.Name n p2) pos2] pos]) (SP X O6 D) X.xe s:=by
 obtain ⟨nm,q,N,bs,bm,hdct,sn,sub,ab,col,dd,k0,k1,k2,k3,k5,newId,nb,qb,Nb,bsb,bmb,NL,snb,subb,abb,colb,ddb,j0,j1,j2,j3,j5,newIdb,lC,lB,hbase,hin⟩:=hb.ex;refine wpAny_handleBy_cons (codeAny_handlers_test ?_) (by intro q;cases q);refine mh (X:=mk X (.ref e) λ_ _=>False) (yb I _ _) hg hm ?_ hdb;obtain ⟨oe,vs,oT,ts,_,he,hc,hrest⟩:=id fy;have kI:=I.kIn;obtain ⟨hp,gs,dr,tk,os⟩:=s;refine vS (kI _ _ lC) (kI _ _ lB) he hc hbase hin ?_;show Uy _ _ _ _ _;refine codeAny_handlers_suite_as ?_;refine se I fy ap ft λh' I1 fy1=>?_;refine rM (X:=mk X (.ref e) λ_ _=>False) (v:=.ref e) (yb I1 _ _) hN hi (.inl hn) rfl (λs2 I2=>?_) (.inr hn);have st:=uJ (sV (X:=mk X (.ref e) λ_ _=>False) (pos:=pos2) (pos':=p1) hN hj (.inl hy) (pA (X:=mk X (.ref e) λ_ _=>False) (i:=i) (x:=n) (pos:=p2) hi (.inl hn) hd hcd) hs (.inr hy));have hil:i < σ.length:=by rw [I.len];exact (Qd.mp hi).1
 refine QZ (st O6 s2 (σ.set i (some (.ref e))) H {nx:=λσ' H'=>σ'=(σ.set i (some (.ref e))).set j (some (.ref e))/\H'=H,rt:=λ_ _=>False} I2 ⟨.ref e,by simp [hil],rfl,rfl⟩) (λf s3 h3=>?_) (λ_ _ z=>z.elim);cases f with
 | next=>
  obtain ⟨σ',H',I3,rfl,rfl⟩:=h3;refine Gr (X:=X) (Bf I I3) hN hi hn λs4 I4=>?_;exact ⟨_,_,I4,h⟩
 | brk=>obtain ⟨_,_,_,z⟩:=h3;exact z.elim
 | cont=>obtain ⟨_,_,_,z⟩:=h3;exact z.elim
 | ret u=>obtain ⟨_,_,_,_,_,z⟩:=h3;exact z.elim
end
end DX
namespace DL
open PySem PySem.Spec PyProof.Rows L2 DX
noncomputable abbrev C.wT (c:C) (T:Exc->Prop):C:={c with T:=T}
theorem SR.wT {c:C}{J H:Hp}(h:SR c J H σ env) (T:Exc->Prop):SR (c.wT T) J H σ env:=⟨⟨h.hp.sub,h.hp.ent,h.hp.entJ,h.hp.frz⟩,h.len,h.at_,h.sep,h.sp2⟩
theorem SR.unT {c:C}{J H:Hp}{T:Exc->Prop}(h:SR (c.wT T) J H σ env):SR c J H σ env:=⟨⟨h.hp.sub,h.hp.ent,h.hp.entJ,h.hp.frz⟩,h.len,h.at_,h.sep,h.sp2⟩
theorem HI.unT {c:C}{J H:Hp}{T:Exc->Prop}(h:HI (c.wT T) J H):HI c J H:=⟨h.sub,h.ent,h.entJ,h.frz⟩
theorem oP.wT {c:C}{J:Hp}{E:Ends}{T:Exc->Prop}:∀{o:O},oP c J E o->oP (c.wT T) J E o
 | .nx _,h=>λσ' J' H' q r=>h σ' J' H' q r.unT
 | .rt r,h=>λv J' H' q r1 r2=>h v J' H' q r1.unT (by cases r <;> exact r2)
 | .bk _,h=>λσ' J' H' q r=>h σ' J' H' q r.unT
 | .ct _,h=>λσ' J' H' q r=>h σ' J' H' q r.unT
noncomputable def LI (c:C) (g:G O) (σ0:L2.St) (Jt Ht:Hp) (T:Exc->Prop):TS:=λD σ H=>σ=σ0/\∃J env,Ext Jt Ht J H/\SR (c.wT T) J H σ env/\cg (g env) (oP (c.wT T) J D) T
noncomputable def MM (c:C) (g:G R) (σ0:L2.St) (Jt Ht:Hp) (T:Exc->Prop):TE:=λσ H Q=>σ=σ0/\∃J env,Ext Jt Ht J H/\SR (c.wT T) J H σ env/\cg (g env) (λr=>∀v J' H',Ext J H J' H'->RR (c.wT T) H J' H' r v->Q v H') T
structure Dl (X:Cx) (c:C) (sts:List RV) (g:G O):Prop where
 h:∀(pn:List (PK×Obj)) (xe:Ph->Pk->Prop) (T:Exc->Prop) (σ0:L2.St) (E:XK) (Jt Ht:Hp),jo (kr X.prog X.w) (tb X pn xe) E σ0->(∀x J H,T x->Ext Jt Ht J H->XW c.K J H E x)->iQ (tb X pn xe) sts (LI c g σ0 Jt Ht T)
structure EN (X:Cx) (c:C) (st:RV) (g:G O):Prop where
 h:∀(pn:List (PK×Obj)) (xe:Ph->Pk->Prop) (T:Exc->Prop) (σ0:L2.St) (E:XK) (Jt Ht:Hp),jo (kr X.prog X.w) (tb X pn xe) E σ0->(∀x J H,T x->Ext Jt Ht J H->XW c.K J H E x)->PS (tb X pn xe) st (LI c g σ0 Jt Ht T)
structure Av (X:Cx) (c:C) (e:Qq) (g:G R):Prop where
 h:∀(pn:List (PK×Obj)) (xe:Ph->Pk->Prop) (T:Exc->Prop) (σ0:L2.St) (E:XK) (Jt Ht:Hp),jo (kr X.prog X.w) (tb X pn xe) E σ0->(∀x J H,T x->Ext Jt Ht J H->XW c.K J H E x)->PE (tb X pn xe) e (MM c g σ0 Jt Ht T)
section
variable {X:Cx}{c:C}{e:Qq}{es:List Qq}{pos:Pos}{g:G R}
theorem Ei {st:RV}{t:G O}(h:EN X c st t):Dl X c [st] t:=⟨λpn xe T σ0 E Jt Ht a b=>uJ (h.h pn xe T σ0 E Jt Ht a b)⟩
theorem Ej (i:Nat){x:Str}{pos':Pos}(hN:X.N.Nodup) (h:Av X c e g) (hi:autoParam (X.N[i]?=some x) zA._auto_1) (hx:Loc X.env.scope x:=by first | exact UZ rfl | exact TX rfl) (hs:autoParam (Sq e (some (.Name x pos')) pos.line X.env=pure false) zA._auto_1)
  (hf:X.fn x=true\/X.env.scope.names.lookup x=some .local:=by first | exact .inl rfl | exact .inr rfl):EN X c (.Assign [.Name x pos'] e pos) (aG i g):=
 ⟨λpn xe T σ0 E Jt Ht a b=>gK (sV (X:=tb X pn xe) hN hi hx (h.h pn xe T σ0 E Jt Ht a b) hs hf) λD σ H ⟨es,J,env,ex,sr,w⟩=>by
  refine ⟨es,J,env,ex,sr,aB (aH w) λr wr v J1 H1 e1 r1=>?_⟩;obtain ⟨x,q,wr⟩:=uP wr;exact wr (σ.set i (some v)) J1 H1 e1.j (sr.set e1 r1 q)⟩
theorem CB {F:List S->M R}{gs:G (List R)}(G:fL X.prog X.w X.K X.mg X.base (kr X.prog X.w) k f fd ps (CN X.K n F)) (hr:cH k X.A) (hm:X.mg x=some (.ref f)) (hk:QN X.K (.ref f)=true)
 (hb:Binds X.K fd ps []) (ha:∀pn xe T,wN (tb X pn xe) (c.wT T) (e::es) gs) (hT:autoParam (c.K=X.K) zA._auto_1) (hg:autoParam (Gl X x) zA._auto_1) (hdb:autoParam ((x == ("__debug__":Str))=false) zB._auto_1) (he:autoParam (Po (e::es) X.env=(false,eval e X.env)::Po es X.env) zA._auto_1)
 (hpl:autoParam ((Ra pos (Po es X.env)).any (·.1)=false) zA._auto_1):Av X c (.Call (.Name x p) (e::es) [] pos) (gN (dY n F) gs):=⟨λpn xe T σ0 E Jt Ht hp hE=>by
 refine fc (D4 (X:=tb X pn xe) (CX:=kr X.prog X.w) G hr hg hm hk hb .nil (ha pn xe T) hdb he hpl) λσ H Q ⟨es,J,env,ex,sr,w⟩=>?_;subst es;refine ⟨E,hp,J,env,sr,aB (aH w) λrs wr vs J1 H1 e1 r1=>?_⟩;unfold dY at wr;split at wr
 ·rename_i hl;have h1:=sr.hp.ext e1;have ar:=r1.args h1;have ar:jL c.K J1 H1 (rs.map bh) vs:=ar;rw [hT] at ar;refine ⟨J1,rs.map bh,e1.sub,by simpa using hl,by rw [Ql];exact ar,?_⟩;cases q:F (rs.map bh) with
  | bad=>rw [q] at wr;exact wr
  | exc x=>rw [q] at wr;exact hT▸hE x J1 H1 wr (ex.trans e1)
  | ok r=>
   rw [q] at wr;intro v J' H' e2 fr;refine wr v J' H' (e1.trans e2) ?_;cases r with
   | d y=>exact (show Rep c.K J' y v from hT▸fr)
   | mo _ _=>exact fr.elim
   | mb _ _=>exact fr.elim
   | mf _ _=>obtain ⟨a,h1,h2,h3,h4⟩:=fr;exact ⟨a,h1,hT▸h2,h3,e1.h.free h4⟩
   | ln _=>obtain ⟨a,us,h1,h2,h3,h4,h5⟩:=fr;exact ⟨a,us,h1,h2,h3,e1.h.free h4,hT▸h5.mono (aV.refl _) λ_ h=>e1.h.free h⟩
   | l m ys=>
    obtain ⟨a,us,h1,h2,h3,h4,h5⟩:=fr;exact ⟨a,us,h1,h2,h3,e1.h.free h4,hT▸h5⟩
 ·exact wr.elim⟩
noncomputable def oS (i j:Nat) (L:List Str) (g:G O):G O:=λenv=>match g env with
 | .exc x=>if L.contains x.cls=true then .ok (.nx ((env.set j (some (.d (.exn x.cls x.ns x.ds)))).set i none)) else .bad
 | .ok o=>.ok o
 | .bad=>.bad
theorem SR.caught {J H:Hp}{σ:L2.St}{env:Ev}(sr:SR c J H σ env) (hij:i≠j) (r:Rep c.K J d v):SR c J H (((σ.set i (some u)).set j (some v)).set i none) ((env.set j (some (.d d))).set i none):=by
 refine ⟨sr.hp,by simpa using sr.len,λk x q=>?_,λk l xs ys w OW q1 q2 q3 q4=>?_,sr.sp2.keep λk xs q=>?_⟩
 ·by_cases ki:k=i
  ·subst ki;rw [Tw] at q;simp at q
  ·rw [PN (QC ki)] at q ⊢;rcases cR q with ⟨rfl,hl,rfl⟩ | ⟨kj,q⟩
   ·exact ⟨v,by rw [QI (by simpa using sr.len▸hl)],r⟩
   ·obtain ⟨w,h1,h2⟩:=sr.at_ k x q;exact ⟨w,by rw [PN (QC kj),PN (QC ki)];exact h1,h2⟩
 ·have f:∀(k:Nat) (ys:Mn),((env.set j (some (.d d))).set i none)[k]?=some (some (mS ys))->k≠i/\k≠j/\env[k]?=some (some (mS ys)):=λk ys q=>by
   by_cases ki:k=i
   ·subst ki;rw [Tw] at q;simp at q
   ·rw [PN (QC ki)] at q;rcases cR q with ⟨rfl,hl,z⟩ | ⟨kj,q⟩
    ·cases ys <;> cases z
    ·exact ⟨ki,kj,q⟩
  obtain ⟨a1,a2,a3⟩:=f k xs q1;obtain ⟨b1,b2,b3⟩:=f l ys q2;rw [PN (QC a1),PN (QC a2),PN (QC a1)] at q3;rw [PN (QC b1),PN (QC b2),PN (QC b1)] at q4;exact sr.sep k l xs ys w OW a3 b3 q3 q4
 ·by_cases ki:k=i
  ·subst ki;rw [Tw] at q;simp at q
  ·rw [PN (QC ki)] at q;rcases cR q with ⟨_,_,z⟩ | ⟨kj,q⟩
   ·cases z
   ·exact ⟨⟨xs,q⟩,by rw [jv ki,jv kj,jv ki]⟩
theorem GP {t:G O}{p1 p2 p3 pos2 hpos:Pos}(hb:Dl X c body t) (OR:∀cls∈L,∀C,PR c.K Pz cls=some (some (.ref C))->Below X.K C Cb) (hm:X.mg B=some (.ref Cb)) (hN:X.N.Nodup)
 (hst:X.stack=X.env::X.outer) (hfr:X.env.frame=some X.env.locals) (hg:autoParam (Gl X B) zA._auto_1) (hi:autoParam (X.N[i]?=some n) zA._auto_1) (hj:autoParam (X.N[j]?=some y) zA._auto_1) (hij:autoParam (i≠j) zB._auto_1) (hn:autoParam (X.env.scope.names.lookup n=some .local) zA._auto_1) (hy:autoParam (X.env.scope.names.lookup y=some .local) zA._auto_1)
 (hs:autoParam (Sq (.Name n p2) (some (.Name y p1)) pos2.line X.env=pure false) zA._auto_1) (hdb:autoParam ((B == ("__debug__":Str))=false) zB._auto_1) (hd:autoParam ((n == ("__debug__":Str))=false) zB._auto_1) (hcd:autoParam ((n == ("__classdict__":Str))=false) zB._auto_1):
  EK X c (.Try body [.ExceptHandler (some (.Name B p3)) (some n) [.Assign [.Name y p1] (.Name n p2) pos2] hpos] [] [] pos) (oS i j L t):=by
 intro O6 s σ H D I ⟨J,env,sr,w⟩;refine wpAny_Try_except ?_;have key:∀(T:Exc->Prop),(∀x,T x->L.contains x.cls=true/\oP c J D (.nx ((env.set j (some (.d (.exn x.cls x.ns x.ds)))).set i none)))->cg (t env) (oP c J D) T->
   P_ (Qj X.prog X.w) X.A (execs body X.env) (λf s₁=>match f with | .next=>P_ (Qj X.prog X.w) X.A (execs [] X.env) (SP X O6 D) X.xe s₁ | f=>SP X O6 D f s₁)
    (λe s₁=>P_ (Qj X.prog X.w) X.A (Sb e X.env) (λ_ s₂=>P_ (Qj X.prog X.w) X.A (UI e none) (λ_ s₃=>P_ (Qj X.prog X.w) X.A (YQ e X.env [.ExceptHandler (some (.Name B p3)) (some n) [.Assign [.Name y p1] (.Name n p2) pos2] hpos]) (SP X O6 D) X.xe s₃) X.xe s₂) X.xe s₁) s:=by
  intro T hT wt
  let xe:Ph->Pk->Prop:=λe s₁=>P_ (Qj X.prog X.w) X.A (Sb e X.env) (λ_ s₂=>P_ (Qj X.prog X.w) X.A (UI e none) (λ_ s₃=>P_ (Qj X.prog X.w) X.A (YQ e X.env [.ExceptHandler (some (.Name B p3)) (some n) [.Assign [.Name y p1] (.Name n p2) pos2] hpos]) (SP X O6 D) X.xe s₃) X.xe s₂) X.xe s₁
  let E:XK:=λv dx H'=>∃x J',T x/\Ext J H J' H'/\Ip c.K J' x v dx
  have ca:oz (tb X (X.pn++O6) xe) E σ:=λpins' H' s' e C dx To I' fl nw ap gv fr ⟨x,J',hx,ex,a,C',vs,ev,ha,hns,xf,rs,OA⟩=>by
   cases ev;have I2:=mJ I.ok I';have e1:XO e C dx=XO e C' dx:=by have:=ex.sub _ _ ha;rw [gv] at this;exact P7 this
   have ap2:∀T∈To.toList,Apart X O6 T:=λT hT=>⟨(ap T hT).2.1,(ap T hT).2.2.1,(ap T hT).2.2.2.1,λp hp=>(ap T hT).2.2.2.2 p (R9 _ hp)⟩;refine DU hst hfr I2 fl ap2 fr gv λh' T' I3 fy t0=>?_;have isx:pQ e C' dx h':=by have z:=fy.is;have e2:pQ e C dx=pQ e C' dx:=HO.ext.inj e1;rw [e2] at z;exact z
   have cc:C=C':=by obtain ⟨oe,_,q1,q2,_⟩:=isx;obtain ⟨oe',_,q1',q2',_⟩:=fy.is;rw [q1] at q1';cases q1';rw [q2] at q2';cases q2';rfl
   subst cc;obtain ⟨hL,hw⟩:=hT x hx;have OS:=OR x.cls (Vo.mp hL) C hns;refine BP (i:=i) (j:=j) I3 fy (t0.elim (apart_new I2) (ap2 T')) (t0.elim I2.hok.fresh (fr T')) OS hg hm hdb hN hi hj hn hy hs hd hcd ?_;have rp:Rep c.K J' (.exn x.cls x.ns x.ds) (.ref e):=.exn ha hns xf rs OA;exact hw _ J' H' ex.j ((sr.ext ex).caught hij rp)
  have OO:∀x J1 H1,T x->Ext J H J1 H1->XW c.K J1 H1 E x:=λx J1 H1 hx e1 v dx J2 H2 e2 xr=>⟨x,J2,hx,e1.trans e2,xr⟩;refine QZ (hb.h (X.pn++O6) xe T σ E J H ca.passes OO [] s σ H D (Kr I xe) ⟨rfl,J,env,Ext.refl sr.hp.sub,sr.wT T,aB wt λo q=>q.wT⟩) (λf s1 h1=>?_) (λ_ _ z=>z);have h2:=Kh I.ok h1;cases f with
  | next=>exact (Ac O6 s1 _ _ D h2.choose_spec.choose_spec.1 h2.choose_spec.choose_spec.2)
  | brk=>exact h2
  | cont=>exact h2
  | ret u=>exact h2
 unfold oS at w;cases q:t env with
 | bad=>rw [q] at w;exact w.elim
 | ok o=>
  rw [q] at w;exact key (λ_=>False) (λx h=>h.elim) (by rw [q];exact w)
 | exc x=>
  rw [q] at w;by_cases hc:L.contains x.cls=true
  ·simp only [hc,if_true] at w;exact key (λx'=>x'=x) (λx' h=>by subst h;exact ⟨hc,w⟩) (by rw [q];exact rfl)
  ·simp only [hc,if_false] at w;exact w.elim
end
end DL
namespace DX
open PySem PySem.Spec PyProof.Rows L2
section
variable {K:Pe}{P C:PK}
theorem Dr (G:GX K P) (X:XE K P C):Below K C P:=by obtain ⟨nm,q,N,bs,sn,sub,ab,col,dd,k0,k1,k2,k3,k5,l⟩:=X.lk;obtain ⟨nm',q',N',bs',sn',sub',ab',col',dd',k0',k1',k2',k3',k5',l',_⟩:=G.lk;exact ⟨nm,q,N,bs,_,true,sn,sub,ab,col,dd,k0,k1,k2,k3,k5,_,nm',q',N',bs',_,true,sn',sub',ab',col',dd',k0',k1',k2',k3',k5',_,l,l',by decide,by simp⟩
theorem HG (G:GX K P) (h:QV) (X:K.In h):Tail h quiet jQ (.ref P::jQ):=by obtain ⟨nm,q,N,bs,sn,sub,ab,col,dd,k0,k1,k2,k3,k5,l,hN⟩:=G.lk;obtain ⟨m,h1,h2⟩:=hN h X;exact .own (X _ _ l) h1 h2 .base
end
end DX
namespace DL
open PySem PySem.Spec PyProof.Rows L2 DX
noncomputable def tX (L:List Str) (T:Str->Bool):D->Option Bool
 | .exn cls _ _=>if L.contains cls=true then some (T cls) else none
 | _=>some false
section
variable {X:Cx}{c:C}{e a:Qq}{ga g:G R}{pos:Pos}{L:List Str}{T:Str->Bool}
theorem xq (hv:∀u,RelV vc u->u=cv) (h0:∀t∈["NoneType","bool","int","str","tuple","list","dict"],Q4 X.K (.type t) cv=some false)
 (hX:∀cls∈L,∀C,PR X.K Pz cls=some (some (.ref C))->∃P,GX X.K P/\XE X.K P C/\Q4 X.K (.ref C) cv=some (T cls)):
  dj X (.builtin "isinstance") (λxs H Q=>∃d x b,xs=[x,vc]/\Rep X.K H d x/\tX L T d=some b/\Q (.bl b) H):=by
 intro O6 s σ H xs us Q I r h;obtain ⟨d,x,b,rfl,hd,hb,q⟩:=h;obtain ⟨u,w',rfl,rx,ry⟩:=vals2 r;cases hv w' ry;have fin:∀tk,EP X O6 σ Q (.bool b) {s with toks:=tk}:=λtk=>⟨.bl _,H,I.tok tk,rfl,q⟩;have F:=kg I;cases hd with
 | non=>cases rx;cases hb;exact Qp Wj I.kIn S0 (h0 _ (by decide)) (λz=>nomatch z) fin
 | bl y=>cases rx;cases hb;exact Qp Wk I.kIn S0 (h0 _ (by decide)) (λz=>nomatch z) fin
 | int i=>obtain ⟨t,rfl⟩:=rx;cases hb;exact Qp WM I.kIn S0 (h0 _ (by decide)) (λz=>nomatch z) fin
 | str y=>obtain ⟨t,rfl⟩:=rx;cases hb;exact Qp WN I.kIn S0 (h0 _ (by decide)) (λz=>nomatch z) fin
 | tup h hs=>
  cases rx;cases hb;obtain ⟨O8,r,o,h1,h2,_⟩:=F.t _ _ h;exact Qp V4 I.kIn ⟨o,h1,h2⟩ (h0 _ (by decide)) (λz=>nomatch z) fin
 | lst h hs=>
  cases rx;cases hb;obtain ⟨O8,r,o,h1,h2,_⟩:=F.l _ _ h;exact Qp Wl I.kIn ⟨o,h1,h2⟩ (h0 _ (by decide)) (λz=>nomatch z) fin
 | emp h=>
  cases rx;cases hb;obtain ⟨o,h1,h2⟩:=F.e _ h;exact Qp Tv I.kIn ⟨o,h1,h2⟩ (h0 _ (by decide)) (λz=>nomatch z) fin
 | dct h _ _ _ _=>
  cases rx;cases hb;obtain ⟨o,es,h1,h2,_⟩:=F.d _ _ _ h;exact Qp Tv I.kIn ⟨o,h1,h2.1⟩ (h0 _ (by decide)) (λz=>nomatch z) fin
 | exn h1 h2 h3 hs hx=>
  cases rx;rename_i cls ns vs ds;by_cases hL:L.contains cls=true
  ·have hb:(if L.contains cls=true then some (T cls) else none)=some b:=hb;rw [if_pos hL] at hb;obtain rfl:=P7 hb;obtain ⟨P,G,XEc,hk⟩:=hX _ (Vo.mp hL) _ h2;obtain ⟨ox,od,J,_⟩:=xN I h1 h3;exact Qp (xX G XEc) I.kIn ⟨ox,od,J⟩ hk (λz=>nomatch z) fin
  ·have hb:(if L.contains cls=true then some (T cls) else none)=some b:=hb;rw [if_neg hL] at hb;cases hb
noncomputable def gR (L:List Str) (T:Str->Bool) (g:G R):G R:=λenv=>g env >>= λr=>match tX L T r.dat with
 | some b=>.ok (.d (.bl b))
 | none=>.bad
theorem Ci (hm1:X.mg Cs=some (.ref Ca)) (h0:∀t∈["NoneType","bool","int","str","tuple","list","dict"],Q4 X.K (.type t) (.ref Ca)=some false)
 (hX:∀cls∈L,∀C,PR X.K Pz cls=some (some (.ref C))->∃P,GX X.K P/\XE X.K P C/\Q4 X.K (.ref C) (.ref Ca)=some (T cls))
 (h:PD X c a g) (hm:X.mg "isinstance"=none) (hK:autoParam (X.K=c.K) zA._auto_1) (hg:autoParam (Gl X "isinstance") zA._auto_1) (NW:autoParam (Gl X Cs) zA._auto_1) (gr:autoParam ((Cs == ("__debug__":Str))=false) zB._auto_1)
 (he:autoParam (Po [a,.Name Cs p2] X.env=(false,eval a X.env)::Po [.Name Cs p2] X.env) zA._auto_1) (NV:autoParam (Po [.Name Cs p2] X.env=(false,eval (.Name Cs p2) X.env)::Po [] X.env) zA._auto_1)
 (hpl:autoParam ((Ra pos (Po [.Name Cs p2] X.env)).any (·.1)=false) zA._auto_1):PD X c (.Call (.Name "isinstance" p) [a,.Name Cs p2] [] pos) (gR L T g):=
 fc (nD (xq (vc:=.ref Ca) (λ_ h=>h) h0 hX) hg hm (by decide +kernel) (fz h (fz (Ab (v:=.ref Ca) NW hm1 rfl gr) gT NV) he) (by decide) (by decide) he hpl) λσ H Q ⟨J,env,sr,w⟩=>by
  refine ⟨J,env,sr,aB (aH w) λr wr v J1 H1 e1 r1=>?_⟩;cases q:tX L T r.dat with
  | none=>rw [q] at wr;exact wr.elim
  | some b=>
   rw [q] at wr;exact ⟨r.dat,v,b,rfl,by rw [hK];exact r1.dat (sr.hp.ext e1),q,wr _ J1 H1 e1 (.bl _)⟩
theorem JF (hX:∀cls∈L,∀C,PR X.K Pz cls=some (some (.ref C))->∃P,GX X.K P/\XE X.K P C)
 (h:PD X c a g) (mT:X.mg "ValueError"=none) (hm:X.mg "isinstance"=none) (hK:autoParam (X.K=c.K) zA._auto_1) (hg:autoParam (Gl X "isinstance") zA._auto_1) (NW:autoParam (Gl X "ValueError") zA._auto_1)
 (he:autoParam (Po [a,.Name "ValueError" p2] X.env=(false,eval a X.env)::Po [.Name "ValueError" p2] X.env) zA._auto_1) (NV:autoParam (Po [.Name "ValueError" p2] X.env=(false,eval (.Name "ValueError" p2) X.env)::Po [] X.env) zA._auto_1)
 (hpl:autoParam ((Ra pos (Po [.Name "ValueError" p2] X.env)).any (·.1)=false) zA._auto_1):PD X c (.Call (.Name "isinstance" p) [a,.Name "ValueError" p2] [] pos) (gR L (λ_=>true) g):=
 fc (nD (xq (vc:=.ty "ValueError") (T:=λ_=>true) (λ_ h=>h) DN λcls hc C hn=>let ⟨P,G,E⟩:=hX cls hc C hn;⟨P,G,E,Gz E⟩) hg hm (by decide +kernel) (fz h (fz (Aa NW mT (by decide +kernel) (v:=.ty "ValueError") rfl (by decide) (by decide)) gT NV) he) (by decide) (by decide) he hpl) λσ H Q ⟨J,env,sr,w⟩=>by
  refine ⟨J,env,sr,aB (aH w) λr wr v J1 H1 e1 r1=>?_⟩;cases q:tX L (λ_=>true) r.dat with
  | none=>rw [q] at wr;exact wr.elim
  | some b=>
   rw [q] at wr;exact ⟨r.dat,v,b,rfl,by rw [hK];exact r1.dat (sr.hp.ext e1),q,wr _ J1 H1 e1 (.bl _)⟩
end
end DL
namespace DX
open PySem PySem.Spec PyProof.Rows L2
open Sem (wp)
section
variable {prog:PX}{w:Qn}{A:Qx}{E:Ph->Pk->Prop}{h:QV}{g:Array XN}{d:Drawn}{t:Nat}{os:OsState}
variable {nm q:Str}{C N:PK}{bs bm bmB:List Ph}{hdct:Bool}{sn:List Str}{sub:List Ph}{ab:Bool}{col:Option Bool}{dd:Option PK}{k0 k1 k2 k3 k5:Option Ph}{B Bn newId nid initId inN:String}{bmN:List Ph}
theorem zq (Fn:S3 Bn newId inN bmN) (hBn:bmB.contains (.type Bn)=true) (F:S3 B nid initId bmB) (T:X3 h bmB bm){mN:Str->Option Ph}{O_:List Ph}{Q:Fin->Pk->Prop}
  (hC:h.get? C=some (Rr nm q C N bs bm hdct sn sub ab col dd k0 k1 k2 k3 k5 newId)) (hn:h.Ns N mN) (hi:mN "__init__"=none)
  (hq:∀h' e tp tk,Made h h' C e tp->Q (.done (.ret (.ref e))) ⟨h',g,d,tk,os⟩) (hrest:O_.length<=sizeLine):
  P_ (Qj prog w) A (Vz.«type.__call__» ⟨.ref C::O_,[]⟩) Q E ⟨h,g,d,t,os⟩:=by
 repeat (first | with_reducible refine RM hC ?_ | with_reducible refine wpAny_madeBy_exc hC ?_ | wp_step)
 refine codeAny_call_builtin_code (V8 _ Fn.quiet) (wpAny_check_new_subU Fn hBn T hC (codeAny_exc_new_subU Fn hBn F T hC ?_ hrest));show P_ _ _ _ _ _ _;obtain ⟨o1,q1⟩:∃o1:Obj,o1={cls:=.type "tuple",data:=.seq O_.toArray}:=⟨_,rfl⟩;obtain ⟨o2,q2⟩:∃o2:Obj,o2={cls:=.ref C,data:=.fields #[.ref h.objs.size,.none,.none,.none,.bool false,.none]}:=⟨_,rfl⟩;rw [<-q1,<-q2];have up:∀b o,h.get? b=some o->((h.push o1).push o2).get? b=some o:=λb o hb=>Pq o2 (Pq o1 hb);have hC₁:=up _ _ hC;have hn₁:((h.push o1).push o2).Ns N mN:=let ⟨o,es,ep,e,r⟩:=hn;⟨o,es,ep,up _ _ e,r⟩
 have hget:((h.push o1).push o2).get? (h.objs.size + 1)=some o2:=by subst q1 q2;heap_get
 have hcC:(RG C::bm).contains (.ref C)=true:=by simp
 have T₁:=T.keeps (h':=(h.push o1).push o2) up;have c2:o2.cls=.ref C:=by subst q2;rfl
 unfold isInstance
 repeat (first | with_reducible refine RM hget ?_ | (simp only [c2];with_reducible refine SV hC₁ ?_;rw [hcC]) | wp_step)
 rw [c2];refine wpAny_typeLookup_tail hC₁ hn₁ T₁ F.mroIs F.init.lookup ?_;rw [hi];refine RI (Pf (wpAny_of_eq (F.init.bind _) (Pf ?_)));refine AN F T₁ hC₁ (t0:=h.objs.size) (dx:=none) (by rw [hget,q2]) hrest λh2 t2 tk k ht=>?_;have ne:∀b o,h.get? b=some o->b≠h.objs.size + 1:=λb o hb z=>absurd (PL hb) (by rw [z];exact YS.mpr (Ua _))
 wp_walk
 exact hq h2 _ t2 _ ⟨λb o hb=>k b o (ne b o hb) (up b o hb),Ua _,ht⟩
theorem IB (Fn:S3 Bn newId inN bmN) (hBn:bmB.contains (.type Bn)=true) (F:S3 B nid initId bmB) (T:X3 h bmB bm){mN:Str->Option Ph}{O_:List Ph}{Q:Ph->Pk->Prop}
  (hC:h.get? C=some (Rr nm q C N bs bm hdct sn sub ab col dd k0 k1 k2 k3 k5 newId)) (hn:h.Ns N mN) (hi:mN "__init__"=none) (hq:∀h' e tp tk,Made h h' C e tp->Q (.ref e) ⟨h',g,d,tk,os⟩) (hrest:O_.length<=sizeLine):
  P_ (Qj prog w) A (call (.ref C) O_) Q E ⟨h,g,d,t,os⟩:=by
 have f1:=tc_lookup;have f2:=tc_bind (.ref C);have hT:(⟨h,g,d,t,os⟩:Pk).TypeIs (.ref C) "type":=⟨_,hC,rfl⟩;refine UC (codeAny_of_tree ?_);show P_ _ _ (callAny (.ref C) _) _ _ _
 repeat (any_goals (first | assumption | with_reducible refine RM hC ?_ | wp_step))
 exact ⟨rfl,codeAny_call_builtin_at (V8 _ (by decide +kernel)) entry_typeCall (wpAny_check_type_call_sub hC (zq Fn hBn F T hC hn hi (λh' e tp tk hm=>hq h' e tp tk hm) hrest))⟩
end
structure Dn (K:Pe) (C:PK):Prop where
 ex:∃nm q N bs bm hdct sn sub ab col dd k0 k1 k2 k3 k5 newId Bn inN bmN B nid initId bmB,K.lookup C=some (Rr nm q C N bs bm hdct sn sub ab col dd k0 k1 k2 k3 k5 newId)/\S3 Bn newId inN bmN/\bmB.contains (.type Bn)=true/\S3 B nid initId bmB/\bm.contains (.type "BaseException")=true/\
  (∀h,K.In h->X3 h bmB bm/\∃mN,h.Ns N mN/\mN "__init__"=none)
 kp:QN K (.ref C)=true
section
variable {X:Cx}{C:PK}{E':XK}{x:Str}{p cpos pos:Pos}{e:Qq}{es:List Qq}{t:TA}
noncomputable def Er (n:Nat) (C:PK) (E':XK) (t:TA):TS:=λD σ H=>t σ H λvs H1=>vs.length<=sizeLine/\∀a,n<=a->H1 a=none->E' (.ref a) none (upd H1 a (XO a C none))
theorem A4 (M:Dn X.K C) (hg:Gl X x) (hm:X.mg x=some (.ref C)) (hc:jZ X E') (N8:X.calm=true) (ha:PA X (e::es) t) (hdb:autoParam ((x == ("__debug__":Str))=false) zB._auto_1)
  (he:autoParam (Po (e::es) X.env=(false,eval e X.env)::Po es X.env) zA._auto_1) (hpl:autoParam ((Ra cpos (Po es X.env)).any (·.1)=false) zA._auto_1):PS X (.Raise (some (.Call (.Name x p) (e::es) [] cpos)) none pos) (Er X.s₀.heap.objs.size C E' t):=by
 intro O6 s σ H D I h;obtain ⟨nm,q,N,bs,bm,hdct,sn,sub,ab,col,dd,k0,k1,k2,k3,k5,newId,Bn,inN,bmN,B,nid,initId,bmB,lk,Fn,hBn,FB,hbase,hK⟩:=M.ex;rw [arm_exec_Raise];simp only [evalOpt,Option.map];refine Pf (Td (vV (C:=C) (nm:=nm) (q:=q) (N:=N) (bs:=bs) (bm:=bm) (hdct:=hdct) (sn:=sn) (sub:=sub) (ab:=ab) (col:=col) (dd:=dd) (k0:=k0) (k1:=k1) (k2:=k2) (k3:=k3) (k5:=k5) (newId:=newId) hbase (I.ok.hd N8) ?_));refine Pf (QZ (Q:=EP X O6 σ λv H2=>∃a,v=.ref a/\X.s₀.heap.objs.size<=a/\H2 a=some (NO a C none)/\E' (.ref a) none (upd H2 a (XO a C none))) ?_ (λv s₃ h₃=>Pf (Td (PU ?_))) λ_ _ x=>x)
 ·refine Sl (mh I hg hm ?_ hdb);refine Us (h₀:=X.base) I.ok.mod.kin M.kp (bT (ha cpos O6 s σ H _ I h) λus s1 ⟨vs,H1,I1,r,hl,q⟩=>⟨I1.kIn,?_⟩) he hpl;obtain ⟨T,mN,n1,n2⟩:=hK _ I1.kIn;have sz:=I1.sz;obtain ⟨hp,gs,dr,tk,os⟩:=s1;refine IB Fn hBn FB T (I1.kIn _ _ lk) n1 n2 (λh' a tp tk2 md=>?_) (by rw [Xb,<-r.length];exact hl);have I2:L2.Inv X O6 σ (upd H1 a (NO a C none)) ⟨h',gs,dr,tk2,os⟩:=I1.laid md.keep md.new (K7 md.obj);have fr:H1 a=none:=I1.hok.fresh md.new;exact ⟨.ref a,_,I2,rfl,a,rfl,P6 sz md.new,bI,by rw [HJ];exact q a (P6 sz md.new) fr⟩
 ·obtain ⟨v',H2,I2,rv,a,ev,ha,NT,hw⟩:=h₃;subst ev;obtain rfl:v=RG a:=rv;obtain ⟨⟨t0,Of⟩,_⟩:=I2.hok a _ NT;exact ⟨a,t0,none,rfl,I2.kIn _ _ lk,Of,hc O6 σ _ s₃ a C none none (Hr I2 NT) ⟨t0,Of⟩ ha (λT hT=>by cases hT) bI (λT hT=>by cases hT) hw⟩
end
end DX
namespace DL
open PySem PySem.Spec PyProof.Rows L2 DX
noncomputable def kc (cls:Str) (gs:G (List D)):G O:=λenv=>gs env >>= λds=>if ds.length<=sizeLine then .exc ⟨cls,[],[]⟩ else .bad
section
variable {X:Cx}{c:C}{Ca:PK}{x:Str}{p cpos pos:Pos}{e:Qq}{es:List Qq}{gs:G (List D)}
theorem A1 (M:Dn X.K Ca) (hg:Gl X x) (hm:X.mg x=some (.ref Ca)) (hns:PR c.K Pz x=some (some (.ref Ca))) (OA:∃P,GX c.K P/\XE c.K P Ca) (hx:wW X c) (N8:X.calm=true) (ha:LG X c (e::es) gs) (hdb:autoParam ((x == ("__debug__":Str))=false) zB._auto_1)
  (he:autoParam (Po (e::es) X.env=(false,eval e X.env)::Po es X.env) zA._auto_1) (hpl:autoParam ((Ra cpos (Po es X.env)).any (·.1)=false) zA._auto_1):EK X c (.Raise (some (.Call (.Name x p) (e::es) [] cpos)) none pos) (kc x gs):=by
 obtain ⟨E',hc,hE⟩:=hx;refine gK (A4 M hg hm hc N8 ha hdb he hpl) λD0 σ H ⟨J,env,sr,w⟩=>?_;refine ⟨J,env,sr,aB (aH w) λds wr vs J1 H1 e1 rs=>?_⟩;split at wr
 ·rename_i hl;have wr:c.T ⟨x,[],[]⟩:=wr;refine ⟨by rw [<-rs.length];exact hl,λa han hn=>?_⟩;have hp:=sr.hp.ext e1;have ja:J1 a=none:=by
   cases q:J1 a with
   | none=>rfl
   | some o=>rw [hp.sub a o q] at hn;cases hn
  refine hE _ wr (.ref a) none (upd J1 a (XO a Ca none)) _ (hp.since.trans ⟨cj hn _,cj ja _,λb o hb=>?_,λb hb hj=>?_⟩) ⟨a,Ca,[],rfl,bI,hns,.inl ⟨rfl,rfl,rfl⟩,.nil,OA⟩
  ·by_cases z:b=a
   ·subst z;rw [bI] at hb ⊢;exact hb
   ·rw [aW z] at hb ⊢;exact hp.sub b o hb
  ·have:b≠a:=λz=>hb (z▸hn);rw [aW this];exact hj
 ·exact wr.elim
end
noncomputable def gM (P:PX) (w:Qn) (K:Pe) (mg:Str->Option Ph) (base:QV) (k n:Nat) (x:Str) (Fm:List S->M R):Prop:=
 ∃f fd ps,fL P w K mg base (kr P w) k f fd ps (CN K n Fm)/\mg x=some (.ref f)/\QN K (.ref f)=true/\Binds K fd ps []
theorem kR {P:PX}{w:Qn}{K:Pe}{mg:Str->Option Ph}{base:QV}{x Pb:Str}{st:RV}{f:PK}{fd:Qi}{N ps:List Str}{k:Nat}{Fm:List S->M R}(F:gz K x Pb st f fd) (hm:mg x=some (.ref f)) (Sc:cL N ps (aQ st))
  (hbi:∀(kV doc pm:Ph) (an:Option PK) (cdv ct:Ph) (us:List Ph),us.length=ps.length->Ur (Q5 x Pb (d8 st) (bW st) (aQ st) .none kV doc pm an cdv ct) ⟨us,[]⟩=pure (ps.zip us)){gB:G O}
  (hb:∀(cdv:Ph) (A:Qx) (outer:List Env) (s:Pk) (H:Hp) (E:XK) (J:Hp),cH k (A.deeper (SK Pb (aQ st) s.heap.objs.size f cdv))->
   lU (IG P w K mg base N Pb (aQ st) f cdv A outer s H E) ⟨K,H,J,XW K J H E⟩ (bW st) gB)
  (hF:∀as,as.length=ps.length->Fm as≠.bad->fin (gB (ay N as))=Fm as):gM P w K mg base (k + 1) ps.length x Fm:=
 ⟨f,fd,ps,IP F Sc (λcdv A outer s H E J hr=>(hb cdv A outer s H E J hr).h) hF,hm,F.kp,F.binds hbi⟩
noncomputable def wU (P:PX) (w:Qn) (K:Pe) (mg:Str->Option Ph) (base:QV) (x:Str):Prop:=
 ∃Ca,Dn K Ca/\mg x=some (.ref Ca)/\PR K Pz x=some (some (.ref Ca))/\∃P,GX K P/\XE K P Ca
structure qV (K:Pe) (mg:Str->Option Ph) (L:List Str):Prop where
 ex:∃P,GX K P/\mg "PickError"=some (.ref P)/\(∀cls∈L,∃C,PR K Pz cls=some (some (.ref C))/\XE K P C/\mg cls=some (.ref C)/\C≠P)/\
  ∀c1∈L,∀c2∈L,∀C,PR K Pz c1=some (some (.ref C))->PR K Pz c2=some (some (.ref C))->c1=c2
section
variable {X:Cx}{c:C}{e a:Qq}{es:List Qq}{pos:Pos}{g:G R}{L:List Str}
theorem iN {F:List S->M R}{gs:G (List R)}(G:gM X.prog X.w X.K X.mg X.base k n x F) (hx:wW X c) (hr:cH k' X.A) (ha:jj X c (e::es) gs) (hk:autoParam (k<=k') zB._auto_1) (hT:autoParam (c.K=X.K) zA._auto_1) (hg:autoParam (Gl X x) zA._auto_1) (hdb:autoParam ((x == ("__debug__":Str))=false) zB._auto_1)
 (he:autoParam (Po (e::es) X.env=(false,eval e X.env)::Po es X.env) zA._auto_1) (hpl:autoParam ((Ra pos (Po es X.env)).any (·.1)=false) zA._auto_1):QD X c (.Call (.Name x p) (e::es) [] pos) (gN (dY n F) gs):=by obtain ⟨f,fd,ps,h1,h2,h3,h4⟩:=G;exact ⟨D3 h1 hx (hr.mono hk) h2 h3 h4 ha.h hT hg hdb he hpl⟩
theorem DZ {k n:Nat}{f:PK}{fd:Qi}{ps:List Str}{F:List S->M R}{x:Str}{p:Pos}{gs:G (List R)}(G:fL X.prog X.w X.K X.mg X.base (kr X.prog X.w) k f fd ps (CN X.K n F)) (hr:cH k X.A) (hm:X.mg x=some (.ref f)) (hk:QN X.K (.ref f)=true)
  (hb:Binds X.K fd ps []) (ha:wN X c (e::es) gs) (hT:autoParam (c.K=X.K) zA._auto_1) (hg:autoParam (Gl X x) zA._auto_1) (hdb:autoParam ((x == ("__debug__":Str))=false) zB._auto_1) (he:autoParam (Po (e::es) X.env=(false,eval e X.env)::Po es X.env) zA._auto_1)
  (hpl:autoParam ((Ra pos (Po es X.env)).any (·.1)=false) zA._auto_1):PD X c (.Call (.Name x p) (e::es) [] pos) (gN (au n F) gs):=by
 refine fc (uH (E:=λ_ _ _=>False) G hr hg hm hk hb .nil (λO6 σ H s v s' I ⟨e,C,dx,T,H',ev,f⟩=>f.wish.elim) ha hdb he hpl) λσ H Q ⟨J,env,sr,w⟩=>?_;refine ⟨J,env,sr,aB (aH w) λrs wr vs J1 H1 e1 r1=>?_⟩;unfold au at wr;split at wr
 ·rename_i hl;have h1:=sr.hp.ext e1;have ar:=r1.args h1;rw [hT] at ar;refine ⟨J1,rs.map bh,e1.sub,by simpa using hl,by rw [Ql];exact ar,?_⟩;cases q:F (rs.map bh) with
  | bad=>rw [q] at wr;exact wr
  | exc x=>rw [q] at wr;exact wr.elim
  | ok r=>
   rw [q] at wr;intro v J' H' e2 fr;refine wr v J' H' (e1.trans e2) ?_;cases r with
   | d y=>exact (show Rep c.K J' y v from hT▸fr)
   | mo _ _=>exact fr.elim
   | mb _ _=>exact fr.elim
   | mf _ _=>obtain ⟨a,h1,h2,h3,h4⟩:=fr;exact ⟨a,h1,hT▸h2,h3,e1.h.free h4⟩
   | ln _=>obtain ⟨a,us,h1,h2,h3,h4,h5⟩:=fr;exact ⟨a,us,h1,h2,h3,e1.h.free h4,hT▸h5.mono (aV.refl _) λ_ h=>e1.h.free h⟩
   | l m ys=>
    obtain ⟨a,us,h1,h2,h3,h4,h5⟩:=fr;exact ⟨a,us,h1,h2,h3,e1.h.free h4,hT▸h5⟩
 ·exact wr.elim
theorem Ef {F:List S->M R}{gs:G (List R)}(G:gM X.prog X.w X.K X.mg X.base k n x F) (hr:cH k' X.A) (ha:jj X c (e::es) gs) (hk:autoParam (k<=k') zB._auto_1) (hT:autoParam (c.K=X.K) zA._auto_1) (hg:autoParam (Gl X x) zA._auto_1) (hdb:autoParam ((x == ("__debug__":Str))=false) zB._auto_1)
 (he:autoParam (Po (e::es) X.env=(false,eval e X.env)::Po es X.env) zA._auto_1) (hpl:autoParam ((Ra pos (Po es X.env)).any (·.1)=false) zA._auto_1):QD X c (.Call (.Name x p) (e::es) [] pos) (gN (au n F) gs):=by obtain ⟨f,fd,ps,h1,h2,h3,h4⟩:=G;exact ⟨DZ h1 (hr.mono hk) h2 h3 h4 ha.h hT hg hdb he hpl⟩
theorem Eh {F:List S->M R}{gs:G (List R)}(G:gM X.prog X.w X.K X.mg X.base k n x F) (hr:cH k' X.A) (ha:∀pn xe T,jj (tb X pn xe) (c.wT T) (e::es) gs) (hk:autoParam (k<=k') zB._auto_1) (hT:autoParam (c.K=X.K) zA._auto_1) (hg:autoParam (Gl X x) zA._auto_1) (hdb:autoParam ((x == ("__debug__":Str))=false) zB._auto_1)
 (he:autoParam (Po (e::es) X.env=(false,eval e X.env)::Po es X.env) zA._auto_1) (hpl:autoParam ((Ra pos (Po es X.env)).any (·.1)=false) zA._auto_1):Av X c (.Call (.Name x p) (e::es) [] pos) (gN (dY n F) gs):=by obtain ⟨f,fd,ps,h1,h2,h3,h4⟩:=G;exact CB h1 (hr.mono hk) h2 h3 h4 (λpn xe T=>(ha pn xe T).h) hT hg hdb he hpl
theorem rH {gs:G (List D)}(R:wU X.prog X.w X.K X.mg X.base x) (hx:wW X c) (hr:cH k' X.A) (ha:zC X c (e::es) gs) (hk:True:=trivial) (hT:autoParam (c.K=X.K) zA._auto_1) (N8:autoParam (X.calm=true) zA._auto_1) (hg:autoParam (Gl X x) zA._auto_1) (hdb:autoParam ((x == ("__debug__":Str))=false) zB._auto_1)
 (he:autoParam (Po (e::es) X.env=(false,eval e X.env)::Po es X.env) zA._auto_1) (hpl:autoParam ((Ra cpos (Po es X.env)).any (·.1)=false) zA._auto_1):jD X c (.Raise (some (.Call (.Name x p) (e::es) [] cpos)) none pos) (kc x gs):=by obtain ⟨Ca,h1,h3,h4,h6⟩:=R;exact ⟨A1 h1 hg h3 (by rw [hT];exact h4) (by rw [hT];exact h6) hx N8 ha.h hdb he hpl⟩
theorem Ed {t:G O}{p1 p2 p3 pos2 hpos:Pos}(A:qV X.K X.mg L) (hb:Dl X c body t) (hN:X.N.Nodup) (hT:autoParam (c.K=X.K) zA._auto_1)
 (hst:autoParam (X.stack=X.env::X.outer) zA._auto_1) (hfr:autoParam (X.env.frame=some X.env.locals) zA._auto_1) (hg:autoParam (Gl X "PickError") zA._auto_1) (hi:autoParam (X.N[i]?=some n) zA._auto_1) (hj:autoParam (X.N[j]?=some y) zA._auto_1) (hij:autoParam (i≠j) zB._auto_1) (hn:autoParam (X.env.scope.names.lookup n=some .local) zA._auto_1) (hy:autoParam (X.env.scope.names.lookup y=some .local) zA._auto_1)
 (hs:autoParam (Sq (.Name n p2) (some (.Name y p1)) pos2.line X.env=pure false) zA._auto_1) (hd:autoParam ((n == ("__debug__":Str))=false) zB._auto_1) (hcd:autoParam ((n == ("__classdict__":Str))=false) zB._auto_1):
  jD X c (.Try body [.ExceptHandler (some (.Name "PickError" p3)) (some n) [.Assign [.Name y p1] (.Name n p2) pos2] hpos] [] [] pos) (oS i j L t):=by obtain ⟨P,G,hm,hA,_⟩:=A.ex;refine ⟨GP hb (λcls hc C hn=>?_) hm hN hst hfr hg hi hj hij hn hy hs (by decide) hd hcd⟩;obtain ⟨C',h1,h2,_⟩:=hA cls hc;rw [hT] at hn;rw [h1] at hn;cases hn;exact Dr G h2
theorem gG (A:qV X.K X.mg L) (hC:Cs∈L) (h:QD X c a g) (hm:X.mg "isinstance"=none) (hK:autoParam (X.K=c.K) zA._auto_1) (hg:autoParam (Gl X "isinstance") zA._auto_1) (NW:autoParam (Gl X Cs) zA._auto_1) (gr:autoParam ((Cs == ("__debug__":Str))=false) zB._auto_1)
 (he:autoParam (Po [a,.Name Cs p2] X.env=(false,eval a X.env)::Po [.Name Cs p2] X.env) zA._auto_1) (NV:autoParam (Po [.Name Cs p2] X.env=(false,eval (.Name Cs p2) X.env)::Po [] X.env) zA._auto_1)
 (hpl:autoParam ((Ra pos (Po [.Name Cs p2] X.env)).any (·.1)=false) zA._auto_1):QD X c (.Call (.Name "isinstance" p) [a,.Name Cs p2] [] pos) (gR L (λx=>x == Cs) g):=by
 obtain ⟨P,G,hP,hA,hU⟩:=A.ex;obtain ⟨D,d1,d2,d3,d4⟩:=hA Cs hC;obtain ⟨cd,e1,_,_,e2⟩:=xE d2;have s1:(Rw X.K D).isSome=true:=by rw [e1];rfl
 refine ⟨Ci d3 (zV s1 e2) (λcls hc C hn=>?_) h.h hm hK hg NW gr he NV hpl⟩;obtain ⟨C',h1,h2,_⟩:=hA cls hc;rw [h1] at hn;cases hn;refine ⟨P,G,h2,(zW h2 s1 e2).trans ?_⟩;have pd:(P == D)=false:=by simpa using QC d4
 rw [pd,XY];by_cases q:cls=Cs
 ·subst q;rw [h1] at d1;cases d1;simp
 ·have:C≠D:=λz=>q (hU cls hc Cs hC C h1 (z▸d1));rw [beq_eq_false_iff_ne.mpr this,beq_eq_false_iff_ne.mpr q]
theorem G7 {p p2:Pos}(A:qV X.K X.mg L) (h:QD X c a g) (hm:X.mg "isinstance"=none) (hK:autoParam (X.K=c.K) zA._auto_1) (hg:autoParam (Gl X "isinstance") zA._auto_1) (NW:autoParam (Gl X "PickError") zA._auto_1)
  (he:autoParam (Po [a,.Name "PickError" p2] X.env=(false,eval a X.env)::Po [.Name "PickError" p2] X.env) zA._auto_1) (NV:autoParam (Po [.Name "PickError" p2] X.env=(false,eval (.Name "PickError" p2) X.env)::Po [] X.env) zA._auto_1)
  (hpl:autoParam ((Ra pos (Po [.Name "PickError" p2] X.env)).any (·.1)=false) zA._auto_1):QD X c (.Call (.Name "isinstance" p) [a,.Name "PickError" p2] [] pos) (gR L (λ_=>true) g):=by obtain ⟨P,G,hP,hA,hU⟩:=A.ex;obtain ⟨s1,e2⟩:=L7 G;refine ⟨Ci hP (zV s1 e2) (λcls hc C hn=>?_) h.h hm hK hg NW (by decide) he NV hpl⟩;obtain ⟨C',h1,h2,_⟩:=hA cls hc;rw [h1] at hn;cases hn;exact ⟨P,G,h2,(zW h2 s1 e2).trans (by simp)⟩
theorem G8 (A:qV X.K X.mg L) (h:QD X c a g) (mT:X.mg "ValueError"=none) (hm:X.mg "isinstance"=none) (hK:autoParam (X.K=c.K) zA._auto_1) (hg:autoParam (Gl X "isinstance") zA._auto_1) (NW:autoParam (Gl X "ValueError") zA._auto_1)
 (he:autoParam (Po [a,.Name "ValueError" p2] X.env=(false,eval a X.env)::Po [.Name "ValueError" p2] X.env) zA._auto_1) (NV:autoParam (Po [.Name "ValueError" p2] X.env=(false,eval (.Name "ValueError" p2) X.env)::Po [] X.env) zA._auto_1)
 (hpl:autoParam ((Ra pos (Po [.Name "ValueError" p2] X.env)).any (·.1)=false) zA._auto_1):QD X c (.Call (.Name "isinstance" p) [a,.Name "ValueError" p2] [] pos) (gR L (λ_=>true) g):=by obtain ⟨P,G,hP,hA,hU⟩:=A.ex;refine ⟨JF (λcls hc C hn=>?_) h.h mT hm hK hg NW he NV hpl⟩;obtain ⟨C',h1,h2,_⟩:=hA cls hc;rw [h1] at hn;cases hn;exact ⟨P,G,h2⟩
end
noncomputable abbrev XL:List Str:=["NoWorld","NoTongue","NoSaying","NoMore","NoName","NoLetter","TooMany","NoCount","NoPoint","NoRow"]
section
variable {K:Pe}{mg:Str->Option Ph}{P C N:PK}{nm q:Str}{bs:List Ph}{sn:List Str}{sub:List Ph}{ab:Bool}{col:Option Bool}{dd:Option PK}{k0 k1 k2 k3 k5:Option Ph}
theorem Bg (l:K.lookup C=some (Rr nm q C N bs (.ref P::jQ) true sn sub ab col dd k0 k1 k2 k3 k5 "ValueError.__new__")) (g:Q3 K (.ref C) "__getattribute__"=some (some (.builtin "BaseException.__getattribute__"))) (h:Q3 K (.ref C) "__getattr__"=some none)
  (k:Q3 K (.ref C) "__class__"=some (some (.builtin "object.__class__"))):XE K P C:=⟨⟨nm,q,N,bs,sn,sub,ab,col,dd,k0,k1,k2,k3,k5,l⟩,g,h,k⟩
theorem KN (l:K.lookup P=some (Rr nm q P N bs jQ true sn sub ab col dd k0 k1 k2 k3 k5 "ValueError.__new__")) (ln:K.lookup N=some ⟨c,d,.dict es ep,sl⟩) (hs:A9 es=true) (hq:(quiet.all λn=>(nsFind es n).isNone)=true)
 (gt:UJ K (.builtin "object.__class__") "__get__"=some (some (.builtin "getset_descriptor.__get__"))) (tk:Vk K (.builtin "object.__class__")=some true):GX K P:=
 ⟨gt,tk,nm,q,N,bs,sn,sub,ab,col,dd,k0,k1,k2,k3,k5,l,λh X=>⟨_,E9 ln hs X,λn hn=>Option.isNone_iff_eq_none.mp (PF.mp hq n hn)⟩⟩
theorem vd:∀{ps:List (Str×PK)}{a b:Str}{C:PK},(ps.map (·.2)).Nodup->(a,C)∈ps->(b,C)∈ps->a=b
 | [],_,_,_,_,h,_=>by cases h
 | p::ps,a,b,C,nd,h1,h2=>by
  rw [Qh,RQ] at nd;have no:∀x,(x,C)∈ps->p.2≠C:=λx hx z=>nd.1 (z▸Pn.mpr ⟨_,hx,rfl⟩);rcases Pp.mp h1 with e1 | h1 <;> rcases Pp.mp h2 with e2 | h2
  ·rw [<-e1] at e2;exact (congrArg (·.1) e2).symm
  ·exact absurd (by rw [<-e1]) (no b h2)
  ·exact absurd (by rw [<-e2]) (no a h1)
  ·exact vd nd.2 h1 h2
theorem HR (G:GX K P) (hm:mg "PickError"=some (.ref P)){ps:List (Str×PK)}(h:∀p∈ps,PR K Pz p.1=some (some (.ref p.2))/\XE K P p.2/\mg p.1=some (.ref p.2)) (nd:(P::ps.map (·.2)).Nodup):qV K mg (ps.map (·.1)):=by
 rw [RQ] at nd;refine ⟨P,G,hm,λcls hc=>?_,λc1 h1 c2 h2 C n1 n2=>?_⟩
 ·obtain ⟨p,hp,rfl⟩:=Pn.mp hc;obtain ⟨a,b,c⟩:=h p hp;exact ⟨p.2,a,b,c,λz=>nd.1 (z▸Pn.mpr ⟨p,hp,rfl⟩)⟩
 ·obtain ⟨p1,hp1,rfl⟩:=Pn.mp h1;obtain ⟨p2,hp2,rfl⟩:=Pn.mp h2;have a1:=(h p1 hp1).1;have a2:=(h p2 hp2).1;rw [n1] at a1;rw [n2] at a2;cases V1 (P7 (P7 a1));have e:p1.2=p2.2:=V1 (P7 (P7 a2));exact vd nd.2 (C:=p1.2) hp1 (e▸hp2)
theorem Ho (G:GX K P) (E:XE K P C) (hx:mg x=some (.ref C)) (nx:PR K Pz x=some (some (.ref C)))
 (l:K.lookup C=some (Rr nm q C N bs (.ref P::jQ) true sn sub ab col dd k0 k1 k2 k3 k5 "ValueError.__new__")) (ln:K.lookup N=some ⟨c,d,.dict es ep,sl⟩) (hs:A9 es=true) (hi:nsFind es "__init__"=none) (kp:QN K (.ref C)=true):wU Pg w K mg base x:=
 ⟨C,⟨⟨nm,q,N,bs,_,true,sn,sub,ab,col,dd,k0,k1,k2,k3,k5,_,"ValueError","ValueError.__init__",jQ,"ValueError","ValueError.__new__","ValueError.__init__",jQ,l,Um,by decide,Um,by simp,λh X=>⟨(HG G h X).old (by decide),_,E9 ln hs X,hi⟩⟩,kp⟩,hx,nx,P,G,E⟩
end
end DL
namespace K01
open PySem DL
noncomputable def uQ:List Str:=["thing"]
noncomputable def u7:G O:=(aE (aO (br "int" (aa 0)) (aS (br "bool" (aa 0)))))
noncomputable def iP (as:List S):M R:=fin (u7 (ay uQ as))
noncomputable def kD:List Str:=["thing"]
noncomputable def ri:G O:=(aq (aJ (bu (aP (aK (br "str" (aa 0)))) (bu (aK (g2 (bz λi j=>.bl (decide (i < j))) (gN dz (ah (aa 0) ak)) (gC (.int 2)))) (aK (g2 (bz λi j=>.bl (decide (j < i))) (gN dz (ah (aa 0) ak)) (gC (.int 8)))))) (aE (gC (.bl false))) aU)
 (aE (aO (g2 (gQ true) (aa 0) (gC (.tup [(.str "and"),(.str "or"),(.str "not"),(.str "some"),(.str "every"),(.str "least"),(.str "true"),(.str "false")]))) (gN eV (ah (bC 1 [] (uA (aa 0)) (aF 0) dc (g2 (ju false) (aa 0) (gC (.str "abcdefghijklmnopqrstuvwxyz")))) ak)))))
noncomputable def kB (as:List S):M R:=fin (ri (ay kD as))
noncomputable def oJ:List Str:=["thing","many"]
noncomputable def oY:G O:=(aE (aO (gN (au 1 iP) (ah (aa 0) ak)) (IS (λi j=>decide (i<=j)) (λi j=>decide (i < j)) (gC (.int 0)) (aa 0) (aa 1))))
noncomputable def fU (as:List S):M R:=fin (oY (ay oJ as))
noncomputable def mR:List Str:=["thing","many"]
noncomputable def m_:G O:=(aq (aJ (bu (aP (aK (br "tuple" (aa 0)))) (aK (g2 (cJ true) (gN dz (ah (aa 0) ak)) (gC (.int 2))))) (aE (gC (.bl false))) aU)
 (aE (aO (gN (au 2 fU) (ah (g2 bP (aa 0) (gC (.int 0))) (ah (aa 1) ak))) (gN (au 2 fU) (ah (g2 bP (aa 0) (gC (.int 1))) (ah (aa 1) ak))))))
noncomputable def iI (as:List S):M R:=fin (m_ (ay mR as))
noncomputable def v9:List Str:=["things"]
noncomputable def wz:G O:=(aE (gN eV (ah (bC 2 [] (AM (ah (aa 0) (ah (dw eZ (aa 0) (dM (gC (.int 1))) dZ) ak))) (cS 2 (bq (aF 0) (bq (aF 1) cK))) dc (g2 q9 (aa 0) (aa 1))) ak)))
noncomputable def iZ (as:List S):M R:=fin (wz (ay v9 as))
noncomputable def lD:List Str:=["thing","many"]
noncomputable def lM:G O:=(aq (aJ (aP (aK (br "tuple" (aa 0)))) (aE (gC (.bl false))) aU)
 (aE (aO (gN eV (ah (bC 1 [1] (iM (aa 0)) (aF 0) dc (gN (au 2 fU) (ah (aa 0) (ah (aa 1) ak)))) ak)) (gN (au 1 iZ) (ah (aa 0) ak)))))
noncomputable def gE (as:List S):M R:=fin (lM (ay lD as))
noncomputable def mQ:List Str:=["thing","many"]
noncomputable def m9:G O:=(aq (aJ (aP (aK (br "tuple" (aa 0)))) (aE (gC (.bl false))) aU)
 (aE (aO (gN eV (ah (bC 1 [1] (iM (aa 0)) (aF 0) dc (gN (au 2 iI) (ah (aa 0) (ah (aa 1) ak)))) ak)) (gN (au 1 iZ) (ah (aa 0) ak)))))
noncomputable def gX (as:List S):M R:=fin (m9 (ay mQ as))
noncomputable def k7:List Str:=["thing"]
noncomputable def k9:G O:=(aE (aO (br "tuple" (aa 0)) (aO (g2 (cJ false) (gN dz (ah (aa 0) ak)) (gC (.int 2))) (gN (au 1 kB) (ah (g2 bP (aa 0) (gC (.int 0))) ak)))))
noncomputable def gP (as:List S):M R:=fin (k9 (ay k7 as))
noncomputable def i0:List Str:=["thing"]
noncomputable def jb:G O:=(aq (aJ (bu (aP (aK (br "tuple" (aa 0)))) (aK (g2 (bz λi j=>.bl (decide (j < i))) (gN dz (ah (aa 0) ak)) (gC (.int 3))))) (aE (gC (.bl false))) aU)
 (aE (aO (gN eV (ah (bC 1 [] (iM (aa 0)) (aF 0) dc (gN (au 1 gP) (ah (aa 0) ak))) ak)) (gN (au 1 iZ) (ah (bC 1 [] (iM (aa 0)) (aF 0) dc (g2 bP (aa 0) (gC (.int 0)))) ak)))))
noncomputable def fS (as:List S):M R:=fin (jb (ay i0 as))
noncomputable def fj:List Str:=["thing","many","marks","arrows"]
noncomputable def fm:G O:=(aq (aJ (bu (aP (aK (br "tuple" (aa 0)))) (aK (g2 (cJ true) (gN dz (ah (aa 0) ak)) (gC (.int 3))))) (aE (gC (.bl false))) aU)
 (aq (iL (cS 3 (bq (aF 1) (bq (aF 2) (bq (aF 3) cK)))) (aa 0))
 (aq (aJ (bu (aP (aK (gN (au 1 iP) (ah (aa 1) ak)))) (bu (aK (g2 (bz λi j=>.bl (decide (i < j))) (aa 1) (gC (.int 1)))) (aK (g2 (bz λi j=>.bl (decide (j < i))) (aa 1) (gC (.int 8)))))) (aE (gC (.bl false))) aU)
 (aq (aJ (bu (aP (aK (gN (au 1 fS) (ah (aa 2) ak)))) (aP (aK (gN (au 1 fS) (ah (aa 3) ak))))) (aE (gC (.bl false))) aU)
 (aq (aJ (aP (aK (gN eV (ah (bC 2 [1] (iM (aa 2)) (cS 2 (bq (aF 0) (bq (aF 1) cK))) dc (gN (au 2 gE) (ah (aa 1) (ah (aa 2) ak)))) ak)))) (aE (gC (.bl false))) aU)
 (aE (gN eV (ah (bC 2 [1] (iM (aa 3)) (cS 2 (bq (aF 0) (bq (aF 1) cK))) dc (gN (au 2 gX) (ah (aa 1) (ah (aa 2) ak)))) ak))))))))
noncomputable def cF (as:List S):M R:=fin (fm (ay fj as))
noncomputable def jT:List Str:=["_law_script","_law_k"]
noncomputable def m6:G O:=(aq (aJ (aK (g2 (bz λi j=>.bl (decide (i < j))) (aa 1) (gN dz (ah (aa 0) ak)))) (aE (g2 cQ (g2 bP (aa 0) (aa 1)) (g2 lH (gC (.int 2)) (gC (.int 64))))) aU)
 (aE (gC (.int 0))))
noncomputable def dO (as:List S):M R:=fin (m6 (ay jT as))
noncomputable def qt:List Str:=["_law_cell_here","_law_many","_law_number","_law_base","_law_size","_law_words","_law_first","_law_signs","_law_at","_law_found","_law_k","_law_sign"]
noncomputable def lI:G O:=(aq (aG 2 (g2 cQ (g2 c8 (aa 0) (gC (.int 7129))) (gC (.int 1000033))))
 (aq (aG 3 (g2 bP (gC (.str "bcdfg")) (g2 cQ (aa 2) (gC (.int 5)))))
 (aq (aG 4 (g2 cB (gC (.int 2)) (g2 cQ (g2 fE (aa 2) (gC (.int 5))) (gC (.int 7)))))
 (aq (aJ (aK (g2 (cJ false) (g2 cQ (g2 fE (aa 2) (gC (.int 35))) (gC (.int 4))) (gC (.int 1)))) (aE (bC 1 [3] (dJ (ah (aa 1) ak)) (aF 0) dc (g2 c8 (aa 1) (g2 cB (gC (.int 2)) (aa 0))))) aU)
 (aq (aJ (aK (g2 (cJ false) (g2 cQ (g2 fE (aa 2) (gC (.int 35))) (gC (.int 4))) (gC (.int 2)))) (aq (aG 5 (cT (aj (gC (.str "and")) (aj (gC (.str "or")) (aj (gC (.str "not")) (aj (gC (.str "some")) (aj (gC (.str "every")) (aj (gC (.str "least")) (aj (gC (.str "true")) (aj (gC (.str "false")) aC))))))))))
 (aq (aG 6 (g2 cQ (g2 fE (aa 2) (gC (.int 140))) (gC (.int 8))))
 (aq (aG 7 (gC (.str "abcdefghijklmnopqrstuvwxyz")))
 (aE (gN j_ (ah (bC 1 [5,6,7,2] (dJ (ah (aa 1) ak)) (aF 0) dc (g2 cB (g2 bP (g2 cB (aa 1) (aa 1)) (g2 cB (aa 2) (aa 0))) (g2 bP (aa 3) (g2 cQ (g2 fE (aa 4) (gC (.int 1120))) (gC (.int 26)))))) ak)))))) aU)
 (aq (aG 8 (g2 cQ (g2 fE (aa 2) (gC (.int 105))) (aa 4)))
 (aq (aG 9 (cT aC))
 (aq (gI (dJ (ah (aa 1) ak)) (aF 10) (aq (aG 11 (g2 bP (gC (.str "abcdefghijklmnopqrstuvwxyz")) (g2 cQ (g2 cB (g2 fE (aa 2) (gC (.int 840))) (g2 c8 (gC (.int 5)) (aa 10))) (gC (.int 26)))))
 (dW 9 (g2 cB (g2 cB (g2 c8 (aa 3) (aa 8)) (aa 11)) (g2 c8 (aa 3) (g2 oQ (g2 oQ (aa 4) (gC (.int 1))) (aa 8)))))))
 (aE (gN j_ (ah (aa 9) ak)))))))))))
noncomputable def f6 (as:List S):M R:=fin (lI (ay qt as))
noncomputable def Ao:List Str:=["_law_bits","_law_many","_law_found","_law_point_here"]
noncomputable def m7:G O:=(aq (aG 2 (cT aC))
 (aq (gI (dJ (ah (aa 1) ak)) (aF 3) (aq (aJ (aK (g2 (cJ false) (g2 cQ (aa 0) (gC (.int 2))) (gC (.int 1)))) (dW 2 (aa 3)) aU)
 (aG 0 (g2 fE (aa 0) (gC (.int 2))))))
 (aE (gN eH (ah (aa 2) ak)))))
noncomputable def gW (as:List S):M R:=fin (m7 (ay Ao as))
noncomputable def qu:List Str:=["_law_bits","_law_many","_law_found","_law_one","_law_other"]
noncomputable def lJ:G O:=(aq (aG 2 (cT aC))
 (aq (gI (dJ (ah (aa 1) ak)) (aF 3) (gI (dJ (ah (aa 1) ak)) (aF 4) (aq (aJ (aK (g2 (cJ false) (g2 cQ (aa 0) (gC (.int 2))) (gC (.int 1)))) (dW 2 (c9 (aj (aa 3) (aj (aa 4) aC)))) aU)
 (aG 0 (g2 fE (aa 0) (gC (.int 2)))))))
 (aE (gN eH (ah (aa 2) ak)))))
noncomputable def gD (as:List S):M R:=fin (lJ (ay qu as))
noncomputable def oF:List Str:=["_law_cell_here","_law_names_here","_law_number","_law_first"]
noncomputable def kL:G O:=(aq (aG 1 (gN (au 2 f6) (ah (aa 0) (ah (gC (.int 6)) ak))))
 (aq (aG 2 (g2 cQ (g2 c8 (aa 0) (gC (.int 523))) (gC (.int 10007))))
 (aq (aG 3 (g2 cQ (g2 fE (aa 2) (gC (.int 16))) (gC (.int 3))))
 (aE (c9 (aj (gN eH (ah (dw eZ (aa 1) dZ (dM (g2 cQ (aa 2) (gC (.int 4))))) ak)) (aj (gN eH (ah (dw eZ (aa 1) (dM (aa 3)) (dM (g2 cB (aa 3) (g2 cQ (g2 fE (aa 2) (gC (.int 4))) (gC (.int 4)))))) ak)) aC)))))))
noncomputable def gO (as:List S):M R:=fin (kL (ay oF as))
noncomputable def qv:List Str:=["_law_script","_law_at","_law_many","_law_tongue_here","_law_marks","_law_k","_law_arrows","_law_bits"]
noncomputable def lK:G O:=(aq (aG 4 (cT aC))
 (aq (gI (dJ (ah (gN dz (ah (g2 bP (aa 3) (gC (.int 0))) ak)) ak)) (aF 5) (dW 4 (c9 (aj (g2 bP (g2 bP (aa 3) (gC (.int 0))) (aa 5)) (aj (gN (au 2 gW) (ah (g2 cQ (g2 c8 (gN (au 2 dO) (ah (aa 0) (ah (g2 cB (aa 1) (aa 5)) ak))) (gC (.int 167))) (g2 lH (gC (.int 2)) (gC (.int 8)))) (ah (aa 2) ak))) aC)))))
 (aq (aG 6 (cT aC))
 (aq (gI (dJ (ah (gN dz (ah (g2 bP (aa 3) (gC (.int 1))) ak)) ak)) (aF 5) (aq (aG 7 (g2 cQ (g2 c8 (gN (au 2 dO) (ah (aa 0) (ah (g2 cB (g2 cB (aa 1) (gC (.int 3))) (aa 5)) ak))) (gC (.int 11400714819323198485))) (g2 lH (gC (.int 2)) (gC (.int 64)))))
 (dW 6 (c9 (aj (g2 bP (g2 bP (aa 3) (gC (.int 1))) (aa 5)) (aj (gN (au 2 gD) (ah (aa 7) (ah (aa 2) ak))) aC))))))
 (aE (c9 (aj (aa 2) (aj (gN eH (ah (aa 4) ak)) (aj (gN eH (ah (aa 6) ak)) aC)))))))))
noncomputable def f7 (as:List S):M R:=fin (lK (ay qv as))
theorem gS (h:n<=1000):n<=sizeLine:=P6 h (by decide)
noncomputable def yX:D->Bool
 | .int _=>true
 | _=>false
noncomputable def ic (m:Int):D->Bool
 | .int i=>decide (0<=i) && decide (i < m)
 | _=>false
noncomputable def iz (m:Int):D->Bool
 | .tup [a,b]=>ic m a && ic m b
 | _=>false
noncomputable def nj (k:Nat):Bool:=!(QT "abcdefghijklmnopqrstuvwxyz" ⟨#[k]⟩ 0 (T6 "abcdefghijklmnopqrstuvwxyz") 1).isEmpty
noncomputable def words:List D:=[.str "and",.str "or",.str "not",.str "some",.str "every",.str "least",.str "true",.str "false"]
noncomputable def fY (x:Str):Bool:=decide (2<=x.length) && (decide (x.length<=8) && (!inD (.str x) words && x.cps.toList.all nj))
noncomputable def yc:D->Bool
 | .str x=>fY x
 | _=>false
noncomputable def ltB:D->D->Bool
 | .int i,.int j=>decide (i < j)
 | .str i,.str j=>decide (i.cps.toList < j.cps.toList)
 | .tup xs,.tup ys=>match intsOf xs,intsOf ys with
  | some ns,some ms=>HT.lexLt ns ms
  | _,_=>false
 | _,_=>false
noncomputable def gj (xs:List D):Bool:=(Rg (λa b=>ltB a b) xs (xs.drop 1)).all id
noncomputable def jM:D->D
 | .tup (a::_)=>a
 | _=>.non
noncomputable def iO:D->D
 | .tup [_,b]=>b
 | _=>.non
theorem lW {ge:G R}{f:D->D}(tl:Ev):∀(ds:List D) (x:Option S),(∀d∈ds,ge (some (.d d)::tl)=.ok (.d (f d)))->dR (aF 0) dc ge ds (x::tl)=.ok (ds.map f)
 | [],_,_=>rfl
 | d::r,x,h=>by have ih:=lW tl r (some (.d d)) λe he=>h e (Py _ he);unfold dR;simp only [aF,V9,aY,dc,if_true,h d P0,toD];rw [ih];rfl
theorem xF {ge:G R}{f:D->D}(tl:Ev):∀(ds:List D) (x y:Option S),(∀d∈ds,∃a b,d=.tup [a,b]/\ge (some (.d a)::some (.d b)::tl)=.ok (.d (f d)))->dR (cS 2 (bq (aF 0) (bq (aF 1) cK))) dc ge ds (x::y::tl)=.ok (ds.map f)
 | [],_,_,_=>rfl
 | d::r,x,y,h=>by obtain ⟨a,b,rfl,h1⟩:=h d P0;have ih:=xF tl r (some (.d a)) (some (.d b)) λe he=>h e (Py _ he);unfold dR;simp only [cS,bq,cK,aF,P4,RS,if_true,V9,List.set_cons_succ,aY,dc,h1,toD];rw [ih];rfl
theorem zI (f:D->Bool):∀(ds:List D),mV (ds.map λd=>.bl (f d))=some (ds.map f)
 | []=>rfl
 | d::r=>by simp only [Qh,mV,zI f r];rfl
theorem all_map (f:D->Bool) (ds:List D):eV [.l .fresh (ds.map λd=>.bl (f d))]=.ok (.d (.bl (ds.all f))):=by unfold eV;simp only [jk,aY,zI];congr 3;simp [SY]
theorem j4 (d:D):iP [.d d]=.ok (.d (.bl (yX d))):=by cases d <;> rfl
theorem zv (d:D) (m:Int):fU [.d d,.d (.int m)]=.ok (.d (.bl (ic m d))):=by
 unfold fU oY;simp only [aE,aO,gN,ah,ak,aa,ay,oJ,Qh,R0,P4,RS,List.cons_append,Te,Tf,S.rd,aY,au,if_true,bh,j4,bA];cases d <;> try rfl
 rename_i i;simp only [yX,IS,gC,aa,aY,Te,Tf,S.rd];by_cases h:0<=i
 ·simp [h,rF,fin,ic]
 ·simp [h,rF,fin,ic]
theorem ue {α:Type}{xs:List α}{k:Nat}{x:α}(h:xs[k]?=some x):L2.lV xs (k:Int)=some x:=by have hk:k < xs.length:=(Qd.mp h).1;unfold L2.lV L2.xT;rw [if_pos (by omega),if_pos (by omega)];simpa using h
theorem j6 {xs:List D}{k:Nat}{x:D}(h:xs[k]?=some x):bP (.d (.tup xs)) (.d (.int k))=.ok (.d x):=by unfold bP;simp only [jE,aY,ue h]
theorem p5 {m:Md}{xs:List D}{k:Nat}{x:D}(h:xs[k]?=some x):bP (.l m xs) (.d (.int k))=.ok (.d x):=by unfold bP;simp only [jE,aY,ue h]
theorem uv {z:Str}{k:Nat}{c:Nat}(hz:z.length<=1000) (h:z.cps.toList[k]?=some c):bP (.d (.str z)) (.d (.int k))=.ok (.d (.str ⟨#[c]⟩)):=by unfold bP;simp only [gS hz,if_true,ue h]
theorem aL (xs:List D):dz [.d (.tup xs)]=.ok (.d (.int xs.length)):=rfl
theorem eq_int (neg:Bool) (i j:Int):cJ neg (.d (.int i)) (.d (.int j))=.ok (.d (.bl (if neg then !(i == j) else i == j))):=rfl
theorem bJ (a:D) (r:List D):bP (.d (.tup (a::r))) (.d (.int 0))=.ok (.d a):=j6 (k:=0) rfl
theorem bK (a b:D) (r:List D):bP (.d (.tup (a::b::r))) (.d (.int 1))=.ok (.d b):=j6 (k:=1) rfl
theorem bL (a b c:D) (r:List D):bP (.d (.tup (a::b::c::r))) (.d (.int 2))=.ok (.d c):=j6 (k:=2) rfl
theorem HY (d:D) (m:Int):iI [.d d,.d (.int m)]=.ok (.d (.bl (iz m d))):=by
 cases d with
 | tup xs=>
  match xs with
  | []=>rfl
  | [a]=>rfl
  | [a,b]=>
   simp [aq,aJ,bu,bf,aP,aK,br,aa,ay,S.rd,R.dat,bD,bg,g2,gN,ah,ak,gC,aU,aE,aO,aS,au,bh,bA,rF,fin,bz,aL,eq_int,aj,aC,toD,toS,aG,bJ,bK,bL,iI,m_,mR,zv];cases h:ic m a <;> simp [aq,aJ,bu,bf,aP,aK,br,aa,ay,S.rd,R.dat,bD,bg,g2,gN,ah,ak,gC,aU,aE,aO,aS,au,bh,bA,rF,fin,bz,aL,eq_int,aj,aC,toD,toS,aG,bJ,bK,bL,h,iz]
  | a::b::c::r=>
   have e:¬((r.length:Int) + 1 + 1 + 1=2):=by omega
   simp [aq,aJ,bu,bf,aP,aK,br,aa,ay,S.rd,R.dat,bD,bg,g2,gN,ah,ak,gC,aU,aE,aO,aS,au,bh,bA,rF,fin,bz,aL,eq_int,aj,aC,toD,toS,aG,bJ,bK,bL,iI,m_,mR,e,iz]
 | _=>rfl
theorem Mw (x:Str):(signs x).map (λd=>D.bl (match d with | .str y=>!(QT "abcdefghijklmnopqrstuvwxyz" y 0 (T6 "abcdefghijklmnopqrstuvwxyz") 1).isEmpty | _=>false))=(signs x).map (λd=>D.bl (match d with | .str y=>!(QT "abcdefghijklmnopqrstuvwxyz" y 0 (T6 "abcdefghijklmnopqrstuvwxyz") 1).isEmpty | _=>false)):=rfl
noncomputable def yp:D->Bool
 | .str y=>!(QT "abcdefghijklmnopqrstuvwxyz" y 0 (T6 "abcdefghijklmnopqrstuvwxyz") 1).isEmpty
 | _=>false
theorem CK (x:Str):(signs x).all yp=x.cps.toList.all nj:=by unfold signs;rw [SY];rfl
theorem notin_words (x:Str):gQ true (.d (.str x)) (.d (.tup words))=.ok (.d (.bl (!inD (.str x) words))):=rfl
theorem in_words (x:Str):gQ false (.d (.str x)) (.d (.tup words))=.ok (.d (.bl (inD (.str x) words))):=rfl
noncomputable def kC (xs:List D):Prop:=∀a∈xs,∀b∈xs,q9 (.d a) (.d b)=.ok (.d (.bl (ltB a b)))
theorem uu (xs:List D):cutD xs (some 1) none=xs.drop 1:=by
 unfold cutD HT.bM;simp only;rw [if_neg (by decide)];cases xs with
 | nil=>rfl
 | cons x r=>simp
theorem K6 {m:Int}{xs:List D}(h:xs.all (ic m)=true):kC xs:=λa ha b hb=>by
 have h1:=PF.mp h a ha;have h2:=PF.mp h b hb;cases a <;> first | cases h1 | skip
 cases b <;> first | cases h2 | skip
 rfl
theorem yt {m:Int}{d:D}(h:iz m d=true):∃i j,d=.tup [.int i,.int j]:=by
 unfold iz at h;split at h
 ·rw [Pr] at h;rename_i a b;cases a <;> first | cases h.1 | skip
  cases b <;> first | cases h.2 | skip
  exact ⟨_,_,rfl⟩
 ·cases h
theorem K5 {m:Int}{xs:List D}(h:xs.all (iz m)=true):kC xs:=λa ha b hb=>by obtain ⟨i,j,rfl⟩:=yt (PF.mp h a ha);obtain ⟨k,l,rfl⟩:=yt (PF.mp h b hb);rfl
theorem K4 {xs:List D}(h:xs.all yc=true):kC xs:=λa ha b hb=>by
 have h1:=PF.mp h a ha;have h2:=PF.mp h b hb;cases a <;> first | cases h1 | skip
 cases b <;> first | cases h2 | skip
 rfl
noncomputable def gJ (g:D->Bool):D->Bool
 | .tup xs=>xs.all g && gj xs
 | _=>false
noncomputable def mz:D->Bool
 | .tup [a,_]=>yc a
 | _=>false
theorem rB {d:D}(h:mz d=true):∃x b,d=.tup [.str x,b]/\fY x=true:=by
 unfold mz at h;split at h
 ·rename_i a b;cases a <;> first | cases h | skip
  exact ⟨_,_,rfl,h⟩
 ·cases h
noncomputable def jP:D->Bool
 | .tup xs=>decide (xs.length<=3) && (xs.all mz && gj (xs.map jM))
 | _=>false
theorem F8 {xs:List D}(h:xs.all mz=true):(xs.map jM).all yc=true:=by rw [SY,PF];intro d hd;obtain ⟨x,b,rfl,q⟩:=rB (PF.mp h d hd);exact q
noncomputable def Kp:D->List D
 | .tup xs=>xs
 | _=>[]
noncomputable def mK:D->Bool
 | .tup [.int m,a,b]=>decide (1<=m) && (decide (m<=8) && (jP a && (jP b && ((Kp a).all (λd=>gJ (ic m) (iO d)) && (Kp b).all (λd=>gJ (iz m) (iO d))))))
 | _=>false
theorem wY {d:D}(h:jP d=true):∃xs,d=.tup xs/\xs.all mz=true:=by
 unfold jP at h;split at h
 ·rw [Pr,Pr] at h;exact ⟨_,rfl,h.2.1⟩
 ·cases h
theorem getD_at {xs:List D}{k:Nat}(h:k < xs.length):xs[k]?=some (xs.getD k .non):=by rw [Qa,PV h];rfl
theorem getD_mem {xs:List D}{k:Nat}(h:k < xs.length):xs.getD k .non∈xs:=by rw [Qa,PV h];exact Qz _
theorem Ms (n:Nat) (h:n<=1000):below 4611686018427387904 (n:Int)=true:=cO.mpr ⟨by omega,by omega⟩
noncomputable def Fx (j:Int):M (List D):=if below 4611686018427387904 j then .ok (eg 0 j.toNat) else .bad
theorem CH (j:Int) (h:below 4611686018427387904 j=true):Fx j=.ok (eg 0 j.toNat):=by unfold Fx;exact if_pos h
theorem CG {gs:G (List R)}(hg:gs env=.ok [.d (.int j)]):dJ gs env=Fx j:=by unfold dJ Fx;rw [hg];rfl
theorem Eo {gs:G (List R)}{env:Ev}{n:Nat}(hg:gs env=.ok [.d (.int (n:Int))]) (h:n<=1000):dJ gs env=.ok (eg 0 n):=by rw [CG hg,CH _ (Ms n h)];exact congrArg (λk=>M.ok (eg 0 k)) (SD n)
theorem cC {t u:G O}(h:t env=.ok (.nx e)):aq t u env=u e:=by unfold aq;rw [h];rfl
theorem CJ {t u:G O}(h:t env=.ok (.rt r)):aq t u env=.ok (.rt r):=by unfold aq;rw [h];rfl
theorem kK {g:G (List D)}{u:G O}(h:g env=.ok ds):gI g t u env=eu t u ds env:=by unfold gI;rw [h];rfl
theorem jK (i j:Int):cB (.d (.int i)) (.d (.int j))=.ok (.d (.int (i + j))):=rfl
theorem LB (i j:Int):oQ (.d (.int i)) (.d (.int j))=.ok (.d (.int (i - j))):=rfl
theorem pZ {C:Int->Int->Bool}{f:Int->Int->D}(h:C i j=true):fI C f (.d (.int i)) (.d (.int j))=.ok (.d (f i j)):=by show (if C i j=true then M.ok (R.d (f i j)) else M.bad)=_;rw [if_pos h]
theorem mH (i j:Int) (h1:-(2 ^ 64) < j) (h2:j < 2 ^ 64):c8 (.d (.int i)) (.d (.int j))=.ok (.d (.int (i * j))):=pZ (C:=rq) (f:=λi j=>.int (i * j)) (by unfold rq;rw [RB];exact TX (cO.mpr ⟨h1,h2⟩))
theorem yQ (i j:Int) (h1:-(2 ^ 64) < i) (h2:i < 2 ^ 64):c8 (.d (.int i)) (.d (.int j))=.ok (.d (.int (i * j))):=pZ (C:=rq) (f:=λi j=>.int (i * j)) (by unfold rq;rw [RB];exact UZ (cO.mpr ⟨h1,h2⟩))
theorem fh (i j:Int) (h1:0 < j) (h2:j < 1073741824):fE (.d (.int i)) (.d (.int j))=.ok (.d (.int (i / j))):=pZ (by
 unfold AR;rw [Pr];exact ⟨decide_eq_true h1,cO.mpr ⟨by omega,h2⟩⟩)
theorem cW (i j:Int) (h1:0 < j):cQ (.d (.int i)) (.d (.int j))=.ok (.d (.int (i % j))):=pZ (decide_eq_true h1)
theorem Ah:lH (.d (.int 2)) (.d (.int 64))=.ok (.d (.int 18446744073709551616)):=pZ (by decide)
theorem Ko:lH (.d (.int 2)) (.d (.int 8))=.ok (.d (.int 256)):=pZ (by decide)
theorem Bd (x y:Str) (h:x.length + y.length<=1000):cB (.d (.str x)) (.d (.str y))=.ok (.d (.str (x++y))):=by show (if x.length + y.length<=sizeLine then M.ok (R.d (D.str (x++y))) else M.bad)=_;rw [if_pos (gS h)]
theorem Bc (x:Str) (n:Int) (h0:0<=n) (h:n<=1000) (hx:x.length<=1000):c8 (.d (.str x)) (.d (.int n))=.ok (.d (.str (gf x n.toNat))):=by show (if 0<=n/\n<=1000/\x.length<=1000 then M.ok (R.d (D.str (gf x n.toNat))) else M.bad)=_;rw [if_pos ⟨h0,h,hx⟩]
noncomputable def Iq:Str:="abcdefghijklmnopqrstuvwxyz"
theorem Ir:∀k:Fin 26,Iq.cps.toList[k.val]?=some (97 + k.val):=by decide +kernel
theorem F5:Iq.length<=1000:=by decide +kernel
theorem BV (i:Int) (h0:0<=i) (h:i < 26):bP (.d (.str "abcdefghijklmnopqrstuvwxyz")) (.d (.int i))=.ok (.d (.str ⟨#[97 + i.toNat]⟩)):=by
 have e:i=((i.toNat:Nat):Int):=by omega
 have:=uv (z:=Iq) (k:=i.toNat) F5 (Ir ⟨i.toNat,by omega⟩);rw [e];exact this
noncomputable def bases:List Nat:=[98,99,100,102,103]
theorem F9:∀k:Fin 5,("bcdfg":Str).cps.toList[k.val]?=some (bases.getD k.val 0):=by decide +kernel
theorem Dq:("bcdfg":Str).length<=1000:=by decide +kernel
theorem Gu (i:Int) (h0:0<=i) (h:i < 5):∃b∈bases,bP (.d (.str "bcdfg")) (.d (.int i))=.ok (.d (.str ⟨#[b]⟩)):=by
 have e:i=((i.toNat:Nat):Int):=by omega
 have hb:i.toNat < bases.length:=by show _ < 5;omega
 refine ⟨bases.getD i.toNat 0,?_,?_⟩
 ·rw [Qa,PV hb];exact Qz _
 ·have:=uv (z:="bcdfg") (k:=i.toNat) Dq (F9 ⟨i.toNat,by omega⟩);rw [e];exact this
theorem pW (x y:Str):(x++y).cps.toList=x.cps.toList++y.cps.toList:=by show (x.cps++y.cps).toList=_;simp
theorem su (c:Array Nat):∀(k:Nat) (acc:Array Nat),((Qe k c).foldl (·++·) acc).toList=acc.toList++(Qe k c.toList).flatten
 | 0,acc=>by simp
 | k + 1,acc=>by rw [Rk,Sd,su c k];simp [Rk]
theorem jr (b n:Nat):(gf ⟨#[b]⟩ n).cps.toList=Qe n b:=by
 unfold gf;simp only;rw [su]
 induction n with
 | zero=>rfl
 | succ n ih=>simpa [Rk] using ih
theorem mj (x:Str):x.length=x.cps.toList.length:=by show x.cps.size=_;simp
theorem HB {x y:Str}(h:x.cps.toList=y.cps.toList):x=y:=by
 cases x with
 | mk a=>
  cases y with
  | mk b=>
   simp only at h;congr 1;exact U0.mp h
theorem jx {t:GT}{u:G O}(I:Nat->Ev->Prop) (n:Nat)
  (h:∀k,k < n->∀env,I k env->∃e1 e2,t (.int k) env=.ok e1/\u e1=.ok (.nx e2)/\I (k + 1) e2) (env:Ev) (h0:I 0 env):
  ∃e,eu t u (eg 0 n) env=.ok (.nx e)/\I n e:=by
 have key:∀(m i:Nat),i + m=n->∀env,I i env->∃e,eu t u ((List.range' i m).map λ(k:Nat)=>D.int (0 + (k:Int))) env=.ok (.nx e)/\I n e:=by
  intro m
  induction m with
  | zero=>exact λi hi env hI=>⟨env,rfl,(by omega:i=n)▸hI⟩
  | succ m ih=>
   intro i hi env hI;obtain ⟨e1,e2,h1,h2,h3⟩:=h i (by omega) env hI;obtain ⟨e,h4,h5⟩:=ih (i + 1) (by omega) e2 h3;refine ⟨e,?_,h5⟩;rw [List.range'_succ,Qh];unfold eu;rw [WC,h1,aY,h2,aY];exact h4
 obtain ⟨e,h1,h2⟩:=key n 0 (by omega) env h0;refine ⟨e,?_,h2⟩;unfold eg;rw [List.range_eq_range'];exact h1
noncomputable def d7:List (List Nat):=[[97,110,100],[111,114],[110,111,116],[115,111,109,101],[101,118,101,114,121],[108,101,97,115,116],[116,114,117,101],[102,97,108,115,101]]
noncomputable def eL:List Str:=["and","or","not","some","every","least","true","false"]
theorem vE:eL.map (λw=>w.cps.toList)=d7:=by decide +kernel
theorem vF:words=eL.map .str:=rfl
theorem BR (x:Str):inD (.str x) words=eL.any λw=>w == x:=by rw [vF];unfold inD;rw [Yg];congr 1
theorem DQ:∀k:Fin 26,nj (97 + k.val)=true:=by decide +kernel
theorem yd {x:Str}(h2:2<=x.cps.toList.length) (h8:x.cps.toList.length<=8) (hw:x.cps.toList∉d7) (ha:∀k∈x.cps.toList,97<=k/\k < 123):fY x=true:=by
 unfold fY;rw [mj,decide_eq_true h2,decide_eq_true h8,RJ,RJ,Pr];refine ⟨?_,PF.mpr λk hk=>?_⟩
 ·rw [SG,UK];intro h;rw [BR,U1] at h;obtain ⟨w,h1,h3⟩:=h;have e:w=x:=eq_of_beq h3;subst e;refine hw ?_;rw [<-vE];exact Pn.mpr ⟨w,h1,rfl⟩
 ·obtain ⟨h1,h3⟩:=ha k hk;have:=DQ ⟨k - 97,by omega⟩;rw [show 97 + (k - 97)=k by omega] at this;exact this
theorem DG:∀b∈bases,∀w∈d7,¬(w.filter (· != b)).length<=1:=by decide
theorem yl (hb:b∈bases){l:List Nat}(h:(l.filter (· != b)).length<=1):l∉d7:=λz=>DG b hb l z h
theorem B4:∀w∈d7,∀w'∈d7,w'.dropLast≠w:=by decide
theorem qW:∀b∈bases,97<=b/\b < 123:=by decide
theorem strs_map:∀(ss:List Str),strsOf (ss.map .str)=some ss
 | []=>rfl
 | s::r=>by simp only [Qh,strsOf,strs_map r];rfl
theorem sorted_strs (m:Md) (ss:List Str) (h:ss.length < 64):j_ [.l m (ss.map .str)]=.ok (.l .fresh ((h_ ss).map .str)):=by unfold j_;simp only [jk,aY,strs_map,h,if_true]
theorem CM {ss:List Str}(h:ss.Nodup):(h_ ss).Pairwise λa b=>a.cps.toList < b.cps.toList:=by
 have h1:=pN ss;have h2:(h_ ss).Nodup:=(jY ss).symm.nodup h;have:=h1.and h2;refine this.imp fun {a b} ⟨x,y⟩=>?_;unfold jl at x;have x:=of_decide_eq_true x;rcases List.le_iff_lt_or_eq.mp x with z | z
 ·exact z
 ·exact absurd (HB z) y
theorem qY {gi:G (List D)}{ge:G R}(hm:m<=1000) (f:Nat->D) (hi:gi env=.ok (eg 0 m)) (hc:cE 1 cap env=none::tl) (h:∀k,k < m->ge (some (.d (.int (k:Nat)))::tl)=.ok (.d (f k))):
  bC 1 cap gi (aF 0) dc ge env=.ok (.l .fresh ((Qc m).map f)):=by
 have e:=lW (ge:=ge) (f:=λd=>match d with | .int i=>f i.toNat | _=>.non) tl (eg 0 m) none λd hd=>by unfold eg at hd;rw [Pn] at hd;obtain ⟨k,hk,rfl⟩:=hd;rw [WC];exact h k (Qt.mp hk)
 have hl:(eg 0 m).length<=sizeLine:=by unfold eg;rw [Pj,Tz];exact gS hm
 unfold bC;rw [hi,aY,if_pos hl,hc,e,aY];unfold eg;rw [PY];congr 3;funext k;show f ((0:Int) + (k:Int)).toNat=f k;rw [WC,SD]
theorem CF (b:Nat):∀(i j:Nat),i < j->Qe i b < Qe j b
 | 0,j + 1,_=>by rw [Rk];exact List.nil_lt_cons _ _
 | i + 1,j + 1,h=>by rw [Rk,Rk,List.cons_lt_cons_iff];exact .inr ⟨rfl,CF b i j (by omega)⟩
noncomputable def uG (b k:Nat):Str:=gf ⟨#[b]⟩ (2 + k)
noncomputable def nu (f s k:Nat):Str:=(eL++eL).getD (f + k) ""++⟨#[97 + s]⟩
noncomputable def lQ (b a r:Nat) (q:Int) (k:Nat):Str:=gf ⟨#[b]⟩ a++⟨#[97 + ((q + 5 * (k:Int)) % 26).toNat]⟩++gf ⟨#[b]⟩ r
noncomputable def Good (m:Nat) (ss:List Str):Prop:=ss.length=m/\(∀s∈ss,fY s=true)/\ss.Pairwise λa b=>a.cps.toList < b.cps.toList
theorem KL (hb:b∈bases) (hm:m<=6):Good m ((Qc m).map (uG b)):=by
 refine ⟨by simp,λs hs=>?_,?_⟩
 ·obtain ⟨k,hk,rfl⟩:=Pn.mp hs;have hk:=Qt.mp hk;have e:(uG b k).cps.toList=Qe (2 + k) b:=jr b (2 + k);refine yd (by rw [e,QE];omega) (by rw [e,QE];omega) (yl hb ?_) λx hx=>?_
  ·rw [e];simp
  ·rw [e] at hx;rw [S4 hx];exact qW b hb
 ·rw [Rv];refine Tq.imp fun {i j} h=>?_;show (gf _ _).cps.toList < (gf _ _).cps.toList;rw [jr,jr];exact CF b _ _ (by omega)
theorem qG {ss:List Str}(hl:ss.length=m) (hn:∀s∈ss,fY s=true) (hd:ss.Nodup):Good m (h_ ss):=
 ⟨by rw [(jY ss).length_eq,hl],λs hs=>hn s ((jY ss).mem_iff.mp hs),CM hd⟩
theorem xV (f s k:Nat) (h:f + k < 16):(nu f s k).cps.toList=(d7++d7).getD (f + k) []++[97 + s]:=by show (_++_:Str).cps.toList=_;rw [pW];congr 1;rw [<-vE,<-Qs,Qa,Qa,Qg];have hl:f + k < (eL++eL).length:=h;rw [PV hl];rfl
theorem M6:∀j:Fin 16,(d7++d7).getD j.val []∈d7:=by decide
theorem HL:∀w∈d7,2<=w.length/\w.length<=5/\∀k∈w,97<=k/\k < 123:=by decide
theorem Ku:∀(f:Fin 8) (j k:Fin 6),j.val≠k.val->(d7++d7).getD (f.val + j.val) []≠(d7++d7).getD (f.val + k.val) []:=by decide
theorem good2 (hf:f < 8) (hs:s < 26) (hm:m<=6):Good m (h_ ((Qc m).map (nu f s))):=by
 refine qG (by simp) (λx hx=>?_) ?_
 ·obtain ⟨k,hk,rfl⟩:=Pn.mp hx;have hk:=Qt.mp hk;have e:=xV f s k (by omega);have hw:=M6 ⟨f + k,by omega⟩;obtain ⟨h1,h2,h3⟩:=HL _ hw;simp only at h1 h2 h3 hw;generalize (d7++d7).getD (f + k) []=w at e hw h1 h2 h3;refine yd (by rw [e,Pu];simp;omega) (by rw [e,Pu];simp;omega) (λz=>?_) λy hy=>?_
  ·rw [e] at z;exact B4 w hw _ z (by simp)
  ·rw [e,P8] at hy;rcases hy with hy | hy
   ·exact h3 y hy
   ·rw [P1] at hy;omega
 ·rw [Uo,Rv];refine (Tq (n:=m)).imp_of_mem fun {i j} hi hj h z=>?_;have hi:=Qt.mp hi;have hj:=Qt.mp hj;have z':(nu f s i).cps.toList=(nu f s j).cps.toList:=by rw [z]
  rw [xV f s i (by omega),xV f s j (by omega)] at z';exact Ku ⟨f,hf⟩ ⟨i,by omega⟩ ⟨j,by omega⟩ (show i≠j by omega) (S5 z')
theorem xW (b a r:Nat) (q:Int) (k:Nat):(lQ b a r q k).cps.toList=Qe a b++[97 + ((q + 5 * (k:Int)) % 26).toNat]++Qe r b:=by show (_++_++_:Str).cps.toList=_;rw [pW,pW,jr,jr]
theorem good3 (hb:b∈bases) (h2:1<=a + r) (h8:a + r<=7) (hm:m<=6):Good m (h_ ((Qc m).map (lQ b a r q))):=by
 refine qG (by simp) (λx hx=>?_) ?_
 ·obtain ⟨k,hk,rfl⟩:=Pn.mp hx;have e:=xW b a r q k;refine yd (by rw [e];simp;omega) (by rw [e];simp;omega) (yl hb ?_) λy hy=>?_
  ·rw [e,Tg,Tg];have:∀n,(Qe n b).filter (· != b)=[]:=λn=>by simp
   rw [this,this,Xb,Ql];exact List.length_filter_le _ _
  ·rw [e,P8,P8,P1] at hy;rcases hy with (hy | hy) | hy
   ·rw [S4 hy];exact qW b hb
   ·have:0<=(q + 5 * (k:Int)) % 26:=Sx _ (by decide);have:(q + 5 * (k:Int)) % 26 < 26:=Uv _ (by decide);omega
   ·rw [S4 hy];exact qW b hb
 ·rw [Uo,Rv];refine (Tq (n:=m)).imp_of_mem fun {i j} hi hj h z=>?_;have hi:=Qt.mp hi;have hj:=Qt.mp hj;have z':(lQ b a r q i).cps.toList=(lQ b a r q j).cps.toList:=by rw [z]
  rw [xW,xW] at z';have z2:=S5 z';have z3:=List.append_cancel_left z2;have z4:97 + ((q + 5 * (i:Int)) % 26).toNat=97 + ((q + 5 * (j:Int)) % 26).toNat:=by simpa using z3
  have g1:0<=(q + 5 * (i:Int)) % 26:=Sx _ (by decide);have g2:0<=(q + 5 * (j:Int)) % 26:=Sx _ (by decide);have z5:(q + 5 * (i:Int)) % 26=(q + 5 * (j:Int)) % 26:=by omega
  omega
theorem AS (m:Md) (xs:List D):dz [.l m xs]=.ok (.d (.int xs.length)):=rfl
noncomputable def fK (ns:List Int) (k:Nat):Int:=(ns.map λx=>x % 18446744073709551616).getD k 0
theorem Bk (ns:List Int) (k:Nat):dO [.bor (ns.map D.int),.d (.int k)]=.ok (.d (.int (fK ns k))):=by
 unfold dO m6;by_cases h:k < ns.length
 ·have h':(k:Int) < ns.length:=by omega
  have e:(ns.map D.int)[k]?=some (.int ns[k]):=by rw [Qg,PV h];rfl
  have e2:fK ns k=ns[k] % 18446744073709551616:=by unfold fK;rw [Qa,Qg,PV h];rfl
  simp [aq,aJ,bu,bf,aP,aK,br,aa,ay,S.rd,R.dat,bD,bg,g2,gN,ah,ak,gC,aU,aE,aO,aS,au,bh,bA,rF,fin,bz,aL,eq_int,aj,aC,toD,toS,aG,bJ,bK,bL,jT,AS,h',p5 e,Ah,cW,e2]
 ·have h':¬(k:Int) < ns.length:=by omega
  have e2:fK ns k=0:=by unfold fK;rw [Qa,Qg,List.getElem?_eq_none (by omega)];rfl
  simp [aq,aJ,bu,bf,aP,aK,br,aa,ay,S.rd,R.dat,bD,bg,g2,gN,ah,ak,gC,aU,aE,aO,aS,au,bh,bA,rF,fin,bz,aL,eq_int,aj,aC,toD,toS,aG,bJ,bK,bL,jT,AS,h',e2]
noncomputable abbrev eN (c m x2:Int) (x3:S) (x4:Int) (x5 x6 x7 x8 x9 x10 x11:Option S):Ev:=[some (.d (.int c)),some (.d (.int m)),some (.d (.int x2)),some x3,some (.d (.int x4)),x5,x6,x7,x8,x9,x10,x11]
theorem pH {m:Nat}{env:Ev}{gs:G (List R)}(h:m<=1000) (hg:gs env=.ok [.d (.int (m:Int))]):dJ gs env=.ok (eg 0 m):=Eo hg h
theorem HQ:cT (aj (gC (.str "and")) (aj (gC (.str "or")) (aj (gC (.str "not")) (aj (gC (.str "some")) (aj (gC (.str "every")) (aj (gC (.str "least")) (aj (gC (.str "true")) (aj (gC (.str "false")) aC))))))))=λ_=>.ok (.l .fresh words):=by funext env;rfl
theorem Ge (xs ys:List D) (h:xs.length + ys.length<=1000):cB (.l .own xs) (.l .own ys)=.ok (.l .fresh (xs++ys)):=by show (if xs.length + ys.length<=sizeLine then M.ok (R.l Md.fresh (xs++ys)) else M.bad)=_;rw [if_pos (gS h)]
theorem LD (j:Nat) (h:j < 16):(words++words)[j]?=some (.str ((eL++eL).getD j "")):=by rw [vF,<-Qs,Qg,Qa];have hl:j < (eL++eL).length:=h;rw [PV hl];rfl
theorem Kv:∀j:Fin 16,((eL++eL).getD j.val "").length<=5:=by decide +kernel
theorem kM {b:G Bool}{t u:G O}(h:b env=.ok false):aJ b t u env=u env:=by unfold aJ;rw [h];rfl
theorem p_ {b:G Bool}{t u:G O}(h:b env=.ok true):aJ b t u env=t env:=by unfold aJ;rw [h];rfl
theorem AW {g:G R}{f:List R->M R}(h:g env=.ok r) (hf:f [r]=.ok r'):gN f (ah g ak) env=.ok r':=by unfold gN ah;rw [h];exact hf
theorem yG {g:G R}(h:g env=.ok r) (h2:rF r=.ok r'):aE g env=.ok (.rt r'):=by unfold aE;rw [h,aY,h2];rfl
theorem FY (c:Int) (m:Nat) (hm:m<=6):∃ss:List Str,f6 [.d (.int c),.d (.int m)]=.ok (.l .fresh (ss.map .str))/\Good m ss:=by
 unfold f6 lI;rw [HQ];show ∃ss:List Str,fin (aq _ _ [some (.d (.int c)),some (.d (.int m)),none,none,none,none,none,none,none,none,none,none])=_/\_;obtain ⟨n,hn⟩:∃n,c * 7129 % 1000033=n:=⟨_,rfl⟩;have n0:0<=n:=hn▸Sx _ (by decide);have n1:n < 1000033:=hn▸Uv _ (by decide);obtain ⟨b,hb,eb⟩:=Gu (n % 5) (by omega) (by omega);rw [cC (e:=[some (.d (.int c)),some (.d (.int m)),some (.d (.int n)),none,none,none,none,none,none,none,none,none]) (by simp [aq,aJ,bu,bf,aP,aK,br,aa,ay,S.rd,R.dat,bD,bg,g2,gN,ah,ak,gC,aU,aE,aO,aS,au,bh,bA,rF,fin,bz,aL,eq_int,aj,aC,toD,toS,aG,bJ,bK,bL,mH,cW,hn])];rw [cC (e:=[some (.d (.int c)),some (.d (.int m)),some (.d (.int n)),some (.d (.str ⟨#[b]⟩)),none,none,none,none,none,none,none,none]) (by simp [aq,aJ,bu,bf,aP,aK,br,aa,ay,S.rd,R.dat,bD,bg,g2,gN,ah,ak,gC,aU,aE,aO,aS,au,bh,bA,rF,fin,bz,aL,eq_int,aj,aC,toD,toS,aG,bJ,bK,bL,cW,eb])];rw [cC (e:=eN c m n (.d (.str ⟨#[b]⟩)) (2 + n / 5 % 7) none none none none none none none) (by simp [aq,aJ,bu,bf,aP,aK,br,aa,ay,S.rd,R.dat,bD,bg,g2,gN,ah,ak,gC,aU,aE,aO,aS,au,bh,bA,rF,fin,bz,aL,eq_int,aj,aC,toD,toS,aG,bJ,bK,bL,cW,fh,jK])];have lb:(⟨#[b]⟩:Str).length<=1000:=by show 1<=1000;decide
 by_cases c1:n / 35 % 4=1
 ·refine ⟨(Qc m).map (uG b),?_,KL hb hm⟩;have cr:=qY (cap:=[3]) (gi:=dJ (ah (aa 1) ak)) (ge:=g2 c8 (aa 1) (g2 cB (gC (.int 2)) (aa 0))) (env:=eN c m n (.d (.str ⟨#[b]⟩)) (2 + n / 5 % 7) none none none none none none none) (tl:=[some (.d (.str ⟨#[b]⟩))]) (m:=m) (by omega) (λk=>.str (uG b k)) (pH (by omega) (by simp [aq,aJ,bu,bf,aP,aK,br,aa,ay,S.rd,R.dat,bD,bg,g2,gN,ah,ak,gC,aU,aE,aO,aS,au,bh,bA,rF,fin,bz,aL,eq_int,aj,aC,toD,toS,aG,bJ,bK,bL])) rfl (λk hk=>by
   have:=Bc ⟨#[b]⟩ (2 + (k:Int)) (by omega) (by omega) lb;have e:(2 + (k:Int)).toNat=2 + k:=by omega
   rw [e] at this;simp [aq,aJ,bu,bf,aP,aK,br,aa,ay,S.rd,R.dat,bD,bg,g2,gN,ah,ak,gC,aU,aE,aO,aS,au,bh,bA,rF,fin,bz,aL,eq_int,aj,aC,toD,toS,aG,bJ,bK,bL,jK,this,uG])
  rw [CJ (r:=.l .fresh (((Qc m).map (uG b)).map .str)) (by
   unfold aJ aE;rw [cr];simp [aq,aJ,bu,bf,aP,aK,br,aa,ay,S.rd,R.dat,bD,bg,g2,gN,ah,ak,gC,aU,aE,aO,aS,au,bh,bA,rF,fin,bz,aL,eq_int,aj,aC,toD,toS,aG,bJ,bK,bL,fh,cW,c1])]
  rfl
 ·rw [cC (e:=eN c m n (.d (.str ⟨#[b]⟩)) (2 + n / 5 % 7) none none none none none none none) ((kM (by simp [aq,aJ,bu,bf,aP,aK,br,aa,ay,S.rd,R.dat,bD,bg,g2,gN,ah,ak,gC,aU,aE,aO,aS,au,bh,bA,rF,fin,bz,aL,eq_int,aj,aC,toD,toS,aG,bJ,bK,bL,fh,cW,c1])).trans rfl)];by_cases c2:n / 35 % 4=2
  ·refine ⟨h_ ((Qc m).map (nu (n / 140 % 8).toNat (n / 1120 % 26).toNat)),?_,good2 (by omega) (by omega) hm⟩;have cr:=qY (cap:=[5,6,7,2]) (gi:=dJ (ah (aa 1) ak)) (ge:=(g2 cB (g2 bP (g2 cB (aa 1) (aa 1)) (g2 cB (aa 2) (aa 0))) (g2 bP (aa 3) (g2 cQ (g2 fE (aa 4) (gC (.int 1120))) (gC (.int 26)))))) (env:=eN c m n (.d (.str ⟨#[b]⟩)) (2 + n / 5 % 7) (some (.own words)) (some (.d (.int (n / 140 % 8)))) (some (.d (.str "abcdefghijklmnopqrstuvwxyz"))) none none none none) (tl:=[some (.own words),some (.d (.int (n / 140 % 8))),some (.d (.str "abcdefghijklmnopqrstuvwxyz")),some (.d (.int n))]) (m:=m) (by omega) (λk=>.str (nu (n / 140 % 8).toNat (n / 1120 % 26).toNat k)) (pH (by omega) (by simp [aq,aJ,bu,bf,aP,aK,br,aa,ay,S.rd,R.dat,bD,bg,g2,gN,ah,ak,gC,aU,aE,aO,aS,au,bh,bA,rF,fin,bz,aL,eq_int,aj,aC,toD,toS,aG,bJ,bK,bL])) rfl (λk hk=>by
    have ea:=BV (n / 1120 % 26) (by omega) (by omega);have ew:=p5 (m:=.fresh) (LD ((n / 140 % 8).toNat + k) (by omega));have ei:(((n / 140 % 8).toNat + k:Nat):Int)=n / 140 % 8 + k:=by omega
    rw [ei] at ew;have el:=Kv ⟨(n / 140 % 8).toNat + k,by omega⟩;simp only at el;have es:=Bd ((eL++eL).getD ((n / 140 % 8).toNat + k) "") ⟨#[97 + (n / 1120 % 26).toNat]⟩ (by show _ + 1<=_;omega);have ec:=Ge words words (by decide);unfold nu;generalize (eL++eL).getD ((n / 140 % 8).toNat + k) ""=w at ew es ⊢;simp only [g2,aa,gC,Te,Tf,aY,S.rd,ec,jK];rw [ew,aY,fh _ _ (by decide) (by decide),aY,cW _ _ (by decide),aY,ea,aY,es])
   rw [CJ (r:=.l .fresh ((h_ ((Qc m).map (nu (n / 140 % 8).toNat (n / 1120 % 26).toNat))).map .str)) (by
    unfold aJ;rw [show aK (g2 (cJ false) (g2 cQ (g2 fE (aa 2) (gC (.int 35))) (gC (.int 4))) (gC (.int 2))) (eN c m n (.d (.str ⟨#[b]⟩)) (2 + n / 5 % 7) none none none none none none none)=.ok true by simp [aq,aJ,bu,bf,aP,aK,br,aa,ay,S.rd,R.dat,bD,bg,g2,gN,ah,ak,gC,aU,aE,aO,aS,au,bh,bA,rF,fin,bz,aL,eq_int,aj,aC,toD,toS,aG,bJ,bK,bL,fh,cW,c2],aY,if_pos rfl];rw [cC (e:=eN c m n (.d (.str ⟨#[b]⟩)) (2 + n / 5 % 7) (some (.own words)) none none none none none none) (by simp [aq,aJ,bu,bf,aP,aK,br,aa,ay,S.rd,R.dat,bD,bg,g2,gN,ah,ak,gC,aU,aE,aO,aS,au,bh,bA,rF,fin,bz,aL,eq_int,aj,aC,toD,toS,aG,bJ,bK,bL])];rw [cC (e:=eN c m n (.d (.str ⟨#[b]⟩)) (2 + n / 5 % 7) (some (.own words)) (some (.d (.int (n / 140 % 8)))) none none none none none) (by simp [aq,aJ,bu,bf,aP,aK,br,aa,ay,S.rd,R.dat,bD,bg,g2,gN,ah,ak,gC,aU,aE,aO,aS,au,bh,bA,rF,fin,bz,aL,eq_int,aj,aC,toD,toS,aG,bJ,bK,bL,fh,cW])];rw [cC (e:=eN c m n (.d (.str ⟨#[b]⟩)) (2 + n / 5 % 7) (some (.own words)) (some (.d (.int (n / 140 % 8)))) (some (.d (.str "abcdefghijklmnopqrstuvwxyz"))) none none none none) (by simp [aq,aJ,bu,bf,aP,aK,br,aa,ay,S.rd,R.dat,bD,bg,g2,gN,ah,ak,gC,aU,aE,aO,aS,au,bh,bA,rF,fin,bz,aL,eq_int,aj,aC,toD,toS,aG,bJ,bK,bL])];have hs:=sorted_strs .fresh ((Qc m).map (nu (n / 140 % 8).toNat (n / 1120 % 26).toNat)) (by simp;omega);rw [PY] at hs;exact yG (AW cr hs) rfl)]
   rfl
  ·rw [cC (e:=eN c m n (.d (.str ⟨#[b]⟩)) (2 + n / 5 % 7) none none none none none none none) ((kM (by simp [aq,aJ,bu,bf,aP,aK,br,aa,ay,S.rd,R.dat,bD,bg,g2,gN,ah,ak,gC,aU,aE,aO,aS,au,bh,bA,rF,fin,bz,aL,eq_int,aj,aC,toD,toS,aG,bJ,bK,bL,fh,cW,c2])).trans rfl)];have hz:0 < 2 + n / 5 % 7:=by omega
   rw [cC (e:=eN c m n (.d (.str ⟨#[b]⟩)) (2 + n / 5 % 7) none none none (some (.d (.int (n / 105 % (2 + n / 5 % 7))))) none none none) (by simp [aq,aJ,bu,bf,aP,aK,br,aa,ay,S.rd,R.dat,bD,bg,g2,gN,ah,ak,gC,aU,aE,aO,aS,au,bh,bA,rF,fin,bz,aL,eq_int,aj,aC,toD,toS,aG,bJ,bK,bL,fh,cW,hz])];rw [cC (e:=eN c m n (.d (.str ⟨#[b]⟩)) (2 + n / 5 % 7) none none none (some (.d (.int (n / 105 % (2 + n / 5 % 7))))) (some (.own [])) none none) (by simp [aq,aJ,bu,bf,aP,aK,br,aa,ay,S.rd,R.dat,bD,bg,g2,gN,ah,ak,gC,aU,aE,aO,aS,au,bh,bA,rF,fin,bz,aL,eq_int,aj,aC,toD,toS,aG,bJ,bK,bL,cT])];obtain ⟨a,ha⟩:∃a,n / 105 % (2 + n / 5 % 7)=a:=⟨_,rfl⟩;have a0:0<=a:=ha▸Sx _ (by omega);have a1:a < 2 + n / 5 % 7:=ha▸Uv _ hz;obtain ⟨z,hz2⟩:∃z,2 + n / 5 % 7=z:=⟨_,rfl⟩;have z1:2<=z/\z<=8:=by omega
   rw [ha,hz2];rw [hz2] at a1;refine ⟨h_ ((Qc m).map (lQ b a.toNat (z - 1 - a).toNat (n / 840))),?_,good3 hb (by omega) (by omega) hm⟩;have ra:=Bc ⟨#[b]⟩ a (by omega) (by omega) lb;have rr:=Bc ⟨#[b]⟩ (z - 1 - a) (by omega) (by omega) lb;have la:(gf ⟨#[b]⟩ a.toNat).length<=8:=by rw [mj,jr,QE];omega
   have lr:(gf ⟨#[b]⟩ (z - 1 - a).toNat).length<=8:=by rw [mj,jr,QE];omega
   obtain ⟨e,h1,x,y,rfl⟩:=jx (t:=aF 10) (u:=(aq (aG 11 (g2 bP (gC (.str "abcdefghijklmnopqrstuvwxyz")) (g2 cQ (g2 cB (g2 fE (aa 2) (gC (.int 840))) (g2 c8 (gC (.int 5)) (aa 10))) (gC (.int 26)))))
 (dW 9 (g2 cB (g2 cB (g2 c8 (aa 3) (aa 8)) (aa 11)) (g2 c8 (aa 3) (g2 oQ (g2 oQ (aa 4) (gC (.int 1))) (aa 8))))))) (λk env=>∃x y,env=eN c m n (.d (.str ⟨#[b]⟩)) z none none none (some (.d (.int a))) (some (.own (((Qc k).map (lQ b a.toNat (z - 1 - a).toNat (n / 840))).map .str))) x y) m (λk hk env ⟨x,y,he⟩=>by
    subst he;refine ⟨_,_,rfl,?_,some (.d (.int k)),some (.d (.str ⟨#[97 + ((n / 840 + 5 * (k:Int)) % 26).toNat]⟩)),rfl⟩
    ·have ea:=BV ((n / 840 + 5 * (k:Int)) % 26) (by omega) (by omega);rw [cC (e:=eN c m n (.d (.str ⟨#[b]⟩)) z none none none (some (.d (.int a))) (some (.own (((Qc k).map (lQ b a.toNat (z - 1 - a).toNat (n / 840))).map .str))) (some (.d (.int k))) (some (.d (.str ⟨#[97 + ((n / 840 + 5 * (k:Int)) % 26).toNat]⟩)))) (by simp [aq,aJ,bu,bf,aP,aK,br,aa,ay,S.rd,R.dat,bD,bg,g2,gN,ah,ak,gC,aU,aE,aO,aS,au,bh,bA,rF,fin,bz,aL,eq_int,aj,aC,toD,toS,aG,bJ,bK,bL,aF,jK,yQ,fh,cW,ea])];have e1:=Bd (gf ⟨#[b]⟩ a.toNat) ⟨#[97 + ((n / 840 + 5 * (k:Int)) % 26).toNat]⟩ (by show _ + 1<=_;omega);have e2:=Bd (gf ⟨#[b]⟩ a.toNat++⟨#[97 + ((n / 840 + 5 * (k:Int)) % 26).toNat]⟩) (gf ⟨#[b]⟩ (z - 1 - a).toNat) (by
      rw [mj,pW,Pu,<-mj];simp;omega)
     have hk':k < sizeLine:=PM (by omega:k < 1000) (by decide);simp [aq,aJ,bu,bf,aP,aK,br,aa,ay,S.rd,R.dat,bD,bg,g2,gN,ah,ak,gC,aU,aE,aO,aS,au,bh,bA,rF,fin,bz,aL,eq_int,aj,aC,toD,toS,aG,bJ,bK,bL,dW,ra,rr,e1,e2,LB,hk',List.range_succ,lQ]) (eN c m n (.d (.str ⟨#[b]⟩)) z none none none (some (.d (.int a))) (some (.own [])) none none) ⟨none,none,rfl⟩
   rw [cC ((kK (pH (m:=m) (by omega) (by simp [aq,aJ,bu,bf,aP,aK,br,aa,ay,S.rd,R.dat,bD,bg,g2,gN,ah,ak,gC,aU,aE,aO,aS,au,bh,bA,rF,fin,bz,aL,eq_int,aj,aC,toD,toS,aG,bJ,bK,bL]))).trans h1)];have hs:=sorted_strs .own ((Qc m).map (lQ b a.toNat (z - 1 - a).toNat (n / 840))) (by simp;omega);rw [yG (AW (r:=.l .own (((Qc m).map (lQ b a.toNat (z - 1 - a).toNat (n / 840))).map .str)) rfl hs) rfl];rfl
noncomputable abbrev dN (k:Nat):D:=.int k
noncomputable abbrev dP (p:Nat×Nat):D:=.tup [.int p.1,.int p.2]
noncomputable def sS (p q:Nat×Nat):Prop:=p.1 < q.1\/(p.1=q.1/\p.2 < q.2)
noncomputable def i6 (m:Nat) (xs:List Nat):Prop:=xs.length<=8/\xs.Pairwise (· < ·)/\∀x∈xs,x < m
noncomputable def gY (m:Nat) (ps:List (Nat×Nat)):Prop:=ps.length<=64/\ps.Pairwise sS/\∀p∈ps,p.1 < m/\p.2 < m
noncomputable def qC (ss:List Str):Prop:=ss.length<=3/\(∀s∈ss,fY s=true)/\ss.Pairwise λa b=>a.cps.toList < b.cps.toList
structure Wd where
 m:Nat
 ms:List (Str×List Nat)
 ar:List (Str×List (Nat×Nat))
noncomputable abbrev b9 (r:Str×List Nat):D:=.tup [.str r.1,.tup (r.2.map dN)]
noncomputable abbrev bZ (r:Str×List (Nat×Nat)):D:=.tup [.str r.1,.tup (r.2.map dP)]
noncomputable def Wd.d (w:Wd):D:=.tup [.int w.m,.tup (w.ms.map b9),.tup (w.ar.map bZ)]
structure Wd.Ok (w:Wd):Prop where
 lo:1<=w.m
 hi:w.m<=8
 mn:qC (w.ms.map Rz)
 an:qC (w.ar.map Rz)
 mp:∀r∈w.ms,i6 w.m r.2
 ap:∀r∈w.ar,gY w.m r.2
theorem HZ (b:Int) (m:Nat) (hm:m<=8):∃xs:List Nat,gW [.d (.int b),.d (.int m)]=.ok (.d (.tup (xs.map dN)))/\i6 m xs:=by
 unfold gW m7;show ∃xs:List Nat,fin (aq _ _ [some (.d (.int b)),some (.d (.int m)),none,none])=_/\_;rw [cC (e:=[some (.d (.int b)),some (.d (.int m)),some (.own []),none]) (by simp [aq,aJ,bu,bf,aP,aK,br,aa,ay,S.rd,R.dat,bD,bg,g2,gN,ah,ak,gC,aU,aE,aO,aS,au,bh,bA,rF,fin,bz,aL,eq_int,aj,aC,toD,toS,aG,bJ,bK,bL,cT])];obtain ⟨e,h1,b',xs,y,rfl,hl,hp,hx⟩:=jx (t:=aF 3) (u:=(aq (aJ (aK (g2 (cJ false) (g2 cQ (aa 0) (gC (.int 2))) (gC (.int 1)))) (dW 2 (aa 3)) aU)
 (aG 0 (g2 fE (aa 0) (gC (.int 2)))))) (λk env=>∃(b':Int) (xs:List Nat) (y:Option S),env=[some (.d (.int b')),some (.d (.int m)),some (.own (xs.map dN)),y]/\xs.length<=k/\xs.Pairwise (· < ·)/\∀x∈xs,x < k) m (λk hk env ⟨b',xs,y,he,hl,hp,hx⟩=>by
  subst he;have hz:xs.length < sizeLine:=PM (by omega:xs.length < 1000) (by decide);by_cases hb:b' % 2=1
  ·refine ⟨_,_,rfl,?_,b' / 2,xs++[k],some (.d (.int k)),rfl,by simp;omega,?_,λx hx'=>?_⟩
   ·rw [cC (e:=[some (.d (.int b')),some (.d (.int m)),some (.own ((xs++[k]).map dN)),some (.d (.int k))]) ((p_ (by simp [aq,aJ,bu,bf,aP,aK,br,aa,ay,S.rd,R.dat,bD,bg,g2,gN,ah,ak,gC,aU,aE,aO,aS,au,bh,bA,rF,fin,bz,aL,eq_int,aj,aC,toD,toS,aG,bJ,bK,bL,cW,hb])).trans (by simp [aq,aJ,bu,bf,aP,aK,br,aa,ay,S.rd,R.dat,bD,bg,g2,gN,ah,ak,gC,aU,aE,aO,aS,au,bh,bA,rF,fin,bz,aL,eq_int,aj,aC,toD,toS,aG,bJ,bK,bL,dW,hz]))];simp [aq,aJ,bu,bf,aP,aK,br,aa,ay,S.rd,R.dat,bD,bg,g2,gN,ah,ak,gC,aU,aE,aO,aS,au,bh,bA,rF,fin,bz,aL,eq_int,aj,aC,toD,toS,aG,bJ,bK,bL,fh]
   ·rw [Vt];exact ⟨hp,Th _ _,λa ha c hc=>by rw [P1] at hc;rw [hc];exact hx a ha⟩
   ·rw [P8,P1] at hx';rcases hx' with h | h
    ·exact Wq (hx x h)
    ·omega
  ·refine ⟨_,_,rfl,?_,b' / 2,xs,some (.d (.int k)),rfl,by omega,hp,λx h=>Wq (hx x h)⟩;rw [cC (e:=[some (.d (.int b')),some (.d (.int m)),some (.own (xs.map dN)),some (.d (.int k))]) ((kM (by simp [aq,aJ,bu,bf,aP,aK,br,aa,ay,S.rd,R.dat,bD,bg,g2,gN,ah,ak,gC,aU,aE,aO,aS,au,bh,bA,rF,fin,bz,aL,eq_int,aj,aC,toD,toS,aG,bJ,bK,bL,cW,hb])).trans rfl)];simp [aq,aJ,bu,bf,aP,aK,br,aa,ay,S.rd,R.dat,bD,bg,g2,gN,ah,ak,gC,aU,aE,aO,aS,au,bh,bA,rF,fin,bz,aL,eq_int,aj,aC,toD,toS,aG,bJ,bK,bL,fh]) [some (.d (.int b)),some (.d (.int m)),some (.own []),none] ⟨b,[],none,rfl,QG _,.nil,λx h=>by cases h⟩
 rw [cC ((kK (pH (m:=m) (by omega) (by simp [aq,aJ,bu,bf,aP,aK,br,aa,ay,S.rd,R.dat,bD,bg,g2,gN,ah,ak,gC,aU,aE,aO,aS,au,bh,bA,rF,fin,bz,aL,eq_int,aj,aC,toD,toS,aG,bJ,bK,bL]))).trans h1)];exact ⟨xs,rfl,by omega,hp,hx⟩
noncomputable def MO (k j:Nat) (p:Nat×Nat):Prop:=p.1 < k\/(p.1=k/\p.2 < j)
theorem De (b:Int) (m:Nat) (hm:m<=8):∃ps:List (Nat×Nat),gD [.d (.int b),.d (.int m)]=.ok (.d (.tup (ps.map dP)))/\gY m ps:=by
 unfold gD lJ;show ∃ps:List (Nat×Nat),fin (aq _ _ [some (.d (.int b)),some (.d (.int m)),none,none,none])=_/\_;rw [cC (e:=[some (.d (.int b)),some (.d (.int m)),some (.own []),none,none]) (by simp [aq,aJ,bu,bf,aP,aK,br,aa,ay,S.rd,R.dat,bD,bg,g2,gN,ah,ak,gC,aU,aE,aO,aS,au,bh,bA,rF,fin,bz,aL,eq_int,aj,aC,toD,toS,aG,bJ,bK,bL,cT])];obtain ⟨e,h1,b',ps,y,z,rfl,hl,hp,hx⟩:=jx (t:=aF 3) (u:=(gI (dJ (ah (aa 1) ak)) (aF 4) (aq (aJ (aK (g2 (cJ false) (g2 cQ (aa 0) (gC (.int 2))) (gC (.int 1)))) (dW 2 (c9 (aj (aa 3) (aj (aa 4) aC)))) aU)
 (aG 0 (g2 fE (aa 0) (gC (.int 2))))))) (λk env=>∃(b':Int) (ps:List (Nat×Nat)) (y z:Option S),env=[some (.d (.int b')),some (.d (.int m)),some (.own (ps.map dP)),y,z]/\ps.length<=8 * k/\ps.Pairwise sS/\∀p∈ps,p.1 < k/\p.2 < m) m (λk hk env ⟨b',ps,y,z,he,hl,hp,hx⟩=>by
  subst he;obtain ⟨e,h1,b2,qs,z,rfl,hl2,hp2,NT⟩:=jx (t:=aF 4) (u:=(aq (aJ (aK (g2 (cJ false) (g2 cQ (aa 0) (gC (.int 2))) (gC (.int 1)))) (dW 2 (c9 (aj (aa 3) (aj (aa 4) aC)))) aU)
 (aG 0 (g2 fE (aa 0) (gC (.int 2)))))) (λj env=>∃(b2:Int) (qs:List (Nat×Nat)) (z:Option S),env=[some (.d (.int b2)),some (.d (.int m)),some (.own (qs.map dP)),some (.d (.int k)),z]/\qs.length<=8 * k + j/\qs.Pairwise sS/\∀p∈qs,MO k j p/\p.2 < m) m (λj hj env ⟨b2,qs,z,he,hl2,hp2,NT⟩=>by
   subst he;have hz:qs.length < sizeLine:=PM (by omega:qs.length < 1000) (by decide);have N3:2<=sizeLine:=by decide
   by_cases hb:b2 % 2=1
   ·refine ⟨_,_,rfl,?_,b2 / 2,qs++[(k,j)],some (.d (.int j)),rfl,by simp;omega,?_,λp hp'=>?_⟩
    ·rw [cC (e:=[some (.d (.int b2)),some (.d (.int m)),some (.own ((qs++[(k,j)]).map dP)),some (.d (.int k)),some (.d (.int j))]) ((p_ (by simp [aq,aJ,bu,bf,aP,aK,br,aa,ay,S.rd,R.dat,bD,bg,g2,gN,ah,ak,gC,aU,aE,aO,aS,au,bh,bA,rF,fin,bz,aL,eq_int,aj,aC,toD,toS,aG,bJ,bK,bL,cW,hb])).trans (by simp [aq,aJ,bu,bf,aP,aK,br,aa,ay,S.rd,R.dat,bD,bg,g2,gN,ah,ak,gC,aU,aE,aO,aS,au,bh,bA,rF,fin,bz,aL,eq_int,aj,aC,toD,toS,aG,bJ,bK,bL,dW,c9,hz,N3]))];simp [aq,aJ,bu,bf,aP,aK,br,aa,ay,S.rd,R.dat,bD,bg,g2,gN,ah,ak,gC,aU,aE,aO,aS,au,bh,bA,rF,fin,bz,aL,eq_int,aj,aC,toD,toS,aG,bJ,bK,bL,fh]
    ·rw [Vt];refine ⟨hp2,Th _ _,λa ha c hc=>?_⟩;rw [P1] at hc;rw [hc];exact (NT a ha).1
    ·rw [P8,P1] at hp';rcases hp' with h | h
     ·refine ⟨?_,(NT p h).2⟩;rcases (NT p h).1 with q | ⟨q,q'⟩
      ·exact .inl q
      ·exact .inr ⟨q,by omega⟩
     ·rw [h];exact ⟨.inr ⟨rfl,U3 _⟩,hj⟩
   ·refine ⟨_,_,rfl,?_,b2 / 2,qs,some (.d (.int j)),rfl,by omega,hp2,λp h=>⟨?_,(NT p h).2⟩⟩
    ·rw [cC (e:=[some (.d (.int b2)),some (.d (.int m)),some (.own (qs.map dP)),some (.d (.int k)),some (.d (.int j))]) ((kM (by simp [aq,aJ,bu,bf,aP,aK,br,aa,ay,S.rd,R.dat,bD,bg,g2,gN,ah,ak,gC,aU,aE,aO,aS,au,bh,bA,rF,fin,bz,aL,eq_int,aj,aC,toD,toS,aG,bJ,bK,bL,cW,hb])).trans rfl)];simp [aq,aJ,bu,bf,aP,aK,br,aa,ay,S.rd,R.dat,bD,bg,g2,gN,ah,ak,gC,aU,aE,aO,aS,au,bh,bA,rF,fin,bz,aL,eq_int,aj,aC,toD,toS,aG,bJ,bK,bL,fh]
    ·rcases (NT p h).1 with q | ⟨q,q'⟩
     ·exact .inl q
     ·exact .inr ⟨q,by omega⟩) [some (.d (.int b')),some (.d (.int m)),some (.own (ps.map dP)),some (.d (.int k)),z] ⟨b',ps,z,rfl,hl,hp,λp h=>⟨.inl (hx p h).1,(hx p h).2⟩⟩
  refine ⟨_,_,rfl,(kK (pH (m:=m) (by omega) (by simp [aq,aJ,bu,bf,aP,aK,br,aa,ay,S.rd,R.dat,bD,bg,g2,gN,ah,ak,gC,aU,aE,aO,aS,au,bh,bA,rF,fin,bz,aL,eq_int,aj,aC,toD,toS,aG,bJ,bK,bL]))).trans h1,b2,qs,some (.d (.int k)),z,rfl,by omega,hp2,λp h=>⟨?_,(NT p h).2⟩⟩;rcases (NT p h).1 with q | ⟨q,q'⟩
  ·omega
  ·omega) [some (.d (.int b)),some (.d (.int m)),some (.own []),none,none] ⟨b,[],none,none,rfl,QG _,.nil,λx h=>by cases h⟩
 rw [cC ((kK (pH (m:=m) (by omega) (by simp [aq,aJ,bu,bf,aP,aK,br,aa,ay,S.rd,R.dat,bD,bg,g2,gN,ah,ak,gC,aU,aE,aO,aS,au,bh,bA,rF,fin,bz,aL,eq_int,aj,aC,toD,toS,aG,bJ,bK,bL]))).trans h1)];exact ⟨ps,rfl,by omega,hp,hx⟩
theorem lY {α:Type}(f:α->D) (xs:List α) (l u:Option Int):∃ys:List α,cutD (xs.map f) l u=ys.map f/\ys=(xs.drop (HT.bM xs.length 0 l)).take (HT.bM xs.length xs.length u - HT.bM xs.length 0 l):=by refine ⟨_,?_,rfl⟩;unfold cutD;rw [Pj,X4,X5]
theorem lZ {α:Type}(xs:List α) (i j:Nat):((xs.drop i).take j).Sublist xs:=(Wb _ _).trans (List.drop_sublist _ _)
theorem Good.sub {ss ys:List Str}(h:Good m ss) (s:ys.Sublist ss) (hl:ys.length<=3):qC ys:=⟨hl,λx hx=>h.2.1 x (s.subset hx),h.2.2.sublist s⟩
theorem Kd (xs:List D) (l u:Option Int):eZ (.l .own xs) l u=.ok (.l .fresh (cutD xs l u)):=rfl
theorem Ai (m:Md) (xs:List D):eH [.l m xs]=.ok (.d (.tup xs)):=rfl
theorem Dg (c:Int):∃A B:List Str,gO [.d (.int c)]=.ok (.d (.tup [.tup (A.map .str),.tup (B.map .str)]))/\qC A/\qC B:=by
 obtain ⟨ss,hs,hg⟩:=FY c 6 (PJ _);have hs:f6 [.d (.int c),.d (.int 6)]=.ok (.l .fresh (ss.map .str)):=hs;unfold gO kL;generalize f6=F_names at hs ⊢;show ∃A B:List Str,fin (aq _ _ [some (.d (.int c)),none,none,none])=_/\_;obtain ⟨n,hn⟩:∃n,c * 523 % 10007=n:=⟨_,rfl⟩;have n0:0<=n:=hn▸Sx _ (by decide);rw [cC (e:=[some (.d (.int c)),some (.own (ss.map .str)),none,none]) (by simp [aq,aJ,bu,bf,aP,aK,br,aa,ay,S.rd,R.dat,bD,bg,g2,gN,ah,ak,gC,aU,aE,aO,aS,au,bh,bA,rF,fin,bz,aL,eq_int,aj,aC,toD,toS,aG,bJ,bK,bL,hs])];rw [cC (e:=[some (.d (.int c)),some (.own (ss.map .str)),some (.d (.int n)),none]) (by simp [aq,aJ,bu,bf,aP,aK,br,aa,ay,S.rd,R.dat,bD,bg,g2,gN,ah,ak,gC,aU,aE,aO,aS,au,bh,bA,rF,fin,bz,aL,eq_int,aj,aC,toD,toS,aG,bJ,bK,bL,mH,cW,hn])];rw [cC (e:=[some (.d (.int c)),some (.own (ss.map .str)),some (.d (.int n)),some (.d (.int (n / 16 % 3)))]) (by simp [aq,aJ,bu,bf,aP,aK,br,aa,ay,S.rd,R.dat,bD,bg,g2,gN,ah,ak,gC,aU,aE,aO,aS,au,bh,bA,rF,fin,bz,aL,eq_int,aj,aC,toD,toS,aG,bJ,bK,bL,fh,cW])];obtain ⟨A,ha,ha'⟩:=lY D.str ss none (some (n % 4));obtain ⟨B,hb,hb'⟩:=lY D.str ss (some (n / 16 % 3)) (some (n / 16 % 3 + n / 4 % 4));refine ⟨A,B,?_,hg.sub (ha'▸lZ _ _ _) ?_,hg.sub (hb'▸lZ _ _ _) ?_⟩
 ·have N3:2<=sizeLine:=by decide
  simp [aq,aJ,bu,bf,aP,aK,br,aa,ay,S.rd,R.dat,bD,bg,g2,gN,ah,ak,gC,aU,aE,aO,aS,au,bh,bA,rF,fin,bz,aL,eq_int,aj,aC,toD,toS,aG,bJ,bK,bL,c9,dw,dZ,dM,cW,fh,jK,Kd,Ai,ha,hb,N3]
 ·rw [ha',RY,HT.Ep];have e:n % 4=((n % 4).toNat:Int):=by omega
  rw [e,HT.uN];omega
 ·rw [hb',RY];have e:n / 16 % 3=((n / 16 % 3).toNat:Int):=by omega
  have e2:n / 16 % 3 + n / 4 % 4=((n / 16 % 3 + n / 4 % 4).toNat:Int):=by omega
  rw [e2,HT.uN,e,HT.uN,hg.1];omega
theorem A8 (Fs Fc:List S->M R) (ns:List Int) (a k m:Nat) (v:Int) (xs:List Nat) (T T2:D) (s:Str) (ms:List (Str×List Nat)) (hi:bP (.d T) (.d (.int k))=.ok (.d (.str s))) (hc:Fc [.bor (ns.map D.int),.d (.int ((a:Int) + k))]=.ok (.d (.int v))) (hx:Fs [.d (.int (v * 167 % 256)),.d (.int m)]=.ok (.d (.tup (xs.map dN))))
  (N3:2<=sizeLine) (hz:ms.length < sizeLine):(dW 4 (c9 (aj (g2 bP (g2 bP (aa 3) (gC (.int 0))) (aa 5)) (aj (gN (au 2 Fs) (ah (g2 cQ (g2 c8 (gN (au 2 Fc) (ah (aa 0) (ah (g2 cB (aa 1) (aa 5)) ak))) (gC (.int 167))) (g2 lH (gC (.int 2)) (gC (.int 8)))) (ah (aa 2) ak))) aC)))) [some (.bor (ns.map D.int)),some (.d (.int a)),some (.d (.int m)),some (.d (.tup [T,T2])),some (.own (ms.map b9)),some (.d (.int k)),none,none]=.ok (.nx [some (.bor (ns.map D.int)),some (.d (.int a)),some (.d (.int m)),some (.d (.tup [T,T2])),some (.own ((ms++[(s,xs)]).map b9)),some (.d (.int k)),none,none]):=by simp [aq,aJ,bu,bf,aP,aK,br,aa,ay,S.rd,R.dat,bD,bg,g2,gN,ah,ak,gC,aU,aE,aO,aS,au,bh,bA,rF,fin,bz,aL,eq_int,aj,aC,toD,toS,aG,bJ,bK,bL,dW,c9,hi,jK,hc,mH,Ko,cW,hx,hz,N3]
theorem zo (Fs Fc:List S->M R) (ns:List Int) (a k m:Nat) (v:Int) (xs:List (Nat×Nat)) (T T2:D) (s:Str) (ms:List D) (z:Option S) (rs:List (Str×List (Nat×Nat))) (hi:bP (.d T2) (.d (.int k))=.ok (.d (.str s))) (hc:Fc [.bor (ns.map D.int),.d (.int ((a:Int) + 3 + k))]=.ok (.d (.int v))) (hx:Fs [.d (.int (v * 11400714819323198485 % 18446744073709551616)),.d (.int m)]=.ok (.d (.tup (xs.map dP))))
  (N3:2<=sizeLine) (hz:rs.length < sizeLine):(aq (aG 7 (g2 cQ (g2 c8 (gN (au 2 Fc) (ah (aa 0) (ah (g2 cB (g2 cB (aa 1) (gC (.int 3))) (aa 5)) ak))) (gC (.int 11400714819323198485))) (g2 lH (gC (.int 2)) (gC (.int 64)))))
 (dW 6 (c9 (aj (g2 bP (g2 bP (aa 3) (gC (.int 1))) (aa 5)) (aj (gN (au 2 Fs) (ah (aa 7) (ah (aa 2) ak))) aC))))) [some (.bor (ns.map D.int)),some (.d (.int a)),some (.d (.int m)),some (.d (.tup [T,T2])),some (.own ms),some (.d (.int k)),some (.own (rs.map bZ)),z]=.ok (.nx [some (.bor (ns.map D.int)),some (.d (.int a)),some (.d (.int m)),some (.d (.tup [T,T2])),some (.own ms),some (.d (.int k)),some (.own ((rs++[(s,xs)]).map bZ)),some (.d (.int (v * 11400714819323198485 % 18446744073709551616)))]):=by simp [aq,aJ,bu,bf,aP,aK,br,aa,ay,S.rd,R.dat,bD,bg,g2,gN,ah,ak,gC,aU,aE,aO,aS,au,bh,bA,rF,fin,bz,aL,eq_int,aj,aC,toD,toS,aG,bJ,bK,bL,dW,c9,hi,jK,hc,mH,Ah,cW,hx,hz,N3]
theorem F1 (ns:List Int) (a m:Nat) (hm:m<=8) (A B:List Str) (hA:A.length<=3) (hB:B.length<=3):∃ms rs,f7 [.bor (ns.map D.int),.d (.int a),.d (.int m),.d (.tup [.tup (A.map .str),.tup (B.map .str)])]=.ok (.d (Wd.d ⟨m,ms,rs⟩))/\
  ms.map Rz=A/\rs.map Rz=B/\(∀r∈ms,i6 m r.2)/\∀r∈rs,gY m r.2:=by
 unfold f7 lK;have HS:=λb=>HZ b m hm;have HP:=λb=>De b m hm;have HC:=Bk ns;generalize gW=F_some at HS ⊢;generalize gD=F_pairs at HP ⊢;generalize dO=F_cell at HC ⊢;show ∃ms rs,fin (aq _ _ [some (.bor (ns.map D.int)),some (.d (.int a)),some (.d (.int m)),some (.d (.tup [.tup (A.map .str),.tup (B.map .str)])),none,none,none,none])=_/\_;have zA:∀k,k < 3->k < sizeLine:=λk hk=>PM (by omega:k < 1000) (by decide);have N3:2<=sizeLine:=by decide
 have OJ:3<=sizeLine:=by decide
 rw [cC (e:=[some (.bor (ns.map D.int)),some (.d (.int a)),some (.d (.int m)),some (.d (.tup [.tup (A.map .str),.tup (B.map .str)])),some (.own []),none,none,none]) (by simp [aq,aJ,bu,bf,aP,aK,br,aa,ay,S.rd,R.dat,bD,bg,g2,gN,ah,ak,gC,aU,aE,aO,aS,au,bh,bA,rF,fin,bz,aL,eq_int,aj,aC,toD,toS,aG,bJ,bK,bL,cT])];obtain ⟨e,h1,ms,y,rfl,hf,hp⟩:=jx (t:=aF 5) (u:=(dW 4 (c9 (aj (g2 bP (g2 bP (aa 3) (gC (.int 0))) (aa 5)) (aj (gN (au 2 F_some) (ah (g2 cQ (g2 c8 (gN (au 2 F_cell) (ah (aa 0) (ah (g2 cB (aa 1) (aa 5)) ak))) (gC (.int 167))) (g2 lH (gC (.int 2)) (gC (.int 8)))) (ah (aa 2) ak))) aC)))))
  (λk env=>∃(ms:List (Str×List Nat)) (y:Option S),env=[some (.bor (ns.map D.int)),some (.d (.int a)),some (.d (.int m)),some (.d (.tup [.tup (A.map .str),.tup (B.map .str)])),some (.own (ms.map b9)),y,none,none]/\ms.map Rz=A.take k/\∀r∈ms,i6 m r.2) A.length (λk hk env ⟨ms,y,he,hf,hp⟩=>by
   subst he;obtain ⟨xs,hx,px⟩:=HS (fK ns (a + k) * 167 % 256);have hc:=HC (a + k);rw [Vp] at hc;have hi:bP (.d (.tup (A.map D.str))) (.d (.int k))=.ok (.d (.str A[k])):=j6 (by rw [Qg,PV hk];rfl);have hl:ms.length=k:=by have:=congrArg Rp hf;rw [Pj,RY] at this;omega
   have hz:=zA ms.length (by have:=hA;omega);refine ⟨_,_,rfl,?_,ms++[(A[k],xs)],some (.d (.int k)),rfl,?_,λr hr=>?_⟩
   ·exact A8 F_some F_cell ns a k m _ xs _ _ _ ms hi hc hx N3 hz
   ·rw [Qs,hf,Xp,PV hk];rfl
   ·rw [P8,P1] at hr;rcases hr with h | h
    ·exact hp r h
    ·rw [h];exact px) [some (.bor (ns.map D.int)),some (.d (.int a)),some (.d (.int m)),some (.d (.tup [.tup (A.map .str),.tup (B.map .str)])),some (.own []),none,none,none] ⟨[],none,rfl,rfl,λr h=>by cases h⟩
 rw [cC ((kK (pH (m:=A.length) (by have:=hA;omega) (by simp [aq,aJ,bu,bf,aP,aK,br,aa,ay,S.rd,R.dat,bD,bg,g2,gN,ah,ak,gC,aU,aE,aO,aS,au,bh,bA,rF,fin,bz,aL,eq_int,aj,aC,toD,toS,aG,bJ,bK,bL]))).trans h1)];rw [cC (e:=[some (.bor (ns.map D.int)),some (.d (.int a)),some (.d (.int m)),some (.d (.tup [.tup (A.map .str),.tup (B.map .str)])),some (.own (ms.map b9)),y,some (.own []),none]) (by simp [aq,aJ,bu,bf,aP,aK,br,aa,ay,S.rd,R.dat,bD,bg,g2,gN,ah,ak,gC,aU,aE,aO,aS,au,bh,bA,rF,fin,bz,aL,eq_int,aj,aC,toD,toS,aG,bJ,bK,bL,cT])];obtain ⟨e,h2,rs,y2,z2,rfl,hf2,hp2⟩:=jx (t:=aF 5) (u:=(aq (aG 7 (g2 cQ (g2 c8 (gN (au 2 F_cell) (ah (aa 0) (ah (g2 cB (g2 cB (aa 1) (gC (.int 3))) (aa 5)) ak))) (gC (.int 11400714819323198485))) (g2 lH (gC (.int 2)) (gC (.int 64)))))
 (dW 6 (c9 (aj (g2 bP (g2 bP (aa 3) (gC (.int 1))) (aa 5)) (aj (gN (au 2 F_pairs) (ah (aa 7) (ah (aa 2) ak))) aC))))))
  (λk env=>∃(rs:List (Str×List (Nat×Nat))) (y z:Option S),env=[some (.bor (ns.map D.int)),some (.d (.int a)),some (.d (.int m)),some (.d (.tup [.tup (A.map .str),.tup (B.map .str)])),some (.own (ms.map b9)),y,some (.own (rs.map bZ)),z]/\rs.map Rz=B.take k/\∀r∈rs,gY m r.2) B.length (λk hk env ⟨rs,y,z,he,hf,hp⟩=>by
   subst he;obtain ⟨xs,hx,px⟩:=HP (fK ns (a + 3 + k) * 11400714819323198485 % 18446744073709551616);have hc:=HC (a + 3 + k);rw [Vp,Vp] at hc;have hc:F_cell [.bor (ns.map D.int),.d (.int ((a:Int) + 3 + (k:Int)))]=.ok (.d (.int (fK ns (a + 3 + k)))):=hc;have hi:bP (.d (.tup (B.map D.str))) (.d (.int k))=.ok (.d (.str B[k])):=j6 (by rw [Qg,PV hk];rfl);have hl:rs.length=k:=by have:=congrArg Rp hf;rw [Pj,RY] at this;omega
   have hz:=zA rs.length (by have:=hB;omega);refine ⟨_,_,rfl,?_,rs++[(B[k],xs)],some (.d (.int k)),some (.d (.int (fK ns (a + 3 + k) * 11400714819323198485 % 18446744073709551616))),rfl,?_,λr hr=>?_⟩
   ·exact zo F_pairs F_cell ns a k m _ xs _ _ _ _ z rs hi hc hx N3 hz
   ·rw [Qs,hf,Xp,PV hk];rfl
   ·rw [P8,P1] at hr;rcases hr with h | h
    ·exact hp r h
    ·rw [h];exact px) [some (.bor (ns.map D.int)),some (.d (.int a)),some (.d (.int m)),some (.d (.tup [.tup (A.map .str),.tup (B.map .str)])),some (.own (ms.map b9)),y,some (.own []),none] ⟨[],y,none,rfl,rfl,λr h=>by cases h⟩
 rw [cC ((kK (pH (m:=B.length) (by have:=hB;omega) (by simp [aq,aJ,bu,bf,aP,aK,br,aa,ay,S.rd,R.dat,bD,bg,g2,gN,ah,ak,gC,aU,aE,aO,aS,au,bh,bA,rF,fin,bz,aL,eq_int,aj,aC,toD,toS,aG,bJ,bK,bL]))).trans h2)];refine ⟨ms,rs,?_,by rw [hf,Q_],by rw [hf2,Q_],hp,hp2⟩;simp [aq,aJ,bu,bf,aP,aK,br,aa,ay,S.rd,R.dat,bD,bg,g2,gN,ah,ak,gC,aU,aE,aO,aS,au,bh,bA,rF,fin,bz,aL,eq_int,aj,aC,toD,toS,aG,bJ,bK,bL,c9,Ai,OJ,Wd.d]
theorem Ia (ns:List Int) (a m:Nat) (hm:m<=8) (A B:List Str) (hA:qC A) (hB:qC B):∃ms rs,f7 [.bor (ns.map D.int),.d (.int a),.d (.int m),.d (.tup [.tup (A.map .str),.tup (B.map .str)])]=.ok (.d (Wd.d ⟨m,ms,rs⟩))/\
  ms.map Rz=A/\rs.map Rz=B/\(∀r∈ms,i6 m r.2)/\∀r∈rs,gY m r.2:=F1 ns a m hm A B hA.1 hB.1
theorem rS {xs:List D}(h:xs.Pairwise λa b=>ltB a b=true):gj xs=true:=by unfold gj;rw [PF];intro b hb;obtain ⟨i,hi,rfl⟩:=TY.mp hb;rw [Ud,QX] at hi;rw [TZ,Wr];have:=List.pairwise_iff_getElem.mp h i (1 + i) (by omega) (by omega) (by omega);exact this
theorem Fq {m:Nat}{xs:List Nat}(h:i6 m xs):gJ (ic m) (.tup (xs.map dN))=true:=by
 show ((xs.map dN).all (ic m) && gj (xs.map dN))=true;rw [Pr];refine ⟨PF.mpr λd hd=>?_,rS ?_⟩
 ·obtain ⟨k,hk,rfl⟩:=Pn.mp hd;have:=h.2.2 k hk;show (decide ((0:Int)<=k) && decide ((k:Int) < m))=true;rw [decide_eq_true (by omega),decide_eq_true (by omega)];rfl
 ·rw [Rv];refine h.2.1.imp fun {a b} q=>?_;show decide ((a:Int) < b)=true;exact decide_eq_true (by omega)
theorem Mg {p q:Nat×Nat}(h:sS p q):ltB (dP p) (dP q)=true:=by
 show HT.lexLt [(p.1:Int),(p.2:Int)] [(q.1:Int),(q.2:Int)]=true;unfold HT.lexLt;rcases h with h | ⟨h,h'⟩
 ·have:(p.1:Int) < q.1:=by omega
  simp [this];left;omega
 ·have e:(p.1:Int)=q.1:=by omega
  have:(p.2:Int) < q.2:=by omega
  simp [e,HT.lexLt,this];omega
theorem Fo {m:Nat}{ps:List (Nat×Nat)}(h:gY m ps):gJ (iz m) (.tup (ps.map dP))=true:=by
 show ((ps.map dP).all (iz m) && gj (ps.map dP))=true;rw [Pr];refine ⟨PF.mpr λd hd=>?_,rS ?_⟩
 ·obtain ⟨p,hp,rfl⟩:=Pn.mp hd;have:=h.2.2 p hp;show ((decide ((0:Int)<=p.1) && decide ((p.1:Int) < m)) && (decide ((0:Int)<=p.2) && decide ((p.2:Int) < m)))=true;rw [decide_eq_true (by omega),decide_eq_true (by omega),decide_eq_true (by omega),decide_eq_true (by omega)];rfl
 ·rw [Rv];exact h.2.1.imp fun {a b} q=>Mg q
theorem Iu {α:Type}{rs:List (Str×α)}{f:Str×α->D}(hf:∀r,∃b,f r=.tup [.str r.1,b]) (h:qC (rs.map Rz)):jP (.tup (rs.map f))=true:=by
 show (decide ((rs.map f).length<=3) && ((rs.map f).all mz && gj ((rs.map f).map jM)))=true;have hl:=h.1;rw [Pj] at hl;rw [decide_eq_true (by rw [Pj];exact hl),RJ,Pr];refine ⟨PF.mpr λd hd=>?_,rS ?_⟩
 ·obtain ⟨r,hr,rfl⟩:=Pn.mp hd;obtain ⟨b,e⟩:=hf r;rw [e];exact h.2.1 r.1 (Pn.mpr ⟨r,hr,rfl⟩)
 ·have e:(rs.map f).map jM=(rs.map Rz).map D.str:=by rw [PY,PY];refine Q9 λr hr=>?_;obtain ⟨b,e⟩:=hf r;show jM (f r)=.str r.1;rw [e];rfl
  rw [e,Rv];refine h.2.2.imp fun {a b} q=>?_;exact decide_eq_true q
theorem HN {w:Wd}(h:w.Ok):mK w.d=true:=by
 show (decide ((1:Int)<=w.m) && (decide ((w.m:Int)<=8) && (jP (.tup (w.ms.map b9)) && (jP (.tup (w.ar.map bZ)) && ((w.ms.map b9).all (λd=>gJ (ic w.m) (iO d)) && (w.ar.map bZ).all (λd=>gJ (iz w.m) (iO d)))))))=true;have lo:=h.lo;have hi:=h.hi;rw [decide_eq_true (by omega),decide_eq_true (by omega),Iu (λr=>⟨_,rfl⟩) h.mn,Iu (λr=>⟨_,rfl⟩) h.an];simp only [RJ];rw [Pr];refine ⟨PF.mpr λd hd=>?_,PF.mpr λd hd=>?_⟩
 ·obtain ⟨r,hr,rfl⟩:=Pn.mp hd;exact Fq (h.mp r hr)
 ·obtain ⟨r,hr,rfl⟩:=Pn.mp hd;exact Fo (h.ap r hr)
theorem qd {x:Str}(h:fY x=true):x.length<=8:=by unfold fY at h;rw [Pr,Pr] at h;exact of_decide_eq_true h.2.1
theorem vh {K:Pe}{J:L2.Hp}:∀(ns:List Int),aT K J (ns.map D.int) (ns.map L2.V.int)
 | []=>.nil
 | n::r=>.cons (.int n) (vh r)
end K01
namespace K02
open PySem DL
end K02
namespace K02
open PySem DL K01
theorem eq_str (neg:Bool) (a b:Str):cJ neg (.d (.str a)) (.d (.str b))=.ok (.d (.bl (if neg then !(a == b) else a == b))):=by simp [cJ,R.dat,dep,eo]
theorem q8 {α:Type}(f:α->D) (k:Nat) (h:∀x,dep (f x)<=k):∀xs:List α,deps (xs.map f)<=k
 | []=>by simp [deps]
 | x::xs=>by have:=q8 f k h xs;have:=h x;simp only [Qh,deps];omega
theorem Gj (xs:List Nat):deps (xs.map dN)<=0:=q8 dN 0 (λ_=>by simp [dep]) xs
theorem Gk (xs:List (Nat×Nat)):deps (xs.map dP)<=1:=q8 dP 1 (λ_=>by simp [dP,dep,deps]) xs
theorem IC (xs ys:List D) (h:xs.length + ys.length<=1000):cB (.l .fresh xs) (.l .fresh ys)=.ok (.l .fresh (xs++ys)):=by unfold cB zS E2 pY;simp [jk,sM,gS h]
end K02
namespace K04
open PySem DL
noncomputable def An:List Str:=["_law_found","_law_due_here"]
noncomputable def fX (Fr:List S->M R):G O:=(aq (aJ (aK (br "tuple" (aa 1))) (aq (aJ (bu (aP (aK (br "tuple" (aa 0)))) (aK (g2 (cJ true) (gN dz (ah (aa 0) ak)) (gN dz (ah (aa 1) ak))))) (aE (gC (.bl false))) aU)
 (aE (gN eV (ah (bC 1 [0,1] (dJ (ah (gN dz (ah (aa 1) ak)) ak)) (aF 0) dc (gN (au 2 Fr) (ah (g2 bP (aa 1) (aa 0)) (ah (g2 bP (aa 2) (aa 0)) ak)))) ak)))) aU)
 (aq (aJ (bu (aK (br "bool" (aa 1))) (aK (br "int" (aa 1)))) (aE (aO (br "int" (aa 0)) (aO (g2 (cJ false) (br "bool" (aa 0)) (br "bool" (aa 1))) (g2 (cJ false) (aa 0) (aa 1))))) aU)
 (aE (aO (br "str" (aa 0)) (g2 (cJ false) (aa 0) (aa 1))))))
noncomputable def cG:Nat->List S->M R
 | 0,_=>.bad
 | k + 1,as=>fin (fX (cG k) (ay An as))
end K04
namespace K04
open PySem DL K01 K02
inductive Pl:D->Prop
 | int (i:Int):Pl (.int i)
 | str (x:Str):Pl (.str x)
 | tup (xs:List D):xs.length<=1000->(∀x∈xs,Pl x)->Pl (.tup xs)
theorem zL {x:D}:∀{xs:List D},x∈xs->dep x<=deps xs
 | y::ys,h=>by
  simp only [deps];rcases Pp.mp h with rfl | h
  ·omega
  ·have:=zL h;omega
theorem all_range (n:Nat):eV [.l .fresh ((Qc n).map λ_=>D.bl true)]=.ok (.d (.bl true)):=by have:=all_map (λ_=>true) ((Qc n).map λ_=>D.non);rw [PY] at this;simp only [RN] at this;rw [this];congr 3;simp
theorem Bm:∀(k:Nat) (d:D),Pl d->dep d < k->k<=50->cG k [.d d,.d d]=.ok (.d (.bl true))
 | 0,d,_,h,_=>by omega
 | k + 1,.int i,_,_,_=>by show fin (fX (cG k) [some (.d (.int i)),some (.d (.int i))])=_;unfold fX;simp [aq,aJ,bu,bf,aP,aK,br,aa,ay,S.rd,R.dat,bD,bg,g2,gN,ah,ak,gC,aU,aE,aO,aS,au,bh,bA,rF,fin,bz,aj,aC,toD,toS,aG,cJ,dep,eo,kF]
 | k + 1,.str x,_,_,_=>by show fin (fX (cG k) [some (.d (.str x)),some (.d (.str x))])=_;unfold fX;simp [aq,aJ,bu,bf,aP,aK,br,aa,ay,S.rd,R.dat,bD,bg,g2,gN,ah,ak,gC,aU,aE,aO,aS,au,bh,bA,rF,fin,bz,aj,aC,toD,toS,aG,cJ,dep,eo,kF]
 | k + 1,.tup xs,hp,h,hk=>by
  have hl:xs.length<=1000:=by cases hp;assumption
  have hx:∀x∈xs,Pl x:=by cases hp;assumption
  have ih:∀x∈xs,cG k [.d x,.d x]=.ok (.d (.bl true)):=λx hm=>Bm k x (hx x hm) (by have:=zL hm;simp only [dep] at h;omega) (by omega);show fin (fX (cG k) [some (.d (.tup xs)),some (.d (.tup xs))])=_;unfold fX;generalize cG k=F at ih ⊢;have hc:=qY (cap:=[0,1]) (gi:=dJ (ah (gN dz (ah (aa 1) ak)) ak)) (ge:=gN (au 2 F) (ah (g2 bP (aa 1) (aa 0)) (ah (g2 bP (aa 2) (aa 0)) ak))) (env:=[some (.d (.tup xs)),some (.d (.tup xs))]) (tl:=[some (.d (.tup xs)),some (.d (.tup xs))]) (m:=xs.length) hl (λ_=>.bl true)
   (Eo (n:=xs.length) (by simp [aq,aJ,bu,bf,aP,aK,br,aa,ay,S.rd,R.dat,bD,bg,g2,gN,ah,ak,gC,aU,aE,aO,aS,au,bh,bA,rF,fin,bz,aj,aC,toD,toS,aG,aL]) hl) rfl (λj hj=>by
    have hi:bP (.d (.tup xs)) (.d (.int j))=.ok (.d (xs[j])):=j6 (by simp [hj]);simp [aq,aJ,bu,bf,aP,aK,br,aa,ay,S.rd,R.dat,bD,bg,g2,gN,ah,ak,gC,aU,aE,aO,aS,au,bh,bA,rF,fin,bz,aj,aC,toD,toS,aG,hi,ih _ (Qz hj)])
  have ha:=all_range xs.length;simp [aq,aJ,bu,bf,aP,aK,br,aa,ay,S.rd,R.dat,bD,bg,g2,gN,ah,ak,gC,aU,aE,aO,aS,au,bh,bA,rF,fin,bz,aj,aC,toD,toS,aG,aL,eq_int,hc,ha]
 | k + 1,.non,hp,_,_=>by cases hp
 | k + 1,.bl _,hp,_,_=>by cases hp
 | k + 1,.lst _,hp,_,_=>by cases hp
 | k + 1,.emp,hp,_,_=>by cases hp
 | k + 1,.exn _ _ _,hp,_,_=>by cases hp
theorem Lg (w:Wd) (hm:w.ms.length<=3) (ha:w.ar.length<=3) (pm:∀r∈w.ms,r.2.length<=1000) (pa:∀r∈w.ar,r.2.length<=1000):Pl w.d/\dep w.d<=5:=by
 have l1:∀r∈w.ms,Pl (b9 r)/\dep (b9 r)<=3:=λr hr=>by
  refine ⟨.tup _ (by simp) λx hx=>?_,?_⟩
  ·simp only [Pp,P9,or_false] at hx;rcases hx with rfl | rfl
   ·exact .str _
   ·exact .tup _ (by simpa using pm r hr) λx hx=>by obtain ⟨k,_,rfl⟩:=Pn.mp hx;exact .int _
  ·have:=Gj r.2;simp only [b9,dep,deps];omega
 have l2:∀r∈w.ar,Pl (bZ r)/\dep (bZ r)<=3:=λr hr=>by
  refine ⟨.tup _ (by simp) λx hx=>?_,?_⟩
  ·simp only [Pp,P9,or_false] at hx;rcases hx with rfl | rfl
   ·exact .str _
   ·exact .tup _ (by simpa using pa r hr) λx hx=>by
     obtain ⟨k,_,rfl⟩:=Pn.mp hx;exact .tup _ (by simp) λy hy=>by simp only [Pp,P9,or_false] at hy;rcases hy with rfl | rfl <;> exact .int _
  ·have:=Gk r.2;simp only [bZ,dep,deps];omega
 have dm:∀{α:Type}(f:α->D) (xs:List α),(∀x∈xs,dep (f x)<=3)->deps (xs.map f)<=3:=by
  intro α f xs
  induction xs with
  | nil=>intro _;simp [deps]
  | cons x xs ih=>
   intro h;have:=ih λy hy=>h y (Py _ hy);have:=h x P0;simp only [Qh,deps];omega
 have d1:=dm b9 w.ms λr hr=>(l1 r hr).2;have d2:=dm bZ w.ar λr hr=>(l2 r hr).2;refine ⟨.tup _ (by simp) λx hx=>?_,?_⟩
 ·simp only [Pp,P9,or_false] at hx;rcases hx with rfl | rfl | rfl
  ·exact .int _
  ·exact .tup _ (by simp;omega) λx hx=>by obtain ⟨r,hr,rfl⟩:=Pn.mp hx;exact (l1 r hr).1
  ·exact .tup _ (by simp;omega) λx hx=>by obtain ⟨r,hr,rfl⟩:=Pn.mp hx;exact (l2 r hr).1
 ·simp only [Wd.d,dep,deps];omega
end K04
namespace DL
open PySem PySem.Spec PyProof.Rows L2 DX
end DL
namespace DL
open PySem PySem.Spec PyProof.Rows L2
section
open PySem.SeqAt
open PySem.AutoSeq1 (wpAny_loadPart')
open PySem.MeetsSeq PySem.MeetsSeq2 PySem.MeetsSeq3
end
end DL
namespace DL
open PySem PySem.Spec PyProof.Rows L2
variable {n:Nat}
end DL
namespace DL
open PySem PySem.Spec PyProof.Rows L2
open PySem.W (Looks)
end DL
namespace DL
open PySem PySem.Spec PyProof.Rows L2
open PySem.W (Looks)
end DL
namespace DL
open PySem PySem.Spec PyProof.Rows L2
end DL
namespace DL
open PySem PySem.Spec PyProof.Rows L2
section
variable {X:Cx}{c:C}{e:Qq}{es:List Qq}{pos:Pos}
theorem Bu:QO "int"=some (.type "int"):=by decide +kernel
end
end DL
namespace DL
open PySem PySem.Spec PyProof.Rows L2 DX
section
variable {M:W0}{A:Qx}{E:Ph->Pk->Prop}{s:Pk}
theorem AX {O5:SJ}{globals:PK}{closure:List (Str×PK)}{Pb:Str}{func:Option PK}{code:Ph}{outer:Env}{builtins:PK}{Q:Env->Pk->Prop}
  (hQ:Q (newEnv O5 s.heap.objs.size globals (QW (s.heap.objs.size + 1) O5.names closure) Pb func code (some outer) builtins) {s with heap:=Xc (s.heap.push {cls:=.type "dict",data:=.dict #[]}) O5.names}):
  P_ M A (Xq O5 globals closure [] Pb func code (some outer) builtins) Q E s:=by simp only [Xq,Option.isSome_some,if_true];refine Pf (wpAny_alloc ?_);refine Pf (wpAny_layCells _ (λname kind cells=>by cases hkc:kind == S9 <;> simp [hkc]) _ _ _ _ ?_);rw [show ({s with heap:=s.heap.push {cls:=.type "dict",data:=.dict #[]}}:Pk).heap.objs.size=s.heap.objs.size + 1 from RK ..];simp only [Vx];exact Pf (PU (PU hQ))
theorem jq:∀(names:List (Str×RZ)) (n:Nat) (acc:List (Str×PK)) (x:Str),(∀y∈names,y.2=.cell->y.1≠x)->(QW n names acc).lookup x=acc.lookup x
 | [],_,_,_,_=>by unfold QW;rfl
 | (y,k)::r,n,acc,x,h=>by
  have hr:∀z∈r,z.2=.cell->z.1≠x:=λz hz=>h z (Py _ hz);unfold QW;split
  ·rename_i hk;rw [jq r _ _ x hr];have hy:y≠x:=h (y,k) (P0 ..) (by simpa using hk);have:(x == y)=false:=by
    cases q:x == y with
    | false=>rfl
    | true=>exact absurd (eq_of_beq q).symm hy
   rw [Rj,this]
  ·exact jq r _ _ x hr
end
theorem vQ:∀(names:List (Str×RZ)) (n:Nat) (acc:List (Str×PK)),QW n names acc=QW n names []++acc:=by
 intro names
 suffices ∀(n:Nat) (a b:List (Str×PK)),QW n names (a++b)=QW n names a++b by intro n acc;exact this n [] acc
 induction names with
 | nil=>intro n a b;unfold QW;rfl
 | cons p r ih=>
  obtain ⟨y,k⟩:=p;intro n a b;unfold QW;split
  ·exact ih _ (_::a) b
  ·exact ih _ a b
noncomputable def d9 (names:List (Str×RZ)) (x:Str):Bool:=names.any λy=>y.1 == x && y.2 == .cell
theorem iF:∀(names:List (Str×RZ)) (n:Nat) (acc:List (Str×PK)) (x:Str),((acc.lookup x).isSome=true\/d9 names x=true)->((QW n names acc).lookup x).isSome=true
 | [],_,_,_,h=>by
  unfold QW;rcases h with h | h
  ·exact h
  ·cases h
 | (y,k)::r,n,acc,x,h=>by
  unfold QW;have e:d9 ((y,k)::r) x=((y == x && k == .cell) || d9 r x):=rfl;rw [e] at h;split
  ·rename_i hk;refine iF r _ _ x ?_;by_cases hx:x=y
   ·left;subst hx;rw [Rj];simp
   ·rcases h with h | h
    ·left;rw [Rj];cases q:x == y with
     | true=>exact absurd (eq_of_beq q) hx
     | false=>exact h
    ·rw [RB,Pr] at h;rcases h with h | h
     ·exact absurd (eq_of_beq h.1).symm hx
     ·exact .inr h
  ·rename_i hk;refine iF r _ _ x ?_;rcases h with h | h
   ·exact .inl h
   ·rw [RB,Pr] at h;rcases h with h | h
    ·exact absurd h.2 hk
    ·exact .inr h
theorem gu {cl:List (Str×PK)}(h:(QW n names cl).lookup x=some d):
  (QW n names []).lookup x=some d\/(d9 names x=false/\cl.lookup x=some d):=by
 rw [vQ,List.lookup_append] at h;cases q:(QW n names []).lookup x with
 | some e=>rw [q] at h;left;simpa using h
 | none=>
  rw [q] at h;right;refine ⟨?_,by simpa using h⟩;cases z:d9 names x with
  | false=>rfl
  | true=>
   have:=iF names n [] x (.inr z);rw [q] at this;cases this
theorem om {O5:SJ}(h:(relabel O5 env).names.lookup x=some .cell\/(relabel O5 env).names.lookup x=some .free):(x,Ri)∈O5.names\/d9 O5.names x=true:=by
 unfold relabel at h;revert h;generalize O5.names=names
 induction names with
 | nil=>intro h;simp at h
 | cons p r ih=>
  obtain ⟨n,k⟩:=p;intro h;rw [Qh] at h;simp only at h;by_cases hx:x=n
  ·subst hx;cases k with
   | free=>exact .inl (P0 ..)
   | cell=>right;unfold d9;simp
   | _=>simp [Rj] at h
  ·have e:(x == n)=false:=by simpa using hx
   have h':(r.map λ(n,k)=>if (k == Ri && env.scope.kind == .function && env.kindOf n == some .cell) then (n,S9) else (n,k)).lookup x=some .cell\/(r.map λ(n,k)=>if (k == Ri && env.scope.kind == .function && env.kindOf n == some .cell) then (n,S9) else (n,k)).lookup x=some .free:=by split at h <;> simpa [Rj,e] using h
   rcases ih h' with z | z
   ·exact .inl (Py _ z)
   ·right;unfold d9 at z ⊢;rw [V3,z,Vj]
section
variable {X:Cx}
noncomputable def f_ (X:Cx) (own:List Str) (cap:List Nat) (O5:SJ) (cl:List (Str×PK)) (C:PK) (s:Pk) (H:Hp) (fp:List PK):Cx:=
 {IF X own cap O5 (QW (C + 1) O5.names cl) C s H fp with fn:=d9 O5.names}
theorem Gi {H:Hp}{s:Pk}{O5:SJ}(I:Inv X O6 σ H s) (hk:O5.kind=.function)
 (hcl:gw X.env.cells O5.names []=some cl) (ck:YH h1 (s.heap.objs.size + 1) (QW (s.heap.objs.size + 1) O5.names [])) (hfp:∀b∈fp,iJ X O6 H b) (hin:∀b∈fp,b < s.heap.objs.size):(f_ X own cap O5 cl s.heap.objs.size s H fp).Ok:=by
 obtain ⟨m1,m2⟩:=iR O5.names [] cl hcl (λx c h=>by simp at h);have lo:∀{x:Str}{d:PK},(QW (s.heap.objs.size + 1) O5.names []).lookup x=some d->s.heap.objs.size + 1<=d:=fun {x d} h=>(ck.empty _ _ (Ti h)).2;have old:∀{x:Str}{d:PK},cl.lookup x=some d->d < s.heap.objs.size:=fun {x d} h=>by obtain ⟨v,z⟩:=I.cell x d (m1 x d h);exact z.lt
 refine ⟨I.ok.mod,hk,I.ok.glob,I.ok.blt,PJ _,λx y d h1 h2=>?_,λx hx=>?_,λx d hf h=>?_,λhc=>I.ok.hd hc,I.ok.frames,.inl rfl,λb hb=>⟨QA (hin b hb),λx d h=>?_⟩,
  I.bs,P6 I.ok.bsz I.sz,λb o h hb=>?_,λb hb hf=>?_,I.stack,I.stkFree⟩
 ·rcases gu h1 with h1 | ⟨_,h1⟩
  ·rcases gu h2 with h2 | ⟨_,h2⟩
   ·exact name_of_addr ck.apart (Ti h1) (Ti h2)
   ·exact absurd (PM (old h2) (Se (lo h1))) (Q6 _)
  ·rcases gu h2 with h2 | ⟨_,h2⟩
   ·exact absurd (PM (old h1) (Se (lo h2))) (Q6 _)
   ·exact I.ok.inj x y d (m1 x d h1) (m1 y d h2)
 ·refine Rn.mp (iF _ _ _ x ?_);rcases om hx with z | z
  ·exact .inl (m2 x (.inr z))
  ·exact .inr z
 ·rcases gu h with h | ⟨z,h⟩
  ·exact Se (lo h)
  ·have hf':d9 O5.names x=true:=hf;rw [z] at hf';cases hf'
 ·rcases gu h with h | ⟨_,h⟩
  ·exact TL (PM (hin b hb) (Se (lo h)))
  ·exact (hfp b hb).2.2.2.2.1 x d (m1 x d h)
 ·rcases (hfp b hb).2.2.2.1 with z | z
  ·exact I.ok.noex b o h z
  ·exact absurd (PM (PL (I.ok.bs b o h).1) z) (Q6 _)
 ·rcases Pp.mp (I.stkSub b hf) with e | e
  ·exact (hfp b hb).2.1 e
  ·exact (hfp b hb).2.2.1 e
end
theorem ya {cl:List (Str×PK)}(h:d9 names x=false):(QW n names cl).lookup x=cl.lookup x:=
 jq names n cl x λy hy hk e=>by unfold d9 at h;have:=Wt.mp h y hy;simp [hk,e] at this
section
variable {X:Cx}
theorem Dv {O6:List (PK×Obj)}{σ:L2.St}{H:Hp}{s:Pk}{own:List Str}{cap:List Nat}{O5:SJ}{cl:List (Str×PK)}{fp:List PK}{h1:QV}{m:Str->Option Ph}{tk:Nat}(I:Inv X O6 σ H s) (ok:(f_ X own cap O5 cl s.heap.objs.size s H fp).Ok)
  (hcl:gw X.env.cells O5.names []=some cl) (ck:YH h1 (s.heap.objs.size + 1) (QW (s.heap.objs.size + 1) O5.names [])) (hcap:pU X cap=true) (NG:∀j∈cap,∀x,X.N[j]?=some x->(relabel O5 X.env).names.lookup x≠some .local)
  (hno:∀j∈cap,∀x,X.N[j]?=some x->d9 O5.names x=false) (hns:h1.Ns s.heap.objs.size m) (old:∀b o,s.heap.get? b=some o->h1.get? b=some o):
  Inv (f_ X own cap O5 cl s.heap.objs.size s H fp) [] (Qe own.length none++cap.map λ(j:Nat)=>(σ[j]?).getD none) H {s with heap:=h1,toks:=tk}:=by
 obtain ⟨m1,m2⟩:=iR O5.names [] cl hcl (λx c h=>by simp at h);refine ⟨ok,rfl,I.bare,Un.kept old,⟨m,hns,λi x v q1 q2 q3=>?_⟩,λx d h=>?_,I.hok.fresh (PJ _),λx d h=>?_,λp hp=>absurd (show p∈([]:List (PK×Obj)) from hp) (by simp),I.hok.kept old,?_⟩
 ·obtain ⟨j,h2,h3,h4⟩:=iE q2;have q1':(own++cap.map λ(j:Nat)=>(X.N[j]?).getD ("":Str))[i]?=some x:=q1;rw [Qy (by exact h2),Qg,h3] at q1';have hj:j∈cap:=QK h3;have hc:(match X.N[j]? with
   | some x=>(match X.env.scope.names.lookup x with
    | some .cell=>true
    | some .free=>true
    | _=>false)
   | none=>false)=true:=by unfold pU at hcap;exact PF.mp hcap j hj
  cases hx:X.N[j]? with
  | none=>rw [hx] at hc;cases hc
  | some y=>
   rw [W7,hx] at q1';rw [hx] at hc;have e:y=x:=by simpa using q1'
   subst e;have kd:X.env.kindOf y=some .cell\/X.env.kindOf y=some .free:=by
    unfold YT;simp only at hc;split at hc
    ·rename_i z;exact .inl z
    ·rename_i z;exact .inr z
    ·cases hc
   obtain ⟨mX,nX,lX⟩:=I.loc;obtain ⟨u,ru,lu⟩:=lX j y v hx h4 (kd.elim (λz=>.inr (.inl z)) λz=>.inr (.inr z));refine ⟨u,ru,.inr ?_⟩;have kd':(relabel O5 X.env).names.lookup y=some .cell\/(relabel O5 X.env).names.lookup y=some .free:=by
    rcases q3 with z | z | z
    ·exact absurd z (NG j hj y hx)
    ·exact .inl z
    ·exact .inr z
   refine ⟨kd',?_⟩;have no:=hno j hj y hx;have fr:(y,Ri)∈O5.names:=by
    rcases om kd' with z | z
    ·exact z
    ·rw [no] at z;cases z
   obtain ⟨d,hd⟩:=Rn.mp (m2 y (.inr fr));refine ⟨d,(ya no).trans hd,?_⟩;rcases lu with ⟨z,_⟩ | ⟨_,d',hd',z⟩
   ·rcases kd with k | k <;> (rw [k] at z;cases z)
   ·have:=m1 y d hd;rw [hd'] at this;cases this;obtain ⟨o,ho,hod⟩:=z;exact ⟨o,old _ _ ho,hod⟩
 ·rcases gu h with h | ⟨_,h⟩
  ·exact ⟨none,(ck.empty _ _ (Ti h)).1⟩
  ·obtain ⟨v,o,ho,hod⟩:=I.cell x d (m1 x d h);exact ⟨v,o,old _ _ ho,hod⟩
 ·rcases gu h with h | ⟨_,h⟩
  ·exact I.hok.fresh (Se (ck.empty _ _ (Ti h)).2)
  ·exact I.freeC x d (m1 x d h)
 ·show _=(own++cap.map λ(j:Nat)=>(X.N[j]?).getD ("":Str)).length;simp
end
theorem Ju (h:QV) (names:List (Str×RZ)):(Xc (h.push {cls:=.type "dict",data:=.dict #[]}) names).Ns h.objs.size (λ_=>none):=
 (Heap.Ns.new h (.type "dict")).keeps λb o e=>Xd _ _ _ _ e
theorem BF (h:QV) (names:List (Str×RZ)):YH (Xc (h.push {cls:=.type "dict",data:=.dict #[]}) names) (h.objs.size + 1) (QW (h.objs.size + 1) names []):=by have:=cellsFrom_ok names (h.push {cls:=.type "dict",data:=.dict #[]}) (h.objs.size + 1) [] ⟨λ_ _ hm=>(nomatch hm),UH⟩ (by rw [RK];exact PJ _);rw [RK] at this;exact this
noncomputable def EU (X:Cx) (cap:List Nat) (O5:SJ):Bool:=cap.all λj=>match X.N[j]? with
 | some x=>!d9 O5.names x
 | none=>true
noncomputable def eO (gt:GT) (gts:G Bool) (act:Ev->M (List D×Ev)):List D->Ev->M (List D×Ev)
 | [],env=>.ok ([],env)
 | d::ds,env=>gt d env >>= λe=>gts e >>= λk=>if k=true then act e >>= λr=>eO gt gts act ds r.2 >>= λz=>.ok (r.1++z.1,z.2) else eO gt gts act ds e
noncomputable def zB (env:Ev) (σ:L2.St) (p:PK):Prop:=∀(j:Nat) (xs:Mn),env[j]?=some (some (mS xs))->σ[j]?≠some (some (.ref p))
structure Dd (Acc:Hp->Hp->List D->Prop):Prop where
 ext:∀{J H J' H':Hp}{ys:List D},Acc J H ys->Ext J H J' H'->Acc J' H' ys
noncomputable def Dj (X:Cx) (c:C) (p:PK) (Acc:Hp->Hp->List D->Prop) (J2 H2:Hp) (N:Nat) (m:Sem Unit) (act:Ev->M (List D×Ev)):Prop:=
 ∀(O6:List (PK×Obj)) (s:Pk) (σ:L2.St) (H J:Hp) (env:Ev) (ys:List D) (Qf:List D×Ev->Prop),Inv X O6 σ H s->Ext J2 H2 J H->SR c J H σ env->zB env σ p->Acc J H ys->ys.length + N<=sizeLine->cg (act env) Qf c.T->
  P_ (Qj X.prog X.w) X.A m (λ_ s'=>∃σ' H' J' r,Inv X O6 σ' H' s'/\Ext J2 H2 J' H'/\aV J J'/\SR c J' H' σ' r.2/\zB r.2 σ' p/\Acc J' H' (ys++r.1)/\r.1.length<=N/\Qf r) X.xe s
noncomputable abbrev CV (ifs:List Qq) (env:Env):Sem Bool:=forIn ifs true λc r=>if r=true then do let ok <-Ww c env (eval c env);pure (RT ok) else pure (RT r)
noncomputable abbrev FJ (O9 Pa:Qq) (ifs:List Qq) (it:Ph) (env:Env) (act:Sem Unit) (again':Sem Fin):Sem Fin:=do
 W2 Pa.pos
 match <-VM it with
 | none=>pure (.done .next)
 | some v=>
  Ss O9 it v
  assign O9 env v
  let mut ok:=true
  for c in ifs do
   if ok then ok <-Ww c env (eval c env)
  if ok then
   act
  again'
noncomputable def Am (prog:PX) (w:Qn) (A:Qx) (e:Qq) (depth:Nat) (it acc:Ph) (env:Env) (O9:Qq) (ifs:List Qq) (m:Sem Unit):Prop:=
 ∀(R:Result->Pk->Prop) (E:Ph->Pk->Prop) (I:Nat->Pk->Prop),(∀v s,E v s->YI (Qj prog w) A env (λx s'=>R (.error x) s') v s)->(∀n s,I n s->P_ (Qj prog w) A (VM it) (λr s₁=>match r with
   | none=>R (.ok .next) s₁
   | some v=>P_ (Qj prog w) A (Ss O9 it v) (λ_ s₁=>P_ (Qj prog w) A (assign O9 env v) (λ_ s₂=>
     P_ (Qj prog w) A (CV ifs env) (λok s₃=>if ok=true then P_ (Qj prog w) A m (λ_ s₅=>∃m,m < n/\I m s₅) E s₃ else ∃m,m < n/\I m s₃) E s₂) E s₁) E s₁) E s)->
  ∀(n:Nat) (s:Pk),I n s->Uy (Qj prog w) A (.compLoop e depth it acc env) R s
section
variable {prog:PX}{w:Qn}{A:Qx}{O9 Pa:Qq}{ifs:List Qq}{O5:SJ}{pos:Pos}{it acc:Ph}{env:Env}{depth:Nat}{gens:List X6}{act:Sem Unit}
theorem Ez {R:Result->Pk->Prop}{I:Nat->Pk->Prop}{E:Ph->Pk->Prop}{code:Code}{n:Nat}{s:Pk}{Q:Fin->Pk->Prop}
  (ON:∀s,R (.ok .next) s->Q (.done .next) s) (OD:∀s,(∃m,m < n/\I m s)->P_ (Qj prog w) A (again code) Q E s)
  (t:P_ (Qj prog w) A (VM it) (λr s₁=>match r with
   | none=>R (.ok .next) s₁
   | some v=>P_ (Qj prog w) A (Ss O9 it v) (λ_ s₁=>P_ (Qj prog w) A (assign O9 env v) (λ_ s₂=>
     P_ (Qj prog w) A (CV ifs env) (λok s₃=>if ok=true then P_ (Qj prog w) A act (λ_ s₅=>∃m,m < n/\I m s₅) E s₃ else ∃m,m < n/\I m s₃) E s₂) E s₁) E s₁) E s):
  P_ (Qj prog w) A (FJ O9 Pa ifs it env act (again code)) Q E s:=by
 refine Pf (Td (Pf (QZ t (λr s₁ h₁=>?_) λ_ _ f=>f)));cases r with
 | none=>exact PU (ON _ h₁)
 | some v=>
  refine Pf (QZ h₁ (λ_ s₁' h₁'=>?_) λ_ _ f=>f);refine Pf (QZ h₁' (λ_ s₂ h₂=>Pf (QZ h₂ (λok s₃ h₃=>?_) λ_ _ f=>f)) λ_ _ f=>f);cases ok with
  | false=>exact OD _ h₃
  | true=>exact Pf (QZ h₃ (λ_ s₅ h₅=>OD _ h₅) λ_ _ f=>f)
theorem E7 {elt:Qq}(ht:compTurn (.ListComp elt gens O5 pos) depth it acc env=FJ O9 Pa ifs it env act (again (.compLoop (.ListComp elt gens O5 pos) depth it acc env))):Am prog w A (.ListComp elt gens O5 pos) depth it acc env O9 ifs act:=by intro R E I hE turn n s h;refine codeAny_loop rfl I (λn s hI=>?_) n h;show P_ _ A ((compTurn (.ListComp elt gens O5 pos) depth it acc env).onRaise (λx=>do Sb x env;theTreesLotGoes x)) _ _ s;refine wpAny_noted ?_;rw [ht];exact QZ (Ez (E:=E) (Q:=λf s'=>match f with | .done g=>R (.ok g) s' | .again c=>c=_/\∃m,m < n/\I m s') (λ_ h=>h) (λ_ h=>PU ⟨rfl,h⟩) (turn n s hI)) (λ_ _ h=>h) hE
end
section
variable {X:Cx}{c:C}{p:PK}{Acc:Hp->Hp->List D->Prop}{J2 H2:Hp}{N:Nat}{m:Sem Unit}{act:Ev->M (List D×Ev)}{O9:Qq}{ifs:List Qq}{gt:GT}{gts:G Bool}{e:Qq}{depth:Nat}{acc:Ph}{it:PK}{fp:List PK}{tn:Nat->QV->Prop}{It:It}{ds:List D}{J1:Hp}
theorem DR (aR:Dd Acc) (hc:X.calm=true){Rx:Ph->Pk->Prop}(hx:∀v s,X.xe v s->YI (Qj X.prog X.w) X.A X.env Rx v s) (LP:Am X.prog X.w X.A e depth (.ref it) acc X.env O9 ifs m) (hT:EM X c O9 gt) (hIf:Dk X c ifs gts) (hA:Dj X c p Acc J2 H2 N m act) (T:Turn X.prog X.w X.K O9 It fp it tn)
  (U:Hp->Hp->Prop) (wk:Walk c It ds J1 U){O6:List (PK×Obj)}{s:Pk}{σ:L2.St}{H J:Hp}{env:Ev}{ys:List D}{Qf:List D×Ev->Prop}(hU:∀J' H',Ext J2 H2 J' H'->aV J J'->U J' H') (I:Inv X O6 σ H s) (st:tn 0 s.heap) (fr:∀b∈fp,iJ X O6 H b) (e2:Ext J2 H2 J H) (sr:SR c J H σ env) (no:zB env σ p) (ac:Acc J H ys)
  (hl:ys.length + ds.length * N<=sizeLine) (w:cg (eO gt gts act ds env) Qf c.T):
  Uy (Qj X.prog X.w) X.A (.compLoop e depth (.ref it) acc X.env) (λr s'=>match r with | .error x=>Rx x s' | .ok f=>f=.next/\∃σ' H' J' r',Inv X O6 σ' H' s'/\Ext J2 H2 J' H'/\aV J J'/\SR c J' H' σ' r'.2/\zB r'.2 σ' p/\Acc J' H' (ys++r'.1)/\r'.1.length<=ds.length * N/\Qf r') s:=by
 refine LP _ X.xe (λn s'=>∃(i:Nat) (σ':L2.St) (H' J':Hp) (env':Ev) (zs:List D),n=ds.length - i/\i<=ds.length/\Inv X O6 σ' H' s'/\tn i s'.heap/\(∀b∈fp,H' b=none)/\Ext J2 H2 J' H'/\aV J J'/\SR c J' H' σ' env'/\zB env' σ' p/\Acc J' H' (ys++zs)/\zs.length<=i * N/\
  cg (eO gt gts act (ds.drop i) env') (λr=>Qf (zs++r.1,r.2)) c.T) hx ?_ ds.length s ⟨0,σ,H,J,env,[],rfl,QG _,I,st,λb hb=>(fr b hb).1,e2,aV.refl J,sr,no,by rw [Ql];exact ac,by simp,by rw [R8];exact w⟩
 rintro n s' ⟨i,σ',H',J',env',zs,rfl,hi,I',st',fr',e',sj,sr',no',ac',hz,w'⟩;have stat:∀{H':Hp},(∀b∈fp,H' b=none)->∀b∈fp,iJ X O6 H' b:=λhn b hb=>⟨hn b hb,(fr b hb).2⟩;obtain ⟨wk1,wk2⟩:=wk i J' H' sr'.hp (hU J' H' e' sj);by_cases hlt:i < ds.length
 ·obtain ⟨g1,y1⟩:=wk2 ds[i] (by simp [hlt]);rw [Ry hlt] at w';refine QZ (T.item X rfl rfl rfl hc i O6 s' σ' H' X.xe I' (stat fr') st' g1) (λr s4 ⟨u,hr,h4⟩=>?_) λ_ _ f=>f;subst hr;refine QZ h4 (λ_ s5 ⟨x,H5,I5,r5,y5,st5,fr5⟩=>?_) λ_ _ f=>f;obtain ⟨J5,e5,rx⟩:=y1 x H5 y5;have I5':=I5.pinned (stat fr5) (T.obj _ _ st5);have again:∀{σ7:L2.St}{H7:Hp}{s7:Pk},Inv X (O6++pB fp s5.heap) σ7 H7 s7->Inv X O6 σ7 H7 s7/\tn (i + 1) s7.heap/\(∀b∈fp,H7 b=none):=fun {σ7 H7 s7} I7=>by refine ⟨I7.unpinned,T.keep _ _ _ st5 λb hb o e=>(I7.pin (b,o) (Qo _ (Qo _ (jX hb e)))).1,λb hb=>?_⟩;obtain ⟨o,e,d⟩:=T.obj _ _ st5 b hb;exact (I7.pin (b,o) (Qo _ (Qo _ (jX hb e)))).2.1
  refine QZ (hT _ s5 σ' H5 x u (λσ6 H6=>∃e6,H6=H5/\SR c J5 H5 σ6 e6/\KO env' σ' e6 σ6/\cg (gts e6 >>= λk=>if k=true then act e6 >>= λr=>eO gt gts act (ds.drop (i + 1)) r.2 >>= λz=>.ok (r.1++z.1,z.2) else eO gt gts act (ds.drop (i + 1)) e6)
   (λr=>Qf (zs++r.1,r.2)) c.T) I5' r5 ⟨J5,env',ds[i],sr'.ext e5,rx,aB (aH w') λe6 w6 σ6 sr6 ko=>⟨e6,rfl,sr6,ko,w6⟩⟩) (λ_ s6 ⟨σ6,H6,I6,e6,OM,sr6,ko,w6⟩=>?_) λ_ _ f=>f
  subst OM;have no6:zB e6 σ6 p:=λj xs q z=>by obtain ⟨k1,k2⟩:=ko j xs q;exact no' j xs k1 (k2▸z)
  refine QZ (hIf _ s6 σ6 H6 (λk H7=>∃J7,Ext J5 H6 J7 H7/\cg (if k=true then act e6 >>= λr=>eO gt gts act (ds.drop (i + 1)) r.2 >>= λz=>.ok (r.1++z.1,z.2) else eO gt gts act (ds.drop (i + 1)) e6)
   (λr=>Qf (zs++r.1,r.2)) c.T) I6 ⟨J5,e6,sr6,aB (aH w6) λk wk J7 H7 e7=>⟨J7,e7,wk⟩⟩) (λk s7 ⟨H7,I7,J7,e7,w7⟩=>?_) λ_ _ f=>f
  have sr7:=sr6.ext e7;have ac7:=aR.ext (aR.ext ac' e5) e7;have x7:=(e'.trans e5).trans e7;have j7:=(sj.trans e5.j).trans e7.j;have hm:(i + 1) * N=i * N + N:=by rw [Xe,Xf]
  cases k with
  | false=>
   rw [if_neg (by decide)] at w7 ⊢;obtain ⟨a1,a2,a3⟩:=again I7;exact ⟨ds.length - (i + 1),by omega,i + 1,σ6,H7,J7,e6,zs,rfl,hlt,a1,a2,a3,x7,j7,sr7,no6,ac7,by omega,w7⟩
  | true=>
   rw [if_pos rfl] at w7 ⊢;have hN:(i + 1) * N<=ds.length * N:=Vu N hlt;refine QZ (hA _ s7 σ6 H7 J7 e6 (ys++zs) _ I7 x7 sr7 no6 ac7 (by rw [Pu];omega) (aH w7)) (λ_ s8 ⟨σ8,H8,J8,r,I8,x8,j8,sr8,no8,ac8,l8,w8⟩=>?_) λ_ _ f=>f;obtain ⟨a1,a2,a3⟩:=again I8;refine ⟨ds.length - (i + 1),by omega,i + 1,σ8,H8,J8,r.2,zs++r.1,rfl,hlt,a1,a2,a3,x8,j7.trans j8,sr8,no8,by rw [<-SH];exact ac8,by rw [Pu];omega,?_⟩;refine aB (aH w8) λz q=>?_;rw [SH];exact q
 ·have OV:i=ds.length:=by omega
  subst OV;rw [Tp (PJ _)] at w';refine QZ (T.done X rfl rfl rfl hc _ O6 s' σ' H' X.xe I' (stat fr') st' (wk1 (PJ _))) (λr s4 ⟨hr,I9⟩=>?_) λ_ _ f=>f;subst hr;have w9:Qf (zs++[],env'):=w';rw [Ql] at w9;exact ⟨rfl,σ',H',J',(zs,env'),I9,e',sj,sr',no',ac',hz,w9⟩
end
noncomputable def i7 (ge:G R):Ev->M (List D×Ev):=λe=>ge e >>= λr=>toD r >>= λy=>.ok ([y],e)
noncomputable def Aw (c:C) (p:PK):Hp->Hp->List D->Prop:=λJ H ys=>∃us,H p=some (.lst us)/\J p=none/\aT c.K J ys us
theorem wX:Dd (Aw c p):=⟨fun {J H J' H' ys} ⟨us,h1,h2,h3⟩ e=>⟨us,e.h _ _ h1,e.frz _ (by rw [h1];intro z;cases z) h2,h3.mono e.j⟩⟩
section
variable {X:Cx}{c:C}{p:PK}{J2 H2:Hp}{elt:Qq}{ge:G R}
theorem zF (hp2:H2 p=none) (hp0:c.H0 p=none) (hE:PD X c elt ge):Dj X c p (Aw c p) J2 H2 1 (do let _ <-call (.builtin "list.append") [.ref p,<-eval elt X.env]) (i7 ge):=by
 intro O6 s σ H J env ys Qf I x2 sr no ⟨us,h1,h2,h3⟩ hl w;have hlen:ys.length=us.length:=h3.length;refine Pf (QZ (hE _ s σ H (λv H8=>∃J8 y,Ext J H J8 H8/\Rep c.K J8 y v/\Qf ([y],env)) I ⟨J,env,sr,aB (aH w) λr wr v J8 H8 e8 r8=>?_⟩) (λu8 s8 ⟨v8,H8,I8,r8,J8,y,e8,ry,w8⟩=>?_) λv s f=>f)
 ·obtain ⟨y,q,wr⟩:=kq wr;obtain ⟨J9,e9,_,ry⟩:=freeze e8 r8 q;exact ⟨J9,y,e9,ry,wr⟩
 have p8:H8 p=some (.lst us):=e8.h _ _ h1;have J8p:J8 p=none:=e8.frz _ (by rw [h1];intro z;cases z) h2;refine Pf (QZ (o_ (X:=X) _ s8 σ H8 (.ref p) [v8] (.ref p) [u8] (λ_ H9=>H9=L2.upd H8 p (.lst (us++[v8]))) I8 rfl (.cons r8 .nil) ⟨_,us,v8,rfl,rfl,p8,by omega,rfl⟩) (λ_ s9 ⟨_,H9,I9,_,h9⟩=>?_) λv s f=>f);subst h9;exact PU ⟨σ,_,J8,([y],env),I9,(x2.trans e8).other hp2 J8p,e8.j,(sr.ext e8).other J8p hp0 no,no,⟨us++[v8],bI,J8p,(h3.mono e8.j).append (.cons ry .nil)⟩,PJ _,w8⟩
end
noncomputable def xP (lim n:Nat) (cap:List Nat) (gi:G (List D)) (gt:GT) (gts:G Bool) (act:Ev->M (List D×Ev)) (fin:List D->M R):G R:=λenv=>gi env >>= λds=>if ds.length<=lim then eO gt gts act ds (cE n cap env) >>= λr=>fin r.1 else .bad
section
variable {X:Cx}{c:C}
structure ED (X:Cx) (O5:SJ) (cap:List Nat) (Pa:Qq):Prop where
 hk:O5.kind=.function
 hno:EU X cap O5=true
 hnames:(O5.names.all λx=>!(x.2 == .local) || (O5.names.lookup x.1 == some .local))=true
 hcl:(gw X.env.cells O5.names []).isSome=true
 hcap:pU X cap=true
 hloc:BE X cap O5=true
 hnd:yi cap=true
 NK:X.calm=true
 hs:∀x,Sz Pa X.env x=pure x
theorem LL {O5:SJ}(hcl:(gw X.env.cells O5.names []).isSome=true) (hk:autoParam (O5.kind=.function) zA._auto_1) (hno:autoParam (EU X cap O5=true) zA._auto_1) (hnames:autoParam ((O5.names.all λx=>!(x.2 == .local) || (O5.names.lookup x.1 == some .local))=true) zA._auto_1)
 (hcap:autoParam (pU X cap=true) zA._auto_1) (hloc:autoParam (BE X cap O5=true) zA._auto_1) (hnd:autoParam (yi cap=true) zA._auto_1) (NK:autoParam (X.calm=true) zA._auto_1) (hs:∀x,Sz Pa X.env x=pure x:=by intro _;rfl):ED X O5 cap Pa:=⟨hk,hno,hnames,hcl,hcap,hloc,hnd,NK,hs⟩
noncomputable def Bj (X:Cx) (c:C) (cm:Option (Ph->Sem Unit)->Sem Ph) (g:G R):Prop:=
 ∀{O6:List (PK×Obj)}{s:Pk}{σ:L2.St}{H:Hp}{Q:VK}{use:Option (Ph->Sem Unit)}{Q0:Ph->Pk->Prop},Inv X O6 σ H s->tD c g σ H Q->
  (∀(acc C:PK) (m:Str->Option Ph) (s':Pk) (H':Hp) (fl:Flow),s'.heap.Ns C m->((C∈X.ex\/X.s₀.heap.objs.size<=C)/\C≠X.env.locals/\(∀x c,X.env.cells.lookup x=some c->c≠C)/\∀p∈X.pn++O6,p.1≠C)->H' C=none->(∀h'',RA C s'.heap h''->Inv X O6 σ H' {s' with heap:=h''})->Q (.ref acc) H'->compPost (Qj X.prog X.w) X.A X.xe use Q0 (.ref acc) C (.ok fl) s')->
  P_ (Qj X.prog X.w) X.A (cm use) Q0 X.xe s
noncomputable abbrev qE (X:Cx) (own:List Str) (cap:List Nat) (O5:SJ) (cl:List (Str×PK)) (C:PK) (s:Pk) (H:Hp) (fp:List PK) (xe:Ph->Pk->Prop):Cx:={f_ X own cap O5 cl C s H fp with xe:=xe}
noncomputable def Dp (X:Cx) (own:List Str) (cap:List Nat) (O5:SJ) (xc:List (Str×PK)->PK->Pk->Hp->List PK->Ph->Pk->Prop):Prop:=
 ∀(cl:List (Str×PK)) (C:PK) (s:Pk) (H:Hp) (fp:List PK) (O6:List (PK×Obj)) (σ:L2.St) (H2:Hp) (s2:Pk),Inv X O6 σ H2 s2->s2.heap.objs.size<=s.heap.objs.size->(∀pi σ' H' s1 h'',Inv (f_ X own cap O5 cl C s H fp) pi σ' H' s1->RA C s1.heap h''->Inv X O6 σ H' {s1 with heap:=h''})->
  ∀v s',xc cl C s H fp v s'->YI (Qj X.prog X.w) X.A (f_ X own cap O5 cl C s H fp).env (λx s3=>∃m,s3.heap.Ns C m/\∀h',RA C s3.heap h'->∀cenv:Env,cenv.locals=C->P_ (Qj X.prog X.w) X.A (passOn "comprehension.variables-let-go" x cenv:Sem Ph) (λ_ _=>False) X.xe {s3 with heap:=h'}) v s'
noncomputable abbrev pO:List (Str×PK)->PK->Pk->Hp->List PK->Ph->Pk->Prop:=λ_ _ _ _ _ _ _=>False
theorem Kw {own:List Str}{cap:List Nat}{O5:SJ}:Dp X own cap O5 pO:=λ_ _ _ _ _ _ _ _ _ _ _ _ _ _ f=>f.elim
theorem xG (own:List Str) (cap:List Nat){xc:List (Str×PK)->PK->Pk->Hp->List PK->Ph->Pk->Prop}{e O9 Pa:Qq}{ifs:List Qq}{gs:List X6}{O5:SJ}{gi:G (List D)}{gt:GT}{gts:G Bool}{act:Ev->M (List D×Ev)}{fin:List D->M R}{newAcc:Sem Ph}{ob:Obj}{o0:PK->HO}{Acc:PK->Hp->Hp->Hp->List D->Prop}{N lim:Nat}{m:PK->Env->Sem Unit}
  (hcls:clausesOf e=⟨O9,Pa,ifs,0⟩::gs) (hi:LH X c O9 Pa gi)
  (hnew:∀(s:Pk) (Q:Ph->Pk->Prop) (E:Ph->Pk->Prop),Q (.ref s.heap.objs.size) {s with heap:=s.heap.push ob}->P_ (Qj X.prog X.w) X.A newAcc Q E s)
  (hob:∀(h:QV) (H:Hp),dX X.prog X.w H (h.push ob) h.objs.size (o0 h.objs.size))
  (aR:∀p H2,Dd (Acc p H2)) (a0:∀(p:PK) (H2 J H:Hp),T5 < p->H p=some (o0 p)->J p=none->Acc p H2 J H [])
  (hN:lim * N<=sizeLine) (LP:∀(it p:PK) (env:Env),Am X.prog X.w X.A e 0 (.ref it) (.ref p) env O9 ifs (m p env))
  (start:∀(it:PK) (acc:Ph) (env:Env) (R:Result->Pk->Prop) (s:Pk),Uy (Qj X.prog X.w) X.A (.compLoop e 0 (.ref it) acc env) R s->P_ (Qj X.prog X.w) X.A (Yb (.ref it)) (λit' s'=>Uy (Qj X.prog X.w) X.A (.compLoop e 0 it' acc env) R s') (YI (Qj X.prog X.w) X.A env λx s'=>R (.error x) s') s->Uy (Qj X.prog X.w) X.A (.compStart e 0 (.ref it) acc env) R s)
  (nofin:∀ys z,fin ys≠.exc z) (hend:∀{p:PK}{H2 J H J' H':Hp}{ys:List D}{r:R},H p=none->aV H H2->Ext J H J' H'->Acc p H2 J' H' ys->fin ys=.ok r->∃J'',Ext J H J'' H'/\RR c H J'' H' r (.ref p))
  (hbody:∀(cl:List (Str×PK)) (C:PK) (s:Pk) (H:Hp) (fp:List PK),gw X.env.cells O5.names []=some cl->EM (qE X own cap O5 cl C s H fp (xc cl C s H fp)) c O9 gt/\Dk (qE X own cap O5 cl C s H fp (xc cl C s H fp)) c ifs gts/\∀(p:PK) (J2 H2:Hp),H2 p=none->c.H0 p=none->Dj (qE X own cap O5 cl C s H fp (xc cl C s H fp)) c p (Acc p H2) J2 H2 N (m p (f_ X own cap O5 cl C s H fp).env) act)
  (hxc:Dp X own cap O5 xc) (a:ED X O5 cap Pa){pos':Pos}:Bj X c (λuse=>comprehension e O5 X.env pos' newAcc false (eval Pa X.env) use) (xP lim own.length cap gi gt gts act fin):=by
 obtain ⟨hk,hno,hnames,hcl,hcap,hloc,hnd,NK,hs⟩:=a;intro O6 s σ H Q use Q0 I h Oo;obtain ⟨J,env,sr,w⟩:=h;obtain ⟨cl,hcl⟩:=Rn.mp hcl;have Oq:∀j∈cap,∀x,X.N[j]?=some x->d9 O5.names x=false:=λj hj x hx=>by have:=PF.mp hno j hj;rw [hx] at this;simpa using this
 have N6:∀x∈O5.names,x.2=.local->O5.names.lookup x.1=some .local:=λy hy z=>by have:=PF.mp hnames y hy;rw [z] at this;simpa using this
 have Od:∀j∈cap,∀x,X.N[j]?=some x->(relabel O5 X.env).names.lookup x≠some .local:=λj hj x hx z=>by have:=PF.mp hloc j hj;rw [hx] at this;simp only at this;rw [z] at this;cases this
 refine wpAny_comprehension_free (use:=use) hcls hs (vR hcl) hk N6 ?_;refine bT (hi O6 s σ H (λIt H1=>∃ds J1,Ext J H J1 H1/\Walk c It ds J1 (λJ' H'=>aV J1 J'/\aV H1 H')/\
  cg (if ds.length<=lim then eO gt gts act ds (cE own.length cap env) >>= λr=>fin r.1 else .bad) (λr=>∀v J' H',Ext J H J' H'->RR c H J' H' r v->Q v H') c.T) I ⟨J,env,sr,aB (aH w) λds wd It J1 H1 e1 wk=>⟨ds,J1,e1,wk,wd⟩⟩) λxv s1 h1=>bT h1 λitv s2 h2=>?_
 obtain ⟨it,fp,tn,It,H2,rfl,I2,T,st2,f2,ds,J2,e2,wk,w2⟩:=h2;have hsz:ds.length<=lim:=by
  by_cases z:ds.length<=lim
  ·exact z
  ·rw [if_neg z] at w2;exact w2.elim
 rw [if_pos hsz] at w2;have w3:=aH w2;refine hnew s2 _ _ (AX ?_);dsimp only;generalize Oh:s2.heap.push ob=Hs;have hC:Hs.objs.size=s2.heap.objs.size + 1:=by rw [<-Oh,RK]
 have hp2:H2 s2.heap.objs.size=none:=I2.hok.fresh (PJ _);have kHs:∀b o,s2.heap.get? b=some o->Hs.get? b=some o:=λb o e=>by rw [<-Oh];exact Pq _ e
 have I3:Inv X O6 σ (L2.upd H2 s2.heap.objs.size (o0 s2.heap.objs.size)) {s2 with heap:=Hs,toks:=s2.toks}:=I2.laid (t':=s2.toks) kHs (PJ _) (by rw [<-Oh];exact hob _ _);have f3:∀b∈fp,iJ X O6 (L2.upd H2 s2.heap.objs.size (o0 s2.heap.objs.size)) b:=λb hb=>by obtain ⟨o,ho,_⟩:=T.obj _ _ st2 b hb;exact ⟨by rw [aW (QA (PL ho))];exact (f2 b hb).1,(f2 b hb).2⟩
 have hin:∀b∈fp,b < Hs.objs.size:=λb hb=>by obtain ⟨o,ho,_⟩:=T.obj _ _ st2 b hb;exact Uu (PL ho) (by rw [hC];exact U3 _)
 obtain ⟨h₁,eh₁⟩:∃h₁,h₁=Xc (Hs.push {cls:=.type "dict",data:=.dict #[]}) O5.names:=⟨_,rfl⟩;rw [<-eh₁];have hns₁:h₁.Ns Hs.objs.size (λ_=>none):=by rw [eh₁];exact Ju Hs O5.names
 have ck:YH h₁ (Hs.objs.size + 1) (QW (Hs.objs.size + 1) O5.names []):=by rw [eh₁];exact BF Hs O5.names
 have okC:=Gi (own:=own) (cap:=cap) I3 hk hcl ck f3 hin;have old1:∀b o,Hs.get? b=some o->h₁.get? b=some o:=λb o e=>by rw [eh₁];exact Xd _ _ _ _ (Pq _ e)
 have I4:=Dv (tk:=s2.toks) I3 okC hcl ck hcap Od Oq hns₁ old1;have sr2:=sr.ext e2;have srA:SR c J2 (L2.upd H2 s2.heap.objs.size (o0 s2.heap.objs.size)) σ env:=sr2.ext (Ext.new e2.sub hp2 _);have J2p:J2 s2.heap.objs.size=none:=e2.sub.free hp2;have H0p:c.H0 s2.heap.objs.size=none:=sr2.hp.ent.free hp2;have nown:∀(j:Nat) (xs:Mn),(cE own.length cap env)[j]?=some (some (mS xs))->(Qe own.length none++cap.map λ(j:Nat)=>(σ[j]?).getD none)[j]?≠some (some (.ref s2.heap.objs.size)):=λj xs q z=>by obtain ⟨a,h1,h2,h3⟩:=iE q;obtain ⟨a',h4,h5,h6⟩:=iE z;rw [h2] at h5;cases h5;obtain ⟨p,k1,k2,_⟩:=sr2.mine h3;rw [h6] at k1;cases k1;exact k2 hp2
 obtain ⟨hT,hIf,hE⟩:=hbody cl Hs.objs.size {s2 with heap:=Hs,toks:=s2.toks} (L2.upd H2 s2.heap.objs.size (o0 s2.heap.objs.size)) fp hcl;have fpC:∀{H':Hp},(∀b∈fp,H' b=none)->∀b∈fp,iJ (f_ X own cap O5 cl Hs.objs.size {s2 with heap:=Hs,toks:=s2.toks} (L2.upd H2 s2.heap.objs.size (o0 s2.heap.objs.size)) fp) [] H' b:=fun {H'} hn b hb=>by
  obtain ⟨m1,_⟩:=iR O5.names [] cl hcl (λx c h=>by simp at h);refine ⟨hn b hb,QA (hin b hb),λz=>?_,.inl hb,λx d h=>(gu h).elim (λh=>TL (PM (hin b hb) (Se (ck.empty _ _ (Ti h)).2))) (λh=>(f2 b hb).2.2.2.2.1 x d (m1 x d h.2)),λp hp=>absurd (show p∈([]:List (PK×Obj)) from hp) (by simp)⟩;rcases Pp.mp (I2.stkSub b z) with e | e
  ·exact (f2 b hb).2.1 e
  ·exact (f2 b hb).2.2.1 e
 have back:∀{pi:List (PK×Obj)}{σ':L2.St}{H':Hp}{s':Pk}{h'':QV},Inv (f_ X own cap O5 cl Hs.objs.size {s2 with heap:=Hs,toks:=s2.toks} (L2.upd H2 s2.heap.objs.size (o0 s2.heap.objs.size)) fp) pi σ' H' s'->RA Hs.objs.size s'.heap h''->Inv X O6 σ H' {s' with heap:=h''}:=fun {pi σ' H' s' h''} I' sb=>by
  have B:Un (frs X.stack) fp (L2.upd H2 s2.heap.objs.size (o0 s2.heap.objs.size)) H' Hs s'.heap:=I'.base;have ne2:∀{b:PK}{o:Obj},s2.heap.get? b=some o->b≠s2.heap.objs.size/\b≠Hs.objs.size:=fun {b o} e=>
   ⟨QA (PL e),QA (Uu (PL e) (by rw [hC];exact U3 _))⟩
  have nH:∀{b:PK}{o:HO},H2 b=some o->L2.upd H2 s2.heap.objs.size (o0 s2.heap.objs.size) b=some o:=fun {b o} e=>by rw [aW (e_ e hp2)];exact e
  refine Inv.call' (ch:=fp) (s':={s' with heap:=h''}) I2 I'.os ⟨λb o e n hf hx=>?_,λb o e n hf hx=>?_,λb o e n hx=>?_,λb o e hx=>?_,λb xs e=>B.tups b xs (nH e),λb o u e=>B.frzs b o u (nH e),λb ps e=>B.tbls b ps (nH e)⟩ (zj I'.hok I'.free sb) I'.bare λb hb=>⟨(f2 b hb).2.2.2.1,(f2 b hb).2.1,(f2 b hb).2.2.2.2.1,(f2 b hb).2.2.2.2.2⟩
  ·exact (sb.2 b (ne2 e).2).trans (B.keep b o (kHs b o e) (by rw [aW (ne2 e).1];exact n) hf hx)
  ·obtain ⟨sl,z⟩:=B.slot b o (kHs b o e) (by rw [aW (ne2 e).1];exact n) hf hx;exact ⟨sl,(sb.2 b (ne2 e).2).trans z⟩
  ·exact B.free b o (kHs b o e) (by rw [aW (ne2 e).1];exact n) hx
  ·obtain ⟨o',z⟩:=B.there b o (kHs b o e) hx;exact ⟨o',(sb.2 b (ne2 e).2).trans z⟩
 have out:∀{pi:List (PK×Obj)}{σ':L2.St}{H':Hp}{s':Pk}{xe:Ph->Pk->Prop},Inv (qE X own cap O5 cl Hs.objs.size {s2 with heap:=Hs,toks:=s2.toks} (L2.upd H2 s2.heap.objs.size (o0 s2.heap.objs.size)) fp xe) pi σ' H' s'->Inv (f_ X own cap O5 cl Hs.objs.size {s2 with heap:=Hs,toks:=s2.toks} (L2.upd H2 s2.heap.objs.size (o0 s2.heap.objs.size)) fp) pi σ' H' s':=λI=>⟨okC,I.os,I.bare,I.base,I.loc,I.cell,I.free,I.freeC,I.pin,I.hok,I.len⟩;have o:=okC;have okE:∀xe,(qE X own cap O5 cl Hs.objs.size {s2 with heap:=Hs,toks:=s2.toks} (L2.upd H2 s2.heap.objs.size (o0 s2.heap.objs.size)) fp xe).Ok:=λxe=>⟨o.mod,o.kind,o.glob,o.blt,o.above,o.inj,o.has,o.cab,o.hd,o.frames,o.stk,o.exf,o.bs,o.bsz,o.noex,o.exfs,o.funs,o.frf⟩;have run:=λ(s4:Pk) (I4:Inv (f_ X own cap O5 cl Hs.objs.size {s2 with heap:=Hs,toks:=s2.toks} (L2.upd H2 s2.heap.objs.size (o0 s2.heap.objs.size)) fp) [] _ _ s4) (st4:tn 0 s4.heap)=>DR (X:=qE X own cap O5 cl Hs.objs.size {s2 with heap:=Hs,toks:=s2.toks} (L2.upd H2 s2.heap.objs.size (o0 s2.heap.objs.size)) fp (xc cl Hs.objs.size {s2 with heap:=Hs,toks:=s2.toks} (L2.upd H2 s2.heap.objs.size (o0 s2.heap.objs.size)) fp)) (e:=e) (depth:=0) (acc:=.ref s2.heap.objs.size) (aR _ _) NK (hxc cl Hs.objs.size {s2 with heap:=Hs,toks:=s2.toks} (L2.upd H2 s2.heap.objs.size (o0 s2.heap.objs.size)) fp O6 σ H2 s2 I2 (P6 (Ua _) (TN hC.symm)) λ_ _ _ _ _ I' sb=>back I' sb) (LP it _ _) hT hIf (hE s2.heap.objs.size J2 H2 hp2 H0p) T (λJ' H'=>aV J2 J'/\aV H2 H') wk (λJ' H' x _=>⟨x.j,x.h⟩) ⟨okE _,I4.os,I4.bare,I4.base,I4.loc,I4.cell,I4.free,I4.freeC,I4.pin,I4.hok,I4.len⟩ st4 (fpC λb hb=>(f3 b hb).1) (Ext.new e2.sub hp2 _) (srA.cap own.length cap (zX hnd)) nown (a0 _ _ _ _ (Iz I2) bI J2p) (P6 (by rw [RS,Yh];exact Vu N hsz) hN) w3;have st4:=T.keep _ _ _ st2 (λb hb o e=>old1 b o (kHs b o e));have go:=TM (run _ I4 st4) (R':=compPost (Qj X.prog X.w) X.A X.xe use Q0 (.ref s2.heap.objs.size) Hs.objs.size) λr s' h=>by
  cases r with
  | error x=>cases use <;> exact h
  | ok f=>
  obtain ⟨_,σ',H',J',r',I9,x9,j9,sr9,no9,ac9,l9,w9⟩:=h;obtain ⟨mm,hm,_⟩:=I9.loc;refine Oo s2.heap.objs.size Hs.objs.size mm _ H' _ hm (Iv I2 (by rw [hC];exact Ua _)) I9.free (λh'' sb=>back (out I9) sb) ?_;cases q:fin r'.1 with
  | bad=>rw [q] at w9;exact w9.elim
  | exc z=>rw [q] at w9;exact (nofin _ z q).elim
  | ok z=>
   rw [q] at w9;obtain ⟨J9,x10,rr⟩:=hend (e2.h.free hp2) e2.h (e2.trans x9) ac9 q;exact w9 _ J9 H' x10 rr
 exact start it _ _ _ _ go (T.self _ 0 _ _ _ st4 go)
noncomputable def v5 (X:Cx) (c:C) (e:Qq) (g:G R):Prop:=∃cm,Bj X c cm g/\eval e X.env=cm none/\∀use,evalThenUse e X.env use=(do let _ <-cm (some use))
theorem cY {g:G R}(h:v5 X c e g):QD X c e g:=by obtain ⟨cm,core,hev,_⟩:=h;refine ⟨λO6 s σ H Q I h=>?_⟩;rw [hev];exact core I h λacc C m s' H' fl hm hz hf hb q=>⟨m,hm,λh'' sb=>⟨.ref acc,H',hb h'' sb,rfl,q⟩⟩
theorem uK (i:Nat){g:G R}{pos' pos2:Pos}(hN:X.N.Nodup) (h:v5 X c e g) (hx:autoParam (X.N[i]?=some x) zA._auto_1) (OH:autoParam (X.env.scope.names.lookup x=some .local) zA._auto_1)
 (hsw:autoParam (Sq e (some (.Name x pos')) pos2.line X.env=pure true) zA._auto_1):jD X c (.Assign [.Name x pos'] e pos2) (aG i g):=by
 obtain ⟨cm,core,_,Ol⟩:=h;refine ⟨λO6 s σ H D I ⟨J,env,sr,w⟩=>?_⟩;rw [arm_exec_Assign];refine Pf (Td ?_);rw [show UP [.Name x pos'] e pos2.line X.env=pure true from hsw];refine Pf (PU ?_);rw [if_pos rfl,Ol];refine Pf (Pf (core (Q:=λv H1=>∃J1 r xx,Ext J H J1 H1/\RR c H J1 H1 r v/\toS r=.ok xx/\oP c J D (.nx (env.set i (some xx)))) I ⟨J,env,sr,aB (aH w) λr wr v J1 H1 e1 r1=>?_⟩ λacc C m s' H' fl hm ap hf hb ⟨J1,r,xx,e1,r1,q1,w1⟩=>?_))
 ·obtain ⟨xx,q,wr⟩:=uP wr;exact ⟨J1,r,xx,e1,r1,q,wr⟩
 ·have I1:L2.Inv X O6 σ H' s':=hb s'.heap (YW ..);show P_ _ _ (do W2 pos';bindName X.env x (.ref acc)) _ _ _;refine Pf (Td (wpAny_bindName ?_));refine vv I1 hN hx (.inl OH) (v:=.ref acc) (u:=.ref acc) rfl (λs2 I2 ⟨a,sb,ha⟩=>?_) (.inr OH);have hac:C≠a:=λz=>by
   rcases ha with e | e
   ·exact ap.2.1 (z.trans e)
   ·exact ap.2.2.1 _ _ e z.symm
  refine ⟨m,hm.sameBut sb hac,λh2 sb2=>?_⟩;refine PU (PU ⟨σ.set i (some (.ref acc)),H',Cg I2 ap hf sb2 (o0:=default),?_⟩);exact w1 _ J1 H' e1.j (sr.set e1 r1 q1)
end
end DL
namespace DL
open PySem PySem.Spec PyProof.Rows L2
end DL
namespace DL
open PySem PySem.Spec PyProof.Rows L2
variable {P R:D->Prop}
inductive Fm where
 | b | i | s | O4 (t:Fm) | tn | tc (x r:Fm)
end DL
namespace ST
open PySem PySem.SetTable
noncomputable def st (mask:Nat) (h:Int):Nat->Probe
 | 0=>({mask:=mask,place:=#[],dummies:=#[],finger:=0,led:=true,moves:=0,plain:=true}:SetTable).probeStart h
 | n + 1=>({mask:=mask,place:=#[],dummies:=#[],finger:=0,led:=true,moves:=0,plain:=true}:SetTable).advance (st mask h n)
noncomputable abbrev pos (mask:Nat) (h:Int) (n:Nat):Nat:=(st mask h n).j
end ST
namespace DL
open PySem PySem.Spec PyProof.Rows L2
end DL
namespace DL
open PySem PySem.Spec PyProof.Rows L2 ST
end DL
namespace DL
open PySem PySem.Spec PyProof.Rows L2 DX
open Classical in
noncomputable def KD:Type:={d:D // isKey d=true/\dep d<=8}
noncomputable instance:DecidableEq KD:=λa b=>X7 (a=b)
end DL
namespace DL
open PySem PySem.Spec PyProof.Rows L2 ST
end DL
namespace DL
open PySem PySem.Spec PyProof.Rows L2 ST PySem.SetTable
end DL
namespace DL
open PySem PySem.Spec PyProof.Rows L2 ST
end DL
namespace ST
open PySem PySem.SetTable
end ST
namespace DL
open PySem PySem.Spec PyProof.Rows L2 ST
end DL
namespace DL
open PySem PySem.Spec PyProof.Rows L2 ST
noncomputable def dd:List D->List D
 | []=>[]
 | x::xs=>if (dd xs).any (eo x)=true then dd xs else x::dd xs
end DL
namespace DL
open PySem PySem.Spec PyProof.Rows L2
end DL
namespace DL
open PySem PySem.Spec PyProof.Rows L2 DX
end DL
namespace DL
open PySem PySem.Spec PyProof.Rows L2
end DL
namespace DL
open PySem PySem.Spec PyProof.Rows L2 DX
section
variable {X:Cx}{c:C}{e:Qq}{es:List Qq}{pos:Pos}
theorem dj.or {r1 r2:List V->Hp->VK->Prop}(h1:dj X f r1) (h2:dj X f r2):dj X f (λxs H Q=>r1 xs H Q\/r2 xs H Q):=λO6 s σ H xs us Q I rv h=>h.elim (h1 O6 s σ H xs us Q I rv) (h2 O6 s σ H xs us Q I rv)
end
end DL
namespace DL
open PySem PySem.Spec PyProof.Rows L2 ST DX
end DL
namespace DL
open PySem PySem.Spec PyProof.Rows L2 DX
section
open PySem.SeqAt
open PySem.AutoSeq1 (wpAny_loadPart')
open PySem.MeetsSeq PySem.MeetsSeq2 PySem.MeetsSeq3
end
theorem ur (gt:GT) (gts:G Bool) (ge:G R):∀(ds:List D) (env:Ev) (k:List D->M R),(eO gt gts (i7 ge) ds env >>= λr=>k r.1)=(dR gt gts ge ds env >>= k)
 | [],env,k=>rfl
 | d::ds,env,k=>by
  unfold eO dR;cases gt d env with
  | bad=>rfl
  | exc z=>rfl
  | ok e=>
   show ((gts e >>= λk=>if k=true then i7 ge e >>= λr=>eO gt gts (i7 ge) ds r.2 >>= λz=>.ok (r.1++z.1,z.2) else eO gt gts (i7 ge) ds e) >>= _)=((gts e >>= λk=>if k=true then ge e >>= λr=>toD r >>= λy=>dR gt gts ge ds e >>= λys=>.ok (y::ys) else dR gt gts ge ds e) >>= _);cases gts e with
   | bad=>rfl
   | exc z=>rfl
   | ok b=>
    cases b with
    | false=>exact ur gt gts ge ds e k
    | true=>
     show ((i7 ge e >>= λr=>eO gt gts (i7 ge) ds r.2 >>= λz=>.ok (r.1++z.1,z.2)) >>= _)=((ge e >>= λr=>toD r >>= λy=>dR gt gts ge ds e >>= λys=>.ok (y::ys)) >>= _);unfold i7;cases ge e with
     | bad=>rfl
     | exc z=>rfl
     | ok r=>
      show (((toD r >>= λy=>M.ok ([y],e)) >>= λr=>eO gt gts (i7 ge) ds r.2 >>= λz=>.ok (r.1++z.1,z.2)) >>= _)=((toD r >>= λy=>dR gt gts ge ds e >>= λys=>.ok (y::ys)) >>= _);cases toD r with
      | bad=>rfl
      | exc z=>rfl
      | ok y=>
       have ih:=ur gt gts ge ds e λys=>k (y::ys);show ((eO gt gts (i7 ge) ds e >>= λz=>.ok ([y]++z.1,z.2)) >>= λr=>k r.1)=((dR gt gts ge ds e >>= λys=>M.ok (y::ys)) >>= k);have e1:((eO gt gts (i7 ge) ds e >>= λz=>M.ok ([y]++z.1,z.2)) >>= λr=>k r.1)=(eO gt gts (i7 ge) ds e >>= λr=>k (y::r.1)):=by cases eO gt gts (i7 ge) ds e <;> rfl
       have e2:((dR gt gts ge ds e >>= λys=>M.ok (y::ys)) >>= k)=(dR gt gts ge ds e >>= λys=>k (y::ys)):=by cases dR gt gts ge ds e <;> rfl
       rw [e1,e2,ih]
theorem zN (n:Nat) (cap:List Nat) (gi:G (List D)) (gt:GT) (gts:G Bool) (ge:G R):bC n cap gi gt gts ge=xP sizeLine n cap gi gt gts (i7 ge) (λys=>.ok (.l .fresh ys)):=by
 funext env;unfold bC xP;cases gi env with
 | bad=>rfl
 | exc z=>rfl
 | ok ds=>
  show (if ds.length<=sizeLine then _ else _)=(if ds.length<=sizeLine then _ else _);by_cases c:ds.length<=sizeLine
  ·rw [if_pos c,if_pos c];exact (ur gt gts ge ds _ λys=>.ok (.l .fresh ys)).symm
  ·rw [if_neg c,if_neg c]
section
variable {X:Cx}{c:C}
theorem ia (own:List Str) (cap:List Nat){O5:SJ}{pos:Pos}{gi:G (List D)}{gts:G Bool}{ge:G R}(hi:Bp X c O9 Pa gi)
 (hbody:∀(cl:List (Str×PK)) (C:PK) (s:Pk) (H:Hp) (fp:List PK),gw X.env.cells O5.names []=some cl->uS (f_ X own cap O5 cl C s H fp) c O9 gt/\Au (f_ X own cap O5 cl C s H fp) c ifs gts/\QD (f_ X own cap O5 cl C s H fp) c elt ge) (a:ED X O5 cap Pa:=by exact LL rfl):v5 X c (.ListComp elt [⟨O9,Pa,ifs,0⟩] O5 pos) (bC own.length cap gi gt gts ge):=by
 refine ⟨_,?_,rfl,λ_=>rfl⟩;rw [zN];refine xG (e:=.ListComp elt [⟨O9,Pa,ifs,0⟩] O5 pos) (ob:={cls:=.type "list",dict:=none,data:=.seq ([]:List Ph).toArray}) (o0:=λ_=>.lst []) (Acc:=λp _=>Aw c p) (N:=1) (lim:=sizeLine) (m:=λp env=>do let _ <-call (.builtin "list.append") [.ref p,<-eval elt env]) own cap rfl hi.h
  (λs Q E q=>Ro q) (λh H=>⟨QG _,[],0,.nil,Px _ rfl⟩) (λp _=>wX) (λp _ J H _ h1 h2=>⟨[],h1,h2,.nil⟩) (by rw [YJ];exact PJ _) (λit p env=>E7 (X8 ..)) (λit acc env R s h0 h=>U9 h0 h) (λys z q=>by cases q)
  (fun {p H2 J H J' H' ys r} hp _ e ⟨us,h1,h2,h3⟩ q=>by cases q;exact ⟨J',e,⟨p,us,rfl,h1,h2,hp,h3⟩⟩) (λcl C s H fp hcc=>?_) Kw a
 obtain ⟨b1,b2,b3⟩:=hbody cl C s H fp hcc;exact ⟨b1.h,b2.h,λp J2 H2 hp2 hp0=>zF hp2 hp0 b3.h⟩
end
end DL
namespace DL
open PySem PySem.Spec PyProof.Rows L2 DX
open Sem (wp)
end DL
namespace DL
open PySem PySem.Spec PyProof.Rows L2 DX
end DL
namespace DL
open PySem PySem.Spec PyProof.Rows L2
noncomputable def FA (K:Pe) (x:Str) (st:RV):Prop:=∃f fd,PR K Pz x=some (some (.ref f))/\gz K x x st f fd
theorem KJ {K:Pe}{st:RV}(a:PR K Pz x=some (some (.ref f)))
 (l:K.lookup f=some ⟨u,o,.func (Q5 x x (d8 st) (bW st) (aQ st) .none v d p n q r),s⟩) (c:TF K q x=true) (k:QN K (.ref f)=true):FA K x st:=⟨f,_,a,BO l c k⟩
noncomputable def FB (K:Pe) (mg:Str->Option Ph) (x:Str) (st:RV):Prop:=∃f fd,mg x=some (.ref f)/\gz K x x st f fd
theorem c5 {K:Pe}{h:QV}{mg:Str->Option Ph}(X:K.In h) (G:h.Ns Pz mg){st:RV}(e:FA K x st):FB K mg x st:=let ⟨f,fd,a,F⟩:=e;⟨f,fd,Qk X G a,F⟩
theorem MR {P:PX}{w:Qn}{K:Pe}{mg:Str->Option Ph}{base:QV}{x:Str}{st:RV}{k:Nat}{Fm:List S->M R}(gB:G O) (N:List Str) (n:Nat) (e:FB K mg x st)
  (hb:N.Nodup->∀(f:PK) (cdv:Ph) (A:Qx) (outer:List Env) (s:Pk) (H:Hp) (E:XK) (J:Hp) (T:Exc->Prop),cH k (A.deeper (SK x (aQ st) s.heap.objs.size f cdv))->
   lU (u0 P w K mg base N x (aQ st) f cdv A outer s H E) ⟨K,H,J,T⟩ (bW st) gB)
  (Sc:cL N (N.take n) (aQ st))
  (hbi:∀(kV doc pm:Ph) (an:Option PK) (cdv ct:Ph) (us:List Ph),us.length=(N.take n).length->Ur (Q5 x x (d8 st) (bW st) (aQ st) .none kV doc pm an cdv ct) ⟨us,[]⟩=pure ((N.take n).zip us))
  (hF:∀as r,as.length=(N.take n).length->Fm as=.ok r->fin (gB (ay N as))=.ok r):bQ P w K mg base (k + 1) (N.take n).length x Fm:=
 let ⟨f,_,hm,F⟩:=e;Ad F hm Sc hbi (hb Sc.nd f) hF
theorem qc {P:PX}{w:Qn}{K:Pe}{mg:Str->Option Ph}{base:QV}{x:Str}{st:RV}{k:Nat}{Fm:List S->M R}(gB:G O) (N:List Str) (n:Nat) (e:FB K mg x st)
  (hb:N.Nodup->∀(f:PK) (cdv:Ph) (A:Qx) (outer:List Env) (s:Pk) (H:Hp) (E:XK) (J:Hp) (T:Exc->Prop),cH k (A.deeper (SK x (aQ st) s.heap.objs.size f cdv))->
   lU (u0 P w K mg base N x (aQ st) f cdv A outer s H E) ⟨K,H,J,T⟩ (bW st) gB)
  (Sc:cL N (N.take n) (aQ st):=by exact ⟨rfl,rfl,rfl,by decide +kernel,rfl,by decide +kernel,by decide +kernel⟩)
  (hbi:∀(kV doc pm:Ph) (an:Option PK) (cdv ct:Ph) (us:List Ph),us.length=(N.take n).length->Ur (Q5 x x (d8 st) (bW st) (aQ st) .none kV doc pm an cdv ct) ⟨us,[]⟩=pure ((N.take n).zip us):=by
   intro _ _ _ _ _ _ us hl;rcases us with _ | ⟨_,_ | ⟨_,_ | ⟨_,_ | ⟨_,_ | ⟨_,_ | ⟨_,_ | ⟨_,_⟩⟩⟩⟩⟩⟩⟩ <;> first | exact rfl | (cases hl;done) | exact nomatch hl)
  (hF:∀as r,as.length=(N.take n).length->Fm as=.ok r->fin (gB (ay N as))=.ok r:=by intro _ _ _ h;exact h):bQ P w K mg base (k + 1) (N.take n).length x Fm:=
 MR gB N n e hb Sc hbi hF
section
variable {X:Cx}{c:C}{o a e:Qq}{es:List Qq}{go ga:G R}{apos cpos pos:Pos}
noncomputable def M7:List R->M R
 | [.d (.int i)]=>.ok (.d (.int (if i < 0 then -i else i)))
 | _=>.bad
theorem Ke:qA X (λx lo hi H Q=>∃z:Str,x=.str z/\z.length<=sizeLine/\Q (.str (QY z lo hi)) H):=by
 intro O6 s σ H x v vl vu lo hi sl Q I rx hs pl pu h;obtain ⟨z,rfl,hz,q⟩:=h;obtain ⟨t,rfl⟩:=rx;have fin:∀t' k,EP X O6 σ Q (.str (QY z lo hi) t') {s with toks:=k}:=λt' k=>⟨.str _,H,I.tok _,⟨_,rfl⟩,q⟩;cases pl <;> cases pu
 ·exact ⟨"str",_,Sf.lookup,SE _ _ _,Sj (l:=none) (u:=none) (st:=none) hs rfl (Ue ⟨P6 (Uw z _ _) hz,fin⟩)⟩
 ·exact ⟨"str",_,Sf.lookup,SE _ _ _,Sj (l:=none) (u:=some (_,_)) (st:=none) hs rfl (Ue ⟨P6 (Uw z _ _) hz,fin⟩)⟩
 ·exact ⟨"str",_,Sf.lookup,SE _ _ _,Sj (l:=some (_,_)) (u:=none) (st:=none) hs rfl (Ue ⟨P6 (Uw z _ _) hz,fin⟩)⟩
 ·exact ⟨"str",_,Sf.lookup,SE _ _ _,Sj (l:=some (_,_)) (u:=some (_,_)) (st:=none) hs rfl (Ue ⟨P6 (Uw z _ _) hz,fin⟩)⟩
noncomputable def gx:R->Option Int->Option Int->M R
 | .d (.str z),l,u=>if z.length<=sizeLine then .ok (.d (.str (QY z l u))) else .bad
 | _,_,_=>.bad
theorem fP {lo hi:Option Qq}{gl gh:GO}{p2:Pos}(h:QD X c o go) (hl:zD X c lo gl) (hh:zD X c hi gh):QD X c (.Subscript o (.Slice lo hi none p2) pos) (dw gx go gl gh):=⟨Fe Ke (by
 intro He J H x v l u Q hp rx w;unfold gx at w;split at w
 ·cases rx;split at w
  ·rename_i hz;exact ⟨_,rfl,hz,w _ J H (Ext.refl hp.sub) (.str _)⟩
  ·exact w.elim
 ·exact w.elim) h.h hl.h hh.h⟩
end
end DL
namespace DL
open PySem PySem.Spec PyProof.Rows L2 PySem.Builtin PySem.Builtin.Str
section
variable {X:Cx}{c:C}{o a e:Qq}{es:List Qq}{go ga:G R}{apos cpos pos:Pos}
theorem rL {K:Pe}{J:Hp}:∀xs:List Str,aT K J (xs.map D.str) (xs.map V.str)
 | []=>.nil
 | x::xs=>.cons (.str x) (rL xs)
theorem nQ:∀l:List (Str×Tok),Vals (l.map λp=>V.str p.1) (RU l)
 | []=>.nil
 | p::l=>.cons ⟨p.2,rfl⟩ (nQ l)
theorem rA {name:Str}{id:String}{B:Vz}{f:Str->R->M R}(sl:Slot "str" name id) (ty:typeOf (.builtin id)=pure (.type "method_descriptor")) (en:entryFor table id=some B)
  (hm:∀(O6:List (PK×Obj)) (s:Pk) (σ:L2.St) (H J He:Hp) (x:Str) (t:Tok) (r:R) (v:V) (u:Ph) (Q:VK),Inv X O6 σ H s->HI c J H->RelV v u->RR c He J H r v->cg (f x r) (λz=>∀w J' H',Ext J H J' H'->RR c H J' H' z w->Q w H') c.T->
   s.TypeIs (.str x t) "str"/\argsOk id ⟨[.str x t,u],[]⟩/\∃S,Meets (B ⟨[.str x t,u],[]⟩) S/\S X.A (wants (EP X O6 σ Q) X.xe) s)
  (ho:QD X c o go) (ha:QD X c a ga) (hbase:R1 o name X.env (eval o X.env)=eval o X.env) (hline:(apos.endLine == cpos.line)=true)
  (htr:Ra cpos (Po [a] X.env)=[(false,eval a X.env)]):QD X c (.Call (.Attribute o name apos) [a] [] cpos) (λenv=>go env >>= λr=>match r with
   | .d (.str x)=>ga env >>= f x
   | _=>.bad):=by
 refine ⟨λO6 s σ H Q I ⟨J,env,sr,w⟩=>?_⟩;refine UT hbase hline htr (bT (ho.h O6 s σ H (λx H1=>∃J1 r,Ext J H J1 H1/\RR c H J1 H1 r x/\cg _ _ _) I ⟨J,env,sr,aB (aH w) λr wr v J1 H1 e1 r1=>⟨J1,r,e1,r1,wr⟩⟩) λov s1 ⟨x,H1,I1,rx,J1,r,e1,r1,wr⟩=>?_);split at wr
 ·rename_i x;cases r1;obtain ⟨t,rfl⟩:=rx;refine ⟨"str",id,PySem.F.plainAttrs_str,sl,ty,SE _ _ _,(λ_ e=>nomatch e),?_⟩;refine method1_meets sl en (bT (ha.h O6 s1 σ H1 (λx H2=>∃J2 r,Ext J1 H1 J2 H2/\RR c H1 J2 H2 r x/\cg _ _ _) I1 ⟨J1,env,sr.ext e1,aB (aH wr) λr wr v J2 H2 e2 r2=>⟨J2,r,e2,r2,wr⟩⟩) λkv s2 ⟨y,H2,I2,ry,J2,r',e2,r2,wr⟩=>?_);exact hm O6 s2 σ H2 J2 H1 x t r' y kv Q I2 (sr.hp.ext (e1.trans e2)) ry r2 (aB wr λz q w J' H' e3 r3=>q w J' H' ((e1.trans e2).trans e3) (RR.from (e1.trans e2).h r3))
 ·exact wr.elim
noncomputable def r6 (x:Str):R->M R
 | .d (.str y)=>if (!(y.length == 0) && decide (x.length<=1000000))=true then .ok (.l .fresh ((Q7 x y).map .str)) else .bad
 | _=>.bad
noncomputable def fF (go ga:G R):G R:=λenv=>go env >>= λr=>match r with
 | .d (.str x)=>ga env >>= r6 x
 | _=>.bad
theorem iT (ho:QD X c o go) (ha:QD X c a ga) (hbase:autoParam (R1 o "split" X.env (eval o X.env)=eval o X.env) zA._auto_1) (hline:autoParam ((apos.endLine == cpos.line)=true) zA._auto_1)
  (htr:autoParam (Ra cpos (Po [a] X.env)=[(false,eval a X.env)]) zA._auto_1):QD X c (.Call (.Attribute o "split" apos) [a] [] cpos) (fF go ga):=by
 refine rA PySem.F.slot_str_split PySem.F.type_str_split PySem.F.entry_str_split ?_ ho ha hbase hline htr;intro O6 s σ H J He x t r v u Q I hp ru rr w;unfold r6 at w;split at w
 ·rename_i y;split at w
  ·rename_i ok;rw [Pr,decide_eq_true_eq,SG] at ok;obtain ⟨hy,hx⟩:=ok;have hx:x.length<=sizeLine:=P6 hx (by decide);cases rr;obtain ⟨u,rfl⟩:=ru;have hn:(partsBetween x (occurrences x y 0 x.length (x.length + 1)) y.length).length<=sizeLine:=by rw [length_partsBetween];have:=StrLaws.occ_length_le x y 0 x.length (x.length + 1);rw [Qw] at *;omega
   have fin:∀(l:List (Str×Tok)) (k:Nat),l.map (·.1)=Q7 x y->(RU l).length<=sizeLine->wants (EP X O6 σ Q) X.xe (.ok (.ret (.ref s.heap.objs.size))) {s with toks:=k,heap:=s.heap.push {cls:=.type "list",data:=.seq (RU l).toArray}}:=λl k hl hz=>by
    have fr:=I.hok.fresh (PJ s.heap.objs.size);have lv:(l.map λp=>V.str p.1)=(Q7 x y).map V.str:=by rw [<-hl,PY];rfl
    refine ⟨.ref s.heap.objs.size,upd H s.heap.objs.size (.lst (l.map λp=>V.str p.1)),I.laid (t':=k) (λb ob q=>Pq _ q) (PJ _) (show dX X.prog X.w _ _ _ (.lst (l.map λp=>V.str p.1)) from ⟨by rw [(nQ l).length];exact hz,_,0,nQ l,Px _ rfl⟩),rfl,w _ J _ (Ext.new hp.sub fr _) (kU hp fr (by rw [lv];exact rL _))⟩
   refine ⟨SE _ _ _,PySem.F.args_str_split_2 _ _,?_⟩;cases h1:(decide (x.length < y.length) || decide (strKind x < strKind y))
   ·cases hf:(occurrences x y 0 x.length (x.length + 1)).isEmpty
    ·refine ⟨_,meets_str_split_sep x y t u h1 hy hf hx hn,?_⟩;show wants _ _ _ {s with toks:=_,heap:=s.heap.push {cls:=.type "list",data:=.seq (strsFrom s.toks (partsBetween x (occurrences x y 0 x.length (x.length + 1)) y.length)).toArray}};rw [strsFrom_eq];refine fin (numbered s.toks _) _ ((Xr _ _).trans ((if_neg (ne_true_of_eq_false h1)).trans (if_neg (ne_true_of_eq_false hf))).symm) ?_;have:=congrArg Rp (Xr s.toks (partsBetween x (occurrences x y 0 x.length (x.length + 1)) y.length));rw [Pj] at this;unfold RU;rw [Pj,this];exact hn
    ·exact ⟨_,meets_str_split_not_found x y t u h1 hy hf,fin [(x,t)] s.toks ((if_neg (ne_true_of_eq_false h1)).trans (if_pos hf)).symm (by show 1<=sizeLine;decide)⟩
   ·exact ⟨_,meets_str_split_cannot_occur x y t u h1,fin [(x,t)] s.toks (if_pos h1).symm (by show 1<=sizeLine;decide)⟩
  ·exact w.elim
 ·exact w.elim
noncomputable def rZ (x:Str):R->M R
 | .d (.str y)=>if (!(y.length == 0) && decide (x.length<=1000000))=true then .ok (.d (.tup [.str (Pw x y).1,.str (Pw x y).2.1,.str (Pw x y).2.2])) else .bad
 | _=>.bad
noncomputable def p9 (go ga:G R):G R:=λenv=>go env >>= λr=>match r with
 | .d (.str x)=>ga env >>= rZ x
 | _=>.bad
theorem nF (ho:QD X c o go) (ha:QD X c a ga) (hbase:autoParam (R1 o "partition" X.env (eval o X.env)=eval o X.env) zA._auto_1) (hline:autoParam ((apos.endLine == cpos.line)=true) zA._auto_1)
  (htr:autoParam (Ra cpos (Po [a] X.env)=[(false,eval a X.env)]) zA._auto_1):QD X c (.Call (.Attribute o "partition" apos) [a] [] cpos) (p9 go ga):=by
 refine rA PySem.F.slot_str_partition PySem.F.type_str_partition PySem.F.entry_str_partition ?_ ho ha hbase hline htr;intro O6 s σ H J He x t r v u Q I hp ru rr w;unfold rZ at w;split at w
 ·rename_i y;split at w
  ·rename_i ok;rw [Pr,decide_eq_true_eq,SG] at ok;obtain ⟨hy,hx⟩:=ok;have hx:x.length<=sizeLine:=P6 hx (by decide);cases rr;obtain ⟨u,rfl⟩:=ru;have fin:∀(l:List (Str×Tok)) (k:Nat),l.map (·.1)=[(Pw x y).1,(Pw x y).2.1,(Pw x y).2.2]->wants (EP X O6 σ Q) X.xe (.ok (.ret (.ref s.heap.objs.size))) {s with toks:=k,heap:=s.heap.push {cls:=.type "tuple",data:=.seq (RU l).toArray}}:=λl k hl=>by
    have fr:=I.hok.fresh (PJ s.heap.objs.size);have lv:(l.map λp=>V.str p.1)=[(Pw x y).1,(Pw x y).2.1,(Pw x y).2.2].map V.str:=by rw [<-hl,PY];rfl
    have ll:=congrArg Rp hl;rw [Pj] at ll;refine ⟨.ref s.heap.objs.size,upd H s.heap.objs.size (.tup (l.map λp=>V.str p.1)),I.laid (t':=k) (λb ob q=>Pq _ q) (PJ _) (show dX X.prog X.w _ _ _ (.tup (l.map λp=>V.str p.1)) from ⟨by rw [Pj,ll];show 3<=sizeLine;decide,_,nQ l,W5 _ _,λo q=>by rw [Px _ rfl] at q;cases q;rfl⟩),rfl,w _ _ _ (Ext.newJ hp.sub fr _) (mG hp fr (by rw [lv];exact rL [(Pw x y).1,(Pw x y).2.1,(Pw x y).2.2]))⟩
   refine ⟨SE _ _ _,PySem.F.args_str_partition_2 _ _,_,meets_str_partition x y t u hy hx,?_⟩;unfold Pw at fin;cases q:occurrences x y 0 x.length 1 with
   | nil=>
    rw [q] at fin;exact fin [(x,t),(Rf,s.toks),(Rf,s.toks)] _ rfl
   | cons i O_=>
    rw [q] at fin;exact fin [(strSub x 0 i,s.toks),(y,u),(strSub x (i + y.length) x.length,s.toks + 1)] _ rfl
  ·exact w.elim
 ·exact w.elim
noncomputable def yU:D->Str
 | .str s=>s
 | _=>""
noncomputable def rm:D->Bool
 | .str _=>true
 | _=>false
theorem uO {K:Pe}{J:Hp}:∀{ds:List D}{vs:List V}{us:List Ph},ds.all rm=true->aT K J ds vs->Vals vs us->∃l:List (Str×Tok),us=RU l/\l.map (·.1)=ds.map yU
 | [],_,_,_,.nil,.nil=>⟨[],rfl,rfl⟩
 | d::ds,_,_,h,.cons r rs,.cons q qs=>by
  rw [S_,Pr] at h;obtain ⟨l,h1,h2⟩:=uO h.2 rs qs;cases d with
  | str z=>
   cases r;obtain ⟨t,rfl⟩:=q;exact ⟨(z,t)::l,by rw [h1];rfl,by rw [Qh,Qh,h2];rfl⟩
  | _=>cases h.1
noncomputable def EW (x:Str) (r:R):M R:=jk r >>= λds=>if (ds.all rm && XD x (ds.map yU))=true then .ok (.d (.str (RD x (ds.map yU)))) else .bad
noncomputable def gZ (go ga:G R):G R:=λenv=>go env >>= λr=>match r with
 | .d (.str x)=>ga env >>= EW x
 | _=>.bad
theorem gU (ho:QD X c o go) (ha:QD X c a ga) (hK:autoParam (X.K=c.K) zA._auto_1) (hbase:autoParam (R1 o "join" X.env (eval o X.env)=eval o X.env) zA._auto_1) (hline:autoParam ((apos.endLine == cpos.line)=true) zA._auto_1)
  (htr:autoParam (Ra cpos (Po [a] X.env)=[(false,eval a X.env)]) zA._auto_1):QD X c (.Call (.Attribute o "join" apos) [a] [] cpos) (gZ go ga):=by
 refine rA PySem.F.slot_str_join PySem.F.type_str_join PySem.F.entry_str_join ?_ ho ha hbase hline htr;intro O6 s σ H J He x t r v u Q I hp ru rr w;obtain ⟨ds,q,w⟩:=kh w;split at w
 ·rename_i ok;rw [Pr] at ok;obtain ⟨p,vs,rfl,h1,h2⟩:=RR.list hp rr q;cases ru;obtain ⟨O8,r',pl,hz⟩:=I.list (hK▸h1);obtain ⟨l,rfl,hl⟩:=uO ok.1 h2 r';have hok:=ok.2;unfold XD at hok;rw [SG,<-hl] at hok;rw [<-hl] at w;exact ⟨SE _ _ _,PySem.F.args_str_join_2 _ _,_,meets_str_join_list x t p l hok,pl.isList,post_join l ⟨joinFit_length hok,λt' k=>⟨.str _,H,I.tok _,⟨_,rfl⟩,w _ J H (Ext.refl hp.sub) (.str _)⟩⟩⟩
 ·exact w.elim
end
noncomputable def yT (i:Int):Str:=SX (toString i)
theorem w4 {i:Int}(h:below 1606938044258990275541962092341162602522202993782792835301376 i=true):i.natAbs.log2 < 1920:=by
 have h2:=cO.mp h;by_cases z:i.natAbs=0
 ·rw [z];decide
 ·exact Uu ((Nat.log2_lt z).mpr (by omega:i.natAbs < 2 ^ 200)) (by decide)
section
variable {X:Cx}{c:C}{o a e:Qq}{es:List Qq}{go ga g:G R}{apos cpos pos:Pos}
theorem Bv:QO "str"=some (.type "str"):=by decide +kernel
theorem BC:dj X (.type "str") (λxs H Q=>∃i:Int,xs=[.int i]/\i.natAbs.log2 < 1920/\Q (.str (yT i)) H):=by intro O6 s σ H xs us Q I r h;obtain ⟨i,rfl,hi,q⟩:=h;obtain ⟨u,rfl,t,rfl⟩:=vals1 r;exact P.str_of_int hi ⟨.str _,H,I.tok _,⟨_,rfl⟩,q⟩
noncomputable def i_:List R->M R
 | [.d (.int i)]=>if below 1606938044258990275541962092341162602522202993782792835301376 i=true then .ok (.d (.str (yT i))) else .bad
 | _=>.bad
theorem jz {p:Pos}{gs:G (List R)}(ha:jj X c (e::es) gs) (hm:X.mg "str"=none) (hg:autoParam (Gl X "str") zA._auto_1)
  (he:autoParam (Po (e::es) X.env=(false,eval e X.env)::Po es X.env) zA._auto_1) (hpl:autoParam ((Ra pos (Po es X.env)).any (·.1)=false) zA._auto_1):QD X c (.Call (.Name "str" p) (e::es) [] pos) (gN i_ gs):=
 ⟨pg BC (by
  intro He J H xs vs Q hp rs w;unfold i_ at w;split at w
  ·obtain ⟨v,rfl,r⟩:=rs.one;cases r;split at w
   ·rename_i h;exact ⟨_,rfl,w4 h,w _ J H (Ext.refl hp.sub) (.str _)⟩
   ·exact w.elim
  ·exact w.elim) Bv hm ha.h hg (by decide) (by decide) he hpl⟩
theorem By:dj X (.type "int") (λxs H Q=>∃(x:Str) (n:Int),xs=[.str x]/\intText? x=some n/\x.length<=640/\Q (.int n) H):=by intro O6 s σ H xs us Q I r h;obtain ⟨x,n,rfl,hn,hl,q⟩:=h;obtain ⟨u,rfl,t,rfl⟩:=vals1 r;exact Yi hn hl ⟨.int _,H,I.tok _,⟨_,rfl⟩,q⟩
noncomputable def mZ:List R->M R
 | [.d (.int i)]=>.ok (.d (.int i))
 | [.d (.bl k)]=>.ok (.d (.int (if k then 1 else 0)))
 | [.d (.str x)]=>if x.length<=640 then (match intText? x with
  | some n=>.ok (.d (.int n))
  | none=>.bad) else .bad
 | _=>.bad
theorem rK {p:Pos}{gs:G (List R)}(ha:jj X c (e::es) gs) (hm:X.mg "int"=none) (hg:autoParam (Gl X "int") zA._auto_1)
  (he:autoParam (Po (e::es) X.env=(false,eval e X.env)::Po es X.env) zA._auto_1) (hpl:autoParam ((Ra pos (Po es X.env)).any (·.1)=false) zA._auto_1):QD X c (.Call (.Name "int" p) (e::es) [] pos) (gN mZ gs):=
 ⟨pg (dj.or Bx By) (by
  intro He J H xs vs Q hp rs w;unfold mZ at w;split at w
  ·obtain ⟨v,rfl,r⟩:=rs.one;cases r;exact .inl (.inl ⟨_,rfl,w _ J H (Ext.refl hp.sub) (.int _)⟩)
  ·obtain ⟨v,rfl,r⟩:=rs.one;cases r;exact .inl (.inr ⟨_,rfl,w _ J H (Ext.refl hp.sub) (.int _)⟩)
  ·obtain ⟨v,rfl,r⟩:=rs.one;cases r;split at w
   ·rename_i hl;split at w
    ·rename_i n hn;exact .inr ⟨_,n,rfl,hn,hl,w _ J H (Ext.refl hp.sub) (.int _)⟩
    ·exact w.elim
   ·exact w.elim
  ·exact w.elim) Bu hm ha.h hg (by decide) (by decide) he hpl⟩
noncomputable def dg:List Str->Str
 | []=>Rf
 | y::ys=>y++dg ys
theorem sN {M:W0}{A:Qx}{E:Ph->Pk->Prop}:∀{ps:List (Sem Ph)}{acc:Str}{Q Q':Str->Pk->Prop}{s:Pk},Joins M A E ps acc Q s->(∀out s,Q out s->Q' out s)->Joins M A E ps acc Q' s
 | [],_,_,_,_,h,k=>k _ _ h
 | _::_,_,_,_,_,h,k=>QZ h (λ_ _ ⟨y,t,a,b,d⟩=>⟨y,t,a,b,sN d k⟩) λ_ _ e=>e
noncomputable def QJ (X:Cx) (c:C) (n:Nat) (vs:List Qq) (gs:G (List Str)):Prop:=
 ∀(O6:List (PK×Obj)) (s:Pk) (σ:L2.St) (H:Hp) (Q:Str->Hp->Prop) (acc:Str),Inv X O6 σ H s->acc.length<=n->
  (∃J env,SR c J H σ env/\cg (gs env) (λys=>∀J' H',Ext J H J' H'->Q (acc++dg ys) H') c.T)->
  Joins (Qj X.prog X.w) X.A X.xe (evalEach vs X.env) acc (λout s1=>out.length<=sizeLine/\∃H1,Inv X O6 σ H1 s1/\Q out H1) s
theorem CT (a b d:Str):a++b++d=a++(b++d):=by show Y3 _=Y3 _;congr 1;exact Up
theorem HD (a:Str):a++Rf=a:=by show Y3 _=_;cases a;congr 1
theorem len_app (a b:Str):(a++b).length=a.length + b.length:=UL
noncomputable def o8:G (List Str):=λ_=>.ok []
theorem yz {n:Nat}(hn:autoParam (n<=sizeLine) zB._auto_1):QJ X c n [] o8:=λO6 s σ H Q acc I hl ⟨J,env,sr,w⟩=>by have w:∀J' H',Ext J H J' H'->Q (acc++Rf) H':=w;rw [HD] at w;exact ⟨P6 hl hn,H,I,w J H (Ext.refl sr.hp.sub)⟩
noncomputable def jC (y:Str) (gs:G (List Str)):G (List Str):=λenv=>if y.length<=1000 then gs env >>= λys=>.ok (y::ys) else .bad
theorem CS {J H:Hp}{acc y:Str}{Q:Str->Hp->Prop}{T:Exc->Prop}{m:M (List Str)}(w:cg (m >>= λys=>.ok (y::ys)) (λys=>∀J' H',Ext J H J' H'->Q (acc++dg ys) H') T):cg m (λys=>∀J' H',Ext J H J' H'->Q (acc++y++dg ys) H') T:=aB (aH w) λys q=>by have q:∀J' H',Ext J H J' H'->Q (acc++(y++dg ys)) H':=q;rw [<-CT] at q;exact q
theorem rE {n:Nat}{y:Str}{k:Nat}{p:Pos}{vs:List Qq}{gs:G (List Str)}(h:QJ X c (n + 1000) vs gs) (hn:autoParam (n + 1000<=sizeLine) zB._auto_1):QJ X c n (.Constant (.str y) k p::vs) (jC y gs):=λO6 s σ H Q acc I hl ⟨J,env,sr,w⟩=>by
 unfold jC at w;split at w
 ·rename_i hy;have la:(acc++y).length<=n + 1000:=by rw [len_app];omega
  exact wpAny_Constant_str ⟨y,_,rfl,P6 la hn,h O6 _ σ H Q (acc++y) (I.tok _) la ⟨J,env,sr,CS w⟩⟩
 ·exact w.elim
noncomputable def tU:R->M Str
 | .d (.str y)=>if y.length<=1000 then .ok y else .bad
 | .d (.int i)=>if below 1606938044258990275541962092341162602522202993782792835301376 i=true/\(yT i).length<=1000 then .ok (yT i) else .bad
 | _=>.bad
noncomputable def jF (g:G R) (gs:G (List Str)):G (List Str):=λenv=>g env >>= λr=>tU r >>= λy=>gs env >>= λys=>.ok (y::ys)
theorem sZ {n:Nat}{p:Pos}{vs:List Qq}{gs:G (List Str)}(he:QD X c e g) (h:QJ X c (n + 1000) vs gs) (hn:autoParam (n + 1000<=sizeLine) zB._auto_1):QJ X c n (.FormattedValue e (-1) none p::vs) (jF g gs):=λO6 s σ H Q acc I hl ⟨J,env,sr,w⟩=>by
 refine wpAny_FormattedValue_plain (bT (he.h O6 s σ H (λv H1=>∃J1 r,Ext J H J1 H1/\RR c H J1 H1 r v/\cg _ _ _) I ⟨J,env,sr,aB (aH w) λr wr v J1 H1 e1 r1=>⟨J1,r,e1,r1,wr⟩⟩) λv s1 ⟨x,H1,I1,rx,J1,r,e1,r1,wr⟩=>?_);unfold tU at wr;have fin:∀(y:Str) (t:Tok) (k:Nat),y.length<=1000->cg (gs env >>= λys=>M.ok (y::ys)) (λys=>∀J' H',Ext J H J' H'->Q (acc++dg ys) H') c.T->∃y' t',X_ y t=.str y' t'/\(acc++y').length<=sizeLine/\Joins (Qj X.prog X.w) X.A X.xe (evalEach vs X.env) (acc++y') (λout s1=>out.length<=sizeLine/\∃H1,Inv X O6 σ H1 s1/\Q out H1) {s1 with toks:=k}:=λy t k hy w=>by
  have la:(acc++y).length<=n + 1000:=by rw [len_app];omega
  exact ⟨y,t,rfl,P6 la hn,h O6 _ σ H1 Q (acc++y) (I1.tok _) la ⟨J1,env,sr.ext e1,aB (CS w) λys q J' H' e2=>q J' H' (e1.trans e2)⟩⟩
 split at wr
 ·rename_i y;split at wr
  ·rename_i hy;cases r1;obtain ⟨t,rfl⟩:=rx;exact wpAny_formatField_str (fin y t s1.toks hy wr) (fin y _ _ hy wr) (P6 hy (by decide))
  ·exact wr.elim
 ·rename_i i;split at wr
  ·rename_i hi;cases r1;obtain ⟨t,rfl⟩:=rx;exact wpAny_formatField_int (w4 hi.1) (fin (yT i) _ _ hi.2 wr)
  ·exact wr.elim
 ·exact wr.elim
noncomputable def zO (gs:G (List Str)):G R:=λenv=>gs env >>= λys=>.ok (.d (.str (dg ys)))
theorem yC {v1 v2:Qq}{vs:List Qq}{gs:G (List Str)}(h:QJ X c 0 (v1::v2::vs) gs):QD X c (.JoinedStr (v1::v2::vs) pos) (zO gs):=by
 refine ⟨λO6 s σ H Q I ⟨J,env,sr,w⟩=>wpAny_JoinedStr ?_⟩;have:=h O6 s σ H (λy H'=>Q (.str y) H') Rf I (QG _) ⟨J,env,sr,aB (aH w) λys q J' H' e=>?_⟩
 ·refine sN this ?_;rintro out s1 ⟨hl,H1,I1,q⟩;exact ⟨hl,.str out,H1,I1.tok _,⟨_,rfl⟩,q⟩
 ·have q:∀w J' H',Ext J H J' H'->RR c H J' H' (.d (.str (dg ys))) w->Q w H':=q;have e0:Rf++dg ys=dg ys:=by show Y3 _=_;cases dg ys;congr 1;exact Array.empty_append
  rw [e0];exact q _ J' H' e (.str _)
end
end DL
namespace DL
open PySem PySem.Spec PyProof.Rows L2 DX
section
variable {prog:PX}{w:Qn}{A:Qx}{E:Ph->Pk->Prop}{s:Pk}
theorem Kl {l:PK}{v:Ph}{vs:List Ph}{Q:List Ph->Pk->Prop}(hl:s.heap.IsList l (v::vs).toArray) (hh:A.handled=none) (hz:vs.length<=16000)
  (h:∀(h':QV) (tk:Nat),(∀b o,s.heap.get? b=some o->h'.get? b=some o)->Q [v,.ref h'.objs.size] {s with heap:=h'.push (YO "list" vs.toArray 0),toks:=tk}):
  P_ (Qj prog w) A (unpackItems (.ref l) 2 (some 1)) Q E s:=by
 have hlt:l≠s.heap.objs.size:=by obtain ⟨o,ho,_⟩:=hl;exact QA (PL ho)
 unfold unpackItems;refine Pf ?_;unfold notIterableAtAll;refine Pf (wpAny_specialOf hl.typeIs slot_list_iter.lookup ?_);refine PU ?_;simp only [Bool.false_eq_true,if_false];refine Pf (RI (Sy hl ?_));refine Pf (RI (W.kun_draw hlt 1 0 _ _ ⟨_,Px _ rfl,rfl,rfl⟩ (hl.push _) (by simp) λh₁ hit₁ hs₁=>?_));have hl₁:h₁.IsList l (v::vs).toArray:=(hl.push _).extBut hs₁.extBut hlt;rw [Yh] at hit₁;have hit₁':=hit₁;obtain ⟨oi,N4,_⟩:=hit₁';have hl₁':=hl₁;obtain ⟨ol,OX,_⟩:=hl₁';rw [R8];show P_ _ _ (if ((v::vs).take 1).length < 1 then _ else _) _ _ _;rw [if_neg (by simp)];refine Pf (RI (W.kun_collect (s:={s with heap:=h₁}) (T:="list_iterator") (.inr (.inr (.inl rfl))) (YU (A:=A.in1) hh s.heap.objs.size l hlt (v::vs).toArray) (λj u st=>st.1.typeIs) (k:=1) (by simp) ⟨hit₁,hl₁⟩ (PL N4) (PL OX) (λh₂ tk hk=>?_) (by rw [Qw];simp;omega)));show P_ _ _ (if vs.length < 2 - 1 - 1 then _ else _) _ _ _;rw [if_neg (by omega)];show P_ _ _ (newList (vs.take (vs.length - (2 - 1 - 1))) >>= λd=>pure ([v]++[d]++vs.drop (vs.length - (2 - 1 - 1)))) _ _ _;rw [show vs.length - (2 - 1 - 1)=vs.length by omega,Q_,List.drop_length];refine Pf (wpAny_newList (PU (h h₂ tk λb o e=>hk b o (QA (PL e)) (hs₁.extBut b o (QA (PL e)) (Pq _ e)))) ?_);rw [Qw];omega
end
section
variable {X:Cx}{c:C}{e a b:Qq}{g ga gb:G R}{pos:Pos}
noncomputable def Gq (K:Pe) (t:qB):TG:=λv σ H Q=>∃a xs z,v=.ref a/\cX K H a (z::xs)/\xs.length<=16000/\∀p,H p=none->t [z,.ref p] σ (upd H p (.lst xs)) Q
theorem D7 {es es':List Qq}{k:Nat}{t:qB}(hc:X.calm=true) (h:uR X es' t) (hn:autoParam ((Rm es X.env).length=2) zA._auto_1) (hst:autoParam ((Rm es X.env).findIdx? (·.1)=some 1) zA._auto_1)
  (hm:autoParam ((Rm es X.env).map (·.2)=(Rm es' X.env).map (·.2)) zA._auto_1):PG X (.Tuple es k pos) (Gq X.K t):=by
 intro O6 s σ H v u Q I r ⟨a,xs,z,e1,hq,hl,hw⟩;subst e1;cases r;obtain ⟨O8,rv,ht,hz⟩:=I.list hq;cases rv with
 | @cons _ u _ us r2 r1=>
 have lu:us.length=xs.length:=r1.length.symm;rw [assign_Tuple];refine Pf ((Td ?_));unfold unpack;rw [hn,hst];refine Pf (RI (Kl ht.isList (I.ok.hd hc) (by omega) λh' tk kp=>?_));have I1:Inv X O6 σ H {s with heap:=h',toks:=tk}:=I.kept (t':=tk) kp;have fr:H h'.objs.size=none:=I1.hok.fresh (PJ _);rw [hm];have I2:=I1.laid (a:=h'.objs.size) (o:=.lst xs) (h':=h'.push (YO "list" us.toArray 0)) (t':=tk) (λ_ _ q=>Pq _ q) (PJ _) (show dX X.prog X.w _ _ _ (.lst xs) from ⟨by rw [Qw];omega,us,0,r1,by simpa [YO] using Px h' (o:=YO "list" us.toArray 0) rfl⟩);exact h O6 _ σ _ _ _ Q I2 (.cons r2 (.cons (show RelV (.ref h'.objs.size) (.ref h'.objs.size) from rfl) .nil)) (hw _ fr)
noncomputable def sC (t:nY) (g:G R):G O:=λenv=>g env >>= λr=>toD r >>= λd=>match d with
 | .lst (z::xs)=>if xs.length<=16000 then t [z,.lst xs] env >>= λe=>.ok (.nx e) else .bad
 | _=>.bad
theorem A5 {x y:Str}{px p1 py:Pos}{k:Nat}{pos':Pos}{t:nY}(h:QD X c e g) (ht:wR X c [.Name x px,.Name y py] t) (N8:autoParam (X.calm=true) zA._auto_1) (hK:autoParam (X.K=c.K) zA._auto_1)
  (hm:autoParam ((Rm [.Name x px,.Starred (.Name y py) p1] X.env).map (·.2)=(Rm [.Name x px,.Name y py] X.env).map (·.2)) zA._auto_1) (hs:autoParam (UP [.Tuple [.Name x px,.Starred (.Name y py) p1] k pos'] e pos.line X.env=pure false) zA._auto_1) (hw:autoParam (VL [.Tuple [.Name x px,.Starred (.Name y py) p1] k pos'] e X.env=pure none) zA._auto_1)
  (h1:autoParam ((Rm [.Tuple [.Name x px,.Starred (.Name y py) p1] k pos'] X.env).map (·.2)=[assign (.Tuple [.Name x px,.Starred (.Name y py) p1] k pos') X.env]) zA._auto_1):jD X c (.Assign [.Tuple [.Name x px,.Starred (.Name y py) p1] k pos'] e pos) (sC t g):=by
 refine ⟨gK (Ct h.h (D7 N8 ht.h rfl rfl hm) hs hw h1) λE σ H ⟨J,env,sr,w⟩=>?_⟩;refine ⟨J,env,sr,aB (aH w) λr wr v J1 H1 e1 r1=>?_⟩;obtain ⟨d,q,wr⟩:=kq wr;obtain ⟨J1',e1',s1,rd⟩:=freeze e1 r1 q;split at wr
 ·rename_i z xs;split at wr
  ·rename_i hl;have sr1:=sr.ext e1';obtain ⟨p,vs',rfl,hq,hs'⟩:=RR.list (c:=c) sr1.hp (show RR c H J1' H1 (.d (.lst (z::xs))) v from rd) rfl;cases hs' with
   | @cons _ vz _ vs k2 k1=>
   have ln:vs.length<=16000:=by rw [<-k1.length];exact hl
   refine ⟨_,vs,vz,rfl,by rw [hK];exact hq,ln,λp hp=>?_⟩;have e2:Ext J1' H1 (upd J1' p (.lst vs)) (upd H1 p (.lst vs)):=Ext.newJ sr1.hp.sub hp _;refine ⟨_,env,_,sr1.ext e2,.cons (k2.mono e2.j) (.cons (.lst (.inl (.inl bI)) (k1.mono e2.j)) .nil),aB (aH wr) λev w2 σ' sr' _=>?_⟩;exact w2 σ' _ _ (e1'.j.trans e2.j) sr'
  ·exact wr.elim
 ·exact wr.elim
end
end DL
namespace DL
open PySem PySem.Spec PyProof.Rows L2
theorem kH {α β:Type}{f g:α->Option β}:∀{l:List α},(∀x∈l,f x=g x)->l.filterMap f=l.filterMap g
 | [],_=>rfl
 | x::l,h=>by rw [RO,RO,h x P0,kH λy hy=>h y (Py _ hy)]
section
variable {X:Cx}{c:C}{o a e:Qq}{go ga g:G R}{apos cpos pos:Pos}
noncomputable def DK (a:Str):D->Bool
 | .str b=>b == a
 | _=>false
noncomputable def sA (go ga:G R):G R:=λenv=>go env >>= λr=>jk r >>= λxs=>ga env >>= λk=>match k with
 | .d (.str k)=>if (xs.all rm && decide (xs.length<=100000))=true then (match xs.findIdx? (DK k) with
  | some i=>.ok (.d (.int i))
  | none=>.bad) else .bad
 | _=>.bad
theorem rJ (ho:QD X c o go) (ha:QD X c a ga) (hK:autoParam (X.K=c.K) zA._auto_1) (hbase:autoParam (R1 o "index" X.env (eval o X.env)=eval o X.env) zA._auto_1) (hline:autoParam ((apos.endLine == cpos.line)=true) zA._auto_1)
  (htr:autoParam (Ra cpos (Po [a] X.env)=[(false,eval a X.env)]) zA._auto_1):QD X c (.Call (.Attribute o "index" apos) [a] [] cpos) (sA go ga):=by
 refine ⟨λO6 s σ H Q I ⟨J,env,sr,w⟩=>?_⟩;refine UT hbase hline htr (bT (ho.h O6 s σ H (λx H1=>∃J1 r,Ext J H J1 H1/\RR c H J1 H1 r x/\cg _ _ _) I ⟨J,env,sr,aB (aH w) λr wr v J1 H1 e1 r1=>⟨J1,r,e1,r1,wr⟩⟩) λov s1 ⟨x,H1,I1,rx,J1,r,e1,r1,wr⟩=>?_);obtain ⟨xs,q,wr⟩:=kh wr;obtain ⟨p,vs,rfl,hq,hs⟩:=RR.list (sr.hp.ext e1) r1 q;cases rx;obtain ⟨O8,rv,pl,hz⟩:=I1.list (hK▸hq);refine ⟨"list","list.index",Si,UU,PySem.F.type_list_index,pl.isList.typeIs,λq' e'=>?_,?_⟩
 ·cases e';obtain ⟨o',n',g1,g2',g3,g4⟩:=pl;exact ⟨o',g1,g3⟩
 refine seqMethod1_meets UU PySem.F.entry_list_index (bT (ha.h O6 s1 σ H1 (λx H2=>∃J2 r,Ext J1 H1 J2 H2/\RR c H1 J2 H2 r x/\cg _ _ _) I1 ⟨J1,env,sr.ext e1,aB (aH wr) λr wr v J2 H2 e2 r2=>⟨J2,r,e2,r2,wr⟩⟩) λkv s2 ⟨y,H2,I2,ry,J2,r',e2,r2,wr⟩=>?_);split at wr
 ·rename_i k;have r2:Rep c.K J2 (.str k) y:=r2;cases r2;obtain ⟨t',rfl⟩:=ry;split at wr
  ·rename_i ok;rw [Pr,decide_eq_true_eq] at ok;split at wr
   ·rename_i i hi;obtain ⟨hl,h1,h2⟩:=List.findIdx?_eq_some_iff_getElem.mp hi;obtain ⟨its2,rv2,pl2,_⟩:=I2.list (hK▸e2.h.seq hq);obtain ⟨l,hits,hu⟩:=uO ok.1 hs rv2;have ll:l.length=xs.length:=by rw [<-Pj (f:=(·.1)),hu,Pj]
    obtain ⟨⟨oc,od,oda,os⟩,n,g3,g4,g5,g6⟩:=pl2;dsimp only at g4 g5 g6;subst g4 g5 g6 hits;have lm:∀m,m < (RU l).length->m < l.length:=λm hm=>by unfold RU at hm;rw [Pj] at hm;exact hm
    have ga':∀m (hm:m < l.length),(RU l)[m]?=some (.str l[m].1 l[m].2):=λm hm=>by unfold RU;rw [Qg,PV hm];rfl
    have at_:∀m (hm:m < (RU l).length),(RU l)[m]=.str (l[m]'(lm m hm)).1 (l[m]'(lm m hm)).2:=λm hm=>by have:=ga' m (lm m hm);rw [PV hm] at this;exact P7 this
    have ix:∀m (hm:m < l.length),DK k (xs[m]'(by omega))=(l[m].1 == k):=λm hm=>by
     have e3:(l.map (·.1))[m]'(by rw [Pj];exact hm)=(xs.map yU)[m]'(by rw [Pj];omega):=by simp only [hu]
     rw [RE,RE] at e3;have hS:=PF.mp ok.1 (xs[m]'(by omega)) (Qz _);rw [e3];revert hS;cases xs[m]'(by omega) <;> intro hS <;> first | rfl | cases hS
    let ev:Ph->Bool:=λv=>match v with
     | .str y _=>y == k
     | _=>false
    refine ⟨⟨_,g3,rfl⟩,PySem.F.args_list_index_2 _ _,_,XG p (RU l).toArray n none os _ ev i (by simp [RU];omega) (by have:xs.length<=100000:=ok.2;omega) ?_ (λm hm hmi=>?_),g3,λy hy=>?_,.int i,H2,I2.tok _,⟨_,rfl⟩,wr _ J2 H2 (e1.trans e2) (.int _)⟩
    ·rw [Vv,at_];show (_ == k)=true;rw [<-ix];exact h1
    ·have hm':m < (RU l).length:=by simpa using hm
     rw [Vv,at_];show (_ == k)=false;rw [<-ix];exact UK.mpr (h2 m hmi)
    ·obtain ⟨m,hm,rfl⟩:=TY.mp (show y∈RU l by simpa using hy);rw [at_];exact XH _ _ _ _
   ·exact wr.elim
  ·exact wr.elim
 ·exact wr.elim
theorem vY (O8:List Ph):W6 O8.toArray none (some 0) (some (-1))=(O8.drop 1).reverse.toArray:=by
 have h:=D_ (O8.drop 1).toArray;unfold W6;have hb:Sv none (some 0) (some (-1)) O8.toArray.size=((O8.toArray.size:Int) - 1,(if (0:Int) < O8.toArray.size then 0 else (O8.toArray.size:Int) - 1),-1):=by
  unfold Sv;cases O8 with
  | nil=>rfl
  | cons x xs=>simp;omega
 rw [hb];show ((sliceRange ((O8.toArray.size:Int) - 1) (if (0:Int) < O8.toArray.size then 0 else (O8.toArray.size:Int) - 1) (-1)).filterMap _).toArray=_;congr 1;refine Eq.trans ?_ h;unfold sliceRange;rw [if_neg (by decide),VS];cases O8 with
 | nil=>rfl
 | cons x xs=>
  have e:(if ((x::xs).toArray.size:Int) - 1 > (if (0:Int) < ((x::xs).toArray.size:Nat) then 0 else (((x::xs).toArray.size:Nat):Int) - 1) then (((x::xs).toArray.size:Int) - 1 - (if (0:Int) < ((x::xs).toArray.size:Nat) then 0 else (((x::xs).toArray.size:Nat):Int) - 1) - -1 - 1) / (- -1) else 0).toNat=xs.toArray.size:=by simp;split <;> omega
  rw [e];show (Qc xs.toArray.size).filterMap _=(Qc xs.toArray.size).filterMap _;refine kH λm hm=>?_;have hm:m < xs.length:=by simpa using hm
  show (x::xs).toArray[(((x::xs).toArray.size:Int) - 1 + -1 * (m:Int)).toNat]?=xs.toArray[((xs.toArray.size:Int) - 1 + (m:Int) * -1).toNat]?;have e1:(((x::xs).toArray.size:Int) - 1 + -1 * (m:Int)).toNat=(xs.length - 1 - m) + 1:=by simp;omega
  have e2:((xs.toArray.size:Int) - 1 + (m:Int) * -1).toNat=xs.length - 1 - m:=by simp;omega
  rw [e1,e2];simp
noncomputable def DI (g:G R):G R:=λenv=>g env >>= λr=>jk r >>= λxs=>.ok (.l .fresh (xs.drop 1).reverse)
theorem Hg {hi st:Qq}{p2:Pos}(h:QD X c e g) (hhi:PE X hi (tC (.int 0))) (hst:PE X st (tC (.int (-1)))) (hK:autoParam (X.K=c.K) zA._auto_1):QD X c (.Subscript e (.Slice none (some hi) (some st) p2) pos) (DI g):=by
 refine ⟨λO6 s σ H Q I ⟨J,env,sr,w⟩=>?_⟩;refine Xx (bT (h.h O6 s σ H (λv H1=>∃a xs,v=.ref a/\cX X.K H1 a xs/\∀p,H1 p=none->Q (.ref p) (upd H1 p (.lst (xs.drop 1).reverse))) I ⟨J,env,sr,aB (aH w) λr wr v J1 H1 e1 r1=>?_⟩) λv s1 ⟨x,H1,I1,r1,a,xs,hx,hq,q⟩=>?_)
 ·obtain ⟨ds,q,wr⟩:=kh wr;obtain ⟨a,vs,rfl,h1,h2⟩:=RR.list (sr.hp.ext e1) r1 q;exact ⟨a,vs,rfl,by rw [hK];exact h1,λp hp'=>wr _ _ _ (e1.trans (Ext.new e1.sub hp' _)) (RR.from e1.h (kU (sr.hp.ext e1) hp' (h2.drop 1).rev))⟩
 subst hx;cases r1;refine wpAny_Slice ?_;rw [VU];refine PU ?_;rw [VV];refine bT (hhi O6 s1 σ H1 (λv H2=>v=.int 0/\H2=H1) I1 ⟨rfl,rfl⟩) λu s2 ⟨y,H2,I2,r2,hy,hH⟩=>?_;subst hy hH;obtain ⟨k0,rfl⟩:=r2;rw [VV];refine bT (hst O6 s2 σ H2 (λv H3=>v=.int (-1)/\H3=H2) I2 ⟨rfl,rfl⟩) λu s3 ⟨y,H3,I3,r3,hy,hH⟩=>?_;subst hy hH;obtain ⟨k,rfl⟩:=r3;have I4:Inv X O6 σ H3 {s3 with heap:=s3.heap.push {cls:=.type "slice",data:=.fields #[.none,.int 0 k0,.int (-1) k]}}:=I3.kept (t':=s3.toks) λb ob q=>Pq _ q;obtain ⟨O8,r,ht,hz⟩:=I4.list hq;have hlen:=r.length;refine YK (ops:=[.ref a,.ref s3.heap.objs.size]) ht.isList.typeIs UE.lookup ?_ (by with_unfolding_all rfl);refine UG ht.isList (VX ..) .none (.int 0 k0) (.int (-1) k) (by simp) ?_ (by rw [PZ];omega);rw [vY];refine ⟨.ref _,_,I4.laid (t':=s3.toks) (o:=.lst (xs.drop 1).reverse) (λb ob q=>Pq _ q) (PJ _) ?_,rfl,q _ (I4.hok.fresh (PJ _))⟩;exact ⟨by rw [VG,QX];omega,_,0,(r.drop 1).reverse,Px _ rfl⟩
end
end DL
namespace DL
open PySem PySem.Spec PyProof.Rows L2 DX
section
variable {X:Cx}{c:C}
noncomputable def jh (X:Cx) (own:List Str) (cap:List Nat) (O5:SJ):List (Str×PK)->PK->Pk->Hp->List PK->Ph->Pk->Prop:=λcl C s H fp v s'=>
 ∃O6 σ H' e Ce dx To E,v=.ref e/\jZ X E/\X.stack=X.env::X.outer/\X.env.frame=some X.env.locals/\Inv (f_ X own cap O5 cl C s H fp) O6 σ H' s'/\Fl e Ce dx To s'.heap/\s.heap.objs.size<=e/\(∀T∈To.toList,s.heap.objs.size<=T/\Apart (f_ X own cap O5 cl C s H fp) O6 T)/\H' e=some (XO e Ce dx)/\(∀T∈To.toList,H' T=none)/\E (.ref e) dx H'
theorem GC {e:Ph}{a b:Env}(h:a.frame=b.frame):Sb e a=Sb e b:=by unfold Sb PySem.frameOf;rw [h]
theorem Ky {own:List Str}{cap:List Nat}{O5:SJ}:Dp X own cap O5 (jh X own cap O5):=by
 rintro cl C s H fp O6 σ H2 s2 I2 hs back v s' ⟨pi,σ',H',e,Ce,dx,To,E,rfl,hE,hst,hf,I,fl,nE,nT,gv,fr,w⟩;show P_ _ _ (Sb (.ref e) (f_ X own cap O5 cl C s H fp).env) _ _ _;rw [GC (a:=(f_ X own cap O5 cl C s H fp).env) (b:=X.env) rfl];have ap:∀T∈To.toList,Apart (f_ X own cap O5 cl C s H fp) pi T:=λT hT=>(nT T hT).2;have f1:X.A.frames=some (X.env::X.outer):=hst▸I.ok.frames;have f2:s'.heap.FunFrames X.base (X.env::X.outer):=hst▸I.stack;refine yo f1 f2 hf fl λh1 T1 lf t0 fy=>?_;have I1:Inv (f_ X own cap O5 cl C s H fp) pi σ' H' {s' with heap:=h1}:=xZ I ap fr gv (show Left (sy X.stack) _ _ _ from hst▸lf) fy;obtain ⟨m,hm,_⟩:=I1.loc;refine ⟨m,hm,λh2 sb cenv _=>?_⟩;have nT1:s.heap.objs.size<=T1:=t0.elim (P6 I.sz) λz=>(nT T1 z).1;have aT1:Apart (f_ X own cap O5 cl C s H fp) pi T1:=t0.elim (apart_new I) (ap T1);have free1:H' T1=none:=t0.elim I.hok.fresh (fr T1);have I2':Inv X O6 σ H' {s' with heap:=h2}:=back pi σ' H' {s' with heap:=h1} h2 I1 sb;have neC:∀b o,h1.get? b=some o->(∃vs,o.data=.fields vs)->h2.get? b=some o:=λb o hb ⟨vs,hd⟩=>(sb.2 b λz=>by
  obtain ⟨o',es,ep,h3,h4,_⟩:=hm;have:h1.get? C=some o':=h3;rw [z,this] at hb;rw [<-P7 hb,h4] at hd;cases hd).trans hb
 obtain ⟨oe,vs,oT,ts,v3,he,hc,hx,hd,h1',N5,hT,gr,h3⟩:=fy;have fy2:ji e Ce dx T1 h2:=⟨oe,vs,oT,ts,v3,neC _ _ he ⟨_,hd⟩,hc,hx,hd,h1',N5,neC _ _ hT ⟨_,gr⟩,gr,h3⟩;have aX:Apart X O6 T1:=apart_new I2 (P6 hs nT1);unfold PySem.passOn;refine Pf (QU (neC _ _ he ⟨_,hd⟩) hd h1' ?_);rw [if_neg (show ¬((RG T1 == RL)=true) from by simp)];refine Pf (se I2' fy2 aX free1 λh3 I3 fy3=>wpAny_throw ?_);exact hE O6 σ H' _ e Ce dx (some T1) I3 fy3 (P6 I2.sz (P6 hs nE)) (λT hT=>by
  obtain rfl:T=T1:=by simpa using hT
  exact ⟨P6 I2.sz (P6 hs nT1),aX⟩) gv (λT hT=>by
  obtain rfl:T=T1:=by simpa using hT
  exact free1) w
theorem nV {own:List Str}{cap:List Nat}{O5:SJ}{cl:List (Str×PK)}{C:PK}{s:Pk}{H:Hp}{fp:List PK}(hx:wW X c) (hst:autoParam (X.stack=X.env::X.outer) zA._auto_1) (hf:autoParam (X.env.frame=some X.env.locals) zA._auto_1):wW (qE X own cap O5 cl C s H fp (jh X own cap O5 cl C s H fp)) c:=by obtain ⟨E,hc,hT⟩:=hx;refine ⟨E,λO6 σ H' s' e Ce dx To I fl nE nT gv fr w=>?_,hT⟩;have o:=I.ok;exact ⟨O6,σ,H',e,Ce,dx,To,E,rfl,hc,hst,hf,⟨⟨o.mod,o.kind,o.glob,o.blt,o.above,o.inj,o.has,o.cab,o.hd,o.frames,o.stk,o.exf,o.bs,o.bsz,o.noex,o.exfs,o.funs,o.frf⟩,I.os,I.bare,I.base,I.loc,I.cell,I.free,I.freeC,I.pin,I.hok,I.len⟩,fl,nE,nT,gv,fr,w⟩
theorem AH (own:List Str) (cap:List Nat){elt O9 Pa:Qq}{ifs:List Qq}{O5:SJ}{pos:Pos}{gi:G (List D)}{gt:GT}{gts:G Bool}{ge:G R}(hi:Bp X c O9 Pa gi)
  (hbody:∀(cl:List (Str×PK)) (C:PK) (s:Pk) (H:Hp) (fp:List PK),gw X.env.cells O5.names []=some cl->uS (qE X own cap O5 cl C s H fp (jh X own cap O5 cl C s H fp)) c O9 gt/\Au (qE X own cap O5 cl C s H fp (jh X own cap O5 cl C s H fp)) c ifs gts/\QD (qE X own cap O5 cl C s H fp (jh X own cap O5 cl C s H fp)) c elt ge) (a:ED X O5 cap Pa:=by exact LL rfl):v5 X c (.ListComp elt [⟨O9,Pa,ifs,0⟩] O5 pos) (bC own.length cap gi gt gts ge):=by
 refine ⟨_,?_,rfl,λ_=>rfl⟩;rw [zN];refine xG (e:=.ListComp elt [⟨O9,Pa,ifs,0⟩] O5 pos) (ob:={cls:=.type "list",dict:=none,data:=.seq ([]:List Ph).toArray}) (o0:=λ_=>.lst []) (Acc:=λp _=>Aw c p) (N:=1) (lim:=sizeLine) (m:=λp env=>do let _ <-call (.builtin "list.append") [.ref p,<-eval elt env]) own cap rfl hi.h
  (λs Q E q=>Ro q) (λh H=>⟨QG _,[],0,.nil,Px _ rfl⟩) (λp _=>wX) (λp _ J H _ h1 h2=>⟨[],h1,h2,.nil⟩) (by rw [YJ];exact PJ _) (λit p env=>E7 (X8 ..)) (λit acc env R s h0 h=>U9 h0 h) (λys z q=>by cases q)
  (fun {p H2 J H J' H' ys r} hp _ e ⟨us,h1,h2,h3⟩ q=>by cases q;exact ⟨J',e,⟨p,us,rfl,h1,h2,hp,h3⟩⟩) (λcl C s H fp hcc=>?_) Ky a
 obtain ⟨b1,b2,b3⟩:=hbody cl C s H fp hcc;exact ⟨b1.h,b2.h,λp J2 H2 hp2 hp0=>zF hp2 hp0 b3.h⟩
section
variable {a b:Qq}{ga gb:G R}{pos:Pos}
theorem G5 (ha:QD X c a ga) (hb:QD X c b gb) (hm:autoParam (QS .In b=false) zA._auto_1):QB X c (.Compare a [.In] [b] pos) (aK (g2 (ju false) ga gb)):=⟨jI ve (by
 intro He He' J H x y u v Q hp rx ry w;unfold ju at w;split at w
 ·cases rx;cases ry;exact ⟨_,_,rfl,rfl,w _ J H (Ext.refl hp.sub) (.bl _)⟩
 ·exact w.elim) ha.h hb.h hm⟩
theorem Eb (ha:QD X c a ga) (hb:QD X c b gb) (hm:autoParam (QS .NotIn b=false) zA._auto_1):QB X c (.Compare a [.NotIn] [b] pos) (aK (g2 (ju true) ga gb)):=⟨jI yr (by
 intro He He' J H x y u v Q hp rx ry w;unfold ju at w;split at w
 ·cases rx;cases ry;exact ⟨_,_,rfl,rfl,w _ J H (Ext.refl hp.sub) (.bl _)⟩
 ·exact w.elim) ha.h hb.h hm⟩
end
end
end DL
namespace DL
open PySem PySem.Spec PyProof.Rows L2
end DL
namespace DL
open PySem PySem.Spec PyProof.Rows L2 DX
open Sem (wp)
end DL
namespace DL
open PySem PySem.Spec PyProof.Rows L2 DX
end DL
namespace DL
open PySem PySem.Spec PyProof.Rows L2
end DL
namespace DL
open PySem PySem.Spec PyProof.Rows L2
end DL
namespace DL
open PySem PySem.Spec PyProof.Rows L2
end DL
namespace DL
open PySem PySem.Spec PyProof.Rows L2 DX
mutual
noncomputable def kP:D->Bool
 | .non=>true
 | .bl _=>true
 | .int _=>true
 | .str _=>true
 | .tup xs=>c_ xs
 | _=>false
noncomputable def c_:List D->Bool
 | []=>true
 | x::xs=>kP x && c_ xs
end
noncomputable def rj:D->Bool
 | .lst ds=>c_ ds
 | _=>false
noncomputable def Ic (J J':Hp):Prop:=∀b o,J b=some o->(∀ws,o≠.lst ws)->J' b=some o
section
variable {K:Pe}{J J':Hp}{b:PK}{ws:List V}{o:HO}
theorem yR (k:Ic J J'){a:PK}{vs:List V}(h:dF K J a vs):dF K J' a vs:=by
 rcases h with (h | ⟨z,h⟩) | h
 ·exact .inl (.inl (k _ _ h λ_ e=>by cases e))
 ·exact .inl (.inr ⟨z,k _ _ h λ_ e=>by cases e⟩)
 ·exact .inr h
theorem aT.keep (k:Ic J J'){ds:List D}{vs:List V}(n:c_ ds=true) (h:aT K J ds vs):aT K J' ds vs:=by refine aT.rec (motive_1:=λd v _=>kP d=true->Rep K J' d v) (motive_2:=λds vs _=>c_ ds=true->aT K J' ds vs) (λ_=>.non) (λb _=>.bl b) (λi _=>.int i) (λx _=>.str x) (λ_ n=>nomatch n) (λh _ ih n=>.tup (yR k h) (ih n)) (λ_ _ _ n=>nomatch n) (λ_ _ _ _ _ _ n=>nomatch n) (λ_ _ _ _ _ _ _ n=>nomatch n) (λ_=>.nil) (λ_ _ h1 h2 n=>?_) h n;have n':=RH.mp n;exact .cons (h1 n'.1) (h2 n'.2)
theorem BZ (hb:J b=some (.lst ws)):Ic J (L2.upd J b o):=λa u h n=>by rw [aW (λe=>by rw [e,hb] at h;cases h;exact n _ rfl)];exact h
theorem aT.thaw (hb:J b=some (.lst ws)){ds:List D}{vs:List V}(n:c_ ds=true) (h:aT K J ds vs):aT K (L2.upd J b o) ds vs:=h.keep (BZ hb) n
theorem Rep.thaw (hb:J b=some (.lst ws)){d:D}{v:V}(n:kP d=true) (h:Rep K J d v):Rep K (L2.upd J b o) d v:=by
 cases (aT.thaw hb (ds:=[d]) (by show (kP d && true)=true;rw [n];rfl) (.cons h .nil)) with
 | cons h _=>exact h
theorem NR.other (hb:J b=some (.lst ws)){P:PK->Prop}:∀{xs:List D}{vs:List V},xs.all rj=true->V.ref b∉vs->NR K J P xs vs->NR K (L2.upd J b o) P xs vs
 | [],_,_,_,h=>h
 | _::_,_,n,nb,⟨ds,a,us,vs,h1,h2,h3,h4,h5,h6,h7⟩=>by subst h1;subst h2;rw [S_] at n;have n':=RH.mp n;exact ⟨ds,a,us,vs,rfl,rfl,by rw [aW λe=>nb (by rw [e];exact P0)];exact h3,h4.thaw hb n'.1,h5,h6,h7.other hb n'.2 λm=>nb (Py _ m)⟩
theorem NR.thaw (hb:J b=some (.lst ws)){P:PK->Prop}{ds':List D}{ws':List V}(hr:aT K (L2.upd J b (.lst ws')) ds' ws'):∀{xs:List D}{vs:List V}{n:Nat},xs.all rj=true->vs[n]?=some (.ref b)->NR K J P xs vs->NR K (L2.upd J b (.lst ws')) P (xs.set n (.lst ds')) vs
 | [],_,_,_,q,h=>by cases h;cases q
 | _::_,_,n,m,q,⟨ds,a,us,vs,h1,h2,h3,h4,h5,h6,h7⟩=>by
  subst h1;subst h2;rw [S_] at m;have m':=RH.mp m;cases n with
  | zero=>
   cases q;exact ⟨ds',b,ws',vs,rfl,rfl,bI,hr,h5,h6,h7.other hb m'.2 h6⟩
  | succ n=>
   have q:vs[n]?=some (.ref b):=q;exact ⟨ds,a,us,vs,rfl,rfl,by rw [aW λe=>h6 (by rw [e];exact QK q)];exact h3,h4.thaw hb m'.1,h5,h6,h7.thaw hb hr m'.2 q⟩
theorem NR.get {P:PK->Prop}:∀{xs:List D}{vs:List V}{n:Nat}{ds:List D},NR K J P xs vs->xs[n]?=some (.lst ds)->∃b ws,vs[n]?=some (.ref b)/\J b=some (.lst ws)/\aT K J ds ws/\P b
 | [],_,_,_,_,q=>by cases q
 | _::_,_,0,_,⟨ds,a,us,vs,h1,h2,h3,h4,h5,_⟩,q=>by subst h1;subst h2;cases q;exact ⟨a,us,rfl,h3,h4,h5⟩
 | _::_,_,n + 1,ds',⟨ds,a,us,vs,h1,h2,h3,h4,h5,h6,h7⟩,q=>by subst h2;exact h7.get (n:=n) q
end
section
variable {X:Cx}{c:C}{pos:Pos}
structure EO (X:Cx) (c:C) (st:RV) (g:G O):Prop where
 h:PS X st (tW c g)
structure Bq (X:Cx) (c:C) (st:List RV) (g:G O):Prop where
 h:iQ X st (tW c g)
theorem Fv {st:List RV}{g:G O}(h:lU X c st g):Bq X c st g:=⟨pC h.h λ_ _ _ q=>Bb q⟩
theorem iA {st:RV}{g:G O}(h:jD X c st g):EO X c st g:=⟨gK h.h λ_ _ _ q=>Bb q⟩
theorem fQ {st:RV}{O_:List RV}{t u:G O}(h:EO X c st t) (h':Bq X c O_ u):Bq X c (st::O_) (aq t u):=⟨pC (yw h.h h'.h) λE σ H ⟨J,env,sr,w⟩=>by
 refine ⟨J,env,sr,aB (aH w) λo wo=>?_⟩;cases o with
 | nx e=>exact λσ' J' H' s' sr'=>⟨J',e,sr',wo⟩
 | rt r=>exact wo
 | bk e=>exact wo
 | ct e=>exact wo⟩
end
theorem NR.mono2 {K:Pe}{J J':Hp}{P P':PK->Prop}(e:aV J J') (k:∀b ws,J b=some (.lst ws)->P b->P' b):∀{xs:List D}{vs:List V},NR K J P xs vs->NR K J' P' xs vs
 | [],_,h=>h
 | _::_,_,⟨ds,b,ws,us,h1,h2,h3,h4,h5,h6,h7⟩=>⟨ds,b,ws,us,h1,h2,e _ _ h3,h4.mono e,k b ws h3 h5,h6,h7.mono2 e k⟩
noncomputable abbrev C.at (c:C) (J0:Hp):C:=⟨c.K,c.H0,J0,c.T⟩
theorem iK.chg {c:C}{J H J1 H1 J0:Hp}(e:Ext J H J1 H1) (k:∀b ws,J b=some (.lst ws)->c.J0 b=none->J0 b=none):∀{x:S}{v:V},iK c J H x v->iK (c.at J0) J1 H1 x v
 | .d x,v,h=>Rep.mono e.j h
 | .own xs,v,h=>iK.ext (c:=c) (x:=.own xs) e h
 | .bor xs,v,h=>iK.ext (c:=c) (x:=.bor xs) e h
 | .dk ks vs,v,h=>iK.ext (c:=c) (x:=.dk ks vs) e h
 | .db ks vs,v,h=>iK.ext (c:=c) (x:=.db ks vs) e h
 | .fn _,v,h=>h
 | .ow2 _,v,⟨a,vs,h1,h2,h3,h4,h5⟩=>⟨a,vs,h1,e.h _ _ h2,e.frz a (by rw [h2];intro z;cases z) h3,h4,h5.mono2 e.j λb ws hb h=>⟨h.1,k b ws hb h.2⟩⟩
 | .tn _,v,⟨a,vs,h1,h2,h3⟩=>⟨a,vs,h1,cV e.j h2,h3.mono2 e.j λb ws hb h=>⟨h.1,k b ws hb h.2⟩⟩
section
variable {X:Cx}{c:C}{pos:Pos}
theorem SR.chg {J H J1 H1 J0:Hp}{σ:L2.St}{env:Ev}(sr:SR c J H σ env) (e:Ext J H J1 H1) (k:∀b ws,J b=some (.lst ws)->c.J0 b=none->J0 b=none) (hp:HI (c.at J0) J1 H1):SR (c.at J0) J1 H1 σ env:=
 ⟨hp,sr.len,λi x q=>let ⟨v,q1,q2⟩:=sr.at_ i x q;⟨v,q1,q2.chg e k⟩,sr.sep,(sr.ext e).sp2⟩
theorem HI.back {J J0 H:Hp}(hp:HI (c.at J0) J H) (s:aV c.J0 J0) (f:∀a,c.H0 a≠none->c.J0 a=none->J0 a=none):HI c J H:=
 ⟨hp.sub,hp.ent,s.trans hp.entJ,λa h1 h2=>hp.frz a h1 (f a h1 h2)⟩
theorem SR.back {J J0 H:Hp}{σ:L2.St}{env:Ev}(sr:SR (c.at J0) J H σ env) (s:aV c.J0 J0) (f:∀a,c.H0 a≠none->c.J0 a=none->J0 a=none):SR c J H σ env:=
 ⟨sr.hp.back s f,sr.len,λi x q=>let ⟨v,q1,q2⟩:=sr.at_ i x q;⟨v,q1,iK.chg (c:=c.at J0) (J0:=c.J0) (Ext.refl sr.hp.sub) (λb ws _ h=>s.free h) q2⟩,sr.sep,sr.sp2⟩
theorem RF.back {J J0 H:Hp}{v:V}:∀{r:R},RF (c.at J0) J H r v->RF c J H r v
 | .d _,h=>h
 | .l _ _,h=>h
 | .mf _ _,h=>h
 | .ln _,h=>h
noncomputable def EZ (i:Nat):G O:=λenv=>.ok (.nx (env.set i (some (.tn [.lst [],.lst []]))))
theorem Cz (i:Nat){x:Str}{k:Nat}{p1 p2 p3 pos':Pos}(hN:X.N.Nodup) (hi:autoParam (X.N[i]?=some x) zA._auto_1) (hx:Loc X.env.scope x:=by first | exact UZ rfl | exact TX rfl) (hs:autoParam (Sq (.Tuple [.List [] p1,.List [] p2] k p3) (some (.Name x pos')) pos.line X.env=pure false) zA._auto_1)
  (hf:X.fn x=true\/X.env.scope.names.lookup x=some .local:=by first | exact .inl rfl | exact .inr rfl):jD X c (.Assign [.Name x pos'] (.Tuple [.List [] p1,.List [] p2] k p3) pos) (EZ i):=⟨gK (sV hN hi hx (Ck (fz (yv gT) (fz (yv gT) gT))) hs hf) λE σ H ⟨J,env,sr,w⟩=>by
 refine ⟨by decide,λa ha=>⟨by decide,λb hb=>⟨(by decide:2<=sizeLine),λp hp=>?_⟩⟩⟩;have e1:=Ext.newJ sr.hp.sub ha (.lst []);have e2:=e1.trans (Ext.newJ e1.sub hb (.lst []));have e3:=e2.trans (Ext.newJ e2.sub hp (.tup [.ref a,.ref b]));have na:b≠a:=λz=>by rw [z,bI] at hb;cases hb
 have hb0:H b=none:=by rw [aW na] at hb;exact hb
 have pb:p≠b:=λz=>by rw [z,bI] at hp;cases hp
 have pa:p≠a:=λz=>by rw [z,aW (QC na),bI] at hp;cases hp
 have P:∀q,H q=none->c.H0 q=none/\c.J0 q=none:=λq hq=>⟨sr.hp.ent.free hq,sr.hp.entJ.free (sr.hp.sub.free hq)⟩;refine w _ _ _ e3.j ((sr.ext e3).setD (x:=.tn [.lst [],.lst []]) ⟨p,[.ref a,.ref b],rfl,.inl (.inl bI),[],a,[],[.ref b],rfl,rfl,?_,.nil,P a ha,?_,[],b,[],[],rfl,rfl,?_,.nil,P b hb0,P9,rfl⟩ λx z=>by cases x <;> cases z)
 ·rw [aW (QC pa),aW (QC na),bI]
 ·intro m;cases P1.mp m;exact na rfl
 ·rw [aW (QC pb),bI]⟩
noncomputable def Jq:S->Bool
 | .d x=>kP x
 | .own xs=>c_ xs
 | .bor xs=>c_ xs
 | .fn _=>true
 | _=>false
noncomputable def rD (env:Ev):Bool:=env.all λo=>match o with
 | some x=>Jq x
 | none=>true
theorem GF {env:Ev}{i:Nat}{x:S}(h:rD env=true) (q:env[i]?=some (some x)):Jq x=true:=PF.mp h _ (QK q)
theorem SR.thawT {J H:Hp}{σ:L2.St}{env:Ev}(sr:SR c J H σ env){i n:Nat}{xs ds':List D}{p b:PK}{vs ws ws':List V}(ok:rD (env.set i none)=true) (nl:xs.all rj=true) (hs:σ[i]?=some (some (.ref p))) (hp:dF c.K J p vs) (hR:NR c.K J (λb=>c.H0 b=none/\c.J0 b=none) xs vs) (hn:vs[n]?=some (.ref b)) (hb:J b=some (.lst ws)) (h0:c.H0 b=none) (OI:c.J0 b=none)
  (hr:aT c.K J ds' ws') (no:c_ ds'=true):SR c (L2.upd J b (.lst ws')) (L2.upd H b (.lst ws')) σ (env.set i (some (.tn (xs.set n (.lst ds'))))):=by
 have ne:∀{a:PK},J a=none->a≠b:=λh e=>by rw [e,hb] at h;cases h
 have oth:∀j y,(env.set i (some (.tn (xs.set n (.lst ds')))))[j]?=some (some y)->j≠i->env[j]?=some (some y)/\Jq y=true:=λj y q hj=>by rw [PN (QC hj)] at q;exact ⟨q,GF ok (i:=j) (by rw [PN (QC hj)];exact q)⟩
 refine ⟨⟨λa o q=>?_,λa o q=>?_,λa o q=>?_,λa k1 k2=>?_⟩,by simpa using sr.len,λj y q=>?_,λj k ys zs w hjk q1 q2 q3 q4=>?_,λj k ys zs hjk q1 q2=>?_⟩
 ·by_cases e:a=b
  ·subst e;rw [bI] at q ⊢;exact q
  ·rw [aW e] at q ⊢;exact sr.hp.sub a o q
 ·rw [aW λe=>by rw [e,h0] at q;cases q];exact sr.hp.ent a o q
 ·rw [aW λe=>by rw [e,OI] at q;cases q];exact sr.hp.entJ a o q
 ·rw [aW λe=>k1 (by rw [e];exact h0)];exact sr.hp.frz a k1 k2
 ·rcases cR q with ⟨rfl,hl,rfl⟩ | ⟨hj,_⟩
  ·exact ⟨.ref p,hs,p,vs,rfl,yR (BZ hb) hp,hR.thaw hb (hr.thaw hb no) nl hn⟩
  ·obtain ⟨q,hy⟩:=oth j y q hj;obtain ⟨w,k1,k2⟩:=sr.at_ j y q;refine ⟨w,k1,?_⟩;cases y with
   | d x=>exact Rep.thaw hb hy k2
   | bor zs=>obtain ⟨a,us,m1,m2,m3⟩:=k2;exact ⟨a,us,m1,m2,m3.thaw hb hy⟩
   | own zs=>
    obtain ⟨a,us,rfl,m1,m2,m3,m4⟩:=k2;exact ⟨a,us,rfl,by rw [aW (ne m2)];exact m1,by rw [aW (ne m2)];exact m2,m3,m4.thaw hb hy⟩
   | fn _=>exact k2
   | dk _ _=>cases hy
   | db _ _=>cases hy
   | ow2 _=>cases hy
   | tn _=>cases hy
 ·have f:∀(k:Nat) (ys:Mn),(env.set i (some (.tn (xs.set n (.lst ds')))))[k]?=some (some (mS ys))->env[k]?=some (some (mS ys)):=λk ys q=>by
   rcases cR q with ⟨_,_,z⟩ | ⟨_,q⟩
   ·cases ys <;> cases z
   ·exact q
  exact sr.sep j k ys zs w hjk (f j ys q1) (f k zs q2) q3 q4
 ·rcases cR q1 with ⟨_,_,z⟩ | ⟨hj,_⟩
  ·cases z
  ·cases (oth j _ q1 hj).2
noncomputable def zP (i:Nat) (gi g:G R):G O:=λenv=>match env[i]? with
 | some (some (.tn xs))=>gi env >>= λr=>(match r with
  | .d (.int j)=>(match xT xs.length j with
   | some n=>(match xs[n]? with
    | some (.lst ds)=>if (rD (env.set i none) && xs.all rj)=true then g env >>= λr=>toD r >>= λd=>if ds.length < sizeLine/\c_ (ds++[d])=true then .ok (.nx (env.set i (some (.tn (xs.set n (.lst (ds++[d]))))))) else .bad else .bad
    | _=>.bad)
   | none=>.bad)
  | _=>.bad)
 | _=>.bad
theorem Hi (i:Nat){x:Str}{ix e:Qq}{gi g:G R}{p0 p1 p2 pos':Pos}(hi:QD X c ix gi) (h:QD X c e g) (hN:autoParam (X.N[i]?=some x) zA._auto_1) (hv:zE X.env.scope x:=by first | exact UZ rfl | exact TX (UZ rfl) | exact TX (TX rfl)) (hd:autoParam ((x == ("__debug__":Str))=false) zB._auto_1) (hcd:autoParam ((x == ("__classdict__":Str))=false) zB._auto_1)
  (hK:autoParam (X.K=c.K) zA._auto_1) (hx:pR ix:=by exact λ_ _=>rfl) (hbase:autoParam (R1 (.Subscript (.Name x p0) ix p1) "append" X.env (eval (.Subscript (.Name x p0) ix p1) X.env)=eval (.Subscript (.Name x p0) ix p1) X.env) zA._auto_1)
  (hfew:autoParam (((Ra pos' (Po [e] X.env)).all (λx=>!x.1) && (XZ pos' (VB [] X.env)).all (λx=>x.1.isSome) && decide (([e]:List Qq).length + ([]:List VC).length + (if ([]:List VC).isEmpty then 0 else 1) < 30))=true) zA._auto_1) (hline:autoParam ((p2.endLine == pos'.line)=true) zA._auto_1)
  (hst:autoParam (Po [e] X.env=(false,eval e X.env)::Po [] X.env) zA._auto_1) (hplain:autoParam ((Ra pos' (Po [] X.env)).any (·.1)=false) zA._auto_1)
  (hs:autoParam (Sq (.Call (.Attribute (.Subscript (.Name x p0) ix p1) "append" p2) [e] [] pos') none pos.line X.env=pure false) zA._auto_1):EO X c (.Expr (.Call (.Attribute (.Subscript (.Name x p0) ix p1) "append" p2) [e] [] pos') pos) (zP i gi g):=
 ⟨gK (uI (A2 Si UM UN o_ (Ff BW (pA hN hv hd hcd) hi.h hx) (fz h.h gT hst) hbase hfew hline hst hplain) hs) λE σ H ⟨J,env,sr,w⟩=>by
  unfold zP at w;split at w
  ·rename_i xs hi;obtain ⟨_,m1,p,vs,rfl,m2,m3⟩:=sr.at_ i _ hi;refine ⟨.ref p,m1,J,env,sr,aB (aH w) λr wr v J1 H1 e1 r1=>?_⟩;split at wr
   ·rename_i j;cases r1;have sr1:=sr.ext e1;have k5:=m3.mono e1.j λ_ h=>h;split at wr
    ·rename_i n hn;split at wr
     ·rename_i ds hds;split at wr
      ·rename_i ok;have ok:=RH.mp ok;obtain ⟨b,ws,n1,n2,n3,n4⟩:=k5.get hds;refine ⟨p,vs,j,.ref b,rfl,rfl,by rw [hK];exact cV e1.sub (cV e1.j m2),by unfold lV;rw [<-k5.reps.length,hn];exact n1,.inl ⟨rfl,ws,cX.of (sr1.hp.sub _ _ n2)⟩,J1,env,sr1,aB (aH wr) λr2 wr y J2 H2 e2 r2=>?_⟩;obtain ⟨d,q,wr⟩:=kq wr;obtain ⟨J3,e3,s3,rd⟩:=freeze e2 r2 q;split at wr
       ·rename_i hz;have t:=(sr1.ext e3).thawT ok.1 ok.2 m1 (cV (e1.j.trans e3.j) m2) (k5.mono e3.j λ_ h=>h) n1 (e3.j _ _ n2) n4.1 n4.2 ((n3.mono e3.j).append (.cons rd .nil)) hz.2;exact ⟨b,ws,y,rfl,rfl,e3.sub _ _ (e3.j _ _ n2),by rw [<-n3.length];exact hz.1,wr σ _ _ t.hp.entJ t⟩
       ·exact wr.elim
      ·exact wr.elim
     ·exact wr.elim
    ·exact wr.elim
   ·exact wr.elim
  ·exact w.elim⟩
noncomputable def AL (g:G R) (t:GT) (u:G O):G O:=λenv=>g env >>= λr=>match r with
 | .l .fresh ds=>if c_ ds=true then eu t u ds env else .bad
 | _=>.bad
open Classical in
noncomputable def kept (c:C) (J J1:Hp):Hp:=λb=>if ∃ws,J b=some (.lst ws) then c.J0 b else J1 b
theorem Hh {tg e:Qq}{body:List RV}{g:G R}{t:GT}{u:G O}(hi:QD X c e g) (ht:∀J0,uS X (c.at J0) tg t) (hb:∀J0,Bq X (c.at J0) body u) (hp:Yc (Qj X.prog X.w) X.A X.env X.xe:=by first | exact Xa | exact Wo) (hc:autoParam (X.calm=true) zA._auto_1) (hK:autoParam (X.K=c.K) zA._auto_1)
  (hs:∀x,Sz e X.env x=pure x:=by intro _;rfl):EO X c (.For tg e body [] pos) (AL g t u):=by
 have hg:PG X tg (λv σ H Q=>∃J0,tT (c.at J0) t v σ H Q):=λO6 s σ H v u Q I r ⟨J0,q⟩=>(ht J0).h O6 s σ H v u Q I r q;have hb':iQ X body (λE σ H=>∃J0,tW (c.at J0) u E σ H):=λO6 s σ H E I ⟨J0,q⟩=>(hb J0).h O6 s σ H E I q;refine ⟨gK (Cu hp hc (GY hi.h) hg hb' hs) λE σ H ⟨J,env,sr,w⟩=>?_⟩;refine ⟨J,env,sr,aB (aH w) λr wr v J1 H1 e1 r1=>?_⟩;split at wr
 ·rename_i ds;split at wr
  ·rename_i nl;obtain ⟨a,vs,rfl,h1,h2,h3,h4⟩:=r1;have e2:=p6 e1 h1 h2 h3;have jn:J a=none:=sr.hp.sub.free h3;generalize OB:L2.upd J1 a (.lst vs)=J2 at e2;have s12:aV J1 J2:=OB▸cj h2 _;have s1:aV (kept c J J2) J2:=λb o q=>by
    unfold kept at q;split at q
    ·exact e2.j _ _ (sr.hp.entJ _ _ q)
    ·exact q
   have s2:aV c.J0 (kept c J J2):=λb o q=>by
    unfold kept;split
    ·exact q
    ·exact e2.j _ _ (sr.hp.entJ _ _ q)
   have ka:kept c J J2 a=some (.lst vs):=by unfold kept;rw [if_neg (λ⟨_,z⟩=>by rw [jn] at z;cases z),<-OB,bI]
   have kn:∀b ws,J b=some (.lst ws)->c.J0 b=none->kept c J J2 b=none:=λb ws q q0=>by unfold kept;rw [if_pos ⟨ws,q⟩];exact q0
   have hI:=sr.hp.ext e2;have kf:∀b,c.H0 b≠none->c.J0 b=none->kept c J J2 b=none:=λb k1 k2=>s1.free (hI.frz b k1 k2);have hp2:HI (c.at (kept c J J2)) J2 H1:=⟨e2.sub,hI.ent,s1,λb k1 k2=>by
    have k2:kept c J J2 b=none:=k2;by_cases q:∃ws,J b=some (.lst ws)
    ·refine hI.frz b k1 ?_;unfold kept at k2;rw [if_pos q] at k2;exact k2
    ·unfold kept at k2;rw [if_neg q] at k2;exact k2⟩
   have wk:Walk (c.at (kept c J J2)) (zx c.K a) ds (kept c J J2) (λJ' _=>aV (kept c J J2) J'):=lz (c:=c.at (kept c J J2)) (.inl (.inl (.inl ka))) ((h4.mono s12).keep (λb o q n=>by
    unfold kept;rw [if_neg (λ⟨ws,z⟩=>by rw [e2.j _ _ z] at q;cases q;exact n ws rfl)];exact q) nl)
   refine ⟨_,rfl,⟨_,by rw [hK];exact e2.sub.seq (s1.seq (.inl (.inl ka)))⟩,?_⟩;rw [hK];have sr0:=sr.chg e2 kn hp2;generalize kept c J J2=Jk at s1 s2 kf sr0 wk;refine ⟨λi m σ H=>m=ds.length - i/\∃J' env,aV Jk J'/\SR (c.at Jk) J' H σ env/\cg (eu t u (ds.drop i) env) (oP c c.J0 E) c.T,⟨ds.length,by simp,J2,env,s1,sr0,by rw [R8];exact wr⟩,?_⟩;rintro i m σ H ⟨rfl,J',env,s',sr',w'⟩;obtain ⟨w1,w2⟩:=wk i J' H sr'.hp s';by_cases hlt:i < ds.length
   ·obtain ⟨g1,y1⟩:=w2 ds[i] (by simp [hlt]);rw [Ry hlt] at w';refine .inr ⟨g1,λσ2 H2=>∃J2 env2,aV Jk J2/\SR (c.at Jk) J2 H2 σ2 env2/\cg (eu t u (ds.drop (i + 1)) env2) (oP c c.J0 E) c.T,?_,?_⟩
    ·rintro σ2 H2 ⟨J2,env2,s2,sr2,w2⟩;exact ⟨ds.length - (i + 1),by omega,rfl,J2,env2,s2,sr2,w2⟩
    ·intro x H2 hy;obtain ⟨J2,e2,rx⟩:=y1 x H2 hy;refine ⟨Jk,J2,env,ds[i],sr'.ext e2,rx,aB (aH w') λenv3 w3 σ3 sr3 _=>?_⟩;refine ⟨Jk,J2,env3,sr3,aB (aH w3) λo wo=>?_⟩;cases o with
     | nx env4=>exact λσ4 J4 H4 s4 sr4=>⟨J4,env4,s4,sr4,wo⟩
     | ct env4=>exact λσ4 J4 H4 s4 sr4=>⟨J4,env4,s4,sr4,wo⟩
     | bk env4=>exact λσ4 J4 H4 s4 sr4=>wo σ4 J4 H4 (s2.trans s4) (sr4.back s2 kf)
     | rt r=>exact λv J4 H4 s4 h4 r4=>wo v J4 H4 (s2.trans s4) (h4.back s2 kf) r4.back
   ·rw [Tp (by omega)] at w';exact .inl ⟨w1 (by omega),w' σ J' H (s2.trans s') (sr'.back s2 kf)⟩
  ·exact wr.elim
 ·exact wr.elim
theorem MQ {P:PX}{w:Qn}{K:Pe}{mg:Str->Option Ph}{base:QV}{x:Str}{st:RV}{k:Nat}{Fm:List S->M R}(gB:G O) (N:List Str) (n:Nat) (e:FB K mg x st)
  (hb:N.Nodup->∀(f:PK) (cdv:Ph) (A:Qx) (outer:List Env) (s:Pk) (H:Hp) (E:XK) (J:Hp) (T:Exc->Prop),cH k (A.deeper (SK x (aQ st) s.heap.objs.size f cdv))->
   Bq (u0 P w K mg base N x (aQ st) f cdv A outer s H E) ⟨K,H,J,T⟩ (bW st) gB)
  (Sc:cL N (N.take n) (aQ st))
  (hbi:∀(kV doc pm:Ph) (an:Option PK) (cdv ct:Ph) (us:List Ph),us.length=(N.take n).length->Ur (Q5 x x (d8 st) (bW st) (aQ st) .none kV doc pm an cdv ct) ⟨us,[]⟩=pure ((N.take n).zip us))
  (hF:∀as r,as.length=(N.take n).length->Fm as=.ok r->fin (gB (ay N as))=.ok r):bQ P w K mg base (k + 1) (N.take n).length x Fm:=
 let ⟨f,fd,hm,F⟩:=e;⟨f,fd,N.take n,BN F Sc (λcdv A outer s H E J T hr=>(hb Sc.nd f cdv A outer s H E J T hr).h) hF,hm,F.kp,F.binds hbi⟩
end
end DL
namespace K05
open PySem DL
noncomputable def rR:List Str:=["name","points"]
noncomputable def sH:G O:=(aE (gZ (gC (.str " ")) (g2 bO (cT (aj (zO (jF (aa 0) (jC ":" o8))) aC)) (bC 1 [] (gy (aa 1)) (aF 0) dc (gN i_ (ah (aa 0) ak))))))
noncomputable def jS (as:List S):M R:=fin (sH (ay rR as))
noncomputable def qw:List Str:=["name","pairs"]
noncomputable def qI:G O:=(aE (gZ (gC (.str " ")) (g2 bO (cT (aj (zO (jF (aa 0) (jC ">" o8))) aC)) (bC 2 [] (gy (aa 1)) (cS 2 (bq (aF 0) (bq (aF 1) cK))) dc (zO (jF (aa 0) (jC "-" (jF (aa 1) o8))))))))
noncomputable def jB (as:List S):M R:=fin (qI (ay qw as))
noncomputable def qz:List Str:=["world","many","marks","arrows","parts"]
noncomputable def qJ:G O:=(aq (iL (cS 3 (bq (aF 1) (bq (aF 2) (bq (aF 3) cK)))) (aa 0))
 (aq (aG 4 (cT (aj (gN i_ (ah (aa 1) ak)) aC)))
 (aq (uw 4 (bC 2 [] (gy (aa 2)) (cS 2 (bq (aF 0) (bq (aF 1) cK))) dc (gN (au 2 K05.jS) (ah (aa 0) (ah (aa 1) ak)))))
 (aq (uw 4 (bC 2 [] (gy (aa 3)) (cS 2 (bq (aF 0) (bq (aF 1) cK))) dc (gN (au 2 K05.jB) (ah (aa 0) (ah (aa 1) ak)))))
 (aE (gZ (gC (.str "; ")) (aa 4)))))))
noncomputable def f9 (as:List S):M R:=fin (qJ (ay qz as))
noncomputable def wL:List Str:=["word"]
noncomputable def oZ:G O:=(aq (aJ (aK (g2 (gQ true) (aa 0) (gC (.tup [(.str "0"),(.str "1"),(.str "2"),(.str "3"),(.str "4"),(.str "5"),(.str "6"),(.str "7"),(.str "8")])))) (kc "NoWorld" (aj (gC (.str "a number of the text is none of a world")) aC)) aU)
 (aE (gN mZ (ah (aa 0) ak))))
noncomputable def dh (as:List S):M R:=fin (oZ (ay wL as))
noncomputable def Ar:List Str:=["word","one","sign","other"]
noncomputable def sG:G O:=(aq (iL (cS 3 (bq (aF 1) (bq (aF 2) (bq (aF 3) cK)))) (p9 (aa 0) (gC (.str "-"))))
 (aE (c9 (aj (gN (dY 1 K05.dh) (ah (aa 1) ak)) (aj (gN (dY 1 K05.dh) (ah (aa 3) ak)) aC)))))
noncomputable def iY (as:List S):M R:=fin (sG (ay Ar as))
noncomputable def Aq:List Str:=["part","name","sign","rest"]
noncomputable def sF:G O:=(aq (iL (cS 3 (bq (aF 1) (bq (aF 2) (bq (aF 3) cK)))) (p9 (aa 0) (gC (.str ":"))))
 (aE (c9 (aj (aa 1) (aj (gN eH (ah (bC 1 [] (gy (dw eZ (fF (aa 3) (gC (.str " "))) (dM (gC (.int 1))) dZ)) (aF 0) dc (gN (dY 1 K05.dh) (ah (aa 0) ak))) ak)) aC)))))
noncomputable def iX (as:List S):M R:=fin (sF (ay Aq as))
noncomputable def yZ:List Str:=["part","name","sign","rest"]
noncomputable def qH:G O:=(aq (iL (cS 3 (bq (aF 1) (bq (aF 2) (bq (aF 3) cK)))) (p9 (aa 0) (gC (.str ">"))))
 (aE (c9 (aj (aa 1) (aj (gN eH (ah (bC 1 [] (gy (dw eZ (fF (aa 3) (gC (.str " "))) (dM (gC (.int 1))) dZ)) (aF 0) dc (gN (dY 1 K05.iY) (ah (aa 0) ak))) ak)) aC)))))
noncomputable def iu (as:List S):M R:=fin (qH (ay yZ as))
noncomputable def y9:List Str:=["text","head","parts","marks","arrows","world"]
noncomputable def lN:G O:=(aq (aJ (aP (aK (br "str" (aa 0)))) (kc "NoWorld" (aj (gC (.str "what is no text is no world's text")) aC)) aU)
 (aq (sC (bq (aF 1) (bq (aF 2) cK)) (fF (aa 0) (gC (.str "; "))))
 (aq (aG 3 (bC 1 [] (gy (aa 2)) (aF 0) (aK (g2 (ju false) (gC (.str ":")) (aa 0))) (gN (dY 1 K05.iX) (ah (aa 0) ak))))
 (aq (aG 4 (bC 1 [] (gy (aa 2)) (aF 0) (aK (g2 (ju true) (gC (.str ":")) (aa 0))) (gN (dY 1 K05.iu) (ah (aa 0) ak))))
 (aq (aG 5 (c9 (aj (gN (dY 1 K05.dh) (ah (aa 1) ak)) (aj (gN eH (ah (aa 3) ak)) (aj (gN eH (ah (aa 4) ak)) aC)))))
 (aq (aJ (bu (aP (aK (gN (au 1 K01.cF) (ah (aa 5) ak)))) (aK (g2 (cJ true) (gN (au 1 K05.f9) (ah (aa 5) ak)) (aa 0)))) (kc "NoWorld" (aj (gC (.str "the text is not that of a world")) aC)) aU)
 (aE (aa 5))))))))
noncomputable def di (as:List S):M R:=fin (lN (ay y9 as))
noncomputable def qq:List Str:=["_law_caught","_law_some_here"]
noncomputable def qF:G O:=(aq (aG 1 (cT (aj (gR XL (λx=>x == "NoWorld") (aa 0)) (aj (gR XL (λx=>x == "NoTongue") (aa 0)) (aj (gR XL (λx=>x == "NoSaying") (aa 0)) aC)))))
 (aq (aG 1 (g2 bO (aa 1) (cT (aj (gR XL (λx=>x == "NoMore") (aa 0)) (aj (gR XL (λx=>x == "NoName") (aa 0)) (aj (gR XL (λx=>x == "NoLetter") (aa 0)) aC))))))
 (aq (aG 1 (g2 bO (aa 1) (cT (aj (gR XL (λx=>x == "TooMany") (aa 0)) (aj (gR XL (λx=>x == "NoCount") (aa 0)) (aj (gR XL (λx=>x == "NoPoint") (aa 0)) aC))))))
 (aq (aG 1 (g2 bO (aa 1) (cT (aj (gR XL (λx=>x == "NoRow") (aa 0)) (aj (gR XL (λ_=>true) (aa 0)) (aj (gR XL (λ_=>true) (aa 0)) aC))))))
 (aE (bC 1 [1] (dJ (ah (gC (.int 12)) ak)) (aF 0) (IT (g2 bP (aa 1) (aa 0))) (aa 0)))))))
noncomputable def ir (as:List S):M R:=fin (qF (ay qq as))
noncomputable def rQ:List Str:=["_law_world_here","_law_parts","_law_name","_law_points","_law_pairs_here"]
noncomputable def sE:G O:=(aq (aG 1 (cT (aj (gN i_ (ah (g2 bP (aa 0) (gC (.int 0))) ak)) aC)))
 (aq (gI (uz (g2 bP (aa 0) (gC (.int 1)))) (cS 2 (bq (aF 2) (bq (aF 3) cK))) (dW 1 (g2 bO (g2 bO (aa 2) (gC (.str ":"))) (gZ (gC (.str "")) (bC 1 [] (gy (aa 3)) (aF 0) dc (g2 bO (gC (.str " ")) (gN i_ (ah (aa 0) ak))))))))
 (aq (gI (uz (g2 bP (aa 0) (gC (.int 2)))) (cS 2 (bq (aF 2) (bq (aF 4) cK))) (dW 1 (g2 bO (g2 bO (aa 2) (gC (.str ">"))) (gZ (gC (.str "")) (bC 2 [] (gy (aa 4)) (cS 2 (bq (aF 0) (bq (aF 1) cK))) dc (g2 bO (g2 bO (g2 bO (gC (.str " ")) (gN i_ (ah (aa 0) ak))) (gC (.str "-"))) (gN i_ (ah (aa 1) ak))))))))
 (aE (gZ (gC (.str "; ")) (aa 1))))))
noncomputable def jR (as:List S):M R:=fin (sE (ay rQ as))
noncomputable def nZ:List Str:=["_law_thing"]
noncomputable def n_:G O:=(aq (aJ (bu (aK (g2 (bz λi j=>.bl (decide (i < j))) (gN dz (ah (aa 0) ak)) (gC (.int 2)))) (aK (g2 (bz λi j=>.bl (decide (j < i))) (gN dz (ah (aa 0) ak)) (gC (.int 8))))) (aE (gC (.bl false))) aU)
 (aq (aJ (aK (g2 (gQ false) (aa 0) (c9 (aj (gC (.str "and")) (aj (gC (.str "or")) (aj (gC (.str "not")) (aj (gC (.str "some")) (aj (gC (.str "every")) (aj (gC (.str "least")) (aj (gC (.str "true")) (aj (gC (.str "false")) aC))))))))))) (aE (gC (.bl false))) aU)
 (aE (gN eV (ah (bC 1 [] (uA (aa 0)) (aF 0) dc (g2 (ju false) (aa 0) (gC (.str "abcdefghijklmnopqrstuvwxyz")))) ak)))))
noncomputable def fN (as:List S):M R:=fin (n_ (ay nZ as))
noncomputable def oB:List Str:=["_law_some_here"]
noncomputable def oU:G O:=(aE (gN eV (ah (bC 1 [0] (dJ (ah (g2 oQ (gN dz (ah (aa 0) ak)) (gC (.int 1))) ak)) (aF 0) dc (g2 q9 (g2 bP (aa 1) (aa 0)) (g2 bP (aa 1) (g2 cB (aa 0) (gC (.int 1)))))) ak)))
noncomputable def eF (as:List S):M R:=fin (oU (ay oB as))
noncomputable def oE:List Str:=["_law_words","_law_sign","_law_many","_law_found","_law_known","_law_word","_law_one","_law_line","_law_other"]
noncomputable def oV:G O:=(aq (aG 3 (cT aC))
 (aq (aG 4 (bC 1 [] (dJ (ah (aa 2) ak)) (aF 0) dc (gN i_ (ah (aa 0) ak))))
 (aq (gI (uz (aa 0)) (aF 5) (aq (iL (cS 3 (bq (aF 6) (bq (aF 7) (bq (aF 8) cK)))) (p9 (aa 5) (gC (.str "-"))))
 (aJ (bf (aK (g2 (cJ false) (aa 1) (gC (.str ":")))) (aK (g2 (gQ false) (aa 5) (aa 4)))) (dW 3 (sA (aa 4) (aa 5))) (aJ (bf (aK (g2 (cJ false) (aa 1) (gC (.str ">")))) (bf (aK (g2 (cJ false) (aa 7) (gC (.str "-")))) (bf (aK (g2 (gQ false) (aa 6) (aa 4))) (aK (g2 (gQ false) (aa 8) (aa 4)))))) (dW 3 (c9 (aj (sA (aa 4) (aa 6)) (aj (sA (aa 4) (aa 8)) aC)))) (aE (gC .non))))))
 (aq (aJ (aP (aK (gN (au 1 K05.eF) (ah (aa 3) ak)))) (aE (gC .non)) aU)
 (aE (gN eH (ah (aa 3) ak)))))))
noncomputable def gk (as:List S):M R:=fin (oV (ay oE as))
noncomputable def oH:List Str:=["_law_text_here","_law_parts","_law_many","_law_found","_law_part","_law_words","_law_name","_law_sign","_law_some_here"]
noncomputable def oX:G O:=(aq (aG 1 (fF (aa 0) (gC (.str "; "))))
 (aq (aJ (aK (g2 (gQ true) (g2 bP (aa 1) (gC (.int 0))) (cT (aj (gC (.str "1")) (aj (gC (.str "2")) (aj (gC (.str "3")) (aj (gC (.str "4")) (aj (gC (.str "5")) (aj (gC (.str "6")) (aj (gC (.str "7")) (aj (gC (.str "8")) aC))))))))))) (aE (gC .non)) aU)
 (aq (aG 2 (gN mZ (ah (g2 bP (aa 1) (gC (.int 0))) ak)))
 (aq (EZ 3)
 (aq (AL (dw eZ (aa 1) (dM (gC (.int 1))) dZ) (aF 4) (aq (aG 5 (fF (aa 4) (gC (.str " "))))
 (aq (aG 6 (dw gx (g2 bP (aa 5) (gC (.int 0))) dZ (dM (q_ (gC (.int 1))))))
 (aq (aG 7 (dw gx (g2 bP (aa 5) (gC (.int 0))) (dM (q_ (gC (.int 1)))) dZ))
 (aq (aJ (bu (aK (g2 (gQ true) (aa 7) (cT (aj (gC (.str ":")) (aj (gC (.str ">")) aC))))) (aP (aK (gN (au 1 K05.fN) (ah (aa 6) ak))))) (aE (gC .non)) aU)
 (aq (aG 8 (gN (au 3 K05.gk) (ah (dw eZ (aa 5) (dM (gC (.int 1))) dZ) (ah (aa 7) (ah (aa 2) ak)))))
 (aq (aJ (bu (aK (g2 (rY false) (aa 8) (gC .non))) (bf (aK (g2 (cJ false) (aa 7) (gC (.str ":")))) (aK (g2 (cJ true) (g2 bP (aa 3) (gC (.int 1))) (cT aC))))) (aE (gC .non)) aU)
 (aq (zP 3 (gN mZ (ah (g2 (cJ false) (aa 7) (gC (.str ">"))) ak)) (c9 (aj (aa 6) (aj (aa 8) aC))))
 aU))))))))
 (aq (DH 3 (gI (uz (aa 3)) (aF 8) (aJ (bu (aK (g2 (bz λi j=>.bl (decide (j < i))) (gN dz (ah (aa 8) ak)) (gC (.int 3)))) (aP (aK (gN (au 1 K05.eF) (ah (bC 1 [] (gy (aa 8)) (aF 0) dc (g2 bP (aa 0) (gC (.int 0)))) ak))))) (aE (gC .non)) aU)))
 (aE (c9 (aj (aa 2) (aj (gN eH (ah (g2 bP (aa 3) (gC (.int 0))) ak)) (aj (gN eH (ah (g2 bP (aa 3) (gC (.int 1))) ak)) aC)))))))))))
noncomputable def iW (as:List S):M R:=fin (oX (ay oH as))
noncomputable def oG:List Str:=["_law_text_here","_law_number","_law_sign","_law_at","_law_far","_law_way","_law_parts","_law_spot"]
noncomputable def oW:G O:=(aq (aG 2 (g2 bP (gC (.str "012345678 ;:>-abz\n")) (g2 cQ (aa 1) (gC (.int 18)))))
 (aq (aG 3 (g2 cQ (g2 fE (aa 1) (gC (.int 18))) (g2 bO (gN dz (ah (aa 0) ak)) (gC (.int 1)))))
 (aq (aG 4 (g2 bO (g2 bO (aa 3) (gC (.int 1))) (g2 cQ (g2 fE (aa 1) (gC (.int 9000))) (gC (.int 4)))))
 (aq (aG 5 (g2 cQ (g2 fE (aa 1) (gC (.int 36000))) (gC (.int 7))))
 (aq (aG 6 (fF (aa 0) (gC (.str "; "))))
 (aq (aG 7 (g2 cQ (g2 fE (aa 1) (gC (.int 18))) (gN dz (ah (aa 6) ak))))
 (aq (aJ (aK (g2 (cJ false) (aa 5) (gC (.int 0)))) (aE (g2 bO (g2 bO (dw gx (aa 0) dZ (dM (aa 3))) (aa 2)) (dw gx (aa 0) (dM (aa 3)) dZ))) aU)
 (aq (aJ (aK (g2 (cJ false) (aa 5) (gC (.int 1)))) (aE (g2 bO (dw gx (aa 0) dZ (dM (aa 3))) (dw gx (aa 0) (dM (g2 bO (aa 3) (gC (.int 1)))) dZ))) aU)
 (aq (aJ (aK (g2 (cJ false) (aa 5) (gC (.int 2)))) (aE (g2 bO (g2 bO (dw gx (aa 0) dZ (dM (aa 3))) (aa 2)) (dw gx (aa 0) (dM (g2 bO (aa 3) (gC (.int 1)))) dZ))) aU)
 (aq (aJ (aK (g2 (cJ false) (aa 5) (gC (.int 3)))) (aE (g2 bO (dw gx (aa 0) dZ (dM (aa 4))) (dw gx (aa 0) (dM (aa 3)) dZ))) aU)
 (aq (aJ (aK (g2 (cJ false) (aa 5) (gC (.int 4)))) (aE (gZ (gC (.str "; ")) (g2 bO (dw eZ (aa 6) dZ (dM (g2 bO (aa 7) (gC (.int 1))))) (dw eZ (aa 6) (dM (aa 7)) dZ)))) aU)
 (aq (aJ (aK (g2 (cJ false) (aa 5) (gC (.int 5)))) (aE (gZ (gC (.str "; ")) (g2 bO (dw eZ (aa 6) dZ (dM (gC (.int 1)))) (DI (aa 6))))) aU)
 (aE (g2 bO (dw gx (aa 0) dZ (dM (aa 3))) (dw gx (aa 0) (dM (aa 4)) dZ)))))))))))))))
noncomputable def iV (as:List S):M R:=fin (oW (ay oG as))
noncomputable def rP:List Str:=["_law_text_here","_law_found","_law_caught","e","_law_due"]
noncomputable def sD:G O:=(aq (aG 1 (gC .non))
 (aq (aG 2 (gC .non))
 (aq (oS 3 2 XL (aG 1 (gN (dY 1 K05.di) (ah (aa 0) ak))))
 (aq (aG 4 (gC .non))
 (aq (aJ (aK (br "str" (aa 0))) (aG 4 (gN (au 1 K05.iW) (ah (aa 0) ak))) aU)
 (aq (aJ (aK (g2 (rY false) (aa 4) (gC .non))) (aE (g2 (cJ false) (gN (au 1 K05.ir) (ah (aa 2) ak)) (cT (aj (gC (.int 0)) (aj (gC (.int 10)) (aj (gC (.int 11)) aC)))))) aU)
 (aE (aO (g2 (rY false) (aa 2) (gC .non)) (gN (au 2 (K04.cG 10)) (ah (aa 1) (ah (aa 4) ak)))))))))))
noncomputable def fR (as:List S):M R:=fin (sD (ay rP as))
noncomputable def L3:List Str:=["_law_script","_law_many","_law_world_here","_law_text_here","_law_shown","_law_k","_law_number","_law_thing"]
noncomputable def IV:G O:=(aq (aG 1 (g2 bO (gC (.int 1)) (g2 cQ (gN (au 2 K01.dO) (ah (aa 0) (ah (gC (.int 0)) ak))) (gC (.int 8)))))
 (aq (aG 2 (gN (au 4 K01.f7) (ah (aa 0) (ah (gC (.int 2)) (ah (aa 1) (ah (gN (au 1 K01.gO) (ah (gN (au 2 K01.dO) (ah (aa 0) (ah (gC (.int 1)) ak))) ak)) ak))))))
 (aq (aG 3 (gN (au 1 K05.jR) (ah (aa 2) ak)))
 (aq (aG 4 (gN (au 1 K05.f9) (ah (aa 2) ak)))
 (aq (aJ (bu (aP (aK (br "str" (aa 4)))) (bu (aK (g2 (cJ true) (aa 4) (aa 3))) (aP (aK (gN (au 2 (K04.cG 10)) (ah (gN (au 1 K05.di) (ah (aa 3) ak)) (ah (aa 2) ak))))))) (aE (gC (.bl false))) aU)
 (aq (gI (wg (ah (gC (.int 8)) (ah (gN DC (ah (gC (.int 9)) (ah (gN DE (ah (gN dz (ah (aa 0) ak)) (ah (gC (.int 62)) ak))) ak))) ak))) (aF 5) (aq (aG 6 (g2 cQ (g2 c8 (g2 bO (gN (au 2 K01.dO) (ah (aa 0) (ah (aa 5) ak))) (g2 c8 (gC (.int 17)) (aa 5))) (gC (.int 91193))) (gC (.int 998244353))))
 (aJ (aP (aK (gN (au 1 K05.fR) (ah (gN (au 2 K05.iV) (ah (aa 3) (ah (aa 6) ak))) ak)))) (aE (gC (.bl false))) aU)))
 (aq (gI (uz (cT (aj (g2 bO (aa 3) (gC (.str "\n"))) (aj (g2 bO (gC (.str "\n")) (aa 3)) (aj (gC (.str "")) (aj (gC (.int 3)) (aj (gC .non) (aj (cT (aj (gC (.str "3")) aC)) (aj (c9 (aj (gC (.int 3)) (aj (c9 aC) (aj (c9 aC) aC)))) (aj (gC (.str "9")) (aj (gC (.str "0")) (aj (gC (.str "08")) (aj (gC (.str "3 ")) (aj (gC (.str "3;")) aC)))))))))))))) (aF 7) (aJ (aP (aK (gN (au 1 K05.fR) (ah (aa 7) ak)))) (aE (gC (.bl false))) aU))
 (aE (gC (.bl true))))))))))
noncomputable def uc (as:List S):M R:=fin (IV (ay L3 as))
end K05
namespace K05
open PySem PySem.Spec PyProof.Rows L2 DL DX
structure eE (w:Qn) (K:Pe) (mg:Str->Option Ph):Prop where
 ValueError:mg "ValueError"=none
 all:mg "all"=none
 bool:mg "bool"=none
 int:mg "int"=none
 isinstance:mg "isinstance"=none
 len:mg "len"=none
 max:mg "max"=none
 min:mg "min"=none
 range:mg "range"=none
 sorted:mg "sorted"=none
 str:mg "str"=none
 tuple:mg "tuple"=none
 zip:mg "zip"=none
 FIGURES:pP K mg "FIGURES" (.tup [(.str "0"),(.str "1"),(.str "2"),(.str "3"),(.str "4"),(.str "5"),(.str "6"),(.str "7"),(.str "8")])
 LETTERS:pP K mg "LETTERS" (.str "abcdefghijklmnopqrstuvwxyz")
 MOST_NAMES:pP K mg "MOST_NAMES" (.int 3)
 MOST_POINTS:pP K mg "MOST_POINTS" (.int 8)
 WORDS:pP K mg "WORDS" (.tup [(.str "and"),(.str "or"),(.str "not"),(.str "some"),(.str "every"),(.str "least"),(.str "true"),(.str "false")])
 xall:qV K mg XL
section
variable {P:PX}{w:Qn}{K:Pe}{mg:Str->Option Ph}{base:QV}{f:PK}{fd:Qi}
noncomputable abbrev vp:RV:=top 17
theorem zd (m:eE w K mg) (e:FB K mg "is_whole" vp):bQ P w K mg base 1 1 "is_whole" K01.iP:=
 qc K01.u7 K01.uQ 1 e (λnd _ cdv A outer s H E J T hr=>
 (aD (aM (fB (bU uC oM m.int (af 0) m.isinstance) (fH (Hf (bU ni jU m.bool (af 0) m.isinstance)))))))
noncomputable abbrev yL:RV:=top 18
theorem AD (m:eE w K mg) (e:FB K mg "is_name" yL):bQ P w K mg base 1 1 "is_name" K01.kB:=
 qc K01.ri K01.kD 1 e (λnd _ cdv A outer s H E J T hr=>
 (av (bG (dH (eK (cU (cu (bU l7 jG m.str (af 0) m.isinstance))) (eK (g_ qf (iD λ_ _ _=>.bl _) (c7 (ai (af 0) ao) m.len) az) (eU (g_ sR (iD λ_ _ _=>.bl _) (c7 (ai (af 0) ao) m.len) az))))) (aD (aM eY)) bx)
 (aD (aM (fB (CA hr.units (af 0) (jJ m.WORDS)) (fH (gF (ai (cY (ia ["sign"] [] (dS (yD (af 0))) (λ_ _ _ _ _ hc=>⟨(aI 0 (c6 rfl)),bR,(Ae (af 0) (jJ m.LETTERS))⟩))) ao) m.all)))))))
noncomputable abbrev vo:RV:=top 19
theorem zc (m:eE w K mg) (Ni:bQ P w K mg base 1 1 "is_whole" K01.iP) (e:FB K mg "is_point" vo):bQ P w K mg base 2 2 "is_point" K01.fU:=
 qc K01.oY K01.oJ 2 e (λnd _ cdv A outer s H E J T hr=>
 (aD (aM (fB (bB Ni hr (ai (af 0) ao)) (fH (JU La qf az (af 0) (af 1)))))))
noncomputable abbrev yM:RV:=top 20
theorem AE (m:eE w K mg) (Ng:bQ P w K mg base 2 2 "is_point" K01.fU) (e:FB K mg "is_pair" yM):bQ P w K mg base 3 2 "is_pair" K01.iI:=
 qc K01.m_ K01.mR 2 e (λnd _ cdv A outer s H E J T hr=>
 (av (bG (dH (eK (cU (cu (bU kit_tuple fk m.tuple (af 0) m.isinstance))) (eU (mE hr.units (c7 (ai (af 0) ao) m.len) az)))) (aD (aM eY)) bx)
 (aD (aM (fB (bB Ng hr (ai (bE (af 0) az) (ai (af 1) ao))) (fH (bB Ng hr (ai (bE (af 0) az) (ai (af 1) ao)))))))))
noncomputable abbrev FG:RV:=top 21
theorem Gd (m:eE w K mg) (e:FB K mg "rise" FG):bQ P w K mg base 1 1 "rise" K01.iZ:=
 qc K01.wz K01.v9 1 e (λnd _ cdv A outer s H E J T hr=>
 (aD (aM (gF (ai (cY (ia ["one","other"] [] (Eg (ai (af 0) (ai (gH (af 0) (bS az) bV) ao)) m.zip) (λ_ _ _ _ _ hc=>⟨(dB (a_ (aI 0 (c6 rfl)) (a_ (aI 1 (c6 rfl)) cP))),bR,(Af hr.units (af 0) (af 1))⟩))) ao) m.all))))
noncomputable abbrev qQ:RV:=top 22
theorem vK (m:eE w K mg) (Ng:bQ P w K mg base 2 2 "is_point" K01.fU) (Nz:bQ P w K mg base 1 1 "rise" K01.iZ) (e:FB K mg "are_points" qQ):bQ P w K mg base 3 2 "are_points" K01.gE:=
 qc K01.lM K01.lD 2 e (λnd _ cdv A outer s H E J T hr=>
 (av (bG (cU (cu (bU kit_tuple fk m.tuple (af 0) m.isinstance))) (aD (aM eY)) bx)
 (aD (aM (fB (gF (ai (cY (ia ["point"] [1] (dS (jA (af 0))) (λ_ _ _ _ _ hc=>⟨(aI 0 (c6 rfl)),bR,(bB Ng hr (ai (af 0) (ai (af 1) ao)))⟩))) ao) m.all) (fH (bB Nz hr (ai (af 0) ao))))))))
noncomputable abbrev tL:RV:=top 23
theorem xo (m:eE w K mg) (NY:bQ P w K mg base 3 2 "is_pair" K01.iI) (Nz:bQ P w K mg base 1 1 "rise" K01.iZ) (e:FB K mg "are_pairs" tL):bQ P w K mg base 4 2 "are_pairs" K01.gX:=
 qc K01.m9 K01.mQ 2 e (λnd _ cdv A outer s H E J T hr=>
 (av (bG (cU (cu (bU kit_tuple fk m.tuple (af 0) m.isinstance))) (aD (aM eY)) bx)
 (aD (aM (fB (gF (ai (cY (ia ["pair"] [1] (dS (jA (af 0))) (λ_ _ _ _ _ hc=>⟨(aI 0 (c6 rfl)),bR,(bB NY hr (ai (af 0) (ai (af 1) ao)))⟩))) ao) m.all) (fH (bB Nz hr (ai (af 0) ao))))))))
noncomputable abbrev vn:RV:=top 24
theorem zb (m:eE w K mg) (NX:bQ P w K mg base 1 1 "is_name" K01.kB) (e:FB K mg "is_named" vn):bQ P w K mg base 2 1 "is_named" K01.gP:=
 qc K01.k9 K01.k7 1 e (λnd _ cdv A outer s H E J T hr=>
 (aD (aM (fB (bU kit_tuple fk m.tuple (af 0) m.isinstance) (fB (mF hr.units (c7 (ai (af 0) ao) m.len) az) (fH (bB NX hr (ai (bE (af 0) az) ao))))))))
noncomputable abbrev tK:RV:=top 25
theorem xm (m:eE w K mg) (NQ:bQ P w K mg base 2 1 "is_named" K01.gP) (Nz:bQ P w K mg base 1 1 "rise" K01.iZ) (e:FB K mg "are_named" tK):bQ P w K mg base 3 1 "are_named" K01.fS:=
 qc K01.jb K01.i0 1 e (λnd _ cdv A outer s H E J T hr=>
 (av (bG (dH (eK (cU (cu (bU kit_tuple fk m.tuple (af 0) m.isinstance))) (eU (g_ sR (iD λ_ _ _=>.bl _) (c7 (ai (af 0) ao) m.len) (jJ m.MOST_NAMES))))) (aD (aM eY)) bx)
 (aD (aM (fB (gF (ai (cY (ia ["one"] [] (dS (jA (af 0))) (λ_ _ _ _ _ hc=>⟨(aI 0 (c6 rfl)),bR,(bB NQ hr (ai (af 0) ao))⟩))) ao) m.all) (fH (bB Nz hr (ai (cY (ia ["one"] [] (dS (jA (af 0))) (λ_ _ _ _ _ hc=>⟨(aI 0 (c6 rfl)),bR,(bE (af 0) az)⟩))) ao))))))))
noncomputable abbrev vq:RV:=top 26
theorem ze (m:eE w K mg) (Ni:bQ P w K mg base 1 1 "is_whole" K01.iP) (Nk:bQ P w K mg base 3 1 "are_named" K01.fS) (Nx:bQ P w K mg base 3 2 "are_points" K01.gE) (NF:bQ P w K mg base 4 2 "are_pairs" K01.gX) (e:FB K mg "is_world" vq):bQ P w K mg base 5 1 "is_world" K01.cF:=
 qc K01.fm K01.fj 1 e (λnd _ cdv A outer s H E J T hr=>
 (av (bG (dH (eK (cU (cu (bU kit_tuple fk m.tuple (af 0) m.isinstance))) (eU (mE hr.units (c7 (ai (af 0) ao) m.len) az)))) (aD (aM eY)) bx)
 (av (jy (af 0) (dB (a_ (aI 1 nd) (a_ (aI 2 nd) (a_ (aI 3 nd) cP)))))
 (av (bG (dH (eK (cU (cu (bB Ni hr (ai (af 1) ao)))) (eK (g_ qf (iD λ_ _ _=>.bl _) (af 1) az) (eU (g_ sR (iD λ_ _ _=>.bl _) (af 1) (jJ m.MOST_POINTS)))))) (aD (aM eY)) bx)
 (av (bG (dH (eK (cU (cu (bB Nk hr (ai (af 2) ao)))) (eU (cU (cu (bB Nk hr (ai (af 3) ao))))))) (aD (aM eY)) bx)
 (av (bG (cU (cu (gF (ai (cY (ia ["name","points"] [1] (dS (jA (af 2))) (λ_ _ _ _ _ hc=>⟨(dB (a_ (aI 0 (c6 rfl)) (a_ (aI 1 (c6 rfl)) cP))),bR,(bB Nx hr (ai (af 1) (ai (af 2) ao)))⟩))) ao) m.all))) (aD (aM eY)) bx)
 (aD (aM (gF (ai (cY (ia ["name","pairs"] [1] (dS (jA (af 3))) (λ_ _ _ _ _ hc=>⟨(dB (a_ (aI 0 (c6 rfl)) (a_ (aI 1 (c6 rfl)) cP))),bR,(bB NF hr (ai (af 1) (ai (af 2) ao)))⟩))) ao) m.all)))))))))
noncomputable abbrev tP:RV:=top 29
theorem xC (m:eE w K mg) (e:FB K mg "show_mark" tP):bQ P w K mg base 1 2 "show_mark" K05.jS:=
 qc K05.sH K05.rR 2 e (λnd _ cdv A outer s H E J T hr=>
 (aD (aM (gU aN (bH (cM (aA (yC (sZ (af 0) (rE yz))) bw)) (cY (ia ["point"] [] (fJ (af 1)) (λ_ _ _ _ _ hc=>⟨(aI 0 (c6 rfl)),bR,(jz (ai (af 0) ao) m.str)⟩))))))))
noncomputable abbrev qS:RV:=top 30
theorem vO (m:eE w K mg) (e:FB K mg "show_arrow" qS):bQ P w K mg base 1 2 "show_arrow" K05.jB:=
 qc K05.qI K05.qw 2 e (λnd _ cdv A outer s H E J T hr=>
 (aD (aM (gU aN (bH (cM (aA (yC (sZ (af 0) (rE yz))) bw)) (cY (ia ["one","other"] [] (fJ (af 1)) (λ_ _ _ _ _ hc=>⟨(dB (a_ (aI 0 (c6 rfl)) (a_ (aI 1 (c6 rfl)) cP))),bR,(yC (sZ (af 0) (rE (sZ (af 1) yz))))⟩))))))))
noncomputable abbrev qU:RV:=top 31
theorem vP (m:eE w K mg) (NJ:bQ P w K mg base 1 2 "show_mark" K05.jS) (NB:bQ P w K mg base 1 2 "show_arrow" K05.jB) (e:FB K mg "show_world" qU):bQ P w K mg base 2 1 "show_world" K05.f9:=
 qc K05.qJ K05.qz 1 e (λnd _ cdv A outer s H E J T hr=>
 (av (jy (af 0) (dB (a_ (aI 1 nd) (a_ (aI 2 nd) (a_ (aI 3 nd) cP)))))
 (av (aZ 4 nd (cM (aA (jz (ai (af 1) ao) m.str) bw)))
 (av (qL 4 (cY (ia ["name","points"] [] (fJ (af 2)) (λ_ _ _ _ _ hc=>⟨(dB (a_ (aI 0 (c6 rfl)) (a_ (aI 1 (c6 rfl)) cP))),bR,(bB NJ hr (ai (af 0) (ai (af 1) ao)))⟩))))
 (av (qL 4 (cY (ia ["name","pairs"] [] (fJ (af 3)) (λ_ _ _ _ _ hc=>⟨(dB (a_ (aI 0 (c6 rfl)) (a_ (aI 1 (c6 rfl)) cP))),bR,(bB NB hr (ai (af 0) (ai (af 1) ao)))⟩))))
 (aD (aM (gU aN (af 4)))))))))
noncomputable abbrev k6:RV:=top 32
theorem vW:cL ["word"] ["word"] (aQ k6):=⟨rfl,rfl,rfl,by decide +kernel,rfl,by decide +kernel,by decide +kernel⟩
theorem uq (m:eE w K mg) (rNoWorld:wU P w K mg base "NoWorld") (F:gz K "read_figure" "read_figure" k6 f fd) (hm:mg "read_figure"=some (.ref f)):gM P w K mg base 3 1 "read_figure" K05.dh:=
 have sc:=vW
 kR (k:=2) (gB:=K05.oZ) F hm sc (λ_ _ _ _ _ _ us hl=>match us,hl with | [_],_=>rfl) (λcdv A outer s H E J hr=>
 (av (bG (pF hr.units (af 0) (jJ m.FIGURES)) (aD (rH rNoWorld iC hr (aA aN bw))) bx)
 (aD (aM (rK (ai (af 0) ao) m.int))))) (λ_ _ _=>rfl)
noncomputable abbrev nP:RV:=top 33
theorem zm:cL ["word","one","sign","other"] ["word"] (aQ nP):=⟨rfl,rfl,rfl,by decide +kernel,rfl,by decide +kernel,by decide +kernel⟩
theorem xB (m:eE w K mg) (M9:gM P w K mg base 3 1 "read_figure" K05.dh) (F:gz K "read_pair" "read_pair" nP f fd) (hm:mg "read_pair"=some (.ref f)):gM P w K mg base 4 1 "read_pair" K05.iY:=
 have sc:=zm
 kR (k:=3) (gB:=K05.sG) F hm sc (λ_ _ _ _ _ _ us hl=>match us,hl with | [_],_=>rfl) (λcdv A outer s H E J hr=>
 (av (jy (nF (af 0) aN) (dB (a_ (aI 1 sc.nd) (a_ (aI 2 sc.nd) (a_ (aI 3 sc.nd) cP)))))
 (aD (aM (dU (aA (iN M9 iC hr (ai (af 1) ao)) (aA (iN M9 iC hr (ai (af 3) ao)) bw))))))) (λ_ _ _=>rfl)
noncomputable abbrev nO:RV:=top 34
theorem zl:cL ["part","name","sign","rest"] ["part"] (aQ nO):=⟨rfl,rfl,rfl,by decide +kernel,rfl,by decide +kernel,by decide +kernel⟩
theorem xA (m:eE w K mg) (M9:gM P w K mg base 3 1 "read_figure" K05.dh) (F:gz K "read_mark" "read_mark" nO f fd) (hm:mg "read_mark"=some (.ref f)):gM P w K mg base 4 1 "read_mark" K05.iX:=
 have sc:=zl
 kR (k:=3) (gB:=K05.sF) F hm sc (λ_ _ _ _ _ _ us hl=>match us,hl with | [_],_=>rfl) (λcdv A outer s H E J hr=>
 (av (jy (nF (af 0) aN) (dB (a_ (aI 1 sc.nd) (a_ (aI 2 sc.nd) (a_ (aI 3 sc.nd) cP)))))
 (aD (aM (dU (aA (af 1) (aA (dI (ai (cY (AH ["word"] [] (fJ (gH (iT (af 3) aN) (bS az) bV)) (λ_ _ _ _ _ hc=>⟨(aI 0 (c6 rfl)),bR,(iN M9 (nV iC) hr (ai (af 0) ao))⟩))) ao) m.tuple) bw))))))) (λ_ _ _=>rfl)
noncomputable abbrev lR:RV:=top 35
theorem yI:cL ["part","name","sign","rest"] ["part"] (aQ lR):=⟨rfl,rfl,rfl,by decide +kernel,rfl,by decide +kernel,by decide +kernel⟩
theorem vM (m:eE w K mg) (NI:gM P w K mg base 4 1 "read_pair" K05.iY) (F:gz K "read_arrow" "read_arrow" lR f fd) (hm:mg "read_arrow"=some (.ref f)):gM P w K mg base 5 1 "read_arrow" K05.iu:=
 have sc:=yI
 kR (k:=4) (gB:=K05.qH) F hm sc (λ_ _ _ _ _ _ us hl=>match us,hl with | [_],_=>rfl) (λcdv A outer s H E J hr=>
 (av (jy (nF (af 0) aN) (dB (a_ (aI 1 sc.nd) (a_ (aI 2 sc.nd) (a_ (aI 3 sc.nd) cP)))))
 (aD (aM (dU (aA (af 1) (aA (dI (ai (cY (AH ["word"] [] (fJ (gH (iT (af 3) aN) (bS az) bV)) (λ_ _ _ _ _ hc=>⟨(aI 0 (c6 rfl)),bR,(iN NI (nV iC) hr (ai (af 0) ao))⟩))) ao) m.tuple) bw))))))) (λ_ _ _=>rfl)
noncomputable abbrev lS:RV:=top 36
theorem yJ:cL ["text","head","parts","marks","arrows","world"] ["text"] (aQ lS):=⟨rfl,rfl,rfl,by decide +kernel,rfl,by decide +kernel,by decide +kernel⟩
theorem vN (m:eE w K mg) (NH:gM P w K mg base 4 1 "read_mark" K05.iX) (Ny:gM P w K mg base 5 1 "read_arrow" K05.iu) (M9:gM P w K mg base 3 1 "read_figure" K05.dh) (NS:bQ P w K mg base 5 1 "is_world" K01.cF) (Nf:bQ P w K mg base 2 1 "show_world" K05.f9) (rNoWorld:wU P w K mg base "NoWorld") (F:gz K "read_world" "read_world" lS f fd) (hm:mg "read_world"=some (.ref f)):gM P w K mg base 6 1 "read_world" K05.di:=
 have sc:=yJ
 kR (k:=5) (gB:=K05.lN) F hm sc (λ_ _ _ _ _ _ us hl=>match us,hl with | [_],_=>rfl) (λcdv A outer s H E J hr=>
 (av (bG (cU (cu (bU l7 jG m.str (af 0) m.isinstance))) (aD (rH rNoWorld iC hr (aA aN bw))) bx)
 (av (A5 (iT (af 0) aN) (a_ (aI 1 sc.nd) (a_ (aI 2 sc.nd) cP)))
 (av (uK 3 sc.nd (AH ["part"] [] (fJ (af 2)) (λ_ _ _ _ _ hc=>⟨(aI 0 (c6 rfl)),(pG (G5 aN (af 0))),(iN NH (nV iC) hr (ai (af 0) ao))⟩)))
 (av (uK 4 sc.nd (AH ["part"] [] (fJ (af 2)) (λ_ _ _ _ _ hc=>⟨(aI 0 (c6 rfl)),(pG (Eb aN (af 0))),(iN Ny (nV iC) hr (ai (af 0) ao))⟩)))
 (av (aZ 5 sc.nd (dU (aA (iN M9 iC hr (ai (af 1) ao)) (aA (dI (ai (af 3) ao) m.tuple) (aA (dI (ai (af 4) ao) m.tuple) bw)))))
 (av (bG (dH (eK (cU (cu (bB NS hr (ai (af 5) ao)))) (eU (mE hr.units (bB Nf hr (ai (af 5) ao)) (af 0))))) (aD (rH rNoWorld iC hr (aA aN bw))) bx)
 (aD (aM (af 5)))))))))) (λ_ _ _=>rfl)
noncomputable abbrev tE:RV:=top 38
theorem w_ (m:eE w K mg) (e:FB K mg "_law_cell" tE):bQ P w K mg base 1 2 "_law_cell" K01.dO:=
 qc K01.m6 K01.jT 2 e (λnd _ cdv A outer s H E J T hr=>
 (av (bG (g_ qf (iD λ_ _ _=>.bl _) (af 1) (c7 (ai (af 0) ao) m.len)) (aD (aM (b_ (bE (af 0) (af 1)) (uL az az)))) bx)
 (aD (aM az))))
noncomputable abbrev qN:RV:=top 39
theorem vH (m:eE w K mg) (e:FB K mg "_law_names" qN):bQ P w K mg base 1 2 "_law_names" K01.f6:=
 qc K01.lI K01.qt 2 e (λnd _ cdv A outer s H E J T hr=>
 (av (aZ 2 nd (b_ (fq (af 0) az) az))
 (av (aZ 3 nd (bE aN (b_ (af 2) az)))
 (av (aZ 4 nd (ef az (b_ (d_ (af 2) az) az)))
 (av (bG (fZ hr.units (b_ (d_ (af 2) az) az) az) (aD (aM (cY (ia ["_law_k"] [3] (dS (cZ (ai (af 1) ao) m.range)) (λ_ _ _ _ _ hc=>⟨(aI 0 (c6 rfl)),bR,(fq (af 1) (ef az (af 0)))⟩))))) bx)
 (av (bG (fZ hr.units (b_ (d_ (af 2) az) az) az) (av (aZ 5 nd (cM (aA aN (aA aN (aA aN (aA aN (aA aN (aA aN (aA aN (aA aN bw))))))))))
 (av (aZ 6 nd (b_ (d_ (af 2) az) az))
 (av (aZ 7 nd aN)
 (aD (aM (tu (ai (cY (ia ["_law_k"] [5,6,7,2] (dS (cZ (ai (af 1) ao) m.range)) (λ_ _ _ _ _ hc=>⟨(aI 0 (c6 rfl)),bR,(ef (bE (ef (af 1) (af 1)) (ef (af 2) (af 0))) (bE (af 3) (b_ (d_ (af 4) az) az)))⟩))) ao) m.sorted)))))) bx)
 (av (aZ 8 nd (b_ (d_ (af 2) az) (af 4)))
 (av (aZ 9 nd (cM bw))
 (av (eX (cZ (ai (af 1) ao) m.range) (aI 10 nd) (av (aZ 11 nd (bE aN (b_ (ef (d_ (af 2) az) (fq az (af 10))) az)))
 (aD (eB 9 (ef (ef (fq (af 3) (af 8)) (af 11)) (fq (af 3) (uM (uM (af 4) az) (af 8))))))))
 (aD (aM (tu (ai (af 9) ao) m.sorted))))))))))))
noncomputable abbrev tG:RV:=top 40
theorem xh (m:eE w K mg) (e:FB K mg "_law_some" tG):bQ P w K mg base 1 2 "_law_some" K01.gW:=
 qc K01.m7 ["_law_bits","_law_many","_law_found","_law_point"] 2 e (λnd _ cdv A outer s H E J T hr=>
 (av (aZ 2 nd (cM bw))
 (av (eX (cZ (ai (af 1) ao) m.range) (aI 3 nd) (av (bG (fZ hr.units (b_ (af 0) az) az) (aD (eB 2 (af 3))) bx)
 (aD (aZ 0 nd (d_ (af 0) az)))))
 (aD (aM (dI (ai (af 2) ao) m.tuple))))))
noncomputable abbrev qO:RV:=top 41
theorem vI (m:eE w K mg) (e:FB K mg "_law_pairs" qO):bQ P w K mg base 1 2 "_law_pairs" K01.gD:=
 qc K01.lJ K01.qu 2 e (λnd _ cdv A outer s H E J T hr=>
 (av (aZ 2 nd (cM bw))
 (av (eX (cZ (ai (af 1) ao) m.range) (aI 3 nd) (aD (eX (cZ (ai (af 1) ao) m.range) (aI 4 nd) (av (bG (fZ hr.units (b_ (af 0) az) az) (aD (eB 2 (dU (aA (af 3) (aA (af 4) bw))))) bx)
 (aD (aZ 0 nd (d_ (af 0) az)))))))
 (aD (aM (dI (ai (af 2) ao) m.tuple))))))
noncomputable abbrev pK:RV:=top 42
theorem uh (m:eE w K mg) (Nt:bQ P w K mg base 1 2 "_law_names" K01.f6) (e:FB K mg "_law_tongue" pK):bQ P w K mg base 2 1 "_law_tongue" K01.gO:=
 qc K01.kL K01.oF 1 e (λnd _ cdv A outer s H E J T hr=>
 (av (aZ 1 nd (bB Nt hr (ai (af 0) (ai az ao))))
 (av (aZ 2 nd (b_ (fq (af 0) az) az))
 (av (aZ 3 nd (b_ (d_ (af 2) az) az))
 (aD (aM (dU (aA (dI (ai (gH (af 1) bV (bS (b_ (af 2) az))) ao) m.tuple) (aA (dI (ai (gH (af 1) (bS (af 3)) (bS (ef (af 3) (b_ (d_ (af 2) az) az)))) ao) m.tuple) bw)))))))))
noncomputable abbrev qP:RV:=top 43
theorem vJ (m:eE w K mg) (Na:bQ P w K mg base 1 2 "_law_cell" K01.dO) (NC:bQ P w K mg base 1 2 "_law_some" K01.gW) (Nu:bQ P w K mg base 1 2 "_law_pairs" K01.gD) (e:FB K mg "_law_world" qP):bQ P w K mg base 2 4 "_law_world" K01.f7:=
 qc K01.lK K01.qv 4 e (λnd _ cdv A outer s H E J T hr=>
 (av (aZ 4 nd (cM bw))
 (av (eX (cZ (ai (c7 (ai (bE (af 3) az) ao) m.len) ao) m.range) (aI 5 nd) (aD (eB 4 (dU (aA (bE (bE (af 3) az) (af 5)) (aA (bB NC hr (ai (b_ (fq (bB Na hr (ai (af 0) (ai (ef (af 1) (af 5)) ao))) az) (uL az az)) (ai (af 2) ao))) bw))))))
 (av (aZ 6 nd (cM bw))
 (av (eX (cZ (ai (c7 (ai (bE (af 3) az) ao) m.len) ao) m.range) (aI 5 nd) (av (aZ 7 nd (b_ (fq (bB Na hr (ai (af 0) (ai (ef (ef (af 1) az) (af 5)) ao))) az) (uL az az)))
 (aD (eB 6 (dU (aA (bE (bE (af 3) az) (af 5)) (aA (bB Nu hr (ai (af 7) (ai (af 2) ao))) bw)))))))
 (aD (aM (dU (aA (af 2) (aA (dI (ai (af 4) ao) m.tuple) (aA (dI (ai (af 6) ao) m.tuple) bw)))))))))))
noncomputable abbrev qM:RV:=top 44
theorem vG (m:eE w K mg) (e:FB K mg "_law_kinds" qM):bQ P w K mg base 1 1 "_law_kinds" K05.ir:=
 qc K05.qF K05.qq 1 e (λnd _ cdv A outer s H E J T hr=>
 (av (aZ 1 nd (cM (aA (gG m.xall (by decide) (af 0) m.isinstance) (aA (gG m.xall (by decide) (af 0) m.isinstance) (aA (gG m.xall (by decide) (af 0) m.isinstance) bw)))))
 (av (aZ 1 nd (bH (af 1) (cM (aA (gG m.xall (by decide) (af 0) m.isinstance) (aA (gG m.xall (by decide) (af 0) m.isinstance) (aA (gG m.xall (by decide) (af 0) m.isinstance) bw))))))
 (av (aZ 1 nd (bH (af 1) (cM (aA (gG m.xall (by decide) (af 0) m.isinstance) (aA (gG m.xall (by decide) (af 0) m.isinstance) (aA (gG m.xall (by decide) (af 0) m.isinstance) bw))))))
 (av (aZ 1 nd (bH (af 1) (cM (aA (gG m.xall (by decide) (af 0) m.isinstance) (aA (G7 m.xall (af 0) m.isinstance) (aA (G8 m.xall (af 0) m.ValueError m.isinstance) bw))))))
 (aD (aM (cY (ia ["_law_k"] [1] (dS (cZ (ai az ao) m.range)) (λ_ _ _ _ _ hc=>⟨(aI 0 (c6 rfl)),(pG (G6 (bE (af 1) (af 0)))),(af 0)⟩))))))))))
noncomputable abbrev nJ:RV:=top 45
theorem zk:cL ["_law_found","_law_due"] ["_law_found","_law_due"] (aQ nJ):=⟨rfl,rfl,rfl,by decide +kernel,rfl,by decide +kernel,by decide +kernel⟩
theorem oN (m:eE w K mg) (F:gz K "_law_same" "_law_same" nJ f fd) (hm:mg "_law_same"=some (.ref f)):∀fu:Nat,bQ P w K mg base (0 + fu) 2 "_law_same" (K04.cG fu)
 | 0=>Gb (ps:=["_law_found","_law_due"]) F hm (λ_ _ _ _ _ _ us hl=>match us,hl with | [_,_],_=>rfl) (λ_=>rfl)
 | fu + 1=>
  have sc:=zk;have hself:=oN m F hm fu
  Ad (k:=0 + fu) (gB:=K04.fX (K04.cG fu)) F hm sc (λ_ _ _ _ _ _ us hl=>match us,hl with | [_,_],_=>rfl) (λcdv A outer s H E J T hr=>
 (av (bG (cu (bU kit_tuple fk m.tuple (af 1) m.isinstance)) (av (bG (dH (eK (cU (cu (bU kit_tuple fk m.tuple (af 0) m.isinstance))) (eU (mE hr.units (c7 (ai (af 0) ao) m.len) (c7 (ai (af 1) ao) m.len))))) (aD (aM eY)) bx)
 (aD (aM (gF (ai (cY (ia ["_law_k"] [0,1] (dS (cZ (ai (c7 (ai (af 1) ao) m.len) ao) m.range)) (λ_ _ _ _ _ hc=>⟨(aI 0 (c6 rfl)),bR,(bB hself hr (ai (bE (af 1) (af 0)) (ai (bE (af 2) (af 0)) ao)) (by omega))⟩))) ao) m.all)))) bx)
 (av (bG (dH (eK (cu (bU ni jU m.bool (af 1) m.isinstance)) (eU (cu (bU uC oM m.int (af 1) m.isinstance))))) (aD (aM (fB (bU uC oM m.int (af 0) m.isinstance) (fB (mF hr.units (bU ni jU m.bool (af 0) m.isinstance) (bU ni jU m.bool (af 1) m.isinstance)) (fH (mF hr.units (af 0) (af 1))))))) bx)
 (aD (aM (fB (bU l7 jG m.str (af 0) m.isinstance) (fH (mF hr.units (af 0) (af 1))))))))) (λas r _ h=>h)
noncomputable abbrev tH:RV:=top 46
theorem xj (m:eE w K mg) (e:FB K mg "_law_text" tH):bQ P w K mg base 1 1 "_law_text" K05.jR:=
 qc K05.sE K05.rQ 1 e (λnd _ cdv A outer s H E J T hr=>
 (av (aZ 1 nd (cM (aA (jz (ai (bE (af 0) az) ao) m.str) bw)))
 (av (eX (kT (bE (af 0) az)) (dB (a_ (aI 2 nd) (a_ (aI 3 nd) cP))) (aD (eB 1 (bH (bH (af 2) aN) (gU aN (cY (ia ["_law_point"] [] (fJ (af 3)) (λ_ _ _ _ _ hc=>⟨(aI 0 (c6 rfl)),bR,(bH aN (jz (ai (af 0) ao) m.str))⟩))))))))
 (av (eX (kT (bE (af 0) az)) (dB (a_ (aI 2 nd) (a_ (aI 4 nd) cP))) (aD (eB 1 (bH (bH (af 2) aN) (gU aN (cY (ia ["_law_one","_law_other"] [] (fJ (af 4)) (λ_ _ _ _ _ hc=>⟨(dB (a_ (aI 0 (c6 rfl)) (a_ (aI 1 (c6 rfl)) cP))),bR,(bH (bH (bH aN (jz (ai (af 0) ao) m.str)) aN) (jz (ai (af 1) ao) m.str))⟩))))))))
 (aD (aM (gU aN (af 1))))))))
noncomputable abbrev oq:RV:=top 47
theorem rW (m:eE w K mg) (e:FB K mg "_law_is_name" oq):bQ P w K mg base 1 1 "_law_is_name" K05.fN:=
 qc K05.n_ K05.nZ 1 e (λnd _ cdv A outer s H E J T hr=>
 (av (bG (dH (eK (g_ qf (iD λ_ _ _=>.bl _) (c7 (ai (af 0) ao) m.len) az) (eU (g_ sR (iD λ_ _ _=>.bl _) (c7 (ai (af 0) ao) m.len) az)))) (aD (aM eY)) bx)
 (av (bG (s_ hr.units (af 0) (dU (aA aN (aA aN (aA aN (aA aN (aA aN (aA aN (aA aN (aA aN bw)))))))))) (aD (aM eY)) bx)
 (aD (aM (gF (ai (cY (ia ["_law_sign"] [] (dS (yD (af 0))) (λ_ _ _ _ _ hc=>⟨(aI 0 (c6 rfl)),bR,(Ae (af 0) aN)⟩))) ao) m.all))))))
noncomputable abbrev pI:RV:=top 48
theorem uf (m:eE w K mg) (e:FB K mg "_law_rising" pI):bQ P w K mg base 1 1 "_law_rising" K05.eF:=
 qc K05.oU K05.oB 1 e (λnd _ cdv A outer s H E J T hr=>
 (aD (aM (gF (ai (cY (ia ["_law_k"] [0] (dS (cZ (ai (uM (c7 (ai (af 0) ao) m.len) az) ao) m.range)) (λ_ _ _ _ _ hc=>⟨(aI 0 (c6 rfl)),bR,(Af hr.units (bE (af 1) (af 0)) (bE (af 1) (ef (af 0) az)))⟩))) ao) m.all))))
noncomputable abbrev pJ:RV:=top 49
theorem ug (m:eE w K mg) (Nc:bQ P w K mg base 1 1 "_law_rising" K05.eF) (e:FB K mg "_law_things" pJ):bQ P w K mg base 2 3 "_law_things" K05.gk:=
 qc K05.oV K05.oE 3 e (λnd _ cdv A outer s H E J T hr=>
 (av (aZ 3 nd (cM bw))
 (av (uK 4 nd (ia ["_law_point"] [] (dS (cZ (ai (af 2) ao) m.range)) (λ_ _ _ _ _ hc=>⟨(aI 0 (c6 rfl)),bR,(jz (ai (af 0) ao) m.str)⟩)))
 (av (eX (kT (af 0)) (aI 5 nd) (av (jy (nF (af 5) aN) (dB (a_ (aI 6 nd) (a_ (aI 7 nd) (a_ (aI 8 nd) cP)))))
 (aD (bG (dH (mD (fZ hr.units (af 1) aN) (rG (s_ hr.units (af 5) (af 4))))) (aD (eB 3 (rJ (af 4) (af 5)))) (aD (bG (dH (mD (fZ hr.units (af 1) aN) (mD (fZ hr.units (af 7) aN) (mD (s_ hr.units (af 6) (af 4)) (rG (s_ hr.units (af 8) (af 4))))))) (aD (eB 3 (dU (aA (rJ (af 4) (af 6)) (aA (rJ (af 4) (af 8)) bw))))) (aD (aM fC))))))))
 (av (bG (cU (cu (bB Nc hr (ai (af 3) ao)))) (aD (aM fC)) bx)
 (aD (aM (dI (ai (af 3) ao) m.tuple))))))))
noncomputable abbrev pM:RV:=top 50
theorem uo (m:eE w K mg) (Nl:bQ P w K mg base 1 1 "_law_is_name" K05.fN) (Nm:bQ P w K mg base 2 3 "_law_things" K05.gk) (Nc:bQ P w K mg base 1 1 "_law_rising" K05.eF) (e:FB K mg "_law_writes" pM):bQ P w K mg base 3 1 "_law_writes" K05.iW:=
 MQ K05.oX K05.oH 1 e (λnd _ cdv A outer s H E J T hr=>
 (fQ (iA (aZ 1 nd (iT (af 0) aN)))
 (fQ (iA (bG (pF hr.units (bE (af 1) az) (cM (aA aN (aA aN (aA aN (aA aN (aA aN (aA aN (aA aN (aA aN bw)))))))))) (aD (aM fC)) bx))
 (fQ (iA (aZ 2 nd (rK (ai (bE (af 1) az) ao) m.int)))
 (fQ (iA (Cz 3 nd))
 (fQ (Hh (gH (af 1) (bS az) bV) (λJ0=>(aI 4 nd)) (λJ0=>
 (fQ (iA (aZ 5 nd (iT (af 4) aN)))
 (fQ (iA (aZ 6 nd (fP (bE (af 5) az) bV (bS (Ag az)))))
 (fQ (iA (aZ 7 nd (fP (bE (af 5) az) (bS (Ag az)) bV)))
 (fQ (iA (bG (dH (eK (pF hr.units (af 7) (cM (aA aN (aA aN bw)))) (eU (cU (cu (bB Nl hr (ai (af 6) ao))))))) (aD (aM fC)) bx))
 (fQ (iA (aZ 8 nd (bB Nm hr (ai (gH (af 5) (bS az) bV) (ai (af 7) (ai (af 2) ao))))))
 (fQ (iA (bG (dH (eK (Cy (af 8) fC) (eU (dH (mD (fZ hr.units (af 7) aN) (rG (mE hr.units (bE (af 3) az) (cM bw)))))))) (aD (aM fC)) bx))
 (fQ (Hi 3 (rK (ai (mF hr.units (af 7) aN) ao) m.int) (dU (aA (af 6) (aA (af 8) bw))))
 (Fv bx))))))))))
 (Fv (av (Ec 3 (eX (kT (af 3)) (aI 8 nd) (aD (bG (dH (eK (g_ sR (iD λ_ _ _=>.bl _) (c7 (ai (af 8) ao) m.len) az) (eU (cU (cu (bB Nc hr (ai (cY (ia ["_law_part"] [] (fJ (af 8)) (λ_ _ _ _ _ hc=>⟨(aI 0 (c6 rfl)),bR,(bE (af 0) az)⟩))) ao))))))) (aD (aM fC)) bx))))
 (aD (aM (dU (aA (af 2) (aA (dI (ai (bE (af 3) az) ao) m.tuple) (aA (dI (ai (bE (af 3) az) ao) m.tuple) bw)))))))))))))) (by exact ⟨rfl,rfl,rfl,by decide +kernel,rfl,by decide +kernel,by decide +kernel⟩) (by intro _ _ _ _ _ _ us hl;rcases us with _ | ⟨_,_ | ⟨_,_ | ⟨_,_ | ⟨_,_ | ⟨_,_ | ⟨_,_ | ⟨_,_⟩⟩⟩⟩⟩⟩⟩ <;> first | exact rfl | (cases hl;done) | exact nomatch hl) λ_ _ _ h=>h
noncomputable abbrev pL:RV:=top 51
theorem um (m:eE w K mg) (e:FB K mg "_law_turned" pL):bQ P w K mg base 1 2 "_law_turned" K05.iV:=
 qc K05.oW K05.oG 2 e (λnd _ cdv A outer s H E J T hr=>
 (av (aZ 2 nd (bE aN (b_ (af 1) az)))
 (av (aZ 3 nd (b_ (d_ (af 1) az) (bH (c7 (ai (af 0) ao) m.len) az)))
 (av (aZ 4 nd (bH (bH (af 3) az) (b_ (d_ (af 1) az) az)))
 (av (aZ 5 nd (b_ (d_ (af 1) az) az))
 (av (aZ 6 nd (iT (af 0) aN))
 (av (aZ 7 nd (b_ (d_ (af 1) az) (c7 (ai (af 6) ao) m.len)))
 (av (bG (fZ hr.units (af 5) az) (aD (aM (bH (bH (fP (af 0) bV (bS (af 3))) (af 2)) (fP (af 0) (bS (af 3)) bV)))) bx)
 (av (bG (fZ hr.units (af 5) az) (aD (aM (bH (fP (af 0) bV (bS (af 3))) (fP (af 0) (bS (bH (af 3) az)) bV)))) bx)
 (av (bG (fZ hr.units (af 5) az) (aD (aM (bH (bH (fP (af 0) bV (bS (af 3))) (af 2)) (fP (af 0) (bS (bH (af 3) az)) bV)))) bx)
 (av (bG (fZ hr.units (af 5) az) (aD (aM (bH (fP (af 0) bV (bS (af 4))) (fP (af 0) (bS (af 3)) bV)))) bx)
 (av (bG (fZ hr.units (af 5) az) (aD (aM (gU aN (bH (gH (af 6) bV (bS (bH (af 7) az))) (gH (af 6) (bS (af 7)) bV))))) bx)
 (av (bG (fZ hr.units (af 5) az) (aD (aM (gU aN (bH (gH (af 6) bV (bS az)) (Hg (af 6) yu Le))))) bx)
 (aD (aM (bH (fP (af 0) bV (bS (af 3))) (fP (af 0) (bS (af 4)) bV)))))))))))))))))
noncomputable abbrev tF:RV:=top 52
theorem xg (m:eE w K mg) (Nd:gM P w K mg base 6 1 "read_world" K05.di) (Nq:bQ P w K mg base 3 1 "_law_writes" K05.iW) (Nr:bQ P w K mg base 1 1 "_law_kinds" K05.ir) (Nh:bQ P w K mg base 10 2 "_law_same" (K04.cG 10)) (e:FB K mg "_law_read" tF):bQ P w K mg base 11 1 "_law_read" K05.fR:=
 qc K05.sD K05.rP 1 e (λnd _ cdv A outer s H E J T hr=>
 (av (aZ 1 nd fC)
 (av (aZ 2 nd fC)
 (av (Ed (i:=3) (j:=2) m.xall (Ei (Ej 1 nd (Eh Nd hr (λ_ _ _=>(ai (af 0) ao))))) nd)
 (av (aZ 4 nd fC)
 (av (bG (cu (bU l7 jG m.str (af 0) m.isinstance)) (aD (aZ 4 nd (bB Nq hr (ai (af 0) ao)))) bx)
 (av (bG (Cy (af 4) fC) (aD (aM (mF hr.units (bB Nr hr (ai (af 2) ao)) (cM (aA az (aA az (aA az bw))))))) bx)
 (aD (aM (fB (JV (af 2) fC) (fH (bB Nh hr (ai (af 1) (ai (af 4) ao))))))))))))))
noncomputable abbrev nK:RV:=top 53
theorem Lq:cL ["_law_script","_law_many","_law_world_here","_law_text_here","_law_shown","_law_k","_law_number","_law_thing"] ["_law_script"] (aQ nK):=⟨rfl,rfl,rfl,by decide +kernel,rfl,by decide +kernel,by decide +kernel⟩
theorem K_ (m:eE w K mg) (Na:bQ P w K mg base 1 2 "_law_cell" K01.dO) (Nn:bQ P w K mg base 2 1 "_law_tongue" K01.gO) (Nv:bQ P w K mg base 2 4 "_law_world" K01.f7) (ND:bQ P w K mg base 1 1 "_law_text" K05.jR) (Nf:bQ P w K mg base 2 1 "show_world" K05.f9) (Nd:gM P w K mg base 6 1 "read_world" K05.di) (Nh:bQ P w K mg base 10 2 "_law_same" (K04.cG 10)) (Np:bQ P w K mg base 1 2 "_law_turned" K05.iV) (Nj:bQ P w K mg base 11 1 "_law_read" K05.fR) (F:gz K "law" "law" nK f fd):fL P w K mg base lT 12 f fd ["_law_script"] (ou K 1 K05.uc):=
 have sc:=Lq
 G4 (k:=11) (gB:=K05.IV) F sc (λcdv A outer s H E J T hr=>
 (av (aZ 1 sc.nd (bH az (b_ (bB Na hr (ai (af 0) (ai az ao))) az)))
 (av (aZ 2 sc.nd (bB Nv hr (ai (af 0) (ai az (ai (af 1) (ai (bB Nn hr (ai (bB Na hr (ai (af 0) (ai az ao))) ao)) ao))))))
 (av (aZ 3 sc.nd (bB ND hr (ai (af 2) ao)))
 (av (aZ 4 sc.nd (bB Nf hr (ai (af 2) ao)))
 (av (bG (dH (eK (cU (cu (bU l7 jG m.str (af 4) m.isinstance))) (eK (mE hr.units (af 4) (af 3)) (eU (cU (cu (bB Nh hr (ai (Ef Nd hr (ai (af 3) ao)) (ai (af 2) ao))))))))) (aD (aM eY)) bx)
 (av (eX (zg (ai az (ai (G9 (ai az (ai (G_ (ai (c7 (ai (af 0) ao) m.len) (ai az ao)) m.min) ao)) m.max) ao)) m.range) (aI 5 sc.nd) (av (aZ 6 sc.nd (b_ (fq (bH (bB Na hr (ai (af 0) (ai (af 5) ao))) (fq az (af 5))) az) az))
 (aD (bG (cU (cu (bB Nj hr (ai (bB Np hr (ai (af 3) (ai (af 6) ao))) ao)))) (aD (aM eY)) bx))))
 (av (eX (kT (cM (aA (bH (af 3) aN) (aA (bH aN (af 3)) (aA aN (aA az (aA fC (aA (cM (aA aN bw)) (aA (dU (aA az (aA (dU bw) (aA (dU bw) bw)))) (aA aN (aA aN (aA aN (aA aN (aA aN bw)))))))))))))) (aI 7 sc.nd) (aD (bG (cU (cu (bB Nj hr (ai (af 7) ao)))) (aD (aM eY)) bx)))
 (aD (aM eY)))))))))) (λas r _ h=>h)
end
end K05
namespace K05N
open PySem DL
open K01
inductive Sm:D->Prop
 | non:Sm .non
 | bl (b:Bool):Sm (.bl b)
 | int (i:Int):Sm (.int i)
 | emp:Sm .emp
 | str {x:Str}:x.length<=100000->Sm (.str x)
 | tup {xs:List D}:xs.length<=100000->(∀x∈xs,Sm x)->Sm (.tup xs)
 | lst {xs:List D}:xs.length<=100000->(∀x∈xs,Sm x)->Sm (.lst xs)
theorem line {n:Nat}(h:n<=100000):n<=sizeLine:=P6 h (by decide)
theorem len_str {x:Str}(h:x.length<=100000):dz [.d (.str x)]=.ok (.d (.int x.length)):=by show (if x.length<=sizeLine then M.ok (R.d (D.int x.length)) else M.bad)=_;rw [if_pos (line h)]
theorem x_ (x:Str) (h:x.length<=100000) (env:Ev) (h0:env[0]?=some (some (.d (.str x)))):
  gN eV (ah (bC 1 [] (uA (aa 0)) (aF 0) dc (g2 (ju false) (aa 0) (gC (.str "abcdefghijklmnopqrstuvwxyz")))) ak) env=.ok (.d (.bl (x.cps.toList.all nj))):=by
 have hl:(signs x).length<=sizeLine:=by unfold signs;rw [Pj,SS];exact line h
 have e:dR (aF 0) dc (g2 (ju false) (aa 0) (gC (.str "abcdefghijklmnopqrstuvwxyz"))) (signs x) (cE 1 [] env)=.ok ((signs x).map λd=>.bl (yp d)):=by refine lW (f:=λd=>.bl (yp d)) [] (signs x) none λd hd=>?_;unfold signs at hd;rw [Pn] at hd;obtain ⟨k,_,rfl⟩:=hd;rfl
 simp only [gN,ah,ak,bC,uA,aa,h0,S.rd,aY,hl,if_true,e,all_map,CK]
theorem HX (d:D) (hs:Sm d):kB [.d d]=.ok (.d (.bl (yc d))):=by
 cases d with
 | str x=>
  cases hs with
  | str hx=>
  have lc:=x_ x hx [some (S.d (D.str x))] rfl;have nw:=notin_words x;unfold kB ri;generalize gN eV (ah (bC 1 [] (uA (aa 0)) (aF 0) dc (g2 (ju false) (aa 0) (gC (.str "abcdefghijklmnopqrstuvwxyz")))) ak)=gg at lc ⊢;change gQ true (.d (.str x)) (.d (.tup [.str "and",.str "or",.str "not",.str "some",.str "every",.str "least",.str "true",.str "false"]))=_ at nw;by_cases h2:(x.length:Int) < 2
  ·simp [aq,aJ,bu,bf,aP,aK,br,aa,ay,S.rd,R.dat,bD,bg,g2,gN,ah,ak,gC,aU,aE,aO,aS,au,bh,bA,rF,fin,bz,aL,eq_int,aj,aC,toD,toS,aG,bJ,bK,bL,kD,len_str hx,h2,yc,fY];omega
  ·by_cases h8:(8:Int) < x.length
   ·simp [aq,aJ,bu,bf,aP,aK,br,aa,ay,S.rd,R.dat,bD,bg,g2,gN,ah,ak,gC,aU,aE,aO,aS,au,bh,bA,rF,fin,bz,aL,eq_int,aj,aC,toD,toS,aG,bJ,bK,bL,kD,len_str hx,h2,h8,yc,fY];omega
   ·have a2:2<=x.length:=by omega
    have a8:x.length<=8:=by omega
    simp [aq,aJ,bu,bf,aP,aK,br,aa,ay,S.rd,R.dat,bD,bg,g2,gN,ah,ak,gC,aU,aE,aO,aS,au,bh,bA,rF,fin,bz,aL,eq_int,aj,aC,toD,toS,aG,bJ,bK,bL,kD,len_str hx,h2,h8,nw,lc];cases hw:inD (.str x) words <;> simp [aq,aJ,bu,bf,aP,aK,br,aa,ay,S.rd,R.dat,bD,bg,g2,gN,ah,ak,gC,aU,aE,aO,aS,au,bh,bA,rF,fin,bz,aL,eq_int,aj,aC,toD,toS,aG,bJ,bK,bL,hw,yc,fY,a2,a8]
 | _=>rfl
theorem vm {xs:List D}(hl:xs.length<=100000) (h:kC xs):gN eV (ah (bC 2 [] (λ_=>.ok (Rg (λa b=>D.tup [a,b]) xs (xs.drop 1))) (cS 2 (bq (aF 0) (bq (aF 1) cK))) dc (g2 q9 (aa 0) (aa 1))) ak) []=.ok (.d (.bl (gj xs))):=by
 have hz:(Rg (λa b=>D.tup [a,b]) xs (xs.drop 1)).length<=sizeLine:=by refine line ?_;rw [Ud];omega
 have e:=xF (ge:=g2 q9 (aa 0) (aa 1)) (f:=λd=>.bl (ltB (jM d) (iO d))) [] (Rg (λa b=>D.tup [a,b]) xs (xs.drop 1)) none none λd hd=>by obtain ⟨i,hi,rfl⟩:=TY.mp hd;rw [TZ];refine ⟨_,_,rfl,?_⟩;exact h _ (Qz _) _ (Vw (Qz _))
 simp only [gN,ah,ak,bC,aY,hz,if_true,cE,Qe,R0,Ql,e,all_map];congr 3;unfold gj;have:(Rg (λa b=>ltB a b) xs (xs.drop 1))=(Rg (λa b=>D.tup [a,b]) xs (xs.drop 1)).map λd=>ltB (jM d) (iO d):=by rw [List.map_zipWith];rfl
 rw [this,SY];rfl
theorem zw {xs:List D}(hl:xs.length<=100000) (h:kC xs):iZ [.d (.tup xs)]=.ok (.d (.bl (gj xs))):=by
 have e:=vm hl h;have z:AM (ah (aa 0) (ah (dw eZ (aa 0) (dM (gC (.int 1))) dZ) ak)) [some (.d (.tup xs))]=.ok (Rg (λa b=>D.tup [a,b]) xs (xs.drop 1)):=by rw [<-uu];rfl
 unfold iZ wz;simp only [gN,ah,ak,bC,ay,v9,Qh,R0,P4,RS,Qe,WD,Ql,aE] at e ⊢;rw [z];simp only [aY,cE,R0] at e ⊢;rw [e];rfl
theorem F0 {xs:List D}(hl:xs.length<=100000) (h:kC xs):iZ [.bor xs]=.ok (.d (.bl (gj xs))):=by
 have e:=vm hl h;have z:AM (ah (aa 0) (ah (dw eZ (aa 0) (dM (gC (.int 1))) dZ) ak)) [some (.bor xs)]=.ok (Rg (λa b=>D.tup [a,b]) xs (xs.drop 1)):=by rw [<-uu];rfl
 unfold iZ wz;simp only [gN,ah,ak,bC,ay,v9,Qh,R0,P4,RS,Qe,WD,Ql,aE] at e ⊢;rw [z];simp only [aY,cE,R0] at e ⊢;rw [e];rfl
theorem comp_def {xs:List D}{m:D}{F:List S->M R}{f:D->Bool}(hl:xs.length<=100000) (hF:∀d∈xs,F [.d d,.d m]=.ok (.d (.bl (f d)))) (env:Ev) (h0:env[0]?=some (some (.d (.tup xs)))) (h1:env[1]?=some (some (.d m))):
  gN eV (ah (bC 1 [1] (iM (aa 0)) (aF 0) dc (gN (au 2 F) (ah (aa 0) (ah (aa 1) ak)))) ak) env=.ok (.d (.bl (xs.all f))):=by
 have e:=lW (ge:=gN (au 2 F) (ah (aa 0) (ah (aa 1) ak))) (f:=λd=>.bl (f d)) [some (.d m)] xs none λd hd=>by have:=hF d hd;simp [aq,aJ,bu,bf,aP,aK,br,aa,ay,S.rd,R.dat,bD,bg,g2,gN,ah,ak,gC,aU,aE,aO,aS,au,bh,bA,rF,fin,bz,aL,eq_int,aj,aC,toD,toS,aG,bJ,bK,bL,this]
 simp [aq,aJ,bu,bf,aP,aK,br,aa,ay,S.rd,R.dat,bD,bg,g2,gN,ah,ak,gC,aU,aE,aO,aS,au,bh,bA,rF,fin,bz,aL,eq_int,aj,aC,toD,toS,aG,bJ,bK,bL,bC,iM,aa,h0,S.rd,line hl,cE,h1,e,all_map,gN,ah,ak]
theorem Sm.tl {xs:List D}(h:Sm (.tup xs)):xs.length<=100000/\∀x∈xs,Sm x:=by
 cases h with
 | tup a b=>exact ⟨a,b⟩
theorem Df (d:D) (m:Int) (hs:Sm d):gE [.d d,.d (.int m)]=.ok (.d (.bl (gJ (ic m) d))):=by
 cases d with
 | tup xs=>
  have c:=comp_def (F:=fU) (f:=ic m) hs.tl.1 (λd _=>zv d m) [some (.d (.tup xs)),some (.d (.int m))] rfl rfl;unfold gE lM;generalize gN eV _=gg at c ⊢;simp [aq,aJ,bu,bf,aP,aK,br,aa,ay,S.rd,R.dat,bD,bg,g2,gN,ah,ak,gC,aU,aE,aO,aS,au,bh,bA,rF,fin,bz,aL,eq_int,aj,aC,toD,toS,aG,bJ,bK,bL,lD,c];cases q:xs.all (ic m)
  ·simp [aq,aJ,bu,bf,aP,aK,br,aa,ay,S.rd,R.dat,bD,bg,g2,gN,ah,ak,gC,aU,aE,aO,aS,au,bh,bA,rF,fin,bz,aL,eq_int,aj,aC,toD,toS,aG,bJ,bK,bL,gJ,q]
  ·simp [aq,aJ,bu,bf,aP,aK,br,aa,ay,S.rd,R.dat,bD,bg,g2,gN,ah,ak,gC,aU,aE,aO,aS,au,bh,bA,rF,fin,bz,aL,eq_int,aj,aC,toD,toS,aG,bJ,bK,bL,zw hs.tl.1 (K6 q),gJ,q]
 | _=>rfl
theorem FZ (d:D) (m:Int) (hs:Sm d):gX [.d d,.d (.int m)]=.ok (.d (.bl (gJ (iz m) d))):=by
 cases d with
 | tup xs=>
  have c:=comp_def (F:=iI) (f:=iz m) hs.tl.1 (λd _=>HY d m) [some (.d (.tup xs)),some (.d (.int m))] rfl rfl;unfold gX m9;generalize gN eV _=gg at c ⊢;simp [aq,aJ,bu,bf,aP,aK,br,aa,ay,S.rd,R.dat,bD,bg,g2,gN,ah,ak,gC,aU,aE,aO,aS,au,bh,bA,rF,fin,bz,aL,eq_int,aj,aC,toD,toS,aG,bJ,bK,bL,mQ,c];cases q:xs.all (iz m)
  ·simp [aq,aJ,bu,bf,aP,aK,br,aa,ay,S.rd,R.dat,bD,bg,g2,gN,ah,ak,gC,aU,aE,aO,aS,au,bh,bA,rF,fin,bz,aL,eq_int,aj,aC,toD,toS,aG,bJ,bK,bL,gJ,q]
  ·simp [aq,aJ,bu,bf,aP,aK,br,aa,ay,S.rd,R.dat,bD,bg,g2,gN,ah,ak,gC,aU,aE,aO,aS,au,bh,bA,rF,fin,bz,aL,eq_int,aj,aC,toD,toS,aG,bJ,bK,bL,zw hs.tl.1 (K5 q),gJ,q]
 | _=>rfl
theorem FW (d:D) (hs:Sm d):gP [.d d]=.ok (.d (.bl (mz d))):=by
 cases d with
 | tup xs=>
  match xs with
  | []=>rfl
  | [a]=>rfl
  | [a,b]=>simp [aq,aJ,bu,bf,aP,aK,br,aa,ay,S.rd,R.dat,bD,bg,g2,gN,ah,ak,gC,aU,aE,aO,aS,au,bh,bA,rF,fin,bz,aL,eq_int,aj,aC,toD,toS,aG,bJ,bK,bL,gP,k9,k7,HX a (hs.tl.2 a (by simp [aq,aJ,bu,bf,aP,aK,br,aa,ay,S.rd,R.dat,bD,bg,g2,gN,ah,ak,gC,aU,aE,aO,aS,au,bh,bA,rF,fin,bz,aL,eq_int,aj,aC,toD,toS,aG,bJ,bK,bL])),mz]
  | a::b::c::r=>
   have e:(((r.length:Int) + 1 + 1 + 1) == 2)=false:=by rw [beq_eq_false_iff_ne];omega
   simp [aq,aJ,bu,bf,aP,aK,br,aa,ay,S.rd,R.dat,bD,bg,g2,gN,ah,ak,gC,aU,aE,aO,aS,au,bh,bA,rF,fin,bz,aL,eq_int,aj,aC,toD,toS,aG,bJ,bK,bL,gP,k9,k7,e,mz]
 | _=>rfl
theorem ku (d:D) (hs:Sm d):fS [.d d]=.ok (.d (.bl (jP d))):=by
 cases d with
 | tup xs=>
  have e1:=lW (ge:=gN (au 1 gP) (ah (aa 0) ak)) (f:=λd=>.bl (mz d)) [] xs none λd hd=>by simp [aq,aJ,bu,bf,aP,aK,br,aa,ay,S.rd,R.dat,bD,bg,g2,gN,ah,ak,gC,aU,aE,aO,aS,au,bh,bA,rF,fin,bz,aL,eq_int,aj,aC,toD,toS,aG,bJ,bK,bL,FW d (hs.tl.2 d hd)]
  by_cases h3:(3:Int) < xs.length
  ·simp [aq,aJ,bu,bf,aP,aK,br,aa,ay,S.rd,R.dat,bD,bg,g2,gN,ah,ak,gC,aU,aE,aO,aS,au,bh,bA,rF,fin,bz,aL,eq_int,aj,aC,toD,toS,aG,bJ,bK,bL,fS,jb,i0,h3,jP];omega
  ·have h3':xs.length<=3:=by omega
   have z:xs.length<=sizeLine:=line hs.tl.1;cases q:xs.all mz
   ·simp [aq,aJ,bu,bf,aP,aK,br,aa,ay,S.rd,R.dat,bD,bg,g2,gN,ah,ak,gC,aU,aE,aO,aS,au,bh,bA,rF,fin,bz,aL,eq_int,aj,aC,toD,toS,aG,bJ,bK,bL,fS,jb,i0,h3,bC,iM,z,cE,gN,ah,ak,au,e1,all_map,q,jP]
   ·have e2:=lW (ge:=g2 bP (aa 0) (gC (.int 0))) (f:=jM) [] xs none λd hd=>by obtain ⟨x,b,rfl,_⟩:=rB (PF.mp q d hd);rfl
    have e3:=F0 (xs:=xs.map jM) (by rw [Pj];exact hs.tl.1) (K4 (F8 q));simp [aq,aJ,bu,bf,aP,aK,br,aa,ay,S.rd,R.dat,bD,bg,g2,gN,ah,ak,gC,aU,aE,aO,aS,au,bh,bA,rF,fin,bz,aL,eq_int,aj,aC,toD,toS,aG,bJ,bK,bL,fS,jb,i0,h3,bC,iM,z,cE,gN,ah,ak,au,e1,all_map,q,jP,e2,e3,h3']
 | _=>rfl
theorem xH {xs:List D}{m:D}{F:List S->M R}{f:D->Bool}(j:Nat) (hs:Sm (.tup xs)) (hn:xs.all mz=true) (hF:∀d,Sm d->F [.d d,.d m]=.ok (.d (.bl (f d)))) (env:Ev) (h0:env[j]?=some (some (.d (.tup xs)))) (h1:env[1]?=some (some (.d m))):
  gN eV (ah (bC 2 [1] (iM (aa j)) (cS 2 (bq (aF 0) (bq (aF 1) cK))) dc (gN (au 2 F) (ah (aa 1) (ah (aa 2) ak)))) ak) env=.ok (.d (.bl (xs.all λd=>f (iO d)))):=by
 have e:=xF (ge:=gN (au 2 F) (ah (aa 1) (ah (aa 2) ak))) (f:=λd=>.bl (f (iO d))) [some (.d m)] xs none none λd hd=>by obtain ⟨x,b,rfl,_⟩:=rB (PF.mp hn d hd);have sb:Sm b:=(hs.tl.2 _ hd).tl.2 b (by simp [aq,aJ,bu,bf,aP,aK,br,aa,ay,S.rd,R.dat,bD,bg,g2,gN,ah,ak,gC,aU,aE,aO,aS,au,bh,bA,rF,fin,bz,aL,eq_int,aj,aC,toD,toS,aG,bJ,bK,bL]);exact ⟨_,_,rfl,by simp [aq,aJ,bu,bf,aP,aK,br,aa,ay,S.rd,R.dat,bD,bg,g2,gN,ah,ak,gC,aU,aE,aO,aS,au,bh,bA,rF,fin,bz,aL,eq_int,aj,aC,toD,toS,aG,bJ,bK,bL,hF b sb,iO]⟩
 simp [aq,aJ,bu,bf,aP,aK,br,aa,ay,S.rd,R.dat,bD,bg,g2,gN,ah,ak,gC,aU,aE,aO,aS,au,bh,bA,rF,fin,bz,aL,eq_int,aj,aC,toD,toS,aG,bJ,bK,bL,bC,iM,aa,h0,S.rd,line hs.tl.1,cE,h1,e,all_map,gN,ah,ak]
theorem F2 (d:D) (hs:Sm d):cF [.d d]=.ok (.d (.bl (mK d))):=by
 cases d with
 | tup xs=>
  match xs with
  | []=>rfl
  | [a]=>simp [aq,aJ,bu,bf,aP,aK,br,aa,ay,S.rd,R.dat,bD,bg,g2,gN,ah,ak,gC,aU,aE,aO,aS,au,bh,bA,rF,fin,bz,aL,eq_int,aj,aC,toD,toS,aG,bJ,bK,bL,cF,fm,fj,mK]
  | [a,b]=>simp [aq,aJ,bu,bf,aP,aK,br,aa,ay,S.rd,R.dat,bD,bg,g2,gN,ah,ak,gC,aU,aE,aO,aS,au,bh,bA,rF,fin,bz,aL,eq_int,aj,aC,toD,toS,aG,bJ,bK,bL,cF,fm,fj,mK]
  | [m,a,b]=>
   have sa:Sm a:=hs.tl.2 a (by simp [aq,aJ,bu,bf,aP,aK,br,aa,ay,S.rd,R.dat,bD,bg,g2,gN,ah,ak,gC,aU,aE,aO,aS,au,bh,bA,rF,fin,bz,aL,eq_int,aj,aC,toD,toS,aG,bJ,bK,bL]);have sb:Sm b:=hs.tl.2 b (by simp [aq,aJ,bu,bf,aP,aK,br,aa,ay,S.rd,R.dat,bD,bg,g2,gN,ah,ak,gC,aU,aE,aO,aS,au,bh,bA,rF,fin,bz,aL,eq_int,aj,aC,toD,toS,aG,bJ,bK,bL]);cases m with
   | int m=>
    by_cases h1:m < 1
    ·simp [aq,aJ,bu,bf,aP,aK,br,aa,ay,S.rd,R.dat,bD,bg,g2,gN,ah,ak,gC,aU,aE,aO,aS,au,bh,bA,rF,fin,bz,aL,eq_int,aj,aC,toD,toS,aG,bJ,bK,bL,cF,fm,fj,iL,cS,bq,cK,aF,j4,yX,h1,mK];omega
    ·by_cases h8:8 < m
     ·simp [aq,aJ,bu,bf,aP,aK,br,aa,ay,S.rd,R.dat,bD,bg,g2,gN,ah,ak,gC,aU,aE,aO,aS,au,bh,bA,rF,fin,bz,aL,eq_int,aj,aC,toD,toS,aG,bJ,bK,bL,cF,fm,fj,iL,cS,bq,cK,aF,j4,yX,h1,h8,mK];omega
     ·have b1:1<=m:=by omega
      have b8:m<=8:=by omega
      cases qa:jP a
      ·simp [aq,aJ,bu,bf,aP,aK,br,aa,ay,S.rd,R.dat,bD,bg,g2,gN,ah,ak,gC,aU,aE,aO,aS,au,bh,bA,rF,fin,bz,aL,eq_int,aj,aC,toD,toS,aG,bJ,bK,bL,cF,fm,fj,iL,cS,bq,cK,aF,j4,yX,h1,h8,mK,ku a sa,qa]
      ·cases qb:jP b
       ·simp [aq,aJ,bu,bf,aP,aK,br,aa,ay,S.rd,R.dat,bD,bg,g2,gN,ah,ak,gC,aU,aE,aO,aS,au,bh,bA,rF,fin,bz,aL,eq_int,aj,aC,toD,toS,aG,bJ,bK,bL,cF,fm,fj,iL,cS,bq,cK,aF,j4,yX,h1,h8,mK,ku a sa,ku b sb,qa,qb]
       ·obtain ⟨xa,rfl,na⟩:=wY qa;obtain ⟨xb,rfl,nb⟩:=wY qb;have ca:=xH (m:=.int m) (F:=gE) (f:=gJ (ic m)) 2 sa na (λd h=>Df d m h) [some (.d (.tup [.int m,.tup xa,.tup xb])),some (.d (.int m)),some (.d (.tup xa)),some (.d (.tup xb))] rfl rfl;have cb:=xH (m:=.int m) (F:=gX) (f:=gJ (iz m)) 3 sb nb (λd h=>FZ d m h) [some (.d (.tup [.int m,.tup xa,.tup xb])),some (.d (.int m)),some (.d (.tup xa)),some (.d (.tup xb))] rfl rfl;unfold cF fm;generalize gN eV (ah (bC 2 [1] (iM (aa 2)) _ _ _) _)=gg at ca ⊢;generalize gN eV (ah (bC 2 [1] (iM (aa 3)) _ _ _) _)=gh at cb ⊢;have w:mK (.tup [.int m,.tup xa,.tup xb])=((xa.all λd=>gJ (ic m) (iO d)) && (xb.all λd=>gJ (iz m) (iO d))):=by unfold mK;simp only [b1,b8,qa,qb,decide_true,RJ,Kp]
        rw [w];generalize (xa.all λd=>gJ (ic m) (iO d))=A at ca ⊢;generalize (xb.all λd=>gJ (iz m) (iO d))=B at cb ⊢;simp [aq,aJ,bu,bf,aP,aK,br,aa,ay,S.rd,R.dat,bD,bg,g2,gN,ah,ak,gC,aU,aE,aO,aS,au,bh,bA,rF,fin,bz,aL,eq_int,aj,aC,toD,toS,aG,bJ,bK,bL,fj,iL,cS,bq,cK,aF,j4,yX,h1,h8,ku _ sa,ku _ sb,qa,qb,ca];cases A <;> simp [aq,aJ,bu,bf,aP,aK,br,aa,ay,S.rd,R.dat,bD,bg,g2,gN,ah,ak,gC,aU,aE,aO,aS,au,bh,bA,rF,fin,bz,aL,eq_int,aj,aC,toD,toS,aG,bJ,bK,bL,cb]
   | _=>rfl
  | a::b::c::e::r=>
   have e:(((r.length:Int) + 1 + 1 + 1 + 1) == 3)=false:=by rw [beq_eq_false_iff_ne];omega
   simp [aq,aJ,bu,bf,aP,aK,br,aa,ay,S.rd,R.dat,bD,bg,g2,gN,ah,ak,gC,aU,aE,aO,aS,au,bh,bA,rF,fin,bz,aL,eq_int,aj,aC,toD,toS,aG,bJ,bK,bL,cF,fm,fj,e,mK]
 | _=>rfl
end K05N
namespace K05
open PySem PySem.Spec PyProof.Rows DL PySem.Builtin PySem.Builtin.Str PySem.StrLaws
noncomputable abbrev cs (x:Str):List Nat:=x.cps.toList
noncomputable def jn (y:List Nat):List (List Nat)->List Nat
 | []=>[]
 | [p]=>p
 | p::q::r=>p++(y++jn y (q::r))
theorem fD {x y:Str}(h:cs x=cs y):x=y:=by cases x;cases y;congr 1;exact U0.mp h
theorem bF (x:Str):(cs x).length=x.length:=by show x.cps.toList.length=x.cps.size;simp
theorem Bs (x y:Str) (k:Nat):At x y x.length k↔∃r,(cs x).drop k=cs y++r/\k<=x.length:=by
 have e:subAt x y k=true↔cs (strSub x k (k + y.length))=cs y:=by show (x.cps.extract k (k + y.length) == y.cps)=true↔_;rw [beq_iff_eq,<-U0];rfl
 have t:cs (strSub x k (k + y.length))=((cs x).drop k).take y.length:=by rw [show cs (strSub x k (k + y.length))=_ from strSub_toList x k (k + y.length),Nat.add_sub_cancel_left]
 rw [t] at e;unfold At;rw [e];constructor
 ·rintro ⟨h1,h2⟩;refine ⟨((cs x).drop k).drop y.length,?_,by omega⟩;rw [<-h2];exact (List.take_append_drop _ _).symm
 ·rintro ⟨r,h1,h2⟩;have l:=congrArg Rp h1;rw [QX,Pu,bF,bF] at l;exact ⟨by omega,by rw [h1,<-bF y,Ug];rfl⟩
section
variable {x y:Str}{c:Nat}{ys:List Nat}(hy:cs y=c::ys)
include hy
theorem zH {k:Nat}(h:At x y x.length k):(cs x)[k]?=some c:=by
 obtain ⟨r,h1,_⟩:=(Bs x y k).mp h;have:((cs x).drop k)[0]?=some c:=by rw [h1,hy];rfl
 rwa [Ux,Nat.add_zero] at this
theorem zK:∀(ps:List (List Nat)) (a:Nat) (cuts:List Nat) (f:Nat),ps≠[]->(cs x).drop a=jn (cs y) ps->a<=x.length->(∀p∈ps,c∉p)->ChainG x y x.length a cuts f->(∀k,f<=k->¬At x y x.length k)->
  ((a::cuts.map (· + y.length)).zip (cuts++[x.length])).map (λp=>((cs x).drop p.1).take (p.2 - p.1))=ps
 | [],_,_,_,h,_,_,_,_,_=>(h rfl).elim
 | [p],a,cuts,f,_,hd,ha,hp,hg,hf=>by
  have no:∀k,a<=k->¬At x y x.length k:=λk hk h=>by
   have q:=zH hy h;have e:((cs x).drop a)[k - a]?=some c:=by rw [Ux];rw [show a + (k - a)=k by omega];exact q
   rw [hd] at e;exact hp p (by simp) (QK e)
  cases cuts with
  | cons d ds=>exact (no d hg.1 hg.2.1).elim
  | nil=>
   show [((cs x).drop a).take (x.length - a)]=[p];rw [hd];have l:=congrArg Rp hd;rw [QX,bF] at l;rw [l];show [p.take p.length]=[p];rw [Q_]
 | p::q::r,a,cuts,f,_,hd,ha,hp,hg,hf=>by
  have hd':(cs x).drop a=p++(cs y++jn (cs y) (q::r)):=hd;have l:=congrArg Rp hd';rw [QX,Pu,Pu,bF,bF] at l;have drp:(cs x).drop (a + p.length)=cs y++jn (cs y) (q::r):=by rw [<-Vy,hd',Uh];rfl
  have ly:1<=y.length:=by rw [<-bF,hy];simp
  have hA:At x y x.length (a + p.length):=(Bs x y _).mpr ⟨_,drp,by omega⟩;have no:∀k,a<=k->k < a + p.length->¬At x y x.length k:=λk hk h1 h=>by
   have e:((cs x).drop a)[k - a]?=some c:=by rw [Ux];rw [show a + (k - a)=k by omega];exact zH hy h
   rw [hd',Q2 (by omega)] at e;exact hp p (by simp) (QK e)
  cases cuts with
  | nil=>
   have:f=a:=hg;exact (hf (a + p.length) (by omega) hA).elim
  | cons d ds=>
   obtain ⟨g1,g2,g3,g4⟩:=hg;have ed:d=a + p.length:=by
    rcases Wu d (a + p.length) with z | z | z
    ·exact (no d g1 z g2).elim
    ·exact z
    ·exact (g3 _ (by omega) z hA).elim
   subst ed;have ih:=zK (q::r) (a + p.length + y.length) ds f (by simp) (by rw [<-Vy,drp,<-bF y,Uh];rfl) (by omega) (λp' h'=>hp p' (Py _ h')) g4 hf;show ((cs x).drop a).take (a + p.length - a)::_=p::_;rw [show a + p.length - a=p.length by omega,hd',Ug]
   ·exact congrArg (p::·) ih
   ·rfl
theorem kY {ps:List Str}(h0:ps≠[]) (hx:cs x=jn (cs y) (ps.map cs)) (hp:∀p∈ps,c∉cs p):Q7 x y=ps:=by
 have ly:1<=y.length:=by rw [<-bF,hy];simp
 obtain ⟨f,g1,g2⟩:=occ_tight x y ly;have key:=zK hy (ps.map cs) 0 _ f (by simpa using h0) (by rw [R8];exact hx) (QG _) (λp h=>by obtain ⟨q,hq,rfl⟩:=Pn.mp h;exact hp q hq) g1 g2;have one:∀p,ps=[p]->[x]=ps:=λp e=>by subst e;rw [fD (x:=x) (y:=p) hx]
 have back:∀{l:List Str},l.map cs=ps.map cs->l=ps:=fun {l} e=>by
  clear hx hp h0 key one
  induction l generalizing ps with
  | nil=>cases ps with
   | nil=>rfl
   | cons p ps=>cases e
  | cons p l ih=>cases ps with
   | nil=>cases e
   | cons q ps=>
    rw [Qh,Qh] at e;obtain ⟨e1,e2⟩:=Rb e;rw [fD e1,ih e2]
 unfold Q7;split
 ·rename_i h;cases ps with
  | nil=>exact (h0 rfl).elim
  | cons p ps=>cases ps with
   | nil=>exact one p rfl
   | cons q r=>
    exfalso;have sub:∀a∈cs y,a∈cs x:=λa ha=>by rw [hx];show a∈cs p++(cs y++_);simp [ha]
    have l:=congrArg Rp hx;have l':x.length=(cs p).length + ((cs y).length + (jn (cs y) ((q::r).map cs)).length):=by rw [<-bF,hx];show (cs p++(cs y++_)).length=_;rw [Pu,Pu];rfl
    rw [bF y] at l';rw [RB,decide_eq_true_eq,decide_eq_true_eq] at h;rcases h with h | h
    ·omega
    ·have mono:∀n,x.cps.all (· < n)=true->y.cps.all (· < n)=true:=λn h1=>by rw [<-Array.all_toList,PF] at h1 ⊢;exact λa ha=>h1 a (sub a ha)
     unfold Xs at h;have m1:=mono 256;have m2:=mono 65536;split at h
     ·rename_i h1;rw [if_pos (m1 h1)] at h;omega
     ·split at h
      ·rename_i h2;rw [if_pos (m2 h2)] at h;split at h <;> omega
      ·split at h
       ·omega
       ·split at h <;> omega
 ·split
  ·rename_i h;rw [List.isEmpty_iff] at h;rw [h] at key;refine back ?_;rw [<-key];show [cs x]=[((cs x).drop 0).take (x.length - 0)];rw [R8,Yj,<-bF,Q_]
  ·refine back ?_;rw [<-key];unfold partsBetween;rw [PY];exact Q9 λp _=>strSub_toList x p.1 p.2
end
theorem mC {x:Str}{c:Nat}{p r:Str}(hx:cs x=cs p++c::cs r) (hp:c∉cs p):Pw x ⟨#[c]⟩=(p,⟨#[c]⟩,r):=by
 have hA:∀k,At x ⟨#[c]⟩ x.length k↔(cs x)[k]?=some c:=λk=>subAt_one x c k;have hat:(cs x)[(cs p).length]?=some c:=by rw [hx,Qy (PJ _),WD];rfl
 have no:∀k,k < (cs p).length->¬At x ⟨#[c]⟩ x.length k:=λk hk h=>by rw [hA,hx,Q2 hk] at h;exact hp (QK h)
 unfold Pw;rcases occ_head x ⟨#[c]⟩ 1 (PJ _) with ⟨h1,h2⟩ | ⟨i,rs,h1,h2,h3⟩
 ·exact (h2 _ ((hA _).mpr hat)).elim
 ·have ei:i=(cs p).length:=by
   rcases Wu i (cs p).length with z | z | z
   ·exact (no i z h2).elim
   ·exact z
   ·exact (h3 _ z ((hA _).mpr hat)).elim
  rw [h1];subst ei;have e1:strSub x 0 (cs p).length=p:=fD (by
   rw [show cs (strSub x 0 (cs p).length)=_ from strSub_toList x _ _,R8,Yj];show (cs x).take _=_;rw [hx,Ug];rfl)
  have l:=congrArg Rp hx;rw [bF,Pu,P4] at l;have e2:strSub x ((cs p).length + (⟨#[c]⟩:Str).length) x.length=r:=fD (by
   rw [show cs (strSub x _ x.length)=_ from strSub_toList x _ _];show ((cs x).drop ((cs p).length + 1)).take (x.length - ((cs p).length + 1))=_;have e:(cs x).drop ((cs p).length + 1)=cs r:=by
    rw [hx,<-Vy,Uh]
    ·rfl
    ·rfl
   rw [e,show x.length - ((cs p).length + 1)=(cs r).length by omega,Q_])
  show (strSub x 0 (cs p).length,_,strSub x ((cs p).length + (⟨#[c]⟩:Str).length) x.length)=_;rw [e1,e2]
theorem z_ {x:Str}{c:Nat}(h:c∉cs x):Pw x ⟨#[c]⟩=(x,Rf,Rf):=by
 unfold Pw;rcases occ_head x ⟨#[c]⟩ 1 (PJ _) with ⟨h1,h2⟩ | ⟨i,rs,h1,h2,h3⟩
 ·rw [h1]
 ·exact (h (QK ((subAt_one x c i).mp h2))).elim
theorem join_split (x y:Str):RD y (Q7 x y)=x:=by
 unfold Q7 RD;split
 ·rfl
 ·split
  ·rfl
  ·exact glued_between_self x y _
theorem fO (y:Str):∀ps:List Str,cs (RD y ps)=jn (cs y) (ps.map cs)
 | []=>rfl
 | p::ps=>by
  show ((ps.foldl (λacc p=>acc++y.cps++p.cps) p.cps).toList)=_
  induction ps generalizing p with
  | nil=>rfl
  | cons q r ih=>
   have e:jn (cs y) ((p::q::r).map cs)=cs p++(cs y++jn (cs y) ((q::r).map cs)):=rfl;have gen:∀(l:List Str) (a b:Array Nat),(l.foldl (λacc p=>acc++y.cps++p.cps) (a++b)).toList=a.toList++(l.foldl (λacc p=>acc++y.cps++p.cps) b).toList:=λl=>by
    induction l with
    | nil=>intro a b;simp
    | cons u l il=>
     intro a b;rw [Sd,Sd,show a++b++y.cps++u.cps=a++(b++y.cps++u.cps) by simp only [Up],il]
   rw [Sd,gen,ih q,e];simp
end K05
namespace WP
open PySem DL K01
noncomputable def Wp {α:Type}(m:M α) (P:α->Prop):Prop:=∃a,m=.ok a/\P a
section
variable {α β:Type}{m:M α}{P P':α->Prop}{a:α}{env:Ev}{Q:O->Prop}{t u:G O}{g:G R}{r r':R}{i:Nat}{b:G Bool}
theorem Wp.mono (h:Wp m P) (k:∀a,P a->P' a):Wp m P':=let ⟨a,h1,h2⟩:=h;⟨a,h1,k a h2⟩
theorem Wp.eq (h:Wp m (·=a)):m=.ok a:=let ⟨_,h1,h2⟩:=h;h2▸h1
theorem tV {P:R->Prop}(h:Wp (t env) λo=>∃r,o=.rt r/\P r):Wp (fin (t env)) P:=by obtain ⟨_,h1,r,rfl,h2⟩:=h;exact ⟨r,by rw [h1];rfl,h2⟩
theorem gq (h:Wp (t env) (·=.rt r)):fin (t env)=.ok r:=by rw [h.eq];rfl
theorem b6 (h:Wp (t env) λo=>match o with
 | .nx e=>Wp (u e) Q
 | o=>Q o):Wp (aq t u env) Q:=by
 obtain ⟨o,h1,h2⟩:=h;show Wp (t env >>= _) Q;rw [h1];cases o with
 | nx e=>exact h2
 | rt r=>exact ⟨_,rfl,h2⟩
 | bk e=>exact ⟨_,rfl,h2⟩
 | ct e=>exact ⟨_,rfl,h2⟩
theorem wD (h:g env=.ok r) (h2:toS r=.ok x) (k:Q (.nx (env.set i (some x)))):Wp (aG i g env) Q:=⟨_,by show (g env >>= _)=_;rw [h,aY,h2];rfl,k⟩
theorem cA (h:g env=.ok r) (h2:toS r=.ok x) (k:Wp (u (env.set i (some x))) Q):Wp (aq (aG i g) u env) Q:=b6 (wD h h2 k)
theorem bX (h:g env=.ok r) (h2:rF r=.ok r') (k:Q (.rt r')):Wp (aE g env) Q:=⟨_,yG h h2,k⟩
theorem fM (k:Q (.nx env)):Wp (aU env) Q:=⟨_,rfl,k⟩
theorem Mv (k:Wp (u env) Q):Wp (aq aU u env) Q:=b6 (fM k)
theorem jW (h:b env=.ok true) (k:Wp (t env) Q):Wp (aJ b t u env) Q:=by rw [p_ h];exact k
theorem jN (h:b env=.ok false) (k:Wp (u env) Q):Wp (aJ b t u env) Q:=by rw [kM h];exact k
theorem jc (h:b env=.ok c) (k1:c=true->Wp (t env) Q) (k2:c=false->Wp (u env) Q):Wp (aJ b t u env) Q:=by
 cases c with
 | true=>exact jW h (k1 rfl)
 | false=>exact jN h (k2 rfl)
theorem Mu {v:G O}(h:b env=.ok false) (k:Wp (aq u v env) Q):Wp (aq (aJ b t u) v env) Q:=by
 have:aq (aJ b t u) v env=aq u v env:=by unfold aq;rw [kM h]
 rw [this];exact k
theorem yH {v:G O}(h:b env=.ok false) (k:Wp (v env) Q):Wp (aq (aJ b t aU) v env) Q:=Mu h (Mv k)
theorem E5 {xs:List D}(h0:env[i]?=some (some (.own xs))) (h:g env=.ok r) (h2:toD r=.ok d) (hl:xs.length<=1000) (k:Q (.nx (env.set i (some (.own (xs++[d])))))):Wp (dW i g env) Q:=by refine ⟨_,?_,k⟩;unfold dW;rw [h0];show (g env >>= _)=_;rw [h,aY,h2,aY,if_pos (Nat.lt_of_le_of_lt hl (by decide))]
theorem KW {gi:G (List D)}(h:gi env=.ok ds) (k:Wp (eu tg u ds env) Q):Wp (gI gi tg u env) Q:=by rw [kK h];exact k
theorem nI {gi:G (List D)}{v:G O}(h:gi env=.ok ds) (k:Wp (eu tg t ds env) λo=>match o with
 | .nx e=>Wp (v e) Q
 | o=>Q o):Wp (aq (gI gi tg t) v env) Q:=b6 (KW h k)
theorem tY {tg:GT}(I:Nat->Ev->Prop) (ds:List D) (h0:I 0 env) (step:∀(k:Nat) (hk:k < ds.length) (env:Ev),I k env->∃e,tg ds[k] env=.ok e/\Wp (u e) λo=>∃e,o=.nx e/\I (k + 1) e)
  (k:∀e,I ds.length e->Q (.nx e)):Wp (eu tg u ds env) Q:=by
 have key:∀(es:List D) (i:Nat) (env:Ev),ds.drop i=es->i<=ds.length->I i env->Wp (eu tg u es env) Q:=by
  intro es
  induction es with
  | nil=>
   intro i env hd hi hI;have:i=ds.length:=by have:=congrArg Rp hd;rw [QX] at this;simp at this;omega
   subst this;exact ⟨_,rfl,k _ hI⟩
  | cons d es ih=>
   intro i env hd hi hI;have hlt:i < ds.length:=by have:=congrArg Rp hd;rw [QX] at this;simp at this;omega
   have e1:=Ry hlt;rw [hd] at e1;obtain ⟨q1,q2⟩:=Rb e1;obtain ⟨e,h1,_,h2,e2,rfl,h3⟩:=step i hlt env hI;unfold eu;rw [q1,h1,aY,h2,aY];exact ih (i + 1) e2 q2.symm (by omega) h3
 exact key ds 0 env rfl (QG _) h0
theorem n1 {f:List R->M R}(hx:g env=.ok x) (hf:f [x]=.ok z):gN f (ah g ak) env=.ok z:=AW hx hf
theorem two {f:R->R->M R}{h:G R}{x y z:R}(hx:g env=.ok x) (hy:h env=.ok y) (hf:f x y=.ok z):g2 f g h env=.ok z:=by show (g env >>= _)=_;rw [hx,aY,hy,aY,hf]
theorem c1 {F:List S->M R}(hx:g env=.ok x) (hF:F [bh x]=.ok z):gN (au 1 F) (ah g ak) env=.ok (bA z):=by show (ah g ak env >>= _)=_;unfold ah ak;rw [hx];show (match F [bh x] with | .ok r=>M.ok (bA r) | _=>M.bad)=_;rw [hF]
theorem c2 {F:List S->M R}{h:G R}(hx:g env=.ok x) (hy:h env=.ok y) (hF:F [bh x,bh y]=.ok z):gN (au 2 F) (ah g (ah h ak)) env=.ok (bA z):=by show (ah g (ah h ak) env >>= _)=_;unfold ah ak;rw [hx,hy];show (match F [bh x,bh y] with | .ok r=>M.ok (bA r) | _=>M.bad)=_;rw [hF]
theorem c3 {F:List S->M R}{h k:G R}(hx:g env=.ok x) (hy:h env=.ok y) (hw:k env=.ok w) (hF:F [bh x,bh y,bh w]=.ok z):gN (au 3 F) (ah g (ah h (ah k ak))) env=.ok (bA z):=by show (ah g (ah h (ah k ak)) env >>= _)=_;unfold ah ak;rw [hx,hy,hw];show (match F [bh x,bh y,bh w] with | .ok r=>M.ok (bA r) | _=>M.bad)=_;rw [hF]
theorem c4 {F:List S->M R}{h k l:G R}(hx:g env=.ok x) (hy:h env=.ok y) (hw:k env=.ok w) (hv:l env=.ok v) (hF:F [bh x,bh y,bh w,bh v]=.ok z):gN (au 4 F) (ah g (ah h (ah k (ah l ak)))) env=.ok (bA z):=by show (ah g (ah h (ah k (ah l ak))) env >>= _)=_;unfold ah ak;rw [hx,hy,hw,hv];show (match F [bh x,bh y,bh w,bh v] with | .ok r=>M.ok (bA r) | _=>M.bad)=_;rw [hF]
theorem ID {gi:G (List D)}{tg:GT}{ge:G R}{gts:G Bool}{α:Type}{xs:List α}{h:α->D}(o:α->Ev) (p:α->Bool) (f:α->D) (hi:gi env=.ok (xs.map h)) (hl:xs.length<=1000000)
 (ho:∀x,(o x).length=n) (ht:∀x (e:Ev),e.length=n->tg (h x) (e++cE 0 cap env)=.ok (o x++cE 0 cap env))
 (hb:∀x∈xs,gts (o x++cE 0 cap env)=.ok (p x)/\(p x=true->∃r,ge (o x++cE 0 cap env)=.ok r/\toD r=.ok (f x))):bC n cap gi tg gts ge env=.ok (.l .fresh ((xs.filter p).map f)):=by
 have key:∀(es:List α) (x:Ev),x.length=n->(∀d∈es,d∈xs)->dR tg gts ge (es.map h) (x++cE 0 cap env)=.ok ((es.filter p).map f):=by
  intro es
  induction es with
  | nil=>exact λ_ _ _=>rfl
  | cons d es ih=>
   intro x hx hm;obtain ⟨h0,h1⟩:=hb d (hm d P0);have ih:=ih (o d) (ho d) λe he=>hm e (Py _ he);rw [Qh];unfold dR;rw [ht d x hx,aY,h0,aY];cases q:p d with
   | true=>
    obtain ⟨r,h1,h2⟩:=h1 q;rw [if_pos rfl,h1,aY,h2,aY,ih,List.filter_cons_of_pos q];rfl
   | false=>
    rw [if_neg (by decide),List.filter_cons_of_neg (by simp [q])];exact ih
 unfold bC;rw [hi,aY,if_pos (by rw [Qw,Pj];omega)];show (dR tg gts ge _ (Qe n none++cE 0 cap env) >>= _)=_;rw [key xs _ QE λ_ h=>h];rfl
theorem v_ {α:Type}(xs:List α):xs.filter (λ_=>true)=xs:=List.filter_eq_self.mpr λ_ _=>rfl
theorem AG {gi:G (List D)}{ge:G R}{gts:G Bool}{α:Type}{xs:List α}{h:α->D}(p:α->Bool) (f:α->D) (hi:gi env=.ok (xs.map h)) (hl:xs.length<=1000000)
 (hb:∀x∈xs,gts (some (.d (h x))::cE 0 cap env)=.ok (p x)/\(p x=true->∃r,ge (some (.d (h x))::cE 0 cap env)=.ok r/\toD r=.ok (f x))):bC 1 cap gi (aF 0) gts ge env=.ok (.l .fresh ((xs.filter p).map f)):=
 ID (λx=>[some (.d (h x))]) p f hi hl (λ_=>rfl) (λ_ e he=>match e,he with | [_],_=>rfl) hb
theorem qX {gi:G (List D)}{ge:G R}{α:Type}{xs:List α}{h:α->D}(f:α->D) (hi:gi env=.ok (xs.map h)) (hl:xs.length<=1000000)
 (hb:∀x∈xs,∃r,ge (some (.d (h x))::cE 0 cap env)=.ok r/\toD r=.ok (f x)):bC 1 cap gi (aF 0) dc ge env=.ok (.l .fresh (xs.map f)):=by
 have:=AG (gts:=dc) (λ_=>true) f hi hl λx hx=>⟨rfl,λ_=>hb x hx⟩
 rwa [v_] at this
theorem IE {gi:G (List D)}{ge:G R}{gts:G Bool}{α:Type}{xs:List α}(a b:α->D) (p:α->Bool) (f:α->D) (hi:gi env=.ok (xs.map λx=>.tup [a x,b x])) (hl:xs.length<=1000)
 (h:∀x∈xs,gts (some (.d (a x))::some (.d (b x))::cE 0 cap env)=.ok (p x)/\(p x=true->∃r,ge (some (.d (a x))::some (.d (b x))::cE 0 cap env)=.ok r/\toD r=.ok (f x))):bC 2 cap gi (cS 2 (bq (aF 0) (bq (aF 1) cK))) gts ge env=.ok (.l .fresh ((xs.filter p).map f)):=
 ID (λx=>[some (.d (a x)),some (.d (b x))]) p f hi (by omega) (λ_=>rfl) (λ_ e he=>match e,he with | [_,_],_=>rfl) h
theorem we {gi:G (List D)}{ge:G R}{α:Type}{xs:List α}(a b:α->D) (f:α->D) (hi:gi env=.ok (xs.map λx=>.tup [a x,b x])) (hl:xs.length<=1000)
 (h:∀x∈xs,∃r,ge (some (.d (a x))::some (.d (b x))::cE 0 cap env)=.ok r/\toD r=.ok (f x)):bC 2 cap gi (cS 2 (bq (aF 0) (bq (aF 1) cK))) dc ge env=.ok (.l .fresh (xs.map f)):=by
 have:=IE (gts:=dc) a b (λ_=>true) f hi hl λx hx=>⟨rfl,λ_=>h x hx⟩
 rwa [v_] at this
theorem JZ (n:Nat):eg 0 n=(Qc n).map dN:=by simp [eg]
theorem Mt {gs:G (List R)}{n:Nat}(hg:gs env=.ok [.d (.int (n:Int))]) (h:n<=1000):dJ gs env=.ok ((Qc n).map dN):=by rw [Eo hg h,JZ]
theorem u6 (h:g env=.ok x):ah g ak env=.ok [x]:=by show (g env >>= _)=_;rw [h];rfl
theorem eG:aC env=.ok []:=rfl
theorem bY {gs:G (List D)}(h:g env=.ok r) (h2:toD r=.ok d) (k:gs env=.ok ds):aj g gs env=.ok (d::ds):=by show (g env >>= _)=_;rw [h,aY,h2,aY,k];rfl
theorem jf {gs:G (List D)}{ds:List D}(h:gs env=.ok ds) (hl:ds.length<=1000):c9 gs env=.ok (.d (.tup ds)):=by show (gs env >>= _)=_;rw [h,aY,if_pos (gS hl)]
theorem mw {gs:G (List D)}{ds:List D}(h:gs env=.ok ds) (hl:ds.length<=1000):cT gs env=.ok (.l .fresh ds):=by show (gs env >>= _)=_;rw [h,aY,if_pos (gS hl)]
theorem wA (h:g env=.ok r) (h2:toD r=.ok d) (h3:tg d env=.ok e) (k:Q (.nx e)):Wp (iL tg g env) Q:=⟨_,by show (g env >>= _)=_;rw [h,aY,h2,aY,h3];rfl,k⟩
theorem nG (h:g env=.ok r) (h2:toD r=.ok d) (h3:tg d env=.ok e) (k:Wp (u e) Q):Wp (aq (iL tg g) u env) Q:=b6 (wA h h2 h3 k)
theorem KI (neg:Bool) (x y:R) (h:dep x.dat<=60) (hx:dep y.dat<=60):cJ neg x y=.ok (.d (.bl (if neg then !eo x.dat y.dat else eo x.dat y.dat))):=by unfold cJ;rw [if_pos ⟨h,hx⟩]
theorem pX:∀{xs:List D},(∀x∈xs,dep x<=n)->deps xs<=n
 | [],_=>QG _
 | x::xs,h=>by have h1:=h x P0;have h2:=pX (xs:=xs) λy hy=>h y (Py _ hy);simp only [deps];omega
theorem II (xs:List (Nat×Nat)):deps (xs.map dP)<=60:=pX λx hx=>by obtain ⟨k,_,rfl⟩:=Pn.mp hx;exact (by decide:(1:Nat)<=60)
end
end WP
namespace K51
open PySem DL
end K51
namespace K51
open PySem DL K01 WP
end K51
namespace K51
open PySem DL K01 WP
end K51
namespace K51
open PySem DL K01 WP
end K51
namespace K52
open PySem DL
end K52
namespace K52
open PySem DL K01 WP K51
variable {P:D->Prop}
end K52
namespace DL
open PySem PySem.Spec PyProof.Rows L2 DX
end DL
namespace DL
open PySem PySem.Spec PyProof.Rows L2 ST
end DL
namespace DL
open PySem PySem.Spec PyProof.Rows L2 DX
end DL
namespace DL
open PySem PySem.Spec PyProof.Rows L2 ST DX
end DL
namespace K55
open PySem DL
end K55
namespace K55
open PySem DL K01 WP K51 K52
end K55
namespace K23
open PySem DL
end K23
namespace K23
open PySem DL K01 WP K51 K52 K55
section
variable {env:Ev}{Q:O->Prop}{g:G R}{t:G O}{r:R}{i:Nat}
theorem E6 {xs ys:List D}(h0:env[i]?=some (some (.own xs))) (h:g env=.ok r) (h2:jE r=.ok ys) (hl:xs.length + ys.length<=16777216) (k:Q (.nx (env.set i (some (.own (xs++ys)))))):Wp (uw i g env) Q:=by refine ⟨_,?_,k⟩;unfold uw;rw [h0];show (g env >>= _)=_;rw [h,aY,h2,aY,if_pos (by rw [Qw];exact hl)]
end
end K23
namespace K05
open PySem PySem.Spec PyProof.Rows DL K01 WP PySem.Builtin PySem.Builtin.Str
noncomputable abbrev fg (n:Nat):Str:=yT n
noncomputable def pw (p:Nat×Nat):Str:=dg [fg p.1,"-",fg p.2]
noncomputable def dG (r:Str×List Nat):Str:=RD " " (dg [r.1,":"]::r.2.map fg)
noncomputable def dQ (r:Str×List (Nat×Nat)):Str:=RD " " (dg [r.1,">"]::r.2.map pw)
noncomputable def wP (w:Wd):List Str:=fg w.m::(w.ms.map dG++w.ar.map dQ)
noncomputable def bN (w:Wd):Str:=RD "; " (wP w)
theorem fW {n:Nat}(h:n<=8):cs (fg n)=[48 + n]:=by
 have:∀n:Fin 9,cs (fg n.val)=[48 + n.val]:=by decide +kernel
 exact this ⟨n,by omega⟩
theorem gA {n:Nat}(h:n<=8):(fg n).length=1:=by rw [<-bF,fW h];rfl
theorem iy (x y:Str):cs (x++y)=cs x++cs y:=by show (x.cps++y.cps).toList=_;simp
theorem len_app (x y:Str):(x++y).length=x.length + y.length:=by rw [<-bF,iy,Pu,bF,bF]
theorem fG:∀l:List Str,cs (dg l)=(l.map cs).flatten
 | []=>rfl
 | x::l=>by show cs (x++dg l)=_;rw [iy,fG l];rfl
theorem yx {p:Nat×Nat}(h1:p.1<=8) (h2:p.2<=8):(pw p).length=3:=by rw [<-bF,pw,fG];show (cs (fg p.1)++(cs "-"++(cs (fg p.2)++[]))).length=3;rw [fW h1,fW h2];rfl
theorem zU {y:Str}{l:List Str}{n:Nat}(hn:∀x∈l,x.length + y.length<=n) (h:l.length * n<=sizeLine):XD y l=true:=by
 unfold XD;have key:∀(l:List Str) (a:Nat),(∀x∈l,x.length + y.length<=n)->l.foldl (λb x=>b + x.length + y.length) a<=a + l.length * n:=λl=>by
  induction l with
  | nil=>intro a _;simp
  | cons x l ih=>
   intro a hx;rw [Sd];have:=ih (a + x.length + y.length) λz hz=>hx z (Py _ hz);have h1:=hx x (by simp);rw [P4,Xe,Xf];omega
 have k:=key l 0 hn;have e:l.toArray.foldl (λb x=>b + x.length + y.length) 0=l.foldl (λb x=>b + x.length + y.length) 0:=by simp
 rw [e];show (!decide (_ > sizeLine))=true;rw [SG,decide_eq_false_iff_not];omega
theorem jw {m:Md}{go ga:G R}{env:Ev}{y:Str}{ts:List Str}(h1:go env=.ok (.d (.str y))) (h2:ga env=.ok (.l m (ts.map .str))) (h:XD y ts=true):gZ go ga env=.ok (.d (.str (RD y ts))):=by
 have a:(ts.map D.str).all rm=true:=by rw [PF];intro d hd;obtain ⟨t,_,rfl⟩:=Pn.mp hd;rfl
 have u:(ts.map D.str).map yU=ts:=by rw [PY];exact List.map_id ts
 show (go env >>= _)=_;rw [h1];show (ga env >>= EW y)=_;rw [h2];show (if ((ts.map D.str).all rm && XD y ((ts.map D.str).map yU))=true then M.ok (R.d (.str (RD y ((ts.map D.str).map yU)))) else .bad)=_;rw [a,u,h];rfl
theorem LM {env:Ev}{g:G R}{x y:Str}(h:g env=.ok (.d (.str x))) (hx:x.length<=1000) (hy:y.length<=1000):zO (jF g (jC y o8)) env=.ok (.d (.str (dg [x,y]))):=by show (g env >>= λr=>tU r >>= λy'=>jC y o8 env >>= λys=>M.ok (y'::ys)) >>= _=_;rw [h];show ((if x.length<=1000 then M.ok x else .bad) >>= λy'=>(if y.length<=1000 then _ else _) >>= _) >>= _=_;rw [if_pos hx,if_pos hy];rfl
theorem FL {n:Nat}(h:n<=8):tU (.d (.int n))=.ok (fg n):=by
 have:∀n:Fin 9,tU (.d (.int (n.val:Nat)))=.ok (fg n.val):=by
  intro n;show (if _ then M.ok (yT (n.val:Nat)) else _)=_;have b:∀n:Fin 9,below 1606938044258990275541962092341162602522202993782792835301376 (n.val:Nat)=true:=by decide +kernel
  rw [if_pos ⟨b n,by rw [gA (by omega)];omega⟩]
 exact this ⟨n,by omega⟩
theorem kG {n:Nat}(h:n<=8):i_ [.d (.int n)]=.ok (.d (.str (fg n))):=by
 have:∀n:Fin 9,below 1606938044258990275541962092341162602522202993782792835301376 (n.val:Nat)=true:=by decide +kernel
 show (if _ then _ else _)=_;rw [if_pos (this ⟨n,by omega⟩)]
theorem wc (xs ys:List D) (h:xs.length + ys.length<=1000):bO (.l .fresh xs) (.l .fresh ys)=.ok (.l .fresh (xs++ys)):=by rw [<-K02.IC xs ys h];rfl
theorem qk (n y:Str):(dg [n,y]).length=n.length + y.length:=by rw [<-bF,fG];show (cs n++(cs y++[])).length=_;rw [Ql,Pu,bF,bF]
theorem HW {n:Str}{m:Nat}{ps:List Nat}(hn:n.length<=100) (hm:m<=8) (hp:∀p∈ps,p<=8) (hl:ps.length<=100):jS [.d (.str n),.d (.tup (ps.map dN))]=.ok (.d (.str (dG (n,ps)))):=by
 refine gq (bX (r:=.d (.str (dG (n,ps)))) (jw (m:=.fresh) (ts:=dg [n,":"]::ps.map fg) rfl (two (x:=.l .fresh [.str (dg [n,":"])]) (y:=.l .fresh (ps.map λp=>.str (fg p))) (mw (bY (LM rfl (by omega) (by decide)) rfl eG) (QF 1 999)) (qX (xs:=ps) (h:=dN) (λp=>.str (fg p)) rfl (by omega) λp h=>⟨_,n1 rfl (kG (hp p h)),rfl⟩) ?_) ?_) rfl rfl)
 ·rw [wc _ _ (by simp;omega)];simp [PY,RN]
 ·refine zU (n:=200) (λx hx=>?_) ?_
  ·rcases Pp.mp hx with rfl | hx
   ·rw [qk];show n.length + 1 + 1<=200;omega
   ·obtain ⟨p,h,rfl⟩:=Pn.mp hx;rw [gA (hp p h)];decide
  ·rw [P4,Pj,Qw];omega
theorem MN {env:Ev}{a b:Nat}{g h:G R}(hg:g env=.ok (.d (.int a))) (hh:h env=.ok (.d (.int b))) (ha:a<=8) (hb:b<=8):zO (jF g (jC "-" (jF h o8))) env=.ok (.d (.str (pw (a,b)))):=by show (g env >>= λr=>tU r >>= λy'=>jC "-" (jF h o8) env >>= λys=>M.ok (y'::ys)) >>= _=_;rw [hg];show (tU (.d (.int a)) >>= λy'=>((h env >>= λr=>tU r >>= λy=>M.ok [y]) >>= λys=>M.ok (("-":Str)::ys)) >>= λys=>M.ok (y'::ys)) >>= _=_;rw [FL ha,hh];show (M.ok (fg a) >>= λy'=>((tU (.d (.int b)) >>= λy=>M.ok [y]) >>= λys=>M.ok (("-":Str)::ys)) >>= λys=>M.ok (y'::ys)) >>= _=_;rw [FL hb];rfl
theorem FQ {n:Str}{ps:List (Nat×Nat)}(hn:n.length<=100) (hp:∀p∈ps,p.1<=8/\p.2<=8) (hl:ps.length<=100):jB [.d (.str n),.d (.tup (ps.map dP))]=.ok (.d (.str (dQ (n,ps)))):=by
 refine gq (bX (r:=.d (.str (dQ (n,ps)))) (jw (m:=.fresh) (ts:=dg [n,">"]::ps.map pw) rfl (two (x:=.l .fresh [.str (dg [n,">"])]) (y:=.l .fresh (ps.map λp=>.str (pw p))) (mw (bY (LM rfl (by omega) (by decide)) rfl eG) (QF 1 999)) (we (xs:=ps) (λp=>dN p.1) (λp=>dN p.2) (λp=>.str (pw p)) rfl (by omega) λp h=>⟨_,MN rfl rfl (hp p h).1 (hp p h).2,rfl⟩) ?_) ?_) rfl rfl)
 ·rw [wc _ _ (by simp;omega)];simp [PY,RN]
 ·refine zU (n:=200) (λx hx=>?_) ?_
  ·rcases Pp.mp hx with rfl | hx
   ·rw [qk];show n.length + 1 + 1<=200;omega
   ·obtain ⟨p,h,rfl⟩:=Pn.mp hx;rw [yx (hp p h).1 (hp p h).2];decide
  ·rw [P4,Pj,Qw];omega
structure Sh (w:Wd):Prop where
 hi:w.m<=8
 ml:w.ms.length<=100
 al:w.ar.length<=100
 mn:∀r∈w.ms,r.1.length<=100/\r.2.length<=100/\∀p∈r.2,p<=8
 an:∀r∈w.ar,r.1.length<=100/\r.2.length<=100/\∀p∈r.2,p.1<=8/\p.2<=8
theorem l5 (y:Str):∀{l:List Str}{n:Nat},(∀x∈l,x.length + y.length<=n)->(RD y l).length<=l.length * n
 | [],n,_=>by show (0:Nat)<=_;omega
 | [x],n,h=>by have:=h x (by simp);show x.length<=_;simp;omega
 | x::z::l,n,h=>by have ih:=l5 y (l:=z::l) (n:=n) λu hu=>h u (Py _ hu);have hx:=h x (by simp);rw [<-bF,fO] at ih ⊢;show (cs x++(cs y++jn (cs y) ((z::l).map cs))).length<=_;rw [Pu,Pu,bF,bF];rw [P4,Xe,Xf];omega
theorem B5 {r:Str×List Nat}(h:r.1.length<=100/\r.2.length<=100/\∀p∈r.2,p<=8):(dG r).length<=20200:=by
 have:=l5 " " (l:=dg [r.1,":"]::r.2.map fg) (n:=200) λx hx=>by
  rcases Pp.mp hx with rfl | hx
  ·rw [qk];show r.1.length + 1 + 1<=200;omega
  ·obtain ⟨p,hp,rfl⟩:=Pn.mp hx;rw [gA (h.2.2 p hp)];decide
 rw [P4,Pj] at this;show (RD _ _).length<=_;omega
theorem Br {r:Str×List (Nat×Nat)}(h:r.1.length<=100/\r.2.length<=100/\∀p∈r.2,p.1<=8/\p.2<=8):(dQ r).length<=20200:=by
 have:=l5 " " (l:=dg [r.1,">"]::r.2.map pw) (n:=200) λx hx=>by
  rcases Pp.mp hx with rfl | hx
  ·rw [qk];show r.1.length + 1 + 1<=200;omega
  ·obtain ⟨p,hp,rfl⟩:=Pn.mp hx;rw [yx (h.2.2 p hp).1 (h.2.2 p hp).2];decide
 rw [P4,Pj] at this;show (RD _ _).length<=_;omega
theorem FO {w:Wd}(h:Sh w):XD "; " (wP w)=true:=by
 refine zU (n:=20202) (λx hx=>?_) ?_
 ·show x.length + 2<=_;rcases Pp.mp hx with rfl | hx
  ·rw [gA h.hi];decide
  ·rcases P8.mp hx with hx | hx
   ·obtain ⟨r,hr,rfl⟩:=Pn.mp hx;have:=B5 (h.mn r hr);omega
   ·obtain ⟨r,hr,rfl⟩:=Pn.mp hx;have:=Br (h.an r hr);omega
 ·have:=h.ml;have:=h.al;rw [show (wP w).length=1 + (w.ms.length + w.ar.length) by simp [wP];omega,Qw];omega
theorem wJ {w:Wd}(h:Sh w):f9 [.d w.d]=.ok (.d (.str (bN w))):=by refine gq (nG (e:=[some (.d w.d),some (.d (.int w.m)),some (.d (.tup (w.ms.map b9))),some (.d (.tup (w.ar.map bZ))),none]) rfl rfl rfl (cA (r:=.l .fresh [.str (fg w.m)]) (x:=.own [.str (fg w.m)]) (mw (bY (n1 rfl (kG h.hi)) rfl eG) (QF 1 999)) rfl ?_));have hl:=h.ml;have hl2:=h.al;refine b6 (K23.E6 (xs:=[.str (fg w.m)]) (ys:=w.ms.map λr=>.str (dG r)) rfl (we (xs:=w.ms) (λr=>.str r.1) (λr=>.tup (r.2.map dN)) (λr=>.str (dG r)) rfl (by omega) λr hr=>⟨_,c2 rfl rfl (HW (m:=0) (h.mn r hr).1 (by omega) (h.mn r hr).2.2 (h.mn r hr).2.1),rfl⟩) rfl (by simp;omega) ?_);refine b6 (K23.E6 (xs:=[.str (fg w.m)]++w.ms.map λr=>.str (dG r)) (ys:=w.ar.map λr=>.str (dQ r)) rfl (we (xs:=w.ar) (λr=>.str r.1) (λr=>.tup (r.2.map dP)) (λr=>.str (dQ r)) rfl (by omega) λr hr=>⟨_,c2 rfl rfl (FQ (h.an r hr).1 (h.an r hr).2.2 (h.an r hr).2.1),rfl⟩) rfl (by simp;omega) ?_);refine bX (r:=.d (.str (bN w))) ?_ rfl rfl;refine jw (m:=.own) (ts:=wP w) rfl ?_ (FO h);show M.ok (R.l .own (([.str (fg w.m)]++w.ms.map λr=>.str (dG r))++w.ar.map λr=>.str (dQ r)))=_;unfold wP;simp [PY,RN]
theorem qZ:∀l:List Str,cs (RD "" l)=(l.map cs).flatten
 | []=>rfl
 | [x]=>by rw [fO];show cs x=cs x++[];simp
 | x::y::l=>by have ih:=qZ (y::l);rw [fO] at ih ⊢;show cs x++([]++jn _ ((y::l).map cs))=cs x++((y::l).map cs).flatten;rw [<-ih];rfl
theorem nh (y:List Nat) (p:List Nat):∀ps:List (List Nat),jn y (p::ps)=p++(ps.map (y++·)).flatten
 | []=>by show p=p++[];simp
 | q::r=>by show p++(y++jn y (q::r))=_;rw [nh y q r];simp
theorem fV {a b:Str}(h:a.length + b.length<=1000000):bO (.d (.str a)) (.d (.str b))=.ok (.d (.str (a++b))):=by show (if a.length + b.length<=sizeLine then M.ok (R.d (.str (a++b))) else .bad)=_;rw [if_pos (by rw [Qw];omega)]
theorem mk_eq (r:Str×List Nat):(r.1++":")++RD "" (r.2.map λp=>" "++fg p)=dG r:=by
 refine fD ?_;rw [iy,iy,qZ,dG,fO,Qh,nh,fG];have e:((r.2.map λp=>" "++fg p).map cs)=((r.2.map fg).map cs).map (cs " "++·):=by rw [PY,PY,PY];exact Q9 λp _=>iy " " (fg p)
 rw [e];simp
noncomputable def pD (p:Nat×Nat):Str:=((" "++fg p.1)++"-")++fg p.2
theorem KH (r:Str×List (Nat×Nat)):(r.1++">")++RD "" (r.2.map λp=>pD p)=dQ r:=by
 refine fD ?_;rw [iy,iy,qZ,dQ,fO,Qh,nh,fG];have e:((r.2.map λp=>pD p).map cs)=((r.2.map pw).map cs).map (cs " "++·):=by rw [PY,PY,PY];refine Q9 λp _=>?_;show cs (pD p)=cs " "++cs (pw p);rw [pD,iy,iy,iy,pw,fG];simp
 rw [e];simp
theorem BX {l:List Str}{n:Nat}(h:∀x∈l,x.length<=n):(RD "" l).length<=l.length * n:=l5 "" λx hx=>h x hx
theorem Mj:(" ":Str).length + 1<=1000000:=by have:(" ":Str).length=1:=rfl;omega
theorem Lp {env:Ev}{i j:Nat}{r:Str×List Nat}(h:r.1.length<=100/\r.2.length<=100/\∀p∈r.2,p<=8) (h1:aa i env=.ok (.d (.str r.1))) (h2:gy (aa j) env=.ok (r.2.map dN)):
  g2 bO (g2 bO (aa i) (gC (.str ":"))) (gZ (gC (.str "")) (bC 1 [] (gy (aa j)) (aF 0) dc (g2 bO (gC (.str " ")) (gN i_ (ah (aa 0) ak))))) env=.ok (.d (.str (dG r))):=by
 have l1:∀p∈r.2,(" "++fg p).length=2:=λp hp=>by rw [len_app,gA (h.2.2 p hp)];rfl
 have l2:=BX (l:=r.2.map λp=>" "++fg p) (n:=2) λx hx=>by obtain ⟨p,hp,rfl⟩:=Pn.mp hx;exact TN (l1 p hp)
 rw [Pj] at l2;have l3:(r.1++":").length=r.1.length + 1:=len_app _ _;rw [<-mk_eq];refine two (two h1 rfl (fV (by show r.1.length + 1<=_;omega))) (jw (m:=.fresh) (ts:=r.2.map λp=>" "++fg p) rfl ?_ (zU (n:=2) (λx hx=>?_) ?_)) (fV (by omega))
 ·rw [qX (xs:=r.2) (h:=dN) (λp=>.str (" "++fg p)) h2 (by omega) λp hp=>⟨_,two rfl (n1 rfl (kG (h.2.2 p hp))) (fV (by rw [gA (h.2.2 p hp)];exact Mj)),rfl⟩];simp [PY,RN]
 ·obtain ⟨p,hp,rfl⟩:=Pn.mp hx;exact TN (l1 p hp)
 ·rw [Pj,Qw];omega
theorem Ln {env:Ev}{i j:Nat}{r:Str×List (Nat×Nat)}(h:r.1.length<=100/\r.2.length<=100/\∀p∈r.2,p.1<=8/\p.2<=8) (h1:aa i env=.ok (.d (.str r.1))) (h2:gy (aa j) env=.ok (r.2.map dP)):
  g2 bO (g2 bO (aa i) (gC (.str ">"))) (gZ (gC (.str "")) (bC 2 [] (gy (aa j)) (cS 2 (bq (aF 0) (bq (aF 1) cK))) dc (g2 bO (g2 bO (g2 bO (gC (.str " ")) (gN i_ (ah (aa 0) ak))) (gC (.str "-"))) (gN i_ (ah (aa 1) ak))))) env=.ok (.d (.str (dQ r))):=by
 have a1:∀p∈r.2,(" "++fg p.1).length=2:=λp hp=>by rw [len_app,gA (h.2.2 p hp).1];rfl
 have a2:∀p∈r.2,((" "++fg p.1)++"-").length=3:=λp hp=>by rw [len_app,a1 p hp];rfl
 have l1:∀p∈r.2,(pD p).length=4:=λp hp=>by rw [pD,len_app,a2 p hp,gA (h.2.2 p hp).2]
 have l2:=BX (l:=r.2.map λp=>pD p) (n:=4) λx hx=>by obtain ⟨p,hp,rfl⟩:=Pn.mp hx;exact TN (l1 p hp)
 rw [Pj] at l2;have l3:(r.1++">").length=r.1.length + 1:=len_app _ _;have A:g2 bO (aa i) (gC (.str ">")) env=.ok (.d (.str (r.1++">"))):=two h1 rfl (fV (by show r.1.length + 1<=_;omega));have hz:(r.1++">").length + (RD "" (r.2.map λp=>pD p)).length<=1000000:=by omega
 rw [<-KH];refine two (y:=.d (.str (RD "" (r.2.map λp=>pD p)))) A ?_ (fV hz);refine jw (m:=.fresh) (ts:=r.2.map λp=>pD p) rfl ?_ (zU (n:=4) (λx hx=>?_) ?_)
 ·rw [we (xs:=r.2) (λp=>dN p.1) (λp=>dN p.2) (λp=>.str (pD p)) h2 (by omega) λp hp=>⟨_,two (two (two rfl (n1 rfl (kG (h.2.2 p hp).1)) (fV (by have:=gA (h.2.2 p hp).1;have:(" ":Str).length=1:=rfl;omega))) rfl (fV (by have:=a1 p hp;have:("-":Str).length=1:=rfl;omega))) (n1 rfl (kG (h.2.2 p hp).2)) (fV (by have:=a2 p hp;have:=gA (h.2.2 p hp).2;omega)),rfl⟩];simp [PY,RN]
 ·obtain ⟨p,hp,rfl⟩:=Pn.mp hx;have e1:=l1 p hp;have e2:("":Str).length=0:=rfl;omega
 ·rw [Pj,Qw];omega
theorem H_ {w:Wd}(h:Sh w):jR [.d w.d]=.ok (.d (.str (bN w))):=by
 have hl:=h.ml;have hl2:=h.al;refine gq (cA (r:=.l .fresh [.str (fg w.m)]) (x:=.own [.str (fg w.m)]) (mw (bY (n1 (two (x:=.d w.d) (y:=.d (.int 0)) (z:=.d (.int w.m)) rfl rfl rfl) (kG h.hi)) rfl eG) (QF 1 999)) rfl ?_);refine nI (ds:=w.ms.map b9) rfl (tY (λk e=>∃x y z,e=[some (.d w.d),some (.own (.str (fg w.m)::(w.ms.take k).map λr=>.str (dG r))),x,y,z]) _ ⟨_,_,_,rfl⟩ ?_ ?_)
 ·rintro k hk e ⟨x,y,z,rfl⟩;rw [Pj] at hk;rw [RE];refine ⟨[some (.d w.d),some (.own (.str (fg w.m)::(w.ms.take k).map λr=>.str (dG r))),some (.d (.str w.ms[k].1)),some (.d (.tup (w.ms[k].2.map dN))),z],rfl,?_⟩;refine E5 (d:=.str (dG w.ms[k])) rfl (Lp (h.mn _ (Qz hk)) rfl rfl) rfl (by simp;omega) ⟨_,rfl,some (.d (.str w.ms[k].1)),some (.d (.tup (w.ms[k].2.map dN))),z,?_⟩;rw [QH hk,Qs];rfl
 ·rintro e ⟨x,y,z,rfl⟩;rw [Pj,Q_];refine nI (ds:=w.ar.map bZ) rfl (tY (λk e=>∃x y z,e=[some (.d w.d),some (.own ((.str (fg w.m)::w.ms.map λr=>.str (dG r))++(w.ar.take k).map λr=>.str (dQ r))),x,y,z]) _ ⟨x,y,z,by rw [List.take_zero,R0,Ql]⟩ ?_ ?_)
  ·rintro k hk e ⟨x,y,z,rfl⟩;rw [Pj] at hk;rw [RE];refine ⟨[some (.d w.d),some (.own ((.str (fg w.m)::w.ms.map λr=>.str (dG r))++(w.ar.take k).map λr=>.str (dQ r))),some (.d (.str w.ar[k].1)),y,some (.d (.tup (w.ar[k].2.map dP)))],rfl,?_⟩;refine E5 (d:=.str (dQ w.ar[k])) rfl (Ln (h.an _ (Qz hk)) rfl rfl) rfl (by simp;omega) ⟨_,rfl,some (.d (.str w.ar[k].1)),y,some (.d (.tup (w.ar[k].2.map dP))),?_⟩;rw [QH hk,Qs,<-SH];rfl
  ·rintro e ⟨x,y,z,rfl⟩;rw [Pj,Q_];refine bX (r:=.d (.str (bN w))) (jw (m:=.own) (ts:=wP w) rfl ?_ (FO h)) rfl rfl;show M.ok (R.l .own ((.str (fg w.m)::w.ms.map λr=>.str (dG r))++w.ar.map λr=>.str (dQ r)))=_;unfold wP;simp [PY,RN]
end K05
set_option maxHeartbeats 400000
namespace K05
open PySem PySem.Spec PyProof.Rows DL K01 WP PySem.Builtin PySem.Builtin.Str
theorem sO {r:Str×List Nat}(h:∀p∈r.2,p<=8):cs (dG r)=cs r.1++58::(r.2.map λp=>[32,48 + p]).flatten:=by
 rw [dG,fO,Qh,nh,fG];have e:((r.2.map fg).map cs).map (cs " "++·)=r.2.map λp=>[32,48 + p]:=by rw [PY,PY];refine Q9 λp hp=>?_;show cs " "++cs (fg p)=_;rw [fW (h p hp)];rfl
 rw [e];show (cs r.1++([58]++[]))++_=_;rw [Ql,SH];rfl
theorem rV {r:Str×List (Nat×Nat)}(h:∀p∈r.2,p.1<=8/\p.2<=8):cs (dQ r)=cs r.1++62::(r.2.map λp=>[32,48 + p.1,45,48 + p.2]).flatten:=by
 rw [dQ,fO,Qh,nh,fG];have e:((r.2.map pw).map cs).map (cs " "++·)=r.2.map λp=>[32,48 + p.1,45,48 + p.2]:=by rw [PY,PY];refine Q9 λp hp=>?_;show cs " "++cs (pw p)=_;rw [pw,fG];show cs " "++(cs (fg p.1)++(cs "-"++(cs (fg p.2)++[])))=_;rw [fW (h p hp).1,fW (h p hp).2];rfl
 rw [e];show (cs r.1++([62]++[]))++_=_;rw [Ql,SH];rfl
structure Lt (w:Wd):Prop where
 ms:∀r∈w.ms,∀c∈cs r.1,97<=c
 ar:∀r∈w.ar,∀c∈cs r.1,97<=c
theorem Mi {w:Wd}(h:Sh w) (l:Lt w):∀p∈wP w,59∉cs p:=by
 intro p hp hm;rcases Pp.mp hp with rfl | hp
 ·have:=h.hi;rw [fW h.hi,P1] at hm;omega
 ·rcases P8.mp hp with hp | hp
  ·obtain ⟨r,hr,rfl⟩:=Pn.mp hp;rw [sO (h.mn r hr).2.2] at hm;rcases P8.mp hm with hm | hm
   ·have:=l.ms r hr 59 hm;omega
   ·rcases Pp.mp hm with hm | hm
    ·omega
    ·obtain ⟨x,hx,hm⟩:=U4.mp hm;obtain ⟨q,hq,rfl⟩:=Pn.mp hx;have:=(h.mn r hr).2.2 q hq;simp only [Pp,P9,or_false] at hm;omega
  ·obtain ⟨r,hr,rfl⟩:=Pn.mp hp;rw [rV (h.an r hr).2.2] at hm;rcases P8.mp hm with hm | hm
   ·have:=l.ar r hr 59 hm;omega
   ·rcases Pp.mp hm with hm | hm
    ·omega
    ·obtain ⟨x,hx,hm⟩:=U4.mp hm;obtain ⟨q,hq,rfl⟩:=Pn.mp hx;have:=(h.an r hr).2.2 q hq;simp only [Pp,P9,or_false] at hm;omega
theorem nN {w:Wd}(h:Sh w) (l:Lt w):Q7 (bN w) "; "=wP w:=
 kY (c:=59) (ys:=[32]) rfl (by unfold wP;simp) (fO "; " (wP w)) (Mi h l)
theorem CP {ps:List Nat}(h:∀p∈ps,p<=8){x:Str}(hx:cs x=(ps.map λp=>[32,48 + p]).flatten):Q7 x " "=("":Str)::ps.map fg:=by
 refine kY (c:=32) (ys:=[]) rfl (by simp) ?_ ?_
 ·rw [hx,Qh,nh];have e:((ps.map fg).map cs).map (cs " "++·)=ps.map λp=>[32,48 + p]:=by rw [PY,PY];refine Q9 λp hp=>?_;show cs " "++cs (fg p)=_;rw [fW (h p hp)];rfl
  rw [e];rfl
 ·intro p hp hm;rcases Pp.mp hp with rfl | hp
  ·cases hm
  ·obtain ⟨q,hq,rfl⟩:=Pn.mp hp;rw [fW (h q hq),P1] at hm;omega
theorem CO {ps:List (Nat×Nat)}(h:∀p∈ps,p.1<=8/\p.2<=8){x:Str}(hx:cs x=(ps.map λp=>[32,48 + p.1,45,48 + p.2]).flatten):Q7 x " "=("":Str)::ps.map pw:=by
 have OG:∀p∈ps,cs (pw p)=[48 + p.1,45,48 + p.2]:=λp hp=>by rw [pw,fG];show cs (fg p.1)++(cs "-"++(cs (fg p.2)++[]))=_;rw [fW (h p hp).1,fW (h p hp).2];rfl
 refine kY (c:=32) (ys:=[]) rfl (by simp) ?_ ?_
 ·rw [hx,Qh,nh];have e:((ps.map pw).map cs).map (cs " "++·)=ps.map λp=>[32,48 + p.1,45,48 + p.2]:=by rw [PY,PY];refine Q9 λp hp=>?_;show cs " "++cs (pw p)=_;rw [OG p hp];rfl
  rw [e];rfl
 ·intro p hp hm;rcases Pp.mp hp with rfl | hp
  ·cases hm
  ·obtain ⟨q,hq,rfl⟩:=Pn.mp hp;have:=h q hq;rw [OG q hq] at hm;simp only [Pp,P9,or_false] at hm;omega
theorem qh {p:Nat×Nat}(h1:p.1<=8) (h2:p.2<=8):Pw (pw p) "-"=(fg p.1,("-":Str),fg p.2):=by
 refine mC (c:=45) (p:=fg p.1) (r:=fg p.2) ?_ ?_
 ·rw [pw,fG];show cs (fg p.1)++(cs "-"++(cs (fg p.2)++[]))=_;rw [Ql];rfl
 ·rw [fW h1,P1];omega
theorem GL {r:Str×List Nat}(h:∀p∈r.2,p<=8) (l:∀c∈cs r.1,97<=c):∃x,cs x=(r.2.map λp=>[32,48 + p]).flatten/\Pw (dG r) ":"=(r.1,(":":Str),x):=by refine ⟨⟨(r.2.map λp=>[32,48 + p]).flatten.toArray⟩,rfl,mC (c:=58) ?_ λhm=>by have:=l 58 hm;omega⟩;rw [sO h]
theorem GJ {r:Str×List (Nat×Nat)}(h:∀p∈r.2,p.1<=8/\p.2<=8) (l:∀c∈cs r.1,97<=c):∃x,cs x=(r.2.map λp=>[32,48 + p.1,45,48 + p.2]).flatten/\Pw (dQ r) ">"=(r.1,(">":Str),x):=by refine ⟨⟨(r.2.map λp=>[32,48 + p.1,45,48 + p.2]).flatten.toArray⟩,rfl,mC (c:=62) ?_ λhm=>by have:=l 62 hm;omega⟩;rw [rV h]
theorem rN {p:Nat}(h:p<=8):dh [.d (.str (fg p))]=.ok (.d (.int p)):=by
 match p,h with
 | 0,_=>with_unfolding_all rfl
 | 1,_=>with_unfolding_all rfl
 | 2,_=>with_unfolding_all rfl
 | 3,_=>with_unfolding_all rfl
 | 4,_=>with_unfolding_all rfl
 | 5,_=>with_unfolding_all rfl
 | 6,_=>with_unfolding_all rfl
 | 7,_=>with_unfolding_all rfl
 | 8,_=>with_unfolding_all rfl
theorem mP {F:List S->M R}{env:Ev}{g:G R}{x z:R}(hx:g env=.ok x) (hF:F [bh x]=.ok z):gN (dY 1 F) (ah g ak) env=.ok (bA z):=n1 hx (by
 show (if 1=1 then (match F [bh x] with
  | .ok r=>M.ok (bA r)
  | .exc x=>.exc x
  | .bad=>.bad) else .bad)=_
 rw [if_pos rfl,hF])
theorem g9 {go ga:G R}{env:Ev}{x y a s b:Str}(h1:go env=.ok (.d (.str x))) (h2:ga env=.ok (.d (.str y))) (hy:y.length≠0) (hx:x.length<=1000000) (h:Pw x y=(a,s,b)):p9 go ga env=.ok (.d (.tup [.str a,.str s,.str b])):=by show (go env >>= _)=_;rw [h1];show (ga env >>= rZ x)=_;rw [h2];show rZ x (.d (.str y))=_;unfold rZ;simp only;rw [if_pos (by simp [hy,hx]),h]
theorem LZ {p:Nat×Nat}(h1:p.1<=8) (h2:p.2<=8):iY [.d (.str (pw p))]=.ok (.d (dP p)):=by refine gq (nG (d:=.tup [.str (fg p.1),.str "-",.str (fg p.2)]) (e:=[some (.d (.str (pw p))),some (.d (.str (fg p.1))),some (.d (.str "-")),some (.d (.str (fg p.2)))]) (g9 rfl rfl (by decide) (by rw [yx h1 h2];omega) (qh h1 h2)) rfl rfl ?_);exact bX (r:=.d (dP p)) (jf (bY (mP rfl (rN h1)) rfl (bY (mP rfl (rN h2)) rfl eG)) (QF 2 998)) rfl rfl
theorem uu (x:D) (xs:List D):cutD (x::xs) (some 1) none=xs:=by
 have h:((x::xs).drop 1).take ((x::xs).length - 1)=xs:=by simp
 show ((x::xs).drop (HT.bM (x::xs).length 0 (some 1))).take (HT.bM (x::xs).length (x::xs).length none - HT.bM (x::xs).length 0 (some 1))=xs;have e1:HT.bM (x::xs).length 0 (some 1)=1:=by unfold HT.bM;simp
 have e2:HT.bM (x::xs).length (x::xs).length none=(x::xs).length:=rfl;rw [e1,e2];exact h
theorem nR {env:Ev}{j:Nat}{x z:Str}{ts:List Str}(h1:aa j env=.ok (.d (.str x))) (hx:x.length<=1000000) (h:Q7 x " "=z::ts):gy (dw eZ (fF (aa j) (gC (.str " "))) (dM (gC (.int 1))) dZ) env=.ok (ts.map .str):=by
 have e:fF (aa j) (gC (.str " ")) env=.ok (.l .fresh ((z::ts).map .str)):=by show (aa j env >>= _)=_;rw [h1];show r6 x (.d (.str " "))=_;unfold r6;simp only;rw [if_pos (by rw [Pr,decide_eq_true_eq];exact ⟨rfl,hx⟩),h]
 have e2:dw eZ (fF (aa j) (gC (.str " "))) (dM (gC (.int 1))) dZ env=.ok (.l .fresh (ts.map .str)):=by show (fF (aa j) (gC (.str " ")) env >>= _)=_;rw [e];show M.ok (R.l .fresh (cutD (.str z::ts.map .str) (some 1) none))=_;rw [uu]
 show (dw eZ (fF (aa j) (gC (.str " "))) (dM (gC (.int 1))) dZ env >>= _)=_;rw [e2];rfl
theorem kJ {α:Type}{f:α->List Nat}(hf:∀a,(f a).length<=4):∀l:List α,(l.map f).flatten.length<=l.length * 4
 | []=>by simp
 | a::l=>by have:=kJ hf l;have:=hf a;rw [Qh,List.flatten_cons,Pu,P4];omega
theorem KA {r:Str×List Nat}(h:r.1.length<=100/\r.2.length<=100/\∀p∈r.2,p<=8) (l:∀c∈cs r.1,97<=c):iX [.d (.str (dG r))]=.ok (.d (b9 r)):=by
 obtain ⟨x,hx,hp⟩:=GL h.2.2 l;have lx:x.length<=1000000:=by have:=kJ (f:=λp=>[32,48 + p]) (λ_=>by simp) r.2;rw [<-hx,bF] at this;omega
 refine gq (nG (d:=.tup [.str r.1,.str ":",.str x]) (e:=[some (.d (.str (dG r))),some (.d (.str r.1)),some (.d (.str ":")),some (.d (.str x))]) (g9 rfl rfl (by decide) (by have:=B5 h;omega) hp) rfl rfl ?_);refine bX (r:=.d (b9 r)) (jf (ds:=[.str r.1,.tup (r.2.map dN)]) (bY rfl rfl (bY (r:=.d (.tup (r.2.map dN))) (n1 (x:=.l .fresh (r.2.map dN)) ?_ ?_) rfl eG)) (QF 2 998)) rfl rfl
 ·have w:=nR (env:=[some (.d (.str (dG r))),some (.d (.str r.1)),some (.d (.str ":")),some (.d (.str x))]) (j:=3) rfl lx (CP h.2.2 hx);rw [PY] at w;exact qX (xs:=r.2) (h:=λp=>.str (fg p)) dN w (by omega) λp hp=>⟨_,mP rfl (rN (h.2.2 p hp)),rfl⟩
 ·rfl
theorem Kz {r:Str×List (Nat×Nat)}(h:r.1.length<=100/\r.2.length<=100/\∀p∈r.2,p.1<=8/\p.2<=8) (l:∀c∈cs r.1,97<=c):iu [.d (.str (dQ r))]=.ok (.d (bZ r)):=by
 obtain ⟨x,hx,hp⟩:=GJ h.2.2 l;have lx:x.length<=1000000:=by have:=kJ (f:=λp:Nat×Nat=>[32,48 + p.1,45,48 + p.2]) (λ_=>by simp) r.2;rw [<-hx,bF] at this;omega
 refine gq (nG (d:=.tup [.str r.1,.str ">",.str x]) (e:=[some (.d (.str (dQ r))),some (.d (.str r.1)),some (.d (.str ">")),some (.d (.str x))]) (g9 rfl rfl (by decide) (by have:=Br h;omega) hp) rfl rfl ?_);refine bX (r:=.d (bZ r)) (jf (ds:=[.str r.1,.tup (r.2.map dP)]) (bY rfl rfl (bY (r:=.d (.tup (r.2.map dP))) (n1 (x:=.l .fresh (r.2.map dP)) ?_ rfl) rfl eG)) (QF 2 998)) rfl rfl;have w:=nR (env:=[some (.d (.str (dQ r))),some (.d (.str r.1)),some (.d (.str ">")),some (.d (.str x))]) (j:=3) rfl lx (CO h.2.2 hx);rw [PY] at w;exact qX (xs:=r.2) (h:=λp=>.str (pw p)) dP w (by omega) λp hp=>⟨_,mP rfl (LZ (h.2.2 p hp).1 (h.2.2 p hp).2),rfl⟩
theorem oK {α:Type}{f:α->D}{Q:α->α->Prop}(tr:∀a b c,Q a b->Q b c->Q a c) (h:∀a b,ltB (f a) (f b)=true->Q a b):∀xs:List α,gj (xs.map f)=true->xs.Pairwise Q
 | [],_=>.nil
 | [a],_=>Th _ _
 | a::b::r,q=>by
  have q:(ltB (f a) (f b) && gj ((b::r).map f))=true:=q;rw [Pr] at q;have ih:=oK tr h (b::r) q.2;refine So.mpr ⟨λc hc=>?_,ih⟩;rcases Pp.mp hc with rfl | hc
  ·exact h _ _ q.1
  ·exact tr _ _ _ (h _ _ q.1) ((So.mp ih).1 c hc)
theorem yV:∀(xs:List Nat) (lo m:Nat),xs.Pairwise (· < ·)->(∀x∈xs,lo<=x/\x < m)->xs.length<=m - lo
 | [],_,_,_,_=>QG _
 | x::xs,lo,m,h,b=>by have h':=So.mp h;have:=yV xs (x + 1) m h'.2 λy hy=>⟨h'.1 y hy,(b y (Py _ hy)).2⟩;have:=b x P0;rw [P4];omega
theorem FH (a b c:Str) (h:a.cps.toList < b.cps.toList) (h2:b.cps.toList < c.cps.toList):a.cps.toList < c.cps.toList:=List.lt_trans h h2
theorem CW {α:Type}{f:Str×α->D}(hf:∀r,∃b,f r=.tup [.str r.1,b]){rs:List (Str×α)}(h:jP (.tup (rs.map f))=true):qC (rs.map Rz):=by
 have h:(decide ((rs.map f).length<=3) && ((rs.map f).all mz && gj ((rs.map f).map jM)))=true:=h;rw [Pr,Pr] at h;refine ⟨by have:=of_decide_eq_true h.1;simpa using this,λs hs=>?_,?_⟩
 ·obtain ⟨r,hr,rfl⟩:=Pn.mp hs;have:=PF.mp h.2.1 (f r) (Pn.mpr ⟨r,hr,rfl⟩);obtain ⟨b,e⟩:=hf r;rw [e] at this;exact this
 ·have e:(rs.map f).map jM=(rs.map Rz).map D.str:=by rw [PY,PY];refine Q9 λr hr=>?_;obtain ⟨b,e⟩:=hf r;show jM (f r)=.str r.1;rw [e];rfl
  have q:=h.2.2;rw [e] at q;exact oK (f:=D.str) FH (λa b h=>of_decide_eq_true h) _ q
theorem Cv {m:Nat}{ps:List Nat}(hm:m<=8) (h:gJ (ic m) (.tup (ps.map dN))=true):i6 m ps:=by
 have h:((ps.map dN).all (ic m) && gj (ps.map dN))=true:=h;rw [Pr] at h;have up:ps.Pairwise (· < ·):=oK (Q:=(· < ·)) (λ_ _ _=>Uu) (λa b h=>by
  have h:decide ((a:Int) < b)=true:=h;have:=of_decide_eq_true h;omega) _ h.2
 have lt:∀p∈ps,p < m:=λp hp=>by have:=PF.mp h.1 (dN p) (Pn.mpr ⟨p,hp,rfl⟩);have h:(decide ((0:Int)<=p) && decide ((p:Int) < m))=true:=this;rw [Pr] at h;have:=of_decide_eq_true h.2;omega
 refine ⟨?_,up,lt⟩;have:=yV ps 0 m up λx hx=>⟨QG _,lt x hx⟩;omega
theorem Cr {m:Nat}{ps:List (Nat×Nat)}(hm:m<=8) (h:gJ (iz m) (.tup (ps.map dP))=true):gY m ps:=by
 have h:((ps.map dP).all (iz m) && gj (ps.map dP))=true:=h;rw [Pr] at h;have up:ps.Pairwise sS:=oK (Q:=sS) (λa b c h1 h2=>by unfold sS at *;omega) (λa b h=>by
  have h:HT.lexLt [(a.1:Int),(a.2:Int)] [(b.1:Int),(b.2:Int)]=true:=h;unfold sS;rw [HT.nk,HT.nk,HT.oh] at h;split at h
  ·split at h
   ·cases h
   ·have:=of_decide_eq_true h;omega
  ·have:=of_decide_eq_true h;omega) _ h.2
 have lt:∀p∈ps,p.1 < m/\p.2 < m:=λp hp=>by have:=PF.mp h.1 (dP p) (Pn.mpr ⟨p,hp,rfl⟩);have h:((decide ((0:Int)<=p.1) && decide ((p.1:Int) < m)) && (decide ((0:Int)<=p.2) && decide ((p.2:Int) < m)))=true:=this;rw [Pr,Pr,Pr] at h;have h1:=of_decide_eq_true h.1.2;have h2:=of_decide_eq_true h.2.2;omega
 refine ⟨?_,up,lt⟩;have:=yV (ps.map λp=>p.1 * 8 + p.2) 0 64 (by
  rw [Rv];refine (XI (S:=λp q=>p.1 * 8 + p.2 < q.1 * 8 + q.2) fun {p q} hp hq h=>?_) up;have:=lt p hp;have:=lt q hq;unfold sS at h;omega) λx hx=>by obtain ⟨p,hp,rfl⟩:=Pn.mp hx;have:=lt p hp;exact ⟨QG _,by show p.1 * 8 + p.2 < 64;omega⟩
 simpa using this
theorem K8 {w:Wd}(h:mK w.d=true):w.Ok:=by have h:(decide ((1:Int)<=w.m) && (decide ((w.m:Int)<=8) && (jP (.tup (w.ms.map b9)) && (jP (.tup (w.ar.map bZ)) && ((w.ms.map b9).all (λd=>gJ (ic w.m) (iO d)) && (w.ar.map bZ).all (λd=>gJ (iz w.m) (iO d)))))))=true:=h;simp only [Pr] at h;obtain ⟨h1,h2,h3,h4,h5,h6⟩:=h;have h1:=of_decide_eq_true h1;have h2:=of_decide_eq_true h2;exact ⟨by omega,by omega,CW (λr=>⟨_,rfl⟩) h3,CW (λr=>⟨_,rfl⟩) h4,λr hr=>Cv (by omega) (PF.mp h5 (b9 r) (Pn.mpr ⟨r,hr,rfl⟩)),λr hr=>Cr (by omega) (PF.mp h6 (bZ r) (Pn.mpr ⟨r,hr,rfl⟩))⟩
structure Lo (w:Wd):Prop where
 ml:w.ms.length<=100000
 al:w.ar.length<=100000
 mn:∀r∈w.ms,r.1.length<=100000/\r.2.length<=100000
 an:∀r∈w.ar,r.1.length<=100000/\r.2.length<=100000
theorem yO {a b:D}(ha:K05N.Sm a) (hb:K05N.Sm b):K05N.Sm (.tup [a,b]):=.tup (by simp) λd hd=>by
 rcases Pp.mp hd with rfl | hd
 ·exact ha
 ·rw [P1.mp hd];exact hb
theorem tN {α:Type}{f:α->D}{xs:List α}(hl:xs.length<=100000) (h:∀x∈xs,K05N.Sm (f x)):K05N.Sm (.tup (xs.map f)):=.tup (by simpa using hl) λd hd=>by obtain ⟨x,hx,rfl⟩:=Pn.mp hd;exact h x hx
theorem HV {w:Wd}(h:Lo w):∃b,cF [.d w.d]=.ok (.d (.bl b))/\(b=true↔w.Ok):=by
 refine ⟨mK w.d,K05N.F2 _ (.tup (by simp) λd hd=>?_),λq=>K8 q,λq=>HN q⟩;simp at hd;rcases hd with rfl | rfl | rfl
 ·exact .int _
 ·exact tN h.ml λr hr=>yO (.str (h.mn r hr).1) (tN (h.mn r hr).2 λp _=>.int _)
 ·exact tN h.al λr hr=>yO (.str (h.an r hr).1) (tN (h.an r hr).2 λp _=>yO (.int _) (.int _))
theorem sP {x:Str}(h:fY x=true):x.length<=8/\∀c∈cs x,97<=c:=by
 refine ⟨qd h,λc hc=>?_⟩;unfold fY at h;rw [Pr,Pr,Pr] at h;have:=PF.mp h.2.2.2 c hc;unfold nj at this;refine WJ λlt=>?_;have key:∀k:Fin 97,nj k.val=false:=by decide +kernel
 have:=key ⟨c,lt⟩;unfold nj at this;simp_all
theorem Ok.sh {w:Wd}(h:w.Ok):Sh w:=by
 have a:=h.mn.1;have b:=h.an.1;rw [Pj] at a b;have hi:=h.hi;refine ⟨hi,by omega,by omega,λr hr=>?_,λr hr=>?_⟩
 ·have:=(sP (h.mn.2.1 r.1 (Pn.mpr ⟨r,hr,rfl⟩))).1;have q:=h.mp r hr;exact ⟨by omega,by have:=q.1;omega,λp hp=>by have:=q.2.2 p hp;omega⟩
 ·have:=(sP (h.an.2.1 r.1 (Pn.mpr ⟨r,hr,rfl⟩))).1;have q:=h.ap r hr;exact ⟨by omega,by have:=q.1;omega,λp hp=>by have:=q.2.2 p hp;omega⟩
theorem Ok.lt {w:Wd}(h:w.Ok):Lt w:=⟨λr hr=>(sP (h.mn.2.1 r.1 (Pn.mpr ⟨r,hr,rfl⟩))).2,λr hr=>(sP (h.an.2.1 r.1 (Pn.mpr ⟨r,hr,rfl⟩))).2⟩
noncomputable abbrev nW:Exc:=⟨"NoWorld",[],[]⟩
noncomputable def Wx {α:Type}(m:M α) (P:α->Prop):Prop:=m=.exc nW\/Wp m P
section
variable {α β:Type}{m:M α}{P P':α->Prop}{env:Ev}{t u:G O}{Q:O->Prop}{g:G R}
theorem Wx.bind {f:α->M β}{P:β->Prop}(h:Wx m λa=>Wx (f a) P):Wx (m >>= f) P:=by
 rcases h with h | ⟨a,h,k⟩
 ·exact .inl (by rw [h];rfl)
 ·rw [h];exact k
theorem Wx.mono (h:Wx m P) (k:∀a,P a->P' a):Wx m P':=h.imp id λh=>h.mono k
theorem Wx.ok {a:α}(h:m=.ok a) (p:P a):Wx m P:=.inr ⟨a,h,p⟩
theorem mO {P:R->Prop}(h:Wx (t env) λo=>∃r,o=.rt r/\P r):Wx (fin (t env)) P:=by
 rcases h with h | h
 ·exact .inl (by rw [h];rfl)
 ·exact .inr (tV h)
theorem iB (h:Wx (t env) λo=>∃e,o=.nx e/\Wx (u e) Q):Wx (aq t u env) Q:=Wx.bind (h.mono λo ⟨e,h,k⟩=>by subst h;exact k)
theorem yY {i:Nat}(h:Wx (g env) λr=>∃x,toS r=.ok x/\Wx (u (env.set i (some x))) Q):Wx (aq (aG i g) u env) Q:=
 iB (Wx.bind (h.mono λr ⟨x,h1,h2⟩=>.inr ⟨_,by rw [h1];rfl,_,rfl,h2⟩))
theorem t_ (h:Wx (g env) λr=>∃r',rF r=.ok r'/\Q (.rt r')):Wx (aE g env) Q:=Wx.bind (h.mono λr ⟨x,h1,h2⟩=>.inr ⟨_,by rw [h1];rfl,h2⟩)
theorem ua {gs:G (List D)}{Q:R->Prop}(h:Wx (gs env) λds=>ds.length<=1000/\Q (.d (.tup ds))):Wx (c9 gs env) Q:=Wx.bind (h.mono λds ⟨h1,h2⟩=>.inr ⟨_,by rw [if_pos (gS h1)],h2⟩)
theorem nS {gs:G (List D)}{Q:List D->Prop}(h:Wx (g env) λr=>∃d,toD r=.ok d/\Wx (gs env) λds=>Q (d::ds)):Wx (aj g gs env) Q:=Wx.bind (h.mono λr ⟨d,h1,h2⟩=>by
 rw [h1];show Wx (gs env >>= _) _;exact Wx.bind (h2.mono λds h=>.inr ⟨_,rfl,h⟩))
theorem lA {F:List S->M R}{x:R}{Q:R->Prop}(hx:g env=.ok x) (h:Wx (F [bh x]) λz=>Q (bA z)):Wx (gN (dY 1 F) (ah g ak) env) Q:=by
 rw [show gN (dY 1 F) (ah g ak) env=(match F [bh x] with
  | .ok r=>M.ok (bA r)
  | .exc x=>.exc x
  | .bad=>.bad) by
  show (ah g ak env >>= _)=_;rw [u6 hx];rfl]
 rcases h with h | ⟨a,h,k⟩
 ·exact .inl (by rw [h])
 ·exact .inr ⟨_,by rw [h],k⟩
theorem FP {f:List R->M R}{Q:R->Prop}(h:Wx (g env) λr=>∃z,f [r]=.ok z/\Q z):Wx (gN f (ah g ak) env) Q:=by
 rcases h with h | ⟨a,h,z,k1,k2⟩
 ·refine .inl ?_;show ((g env >>= _) >>= _)=_;rw [h];rfl
 ·exact .inr ⟨z,n1 h k1,k2⟩
theorem qm {gi:G (List D)}{gts:G Bool}{ge:G R}{f:α->D}{P:α->Prop}{ts:List D}(hi:gi env=.ok ts) (hl:ts.length<=1000000) (h:∀d∈ts,∃b,gts [some (.d d)]=.ok b/\(b=true->Wx (ge [some (.d d)]) λr=>∃a,r=.d (f a)/\P a)):
  Wx (bC 1 [] gi (aF 0) gts ge env) λr=>∃as:List α,r=.l .fresh (as.map f)/\(∀a∈as,P a)/\as.length<=ts.length:=by
 have key:∀(ts:List D) (x:Option S),(∀d∈ts,∃b,gts [some (.d d)]=.ok b/\(b=true->Wx (ge [some (.d d)]) λr=>∃a,r=.d (f a)/\P a))->Wx (dR (aF 0) gts ge ts [x]) λys=>∃as:List α,ys=as.map f/\(∀a∈as,P a)/\as.length<=ts.length:=λts=>by
  induction ts with
  | nil=>exact λx _=>.inr ⟨_,rfl,[],rfl,λ_ h=>(nomatch h),PJ _⟩
  | cons d ts ih=>
   intro x h;obtain ⟨b,h1,h2⟩:=h d P0;show Wx (gts [some (.d d)] >>= _) _;rw [h1];have ih:=ih (some (.d d)) λd hd=>h d (Py _ hd);cases b with
   | false=>exact ih.mono λys ⟨as,k1,k2,k3⟩=>⟨as,k1,k2,Nat.le_succ_of_le k3⟩
   | true=>
    show Wx (ge [some (.d d)] >>= _) _;refine Wx.bind ((h2 rfl).mono λr ⟨a,e,p⟩=>?_);subst e;show Wx (dR (aF 0) gts ge ts [some (.d d)] >>= _) _;exact Wx.bind (ih.mono λys ⟨as,k1,k2,k3⟩=>.inr ⟨_,rfl,a::as,by rw [k1];rfl,λz hz=>by
     rcases Pp.mp hz with rfl | hz
     ·exact p
     ·exact k2 z hz,Nat.succ_le_succ k3⟩)
 show Wx (gi env >>= _) _;rw [hi];show Wx (if ts.length<=sizeLine then _ else _) _;rw [if_pos (by rw [Qw];omega)];exact Wx.bind ((key ts none h).mono λys ⟨as,k1,k2⟩=>.inr ⟨_,rfl,as,by rw [k1],k2⟩)
theorem wH {b:G Bool}{c:Bool}(h:b env=.ok c) (k1:c=true->Wx (t env) Q) (k2:c=false->Wx (u env) Q):Wx (aJ b t u env) Q:=by
 cases c with
 | true=>rw [p_ h];exact k1 rfl
 | false=>rw [kM h];exact k2 rfl
theorem nU {x:Str}:Wx (kc "NoWorld" (aj (gC (.str x)) aC) env) Q:=.inl (by
 show (if 1<=sizeLine then M.exc nW else .bad)=_;rw [if_pos (by decide)])
end
theorem uB (x:Str) (fs:List Str):inD (.str x) (fs.map .str)=fs.any λw=>w == x:=by unfold inD;rw [Yg];congr 1
theorem Gn:[D.str "0",.str "1",.str "2",.str "3",.str "4",.str "5",.str "6",.str "7",.str "8"]=((Qc 9).map fg).map .str:=congrArg (List.map D.str) (show (["0","1","2","3","4","5","6","7","8"]:List Str)=(Qc 9).map fg by decide +kernel)
theorem kN (x:Str) (n:Nat):inD (.str x) (((Qc n).map fg).map .str)=true↔∃p,p < n/\x=fg p:=by
 rw [uB,U1];constructor
 ·rintro ⟨w,hw,e⟩;obtain ⟨p,hp,rfl⟩:=Pn.mp hw;exact ⟨p,Qt.mp hp,(eq_of_beq e).symm⟩
 ·rintro ⟨p,hp,rfl⟩;exact ⟨_,Pn.mpr ⟨p,Qt.mpr hp,rfl⟩,by simp⟩
theorem v7 (x:Str):Wx (dh [.d (.str x)]) λr=>∃p,p<=8/\r=.d (.int (p:Nat)):=by
 by_cases h:∃p,p<=8/\x=fg p
 ·obtain ⟨p,hp,rfl⟩:=h;exact Wx.ok (rN hp) ⟨p,hp,rfl⟩
 ·refine mO (iB (wH (c:=!inD (.str x) [.str "0",.str "1",.str "2",.str "3",.str "4",.str "5",.str "6",.str "7",.str "8"]) rfl (λ_=>nU) λq=>(h ?_).elim));rw [Gn,V_] at q;obtain ⟨p,h1,h2⟩:=(kN x 9).mp q;exact ⟨p,by omega,h2⟩
theorem Ih {x:Str}(hx:x.length<=1000000):Wx (iY [.d (.str x)]) λr=>∃p:Nat×Nat,r=.d (dP p):=by refine mO (iB (.inr (wA (d:=.tup [.str (Pw x "-").1,.str (Pw x "-").2.1,.str (Pw x "-").2.2]) (e:=[some (.d (.str x)),some (.d (.str (Pw x "-").1)),some (.d (.str (Pw x "-").2.1)),some (.d (.str (Pw x "-").2.2))]) (g9 rfl rfl (by decide) hx rfl) rfl rfl ⟨_,rfl,?_⟩)));refine t_ (ua (nS (lA rfl ((v7 _).mono λz ⟨p,hp,e⟩=>⟨.int p,by subst e;rfl,nS (lA rfl ((v7 _).mono λz ⟨q,hq,e⟩=>⟨.int q,by subst e;rfl,?_⟩))⟩))));exact .inr ⟨_,eG,by simp,_,rfl,_,rfl,(p,q),rfl⟩
theorem E3 (y:List Nat):∀{ps:List (List Nat)}{p:List Nat},p∈ps->p.length<=(jn y ps).length
 | [q],p,h=>by rw [P1.mp h];exact PJ _
 | q::r::s,p,h=>by
  show p.length<=(q++(y++jn y (r::s))).length;rw [Pu,Pu];rcases Pp.mp h with rfl | h
  ·omega
  ·have:=E3 y h;omega
theorem BY {y:List Nat}(hy:1<=y.length):∀ps:List (List Nat),ps.length<=(jn y ps).length + 1
 | []=>QG _
 | [q]=>by simp
 | q::r::s=>by have:=BY hy (r::s);show _<=(q++(y++jn y (r::s))).length + 1;rw [Pu,Pu,P4];omega
theorem kX {x y p:Str}(h:p∈Q7 x y):p.length<=x.length:=by
 have e:cs x=jn (cs y) ((Q7 x y).map cs):=by rw [<-fO,join_split]
 rw [<-bF,<-bF,e];exact E3 _ (Pn.mpr ⟨p,h,rfl⟩)
theorem iU {x y:Str}(hy:1<=y.length):(Q7 x y).length<=x.length + 1:=by
 have e:cs x=jn (cs y) ((Q7 x y).map cs):=by rw [<-fO,join_split]
 have:=BY (y:=cs y) (by rw [bF];exact hy) ((Q7 x y).map cs);rw [<-e,bF,Pj] at this;exact this
theorem kZ (x y:Str):∃z ts,Q7 x y=z::ts:=by
 have:0 < (Q7 x y).length:=by
  unfold Q7;split
  ·simp
  ·split
   ·simp
   ·rw [WU];omega
 cases h:Q7 x y with
 | nil=>rw [h] at this;cases this
 | cons z ts=>exact ⟨z,ts,rfl⟩
theorem xJ {c:Nat}:∀{l:List Nat},c∈l->∃a b,l=a++c::b/\c∉a
 | x::l,h=>by
  by_cases e:c=x
  ·exact ⟨[],l,by rw [e];rfl,P9⟩
  ·obtain ⟨a,b,h1,h2⟩:=xJ (l:=l) (by rcases Pp.mp h with h | h;exact (e h).elim;exact h);exact ⟨x::a,b,by rw [h1];rfl,λz=>by rcases Pp.mp z with z | z;exact e z;exact h2 z⟩
theorem zZ (x:Str) (c:Nat):(Pw x ⟨#[c]⟩).1.length<=x.length/\(Pw x ⟨#[c]⟩).2.2.length<=x.length:=by
 by_cases h:c∈cs x
 ·obtain ⟨a,b,h1,h2⟩:=xJ h;rw [mC (p:=⟨a.toArray⟩) (r:=⟨b.toArray⟩) h1 h2];rw [<-bF,<-bF,<-bF,h1];simp;omega
 ·rw [z_ h];exact ⟨PJ _,QG _⟩
theorem Ig {x:Str}(hx:x.length<=90000):Wx (iX [.d (.str x)]) λr=>∃q:Str×List Nat,r=.d (b9 q)/\q.1.length<=100000/\q.2.length<=100000:=by
 have pl:=zZ x 58;refine mO (iB (.inr (wA (d:=.tup [.str (Pw x ":").1,.str (Pw x ":").2.1,.str (Pw x ":").2.2]) (e:=[some (.d (.str x)),some (.d (.str (Pw x ":").1)),some (.d (.str (Pw x ":").2.1)),some (.d (.str (Pw x ":").2.2))]) (g9 rfl rfl (by decide) (by omega) rfl) rfl rfl ⟨_,rfl,?_⟩)));have pl:(Pw x ":").1.length<=x.length/\(Pw x ":").2.2.length<=x.length:=pl;generalize (Pw x ":").1=a at pl ⊢;generalize (Pw x ":").2.2=b at pl ⊢;obtain ⟨z,ts,hs⟩:=kZ b " ";have hc:=iU (x:=b) (y:=" ") (by decide);rw [hs,P4] at hc;refine t_ (ua (nS (Wx.ok rfl ⟨.str a,rfl,nS (FP ((qm (f:=dN) (P:=λ_=>True) (ts:=ts.map .str) (nR rfl (by omega) hs) (by rw [Pj];omega) λd hd=>?_).mono λr ⟨as,k1,k2,k3⟩=>?_))⟩)))
 ·obtain ⟨w,hw,rfl⟩:=Pn.mp hd;exact ⟨true,rfl,λ_=>lA rfl ((v7 w).mono λr ⟨p,hp,e⟩=>⟨p,by rw [e];rfl,trivial⟩)⟩
 ·subst k1;rw [Pj] at k3;exact ⟨.d (.tup (as.map dN)),rfl,.tup (as.map dN),rfl,.inr ⟨_,eG,by simp,_,rfl,_,rfl,(a,as),rfl,by show a.length<=_;omega,by show as.length<=_;omega⟩⟩
theorem F3 {x:Str}(hx:x.length<=90000):Wx (iu [.d (.str x)]) λr=>∃q:Str×List (Nat×Nat),r=.d (bZ q)/\q.1.length<=100000/\q.2.length<=100000:=by
 have pl:=zZ x 62;refine mO (iB (.inr (wA (d:=.tup [.str (Pw x ">").1,.str (Pw x ">").2.1,.str (Pw x ">").2.2]) (e:=[some (.d (.str x)),some (.d (.str (Pw x ">").1)),some (.d (.str (Pw x ">").2.1)),some (.d (.str (Pw x ">").2.2))]) (g9 rfl rfl (by decide) (by omega) rfl) rfl rfl ⟨_,rfl,?_⟩)));have pl:(Pw x ">").1.length<=x.length/\(Pw x ">").2.2.length<=x.length:=pl;generalize (Pw x ">").1=a at pl ⊢;generalize (Pw x ">").2.2=b at pl ⊢;obtain ⟨z,ts,hs⟩:=kZ b " ";have hc:=iU (x:=b) (y:=" ") (by decide);have hg:∀w∈ts,w.length<=b.length:=λw hw=>kX (y:=" ") (by rw [hs];exact Py _ hw);rw [hs,P4] at hc;refine t_ (ua (nS (Wx.ok rfl ⟨.str a,rfl,nS (FP ((qm (f:=dP) (P:=λ_=>True) (ts:=ts.map .str) (nR rfl (by omega) hs) (by rw [Pj];omega) λd hd=>?_).mono λr ⟨as,k1,k2,k3⟩=>?_))⟩)))
 ·obtain ⟨w,hw,rfl⟩:=Pn.mp hd;exact ⟨true,rfl,λ_=>lA rfl ((Ih (by have:=hg w hw;omega)).mono λr ⟨p,e⟩=>⟨p,by rw [e];rfl,trivial⟩)⟩
 ·subst k1;rw [Pj] at k3;exact ⟨.d (.tup (as.map dP)),rfl,.tup (as.map dP),rfl,.inr ⟨_,eG,by simp,_,rfl,_,rfl,(a,as),rfl,by show a.length<=_;omega,by show as.length<=_;omega⟩⟩
end K05
namespace K05
open PySem PySem.Spec PyProof.Rows DL K01 WP PySem.Builtin PySem.Builtin.Str PySem.StrLaws
theorem nL {go:G R}{env:Ev}{x y:Str}(h1:go env=.ok (.d (.str x))) (hx:x.length<=1000000) (hy:(y.length == 0)=false):fF go (gC (.str y)) env=.ok (.l .fresh ((Q7 x y).map .str)):=by show (go env >>= _)=_;rw [h1];show (if (!(y.length == 0) && decide (x.length<=1000000))=true then _ else _)=_;rw [if_pos (by rw [hy,decide_eq_true hx];rfl)]
theorem HA {tgs:nY}{g:G R}{env e:Ev}{z:D}{xs:List D}{Q:O->Prop}(h:g env=.ok (.l .fresh (z::xs))) (hl:xs.length<=16000) (ht:tgs [z,.lst xs] env=.ok e) (k:Q (.nx e)):Wp (sC tgs g env) Q:=by refine ⟨.nx e,?_,k⟩;show (g env >>= _)=_;rw [h];show (if xs.length<=16000 then _ else _)=_;rw [if_pos hl,ht];rfl
theorem xQ {t:Str}(ht:t.length<=15000){z:Str}{ts:List Str}(hs:Q7 t "; "=z::ts){Q:O->Prop}(k:Q (.nx [some (.d (.str t)),some (.d (.str z)),some (.d (.lst (ts.map .str))),none,none,none])):Wp (sC (bq (aF 1) (bq (aF 2) cK)) (fF (aa 0) (gC (.str "; "))) [some (.d (.str t)),none,none,none,none,none]) Q:=by have hc:=iU (x:=t) (y:="; ") (by decide);rw [hs,P4] at hc;refine HA (z:=.str z) (xs:=ts.map .str) ?_ (by rw [Pj];omega) rfl k;rw [nL (x:=t) rfl (by omega) rfl,hs];rfl
theorem F4 {t:Str}(ht:t.length<=15000):Wx (di [.d (.str t)]) λr=>∃w:Wd,r=.d w.d/\w.Ok/\bN w=t:=by
 obtain ⟨z,ts,hs⟩:=kZ t "; ";have hc:=iU (x:=t) (y:="; ") (by decide);have hg:∀w∈ts,w.length<=t.length:=λw hw=>kX (y:="; ") (by rw [hs];exact Py _ hw);rw [hs,P4] at hc;refine mO (iB (.inr (jN rfl (fM ⟨_,rfl,iB (.inr (xQ ht hs ⟨_,rfl,?_⟩))⟩))));refine yY ((qm (f:=b9) (P:=λq=>q.1.length<=100000/\q.2.length<=100000) (ts:=ts.map .str) rfl (by rw [Pj];omega) λd hd=>?_).mono λr ⟨ms,k1,k2,k3⟩=>?_)
 ·obtain ⟨w,hw,rfl⟩:=Pn.mp hd;exact ⟨_,rfl,λ_=>lA rfl ((Ig (by have:=hg w hw;omega)).mono λr ⟨q,e,h1⟩=>⟨q,by rw [e];rfl,h1⟩)⟩
 subst k1;rw [Pj] at k3;refine ⟨_,rfl,yY ((qm (f:=bZ) (P:=λq=>q.1.length<=100000/\q.2.length<=100000) (ts:=ts.map .str) rfl (by rw [Pj];omega) λd hd=>?_).mono λr ⟨ar,j1,j2,j3⟩=>?_)⟩
 ·obtain ⟨w,hw,rfl⟩:=Pn.mp hd;exact ⟨_,rfl,λ_=>lA rfl ((F3 (by have:=hg w hw;omega)).mono λr ⟨q,e,h1⟩=>⟨q,by rw [e];rfl,h1⟩)⟩
 subst j1;rw [Pj] at j3;refine ⟨_,rfl,yY (ua (nS (lA rfl ((v7 z).mono λr ⟨m,hm,e⟩=>⟨.int m,by subst e;rfl,?_⟩))))⟩;refine Wx.ok (bY (r:=.d (.tup (ms.map b9))) rfl rfl (bY (r:=.d (.tup (ar.map bZ))) rfl rfl eG)) ⟨by simp,_,rfl,?_⟩;have lo:Lo ⟨m,ms,ar⟩:=⟨by show ms.length<=_;omega,by show ar.length<=_;omega,k2,j2⟩;obtain ⟨b,hb,iff⟩:=HV lo;show Wx (aq _ _ [some (.d (.str t)),some (.d (.str z)),some (.d (.lst (ts.map .str))),some (.own (ms.map b9)),some (.own (ar.map bZ)),some (.d (Wd.d ⟨m,ms,ar⟩))]) _;have gb:aK (gN (au 1 cF) (ah (aa 5) ak)) [some (.d (.str t)),some (.d (.str z)),some (.d (.lst (ts.map .str))),some (.own (ms.map b9)),some (.own (ar.map bZ)),some (.d (Wd.d ⟨m,ms,ar⟩))]=.ok b:=by show (gN _ _ _ >>= _)=_;rw [c1 (x:=.d (Wd.d ⟨m,ms,ar⟩)) rfl hb];rfl
 by_cases ok:Wd.Ok ⟨m,ms,ar⟩
 ·have hb1:b=true:=iff.mpr ok;subst hb1;have gs:aK (g2 (cJ true) (gN (au 1 f9) (ah (aa 5) ak)) (aa 0)) [some (.d (.str t)),some (.d (.str z)),some (.d (.lst (ts.map .str))),some (.own (ms.map b9)),some (.own (ar.map bZ)),some (.d (Wd.d ⟨m,ms,ar⟩))]=.ok (!(bN ⟨m,ms,ar⟩ == t)):=by show (g2 _ _ _ _ >>= _)=_;rw [two (x:=.d (.str (bN ⟨m,ms,ar⟩))) (y:=.d (.str t)) (c1 (x:=.d (Wd.d ⟨m,ms,ar⟩)) rfl (wJ (Ok.sh ok))) rfl (K02.eq_str true _ _)];rfl
  refine iB (wH (c:=!(bN ⟨m,ms,ar⟩ == t)) ?_ (λ_=>nU) λq=>?_)
  ·show (aP _ _ >>= _)=_;rw [show aP (aK (gN (au 1 cF) (ah (aa 5) ak))) [some (.d (.str t)),some (.d (.str z)),some (.d (.lst (ts.map .str))),some (.own (ms.map b9)),some (.own (ar.map bZ)),some (.d (Wd.d ⟨m,ms,ar⟩))]=.ok false by show (aK _ _ >>= _)=_;rw [gb];rfl];exact gs
  ·refine .inr (fM ⟨_,rfl,t_ (Wx.ok rfl ⟨_,rfl,_,rfl,⟨m,ms,ar⟩,rfl,ok,?_⟩)⟩);rw [V_] at q;exact eq_of_beq q
 ·have hb1:b=false:=by
   cases b with
   | false=>rfl
   | true=>exact (ok (iff.mp rfl)).elim
  subst hb1;refine iB (wH (c:=true) ?_ (λ_=>nU) λq=>nomatch q);show (aP _ _ >>= _)=_;rw [show aP (aK (gN (au 1 cF) (ah (aa 5) ak))) [some (.d (.str t)),some (.d (.str z)),some (.d (.lst (ts.map .str))),some (.own (ms.map b9)),some (.own (ar.map bZ)),some (.d (Wd.d ⟨m,ms,ar⟩))]=.ok true by show (aK _ _ >>= _)=_;rw [gb];rfl];rfl
theorem Jv (x:Str) (c:Nat):(!(occurrences x ⟨#[c]⟩ 0 x.length 1).isEmpty)=decide (c∈cs x):=by
 rcases occ_head x ⟨#[c]⟩ 1 (PJ _) with ⟨h1,h2⟩ | ⟨i,rs,h1,h2,h3⟩
 ·rw [h1];refine (decide_eq_false λh=>?_).symm;obtain ⟨k,hk⟩:=List.mem_iff_getElem?.mp h;exact h2 k ((subAt_one x c k).mpr hk)
 ·rw [h1];exact (decide_eq_true (QK ((subAt_one x c i).mp h2))).symm
theorem rz {w:Wd}(h:w.Ok):(bN w).length<=5000:=by
 have a:=h.mn.1;have b:=h.an.1;rw [Pj] at a b;have nm:∀{x:Str},fY x=true->x.length<=8:=λh=>qd h;have:=l5 "; " (l:=wP w) (n:=300) λx hx=>by
  show x.length + 2<=300;rcases Pp.mp hx with rfl | hx
  ·rw [gA h.hi];decide
  ·rcases P8.mp hx with hx | hx
   ·obtain ⟨r,hr,rfl⟩:=Pn.mp hx;have n8:=nm (h.mn.2.1 r.1 (Pn.mpr ⟨r,hr,rfl⟩));have q:=kJ (f:=λp=>[32,48 + p]) (λ_=>by simp) r.2;have l8:=(h.mp r hr).1;rw [<-bF,sO ((Ok.sh h).mn r hr).2.2,Pu,P4,bF];omega
   ·obtain ⟨r,hr,rfl⟩:=Pn.mp hx;have n8:=nm (h.an.2.1 r.1 (Pn.mpr ⟨r,hr,rfl⟩));have q:=kJ (f:=λp:Nat×Nat=>[32,48 + p.1,45,48 + p.2]) (λ_=>by simp) r.2;have l8:=(h.ap r hr).1;rw [<-bF,rV ((Ok.sh h).an r hr).2.2,Pu,P4,bF];omega
 have e:(wP w).length=1 + (w.ms.length + w.ar.length):=by simp [wP];omega
 rw [e] at this;show (RD "; " (wP w)).length<=_;omega
theorem Gh {w:Wd}(h:w.Ok){r:Str×List Nat}(hr:r∈w.ms):58∈cs (dG r):=by rw [sO ((Ok.sh h).mn r hr).2.2];simp
theorem Gg {w:Wd}(h:w.Ok){r:Str×List (Nat×Nat)}(hr:r∈w.ar):58∉cs (dQ r):=by
 rw [rV ((Ok.sh h).an r hr).2.2];intro m;rcases P8.mp m with m | m
 ·have:=(Ok.lt h).ar r hr 58 m;omega
 ·rcases Pp.mp m with m | m
  ·cases m
  ·obtain ⟨x,hx,m⟩:=U4.mp m;obtain ⟨q,hq,rfl⟩:=Pn.mp hx;have:=((Ok.sh h).an r hr).2.2 q hq;simp only [Pp,P9,or_false] at m;omega
noncomputable abbrev Pt:=Sum (Str×List Nat) (Str×List (Nat×Nat))
noncomputable def sX:Pt->Str
 | .inl r=>dG r
 | .inr r=>dQ r
noncomputable def LR:Pt->D
 | .inl r=>b9 r
 | .inr _=>.non
noncomputable def LQ:Pt->D
 | .inl _=>.non
 | .inr r=>bZ r
noncomputable def sW:Pt->Bool
 | .inl _=>true
 | .inr _=>false
noncomputable def je (w:Wd):List Pt:=w.ms.map .inl++w.ar.map .inr
theorem Lk (w:Wd):(je w).map sX=w.ms.map dG++w.ar.map dQ:=by unfold je;rw [Qs,PY,PY];rfl
theorem Js {α:Type}(xs:List α):xs.filter (λ_=>false)=[]:=List.filter_eq_nil_iff.mpr λ_ _=>by decide
theorem Lj (w:Wd):((je w).filter sW).map LR=w.ms.map b9:=by unfold je;rw [Tg,Ui,Ui,Qs,PY,PY];rw [show (sW ∘ Va:Str×List Nat->Bool)=λ_=>true from rfl,show (sW ∘ Vb:Str×List (Nat×Nat)->Bool)=λ_=>false from rfl];rw [v_,Js,R0,Ql];rfl
theorem Li (w:Wd):((je w).filter λp=>!sW p).map LQ=w.ar.map bZ:=by unfold je;rw [Tg,Ui,Ui,Qs,PY,PY];rw [show ((λp=>!sW p) ∘ Va:Str×List Nat->Bool)=λ_=>false from rfl,show ((λp=>!sW p) ∘ Vb:Str×List (Nat×Nat)->Bool)=λ_=>true from rfl];rw [v_,Js];rfl
theorem G2 {w:Wd}(h:w.Ok):(je w).length<=6:=by have a:=h.mn.1;have b:=h.an.1;rw [Pj] at a b;unfold je;rw [Pu,Pj,Pj];omega
theorem Fp {w:Wd}(h:w.Ok){p:Pt}(hp:p∈je w):decide (58∈cs (sX p))=sW p:=by
 unfold je at hp;rcases P8.mp hp with hp | hp
 ·obtain ⟨r,hr,rfl⟩:=Pn.mp hp;exact decide_eq_true (Gh h hr)
 ·obtain ⟨r,hr,rfl⟩:=Pn.mp hp;exact decide_eq_false (Gg h hr)
theorem Bl {w:Wd}(h:w.Ok):di [.d (.str (bN w))]=.ok (.d w.d):=by
 have sh:=Ok.sh h;have hl:=rz h;have l6:=G2 h;have hs:Q7 (bN w) "; "=fg w.m::(je w).map sX:=by rw [nN sh (Ok.lt h),Lk];rfl
 refine gq (b6 (jN rfl (fM (b6 (xQ (by omega) hs ?_)))));refine cA (r:=.l .fresh (w.ms.map b9)) (x:=.own (w.ms.map b9)) ?_ rfl ?_
 ·rw [<-Lj];refine AG (xs:=je w) (h:=λp=>.str (sX p)) sW LR (by show M.ok (((je w).map sX).map D.str)=_;rw [PY];rfl) (by omega) λp hp=>⟨?_,λq=>?_⟩
  ·rw [<-Fp h hp,<-Jv];rfl
  ·cases p with
   | inl r=>
    have hr:r∈w.ms:=by
     unfold je at hp;rcases P8.mp hp with hp | hp
     ·obtain ⟨r',hr,e⟩:=Pn.mp hp;cases e;exact hr
     ·obtain ⟨r',hr,e⟩:=Pn.mp hp;cases e
    exact ⟨_,mP rfl (KA (sh.mn r hr) ((Ok.lt h).ms r hr)),rfl⟩
   | inr r=>cases q
 refine cA (r:=.l .fresh (w.ar.map bZ)) (x:=.own (w.ar.map bZ)) ?_ rfl ?_
 ·rw [<-Li];refine AG (xs:=je w) (h:=λp=>.str (sX p)) (λp=>!sW p) LQ (by show M.ok (((je w).map sX).map D.str)=_;rw [PY];rfl) (by omega) λp hp=>⟨?_,λq=>?_⟩
  ·rw [<-Fp h hp,<-Jv];rfl
  ·cases p with
   | inl r=>cases q
   | inr r=>
    have hr:r∈w.ar:=by
     unfold je at hp;rcases P8.mp hp with hp | hp
     ·obtain ⟨r',hr,e⟩:=Pn.mp hp;cases e
     ·obtain ⟨r',hr,e⟩:=Pn.mp hp;cases e;exact hr
    exact ⟨_,mP rfl (Kz (sh.an r hr) ((Ok.lt h).ar r hr)),rfl⟩
 refine cA (r:=.d w.d) (x:=.d w.d) (jf (bY (mP rfl (rN h.hi)) rfl (bY (r:=.d (.tup (w.ms.map b9))) rfl rfl (bY (r:=.d (.tup (w.ar.map bZ))) rfl rfl eG))) (QF 3 997)) rfl ?_;have lo:Lo w:=⟨by have:=sh.ml;omega,by have:=sh.al;omega,λr hr=>by have:=sh.mn r hr;omega,λr hr=>by have:=sh.an r hr;omega⟩;obtain ⟨b,hb,iff⟩:=HV lo;have hb1:b=true:=iff.mpr h;subst hb1;show Wp (aq _ _ [some (.d (.str (bN w))),some (.d (.str (fg w.m))),some (.d (.lst (((je w).map sX).map .str))),some (.own (w.ms.map b9)),some (.own (w.ar.map bZ)),some (.d w.d)]) _;refine yH ?_ (bX (r:=.d w.d) rfl rfl rfl);show (aP _ _ >>= _)=_;rw [show aP (aK (gN (au 1 cF) (ah (aa 5) ak))) [some (.d (.str (bN w))),some (.d (.str (fg w.m))),some (.d (.lst (((je w).map sX).map .str))),some (.own (w.ms.map b9)),some (.own (w.ar.map bZ)),some (.d w.d)]=.ok false by
  show ((gN _ _ _ >>= _) >>= _)=_;rw [c1 (x:=.d w.d) rfl hb];rfl]
 show (g2 _ _ _ _ >>= _)=_;rw [two (x:=.d (.str (bN w))) (y:=.d (.str (bN w))) (c1 (x:=.d w.d) rfl (wJ sh)) rfl (K02.eq_str true _ _)];simp
section
variable {env:Ev}{u:G O}{Q:O->Prop}{g:G R}{r:R}{i:Nat}
theorem ql {tg:GT}(I:Nat->Ev->Prop) (Rt:R->Prop) (ds:List D) (h0:I 0 env) (step:∀(k:Nat) (hk:k < ds.length) (env:Ev),I k env->∃e,tg ds[k] env=.ok e/\Wp (u e) λo=>(∃e,o=.nx e/\I (k + 1) e)\/∃r,o=.rt r/\Rt r)
  (k:∀e,I ds.length e->Q (.nx e)) (k2:∀r,Rt r->Q (.rt r)):Wp (eu tg u ds env) Q:=by
 have key:∀(es:List D) (i:Nat) (env:Ev),ds.drop i=es->i<=ds.length->I i env->Wp (eu tg u es env) Q:=by
  intro es
  induction es with
  | nil=>
   intro i env hd hi hI;have:i=ds.length:=by have:=congrArg Rp hd;rw [QX] at this;simp at this;omega
   subst this;exact ⟨_,rfl,k _ hI⟩
  | cons d es ih=>
   intro i env hd hi hI;have hlt:i < ds.length:=by have:=congrArg Rp hd;rw [QX] at this;simp at this;omega
   have e1:=Ry hlt;rw [hd] at e1;obtain ⟨q1,q2⟩:=Rb e1;obtain ⟨e,h1,_,h2,h3⟩:=step i hlt env hI;unfold eu;rw [q1,h1,aY,h2,aY];rcases h3 with ⟨e2,rfl,h3⟩ | ⟨r,rfl,h3⟩
   ·exact ih (i + 1) e2 q2.symm (by omega) h3
   ·exact ⟨_,rfl,k2 r h3⟩
 exact key ds 0 env rfl (QG _) h0
theorem B0 {xs:List D}{d:D}(h0:env[i]?=some (some (.own xs))) (h:g env=.ok r) (h2:toD r=.ok d) (hl:xs.length<=1000000) (k:Q (.nx (env.set i (some (.own (xs++[d])))))):Wp (dW i g env) Q:=by refine ⟨_,?_,k⟩;unfold dW;rw [h0];show (g env >>= _)=_;rw [h,aY,h2,aY,if_pos (by rw [Qw];omega)]
end
theorem FU {x:Str}(hx:x.length<=100000):fN [.d (.str x)]=.ok (.d (.bl (fY x))):=by
 have ln:∀g:G R,g=gN dz (ah (aa 0) ak)->g [some (.d (.str x))]=.ok (.d (.int x.length)):=λg hg=>by subst hg;exact n1 rfl (K05N.len_str hx)
 refine gq (show Wp (aq _ _ [some (.d (.str x))]) _ from b6 (jc (c:=decide (x.length < 2) || decide (8 < x.length)) ?_ (λq=>?_) λq=>fM ?_))
 ·show (aK (g2 _ _ _) _ >>= _)=_;rw [show aK (g2 (bz λi j=>.bl (decide (i < j))) (gN dz (ah (aa 0) ak)) (gC (.int 2))) [some (.d (.str x))]=.ok (decide ((x.length:Int) < 2)) by
   show (g2 _ _ _ _ >>= _)=_;rw [two (x:=.d (.int x.length)) (y:=.d (.int 2)) (ln _ rfl) rfl rfl];rfl]
  by_cases h2:x.length < 2
  ·rw [decide_eq_true (show (x.length:Int) < 2 by omega),decide_eq_true h2];rfl
  ·rw [decide_eq_false (show ¬(x.length:Int) < 2 by omega),decide_eq_false h2];show aK (g2 _ _ _) _=_;show (g2 _ _ _ _ >>= _)=_;rw [two (x:=.d (.int x.length)) (y:=.d (.int 8)) (ln _ rfl) rfl rfl];show M.ok (decide ((8:Int) < x.length))=_;rw [Bool.false_or];congr 1;exact decide_eq_decide.mpr (by omega)
 ·refine bX (r:=.d (.bl false)) rfl rfl ?_;show O.rt (.d (.bl false))=_;rw [show fY x=false by
   unfold fY;rw [RB,decide_eq_true_eq,decide_eq_true_eq] at q;rcases q with q | q
   ·rw [decide_eq_false (by omega)];rfl
   ·rw [decide_eq_false (show ¬x.length<=8 by omega)];simp]
 ·rw [Bool.or_eq_false_iff,decide_eq_false_iff_not,decide_eq_false_iff_not] at q;have nm:fY x=(!inD (.str x) words && x.cps.toList.all nj):=by unfold fY;rw [decide_eq_true (show 2<=x.length by omega),decide_eq_true (show x.length<=8 by omega)];rfl
  refine b6 (jc (c:=inD (.str x) words) ?_ (λq=>?_) λq=>fM ?_)
  ·show (g2 _ _ _ _ >>= _)=_;rw [two (x:=.d (.str x)) (y:=.d (.tup words)) rfl (jf (ds:=words) rfl (QF 8 992)) (in_words x)];rfl
  ·rw [nm,q];exact bX (r:=.d (.bl false)) rfl rfl rfl
  ·rw [nm,q];exact bX (r:=.d (.bl (x.cps.toList.all nj))) (K05N.x_ x hx _ rfl) rfl rfl
theorem F6 (xs:List D):((Qc (xs.length - 1)).map λk=>K01.ltB (xs.getD k .non) (xs.getD (k + 1) .non))=Rg (λa b=>K01.ltB a b) xs (xs.drop 1):=by refine WQ (by simp) λk h1 h2=>?_;rw [Pj,Tz] at h1;rw [RE,List.getElem_range,TZ,Wr];rw [Qa,Qa,PV (by omega),PV (by omega)];show K01.ltB xs[k] xs[k + 1]=K01.ltB xs[k] xs[1 + k];congr 2;omega
theorem wI {xs:List D}(hl:xs.length<=100000) (h:kC xs):eF [.bor xs]=.ok (.d (.bl (gj xs))):=by
 have rg:dJ (ah (g2 oQ (gN dz (ah (aa 0) ak)) (gC (.int 1))) ak) [some (.bor xs)]=.ok ((Qc (xs.length - 1)).map dN):=by rw [CG (j:=(xs.length:Int) - 1) rfl,CH _ (cO.mpr ⟨by omega,by omega⟩),show ((xs.length:Int) - 1).toNat=xs.length - 1 by omega,JZ]
 refine gq (bX (r:=.d (.bl (gj xs))) (n1 (x:=.l .fresh ((Qc (xs.length - 1)).map λk=>.bl (K01.ltB (xs.getD k .non) (xs.getD (k + 1) .non)))) (qX (xs:=Qc (xs.length - 1)) (h:=dN) (λk=>.bl (K01.ltB (xs.getD k .non) (xs.getD (k + 1) .non))) rg (by rw [Tz];omega) λk hk=>⟨_,two (x:=.d (xs.getD k .non)) (y:=.d (xs.getD (k + 1) .non)) (two rfl rfl (p5 (k:=k) (getD_at (by have:=Qt.mp hk;omega)))) (two (y:=.d (.int ((k:Int) + 1))) rfl (two rfl rfl (jK _ _)) (p5 (m:=.bor) (k:=k + 1) (getD_at (by have:=Qt.mp hk;omega)))) (h _ (getD_mem (by have:=Qt.mp hk;omega)) _ (getD_mem (by have:=Qt.mp hk;omega))),rfl⟩) ?_) rfl rfl);have e2:((Qc (xs.length - 1)).map λk=>D.bl (K01.ltB (xs.getD k .non) (xs.getD (k + 1) .non)))=(Rg (λa b=>K01.ltB a b) xs (xs.drop 1)).map D.bl:=by rw [<-F6,PY];rfl
 rw [e2];show eV [.l .fresh ((Rg (λa b=>K01.ltB a b) xs (xs.drop 1)).map D.bl)]=.ok (.d (.bl ((Rg (λa b=>K01.ltB a b) xs (xs.drop 1)).all id)));generalize Rg (λa b=>K01.ltB a b) xs (xs.drop 1)=bs;have:=all_map (λd=>match d with | .bl b=>b | _=>false) (bs.map D.bl);rw [PY,SY] at this;exact this
noncomputable abbrev kw (m:Nat):List D:=((Qc m).map fg).map .str
theorem xK (l:List Str):deps (l.map .str)=0:=by
 induction l with
 | nil=>rfl
 | cons x l ih=>show max 0 (deps (l.map .str))=0;rw [ih];rfl
theorem KU (m:Nat) (x:Str):gQ false (.d (.str x)) (.l .own (kw m))=.ok (.d (.bl (inD (.str x) (kw m)))):=by unfold gQ;rw [show jE (.l .own (kw m))=.ok (kw m) from rfl,aY,if_pos ⟨by rw [xK];exact QG _,QG _⟩];rfl
theorem xR {m p:Nat}(hm:m<=8) (hp:p < m){go ga:G R}{env:Ev}(h1:go env=.ok (.l .own (kw m))) (h2:ga env=.ok (.d (.str (fg p)))):sA go ga env=.ok (.d (.int p)):=by
 have a:(kw m).all rm=true:=by rw [PF];intro d hd;obtain ⟨t,_,rfl⟩:=Pn.mp hd;rfl
 have f:∀m:Fin 9,∀p:Fin 9,p.val < m.val->(kw m.val).findIdx? (DK (fg p.val))=some p.val:=by decide +kernel
 show (go env >>= _)=_;rw [h1];show (ga env >>= _)=_;rw [h2];show (if ((kw m).all rm && decide ((kw m).length<=100000))=true then _ else _)=_;rw [a,decide_eq_true (by simp;omega),RJ,if_pos rfl,f ⟨m,by omega⟩ ⟨p,by omega⟩ hp]
theorem oR {p q:Nat}(hp:p<=8) (hq:q<=8) (h:fg p=fg q):p=q:=by have:=congrArg cs h;rw [fW hp,fW hq] at this;have:=Rb this;omega
theorem map_inj {α β:Type}{f:α->β}:∀{xs ys:List α},(∀x∈xs,∀y∈ys,f x=f y->x=y)->xs.map f=ys.map f->xs=ys
 | [],[],_,_=>rfl
 | [],_::_,_,e=>nomatch e
 | _::_,[],_,e=>nomatch e
 | x::xs,y::ys,h,e=>by rw [Qh,Qh] at e;obtain ⟨e1,e2⟩:=Rb e;rw [h x P0 y P0 e1,map_inj (λa ha b hb=>h a (Py _ ha) b (Py _ hb)) e2]
theorem GK (w:Str):(Pw w "-"=(w,Rf,Rf)/\45∉cs w)\/∃a b:Str,Pw w "-"=(a,("-":Str),b)/\w=dg [a,"-",b]:=by
 by_cases h:45∈cs w
 ·obtain ⟨a,b,h1,h2⟩:=xJ h;refine .inr ⟨⟨a.toArray⟩,⟨b.toArray⟩,mC (c:=45) h1 h2,fD ?_⟩;rw [fG,h1];show a++45::b=a++([45]++(b++[]));rw [Ql];rfl
 ·exact .inl ⟨z_ h,h⟩
section
variable {env:Ev}{g h:G R}{p q:G Bool}
theorem iH {a b:Str}(hg:g env=.ok (.d (.str a))) (hh:h env=.ok (.d (.str b))):aK (g2 (cJ false) g h) env=.ok (a == b):=by show (g2 _ _ _ _ >>= _)=_;rw [two hg hh (K02.eq_str false a b)];rfl
theorem qi {x:Str}{m:Nat}(hg:g env=.ok (.d (.str x))) (hh:h env=.ok (.l .own (kw m))):aK (g2 (gQ false) g h) env=.ok (inD (.str x) (kw m)):=by show (g2 _ _ _ _ >>= _)=_;rw [two hg hh (KU m x)];rfl
theorem i8 {b:Bool}(h1:p env=.ok true) (h2:q env=.ok b):bf p q env=.ok b:=by show (p env >>= _)=_;rw [h1];exact h2
theorem pS (h1:p env=.ok false):bf p q env=.ok false:=by show (p env >>= _)=_;rw [h1];rfl
end
theorem MT:((":":Str) == ":")=true:=by decide +kernel
theorem MU:((":":Str) == ">")=false:=by decide +kernel
theorem LS:((">":Str) == ":")=false:=by decide +kernel
theorem FE:((">":Str) == ">")=true:=by decide +kernel
theorem MV:(("-":Str) == "-")=true:=by decide +kernel
theorem MW:((Rf:Str) == "-")=false:=by decide +kernel
noncomputable abbrev eT (ts:List Str) (s:Str) (m:Nat) (xs:List D) (a b c d:Option S):Ev:=[some (.bor (ts.map .str)),some (.d (.str s)),some (.d (.int m)),some (.own xs),some (.own (kw m)),a,b,c,d]
theorem xY {ts:List Str}{s:Str}{m:Nat}(hm:m<=8){Q:O->Prop}{u:G O}(k:Wp (u (eT ts s m [] none none none none)) Q):Wp (aq (aG 3 (cT aC)) (aq (aG 4 (bC 1 [] (dJ (ah (aa 2) ak)) (aF 0) dc (gN i_ (ah (aa 0) ak)))) u) [some (.bor (ts.map .str)),some (.d (.str s)),some (.d (.int m)),none,none,none,none,none,none]) Q:=by refine cA (r:=.l .fresh []) (x:=.own []) (mw eG (QG _)) rfl (cA (r:=.l .fresh (kw m)) (x:=.own (kw m)) ?_ rfl k);rw [kw,PY];exact qX (xs:=Qc m) (h:=dN) (λp=>.str (fg p)) (Mt (u6 rfl) (by omega)) (by rw [Tz];omega) λp hp=>⟨_,n1 rfl (kG (by have:=Qt.mp hp;omega)),rfl⟩
theorem Mf (ps:List Nat):kC (ps.map dN):=λa ha b hb=>by obtain ⟨_,_,rfl⟩:=Pn.mp ha;obtain ⟨_,_,rfl⟩:=Pn.mp hb;rfl
theorem K3 (ps:List (Nat×Nat)):kC (ps.map dP):=λa ha b hb=>by obtain ⟨_,_,rfl⟩:=Pn.mp ha;obtain ⟨_,_,rfl⟩:=Pn.mp hb;rfl
theorem BH {α:Type}{f:α->D}{ts:List Str}{s:Str}{m:Nat}{ps:List α}{a b c d:Option S}{Q:O->Prop}(hl:ps.length<=100000) (lt:kC (ps.map f)) (k1:gj (ps.map f)=true->Q (.rt (.d (.tup (ps.map f))))) (k2:gj (ps.map f)=false->Q (.rt (.d .non))):
  Wp (aq (aJ (aP (aK (gN (au 1 K05.eF) (ah (aa 3) ak)))) (aE (gC .non)) aU) (aE (gN eH (ah (aa 3) ak))) (eT ts s m (ps.map f) a b c d)) Q:=by
 refine b6 (jc (c:=!gj (ps.map f)) ?_ (λq=>?_) λq=>fM ?_)
 ·show ((gN _ _ _ >>= _) >>= _)=_;rw [c1 (x:=.l .own (ps.map f)) rfl (wI (by simpa using hl) lt)];rfl
 ·exact bX (r:=.d .non) rfl rfl (k2 (by simpa using q))
 ·exact bX (r:=.d (.tup (ps.map f))) rfl rfl (k1 (by simpa using q))
theorem ER {m:Nat}{ps:List Nat}(hm:m<=8) (lt:∀p∈ps,p < m):gj (ps.map dN)=true↔i6 m ps:=by
 have e:gJ (ic m) (.tup (ps.map dN))=gj (ps.map dN):=by show ((ps.map dN).all (ic m) && gj (ps.map dN))=_;rw [PF.mpr λd hd=>?_,RJ];obtain ⟨p,hp,rfl⟩:=Pn.mp hd;have:=lt p hp;show (decide ((0:Int)<=p) && decide ((p:Int) < m))=true;rw [decide_eq_true (by omega),decide_eq_true (by omega)];rfl
 rw [<-e];exact ⟨λh=>Cv hm h,λh=>Fq h⟩
theorem ES {m:Nat}{ps:List (Nat×Nat)}(hm:m<=8) (lt:∀p∈ps,p.1 < m/\p.2 < m):gj (ps.map dP)=true↔gY m ps:=by
 have e:gJ (iz m) (.tup (ps.map dP))=gj (ps.map dP):=by show ((ps.map dP).all (iz m) && gj (ps.map dP))=_;rw [PF.mpr λd hd=>?_,RJ];obtain ⟨p,hp,rfl⟩:=Pn.mp hd;have:=lt p hp;show ((decide ((0:Int)<=p.1) && decide ((p.1:Int) < m)) && (decide ((0:Int)<=p.2) && decide ((p.2:Int) < m)))=true;rw [decide_eq_true (by omega),decide_eq_true (by omega),decide_eq_true (by omega),decide_eq_true (by omega)];rfl
 rw [<-e];exact ⟨λh=>Cr hm h,λh=>Fo h⟩
noncomputable def LK (m:Nat) (ts:List Str) (r:R):Prop:=(∃ps,r=.d (.tup (ps.map dN))/\ts=ps.map fg/\i6 m ps)\/(r=.d .non/\¬∃ps,ts=ps.map fg/\i6 m ps)
theorem KG {ts:List Str}{m:Nat}(hm:m<=8) (hl:ts.length<=100000) (hg:∀w∈ts,w.length<=1000000):Wp (gk [.bor (ts.map .str),.d (.str ":"),.d (.int m)]) (LK m ts):=by
 refine tV (xY hm (nI (ds:=ts.map .str) rfl (ql (λk e=>∃ps a b c d,e=eT ts ":" m (ps.map dN) a b c d/\ts.take k=ps.map fg/\(∀p∈ps,p < m)/\ps.length=k) (λr=>LK m ts r) _ ⟨[],none,none,none,none,rfl,rfl,λ_ h=>(nomatch h),rfl⟩ ?_ ?_ λr h=>⟨r,rfl,h⟩)))
 ·rintro k hk e ⟨ps,a,b,c,d,rfl,h1,h2,h3⟩;rw [Pj] at hk;rw [RE];generalize hw:ts[k]=w;have N7:w∈ts:=hw▸Qz hk;refine ⟨eT ts ":" m (ps.map dN) (some (.d (.str w))) b c d,rfl,?_⟩;refine nG (d:=.tup [.str (Pw w "-").1,.str (Pw w "-").2.1,.str (Pw w "-").2.2]) (e:=eT ts ":" m (ps.map dN) (some (.d (.str w))) (some (.d (.str (Pw w "-").1))) (some (.d (.str (Pw w "-").2.1))) (some (.d (.str (Pw w "-").2.2)))) (g9 rfl rfl (by decide) (hg w N7) rfl) rfl rfl ?_;refine jc (c:=inD (.str w) (kw m)) (i8 (by rw [iH rfl rfl,MT]) (qi rfl rfl)) (λq=>?_) λq=>jN (pS (by rw [iH rfl rfl,MU])) (bX (r:=.d .non) rfl rfl (.inr ⟨_,rfl,.inr ⟨rfl,?_⟩⟩))
  ·obtain ⟨p,hp,e⟩:=(kN w m).mp q;refine B0 (d:=.int p) rfl (xR hm hp rfl (by rw [<-e];rfl)) rfl (by rw [Pj];omega) (.inl ⟨_,rfl,ps++[p],_,_,_,_,by rw [Qs];rfl,?_,λz hz=>?_,by simp;exact h3⟩)
   ·rw [QH hk,h1,hw,e,Qs];rfl
   ·rcases P8.mp hz with hz | hz
    ·exact h2 z hz
    ·rw [P1.mp hz];exact hp
  ·rintro ⟨qs,e,ok⟩;have:w∈qs.map fg:=e▸N7;obtain ⟨p,hp,e2⟩:=Pn.mp this;rw [(kN w m).mpr ⟨p,ok.2.2 p hp,e2.symm⟩] at q;cases q
 ·rintro e ⟨ps,a,b,c,d,rfl,h1,h2,h3⟩;rw [Pj] at h1 h3;rw [Q_] at h1;refine BH (by omega) (Mf ps) (λq=>⟨_,rfl,.inl ⟨ps,rfl,h1,(ER hm h2).mp q⟩⟩) λq=>⟨_,rfl,.inr ⟨rfl,?_⟩⟩;rintro ⟨qs,e,ok⟩;have:qs=ps:=map_inj (f:=fg) (λx hx y hy=>oR (by have:=ok.2.2 x hx;omega) (by have:=h2 y hy;omega)) (e.symm.trans h1);subst this;rw [(ER hm h2).mpr ok] at q;cases q
noncomputable def LJ (m:Nat) (ts:List Str) (r:R):Prop:=(∃ps,r=.d (.tup (ps.map dP))/\ts=ps.map pw/\gY m ps)\/(r=.d .non/\¬∃ps,ts=ps.map pw/\gY m ps)
theorem Cw {p q:Nat×Nat}(hp:p.1<=8/\p.2<=8) (hq:q.1<=8/\q.2<=8) (h:pw p=pw q):p=q:=by have a:=qh hp.1 hp.2;rw [h,qh hq.1 hq.2] at a;obtain ⟨a1,a2⟩:=T7 a;obtain ⟨_,a3⟩:=T7 a2;exact XS (oR hp.1 hq.1 a1.symm) (oR hp.2 hq.2 a3.symm)
theorem KC {ts:List Str}{m:Nat}(hm:m<=8) (hl:ts.length<=100000) (hg:∀w∈ts,w.length<=1000000):Wp (gk [.bor (ts.map .str),.d (.str ">"),.d (.int m)]) (LJ m ts):=by
 refine tV (xY hm (nI (ds:=ts.map .str) rfl (ql (λk e=>∃ps a b c d,e=eT ts ">" m (ps.map dP) a b c d/\ts.take k=ps.map pw/\(∀p∈ps,p.1 < m/\p.2 < m)/\ps.length=k) (λr=>LJ m ts r) _ ⟨[],none,none,none,none,rfl,rfl,λ_ h=>(nomatch h),rfl⟩ ?_ ?_ λr h=>⟨r,rfl,h⟩)))
 ·rintro k hk e ⟨ps,a,b,c,d,rfl,h1,h2,h3⟩;rw [Pj] at hk;rw [RE];generalize hw:ts[k]=w;have N7:w∈ts:=hw▸Qz hk;refine ⟨eT ts ">" m (ps.map dP) (some (.d (.str w))) b c d,rfl,?_⟩;have bad:(∀p q:Nat,p < m->q < m->w≠pw (p,q))->¬∃ps,ts=ps.map pw/\gY m ps:=λno ⟨qs,e,ok⟩=>by have:w∈qs.map pw:=e▸N7;obtain ⟨p,hp,e2⟩:=Pn.mp this;exact no p.1 p.2 (ok.2.2 p hp).1 (ok.2.2 p hp).2 e2.symm
  rcases GK w with ⟨hp,OL⟩ | ⟨x,y,hp,ew⟩
  ·refine nG (d:=.tup [.str w,.str Rf,.str Rf]) (e:=eT ts ">" m (ps.map dP) (some (.d (.str w))) (some (.d (.str w))) (some (.d (.str Rf))) (some (.d (.str Rf)))) (g9 rfl rfl (by decide) (hg w N7) hp) rfl rfl ?_;refine jN (pS (by rw [iH rfl rfl,LS])) (jN (i8 (by rw [iH rfl rfl,FE]) (pS (by rw [iH rfl rfl,MW]))) (bX (r:=.d .non) rfl rfl (.inr ⟨_,rfl,.inr ⟨rfl,bad λp q hp hq e=>OL ?_⟩⟩)));rw [e,pw,fG];show 45∈cs (fg p)++(cs "-"++(cs (fg q)++[]));exact Qo _ (R9 _ (by decide +kernel))
  ·refine nG (d:=.tup [.str x,.str "-",.str y]) (e:=eT ts ">" m (ps.map dP) (some (.d (.str w))) (some (.d (.str x))) (some (.d (.str "-"))) (some (.d (.str y)))) (g9 rfl rfl (by decide) (hg w N7) hp) rfl rfl ?_;refine jN (pS (by rw [iH rfl rfl,LS])) ?_;have no:(inD (.str x) (kw m)=false\/inD (.str y) (kw m)=false)->¬∃ps,ts=ps.map pw/\gY m ps:=λz=>bad λp q hp' hq e=>by
    have e1:=qh (p:=(p,q)) (show p<=8 by omega) (show q<=8 by omega);rw [<-e,hp] at e1;obtain ⟨a1,a2⟩:=T7 e1;obtain ⟨_,a3⟩:=T7 a2;rcases z with z | z
    ·rw [(kN x m).mpr ⟨p,hp',a1⟩] at z;cases z
    ·rw [(kN y m).mpr ⟨q,hq,a3⟩] at z;cases z
   have t1:aK (g2 (cJ false) (aa 7) (gC (.str "-"))) (eT ts ">" m (ps.map dP) (some (.d (.str w))) (some (.d (.str x))) (some (.d (.str "-"))) (some (.d (.str y))))=.ok true:=by rw [iH rfl rfl,MV]
   cases qx:inD (.str x) (kw m) with
   | false=>exact jN (i8 (by rw [iH rfl rfl,FE]) (i8 t1 (pS (by rw [qi rfl rfl,qx])))) (bX (r:=.d .non) rfl rfl (.inr ⟨_,rfl,.inr ⟨rfl,no (.inl qx)⟩⟩))
   | true=>
    cases qy:inD (.str y) (kw m) with
    | false=>exact jN (i8 (by rw [iH rfl rfl,FE]) (i8 t1 (i8 (by rw [qi rfl rfl,qx]) (by rw [qi rfl rfl,qy])))) (bX (r:=.d .non) rfl rfl (.inr ⟨_,rfl,.inr ⟨rfl,no (.inr qy)⟩⟩))
    | true=>
     obtain ⟨p,hp',ex⟩:=(kN x m).mp qx;obtain ⟨q,hq',ey⟩:=(kN y m).mp qy;refine jW (i8 (by rw [iH rfl rfl,FE]) (i8 t1 (i8 (by rw [qi rfl rfl,qx]) (by rw [qi rfl rfl,qy])))) ?_;subst ex;subst ey;refine B0 (d:=dP (p,q)) rfl (jf (bY (xR hm hp' rfl rfl) rfl (bY (xR hm hq' rfl rfl) rfl eG)) (QF 2 998)) rfl (by rw [Pj];omega) (.inl ⟨_,rfl,ps++[(p,q)],_,_,_,_,by rw [Qs];rfl,?_,λz hz=>?_,by simp;exact h3⟩)
     ·rw [QH hk,h1,hw,ew,Qs];rfl
     ·rcases P8.mp hz with hz | hz
      ·exact h2 z hz
      ·rw [P1.mp hz];exact ⟨hp',hq'⟩
 ·rintro e ⟨ps,a,b,c,d,rfl,h1,h2,h3⟩;rw [Pj] at h1 h3;rw [Q_] at h1;refine BH (by omega) (K3 ps) (λq=>⟨_,rfl,.inl ⟨ps,rfl,h1,(ES hm h2).mp q⟩⟩) λq=>⟨_,rfl,.inr ⟨rfl,?_⟩⟩;rintro ⟨qs,e,ok⟩;have:qs=ps:=map_inj (f:=pw) (λx hx y hy=>Cw (by have:=ok.2.2 x hx;omega) (by have:=h2 y hy;omega)) (e.symm.trans h1);subst this;rw [(ES hm h2).mpr ok] at q;cases q
noncomputable def GM (m:Nat) (r:Str×List Nat):Prop:=fY r.1=true/\i6 m r.2
noncomputable def GA (m:Nat) (r:Str×List (Nat×Nat)):Prop:=fY r.1=true/\gY m r.2
theorem iG (n:Str) (c:Nat):cs (dg [n,⟨#[c]⟩])=cs n++[c]:=by rw [fG];rfl
theorem Jp {n:Str}(h:fY n=true){c:Nat}(hc:c < 97):c∉cs n:=λz=>by have:=(sP h).2 c z;omega
theorem nq {m:Nat}(hm:m<=8){r:Str×List Nat}(h:GM m r):Q7 (dG r) " "=dg [r.1,":"]::r.2.map fg:=by
 refine kY (c:=32) (ys:=[]) rfl (by simp) (by rw [dG,fO]) λp hp z=>?_;rcases Pp.mp hp with rfl | hp
 ·rw [show cs (dg [r.1,":"])=cs r.1++[58] from iG r.1 58] at z;rcases P8.mp z with z | z
  ·exact Jp h.1 (by omega) z
  ·cases P1.mp z
 ·obtain ⟨q,hq,rfl⟩:=Pn.mp hp;have:=h.2.2.2 q hq;rw [fW (by omega),P1] at z;omega
theorem mU {m:Nat}(hm:m<=8){r:Str×List (Nat×Nat)}(h:GA m r):Q7 (dQ r) " "=dg [r.1,">"]::r.2.map pw:=by
 refine kY (c:=32) (ys:=[]) rfl (by simp) (by rw [dQ,fO]) λp hp z=>?_;rcases Pp.mp hp with rfl | hp
 ·rw [show cs (dg [r.1,">"])=cs r.1++[62] from iG r.1 62] at z;rcases P8.mp z with z | z
  ·exact Jp h.1 (by omega) z
  ·cases P1.mp z
 ·obtain ⟨q,hq,rfl⟩:=Pn.mp hp;have:=h.2.2.2 q hq;rw [pw,fG] at z;have z:32∈cs (fg q.1)++([45]++(cs (fg q.2)++[])):=z;rw [fW (by omega),fW (by omega)] at z;simp only [P8,Pp,P9,or_false] at z;omega
theorem zQ {a b:Str}{c:Nat}(h:dg [a,⟨#[c]⟩]=dg [b,⟨#[c]⟩]):a=b:=by have:=congrArg cs h;rw [iG,iG] at this;exact fD (S5 this)
theorem IW {a b:Str}:dg [a,":"]≠dg [b,">"]:=λh=>by have e:=congrArg cs h;rw [show cs (dg [a,":"])=cs a++[58] from iG a 58,show cs (dg [b,">"])=cs b++[62] from iG b 62] at e;have:=congrArg List.getLast? e;simp at this
theorem mk_inj {m m':Nat}(hm:m<=8) (hm':m'<=8){r s:Str×List Nat}(h:GM m r) (k:GM m' s) (e:dG r=dG s):r=s:=by have a:=nq hm h;rw [e,nq hm' k] at a;obtain ⟨a1,a2⟩:=Rb a;exact XS (zQ (c:=58) a1.symm) (map_inj (f:=fg) (λx hx y hy=>oR (by have:=h.2.2.2 x hx;omega) (by have:=k.2.2.2 y hy;omega)) a2.symm)
theorem Iw {m m':Nat}(hm:m<=8) (hm':m'<=8){r s:Str×List (Nat×Nat)}(h:GA m r) (k:GA m' s) (e:dQ r=dQ s):r=s:=by have a:=mU hm h;rw [e,mU hm' k] at a;obtain ⟨a1,a2⟩:=Rb a;exact XS (zQ (c:=62) a1.symm) (map_inj (f:=pw) (λx hx y hy=>Cw (by have:=h.2.2.2 x hx;omega) (by have:=k.2.2.2 y hy;omega)) a2.symm)
theorem E8 {m m':Nat}(hm:m<=8) (hm':m'<=8){r:Str×List Nat}{s:Str×List (Nat×Nat)}(h:GM m r) (k:GA m' s):dG r≠dQ s:=λe=>by have a:=nq hm h;rw [e,mU hm' k] at a;exact IW (Rb a).1.symm
theorem Hx:QY Rf none (some (-1))=Rf:=by decide +kernel
theorem Hy:QY Rf (some (-1)) none=Rf:=by decide +kernel
theorem FF {x n:Str}{c:Nat}(h:cs x=cs n++[c]):QY x none (some (-1))=n/\QY x (some (-1)) none=⟨#[c]⟩:=by
 have l:x.length=n.length + 1:=by rw [<-bF,h,Pu,bF];rfl
 constructor
 ·rw [show QY x none (some (-1))=_ from sliceText_to_neg (x:=x) (j:=-1) (by omega) (by omega)];refine fD ?_;show Y4 _ (Y5 0 (cs x))=_;rw [R8,h,show ((-1:Int) + (x.length:Int) - 0).toNat=(cs n).length by rw [bF];omega,Ug];rfl
 ·rw [show QY x (some (-1)) none=_ from sliceText_from_neg (x:=x) (i:=-1) (by omega) (by omega)];refine fD ?_;show Y4 _ (Y5 _ (cs x))=_;rw [h,show ((-1:Int) + (x.length:Int)).toNat=(cs n).length by rw [bF];omega,Uh rfl,List.take_of_length_le];rw [show x.cps.toList=cs x from rfl,h,Pu,bF];show 1<=_;rw [l];simp;omega
theorem EC (x:Str):x=Rf\/∃(n:Str) (c:Nat),cs x=cs n++[c]:=by
 rcases List.eq_nil_or_concat (cs x) with h | ⟨l,c,h⟩
 ·exact .inl (fD h)
 ·exact .inr ⟨⟨l.toArray⟩,c,by rw [h,List.concat_eq_append]⟩
theorem yg (l:List Str):c_ (l.map .str)=true:=by
 induction l with
 | nil=>rfl
 | cons x l ih=>exact ih
theorem jd {α:Type}{f:α->D}(hf:∀a,kP (f a)=true):∀l:List α,c_ (l.map f)=true
 | []=>rfl
 | a::l=>by show (kP (f a) && c_ (l.map f))=true;rw [hf a,jd hf l];rfl
theorem yf (r:Str×List Nat):kP (b9 r)=true:=by show (true && (c_ (r.2.map dN) && true))=true;rw [jd λ_=>rfl];rfl
theorem ye (r:Str×List (Nat×Nat)):kP (bZ r)=true:=by show (true && (c_ (r.2.map dP) && true))=true;rw [jd λ_=>rfl];rfl
theorem yh:∀(a b:List D),c_ a=true->c_ b=true->c_ (a++b)=true
 | [],b,_,h=>h
 | x::a,b,h,k=>by have h:(kP x && c_ a)=true:=h;rw [Pr] at h;show (kP x && c_ (a++b))=true;rw [h.1,yh a b h.2 k];rfl
noncomputable def wB:G O:=(aq (aG 5 (fF (aa 4) (gC (.str " "))))
 (aq (aG 6 (dw gx (g2 bP (aa 5) (gC (.int 0))) dZ (dM (q_ (gC (.int 1))))))
 (aq (aG 7 (dw gx (g2 bP (aa 5) (gC (.int 0))) (dM (q_ (gC (.int 1)))) dZ))
 (aq (aJ (bu (aK (g2 (gQ true) (aa 7) (cT (aj (gC (.str ":")) (aj (gC (.str ">")) aC))))) (aP (aK (gN (au 1 K05.fN) (ah (aa 6) ak))))) (aE (gC .non)) aU)
 (aq (aG 8 (gN (au 3 K05.gk) (ah (dw eZ (aa 5) (dM (gC (.int 1))) dZ) (ah (aa 7) (ah (aa 2) ak)))))
 (aq (aJ (bu (aK (g2 (rY false) (aa 8) (gC .non))) (bf (aK (g2 (cJ false) (aa 7) (gC (.str ":")))) (aK (g2 (cJ true) (g2 bP (aa 3) (gC (.int 1))) (cT aC))))) (aE (gC .non)) aU)
 (aq (zP 3 (gN mZ (ah (g2 (cJ false) (aa 7) (gC (.str ">"))) ak)) (c9 (aj (aa 6) (aj (aa 8) aC))))
 aU)))))))
noncomputable def wC:G O:=(aJ (bu (aK (g2 (bz λi j=>.bl (decide (j < i))) (gN dz (ah (aa 8) ak)) (gC (.int 3)))) (aP (aK (gN (au 1 K05.eF) (ah (bC 1 [] (gy (aa 8)) (aF 0) dc (g2 bP (aa 0) (gC (.int 0)))) ak))))) (aE (gC .non)) aU)
section
variable {env:Ev}{u:G O}{Q:O->Prop}{g gi:G R}{r:R}
theorem Kf {x:Str}(h:g env=.ok (.d (.str x))) (hx:x.length<=1000000):dw gx g dZ (dM (q_ (gC (.int 1)))) env=.ok (.d (.str (QY x none (some (-1))))):=by show (g env >>= _)=_;rw [h];show (if x.length<=sizeLine then _ else _)=_;rw [if_pos (by rw [Qw];omega)]
theorem Kc {x:Str}(h:g env=.ok (.d (.str x))) (hx:x.length<=1000000):dw gx g (dM (q_ (gC (.int 1)))) dZ env=.ok (.d (.str (QY x (some (-1)) none))):=by show (g env >>= _)=_;rw [h];show (if x.length<=sizeLine then _ else _)=_;rw [if_pos (by rw [Qw];omega)]
theorem Jm {A B:List D}{d:D}(h0:env[3]?=some (some (.tn [.lst A,.lst B]))) (ok:rD (env.set 3 none)=true) (nA:c_ A=true) (nB:c_ B=true) (hg:g env=.ok r) (hd:toD r=.ok d) (nd:kP d=true) (hA:A.length<=1000000) (hB:B.length<=1000000) (b:Bool) (hi:gi env=.ok (.d (.int (if b then 1 else 0))))
  (k:Q (.nx (env.set 3 (some (.tn (if b then [.lst A,.lst (B++[d])] else [.lst (A++[d]),.lst B])))))):Wp (zP 3 gi g env) Q:=by
 have nl:([D.lst A,.lst B].all rj)=true:=by show (c_ A && (c_ B && true))=true;rw [nA,nB];rfl
 have n1:∀l:List D,c_ l=true->c_ (l++[d])=true:=λl h=>yh l [d] h (by show (kP d && true)=true;rw [nd];rfl);refine ⟨_,?_,k⟩;unfold zP;rw [h0];show (gi env >>= _)=_;rw [hi];cases b with
 | false=>
  show (if (rD (env.set 3 none) && [D.lst A,.lst B].all rj)=true then g env >>= λr=>toD r >>= λd=>if A.length < sizeLine/\c_ (A++[d])=true then M.ok (O.nx (env.set 3 (some (.tn [.lst (A++[d]),.lst B])))) else .bad else .bad)=_;rw [ok,nl,RJ,if_pos rfl,hg,aY,hd,aY,if_pos ⟨by rw [Qw];omega,n1 A nA⟩];rfl
 | true=>
  show (if (rD (env.set 3 none) && [D.lst A,.lst B].all rj)=true then g env >>= λr=>toD r >>= λd=>if B.length < sizeLine/\c_ (B++[d])=true then M.ok (O.nx (env.set 3 (some (.tn [.lst A,.lst (B++[d])])))) else .bad else .bad)=_;rw [ok,nl,RJ,if_pos rfl,hg,aY,hd,aY,if_pos ⟨by rw [Qw];omega,n1 B nB⟩];rfl
theorem Ka {t:GT}{v:G O}{ds:List D}(h:g env=.ok (.l .fresh ds)) (hn:c_ ds=true) (k:Wp (eu t u ds env) λo=>match o with
 | .nx e=>Wp (v e) Q
 | o=>Q o):Wp (aq (AL g t u) v env) Q:=b6 (by
 show Wp (g env >>= _) _;rw [h];show Wp (if c_ ds=true then _ else _) _;rw [if_pos hn];exact k)
end
noncomputable abbrev eW (t:Str) (qs:List Str) (m:Nat) (ms:List (Str×List Nat)) (ar:List (Str×List (Nat×Nat))) (a b c d e:Option S):Ev:=[some (.d (.str t)),some (.own (qs.map .str)),some (.d (.int m)),some (.tn [.lst (ms.map b9),.lst (ar.map bZ)]),a,b,c,d,e]
noncomputable def St (t:Str) (qs:List Str) (m:Nat) (ms:List (Str×List Nat)) (ar:List (Str×List (Nat×Nat))) (p:Str) (o:O):Prop:=
 (∃r a b c d e,GM m r/\p=dG r/\ar=[]/\o=.nx (eW t qs m (ms++[r]) ar a b c d e))\/(∃r a b c d e,GA m r/\p=dQ r/\o=.nx (eW t qs m ms (ar++[r]) a b c d e))\/
 (o=.rt (.d .non)/\(∀r,GA m r->p≠dQ r)/\∀r,GM m r->p=dG r->ar≠[])
theorem A0 {env:Ev}{p q:G Bool}{b:Bool}(h1:p env=.ok false) (h2:q env=.ok b):bu p q env=.ok b:=by show (p env >>= _)=_;rw [h1];exact h2
theorem yK {env:Ev}{s:Str}(h:aa 7 env=.ok (.d (.str s))):aK (g2 (gQ true) (aa 7) (cT (aj (gC (.str ":")) (aj (gC (.str ">")) aC)))) env=.ok (!([":",">"]:List Str).any λw=>w == s):=by
 show (g2 _ _ _ _ >>= _)=_;rw [two (y:=.l .fresh (([":",">"]:List Str).map .str)) h rfl (z:=.d (.bl (!inD (.str s) (([":",">"]:List Str).map .str)))) ?_,uB]
 ·rfl
 ·unfold gQ;rw [show jE (.l .fresh (([":",">"]:List Str).map .str))=.ok (([":",">"]:List Str).map .str) from rfl,aY,if_pos ⟨by rw [xK];exact QG _,QG _⟩];rfl
theorem Gm (ar:List (Str×List (Nat×Nat))):dep (.lst (ar.map bZ))<=60:=by
 have h:deps (ar.map bZ)<=50:=pX λx hx=>by
  obtain ⟨r,_,rfl⟩:=Pn.mp hx;have:=II r.2;have k:deps (r.2.map dP)<=10:=pX λx hx=>by obtain ⟨p,_,rfl⟩:=Pn.mp hx;show max 0 (max 0 0) + 1<=10;decide
  show max 0 (max (deps (r.2.map dP) + 1) 0) + 1<=50;omega
 show deps (ar.map bZ) + 1<=60;omega
theorem ne_nil {env:Ev}{ms:List (Str×List Nat)}{ar:List (Str×List (Nat×Nat))}(h:aa 3 env=.ok (.d (.tup [.lst (ms.map b9),.lst (ar.map bZ)]))):aK (g2 (cJ true) (g2 bP (aa 3) (gC (.int 1))) (cT aC)) env=.ok (!ar.isEmpty):=by
 show (g2 _ _ _ _ >>= _)=_;rw [two (x:=.d (.lst (ar.map bZ))) (y:=.l .fresh []) (two h rfl (bK _ _ _)) rfl (KI true _ _ (Gm ar) (by decide))];cases ar with
 | nil=>rfl
 | cons r ar=>rfl
theorem Ga {t:Str}{qs:List Str}{m:Nat}(hm:m<=8){ms:List (Str×List Nat)}{ar:List (Str×List (Nat×Nat))}{p:Str}(hp:p.length<=50000) (hms:ms.length<=100000) (har:ar.length<=100000) (b c d e:Option S):Wp (wB (eW t qs m ms ar (some (.d (.str p))) b c d e)) (St t qs m ms ar p):=by
 obtain ⟨w0,ws,hs⟩:=kZ p " ";have hc:=iU (x:=p) (y:=" ") (by decide);have O3:w0.length<=p.length:=kX (y:=" ") (by rw [hs];exact P0);have hg:∀w∈ws,w.length<=1000000:=λw hw=>by have:=kX (x:=p) (y:=" ") (p:=w) (by rw [hs];exact Py _ hw);omega
 rw [hs,P4] at hc;have hM:∀r,GM m r->p=dG r->w0=dg [r.1,":"]/\ws=r.2.map fg:=λr h e=>by have a:=nq hm h;rw [<-e,hs] at a;exact Rb a
 have hA:∀r,GA m r->p=dQ r->w0=dg [r.1,">"]/\ws=r.2.map pw:=λr h e=>by have a:=mU hm h;rw [<-e,hs] at a;exact Rb a
 have bk:∀n:Str,p=RD " " (w0::ws):=λ_=>by rw [<-hs,join_split]
 have no:(∀r,GA m r->p≠dQ r)->(∀r,GM m r->p=dG r->ar≠[])->St t qs m ms ar p (.rt (.d .non)):=λh1 h2=>.inr (.inr ⟨rfl,h1,h2⟩);refine cA (r:=.l .fresh ((w0::ws).map .str)) (x:=.own ((w0::ws).map .str)) (by rw [<-hs];exact nL rfl (by omega) rfl) rfl ?_;have ix:∀{a b c:Option S},g2 bP (aa 5) (gC (.int 0)) (eW t qs m ms ar (some (.d (.str p))) (some (.own ((w0::ws).map .str))) a b c)=.ok (.d (.str w0)):=two rfl rfl (p5 (k:=0) rfl);refine cA (r:=.d (.str (QY w0 none (some (-1))))) (x:=.d (.str (QY w0 none (some (-1))))) (Kf ix (by omega)) rfl ?_;refine cA (r:=.d (.str (QY w0 (some (-1)) none))) (x:=.d (.str (QY w0 (some (-1)) none))) (Kc ix (by omega)) rfl ?_;rcases EC w0 with rfl | ⟨n,k,hk⟩
 ·rw [Hx,Hy];refine b6 (jW (show (aK _ _ >>= _)=_ by rw [yK rfl];rfl) (bX (r:=.d .non) rfl rfl (no (λr h e=>?_) λr h e=>?_)))
  ·have:=congrArg cs (hA r h e).1;rw [show cs (dg [r.1,">"])=cs r.1++[62] from iG r.1 62] at this;simp [cs,Rf] at this
  ·have:=congrArg cs (hM r h e).1;rw [show cs (dg [r.1,":"])=cs r.1++[58] from iG r.1 58] at this;simp [cs,Rf] at this
 have Oe:∀r,GM m r->p=dG r->n=r.1/\k=58/\ws=r.2.map fg:=λr h e=>by obtain ⟨e1,e2⟩:=hM r h e;have e3:=congrArg cs e1;rw [hk,show cs (dg [r.1,":"])=cs r.1++[58] from iG r.1 58] at e3;have:=WV e3 rfl;exact ⟨fD this.1,by simpa using this.2,e2⟩
 have Ob:∀r,GA m r->p=dQ r->n=r.1/\k=62/\ws=r.2.map pw:=λr h e=>by obtain ⟨e1,e2⟩:=hA r h e;have e3:=congrArg cs e1;rw [hk,show cs (dg [r.1,">"])=cs r.1++[62] from iG r.1 62] at e3;have:=WV e3 rfl;exact ⟨fD this.1,by simpa using this.2,e2⟩
 have nl:n.length<=100000:=by have:=congrArg Rp hk;rw [Pu,bF,bF] at this;omega
 rw [(FF hk).1,(FF hk).2];by_cases hk2:¬(k=58\/k=62)
 ·have ne:(([":",">"]:List Str).any λw=>w == ⟨#[k]⟩)=false:=by
   rw [Wt];intro w hw z;have z:=congrArg cs (eq_of_beq z);rcases Pp.mp hw with rfl | hw
   ·exact hk2 (.inl (by have:[58]=[k]:=z;simpa using this.symm))
   ·rw [P1.mp hw] at z;exact hk2 (.inr (by have:[62]=[k]:=z;simpa using this.symm))
  refine b6 (jW (show (aK _ _ >>= _)=_ by rw [yK rfl,ne];rfl) (bX (r:=.d .non) rfl rfl (no (λr h e=>hk2 (.inr (Ob r h e).2.1)) λr h e=>(hk2 (.inl (Oe r h e).2.1)).elim)))
 have hk2:=YX.mp hk2;have yes:(([":",">"]:List Str).any λw=>w == ⟨#[k]⟩)=true:=by rcases hk2 with rfl | rfl <;> decide +kernel
 have nmt:∀{a:Option S},aP (aK (gN (au 1 K05.fN) (ah (aa 6) ak))) (eW t qs m ms ar (some (.d (.str p))) (some (.own ((w0::ws).map .str))) (some (.d (.str n))) (some (.d (.str ⟨#[k]⟩))) a)=.ok (!fY n):=by intro a;show ((gN _ _ _ >>= _) >>= _)=_;rw [c1 (x:=.d (.str n)) rfl (FU nl)];rfl
 refine b6 (jc (c:=!fY n) (show (aK _ _ >>= _)=_ by rw [yK rfl,yes];exact nmt) (λq=>bX (r:=.d .non) rfl rfl (no (λr h e=>?_) λr h e=>?_)) λq=>fM ?_)
 ·obtain ⟨rfl,_⟩:=Ob r h e;rw [h.1] at q;cases q
 ·obtain ⟨rfl,_⟩:=Oe r h e;rw [h.1] at q;cases q
 have hn:fY n=true:=by simpa using q
 have sl1:dw eZ (aa 5) (dM (gC (.int 1))) dZ (eW t qs m ms ar (some (.d (.str p))) (some (.own ((w0::ws).map .str))) (some (.d (.str n))) (some (.d (.str ⟨#[k]⟩))) e)=.ok (.l .fresh (ws.map .str)):=by show M.ok (R.l .fresh (cutD (.str w0::ws.map .str) (some 1) none))=_;rw [uu]
 have okE:∀(x:D),kP x=true->rD ((eW t qs m ms ar (some (.d (.str p))) (some (.own ((w0::ws).map .str))) (some (.d (.str n))) (some (.d (.str ⟨#[k]⟩))) (some (.d x))).set 3 none)=true:=λx hx=>by show (true && (c_ (qs.map .str) && (true && (true && (true && (c_ ((w0::ws).map .str) && (true && (true && (kP x && true)))))))))=true;rw [yg,yg,hx];rfl
 rcases hk2 with rfl | rfl
 ·obtain ⟨r8,h8,th⟩:=KG hm (ts:=ws) (by omega) hg;rcases th with ⟨ps,rfl,hws,ok⟩ | ⟨rfl,nope⟩
  ·refine cA (r:=.d (.tup (ps.map dN))) (x:=.d (.tup (ps.map dN))) (c3 (z:=.d (.tup (ps.map dN))) sl1 rfl rfl h8) rfl ?_;have pe:p=dG (n,ps):=by rw [bk n,hws,show w0=dg [n,":"] from fD (by rw [hk];exact (iG n 58).symm)];rfl
   refine b6 (jc (c:=!ar.isEmpty) (A0 rfl (i8 (by rw [iH rfl rfl,show ((⟨#[58]⟩:Str) == ":")=true by decide +kernel]) (ne_nil rfl))) (λq=>bX (r:=.d .non) rfl rfl (no (λr h e=>?_) λr h e z=>?_)) λq=>fM ?_)
   ·cases (Ob r h e).2.1
   ·subst z;cases q
   ·have ez:ar=[]:=by simpa using q
    refine b6 (Jm (A:=ms.map b9) (B:=ar.map bZ) (d:=b9 (n,ps)) rfl (okE _ (jd (f:=dN) (λ_=>rfl) ps)) (jd yf ms) (jd ye ar) (jf (bY rfl rfl (bY rfl rfl eG)) (QF 2 998)) rfl (yf (n,ps)) (by simpa using by omega) (by simpa using by omega) false (n1 (two rfl rfl (K02.eq_str false _ _)) (by rw [show ((⟨#[58]⟩:Str) == ">")=false by decide +kernel];rfl)) (fM (.inl ⟨(n,ps),some (.d (.str p)),some (.own ((w0::ws).map .str)),some (.d (.str n)),some (.d (.str ⟨#[58]⟩)),some (.d (.tup (ps.map dN))),⟨hn,ok⟩,pe,ez,?_⟩)));unfold eW;rw [Qs];rfl
  ·refine cA (r:=.d .non) (x:=.d .non) (c3 (z:=.d .non) sl1 rfl rfl h8) rfl (b6 (jW rfl (bX (r:=.d .non) rfl rfl (no (λr h e=>?_) λr h e=>?_))))
   ·cases (Ob r h e).2.1
   ·exact (nope ⟨r.2,(Oe r h e).2.2,h.2⟩).elim
 ·obtain ⟨r8,h8,th⟩:=KC hm (ts:=ws) (by omega) hg;rcases th with ⟨ps,rfl,hws,ok⟩ | ⟨rfl,nope⟩
  ·refine cA (r:=.d (.tup (ps.map dP))) (x:=.d (.tup (ps.map dP))) (c3 (z:=.d (.tup (ps.map dP))) sl1 rfl rfl h8) rfl ?_;have pe:p=dQ (n,ps):=by rw [bk n,hws,show w0=dg [n,">"] from fD (by rw [hk];exact (iG n 62).symm)];rfl
   refine b6 (jN (A0 rfl (pS (by rw [iH rfl rfl,show ((⟨#[62]⟩:Str) == ":")=false by decide +kernel]))) (fM ?_));refine b6 (Jm (A:=ms.map b9) (B:=ar.map bZ) (d:=bZ (n,ps)) rfl (okE _ (jd (f:=dP) (λ_=>rfl) ps)) (jd yf ms) (jd ye ar) (jf (bY rfl rfl (bY rfl rfl eG)) (QF 2 998)) rfl (ye (n,ps)) (by simpa using by omega) (by simpa using by omega) true (n1 (two rfl rfl (K02.eq_str false _ _)) (by rw [show ((⟨#[62]⟩:Str) == ">")=true by decide +kernel];rfl)) (fM (.inr (.inl ⟨(n,ps),some (.d (.str p)),some (.own ((w0::ws).map .str)),some (.d (.str n)),some (.d (.str ⟨#[62]⟩)),some (.d (.tup (ps.map dP))),⟨hn,ok⟩,pe,?_⟩))));unfold eW;rw [Qs];rfl
  ·refine cA (r:=.d .non) (x:=.d .non) (c3 (z:=.d .non) sl1 rfl rfl h8) rfl (b6 (jW rfl (bX (r:=.d .non) rfl rfl (no (λr h e=>?_) λr h e=>?_))))
   ·exact (nope ⟨r.2,(Ob r h e).2.2,h.2⟩).elim
   ·cases (Oe r h e).2.1
noncomputable def uZ (ns:List Str):Bool:=decide (ns.length<=3) && gj (ns.map .str)
theorem pV {ns:List Str}(h:∀s∈ns,fY s=true):uZ ns=true↔qC ns:=by
 unfold uZ;rw [Pr,decide_eq_true_eq];constructor
 ·exact λ⟨a,b⟩=>⟨a,h,oK (f:=D.str) FH (λa b h=>of_decide_eq_true h) _ b⟩
 ·exact λ⟨a,_,c⟩=>⟨a,rS (by rw [Rv];exact c.imp fun {a b} q=>decide_eq_true q)⟩
theorem Mh (ns:List Str):kC (ns.map .str):=λa ha b hb=>by obtain ⟨_,_,rfl⟩:=Pn.mp ha;obtain ⟨_,_,rfl⟩:=Pn.mp hb;rfl
theorem FN {α:Type}{f:Str×α->D}{b:Str×α->D}(hf:∀r,f r=.tup [.str r.1,b r]){rs:List (Str×α)}(hl:rs.length<=100000){env:Ev}{Q:O->Prop}(h8:aa 8 env=.ok (.d (.lst (rs.map f)))) (k1:uZ (rs.map Rz)=true->Q (.nx env)) (k2:uZ (rs.map Rz)=false->Q (.rt (.d .non))):Wp (wC env) Q:=by
 have nm:bC 1 [] (gy (aa 8)) (aF 0) dc (g2 bP (aa 0) (gC (.int 0))) env=.ok (.l .fresh ((rs.map Rz).map .str)):=by
  rw [PY];refine qX (xs:=rs) (h:=f) (λr=>.str r.1) ?_ (by omega) λr hr=>⟨.d (.str r.1),?_,rfl⟩
  ·show (aa 8 env >>= _)=_;rw [h8];rfl
  ·rw [hf r];exact two rfl rfl (bJ _ _)
 have ln:aK (g2 (bz λi j=>.bl (decide (j < i))) (gN dz (ah (aa 8) ak)) (gC (.int 3))) env=.ok (!decide ((rs.map Rz).length<=3)):=by show (g2 _ _ _ _ >>= _)=_;rw [two (x:=.d (.int (rs.map f).length)) (n1 h8 rfl) rfl rfl];show M.ok (decide ((3:Int) < (rs.map f).length))=_;rw [Pj,Pj,<-decide_not];congr 1;exact decide_eq_decide.mpr (by omega)
 refine jc (c:=!uZ (rs.map Rz)) ?_ (λq=>bX (r:=.d .non) rfl rfl (k2 (by simpa using q))) λq=>fM (k1 (by simpa using q));show (aK _ _ >>= _)=_;rw [ln];unfold uZ;cases decide ((rs.map Rz).length<=3) with
 | false=>rfl
 | true=>
  show ((gN _ _ _ >>= _) >>= _)=_;rw [c1 nm (wI (by rw [Pj,Pj];omega) (Mh _))];rfl
theorem IJ (z:Str):inD (.str z) ((["1","2","3","4","5","6","7","8"]:List Str).map .str)=true↔∃m,1<=m/\m<=8/\z=fg m:=by
 rw [uB,show (["1","2","3","4","5","6","7","8"]:List Str)=(Qc 8).map λp=>fg (p + 1) by decide +kernel,U1];constructor
 ·rintro ⟨w,hw,e⟩;obtain ⟨p,hp,rfl⟩:=Pn.mp hw;exact ⟨p + 1,by omega,by have:=Qt.mp hp;omega,(eq_of_beq e).symm⟩
 ·rintro ⟨m,h1,h2,rfl⟩;exact ⟨_,Pn.mpr ⟨m - 1,Qt.mpr (by omega),rfl⟩,by rw [show m - 1 + 1=m by omega];simp⟩
theorem IX {p:Nat}(h:p<=8):mZ [.d (.str (fg p))]=.ok (.d (.int p)):=by
 match p,h with
 | 0,_=>with_unfolding_all rfl
 | 1,_=>with_unfolding_all rfl
 | 2,_=>with_unfolding_all rfl
 | 3,_=>with_unfolding_all rfl
 | 4,_=>with_unfolding_all rfl
 | 5,_=>with_unfolding_all rfl
 | 6,_=>with_unfolding_all rfl
 | 7,_=>with_unfolding_all rfl
 | 8,_=>with_unfolding_all rfl
theorem u_ {α β γ:Type}{f:α->γ}{g:β->γ}{P:α->Prop}{Q:β->Prop}(hf:∀a a',P a->P a'->f a=f a'->a=a') (hg:∀b b',Q b->Q b'->g b=g b'->b=b') (hn:∀a b,P a->Q b->f a≠g b):∀{xs xs':List α}{ys ys':List β},(∀a∈xs,P a)->(∀a∈xs',P a)->(∀b∈ys,Q b)->(∀b∈ys',Q b)->xs.map f++ys.map g=xs'.map f++ys'.map g->xs=xs'/\ys=ys'
 | [],[],ys,ys',_,_,h3,h4,e=>⟨rfl,map_inj (λa ha b hb=>hg a b (h3 a ha) (h4 b hb)) (by simpa using e)⟩
 | x::xs,x'::xs',ys,ys',h1,h2,h3,h4,e=>by obtain ⟨e1,e2⟩:=Rb e;have e1:=hf x x' (h1 x P0) (h2 x' P0) e1;obtain ⟨a,b⟩:=u_ hf hg hn (λa ha=>h1 a (Py _ ha)) (λa ha=>h2 a (Py _ ha)) h3 h4 e2;rw [e1,a,b];exact ⟨rfl,rfl⟩
 | [],x'::xs',ys,ys',h1,h2,h3,h4,e=>by
  cases ys with
  | nil=>cases e
  | cons y ys=>exact (hn x' y (h2 x' P0) (h3 y P0) (Rb e).1.symm).elim
 | x::xs,[],ys,ys',h1,h2,h3,h4,e=>by
  cases ys' with
  | nil=>cases e
  | cons y ys'=>exact (hn x y (h1 x P0) (h4 y P0) (Rb e).1).elim
theorem E_ {w:Wd}(h:w.Ok):(∀r∈w.ms,GM w.m r)/\∀r∈w.ar,GA w.m r:=⟨λr hr=>⟨h.mn.2.1 r.1 (Pn.mpr ⟨r,hr,rfl⟩),h.mp r hr⟩,λr hr=>⟨h.an.2.1 r.1 (Pn.mpr ⟨r,hr,rfl⟩),h.ap r hr⟩⟩
noncomputable def Fd (t:Str) (r:R):Prop:=(∃w:Wd,r=.d w.d/\w.Ok/\bN w=t)\/(r=.d .non/\∀w:Wd,w.Ok->bN w≠t)
theorem Di {t:Str}(ht:t.length<=15000):Wp (iW [.d (.str t)]) (Fd t):=by
 obtain ⟨z,ts,hs⟩:=kZ t "; ";have hc:=iU (x:=t) (y:="; ") (by decide);have hg:∀w∈ts,w.length<=t.length:=λw hw=>kX (y:="; ") (by rw [hs];exact Py _ hw);rw [hs,P4] at hc;have wOk:∀w:Wd,w.Ok->bN w=t->z=fg w.m/\ts=w.ms.map dG++w.ar.map dQ:=λw h e=>by have a:=nN (Ok.sh h) (Ok.lt h);rw [e,hs] at a;exact Rb a
 have jt:t=RD "; " (z::ts):=by rw [<-hs,join_split]
 refine tV (cA (r:=.l .fresh ((z::ts).map .str)) (x:=.own ((z::ts).map .str)) (by rw [<-hs];exact nL rfl (by omega) rfl) rfl ?_);have ix:∀{a b c d e f g:Option S},g2 bP (aa 1) (gC (.int 0)) [some (.d (.str t)),some (.own ((z::ts).map .str)),a,b,c,d,e,f,g]=.ok (.d (.str z)):=two rfl rfl (p5 (k:=0) rfl);refine b6 (jc (c:=!inD (.str z) ((["1","2","3","4","5","6","7","8"]:List Str).map .str)) ?_ (λq=>bX (r:=.d .non) rfl rfl ⟨_,rfl,.inr ⟨rfl,λw h e=>?_⟩⟩) λq=>fM ?_)
 ·show (g2 (gQ true) (g2 bP (aa 1) (gC (.int 0))) _ [some (.d (.str t)),some (.own ((z::ts).map .str)),none,none,none,none,none,none,none] >>= _)=_;rw [two (y:=.l .fresh ((["1","2","3","4","5","6","7","8"]:List Str).map .str)) ix rfl (z:=.d (.bl (!inD (.str z) ((["1","2","3","4","5","6","7","8"]:List Str).map .str)))) ?_]
  ·rfl
  ·unfold gQ;rw [show jE (.l .fresh ((["1","2","3","4","5","6","7","8"]:List Str).map .str))=.ok ((["1","2","3","4","5","6","7","8"]:List Str).map .str) from rfl,aY,if_pos ⟨by rw [xK];exact QG _,QG _⟩];rfl
 ·rw [(IJ z).mpr ⟨w.m,h.lo,h.hi,(wOk w h e).1⟩] at q;cases q
 obtain ⟨m,m1,m8,rfl⟩:=(IJ z).mp (by simpa using q);have wM:∀w:Wd,w.Ok->bN w=t->w.m=m:=λw h e=>(oR m8 h.hi (wOk w h e).1).symm;refine cA (r:=.d (.int m)) (x:=.d (.int m)) (n1 ix (IX m8)) rfl ?_;refine b6 ⟨_,rfl,?_⟩;refine Ka (ds:=ts.map .str) (by
  show M.ok (R.l .fresh (cutD (.str (fg m)::ts.map .str) (some 1) none))=_;rw [uu]) (yg ts) ?_
 refine ql (λk e=>∃ms ar a b c d f,e=eW t (fg m::ts) m ms ar a b c d f/\ts.take k=ms.map dG++ar.map dQ/\(∀r∈ms,GM m r)/\(∀r∈ar,GA m r)/\ms.length + ar.length=k) (λr=>Fd t r) _ ⟨[],[],none,none,none,none,none,rfl,rfl,λ_ h=>(nomatch h),λ_ h=>(nomatch h),rfl⟩ ?_ ?_ λr h=>⟨r,rfl,h⟩
 ·rintro k hk e ⟨ms,ar,a,b,c,d,f,rfl,h1,h2,h3,h4⟩;rw [Pj] at hk;rw [RE];have N7:ts[k]∈ts:=Qz hk;refine ⟨eW t (fg m::ts) m ms ar (some (.d (.str ts[k]))) b c d f,rfl,?_⟩;refine (Ga m8 (by have:=hg _ N7;omega) (by omega) (by omega) b c d f).mono λo st=>?_;rcases st with ⟨r,a,b,c,d,f,g1,g2',rfl,rfl⟩ | ⟨r,a,b,c,d,f,g1,g2',rfl⟩ | ⟨rfl,nA,nM⟩
  ·refine .inl ⟨_,rfl,ms++[r],[],a,b,c,d,f,rfl,?_,λs hs=>?_,h3,by simp at h4 ⊢;exact h4⟩
   ·rw [QH hk,h1,g2'];simp
   ·rcases P8.mp hs with hs | hs
    ·exact h2 s hs
    ·rw [P1.mp hs];exact g1
  ·refine .inl ⟨_,rfl,ms,ar++[r],a,b,c,d,f,rfl,?_,h2,λs hs=>?_,by simp;omega⟩
   ·rw [QH hk,h1,g2'];simp
   ·rcases P8.mp hs with hs | hs
    ·exact h3 s hs
    ·rw [P1.mp hs];exact g1
  ·refine .inr ⟨_,rfl,.inr ⟨rfl,λw h e=>?_⟩⟩;obtain ⟨_,ets⟩:=wOk w h e;obtain ⟨gm,ga⟩:=E_ h;rw [wM w h e] at gm ga;by_cases lt:k < w.ms.length
   ·have ek:ts[k]=dG w.ms[k]:=by
     have:ts[k]?=some (dG w.ms[k]):=by rw [ets,Q2 (by simpa using lt),Qg,PV lt];rfl
     rw [PV hk] at this;exact P7 this
    have ne:=nM _ (gm _ (Qz lt)) ek;obtain ⟨r0,hr0⟩:=List.exists_mem_of_ne_nil _ ne;have mem:dQ r0∈ts.take k:=by rw [h1];exact Qo _ (Pn.mpr ⟨r0,hr0,rfl⟩)
    rw [ets,List.take_append_of_le_length (by rw [Pj];omega),<-X4] at mem;obtain ⟨r1,hr1,e1⟩:=Pn.mp mem;exact E8 m8 m8 (gm r1 (List.mem_of_mem_take hr1)) (h3 r0 hr0) e1
   ·have hk':=hk;rw [ets,Pu,Pj,Pj] at hk';have la:k - w.ms.length < w.ar.length:=by omega
    have ek:ts[k]=dQ w.ar[k - w.ms.length]:=by
     have:ts[k]?=some (dQ w.ar[k - w.ms.length]):=by rw [ets,Qy (by rw [Pj];omega),Pj,Qg,PV la];rfl
     rw [PV hk] at this;exact P7 this
    exact nA _ (ga _ (Qz la)) ek
 ·rintro e ⟨ms,ar,a,b,c,d,f,rfl,h1,h2,h3,h4⟩;rw [Pj] at h1 h4;rw [Q_] at h1;have uniq:∀w:Wd,w.Ok->bN w=t->w.ms=ms/\w.ar=ar:=λw h e=>by obtain ⟨_,ets⟩:=wOk w h e;obtain ⟨gm,ga⟩:=E_ h;rw [wM w h e] at gm ga;exact u_ (P:=GM m) (Q:=GA m) (λa b h k=>mk_inj m8 m8 h k) (λa b h k=>Iw m8 m8 h k) (λa b h k=>E8 m8 m8 h k) gm h2 ga h3 (ets.symm.trans h1)
  have nmM:∀s∈ms.map Rz,fY s=true:=λs hs=>by obtain ⟨r,hr,rfl⟩:=Pn.mp hs;exact (h2 r hr).1
  have nmA:∀s∈ar.map Rz,fY s=true:=λs hs=>by obtain ⟨r,hr,rfl⟩:=Pn.mp hs;exact (h3 r hr).1
  refine nI (ds:=[.lst (ms.map b9),.lst (ar.map bZ)]) rfl (ql (λk e=>(∃f,e=eW t (fg m::ts) m ms ar a b c d f)/\(1<=k->uZ (ms.map Rz)=true)/\(2<=k->uZ (ar.map Rz)=true)) (λr=>Fd t r) _ ⟨⟨f,rfl⟩,λh=>(nomatch h),λh=>(nomatch h)⟩ ?_ ?_ λr h=>⟨r,rfl,h⟩)
  ·rintro k hk e ⟨⟨f,rfl⟩,q1,q2⟩
   match k,hk with
   | 0,_=>
    refine ⟨eW t (fg m::ts) m ms ar a b c d (some (.d (.lst (ms.map b9)))),rfl,?_⟩;exact FN (f:=b9) (λr=>rfl) (by omega) rfl (λq=>.inl ⟨_,rfl,⟨_,rfl⟩,λ_=>q,λh=>absurd h (by omega)⟩) λq=>.inr ⟨_,rfl,.inr ⟨rfl,λw h e=>by
     have:=(pV nmM).mpr ((uniq w h e).1▸h.mn);rw [this] at q;cases q⟩⟩
   | 1,_=>
    refine ⟨eW t (fg m::ts) m ms ar a b c d (some (.d (.lst (ar.map bZ)))),rfl,?_⟩;exact FN (f:=bZ) (λr=>rfl) (by omega) rfl (λq=>.inl ⟨_,rfl,⟨_,rfl⟩,λ_=>q1 (by omega),λ_=>q⟩) λq=>.inr ⟨_,rfl,.inr ⟨rfl,λw h e=>by
     have:=(pV nmA).mpr ((uniq w h e).2▸h.an);rw [this] at q;cases q⟩⟩
  ·rintro e ⟨⟨f,rfl⟩,q1,q2⟩;refine bX (r:=.d (Wd.d ⟨m,ms,ar⟩)) (jf (bY rfl rfl (bY (r:=.d (.tup (ms.map b9))) (n1 (two rfl rfl (bJ _ _)) rfl) rfl (bY (r:=.d (.tup (ar.map bZ))) (n1 (two rfl rfl (bK _ _ _)) rfl) rfl eG))) (QF 3 997)) rfl ⟨_,rfl,.inl ⟨⟨m,ms,ar⟩,rfl,⟨m1,m8,(pV nmM).mp (q1 (QF 1 1)),(pV nmA).mp (q2 (PJ 2)),λr hr=>(h2 r hr).2,λr hr=>(h3 r hr).2⟩,?_⟩⟩;rw [jt,h1];rfl
theorem FT:ir [.d (.exn "NoWorld" [] [])]=.ok (.l .fresh [.int 0,.int 10,.int 11]):=by rfl
theorem zY {w:Wd}(h:w.Ok):K04.cG 10 [.d w.d,.d w.d]=.ok (.d (.bl true)):=by
 have a:=h.mn.1;have b:=h.an.1;rw [Pj] at a b;obtain ⟨p,d⟩:=K04.Lg w a b (λr hr=>by have:=(h.mp r hr).1;omega) λr hr=>by have:=(h.ap r hr).1;omega
 exact K04.Bm 10 _ p (by omega) (by omega)
theorem FI {g:G O}{env:Ev}{Q:O->Prop}(h:g env=.exc nW) (k:Q (.nx ((env.set 2 (some (.d (.exn "NoWorld" [] [])))).set 3 none))):Wp (oS 3 2 XL g env) Q:=by refine ⟨_,?_,k⟩;unfold oS;rw [h];show (if XL.contains "NoWorld"=true then _ else _)=_;rw [if_pos (by decide +kernel)]
theorem LC {g:G O}{env e:Ev}{Q:O->Prop}(h:g env=.ok (.nx e)) (k:Q (.nx e)):Wp (oS 3 2 XL g env) Q:=by refine ⟨_,?_,k⟩;unfold oS;rw [h]
theorem BG {d:D}{a b:Option S}{u:G O}{Q:O->Prop}(k:Q (.rt (.d (.bl true)))):Wp (aq (aJ (aK (g2 (rY false) (aa 4) (gC .non))) (aE (g2 (cJ false) (gN (au 1 K05.ir) (ah (aa 2) ak)) (cT (aj (gC (.int 0)) (aj (gC (.int 10)) (aj (gC (.int 11)) aC)))))) aU) u [some (.d d),a,some (.d (.exn "NoWorld" [] [])),b,some (.d .non)]) Q:=
 b6 (jW rfl (bX (r:=.d (.bl true)) (two (x:=.l .fresh [.int 0,.int 10,.int 11]) (y:=.l .fresh [.int 0,.int 10,.int 11]) (c1 (x:=.d (.exn "NoWorld" [] [])) rfl FT) rfl rfl) rfl k))
theorem x_call {d:D}{env:Ev}(h0:aa 0 env=.ok (.d d)) (h:di [.d d]=.exc nW):aG 1 (gN (dY 1 K05.di) (ah (aa 0) ak)) env=.exc nW:=by
 rcases lA (Q:=λ_=>False) h0 (.inl h) with e | ⟨_,_,f⟩
 ·show (gN _ _ _ >>= _)=_;rw [e];rfl
 ·exact f.elim
theorem gV {t:Str}(ht:t.length<=15000):fR [.d (.str t)]=.ok (.d (.bl true)):=by
 refine gq (cA (r:=.d .non) (x:=.d .non) rfl rfl (cA (r:=.d .non) (x:=.d .non) rfl rfl ?_));obtain ⟨r,hr,fd⟩:=Di ht;rcases fd with ⟨w,rfl,ok,rfl⟩ | ⟨rfl,no⟩
 ·refine b6 (LC (e:=[some (.d (.str (bN w))),some (.d w.d),some (.d .non),none,none]) ?_ ?_)
  ·obtain ⟨_,e,k⟩:=wD (i:=1) (Q:=(·=.nx [some (.d (.str (bN w))),some (.d w.d),some (.d .non),none,none])) (env:=[some (.d (.str (bN w))),some (.d .non),some (.d .non),none,none]) (r:=.d w.d) (x:=.d w.d) (mP (g:=aa 0) (x:=.d (.str (bN w))) (z:=.d w.d) rfl (Bl ok)) rfl rfl;exact e.trans (congrArg M.ok k)
  refine cA (r:=.d .non) (x:=.d .non) rfl rfl (b6 (jW rfl (wD (r:=.d w.d) (x:=.d w.d) (c1 (x:=.d (.str (bN w))) rfl hr) rfl ?_)));refine yH rfl (bX (r:=.d (.bl true)) ?_ rfl rfl);show gN (au 2 (K04.cG 10)) (ah (aa 1) (ah (aa 4) ak)) [some (.d (.str (bN w))),some (.d w.d),some (.d .non),none,some (.d w.d)]=_;exact c2 (x:=.d w.d) (y:=.d w.d) (z:=.d (.bl true)) rfl rfl (zY ok)
 ·have x:di [.d (.str t)]=.exc nW:=by
   rcases F4 ht with h | ⟨_,_,w,_,ok,e⟩
   ·exact h
   ·exact (no w ok e).elim
  refine b6 (FI (x_call rfl x) (cA (r:=.d .non) (x:=.d .non) rfl rfl (b6 (jW rfl (wD (r:=.d .non) (x:=.d .non) (c1 (x:=.d (.str t)) rfl hr) rfl (BG rfl))))))
theorem Jr {d:D}(h:br "str" (aa 0) [some (.d d),none,none,none,none,none]=.ok (.d (.bl false))):di [.d d]=.exc nW:=by
 have t:aP (aK (br "str" (aa 0))) [some (.d d),none,none,none,none,none]=.ok true:=by show ((br _ _ _ >>= _) >>= _)=_;rw [h];rfl
 rcases mO (P:=λ_=>False) (t:=lN) (env:=[some (.d d),none,none,none,none,none]) (iB (wH t (λ_=>nU) λq=>nomatch q)) with e | ⟨_,_,f⟩
 ·exact e
 ·exact f.elim
theorem rO {d:D}(h:∀tl:Ev,br "str" (aa 0) (some (.d d)::tl)=.ok (.d (.bl false))):fR [.d d]=.ok (.d (.bl true)):=by refine gq (cA (r:=.d .non) (x:=.d .non) rfl rfl (cA (r:=.d .non) (x:=.d .non) rfl rfl (b6 (FI (x_call rfl (Jr (h _))) (cA (r:=.d .non) (x:=.d .non) rfl rfl (b6 (jN ?_ (fM (BG rfl)))))))));show (br "str" (aa 0) (some (.d d)::_) >>= _)=_;rw [h];rfl
section
variable {env:Ev}{g:G R}
theorem qR {lo hi:GO}{l u:Option Int}{x:Str}(h:g env=.ok (.d (.str x))) (hl:lo env=.ok l) (hu:hi env=.ok u) (hx:x.length<=1000000):dw gx g lo hi env=.ok (.d (.str (QY x l u))):=by show (g env >>= _)=_;rw [h];show (lo env >>= _)=_;rw [hl];show (hi env >>= _)=_;rw [hu];show (if x.length<=sizeLine then _ else _)=_;rw [if_pos (by rw [Qw];omega)]
theorem Et {lo hi:GO}{l u:Option Int}{xs:List D}(h:g env=.ok (.l .own xs)) (hl:lo env=.ok l) (hu:hi env=.ok u):dw eZ g lo hi env=.ok (.l .fresh (cutD xs l u)):=by show (g env >>= _)=_;rw [h];show (lo env >>= _)=_;rw [hl];show (hi env >>= _)=_;rw [hu];rfl
theorem jO {i:Int}(h:g env=.ok (.d (.int i))):dM g env=.ok (some i):=by show (g env >>= _)=_;rw [h];rfl
end
noncomputable def A6:Str:="012345678 ;:>-abz\n"
theorem Hv:A6.length=18:=by decide +kernel
theorem Jc (i:Int) (h0:0<=i) (h:i < 18):∃c,bP (.d (.str A6)) (.d (.int i))=.ok (.d (.str ⟨#[c]⟩)):=by
 obtain ⟨k,rfl⟩:=Int.eq_ofNat_of_zero_le h0;have lt:k < A6.cps.toList.length:=by
  have:A6.cps.toList.length=18:=by decide +kernel
  omega
 exact ⟨_,uv (k:=k) (by rw [Hv];omega) (PV lt)⟩
theorem DW {w:Wd}(h:w.Ok):(wP w).length<=7/\∀x∈wP w,x.length<=298:=by
 have a:=h.mn.1;have b:=h.an.1;rw [Pj] at a b;refine ⟨by simp [wP];omega,λx hx=>?_⟩;rcases Pp.mp hx with rfl | hx
 ·rw [gA h.hi];decide
 ·rcases P8.mp hx with hx | hx
  ·obtain ⟨r,hr,rfl⟩:=Pn.mp hx;have n8:=qd (h.mn.2.1 r.1 (Pn.mpr ⟨r,hr,rfl⟩));have q:=kJ (f:=λp=>[32,48 + p]) (λ_=>by simp) r.2;have l8:=(h.mp r hr).1;rw [<-bF,sO ((Ok.sh h).mn r hr).2.2,Pu,P4,bF];omega
  ·obtain ⟨r,hr,rfl⟩:=Pn.mp hx;have n8:=qd (h.an.2.1 r.1 (Pn.mpr ⟨r,hr,rfl⟩));have q:=kJ (f:=λp:Nat×Nat=>[32,48 + p.1,45,48 + p.2]) (λ_=>by simp) r.2;have l8:=(h.ap r hr).1;rw [<-bF,rV ((Ok.sh h).an r hr).2.2,Pu,P4,bF];omega
theorem xU {m:Md}{ga:G R}{env:Ev}{ts:List Str}(h2:ga env=.ok (.l m (ts.map .str))) (hl:ts.length<=14) (hx:∀x∈ts,x.length<=298):∃t:Str,gZ (gC (.str "; ")) ga env=.ok (.d (.str t))/\t.length<=15000:=by
 have h:∀x∈ts,x.length + ("; ":Str).length<=300:=λx h=>by have:=hx x h;show x.length + 2<=300;omega
 refine ⟨_,jw rfl h2 (zU h (by rw [Qw];omega)),?_⟩;have:=l5 "; " h;omega
theorem Dh {w:Wd}(h:w.Ok) (n:Int):Wp (iV [.d (.str (bN w)),.d (.int n)]) λr=>∃t:Str,r=.d (.str t)/\t.length<=15000:=by
 have hl:=rz h;obtain ⟨p7,p3⟩:=DW h;obtain ⟨c,hc⟩:=Jc (n % 18) (by omega) (by omega);have hs:=nN (Ok.sh h) (Ok.lt h);have p0:0 < (wP w).length:=by simp [wP]
 generalize bN w=t at hl hs ⊢;generalize wP w=ps at p7 p3 hs p0;have lt:dz [.d (.str t)]=.ok (.d (.int t.length)):=K05N.len_str (by omega);refine tV (cA (r:=.d (.str ⟨#[c]⟩)) (x:=.d (.str ⟨#[c]⟩)) (two rfl (two rfl rfl (cW n 18 (by decide))) hc) rfl ?_);refine cA (r:=.d (.int (n / 18 % ((t.length:Int) + 1)))) (x:=.d (.int (n / 18 % ((t.length:Int) + 1)))) (two (two rfl rfl (fh n 18 (by decide) (by decide))) (two (n1 rfl lt) rfl rfl) (cW _ _ (by omega))) rfl ?_;generalize n / 18 % ((t.length:Int) + 1)=a;refine cA (r:=.d (.int (a + 1 + n / 9000 % 4))) (x:=.d (.int (a + 1 + n / 9000 % 4))) (two (two rfl rfl rfl) (two (two rfl rfl (fh n 9000 (by decide) (by decide))) rfl (cW _ 4 (by decide))) rfl) rfl ?_;generalize a + 1 + n / 9000 % 4=f;refine cA (r:=.d (.int (n / 36000 % 7))) (x:=.d (.int (n / 36000 % 7))) (two (two rfl rfl (fh n 36000 (by decide) (by decide))) rfl (cW _ 7 (by decide))) rfl ?_;generalize n / 36000 % 7=v;refine cA (r:=.l .fresh (ps.map .str)) (x:=.own (ps.map .str)) (by rw [<-hs];exact nL rfl (by omega) rfl) rfl ?_;refine cA (r:=.d (.int (n / 18 % ((ps.map D.str).length:Int)))) (x:=.d (.int (n / 18 % ((ps.map D.str).length:Int)))) (two (two rfl rfl (fh n 18 (by decide) (by decide))) (n1 rfl (AS _ _)) (cW _ _ (by rw [Pj];omega))) rfl ?_;generalize n / 18 % ((ps.map D.str).length:Int)=s;have sl:=λl u=>Uw t l u;have c1l:(⟨#[c]⟩:Str).length=1:=rfl;have fin1:∀{x:Str},x.length<=15000->∃r,O.rt (.d (.str x))=O.rt r/\∃t:Str,r=.d (.str t)/\t.length<=15000:=fun {x} hx=>⟨_,rfl,x,rfl,hx⟩;have ap:∀a b:Str,(a++b).length=a.length + b.length:=λa b=>K05.len_app a b;have iv:∀k:Int,∀env:Ev,aa 5 env=.ok (.d (.int v))->aK (g2 (cJ false) (aa 5) (gC (.int k))) env=.ok (v == k):=λk env h=>by show (g2 _ _ _ _ >>= _)=_;rw [two h rfl (eq_int false v k)];rfl
 refine b6 (jc (iv 0 _ rfl) (λ_=>bX (r:=.d (.str ((QY t none (some a)++⟨#[c]⟩)++QY t (some a) none))) (two (two (qR rfl rfl (jO rfl) (by omega)) rfl (fV (by have:=sl none (some a);rw [c1l];omega))) (qR rfl (jO rfl) rfl (by omega)) (fV (by have:=sl none (some a);have:=sl (some a) none;rw [ap,c1l];omega))) rfl (fin1 (by have:=sl none (some a);have:=sl (some a) none;rw [ap,ap,c1l];omega))) λ_=>fM ?_);refine b6 (jc (iv 1 _ rfl) (λ_=>bX (r:=.d (.str (QY t none (some a)++QY t (some (a + 1)) none))) (two (qR rfl rfl (jO rfl) (by omega)) (qR rfl (jO (two rfl rfl rfl)) rfl (by omega)) (fV (by have:=sl none (some a);have:=sl (some (a + 1)) none;omega))) rfl (fin1 (by have:=sl none (some a);have:=sl (some (a + 1)) none;rw [ap];omega))) λ_=>fM ?_);refine b6 (jc (iv 2 _ rfl) (λ_=>bX (r:=.d (.str ((QY t none (some a)++⟨#[c]⟩)++QY t (some (a + 1)) none))) (two (two (qR rfl rfl (jO rfl) (by omega)) rfl (fV (by have:=sl none (some a);rw [c1l];omega))) (qR rfl (jO (two rfl rfl rfl)) rfl (by omega)) (fV (by have:=sl none (some a);have:=sl (some (a + 1)) none;rw [ap,c1l];omega))) rfl (fin1 (by have:=sl none (some a);have:=sl (some (a + 1)) none;rw [ap,ap,c1l];omega))) λ_=>fM ?_);refine b6 (jc (iv 3 _ rfl) (λ_=>bX (r:=.d (.str (QY t none (some f)++QY t (some a) none))) (two (qR rfl rfl (jO rfl) (by omega)) (qR rfl (jO rfl) rfl (by omega)) (fV (by have:=sl none (some f);have:=sl (some a) none;omega))) rfl (fin1 (by have:=sl none (some f);have:=sl (some a) none;rw [ap];omega))) λ_=>fM ?_);refine b6 (jc (iv 4 _ rfl) (λ_=>?_) λ_=>fM ?_)
 ·obtain ⟨y1,e1,q1⟩:=lY D.str ps none (some (s + 1));obtain ⟨y2,e2,q2⟩:=lY D.str ps (some s) none;have s1:y1.Sublist ps:=by rw [q1];exact lZ _ _ _
  have s2:y2.Sublist ps:=by rw [q2];exact lZ _ _ _
  have l1:=s1.length_le;have l2:=s2.length_le;obtain ⟨x,hx,lx⟩:=xU (m:=.fresh) (ts:=y1++y2) (ga:=g2 bO (dw eZ (aa 6) dZ (dM (g2 bO (aa 7) (gC (.int 1))))) (dw eZ (aa 6) (dM (aa 7)) dZ)) (env:=[some (.d (.str t)),some (.d (.int n)),some (.d (.str ⟨#[c]⟩)),some (.d (.int a)),some (.d (.int f)),some (.d (.int v)),some (.own (ps.map .str)),some (.d (.int s))]) (two (x:=.l .fresh (y1.map .str)) (y:=.l .fresh (y2.map .str)) (by rw [<-e1];exact Et rfl rfl (jO (two rfl rfl rfl))) (by rw [<-e2];exact Et rfl (jO rfl) rfl) (by rw [wc _ _ (by simp;omega),Qs])) (by rw [Pu];omega) λz hz=>by
   rcases P8.mp hz with hz | hz
   ·exact p3 z (s1.subset hz)
   ·exact p3 z (s2.subset hz)
  exact bX (r:=.d (.str x)) hx rfl (fin1 lx)
 refine b6 (jc (iv 5 _ rfl) (λ_=>?_) λ_=>fM ?_)
 ·obtain ⟨y1,e1,q1⟩:=lY D.str ps none (some 1);have s1:y1.Sublist ps:=by rw [q1];exact lZ _ _ _
  have l1:=s1.length_le;have l2:(ps.drop 1).reverse.length<=ps.length:=by rw [VG,QX];omega
  obtain ⟨x,hx,lx⟩:=xU (m:=.fresh) (ts:=y1++(ps.drop 1).reverse) (ga:=g2 bO (dw eZ (aa 6) dZ (dM (gC (.int 1)))) (DI (aa 6))) (env:=[some (.d (.str t)),some (.d (.int n)),some (.d (.str ⟨#[c]⟩)),some (.d (.int a)),some (.d (.int f)),some (.d (.int v)),some (.own (ps.map .str)),some (.d (.int s))]) (two (x:=.l .fresh (y1.map .str)) (y:=.l .fresh ((ps.drop 1).reverse.map .str)) (by rw [<-e1];exact Et rfl rfl rfl) (by show M.ok (R.l .fresh ((ps.map D.str).drop 1).reverse)=_;rw [<-X5,<-List.map_reverse]) (by rw [wc _ _ (by simp;omega),Qs])) (by rw [Pu];omega) λz hz=>by
   rcases P8.mp hz with hz | hz
   ·exact p3 z (s1.subset hz)
   ·exact p3 z (Vw (List.mem_reverse.mp hz))
  exact bX (r:=.d (.str x)) hx rfl (fin1 lx)
 exact bX (r:=.d (.str (QY t none (some a)++QY t (some f) none))) (two (qR rfl rfl (jO rfl) (by omega)) (qR rfl (jO rfl) rfl (by omega)) (fV (by have:=sl none (some a);have:=sl (some f) none;omega))) rfl (fin1 (by have:=sl none (some a);have:=sl (some f) none;rw [ap];omega))
theorem Mr {gs:G (List R)}{env:Ev}{n:Nat}(hg:gs env=.ok [.d (.int 8),.d (.int (n:Int))]) (h:n<=1000):wg gs env=.ok (eg 8 (n - 8)):=by unfold wg;rw [hg];show (if (below 4611686018427387904 8 && below 4611686018427387904 (n:Int))=true then _ else _)=_;rw [cO.mpr ⟨by omega,by omega⟩,cO.mpr ⟨by omega,by omega⟩,show ((n:Int) - 8).toNat=n - 8 by omega];rfl
theorem Fw {env:Ev}{Q:O->Prop}{g:G R}{d:D}(h:g env=.ok (.d d)) (hr:fR [.d d]=.ok (.d (.bl true))) (k:Q (.nx env)):Wp (aJ (aP (aK (gN (au 1 K05.fR) (ah g ak)))) (aE (gC (.bl false))) aU env) Q:=by refine jN ?_ (fM k);show ((gN _ _ _ >>= _) >>= _)=_;rw [c1 (x:=.d d) h hr];rfl
noncomputable abbrev eM (ns:List Int) (w:Wd) (a b c:Option S):Ev:=[some (.bor (ns.map D.int)),some (.d (.int w.m)),some (.d w.d),some (.d (.str (bN w))),some (.d (.str (bN w))),a,b,c]
theorem GB (ns:List Int) (hl:ns.length<=63):uc [.bor (ns.map D.int)]=.ok (.d (.bl true)):=by
 obtain ⟨A,B,ht,tA,tB⟩:=Dg (K01.fK ns 1);obtain ⟨m,hm⟩:∃m:Nat,1 + K01.fK ns 0 % 8=m:=⟨(1 + K01.fK ns 0 % 8).toNat,by omega⟩;have m8:m<=8:=by omega
 obtain ⟨ms,rs,hw,fa,fb,pa,pb⟩:=Ia ns 2 m m8 A B tA tB;have hw:K01.f7 [.bor (ns.map D.int),.d (.int 2),.d (.int m),.d (.tup [.tup (A.map .str),.tup (B.map .str)])]=.ok (.d (Wd.d ⟨m,ms,rs⟩)):=hw;have ok:Wd.Ok ⟨m,ms,rs⟩:=⟨show 1<=m by omega,m8,fa.symm▸tA,fb.symm▸tB,pa,pb⟩;have wm:(Wd.mk m ms rs).m=m:=rfl;generalize Wd.mk m ms rs=w at *;subst wm;have hc:=K01.Bk ns;refine gq (cA (r:=.d (.int w.m)) (x:=.d (.int w.m)) (two (x:=.d (.int 1)) (y:=.d (.int (K01.fK ns 0 % 8))) rfl (two (c2 rfl rfl (hc 0)) rfl (cW _ 8 (by decide))) (by rw [<-hm];rfl)) rfl ?_);refine cA (r:=.d w.d) (x:=.d w.d) (c4 (z:=.d w.d) (y:=.d (.int 2)) (w:=.d (.int w.m)) (v:=.d (.tup [.tup (A.map .str),.tup (B.map .str)])) rfl rfl rfl (c1 (x:=.d (.int (K01.fK ns 1))) (z:=.d (.tup [.tup (A.map .str),.tup (B.map .str)])) (c2 (z:=.d (.int (K01.fK ns 1))) rfl rfl (hc 1)) ht) hw) rfl ?_;refine cA (r:=.d (.str (bN w))) (x:=.d (.str (bN w))) (c1 (x:=.d w.d) (z:=.d (.str (bN w))) rfl (H_ (Ok.sh ok))) rfl ?_;refine cA (r:=.d (.str (bN w))) (x:=.d (.str (bN w))) (c1 (x:=.d w.d) (z:=.d (.str (bN w))) rfl (wJ (Ok.sh ok))) rfl ?_;have len:=rz ok;show Wp (aq _ _ (eM ns w none none none)) _;refine yH (A0 rfl (A0 (b:=false) ?_ ?_)) ?_
 ·show (g2 _ _ _ _ >>= _)=_;rw [two (x:=.d (.str (bN w))) (y:=.d (.str (bN w))) rfl rfl (K02.eq_str true _ _)];simp
 ·show ((gN _ _ _ >>= _) >>= _)=_;rw [c2 (x:=.d w.d) (y:=.d w.d) (z:=.d (.bl true)) (c1 (x:=.d (.str (bN w))) (z:=.d w.d) rfl (Bl ok)) rfl (zY ok)];rfl
 obtain ⟨N,hN,O2⟩:∃N:Nat,(if (if (62:Int) < ((ns.map D.int).length:Int) then (62:Int) else ((ns.map D.int).length:Int)) > 9 then (if (62:Int) < ((ns.map D.int).length:Int) then (62:Int) else ((ns.map D.int).length:Int)) else 9)=N/\N<=62:=by rw [Pj];refine ⟨max 9 (min ns.length 62),?_,by omega⟩;split <;> split at * <;> omega
 refine nI (ds:=eg 8 (N - 8)) (Mr (n:=N) (by rw [<-hN];rfl) (by omega)) (tY (λ_ e=>∃a b,e=eM ns w a b none) _ ⟨none,none,rfl⟩ ?_ ?_)
 ·rintro k hk e ⟨a,b,rfl⟩;have ek:(eg 8 (N - 8))[k]=.int ((8 + k:Nat):Int):=by simp [eg]
  rw [ek];refine ⟨eM ns w (some (.d (.int ((8 + k:Nat):Int)))) b none,rfl,?_⟩;have kl:8 + k < 62:=by
   have:(eg 8 (N - 8)).length=N - 8:=by simp [eg]
   omega
  generalize 8 + k=j at kl;refine cA (r:=.d (.int ((K01.fK ns j + 17 * (j:Int)) * 91193 % 998244353))) (x:=.d (.int ((K01.fK ns j + 17 * (j:Int)) * 91193 % 998244353))) (two (two (two (c2 rfl rfl (hc j)) (two rfl rfl (yQ 17 j (by decide) (by decide))) rfl) rfl (mH _ 91193 (by decide) (by decide))) rfl (cW _ _ (by decide))) rfl ?_;generalize (K01.fK ns j + 17 * (j:Int)) * 91193 % 998244353=n;obtain ⟨r,hr,t,rfl,lt⟩:=Dh ok n;exact Fw (d:=.str t) (c2 (z:=.d (.str t)) rfl rfl hr) (gV lt) ⟨_,rfl,_,_,rfl⟩
 ·rintro e ⟨a,b,rfl⟩;have nl1:("\n":Str).length=1:=by decide +kernel
  refine nI (ds:=[.str (bN w++"\n"),.str ("\n"++bN w),.str "",.int 3,.non,.lst [.str "3"],.tup [.int 3,.tup [],.tup []],.str "9",.str "0",.str "08",.str "3 ",.str "3;"]) ?_ (tY (λ_ e=>∃c,e=eM ns w a b c) _ ⟨none,rfl⟩ ?_ ?_)
  ·show (cT _ _ >>= _)=_;rw [mw (ds:=[.str (bN w++"\n"),.str ("\n"++bN w),.str "",.int 3,.non,.lst [.str "3"],.tup [.int 3,.tup [],.tup []],.str "9",.str "0",.str "08",.str "3 ",.str "3;"]) (bY (two rfl rfl (fV (by omega))) rfl (bY (two rfl rfl (fV (by omega))) rfl rfl)) (QF 12 988)];rfl
  ·rintro k hk e ⟨c,rfl⟩;generalize hd:([.str (bN w++"\n"),.str ("\n"++bN w),.str "",.int 3,.non,.lst [.str "3"],.tup [.int 3,.tup [],.tup []],.str "9",.str "0",.str "08",.str "3 ",.str "3;"]:List D)[k]=d;have hm:d∈([.str (bN w++"\n"),.str ("\n"++bN w),.str "",.int 3,.non,.lst [.str "3"],.tup [.int 3,.tup [],.tup []],.str "9",.str "0",.str "08",.str "3 ",.str "3;"]:List D):=hd▸Qz hk;refine ⟨eM ns w a b (some (.d d)),rfl,Fw (d:=d) rfl ?_ ⟨_,rfl,_,rfl⟩⟩;simp only [Pp,P9,or_false] at hm;rcases hm with rfl | rfl | rfl | rfl | rfl | rfl | rfl | rfl | rfl | rfl | rfl | rfl
   ·exact gV (by rw [K05.len_app];omega)
   ·exact gV (by rw [K05.len_app];omega)
   ·exact gV (by decide)
   ·exact rO λ_=>rfl
   ·exact rO λ_=>rfl
   ·exact rO λ_=>rfl
   ·exact rO λ_=>rfl
   ·exact gV (by decide)
   ·exact gV (by decide)
   ·exact gV (by decide)
   ·exact gV (by decide)
   ·exact gV (by decide)
  ·rintro e ⟨c,rfl⟩;exact bX (r:=.d (.bl true)) rfl rfl rfl
end K05
namespace K05
open PySem PySem.Spec PyProof.Rows L2 DL DX
theorem all_mk {l:Vi}{w:Qn}{K:Pe}{h:QV}{mg:Str->Option Ph}{fa:PK}(X:K.In h) (G:h.Ns Pz mg) (OU:mg "law"=some (.ref fa))
  {f33:PK}{o33 n33:Option PK}{s33:Array (Option Ph)}{u33 v33 d33 p33 q33 r33:Ph}
  {f1c:PK}{sl1c:Array (Option Ph)}{n1c:Nat}{t2:Tok}{t3:Tok}{t4:Tok}{t5:Tok}{t6:Tok}{t7:Tok}{t8:Tok}{t9:Tok}{t10:Tok}
  {t11:Tok}
  {t12:Tok}
  {t13:Tok}
  {f14c:PK}{sl14c:Array (Option Ph)}{n14c:Nat}{t15:Tok}{t16:Tok}{t17:Tok}{t18:Tok}{t19:Tok}{t20:Tok}{t21:Tok}{t22:Tok}
  {jh:PK}
  {pO xn0:PK}{nm0x q0x:Str}{bs0x:List Ph}{sn0x:List Str}{su0x:List Ph}{ab0x:Bool}{co0x:Option Bool}{dd0x:Option PK}{ka0x kb0x kc0x kd0x ke0x:Option Ph}
  {mP:PK}
  {xc2:PK}
  {xc3:PK}
  {xc4:PK}
  {xc5:PK}
  {xc6:PK}
  {xc7:PK}
  {xc8:PK}
  {xc9:PK}
  {cn0x:Ph}{dn0x:Option PK}{es0x:Array U_}{ep0x:Nat}{sl0x:Array (Option Ph)}
  (e0:FA K "is_whole" vp)
  (e1:FA K "is_name" yL)
  (e2:FA K "is_point" vo)
  (e3:FA K "is_pair" yM)
  (e4:FA K "rise" FG)
  (e5:FA K "are_points" qQ)
  (e6:FA K "are_pairs" tL)
  (e7:FA K "is_named" vn)
  (e8:FA K "are_named" tK)
  (e9:FA K "is_world" vq)
  (e10:FA K "show_mark" tP)
  (e11:FA K "show_arrow" qS)
  (e12:FA K "show_world" qU)
  (e13:FA K "read_figure" k6)
  (e14:FA K "read_pair" nP)
  (e15:FA K "read_mark" nO)
  (e16:FA K "read_arrow" lR)
  (e17:FA K "read_world" lS)
  (e18:FA K "_law_cell" tE)
  (e19:FA K "_law_names" qN)
  (e20:FA K "_law_some" tG)
  (e21:FA K "_law_pairs" qO)
  (e22:FA K "_law_tongue" pK)
  (e23:FA K "_law_world" qP)
  (e24:FA K "_law_kinds" qM)
  (e25:FA K "_law_same" nJ)
  (e26:FA K "_law_text" tH)
  (e27:FA K "_law_is_name" oq)
  (e28:FA K "_law_rising" pI)
  (e29:FA K "_law_things" pJ)
  (e30:FA K "_law_writes" pM)
  (e31:FA K "_law_turned" pL)
  (e32:FA K "_law_read" tF)
  (a33:PR K Pz "law"=some (some (.ref f33)))
  (l33:K.lookup f33=some ⟨u33,o33,.func (Q5 "law" "law" (d8 nK) (bW nK) (aQ nK) .none v33 d33 p33 n33 q33 r33),s33⟩)
  (c33:TF K q33 "law"=true)
  (k33:QN K (.ref f33)=true)
  (z0:PR K Pz "ValueError"=some none)
  (z1:PR K Pz "all"=some none)
  (z2:PR K Pz "bool"=some none)
  (z3:PR K Pz "int"=some none)
  (z4:PR K Pz "isinstance"=some none)
  (z5:PR K Pz "len"=some none)
  (z6:PR K Pz "max"=some none)
  (z7:PR K Pz "min"=some none)
  (z8:PR K Pz "range"=some none)
  (z9:PR K Pz "sorted"=some none)
  (z10:PR K Pz "str"=some none)
  (z11:PR K Pz "tuple"=some none)
  (z12:PR K Pz "zip"=some none)
  (gFIGURES:PR K Pz "FIGURES"=some (some (.ref f1c)))
  (lc1:K.lookup f1c=some ⟨.type "tuple",none,.seq #[(.str "0" t2),(.str "1" t3),(.str "2" t4),(.str "3" t5),(.str "4" t6),(.str "5" t7),(.str "6" t8),(.str "7" t9),(.str "8" t10)] n1c,sl1c⟩)
  (gLETTERS:PR K Pz "LETTERS"=some (some (.str "abcdefghijklmnopqrstuvwxyz" t11)))
  (gMOST_NAMES:PR K Pz "MOST_NAMES"=some (some (.int 3 t12)))
  (gMOST_POINTS:PR K Pz "MOST_POINTS"=some (some (.int 8 t13)))
  (gWORDS:PR K Pz "WORDS"=some (some (.ref f14c)))
  (lc14:K.lookup f14c=some ⟨.type "tuple",none,.seq #[(.str "and" t15),(.str "or" t16),(.str "not" t17),(.str "some" t18),(.str "every" t19),(.str "least" t20),(.str "true" t21),(.str "false" t22)] n14c,sl14c⟩)
  (xaP:PR K Pz "PickError"=some (some (.ref jh)))
  (GX0:GX K jh)
  (xa0:PR K Pz "NoWorld"=some (some (.ref pO)))
  (xl0:K.lookup pO=some (Rr nm0x q0x pO xn0 bs0x (.ref jh::jQ) true sn0x su0x ab0x co0x dd0x ka0x kb0x kc0x kd0x ke0x "ValueError.__new__"))
  (xg0:Q3 K (.ref pO) "__getattribute__"=some (some (.builtin "BaseException.__getattribute__")))
  (xh0:Q3 K (.ref pO) "__getattr__"=some none)
  (xk0:Q3 K (.ref pO) "__class__"=some (some (.builtin "object.__class__")))
  (xa1:PR K Pz "NoTongue"=some (some (.ref mP)))
  (xe1:XE K jh mP)
  (xa2:PR K Pz "NoSaying"=some (some (.ref xc2)))
  (xe2:XE K jh xc2)
  (xa3:PR K Pz "NoMore"=some (some (.ref xc3)))
  (xe3:XE K jh xc3)
  (xa4:PR K Pz "NoName"=some (some (.ref xc4)))
  (xe4:XE K jh xc4)
  (xa5:PR K Pz "NoLetter"=some (some (.ref xc5)))
  (xe5:XE K jh xc5)
  (xa6:PR K Pz "TooMany"=some (some (.ref xc6)))
  (xe6:XE K jh xc6)
  (xa7:PR K Pz "NoCount"=some (some (.ref xc7)))
  (xe7:XE K jh xc7)
  (xa8:PR K Pz "NoPoint"=some (some (.ref xc8)))
  (xe8:XE K jh xc8)
  (xa9:PR K Pz "NoRow"=some (some (.ref xc9)))
  (xe9:XE K jh xc9)
  (xp0:QN K (.ref pO)=true)
  (xm0:K.lookup xn0=some ⟨cn0x,dn0x,.dict es0x ep0x,sl0x⟩)
  (xs0:A9 es0x=true)
  (xi0:nsFind es0x "__init__"=none)
  (xd:(jh::([("NoWorld",pO),("NoTongue",mP),("NoSaying",xc2),("NoMore",xc3),("NoName",xc4),("NoLetter",xc5),("TooMany",xc6),("NoCount",xc7),("NoPoint",xc8),("NoRow",xc9)]:List (Str×PK)).map (λp:Str×PK=>p.2)).Nodup):
  ∃fd:Qi,(∀(s:Pk) (v:Ph),W4 s fd ⟨[v],[]⟩ [("_law_script",v)])/\∀base:QV,K.In base->base.Ns Pz mg->fL l.prog w K mg base lT 12 fa fd ["_law_script"] (ou K 1 K05.uc):=by
 have e:=OU.symm.trans (Qk X G a33);cases e;obtain ⟨f13,d13,a13,F13⟩:=e13;obtain ⟨f14,d14,a14,F14⟩:=e14;obtain ⟨f15,d15,a15,F15⟩:=e15;obtain ⟨f16,d16,a16,F16⟩:=e16;obtain ⟨f17,d17,a17,F17⟩:=e17;obtain ⟨f25,d25,a25,F25⟩:=e25;have F33:=BO (st:=nK) l33 c33 k33;have m:eE w K mg:=⟨Qv X G z0,
   Qv X G z1,
   Qv X G z2,
   Qv X G z3,
   Qv X G z4,
   Qv X G z5,
   Qv X G z6,
   Qv X G z7,
   Qv X G z8,
   Qv X G z9,
   Qv X G z10,
   Qv X G z11,
   Qv X G z12,
   ⟨_,(.ref f1c),Qk X G gFIGURES,rfl,λ_=>(.tup (vs:=[(L2.V.str "0"),(L2.V.str "1"),(L2.V.str "2"),(L2.V.str "3"),(L2.V.str "4"),(L2.V.str "5"),(L2.V.str "6"),(L2.V.str "7"),(L2.V.str "8")]) (.inr ⟨_,_,n1c,lc1,rfl,rfl,rfl,(by show 9<=sizeLine;decide),.cons ⟨_,rfl⟩ (.cons ⟨_,rfl⟩ (.cons ⟨_,rfl⟩ (.cons ⟨_,rfl⟩ (.cons ⟨_,rfl⟩ (.cons ⟨_,rfl⟩ (.cons ⟨_,rfl⟩ (.cons ⟨_,rfl⟩ (.cons ⟨_,rfl⟩ (.nil)))))))))⟩) (.cons (.str _) (.cons (.str _) (.cons (.str _) (.cons (.str _) (.cons (.str _) (.cons (.str _) (.cons (.str _) (.cons (.str _) (.cons (.str _) (.nil)))))))))))⟩,
   ⟨_,(.str "abcdefghijklmnopqrstuvwxyz"),Qk X G gLETTERS,⟨_,rfl⟩,λ_=>(.str _)⟩,
   ⟨_,(.int 3),Qk X G gMOST_NAMES,⟨_,rfl⟩,λ_=>(.int _)⟩,
   ⟨_,(.int 8),Qk X G gMOST_POINTS,⟨_,rfl⟩,λ_=>(.int _)⟩,
   ⟨_,(.ref f14c),Qk X G gWORDS,rfl,λ_=>(.tup (vs:=[(L2.V.str "and"),(L2.V.str "or"),(L2.V.str "not"),(L2.V.str "some"),(L2.V.str "every"),(L2.V.str "least"),(L2.V.str "true"),(L2.V.str "false")]) (.inr ⟨_,_,n14c,lc14,rfl,rfl,rfl,(by show 8<=sizeLine;decide),.cons ⟨_,rfl⟩ (.cons ⟨_,rfl⟩ (.cons ⟨_,rfl⟩ (.cons ⟨_,rfl⟩ (.cons ⟨_,rfl⟩ (.cons ⟨_,rfl⟩ (.cons ⟨_,rfl⟩ (.cons ⟨_,rfl⟩ (.nil))))))))⟩) (.cons (.str _) (.cons (.str _) (.cons (.str _) (.cons (.str _) (.cons (.str _) (.cons (.str _) (.cons (.str _) (.cons (.str _) (.nil))))))))))⟩,
   show qV K mg XL from HR GX0 (Qk X G xaP) (ps:=([("NoWorld",pO),("NoTongue",mP),("NoSaying",xc2),("NoMore",xc3),("NoName",xc4),("NoLetter",xc5),("TooMany",xc6),("NoCount",xc7),("NoPoint",xc8),("NoRow",xc9)]:List (Str×PK))) (QL.mpr ⟨⟨xa0,Bg xl0 xg0 xh0 xk0,Qk X G xa0⟩,QL.mpr ⟨⟨xa1,xe1,Qk X G xa1⟩,QL.mpr ⟨⟨xa2,xe2,Qk X G xa2⟩,QL.mpr ⟨⟨xa3,xe3,Qk X G xa3⟩,QL.mpr ⟨⟨xa4,xe4,Qk X G xa4⟩,QL.mpr ⟨⟨xa5,xe5,Qk X G xa5⟩,QL.mpr ⟨⟨xa6,xe6,Qk X G xa6⟩,QL.mpr ⟨⟨xa7,xe7,Qk X G xa7⟩,QL.mpr ⟨⟨xa8,xe8,Qk X G xa8⟩,QL.mpr ⟨⟨xa9,xe9,Qk X G xa9⟩,λ_ z=>nomatch z⟩⟩⟩⟩⟩⟩⟩⟩⟩⟩) xd⟩
 refine ⟨Q5 "law" "law" (d8 nK) (bW nK) (aQ nK) .none v33 d33 p33 n33 q33 r33,λs v=>.of_eq rfl,λbase _ _=>?_⟩;have R_NoWorld:wU l.prog w K mg base "NoWorld":=Ho GX0 (Bg xl0 xg0 xh0 xk0) (Qk X G xa0) xa0 xl0 xm0 xs0 xi0 xp0;have C0:=zd (P:=l.prog) (base:=base) m (c5 X G e0);have C1:=AD (P:=l.prog) (base:=base) m (c5 X G e1);have C2:=zc (P:=l.prog) (base:=base) m C0 (c5 X G e2);have C3:=AE (P:=l.prog) (base:=base) m C2 (c5 X G e3);have C4:=Gd (P:=l.prog) (base:=base) m (c5 X G e4);have C5:=vK (P:=l.prog) (base:=base) m C2 C4 (c5 X G e5);have C6:=xo (P:=l.prog) (base:=base) m C3 C4 (c5 X G e6);have C7:=zb (P:=l.prog) (base:=base) m C1 (c5 X G e7);have C8:=xm (P:=l.prog) (base:=base) m C7 C4 (c5 X G e8);have C9:=ze (P:=l.prog) (base:=base) m C0 C8 C5 C6 (c5 X G e9);have C10:=xC (P:=l.prog) (base:=base) m (c5 X G e10);have C11:=vO (P:=l.prog) (base:=base) m (c5 X G e11);have C12:=vP (P:=l.prog) (base:=base) m C10 C11 (c5 X G e12);have C13:=uq (P:=l.prog) (base:=base) m R_NoWorld F13 (Qk X G a13);have C14:=xB (P:=l.prog) (base:=base) m C13 F14 (Qk X G a14);have C15:=xA (P:=l.prog) (base:=base) m C13 F15 (Qk X G a15);have C16:=vM (P:=l.prog) (base:=base) m C14 F16 (Qk X G a16);have C17:=vN (P:=l.prog) (base:=base) m C15 C16 C13 C9 C12 R_NoWorld F17 (Qk X G a17);have C18:=w_ (P:=l.prog) (base:=base) m (c5 X G e18);have C19:=vH (P:=l.prog) (base:=base) m (c5 X G e19);have C20:=xh (P:=l.prog) (base:=base) m (c5 X G e20);have C21:=vI (P:=l.prog) (base:=base) m (c5 X G e21);have C22:=uh (P:=l.prog) (base:=base) m C19 (c5 X G e22);have C23:=vJ (P:=l.prog) (base:=base) m C18 C20 C21 (c5 X G e23);have C24:=vG (P:=l.prog) (base:=base) m (c5 X G e24);have C25:=oN (P:=l.prog) (base:=base) m F25 (Qk X G a25) 10;have C26:=xj (P:=l.prog) (base:=base) m (c5 X G e26);have C27:=rW (P:=l.prog) (base:=base) m (c5 X G e27);have C28:=uf (P:=l.prog) (base:=base) m (c5 X G e28);have C29:=ug (P:=l.prog) (base:=base) m C28 (c5 X G e29);have C30:=uo (P:=l.prog) (base:=base) m C27 C29 C28 (c5 X G e30);have C31:=um (P:=l.prog) (base:=base) m (c5 X G e31);have C32:=xg (P:=l.prog) (base:=base) m C17 C30 C24 C25 (c5 X G e32);exact K_ m C18 C22 C23 C26 C12 C17 C25 C31 C32 F33
theorem Hz (K:Pe) (H:Hp) (a:PK) (ns:List Int) (hl:ns.length<=63) (hO:As H) (hS:cX K H a (ns.map V.int)):ou K 1 K05.uc [.ref a] H (λv _=>v=.bl true) λ_ _ _=>False:=by
 refine ⟨λ_=>none,[.bor (ns.map D.int)],λ_ _ z=>(by cases z),rfl,⟨_,[],rfl,⟨a,_,rfl,hS,?_⟩,rfl⟩,?_⟩
 ·exact K01.vh ns
 ·rw [GB ns hl];intro v J H2 _ r;cases r;rfl
theorem walk {l:Vi}{q:PX}{loose:List Str}{XP:(Str->Option Ph)->QV->Prop}{YP:Qn->QV->Prop}{d:DefRec}{K:Xu->Pe}(hn:l.most=some 63) (hdf:d.params.defaults=[])
  (hY:∀(w:Qn) (h:QV),YP w h->(K w.params).In h)
  (F:∀(w:Qn) (mg:Str->Option Ph) (fa:PK) (h:QV),(K w.params).In h->h.Ns Pz mg->mg d.name=some (.ref fa)->
   ∃fd:Qi,(∀(s:Pk) (u:Ph),W4 s fd ⟨[u],[]⟩ [("_law_script",u)])/\∀base:QV,(K w.params).In base->base.Ns Pz mg->fL l.prog w (K w.params) mg base lT 12 fa fd ["_law_script"] (ou (K w.params) 1 K05.uc)):
  X0 q loose XP YP l.row.toRowW d [] (λf vs=>XA f vs):=
 L2.HM (n:=63) (k:=12) (x:="_law_script") (CX:=λ_=>lT) (sp:=λw=>ou (K w.params) 1 K05.uc) hn (by decide) hdf ⟨rfl,by decide,by decide⟩ hY F (λw H a ns hl hO hS=>Hz _ H a ns hl hO hS) λ_ _ _ _ _ z=>z
end K05
open PySem PySem.W PyProof.Rows
set_option maxRecDepth 100000 in
set_option maxHeartbeats 0 in
theorem PySem.Challenge.cw_pickalike_k05_written_and_read_holds : PySem.Challenge.rw_pickalike_k05_written_and_read.Holds := by
 refine holds_law K05.look λsaid=>?_;refine holds_open (q:=K05.VW) (XP:=XL K05.VW []) (YP:=Hook.says K05.HK) K05.left (Hook.of K05.HK) (Hook.keeps K05.HK) (λs e=>xl_of s (RH.mp e).1) XL.keeps (by rfl) (by rfl) (by rfl) (λs e=>recFacts_of (RH.mp e).2) (by rfl) said (by decide +kernel) ⟨rfl,rfl,rfl,rfl,rfl,by decide +kernel⟩ ?hw ?hc
 (case hw=>w_witness2)
 delta K05.HK
 k_fill
 refine K05.walk (l:=P5) rfl rfl (K:=K05.KF) (λw h Y=>PySem.W.kIn_of Y) ?F
 case F=>
  intro w mg fa h KX G hmg;refine' K05.all_mk KX G hmg ..
  all_goals try first | k_is | (refine' DL.KJ ?a ?l ?c ?k;case a | l | c | k=>k_is) | rfl | (refine' DL.Bg ?a ?l ?c ?k;case a | l | c | k=>k_is) | (refine' DL.KN ?y0 ?y1 ?y2 ?y3 ?y4 ?y5;(case y0=>k_is);(case y1=>k_is);(case y2 | y3=>rfl);case y4 | y5=>k_is)
  all_goals decide
