import PyProof.Rows.All
import KE.KIsAll
import KE.KSortTup
import PySem.Challenge.RW_pickalike_k21_what_fits
theorem zA (_:True:=by rfl):True:=trivial
theorem zB (_:True:=by decide):True:=trivial
noncomputable section
open And renaming intro->UN
open Array renaming length_toList->M_,toList_append->NL,getElem?_toList->N3,getElem?_eq_some_iff->Ov,toList_push->OV,toList_extract->Pp,getD->PF,getElem?_eq_getElem->QE,toList_reverse->QF,toList_inj->Rr,forIn_toList->RV,getD_eq_getD_getElem?->SW,toList->Us,append_empty->Vr
open Array.Perm renaming mem_iff->Tc,refl->Ws
open Bool renaming and_eq_true->M8,false_eq_true->Nn,false_ne_true->N6,eq_iff_iff->O4,or_eq_true->P0,not_true->Qd,true_and->QA,and_eq_true_iff->Rk,and_false->Sg,not_false->Si,or_false->Xo,and_self->Xr,false_or->Xx
open Classical renaming byContradiction->PY,propDecidable->XA
open False renaming elim->Q8
open ForInStep renaming yield->Ql
open Int renaming toNat_natCast->Pa,emod_lt_of_pos->Pk,emod_nonneg->Qm,eq_ofNat_of_zero_le->RQ,ediv_one->XG
open List renaming length_map->M7,mem_map->M9,mem_cons_of_mem->Na,getElem?_eq_getElem->Nc,mem_cons_self->Nd,range->Ng,size_toArray->Ni,mem_cons->Nj,getElem?_eq_some_iff->Nr,getElem?_map->Nx,map_cons->Nz,mem_of_getElem?->NB,all_eq_true->NC,mem_iff_getElem->ND,length_append->NG,mem_singleton->NH,mem_range->NQ,mem_append->NV,map_append->NW,append_assoc->NX,getElem?_set_ne->NY,map_map->N4,take_append_drop->N5,length_take->N7,getD_eq_getElem?_getD->N_,mem_append_right->Oa,pairwise_iff_getElem->Ob,not_mem_nil->Of,getElem?_set_self->Oj,length_range->Oo,idxOf_lt_length_of_mem->Oq,replicate->Ot,pairwise_map->OB,mem_of_mem_drop->OF,getElem?_take_of_lt->OL,length_cons->OP,getElem?_append_right->OW,pairwise_append->OX,append_nil->O0,length_drop->O5,lookup_cons->O6,getElem_mem->O7,length_replicate->O_,getElem_drop->Pc,pairwise_cons->Ph,take_of_length_le->Px,drop_sublist->PJ,getElem_take->PK,eraseIdx_eq_take_drop_succ->PL,getElem?_append_left->PR,drop_eq_getElem_cons->PV,nodup_cons->PZ,perm_append_comm->P5,ext_getElem->P8,mem_reverse->P_,mem_of_mem_take->Qa,nodup_range->Qs,all_cons->QM,replicate_succ->QN,any_eq_true->QT,nodup_nil->QW,drop_zero->QX,pairwise_lt_range->QY,getElem_idxOf->QZ,getElem?_drop->Q2,mem_filter->Q3,length->Q5,take_sublist->Q_,perm_ext_iff_of_nodup->Rh,mem_append_left->Rj,getElem_inj->Rq,filterMap_cons->Rt,mem_filterMap->RD,getElem?_replicate->RG,foldl_cons->RL,map_take->RS,map_drop->RT,length_eq_zero_iff->RW,getElem_cons_drop->R3,reverse_cons->R8,getElem?_reverse->Sl,length_filter_le->Sm,singleton_append->Sn,pairwise_reverse->Sq,eq_nil_of_length_eq_zero->Ss,length_eraseIdx->Sz,getElem?_range->SK,drop_drop->Ti,take_zero->Tj,drop_take->To,nodup_append->Tz,getElem_append_left->TF,getD->TM,reverse_perm->TQ,filter_cons_of_pos->TY,filter_cons_of_neg->TZ,pairwise_filterMap->T3,zipIdx_cons->Uc,getElem_map->Ud,perm_middle->Ue,mem_flatMap->Uh,range_succ_eq_map->Uj,drop_eq_nil_of_le->Ul,of_mem_zip->Uv,map_nil->Uy,forIn_cons->UA,all_map->UB,mem_iff_getElem?->UI,range_succ->UK,foldl->UP,forIn_nil->UW,take_succ->U0,filter_eq_self->U6,map_congr_left->U9,length_reverse->U_,filterMap_map->Vf,contains_cons->Vl,any_cons->Vn,zip_cons_cons->Vt,map_singleton->Vw,eraseIdx_nil->VM,idxOf_append->VQ,zipWith->VV,le_antisymm->V3,take_length->V8,map_flatMap->V9,zipIdx_nil->Wn,length_nil->Wv,filterMap->WT,take_take->WY,any_map->XU,lookup->Yj,map->YY
open List.Nodup renaming length_le_of_subset->NI
open List.Pairwise renaming nil->Qh,and_mem->Qz,imp->Sa,filter->US,of_map->X3,and->YG,map->YJ
open List.Perm renaming append_left->Q6,refl->U1,of_eq->Wz,eq_of_pairwise->Xf,swap->YU
open List.cons renaming injEq->YT,inj->YX
open Nat renaming le_refl->Nb,lt_of_lt_of_le->Nv,zero_le->Ny,ne_of_lt->NF,le_trans->N8,not_lt_zero->Om,lt_trans->Pb,le_add_right->Pw,lt_irrefl->PM,lt_succ_self->P9,lt_trichotomy->Qi,le_of_lt->Qv,ne_of_gt->Qx,le_of_succ_le->QH,le_succ->QL,zero_add->RA,le_of_lt_succ->Sb,lt_succ_of_lt->Se,mul_le_mul->Sh,mul_le_mul_right->SA,mod_lt->Tw,div_div_eq_div_mul->Um,lt_of_le_of_lt->Vv,lt_or_eq_of_le->Vx,add_assoc->Vy,div_add_mod->Ww,min_eq_left->WE,le_of_eq->XH,pow_succ->XR,sub_self->XW,add_mul->Yp
open Ne renaming symm->P6
open Option renaming isSome_iff_exists->OJ,bind_some->Ub,getD_none->V1,map_some->Wl,none->Yi,map->YF
open Option.some renaming inj->Ow,injEq->Pz
open Or renaming inr->S_,inl->Vs
open Prod renaming fst->OT,ext->Xk,snd->Yx
open PyProof.Rows renaming wpS_bind->Nh,wpS_pure->Np,Keyed->NN,slot_tuple_getitem->NO,wpS_forRange->Ou,SortSt->OR,arrOf->Pq,SortKind->PX,seqObj->P1,wpS_mono->Qn,wpS_modify->Qu,callWith_type1->Q4,wpS_get->Rw,listUpdate_at->RO,setArr->RX,subscriptTail_builtinR->R0,failedOf->Sj,entry_tuple_getitem->SH,seqEpoch_at->SV,envOfC->S7,args_tuple_getitem->S8,slicePart_none->Td,pendingOf->TN,wpS_lift->T7,AllBare->Uq,get?_update_seq->UC,list_sort_plain->UD,entry_list_sort->UH,slot_list_sort->UY,args_list_sort->UZ,getElem?_mirror_all->U7,tupleItemsOf_->Vg,sortedHeap_at->Vu,IntsAre->VF,sortedHeap->VO,callWith_builtin1->VT,listItems_at->VY,getElem?_bubble->Wx,sortedHeap_old->WR,Subscript_->W5,slicePart_int->Xl,subscriptTail->Xn,keyKind'->Xv,mergeAt'->XD,lt_int->Ym,lt_str->Yn,tail_any->Yq,IsTup->Yy,elem'->YK
open PyProof.Rows.F renaming plain_set_update_loop->NJ,entry_set_update_loop->O3
open PyProof.Rows.IsTup renaming new->Wi
open PyProof.Rows.SortSt renaming mk'->OZ
open PySem renaming wpAny_bind->M0,wpAny_pure->M3,Value->M4,Shared->M5,starEach->Nl,wpAny->Nm,model->Nq,Program->Nt,Addr->Nu,Around->NK,wpAny_newObj_type->NP,World->NS,mainGlobals->NT,wpAny_holding->NU,Expr->N9,wpAny_mono->Od,wpAny_call_entry->Oe,wpAny_callSpecial?_slot->Og,cellsFrom->Oi,FuncData->Oz,bootBuiltins->OC,sizeLine_eq->OG,wpAny_field->ON,Heap->OQ,foldedSetIterable->OS,SetTable->OU,wpAny_setField_rec->OY,wpAny_setState_of->Pd,wpAny_seqItems->Pf,behindInMarks->Pg,codeAny_builtin->Pj,wpAny_rule->Py,cLine->PN,codeAny->P7,NameKind->Qc,compareOp->Qj,letOwnedTupleGo->Qk,wpAny_askSetting->Qt,backTo->Qw,wpAny_truthy_bool->QG,codeAny_mono->QI,mem_of_lookup->QK,plainId_quiet->QO,wpAny_forIn_list->QS,assignEach->QU,binaryOp->Q9,wpAny_attempt->Rb,wpAny_standAt->Rg,hashInt->Ri,Scope->Rl,isSubtype_type->Ro,standAt->Ru,wpAny_of_eq->Rv,wpAny_typeOf->Ry,Stmt->RB,wpAny_passesOwn->RE,Builtin->RI,IsPair->RM,mem_of_lookup->RP,wpAny_specialOf->RU,pyNext->RY,sysModules->R6,sliceBounds->R7,wpAny_pyIter_list->R9,wpAny_storeSet_of->Sd,builtinLookup_eq_fast->So,wpAny_isInstance->Su,wpAny_updateSeq_pair->Sy,wpAny_newList->SE,compTurn->SG,wpAny_setEntries_of->SX,codeAny_of_tree->S3,wpAny_Call_Name_kw->S5,wpAny_pyIter_tuple->S9,firstArgMember->Tf,wpAny_newTuple->Tg,swapsWith->Tq,pyIter->Tr,wpAny_sequenceKey->Tt,searchCouldBeSeen->TH,attributeBase->TU,wpAny_onRaise->TX,Comprehension->T5,wpAny_pyHash_int->T8,Paired->T9,noFill_tuple_add->T_,checkBuiltinCall->Ua,codeAny_compStart_list->Uo,wpAny_isTrue_Compare1->Ur,wpAny_execs_nil->Uu,getItem->Uw,setAddHashed->UJ,typeLookup_type->UL,isSubtype->UM,codeAny_call_builtin->UR,isTrue->UT,wpAny_runValue->UX,keywordEach->U3,Keyword->U4,swapsWithSole->Vc,seq_tuple_add->Vd,IsPart->Ve,evalPart_none->Vh,seqIndex?->Vj,DictEntry->Vk,ZipApart->Vp,IsZip->Vq,intKind->VC,wpAny_call->VD,slot_list_getitem->VE,callerA->VG,ofAClassStatement->VR,wpAny_pyIter_slot->VS,concat_meets->VU,wpAny_execs_cons->V0,wpAny_pyIter_zip->V6,GenState->V_,bindArgs->Wa,Result->Wg,BindsTo->Wh,wpAny_letGo->Wo,wpAny_loadPart'->Wq,pushCells->Wt,pushCells_keeps->Wu,pickOrder->WA,wpAny_updateSeq->WC,noteFrame->WG,theTreesLotGoes->WH,compStart->WI,theWindowsPlace->WJ,recursionLimit->WM,wpAny_setField->WO,isSubtype_stop->WQ,newFunctionEnv->WS,setAddHashedIn->WV,entryFor_alias->WW,wpAny_fieldsOf->WX,entryOfKey->WZ,builtinsNs->W0,wpAny_Name->W2,wpAny_load->W3,rawInt->W4,call_meets->W7,call->W8,isInstance->W_,reduceHash->Xa,setsByText->Xc,intKind_is->Xe,swappedStores->Xh,rangeSize_one->Xi,intBits_le_64->Xj,evalPart_some->Xm,backToKw->Xp,wpAny_handled->Xs,setSearchFrom->Xy,wpAny_notedAt->Xz,seqItems?->XM,Fin->XQ,WalksS->XS,bindL->X6,bindC->X7,CellsOk->Yo,Params->Yu,entryFor->Yw,Model->Yz,atKey->YI
open PySem.Around renaming under_plainId->OE
open PySem.Builtin.Frozenset renaming sizeOf->TL,updateFrom->Wc,newClass->WL
open PySem.Builtin.List renaming listTooLong->Rz,listLengthHint->SY,listExtendWith->S0,listSameRef->Xd
open PySem.Builtin.Range renaming rangeSize->TR
open PySem.Builtin.Slice renaming slicePlaces->Oh,sliceAdjust->PU,sliceApplied->Qo,sliceFields->Te,slicePartIndex->Wb
open PySem.Builtin.SmallTypes renaming nextOf->NZ,ownedTupleIsFree->O9,ownedTupleHandOut->Rn
open PySem.Builtin.Str renaming tooLong->U5
open PySem.Builtin.Tuple renaming tupleExact->Ol,tupleHashOf->OA,tupleItemsOf->Qp,tupleCompareSizes->VN,tupleIsExact->WK
open PySem.Calls renaming Name_function_global->S4,call_function_entry->Th
open PySem.Challenge renaming rw_pickalike_k21_what_fits->Ox,pw_pickalike_k21_what_fits->Pu
open PySem.CmpOp renaming NotIn->X4,In->YV
open PySem.Data renaming cell->Wf,fields->X5,seq->Yt
open PySem.Env renaming kindOf->YB
open PySem.Expr renaming Call->YS
open PySem.F renaming slot_tuple_iterator_next->Qq,called_set->Q7,slot_tuple_hash->Rf,args_tuple_add_2->Rx,entry_tuple_add->RH,plainAttrs_list->RN,slot_tuple_add->RZ,plain_list_iadd->R_,args_tuple_iterator_next_1->SD,attrBase_ValueError->SJ,entry_tuple_iterator_next->SN,slot_zip_next->SO,slot_list_append->Tu,type_list_append->Tv,entry_proto_collect->UE,plain_proto_collect->UG,args_zip_next_1->VL,entry_list_iadd->VP,entry_zip_next->V5,slot_set_iter->WB,plain_set_new->WD
open PySem.Heap renaming get?_push_of_some->M6,get?_push_size->Nf,lt_size->Nk,SameBut->OM,get?_update_self->OO,size_push->O1,get?_update_other->R1,get?_update_ne->SS,size_update->V7,ExtBut->Wm
open PySem.Heap.IsList renaming push->V4
open PySem.Heap.IsSliceOf renaming new->Vi
open PySem.Heap.IsTuple renaming push->YD
open PySem.Heap.SameBut renaming update->O8,refl->YH
open PySem.IsL renaming update->YL
open PySem.Moved renaming trans->U8
open PySem.NameKind renaming free->OH,cell->RK
open PySem.Obj renaming mapSeq->Po,putSet->TJ,data_mapFields->Vo
open PySem.Paired renaming length->Xg
open PySem.PassesOwn renaming leaving->YE,never->YR
open PySem.SeqAt renaming EqAt->Qg,ne_of_list_tuple->Uk
open PySem.SeqAt.EqAt renaming same->Ux,int_str->Va,str_int->Vb,of_refs->Vm,tuple_list->XI,list_tuple->XJ,none_bool->XX,bool_none->XY,bool_bool->XZ,none_int->X8,none_str->X_,bool_int->Yb,bool_str->Yc,int_none->Yd,int_bool->Ye,str_none->Yg,str_bool->Yh,int_int->Yr,str_str->Ys
open PySem.SeqAt.RcAt renaming tuples->VI,lists->V2,lists_lengths->Xb
open PySem.SeqAt.RcNeAt renaming tuples->Yk,lists->Yv
open PySem.SetTable renaming insertAt->Pe,sizeAbove->Pn,below->Rp,grown->Sk,tooFull->Sx,advance->Ug,fill->Vz,runEnd->Wy,turns->WU
open PySem.Shared renaming TypeIs->T4,heap->Yl
open PySem.Str renaming ofString->QJ,length->W6
open PySem.Value renaming none->Oc,ref->RC,bool->R4,type->R5,builtin->TV,int->We,str->YO
open PySem.Value.ref renaming inj->YW
open PySem.W renaming Frag->M1,nsIn->OD,mg_none_of->OI,fnOf->Pr,kia_one->P4,kas_desc->Qe,kas_place->Qy,findIn->QC,keepIn->QV,mroIn->Ra,kas_sort->Rc,InstAt->Rm,clsIn->RJ,codeIn->Sf,kas_rev->Sv,kas_asc->Sw,findObj->SI,methodObj->Tp,cellsFrom_some->Ui,OpenLaw->Uz,looks_findIn->UQ,kitOne->UU,specialIn->VH,kitx_dict->VJ,kas_descPart->VX,takesIn->Wj,kitMeta->Wk,kas_count->Wr,notCls->WN,WalkO->Xq,kas_bin->Xu,kat_cons->Xw,mg_of->XC,kas_tail3->XN
open PySem.W.Hook renaming obs->YM,val->YN
open PySem.W.OpenLaw renaming wellSaid->W9
open PySem.W.RowW renaming records->X0
open PySem.W.WData renaming int->YQ
open PySem.W.WShape renaming has->YA
open PySem.Walks renaming list->YC
open PySem.pickOrder renaming go->VZ
open Subtype renaming ext->T6
open Sum renaming inl->VA,inr->VB
open True renaming intro->UO
set_option Elab.async false
set_option linter.all false
set_option autoImplicit true
set_option relaxedAutoImplicit true
set_option maxRecDepth 100000
namespace L2
open PySem PySem.Spec PyProof.Rows
noncomputable abbrev Key:=Sum Int Str
noncomputable def Dw:Key->M4->Bool
 | .inl k,v=>Value.isInt k v
 | .inr x,v=>Value.isStrOf x v
noncomputable def JN (w:NS):Key->Int
 | .inl k=>Ri k
 | .inr x=>hashStr w x
theorem cU:∀{k:Key}{v:M4},Dw k v=true->(∃i t,k=VA i/\v=We i t)\/(∃x t,k=VB x/\v=YO x t)
 | .inl i,v,h=>by obtain ⟨t,e⟩:=Value.isInt_shape (k:=i) (v:=v) h;exact .inl ⟨i,t,rfl,e⟩
 | .inr x,v,h=>by obtain ⟨t,e⟩:=Value.isStrOf_shape (x:=x) (v:=v) h;exact .inr ⟨x,t,rfl,e⟩
theorem GC (a b:Int):decide ((VA a:Key)=VA b)=(a == b):=by
 by_cases e:a=b
 ·subst e;simp
 ·have h:¬(VA a:Key)=VA b:=λq=>e (Sum.inl.inj q);rw [decide_eq_false h];exact (beq_eq_false_iff_ne.mpr e).symm
theorem GG (a b:Str):decide ((VB a:Key)=VB b)=decide (a=b):=by
 by_cases e:a=b
 ·subst e;simp
 ·have h:¬(VB a:Key)=VB b:=λq=>e (Sum.inr.inj q);rw [decide_eq_false h,decide_eq_false e]
theorem GD (a:Int) (b:Str):decide ((VA a:Key)=VB b)=false:=decide_eq_false (λq=>nomatch q)
theorem GF (a:Str) (b:Int):decide ((VB a:Key)=VA b)=false:=decide_eq_false (λq=>nomatch q)
noncomputable def qM (prog:Nt) (w:NS):PySem.KeyKind prog w Key where
 is:=Dw
 hash:=JN w
 inj:=λv a b ha hb=>by
  rcases cU ha with ⟨i,t,rfl,rfl⟩ | ⟨x,t,rfl,rfl⟩
  ·rcases cU hb with ⟨j,u,rfl,e⟩ | ⟨y,u,rfl,e⟩
   ·injection e with e1 _;rw [e1]
   ·exact nomatch e
  ·rcases cU hb with ⟨j,u,rfl,e⟩ | ⟨y,u,rfl,e⟩
   ·exact nomatch e
   ·injection e with e1 _;rw [e1]
 byValue:=λk v h=>by rcases cU h with ⟨i,t,rfl,rfl⟩ | ⟨x,t,rfl,rfl⟩ <;> rfl
 pyHash:=λhv h=>by
  rcases cU hv with ⟨i,t,rfl,rfl⟩ | ⟨x,t,rfl,rfl⟩
  ·exact T8 h
  ·exact wpAny_pyHash_str h
 eqBool:=λhu hv h=>by
  rcases cU hu with ⟨i,t,rfl,rfl⟩ | ⟨x,t,rfl,rfl⟩
  ·rcases cU hv with ⟨j,u,rfl,rfl⟩ | ⟨y,u,rfl,rfl⟩
   ·rw [GC] at h;exact wpAny_eqBool_int h
   ·rw [GD] at h;exact Va i t y u _ _ _ _ h
  ·rcases cU hv with ⟨j,u,rfl,rfl⟩ | ⟨y,u,rfl,rfl⟩
   ·rw [GF] at h;exact Vb x t j u _ _ _ _ h
   ·rw [GG] at h;exact wpAny_eqBool_str h
 «strs»:=λk x t v h=>by
  rcases cU h with ⟨i,u,rfl,e⟩ | ⟨y,u,rfl,e⟩
  ·exact nomatch e
  ·injection e with e1 _
   subst e1;cases v <;> rfl
inductive V where
 | non | bl (b:Bool) | int (i:Int) | str (x:Str) | byt (b:Array UInt8) | flt (b:UInt64) | ref (a:Nu) | ty (n:String)
 deriving DecidableEq
noncomputable def RelV:V->M4->Prop
 | .non,u=>u=Oc
 | .bl b,u=>u=R4 b
 | .int i,u=>∃t,u=We i t
 | .str x,u=>∃t,u=YO x t
 | .byt b,u=>∃t,u=Value.bytes b t
 | .flt b,u=>∃t,u=Value.float b t
 | .ref a,u=>u=RC a
 | .ty n,u=>u=R5 n
noncomputable abbrev Vals:List V->List M4->Prop:=T9 RelV
theorem Vals.length {xs:List V}{us:List M4}(r:Vals xs us):xs.length=us.length:=Xg r
theorem Vals.get:∀{xs:List V}{us:List M4}{i:Nat}{x:V},Vals xs us->xs[i]?=some x->∃u,us[i]?=some u/\RelV x u
 | _,_,_,_,.nil,e=>by simp at e
 | _,_,0,_,.cons r _,e=>by simp at e;subst e;exact ⟨_,rfl,r⟩
 | _,_,i + 1,x,.cons _ t,e=>by obtain ⟨u,h1,h2⟩:=Vals.get (i:=i) (x:=x) t (by simpa using e);exact ⟨u,by simpa using h1,h2⟩
theorem Vals.set {x:V}{u:M4}(r:RelV x u):∀{xs:List V}{us:List M4}(i:Nat),Vals xs us->Vals (xs.set i x) (us.set i u)
 | _,_,_,.nil=>.nil
 | _,_,0,.cons _ t=>.cons r t
 | _,_,i + 1,.cons q t=>.cons q (Vals.set r i t)
theorem Vals.append:∀{xs ys:List V}{us ws:List M4},Vals xs us->Vals ys ws->Vals (xs++ys) (us++ws)
 | _,_,_,_,.nil,s=>s
 | _,_,_,_,.cons r t,s=>.cons r (Vals.append t s)
theorem Vals.take:∀{xs:List V}{us:List M4}(n:Nat),Vals xs us->Vals (xs.take n) (us.take n)
 | _,_,0,_=>.nil
 | _,_,_ + 1,.nil=>.nil
 | _,_,n + 1,.cons r t=>.cons r (Vals.take n t)
theorem Vals.drop:∀{xs:List V}{us:List M4}(n:Nat),Vals xs us->Vals (xs.drop n) (us.drop n)
 | _,_,0,r=>r
 | _,_,_ + 1,.nil=>.nil
 | _,_,n + 1,.cons _ t=>Vals.drop n t
noncomputable def F0:Option V->Option M4->Prop
 | some v,some u=>RelV v u
 | none,none=>True
 | _,_=>False
noncomputable def KV {κ:Type}:List (κ×V)->List (κ×M4)->Prop:=T9 λ(p:κ×V) (q:κ×M4)=>p.1=q.1/\RelV p.2 q.2
noncomputable def kV:Key->V
 | .inl i=>.int i
 | .inr x=>.str x
inductive HO where
  | lst (xs:List V)
  | tup (xs:List V)
  | dK (MY:List (Key×V)) | dT (MY:List (List Key×V))
  | set (S:Int->Bool) (n:Nat)
  | ins (C dx:Nu) (fs:List (Str×V))
  | own (x:Nu)
  | xd (fs:List (Str×V))
  | met (f x:Nu)
  | rng (lo hi:Int)
  | frz (o:Obj) (u:HO)
  | tbl (ps:Array M4)
  | ext (φ:OQ->Prop)
noncomputable abbrev Hp:=Nu->Option HO
noncomputable def upd (H:Hp) (a:Nu) (o:HO):Hp:=λb=>if b=a then some o else H b
theorem bz {H:Hp}:upd H a o a=some o:=by unfold upd;rw [if_pos rfl]
theorem aQ {H:Hp}(h:b≠a):upd H a o b=H b:=by unfold upd;rw [if_neg h]
theorem c8 {H:Hp}(h:H a=some o) (h':H b=none):a≠b:=by intro e;subst e;rw [h] at h';cases h'
section
variable (P:Nt) (w:NS)
noncomputable def Kw (h:OQ) (a:Nu):Prop:=∀o,h.get? a=some o->o.dict=none
noncomputable def bU (H:Hp) (h:OQ) (a:Nu):HO->Prop
 | .lst xs=>xs.length<=sizeLine/\∃(its:List M4) (n:Nat),Vals xs its/\h.get? a=some {cls:=.type "list",data:=.seq its.toArray n}
 | .tup xs=>xs.length<=sizeLine/\∃its:List M4,Vals xs its/\Yy h a its.toArray/\Kw h a
 | .dK MY=>MY.length<=sizeLine/\(a == R6)=false/\∃vs,KV MY vs/\h.DictOf (qM P w) a vs
 | .dT MY=>MY.length<=sizeLine/\(a == R6)=false/\∃xs:List (List Key×Nu×M4),
   T9 (λ(p:List Key×V) (q:List Key×Nu×M4)=>p.1=q.1/\H q.2.1=some (.tup (p.1.map kV))/\RelV p.2 q.2.2) MY xs/\
   ∃o es ep,h.get? a=some o/\o.ExactDict/\o.data=.dict es ep/\es.toList=xs.map (WZ (tupleKind (qM P w)))/\(xs.map (·.1)).Nodup
 | .set S n=>h.SetOf (VC P w) a S n
 | .ins C dx fs=>H dx=some (.own a)/\fs.length<=1000/\dx≠a/\h.get? a=some (W.instObj C dx)/\
   ∃mA,h.Ns1 dx mA/\(∀f,F0 (fs.lookup f) (mA f))/\PySem.Within mA (fs.map (·.1))
 | .own _=>∃o,h.get? a=some o
 | .xd fs=>∃mA,h.Ns1 a mA/\∀f,F0 (fs.lookup f) (mA f)
 | .rng lo hi=>∃t u v,h.get? a=some {cls:=.type "range",data:=.fields #[.int lo t,.int hi u,.int 1 v]}
 | .frz o u=>h.get? a=some o/\bU H h a u
 | .tbl ps=>h.get? a=some {cls:=.none,data:=.fields ps}
 | .met f x=>h.get? a=some (Tp (.ref f) (.ref x))
 | .ext φ=>φ h/\(∃o,h.get? a=some o)/\∀h1 h2:OQ,φ h1->(∀o,h1.get? a=some o->h2.get? a=some o)->φ h2
noncomputable def eU (H:Hp) (h:OQ):Prop:=∀a o,H a=some o->bU P w H h a o
end
section
variable {P:Nt}{w:NS}{H H':Hp}{h h':OQ}{a:Nu}{o:HO}
theorem bU.lt (x:bU P w H h a o):a < h.objs.size:=by
 cases o with
 | lst xs=>obtain ⟨_,_,_,_,e⟩:=x;exact Nk e
 | tup xs=>obtain ⟨_,_,_,p,_⟩:=x;exact p.lt
 | dK MY=>obtain ⟨_,_,_,_,o,_,_,e,_⟩:=x;exact Nk e
 | dT MY=>obtain ⟨_,_,_,_,o,_,_,e,_⟩:=x;exact Nk e
 | set S n=>obtain ⟨o,_,_,_,e,_⟩:=x;exact Nk e
 | ins C dx fs=>obtain ⟨_,_,_,e,_⟩:=x;exact Nk e
 | own y=>obtain ⟨_,e⟩:=x;exact Nk e
 | xd fs=>obtain ⟨_,⟨_,_,_,e,_⟩,_⟩:=x;exact Nk e
 | rng lo hi=>obtain ⟨_,_,_,e⟩:=x;exact Nk e
 | frz ob u=>obtain ⟨e,_⟩:=x;exact Nk e
 | tbl ps=>exact Nk (show h.get? a=some _ from x)
 | met f y=>exact Nk (show h.get? a=some _ from x)
 | ext φ=>obtain ⟨_,⟨_,e⟩,_⟩:=x;exact Nk e
theorem T9.mapP {α β:Type}{F G:α->β->Prop}:∀{l₁:List α}{l₂:List β},T9 F l₁ l₂->(∀a b,F a b->G a b)->T9 G l₁ l₂
 | _,_,.nil,_=>.nil
 | _,_,.cons r t,f=>.cons (f _ _ r) (T9.mapP t f)
theorem bU.stay (x:bU P w H h a o) (k:∀b u,(b=a\/H b=some (.own a))->h.get? b=some u->h'.get? b=some u)
  (ho:∀b,H b=some (.own a)->H' b=some (.own a)) (ht:∀b xs,H b=some (.tup xs)->H' b=some (.tup xs)):bU P w H' h' a o:=by
 induction o with
 | lst xs=>obtain ⟨z,its,n,r,e⟩:=x;exact ⟨z,its,n,r,k _ _ (.inl rfl) e⟩
 | tup xs=>obtain ⟨z,its,r,⟨ob,e,c⟩,nd⟩:=x;exact ⟨z,its,r,⟨ob,k _ _ (.inl rfl) e,c⟩,λo q=>by rw [k _ _ (.inl rfl) e] at q;cases q;exact nd _ e⟩
 | dK MY=>obtain ⟨z,y,vs,r,ob,es,ep,e,c⟩:=x;exact ⟨z,y,vs,r,ob,es,ep,k _ _ (.inl rfl) e,c⟩
 | dT MY=>
  obtain ⟨z,y,xs,r,ob,es,ep,e,c⟩:=x;exact ⟨z,y,xs,T9.mapP r λp q z=>⟨z.1,ht _ _ z.2.1,z.2.2⟩,ob,es,ep,k _ _ (.inl rfl) e,c⟩
 | set S n=>obtain ⟨ob,es,ep,t,e,c⟩:=x;exact ⟨ob,es,ep,t,k _ _ (.inl rfl) e,c⟩
 | ins C dx fs=>
  obtain ⟨d,z,ne,e,mA,⟨od,es,ep,e2,c⟩,r⟩:=x;exact ⟨ho _ d,z,ne,k _ _ (.inl rfl) e,mA,⟨od,es,ep,k _ _ (.inr d) e2,c⟩,r⟩
 | own y=>obtain ⟨ob,e⟩:=x;exact ⟨ob,k _ _ (.inl rfl) e⟩
 | xd fs=>obtain ⟨mA,⟨od,es,ep,e,c⟩,r⟩:=x;exact ⟨mA,⟨od,es,ep,k _ _ (.inl rfl) e,c⟩,r⟩
 | rng lo hi=>obtain ⟨t,u,v,e⟩:=x;exact ⟨t,u,v,k _ _ (.inl rfl) e⟩
 | frz ob u ih=>obtain ⟨e,q⟩:=x;exact ⟨k _ _ (.inl rfl) e,ih q⟩
 | tbl ps=>
  have e:h.get? a=some {cls:=.none,data:=.fields ps}:=x;show h'.get? a=some {cls:=.none,data:=.fields ps};exact k a _ (.inl rfl) e
 | met f y=>
  have e:h.get? a=some (Tp (.ref f) (.ref y)):=x;show h'.get? a=some (Tp (.ref f) (.ref y));exact k a _ (.inl rfl) e
 | ext φ=>obtain ⟨p,⟨o,e⟩,st⟩:=x;exact ⟨st _ _ p λo q=>k _ _ (.inl rfl) q,⟨o,k _ _ (.inl rfl) e⟩,st⟩
theorem eU.lt (x:eU P w H h) (e:H a=some o):a < h.objs.size:=(x a o e).lt
theorem eU.fresh (x:eU P w H h) (e:h.objs.size<=a):H a=none:=by
 cases q:H a with
 | none=>rfl
 | some u=>exact absurd (Nv (x.lt q) e) (PM _)
theorem eU.kept (x:eU P w H h) (k:∀b u,h.get? b=some u->h'.get? b=some u):eU P w H h':=λa o e=>
 (x a o e).stay (λb u _ q=>k b u q) (λ_ q=>q) λ_ _ q=>q
theorem eU.laid (x:eU P w H h) (k:∀b u,h.get? b=some u->h'.get? b=some u) (hp:h.objs.size<=a) (new:bU P w (upd H a o) h' a o):eU P w (upd H a o) h':=λb u e=>by
 have hn:=x.fresh hp;by_cases hb:b=a
 ·subst hb;rw [bz] at e;cases e;exact new
 ·rw [aQ hb] at e;exact (x b u e).stay (λc v _ q=>k c v q) (λc q=>by rw [aQ (c8 q hn)];exact q) λc xs q=>by rw [aQ (c8 q hn)];exact q
end
noncomputable def Rd (H:Hp) (a:Nu) (u:HO):Prop:=H a=some u\/∃o,H a=some (.frz o u)
theorem Rd.ok {H:Hp}(r:Rd H a u) (x:eU P w H h):bU P w H h a u:=by
 rcases r with r | ⟨o,r⟩
 ·exact x a u r
 ·obtain ⟨_,q⟩:=x a _ r;exact q
noncomputable def De:Option HO->Prop
 | some (.lst _)=>True
 | some (.dK _)=>True
 | some (.dT _)=>True
 | some (.set _ _)=>True
 | some (.ins _ _ _)=>True
 | some (.ext _)=>True
 | _=>False
section
variable {P:Nt}{w:NS}{H:Hp}{h h':OQ}{x e:Nu}{o':HO}
theorem eU.write (ok:eU P w H h) (mu:De (H x)) (he:e=x\/H e=some (.own x)) (k:∀b u,b≠e->h.get? b=some u->h'.get? b=some u) (LF:∃u,h'.get? e=some u)
  (new:bU P w (upd H x o') h' x o'):eU P w (upd H x o') h':=λb u q=>by
 have nown:∀c y,H c=some (.own y)->c≠x:=λc y r z=>by subst z;rw [r] at mu;exact mu
 have ntup:∀c xs,H c=some (.tup xs)->c≠x:=λc xs r z=>by subst z;rw [r] at mu;exact mu
 by_cases hb:b=x
 ·subst hb;rw [bz] at q;cases q;exact new
 ·rw [aQ hb] at q;by_cases Lx:b=e
  ·have q':H b=some (.own x):=by
    rcases he with z | z
    ·exact absurd (Lx.trans z) hb
    ·rw [Lx];exact z
   rw [q] at q';cases q';obtain ⟨v,hv⟩:=LF;exact ⟨v,by rw [Lx];exact hv⟩
  ·refine (ok b u q).stay (λc v hc r=>k c v ?_ r) (λc r=>by rw [aQ (nown c b r)];exact r) λc xs r=>by rw [aQ (ntup c xs r)];exact r
   rcases hc with rfl | hc
   ·exact Lx
   ·rintro rfl;rcases he with z | z
    ·exact nown c b hc z
    ·rw [hc] at z;cases z;exact hb rfl
end
structure Un (fs ex:List Nu) (H H':Hp) (h h':OQ):Prop where
 keep:∀b o,h.get? b=some o->H b=none->b∉fs->b∉ex->h'.get? b=some o
 slot:∀b o,h.get? b=some o->H b=none->b∈fs->b∉ex->∃sl,h'.get? b=some {o with slots:=sl}
 free:∀b o,h.get? b=some o->H b=none->b∉ex->H' b=none
 there:∀b o,h.get? b=some o->b∉ex->∃o',h'.get? b=some o'
 tups:∀b xs,H b=some (.tup xs)->H' b=some (.tup xs)
 frzs:∀b o u,H b=some (.frz o u)->H' b=some (.frz o u)
 tbls:∀b ps,H b=some (.tbl ps)->∃more,H' b=some (.tbl (ps++more))
section
variable {fs fs' ex ex':List Nu}{H H1 H2:Hp}{h h1 h2 h':OQ}{a x e:Nu}{o:HO}
theorem Un.any (u:Un fs ex H H1 h h1) (q:h.get? b=some ob) (n:H b=none) (hx:b∉ex):∃sl,h1.get? b=some {ob with slots:=sl}:=by
 by_cases hb:b∈fs
 ·exact u.slot b ob q n hb hx
 ·exact ⟨ob.slots,u.keep b ob q n hb hx⟩
theorem Un.kept (k:∀b u,h.get? b=some u->h'.get? b=some u):Un fs ex H H h h':=
 ⟨λb ob q _ _ _=>k b ob q,λb ob q _ _ _=>⟨ob.slots,k b ob q⟩,λ_ _ _ n _=>n,λb ob q _=>⟨ob,k b ob q⟩,λ_ _ q=>q,λ_ _ _ q=>q,λ_ ps q=>⟨#[],by rw [q];simp⟩⟩
theorem Un.refl:Un fs ex H H h h:=Un.kept λ_ _ q=>q
theorem Un.laid (k:∀b u,h.get? b=some u->h'.get? b=some u) (hp:h.objs.size<=a) (hn:H a=none):Un fs ex H (upd H a o) h h' where
 keep:=λb u q _ _ _=>k b u q
 slot:=λb u q _ _ _=>⟨u.slots,k b u q⟩
 free:=λb u q n _=>by rw [aQ (NF (Nv (Nk q) hp))];exact n
 there:=λb u q _=>⟨u,k b u q⟩
 tups:=λb xs q=>by rw [aQ (c8 q hn)];exact q
 frzs:=λb u xs q=>by rw [aQ (c8 q hn)];exact q
 tbls:=λb ps q=>⟨#[],by rw [aQ (c8 q hn),q];simp⟩
theorem Un.write (mu:De (H x)) (he:e=x\/H e=some (.own x)) (k:∀b u,b≠e->h.get? b=some u->h'.get? b=some u) (LF:∃u,h'.get? e=some u):Un fs ex H (upd H x o) h h':=by
 have hx:∀b,H b=none->b≠x:=λb n z=>by subst z;rw [n] at mu;exact mu
 have hb:∀b,H b=none->b≠e:=λb n z=>by
  subst z;rcases he with r | r
  ·exact hx b n r
  ·rw [n] at r;cases r
 have hm:∀b u,H b=some u->¬De (some u)->b≠x:=λb u q nm z=>by subst z;rw [q] at mu;exact nm mu
 refine ⟨λb u q n _ _=>k b u (hb b n) q,λb u q n _ _=>⟨u.slots,k b u (hb b n) q⟩,λb u q n _=>by rw [aQ (hx b n)];exact n,λb u q _=>?_,
  λb xs q=>by rw [aQ (hm b _ q λz=>z)];exact q,λb u xs q=>by rw [aQ (hm b _ q λz=>z)];exact q,λb ps q=>⟨#[],by rw [aQ (hm b _ q λz=>z),q];simp⟩⟩
 by_cases Lx:b=e
 ·subst Lx;exact LF
 ·exact ⟨u,k b u Lx q⟩
end
noncomputable def DZ (h:OQ) (H:Hp):List Nu:=(Ng h.objs.size).filter λa=>(H a).isSome
noncomputable def kP (h:OQ) (H:Hp):OQ:=W.hideAll h (DZ h H)
theorem Aq (h:OQ) (H:Hp):(kP h H).objs.size=h.objs.size:=W.hideAll_size _ _
theorem B4 {h:OQ}{H:Hp}(e:h.get? b=some o) (n:H b=none):(kP h H).get? b=some o:=
 W.hideAll_get _ e λhm=>by have q:(H b).isSome=true:=(Q3.mp hm).2;rw [n] at q;simp at q
theorem EM {h:OQ}{H:Hp}(e:(kP h H).get? b=some o):h.get? b=some o/\H b=none:=by
 have e':h.get? b=some o:=W.of_hideAll (DZ h H) e;refine ⟨e',?_⟩;cases q:H b with
 | none=>rfl
 | some x=>
  have hm:b∈DZ h H:=Q3.mpr ⟨NQ.mpr (Nk e'),by simp [q]⟩;have z:(kP h H).get? b=none:=W.hideAll_none (DZ h H) hm;rw [z] at e;cases e
noncomputable def D9 (g h:OQ) (L:Nu):List (Nu×Obj):=(Ng h.objs.size).filterMap λa=>if a=L\/(g.get? a).isSome=true then none else (h.get? a).map λo=>(a,o)
noncomputable def MT (g h:OQ) (L d:Nu):List (Nu×Obj):=(D9 g h L).filter λp=>decide (p.1≠d)
structure Mod (K:M1) (mg:Str->Option M4) (base:OQ):Prop where
 kin:K.In base
 glob:base.Ns NT mg
 blt:∃mb,base.Ns W0 mb/\∀x:Str,x≠"__name__"->mb x=OC x
 nolimit:base.NoLimit
structure Cx where
 prog:Nt
 w:NS
 K:M1
 mg:Str->Option M4
 base:OQ
 A:NK
 N:List Str
 s₀:M5
 H₀:Hp
 env:Env
 outer:List Env
 stack:List Env
 ex:List Nu
 fn:Str->Bool
 calm:Bool
 pn:List (Nu×Obj)
 xe:M4->M5->Prop
noncomputable def frs (l:List Env):List Nu:=l.filterMap (·.frame)
noncomputable abbrev Cx.fs (X:Cx):List Nu:=frs X.outer
noncomputable def wJ (sc:Rl) (x:Str):Prop:=sc.names.lookup x=some .local\/sc.names.lookup x=some .cell\/sc.names.lookup x=some .free
noncomputable def Loc (sc:Rl) (x:Str):Prop:=sc.names.lookup x=some .local\/sc.names.lookup x=some .cell
noncomputable def Look (env:Env) (h:OQ) (m:Str->Option M4) (x:Str) (u:M4):Prop:=
 (env.kindOf x=some .local/\m x=some u)\/((env.kindOf x=some .cell\/env.kindOf x=some .free)/\∃c,env.cells.lookup x=some c/\h.IsCell c (some u))
structure Cx.Ok (X:Cx):Prop where
 mod:Mod X.K X.mg X.base
 kind:X.env.scope.kind=.function
 glob:X.env.globals=NT
 blt:X.env.builtins=W0
 above:X.s₀.heap.objs.size<=X.env.locals
 inj:∀x y c,X.env.cells.lookup x=some c->X.env.cells.lookup y=some c->x=y
 has:∀x,(X.env.kindOf x=some .cell\/X.env.kindOf x=some .free)->∃c,X.env.cells.lookup x=some c
 cab:∀x c,X.fn x=true->X.env.cells.lookup x=some c->X.s₀.heap.objs.size<=c
 hd:X.calm=true->X.A.handled=none
 frames:X.A.frames=some X.stack
 stk:X.stack=X.outer\/(X.stack=X.env::X.outer/\X.env.frame=some X.env.locals)
 exf:∀b∈X.ex,b≠X.env.locals/\∀x c,X.env.cells.lookup x=some c->c≠b
 bs:∀b o,X.base.get? b=some o->X.s₀.heap.get? b=some o/\X.H₀ b=none
 bsz:X.base.objs.size<=X.s₀.heap.objs.size
 noex:∀b o,X.base.get? b=some o->b∉X.ex
 exfs:∀b∈X.ex,b∉X.fs
 funs:X.s₀.heap.FunFrames X.base X.outer
 frf:∀b∈X.fs,X.H₀ b=none
structure Inv (X:Cx) (MQ:List (Nu×Obj)) (σ:List (Option V)) (H:Hp) (s:M5):Prop where
 ok:X.Ok
 os:s.os=X.s₀.os
 bare:Uq s.gens
 base:Un X.fs X.ex X.H₀ H X.s₀.heap s.heap
 loc:∃m,s.heap.Ns X.env.locals m/\∀(i:Nat) (x:Str) (v:V),X.N[i]?=some x->σ[i]?=some (some v)->wJ X.env.scope x->∃u,RelV v u/\Look X.env s.heap m x u
 cell:∀x c,X.env.cells.lookup x=some c->∃v,s.heap.IsCell c v
 free:H X.env.locals=none
 freeC:∀x c,X.env.cells.lookup x=some c->H c=none
 pin:∀p∈X.pn++MQ,s.heap.get? p.1=some p.2/\H p.1=none/\p.1≠X.env.locals/\p.1∉X.fs/\∀v,p.2.data≠.cell v
 hok:eU X.prog X.w H s.heap
 len:σ.length=X.N.length
section
variable {X:Cx}{MQ:List (Nu×Obj)}{σ:List (Option V)}{H H':Hp}{s:M5}{h':OQ}
theorem Cx.Ok.nofr (ok:X.Ok) (e:X.base.get? b=some o):b∉X.fs:=λhb=>by have:=(ok.funs.mem hb).1;rw [e] at this;cases this
theorem Inv.bs (I:Inv X MQ σ H s):∀b o,X.base.get? b=some o->s.heap.get? b=some o/\H b=none:=λb o e=>
 ⟨I.base.keep b o (I.ok.bs b o e).1 (I.ok.bs b o e).2 (I.ok.nofr e) (I.ok.noex b o e),I.base.free b o (I.ok.bs b o e).1 (I.ok.bs b o e).2 (I.ok.noex b o e)⟩
theorem Inv.bk (I:Inv X MQ σ H s):∀b o,X.base.get? b=some o->s.heap.get? b=some o:=λb o e=>(I.bs b o e).1
theorem Inv.mod (I:Inv X MQ σ H s):Mod X.K X.mg X.base:=I.ok.mod
theorem Inv.kIn (I:Inv X MQ σ H s):X.K.In s.heap:=I.ok.mod.kin.keeps I.bk
theorem Inv.lt (I:Inv X MQ σ H s):X.env.locals < s.heap.objs.size:=let ⟨_,hn,_⟩:=I.loc;hn.lt
theorem Inv.sz (I:Inv X MQ σ H s):X.s₀.heap.objs.size<=s.heap.objs.size:=N8 I.ok.above (Qv I.lt)
theorem Inv.nofs (I:Inv X MQ σ H s) (h:s.heap.objs.size<=a):a∉X.fs:=λhb=>by obtain ⟨_,o,ho,_⟩:=I.ok.funs.mem hb;exact absurd (Nv (Nk ho) (N8 I.sz h)) (PM _)
theorem Inv.cne (I:Inv X MQ σ H s):∀x c,X.env.cells.lookup x=some c->c≠X.env.locals:=λx c e z=>by obtain ⟨v,o,ho,hd⟩:=I.cell x c e;obtain ⟨m,⟨o',es,ep,ho',hd',_⟩,_⟩:=I.loc;rw [z,ho'] at ho;cases ho;rw [hd'] at hd;cases hd
theorem Inv.funs (I:Inv X MQ σ H s):s.heap.FunFrames X.base X.outer:=by
 have all:∀(l:List Env),(∀b∈frs l,b∈X.fs)->X.s₀.heap.FunFrames X.base l->s.heap.FunFrames X.base l:=by
  intro l
  induction l with
  | nil=>intro _ _;trivial
  | cons env r ih=>
   intro hs hl;obtain ⟨hk,⟨L,o,hf,hn,ho,hd⟩,hr⟩:=hl;have hL:L∈X.fs:=hs L (by unfold frs;rw [Rt,hf];exact Nd);obtain ⟨sl,e⟩:=I.base.slot L o ho (I.ok.frf L hL) hL λz=>I.ok.exfs L z hL;exact ⟨hk,⟨L,_,hf,hn,e,hd⟩,ih (λb hb=>hs b (by unfold frs;rw [Rt,hf];exact Na _ hb)) hr⟩
 exact all X.outer (λ_ hb=>hb) I.ok.funs
theorem Inv.stack (I:Inv X MQ σ H s):s.heap.FunFrames X.base X.stack:=by
 rcases I.ok.stk with e | ⟨e,hf⟩
 ·rw [e];exact I.funs
 ·rw [e];obtain ⟨m,hn,_⟩:=I.loc;refine .cons (by rw [I.ok.kind];decide) hf hn ?_ I.funs;exact Heap.get?_none_of_le (N8 I.ok.bsz I.ok.above)
theorem Inv.stkSub (I:Inv X MQ σ H s):∀b∈frs X.stack,b∈X.env.locals::X.fs:=λb hb=>by
 rcases I.ok.stk with e | ⟨e,hf⟩
 ·rw [e] at hb;exact Na _ hb
 ·rw [e] at hb;unfold frs at hb;rw [Rt,hf] at hb;exact hb
theorem Inv.stkFree (I:Inv X MQ σ H s):∀b∈frs X.stack,H b=none:=λb hb=>by
 rcases Nj.mp (I.stkSub b hb) with e | hb
 ·rw [e];exact I.free
 ·obtain ⟨_,o,ho,_⟩:=I.ok.funs.mem hb;exact I.base.free b o ho (I.ok.frf b hb) λz=>I.ok.exfs b z hb
theorem Inv.step {g':Array V_}{t':Nat}{d':Drawn}{ch:List Nu}(I:Inv X MQ σ H s)
  (hch:∀b∈ch,(b∈X.ex\/X.s₀.heap.objs.size<=b)/\b≠X.env.locals/\(∀x c,X.env.cells.lookup x=some c->c≠b)/\∀p∈X.pn++MQ,p.1≠b)
  (keep:∀b o,b≠X.env.locals->b∉X.fs->b∉ch->s.heap.get? b=some o->H b=none->h'.get? b=some o)
  (slot:∀b o,b≠X.env.locals->b∈X.fs->b∉ch->s.heap.get? b=some o->H b=none->∃sl,h'.get? b=some {o with slots:=sl}) (free:∀b o,b∉ch->s.heap.get? b=some o->H b=none->H' b=none)
  (there:∀b o,b∉ch->s.heap.get? b=some o->∃o',h'.get? b=some o')
  (tups:∀b xs,H b=some (.tup xs)->H' b=some (.tup xs)) (frzs:∀b o u,H b=some (.frz o u)->H' b=some (.frz o u)) (tbls:∀b ps,H b=some (.tbl ps)->∃more,H' b=some (.tbl (ps++more)))
  (ns:∀m,s.heap.Ns X.env.locals m->h'.Ns X.env.locals m) (hok:eU X.prog X.w H' h') (hg:Uq g'):
  Inv X MQ σ H' {s with heap:=h',gens:=g',drawn:=d',toks:=t'}:=by
 have neL:∀b o,X.s₀.heap.get? b=some o->b≠X.env.locals:=λb o e=>NF (Nv (Nk e) I.ok.above);have neC:∀b o,X.s₀.heap.get? b=some o->b∉X.ex->b∉ch:=λb o e hx hb=>by
  rcases (hch b hb).1 with z | z
  ·exact hx z
  ·exact absurd (Nv (Nk e) z) (PM _)
 have cellK:∀x c,X.env.cells.lookup x=some c->∀v,s.heap.IsCell c v->h'.IsCell c v:=λx c e v ⟨o,ho,hd⟩=>by
  have nch:c∉ch:=λz=>(hch c z).2.2.1 x c e rfl;by_cases hc:c∈X.fs
  ·obtain ⟨sl,q⟩:=slot c o (I.cne x c e) hc nch ho (I.freeC x c e);exact ⟨_,q,hd⟩
  ·exact ⟨o,keep c o (I.cne x c e) hc nch ho (I.freeC x c e),hd⟩
 refine ⟨I.ok,I.os,hg,⟨λb o e n hb hx=>?_,λb o e n hb hx=>?_,λb o e n hx=>?_,λb o e hx=>?_,λb xs e=>tups b xs (I.base.tups b xs e),λb o xs e=>frzs b o xs (I.base.frzs b o xs e),λb ps e=>?_⟩,?_,λx c e=>?_,?_,λx c e=>?_,λp hp=>?_,hok,I.len⟩
 ·exact keep b o (neL b o e) hb (neC b o e hx) (I.base.keep b o e n hb hx) (I.base.free b o e n hx)
 ·obtain ⟨sl,e1⟩:=I.base.slot b o e n hb hx;obtain ⟨sl',e2⟩:=slot b _ (neL b o e) hb (neC b o e hx) e1 (I.base.free b o e n hx);exact ⟨sl',e2⟩
 ·obtain ⟨o',e1⟩:=I.base.there b o e hx;exact free b o' (neC b o e hx) e1 (I.base.free b o e n hx)
 ·obtain ⟨o',e1⟩:=I.base.there b o e hx;exact there b o' (neC b o e hx) e1
 ·obtain ⟨m1,e1⟩:=I.base.tbls b ps e;obtain ⟨m2,e2⟩:=tbls b _ e1;exact ⟨m1++m2,by rw [e2,Array.append_assoc]⟩
 ·obtain ⟨m,hn,hl⟩:=I.loc;refine ⟨m,ns m hn,λi x v e1 e2 e3=>?_⟩;obtain ⟨u,r,l⟩:=hl i x v e1 e2 e3;refine ⟨u,r,?_⟩;rcases l with l | ⟨k,c,e,z⟩
  ·exact .inl l
  ·exact .inr ⟨k,c,e,cellK x c e _ z⟩
 ·obtain ⟨v,z⟩:=I.cell x c e;exact ⟨v,cellK x c e v z⟩
 ·obtain ⟨m,⟨o,_,_,ho,_⟩,_⟩:=I.loc;exact free _ o (λz=>(hch _ z).2.1 rfl) ho I.free
 ·obtain ⟨v,o,ho,hd⟩:=I.cell x c e;exact free c o (λz=>(hch c z).2.2.1 x c e rfl) ho (I.freeC x c e)
 ·obtain ⟨e,n,ne,nf,d⟩:=I.pin p hp;have nch:p.1∉ch:=λz=>(hch p.1 z).2.2.2 p hp rfl;exact ⟨keep p.1 p.2 ne nf nch e n,free p.1 p.2 nch e n,ne,nf,d⟩
theorem Inv.un (I:Inv X MQ σ H s) (u:Un X.fs [] H H' s.heap h') (hok:eU X.prog X.w H' h'):Inv X MQ σ H' {s with heap:=h',toks:=t'}:=by
 obtain ⟨m,⟨o,es,ep,ho,r⟩,_⟩:=id I.loc;obtain ⟨sl,hL⟩:=u.any ho I.free (by simp);exact I.step (g':=s.gens) (d':=s.drawn) (ch:=[]) (λ_ z=>nomatch z) (λb o _ hb _ e n=>u.keep b o e n hb (by simp)) (λb o _ hb _ e n=>u.slot b o e n hb (by simp)) (λb o _ e n=>u.free b o e n (by simp)) (λb o _ e=>u.there b o e (by simp)) u.tups u.frzs u.tbls (λm' hm=>by
  obtain ⟨o',es',ep',ho',r'⟩:=hm;rw [ho] at ho';cases ho';exact ⟨_,es',ep',hL,r'⟩) hok I.bare
theorem Inv.call (I:Inv X MQ σ H s) (u:Un (frs X.stack) ch H H' s.heap h') (hok:eU X.prog X.w H' h') (hg:Uq g')
 (hch:∀b∈ch,(b∈X.ex\/X.s₀.heap.objs.size<=b)/\b≠X.env.locals/\(∀x c,X.env.cells.lookup x=some c->c≠b)/\∀p∈X.pn++MQ,p.1≠b):
  Inv X MQ σ H' {s with heap:=h',gens:=g',drawn:=d',toks:=t'}:=by
 obtain ⟨m,⟨o,es,ep,ho,r⟩,_⟩:=id I.loc;obtain ⟨sl,hL⟩:=u.any ho I.free λz=>(hch _ z).2.1 rfl;exact I.step (ch:=ch) hch (λb o hL hb hc e n=>u.keep b o e n (λz=>(Nj.mp (I.stkSub b z)).elim hL hb) hc) (λb o _ _ hc e n=>u.any e n hc) (λb o hc e n=>u.free b o e n hc) (λb o hc e=>u.there b o e hc) u.tups u.frzs u.tbls (λm' hm=>by
  obtain ⟨o',es',ep',ho',r'⟩:=hm;rw [ho] at ho';cases ho';exact ⟨_,es',ep',hL,r'⟩) hok hg
theorem Inv.turned {t':Nat}{it:Nu}(I:Inv X MQ σ H s) (k:∀b o,b≠it->s.heap.get? b=some o->h'.get? b=some o) (hn:H it=none) (hL:it≠X.env.locals)
  (h1:it∈X.ex\/X.s₀.heap.objs.size<=it) (h2:∀x c,X.env.cells.lookup x=some c->c≠it) (h3:∀p∈X.pn++MQ,p.1≠it):Inv X MQ σ H {s with heap:=h',toks:=t'}:=by
 have nit:∀b u,H b=some u->b≠it:=λb u e z=>by rw [z,hn] at e;cases e
 refine I.step (g':=s.gens) (d':=s.drawn) (ch:=[it]) (λb hb=>?_) (λb o _ _ hc e _=>k b o (λz=>hc (by simp [z])) e) (λb o _ _ hc e _=>⟨o.slots,k b o (λz=>hc (by simp [z])) e⟩) (λ_ _ _ _ n=>n)
  (λb o hc e=>⟨o,k b o (λz=>hc (by simp [z])) e⟩) (λ_ _ e=>e) (λ_ _ _ e=>e) (λb ps e=>⟨#[],by rw [e];simp⟩) (λm hm=>?_) (λb u e=>?_) I.bare
 ·have e:b=it:=by simpa using hb
  subst e;exact ⟨h1,hL,h2,h3⟩
 ·obtain ⟨o,es,ep,ho,r⟩:=hm;exact ⟨o,es,ep,k _ o (P6 hL) ho,r⟩
 ·refine (I.hok b u e).stay (λc v hc q=>k c v ?_ q) (λ_ q=>q) λ_ _ q=>q;rcases hc with z | z
  ·rw [z];exact nit b u e
  ·exact nit c _ z
theorem Inv.tok (I:Inv X MQ σ H s) (t:Nat):Inv X MQ σ H {s with toks:=t}:=I.un (h':=s.heap) (t':=t) Un.refl I.hok
theorem Inv.kept (I:Inv X MQ σ H s) (k:∀b u,s.heap.get? b=some u->h'.get? b=some u):Inv X MQ σ H {s with heap:=h',toks:=t'}:=I.un (Un.kept k) (I.hok.kept k)
theorem Inv.laid (I:Inv X MQ σ H s) (k:∀b u,s.heap.get? b=some u->h'.get? b=some u) (hp:s.heap.objs.size<=a) (new:bU X.prog X.w (upd H a o) h' a o):
  Inv X MQ σ (upd H a o) {s with heap:=h',toks:=t'}:=I.un (Un.laid k hp (I.hok.fresh hp)) (I.hok.laid k hp new)
theorem Inv.write (I:Inv X MQ σ H s) (mu:De (H x)) (he:e=x\/H e=some (.own x)) (k:∀b u,b≠e->s.heap.get? b=some u->h'.get? b=some u) (LF:∃u,h'.get? e=some u)
 (new:bU X.prog X.w (upd H x o) h' x o):Inv X MQ σ (upd H x o) {s with heap:=h',toks:=t'}:=I.un (Un.write mu he k LF) (I.hok.write mu he k LF new)
theorem Inv.pins_of (I:Inv X MQ σ H s) (h:∀p∈pins',s.heap.get? p.1=some p.2/\H p.1=none/\p.1≠X.env.locals/\p.1∉X.fs/\∀v,p.2.data≠.cell v):Inv X pins' σ H s:=
 ⟨I.ok,I.os,I.bare,I.base,I.loc,I.cell,I.free,I.freeC,λp hp=>(NV.mp hp).elim (λz=>I.pin p (Rj _ z)) (h p),I.hok,I.len⟩
theorem vf {N:List Str}(hN:N.Nodup){i j:Nat}{x:Str}(a:N[i]?=some x) (b:N[j]?=some x):i=j:=by obtain ⟨h1,e1⟩:=Nr.mp a;obtain ⟨h2,e2⟩:=Nr.mp b;exact (Rq hN).mp (e1.trans e2.symm)
theorem sD {M:Yz}{E:M4->M5->Prop}{Q:Unit->M5->Prop}(I:Inv X MQ σ H s) (hN:X.N.Nodup) (hi:X.N[i]?=some x) (hx:Loc X.env.scope x) (r:RelV v u)
 (h:∀s',Inv X MQ (σ.set i (some v)) H s'->(∃a,OM a s.heap s'.heap/\(a=X.env.locals\/X.env.cells.lookup x=some a))->Q () s') (hf:X.fn x=true\/X.env.scope.names.lookup x=some .local:=by first | exact .inl rfl | exact .inr rfl | assumption):Nm M A (storeName X.env x u) Q E s:=by
 obtain ⟨m,hn,hl⟩:=id I.loc;have hcls:(X.env.scope.kind == .class || (X.env.scope.kind == .module && X.env.locals != X.env.globals))=false:=by rw [I.ok.kind];rfl
 have hiσ:i < σ.length:=by rw [I.len];exact (Nr.mp hi).1
 have cne:=I.cne;have tracked:∀{a:Nu}{h':OQ},(∃o,s.heap.get? a=some o/\H a=none)->OM a s.heap h'->eU X.prog X.w H h':=fun {a h'} ha hs b ob e=>by
  obtain ⟨_,_,hfree⟩:=ha;refine (I.hok b ob e).stay (λc w' hc q=>(hs.2 c ?_).trans q) (λ_ q=>q) λ_ _ q=>q;rintro rfl;rcases hc with rfl | hc
  ·rw [hfree] at e;cases e
  ·rw [hfree] at hc;cases hc
 rcases hx with hk | hk
 ·refine wpAny_storeName_local hk hn (λh' hn' hs=>?_) hcls;obtain ⟨oL,_,_,Mz,_⟩:=id hn;refine h _ ⟨I.ok,I.os,I.bare,⟨λb o e n hb hx=>?_,λb o e n hb hx=>?_,I.base.free,λb o e hx=>?_,I.base.tups,I.base.frzs,I.base.tbls⟩,⟨_,hn',λj y v' e1 e2 e3=>?_⟩,λy c e=>?_,I.free,I.freeC,λp hp=>?_,tracked ⟨oL,Mz,I.free⟩ hs,by simpa using I.len⟩ ⟨_,hs,.inl rfl⟩
  ·exact (hs.2 b (NF (Nv (Nk e) I.ok.above))).trans (I.base.keep b o e n hb hx)
  ·obtain ⟨sl,e1⟩:=I.base.slot b o e n hb hx;exact ⟨sl,(hs.2 b (NF (Nv (Nk e) I.ok.above))).trans e1⟩
  ·obtain ⟨o',e1⟩:=I.base.there b o e hx;exact ⟨o',(hs.2 b (NF (Nv (Nk e) I.ok.above))).trans e1⟩
  ·by_cases hj:j=i
   ·subst hj;rw [hi] at e1;cases e1;rw [Oj hiσ] at e2;cases e2;exact ⟨u,r,.inl ⟨hk,by simp⟩⟩
   ·rw [NY (P6 hj)] at e2;obtain ⟨u',r',q⟩:=hl j y v' e1 e2 e3;refine ⟨u',r',?_⟩;rcases q with ⟨k,e⟩ | ⟨k,c,e,z⟩
    ·refine .inl ⟨k,?_⟩;have:y≠x:=λe=>hj (vf hN e1 (e▸hi));simp [this,e]
    ·exact .inr ⟨k,c,e,z.sameBut hs (cne y c e)⟩
  ·obtain ⟨w',z⟩:=I.cell y c e;exact ⟨w',z.sameBut hs (cne y c e)⟩
  ·obtain ⟨e,n,ne,nf,d⟩:=I.pin p hp;exact ⟨(hs.2 p.1 ne).trans e,n,ne,nf,d⟩
 ·have hfn:X.fn x=true:=by
   rcases hf with z | z
   ·exact z
   ·rw [z] at hk;cases hk
  obtain ⟨c,hc⟩:=I.ok.has x (.inl hk);obtain ⟨w',z⟩:=I.cell x c hc;refine wpAny_storeName_cell I.ok.kind hk hc z (λh' hc' hs=>?_);obtain ⟨oc,hoc,L7⟩:=id z;refine h {s with heap:=h'} ⟨I.ok,I.os,I.bare,⟨λb o e n hb hx=>?_,λb o e n hb hx=>?_,I.base.free,λb o e hx=>?_,I.base.tups,I.base.frzs,I.base.tbls⟩,⟨m,hn.sameBut hs (P6 (cne x c hc)),λj y v' e1 e2 e3=>?_⟩,λy c' e=>?_,I.free,I.freeC,λp hp=>?_,tracked ⟨oc,hoc,I.freeC x c hc⟩ hs,by simpa using I.len⟩ ⟨c,hs,.inr hc⟩
  ·exact (hs.2 b (NF (Nv (Nk e) (I.ok.cab x c hfn hc)))).trans (I.base.keep b o e n hb hx)
  ·obtain ⟨sl,e1⟩:=I.base.slot b o e n hb hx;exact ⟨sl,(hs.2 b (NF (Nv (Nk e) (I.ok.cab x c hfn hc)))).trans e1⟩
  ·obtain ⟨o',e1⟩:=I.base.there b o e hx;exact ⟨o',(hs.2 b (NF (Nv (Nk e) (I.ok.cab x c hfn hc)))).trans e1⟩
  ·by_cases hj:j=i
   ·subst hj;rw [hi] at e1;cases e1;rw [Oj hiσ] at e2;cases e2;exact ⟨u,r,.inr ⟨.inl hk,c,hc,hc'⟩⟩
   ·rw [NY (P6 hj)] at e2;obtain ⟨u',r',q⟩:=hl j y v' e1 e2 e3;refine ⟨u',r',?_⟩;rcases q with q | ⟨k,c',e,z'⟩
    ·exact .inl q
    ·refine .inr ⟨k,c',e,z'.sameBut hs ?_⟩;rintro rfl;exact hj (vf hN e1 (I.ok.inj _ _ _ e hc▸hi))
  ·by_cases hcc:c'=c
   ·subst hcc;exact ⟨_,hc'⟩
   ·obtain ⟨w2,z2⟩:=I.cell y c' e;exact ⟨w2,z2.sameBut hs hcc⟩
  ·obtain ⟨e,n,ne,nf,d⟩:=I.pin p hp;refine ⟨(hs.2 p.1 ?_).trans e,n,ne,nf,d⟩;intro q;rw [q,hoc] at e;have q':oc=p.2:=Ow e;exact d w' (by rw [<-q'];exact L7)
theorem vM {M:Yz}{E:M4->M5->Prop}{Q:Unit->M5->Prop}(I:Inv X MQ σ H s) (hN:X.N.Nodup) (hi:X.N[i]?=some x) (hx:Loc X.env.scope x) (r:RelV v u)
 (h:∀s',Inv X MQ (σ.set i (some v)) H s'->Q () s') (hf:X.fn x=true\/X.env.scope.names.lookup x=some .local:=by first | exact .inl rfl | exact .inr rfl | assumption):Nm M A (storeName X.env x u) Q E s:=
 sD I hN hi hx r (λs' I' _=>h s' I') hf
theorem Inv.call' {s':M5}(I:Inv X MQ σ H s) (ho:s'.os=s.os) (u:Un (frs X.stack) ch H H' s.heap s'.heap) (hok:eU X.prog X.w H' s'.heap) (hg:Uq s'.gens)
 (hch:∀b∈ch,(b∈X.ex\/X.s₀.heap.objs.size<=b)/\b≠X.env.locals/\(∀x c,X.env.cells.lookup x=some c->c≠b)/\∀p∈X.pn++MQ,p.1≠b):Inv X MQ σ H' s':=by obtain ⟨h',g',d',t',o'⟩:=s';have e:o'=s.os:=ho;subst e;exact I.call (g':=g') (t':=t') (d':=d') u hok hg hch
end
noncomputable abbrev XK:=M4->Option Nu->Hp->Prop
noncomputable abbrev St:=List (Option V)
noncomputable abbrev VK:=V->Hp->Prop
noncomputable abbrev TE:=St->Hp->VK->Prop
noncomputable abbrev TT:=St->Hp->(Bool->Hp->Prop)->Prop
noncomputable abbrev TA:=St->Hp->(List V->Hp->Prop)->Prop
structure Ends where
 nx:St->Hp->Prop
 rt:VK
 bk:St->Hp->Prop:=λ_ _=>False
 ct:St->Hp->Prop:=λ_ _=>False
noncomputable abbrev TS:=Ends->St->Hp->Prop
noncomputable def EP (X:Cx) (MQ:List (Nu×Obj)) (σ:St) (Q:VK) (u:M4) (s':M5):Prop:=∃v H',Inv X MQ σ H' s'/\RelV v u/\Q v H'
noncomputable def TP (X:Cx) (MQ:List (Nu×Obj)) (σ:St) (Q:Bool->Hp->Prop) (b:Bool) (s':M5):Prop:=∃H',Inv X MQ σ H' s'/\Q b H'
noncomputable def AP (X:Cx) (MQ:List (Nu×Obj)) (σ:St) (Q:List V->Hp->Prop) (us:List M4) (s':M5):Prop:=∃vs H',Inv X MQ σ H' s'/\Vals vs us/\Q vs H'
noncomputable def SP (X:Cx) (MQ:List (Nu×Obj)) (D:Ends) (f:Flow) (s':M5):Prop:=
 match f with
 | .next=>∃σ' H',Inv X MQ σ' H' s'/\D.nx σ' H'
 | .brk=>∃σ' H',Inv X MQ σ' H' s'/\D.bk σ' H'
 | .cont=>∃σ' H',Inv X MQ σ' H' s'/\D.ct σ' H'
 | .ret u=>∃v σ' H',Inv X MQ σ' H' s'/\RelV v u/\D.rt v H'
noncomputable def PE (X:Cx) (e:N9) (t:TE):Prop:=
 ∀(MQ:List (Nu×Obj)) (s:M5) (σ:St) (H:Hp) (Q:VK),Inv X MQ σ H s->t σ H Q->Nm (Nq X.prog X.w) X.A (eval e X.env) (EP X MQ σ Q) X.xe s
noncomputable def PT (X:Cx) (e:N9) (t:TT):Prop:=
 ∀(MQ:List (Nu×Obj)) (s:M5) (σ:St) (H:Hp) (Q:Bool->Hp->Prop),Inv X MQ σ H s->t σ H Q->Nm (Nq X.prog X.w) X.A (UT e X.env (eval e X.env)) (TP X MQ σ Q) X.xe s
noncomputable def PW (X:Cx) (e:N9) (t:TT):Prop:=
 ∀(whole:Sem M4) (MQ:List (Nu×Obj)) (s:M5) (σ:St) (H:Hp) (Q:Bool->Hp->Prop),Inv X MQ σ H s->t σ H Q->Nm (Nq X.prog X.w) X.A (UT e X.env whole) (TP X MQ σ Q) X.xe s
theorem PW.pt (h:PW X e t):PT X e t:=h _
noncomputable def PA (X:Cx) (es:List N9) (t:TA):Prop:=
 ∀(pos:Pos) (MQ:List (Nu×Obj)) (s:M5) (σ:St) (H:Hp) (Q:List V->Hp->Prop),Inv X MQ σ H s->t σ H Q->Nm (Nq X.prog X.w) X.A (spliced (Qw pos (Nl es X.env))) (AP X MQ σ Q) X.xe s
noncomputable def PS (X:Cx) (st:RB) (t:TS):Prop:=
 ∀(MQ:List (Nu×Obj)) (s:M5) (σ:St) (H:Hp) (D:Ends),Inv X MQ σ H s->t D σ H->Nm (Nq X.prog X.w) X.A (exec st X.env) (SP X MQ D) X.xe s
noncomputable def iI (X:Cx) (st:List RB) (t:TS):Prop:=
 ∀(MQ:List (Nu×Obj)) (s:M5) (σ:St) (H:Hp) (D:Ends),Inv X MQ σ H s->t D σ H->Nm (Nq X.prog X.w) X.A (execs st X.env) (SP X MQ D) X.xe s
theorem bM {α:Type}{t:Sem α}{Q Q':α->M5->Prop}{M:Yz}{A:NK}{E:M4->M5->Prop}{s:M5}(h:Nm M A t Q E s) (hQ:∀a s,Q a s->Q' a s):Nm M A t Q' E s:=Od h hQ λ_ _ x=>x
section
variable {X:Cx}
theorem bin {a b:N9}{ta tb:TE}(ha:PE X a ta) (hb:PE X b tb){MQ:List (Nu×Obj)}{s:M5}{σ:St}{H:Hp}{R:V->V->Hp->Prop}(I:Inv X MQ σ H s) (h:ta σ H λx H1=>tb σ H1 λy H2=>R x y H2)
  {α:Type}{Q:α->M5->Prop}{f:M4->M4->Sem α}
  (hf:∀v u s2 x y H2,Inv X MQ σ H2 s2->RelV x v->RelV y u->R x y H2->Nm (Nq X.prog X.w) X.A (f v u) Q X.xe s2):
  Nm (Nq X.prog X.w) X.A (eval a X.env) (λv s₁=>Nm (Nq X.prog X.w) X.A (eval b X.env) (λu s₂=>Nm (Nq X.prog X.w) X.A (f v u) Q X.xe s₂) X.xe s₁) X.xe s:=by refine bM (ha MQ s σ H _ I h) λv s1 ⟨x,H1,I1,r1,q1⟩=>?_;refine bM (hb MQ s1 σ H1 _ I1 q1) λu s2 ⟨y,H2,I2,r2,q2⟩=>?_;exact hf v u s2 x y H2 I2 r1 r2 q2
noncomputable def HP (i:Nat):TE:=λσ H Q=>∃v,σ[i]?=some (some v)/\Q v H
noncomputable def tC (v:V):TE:=λ_ H Q=>Q v H
theorem p5 {pos:Pos}(hN:X.N[i]?=some x) (hv:wJ X.env.scope x) (hd:autoParam ((x == ("__debug__":Str))=false) zB._auto_1) (hcd:autoParam ((x == ("__classdict__":Str))=false) zB._auto_1):PE X (.Name x pos) (HP i):=by
 intro MQ s σ H Q I h;obtain ⟨v,e,h⟩:=h;obtain ⟨m,hn,hl⟩:=I.loc;obtain ⟨u,r,l⟩:=hl i x v hN e hv;have fin:EP X MQ σ Q u s:=⟨v,H,I,r,h⟩;rcases l with ⟨hk,hm⟩ | ⟨hk,c,hc,hcell⟩
 ·exact W2 (wpAny_loadName_local I.ok.kind hk hn hm fin) hd
 ·rcases hk with hk | hk
  ·exact W2 (wpAny_loadName_cell I.ok.kind hk hc hcell fin) hd
  ·exact W2 (wpAny_loadName_free I.ok.kind hk hc hcell fin hcd) hd
theorem AS {i j pos}:PE X (.Constant (.int i) j pos) (tC (.int i)):=λ_ _ _ H _ I h=>wpAny_Constant_int ⟨.int i,H,I.tok _,⟨_,rfl⟩,h⟩
theorem IA {b j pos}:PE X (.Constant (.bool b) j pos) (tC (.bl b)):=λ_ _ _ H _ I h=>Constant_bool ⟨.bl b,H,I,rfl,h⟩
theorem G3 {j pos}:PE X (.Constant .none j pos) (tC .non):=λ_ _ _ H _ I h=>Constant_none ⟨.non,H,I,rfl,h⟩
theorem G5 {x j pos}:PE X (.Constant (.str x) j pos) (tC (.str x)):=λ_ _ _ H _ I h=>Calls.Constant_str ⟨.str x,H,I.tok _,⟨_,rfl⟩,h⟩
noncomputable def Gl (X:Cx) (x:Str):Prop:=X.env.kindOf x=some .globalImplicit
theorem EF {E:M4->M5->Prop}{H:Hp}{pos:Pos}{Q:M4->M5->Prop}(I:Inv X MQ σ H s) (hg:Gl X x) (hm:X.mg x=some u) (h:Q u s)
 (hd:autoParam ((x == ("__debug__":Str))=false) zB._auto_1):Nm (Nq X.prog X.w) X.A (eval (.Name x pos) X.env) Q E s:=
 S4 I.ok.kind hg (Calls.loadGlobal_global (by rw [I.ok.glob];exact I.mod.glob.keeps I.bk) hm h) hd
theorem mE {E:M4->M5->Prop}{H:Hp}{pos:Pos}{Q:M4->M5->Prop}(I:Inv X MQ σ H s) (hg:Gl X x) (hm:X.mg x=none) (hv:OC x=some u) (h:Q u s)
 (hn:autoParam (x≠"__name__") zB._auto_1) (hd:autoParam ((x == ("__debug__":Str))=false) zB._auto_1):Nm (Nq X.prog X.w) X.A (eval (.Name x pos) X.env) Q E s:=by obtain ⟨mb,h1,h2⟩:=I.mod.blt;exact S4 I.ok.kind hg (Calls.loadGlobal_builtin (by rw [I.ok.glob];exact I.mod.glob.keeps I.bk) hm (by rw [I.ok.blt];exact h1.keeps I.bk) ((h2 x hn).trans hv) h) hd
theorem EW {pos:Pos}(hg:Gl X x) (hm:X.mg x=none) (hv:OC x=some u) (r:RelV v u) (hn:autoParam (x≠"__name__") zB._auto_1) (hd:autoParam ((x == ("__debug__":Str))=false) zB._auto_1):PE X (.Name x pos) (tC v):=
 λ_ _ _ H _ I h=>mE I hg hm hv ⟨v,H,I,r,h⟩ hn hd
variable {a b:N9}{ta tb:TE}{pos:Pos}
noncomputable def PC (X:Cx) (op:CmpOp) (a b:N9) (t:TE):Prop:=
 ∀(MQ:List (Nu×Obj)) (s:M5) (σ:St) (H:Hp) (Q:VK),Inv X MQ σ H s->t σ H Q->
  Nm (Nq X.prog X.w) X.A (eval a X.env) (λv s₁=>Nm (Nq X.prog X.w) X.A (eval b X.env) (λu s₂=>Nm (Nq X.prog X.w) X.A (Qj op v u) (EP X MQ σ Q) X.xe s₂) X.xe s₁) X.xe s
theorem Ci (b:N9) (h:op≠.In) (h2:op≠.NotIn):Pg op b=false:=by
 have e1:(op == YV)=false:=by cases op <;> first | rfl | exact absurd rfl h
 have e2:(op == X4)=false:=by cases op <;> first | rfl | exact absurd rfl h2
 cases b <;> simp [Pg,e1,e2]
noncomputable def tB (t:TE):TT:=λσ H Q=>t σ H λx H1=>∃c,x=.bl c/\Q c H1
theorem KI {op:CmpOp}{t:TE}(h:PC X op a b t) (h1:Pg op b=false:=by first | exact Ci _ (by decide) (by decide) | rfl):PT X (.Compare a [op] [b] pos) (tB t):=by intro MQ s σ H Q I hw;refine Ur (bM (h MQ s σ H _ I hw) λv s1 h1=>bM h1 λu s2 h2=>bM h2 λc s3 ⟨x,H1,I1,r1,q1⟩=>?_) h1;obtain ⟨d,rfl,q⟩:=q1;cases r1;exact QG ⟨H1,I1,q⟩
theorem Hi {e:N9}{t:TE}(h:PE X e t) (he:∀whole,UT e X.env whole=(do let v <-whole;Ru e.pos;holding [v] (truthy v)):=by intro _;rfl):PT X e (tB t):=by intro MQ s σ H Q I hw;refine isTrue_plain (bM (h MQ s σ H _ I hw) λv s1 ⟨x,H1,I1,r1,q1⟩=>?_) (he _);obtain ⟨d,rfl,q⟩:=q1;cases r1;exact QG ⟨H1,I1,q⟩
variable {tA tB':TT}{MT:List N9}
noncomputable def Ke (t u:TT):TT:=λσ H Q=>t σ H λc H1=>if c=true then u σ H1 Q else Q false H1
theorem E9 (ha:PT X a tA):PW X (.BoolOp .And [a] pos) tA:=by
 intro wh MQ s σ H Q I h;refine isTrue_and (bM (ha MQ s σ H Q I h) λc s1 e=>?_);cases c with
 | true=>exact isTrue_and_nil e
 | false=>exact e
theorem Ho (ha:PT X a tA) (hb:PW X (.BoolOp .And (b::MT) pos) tB'):PW X (.BoolOp .And (a::b::MT) pos) (Ke tA tB'):=by
 intro wh MQ s σ H Q I h;refine isTrue_and (bM (ha MQ s σ H _ I h) λc s1 ⟨H1,I1,q1⟩=>?_);cases c with
 | true=>exact hb wh MQ s1 σ H1 Q I1 q1
 | false=>exact ⟨H1,I1,q1⟩
noncomputable def IW (ta tb:TE):TE:=λσ H Q=>ta σ H λx H1=>∃c,x=.bl c/\if c=true then tb σ H1 Q else Q (.bl false) H1
theorem G4 {op}{t:TE}(h:PE X a t):PE X (.BoolOp op [a] pos) t:=λMQ s σ H Q I hw=>BoolOp_one (h MQ s σ H Q I hw)
theorem G1 (ha:PE X a ta) (hb:PE X (.BoolOp .And (b::MT) pos) tb):PE X (.BoolOp .And (a::b::MT) pos) (IW ta tb):=by
 intro MQ s σ H Q I h;refine BoolOp_and (bM (ha MQ s σ H _ I h) λv s1 ⟨x,H1,I1,r1,q1⟩=>?_);obtain ⟨c,rfl,q1⟩:=q1;cases r1;refine QG ?_;cases c with
 | true=>exact hb MQ s1 σ H1 Q I1 q1
 | false=>exact ⟨.bl false,H1,I1,rfl,q1⟩
end
noncomputable def bN (K:M1) (H:Hp) (a:Nu) (xs:List V):Prop:=
 Rd H a (.lst xs)\/
  ∃(o:Obj) (its:Array M4) (n:Nat),K.lookup a=some o/\o.cls=.type "list"/\o.dict=none/\o.data=.seq its n/\its.size<=sizeLine/\Vals xs its.toList
noncomputable def bT (K:M1) (H:Hp) (a:Nu) (xs:List V):Prop:=
 Rd H a (.tup xs)\/
  ∃(o:Obj) (its:Array M4) (n:Nat),K.lookup a=some o/\o.cls=.type "tuple"/\o.dict=none/\o.data=.seq its n/\its.size<=sizeLine/\Vals xs its.toList
noncomputable def JA:M4->Option V
 | .none=>some .non
 | .bool b=>some (.bl b)
 | .int i _=>some (.int i)
 | .str x _=>some (.str x)
 | .bytes b _=>some (.byt b)
 | .float b _=>some (.flt b)
 | .ref a=>some (.ref a)
 | .type n=>some (.ty n)
 | _=>none
theorem RelV.abs (r:RelV x u):JA u=some x:=by
 cases x with
 | non=>cases r;rfl
 | bl _=>cases r;rfl
 | int _=>obtain ⟨t,rfl⟩:=r;rfl
 | str _=>obtain ⟨t,rfl⟩:=r;rfl
 | byt _=>obtain ⟨t,rfl⟩:=r;rfl
 | flt _=>obtain ⟨t,rfl⟩:=r;rfl
 | ref _=>cases r;rfl
 | ty _=>cases r;rfl
theorem RelV.inj (r:RelV x u) (q:RelV y u):x=y:=Ow (r.abs.symm.trans q.abs)
theorem Vals.inj:∀{xs ys:List V}{us:List M4},Vals xs us->Vals ys us->xs=ys
 | _,_,_,.nil,.nil=>rfl
 | _,_,_,.cons r t,.cons r' t'=>by rw [r.inj r',Vals.inj t t']
section
variable {X:Cx}{MQ:List (Nu×Obj)}{σ:St}{H:Hp}{s:M5}{a:Nu}{xs ys:List V}
theorem bN.of {K:M1}(h:H a=some (.lst xs)):bN K H a xs:=.inl (.inl h)
theorem Inv.list (I:Inv X MQ σ H s) (h:bN X.K H a xs):∃its:List M4,Vals xs its/\PlainL s.heap a its.toArray/\xs.length<=sizeLine:=by
 rcases h with h | ⟨o,its,n,hk,hc,hd,hs,hz,r⟩
 ·obtain ⟨z,its,n,r,e⟩:=h.ok I.hok;exact ⟨its,r,⟨_,n,e,rfl,rfl,rfl⟩,z⟩
 ·refine ⟨its.toList,r,⟨o,n,I.kIn a o hk,hc,hd,by simpa using hs⟩,?_⟩;have e:=r.length;simp only [M_] at e;omega
theorem Inv.tuple (I:Inv X MQ σ H s) (h:bT X.K H a xs):∃its:List M4,Vals xs its/\Yy s.heap a its.toArray/\xs.length<=sizeLine:=by
 rcases h with h | ⟨o,its,n,hk,hc,hn,hs,hz,r⟩
 ·obtain ⟨z,its,r,p,_⟩:=h.ok I.hok;exact ⟨its,r,p,z⟩
 ·refine ⟨its.toList,r,⟨o,I.kIn a o hk,hc,n,by simpa using hs⟩,?_⟩;have e:=r.length;simp only [M_] at e;omega
theorem Inv.list_inj (I:Inv X MQ σ H s) (h:bN X.K H a xs) (h':bN X.K H a ys):xs=ys:=by
 obtain ⟨its,r,⟨o,n,e,_,_,d⟩,_⟩:=I.list h;obtain ⟨its',r',⟨o',n',e',_,_,d'⟩,_⟩:=I.list h';rw [e] at e';cases e';rw [d] at d';injection d' with d1 _
 have:its=its':=by simpa using congrArg Us d1
 subst this;exact r.inj r'
theorem Inv.tuple_inj (I:Inv X MQ σ H s) (h:bT X.K H a xs) (h':bT X.K H a ys):xs=ys:=by
 obtain ⟨its,r,⟨o,e,_,n,d⟩,_⟩:=I.tuple h;obtain ⟨its',r',⟨o',e',_,n',d'⟩,_⟩:=I.tuple h';rw [e] at e';cases e';rw [d] at d';injection d' with d1 _
 have:its=its':=by simpa using congrArg Us d1
 subst this;exact r.inj r'
end
noncomputable abbrev Cx.wish (X:Cx) (E:M4->M5->Prop):Cx:={X with xe:=E}
noncomputable abbrev Cx.nox (X:Cx):Cx:=X.wish λ_ _=>False
theorem Cx.Ok.wish {X:Cx}(ok:X.Ok) (E:M4->M5->Prop):(X.wish E).Ok:=
 ⟨ok.mod,ok.kind,ok.glob,ok.blt,ok.above,ok.inj,ok.has,ok.cab,ok.hd,ok.frames,ok.stk,ok.exf,ok.bs,ok.bsz,ok.noex,ok.exfs,ok.funs,ok.frf⟩
theorem Cx.Ok.unwish {X:Cx}{E:M4->M5->Prop}(ok:(X.wish E).Ok):X.Ok:=
 ⟨ok.mod,ok.kind,ok.glob,ok.blt,ok.above,ok.inj,ok.has,ok.cab,ok.hd,ok.frames,ok.stk,ok.exf,ok.bs,ok.bsz,ok.noex,ok.exfs,ok.funs,ok.frf⟩
section
variable {X:Cx}{MQ:List (Nu×Obj)}{σ:St}{H:Hp}{s:M5}{E:M4->M5->Prop}
theorem Inv.wish (I:Inv X MQ σ H s) (E:M4->M5->Prop):Inv (X.wish E) MQ σ H s:=⟨I.ok.wish E,I.os,I.bare,I.base,I.loc,I.cell,I.free,I.freeC,I.pin,I.hok,I.len⟩
theorem Inv.unwish (I:Inv (X.wish E) MQ σ H s):Inv X MQ σ H s:=⟨I.ok.unwish,I.os,I.bare,I.base,I.loc,I.cell,I.free,I.freeC,I.pin,I.hok,I.len⟩
theorem SP.unwish {D:Ends}(h:SP (X.wish E) MQ D f s'):SP X MQ D f s':=by
 cases f with
 | next=>obtain ⟨σ',H',I,q⟩:=h;exact ⟨σ',H',I.unwish,q⟩
 | brk=>obtain ⟨σ',H',I,q⟩:=h;exact ⟨σ',H',I.unwish,q⟩
 | cont=>obtain ⟨σ',H',I,q⟩:=h;exact ⟨σ',H',I.unwish,q⟩
 | ret u=>obtain ⟨v,σ',H',I,r,q⟩:=h;exact ⟨v,σ',H',I.unwish,r,q⟩
theorem iI.nox {st:List RB}{t:TS}(h:iI X.nox st t):iI X st t:=λMQ s σ H D I hw=>
 Od (h MQ s σ H D (I.wish _) hw) (λ_ _ q=>q.unwish) λ_ _ z=>Q8 z
end
section
variable {X:Cx}{st:RB}{MT:List RB}{t u:TS}{e:N9}{te:TE}{pos:Pos}
noncomputable def IZ:TS:=λD σ H=>D.nx σ H
noncomputable def Kn (t u:TS):TS:=λD σ H=>t {D with nx:=u D} σ H
theorem E5:iI X [] IZ:=λ_ _ σ H _ I h=>Uu ⟨σ,H,I,h⟩
theorem Cz (h1:PS X st t) (h2:iI X MT u):iI X (st::MT) (Kn t u):=by
 intro MQ s σ H D I h;refine V0 (bM (h1 MQ s σ H {D with nx:=u D} I h) λf s1 q=>?_);cases f with
 | next=>
  obtain ⟨σ',H',I',q⟩:=q;exact h2 MQ s1 σ' H' D I' q
 | ret v=>exact q
 | brk=>exact q
 | cont=>exact q
theorem E6 (h1:PS X st t):iI X [st] t:=by
 intro MQ s σ H D I h;refine V0 (bM (h1 MQ s σ H D I h) λf s1 q=>?_);cases f with
 | next=>exact Uu q
 | ret v=>exact q
 | brk=>exact q
 | cont=>exact q
theorem Inv.quiet {H:Hp}(I:Inv X MQ σ H s):interactive X.env=false:=by simp [interactive,I.ok.kind]
noncomputable def IY (te:TE):TS:=λD σ H=>te σ H λ_ H1=>D.nx σ H1
theorem qO (he:PE X e te) (hs:autoParam (Tq e none pos.line X.env=pure false) zA._auto_1):PS X (.Expr e pos) (IY te):=by intro MQ s σ H D I h;exact wpAny_Expr_any (bM (he MQ s σ H _ I h) λv s1 ⟨x,H1,I1,r1,q1⟩=>⟨σ,H1,I1,q1⟩) I.quiet hs
noncomputable def Km (te:TE):TS:=λD σ H=>te σ H D.rt
theorem Hg (he:PE X e te):PS X (.Return (some e) pos) (Km te):=by intro MQ s σ H D I h;exact wpAny_Return_some (bM (he MQ s σ H _ I h) λv s1 ⟨x,H1,I1,r1,q1⟩=>⟨x,σ,H1,I1,r1,q1⟩)
noncomputable def Kh (c:TT) (t u:TS):TS:=λD σ H=>c σ H λb H1=>if b=true then t D σ H1 else u D σ H1
theorem IF {c:N9}{a b:List RB}{tc:TT}(hc:PT X c tc) (ha:iI X a t) (hb:iI X b u):PS X (.If c a b pos) (Kh tc t u):=by
 intro MQ s σ H D I h;refine wpAny_If (bM (hc MQ s σ H _ I h) λd s1 ⟨H1,I1,q1⟩=>?_);cases d with
 | true=>exact ha MQ s1 σ H1 D I1 q1
 | false=>exact hb MQ s1 σ H1 D I1 q1
end
noncomputable abbrev TG:=V->St->Hp->(St->Hp->Prop)->Prop
noncomputable abbrev q_:=List V->St->Hp->(St->Hp->Prop)->Prop
noncomputable def PG (X:Cx) (MS:N9) (t:TG):Prop:=
 ∀(MQ:List (Nu×Obj)) (s:M5) (σ:St) (H:Hp) (v:V) (u:M4) (Q:St->Hp->Prop),Inv X MQ σ H s->RelV v u->t v σ H Q->
  Nm (Nq X.prog X.w) X.A (assign MS X.env u) (λ_ s'=>∃σ' H',Inv X MQ σ' H' s'/\Q σ' H') X.xe s
noncomputable def tY (X:Cx) (ts:List N9) (t:q_):Prop:=
 ∀(MQ:List (Nu×Obj)) (s:M5) (σ:St) (H:Hp) (vs:List V) (us:List M4) (Q:St->Hp->Prop),Inv X MQ σ H s->Vals vs us->t vs σ H Q->
  Nm (Nq X.prog X.w) X.A (assignInOrder ((QU ts X.env).map (·.2)) us) (λ_ s'=>∃σ' H',Inv X MQ σ' H' s'/\Q σ' H') X.xe s
section
variable {X:Cx}{pos:Pos}
noncomputable def Dt (i:Nat):TG:=λv σ H Q=>Q (σ.set i (some v)) H
theorem EZ (hN:X.N.Nodup) (hi:X.N[i]?=some x) (hx:Loc X.env.scope x) (hf:X.fn x=true\/X.env.scope.names.lookup x=some .local:=by first | exact .inl rfl | exact .inr rfl | assumption):PG X (.Name x pos) (Dt i):=by intro MQ s σ H v u Q I r h;exact wpAny_assign_Name (vM I hN hi hx r (λs' I'=>⟨_,H,I',h⟩) hf)
noncomputable def aF:q_:=λvs σ H Q=>vs=[]/\Q σ H
noncomputable def ao (t:TG) (u:q_):q_:=λvs σ H Q=>∃v r,vs=v::r/\t v σ H λσ' H'=>u r σ' H' Q
theorem E1:tY X [] aF:=by intro MQ s σ H vs us Q I r h;obtain ⟨e,h⟩:=h;subst e;cases r;exact assignInOrder_nil ⟨σ,H,I,h⟩
theorem Cv {e:N9}{es:List N9}{t:TG}{u:q_}(h1:PG X e t) (h2:tY X es u)
  (hs:autoParam ((QU (e::es) X.env).map (·.2)=assign e X.env::(QU es X.env).map (·.2)) zA._auto_1):tY X (e::es) (ao t u):=by
 intro MQ s σ H vs us Q I r h;obtain ⟨v,vr,e1,h⟩:=h;subst e1;cases r with
 | cons r rr=>
  rw [hs];refine assignInOrder_cons (bM (h1 MQ s σ H _ _ _ I r h) λ_ s1 ⟨σ1,H1,I1,q1⟩=>?_);exact h2 MQ s1 σ1 H1 _ _ Q I1 rr q1
noncomputable def bJ (K:M1) (n:Nat) (t:q_):TG:=λv σ H Q=>∃a xs,v=.ref a/\bT K H a xs/\xs.length=n/\t xs σ H Q
theorem G7 (hc:X.calm=true) (h:tY X es t)
 (hn:autoParam ((QU es X.env).length=n) zA._auto_1) (hst:autoParam ((QU es X.env).findIdx? (·.1)=none) zA._auto_1):PG X (.Tuple es k pos) (bJ X.K n t):=by intro MQ s σ H v u Q I r hw;obtain ⟨a,xs,e1,hq,hl,hw⟩:=hw;subst e1;cases r;obtain ⟨its,rv,ht,hz⟩:=I.tuple hq;refine assign_Tuple_tuple (I.ok.hd hc) ht (by simp [hn,<-hl,rv.length]) hst λh' hx=>?_;have I1:Inv X MQ σ H {s with heap:=h'}:=I.kept (t':=s.toks) λb o e=>hx b o (NF (Nk e)) e;exact h MQ _ σ H xs _ Q I1 (by simpa using rv) hw
noncomputable def CV (te:TE) (g:TG):TS:=λD σ H=>te σ H λx H1=>g x σ H1 D.nx
theorem G_ {tg e:N9}{te:TE}{g:TG}(he:PE X e te) (hg:PG X tg g) (hs:autoParam (Vc [tg] e pos.line X.env=pure false) zA._auto_1) (hw:autoParam (Xh [tg] e X.env=pure none) zA._auto_1)
  (h1:autoParam ((QU [tg] X.env).map (·.2)=[assign tg X.env]) zA._auto_1):PS X (.Assign [tg] e pos) (CV te g):=by intro MQ s σ H D I h;refine wpAny_Assign_stores (bM (he MQ s σ H _ I h) λv s1 ⟨x,H1,I1,r1,q1⟩=>?_) hs hw;rw [h1];exact bM (hg MQ s1 σ H1 x v _ I1 r1 q1) λ_ s2 q=>q
theorem Hh {i:Nat}{x:Str}{e:N9}{te:TE}{pos':Pos}(hN:X.N.Nodup) (hi:X.N[i]?=some x) (hx:Loc X.env.scope x) (he:PE X e te) (hs:autoParam (Tq e (some (.Name x pos')) pos.line X.env=pure false) zA._auto_1) (hf:X.fn x=true\/X.env.scope.names.lookup x=some .local:=by first | exact .inl rfl | exact .inr rfl | assumption):
  PS X (.Assign [.Name x pos'] e pos) (CV te (Dt i)):=by intro MQ s σ H D I h;refine wpAny_Assign_Name (bM (he MQ s σ H _ I h) λv s1 ⟨y,H1,I1,r1,q1⟩=>?_) hs;exact vM I1 hN hi hx r1 (λs2 I2=>⟨_,H1,I2,q1⟩) hf
end
structure It where
 go:Nat->Hp->Prop
 yld:Nat->Hp->V->Hp->Prop
 stop:Nat->Hp->Prop
noncomputable def gf (X:Cx) (MQ:List (Nu×Obj)) (H:Hp) (b:Nu):Prop:=
 H b=none/\b≠X.env.locals/\b∉X.fs/\(b∈X.ex\/X.s₀.heap.objs.size<=b)/\(∀x c,X.env.cells.lookup x=some c->c≠b)/\∀p∈X.pn++MQ,p.1≠b
theorem Inv.fpOk {H H':Hp}{s:M5}(I:Inv X MQ σ H s) (hb:s.heap.objs.size<=b) (hn:H' b=none):gf X MQ H' b:=by
 refine ⟨hn,Qx (Nv I.lt hb),I.nofs hb,.inr (N8 I.sz hb),λx c e z=>?_,λp hp z=>?_⟩
 ·obtain ⟨v,q⟩:=I.cell x c e;exact absurd (Nv q.lt (by rw [z];exact hb)) (PM _)
 ·exact absurd (Nv (Nk (I.pin p hp).1) (by rw [z];exact hb)) (PM _)
structure Turn (P:Nt) (w:NS) (K:M1) (tg:N9) (J:It) (fp:List Nu) (it:Nu) (tn:Nat->OQ->Prop):Prop where
 mem:it∈fp
 obj:∀i h,tn i h->∀b∈fp,∃o,h.get? b=some o/\∀v,o.data≠.cell v
 keep:∀i h h',tn i h->(∀b∈fp,∀o,h.get? b=some o->h'.get? b=some o)->tn i h'
 item:∀(X:Cx),X.prog=P->X.w=w->X.K=K->X.calm=true->∀(i:Nat) (MQ:List (Nu×Obj)) (s:M5) (σ:St) (H:Hp) (E:M4->M5->Prop),Inv X MQ σ H s->(∀b∈fp,gf X MQ H b)->tn i s.heap->J.go i H->
  Nm (Nq P w) X.A (RY (.ref it)) (λr s1=>∃u,r=some u/\
   Nm (Nq P w) X.A (Qk tg (.ref it) u) (λ_ s2=>∃x H',Inv X MQ σ H' s2/\RelV x u/\J.yld i H x H'/\tn (i + 1) s2.heap/\∀b∈fp,H' b=none) E s1) E s
 done:∀(X:Cx),X.prog=P->X.w=w->X.K=K->X.calm=true->∀(i:Nat) (MQ:List (Nu×Obj)) (s:M5) (σ:St) (H:Hp) (E:M4->M5->Prop),Inv X MQ σ H s->(∀b∈fp,gf X MQ H b)->tn i s.heap->J.stop i H->
  Nm (Nq P w) X.A (RY (.ref it)) (λr s1=>r=none/\Inv X MQ σ H s1) E s
 self:∀(A:NK) (i:Nat) (s:M5) (Q:M4->M5->Prop) (E:M4->M5->Prop),tn i s.heap->Q (.ref it) s->Nm (Nq P w) A (Tr (.ref it)) Q E s
noncomputable abbrev TI:=St->Hp->(It->Hp->Prop)->Prop
noncomputable def Jk (X:Cx) (MQ:List (Nu×Obj)) (σ:St) (tg:N9) (R:It->Hp->Prop) (itv:M4) (s2:M5):Prop:=
 ∃(it:Nu) (fp:List Nu) (tn:Nat->OQ->Prop) (J:It) (H':Hp),itv=.ref it/\Inv X MQ σ H' s2/\Turn X.prog X.w X.K tg J fp it tn/\tn 0 s2.heap/\(∀b∈fp,gf X MQ H' b)/\R J H'
noncomputable def PI (X:Cx) (tg MU:N9) (wi:TI):Prop:=
 ∀(MQ:List (Nu×Obj)) (s:M5) (σ:St) (H:Hp) (R:It->Hp->Prop),Inv X MQ σ H s->wi σ H R->
  Nm (Nq X.prog X.w) X.A (eval MU X.env) (λv s1=>Nm (Nq X.prog X.w) X.A (Tr v) (Jk X MQ σ tg R) X.xe s1) X.xe s
theorem yF {M:Yz}{E:M4->M5->Prop}{s:M5}{o:Obj}{Q:Unit->M5->Prop}(ho:s.heap.get? it=some o) (hc:o.cls=.type n) (hd:o.data=.fields vs)
 (hn:["enumerate","zip","dict_itemiterator","dict_reverseitemiterator","odict_iterator","itertools.zip_longest","itertools.pairwise"].contains n=false) (hQ:Q () s):Nm M A (Qk tg (.ref it) u) Q E s:=by
 unfold Qk;cases tg <;> first
  | exact M3 hQ
  | (cases u <;> first
    | exact M3 hQ
    | (refine M0 (W3 ho ?_);rw [hc,hd];show Nm M A (if (["enumerate","zip","dict_itemiterator","dict_reverseitemiterator","odict_iterator","itertools.zip_longest","itertools.pairwise"].contains n && vs[0]? == some (W4 _))=true then _ else _) Q E s;rw [if_neg (by intro h;rw [hn,Bool.false_and] at h;cases h)];exact M3 hQ))
noncomputable def C_ (K:M1) (a:Nu):It:=
 ⟨λi H=>∃xs x,bN K H a xs/\xs[i]?=some x,λi H x H'=>H'=H/\∀xs,bN K H a xs->xs[i]?=some x,λi H=>∃xs,bN K H a xs/\xs.length<=i⟩
noncomputable def Dd (K:M1) (a:Nu):It:=
 ⟨λi H=>∃xs x,bT K H a xs/\xs[i]?=some x,λi H x H'=>H'=H/\∀xs,bT K H a xs->xs[i]?=some x,λi H=>∃xs,bT K H a xs/\xs.length<=i⟩
noncomputable def Dc (lo:Int) (n:Nat):It:=⟨λi _=>i < n,λi H x H'=>H'=H/\x=.int (lo + i),λi _=>n<=i⟩
theorem Bo {P:Nt}{w:NS}{K:M1}{tg:N9}(a it:Nu):Turn P w K tg (C_ K a) [it] it (λi h=>h.IsListIter it a i) where
 mem:=by simp
 obj:=λi h st b hb=>by
  have e:b=it:=by simpa using hb
  subst e;obtain ⟨o,e,c,d⟩:=st;exact ⟨o,e,λv z=>by rw [d] at z;cases z⟩
 keep:=λi h h' st k=>st.at λo e=>k it (by simp) o e
 item:=by intro X hP hw hK hc i MQ s σ H E I hf st hg;subst hP hw hK;obtain ⟨xs,x,hq,hx⟩:=hg;obtain ⟨its,rv,p,hz⟩:=I.list hq;obtain ⟨u,hu,ru⟩:=rv.get hx;obtain ⟨f0,f1,f2,f3,f4,f5⟩:=hf it (by simp);refine wpAny_pyNext_list_item st p.isList (x:=u) (by simpa using hu) λh' st' sb=>?_;have I1:Inv X MQ σ H {s with heap:=h'}:=I.turned (t':=s.toks) (λb o hb e=>(sb.2 b hb).trans e) f0 f1 f3 f4 f5;obtain ⟨o,e,c,d⟩:=id st';exact ⟨u,rfl,yF (s:={s with heap:=h'}) e c d (by decide) ⟨x,H,I1,ru,⟨rfl,λys hy=>by rw [I.list_inj hy hq];exact hx⟩,st',λb hb=>(hf b hb).1⟩⟩
 done:=by intro X hP hw hK hc i MQ s σ H E I hf st hg;subst hP hw hK;obtain ⟨xs,hq,hx⟩:=hg;obtain ⟨its,rv,p,hz⟩:=I.list hq;obtain ⟨f0,f1,f2,f3,f4,f5⟩:=hf it (by simp);have hl:=rv.length;exact wpAny_pyNext_list_end (I.ok.hd hc) st p.isList (by simp;omega) λh' eb=>⟨rfl,I.turned (t':=s.toks) (λb o hb e=>eb b o hb e) f0 f1 f3 f4 f5⟩
 self:=λ_ _ _ _ _ st h=>wpAny_pyIter_listiter st h
theorem zk {P:Nt}{w:NS}{K:M1}{tg:N9}(a it:Nu):Turn P w K tg (Dd K a) [it] it (λi h=>h.IsTupleIter it a i) where
 mem:=by simp
 obj:=λi h st b hb=>by
  have e:b=it:=by simpa using hb
  subst e;obtain ⟨o,e,c,d⟩:=st;exact ⟨o,e,λv z=>by rw [d] at z;cases z⟩
 keep:=λi h h' st k=>st.at λo e=>k it (by simp) o e
 item:=by intro X hP hw hK hc i MQ s σ H E I hf st hg;subst hP hw hK;obtain ⟨xs,x,hq,hx⟩:=hg;obtain ⟨its,rv,p,hz⟩:=I.tuple hq;obtain ⟨u,hu,ru⟩:=rv.get hx;obtain ⟨f0,f1,f2,f3,f4,f5⟩:=hf it (by simp);refine wpAny_pyNext_tuple_item st (show s.heap.IsTuple a its.toArray from p) (x:=u) (by simpa using hu) λh' st' sb=>?_;have I1:Inv X MQ σ H {s with heap:=h'}:=I.turned (t':=s.toks) (λb o hb e=>(sb.2 b hb).trans e) f0 f1 f3 f4 f5;obtain ⟨o,e,c,d⟩:=id st';exact ⟨u,rfl,yF (s:={s with heap:=h'}) e c d (by decide) ⟨x,H,I1,ru,⟨rfl,λys hy=>by rw [I.tuple_inj hy hq];exact hx⟩,st',λb hb=>(hf b hb).1⟩⟩
 done:=by intro X hP hw hK hc i MQ s σ H E I hf st hg;subst hP hw hK;obtain ⟨xs,hq,hx⟩:=hg;obtain ⟨its,rv,p,hz⟩:=I.tuple hq;obtain ⟨f0,f1,f2,f3,f4,f5⟩:=hf it (by simp);have hl:=rv.length;exact wpAny_pyNext_tuple_end (I.ok.hd hc) st (show s.heap.IsTuple a its.toArray from p) (by simp;omega) λh' eb=>⟨rfl,I.turned (t':=s.toks) (λb o hb e=>eb b o hb e) f0 f1 f3 f4 f5⟩
 self:=λ_ _ _ _ _ st h=>wpAny_pyIter_tupleiter st h
theorem zj {P:Nt}{w:NS}{K:M1}{tg:N9}(it:Nu) (lo:Int) (n:Nat):Turn P w K tg (Dc lo n) [it] it (λi h=>IsRangeIter h it (lo + (i:Nat) * 1) ((n:Int) - (i:Nat)) 1) where
 mem:=by simp
 obj:=λi h st b hb=>by
  have e:b=it:=by simpa using hb
  subst e;exact ⟨_,st,λv z=>by
   have z':X5 _=Wf v:=z;cases z'⟩
 keep:=λi h h' st k=>k it (by simp) _ st
 item:=by intro X hP hw hK hc i MQ s σ H E I hf st hg;subst hP hw hK;obtain ⟨f0,f1,f2,f3,f4,f5⟩:=hf it (by simp);have W:=Walks.range (prog:=X.prog) (w:=X.w) (I.ok.hd hc) it lo 1 n;refine W.item i s _ _ hg st λv h' tk hv st' kk=>?_;obtain ⟨t,rfl⟩:=hv;have I1:Inv X MQ σ H {s with heap:=h',toks:=tk}:=I.turned (λb o hb e=>kk b o (by simpa using hb) e) f0 f1 f3 f4 f5;refine ⟨_,rfl,yF (s:={s with heap:=h',toks:=tk}) (n:="range_iterator") st' rfl rfl (by decide) ⟨.int (lo + i),H,I1,⟨t,?_⟩,⟨rfl,rfl⟩,st',λb hb=>(hf b hb).1⟩⟩;rw [Int.mul_one]
 done:=by intro X hP hw hK hc i MQ s σ H E I hf st hg;subst hP hw hK;obtain ⟨f0,f1,f2,f3,f4,f5⟩:=hf it (by simp);exact wpAny_pyNext_range_end (I.ok.hd hc) st (by have:n<=i:=hg;omega) λh' eb=>⟨rfl,I.turned (t':=s.toks) (λb o hb e=>eb b o hb e) f0 f1 f3 f4 f5⟩
 self:=λ_ _ _ _ _ st h=>wpAny_pyIter_rangeiter st h
section
variable {X:Cx}{tg:N9}
theorem CK {MQ:List (Nu×Obj)}{σ:St}{H:Hp}{s:M5}{R:It->Hp->Prop}{E:M4->M5->Prop}{lo hi:Int}{t u v:Tok}{tk:Nat}(I:Inv X MQ σ H s) (h1:-(2 ^ 62)<=lo) (h2:lo < 2 ^ 62) (h3:-(2 ^ 62)<=hi) (h4:hi < 2 ^ 62)
  (q:R (Dc lo (hi - lo).toNat) H):Nm (Nq X.prog X.w) X.A (Tr (.ref s.heap.objs.size)) (Jk X MQ σ tg R) E {s with heap:=s.heap.push {cls:=.type "range",data:=.fields #[.int lo t,.int hi u,.int 1 v]},toks:=tk}:=by
 refine wpAny_pyIter_range (IsRange.new ..) (small_one h1 h2 h3 h4) ?_;have I1:Inv X MQ σ H {s with heap:=s.heap.push {cls:=.type "range",data:=.fields #[.int lo t,.int hi u,.int 1 v]},toks:=tk}:=I.kept λb o e=>M6 _ e;refine ⟨(s.heap.push {cls:=.type "range",data:=.fields #[.int lo t,.int hi u,.int 1 v]}).objs.size,[(s.heap.push {cls:=.type "range",data:=.fields #[.int lo t,.int hi u,.int 1 v]}).objs.size],_,_,H,rfl,
  I1.kept (t':=tk) λb o e=>M6 _ e,zj _ lo (hi - lo).toNat,?_,λb hb=>?_,q⟩
 ·have e1:lo + ((0:Nat):Int) * 1=lo:=by simp
  have e2:(((hi - lo).toNat:Nat):Int) - ((0:Nat):Int)=TR lo hi 1:=by rw [Xi];split <;> omega
  show IsRangeIter _ _ (lo + ((0:Nat):Int) * 1) ((((hi - lo).toNat:Nat):Int) - ((0:Nat):Int)) 1;rw [e1,e2];exact Nf _ rfl
 ·have e:b=(s.heap.push {cls:=.type "range",data:=.fields #[.int lo t,.int hi u,.int 1 v]}).objs.size:=by simpa using hb
  subst e;exact I1.fpOk (Nb _) (I1.hok.fresh (Nb _))
noncomputable def Ii (ta:TA):TI:=λσ H R=>ta σ H λvs H1=>∃j:Int,vs=[.int j]/\-(2 ^ 62)<=j/\j < 2 ^ 62/\R (Dc 0 j.toNat) H1
theorem AW {a:N9}{ta:TA}{p pos:Pos}(hg:Gl X "range") (hm:X.mg "range"=none) (ha:PA X [a] ta) (hs:autoParam (Nl [a] X.env=[(false,eval a X.env)]) zA._auto_1):PI X tg (.Call (.Name "range" p) [a] [] pos) (Ii ta):=by
 intro MQ s σ H R I h;refine Call_ (mE I hg hm boot_range (Q4 (bM (ha pos MQ s σ H _ I h) λus s1 ⟨vs,H1,I1,r1,q1⟩=>?_) hs rfl));obtain ⟨j,e,q1,q2,q⟩:=q1;subst e;cases r1 with
 | cons r rr=>
  cases rr;obtain ⟨t,rfl⟩:=r;exact call_range_1 (CK I1 (by omega) (by omega) q1 q2 (by simpa using q))
noncomputable def Kf (wi:TI) (g:TG) (tb:TS):TS:=λD σ H=>wi σ H λJ H1=>∃W:Nat->Nat->St->Hp->Prop,(∃m,W 0 m σ H1)/\∀i m σ H,W i m σ H->
 (J.stop i H/\D.nx σ H)\/(J.go i H/\∃N:St->Hp->Prop,(∀σ' H',N σ' H'->∃m',m' < m/\W (i + 1) m' σ' H')/\∀x H',J.yld i H x H'->g x σ H' λσ2 H2=>tb {D with nx:=N,ct:=N,bk:=D.nx} σ2 H2)
noncomputable def mJ (fp:List Nu) (h:OQ):List (Nu×Obj):=fp.filterMap λb=>(h.get? b).map λo=>(b,o)
theorem iQ {fp:List Nu}{h:OQ}(hb:b∈fp) (e:h.get? b=some o):(b,o)∈mJ fp h:=RD.mpr ⟨b,hb,by rw [e];rfl⟩
theorem AG {fp:List Nu}{h:OQ}{p:Nu×Obj}(hp:p∈mJ fp h):p.1∈fp/\h.get? p.1=some p.2:=by
 obtain ⟨b,hb,e⟩:=RD.mp hp;cases q:h.get? b with
 | none=>rw [q] at e;cases e
 | some o=>
  rw [q] at e;have e':(b,o)=p:=Ow e;subst e';exact ⟨hb,q⟩
theorem Inv.pinned {H:Hp}{s:M5}{fp:List Nu}(I:Inv X MQ σ H s) (hf:∀b∈fp,gf X MQ H b) (ho:∀b∈fp,∃o,s.heap.get? b=some o/\∀v,o.data≠.cell v):Inv X (MQ++mJ fp s.heap) σ H s:=
 I.pins_of λp hp=>(NV.mp hp).elim (λz=>I.pin p (Oa _ z)) λz=>by obtain ⟨hb,e⟩:=AG z;obtain ⟨f0,f1,f2,_⟩:=hf p.1 hb;obtain ⟨o,e',d⟩:=ho p.1 hb;rw [e] at e';cases e';exact ⟨e,f0,f1,f2,d⟩
theorem Inv.unpinned {H:Hp}(I:Inv X (MQ++pl) σ H s):Inv X MQ σ H s:=I.pins_of λp hp=>I.pin p (Oa _ (Rj _ hp))
theorem Hf {MU:N9}{body:List RB}{wi:TI}{g:TG}{tb:TS}{pos:Pos}(hp:PassesOwn (Nq X.prog X.w) X.A X.env X.xe) (hc:X.calm=true) (hi:PI X tg MU wi) (hg:PG X tg g) (hb:iI X body tb)
  (hs:∀x,OS MU X.env x=pure x:=by intro _;rfl):PS X (.For tg MU body [] pos) (Kf wi g tb):=by
 intro MQ s σ H D I h;refine wpAny_For (bM (hi MQ s σ H _ I h) λv s1 h1=>bM h1 λitv s2 h2=>?_) hs;obtain ⟨it,fp,tn,J,H2,e,I2,T,st2,f2,W,⟨m0,w0⟩,turn⟩:=h2;subst e;have stat:∀{H':Hp},(∀b∈fp,H' b=none)->∀b∈fp,gf X MQ H' b:=λhn b hb=>⟨hn b hb,(f2 b hb).2⟩;refine codeAny_forLoop_any (λn s'=>∃i σ' H',Inv X MQ σ' H' s'/\tn i s'.heap/\(∀b∈fp,H' b=none)/\W i n σ' H') ?_ m0 ⟨0,σ,H2,I2,st2,λb hb=>(f2 b hb).1,w0⟩;rintro n s3 ⟨i,σ3,H3,I3,st3,fr3,w3⟩;rcases turn i n σ3 H3 w3 with ⟨stop,qn⟩ | ⟨go,N,hN,step⟩
 ·refine RE hp (bM (T.done X rfl rfl rfl hc i MQ s3 σ3 H3 X.xe I3 (stat fr3) st3 stop) λr s4 ⟨hr,I4⟩=>?_);subst hr;exact Uu ⟨σ3,H3,I4,qn⟩
 ·refine RE hp (bM (T.item X rfl rfl rfl hc i MQ s3 σ3 H3 X.xe I3 (stat fr3) st3 go) λr s4 ⟨u,hr,h4⟩=>?_);subst hr;refine RE hp (bM h4 λ_ s5 ⟨x,H5,I5,r5,y5,st5,fr5⟩=>?_);have I5':=I5.pinned (stat fr5) (T.obj _ _ st5);refine RE hp (bM (hg _ s5 σ3 H5 x u _ I5' r5 (step x H5 y5)) λ_ s6 ⟨σ6,H6,I6,q6⟩=>?_);refine RE hp (bM (hb _ s6 σ6 H6 _ I6 q6) λf s7 q7=>?_);have again:∀{σ7:St}{H7:Hp},Inv X (MQ++mJ fp s5.heap) σ7 H7 s7->N σ7 H7->∃m,m < n/\∃i σ' H',Inv X MQ σ' H' s7/\tn i s7.heap/\(∀b∈fp,H' b=none)/\W i m σ' H':=fun {σ7 H7} I7 n7=>by obtain ⟨m',hm,w7⟩:=hN σ7 H7 n7;refine ⟨m',hm,i + 1,σ7,H7,I7.unpinned,T.keep _ _ _ st5 λb hb o e=>(I7.pin (b,o) (Oa _ (Oa _ (iQ hb e)))).1,λb hb=>?_,w7⟩;obtain ⟨o,e,d⟩:=T.obj _ _ st5 b hb;exact (I7.pin (b,o) (Oa _ (Oa _ (iQ hb e)))).2.1
  cases f with
  | next=>obtain ⟨σ7,H7,I7,n7⟩:=q7;exact again I7 n7
  | cont=>obtain ⟨σ7,H7,I7,n7⟩:=q7;exact again I7 n7
  | brk=>obtain ⟨σ7,H7,I7,q7⟩:=q7;exact ⟨σ7,H7,I7.unpinned,q7⟩
  | ret v=>obtain ⟨x7,σ7,H7,I7,r7,q7⟩:=q7;exact ⟨x7,σ7,H7,I7.unpinned,r7,q7⟩
end
noncomputable abbrev R2:=V->V->Hp->VK->Prop
noncomputable def dc (X:Cx) (f:M4->M4->Sem M4) (r:R2):Prop:=
 ∀(MQ:List (Nu×Obj)) (s:M5) (σ:St) (H:Hp) (x y:V) (v u:M4) (Q:VK),Inv X MQ σ H s->RelV x v->RelV y u->r x y H Q->
  Nm (Nq X.prog X.w) X.A (f v u) (EP X MQ σ Q) X.xe s
noncomputable def F2 (X:Cx) (f:M4->Sem M4) (r:V->Hp->VK->Prop):Prop:=
 ∀(MQ:List (Nu×Obj)) (s:M5) (σ:St) (H:Hp) (x:V) (v:M4) (Q:VK),Inv X MQ σ H s->RelV x v->r x H Q->
  Nm (Nq X.prog X.w) X.A (f v) (EP X MQ σ Q) X.xe s
noncomputable def bw (X:Cx) (f:M4) (r:List V->Hp->VK->Prop):Prop:=
 ∀(MQ:List (Nu×Obj)) (s:M5) (σ:St) (H:Hp) (xs:List V) (us:List M4) (Q:VK),Inv X MQ σ H s->Vals xs us->r xs H Q->
  Nm (Nq X.prog X.w) X.A (call f us) (EP X MQ σ Q) X.xe s
noncomputable def Jz (X:Cx) (r:V->Hp->(Bool->Hp->Prop)->Prop):Prop:=
 ∀(MQ:List (Nu×Obj)) (s:M5) (σ:St) (H:Hp) (x:V) (v:M4) (Q:Bool->Hp->Prop),Inv X MQ σ H s->RelV x v->r x H Q->
  Nm (Nq X.prog X.w) X.A (truthy v) (TP X MQ σ Q) X.xe s
noncomputable def Bg (r:R2) (ta tb:TE):TE:=λσ H Q=>ta σ H λx H1=>tb σ H1 λy H2=>r x y H2 Q
noncomputable def KS (r:V->Hp->VK->Prop) (ta:TE):TE:=λσ H Q=>ta σ H λx H1=>r x H1 Q
noncomputable def rI (C:Int->Int->Prop) (g:Int->Int->V):R2:=λx y H Q=>∃i j,x=.int i/\y=.int j/\C i j/\Q (g i j) H
noncomputable def nV (g:Int->Int->V):R2:=λx y H Q=>∃i j,x=.int i/\y=.int j/\Q (g i j) H
noncomputable def rU (g:Int->V):V->Hp->VK->Prop:=λx H Q=>∃i,x=.int i/\Q (g i) H
section
variable {X:Cx}{a b c:N9}{ta tb tc:TE}{pos:Pos}
theorem BH (ha:PE X a ta) (hb:PE X b tb){MQ:List (Nu×Obj)}{s:M5}{σ:St}{H:Hp}{R:V->V->Hp->Prop}(I:Inv X MQ σ H s)
  (h:ta σ H λx H1=>tb σ H1 λy H2=>R x y H2){Q:M4->M5->Prop}{f:M4->M4->Sem M4}
  (hf:∀v u s2 x y H2,Inv X MQ σ H2 s2->RelV x v->RelV y u->R x y H2->Nm (Nq X.prog X.w) X.A (f v u) Q X.xe s2):
  Nm (Nq X.prog X.w) X.A (eval a X.env) (λv s₁=>Nm (Nq X.prog X.w) X.A (eval b X.env) (λu s₂=>Nm (Nq X.prog X.w) X.A (f v u) Q X.xe s₂) X.xe s₁) X.xe s:=by refine bM (ha MQ s σ H _ I h) λv s1 ⟨x,H1,I1,r1,q1⟩=>?_;refine bM (hb MQ s1 σ H1 _ I1 q1) λu s2 ⟨y,H2,I2,r2,q2⟩=>?_;exact hf v u s2 x y H2 I2 r1 r2 q2
theorem ID (ho:dc X (Q9 op) r) (ha:PE X a ta) (hb:PE X b tb):PE X (.BinOp a op b pos) (Bg r ta tb):=by intro MQ s σ H Q I h;exact wpAny_BinOp (BH ha hb I h λv u s2 x y H2 I2 rx ry q=>ho MQ s2 σ H2 x y v u Q I2 rx ry q)
theorem IE {r:V->Hp->VK->Prop}(ho:F2 X (unaryOp op) r) (ha:PE X a ta):PE X (.UnaryOp op a pos) (KS r ta):=by intro MQ s σ H Q I h;exact UnaryOp_ (bM (ha MQ s σ H _ I h) λv s1 ⟨x,H1,I1,r1,q1⟩=>ho MQ s1 σ H1 x v Q I1 r1 q1)
theorem DH {f:M4->M4->Sem M4}{C:Int->Int->Prop}{g:Int->Int->Int}
  (rule:∀(i j:Int) (t u:Tok) (s:M5) (Q:M4->M5->Prop) (E:M4->M5->Prop),C i j->Q (.int (g i j) s.toks) {s with toks:=s.toks + 1}->Nm (Nq X.prog X.w) X.A (f (.int i t) (.int j u)) Q E s):
  dc X f (rI C λi j=>.int (g i j)):=by intro MQ s σ H x y v u Q I rx ry h;obtain ⟨i,j,rfl,rfl,hc,q⟩:=h;obtain ⟨t,rfl⟩:=rx;obtain ⟨t',rfl⟩:=ry;exact rule i j t t' s _ _ hc ⟨.int (g i j),H,I.tok _,⟨_,rfl⟩,q⟩
theorem GR {f:M4->M4->Sem M4}{g:Int->Int->Int}
  (rule:∀(i j:Int) (t u:Tok) (s:M5) (Q:M4->M5->Prop) (E:M4->M5->Prop),Q (.int (g i j) s.toks) {s with toks:=s.toks + 1}->Nm (Nq X.prog X.w) X.A (f (.int i t) (.int j u)) Q E s):
  dc X f (nV λi j=>.int (g i j)):=by intro MQ s σ H x y v u Q I rx ry h;obtain ⟨i,j,rfl,rfl,q⟩:=h;obtain ⟨t,rfl⟩:=rx;obtain ⟨t',rfl⟩:=ry;exact rule i j t t' s _ _ ⟨.int (g i j),H,I.tok _,⟨_,rfl⟩,q⟩
theorem Cq {f:M4->M4->Sem M4}{g:Int->Int->Bool}
  (rule:∀(i j:Int) (t u:Tok) (s:M5) (Q:M4->M5->Prop) (E:M4->M5->Prop),Q (.bool (g i j)) s->Nm (Nq X.prog X.w) X.A (f (.int i t) (.int j u)) Q E s):
  dc X f (nV λi j=>.bl (g i j)):=by intro MQ s σ H x y v u Q I rx ry h;obtain ⟨i,j,rfl,rfl,q⟩:=h;obtain ⟨t,rfl⟩:=rx;obtain ⟨t',rfl⟩:=ry;exact rule i j t t' s _ _ ⟨.bl (g i j),H,I,rfl,q⟩
noncomputable def Jv (i j:Int):Prop:=0 < j/\j < 1073741824
noncomputable def Jw (i j:Int):Prop:=0<=j/\j<=1000000/\i.natAbs < 2 ^ 64
noncomputable def xW (i j:Int):Prop:=(-(2 ^ 64) < i/\i < 2 ^ 64)\/(-(2 ^ 64) < j/\j < 2 ^ 64)
theorem xW.ok (h:xW i j):IntMulOk i j:=by
 rcases h with ⟨h1,h2⟩ | ⟨h1,h2⟩
 ·exact .of_left (Xj h1 h2)
 ·exact .of_right (Xj h1 h2)
theorem AJ:dc X (Q9 .Add) (nV λi j=>.int (i + j)):=GR λ_ _ _ _ _ _ _ q=>add_int q
theorem GZ:dc X (Q9 .Sub) (nV λi j=>.int (i - j)):=GR λ_ _ _ _ _ _ _ q=>sub_int q
theorem GV:dc X (Q9 .Mult) (rI xW λi j=>.int (i * j)):=DH λ_ _ _ _ _ _ _ hc q=>mul_int q hc.ok
theorem EO:dc X (Q9 .FloorDiv) (rI Jv λi j=>.int (i / j)):=DH λi j _ _ _ _ _ hc q=>by have h1:(0:Int) < j:=hc.1;have h2:j < 1073741824:=hc.2;exact floordiv_int (by omega) (by rw [Int.fdiv_eq_ediv_of_nonneg i (by omega)];exact q) (.inl (PyProof.noPylong_small (by omega)))
theorem GU:dc X (Q9 .Mod) (rI (λ_ j=>0 < j) λi j=>.int (i % j)):=DH λi j _ _ _ _ _ hc q=>by have h1:(0:Int) < j:=hc;exact mod_int' (by omega) (by rw [Int.fmod_eq_emod_of_nonneg i (by omega)];exact q)
theorem GY:dc X (Q9 .Pow) (rI Jw λi j=>.int (i ^ j.toNat)):=DH λ_ _ _ _ _ _ _ hc q=>pow_int_small hc.1 hc.2.1 hc.2.2 q
theorem xS {f:M4->Sem M4}{g:Int->Int}
  (rule:∀(i:Int) (t:Tok) (s:M5) (Q:M4->M5->Prop) (E:M4->M5->Prop),Q (.int (g i) s.toks) {s with toks:=s.toks + 1}->Nm (Nq X.prog X.w) X.A (f (.int i t)) Q E s):
  F2 X f (rU λi=>.int (g i)):=by intro MQ s σ H x v Q I rx h;obtain ⟨i,rfl,q⟩:=h;obtain ⟨t,rfl⟩:=rx;exact rule i t s _ _ ⟨.int (g i),H,I.tok _,⟨_,rfl⟩,q⟩
theorem HY:F2 X (unaryOp .USub) (rU λi=>.int (-i)):=xS λ_ _ _ _ _ q=>neg_int q
theorem DJ:dc X (Qj .Lt) (nV λi j=>.bl (decide (i < j))):=Cq λ_ _ _ _ _ _ _ q=>lt_int q
theorem DI:dc X (Qj .Gt) (nV λi j=>.bl (decide (j < i))):=Cq λ_ _ _ _ _ _ _ q=>gt_int q
theorem Iv:dc X (Qj .GtE) (nV λi j=>.bl (decide (j<=i))):=Cq λ_ _ _ _ _ _ _ q=>ge_int q
theorem dc.or {f:M4->M4->Sem M4}{r r':R2}(h:dc X f r) (h':dc X f r'):dc X f (λx y H Q=>r x y H Q\/r' x y H Q):=by
 intro MQ s σ H x y v u Q I rx ry q;rcases q with q | q
 ·exact h MQ s σ H x y v u Q I rx ry q
 ·exact h' MQ s σ H x y v u Q I rx ry q
theorem vg (b:N9) (h:autoParam (op≠.In) zB._auto_1) (h2:autoParam (op≠.NotIn) zB._auto_1):Pg op b=false:=by
 have e1:(op == YV)=false:=by cases op <;> first | rfl | exact absurd rfl h
 have e2:(op == X4)=false:=by cases op <;> first | rfl | exact absurd rfl h2
 cases b <;> simp [Pg,e1,e2]
theorem EY (ho:dc X (Qj op) r) (ha:PE X a ta) (hb:PE X b tb) (hm:Pg op b=false):PE X (.Compare a [op] [b] pos) (Bg r ta tb):=by intro MQ s σ H Q I h;exact wpAny_Compare1 (BH ha hb I h λv u s2 x y H2 I2 rx ry q=>ho MQ s2 σ H2 x y v u Q I2 rx ry q) hm
noncomputable def I_ (t:TE):TT:=λσ H Q=>t σ H λx H'=>∃k,x=.bl k/\Q k H'
theorem E7 {op:CmpOp}{r:R2}(ho:dc X (Qj op) r) (ha:PE X a ta) (hb:PE X b tb) (hm:Pg op b=false):PT X (.Compare a [op] [b] pos) (I_ (Bg r ta tb)):=by
 intro MQ s σ H Q I h;refine Ur (bM (ha MQ s σ H _ I h) λv s1 ⟨x,H1,I1,r1,q1⟩=>bM (hb MQ s1 σ H1 _ I1 q1) λu s2 ⟨y,H2,I2,r2,q2⟩=>
  bM (ho MQ s2 σ H2 x y v u _ I2 r1 r2 q2) λc s3 ⟨z,H3,I3,r3,k,e,q3⟩=>?_) hm
 subst e;cases r3;exact QG ⟨H3,I3,q3⟩
noncomputable def BE (K:M1) (x:V) (H:Hp) (k:Bool):Prop:=
 match x with
 | .non=>k=false
 | .bl b=>k=b
 | .int i=>k=(i != 0)
 | .str y=>y.length<=sizeLine/\k=((y.length:Int) != 0)
 | .byt y=>y.size<=sizeLine/\k=((y.size:Int) != 0)
 | .ref p=>(∃xs,bN K H p xs/\k=!xs.isEmpty)\/(∃xs,bT K H p xs/\k=!xs.isEmpty)\/∃MY,H p=some (.dK MY)/\k=!MY.isEmpty
 | _=>False
theorem yG {κ:Type}{MY:List (κ×V)}{vs:List (κ×M4)}(r:KV MY vs):(!vs.isEmpty)=!MY.isEmpty:=by cases r <;> rfl
theorem pU {xs:List V}{its:List M4}(r:Vals xs its):(!its.toArray.isEmpty)=!xs.isEmpty:=by cases r <;> simp
theorem kc:(sizeLine:Nat) < 2 ^ 63:=by rw [OG];decide
theorem HQ:Jz X (λx H Q=>∃k,BE X.K x H k/\Q k H):=by
 intro MQ s σ H x v Q I rx h;obtain ⟨k,e,q⟩:=h;have hl:=kc;have hs:sizeLine=16777216:=OG;cases x with
 | non=>
  cases rx;have e':k=false:=e;subst e';exact truthy_none ⟨H,I,q⟩
 | bl b=>
  cases rx;have e':k=b:=e;subst e';exact QG ⟨H,I,q⟩
 | int i=>
  obtain ⟨t,rfl⟩:=rx;have e':k=(i != 0):=e;subst e';exact PySem.P.truthy_int ⟨H,I,q⟩
 | str y=>
  obtain ⟨t,rfl⟩:=rx;obtain ⟨hy,e'⟩:y.length<=sizeLine/\k=((y.length:Int) != 0):=e;subst e';exact PySem.P.truthy_str (by omega) ⟨H,I.tok _,q⟩
 | byt y=>
  obtain ⟨t,rfl⟩:=rx;obtain ⟨hy,e'⟩:y.size<=sizeLine/\k=((y.size:Int) != 0):=e;subst e';exact W.truthy_bytes (by omega) ⟨H,I.tok _,q⟩
 | ref p=>
  cases rx;have e':(∃xs,bN X.K H p xs/\k=!xs.isEmpty)\/(∃xs,bT X.K H p xs/\k=!xs.isEmpty)\/∃MY,H p=some (.dK MY)/\k=!MY.isEmpty:=e;rcases e' with ⟨xs,hx,e'⟩ | ⟨xs,hx,e'⟩ | ⟨MY,hx,e'⟩
  ·subst e';obtain ⟨its,r,pl,hz⟩:=I.list hx;have hlen:=r.length;exact wpAny_truthy_list pl.isList (by simp only [Ni];omega) ⟨H,I.tok _,by rw [pU r];exact q⟩
  ·subst e';obtain ⟨its,r,pl,hz⟩:=I.tuple hx;have hlen:=r.length;exact truthy_tuple pl (by simp only [Ni];omega) ⟨H,I.tok _,by rw [pU r];exact q⟩
  ·subst e';obtain ⟨hz,hS,vs,r,m⟩:MY.length<=sizeLine/\(p == R6)=false/\∃vs,KV MY vs/\s.heap.DictOf (qM X.prog X.w) p vs:=I.hok p _ hx;have hlen:MY.length=vs.length:=Xg r;exact wpAny_truthy_dict hS m (by omega) ⟨H,I.tok _,by rw [yG r];exact q⟩
 | _=>exact (show False from e).elim
theorem CA (ha:PE X a ta) (he:∀whole,UT a X.env whole=(do let v <-whole;Ru a.pos;holding [v] (truthy v))):
  PT X a (λσ H Q=>ta σ H λx H'=>∃k,BE X.K x H' k/\Q k H'):=by intro MQ s σ H Q I h;exact isTrue_plain (bM (ha MQ s σ H _ I h) λv s1 ⟨x,H1,I1,r1,q1⟩=>HQ MQ s1 σ H1 x v Q I1 r1 q1) (he _)
theorem pY:dc X (Q9 .Add) (λx y H Q=>∃i j,x=.str i/\y=.str j/\i.length + j.length<=sizeLine/\Q (.str (i++j)) H):=by intro MQ s σ H x y v u Q I rx ry h;obtain ⟨i,j,rfl,rfl,hz,q⟩:=h;obtain ⟨t,rfl⟩:=rx;obtain ⟨t',rfl⟩:=ry;exact add_str (λt' tk=>⟨.str (i++j),H,I.tok _,⟨_,rfl⟩,q⟩) hz
theorem vals1 (r:Vals [x] us):∃u,us=[u]/\RelV x u:=by
 cases r with
 | cons r1 r2=>cases r2;exact ⟨_,rfl,r1⟩
theorem vals2 (r:Vals [x,y] us):∃u w',us=[u,w']/\RelV x u/\RelV y w':=by
 cases r with
 | cons r1 r2=>
  cases r2 with
  | cons r3 r4=>cases r4;exact ⟨_,_,rfl,r1,r3⟩
end
structure cZ (k:Nat) (A:NK):Prop where
 hd:A.handled=none
 dp:A.depth + 3 * k + 5 < WM
 un:A.units + 16 * k + 200 < PN
theorem cZ.mono (r:cZ k A) (h:j<=k):cZ j A:=⟨r.hd,by have:=r.dp;omega,by have:=r.un;omega⟩
theorem cZ.deeper {A:NK}(r:cZ (k + 1) A) (env:Env):cZ k (A.deeper env):=
 ⟨r.hd,by have:=r.dp;show A.depth + 1 + 3 * k + 5 < _;omega,by have:=r.un;show A.units + 3 + 16 * k + 200 < _;omega⟩
theorem cZ.depth {A:NK}(r:cZ k A):A.depth < WM:=by have:=r.dp;omega
theorem cZ.units {A:NK}(r:cZ k A):A.units + 64 < PN:=by have:=r.un;omega
noncomputable def vN:TA:=λ_ H Q=>Q [] H
noncomputable def IX (ta:TE) (tr:TA):TA:=λσ H Q=>ta σ H λx H1=>tr σ H1 λxs H2=>Q (x::xs) H2
section
variable {X:Cx}{e:N9}{es:List N9}{te:TE}{t:TA}{pos:Pos}
theorem gS:PA X [] vN:=λ_ _ _ _ H Q I h=>Calls.spliced_nil ⟨[],H,I,.nil,h⟩
theorem fh (ha:PE X e te) (hr:PA X es t) (hs:autoParam (Nl (e::es) X.env=(false,eval e X.env)::Nl es X.env) zA._auto_1):PA X (e::es) (IX te t):=by intro pos MQ s σ H Q I h;rw [hs];show Nm _ _ (spliced ((false,eval e X.env)::Qw pos (Nl es X.env))) _ _ s;refine Calls.spliced_cons (bM (ha MQ s σ H _ I h) λu s1 ⟨x,H1,I1,r1,q1⟩=>?_);exact bM (hr pos MQ s1 σ H1 _ I1 q1) λus s2 ⟨xs,H2,I2,r2,q2⟩=>⟨x::xs,H2,I2,.cons r1 r2,q2⟩
noncomputable def Ko (t:TA):TE:=λσ H Q=>t σ H λxs H1=>xs.length<=sizeLine/\∀p,H1 p=none->Q (.ref p) (upd H1 p (.tup xs))
noncomputable def Kl (t:TA):TE:=λσ H Q=>t σ H λxs H1=>xs.length<=sizeLine/\∀p,H1 p=none->Q (.ref p) (upd H1 p (.lst xs))
theorem G6 {x1}(h:PA X es t):PE X (.Tuple es x1 pos) (Ko t):=by intro MQ s σ H Q I hq;refine wpAny_Tuple_spliced (bM (h pos MQ s σ H _ I hq) λus s1 ⟨xs,H1,I1,r,z,q⟩=>⟨by rw [<-r.length];exact z,?_⟩);have hf:H1 s1.heap.objs.size=none:=I1.hok.fresh (Nb _);refine ⟨.ref s1.heap.objs.size,upd H1 s1.heap.objs.size (.tup xs),I1.laid (t':=s1.toks) (λb u e=>M6 _ e) (Nb _) ?_,rfl,q _ hf⟩;exact ⟨z,us,r,⟨_,Nf _ rfl,rfl,_,rfl⟩,λo q=>by rw [Nf _ rfl] at q;cases q;rfl⟩
theorem G2 (h:PA X es t):PE X (.List es pos) (Kl t):=by intro MQ s σ H Q I hq;refine wpAny_List_spliced (bM (h pos MQ s σ H _ I hq) λus s1 ⟨xs,H1,I1,r,z,q⟩=>⟨by rw [<-r.length];exact z,?_⟩);have hf:H1 s1.heap.objs.size=none:=I1.hok.fresh (Nb _);refine ⟨.ref s1.heap.objs.size,upd H1 s1.heap.objs.size (.lst xs),I1.laid (t':=s1.toks) (λb u e=>M6 _ e) (Nb _) ?_,rfl,q _ hf⟩;exact ⟨z,us,0,r,Nf _ rfl⟩
end
noncomputable abbrev Sp:=List V->Hp->VK->XK->Prop
noncomputable abbrev qY:=List Env->Hp->M5->XK->M4->M5->Prop
structure xX (P:Nt) (w:NS) (K:M1) (mg:Str->Option M4) (base:OQ) (A:NK) (outer:List Env) (s:M5) (H:Hp):Prop where
 frames:A.frames=some outer
 mod:Mod K mg base
 bs:∀b o,base.get? b=some o->s.heap.get? b=some o/\H b=none
 bsz:base.objs.size<=s.heap.objs.size
 funs:s.heap.FunFrames base outer
 frf:∀b∈frs outer,H b=none
 hok:eU P w H s.heap
 bare:Uq s.gens
noncomputable def CE (outer:List Env) (P:Nt) (w:NS) (H:Hp) (s:M5) (Q:VK) (u:M4) (s':M5):Prop:=
 ∃v H',s'.os=s.os/\Uq s'.gens/\Un (frs outer) [] H H' s.heap s'.heap/\eU P w H' s'.heap/\RelV v u/\Q v H'
noncomputable def CR (CX:qY) (outer:List Env) (P:Nt) (w:NS) (H:Hp) (s:M5) (Q:VK) (E:XK) (r:Wg) (s':M5):Prop:=
 match r with
 | .ok (.ret u)=>CE outer P w H s Q u s'
 | .ok _=>False
 | .error e=>CX outer H s E e s'
structure gH (P:Nt) (w:NS) (K:M1) (mg:Str->Option M4) (base:OQ) (CX:qY) (k:Nat) (f:Nu) (fd:Oz) (ps:List Str) (sp:Sp):Prop where
 len:∀vs H Q E,sp vs H Q E->vs.length=ps.length
 run:∀(A:NK) (outer:List Env) (s:M5) (H:Hp) (args:Args) (us:List M4) (vs:List V) (Q:VK) (E:XK),cZ k A->xX P w K mg base A outer s H->Wh s fd args (ps.zip us)->Vals vs us->sp vs H Q E->
  P7 (Nq P w) A (.call (.ref f) args) (CR CX outer P w H s Q E) s
section
variable {X:Cx}{MQ:List (Nu×Obj)}{σ:St}{H:Hp}{s s':M5}
theorem Inv.env0 (I:Inv X MQ σ H s):xX X.prog X.w X.K X.mg X.base X.A X.stack s H:=
 ⟨I.ok.frames,I.ok.mod,I.bs,N8 I.ok.bsz I.sz,I.stack,I.stkFree,I.hok,I.bare⟩
theorem Inv.after {Q:VK}(I:Inv X MQ σ H s) (h:CE X.stack X.prog X.w H s Q u s'):EP X MQ σ Q u s':=by obtain ⟨v,H',os,bare,un,hok,r,q⟩:=h;obtain ⟨hh,g,d,t,os'⟩:=s';obtain rfl:os'=s.os:=os;exact ⟨v,H',I.call (h':=hh) (g':=g) (d':=d) (t':=t) (ch:=[]) un hok bare (λb z=>absurd z (by simp)),r,q⟩
end
noncomputable def DU (sp:Sp) (dvs:List V) (E:XK) (t:TA):TE:=λσ H Q=>t σ H λvs H1=>sp (vs++dvs) H1 Q E
noncomputable def Binds (K:M1) (fd:Oz) (ps:List Str) (ds:List M4):Prop:=
 ∀(s:M5) (us:List M4),K.In s.heap->(us++ds).length=ps.length->Wh s fd ⟨us,[]⟩ (ps.zip (us++ds))
theorem Binds.all {K:M1}{fd:Oz}{ps:List Str}(h:∀us:List M4,us.length=ps.length->Wa fd ⟨us,[]⟩=pure (ps.zip us)):Binds K fd ps []:=λs us _ hl=>by rw [O0] at hl ⊢;exact .of_eq (h us hl)
noncomputable def Passes (CX:qY) (X:Cx) (E:XK):Prop:=∀(MQ:List (Nu×Obj)) (σ:St) (H:Hp) (s:M5) (e:M4) (s':M5),Inv X MQ σ H s->CX X.stack H s E e s'->X.xe e s'
section
variable {X:Cx}{CX:qY}{k:Nat}{f C:Nu}{fd:Oz}{ps:List Str}{sp:Sp}{dvs:List V}{ds:List M4}{E:XK}{x m:Str}{p pos apos:Pos}{e o:N9}{es:List N9}{ta:TE}{t:TA}
theorem HG {H:Hp}{Q:VK}(F:gH X.prog X.w X.K X.mg X.base CX k f fd ps sp) (hr:cZ k X.A) (hb:Binds X.K fd ps ds) (hd:Vals dvs ds) (hx:Passes CX X E)
 (I:Inv X MQ σ H s) (r:Vals vs us) (h:sp (vs++dvs) H Q E):Nm (Nq X.prog X.w) X.A (call (.ref f) us) (EP X MQ σ Q) X.xe s:=by
 have r2:Vals (vs++dvs) (us++ds):=r.append hd;have hl:(us++ds).length=ps.length:=by rw [<-r2.length];exact F.len _ _ _ _ h
 refine VD (QI (F.run X.A X.stack s H ⟨us,[]⟩ (us++ds) (vs++dvs) Q E hr I.env0 (hb s us I.kIn hl) r2 h) λr s' hq=>?_);cases r with
 | error e=>exact hx MQ σ H s e s' I hq
 | ok fl=>
  cases fl with
  | ret u=>exact I.after hq
  | next=>exact Q8 hq
  | brk=>exact Q8 hq
  | cont=>exact Q8 hq
theorem EX (F:gH X.prog X.w X.K X.mg X.base CX k f fd ps sp) (hr:cZ k X.A) (hg:Gl X x) (hm:X.mg x=some (.ref f)) (hk:QV X.K (.ref f)=true) (hb:Binds X.K fd ps ds) (hd:Vals dvs ds) (hx:Passes CX X E)
  (ha:PA X (e::es) t) (hdb:autoParam ((x == ("__debug__":Str))=false) zB._auto_1) (he:autoParam (Nl (e::es) X.env=(false,eval e X.env)::Nl es X.env) zA._auto_1) (hpl:autoParam ((Qw pos (Nl es X.env)).any (·.1)=false) zA._auto_1):
  PE X (.Call (.Name x p) (e::es) [] pos) (DU sp dvs E t):=by intro MQ s σ H Q I h;refine S5 (EF I hg hm ?_ hdb);refine W.callWith_K (h₀:=X.base) I.ok.mod.kin hk (bM (ha pos MQ s σ H _ I h) λus s1 ⟨vs,H1,I1,r,q⟩=>⟨I1.kIn,?_⟩) he hpl;exact HG F hr hb hd hx I1 r q
end
structure eZ (N P:List Str) (sc:Rl):Prop where
 kind:sc.kind=.function
 co:sc.isCoroutine=false
 gen:sc.isGenerator=false
 nd:N.Nodup
 pre:N.take P.length=P
 par:∀x∈P,sc.names.lookup x=some .local\/sc.names.lookup x=some .cell
 nofree:∀y∈sc.names,y.2≠.free
theorem rC {kindOf:Str->Option Qc}:∀{binds:List (Str×M4)}{m:Str->Option M4},(∀v,(x,v)∉binds)->X6 kindOf binds m x=m x
 | [],_,_=>rfl
 | (n,v)::r,m,h=>by
  unfold X6;rw [rC λw hw=>h w (Na _ hw)];split
  ·have:x≠n:=by rintro rfl;exact h v Nd
   simp [this]
  ·rfl
theorem rA {kindOf:Str->Option Qc}:∀{binds:List (Str×M4)}{m:Str->Option M4},(∀v,(x,v)∉binds)->X7 kindOf binds m x=m x
 | [],_,_=>rfl
 | (n,v)::r,m,h=>by
  unfold X7;rw [rA λw hw=>h w (Na _ hw)];split
  ·rfl
  ·have:x≠n:=by rintro rfl;exact h v Nd
   simp [this]
theorem rB {kindOf:Str->Option Qc}{x:Str}{v:M4}:∀{P:List Str}{vs:List M4}{i:Nat}{m:Str->Option M4},P.Nodup->P[i]?=some x->vs[i]?=some v->kindOf x=some .local->
  X6 kindOf (P.zip vs) m x=some v
 | [],_,_,_,_,h,_,_=>by simp at h
 | _::_,[],_,_,_,_,h,_=>by simp at h
 | p::P,w::vs,0,m,nd,h1,h2,hk=>by simp at h1 h2;subst h1;subst h2;show X6 kindOf ((p,w)::P.zip vs) m p=_;unfold X6;rw [rC λv hv=>(PZ.mp nd).1 (Uv hv).1,if_pos hk];simp
 | p::P,w::vs,i + 1,m,nd,h1,h2,hk=>by show X6 kindOf ((p,w)::P.zip vs) m x=_;unfold X6;exact rB (i:=i) (PZ.mp nd).2 (by simpa using h1) (by simpa using h2) hk
theorem rq {kindOf:Str->Option Qc}{x:Str}{v:M4}:∀{P:List Str}{vs:List M4}{i:Nat}{m:Str->Option M4},P.Nodup->P[i]?=some x->vs[i]?=some v->kindOf x≠some .local->
  X7 kindOf (P.zip vs) m x=some v
 | [],_,_,_,_,h,_,_=>by simp at h
 | _::_,[],_,_,_,_,h,_=>by simp at h
 | p::P,w::vs,0,m,nd,h1,h2,hk=>by simp at h1 h2;subst h1;subst h2;show X7 kindOf ((p,w)::P.zip vs) m p=_;unfold X7;rw [rA λv hv=>(PZ.mp nd).1 (Uv hv).1,if_neg hk];simp
 | p::P,w::vs,i + 1,m,nd,h1,h2,hk=>by show X7 kindOf ((p,w)::P.zip vs) m x=_;unfold X7;exact rq (i:=i) (PZ.mp nd).2 (by simpa using h1) (by simpa using h2) hk
noncomputable def start (N:List Str) (vs:List V):St:=vs.map some++Ot (N.length - vs.length) none
noncomputable def oB (CX:qY) (P:Nt) (w:NS) (K:M1) (mg:Str->Option M4) (base:OQ) (N:List Str) (MV:Str) (MP:Rl) (f:Nu) (cd:M4) (A:NK) (outer:List Env) (s:M5) (H:Hp) (E:XK):Cx where
 prog:=P
 w:=w
 K:=K
 mg:=mg
 base:=base
 A:=A.deeper (S7 MV MP s.heap.objs.size f cd)
 N:=N
 s₀:=s
 H₀:=H
 env:=S7 MV MP s.heap.objs.size f cd
 outer:=outer
 stack:=S7 MV MP s.heap.objs.size f cd::outer
 ex:=[]
 calm:=true
 fn:=λ_=>true
 pn:=[]
 xe:=λe s'=>Nm (Nq P w) (A.deeper (S7 MV MP s.heap.objs.size f cd)) (leaving (S7 MV MP s.heap.objs.size f cd) e) (λ_ s''=>CX outer H s E e s'') (λe' s''=>CX outer H s E e' s'') s'
theorem uA {sc:Rl}(h:sc.names.lookup x=some .cell):∃c,(Oi n sc.names []).lookup x=some c:=by have q:=Ui sc.names n [] (.inl h);exact OJ.mp q
theorem As {CX:qY}{P:Nt}{w:NS}{K:M1}{mg:Str->Option M4}{base:OQ}{N ps:List Str}{MV:Str}{MP:Rl}{f:Nu}{cd:M4}{A:NK}{outer:List Env}{s s1:M5}{H:Hp}{E:XK}{us:List M4}{vs:List V}
  (S:eZ N ps MP) (hd:A.handled=none) (e0:xX P w K mg base A outer s H) (hl:vs.length=ps.length) (r:Vals vs us)
  (x:InCallC s s.heap.objs.size (X6 (S7 MV MP s.heap.objs.size f cd).kindOf (ps.zip us) λ_=>none) (Oi (s.heap.objs.size + 1) MP.names []) (X7 (S7 MV MP s.heap.objs.size f cd).kindOf (ps.zip us) λ_=>none) s1):
  Inv (oB CX P w K mg base N MV MP f cd A outer s H E) [] (start N vs) H s1:=by
 have hpl:ps.length<=N.length:=by have:=congrArg Q5 S.pre;rw [N7] at this;omega
 obtain ⟨h1,tk,rfl,hk⟩:=x.done;have noA:∀b:Nu,b∉(oB CX P w K mg base N MV MP f cd A outer s H E).ex:=λb z=>absurd (show b∈([]:List Nu) from z) (by simp);refine ⟨⟨e0.mod,S.kind,rfl,rfl,Nb _,λy z c h1 h2=>?_,λy hy=>?_,λy c _ h=>?_,λ_=>hd,Around.frames_deeper e0.frames,.inr ⟨rfl,rfl⟩,λb z=>absurd z (noA b),e0.bs,e0.bsz,λb _ _=>noA b,λb z=>absurd z (noA b),e0.funs,e0.frf⟩,
  rfl,e0.bare,Un.kept hk,⟨_,x.toInCall.ns,λi y v h1 h2 h3=>?_⟩,λy c h=>⟨_,x.cell y c h⟩,e0.hok.fresh (Nb _),λy c h=>?_,λp hp=>absurd (show p∈([]:List (Nu×Obj)) from hp) (by simp),e0.hok.kept hk,?_⟩
 ·exact name_of_addr x.apart (QK h1) (QK h2)
 ·have hy:MP.names.lookup y=some .cell\/MP.names.lookup y=some .free:=hy;rcases hy with hy | hy
  ·exact uA hy
  ·exact absurd rfl (S.nofree _ (QK hy))
 ·exact Qv (x.above y c (QK h))
 ·have hi:i < vs.length:=by
   unfold start at h2;by_cases hi:i < vs.length
   ·exact hi
   ·rw [OW (by simpa using hi)] at h2;rw [RG] at h2;split at h2 <;> cases h2
  have ha:vs[i]?=some v:=by
   unfold start at h2;rw [PR (by simpa using hi),Nx] at h2;cases e:vs[i]? with
   | none=>rw [e] at h2;cases h2
   | some a=>rw [e] at h2;cases h2;rfl
  obtain ⟨u,hu,rv⟩:=r.get ha;have hp:ps[i]?=some y:=by rw [<-S.pre,OL (by omega)];exact h1
  have ndP:ps.Nodup:=by rw [<-S.pre];exact S.nd.sublist (Q_ _ _)
  refine ⟨u,rv,?_⟩;rcases S.par y (NB hp) with k | k
  ·exact .inl ⟨k,rB ndP hp hu k⟩
  ·obtain ⟨c,e⟩:=uA (n:=s.heap.objs.size + 1) k;refine .inr ⟨.inl k,c,e,?_⟩;have q:=x.cell y c e;rw [rq ndP hp hu (by show MP.names.lookup y≠_;rw [k];decide)] at q;exact q
 ·exact e0.hok.fresh (Qv (x.above y c (QK h)))
 ·unfold start;show _=N.length;rw [NG,M7,O_];omega
theorem Ih {K:M1}{mg:Str->Option M4}{dV kV doc pm cdv ct oc:M4}
 {N ps:List Str}{sp:Sp}(lk:K.lookup f=some ⟨oc,od,.func (Pr name MV params body MP dV kV doc pm an cdv ct),osl⟩) (hcd:Sf K cdv MV=true) (S:eZ N ps MP)
 (len:∀vs H Q E,sp vs H Q E->vs.length=ps.length)
 (hbody:∀(A:NK) (outer:List Env) (s:M5) (H:Hp) (vs:List V) (Q:VK) (E:XK),cZ k (A.deeper (S7 MV MP s.heap.objs.size f cdv))->sp vs H Q E->
 ∃t,iI (oB CX P w K mg base N MV MP f cdv A outer s H E) body t/\t {nx:=λ_ H'=>Q .non H',rt:=Q} (start N vs) H):
  gH P w K mg base CX (k + 1) f (Pr name MV params body MP dV kV doc pm an cdv ct) ps sp:=by
 refine ⟨len,λA outer s H args us vs Q E hr e0 hb r Lo=>?_⟩;have hl:=len _ _ _ _ Lo;have KX:K.In s.heap:=e0.mod.kin.keeps λb o e=>(e0.bs b o e).1;have lim:s.heap.NoLimit:=e0.mod.nolimit.keeps λb o e=>(e0.bs b o e).1;have hkind:∀y∈ps.zip us,MP.names.lookup y.1=some .local\/(MP.names.lookup y.1=some .cell/\((Oi (s.heap.objs.size + 1) MP.names []).lookup y.1).isSome=true):=λ⟨n,v⟩ hy=>by
  rcases S.par n (Uv hy).1 with q | q
  ·exact .inl q
  ·exact .inr ⟨q,Ui _ _ _ (.inl q)⟩
 refine codeAny_call_function hr.depth (KX _ _ lk) rfl S.co S.gen rfl (W.codeRec_of KX hcd) (hb _ _ _ _ ?_);refine wpAny_newFunctionEnv_cells S.kind hkind λenv he s1 x=>?_;subst he;refine ⟨lim.keeps x.toInCall.keep,codeAny_func ?_⟩;obtain ⟨t,ht,hq⟩:=hbody A outer s H vs Q E (hr.deeper _) Lo;have I:Inv (oB CX P w K mg base N MV MP f cdv A outer s H E) [] (start N vs) H s1:=As S hr.hd e0 hl r x;refine Od (ht [] s1 (start N vs) H _ I hq) (λfl s' hs=>?_) λe s' hs=>hs;have fin:∀{σ':St}{H':Hp}{v:V}{u:M4},Inv (oB CX P w K mg base N MV MP f cdv A outer s H E) [] σ' H' s'->RelV v u->Q v H'->CE outer P w H s Q u s':=
  fun {σ' H' v u} J rv q=>⟨v,H',J.os,J.bare,J.base,J.hok,rv,q⟩
 cases fl with
 | ret u=>
  obtain ⟨v,σ',H',J,rv,q⟩:=hs;exact fin J rv q
 | next=>
  obtain ⟨σ',H',J,q⟩:=hs;exact fin (v:=V.non) (u:=Oc) J rfl q
 | brk=>
  obtain ⟨_,_,_,q⟩:=hs;exact Q8 q
 | cont=>
  obtain ⟨_,_,_,q⟩:=hs;exact Q8 q
section
variable {X:Cx}{x:Str}{p pos:Pos}{e:N9}{es:List N9}{t:TA}{id T:String}{r:List V->Hp->VK->Prop}
noncomputable def Js (r:List V->Hp->VK->Prop) (t:TA):TE:=λσ H Q=>t σ H λvs H1=>r vs H1 Q
theorem kZ (hc:bw X (.builtin id) r) (hg:Gl X x) (hm:X.mg x=none) (hv:OC x=some (.builtin id)) (ha:PA X (e::es) t) (hn:autoParam (x≠"__name__") zB._auto_1) (hdb:autoParam ((x == ("__debug__":Str))=false) zB._auto_1)
  (he:autoParam (Nl (e::es) X.env=(false,eval e X.env)::Nl es X.env) zA._auto_1) (hpl:autoParam ((Qw pos (Nl es X.env)).any (·.1)=false) zA._auto_1):PE X (.Call (.Name x p) (e::es) [] pos) (Js r t):=by intro MQ s σ H Q I h;refine S5 (mE I hg hm hv ?_ hn hdb);exact VT (bM (ha pos MQ s σ H _ I h) λus s1 ⟨vs,H1,I1,r1,q1⟩=>hc MQ s1 σ H1 vs us Q I1 r1 q1) he hpl
theorem iD (hc:bw X (.type T) r) (hg:Gl X x) (hm:X.mg x=none) (hv:OC x=some (.type T)) (ha:PA X (e::es) t) (hn:autoParam (x≠"__name__") zB._auto_1) (hdb:autoParam ((x == ("__debug__":Str))=false) zB._auto_1)
  (he:autoParam (Nl (e::es) X.env=(false,eval e X.env)::Nl es X.env) zA._auto_1) (hpl:autoParam ((Qw pos (Nl es X.env)).any (·.1)=false) zA._auto_1):PE X (.Call (.Name x p) (e::es) [] pos) (Js r t):=by intro MQ s σ H Q I h;refine S5 (mE I hg hm hv ?_ hn hdb);exact Q4 (bM (ha pos MQ s σ H _ I h) λus s1 ⟨vs,H1,I1,r1,q1⟩=>hc MQ s1 σ H1 vs us Q I1 r1 q1) he hpl
end
end L2
namespace HT
open PySem PyProof.Rows
section
open PySem.SeqAt
open PySem.AutoSeq1 (wpAny_loadPart')
open PySem.MeetsSeq PySem.MeetsSeq2 PySem.MeetsSeq3
end
section
variable {prog:Nt}{w:NS}{A:NK}{E:M4->M5->Prop}{s:M5}
theorem Eg {vs ws:List M4}{Q:M4->M5->Prop}(ht:Yy s.heap t vs.toArray) (hb:Yy s.heap b ws.toArray) (hv:vs≠[])
 (h1:ws=[]->Q (.ref t) s) (h2:ws≠[]->Q (.ref s.heap.objs.size) {s with heap:=s.heap.push {cls:=.type "tuple",data:=.seq (vs++ws).toArray}})
 (hsz:vs.length + ws.length<=sizeLine):Nm (Nq prog w) A (Q9 .Add (.ref t) (.ref b)) Q E s:=by
 obtain ⟨⟨cls,dd,data,sl⟩,ho,hc,n,hd⟩:=id ht;obtain ⟨⟨cls2,dd2,data2,sl2⟩,ho2,hc2,n2,hd2⟩:=id hb;simp only at hc hd hc2 hd2;subst hc hd hc2 hd2;have e:vs.toArray++ws.toArray=(vs++ws).toArray:=by simp
 by_cases hw:ws=[]
 ·exact VU ⟨_,ho,rfl⟩ ⟨_,ho2,rfl⟩ T_ Vd RZ RH (Rx _ _)
   (tuple_addW1 t b vs.toArray ws.toArray n n2 dd dd2 sl sl2 (by simpa using hv) (by simp [hw])) ⟨ho,ho2,h1 hw⟩
 ·refine VU ⟨_,ho,rfl⟩ ⟨_,ho2,rfl⟩ T_ Vd RZ RH (Rx _ _)
   (tuple_addW2 t b vs.toArray ws.toArray n n2 dd dd2 sl sl2 (by simpa using hv) (by simpa using hw) (by rw [Ni,Ni];exact hsz)) ⟨ho,ho2,?_⟩
  rw [e];exact h2 hw
noncomputable def bq (n d:Nat):Option Int->Nat
 | none=>d
 | some v=>if v < 0 then (v + (n:Int)).toNat else min v.toNat n
theorem vG (n d:Nat):bq n d none=d:=rfl
theorem xM (n d k:Nat):bq n d (some (k:Int))=min k n:=by show (if (k:Int) < 0 then ((k:Int) + (n:Int)).toNat else min (k:Int).toNat n)=min k n;rw [if_neg (by omega),Pa]
theorem HJ (n d:Nat) (hd:d<=n) (o:Option Int):bq n d o<=n:=by
 cases o with
 | none=>exact hd
 | some v=>
  show (if v < 0 then (v + (n:Int)).toNat else min v.toNat n)<=n;by_cases hv:v < 0
  ·rw [if_pos hv];omega
  ·rw [if_neg hv];exact Nat.min_le_right _ _
theorem wW (v:Int) (n d:Nat):(if v < 0 then max (v + (n:Int)) 0 else min v (n:Int))=((bq n d (some v):Nat):Int):=by
 show (if v < 0 then max (v + (n:Int)) 0 else min v (n:Int))=(((if v < 0 then (v + (n:Int)).toNat else min v.toNat n):Nat):Int);by_cases hv:v < 0
 ·simp only [if_pos hv];omega
 ·simp only [if_neg hv];omega
theorem ye (lo hi:Option Int) (n:Nat):PU lo hi 1 (n:Int)=(((bq n 0 lo:Nat):Int),((bq n n hi:Nat):Int)):=by
 have h1:¬((1:Int) < 0):=by omega
 unfold PU;simp only [h1,if_false];refine Xk ?_ ?_
 ·cases lo with
  | none=>rfl
  | some v=>exact wW v n 0
 ·cases hi with
  | none=>rfl
  | some v=>exact wW v n n
theorem yU (i j:Nat):Oh (i:Int) (j:Int) 1=j - i:=by
 unfold Oh;have h1:(1:Int) > 0:=by omega
 simp only [h1,if_true,XG];split <;> omega
theorem qk {Q:Option Int->M5->Prop}(p:Ve v o) (h:Q o s):Nm (Nq prog w) A (Wb v) Q E s:=by
 cases p with
 | none=>exact Td h
 | int i t=>exact Xl h
theorem jn {sl:Nu}{vl vu:M4}{lo hi:Option Int}{n:Nat}{Q:Int×Int×Nat->M5->Prop}(hs:s.heap.IsSliceOf sl vl vu .none) (pl:Ve vl lo) (pu:Ve vu hi)
  (h:Q (((bq n 0 lo:Nat):Int),1,bq n n hi - bq n 0 lo) s):Nm (Nq prog w) A (Qo (.ref sl) (pure (n:Int))) Q E s:=by obtain ⟨os,hos,hcs,hds⟩:=id hs;unfold Qo Te;refine M0 (M0 (ON hos hds (x:=vl) rfl (M0 (ON hos hds (x:=vu) rfl (M0 (ON hos hds (x:=.none) rfl (M3 ?_)))))));refine M0 (Td ?_);show Nm _ _ (if ((1:Int) == 0)=true then _ else _) _ _ s;rw [if_neg (by decide)];refine M0 (qk pl (M0 (qk pu (M0 (M3 ?_)))));show Nm _ _ (match PU lo hi 1 (n:Int) with | (lo,hi)=>pure (lo,(1:Int),Oh lo hi 1)) _ _ s;rw [ye lo hi n];show Nm _ _ (pure (((bq n 0 lo:Nat):Int),(1:Int),Oh ((bq n 0 lo:Nat):Int) ((bq n n hi:Nat):Int) 1)) _ _ s;rw [yU];exact M3 h
theorem Cw (xs:Array M4) (i k:Nat):((Ng k).filterMap λ(m:Nat)=>xs[((i:Int) + (m:Int) * 1).toNat]?).toArray=((xs.toList.drop i).take k).toArray:=by
 have e:(λ(m:Nat)=>xs[((i:Int) + (m:Int) * 1).toNat]?)=λm=>xs[i + m]?:=by
  funext m;have:((i:Int) + (m:Int) * 1).toNat=i + m:=by omega
  rw [this]
 rw [e];have:=pick_run xs i k;rw [Vf] at this;have e2:((λx=>xs[x]?) ∘ λx=>i + x)=λm=>xs[i + m]?:=rfl;rw [e2] at this;rw [this]
theorem nB {t sl:Nu}{MR:Array M4}{vl vu:M4}{lo hi:Option Int}{Q:M4->M5->Prop}(ht:Yy s.heap t MR) (hs:s.heap.IsSliceOf sl vl vu .none) (pl:Ve vl lo) (pu:Ve vu hi)
  (hw:¬(bq MR.size 0 lo=0/\bq MR.size MR.size hi=MR.size))
  (h:Q (.ref s.heap.objs.size) {s with heap:=s.heap.push {cls:=.type "tuple",data:=.seq ((MR.toList.drop (bq MR.size 0 lo)).take (bq MR.size MR.size hi - bq MR.size 0 lo)).toArray}})
  (hsz:MR.size<=sizeLine):Nm (Nq prog w) A (Uw (.ref t) (.ref sl)) Q E s:=by
 have K5:sizeOk (.seq ((MR.toList.drop (bq MR.size 0 lo)).take (bq MR.size MR.size hi - bq MR.size 0 lo)).toArray):=by show ((MR.toList.drop (bq MR.size 0 lo)).take (bq MR.size MR.size hi - bq MR.size 0 lo)).toArray.size<=sizeLine;rw [Ni,N7,O5,M_];omega
 have hj:bq MR.size MR.size hi<=MR.size:=HJ _ _ (Nb _) hi;obtain ⟨os,hos,hcs,hds⟩:=id hs;have LI:s.TypeIs (.ref sl) "slice":=⟨os,hos,hcs⟩;unfold Uw
 try with_reducible refine NU ?_
 first | refine M0 (M3 ?_) | skip
 refine M0 (Tt ht.typeIs (by decide) ?_);refine M0 (Og (name:=QJ "__getitem__") ht.typeIs NO
  (Oe NO ht.typeIs SH ?_ (S8 _ _)))
 show Nm _ _ (Qp (.ref t) >>= _) _ _ s;refine M0 (Vg ht ?_);refine M0 (Ry LI ?_);rw [if_pos (by decide)];refine M0 (jn hs pl pu ?_);have hno:¬((((bq MR.size 0 lo:Nat):Int) == 0 && (1:Int) == 1 && (bq MR.size MR.size hi - bq MR.size 0 lo) == MR.size)=true):=by intro q;rw [M8,M8] at q;have q1:((bq MR.size 0 lo:Nat):Int)=0:=eq_of_beq q.1.1;have q2:bq MR.size MR.size hi - bq MR.size 0 lo=MR.size:=eq_of_beq q.2;exact hw ⟨by omega,by omega⟩
 show Nm _ _ (if (((bq MR.size 0 lo:Nat):Int) == 0 && (1:Int) == 1 && (bq MR.size MR.size hi - bq MR.size 0 lo) == MR.size)=true then _ else _) _ _ s;rw [if_neg hno,Cw]
 first
  | exact M0 (m:=Ol _) (NP (M3 ⟨_,rfl,M3 h⟩) K5)
  | exact M0 (m:=Ol _) (NP (M0 (M3 (M3 ⟨_,rfl,M3 h⟩))) K5)
  | exact M0 (M0 (m:=Ol _) (NP (M3 (M3 ⟨_,rfl,M3 h⟩)) K5))
  | exact M0 (M0 (m:=Ol _) (NP (M3 ⟨_,rfl,M3 h⟩) K5))
end
end HT
namespace L2
open PySem PySem.Spec PyProof.Rows
noncomputable abbrev TO:=St->Hp->(Option Int->Hp->Prop)->Prop
noncomputable def PO (X:Cx) (e:Option N9) (t:TO):Prop:=
 ∀(MQ:List (Nu×Obj)) (s:M5) (σ:St) (H:Hp) (Q:Option Int->Hp->Prop),Inv X MQ σ H s->t σ H Q->
  Nm (Nq X.prog X.w) X.A (evalPart e X.env) (λu s'=>∃o H',Inv X MQ σ H' s'/\Ve u o/\Q o H') X.xe s
noncomputable def Fy:TO:=λ_ H Q=>Q none H
noncomputable def I0 (t:TE):TO:=λσ H Q=>t σ H λx H1=>∃i,x=.int i/\Q (some i) H1
section
variable {X:Cx}{e:N9}{te:TE}{lo hi:Option N9}{tl th:TO}{pos p2:Pos}
theorem E2:PO X none Fy:=by intro MQ s σ H Q I h;rw [Vh];exact M3 ⟨none,H,I,.none,h⟩
theorem E3 (h:PE X e te):PO X (some e) (I0 te):=by intro MQ s σ H Q I hw;rw [Xm];refine bM (h MQ s σ H _ I hw) λu s1 ⟨x,H1,I1,r1,q1⟩=>?_;obtain ⟨i,rfl,q⟩:=q1;obtain ⟨t,rfl⟩:=r1;exact ⟨some i,H1,I1,.int i t,q⟩
noncomputable def o9 (X:Cx) (r:V->Option Int->Option Int->Hp->VK->Prop):Prop:=
 ∀(MQ:List (Nu×Obj)) (s:M5) (σ:St) (H:Hp) (x:V) (v vl vu:M4) (lo hi:Option Int) (sl:Nu) (Q:VK),Inv X MQ σ H s->RelV x v->s.heap.IsSliceOf sl vl vu .none->Ve vl lo->Ve vu hi->r x lo hi H Q->
  ∃T id,typeLookup (.type T) "__getitem__"=pure (some (.builtin id))/\s.TypeIs v T/\Nm (Nq X.prog X.w) X.A (Uw v (.ref sl)) (EP X MQ σ Q) X.xe s
theorem o9.or {r r':V->Option Int->Option Int->Hp->VK->Prop}(h:o9 X r) (h':o9 X r'):o9 X (λx lo hi H Q=>r x lo hi H Q\/r' x lo hi H Q):=by
 intro MQ s σ H x v vl vu lo hi sl Q I rx hs pl pu q;rcases q with q | q
 ·exact h MQ s σ H x v vl vu lo hi sl Q I rx hs pl pu q
 ·exact h' MQ s σ H x v vl vu lo hi sl Q I rx hs pl pu q
noncomputable def KQ (r:V->Option Int->Option Int->Hp->VK->Prop) (te:TE) (tl th:TO):TE:=λσ H Q=>te σ H λx H1=>tl σ H1 λl H2=>th σ H2 λu H3=>r x l u H3 Q
theorem Ct {r:V->Option Int->Option Int->Hp->VK->Prop}(hr:o9 X r) (he:PE X e te) (hl:PO X lo tl) (hu:PO X hi th):PE X (.Subscript e (.Slice lo hi none p2) pos) (KQ r te tl th):=by intro MQ s σ H Q I h;refine W5 (bM (he MQ s σ H _ I h) λv s1 ⟨x,H1,I1,r1,q1⟩=>?_);refine wpAny_Slice (bM (hl MQ s1 σ H1 _ I1 q1) λvl s2 ⟨l,H2,I2,pl,q2⟩=>bM (hu MQ s2 σ H2 _ I2 q2) λvu s3 ⟨u,H3,I3,pu,q3⟩=>?_);rw [Vh];refine M3 ?_;have I4:Inv X MQ σ H3 {s3 with heap:=s3.heap.push {cls:=.type "slice",data:=.fields #[vl,vu,.none]}}:=I3.kept (t':=s3.toks) λb ob q=>M6 _ q;obtain ⟨T,id,hT,ht,hg⟩:=hr MQ {s3 with heap:=s3.heap.push {cls:=.type "slice",data:=.fields #[vl,vu,.none]}} σ H3 x v vl vu l u s3.heap.objs.size Q I4 r1 (Vi ..) pl pu q3;show Nm (Nq X.prog X.w) X.A (Xn e (.Slice lo hi none p2) v (.ref s3.heap.objs.size)) (EP X MQ σ Q) X.xe {s3 with heap:=s3.heap.push {cls:=.type "slice",data:=.fields #[vl,vu,.none]}};exact Yq (ops:=[.ref s3.heap.objs.size,v]) ht hT hg (by with_unfolding_all rfl)
noncomputable def jO (xs:List V) (lo hi:Option Int):List V:=(xs.drop (HT.bq xs.length 0 lo)).take (HT.bq xs.length xs.length hi - HT.bq xs.length 0 lo)
theorem nL (xs:List V) (lo hi:Option Int):(jO xs lo hi).length<=xs.length:=by unfold jO;rw [N7,O5];omega
noncomputable def JT (K:M1):V->Option Int->Option Int->Hp->VK->Prop:=λx lo hi H Q=>∃a xs,x=.ref a/\bT K H a xs/\
 ¬(HT.bq xs.length 0 lo=0/\HT.bq xs.length xs.length hi=xs.length)/\∀p,H p=none->Q (.ref p) (upd H p (.tup (jO xs lo hi)))
theorem HL:o9 X (JT X.K):=by
 intro MQ s σ H x v vl vu lo hi sl Q I rx hs pl pu h;obtain ⟨a,xs,rfl,hx,hw,q⟩:=h;cases rx;obtain ⟨its,r,ht,hz⟩:=I.tuple hx;have hlen:its.toArray.size=xs.length:=by rw [Ni];exact r.length.symm
 refine ⟨"tuple",_,NO.lookup,ht.typeIs,?_⟩;refine HT.nB ht hs pl pu (by rw [hlen];exact hw) ?_ (by rw [hlen];exact hz);rw [hlen];refine ⟨.ref s.heap.objs.size,_,I.laid (t':=s.toks) (o:=.tup (jO xs lo hi)) (λb ob q=>M6 _ q) (Nb _) ?_,rfl,q _ (I.hok.fresh (Nb _))⟩;exact ⟨N8 (nL xs lo hi) hz,_,(r.drop (HT.bq xs.length 0 lo)).take (HT.bq xs.length xs.length hi - HT.bq xs.length 0 lo),Wi _ _,λo q=>by rw [Nf _ rfl] at q;cases q;rfl⟩
noncomputable def II (K:M1):R2:=λx y H Q=>∃a b xs ys,x=.ref a/\y=.ref b/\bT K H a xs/\bT K H b ys/\xs≠[]/\xs.length + ys.length<=sizeLine/\
 (ys=[]->Q (.ref a) H)/\(ys≠[]->∀p,H p=none->Q (.ref p) (upd H p (.tup (xs++ys))))
theorem Vals.nil_iff (r:Vals xs us):us=[]↔xs=[]:=by
 cases r with
 | nil=>simp
 | cons _ _=>simp
theorem EN:dc X (Q9 .Add) (II X.K):=by intro MQ s σ H x y v u Q I rx ry h;obtain ⟨a,b,xs,ys,rfl,rfl,ha,hb,hx,hz,q1,q2⟩:=h;cases rx;cases ry;obtain ⟨its,r1,p1,_⟩:=I.tuple ha;obtain ⟨its2,r2,p2,_⟩:=I.tuple hb;refine HT.Eg p1 p2 (λz=>hx (r1.nil_iff.mp z)) (λz=>⟨.ref a,H,I,rfl,q1 (r2.nil_iff.mp z)⟩) (λz=>?_) (by rw [<-r1.length,<-r2.length];exact hz);refine ⟨.ref s.heap.objs.size,_,I.laid (t':=s.toks) (o:=.tup (xs++ys)) (λb ob q=>M6 _ q) (Nb _) ?_,rfl,q2 (λw=>z (r2.nil_iff.mpr w)) _ (I.hok.fresh (Nb _))⟩;exact ⟨by rw [NG];exact hz,_,r1.append r2,Wi _ _,λo q=>by rw [Nf _ rfl] at q;cases q;rfl⟩
end
noncomputable def xu (n:Nat) (i:Int):Option Nat:=if 0<=i then (if i < n then some i.toNat else none) else if -(n:Int)<=i then some (i + n).toNat else none
noncomputable def lD {α:Type}(xs:List α) (i:Int):Option α:=(xu xs.length i).bind λj=>xs[j]?
theorem Ew (h:xu n i=some j):Vj i n=some j/\j < n/\-(n:Int)<=i/\i < n:=by
 unfold xu at h;by_cases h0:0<=i
 ·rw [if_pos h0] at h;by_cases h1:i < n
  ·rw [if_pos h1] at h;have e:i.toNat=j:=Ow h;exact ⟨by rw [seqIndex_of h0 h1,e],by omega,by omega,h1⟩
  ·rw [if_neg h1] at h;cases h
 ·rw [if_neg h0] at h;by_cases h1:-(n:Int)<=i
  ·rw [if_pos h1] at h;have e:(i + n).toNat=j:=Ow h;exact ⟨by rw [seqIndex_neg (by omega) h1,e],by omega,h1,by omega⟩
  ·rw [if_neg h1] at h;cases h
theorem qA {α:Type}{xs:List α}{i:Int}{v:α}(h:lD xs i=some v):∃j,Vj i xs.length=some j/\xs[j]?=some v/\j < xs.length/\-(xs.length:Int)<=i/\i < xs.length:=by
 unfold lD at h;cases e:xu xs.length i with
 | none=>rw [e] at h;cases h
 | some j=>
  rw [e] at h;obtain ⟨h1,h2,h3,h4⟩:=Ew e;exact ⟨j,h1,h,h2,h3,h4⟩
noncomputable def nc (b:N9):Prop:=∀o i,subscripted b false o i=operate [o,i] (Uw o i)
noncomputable def lQ (X:Cx) (r:R2):Prop:=
 ∀(value slice:N9) (MQ:List (Nu×Obj)) (s:M5) (σ:St) (H:Hp) (x y:V) (v u:M4) (Q:VK),Inv X MQ σ H s->RelV x v->RelV y u->r x y H Q->
  subscripted slice false v u=operate [v,u] (Uw v u)->Nm (Nq X.prog X.w) X.A (Xn value slice v u) (EP X MQ σ Q) X.xe s
noncomputable def Kv (X:Cx) (id:String) (r:V->List V->Hp->VK->Prop):Prop:=
 ∀(MQ:List (Nu×Obj)) (s:M5) (σ:St) (H:Hp) (x:V) (xs:List V) (v:M4) (us:List M4) (Q:VK),Inv X MQ σ H s->RelV x v->Vals xs us->r x xs H Q->
  Nm (Nq X.prog X.w) X.A (call (.builtin id) (v::us)) (EP X MQ σ Q) X.xe s
section
variable {X:Cx}{a b:N9}{ta tb:TE}{pos:Pos}
theorem lQ.or {r r':R2}(h:lQ X r) (h':lQ X r'):lQ X (λx y H Q=>r x y H Q\/r' x y H Q):=by
 intro value slice MQ s σ H x y v u Q I rx ry q hs;rcases q with q | q
 ·exact h value slice MQ s σ H x y v u Q I rx ry q hs
 ·exact h' value slice MQ s σ H x y v u Q I rx ry q hs
theorem IB (hr:lQ X r) (ha:PE X a ta) (hb:PE X b tb) (hs:nc b):PE X (.Subscript a b pos) (Bg r ta tb):=by intro MQ s σ H Q I h;exact W5 (BH ha hb I h λv u s2 x y H2 I2 rx ry q=>hr a b MQ s2 σ H2 x y v u Q I2 rx ry q (hs _ _))
noncomputable def Hu (K:M1):R2:=λx y H Q=>∃p xs i v,x=.ref p/\y=.int i/\bN K H p xs/\lD xs i=some v/\Q v H
noncomputable def Hw (K:M1):R2:=λx y H Q=>∃p xs i v,x=.ref p/\y=.int i/\bT K H p xs/\lD xs i=some v/\Q v H
noncomputable def Hv:R2:=λx y H Q=>∃z i c,x=.str z/\y=.int i/\z.length<=sizeLine/\lD z.cps.toList i=some c/\Q (.str ⟨#[c]⟩) H
theorem Ex:lQ X (Hu X.K):=by
 intro value slice MQ s σ H x y v u Q I rx ry h hs;obtain ⟨p,xs,i,z,rfl,rfl,hq,he,q⟩:=h;cases rx;obtain ⟨t,rfl⟩:=ry;obtain ⟨its,r,pl,hz⟩:=I.list hq;obtain ⟨j,h1,h2,h3,h4,h5⟩:=qA he;obtain ⟨w,ew,rw'⟩:=r.get h2;have hl:=r.length;have hn:=kc;have fin:EP X MQ σ Q w s:=⟨z,H,I,rw',q⟩;by_cases h0:0<=i
 ·have hj:i.toNat=j:=by rw [seqIndex_of h0 h5] at h1;exact Ow h1
  exact item_listR pl.isList h0 (by omega) (by rw [hj];simpa using ew) fin hs
 ·have hj:(i + (its.toArray.size:Int)).toNat=j:=by rw [seqIndex_neg (by omega) h4] at h1;rw [Ni,<-hl];exact Ow h1
  exact R0 (x:=w) pl.isList.typeIs VE.lookup
   (wpAny_getItem_list_neg (Q:=λr s'=>r=w/\EP X MQ σ Q r s') pl.isList (by omega) (by rw [Ni] <;> omega) (by omega) (by rw [hj];simpa using ew) ⟨rfl,fin⟩) hs
theorem GA:lQ X (Hw X.K):=by
 intro value slice MQ s σ H x y v u Q I rx ry h hs;obtain ⟨p,xs,i,z,rfl,rfl,hq,he,q⟩:=h;cases rx;obtain ⟨t,rfl⟩:=ry;obtain ⟨its,r,pl,hz⟩:=I.tuple hq;obtain ⟨j,h1,h2,h3,h4,h5⟩:=qA he;obtain ⟨w,ew,rw'⟩:=r.get h2;have hl:=r.length;have hn:=kc;have fin:EP X MQ σ Q w s:=⟨z,H,I,rw',q⟩;exact R0 (x:=w) pl.typeIs slot_tuple_getitem.lookup
  (getItem_tuple (j:=j) (Q:=λr s'=>r=w/\EP X MQ σ Q r s') pl (by omega) (by omega) (by rw [Ni,<-hl];exact h1) (by simpa using ew) ⟨rfl,fin⟩) hs
theorem Gz:lQ X Hv:=by
 intro value slice MQ s σ H x y v u Q I rx ry h hs;obtain ⟨z,i,c,rfl,rfl,hz,he,q⟩:=h;obtain ⟨t,rfl⟩:=rx;obtain ⟨t',rfl⟩:=ry;obtain ⟨j,h1,h2,h3,h4,h5⟩:=qA he;have hl:z.cps.toList.length=z.length:=by simp [W6]
 rw [hl] at h1 h4 h5;have hn:=kc;exact Yq (typeIs_str s z t) slot_str_getitem.lookup (getItem_str (c:=c) (by
  have e1:decide (i < -(2 ^ 63:Int))=false:=decide_eq_false (by omega);have e2:decide (i ≥ 2 ^ 63)=false:=decide_eq_false (by omega);rw [e1,e2,Xo]) (by rw [h1];simpa using h2) ⟨.str ⟨#[c]⟩,H,I.tok _,⟨_,rfl⟩,q⟩) hs
noncomputable def KJ (K:M1):R2:=λx y H Q=>Hu K x y H Q\/Hw K x y H Q\/Hv x y H Q
theorem Gy:lQ X (KJ X.K):=Ex.or (GA.or Gz)
theorem Inv.lst {H:Hp}{s:M5}{xs:List V}(I:Inv X MQ σ H s) (h:H p=some (.lst xs)):
  ∃(its:List M4) (n:Nat),Vals xs its/\s.heap.get? p=some {cls:=.type "list",data:=.seq its.toArray n}/\xs.length<=sizeLine:=by obtain ⟨z,its,n,r,e⟩:=I.hok p _ h;exact ⟨its,n,r,e,z⟩
theorem vJ (lo hi:Option Int) (n:Nat):(R7 lo hi none n).1=((HT.bq n 0 lo:Nat):Int)/\(R7 lo hi none n).2.1=((HT.bq n n hi:Nat):Int)/\(R7 lo hi none n).2.2=1:=by
 refine ⟨?_,?_,rfl⟩
 ·cases lo with
  | none=>simp [R7,HT.bq]
  | some i=>
   simp only [R7,HT.bq,V1,show (1:Int) > 0 by decide,if_true];by_cases h:i < 0
   ·simp only [h,if_true] <;> omega
   ·simp only [h,if_false] <;> omega
 ·cases hi with
  | none=>simp [R7,HT.bq]
  | some i=>
   simp only [R7,HT.bq,V1,show (1:Int) > 0 by decide,if_true];by_cases h:i < 0
   ·simp only [h,if_true] <;> omega
   ·simp only [h,if_false] <;> omega
theorem sZ (its:List M4) (lo hi:Option Int):slicePick its.toArray lo hi none=((its.drop (HT.bq its.length 0 lo)).take (HT.bq its.length its.length hi - HT.bq its.length 0 lo)).toArray:=by obtain ⟨h1,h2,h3⟩:=vJ lo hi its.toArray.size;unfold slicePick;rw [h1,h2,h3];simp only [sliceRange_one,pick_run,Ni] <;> rfl
noncomputable def JS (K:M1):V->Option Int->Option Int->Hp->VK->Prop:=λx lo hi H Q=>∃a xs,x=.ref a/\bN K H a xs/\∀p,H p=none->Q (.ref p) (upd H p (.lst (jO xs lo hi)))
theorem Fq:o9 X (JS X.K):=by intro MQ s σ H x v vl vu lo hi sl Q I rx hs pl pu h;obtain ⟨a,xs,rfl,hx,q⟩:=h;cases rx;obtain ⟨its,r,ht,hz⟩:=I.list hx;have hlen:=r.length;refine ⟨"list",_,VE.lookup,ht.isList.typeIs,?_⟩;refine wpAny_getItem_list_slice ht.isList hs pl pu .none (by simp) ?_ (by rw [Ni] <;> omega);rw [sZ,<-hlen];refine ⟨.ref s.heap.objs.size,_,I.laid (t':=s.toks) (o:=.lst (jO xs lo hi)) (λb ob q=>M6 _ q) (Nb _) ?_,rfl,q _ (I.hok.fresh (Nb _))⟩;exact ⟨N8 (nL xs lo hi) hz,_,0,(r.drop (HT.bq xs.length 0 lo)).take (HT.bq xs.length xs.length hi - HT.bq xs.length 0 lo),Nf _ rfl⟩
noncomputable def pK:V->Bool
 | .non=>true
 | .bl _=>true
 | .int _=>true
 | .str _=>true
 | _=>false
noncomputable def Gh:V->V->Bool
 | .non,.non=>true
 | .bl a,.bl b=>a == b
 | .bl a,.int b=>(if a then 1 else 0) == b
 | .int a,.bl b=>a == (if b then 1 else 0)
 | .int a,.int b=>a == b
 | .str a,.str b=>a == b
 | _,_=>false
theorem Gg (ry:RelV y u) (rx:RelV x v) (fy:pK y=true) (fx:pK x=true):Qg A s u v (Gh y x):=by
 cases y with
 | non=>
  cases ry;cases x with
  | non=>cases rx;exact Ux _
  | bl b=>cases rx;exact XX b
  | int b=>obtain ⟨t,rfl⟩:=rx;exact X8 b t
  | str b=>obtain ⟨t,rfl⟩:=rx;exact X_ b t
  | _=>exact absurd (show false=true from fx) N6
 | bl a=>
  cases ry;cases x with
  | non=>cases rx;exact XY a
  | bl b=>cases rx;exact XZ a b
  | int b=>obtain ⟨t,rfl⟩:=rx;exact Yb a b t
  | str b=>obtain ⟨t,rfl⟩:=rx;exact Yc a b t
  | _=>exact absurd (show false=true from fx) N6
 | int a=>
  obtain ⟨t',rfl⟩:=ry;cases x with
  | non=>cases rx;exact Yd a t'
  | bl b=>cases rx;exact Ye a t' b
  | int b=>obtain ⟨t,rfl⟩:=rx;exact Yr a t' b t
  | str b=>obtain ⟨t,rfl⟩:=rx;exact Va a t' b t
  | _=>exact absurd (show false=true from fx) N6
 | str a=>
  obtain ⟨t',rfl⟩:=ry;cases x with
  | non=>cases rx;exact Yg a t'
  | bl b=>cases rx;exact Yh a t' b
  | int b=>obtain ⟨t,rfl⟩:=rx;exact Vb a t' b t
  | str b=>obtain ⟨t,rfl⟩:=rx;exact Ys a t' b t
  | _=>exact absurd (show false=true from fx) N6
 | _=>exact absurd (show false=true from fy) N6
theorem ur:bw X (.builtin "len") (λxs H Q=>∃p ys,xs=[.ref p]/\(bN X.K H p ys\/bT X.K H p ys)/\Q (.int ys.length) H):=by
 intro MQ s σ H xs us Q I r h;obtain ⟨p,ys,rfl,hq,q⟩:=h;obtain ⟨u,rfl,rx⟩:=vals1 r;cases rx;have hn:=kc;rcases hq with hq | hq
 ·obtain ⟨its,r',pl,hz⟩:=I.list hq;have hlen:=r'.length;exact Calls.call_len_list pl.isList (by simp only [Ni] <;> omega) ⟨.int ys.length,H,I.tok _,⟨s.toks + 1,by rw [Ni,hlen]⟩,q⟩
 ·obtain ⟨its,r',pl,hz⟩:=I.tuple hq;have hlen:=r'.length;exact len_tuple pl (by simp only [Ni] <;> omega) ⟨.int ys.length,H,I.tok _,⟨s.toks + 1,by rw [Ni,hlen]⟩,q⟩
theorem uu:bw X (.builtin "len") (λxs H Q=>∃z,xs=[.str z]/\z.length<=sizeLine/\Q (.int z.length) H):=by intro MQ s σ H xs us Q I r h;obtain ⟨z,rfl,hz,q⟩:=h;obtain ⟨u,rfl,t,rfl⟩:=vals1 r;have hn:=kc;exact len_str (by omega) ⟨.int z.length,H,I.tok _,⟨_,rfl⟩,q⟩
theorem bw.or {r r':List V->Hp->VK->Prop}(h:bw X f r) (h':bw X f r'):bw X f (λxs H Q=>r xs H Q\/r' xs H Q):=by
 intro MQ s σ H xs us Q I rs q;rcases q with q | q
 ·exact h MQ s σ H xs us Q I rs q
 ·exact h' MQ s σ H xs us Q I rs q
theorem sQ:bw X (.type "tuple") (λxs H Q=>∃p ys,xs=[.ref p]/\((bN X.K H p ys/\∀l,H l=none->Q (.ref l) (upd H l (.tup ys)))\/(bT X.K H p ys/\Q (.ref p) H))):=by
 intro MQ s σ H xs us Q I r h;obtain ⟨p,ys,rfl,h⟩:=h;obtain ⟨u,rfl,rx⟩:=vals1 r;cases rx;rcases h with ⟨hq,q⟩ | ⟨hq,q⟩
 ·obtain ⟨its,r',pl,hz⟩:=I.list hq;have hlen:=r'.length;refine call_tuple_list pl.isList (λh' kp=>?_) (by simp only [Ni] <;> omega);have I1:Inv X MQ σ H {s with heap:=h'}:=I.kept (t':=s.toks) kp;have I2:Inv X MQ σ (upd H h'.objs.size (.tup ys)) {s with heap:=h'.push {cls:=.type "tuple",data:=.seq its.toArray}}:=
   I1.laid (t':=s.toks) (λb o e=>M6 _ e) (Nb _) (show bU X.prog X.w _ _ _ (.tup ys) from ⟨hz,its,r',Wi _ _,λo q=>by rw [Nf _ rfl] at q;cases q;rfl⟩)
  exact ⟨.ref h'.objs.size,_,I2,rfl,q _ (I1.hok.fresh (Nb _))⟩
 ·obtain ⟨its,r',pl,hz⟩:=I.tuple hq;exact call_tuple_same pl ⟨.ref p,H,I,rfl,q⟩
noncomputable def Ju (K:M1) (T:String) (x:V) (H:Hp):Prop:=match x with
 | .str _=>T="str"
 | .int _=>T="int"
 | .ref p=>(T="list"/\∃xs,bN K H p xs)\/(T="tuple"/\∃o,K.lookup p=some o/\o.cls=.type "tuple"/\o.dict=none)\/
   (T="dict"/\((∃MY,H p=some (.dK MY))\/∃MY,H p=some (.dT MY)))\/(T="set"/\∃S n,H p=some (.set S n))
 | _=>False
theorem HW {H:Hp}{s:M5}(I:Inv X MQ σ H s) (r:RelV x v) (ty:Ju X.K T x H):
  s.TypeIs v T/\∀a,v=.ref a->∃ob,s.heap.get? a=some ob/\ob.dict=none:=by
 cases x with
 | str z=>
  obtain ⟨t,rfl⟩:=r;cases (show T="str" from ty);exact ⟨typeIs_str s z t,λ_ e=>nomatch e⟩
 | int i=>
  obtain ⟨t,rfl⟩:=r;cases (show T="int" from ty);exact ⟨typeIs_int s i t,λ_ e=>nomatch e⟩
 | ref p=>
  cases r;rcases ty with ⟨rfl,xs,hq⟩ | ⟨rfl,o,hk,hc,hd⟩ | ⟨rfl,hk⟩ | ⟨rfl,S,n,hk⟩
  ·obtain ⟨its,_,pl,_⟩:=I.list hq;refine ⟨pl.isList.typeIs,λa e=>?_⟩;cases e;obtain ⟨o,n,e,c,hd,_⟩:=pl;exact ⟨o,e,hd⟩
  ·refine ⟨⟨o,I.kIn p o hk,hc⟩,λa e=>?_⟩;cases e;exact ⟨o,I.kIn _ o hk,hd⟩
  ·have z:∃o,s.heap.get? p=some o/\o.ExactDict:=by
    rcases hk with ⟨MY,hk⟩ | ⟨MY,hk⟩
    ·obtain ⟨_,_,_,_,o,_,_,e,ex,_⟩:=I.hok p _ hk;exact ⟨o,e,ex⟩
    ·obtain ⟨_,_,_,_,o,_,_,e,ex,_⟩:=I.hok p _ hk;exact ⟨o,e,ex⟩
   obtain ⟨o,e,ex⟩:=z;refine ⟨⟨o,e,ex.1⟩,λa e2=>?_⟩;cases e2;exact ⟨o,e,ex.2.1⟩
  ·obtain ⟨o,_,_,_,e,ex,_⟩:=I.hok p _ hk;refine ⟨⟨o,e,ex.1⟩,λa e2=>?_⟩;cases e2;exact ⟨o,e,ex.2.1⟩
 | _=>exact Q8 ty
noncomputable def KN (K:M1) (T:String) (r:V->List V->Hp->VK->Prop) (to:TE) (t:TA):TE:=λσ H Q=>to σ H λx H1=>Ju K T x H1/\t σ H1 λxs H2=>r x xs H2 Q
variable {o e:N9}{es:List N9}{to:TE}{t:TA}{name:Str}{apos cpos:Pos}{T id:String}{r:V->List V->Hp->VK->Prop}
theorem yT (pa:PlainAttrs T) (slot:Slot T name id) (hty:typeOf (.builtin id)=pure (.type "method_descriptor")) (hm:Kv X id r) (ho:PE X o to) (ha:PA X (e::es) t)
  (hbase:autoParam (TU o name X.env (eval o X.env)=eval o X.env) zA._auto_1)
  (hfew:autoParam (((Qw cpos (Nl (e::es) X.env)).all (λx=>!x.1) && (Xp cpos (U3 [] X.env)).all (λx=>x.1.isSome)
   && decide ((e::es).length + ([]:List U4).length + (if ([]:List U4).isEmpty then 0 else 1) < 30))=true) zA._auto_1)
  (hline:autoParam ((apos.endLine == cpos.line)=true) zA._auto_1) (hs:autoParam (Nl (e::es) X.env=(false,eval e X.env)::Nl es X.env) zA._auto_1) (hplain:autoParam ((Qw cpos (Nl es X.env)).any (·.1)=false) zA._auto_1):
  PE X (.Call (.Attribute o name apos) (e::es) [] cpos) (KN X.K T r to t):=by intro MQ s σ H Q I h;refine wpAny_Call_method_late hbase hfew hline rfl (bM (ho MQ s σ H _ I h) λv s1 ⟨x,H1,I1,r1,ty,q1⟩=>?_);obtain ⟨h1,h2⟩:=HW I1 r1 ty;refine ⟨T,id,pa,slot,hty,h1,h2,?_⟩;have hA:=ha cpos MQ s1 σ H1 _ I1 q1;rw [hs] at hA ⊢;refine Calls.callWith_builtin (by show (false || (Qw cpos (Nl es X.env)).any (·.1))=false;rw [hplain] <;> rfl) (Calls.evalArgs_plain ?_);exact bM hA λus s2 ⟨vs,H2,I2,r2,q2⟩=>hm MQ s2 σ H2 x vs v us Q I2 r1 r2 q2
end
noncomputable def FW (X:Cx) (id:String) (r:V->List V->Hp->VK->Prop):Prop:=
 ∀(MQ:List (Nu×Obj)) (s:M5) (σ:St) (H:Hp) (x:V) (xs:List V) (v:M4) (us:List M4) (Q:VK),Inv X MQ σ H s->RelV x v->Vals xs us->r x xs H Q->
  Nm (Nq X.prog X.w) X.A (call (.builtin id) (v::us)) (EP X MQ σ Q) X.xe s
theorem Vals.one:∀{x:V}{us:List M4},Vals [x] us->∃u,us=[u]/\RelV x u
 | _,_,.cons r .nil=>⟨_,rfl,r⟩
theorem Vals.eraseIdx:∀{xs:List V}{us:List M4}(i:Nat),Vals xs us->Vals (xs.eraseIdx i) (us.eraseIdx i)
 | _,_,_,.nil=>.nil
 | _,_,0,.cons _ t=>t
 | _,_,i + 1,.cons r t=>.cons r (Vals.eraseIdx i t)
theorem Vals.reverse {xs:List V}{us:List M4}(h:Vals xs us):Vals xs.reverse us.reverse:=by
 induction h with
 | nil=>exact .nil
 | cons r t ih=>rw [R8,R8];exact Vals.append ih (.cons r .nil)
theorem rR {α:Type}:∀(l:List α) (i:Nat),(l.eraseIdx i).length<=l.length
 | [],_=>Nb _
 | _::_,0=>QL _
 | _::r,i + 1=>Nat.succ_le_succ (rR r i)
section
variable {X:Cx}{MQ:List (Nu×Obj)}{σ:St}{H:Hp}{s:M5}{l b:Nu}{xs ys zs:List V}
theorem Inv.lset {its its':List M4}{f:Array M4->Array M4}(I:Inv X MQ σ H s) (hH:H l=some (.lst xs))
 (e:s.heap.get? l=some {cls:=.type "list",data:=.seq its.toArray n}) (hf:f its.toArray=its'.toArray) (hv:Vals ys its') (hz:ys.length<=sizeLine):
  Inv X MQ σ (upd H l (.lst ys)) {s with heap:=s.heap.update l (Po f),toks:=t'}:=by have q:=YL e f;rw [hf] at q;refine I.write (x:=l) (e:=l) (by rw [hH];exact trivial) (.inl rfl) (λb' u hb hu=>(R1 s.heap (Po f) (P6 hb)).trans hu) ⟨_,q⟩ ?_;exact ⟨hz,its',_,hv,q⟩
theorem Inv.lnew {its:List M4}(I:Inv X MQ σ H s) (hv:Vals ys its) (hz:ys.length<=sizeLine):
  Inv X MQ σ (upd H s.heap.objs.size (.lst ys)) {s with heap:=s.heap.push {cls:=.type "list",data:=.seq its.toArray},toks:=t'}:=
 I.laid (λ_ _ q=>M6 _ q) (Nb _) ⟨hz,its,0,hv,Nf _ rfl⟩
theorem Inv.fresh (I:Inv X MQ σ H s):H s.heap.objs.size=none:=I.hok.fresh (Nb _)
theorem Inv.lstM (I:Inv X MQ σ H s) (hH:H l=some (.lst xs)):xs.length<=sizeLine/\∃(its:List M4) (n:Nat),Vals xs its/\xs.length=its.length/\s.heap.get? l=some {cls:=.type "list",data:=.seq its.toArray n}:=by obtain ⟨z,its,n,r,e⟩:=I.hok l _ hH;exact ⟨z,its,n,r,r.length,e⟩
theorem Cm (h:n<=sizeLine):Rz n=false:=by unfold Rz;exact decide_eq_false (by omega)
end
section
variable {X:Cx}
noncomputable def Fi:V->List V->Hp->VK->Prop:=λx vs H Q=>∃l xs y,x=.ref l/\vs=[y]/\H l=some (.lst xs)/\xs.length < sizeLine/\Q .non (upd H l (.lst (xs++[y])))
theorem mF:FW X "list.append" Fi:=by intro MQ s σ H x vs v us Q I rx rv h;obtain ⟨l,xs,y,rfl,rfl,hH,hz,q⟩:=h;cases rx;obtain ⟨u,rfl,ru⟩:=rv.one;obtain ⟨z,its,n,r,hl,e⟩:=I.lstM hH;refine W7 F.slot_list_append ⟨_,e,rfl⟩ F.entry_list_append (F.args_list_append_2 _ _) (PySem.list_append l its.toArray n u (by rw [Ni];omega)) ⟨e,?_⟩;refine ⟨.non,_,I.lset (its':=its++[u]) hH e (by simp) (r.append (.cons ru .nil)) ?_,rfl,q⟩;rw [NG,List.length_singleton];omega
noncomputable def Fj:V->List V->Hp->VK->Prop:=λx vs H Q=>∃l b xs zs,x=.ref l/\vs=[.ref b]/\H l=some (.lst xs)/\H b=some (.lst zs)/\xs.length + zs.length<=sizeLine/\Q .non (upd H l (.lst (xs++zs)))
theorem Jq:FW X "list.extend" Fj:=by
 intro MQ s σ H x vs v us Q I rx rv h;obtain ⟨l,b,xs,zs,rfl,rfl,hH,hB,hz,q⟩:=h;cases rx;obtain ⟨u,rfl,ru⟩:=rv.one;cases ru;obtain ⟨z,its,n,r,hl,e⟩:=I.lstM hH;obtain ⟨z2,its2,n2,r2,hl2,e2⟩:=I.lstM hB;have hsz:its.toArray.size + its2.toArray.size<=sizeLine:=by rw [Ni,Ni];omega
 have LN:¬(!its.toArray.isEmpty && Rz (its.toArray.size + its2.toArray.size))=true:=by rw [Cm hsz,Sg];exact N6
 refine W7 F.slot_list_extend ⟨_,e,rfl⟩ F.entry_list_extend (F.args_list_extend_2 _ _)
  (AutoSeq1.list_extend_list_list_0 l its.toArray n b its2.toArray n2 LN (by rw [Ni];omega) (by omega)) ⟨e,e2,?_⟩
 refine ⟨.non,_,I.lset (its':=its++its2) hH e (by simp) (r.append r2) ?_,rfl,q⟩;rw [NG];omega
noncomputable def Hx:V->List V->Hp->VK->Prop:=λx vs H Q=>∃l xs i k y,x=.ref l/\vs=[.int i]/\H l=some (.lst xs)/\-(2 ^ 63)<=i/\i < 2 ^ 63/\Vj i xs.length=some k/\xs[k]?=some y/\Q y (upd H l (.lst (xs.eraseIdx k)))
theorem Cf:FW X "list.pop" Hx:=by
 intro MQ s σ H x vs v us Q I rx rv h;obtain ⟨l,xs,i,k,y,rfl,rfl,hH,h1,h2,hk,hy,q⟩:=h;cases rx;obtain ⟨u,rfl,ru⟩:=rv.one;obtain ⟨t,rfl⟩:=ru;obtain ⟨z,its,n,r,hl,e⟩:=I.lstM hH;obtain ⟨w,hw,rw'⟩:=r.get hy;refine W7 F.slot_list_pop ⟨_,e,rfl⟩ F.entry_list_pop (F.args_list_pop_2 _ _)
  (MeetsSeq.list_pop_at l its.toArray n i t k w (fitsIndex_both h1 h2) (by rw [Ni,<-hl];exact hk) (by rw [<-N3];exact hw) (by rw [Ni];omega)) ⟨e,?_⟩
 refine ⟨y,_,I.lset (its':=its.eraseIdx k) hH e ?_ (r.eraseIdx k) ?_,rw',q⟩
 ·show its.toArray.eraseIdxIfInBounds k=(its.eraseIdx k).toArray;rw [List.eraseIdxIfInBounds_toArray]
 ·have:=rR xs k;omega
noncomputable def JR:R2:=λx y H Q=>∃l b xs zs,x=.ref l/\y=.ref b/\H l=some (.lst xs)/\H b=some (.lst zs)/\xs.length + zs.length<=sizeLine/\∀p,H p=none->Q (.ref p) (upd H p (.lst (xs++zs)))
theorem AK:dc X (Q9 .Add) JR:=by
 intro MQ s σ H x y v u Q I rx ry h;obtain ⟨l,b,xs,zs,rfl,rfl,hH,hB,hz,q⟩:=h;cases rx;cases ry;obtain ⟨z,its,n,r,hl,e⟩:=I.lstM hH;obtain ⟨z2,its2,n2,r2,hl2,e2⟩:=I.lstM hB;refine PySem.P.add_list e e2 ?_ (by rw [Ni,Ni];omega);have ea:its.toArray++its2.toArray=(its++its2).toArray:=by simp
 rw [ea];exact ⟨.ref _,_,I.lnew (t':=s.toks) (r.append r2) (by rw [NG];omega),rfl,q _ I.fresh⟩
end
end L2
namespace Att
open PySem PySem.W PySem.Calls PyProof.Rows
theorem pT:∀(ns:List Int) (vs:List M4),WellAll P h vs (ns.map YQ)->VF vs ns:=by
 intro ns
 induction ns with
 | nil=>
  intro vs w;rw [Uy] at w;cases w;exact .nil
 | cons n ns ih=>
  intro vs w;rw [Nz] at w;cases w with
  | cons a b=>
   cases a;exact .cons _ _ (ih _ b)
theorem Bb {l:OpenLaw}(hn:l.most=some n){h:OQ}
 (hpre:l.row.toRowW.claim.pre args=true) (hwl:WellAll P h vals args):
  ∃a vs ns,vals=[RC a]/\args=[WData.list (ns.map YQ)]/\h.get? a=some {cls:=.type "list",data:=.seq vs.toArray}/\VF vs ns/\ns.length<=n:=by
 have hsh:WShape.hasAll [] args [.list .int]=true:=(pre_splitW hpre).1;have hc:l.pre.holds [] {args:=args}=true:=(pre_splitW hpre).2;obtain ⟨d,r,rfl,h1,h2⟩:=hasAllW_cons hsh;obtain rfl:=hasAllW_nil h2;obtain ⟨xs,rfl,h3⟩:=hasW_list h1;obtain ⟨ns,rfl⟩:=items_int h3;have hlen:ns.length<=n:=by
  unfold OpenLaw.pre at hc;have h4:(WTm.not (.lt (.lit (.int (n:Int))) (.len (.arg 0)))).holds [] {args:=[.list (ns.map .int)]}=true:=by have h4:=(holds_andW hc).1;rw [hn] at h4;exact h4
  have h5:=condW_of h4 (w_not (w_lt w_lit (w_len_list (w_arg rfl))));rw [M7] at h5;refine Nat.le_of_not_lt λq=>?_;have q':(n:Int) < ((ns.length:Nat):Int):=by omega
  first
   | (rw [decide_eq_true q'] at h5;exact absurd h5 (by decide))
   | (simp at h5;omega)
 cases hwl with
 | cons w1 w2=>
  cases w2;cases w1 with
  | list ho hall=>exact ⟨_,_,ns,rfl,rfl,ho,pT ns _ hall,hlen⟩
theorem AY (l:OpenLaw) (args:List WData):l.row.toRowW.claim.post args (.bool true) args=true:=
 postW_of (r:=l.row.toRowW) (X:=(true == true))
  (show YA [] (.bool true) .bool=true by first | rfl | decide | simp [YA,WShape.arms,WShape.armsAll])
  (show (WTm.eq .res (.lit (.bool true))).value [] {args:=args,res:=some (.bool true),after:=args}=some (.bool (true == true)) from w_eq_bool (w_res rfl) w_lit) rfl
theorem vX {l:OpenLaw}{XP:(Str->Option M4)->OQ->Prop}{YP:NS->OQ->Prop}{d:DefRec}
 (hn:l.most=some n) (hdf:d.params.defaults=[])
 (call:∀(w:NS) (s₀ s₁:M5) (mg mb:Str->Option M4) (fa:Nu) (o:Obj) (pm cd doc:M4) (a:Nu) (vs:List M4) (ns:List Int),
 Ground q loose [] XP w s₀ mg mb s₁.heap->YP w s₁.heap->
 s₁.heap.get? fa=some o->o.data=.func (docDef d.name d.params d.body d.scope pm cd doc)->s₁.heap.CodeRec cd d.name->mg d.name=some (.ref fa)->
 s₁.heap.get? a=some {cls:=.type "list",data:=.seq vs.toArray}->VF vs ns->ns.length<=n->s₁.gens=#[]->
 P7 (Nq l.prog w) VG (.call (.ref fa) ⟨[.ref a],[]⟩) (λr s'=>r=.ok (.ret (.bool true))/\OldK s₁.heap s'.heap/\s'.os=s₁.os/\Uq s'.gens) s₁):
  WalkO q loose XP YP l.row.toRowW d [] (λf vs=>W8 f vs):=by intro w s₀ s₁ mg mb G Y fa o pm cd doc dV kV ho hd hcd hD hmg hg args vals as hpre hlay hrd hwl hlo;obtain rfl:dV=.none:=Dflts.none hD hdf;obtain rfl:kV=.none:=Dflts.noKw hD;obtain ⟨a,vs,ns,rfl,rfl,hobj,hints,hlen⟩:=Bb hn hpre hwl;refine enter_call (QI (call w s₀ s₁ mg mb fa o pm cd doc a vs ns G Y ho (fd_plain hd) hcd hmg hobj hints hlen hg) λr s' hq=>?_);obtain ⟨rfl,h2,h3,h4⟩:=hq;exact ⟨.inl ⟨.bool true,.bool true,[],rfl,λ_=>rfl,.bool true,AY l _,λ_=>⟨Qh,λ_ hm=>(nomatch hm)⟩⟩,h2,h3,h4⟩
end Att
namespace L2
open PySem PySem.Spec PyProof.Rows
theorem sG:∀{vs:List M4}{ns:List Int},VF vs ns->Vals (ns.map V.int) vs
 | _,_,.nil=>.nil
 | _,_,.cons n t h=>.cons ⟨t,rfl⟩ (sG h)
noncomputable def xZ (H:Hp):Prop:=∀b,H b=none\/∃o xs,H b=some (.frz o (.lst xs))
theorem B_ {K:M1}{mg mb:Str->Option M4}{sp:Sp}{s₁:M5}{vs:List M4}{ns:List Int}
 (KX:K.In s₁.heap) (hns:s₁.heap.Ns NT mg) (hb:s₁.heap.Ns W0 mb) (Ml:∀x:Str,x≠"__name__"->mb x=OC x) (hlim:s₁.heap.NoLimit) (hg:s₁.gens=#[])
 (ha:s₁.heap.get? a=some {cls:=.type "list",data:=.seq vs.toArray}) (hi:VF vs ns) (hl:ns.length<=sizeLine) (hr:cZ k VG)
 (F:∀base:OQ,K.In base->base.Ns NT mg->gH P w K mg base CX k fa fd [x] sp) (hbind:∀(s:M5) (u:M4),Wh s fd ⟨[u],[]⟩ [(x,u)])
 (Lo:∀H:Hp,xZ H->bN K H a (ns.map V.int)->sp [.ref a] H (λv _=>v=.bl true) λ_ _ _=>False)
 (LR:∀H e s',CX [] H s₁ (λ_ _ _=>False) e s'->False):
  P7 (Nq P w) VG (.call (.ref fa) ⟨[.ref a],[]⟩) (λr s'=>r=.ok (.ret (.bool true))/\OldK s₁.heap s'.heap/\s'.os=s₁.os/\Uq s'.gens) s₁:=by
 have rv:=sG hi;have lenV:=hi.length;have core:∀H:Hp,xZ H->bN K H a (ns.map V.int)->eU P w H s₁.heap->(∀b,H b≠none->b=a)->(H a≠none->K.lookup a=none)->
   P7 (Nq P w) VG (.call (.ref fa) ⟨[.ref a],[]⟩) (λr s'=>r=.ok (.ret (.bool true))/\OldK s₁.heap s'.heap/\s'.os=s₁.os/\Uq s'.gens) s₁:=by
  intro H hO hS hok hA hK;have base_of:∀{b:Nu}{o:Obj},s₁.heap.get? b=some o->H b=none->(kP s₁.heap H).get? b=some o:=λe n=>B4 e n;have noA:∀{b:Nu}{o:Obj}{es:Array Vk}{ep:Nat},s₁.heap.get? b=some o->o.data=.dict es ep->H b=none:=fun {b o es ep} e d=>by
   cases q:H b with
   | none=>rfl
   | some u=>
    have e':b=a:=hA b (by rw [q];simp);subst e';rw [ha] at e;cases e;have d':Yt vs.toArray _=Data.dict es ep:=d;cases d'
  have nsK:∀{b:Nu}{m:Str->Option M4},s₁.heap.Ns b m->(kP s₁.heap H).Ns b m:=fun {b m} ⟨o,es,ep,e,d,r⟩=>⟨o,es,ep,base_of e (noA e d),d,r⟩;have Me:K.In (kP s₁.heap H):=λb o e=>base_of (KX b o e) (by
   cases q:H b with
   | none=>rfl
   | some u=>
    have e':b=a:=hA b (by rw [q];simp);subst e';rw [hK (by rw [q];simp)] at e;cases e)
  have hM:Mod K mg (kP s₁.heap H):=⟨Me,nsK hns,⟨mb,nsK hb,Ml⟩,let ⟨mc,h1,h2⟩:=hlim;⟨mc,nsK h1,h2⟩⟩;have e0:xX P w K mg (kP s₁.heap H) VG [] s₁ H:=⟨rfl,hM,λb o e=>EM e,XH (Aq _ _),trivial,λb hb=>absurd (show b∈([]:List Nu) from hb) (by simp),hok,.of_eq hg⟩;refine QI ((F _ Me (nsK hns)).run VG [] s₁ H ⟨[.ref a],[]⟩ [.ref a] [.ref a] _ _ hr e0 (hbind s₁ (.ref a)) (.cons rfl .nil) (Lo H hO hS)) λr s' h=>?_;cases r with
  | error e=>exact (LR H e s' h).elim
  | ok fl=>
   cases fl with
   | next=>exact Q8 h
   | brk=>exact Q8 h
   | cont=>exact Q8 h
   | ret u=>
    obtain ⟨v,H',os,bare,un,L8,r',q⟩:=h;have q':v=.bl true:=q;subst q';obtain rfl:u=R4 true:=r';refine ⟨rfl,OldK.of_keep λb o e=>?_,os,bare⟩;cases q:H b with
    | none=>exact un.keep b o e q (by intro z;exact absurd (show b∈([]:List Nu) from z) (by simp)) (by simp)
    | some u=>
     rcases hO b with z | ⟨ob,xs,z⟩
     ·rw [q] at z;cases z
     ·have z2:=un.frzs b ob _ z;obtain ⟨e1,_⟩:=hok b _ z;obtain ⟨e2,_⟩:=L8 b _ z2;rw [e] at e1;cases e1;exact e2
 cases hk:K.lookup a with
 | some o=>
  have e:=KX a o hk;rw [ha] at e;cases e;refine core (λ_=>none) (λ_=>.inl rfl) (.inr ⟨_,vs.toArray,_,hk,rfl,rfl,rfl,by rw [Ni,lenV];exact hl,by simpa using rv⟩) (λb u z=>by have z':(none:Option HO)=some u:=z;cases z') (λb z=>absurd rfl z) λz=>absurd rfl z
 | none=>
  refine core (λb=>if b=a then some (.frz {cls:=.type "list",data:=.seq vs.toArray} (.lst (ns.map V.int))) else none) (λb=>?_) (.inl (.inr ⟨{cls:=.type "list",data:=.seq vs.toArray},if_pos rfl⟩)) (λb u z=>?_) (λb z=>?_) λ_=>hk
  ·by_cases hb:b=a
   ·exact .inr ⟨_,_,if_pos hb⟩
   ·exact .inl (if_neg hb)
  ·by_cases hb:b=a
   ·have z':=(if_pos hb).symm.trans z;cases z';subst hb;exact ⟨ha,by rw [M7];exact hl,vs,_,rv,ha⟩
   ·have z':=(if_neg hb).symm.trans z;cases z'
  ·by_cases hb:b=a
   ·exact hb
   ·exact absurd (if_neg hb) z
noncomputable abbrev K0 {K:M1}{h:OQ}(_:K.In h):M1:=K
theorem FH {l:Uz}{XP:(Str->Option M4)->OQ->Prop}{YP:NS->OQ->Prop}{d:DefRec}{K:Yu->M1}{CX:NS->qY}{sp:NS->Sp}
 (hn:l.most=some n) (hn2:n<=sizeLine) (hdf:d.params.defaults=[]) (hr:cZ k VG)
 (hY:∀(w:NS) (h:OQ),YP w h->(K w.params).In h)
 (F:∀(w:NS) (mg:Str->Option M4) (fa:Nu) (h:OQ),(K w.params).In h->h.Ns NT mg->mg d.name=some (.ref fa)->
 ∃fd:Oz,(∀(s:M5) (u:M4),Wh s fd ⟨[u],[]⟩ [(x,u)])/\
 ∀base:OQ,(K w.params).In base->base.Ns NT mg->gH l.prog w (K w.params) mg base (CX w) k fa fd [x] (sp w))
 (Lo:∀(w:NS) (H:Hp) (a:Nu) (ns:List Int),ns.length<=n->xZ H->bN (K w.params) H a (ns.map V.int)->sp w [.ref a] H (λv _=>v=.bl true) λ_ _ _=>False)
 (LR:∀(w:NS) (H:Hp) (s:M5) (e:M4) (s':M5),CX w [] H s (λ_ _ _=>False) e s'->False):
  Xq q loose XP YP l.row.toRowW d [] (λf vs=>W8 f vs):=by refine Att.vX hn hdf λw s₀ s₁ mg mb fa o pm cd doc a vs ns G Y ho hd hcd hmg hobj hints hlen hg=>?_;have KX:=hY w _ Y;obtain ⟨fd,hb,hF⟩:=F w mg fa _ KX G.T.g hmg;exact B_ KX G.T.g G.T.b G.T.builtins G.T.nolimit hg hobj hints (N8 hlen hn2) hr hF hb (λH hO hS=>Lo w H a ns hlen hO hS) λH e s'=>LR w H s₁ e s'
noncomputable def eu (s:RB):Arguments:=match s with
 | .FunctionDef _ a _ _ _ _ _ _ _ _=>a
 | _=>{posonlyargs:=[],args:=[],vararg:=none,kwonlyargs:=[],kw_defaults:=[],kwarg:=none,defaults:=[]}
noncomputable def cC (s:RB):List RB:=match s with
 | .FunctionDef _ _ b _ _ _ _ _ _ _=>b
 | _=>[]
noncomputable def aT (s:RB):Rl:=match s with
 | .FunctionDef _ _ _ _ _ _ sc _ _ _=>sc
 | _=>{kind:=.function,names:=[],isGenerator:=false,isCoroutine:=false}
noncomputable abbrev jR:qY:=λ_ _ _ _ _ _=>False
noncomputable abbrev E0:XK:=λ_ _ _=>False
theorem Iw:Passes jR X E0:=λ_ _ _ _ _ _ _ h=>h.elim
structure jS (K:M1) (x MV:Str) (st:RB) (f:Nu) (fd:Oz):Prop where
 ex:∃(oc:M4) (od:Option Nu) (kV doc pm:M4) (an:Option Nu) (cdv ct:M4) (osl:Array (Option M4)),
  fd=Pr x MV (eu st) (cC st) (aT st) .none kV doc pm an cdv ct/\K.lookup f=some ⟨oc,od,.func fd,osl⟩/\Sf K cdv MV=true
 kp:QV K (.ref f)=true
section
variable {P:Nt}{w:NS}{K:M1}{mg:Str->Option M4}{base:OQ}
theorem jS.ok {st:RB}{N ps:List Str}{sp:Sp}(F:jS K x MV st f fd) (S:eZ N ps (aT st)) (len:∀vs H Q E,sp vs H Q E->vs.length=ps.length)
 (hbody:∀(cdv:M4) (A:NK) (outer:List Env) (s:M5) (H:Hp) (vs:List V) (Q:VK) (E:XK),cZ k (A.deeper (S7 MV (aT st) s.heap.objs.size f cdv))->sp vs H Q E->
 ∃t,iI (oB jR P w K mg base N MV (aT st) f cdv A outer s H E).nox (cC st) t/\t {nx:=λ_ H'=>Q .non H',rt:=Q} (start N vs) H):gH P w K mg base jR (k + 1) f fd ps sp:=by obtain ⟨oc,od,kV,doc,pm,an,cdv,ct,osl,rfl,lk,hcd⟩:=F.ex;refine Ih lk hcd S len λA outer s H vs Q E hr Lo=>?_;obtain ⟨t,h,q⟩:=hbody cdv A outer s H vs Q E hr Lo;exact ⟨t,h.nox,q⟩
theorem jS.binds {st:RB}{ps:List Str}(F:jS K x MV st f fd)
 (h:∀(kV doc pm:M4) (an:Option Nu) (cdv ct:M4) (us:List M4),us.length=ps.length->Wa (Pr x MV (eu st) (cC st) (aT st) .none kV doc pm an cdv ct) ⟨us,[]⟩=pure (ps.zip us)):Binds K fd ps []:=by obtain ⟨oc,od,kV,doc,pm,an,cdv,ct,osl,rfl,lk,hcd⟩:=F.ex;exact .all (h kV doc pm an cdv ct)
theorem Ai {st:RB}{kV doc pm cdv ct:M4}(l:K.lookup f=some ⟨oc,od,.func (Pr x MV (eu st) (cC st) (aT st) .none kV doc pm an cdv ct),osl⟩)
 (c:Sf K cdv MV=true) (k:QV K (.ref f)=true):jS K x MV st f (Pr x MV (eu st) (cC st) (aT st) .none kV doc pm an cdv ct):=⟨⟨oc,od,kV,doc,pm,an,cdv,ct,osl,rfl,l,c⟩,k⟩
end
theorem JL {A B:Prop}(h:B):if false=true then A else B:=by rw [if_neg N6];exact h
theorem JM {A B:Prop}(h:A):if true=true then A else B:=by rw [if_pos rfl];exact h
noncomputable def aG (H H':Hp):Prop:=∀b o,H b=some o->H' b=some o
theorem aG.refl (H:Hp):aG H H:=λ_ _ h=>h
theorem aG.trans {H H1 H2:Hp}(a:aG H H1) (b:aG H1 H2):aG H H2:=λc o h=>b c o (a c o h)
theorem aG.free {H H':Hp}(e:aG H H') (h:H' l=Yi):H l=Yi:=by
 cases q:H l with
 | none=>rfl
 | some o=>
  rw [e l o q] at h;cases h
theorem aG.seq {K:M1}{H H':Hp}{a:Nu}{xs:List V}(e:aG H H') (h:bN K H a xs):bN K H' a xs:=by
 rcases h with (h | ⟨o,h⟩) | h
 ·exact .inl (.inl (e _ _ h))
 ·exact .inl (.inr ⟨o,e _ _ h⟩)
 ·exact .inr h
end L2
set_option maxHeartbeats 4000000
namespace K21
open PySem
noncomputable def top (i:Nat):RB:=Pu.main.body.getD i (.Pass ⟨0,0,0,0⟩)
end K21
namespace K21
open PySem PySem.Spec PyProof.Rows L2
noncomputable abbrev E (P:Yu) (k:Str) (t:Nat) (v:M4):Vk:=⟨PyData.keyHash P k,.str k t,v⟩
noncomputable abbrev fU (P:Yu) (k:Str) (t r:Nat):Vk:=E P k t (.ref r)
noncomputable def Jp (n:Str) (t l k a:Nat) (v w:M4) (r u:Nat):Obj:=⟨.type "code",none,.fields #[.str n t,.str n (t + 1),.str "/claim/cut.py" (t + 2),.int l 0,.int k 0,.int 0 0,.int 0 0,.int 3 0,.ref a,.bool true,.int 181 0,.ref (a + 1),.none,v,w,.ref r,.int u 0,.int l 0,.str "/claim/cut.py" (u + 1)],#[]⟩
noncomputable def nR (n:Str) (t l k a u:Nat):Obj:=Jp n t l k a (.ref (a + 2)) (.ref (a + 3)) (a + 4) u
noncomputable def rO (n:Str) (t l k a u:Nat):Obj:=Jp n t l k a .none .none (a + 2) u
noncomputable def gX (n:Str) (k:Nat) (m:M4) (c:Nat):Obj:=⟨.type "function",none,.func (Pr n n (eu (top k)) (cC (top k)) (aT (top k)) .none .none .none m none (.ref c) .none),#[]⟩
noncomputable def Gr:M4:=.str "pickalike.worlds" 223
noncomputable def uP:M4:=.str "pickalike.pairings" 239
noncomputable def jd:M4:=.str "law_pickalike_k21_what_fits" 276
noncomputable def KF (P:Yu):M1:=
(nat_lit 2,⟨.none,none,(.dict #[] 0),#[]⟩)::
(nat_lit 3,⟨(.type "dict"),none,(.dict #[E P "__name__" 165 (.str "law_pickalike_k21_what_fits" 276),E P "__doc__" 166 .none,E P "__package__" 167 .none,E P "__loader__" 168 (.builtin "__main__.__loader__#opaque"),E P "__spec__" 169 .none,fU P "__annotations__" 170 6,fU P "__builtins__" 171 4,E P "__file__" 173 (.str "/claim/cut.py" 172),E P "__cached__" 174 .none,fU P "PickError" 206 24,fU P "NoTongue" 222 37,fU P "tongue_of" 230 44,fU P "need_tongue" 238 51,fU P "rising" 247 58,fU P "view" 253 63,fU P "views" 259 68,fU P "agree" 269 75,fU P "fits" 275 80,fU P "_law_cell" 285 87,fU P "_law_names" 300 94,fU P "_law_bits" 310 101,fU P "_law_world" 316 106,fU P "_law_order" 327 113,fU P "_law_turned" 333 118,fU P "_law_flipped" 339 123,fU P "_law_two" 345 128,fU P "_law_fits" 360 135,fU P "_law_pairs" 376 142,fU P "law" 389 149] 29),#[]⟩)::
(nat_lit 43,rO "tongue_of" 225 7 1 40 228)::
(nat_lit 44,gX "tongue_of" 4 Gr 43)::
(nat_lit 50,nR "need_tongue" 231 10 2 45 236)::
(nat_lit 51,gX "need_tongue" 5 Gr 50)::
(nat_lit 57,nR "rising" 241 14 1 52 245)::
(nat_lit 58,gX "rising" 7 uP 57)::
(nat_lit 62,rO "view" 248 18 3 59 251)::
(nat_lit 63,gX "view" 8 uP 62)::
(nat_lit 67,rO "views" 254 23 1 64 257)::
(nat_lit 68,gX "views" 9 uP 67)::
(nat_lit 74,nR "agree" 260 25 4 69 267)::
(nat_lit 75,gX "agree" 10 uP 74)::
(nat_lit 79,rO "fits" 270 27 3 76 273)::
(nat_lit 80,gX "fits" 11 uP 79)::
(nat_lit 86,nR "_law_cell" 278 34 2 81 283)::
(nat_lit 87,gX "_law_cell" 13 jd 86)::
(nat_lit 93,nR "_law_names" 286 38 2 88 298)::
(nat_lit 94,gX "_law_names" 14 jd 93)::
(nat_lit 100,nR "_law_bits" 301 50 2 95 308)::
(nat_lit 101,gX "_law_bits" 15 jd 100)::
(nat_lit 105,rO "_law_world" 311 56 3 102 314)::
(nat_lit 106,gX "_law_world" 16 jd 105)::
(nat_lit 112,nR "_law_order" 317 66 2 107 325)::
(nat_lit 113,gX "_law_order" 17 jd 112)::
(nat_lit 117,rO "_law_turned" 328 73 2 114 331)::
(nat_lit 118,gX "_law_turned" 18 jd 117)::
(nat_lit 122,rO "_law_flipped" 334 77 2 119 337)::
(nat_lit 123,gX "_law_flipped" 19 jd 122)::
(nat_lit 127,rO "_law_two" 340 96 2 124 343)::
(nat_lit 128,gX "_law_two" 20 jd 127)::
(nat_lit 134,nR "_law_fits" 346 111 3 129 358)::
(nat_lit 135,gX "_law_fits" 21 jd 134)::
(nat_lit 141,nR "_law_pairs" 361 123 3 136 374)::
(nat_lit 142,gX "_law_pairs" 22 jd 141)::
(nat_lit 148,nR "law" 377 135 1 143 387)::
(nat_lit 149,gX "law" 23 jd 148)::[]
noncomputable def VW:Nt:={Pu with main:={Pu.main with body:=[top 1,top 2,top 4,top 5,top 7,top 8,top 9,top 10,top 11,top 13,top 14,top 15,top 16,top 17,top 18,top 19,top 20,top 21,top 22,top 23]}}
noncomputable def HK:W.Hook:=W.kHook KF [2,3,43,44,50,51,57,58,62,63,67,68,74,75,79,80,86,87,93,94,100,101,105,106,112,113,117,118,122,123,127,128,134,135,141,142,148,149] (λ_=>by kernel_rfl)
noncomputable def XT:M5->Bool:=λs=>W.xlAt VW [] s && W.recOk (X0 Ox.row.toRowW) s
theorem look:W9 Ox=true:=by decide +kernel
theorem left:W.LeftO Ox.row.prog VW [] XT (YM HK) (YN HK) 2078:=λw=>by kernel_rfl
end K21
namespace DX
open PySem PySem.Spec
open Sem (wp)
end DX
namespace DX
open PySem PySem.Spec
end DX
namespace DX
open PySem PySem.Spec PyProof.Rows L2
noncomputable def Ic (a C:Nu) (dx:Option Nu):OQ->Prop:=λh=>∃oe vs,h.get? a=some oe/\oe.cls=.ref C/\oe.dict=dx/\oe.data=.fields vs
noncomputable abbrev XO (a C:Nu) (dx:Option Nu):HO:=.ext (Ic a C dx)
end DX
namespace DX
open PySem PySem.Spec PyProof.Rows
open Sem (wp)
section
variable {prog:Nt}{w:NS}{A:NK}{E:M4->M5->Prop}{s:M5}{K:M1}{x C:Nu}{ox:Obj}{od:Option Obj}{name:Str}
theorem BN {M:Yz}{Q:Unit->M5->Prop}(X:K.In s.heap) (I:Rm s.heap x ox C od) (hm:Ra K C (.type "BaseException")=some true) (hq:Q () s):Nm M A (Ua "BaseException.__getattribute__" ⟨[.ref x,nameV],[]⟩) Q E s:=by
 have hk:builtinKind "BaseException.__getattribute__"=some .slot:=by decide +kernel
 have Lo:splitId "BaseException.__getattribute__"=some ("BaseException","__getattribute__"):=by decide +kernel
 have ha:=F.args_bexc_ga (.ref x) nameV;have L1:=I.type (M:=M);have L2:=W.looks_mroIn (M:=M) X hm;simp only [Ua,hk,Lo];have L:W.Looks M s.heap (W_ (.ref x) (.type "BaseException")) true:=L1.andThen L2;refine M0 (L.here ?_);obtain ⟨h,g,d,t,os⟩:=s
 repeat (any_goals (first | assumption | wp_step))
theorem entry_class {Q:Fin->M5->Prop}(X:K.In s.heap) (I:Rm s.heap x ox C od) (hf:SI K C od "__class__"=some (.bind (.builtin "getset_descriptor.__get__") (.builtin "object.__class__"))) (hm:Ra K C (.type "object")=some true) (h:Q (.done (.ret (.ref C))) s):
  Nm (Nq prog w) A (RI.«object.__getattribute__» ⟨[.ref x,.str "__class__" tk],[]⟩) Q E s:=by obtain ⟨hh,g,d,t,os⟩:=s;have L0:=I.type (M:=Nq prog w);have L1:=W.looks_find (M:=Nq prog w) X I hf;refine M0 (M3 (M0 (M3 (M0 (L0.at (M0 (L1.at ?_)))))));show Nm _ _ (holding [_] (call _ [_,.ref x,.ref C]) >>= ret) _ _ _;exact M0 (NU (VD (W.class_get (ox:=ox) (od:=od) X I hm (M3 h))))
theorem Gq {tk:Tok}{fill expr:Bool}{Q:M4->M5->Prop}(X:K.In s.heap) (I:Rm s.heap x ox C od) (hga:QC K (.ref C) "__getattribute__"=some (some (.builtin "BaseException.__getattribute__"))) (hgt:QC K (.ref C) "__getattr__"=some none)
  (h:P7 (Nq prog w) A (.call (.builtin "BaseException.__getattribute__") ⟨[.ref x,.str name tk],[]⟩) (λr s'=>match r with | .ok (.ret v)=>Nm (Nq prog w) A (handedOut v) Q E s' | _=>False) s):Nm (Nq prog w) A (getAttrBy (.ref x) (.str name tk) fill expr) Q E s:=by
 obtain ⟨hh,g,d,t,os⟩:=s;have L0:=I.type (M:=Nq prog w);have L1:=UQ (M:=Nq prog w) X hga;have L2:=UQ (M:=Nq prog w) X hgt;have ML:(TV "BaseException.__getattribute__" == TV "object.__getattribute__")=false:=by decide +kernel
 unfold getAttrBy;refine NU (M0 (L0.at (M0 (L1.at ?_))));dsimp only;rw [ML,Sg,if_neg (by decide)];unfold getAttrByItsOwn;refine M0 (L2.at ?_);have h0:(expr && onTheHeap (TV "BaseException.__getattribute__"))=false:=by cases expr <;> rfl
 refine M0 (Rb (NU ?_));unfold callGetattribute;rw [h0,if_neg (by decide)];unfold boundAndCalled;rw [SJ.ga.bind (.ref x)];refine M0 (M3 (VD (QI h λr s' q=>?_)))
 match r,q with
 | .ok (.ret v),q=>exact q
theorem get_class {Q:Option M4->M5->Prop}(X:K.In s.heap) (I:Rm s.heap x ox C od) (hga:QC K (.ref C) "__getattribute__"=some (some (.builtin "BaseException.__getattribute__"))) (hgt:QC K (.ref C) "__getattr__"=some none)
  (hm:Ra K C (.type "BaseException")=some true) (hf:SI K C od "__class__"=some (.bind (.builtin "getset_descriptor.__get__") (.builtin "object.__class__"))) (ho:Ra K C (.type "object")=some true) (h:Q (some (.ref C)) {s with toks:=s.toks + 1}):
  Nm (Nq prog w) A (getAttr? (.ref x) "__class__") Q E s:=by obtain ⟨hp,g,d,t,os⟩:=s;unfold getAttr? getAttrBy?;refine M0 (wpAny_mkText (M0 (Rb (Gq (s:=⟨hp,g,d,t + 1,os⟩) X I hga hgt ?_))));refine UR SJ.ga.plain F.entry_bexc_ga (BN (s:=⟨hp,g,d,t + 1,os⟩) X I hm (entry_class (s:=⟨hp,g,d,t + 1,os⟩) X I hf ho ?_));exact M3 (M3 h)
end
end DX
namespace DX
open PySem PySem.Spec PyProof.Rows L2
noncomputable abbrev vS:List M4:=[.type "ValueError",.type "Exception",.type "BaseException",.type "object"]
noncomputable def quiet:List Str:=["__init__","__setattr__","name","letter","many","told","point","row"]
structure GX (K:M1) (P:Nu):Prop where
 gt:VH K (.builtin "object.__class__") "__get__"=some (some (.builtin "getset_descriptor.__get__"))
 tk:Wj K (.builtin "object.__class__")=some true
 lk:∃nm q N bs sn sub ab col dd k0 k1 k2 k3 k5,K.lookup P=some (excClassObj nm q P N bs vS true sn sub ab col dd k0 k1 k2 k3 k5 "ValueError.__new__")/\∀h,K.In h->∃m,h.Ns N m/\∀n∈quiet,m n=none
structure XE (K:M1) (P C:Nu):Prop where
 lk:∃nm q N bs sn sub ab col dd k0 k1 k2 k3 k5,K.lookup C=some (excClassObj nm q C N bs (.ref P::vS) true sn sub ab col dd k0 k1 k2 k3 k5 "ValueError.__new__")
 ga:QC K (.ref C) "__getattribute__"=some (some (.builtin "BaseException.__getattribute__"))
 gt:QC K (.ref C) "__getattr__"=some none
 cl:QC K (.ref C) "__class__"=some (some (.builtin "object.__class__"))
section
variable {K:M1}{P C:Nu}
theorem zZ (X:XE K P C):∃cd,RJ K C=some cd/\cd.mro=.ref C::.ref P::vS/\cd.hasDict=true/\W.typeIn K (.ref C)=some (.type "type"):=by
 obtain ⟨nm,q,N,bs,sn,sub,ab,col,dd,k0,k1,k2,k3,k5,l⟩:=X.lk;have h1:RJ K C=some {name:=nm,bases:=bs,mro:=.ref C::.ref P::vS,ns:=N,qualname:=q,hasDict:=true,slotNames:=sn,subclasses:=sub,abstract:=ab,collection:=col,hasDel:=false}:=by unfold RJ;rw [l]
 refine ⟨_,h1,rfl,rfl,?_⟩;show (K.lookup C).map (·.cls)=_;rw [l];rfl
theorem vd (X:XE K P C) (b:M4):Ra K C b=some ((RC C::.ref P::vS).contains b):=by obtain ⟨cd,h1,h2,_⟩:=zZ X;unfold Ra;rw [h1,Ub,h2];rfl
end
theorem GH {K:M1}{P C:Nu}(X:XE K P C){T:String}(h1:Wk T=true) (h2:vS.contains (.type T)=false):UU K (.ref C) (.type T)=some false:=by unfold UU W.kitCls;rw [if_neg (by simp)];simp only [h1,if_true];show Ra K C _=_;rw [vd X,Vl,Vl,h2];rfl
theorem Er {K:M1}{C:Nu}{od:Option Obj}{name:Str}{a g:M4}(hc:(RJ K C).isSome=true) (ha:QC K (.ref C) name=some (some a)) (hg:VH K a "__get__"=some (some g)) (ht:Wj K a=some true):SI K C od name=some (.bind g a):=by obtain ⟨cd,hc⟩:=OJ.mp hc;unfold SI;rw [hc,Ub,ha,Ub];simp [hg,ht]
theorem B8 {K:M1}{e P C:Nu}(G:GX K P) (E:XE K P C):W.KitX K (.ref e) (.ref C) (λh=>∃ox od,Rm h e ox C od):=by
 obtain ⟨cd,hc,hm,hd,ht⟩:=zZ E;refine ⟨λM h _ ⟨ox,od,I⟩=>I.type,λM h X _=>?_,λh tp dd its n sl X htp=>?_,λX ⟨ox,od,I⟩ k=>?_⟩
 ·unfold RJ at hc;split at hc
  ·rename_i ho;intro A' Q' E' s' k q;unfold isType loadHead;exact M0 (wpAny_loadPart (k _ _ (X _ _ ho)) (M3 q))
  ·cases hc
 ·refine Bool.eq_false_iff.mpr λq=>?_;obtain rfl:C=tp:=YW (beq_iff_eq.mp q);unfold RJ at hc;split at hc
  ·rename_i ho;have z:=(X _ _ ho).symm.trans htp;cases z
  ·cases hc
 ·exact get_class X I E.ga E.gt (by rw [vd E];simp) (Er (by rw [hc];rfl) E.cl G.gt G.tk) (by rw [vd E];simp) k
end DX
namespace DL
open PySem PySem.Spec PyProof.Rows L2
inductive D where
 | non | bl (b:Bool) | int (i:Int) | str (x:Str) | tup (xs:List D) | lst (xs:List D) | emp
 | exn (cls:Str) (ns:List Str) (ds:List D)
  | dct (ks vs:List D)
mutual
noncomputable def isKey:D->Bool
 | .int _=>true
 | .tup xs=>areKeys xs
 | _=>false
noncomputable def areKeys:List D->Bool
 | []=>true
 | x::xs=>isKey x && areKeys xs
end
mutual
noncomputable def bB:D->Int
 | .int i=>Ri i
 | .tup xs=>Xa (OA (cF xs))
 | _=>0
noncomputable def cF:List D->List Int
 | []=>[]
 | x::xs=>bB x::cF xs
end
mutual
noncomputable def dep:D->Nat
 | .tup xs=>deps xs + 1
 | .lst xs=>deps xs + 1
 | .emp=>5000
 | .exn _ _ _=>5000
 | .dct _ _=>5000
 | _=>0
noncomputable def deps:List D->Nat
 | []=>0
 | x::xs=>max (dep x) (deps xs)
end
structure FU (ks:List D):Prop where
 key:areKeys ks=true
 nd:ks.Nodup
 dp:deps ks<=8
 tp:∀k∈ks,∃xs,k=.tup xs
noncomputable def tU (p:Int×V×V) (e:Vk):Prop:=e.hash=p.1/\RelV p.2.1 e.key/\RelV p.2.2 e.val
noncomputable abbrev rH (a:Nu) (ep:Nat) (MY:List (Int×V×V)):HO:=.ext λh=>∃o es,h.get? a=some o/\o.ExactDict/\o.data=.dict es ep/\T9 tU MY es.toList
noncomputable def XF (J:Hp) (dx:Option Nu) (ns:List Str) (vs:List V):Prop:=(dx=none/\ns=[]/\vs=[])\/∃d,dx=some d/\ns.length=vs.length/\J d=some (.xd (ns.zip vs))
theorem XF.mono {J J':Hp}(e:aG J J') (h:XF J dx ns vs):XF J' dx ns vs:=by
 rcases h with h | ⟨d,h1,h2,h3⟩
 ·exact .inl h
 ·exact .inr ⟨d,h1,h2,e _ _ h3⟩
mutual
inductive Rep (K:M1) (J:Hp):D->V->Prop
 | non:Rep K J .non .non
 | bl (b:Bool):Rep K J (.bl b) (.bl b)
 | int (i:Int):Rep K J (.int i) (.int i)
 | str (x:Str):Rep K J (.str x) (.str x)
 | emp {a:Nu}:J a=some (.dK [])->Rep K J .emp (.ref a)
 | tup {a:Nu}{vs:List V}{ds:List D}:bT K J a vs->az K J ds vs->Rep K J (.tup ds) (.ref a)
 | lst {a:Nu}{vs:List V}{ds:List D}:bN K J a vs->az K J ds vs->Rep K J (.lst ds) (.ref a)
 | exn {a C:Nu}{dx:Option Nu}{cls:Str}{ns:List Str}{vs:List V}{ds:List D}:J a=some (DX.XO a C dx)->OD K NT cls=some (some (.ref C))->XF J dx ns vs->az K J ds vs->(∃P,DX.GX K P/\DX.XE K P C)->Rep K J (.exn cls ns ds) (.ref a)
 | dct {a:Nu}{ep:Nat}{ks vs:List D}{us ws:List V}:J a=some (rH a ep ((cF ks).zip (us.zip ws)))->az K J ks us->az K J vs ws->FU ks->(a == R6)=false/\ks.length=vs.length->Rep K J (.dct ks vs) (.ref a)
inductive az (K:M1) (J:Hp):List D->List V->Prop
 | nil:az K J [] []
 | cons {d:D}{v:V}{ds:List D}{vs:List V}:Rep K J d v->az K J ds vs->az K J (d::ds) (v::vs)
end
theorem dQ {K:M1}{H H':Hp}{a:Nu}{xs:List V}(e:aG H H') (h:bT K H a xs):bT K H' a xs:=by
 rcases h with (h | ⟨o,h⟩) | h
 ·exact .inl (.inl (e _ _ h))
 ·exact .inl (.inr ⟨o,e _ _ h⟩)
 ·exact .inr h
mutual
theorem Rep.mono {K:M1}{J J':Hp}(e:aG J J'):∀{d:D}{v:V},Rep K J d v->Rep K J' d v
 | _,_,.non=>.non
 | _,_,.bl b=>.bl b
 | _,_,.int i=>.int i
 | _,_,.str x=>.str x
 | _,_,.emp h=>.emp (e _ _ h)
 | _,_,.tup h hs=>.tup (dQ e h) (az.mono e hs)
 | _,_,.lst h hs=>.lst (e.seq h) (az.mono e hs)
 | _,_,.exn h1 h2 h3 hs hx=>.exn (e _ _ h1) h2 (h3.mono e) (az.mono e hs) hx
 | _,_,.dct h h1 h2 h3 h4=>.dct (e _ _ h) (az.mono e h1) (az.mono e h2) h3 h4
theorem az.mono {K:M1}{J J':Hp}(e:aG J J'):∀{ds:List D}{vs:List V},az K J ds vs->az K J' ds vs
 | _,_,.nil=>.nil
 | _,_,.cons h hs=>.cons (Rep.mono e h) (az.mono e hs)
end
section
variable {K:M1}{J:Hp}
theorem az.length:∀{ds:List D}{vs:List V},az K J ds vs->ds.length=vs.length
 | _,_,.nil=>rfl
 | _,_,.cons _ hs=>congrArg (· + 1) (az.length hs)
theorem az.get:∀{ds:List D}{vs:List V}{i:Nat}{d:D},az K J ds vs->ds[i]?=some d->∃v,vs[i]?=some v/\Rep K J d v
 | _,_,_,_,.nil,e=>by simp at e
 | _,_,0,_,.cons r _,e=>by simp at e;subst e;exact ⟨_,rfl,r⟩
 | _,_,i + 1,d,.cons _ t,e=>by obtain ⟨v,h1,h2⟩:=az.get (i:=i) (d:=d) t (by simpa using e);exact ⟨v,by simpa using h1,h2⟩
theorem az.append:∀{ds es:List D}{vs us:List V},az K J ds vs->az K J es us->az K J (ds++es) (vs++us)
 | _,_,_,_,.nil,s=>s
 | _,_,_,_,.cons r t,s=>.cons r (az.append t s)
theorem az.take:∀{ds:List D}{vs:List V}(n:Nat),az K J ds vs->az K J (ds.take n) (vs.take n)
 | _,_,0,_=>.nil
 | _,_,_ + 1,.nil=>.nil
 | _,_,n + 1,.cons r t=>.cons r (az.take n t)
theorem az.drop:∀{ds:List D}{vs:List V}(n:Nat),az K J ds vs->az K J (ds.drop n) (vs.drop n)
 | _,_,0,r=>r
 | _,_,_ + 1,.nil=>.nil
 | _,_,n + 1,.cons _ t=>az.drop n t
end
noncomputable def dD (K:M1) (J H:Hp) (a:Nu) (ks vs:List D):Prop:=∃us ws ep,H a=some (rH a ep ((cF ks).zip (us.zip ws)))/\az K J ks us/\az K J vs ws/\FU ks/\(a == R6)=false/\ks.length=vs.length
theorem dD.mono {K:M1}{J J' H H':Hp}{a:Nu}{ks vs:List D}(e:aG J J') (e':aG H H'):dD K J H a ks vs->dD K J' H' a ks vs
 | ⟨us,ws,ep,h1,h2,h3,h4⟩=>⟨us,ws,ep,e' _ _ h1,h2.mono e,h3.mono e,h4⟩
theorem dD.ne {K:M1}{J H:Hp}{a:Nu}{ks vs:List D}:dD K J H a ks vs->H a≠none
 | ⟨us,ws,ep,h1,_⟩=>by rw [h1];intro z;cases z
theorem dD.rep {K:M1}{J H:Hp}{a:Nu}{ks vs:List D}(e:aG J H):dD K J H a ks vs->Rep K H (.dct ks vs) (.ref a)
 | ⟨us,ws,ep,h1,h2,h3,h4,h5⟩=>.dct h1 (h2.mono e) (h3.mono e) h4 h5
noncomputable def NR (K:M1) (J:Hp) (P:Nu->Prop):List D->List V->Prop
 | [],vs=>vs=[]
 | x::xs,vs=>∃ds b ws us,x=.lst ds/\vs=.ref b::us/\J b=some (.lst ws)/\az K J ds ws/\P b/\V.ref b∉us/\NR K J P xs us
theorem NR.mono {K:M1}{J J':Hp}{P P':Nu->Prop}(e:aG J J') (k:∀b,P b->P' b):∀{xs:List D}{vs:List V},NR K J P xs vs->NR K J' P' xs vs
 | [],_,h=>h
 | _::_,_,⟨ds,b,ws,us,h1,h2,h3,h4,h5,h6,h7⟩=>⟨ds,b,ws,us,h1,h2,e _ _ h3,h4.mono e,k b h5,h6,h7.mono e k⟩
theorem NR.reps {K:M1}{J:Hp}{P:Nu->Prop}:∀{xs:List D}{vs:List V},NR K J P xs vs->az K J xs vs
 | [],_,h=>by cases h;exact .nil
 | _::_,_,⟨ds,b,ws,us,h1,h2,h3,h4,h5,h6,h7⟩=>by subst h1;subst h2;exact .cons (.lst (.inl (.inl h3)) h4) h7.reps
theorem NR.mem {K:M1}{J:Hp}{P:Nu->Prop}:∀{xs:List D}{vs:List V}{u:V},NR K J P xs vs->u∈vs->∃b ws,u=.ref b/\J b=some (.lst ws)/\P b
 | [],_,_,h,m=>by cases h;cases m
 | _::_,_,_,⟨ds,b,ws,us,h1,h2,h3,h4,h5,h6,h7⟩,m=>by
  subst h2;rcases Nj.mp m with e | e
  ·exact ⟨b,ws,e,h3,h5⟩
  ·exact h7.mem e
structure Exc where
 cls:Str
 ns:List Str
 ds:List D
inductive M (α:Type) where
 | bad | ok (a:α) | exc (x:Exc)
noncomputable def M.bind {α β:Type}:M α->(α->M β)->M β
 | .bad,_=>.bad
 | .ok a,f=>f a
 | .exc x,_=>.exc x
instance:Monad M where
 pure:=M.ok
 bind:=M.bind
@[simp] theorem aS {α β:Type}(a:α) (f:α->M β):(M.ok a >>= f)=f a:=rfl
noncomputable def bR {α:Type}(m:M α) (Q:α->Prop) (T:Exc->Prop):Prop:=match m with
 | .bad=>False
 | .ok a=>Q a
 | .exc x=>T x
theorem aL {α β:Type}{m:M α}{f:α->M β}{Q:β->Prop}{T:Exc->Prop}(h:bR (m >>= f) Q T):bR m (λa=>bR (f a) Q T) T:=by
 cases m with
 | bad=>exact h
 | ok a=>exact h
 | exc x=>exact h
theorem aC {α:Type}{m:M α}{Q Q':α->Prop}{T:Exc->Prop}(h:bR m Q T) (k:∀a,Q a->Q' a):bR m Q' T:=by
 cases m with
 | bad=>exact h
 | ok a=>exact k a h
 | exc x=>exact h
inductive Md where
 | fresh | own | bor
inductive R where
 | d (x:D) | l (m:Md) (xs:List D)
  | mo (ks vs:List D) | mb (ks vs:List D) | mf (ks vs:List D)
  | ln (xs:List D)
inductive S where
 | d (x:D) | own (xs:List D) | bor (xs:List D) | dk (ks vs:List D) | db (ks vs:List D)
  | fn (x:Str)
  | ow2 (xs:List D)
noncomputable abbrev Ev:=List (Option S)
inductive Mn where
 | inl (xs:List D) | inr (p:List D×List D) | nst (xs:List D)
noncomputable def mS:Mn->S
 | .inl xs=>.own xs
 | .inr p=>.dk p.1 p.2
 | .nst xs=>.ow2 xs
structure C where
 K:M1
 H0:Hp
 J0:Hp
 T:Exc->Prop
structure HI (c:C) (J H:Hp):Prop where
 sub:aG J H
 ent:aG c.H0 H
 entJ:aG c.J0 J
 frz:∀a,c.H0 a≠none->c.J0 a=none->J a=none
structure Ext (J H J' H':Hp):Prop where
 h:aG H H'
 j:aG J J'
 sub:aG J' H'
 frz:∀a,H a≠none->J a=none->J' a=none
theorem aG.ne {H H':Hp}(e:aG H H') (h:H a≠none):H' a≠none:=by
 cases q:H a with
 | none=>exact absurd q h
 | some o=>rw [e a o q];intro z;cases z
theorem Ext.refl {J H:Hp}(h:aG J H):Ext J H J H:=⟨aG.refl H,aG.refl J,h,λ_ _ q=>q⟩
theorem Ext.trans {J H J1 H1 J2 H2:Hp}(a:Ext J H J1 H1) (b:Ext J1 H1 J2 H2):Ext J H J2 H2:=
 ⟨a.h.trans b.h,a.j.trans b.j,b.sub,λp h q=>b.frz p (aG.ne a.h h) (a.frz p h q)⟩
theorem HI.ext {J H J' H':Hp}(h:HI c J H) (e:Ext J H J' H'):HI c J' H':=
 ⟨e.sub,h.ent.trans e.h,h.entJ.trans e.j,λa h0 j0=>e.frz a (aG.ne h.ent h0) (h.frz a h0 j0)⟩
theorem bL {H:Hp}(h:H p=none) (o:HO):aG H (upd H p o):=λb u q=>by rw [aQ (c8 q h)];exact q
theorem Ext.new {J H:Hp}(h:aG J H) (e:H p=none) (o:HO):Ext J H J (upd H p o):=
 ⟨bL e o,aG.refl J,λb u q=>bL e o b u (h b u q),λ_ _ q=>q⟩
theorem Ext.newJ {J H:Hp}(h:aG J H) (e:H p=none) (o:HO):Ext J H (upd J p o) (upd H p o):=
 ⟨bL e o,bL (h.free e) o,λb u q=>by
  by_cases hb:b=p
  ·subst hb;rw [bz] at q ⊢;exact q
  ·rw [aQ hb] at q ⊢;exact h b u q,λa ha q=>by
  have:a≠p:=λz=>ha (z▸e);rw [aQ this];exact q⟩
noncomputable def om (c:C) (J H:Hp):S->V->Prop
 | .d x,v=>Rep c.K J x v
 | .own xs,v=>∃a vs,v=.ref a/\H a=some (.lst vs)/\J a=none/\c.H0 a=none/\az c.K J xs vs
 | .bor xs,v=>∃a vs,v=.ref a/\bN c.K c.H0 a vs/\az c.K J xs vs
 | .dk ks vs,v=>∃a,v=.ref a/\dD c.K J H a ks vs/\J a=none/\c.H0 a=none
 | .db ks vs,v=>∃a,v=.ref a/\dD c.K J c.H0 a ks vs
 | .fn x,v=>∃f,v=.ref f/\OD c.K NT x=some (some (.ref f))
 | .ow2 xs,v=>∃a vs,v=.ref a/\H a=some (.lst vs)/\J a=none/\c.H0 a=none/\NR c.K J (λb=>c.H0 b=none/\c.J0 b=none) xs vs
theorem om.ext {c:C}{J H J' H':Hp}(e:Ext J H J' H'):∀{x:S}{v:V},om c J H x v->om c J' H' x v
 | .d x,v,h=>Rep.mono e.j h
 | .own xs,v,⟨a,vs,h1,h2,h3,h4,h5⟩=>⟨a,vs,h1,e.h _ _ h2,e.frz a (by rw [h2];intro z;cases z) h3,h4,az.mono e.j h5⟩
 | .bor xs,v,⟨a,vs,h1,h2,h3⟩=>⟨a,vs,h1,h2,az.mono e.j h3⟩
 | .dk _ _,v,⟨a,h1,h2,h3,h4⟩=>⟨a,h1,h2.mono e.j e.h,e.frz a h2.ne h3,h4⟩
 | .db _ _,v,⟨a,h1,h2⟩=>⟨a,h1,h2.mono e.j (aG.refl _)⟩
 | .fn _,v,h=>h
 | .ow2 _,v,⟨a,vs,h1,h2,h3,h4,h5⟩=>⟨a,vs,h1,e.h _ _ h2,e.frz a (by rw [h2];intro z;cases z) h3,h4,h5.mono e.j λ_ h=>h⟩
noncomputable def gA (H:Hp) (σ:L2.St) (i:Nat):List V:=match σ[i]? with
 | some (some (.ref p))=>(match H p with
  | some (.lst vs)=>vs
  | _=>[])
 | _=>[]
theorem je {H:Hp}{σ:L2.St}{i:Nat}{p:Nu}{vs:List V}(h:σ[i]?=some (some (.ref p))) (h2:H p=some (.lst vs)):gA H σ i=vs:=by
 unfold gA;rw [h];show (match H p with
  | some (.lst vs)=>vs
  | _=>[])=vs
 rw [h2]
noncomputable def t6 (H:Hp) (σ:L2.St) (env:Ev):Prop:=∀(i j:Nat) (xs ys:List D),i≠j->env[i]?=some (some (.ow2 xs))->env[j]?=some (some (.ow2 ys))->∀u∈gA H σ i,u∉gA H σ j
theorem nk {H:Hp}{σ:L2.St}{i k:Nat}{v:Option V}(h:k≠i):gA H (σ.set i v) k=gA H σ k:=by unfold gA;rw [NY (P6 h)]
theorem t6.by {H H':Hp}{σ σ':L2.St}{env env':Ev}(h:t6 H σ env) (f:Nat->Nat) (hf:∀i j xs ys,i≠j->env'[i]?=some (some (.ow2 xs))->env'[j]?=some (some (.ow2 ys))->f i≠f j) (k:∀i xs,env'[i]?=some (some (.ow2 xs))->(∃xs',env[f i]?=some (some (.ow2 xs')))/\gA H' σ' i=gA H σ (f i)):t6 H' σ' env':=by intro i j xs ys hij h1 h2 u hu;obtain ⟨⟨xs',k1⟩,k2⟩:=k i xs h1;obtain ⟨⟨ys',k3⟩,k4⟩:=k j ys h2;rw [k4];rw [k2] at hu;exact h (f i) (f j) xs' ys' (hf i j xs ys hij h1 h2) k1 k3 u hu
theorem t6.keep {H H':Hp}{σ σ':L2.St}{env env':Ev}(h:t6 H σ env) (k:∀i xs,env'[i]?=some (some (.ow2 xs))->(∃xs',env[i]?=some (some (.ow2 xs')))/\gA H' σ' i=gA H σ i):t6 H' σ' env':=h.by id (λ_ _ _ _ h _ _=>h) k
structure SR (c:C) (J H:Hp) (σ:L2.St) (env:Ev):Prop where
 hp:HI c J H
 len:env.length=σ.length
 at_:∀(i:Nat) (x:S),env[i]?=some (some x)->∃v,σ[i]?=some (some v)/\om c J H x v
 sep:∀(i j:Nat) (xs ys:Mn) (v:V),i≠j->env[i]?=some (some (mS xs))->env[j]?=some (some (mS ys))->σ[i]?=some (some v)->σ[j]?≠some (some v)
 sp2:t6 H σ env
theorem SR.nst {c:C}{J H:Hp}{σ:L2.St}{env:Ev}(h:SR c J H σ env){i:Nat}{xs:List D}(q:env[i]?=some (some (.ow2 xs))):∃p vs,σ[i]?=some (some (.ref p))/\H p=some (.lst vs)/\J p=none/\c.H0 p=none/\NR c.K J (λb=>c.H0 b=none/\c.J0 b=none) xs vs/\gA H σ i=vs:=by obtain ⟨_,h1,p,vs,rfl,h2,h3⟩:=h.at_ i _ q;exact ⟨p,vs,h1,h2,h3.1,h3.2.1,h3.2.2,je h1 h2⟩
theorem SR.ext {J H J' H':Hp}(h:SR c J H σ env) (e:Ext J H J' H'):SR c J' H' σ env:=
 ⟨h.hp.ext e,h.len,λi x q=>let ⟨v,q1,q2⟩:=h.at_ i x q;⟨v,q1,q2.ext e⟩,h.sep,h.sp2.keep λi xs q=>⟨⟨xs,q⟩,let ⟨_,_,h1,h2,_,_,_,h3⟩:=h.nst q;h3▸je h1 (e.h _ _ h2)⟩⟩
theorem SR.mine {c:C}{J H:Hp}{σ:L2.St}{env:Ev}(sr:SR c J H σ env){i:Nat}:∀{x:Mn},env[i]?=some (some (mS x))->∃p,σ[i]?=some (some (.ref p))/\H p≠none/\J p=none/\c.H0 p=none
 | .inl xs,h=>let ⟨_,k1,p,vs,e,k2,k3,k4,_⟩:=sr.at_ i (.own xs) h;⟨p,e▸k1,by rw [k2];exact λz=>(by cases z),k3,k4⟩
 | .inr q,h=>let ⟨_,k1,p,e,k2,k3,k4⟩:=sr.at_ i (.dk q.1 q.2) h;⟨p,e▸k1,k2.ne,k3,k4⟩
 | .nst xs,h=>let ⟨p,vs,k1,k2,k3,k4,_⟩:=sr.nst h;⟨p,k1,by rw [k2];exact λz=>(by cases z),k3,k4⟩
noncomputable def RR (c:C) (He J H:Hp):R->V->Prop
 | .d x,v=>Rep c.K J x v
 | .l .fresh xs,v=>∃a vs,v=.ref a/\H a=some (.lst vs)/\J a=none/\He a=none/\az c.K J xs vs
 | .l .own xs,v=>∃a vs,v=.ref a/\H a=some (.lst vs)/\J a=none/\c.H0 a=none/\az c.K J xs vs
 | .l .bor xs,v=>∃a vs,v=.ref a/\bN c.K c.H0 a vs/\az c.K J xs vs
 | .mo ks vs,v=>∃a,v=.ref a/\dD c.K J H a ks vs/\J a=none/\c.H0 a=none
 | .mb ks vs,v=>∃a,v=.ref a/\dD c.K J c.H0 a ks vs
 | .mf ks vs,v=>∃a,v=.ref a/\dD c.K J H a ks vs/\J a=none/\He a=none
 | .ln xs,v=>∃a vs,v=.ref a/\H a=some (.lst vs)/\J a=none/\He a=none/\NR c.K J (λb=>He b=none) xs vs
theorem RR.ext {c:C}{He J H J' H':Hp}(e:Ext J H J' H'):∀{x:R}{v:V},RR c He J H x v->RR c He J' H' x v
 | .d x,v,h=>Rep.mono e.j h
 | .l .fresh xs,v,⟨a,vs,h1,h2,h3,h4,h5⟩=>⟨a,vs,h1,e.h _ _ h2,e.frz a (by rw [h2];intro z;cases z) h3,h4,az.mono e.j h5⟩
 | .l .own xs,v,⟨a,vs,h1,h2,h3,h4,h5⟩=>⟨a,vs,h1,e.h _ _ h2,e.frz a (by rw [h2];intro z;cases z) h3,h4,az.mono e.j h5⟩
 | .l .bor xs,v,⟨a,vs,h1,h2,h3⟩=>⟨a,vs,h1,h2,az.mono e.j h3⟩
 | .mo _ _,v,⟨a,h1,h2,h3,h4⟩=>⟨a,h1,h2.mono e.j e.h,e.frz a h2.ne h3,h4⟩
 | .mb _ _,v,⟨a,h1,h2⟩=>⟨a,h1,h2.mono e.j (aG.refl _)⟩
 | .mf _ _,v,⟨a,h1,h2,h3,h4⟩=>⟨a,h1,h2.mono e.j e.h,e.frz a h2.ne h3,h4⟩
 | .ln _,v,⟨a,vs,h1,h2,h3,h4,h5⟩=>⟨a,vs,h1,e.h _ _ h2,e.frz a (by rw [h2];intro z;cases z) h3,h4,h5.mono e.j λ_ h=>h⟩
theorem RR.from {c:C}{He He' J H:Hp}(e:aG He He'):∀{x:R}{v:V},RR c He' J H x v->RR c He J H x v
 | .d x,v,h=>h
 | .l .fresh xs,v,⟨a,vs,h1,h2,h3,h4,h5⟩=>⟨a,vs,h1,h2,h3,e.free h4,h5⟩
 | .l .own xs,v,h=>h
 | .l .bor xs,v,h=>h
 | .mo _ _,v,h=>h
 | .mb _ _,v,h=>h
 | .mf _ _,v,⟨a,h1,h2,h3,h4⟩=>⟨a,h1,h2,h3,e.free h4⟩
 | .ln _,v,⟨a,vs,h1,h2,h3,h4,h5⟩=>⟨a,vs,h1,h2,h3,e.free h4,h5.mono (aG.refl _) λ_ h=>e.free h⟩
noncomputable def jw:R->M (List D)
 | .d (.lst xs)=>.ok xs
 | .l _ xs=>.ok xs
 | _=>.bad
noncomputable def toD:R->M D
 | .d x=>.ok x
 | .l .fresh xs=>.ok (.lst xs)
 | .mf ks vs=>.ok (.dct ks vs)
 | .ln xs=>.ok (.lst xs)
 | _=>.bad
theorem RR.list {c:C}{He J H:Hp}(hp:HI c J H):∀{r:R}{v:V}{xs:List D},RR c He J H r v->jw r=.ok xs->∃a vs,v=.ref a/\bN c.K H a vs/\az c.K J xs vs
 | .d (.lst ys),v,xs,h,e=>by
  cases e;cases h with
  | lst h hs=>exact ⟨_,_,rfl,hp.sub.seq h,hs⟩
 | .l .fresh ys,v,xs,⟨a,vs,h1,h2,h3,h4,h5⟩,e=>by cases e;exact ⟨a,vs,h1,bN.of h2,h5⟩
 | .l .own ys,v,xs,⟨a,vs,h1,h2,h3,h4,h5⟩,e=>by cases e;exact ⟨a,vs,h1,bN.of h2,h5⟩
 | .l .bor ys,v,xs,⟨a,vs,h1,h2,h3⟩,e=>by cases e;exact ⟨a,vs,h1,hp.ent.seq h2,h3⟩
 | .d .non,_,_,_,e=>nomatch e
 | .d (.bl _),_,_,_,e=>nomatch e
 | .d (.int _),_,_,_,e=>nomatch e
 | .d (.str _),_,_,_,e=>nomatch e
 | .d (.tup _),_,_,_,e=>nomatch e
 | .d .emp,_,_,_,e=>nomatch e
 | .d (.dct _ _),_,_,_,e=>nomatch e
 | .mo _ _,_,_,_,e=>nomatch e
 | .mb _ _,_,_,_,e=>nomatch e
 | .mf _ _,_,_,_,e=>nomatch e
 | .ln _,_,_,_,e=>nomatch e
theorem qH {Je He J H:Hp}(x:Ext Je He J H) (h2:H a=some o) (h3:J a=none) (h4:He a=none):Ext Je He (upd J a o) H:=by
 refine ⟨x.h,x.j.trans (bL h3 _),λb u q=>?_,λb hb q=>?_⟩
 ·by_cases hb:b=a
  ·subst hb;rw [bz] at q;cases q;exact h2
  ·rw [aQ hb] at q;exact x.sub b u q
 ·have:b≠a:=λz=>hb (z▸h4);rw [aQ this];exact x.frz b hb q
theorem freeze {c:C}{Je He J H:Hp}(x:Ext Je He J H):∀{r:R}{v:V}{d:D},RR c He J H r v->toD r=.ok d->∃J',Ext Je He J' H/\aG J J'/\Rep c.K J' d v
 | .d y,v,d,h,e=>by cases e;exact ⟨J,x,aG.refl J,h⟩
 | .l .fresh ys,v,d,⟨a,vs,h1,h2,h3,h4,h5⟩,e=>by cases e;subst h1;exact ⟨_,qH x h2 h3 h4,bL h3 _,.lst (.inl (.inl bz)) (az.mono (bL h3 _) h5)⟩
 | .mf ks vs,v,d,⟨a,h1,⟨us,ws,ep,h2,m1,m2,m3⟩,h3,h4⟩,e=>by cases e;subst h1;exact ⟨_,qH x h2 h3 h4,bL h3 _,.dct bz (m1.mono (bL h3 _)) (m2.mono (bL h3 _)) m3.1 m3.2⟩
 | .ln ys,v,d,⟨a,vs,h1,h2,h3,h4,h5⟩,e=>by cases e;subst h1;exact ⟨_,qH x h2 h3 h4,bL h3 _,.lst (.inl (.inl bz)) (h5.reps.mono (bL h3 _))⟩
 | .l .own _,_,_,_,e=>nomatch e
 | .l .bor _,_,_,_,e=>nomatch e
 | .mo _ _,_,_,_,e=>nomatch e
 | .mb _ _,_,_,_,e=>nomatch e
noncomputable abbrev G (α:Type):=Ev->M α
noncomputable def tD (c:C) (g:G R):TE:=λσ H Q=>∃J env,SR c J H σ env/\bR (g env) (λr=>∀v J' H',Ext J H J' H'->RR c H J' H' r v->Q v H') c.T
noncomputable def PD (X:Cx) (c:C) (e:N9) (g:G R):Prop:=PE X e (tD c g)
noncomputable def tB (c:C) (g:G Bool):TT:=λσ H Q=>∃J env,SR c J H σ env/\bR (g env) (λb=>∀J' H',Ext J H J' H'->Q b H') c.T
noncomputable def PB (X:Cx) (c:C) (e:N9) (g:G Bool):Prop:=PT X e (tB c g)
noncomputable def i7 (c:C) (He J H:Hp):List R->List V->Prop
 | [],vs=>vs=[]
 | r::rs,vs=>∃v us,vs=v::us/\RR c He J H r v/\i7 c He J H rs us
noncomputable def tA (c:C) (g:G (List R)):TA:=λσ H Q=>∃J env,SR c J H σ env/\bR (g env) (λrs=>∀vs J' H',Ext J H J' H'->i7 c H J' H' rs vs->Q vs H') c.T
noncomputable def Dh (X:Cx) (c:C) (es:List N9) (g:G (List R)):Prop:=PA X es (tA c g)
noncomputable def KL (c:C) (g:G (List D)):TA:=λσ H Q=>∃J env,SR c J H σ env/\bR (g env) (λds=>∀vs J' H',Ext J H J' H'->az c.K J' ds vs->Q vs H') c.T
noncomputable def Ky (X:Cx) (c:C) (es:List N9) (g:G (List D)):Prop:=PA X es (KL c g)
inductive O where
 | nx (e:Ev) | rt (r:R) | bk (e:Ev) | ct (e:Ev)
noncomputable def RF (c:C) (J H:Hp):R->V->Prop
 | .d x,v=>Rep c.K J x v
 | .l _ xs,v=>∃a vs,v=.ref a/\H a=some (.lst vs)/\J a=none/\c.H0 a=none/\az c.K J xs vs
 | .mf ks vs,v=>∃a,v=.ref a/\dD c.K J H a ks vs/\J a=none/\c.H0 a=none
 | .ln xs,v=>∃a vs,v=.ref a/\H a=some (.lst vs)/\J a=none/\c.H0 a=none/\NR c.K J (λb=>c.H0 b=none) xs vs
 | _,_=>False
noncomputable def oP (c:C) (J:Hp) (E:Ends):O->Prop
 | .nx e=>∀σ' J' H',aG J J'->SR c J' H' σ' e->E.nx σ' H'
 | .rt r=>∀v J' H',aG J J'->HI c J' H'->RF c J' H' r v->E.rt v H'
 | .bk e=>∀σ' J' H',aG J J'->SR c J' H' σ' e->E.bk σ' H'
 | .ct e=>∀σ' J' H',aG J J'->SR c J' H' σ' e->E.ct σ' H'
noncomputable def tS (c:C) (g:G O):TS:=λE σ H=>∃J env,SR c J H σ env/\bR (g env) (oP c J E) c.T
noncomputable def Jj (X:Cx) (c:C) (st:RB) (g:G O):Prop:=PS X st (tS c g)
noncomputable def FY (X:Cx) (c:C) (st:List RB) (g:G O):Prop:=iI X st (tS c g)
theorem oP.mono {c:C}{J J1:Hp}{E:Ends}(e:aG J J1):∀{o:O},oP c J E o->oP c J1 E o
 | .nx _,h=>λσ' J' H' q r=>h σ' J' H' (e.trans q) r
 | .rt _,h=>λσ' J' H' q r=>h σ' J' H' (e.trans q) r
 | .bk _,h=>λσ' J' H' q r=>h σ' J' H' (e.trans q) r
 | .ct _,h=>λσ' J' H' q r=>h σ' J' H' (e.trans q) r
noncomputable def tW (c:C) (g:G O):TS:=λE σ H=>∃J env,SR c J H σ env/\bR (g env) (oP c c.J0 E) c.T
theorem Ja {c:C}{g:G O}{E:Ends}{σ:L2.St}{H:Hp}(h:tW c g E σ H):tS c g E σ H:=by obtain ⟨J,env,sr,w⟩:=h;exact ⟨J,env,sr,aC w λo q=>q.mono sr.hp.entJ⟩
theorem gc {t t':TE}(h:PE X e t) (k:∀σ H Q,t' σ H Q->t σ H Q):PE X e t':=λMQ s σ H Q I q=>h MQ s σ H Q I (k σ H Q q)
theorem yV (h:PT X e t) (k:∀σ H Q,t' σ H Q->t σ H Q):PT X e t':=λMQ s σ H Q I q=>h MQ s σ H Q I (k σ H Q q)
theorem tM (h:PA X es t) (k:∀σ H Q,t' σ H Q->t σ H Q):PA X es t':=λpos MQ s σ H Q I q=>h pos MQ s σ H Q I (k σ H Q q)
theorem jF {st:RB}{t t':TS}(h:PS X st t) (k:∀D σ H,t' D σ H->t D σ H):PS X st t':=λMQ s σ H D I q=>h MQ s σ H D I (k D σ H q)
theorem vz {st:List RB}{t t':TS}(h:iI X st t) (k:∀D σ H,t' D σ H->t D σ H):iI X st t':=λMQ s σ H D I q=>h MQ s σ H D I (k D σ H q)
section
variable {X:Cx}{c:C}{e a b:N9}{ga gb:G R}{pos:Pos}
noncomputable def S.rd:S->M R
 | .d x=>.ok (.d x)
 | .own xs=>.ok (.l .own xs)
 | .bor xs=>.ok (.l .bor xs)
 | .dk ks vs=>.ok (.mo ks vs)
 | .db ks vs=>.ok (.mb ks vs)
 | .fn _=>.bad
 | .ow2 xs=>.ok (.l .own xs)
noncomputable def af (i:Nat):G R:=λenv=>match env[i]? with
 | some (some x)=>x.rd
 | _=>.bad
theorem EV (h:PE X (.Name x pos) (HP i)):PD X c (.Name x pos) (af i):=gc h λσ H Q ⟨J,env,sr,w⟩=>by
 unfold af at w;cases q:env[i]? with
 | none=>rw [q] at w;exact w.elim
 | some o=>
  cases o with
  | none=>rw [q] at w;exact w.elim
  | some x=>
   rw [q] at w;obtain ⟨v,h1,h2⟩:=sr.at_ i x q;refine ⟨v,h1,?_⟩;cases x with
   | fn _=>exact w.elim
   | ow2 _=>obtain ⟨a,vs,k1,k2,k3,k4,k5⟩:=h2;exact w v J H (Ext.refl sr.hp.sub) ⟨a,vs,k1,k2,k3,k4,k5.reps⟩
   | _=>exact w v J H (Ext.refl sr.hp.sub) h2
noncomputable def gC (d:D):G R:=λ_=>.ok (.d d)
theorem tN (hr:∀J,Rep c.K J d v) (h:PE X e (tC v)):PD X c e (gC d):=gc h λσ H Q ⟨J,env,sr,w⟩=>w v J H (Ext.refl sr.hp.sub) (hr J)
noncomputable def BD (c:C) (r:R2) (f:R->R->M R):Prop:=∀(He He' J H:Hp) (x y:R) (u v:V) (Q:VK),HI c J H->RR c He J H x u->RR c He' J H y v->
 bR (f x y) (λz=>∀w J' H',Ext J H J' H'->RR c H J' H' z w->Q w H') c.T->r u v H Q
noncomputable def g2 (f:R->R->M R) (ga gb:G R):G R:=λenv=>ga env >>= λx=>gb env >>= λy=>f x y
theorem two {P:R->R->M R}{σ:L2.St}{H:Hp}{k:V->V->Hp->Prop}{Q:VK}{J:Hp}{env:Ev}(sr:SR c J H σ env)
  (w:bR (g2 P ga gb env) (λr=>∀v J' H',Ext J H J' H'->RR c H J' H' r v->Q v H') c.T)
  (hk:∀x y u v J2 H2,SR c J2 H2 σ env->Ext J H J2 H2->RR c H J2 H2 x u->RR c H J2 H2 y v->bR (P x y) (λz=>∀w J' H',Ext J2 H2 J' H'->RR c H2 J' H' z w->Q w H') c.T->k u v H2):
  tD c ga σ H λu H1=>tD c gb σ H1 λv H2=>k u v H2:=by refine ⟨J,env,sr,aC (aL w) λx wx u J1 H1 e1 r1=>?_⟩;have sr1:=sr.ext e1;refine ⟨J1,env,sr1,aC (aL wx) λy wy v J2 H2 e2 r2=>?_⟩;exact hk x y u v J2 H2 (sr1.ext e2) (e1.trans e2) (r1.ext e2) (RR.from e1.h r2) (aC wy λz q w J' H' e3 r3=>q w J' H' ((e1.trans e2).trans e3) (RR.from (e1.h.trans e2.h) r3))
theorem Cs {t:TE}{f:R->R->M R}(ht:PE X e t) (heq:t=Bg r (tD c ga) (tD c gb)) (hf:BD c r f):PD X c e (g2 f ga gb):=by subst heq;exact gc ht λσ H Q ⟨J,env,sr,w⟩=>two (k:=λu v H2=>r u v H2 Q) sr w λx y u v J2 H2 sr2 e2 r1 r2 q=>hf H H J2 H2 x y u v Q sr2.hp r1 r2 q
theorem kY {f:R->R->M R}(ho:dc X (Q9 op) r) (hf:BD c r f) (ha:PD X c a ga) (hb:PD X c b gb):PD X c (.BinOp a op b pos) (g2 f ga gb):=Cs (ID ho ha hb) rfl hf
theorem AR {f:R->R->M R}(ho:dc X (Qj op) r) (hf:BD c r f) (ha:PD X c a ga) (hb:PD X c b gb) (hm:Pg op b=false:=by first | exact vg _ | rfl):PD X c (.Compare a [op] [b] pos) (g2 f ga gb):=Cs (EY ho ha hb hm) rfl hf
theorem DK {f:R->R->M R}(ho:lQ X r) (hf:BD c r f) (ha:PD X c a ga) (hb:PD X c b gb) (hs:nc b:=by exact λ_ _=>rfl):PD X c (.Subscript a b pos) (g2 f ga gb):=Cs (IB ho ha hb hs) rfl hf
theorem BD.or {r r':R2}{f f':R->R->M R}(p:R->R->Bool) (h:BD c r f) (h':BD c r' f'):BD c (λx y H Q=>r x y H Q\/r' x y H Q) (λx y=>if p x y then f x y else f' x y):=by
 intro He He' J H x y u v Q hp rx ry w;simp only at w;cases q:p x y with
 | true=>rw [q] at w;exact .inl (h He He' J H x y u v Q hp rx ry w)
 | false=>rw [q] at w;exact .inr (h' He He' J H x y u v Q hp rx ry w)
noncomputable def fI (C:Int->Int->Bool) (f:Int->Int->D):R->R->M R
 | .d (.int i),.d (.int j)=>if C i j then .ok (.d (f i j)) else .bad
 | _,_=>.bad
noncomputable def l6 (f:Int->Int->D):R->R->M R
 | .d (.int i),.d (.int j)=>.ok (.d (f i j))
 | _,_=>.bad
theorem yj {P:Int->Int->Prop}{Cb:Int->Int->Bool}{g:Int->Int->V}{f:Int->Int->D}(hC:∀i j,Cb i j=true->P i j) (hr:∀i j J,Rep c.K J (f i j) (g i j)):BD c (rI P g) (fI Cb f):=by
 intro He He' J H x y u v Q hp rx ry w;unfold fI at w;split at w
 ·cases rx;cases ry;rename_i i j;cases q:Cb i j with
  | true=>rw [q] at w;exact ⟨i,j,rfl,rfl,hC i j q,w _ J H (Ext.refl hp.sub) (hr i j J)⟩
  | false=>rw [q] at w;exact w.elim
 ·exact w.elim
theorem jx {g:Int->Int->V}{f:Int->Int->D}(hr:∀i j J,Rep c.K J (f i j) (g i j)):BD c (nV g) (l6 f):=by
 intro He He' J H x y u v Q hp rx ry w;unfold l6 at w;split at w
 ·cases rx;cases ry;rename_i i j;exact ⟨i,j,rfl,rfl,w _ J H (Ext.refl hp.sub) (hr i j J)⟩
 ·exact w.elim
noncomputable def below (n:Nat) (j:Int):Bool:=Nat.blt j.natAbs n
theorem dg:below n j=true↔-(n:Int) < j/\j < n:=by unfold below;rw [Nat.blt_eq];omega
noncomputable def yJ (_ j:Int):Bool:=decide (0 < j) && below 1073741824 j
noncomputable def GB (_ j:Int):Bool:=decide (0 < j)
noncomputable def uU (i j:Int):Bool:=below 18446744073709551616 i || below 18446744073709551616 j
theorem Ez (h:uU i j=true):(-(2 ^ 64) < i/\i < 2 ^ 64)\/(-(2 ^ 64) < j/\j < 2 ^ 64):=by unfold uU at h;rw [P0] at h;exact h.imp dg.mp dg.mp
theorem Ey (h:yJ i j=true):0 < j/\j < 1073741824:=by unfold yJ at h;rw [M8] at h;exact ⟨of_decide_eq_true h.1,(dg.mp h.2).2⟩
noncomputable def B7 (i j:Int):Bool:=decide (0<=j) && below 1000001 j && below 18446744073709551616 i
theorem EA {i j:Int}(h:B7 i j=true):0<=j/\j<=1000000/\i.natAbs < 2 ^ 64:=by unfold B7 at h;rw [M8,M8] at h;have h2:=dg.mp h.1.2;have h3:=dg.mp h.2;exact ⟨of_decide_eq_true h.1.1,by omega,by omega⟩
noncomputable abbrev BV:R->R->M R:=l6 λi j=>.int (i + j)
noncomputable abbrev Gm:R->R->M R:=l6 λi j=>.int (i - j)
noncomputable abbrev Gj:R->R->M R:=fI uU λi j=>.int (i * j)
noncomputable abbrev eO:R->R->M R:=fI yJ λi j=>.int (i / j)
noncomputable abbrev cM:R->R->M R:=fI GB λi j=>.int (i % j)
noncomputable abbrev Gk:R->R->M R:=fI B7 λi j=>.int (i ^ j.toNat)
noncomputable def pD:R->R->M R
 | .d (.str i),.d (.str j)=>if i.length + j.length<=sizeLine then .ok (.d (.str (i++j))) else .bad
 | _,_=>.bad
theorem Fp {K:M1}{J:Hp}{ds:List D}{vs:List V}{i:Int}{d:D}(h:az K J ds vs) (e:lD ds i=some d):∃v,lD vs i=some v/\Rep K J d v:=by
 unfold lD at e ⊢;rw [h.length] at e;cases q:xu vs.length i with
 | none=>rw [q] at e;cases e
 | some j=>rw [q] at e;exact h.get e
theorem qW {f:List D->M R}{Q:R->Prop}{T:Exc->Prop}(w:bR (jw x >>= f) Q T):∃xs,jw x=.ok xs/\bR (f xs) Q T:=by
 cases q:jw x with
 | bad=>rw [q] at w;exact w.elim
 | ok xs=>rw [q] at w;exact ⟨xs,rfl,w⟩
 | exc z=>unfold jw at q;split at q <;> cases q
noncomputable def uR:R->Bool
 | .l .fresh _=>true
 | .l .own _=>true
 | _=>false
noncomputable def pG (x y:R):M R:=if uR x && uR y then jw x >>= λxs=>jw y >>= λys=>if xs.length + ys.length<=sizeLine then .ok (.l .fresh (xs++ys)) else .bad else .bad
theorem RR.made {He J H:Hp}:∀{r:R}{v:V},uR r=true->RR c He J H r v->∃a vs xs,jw r=.ok xs/\v=.ref a/\H a=some (.lst vs)/\az c.K J xs vs
 | .l .fresh xs,v,_,⟨a,vs,h1,h2,h3,h4,h5⟩=>⟨a,vs,xs,rfl,h1,h2,h5⟩
 | .l .own xs,v,_,⟨a,vs,h1,h2,h3,h4,h5⟩=>⟨a,vs,xs,rfl,h1,h2,h5⟩
 | .l .bor _,_,e,_=>nomatch e
 | .mo _ _,_,e,_=>nomatch e
 | .mb _ _,_,e,_=>nomatch e
 | .mf _ _,_,e,_=>nomatch e
 | .ln _,_,e,_=>nomatch e
 | .d _,_,e,_=>nomatch e
theorem gU {J H:Hp}(hp:HI c J H) (e:H p=none) (h:az c.K J xs vs):RR c H J (upd H p (.lst vs)) (.l .fresh xs) (.ref p):=
 ⟨p,vs,rfl,bz,hp.sub.free e,e,h⟩
noncomputable def CD (c:C) (r:List V->Hp->VK->Prop) (f:List R->M R):Prop:=∀(He J H:Hp) (xs:List R) (vs:List V) (Q:VK),HI c J H->i7 c He J H xs vs->
 bR (f xs) (λz=>∀w J' H',Ext J H J' H'->RR c H J' H' z w->Q w H') c.T->r vs H Q
noncomputable def gN (f:List R->M R) (gs:G (List R)):G R:=λenv=>gs env >>= f
theorem yS {t:TE}{ta:TA}{r:List V->Hp->VK->Prop}{f:List R->M R}{gs:G (List R)}(ht:PE X e t) (heq:t=λσ H Q=>tA c gs σ H λvs H1=>r vs H1 Q) (hf:CD c r f):PD X c e (gN f gs):=by subst heq;refine gc ht λσ H Q ⟨J,env,sr,w⟩=>⟨J,env,sr,aC (aL w) λrs w vs J1 H1 e1 r1=>?_⟩;exact hf H J1 H1 rs vs Q (sr.hp.ext e1) r1 (aC w λz q v J' H' e2 r2=>q v J' H' (e1.trans e2) (RR.from e1.h r2))
noncomputable def aF:G (List R):=λ_=>.ok []
noncomputable def ao (g:G R) (gs:G (List R)):G (List R):=λenv=>g env >>= λx=>gs env >>= λxs=>.ok (x::xs)
theorem i7.from {He He' J H:Hp}(e:aG He He'):∀{xs:List R}{vs:List V},i7 c He' J H xs vs->i7 c He J H xs vs
 | [],_,h=>h
 | _::_,_,⟨v,us,h1,h2,h3⟩=>⟨v,us,h1,RR.from e h2,i7.from e h3⟩
theorem kX {id:String}{x:Str}{p:Pos}{es:List N9}{r:List V->Hp->VK->Prop}{f:List R->M R}{gs:G (List R)}(hc:bw X (.builtin id) r) (hf:CD c r f) (hv:OC x=some (.builtin id)) (hm:X.mg x=none) (ha:Dh X c (e::es) gs)
  (hg:autoParam (Gl X x) zA._auto_1) (hn:autoParam (x≠"__name__") zB._auto_1) (hdb:autoParam ((x == ("__debug__":Str))=false) zB._auto_1)
  (he:autoParam (Nl (e::es) X.env=(false,eval e X.env)::Nl es X.env) zA._auto_1) (hpl:autoParam ((Qw pos (Nl es X.env)).any (·.1)=false) zA._auto_1):PD X c (.Call (.Name x p) (e::es) [] pos) (gN f gs):=
 yS (ta:=vN) (kZ hc hg hm hv ha hn hdb he hpl) rfl hf
theorem AQ {r:List V->Hp->VK->Prop}{f:List R->M R}{gs:G (List R)}(hc:bw X (.type T) r) (hf:CD c r f) (hv:OC x=some (.type T)) (hm:X.mg x=none) (ha:Dh X c (e::es) gs)
 (hg:autoParam (Gl X x) zA._auto_1) (hn:autoParam (x≠"__name__") zB._auto_1) (hdb:autoParam ((x == ("__debug__":Str))=false) zB._auto_1)
 (he:autoParam (Nl (e::es) X.env=(false,eval e X.env)::Nl es X.env) zA._auto_1) (hpl:autoParam ((Qw pos (Nl es X.env)).any (·.1)=false) zA._auto_1):PD X c (.Call (.Name x p) (e::es) [] pos) (gN f gs):=
 yS (ta:=vN) (iD hc hg hm hv ha hn hdb he hpl) rfl hf
end
section
variable {X:Cx}{c:C}{e a b:N9}{es:List N9}{ga gb g:G R}{pos:Pos}
noncomputable def aX:G (List D):=λ_=>.ok []
noncomputable def aA (g:G R) (gs:G (List D)):G (List D):=λenv=>g env >>= λx=>toD x >>= λd=>gs env >>= λds=>.ok (d::ds)
theorem i6 {α:Type}{f:D->M α}{Q:α->Prop}{T:Exc->Prop}(w:bR (toD x >>= f) Q T):∃d,toD x=.ok d/\bR (f d) Q T:=by
 cases q:toD x with
 | bad=>rw [q] at w;exact w.elim
 | ok xs=>rw [q] at w;exact ⟨xs,rfl,w⟩
 | exc z=>unfold toD at q;split at q <;> cases q
noncomputable def bJ (gs:G (List D)):G R:=λenv=>gs env >>= λds=>if ds.length<=sizeLine then .ok (.d (.tup ds)) else .bad
noncomputable def gn (gs:G (List D)):G R:=λenv=>gs env >>= λds=>if ds.length<=sizeLine then .ok (.l .fresh ds) else .bad
theorem kB {J H:Hp}(hp:HI c J H) (e:H p=none) (h:az c.K J xs vs):Rep c.K (upd J p (.tup vs)) (.tup xs) (.ref p):=
 .tup (.inl (.inl bz)) (h.mono (bL (hp.sub.free e) _))
noncomputable def gW:R->M (List D)
 | .d (.tup xs)=>.ok xs
 | .d (.lst xs)=>.ok xs
 | .l _ xs=>.ok xs
 | _=>.bad
theorem ng {He J H:Hp}(hp:HI c J H):∀{r:R}{v:V}{xs:List D},RR c He J H r v->gW r=.ok xs->∃a vs,v=.ref a/\(bN c.K H a vs\/bT c.K H a vs)/\az c.K J xs vs
 | .d (.tup ys),v,xs,h,e=>by
  cases e;cases h with
  | tup h hs=>exact ⟨_,_,rfl,.inr (dQ hp.sub h),hs⟩
 | .d (.lst ys),v,xs,h,e=>let ⟨a,vs,h1,h2,h3⟩:=RR.list hp h e;⟨a,vs,h1,.inl h2,h3⟩
 | .l m ys,v,xs,h,e=>let ⟨a,vs,h1,h2,h3⟩:=RR.list hp h e;⟨a,vs,h1,.inl h2,h3⟩
 | .d .non,_,_,_,e=>nomatch e
 | .d (.bl _),_,_,_,e=>nomatch e
 | .d (.int _),_,_,_,e=>nomatch e
 | .d (.str _),_,_,_,e=>nomatch e
 | .d .emp,_,_,_,e=>nomatch e
 | .d (.dct _ _),_,_,_,e=>nomatch e
theorem iZ {α:Type}{f:List D->M α}{Q:α->Prop}{T:Exc->Prop}(w:bR (gW x >>= f) Q T):∃xs,gW x=.ok xs/\bR (f xs) Q T:=by
 cases q:gW x with
 | bad=>rw [q] at w;exact w.elim
 | ok xs=>rw [q] at w;exact ⟨xs,rfl,w⟩
 | exc z=>unfold gW at q;split at q <;> cases q
noncomputable def iG:List R->M R
 | [.d (.str z)]=>if z.length<=sizeLine then .ok (.d (.int z.length)) else .bad
 | [r]=>gW r >>= λxs=>.ok (.d (.int xs.length))
 | _=>.bad
theorem i7.one {He J H:Hp}(h:i7 c He J H [r] vs):∃v,vs=[v]/\RR c He J H r v:=by obtain ⟨v,us,rfl,h1,h2⟩:=h;cases h2;exact ⟨v,rfl,h1⟩
theorem i7.two {He J H:Hp}{r r':R}{vs:List V}(h:i7 c He J H [r,r'] vs):∃v v',vs=[v,v']/\RR c He J H r v/\RR c He J H r' v':=by obtain ⟨v,us,rfl,h1,v2,us2,rfl,h2,h3⟩:=h;cases h3;exact ⟨v,v2,rfl,h1,h2⟩
noncomputable def b_:List R->M R
 | [r]=>gW r >>= λxs=>.ok (.d (.tup xs))
 | _=>.bad
theorem vY:OC "tuple"=some (.type "tuple"):=by decide +kernel
theorem yp:OC "list"=some (.type "list"):=by decide +kernel
noncomputable def cI (g:G R):G Bool:=λenv=>g env >>= λr=>match r with
 | .d (.bl k)=>.ok k
 | _=>.bad
theorem mH {f:R->R->M R}(ho:dc X (Qj op) r) (hf:BD c r f) (ha:PD X c a ga) (hb:PD X c b gb) (hm:Pg op b=false:=by first | exact vg _ | rfl):PB X c (.Compare a [op] [b] pos) (cI (g2 f ga gb)):=
 yV (E7 ho ha hb hm) λσ H Q ⟨J,env,sr,w⟩=>by
  have w2:=aL w;refine two (k:=λu v H2=>r u v H2 λz H3=>∃k,z=.bl k/\Q k H3) (Q:=λz H3=>∃k,z=.bl k/\Q k H3) sr (aC w2 λr0 wr v J1 H1 e1 r1=>?_)
   λx y u v J2 H2 sr2 e2 r1 r2 q=>hf H H J2 H2 x y u v _ sr2.hp r1 r2 q
  split at wr
  ·cases r1;exact ⟨_,rfl,wr J1 H1 e1⟩
  ·exact wr.elim
noncomputable def i_ (g h:G Bool):G Bool:=λenv=>g env >>= λk=>if k=true then h env else .ok false
noncomputable def Kz (X:Cx) (c:C) (e:N9) (g:G Bool):Prop:=PW X e (tB c g)
variable {t u:G Bool}{MT:List N9}
theorem IG {X:Cx}{e:N9}{t t':TT}(h:PW X e t) (k:∀σ H Q,t' σ H Q->t σ H Q):PW X e t':=λwh MQ s σ H Q I q=>h wh MQ s σ H Q I (k σ H Q q)
noncomputable def kN (g h:G R):G R:=λenv=>g env >>= λr=>match r with
 | .d (.bl true)=>h env
 | .d (.bl false)=>.ok (.d (.bl false))
 | _=>.bad
end
section
variable {X:Cx}{c:C}{e a b tg:N9}{es:List N9}{ga gb g:G R}{pos:Pos}{st:RB}{MT:List RB}{t u:G O}{tb:G Bool}
noncomputable def fG:G O:=λenv=>.ok (.nx env)
noncomputable def aK (t u:G O):G O:=λenv=>t env >>= λo=>match o with
 | .nx e=>u e
 | o=>.ok o
noncomputable def yC (g:G R):G O:=λenv=>g env >>= λ_=>.ok (.nx env)
noncomputable def rF:R->M R
 | .d x=>.ok (.d x)
 | .l .fresh xs=>.ok (.l .fresh xs)
 | .l .own xs=>.ok (.l .fresh xs)
 | .l .bor _=>.bad
 | .mo ks vs=>.ok (.mf ks vs)
 | .mf ks vs=>.ok (.mf ks vs)
 | .mb _ _=>.bad
 | .ln xs=>.ok (.ln xs)
noncomputable def cg (g:G R):G O:=λenv=>g env >>= λr=>rF r >>= λr=>.ok (.rt r)
theorem RR.rf {J H J1 H1:Hp}(hp:HI c J H):∀{r r':R}{v:V},RR c H J1 H1 r v->rF r=.ok r'->RF c J1 H1 r' v
 | .d x,r',v,h,e=>by cases e;exact h
 | .l .fresh xs,r',v,⟨a,vs,h1,h2,h3,h4,h5⟩,e=>by cases e;exact ⟨a,vs,h1,h2,h3,hp.ent.free h4,h5⟩
 | .l .own xs,r',v,⟨a,vs,h1,h2,h3,h4,h5⟩,e=>by cases e;exact ⟨a,vs,h1,h2,h3,h4,h5⟩
 | .l .bor _,_,_,_,e=>nomatch e
 | .mo _ _,_,v,⟨a,h1,h2,h3,h4⟩,e=>by cases e;exact ⟨a,h1,h2,h3,h4⟩
 | .mb _ _,_,_,_,e=>nomatch e
 | .mf _ _,_,v,⟨a,h1,h2,h3,h4⟩,e=>by cases e;exact ⟨a,h1,h2,h3,hp.ent.free h4⟩
 | .ln _,_,v,⟨a,vs,h1,h2,h3,h4,h5⟩,e=>by cases e;exact ⟨a,vs,h1,h2,h3,hp.ent.free h4,h5.mono (aG.refl _) λ_ h=>hp.ent.free h⟩
noncomputable def cD (b:G Bool) (t u:G O):G O:=λenv=>b env >>= λk=>if k=true then t env else u env
noncomputable def toS:R->M S
 | .d x=>.ok (.d x)
 | .l .fresh xs=>.ok (.own xs)
 | .l .bor xs=>.ok (.bor xs)
 | .l .own _=>.bad
 | .mb ks vs=>.ok (.db ks vs)
 | .mf ks vs=>.ok (.dk ks vs)
 | .mo _ _=>.bad
 | .ln xs=>.ok (.ow2 xs)
theorem cQ {α:Type}{l:List (Option α)}{i j:Nat}{x y:α}(h:(l.set i (some x))[j]?=some (some y)):(j=i/\i < l.length/\y=x)\/(j≠i/\l[j]?=some (some y)):=by
 by_cases e:j=i
 ·subst e;have hj:j < l.length:=by have:=(Nr.mp h).1;simpa using this
  rw [Oj hj] at h;cases h;exact .inl ⟨rfl,hj,rfl⟩
 ·rw [NY (P6 e)] at h;exact .inr ⟨e,h⟩
theorem SR.setD {J H:Hp}{σ:L2.St}{env:Ev}(sr:SR c J H σ env){i:Nat}{x:S}{v:V}(h:om c J H x v) (hx:∀xs,x≠mS xs):SR c J H (σ.set i (some v)) (env.set i (some x)):=by
 refine ⟨sr.hp,by simpa using sr.len,λj y q=>?_,λj k xs ys w hjk q1 q2 q3 q4=>?_,sr.sp2.keep λk xs q=>?_⟩
 ·rcases cQ q with ⟨rfl,hl,rfl⟩ | ⟨hj,q⟩
  ·exact ⟨v,by rw [Oj (by rw [<-sr.len];exact hl)],h⟩
  ·obtain ⟨w,h1,h2⟩:=sr.at_ j y q;exact ⟨w,by rw [NY (P6 hj)];exact h1,h2⟩
 ·rcases cQ q1 with ⟨rfl,hl,e⟩ | ⟨hj,q1⟩
  ·exact hx xs e.symm
  ·rcases cQ q2 with ⟨rfl,hl,e⟩ | ⟨hk,q2⟩
   ·exact hx ys e.symm
   ·rw [NY (P6 hj)] at q3;rw [NY (P6 hk)] at q4;exact sr.sep j k xs ys w hjk q1 q2 q3 q4
 ·rcases cQ q with ⟨_,_,e⟩ | ⟨hk,q⟩
  ·exact (hx (.nst xs) e.symm).elim
  ·exact ⟨⟨xs,q⟩,nk hk⟩
theorem SR.setM {J He:Hp}{σ:L2.St}{env:Ev}(sr:SR c J He σ env){J1 H1:Hp}(e1:Ext J He J1 H1){i:Nat}{y:Mn}{p:Nu}(h3:He p=none) (h:om c J1 H1 (mS y) (.ref p)) (hn:∀xs,y=.nst xs->∀vs,H1 p=some (.lst vs)->∀u∈vs,∃b,u=.ref b/\He b=none:=by exact λ_ z=>nomatch z):SR c J1 H1 (σ.set i (some (.ref p))) (env.set i (some (mS y))):=by
 have sr1:=sr.ext e1;have old:∀(j:Nat) (ys:Mn),env[j]?=some (some (mS ys))->σ[j]?≠some (some (.ref p)):=λj ys qj z=>by obtain ⟨a,k1,k2,_⟩:=sr.mine qj;rw [z] at k1;cases k1;exact k2 h3
 have new:∀(j:Nat) (xs ys:List D),i < env.length->j≠i->mS y=.ow2 xs->env[j]?=some (some (.ow2 ys))->∀u∈gA H1 (σ.set i (some (.ref p))) i,u∉gA H1 (σ.set i (some (.ref p))) j:=λj xs ys hl hj e q u hu hv=>by
  have hy:y=.nst xs:=by cases y <;> cases e;rfl
  subst hy;obtain ⟨_,vs,rfl',k2,_⟩:=h;cases rfl';rw [je (Oj (by rw [<-sr.len];exact hl)) k2] at hu;obtain ⟨b,rfl,hb⟩:=hn xs rfl vs k2 u hu;obtain ⟨p',ws,m1,m2,_,_,m3,m4⟩:=sr.nst q;rw [nk hj,je m1 (e1.h _ _ m2)] at hv;obtain ⟨b',_,e',m5,_⟩:=m3.mem hv;cases e';rw [sr.hp.sub _ _ m5] at hb;cases hb
 refine ⟨sr1.hp,by simpa using sr.len,λj y q=>?_,λj k ys zs w hjk q1 q2 q3 q4=>?_,λj k ys zs hjk q1 q2 u hu=>?_⟩
 ·rcases cQ q with ⟨rfl,hl,rfl⟩ | ⟨hj,q⟩
  ·exact ⟨.ref p,by rw [Oj (by rw [<-sr.len];exact hl)],h⟩
  ·obtain ⟨w,k1,k2⟩:=sr1.at_ j y q;exact ⟨w,by rw [NY (P6 hj)];exact k1,k2⟩
 ·rcases cQ q1 with ⟨rfl,hl,e⟩ | ⟨hj,q1'⟩
  ·rcases cQ q2 with ⟨rfl,_,_⟩ | ⟨hk,q2⟩
   ·exact hjk rfl
   ·rw [Oj (by rw [<-sr.len];exact hl)] at q3;cases q3;rw [NY (P6 hk)] at q4;exact old k zs q2 q4
  ·rw [NY (P6 hj)] at q3;rcases cQ q2 with ⟨rfl,hl,e⟩ | ⟨hk,q2⟩
   ·rw [Oj (by rw [<-sr.len];exact hl)] at q4;cases q4;exact old j ys q1' q3
   ·rw [NY (P6 hk)] at q4;exact sr.sep j k ys zs w hjk q1' q2 q3 q4
 ·rcases cQ q1 with ⟨rfl,hl,e⟩ | ⟨hj,q1'⟩
  ·rcases cQ q2 with ⟨rfl,_,_⟩ | ⟨hk,q2⟩
   ·exact (hjk rfl).elim
   ·exact new k ys zs hl hk e.symm q2 u hu
  ·rcases cQ q2 with ⟨rfl,hl,e⟩ | ⟨hk,q2⟩
   ·exact λhv=>new j zs ys hl hj e.symm q1' u hv hu
   ·rw [nk hj] at hu;rw [nk hk];exact sr1.sp2 j k ys zs hjk q1' q2 u hu
theorem SR.set {J He:Hp}{σ:L2.St}{env:Ev}(sr:SR c J He σ env){J1 H1:Hp}(e1:Ext J He J1 H1) (h:RR c He J1 H1 r v) (q:toS r=.ok x):SR c J1 H1 (σ.set i (some v)) (env.set i (some x)):=by
 have sr1:=sr.ext e1;cases r with
 | d y=>cases q;exact sr1.setD h (λx z=>by cases x <;> cases z)
 | mb _ _=>cases q;exact sr1.setD h (λx z=>by cases x <;> cases z)
 | mf ks vs=>cases q;obtain ⟨p,rfl,h1,h2,h3⟩:=h;exact sr.setM (y:=.inr (ks,vs)) e1 h3 ⟨p,rfl,h1,h2,sr.hp.ent.free h3⟩
 | mo _ _=>cases q
 | ln xs=>
  cases q;obtain ⟨p,vs,rfl,h1,h2,h3,h4⟩:=h;refine sr.setM (y:=.nst xs) e1 h3 ⟨p,vs,rfl,h1,h2,sr.hp.ent.free h3,h4.mono (aG.refl _) λb hb=>⟨sr.hp.ent.free hb,sr.hp.entJ.free (sr.hp.sub.free hb)⟩⟩ λ_ _ ws q u hu=>?_;rw [h1] at q;cases q;obtain ⟨b,_,e,_,hb⟩:=h4.mem hu;exact ⟨b,e,hb⟩
 | l m xs=>
  cases m with
  | own=>cases q
  | bor=>cases q;exact sr1.setD h (λx z=>by cases x <;> cases z)
  | fresh=>
   cases q;obtain ⟨p,vs,rfl,h1,h2,h3,h4⟩:=h;exact sr.setM (y:=.inl xs) e1 h3 ⟨p,vs,rfl,h1,h2,sr.hp.ent.free h3,h4⟩
theorem xV {α:Type}{f:S->M α}{Q:α->Prop}{T:Exc->Prop}(w:bR (toS x >>= f) Q T):∃d,toS x=.ok d/\bR (f d) Q T:=by
 cases q:toS x with
 | bad=>rw [q] at w;exact w.elim
 | ok xs=>rw [q] at w;exact ⟨xs,rfl,w⟩
 | exc z=>unfold toS at q;split at q <;> cases q
noncomputable def aZ (i:Nat) (g:G R):G O:=λenv=>g env >>= λr=>toS r >>= λx=>.ok (.nx (env.set i (some x)))
noncomputable abbrev GT:=D->Ev->M Ev
noncomputable def KO (env:Ev) (σ:L2.St) (e:Ev) (σ':L2.St):Prop:=∀(j:Nat) (xs:Mn),e[j]?=some (some (mS xs))->env[j]?=some (some (mS xs))/\σ'[j]?=σ[j]?
theorem KO.refl:KO env σ env σ:=λ_ _ h=>⟨h,rfl⟩
theorem KO.trans (a:KO env σ e1 s1) (b:KO e1 s1 e2 s2):KO env σ e2 s2:=λj xs h=>by obtain ⟨h1,h2⟩:=b j xs h;obtain ⟨h3,h4⟩:=a j xs h1;exact ⟨h3,h2.trans h4⟩
noncomputable def tT (c:C) (g:GT):TG:=λv σ H Q=>∃J env d,SR c J H σ env/\Rep c.K J d v/\bR (g d env) (λe=>∀σ',SR c J H σ' e->KO env σ e σ'->Q σ' H) c.T
noncomputable def zC (X:Cx) (c:C) (tg:N9) (g:GT):Prop:=PG X tg (tT c g)
noncomputable abbrev oW:=List D->Ev->M Ev
noncomputable def KR (c:C) (g:oW):q_:=λvs σ H Q=>∃J env ds,SR c J H σ env/\az c.K J ds vs/\bR (g ds env) (λe=>∀σ',SR c J H σ' e->KO env σ e σ'->Q σ' H) c.T
noncomputable def Jy (X:Cx) (c:C) (tgs:List N9) (g:oW):Prop:=tY X tgs (KR c g)
theorem DM {t t':TG}(h:PG X e t) (k:∀v σ H Q,t' v σ H Q->t v σ H Q):PG X e t':=λMQ s σ H v u Q I r q=>h MQ s σ H v u Q I r (k v σ H Q q)
theorem AU {X:Cx}{e:List N9}{t t':q_}(h:tY X e t) (k:∀v σ H Q,t' v σ H Q->t v σ H Q):tY X e t':=λMQ s σ H vs us Q I r q=>h MQ s σ H vs us Q I r (k vs σ H Q q)
noncomputable def aE (i:Nat):GT:=λd env=>.ok (env.set i (some (.d d)))
noncomputable def cX:oW:=λds env=>match ds with
 | []=>.ok env
 | _=>.bad
noncomputable def aW (t:GT) (u:oW):oW:=λds env=>match ds with
 | d::r=>t d env >>= λe=>u r e
 | []=>.bad
noncomputable def cV (n:Nat) (u:oW):GT:=λd env=>match d with
 | .tup ds=>if ds.length=n then u ds env else .bad
 | _=>.bad
noncomputable def jP (t:GT) (g:G R):G O:=λenv=>g env >>= λr=>toD r >>= λd=>t d env >>= λe=>.ok (.nx e)
theorem ET {t:GT}(h:PD X c e g) (ht:zC X c tg t)
  (hq:PS X (.Assign [tg] e pos) (CV (tD c g) (tT c t))):Jj X c (.Assign [tg] e pos) (jP t g):=jF hq λE σ H ⟨J,env,sr,w⟩=>by refine ⟨J,env,sr,aC (aL w) λr wr v J1 H1 e1 r1=>?_⟩;obtain ⟨d,q,wr⟩:=i6 wr;obtain ⟨J1',e1',s1,rd⟩:=freeze e1 r1 q;refine ⟨J1',env,d,sr.ext e1',rd,aC (aL wr) λe2 w2 σ' sr' _=>?_⟩;exact w2 σ' J1' H1 e1'.j sr'
noncomputable def Walk (c:C) (It:It) (ds:List D) (J1:Hp) (U:Hp->Hp->Prop):Prop:=∀(i:Nat) (J H:Hp),HI c J H->U J H->
 (ds.length<=i->It.stop i H)/\∀d,ds[i]?=some d->It.go i H/\∀x H2,It.yld i H x H2->∃J2,Ext J H J2 H2/\Rep c.K J2 d x
noncomputable def tI (c:C) (g:G (List D)):TI:=λσ H Q=>∃J env,SR c J H σ env/\bR (g env) (λds=>∀It J1 H1,Ext J H J1 H1->Walk c It ds J1 (λJ' _=>aG J1 J')->Q It H1) c.T
noncomputable def Jm (X:Cx) (c:C) (tg MU:N9) (g:G (List D)):Prop:=PI X tg MU (tI c g)
theorem p6 {X:Cx}{tg it:N9}{t t':TI}(h:PI X tg it t) (k:∀σ H Q,t' σ H Q->t σ H Q):PI X tg it t':=λMQ s σ H Q I q=>h MQ s σ H Q I (k σ H Q q)
noncomputable def fR (t:GT) (u:G O):List D->Ev->M O
 | [],env=>.ok (.nx env)
 | d::ds,env=>t d env >>= λe=>u e >>= λo=>match o with
  | .nx e=>fR t u ds e
  | .ct e=>fR t u ds e
  | .bk e=>.ok (.nx e)
  | .rt r=>.ok (.rt r)
noncomputable def fF (g:G (List D)) (t:GT) (u:G O):G O:=λenv=>g env >>= λds=>fR t u ds env
noncomputable def KW (g:G R):G (List D):=λenv=>g env >>= λr=>match r with
 | .d (.tup xs)=>.ok xs
 | _=>.bad
theorem m9 {J1:Hp}{a:Nu}{vs:List V}{ds:List D}(h:bN c.K J1 a vs\/bN c.K c.H0 a vs) (hs:az c.K J1 ds vs):Walk c (C_ c.K a) ds J1 (λJ' _=>aG J1 J'):=by intro i J H hp u;have h':bN c.K H a vs:=h.elim (λh=>hp.sub.seq (u.seq h)) λh=>hp.ent.seq h;refine ⟨λhl=>⟨vs,h',by rw [<-hs.length];exact hl⟩,λd hd=>?_⟩;obtain ⟨v,h1,h2⟩:=hs.get hd;refine ⟨⟨vs,v,h',h1⟩,λx H2 ⟨e,hy⟩=>?_⟩;subst e;have:=hy vs h';rw [h1] at this;cases this;exact ⟨J,Ext.refl hp.sub,h2.mono u⟩
noncomputable def dF (lo:Int) (n:Nat):List D:=(Ng n).map λ(k:Nat)=>.int (lo + (k:Int))
theorem zl {J1:Hp}{lo:Int}{n:Nat}{Ut:Hp->Hp->Prop}:Walk c (Dc lo n) (dF lo n) J1 Ut:=by
 intro i J H hp u;refine ⟨λhl=>(show n<=i by simpa [dF] using hl),λd hd=>?_⟩;have hi:i < n:=by have:=(Nr.mp hd).1;simpa [dF] using this
 have hd':d=.int (lo + i):=by unfold dF at hd;rw [Nx,SK hi] at hd;exact (Ow hd).symm
 subst hd';exact ⟨hi,λx H2 ⟨e,hx⟩=>by subst e hx;exact ⟨J,Ext.refl hp.sub,.int _⟩⟩
noncomputable def dO (gs:G (List R)):G (List D):=λenv=>gs env >>= λrs=>match rs with
 | [.d (.int j)]=>if below 4611686018427387904 j then .ok (dF 0 j.toNat) else .bad
 | _=>.bad
noncomputable def KP (c:C) (g:G (List D)):TI:=λσ H Q=>∃J env,SR c J H σ env/\bR (g env) (λds=>∀It J1 H1,Ext J H J1 H1->Walk c It ds J1 (λJ' H'=>aG J1 J'/\aG H1 H')->Q It H1) c.T
noncomputable def Jl (X:Cx) (c:C) (tg MU:N9) (g:G (List D)):Prop:=PI X tg MU (KP c g)
end
section
variable {X:Cx}{c:C}{e a b tg:N9}{es:List N9}{ga gb g:G R}{pos:Pos}
theorem SR.updM {J H:Hp}{σ:L2.St}{env:Ev}(sr:SR c J H σ env){i:Nat}{x y:Mn}{p:Nu}{o:HO}(hi:env[i]?=some (some (mS x))) (hs:σ[i]?=some (some (.ref p))) (hJ:J p=none) (h0:c.H0 p=none)
  (h:om c J (L2.upd H p o) (mS y) (.ref p)) (hy:∀xs,y≠.nst xs:=by exact λ_ z=>nomatch z):SR c J (L2.upd H p o) σ (env.set i (some (mS y))):=by
 refine ⟨⟨λb o q=>?_,λb o q=>?_,sr.hp.entJ,sr.hp.frz⟩,by simpa using sr.len,λj y q=>?_,λj k ys zs w hjk q1 q2 q3 q4=>?_,sr.sp2.keep λk xs q=>?_⟩
 ·have:b≠p:=λz=>by rw [z,hJ] at q;cases q
  rw [aQ this];exact sr.hp.sub b o q
 ·have:b≠p:=λz=>by rw [z,h0] at q;cases q
  rw [aQ this];exact sr.hp.ent b o q
 ·rcases cQ q with ⟨rfl,hl,rfl⟩ | ⟨hj,q⟩
  ·exact ⟨.ref p,hs,h⟩
  ·obtain ⟨w,k1,k2⟩:=sr.at_ j y q;refine ⟨w,k1,?_⟩;have hne:∀(z:Mn) p',y=mS z->w=.ref p'->p'≠p:=λz p' e ew ep=>sr.sep i j x z (.ref p) (P6 hj) hi (e▸q) hs (ep▸ew▸k1);cases y with
   | d x=>exact k2
   | bor zs=>exact k2
   | db _ _=>exact k2
   | fn _=>exact k2
   | dk ks zs=>
    obtain ⟨p',rfl,⟨us,ws,ep,m1,mr⟩,m2⟩:=k2;exact ⟨p',rfl,⟨us,ws,ep,by rw [aQ (hne (.inr (ks,zs)) p' rfl rfl)];exact m1,mr⟩,m2⟩
   | own zs=>
    obtain ⟨p',us,rfl,m1,m2,m3,m4⟩:=k2;exact ⟨p',us,rfl,by rw [aQ (hne (.inl zs) p' rfl rfl)];exact m1,m2,m3,m4⟩
   | ow2 zs=>
    obtain ⟨p',us,rfl,m1,m2,m3,m4⟩:=k2;exact ⟨p',us,rfl,by rw [aQ (hne (.nst zs) p' rfl rfl)];exact m1,m2,m3,m4⟩
 ·have f:∀(k:Nat) (ys:Mn),(env.set i (some (mS y)))[k]?=some (some (mS ys))->∃ys',env[k]?=some (some (mS ys')):=λk ys q=>by
   rcases cQ q with ⟨rfl,_,_⟩ | ⟨_,q⟩
   ·exact ⟨x,hi⟩
   ·exact ⟨ys,q⟩
  obtain ⟨ys',r1⟩:=f j ys q1;obtain ⟨zs',r2⟩:=f k zs q2;exact sr.sep j k ys' zs' w hjk r1 r2 q3 q4
 ·rcases cQ q with ⟨rfl,_,e⟩ | ⟨hk,q⟩
  ·exact (hy xs (by cases y <;> cases e;rfl)).elim
  ·obtain ⟨p',vs,m1,m2,_,_,_,m3⟩:=sr.nst q;have hne:p'≠p:=λe=>sr.sep i k x (.nst xs) (.ref p) (P6 hk) hi q hs (e▸m1);exact ⟨⟨xs,q⟩,(je m1 (by rw [aQ hne];exact m2)).trans m3.symm⟩
theorem SR.upd {J H:Hp}{env:Ev}(sr:SR c J H σ env) (hi:env[i]?=some (some (.own xs))) (hs:σ[i]?=some (some (.ref p))) (hH:H p=some (.lst vs)) (hJ:J p=none) (h0:c.H0 p=none)
 (h:az c.K J xs' vs'):SR c J (L2.upd H p (.lst vs')) σ (env.set i (some (.own xs'))):=sr.updM (x:=.inl xs) (y:=.inl xs') hi hs hJ h0 ⟨p,vs',rfl,bz,hJ,h0,h⟩
noncomputable def jb (i:Nat) (g:G R):G O:=λenv=>match env[i]? with
 | some (some (.own xs))=>g env >>= λr=>toD r >>= λd=>if xs.length < sizeLine then .ok (.nx (env.set i (some (.own (xs++[d]))))) else .bad
 | _=>.bad
noncomputable def fV:R->S
 | .d x=>.d x
 | .l _ xs=>.bor xs
 | .mo ks vs=>.db ks vs
 | .mb ks vs=>.db ks vs
 | .mf ks vs=>.db ks vs
 | .ln xs=>.bor xs
noncomputable def jL (K:M1) (J H:Hp):List S->List V->Prop
 | [],vs=>vs=[]
 | s::ss,vs=>∃v us,vs=v::us/\(match s with
  | .d x=>Rep K J x v
  | .bor xs=>∃a ws,v=.ref a/\bN K H a ws/\az K J xs ws
  | .db ks ws=>∃a,v=.ref a/\dD K J H a ks ws
  | .fn x=>∃f,v=.ref f/\OD K NT x=some (some (.ref f))
  | _=>False)/\jL K J H ss us
theorem jL.length {K:M1}{J H:Hp}:∀{ss:List S}{vs:List V},jL K J H ss vs->vs.length=ss.length
 | [],_,h=>by cases h;rfl
 | _::_,_,⟨_,_,h,_,h2⟩=>by subst h;exact congrArg (· + 1) h2.length
theorem jL.get {K:M1}{J H:Hp}:∀{ss:List S}{vs:List V}{i:Nat}{s:S},jL K J H ss vs->ss[i]?=some s->∃v,vs[i]?=some v/\(match s with
  | .d x=>Rep K J x v
  | .bor xs=>∃a ws,v=.ref a/\bN K H a ws/\az K J xs ws
  | .db ks ws=>∃a,v=.ref a/\dD K J H a ks ws
  | .fn x=>∃f,v=.ref f/\OD K NT x=some (some (.ref f))
  | _=>False)
 | [],_,_,_,_,e=>by simp at e
 | _::_,_,0,_,⟨v,us,h,h1,h2⟩,e=>by simp at e;subst e;subst h;exact ⟨v,rfl,h1⟩
 | _::_,_,i + 1,s,⟨v,us,h,h1,h2⟩,e=>by subst h;obtain ⟨v,k1,k2⟩:=jL.get (i:=i) (s:=s) h2 (by simpa using e);exact ⟨v,by simpa using k1,k2⟩
noncomputable def FR (K:M1) (H J' H':Hp):R->V->Prop
 | .d x,v=>Rep K J' x v
 | .l _ xs,v=>∃a vs,v=.ref a/\H' a=some (.lst vs)/\J' a=none/\H a=none/\az K J' xs vs
 | .mf ks vs,v=>∃a,v=.ref a/\dD K J' H' a ks vs/\J' a=none/\H a=none
 | .ln xs,v=>∃a vs,v=.ref a/\H' a=some (.lst vs)/\J' a=none/\H a=none/\NR K J' (λb=>H b=none) xs vs
 | _,_=>False
noncomputable def lM (K:M1) (n:Nat) (F:List S->M R):Sp:=λvs H Q _=>∃J as,aG J H/\as.length=n/\jL K J H as vs/\bR (F as) (λr=>∀v J' H',Ext J H J' H'->FR K H J' H' r v->Q v H') (λ_=>False)
noncomputable def fin:M O->M R
 | .ok (.rt r)=>.ok r
 | .ok (.nx _)=>.ok (.d .non)
 | .exc x=>.exc x
 | _=>.bad
noncomputable def bA (N:List Str) (as:List S):Ev:=as.map some++Ot (N.length - as.length) none
theorem sC {N:List Str}{as:List S}{i:Nat}{x:S}(h:(bA N as)[i]?=some (some x)):as[i]?=some x:=by
 unfold bA at h;by_cases hi:i < as.length
 ·rw [PR (by simpa using hi),Nx] at h;cases q:as[i]? with
  | none=>rw [q] at h;cases h
  | some y=>rw [q] at h;cases h;rfl
 ·rw [OW (by simpa using hi),RG] at h;split at h <;> cases h
theorem CU {N:List Str}{vs:List V}{i:Nat}{v:V}(h:vs[i]?=some v):(L2.start N vs)[i]?=some (some v):=by unfold L2.start;have hi:i < vs.length:=(Nr.mp h).1;rw [PR (by simpa using hi),Nx,h];rfl
theorem CT {K:M1}{J H:Hp}{T:Exc->Prop}{N:List Str}{as:List S}{vs:List V}(hs:aG J H) (h:jL K J H as vs):SR ⟨K,H,J,T⟩ J H (L2.start N vs) (bA N as):=by
 have own:∀(i:Nat) (xs:Mn),(bA N as)[i]?≠some (some (mS xs)):=λi xs q=>by obtain ⟨v,_,k⟩:=h.get (sC q);cases xs <;> exact k
 refine ⟨⟨hs,aG.refl H,aG.refl J,λ_ _ q=>q⟩,?_,λi x q=>?_,λi j xs ys v _ q=>absurd q (own i xs),λi j xs ys _ q=>absurd q (own i (.nst xs))⟩
 ·unfold bA L2.start;rw [NG,NG,M7,M7,O_,O_,h.length]
 ·obtain ⟨v,k1,k2⟩:=h.get (sC q);refine ⟨v,CU k1,?_⟩;cases x with
  | d y=>exact k2
  | own y=>exact k2.elim
  | bor y=>exact k2
  | dk _ _=>exact k2.elim
  | db _ _=>exact k2
  | fn _=>exact k2
  | ow2 _=>exact k2.elim
noncomputable abbrev w4 (P:Nt) (w:NS) (K:M1) (mg:Str->Option M4) (base:OQ) (N:List Str) (MV:Str) (sc:Rl) (f:Nu) (cd:M4) (A:NK) (outer:List Env) (s:M5) (H:Hp) (E:XK):Cx:=(oB jR P w K mg base N MV sc f cd A outer s H E).nox
theorem Gn {P:Nt}{w:NS}{K:M1}{mg:Str->Option M4}{base:OQ}{x MV:Str}{st:RB}{f:Nu}{fd:Oz}{N ps:List Str}{k:Nat}{Fm:List S->M R}(F:jS K x MV st f fd) (Sc:eZ N ps (aT st)){gB:G O}
  (hb:∀(cdv:M4) (A:NK) (outer:List Env) (s:M5) (H:Hp) (E:XK) (J:Hp) (T:Exc->Prop),cZ k (A.deeper (S7 MV (aT st) s.heap.objs.size f cdv))->
   iI (w4 P w K mg base N MV (aT st) f cdv A outer s H E) (cC st) (tW ⟨K,H,J,T⟩ gB))
  (hF:∀as r,as.length=ps.length->Fm as=.ok r->fin (gB (bA N as))=.ok r):gH P w K mg base jR (k + 1) f fd ps (lM K ps.length Fm):=by
 refine F.ok Sc (λvs H Q E h=>?_) (λcdv A outer s H vs Q E hr h=>?_)
 ·obtain ⟨J,as,h1,h2,h3,h4⟩:=h;rw [h3.length,h2]
 ·obtain ⟨J,as,h1,h2,h3,h4⟩:=h;refine ⟨_,hb cdv A outer s H E J (λ_=>False) hr,J,bA N as,CT h1 h3,?_⟩;cases q:Fm as with
  | bad=>rw [q] at h4;exact h4.elim
  | exc x=>rw [q] at h4;exact h4.elim
  | ok r=>
   rw [q] at h4;have z:=hF as r h2 q;have ext:∀{J' H':Hp},HI ⟨K,H,J,λ_=>False⟩ J' H'->Ext J H J' H':=λhp=>⟨hp.ent,hp.entJ,hp.sub,hp.frz⟩;cases qg:gB (bA N as) with
   | bad=>rw [qg] at z;cases z
   | exc x=>rw [qg] at z;cases z
   | ok o=>
    rw [qg] at z;cases o with
    | bk _=>cases z
    | ct _=>cases z
    | nx env=>cases z;exact λσ' J' H' _ sr=>h4 .non J' H' (ext sr.hp) .non
    | rt r'=>
     cases z;exact λv J' H' _ hp rf=>h4 v J' H' (ext hp) (by
      cases r with
      | d x=>exact rf
      | l m xs=>exact rf
      | mo _ _=>exact rf
      | mf _ _=>exact rf
      | ln _=>exact rf
      | mb _ _=>exact rf)
theorem Ag {P:Nt}{w:NS}{K:M1}{mg:Str->Option M4}{base:OQ}{x MV:Str}{st:RB}{f:Nu}{fd:Oz}{N ps:List Str}{k:Nat}{Fm:List S->M R}(F:jS K x MV st f fd) (Sc:eZ N ps (aT st)){gB:G O}
  (hb:∀(cdv:M4) (A:NK) (outer:List Env) (s:M5) (H:Hp) (E:XK) (J:Hp) (T:Exc->Prop),cZ k (A.deeper (S7 MV (aT st) s.heap.objs.size f cdv))->
   FY (w4 P w K mg base N MV (aT st) f cdv A outer s H E) ⟨K,H,J,T⟩ (cC st) gB)
  (hF:∀as r,as.length=ps.length->Fm as=.ok r->fin (gB (bA N as))=.ok r):gH P w K mg base jR (k + 1) f fd ps (lM K ps.length Fm):=Gn F Sc (λcdv A outer s H E J T hr=>vz (hb cdv A outer s H E J T hr) λ_ _ _ q=>Ja q) hF
noncomputable def nM:R->R
 | .d x=>.d x
 | .l _ xs=>.l .fresh xs
 | .mo ks vs=>.mo ks vs
 | .mb ks vs=>.mb ks vs
 | .mf ks vs=>.mf ks vs
 | .ln xs=>.ln xs
noncomputable def bf (n:Nat) (F:List S->M R):List R->M R:=λrs=>if rs.length=n then (match F (rs.map fV) with
 | .ok r=>.ok (nM r)
 | _=>.bad) else .bad
theorem i7.args {He J H:Hp}(hp:HI c J H):∀{rs:List R}{vs:List V},i7 c He J H rs vs->jL c.K J H (rs.map fV) vs
 | [],_,h=>h
 | r::rs,_,⟨v,us,h,h1,h2⟩=>by
  refine ⟨v,us,h,?_,i7.args hp h2⟩;cases r with
  | d x=>exact h1
  | l m xs=>exact RR.list hp h1 rfl
  | mo _ _=>obtain ⟨a,h1,h2,_⟩:=h1;exact ⟨a,h1,h2⟩
  | mb _ _=>obtain ⟨a,h1,h2⟩:=h1;exact ⟨a,h1,h2.mono (aG.refl _) hp.ent⟩
  | mf _ _=>obtain ⟨a,h1,h2,_⟩:=h1;exact ⟨a,h1,h2⟩
  | ln _=>obtain ⟨a,vs,h1,h2,_,_,h5⟩:=h1;exact ⟨a,vs,h1,.inl (.inl h2),h5.reps⟩
theorem IV {F:List S->M R}{J H J1 H1:Hp}{Q:VK}{as:List S}{T:Exc->Prop}(hT:c.K=X.K) (e1:Ext J H J1 H1) (ar:jL c.K J1 H1 as vs) (hl:as.length=n)
 (wr:bR (match F as with
 | .ok r=>.ok (nM r)
 | _=>.bad) (λr=>∀v J' H',Ext J H J' H'->RR c H J' H' r v->Q v H') T):lM X.K n F (vs++[]) H1 Q E0:=by
 rw [hT] at ar;refine ⟨J1,as,e1.sub,hl,by rw [O0];exact ar,?_⟩;cases q:F as with
 | bad=>rw [q] at wr;exact wr
 | exc x=>rw [q] at wr;exact wr
 | ok r=>
  rw [q] at wr;intro v J' H' e2 fr;refine wr v J' H' (e1.trans e2) ?_;cases r with
  | d y=>exact (show Rep c.K J' y v from hT▸fr)
  | mo _ _=>exact fr.elim
  | mb _ _=>exact fr.elim
  | mf _ _=>obtain ⟨a,h1,h2,h3,h4⟩:=fr;exact ⟨a,h1,hT▸h2,h3,e1.h.free h4⟩
  | ln _=>obtain ⟨a,us,h1,h2,h3,h4,h5⟩:=fr;exact ⟨a,us,h1,h2,h3,e1.h.free h4,hT▸h5.mono (aG.refl _) λ_ h=>e1.h.free h⟩
  | l m ys=>
   obtain ⟨a,us,h1,h2,h3,h4,h5⟩:=fr;exact ⟨a,us,h1,h2,h3,e1.h.free h4,hT▸h5⟩
theorem BJ {n:Nat}{F:List S->M R}{gs:G (List R)}(hT:c.K=X.K):∀σ H Q,tD c (gN (bf n F) gs) σ H Q->DU (lM X.K n F) [] E0 (tA c gs) σ H Q:=λσ H Q ⟨J,env,sr,w⟩=>by
 refine ⟨J,env,sr,aC (aL w) λrs wr vs J1 H1 e1 r1=>?_⟩;unfold bf at wr;split at wr
 ·rename_i hl;exact IV hT e1 (r1.args (sr.hp.ext e1)) (by simpa using hl) wr
 ·exact wr.elim
theorem EU {F:List S->M R}{gs:G (List R)}(G:gH X.prog X.w X.K X.mg X.base jR k f fd ps (lM X.K n F)) (hr:cZ k X.A) (hm:X.mg x=some (.ref f)) (hk:QV X.K (.ref f)=true)
 (hb:Binds X.K fd ps []) (ha:Dh X c (e::es) gs) (hT:autoParam (c.K=X.K) zA._auto_1) (hg:autoParam (Gl X x) zA._auto_1) (hdb:autoParam ((x == ("__debug__":Str))=false) zB._auto_1) (he:autoParam (Nl (e::es) X.env=(false,eval e X.env)::Nl es X.env) zA._auto_1)
 (hpl:autoParam ((Qw pos (Nl es X.env)).any (·.1)=false) zA._auto_1):PD X c (.Call (.Name x p) (e::es) [] pos) (gN (bf n F) gs):=
 gc (EX (E:=E0) G hr hg hm hk hb .nil Iw ha hdb he hpl) (BJ hT)
end
noncomputable def cW (cells:List (Str×Nu)):List (Str×Qc)->List (Str×Nu)->Option (List (Str×Nu))
 | [],cs=>some cs
 | (n,k)::r,cs=>if k == .free then (match cells.lookup n with
  | some a=>cW cells r ((n,a)::cs)
  | none=>none) else cW cells r cs
theorem jM {env:Env}:∀(names:List (Str×Qc)) (cs cl:List (Str×Nu)),cW env.cells names cs=some cl->
  (forIn names cs λ(x:Str×Qc) (r:List (Str×Nu))=>(if (x.2 == .free)=true then do let a <-cellOf env x.1;pure (Ql ((x.1,a)::r)) else pure (Ql r):Sem (ForInStep (List (Str×Nu)))))=(pure cl:Sem (List (Str×Nu)))
 | [],cs,cl,h=>by cases h;rfl
 | (n,k)::r,cs,cl,h=>by
  unfold cW at h;rw [UA];cases hk:(k == OH) with
  | true=>
   rw [hk,if_pos rfl] at h;cases hc:env.cells.lookup n with
   | none=>rw [hc] at h;cases h
   | some a=>
    rw [hc] at h;have e:cellOf env n=pure a:=by unfold cellOf;rw [hc]
    simp only [hk,if_true,e];exact jM r ((n,a)::cs) cl h
  | false=>
   rw [hk,if_neg (by decide)] at h;simp only [hk];exact jM r cs cl h
theorem sS {MP:Rl}{env:Env}{cl:List (Str×Nu)}(h:cW env.cells MP.names []=some cl):closureFor MP env=pure cl:=by have q:=jM (env:=env) MP.names [] cl h;unfold closureFor;show ((forIn MP.names [] λ(x:Str×Qc) (r:List (Str×Nu))=>(if (x.2 == .free)=true then do let a <-cellOf env x.1;pure (Ql ((x.1,a)::r)) else pure (Ql r):Sem (ForInStep (List (Str×Nu))))) >>= λz=>pure z)=pure cl;rw [q];rfl
theorem fC {cells:List (Str×Nu)}:∀(names:List (Str×Qc)) (cs cl:List (Str×Nu)),cW cells names cs=some cl->(∀x c,cs.lookup x=some c->cells.lookup x=some c)->
  (∀x c,cl.lookup x=some c->cells.lookup x=some c)/\(∀x,((cs.lookup x).isSome=true\/(x,OH)∈names)->(cl.lookup x).isSome=true)
 | [],cs,cl,h,k=>by cases h;exact ⟨k,λx hx=>hx.elim id λz=>by cases z⟩
 | (n,kd)::r,cs,cl,h,k=>by
  unfold cW at h;cases hk:(kd == OH) with
  | true=>
   rw [hk,if_pos rfl] at h;cases hc:cells.lookup n with
   | none=>rw [hc] at h;cases h
   | some a=>
    rw [hc] at h;obtain ⟨h1,h2⟩:=fC r ((n,a)::cs) cl h (λx c q=>by
     rw [O6] at q;cases e:x == n with
     | true=>
      rw [e] at q;cases q;have:x=n:=by simpa using e
      rw [this];exact hc
     | false=>rw [e] at q;exact k x c q)
    refine ⟨h1,λx hx=>h2 x ?_⟩;by_cases e:x=n
    ·left;subst e;rw [O6];simp
    ·have e':(x == n)=false:=by simpa using e
     rcases hx with hx | hx
     ·left;rw [O6,e'];exact hx
     ·right;rcases Nj.mp hx with z | z
      ·cases z;exact absurd rfl e
      ·exact z
  | false=>
   rw [hk,if_neg (by decide)] at h;obtain ⟨h1,h2⟩:=fC r cs cl h k;refine ⟨h1,λx hx=>h2 x ?_⟩;rcases hx with hx | hx
   ·exact .inl hx
   ·rcases Nj.mp hx with z | z
    ·cases z;simp at hk
    ·exact .inr z
section
variable {X:Cx}
noncomputable def cN (X:Cx) (own:List Str) (cap:List Nat):List Str:=own++cap.map λ(j:Nat)=>(X.N[j]?).getD ("":Str)
noncomputable def Ge (X:Cx) (own:List Str) (cap:List Nat) (MP:Rl) (cl:List (Str×Nu)) (C:Nu) (s:M5) (H:Hp) (fp:List Nu):Cx where
 prog:=X.prog
 w:=X.w
 K:=X.K
 mg:=X.mg
 base:=X.base
 A:=X.A
 N:=cN X own cap
 s₀:=s
 H₀:=H
 env:=compEnvC MP cl C X.env
 outer:=X.stack
 stack:=X.stack
 ex:=fp
 fn:=λ_=>false
 calm:=X.calm
 pn:=[]
 xe:=λ_ _=>False
noncomputable def nh (X:Cx) (cap:List Nat):Bool:=cap.all λj=>match X.N[j]? with
 | some x=>(match X.env.scope.names.lookup x with
  | some .cell=>true
  | some .free=>true
  | _=>false)
 | none=>false
theorem vF {MP:Rl}(hc:∀y∈MP.names,y.2≠.cell):∀{x:Str},((relabel MP env).names.lookup x=some .cell\/(relabel MP env).names.lookup x=some .free)->(x,OH)∈MP.names:=by
 unfold relabel;have main:∀(names:List (Str×Qc)),(∀y∈names,y.2≠.cell)->∀x,((names.map λ(n,k)=>if (k == OH && env.scope.kind == .function && env.kindOf n == some .cell) then (n,RK) else (n,k)).lookup x=some .cell\/
   (names.map λ(n,k)=>if (k == OH && env.scope.kind == .function && env.kindOf n == some .cell) then (n,RK) else (n,k)).lookup x=some .free)->(x,OH)∈names:=by
  intro names
  induction names with
  | nil=>intro _ x h;simp at h
  | cons p r ih=>
   obtain ⟨n,k⟩:=p;intro hc x h;rw [Nz] at h;simp only at h;by_cases hx:x=n
   ·subst hx;have hk:k≠.cell:=hc (x,k) Nd;have:k=.free:=by
     by_cases q:(k == OH && env.scope.kind == .function && env.kindOf x == some .cell)=true
     ·rw [M8,M8] at q;simpa using q.1.1
     ·rw [if_neg q,O6] at h;simp at h;rcases h with h | h
      ·exact absurd h hk
      ·exact h
    subst this;exact Nd
   ·have hx':(x == n)=false:=by simpa using hx
    refine Na _ (ih (λy hy=>hc y (Na _ hy)) x ?_);have red:∀(q:Str×Qc) (l:List (Str×Qc)),q.1=n->Yj x (q::l)=Yj x l:=λq l hq=>by obtain ⟨q1,q2⟩:=q;simp only at hq;subst hq;rw [O6,hx']
    have hq:(if (k == OH && env.scope.kind == .function && env.kindOf n == some .cell) then (n,RK) else (n,k)).1=n:=by split <;> rfl
    rw [red _ _ hq] at h;exact h
 intro x h;exact main MP.names hc x h
end
section
variable {X:Cx}{c:C}
noncomputable def x6 (X:Cx) (c:C) (ifs:List N9) (g:G Bool):Prop:=
 ∀(MQ:List (Nu×Obj)) (s:M5) (σ:L2.St) (H:Hp) (Q:Bool->Hp->Prop),Inv X MQ σ H s->tB c g σ H Q->
  Nm (Nq X.prog X.w) X.A (forIn ifs true λc r=>if r=true then do let ok <-UT c X.env (eval c X.env);pure (Ql ok) else pure (Ql r)) (TP X MQ σ Q) X.xe s
noncomputable def fH:G Bool:=λ_=>.ok true
noncomputable def d7 (gt:GT) (gts:G Bool) (ge:G R):List D->Ev->M (List D)
 | [],_=>.ok []
 | d::ds,env=>gt d env >>= λe=>gts e >>= λk=>if k=true then ge e >>= λr=>toD r >>= λy=>d7 gt gts ge ds e >>= λys=>.ok (y::ys) else d7 gt gts ge ds e
noncomputable def cE (n:Nat) (cap:List Nat) (env:Ev):Ev:=Ot n none++cap.map λ(j:Nat)=>(env[j]?).getD none
noncomputable def cK (n:Nat) (cap:List Nat) (gi:G (List D)) (gt:GT) (gts:G Bool) (ge:G R):G R:=λenv=>gi env >>= λds=>if ds.length<=sizeLine then d7 gt gts ge ds (cE n cap env) >>= λys=>.ok (.l .fresh ys) else .bad
theorem f_ {α:Type}{n:Nat}{cap:List Nat}{env:List (Option α)}{i:Nat}{x:α}(h:(Ot n none++cap.map λ(j:Nat)=>(env[j]?).getD none)[i]?=some (some x)):∃j,n<=i/\cap[i - n]?=some j/\env[j]?=some (some x):=by
 by_cases hi:i < n
 ·rw [PR (by simpa using hi),RG] at h;split at h <;> cases h
 ·rw [OW (by simpa using hi),O_,Nx] at h;cases q:cap[i - n]? with
  | none=>rw [q] at h;cases h
  | some j=>
   rw [q] at h;refine ⟨j,by omega,rfl,?_⟩;have h':(env[j]?).getD none=some x:=Ow h;cases z:env[j]? with
   | none=>rw [z] at h';cases h'
   | some o=>rw [z] at h';exact congrArg some h'
theorem Dm {α:Type}{n:Nat}{cap:List Nat}{env:List (Option α)}{i j:Nat}{x:α}(h1:n<=i) (h2:cap[i - n]?=some j) (h3:env[j]?=some (some x)):(Ot n none++cap.map λ(j:Nat)=>(env[j]?).getD none)[i]?=some (some x):=by rw [OW (by simpa using h1),O_,Nx,h2];simp [h3]
theorem SR.cap {J H:Hp}{σ:L2.St}{env:Ev}(sr:SR c J H σ env) (n:Nat) (cap:List Nat) (hnd:cap.Nodup):SR c J H (Ot n none++cap.map λ(j:Nat)=>(σ[j]?).getD none) (cE n cap env):=by
 refine ⟨sr.hp,by simp [cE],λi x q=>?_,λi j xs ys v hij q1 q2 q3 q4=>?_,sr.sp2.by (λi=>(cap[i - n]?).getD 0) (λi j xs ys hij q1 q2 z=>?_) λi xs q=>?_⟩
 ·obtain ⟨j,h1,h2,h3⟩:=f_ q;obtain ⟨v,k1,k2⟩:=sr.at_ j x h3;exact ⟨v,Dm h1 h2 k1,k2⟩
 ·obtain ⟨a,h1,h2,h3⟩:=f_ q1;obtain ⟨b,h4,h5,h6⟩:=f_ q2;obtain ⟨a',h7,h8,h9⟩:=f_ q3;obtain ⟨b',MM,h11,h12⟩:=f_ q4;rw [h2] at h8;cases h8;rw [h5] at h11;cases h11;have hab:a≠b:=λz=>by subst z;have e1:=(Nr.mp h2);have e2:=(Nr.mp h5);have:=(Rq hnd).mp (e1.2.trans e2.2.symm);omega
  exact sr.sep a b xs ys v hab h3 h6 h9 h12
 ·obtain ⟨a,h1,h2,h3⟩:=f_ q1;obtain ⟨b,h4,h5,h6⟩:=f_ q2;have e1:=(Nr.mp h2);have e2:=(Nr.mp h5);rw [h2,h5] at z;have:=(Rq hnd).mp (e1.2.trans ((show a=b from z).trans e2.2.symm));omega
 ·obtain ⟨a,h1,h2,h3⟩:=f_ q;obtain ⟨p,vs,m1,m2,_,_,_,m3⟩:=sr.nst h3;rw [h2];exact ⟨⟨xs,h3⟩,(je (Dm h1 h2 m1) m2).trans m3.symm⟩
theorem SR.other {J H:Hp}(sr:SR c J H σ env) (hJ:J p=none) (h0:c.H0 p=none) (hn:∀(j:Nat) (xs:Mn),env[j]?=some (some (mS xs))->σ[j]?≠some (some (.ref p))):SR c J (L2.upd H p o) σ env:=by
 refine ⟨⟨λb u q=>?_,λb u q=>?_,sr.hp.entJ,sr.hp.frz⟩,sr.len,λj y q=>?_,sr.sep,sr.sp2.keep λk xs q=>let ⟨p',vs,m1,m2,_,_,_,m3⟩:=sr.nst q;⟨⟨xs,q⟩,(je m1 (by rw [aQ (show p'≠p from λe=>hn k (.nst xs) q (by rw [<-e];exact m1))];exact m2)).trans m3.symm⟩⟩
 ·have:b≠p:=λz=>by rw [z,hJ] at q;cases q
  rw [aQ this];exact sr.hp.sub b u q
 ·have:b≠p:=λz=>by rw [z,h0] at q;cases q
  rw [aQ this];exact sr.hp.ent b u q
 ·obtain ⟨w,k1,k2⟩:=sr.at_ j y q;refine ⟨w,k1,?_⟩;cases y with
  | d x=>exact k2
  | bor zs=>exact k2
  | db _ _=>exact k2
  | fn _=>exact k2
  | dk ks zs=>
   obtain ⟨p',rfl,⟨us,ws,ep,m1,mr⟩,m2⟩:=k2;have hne:p'≠p:=λz=>hn j (.inr (ks,zs)) q (z▸k1);exact ⟨p',rfl,⟨us,ws,ep,by rw [aQ hne];exact m1,mr⟩,m2⟩
  | own zs=>
   obtain ⟨p',us,rfl,m1,m2,m3,m4⟩:=k2;have hne:p'≠p:=λz=>hn j (.inl zs) q (z▸k1);exact ⟨p',us,rfl,by rw [aQ hne];exact m1,m2,m3,m4⟩
  | ow2 zs=>
   obtain ⟨p',us,rfl,m1,m2,m3,m4⟩:=k2;have hne:p'≠p:=λz=>hn j (.nst zs) q (z▸k1);exact ⟨p',us,rfl,by rw [aQ hne];exact m1,m2,m3,m4⟩
theorem Ext.other {J H J' H':Hp}(e:Ext J H J' H') (h:H p=none) (hJ:J' p=none):Ext J H J' (L2.upd H' p o):=
 ⟨λb u q=>by rw [aQ (c8 q h)];exact e.h b u q,e.j,λb u q=>by
  have:b≠p:=λz=>by rw [z,hJ] at q;cases q
  rw [aQ this];exact e.sub b u q,e.frz⟩
theorem wA {H:Hp}(x:eU P w H h) (hn:H a=none) (sb:OM a h h'):eU P w H h':=λb u e=>by
 refine (x b u e).stay (λd v hd q=>(sb.2 d ?_).trans q) (λ_ q=>q) λ_ _ q=>q;rintro rfl;rcases hd with rfl | hd
 ·rw [hn] at e;cases e
 ·rw [hn] at hd;cases hd
theorem Kr {MQ:List (Nu×Obj)}{σ:L2.St}{H:Hp}{s:M5}{own:List Str}{cap:List Nat}{MP:Rl}{cl:List (Str×Nu)}{fp:List Nu}{h1:OQ}{m:Str->Option M4}{tk:Nat}(I:Inv X MQ σ H s) (ok:(Ge X own cap MP cl s.heap.objs.size s H fp).Ok)
  (hcl:cW X.env.cells MP.names []=some cl) (hcell:∀y∈MP.names,y.2≠.cell) (hcap:nh X cap=true) (Ld:∀j∈cap,∀x,X.N[j]?=some x->(relabel MP X.env).names.lookup x≠some .local)
  (hns:h1.Ns s.heap.objs.size m) (old:∀b o,s.heap.get? b=some o->h1.get? b=some o):
  Inv (Ge X own cap MP cl s.heap.objs.size s H fp) [] (Ot own.length none++cap.map λ(j:Nat)=>(σ[j]?).getD none) H {s with heap:=h1,toks:=tk}:=by
 obtain ⟨m1,m2⟩:=fC MP.names [] cl hcl (λx c h=>by simp at h);refine ⟨ok,rfl,I.bare,Un.kept old,⟨m,hns,λi x v q1 q2 q3=>?_⟩,λx d h=>?_,I.hok.fresh (Nb _),λx d h=>I.freeC x d (m1 x d h),λp hp=>absurd (show p∈([]:List (Nu×Obj)) from hp) (by simp),I.hok.kept old,?_⟩
 ·obtain ⟨j,h2,h3,h4⟩:=f_ q2;have q1':(own++cap.map λ(j:Nat)=>(X.N[j]?).getD ("":Str))[i]?=some x:=q1;rw [OW (by exact h2),Nx,h3] at q1';have hj:j∈cap:=NB h3;have hc:(match X.N[j]? with
   | some x=>(match X.env.scope.names.lookup x with
    | some .cell=>true
    | some .free=>true
    | _=>false)
   | none=>false)=true:=by unfold nh at hcap;exact NC.mp hcap j hj
  cases hx:X.N[j]? with
  | none=>rw [hx] at hc;cases hc
  | some y=>
   rw [Wl,hx] at q1';rw [hx] at hc;have e:y=x:=by simpa using q1'
   subst e;have kd:X.env.kindOf y=some .cell\/X.env.kindOf y=some .free:=by
    unfold YB;simp only at hc;split at hc
    ·rename_i z;exact .inl z
    ·rename_i z;exact .inr z
    ·cases hc
   obtain ⟨mX,nX,lX⟩:=I.loc;obtain ⟨u,ru,lu⟩:=lX j y v hx h4 (kd.elim (λz=>.inr (.inl z)) λz=>.inr (.inr z));refine ⟨u,ru,.inr ?_⟩;have kd':(relabel MP X.env).names.lookup y=some .cell\/(relabel MP X.env).names.lookup y=some .free:=by
    rcases q3 with z | z | z
    ·exact absurd z (Ld j hj y hx)
    ·exact .inl z
    ·exact .inr z
   refine ⟨kd',?_⟩;obtain ⟨d,hd⟩:=OJ.mp (m2 y (.inr (vF hcell kd')));refine ⟨d,hd,?_⟩;rcases lu with ⟨z,_⟩ | ⟨_,d',hd',z⟩
   ·rcases kd with k | k <;> (rw [k] at z;cases z)
   ·have:=m1 y d hd;rw [hd'] at this;cases this;obtain ⟨o,ho,hod⟩:=z;exact ⟨o,old _ _ ho,hod⟩
 ·obtain ⟨v,o,ho,hod⟩:=I.cell x d (m1 x d h);exact ⟨v,o,old _ _ ho,hod⟩
 ·show _=(own++cap.map λ(j:Nat)=>(X.N[j]?).getD ("":Str)).length;simp
noncomputable def zW (X:Cx) (cap:List Nat) (MP:Rl):Bool:=cap.all λj=>match X.N[j]? with
 | some x=>!((relabel MP X.env).names.lookup x == some .local)
 | none=>true
noncomputable def ve:List Nat->Bool
 | []=>true
 | x::r=>!(r.contains x) && ve r
theorem xB:∀{l:List Nat},ve l=true->l.Nodup
 | [],_=>QW
 | x::r,h=>by unfold ve at h;rw [M8] at h;refine PZ.mpr ⟨λz=>?_,xB h.2⟩;have:=h.1;simp [z] at this
theorem F6 {X:Cx}{H:Hp}{s:M5}(I:L2.Inv X MQ σ H s) (h:s.heap.objs.size<=T):(T∈X.ex\/X.s₀.heap.objs.size<=T)/\T≠X.env.locals/\(∀x c,X.env.cells.lookup x=some c->c≠T)/\∀p∈X.pn++MQ,p.1≠T:=by have ne:∀b,b < s.heap.objs.size->b≠T:=λb hb z=>absurd (Nv (z▸hb) h) (PM _);refine ⟨.inr (N8 I.sz h),(ne _ I.lt).symm,λx c hc=>?_,λp hp=>ne _ (Nk (I.pin p hp).1)⟩;obtain ⟨v,o,hv,_⟩:=I.cell x c hc;exact ne _ (Nk hv)
theorem AO {X:Cx}{H:Hp}{s:M5}{C:Nu}{o0:Obj}(I:L2.Inv X MQ σ H s) (ap:(C∈X.ex\/X.s₀.heap.objs.size<=C)/\C≠X.env.locals/\(∀x c,X.env.cells.lookup x=some c->c≠C)/\∀p∈X.pn++MQ,p.1≠C) (hf:H C=none) (sb:OM C s.heap h'):L2.Inv X MQ σ H {s with heap:=h'}:=by
 refine I.call' (ch:=[C]) rfl ⟨λb o hb hn _ hx=>?_,λb o hb hn _ hx=>⟨o.slots,?_⟩,λ_ _ _ n _=>n,λb o hb hx=>⟨o,?_⟩,λ_ _ q=>q,λ_ _ _ q=>q,λ_ ps q=>⟨#[],by rw [q];simp⟩⟩ (λa o ha=>?_) I.bare (λb hb=>by rw [NH.mp hb];exact ap)
 ·exact (sb.2 b λz=>hx (by simp [z])).trans hb
 ·exact (sb.2 b λz=>hx (by simp [z])).trans hb
 ·exact (sb.2 b λz=>hx (by simp [z])).trans hb
 ·refine (I.hok a o ha).stay (λb u hb q=>(sb.2 b λz=>?_).trans q) (λ_ q=>q) λ_ _ q=>q;rcases hb with rfl | hb
  ·rw [z,hf] at ha;cases ha
  ·rw [z,hf] at hb;cases hb
end
mutual
noncomputable def aV:D->D->Bool
 | .non,.non=>true
 | .bl p,.bl q=>p == q
 | .bl p,.int q=>(if p then 1 else 0) == q
 | .int p,.bl q=>p == (if q then 1 else 0)
 | .int p,.int q=>p == q
 | .str p,.str q=>p == q
 | .tup p,.tup q=>bW p q
 | .lst p,.lst q=>bW p q
 | .emp,.emp=>true
 | .exn _ _ _,.exn _ _ _=>true
 | .dct _ _,.dct _ _=>true
 | _,_=>false
noncomputable def bW:List D->List D->Bool
 | [],[]=>true
 | x::xs,y::ys=>aV x y && bW xs ys
 | _,_=>false
end
mutual
theorem fD:∀d:D,aV d d=true
 | .non=>by simp [aV]
 | .bl _=>by simp [aV]
 | .int _=>by simp [aV]
 | .str _=>by simp [aV]
 | .tup xs=>by simp only [aV];exact lZ xs
 | .lst xs=>by simp only [aV];exact lZ xs
 | .emp=>by simp [aV]
 | .exn _ _ _=>by simp [aV]
 | .dct _ _=>by simp [aV]
theorem lZ:∀ds:List D,bW ds ds=true
 | []=>by simp [bW]
 | x::xs=>by simp only [bW,fD x,lZ xs,Xr]
end
theorem kK:∀{xs ys:List D},xs.length≠ys.length->bW xs ys=false
 | [],[],h=>absurd rfl h
 | [],_::_,_=>by simp [bW]
 | _::_,[],_=>by simp [bW]
 | x::xs,y::ys,h=>by simp only [bW,kK (xs:=xs) (ys:=ys) (λz=>h (congrArg (· + 1) z)),Sg]
noncomputable def kU (xs ys:List D) (j:Nat):Bool:=match xs[j]?,ys[j]? with
 | some x,some y=>aV x y
 | _,_=>false
theorem kL:∀{xs ys:List D},xs.length=ys.length->(Ng xs.length).all (kU xs ys)=bW xs ys
 | [],[],_=>by simp [bW]
 | x::xs,y::ys,h=>by have ih:=kL (xs:=xs) (ys:=ys) (by simpa using h);rw [OP,Uj,QM,UB];simp only [bW];rw [<-ih];rfl
theorem uG (xs ys:List D):((Ng (min xs.length ys.length)).all (kU xs ys) && xs.length == ys.length)=bW xs ys:=by
 by_cases h:xs.length=ys.length
 ·rw [<-h,Nat.min_self,kL h];simp
 ·rw [kK h,beq_eq_false_iff_ne.mpr h,Sg]
section
structure HF (K:M1) (J:Hp) (s:M5):Prop where
 t:∀a xs,bT K J a xs->∃its:List M4,Vals xs its/\s.heap.IsTuple a its.toArray
 l:∀a xs,bN K J a xs->∃its:List M4,Vals xs its/\s.heap.IsList a its.toArray
 e:∀a,J a=some (.dK [])->∃o,s.heap.get? a=some o/\o.cls=.type "dict"
 d:∀a ep MY,J a=some (rH a ep MY)->∃o es,s.heap.get? a=some o/\o.ExactDict/\o.data=.dict es ep/\T9 tU MY es.toList
variable {K:M1}{J:Hp}{s:M5}
theorem HF.of {X:Cx}{c:C}{H:Hp}(I:Inv X MQ σ H s) (hs:aG J H):HF X.K J s:=
 ⟨λa xs h=>let ⟨its,r,p,_⟩:=I.tuple (dQ hs h);⟨its,r,p⟩,λa xs h=>let ⟨its,r,p,_⟩:=I.list (hs.seq h);⟨its,r,p.isList⟩,λa h=>by
  obtain ⟨_,_,vs,_,p⟩:=(show bU X.prog X.w H s.heap a (.dK []) from I.hok a _ (hs _ _ h));obtain ⟨o,es,ep,h1,h2,_⟩:=p;exact ⟨o,h1,h2.1⟩,λa ep MY h=>(show bU X.prog X.w H s.heap a (rH a ep MY) from I.hok a _ (hs _ _ h)).1⟩
theorem Av {xs ys:List M4}(h:s.heap.IsTuple a xs.toArray) (h':s.heap.IsTuple a ys.toArray):xs=ys:=by
 obtain ⟨o,ho,_,n,hd⟩:=h;obtain ⟨o',ho',_,n',hd'⟩:=h';rw [ho] at ho';cases ho';rw [hd] at hd';injection hd' with h1 _
 simpa using congrArg Us h1
theorem yH {xs ys:List M4}(h:s.heap.IsList a xs.toArray) (h':s.heap.IsList a ys.toArray):xs=ys:=by
 obtain ⟨o,ho,_,n,hd⟩:=h;obtain ⟨o',ho',_,n',hd'⟩:=h';rw [ho] at ho';cases ho';rw [hd] at hd';injection hd' with h1 _
 simpa using congrArg Us h1
mutual
theorem Rep.inj (F:HF K J s):∀{d e:D}{v:V},Rep K J d v->Rep K J e v->dep d<=1000->dep e<=1000->d=e
 | _,_,_,.emp _,_,h,_=>by unfold dep at h;omega
 | _,_,_,.exn _ _ _ _ _,_,h,_=>by unfold dep at h;omega
 | _,_,_,.dct _ _ _ _ _,_,h,_=>by unfold dep at h;omega
 | _,_,_,.non,.non,_,_=>rfl
 | _,_,_,.bl _,.bl _,_,_=>rfl
 | _,_,_,.int _,.int _,_,_=>rfl
 | _,_,_,.str _,.str _,_,_=>rfl
 | _,_,_,.tup _ _,.emp _,_,h=>by unfold dep at h;omega
 | _,_,_,.lst _ _,.emp _,_,h=>by unfold dep at h;omega
 | _,_,_,.tup _ _,.exn _ _ _ _ _,_,h=>by unfold dep at h;omega
 | _,_,_,.tup _ _,.dct _ _ _ _ _,_,h=>by unfold dep at h;omega
 | _,_,_,.lst _ _,.exn _ _ _ _ _,_,h=>by unfold dep at h;omega
 | _,_,_,.lst _ _,.dct _ _ _ _ _,_,h=>by unfold dep at h;omega
 | _,_,_,.tup h hs,.tup h' hs',k,k'=>by obtain ⟨its,r,p⟩:=F.t _ _ h;obtain ⟨its',r',p'⟩:=F.t _ _ h';have:=Av p p';subst this;have:=r.inj r';subst this;rw [az.inj F hs hs' (by unfold dep at k;omega) (by unfold dep at k';omega)]
 | _,_,_,.lst h hs,.lst h' hs',k,k'=>by obtain ⟨its,r,p⟩:=F.l _ _ h;obtain ⟨its',r',p'⟩:=F.l _ _ h';have:=yH p p';subst this;have:=r.inj r';subst this;rw [az.inj F hs hs' (by unfold dep at k;omega) (by unfold dep at k';omega)]
 | _,_,_,.tup h _,.lst h' _,_,_=>by obtain ⟨its,r,p⟩:=F.t _ _ h;obtain ⟨its',r',p'⟩:=F.l _ _ h';exact absurd rfl (Uk p' p)
 | _,_,_,.lst h _,.tup h' _,_,_=>by obtain ⟨its,r,p⟩:=F.l _ _ h;obtain ⟨its',r',p'⟩:=F.t _ _ h';exact absurd rfl (Uk p p')
theorem az.inj (F:HF K J s):∀{ds es:List D}{vs:List V},az K J ds vs->az K J es vs->deps ds<=1000->deps es<=1000->ds=es
 | _,_,_,.nil,.nil,_,_=>rfl
 | _,_,_,.cons h hs,.cons h' hs',k,k'=>by rw [Rep.inj F h h' (by unfold deps at k;omega) (by unfold deps at k';omega),az.inj F hs hs' (by unfold deps at k;omega) (by unfold deps at k';omega)]
end
theorem gV {A:NK}(h:s.heap.IsTuple a its) (r:RelV v u) (f:pK v=true) (hu:A.units < PN):Qg A s (.ref a) u false/\Qg A s u (.ref a) false:=by
 cases v with
 | non=>cases r;exact ⟨.tuple_none h hu,.none_tuple h hu⟩
 | bl b=>cases r;exact ⟨.tuple_bool b h hu,.bool_tuple b h hu⟩
 | int i=>obtain ⟨t,rfl⟩:=r;exact ⟨.tuple_int i t h hu,.int_tuple i t h hu⟩
 | str x=>obtain ⟨t,rfl⟩:=r;exact ⟨.tuple_str x t h hu,.str_tuple x t h hu⟩
 | _=>exact absurd (show false=true from f) N6
theorem iC {A:NK}(h:s.heap.IsList a its) (r:RelV v u) (f:pK v=true) (hu:A.units < PN):Qg A s (.ref a) u false/\Qg A s u (.ref a) false:=by
 cases v with
 | non=>cases r;exact ⟨.list_none h hu,.none_list h hu⟩
 | bl b=>cases r;exact ⟨.list_bool b h hu,.bool_list b h hu⟩
 | int i=>obtain ⟨t,rfl⟩:=r;exact ⟨.list_int i t h hu,.int_list i t h hu⟩
 | str x=>obtain ⟨t,rfl⟩:=r;exact ⟨.list_str x t h hu,.str_list x t h hu⟩
 | _=>exact absurd (show false=true from f) N6
noncomputable def mq:D->Bool
 | .tup _=>false
 | .lst _=>false
 | .emp=>false
 | .exn _ _ _=>false
 | .dct _ _=>false
 | _=>true
theorem Rep.flat (h:Rep K J d v) (f:mq d=true):pK v=true:=by cases h <;> first | rfl | cases f
theorem BS (h:Rep K J d v) (h':Rep K J e w) (f:mq d=true) (f':mq e=true):Gh v w=aV d e:=by cases h <;> cases h' <;> first | rfl | cases f | cases f' | simp [Gh,aV]
theorem in1_units (A:NK):A.in1.units=A.units + 1:=rfl
theorem pJ (F:HF K J s) (A:NK) (hd:Rep K J d v) (he:Rep K J e w) (rv:RelV v u) (rw':RelV w u') (f:mq d=true) (hu:A.units < PN) (hu':dep e<=1000):Qg A s u u' (aV d e):=by
 cases q:mq e with
 | true=>rw [<-BS hd he f q];exact Gg rv rw' (hd.flat f) (he.flat q)
 | false=>
  cases he with
  | tup h' hs'=>
   cases rw';obtain ⟨its',r',p'⟩:=F.t _ _ h';have:=(gV p' rv (hd.flat f) hu).2;cases hd <;> first | exact this | cases f
  | lst h' hs'=>
   cases rw';obtain ⟨its',r',p'⟩:=F.l _ _ h';have:=(iC p' rv (hd.flat f) hu).2;cases hd <;> first | exact this | cases f
  | emp _=>unfold dep at hu';omega
  | exn _ _ _ _ _=>unfold dep at hu';omega
  | dct _ _ _ _ _=>unfold dep at hu';omega
  | _=>cases q
mutual
theorem jV (F:HF K J s):∀{d e:D}{v w:V}{u u':M4}(A:NK),Rep K J d v->Rep K J e w->RelV v u->RelV w u'->A.units + dep d < PN->dep d<=1000->dep e<=1000->Qg A s u u' (aV d e)
 | .tup ds,e,_,w,u,u',A,.tup h hs,he,rv,rw',hu,hd1,hu'=>by
  cases rv;obtain ⟨its,r,p⟩:=F.t _ _ h;have K2:A.units < PN:=by unfold dep at hu;omega
  cases he with
  | tup h' hs'=>
   cases rw';obtain ⟨its',r',p'⟩:=F.t _ _ h';rename_i a vs b ws es;by_cases q:a=b
   ·subst q;have:=Rep.inj F (.tup h hs) (.tup h' hs') hd1 hu';rw [<-this,fD];exact Ux _
   ·have l1:its.length=ds.length:=by rw [<-r.length,hs.length]
    have l2:its'.length=es.length:=by rw [<-r'.length,hs'.length]
    simp only [aV];rw [<-uG,<-l1,<-l2];refine Vm q ?_;have:=VI (e:=kU ds es) p p' K2 λj j1 j2=>by
     have k1:j < ds.length:=by rw [<-l1];simpa using j1
     have k2:j < es.length:=by rw [<-l2];simpa using j2
     have:=jW F A.in1 hs hs' r r' (by rw [in1_units];unfold dep at hu;omega) (by unfold dep at hd1;omega) (by unfold dep at hu';omega) j k1 k2;have m1:j < its.length:=by simpa using j1
     have m2:j < its'.length:=by simpa using j2
     simpa [m1,m2] using this
    simpa using this
  | lst h' hs'=>
   cases rw';obtain ⟨its',r',p'⟩:=F.l _ _ h';exact XI p p' K2
  | non=>exact (gV p rw' rfl K2).1
  | bl _=>exact (gV p rw' rfl K2).1
  | int _=>exact (gV p rw' rfl K2).1
  | str _=>exact (gV p rw' rfl K2).1
  | emp _=>unfold dep at hu';omega
  | exn _ _ _ _ _=>unfold dep at hu';omega
  | dct _ _ _ _ _=>unfold dep at hu';omega
 | .lst ds,e,_,w,u,u',A,.lst h hs,he,rv,rw',hu,hd1,hu'=>by
  cases rv;obtain ⟨its,r,p⟩:=F.l _ _ h;have K2:A.units < PN:=by unfold dep at hu;omega
  cases he with
  | lst h' hs'=>
   cases rw';obtain ⟨its',r',p'⟩:=F.l _ _ h';rename_i a vs b ws es;by_cases q:a=b
   ·subst q;have:=Rep.inj F (.lst h hs) (.lst h' hs') hd1 hu';rw [<-this,fD];exact Ux _
   ·have l1:its.length=ds.length:=by rw [<-r.length,hs.length]
    have l2:its'.length=es.length:=by rw [<-r'.length,hs'.length]
    simp only [aV];refine Vm q ?_;by_cases z:ds.length=es.length
    ·rw [<-kL z,<-l1];have:=V2 (e:=kU ds es) p p' (by simp;omega) K2 λj j1 j2=>by
      have k1:j < ds.length:=by rw [<-l1];simpa using j1
      have k2:j < es.length:=by rw [<-l2];simpa using j2
      have:=jW F A.in1 hs hs' r r' (by rw [in1_units];unfold dep at hu;omega) (by unfold dep at hd1;omega) (by unfold dep at hu';omega) j k1 k2;have m1:j < its.length:=by simpa using j1
      have m2:j < its'.length:=by simpa using j2
      simpa [m1,m2] using this
     simpa using this
    ·rw [kK z];exact Xb p p' (by simp;omega) K2
  | tup h' hs'=>
   cases rw';obtain ⟨its',r',p'⟩:=F.t _ _ h';exact XJ p p' K2
  | non=>exact (iC p rw' rfl K2).1
  | bl _=>exact (iC p rw' rfl K2).1
  | int _=>exact (iC p rw' rfl K2).1
  | str _=>exact (iC p rw' rfl K2).1
  | emp _=>unfold dep at hu';omega
  | exn _ _ _ _ _=>unfold dep at hu';omega
  | dct _ _ _ _ _=>unfold dep at hu';omega
 | .non,e,v,w,u,u',A,hd,he,rv,rw',hu,_,hu'=>pJ F A hd he rv rw' rfl (by omega) hu'
 | .bl _,e,v,w,u,u',A,hd,he,rv,rw',hu,_,hu'=>pJ F A hd he rv rw' rfl (by omega) hu'
 | .int _,e,v,w,u,u',A,hd,he,rv,rw',hu,_,hu'=>pJ F A hd he rv rw' rfl (by omega) hu'
 | .emp,e,v,w,u,u',A,hd,he,rv,rw',hu,hd1,hu'=>by unfold dep at hd1;omega
 | .exn _ _ _,e,v,w,u,u',A,hd,he,rv,rw',hu,hd1,hu'=>by unfold dep at hd1;omega
 | .dct _ _,e,v,w,u,u',A,hd,he,rv,rw',hu,hd1,hu'=>by unfold dep at hd1;omega
 | .str _,e,v,w,u,u',A,hd,he,rv,rw',hu,_,hu'=>pJ F A hd he rv rw' rfl (by omega) hu'
theorem jW (F:HF K J s):∀{ds es:List D}{vs ws:List V}{us us':List M4}(A:NK),az K J ds vs->az K J es ws->Vals vs us->Vals ws us'->A.units + deps ds < PN->deps ds<=1000->deps es<=1000->
  ∀(j:Nat) (h1:j < ds.length) (h2:j < es.length),Qg A s (us.getD j .none) (us'.getD j .none) (kU ds es j)
 | _,_,_,_,_,_,A,.cons h hs,.cons h' hs',.cons r rs,.cons r' rs',hu,k1,k2,0,_,_=>jV F A h h' r r' (by unfold deps at hu;omega) (by unfold deps at k1;omega) (by unfold deps at k2;omega)
 | _,_,_,_,_,_,A,.cons h hs,.cons h' hs',.cons r rs,.cons r' rs',hu,k1,k2,j + 1,h1,h2=>jW F A hs hs' rs rs' (by unfold deps at hu;omega) (by unfold deps at k1;omega) (by unfold deps at k2;omega) j (by simpa using h1) (by simpa using h2)
end
end
section
variable {K:M1}{J:Hp}{s:M5}
theorem A8 (F:HF K J s) (A:NK) (hd:Rep K J d v) (he:Rep K J e w) (rv:RelV v u) (rw':RelV w u') (hu:A.units + dep d < PN) (hd1:dep d<=1000) (hu':dep e<=1000):SeqAt.RcAt A s u u' (aV d e)/\SeqAt.RcNeAt A s u u' (!aV d e):=by
 have K2:A.units < PN:=by omega
 cases hd with
 | non=>
  cases rv;cases he with
  | non=>cases rw';exact ⟨.none_none,.none_none⟩
  | bl b=>cases rw';exact ⟨.none_bool b,.none_bool b⟩
  | int i=>obtain ⟨t,rfl⟩:=rw';exact ⟨.none_int i t,.none_int i t⟩
  | str x=>obtain ⟨t,rfl⟩:=rw';exact ⟨.none_str x t,.none_str x t⟩
  | tup h hs=>cases rw';obtain ⟨its,r,p⟩:=F.t _ _ h;exact ⟨.none_tuple p K2,.none_tuple p K2⟩
  | lst h hs=>cases rw';obtain ⟨its,r,p⟩:=F.l _ _ h;exact ⟨.none_list p K2,.none_list p K2⟩
  | emp _=>unfold dep at hu';omega
  | exn _ _ _ _ _=>unfold dep at hu';omega
  | dct _ _ _ _ _=>unfold dep at hu';omega
 | bl a=>
  cases rv;cases he with
  | non=>cases rw';exact ⟨.bool_none a,.bool_none a⟩
  | bl b=>cases rw';exact ⟨.bool_bool a b,.bool_bool a b⟩
  | int i=>obtain ⟨t,rfl⟩:=rw';exact ⟨.bool_int a i t,.bool_int a i t⟩
  | str x=>obtain ⟨t,rfl⟩:=rw';exact ⟨.bool_str a x t,.bool_str a x t⟩
  | tup h hs=>cases rw';obtain ⟨its,r,p⟩:=F.t _ _ h;exact ⟨.bool_tuple a p K2,.bool_tuple a p K2⟩
  | lst h hs=>cases rw';obtain ⟨its,r,p⟩:=F.l _ _ h;exact ⟨.bool_list a p K2,.bool_list a p K2⟩
  | emp _=>unfold dep at hu';omega
  | exn _ _ _ _ _=>unfold dep at hu';omega
  | dct _ _ _ _ _=>unfold dep at hu';omega
 | int a=>
  obtain ⟨t0,rfl⟩:=rv;cases he with
  | non=>cases rw';exact ⟨.int_none a t0,.int_none a t0⟩
  | bl b=>cases rw';exact ⟨.int_bool a t0 b,.int_bool a t0 b⟩
  | int i=>obtain ⟨t,rfl⟩:=rw';exact ⟨.int_int a t0 i t,.int_int a t0 i t⟩
  | str x=>obtain ⟨t,rfl⟩:=rw';exact ⟨.int_str a t0 x t,.int_str a t0 x t⟩
  | tup h hs=>cases rw';obtain ⟨its,r,p⟩:=F.t _ _ h;exact ⟨.int_tuple a t0 p K2,.int_tuple a t0 p K2⟩
  | lst h hs=>cases rw';obtain ⟨its,r,p⟩:=F.l _ _ h;exact ⟨.int_list a t0 p K2,.int_list a t0 p K2⟩
  | emp _=>unfold dep at hu';omega
  | exn _ _ _ _ _=>unfold dep at hu';omega
  | dct _ _ _ _ _=>unfold dep at hu';omega
 | str a=>
  obtain ⟨t0,rfl⟩:=rv;cases he with
  | non=>cases rw';exact ⟨.str_none a t0,.str_none a t0⟩
  | bl b=>cases rw';exact ⟨.str_bool a t0 b,.str_bool a t0 b⟩
  | int i=>obtain ⟨t,rfl⟩:=rw';exact ⟨.str_int a t0 i t,.str_int a t0 i t⟩
  | str x=>obtain ⟨t,rfl⟩:=rw';exact ⟨.str_str a t0 x t,.str_str a t0 x t⟩
  | tup h hs=>cases rw';obtain ⟨its,r,p⟩:=F.t _ _ h;exact ⟨.str_tuple a t0 p K2,.str_tuple a t0 p K2⟩
  | lst h hs=>cases rw';obtain ⟨its,r,p⟩:=F.l _ _ h;exact ⟨.str_list a t0 p K2,.str_list a t0 p K2⟩
  | emp _=>unfold dep at hu';omega
  | exn _ _ _ _ _=>unfold dep at hu';omega
  | dct _ _ _ _ _=>unfold dep at hu';omega
 | tup h hs=>
  cases rv;obtain ⟨its,r,p⟩:=F.t _ _ h;cases he with
  | non=>cases rw';exact ⟨.tuple_none p K2,.tuple_none p K2⟩
  | bl b=>cases rw';exact ⟨.tuple_bool b p K2,.tuple_bool b p K2⟩
  | int i=>obtain ⟨t,rfl⟩:=rw';exact ⟨.tuple_int i t p K2,.tuple_int i t p K2⟩
  | str x=>obtain ⟨t,rfl⟩:=rw';exact ⟨.tuple_str x t p K2,.tuple_str x t p K2⟩
  | lst h' hs'=>cases rw';obtain ⟨its',r',p'⟩:=F.l _ _ h';exact ⟨.tuple_list p p' K2,.tuple_list p p' K2⟩
  | emp _=>unfold dep at hu';omega
  | exn _ _ _ _ _=>unfold dep at hu';omega
  | dct _ _ _ _ _=>unfold dep at hu';omega
  | tup h' hs'=>
   cases rw';obtain ⟨its',r',p'⟩:=F.t _ _ h';rename_i a vs ds b ws es;have l1:its.length=ds.length:=by rw [<-r.length,hs.length]
   have l2:its'.length=es.length:=by rw [<-r'.length,hs'.length]
   have it:∀(j:Nat) (j1:j < its.toArray.size) (j2:j < its'.toArray.size),Qg A.in1 s its.toArray[j] its'.toArray[j] (kU ds es j):=λj j1 j2=>by
    have k1:j < ds.length:=by rw [<-l1];simpa using j1
    have k2:j < es.length:=by rw [<-l2];simpa using j2
    have:=jW F A.in1 hs hs' r r' (by rw [in1_units];unfold dep at hu;omega) (by unfold dep at hd1;omega) (by unfold dep at hu';omega) j k1 k2;have m1:j < its.length:=by simpa using j1
    have m2:j < its'.length:=by simpa using j2
    simpa [m1,m2] using this
   simp only [aV];rw [<-uG,<-l1,<-l2];have q1:=VI p p' K2 it;have q2:=Yk p p' K2 it;exact ⟨by simpa using q1,by simpa using q2⟩
 | emp _=>unfold dep at hd1;omega
 | exn _ _ _ _ _=>unfold dep at hd1;omega
 | dct _ _ _ _ _=>unfold dep at hd1;omega
 | lst h hs=>
  cases rv;obtain ⟨its,r,p⟩:=F.l _ _ h;cases he with
  | non=>cases rw';exact ⟨.list_none p K2,.list_none p K2⟩
  | bl b=>cases rw';exact ⟨.list_bool b p K2,.list_bool b p K2⟩
  | int i=>obtain ⟨t,rfl⟩:=rw';exact ⟨.list_int i t p K2,.list_int i t p K2⟩
  | str x=>obtain ⟨t,rfl⟩:=rw';exact ⟨.list_str x t p K2,.list_str x t p K2⟩
  | tup h' hs'=>cases rw';obtain ⟨its',r',p'⟩:=F.t _ _ h';exact ⟨.list_tuple p p' K2,.list_tuple p p' K2⟩
  | emp _=>unfold dep at hu';omega
  | exn _ _ _ _ _=>unfold dep at hu';omega
  | dct _ _ _ _ _=>unfold dep at hu';omega
  | lst h' hs'=>
   cases rw';obtain ⟨its',r',p'⟩:=F.l _ _ h';rename_i a vs ds b ws es;have l1:its.length=ds.length:=by rw [<-r.length,hs.length]
   have l2:its'.length=es.length:=by rw [<-r'.length,hs'.length]
   have it:∀(j:Nat) (j1:j < its.toArray.size) (j2:j < its'.toArray.size),Qg A.in1 s its.toArray[j] its'.toArray[j] (kU ds es j):=λj j1 j2=>by
    have k1:j < ds.length:=by rw [<-l1];simpa using j1
    have k2:j < es.length:=by rw [<-l2];simpa using j2
    have:=jW F A.in1 hs hs' r r' (by rw [in1_units];unfold dep at hu;omega) (by unfold dep at hd1;omega) (by unfold dep at hu';omega) j k1 k2;have m1:j < its.length:=by simpa using j1
    have m2:j < its'.length:=by simpa using j2
    simpa [m1,m2] using this
   simp only [aV];by_cases z:ds.length=es.length
   ·rw [<-kL z,<-l1];have q1:=V2 p p' (by simp;omega) K2 it;have q2:=Yv p p' (by simp;omega) K2 it;exact ⟨by simpa using q1,by simpa using q2⟩
   ·rw [kK z];exact ⟨.lists_lengths p p' (by simp;omega) K2,.lists_lengths p p' (by simp;omega) K2⟩
end
section
variable {X:Cx}{c:C}{e a b tg:N9}{es:List N9}{ga gb g:G R}{pos:Pos}
theorem RR.rep {He J H:Hp}(hp:HI c J H):∀{r:R}{v:V}{d:D},RR c He J H r v->(∀xs,r=.l .fresh xs\/r=.l .own xs\/r=.l .bor xs->d=.lst xs)->(∀x,r=.d x->d=x)->(∀ks vs,r≠.mo ks vs/\r≠.mb ks vs/\r≠.mf ks vs/\r≠.ln ks)->Rep c.K H d v
 | .mo _ _,_,_,_,_,_,n=>((n _ _).1 rfl).elim
 | .mb _ _,_,_,_,_,_,n=>((n _ _).2.1 rfl).elim
 | .mf _ _,_,_,_,_,_,n=>((n _ _).2.2.1 rfl).elim
 | .ln _,_,_,_,_,_,n=>((n _ []).2.2.2 rfl).elim
 | .d x,v,d,h,_,k,_=>by rw [k x rfl];exact Rep.mono hp.sub h
 | .l m xs,v,d,h,k,_,_=>by have e:d=.lst xs:=k xs (by cases m;exact .inl rfl;exact .inr (.inl rfl);exact .inr (.inr rfl));obtain ⟨a,vs,rfl,h1,h2⟩:=RR.list hp h rfl;rw [e];exact .lst h1 (h2.mono hp.sub)
noncomputable def R.dat:R->D
 | .d x=>x
 | .l _ xs=>.lst xs
 | .mo ks vs=>.dct ks vs
 | .mb ks vs=>.dct ks vs
 | .mf ks vs=>.dct ks vs
 | .ln xs=>.lst xs
theorem RR.dat {He J H:Hp}(hp:HI c J H){r:R}(h:RR c He J H r v):Rep c.K H r.dat v:=by
 by_cases hm:∃ks vs,r=.mo ks vs
 ·obtain ⟨ks,vs,rfl⟩:=hm;obtain ⟨a,rfl,h,_⟩:=h;exact h.rep hp.sub
 by_cases hb:∃ks vs,r=.mb ks vs
 ·obtain ⟨ks,vs,rfl⟩:=hb;obtain ⟨a,rfl,h⟩:=h;exact (h.mono (aG.refl _) hp.ent).rep hp.sub
 by_cases hf:∃ks vs,r=.mf ks vs
 ·obtain ⟨ks,vs,rfl⟩:=hf;obtain ⟨a,rfl,h,_⟩:=h;exact h.rep hp.sub
 by_cases hl:∃xs,r=.ln xs
 ·obtain ⟨xs,rfl⟩:=hl;obtain ⟨a,vs,rfl,h,_,_,h5⟩:=h;exact .lst (.inl (.inl h)) (h5.reps.mono hp.sub)
 refine h.rep hp (λxs q=>?_) (λx q=>by rw [q];rfl) λks vs=>⟨λz=>hm ⟨_,_,z⟩,λz=>hb ⟨_,_,z⟩,λz=>hf ⟨_,_,z⟩,λz=>hl ⟨_,z⟩⟩;rcases q with q | q | q <;> (rw [q];rfl)
noncomputable def CF (K:M1) (neg:Bool):R2:=λx y H Q=>∃d e,Rep K H d x/\Rep K H e y/\dep d<=60/\dep e<=60/\Q (.bl (if neg then !aV d e else aV d e)) H
theorem gz {H:Hp}(I:Inv X MQ σ H s):HF X.K H s:=HF.of (c:=⟨X.K,H,H,λ_=>True⟩) I (aG.refl H)
theorem AM (hu:X.A.units + 64 < PN):dc X (Qj .Eq) (CF X.K false):=by intro MQ s σ H x y v u Q I rx ry h;obtain ⟨d,e,h1,h2,h3,h4,q⟩:=h;exact (A8 (gz I) X.A h1 h2 rx ry (by omega) (by omega) (by omega)).1 X.prog X.w X.xe _ ⟨.bl _,H,I,rfl,q⟩
theorem GW (hu:X.A.units + 64 < PN):dc X (Qj .NotEq) (CF X.K true):=by intro MQ s σ H x y v u Q I rx ry h;obtain ⟨d,e,h1,h2,h3,h4,q⟩:=h;exact (A8 (gz I) X.A h1 h2 rx ry (by omega) (by omega) (by omega)).2 X.prog X.w X.xe _ ⟨.bl _,H,I,rfl,q⟩
noncomputable def cG (neg:Bool) (x y:R):M R:=if dep x.dat<=60/\dep y.dat<=60 then .ok (.d (.bl (if neg then !aV x.dat y.dat else aV x.dat y.dat))) else .bad
theorem yk (neg:Bool) (hK:X.K=c.K):BD c (CF X.K neg) (cG neg):=by
 intro He He' J H x y u v Q hp rx ry w;unfold cG at w;split at w
 ·rename_i hd;exact ⟨x.dat,y.dat,by rw [hK];exact rx.dat hp,by rw [hK];exact ry.dat hp,hd.1,hd.2,w _ J H (Ext.refl hp.sub) (.bl _)⟩
 ·exact w.elim
noncomputable def inD (d:D) (xs:List D):Bool:=xs.any λx=>aV x d
noncomputable def Ht (K:M1) (neg:Bool):R2:=λx y H Q=>∃d p vs ds,Rep K H d x/\dep d<=60/\y=.ref p/\(bN K H p vs\/bT K H p vs)/\az K H ds vs/\deps ds<=60/\Q (.bl (if neg then !inD d ds else inD d ds)) H
theorem r_ {K:M1}{H:Hp}{y:M4}:∀{ds:List D}{vs:List V}{us:List M4},az K H ds vs->Vals vs us->deps ds<=60->y∈us->∃d' v',Rep K H d' v'/\RelV v' y/\dep d'<=60
 | _,_,_,.nil,.nil,_,hy=>nomatch hy
 | _,_,_,.cons r hs,.cons q rs,hd,hy=>by
  unfold deps at hd;rcases Nj.mp hy with rfl | hy
  ·exact ⟨_,_,r,q,by omega⟩
  ·exact r_ hs rs (by omega) hy
open Classical in
noncomputable def yg (K:M1) (H:Hp) (d:D) (y:M4):Bool:=decide (∃d' v',Rep K H d' v'/\RelV v' y/\dep d'<=1000/\aV d' d=true)
theorem wQ {K:M1}{H:Hp}{s:M5}(F:HF K H s){d d':D}{v':V}{y:M4}(r':Rep K H d' v') (q':RelV v' y) (hd:dep d'<=1000):yg K H d y=aV d' d:=by
 classical
 unfold yg;cases z:aV d' d with
 | true=>exact decide_eq_true ⟨d',v',r',q',hd,z⟩
 | false=>
  refine decide_eq_false ?_;rintro ⟨d2,v2,r2,q2,hd2,z2⟩;have:v2=v':=q2.inj q';subst this;rw [Rep.inj F r2 r' hd2 hd] at z2;rw [z] at z2;cases z2
theorem t_ {K:M1}{H:Hp}{s:M5}(F:HF K H s){d:D}:∀{ds:List D}{vs:List V}{us:List M4},az K H ds vs->Vals vs us->deps ds<=1000->us.any (yg K H d)=inD d ds
 | _,_,_,.nil,.nil,_=>rfl
 | _,_,_,.cons r hs,.cons q rs,hd=>by unfold deps at hd;unfold inD;rw [Vn,Vn,t_ F hs rs (by omega),wQ F r q (by omega)];rfl
theorem zG {A:NK}{s:M5}{K:M1}{H:Hp}(F:HF K H s){d:D}{x:V}{u:M4}(h:Rep K H d x) (rx:RelV x u) (LV:dep d<=60) (hA:A.units + 60 < PN){ds:List D}{vs:List V}{us:List M4}(hs:az K H ds vs) (rs:Vals vs us) (hd:deps ds<=60):
  ∃e:M4->Bool,(∀y∈us,Qg A s y u (e y))/\us.any e=inD d ds:=by refine ⟨yg K H d,λy hy=>?_,t_ F hs rs (by omega)⟩;obtain ⟨d',v',r',q',hd'⟩:=r_ hs rs hd hy;rw [wQ F r' q' (by omega)];exact jV F A r' h q' rx (by omega) (by omega) (by omega)
theorem AN (hu:X.A.units + 64 < PN):dc X (Qj .In) (Ht X.K false):=by
 intro MQ s σ H x y v u Q I rx ry h;obtain ⟨d,p,vs,ds,h1,LV,rfl,h2,h3,h4,q⟩:=h;cases ry;have F:=gz I;rcases h2 with h2 | h2
 ·obtain ⟨its,r,pl⟩:=F.l _ _ h2;obtain ⟨e,he,hany⟩:=zG (A:=X.A.in1) F h1 rx LV (by rw [in1_units];omega) h3 r h4;exact SeqAt.in_listAt e pl (λz hz=>he z (by simpa using hz)) ⟨.bl _,H,I,rfl,by rw [show its.toArray.any e=its.any e by simp,hany];exact q⟩
 ·obtain ⟨its,r,pl⟩:=F.t _ _ h2;obtain ⟨e,he,hany⟩:=zG (A:=X.A.in1) F h1 rx LV (by rw [in1_units];omega) h3 r h4;exact SeqAt.in_tupleAt e pl (λz hz=>he z (by simpa using hz)) ⟨.bl _,H,I,rfl,by rw [show its.toArray.any e=its.any e by simp,hany];exact q⟩
noncomputable def iJ (neg:Bool) (x y:R):M R:=gW y >>= λys=>if deps ys<=60/\dep x.dat<=60 then .ok (.d (.bl (if neg then !inD x.dat ys else inD x.dat ys))) else .bad
theorem Dl (neg:Bool) (hK:X.K=c.K):BD c (Ht X.K neg) (iJ neg):=by
 intro He He' J H x y u v Q hp rx ry w;obtain ⟨ys,q,w⟩:=iZ w;obtain ⟨p,vs,rfl,h1,h2⟩:=ng hp ry q;split at w
 ·rename_i hd;exact ⟨x.dat,p,vs,ys,by rw [hK];exact rx.dat hp,hd.2,rfl,by rw [hK];exact h1,by rw [hK];exact h2.mono hp.sub,hd.1,w _ J H (Ext.refl hp.sub) (.bl _)⟩
 ·exact w.elim
noncomputable abbrev GO:=G (Option Int)
noncomputable def tO (c:C) (g:GO):TO:=λσ H Q=>∃J env,SR c J H σ env/\bR (g env) (λo=>∀J' H',Ext J H J' H'->Q o H') c.T
noncomputable def FZ (X:Cx) (c:C) (e:Option N9) (g:GO):Prop:=PO X e (tO c g)
theorem DN {X:Cx}{e:Option N9}{t t':TO}(h:PO X e t) (k:∀σ H Q,t' σ H Q->t σ H Q):PO X e t':=λMQ s σ H Q I q=>h MQ s σ H Q I (k σ H Q q)
noncomputable def Ak:GO:=λ_=>.ok none
noncomputable def Al (g:G R):GO:=λenv=>g env >>= λr=>match r with
 | .d (.int i)=>.ok (some i)
 | _=>.bad
noncomputable def cutD (xs:List D) (lo hi:Option Int):List D:=(xs.drop (HT.bq xs.length 0 lo)).take (HT.bq xs.length xs.length hi - HT.bq xs.length 0 lo)
theorem az.cut {K:M1}{J:Hp}{xs:List D}{vs:List V}(h:az K J xs vs) (lo hi:Option Int):az K J (cutD xs lo hi) (jO vs lo hi):=by unfold cutD jO;rw [h.length];exact (h.drop _).take _
noncomputable def xh (f:R->Option Int->Option Int->M R) (g:G R) (lo hi:GO):G R:=λenv=>g env >>= λx=>lo env >>= λl=>hi env >>= λu=>f x l u
theorem Iz {r:V->Option Int->Option Int->Hp->VK->Prop}{f:R->Option Int->Option Int->M R}{lo hi:Option N9}{gl gh:GO}{p2:Pos}(hr:o9 X r) (hf:∀(He J H:Hp) (x:R) (v:V) (l u:Option Int) (Q:VK),HI c J H->RR c He J H x v->
   bR (f x l u) (λz=>∀w J' H',Ext J H J' H'->RR c H J' H' z w->Q w H') c.T->r v l u H Q) (h:PD X c e g) (hl:FZ X c lo gl) (hh:FZ X c hi gh):PD X c (.Subscript e (.Slice lo hi none p2) pos) (xh f g gl gh):=
 gc (Ct hr h hl hh) λσ H Q ⟨J,env,sr,w⟩=>by refine ⟨J,env,sr,aC (aL w) λx wx v J1 H1 e1 r1=>?_⟩;refine ⟨J1,env,sr.ext e1,aC (aL wx) λl wl J2 H2 e2=>?_⟩;refine ⟨J2,env,(sr.ext e1).ext e2,aC (aL wl) λu wu J3 H3 e3=>?_⟩;have ee:=(e1.trans e2).trans e3;exact hf H J3 H3 x v l u Q (sr.hp.ext ee) ((r1.ext e2).ext e3) (aC wu λz q w J' H' e4 r4=>q w J' H' (ee.trans e4) (RR.from ee.h r4))
noncomputable def JF (x:R) (l u:Option Int):M R:=jw x >>= λxs=>.ok (.l .fresh (cutD xs l u))
theorem zf {ss:List Str}:∀{us:List M4},Vals (ss.map V.str) us->StrsAre us ss:=by
 induction ss with
 | nil=>intro us h;cases h;exact .nil
 | cons x r ih=>
  intro us h;cases h with
  | cons q rs=>
   obtain ⟨t,rfl⟩:=q;exact .cons x t (ih rs)
theorem sH:∀{us:List M4}{ss:List Str},StrsAre us ss->Vals (ss.map V.str) us
 | _,_,.nil=>.nil
 | _,_,.cons y t h=>.cons ⟨t,rfl⟩ (sH h)
noncomputable def iB (x y:Str):Bool:=decide (x.cps.toList<=y.cps.toList)
noncomputable def nA (ss:List Str):List Str:=ss.mergeSort iB
theorem rQ (x y z:Str) (h1:iB x y=true) (h2:iB y z=true):iB x z=true:=by unfold iB at *;exact decide_eq_true (List.le_trans (of_decide_eq_true h1) (of_decide_eq_true h2))
theorem AD (x y:Str):(iB x y || iB y x)=true:=by
 unfold iB;rw [P0];rcases List.le_total x.cps.toList y.cps.toList with h | h
 ·exact .inl (decide_eq_true h)
 ·exact .inr (decide_eq_true h)
theorem Ca (h1:iB x y=true) (h2:iB y x=true):x=y:=by unfold iB at *;have:=V3 (of_decide_eq_true h1) (of_decide_eq_true h2);obtain ⟨⟨cx⟩⟩:=x;obtain ⟨⟨cy⟩⟩:=y;simp only at this;rw [this]
theorem vK (ss:List Str):(nA ss).Pairwise λx y=>iB x y=true:=List.pairwise_mergeSort rQ AD ss
theorem ze (ss:List Str):(nA ss).Perm ss:=List.mergeSort_perm ss iB
theorem qc:∀(x:Str) (r:List Str),risingS x r=true->(x::r).Pairwise λx y=>iB x y=true
 | x,[],_=>by simp
 | x,y::r,h=>by
  unfold risingS at h;rw [M8] at h;have hy:=qc y r h.2;have hxy:iB x y=true:=by
   have h1:=h.1;rw [ltCps_eq] at h1;unfold iB;refine decide_eq_true ?_;have:¬y.cps.toList < x.cps.toList:=by simpa using h1
   exact this
  refine Ph.mpr ⟨λz hz=>?_,hy⟩;rcases Nj.mp hz with rfl | hz
  ·exact hxy
  ·exact rQ x y z hxy ((Ph.mp hy).1 z hz)
theorem zd {ss ss':List Str}(hp:ss'.Perm ss) (hs:sortedS ss'=true):ss'=nA ss:=by
 have pw:ss'.Pairwise λx y=>iB x y=true:=by
  cases ss' with
  | nil=>exact Qh
  | cons x r=>exact qc x r hs
 exact (hp.trans (ze ss).symm).eq_of_pairwise (λx y _ _ h1 h2=>Ca h1 h2) pw (vK ss)
theorem uv:bw X (.builtin "sorted") (λxs H Q=>∃p ss,xs=[.ref p]/\bN X.K H p (ss.map V.str)/\ss.length < 64/\∀ss',ss'.Perm ss->sortedS ss'=true->∀l,H l=none->Q (.ref l) (upd H l (.lst (ss'.map V.str)))):=by
 intro MQ s σ H xs us Q I r h;obtain ⟨p,ss,rfl,hq,hl,q⟩:=h;obtain ⟨u,rfl,rx⟩:=vals1 r;cases rx;obtain ⟨its,r',pl,hz⟩:=I.list hq;have hlen:=r'.length;refine sorted_strs pl.isList (zf r') (by rw [<-hlen,M7];exact hl) λout ss' a1 a2 a3=>?_;obtain ⟨n,hn⟩:=sortedAll_at s.heap its out;have kp:∀b o,s.heap.get? b=some o->(sortedAll s.heap its out).get? b=some o:=λb o e=>sortedAll_old e;have fr:H (s.heap.objs.size + 1)=none:=I.hok.fresh (QL _);have ll:(ss'.map V.str).length=(ss.map V.str).length:=by rw [M7,M7,a2.length_eq]
 refine ⟨.ref (s.heap.objs.size + 1),_,I.laid (t':=s.toks) kp (QL _) (show bU X.prog X.w _ _ _ (.lst (ss'.map V.str)) from ⟨by rw [ll];exact hz,out.toList,n,sH a1,by simpa [P1] using hn⟩),rfl,q ss' a2 a3 _ fr⟩
noncomputable def strsOf:List D->Option (List Str)
 | []=>some []
 | .str x::r=>(strsOf r).map (x::·)
 | _::_=>none
theorem qo {K:M1}{J:Hp}:∀{ds:List D}{vs:List V}{ss:List Str},strsOf ds=some ss->az K J ds vs->vs=ss.map V.str
 | [],_,_,h,.nil=>by cases h;rfl
 | .str x::r,_,ss,h,.cons q rs=>by
  unfold strsOf at h;cases z:strsOf r with
  | none=>rw [z] at h;cases h
  | some ss'=>
   rw [z] at h;cases h;cases q;rw [qo z rs];rfl
theorem se {K:M1}{J:Hp}:∀(ss:List Str),az K J (ss.map D.str) (ss.map V.str)
 | []=>.nil
 | x::r=>.cons (.str x) (se r)
noncomputable def jY:List R->M R
 | [r]=>jw r >>= λxs=>match strsOf xs with
  | some ss=>if ss.length < 64 then .ok (.l .fresh ((nA ss).map .str)) else .bad
  | none=>.bad
 | _=>.bad
theorem gQ:OC "sorted"=some (.builtin "sorted"):=by decide +kernel
theorem foldl_size (c:Array Nat):∀(k:Nat) (acc:Array Nat),((Ot k c).foldl (·++·) acc).size=acc.size + k * c.size
 | 0,acc=>by simp
 | k + 1,acc=>by rw [QN,RL,foldl_size c k,Array.size_append,Nat.succ_mul];omega
noncomputable def gu (x:Str) (n:Nat):Str:=⟨(Ot n x.cps).foldl (·++·) #[]⟩
theorem wg (x:Str) (n:Nat):(gu x n).length=n * x.length:=by unfold gu W6;simp only;rw [foldl_size];simp
theorem ER:dc X (Q9 .Mult) (λx y H Q=>∃z n,x=.str z/\y=.int n/\0<=n/\n<=1000/\z.length<=1000/\Q (.str (gu z n.toNat)) H):=by
 intro MQ s σ H x y v u Q I rx ry h;obtain ⟨z,n,rfl,rfl,h0,h1,h2,q⟩:=h;obtain ⟨t,rfl⟩:=rx;obtain ⟨t',rfl⟩:=ry;have hz:U5 (z.length * n.toNat)=false:=by have:z.length * n.toNat<=1000 * 1000:=Sh h2 (by omega);unfold U5;exact decide_eq_false (by have:=OG;omega)
 refine PySem.P.mul_str (by
  rw [decide_eq_false (by omega:¬n < -(2 ^ 63:Int)),decide_eq_false (by omega:¬n ≥ 2 ^ 63)];rfl) (λhn _=>?_) (λ_ _=>hz) ?_
 ·have:(2 ^ 63 - 1:Int) / 1000<=(2 ^ 63 - 1) / n:=by refine (Int.le_ediv_iff_mul_le (by omega)).mpr ?_;have:(2 ^ 63 - 1:Int) / 1000 * n<=(2 ^ 63 - 1:Int) / 1000 * 1000:=Int.mul_le_mul_of_nonneg_left h1 (by decide);exact Int.le_trans this (by decide)
  have e:(2 ^ 63 - 1:Int) / 1000=9223372036854775:=by decide
  omega
 ·split
  ·rename_i hn;have e:n=0:=by omega
   subst e;exact ⟨by decide,.str _,H,I.tok _,⟨_,rfl⟩,q⟩
  ·split
   ·rename_i hn hc;have e:gu z n.toNat=z:=by
     unfold gu;rw [P0] at hc;rcases hc with hc | hc
     ·have e:n=1:=by simpa using hc
      subst e;simp
     ·have e:z.length=0:=by simpa using hc
      have e2:z.cps=#[]:=by unfold W6 at e;exact Array.eq_empty_of_size_eq_zero e
      obtain ⟨cz⟩:=z;simp only at e2;subst e2;congr 1;generalize n.toNat=k
      induction k with
      | zero=>rfl
      | succ k ih=>rw [QN,RL];exact ih
    rw [e] at q;exact ⟨.str z,H,I,⟨_,rfl⟩,q⟩
   ·exact ⟨by
     have:=wg z n.toNat
     unfold gu at this;rw [this,Nat.mul_comm];have:z.length * n.toNat<=1000 * 1000:=Sh h2 (by omega);rw [OG];omega,.str _,H,I.tok _,⟨_,rfl⟩,q⟩
noncomputable def yz:R->R->M R
 | .d (.str z),.d (.int n)=>if 0<=n/\n<=1000/\z.length<=1000 then .ok (.d (.str (gu z n.toNat))) else .bad
 | _,_=>.bad
noncomputable def jo:D->String
 | .non=>"NoneType"
 | .bl _=>"bool"
 | .int _=>"int"
 | .str _=>"str"
 | .tup _=>"tuple"
 | .lst _=>"list"
 | .emp=>"dict"
 | .exn _ _ _=>"exc"
 | .dct _ _=>"dict"
noncomputable def mZ (t T:String):Bool:=t == T || (t == "bool" && T == "int")
noncomputable def Au:R->Bool
 | .d (.int _)=>true
 | _=>false
noncomputable def Gv:R->Bool
 | .d (.str _)=>true
 | _=>false
noncomputable def c7 (x y:R):M R:=if Au x then BV x y else if Gv x then pD x y else pG x y
noncomputable def fE (x y:R):M R:=if Au x then Gj x y else yz x y
noncomputable def bg (x y:R):M R:=match x,y with
 | .d (.str z),.d (.int i)=>if z.length<=sizeLine then (match lD z.cps.toList i with
  | some k=>.ok (.d (.str ⟨#[k]⟩))
  | none=>.bad) else .bad
 | x,.d (.int i)=>gW x >>= λxs=>(match lD xs i with
  | some d=>.ok (.d d)
  | none=>.bad)
 | _,_=>.bad
noncomputable def cH (P:Nt) (w:NS) (K:M1) (mg:Str->Option M4) (base:OQ) (k n:Nat) (x:Str) (Fm:List S->M R):Prop:=
 ∃f fd ps,gH P w K mg base jR k f fd ps (lM K n Fm)/\mg x=some (.ref f)/\QV K (.ref f)=true/\Binds K fd ps []
theorem F9 {P:Nt}{w:NS}{K:M1}{mg:Str->Option M4}{base:OQ}{x MV:Str}{st:RB}{f:Nu}{fd:Oz}{N ps:List Str}{k:Nat}{Fm:List S->M R}(F:jS K x MV st f fd) (hm:mg x=some (.ref f)) (Sc:eZ N ps (aT st))
  (hbi:∀(kV doc pm:M4) (an:Option Nu) (cdv ct:M4) (us:List M4),us.length=ps.length->Wa (Pr x MV (eu st) (cC st) (aT st) .none kV doc pm an cdv ct) ⟨us,[]⟩=pure (ps.zip us)){gB:G O}
  (hb:∀(cdv:M4) (A:NK) (outer:List Env) (s:M5) (H:Hp) (E:XK) (J:Hp) (T:Exc->Prop),cZ k (A.deeper (S7 MV (aT st) s.heap.objs.size f cdv))->
   FY (w4 P w K mg base N MV (aT st) f cdv A outer s H E) ⟨K,H,J,T⟩ (cC st) gB)
  (hF:∀as r,as.length=ps.length->Fm as=.ok r->fin (gB (bA N as))=.ok r):cH P w K mg base (k + 1) ps.length x Fm:=
 ⟨f,fd,ps,Ag F Sc hb hF,hm,F.kp,F.binds hbi⟩
noncomputable def Cj:List Str->Bool
 | []=>true
 | x::r=>!(r.contains x) && Cj r
theorem c5:∀{l:List Str},Cj l=true->l.Nodup
 | [],_=>QW
 | x::r,h=>by unfold Cj at h;rw [M8] at h;refine PZ.mpr ⟨λz=>?_,c5 h.2⟩;have:=h.1;simp [z] at this
theorem BU {H:Hp}{s:M5}{a C:Nu}{dx:Option Nu}(I:L2.Inv X MQ σ H s) (h:H a=some (DX.XO a C dx)) (xf:XF H dx ns vs):∃ox od,Rm s.heap a ox C od/\od.isSome=dx.isSome/\(∀d,dx=some d->∃o,od=some o/\s.heap.get? d=some o):=by
 obtain ⟨⟨oe,fs,h1,h2,h3,h4⟩,_⟩:=I.hok a _ h;have hn:WN oe=true:=by unfold WN;rw [h4]
 rcases xf with ⟨rfl,_⟩ | ⟨d,rfl,_,hd⟩
 ·exact ⟨oe,none,⟨h1,h2,hn,by rw [h3];exact UO⟩,rfl,λd z=>by cases z⟩
 ·obtain ⟨m,⟨o,es,ep,k1,_⟩,_⟩:=I.hok d _ hd;exact ⟨oe,some o,⟨h1,h2,hn,by rw [h3];exact k1⟩,rfl,λd' z=>by cases z;exact ⟨o,rfl,k1⟩⟩
noncomputable def zy (T:String):Prop:=(∀(K:M1) (t:String),t∈["NoneType","bool","int","str","tuple","list","dict"]->UU K (.type t) (.type T)=some (mZ t T))/\Wk T=true/\DX.vS.contains (.type T)=false/\mZ "exc" T=false
theorem Ks:zy "int":=⟨λK t h=>by
 simp only [Nj,Of,or_false] at h;rcases h with rfl | rfl | rfl | rfl | rfl | rfl | rfl <;> rfl,by decide +kernel,by decide,by decide⟩
theorem uX:zy "bool":=⟨λK t h=>by
 simp only [Nj,Of,or_false] at h;rcases h with rfl | rfl | rfl | rfl | rfl | rfl | rfl <;> rfl,by decide +kernel,by decide,by decide⟩
theorem kit_tuple:zy "tuple":=⟨λK t h=>by
 simp only [Nj,Of,or_false] at h;rcases h with rfl | rfl | rfl | rfl | rfl | rfl | rfl <;> rfl,by decide +kernel,by decide,by decide⟩
theorem v7 {T:String}(kit:zy T):
  bw X (.builtin "isinstance") (λxs H Q=>∃d x,xs=[x,.ty T]/\Rep X.K H d x/\Q (.bl (mZ (jo d) T)) H):=by
 intro MQ s σ H xs us Q I r h;obtain ⟨d,x,rfl,hd,q⟩:=h;obtain ⟨u,w',rfl,rx,ry⟩:=vals2 r;cases ry;have fin:∀tk,EP X MQ σ Q (.bool (mZ (jo d) T)) {s with toks:=tk}:=λtk=>⟨.bl _,H,I.tok tk,rfl,q⟩;have F:=gz I;cases hd with
 | non=>cases rx;exact P4 W.kitx_none I.kIn UO (kit.1 X.K _ (by simp [jo])) (λz=>nomatch z) fin
 | bl y=>cases rx;exact P4 W.kitx_bool I.kIn UO (kit.1 X.K _ (by simp [jo])) (λz=>nomatch z) fin
 | int i=>obtain ⟨t,rfl⟩:=rx;exact P4 W.kitx_int I.kIn UO (kit.1 X.K _ (by simp [jo])) (λz=>nomatch z) fin
 | str y=>obtain ⟨t,rfl⟩:=rx;exact P4 W.kitx_str I.kIn UO (kit.1 X.K _ (by simp [jo])) (λz=>nomatch z) fin
 | tup h hs=>
  cases rx;obtain ⟨its,r,o,h1,h2,_⟩:=F.t _ _ h;exact P4 W.kitx_tuple I.kIn ⟨o,h1,h2⟩ (kit.1 X.K _ (by simp [jo])) (λz=>nomatch z) fin
 | lst h hs=>
  cases rx;obtain ⟨its,r,o,h1,h2,_⟩:=F.l _ _ h;exact P4 W.kitx_list I.kIn ⟨o,h1,h2⟩ (kit.1 X.K _ (by simp [jo])) (λz=>nomatch z) fin
 | emp h=>
  cases rx;obtain ⟨o,h1,h2⟩:=F.e _ h;exact P4 VJ I.kIn ⟨o,h1,h2⟩ (kit.1 X.K _ (by simp [jo])) (λz=>nomatch z) fin
 | dct h _ _ _ _=>
  cases rx;obtain ⟨o,es,h1,h2,_⟩:=F.d _ _ _ h;exact P4 VJ I.kIn ⟨o,h1,h2.1⟩ (kit.1 X.K _ (by simp [jo])) (λz=>nomatch z) fin
 | exn h1 h2 h3 hs hx=>
  cases rx;obtain ⟨P,G,E⟩:=hx;obtain ⟨ox,od,J,_⟩:=BU I h1 h3;simp only [jo,kit.2.2.2] at fin;exact P4 (DX.B8 G E) I.kIn ⟨ox,od,J⟩ (DX.GH E kit.2.1 kit.2.2.1) (λz=>nomatch z) fin
noncomputable def uM (T:String) (g:G R):G R:=λenv=>g env >>= λr=>.ok (.d (.bl (mZ (jo r.dat) T)))
noncomputable def kH:List D->Option (List Bool)
 | []=>some []
 | .bl k::r=>(kH r).map (k::·)
 | _::_=>none
theorem rD {K:M1}{J:Hp}:∀{ds:List D}{vs:List V}{ks:List Bool},kH ds=some ks->az K J ds vs->vs=ks.map V.bl
 | [],_,_,h,.nil=>by cases h;rfl
 | .bl x::r,_,ks,h,.cons q rs=>by
  unfold kH at h;cases z:kH r with
  | none=>rw [z] at h;cases h
  | some ks'=>
   rw [z] at h;cases h;cases q;rw [rD z rs];rfl
theorem vR:∀{ks:List Bool}{us:List M4},Vals (ks.map V.bl) us->us=ks.map R4
 | [],_,.nil=>rfl
 | k::ks,_,.cons r rs=>by cases r;rw [vR rs];rfl
theorem all_range (ks:List Bool):(Ng ks.length).all (λi=>ks.getD i true)=ks.all id:=by
 induction ks with
 | nil=>rfl
 | cons k r ih=>
  rw [OP,Uj,QM,UB,QM];simp only [List.getD_cons_zero];rw [<-ih];rfl
theorem zP (hc:X.calm=true):bw X (.builtin "all") (λxs H Q=>∃(p:Nu) (ks:List Bool),xs=[.ref p]/\bN X.K H p (ks.map V.bl)/\Q (.bl (ks.all id)) H):=by
 intro MQ s σ H xs us Q I r h;obtain ⟨p,ks,rfl,hq,q⟩:=h;obtain ⟨u,rfl,rx⟩:=vals1 r;cases rx;obtain ⟨its,r',pl,hz⟩:=I.list hq;have hi:=vR r';subst hi;have MA:p≠s.heap.objs.size:=by obtain ⟨o,h1,_⟩:=pl.isList;exact NF (Nk h1)
 refine call_all_walk (R9 pl.isList ⟨s.heap.objs.size,_,_,_,_,_,(λi=>ks.getD i true),rfl,YC (A:=X.A.in1) (show X.A.in1.handled=none from I.ok.hd hc) s.heap.objs.size p MA (ks.map R4).toArray,⟨⟨_,Nf _ rfl,rfl,rfl⟩,V4 pl.isList _⟩,?_,λh' tk k=>?_⟩)
 ·intro i v s' Q' E' hP hQ;have e:∃k,ks[i]?=some k/\v=.bool k:=by
   have hP':(ks.map R4)[i]?=some v:=by simpa using hP
   rw [Nx] at hP';cases z:ks[i]? with
   | none=>rw [z] at hP';cases hP'
   | some k=>rw [z] at hP';cases hP';exact ⟨k,rfl,rfl⟩
  obtain ⟨k,e1,rfl⟩:=e;simp only at hQ;rw [N_,e1] at hQ;exact QG hQ
 ·have sz:(ks.map R4).toArray.size=ks.length:=by simp
  rw [sz,all_range];refine ⟨.bl (ks.all id),H,?_,rfl,q⟩;refine I.kept λb o e=>k b o (λz=>?_) (M6 _ e);have:b=s.heap.objs.size:=by simpa using z
  exact absurd (this▸Nk e) (PM _)
noncomputable def qF:List R->M R
 | [r]=>jw r >>= λxs=>match kH xs with
  | some ks=>.ok (.d (.bl (ks.all id)))
  | none=>.bad
 | _=>.bad
theorem zM:OC "all"=some (.builtin "all"):=by decide +kernel
theorem F7 {H:Hp}{s:M5}(I:Inv X MQ σ H s):R6 < s.heap.objs.size:=by have h:NT < s.heap.objs.size:=(I.mod.glob.keeps I.bk).lt;exact Pb (by decide) h
theorem AL:dc X (Q9 .Add) (λx y H Q=>∃a b xs ys,x=.ref a/\y=.ref b/\bT X.K H a xs/\bT X.K H b ys/\xs.length + ys.length<=sizeLine/\
  (xs=[]->Q (.ref b) H)/\(ys=[]->Q (.ref a) H)/\∀p,H p=none->Q (.ref p) (upd H p (.tup (xs++ys)))):=by
 intro MQ s σ H x y v u Q I rx ry h;obtain ⟨a,b,xs,ys,rfl,rfl,ha,hb,hz,q0,q1,q2⟩:=h;by_cases hx:xs=[]
 ·cases rx;cases ry;obtain ⟨its,r1,p1,_⟩:=I.tuple ha;obtain ⟨its2,r2,p2,_⟩:=I.tuple hb;have he:its=[]:=r1.nil_iff.mpr hx;subst he;obtain ⟨⟨cls,dd,data,sl⟩,ho,hc,n,hd⟩:=id p1;obtain ⟨⟨cls2,dd2,data2,sl2⟩,ho2,hc2,n2,hd2⟩:=id p2;simp only at hc hd hc2 hd2;subst hc hd hc2 hd2;exact VU ⟨_,ho,rfl⟩ ⟨_,ho2,rfl⟩ T_ Vd RZ RH (Rx _ _) (tuple_addW0 a b _ _ n n2 dd dd2 sl sl2 rfl) ⟨ho,ho2,⟨.ref b,H,I,rfl,q0 hx⟩⟩
 ·exact EN MQ s σ H (.ref a) (.ref b) v u Q I rx ry ⟨a,b,xs,ys,rfl,rfl,ha,hb,hx,hz,q1,λ_=>q2⟩
noncomputable def yw:R->R->M R
 | .d (.tup xs),.d (.tup ys)=>if xs.length + ys.length<=sizeLine then .ok (.d (.tup (xs++ys))) else .bad
 | _,_=>.bad
theorem Eb (hK:X.K=c.K):BD c (λx y H Q=>∃a b xs ys,x=.ref a/\y=.ref b/\bT X.K H a xs/\bT X.K H b ys/\xs.length + ys.length<=sizeLine/\
  (xs=[]->Q (.ref b) H)/\(ys=[]->Q (.ref a) H)/\∀p,H p=none->Q (.ref p) (upd H p (.tup (xs++ys)))) yw:=by
 intro He He' J H x y u v Q hp rx ry w;unfold yw at w;split at w
 ·rename_i ds es;cases rx with
  | tup h1 s1=>
   cases ry with
   | tup h2 s2=>
    split at w
    ·rename_i hz;rw [s1.length,s2.length] at hz;refine ⟨_,_,_,_,rfl,rfl,by rw [hK];exact dQ hp.sub h1,by rw [hK];exact dQ hp.sub h2,hz,λe=>?_,λe=>?_,λp hp'=>w _ _ _ (Ext.newJ hp.sub hp' _) (kB hp hp' (s1.append s2))⟩
     ·have e':ds=[]:=Ss (by rw [s1.length,e];rfl);subst e';exact w _ J H (Ext.refl hp.sub) (.tup h2 s2)
     ·have e':es=[]:=Ss (by rw [s2.length,e];rfl);subst e';rw [O0] at w;exact w _ J H (Ext.refl hp.sub) (.tup h1 s1)
    ·exact w.elim
 ·exact w.elim
noncomputable def Gw:R->Bool
 | .d (.tup _)=>true
 | _=>false
noncomputable def d8 (x y:R):M R:=if Gw x then yw x y else c7 x y
noncomputable def signs (x:Str):List D:=x.cps.toList.map λk=>.str ⟨#[k]⟩
noncomputable def KU (g:G R):G (List D):=λenv=>g env >>= λr=>match r with
 | .d (.str x)=>.ok (signs x)
 | _=>.bad
theorem wC {prog:Nt}{w:NS}{A:NK}{E:M4->M5->Prop}{s:M5}{t sl:Nu}{MR:Array M4}{vl vu:M4}{lo hi:Option Int}{Q:M4->M5->Prop}(ht:Yy s.heap t MR) (hs:s.heap.IsSliceOf sl vl vu .none) (pl:Ve vl lo) (pu:Ve vu hi)
  (hw:HT.bq MR.size 0 lo=0/\HT.bq MR.size MR.size hi=MR.size) (h:Q (.ref t) s):Nm (Nq prog w) A (Uw (.ref t) (.ref sl)) Q E s:=by
 obtain ⟨os,hos,hcs,hds⟩:=id hs;have LI:s.TypeIs (.ref sl) "slice":=⟨os,hos,hcs⟩;unfold Uw
 try with_reducible refine NU ?_
 first | refine M0 (M3 ?_) | skip
 refine M0 (Tt ht.typeIs (by decide) ?_);refine M0 (Og (name:=QJ "__getitem__") ht.typeIs NO
  (Oe NO ht.typeIs SH ?_ (S8 _ _)))
 show Nm _ _ (Qp (.ref t) >>= _) _ _ s;refine M0 (Vg ht ?_);refine M0 (Ry LI ?_);rw [if_pos (by decide)];refine M0 (HT.jn hs pl pu ?_);have hyes:(((HT.bq MR.size 0 lo:Nat):Int) == 0 && (1:Int) == 1 && (HT.bq MR.size MR.size hi - HT.bq MR.size 0 lo) == MR.size)=true:=by rw [hw.1,hw.2];simp
 show Nm _ _ (if (((HT.bq MR.size 0 lo:Nat):Int) == 0 && (1:Int) == 1 && (HT.bq MR.size MR.size hi - HT.bq MR.size 0 lo) == MR.size)=true then _ else _) _ _ s;rw [if_pos hyes];unfold WK;refine M0 (M0 (Ry ht.typeIs (M3 ?_)));rw [if_pos (by decide)];exact M0 (Py (M3 ⟨_,rfl,M3 h⟩))
theorem Bc:o9 X (λx lo hi H Q=>∃a xs,x=.ref a/\bT X.K H a xs/\((HT.bq xs.length 0 lo=0/\HT.bq xs.length xs.length hi=xs.length)->Q (.ref a) H)/\∀p,H p=none->Q (.ref p) (upd H p (.tup (jO xs lo hi)))):=by
 intro MQ s σ H x v vl vu lo hi sl Q I rx hs pl pu h;obtain ⟨a,xs,rfl,hx,q0,q1⟩:=h;by_cases hw:HT.bq xs.length 0 lo=0/\HT.bq xs.length xs.length hi=xs.length
 ·cases rx;obtain ⟨its,r,ht,hz⟩:=I.tuple hx;have hlen:its.toArray.size=xs.length:=by rw [Ni];exact r.length.symm
  exact ⟨"tuple",_,NO.lookup,ht.typeIs,wC ht hs pl pu (by rw [hlen];exact hw) ⟨.ref a,H,I,rfl,q0 hw⟩⟩
 ·exact HL MQ s σ H (.ref a) v vl vu lo hi sl Q I rx hs pl pu ⟨a,xs,rfl,hx,hw,q1⟩
theorem yt {xs:List D}{lo hi:Option Int}(h:HT.bq xs.length 0 lo=0/\HT.bq xs.length xs.length hi=xs.length):cutD xs lo hi=xs:=by unfold cutD;rw [h.1,h.2];simp
noncomputable def BW:R->Option Int->Option Int->M R
 | .d (.tup xs),l,u=>.ok (.d (.tup (cutD xs l u)))
 | _,_,_=>.bad
theorem Kd (hK:X.K=c.K) (He J H:Hp) (x:R) (v:V) (l u:Option Int) (Q:VK) (hp:HI c J H) (rx:RR c He J H x v) (w:bR (BW x l u) (λz=>∀w J' H',Ext J H J' H'->RR c H J' H' z w->Q w H') c.T):
  ∃a xs,v=.ref a/\bT X.K H a xs/\((HT.bq xs.length 0 l=0/\HT.bq xs.length xs.length u=xs.length)->Q (.ref a) H)/\∀p,H p=none->Q (.ref p) (upd H p (.tup (jO xs l u))):=by
 unfold BW at w;split at w
 ·rename_i ds;cases rx with
  | tup h1 s1=>
   refine ⟨_,_,rfl,by rw [hK];exact dQ hp.sub h1,λhw=>?_,λp hp'=>w _ _ _ (Ext.newJ hp.sub hp' _) (kB hp hp' (s1.cut _ _))⟩;rw [<-s1.length] at hw;rw [yt hw] at w;exact w _ J H (Ext.refl hp.sub) (.tup h1 s1)
 ·exact w.elim
noncomputable def qG (x:R) (l u:Option Int):M R:=if Gw x then BW x l u else JF x l u
theorem wz {prog:Nt}{w:NS}{A:NK}{E:M4->M5->Prop}{s:M5}{sl:Nu}{t:Tok}{n:Nat}{Q:Int×Int×Nat->M5->Prop}(hs:s.heap.IsSliceOf sl .none .none (.int (-1) t))
  (h:Q ((n:Int) - 1,-1,n) s):Nm (Nq prog w) A (Qo (.ref sl) (pure (n:Int))) Q E s:=by
 obtain ⟨os,hos,hcs,hds⟩:=id hs;unfold Qo Te;refine M0 (M0 (ON hos hds (x:=.none) rfl (M0 (ON hos hds (x:=.none) rfl (M0 (ON hos hds (x:=.int (-1) t) rfl (M3 ?_)))))));refine M0 (Xl ?_);show Nm _ _ (if ((-1:Int) == 0)=true then _ else _) _ _ s;rw [if_neg (by decide)];refine M0 (Td (M0 (Td (M0 (M3 ?_)))));have e1:PU none none (-1) (n:Int)=((n:Int) - 1,-1):=rfl;have e2:Oh ((n:Int) - 1) (-1) (-1)=n:=by
  unfold Oh;rw [if_neg (by decide)];split
  ·simp only [Int.neg_neg,XG];omega
  ·omega
 show Nm _ _ (match PU none none (-1) (n:Int) with | (lo,hi)=>pure (lo,(-1:Int),Oh lo hi (-1))) _ _ s;rw [e1];show Nm _ _ (pure ((n:Int) - 1,(-1:Int),Oh ((n:Int) - 1) (-1) (-1))) _ _ s;rw [e2];exact M3 h
theorem Af {α β:Type}{f:α->Option β}{g:α->β}:∀(l:List α),(∀m∈l,f m=some (g m))->l.filterMap f=l.map g
 | [],_=>rfl
 | x::r,h=>by rw [Rt,h x Nd,Nz];simp only;rw [Af r λm hm=>h m (Na _ hm)]
theorem Cy (xs:Array M4):((Ng xs.size).filterMap λ(m:Nat)=>xs[(((xs.size:Int) - 1) + (m:Int) * (-1)).toNat]?)=xs.toList.reverse:=by
 have e:((Ng xs.size).filterMap λ(m:Nat)=>xs[(((xs.size:Int) - 1) + (m:Int) * (-1)).toNat]?)=(Ng xs.size).map λm=>(xs.toList.reverse).getD m .none:=by
  refine Af _ λm hm=>?_;have hm':m < xs.size:=NQ.mp hm;have e1:(((xs.size:Int) - 1) + (m:Int) * (-1)).toNat=xs.size - 1 - m:=by omega
  rw [e1];simp [N_,hm',Sl,show xs.size - 1 - m < xs.size by omega]
 rw [e];refine P8 (by simp) λi h1 h2=>?_;simp [N_];have:i < xs.size:=by simpa using h1
 simp [Sl,this,show xs.size - 1 - i < xs.size by omega]
theorem Bm {prog:Nt}{w:NS}{A:NK}{E:M4->M5->Prop}{s:M5}{t sl:Nu}{MR:Array M4}{k:Tok}{Q:M4->M5->Prop}(ht:Yy s.heap t MR) (hs:s.heap.IsSliceOf sl .none .none (.int (-1) k))
  (h:Q (.ref s.heap.objs.size) {s with heap:=s.heap.push {cls:=.type "tuple",data:=.seq MR.toList.reverse.toArray}}) (hsz:MR.size<=sizeLine):Nm (Nq prog w) A (Uw (.ref t) (.ref sl)) Q E s:=by
 obtain ⟨os,hos,hcs,hds⟩:=id hs;have LI:s.TypeIs (.ref sl) "slice":=⟨os,hos,hcs⟩;have K5:sizeOk (.seq MR.toList.reverse.toArray):=by show MR.toList.reverse.toArray.size<=sizeLine;simpa using hsz
 unfold Uw
 try with_reducible refine NU ?_
 first | refine M0 (M3 ?_) | skip
 refine M0 (Tt ht.typeIs (by decide) ?_);refine M0 (Og (name:=QJ "__getitem__") ht.typeIs NO
  (Oe NO ht.typeIs SH ?_ (S8 _ _)))
 show Nm _ _ (Qp (.ref t) >>= _) _ _ s;refine M0 (Vg ht ?_);refine M0 (Ry LI ?_);rw [if_pos (by decide)];refine M0 (wz hs ?_);have hno:¬((((MR.size:Int) - 1) == 0 && (-1:Int) == 1 && MR.size == MR.size)=true):=by intro q;rw [M8,M8] at q;exact absurd (eq_of_beq q.1.2) (by decide)
 show Nm _ _ (if (((MR.size:Int) - 1) == 0 && (-1:Int) == 1 && MR.size == MR.size)=true then _ else _) _ _ s;rw [if_neg hno,Cy]
 first
  | exact M0 (m:=Ol _) (NP (M3 ⟨_,rfl,M3 h⟩) K5)
  | exact M0 (m:=Ol _) (NP (M0 (M3 (M3 ⟨_,rfl,M3 h⟩))) K5)
  | exact M0 (M0 (m:=Ol _) (NP (M3 (M3 ⟨_,rfl,M3 h⟩)) K5))
  | exact M0 (M0 (m:=Ol _) (NP (M3 ⟨_,rfl,M3 h⟩) K5))
theorem az.rev {K:M1}{J:Hp}:∀{ds:List D}{vs:List V},az K J ds vs->az K J ds.reverse vs.reverse
 | _,_,.nil=>.nil
 | _,_,.cons h hs=>by rw [R8,R8];exact (az.rev hs).append (.cons h .nil)
noncomputable def BX (g:G R):G R:=λenv=>g env >>= λr=>match r with
 | .d (.tup xs)=>.ok (.d (.tup xs.reverse))
 | _=>.bad
end
structure gY (prog:Nt) (w:NS) (it src:Nu) (vals:Array M4) (St:Nat->OQ->Prop):Prop where
 keep:∀(k:Nat) (h h':OQ),St k h->(∀o,h.get? it=some o->h'.get? it=some o)->(∀o,h.get? src=some o->h'.get? src=some o)->St k h'
 there:∀(k:Nat) (h:OQ),St k h->∃o,h.get? it=some o/\∀v,o.data≠.cell v
 item:∀(A:NK) (s:M5) (k:Nat) (x:M4) (Q:M4->M5->Prop) (E:M4->M5->Prop),St k s.heap->vals[k]?=some x->(∀h',St (k + 1) h'->OM it s.heap h'->Q x {s with heap:=h'})->
  Nm (Nq prog w) A (NZ (.ref it)) Q E s
 fin:∀(A:NK) (s:M5) (k:Nat) (Q:M4->M5->Prop) (E:M4->M5->Prop),A.handled=none->St k s.heap->vals[k]?=none->
  (∀h' e,Wm it s.heap h'->(∃o,h'.get? e=some o/\o.cls=.type "StopIteration")->E (.ref e) {s with heap:=h'})->Nm (Nq prog w) A (NZ (.ref it)) Q E s
theorem jA (prog:Nt) (w:NS) (it l:Nu) (vals:Array M4) (hne:l≠it):gY prog w it l vals (λk h=>h.IsListIter it l k/\h.IsList l vals) where
 keep:=λk h h' st k1 k2=>⟨st.1.at λo e=>k1 o e,st.2.at λo e=>k2 o e⟩
 there:=λk h st=>by obtain ⟨⟨o,e,_,d⟩,_⟩:=st;exact ⟨o,e,λv z=>by rw [d] at z;cases z⟩
 item:=λA s k x Q E st hx hQ=>wpAny_nextOf_list_item st.1 st.2 hx λh' a1 a2=>hQ h' ⟨a1,st.2.extBut a2.extBut hne⟩ a2
 fin:=λA s k Q E hh st hx hE=>wpAny_nextOf_list_end hh st.1 st.2 hx hE
theorem next_tuple_item {prog:Nt}{w:NS}{A:NK}{E:M4->M5->Prop}{s:M5}{it t:Nu}{k:Nat}{vals:Array M4}{x:M4}{Q:M4->M5->Prop}(hit:s.heap.IsTupleIter it t k) (ht:s.heap.IsTuple t vals) (hx:vals[k]?=some x)
  (hQ:∀h',h'.IsTupleIter it t (k + 1)->OM it s.heap h'->Q x {s with heap:=h'}):Nm (Nq prog w) A (NZ (.ref it)) Q E s:=by obtain ⟨oi,Lu,Mg,hdi⟩:=id hit;obtain ⟨ot,Ma,_,nt,hdt⟩:=ht;unfold NZ;refine M0 (Og (name:=QJ "__next__") hit.typeIs Qq (Oe Qq hit.typeIs SN ?_ (SD _)));show Nm _ _ (field (.ref it) 0 >>= _) _ _ s;refine M0 (ON Lu hdi (x:=.ref t) rfl ?_);show Nm _ _ (if (RC t == Oc)=true then _ else _) _ _ s;rw [if_neg (show ¬(RC t == Oc)=true from λz=>N6 z)];show Nm _ _ (field (.ref it) 1 >>= _) _ _ s;refine M0 (ON Lu hdi (x:=.int k 0) rfl ?_);show Nm _ _ (XM (.ref t) >>= _) _ _ s;refine M0 (Pf Ma hdt ?_);simp only [Pa,hx];refine M0 (WO Lu hdi (by simp) (M3 ⟨x,rfl,M3 (hQ _ ?_ (O8 ..))⟩));exact ⟨_,OO _ Lu (Obj.isFreed_of_fields (Vo hdi _)),(Obj.cls_mapFields ..).trans Mg,by rw [Vo hdi] <;> simp [W4]⟩
theorem next_tuple_end {prog:Nt}{w:NS}{A:NK}{E:M4->M5->Prop}{s:M5}{it t:Nu}{k:Nat}{vals:Array M4}{Q:M4->M5->Prop}(hh:A.handled=none) (hit:s.heap.IsTupleIter it t k) (ht:s.heap.IsTuple t vals) (hx:vals[k]?=none)
  (hE:∀h' e,Wm it s.heap h'->(∃o,h'.get? e=some o/\o.cls=.type "StopIteration")->E (.ref e) {s with heap:=h'}):Nm (Nq prog w) A (NZ (.ref it)) Q E s:=by
 obtain ⟨oi,Lu,Mg,hdi⟩:=id hit;obtain ⟨ot,Ma,_,nt,hdt⟩:=ht;unfold NZ;refine M0 (Og (name:=QJ "__next__") hit.typeIs Qq (Oe Qq hit.typeIs SN ?_ (SD _)));show Nm _ _ (field (.ref it) 0 >>= _) _ _ s;refine M0 (ON Lu hdi (x:=.ref t) rfl ?_);show Nm _ _ (if (RC t == Oc)=true then _ else _) _ _ s;rw [if_neg (show ¬(RC t == Oc)=true from λz=>N6 z)];show Nm _ _ (field (.ref it) 1 >>= _) _ _ s;refine M0 (ON Lu hdi (x:=.int k 0) rfl ?_);show Nm _ _ (XM (.ref t) >>= _) _ _ s;refine M0 (Pf Ma hdt ?_);simp only [Pa,hx];refine M0 (Py (M0 (WO Lu hdi (by simp) ?_)));show Nm _ _ (newExc (.type "StopIteration") [] >>= _) _ _ _;refine M0 ?_;simp only [newExc,newTuple];refine M0 (NP ?_ (by size_fits));refine M0 (m:=Tf _ _) (Rv (a:=Oc) (by first | rfl | (simp only [Tf];rfl)) ?_);refine NP ?_ (by size_fits);simp only [raiseNew];refine M0 (Xs ?_)
 first | rw [show A.in1.handled=none from hh] | rw [hh]
 refine M0 (M3 (wpAny_throw ?_));exact hE _ _ (((O8 ..).extBut.push _).push _) ⟨_,Nf _ rfl,rfl⟩
theorem iO (prog:Nt) (w:NS) (it t:Nu) (vals:Array M4) (hne:t≠it):gY prog w it t vals (λk h=>h.IsTupleIter it t k/\h.IsTuple t vals) where
 keep:=λk h h' st k1 k2=>by obtain ⟨⟨o,e,r⟩,⟨o2,e2,r2⟩⟩:=st;exact ⟨⟨o,k1 o e,r⟩,⟨o2,k2 o2 e2,r2⟩⟩
 there:=λk h st=>by obtain ⟨⟨o,e,_,d⟩,_⟩:=st;exact ⟨o,e,λv z=>by rw [d] at z;cases z⟩
 item:=λA s k x Q E st hx hQ=>next_tuple_item st.1 st.2 hx λh' a1 a2=>hQ h' ⟨a1,st.2.extBut a2.extBut hne⟩ a2
 fin:=λA s k Q E hh st hx hE=>next_tuple_end hh st.1 st.2 hx hE
section
variable {prog:Nt}{w:NS}{A:NK}{E:M4->M5->Prop}{s:M5}
theorem wD {z TI TO i1 i2 l1 l2:Nu}{k:Nat}{xs ys:Array M4}{x y a b:M4}{S1 S2:Nat->OQ->Prop}{Q:M4->M5->Prop}(N1:gY prog w i1 l1 xs S1) (N2:gY prog w i2 l2 ys S2) (D:Vp z TI TO i1 i2 l1 l2)
  (hz:Vq s.heap z TI TO .none) (hTI:RM s.heap TI (.ref i1) (.ref i2)) (hTO:RM s.heap TO a b) (st1:S1 k s.heap) (st2:S2 k s.heap) (hx:xs[k]?=some x) (hy:ys[k]?=some y)
  (hQ:∀h',Vq h' z TI TO (W4 s.heap.objs.size)->RM h' TO x y->S1 (k + 1) h'->S2 (k + 1) h'->RM h' s.heap.objs.size x y->h'.objs.size=s.heap.objs.size + 1->
   (∀q o,q≠z->q≠TO->q≠i1->q≠i2->s.heap.get? q=some o->h'.get? q=some o)->Q (.ref s.heap.objs.size) {s with heap:=h'}):
  Nm (Nq prog w) A (RI.«zip.__next__» ⟨[.ref z],[]⟩) (λfin s'=>∃v,fin=.done (.ret v)/\Q v s') E s:=by
 have move:∀{S:Nat->OQ->Prop}{it src q:Nu}{vals:Array M4}{m:Nat}{h h':OQ},gY prog w it src vals S->S m h->OM q h h'->it≠q->src≠q->S m h':=λN st sb n1 n2=>N.keep _ _ _ st (λo e=>sb.extBut _ _ n1 e) λo e=>sb.extBut _ _ n2 e;show Nm _ _ (field (.ref z) 2 >>= _) _ _ _;refine M0 (ON hz rfl (x:=.bool false) rfl ?_);show Nm _ _ (field (.ref z) 3 >>= _) _ _ _;refine M0 (ON hz rfl (x:=.ref TI) rfl ?_);refine M0 (Pf hTI rfl ?_);show Nm _ _ (O9 (.ref z) >>= _) _ _ _;refine M0 ?_;unfold O9;refine M0 (ON hz rfl (x:=.none) rfl (M3 ?_));simp only [if_true];refine M0 (Py ?_);refine M0 (ON hz rfl (x:=.ref TO) rfl ?_);refine M0 (OY hz (by simp) λg1 z1 b1=>?_)
 replace z1:Vq g1 z TI TO .ellipsis:=z1
 refine M0 ?_;simp only [Uc,Wn,UA,UW];refine M0 (M0 (TX ?_));show Nm _ _ (NZ (.ref i1) >>= _) _ _ _;refine M0 (N1.item _ _ k x _ _ (move N1 st1 b1 D.i1z D.l1z) hx λg2 p1 b2=>M3 ?_);have o2:RM g2 TO a b:=b2.extBut _ _ D.TOi1 (b1.extBut _ _ D.TOz hTO);refine M0 (Pf o2 rfl ?_);refine M0 (Sy o2 λg3 o3 b3=>?_)
 replace o3:RM g3 TO x b:=o3
 refine M0 (Wo (M3 ?_));refine M0 (M0 (TX ?_));show Nm _ _ (NZ (.ref i2) >>= _) _ _ _;have q2:=move N2 (move N2 (move N2 st2 b1 D.i2z D.l2z) b2 D.i12.symm D.l2i1) b3 D.TOi2.symm D.l2TO;refine M0 (N2.item _ _ k y _ _ q2 hy λg4 p2 b4=>M3 ?_);have o4:RM g4 TO x b:=b4.extBut _ _ D.TOi2 o3;refine M0 (Pf o4 rfl ?_);refine M0 (Sy o4 λg5 o5 b5=>?_)
 replace o5:RM g5 TO x y:=o5
 refine M0 (Wo (M3 (M3 ?_)));refine M0 (Pf o5 rfl ?_);refine M0 (Tg ?_);have sz5:g5.objs.size=s.heap.objs.size:=by rw [b5.1,b4.1,b3.1,b2.1,b1.1]
 have z5:Vq g5 z TI TO .ellipsis:=b5.extBut _ _ D.TOz.symm (b4.extBut _ _ D.i2z.symm (b3.extBut _ _ D.TOz.symm (b2.extBut _ _ D.i1z.symm z1)));have k5:∀q o,q≠z->q≠TO->q≠i1->q≠i2->s.heap.get? q=some o->g5.get? q=some o:=λq o c1 c2 c3 c4 e=>b5.extBut _ _ c2 (b4.extBut _ _ c4 (b3.extBut _ _ c2 (b2.extBut _ _ c3 (b1.extBut _ _ c1 e))));have p15:S1 (k + 1) g5:=move N1 (move N1 (move N1 p1 b3 D.TOi1.symm D.l1TO) b4 D.i12 D.l1i2) b5 D.TOi1.symm D.l1TO;have p25:S2 (k + 1) g5:=move N2 p2 b5 D.TOi2.symm D.l2TO;have zlt:z < g5.objs.size:=Nk z5;show Nm _ _ (Rn (.ref z) (.ref g5.objs.size) >>= _) _ _ _;refine M0 ?_;unfold Rn;have z6:Vq (g5.push {cls:=.type "tuple",data:=.seq #[x,y]}) z TI TO .ellipsis:=M6 _ z5;refine M0 (OY z6 (by simp) λg7 z7 b7=>?_)
 replace z7:Vq g7 z TI TO (W4 g5.objs.size):=z7
 refine OY z7 (by simp) λg8 z8 b8=>?_
 replace z8:Vq g8 z TI TO (W4 g5.objs.size):=z8
 have up:∀q o,q≠z->g5.get? q=some o->g8.get? q=some o:=λq o c1 e=>b8.extBut _ _ c1 (b7.extBut _ _ c1 (M6 _ e));have t8:RM g8 g5.objs.size x y:=b8.extBut _ _ (Qx zlt) (b7.extBut _ _ (Qx zlt) (Nf _ rfl));have sz8:g8.objs.size=g5.objs.size + 1:=by rw [b8.1,b7.1,O1]
 rw [sz5] at z8 t8 sz8;refine M3 ⟨_,rfl,?_⟩;show Q (.ref g5.objs.size) _;rw [sz5];exact hQ g8 z8 (up _ _ D.TOz o5) (N1.keep _ _ _ p15 (λo e=>up _ o D.i1z e) λo e=>up _ o D.l1z e) (N2.keep _ _ _ p25 (λo e=>up _ o D.i2z e) λo e=>up _ o D.l2z e) t8 sz8 λq o c1 c2 c3 c4 e=>up q o c1 (k5 q o c1 c2 c3 c4 e)
theorem zm {z TI TO i1 i2 l1 l2:Nu}{k:Nat}{xs ys:Array M4}{a b:M4}{S1 S2:Nat->OQ->Prop}{Q:Fin->M5->Prop}(hh:A.handled=none) (N1:gY prog w i1 l1 xs S1) (N2:gY prog w i2 l2 ys S2) (D:Vp z TI TO i1 i2 l1 l2)
  (hz:Vq s.heap z TI TO .none) (hTI:RM s.heap TI (.ref i1) (.ref i2)) (hTO:RM s.heap TO a b) (st1:S1 k s.heap) (st2:S2 k s.heap) (hend:xs[k]?=none\/ys[k]?=none)
  (hE:∀h' e,(∀q o,q≠z->q≠TO->q≠i1->q≠i2->s.heap.get? q=some o->h'.get? q=some o)->(∃o,h'.get? e=some o/\o.cls=.type "StopIteration")->E (.ref e) {s with heap:=h'}):
  Nm (Nq prog w) A (RI.«zip.__next__» ⟨[.ref z],[]⟩) Q E s:=by
 have move:∀{S:Nat->OQ->Prop}{it src q:Nu}{vals:Array M4}{m:Nat}{h h':OQ},gY prog w it src vals S->S m h->OM q h h'->it≠q->src≠q->S m h':=λN st sb n1 n2=>N.keep _ _ _ st (λo e=>sb.extBut _ _ n1 e) λo e=>sb.extBut _ _ n2 e;show Nm _ _ (field (.ref z) 2 >>= _) _ _ _;refine M0 (ON hz rfl (x:=.bool false) rfl ?_);show Nm _ _ (field (.ref z) 3 >>= _) _ _ _;refine M0 (ON hz rfl (x:=.ref TI) rfl ?_);refine M0 (Pf hTI rfl ?_);show Nm _ _ (O9 (.ref z) >>= _) _ _ _;refine M0 ?_;unfold O9;refine M0 (ON hz rfl (x:=.none) rfl (M3 ?_));simp only [if_true];refine M0 (Py ?_);refine M0 (ON hz rfl (x:=.ref TO) rfl ?_);refine M0 (OY hz (by simp) λg1 z1 b1=>?_)
 replace z1:Vq g1 z TI TO .ellipsis:=z1
 refine M0 ?_;simp only [Uc,Wn,UA,UW];refine M0 (M0 (TX ?_));show Nm _ _ (NZ (.ref i1) >>= _) _ _ _;cases hx:xs[k]? with
 | none=>
  refine M0 (N1.fin _ _ k _ _ hh (move N1 st1 b1 D.i1z D.l1z) hx λg2 e b2 he=>?_);obtain ⟨oe,LB,hce⟩:=he;have z2:Vq g2 z TI TO .ellipsis:=b2 _ _ D.i1z.symm z1;have LX:e≠z:=λq=>by subst q;rw [z2] at LB;cases LB;simp at hce
  refine OY z2 (by simp) λg3 _ b3=>hE g3 e (λq o c1 _ c3 _ u=>b3.extBut _ _ c1 (b2 _ _ c3 (b1.extBut _ _ c1 u))) ⟨oe,b3.extBut _ _ LX LB,hce⟩
 | some x=>
  have hy:ys[k]?=none:=by rcases hend with h | h;rw [hx] at h;cases h;exact h
  refine M0 (N1.item _ _ k x _ _ (move N1 st1 b1 D.i1z D.l1z) hx λg2 p1 b2=>M3 ?_);have o2:RM g2 TO a b:=b2.extBut _ _ D.TOi1 (b1.extBut _ _ D.TOz hTO);refine M0 (Pf o2 rfl ?_);refine M0 (Sy o2 λg3 o3 b3=>?_);refine M0 (Wo (M3 ?_));refine M0 (M0 (TX ?_));show Nm _ _ (NZ (.ref i2) >>= _) _ _ _;have q2:=move N2 (move N2 (move N2 st2 b1 D.i2z D.l2z) b2 D.i12.symm D.l2i1) b3 D.TOi2.symm D.l2TO;refine M0 (N2.fin _ _ k _ _ hh q2 hy λg4 e b4 he=>?_);obtain ⟨oe,LB,hce⟩:=he;have z4:Vq g4 z TI TO .ellipsis:=b4 _ _ D.i2z.symm (b3.extBut _ _ D.TOz.symm (b2.extBut _ _ D.i1z.symm z1));have LX:e≠z:=λq=>by subst q;rw [z4] at LB;cases LB;simp at hce
  refine OY z4 (by simp) λg5 _ b5=>hE g5 e (λq o c1 c2 c3 c4 u=>b5.extBut _ _ c1 (b4 _ _ c4 (b3.extBut _ _ c2 (b2.extBut _ _ c3 (b1.extBut _ _ c1 u))))) ⟨oe,b5.extBut _ _ LX LB,hce⟩
theorem sV {z TI TO i1 i2 l1 l2:Nu}{k:Nat}{xs ys:Array M4}{x y a b:M4}{S1 S2:Nat->OQ->Prop}{Q:Option M4->M5->Prop}(N1:gY prog w i1 l1 xs S1) (N2:gY prog w i2 l2 ys S2) (D:Vp z TI TO i1 i2 l1 l2)
  (hz:Vq s.heap z TI TO .none) (hTI:RM s.heap TI (.ref i1) (.ref i2)) (hTO:RM s.heap TO a b) (st1:S1 k s.heap) (st2:S2 k s.heap) (hx:xs[k]?=some x) (hy:ys[k]?=some y)
  (hQ:∀h',Vq h' z TI TO (W4 s.heap.objs.size)->RM h' TO x y->S1 (k + 1) h'->S2 (k + 1) h'->RM h' s.heap.objs.size x y->h'.objs.size=s.heap.objs.size + 1->
   (∀q o,q≠z->q≠TO->q≠i1->q≠i2->s.heap.get? q=some o->h'.get? q=some o)->Q (some (.ref s.heap.objs.size)) {s with heap:=h'}):Nm (Nq prog w) A (RY (.ref z)) Q E s:=by
 have zt:s.TypeIs (.ref z) "zip":=⟨_,hz,rfl⟩;unfold RY;exact M0 (Rb (Og (name:=QJ "__next__") zt SO (Oe SO zt V5
   (wD N1 N2 D hz hTI hTO st1 st2 hx hy λh' a1 a2 a3 a4 a5 a6 a7=>M3 (hQ h' a1 a2 a3 a4 a5 a6 a7)) (VL _))))
theorem p_ {z TI TO i1 i2 l1 l2:Nu}{k:Nat}{xs ys:Array M4}{a b:M4}{S1 S2:Nat->OQ->Prop}{Q:Option M4->M5->Prop}(hh:A.handled=none) (N1:gY prog w i1 l1 xs S1) (N2:gY prog w i2 l2 ys S2) (D:Vp z TI TO i1 i2 l1 l2)
  (hz:Vq s.heap z TI TO .none) (hTI:RM s.heap TI (.ref i1) (.ref i2)) (hTO:RM s.heap TO a b) (st1:S1 k s.heap) (st2:S2 k s.heap) (hend:xs[k]?=none\/ys[k]?=none)
  (hQ:∀h',(∀q o,q≠z->q≠TO->q≠i1->q≠i2->s.heap.get? q=some o->h'.get? q=some o)->Q none {s with heap:=h'}):Nm (Nq prog w) A (RY (.ref z)) Q E s:=by have zt:s.TypeIs (.ref z) "zip":=⟨_,hz,rfl⟩;unfold RY;refine M0 (Rb (Og (name:=QJ "__next__") zt SO (Oe SO zt V5 (zm hh N1 N2 D hz hTI hTO st1 st2 hend λh' e hk he=>?_) (VL _))));obtain ⟨o,ho,hc⟩:=he;exact M0 (Su (T:="StopIteration") (b:=true) ⟨o,ho,hc⟩ WQ (M3 (hQ _ hk)))
end
noncomputable abbrev Bu (h:OQ) (o1 o2:Obj):OQ:=((h.push o1).push o2).push {cls:=.type "tuple",data:=.seq #[.ref h.objs.size,.ref (h.push o1).objs.size]}
noncomputable abbrev Bv (h:OQ) (o1 o2:Obj):OQ:=(Bu h o1 o2).push {cls:=.type "tuple",data:=.seq #[.none,.none]}
noncomputable abbrev Bw (h:OQ) (o1 o2:Obj):OQ:=(Bv h o1 o2).push {cls:=.type "zip",data:=.fields #[.none,.bool false,.bool false,.ref ((h.push o1).push o2).objs.size,.ref (Bu h o1 o2).objs.size]}
noncomputable def bK (k:String) (l:Nu):Obj:={cls:=.type k,data:=.fields #[.ref l,.int 0 0]}
noncomputable def lP (k:String) (h:OQ) (l:Nu) (vals:Array M4):Prop:=(k="list_iterator"/\h.IsList l vals)\/(k="tuple_iterator"/\h.IsTuple l vals)
theorem lP.push {k:String}{h:OQ}{l:Nu}{vals:Array M4}(x:lP k h l vals) (o:Obj):lP k (h.push o) l vals:=x.elim (λx=>.inl ⟨x.1,V4 x.2 _⟩) λx=>.inr ⟨x.1,YD x.2 _⟩
theorem vA {prog:Nt}{w:NS}{A:NK}{E:M4->M5->Prop}{s:M5}{k:String}{l:Nu}{vals:Array M4}{Q:M4->M5->Prop}(x:lP k s.heap l vals) (h:Q (.ref s.heap.objs.size) {s with heap:=s.heap.push (bK k l)}):Nm (Nq prog w) A (Tr (.ref l)) Q E s:=by
 rcases x with ⟨rfl,x⟩ | ⟨rfl,x⟩
 ·exact R9 x h
 ·exact S9 x h
theorem FN (k1 k2:String) (l1 l2:Nu) (xs ys:Array M4):
  Meets (RI.«zip.__new__» ⟨[.type "zip",.ref l1,.ref l2],[]⟩) (λ_ R s=>lP k1 s.heap l1 xs/\lP k2 s.heap l2 ys/\
   R (.ok (.ret (.ref (Bv s.heap (bK k1 l1) (bK k2 l2)).objs.size))) {s with heap:=Bw s.heap (bK k1 l1) (bK k2 l2)}):=
 .of_wp λprog w A R s h=>by
  obtain ⟨hp,g,d,tk,os⟩:=s;obtain ⟨q1,q2,h⟩:=h;have hsub:=sub_zip;have L1:lP k1 (Yl ⟨hp,g,d,tk,os⟩) l1 xs:=q1;have L2:lP k2 (Yl ⟨hp.push (bK k1 l1),g,d,tk,os⟩) l2 ys:=lP.push q2 _
  wp_walk using vA L1,vA L2
  exact ⟨_,rfl,h⟩
noncomputable def SQ (k:String) (it l:Nu) (vals:Array M4) (m:Nat) (h:OQ):Prop:=(k="list_iterator"/\h.IsListIter it l m/\h.IsList l vals)\/(k="tuple_iterator"/\h.IsTupleIter it l m/\h.IsTuple l vals)
noncomputable def IQ (k:String) (it l:Nu) (m:Nat) (h:OQ):Prop:=(k="list_iterator"/\h.IsListIter it l m)\/(k="tuple_iterator"/\h.IsTupleIter it l m)
theorem SQ.iq {k:String}{it l:Nu}{vals:Array M4}{m:Nat}{h:OQ}(x:SQ k it l vals m h):IQ k it l m h:=x.elim (λx=>.inl ⟨x.1,x.2.1⟩) λx=>.inr ⟨x.1,x.2.1⟩
theorem pH (prog:Nt) (w:NS) (k:String) (it l:Nu) (vals:Array M4) (hne:l≠it):gY prog w it l vals (SQ k it l vals) where
 keep:=λm h h' st k1 k2=>by
  rcases st with ⟨e,st⟩ | ⟨e,st⟩
  ·exact .inl ⟨e,(jA prog w it l vals hne).keep m h h' st k1 k2⟩
  ·exact .inr ⟨e,(iO prog w it l vals hne).keep m h h' st k1 k2⟩
 there:=λm h st=>by
  rcases st with ⟨e,st⟩ | ⟨e,st⟩
  ·exact (jA prog w it l vals hne).there m h st
  ·exact (iO prog w it l vals hne).there m h st
 item:=λA s m x Q E st hx hQ=>by
  rcases st with ⟨e,st⟩ | ⟨e,st⟩
  ·exact (jA prog w it l vals hne).item A s m x Q E st hx λh' a1 a2=>hQ h' (.inl ⟨e,a1⟩) a2
  ·exact (iO prog w it l vals hne).item A s m x Q E st hx λh' a1 a2=>hQ h' (.inr ⟨e,a1⟩) a2
 fin:=λA s m Q E hh st hx hE=>by
  rcases st with ⟨e,st⟩ | ⟨e,st⟩
  ·exact (jA prog w it l vals hne).fin A s m Q E hh st hx hE
  ·exact (iO prog w it l vals hne).fin A s m Q E hh st hx hE
noncomputable def fY (k:String) (K:M1) (H:Hp) (l:Nu) (xs:List V):Prop:=(k="list_iterator"/\bN K H l xs)\/(k="tuple_iterator"/\bT K H l xs)
section
variable {X:Cx}{MQ:List (Nu×Obj)}{σ:L2.St}{H:Hp}{s:M5}
theorem fY.get {k:String}{l:Nu}{xs:List V}(I:Inv X MQ σ H s) (h:fY k X.K H l xs):∃its:List M4,Vals xs its/\lP k s.heap l its.toArray:=by
 rcases h with ⟨e,h⟩ | ⟨e,h⟩
 ·obtain ⟨its,r,p,_⟩:=I.list h;exact ⟨its,r,.inl ⟨e,p.isList⟩⟩
 ·obtain ⟨its,r,p,_⟩:=I.tuple h;exact ⟨its,r,.inr ⟨e,p⟩⟩
theorem fY.inj {k:String}{l:Nu}{xs ys:List V}(I:Inv X MQ σ H s) (h:fY k X.K H l xs) (h':fY k X.K H l ys):xs=ys:=by
 rcases h with ⟨e,h⟩ | ⟨e,h⟩ <;> rcases h' with ⟨e',h'⟩ | ⟨e',h'⟩
 ·exact I.list_inj h h'
 ·rw [e] at e';exact absurd e' (by decide)
 ·rw [e] at e';exact absurd e' (by decide)
 ·exact I.tuple_inj h h'
theorem fY.ne {k:String}{l b:Nu}{xs:List V}(I:Inv X MQ σ H s) (h:fY k X.K H l xs) (f:gf X MQ H b):l≠b:=by
 have t:(∃o,H l=some o)\/∃o,X.K.lookup l=some o:=by
  rcases h with ⟨_,h⟩ | ⟨_,h⟩ <;> rcases h with (h | ⟨o,h⟩) | ⟨o,_,_,h,_⟩
  ·exact .inl ⟨_,h⟩
  ·exact .inl ⟨_,h⟩
  ·exact .inr ⟨o,h⟩
  ·exact .inl ⟨_,h⟩
  ·exact .inl ⟨_,h⟩
  ·exact .inr ⟨o,h⟩
 rintro rfl;rcases t with ⟨o,t⟩ | ⟨o,t⟩
 ·rw [f.1] at t;cases t
 ·have hb:X.base.get? l=some o:=I.ok.mod.kin l o t;rcases f.2.2.2.1 with z | z
  ·exact I.ok.noex l o hb z
  ·exact absurd (Nv (Nk (I.ok.bs l o hb).1) z) (PM _)
end
noncomputable def Ji (K:M1) (k1:String) (l1:Nu) (k2:String) (l2:Nu):It:=
 ⟨λi H=>∃xs ys x y,fY k1 K H l1 xs/\fY k2 K H l2 ys/\xs[i]?=some x/\ys[i]?=some y,
  λi H v H'=>∃p,H p=none/\v=.ref p/\∀xs ys x y,fY k1 K H l1 xs->fY k2 K H l2 ys->xs[i]?=some x->ys[i]?=some y->H'=upd H p (.tup [x,y]),
  λi H=>∃xs ys,fY k1 K H l1 xs/\fY k2 K H l2 ys/\(xs.length<=i\/ys.length<=i)⟩
noncomputable def Jt (k1 k2:String) (l1 l2 z TI TO i1 i2:Nu) (i:Nat) (h:OQ):Prop:=Vq h z TI TO .none/\RM h TI (.ref i1) (.ref i2)/\(∃a b,RM h TO a b)/\IQ k1 i1 l1 i h/\IQ k2 i2 l2 i h
theorem IQ.keep {k:String}{it l:Nu}{m:Nat}{h h':OQ}(x:IQ k it l m h) (kp:∀o,h.get? it=some o->h'.get? it=some o):IQ k it l m h':=by
 rcases x with ⟨e,o,h1,r⟩ | ⟨e,o,h1,r⟩
 ·exact .inl ⟨e,o,kp o h1,r⟩
 ·exact .inr ⟨e,o,kp o h1,r⟩
theorem IQ.obj {k:String}{it l:Nu}{m:Nat}{h:OQ}(x:IQ k it l m h):∃o,h.get? it=some o/\∀v,o.data≠.cell v:=by rcases x with ⟨e,o,h1,_,d⟩ | ⟨e,o,h1,_,d⟩ <;> exact ⟨o,h1,λv z=>by rw [d] at z;cases z⟩
theorem IQ.sq {k:String}{it l:Nu}{m:Nat}{h:OQ}{vals:Array M4}(x:IQ k it l m h) (q:lP k h l vals):SQ k it l vals m h:=by
 rcases x with ⟨e,x⟩ | ⟨e,x⟩ <;> rcases q with ⟨e',q⟩ | ⟨e',q⟩
 ·exact .inl ⟨e,x,q⟩
 ·rw [e] at e';exact absurd e' (by decide)
 ·rw [e] at e';exact absurd e' (by decide)
 ·exact .inr ⟨e,x,q⟩
theorem CW {P:Nt}{w:NS}{K:M1}{elts:List N9}{kk:Nat}{tp:Pos}(k1 k2:String) (l1 l2 z TI TO i1 i2:Nu) (n1:TI≠z) (n2:TO≠z) (n3:i1≠z) (n4:i2≠z) (n5:TI≠TO) (n6:TI≠i1) (n7:TI≠i2) (n8:TO≠i1) (n9:TO≠i2) (n10:i1≠i2):
  Turn P w K (.Tuple elts kk tp) (Ji K k1 l1 k2 l2) [z,TI,TO,i1,i2] z (Jt k1 k2 l1 l2 z TI TO i1 i2) where
 mem:=by simp
 obj:=λi h st b hb=>by
  obtain ⟨hz,hTI,⟨a,c,hTO⟩,q1,q2⟩:=st;simp only [Nj,Of,or_false] at hb;rcases hb with rfl | rfl | rfl | rfl | rfl
  ·exact ⟨_,hz,λv q=>by cases (show X5 _=Wf v from q)⟩
  ·exact ⟨_,hTI,λv q=>by cases (show Yt _ _=Wf v from q)⟩
  ·exact ⟨_,hTO,λv q=>by cases (show Yt _ _=Wf v from q)⟩
  ·exact q1.obj
  ·exact q2.obj
 keep:=λi h h' st kp=>by obtain ⟨hz,hTI,⟨a,c,hTO⟩,q1,q2⟩:=st;exact ⟨kp z (by simp) _ hz,kp TI (by simp) _ hTI,⟨a,c,kp TO (by simp) _ hTO⟩,q1.keep λo e=>kp i1 (by simp) o e,q2.keep λo e=>kp i2 (by simp) o e⟩
 item:=by
  intro X hP hw hK hc i MQ s σ H E I hf st hg;subst hP hw hK;obtain ⟨hz,hTI,⟨a,c,hTO⟩,q1,q2⟩:=st;obtain ⟨xs,ys,x,y,s1,s2,hx,hy⟩:=hg;obtain ⟨its,r1,p1⟩:=s1.get I;obtain ⟨its2,r2,p2⟩:=s2.get I;obtain ⟨u,hu,ru⟩:=r1.get hx;obtain ⟨v,hv,rv⟩:=r2.get hy;have ne1:∀b∈[z,TI,TO,i1,i2],l1≠b:=λb hb=>s1.ne I (hf b hb);have ne2:∀b∈[z,TI,TO,i1,i2],l2≠b:=λb hb=>s2.ne I (hf b hb);have Dz:Vp z TI TO i1 i2 l1 l2:=⟨n1,n2,n3,n4,n5,n6,n7,n8,n9,n10,ne1 z (by simp),ne1 TO (by simp),ne1 i1 (by simp),ne1 i2 (by simp),ne2 z (by simp),ne2 TO (by simp),ne2 i1 (by simp),ne2 i2 (by simp)⟩;refine sV (pH X.prog X.w k1 i1 l1 its.toArray (ne1 i1 (by simp))) (pH X.prog X.w k2 i2 l2 its2.toArray (ne2 i2 (by simp))) Dz hz hTI hTO (q1.sq p1) (q2.sq p2) (by simpa using hu) (by simpa using hv) λh' a1 a2 a3 a4 a5 a6 hk=>?_;refine ⟨_,rfl,wpAny_letOwnedTupleGo_zip (s:={s with heap:=h'}) a1 λh'' z'' sb=>?_⟩;have fT:H s.heap.objs.size=none:=I.hok.fresh (Nb _);have old:∀{b:Nu}{o:Obj},s.heap.get? b=some o->b≠s.heap.objs.size:=λe=>NF (Nk e);have zT:z≠s.heap.objs.size:=old hz;have kk':∀b o,b∉[z,TO,i1,i2]->s.heap.get? b=some o->h''.get? b=some o:=λb o hb e=>by simp only [Nj,Of,or_false,not_or] at hb;exact sb.extBut _ _ hb.1 (hk b o hb.1 hb.2.1 hb.2.2.1 hb.2.2.2 e)
  have ff:∀b∈[z,TO,i1,i2],gf X MQ H b:=λb hb=>hf b (by
   simp only [Nj,Of,or_false] at hb ⊢;rcases hb with rfl | rfl | rfl | rfl <;> simp)
  have Tn:∀b∈[z,TI,TO,i1,i2],b≠s.heap.objs.size:=λb hb=>by
   simp only [Nj,Of,or_false] at hb;rcases hb with rfl | rfl | rfl | rfl | rfl
   ·exact old hz
   ·exact old hTI
   ·exact old hTO
   ·exact old q1.obj.choose_spec.1
   ·exact old q2.obj.choose_spec.1
  have up':∀{b:Nu}{o:HO},H b=some o->upd H s.heap.objs.size (.tup [x,y]) b=some o:=λe=>by rw [aQ (c8 e fT)];exact e
  have I2:Inv X MQ σ (upd H s.heap.objs.size (.tup [x,y])) {s with heap:=h'',gens:=s.gens,drawn:=s.drawn,toks:=s.toks}:=by
   refine I.step (ch:=[z,TO,i1,i2]) (λb hb=>⟨(ff b hb).2.2.2.1,(ff b hb).2.1,(ff b hb).2.2.2.2.1,(ff b hb).2.2.2.2.2⟩) (λb o _ _ hb e _=>kk' b o hb e) (λb o _ _ hb e _=>⟨o.slots,kk' b o hb e⟩) (λb o hb e n=>by rw [aQ (old e)];exact n)
    (λb o hb e=>⟨o,kk' b o hb e⟩) (λb xs e=>up' e) (λb o q e=>up' e) (λb ps e=>⟨#[],by rw [Vr];exact up' e⟩) (λm hm=>?_) (λb q e=>?_) I.bare
   ·obtain ⟨o,es,ep,ho,r⟩:=hm;exact ⟨o,es,ep,kk' _ o (λhb=>(ff _ hb).2.1 rfl) ho,r⟩
   ·by_cases hb:b=s.heap.objs.size
    ·subst hb;rw [bz] at e;cases e;refine ⟨(by show 2<=sizeLine;decide),[u,v],.cons ru (.cons rv .nil),⟨_,sb.extBut _ _ (P6 zT) a5,rfl,0,rfl⟩,λo q=>by rw [sb.extBut _ _ (P6 zT) a5] at q;cases q;rfl⟩
    ·rw [aQ hb] at e;have nch:∀d,(d=b\/H d=some (.own b))->d∉[z,TO,i1,i2]:=λd hd hm=>by
      have:=(ff d hm).1;rcases hd with rfl | hd
      ·rw [this] at e;cases e
      ·rw [this] at hd;cases hd
     exact (I.hok b q e).stay (λd o hd ho=>kk' d o (nch d hd) ho) (λ_ h=>up' h) λ_ _ h=>up' h
  refine ⟨.ref s.heap.objs.size,_,I2,rfl,⟨s.heap.objs.size,fT,rfl,λxs' ys' x' y' c1 c2 c3 c4=>?_⟩,⟨z'',sb.extBut _ _ n1 (hk TI _ n1 n5 n6 n7 hTI),⟨_,_,sb.extBut _ _ n2 a2⟩,a3.iq.keep λo e=>sb.extBut _ _ n3 e,a4.iq.keep λo e=>sb.extBut _ _ n4 e⟩,λb hb=>by rw [aQ (Tn b hb)];exact (hf b hb).1⟩;have e1:=fY.inj I c1 s1;have e2:=fY.inj I c2 s2;subst e1 e2;rw [hx] at c3;rw [hy] at c4;cases c3;cases c4;rfl
 done:=by
  intro X hP hw hK hc i MQ s σ H E I hf st hg;subst hP hw hK;obtain ⟨hz,hTI,⟨a,c,hTO⟩,q1,q2⟩:=st;obtain ⟨xs,ys,s1,s2,hend⟩:=hg;obtain ⟨its,r1,p1⟩:=s1.get I;obtain ⟨its2,r2,p2⟩:=s2.get I;have ne1:∀b∈[z,TI,TO,i1,i2],l1≠b:=λb hb=>s1.ne I (hf b hb);have ne2:∀b∈[z,TI,TO,i1,i2],l2≠b:=λb hb=>s2.ne I (hf b hb);have Dz:Vp z TI TO i1 i2 l1 l2:=⟨n1,n2,n3,n4,n5,n6,n7,n8,n9,n10,ne1 z (by simp),ne1 TO (by simp),ne1 i1 (by simp),ne1 i2 (by simp),ne2 z (by simp),ne2 TO (by simp),ne2 i1 (by simp),ne2 i2 (by simp)⟩;have LK:its.toArray[i]?=none\/its2.toArray[i]?=none:=by
   have e1:=r1.length;have e2:=r2.length;rcases hend with h | h
   ·left;simp;omega
   ·right;simp;omega
  refine p_ (I.ok.hd hc) (pH X.prog X.w k1 i1 l1 its.toArray (ne1 i1 (by simp))) (pH X.prog X.w k2 i2 l2 its2.toArray (ne2 i2 (by simp))) Dz hz hTI hTO (q1.sq p1) (q2.sq p2) LK λh' hk=>⟨rfl,?_⟩;have ff:∀b∈[z,TO,i1,i2],gf X MQ H b:=λb hb=>hf b (by
   simp only [Nj,Of,or_false] at hb ⊢;rcases hb with rfl | rfl | rfl | rfl <;> simp)
  have kk':∀b o,b∉[z,TO,i1,i2]->s.heap.get? b=some o->h'.get? b=some o:=λb o hb e=>by simp only [Nj,Of,or_false,not_or] at hb;exact hk b o hb.1 hb.2.1 hb.2.2.1 hb.2.2.2 e
  refine I.step (ch:=[z,TO,i1,i2]) (g':=s.gens) (d':=s.drawn) (t':=s.toks) (λb hb=>⟨(ff b hb).2.2.2.1,(ff b hb).2.1,(ff b hb).2.2.2.2.1,(ff b hb).2.2.2.2.2⟩) (λb o _ _ hb e _=>kk' b o hb e) (λb o _ _ hb e _=>⟨o.slots,kk' b o hb e⟩) (λb o hb e n=>n)
    (λb o hb e=>⟨o,kk' b o hb e⟩) (λb xs e=>e) (λb o q e=>e) (λb ps e=>⟨#[],by rw [Vr];exact e⟩) (λm hm=>?_) (λb q e=>?_) I.bare
  ·obtain ⟨o,es,ep,ho,r⟩:=hm;exact ⟨o,es,ep,kk' _ o (λhb=>(ff _ hb).2.1 rfl) ho,r⟩
  ·have nch:∀d,(d=b\/H d=some (.own b))->d∉[z,TO,i1,i2]:=λd hd hm=>by
    have:=(ff d hm).1;rcases hd with rfl | hd
    ·rw [this] at e;cases e
    ·rw [this] at hd;cases hd
   exact (I.hok b q e).stay (λd o hd ho=>kk' d o (nch d hd) ho) (λ_ h=>h) λ_ _ h=>h
 self:=λA i s Q E st h=>V6 st.1 h
section
variable {X:Cx}{c:C}{e a b:N9}{es:List N9}{ga gb g:G R}{pos:Pos}{elts:List N9}{kk:Nat}{tp:Pos}
noncomputable def JI (K:M1) (ta:TA):TI:=λσ H Q=>ta σ H λvs H1=>∃k1 l1 xs k2 l2 ys,vs=[.ref l1,.ref l2]/\fY k1 K H1 l1 xs/\fY k2 K H1 l2 ys/\Q (Ji K k1 l1 k2 l2) H1
theorem G8 {ta:TA}{p:Pos}(hg:Gl X "zip") (hm:X.mg "zip"=none) (ha:PA X [a,b] ta) (hs:autoParam (Nl [a,b] X.env=[(false,eval a X.env),(false,eval b X.env)]) zA._auto_1) (hs2:autoParam (Nl [b] X.env=[(false,eval b X.env)]) zA._auto_1):
  PI X (.Tuple elts kk tp) (.Call (.Name "zip" p) [a,b] [] pos) (JI X.K ta):=by
 intro MQ s σ H R I h;refine Call_ (mE I hg hm boot_zip (Q4 (bM (ha pos MQ s σ H _ I h) λus s1 ⟨vs,H1,I1,r1,q1⟩=>?_) (by rw [hs,hs2]) (by rw [hs2];rfl)));obtain ⟨k1,l1,xs,k2,l2,ys,e,s1',s2',q⟩:=q1;subst e;obtain ⟨its,v1,p1⟩:=s1'.get I1;obtain ⟨its2,v2,p2⟩:=s2'.get I1;cases r1 with
 | cons r rr=>
  cases rr with
  | cons r' rr=>
   cases rr;cases r;cases r';refine callType_new F.called_zip (by decide) (F.typeCall_zip_2 _ _) (F.newCall_zip_2 _ _) (λ_=>by first | exact F.args_object_init _ | rfl | decide) F.entry_zip_new (FN k1 k2 l1 l2 its.toArray its2.toArray) ?_;refine ⟨p1,p2,?_⟩;have f0:∀{h:OQ}{o:Obj},o.isFreed=false->(h.push o).get? h.objs.size=some o:=λho=>Nf _ ho;have gp:∀{h:OQ}{q:Nu}{u:Obj}(o:Obj),h.get? q=some u->(h.push o).get? q=some u:=λo e=>M6 _ e;refine ⟨⟨_,Nf _ rfl,rfl⟩,V6 (f0:=.none) (Nf _ rfl) ?_⟩;have e1:(s1.heap.push (bK k1 l1)).objs.size=s1.heap.objs.size + 1:=O1 ..;have e2:((s1.heap.push (bK k1 l1)).push (bK k2 l2)).objs.size=s1.heap.objs.size + 2:=by rw [O1,e1]
   have e3:(Bu s1.heap (bK k1 l1) (bK k2 l2)).objs.size=s1.heap.objs.size + 3:=by unfold Bu;rw [O1,e2]
   have e4:(Bv s1.heap (bK k1 l1) (bK k2 l2)).objs.size=s1.heap.objs.size + 4:=by unfold Bv;rw [O1,e3]
   have up5:∀b o,s1.heap.get? b=some o->(Bw s1.heap (bK k1 l1) (bK k2 l2)).get? b=some o:=λb o h=>gp _ (gp _ (gp _ (gp _ (gp _ h))));have I5:Inv X MQ σ H1 {s1 with heap:=Bw s1.heap (bK k1 l1) (bK k2 l2)}:=I1.kept (t':=s1.toks) up5;refine ⟨_,[(Bv s1.heap (bK k1 l1) (bK k2 l2)).objs.size,((s1.heap.push (bK k1 l1)).push (bK k2 l2)).objs.size,(Bu s1.heap (bK k1 l1) (bK k2 l2)).objs.size,s1.heap.objs.size,(s1.heap.push (bK k1 l1)).objs.size],
    Jt k1 k2 l1 l2 _ _ _ _ _,_,H1,rfl,I5,CW k1 k2 l1 l2 _ _ _ _ _ (by rw [e2,e4];simp [Nu]) (by rw [e3,e4];simp) (by rw [e4];simp) (by rw [e1,e4];simp) (by rw [e2,e3];simp) (by rw [e2];simp) (by rw [e2,e1];simp) (by rw [e3];simp) (by rw [e3,e1];simp) (by rw [e1];simp),?_,?_,q⟩
   ·refine ⟨Nf _ rfl,gp _ (gp _ (Nf _ rfl)),⟨.none,.none,gp _ (Nf _ rfl)⟩,?_,?_⟩
    ·have h1:(Bw s1.heap (bK k1 l1) (bK k2 l2)).get? s1.heap.objs.size=some (bK k1 l1):=gp _ (gp _ (gp _ (gp _ (Nf _ rfl))));rcases p1 with ⟨rfl,_⟩ | ⟨rfl,_⟩
     ·exact .inl ⟨rfl,_,h1,rfl,rfl⟩
     ·exact .inr ⟨rfl,_,h1,rfl,rfl⟩
    ·have h1:(Bw s1.heap (bK k1 l1) (bK k2 l2)).get? (s1.heap.push (bK k1 l1)).objs.size=some (bK k2 l2):=gp _ (gp _ (gp _ (Nf _ rfl)));rcases p2 with ⟨rfl,_⟩ | ⟨rfl,_⟩
     ·exact .inl ⟨rfl,_,h1,rfl,rfl⟩
     ·exact .inr ⟨rfl,_,h1,rfl,rfl⟩
   ·intro b hb;have hle:s1.heap.objs.size<=b:=by
     simp only [Nj,Of,or_false] at hb;rcases hb with rfl | rfl | rfl | rfl | rfl
     ·rw [e4];exact Pw _ _
     ·rw [e2];exact Pw _ _
     ·rw [e3];exact Pw _ _
     ·exact Nb _
     ·rw [e1];exact Pw _ _
    have fp:=I1.fpOk hle (I1.hok.fresh hle);exact fp
theorem CN {K:M1}{J:Hp}{xs ys:List D}{us vs:List V}{i:Nat}{d:D}(h1:az K J xs us) (h2:az K J ys vs) (e:(VV (λa b=>D.tup [a,b]) xs ys)[i]?=some d):∃x y u v,d=.tup [x,y]/\us[i]?=some u/\vs[i]?=some v/\Rep K J x u/\Rep K J y v:=by
 rw [List.getElem?_zipWith] at e;cases q1:xs[i]? with
 | none=>rw [q1] at e;simp at e
 | some x=>
  cases q2:ys[i]? with
  | none=>rw [q1,q2] at e;simp at e
  | some y=>
   rw [q1,q2] at e;simp at e;obtain ⟨u,a1,a2⟩:=h1.get q1;obtain ⟨v,b1,b2⟩:=h2.get q2;exact ⟨x,y,u,v,e.symm,a1,b1,a2,b2⟩
end
section
variable {X:Cx}{c:C}{e a b tg:N9}{es:List N9}{ga gb g:G R}{pos:Pos}
theorem IC {j:Nat}{p q:Pos}:PE X (.UnaryOp .USub (.Constant (.int 1) j p) q) (tC (.int (-1))):=gc (IE HY AS) λσ H Q h=>⟨1,rfl,h⟩
theorem pe:OC "bool"=some (.type "bool"):=by decide +kernel
theorem vZ:OC "tuple"=some (.type "tuple"):=by decide +kernel
end
section
variable {X:Cx}{c:C}{e a b tg:N9}{es:List N9}{ga gb g:G R}{pos:Pos}{st:RB}{t u:G O}{tb:G Bool}
noncomputable def Dr:G O:=λ_=>.bad
noncomputable def KY (g:G R):G R:=λenv=>g env >>= λr=>match r with
 | .d (.int i)=>.ok (.d (.int (-i)))
 | _=>.bad
noncomputable def vP:R->M Bool
 | .d .non=>.ok false
 | .d (.bl b)=>.ok b
 | .d (.int i)=>.ok (i != 0)
 | .d (.str y)=>if y.length<=sizeLine then .ok ((y.length:Int) != 0) else .bad
 | .d (.tup xs)=>.ok (!xs.isEmpty)
 | .d (.lst xs)=>.ok (!xs.isEmpty)
 | .d .emp=>.ok false
 | .d (.exn _ _ _)=>.bad
 | .d (.dct _ _)=>.bad
 | .l _ xs=>.ok (!xs.isEmpty)
 | _=>.bad
theorem Gu {K:M1}{J:Hp}{ds:List D}{vs:List V}(h:az K J ds vs):ds.isEmpty=vs.isEmpty:=by cases h <;> rfl
theorem FE {He J H:Hp}(hp:HI c J H){Q:Bool->Prop}{T:Exc->Prop}:∀{r:R}{v:V},RR c He J H r v->bR (vP r) Q T->∃k,BE c.K v H k/\Q k
 | .d .non,_,h,w=>by cases h;exact ⟨_,rfl,w⟩
 | .d (.bl b),_,h,w=>by cases h;exact ⟨_,rfl,w⟩
 | .d (.int i),_,h,w=>by cases h;exact ⟨_,rfl,w⟩
 | .d (.str y),_,h,w=>by
  cases h;unfold vP at w;simp only at w;split at w
  ·rename_i hz;exact ⟨_,⟨hz,rfl⟩,w⟩
  ·exact w.elim
 | .d (.tup xs),_,h,w=>by
  cases h with
  | tup h1 h2=>exact ⟨_,.inr (.inl ⟨_,dQ hp.sub h1,rfl⟩),by rw [<-Gu h2];exact w⟩
 | .d (.lst xs),_,h,w=>by
  cases h with
  | lst h1 h2=>exact ⟨_,.inl ⟨_,hp.sub.seq h1,rfl⟩,by rw [<-Gu h2];exact w⟩
 | .d .emp,_,h,w=>by
  cases h with
  | emp h1=>exact ⟨_,.inr (.inr ⟨_,hp.sub _ _ h1,rfl⟩),w⟩
 | .d (.exn _ _ _),_,_,w=>w.elim
 | .d (.dct _ _),_,_,w=>w.elim
 | .mo _ _,_,_,w=>w.elim
 | .mb _ _,_,_,w=>w.elim
 | .mf _ _,_,_,w=>w.elim
 | .ln _,_,_,w=>w.elim
 | .l m xs,_,h,w=>by obtain ⟨a,vs,rfl,h1,h2⟩:=RR.list hp h rfl;exact ⟨_,.inl ⟨_,h1,rfl⟩,by rw [<-Gu h2];exact w⟩
noncomputable def BY (g:G R):G Bool:=λenv=>g env >>= vP
theorem az.eraseIdx {K:M1}{J:Hp}:∀{ds:List D}{vs:List V}(k:Nat),az K J ds vs->az K J (ds.eraseIdx k) (vs.eraseIdx k)
 | _,_,_,.nil=>by rw [VM,VM];exact .nil
 | _,_,0,.cons _ t=>t
 | _,_,k + 1,.cons r t=>.cons r (az.eraseIdx k t)
noncomputable def KZ (i j:Nat):G O:=λenv=>match env[j]? with
 | some (some (.own xs))=>(match xs[xs.length - 1]? with
  | some d=>.ok (.nx ((env.set j (some (.own xs.dropLast))).set i (some (.d d))))
  | none=>.bad)
 | _=>.bad
noncomputable def jZ (i j:Nat) (g:G R):G O:=λenv=>match env[i]?,env[j]? with
 | some (some (.own zs)),some (some (.own xs))=>if i=j then .bad else g env >>= λr=>(match r with
  | .d (.int k)=>if 0<=k/\k.toNat < xs.length/\zs.length < sizeLine/\xs.length<=sizeLine then (match xs[k.toNat]? with
   | some d=>.ok (.nx ((env.set j (some (.own (xs.eraseIdx k.toNat)))).set i (some (.own (zs++[d])))))
   | none=>.bad) else .bad
  | _=>.bad)
 | _,_=>.bad
theorem IT {k:Int}{n:Nat}(h0:0<=k) (h:k.toNat < n):Vj k n=some k.toNat:=by
 unfold Vj;have h1:¬k < 0:=by omega
 have h2:k < n:=by omega
 simp [h1,h0,h2]
theorem G0 {J H:Hp}{σ:L2.St}{env:Ev}(sr:SR c J H σ env){i j:Nat}{xs ys:List D}{p q:Nu}(hij:i≠j) (hi:env[i]?=some (some (.own xs))) (hj:env[j]?=some (some (.own ys))) (h1:σ[i]?=some (some (.ref p))) (h2:σ[j]?=some (some (.ref q))):p≠q:=λz=>
 sr.sep i j (.inl xs) (.inl ys) (.ref p) hij hi hj h1 (z▸h2)
end
open PySem.AutoSeq1 in
section
variable {X:Cx}{c:C}{e a b tg:N9}{es:List N9}{ga gb g:G R}{pos:Pos}
noncomputable def vn:V->Option (Option Bool)
 | .non=>some none
 | .bl k=>some (some k)
 | _=>none
theorem CQ (rx:RelV x v) (ry:RelV y u) (h:vn y=some o):isSame v u=pure (vn x == some o):=by
 cases y with
 | non=>
  cases h;cases ry;cases x with
  | non=>cases rx;rfl
  | bl k=>cases rx;rfl
  | int i=>obtain ⟨t,rfl⟩:=rx;rfl
  | str z=>obtain ⟨t,rfl⟩:=rx;rfl
  | byt z=>obtain ⟨t,rfl⟩:=rx;rfl
  | flt z=>obtain ⟨t,rfl⟩:=rx;rfl
  | ref p=>cases rx;rfl
  | ty n=>cases rx;rfl
 | bl k'=>
  cases h;cases ry;cases x with
  | non=>cases rx;rfl
  | bl k=>cases rx;cases k <;> cases k' <;> rfl
  | int i=>obtain ⟨t,rfl⟩:=rx;rfl
  | str z=>obtain ⟨t,rfl⟩:=rx;rfl
  | byt z=>obtain ⟨t,rfl⟩:=rx;rfl
  | flt z=>obtain ⟨t,rfl⟩:=rx;rfl
  | ref p=>cases rx;rfl
  | ty n=>cases rx;rfl
 | _=>cases h
theorem GS:dc X (Qj .Is) (λx y H Q=>∃o,vn y=some o/\Q (.bl (vn x == some o)) H):=by intro MQ s σ H x y v u Q I rx ry h;obtain ⟨o,ho,q⟩:=h;show Nm _ _ (do return R4 (<-isSame v u)) _ _ s;rw [CQ rx ry ho];exact M0 (M3 (M3 ⟨.bl _,H,I,rfl,q⟩))
noncomputable def yQ:R->Option (Option Bool)
 | .d .non=>some none
 | .d (.bl k)=>some (some k)
 | _=>none
noncomputable def Gi (neg:Bool) (x y:R):M R:=match yQ y with
 | some o=>.ok (.d (.bl (if neg then !(yQ x == some o) else yQ x == some o)))
 | none=>.bad
theorem xC {He J H:Hp}:∀{r:R}{v:V},RR c He J H r v->vn v=yQ r
 | .d .non,_,h=>by cases h;rfl
 | .d (.bl _),_,h=>by cases h;rfl
 | .d (.int _),_,h=>by cases h;rfl
 | .d (.str _),_,h=>by cases h;rfl
 | .d (.tup _),_,h=>by cases h;rfl
 | .d (.lst _),_,h=>by cases h;rfl
 | .d .emp,_,h=>by cases h;rfl
 | .d (.exn _ _ _),_,h=>by cases h;rfl
 | .d (.dct _ _),_,h=>by cases h;rfl
 | .l .fresh _,_,h=>by obtain ⟨_,_,rfl,_⟩:=h;rfl
 | .l .own _,_,h=>by obtain ⟨_,_,rfl,_⟩:=h;rfl
 | .l .bor _,_,h=>by obtain ⟨_,_,rfl,_⟩:=h;rfl
 | .mo _ _,_,h=>by obtain ⟨_,rfl,_⟩:=h;rfl
 | .mb _ _,_,h=>by obtain ⟨_,rfl,_⟩:=h;rfl
 | .mf _ _,_,h=>by obtain ⟨_,rfl,_⟩:=h;rfl
 | .ln _,_,h=>by obtain ⟨_,_,rfl,_⟩:=h;rfl
end
section
variable {X:Cx}{c:C}{e a b d tg:N9}{es:List N9}{ga gb g:G R}{pos:Pos}
noncomputable def JH (K:M1) (tl:TE):TI:=λσ H R=>tl σ H λx H1=>∃a,x=.ref a/\(((∃xs,bN K H1 a xs)/\R (C_ K a) H1)\/((∃xs,bT K H1 a xs)/\R (Dd K a) H1))
theorem AV {tl:TE}(hl:PE X e tl):PI X tg e (JH X.K tl):=λMQ s σ H R I h=>bM (hl MQ s σ H _ I h) λv s1 ⟨x,H1,I1,r1,a,ex,q1⟩=>by
 subst ex;cases r1;have fp:∀b∈[s1.heap.objs.size],gf X MQ H1 b:=λb hb=>by rw [NH] at hb;subst hb;exact I1.fpOk (Nb _) (I1.hok.fresh (Nb _))
 rcases q1 with ⟨⟨xs,hq⟩,q⟩ | ⟨⟨xs,hq⟩,q⟩
 ·obtain ⟨its,rv,p,hz⟩:=I1.list hq;exact R9 p.isList ⟨s1.heap.objs.size,[s1.heap.objs.size],_,_,H1,rfl,I1.kept (t':=s1.toks) (λb o e=>M6 _ e),Bo a _,⟨_,Nf _ rfl,rfl,rfl⟩,fp,q⟩
 ·obtain ⟨its,rv,p,hz⟩:=I1.tuple hq;exact S9 (show s1.heap.IsTuple a its.toArray from p) ⟨s1.heap.objs.size,[s1.heap.objs.size],_,_,H1,rfl,I1.kept (t':=s1.toks) (λb o e=>M6 _ e),zk a _,⟨_,Nf _ rfl,rfl,rfl⟩,fp,q⟩
theorem sI {J1:Hp}{a:Nu}{vs:List V}{ds:List D}{U:Hp->Hp->Prop}(hU:∀J H,U J H->aG J1 J) (h:bT c.K J1 a vs) (hs:az c.K J1 ds vs):Walk c (Dd c.K a) ds J1 U:=by intro i J H hp u;have h':=dQ hp.sub (dQ (hU J H u) h);refine ⟨λhl=>⟨vs,h',by rw [<-hs.length];exact hl⟩,λd hd=>?_⟩;obtain ⟨v,k1,k2⟩:=hs.get hd;refine ⟨⟨vs,v,h',k1⟩,λx H2 ⟨e,hy⟩=>?_⟩;subst e;have:=hy vs h';rw [k1] at this;cases this;exact ⟨J,Ext.refl hp.sub,k2.mono (hU J _ u)⟩
noncomputable def yD (g:G R):G (List D):=λenv=>g env >>= λr=>match r with
 | .d (.tup xs)=>.ok xs
 | .d (.lst xs)=>.ok xs
 | .l .fresh xs=>.ok xs
 | .l .bor xs=>.ok xs
 | _=>.bad
noncomputable def ic (g:G R):G (List D):=λenv=>g env >>= gW
end
section
variable {X:Cx}{c:C}{st:RB}{g:G O}
theorem SR.frz {J H:Hp}{σ:L2.St}{env:Ev}(sr:SR c J H σ env){i:Nat}{x:Mn}{a:Nu}{o:HO}{d:D}(hi:env[i]?=some (some (mS x))) (h1:σ[i]?=some (some (.ref a))) (h2:H a=some o) (h3:J a=none) (h4:c.H0 a=none) (h5:Rep c.K (L2.upd J a o) d (.ref a)):∃J',aG J J'/\SR c J' H σ (env.set i (some (.d d))):=by
 have s1:aG J (L2.upd J a o):=bL h3 _;refine ⟨L2.upd J a o,s1,⟨⟨λb o q=>?_,sr.hp.ent,sr.hp.entJ.trans s1,λb k1 k2=>?_⟩,by simpa using sr.len,λj y q=>?_,λj k ys zs w hjk q1 q2 q3 q4=>?_,sr.sp2.keep λk xs q=>?_⟩⟩
 ·by_cases hb:b=a
  ·subst hb;rw [bz] at q;cases q;exact h2
  ·rw [aQ hb] at q;exact sr.hp.sub b o q
 ·have:b≠a:=λz=>k1 (z▸h4);rw [aQ this];exact sr.hp.frz b k1 k2
 ·rcases cQ q with ⟨rfl,hl,rfl⟩ | ⟨hj,q⟩
  ·exact ⟨.ref a,h1,h5⟩
  ·obtain ⟨w,k1,k2⟩:=sr.at_ j y q;refine ⟨w,k1,?_⟩;have hne:∀(z:Mn) p',y=mS z->w=.ref p'->p'≠a:=λz p' e ew ep=>sr.sep i j x z (.ref a) (P6 hj) hi (e▸q) h1 (ep▸ew▸k1);cases y with
   | d x=>exact Rep.mono s1 k2
   | bor zs=>obtain ⟨p,us,m1,m2,m3⟩:=k2;exact ⟨p,us,m1,m2,m3.mono s1⟩
   | db _ _=>obtain ⟨p,m1,m2⟩:=k2;exact ⟨p,m1,m2.mono s1 (aG.refl _)⟩
   | fn _=>exact k2
   | dk ks zs=>
    obtain ⟨p,rfl,m1,m2,m3⟩:=k2;exact ⟨p,rfl,m1.mono s1 (aG.refl _),by rw [aQ (hne (.inr (ks,zs)) p rfl rfl)];exact m2,m3⟩
   | own zs=>
    obtain ⟨p,us,rfl,m1,m2,m3,m4⟩:=k2;exact ⟨p,us,rfl,m1,by rw [aQ (hne (.inl zs) p rfl rfl)];exact m2,m3,m4.mono s1⟩
   | ow2 zs=>
    obtain ⟨p,us,rfl,m1,m2,m3,m4⟩:=k2;exact ⟨p,us,rfl,m1,by rw [aQ (hne (.nst zs) p rfl rfl)];exact m2,m3,m4.mono s1 λ_ h=>h⟩
 ·have f:∀(k:Nat) (ys:Mn),(env.set i (some (.d d)))[k]?=some (some (mS ys))->env[k]?=some (some (mS ys)):=λk ys q=>by
   rcases cQ q with ⟨rfl,_,z⟩ | ⟨_,q⟩
   ·cases ys <;> cases z
   ·exact q
  exact sr.sep j k ys zs w hjk (f j ys q1) (f k zs q2) q3 q4
 ·rcases cQ q with ⟨_,_,e⟩ | ⟨hk,q⟩
  ·cases e
  ·exact ⟨⟨xs,q⟩,rfl⟩
noncomputable def qI (i:Nat) (g:G O):G O:=λenv=>match env[i]? with
 | some (some (.own xs))=>g (env.set i (some (.d (.lst xs))))
 | some (some (.dk ks vs))=>g (env.set i (some (.d (.dct ks vs))))
 | _=>g env
end
structure QD (X:Cx) (c:C) (x0:N9) (x1:G R):Prop where
 h:PD X c x0 x1
structure QB (X:Cx) (c:C) (x0:N9) (x1:G Bool):Prop where
 h:PB X c x0 x1
structure jt (X:Cx) (c:C) (x0:List N9) (x1:G (List R)):Prop where
 h:Dh X c x0 x1
structure zD (X:Cx) (c:C) (x0:List N9) (x1:G (List D)):Prop where
 h:Ky X c x0 x1
structure ju (X:Cx) (c:C) (x0:RB) (x1:G O):Prop where
 h:Jj X c x0 x1
structure nG (X:Cx) (c:C) (x0:List RB) (x1:G O):Prop where
 h:FY X c x0 x1
structure Di (X:Cx) (c:C) (x0:N9) (x1:G Bool):Prop where
 h:Kz X c x0 x1
structure nI (X:Cx) (c:C) (x0:N9) (x1:GT):Prop where
 h:zC X c x0 x1
structure x_ (X:Cx) (c:C) (x0:List N9) (x1:oW):Prop where
 h:Jy X c x0 x1
structure tZ (X:Cx) (c:C) (x0:N9) (x1:N9) (x2:G (List D)):Prop where
 h:Jm X c x0 x1 x2
structure zE (X:Cx) (c:C) (x0:N9) (x1:N9) (x2:G (List D)):Prop where
 h:Jl X c x0 x1 x2
structure oj (X:Cx) (c:C) (x0:List N9) (x1:G Bool):Prop where
 h:x6 X c x0 x1
structure Dj (X:Cx) (c:C) (x0:Option N9) (x1:GO):Prop where
 h:FZ X c x0 x1
section
variable {X:Cx}{c:C}{e a b:N9}{ga gb:G R}{pos:Pos}
theorem aa (i:Nat) (hN:autoParam (X.N[i]?=some x) zA._auto_1) (hv:wJ X.env.scope x:=by first | exact Vs rfl | exact S_ (Vs rfl) | exact S_ (S_ rfl)) (hd:autoParam ((x == ("__debug__":Str))=false) zB._auto_1)
 (hcd:autoParam ((x == ("__classdict__":Str))=false) zB._auto_1):QD X c (.Name x pos) (af i):=⟨EV (p5 hN hv hd hcd)⟩
theorem aq:QD X c (.Constant (.int i) j pos) (gC (.int i)):=⟨tN (λ_=>.int i) AS⟩
theorem qa:QD X c (.Constant (.bool i) j pos) (gC (.bl i)):=⟨tN (λ_=>.bl i) IA⟩
theorem xJ:QD X c (.Constant .none j pos) (gC .non):=⟨tN (λ_=>.non) G3⟩
theorem qR:QD X c (.Constant (.str x) j pos) (gC (.str x)):=⟨tN (λ_=>.str x) G5⟩
theorem Fg (ha:QD X c a ga) (hb:QD X c b gb):QD X c (.BinOp a .Sub b pos) (g2 Gm ga gb):=have ha:=ha.h;have hb:=hb.h;⟨kY GZ (jx λ_ _ _=>.int _) ha hb⟩
theorem cS (ha:QD X c a ga) (hb:QD X c b gb):QD X c (.BinOp a .FloorDiv b pos) (g2 eO ga gb):=have ha:=ha.h;have hb:=hb.h;⟨kY EO (yj (λi j h=>Ey h) λ_ _ _=>.int _) ha hb⟩
theorem bH (ha:QD X c a ga) (hb:QD X c b gb):QD X c (.BinOp a .Mod b pos) (g2 cM ga gb):=have ha:=ha.h;have hb:=hb.h;⟨kY GU (yj (λi j h=>by unfold GB at h;exact of_decide_eq_true h) λ_ _ _=>.int _) ha hb⟩
theorem Fe (ha:QD X c a ga) (hb:QD X c b gb):QD X c (.BinOp a .Pow b pos) (g2 Gk ga gb):=have ha:=ha.h;have hb:=hb.h;⟨kY GY (yj (λi j h=>EA h) λ_ _ _=>.int _) ha hb⟩
theorem au:jt X c [] aF:=⟨tM gS λσ H Q ⟨J,env,sr,w⟩=>w [] J H (Ext.refl sr.hp.sub) rfl⟩
theorem ah {es:List N9}{g:G R}{gs:G (List R)}(h:QD X c e g) (hs:jt X c es gs) (hst:autoParam (Nl (e::es) X.env=(false,eval e X.env)::Nl es X.env) zA._auto_1):jt X c (e::es) (ao g gs):=have h:=h.h;have hs:=hs.h;⟨
 tM (fh h hs hst) λσ H Q ⟨J,env,sr,w⟩=>by
  refine ⟨J,env,sr,aC (aL w) λx wx u J1 H1 e1 r1=>?_⟩;refine ⟨J1,env,sr.ext e1,aC (aL wx) λxs wy us J2 H2 e2 r2=>?_⟩;exact wy (u::us) J2 H2 (e1.trans e2) ⟨u,us,rfl,r1.ext e2,i7.from e1.h r2⟩⟩
end
section
variable {X:Cx}{c:C}{e a b:N9}{es:List N9}{ga gb g:G R}{pos:Pos}
theorem aP:zD X c [] aX:=⟨tM gS λσ H Q ⟨J,env,sr,w⟩=>w [] J H (Ext.refl sr.hp.sub) .nil⟩
theorem av {gs:G (List D)}(h:QD X c e g) (hs:zD X c es gs) (hst:autoParam (Nl (e::es) X.env=(false,eval e X.env)::Nl es X.env) zA._auto_1):zD X c (e::es) (aA g gs):=have h:=h.h;have hs:=hs.h;⟨
 tM (fh h hs hst) λσ H Q ⟨J,env,sr,w⟩=>by
  refine ⟨J,env,sr,aC (aL w) λx wx u J1 H1 e1 r1=>?_⟩;obtain ⟨d,q,wx⟩:=i6 wx;obtain ⟨J1',e1',s1,rd⟩:=freeze e1 r1 q;refine ⟨J1',env,sr.ext e1',aC (aL wx) λxs wy us J2 H2 e2 r2=>?_⟩;exact wy (u::us) J2 H2 (e1'.trans e2) (.cons (rd.mono e2.j) r2)⟩
theorem bu {k}{gs:G (List D)}(h:zD X c es gs):QD X c (.Tuple es k pos) (bJ gs):=have h:=h.h;⟨gc (G6 h) λσ H Q ⟨J,env,sr,w⟩=>by
 refine ⟨J,env,sr,aC (aL w) λds wd vs J1 H1 e1 r1=>?_⟩;split at wd
 ·rename_i hz;rw [r1.length] at hz;exact ⟨hz,λp hp=>wd _ _ _ (e1.trans (Ext.newJ e1.sub hp _)) (kB (sr.hp.ext e1) hp r1)⟩
 ·exact wd.elim⟩
theorem fk {gs:G (List D)}(h:zD X c es gs):QD X c (.List es pos) (gn gs):=have h:=h.h;⟨gc (G2 h) λσ H Q ⟨J,env,sr,w⟩=>by
 refine ⟨J,env,sr,aC (aL w) λds wd vs J1 H1 e1 r1=>?_⟩;split at wd
 ·rename_i hz;rw [r1.length] at hz;exact ⟨hz,λp hp=>wd _ _ _ (e1.trans (Ext.new e1.sub hp _)) (RR.from e1.h (gU (sr.hp.ext e1) hp r1))⟩
 ·exact wd.elim⟩
theorem fj {p:Pos}{gs:G (List R)}(ha:jt X c (e::es) gs) (hm:X.mg "len"=none) (hK:autoParam (X.K=c.K) zA._auto_1) (hg:autoParam (Gl X "len") zA._auto_1)
  (he:autoParam (Nl (e::es) X.env=(false,eval e X.env)::Nl es X.env) zA._auto_1) (hpl:autoParam ((Qw pos (Nl es X.env)).any (·.1)=false) zA._auto_1):QD X c (.Call (.Name "len" p) (e::es) [] pos) (gN iG gs):=have ha:=ha.h;⟨
 kX (uu.or ur) (by
  intro He J H xs vs Q hp rs w;unfold iG at w;split at w
  ·obtain ⟨v,rfl,r⟩:=rs.one;cases r;split at w
   ·rename_i hz;exact .inl ⟨_,rfl,hz,w _ J H (Ext.refl hp.sub) (.int _)⟩
   ·exact w.elim
  ·obtain ⟨v,rfl,r⟩:=rs.one;obtain ⟨xs,q,w⟩:=iZ w;obtain ⟨p,vs,rfl,hq,hs⟩:=ng hp r q;have w':=w (.int vs.length) J H (Ext.refl hp.sub) (by rw [hs.length];exact .int _);exact .inr ⟨p,vs,rfl,by rw [hK];exact hq,w'⟩
  ·exact w.elim) PySem.boot_len hm ha hg (by decide) (by decide) he hpl⟩
theorem bG {gs:G (List R)}(ha:jt X c (e::es) gs) (hm:X.mg "tuple"=none) (hK:autoParam (X.K=c.K) zA._auto_1) (hg:autoParam (Gl X "tuple") zA._auto_1)
 (he:autoParam (Nl (e::es) X.env=(false,eval e X.env)::Nl es X.env) zA._auto_1) (hpl:autoParam ((Qw pos (Nl es X.env)).any (·.1)=false) zA._auto_1):QD X c (.Call (.Name "tuple" p) (e::es) [] pos) (gN b_ gs):=have ha:=ha.h;⟨
 AQ sQ (by
  intro He J H xs vs Q hp rs w;unfold b_ at w;split at w
  ·obtain ⟨v,rfl,r⟩:=rs.one;rename_i r0;obtain ⟨xs,q,w⟩:=iZ w;cases r0 with
   | d y=>
    cases y with
    | tup ys=>
     cases q;cases r with
     | tup h hs=>exact ⟨_,_,rfl,.inr ⟨by rw [hK];exact dQ hp.sub h,w _ J H (Ext.refl hp.sub) (.tup h hs)⟩⟩
    | lst ys=>
     cases q;obtain ⟨p,vs,rfl,hq,hs⟩:=RR.list hp r rfl;exact ⟨p,vs,rfl,.inl ⟨by rw [hK];exact hq,λl hl=>w _ _ _ (Ext.newJ hp.sub hl _) (kB hp hl hs)⟩⟩
    | _=>cases q
   | mo _ _=>cases q
   | mb _ _=>cases q
   | mf _ _=>cases q
   | ln _=>cases q
   | l m ys=>
    cases q;obtain ⟨p,vs,rfl,hq,hs⟩:=RR.list hp r rfl;exact ⟨p,vs,rfl,.inl ⟨by rw [hK];exact hq,λl hl=>w _ _ _ (Ext.newJ hp.sub hl _) (kB hp hl hs)⟩⟩
  ·exact w.elim) vY hm ha hg (by decide) (by decide) he hpl⟩
theorem Fc (h:QD X c e g) (he:∀whole,UT e X.env whole=(do let v <-whole;Ru e.pos;holding [v] (truthy v)):=by intro _;rfl):QB X c e (cI g):=have h:=h.h;⟨yV (Hi h he) λσ H Q ⟨J,env,sr,w⟩=>by
 refine ⟨J,env,sr,aC (aL w) λr wr v J1 H1 e1 r1=>?_⟩;split at wr
 ·cases r1;exact ⟨_,rfl,wr J1 H1 e1⟩
 ·exact wr.elim⟩
theorem kj {f:R->R->M R}(ho:dc X (Qj op) r) (hf:BD c r f) (ha:QD X c a ga) (hb:QD X c b gb) (hm:Pg op b=false:=by first | exact vg _ | rfl):QB X c (.Compare a [op] [b] pos) (cI (g2 f ga gb)):=⟨mH ho hf ha.h hb.h hm⟩
variable {t u:G Bool}{MT:List N9}
theorem xE (h:Di X c e t):QB X c e t:=have h:=h.h;⟨PW.pt h⟩
theorem vB (h:QB X c a t):Di X c (.BoolOp .And [a] pos) t:=have h:=h.h;⟨E9 h⟩
theorem qP (h:QB X c a t) (h':Di X c (.BoolOp .And (b::MT) pos) u):Di X c (.BoolOp .And (a::b::MT) pos) (i_ t u):=have h:=h.h;have h':=h'.h;⟨IG (Ho h h') λσ H Q ⟨J,env,sr,w⟩=>by
 refine ⟨J,env,sr,aC (aL w) λk wk J1 H1 e1=>?_⟩;cases k with
 | true=>
  rw [if_pos rfl] at wk ⊢;exact ⟨J1,env,sr.ext e1,aC wk λk q J2 H2 e2=>q J2 H2 (e1.trans e2)⟩
 | false=>
  rw [if_neg (by decide)] at wk ⊢;exact wk J1 H1 e1⟩
theorem CC {op}(h:QD X c a ga):QD X c (.BoolOp op [a] pos) ga:=have h:=h.h;⟨G4 h⟩
theorem qQ (h:QD X c a ga) (h':QD X c (.BoolOp .And (b::MT) pos) gb):QD X c (.BoolOp .And (a::b::MT) pos) (kN ga gb):=have h:=h.h;have h':=h'.h;⟨gc (G1 h h') λσ H Q ⟨J,env,sr,w⟩=>by
 refine ⟨J,env,sr,aC (aL w) λr wr v J1 H1 e1 r1=>?_⟩;split at wr
 ·cases r1;exact ⟨true,rfl,JM ⟨J1,env,sr.ext e1,aC wr λz q v J2 H2 e2 r2=>q v J2 H2 (e1.trans e2) (RR.from e1.h r2)⟩⟩
 ·cases r1;exact ⟨false,rfl,JL (wr _ J1 H1 e1 (.bl _))⟩
 ·exact wr.elim⟩
end
section
variable {X:Cx}{c:C}{e a b tg:N9}{es:List N9}{ga gb g:G R}{pos:Pos}{st:RB}{MT:List RB}{t u:G O}{tb:G Bool}
theorem cj:nG X c [] fG:=⟨vz E5 λE σ H ⟨J,env,sr,w⟩=>w σ J H (aG.refl J) sr⟩
theorem ay (h:ju X c st t) (h':nG X c MT u):nG X c (st::MT) (aK t u):=have h:=h.h;have h':=h'.h;⟨vz (Cz h h') λE σ H ⟨J,env,sr,w⟩=>by
 refine ⟨J,env,sr,aC (aL w) λo wo=>?_⟩;cases o with
 | nx e=>exact λσ' J' H' s' sr'=>⟨J',e,sr',aC wo λo q=>q.mono s'⟩
 | rt r=>exact wo
 | bk e=>exact wo
 | ct e=>exact wo⟩
theorem aM (h:ju X c st t):nG X c [st] t:=have h:=h.h;⟨E6 h⟩
theorem AZ (h:QD X c e g) (hs:autoParam (Tq e none pos.line X.env=pure false) zA._auto_1):ju X c (.Expr e pos) (yC g):=have h:=h.h;⟨jF (qO h hs) λE σ H ⟨J,env,sr,w⟩=>
 ⟨J,env,sr,aC (aL w) λr wr v J1 H1 e1 r1=>wr σ J1 H1 e1.j (sr.ext e1)⟩⟩
theorem br (h:QD X c e g):ju X c (.Return (some e) pos) (cg g):=have h:=h.h;⟨jF (Hg h) λE σ H ⟨J,env,sr,w⟩=>by
 refine ⟨J,env,sr,aC (aL w) λr wr v J1 H1 e1 r1=>?_⟩;cases q:rF r with
 | bad=>rw [q] at wr;exact wr.elim
 | exc x=>cases r with
  | d _=>cases q
  | l m _=>cases m <;> cases q
  | mo _ _=>cases q
  | mb _ _=>cases q
  | mf _ _=>cases q
  | ln _=>cases q
 | ok r'=>rw [q] at wr;exact wr v J1 H1 e1.j (sr.hp.ext e1) (RR.rf sr.hp r1 q)⟩
theorem cL {x:N9}{as bs:List RB}(hx:QB X c x tb) (h:nG X c as t) (h':nG X c bs u):ju X c (.If x as bs pos) (cD tb t u):=have hx:=hx.h;have h:=h.h;have h':=h'.h;⟨jF (IF hx h h') λE σ H ⟨J,env,sr,w⟩=>by
 refine ⟨J,env,sr,aC (aL w) λk wk J1 H1 e1=>?_⟩;cases k with
 | true=>
  rw [if_pos rfl] at wk ⊢;exact ⟨J1,env,sr.ext e1,aC wk λo q=>q.mono e1.j⟩
 | false=>
  rw [if_neg (by decide)] at wk ⊢;exact ⟨J1,env,sr.ext e1,aC wk λo q=>q.mono e1.j⟩⟩
theorem aJ (i:Nat){x:Str}{pos':Pos}(hN:X.N.Nodup) (h:QD X c e g) (hi:autoParam (X.N[i]?=some x) zA._auto_1) (hx:Loc X.env.scope x:=by first | exact Vs rfl | exact S_ rfl) (hs:autoParam (Tq e (some (.Name x pos')) pos.line X.env=pure false) zA._auto_1)
  (hf:X.fn x=true\/X.env.scope.names.lookup x=some .local:=by first | exact .inl rfl | exact .inr rfl):ju X c (.Assign [.Name x pos'] e pos) (aZ i g):=have h:=h.h;⟨jF (Hh hN hi hx h hs hf) λE σ H ⟨J,env,sr,w⟩=>by
 refine ⟨J,env,sr,aC (aL w) λr wr v J1 H1 e1 r1=>?_⟩;obtain ⟨x,q,wr⟩:=xV wr;exact wr (σ.set i (some v)) J1 H1 e1.j (sr.set e1 r1 q)⟩
theorem aD (i:Nat){x:Str}(hN:X.N.Nodup) (hi:autoParam (X.N[i]?=some x) zA._auto_1) (hx:Loc X.env.scope x:=by first | exact Vs rfl | exact S_ rfl) (hf:X.fn x=true\/X.env.scope.names.lookup x=some .local:=by first | exact .inl rfl | exact .inr rfl):nI X c (.Name x pos) (aE i):=⟨
 DM (EZ hN hi hx hf) λv σ H Q ⟨J,env,d,sr,rd,w⟩=>w _ (sr.setD (x:=.d d) rd λx z=>by cases x <;> cases z) λj xs q=>by
  rcases cQ q with ⟨_,_,e⟩ | ⟨hj,q⟩
  ·cases xs <;> cases e
  ·exact ⟨q,NY (P6 hj)⟩⟩
theorem bP:x_ X c [] cX:=⟨AU E1 λvs σ H Q ⟨J,env,ds,sr,rd,w⟩=>by
 cases rd with
 | nil=>exact ⟨rfl,w σ sr KO.refl⟩
 | cons _ _=>exact w.elim⟩
theorem aN {t:GT}{u:oW}(h:nI X c e t) (h':x_ X c es u) (hs:autoParam ((QU (e::es) X.env).map (·.2)=assign e X.env::(QU es X.env).map (·.2)) zA._auto_1):x_ X c (e::es) (aW t u):=have h:=h.h;have h':=h'.h;⟨
 AU (Cv h h' hs) λvs σ H Q ⟨J,env,ds,sr,rd,w⟩=>by
  cases rd with
  | nil=>exact w.elim
  | cons r rs=>
   refine ⟨_,_,rfl,J,env,_,sr,r,aC (aL w) λe1 w1 σ' sr' ko=>?_⟩;exact ⟨J,e1,_,sr',rs,aC w1 λe2 q σ2 sr2 ko2=>q σ2 sr2 (ko.trans ko2)⟩⟩
theorem cu {k:Nat}{u:oW}{n:Nat}(h:x_ X c es u) (hc:autoParam (X.calm=true) zA._auto_1) (hK:autoParam (X.K=c.K) zA._auto_1) (hn:autoParam ((QU es X.env).length=n) zA._auto_1) (hst:autoParam ((QU es X.env).findIdx? (·.1)=none) zA._auto_1):nI X c (.Tuple es k pos) (cV n u):=have h:=h.h;⟨
 DM (G7 hc h hn hst) λv σ H Q ⟨J,env,d,sr,rd,w⟩=>by
  cases rd with
  | tup h1 h2=>
   unfold cV at w;simp only at w;split at w
   ·rename_i hl;exact ⟨_,_,rfl,by rw [hK];exact dQ sr.hp.sub h1,by rw [<-h2.length];exact hl,J,env,_,sr,h2,w⟩
   ·exact w.elim
  | _=>exact w.elim⟩
theorem dX {MU:N9}{body:List RB}{gi:G (List D)}{t:GT}(hi:tZ X c tg MU gi) (ht:nI X c tg t) (hb:nG X c body u) (hp:PassesOwn (Nq X.prog X.w) X.A X.env X.xe:=by first | exact YR | exact YE) (hc:autoParam (X.calm=true) zA._auto_1)
  (hs:∀x,OS MU X.env x=pure x:=by intro _;rfl):ju X c (.For tg MU body [] pos) (fF gi t u):=have hi:=hi.h;have ht:=ht.h;have hb:=hb.h;⟨jF (Hf hp hc hi ht hb hs) λE σ H ⟨J,env,sr,w⟩=>by
 refine ⟨J,env,sr,aC (aL w) λds wd It J1 H1 e1 wk=>?_⟩;refine ⟨λi m σ H=>m=ds.length - i/\∃J' env,aG J1 J'/\SR c J' H σ env/\bR (fR t u (ds.drop i) env) (oP c J' E) c.T,
  ⟨ds.length,by simp,J1,env,aG.refl J1,sr.ext e1,by rw [QX];exact aC wd λo q=>q.mono e1.j⟩,?_⟩
 rintro i m σ H ⟨rfl,J',env,s',sr',w'⟩;obtain ⟨w1,w2⟩:=wk i J' H sr'.hp s';by_cases hlt:i < ds.length
 ·obtain ⟨g1,y1⟩:=w2 ds[i] (by simp [hlt]);rw [PV hlt] at w';refine .inr ⟨g1,λσ2 H2=>∃J2 env2,aG J' J2/\SR c J2 H2 σ2 env2/\bR (fR t u (ds.drop (i + 1)) env2) (oP c J2 E) c.T,?_,?_⟩
  ·rintro σ2 H2 ⟨J2,env2,s2,sr2,w2⟩;exact ⟨ds.length - (i + 1),by omega,rfl,J2,env2,s'.trans s2,sr2,w2⟩
  ·intro x H2 hy;obtain ⟨J2,e2,rx⟩:=y1 x H2 hy;refine ⟨J2,env,ds[i],sr'.ext e2,rx,aC (aL w') λenv3 w3 σ3 sr3 _=>?_⟩;refine ⟨J2,env3,sr3,aC (aL w3) λo wo=>?_⟩;cases o with
   | nx env4=>exact λσ4 J4 H4 s4 sr4=>⟨J4,env4,e2.j.trans s4,sr4,aC wo λo q=>q.mono (e2.j.trans s4)⟩
   | ct env4=>exact λσ4 J4 H4 s4 sr4=>⟨J4,env4,e2.j.trans s4,sr4,aC wo λo q=>q.mono (e2.j.trans s4)⟩
   | bk env4=>exact λσ4 J4 H4 s4 sr4=>wo σ4 J4 H4 (e2.j.trans s4) sr4
   | rt r=>exact λv J4 H4 s4 h4 r4=>wo v J4 H4 (e2.j.trans s4) h4 r4
 ·rw [Ul (by omega)] at w';exact .inl ⟨w1 (by omega),w' σ J' H (aG.refl J') sr'⟩⟩
theorem bS {p:Pos}{gs:G (List R)}(ha:jt X c [a] gs) (hm:X.mg "range"=none) (hg:autoParam (Gl X "range") zA._auto_1) (hs:autoParam (Nl [a] X.env=[(false,eval a X.env)]) zA._auto_1):tZ X c tg (.Call (.Name "range" p) [a] [] pos) (dO gs):=have ha:=ha.h;⟨
 p6 (AW hg hm ha hs) λσ H Q ⟨J,env,sr,w⟩=>by
  refine ⟨J,env,sr,aC (aL w) λrs wr vs J1 H1 e1 r1=>?_⟩;split at wr
  ·split at wr
   ·rename_i h;obtain ⟨v,rfl,r⟩:=r1.one;cases r;have h:=dg.mp h;exact ⟨_,rfl,Int.le_of_lt h.1,h.2,wr _ J1 H1 e1 zl⟩
   ·exact wr.elim
  ·exact wr.elim⟩
theorem jh {gi:G (List D)}(h:tZ X c tg e gi):zE X c tg e gi:=have h:=h.h;⟨p6 h λσ H Q ⟨J,env,sr,w⟩=>
 ⟨J,env,sr,aC w λds q It J1 H1 e1 wk=>q It J1 H1 e1 λi J' H' hp u=>wk i J' H' hp u.1⟩⟩
end
section
variable {X:Cx}{c:C}{e a b tg:N9}{es:List N9}{ga gb g:G R}{pos:Pos}
theorem f6 (i:Nat){x:Str}{p1 p2 pos':Pos}(h:QD X c e g) (hN:autoParam (X.N[i]?=some x) zA._auto_1) (hv:wJ X.env.scope x:=by first | exact Vs rfl | exact S_ (Vs rfl) | exact S_ (S_ rfl)) (hd:autoParam ((x == ("__debug__":Str))=false) zB._auto_1)
  (hcd:autoParam ((x == ("__classdict__":Str))=false) zB._auto_1)
  (hbase:autoParam (TU (.Name x p1) "append" X.env (eval (.Name x p1) X.env)=eval (.Name x p1) X.env) zA._auto_1)
  (hfew:autoParam (((Qw pos' (Nl [e] X.env)).all (λx=>!x.1) && (Xp pos' (U3 [] X.env)).all (λx=>x.1.isSome)
   && decide (([e]:List N9).length + ([]:List U4).length + (if ([]:List U4).isEmpty then 0 else 1) < 30))=true) zA._auto_1)
  (hline:autoParam ((p2.endLine == pos'.line)=true) zA._auto_1) (hst:autoParam (Nl [e] X.env=(false,eval e X.env)::Nl [] X.env) zA._auto_1) (hplain:autoParam ((Qw pos' (Nl [] X.env)).any (·.1)=false) zA._auto_1)
  (hs:autoParam (Tq (.Call (.Attribute (.Name x p1) "append" p2) [e] [] pos') none pos.line X.env=pure false) zA._auto_1):ju X c (.Expr (.Call (.Attribute (.Name x p1) "append" p2) [e] [] pos') pos) (jb i g):=have h:=h.h;⟨
 jF (qO (yT RN Tu Tv mF (p5 hN hv hd hcd) (fh h gS hst) hbase hfew hline hst hplain) hs) λE σ H ⟨J,env,sr,w⟩=>by
  unfold jb at w;split at w
  ·rename_i xs hi;obtain ⟨v,h1,a,vs,rfl,h2,h3,h4,h5⟩:=sr.at_ i _ hi;refine ⟨.ref a,h1,.inl ⟨rfl,vs,bN.of h2⟩,?_⟩;refine ⟨J,env,sr,aC (aL w) λr wr y J1 H1 e1 r1=>?_⟩;obtain ⟨d,q,wr⟩:=i6 wr;obtain ⟨J2,e2,s2,rd⟩:=freeze e1 r1 q;split at wr
   ·rename_i hz;refine ⟨a,vs,y,rfl,rfl,e2.h _ _ h2,by rw [<-h5.length];exact hz,?_⟩;refine wr σ J2 _ e2.j ?_;exact (sr.ext e2).upd hi h1 (e2.h _ _ h2) (e2.frz a (by rw [h2];intro z;cases z) h3) h4 ((h5.mono e2.j).append (.cons rd .nil))
   ·exact wr.elim
  ·exact w.elim⟩
end
section
variable {X:Cx}{c:C}
theorem cB:oj X c [] fH:=⟨λMQ s σ H Q I ⟨J,env,sr,w⟩=>wpAny_tests_nil ⟨H,I,w J H (Ext.refl sr.hp.sub)⟩⟩
theorem mL {g:G Bool}(h:QB X c x g):oj X c [x] g:=have h:=h.h;⟨λMQ s σ H Q I q=>wpAny_tests_one (h MQ s σ H Q I q)⟩
end
section
variable {K:M1}{J:Hp}{s:M5}
variable {X:Cx}{c:C}{e a b tg:N9}{es:List N9}{ga gb g:G R}{pos:Pos}
theorem jk (hu:X.A.units + 64 < PN) (ha:QD X c a ga) (hb:QD X c b gb) (hK:autoParam (X.K=c.K) zA._auto_1):QD X c (.Compare a [.Eq] [b] pos) (g2 (cG false) ga gb):=have ha:=ha.h;have hb:=hb.h;⟨AR (AM hu) (yk false hK) ha hb⟩
theorem ji (hu:X.A.units + 64 < PN) (ha:QD X c a ga) (hb:QD X c b gb) (hK:autoParam (X.K=c.K) zA._auto_1):QB X c (.Compare a [.Eq] [b] pos) (cI (g2 (cG false) ga gb)):=have ha:=ha.h;have hb:=hb.h;⟨mH (AM hu) (yk false hK) ha hb⟩
theorem mK (hu:X.A.units + 64 < PN) (ha:QD X c a ga) (hb:QD X c b gb) (hK:autoParam (X.K=c.K) zA._auto_1):QB X c (.Compare a [.NotEq] [b] pos) (cI (g2 (cG true) ga gb)):=have ha:=ha.h;have hb:=hb.h;⟨mH (GW hu) (yk true hK) ha hb⟩
theorem kq (hu:X.A.units + 64 < PN) (ha:QD X c a ga) (hb:QD X c b gb) (hK:autoParam (X.K=c.K) zA._auto_1) (hm:autoParam (Pg .In b=false) zA._auto_1):QD X c (.Compare a [.In] [b] pos) (g2 (iJ false) ga gb):=have ha:=ha.h;have hb:=hb.h;⟨AR (AN hu) (Dl false hK) ha hb hm⟩
theorem Hq (hu:X.A.units + 64 < PN) (ha:QD X c a ga) (hb:QD X c b gb) (hK:autoParam (X.K=c.K) zA._auto_1) (hm:autoParam (Pg .In b=false) zA._auto_1):QB X c (.Compare a [.In] [b] pos) (cI (g2 (iJ false) ga gb)):=have ha:=ha.h;have hb:=hb.h;⟨mH (AN hu) (Dl false hK) ha hb hm⟩
end
section
variable {X:Cx}{c:C}{e a b tg:N9}{es:List N9}{ga gb g:G R}{pos:Pos}
theorem rW:Dj X c none Ak:=⟨DN E2 λσ H Q ⟨J,env,sr,w⟩=>w J H (Ext.refl sr.hp.sub)⟩
theorem rX (h:QD X c e g):Dj X c (some e) (Al g):=have h:=h.h;⟨DN (E3 h) λσ H Q ⟨J,env,sr,w⟩=>by
 refine ⟨J,env,sr,aC (aL w) λr wr v J1 H1 e1 r1=>?_⟩;split at wr
 ·cases r1;exact ⟨_,rfl,wr J1 H1 e1⟩
 ·exact wr.elim⟩
theorem yZ {p:Pos}{gs:G (List R)}(ha:jt X c (e::es) gs) (hm:X.mg "sorted"=none) (hK:autoParam (X.K=c.K) zA._auto_1) (hg:autoParam (Gl X "sorted") zA._auto_1)
  (he:autoParam (Nl (e::es) X.env=(false,eval e X.env)::Nl es X.env) zA._auto_1) (hpl:autoParam ((Qw pos (Nl es X.env)).any (·.1)=false) zA._auto_1):QD X c (.Call (.Name "sorted" p) (e::es) [] pos) (gN jY gs):=have ha:=ha.h;⟨
 kX uv (by
  intro He J H xs vs Q hp rs w;unfold jY at w;split at w
  ·obtain ⟨v,rfl,r⟩:=rs.one;obtain ⟨xs,q,w⟩:=qW w;obtain ⟨p,vs,rfl,h1,h2⟩:=RR.list hp r q;split at w
   ·rename_i ss z;split at w
    ·rename_i hl;have:=qo z h2;subst this;refine ⟨p,ss,rfl,by rw [hK];exact h1,hl,λss' hp' hs' l hl'=>?_⟩;rw [zd hp' hs'];exact w _ _ _ (Ext.new hp.sub hl' _) (gU hp hl' (se _))
    ·exact w.elim
   ·exact w.elim
  ·exact w.elim) gQ hm ha hg (by decide) (by decide) he hpl⟩
theorem eT (ha:QD X c a ga) (hb:QD X c b gb):QD X c (.BinOp a .Add b pos) (g2 c7 ga gb):=by
 have ha:=ha.h;have hb:=hb.h;refine ⟨?_⟩;have h1:BD c (nV λi j=>.int (i + j)) BV:=jx λ_ _ _=>.int _;have q:=kY (pos:=pos) (AJ.or (pY.or AK)) (BD.or (c:=c) (λx _=>Au x) h1 (BD.or (c:=c) (λx _=>Gv x) (f:=pD) (f':=pG) (by
  intro He He' J H x y u v Q hp rx ry w;unfold pD at w;split at w
  ·cases rx;cases ry;split at w
   ·rename_i h;exact ⟨_,_,rfl,rfl,h,w _ J H (Ext.refl hp.sub) (.str _)⟩
   ·exact w.elim
  ·exact w.elim) (by
  intro He He' J H x y u v Q hp rx ry w;unfold pG at w;split at w
  ·rename_i hm;rw [M8] at hm;obtain ⟨p,vs,xs,e1,rfl,h1,s1⟩:=rx.made hm.1;obtain ⟨p2,vs2,ys,e2,rfl,h2,s2⟩:=ry.made hm.2;rw [e1,e2] at w;simp only [aS] at w;split at w
   ·rename_i hz;rw [s1.length,s2.length] at hz;exact ⟨p,p2,vs,vs2,rfl,rfl,h1,h2,hz,λq hq=>w _ J _ (Ext.new hp.sub hq _) (gU hp hq (s1.append s2))⟩
   ·exact w.elim
  ·exact w.elim))) ha hb
 exact q
theorem iF (ha:QD X c a ga) (hb:QD X c b gb):QD X c (.BinOp a .Mult b pos) (g2 fE ga gb):=by
 have ha:=ha.h;have hb:=hb.h;refine ⟨?_⟩;have h1:BD c (rI xW λi j=>.int (i * j)) Gj:=yj (λi j h=>Ez h) λ_ _ _=>.int _;exact kY (pos:=pos) (GV.or ER) (BD.or (c:=c) (λx _=>Au x) h1 (f':=yz) (by
  intro He He' J H x y u v Q hp rx ry w;unfold yz at w;split at w
  ·cases rx;cases ry;split at w
   ·rename_i h;exact ⟨_,_,rfl,rfl,h.1,h.2.1,h.2.2,w _ J H (Ext.refl hp.sub) (.str _)⟩
   ·exact w.elim
  ·exact w.elim)) ha hb
theorem aH (ha:QD X c a ga) (hb:QD X c b gb) (hK:autoParam (X.K=c.K) zA._auto_1) (hs:nc b:=by exact λ_ _=>rfl):QD X c (.Subscript a b pos) (g2 bg ga gb):=have ha:=ha.h;have hb:=hb.h;⟨DK Gy (by
 intro He He' J H x y u v Q hp rx ry w;rw [hK];unfold bg at w;split at w
 ·cases rx;cases ry;split at w
  ·rename_i h;split at w
   ·rename_i k hk;exact .inr (.inr ⟨_,_,k,rfl,rfl,h,hk,w _ J H (Ext.refl hp.sub) (.str _)⟩)
   ·exact w.elim
  ·exact w.elim
 ·cases ry;obtain ⟨xs,q,w⟩:=iZ w;obtain ⟨p,vs,rfl,hl,hs⟩:=ng hp rx q;split at w
  ·rename_i d hd;obtain ⟨z,h1,h2⟩:=Fp hs hd;have fin:=w z J H (Ext.refl hp.sub) h2;rcases hl with hl | hl
   ·exact .inl ⟨p,vs,_,z,rfl,rfl,hl,h1,fin⟩
   ·exact .inr (.inl ⟨p,vs,_,z,rfl,rfl,hl,h1,fin⟩)
  ·exact w.elim
 ·exact w.elim) ha hb hs⟩
theorem aU {F:List S->M R}{gs:G (List R)}(G:cH X.prog X.w X.K X.mg X.base k n x F) (hr:cZ k' X.A) (ha:jt X c (e::es) gs) (hk:autoParam (k<=k') zB._auto_1) (hT:autoParam (c.K=X.K) zA._auto_1) (hg:autoParam (Gl X x) zA._auto_1) (hdb:autoParam ((x == ("__debug__":Str))=false) zB._auto_1)
 (he:autoParam (Nl (e::es) X.env=(false,eval e X.env)::Nl es X.env) zA._auto_1) (hpl:autoParam ((Qw pos (Nl es X.env)).any (·.1)=false) zA._auto_1):QD X c (.Call (.Name x p) (e::es) [] pos) (gN (bf n F) gs):=by have ha:=ha.h;refine ⟨?_⟩;obtain ⟨f,fd,ps,h1,h2,h3,h4⟩:=G;exact EU h1 (hr.mono hk) h2 h3 h4 ha hT hg hdb he hpl
theorem jj (h:QD X c e g) (ht:nI X c tg t) (hs:autoParam (Vc [tg] e pos.line X.env=pure false) zA._auto_1) (hw:autoParam (Xh [tg] e X.env=pure none) zA._auto_1)
 (h1:autoParam ((QU [tg] X.env).map (·.2)=[assign tg X.env]) zA._auto_1):ju X c (.Assign [tg] e pos) (jP t g):=have h:=h.h;have ht:=ht.h;⟨ET h ht (G_ h ht hs hw h1)⟩
theorem k6 {T:String}{Ts:Str}{p p2:Pos}(kit:zy T) (hT:OC Ts=some (.type T)) (mT:X.mg Ts=none)
  (h:QD X c a g) (hm:X.mg "isinstance"=none) (hK:autoParam (X.K=c.K) zA._auto_1) (hg:autoParam (Gl X "isinstance") zA._auto_1) (Mu:autoParam (Gl X Ts) zA._auto_1) (hn:autoParam (Ts≠"__name__") zB._auto_1) (Mq:autoParam ((Ts == ("__debug__":Str))=false) zB._auto_1)
  (he:autoParam (Nl [a,.Name Ts p2] X.env=(false,eval a X.env)::Nl [.Name Ts p2] X.env) zA._auto_1) (LJ:autoParam (Nl [.Name Ts p2] X.env=(false,eval (.Name Ts p2) X.env)::Nl [] X.env) zA._auto_1)
  (hpl:autoParam ((Qw pos (Nl [.Name Ts p2] X.env)).any (·.1)=false) zA._auto_1):QD X c (.Call (.Name "isinstance" p) [a,.Name Ts p2] [] pos) (uM T g):=have h:=h.h;⟨
 gc (kZ (v7 kit) hg hm (by decide +kernel) (fh h (fh (EW Mu mT hT (v:=.ty T) rfl hn Mq) gS LJ) he) (by decide) (by decide) he hpl) λσ H Q ⟨J,env,sr,w⟩=>by
  refine ⟨J,env,sr,aC (aL w) λr wr v J1 H1 e1 r1=>?_⟩;exact ⟨r.dat,v,rfl,by rw [hK];exact r1.dat (sr.hp.ext e1),wr _ J1 H1 e1 (.bl _)⟩⟩
theorem Fd {p:Pos}{gs:G (List R)}(ha:jt X c (e::es) gs) (hm:X.mg "all"=none) (hK:autoParam (X.K=c.K) zA._auto_1) (hc:autoParam (X.calm=true) zA._auto_1) (hg:autoParam (Gl X "all") zA._auto_1)
  (he:autoParam (Nl (e::es) X.env=(false,eval e X.env)::Nl es X.env) zA._auto_1) (hpl:autoParam ((Qw pos (Nl es X.env)).any (·.1)=false) zA._auto_1):QD X c (.Call (.Name "all" p) (e::es) [] pos) (gN qF gs):=have ha:=ha.h;⟨
 kX (zP hc) (by
  intro He J H xs vs Q hp rs w;unfold qF at w;split at w
  ·obtain ⟨v,rfl,r⟩:=rs.one;obtain ⟨xs,q,w⟩:=qW w;obtain ⟨p,vs,rfl,h1,h2⟩:=RR.list hp r q;split at w
   ·rename_i ks z;have:=rD z h2;subst this;exact ⟨p,ks,rfl,by rw [hK];exact h1,w _ J H (Ext.refl hp.sub) (.bl _)⟩
   ·exact w.elim
  ·exact w.elim) zM hm ha hg (by decide) (by decide) he hpl⟩
theorem ir (ha:QD X c a ga) (hb:QD X c b gb) (hK:autoParam (X.K=c.K) zA._auto_1):QD X c (.BinOp a .Add b pos) (g2 d8 ga gb):=by
 have ha:=ha.h;have hb:=hb.h;refine ⟨?_⟩;have h1:BD c (nV λi j=>.int (i + j)) BV:=jx λ_ _ _=>.int _;exact kY (pos:=pos) (AL.or (AJ.or (pY.or AK))) (BD.or (c:=c) (λx _=>Gw x) (Eb hK) (BD.or (c:=c) (λx _=>Au x) h1 (BD.or (c:=c) (λx _=>Gv x) (f:=pD) (f':=pG) (by
  intro He He' J H x y u v Q hp rx ry w;unfold pD at w;split at w
  ·cases rx;cases ry;split at w
   ·rename_i h;exact ⟨_,_,rfl,rfl,h,w _ J H (Ext.refl hp.sub) (.str _)⟩
   ·exact w.elim
  ·exact w.elim) (by
  intro He He' J H x y u v Q hp rx ry w;unfold pG at w;split at w
  ·rename_i hm;rw [M8] at hm;obtain ⟨p,vs,xs,e1,rfl,h1,s1⟩:=rx.made hm.1;obtain ⟨p2,vs2,ys,e2,rfl,h2,s2⟩:=ry.made hm.2;rw [e1,e2] at w;simp only [aS] at w;split at w
   ·rename_i hz;rw [s1.length,s2.length] at hz;exact ⟨p,p2,vs,vs2,rfl,rfl,h1,h2,hz,λq hq=>w _ J _ (Ext.new hp.sub hq _) (gU hp hq (s1.append s2))⟩
   ·exact w.elim
  ·exact w.elim)))) ha hb
theorem xK {lo hi:Option N9}{gl gh:GO}{p2:Pos}(h:QD X c e g) (hl:Dj X c lo gl) (hh:Dj X c hi gh) (hK:autoParam (X.K=c.K) zA._auto_1):QD X c (.Subscript e (.Slice lo hi none p2) pos) (xh qG g gl gh):=have h:=h.h;have hl:=hl.h;have hh:=hh.h;⟨Iz (Bc.or Fq) (by
 intro He J H x v l u Q hp rx w;unfold qG at w;split at w
 ·exact .inl (Kd hK He J H x v l u Q hp rx w)
 ·obtain ⟨xs,q,w⟩:=qW w;obtain ⟨p,vs,rfl,h1,h2⟩:=rx.list hp q;exact .inr ⟨p,vs,rfl,by rw [hK];exact h1,λp' hp'=>w _ _ _ (Ext.new hp.sub hp' _) (gU hp hp' (h2.cut l u))⟩) h hl hh⟩
theorem Ff {st:N9}{p2:Pos}(h:QD X c e g) (hst:PE X st (tC (.int (-1)))) (hK:autoParam (X.K=c.K) zA._auto_1):QD X c (.Subscript e (.Slice none none (some st) p2) pos) (BX g):=by
 have h:=h.h;refine ⟨?_⟩;intro MQ s σ H Q I ⟨J,env,sr,w⟩;refine W5 (bM (h MQ s σ H (λv H1=>∃a xs,v=.ref a/\bT X.K H1 a xs/\∀p,H1 p=none->Q (.ref p) (upd H1 p (.tup xs.reverse))) I ⟨J,env,sr,aC (aL w) λr wr v J1 H1 e1 r1=>?_⟩) λv s1 ⟨x,H1,I1,r1,a,xs,hx,hq,q⟩=>?_)
 ·split at wr
  ·cases r1 with
   | tup h1 s1=>
    exact ⟨_,_,rfl,by rw [hK];exact dQ e1.sub h1,λp hp'=>wr _ _ _ (e1.trans (Ext.newJ e1.sub hp' _)) (kB (sr.hp.ext e1) hp' s1.rev)⟩
  ·exact wr.elim
 subst hx;cases r1;refine wpAny_Slice ?_;rw [Vh];refine M3 (M3 ?_);rw [Xm];refine bM (hst MQ s1 σ H1 (λv H2=>v=.int (-1)/\H2=H1) I1 ⟨rfl,rfl⟩) λu s3 ⟨y,H3,I3,r3,hy,hH⟩=>?_;subst hy hH;obtain ⟨k,rfl⟩:=r3;have I4:Inv X MQ σ H3 {s3 with heap:=s3.heap.push {cls:=.type "slice",data:=.fields #[.none,.none,.int (-1) k]}}:=I3.kept (t':=s3.toks) λb ob q=>M6 _ q;obtain ⟨its,r,ht,hz⟩:=I4.tuple hq;have hlen:=r.length;refine Yq (ops:=[.ref a,.ref s3.heap.objs.size]) ht.typeIs NO.lookup ?_ (by with_unfolding_all rfl);refine Bm ht (Vi ..) ?_ (by rw [Ni];omega);refine ⟨.ref _,_,I4.laid (t':=s3.toks) (o:=.tup xs.reverse) (λb ob q=>M6 _ q) (Nb _) ?_,rfl,q _ (I4.hok.fresh (Nb _))⟩;exact ⟨by simpa using hz,_,r.reverse,Wi _ _,λo q=>by rw [Nf _ rfl] at q;cases q;rfl⟩
end
section
variable {X:Cx}{c:C}{e a b tg:N9}{es:List N9}{ga gb g:G R}{pos:Pos}{st:RB}{t u:G O}{tb:G Bool}
theorem yX:ju X c st Dr:=⟨λMQ s σ H D I ⟨J,env,sr,w⟩=>w.elim⟩
theorem xF (h:QD X c e g) (hK:autoParam (X.K=c.K) zA._auto_1) (he:∀whole,UT e X.env whole=(do let v <-whole;Ru e.pos;holding [v] (truthy v)):=by intro _;rfl):QB X c e (BY g):=have h:=h.h;⟨yV (CA h he) λσ H Q ⟨J,env,sr,w⟩=>by
 refine ⟨J,env,sr,aC (aL w) λr wr v J1 H1 e1 r1=>?_⟩;rw [hK];obtain ⟨k,k1,k2⟩:=FE (sr.hp.ext e1) r1 wr;exact ⟨k,k1,k2 J1 H1 e1⟩⟩
theorem we (i j:Nat){x y:Str}{p1 p2 pos' q1 q2 q3:Pos}(h:QD X c e g) (hi:autoParam (X.N[i]?=some x) zA._auto_1) (MG:wJ X.env.scope x:=by first | exact Vs rfl | exact S_ (Vs rfl) | exact S_ (S_ rfl)) (hdx:autoParam ((x == ("__debug__":Str))=false) zB._auto_1) (Mm:autoParam ((x == ("__classdict__":Str))=false) zB._auto_1)
  (hj:autoParam (X.N[j]?=some y) zA._auto_1) (MH:wJ X.env.scope y:=by first | exact Vs rfl | exact S_ (Vs rfl) | exact S_ (S_ rfl)) (Ms:autoParam ((y == ("__debug__":Str))=false) zB._auto_1) (Mp:autoParam ((y == ("__classdict__":Str))=false) zB._auto_1)
  (hbase:autoParam (TU (.Name x p1) "append" X.env (eval (.Name x p1) X.env)=eval (.Name x p1) X.env) zA._auto_1)
  (hfew:autoParam (((Qw pos' (Nl [.Call (.Attribute (.Name y q1) "pop" q2) [e] [] q3] X.env)).all (λx=>!x.1) && (Xp pos' (U3 [] X.env)).all (λx=>x.1.isSome)
   && decide (([.Call (.Attribute (.Name y q1) "pop" q2) [e] [] q3]:List N9).length + ([]:List U4).length + (if ([]:List U4).isEmpty then 0 else 1) < 30))=true) zA._auto_1)
  (hline:autoParam ((p2.endLine == pos'.line)=true) zA._auto_1)
  (hst:autoParam (Nl [.Call (.Attribute (.Name y q1) "pop" q2) [e] [] q3] X.env=(false,eval (.Call (.Attribute (.Name y q1) "pop" q2) [e] [] q3) X.env)::Nl [] X.env) zA._auto_1) (hplain:autoParam ((Qw pos' (Nl [] X.env)).any (·.1)=false) zA._auto_1)
  (Lw:autoParam (TU (.Name y q1) "pop" X.env (eval (.Name y q1) X.env)=eval (.Name y q1) X.env) zA._auto_1)
  (LL:autoParam (((Qw q3 (Nl [e] X.env)).all (λx=>!x.1) && (Xp q3 (U3 [] X.env)).all (λx=>x.1.isSome)
   && decide (([e]:List N9).length + ([]:List U4).length + (if ([]:List U4).isEmpty then 0 else 1) < 30))=true) zA._auto_1)
  (Lz:autoParam ((q2.endLine == q3.line)=true) zA._auto_1) (LO:autoParam (Nl [e] X.env=(false,eval e X.env)::Nl [] X.env) zA._auto_1) (Lq:autoParam ((Qw q3 (Nl [] X.env)).any (·.1)=false) zA._auto_1)
  (hs:autoParam (Tq (.Call (.Attribute (.Name x p1) "append" p2) [.Call (.Attribute (.Name y q1) "pop" q2) [e] [] q3] [] pos') none pos.line X.env=pure false) zA._auto_1):ju X c (.Expr (.Call (.Attribute (.Name x p1) "append" p2) [.Call (.Attribute (.Name y q1) "pop" q2) [e] [] q3] [] pos') pos) (jZ i j g):=have h:=h.h;⟨
 jF (qO (yT RN Tu Tv mF (p5 hi MG hdx Mm) (fh (yT RN PySem.F.slot_list_pop PySem.F.type_list_pop Cf (p5 hj MH Ms Mp) (fh h gS LO) Lw LL Lz LO Lq) gS hst) hbase hfew hline hst hplain) hs) λE σ H ⟨J,env,sr,w⟩=>by
  unfold jZ at w;split at w
  ·rename_i zs xs LZ L4;split at w
   ·exact w.elim
   ·rename_i hij;obtain ⟨_,k1,p,us,rfl,k2,k3,k4,k5⟩:=sr.at_ i _ LZ;obtain ⟨_,l1,q,vs,rfl,l2,l3,l4,l5⟩:=sr.at_ j _ L4;refine ⟨.ref p,k1,.inl ⟨rfl,us,bN.of k2⟩,?_⟩;refine ⟨.ref q,l1,.inl ⟨rfl,vs,bN.of l2⟩,?_⟩;refine ⟨J,env,sr,aC (aL w) λr wr v J1 H1 e1 r1=>?_⟩;split at wr
    ·rename_i k;cases r1;split at wr
     ·rename_i hk;split at wr
      ·rename_i d hd;obtain ⟨z,hz,rz⟩:=l5.get hd;have m2:=e1.h _ _ l2;have n2:=e1.h _ _ k2;have hpq:q≠p:=λzz=>G0 sr hij LZ L4 k1 l1 zz.symm;refine ⟨q,vs,k,k.toNat,z,rfl,rfl,m2,by omega,?_,IT hk.1 (by rw [<-l5.length];exact hk.2.1),hz,?_⟩
       ·have z1:=hk.2.1;have z2:=hk.2.2.2;have z3:sizeLine=16777216:=OG;omega
       ·refine ⟨p,us,z,rfl,rfl,by rw [aQ (P6 hpq)];exact n2,by rw [<-k5.length];exact hk.2.2.1,?_⟩;have sr1:=sr.ext e1;have J1p:J1 p=none:=e1.frz p (by rw [k2];intro z;cases z) k3;have J1q:J1 q=none:=e1.frz q (by rw [l2];intro z;cases z) l3;have sr2:=sr1.upd (xs':=xs.eraseIdx k.toNat) (vs':=vs.eraseIdx k.toNat) L4 l1 m2 J1q l4 ((l5.mono e1.j).eraseIdx _);have L3:(env.set j (some (.own (xs.eraseIdx k.toNat))))[i]?=some (some (.own zs)):=by rw [NY (P6 hij)];exact LZ
        have sr3:=sr2.upd (xs':=zs++[d]) (vs':=us++[z]) L3 k1 (by rw [aQ (P6 hpq)];exact n2) J1p k4 ((k5.mono e1.j).append (.cons (rz.mono e1.j) .nil));exact wr σ J1 _ e1.j sr3
      ·exact wr.elim
     ·exact wr.elim
    ·exact wr.elim
  ·exact w.elim⟩
end
section
variable {X:Cx}{c:C}{e a b tg:N9}{es:List N9}{ga gb g:G R}{pos:Pos}
theorem Hr (ha:QD X c a ga) (hb:QD X c b gb):QB X c (.Compare a [.Is] [b] pos) (cI (g2 (Gi false) ga gb)):=have ha:=ha.h;have hb:=hb.h;⟨mH GS (by
 intro He He' J H x y u v Q hp rx ry w;unfold Gi at w;split at w
 ·rename_i o ho;refine ⟨o,by rw [xC ry];exact ho,?_⟩;rw [xC rx];exact w _ J H (Ext.refl hp.sub) (.bl _)
 ·exact w.elim) ha hb⟩
end
section
variable {X:Cx}{c:C}{e a b d tg:N9}{es:List N9}{ga gb g:G R}{pos:Pos}
theorem oO (h:QD X c e g) (hK:autoParam (X.K=c.K) zA._auto_1):tZ X c tg e (yD g):=have h:=h.h;⟨p6 (AV h) λσ H Q ⟨J,env,sr,w⟩=>by
 refine ⟨J,env,sr,aC (aL w) λr wr v J1 H1 e1 r1=>?_⟩;rw [hK];split at wr
 ·cases r1 with
  | tup h1 h2=>exact ⟨_,rfl,.inr ⟨⟨_,dQ e1.sub h1⟩,wr _ J1 H1 e1 (sI (λJ H u=>u) h1 h2)⟩⟩
 ·cases r1 with
  | lst h1 h2=>exact ⟨_,rfl,.inl ⟨⟨_,e1.sub.seq h1⟩,wr _ J1 H1 e1 (m9 (.inl h1) h2)⟩⟩
 ·obtain ⟨J2,e2,s2,rd⟩:=freeze e1 r1 rfl;cases rd with
  | lst h1 h2=>exact ⟨_,rfl,.inl ⟨⟨_,e2.sub.seq h1⟩,wr _ J2 H1 e2 (m9 (.inl h1) h2)⟩⟩
 ·obtain ⟨a,vs,rfl,h1,h2⟩:=r1;exact ⟨_,rfl,.inl ⟨⟨_,(sr.hp.ext e1).ent.seq h1⟩,wr _ J1 H1 e1 (m9 (.inr h1) h2)⟩⟩
 ·exact wr.elim⟩
theorem dY (h:QD X c e g) (hK:autoParam (X.K=c.K) zA._auto_1):zE X c tg e (ic g):=have h:=h.h;⟨p6 (AV h) λσ H Q ⟨J,env,sr,w⟩=>by
 refine ⟨J,env,sr,aC (aL w) λr wr v J1 H1 e1 r1=>?_⟩;rw [hK];have lst:∀{xs:List D},jw r=.ok xs->(∀It J1' H1',Ext J H J1' H1'->Walk c It xs J1' (λJ' H'=>aG J1' J'/\aG H1' H')->Q It H1')->∃a,v=.ref a/\(((∃xs,bN c.K H1 a xs)/\Q (C_ c.K a) H1)\/((∃xs,bT c.K H1 a xs)/\Q (Dd c.K a) H1)):=fun {xs} q wr=>by obtain ⟨a,vs,rfl,h1,h2⟩:=RR.list (sr.hp.ext e1) r1 q;refine ⟨a,rfl,.inl ⟨⟨_,h1⟩,wr _ J1 H1 e1 λi J' H' hp u=>?_⟩⟩;have h':=u.2.seq h1;refine ⟨λhl=>⟨vs,h',by rw [<-h2.length];exact hl⟩,λd hd=>?_⟩;obtain ⟨v,k1,k2⟩:=h2.get hd;refine ⟨⟨vs,v,h',k1⟩,λx H2 ⟨e,hy⟩=>?_⟩;subst e;have:=hy vs h';rw [k1] at this;cases this;exact ⟨J',Ext.refl hp.sub,k2.mono u.1⟩
 cases r with
 | d y=>
  cases y with
  | tup xs=>
   cases r1 with
   | tup h1 h2=>exact ⟨_,rfl,.inr ⟨⟨_,dQ e1.sub h1⟩,wr _ J1 H1 e1 (sI (λJ H u=>u.1) h1 h2)⟩⟩
  | lst xs=>exact lst rfl wr
  | _=>exact wr.elim
 | l m xs=>exact lst rfl wr
 | mo _ _=>exact wr.elim
 | mb _ _=>exact wr.elim
 | mf _ _=>exact wr.elim
 | ln _=>exact wr.elim⟩
end
section
variable {X:Cx}{c:C}{st:RB}{g:G O}
theorem CB (i:Nat) (h:ju X c st g):ju X c st (qI i g):=have h:=h.h;⟨λMQ s σ H D I ⟨J,env,sr,w⟩=>by
 unfold qI at w;split at w
 ·rename_i xs hi;obtain ⟨v,h1,a,vs,rfl,h2,h3,h4,h5⟩:=sr.at_ i _ hi;obtain ⟨J',s1,sr'⟩:=sr.frz (x:=.inl xs) hi h1 h2 h3 h4 (.lst (.inl (.inl bz)) (h5.mono (bL h3 _)));exact h MQ s σ H D I ⟨J',_,sr',aC w λo q=>q.mono s1⟩
 ·rename_i ks vs hi;obtain ⟨v,h1,a,rfl,⟨us,ws,ep,h2,m1,m2,m3,m4⟩,h3,h4⟩:=sr.at_ i _ hi;obtain ⟨J',s1,sr'⟩:=sr.frz (x:=.inr (ks,vs)) hi h1 h2 h3 h4 (.dct bz (m1.mono (bL h3 _)) (m2.mono (bL h3 _)) m3 m4);exact h MQ s σ H D I ⟨J',_,sr',aC w λo q=>q.mono s1⟩
 ·exact h MQ s σ H D I ⟨J,env,sr,w⟩⟩
end
section
variable {X:Cx}{c:C}
theorem E_ {P:Nt}{w:NS}{K:M1}{mg:Str->Option M4}{base:OQ}{x MV:Str}{st:RB}{f:Nu}{fd:Oz}{N ps:List Str}{k:Nat}{Fm:List S->M R}(F:jS K x MV st f fd) (hm:mg x=some (.ref f)) (Sc:eZ N ps (aT st))
  (hbi:∀(kV doc pm:M4) (an:Option Nu) (cdv ct:M4) (us:List M4),us.length=ps.length->Wa (Pr x MV (eu st) (cC st) (aT st) .none kV doc pm an cdv ct) ⟨us,[]⟩=pure (ps.zip us)){gB:G O}
  (hb:∀(cdv:M4) (A:NK) (outer:List Env) (s:M5) (H:Hp) (E:XK) (J:Hp) (T:Exc->Prop),cZ k (A.deeper (S7 MV (aT st) s.heap.objs.size f cdv))->
   nG (w4 P w K mg base N MV (aT st) f cdv A outer s H E) ⟨K,H,J,T⟩ (cC st) gB)
  (hF:∀as r,as.length=ps.length->Fm as=.ok r->fin (gB (bA N as))=.ok r):cH P w K mg base (k + 1) ps.length x Fm:=
 F9 F hm Sc hbi (λcdv A outer s H E J T hr=>(hb cdv A outer s H E J T hr).h) hF
theorem Fb {P:Nt}{w:NS}{K:M1}{mg:Str->Option M4}{base:OQ}{x MV:Str}{st:RB}{f:Nu}{fd:Oz}{N ps:List Str}{k:Nat}{Fm:List S->M R}(F:jS K x MV st f fd) (Sc:eZ N ps (aT st)){gB:G O}
  (hb:∀(cdv:M4) (A:NK) (outer:List Env) (s:M5) (H:Hp) (E:XK) (J:Hp) (T:Exc->Prop),cZ k (A.deeper (S7 MV (aT st) s.heap.objs.size f cdv))->
   nG (w4 P w K mg base N MV (aT st) f cdv A outer s H E) ⟨K,H,J,T⟩ (cC st) gB)
  (hF:∀as r,as.length=ps.length->Fm as=.ok r->fin (gB (bA N as))=.ok r):gH P w K mg base jR (k + 1) f fd ps (lM K ps.length Fm):=
 Ag F Sc (λcdv A outer s H E J T hr=>(hb cdv A outer s H E J T hr).h) hF
end
end DL
namespace K01
open PySem DL
theorem gq (h:n<=1000):n<=sizeLine:=N8 h (by decide)
theorem wV (f:D->Bool):∀(ds:List D),kH (ds.map λd=>.bl (f d))=some (ds.map f)
 | []=>rfl
 | d::r=>by simp only [Nz,kH,wV f r];rfl
theorem all_map (f:D->Bool) (ds:List D):qF [.l .fresh (ds.map λd=>.bl (f d))]=.ok (.d (.bl (ds.all f))):=by unfold qF;simp only [jw,aS,wV];congr 3;simp [UB]
theorem iV {α:Type}{xs:List α}{k:Nat}{x:α}(h:xs[k]?=some x):L2.lD xs (k:Int)=some x:=by have hk:k < xs.length:=(Nr.mp h).1;unfold L2.lD L2.xu;rw [if_pos (by omega),if_pos (by omega)];simpa using h
theorem iY {xs:List D}{k:Nat}{x:D}(h:xs[k]?=some x):bg (.d (.tup xs)) (.d (.int k))=.ok (.d x):=by unfold bg;simp only [gW,aS,iV h]
theorem tH {m:Md}{xs:List D}{k:Nat}{x:D}(h:xs[k]?=some x):bg (.l m xs) (.d (.int k))=.ok (.d x):=by unfold bg;simp only [gW,aS,iV h]
theorem En {z:Str}{k:Nat}{c:Nat}(hz:z.length<=1000) (h:z.cps.toList[k]?=some c):bg (.d (.str z)) (.d (.int k))=.ok (.d (.str ⟨#[c]⟩)):=by unfold bg;simp only [gq hz,if_true,iV h]
theorem eq_int (neg:Bool) (i j:Int):cG neg (.d (.int i)) (.d (.int j))=.ok (.d (.bl (if neg then !(i == j) else i == j))):=rfl
theorem nT (a:D) (r:List D):bg (.d (.tup (a::r))) (.d (.int 0))=.ok (.d a):=iY (k:=0) rfl
theorem uT (a b:D) (r:List D):bg (.d (.tup (a::b::r))) (.d (.int 1))=.ok (.d b):=iY (k:=1) rfl
theorem KC (a b c:D) (r:List D):bg (.d (.tup (a::b::c::r))) (.d (.int 2))=.ok (.d c):=iY (k:=2) rfl
theorem JU (n:Nat) (h:n<=1000):below 4611686018427387904 (n:Int)=true:=dg.mpr ⟨by omega,by omega⟩
noncomputable def DP (j:Int):M (List D):=if below 4611686018427387904 j then .ok (dF 0 j.toNat) else .bad
theorem HE (j:Int) (h:below 4611686018427387904 j=true):DP j=.ok (dF 0 j.toNat):=by unfold DP;exact if_pos h
theorem HD {gs:G (List R)}(hg:gs env=.ok [.d (.int j)]):dO gs env=DP j:=by unfold dO DP;rw [hg];rfl
theorem mO {gs:G (List R)}{env:Ev}{n:Nat}(hg:gs env=.ok [.d (.int (n:Int))]) (h:n<=1000):dO gs env=.ok (dF 0 n):=by rw [HD hg,HE _ (JU n h)];exact congrArg (λk=>M.ok (dF 0 k)) (Pa n)
theorem Gp {g:G (List D)}{u:G O}(h:g env=.ok ds):fF g t u env=fR t u ds env:=by unfold fF;rw [h];rfl
theorem qp (i j:Int):c7 (.d (.int i)) (.d (.int j))=.ok (.d (.int (i + j))):=rfl
theorem yy {C:Int->Int->Bool}{f:Int->Int->D}(h:C i j=true):fI C f (.d (.int i)) (.d (.int j))=.ok (.d (f i j)):=by show (if C i j=true then M.ok (R.d (f i j)) else M.bad)=_;rw [if_pos h]
theorem Fz (i j:Int) (h1:-(2 ^ 64) < j) (h2:j < 2 ^ 64):fE (.d (.int i)) (.d (.int j))=.ok (.d (.int (i * j))):=yy (C:=uU) (f:=λi j=>.int (i * j)) (by unfold uU;rw [P0];exact S_ (dg.mpr ⟨h1,h2⟩))
theorem iw (i j:Int) (h1:0 < j) (h2:j < 1073741824):eO (.d (.int i)) (.d (.int j))=.ok (.d (.int (i / j))):=yy (by
 unfold yJ;rw [M8];exact ⟨decide_eq_true h1,dg.mpr ⟨by omega,h2⟩⟩)
theorem dz (i j:Int) (h1:0 < j):cM (.d (.int i)) (.d (.int j))=.ok (.d (.int (i % j))):=yy (decide_eq_true h1)
theorem DW (x y:Str) (h:x.length + y.length<=1000):c7 (.d (.str x)) (.d (.str y))=.ok (.d (.str (x++y))):=by show (if x.length + y.length<=sizeLine then M.ok (R.d (D.str (x++y))) else M.bad)=_;rw [if_pos (gq h)]
theorem DV (x:Str) (n:Int) (h0:0<=n) (h:n<=1000) (hx:x.length<=1000):fE (.d (.str x)) (.d (.int n))=.ok (.d (.str (gu x n.toNat))):=by show (if 0<=n/\n<=1000/\x.length<=1000 then M.ok (R.d (D.str (gu x n.toNat))) else M.bad)=_;rw [if_pos ⟨h0,h,hx⟩]
noncomputable def F3:Str:="abcdefghijklmnopqrstuvwxyz"
theorem F4:∀k:Fin 26,F3.cps.toList[k.val]?=some (97 + k.val):=by decide +kernel
theorem D4:F3.length<=1000:=by decide +kernel
theorem Aw (i:Int) (h0:0<=i) (h:i < 26):bg (.d (.str "abcdefghijklmnopqrstuvwxyz")) (.d (.int i))=.ok (.d (.str ⟨#[97 + i.toNat]⟩)):=by
 have e:i=((i.toNat:Nat):Int):=by omega
 have:=En (z:=F3) (k:=i.toNat) D4 (F4 ⟨i.toNat,by omega⟩);rw [e];exact this
theorem pL (c:Array Nat):∀(k:Nat) (acc:Array Nat),((Ot k c).foldl (·++·) acc).toList=acc.toList++(Ot k c.toList).flatten
 | 0,acc=>by simp
 | k + 1,acc=>by rw [QN,RL,pL c k];simp [QN]
theorem Ei (b n:Nat):(gu ⟨#[b]⟩ n).cps.toList=Ot n b:=by
 unfold gu;simp only;rw [pL]
 induction n with
 | zero=>rfl
 | succ n ih=>simpa [QN] using ih
theorem EG (x:Str):x.length=x.cps.toList.length:=by show x.cps.size=_;simp
theorem strs_map:∀(ss:List Str),strsOf (ss.map .str)=some ss
 | []=>rfl
 | s::r=>by simp only [Nz,strsOf,strs_map r];rfl
theorem sorted_strs (m:Md) (ss:List Str) (h:ss.length < 64):jY [.l m (ss.map .str)]=.ok (.l .fresh ((nA ss).map .str)):=by unfold jY;simp only [jw,aS,strs_map,h,if_true]
theorem Ar {b:G Bool}{t u:G O}(h:b env=.ok false):cD b t u env=u env:=by unfold cD;rw [h];rfl
theorem xq {b:G Bool}{t u:G O}(h:b env=.ok true):cD b t u env=t env:=by unfold cD;rw [h];rfl
theorem Io {g:G R}{f:List R->M R}(h:g env=.ok r) (hf:f [r]=.ok r'):gN f (ao g aF) env=.ok r':=by unfold gN ao;rw [h];exact hf
theorem HA {g:G R}(h:g env=.ok r) (h2:rF r=.ok r'):cg g env=.ok (.rt r'):=by unfold cg;rw [h,aS,h2];rfl
noncomputable abbrev dN (k:Nat):D:=.int k
noncomputable abbrev dP (p:Nat×Nat):D:=.tup [.int p.1,.int p.2]
noncomputable def pZ (p q:Nat×Nat):Prop:=p.1 < q.1\/(p.1=q.1/\p.2 < q.2)
noncomputable def tF (m:Nat) (xs:List Nat):Prop:=xs.length<=8/\xs.Pairwise (· < ·)/\∀x∈xs,x < m
noncomputable def tE (m:Nat) (ps:List (Nat×Nat)):Prop:=ps.length<=64/\ps.Pairwise pZ/\∀p∈ps,p.1 < m/\p.2 < m
structure Wd where
 m:Nat
 ms:List (Str×List Nat)
 ar:List (Str×List (Nat×Nat))
noncomputable abbrev fM (r:Str×List Nat):D:=.tup [.str r.1,.tup (r.2.map dN)]
noncomputable abbrev gT (r:Str×List (Nat×Nat)):D:=.tup [.str r.1,.tup (r.2.map dP)]
noncomputable def Wd.d (w:Wd):D:=.tup [.int w.m,.tup (w.ms.map fM),.tup (w.ar.map gT)]
theorem sd {K:M1}{J:L2.Hp}:∀(ns:List Int),az K J (ns.map D.int) (ns.map L2.V.int)
 | []=>.nil
 | n::r=>.cons (.int n) (sd r)
end K01
namespace DX
open PySem PySem.Spec
open Builtin Builtin.ObjectAttr
end DX
namespace DX
open PySem PySem.Spec
end DX
namespace DX
open PySem PySem.Spec PyProof.Rows L2
end DX
namespace DL
open PySem PySem.Spec PyProof.Rows L2 DX
end DL
namespace DX
open PySem PySem.Spec PyProof.Rows L2
end DX
namespace DL
open PySem PySem.Spec PyProof.Rows L2 DX
end DL
namespace DX
open PySem PySem.Spec PyProof.Rows L2
end DX
namespace DL
open PySem PySem.Spec PyProof.Rows L2 DX
end DL
namespace DX
open PySem PySem.Spec PyProof.Rows L2
open Sem (wp)
end DX
namespace DL
open PySem PySem.Spec PyProof.Rows L2 DX
end DL
namespace DL
open PySem PySem.Spec PyProof.Rows L2
noncomputable def qy (A:NK) (s:M5) (y x:M4) (b:Bool):Prop:=
 ∀(prog:Nt) (w:NS) (E:M4->M5->Prop) (Q:M4->M5->Prop),Q (.bool b) s->Nm (Nq prog w) A (richCompare .Lt y x) Q E s
inductive e_ (A:NK) (s:M5) (fin:Bool):List (M4×M4)->Bool->Prop
 | nil:e_ A s fin [] fin
 | yes {x y:M4}{r:List (M4×M4)}{b:Bool}:Qg A s x y true->e_ A s fin r b->e_ A s fin ((x,y)::r) b
 | no {x y:M4}{r:List (M4×M4)}{b:Bool}:Qg A s x y false->qy A s x y b->e_ A s fin ((x,y)::r) b
section
open PySem.SeqAt
open PySem.AutoSeq1 (wpAny_loadPart')
open PySem.MeetsSeq PySem.MeetsSeq2 PySem.MeetsSeq3
theorem Bl (l b:Nu) (MR MW:Array M4) (n n2:Nat) (dd dd2:Option Nu) (sl sl2:Array (Option M4)) (ans:Bool):
  Meets (RI.«tuple.__lt__» ⟨[.ref l,.ref b],[]⟩)
   (λA R s=>s.heap.get? l=some {cls:=.type "tuple",dict:=dd,data:=.seq MR n,slots:=sl}/\s.heap.get? b=some {cls:=.type "tuple",dict:=dd2,data:=.seq MW n2,slots:=sl2}/\
    e_ A.in1 s (decide (MR.size < MW.size)) (MR.toList.zip MW.toList) ans/\R (.ok (.ret (.bool ans))) s):=
 .of_wp λprog w A R s h=>by
  obtain ⟨hp,g,d,tk,os⟩:=s;obtain ⟨hl,hb,hP,h⟩:=h;have f2:=AutoSeq1.sub_tuple_tuple
  wp_walk using Wq hl,Wq hb,QS _ (λMT b s'=>b.1=none/\s'=⟨hp,g,d,tk,os⟩/\e_ A.in1 ⟨hp,g,d,tk,os⟩ (decide (MR.size < MW.size)) MT ans) _
  case turn=>
   rintro ⟨y,x⟩ MT b s' ⟨hb',rfl,hq⟩;cases hq with
   | yes he hr=>
    refine M0 (he prog w _ _ ?_)
    wp_walk
    exact ⟨rfl,rfl,hr⟩
   | no he hlt=>
    refine M0 (he prog w _ _ ?_);have MC:=hlt prog w
    wp_walk using MC
    exact ⟨_,rfl,by simpa using h⟩
  case fin=>
   rintro ⟨b1,b2⟩ s' ⟨hb',rfl,hq⟩;simp only at hb';subst hb';cases hq
   wp_walk
   exact ⟨_,rfl,by simpa [VN] using h⟩
  case h=>
   exact ⟨rfl,rfl,hP⟩
end
section
variable {K:M1}{J:Hp}{s:M5}
theorem EJ {A:NK}{MR MW:Array M4}(hl:s.heap.IsTuple l MR) (hb:s.heap.IsTuple b MW) (hP:e_ A.in1 s (decide (MR.size < MW.size)) (MR.toList.zip MW.toList) ans)
 (hu:A.units < PN):qy A s (.ref l) (.ref b) ans:=λprog w E Q h=>by
 obtain ⟨⟨cls,dd,data,sl⟩,ho,hc,n,hd⟩:=id hl;obtain ⟨⟨cls2,dd2,data2,sl2⟩,ho2,hc2,n2,hd2⟩:=id hb;simp only at hc hd hc2 hd2;subst hc hd hc2 hd2;exact richCompare_meets_room (op:=.Lt) ⟨_,ho,rfl⟩ ⟨_,ho2,rfl⟩ PySem.F.slot_tuple_lt PySem.F.entry_tuple_lt (PySem.F.args_tuple_lt_2 _ _) (Bl l b MR MW n n2 dd dd2 sl sl2 ans)
  ⟨ho,ho2,hP,show R4 ans≠Value.notImplemented/\Q (.bool ans) s from ⟨(λx=>nomatch x),h⟩⟩ hu
mutual
noncomputable def dh:D->D->Option Bool
 | .bl p,y=>match y with
  | .bl q=>some (!p && q)
  | _=>none
 | .int i,y=>match y with
  | .int j=>some (decide (i < j))
  | _=>none
 | .str x,y=>match y with
  | .str z=>some (decide (x.cps.toList < z.cps.toList))
  | _=>none
 | .tup xs,y=>match y with
  | .tup ys=>iH xs ys
  | _=>none
 | _,_=>none
noncomputable def iH:List D->List D->Option Bool
 | [],ys=>some (!ys.isEmpty)
 | x::xs,ys=>match ys with
  | []=>some false
  | y::ys=>if aV x y=true then iH xs ys else dh x y
end
theorem EI (A:NK) (h:dh (.bl p) e=some b) (re:Rep K J e w) (rw':RelV w u'):qy A s (.bool p) u' b:=by
 unfold dh at h;cases e with
 | bl q=>
  cases re;cases rw';simp only [Pz] at h;subst h;intro prog w E Q hq;refine (lt_bool (p:=p) (q:=q) ?_:Nm (Nq prog w) A (Qj .Lt (.bool p) (.bool q)) Q E s);cases p <;> cases q <;> exact hq
 | _=>cases h
theorem Cc (A:NK) (h:dh (.int p) e=some b) (re:Rep K J e w) (rw':RelV w u'):qy A s (.int p t) u' b:=by
 unfold dh at h;cases e with
 | int q=>
  cases re;obtain ⟨t',rfl⟩:=rw';simp only [Pz] at h;subst h;intro prog w E Q hq;exact (Ym hq:Nm (Nq prog w) A (Qj .Lt (.int p t) (.int q t')) Q E s)
 | _=>cases h
theorem Cd (A:NK) (h:dh (.str p) e=some b) (re:Rep K J e w) (rw':RelV w u'):qy A s (.str p t) u' b:=by
 unfold dh at h;cases e with
 | str q=>
  cases re;obtain ⟨t',rfl⟩:=rw';simp only [Pz] at h;subst h;intro prog w E Q hq;exact (Yn hq:Nm (Nq prog w) A (Qj .Lt (.str p t) (.str q t')) Q E s)
 | _=>cases h
noncomputable def BC (K:M1) (J:Hp) (s:M5) (d:D):Prop:=∀{e:D}{v w:V}{u u':M4}{b:Bool}(A:NK),dh d e=some b->Rep K J d v->Rep K J e w->RelV v u->RelV w u'->A.units + dep d < PN->dep d<=1000->dep e<=1000->qy A s u u' b
noncomputable def oZ (K:M1) (J:Hp) (s:M5) (ds:List D):Prop:=∀{es:List D}{vs ws:List V}{us us':List M4}{b:Bool}{n1 n2:Nat}(A:NK),iH ds es=some b->az K J ds vs->az K J es ws->Vals vs us->Vals ws us'->A.units + deps ds < PN->deps ds<=1000->deps es<=1000->
  us.length + n2=us'.length + n1->e_ A s (decide (n1 < n2)) (us.zip us') b
theorem Ce (F:HF K J s) (ih:oZ K J s ds):BC K J s (.tup ds):=by
 intro e v w u u' b A h rd re rv rw' hu k1 k2;unfold dh at h;cases e with
 | tup es=>
  simp only at h;cases rd with
  | tup h1 hs=>
   cases re with
   | tup h2 hs'=>
    cases rv;cases rw';obtain ⟨its,r,p⟩:=F.t _ _ h1;obtain ⟨its',r',p'⟩:=F.t _ _ h2;refine EJ p p' ?_ (by unfold dep at hu;omega);have:=ih A.in1 (n1:=its.length) (n2:=its'.length) h hs hs' r r' (by rw [in1_units];unfold dep at hu;omega) (by unfold dep at k1;omega) (by unfold dep at k2;omega) (by omega);simpa using this
 | _=>cases h
theorem AF:oZ K J s []:=by
 intro es vs ws us us' b n1 n2 A h rd re rv rw' hu k1 k2 hl;cases rd;cases rv;cases re with
 | nil=>
  cases rw';simp only [iH,List.isEmpty_nil,Qd,Pz] at h;subst h;have:decide (n1 < n2)=false:=decide_eq_false (by simp at hl;omega);rw [this];exact .nil
 | cons _ _=>
  cases rw';simp only [iH,List.isEmpty_cons,Si,Pz] at h;subst h;have:decide (n1 < n2)=true:=decide_eq_true (by simp at hl;omega);rw [this];exact .nil
theorem yN (F:HF K J s) (ix:BC K J s x) (ih:oZ K J s xs):oZ K J s (x::xs):=by
 intro es vs ws us us' b n1 n2 A h rd re rv rw' hu k1 k2 hl;cases rd with
 | cons q1 r1=>
  cases rv with
  | cons t1 u1=>
   cases re with
   | nil=>
    cases rw';simp only [iH,Pz] at h;subst h;have:decide (n1 < n2)=false:=decide_eq_false (by simp at hl;omega);rw [this];exact .nil
   | cons q2 r2=>
    cases rw' with
    | cons t2 u2=>
     unfold deps at hu k1 k2;rename_i y v' ys ws' u0 us0;have he:=jV F A q1 q2 t1 t2 (by omega) (by omega) (by omega);simp only [iH] at h;cases z:aV x y with
     | true=>
      rw [z,if_pos rfl] at h;rw [z] at he;exact .yes he (ih A h r1 r2 u1 u2 (by omega) (by omega) (by omega) (by simp at hl;omega))
     | false=>
      rw [z,if_neg N6] at h;rw [z] at he;exact .no he (ix A h q1 q2 t1 t2 (by omega) (by omega) (by omega))
mutual
theorem JO (F:HF K J s):∀d:D,BC K J s d
 | .bl p=>λA h rd re rv rw' _ _ _=>by cases rd;cases rv;exact EI A h re rw'
 | .int p=>λA h rd re rv rw' _ _ _=>by cases rd;obtain ⟨t,rfl⟩:=rv;exact Cc A h re rw'
 | .str p=>λA h rd re rv rw' _ _ _=>by cases rd;obtain ⟨t,rfl⟩:=rv;exact Cd A h re rw'
 | .tup ds=>Ce F (tK F ds)
 | .non=>λA h _ _ _ _ _ _ _=>by unfold dh at h;cases h
 | .lst _=>λA h _ _ _ _ _ _ _=>by unfold dh at h;cases h
 | .emp=>λA h _ _ _ _ _ _ _=>by unfold dh at h;cases h
 | .exn _ _ _=>λA h _ _ _ _ _ _ _=>by unfold dh at h;cases h
 | .dct _ _=>λA h _ _ _ _ _ _ _=>by unfold dh at h;cases h
theorem tK (F:HF K J s):∀ds:List D,oZ K J s ds
 | []=>AF
 | x::xs=>yN F (JO F x) (tK F xs)
end
end
end DL
namespace DL
open PySem PySem.Spec PyProof.Rows L2
open PySem.W (KasT kas_sort kas_asc kas_desc kas_rev kas_tail3 kas_descPart kas_count kas_place kas_bin)
noncomputable def aO {α:Type}(q:Nat->Nat->Bool):KasT α->α
 | .ret a=>a
 | .ask i j k=>aO q (k (q i j))
inductive d_ (n:Nat){α:Type}(P:α->Prop):KasT α->Prop
 | ret {a:α}:P a->d_ n P (.ret a)
 | ask {i j:Nat}{k:Bool->KasT α}:i < n->j < n->(∀b,d_ n P (k b))->d_ n P (.ask i j k)
theorem d_.bind {α β:Type}{P:α->Prop}{R:β->Prop}{f:α->KasT β}{t:KasT α}(h:d_ n P t) (hf:∀a,P a->d_ n R (f a)):d_ n R (t.bind f):=by
 induction h with
 | ret p=>exact hf _ p
 | ask h1 h2 _ ih=>exact .ask h1 h2 ih
theorem d_.run {n:Nat}{α:Type}{P:α->Prop}{t:KasT α}(q:Nat->Nat->Bool) (h:d_ n P t):P (aO q t):=by
 induction h with
 | ret p=>exact p
 | ask _ _ _ ih=>exact ih _
theorem d_.wp {α:Type}{P:α->Prop}{t:KasT α}{q:Nat->Nat->Bool}{cmp:Nat->Nat->(Bool->M5->Prop)->M5->Prop}{G:α->M5->Prop}(h:d_ n P t)
 (hc:∀i j C,i < n->j < n->C (q i j) s->cmp i j C s) (hG:G (aO q t) s):t.kasWp cmp G s:=by
 induction h with
 | ret p=>exact hG
 | ask h1 h2 _ ih=>exact hc _ _ _ h1 h2 (ih _ hG)
noncomputable def eV (n:Nat) (p:Array Nat):Prop:=p.Perm (Ng n).toArray
theorem eV.lt {p:Array Nat}(h:eV n p) (hn:0 < n) (k:Nat):p.getD k 0 < n:=by
 by_cases hk:k < p.size
 ·have e:p.getD k 0=p[k]:=by simp [PF,hk]
  rw [e];have hm:p[k]∈p:=Array.getElem_mem hk;have:=(Tc h).mp hm;simpa using this
 ·have e:p.getD k 0=0:=by simp [PF,hk]
  rw [e];exact hn
theorem eV.rev (h:eV n p) (i j:Nat):eV n (Sv p i j):=(mirror_perm _ _ _ _).trans h
theorem eV.bub (h:eV n p) (i j:Nat):eV n (bubble p i j):=(bubble_perm _ _ _).trans h
variable {n:Nat}
theorem yi {p:Array Nat}(hn:0 < n) (h:eV n p):∀f m,d_ n (λ_:Nat=>True) (Sw p f m)
 | 0,m=>.ret trivial
 | f + 1,m=>.ask (h.lt hn _) (h.lt hn _) λb=>by cases b with
  | true=>exact .ret trivial
  | false=>exact yi hn h f (m + 1)
theorem o_ (hn:0 < n):∀f {p:Array Nat} m q,eV n p->d_ n (λr:Array Nat×Nat×Nat=>eV n r.1) (Qe f p m q)
 | 0,p,m,q,h=>.ret h
 | f + 1,p,m,q,h=>.ask (h.lt hn _) (h.lt hn _) λb=>by
  cases b with
  | true=>
   simp only [if_true];by_cases hq:q > 0
   ·rw [if_pos hq];exact o_ hn f _ _ (h.rev _ _)
   ·rw [if_neg hq];exact o_ hn f _ _ h
  | false=>
   simp only [Nn,if_false];refine .ask (h.lt hn _) (h.lt hn _) λb=>?_;cases b with
   | true=>exact .ret h
   | false=>exact o_ hn f _ _ h
theorem zJ (hn:0 < n) (h:eV n p) (m k:Nat):d_ n (λr:Nat×Array Nat=>eV n r.2) (XN m k p):=(yi hn (h.rev 0 m) _ _).bind λa _=>.ret (h.rev _ _)
theorem wR (hn:0 < n) (h:eV n p) (m k:Nat):d_ n (λr:Nat×Array Nat=>eV n r.2) (VX m k p):=(o_ hn _ _ _ h).bind λr hr=>by
 split
 ·exact zJ hn (hr.rev _ _) _ _
 ·exact zJ hn hr _ _
theorem Ea (hn:0 < n) (h:eV n p) (k:Nat):d_ n (λr:Nat×Array Nat=>eV n r.2) (Wr k p):=(yi hn h _ _).bind λm _=>by
 split
 ·exact .ret h
 ·split
  ·refine .ask (h.lt hn _) (h.lt hn _) λb=>?_;cases b with
   | true=>exact .ret h
   | false=>exact wR hn (h.rev _ _) _ _
  ·exact wR hn h _ _
theorem qB (hn:0 < n){p:Array Nat}(h:eV n p) (k:Nat):∀f l r,d_ n (λ_:Nat=>True) (Qy p k f l r)
 | 0,l,r=>.ret trivial
 | f + 1,l,r=>by
  unfold Qy;split
  ·exact .ret trivial
  ·refine .ask (h.lt hn _) (h.lt hn _) λb=>?_;cases b with
   | true=>exact qB hn h k f _ _
   | false=>exact qB hn h k f _ _
theorem Dk (hn:0 < n):∀f {p:Array Nat} k,eV n p->d_ n (eV n) (Xu f p k)
 | 0,p,k,h=>.ret h
 | f + 1,p,k,h=>(qB hn h k _ _ _).bind λl _=>Dk hn f _ (h.bub _ _)
theorem gP (hn:0 < n):d_ n (eV n) (Rc n):=(Ea hn (show eV n _ from Ws _) n).bind λr hr=>by
 split
 ·exact Dk hn _ _ hr
 ·exact .ret hr
end DL
namespace DL
open PySem PySem.Spec PyProof.Rows L2
open PySem.W (KasT kas_sort kas_ask kas_item kat_run kat_snds KatLex kat_cons kat_yes kat_no kat_lt kat_one KatTups kat_kind Looks)
section
variable {prog:Nt}{w:NS}{A:NK}{E:M4->M5->Prop}{s:M5}
noncomputable def mG (q:Nat->Nat->Bool) (vs:List M4):List M4:=(aO q (Rc vs.length)).toList.map λi=>vs.getD i Oc
theorem Cr (q:Nat->Nat->Bool){vs:List M4}(h:0 < vs.length):(mG q vs).length=vs.length:=by unfold mG;rw [M7,M_];have:=((gP h).run q:eV _ _).size_eq;simpa using this
theorem yL {vs:List M4}{q:Nat->Nat->Bool}{P:XQ->M5->Prop}(ho:s.heap.get? a=some (P1 "list" vs.toArray n)) (h2:2<=vs.length) (h64:vs.length < 64)
 (hk:∀h' C,(∀b o,b≠a->s.heap.get? b=some o->h'.get? b=some o)->C κ {s with heap:=h'}->Nm (Nq prog w) A (Xv vs.toArray) C (λ_ _=>False) {s with heap:=h'})
 (hc:∀h',(∀b o,b≠a->s.heap.get? b=some o->h'.get? b=some o)->∀i j C,i < vs.length->j < vs.length->C (q i j) {s with heap:=h'}->kas_ask prog w A κ vs i j C {s with heap:=h'})
 (h:P (.done (.ret .none)) {s with heap:=VO s.heap a vs (mG q vs).toArray}):Nm (Nq prog w) A (RI.«list.sort» ⟨[.ref a],[]⟩) P E s:=by
 have la:a < s.heap.objs.size:=Nk ho;have sl:vs.length<=sizeLine:=by rw [OG];omega
 obtain ⟨e1,g1⟩:∃e1,(s.heap.update a (Po λ_=>(#[]:Array M4))).get? a=some (P1 "list" #[] e1):=⟨_,(UC ho λ_=>#[])⟩;have z1:(s.heap.update a (Po λ_=>(#[]:Array M4))).objs.size=s.heap.objs.size:=(V7 _ _ _);have g3:(((s.heap.update a (Po λ_=>(#[]:Array M4))).push (P1 "tuple" vs.toArray 0)).push (P1 "list" #[] 0)).get? a=some (P1 "list" #[] e1):=(M6 _ ((M6 _ g1)));have kp:∀b o,b≠a->s.heap.get? b=some o->(((s.heap.update a (Po λ_=>(#[]:Array M4))).push (P1 "tuple" vs.toArray 0)).push (P1 "list" #[] 0)).get? b=some o:=λb o nb q=>
  M6 _ (M6 _ (by rw [SS _ _ _ _ nb];exact q))
 rw [UD];refine M0 ((VY ho rfl ?_));refine M0 (RO ho rfl ?_ (by rw [Ni];exact sl) (Ny _));refine M0 ((SV g1 rfl ?_));refine M0 (Tg ?_ (show vs.length<=_ from sl));refine M0 ((SE ?_ (Ny _)));refine (NU ?_);dsimp only;have n2:¬vs.toArray.size < 2:=by (rw [Ni]);omega
 rw [if_neg n2,if_neg n2];refine M0 (Od (hk _ (λk s'=>k=κ/\s'=_) kp ⟨rfl,rfl⟩) ?_ λ_ _ x=>x.elim);rintro _ _ ⟨rfl,rfl⟩;refine M0 (Od (kat_run (E:=E) (Q:=λst' s'=>∃p:Array Nat,p.size=vs.length/\Pq st'=p.map (kas_item (vs.toArray.zip vs.toArray))/\Sj st'=none/\p=aO q (Rc vs.length)/\s'=_)
  rfl h2 h64 (λp' st' s' a1 a2 a3 a4=>⟨p',a1,a2,a3,a4⟩) ((gP (by omega)).wp (q:=q) (hc _ kp) ⟨rfl,rfl⟩)) ?_ λ_ _ e=>e)
 rintro ⟨⟨⟩,st'⟩ s' ⟨p,hp,har,hf,rfl,rfl⟩;dsimp only;have ou:(Pq st').map (·.2)=(mG q vs).toArray:=kat_snds rfl har;rw [ou];refine M0 ((SV g3 rfl ?_));refine M0 (RO g3 rfl ?_ (Ny _) (N8 (XH (Ni.trans (Cr q (Nv Nat.zero_lt_two h2)))) (Nat.le_succ_of_le sl)));rw [hf];simp only [bne_self_eq_false,Nn,if_false];exact M3 h
end
end DL
namespace DL
open PySem PySem.Spec PyProof.Rows L2
open PySem.W (KasT kas_sort kas_ask KatLex kat_nil kat_cons kat_yes kat_no kat_lt kat_one KatTups kat_kind Looks)
section
variable {prog:Nt}{w:NS}{A:NK}{E:M4->M5->Prop}{s:M5}{K:M1}{J:Hp}
theorem rP {fin ans:Bool}{Q:Bool->M5->Prop}(h:e_ A s fin zs ans) (hq:Q ans s):∀{i:Nat},(b && i == 0)=false->KatLex prog w A b fin Q zs i s:=by
 induction h with
 | nil=>intro i _;exact kat_nil hq
 | yes he _ ih=>intro i _;exact Xw (he prog w _ _ (kat_yes (ih hq (by cases b <;> rfl))))
 | no he hl=>
  intro i hb;refine Xw (he prog w _ _ (kat_no ?_));rw [hb];exact kat_one _ _ (hl prog w _ _ hq)
theorem EB {fin ans e:Bool}{Q:Bool->M5->Prop}(he:Qg A s u u' e) (h1:e=true->e_ A s fin zs ans)
 (h2:e=false->Nm (Nq prog w) A (oneLt' true u u') Q (λ_ _=>False) s) (hq:Q ans s):KatLex prog w A true fin Q ((u,u')::zs) 0 s:=by
 cases e with
 | true=>exact Xw (he prog w _ _ (kat_yes (rP (h1 rfl) hq rfl)))
 | false=>exact Xw (he prog w _ _ (kat_no (h2 rfl)))
inductive Hd where
 | t | i | x
noncomputable def fJ:D->Option Hd
 | .tup (.tup _::_)=>some .t
 | .tup (.int _::_)=>some .i
 | .tup (.str _::_)=>some .x
 | _=>none
noncomputable def Hd.flag:Hd->Bool
 | .t=>false
 | _=>true
noncomputable def Hd.ty:Hd->M4
 | .t=>.type "tuple"
 | .i=>.type "int"
 | .x=>.type "str"
theorem Cp {k:Hd}{C:Bool->M5->Prop}(hd:fJ (.tup (x::xs))=some k) (he:fJ (.tup (y::ys))=some k) (hf:k.flag=true) (h:dh x y=some b) (rd:Rep K J x v) (re:Rep K J y v') (rv:RelV v u) (rv':RelV v' u') (c:C b s):
  Nm (Nq prog w) A (oneLt' true u u') C E s:=by
 cases x with
 | int x=>
  cases hd;cases y with
  | int y=>
   cases rd;cases re;obtain ⟨tk,rfl⟩:=rv;obtain ⟨tk',rfl⟩:=rv';unfold dh at h;simp only [Pz] at h;refine oneLt_int ?_;rw [h];exact c
  | _=>cases he
 | str x=>
  cases hd;cases y with
  | str y=>
   cases rd;cases re;obtain ⟨tk,rfl⟩:=rv;obtain ⟨tk',rfl⟩:=rv';unfold dh at h;simp only [Pz] at h;refine oneLt_str ?_;rw [h];exact c
  | _=>cases he
 | tup _=>cases hd;cases hf
 | _=>cases hd
theorem EC (F:HF K J s){k:Hd}{C:Bool->M5->Prop}(hd:fJ d=some k) (he:fJ e=some k) (h:dh d e=some b) (rd:Rep K J d v) (re:Rep K J e v') (rv:RelV v u) (rv':RelV v' u')
 (hu:A.units + dep d < PN) (k1:dep d<=1000) (k2:dep e<=1000) (c:C b s):Nm (Nq prog w) A (keyLt' (tuples' k.flag) u u') C E s:=by
 cases d with
 | tup ds=>
  cases e with
  | tup es=>
   unfold dh at h;simp only at h;cases rd with
   | tup h1 hs=>
    cases re with
    | tup h2 hs'=>
     cases rv;cases rv';obtain ⟨its,r,p⟩:=F.t _ _ h1;obtain ⟨its',r',p'⟩:=F.t _ _ h2;obtain ⟨o,ho,hc,m,dm⟩:=id p;obtain ⟨o',ho',hc',m',dm'⟩:=id p';refine kat_lt ho dm ho' dm' ?_;simp only [Ni];cases hf:k.flag with
     | false=>
      exact rP (tK F ds A (n1:=its.length) (n2:=its'.length) h hs hs' r r' (by unfold dep at hu;omega) (by unfold dep at k1;omega) (by unfold dep at k2;omega) (by omega)) c rfl
     | true=>
      cases hs with
      | nil=>cases hd
      | cons q1 t1=>
       cases hs' with
       | nil=>cases he
       | cons q2 t2=>
        cases r with
        | cons a1 b1=>
         cases r' with
         | cons a2 b2=>
          unfold dep deps at hu k1 k2;rw [Vt];unfold iH at h;simp only at h;refine EB (ans:=b) (jV F A q1 q2 a1 a2 (by omega) (by omega) (by omega)) (λz=>?_) (λz=>?_) c
          ·rw [z,if_pos rfl] at h;exact tK F _ A h t1 t2 b1 b2 (by omega) (by omega) (by omega) (by simp;omega)
          ·rw [z,if_neg N6] at h;exact Cp hd he hf h q1 q2 a1 a2 c
  | _=>cases he
 | _=>cases hd
noncomputable def dZ (k:Hd):List D->Bool
 | []=>true
 | d::r=>(match fJ d,k with
  | some .t,.t=>true
  | some .i,.i=>true
  | some .x,.x=>true
  | _,_=>false) && dZ k r
theorem jv {k:Hd}:∀{ds:List D},dZ k ds=true->∀d∈ds,fJ d=some k
 | [],_,_,hm=>nomatch hm
 | x::r,h,d,hm=>by
  unfold dZ at h;rw [M8] at h;rcases Nj.mp hm with rfl | hm
  ·cases q:fJ d with
   | none=>rw [q] at h;cases h.1
   | some k'=>rw [q] at h;cases k' <;> cases k <;> first | rfl | cases h.1
  ·exact jv h.2 d hm
theorem Ao (F:HF K J s){k:Hd}(hd:fJ d=some k) (rd:Rep K J d v) (rv:RelV v u):∃a o xs n f,u=.ref a/\s.heap.get? a=some o/\o.cls=.type "tuple"/\o.data=.seq xs n/\xs[0]?=some f/\Looks (Nq prog w) s.heap (typeOf f) k.ty:=by
 cases d with
 | tup ds=>
  cases rd with
  | tup h1 hs=>
   cases rv;obtain ⟨its,r,p⟩:=F.t _ _ h1;obtain ⟨o,ho,hc,m,dm⟩:=id p;cases hs with
   | nil=>cases hd
   | cons q1 t1=>
    cases r with
    | cons a1 b1=>
     refine ⟨_,o,_,m,_,rfl,ho,hc,dm,rfl,?_⟩;rename_i x v' ds' vs' u us;cases x with
     | tup _=>
      cases hd;cases q1 with
      | tup h2 _=>
       cases a1;obtain ⟨its2,_,p2⟩:=F.t _ _ h2;obtain ⟨o2,ho2,hc2,_,_⟩:=id p2;have:=(Looks.ld (M:=Nq prog w) (part:=none) ho2).andThen (f:=λo=>pure o.cls) (b:=o2.cls) .now;rw [hc2] at this;exact this
     | int _=>
      cases hd;cases q1;obtain ⟨tk,rfl⟩:=a1;exact .now
     | str _=>
      cases hd;cases q1;obtain ⟨tk,rfl⟩:=a1;exact .now
     | _=>cases hd
 | _=>cases hd
theorem pS (F:HF K J s){k:Hd}:∀{ds:List D}{vs:List V}{us:List M4},dZ k ds=true->az K J ds vs->Vals vs us->∃fs,KatTups s.heap us fs/\fs.length=us.length/\∀v∈fs,Looks (Nq prog w) s.heap (typeOf v) k.ty
 | _,_,_,_,.nil,.nil=>⟨[],trivial,rfl,λ_ h=>nomatch h⟩
 | d::ds,_,_,h,.cons q rs,.cons a b=>by
  have hd:=jv h d (Nd ..);unfold dZ at h;rw [M8] at h;obtain ⟨fs,h1,h2,h3⟩:=pS F h.2 rs b;obtain ⟨p,o,xs,n,f,rfl,e1,e2,e3,e4,e5⟩:=Ao (prog:=prog) (w:=w) F hd q a;refine ⟨f::fs,⟨⟨p,o,xs,n,rfl,e1,e2,e3,e4⟩,h1⟩,by simp [h2],λv hv=>?_⟩;rcases Nj.mp hv with rfl | hv
  ·exact e5
  ·exact h3 v hv
theorem Ep (k:Hd):(k.ty != R5 "tuple")=k.flag:=by cases k <;> decide
theorem Ax (F:HF K J s){k:Hd}{us:List M4}(h:dZ k ds=true) (rs:az K J ds vs) (rv:Vals vs us) (hl:0 < us.length){C:PX->M5->Prop}(c:C (tuples' k.flag) s):Nm (Nq prog w) A (Xv us.toArray) C E s:=by obtain ⟨fs,h1,h2,h3⟩:=pS (prog:=prog) (w:=w) F h rs rv;refine kat_kind h1 (by omega) h3 (by cases k <;> decide) ?_;rw [Ep];exact c
end
end DL
namespace DL
open PySem PySem.Spec PyProof.Rows L2
open PySem.W (KasT kas_sort kas_ask)
section
variable {prog:Nt}{w:NS}{A:NK}{E:M4->M5->Prop}{s:M5}
theorem yK {vs:List M4}{P:XQ->M5->Prop}(ho:s.heap.get? a=some (P1 "list" vs.toArray n)) (h2:vs.length < 2)
 (h:P (.done (.ret .none)) {s with heap:=VO s.heap a vs vs.toArray}):Nm (Nq prog w) A (RI.«list.sort» ⟨[.ref a],[]⟩) P E s:=by
 have sl:vs.length<=sizeLine:=by rw [OG];omega
 obtain ⟨e1,g1⟩:∃e1,(s.heap.update a (Po λ_=>(#[]:Array M4))).get? a=some (P1 "list" #[] e1):=⟨_,(UC ho λ_=>#[])⟩;have g3:(((s.heap.update a (Po λ_=>(#[]:Array M4))).push (P1 "tuple" vs.toArray 0)).push (P1 "list" #[] 0)).get? a=some (P1 "list" #[] e1):=(M6 _ ((M6 _ g1)));rw [UD];refine M0 ((VY ho rfl ?_));refine M0 (RO ho rfl ?_ (by rw [Ni];exact sl) (Ny _));refine M0 ((SV g1 rfl ?_));refine M0 (Tg ?_ (show vs.length<=_ from sl));refine M0 ((SE ?_ (Ny _)));refine (NU ?_);dsimp only;have n2:vs.toArray.size < 2:=by (rw [Ni]);omega
 rw [if_pos n2,if_pos n2];refine (M0 (M3 ?_));rw [StateT.run_pure];refine (M0 (M3 ?_));dsimp only;have ou:(Pq (OZ general' (vs.toArray.zip vs.toArray) #[] 7 none)).map (·.2)=vs.toArray:=by
  show (vs.toArray.zip vs.toArray).map (·.2)=vs.toArray
  match vs,h2 with
  | [],_=>simp
  | [_],_=>simp
 rw [ou];refine M0 ((SV g3 rfl ?_));refine M0 (RO g3 rfl ?_ (Ny _) (by rw [Ni];omega));simp only [bne_self_eq_false,Nn,if_false];exact M3 h
noncomputable abbrev Kp (h h':OQ):Prop:=∀b o,h.get? b=some o->h'.get? b=some o
noncomputable def lN (prog:Nt) (w:NS) (A:NK) (s:M5) (vs:List M4) (q:Nat->Nat->Bool):Prop:=2<=vs.length->∃κ,∀h' tk,Kp s.heap h'->
 (∀C:PX->M5->Prop,C κ {s with heap:=h',toks:=tk}->Nm (Nq prog w) A (Xv vs.toArray) C (λ_ _=>False) {s with heap:=h',toks:=tk})/\
 ∀i j (C:Bool->M5->Prop),i < vs.length->j < vs.length->C (q i j) {s with heap:=h',toks:=tk}->kas_ask prog w A κ vs i j C {s with heap:=h',toks:=tk}
noncomputable def Coll (prog:Nt) (w:NS) (A:NK) (s:M5) (x:M4) (vs:List M4):Prop:=∀(E:M4->M5->Prop) (C:List M4->M5->Prop),(∀h1 tk,Kp s.heap h1->s.heap.objs.size<=h1.objs.size->C vs {s with heap:=h1,toks:=tk})->Nm (Nq prog w) A (collect x) C E s
theorem wY {o:Obj}{vs:List M4}(hT:T="list"\/T="tuple") (ho:s.heap.get? a=some o) (hc:o.cls=.type T) (hd:o.data=.seq vs.toArray n) (sl:vs.length<=sizeLine):Coll prog w A s (.ref a) vs:=by
 intro E C h;generalize hh:(s.heap.push (P1 "list" #[] 0)).update s.heap.objs.size (Po (·++vs.toArray))=h1;have hS:(s.heap.push (P1 "list" #[] 0)).get? s.heap.objs.size=some (P1 "list" #[] 0):=Nf _ rfl;have LD:=OO (Po (·++vs.toArray)) hS rfl;rw [hh] at LD;have k1:Kp s.heap h1:=λb o e=>by rw [<-hh,SS _ _ _ _ (NF (Nk e))];exact M6 _ e
 have z1:s.heap.objs.size<=h1.objs.size:=by rw [<-hh,V7,size_push'];exact QL _
 have fin:=h h1 s.toks k1 z1;unfold collect;refine M0 (UX (Pj UE ?_));rw [OE UG _];show Nm _ A.in1 (newList [] >>= λl=>again (.builtin "list.__iadd__" ⟨[l,.ref a],[]⟩)) _ _ s;refine M0 (NP ?_);refine M3 ⟨QO R_ _,Pj VP ?_⟩;rw [OE R_ _];have fin':Nm (Nq prog w) A (load s.heap.objs.size >>= λo=>match o.data with
   | .seq xs _=>pure xs.toList
   | _=>unsupported "internal:collect") C E {s with heap:=h1}:=by
  refine M0 (W3 LD (M3 ?_));have e:((#[]:Array M4)++vs.toArray).toList=vs:=by simp
  show C ((#[]:Array M4)++vs.toArray).toList _;rw [e];exact fin
 refine Od (wpAny_extend_seq (hsz:=by rw [Ni];exact sl) (A:=A) (R:=λr s'=>r=.ok (.ret (.ref s.heap.objs.size))/\s'={s with heap:=h1})
  (s:={s with heap:=s.heap.push (P1 "list" #[] 0)}) _ a _ 0 hT hS (M6 _ ho) hc hd ⟨rfl,by rw [<-hh]⟩) (λf s' q=>?_) (λe s' q=>absurd q.1 (by simp))
 cases f with
 | done f=>
  obtain ⟨e,rfl⟩:=q;cases e;exact fin'
 | again c'=>exact ⟨q.1,QI q.2 λr s'' hr=>by obtain ⟨rfl,rfl⟩:=hr;exact fin'⟩
theorem Fv {q:Nat->Nat->Bool}{Q:M4->M5->Prop}{vs:List M4}(Lh:Coll prog w A.in1 s x vs) (h64:vs.length < 64) (ha:lN prog w A.in1.in1 s vs q)
 (h:∀h' tk l n,Kp s.heap h'->s.heap.objs.size<=l->h'.get? l=some (P1 "list" (if vs.length < 2 then vs else mG q vs).toArray n)->Q (.ref l) {s with heap:=h',toks:=tk}):Nm (Nq prog w) A (call (.builtin "sorted") [x]) Q E s:=by
 have sl:vs.length<=sizeLine:=by rw [OG];omega
 refine (Th kind_sorted plain_sorted entry_sorted (args_sorted1 _) ?_);unfold RI.«sorted»;refine M0 (m:=checkCount "sorted" 1 1 _) ((M3 ?_));refine M0 (Lh _ _ λh1 tk1 k1 le1=>?_);refine M0 (SE ?_ sl);have gL:(h1.push (P1 "list" vs.toArray 0)).get? h1.objs.size=some (P1 "list" vs.toArray 0):=Nf _ rfl;have kp:∀b o,s.heap.get? b=some o->b≠h1.objs.size/\(h1.push (P1 "list" vs.toArray 0)).get? b=some o:=λb o e=>by have e1:=k1 b o e;exact ⟨NF (Nk e1),M6 _ e1⟩
 have kend:∀out,Kp s.heap (VO (h1.push (P1 "list" vs.toArray 0)) h1.objs.size vs out):=λout b o e=>by obtain ⟨g1,g2'⟩:=kp b o e;rw [WR g1 (Nk g2')];exact g2'
 dsimp only;by_cases h2:vs.length < 2
 ·refine M0 (NU (Oe UY ⟨_,gL,rfl⟩ UH (yK gL h2 ⟨_,rfl,?_⟩) (UZ _)));obtain ⟨n,hn'⟩:=Vu (out:=vs.toArray) gL;rw [if_pos h2] at h;exact M3 ⟨_,rfl,h _ tk1 _ n (kend _) le1 hn'⟩
 ·obtain ⟨κ,ask⟩:=ha (by omega);refine M0 (NU (Oe UY ⟨_,gL,rfl⟩ UH (yL (κ:=κ) (q:=q) gL (by omega) h64 (λh' C k c=>?_) (λh' k i j C hi hj c=>?_) ⟨_,rfl,?_⟩) (UZ _)))
  ·exact (ask h' tk1 λb o e=>k b o (kp b o e).1 (kp b o e).2).1 C c
  ·exact (ask h' tk1 λb o e=>k b o (kp b o e).1 (kp b o e).2).2 i j C hi hj c
  ·obtain ⟨n,hn'⟩:=Vu (out:=(mG q vs).toArray) gL;rw [if_neg h2] at h;exact M3 ⟨_,rfl,h _ tk1 _ n (kend _) le1 hn'⟩
end
noncomputable def bQ (ds:List D) (i:Nat):D:=ds.getD i .non
noncomputable def ltB (ds:List D) (i j:Nat):Bool:=(dh (bQ ds i) (bQ ds j)).getD false
noncomputable def aY (ds:List D):List D:=if ds.length < 2 then ds else (aO (ltB ds) (Rc ds.length)).toList.map (bQ ds)
noncomputable def uB (ds:List D):Bool:=ds.all λx=>ds.all λy=>(dh x y).isSome
noncomputable def Cn (ds:List D):Bool:=match ds with
 | []=>false
 | d::_=>match fJ d with
  | some k=>dZ k ds
  | none=>false
noncomputable def nU (ds:List D):Bool:=decide (ds.length < 2) || (decide (ds.length < 64) && (decide (deps ds<=60) && (Cn ds && uB ds)))
section
variable {K:M1}{J:Hp}
theorem fL {ds:List D}{vs:List V}(h:az K J ds vs):∀{i:Nat},i < ds.length->Rep K J (bQ ds i) (vs.getD i V.non):=by
 induction ds generalizing vs with
 | nil=>intro i hi;exact absurd hi (Om _)
 | cons x r ih=>
  intro i hi;cases h with
  | cons q rs=>
   cases i with
   | zero=>simpa [bQ] using q
   | succ i=>simpa [bQ] using ih rs (i:=i) (by simpa using hi)
theorem fN {vs:List V}{us:List M4}(h:Vals vs us):∀{i:Nat},i < vs.length->RelV (vs.getD i V.non) (us.getD i Oc):=by
 induction vs generalizing us with
 | nil=>intro i hi;exact absurd hi (Om _)
 | cons x r ih=>
  intro i hi;cases h with
  | cons q rs=>
   cases i with
   | zero=>simpa using q
   | succ i=>simpa using ih rs (i:=i) (by simpa using hi)
theorem qT {ds:List D}{vs:List V}(h:az K J ds vs):∀ix:List Nat,(∀i∈ix,i < ds.length)->az K J (ix.map (bQ ds)) (ix.map λi=>vs.getD i V.non)
 | [],_=>.nil
 | i::r,hi=>.cons (fL h (hi i (Nd ..))) (qT h r λj hj=>hi j (Na _ hj))
theorem qV {vs:List V}{us:List M4}(h:Vals vs us):∀ix:List Nat,(∀i∈ix,i < vs.length)->Vals (ix.map λi=>vs.getD i V.non) (ix.map λi=>us.getD i Oc)
 | [],_=>.nil
 | i::r,hi=>.cons (fN h (hi i (Nd ..))) (qV h r λj hj=>hi j (Na _ hj))
theorem Ek {ds:List D}:∀{i:Nat},i < ds.length->dep (bQ ds i)<=deps ds:=by
 induction ds with
 | nil=>intro i hi;exact absurd hi (Om _)
 | cons x r ih=>
  intro i hi;unfold deps;cases i with
  | zero=>show dep x<=_;omega
  | succ i=>
   have:=ih (i:=i) (by simpa using hi);have e:bQ (x::r) (i + 1)=bQ r i:=rfl;rw [e];omega
theorem dw {ds:List D}(hi:i < ds.length):bQ ds i∈ds:=by
 have e:bQ ds i=ds[i]:=by simp [bQ,hi]
 rw [e];exact O7 hi
theorem HF.keep {s s':M5}(F:HF K J s) (k:∀b o,s.heap.get? b=some o->s'.heap.get? b=some o):HF K J s':=
 ⟨λa xs h=>let ⟨its,r,o,ho,p⟩:=F.t a xs h;⟨its,r,o,k _ _ ho,p⟩,λa xs h=>let ⟨its,r,o,ho,p⟩:=F.l a xs h;⟨its,r,o,k _ _ ho,p⟩,λa h=>let ⟨o,ho,p⟩:=F.e a h;⟨o,k _ _ ho,p⟩,λa ep MY h=>let ⟨o,es,ho,p⟩:=F.d a ep MY h;⟨o,es,k _ _ ho,p⟩⟩
theorem uf {A:NK}(F:HF K J s) (rs:az K J ds vs) (rv:Vals vs its) (hk:∀d∈ds,fJ d=some k/\dep d<=60) (hk':dZ k ds=true) (hc:∀x∈ds,∀y∈ds,(dh x y).isSome=true) (hu:A.units + 62 < PN):lN prog w A s its (ltB ds):=by
 intro h2;have l1:vs.length=its.length:=rv.length;have l2:ds.length=vs.length:=rs.length;refine ⟨tuples' k.flag,λh' tk kp=>⟨λC cc=>Ax (F.keep kp) hk' rs rv (by omega) cc,λi j C hi hj cc=>?_⟩⟩;have hi':i < ds.length:=by omega
 have hj':j < ds.length:=by omega
 obtain ⟨a1,d1⟩:=hk _ (dw hi');obtain ⟨a2,d2⟩:=hk _ (dw hj');have hb:dh (bQ ds i) (bQ ds j)=some (ltB ds i j):=by
  have:=hc _ (dw hi') _ (dw hj');unfold ltB;cases z:dh (bQ ds i) (bQ ds j) with
  | none=>rw [z] at this;cases this
  | some b=>rfl
 exact EC (F.keep kp) a1 a2 hb (fL rs hi') (fL rs hj') (fN rv (by omega)) (fN rv (by omega)) (by omega) (by omega) (by omega) cc
end
noncomputable def isInt:D->Bool
 | .int _=>true
 | _=>false
noncomputable def lI (ds:List D):Bool:=decide (ds.length < 64) && ds.all isInt
theorem xr {K:M1}{J:Hp}:∀{ds:List D}{vs:List V}{us:List M4},ds.all isInt=true->az K J ds vs->Vals vs us->∃ns,VF us ns
 | _,_,_,_,.nil,.nil=>⟨[],.nil⟩
 | d::ds,_,_,h,.cons r rs,.cons v vs=>by
  (rw [QM,M8] at h)
  obtain ⟨ns,hn⟩:=xr h.2 rs vs;cases d with
  | int i=>
   cases r;obtain ⟨t,rfl⟩:=v;exact ⟨i::ns,.cons i t hn⟩
  | _=>cases h.1
theorem zH {K:M1}{J:Hp}{prog:Nt}{w:NS}{A:NK}{s:M5}{ds:List D}{vs:List V}{its:List M4}(rs:az K J ds vs) (rv:Vals vs its) (hi:ds.all isInt=true):lN prog w A s its (ltB ds):=by
 intro h2;have l1:vs.length=its.length:=rv.length;have l2:ds.length=vs.length:=rs.length;obtain ⟨ns,hI⟩:=xr hi rs rv;refine ⟨oneType',λh' tk kp=>⟨λC cc=>?_,λi j C hi' hj' cc=>?_⟩⟩
 ·clear l1 rv
  match its,hI,h2 with
  | v1::v2::r,hI,_=>rw [keyKind_ints hI];exact M3 cc
 ·have ai:=NC.mp hi _ (dw (i:=i) (by omega));have aj:=NC.mp hi _ (dw (i:=j) (by omega));have r1:=fL rs (i:=i) (by omega);have r2:=fL rs (i:=j) (by omega);have v1:=fN rv (i:=i) (by omega);have v2:=fN rv (i:=j) (by omega);show Nm _ _ (keyLt' oneType' (its.getD i Oc) (its.getD j Oc)) _ _ _;rw [keyLt'_oneType];have e:ltB ds i j=(dh (bQ ds i) (bQ ds j)).getD false:=rfl;rw [e] at cc;generalize bQ ds i=di at ai r1 cc;generalize bQ ds j=dj at aj r2 cc;generalize vs.getD i V.non=wi at r1 v1;generalize vs.getD j V.non=wj at r2 v2;cases di with
  | int a=>
   cases dj with
   | int b=>
    cases r1;cases r2;obtain ⟨t1,q1⟩:=v1;obtain ⟨t2,q2⟩:=v2;rw [q1,q2];refine oneLt_int ?_;unfold dh at cc;exact cc
   | _=>cases aj
  | _=>cases ai
section
variable {X:Cx}{c:C}{e:N9}{es:List N9}{pos:Pos}
theorem jI {H:Hp}{Q:VK}{E:M4->M5->Prop}{vs:List V}{ds:List D}(I:Inv X MQ σ H s) (Lh:Coll X.prog X.w X.A.in1 s x its) (rv:Vals vs its) (l2:ds.length=vs.length) (l64:ds.length < 64)
 (ha:lN X.prog X.w X.A.in1.in1 s its (ltB ds)) (q:∀l vs',H l=none->(∀J,az X.K J ds vs->az X.K J (aY ds) vs')->Q (.ref l) (upd H l (.lst vs'))):Nm (Nq X.prog X.w) X.A (call (.builtin "sorted") [x]) (EP X MQ σ Q) E s:=by
 have l1:vs.length=its.length:=rv.length;refine Fv Lh (by omega) ha λh' tk l n kp hl hg=>?_;have fin:∀(ot:List M4) (vs':List V),vs'.length=vs.length->Vals vs' ot->(∀J,az X.K J ds vs->az X.K J (aY ds) vs')->h'.get? l=some (P1 "list" ot.toArray n)->EP X MQ σ Q (.ref l) {s with heap:=h',toks:=tk}:=λot vs' lv rv' rr hg=>
  ⟨.ref l,_,I.laid (t':=tk) kp hl (show bU X.prog X.w _ _ _ (.lst vs') from ⟨by rw [lv,OG];omega,ot,n,rv',by simpa [P1] using hg⟩),rfl,q l vs' (I.hok.fresh hl) rr⟩
 by_cases h2:its.length < 2
 ·rw [if_pos h2] at hg;refine fin its vs rfl rv (λJ rj=>?_) hg;unfold aY;rw [if_pos (by omega)];exact rj
 ·rw [if_neg h2] at hg;have ib:∀i∈(aO (ltB ds) (Rc ds.length)).toList,i < ds.length:=λi hi=>by have:=((gP (n:=ds.length) (by omega)).run (ltB ds):eV _ _);have:=(Tc this).mp (Array.mem_toList_iff.mp hi);simpa using this
  have e1:mG (ltB ds) its=(aO (ltB ds) (Rc ds.length)).toList.map λi=>its.getD i Oc:=by unfold mG;rw [l2,l1]
  rw [e1] at hg;refine fin _ _ ?_ (qV rv _ λi hi=>l2▸ib i hi) (λJ rj=>?_) hg
  ·rw [M7,<-l2];have:=((gP (n:=ds.length) (by omega)).run (ltB ds):eV _ _).size_eq;simpa using this
  ·unfold aY;rw [if_neg (by omega)];exact qT rj _ ib
theorem uQ {H:Hp}(I:Inv X MQ σ H s) (h:bN X.K H p vs\/bT X.K H p vs):∃its,Vals vs its/\Coll X.prog X.w A s (.ref p) its:=by
 rcases h with h | h
 ·obtain ⟨its,r,⟨o,n,ho,hc,_,hd⟩,hz⟩:=I.list h;exact ⟨its,r,wY (.inl rfl) ho hc hd (r.length▸hz)⟩
 ·obtain ⟨its,r,pt,hz⟩:=I.tuple h;obtain ⟨o,ho,hc,n,hd⟩:=pt;exact ⟨its,r,wY (.inr rfl) ho hc hd (r.length▸hz)⟩
theorem Co {H:Hp}{ds:List D}(hu:X.A.units + 64 < PN) (I:Inv X MQ σ H s) (rs:az X.K H ds vs) (rv:Vals vs its) (ok:nU ds=true):ds.length < 64/\lN X.prog X.w X.A.in1.in1 s its (ltB ds):=by
 have l1:vs.length=its.length:=rv.length;have l2:ds.length=vs.length:=rs.length;by_cases h2:ds.length < 2
 ·exact ⟨by omega,λh=>absurd h (by omega)⟩
 ·unfold nU at ok;rw [decide_eq_false h2,Xx,M8,M8,M8] at ok;obtain ⟨o1,o2,o3,o4⟩:=ok;have o2:=of_decide_eq_true o2;obtain ⟨k,hk⟩:∃k,dZ k ds=true:=by
   unfold Cn at o3;cases ds with
   | nil=>cases o3
   | cons d r=>
    simp only at o3;cases z:fJ d with
    | none=>rw [z] at o3;cases o3
    | some k=>rw [z] at o3;exact ⟨k,o3⟩
  refine ⟨of_decide_eq_true o1,uf (gz I) rs rv (k:=k) (λd hd=>⟨jv hk d hd,?_⟩) hk (λx hx y hy=>NC.mp (NC.mp o4 _ hx) _ hy) hu⟩;obtain ⟨i,hi,rfl⟩:=ND.mp hd;have:=Ek hi;have e:bQ ds i=ds[i]:=by simp [bQ,hi]
  rw [e] at this;omega
theorem uw (hu:X.A.units + 64 < PN):bw X (.builtin "sorted") (λxs H Q=>∃p vs ds,xs=[.ref p]/\(bN X.K H p vs\/bT X.K H p vs)/\az X.K H ds vs/\(nU ds=true\/lI ds=true)/\∀l vs',H l=none->(∀J,az X.K J ds vs->az X.K J (aY ds) vs')->Q (.ref l) (upd H l (.lst vs'))):=by
 intro MQ s σ H xs us Q I r h;obtain ⟨p,vs,ds,rfl,hq,rs,ok,q⟩:=h;obtain ⟨u,rfl,rx⟩:=vals1 r;cases rx;obtain ⟨its,rv,col⟩:=uQ I hq;rcases ok with ok | ok
 ·obtain ⟨l64,ha⟩:=Co hu I rs rv ok;exact jI I col rv rs.length l64 ha q
 ·unfold lI at ok;rw [M8] at ok;exact jI I col rv rs.length (of_decide_eq_true ok.1) (zH rs rv ok.2) q
end
end DL
namespace DL
open PySem PySem.Spec PyProof.Rows L2
end DL
namespace DL
open PySem PySem.Spec PyProof.Rows L2 DX
section
variable {M:Yz}{A:NK}{E:M4->M5->Prop}{s:M5}
theorem yO {MP:Rl}{globals:Nu}{closure:List (Str×Nu)}{MV:Str}{func:Option Nu}{code:M4}{outer:Env}{builtins:Nu}{Q:Env->M5->Prop}
  (hQ:Q (newEnv MP s.heap.objs.size globals (Oi (s.heap.objs.size + 1) MP.names closure) MV func code (some outer) builtins) {s with heap:=Wt (s.heap.push {cls:=.type "dict",data:=.dict #[]}) MP.names}):
  Nm M A (WS MP globals closure [] MV func code (some outer) builtins) Q E s:=by simp only [WS,Option.isSome_some,if_true];refine M0 (wpAny_alloc ?_);refine M0 (wpAny_layCells _ (λname kind cells=>by cases hkc:kind == RK <;> simp [hkc]) _ _ _ _ ?_);rw [show ({s with heap:=s.heap.push {cls:=.type "dict",data:=.dict #[]}}:M5).heap.objs.size=s.heap.objs.size + 1 from O1 ..];simp only [UW];exact M0 (M3 (M3 hQ))
theorem h_:∀(names:List (Str×Qc)) (n:Nat) (acc:List (Str×Nu)) (x:Str),(∀y∈names,y.2=.cell->y.1≠x)->(Oi n names acc).lookup x=acc.lookup x
 | [],_,_,_,_=>by unfold Oi;rfl
 | (y,k)::r,n,acc,x,h=>by
  have hr:∀z∈r,z.2=.cell->z.1≠x:=λz hz=>h z (Na _ hz);unfold Oi;split
  ·rename_i hk;rw [h_ r _ _ x hr];have hy:y≠x:=h (y,k) (Nd ..) (by simpa using hk);have:(x == y)=false:=by
    cases q:x == y with
    | false=>rfl
    | true=>exact absurd (eq_of_beq q).symm hy
   rw [O6,this]
  ·exact h_ r _ _ x hr
end
theorem sR:∀(names:List (Str×Qc)) (n:Nat) (acc:List (Str×Nu)),Oi n names acc=Oi n names []++acc:=by
 intro names
 suffices ∀(n:Nat) (a b:List (Str×Nu)),Oi n names (a++b)=Oi n names a++b by intro n acc;exact this n [] acc
 induction names with
 | nil=>intro n a b;unfold Oi;rfl
 | cons p r ih=>
  obtain ⟨y,k⟩:=p;intro n a b;unfold Oi;split
  ·exact ih _ (_::a) b
  ·exact ih _ a b
noncomputable def cJ (names:List (Str×Qc)) (x:Str):Bool:=names.any λy=>y.1 == x && y.2 == .cell
theorem eW:∀(names:List (Str×Qc)) (n:Nat) (acc:List (Str×Nu)) (x:Str),((acc.lookup x).isSome=true\/cJ names x=true)->((Oi n names acc).lookup x).isSome=true
 | [],_,_,_,h=>by
  unfold Oi;rcases h with h | h
  ·exact h
  ·cases h
 | (y,k)::r,n,acc,x,h=>by
  unfold Oi;have e:cJ ((y,k)::r) x=((y == x && k == .cell) || cJ r x):=rfl;rw [e] at h;split
  ·rename_i hk;refine eW r _ _ x ?_;by_cases hx:x=y
   ·left;subst hx;rw [O6];simp
   ·rcases h with h | h
    ·left;rw [O6];cases q:x == y with
     | true=>exact absurd (eq_of_beq q) hx
     | false=>exact h
    ·rw [P0,M8] at h;rcases h with h | h
     ·exact absurd (eq_of_beq h.1).symm hx
     ·exact .inr h
  ·rename_i hk;refine eW r _ _ x ?_;rcases h with h | h
   ·exact .inl h
   ·rw [P0,M8] at h;rcases h with h | h
    ·exact absurd h.2 hk
    ·exact .inr h
theorem eK {cl:List (Str×Nu)}(h:(Oi n names cl).lookup x=some d):
  (Oi n names []).lookup x=some d\/(cJ names x=false/\cl.lookup x=some d):=by
 rw [sR,List.lookup_append] at h;cases q:(Oi n names []).lookup x with
 | some e=>rw [q] at h;left;simpa using h
 | none=>
  rw [q] at h;right;refine ⟨?_,by simpa using h⟩;cases z:cJ names x with
  | false=>rfl
  | true=>
   have:=eW names n [] x (.inr z);rw [q] at this;cases this
theorem lJ {MP:Rl}(h:(relabel MP env).names.lookup x=some .cell\/(relabel MP env).names.lookup x=some .free):(x,OH)∈MP.names\/cJ MP.names x=true:=by
 unfold relabel at h;revert h;generalize MP.names=names
 induction names with
 | nil=>intro h;simp at h
 | cons p r ih=>
  obtain ⟨n,k⟩:=p;intro h;rw [Nz] at h;simp only at h;by_cases hx:x=n
  ·subst hx;cases k with
   | free=>exact .inl (Nd ..)
   | cell=>right;unfold cJ;simp
   | _=>simp [O6] at h
  ·have e:(x == n)=false:=by simpa using hx
   have h':(r.map λ(n,k)=>if (k == OH && env.scope.kind == .function && env.kindOf n == some .cell) then (n,RK) else (n,k)).lookup x=some .cell\/(r.map λ(n,k)=>if (k == OH && env.scope.kind == .function && env.kindOf n == some .cell) then (n,RK) else (n,k)).lookup x=some .free:=by split at h <;> simpa [O6,e] using h
   rcases ih h' with z | z
   ·exact .inl (Na _ z)
   ·right;unfold cJ at z ⊢;rw [Vn,z,Bool.or_true]
section
variable {X:Cx}
noncomputable def cR (X:Cx) (own:List Str) (cap:List Nat) (MP:Rl) (cl:List (Str×Nu)) (C:Nu) (s:M5) (H:Hp) (fp:List Nu):Cx:=
 {Ge X own cap MP (Oi (C + 1) MP.names cl) C s H fp with fn:=cJ MP.names}
theorem Ej {H:Hp}{s:M5}{MP:Rl}{fp:List Nu}(I:Inv X MQ σ H s) (hk:MP.kind=.function)
 (hcl:cW X.env.cells MP.names []=some cl) (ck:Yo h1 (s.heap.objs.size + 1) (Oi (s.heap.objs.size + 1) MP.names [])) (hfp:∀b∈fp,gf X MQ H b) (hin:∀b∈fp,b < s.heap.objs.size):(cR X own cap MP cl s.heap.objs.size s H fp).Ok:=by
 obtain ⟨m1,m2⟩:=fC MP.names [] cl hcl (λx c h=>by simp at h);have lo:∀{x:Str}{d:Nu},(Oi (s.heap.objs.size + 1) MP.names []).lookup x=some d->s.heap.objs.size + 1<=d:=fun {x d} h=>(ck.empty _ _ (RP h)).2;have old:∀{x:Str}{d:Nu},cl.lookup x=some d->d < s.heap.objs.size:=fun {x d} h=>by obtain ⟨v,z⟩:=I.cell x d (m1 x d h);exact z.lt
 refine ⟨I.ok.mod,hk,I.ok.glob,I.ok.blt,Nb _,λx y d h1 h2=>?_,λx hx=>?_,λx d hf h=>?_,λhc=>I.ok.hd hc,I.ok.frames,.inl rfl,λb hb=>⟨NF (hin b hb),λx d h=>?_⟩,
  I.bs,N8 I.ok.bsz I.sz,λb o h hb=>?_,λb hb hf=>?_,I.stack,I.stkFree⟩
 ·rcases eK h1 with h1 | ⟨_,h1⟩
  ·rcases eK h2 with h2 | ⟨_,h2⟩
   ·exact name_of_addr ck.apart (RP h1) (RP h2)
   ·exact absurd (Nv (old h2) (QH (lo h1))) (PM _)
  ·rcases eK h2 with h2 | ⟨_,h2⟩
   ·exact absurd (Nv (old h1) (QH (lo h2))) (PM _)
   ·exact I.ok.inj x y d (m1 x d h1) (m1 y d h2)
 ·refine OJ.mp (eW _ _ _ x ?_);rcases lJ hx with z | z
  ·exact .inl (m2 x (.inr z))
  ·exact .inr z
 ·rcases eK h with h | ⟨z,h⟩
  ·exact QH (lo h)
  ·have hf':cJ MP.names x=true:=hf;rw [z] at hf';cases hf'
 ·rcases eK h with h | ⟨_,h⟩
  ·exact Qx (Nv (hin b hb) (QH (lo h)))
  ·exact (hfp b hb).2.2.2.2.1 x d (m1 x d h)
 ·rcases (hfp b hb).2.2.2.1 with z | z
  ·exact I.ok.noex b o h z
  ·exact absurd (Nv (Nk (I.ok.bs b o h).1) z) (PM _)
 ·rcases Nj.mp (I.stkSub b hf) with e | e
  ·exact (hfp b hb).2.1 e
  ·exact (hfp b hb).2.2.1 e
end
theorem u6 {cl:List (Str×Nu)}(h:cJ names x=false):(Oi n names cl).lookup x=cl.lookup x:=
 h_ names n cl x λy hy hk e=>by unfold cJ at h;have:=List.any_eq_false.mp h y hy;simp [hk,e] at this
section
variable {X:Cx}
theorem BR {MQ:List (Nu×Obj)}{σ:L2.St}{H:Hp}{s:M5}{own:List Str}{cap:List Nat}{MP:Rl}{cl:List (Str×Nu)}{fp:List Nu}{h1:OQ}{m:Str->Option M4}{tk:Nat}(I:Inv X MQ σ H s) (ok:(cR X own cap MP cl s.heap.objs.size s H fp).Ok)
  (hcl:cW X.env.cells MP.names []=some cl) (ck:Yo h1 (s.heap.objs.size + 1) (Oi (s.heap.objs.size + 1) MP.names [])) (hcap:nh X cap=true) (Ld:∀j∈cap,∀x,X.N[j]?=some x->(relabel MP X.env).names.lookup x≠some .local)
  (hno:∀j∈cap,∀x,X.N[j]?=some x->cJ MP.names x=false) (hns:h1.Ns s.heap.objs.size m) (old:∀b o,s.heap.get? b=some o->h1.get? b=some o):
  Inv (cR X own cap MP cl s.heap.objs.size s H fp) [] (Ot own.length none++cap.map λ(j:Nat)=>(σ[j]?).getD none) H {s with heap:=h1,toks:=tk}:=by
 obtain ⟨m1,m2⟩:=fC MP.names [] cl hcl (λx c h=>by simp at h);refine ⟨ok,rfl,I.bare,Un.kept old,⟨m,hns,λi x v q1 q2 q3=>?_⟩,λx d h=>?_,I.hok.fresh (Nb _),λx d h=>?_,λp hp=>absurd (show p∈([]:List (Nu×Obj)) from hp) (by simp),I.hok.kept old,?_⟩
 ·obtain ⟨j,h2,h3,h4⟩:=f_ q2;have q1':(own++cap.map λ(j:Nat)=>(X.N[j]?).getD ("":Str))[i]?=some x:=q1;rw [OW (by exact h2),Nx,h3] at q1';have hj:j∈cap:=NB h3;have hc:(match X.N[j]? with
   | some x=>(match X.env.scope.names.lookup x with
    | some .cell=>true
    | some .free=>true
    | _=>false)
   | none=>false)=true:=by unfold nh at hcap;exact NC.mp hcap j hj
  cases hx:X.N[j]? with
  | none=>rw [hx] at hc;cases hc
  | some y=>
   rw [Wl,hx] at q1';rw [hx] at hc;have e:y=x:=by simpa using q1'
   subst e;have kd:X.env.kindOf y=some .cell\/X.env.kindOf y=some .free:=by
    unfold YB;simp only at hc;split at hc
    ·rename_i z;exact .inl z
    ·rename_i z;exact .inr z
    ·cases hc
   obtain ⟨mX,nX,lX⟩:=I.loc;obtain ⟨u,ru,lu⟩:=lX j y v hx h4 (kd.elim (λz=>.inr (.inl z)) λz=>.inr (.inr z));refine ⟨u,ru,.inr ?_⟩;have kd':(relabel MP X.env).names.lookup y=some .cell\/(relabel MP X.env).names.lookup y=some .free:=by
    rcases q3 with z | z | z
    ·exact absurd z (Ld j hj y hx)
    ·exact .inl z
    ·exact .inr z
   refine ⟨kd',?_⟩;have no:=hno j hj y hx;have fr:(y,OH)∈MP.names:=by
    rcases lJ kd' with z | z
    ·exact z
    ·rw [no] at z;cases z
   obtain ⟨d,hd⟩:=OJ.mp (m2 y (.inr fr));refine ⟨d,(u6 no).trans hd,?_⟩;rcases lu with ⟨z,_⟩ | ⟨_,d',hd',z⟩
   ·rcases kd with k | k <;> (rw [k] at z;cases z)
   ·have:=m1 y d hd;rw [hd'] at this;cases this;obtain ⟨o,ho,hod⟩:=z;exact ⟨o,old _ _ ho,hod⟩
 ·rcases eK h with h | ⟨_,h⟩
  ·exact ⟨none,(ck.empty _ _ (RP h)).1⟩
  ·obtain ⟨v,o,ho,hod⟩:=I.cell x d (m1 x d h);exact ⟨v,o,old _ _ ho,hod⟩
 ·rcases eK h with h | ⟨_,h⟩
  ·exact I.hok.fresh (QH (ck.empty _ _ (RP h)).2)
  ·exact I.freeC x d (m1 x d h)
 ·show _=(own++cap.map λ(j:Nat)=>(X.N[j]?).getD ("":Str)).length;simp
end
theorem GP (h:OQ) (names:List (Str×Qc)):(Wt (h.push {cls:=.type "dict",data:=.dict #[]}) names).Ns h.objs.size (λ_=>none):=
 (Heap.Ns.new h (.type "dict")).keeps λb o e=>Wu _ _ _ _ e
theorem zX (h:OQ) (names:List (Str×Qc)):Yo (Wt (h.push {cls:=.type "dict",data:=.dict #[]}) names) (h.objs.size + 1) (Oi (h.objs.size + 1) names []):=by have:=cellsFrom_ok names (h.push {cls:=.type "dict",data:=.dict #[]}) (h.objs.size + 1) [] ⟨λ_ _ hm=>(nomatch hm),Qh⟩ (by rw [O1];exact Nb _);rw [O1] at this;exact this
noncomputable def Dn (X:Cx) (cap:List Nat) (MP:Rl):Bool:=cap.all λj=>match X.N[j]? with
 | some x=>!cJ MP.names x
 | none=>true
section
variable {X:Cx}{c:C}
theorem wX {names names2:List (Str×Qc)}(h:cW cells names []=some cl)
 (hn:(names2.all λy=>!(y.2 == .free) || ((names.any λz=>z.1 == y.1 && z.2 == .free) || cJ names y.1))=true):(cW (Oi n names cl) names2 []).isSome=true:=by
 obtain ⟨_,m2⟩:=fC names [] cl h (λx c h=>by simp at h);have go:∀(l:List (Str×Qc)) (cs:List (Str×Nu)),(l.all λy=>!(y.2 == .free) || ((names.any λz=>z.1 == y.1 && z.2 == .free) || cJ names y.1))=true->(cW (Oi n names cl) l cs).isSome=true:=by
  intro l
  induction l with
  | nil=>intro cs _;rfl
  | cons y r ih=>
   obtain ⟨y,k⟩:=y;intro cs hl;rw [QM,M8] at hl;unfold cW;split
   ·rename_i hk;have h1:=hl.1;simp only [hk,Qd,Xx,P0] at h1;have:((Oi n names cl).lookup y).isSome=true:=by
     refine eW names n cl y ?_;rcases h1 with z | z
     ·obtain ⟨q,hq,e⟩:=QT.mp z;rw [M8] at e;have e1:q=(y,OH):=by
       obtain ⟨q1,q2⟩:=q;have a1:q1=y:=eq_of_beq e.1;have a2:q2=OH:=by simpa using e.2
       rw [a1,a2]
      exact .inl (m2 y (.inr (e1▸hq)))
     ·exact .inr z
    obtain ⟨a,ha⟩:=OJ.mp this;rw [ha];exact ih _ hl.2
   ·exact ih _ hl.2
 exact go names2 [] hn
end
end DL
namespace K51
open PySem DL
noncomputable def o7:List Str:=["_law_script","_law_k"]
noncomputable def pN:G O:=(aK (cD (cI (g2 (l6 λi j=>.bl (decide (i < j))) (af 1) (gN iG (ao (af 0) aF)))) (cg (g2 cM (g2 bg (af 0) (af 1)) (g2 Gk (gC (.int 10)) (gC (.int 64))))) fG)
 (cg (gC (.int 0))))
noncomputable def bx (as:List S):M R:=fin (pN (bA o7 as))
noncomputable def nC:List Str:=["_law_cell_here","_law_many","_law_letters","_law_sign","_law_stem","_law_found","_law_k","_law_other","_law_name"]
noncomputable def nN:G O:=(aK (aZ 2 (gC (.str "abcdefghijklmnopqrstuvwxyz")))
 (aK (aZ 3 (g2 bg (af 2) (g2 cM (g2 eO (af 0) (gC (.int 3))) (gC (.int 26)))))
 (aK (aZ 4 (g2 fE (af 3) (g2 c7 (gC (.int 1)) (g2 cM (g2 eO (af 0) (gC (.int 78))) (gC (.int 7))))))
 (aK (aZ 5 (gn aX))
 (aK (fF (dO (ao (af 1) aF)) (aE 6) (aK (aZ 7 (g2 bg (af 2) (g2 cM (g2 c7 (g2 eO (af 0) (gC (.int 546))) (g2 fE (gC (.int 9)) (af 6))) (gC (.int 26)))))
 (aK (aZ 8 (g2 bg (gn (aA (g2 c7 (af 4) (af 7)) (aA (g2 c7 (af 7) (af 4)) (aA (g2 fE (af 3) (g2 c7 (af 6) (gC (.int 2)))) aX)))) (g2 cM (af 0) (gC (.int 3)))))
 (aK (cD (cI (g2 (cG false) (af 8) (gC (.str "or")))) (aZ 8 (gC (.str "orx"))) fG)
 (jb 5 (af 8))))))
 (cg (gN jY (ao (af 5) aF))))))))
noncomputable def eX (as:List S):M R:=fin (nN (bA nC as))
noncomputable def o6:List Str:=["_law_cell_here","_law_size","_law_found","_law_k"]
noncomputable def pM:G O:=(aK (aZ 2 (gn aX))
 (aK (fF (dO (ao (af 1) aF)) (aE 3) (aK (jb 2 (g2 (cG false) (g2 cM (af 0) (gC (.int 2))) (gC (.int 1))))
 (aZ 0 (g2 eO (af 0) (gC (.int 2))))))
 (cg (af 2))))
noncomputable def fO (as:List S):M R:=fin (pM (bA o6 as))
noncomputable def nF:List Str:=["_law_names_here","_law_many","_law_cells","_law_marks","_law_k","_law_bits_here","_law_arrows"]
noncomputable def nQ:G O:=(aK (aZ 3 (gn aX))
 (aK (fF (dO (ao (gN iG (ao (g2 bg (af 0) (gC (.int 0))) aF)) aF)) (aE 4) (aK (aZ 5 (gN (bf 2 K51.fO) (ao (g2 bg (af 2) (af 4)) (ao (af 1) aF))))
 (jb 3 (bJ (aA (g2 bg (g2 bg (af 0) (gC (.int 0))) (af 4)) (aA (gN b_ (ao (cK 1 [5] (dO (ao (af 1) aF)) (aE 0) (BY (g2 bg (af 1) (af 0))) (af 0)) aF)) aX))))))
 (aK (aZ 6 (gn aX))
 (aK (fF (dO (ao (gN iG (ao (g2 bg (af 0) (gC (.int 1))) aF)) aF)) (aE 4) (aK (aZ 5 (gN (bf 2 K51.fO) (ao (g2 bg (af 2) (g2 c7 (gC (.int 3)) (af 4))) (ao (g2 fE (af 1) (af 1)) aF))))
 (jb 6 (bJ (aA (g2 bg (g2 bg (af 0) (gC (.int 1))) (af 4)) (aA (gN b_ (ao (cK 1 [5,1] (dO (ao (g2 fE (af 1) (af 1)) aF)) (aE 0) (BY (g2 bg (af 1) (af 0))) (bJ (aA (g2 eO (af 0) (af 2)) (aA (g2 cM (af 0) (af 2)) aX)))) aF)) aX))))))
 (cg (bJ (aA (af 1) (aA (gN b_ (ao (af 3) aF)) (aA (gN b_ (ao (af 6) aF)) aX)))))))))
noncomputable def dW (as:List S):M R:=fin (nQ (bA nF as))
end K51
namespace WP
open PySem DL K01
noncomputable def Wp {α:Type}(m:M α) (P:α->Prop):Prop:=∃a,m=.ok a/\P a
section
variable {α β:Type}{m:M α}{P P':α->Prop}{a:α}{env:Ev}{Q:O->Prop}{t u:G O}{g:G R}{r r':R}{i:Nat}{b:G Bool}
theorem Wp.of (h:m=.ok a) (p:P a):Wp m P:=⟨a,h,p⟩
theorem Wp.mono (h:Wp m P) (k:∀a,P a->P' a):Wp m P':=let ⟨a,h1,h2⟩:=h;⟨a,h1,k a h2⟩
theorem Wp.eq (h:Wp m (·=a)):m=.ok a:=let ⟨_,h1,h2⟩:=h;h2▸h1
theorem jK {P:R->Prop}(h:Wp (t env) λo=>∃r,o=.rt r/\P r):Wp (fin (t env)) P:=by obtain ⟨_,h1,r,rfl,h2⟩:=h;exact ⟨r,by rw [h1];rfl,h2⟩
theorem H_ (h:Wp (t env) λo=>∃e,o=.nx e):fin (t env)=.ok (.d .non):=by obtain ⟨_,h1,r,rfl⟩:=h;rw [h1];rfl
theorem fZ (h:Wp (t env) (·=.rt r)):fin (t env)=.ok r:=by rw [h.eq];rfl
theorem cP (h:Wp (t env) λo=>match o with
 | .nx e=>Wp (u e) Q
 | o=>Q o):Wp (aK t u env) Q:=by
 obtain ⟨o,h1,h2⟩:=h;show Wp (t env >>= _) Q;rw [h1];cases o with
 | nx e=>exact h2
 | rt r=>exact ⟨_,rfl,h2⟩
 | bk e=>exact ⟨_,rfl,h2⟩
 | ct e=>exact ⟨_,rfl,h2⟩
theorem fQ (h:g env=.ok r) (h2:toS r=.ok x) (k:Q (.nx (env.set i (some x)))):Wp (aZ i g env) Q:=⟨_,by show (g env >>= _)=_;rw [h,aS,h2];rfl,k⟩
theorem bh (h:g env=.ok r) (h2:toS r=.ok x) (k:Wp (u (env.set i (some x))) Q):Wp (aK (aZ i g) u env) Q:=cP (fQ h h2 k)
theorem bZ (h:g env=.ok r) (h2:rF r=.ok r') (k:Q (.rt r')):Wp (cg g env) Q:=⟨_,HA h h2,k⟩
theorem IM (h:g env=.ok r) (h2:rF r=.ok r') (k:Q (.rt r')):Wp (aK (cg g) u env) Q:=cP (bZ h h2 k)
theorem mD (k:Q (.nx env)):Wp (fG env) Q:=⟨_,rfl,k⟩
theorem Kc (k:Wp (u env) Q):Wp (aK fG u env) Q:=cP (mD k)
theorem iP (h:b env=.ok true) (k:Wp (t env) Q):Wp (cD b t u env) Q:=by rw [xq h];exact k
theorem GI (h:b env=.ok false) (k:Wp (u env) Q):Wp (cD b t u env) Q:=by rw [Ar h];exact k
theorem qL (h:b env=.ok c) (k1:c=true->Wp (t env) Q) (k2:c=false->Wp (u env) Q):Wp (cD b t u env) Q:=by
 cases c with
 | true=>exact iP h (k1 rfl)
 | false=>exact GI h (k2 rfl)
theorem IP {v:G O}(h:b env=.ok true) (k:Wp (aK t v env) Q):Wp (aK (cD b t u) v env) Q:=by
 have:aK (cD b t u) v env=aK t v env:=by unfold aK;rw [xq h]
 rw [this];exact k
theorem Ka {v:G O}(h:b env=.ok false) (k:Wp (aK u v env) Q):Wp (aK (cD b t u) v env) Q:=by
 have:aK (cD b t u) v env=aK u v env:=by unfold aK;rw [Ar h]
 rw [this];exact k
theorem f7 {v:G O}(h:b env=.ok false) (k:Wp (v env) Q):Wp (aK (cD b t fG) v env) Q:=Ka h (Kc k)
theorem nq {xs:List D}(h0:env[i]?=some (some (.own xs))) (h:g env=.ok r) (h2:toD r=.ok d) (hl:xs.length<=1000) (k:Q (.nx (env.set i (some (.own (xs++[d])))))):Wp (jb i g env) Q:=by refine ⟨_,?_,k⟩;unfold jb;rw [h0];show (g env >>= _)=_;rw [h,aS,h2,aS,if_pos (Vv hl (by decide))]
theorem IL {xs:List D}{d:D}(h0:env[i]?=some (some (.own xs))) (h:g env=.ok r) (h2:toD r=.ok d) (hl:xs.length<=1000) (k:Wp (u (env.set i (some (.own (xs++[d]))))) Q):Wp (aK (jb i g) u env) Q:=cP (nq h0 h h2 hl k)
theorem DB {gi:G (List D)}(h:gi env=.ok ds) (k:Wp (fR tg u ds env) Q):Wp (fF gi tg u env) Q:=by rw [Gp h];exact k
theorem jG {gi:G (List D)}{v:G O}(h:gi env=.ok ds) (k:Wp (fR tg t ds env) λo=>match o with
 | .nx e=>Wp (v e) Q
 | o=>Q o):Wp (aK (fF gi tg t) v env) Q:=cP (DB h k)
theorem Ia {tg:GT}(I:Nat->Ev->Prop) (ds:List D) (h0:I 0 env) (step:∀(k:Nat) (hk:k < ds.length) (env:Ev),I k env->∃e,tg ds[k] env=.ok e/\Wp (u e) λo=>∃e,o=.nx e/\I (k + 1) e)
  (k:∀e,I ds.length e->Q (.nx e)):Wp (fR tg u ds env) Q:=by
 have key:∀(es:List D) (i:Nat) (env:Ev),ds.drop i=es->i<=ds.length->I i env->Wp (fR tg u es env) Q:=by
  intro es
  induction es with
  | nil=>
   intro i env hd hi hI;have:i=ds.length:=by have:=congrArg Q5 hd;rw [O5] at this;simp at this;omega
   subst this;exact ⟨_,rfl,k _ hI⟩
  | cons d es ih=>
   intro i env hd hi hI;have hlt:i < ds.length:=by have:=congrArg Q5 hd;rw [O5] at this;simp at this;omega
   have e1:=PV hlt;rw [hd] at e1;obtain ⟨q1,q2⟩:=YX e1;obtain ⟨e,h1,_,h2,e2,rfl,h3⟩:=step i hlt env hI;unfold fR;rw [q1,h1,aS,h2,aS];exact ih (i + 1) e2 q2.symm (by omega) h3
 exact key ds 0 env rfl (Ny _) h0
theorem ly {tg:GT}(I:Nat->Ev->Prop) (h0:I 0 env) (step:∀(k:Nat),k < n->∀env,I k env->∃e,tg (.int k) env=.ok e/\Wp (u e) λo=>∃e,o=.nx e/\I (k + 1) e)
 (k:∀e,I n e->Q (.nx e)):Wp (fR tg u (dF 0 n) env) Q:=by
 have hl:(dF 0 n).length=n:=by simp [dF]
 refine Ia I (dF 0 n) h0 (λj hj env hI=>?_) (by rw [hl];exact k);obtain ⟨e,h1,h2⟩:=step j (by rw [hl] at hj;exact hj) env hI;refine ⟨e,?_,h2⟩;rw [<-h1];simp [dF]
theorem n1 {f:List R->M R}(hx:g env=.ok x) (hf:f [x]=.ok z):gN f (ao g aF) env=.ok z:=Io hx hf
theorem two {f:R->R->M R}{h:G R}{x y z:R}(hx:g env=.ok x) (hy:h env=.ok y) (hf:f x y=.ok z):g2 f g h env=.ok z:=by show (g env >>= _)=_;rw [hx,aS,hy,aS,hf]
theorem c1 {F:List S->M R}(hx:g env=.ok x) (hF:F [fV x]=.ok z):gN (bf 1 F) (ao g aF) env=.ok (nM z):=by show (ao g aF env >>= _)=_;unfold ao aF;rw [hx];show (match F [fV x] with | .ok r=>M.ok (nM r) | _=>M.bad)=_;rw [hF]
theorem c2 {F:List S->M R}{h:G R}(hx:g env=.ok x) (hy:h env=.ok y) (hF:F [fV x,fV y]=.ok z):gN (bf 2 F) (ao g (ao h aF)) env=.ok (nM z):=by show (ao g (ao h aF) env >>= _)=_;unfold ao aF;rw [hx,hy];show (match F [fV x,fV y] with | .ok r=>M.ok (nM r) | _=>M.bad)=_;rw [hF]
theorem c3 {F:List S->M R}{h k:G R}(hx:g env=.ok x) (hy:h env=.ok y) (hw:k env=.ok w) (hF:F [fV x,fV y,fV w]=.ok z):gN (bf 3 F) (ao g (ao h (ao k aF))) env=.ok (nM z):=by show (ao g (ao h (ao k aF)) env >>= _)=_;unfold ao aF;rw [hx,hy,hw];show (match F [fV x,fV y,fV w] with | .ok r=>M.ok (nM r) | _=>M.bad)=_;rw [hF]
theorem c4 {F:List S->M R}{h k l:G R}(hx:g env=.ok x) (hy:h env=.ok y) (hw:k env=.ok w) (hv:l env=.ok v) (hF:F [fV x,fV y,fV w,fV v]=.ok z):gN (bf 4 F) (ao g (ao h (ao k (ao l aF)))) env=.ok (nM z):=by show (ao g (ao h (ao k (ao l aF))) env >>= _)=_;unfold ao aF;rw [hx,hy,hw,hv];show (match F [fV x,fV y,fV w,fV v] with | .ok r=>M.ok (nM r) | _=>M.bad)=_;rw [hF]
theorem El (h:g env=.ok r) (k:Wp (u env) Q):Wp (aK (yC g) u env) Q:=cP ⟨.nx env,by show (g env >>= _)=_;rw [h];rfl,k⟩
theorem F_ {n:Nat}{cap:List Nat}{gi:G (List D)}{tg:GT}{ge:G R}{gts:G Bool}{α:Type}{xs:List α}{h:α->D}(o:α->Ev) (p:α->Bool) (f:α->D) (hi:gi env=.ok (xs.map h)) (hl:xs.length<=1000000)
  (ho:∀x,(o x).length=n) (ht:∀x (e:Ev),e.length=n->tg (h x) (e++cE 0 cap env)=.ok (o x++cE 0 cap env))
  (hb:∀x∈xs,gts (o x++cE 0 cap env)=.ok (p x)/\(p x=true->∃r,ge (o x++cE 0 cap env)=.ok r/\toD r=.ok (f x))):cK n cap gi tg gts ge env=.ok (.l .fresh ((xs.filter p).map f)):=by
 have key:∀(es:List α) (x:Ev),x.length=n->(∀d∈es,d∈xs)->d7 tg gts ge (es.map h) (x++cE 0 cap env)=.ok ((es.filter p).map f):=by
  intro es
  induction es with
  | nil=>exact λ_ _ _=>rfl
  | cons d es ih=>
   intro x hx hm;obtain ⟨h0,h1⟩:=hb d (hm d Nd);have ih:=ih (o d) (ho d) λe he=>hm e (Na _ he);rw [Nz];unfold d7;rw [ht d x hx,aS,h0,aS];cases q:p d with
   | true=>
    obtain ⟨r,h1,h2⟩:=h1 q;rw [if_pos rfl,h1,aS,h2,aS,ih,TY q];rfl
   | false=>
    rw [if_neg (by decide),TZ (by simp [q])];exact ih
 unfold cK;rw [hi,aS,if_pos (by rw [OG,M7];omega)];show (d7 tg gts ge _ (Ot n none++cE 0 cap env) >>= _)=_;rw [key xs _ O_ λ_ h=>h];rfl
theorem yf {α:Type}(xs:List α):xs.filter (λ_=>true)=xs:=U6.mpr λ_ _=>rfl
theorem tG {gi:G (List D)}{ge:G R}{gts:G Bool}{α:Type}{xs:List α}{h:α->D}(p:α->Bool) (f:α->D) (hi:gi env=.ok (xs.map h)) (hl:xs.length<=1000000)
 (hb:∀x∈xs,gts (some (.d (h x))::cE 0 cap env)=.ok (p x)/\(p x=true->∃r,ge (some (.d (h x))::cE 0 cap env)=.ok r/\toD r=.ok (f x))):cK 1 cap gi (aE 0) gts ge env=.ok (.l .fresh ((xs.filter p).map f)):=
 F_ (λx=>[some (.d (h x))]) p f hi hl (λ_=>rfl) (λ_ e he=>match e,he with | [_],_=>rfl) hb
theorem BO {gi:G (List D)}{ge:G R}{α:Type}{xs:List α}{h:α->D}(f:α->D) (hi:gi env=.ok (xs.map h)) (hl:xs.length<=1000000)
 (hb:∀x∈xs,∃r,ge (some (.d (h x))::cE 0 cap env)=.ok r/\toD r=.ok (f x)):cK 1 cap gi (aE 0) fH ge env=.ok (.l .fresh (xs.map f)):=by
 have:=tG (gts:=fH) (λ_=>true) f hi hl λx hx=>⟨rfl,λ_=>hb x hx⟩
 rwa [yf] at this
theorem Gb {cap:List Nat}{gi:G (List D)}{ge:G R}{gts:G Bool}{α:Type}{xs:List α}(a b:α->D) (p:α->Bool) (f:α->D) (hi:gi env=.ok (xs.map λx=>.tup [a x,b x])) (hl:xs.length<=1000)
  (h:∀x∈xs,gts (some (.d (a x))::some (.d (b x))::cE 0 cap env)=.ok (p x)/\(p x=true->∃r,ge (some (.d (a x))::some (.d (b x))::cE 0 cap env)=.ok r/\toD r=.ok (f x))):cK 2 cap gi (cV 2 (aW (aE 0) (aW (aE 1) cX))) gts ge env=.ok (.l .fresh ((xs.filter p).map f)):=
 F_ (λx=>[some (.d (a x)),some (.d (b x))]) p f hi (by omega) (λ_=>rfl) (λ_ e he=>match e,he with | [_,_],_=>rfl) h
theorem kI {gi:G (List D)}{ge:G R}{α:Type}{xs:List α}(a b:α->D) (f:α->D) (hi:gi env=.ok (xs.map λx=>.tup [a x,b x])) (hl:xs.length<=1000)
 (h:∀x∈xs,∃r,ge (some (.d (a x))::some (.d (b x))::cE 0 cap env)=.ok r/\toD r=.ok (f x)):cK 2 cap gi (cV 2 (aW (aE 0) (aW (aE 1) cX))) fH ge env=.ok (.l .fresh (xs.map f)):=by
 have:=Gb (gts:=fH) a b (λ_=>true) f hi hl λx hx=>⟨rfl,λ_=>h x hx⟩
 rwa [yf] at this
theorem CO (n:Nat):dF 0 n=(Ng n).map dN:=by simp [dF]
theorem qU {gs:G (List R)}{n:Nat}(hg:gs env=.ok [.d (.int (n:Int))]) (h:n<=1000):dO gs env=.ok ((Ng n).map dN):=by rw [mO hg h,CO]
theorem jB (h:g env=.ok x):ao g aF env=.ok [x]:=by show (g env >>= _)=_;rw [h];rfl
theorem bC:aX env=.ok []:=rfl
theorem aI {gs:G (List D)}(h:g env=.ok r) (h2:toD r=.ok d) (k:gs env=.ok ds):aA g gs env=.ok (d::ds):=by show (g env >>= _)=_;rw [h,aS,h2,aS,k];rfl
theorem bD {gs:G (List D)}{ds:List D}(h:gs env=.ok ds) (hl:ds.length<=1000):bJ gs env=.ok (.d (.tup ds)):=by show (gs env >>= _)=_;rw [h,aS,if_pos (gq hl)]
theorem u_ {gs:G (List D)}{ds:List D}(h:gs env=.ok ds) (hl:ds.length<=1000):gn gs env=.ok (.l .fresh ds):=by show (gs env >>= _)=_;rw [h,aS,if_pos (gq hl)]
theorem j_ {α:Type}{xs:List α}{h:α->D}(f:R) (hf:gW f=.ok (xs.map h)) (i:Int) (h0:0<=i) (hi:i < xs.length):∃x∈xs,bg f (.d (.int i))=.ok (.d (h x)):=by
 obtain ⟨k,rfl⟩:=RQ h0;have hk:k < xs.length:=by omega
 refine ⟨xs[k],O7 hk,?_⟩;have h1:(xs.map h)[k]?=some (h xs[k]):=by rw [Nx,Nc hk];rfl
 cases f with
 | d x=>
  cases x with
  | tup ys=>cases hf;exact iY h1
  | lst ys=>cases hf;unfold bg;simp only [gW,aS,iV h1]
  | _=>cases hf
 | l m x=>cases hf;exact tH h1
 | mo _ _=>cases hf
 | mb _ _=>cases hf
 | mf _ _=>cases hf
 | ln _=>cases hf
theorem Jg (h:env[i]?=some (some (.own xs))) (k:Wp (t (env.set i (some (.d (.lst xs))))) Q):Wp (qI i t env) Q:=by
 have:qI i t env=t (env.set i (some (.d (.lst xs)))):=by unfold qI;rw [h]
 rw [this];exact k
theorem Ik (h:g env=.ok r) (h2:toD r=.ok d) (h3:tg d env=.ok e) (k:Q (.nx e)):Wp (jP tg g env) Q:=⟨_,by show (g env >>= _)=_;rw [h,aS,h2,aS,h3];rfl,k⟩
theorem qe (h:g env=.ok r) (h2:toD r=.ok d) (h3:tg d env=.ok e) (k:Wp (u e) Q):Wp (aK (jP tg g) u env) Q:=cP (Ik h h2 h3 k)
theorem kQ (neg:Bool) (x:D) (ys:List D) (h:deps ys<=60) (hx:dep x<=60):iJ neg (.d x) (.d (.tup ys))=.ok (.d (.bl (if neg then !inD x ys else inD x ys))):=by show (if deps ys<=60/\dep x<=60 then M.ok (R.d (.bl (if neg then !inD x ys else inD x ys))) else M.bad)=_;rw [if_pos ⟨h,hx⟩]
theorem ni (neg:Bool) (x y:R) (h:dep x.dat<=60) (hx:dep y.dat<=60):cG neg x y=.ok (.d (.bl (if neg then !aV x.dat y.dat else aV x.dat y.dat))):=by unfold cG;rw [if_pos ⟨h,hx⟩]
theorem fc:∀{xs:List D},(∀x∈xs,dep x<=n)->deps xs<=n
 | [],_=>Ny _
 | x::xs,h=>by have h1:=h x Nd;have h2:=fc (xs:=xs) λy hy=>h y (Na _ hy);simp only [deps];omega
theorem uD (xs:List Nat):deps (xs.map dN)<=60:=fc λx hx=>by obtain ⟨k,_,rfl⟩:=M9.mp hx;exact Ny _
theorem lW (xs:List (Nat×Nat)):deps (xs.map dP)<=60:=fc λx hx=>by obtain ⟨k,_,rfl⟩:=M9.mp hx;exact (by decide:(1:Nat)<=60)
end
end WP
namespace K51
open PySem DL K01 WP
noncomputable def bO (ns:List Int) (k:Nat):Int:=(ns.map λx=>x % 10 ^ 64).getD k 0
theorem g_ (ns:List Int) (k:Nat):0<=bO ns k:=by
 unfold bO;rw [N_,Nx];cases ns[k]? with
 | none=>exact Int.le_refl _
 | some x=>exact Qm _ (by decide)
theorem zu (ns:List Int) (k:Nat):bx [.bor (ns.map D.int),.d (.int k)]=.ok (.d (.int (bO ns k))):=by
 refine fZ (cP (qL (c:=decide ((k:Int) < ((ns.map D.int).length:Nat))) rfl (λh=>?_) λh=>?_))
 ·have h:k < ns.length:=by simpa using h
  have e:(ns.map D.int)[k]?=some (.int ns[k]):=by rw [Nx,Nc h];rfl
  refine bZ (two (two rfl rfl (tH e)) rfl (dz _ _ (by decide))) rfl ?_;unfold bO;rw [N_,Nx,Nc h];rfl
 ·have h:ns.length<=k:=by simpa using h
  refine mD (bZ rfl rfl ?_);unfold bO;rw [N_,Nx,List.getElem?_eq_none (by omega)];rfl
theorem Fo (b n:Nat):(gu ⟨#[b]⟩ n).length=n:=by rw [EG,Ei,O_]
theorem wF (c:Int) (hc:0<=c) (m:Nat) (hm:m<=3):∃ss:List Str,eX [.d (.int c),.d (.int m)]=.ok (.l .fresh (ss.map .str))/\ss.length=m:=by
 have key:Wp (eX [.d (.int c),.d (.int m)]) λr=>∃ss:List Str,r=.l .fresh (ss.map .str)/\ss.length=m:=by
  refine jK (bh rfl rfl (bh (two rfl rfl (Aw (c / 3 % 26) (by omega) (by omega))) rfl ?_));generalize 97 + (c / 3 % 26).toNat=b;refine bh (two rfl rfl (DV _ (1 + c / 78 % 7) (by omega) (by omega) (show 1<=1000 by decide))) rfl ?_;have hst:(gu ⟨#[b]⟩ (1 + c / 78 % 7).toNat).length<=8:=by rw [Fo];omega
  generalize gu ⟨#[b]⟩ (1 + c / 78 % 7).toNat=stem at hst;refine bh rfl rfl (jG (mO (n:=m) rfl (by omega)) ?_);refine ly (n:=m) (λk env=>∃(ss:List Str) (x y z:Option S),env=[some (.d (.int c)),some (.d (.int m)),some (.d (.str "abcdefghijklmnopqrstuvwxyz")),some (.d (.str ⟨#[b]⟩)),some (.d (.str stem)),some (.own (ss.map .str)),x,y,z]/\ss.length=k) ⟨[],none,none,none,rfl,rfl⟩ ?_ ?_
  ·rintro k hk _ ⟨ss,x,y,z,rfl,hl⟩;refine ⟨_,rfl,?_⟩;refine bh (two rfl rfl (Aw ((c / 546 + 9 * k) % 26) (by omega) (by omega))) rfl ?_;generalize 97 + ((c / 546 + 9 * k) % 26).toNat=o;obtain ⟨nm,hnm⟩:∃nm:Str,g2 bg (gn (aA (g2 c7 (af 4) (af 7)) (aA (g2 c7 (af 7) (af 4)) (aA (g2 fE (af 3) (g2 c7 (af 6) (gC (.int 2)))) aX)))) (g2 cM (af 0) (gC (.int 3))) [some (.d (.int c)),some (.d (.int m)),some (.d (.str "abcdefghijklmnopqrstuvwxyz")),some (.d (.str ⟨#[b]⟩)),some (.d (.str stem)),some (.own (ss.map .str)),some (.d (.int k)),some (.d (.str ⟨#[o]⟩)),z]=.ok (.d (.str nm)):=by
    have h1:=DW stem ⟨#[o]⟩ (by show _ + 1<=1000;omega);have h2:=DW ⟨#[o]⟩ stem (by show 1 + _<=1000;omega);have h3:=DV ⟨#[b]⟩ (k + 2) (by omega) (by omega) (show 1<=1000 by decide);have hg:gn (aA (g2 c7 (af 4) (af 7)) (aA (g2 c7 (af 7) (af 4)) (aA (g2 fE (af 3) (g2 c7 (af 6) (gC (.int 2)))) aX))) [some (.d (.int c)),some (.d (.int m)),some (.d (.str "abcdefghijklmnopqrstuvwxyz")),some (.d (.str ⟨#[b]⟩)),some (.d (.str stem)),some (.own (ss.map .str)),some (.d (.int k)),some (.d (.str ⟨#[o]⟩)),z]=.ok (.l .fresh [.str (stem++⟨#[o]⟩),.str (⟨#[o]⟩++stem),.str (gu ⟨#[b]⟩ ((k:Int) + 2).toNat)]):=by
     have l3:(3:Nat)<=sizeLine:=by decide
     simp only [gn,aA,aX,g2,af,gC,S.rd,List.getElem?_cons_zero,List.getElem?_cons_succ,aS,h1,h2,qp,h3,toD,OP,Wv,l3,if_true]
    have hcs:c % 3=0\/c % 3=1\/c % 3=2:=by omega
    rcases hcs with h | h | h
    ·exact ⟨_,two hg (dz c 3 (by decide)) (by rw [h];rfl)⟩
    ·exact ⟨_,two hg (dz c 3 (by decide)) (by rw [h];rfl)⟩
    ·exact ⟨_,two hg (dz c 3 (by decide)) (by rw [h];rfl)⟩
   refine bh hnm rfl (cP (qL (c:=aV (.str nm) (.str "or")) rfl (λh=>fQ rfl rfl ?_) λh=>mD ?_))
   ·exact nq rfl rfl rfl (by rw [M7];omega) ⟨_,rfl,ss++[("orx":Str)],_,_,_,by rw [NW];rfl,by rw [NG,hl];rfl⟩
   ·exact nq rfl rfl rfl (by rw [M7];omega) ⟨_,rfl,ss++[nm],_,_,_,by rw [NW];rfl,by rw [NG,hl];rfl⟩
  ·rintro _ ⟨ss,x,y,z,rfl,hl⟩;refine bZ (n1 rfl (sorted_strs _ _ (by omega))) rfl ⟨_,rfl,_,rfl,?_⟩;unfold nA;simp [hl]
 obtain ⟨_,h,ss,rfl,hl⟩:=key;exact ⟨ss,h,hl⟩
theorem zq (c:Int) (m:Nat) (hm:m<=64):∃bs:List Bool,fO [.d (.int c),.d (.int m)]=.ok (.l .fresh (bs.map .bl))/\bs.length=m:=by
 have key:Wp (fO [.d (.int c),.d (.int m)]) λr=>∃bs:List Bool,r=.l .fresh (bs.map .bl)/\bs.length=m:=by
  refine jK (bh rfl rfl (jG (mO (n:=m) rfl (by omega)) ?_));refine ly (n:=m) (λk env=>∃(bs:List Bool) (c:Int) (x:Option S),env=[some (.d (.int c)),some (.d (.int m)),some (.own (bs.map .bl)),x]/\bs.length=k) ⟨[],c,none,rfl,rfl⟩ ?_ ?_
  ·rintro k hk _ ⟨bs,c,x,rfl,hl⟩;refine ⟨_,rfl,IL rfl rfl rfl (by rw [M7];omega) (fQ rfl rfl ⟨_,rfl,bs++[c % 2 == 1],c / 2,_,by rw [NW];rfl,by rw [NG,hl];rfl⟩)⟩
  ·rintro _ ⟨ss,x,y,rfl,hl⟩;exact bZ rfl rfl ⟨_,rfl,_,rfl,hl⟩
 obtain ⟨_,h,ss,rfl,hl⟩:=key;exact ⟨ss,h,hl⟩
theorem Hj (bs:List Bool) (m:Nat) (hm:m<=8):tF m ((Ng m).filter λp=>bs.getD p false):=by
 refine ⟨?_,US _ QY,λx hx=>?_⟩
 ·exact N8 (Sm _ _) (by simpa using hm)
 ·simpa using (Q3.mp hx).1
theorem G9 (bs:List Bool) (m:Nat) (h1:1<=m) (hm:m<=8):tE m (((Ng (m * m)).filter λp=>bs.getD p false).map λp=>(p / m,p % m)):=by
 have Ln:m * m<=64:=Sh hm hm;refine ⟨?_,?_,λx hx=>?_⟩
 ·rw [M7];refine N8 (Sm _ _) (by simpa using Ln)
 ·rw [OB];refine Sa ?_ (US _ QY);intro p q hpq;have e1:=Ww p m;have e2:=Ww q m;have h3:p / m<=q / m:=Nat.div_le_div_right (by omega);by_cases h:p / m < q / m
  ·exact .inl h
  ·have e:p / m=q / m:=by omega
   refine .inr ⟨e,?_⟩;rw [e] at e1;show p % m < q % m;omega
 ·obtain ⟨p,hp,rfl⟩:=M9.mp hx;have:p < m * m:=by simpa using (Q3.mp hp).1
  exact ⟨Nat.div_lt_of_lt_mul this,Tw _ (by omega)⟩
theorem KA (bs:List Bool) (m k:Nat) (hl:bs.length=m) (hk:k < m):bg (.l .bor (bs.map D.bl)) (.d (.int k))=.ok (.d (.bl (bs.getD k false))):=by refine tH ?_;rw [Nx,Nc (by omega),N_,Nc (by omega)];rfl
theorem wU (bs:List Bool) (m k:Nat) (hl:bs.length=m) (hk:k < m):bg (.l .own (bs.map D.bl)) (.d (.int k))=.ok (.d (.bl (bs.getD k false))):=by refine tH ?_;rw [Nx,Nc (by omega),N_,Nc (by omega)];rfl
theorem FT (m:Nat) (h1:1<=m) (hm:m<=8) (A B:List Str) (hA:A.length<=3) (hB:B.length<=3) (cs:List Int) (hc:cs.length=6):
  ∃ms rs,dW [.d (.tup [.lst (A.map .str),.lst (B.map .str)]),.d (.int m),.bor (cs.map .int)]=.ok (.d (Wd.d ⟨m,ms,rs⟩))/\ms.map OT=A/\rs.map OT=B/\(∀r∈ms,tF m r.2)/\∀r∈rs,tE m r.2:=by
 have key:Wp (dW [.d (.tup [.lst (A.map .str),.lst (B.map .str)]),.d (.int m),.bor (cs.map .int)]) λr=>∃ms rs,r=.d (Wd.d ⟨m,ms,rs⟩)/\ms.map OT=A/\rs.map OT=B/\(∀r∈ms,tF m r.2)/\∀r∈rs,tE m r.2:=by
  have Ln:m * m<=64:=Sh hm hm;have tm:fE (.d (.int m)) (.d (.int m))=.ok (.d (.int ((m * m:Nat):Int))):=by rw [Fz _ _ (by omega) (by omega)];simp
  refine jK (bh rfl rfl (jG (mO (n:=(A.map D.str).length) rfl (by rw [M7];omega)) ?_));refine ly (n:=(A.map D.str).length) (λk env=>∃(ms:List (Str×List Nat)) (x y:Option S),env=[some (.d (.tup [.lst (A.map .str),.lst (B.map .str)])),some (.d (.int m)),some (.bor (cs.map .int)),some (.own (ms.map fM)),x,y,none]/\ms.map OT=A.take k/\∀r∈ms,tF m r.2) ⟨[],none,none,rfl,rfl,λ_ h=>by cases h⟩ ?_ ?_
  ·rintro k hk _ ⟨ms,x,y,rfl,hf,hp⟩;rw [M7] at hk;refine ⟨_,rfl,?_⟩;obtain ⟨c,_,hcc⟩:=j_ (xs:=cs) (h:=D.int) (.l .bor (cs.map .int)) rfl k (by omega) (by omega);obtain ⟨bs,hb,LU⟩:=zq c m (by omega);have hlen:ms.length<=3:=by have:=congrArg Q5 hf;rw [M7,N7] at this;omega
   refine bh (c2 (two rfl rfl hcc) rfl hb) rfl ?_;refine nq rfl (bD (aI (two rfl rfl (show bg (.d (.lst (A.map D.str))) _=.ok (.d (.str A[k])) from ?_)) rfl (aI (n1 (tG (xs:=Ng m) (h:=dN) (λp=>bs.getD p false) dN (qU rfl (by omega)) (by simp;omega) ?_) rfl) rfl bC)) (by show 2<=1000;decide)) rfl (by rw [M7];omega) ?_
   ·show bg (.d (.lst (A.map D.str))) (.d (.int k))=_;unfold bg;have:(A.map D.str)[k]?=some (.str A[k]):=by rw [Nx,Nc hk];rfl
    simp only [gW,aS,iV this]
   ·intro p hp';have hp':p < m:=by simpa using hp'
    have hb:=wU bs m p LU hp';refine ⟨?_,λ_=>⟨_,rfl,rfl⟩⟩;show (g2 bg (af 1) (af 0) [some (.d (dN p)),some (.own (bs.map D.bl))] >>= vP)=_;rw [two (x:=.l .own (bs.map D.bl)) (y:=.d (dN p)) rfl rfl hb];rfl
   ·refine ⟨_,rfl,ms++[(A[k],(Ng m).filter λp=>bs.getD p false)],_,_,by rw [NW];rfl,?_,λr hr=>?_⟩
    ·rw [NW,hf,U0,Nc hk];rfl
    ·rw [NV,NH] at hr;rcases hr with h | h
     ·exact hp r h
     ·rw [h];exact Hj bs m hm
  ·rintro _ ⟨ms,x,y,rfl,hf,hp⟩;refine bh rfl rfl (jG (mO (n:=(B.map D.str).length) rfl (by rw [M7];omega)) ?_);refine ly (n:=(B.map D.str).length) (λk env=>∃(rs:List (Str×List (Nat×Nat))) (x y:Option S),env=[some (.d (.tup [.lst (A.map .str),.lst (B.map .str)])),some (.d (.int m)),some (.bor (cs.map .int)),some (.own (ms.map fM)),x,y,some (.own (rs.map gT))]/\rs.map OT=B.take k/\∀r∈rs,tE m r.2) ⟨[],_,_,rfl,rfl,λ_ h=>by cases h⟩ ?_ ?_
   ·rintro k hk _ ⟨rs,x,y,rfl,hf,hp⟩;rw [M7] at hk;refine ⟨_,rfl,?_⟩;obtain ⟨c,_,hcc⟩:=j_ (xs:=cs) (h:=D.int) (.l .bor (cs.map .int)) rfl (3 + k) (by omega) (by omega);obtain ⟨bs,hb,LU⟩:=zq c (m * m) (by omega);have hlen:rs.length<=3:=by have:=congrArg Q5 hf;rw [M7,N7] at this;omega
    refine bh (c2 (two rfl rfl hcc) (two rfl rfl tm) hb) rfl ?_;refine nq rfl (bD (aI (two rfl rfl (show bg (.d (.lst (B.map D.str))) _=.ok (.d (.str B[k])) from ?_)) rfl (aI (n1 (tG (xs:=Ng (m * m)) (h:=dN) (λp=>bs.getD p false) (λp=>dP (p / m,p % m)) (qU (jB (two rfl rfl tm)) (by omega)) (by simp;omega) ?_) rfl) rfl bC)) (by show 2<=1000;decide)) rfl (by rw [M7];omega) ?_
    ·show bg (.d (.lst (B.map D.str))) (.d (.int k))=_;unfold bg;have:(B.map D.str)[k]?=some (.str B[k]):=by rw [Nx,Nc hk];rfl
     simp only [gW,aS,iV this]
    ·intro p hp';have hp':p < m * m:=by simpa using hp'
     have hb:=wU bs (m * m) p LU hp';refine ⟨?_,λ_=>⟨_,bD (aI (two rfl rfl (iw p m (by omega) (by omega))) rfl (aI (two rfl rfl (dz p m (by omega))) rfl bC)) (by show 2<=1000;decide),?_⟩⟩
     ·show (g2 bg (af 1) (af 0) [some (.d (dN p)),some (.own (bs.map D.bl)),some (.d (.int m))] >>= vP)=_;rw [two (x:=.l .own (bs.map D.bl)) (y:=.d (dN p)) rfl rfl hb];rfl
     ·simp [toD,dP]
    ·refine ⟨_,rfl,rs++[(B[k],((Ng (m * m)).filter λp=>bs.getD p false).map λp=>(p / m,p % m))],_,_,by rw [NW,Vw,gT,N4];rfl,?_,λr hr=>?_⟩
     ·rw [NW,hf,U0,Nc hk];rfl
     ·rw [NV,NH] at hr;rcases hr with h | h
      ·exact hp r h
      ·rw [h];exact G9 bs m h1 hm
   ·rintro _ ⟨rs,x,y,rfl,hf2,hp2⟩;rw [M7] at hf hf2;refine bZ (bD (aI rfl rfl (aI rfl rfl (aI rfl rfl bC))) (by show 3<=1000;decide)) rfl ⟨_,rfl,ms,rs,rfl,by rw [hf,V8],by rw [hf2,V8],hp,hp2⟩
 obtain ⟨_,h,ms,rs,rfl,hk⟩:=key;exact ⟨ms,rs,h,hk⟩
theorem dG (ns:List Int) (i:Int) (k:Nat) (h:i=k):bx [.bor (ns.map D.int),.d (.int i)]=.ok (.d (.int (bO ns k))):=by rw [h];exact zu ns k
structure ri (w:Wd):Prop where
 lo:1<=w.m
 hi:w.m<=8
 ml:w.ms.length<=3
 al:w.ar.length<=3
theorem zg (xs ys:List D) (h:xs.length + ys.length<=1000):d8 (.d (.tup xs)) (.d (.tup ys))=.ok (.d (.tup (xs++ys))):=by show (if xs.length + ys.length<=sizeLine then M.ok (R.d (.tup (xs++ys))) else M.bad)=_;rw [if_pos (gq h)]
theorem JJ (l:Nat) (xs:List Nat):iJ false (.d (dN l)) (.d (.tup (xs.map dN)))=.ok (.d (.bl (inD (dN l) (xs.map dN)))):=kQ false _ _ (uD xs) (Ny _)
theorem JK (l:Nat×Nat) (xs:List (Nat×Nat)):iJ false (.d (dP l)) (.d (.tup (xs.map dP)))=.ok (.d (.bl (inD (dP l) (xs.map dP)))):=kQ false _ _ (lW xs) (by show (1:Nat)<=60;decide)
theorem t2:(2:Nat)<=1000:=by decide
end K51
namespace K51
open PySem DL K01 WP
open PySem.W (kas_sort)
theorem mV (ds:List D):(aY ds).length=ds.length:=by
 unfold aY;by_cases h:ds.length < 2
 ·rw [if_pos h]
 ·rw [if_neg h,M7];have:=(gP (n:=ds.length) (by omega)).run (ltB ds);have:=this.size_eq;simpa using this
theorem jH {ds:List D}{x:D}(hx:x∈aY ds):x∈ds:=by
 unfold aY at hx;by_cases h:ds.length < 2
 ·rwa [if_pos h] at hx
 ·rw [if_neg h] at hx;have hp:=(gP (n:=ds.length) (by omega)).run (ltB ds);obtain ⟨i,hi,rfl⟩:=M9.mp hx;have hi:i∈aO (ltB ds) (Rc ds.length):=by simpa using hi
  have:=(Tc hp).mp hi;exact dw (by simpa using this)
end K51
namespace K51
open PySem DL K01 WP
end K51
namespace DL
open PySem PySem.Spec PyProof.Rows L2
open PySem.W (KasT kas_sort kas_asc kas_desc kas_rev kas_tail3 kas_descPart kas_count kas_place kas_bin)
theorem run_bind {α β:Type}(q:Nat->Nat->Bool) (f:α->KasT β):∀t:KasT α,aO q (t.bind f)=aO q (f (aO q t))
 | .ret _=>rfl
 | .ask i j k=>run_bind q f (k (q i j))
theorem CP {n:Nat}{α:Type}{P:α->Prop}{t:KasT α}{q q':Nat->Nat->Bool}(h:d_ n P t) (e:∀i j,i < n->j < n->q i j=q' i j):aO q t=aO q' t:=by
 induction h with
 | ret _=>rfl
 | @ask i j k h1 h2 _ ih=>
  show aO q (k (q i j))=aO q' (k (q' i j));rw [e _ _ h1 h2];exact ih _
structure Ord (q:Nat->Nat->Bool):Prop where
 asy:∀a b,q a b=true->q b a=false
 tra:∀a b c,q b a=false->q c b=false->q c a=false
section
variable {q:Nat->Nat->Bool}{n:Nat}
noncomputable abbrev a_ (p:Array Nat) (k:Nat):Nat:=p.getD k 0
noncomputable def Up (q:Nat->Nat->Bool) (p:Array Nat) (k:Nat):Prop:=∀i j,i<=j->j < k->q (a_ p j) (a_ p i)=false
noncomputable def Down (q:Nat->Nat->Bool) (p:Array Nat) (k:Nat):Prop:=∀i j,i<=j->j < k->q (a_ p i) (a_ p j)=false
theorem Ord.irr (O:Ord q) (a:Nat):q a a=false:=by
 cases h:q a a with
 | false=>rfl
 | true=>rw [<-h];exact (O.asy a a h)
theorem getD_eq (h:p[i]?=p'[j]?):a_ p i=a_ p' j:=by show p.getD i 0=p'.getD j 0;rw [SW,SW,h]
theorem gO {p:Array Nat}(hj:j<=p.size) (k:Nat):a_ (Sv p i j) k=if i<=k/\k < j then a_ p (i + j - 1 - k) else a_ p k:=by
 have e:=U7 (xs:=p) (i:=i) hj k;by_cases c:i<=k/\k < j
 ·rw [if_pos c] at e ⊢;exact getD_eq e
 ·rw [if_neg c] at e ⊢;exact getD_eq e
theorem zI {p:Array Nat}(hs:src < p.size) (hd:d<=src) (k:Nat):a_ (bubble p src d) k=if k=src - d then a_ p src else if src - d < k/\k<=src then a_ p (k - 1) else a_ p k:=by
 have e:=Wx hs d hd k;by_cases c:k=src - d
 ·rw [if_pos c] at e ⊢;exact getD_eq e
 ·rw [if_neg c] at e ⊢;by_cases c':src - d < k/\k<=src
  ·rw [if_pos c'] at e ⊢;exact getD_eq e
  ·rw [if_neg c'] at e ⊢;exact getD_eq e
theorem gw (p:Array Nat) (i j:Nat):(Sv p i j).size=p.size:=mirror_size _ _ _ _
theorem Up.one (O:Ord q) (p:Array Nat):Up q p 1:=λi j h1 h2=>by
 have:i=j:=by omega
 rw [this];exact O.irr _
theorem Up.more (O:Ord q) (h:Up q p k) (h1:1<=k) (e:q (a_ p k) (a_ p (k - 1))=false):Up q p (k + 1):=λi j hi hj=>by
 by_cases c:j < k
 ·exact h i j hi c
 ·have:j=k:=by omega
  subst this;by_cases c':i=j
  ·rw [c'];exact O.irr _
  ·exact O.tra _ _ _ (h i (j - 1) (by omega) (by omega)) e
theorem Down.more (O:Ord q) (h:Down q p k) (h1:1<=k) (e:q (a_ p (k - 1)) (a_ p k)=false):Down q p (k + 1):=λi j hi hj=>by
 by_cases c:j < k
 ·exact h i j hi c
 ·have:j=k:=by omega
  subst this;by_cases c':i=j
  ·rw [c'];exact O.irr _
  ·exact O.tra _ _ _ e (h i (j - 1) (by omega) (by omega))
theorem ue (O:Ord q) (p:Array Nat):∀(f m:Nat),1<=m->Up q p m->m<=aO q (Sw p f m)/\aO q (Sw p f m)<=m + f/\Up q p (aO q (Sw p f m))/\(aO q (Sw p f m)=m + f\/q (a_ p (aO q (Sw p f m))) (a_ p (aO q (Sw p f m) - 1))=true)
 | 0,m,h1,h=>⟨Nb _,Nb _,h,.inl rfl⟩
 | f + 1,m,h1,h=>by
  have e:aO q (Sw p (f + 1) m)=if q (a_ p m) (a_ p (m - 1))=true then m else aO q (Sw p f (m + 1)):=by
   show aO q (if q (a_ p m) (a_ p (m - 1))=true then KasT.ret m else Sw p f (m + 1))=_;by_cases c:q (a_ p m) (a_ p (m - 1))=true
   ·rw [if_pos c,if_pos c];rfl
   ·rw [if_neg c,if_neg c]
  rw [e];by_cases c:q (a_ p m) (a_ p (m - 1))=true
  ·rw [if_pos c];exact ⟨Nb _,by omega,h,.inr c⟩
  ·rw [if_neg c];obtain ⟨a1,a2,a3,a4⟩:=ue O p f (m + 1) (by omega) (h.more O h1 (by simpa using c));refine ⟨by omega,by omega,a3,?_⟩;rcases a4 with a4 | a4
   ·exact .inl (by omega)
   ·exact .inr a4
noncomputable def Alike (q:Nat->Nat->Bool) (p:Array Nat) (i j:Nat):Prop:=∀a b,i<=a->a < j->i<=b->b < j->q (a_ p a) (a_ p b)=false
theorem sf {p:Array Nat}{i j k:Nat}(hj:j<=p.size) (ha:Alike q p i j) (hd:Down q p j) (O:Ord q):Down q (Sv p i j) j:=λa b h1 h2=>by
 rw [gO hj,gO hj];by_cases c:i<=a/\a < j
 ·rw [if_pos c];by_cases c':i<=b/\b < j
  ·rw [if_pos c'];exact ha _ _ (by omega) (by omega) (by omega) (by omega)
  ·omega
 ·rw [if_neg c];by_cases c':i<=b/\b < j
  ·rw [if_pos c'];exact hd _ _ (by omega) (by omega)
  ·rw [if_neg c'];exact hd _ _ h1 h2
theorem HB {p:Array Nat}(hj:j<=p.size) (hd:Down q p j):Up q (Sv p 0 j) j:=λa b h1 h2=>by rw [gO hj,gO hj,if_pos (by omega),if_pos (by omega)];exact hd _ _ (by omega) (by omega)
theorem qb {p:Array Nat}(hj:j<=p.size) (h:j<=k):a_ (Sv p i j) k=a_ p k:=by rw [gO hj,if_neg (by omega)]
theorem jy (O:Ord q):∀(f:Nat) (p:Array Nat) (m e:Nat),1<=m->e + 1<=m->m + f<=p.size->Down q p m->Alike q p (m - (e + 1)) m->
  (aO q (Qe f p m e)).1.size=p.size/\m<=(aO q (Qe f p m e)).2.1/\(aO q (Qe f p m e)).2.1<=m + f/\(aO q (Qe f p m e)).2.2 + 1<=(aO q (Qe f p m e)).2.1/\
  Down q (aO q (Qe f p m e)).1 (aO q (Qe f p m e)).2.1/\Alike q (aO q (Qe f p m e)).1 ((aO q (Qe f p m e)).2.1 - ((aO q (Qe f p m e)).2.2 + 1)) (aO q (Qe f p m e)).2.1
 | 0,p,m,e,h1,h2,h3,h4,h5=>⟨rfl,Nb _,Nb _,h2,h4,h5⟩
 | f + 1,p,m,e,h1,h2,h3,h4,h5=>by
  have solo:∀(p:Array Nat) (m:Nat),Alike q p (m + 1 - (0 + 1)) (m + 1):=λp m a b c1 c2 c3 c4=>by
   have:a=b:=by omega
   rw [this];exact O.irr _
  cases c:q (a_ p m) (a_ p (m - 1)) with
  | true=>
   have c2:=O.asy _ _ c;by_cases he:e > 0
   ·have er:aO q (Qe (f + 1) p m e)=aO q (Qe f (Sv p (m - (e + 1)) m) (m + 1) 0):=by show aO q (if q (a_ p m) (a_ p (m - 1))=true then _ else _)=_;rw [if_pos c,if_pos he]
    rw [er];have hr:=sf (k:=0) (i:=m - (e + 1)) (by omega:m<=p.size) h5 h4 O;have hl:a_ (Sv p (m - (e + 1)) m) (m - 1)=a_ p (m - (e + 1)):=by rw [gO (by omega),if_pos (by omega)];congr 1;omega
    obtain ⟨a0,a1,a2,a3,a4,a5⟩:=jy O f (Sv p (m - (e + 1)) m) (m + 1) 0 (by omega) (by omega) (by rw [gw];omega)
     (hr.more O h1 (by
      rw [hl,qb (by omega) (Nb _)];exact O.tra _ _ _ c2 (h5 _ _ (by omega) (by omega) (by omega) (by omega)))) (solo _ _)
    rw [gw] at a0;exact ⟨a0,by omega,by omega,a3,a4,a5⟩
   ·have er:aO q (Qe (f + 1) p m e)=aO q (Qe f p (m + 1) 0):=by show aO q (if q (a_ p m) (a_ p (m - 1))=true then _ else _)=_;rw [if_pos c,if_neg he]
    rw [er];obtain ⟨a0,a1,a2,a3,a4,a5⟩:=jy O f p (m + 1) 0 (by omega) (by omega) (by omega) (h4.more O h1 c2) (solo _ _);exact ⟨a0,by omega,by omega,a3,a4,a5⟩
  | false=>
   cases c2:q (a_ p (m - 1)) (a_ p m) with
   | true=>
    have er:aO q (Qe (f + 1) p m e)=(p,m,e):=by show aO q (if q (a_ p m) (a_ p (m - 1))=true then _ else _)=_;rw [if_neg (by rw [c];decide)];show aO q (if q (a_ p (m - 1)) (a_ p m)=true then _ else _)=_;rw [if_pos c2];rfl
    rw [er];exact ⟨rfl,Nb _,Pw _ _,h2,h4,h5⟩
   | false=>
    have er:aO q (Qe (f + 1) p m e)=aO q (Qe f p (m + 1) (e + 1)):=by show aO q (if q (a_ p m) (a_ p (m - 1))=true then _ else _)=_;rw [if_neg (by rw [c];decide)];show aO q (if q (a_ p (m - 1)) (a_ p m)=true then _ else _)=_;rw [if_neg (by rw [c2];decide)]
    rw [er];have hal:Alike q p (m + 1 - (e + 1 + 1)) (m + 1):=λa b d1 d2 d3 d4=>by
     by_cases ea:a=m
     ·subst ea;by_cases eb:b=a
      ·rw [eb];exact O.irr _
      ·exact O.tra _ _ _ (h5 (a - 1) b (by omega) (by omega) (by omega) (by omega)) c
     ·by_cases eb:b=m
      ·subst eb;exact O.tra _ _ _ c2 (h5 a (b - 1) (by omega) (by omega) (by omega) (by omega))
      ·exact h5 a b (by omega) (by omega) (by omega) (by omega)
    obtain ⟨a0,a1,a2,a3,a4,a5⟩:=jy O f p (m + 1) (e + 1) (by omega) (by omega) (by omega) (h4.more O h1 c2) hal;exact ⟨a0,by omega,by omega,a3,a4,a5⟩
noncomputable def Got (q:Nat->Nat->Bool) (N s:Nat) (r:Nat×Array Nat):Prop:=r.2.size=s/\1<=r.1/\r.1<=N/\Up q r.2 r.1
theorem xP (O:Ord q){p:Array Nat}(h1:1<=m) (hm:m<=N) (hN:N<=p.size) (hd:Down q p m):Got q N p.size (aO q (XN m N p)):=by unfold XN;rw [run_bind];obtain ⟨a1,a2,a3,_⟩:=ue O (Sv p 0 m) (N - m) m h1 (HB (by omega) hd);exact ⟨gw _ _ _,by show 1<=aO q (Sw _ _ _);omega,by show aO q (Sw _ _ _)<=N;omega,a3⟩
theorem xD (O:Ord q){p:Array Nat}(h1:1<=m) (hm:m + 1<=N) (hN:N<=p.size) (hd:Down q p (m + 1)):Got q N p.size (aO q (VX m N p)):=by
 unfold VX;rw [run_bind];obtain ⟨a0,a1,a2,a3,a4,a5⟩:=jy O (N - (m + 1)) p (m + 1) 0 (by omega) (by omega) (by omega) hd (λa b c1 c2 c3 c4=>by
  have:a=b:=by omega
  rw [this];exact O.irr _)
 generalize aO q (Qe (N - (m + 1)) p (m + 1) 0)=r at *;obtain ⟨p',m',e'⟩:=r;simp only at *;by_cases c:e' > 0
 ·rw [if_pos c];have:=xP (N:=N) O (p:=Sv p' (m' - (e' + 1)) m') (m:=m') (by omega) (by omega) (by rw [gw];omega) (sf (k:=0) (by omega) a5 a4 O);rw [gw,a0] at this;exact this
 ·rw [if_neg c];have:=xP (N:=N) O (p:=p') (m:=m') (by omega) (by omega) (by omega) a4;rw [a0] at this;exact this
theorem BP (O:Ord q){p:Array Nat}(h1:1<=N) (hN:N<=p.size):Got q N p.size (aO q (Wr N p)):=by
 unfold Wr;rw [run_bind];obtain ⟨a1,a2,a3,a4⟩:=ue O p (N - 1) 1 (Nb _) (Up.one O p);generalize aO q (Sw p (N - 1) 1)=m at *;by_cases c:(m == N)=true
 ·rw [if_pos c];exact ⟨rfl,a1,by show m<=N;omega,a3⟩
 ·rw [if_neg c];have hm:m + 1<=N:=by
   have:m≠N:=by simpa using c
   omega
  have a4:q (a_ p m) (a_ p (m - 1))=true:=by
   rcases a4 with h | h
   ·omega
   ·exact h
  have a5:=O.asy _ _ a4;by_cases c':m > 1
  ·rw [if_pos c'];show Got q N p.size (aO q (if q (a_ p 0) (a_ p (m - 1))=true then _ else _));by_cases d:q (a_ p 0) (a_ p (m - 1))=true
   ·rw [if_pos d];exact ⟨rfl,a1,by show m<=N;omega,a3⟩
   ·rw [if_neg d];have d:q (a_ p 0) (a_ p (m - 1))=false:=by simpa using d
    have all:∀a b,a < m->b < m->q (a_ p a) (a_ p b)=false:=λa b ha hb=>O.tra _ _ _ (O.tra _ _ _ (a3 b (m - 1) (by omega) (by omega)) d) (a3 0 a (by omega) (by omega));have hd:Down q (Sv p 0 m) m:=λa b h1 h2=>by rw [gO (by omega),gO (by omega),if_pos (by omega),if_pos (by omega)];exact all _ _ (by omega) (by omega)
    have:=xD O (p:=Sv p 0 m) (m:=m) (N:=N) (by omega) hm (by rw [gw];exact hN) (hd.more O (by omega) (by
     rw [qb (by omega) (Nb _),gO (by omega),if_pos (by omega),show 0 + m - 1 - (m - 1)=0 by omega];exact O.tra _ _ _ a5 d))
    rw [gw] at this;exact this
  ·rw [if_neg c'];have:m=1:=by omega
   subst this;refine xD O (Nb _) hm hN ?_;exact Down.more O (λi j h1 h2=>by
    have:i=j:=by omega
    rw [this];exact O.irr _) (Nb _) a5
theorem oM (O:Ord q) (hs:Up q p k):∀(f l r:Nat),l<=r->r<=k->r - l<=f->(∀i,i < l->q (a_ p k) (a_ p i)=false)->(∀i,r<=i->i < k->q (a_ p k) (a_ p i)=true)->
  aO q (Qy p k f l r)<=k/\(∀i,i < aO q (Qy p k f l r)->q (a_ p k) (a_ p i)=false)/\∀i,aO q (Qy p k f l r)<=i->i < k->q (a_ p k) (a_ p i)=true
 | 0,l,r,h1,h2,h3,h4,h5=>⟨by show l<=k;omega,h4,λi hi=>h5 i (by show r<=i;have:l<=i:=hi;omega)⟩
 | f + 1,l,r,h1,h2,h3,h4,h5=>by
  by_cases c:l ≥ r
  ·have e:aO q (Qy p k (f + 1) l r)=l:=by unfold Qy;rw [if_pos c];rfl
   rw [e];exact ⟨by omega,h4,λi hi=>h5 i (by omega)⟩
  ·cases d:q (a_ p k) (a_ p ((l + r) / 2)) with
   | true=>
    have e:aO q (Qy p k (f + 1) l r)=aO q (Qy p k f l ((l + r) / 2)):=by rw [Qy,if_neg c];show aO q (if q (a_ p k) (a_ p ((l + r) / 2))=true then _ else _)=_;rw [if_pos d]
    rw [e];refine oM O hs f l ((l + r) / 2) (by omega) (by omega) (by omega) h4 λi i1 i2=>?_;by_cases ci:r<=i
    ·exact h5 i ci i2
    ·cases dd:q (a_ p k) (a_ p i) with
     | true=>rfl
     | false=>
      have:=O.tra _ _ _ (hs ((l + r) / 2) i i1 i2) dd;rw [d] at this;cases this
   | false=>
    have e:aO q (Qy p k (f + 1) l r)=aO q (Qy p k f ((l + r) / 2 + 1) r):=by rw [Qy,if_neg c];show aO q (if q (a_ p k) (a_ p ((l + r) / 2))=true then _ else _)=_;rw [if_neg (by rw [d];decide)]
    rw [e];refine oM O hs f ((l + r) / 2 + 1) r (by omega) (by omega) (by omega) (λi hi=>?_) h5;exact O.tra _ _ _ (hs i ((l + r) / 2) (by omega) (by omega)) d
theorem F8 (O:Ord q){p:Array Nat}(hk:k < p.size) (hl:l<=k) (hs:Up q p k) (h1:∀i,i < l->q (a_ p k) (a_ p i)=false) (h2:∀i,l<=i->i < k->q (a_ p k) (a_ p i)=true):Up q (bubble p k (k - l)) (k + 1):=λi j hi hj=>by
 rw [zI hk (by omega),zI hk (by omega),show k - (k - l)=l by omega];by_cases a:i=l
 ·rw [if_pos a];by_cases b:j=l
  ·rw [if_pos b];exact O.irr _
  ·rw [if_neg b,if_pos (by omega)];exact O.asy _ _ (h2 (j - 1) (by omega) (by omega))
 ·rw [if_neg a];by_cases b:j=l
  ·rw [if_pos b,if_neg (by omega)];exact h1 i (by omega)
  ·rw [if_neg b];by_cases a':l < i/\i<=k
   ·rw [if_pos a',if_pos (by omega)];exact hs _ _ (by omega) (by omega)
   ·rw [if_neg a'];by_cases b':l < j/\j<=k
    ·rw [if_pos b'];exact hs _ _ (by omega) (by omega)
    ·rw [if_neg b'];exact hs _ _ hi (by omega)
theorem zK (O:Ord q):∀(f:Nat) (p:Array Nat) (k:Nat),k + f<=p.size->Up q p k->Up q (aO q (Xu f p k)) (k + f)
 | 0,p,k,_,h=>h
 | f + 1,p,k,hs,h=>by
  have e:aO q (Xu (f + 1) p k)=aO q (Xu f (bubble p k (k - aO q (Qy p k k 0 k))) (k + 1)):=by rw [Xu,run_bind]
  rw [e];obtain ⟨a1,a2,a3⟩:=oM O h k 0 k (Ny _) (Nb _) (by omega) (λi hi=>by omega) (λi h1 h2=>by omega);have:=zK O f (bubble p k (k - aO q (Qy p k k 0 k))) (k + 1) (by rw [bubble_size];omega) (F8 O (by omega) a1 h a2 a3);rw [show k + (f + 1)=k + 1 + f by omega];exact this
theorem Ft (O:Ord q) (n:Nat) (hn:1<=n):Up q (aO q (Rc n)) n:=by
 unfold Rc;rw [run_bind];obtain ⟨a0,a1,a2,a3⟩:=BP O (p:=(Ng n).toArray) (N:=n) hn (by simp);generalize aO q (Wr n (Ng n).toArray)=r at *;have a0:r.2.size=n:=by simpa using a0
 by_cases c:r.1 < n
 ·rw [if_pos c];have:=zK O (n - max r.1 1) r.2 (max r.1 1) (by omega) (by rw [show max r.1 1=r.1 by omega];exact a3)
  rwa [show max r.1 1 + (n - max r.1 1)=n by omega] at this
 ·rw [if_neg c];have:r.1=n:=by omega
  rw [this] at a3;exact a3
end
end DL
namespace DL
open PySem PySem.Spec PyProof.Rows L2
open PySem.W (kas_sort)
noncomputable def c6 (x y:D):Bool:=(dh x y).getD false
structure eN (P:D->Prop):Prop where
 eq:∀x y,P x->P y->(aV x y=true↔x=y)
 lt:∀x y,P x->P y->(dh x y).isSome=true
 asy:∀x y,P x->P y->c6 x y=true->c6 y x=false
 tri:∀x y,P x->P y->c6 x y=false->c6 y x=false->x=y
 tra:∀x y z,P x->P y->P z->c6 x y=true->c6 y z=true->c6 x z=true
noncomputable def fX (xs ys:List D):Bool:=c6 (.tup xs) (.tup ys)
theorem ig (x y:D) (xs ys:List D):fX (x::xs) (y::ys)=if aV x y=true then fX xs ys else c6 x y:=by
 show (if aV x y=true then iH xs ys else dh x y).getD false=_;by_cases h:aV x y=true
 ·rw [if_pos h,if_pos h];rfl
 ·rw [if_neg h,if_neg h];rfl
variable {P R:D->Prop}
theorem iW (xs ys:List D):aV (.tup xs) (.tup ys)=bW xs ys:=by rw [aV]
theorem gy (x y:D) (xs ys:List D):bW (x::xs) (y::ys)=(aV x y && bW xs ys):=by rw [bW]
structure i8 (Q:List D->Prop):Prop where
 eq:∀x y,Q x->Q y->(bW x y=true↔x=y)
 lt:∀x y,Q x->Q y->(iH x y).isSome=true
 asy:∀x y,Q x->Q y->fX x y=true->fX y x=false
 tri:∀x y,Q x->Q y->fX x y=false->fX y x=false->x=y
 tra:∀x y z,Q x->Q y->Q z->fX x y=true->fX y z=true->fX x z=true
theorem i8.tot {Q:List D->Prop}(h:i8 Q):eN λd=>∃xs,d=.tup xs/\Q xs where
 eq:=by rintro _ _ ⟨x,rfl,hx⟩ ⟨y,rfl,hy⟩;rw [iW,h.eq x y hx hy];exact ⟨λe=>e▸rfl,λe=>by cases e;rfl⟩
 lt:=by rintro _ _ ⟨x,rfl,hx⟩ ⟨y,rfl,hy⟩;exact h.lt x y hx hy
 asy:=by rintro _ _ ⟨x,rfl,hx⟩ ⟨y,rfl,hy⟩;exact h.asy x y hx hy
 tri:=by rintro _ _ ⟨x,rfl,hx⟩ ⟨y,rfl,hy⟩ h1 h2;rw [h.tri x y hx hy h1 h2]
 tra:=by rintro _ _ _ ⟨x,rfl,hx⟩ ⟨y,rfl,hy⟩ ⟨z,rfl,hz⟩;exact h.tra x y z hx hy hz
theorem xw (p:eN P) (px:P x) (py:P y) (pz:P z) (h:fX r s=true->fX s t=true->fX r t=true) (h1:fX (x::r) (y::s)=true) (h2:fX (y::s) (z::t)=true):fX (x::r) (z::t)=true:=by
 rw [ig] at h1 h2 ⊢;by_cases e:x=y
 ·subst e;rw [if_pos ((p.eq x x px px).mpr rfl)] at h1;by_cases f:x=z
  ·subst f;rw [if_pos ((p.eq x x px px).mpr rfl)] at h2 ⊢;exact h h1 h2
  ·rw [if_neg λq=>f ((p.eq x z px pz).mp q)] at h2 ⊢;exact h2
 ·rw [if_neg λq=>e ((p.eq x y px py).mp q)] at h1;by_cases f:y=z
  ·subst f;rw [if_neg λq=>e ((p.eq x y px py).mp q)];exact h1
  ·rw [if_neg λq=>f ((p.eq y z py pz).mp q)] at h2;have h3:=p.tra x y z px py pz h1 h2;by_cases g:x=z
   ·subst g;have:=p.asy x x px px h3;rw [h3] at this;cases this
   ·rw [if_neg λq=>g ((p.eq x z px pz).mp q)];exact h3
theorem i8.cons {Q:List D->Prop}(p:eN P) (h:i8 Q):i8 λxs=>∃x r,xs=x::r/\P x/\Q r where
 eq:=by rintro _ _ ⟨x,r,rfl,px,qr⟩ ⟨y,s,rfl,py,qs⟩;rw [gy,M8,p.eq x y px py,h.eq r s qr qs];exact ⟨λe=>by rw [e.1,e.2],λe=>by cases e;exact ⟨rfl,rfl⟩⟩
 lt:=by
  rintro _ _ ⟨x,r,rfl,px,qr⟩ ⟨y,s,rfl,py,qs⟩;show (if aV x y=true then iH r s else dh x y).isSome=true;split
  ·exact h.lt r s qr qs
  ·exact p.lt x y px py
 asy:=by
  rintro _ _ ⟨x,r,rfl,px,qr⟩ ⟨y,s,rfl,py,qs⟩ hl;rw [ig] at hl ⊢;by_cases e:x=y
  ·subst e;rw [if_pos ((p.eq x x px px).mpr rfl)] at hl ⊢;exact h.asy r s qr qs hl
  ·rw [if_neg λz=>e ((p.eq x y px py).mp z)] at hl;rw [if_neg λz=>e ((p.eq y x py px).mp z).symm];exact p.asy x y px py hl
 tri:=by
  rintro _ _ ⟨x,r,rfl,px,qr⟩ ⟨y,s,rfl,py,qs⟩ h1 h2;rw [ig] at h1 h2;by_cases e:x=y
  ·subst e;rw [if_pos ((p.eq x x px px).mpr rfl)] at h1 h2;rw [h.tri r s qr qs h1 h2]
  ·rw [if_neg λz=>e ((p.eq x y px py).mp z)] at h1;rw [if_neg λz=>e ((p.eq y x py px).mp z).symm] at h2;exact absurd (p.tri x y px py h1 h2) e
 tra:=by rintro _ _ _ ⟨x,r,rfl,px,qr⟩ ⟨y,s,rfl,py,qs⟩ ⟨z,t,rfl,pz,qt⟩ h1 h2;exact xw p px py pz (h.tra r s t qr qs qt) h1 h2
theorem i8.nil:i8 λxs=>xs=[] where
 eq:=by rintro _ _ rfl rfl;simp [bW]
 lt:=by rintro _ _ rfl rfl;rfl
 asy:=by rintro _ _ rfl rfl h;cases h
 tri:=by rintro _ _ rfl rfl _ _;rfl
 tra:=by rintro _ _ _ rfl rfl rfl h;cases h
theorem eN.list (p:eN P):i8 λxs=>∀x∈xs,P x where
 eq:=by
  intro xs
  induction xs with
  | nil=>intro ys _ _;cases ys <;> simp [bW]
  | cons x xs ih=>
   intro ys hx hy;cases ys with
   | nil=>simp [bW]
   | cons y ys=>
    rw [gy,M8,p.eq x y (hx x Nd) (hy y Nd),ih ys (λz hz=>hx z (Na _ hz)) λz hz=>hy z (Na _ hz)];exact ⟨λe=>by rw [e.1,e.2],λe=>by cases e;exact ⟨rfl,rfl⟩⟩
 lt:=by
  intro xs
  induction xs with
  | nil=>intro ys _ _;rfl
  | cons x xs ih=>
   intro ys hx hy;cases ys with
   | nil=>rfl
   | cons y ys=>
    show (if aV x y=true then iH xs ys else dh x y).isSome=true;split
    ·exact ih ys (λz hz=>hx z (Na _ hz)) λz hz=>hy z (Na _ hz)
    ·exact p.lt x y (hx x Nd) (hy y Nd)
 asy:=by
  intro xs
  induction xs with
  | nil=>
   intro ys _ _ h;cases ys with
   | nil=>cases h
   | cons y ys=>rfl
  | cons x xs ih=>
   intro ys hx hy hl;cases ys with
   | nil=>cases hl
   | cons y ys=>
    have px:=hx x Nd;have py:=hy y Nd;rw [ig] at hl ⊢;by_cases e:x=y
    ·subst e;rw [if_pos ((p.eq x x px px).mpr rfl)] at hl ⊢;exact ih ys (λz hz=>hx z (Na _ hz)) (λz hz=>hy z (Na _ hz)) hl
    ·rw [if_neg λz=>e ((p.eq x y px py).mp z)] at hl;rw [if_neg λz=>e ((p.eq y x py px).mp z).symm];exact p.asy x y px py hl
 tri:=by
  intro xs
  induction xs with
  | nil=>
   intro ys _ _ h1 h2;cases ys with
   | nil=>rfl
   | cons y ys=>cases h1
  | cons x xs ih=>
   intro ys hx hy h1 h2;cases ys with
   | nil=>cases h2
   | cons y ys=>
    have px:=hx x Nd;have py:=hy y Nd;rw [ig] at h1 h2;by_cases e:x=y
    ·subst e;rw [if_pos ((p.eq x x px px).mpr rfl)] at h1 h2;rw [ih ys (λz hz=>hx z (Na _ hz)) (λz hz=>hy z (Na _ hz)) h1 h2]
    ·rw [if_neg λz=>e ((p.eq x y px py).mp z)] at h1;rw [if_neg λz=>e ((p.eq y x py px).mp z).symm] at h2;exact absurd (p.tri x y px py h1 h2) e
 tra:=by
  intro xs
  induction xs with
  | nil=>
   intro ys zs _ _ _ h1 h2;cases ys with
   | nil=>cases h1
   | cons y ys=>
    cases zs with
    | nil=>cases h2
    | cons z zs=>rfl
  | cons x xs ih=>
   intro ys zs hx hy hz h1 h2;cases ys with
   | nil=>cases h1
   | cons y ys=>
    cases zs with
    | nil=>cases h2
    | cons z zs=>
     have px:=hx x Nd;have py:=hy y Nd;have pz:=hz z Nd;exact xw p px py pz (ih ys zs (λz hz=>hx z (Na _ hz)) (λz hz=>hy z (Na _ hz)) λw hw=>hz w (Na _ hw)) h1 h2
theorem Jb:eN λd=>∃k,d=.bl k where
 eq:=by rintro _ _ ⟨x,rfl⟩ ⟨y,rfl⟩;simp [aV]
 lt:=by rintro _ _ ⟨x,rfl⟩ ⟨y,rfl⟩;rfl
 asy:=by rintro _ _ ⟨x,rfl⟩ ⟨y,rfl⟩;revert x y;decide
 tri:=by
  rintro _ _ ⟨x,rfl⟩ ⟨y,rfl⟩ h1 h2;revert h1 h2;cases x <;> cases y <;> intro h1 h2
  ·rfl
  ·exact absurd h1 (by decide)
  ·exact absurd h2 (by decide)
  ·rfl
 tra:=by rintro _ _ _ ⟨x,rfl⟩ ⟨y,rfl⟩ ⟨z,rfl⟩;revert x y z;decide
theorem kh (x y:Int):c6 (.int x) (.int y)=decide (x < y):=rfl
theorem Jc:eN λd=>∃k,d=.int k where
 eq:=by rintro _ _ ⟨x,rfl⟩ ⟨y,rfl⟩;simp [aV]
 lt:=by rintro _ _ ⟨x,rfl⟩ ⟨y,rfl⟩;rfl
 asy:=by rintro _ _ ⟨x,rfl⟩ ⟨y,rfl⟩ h;rw [kh,decide_eq_true_eq] at h;rw [kh,decide_eq_false_iff_not];omega
 tri:=by rintro _ _ ⟨x,rfl⟩ ⟨y,rfl⟩ h1 h2;rw [kh,decide_eq_false_iff_not] at h1 h2;rw [show x=y by omega]
 tra:=by rintro _ _ _ ⟨x,rfl⟩ ⟨y,rfl⟩ ⟨z,rfl⟩ h1 h2;rw [kh,decide_eq_true_eq] at h1 h2 ⊢;omega
theorem nv (x y:Str):c6 (.str x) (.str y)=decide (x.cps.toList < y.cps.toList):=rfl
theorem Fx {x y:Str}(h:x.cps.toList=y.cps.toList):x=y:=by obtain ⟨⟨cx⟩⟩:=x;obtain ⟨⟨cy⟩⟩:=y;simp only at h;rw [h]
theorem Jd:eN λd=>∃k,d=.str k where
 eq:=by rintro _ _ ⟨x,rfl⟩ ⟨y,rfl⟩;simp [aV]
 lt:=by rintro _ _ ⟨x,rfl⟩ ⟨y,rfl⟩;rfl
 asy:=by rintro _ _ ⟨x,rfl⟩ ⟨y,rfl⟩ h;rw [nv,decide_eq_true_eq] at h;rw [nv,decide_eq_false_iff_not];exact List.lt_asymm h
 tri:=by rintro _ _ ⟨x,rfl⟩ ⟨y,rfl⟩ h1 h2;rw [nv,decide_eq_false_iff_not] at h1 h2;rw [Fx (V3 h2 h1)]
 tra:=by rintro _ _ _ ⟨x,rfl⟩ ⟨y,rfl⟩ ⟨z,rfl⟩ h1 h2;rw [nv,decide_eq_true_eq] at h1 h2 ⊢;exact List.lt_trans h1 h2
inductive Fm where
 | b | i | s | hom (t:Fm) | tn | tc (x r:Fm)
noncomputable def gj:Fm->D->Prop
 | .b,d=>∃k,d=.bl k
 | .i,d=>∃k,d=.int k
 | .s,d=>∃k,d=.str k
 | .hom t,d=>∃xs,d=.tup xs/\∀x∈xs,gj t x
 | .tn,d=>∃xs,d=.tup xs/\xs=[]
 | .tc x r,d=>∃xs,d=.tup xs/\∃y ys,xs=y::ys/\gj x y/\gj r (.tup ys)
theorem eN.tail {Q:List D->Prop}(h:eN R) (k:∀xs,Q xs->R (.tup xs)):i8 Q where
 eq:=λx y hx hy=>by have:=h.eq _ _ (k x hx) (k y hy);rw [iW] at this;rw [this];exact ⟨λe=>by cases e;rfl,λe=>e▸rfl⟩
 lt:=λx y hx hy=>h.lt _ _ (k x hx) (k y hy)
 asy:=λx y hx hy=>h.asy _ _ (k x hx) (k y hy)
 tri:=λx y hx hy h1 h2=>by have:=h.tri _ _ (k x hx) (k y hy) h1 h2;cases this;rfl
 tra:=λx y z hx hy hz=>h.tra _ _ _ (k x hx) (k y hy) (k z hz)
theorem cY:∀t:Fm,eN (gj t)
 | .b=>Jb
 | .i=>Jc
 | .s=>Jd
 | .hom t=>(cY t).list.tot
 | .tn=>i8.nil.tot
 | .tc x r=>(i8.cons (cY x) (eN.tail (Q:=λys=>gj r (.tup ys)) (cY r) λ_ h=>h)).tot
theorem IU (ds:List D):(aY ds).length=ds.length:=by
 unfold aY;by_cases h:ds.length < 2
 ·rw [if_pos h]
 ·rw [if_neg h,M7];have:=((gP (n:=ds.length) (by omega)).run (ltB ds)).size_eq;simpa using this
theorem EL (ds:List D):(Ng ds.length).map (bQ ds)=ds:=by refine P8 (by simp) λi h1 h2=>?_;rw [Ud,List.getElem_range];unfold bQ;rw [N_,Nc h2];rfl
theorem c_ (ds:List D):(aY ds).Perm ds:=by
 unfold aY;by_cases h:ds.length < 2
 ·rw [if_pos h]
 ·rw [if_neg h];have hp:=(gP (n:=ds.length) (by omega)).run (ltB ds);have hq:(aO (ltB ds) (Rc ds.length)).toList.Perm (Ng ds.length):=by have:=Array.perm_iff_toList_perm.mp hp;simpa using this
  have:=hq.map (bQ ds)
  rwa [EL] at this
theorem vL (p:eN P) (ds:List D) (h:∀x∈ds,P x):(aY ds).Pairwise λx y=>c6 y x=false:=by
 unfold aY;by_cases h2:ds.length < 2
 ·rw [if_pos h2]
  match ds,h2 with
  | [],_=>exact .nil
  | [x],_=>exact List.pairwise_singleton _ _
 ·rw [if_neg h2];have hn:0 < ds.length:=by omega
  have hb:=gP (n:=ds.length) hn;have at_P:∀i,i < ds.length->P (bQ ds i):=λi hi=>h _ (dw hi)
  let q':Nat->Nat->Bool:=λi j=>if i < ds.length then (if j < ds.length then ltB ds i j else true) else false
  have hq:aO (ltB ds) (Rc ds.length)=aO q' (Rc ds.length):=CP hb λi j hi hj=>by simp [q',hi,hj]
  have O:Ord q':=by
   constructor
   ·intro a b hab;by_cases ha:a < ds.length <;> by_cases hb:b < ds.length <;> simp [q',ha,hb] at hab ⊢
    exact p.asy _ _ (at_P a ha) (at_P b hb) hab
   ·intro a b c hab hbc;by_cases ha:a < ds.length <;> by_cases hb:b < ds.length <;> by_cases hc:c < ds.length <;> simp [q',ha,hb,hc] at hab hbc ⊢
    have h1:c6 (bQ ds b) (bQ ds a)=false:=hab;have h2:c6 (bQ ds c) (bQ ds b)=false:=hbc;show c6 (bQ ds c) (bQ ds a)=false;cases g:c6 (bQ ds c) (bQ ds a) with
    | false=>rfl
    | true=>
     have pa:=at_P a ha;have pb:=at_P b hb;have pc:=at_P c hc;cases g2:c6 (bQ ds a) (bQ ds b) with
     | true=>
      have:=p.tra _ _ _ pc pa pb g g2;rw [this] at h2;cases h2
     | false=>
      rw [<-p.tri _ _ pb pa h1 g2] at g;rw [g] at h2;cases h2
  have up:=Ft O ds.length (by omega);have hs:=(hb.run (ltB ds));rw [hq] at hs ⊢;have hsz:(aO q' (Rc ds.length)).size=ds.length:=by simpa using hs.size_eq
  generalize aO q' (Rc ds.length)=A at *;rw [OB,Ob];intro i j hi hj hij;rw [M_] at hi hj;have:=up i j (by omega) (by omega);have e:∀k (hk:k < A.size),a_ A k=A.toList[k]'(by rw [M_];exact hk):=λk hk=>by show A.getD k 0=_;simp [PF,hk]
  rw [e i hi,e j hj] at this;have l:∀k (hk:k < A.size),A.toList[k]'(by rw [M_];exact hk) < ds.length:=λk hk=>by rw [<-e k hk];exact hs.lt hn k
  have li:=l i hi;have lj:=l j hj;simp only [q',li,lj,if_true] at this;exact this
end DL
namespace K52
open PySem DL
end K52
namespace K52
open PySem DL K01 WP K51
variable {P:D->Prop}
end K52
namespace DL
open PySem PySem.Spec PyProof.Rows L2
section
variable {X:Cx}{c:C}{e a b:N9}{es elts:List N9}{pos tp:Pos}{kk:Nat}
noncomputable def oz:R->M (List D)
 | .d (.tup xs)=>.ok xs
 | .d (.lst xs)=>.ok xs
 | _=>.bad
theorem vV {β:Type}{x:R}{k:List D->M β}{Q:β->Prop}{T:Exc->Prop}(w:bR (oz x >>= k) Q T):∃xs,oz x=.ok xs/\bR (k xs) Q T:=by
 cases q:oz x with
 | bad=>rw [q] at w;exact w.elim
 | ok xs=>rw [q] at w;exact ⟨xs,rfl,w⟩
 | exc z=>unfold oz at q;split at q <;> cases q
noncomputable def yE (gs:G (List R)):G (List D):=λenv=>gs env >>= λrs=>match rs with
 | [x,y]=>oz x >>= λxs=>oz y >>= λys=>.ok (VV (λa b=>.tup [a,b]) xs ys)
 | _=>.bad
theorem Be {c:C}{He J H:Hp}{x:R}{v:V}{xs:List D}(r:RR c He J H x v) (q:oz x=.ok xs):∃k l us,v=.ref l/\az c.K J xs us/\fY k c.K J l us:=by
 cases x with
 | l m ys=>cases q
 | mo _ _=>cases q
 | mb _ _=>cases q
 | mf _ _=>cases q
 | ln _=>cases q
 | d y=>
  cases y with
  | tup ys=>
   cases q;cases r with
   | tup h1 h2=>exact ⟨"tuple_iterator",_,_,rfl,h2,.inr ⟨rfl,h1⟩⟩
  | lst ys=>
   cases q;cases r with
   | lst h1 h2=>exact ⟨"list_iterator",_,_,rfl,h2,.inl ⟨rfl,h1⟩⟩
  | _=>cases q
theorem fY.via {k:String}{K:M1}{J H:Hp}{l:Nu}{xs:List V}(h:fY k K J l xs) (s:aG J H):fY k K H l xs:=by
 rcases h with ⟨e,h⟩ | ⟨e,h⟩
 ·exact .inl ⟨e,s.seq h⟩
 ·exact .inr ⟨e,dQ s h⟩
theorem BK:bw X (.type "range") (λxs H Q=>∃j:Int,xs=[.int j]/\∀p,H p=none->Q (.ref p) (upd H p (.rng 0 j))):=by intro MQ s σ H xs us Q I r h;obtain ⟨j,rfl,q⟩:=h;obtain ⟨u,rfl,t,rfl⟩:=vals1 r;refine call_range_1 ⟨.ref s.heap.objs.size,_,I.laid (λb o e=>M6 _ e) (Nb _) (show bU X.prog X.w _ _ _ (.rng 0 j) from ⟨_,_,_,Nf _ rfl⟩),rfl,q _ (I.hok.fresh (Nb _))⟩
noncomputable def jC (n:Nat):List V:=(Ng n).map λ(k:Nat)=>V.int k
theorem CZ {acc:Array M4}(h:ItemsOf (λi v=>∃t,v=.int (0 + (i:Int) * 1) t) acc n):Vals (jC n) acc.toList:=by
 have key:∀(us:List M4) (i:Nat),(∀j v,us[j]?=some v->∃t:Tok,v=We ((i + j:Nat):Int) t)->Vals ((List.range' i us.length).map λ(k:Nat)=>V.int k) us:=by
  intro us
  induction us with
  | nil=>exact λi _=>.nil
  | cons u us ih=>
   intro i hj;obtain ⟨t,e⟩:=hj 0 u rfl;rw [OP,List.range'_succ,Nz];refine .cons ⟨t,by rw [e];rfl⟩ (ih (i + 1) λj v hv=>?_);obtain ⟨t,e⟩:=hj (j + 1) v (by simpa using hv);exact ⟨t,by rw [e];congr 2;omega⟩
 have e:acc.toList.length=n:=by rw [M_];exact h.1
 unfold jC;rw [List.range_eq_range',<-e];refine key acc.toList 0 λj v hv=>?_;obtain ⟨t,q⟩:=h.2 j v (by simpa using hv);exact ⟨t,by rw [q];congr 1;omega⟩
theorem sO (hc:X.calm=true):bw X (.type "list") (λxs H Q=>∃(p:Nu) (j:Int),xs=[.ref p]/\H p=some (.rng 0 j)/\-(2 ^ 24)<=j/\j<=2 ^ 24/\∀l,H l=none->Q (.ref l) (upd H l (.lst (jC j.toNat)))):=by
 intro MQ s σ H xs us Q I r h;obtain ⟨p,j,rfl,hp,h0,h1,q⟩:=h;obtain ⟨u,rfl,rx⟩:=vals1 r;cases rx;obtain ⟨t,u,v,ho⟩:=I.hok p _ hp;have hn:TR 0 j 1=(j.toNat:Int):=by rw [Xi];split <;> omega
 refine call_list_range (I.ok.hd hc) ho (small_one (by decide) (by decide) (by omega) (by omega)) hn (by omega) λh' tk acc' c' kp e hi=>?_;have hv:=CZ hi;refine ⟨.ref s.heap.objs.size,_,I.laid kp (Nb _) (show bU X.prog X.w _ h' _ (.lst (jC j.toNat)) from ⟨?_,acc'.toList,c',hv,e⟩),rfl,q _ (I.hok.fresh (Nb _))⟩;unfold jC;rw [M7,Oo];show j.toNat<=2 ^ 24;omega
noncomputable def Ds (gs:G (List R)):G R:=λenv=>gs env >>= λrs=>match rs with
 | [.d (.int j)]=>if below 16777216 j then .ok (.l .fresh (dF 0 j.toNat)) else .bad
 | _=>.bad
theorem CM {K:M1}{J:Hp}(n:Nat):az K J (dF 0 n) (jC n):=by
 unfold dF jC;generalize Ng n=ks
 induction ks with
 | nil=>exact .nil
 | cons k ks ih=>
  rw [Nz,Nz,Int.zero_add];exact .cons (.int _) ih
end
end DL
namespace DL
open PySem PySem.Spec PyProof.Rows L2 DX
section
variable {X:Cx}{c:C}{e a:N9}{es:List N9}{ga g:G R}{pos:Pos}{L:List Str}{T:Str->Bool}
theorem vC {b:N9}{elts:List N9}{kk:Nat}{tp p:Pos}{gs:G (List R)}(ha:jt X c [a,b] gs) (hm:X.mg "zip"=none) (hK:autoParam (X.K=c.K) zA._auto_1) (hg:autoParam (Gl X "zip") zA._auto_1) (hs:autoParam (Nl [a,b] X.env=[(false,eval a X.env),(false,eval b X.env)]) zA._auto_1) (hs2:autoParam (Nl [b] X.env=[(false,eval b X.env)]) zA._auto_1):
  tZ X c (.Tuple elts kk tp) (.Call (.Name "zip" p) [a,b] [] pos) (yE gs):=have ha:=ha.h;⟨
 p6 (G8 hg hm ha hs hs2) λσ H Q ⟨J,env,sr,w⟩=>by
  refine ⟨J,env,sr,aC (aL w) λrs wr vs J1 H1 e1 r1=>?_⟩;split at wr
  ·obtain ⟨v,v2,rfl,r,r2⟩:=r1.two;obtain ⟨xs,q1,wr⟩:=vV wr;obtain ⟨ys,q2,wr⟩:=vV wr;have hp1:=sr.hp.ext e1;obtain ⟨k1,l1,us1,rfl,a1,s1⟩:=Be r q1;obtain ⟨k2,l2,us2,rfl,a2,s2⟩:=Be r2 q2;refine ⟨k1,l1,us1,k2,l2,us2,rfl,by rw [hK];exact s1.via hp1.sub,by rw [hK];exact s2.via hp1.sub,?_⟩;rw [hK];refine wr _ J1 H1 e1 λi J' H' hp u=>?_;have t1:=(s1.via u).via hp.sub;have t2:=(s2.via u).via hp.sub;refine ⟨λhl=>⟨us1,us2,t1,t2,?_⟩,λd hd=>?_⟩
   ·rw [List.length_zipWith,a1.length,a2.length] at hl;omega
   ·obtain ⟨x,y,ux,uy,rfl,b1,b2,c1,c2⟩:=CN a1 a2 hd;refine ⟨⟨us1,us2,ux,uy,t1,t2,b1,b2⟩,λz H2 ⟨q,hq,e,hy⟩=>?_⟩;have:=hy us1 us2 ux uy t1 t2 b1 b2;subst this e;have s':aG J' (upd J' q (.tup [ux,uy])):=bL (hp.sub.free hq) _;exact ⟨_,Ext.newJ hp.sub hq _,.tup (.inl (.inl bz)) (.cons ((c1.mono u).mono s') (.cons ((c2.mono u).mono s') .nil))⟩
  ·exact wr.elim⟩
theorem yY {p p2 pos2:Pos}{gs:G (List R)}(ha:jt X c [a] gs) (hm:X.mg "range"=none) (hm2:X.mg "list"=none) (hc:autoParam (X.calm=true) zA._auto_1) (hK:autoParam (X.K=c.K) zA._auto_1) (hg:autoParam (Gl X "range") zA._auto_1) (Ly:autoParam (Gl X "list") zA._auto_1)
  (hs:autoParam (Nl [a] X.env=(false,eval a X.env)::Nl [] X.env) zA._auto_1) (hs0:autoParam ((Qw pos (Nl [] X.env)).any (·.1)=false) zA._auto_1) (hs2:autoParam (Nl [YS (.Name "range" p) [a] [] pos] X.env=(false,eval (YS (.Name "range" p) [a] [] pos) X.env)::Nl [] X.env) zA._auto_1) (MD:autoParam ((Qw pos2 (Nl [] X.env)).any (·.1)=false) zA._auto_1):
  QD X c (.Call (.Name "list" p2) [.Call (.Name "range" p) [a] [] pos] [] pos2) (Ds gs):=by
 have ha:=ha.h;refine ⟨?_⟩;have h1:=iD (p:=p) (pos:=pos) BK hg hm boot_range ha (by decide) (by decide) hs hs0;have h2:=iD (p:=p2) (pos:=pos2) (sO hc) Ly hm2 yp (fh h1 gS hs2) (by decide) (by decide) hs2 MD;refine gc h2 λσ H Q ⟨J,env,sr,w⟩=>?_;refine ⟨J,env,sr,aC (aL w) λrs wr vs J1 H1 e1 r1=>?_⟩;split at wr
 ·rename_i j;obtain ⟨v,rfl,r⟩:=r1.one;cases r;split at wr
  ·rename_i hb;obtain ⟨b1,b2⟩:=dg.mp hb;refine ⟨j,rfl,λq hq=>?_⟩;refine ⟨q,j,rfl,bz,by omega,by omega,λl hl=>?_⟩;have hp1:=sr.hp.ext e1;have e2:=Ext.new hp1.sub hq (.rng 0 j);have hp2:=hp1.ext e2;have hr:RR c H1 J1 (upd (upd H1 q (.rng 0 j)) l (.lst (jC j.toNat))) (.l .fresh (dF 0 j.toNat)) (.ref l):=by obtain ⟨a,us,x1,x2,x3,x4,x5⟩:=gU (c:=c) hp2 hl (CM j.toNat);exact ⟨a,us,x1,x2,x3,e2.h.free x4,x5⟩
   exact wr _ _ _ ((e1.trans e2).trans (Ext.new hp2.sub hl _)) (by
    obtain ⟨a,us,x1,x2,x3,x4,x5⟩:=hr;exact ⟨a,us,x1,x2,x3,e1.h.free x4,x5⟩)
  ·exact wr.elim
 ·exact wr.elim
end
end DL
namespace DL
open PySem PySem.Spec PyProof.Rows L2
end DL
namespace DL
open PySem PySem.Spec PyProof.Rows L2 DX
open PySem.W (KasT kas_sort kas_ask)
section
variable {X:Cx}{c:C}{e:N9}{es:List N9}{pos:Pos}
theorem bw.or {r1 r2:List V->Hp->VK->Prop}(h1:bw X f r1) (h2:bw X f r2):bw X f (λxs H Q=>r1 xs H Q\/r2 xs H Q):=λMQ s σ H xs us Q I rv h=>h.elim (h1 MQ s σ H xs us Q I rv) (h2 MQ s σ H xs us Q I rv)
end
end DL
namespace DL
open PySem PySem.Spec PyProof.Rows L2 DX
end DL
namespace ST
open PySem PySem.SetTable
theorem qJ (xs:Array Nat) (j:Nat) (hs:xs.toList.Pairwise (· < ·)):∀(f lo hi:Nat),hi<=xs.size->lo<=hi->hi - lo<=f->(∀i,i < lo->xs.getD i 0 < j)->(∀i,hi<=i->i < xs.size->j<=xs.getD i 0)->
  below.go xs j f lo hi<=xs.size/\(∀i,i < below.go xs j f lo hi->xs.getD i 0 < j)/\∀i,below.go xs j f lo hi<=i->i < xs.size->j<=xs.getD i 0
 | 0,lo,hi,h1,h2,h3,h4,h5=>by
  have:lo=hi:=by omega
  subst this;exact ⟨h1,h4,h5⟩
 | f + 1,lo,hi,h1,h2,h3,h4,h5=>by
  have mono:∀a b,a<=b->b < xs.size->xs.getD a 0<=xs.getD b 0:=λa b hab hb=>by
   rcases Vx hab with h | h
   ·have:=Ob.mp hs a b (by simpa using Pb h hb) (by simpa using hb) h;simp [PF,Pb h hb,hb] at this ⊢;omega
   ·rw [h];exact Nb _
  unfold below.go;by_cases c:lo < hi
  ·rw [if_pos c];have hm:(lo + hi) / 2 < xs.size:=by omega
   have e:xs.getD ((lo + hi) / 2) j=xs.getD ((lo + hi) / 2) 0:=by simp [PF,hm]
   by_cases d:xs.getD ((lo + hi) / 2) j < j
   ·simp only [d,if_true];rw [e] at d;exact qJ xs j hs f _ hi h1 (by omega) (by omega) (λi hi'=>Vv (mono i ((lo + hi) / 2) (by omega) hm) d) h5
   ·simp only [d,if_false];rw [e] at d;exact qJ xs j hs f lo _ (by omega) (by omega) (by omega) h4 (λi hi' hs'=>N8 (by omega) (mono ((lo + hi) / 2) i hi' hs'))
  ·rw [if_neg c];have:lo=hi:=by omega
   subst this;exact ⟨h1,h4,h5⟩
theorem kG (xs:Array Nat) (j:Nat) (hs:xs.toList.Pairwise (· < ·)):below xs j<=xs.size/\(∀i,i < below xs j->xs.getD i 0 < j)/\∀i,below xs j<=i->i < xs.size->j<=xs.getD i 0:=
 qJ xs j hs xs.size 0 xs.size (Nb _) (Ny _) (by omega) (λi h=>absurd h (Om _)) (λi h1 h2=>by omega)
theorem below_at {xs:Array Nat}(hs:xs.toList.Pairwise (· < ·)) (h:xs[i]?=some j):below xs j=i:=by
 obtain ⟨hi,e⟩:=Ov.mp h;obtain ⟨b1,b2,b3⟩:=kG xs j hs;have g:xs.getD i 0=j:=by simp [PF,hi,e]
 rcases Qi (below xs j) i with c | c | c
 ·have h1:=b3 (below xs j) (Nb _) (by omega);have:=Ob.mp hs (below xs j) i (by simpa using Pb c hi) (by simpa using hi) c;simp [PF,Pb c hi] at h1;simp at this;omega
 ·exact c
 ·have:=b2 i c;omega
theorem mQ {t:OU}(hs:t.place.toList.Pairwise (· < ·)) (h:t.place[i]?=some j):t.slot j=.live i:=by unfold slot;rw [below_at hs h];show (if (t.place[i]? == some j)=true then Slot.live i else _)=_;rw [h];simp
theorem ql {t:OU}(hd:t.dummies=#[]) (h:j∉t.place.toList):t.slot j=.empty:=by
 unfold slot;have h1:(t.place[below t.place j]? == some j)=false:=by
  rw [beq_eq_false_iff_ne];intro z;exact h (by
   obtain ⟨hi,e⟩:=Ov.mp z;rw [<-e];simp)
 have h2:has t.dummies j=false:=by rw [hd];rfl
 simp only [h1,h2,Nn,if_false]
noncomputable def st (mask:Nat) (h:Int):Nat->Probe
 | 0=>({mask:=mask,place:=#[],dummies:=#[],finger:=0,led:=true,moves:=0,plain:=true}:OU).probeStart h
 | n + 1=>({mask:=mask,place:=#[],dummies:=#[],finger:=0,led:=true,moves:=0,plain:=true}:OU).advance (st mask h n)
noncomputable abbrev pos (mask:Nat) (h:Int) (n:Nat):Nat:=(st mask h n).j
theorem lg (mask:Nat) (h:Int):∀n,(st mask h n).dummy=none
 | 0=>rfl
 | n + 1=>by
  unfold st advance;split
  ·exact lg mask h n
  ·exact lg mask h n
noncomputable def tn (mask:Nat) (h:Int):Nat->Nat×Nat
 | 0=>(bits h % (mask + 1),bits h)
 | k + 1=>leap mask (tn mask h k).1 (tn mask h k).2
theorem su (mask:Nat) (h:Int):∀(m n:Nat) (i p j:Nat),st mask h n={j:=j,more:=m,i:=i,perturb:=p,dummy:=none}->st mask h (n + m)={j:=j + m,more:=0,i:=i,perturb:=p,dummy:=none}
 | 0,n,i,p,j,e=>e
 | m + 1,n,i,p,j,e=>by
  have e1:st mask h (n + 1)={j:=j + 1,more:=m,i:=i,perturb:=p,dummy:=none}:=by show advance _ (st mask h n)=_;rw [e];unfold advance;simp
  have:=su mask h m (n + 1) i p (j + 1) e1;rw [show n + (m + 1)=n + 1 + m by omega,this];congr 1;omega
theorem xR (mask:Nat) (h:Int):∀k,∃n,n<=10 * k/\st mask h n={j:=(tn mask h k).1,more:=runEnd mask (tn mask h k).1 - (tn mask h k).1,i:=(tn mask h k).1,perturb:=(tn mask h k).2,dummy:=none}
 | 0=>⟨0,Nb _,rfl⟩
 | k + 1=>by
  obtain ⟨n,hn,e⟩:=xR mask h k;have hm:runEnd mask (tn mask h k).1 - (tn mask h k).1<=9:=by unfold runEnd;split <;> omega
  have:=su mask h _ n _ _ _ e;refine ⟨n + (runEnd mask (tn mask h k).1 - (tn mask h k).1) + 1,by omega,?_⟩;show advance _ (st mask h (n + (runEnd mask (tn mask h k).1 - (tn mask h k).1)))=_;rw [this];unfold advance;simp;exact ⟨rfl,rfl,rfl,rfl⟩
theorem qq (mask:Nat) (h:Int):∀k,(tn mask h k).2=bits h / 32 ^ k
 | 0=>by simp [tn]
 | k + 1=>by show (tn mask h k).2 / 32=_;rw [qq mask h k,Um,XR]
theorem Ec (h:Int):bits h < 2 ^ 64:=by unfold bits;have:=Pk h (b:=2 ^ 64) (by decide);omega
noncomputable def AB (mask i:Nat):Nat:=(i * 5 + 1) % (mask + 1)
noncomputable def fW (mask:Nat):Nat->Nat->Nat
 | 0,i=>i
 | r + 1,i=>AB mask (fW mask r i)
theorem vO (mask:Nat) (h:Int):∀r,(tn mask h (12 + r)).1=fW mask r (tn mask h 12).1
 | 0=>rfl
 | r + 1=>by
  show (leap mask (tn mask h (12 + r)).1 (tn mask h (12 + r)).2).1=AB mask (fW mask r (tn mask h 12).1);rw [<-vO mask h r,qq];unfold leap AB;have:bits h / 32 ^ (12 + r) / 32=0:=by rw [Um,<-XR];refine Nat.div_eq_of_lt (Nv (Ec h) ?_);refine N8 (show 2 ^ 64<=32 ^ 13 by decide) (Nat.pow_le_pow_right (by decide) (by omega))
  rw [this]
theorem JB:∀i:Fin 8,∀j:Fin 8,(Ng 8).any (λr=>fW 7 r i.val == j.val)=true:=by decide +kernel
theorem Ie:∀i:Fin 32,∀j:Fin 32,(Ng 32).any (λr=>fW 31 r i.val == j.val)=true:=by decide +kernel
noncomputable def Gf:List Nat:=(Ng 128).map λr=>fW 127 r 0
theorem wZ:∀j:Fin 128,Gf.contains j.val=true:=by decide +kernel
theorem Eh:fW 127 128 0=0:=by decide +kernel
theorem kR (mask:Nat):∀a b i,fW mask (a + b) i=fW mask a (fW mask b i)
 | 0,b,i=>by rw [RA];rfl
 | a + 1,b,i=>by rw [show a + 1 + b=(a + b) + 1 by omega];show AB mask (fW mask (a + b) i)=AB mask (fW mask a (fW mask b i));rw [kR mask a b i]
noncomputable def jr (mask:Nat):Prop:=mask=7\/mask=31\/mask=127
theorem Ab {mask:Nat}(hm:jr mask) (i j:Nat) (hi:i<=mask) (hj:j<=mask):∃r,r<=mask/\fW mask r i=j:=by
 rcases hm with rfl | rfl | rfl
 ·have:=JB ⟨i,by omega⟩ ⟨j,by omega⟩;rw [QT] at this;obtain ⟨r,h1,h2⟩:=this;exact ⟨r,by have:=NQ.mp h1;omega,by simpa using h2⟩
 ·have:=Ie ⟨i,by omega⟩ ⟨j,by omega⟩;rw [QT] at this;obtain ⟨r,h1,h2⟩:=this;exact ⟨r,by have:=NQ.mp h1;omega,by simpa using h2⟩
 ·have hi':=wZ ⟨i,by omega⟩;have hj':=wZ ⟨j,by omega⟩;rw [List.contains_iff_mem] at hi' hj';obtain ⟨a,ha,ea⟩:=M9.mp hi';obtain ⟨b,hb,eb⟩:=M9.mp hj';have ha:=NQ.mp ha;have hb:=NQ.mp hb;have ea:fW 127 a 0=i:=ea;have eb:fW 127 b 0=j:=eb;by_cases c:a<=b
  ·refine ⟨b - a,by omega,?_⟩;rw [<-ea,<-kR,show b - a + a=b by omega];exact eb
  ·refine ⟨128 + b - a,by omega,?_⟩;rw [<-ea,<-kR,show 128 + b - a + a=b + 128 by omega,kR,Eh];exact eb
theorem zh (mask:Nat) (h:Int) (k:Nat):(tn mask h k).1<=mask:=by
 cases k with
 | zero=>exact Sb (Tw _ (by omega))
 | succ k=>exact Sb (Tw _ (by omega))
theorem visits {mask:Nat}(hm:jr mask) (h:Int) (j:Nat) (hj:j<=mask):∃n,n<=10 * (mask + 12)/\pos mask h n=j:=by obtain ⟨r,hr,e⟩:=Ab hm (tn mask h 12).1 j (zh mask h 12) hj;obtain ⟨n,hn,q⟩:=xR mask h (12 + r);refine ⟨n,by omega,?_⟩;show (st mask h n).j=j;rw [q];show (tn mask h (12 + r)).1=j;rw [vO,e]
theorem pI {mask:Nat}(hm:jr mask) (h:Int) (P:List Nat) (hP:P.length<=mask):∃n,n<=10 * (mask + 12)/\pos mask h n∉P/\∀m,m < n->pos mask h m∈P:=by
 have ex:∃j,j<=mask/\j∉P:=by
  by_cases c:∀j,j<=mask->j∈P
  ·exfalso;have:(Ng (mask + 1)).length<=P.length:=NI Qs λj hj=>c j (by have:=NQ.mp hj;omega);rw [Oo] at this;omega
  ·exact PY λz=>c λj hj=>PY λy=>z ⟨j,hj,y⟩
 obtain ⟨j,hj,hn⟩:=ex;obtain ⟨n,hn1,hn2⟩:=visits hm h j hj;have key:∀k,k<=n->(∃m,m<=k/\pos mask h m∉P/\∀m',m' < m->pos mask h m'∈P)\/∀m,m<=k->pos mask h m∈P:=by
  intro k
  induction k with
  | zero=>
   intro _;by_cases c:pos mask h 0∈P
   ·exact .inr λm hm=>by rw [show m=0 by omega];exact c
   ·exact .inl ⟨0,Nb _,c,λm' h'=>absurd h' (Om _)⟩
  | succ k ih=>
   intro hk;rcases ih (by omega) with ⟨m,h1,h2⟩ | h1
   ·exact .inl ⟨m,by omega,h2⟩
   ·by_cases c:pos mask h (k + 1)∈P
    ·exact .inr λm hm=>by
      by_cases d:m<=k
      ·exact h1 m d
      ·rw [show m=k + 1 by omega];exact c
    ·exact .inl ⟨k + 1,Nb _,c,λm' h'=>h1 m' (by omega)⟩
 rcases key n (Nb _) with ⟨m,h1,h2,h3⟩ | h1
 ·exact ⟨m,by omega,h2,h3⟩
 ·exact absurd (h1 n (Nb _)) (by rw [hn2];exact hn)
noncomputable def Reach (mask:Nat) (P:List Nat) (h:Int) (j:Nat):Prop:=∃n,pos mask h n=j/\∀m,m < n->pos mask h m∈P
theorem Reach.mono {mask:Nat}{P P':List Nat}{h:Int}{j:Nat}(r:Reach mask P h j) (s:∀x∈P,x∈P'):Reach mask P' h j:=
 let ⟨n,h1,h2⟩:=r;⟨n,h1,λm hm=>s _ (h2 m hm)⟩
structure Tab (t:OU) (es:Array (Int×M4)) (L:List (Nat×Int×M4)):Prop where
 dm:t.dummies=#[]
 pl:t.place.toList=L.map (·.1)
 en:es.toList=L.map (·.2)
 so:(L.map (·.1)).Pairwise (· < ·)
 bd:∀e∈L,e.1<=t.mask
 mo:jr t.mask
 fl:L.length<=t.mask
 pr:∀e∈L,Reach t.mask (L.map (·.1)) e.2.1 e.1
section
variable {t:OU}{es:Array (Int×M4)}{L:List (Nat×Int×M4)}
theorem Tab.at_ (T:Tab t es L){i:Nat}{e:Nat×Int×M4}(h:L[i]?=some e):t.place[i]?=some e.1/\es[i]?=some e.2:=by
 constructor
 ·rw [<-N3,T.pl,Nx,h];rfl
 ·rw [<-N3,T.en,Nx,h];rfl
theorem Tab.sop (T:Tab t es L):t.place.toList.Pairwise (· < ·):=by rw [T.pl];exact T.so
theorem vt (T:Tab t es L) (hashAt:Nat->Int) (hA:∀i e,es[i]?=some e->hashAt i=e.1) (h:Int) (n0:Nat) (hf:pos t.mask h n0∉L.map (·.1)) (hb:∀m,m < n0->pos t.mask h m∈L.map (·.1)):
  ∀(d n F:Nat),n0 - n=d->n<=n0->d < F->∃m,n<=m/\m<=n0/\(∀k,n<=k->k < m->∀e∈L,e.1=pos t.mask h k->e.2.1≠h)/\
   ((m=n0/\probe.go t hashAt h F (st t.mask h n)=some (.empty (pos t.mask h n0) none))\/(m < n0/\∃i e,L[i]?=some e/\e.1=pos t.mask h m/\e.2.1=h/\probe.go t hashAt h F (st t.mask h n)=some (.candidate (pos t.mask h m) i (st t.mask h (m + 1)))))
 | d,n,0,_,_,h=>absurd h (Om _)
 | d,n,F + 1,hd,hn,hF=>by
  by_cases c:n=n0
  ·subst c;refine ⟨n,Nb _,Nb _,λk h1 h2=>by omega,.inl ⟨rfl,?_⟩⟩;unfold probe.go;rw [ql T.dm (by rw [T.pl];exact hf)];show some (Met.empty _ (st t.mask h n).dummy)=_;rw [lg]
  ·obtain ⟨e,he,ej⟩:=M9.mp (hb n (by omega));obtain ⟨i,hi,rfl⟩:=ND.mp he;have hL:L[i]?=some L[i]:=Nc hi;obtain ⟨p1,p2⟩:=T.at_ hL;have hs:t.slot (pos t.mask h n)=.live i:=mQ T.sop (by rw [p1,ej]);have hh:=hA i _ p2;have uniq:∀e∈L,e.1=pos t.mask h n->e=L[i]:=λe he q=>by
    obtain ⟨k,hk,rfl⟩:=ND.mp he;have:k=i:=by
     have sw:=Ob.mp T.so;rcases Qi k i with c | c | c
     ·have:=sw k i (by simpa using hk) (by simpa using hi) c;simp at this;omega
     ·exact c
     ·have:=sw i k (by simpa using hi) (by simpa using hk) c;simp at this;omega
    subst this;rfl
   by_cases q:L[i].2.1=h
   ·refine ⟨n,Nb _,by omega,λk h1 h2=>by omega,.inr ⟨by omega,i,L[i],hL,ej,q,?_⟩⟩;unfold probe.go;rw [hs];show (if (hashAt i == h)=true then _ else _)=_;rw [hh,q,if_pos (by simp)];rfl
   ·obtain ⟨m,m1,m2,m3,m4⟩:=vt T hashAt hA h n0 hf hb (n0 - (n + 1)) (n + 1) F rfl (by omega) (by omega);have eg:probe.go t hashAt h (F + 1) (st t.mask h n)=probe.go t hashAt h F (st t.mask h (n + 1)):=by rw [probe.go,hs];show (if (hashAt i == h)=true then _ else _)=_;rw [hh,if_neg (by simpa using q)];rfl
    rw [eg];refine ⟨m,by omega,m2,λk h1 h2 e he' ek=>?_,m4⟩;by_cases z:k=n
    ·subst z;rw [uniq e he' ek];exact q
    ·exact m3 k (by omega) h2 e he' ek
theorem lG {α:Type}(xs:Array α) (p:Nat) (x:α) (hp:p<=xs.size):(insertAt xs p x).toList=xs.toList.take p++x::xs.toList.drop p:=by
 unfold insertAt;simp
 (exact Px (by simp))
theorem Tab.put (T:Tab t es L) (h:Int) (x:M4) (n0:Nat) (hf:pos t.mask h n0∉L.map (·.1)) (hb:∀m,m < n0->pos t.mask h m∈L.map (·.1)) (hj:pos t.mask h n0<=t.mask) (hl:L.length + 1<=t.mask):
  ∃L',Tab (t.put (pos t.mask h n0)).1 (insertAt es (t.put (pos t.mask h n0)).2 (h,x)) L'/\L'.Perm ((pos t.mask h n0,h,x)::L):=by
 obtain ⟨b1,b2,b3⟩:=kG t.place (pos t.mask h n0) T.sop;generalize hp:below t.place (pos t.mask h n0)=p at b1 b2 b3;have hsz:t.place.size=L.length:=by rw [<-M_,T.pl,M7]
 have hes:es.size=L.length:=by rw [<-M_,T.en,M7]
 have perm:(L.take p++(pos t.mask h n0,h,x)::L.drop p).Perm ((pos t.mask h n0,h,x)::L):=by
  have:=Ue (a:=(pos t.mask h n0,h,x)) (l₁:=L.take p) (l₂:=L.drop p)
  rwa [N5] at this
 have e1:(t.put (pos t.mask h n0))=({t with place:=insertAt t.place p (pos t.mask h n0),dummies:=#[]},p):=by unfold SetTable.put;rw [hp,T.dm];rfl
 rw [e1];have getP:∀i (hi:i < L.length),t.place.getD i 0=L[i].1:=λi hi=>by
  have:=(T.at_ (Nc hi)).1;have hi':i < t.place.size:=by omega
  simp [PF,hi'];rw [QE hi'] at this;exact Ow this
 refine ⟨L.take p++(pos t.mask h n0,h,x)::L.drop p,⟨rfl,?_,?_,?_,λe he=>?_,T.mo,?_,λe he=>?_⟩,perm⟩
 ·show (insertAt t.place p (pos t.mask h n0)).toList=_;rw [lG _ _ _ b1,T.pl];simp [RS,RT]
 ·show (insertAt es p (h,x)).toList=_;rw [lG _ _ _ (by omega),T.en];simp [RS,RT]
 ·rw [NW,Nz,OX];refine ⟨?_,?_,?_⟩
  ·rw [RS];exact T.so.sublist (Q_ _ _)
  ·rw [Ph];refine ⟨λa ha=>?_,?_⟩
   ·obtain ⟨e,he,rfl⟩:=M9.mp ha;obtain ⟨i,hi,rfl⟩:=ND.mp he;rw [Pc];rw [O5] at hi;have:=b3 (p + i) (by omega) (by omega);rw [getP _ (by omega)] at this;rcases Vx this with c | c
    ·exact c
    ·exact absurd (M9.mpr ⟨L[p + i],O7 _,c.symm⟩) hf
   ·rw [RT];exact T.so.sublist (PJ _ _)
  ·intro a ha b hb;obtain ⟨e,he,rfl⟩:=M9.mp ha;obtain ⟨i,hi,rfl⟩:=ND.mp he;rw [PK];rw [N7] at hi;have h1:=b2 i (by omega);rw [getP _ (by omega)] at h1
   (rcases Nj.mp hb with rfl | hb)
   ·exact h1
   ·obtain ⟨e,he,rfl⟩:=M9.mp hb;obtain ⟨k,hk,rfl⟩:=ND.mp he;rw [Pc];rw [O5] at hk;have:=b3 (p + k) (by omega) (by omega);rw [getP _ (by omega)] at this;omega
 ·rcases Nj.mp (perm.mem_iff.mp he) with rfl | he
  ·exact hj
  ·exact T.bd e he
 ·rw [perm.length_eq];exact hl
 ·have sub:∀y∈L.map (·.1),y∈(L.take p++(pos t.mask h n0,h,x)::L.drop p).map (·.1):=λy hy=>by obtain ⟨e,he,rfl⟩:=M9.mp hy;exact M9.mpr ⟨e,perm.mem_iff.mpr (Na _ he),rfl⟩
  rcases Nj.mp (perm.mem_iff.mp he) with rfl | he
  ·exact ⟨n0,rfl,λm hm=>sub _ (hb m hm)⟩
  ·exact (T.pr e he).mono sub
end
theorem kC (mask:Nat) (h:Int) (n i p m:Nat) (e:st mask h n={j:=i,more:=m,i:=i,perturb:=p,dummy:=none}):∀r,r<=m->st mask h (n + r)={j:=i + r,more:=m - r,i:=i,perturb:=p,dummy:=none}
 | 0,_=>e
 | r + 1,hr=>by show advance _ (st mask h (n + r))=_;rw [kC mask h n i p m e r (by omega)];unfold advance;rw [if_pos (by show m - r > 0;omega)];show Probe.mk _ _ _ _ _=_;congr 1
theorem Bp (mask:Nat) (h:Int) (k n:Nat) (e:st mask h n={j:=(tn mask h k).1,more:=runEnd mask (tn mask h k).1 - (tn mask h k).1,i:=(tn mask h k).1,perturb:=(tn mask h k).2,dummy:=none}):
  st mask h (n + (runEnd mask (tn mask h k).1 - (tn mask h k).1) + 1)={j:=(tn mask h (k + 1)).1,more:=runEnd mask (tn mask h (k + 1)).1 - (tn mask h (k + 1)).1,i:=(tn mask h (k + 1)).1,perturb:=(tn mask h (k + 1)).2,dummy:=none}:=by show advance _ (st mask h (n + (runEnd mask (tn mask h k).1 - (tn mask h k).1)))=_;rw [kC mask h n _ _ _ e _ (Nb _)];unfold advance;simp;exact ⟨rfl,rfl,rfl,rfl⟩
theorem rM (mask:Nat) (h:Int) (owner:Array (Option Nat)) (G:List Nat) (ho:∀j,j<=mask->((owner.getD j (some 0)).isNone=true↔j∉G)):
  ∀(f k n:Nat),st mask h n={j:=(tn mask h k).1,more:=runEnd mask (tn mask h k).1 - (tn mask h k).1,i:=(tn mask h k).1,perturb:=(tn mask h k).2,dummy:=none}->(∀m,m < n->pos mask h m∈G)->
   (∃n',layClean.free mask owner f (tn mask h k).1 (tn mask h k).2=some (pos mask h n')/\pos mask h n'<=mask/\pos mask h n'∉G/\∀m,m < n'->pos mask h m∈G)\/(layClean.free mask owner f (tn mask h k).1 (tn mask h k).2=none/\∀r,r < f->(tn mask h (k + r)).1∈G)
 | 0,k,n,e,hb=>.inr ⟨rfl,λr hr=>absurd hr (Om _)⟩
 | f + 1,k,n,e,hb=>by
  have hi:=zh mask h k;have re:runEnd mask (tn mask h k).1<=mask/\(tn mask h k).1<=runEnd mask (tn mask h k).1:=by unfold runEnd;split <;> omega
  unfold layClean.free;cases q:(Ng (runEnd mask (tn mask h k).1 + 1 - (tn mask h k).1)).find? λr=>(owner.getD ((tn mask h k).1 + r) (some 0)).isNone with
  | some r=>
   have h1:=List.find?_some q;have h2:=NQ.mp (List.mem_of_find?_eq_some q);have h3:pos mask h (n + r)=(tn mask h k).1 + r:=by show (st mask h (n + r)).j=_;rw [kC mask h n _ _ _ e r (by omega)]
   refine .inl ⟨n + r,?_,?_,?_,?_⟩
   ·show some _=_;rw [h3]
   ·rw [h3];omega
   ·rw [h3];exact (ho _ (by omega)).mp h1
   ·intro m hm;by_cases c:m < n
    ·exact hb m c
    ·obtain ⟨s,rfl⟩:∃s,m=n + s:=⟨m - n,by omega⟩;have h4:pos mask h (n + s)=(tn mask h k).1 + s:=by show (st mask h (n + s)).j=_;rw [kC mask h n _ _ _ e s (by omega)]
     rw [h4];refine PY λz=>?_;have z':=(ho ((tn mask h k).1 + s) (by omega)).mpr z;rw [List.find?_eq_some_iff_append] at q;obtain ⟨_,as,bs,eq,hall⟩:=q;have hs:s∈as:=by
      have hlen:as.length=r:=by
       have hl:as.length < (Ng (runEnd mask (tn mask h k).1 + 1 - (tn mask h k).1)).length:=by rw [eq];simp
       have e3:(Ng (runEnd mask (tn mask h k).1 + 1 - (tn mask h k).1))[as.length]?=some r:=by rw [eq];simp
       rw [Oo] at hl;rw [SK hl] at e3;exact Ow e3
      have e4:(Ng (runEnd mask (tn mask h k).1 + 1 - (tn mask h k).1))[s]?=some s:=SK (by omega);rw [eq,PR (by omega)] at e4;exact NB e4
     have:=hall s hs;rw [z'] at this;exact absurd this (by decide)
  | none=>
   have hall:=List.find?_eq_none.mp q;have occ:∀s,s<=runEnd mask (tn mask h k).1 - (tn mask h k).1->(tn mask h k).1 + s∈G:=λs hs=>PY λz=>by have z':=(ho ((tn mask h k).1 + s) (by omega)).mpr z;exact hall s (NQ.mpr (by omega)) z'
   have nb:∀m,m < n + (runEnd mask (tn mask h k).1 - (tn mask h k).1) + 1->pos mask h m∈G:=λm hm=>by
    by_cases c:m < n
    ·exact hb m c
    ·obtain ⟨s,rfl⟩:∃s,m=n + s:=⟨m - n,by omega⟩;have h4:pos mask h (n + s)=(tn mask h k).1 + s:=by show (st mask h (n + s)).j=_;rw [kC mask h n _ _ _ e s (by omega)]
     rw [h4];exact occ s (by omega)
   rcases rM mask h owner G ho f (k + 1) _ (Bp mask h k n e) nb with ⟨n',g1,g2',g3⟩ | ⟨g1,g2'⟩
   ·exact .inl ⟨n',g1,g2',g3⟩
   ·refine .inr ⟨g1,λr hr=>?_⟩;cases r with
    | zero=>have:=occ 0 (Ny _);exact this
    | succ r=>have:=g2' r (by omega);rwa [show k + (r + 1)=k + 1 + r by omega]
theorem Es {mask:Nat}(hm:jr mask) (h:Int) (owner:Array (Option Nat)) (G:List Nat) (hG:G.length<=mask) (ho:∀j,j<=mask->((owner.getD j (some 0)).isNone=true↔j∉G)):
  ∃n',layClean.free mask owner (turns mask) (bits h % (mask + 1)) (bits h)=some (pos mask h n')/\pos mask h n'<=mask/\pos mask h n'∉G/\∀m,m < n'->pos mask h m∈G:=by
 rcases rM mask h owner G ho (turns mask) 0 0 rfl (λm hm=>absurd hm (Om _)) with a | ⟨_,b⟩
 ·exact a
 ·exfalso;have all:∀j,j<=mask->j∈G:=λj hj=>by obtain ⟨r,hr,e⟩:=Ab hm (tn mask h 12).1 j (zh mask h 12) hj;have:=b (12 + r) (by unfold turns;omega);rw [RA,vO,e] at this;exact this
  have:(Ng (mask + 1)).length<=G.length:=NI Qs λj hj=>all j (by have:=NQ.mp hj;omega);rw [Oo] at this;omega
structure Own (mask:Nat) (owner:Array (Option Nat)) (G:List Nat) (hs:List Int):Prop where
 sz:owner.size=mask + 1
 ln:G.length=hs.length
 nd:G.Nodup
 bd:∀j∈G,j<=mask
 at_:∀j,j<=mask->owner.getD j none=if j∈G then some (G.idxOf j) else none
 pr:∀k (h1:k < G.length) (h2:k < hs.length),Reach mask G hs[k] G[k]
theorem Own.occ {mask:Nat}{owner:Array (Option Nat)}{G:List Nat}{hs:List Int}(O:Own mask owner G hs):∀j,j<=mask->((owner.getD j (some 0)).isNone=true↔j∉G):=λj hj=>by
 have e:owner.getD j (some 0)=owner.getD j none:=by
  have:j < owner.size:=by rw [O.sz];omega
  simp [PF,this]
 rw [e,O.at_ j hj];split <;> simp_all
theorem Own.step {mask:Nat}{owner:Array (Option Nat)}{G:List Nat}{hs:List Int}(O:Own mask owner G hs) (hm:jr mask) (hl:hs.length<=mask) (h:Int):
  ∃j,layClean.free mask owner (turns mask) (bits h % (mask + 1)) (bits h)=some j/\Own mask (owner.setIfInBounds j (some hs.length)) (G++[j]) (hs++[h]):=by
 obtain ⟨n',e,b,f,r⟩:=Es hm h owner G (by rw [O.ln];exact hl) O.occ;refine ⟨_,e,⟨by rw [Array.size_setIfInBounds,O.sz],by simp [O.ln],?_,λj hj=>?_,λj hj=>?_,λk h1 h2=>?_⟩⟩
 ·rw [Tz];refine ⟨O.nd,by simp,λa ha b hb=>?_⟩;rw [NH] at hb;subst hb;intro z;subst z;exact f ha
 ·rcases NV.mp hj with h1 | h1
  ·exact O.bd j h1
  ·rw [NH.mp h1];exact b
 ·have hsz:j < owner.size:=by rw [O.sz];omega
  by_cases c:j=pos mask h n'
  ·subst c;rw [if_pos (by simp)];simp [PF,hsz];rw [VQ,if_neg f];simp [O.ln]
  ·have e1:(owner.setIfInBounds (pos mask h n') (some hs.length)).getD j none=owner.getD j none:=by simp [PF,hsz];rw [Array.getElem_setIfInBounds_ne];exact λz=>c z.symm
   rw [e1,O.at_ j hj];by_cases d:j∈G
   ·rw [if_pos d,if_pos (Rj _ d),VQ,if_pos d]
   ·rw [if_neg d,if_neg (by simp [d,c])]
 ·have sub:∀x∈G,x∈G++[pos mask h n']:=λx hx=>Rj _ hx;by_cases c:k < G.length
  ·have:=(O.pr k c (by rw [<-O.ln];exact c)).mono sub;rw [TF c,TF (by rw [<-O.ln];exact c)];exact this
  ·have hk:k=G.length:=by simp at h1;omega
   subst hk;have e1:(G++[pos mask h n'])[G.length]=pos mask h n':=by simp
   have e2:(hs++[h])[G.length]=h:=by simp [O.ln]
   rw [e1,e2];exact ⟨n',rfl,λm hm=>sub _ (r m hm)⟩
theorem uZ {mask:Nat}(hm:jr mask):∀(MT hs:List Int) (owner:Array (Option Nat)) (G:List Nat),Own mask owner G hs->(hs++MT).length<=mask->∃owner' G',MT.foldl (λacc h=>do
  let (owner,k) <-acc
  let j <-layClean.free mask owner (turns mask) (bits h % (mask + 1)) (bits h)
  pure (owner.setIfInBounds j (some k),k + 1)) (some (owner,hs.length))=some (owner',(hs++MT).length)/\Own mask owner' G' (hs++MT)
 | [],hs,owner,G,O,_=>⟨owner,G,by simp,by simpa using O⟩
 | h::MT,hs,owner,G,O,hl=>by
  obtain ⟨j,e,O'⟩:=O.step hm (by simp at hl;omega) h;obtain ⟨owner',G',e2,O2⟩:=uZ hm MT (hs++[h]) _ _ O' (by simpa using hl);refine ⟨owner',G',?_,by simpa using O2⟩;rw [RL];have e3:(do
   let (owner,k) <-some (owner,hs.length)
   let j <-layClean.free mask owner (turns mask) (bits h % (mask + 1)) (bits h)
   pure (owner.setIfInBounds j (some k),k + 1):Option (Array (Option Nat)×Nat))=some (owner.setIfInBounds j (some hs.length),(hs++[h]).length):=by show Option.bind (layClean.free mask owner (turns mask) (bits h % (mask + 1)) (bits h)) _=_;rw [e];simp
  rw [e3];simpa using e2
theorem ES (mask:Nat):Own mask (Array.replicate (mask + 1) none) [] []:=
 ⟨by simp,rfl,QW,λj h=>absurd h (by simp),λj hj=>by simp [PF],λk h1=>absurd h1 (by simp)⟩
theorem AA {mask:Nat}(hm:jr mask) (hs:Array Int) (hl:hs.size<=mask):∃owner G,layClean mask hs=some owner/\Own mask owner G hs.toList:=by obtain ⟨owner,G,e,O⟩:=uZ hm hs.toList [] _ [] (ES mask) (by simpa using hl);refine ⟨owner,G,?_,by simpa using O⟩;unfold layClean;rw [<-Array.foldl_toList];have e':=congrArg (YF (·.1)) e;exact e'
theorem ED {t:OU}{es:Array (Int×M4)}{mask:Nat}(hm:jr mask) (finger moves:Nat) (led plain:Bool) (hl:es.size<=mask):
  ∃t' MZ L',laid mask finger moves led plain (es.map (·.1))=some (t',MZ)/\t'.mask=mask/\t'.led=led/\t'.plain=plain/\Tab t' (MZ.filterMap (es[·]?)) L'/\(MZ.filterMap (es[·]?)).toList.Perm es.toList:=by
 obtain ⟨owner,G,e,O⟩:=AA hm (es.map (·.1)) (by simpa using hl);have hlen:G.length=es.size:=by rw [O.ln];simp
 (let live:=(Ng (mask + 1)).filterMap λj=>(owner.getD j none).map (j,·))
 have lv:∀p,p∈live↔p.1∈G/\p.2=G.idxOf p.1:=λp=>by
  show p∈(Ng (mask + 1)).filterMap _↔_;rw [RD];constructor
  ·rintro ⟨j,hj,q⟩;have hj':j<=mask:=by have:=NQ.mp hj;omega
   rw [O.at_ j hj'] at q;by_cases c:j∈G
   ·rw [if_pos c] at q;have q:(j,G.idxOf j)=p:=by simpa using q
    subst q;exact ⟨c,rfl⟩
   ·rw [if_neg c] at q;exact absurd q (by simp)
  ·rintro ⟨h1,h2⟩;refine ⟨p.1,NQ.mpr (by have:=O.bd _ h1;omega),?_⟩;rw [O.at_ _ (O.bd _ h1),if_pos h1];show some (p.1,G.idxOf p.1)=some p;rw [<-h2]
 have so1:live.Pairwise λa b=>a.1 < b.1:=by
  show ((Ng (mask + 1)).filterMap _).Pairwise _;rw [T3];refine QY.imp ?_;intro a b hab x hx y hy;cases q1:owner.getD a none with
  | none=>rw [q1] at hx;exact absurd hx (by simp)
  | some k1=>cases q2:owner.getD b none with
   | none=>rw [q2] at hy;exact absurd hy (by simp)
   | some k2=>
    rw [q1] at hx;rw [q2] at hy;have hx:(a,k1)=x:=by simpa using hx
    have hy:(b,k2)=y:=by simpa using hy
    subst hx;subst hy;exact hab
 have ord:(live.map (·.2)).Perm (Ng es.size):=by
  rw [Rh _ Qs]
  ·intro k;rw [M9,NQ];constructor
   ·rintro ⟨p,hp,rfl⟩;obtain ⟨h1,h2⟩:=(lv p).mp hp;rw [h2,<-hlen];exact Oq h1
   ·intro hk;rw [<-hlen] at hk;exact ⟨(G[k],k),(lv _).mpr ⟨O7 _,(O.nd.idxOf_getElem k hk).symm⟩,rfl⟩
  ·show (live.map (·.2)).Pairwise _;rw [OB];refine (Qz.mp so1).imp ?_;rintro a b ⟨ha,hb,hab⟩ z;obtain ⟨a1,a2⟩:=(lv a).mp ha;obtain ⟨b1,b2⟩:=(lv b).mp hb;rw [a2,b2] at z;have ga:=QZ (Oq a1);have gb:=QZ (Oq b1);have:a.1=b.1:=by rw [<-ga,<-gb];congr 1
   omega
 have inR:∀p∈live,∃h:p.2 < es.size,True:=λp hp=>by have:p.2∈live.map (·.2):=M9.mpr ⟨p,hp,rfl⟩;exact ⟨NQ.mp (ord.mem_iff.mp this),trivial⟩
 let L':=live.map λp=>(p.1,es.getD p.2 default)
 have eL:(live.map (·.2)).toArray.filterMap (es[·]?)=(L'.map (·.2)).toArray:=by
  rw [List.filterMap_toArray];congr 1;show WT _ (live.map _)=(live.map _).map _;rw [Vf,N4];have:∀(l:List (Nat×Nat)),(∀p∈l,p∈live)->WT ((λx=>es[x]?) ∘ λx=>x.snd) l=YY ((λx=>x.snd) ∘ λp=>(p.fst,es.getD p.snd default)) l:=by
   intro l
   induction l with
   | nil=>intro _;rfl
   | cons p l ih=>
    intro hl;obtain ⟨hp,_⟩:=inR p (hl p (by simp));rw [List.filterMap_cons_some (b:=es.getD p.2 default)]
    ·rw [Nz,ih λq hq=>hl q (by simp [hq])];rfl
    ·show es[p.2]?=_;simp [PF,hp]
  exact this live λp hp=>hp
 have eP:L'.map (·.1)=live.map (·.1):=by show (live.map _).map _=_;rw [N4];rfl
 have memP:∀j,j∈live.map (·.1)↔j∈G:=λj=>by
  rw [M9];constructor
  ·rintro ⟨p,hp,rfl⟩;exact ((lv p).mp hp).1
  ·intro h;exact ⟨(j,G.idxOf j),(lv _).mpr ⟨h,rfl⟩,rfl⟩
 have lenL:L'.length=es.size:=by have:=ord.length_eq;rw [M7,Oo] at this;show (live.map _).length=_;rw [M7,this]
 refine ⟨{mask,place:=(live.map (·.1)).toArray,dummies:=#[],finger,led,moves,plain},(live.map (·.2)).toArray,L',?_,rfl,rfl,rfl,⟨rfl,?_,?_,?_,λx hx=>?_,hm,?_,λx hx=>?_⟩,?_⟩
 ·unfold laid;rw [e];rfl
 ·show (live.map (·.1)).toArray.toList=_;rw [eP]
 ·rw [eL]
 ·rw [eP,OB];exact so1
 ·obtain ⟨p,hp,rfl⟩:=M9.mp hx;exact O.bd _ ((lv p).mp hp).1
 ·show L'.length<=mask;rw [lenL];exact hl
 ·obtain ⟨p,hp,rfl⟩:=M9.mp hx;obtain ⟨h1,h2⟩:=(lv p).mp hp;obtain ⟨hs,_⟩:=inR p hp;have r:=O.pr p.2 (by omega) (by simpa using hs);have e1:G[p.2]'(by omega)=p.1:=by have:=QZ (Oq h1);rw [<-this];congr 1
  have e2:((es.map (·.1)).toList[p.2]'(by simpa using hs))=(es.getD p.2 default).1:=by simp [PF,hs]
  rw [e1,e2] at r;show Reach mask (L'.map (·.1)) (es.getD p.2 default).1 p.1;refine r.mono λy hy=>?_;rw [eP];exact (memP y).mpr hy
 ·rw [eL];show (L'.map (·.2)).Perm es.toList;have e1:(live.map (·.2)).map (λk=>es.getD k default)=L'.map (·.2):=by show _=(live.map _).map _;rw [N4,N4];rfl
  rw [<-e1];refine (ord.map _).trans ?_;have:(Ng es.size).map (λk=>es.getD k default)=es.toList:=by refine P8 (by simp) λi h1 h2=>?_;simp at h1;simp [PF,h1]
  rw [this]
theorem r6 {t:OU}{es:Array (Int×M4)}(hm:jr (sizeAbove w - 1)) (hl:es.size<=sizeAbove w - 1):
  ∃t' MZ L',t.relaid (es.map (·.1)) w=some (t',MZ)/\t'.mask=sizeAbove w - 1/\t'.led=t.led/\t'.plain=t.plain/\Tab t' (MZ.filterMap (es[·]?)) L'/\(MZ.filterMap (es[·]?)).toList.Perm es.toList:=
 ED (t:=t) hm t.finger (t.movedTo (sizeAbove w - 1)) t.led t.plain hl
end ST
namespace DL
open PySem PySem.Spec PyProof.Rows L2
mutual
noncomputable def iN:D->Nat
 | .int _=>1
 | .tup xs=>dJ xs + 1
 | _=>0
noncomputable def dJ:List D->Nat
 | []=>0
 | x::xs=>iN x + dJ xs
end
theorem nK:∀{ds:List D},areKeys ds=true->∀d∈ds,isKey d=true
 | [],_,_,h=>nomatch h
 | x::xs,h,d,hm=>by
  unfold areKeys at h;rw [M8] at h
  (rcases Nj.mp hm with rfl | hm)
  ·exact h.1
  ·exact nK h.2 d hm
mutual
theorem uW:∀{d e:D},isKey d=true->isKey e=true->aV d e=true->d=e
 | .int i,.int j,_,_,h=>by simp [aV] at h;rw [h]
 | .tup xs,.tup ys,hd,he,h=>by unfold isKey at hd he;simp only [aV] at h;rw [keys_eq hd he h]
 | .int _,.tup _,_,_,h=>by simp [aV] at h
 | .tup _,.int _,_,_,h=>by simp [aV] at h
theorem keys_eq:∀{ds es:List D},areKeys ds=true->areKeys es=true->bW ds es=true->ds=es
 | [],[],_,_,_=>rfl
 | x::xs,y::ys,hd,he,h=>by unfold areKeys at hd he;rw [M8] at hd he;simp only [bW,M8] at h;rw [uW hd.1 he.1 h.1,keys_eq hd.2 he.2 h.2]
 | [],_::_,_,_,h=>by simp [bW] at h
 | _::_,[],_,_,h=>by simp [bW] at h
end
theorem qK (hd:isKey d=true) (he:isKey e=true):aV d e=true↔d=e:=⟨uW hd he,λh=>by rw [h];exact fD _⟩
section
variable {prog:Nt}{w:NS}{E:M4->M5->Prop}{K:M1}{J:Hp}
noncomputable def zw (prog:Nt) (w:NS) (A:NK) (K:M1) (J:Hp) (d:D) (u:M4):Prop:=
 ∀(E:M4->M5->Prop) (s:M5) (Q:Int->M5->Prop),HF K J s->Q (bB d) {s with toks:=s.toks + iN d}->Nm (Nq prog w) A (pyHash u) Q E s
inductive iU (prog:Nt) (w:NS) (A:NK) (K:M1) (J:Hp):List D->List M4->Prop
 | nil:iU prog w A K J [] []
 | cons {d:D}{u:M4}{ds:List D}{us:List M4}:zw prog w A K J d u->iU prog w A K J ds us->iU prog w A K J (d::ds) (u::us)
theorem pR:∀(a b:List D),cF (a++b)=cF a++cF b
 | [],b=>rfl
 | x::a,b=>by show bB x::cF (a++b)=_;rw [pR a b];rfl
theorem pA:∀(a b:List D),dJ (a++b)=dJ a + dJ b
 | [],b=>by show dJ b=0 + _;omega
 | x::a,b=>by show iN x + dJ (a++b)=iN x + dJ a + dJ b;rw [pA a b];omega
theorem B0 {A:NK}{s:M5}{o:Obj}{its:List M4}{Q:Int->M5->Prop}(N:HF K J s) (ho:s.heap.get? a=some o) (hc:o.cls=.type "tuple") (hd:o.data=.seq its.toArray n) (hu:A.units < PN)
 (hl:iU prog w A.in1 K J ds its) (h:Q (Xa (OA (cF ds))) {s with toks:=s.toks + (dJ ds + 1)}):Nm (Nq prog w) A (pyHash (.ref a)) Q E s:=by
 have hT:s.TypeIs (.ref a) "tuple":=⟨o,ho,hc⟩;unfold pyHash
 (first | unfold pyHashByItsType | skip)
 (first | refine M0 (wpAny_cRoomFor_or (.inr hu) ?_) | skip)
 (refine M0 (RU hT Rf.lookup ?_))
 (show Nm _ _ (if (some (TV "tuple.__hash__") == some Oc)=true then _ else _) Q E s)
 (rw [if_neg (by rw [beq_builtin_none];exact N6)])
 (refine M0 (RU hT Rf.lookup ?_))
 (show Nm _ _ (callSpecialIfBoundUnlessNone? (.ref a) "__hash__" _ >>= _) Q E s)
 (refine M0 (wpAny_callSpecialIfBoundUnlessNone?_slot hT Rf (Oe Rf hT F.entry_tuple_hash ?_ (F.args_tuple_hash_1 _))))
 (show Nm _ _ (Qp (.ref a) >>= _) _ _ s)
 (refine M0 (wpAny_tupleItemsOf ho hd ?_))
 refine M0 ?_;rw [<-RV];refine QS _
  (λMT (b:Array Int) s'=>∃done left,ds=done++left/\iU prog w A.in1 K J left MT/\b.toList=cF done/\s'={s with toks:=s.toks + dJ done})
  _ ?_ ?_ _ _ ⟨[],ds,rfl,hl,rfl,rfl⟩
 ·(rintro x MT b s' ⟨done,left,rfl,hl,hb,rfl⟩)
  cases hl with
  | @cons k _ ks' _ h1 hl'=>
   refine M0 (h1 _ _ _ ⟨N.t,N.l,N.e,N.d⟩ ?_);have e1:(b.push (bB k)).toList=cF (done++[k]):=by rw [OV,pR,hb];rfl
   have e2:s.toks + dJ done + iN k=s.toks + dJ (done++[k]):=by rw [pA];show _=s.toks + (dJ done + (iN k + 0));omega
   first
    | exact M3 ⟨done++[k],ks',by simp,hl',e1,by rw [e2]⟩
    | exact M0 (M3 (M3 ⟨done++[k],ks',by simp,hl',e1,by rw [e2]⟩))
 ·(rintro b s' ⟨done,left,rfl,hl,hb,rfl⟩)
  cases hl;rw [O0] at h
  (show Nm _ _ (retInt (OA b.toList)) _ _ _)
  rw [hb];refine wpAny_ret_mkInt ?_;show Nm _ _ (if (decide (-(2:Int) ^ 63<=OA (cF done)) && decide (OA (cF done) < 2 ^ 63))=true then _ else _) Q E _;unfold Xa at h;by_cases hr:(decide (-(2:Int) ^ 63<=OA (cF done)) && decide (OA (cF done) < 2 ^ 63))=true
  ·rw [if_pos hr];rw [if_pos hr] at h
   (exact M3 (by simpa [Vy] using h))
  ·rw [if_neg hr];rw [if_neg hr] at h
   (exact M0 (Py (M3 (by simpa [Vy] using h))))
mutual
theorem qX:∀(d:D) (v:V) (u:M4) (A:NK) (s:M5),HF K J s->isKey d=true->Rep K J d v->RelV v u->A.units + dep d < PN->zw prog w A K J d u
 | .int i,v,u,A,s,N,hk,hr,rv,hu=>λE s' Q N' h=>by cases hr;obtain ⟨t,rfl⟩:=rv;exact T8 h
 | .tup ds,v,u,A,s,N,hk,hr,rv,hu=>λE s' Q N' h=>by
  cases hr with
  | tup h1 hs=>
   cases rv;obtain ⟨its,r,o,ho,hc,n,hd⟩:=N'.t _ _ h1;exact B0 N' ho hc hd (by unfold dep at hu;omega) (vW ds _ _ A.in1 s N hk hs r (by rw [in1_units];unfold dep at hu;omega)) h
 | .non,v,u,A,s,N,hk,hr,rv,hu=>nomatch hk
 | .bl _,v,u,A,s,N,hk,hr,rv,hu=>nomatch hk
 | .str _,v,u,A,s,N,hk,hr,rv,hu=>nomatch hk
 | .lst _,v,u,A,s,N,hk,hr,rv,hu=>nomatch hk
 | .emp,v,u,A,s,N,hk,hr,rv,hu=>nomatch hk
 | .exn _ _ _,v,u,A,s,N,hk,hr,rv,hu=>nomatch hk
 | .dct _ _,v,u,A,s,N,hk,hr,rv,hu=>nomatch hk
theorem vW:∀(ds:List D) (vs:List V) (us:List M4) (A:NK) (s:M5),HF K J s->areKeys ds=true->az K J ds vs->Vals vs us->A.units + deps ds < PN->iU prog w A K J ds us
 | [],vs,us,A,s,N,hk,hr,rv,hu=>by cases hr;cases rv;exact .nil
 | d::ds,vs,us,A,s,N,hk,hr,rv,hu=>by
  unfold areKeys at hk;rw [M8] at hk;unfold deps at hu;cases hr with
  | cons a b=>
   cases rv with
   | cons c e=>exact .cons (qX d _ _ A s N hk.1 a c (by omega)) (vW ds _ _ A s N hk.2 b e (by omega))
end
end
noncomputable def gm (K:M1) (J:Hp) (n:Nat) (u:M4):Prop:=∃d v,isKey d=true/\dep d<=n/\Rep K J d v/\RelV v u
section
variable {prog:Nt}{w:NS}{E:M4->M5->Prop}{K:M1}{J:Hp}{A:NK}{s:M5}
theorem uV {n:Nat}:∀{ds:List D}{vs:List V}{us:List M4},areKeys ds=true->deps ds<=n->az K J ds vs->Vals vs us->∀u∈us,gm K J n u
 | _,_,_,_,_,.nil,.nil=>λu h=>nomatch h
 | d::ds,_,_,hk,hn,.cons a b,.cons c e=>λu h=>by
  unfold areKeys at hk;rw [M8] at hk;unfold deps at hn
  (rcases Nj.mp h with rfl | h)
  ·exact ⟨d,_,hk.1,by omega,a,c⟩
  ·exact uV hk.2 (by omega) b e u h
theorem gm.cases' (N:HF K J s) (h:gm K J n u):(∃i t,u=.int i t)\/∃a o its m k,u=.ref a/\s.heap.get? a=some o/\o.cls=.type "tuple"/\o.data=.seq its m/\n=k + 1/\∀y∈its.toList,gm K J k y:=by
 obtain ⟨d,v,hk,hn,hr,rv⟩:=h;cases d with
 | int i=>
  cases hr;obtain ⟨t,rfl⟩:=rv;exact .inl ⟨_,_,rfl⟩
 | tup ds=>
  cases hr with
  | tup h1 hs=>
   cases rv;obtain ⟨its,r,o,ho,hc,m,hd⟩:=N.t _ _ h1;unfold dep at hn;obtain ⟨k,rfl⟩:∃k,n=k + 1:=⟨n - 1,by omega⟩;exact .inr ⟨_,o,_,m,k,rfl,ho,hc,hd,rfl,uV hk (by omega) hs r⟩
 | _=>cases hk
theorem ku:∀(n:Nat){u:M4}{Q:Bool->M5->Prop},HF K J s->gm K J n u->Q true s->Nm (Nq prog w) A (eqIsQuiet n u) Q E s
 | n,u,Q,N,hk,h=>by
  rcases hk.cases' N with ⟨i,t,rfl⟩ | ⟨a,o,its,m,k,rfl,ho,hc,hd,rfl,hi⟩
  ·rw [eqIsQuiet_byValue _ rfl];exact M3 h
  ·have hT:s.TypeIs (.ref a) "tuple":=⟨o,ho,hc⟩;unfold eqIsQuiet
   (refine M0 (RU hT F.slot_tuple_eq.lookup ?_))
   (show Nm _ _ (W_ (.ref a) (.type "tuple") >>= _) _ _ s)
   (refine M0 (Su hT isSubtype_tuple_tuple ?_))
   (simp only [Qd,Nn,if_false])
   (refine M0 (Pf ho hd ?_))
   refine M0 ?_;show Nm _ _ (forIn its _ _) _ _ s;rw [<-RV];refine QS _ (λMT r s'=>r.1=none/\s=s'/\∀v∈MT,gm K J k v) _ ?_ ?_ _ _ ⟨rfl,rfl,hi⟩
   ·(rintro v MT r s' ⟨hr,rfl,hall⟩)
    refine M0 (ku k N (hall v Nd) ?_)
    (simp only [Qd,Nn,if_false])
    (exact M3 ⟨rfl,rfl,λu hu'=>hall u (Na _ hu')⟩)
   ·(rintro ⟨r1,r2⟩ s' ⟨hr,rfl,_⟩)
    simp only at hr;subst hr;exact M3 h
theorem AX:∀(n:Nat){u:M4}{Q:Bool->M5->Prop},HF K J s->gm K J n u->Q true s->Nm (Nq prog w) A (hashByValue n u) Q E s
 | n,u,Q,N,hk,h=>by
  rcases hk.cases' N with ⟨i,t,rfl⟩ | ⟨a,o,its,m,k,rfl,ho,hc,hd,rfl,hi⟩
  ·cases n <;> exact M3 h
  ·have hT:s.TypeIs (.ref a) "tuple":=⟨o,ho,hc⟩;unfold hashByValue
   (refine M0 (RU hT Rf.lookup ?_))
   show Nm _ _ (XM (.ref a) >>= _) _ _ s
   (refine M0 (Pf ho hd ?_))
   refine M0 ?_;show Nm _ _ (forIn its _ _) _ _ s;rw [<-RV];refine QS _ (λMT r s'=>r.1=none/\s=s'/\∀v∈MT,gm K J k v) _ ?_ ?_ _ _ ⟨rfl,rfl,hi⟩
   ·(rintro v MT r s' ⟨hr,rfl,hall⟩)
    refine M0 (AX k N (hall v Nd) ?_)
    (simp only [Qd,Nn,if_false])
    (exact M3 ⟨rfl,rfl,λu hu'=>hall u (Na _ hu')⟩)
   ·(rintro ⟨r1,r2⟩ s' ⟨hr,rfl,_⟩)
    simp only at hr;subst hr;exact M3 h
theorem ki:∀(n:Nat){u:M4}{Q:Bool->M5->Prop},HF K J s->gm K J n u->Q false s->Nm (Nq prog w) A (VR n u) Q E s
 | n,u,Q,N,hk,h=>by
  rcases hk.cases' N with ⟨i,t,rfl⟩ | ⟨a,o,its,m,k,rfl,ho,hc,hd,rfl,hi⟩
  ·cases n <;> exact M3 h
  ·have hT:s.TypeIs (.ref a) "tuple":=⟨o,ho,hc⟩;unfold VR
   (refine M0 (Ry hT ?_))
   dsimp only
   (refine M0 (M3 ?_))
   (simp only [Qd,Nn,if_false])
   (refine M0 (Pf ho hd ?_))
   dsimp only;refine M0 ?_;show Nm _ _ (forIn its _ _) _ _ s;rw [<-RV];refine QS _ (λMT r s'=>r.1=none/\s=s'/\∀v∈MT,gm K J k v) _ ?_ ?_ _ _ ⟨rfl,rfl,hi⟩
   ·(rintro v MT r s' ⟨hr,rfl,hall⟩)
    refine M0 (ki k N (hall v Nd) ?_)
    (simp only [Nn,if_false])
    (exact M3 ⟨rfl,rfl,λu hu'=>hall u (Na _ hu')⟩)
   ·(rintro ⟨r1,r2⟩ s' ⟨hr,rfl,_⟩)
    simp only at hr;subst hr;exact M3 h
theorem HZ {Q:Bool->M5->Prop}(N:HF K J s) (hx:gm K J 8 x) (hy:∀y∈ys,gm K J 8 y) (h:Q false s):Nm (Nq prog w) A (TH x ys) Q E s:=by
 unfold TH;refine M0 ?_;refine QS _ (λMT r s'=>r.1=none/\s=s'/\∀v∈MT,gm K J 8 v) _ ?_ ?_ _ _ ⟨rfl,rfl,hy⟩
 ·(rintro v MT r s' ⟨hr,rfl,hall⟩)
  have nx:∀u∈MT,gm K J 8 u:=λu hu'=>hall u (Na _ hu');dsimp only;have hv:=hall v Nd;split
  ·split
   ·exact M3 ⟨rfl,rfl,nx⟩
   ·refine M0 (ku 8 N hx ?_)
    (simp only [Qd,Nn,if_false])
    refine M0 (ku 8 N hv ?_)
    (simp only [Qd,Nn,if_false])
    refine M0 (ki 8 N hx ?_)
    (simp only [Nn,if_false])
    refine M0 (ki 8 N hv ?_)
    (simp only [Nn,if_false])
    exact M3 ⟨rfl,rfl,nx⟩
  ·split
   ·exact M3 ⟨rfl,rfl,nx⟩
   ·refine M0 (ku 8 N hx ?_)
    (simp only [Qd,Nn,if_false])
    refine M0 (ku 8 N hv ?_)
    (simp only [Qd,Nn,if_false])
    refine M0 (ki 8 N hx ?_)
    (simp only [Nn,if_false])
    refine M0 (ki 8 N hv ?_)
    (simp only [Nn,if_false])
    exact M3 ⟨rfl,rfl,nx⟩
 ·(rintro ⟨r1,r2⟩ s' ⟨hr,rfl,_⟩)
  simp only at hr;subst hr;exact M3 h
end
end DL
namespace DL
open PySem PySem.Spec PyProof.Rows L2 ST
noncomputable def KV (K:M1) (J:Hp) (u:M4) (d:D):Prop:=(∃a,u=.ref a)/\isKey d=true/\dep d<=8/\∃v,Rep K J d v/\RelV v u
theorem KV.key {K:M1}{J:Hp}{u:M4}{d:D}(h:KV K J u d):gm K J 8 u:=let ⟨_,a,b,v,c,e⟩:=h;⟨d,v,a,b,c,e⟩
inductive dU (K:M1) (J:Hp):List (Int×M4)->List D->Prop
 | nil:dU K J [] []
 | cons {h:Int}{x:M4}{d:D}{es:List (Int×M4)}{ks:List D}:h=bB d->KV K J x d->dU K J es ks->dU K J ((h,x)::es) (d::ks)
section
variable {K:M1}{J:Hp}
theorem dU.length {es:List (Int×M4)}{ks:List D}(h:dU K J es ks):es.length=ks.length:=by
 induction h with
 | nil=>rfl
 | cons _ _ _ ih=>simp [ih]
theorem dU.at_ (h:dU K J es ks):∀{i:Nat}{e:Int×M4},es[i]?=some e->∃d,ks[i]?=some d/\KV K J e.2 d/\e.1=bB d:=by
 induction h with
 | nil=>intro i e q;simp at q
 | @cons hh x d es ks h1 h2 _ ih=>
  intro i e q;cases i with
  | zero=>simp at q;subst q;exact ⟨d,rfl,h2,h1⟩
  | succ i=>simp at q;obtain ⟨d',a,b⟩:=ih q;exact ⟨d',by simpa using a,b⟩
theorem dU.mem (h:dU K J es ks):∀e∈es,∃d∈ks,KV K J e.2 d/\e.1=bB d:=λe he=>by obtain ⟨i,hi⟩:=UI.mp he;obtain ⟨d,h1,h2⟩:=h.at_ hi;exact ⟨d,NB h1,h2⟩
theorem dU.back {es:List (Int×M4)}{ks:List D}(h:dU K J es ks){i:Nat}{d:D}(q:ks[i]?=some d):∃e,es[i]?=some e/\KV K J e.2 d/\e.1=bB d:=by
 have hi:i < es.length:=by rw [h.length];exact (Nr.mp q).1
 obtain ⟨d',h1,h2⟩:=h.at_ (Nc hi);rw [q] at h1;cases h1;exact ⟨_,Nc hi,h2⟩
theorem dU.perm {es es':List (Int×M4)}(p:es.Perm es'):∀{ks:List D},dU K J es ks->∃ks',ks.Perm ks'/\dU K J es' ks':=by
 induction p with
 | nil=>intro ks h;exact ⟨ks,.refl _,h⟩
 | cons x _ ih=>
  intro ks h;cases h with
  | cons h1 h2 h3=>obtain ⟨ks',a,b⟩:=ih h3;exact ⟨_,a.cons _,.cons h1 h2 b⟩
 | swap x y l=>
  intro ks h;cases h with
  | cons h1 h2 h3=>cases h3 with
   | cons h4 h5 h6=>exact ⟨_,.swap _ _ _,.cons h4 h5 (.cons h1 h2 h6)⟩
 | trans _ _ ih1 ih2=>
  intro ks h;obtain ⟨k1,a,b⟩:=ih1 h;obtain ⟨k2,c,d⟩:=ih2 b;exact ⟨k2,a.trans c,d⟩
end
theorem cA {t:OU}{es:Array (Int×M4)}(T:Tab t es L):t.fits es.size=true:=by
 have h1:t.place.size=L.length:=by rw [<-M_,T.pl,M7]
 have h2:es.size=L.length:=by rw [<-M_,T.en,M7]
 have h3:t.fill=L.length:=by unfold Vz;rw [T.dm,h1];rfl
 unfold SetTable.fits;rw [h1,h2,h3];simp [T.fl]
theorem FD {t:OU}(T:Tab t es L):t.gaveWay=false:=by unfold SetTable.gaveWay;rcases T.mo with h | h | h <;> rw [h] <;> rfl
section
variable {prog:Nt}{w:NS}{E:M4->M5->Prop}{K:M1}{J:Hp}{A:NK}{s:M5}
theorem search {a:Nu}{o:Obj}{es:Array (Int×M4)}{ep:Nat}{t:OU}{L:List (Nat×Int×M4)}{ks:List D}{x:M4}{d:D}{Q:SetFound->M5->Prop}(N:HF K J s) (ho:s.heap.get? a=some o) (hd:o.data=.set es ep t) (T:Tab t es L) (en:dU K J es.toList ks)
  (hx:KV K J x d) (hu:A.units + 8 < PN) (n0:Nat) (hf:pos t.mask (bB d) n0∉L.map (·.1)) (hb:∀m,m < n0->pos t.mask (bB d) m∈L.map (·.1)) (hn0:n0<=10 * (t.mask + 12))
  (q1:d∈ks->Q (.there none) s) (q2:d∉ks->Q (.free (pos t.mask (bB d) n0) false) s):
  ∀(fuel n:Nat) (stand:Option SetTable.Probe),n<=n0->n0 - n < fuel->stand.getD (t.probeStart (bB d))=st t.mask (bB d) n->(∀k,k < n->∀(i:Nat) (e:Nat×Int×M4),L[i]?=some e->e.1=pos t.mask (bB d) k->ks[i]?≠some d)->
   Nm (Nq prog w) A (Xy a x (bB d) true fuel stand) Q E s
 | 0,n,stand,h1,h2,h3,h4=>absurd h2 (Om _)
 | fuel + 1,n,stand,h1,h2,h3,h4=>by
  have esL:∀i,es[i]?=(L[i]?).map (λe:Nat×Int×M4=>e.2):=λi=>by rw [<-N3,T.en,Nx]
  unfold Xy;refine M0 (Pd ho hd (cA T) ?_);dsimp only;rw [FD T]
  (simp only [Nn,if_false])
  rw [h3];obtain ⟨m,m1,m2,m3,m4⟩:=vt T (λi=>(es[i]?.map (·.1)).getD 0) (λi e q=>by rw [q];rfl) (bB d) n0 hf hb (n0 - n) n (10 * WU t.mask) rfl h1 (by unfold WU;omega);generalize hP:SetTable.probe t _ (bB d) (st t.mask (bB d) n)=r;rcases m4 with ⟨rfl,m4⟩ | ⟨m5,i,e,m6,m7,m8,m4⟩
  ·have:r=_:=hP.symm.trans m4;subst this;dsimp only;refine M3 (q2 λhm=>?_);obtain ⟨i,hi⟩:=UI.mp hm;obtain ⟨e,e1,e2,e3⟩:=en.back hi;rw [N3,esL] at e1;obtain ⟨e',e4,rfl⟩:=Option.map_eq_some_iff.mp e1;have hm':=NB e4;obtain ⟨k,k1,k2⟩:=T.pr _ hm';rw [e3] at k1 k2;have kl:k < m:=by
    rcases Qi k m with c | c | c
    ·exact c
    ·subst c;rw [k1] at hf;exact absurd (M9.mpr ⟨_,hm',rfl⟩) hf
    ·exact absurd (k2 m c) hf
   by_cases c:k < n
   ·exact h4 k c i e' e4 k1.symm hi
   ·exact m3 k (by omega) kl e' hm' k1.symm e3
  ·have:r=_:=hP.symm.trans m4;subst this;dsimp only;have hei:es[i]?=some e.2:=by rw [esL,m6];rfl
   obtain ⟨d',f1,f2,f3⟩:=en.at_ (by rw [N3];exact hei);obtain ⟨⟨ya,g0⟩,g1,g2',v',g3,g4⟩:=id f2;obtain ⟨_,x1,x2,v,x3,x4⟩:=id hx;obtain ⟨j,hh,y⟩:=e;dsimp only at g0 g4 m7 m8 hei;subst g0;have cmp:=jV N A g3 x3 g4 x4 (by omega) (by omega) (by omega);have pass:∀(k:Sem SetFound),Nm (Nq prog w) A k Q E s->Nm (Nq prog w) A (if (!t.led)=true then do
     let c <-TH x (YY (λx=>x.snd) (Array.filter (λx=>x.fst == bB d) es).toList)
     if c=true then do unsupported "set:the-search-would-show-the-table";k else k
     else k) Q E s:=λk hk=>by
    split
    ·refine M0 (HZ N hx.key (λy hy=>?_) ?_)
     ·obtain ⟨e',he',rfl⟩:=M9.mp hy;have:e'∈es.toList:=by rw [Array.toList_filter] at he';exact (Q3.mp he').1
      obtain ⟨d2,_,h2,_⟩:=en.mem e' this;exact h2.key
     ·(simp only [Nn,if_false])
      exact hk
    ·exact hk
   refine pass _ ?_;rw [hei];dsimp only;refine M0 (NU (cmp _ _ _ _ ?_));refine M0 (Pd ho hd (cA T) ?_);dsimp only;by_cases c:aV d' d=true
   ·rw [c]
    (simp only [Xr,if_true])
    refine M3 (q1 ?_);rw [<-uW g1 x1 c];exact NB f1
   ·rw [Bool.not_eq_true] at c;rw [c];have sm:t.sameMemory t.moves t.mask=some true:=by unfold SetTable.sameMemory;simp
    have sl:t.slot (pos t.mask (bB d) m)=.live i:=mQ T.sop (by rw [<-m7];exact (T.at_ m6).1);rw [sm];simp only [Sg,Nn,if_false,if_true];rw [sl];dsimp only;rw [hei];dsimp only;refine M0 (wpAny_isSame_ref_self ?_);simp only [if_true]
    (refine M0 (M3 ?_))
    dsimp only;refine search N ho hd T en hx hu n0 hf hb hn0 q1 q2 fuel (m + 1) _ (by omega) (by omega) rfl λk hk i2 e2 z1 z2 z3=>?_;by_cases c1:k < n
    ·exact h4 k c1 i2 e2 z1 z2 z3
    ·by_cases c2:k < m
     ·obtain ⟨dd,w1,_,w3⟩:=en.at_ (i:=i2) (e:=e2.2) (by rw [N3,esL,z1];rfl);rw [z3] at w1;cases w1;exact m3 k (by omega) c2 e2 (NB z1) z2 w3
     ·obtain rfl:k=m:=by omega
      have hi2:i2=i:=by
       obtain ⟨p1,p2⟩:=Nr.mp z1;obtain ⟨p3,p4⟩:=Nr.mp m6;have sw:=Ob.mp T.so;rcases Qi i2 i with c | c | c
       ·have:=sw i2 i (by simpa using p1) (by simpa using p3) c;simp [p2,p4] at this;omega
       ·exact c
       ·have:=sw i i2 (by simpa using p3) (by simpa using p1) c;simp [p2,p4] at this;omega
      subst hi2;rw [f1] at z3;cases z3;rw [fD] at c;exact absurd c (by decide)
end
structure fu (K:M1) (J:Hp) (h:OQ) (a:Nu) (led:Bool) (ks:List D) (es:Array (Int×M4)) (ep:Nat) (t:OU):Prop where
 at_:h.get? a=some {cls:=.type "set",dict:=none,data:=.set es ep t}
 tab:∃L,Tab t es L
 pl:t.plain=true
 ld:t.led=led
 rm:ks.length * 5 < t.mask * 3
 en:dU K J es.toList ks
 nd:ks.Nodup
theorem Ad (mask i:Nat) (h:i<=mask):i + (Wy mask i - i)<=mask:=by unfold Wy;split <;> omega
theorem DS (mask:Nat) (h:Int):∀n,(ST.st mask h n).j + (ST.st mask h n).more<=mask
 | 0=>Ad mask _ (Sb (Tw _ (by omega)))
 | n + 1=>by
  have ih:=DS mask h n;show (Ug _ (ST.st mask h n)).j + (Ug _ (ST.st mask h n)).more<=mask;unfold Ug;split
  ·dsimp only;omega
  ·exact Ad mask _ (Sb (Tw _ (by omega)))
theorem vq (mask:Nat) (h:Int) (n:Nat):ST.pos mask h n<=mask:=by have:=DS mask h n;show (ST.st mask h n).j<=mask;omega
theorem wK:Pn 20=32:=by decide +kernel
theorem wL:Pn 76=128:=by decide +kernel
theorem kE {es:Array (Int×M4)}{L:List (Nat×Int×M4)}(T:Tab t es L):L.length=es.size:=by rw [<-M_,T.en,M7]
section
variable {prog:Nt}{w:NS}{E:M4->M5->Prop}{K:M1}{J:Hp}{A:NK}{s:M5}
theorem IJ {es:Array (Int×M4)}{t:OU}{ks:List D}{Q:Unit->M5->Prop}(ho:s.heap.get? a=some {cls:=.type "set",dict:=none,data:=.set es ep t}) (T:Tab t es L) (hp:t.plain=true) (hl:t.led=led)
 (en:dU K J es.toList ks) (nd:ks.Nodup) (W:Nat) (hW:(Pn W=32/\ks.length=5)\/(Pn W=128/\ks.length=19))
 (h:∀(h':OQ) ks' es' ep' t',OM a s.heap h'->ks.Perm ks'->fu K J h' a led ks' es' ep' t'->Q () {s with heap:=h'}):Nm (Nq prog w) A (setRelay a W) Q E s:=by
 have hsz:es.size=ks.length:=by rw [<-M_,en.length]
 have hm:jr (Pn W - 1):=by rcases hW with ⟨h,_⟩ | ⟨h,_⟩ <;> rw [h];exact .inr (.inl rfl);exact .inr (.inr rfl)
 obtain ⟨t',MZ,L',e1,e2,e3,e4,e5,e6⟩:=r6 (t:=t) (es:=es) hm (by rcases hW with ⟨h,_⟩ | ⟨h,_⟩ <;> rw [h] <;> omega);unfold setRelay;refine M0 (Pd ho rfl (cA T) ?_);dsimp only;rw [if_neg (by rw [OG];rcases hW with ⟨h,_⟩ | ⟨h,_⟩ <;> rw [h] <;> omega)];have sz':(MZ.filterMap (es[·]?)).size=es.size:=by rw [<-M_,e6.length_eq,M_]
 rw [e1];have cnd:((MZ.filterMap (es[·]?)).size != es.size)=false:=by rw [sz'];simp
 refine M0 (Rv (a:=(MZ.filterMap (es[·]?),t')) ?_ ?_)
 ·show (if ((MZ.filterMap (es[·]?)).size != es.size)=true then _ else pure (MZ.filterMap (es[·]?),t'))=_;rw [cnd];rfl
 ·dsimp only;obtain ⟨ks',p1,p2⟩:=en.perm e6.symm;refine Sd ho rfl ?_ (by rw [sz',OG];rcases hW with ⟨_,h⟩ | ⟨_,h⟩ <;> omega);have hg:=OO (TJ (MZ.filterMap (es[·]?)) t') ho rfl;refine h _ ks' _ _ _ (O8 _ _ _) p1 ⟨hg,⟨L',e5⟩,e4.trans hp,e3.trans hl,?_,p2,p1.nodup_iff.mp nd⟩;rw [<-p1.length_eq,e2];rcases hW with ⟨h,h'⟩ | ⟨h,h'⟩ <;> rw [h,h'] <;> omega
theorem D8 {a:Nu}{es:Array (Int×M4)}{ep:Nat}{t:OU}{led:Bool}{ks:List D}{x:M4}{d:D}{Q:Bool->M5->Prop}(N:HF K J s) (S:fu K J s.heap a led ks es ep t) (hx:KV K J x d) (hu:A.units + 8 < PN) (hl:ks.length < 76)
  (q1:d∈ks->Q false s) (q2:d∉ks->∀(h':OQ) ks' es' ep' t',OM a s.heap h'->(d::ks).Perm ks'->fu K J h' a led ks' es' ep' t'->Q true {s with heap:=h'}):
  Nm (Nq prog w) A (UJ a x (bB d)) Q E s:=by
 obtain ⟨L,T⟩:=S.tab;have lenL:L.length=ks.length:=by rw [kE T,<-M_,S.en.length]
 obtain ⟨n0,b1,b2,b3⟩:=pI T.mo (bB d) (L.map (·.1)) (by rw [M7];exact T.fl);have hj:pos t.mask (bB d) n0<=t.mask:=vq _ _ _
 (unfold UJ WV)
 refine NU (M0 (Pd S.at_ rfl (cA T) ?_));dsimp only;have ns:byScan x es=false:=by obtain ⟨⟨xa,rfl⟩,_⟩:=hx;rfl
 rw [ns]
 (simp only [Nn,if_false])
 unfold setSearch;refine M0 (search N S.at_ rfl T S.en hx hu n0 b2 b3 b1 (λhm=>?_) (λhm=>?_) 100000 0 none (Ny _) (by rcases T.mo with h | h | h <;> rw [h] at b1 <;> omega) rfl (λk hk=>absurd hk (Om _)))
 ·exact M3 (q1 hm)
 ·dsimp only;refine M0 (Pd S.at_ rfl (cA T) ?_);dsimp only;obtain ⟨L',T',pm⟩:=T.put (bB d) x n0 b2 b3 hj (by have:=S.rm;rcases T.mo with h | h | h <;> rw [h] at this <;> omega);have fl:(t.put (pos t.mask (bB d) n0)).1.mask=t.mask/\(t.put (pos t.mask (bB d) n0)).1.plain=t.plain/\(t.put (pos t.mask (bB d) n0)).1.led=t.led:=⟨rfl,rfl,rfl⟩;generalize t.put (pos t.mask (bB d) n0)=tp at T' fl ⊢;obtain ⟨t',p⟩:=tp;dsimp only at T' fl ⊢;obtain ⟨f1,f2,f3⟩:=fl;have en':∃ks',(d::ks).Perm ks'/\dU K J (Pe es p (bB d,x)).toList ks':=by refine dU.perm (es:=(bB d,x)::es.toList) ?_ (.cons rfl hx S.en);rw [T'.en,T.en];have:=pm.map (·.2);exact this.symm
  obtain ⟨ks',p1,p2⟩:=en';have nd':ks'.Nodup:=p1.nodup_iff.mp (PZ.mpr ⟨hm,S.nd⟩);have lk:ks'.length=ks.length + 1:=by rw [<-p1.length_eq];rfl
  rw [f2,S.pl];simp only [if_true];refine M0 (AX 8 N hx.key ?_);simp only [if_true];have esz:(Pe es p (bB d,x)).size=ks'.length:=by rw [<-M_,p2.length]
  refine M0 (Sd S.at_ rfl ?_ (by rw [esz,OG];omega));have hg:=OO (TJ (Pe es p (bB d,x)) t') S.at_ rfl;have hfill:t'.fill=ks'.length:=by unfold Vz;rw [T'.dm,<-M_,T'.pl,M7,kE T',esz];rfl
  have hes:es.size=ks.length:=by rw [<-M_,S.en.length]
  split
  ·rename_i c;simp only [Si,QA] at c;unfold Sx at c;rw [hfill,f1,decide_eq_true_eq] at c;have rm:=S.rm;refine M0 (IJ (s:={s with heap:=s.heap.update a (TJ (Pe es p (bB d,x)) t')}) hg T' (f2.trans S.pl) (f3.trans S.ld) p2 nd' _ ?_ λh' ks2 es2 ep2 t2 g1 g2' g3=>?_)
   ·rw [hes];unfold Sk;rw [if_neg (by omega)];rcases T.mo with h | h | h
    ·rw [h] at c rm;have:ks.length + 1=5:=by omega
     rw [this];exact .inl ⟨wK,by omega⟩
    ·rw [h] at c rm;have:ks.length + 1=19:=by omega
     rw [this];exact .inr ⟨wL,by omega⟩
    ·rw [h] at c;omega
   ·exact M3 (q2 hm h' ks2 es2 ep2 t2 ((O8 _ _ _).trans g1) (p1.trans g2') g3)
  ·rename_i c;simp only [Si,QA] at c;unfold Sx at c;rw [hfill,f1,decide_eq_true_eq] at c;exact M3 (q2 hm _ ks' _ _ _ (O8 _ _ _) p1 ⟨hg,⟨L',T'⟩,f2.trans S.pl,f3.trans S.ld,by rw [f1];omega,p2,nd'⟩)
end
theorem fu.keep {K:M1}{J:Hp}{h h':OQ}{a:Nu}{led:Bool}{ks:List D}{es:Array (Int×M4)}{ep:Nat}{t:OU}(S:fu K J h a led ks es ep t) (e:∀o,h.get? a=some o->h'.get? a=some o):fu K J h' a led ks es ep t:=
 ⟨e _ S.at_,S.tab,S.pl,S.ld,S.rm,S.en,S.nd⟩
section
variable {prog:Nt}{w:NS}{A:NK}{R:Wg->M5->Prop}{I:Nu}{fp wr:List Nu}{G:Array V_->Array V_->Prop}{n:Nat}{P:Nat->M4->Prop}{St:Nat->M5->Prop}{K:M1}{J:Hp}
theorem CY (W:XS prog w A.in1 I fp wr G n P St) (S:Nu) (hSf:S∉fp) (val:Nat->D) (hval:∀i v,P i v->KV K J v (val i)){s0:M5}(N0:HF K J s0) (hnew:∀b∈S::wr,s0.heap.get? b=none) (hu:A.in1.units + 8 < PN) (hn:n<=76){led:Bool}:
  ∀(k i:Nat) (s:M5) (ks:List D) (es:Array (Int×M4)) (ep:Nat) (t:OU),n - i=k->i<=n->St i s->(∀b o,s0.heap.get? b=some o->s.heap.get? b=some o)->fu K J s.heap S led ks es ep t->(∀d,d∈ks↔d∈(Ng i).map val)->
   (∀s' ks' es' ep' t',Moved (S::wr) G s s'->fu K J s'.heap S led ks' es' ep' t'->(∀d,d∈ks'↔d∈(Ng n).map val)->R (.ok (.ret .none)) s')->
   (P7 (Nq prog w) A (.builtin "set.update.loop" ⟨[.ref S,.ref I],[]⟩) R s):=by
 (have LH:S∉wr:=λh=>hSf (W.sub _ h))
 (have hsub:∀b∈wr,b∈S::wr:=λb hb=>Na _ hb)
 have old:∀b o,s0.heap.get? b=some o->b∉S::wr:=λb o e hm=>by rw [hnew b hm] at e;cases e
 intro k
 induction k with
 | zero=>
  intro i s ks es ep t hk hi hst hb hS hm hR;have hin:i=n:=by omega
  subst hin;refine Pj O3 ?_;rw [OE NJ _]
  (show Nm _ A.in1 (RY (.ref I) >>= _) _ _ s)
  refine M0 (W.done s _ _ hst λs' Le=>?_)
  (show Nm _ A.in1 (ret Oc) _ _ s')
  exact M3 (hR s' ks es ep t (Le.mono hsub) (hS.keep λo e=>Le.heap S o LH e) hm)
 | succ k ih=>
  intro i s ks es ep t hk hi hst hb hS hm hR;have hlt:i < n:=by omega
  have hlen:ks.length<=i:=by have:=NI hS.nd (λd hd=>(hm d).mp hd);simpa using this
  refine Pj O3 ?_;rw [OE NJ _]
  (show Nm _ A.in1 (RY (.ref I) >>= _) _ _ s)
  refine M0 (W.item i s _ _ hlt hst λv s' hP Ll Le=>?_);have hx:=hval i v hP;obtain ⟨_,x1,x2,vv,x3,x4⟩:=id hx;have hS':=hS.keep (h':=s'.heap) λo e=>Le.heap S o LH e;have hb':∀b o,s0.heap.get? b=some o->s'.heap.get? b=some o:=λb o e=>Le.heap b o (λhm=>old b o e (hsub b hm)) (hb b o e);have N':HF K J s':=N0.keep hb';have mem':∀(ks':List D),(∀d,d∈ks'↔d=val i\/d∈ks)->∀d,d∈ks'↔d∈(Ng (i + 1)).map val:=λks' h d=>by rw [h d,hm d,UK,NW,NV];simp only [Nz,Uy,NH];exact Or.comm
  show Nm _ A.in1 (holding [v] (setAdd S v) >>= _) _ _ s'
  (refine M0 (NU ?_))
  unfold setAdd;refine NU ?_;refine M0 (qX (val i) vv v A.in1 s' N' x1 x3 x4 (by omega) _ _ _ N' ?_);refine D8 (s:={s' with toks:=s'.toks + iN (val i)}) (⟨N'.t,N'.l,N'.e,N'.d⟩:HF K J {s' with toks:=s'.toks + iN (val i)}) hS' hx hu (by omega) (λhin=>?_) (λhin h' ks' es' ep' t' LG Mb LD=>?_)
  ·refine M3 ⟨QO NJ _,ih (i + 1) _ ks es ep t (by omega) hlt (W.frame _ s' _ _ Ll (Pw _ _) λb hb o e=>e) hb' hS' (mem' ks λd=>⟨.inr,λh=>h.elim (λh=>h▸hin) id⟩) λs'' ks'' es'' ep'' t'' hm'' hS'' Ln=>?_⟩;exact hR s'' ks'' es'' ep'' t'' (U8 W.gtrans ((Le.mono hsub).then_heap (Pw _ _) λb o hb e=>e) hm'') hS'' Ln
  ·refine M3 ⟨QO NJ _,ih (i + 1) _ ks' es' ep' t' (by omega) hlt (W.frame _ s' _ _ Ll (Pw _ _) λb hb o e=>?_) (λb o e=>?_) LD (mem' ks' λd=>?_) λs'' ks'' es'' ep'' t'' hm'' hS'' Ln=>?_⟩
   ·(rw [LG.2 b (λh:b=S=>hSf (by rw [<-h];exact hb))];exact e)
   ·show h'.get? b=some o;rw [LG.2 b (λh:b=S=>old b o e (by rw [h];exact Nd))];exact hb' b o e
   ·rw [<-Mb.mem_iff,Nj]
   ·refine hR s'' ks'' es'' ep'' t'' (U8 W.gtrans ((Le.mono hsub).then_heap (Pw _ _) λb o hb e=>?_) hm'') hS'' Ln
    (rw [LG.2 b (λh:b=S=>hb (by rw [h];exact Nd))];exact e)
end
theorem zb {K:M1}{J:Hp}{h:OQ}{a:Nu}{led:Bool}(e:h.get? a=some {cls:=.type "set",dict:=none,data:=.set #[] 0 (.fresh 0 0 led)}):fu K J h a led [] #[] 0 (.fresh 0 0 led):=
 ⟨e,⟨[],⟨rfl,rfl,rfl,Qh,(λ_ h=>nomatch h),.inl rfl,Ny _,(λ_ h=>nomatch h)⟩⟩,rfl,rfl,(show 0 * 5 < 7 * 3 by decide),.nil,QW⟩
end DL
namespace ST
open PySem PySem.SetTable
theorem uh {xs:Array Nat}(hs:xs.toList.Pairwise (· < ·)) (hi:i<=xs.size) (h1:∀k,k < i->xs.getD k 0 < j) (h2:∀k,i<=k->k < xs.size->j<=xs.getD k 0):below xs j=i:=by
 obtain ⟨b1,b2,b3⟩:=kG xs j hs;rcases Qi (below xs j) i with c | c | c
 ·have:=h1 _ c;have:=b3 _ (Nb _) (by omega);omega
 ·exact c
 ·have:=b2 _ c;have:=h2 i (Nb _) (by omega);omega
theorem yo {xs:Array Nat}(hs:xs.toList.Pairwise (· < ·)):below xs 0=0:=uh hs (Ny _) (λk h=>absurd h (Om _)) λk _ _=>Ny _
theorem yl {xs:Array Nat}(hs:xs.toList.Pairwise (· < ·)) (h:xs[i]?=some j):below xs (j + 1)=i + 1:=by
 obtain ⟨hi,e⟩:=Ov.mp h;have sw:=Ob.mp hs;have gd:∀k (hk:k < xs.size),xs.getD k 0=xs[k]:=λk hk=>by simp [PF,hk]
 refine uh hs (by omega) (λk hk=>?_) (λk h1 h2=>?_)
 ·rw [gd k (by omega)];by_cases c:k=i
  ·subst c;omega
  ·have:=sw k i (by simp;omega) (by simpa using hi) (by omega);simp at this;omega
 ·rw [gd k h2];have:=sw i k (by simpa using hi) (by simpa using h2) (by omega);simp at this;omega
theorem rT {α:Type}(next:Nat->Nat):∀(f k:Nat) (left:List α) (out:Array α),f=left.length->(VZ next f k left out).toList.Perm (out.toList++left)
 | 0,k,left,out,h=>by have:left=[]:=RW.mp h.symm;subst this;unfold VZ;simp
 | f + 1,k,left,out,h=>by
  have hl:next k % left.length < left.length:=Tw _ (by omega);unfold VZ;rw [Nc hl];dsimp only;refine (rT next f (k + 1) _ _ (by rw [Sz];simp [hl];omega)).trans ?_;rw [OV,NX]
  (refine Q6 _ ?_)
  have e1:left.eraseIdx (next k % left.length)=left.take (next k % left.length)++left.drop (next k % left.length + 1):=PL _ _;have e2:left=left.take (next k % left.length)++left[next k % left.length]::left.drop (next k % left.length + 1):=by rw [R3,N5]
  rw [e1,Sn];exact (Ue.symm).trans (Wz e2.symm)
theorem yR {α:Type}(next:Nat->Nat) (xs:Array α):(WA next xs).toList.Perm xs.toList:=by have h:=rT next xs.size 0 xs.toList #[] (by simp);rw [show (#[]:Array α).toList++xs.toList=xs.toList from rfl] at h;exact h
end ST
namespace DL
open PySem PySem.Spec PyProof.Rows L2 ST
structure gZ (h:OQ) (a:Nu) (led:Bool) (es:Array (Int×M4)) (ep:Nat) (t:OU):Prop where
 at_:h.get? a=some {cls:=.type "set",dict:=none,data:=.set es ep t}
 tab:∃L,Tab t es L
 pl:t.plain=true
 ld:t.led=led
theorem gZ.keep {h h':OQ}(S:gZ h a led es ep t) (e:∀o,h.get? a=some o->h'.get? a=some o):gZ h' a led es ep t:=⟨e _ S.at_,S.tab,S.pl,S.ld⟩
theorem fu.wk {K:M1}{J:Hp}{h:OQ}{a:Nu}{led:Bool}{ks:List D}{es:Array (Int×M4)}{ep:Nat}{t:OU}(S:fu K J h a led ks es ep t):gZ h a led es ep t:=⟨S.at_,S.tab,S.pl,S.ld⟩
noncomputable abbrev kT (w:NS):Bool:=!w.params.followText "set-order"
noncomputable def dS (w:NS) (a ep:Nat) (es:Array (Int×M4)):Array (Int×M4):=if w.params.followText "set-order"=true then WA (w.params.setOrder a ep) es else es
theorem iy (w:NS) (a ep:Nat) (es:Array (Int×M4)):(dS w a ep es).toList.Perm es.toList:=by
 unfold dS;split
 ·exact yR _ _
 ·exact .refl _
theorem jQ (w:NS) (a ep:Nat) (es:Array (Int×M4)):(dS w a ep es).size=es.size:=by rw [<-M_,(iy w a ep es).length_eq,M_]
noncomputable abbrev lH (a:Nu) (slot i n ep:Nat):Obj:={cls:=.type "set_iterator",data:=.fields #[.int slot 0,.int i 0,.ref a,.int n 0,.int ep 0]}
theorem pB:Yw table "set.__iter__"=some RI.«frozenset.__iter__»:=
 (WW (id':="frozenset.__iter__") (by kernel_rfl) rfl (by decide +kernel) (by kernel_rfl))
theorem eH:Slot "set_iterator" "__next__" "set_iterator.__next__":=
 (.of (owner:="set_iterator") (n:="__next__") (by rw [UL,So];kernel_rfl) (by decide +kernel) (by decide +kernel) (by decide +kernel)
  (by first | exact .inl (by decide +kernel) | exact .inr (by decide +kernel)) (by rw [Ro];kernel_rfl))
theorem lE:Yw table "set_iterator.__next__"=some RI.«set_iterator.__next__»:=(entryFor_of_tree (by kernel_rfl))
theorem lU (a:M4):argsOk "set_iterator.__next__" ⟨[a],[]⟩:=by unfold argsOk;kernel_rfl
section
variable {prog:Nt}{w:NS}{A:NK}{E:M4->M5->Prop}{s:M5}
theorem B6 {es:Array (Int×M4)}{Q:M4->M5->Prop}(S:gZ s.heap a led es ep t)
 (hQ:Q (.ref s.heap.objs.size) {s with heap:=s.heap.push (lH a 0 0 es.size ep)}):Nm (Nq prog w) A (Tr (.ref a)) Q E s:=by
 obtain ⟨L,T⟩:=S.tab;have hT:s.TypeIs (.ref a) "set":=⟨_,S.at_,rfl⟩;refine VS hT WB (Oe WB hT pB ?_ (F.args_set_iter_1 _));show Nm _ _ (TL a >>= _) _ _ s;unfold TL;refine M0 (M0 (SX S.at_ rfl (cA T) (M3 ?_)));unfold setDrawn Xc;refine M0 (M0 (Pd S.at_ rfl (cA T) (M0 (M0 (Qt (M3 (M3 ?_)))))));dsimp only;split
 ·rename_i c;have c:(!w.params.followText "set-order" && (!t.plain && decide (es.size > 1)))=true:=c;rw [S.pl] at c;simp at c
 ·(refine M0 (M3 ?_))
  refine M0 (wpAny_setEpoch_of S.at_ rfl (cA T) ?_)
  (refine M0 (NP ?_))
  exact M3 ⟨_,rfl,"set_iterator",_,⟨_,Nf _ rfl,rfl⟩,eH.lookup,hQ⟩
theorem vH {t:OU}{Q:Option (M4×Nat)->M5->Prop}(S:gZ s.heap a (kT w) es ep t) (hb:w.params.followText "set-order"=false->Rp t.place slot=i)
 (q1:∀e slot',(dS w a ep es)[i]?=some e->(w.params.followText "set-order"=false->Rp t.place slot'=i + 1)->Q (some (e.2,slot')) s) (q2:(dS w a ep es)[i]?=none->Q none s):
  Nm (Nq prog w) A (setNext a slot i ep) Q E s:=by
 obtain ⟨L,T⟩:=S.tab;unfold setNext Xc;refine M0 (Pd S.at_ rfl (cA T) ?_);dsimp only
 (refine M0 (M0 (Qt (M3 ?_))))
 dsimp only;cases bt:w.params.followText "set-order" with
 | true=>
  rw [show (Nq prog w).w.params.followText "set-order"=true from bt];simp only [if_true,bne_self_eq_false,Nn,if_false];unfold setWalk Xc;refine M0 (M0 (Pd S.at_ rfl (cA T) ?_));dsimp only
  (refine M0 (M0 (Qt (M3 ?_))))
  dsimp only;rw [show (Nq prog w).w.params.followText "set-order"=true from bt];simp only [if_true];refine M0 (Qt (M3 ?_));dsimp only;have ew:dS w a ep es=WA ((Nq prog w).w.params.setOrder a ep) es:=by unfold dS;rw [if_pos bt];rfl
  rw [ew] at q1 q2;cases q:(WA ((Nq prog w).w.params.setOrder a ep) es)[i]? with
  | none=>exact M3 (q2 q)
  | some e=>exact M3 (q1 e slot q λz=>absurd (bt.symm.trans z) (by decide))
 | false=>
  rw [show (Nq prog w).w.params.followText "set-order"=false from bt]
  (simp only [Nn,if_false])
  have ew:dS w a ep es=es:=by unfold dS;rw [if_neg (by rw [bt];decide)]
  rw [ew] at q1 q2;have L5:t.led=true:=by rw [S.ld];show (!w.params.followText "set-order")=true;rw [bt];rfl
  split
  ·rename_i c;have c:(!t.plain && decide (es.size > 1))=true:=c;rw [S.pl] at c;simp at c
  ·refine M0 (Rv (a:=()) ?_ ?_)
   ·show (if (!t.led && !es.isEmpty)=true then _ else pure ())=pure ();rw [L5];rfl
   ·rw [hb bt];cases q:es[i]? with
    | none=>exact M3 (q2 q)
    | some e=>
     have hlen:i < t.place.size:=by
      have h1:=(Ov.mp q).1;have h2:t.place.size=es.size:=by rw [<-M_,T.pl,M7,kE T]
      omega
     have ep':t.place[i]?=some t.place[i]:=QE hlen;rw [ep'];exact M3 (q1 e _ q λ_=>yl T.sop ep')
theorem Cg {es:Array (Int×M4)}{t:OU}{Q:Option M4->M5->Prop}(hne:a≠I) (S:gZ s.heap a (kT w) es ep t) (hI:s.heap.get? I=some (lH a slot i es.size ep)) (hb:w.params.followText "set-order"=false->Rp t.place slot=i) (hi:i < es.size)
 (hQ:∀h' slot' e,(dS w a ep es)[i]?=some e->h'.get? I=some (lH a slot' (i + 1) es.size ep)->(w.params.followText "set-order"=false->Rp t.place slot'=i + 1)->OM I s.heap h'->Q (some e.2) {s with heap:=h'}):
  Nm (Nq prog w) A (RY (.ref I)) Q E s:=by
 obtain ⟨L,T⟩:=S.tab;have hT:s.TypeIs (.ref I) "set_iterator":=⟨_,hI,rfl⟩;unfold RY;refine M0 (Rb (Og (name:=QJ "__next__") hT eH (Oe eH hT lE ?_ (lU _))));show Nm _ _ (fieldsOf (.ref I) >>= _) _ _ s;refine M0 (WX hI rfl ?_);dsimp only;refine M0 (SX S.at_ rfl (cA T) ?_);simp only [bne_self_eq_false,Nn,if_false,Pa];refine M0 (vH S hb (λe slot' q1 q2=>?_) λq=>?_)
 ·dsimp only;refine M0 (OY hI (by simp) λh1 g1 b1=>?_);refine M0 (OY (s:={s with heap:=h1}) g1 (by simp) λh2 g2' b2=>?_);exact M3 ⟨_,rfl,M3 (hQ h2 slot' e q1 (g2'.trans (by simp [W4])) q2 (b1.trans b2))⟩
 ·exfalso;have:=(Array.getElem?_eq_none_iff.mp q);rw [jQ] at this;omega
theorem Em {es:Array (Int×M4)}{t:OU}{Q:Option M4->M5->Prop}(hh:A.handled=none) (S:gZ s.heap a (kT w) es ep t) (hI:s.heap.get? I=some (lH a slot es.size es.size ep)) (hb:w.params.followText "set-order"=false->Rp t.place slot=es.size)
 (hQ:∀h',Wm I s.heap h'->Q none {s with heap:=h'}):Nm (Nq prog w) A (RY (.ref I)) Q E s:=by
 obtain ⟨L,T⟩:=S.tab;have hT:s.TypeIs (.ref I) "set_iterator":=⟨_,hI,rfl⟩;unfold RY;refine M0 (Rb (Og (name:=QJ "__next__") hT eH (Oe eH hT lE ?_ (lU _))));show Nm _ _ (fieldsOf (.ref I) >>= _) _ _ s;refine M0 (WX hI rfl ?_);dsimp only;refine M0 (SX S.at_ rfl (cA T) ?_);simp only [bne_self_eq_false,Nn,if_false,Pa];refine M0 (vH S hb (λe slot' q1 q2=>?_) λq=>?_)
 ·exfalso;have:=(Ov.mp q1).1;rw [jQ] at this;omega
 ·dsimp only;refine M0 (OY hI (by simp) λh1 g1 b1=>?_);refine M0 ?_;simp only [newExc,newTuple]
  (refine M0 (NP ?_ (by size_fits)))
  (refine M0 (m:=Tf _ _) (Rv (a:=Oc) (by first | rfl | (simp only [Tf];rfl)) ?_))
  (refine NP ?_ (by size_fits))
  simp only [raiseNew]
  (refine M0 (Xs ?_))
  (first | rw [show A.in1.handled=none from hh] | rw [hh])
  (refine M0 (M3 (wpAny_throw ?_)))
  (refine M0 (Su (T:="StopIteration") (b:=true) ⟨_,Nf _ rfl,rfl⟩ WQ ?_))
  exact M3 (hQ _ ((b1.extBut.push _).push _))
end
theorem s_:typeLookup (.type "set") "__len__"=pure (some (.builtin "set.__len__")):=by rw [UL,So];kernel_rfl
theorem Bt {M:Yz}{A:NK}{E:M4->M5->Prop}{s:M5}{α:Type}{c:Prop} [Decidable c] {m1 m2:Sem α}{Q:α->M5->Prop}(hc:c) (h:Nm M A m1 Q E s):Nm M A (if c then m1 else m2) Q E s:=by rw [if_pos hc];exact h
theorem B5 {prog:Nt}{w:NS}{A:NK}{E:M4->M5->Prop}{s:M5}{a:Nu}{Q:Bool->M5->Prop}(hT:s.TypeIs (.ref a) "set") (hQ:Q false s):Nm (Nq prog w) A (SY (.ref a)) Q E s:=by
 have sp:splitId "set.__len__"=some ("set","__len__"):=by decide +kernel
 (unfold SY)
 refine M0 (RU hT s_ ?_);dsimp -zeta only;rw [sp];dsimp -zeta only;refine M0 (m:=W_ (.ref a) (.type "set")) (Su hT sub_set_self ?_)
 (show Nm _ _ (if (!true)=true then _ else _) _ _ _)
 rw [if_neg (by decide)];refine Bt (by decide +kernel) ?_
 (refine M0 (Ry hT ?_))
 exact M3 hQ
theorem mR:Slot "set_iterator" "__iter__" "set_iterator.__iter__":=
 ((.of (owner:="set_iterator") (n:="__iter__") (by rw [UL,So];kernel_rfl) (by decide +kernel) (by decide +kernel) (by decide +kernel)
  ((by first | exact .inl (by decide +kernel) | exact .inr (by decide +kernel))) (by rw [Ro];kernel_rfl)))
theorem sU:Yw table "set_iterator.__iter__"=some RI.«dict_keyiterator.__iter__»:=
 (WW (id':="dict_keyiterator.__iter__") (by kernel_rfl) rfl (by decide +kernel) (by kernel_rfl))
theorem uc (a:M4):argsOk "set_iterator.__iter__" ⟨[a],[]⟩:=by unfold argsOk;kernel_rfl
section
variable {prog:Nt}{w:NS}{A:NK}{E:M4->M5->Prop}{s:M5}
noncomputable def fS (w:NS) (a ep:Nat) (es:Array (Int×M4)):List M4:=(dS w a ep es).toList.map (·.2)
theorem Bs (hh:A.handled=none) (I a:Nu) (hne:a≠I){es:Array (Int×M4)}{t:OU}:
  Walks prog w A I [I,a] [I] es.size (λi v=>(fS w a ep es)[i]?=some v) (λi h=>∃slot,h.get? I=some (lH a slot i es.size ep)/\gZ h a (kT w) es ep t/\(w.params.followText "set-order"=false->Rp t.place slot=i)) where
 sub:=λ_ hb=>by simp at hb;simp [hb]
 frame:=λ_ _ _ ⟨slot,h1,h2,h3⟩ hk=>⟨slot,hk I (by simp) _ h1,h2.keep λo e=>hk a (by simp) o e,h3⟩
 item:=λi s Q E hi ⟨slot,h1,h2,h3⟩ hQ=>by
  refine Cg hne h2 h1 h3 hi λh' slot' e q1 q2 q3 q4=>?_;refine hQ e.2 h' s.toks ?_ ⟨slot',q2,h2.keep λo e=>?_,q3⟩ λb o hb e=>?_
  ·unfold fS;rw [Nx,N3,q1];rfl
  ·rw [q4.2 a hne];exact e
  ·exact q4.extBut b o (λh=>hb (by simp [h])) e
 done:=λs Q E ⟨slot,h1,h2,h3⟩ hQ=>Em hh h2 h1 h3 λh' he=>hQ h' s.toks λb o hb e=>he b o (λh=>hb (by simp [h])) e
 self:=λi s Q E ⟨slot,h1,h2,h3⟩ hQ=>by have hT:s.TypeIs (.ref I) "set_iterator":=⟨_,h1,rfl⟩;refine VS hT mR (Oe mR hT sU ?_ (uc _));show Nm _ _ (ret (.ref I)) _ _ s;exact M3 ⟨_,rfl,"set_iterator",_,hT,eH.lookup,hQ⟩
theorem jN {a:Nu}{es:Array (Int×M4)}{ep:Nat}{t:OU}{Q:List M4->M5->Prop}(hh:A.handled=none) (S:gZ s.heap a (kT w) es ep t) (hn:es.size<=76)
  (hQ:∀(h':OQ) (tk:Nat),(∀b o,s.heap.get? b=some o->h'.get? b=some o)->s.heap.objs.size < h'.objs.size->Q (fS w a ep es) {s with heap:=h',toks:=tk}):Nm (Nq prog w) A (collect (.ref a)) Q E s:=by
 have ha:a < s.heap.objs.size:=Nk S.at_;have hT:s.TypeIs (.ref a) "set":=⟨_,S.at_,rfl⟩;unfold collect
 (refine M0 (UX (Pj UE ?_)))
 (rw [OE UG _])
 show Nm _ A.in1 (newList [] >>= λl=>again (.builtin "list.__iadd__" ⟨[l,.ref a],[]⟩)) _ _ s
 (refine M0 (NP ?_))
 (refine M3 ⟨QO R_ _,Pj VP ?_⟩)
 (rw [OE R_ _])
 generalize Mx:({cls:=.type "list",data:=.seq ([]:List M4).toArray}:Obj)=l0;have S1:gZ (s.heap.push l0) a (kT w) es ep t:=S.keep λo e=>M6 _ e;have hT1:T4 {s with heap:=s.heap.push l0} (.ref a) "set":=⟨_,S1.at_,rfl⟩;show Nm _ A.in1 (S0 (.ref s.heap.objs.size) (.ref a) (.ref s.heap.objs.size)) _ _ _
 (unfold S0)
 refine M0 (Ry hT1 ?_);have h1:Xd (.ref s.heap.objs.size) (.ref a)=false:=by show (s.heap.objs.size == a)=false;exact beq_eq_false_iff_ne.mpr (Qx ha)
 have h2:(R5 "set" == R5 "list")=false:=by decide
 have h3:(R5 "set" == R5 "tuple")=false:=by decide
 (simp only [h1,h2,h3,Xo,Nn,if_false])
 refine M0 (B6 S1 ?_)
 (refine M0 (NU ?_))
 have z1:(s.heap.push l0).objs.size=s.heap.objs.size + 1:=O1 _ _;rw [z1];have S2:gZ ((s.heap.push l0).push (lH a 0 0 es.size ep)) a (kT w) es ep t:=S1.keep λo e=>M6 _ e;have hT2:T4 {s with heap:=(s.heap.push l0).push (lH a 0 0 es.size ep)} (.ref a) "set":=⟨_,S2.at_,rfl⟩;refine B5 hT2 ?_;refine Bt (by decide +kernel) ?_
 (refine M0 (Py ?_))
 subst Mx;have hI:((s.heap.push {cls:=.type "list",data:=.seq ([]:List M4).toArray}).push (lH a 0 0 es.size ep)).get? (s.heap.objs.size + 1)=some (lH a 0 0 es.size ep):=by rw [<-z1];exact Nf _ rfl
 have hS₁:((s.heap.push {cls:=.type "list",data:=.seq ([]:List M4).toArray}).push (lH a 0 0 es.size ep)).get? s.heap.objs.size=some {cls:=.type "list",data:=.seq ([]:List M4).toArray}:=M6 _ (Nf _ rfl);refine M0 ?_
 (show Nm _ A.in1 (updateSeq s.heap.objs.size (·.push .none) >>= λ_=>updateSeq s.heap.objs.size (·.pop)) _ _ _)
 (refine M0 (WC hS₁ rfl ?_))
 (have hS₂:=OO (Po (·.push Oc)) hS₁ rfl)
 (refine WC hS₂ rfl ?_)
 (have hS₃:=OO (Po (·.pop)) hS₂ rfl)
 have oth:∀b o,b≠s.heap.objs.size->((s.heap.push {cls:=.type "list",data:=.seq ([]:List M4).toArray}).push (lH a 0 0 es.size ep)).get? b=some o->
   ((((s.heap.push {cls:=.type "list",data:=.seq ([]:List M4).toArray}).push (lH a 0 0 es.size ep)).update s.heap.objs.size (Po (·.push Oc))).update s.heap.objs.size (Po (·.pop))).get? b=some o:=
  (λb o hb e=>(R1 _ _ (P6 hb)).trans ((R1 _ _ (P6 hb)).trans e))
 have hne:a≠s.heap.objs.size + 1:=NF (Se ha);have hSf:s.heap.objs.size∉[s.heap.objs.size + 1,a]:=by simp only [Nj,Of,or_false,not_or];exact ⟨NF (P9 _),Qx ha⟩
 obtain ⟨L,T⟩:=S.tab;refine M3 ⟨QO F.plain_extend_loop _,codeAny_extend_loopS ((Bs (A:=A.in1) (prog:=prog) (w:=w) (es:=es) (ep:=ep) (t:=t) hh (s.heap.objs.size + 1) a hne).toS) (by rw [OG];omega) _ hSf _ es.size 0 _ _ _ rfl (Ny _)
  ⟨0,oth _ _ (Qx (P9 _)) hI,S2.keep λo e=>oth _ _ (NF ha) e,λ_=>yo T.sop⟩ hS₃ (ItemsOf.nil _) λs' acc' c' hm hS' hacc=>?_⟩
 (show Nm _ A (load s.heap.objs.size >>= _) _ _ s')
 (refine M0 (W3 hS' ?_))
 have eacc:acc'.toList=fS w a ep es:=by
  obtain ⟨z,q⟩:=hacc;have lw:(fS w a ep es).length=es.size:=by unfold fS;rw [M7,M_,jQ]
  refine P8 (by rw [M_,z,lw]) λi x1 x2=>?_;have this:(fS w a ep es)[i]?=some (acc'[i]'(by simpa using x1)):=q i _ (QE (by simpa using x1));rw [Nc x2] at this
  (exact (Ow this).symm)
 refine M3 ?_;rw [eacc]
 (obtain ⟨h',g',d',tk',os'⟩:=s')
 (have eg:g'=s.gens:=hm.gens)
 (have ed:d'=s.drawn:=hm.drawn)
 have eo:os'=s.os:=hm.os;subst eg;subst ed;subst eo;refine hQ h' tk' (λb o e=>?_) (Nk hS');have lb:=Nk e;refine hm.heap b o ?_ (oth b o (NF lb) (M6 _ (M6 _ e)));simp only [Nj,Of,or_false,not_or];exact ⟨NF lb,NF (Se lb)⟩
end
theorem sF:UM (.type "tuple") (.type "set")=pure false:=by rw [Ro];kernel_rfl
theorem sE:UM (.type "tuple") (.type "frozenset")=pure false:=by rw [Ro];kernel_rfl
theorem Az:UM (.type "list") (.type "set")=pure false:=by rw [Ro];kernel_rfl
theorem Ay:UM (.type "list") (.type "frozenset")=pure false:=by rw [Ro];kernel_rfl
noncomputable abbrev eE (led:Bool):Obj:={cls:=.type "set",dict:=none,data:=.set #[] 0 (.fresh 0 0 led)}
noncomputable abbrev b9 (w:NS):Bool:=!w.params.followText "set-order"
section
variable {prog:Nt}{w:NS}{A:NK}{E:M4->M5->Prop}{s:M5}{K:M1}{J:Hp}
theorem CS (a:M4){Q₁:M4->M5->Prop}(h:Q₁ (.ref s.heap.objs.size) {s with heap:=s.heap.push (eE (b9 w))}):
  (P7 (Nq prog w) A (.call (.builtin "set.__new__") ⟨[.type "set",a],[]⟩) (wants Q₁ E) s):=by
 refine (S3 ?_)
 (show Nm _ A.in1 (do Ua "set.__new__" ⟨[.type "set",a],[]⟩;again (.builtin "set.__new__" ⟨[.type "set",a],[]⟩)) _ _ s)
 refine M0 (Rv (PySem.F.newCall_set_1 a) (M3 ⟨QO WD _,Pj F.entry_set_new ?_⟩))
 (rw [OE WD _])
 (unfold RI.«set.__new__» WL)
 have hsub:=sub_set_self
 (obtain ⟨hp,g,d,tk,os⟩:=s)
 dsimp only
 wp_walk
 (refine Qt (M3 ?_))
 dsimp only;simp only [newObj]
 (refine M0 (wpAny_alloc (M3 ?_)))
 exact M3 h
noncomputable def BB (prog:Nt) (w:NS) (A:NK) (E:M4->M5->Prop) (s:M5) (l:Nu) (MR:Array M4):Prop:=
 ∃(I:Nu) (fp:List Nu) (St:Nat->M5->Prop) (h2:OQ),XS prog w A.in1.in1.in1 I fp [I] (λa b=>b=a) MR.size (λi v=>MR[i]?=some v) St/\s.heap.objs.size∉fp/\s.heap.objs.size < I/\St 0 {s with heap:=h2}/\(∀b o,(s.heap.push (eE (b9 w))).get? b=some o->h2.get? b=some o)/\
  ∀R:M4->M5->Prop,R (.ref I) {s with heap:=h2}->Nm (Nq prog w) A.in1.in1 (Tr (.ref l)) R E {s with heap:=s.heap.push (eE (b9 w))}
theorem oQ {ol:Obj}{Q:M4->M5->Prop}{MR:Array M4}(P:OQ->Prop) (Lg:s.heap.get? l=some ol) (hcl:ol.cls=.type T) (MF:UM (.type T) (.type "set")=pure false) (ME:UM (.type T) (.type "frozenset")=pure false) (hne:(R5 T == R5 "dict")=false)
 (it:BB prog w A E s l MR)
 (loop:∀{I:Nu}{fp:List Nu}{St:Nat->M5->Prop}{h2:OQ}{R:_->M5->Prop},XS prog w A.in1.in1.in1 I fp [I] (λa b=>b=a) MR.size (λi v=>MR[i]?=some v) St->s.heap.objs.size∉fp->s.heap.objs.size < I->St 0 {s with heap:=h2}->(∀b o,(s.heap.push (eE (b9 w))).get? b=some o->h2.get? b=some o)->
 (∀s',Moved [s.heap.objs.size,I] (λa b=>b=a) {s with heap:=h2} s'->P s'.heap->R (.ok (.ret .none)) s')->P7 (Nq prog w) A.in1.in1 (.builtin "set.update.loop" ⟨[.ref s.heap.objs.size,.ref I],[]⟩) R {s with heap:=h2})
 (h:∀(h':OQ) (tk:Nat),P h'->(∀b o,b < s.heap.objs.size->s.heap.get? b=some o->h'.get? b=some o)->Q (.ref s.heap.objs.size) {s with heap:=h',toks:=tk}):
  (Nm (Nq prog w) A (call (.type "set") [.ref l]) Q E s):=by
 (obtain ⟨c,tl,My⟩:=Q7.mro)
 (have hmade:=Q7.made)
 have hsub:=Q7.sub
 (refine VD (S3 ?_))
 (show Nm _ _ (callAny (.type "set") _) _ _ _)
 (refine M3 ⟨Code.quiet_builtin _ (by decide +kernel),Pj F.entry_type_call ?_⟩)
 (rw [Around.under_plain (weight_type_call_type "set" [.ref l] []) rfl])
 (have h1:=Q7.notType)
 (have h2:=Q7.canCreate)
 have hct:=PySem.F.typeCall_set_1 (.ref l)
 (repeat (any_goals (first | assumption | wp_step)))
 refine QI (CS (.ref l) (E:=E) (Q₁:=λobj s₁=>obj=.ref s.heap.objs.size/\s₁={s with heap:=s.heap.push (eE (b9 w))}) ⟨rfl,rfl⟩) λr s₁ hr=>?_;cases r with
 | error e=>exact hr
 | ok fl=>
  cases fl with
  | ret obj=>
   obtain ⟨rfl,rfl⟩:=hr;have hS:(s.heap.push (eE (b9 w))).get? s.heap.objs.size=some (eE (b9 w)):=Nf _ rfl;have hT:T4 {s with heap:=s.heap.push (eE (b9 w))} (.ref s.heap.objs.size) "set":=⟨_,hS,rfl⟩
   (have hli:=Q7.init.lookup)
   (have hbi:=Q7.init.bind (.ref s.heap.objs.size))
   (repeat (any_goals (first | assumption | wp_step)))
   refine QI (UR (R:=wants (λr s₂=>r=.none/\∃h' tk,s₂={s with heap:=h',toks:=tk}/\P h'/\
     (∀b o,b < s.heap.objs.size->s.heap.get? b=some o->h'.get? b=some o)) E) Q7.init.plain F.entry_set_init ((check_set_init_1 hT ?_))) λr₂ s₂ hr₂=>?_
   ·have L_:(s.heap.push (eE (b9 w))).get? l=some ol:=M6 _ Lg;have MN:T4 {s with heap:=s.heap.push (eE (b9 w))} (.ref l) T:=⟨_,L_,hcl⟩
    (unfold RI.«set.__init__» noKeywords Wc)
    generalize Mj:Tr=PI
    wp_walk
    subst Mj;obtain ⟨I,fp,St,h2,W,hSf,hSI,st,hk,hit⟩:=it;refine hit _ (M0 (UX (loop W hSf hSI st hk λs' hm hp=>?_)))
    (obtain ⟨h',g',d',tk',os'⟩:=s')
    (have eg:g'=s.gens:=hm.gens)
    (have ed:d'=s.drawn:=hm.drawn)
    have eo:os'=s.os:=hm.os;subst eg;subst ed;subst eo;show Nm _ _ _ _ _ _;refine M3 ?_
    (show Nm _ _ (ret Oc) _ _ _)
    refine M3 ⟨rfl,h',tk',rfl,hp,λb o hb e=>hm.heap b o ?_ (hk b o (M6 _ e))⟩;simp only [Nj,Of,or_false,not_or];exact ⟨NF hb,NF (Pb hb hSI)⟩
   ·cases r₂ with
    | error e=>exact hr₂
    | ok fl₂=>
     cases fl₂ with
     | ret r=>
      obtain ⟨rfl,h',tk,rfl,hp,hk'⟩:=hr₂
      (repeat (any_goals (first | assumption | wp_step)))
      exact h _ _ hp hk'
     | _=>exact hr₂.elim
  | _=>exact hr.elim
theorem uS (hh:A.handled=none) (hl:s.heap.IsTuple l MR):BB prog w A E s l MR:=by
 obtain ⟨ol,Lg,hcl,nl,hdl⟩:=id hl;have hl1:(s.heap.push (eE (b9 w))).IsTuple l MR:=⟨_,M6 _ Lg,hcl,nl,hdl⟩;have hlS:l < s.heap.objs.size:=Nk Lg;have z1:(s.heap.push (eE (b9 w))).objs.size=s.heap.objs.size + 1:=O1 _ _;have LA:l≠(s.heap.push (eE (b9 w))).objs.size:=by rw [z1];exact NF (Se hlS)
 refine ⟨_,_,_,_,(Walks.tuple (A:=A.in1.in1.in1) (by simp [hh]) (s.heap.push (eE (b9 w))).objs.size l LA MR).toS,?_,?_,⟨⟨_,Nf _ rfl,rfl,rfl⟩,hl1.push _⟩,λb o e=>M6 _ e,λR q=>S9 hl1 q⟩
 ·rw [z1];simp only [Nj,Of,or_false,not_or];exact ⟨NF (P9 _),Qx hlS⟩
 ·rw [z1];exact P9 _
theorem Eu {l:Nu}{MR:Array M4}(hh:A.handled=none) (hl:s.heap.IsList l MR):BB prog w A E s l MR:=by
 obtain ⟨ol,Lg,hcl,nl,hdl⟩:=id hl;have hl1:(s.heap.push (eE (b9 w))).IsList l MR:=⟨_,M6 _ Lg,hcl,nl,hdl⟩;have hlS:l < s.heap.objs.size:=Nk Lg;have z1:(s.heap.push (eE (b9 w))).objs.size=s.heap.objs.size + 1:=O1 _ _;have LA:l≠(s.heap.push (eE (b9 w))).objs.size:=by rw [z1];exact NF (Se hlS)
 refine ⟨_,_,_,_,(YC (A:=A.in1.in1.in1) (by simp [hh]) (s.heap.push (eE (b9 w))).objs.size l LA MR).toS,?_,?_,⟨⟨_,Nf _ rfl,rfl,rfl⟩,hl1.push _⟩,λb o e=>M6 _ e,λR q=>R9 hl1 q⟩
 ·rw [z1];simp only [Nj,Of,or_false,not_or];exact ⟨NF (P9 _),Qx hlS⟩
 ·rw [z1];exact P9 _
theorem AE {MR:Array M4}{ds:List D}(N:HF K J s) (hz:MR.size=ds.length) (hi:∀i v,MR[i]?=some v->KV K J v (ds.getD i .non)) (hn:ds.length<=76) (hu:A.units + 16 < PN){fp:List Nu}{St:Nat->M5->Prop}{h2:OQ}{R:_->M5->Prop}(W:XS prog w A.in1.in1.in1 I fp [I] (λa b=>b=a) MR.size (λi v=>MR[i]?=some v) St) (hSf:s.heap.objs.size∉fp) (hSI:s.heap.objs.size < I) (st:St 0 {s with heap:=h2})
 (hk:∀b o,(s.heap.push (eE (b9 w))).get? b=some o->h2.get? b=some o) (hR:∀s',Moved [s.heap.objs.size,I] (λa b=>b=a) {s with heap:=h2} s'->(∃ks es ep t,fu K J s'.heap s.heap.objs.size (b9 w) ks es ep t/\∀d,d∈ks↔d∈ds)->R (.ok (.ret .none)) s'):P7 (Nq prog w) A.in1.in1 (.builtin "set.update.loop" ⟨[.ref s.heap.objs.size,.ref I],[]⟩) R {s with heap:=h2}:=by
 have all:(Ng MR.size).map (λi=>ds.getD i .non)=ds:=by refine P8 (by simp [hz]) λi a b=>?_;simp [b]
 have hno:∀b,s.heap.objs.size<=b->s.heap.get? b=none:=λb hb=>by
  cases q:s.heap.get? b with
  | none=>rfl
  | some o=>exact absurd (Nk q) (Nat.not_lt.mpr hb)
 refine CY (A:=A.in1.in1) (K:=K) (J:=J) (s0:=s) (led:=b9 w) W s.heap.objs.size hSf (λi=>ds.getD i .non) hi N (λb hb=>hno b ?_) (by simp only [in1_units];omega) (by omega) MR.size 0 _ [] #[] 0 (.fresh 0 0 (b9 w)) (by omega) (Ny _) st (λb o e=>hk b o (M6 _ e)) (zb (hk _ _ (Nf _ rfl))) (λd=>by simp) λs' ks es ep t hm hS' hmem=>hR s' hm ⟨ks,es,ep,t,hS',by rw [all] at hmem;exact hmem⟩;rcases Nj.mp hb with rfl | hb
 ·exact Nb _
 ·rw [NH.mp hb];exact Qv hSI
theorem vI {MR:Array M4}{ds:List D}{Q:M4->M5->Prop}(N:HF K J s) (hh:A.handled=none) (hl:s.heap.IsTuple l MR) (hz:MR.size=ds.length) (hi:∀i v,MR[i]?=some v->KV K J v (ds.getD i .non)) (hn:ds.length<=76) (hu:A.units + 16 < PN)
 (h:∀(h':OQ) (tk:Nat) ks es ep t,fu K J h' s.heap.objs.size (b9 w) ks es ep t->(∀d,d∈ks↔d∈ds)->(∀b o,b < s.heap.objs.size->s.heap.get? b=some o->h'.get? b=some o)->Q (.ref s.heap.objs.size) {s with heap:=h',toks:=tk}):
  (Nm (Nq prog w) A (call (.type "set") [.ref l]) Q E s):=by obtain ⟨ol,Lg,hcl,_⟩:=id hl;exact oQ (λh'=>∃ks es ep t,fu K J h' s.heap.objs.size (b9 w) ks es ep t/\∀d,d∈ks↔d∈ds) Lg hcl sF sE (by decide) (uS hh hl) (λW a b c d e=>AE N hz hi hn hu W a b c d e) λh' tk ⟨ks,es,ep,t,a,b⟩=>h h' tk ks es ep t a b
theorem wB {l:Nu}{MR:Array M4}{ds:List D}{Q:M4->M5->Prop}(N:HF K J s) (hh:A.handled=none) (hl:s.heap.IsList l MR) (hz:MR.size=ds.length) (hi:∀i v,MR[i]?=some v->KV K J v (ds.getD i .non)) (hn:ds.length<=76) (hu:A.units + 16 < PN)
  (h:∀(h':OQ) (tk:Nat) ks es ep t,fu K J h' s.heap.objs.size (b9 w) ks es ep t->(∀d,d∈ks↔d∈ds)->(∀b o,b < s.heap.objs.size->s.heap.get? b=some o->h'.get? b=some o)->Q (.ref s.heap.objs.size) {s with heap:=h',toks:=tk}):
  (Nm (Nq prog w) A (call (.type "set") [.ref l]) Q E s):=by obtain ⟨ol,Lg,hcl,_⟩:=id hl;exact oQ (λh'=>∃ks es ep t,fu K J h' s.heap.objs.size (b9 w) ks es ep t/\∀d,d∈ks↔d∈ds) Lg hcl Az Ay (by decide) (Eu hh hl) (λW a b c d e=>AE N hz hi hn hu W a b c d e) λh' tk ⟨ks,es,ep,t,a,b⟩=>h h' tk ks es ep t a b
end
end DL
namespace DL
open PySem PySem.Spec PyProof.Rows L2 ST
open PySem.W (KasT kas_sort kas_ask)
mutual
noncomputable def formOf:D->Fm
 | .int _=>.i
 | .tup xs=>w_ xs
 | _=>.b
noncomputable def w_:List D->Fm
 | []=>.tn
 | x::xs=>.tc (formOf x) (w_ xs)
end
noncomputable def kO:Fm->D->Bool
 | .i,.int _=>true
 | .tn,.tup xs=>xs.isEmpty
 | .tc x r,.tup (y::ys)=>kO x y && kO r (.tup ys)
 | _,_=>false
theorem oH:∀(f:Fm) (d:D),kO f d=true->gj f d
 | .i,.int k,_=>⟨k,rfl⟩
 | .tn,.tup [],_=>⟨[],rfl,rfl⟩
 | .tc x r,.tup (y::ys),h=>by unfold kO at h;rw [M8] at h;exact ⟨_,rfl,y,ys,rfl,oH x y h.1,oH r (.tup ys) h.2⟩
noncomputable def vh:List D->Bool
 | []=>true
 | d::r=>(match fJ d with
  | some k=>dZ k (d::r)
  | none=>false) && (d::r).all (kO (formOf d))
noncomputable def jE (ds:List D):Bool:=decide (ds.length < 64) && (areKeys ds && (decide (deps ds<=8) && vh ds))
theorem vj (h:vh ds=true):∃k f,∀d∈ds,fJ d=some k/\gj f d:=by
 cases ds with
 | nil=>exact ⟨.i,.i,λ_ h=>nomatch h⟩
 | cons d r=>
  unfold vh at h;rw [M8] at h;cases q:fJ d with
  | none=>rw [q] at h;cases h.1
  | some k=>
   rw [q] at h;exact ⟨k,formOf d,λx hx=>⟨jv h.1 x hx,oH _ _ (NC.mp h.2 x hx)⟩⟩
theorem oF {n:Nat}:∀{ds:List D},deps ds<=n->∀d∈ds,dep d<=n
 | [],_,_,h=>nomatch h
 | x::r,hn,d,h=>by
  unfold deps at hn
  (rcases Nj.mp h with rfl | h)
  ·omega
  ·exact oF (ds:=r) (by omega) d h
theorem g9 {k:Hd}:∀{ds:List D},(∀d∈ds,fJ d=some k)->dZ k ds=true
 | [],_=>rfl
 | x::r,h=>by unfold dZ;rw [h x (Nd ..),g9 λd hd=>h d (Na _ hd)];cases k <;> rfl
structure wI (ds:List D) (k:Hd) (f:Fm):Prop where
 ln:ds.length<=76
 ky:areKeys ds=true
 dp:deps ds<=8
 al:∀d∈ds,fJ d=some k/\gj f d
theorem oK (h:jE ds=true):∃k f,wI ds k f:=by unfold jE at h;rw [M8,M8,M8] at h;obtain ⟨h1,h2,h3,h4⟩:=h;obtain ⟨k,f,h5⟩:=vj h4;have h1:=of_decide_eq_true h1;exact ⟨k,f,by omega,h2,of_decide_eq_true h3,h5⟩
noncomputable abbrev d9 (X:Cx) (H0:Hp) (a:Nu) (ds:List D):HO:=.ext λh=>∃ks es ep t,fu X.K H0 h a (b9 X.w) ks es ep t/\∀d,d∈ks↔d∈ds
section
variable {X:Cx}
theorem Dy {K:M1}{J:Hp}{k:Hd}{f:Fm}{ds:List D}{vs:List V}{us:List M4}(o:wI ds k f) (rs:az K J ds vs) (rv:Vals vs us):∀i v,us.toArray[i]?=some v->KV K J v (ds.getD i .non):=λi v q=>by
 have l1:vs.length=us.length:=rv.length;have l2:ds.length=vs.length:=rs.length;have hi:i < us.length:=by have:=(Ov.mp q).1;simpa using this
 have e:us.getD i Oc=v:=by simp at q;simp [TM,q]
 have r1:=fL rs (i:=i) (by omega);have r2:=fN rv (i:=i) (by omega);rw [e] at r2;have m:=dw (ds:=ds) (i:=i) (by omega);refine ⟨?_,nK o.ky _ m,oF o.dp _ m,_,r1,r2⟩;have hh:=(o.al _ m).1;generalize bQ ds i=d at r1 hh;generalize vs.getD i V.non=vv at r1 r2;cases d with
 | tup xs=>cases r1 with
  | tup _ _=>cases r2;exact ⟨_,rfl⟩
 | _=>cases hh
theorem rE (hu:X.A.units + 64 < PN) (hc:X.calm=true):bw X (.type "set") (λxs H Q=>∃p vs ds J0,xs=[.ref p]/\bT X.K H p vs/\aG J0 H/\az X.K J0 ds vs/\(∃k f,wI ds k f)/\∀l,H l=none->Q (.ref l) (upd H l (d9 X J0 l ds))):=by intro MQ s σ H xs us Q I r h;obtain ⟨p,vs,ds,J0,rfl,hq,sm,rs,⟨k,f,o⟩,q⟩:=h;obtain ⟨u,rfl,rx⟩:=vals1 r;cases rx;have N:HF X.K J0 s:=HF.of (c:=⟨X.K,H,H,λ_=>True⟩) I sm;obtain ⟨its,r',pt,hz⟩:=I.tuple hq;refine vI N (I.ok.hd hc) pt (by simp [<-r'.length,rs.length]) (Dy o rs r') (by have:=o.ln;omega) (by omega) λh' tk ks es ep t S hm kp=>?_;exact ⟨.ref s.heap.objs.size,_,I.laid (t':=tk) (λb o e=>kp b o (Nk e) e) (Nb _) (show bU X.prog X.w _ _ _ (d9 X J0 s.heap.objs.size ds) from ⟨⟨ks,es,ep,t,S,hm⟩,⟨_,S.at_⟩,λh1 h2 ⟨ks,es,ep,t,S,hm⟩ e=>⟨ks,es,ep,t,S.keep e,hm⟩⟩),rfl,q _ (I.hok.fresh (Nb _))⟩
theorem zU (hu:X.A.units + 64 < PN) (hc:X.calm=true):bw X (.type "set") (λxs H Q=>∃p vs ds J0,xs=[.ref p]/\bT X.K H p vs/\aG J0 H/\az X.K J0 ds vs/\jE ds=true/\∀l,H l=none->Q (.ref l) (upd H l (d9 X J0 l ds))):=λMQ s σ H xs us Q I r ⟨p,vs,ds,J0,h1,hq,sm,rs,oks,q⟩=>rE hu hc MQ s σ H xs us Q I r ⟨p,vs,ds,J0,h1,hq,sm,rs,oK oks,q⟩
theorem zS (hu:X.A.units + 64 < PN) (hc:X.calm=true):bw X (.type "set") (λxs H Q=>∃p vs ds J0,xs=[.ref p]/\bN X.K H p vs/\aG J0 H/\az X.K J0 ds vs/\jE ds=true/\∀l,H l=none->Q (.ref l) (upd H l (d9 X J0 l ds))):=by intro MQ s σ H xs us Q I r h;obtain ⟨p,vs,ds,J0,rfl,hq,sm,rs,oks,q⟩:=h;obtain ⟨u,rfl,rx⟩:=vals1 r;cases rx;obtain ⟨k,f,o⟩:=oK oks;have N:HF X.K J0 s:=HF.of (c:=⟨X.K,H,H,λ_=>True⟩) I sm;obtain ⟨its,r',pl,hz⟩:=I.list hq;refine wB N (I.ok.hd hc) pl.isList (by simp [<-r'.length,rs.length]) (Dy o rs r') (by have:=o.ln;omega) (by omega) λh' tk ks es ep t S hm kp=>?_;exact ⟨.ref s.heap.objs.size,_,I.laid (t':=tk) (λb o e=>kp b o (Nk e) e) (Nb _) (show bU X.prog X.w _ _ _ (d9 X J0 s.heap.objs.size ds) from ⟨⟨ks,es,ep,t,S,hm⟩,⟨_,S.at_⟩,λh1 h2 ⟨ks,es,ep,t,S,hm⟩ e=>⟨ks,es,ep,t,S.keep e,hm⟩⟩),rfl,q _ (I.hok.fresh (Nb _))⟩
theorem zQ (hu:X.A.units + 64 < PN) (hc:X.calm=true):bw X (.type "set") (λxs H Q=>∃p vs ds J0,xs=[.ref p]/\(bT X.K H p vs\/bN X.K H p vs)/\aG J0 H/\az X.K J0 ds vs/\jE ds=true/\∀l,H l=none->Q (.ref l) (upd H l (d9 X J0 l ds))):=λMQ s σ H xs us Q I r ⟨p,vs,ds,J0,h1,h2,h3⟩=>
 h2.elim (λh2=>zU hu hc MQ s σ H xs us Q I r ⟨p,vs,ds,J0,h1,h2,h3⟩) λh2=>zS hu hc MQ s σ H xs us Q I r ⟨p,vs,ds,J0,h1,h2,h3⟩
end
noncomputable def dd:List D->List D
 | []=>[]
 | x::xs=>if (dd xs).any (aV x)=true then dd xs else x::dd xs
noncomputable def bE (ds:List D):List D:=aY (dd ds)
section
variable {P:D->Prop}
theorem kJ (p:eN P):∀(ds:List D),(∀x∈ds,P x)->(dd ds).Nodup/\∀y,y∈dd ds↔y∈ds
 | [],_=>⟨QW,λ_=>.rfl⟩
 | x::xs,h=>by
  obtain ⟨h1,h2⟩:=kJ p xs λy hy=>h y (Na _ hy);have px:=h x (Nd ..);have eqv:(dd xs).any (aV x)=true↔x∈xs:=by
   rw [QT];constructor
   ·rintro ⟨z,hz,e⟩;have hz':=(h2 z).mp hz;rw [(p.eq x z px (h z (Na _ hz'))).mp e];exact hz'
   ·intro hx;exact ⟨x,(h2 x).mpr hx,(p.eq x x px px).mpr rfl⟩
  unfold dd;by_cases c:(dd xs).any (aV x)=true
  ·rw [if_pos c];refine ⟨h1,λy=>?_⟩;rw [h2 y,Nj];exact ⟨.inr,λz=>z.elim (λe=>e▸eqv.mp c) id⟩
  ·rw [if_neg c];refine ⟨PZ.mpr ⟨λz=>c (eqv.mpr ((h2 x).mp z)),h1⟩,λy=>?_⟩;rw [Nj,Nj,h2 y]
theorem Bq (p:eN P):∀{A B:List D},(∀x∈A,P x)->A.Pairwise (λa b=>c6 a b=true)->B.Pairwise (λa b=>c6 a b=true)->(∀y,y∈A↔y∈B)->A=B
 | [],[],_,_,_,_=>rfl
 | [],b::B,_,_,_,h=>by cases (h b).mpr Nd
 | a::A,[],_,_,_,h=>by cases (h a).mp Nd
 | a::A,b::B,hp,hA,hB,h=>by
  obtain ⟨a1,a2⟩:=Ph.mp hA;obtain ⟨b1,b2⟩:=Ph.mp hB;have pa:=hp a Nd;have pb:=hp b ((h b).mpr Nd);have no:∀z,P z->c6 z z=true->False:=λz pz q=>by have:=p.asy z z pz pz q;rw [q] at this;cases this
  have e:a=b:=by
   rcases Nj.mp ((h a).mp Nd) with e | e
   ·exact e
   ·rcases Nj.mp ((h b).mpr Nd) with f | f
    ·exact f.symm
    ·exact (no a pa (p.tra _ _ _ pa pb pa (a1 b f) (b1 a e))).elim
  subst e;have:A=B:=by
   refine Bq p (λx hx=>hp x (Na _ hx)) a2 b2 λy=>⟨λhy=>?_,λhy=>?_⟩
   ·rcases Nj.mp ((h y).mp (Na _ hy)) with e | e
    ·subst e;exact (no y pa (a1 y hy)).elim
    ·exact e
   ·rcases Nj.mp ((h y).mpr (Na _ hy)) with e | e
    ·subst e;exact (no y pa (b1 y hy)).elim
    ·exact e
  rw [this]
theorem kD (p:eN P){ds:List D}(h:∀x∈ds,P x) (nd:ds.Nodup):(aY ds).Pairwise λa b=>c6 a b=true:=by
 have up:=vL p ds h;have pm:=c_ ds;have nd':(aY ds).Nodup:=pm.nodup_iff.mpr nd;have both:=YG up nd';refine (Qz.mp both).imp ?_;rintro a b ⟨ha,hb,h1,h2⟩;cases q:c6 a b with
 | true=>rfl
 | false=>exact absurd (p.tri a b (h a (pm.mem_iff.mp ha)) (h b (pm.mem_iff.mp hb)) q h1) h2
theorem oR (p:eN P){ds ks:List D}(h:∀x∈ds,P x) (nd:ks.Nodup) (hm:∀d,d∈ks↔d∈ds):aY ks=bE ds:=by
 obtain ⟨h1,h2⟩:=kJ p ds h;have hk:∀x∈ks,P x:=λx hx=>h x ((hm x).mp hx);have hd:∀x∈dd ds,P x:=λx hx=>h x ((h2 x).mp hx);exact Bq p (λx hx=>hk x ((c_ ks).mem_iff.mp hx)) (kD p hk nd) (kD p hd h1) λy=>by rw [(c_ ks).mem_iff,hm y];show _↔y∈aY (dd ds);rw [(c_ (dd ds)).mem_iff,h2 y]
theorem k_ (p:eN P) (h:∀x∈ds,P x):(bE ds).Pairwise (λa b=>c6 a b=true)/\∀d,d∈bE ds↔d∈ds:=by obtain ⟨h1,h2⟩:=kJ p ds h;exact ⟨kD p (λx hx=>h x ((h2 x).mp hx)) h1,λd=>by show d∈aY (dd ds)↔_;rw [(c_ (dd ds)).mem_iff,h2 d]⟩
end
theorem dU.reps {K:M1}{J:Hp}{es:List (Int×M4)}{ks:List D}(h:dU K J es ks):∃vs,az K J ks vs/\Vals vs (es.map (·.2)):=by
 induction h with
 | nil=>exact ⟨_,.nil,.nil⟩
 | cons _ hk _ ih=>
  obtain ⟨vs,h1,h2⟩:=ih;obtain ⟨_,_,_,v,r,rv⟩:=hk;exact ⟨v::vs,.cons r h1,.cons rv h2⟩
section
variable {X:Cx}
theorem Ac:∀ds:List D,(dd ds).length<=ds.length
 | []=>Nb _
 | x::xs=>by
  have:=Ac xs;unfold dd;split
  ·rw [OP];omega
  ·rw [OP,OP];omega
theorem pq (hu:X.A.units + 64 < PN) (hc:X.calm=true):bw X (.builtin "sorted") (λxs H Q=>∃p ds J0,xs=[.ref p]/\H p=some (d9 X J0 p ds)/\aG J0 H/\(∃k f,wI ds k f)/\(dd ds).length < 64/\∀l vs',H l=none->az X.K J0 (bE ds) vs'->Q (.ref l) (upd H l (.lst vs'))):=by
 intro MQ s σ H xs us Q I r h;obtain ⟨p,ds,J0,rfl,hp,sm,⟨k,f,o⟩,l64,q⟩:=h;obtain ⟨u,rfl,rx⟩:=vals1 r;cases rx;have hh:X.A.handled=none:=I.ok.hd hc;have N:HF X.K J0 s:=HF.of (c:=⟨X.K,H,H,λ_=>True⟩) I sm;obtain ⟨⟨ks,es,ep,t,S,hm⟩,_⟩:=(show bU X.prog X.w H s.heap p (d9 X J0 p ds) from I.hok p _ hp);obtain ⟨ks',pm,en'⟩:=S.en.perm (iy X.w p ep es).symm;have nd':ks'.Nodup:=pm.nodup_iff.mp S.nd;have hm':∀d,d∈ks'↔d∈ds:=λd=>by rw [<-pm.mem_iff,hm d]
 obtain ⟨vs,rs,rv⟩:=en'.reps;have hv:fS X.w p ep es=(dS X.w p ep es).toList.map (·.2):=rfl;rw [<-hv] at rv;generalize hits:fS X.w p ep es=its at rv;have l1:vs.length=its.length:=rv.length;have l2:ks'.length=vs.length:=rs.length;have len:ks'.length<=(dd ds).length:=NI nd' λd hd=>((kJ (cY f) ds λx hx=>(o.al x hx).2).2 d).mpr ((hm' d).mp hd);have les:es.size=ks'.length:=by rw [<-M_,S.en.length,pm.length_eq]
 have out:=oR (cY f) (λx hx=>(o.al x hx).2) nd' hm';refine jI I (λE C h=>jN hh S.wk (by omega) λh1 tk k1 le=>hits▸h h1 tk k1 (Qv le)) rv l2 (by omega) (uf (N.keep λ_ _ e=>e) rs rv (k:=k) (λd hd=>⟨(o.al d ((hm' d).mp hd)).1,N8 (oF o.dp d ((hm' d).mp hd)) (by decide)⟩) (g9 λd hd=>(o.al d ((hm' d).mp hd)).1) (λx hx y hy=>(cY f).lt _ _ (o.al _ ((hm' x).mp hx)).2 (o.al _ ((hm' y).mp hy)).2) hu) λl vs' hl rr=>q l vs' hl (out▸rr _ rs)
theorem yr (hu:X.A.units + 64 < PN) (hc:X.calm=true):bw X (.builtin "sorted") (λxs H Q=>∃p ds J0,xs=[.ref p]/\H p=some (d9 X J0 p ds)/\aG J0 H/\jE ds=true/\∀l vs',H l=none->az X.K J0 (bE ds) vs'->Q (.ref l) (upd H l (.lst vs'))):=λMQ s σ H xs us Q I r ⟨p,ds,J0,h1,hp,sm,oks,q⟩=>pq hu hc MQ s σ H xs us Q I r ⟨p,ds,J0,h1,hp,sm,oK oks,by
  unfold jE at oks;have:=of_decide_eq_true (Rk.mp oks).1;have:=Ac ds;omega,q⟩
end
end DL
namespace DL
open PySem PySem.Spec PyProof.Rows L2 ST
section
variable {X:Cx}{c:C}{e:N9}{pos pos2:Pos}
theorem zN:OC "set"=some (.type "set"):=by decide +kernel
noncomputable def uJ:List R->M R
 | [r]=>gW r >>= λxs=>if jE xs=true then .ok (.l .fresh (bE xs)) else .bad
 | _=>.bad
noncomputable def CG (X:Cx):List V->Hp->VK->Prop:=λxs H Q=>∃p vs ds J0,xs=[.ref p]/\(bT X.K H p vs\/bN X.K H p vs)/\aG J0 H/\az X.K J0 ds vs/\jE ds=true/\∀l,H l=none->Q (.ref l) (upd H l (d9 X J0 l ds))
noncomputable def CJ (X:Cx):List V->Hp->VK->Prop:=λxs H Q=>∃p ds J0,xs=[.ref p]/\H p=some (d9 X J0 p ds)/\aG J0 H/\jE ds=true/\∀l vs',H l=none->az X.K J0 (bE ds) vs'->Q (.ref l) (upd H l (.lst vs'))
theorem qS {J H:Hp}{p:Nu}{vs:List V}{ds:List D}{Q:VK}(hq:bT X.K H p vs\/bN X.K H p vs) (sm:aG J H) (rs:az X.K J ds vs) (ok:jE ds=true) (q:∀l o l2 vs',H l=none->upd H l o l2=none->az X.K J (bE ds) vs'->Q (.ref l2) (upd (upd H l o) l2 (.lst vs'))):
  CG X [.ref p] H λv H2=>CJ X [v] H2 Q:=
 ⟨p,vs,ds,J,rfl,hq,sm,rs,ok,λl hl=>⟨l,ds,J,rfl,bz,(Ext.new sm hl _).sub,ok,λl2 vs' h2 rr=>q l _ l2 vs' hl h2 rr⟩⟩
end
end DL
namespace DL
open PySem PySem.Spec PyProof.Rows L2 DX
end DL
namespace DL
open PySem PySem.Spec PyProof.Rows L2 ST PySem.SetTable
section
variable {t:OU}{es:Array (Int×M4)}{L:List (Nat×Int×M4)}
theorem p7 (T:Tab t es L) (h:Int) (n0:Nat) (hf:pos t.mask h n0∉L.map (·.1)) (hb:∀m,m < n0->pos t.mask h m∈L.map (·.1)):
  ∀(d n F:Nat),n0 - n=d->n<=n0->d < F->probe.go t (λ_=>h + 1) h F (st t.mask h n)=some (.empty (pos t.mask h n0) none)
 | d,n,0,_,_,h=>absurd h (Om _)
 | d,n,F + 1,hd,hn,hF=>by
  by_cases c:n=n0
  ·subst c;unfold probe.go;rw [ql T.dm (by rw [T.pl];exact hf)];show some (Met.empty _ (st t.mask h n).dummy)=_;rw [lg]
  ·obtain ⟨e,he,ej⟩:=M9.mp (hb n (by omega));obtain ⟨i,hi,rfl⟩:=ND.mp he;have hs:t.slot (pos t.mask h n)=.live i:=mQ T.sop (by rw [(T.at_ (Nc hi)).1,ej]);have eg:probe.go t (λ_=>h + 1) h (F + 1) (st t.mask h n)=probe.go t (λ_=>h + 1) h F (st t.mask h (n + 1)):=by rw [probe.go,hs];show (if (h + 1 == h)=true then _ else _)=_;rw [if_neg (by rw [beq_iff_eq];omega)];rfl
   rw [eg];exact p7 T h n0 hf hb (n0 - (n + 1)) (n + 1) F rfl (by omega) (by omega)
theorem Ah (T:Tab t es L) (h:Int) (n0:Nat) (hf:pos t.mask h n0∉L.map (·.1)) (hb:∀m,m < n0->pos t.mask h m∈L.map (·.1)) (hn0:n0<=10 * (t.mask + 12)):t.freeSlot h=some (pos t.mask h n0,false):=by have e:t.probe (λ_=>h + 1) h (t.probeStart h)=some (.empty (pos t.mask h n0) none):=p7 T h n0 hf hb n0 0 (10 * turns t.mask) rfl (Ny _) (by unfold turns;omega);unfold SetTable.freeSlot;rw [e];rfl
theorem EE (T:Tab t es L) (h:Int) (x:M4) (n0:Nat) (hf:pos t.mask h n0∉L.map (·.1)) (hb:∀m,m < n0->pos t.mask h m∈L.map (·.1)) (hn0:n0<=10 * (t.mask + 12)) (hl:L.length + 1<=t.mask):
  layNew t es h x=(insertAt es (t.put (pos t.mask h n0)).2 (h,x),(t.put (pos t.mask h n0)).1,false,false):=by obtain ⟨L',T',_⟩:=T.put h x n0 hf hb (vq _ _ _) hl;have fit:=cA T';unfold layNew;rw [Ah T h n0 hf hb hn0];dsimp only;unfold SetTable.orStandIn;rw [fit];rfl
theorem B9 {mask finger moves:Nat}{led plain:Bool}{t':OU}{MZ:Array Nat}(hm:jr mask) (hl:es.size<=mask) (e:laid mask finger moves led plain (es.map (·.1))=some (t',MZ)):MZ.toList.Perm (Ng es.size):=by
 obtain ⟨owner,G,e0,O⟩:=AA hm (es.map (·.1)) (by simpa using hl);have hlen:G.length=es.size:=by rw [O.ln];simp
 (let live:=(Ng (mask + 1)).filterMap λj=>(owner.getD j none).map (j,·))
 have lv:∀p,p∈live↔p.1∈G/\p.2=G.idxOf p.1:=λp=>by
  show p∈(Ng (mask + 1)).filterMap _↔_;rw [RD];constructor
  ·rintro ⟨j,hj,q⟩;have hj':j<=mask:=by have:=NQ.mp hj;omega
   rw [O.at_ j hj'] at q;by_cases c:j∈G
   ·rw [if_pos c] at q;have q:(j,G.idxOf j)=p:=by simpa using q
    subst q;exact ⟨c,rfl⟩
   ·rw [if_neg c] at q;exact absurd q (by simp)
  ·rintro ⟨h1,h2⟩;refine ⟨p.1,NQ.mpr (by have:=O.bd _ h1;omega),?_⟩;rw [O.at_ _ (O.bd _ h1),if_pos h1];show some (p.1,G.idxOf p.1)=some p;rw [<-h2]
 have so1:live.Pairwise λa b=>a.1 < b.1:=by
  show ((Ng (mask + 1)).filterMap _).Pairwise _;rw [T3];refine QY.imp ?_;intro a b hab x hx y hy;cases q1:owner.getD a none with
  | none=>rw [q1] at hx;exact absurd hx (by simp)
  | some k1=>cases q2:owner.getD b none with
   | none=>rw [q2] at hy;exact absurd hy (by simp)
   | some k2=>
    rw [q1] at hx;rw [q2] at hy;have hx:(a,k1)=x:=by simpa using hx
    have hy:(b,k2)=y:=by simpa using hy
    subst hx;subst hy;exact hab
 have ord:(live.map (·.2)).Perm (Ng es.size):=by
  rw [Rh _ Qs]
  ·intro k;rw [M9,NQ];constructor
   ·rintro ⟨p,hp,rfl⟩;obtain ⟨h1,h2⟩:=(lv p).mp hp;rw [h2,<-hlen];exact Oq h1
   ·intro hk;rw [<-hlen] at hk;exact ⟨(G[k],k),(lv _).mpr ⟨O7 _,(O.nd.idxOf_getElem k hk).symm⟩,rfl⟩
  ·show (live.map (·.2)).Pairwise _;rw [OB];refine (Qz.mp so1).imp ?_;rintro a b ⟨ha,hb,hab⟩ z;obtain ⟨a1,a2⟩:=(lv a).mp ha;obtain ⟨b1,b2⟩:=(lv b).mp hb;rw [a2,b2] at z;have ga:=QZ (Oq a1);have gb:=QZ (Oq b1);have:a.1=b.1:=by rw [<-ga,<-gb];congr 1
   omega
 unfold laid at e;rw [e0] at e;have e1:(live.map (·.2)).toArray=MZ:=by have:=Ow e;exact congrArg Yx this
 rw [<-e1];exact ord
theorem A9 (hm:jr (sizeAbove w - 1)) (hl:es.size<=sizeAbove w - 1):∃t' es' L',relayAll t es w=(es',t',false)/\t'.mask=sizeAbove w - 1/\t'.led=t.led/\t'.plain=t.plain/\Tab t' es' L'/\es'.toList.Perm es.toList:=by
 obtain ⟨t',MZ,L',e1,e2,e3,e4,e5,e6⟩:=r6 (t:=t) (es:=es) hm hl;have od:MZ.toList.Perm (Ng es.size):=B9 hm hl e1;refine ⟨t',MZ.filterMap (es[·]?),L',?_,e2,e3,e4,e5,e6⟩;unfold relayAll;rw [e1];dsimp only;have c1:coversAll MZ es.size=true:=by unfold coversAll;exact List.isPerm_iff.mpr od
 rw [c1,cA e5];rfl
end
end DL
namespace DL
open PySem PySem.Spec PyProof.Rows L2 ST
inductive dI:List (Int×M4)->List Int->Prop
 | nil:dI [] []
 | cons {i:Int}{k:Tok}{es:List (Int×M4)}{ns:List Int}:dI es ns->dI ((Ri i,.int i k)::es) (i::ns)
theorem dI.perm {es es':List (Int×M4)}(p:es.Perm es'):∀{ns:List Int},dI es ns->∃ns',ns.Perm ns'/\dI es' ns':=by
 induction p with
 | nil=>intro ns h;exact ⟨ns,.refl _,h⟩
 | cons x _ ih=>
  intro ns h;cases h with
  | cons h3=>obtain ⟨ns',a,b⟩:=ih h3;exact ⟨_,a.cons _,.cons b⟩
 | swap x y l=>
  intro ns h;cases h with
  | cons h3=>cases h3 with
   | cons h6=>exact ⟨_,.swap _ _ _,.cons (.cons h6)⟩
 | trans _ _ ih1 ih2=>
  intro ns h;obtain ⟨k1,a,b⟩:=ih1 h;obtain ⟨k2,c,d⟩:=ih2 b;exact ⟨k2,a.trans c,d⟩
theorem dI.length {es:List (Int×M4)}{ns:List Int}(h:dI es ns):es.length=ns.length:=by
 induction h with
 | nil=>rfl
 | cons _ ih=>simp [ih]
structure gK (h:OQ) (a:Nu) (led:Bool) (ns:List Int) (es:Array (Int×M4)) (ep:Nat) (t:OU):Prop where
 at_:h.get? a=some {cls:=.type "set",dict:=none,data:=.set es ep t}
 tab:∃L,Tab t es L
 pl:t.plain=true
 ld:t.led=led
 rm:ns.length * 5 < t.mask * 3
 en:dI es.toList ns
 nd:ns.Nodup
section
variable {w:NS}{prog:Nt}{E:M4->M5->Prop}{A:NK}{s:M5}
theorem dI.elems (h:dI es ns):ElemsOf (VC prog w) es:=by
 induction h with
 | nil=>exact λe he=>nomatch he
 | @cons i k es ns _ ih=>
  intro e he
  (rcases Nj.mp he with rfl | he)
  ·exact ⟨⟨i,Xe _ _ _ _,rfl⟩,rfl⟩
  ·exact ih e he
theorem dI.find {es:List (Int×M4)}(h:dI es ns) (i:Int):(es.findIdx? λe=>(VC prog w).is i e.2)=none↔i∉ns:=by
 rw [List.findIdx?_eq_none_iff]
 induction h with
 | nil=>simp
 | @cons j k es ns _ ih=>
  rw [Nj,not_or,<-ih];have e:(VC prog w).is i (.int j k)=decide (i=j):=KeyKind.is_eq_decide (Xe prog w j k) i;constructor
  ·intro h;refine ⟨λz=>?_,λx hx=>h x (Na _ hx)⟩;have:=h _ Nd;rw [e,z] at this;simp at this
  ·rintro ⟨h1,h2⟩ x hx
   (rcases Nj.mp hx with rfl | hx)
   ·rw [e];simpa using h1
   ·exact h2 x hx
theorem add_int {a:Nu}{es:Array (Int×M4)}{ep:Nat}{t:OU}{led:Bool}{ns:List Int}{i:Int}{k:Tok}{Q:Bool->M5->Prop}(S:gK s.heap a led ns es ep t) (hl:ns.length < 76)
  (q1:i∈ns->Q false s) (q2:i∉ns->∀(h':OQ) ns' es' ep' t',OM a s.heap h'->(i::ns).Perm ns'->gK h' a led ns' es' ep' t'->Q true {s with heap:=h'}):
  Nm (Nq prog w) A (UJ a (.int i k) (Ri i)) Q E s:=by
 obtain ⟨L,T⟩:=S.tab;have lenL:L.length=ns.length:=by rw [kE T,<-M_,S.en.length]
 have hes:es.size=ns.length:=by rw [<-M_,S.en.length]
 obtain ⟨n0,b1,b2,b3⟩:=pI T.mo (Ri i) (L.map (·.1)) (by rw [M7];exact T.fl)
 (unfold UJ WV)
 refine NU (M0 (Pd S.at_ rfl (cA T) ?_));dsimp only;have sc:byScan (.int i k) es=true:=byScan_of (prog:=prog) (w:=w) (knd:=VC prog w) rfl (by unfold scanBound;omega) S.en.elems;rw [sc];simp only [if_true];unfold setAddByScan;refine M0 ?_
 (refine M0 (Py ?_))
 refine M0 (wpAny_setScan_of (knd:=VC prog w) (k:=i) (Xe _ _ _ _) S.at_ rfl (cA T) S.en.elems ?_);cases hr:List.findIdx? (λe=>(VC prog w).is i e.2) es.toList with
 | some j=>
  dsimp only;have hin:i∈ns:=PY λz=>by have:=(S.en.find (prog:=prog) (w:=w) i).mpr z;rw [hr] at this;cases this
  exact M3 (M3 (q1 hin))
 | none=>
  dsimp only;have hm:i∉ns:=(S.en.find i).mp hr;have rm:=S.rm;have ln:=EE T (Ri i) (.int i k) n0 b2 b3 b1 (by rcases T.mo with h | h | h <;> rw [h] at rm ⊢ <;> omega);rw [ln];dsimp only
  (refine M0 (Rv (a:=()) rfl ?_))
  obtain ⟨L',T',pm⟩:=T.put (Ri i) (.int i k) n0 b2 b3 (vq _ _ _) (by rcases T.mo with h | h | h <;> rw [h] at rm ⊢ <;> omega);have fl:(t.put (pos t.mask (Ri i) n0)).1.mask=t.mask/\(t.put (pos t.mask (Ri i) n0)).1.plain=t.plain/\(t.put (pos t.mask (Ri i) n0)).1.led=t.led:=⟨rfl,rfl,rfl⟩;generalize t.put (pos t.mask (Ri i) n0)=tp at T' fl ⊢;obtain ⟨t',p⟩:=tp;dsimp only at T' fl ⊢;obtain ⟨f1,f2,f3⟩:=fl;obtain ⟨ns',p1,p2⟩:∃ns',(i::ns).Perm ns'/\dI (Pe es p (Ri i,.int i k)).toList ns':=by refine dI.perm (es:=(Ri i,.int i k)::es.toList) ?_ (.cons S.en);rw [T'.en,T.en];exact (pm.map (·.2)).symm
  have nd':ns'.Nodup:=p1.nodup_iff.mp (PZ.mpr ⟨hm,S.nd⟩);have lk:ns'.length=ns.length + 1:=by rw [<-p1.length_eq];rfl
  rw [f2,S.pl];simp only [if_true]
  (refine M0 (Rv (a:=true) rfl ?_))
  simp only [if_true];have esz:(Pe es p (Ri i,We i k)).size=ns'.length:=by rw [<-M_,p2.length]
  refine M0 (Sd S.at_ rfl ?_ (by rw [esz,OG];omega));have hg:=OO (TJ (Pe es p (Ri i,.int i k)) t') S.at_ rfl;have hfill:t'.fill=ns'.length:=by unfold Vz;rw [T'.dm,<-M_,T'.pl,M7,kE T',esz];rfl
  split
  ·rename_i c;simp only [Si,QA] at c;unfold Sx at c;rw [hfill,f1,decide_eq_true_eq] at c;have hW:(Pn (Sk ns'.length)=32/\ns'.length=5)\/(Pn (Sk ns'.length)=128/\ns'.length=19):=by
    unfold Sk;rw [if_neg (by omega)];rcases T.mo with h | h | h
    ·rw [h] at c rm;have:ns'.length=5:=by omega
     rw [this];exact .inl ⟨wK,rfl⟩
    ·rw [h] at c rm;have:ns'.length=19:=by omega
     rw [this];exact .inr ⟨wL,rfl⟩
    ·rw [h] at c;omega
   have hmo:jr (Pn (Sk ns'.length) - 1):=by rcases hW with ⟨h,_⟩ | ⟨h,_⟩ <;> rw [h];exact .inr (.inl rfl);exact .inr (.inr rfl)
   rw [esz];obtain ⟨t2,es2,L2,g1,g2',g3,g4,g5,g6⟩:=A9 (t:=t') (es:=Pe es p (Ri i,.int i k)) hmo (by rw [esz];rcases hW with ⟨h,h'⟩ | ⟨h,h'⟩ <;> rw [h] <;> omega);rw [g1];dsimp only
   (refine M0 (Rv (a:=()) rfl ?_))
   obtain ⟨ns2,r1,r2⟩:=p2.perm g6.symm;have es2z:es2.size=ns'.length:=by rw [<-M_,r2.length,r1.length_eq]
   refine M0 (Sd (s:={s with heap:=s.heap.update a (TJ (Pe es p (Ri i,.int i k)) t')}) hg rfl ?_ (by rw [es2z,OG];omega));have Ly:=OO (TJ es2 t2) hg rfl;refine M3 (M3 (q2 hm _ ns2 _ _ _ ((O8 _ _ _).trans (O8 _ _ _)) (p1.trans r1) ⟨Ly,⟨L2,g5⟩,g4.trans (f2.trans S.pl),g3.trans (f3.trans S.ld),?_,r2,r1.nodup_iff.mp nd'⟩));rw [<-r1.length_eq,g2'];rcases hW with ⟨h,h'⟩ | ⟨h,h'⟩ <;> rw [h,h'] <;> omega
  ·rename_i c;simp only [Si,QA] at c;unfold Sx at c;rw [hfill,f1,decide_eq_true_eq] at c;exact M3 (M3 (q2 hm _ ns' _ _ _ (O8 _ _ _) p1 ⟨hg,⟨L',T'⟩,f2.trans S.pl,f3.trans S.ld,by rw [f1];omega,p2,nd'⟩))
end
theorem gK.keep {h h':OQ}(S:gK h a led ns es ep t) (e:∀o,h.get? a=some o->h'.get? a=some o):gK h' a led ns es ep t:=
 ⟨e _ S.at_,S.tab,S.pl,S.ld,S.rm,S.en,S.nd⟩
section
variable {w:NS}{prog:Nt}{R:Wg->M5->Prop}{A:NK}{I:Nu}{fp wr:List Nu}{G:Array V_->Array V_->Prop}{n:Nat}{P:Nat->M4->Prop}{St:Nat->M5->Prop}
theorem Br (W:XS prog w A.in1 I fp wr G n P St) (S:Nu) (hSf:S∉fp) (val:Nat->Int) (hval:∀i v,P i v->∃t,v=.int (val i) t) (hn:n<=76):
  ∀(k i:Nat) (s:M5) (ns:List Int) (es:Array (Int×M4)) (ep:Nat) (t:OU),n - i=k->i<=n->St i s->gK s.heap S led ns es ep t->(∀d,d∈ns↔d∈(Ng i).map val)->
   (∀s' ns' es' ep' t',Moved (S::wr) G s s'->gK s'.heap S led ns' es' ep' t'->(∀d,d∈ns'↔d∈(Ng n).map val)->R (.ok (.ret .none)) s')->
   (P7 (Nq prog w) A (.builtin "set.update.loop" ⟨[.ref S,.ref I],[]⟩) R s):=by
 (have LH:S∉wr:=λh=>hSf (W.sub _ h))
 (have hsub:∀b∈wr,b∈S::wr:=λb hb=>Na _ hb)
 intro k
 induction k with
 | zero=>
  intro i s ns es ep t hk hi hst hS hm hR;have hin:i=n:=by omega
  subst hin;refine Pj O3 ?_;rw [OE NJ _]
  (show Nm _ A.in1 (RY (.ref I) >>= _) _ _ s)
  refine M0 (W.done s _ _ hst λs' Le=>?_)
  (show Nm _ A.in1 (ret Oc) _ _ s')
  exact M3 (hR s' ns es ep t (Le.mono hsub) (hS.keep λo e=>Le.heap S o LH e) hm)
 | succ k ih=>
  intro i s ns es ep t hk hi hst hS hm hR;have hlt:i < n:=by omega
  have hlen:ns.length<=i:=by have:=NI hS.nd (λd hd=>(hm d).mp hd);simpa using this
  refine Pj O3 ?_;rw [OE NJ _]
  (show Nm _ A.in1 (RY (.ref I) >>= _) _ _ s)
  refine M0 (W.item i s _ _ hlt hst λv s' hP Ll Le=>?_);obtain ⟨tk,rfl⟩:=hval i v hP;have hS':=hS.keep (h':=s'.heap) λo e=>Le.heap S o LH e;have mem':∀(ns':List Int),(∀d,d∈ns'↔d=val i\/d∈ns)->∀d,d∈ns'↔d∈(Ng (i + 1)).map val:=λns' h d=>by rw [h d,hm d,UK,NW,NV];simp only [Nz,Uy,NH];exact Or.comm
  show Nm _ A.in1 (holding [.int (val i) tk] (setAdd S (.int (val i) tk)) >>= _) _ _ s'
  (refine M0 (NU ?_))
  unfold setAdd;refine NU ?_
  (refine M0 (T8 ?_))
  refine add_int (s:={s' with toks:=s'.toks + 1}) hS' (by omega) (λhin=>?_) (λhin h' ns' es' ep' t' LG Mb LD=>?_)
  ·refine M3 ⟨QO NJ _,ih (i + 1) _ ns es ep t (by omega) hlt (W.frame _ s' _ _ Ll (QL _) λb hb o e=>e) hS' (mem' ns λd=>⟨.inr,λh=>h.elim (λh=>h▸hin) id⟩) λs'' ns'' es'' ep'' t'' hm'' hS'' Ln=>?_⟩;exact hR s'' ns'' es'' ep'' t'' (U8 W.gtrans ((Le.mono hsub).then_heap (QL _) λb o hb e=>e) hm'') hS'' Ln
  ·refine M3 ⟨QO NJ _,ih (i + 1) _ ns' es' ep' t' (by omega) hlt (W.frame _ s' _ _ Ll (QL _) λb hb o e=>?_) LD (mem' ns' λd=>?_) λs'' ns'' es'' ep'' t'' hm'' hS'' Ln=>?_⟩
   ·(rw [LG.2 b (λh:b=S=>hSf (by rw [<-h];exact hb))];exact e)
   ·rw [<-Mb.mem_iff,Nj]
   ·refine hR s'' ns'' es'' ep'' t'' (U8 W.gtrans ((Le.mono hsub).then_heap (QL _) λb o hb e=>?_) hm'') hS'' Ln
    (rw [LG.2 b (λh:b=S=>hb (by rw [h];exact Nd))];exact e)
end
theorem zc {h:OQ}(e:h.get? a=some {cls:=.type "set",dict:=none,data:=.set #[] 0 (.fresh 0 0 led)}):gK h a led [] #[] 0 (.fresh 0 0 led):=
 ⟨e,⟨[],⟨rfl,rfl,rfl,Qh,(λ_ h=>nomatch h),.inl rfl,Ny _,(λ_ h=>nomatch h)⟩⟩,rfl,rfl,(show 0 * 5 < 7 * 3 by decide),.nil,QW⟩
section
variable {w:NS}{prog:Nt}{A:NK}{s:M5}{E:M4->M5->Prop}{l:Nu}{MR:Array M4}{ds:List Int}
theorem GJ (hz:MR.size=ds.length) (hi:∀(i:Nat) (v:M4),MR[i]?=some v->∃t,v=.int (ds.getD i 0) t) (hn:ds.length<=76){fp:List Nu}{St:Nat->M5->Prop}{h2:OQ}{R:_->M5->Prop}(W:XS prog w A.in1.in1.in1 I fp [I] (λa b=>b=a) MR.size (λi v=>MR[i]?=some v) St) (hSf:s.heap.objs.size∉fp) (st:St 0 {s with heap:=h2})
 (hk:∀b o,(s.heap.push (eE (b9 w))).get? b=some o->h2.get? b=some o) (hR:∀s',Moved [s.heap.objs.size,I] (λa b=>b=a) {s with heap:=h2} s'->(∃ks es ep t,gK s'.heap s.heap.objs.size (b9 w) ks es ep t/\∀d,d∈ks↔d∈ds)->R (.ok (.ret .none)) s'):P7 (Nq prog w) A.in1.in1 (.builtin "set.update.loop" ⟨[.ref s.heap.objs.size,.ref I],[]⟩) R {s with heap:=h2}:=by
 have all:(Ng MR.size).map (λi=>ds.getD i 0)=ds:=by refine P8 (by simp [hz]) λi a b=>?_;simp [b]
 exact Br (A:=A.in1.in1) (led:=b9 w) W s.heap.objs.size hSf (λi=>ds.getD i 0) hi (by omega) MR.size 0 _ [] #[] 0 (.fresh 0 0 (b9 w)) (by omega) (Ny _) st (zc (hk _ _ (Nf _ rfl))) (λd=>by simp) λs' ks es ep t hm hS' hmem=>hR s' hm ⟨ks,es,ep,t,hS',by rw [all] at hmem;exact hmem⟩
noncomputable abbrev Ku (Q:M4->M5->Prop) (w:NS) (s:M5) (ds:List Int):Prop:=∀(h':OQ) (tk:Nat) ks es ep t,gK h' s.heap.objs.size (b9 w) ks es ep t->(∀d,d∈ks↔d∈ds)->(∀b o,b < s.heap.objs.size->s.heap.get? b=some o->h'.get? b=some o)->Q (.ref s.heap.objs.size) {s with heap:=h',toks:=tk}
theorem sW {Q:M4->M5->Prop}(hh:A.handled=none) (hl:s.heap.IsTuple l MR) (hz:MR.size=ds.length) (hi:∀(i:Nat) (v:M4),MR[i]?=some v->∃t,v=.int (ds.getD i 0) t) (hn:ds.length<=76) (h:Ku Q w s ds):(Nm (Nq prog w) A (call (.type "set") [.ref l]) Q E s):=by obtain ⟨ol,Lg,hcl,_⟩:=id hl;exact oQ (λh'=>∃ks es ep t,gK h' s.heap.objs.size (b9 w) ks es ep t/\∀d,d∈ks↔d∈ds) Lg hcl sF sE (by decide) (uS hh hl) (λW a _ c d e=>GJ hz hi hn W a c d e) λh' tk ⟨ks,es,ep,t,a,b⟩=>h h' tk ks es ep t a b
end
end DL
namespace DL
open PySem PySem.Spec PyProof.Rows L2 ST DX
open PySem.W (KasT kas_sort kas_ask)
theorem gK.wk (S:gK h a led ns es ep t):gZ h a led es ep t:=⟨S.at_,S.tab,S.pl,S.ld⟩
noncomputable def xS:D->Int
 | .int i=>i
 | _=>0
theorem HX {ds:List D}(h:ds.all isInt=true):ds=(ds.map xS).map .int:=by
 induction ds with
 | nil=>rfl
 | cons d r ih=>
  rw [QM,M8] at h;cases d with
  | int i=>rw [Nz,Nz,<-ih h.2];rfl
  | _=>cases h.1
noncomputable abbrev k8 (X:Cx) (a:Nu) (ms:List Int):HO:=.ext λh=>∃ns es ep t,gK h a (b9 X.w) ns es ep t/\∀d,d∈ns↔d∈ms
theorem int_at {K:M1}{J:Hp}{ms:List Int}{vs:List V}{us:List M4}(rs:az K J (ms.map .int) vs) (rv:Vals vs us):∀(i:Nat) (v:M4),us.toArray[i]?=some v->∃t,v=.int (ms.getD i 0) t:=λi v q=>by
 have l1:vs.length=us.length:=rv.length;have l2:(ms.map D.int).length=vs.length:=rs.length;have hi:i < us.length:=by have:=(Ov.mp q).1;simpa using this
 have e:us.getD i Oc=v:=by simp at q;simp [TM,q]
 have r1:=fL rs (i:=i) (by omega);have r2:=fN rv (i:=i) (by omega);rw [e] at r2;have lm:i < ms.length:=by rw [M7] at l2;omega
 have e2:bQ (ms.map D.int) i=.int (ms.getD i 0):=by unfold bQ;simp [TM,lm]
 rw [e2] at r1;generalize vs.getD i V.non=vv at r1 r2;cases r1;exact r2
section
variable {X:Cx}
theorem zR (hc:X.calm=true):bw X (.type "set") (λxs H Q=>∃p vs ms J0,xs=[.ref p]/\bT X.K H p vs/\az X.K J0 (ms.map .int) vs/\ms.length < 64/\∀l,H l=none->Q (.ref l) (upd H l (k8 X l ms))):=by intro MQ s σ H xs us Q I r h;obtain ⟨p,vs,ms,J0,rfl,hq,rs,l64,q⟩:=h;obtain ⟨u,rfl,rx⟩:=vals1 r;cases rx;have hh:X.A.handled=none:=I.ok.hd hc;have fr:H s.heap.objs.size=none:=I.hok.fresh (Nb _);obtain ⟨its,r',pt,hz⟩:=I.tuple hq;have lm:(ms.map D.int).length=vs.length:=rs.length;rw [M7] at lm;refine sW hh pt (by simp [<-r'.length,lm]) (int_at rs r') (by omega) λh' tk ks es ep t S hm kp=>?_;exact ⟨.ref s.heap.objs.size,_,I.laid (t':=tk) (λb o e=>kp b o (Nk e) e) (Nb _) (show bU X.prog X.w _ _ _ (k8 X s.heap.objs.size ms) from ⟨⟨ks,es,ep,t,S,hm⟩,⟨_,S.at_⟩,λh1 h2 ⟨ks,es,ep,t,S,hm⟩ e=>⟨ks,es,ep,t,S.keep e,hm⟩⟩),rfl,q _ fr⟩
theorem dI.reps {es:List (Int×M4)}{ns:List Int}(h:dI es ns):∃vs,(∀(K:M1) (J:Hp),az K J (ns.map .int) vs)/\Vals vs (es.map (·.2))/\VF (es.map (·.2)) ns:=by
 induction h with
 | nil=>exact ⟨[],λK J=>.nil,.nil,.nil⟩
 | @cons i k es ns _ ih=>
  obtain ⟨vs,h1,h2,h3⟩:=ih;exact ⟨.int i::vs,λK J=>.cons (.int _) (h1 K J),.cons ⟨k,rfl⟩ h2,.cons i k h3⟩
theorem v_ (hc:X.calm=true):bw X (.builtin "sorted") (λxs H Q=>∃p ms,xs=[.ref p]/\H p=some (k8 X p ms)/\ms.length < 64/\∀l vs',H l=none->(∀J0,az X.K J0 (bE (ms.map .int)) vs')->Q (.ref l) (upd H l (.lst vs'))):=by
 intro MQ s σ H xs us Q I r h;obtain ⟨p,ms,rfl,hp,l64,q⟩:=h;obtain ⟨u,rfl,rx⟩:=vals1 r;cases rx;have hh:X.A.handled=none:=I.ok.hd hc;obtain ⟨⟨ns,es,ep,t,S,hm⟩,_⟩:=(show bU X.prog X.w H s.heap p (k8 X p ms) from I.hok p _ hp);obtain ⟨ns',pm,en'⟩:=S.en.perm (iy X.w p ep es).symm;have nd':ns'.Nodup:=pm.nodup_iff.mp S.nd;have hm':∀d,d∈ns'↔d∈ms:=λd=>by rw [<-pm.mem_iff,hm d]
 obtain ⟨vs,rs,rv,hI⟩:=en'.reps;have hv:fS X.w p ep es=(dS X.w p ep es).toList.map (·.2):=rfl;rw [<-hv] at rv hI;generalize hits:fS X.w p ep es=its at rv hI;have l1:vs.length=its.length:=rv.length;have l2:(ns'.map D.int).length=vs.length:=(rs X.K H).length;have len:ns'.length<=ms.length:=NI nd' λd hd=>(hm' d).mp hd;have les:es.size=ns'.length:=by rw [<-M_,S.en.length,pm.length_eq]
 have ndD:(ns'.map D.int).Nodup:=OB.mpr (Sa (λh e=>h (by cases e;rfl)) nd');have Mh:∀d,d∈ns'.map D.int↔d∈ms.map D.int:=λd=>by simp only [M9,hm']
 have allI:∀d∈ms.map D.int,gj .i d:=λd hd=>by obtain ⟨i,_,rfl⟩:=M9.mp hd;exact ⟨i,rfl⟩
 have out:=oR (cY .i) allI ndD Mh;have lm:(ns'.map D.int).length=ns'.length:=M7 _;generalize hk:ns'.map D.int=ks' at *;have ai:ks'.all isInt=true:=NC.mpr λd hd=>by obtain ⟨i,e⟩:=allI d ((Mh d).mp hd);rw [e];rfl
 exact jI I (λE C h=>jN hh S.wk (by omega) λh1 tk k1 le=>hits▸h h1 tk k1 (Qv le)) rv l2 (by omega) (zH (rs X.K H) rv ai) λl vs' hl rr=>q l vs' hl λJ0=>out▸rr _ (rs _ J0)
end
end DL
namespace DL
open PySem PySem.Spec PyProof.Rows L2 ST DX
theorem zO:OC "set"=some (.type "set"):=by decide +kernel
section
variable {X:Cx}{c:C}{e:N9}{pos pos2:Pos}
noncomputable def uK:List R->M R:=uJ
theorem A0 {gs:G (List R)}(hu:X.A.units + 64 < PN) (ha:jt X c [e] gs) (hm:X.mg "sorted"=none) (hm2:X.mg "set"=none) (hK:autoParam (X.K=c.K) zA._auto_1) (hc:autoParam (X.calm=true) zA._auto_1) (hg:autoParam (Gl X "sorted") zA._auto_1) (Ly:autoParam (Gl X "set") zA._auto_1)
 (he:autoParam (Nl [.Call (.Name "set" p2) [e] [] pos2] X.env=(false,eval (.Call (.Name "set" p2) [e] [] pos2) X.env)::Nl [] X.env) zA._auto_1) (hpl:autoParam ((Qw pos (Nl [] X.env)).any (·.1)=false) zA._auto_1)
 (LJ:autoParam (Nl [e] X.env=(false,eval e X.env)::Nl [] X.env) zA._auto_1) (LC:autoParam ((Qw pos2 (Nl [] X.env)).any (·.1)=false) zA._auto_1):
  QD X c (.Call (.Name "sorted" p) [.Call (.Name "set" p2) [e] [] pos2] [] pos) (gN uK gs):=by
 have ha:=ha.h;refine ⟨?_⟩;have h1:=iD (p:=p2) (pos:=pos2) (show bw X (.type "set") (CG X) from zQ hu hc) Ly hm2 zN ha (by decide) (by decide) LJ LC;have h2:=kZ (p:=p) (pos:=pos) (show bw X (.builtin "sorted") (CJ X) from yr hu hc) hg hm gQ (fh h1 gS he) (by decide) (by decide) he hpl;refine yS (ta:=vN) (f:=uJ) (r:=λvs H1 Q=>CG X vs H1 λv H2=>CJ X [v] H2 Q) h2 rfl ?_;intro He J H xs vs Q hp rs w;unfold uJ at w;split at w
 ·obtain ⟨v,rfl,r⟩:=rs.one;rename_i r0;obtain ⟨xs,q,w⟩:=iZ w;split at w
  ·rename_i ok;have fin:∀(vs:List V),az c.K J xs vs->∀l o l2 vs',H l=none->upd H l o l2=none->az X.K J (bE xs) vs'->Q (.ref l2) (upd (upd H l o) l2 (.lst vs')):=λvs _ l o l2 vs' hl h2 rr=>by rw [hK] at rr;have e1:=Ext.new hp.sub hl o;have e2:=Ext.new e1.sub h2 (.lst vs');exact w _ _ _ (e1.trans e2) (RR.from e1.h (gU (hp.ext e1) h2 rr))
   cases r0 with
   | d y=>
    cases y with
    | tup ys=>
     cases q;cases r with
     | tup h hs=>exact qS (.inl (by rw [hK];exact dQ hp.sub h)) hp.sub (by rw [hK];exact hs) ok (fin _ hs)
    | lst ys=>
     cases q;obtain ⟨p,vs,rfl,hq,hs⟩:=RR.list hp r rfl;exact qS (.inr (by rw [hK];exact hq)) hp.sub (by rw [hK];exact hs) ok (fin _ hs)
    | _=>cases q
   | mo _ _=>cases q
   | mb _ _=>cases q
   | mf _ _=>cases q
   | ln _=>cases q
   | l m ys=>
    cases q;obtain ⟨p,vs,rfl,hq,hs⟩:=RR.list hp r rfl;exact qS (.inr (by rw [hK];exact hq)) hp.sub (by rw [hK];exact hs) ok (fin _ hs)
  ·exact w.elim
 ·exact w.elim
noncomputable def Hy (X:Cx):List V->Hp->VK->Prop:=λxs H Q=>∃p vs ms J0,xs=[.ref p]/\bT X.K H p vs/\az X.K J0 (ms.map .int) vs/\ms.length < 64/\∀l,H l=none->Q (.ref l) (upd H l (k8 X l ms))
noncomputable def CH (X:Cx):List V->Hp->VK->Prop:=λxs H Q=>∃p ms,xs=[.ref p]/\H p=some (k8 X p ms)/\ms.length < 64/\∀l vs',H l=none->(∀J0,az X.K J0 (bE (ms.map .int)) vs')->Q (.ref l) (upd H l (.lst vs'))
end
end DL
namespace DL
open PySem PySem.Spec PyProof.Rows L2 DX
end DL
namespace K55
open PySem DL
noncomputable def nD:List Str:=["_law_cell_here","_law_many","_law_left","_law_found","_law_k"]
noncomputable def nO:G O:=(aK (aZ 2 (Ds (ao (af 1) aF)))
 (aK (aZ 3 (gn aX))
 (aK (fF (dO (ao (af 1) aF)) (aE 4) (aK (jZ 3 2 (g2 cM (af 0) (gN iG (ao (af 2) aF))))
 (aZ 0 (g2 eO (af 0) (gC (.int 9))))))
 (cg (gN b_ (ao (af 3) aF))))))
noncomputable def cT (as:List S):M R:=fin (nO (bA nD as))
end K55
namespace K55
open PySem DL K01 WP K51 K52
theorem pC (a b:Nat):aV (dN a) (dN b)=(a == b):=by
 show ((a:Int) == (b:Int))=_;by_cases h:a=b
 ·subst h;simp
 ·rw [beq_eq_false_iff_ne.mpr h,beq_eq_false_iff_ne.mpr (by omega)]
structure zx (n:Nat) (w:Wd):Prop where
 mp:∀r∈w.ms,r.2.length<=n/\∀p∈r.2,p < w.m
 ap:∀r∈w.ar,r.2.length<=n/\∀p∈r.2,p.1 < w.m/\p.2 < w.m
noncomputable def em (m:Nat) (x:Nat×Nat):Nat:=if x.1=0 then x.2 else x.2 + m
theorem inN (l:Nat) (xs:List Nat):inD (dN l) (xs.map dN)=decide (l∈xs):=by
 unfold inD;rw [XU,O4,QT,decide_eq_true_eq];constructor
 ·rintro ⟨x,hx,e⟩;have e:aV (dN x) (dN l)=true:=e;rw [pC] at e;rw [<-eq_of_beq e];exact hx
 ·intro h;exact ⟨l,h,by show aV (dN l) (dN l)=true;rw [pC];simp⟩
theorem Ae (a b:Nat×Nat):aV (dP a) (dP b)=decide (a=b):=by
 have:aV (dP a) (dP b)=(aV (dN a.1) (dN b.1) && (aV (dN a.2) (dN b.2) && true)):=by show aV (.tup [dN a.1,dN a.2]) (.tup [dN b.1,dN b.2])=_;rw [iW,gy,gy,bW]
 rw [this,pC,pC,O4];obtain ⟨a1,a2⟩:=a;obtain ⟨b1,b2⟩:=b;simp
theorem Gs (l:Nat×Nat) (xs:List (Nat×Nat)):inD (dP l) (xs.map dP)=decide (l∈xs):=by
 unfold inD;rw [XU,O4,QT,decide_eq_true_eq];constructor
 ·rintro ⟨x,hx,e⟩;have e:aV (dP x) (dP l)=true:=e;rw [Ae,decide_eq_true_eq] at e;rw [<-e];exact hx
 ·intro h;exact ⟨l,h,by show aV (dP l) (dP l)=true;rw [Ae];simp⟩
theorem fp (i j:Int):d8 (.d (.int i)) (.d (.int j))=.ok (.d (.int (i + j))):=rfl
theorem uY {env:Ev}{Q:O->Prop}{g:G R}{i j k:Nat}{xs zs:List D}(h1:env[i]?=some (some (.own zs))) (h2:env[j]?=some (some (.own xs))) (hij:i≠j) (h:g env=.ok (.d (.int k))) (hk:k < xs.length) (lz:zs.length < 1000) (lx:xs.length<=1000)
  (c:Q (.nx ((env.set j (some (.own (xs.eraseIdx k)))).set i (some (.own (zs++[xs[k]])))))):Wp (jZ i j g env) Q:=by refine ⟨_,?_,c⟩;unfold jZ;rw [h1,h2];show (if i=j then M.bad else (g env >>= _))=_;rw [if_neg hij,h,aS];show (if 0<=(k:Int)/\(k:Int).toNat < xs.length/\zs.length < sizeLine/\xs.length<=sizeLine then _ else _)=_;rw [if_pos ⟨by omega,by simpa using hk,Nv lz (gq (Nb _)),gq lx⟩];rw [Pa,Nc hk]
theorem D3 (c:Int) (m:Nat) (hm:m<=8):∃ps:List Nat,cT [.d (.int c),.d (.int m)]=.ok (.d (.tup (ps.map dN)))/\ps.length=m/\∀p∈ps,p < m:=by
 have key:Wp (cT [.d (.int c),.d (.int m)]) λr=>∃ps:List Nat,r=.d (.tup (ps.map dN))/\ps.length=m/\∀p∈ps,p < m:=by
  refine jK (bh (r:=.l .fresh ((Ng m).map dN)) ?_ rfl (bh rfl rfl (jG (mO (n:=m) rfl (by omega)) ?_)))
  ·show (if below 16777216 (m:Int) then M.ok (R.l .fresh (dF 0 (m:Int).toNat)) else .bad)=_;rw [if_pos (by unfold below;simp;omega),Pa,CO]
  ·refine ly (λk env=>∃(c:Int) (ls ps:List Nat) (x:Option S),env=[some (.d (.int c)),some (.d (.int m)),some (.own (ls.map dN)),some (.own (ps.map dN)),x]/\ls.length + k=m/\ps.length=k/\(∀p∈ls,p < m)/\∀p∈ps,p < m) ⟨c,Ng m,[],none,rfl,by simp,rfl,λp hp=>by simpa using hp,λ_ h=>by cases h⟩ ?_ ?_
   ·rintro k hk _ ⟨c,ls,ps,x,rfl,l1,l2,m1,m2⟩;have hlen:(0:Int) < ((ls.map dN).length:Nat):=by simp;omega
    obtain ⟨j,hj⟩:∃j:Nat,c % ((ls.map dN).length:Nat)=j:=⟨(c % ((ls.map dN).length:Nat)).toNat,by have:=Qm c (b:=((ls.map dN).length:Nat)) (by omega);omega⟩;have hjl:j < (ls.map dN).length:=by have:=Pk c hlen;omega
    have Lj:j < ls.length:=by simpa using hjl
    refine ⟨_,rfl,cP (uY (k:=j) rfl rfl (by decide) ((two rfl (n1 rfl rfl) (dz _ _ hlen)).trans (by rw [hj])) hjl (by simp;omega) (by simp;omega) ?_)⟩;refine fQ (two rfl rfl (iw _ 9 (by decide) (by decide))) rfl ⟨_,rfl,c / 9,ls.eraseIdx j,ps++[ls[j]],some (.d (.int k)),?_,?_,?_,λp hp=>m1 p (List.mem_of_mem_eraseIdx hp),λp hp=>?_⟩
    ·rw [NW,Ud,show (ls.eraseIdx j).map dN=(ls.map dN).eraseIdx j by simp [PL,RS,RT]];rfl
    ·rw [Sz,if_pos Lj];omega
    ·rw [NG];simp;omega
    ·rcases NV.mp hp with h | h
     ·exact m2 p h
     ·rw [NH.mp h];exact m1 _ (O7 Lj)
   ·rintro _ ⟨c,ls,ps,x,rfl,l1,l2,m1,m2⟩;exact bZ rfl rfl ⟨_,rfl,ps,rfl,l2,m2⟩
 obtain ⟨_,h,ps,rfl,hk⟩:=key;exact ⟨ps,h,hk⟩
noncomputable def jJ:D->Nat
 | .int i=>i.toNat
 | _=>0
noncomputable def gD:D->Nat×Nat
 | .tup [x,y]=>(jJ x,jJ y)
 | _=>(0,0)
theorem qu (n:Nat):jJ (dN n)=n:=rfl
theorem iS (n:Nat×Nat):gD (dP n)=n:=rfl
theorem back {α:Type}(h:α->D) (u:D->α) (hu:∀x,u (h x)=x){l:List D}(hl:∀d∈l,∃x,d=h x):(l.map u).map h=l:=by rw [N4];refine (U9 (g:=id) λd hd=>?_).trans (List.map_id _);obtain ⟨x,rfl⟩:=hl d hd;show h (u (h x))=h x;rw [hu]
theorem sA {α:Type}(h:α->D) (u:D->α) (hu:∀x,u (h x)=x) (xs:List α):((aY (xs.map h)).map u).map h=aY (xs.map h):=back h u hu λd hd=>by obtain ⟨x,_,rfl⟩:=M9.mp (jH hd);exact ⟨x,rfl⟩
theorem xN {α:Type}(h:α->D) (u:D->α) (hu:∀x,u (h x)=x) (xs:List α):∀y∈(aY (xs.map h)).map u,y∈xs:=λy hy=>by obtain ⟨d,hd,rfl⟩:=M9.mp hy;obtain ⟨x,hx,rfl⟩:=M9.mp (jH hd);rw [hu];exact hx
noncomputable def pF:Fm:=.tc .i (.tc .i .tn)
theorem j6 (p:Nat×Nat):gj pF (dP p):=⟨_,rfl,_,_,rfl,⟨_,rfl⟩,_,rfl,_,_,rfl,⟨_,rfl⟩,[],rfl,rfl⟩
theorem DG (xs:List Nat) (hl:xs.length < 64):lI (xs.map dN)=true:=by unfold lI;rw [M7,decide_eq_true hl,QA,NC];intro d hd;obtain ⟨x,_,rfl⟩:=M9.mp hd;rfl
theorem B3 (xs:List (Nat×Nat)):∀d∈xs.map dP,fJ d=some .i:=λd hd=>by obtain ⟨x,_,rfl⟩:=M9.mp hd;rfl
theorem Ir (xs:List (Nat×Nat)) (hl:xs.length < 64):nU (xs.map dP)=true:=by
 have Mr:=lW xs;have hc:uB (xs.map dP)=true:=by unfold uB;rw [NC];intro x hx;rw [NC];intro y hy;obtain ⟨a,_,rfl⟩:=M9.mp hx;obtain ⟨b,_,rfl⟩:=M9.mp hy;exact (cY pF).lt _ _ (j6 a) (j6 b)
 unfold nU;rw [hc,decide_eq_true Mr,M7,decide_eq_true hl];cases xs with
 | nil=>rfl
 | cons x xs=>
  have hh:Cn ((x::xs).map dP)=true:=by show dZ .i ((x::xs).map dP)=true;exact g9 (B3 (x::xs))
  rw [hh];simp
theorem yI {ps:List Nat}(hp:p < ps.length):bg (.d (.tup (ps.map dN))) (.d (dN p))=.ok (.d (dN (ps.getD p 0))):=by
 have h1:(ps.map dN)[p]?=some (dN (ps.getD p 0)):=by rw [Nx,Nc hp];simp [TM,hp]
 exact iY h1
noncomputable def iM (w:Wd) (ps:List Nat):Wd:=⟨w.m,w.ms.map λr=>(r.1,(aY ((r.2.map λp=>ps.getD p 0).map dN)).map jJ),w.ar.map λr=>(r.1,(aY ((r.2.map λp=>(ps.getD p.1 0,ps.getD p.2 0)).map dP)).map gD)⟩
theorem Jf (w:Wd) (hw:ri w) (n:Nat) (hb:zx n w) (ps:List Nat) (hl:ps.length=w.m) (hp:∀p∈ps,p < w.m):ri (iM w ps)/\zx n (iM w ps)/\(iM w ps).m=w.m/\(iM w ps).ms.length=w.ms.length/\(iM w ps).ar.length=w.ar.length:=by
 have gd:∀p,p < w.m->ps.getD p 0 < w.m:=λp h=>by
  have h':p < ps.length:=by omega
  rw [show ps.getD p 0=ps[p] by simp [TM,h']];exact hp _ (O7 h')
 refine ⟨⟨hw.lo,hw.hi,?_,?_⟩,⟨λr hr=>?_,λr hr=>?_⟩,rfl,M7 _,M7 _⟩
 ·show (w.ms.map _).length<=3;rw [M7];exact hw.ml
 ·show (w.ar.map _).length<=3;rw [M7];exact hw.al
 ·obtain ⟨q,hq,rfl⟩:=M9.mp (show r∈w.ms.map _ from hr);obtain ⟨h1,h2⟩:=hb.mp q hq;refine ⟨?_,λp hp'=>?_⟩
  ·show ((aY _).map jJ).length<=n;rw [M7,mV,M7,M7];exact h1
  ·have:=xN dN jJ qu _ p hp';obtain ⟨z,hz,rfl⟩:=M9.mp this;exact gd z (h2 z hz)
 ·obtain ⟨q,hq,rfl⟩:=M9.mp (show r∈w.ar.map _ from hr);obtain ⟨h1,h2⟩:=hb.ap q hq;refine ⟨?_,λp hp'=>?_⟩
  ·show ((aY _).map gD).length<=n;rw [M7,mV,M7,M7];exact h1
  ·have:=xN dP gD iS _ p hp';obtain ⟨z,hz,rfl⟩:=M9.mp this;exact ⟨gd _ (h2 z hz).1,gd _ (h2 z hz).2⟩
theorem Iq (xs:List (Nat×Nat)) (hl:xs.length < 64):jE (xs.map dP)=true:=by
 have h1:areKeys (xs.map dP)=true:=by
  induction xs with
  | nil=>rfl
  | cons x xs ih=>
   rw [Nz];show (isKey (dP x) && areKeys (xs.map dP))=true;rw [ih (by simp at hl;omega)];rfl
 have h2:deps (xs.map dP)<=8:=fc λd hd=>by obtain ⟨x,_,rfl⟩:=M9.mp hd;exact (by decide:(1:Nat)<=8)
 have h3:vh (xs.map dP)=true:=by
  cases xs with
  | nil=>rfl
  | cons x xs=>
   show (dZ .i ((x::xs).map dP) && ((x::xs).map dP).all (kO pF))=true;rw [g9 (B3 (x::xs)),QA,NC];intro d hd;obtain ⟨y,_,rfl⟩:=M9.mp hd;rfl
 unfold jE;rw [h1,h3,decide_eq_true h2,M7,decide_eq_true hl];rfl
theorem JZ (xs:List (Nat×Nat)) (hl:xs.length < 64):uK [.d (.tup (xs.map dP))]=.ok (.l .fresh (bE (xs.map dP))):=by show (if jE (xs.map dP)=true then M.ok (R.l .fresh (bE (xs.map dP))) else _)=_;rw [if_pos (Iq xs hl)]
theorem mW {P:D->Prop}(p:eN P){ds:List D}(h:∀x∈ds,P x):(bE ds).length<=ds.length/\∀d∈bE ds,d∈ds:=by obtain ⟨h1,h2⟩:=kJ p ds h;refine ⟨?_,λd hd=>((k_ p h).2 d).mp hd⟩;show (aY (dd ds)).length<=_;rw [mV];exact NI h1 λd hd=>(h2 d).mp hd
theorem Gd (xs:List D) (k:Nat) (hk:k<=xs.length):cutD xs none (some (k:Int))=xs.take k:=by unfold cutD;rw [HT.vG,HT.xM,WE hk];simp
theorem BQ (xs:List D) (k:Nat) (hk:k<=xs.length):cutD xs (some (k:Int)) none=xs.drop k:=by unfold cutD;rw [HT.vG,HT.xM,WE hk];rw [Px (by simp)]
noncomputable abbrev cO {α:Type}(h:α->D) (r:Str×List α):D:=.tup [.str r.1,.tup (r.2.map h)]
structure zF {α:Type}(P:α->Prop) (n:Nat) (L:List (Str×List α)):Prop where
 all:∀r∈L,r.2.length<=n/\∀p∈r.2,P p
theorem pW {i:Int}(h:0<=i):∃k:Nat,i=k:=⟨i.toNat,by omega⟩
end K55
namespace DL
open PySem PySem.Spec PyProof.Rows L2 DX
noncomputable def bI (gt:GT) (gts:G Bool) (act:Ev->M (List D×Ev)):List D->Ev->M (List D×Ev)
 | [],env=>.ok ([],env)
 | d::ds,env=>gt d env >>= λe=>gts e >>= λk=>if k=true then act e >>= λr=>bI gt gts act ds r.2 >>= λz=>.ok (r.1++z.1,z.2) else bI gt gts act ds e
noncomputable def tX (env:Ev) (σ:L2.St) (p:Nu):Prop:=∀(j:Nat) (xs:Mn),env[j]?=some (some (mS xs))->σ[j]?≠some (some (.ref p))
structure tP (Acc:Hp->Hp->List D->Prop):Prop where
 ext:∀{J H J' H':Hp}{ys:List D},Acc J H ys->Ext J H J' H'->Acc J' H' ys
noncomputable def qz (X:Cx) (c:C) (p:Nu) (Acc:Hp->Hp->List D->Prop) (J2 H2:Hp) (N:Nat) (m:Sem Unit) (act:Ev->M (List D×Ev)):Prop:=
 ∀(MQ:List (Nu×Obj)) (s:M5) (σ:L2.St) (H J:Hp) (env:Ev) (ys:List D) (Qf:List D×Ev->Prop),Inv X MQ σ H s->Ext J2 H2 J H->SR c J H σ env->tX env σ p->Acc J H ys->ys.length + N<=sizeLine->bR (act env) Qf c.T->
  Nm (Nq X.prog X.w) X.A m (λ_ s'=>∃σ' H' J' r,Inv X MQ σ' H' s'/\Ext J2 H2 J' H'/\aG J J'/\SR c J' H' σ' r.2/\tX r.2 σ' p/\Acc J' H' (ys++r.1)/\r.1.length<=N/\Qf r) (λ_ _=>False) s
noncomputable abbrev Bh (ifs:List N9) (env:Env):Sem Bool:=forIn ifs true λc r=>if r=true then do let ok <-UT c env (eval c env);pure (Ql ok) else pure (Ql r)
noncomputable abbrev lq (MS MU:N9) (ifs:List N9) (it:M4) (env:Env) (act:Sem Unit) (again':Sem Fin):Sem Fin:=do
 Ru MU.pos
 match <-RY it with
 | none=>pure (.done .next)
 | some v=>
  Qk MS it v
  assign MS env v
  let mut ok:=true
  for c in ifs do
   if ok then ok <-UT c env (eval c env)
  if ok then
   act
  again'
noncomputable def oY (prog:Nt) (w:NS) (A:NK) (e:N9) (depth:Nat) (it acc:M4) (env:Env) (MS:N9) (ifs:List N9) (m:Sem Unit):Prop:=
 ∀(R:Wg->M5->Prop) (I:Nat->M5->Prop),(∀n s,I n s->Nm (Nq prog w) A (RY it) (λr s₁=>match r with
   | none=>R (.ok .next) s₁
   | some v=>Nm (Nq prog w) A (Qk MS it v) (λ_ s₁=>Nm (Nq prog w) A (assign MS env v) (λ_ s₂=>
     Nm (Nq prog w) A (Bh ifs env) (λok s₃=>if ok=true then Nm (Nq prog w) A m (λ_ s₅=>∃m,m < n/\I m s₅) (λ_ _=>False) s₃ else ∃m,m < n/\I m s₃) (λ_ _=>False) s₂) (λ_ _=>False) s₁) (λ_ _=>False) s₁) (λ_ _=>False) s)->
  ∀(n:Nat) (s:M5),I n s->P7 (Nq prog w) A (.compLoop e depth it acc env) R s
section
variable {prog:Nt}{w:NS}{A:NK}{MS MU:N9}{ifs:List N9}{MP:Rl}{pos:Pos}{it acc:M4}{env:Env}{depth:Nat}{gens:List T5}{act:Sem Unit}
theorem vQ {R:Wg->M5->Prop}{I:Nat->M5->Prop}{E:M4->M5->Prop}{code:Code}{n:Nat}{s:M5}{Q:Fin->M5->Prop}
  (Mk:∀s,R (.ok .next) s->Q (.done .next) s) (Mf:∀s,(∃m,m < n/\I m s)->Nm (Nq prog w) A (again code) Q E s)
  (t:Nm (Nq prog w) A (RY it) (λr s₁=>match r with
   | none=>R (.ok .next) s₁
   | some v=>Nm (Nq prog w) A (Qk MS it v) (λ_ s₁=>Nm (Nq prog w) A (assign MS env v) (λ_ s₂=>
     Nm (Nq prog w) A (Bh ifs env) (λok s₃=>if ok=true then Nm (Nq prog w) A act (λ_ s₅=>∃m,m < n/\I m s₅) (λ_ _=>False) s₃ else ∃m,m < n/\I m s₃) (λ_ _=>False) s₂) (λ_ _=>False) s₁) (λ_ _=>False) s₁) (λ_ _=>False) s):
  Nm (Nq prog w) A (lq MS MU ifs it env act (again code)) Q E s:=by
 refine M0 (Rg (M0 (Od t (λr s₁ h₁=>?_) λ_ _ f=>f.elim)));cases r with
 | none=>exact M3 (Mk _ h₁)
 | some v=>
  refine M0 (Od h₁ (λ_ s₁' h₁'=>?_) λ_ _ f=>f.elim);refine M0 (Od h₁' (λ_ s₂ h₂=>M0 (Od h₂ (λok s₃ h₃=>?_) λ_ _ f=>f.elim)) λ_ _ f=>f.elim);cases ok with
  | false=>exact Mf _ h₃
  | true=>exact M0 (Od h₃ (λ_ s₅ h₅=>Mf _ h₅) λ_ _ f=>f.elim)
theorem yM {elt:N9}(ht:SG (.ListComp elt gens MP pos) depth it acc env=lq MS MU ifs it env act (again (.compLoop (.ListComp elt gens MP pos) depth it acc env))):oY prog w A (.ListComp elt gens MP pos) depth it acc env MS ifs act:=by intro R I turn n s h;refine codeAny_loop rfl I (λn s hI=>?_) n h;show Nm _ A ((SG (.ListComp elt gens MP pos) depth it acc env).onRaise (λx=>do WG x env;WH x)) _ _ s;refine wpAny_noted ?_;rw [ht];exact vQ (λ_ h=>h) (λ_ h=>M3 ⟨rfl,h⟩) (turn n s hI)
theorem DC {kx vx:N9}(ht:SG (.DictComp kx vx gens MP pos) depth it acc env=lq MS MU ifs it env act (again (.compLoop (.DictComp kx vx gens MP pos) depth it acc env))):oY prog w A (.DictComp kx vx gens MP pos) depth it acc env MS ifs act:=by intro R I turn n s h;refine codeAny_loop rfl I (λn s hI=>?_) n h;show Nm _ A ((SG (.DictComp kx vx gens MP pos) depth it acc env).onRaise (λx=>do WG x env;WH x)) _ _ s;refine wpAny_noted ?_;rw [ht];exact vQ (λ_ h=>h) (λ_ h=>M3 ⟨rfl,h⟩) (turn n s hI)
end
section
variable {X:Cx}{c:C}{p:Nu}{Acc:Hp->Hp->List D->Prop}{J2 H2:Hp}{N:Nat}{m:Sem Unit}{act:Ev->M (List D×Ev)}{MS:N9}{ifs:List N9}{gt:GT}{gts:G Bool}{e:N9}{depth:Nat}{acc:M4}{it:Nu}{fp:List Nu}{tn:Nat->OQ->Prop}{It:It}{ds:List D}{J1:Hp}
theorem u7 (aR:tP Acc) (hc:X.calm=true) (hx:∀v s,X.xe v s->False) (LP:oY X.prog X.w X.A e depth (.ref it) acc X.env MS ifs m) (hT:zC X c MS gt) (hIf:x6 X c ifs gts) (hA:qz X c p Acc J2 H2 N m act) (T:Turn X.prog X.w X.K MS It fp it tn)
 (U:Hp->Hp->Prop) (wk:Walk c It ds J1 U){s:M5}{H J:Hp}{ys:List D}{Qf:List D×Ev->Prop}(hU:∀J' H',Ext J2 H2 J' H'->aG J J'->U J' H') (I:Inv X MQ σ H s) (st:tn 0 s.heap) (fr:∀b∈fp,gf X MQ H b) (e2:Ext J2 H2 J H) (sr:SR c J H σ env) (no:tX env σ p) (ac:Acc J H ys)
 (hl:ys.length + ds.length * N<=sizeLine) (w:bR (bI gt gts act ds env) Qf c.T):
  P7 (Nq X.prog X.w) X.A (.compLoop e depth (.ref it) acc X.env) (λr s'=>r=.ok .next/\∃σ' H' J' r',Inv X MQ σ' H' s'/\Ext J2 H2 J' H'/\aG J J'/\SR c J' H' σ' r'.2/\tX r'.2 σ' p/\Acc J' H' (ys++r'.1)/\r'.1.length<=ds.length * N/\Qf r') s:=by
 refine LP _ (λn s'=>∃(i:Nat) (σ':L2.St) (H' J':Hp) (env':Ev) (zs:List D),n=ds.length - i/\i<=ds.length/\Inv X MQ σ' H' s'/\tn i s'.heap/\(∀b∈fp,H' b=none)/\Ext J2 H2 J' H'/\aG J J'/\SR c J' H' σ' env'/\tX env' σ' p/\Acc J' H' (ys++zs)/\zs.length<=i * N/\
  bR (bI gt gts act (ds.drop i) env') (λr=>Qf (zs++r.1,r.2)) c.T) ?_ ds.length s ⟨0,σ,H,J,env,[],rfl,Ny _,I,st,λb hb=>(fr b hb).1,e2,aG.refl J,sr,no,by rw [O0];exact ac,by simp,by rw [QX];exact w⟩
 rintro n s' ⟨i,σ',H',J',env',zs,rfl,hi,I',st',fr',e',sj,sr',no',ac',hz,w'⟩;have stat:∀{H':Hp},(∀b∈fp,H' b=none)->∀b∈fp,gf X MQ H' b:=λhn b hb=>⟨hn b hb,(fr b hb).2⟩;obtain ⟨wk1,wk2⟩:=wk i J' H' sr'.hp (hU J' H' e' sj);by_cases hlt:i < ds.length
 ·obtain ⟨g1,y1⟩:=wk2 ds[i] (by simp [hlt]);rw [PV hlt] at w';refine Od (T.item X rfl rfl rfl hc i MQ s' σ' H' (λ_ _=>False) I' (stat fr') st' g1) (λr s4 ⟨u,hr,h4⟩=>?_) λ_ _ f=>f.elim;subst hr;refine Od h4 (λ_ s5 ⟨x,H5,I5,r5,y5,st5,fr5⟩=>?_) λ_ _ f=>f.elim;obtain ⟨J5,e5,rx⟩:=y1 x H5 y5;have I5':=I5.pinned (stat fr5) (T.obj _ _ st5);have again:∀{σ7:L2.St}{H7:Hp}{s7:M5},Inv X (MQ++mJ fp s5.heap) σ7 H7 s7->Inv X MQ σ7 H7 s7/\tn (i + 1) s7.heap/\(∀b∈fp,H7 b=none):=fun {σ7 H7 s7} I7=>by refine ⟨I7.unpinned,T.keep _ _ _ st5 λb hb o e=>(I7.pin (b,o) (Oa _ (Oa _ (iQ hb e)))).1,λb hb=>?_⟩;obtain ⟨o,e,d⟩:=T.obj _ _ st5 b hb;exact (I7.pin (b,o) (Oa _ (Oa _ (iQ hb e)))).2.1
  refine Od (hT _ s5 σ' H5 x u (λσ6 H6=>∃e6,H6=H5/\SR c J5 H5 σ6 e6/\KO env' σ' e6 σ6/\bR (gts e6 >>= λk=>if k=true then act e6 >>= λr=>bI gt gts act (ds.drop (i + 1)) r.2 >>= λz=>.ok (r.1++z.1,z.2) else bI gt gts act (ds.drop (i + 1)) e6)
   (λr=>Qf (zs++r.1,r.2)) c.T) I5' r5 ⟨J5,env',ds[i],sr'.ext e5,rx,aC (aL w') λe6 w6 σ6 sr6 ko=>⟨e6,rfl,sr6,ko,w6⟩⟩) (λ_ s6 ⟨σ6,H6,I6,e6,Mi,sr6,ko,w6⟩=>?_) λ_ _ f=>(hx _ _ f).elim
  subst Mi;have no6:tX e6 σ6 p:=λj xs q z=>by obtain ⟨k1,k2⟩:=ko j xs q;exact no' j xs k1 (k2▸z)
  refine Od (hIf _ s6 σ6 H6 (λk H7=>∃J7,Ext J5 H6 J7 H7/\bR (if k=true then act e6 >>= λr=>bI gt gts act (ds.drop (i + 1)) r.2 >>= λz=>.ok (r.1++z.1,z.2) else bI gt gts act (ds.drop (i + 1)) e6)
   (λr=>Qf (zs++r.1,r.2)) c.T) I6 ⟨J5,e6,sr6,aC (aL w6) λk wk J7 H7 e7=>⟨J7,e7,wk⟩⟩) (λk s7 ⟨H7,I7,J7,e7,w7⟩=>?_) λ_ _ f=>(hx _ _ f).elim
  have sr7:=sr6.ext e7;have ac7:=aR.ext (aR.ext ac' e5) e7;have x7:=(e'.trans e5).trans e7;have j7:=(sj.trans e5.j).trans e7.j;have hm:(i + 1) * N=i * N + N:=by rw [Yp,Nat.one_mul]
  cases k with
  | false=>
   rw [if_neg (by decide)] at w7 ⊢;obtain ⟨a1,a2,a3⟩:=again I7;exact ⟨ds.length - (i + 1),by omega,i + 1,σ6,H7,J7,e6,zs,rfl,hlt,a1,a2,a3,x7,j7,sr7,no6,ac7,by omega,w7⟩
  | true=>
   rw [if_pos rfl] at w7 ⊢;have hN:(i + 1) * N<=ds.length * N:=SA N hlt;refine Od (hA _ s7 σ6 H7 J7 e6 (ys++zs) _ I7 x7 sr7 no6 ac7 (by rw [NG];omega) (aL w7)) (λ_ s8 ⟨σ8,H8,J8,r,I8,x8,j8,sr8,no8,ac8,l8,w8⟩=>?_) λ_ _ f=>f.elim;obtain ⟨a1,a2,a3⟩:=again I8;refine ⟨ds.length - (i + 1),by omega,i + 1,σ8,H8,J8,r.2,zs++r.1,rfl,hlt,a1,a2,a3,x8,j7.trans j8,sr8,no8,by rw [<-NX];exact ac8,by rw [NG];omega,?_⟩;refine aC (aL w8) λz q=>?_;rw [NX];exact q
 ·have Mv:i=ds.length:=by omega
  subst Mv;rw [Ul (Nb _)] at w';refine Od (T.done X rfl rfl rfl hc _ MQ s' σ' H' (λ_ _=>False) I' (stat fr') st' (wk1 (Nb _))) (λr s4 ⟨hr,I9⟩=>?_) λ_ _ f=>f.elim;subst hr;have w9:Qf (zs++[],env'):=w';rw [O0] at w9;exact ⟨rfl,σ',H',J',(zs,env'),I9,e',sj,sr',no',ac',hz,w9⟩
end
section
variable {prog:Nt}{w:NS}{A:NK}{R:Wg->M5->Prop}{s:M5}{it acc:M4}{env:Env}{MP:Rl}{pos:Pos}{g0:T5}{MS MU:N9}{ifs:List N9}{MT:List T5}
theorem HN (h0:P7 (Nq prog w) A (.compLoop (.ListComp elt (g0::⟨MS,MU,ifs,0⟩::MT) MP pos) 1 it acc env) R s)
 (h:Nm (Nq prog w) A (Tr it) (λit' s'=>P7 (Nq prog w) A (.compLoop (.ListComp elt (g0::⟨MS,MU,ifs,0⟩::MT) MP pos) 1 it' acc env) R s') (λ_ _=>False) s):
  P7 (Nq prog w) A (.compStart (.ListComp elt (g0::⟨MS,MU,ifs,0⟩::MT) MP pos) 1 it acc env) R s:=by
 refine S3 ?_;show Nm _ _ ((WI (.ListComp elt (g0::⟨MS,MU,ifs,0⟩::MT) MP pos) 1 it acc env).onRaise (λx=>do WG x env;Ru WJ)) _ _ s;refine Xz ?_;unfold WI;show Nm _ _ (ask >>= _) _ _ s;refine M0 (Qt (wpAny_ite ?_));split
 ·first
   | exact M0 (M3 (M3 (UN rfl h0)))
   | exact M3 (UN rfl h0)
 ·refine M0 (Py ?_);show Nm _ _ (Ru MU.pos >>= _) _ _ s;exact M0 (Rg (M0 (Od h (λit' s' h'=>M3 (UN rfl h')) λ_ _ x=>x.elim)))
theorem HM (h0:P7 (Nq prog w) A (.compLoop (.DictComp kx vx (g0::⟨MS,MU,ifs,0⟩::MT) MP pos) 1 it acc env) R s)
 (h:Nm (Nq prog w) A (Tr it) (λit' s'=>P7 (Nq prog w) A (.compLoop (.DictComp kx vx (g0::⟨MS,MU,ifs,0⟩::MT) MP pos) 1 it' acc env) R s') (λ_ _=>False) s):
  P7 (Nq prog w) A (.compStart (.DictComp kx vx (g0::⟨MS,MU,ifs,0⟩::MT) MP pos) 1 it acc env) R s:=by
 refine S3 ?_;show Nm _ _ ((WI (.DictComp kx vx (g0::⟨MS,MU,ifs,0⟩::MT) MP pos) 1 it acc env).onRaise (λx=>do WG x env;Ru WJ)) _ _ s;refine Xz ?_;unfold WI;show Nm _ _ (ask >>= _) _ _ s;refine M0 (Qt (wpAny_ite ?_));split
 ·first
   | exact M0 (M3 (M3 (UN rfl h0)))
   | exact M3 (UN rfl h0)
 ·refine M0 (Py ?_);show Nm _ _ (Ru MU.pos >>= _) _ _ s;exact M0 (Rg (M0 (Od h (λit' s' h'=>M3 (UN rfl h')) λ_ _ x=>x.elim)))
end
noncomputable def gM (gi:G (List D)) (gt:GT) (gts:G Bool) (act:Ev->M (List D×Ev)):Ev->M (List D×Ev):=λenv=>gi env >>= λds=>if ds.length<=1000 then bI gt gts act ds env else .bad
noncomputable abbrev oG (e MU:N9) (acc:M4) (env:Env):Sem Unit:=do
 let x <-eval MU env
 Ru MU.pos
 let x <-OS MU env x
 let _ <-runOwn (.compStart e 1 (<-holding [x] (Tr x)) acc env) env
section
variable {X:Cx}{c:C}{p:Nu}{Acc:Hp->Hp->List D->Prop}{J2 H2:Hp}{N:Nat}{m:Sem Unit}{act:Ev->M (List D×Ev)}{MS MU:N9}{ifs:List N9}{gi:G (List D)}{gt:GT}{gts:G Bool}{e:N9}{acc:M4}
theorem wN (aR:tP Acc) (hc:X.calm=true) (hx:∀v s,X.xe v s->False) (hs:∀x,OS MU X.env x=pure x)
  (start:∀(it:Nu) (R:Wg->M5->Prop) (s:M5),P7 (Nq X.prog X.w) X.A (.compLoop e 1 (.ref it) acc X.env) R s->Nm (Nq X.prog X.w) X.A (Tr (.ref it)) (λit' s'=>P7 (Nq X.prog X.w) X.A (.compLoop e 1 it' acc X.env) R s') (λ_ _=>False) s->P7 (Nq X.prog X.w) X.A (.compStart e 1 (.ref it) acc X.env) R s)
  (LP:∀it:Nu,oY X.prog X.w X.A e 1 (.ref it) acc X.env MS ifs m) (hi:Jm X c MS MU gi) (hT:zC X c MS gt) (hIf:x6 X c ifs gts) (hA:qz X c p Acc J2 H2 N m act):
  qz X c p Acc J2 H2 (1000 * N) (oG e MU acc X.env) (gM gi gt gts act):=by
 intro MQ s σ H J env ys Qf I x2 sr no ac hl w;refine M0 (Od (hi MQ s σ H (λIt H1=>∃ds J1,Ext J H J1 H1/\Walk c It ds J1 (λJ' _=>aG J1 J')/\bR (if ds.length<=1000 then bI gt gts act ds env else .bad) Qf c.T) I ⟨J,env,sr,aC (aL w) λds wd It J1 H1 e1 wk=>⟨ds,J1,e1,wk,wd⟩⟩) (λxv s1 h1=>?_) λv s f=>(hx v s f).elim);refine M0 (Rg ?_);rw [hs xv];refine M0 (M3 (M0 (NU (Od h1 (λitv s2 h2=>?_) λv s f=>(hx v s f).elim))));obtain ⟨it,fp,tn,It,H1,rfl,I1,T,st1,f1,ds,J1,e1,wk,w1⟩:=h2;have hsz:ds.length<=1000:=by
  by_cases z:ds.length<=1000
  ·exact z
  ·rw [if_neg z] at w1;exact w1.elim
 rw [if_pos hsz] at w1;have hm:ds.length * N<=1000 * N:=SA N hsz;have hb:ys.length + ds.length * N<=sizeLine:=N8 (Nat.add_le_add_left hm _) hl;have run:=u7 aR hc hx (LP it) hT hIf hA T (λJ' _=>aG J1 J') wk (λ_ _ _ h=>h) I1 st1 f1 (x2.trans e1) (sr.ext e1) no (aR.ext ac e1) hb w1;have run':P7 (Nq X.prog X.w) X.A (.compLoop e 1 (.ref it) acc X.env) (λr s'=>match r with | .ok f=>Nm (Nq X.prog X.w) X.A (pure ()) (λ_ s'=>∃σ' H' J' r,Inv X MQ σ' H' s'/\Ext J2 H2 J' H'/\aG J J'/\SR c J' H' σ' r.2/\tX r.2 σ' p/\Acc J' H' (ys++r.1)/\r.1.length<=1000 * N/\Qf r) (λ_ _=>False) s' | .error e=>cameBackBy (Nq X.prog X.w) X.A X.env (λ_ _=>False) e s') s2:=QI run λr s' ⟨hr,σ',H',J',r',q1,q2,q3,q4,q5,q6,q7,q8⟩=>by subst hr;exact M3 ⟨σ',H',J',r',q1,q2,e1.j.trans q3,q4,q5,q6,N8 q7 hm,q8⟩
 exact M0 (wpAny_runOwn (h:=none) (start it _ _ run' (T.self _ 0 _ _ _ st1 run')))
end
noncomputable def fz (ge:G R):Ev->M (List D×Ev):=λe=>ge e >>= λr=>toD r >>= λy=>.ok ([y],e)
noncomputable def yb (c:C) (p:Nu):Hp->Hp->List D->Prop:=λJ H ys=>∃us,H p=some (.lst us)/\J p=none/\az c.K J ys us
theorem oq:tP (yb c p):=⟨fun {J H J' H' ys} ⟨us,h1,h2,h3⟩ e=>⟨us,e.h _ _ h1,e.frz _ (by rw [h1];intro z;cases z) h2,h3.mono e.j⟩⟩
section
variable {X:Cx}{c:C}{p:Nu}{J2 H2:Hp}{elt:N9}{ge:G R}
theorem wM (hx:∀v s,X.xe v s->False) (hp2:H2 p=none) (hp0:c.H0 p=none) (hE:PD X c elt ge):qz X c p (yb c p) J2 H2 1 (do let _ <-call (.builtin "list.append") [.ref p,<-eval elt X.env]) (fz ge):=by
 intro MQ s σ H J env ys Qf I x2 sr no ⟨us,h1,h2,h3⟩ hl w;have hlen:ys.length=us.length:=h3.length;refine M0 (Od (hE _ s σ H (λv H8=>∃J8 y,Ext J H J8 H8/\Rep c.K J8 y v/\Qf ([y],env)) I ⟨J,env,sr,aC (aL w) λr wr v J8 H8 e8 r8=>?_⟩) (λu8 s8 ⟨v8,H8,I8,r8,J8,y,e8,ry,w8⟩=>?_) λv s f=>(hx v s f).elim)
 ·obtain ⟨y,q,wr⟩:=i6 wr;obtain ⟨J9,e9,_,ry⟩:=freeze e8 r8 q;exact ⟨J9,y,e9,ry,wr⟩
 have p8:H8 p=some (.lst us):=e8.h _ _ h1;have J8p:J8 p=none:=e8.frz _ (by rw [h1];intro z;cases z) h2;refine M0 (Od (mF (X:=X) _ s8 σ H8 (.ref p) [v8] (.ref p) [u8] (λ_ H9=>H9=L2.upd H8 p (.lst (us++[v8]))) I8 rfl (.cons r8 .nil) ⟨_,us,v8,rfl,rfl,p8,by omega,rfl⟩) (λ_ s9 ⟨_,H9,I9,_,h9⟩=>?_) λv s f=>(hx v s f).elim);subst h9;exact M3 ⟨σ,_,J8,([y],env),I9,(x2.trans e8).other hp2 J8p,e8.j,(sr.ext e8).other J8p hp0 no,no,⟨us++[v8],bz,J8p,(h3.mono e8.j).append (.cons ry .nil)⟩,Nb _,w8⟩
end
noncomputable def jc (lim n:Nat) (cap:List Nat) (gi:G (List D)) (gt:GT) (gts:G Bool) (act:Ev->M (List D×Ev)) (fin:List D->M R):G R:=λenv=>gi env >>= λds=>if ds.length<=lim then bI gt gts act ds (cE n cap env) >>= λr=>fin r.1 else .bad
section
variable {X:Cx}{c:C}
structure zo (X:Cx) (MP:Rl) (cap:List Nat) (MU:N9):Prop where
 hk:MP.kind=.function
 hno:Dn X cap MP=true
 hnames:(MP.names.all λx=>!(x.2 == .local) || (MP.names.lookup x.1 == some .local))=true
 hcl:(cW X.env.cells MP.names []).isSome=true
 hcap:nh X cap=true
 hloc:zW X cap MP=true
 hnd:ve cap=true
 hcalm:X.calm=true
 hs:∀x,OS MU X.env x=pure x
theorem z_ {MP:Rl}{cap:List Nat}{MU:N9}(hcl:(cW X.env.cells MP.names []).isSome=true) (hk:autoParam (MP.kind=.function) zA._auto_1) (hno:autoParam (Dn X cap MP=true) zA._auto_1) (hnames:autoParam ((MP.names.all λx=>!(x.2 == .local) || (MP.names.lookup x.1 == some .local))=true) zA._auto_1)
  (hcap:autoParam (nh X cap=true) zA._auto_1) (hloc:autoParam (zW X cap MP=true) zA._auto_1) (hnd:autoParam (ve cap=true) zA._auto_1) (hcalm:autoParam (X.calm=true) zA._auto_1) (hs:∀x,OS MU X.env x=pure x:=by intro _;rfl):zo X MP cap MU:=⟨hk,hno,hnames,hcl,hcap,hloc,hnd,hcalm,hs⟩
noncomputable def zp (X:Cx) (c:C) (cm:Option (M4->Sem Unit)->Sem M4) (g:G R):Prop:=
 ∀{MQ:List (Nu×Obj)}{s:M5}{σ:L2.St}{H:Hp}{Q:VK}{use:Option (M4->Sem Unit)}{Q0:M4->M5->Prop},Inv X MQ σ H s->tD c g σ H Q->
  (∀(acc C:Nu) (m:Str->Option M4) (s':M5) (H':Hp) (fl:Flow),s'.heap.Ns C m->((C∈X.ex\/X.s₀.heap.objs.size<=C)/\C≠X.env.locals/\(∀x c,X.env.cells.lookup x=some c->c≠C)/\∀p∈X.pn++MQ,p.1≠C)->H' C=none->(∀h'',OM C s'.heap h''->Inv X MQ σ H' {s' with heap:=h''})->Q (.ref acc) H'->compPost (Nq X.prog X.w) X.A X.xe use Q0 (.ref acc) C (.ok fl) s')->
  Nm (Nq X.prog X.w) X.A (cm use) Q0 X.xe s
theorem oA (own:List Str) (cap:List Nat){e MS MU:N9}{ifs:List N9}{gs:List T5}{MP:Rl}{gi:G (List D)}{gt:GT}{gts:G Bool}{act:Ev->M (List D×Ev)}{fin:List D->M R}{newAcc:Sem M4}{ob:Obj}{o0:Nu->HO}{Acc:Nu->Hp->Hp->Hp->List D->Prop}{N lim:Nat}{m:Nu->Env->Sem Unit}
  (hcls:clausesOf e=⟨MS,MU,ifs,0⟩::gs) (hi:Jl X c MS MU gi)
  (hnew:∀(s:M5) (Q:M4->M5->Prop) (E:M4->M5->Prop),Q (.ref s.heap.objs.size) {s with heap:=s.heap.push ob}->Nm (Nq X.prog X.w) X.A newAcc Q E s)
  (hob:∀(h:OQ) (H:Hp),bU X.prog X.w H (h.push ob) h.objs.size (o0 h.objs.size))
  (aR:∀p H2,tP (Acc p H2)) (a0:∀(p:Nu) (H2 J H:Hp),R6 < p->H p=some (o0 p)->J p=none->Acc p H2 J H [])
  (hN:lim * N<=sizeLine) (LP:∀(it p:Nu) (env:Env),oY X.prog X.w X.A e 0 (.ref it) (.ref p) env MS ifs (m p env))
  (start:∀(it:Nu) (acc:M4) (env:Env) (R:Wg->M5->Prop) (s:M5),P7 (Nq X.prog X.w) X.A (.compLoop e 0 (.ref it) acc env) R s->Nm (Nq X.prog X.w) X.A (Tr (.ref it)) (λit' s'=>P7 (Nq X.prog X.w) X.A (.compLoop e 0 it' acc env) R s') (notedBy (Nq X.prog X.w) X.A env λx s'=>R (.error x) s') s->P7 (Nq X.prog X.w) X.A (.compStart e 0 (.ref it) acc env) R s)
  (nofin:∀ys z,fin ys≠.exc z) (hend:∀{p:Nu}{H2 J H J' H':Hp}{ys:List D}{r:R},H p=none->aG H H2->Ext J H J' H'->Acc p H2 J' H' ys->fin ys=.ok r->∃J'',Ext J H J'' H'/\RR c H J'' H' r (.ref p))
  (hbody:∀(cl:List (Str×Nu)) (C:Nu) (s:M5) (H:Hp) (fp:List Nu),cW X.env.cells MP.names []=some cl->zC (cR X own cap MP cl C s H fp) c MS gt/\x6 (cR X own cap MP cl C s H fp) c ifs gts/\∀(p:Nu) (J2 H2:Hp),H2 p=none->c.H0 p=none->qz (cR X own cap MP cl C s H fp) c p (Acc p H2) J2 H2 N (m p (cR X own cap MP cl C s H fp).env) act)
  (a:zo X MP cap MU){pos':Pos}:zp X c (λuse=>comprehension e MP X.env pos' newAcc false (eval MU X.env) use) (jc lim own.length cap gi gt gts act fin):=by
 obtain ⟨hk,hno,hnames,hcl,hcap,hloc,hnd,hcalm,hs⟩:=a;intro MQ s σ H Q use Q0 I h LY;obtain ⟨J,env,sr,w⟩:=h;obtain ⟨cl,hcl⟩:=OJ.mp hcl;have L6:∀j∈cap,∀x,X.N[j]?=some x->cJ MP.names x=false:=λj hj x hx=>by have:=NC.mp hno j hj;rw [hx] at this;simpa using this
 have Lp:∀x∈MP.names,x.2=.local->MP.names.lookup x.1=some .local:=λy hy z=>by have:=NC.mp hnames y hy;rw [z] at this;simpa using this
 have LM:∀j∈cap,∀x,X.N[j]?=some x->(relabel MP X.env).names.lookup x≠some .local:=λj hj x hx z=>by have:=NC.mp hloc j hj;rw [hx] at this;simp only at this;rw [z] at this;cases this
 refine wpAny_comprehension_free (use:=use) hcls hs (sS hcl) hk Lp ?_;refine bM (hi MQ s σ H (λIt H1=>∃ds J1,Ext J H J1 H1/\Walk c It ds J1 (λJ' H'=>aG J1 J'/\aG H1 H')/\
  bR (if ds.length<=lim then bI gt gts act ds (cE own.length cap env) >>= λr=>fin r.1 else .bad) (λr=>∀v J' H',Ext J H J' H'->RR c H J' H' r v->Q v H') c.T) I ⟨J,env,sr,aC (aL w) λds wd It J1 H1 e1 wk=>⟨ds,J1,e1,wk,wd⟩⟩) λxv s1 h1=>bM h1 λitv s2 h2=>?_
 obtain ⟨it,fp,tn,It,H2,rfl,I2,T,st2,f2,ds,J2,e2,wk,w2⟩:=h2;have hsz:ds.length<=lim:=by
  by_cases z:ds.length<=lim
  ·exact z
  ·rw [if_neg z] at w2;exact w2.elim
 rw [if_pos hsz] at w2;have w3:=aL w2;refine hnew s2 _ _ (yO ?_);dsimp only;generalize LS:s2.heap.push ob=Hs;have hC:Hs.objs.size=s2.heap.objs.size + 1:=by rw [<-LS,O1]
 have hp2:H2 s2.heap.objs.size=none:=I2.hok.fresh (Nb _);have kHs:∀b o,s2.heap.get? b=some o->Hs.get? b=some o:=λb o e=>by rw [<-LS];exact M6 _ e
 have I3:Inv X MQ σ (L2.upd H2 s2.heap.objs.size (o0 s2.heap.objs.size)) {s2 with heap:=Hs,toks:=s2.toks}:=I2.laid (t':=s2.toks) kHs (Nb _) (by rw [<-LS];exact hob _ _);have f3:∀b∈fp,gf X MQ (L2.upd H2 s2.heap.objs.size (o0 s2.heap.objs.size)) b:=λb hb=>by obtain ⟨o,ho,_⟩:=T.obj _ _ st2 b hb;exact ⟨by rw [aQ (NF (Nk ho))];exact (f2 b hb).1,(f2 b hb).2⟩
 have hin:∀b∈fp,b < Hs.objs.size:=λb hb=>by obtain ⟨o,ho,_⟩:=T.obj _ _ st2 b hb;exact Pb (Nk ho) (by rw [hC];exact P9 _)
 obtain ⟨h₁,eh₁⟩:∃h₁,h₁=Wt (Hs.push {cls:=.type "dict",data:=.dict #[]}) MP.names:=⟨_,rfl⟩;rw [<-eh₁];have hns₁:h₁.Ns Hs.objs.size (λ_=>none):=by rw [eh₁];exact GP Hs MP.names
 have ck:Yo h₁ (Hs.objs.size + 1) (Oi (Hs.objs.size + 1) MP.names []):=by rw [eh₁];exact zX Hs MP.names
 have okC:=Ej (own:=own) (cap:=cap) I3 hk hcl ck f3 hin;have old1:∀b o,Hs.get? b=some o->h₁.get? b=some o:=λb o e=>by rw [eh₁];exact Wu _ _ _ _ (M6 _ e)
 have I4:=BR (tk:=s2.toks) I3 okC hcl ck hcap LM L6 hns₁ old1;have sr2:=sr.ext e2;have srA:SR c J2 (L2.upd H2 s2.heap.objs.size (o0 s2.heap.objs.size)) σ env:=sr2.ext (Ext.new e2.sub hp2 _);have J2p:J2 s2.heap.objs.size=none:=e2.sub.free hp2;have H0p:c.H0 s2.heap.objs.size=none:=sr2.hp.ent.free hp2;have nown:∀(j:Nat) (xs:Mn),(cE own.length cap env)[j]?=some (some (mS xs))->(Ot own.length none++cap.map λ(j:Nat)=>(σ[j]?).getD none)[j]?≠some (some (.ref s2.heap.objs.size)):=λj xs q z=>by obtain ⟨a,h1,h2,h3⟩:=f_ q;obtain ⟨a',h4,h5,h6⟩:=f_ z;rw [h2] at h5;cases h5;obtain ⟨p,k1,k2,_⟩:=sr2.mine h3;rw [h6] at k1;cases k1;exact k2 hp2
 obtain ⟨hT,hIf,hE⟩:=hbody cl Hs.objs.size {s2 with heap:=Hs,toks:=s2.toks} (L2.upd H2 s2.heap.objs.size (o0 s2.heap.objs.size)) fp hcl;have fpC:∀{H':Hp},(∀b∈fp,H' b=none)->∀b∈fp,gf (cR X own cap MP cl Hs.objs.size {s2 with heap:=Hs,toks:=s2.toks} (L2.upd H2 s2.heap.objs.size (o0 s2.heap.objs.size)) fp) [] H' b:=fun {H'} hn b hb=>by
  obtain ⟨m1,_⟩:=fC MP.names [] cl hcl (λx c h=>by simp at h);refine ⟨hn b hb,NF (hin b hb),λz=>?_,.inl hb,λx d h=>(eK h).elim (λh=>Qx (Nv (hin b hb) (QH (ck.empty _ _ (RP h)).2))) (λh=>(f2 b hb).2.2.2.2.1 x d (m1 x d h.2)),λp hp=>absurd (show p∈([]:List (Nu×Obj)) from hp) (by simp)⟩;rcases Nj.mp (I2.stkSub b z) with e | e
  ·exact (f2 b hb).2.1 e
  ·exact (f2 b hb).2.2.1 e
 have back:∀{pi:List (Nu×Obj)}{σ':L2.St}{H':Hp}{s':M5}{h'':OQ},Inv (cR X own cap MP cl Hs.objs.size {s2 with heap:=Hs,toks:=s2.toks} (L2.upd H2 s2.heap.objs.size (o0 s2.heap.objs.size)) fp) pi σ' H' s'->OM Hs.objs.size s'.heap h''->Inv X MQ σ H' {s' with heap:=h''}:=fun {pi σ' H' s' h''} I' sb=>by
  have B:Un (frs X.stack) fp (L2.upd H2 s2.heap.objs.size (o0 s2.heap.objs.size)) H' Hs s'.heap:=I'.base;have ne2:∀{b:Nu}{o:Obj},s2.heap.get? b=some o->b≠s2.heap.objs.size/\b≠Hs.objs.size:=fun {b o} e=>
   ⟨NF (Nk e),NF (Pb (Nk e) (by rw [hC];exact P9 _))⟩
  have nH:∀{b:Nu}{o:HO},H2 b=some o->L2.upd H2 s2.heap.objs.size (o0 s2.heap.objs.size) b=some o:=fun {b o} e=>by rw [aQ (c8 e hp2)];exact e
  refine Inv.call' (ch:=fp) (s':={s' with heap:=h''}) I2 I'.os ⟨λb o e n hf hx=>?_,λb o e n hf hx=>?_,λb o e n hx=>?_,λb o e hx=>?_,λb xs e=>B.tups b xs (nH e),λb o u e=>B.frzs b o u (nH e),λb ps e=>B.tbls b ps (nH e)⟩ (wA I'.hok I'.free sb) I'.bare λb hb=>⟨(f2 b hb).2.2.2.1,(f2 b hb).2.1,(f2 b hb).2.2.2.2.1,(f2 b hb).2.2.2.2.2⟩
  ·exact (sb.2 b (ne2 e).2).trans (B.keep b o (kHs b o e) (by rw [aQ (ne2 e).1];exact n) hf hx)
  ·obtain ⟨sl,z⟩:=B.slot b o (kHs b o e) (by rw [aQ (ne2 e).1];exact n) hf hx;exact ⟨sl,(sb.2 b (ne2 e).2).trans z⟩
  ·exact B.free b o (kHs b o e) (by rw [aQ (ne2 e).1];exact n) hx
  ·obtain ⟨o',z⟩:=B.there b o (kHs b o e) hx;exact ⟨o',(sb.2 b (ne2 e).2).trans z⟩
 have run:=λ(s4:M5) (I4:Inv (cR X own cap MP cl Hs.objs.size {s2 with heap:=Hs,toks:=s2.toks} (L2.upd H2 s2.heap.objs.size (o0 s2.heap.objs.size)) fp) [] _ _ s4) (st4:tn 0 s4.heap)=>u7 (X:=cR X own cap MP cl Hs.objs.size {s2 with heap:=Hs,toks:=s2.toks} (L2.upd H2 s2.heap.objs.size (o0 s2.heap.objs.size)) fp) (e:=e) (depth:=0) (acc:=.ref s2.heap.objs.size) (aR _ _) hcalm (λ_ _ f=>f) (LP it _ _) hT hIf (hE s2.heap.objs.size J2 H2 hp2 H0p) T (λJ' H'=>aG J2 J'/\aG H2 H') wk (λJ' H' x _=>⟨x.j,x.h⟩) I4 st4 (fpC λb hb=>(f3 b hb).1) (Ext.new e2.sub hp2 _) (srA.cap own.length cap (xB hnd)) nown (a0 _ _ _ _ (F7 I2) bz J2p) (N8 (by rw [Wv,RA];exact SA N hsz) hN) w3;have st4:=T.keep _ _ _ st2 (λb hb o e=>old1 b o (kHs b o e));have go:=QI (run _ I4 st4) (R':=compPost (Nq X.prog X.w) X.A X.xe use Q0 (.ref s2.heap.objs.size) Hs.objs.size) λr s' ⟨hr,σ',H',J',r',I9,x9,j9,sr9,no9,ac9,l9,w9⟩=>by
  subst hr;obtain ⟨mm,hm,_⟩:=I9.loc;refine LY s2.heap.objs.size Hs.objs.size mm _ H' _ hm (F6 I2 (by rw [hC];exact QL _)) I9.free (λh'' sb=>back I9 sb) ?_;cases q:fin r'.1 with
  | bad=>rw [q] at w9;exact w9.elim
  | exc z=>rw [q] at w9;exact (nofin _ z q).elim
  | ok z=>
   rw [q] at w9;obtain ⟨J9,x10,rr⟩:=hend (e2.h.free hp2) e2.h (e2.trans x9) ac9 q;exact w9 _ J9 H' x10 rr
 exact start it _ _ _ _ go (T.self _ 0 _ _ _ st4 go)
noncomputable def oU (X:Cx) (c:C) (e:N9) (g:G R):Prop:=∃cm,zp X c cm g/\eval e X.env=cm none/\∀use,evalThenUse e X.env use=(do let _ <-cm (some use))
theorem eG {e:N9}{g:G R}(h:oU X c e g):QD X c e g:=by obtain ⟨cm,core,hev,_⟩:=h;refine ⟨λMQ s σ H Q I h=>?_⟩;rw [hev];exact core I h λacc C m s' H' fl hm hz hf hb q=>⟨m,hm,λh'' sb=>⟨.ref acc,H',hb h'' sb,rfl,q⟩⟩
theorem xG (i:Nat){e:N9}{g:G R}{x:Str}{pos' pos2:Pos}(hN:X.N.Nodup) (h:oU X c e g) (hx:autoParam (X.N[i]?=some x) zA._auto_1) (Mc:autoParam (X.env.scope.names.lookup x=some .local) zA._auto_1)
  (hsw:autoParam (Tq e (some (.Name x pos')) pos2.line X.env=pure true) zA._auto_1):ju X c (.Assign [.Name x pos'] e pos2) (aZ i g):=by
 obtain ⟨cm,core,_,LW⟩:=h;refine ⟨λMQ s σ H D I ⟨J,env,sr,w⟩=>?_⟩;rw [arm_exec_Assign];refine M0 (Rg ?_);rw [show Vc [.Name x pos'] e pos2.line X.env=pure true from hsw];refine M0 (M3 ?_);rw [if_pos rfl,LW];refine M0 (M0 (core (Q:=λv H1=>∃J1 r xx,Ext J H J1 H1/\RR c H J1 H1 r v/\toS r=.ok xx/\oP c J D (.nx (env.set i (some xx)))) I ⟨J,env,sr,aC (aL w) λr wr v J1 H1 e1 r1=>?_⟩ λacc C m s' H' fl hm ap hf hb ⟨J1,r,xx,e1,r1,q1,w1⟩=>?_))
 ·obtain ⟨xx,q,wr⟩:=xV wr;exact ⟨J1,r,xx,e1,r1,q,wr⟩
 ·have I1:L2.Inv X MQ σ H' s':=hb s'.heap (YH ..);show Nm _ _ (do Ru pos';bindName X.env x (.ref acc)) _ _ _;refine M0 (Rg (wpAny_bindName ?_));refine sD I1 hN hx (.inl Mc) (v:=.ref acc) (u:=.ref acc) rfl (λs2 I2 ⟨a,sb,ha⟩=>?_) (.inr Mc);have hac:C≠a:=λz=>by
   rcases ha with e | e
   ·exact ap.2.1 (z.trans e)
   ·exact ap.2.2.1 _ _ e z.symm
  refine ⟨m,hm.sameBut sb hac,λh2 sb2=>?_⟩;refine M3 (M3 ⟨σ.set i (some (.ref acc)),H',AO I2 ap hf sb2 (o0:=default),?_⟩);exact w1 _ J1 H' e1.j (sr.set e1 r1 q1)
end
noncomputable def Aj (n:Nat) (cap:List Nat) (gi0:G (List D)) (gt0:GT) (gts0:G Bool) (gi1:G (List D)) (gt1:GT) (gts1:G Bool) (ge:G R):G R:=jc 10000 n cap gi0 gt0 gts0 (gM gi1 gt1 gts1 (fz ge)) (λys=>.ok (.l .fresh ys))
theorem FG (elt t0 i0 t1 i1:N9) (f0 f1:List N9) (MP:Rl) (pos:Pos) (it acc:M4) (env:Env):
  SG (.ListComp elt [⟨t0,i0,f0,0⟩,⟨t1,i1,f1,0⟩] MP pos) 0 it acc env=(do
   Ru i0.pos
   match <-RY it with
   | none=>pure (.done .next)
   | some v=>
    Qk t0 it v
    assign t0 env v
    let mut ok:=true
    for c in f0 do
     if ok then ok <-UT c env (eval c env)
    if ok then
     let x <-eval i1 env
     Ru i1.pos
     let x <-OS i1 env x
     let _ <-runOwn (.compStart (.ListComp elt [⟨t0,i0,f0,0⟩,⟨t1,i1,f1,0⟩] MP pos) 1 (<-holding [x] (Tr x)) acc env) env
    again (.compLoop (.ListComp elt [⟨t0,i0,f0,0⟩,⟨t1,i1,f1,0⟩] MP pos) 0 it acc env)):=by rfl
theorem HU (elt t0 i0 t1 i1:N9) (f0 f1:List N9) (MP:Rl) (pos:Pos) (it acc:M4) (env:Env):
  SG (.ListComp elt [⟨t0,i0,f0,0⟩,⟨t1,i1,f1,0⟩] MP pos) 0 it acc env=lq t0 i0 f0 it env (oG (.ListComp elt [⟨t0,i0,f0,0⟩,⟨t1,i1,f1,0⟩] MP pos) i1 acc env) (again (.compLoop (.ListComp elt [⟨t0,i0,f0,0⟩,⟨t1,i1,f1,0⟩] MP pos) 0 it acc env)):=by
 rw [FG];refine bind_congr λ_=>bind_congr λr=>?_;cases r with
 | none=>rfl
 | some v=>
  refine bind_congr λ_=>bind_congr λ_=>bind_congr λok=>?_;cases ok with
  | false=>rfl
  | true=>simp only [oG,bind_assoc,pure_bind,if_true]
theorem HV (elt t0 i0 t1 i1:N9) (f0 f1:List N9) (MP:Rl) (pos:Pos) (it acc:M4) (env:Env):
  SG (.ListComp elt [⟨t0,i0,f0,0⟩,⟨t1,i1,f1,0⟩] MP pos) 1 it acc env=lq t1 i1 f1 it env (do let _ <-call (.builtin "list.append") [acc,<-eval elt env]) (again (.compLoop (.ListComp elt [⟨t0,i0,f0,0⟩,⟨t1,i1,f1,0⟩] MP pos) 1 it acc env)):=by rfl
section
variable {X:Cx}{c:C}
theorem JD (own:List Str) (cap:List Nat){elt t0 i0 t1 i1:N9}{f0 f1:List N9}{MP:Rl}{pos:Pos}{gi0 gi1:G (List D)}{gt0 gt1:GT}{gts0 gts1:G Bool}{ge:G R}(hi:zE X c t0 i0 gi0)
  (hbody:∀(cl:List (Str×Nu)) (C:Nu) (s:M5) (H:Hp) (fp:List Nu),cW X.env.cells MP.names []=some cl->nI (cR X own cap MP cl C s H fp) c t0 gt0/\oj (cR X own cap MP cl C s H fp) c f0 gts0/\tZ (cR X own cap MP cl C s H fp) c t1 i1 gi1/\nI (cR X own cap MP cl C s H fp) c t1 gt1/\oj (cR X own cap MP cl C s H fp) c f1 gts1/\QD (cR X own cap MP cl C s H fp) c elt ge)
  (a:zo X MP cap i0:=by exact z_ rfl) (hs1:∀(en:Env) x,OS i1 en x=pure x:=by intro _ _;rfl):oU X c (.ListComp elt [⟨t0,i0,f0,0⟩,⟨t1,i1,f1,0⟩] MP pos) (Aj own.length cap gi0 gt0 gts0 gi1 gt1 gts1 ge):=by
 refine ⟨_,?_,rfl,λ_=>rfl⟩;refine oA (e:=.ListComp elt [⟨t0,i0,f0,0⟩,⟨t1,i1,f1,0⟩] MP pos) (ob:={cls:=.type "list",dict:=none,data:=.seq ([]:List M4).toArray}) (o0:=λ_=>.lst []) (Acc:=λp _=>yb c p) (N:=1000 * 1) (lim:=10000) (m:=λp env=>oG (.ListComp elt [⟨t0,i0,f0,0⟩,⟨t1,i1,f1,0⟩] MP pos) i1 (.ref p) env) own cap rfl hi.h
  (λs Q E q=>NP q) (λh H=>⟨Ny _,[],0,.nil,Nf _ rfl⟩) (λp _=>oq) (λp _ J H _ h1 h2=>⟨[],h1,h2,.nil⟩) (by decide) (λit p env=>yM (HU ..)) (λit acc env R s h0 h=>Uo h0 h) (λys z q=>by cases q)
  (fun {p H2 J H J' H' ys r} hp _ e ⟨us,h1,h2,h3⟩ q=>by cases q;exact ⟨J',e,⟨p,us,rfl,h1,h2,hp,h3⟩⟩) (λcl C s H fp hcc=>?_) a
 obtain ⟨b1,b2,b3,b4,b5,b6⟩:=hbody cl C s H fp hcc;exact ⟨b1.h,b2.h,λp J2 H2 hp2 hp0=>wN oq a.hcalm (λ_ _ f=>f) (λx=>hs1 _ x) (λit R s h0 h=>HN h0 h) (λit=>yM (HV ..)) b3.h b4.h b5.h (wM (λ_ _ f=>f) hp2 hp0 b6.h)⟩
end
noncomputable def y9:M4->Option V
 | .int i _=>some (.int i)
 | .ref a=>some (.ref a)
 | _=>none
noncomputable def iR:List M4->Option (List V)
 | []=>some []
 | u::us=>match y9 u,iR us with
  | some v,some vs=>some (v::vs)
  | _,_=>none
open Classical in
noncomputable def jm (h:OQ):Hp:=λa=>match h.get? a with
 | some o=>if o.cls=.type "tuple" then (match o.data with
  | .seq its _=>(iR its.toList).map .tup
  | _=>none) else none
 | none=>none
theorem CL (h:y9 u=some v):RelV v u:=by
 cases u with
 | int i t=>cases h;exact ⟨t,rfl⟩
 | ref a=>cases h;exact rfl
 | _=>cases h
theorem rZ:∀{us:List M4}{vs:List V},iR us=some vs->Vals vs us
 | [],vs,h=>by cases h;exact .nil
 | u::us,vs,h=>by
  unfold iR at h;cases q:y9 u with
  | none=>rw [q] at h;cases h
  | some v=>
   cases q2:iR us with
   | none=>rw [q,q2] at h;cases h
   | some ws=>rw [q,q2] at h;cases h;exact .cons (CL q) (rZ q2)
theorem gr {h:OQ}(q:jm h a=some o):∃vs ob its n,o=.tup vs/\h.get? a=some ob/\ob.cls=.type "tuple"/\ob.data=.seq its n/\Vals vs its.toList:=by
 unfold jm at q;split at q
 ·rename_i ob hob;split at q
  ·rename_i hc;split at q
   ·rename_i its n hd;cases z:iR its.toList with
    | none=>rw [z] at q;cases q
    | some vs=>rw [z] at q;cases q;exact ⟨vs,ob,its,n,rfl,hob,hc,hd,rZ z⟩
   ·cases q
  ·cases q
 ·cases q
theorem Fl {h:OQ}{its:List M4}(p:h.IsTuple a its.toArray) (q:iR its=some vs):jm h a=some (.tup vs):=by obtain ⟨o,ho,hc,n,hd⟩:=p;unfold jm;rw [ho];simp only [hc,if_true,hd];rw [q];rfl
theorem mj {s:M5}:HF [] (jm s.heap) s:=by
 refine ⟨λa xs h=>?_,λa xs h=>?_,λa h=>?_,λa ep MY h=>?_⟩
 ·rcases h with (h | ⟨o,h⟩) | ⟨o,its,n,h,_⟩
  ·obtain ⟨vs,ob,its,n,e,h1,h2,h3,h4⟩:=gr h;cases e;exact ⟨its.toList,h4,ob,h1,h2,n,by rw [h3]⟩
  ·obtain ⟨vs,ob,its,n,e,_⟩:=gr h;cases e
  ·cases h
 ·rcases h with (h | ⟨o,h⟩) | ⟨o,its,n,h,_⟩
  ·obtain ⟨vs,ob,its,n,e,_⟩:=gr h;cases e
  ·obtain ⟨vs,ob,its,n,e,_⟩:=gr h;cases e
  ·cases h
 ·obtain ⟨vs,ob,its,n,e,_⟩:=gr h;cases e
 ·obtain ⟨vs,ob,its,n,e,_⟩:=gr h;cases e
theorem vD {K:M1}{J:Hp}:∀{ds:List D}{vs:List V}{us:List M4},areKeys ds=true->az K J ds vs->Vals vs us->iR us=some vs
 | _,_,_,_,.nil,.nil=>rfl
 | d::ds,v::vs,u::us,h,.cons r rs,.cons q qs=>by
  unfold areKeys at h;rw [M8] at h;have ih:=vD h.2 rs qs;have e:y9 u=some v:=by
   cases d with
   | int i=>cases r;obtain ⟨t,rfl⟩:=q;rfl
   | tup xs=>cases r;cases q;rfl
   | _=>cases h.1
  unfold iR;rw [e,ih]
mutual
theorem ny {K:M1}{J:Hp}{s:M5}(F:HF K J s):∀{d:D}{v:V},isKey d=true->Rep K J d v->Rep [] (jm s.heap) d v
 | .int i,_,_,.int _=>.int i
 | .tup ds,_,hk,.tup (a:=a) (vs:=vs) h hs=>by obtain ⟨its,r,p⟩:=F.t _ _ h;exact .tup (.inl (.inl (Fl p (vD hk hs r)))) (vE F hk hs)
 | .non,_,hk,_=>nomatch hk
 | .bl _,_,hk,_=>nomatch hk
 | .str _,_,hk,_=>nomatch hk
 | .lst _,_,hk,_=>nomatch hk
 | .emp,_,hk,_=>nomatch hk
 | .exn _ _ _,_,hk,_=>nomatch hk
 | .dct _ _,_,hk,_=>nomatch hk
theorem vE {K:M1}{J:Hp}{s:M5}(F:HF K J s):∀{ds:List D}{vs:List V},areKeys ds=true->az K J ds vs->az [] (jm s.heap) ds vs
 | [],_,_,.nil=>.nil
 | d::ds,_,h,.cons r rs=>by unfold areKeys at h;rw [M8] at h;exact .cons (ny F h.1 r) (vE F h.2 rs)
end
theorem A7 {h h':OQ}{o:Obj} {es ep}(ho:h.get? d=some o) (hd:o.data=.dict es ep) (sb:OM d h h'):aG (jm h) (jm h'):=λa x q=>by
 obtain ⟨vs,ob,its,n,rfl,h1,h2,h3,h4⟩:=gr q;have hne:a≠d:=by rintro rfl;rw [ho] at h1;cases h1;rw [hd] at h3;cases h3
 unfold jm at q ⊢;rw [sb.2 a hne];exact q
noncomputable def KD:Type:={d:D // isKey d=true/\dep d<=8}
noncomputable instance:DecidableEq KD:=λa b=>XA (a=b)
noncomputable def y_ (A:NK):Prop:=A.units + 16 < PN
noncomputable def mC (prog:Nt) (w:NS):HeapKind prog w KD where
 is:=λh k a=>Rep [] (jm h) k.1 (.ref a)
 hash:=λk=>bB k.1
 draws:=λk=>iN k.1
 room:=y_
 inj:=fun {h a x y} hx hy=>T6 (Rep.inj (s:=({heap:=h}:M5)) mj hx hy (by have:=x.2.2;omega) (by have:=y.2.2;omega))
 keeps:=λhx ho hd sb=>Rep.mono (A7 ho hd sb) hx
 pyHash:=fun {A E s k a Q} hu hx q=>qX k.1 (.ref a) (.ref a) A s mj k.2.1 hx rfl (by have:=k.2.2;unfold y_ at hu;omega) E s Q mj q
 eqBool:=fun {A E s x y a b Q} hu hx hy q=>by
  have h:=jV (s:=s) mj A hx hy rfl rfl (u:=.ref a) (u':=.ref b) (by have:=x.2.2;unfold y_ at hu;omega) (by have:=x.2.2;omega) (by have:=y.2.2;omega);refine h _ _ _ _ ?_;have e:aV x.1 y.1=decide (x=y):=by rw [O4,qK x.2.1 y.2.1,decide_eq_true_eq];exact ⟨λz=>T6 z,λz=>congrArg Subtype.val z⟩
  rw [e];exact q
 quiet:=fun {A E s k a Q} hx q=>ku 8 mj ⟨k.1,.ref a,k.2.1,k.2.2,hx,rfl⟩ q
noncomputable def jD:List D->List D->D->Option D
 | k::ks,v::vs,x=>if aV k x=true then some v else jD ks vs x
 | _,_,_=>none
section
variable {K:M1}{J:Hp}{s:M5}{P:Nt}{w:NS}
theorem w5 (F:HF K J s):∀{ks:List D}{us ws:List V}{es:List Vk},areKeys ks=true->(∀k∈ks,∃xs,k=.tup xs)->deps ks<=8->az K J ks us->ws.length=us.length->T9 tU ((cF ks).zip (us.zip ws)) es->
  ∃xs:List (KD×Nu×M4),es=xs.map (WZ (mC P w))/\xs.map (λx=>x.1.1)=ks/\(∀x∈xs,(mC P w).is s.heap x.1 x.2.1)/\Vals ws (xs.map λx=>x.2.2)/\Vals us (xs.map λx=>RC x.2.1)
 | _,_,[],_,_,_,_,.nil,_,h=>by cases h;exact ⟨[],rfl,rfl,λ_ h=>(nomatch h),.nil,.nil⟩
 | k::ks,u::us,v::ws,es,hk,ht,hd,.cons r rs,hl,h=>by
  unfold areKeys at hk;rw [M8] at hk;unfold deps at hd;have h:T9 tU ((bB k,u,v)::(cF ks).zip (us.zip ws)) es:=h;cases h with
  | @cons _ e _ es' h1 h2=>
   obtain ⟨xs,e1,e2,e3,e4,e5⟩:=w5 F hk.2 (λk hk=>ht k (Na _ hk)) (by omega) rs (by simpa using hl) h2;obtain ⟨xs',rfl⟩:=ht k Nd;obtain ⟨q1,q2,q3⟩:=h1;obtain ⟨eh,ek,ev⟩:=e;cases r with
   | tup t1 t2=>
    rename_i a vs;have q2:ek=.ref a:=q2;have q1:eh=bB (.tup xs'):=q1;subst q2;subst q1;refine ⟨(⟨.tup xs',hk.1,by omega⟩,a,ev)::xs,by rw [e1];rfl,by rw [Nz,e2],λx hx=>?_,.cons q3 e4,.cons rfl e5⟩
    (rcases Nj.mp hx with rfl | hx)
    ·exact ny F hk.1 (.tup t1 t2)
    ·exact e3 x hx
 | [],us,v::ws,_,_,_,_,rs,hl,_=>by cases rs;cases hl
 | k::ks,us,[],_,_,_,_,rs,hl,_=>by cases rs;cases hl
theorem Ck {xs:List (KD×Nu×M4)}{ks:List D}(e:xs.map (λx=>x.1.1)=ks) (nd:ks.Nodup):(xs.map (·.1)).Nodup:=by
 rw [<-e] at nd;have this:((xs.map (·.1)).map (λk:KD=>k.1)).Nodup:=by rw [N4];exact nd
 exact X3 (λk:KD=>k.1) (λa b h e=>h (congrArg (λk:KD=>k.1) e)) this
theorem yh:∀{xs:List (KD×Nu×M4)}{ks vs:List D}{ws:List V}(k:KD),xs.map (λx=>x.1.1)=ks->az K J vs ws->Vals ws (xs.map λx=>x.2.2)->
  (∀d,jD ks vs k.1=some d->∃p v,YI xs k=some p/\RelV v p.2/\Rep K J d v)/\(jD ks vs k.1=none->YI xs k=none)
 | [],_,vs,ws,k,e,rs,rv=>by subst e;exact ⟨λd h=>(nomatch h),λ_=>rfl⟩
 | x::xs,_,_,_,k,e,.cons r rs,.cons q rv=>by
  subst e;obtain ⟨i1,i2⟩:=yh (xs:=xs) k rfl rs rv;rw [Nz];unfold jD;by_cases c:x.1=k
  ·have:aV x.1.1 k.1=true:=by rw [c];exact fD _
   rw [if_pos this];have ek:YI (x::xs) k=some x.2:=by unfold YI;rw [List.find?_cons_of_pos (by simpa using c)];rfl
   exact ⟨λd h=>by cases h;exact ⟨x.2,_,ek,q,r⟩,λh=>nomatch h⟩
  ·have:¬aV x.1.1 k.1=true:=λh=>c (T6 ((qK x.1.2.1 k.2.1).mp h));rw [if_neg this];have ek:YI (x::xs) k=YI xs k:=by unfold YI;rw [List.find?_cons_of_neg (by simpa using c)]
   rw [ek];exact ⟨i1,i2⟩
theorem uC {H:Hp}(F:HF K J s) (F':HF K H s) (h:dD K J H a ks vs):∃(xs:List (KD×Nu×M4)) (us ws:List V),s.heap.DictOfH (mC P w) a xs/\xs.map (λx=>x.1.1)=ks/\az K J ks us/\az K J vs ws/\Vals ws (xs.map λx=>x.2.2)/\Vals us (xs.map λx=>RC x.2.1)/\(a == R6)=false:=by obtain ⟨us,ws,ep,h,hk,hv,ok,hs⟩:=h;obtain ⟨o,es,h1,h2,h3,h4⟩:=F'.d _ _ _ h;obtain ⟨xs,e1,e2,e3,e4,e5⟩:=w5 (P:=P) (w:=w) F ok.key ok.tp ok.dp hk (by rw [<-hv.length,<-hk.length,hs.2]) h4;exact ⟨xs,us,ws,⟨o,es,ep,h1,h2,h3,e1,e3,Ck e2 ok.nd⟩,e2,hk,hv,e4,e5,hs.1⟩
end
noncomputable def gR:D->Bool
 | .tup xs=>areKeys xs && decide (deps xs + 1<=8)
 | _=>false
theorem pX (h:gR k=true):∃xs,k=.tup xs/\isKey k=true/\dep k<=8:=by
 cases k with
 | tup xs=>
  unfold gR at h;rw [M8] at h;exact ⟨xs,rfl,h.1,of_decide_eq_true h.2⟩
 | _=>cases h
noncomputable def Jo:R->Option (List D×List D)
 | .d (.dct ks vs)=>some (ks,vs)
 | .mo ks vs=>some (ks,vs)
 | .mb ks vs=>some (ks,vs)
 | .mf ks vs=>some (ks,vs)
 | _=>none
noncomputable def uI (x y:R):M R:=match Jo x,y with
 | some z,.d k=>if gR k=true then (match jD z.1 z.2 k with
  | some d=>.ok (.d d)
  | none=>.bad) else .bad
 | _,_=>.bad
section
variable {X:Cx}{c:C}{a b:N9}{ga gb:G R}{pos:Pos}
theorem RR.dk {He J H:Hp}(hp:HI c J H):∀{r:R}{v:V}{z:List D×List D},RR c He J H r v->Jo r=some z->∃a,v=.ref a/\dD c.K J H a z.1 z.2
 | .d (.dct ks vs),v,z,h,e=>by
  cases e;cases h with
  | dct h1 h2 h3 h4 h5=>exact ⟨_,rfl,_,_,_,hp.sub _ _ h1,h2,h3,h4,h5⟩
 | .mo ks vs,v,z,⟨a,h1,h2,_⟩,e=>by cases e;exact ⟨a,h1,h2⟩
 | .mf ks vs,v,z,⟨a,h1,h2,_⟩,e=>by cases e;exact ⟨a,h1,h2⟩
 | .mb ks vs,v,z,⟨a,h1,h2⟩,e=>by cases e;exact ⟨a,h1,h2.mono (aG.refl _) hp.ent⟩
 | .ln _,_,_,_,e=>nomatch e
 | .d .non,_,_,_,e=>nomatch e
 | .d (.bl _),_,_,_,e=>nomatch e
 | .d (.int _),_,_,_,e=>nomatch e
 | .d (.str _),_,_,_,e=>nomatch e
 | .d (.tup _),_,_,_,e=>nomatch e
 | .d (.lst _),_,_,_,e=>nomatch e
 | .d .emp,_,_,_,e=>nomatch e
 | .d (.exn _ _ _),_,_,_,e=>nomatch e
 | .l _ _,_,_,_,e=>nomatch e
theorem Gx (hu:X.A.units + 64 < PN):lQ X (λx y H Q=>∃J p ks vs k d,aG J H/\x=.ref p/\dD X.K J H p ks vs/\Rep X.K J k y/\gR k=true/\jD ks vs k=some d/\∀v,Rep X.K J d v->Q v H):=by
 intro value slice MQ s σ H x y v u Q I rx ry h hs;obtain ⟨J,p,ks,vs,k,d,sm,rfl,hd,hk,ok,lk,q⟩:=h;have F:HF X.K J s:=HF.of (c:=⟨X.K,H,H,λ_=>True⟩) I sm;obtain ⟨kx,rfl,k1,k2⟩:=pX ok;obtain ⟨r,rfl⟩:∃r,y=.ref r:=by cases hk;exact ⟨_,rfl⟩
 cases rx;cases ry;obtain ⟨xs,us,ws,hm,e2,_,hv,e4,_,hsm⟩:=uC (P:=X.prog) (w:=X.w) F (gz I) hd;obtain ⟨pp,v,ea,rv,rd⟩:=(yh ⟨.tup kx,k1,k2⟩ e2 hv e4).1 d lk;have room:(mC X.prog X.w).room X.A.in1:=by show X.A.units + 1 + 16 < PN;omega
 exact R0 (x:=pp.2) hm.typeIs slot_dict_getitem.lookup (wpAny_getItem_heap (Q:=λr s'=>r=pp.2/\EP X MQ σ Q r s') room (ny F k1 hk) hm ea ⟨rfl,v,H,I.tok _,rv,q v rd⟩) hs
theorem xH (hu:X.A.units + 64 < PN) (ha:QD X c a ga) (hb:QD X c b gb) (hK:autoParam (X.K=c.K) zA._auto_1) (hs:nc b:=by exact λ_ _=>rfl):QD X c (.Subscript a b pos) (g2 uI ga gb):=have ha:=ha.h;have hb:=hb.h;⟨DK (Gx hu) (by
 intro He He' J H x y u v Q hp rx ry w;unfold uI at w;split at w
 ·rename_i hz;obtain ⟨p,rfl,hd⟩:=rx.dk hp hz;split at w
  ·rename_i ok;split at w
   ·rename_i d hl;exact ⟨J,p,_,_,_,d,hp.sub,rfl,by rw [hK];exact hd,by rw [hK];exact ry,ok,hl,λv rd=>w v J H (Ext.refl hp.sub) (by rw [hK] at rd;exact rd)⟩
   ·exact w.elim
  ·exact w.elim
 ·exact w.elim) ha hb hs⟩
end
noncomputable def yW:List D->List D->D->D->List D
 | k::ks,v::vs,x,d=>(if aV k x=true then d else v)::yW ks vs x d
 | _,vs,_,_=>vs
noncomputable def dput (z:List D×List D) (k d:D):List D×List D:=if (jD z.1 z.2 k).isSome=true then (z.1,yW z.1 z.2 k d) else (z.1++[k],z.2++[d])
noncomputable def jU (ys:List D):List D×List D:=ys.foldl (λz y=>match y with
 | .tup [k,d]=>dput z k d
 | _=>z) ([],[])
theorem oE (ys:List D) (k d:D):jU (ys++[.tup [k,d]])=dput (jU ys) k d:=by unfold jU;rw [List.foldl_append];rfl
inductive bV (K:M1) (J:Hp):List (KD×Nu×M4)->List D->List V->List D->List V->Prop
 | nil:bV K J [] [] [] [] []
 | cons {x:KD×Nu×M4}{xs:List (KD×Nu×M4)}{ks vs:List D}{us ws:List V}{d:D}{v:V}:RelV v x.2.2->Rep K J d v->bV K J xs ks us vs ws->bV K J (x::xs) (x.1.1::ks) (.ref x.2.1::us) (d::vs) (v::ws)
section
variable {K:M1}{J:Hp}{P:Nt}{w:NS}
theorem bV.of:∀{xs:List (KD×Nu×M4)}{us:List V}{vs:List D}{ws:List V},az K J vs ws->Vals ws (xs.map λx=>x.2.2)->Vals us (xs.map λx=>RC x.2.1)->bV K J xs (xs.map λx=>x.1.1) us vs ws
 | [],_,_,_,.nil,.nil,.nil=>.nil
 | x::xs,u::us,_,_,.cons r rs,.cons q qs,.cons p ps=>by
  have:u=.ref x.2.1:=by
   cases u with
   | ref a=>cases p;rfl
   | int i=>obtain ⟨t,h⟩:=p;cases h
   | str i=>obtain ⟨t,h⟩:=p;cases h
   | byt i=>obtain ⟨t,h⟩:=p;cases h
   | flt i=>obtain ⟨t,h⟩:=p;cases h
   | non=>cases p
   | bl b=>cases p
   | ty n=>cases p
  subst this;exact .cons q r (bV.of rs qs ps)
theorem bV.put {k:KD}(rv:RelV v u) (rd:Rep K J d v):∀{xs:List (KD×Nu×M4)}{ks vs:List D}{us ws:List V},bV K J xs ks us vs ws->∃ws',bV K J (xs.map (putAt k u)) ks us (yW ks vs k.1 d) ws'
 | _,_,_,_,_,.nil=>⟨[],.nil⟩
 | x::xs,_,_,_,_,.cons q r t=>by
  obtain ⟨ws',ih⟩:=bV.put rv rd t;rw [Nz];unfold yW;by_cases c:x.1=k
  ·have:aV x.1.1 k.1=true:=by rw [c];exact fD _
   rw [if_pos this];have e:putAt k u x=(x.1,x.2.1,u):=by unfold putAt;rw [if_pos c]
   rw [e];exact ⟨v::ws',.cons (x:=(x.1,x.2.1,u)) rv rd ih⟩
  ·have:¬aV x.1.1 k.1=true:=λh=>c (T6 ((qK x.1.2.1 k.2.1).mp h));rw [if_neg this];have e:putAt k u x=x:=by unfold putAt;rw [if_neg c]
   rw [e];exact ⟨_,.cons q r ih⟩
theorem bV.snoc {k:KD}{a:Nu}{u:M4}{d:D}{v:V}(rv:RelV v u) (rd:Rep K J d v):∀{xs:List (KD×Nu×M4)}{ks vs:List D}{us ws:List V},bV K J xs ks us vs ws->bV K J (xs++[(k,a,u)]) (ks++[k.1]) (us++[.ref a]) (vs++[d]) (ws++[v])
 | _,_,_,_,_,.nil=>.cons (x:=(k,a,u)) rv rd .nil
 | _,_,_,_,_,.cons q r t=>.cons q r (bV.snoc rv rd t)
theorem bV.ents:∀{xs:List (KD×Nu×M4)}{ks vs:List D}{us ws:List V},bV K J xs ks us vs ws->T9 tU ((cF ks).zip (us.zip ws)) (xs.map (WZ (mC P w)))
 | _,_,_,_,_,.nil=>.nil
 | _,_,_,_,_,.cons q r t=>.cons ⟨rfl,rfl,q⟩ t.ents
theorem bV.reps:∀{xs:List (KD×Nu×M4)}{ks vs:List D}{us ws:List V},bV K J xs ks us vs ws->az K J vs ws
 | _,_,_,_,_,.nil=>.nil
 | _,_,_,_,_,.cons q r t=>.cons r t.reps
theorem bV.keys:∀{xs:List (KD×Nu×M4)}{ks vs:List D}{us ws:List V},bV K J xs ks us vs ws->xs.map (λx=>x.1.1)=ks
 | _,_,_,_,_,.nil=>rfl
 | _,_,_,_,_,.cons q r t=>by rw [Nz,t.keys]
theorem bV.len:∀{xs:List (KD×Nu×M4)}{ks vs:List D}{us ws:List V},bV K J xs ks us vs ws->ks.length=vs.length
 | _,_,_,_,_,.nil=>rfl
 | _,_,_,_,_,.cons q r t=>by rw [OP,OP,t.len]
theorem nJ:∀{xs ys:List D},areKeys (xs++ys)=(areKeys xs && areKeys ys)
 | [],_=>rfl
 | x::xs,ys=>by show (isKey x && areKeys (xs++ys))=((isKey x && areKeys xs) && areKeys ys);rw [nJ,Bool.and_assoc]
theorem uE:∀{xs ys:List D}{n:Nat},deps xs<=n->deps ys<=n->deps (xs++ys)<=n
 | [],_,_,_,h=>h
 | x::xs,ys,n,h1,h2=>by unfold deps at h1;have:=uE (xs:=xs) (ys:=ys) (n:=n) (by omega) h2;show max (dep x) (deps (xs++ys))<=n;omega
theorem az.snoc (h:az K J ds vs) (r:Rep K J d v):az K J (ds++[d]) (vs++[v]):=h.append (.cons r .nil)
end
section
variable {X:Cx}
theorem E8 {s:M5}{H J:Hp}(I:Inv X MQ σ H s) (sub:aG J H){ks vs:List D}(h:dD X.K J H p ks vs):
  ∃xs:List (KD×Nu×M4),s.heap.DictOfH (mC X.prog X.w) p xs/\xs.length=ks.length/\∀{kxs:List D}{a:Nu}{d:D}{v:V}{u:M4}(k1:isKey (.tup kxs)=true) (k2:dep (.tup kxs)<=8),Rep X.K J (.tup kxs) (.ref a)->Rep X.K J d v->RelV v u->
   ∀(h':OQ) (tk:Nat),h'.DictOfH (mC X.prog X.w) p (storedH xs ⟨.tup kxs,k1,k2⟩ a u)->OM p s.heap h'->
    ∃o,Inv X MQ σ (upd H p o) {s with heap:=h',toks:=tk}/\dD X.K J (upd H p o) p (dput (ks,vs) (.tup kxs) d).1 (dput (ks,vs) (.tup kxs) d).2/\(dput (ks,vs) (.tup kxs) d).1.length<=ks.length + 1:=by
 have F:HF X.K J s:=HF.of (c:=⟨X.K,H,H,λ_=>True⟩) I sub;obtain ⟨xs,us,ws,hm,q2,h3,h4,q4,q5,h7⟩:=uC (P:=X.prog) (w:=X.w) F (gz I) h;obtain ⟨_,_,_,p9,_,_,h5,_⟩:=h;have MX:bV X.K J xs ks us vs ws:=by have:=bV.of h4 q4 q5;rw [q2] at this;exact this
 refine ⟨xs,hm,by rw [<-q2,M7],fun {kxs a d v u} k1 k2 rk rd r9 h' tk hm' sb=>?_⟩;obtain ⟨o',es',ep',g1',g2'',g3',g4',g5',g6'⟩:=hm';obtain ⟨l1,l2⟩:=yh (K:=X.K) (J:=J) ⟨.tup kxs,k1,k2⟩ q2 h4 q4;have key:∃us' ws',bV X.K J (storedH xs ⟨.tup kxs,k1,k2⟩ a u) (dput (ks,vs) (.tup kxs) d).1 us' (dput (ks,vs) (.tup kxs) d).2 ws'/\az X.K J (dput (ks,vs) (.tup kxs) d).1 us'/\areKeys (dput (ks,vs) (.tup kxs) d).1=true/\deps (dput (ks,vs) (.tup kxs) d).1<=8/\(∀k∈(dput (ks,vs) (.tup kxs) d).1,∃xs,k=.tup xs)/\(dput (ks,vs) (.tup kxs) d).1.length<=ks.length + 1:=by
  unfold dput;cases lk:jD ks vs (.tup kxs) with
  | some z=>
   obtain ⟨pp,v,ea,_,_⟩:=l1 z lk;rw [storedH_old ea];obtain ⟨ws',t⟩:=bV.put (k:=⟨.tup kxs,k1,k2⟩) r9 rd MX;exact ⟨us,ws',t,h3,h5.key,h5.dp,h5.tp,QL _⟩
  | none=>
   rw [storedH_new (l2 lk)];refine ⟨us++[.ref a],ws++[v],bV.snoc (k:=⟨.tup kxs,k1,k2⟩) r9 rd MX,h3.snoc rk,?_,uE h5.dp (by show max (dep (.tup kxs)) 0<=8;omega),λk hk=>?_,by simp⟩
   ·show areKeys (ks++[.tup kxs])=true;rw [nJ,h5.key];show (true && (isKey (.tup kxs) && true))=true;rw [k1];rfl
   ·rcases NV.mp hk with h | h
    ·exact h5.tp k h
    ·exact ⟨kxs,NH.mp h⟩
 obtain ⟨us',ws',t,tk',kk,kd,kt,kl⟩:=key;have nd':(dput (ks,vs) (.tup kxs) d).1.Nodup:=by rw [<-t.keys];have:((storedH xs ⟨.tup kxs,k1,k2⟩ a u).map (·.1)).Nodup:=g6';have h:=YJ (S:=(·≠·)) (λk:KD=>k.1) (λa b (h:a≠b) e=>h (T6 e)) this;rw [N4] at h;exact h
 refine ⟨rH p ep' ((cF (dput (ks,vs) (.tup kxs) d).1).zip (us'.zip ws')),I.write (e:=p) (by rw [p9];trivial) (.inl rfl) (λb u hb q=>by rw [sb.2 b hb];exact q) ⟨_,g1'⟩ ⟨⟨o',es',g1',g2'',g3',by rw [g4'];exact t.ents⟩,⟨_,g1'⟩,?_⟩,⟨us',ws',ep',bz,tk',t.reps,⟨kk,nd',kd,kt⟩,h7,t.len⟩,kl⟩;rintro h1 h2 ⟨o,es,a1,a2⟩ e;exact ⟨o,es,e o a1,a2⟩
end
noncomputable def BG (c:C) (p:Nu):Hp->Hp->List D->Prop:=λJ H ys=>dD c.K J H p (jU ys).1 (jU ys).2/\J p=none/\(jU ys).1.length<=ys.length
theorem t7:tP (BG c p):=⟨fun {J H J' H' ys} ⟨h1,h2,h3⟩ e=>⟨h1.mono e.j e.h,e.frz _ h1.ne h2,h3⟩⟩
noncomputable def yc (gk gv:G R):Ev->M (List D×Ev):=λe=>gk e >>= λr=>toD r >>= λk=>gv e >>= λr2=>toD r2 >>= λd=>if gR k=true then .ok ([.tup [k,d]],e) else .bad
noncomputable abbrev Hl (kx vx:N9) (p:Nu) (env:Env):Sem Unit:=do
 let kv <-eval kx env
 let vv <-holding [kv] (eval vx env)
 Ru {kx.pos with endLine:=vx.pos.endLine,endCol:=vx.pos.endCol}
 holding [kv,vv] (dictSet p kv vv)
section
variable {X:Cx}{c:C}{p:Nu}{J2 H2:Hp}{kx vx:N9}{gk gv:G R}
theorem D7 (hu:X.A.units + 64 < PN) (hK:X.K=c.K) (hx:∀v s,X.xe v s->False) (hp2:H2 p=none) (hp0:c.H0 p=none) (hk:PD X c kx gk) (hv:PD X c vx gv):qz X c p (BG c p) J2 H2 1 (Hl kx vx p X.env) (yc gk gv):=by
 intro MQ s σ H J env ys Qf I x2 sr no ⟨h1,h2,h8⟩ hl w;refine M0 (Od (hk _ s σ H (λv H8=>∃J8 k,Ext J H J8 H8/\Rep c.K J8 k v/\bR (gv env >>= λr2=>toD r2 >>= λd=>if gR k=true then M.ok ([.tup [k,d]],env) else .bad) Qf c.T) I ⟨J,env,sr,aC (aL w) λr wr v J8 H8 e8 r8=>?_⟩) (λu8 s8 ⟨v8,H8,I8,r8,J8,k,e8,rk,w8⟩=>?_) λv s f=>(hx v s f).elim)
 ·obtain ⟨y,q,wr⟩:=i6 wr;obtain ⟨J9,e9,_,ry⟩:=freeze e8 r8 q;exact ⟨J9,y,e9,ry,wr⟩
 refine M0 (NU (Od (hv _ s8 σ H8 (λv H9=>∃J9 d,Ext J8 H8 J9 H9/\Rep c.K J9 d v/\bR (if gR k=true then M.ok ([.tup [k,d]],env) else .bad) Qf c.T) I8 ⟨J8,env,sr.ext e8,aC (aL w8) λr wr v J9 H9 e9 r9=>?_⟩) (λu9 s9 ⟨v9,H9,I9,r9,J9,d,e9,rd,w9⟩=>?_) λv s f=>(hx v s f).elim))
 ·obtain ⟨y,q,wr⟩:=i6 wr;obtain ⟨J9',e9',_,ry⟩:=freeze e9 r9 q;exact ⟨J9',y,e9',ry,wr⟩
 refine M0 (Rg (NU ?_));by_cases ok:gR k=true
 case neg=>rw [if_neg ok] at w9;exact w9.elim
 rw [if_pos ok] at w9;have w9:Qf ([.tup [k,d]],env):=w9;obtain ⟨kxs,rfl,k1,k2⟩:=pX ok;have ee:=e8.trans e9;have rk9:=rk.mono e9.j;obtain ⟨a,rfl⟩:∃a,v8=.ref a:=by cases rk;exact ⟨_,rfl⟩
 cases r8;have J9p:J9 p=none:=ee.frz _ h1.ne h2;rw [<-hK] at rk9 rd;have h9:=h1.mono ee.j ee.h;rw [<-hK] at h9;obtain ⟨xs,hm,lx,put⟩:=E8 I9 ee.sub h9;refine wpAny_dictSet_heap (knd:=mC X.prog X.w) (k:=⟨.tup kxs,k1,k2⟩) (show X.A.units + 16 < PN by omega) (ny (HF.of (c:=⟨X.K,H9,H9,λ_=>True⟩) I9 ee.sub) k1 rk9) hm (λh' hm' sb=>?_) (by rw [lx];omega);obtain ⟨o,W,hd,kl⟩:=put k1 k2 rk9 rd r9 h' _ hm' sb;refine ⟨σ,_,J9,([.tup [.tup kxs,d]],env),W,(x2.trans ee).other hp2 J9p,ee.j,(sr.ext ee).other J9p hp0 no,no,⟨by rw [oE,<-hK];exact hd,J9p,?_⟩,Nb _,w9⟩;rw [oE,NG];exact N8 kl (Nat.add_le_add_right h8 1)
end
noncomputable def xg (n:Nat) (cap:List Nat) (gi0:G (List D)) (gt0:GT) (gts0:G Bool) (gi1:G (List D)) (gt1:GT) (gts1:G Bool) (gk gv:G R):G R:=jc 10000 n cap gi0 gt0 gts0 (gM gi1 gt1 gts1 (yc gk gv)) (λys=>.ok (.d (.dct (jU ys).1 (jU ys).2)))
theorem FF (kx vx t0 i0 t1 i1:N9) (f0 f1:List N9) (MP:Rl) (pos:Pos) (it acc:M4) (env:Env):
  SG (.DictComp kx vx [⟨t0,i0,f0,0⟩,⟨t1,i1,f1,0⟩] MP pos) 0 it acc env=(do
   Ru i0.pos
   match <-RY it with
   | none=>pure (.done .next)
   | some v=>
    Qk t0 it v
    assign t0 env v
    let mut ok:=true
    for c in f0 do
     if ok then ok <-UT c env (eval c env)
    if ok then
     let x <-eval i1 env
     Ru i1.pos
     let x <-OS i1 env x
     let _ <-runOwn (.compStart (.DictComp kx vx [⟨t0,i0,f0,0⟩,⟨t1,i1,f1,0⟩] MP pos) 1 (<-holding [x] (Tr x)) acc env) env
    again (.compLoop (.DictComp kx vx [⟨t0,i0,f0,0⟩,⟨t1,i1,f1,0⟩] MP pos) 0 it acc env)):=by rfl
theorem HR (kx vx t0 i0 t1 i1:N9) (f0 f1:List N9) (MP:Rl) (pos:Pos) (it acc:M4) (env:Env):
  SG (.DictComp kx vx [⟨t0,i0,f0,0⟩,⟨t1,i1,f1,0⟩] MP pos) 0 it acc env=lq t0 i0 f0 it env (oG (.DictComp kx vx [⟨t0,i0,f0,0⟩,⟨t1,i1,f1,0⟩] MP pos) i1 acc env) (again (.compLoop (.DictComp kx vx [⟨t0,i0,f0,0⟩,⟨t1,i1,f1,0⟩] MP pos) 0 it acc env)):=by
 rw [FF];refine bind_congr λ_=>bind_congr λr=>?_;cases r with
 | none=>rfl
 | some v=>
  refine bind_congr λ_=>bind_congr λ_=>bind_congr λok=>?_;cases ok with
  | false=>rfl
  | true=>simp only [oG,bind_assoc,pure_bind,if_true]
theorem HS (kx vx t0 i0 t1 i1:N9) (f0 f1:List N9) (MP:Rl) (pos:Pos) (it:M4) (p:Nu) (env:Env):
  SG (.DictComp kx vx [⟨t0,i0,f0,0⟩,⟨t1,i1,f1,0⟩] MP pos) 1 it (.ref p) env=lq t1 i1 f1 it env (Hl kx vx p env) (again (.compLoop (.DictComp kx vx [⟨t0,i0,f0,0⟩,⟨t1,i1,f1,0⟩] MP pos) 1 it (.ref p) env)):=by rfl
section
variable {X:Cx}{c:C}
theorem JC (hu:X.A.units + 64 < PN) (own:List Str) (cap:List Nat){kx vx t0 i0 t1 i1:N9}{f0 f1:List N9}{MP:Rl}{pos:Pos}{gi0 gi1:G (List D)}{gt0 gt1:GT}{gts0 gts1:G Bool}{gk gv:G R}(hi:zE X c t0 i0 gi0)
  (hbody:∀(cl:List (Str×Nu)) (C:Nu) (s:M5) (H:Hp) (fp:List Nu),cW X.env.cells MP.names []=some cl->nI (cR X own cap MP cl C s H fp) c t0 gt0/\oj (cR X own cap MP cl C s H fp) c f0 gts0/\tZ (cR X own cap MP cl C s H fp) c t1 i1 gi1/\nI (cR X own cap MP cl C s H fp) c t1 gt1/\oj (cR X own cap MP cl C s H fp) c f1 gts1/\QD (cR X own cap MP cl C s H fp) c kx gk/\QD (cR X own cap MP cl C s H fp) c vx gv)
  (a:zo X MP cap i0:=by exact z_ rfl) (hs1:∀(en:Env) x,OS i1 en x=pure x:=by intro _ _;rfl) (hK:autoParam (X.K=c.K) zA._auto_1):oU X c (.DictComp kx vx [⟨t0,i0,f0,0⟩,⟨t1,i1,f1,0⟩] MP pos) (xg own.length cap gi0 gt0 gts0 gi1 gt1 gts1 gk gv):=by
 refine ⟨_,?_,rfl,λ_=>rfl⟩;refine oA (e:=.DictComp kx vx [⟨t0,i0,f0,0⟩,⟨t1,i1,f1,0⟩] MP pos) (ob:={cls:=.type "dict",data:=.dict #[]}) (o0:=λa=>rH a 0 []) (Acc:=λp _=>BG c p) (N:=1000 * 1) (lim:=10000) (m:=λp env=>oG (.DictComp kx vx [⟨t0,i0,f0,0⟩,⟨t1,i1,f1,0⟩] MP pos) i1 (.ref p) env) own cap rfl hi.h
  (λs Q E q=>NP q) (λh H=>⟨⟨_,#[],Nf _ rfl,⟨rfl,rfl,rfl⟩,rfl,.nil⟩,⟨_,Nf _ rfl⟩,λh1 h2 ⟨o,es,a1,a2⟩ e=>⟨o,es,e o a1,a2⟩⟩) (λp _=>t7) (λp _ J H hsm h1 h2=>⟨⟨[],[],0,h1,.nil,.nil,⟨rfl,QW,Ny _,λ_ h=>(nomatch h)⟩,beq_eq_false_iff_ne.mpr (P6 (NF hsm)),rfl⟩,h2,Nb _⟩) (by decide) (λit p env=>DC (HR ..)) (λit acc env R s h0 h=>codeAny_compStart_dict h0 h) (λys z q=>by cases q)
  (fun {p H2 J H J' H' ys r} hp _ e ⟨⟨us,ws,ep,h1,h3,h4,h5,h7⟩,h2,h8⟩ q=>by
   cases q;have s1:aG J' (upd J' p (rH p ep ((cF (jU ys).1).zip (us.zip ws)))):=bL h2 _;refine ⟨upd J' p (rH p ep ((cF (jU ys).1).zip (us.zip ws))),⟨e.h,e.j.trans s1,λa o q=>?_,λa ha ja=>?_⟩,.dct bz (h3.mono s1) (h4.mono s1) h5 h7⟩
   ·by_cases z:a=p
    ·subst z;rw [bz] at q;cases q;exact h1
    ·rw [aQ z] at q;exact e.sub _ _ q
   ·have:a≠p:=λz=>ha (z▸hp);rw [aQ this];exact e.frz a ha ja) (λcl C s H fp hcc=>?_) a
 obtain ⟨b1,b2,b3,b4,b5,b6,b7⟩:=hbody cl C s H fp hcc;exact ⟨b1.h,b2.h,λp J2 H2 hp2 hp0=>wN t7 a.hcalm (λ_ _ f=>f) (λx=>hs1 _ x) (λit R s h0 h=>HM h0 h) (λit=>DC (HS ..)) b3.h b4.h b5.h (D7 hu hK (λ_ _ f=>f) hp2 hp0 b6.h b7.h)⟩
end
section
open PySem.SeqAt
open PySem.AutoSeq1 (wpAny_loadPart')
open PySem.MeetsSeq PySem.MeetsSeq2 PySem.MeetsSeq3
end
theorem qE (gt:GT) (gts:G Bool) (ge:G R):∀(ds:List D) (env:Ev) (k:List D->M R),(bI gt gts (fz ge) ds env >>= λr=>k r.1)=(d7 gt gts ge ds env >>= k)
 | [],env,k=>rfl
 | d::ds,env,k=>by
  unfold bI d7;cases gt d env with
  | bad=>rfl
  | exc z=>rfl
  | ok e=>
   show ((gts e >>= λk=>if k=true then fz ge e >>= λr=>bI gt gts (fz ge) ds r.2 >>= λz=>.ok (r.1++z.1,z.2) else bI gt gts (fz ge) ds e) >>= _)=((gts e >>= λk=>if k=true then ge e >>= λr=>toD r >>= λy=>d7 gt gts ge ds e >>= λys=>.ok (y::ys) else d7 gt gts ge ds e) >>= _);cases gts e with
   | bad=>rfl
   | exc z=>rfl
   | ok b=>
    cases b with
    | false=>exact qE gt gts ge ds e k
    | true=>
     show ((fz ge e >>= λr=>bI gt gts (fz ge) ds r.2 >>= λz=>.ok (r.1++z.1,z.2)) >>= _)=((ge e >>= λr=>toD r >>= λy=>d7 gt gts ge ds e >>= λys=>.ok (y::ys)) >>= _);unfold fz;cases ge e with
     | bad=>rfl
     | exc z=>rfl
     | ok r=>
      show (((toD r >>= λy=>M.ok ([y],e)) >>= λr=>bI gt gts (fz ge) ds r.2 >>= λz=>.ok (r.1++z.1,z.2)) >>= _)=((toD r >>= λy=>d7 gt gts ge ds e >>= λys=>.ok (y::ys)) >>= _);cases toD r with
      | bad=>rfl
      | exc z=>rfl
      | ok y=>
       have ih:=qE gt gts ge ds e λys=>k (y::ys);show ((bI gt gts (fz ge) ds e >>= λz=>.ok ([y]++z.1,z.2)) >>= λr=>k r.1)=((d7 gt gts ge ds e >>= λys=>M.ok (y::ys)) >>= k);have e1:((bI gt gts (fz ge) ds e >>= λz=>M.ok ([y]++z.1,z.2)) >>= λr=>k r.1)=(bI gt gts (fz ge) ds e >>= λr=>k (y::r.1)):=by cases bI gt gts (fz ge) ds e <;> rfl
       have e2:((d7 gt gts ge ds e >>= λys=>M.ok (y::ys)) >>= k)=(d7 gt gts ge ds e >>= λys=>k (y::ys)):=by cases d7 gt gts ge ds e <;> rfl
       rw [e1,e2,ih]
theorem Et (n:Nat) (cap:List Nat) (gi:G (List D)) (gt:GT) (gts:G Bool) (ge:G R):cK n cap gi gt gts ge=jc sizeLine n cap gi gt gts (fz ge) (λys=>.ok (.l .fresh ys)):=by
 funext env;unfold cK jc;cases gi env with
 | bad=>rfl
 | exc z=>rfl
 | ok ds=>
  show (if ds.length<=sizeLine then _ else _)=(if ds.length<=sizeLine then _ else _);by_cases c:ds.length<=sizeLine
  ·rw [if_pos c,if_pos c];exact (qE gt gts ge ds _ λys=>.ok (.l .fresh ys)).symm
  ·rw [if_neg c,if_neg c]
section
variable {X:Cx}{c:C}
theorem jT (own:List Str) (cap:List Nat){elt MS MU:N9}{ifs:List N9}{MP:Rl}{pos:Pos}{gi:G (List D)}{gt:GT}{gts:G Bool}{ge:G R}(hi:zE X c MS MU gi)
  (hbody:∀(cl:List (Str×Nu)) (C:Nu) (s:M5) (H:Hp) (fp:List Nu),cW X.env.cells MP.names []=some cl->nI (cR X own cap MP cl C s H fp) c MS gt/\oj (cR X own cap MP cl C s H fp) c ifs gts/\QD (cR X own cap MP cl C s H fp) c elt ge) (a:zo X MP cap MU:=by exact z_ rfl):oU X c (.ListComp elt [⟨MS,MU,ifs,0⟩] MP pos) (cK own.length cap gi gt gts ge):=by
 refine ⟨_,?_,rfl,λ_=>rfl⟩;rw [Et];refine oA (e:=.ListComp elt [⟨MS,MU,ifs,0⟩] MP pos) (ob:={cls:=.type "list",dict:=none,data:=.seq ([]:List M4).toArray}) (o0:=λ_=>.lst []) (Acc:=λp _=>yb c p) (N:=1) (lim:=sizeLine) (m:=λp env=>do let _ <-call (.builtin "list.append") [.ref p,<-eval elt env]) own cap rfl hi.h
  (λs Q E q=>NP q) (λh H=>⟨Ny _,[],0,.nil,Nf _ rfl⟩) (λp _=>oq) (λp _ J H _ h1 h2=>⟨[],h1,h2,.nil⟩) (by rw [Nat.mul_one];exact Nb _) (λit p env=>yM (compTurn_list ..)) (λit acc env R s h0 h=>Uo h0 h) (λys z q=>by cases q)
  (fun {p H2 J H J' H' ys r} hp _ e ⟨us,h1,h2,h3⟩ q=>by cases q;exact ⟨J',e,⟨p,us,rfl,h1,h2,hp,h3⟩⟩) (λcl C s H fp hcc=>?_) a
 obtain ⟨b1,b2,b3⟩:=hbody cl C s H fp hcc;exact ⟨b1.h,b2.h,λp J2 H2 hp2 hp0=>wM (λ_ _ f=>f) hp2 hp0 b3.h⟩
end
end DL
namespace K23
open PySem DL
noncomputable def o8:List Str:=["world","many","marks","arrows"]
noncomputable def pQ:G O:=(aK (jP (cV 3 (aW (aE 1) (aW (aE 2) (aW (aE 3) cX)))) (af 0))
 (cg (bJ (aA (gN b_ (ao (cK 2 [] (ic (af 2)) (cV 2 (aW (aE 0) (aW (aE 1) cX))) fH (af 0)) aF)) (aA (gN b_ (ao (cK 2 [] (ic (af 3)) (cV 2 (aW (aE 0) (aW (aE 1) cX))) fH (af 0)) aF)) aX)))))
noncomputable def gJ (as:List S):M R:=fin (pQ (bA o8 as))
noncomputable def lS:List Str:=["one","other"]
noncomputable def mh:G O:=(cD (cI (g2 (cG true) (gN (bf 1 K23.gJ) (ao (af 0) aF)) (gN (bf 1 K23.gJ) (ao (af 1) aF)))) Dr fG)
noncomputable def gI (as:List S):M R:=fin (mh (bA lS as))
noncomputable def wH:List Str:=["pairs"]
noncomputable def xo:G O:=(aK (cD (cI (g2 (Gi false) (af 0) (gC .non))) (cg (bJ aX)) fG)
 (cg (gN b_ (ao (gN uK (ao (af 0) aF)) aF))))
noncomputable def iT (as:List S):M R:=fin (xo (bA wH as))
noncomputable def Dg:List Str:=["world","one","other","many","marks","arrows","bearing","leading"]
noncomputable def Dv:G O:=(aK (jP (cV 3 (aW (aE 3) (aW (aE 4) (aW (aE 5) cX)))) (af 0))
 (aK (aZ 6 (gN b_ (ao (cK 2 [1] (ic (af 4)) (cV 2 (aW (aE 0) (aW (aE 1) cX))) fH (g2 (iJ false) (af 2) (af 1))) aF)))
 (aK (aZ 7 (gN b_ (ao (cK 2 [1,2] (ic (af 5)) (cV 2 (aW (aE 0) (aW (aE 1) cX))) fH (g2 (iJ false) (bJ (aA (af 2) (aA (af 3) aX))) (af 1))) aF)))
 (cg (bJ (aA (g2 (cG false) (af 1) (af 2)) (aA (af 6) (aA (af 7) aX))))))))
noncomputable def tw (as:List S):M R:=fin (Dv (bA Dg as))
noncomputable def zB:List Str:=["world"]
noncomputable def An:G O:=(cg (xg 2 [0] (dO (ao (g2 bg (af 0) (gC (.int 0))) aF)) (aE 0) fH (dO (ao (g2 bg (af 2) (gC (.int 0))) aF)) (aE 1) fH (bJ (aA (af 0) (aA (af 1) aX))) (gN (bf 3 K23.tw) (ao (af 2) (ao (af 0) (ao (af 1) aF))))))
noncomputable def lO (as:List S):M R:=fin (An (bA zB as))
noncomputable def zA:List Str:=["first","second","pair","again"]
noncomputable def Am:G O:=(cg (g2 (cG false) (g2 uI (af 0) (bJ (aA (g2 bg (af 2) (gC (.int 0))) (aA (g2 bg (af 3) (gC (.int 0))) aX)))) (g2 uI (af 1) (bJ (aA (g2 bg (af 2) (gC (.int 1))) (aA (g2 bg (af 3) (gC (.int 1))) aX))))))
noncomputable def oV (as:List S):M R:=fin (Am (bA zA as))
end K23
namespace K23
open PySem DL K01 WP K51 K52 K55
section
variable {α β:Type}
theorem Dp {gts:G Bool}{act:Ev->M (List D×Ev)}{h':β->D}{MT:Ev}(p:β->Bool) (f:β->D):∀(ys:List β),(∀y∈ys,gts (a0::some (.d (h' y))::MT)=.ok (p y)/\(p y=true->act (a0::some (.d (h' y))::MT)=.ok ([f y],a0::some (.d (h' y))::MT)))->
  ∀z:Option S,∃z',bI (aE 1) gts act (ys.map h') (a0::z::MT)=.ok ((ys.filter p).map f,a0::z'::MT)
 | [],_,z=>⟨z,rfl⟩
 | y::ys,H,z=>by
  obtain ⟨h1,h2⟩:=H y Nd;obtain ⟨z',ih⟩:=Dp p f ys (λy hy=>H y (Na _ hy)) (some (.d (h' y)));refine ⟨z',?_⟩;rw [Nz];unfold bI;show (gts (a0::some (.d (h' y))::MT) >>= λk=>if k=true then act (a0::some (.d (h' y))::MT) >>= λr=>bI (aE 1) gts act (ys.map h') r.2 >>= λz=>.ok (r.1++z.1,z.2) else bI (aE 1) gts act (ys.map h') (a0::some (.d (h' y))::MT))=_;rw [h1,aS];cases q:p y with
  | true=>
   rw [if_pos rfl,h2 q,aS];show (bI (aE 1) gts act (ys.map h') (a0::some (.d (h' y))::MT) >>= _)=_;rw [ih,aS,TY q];rfl
  | false=>
   rw [if_neg (by decide),ih,TZ (by simp [q])]
theorem zY {gi1:G (List D)}{gts:G Bool}{act:Ev->M (List D×Ev)}{h:α->D}{h':β->D}{MT:Ev}(ys:α->List β) (p:α->β->Bool) (f:α->β->D):∀(xs:List α),(∀x∈xs,(ys x).length<=1000/\(∀z:Option S,gi1 (some (.d (h x))::z::MT)=.ok ((ys x).map h'))/\∀y∈ys x,gts (some (.d (h x))::some (.d (h' y))::MT)=.ok (p x y)/\(p x y=true->act (some (.d (h x))::some (.d (h' y))::MT)=.ok ([f x y],some (.d (h x))::some (.d (h' y))::MT)))->
  ∀z0 z:Option S,∃z0' z',bI (aE 0) fH (gM gi1 (aE 1) gts act) (xs.map h) (z0::z::MT)=.ok (xs.flatMap λx=>((ys x).filter (p x)).map (f x),z0'::z'::MT)
 | [],_,z0,z=>⟨z0,z,rfl⟩
 | x::xs,H,z0,z=>by obtain ⟨h1,h2,h3⟩:=H x Nd;obtain ⟨z1,e1⟩:=Dp (a0:=some (.d (h x))) (p x) (f x) (ys x) h3 z;obtain ⟨z0',z',ih⟩:=zY ys p f xs (λy hy=>H y (Na _ hy)) (some (.d (h x))) z1;refine ⟨z0',z',?_⟩;rw [Nz];unfold bI;show (gM gi1 (aE 1) gts act (some (.d (h x))::z::MT) >>= _)=_;unfold gM;rw [h2 z,aS,if_pos (by rw [M7];exact h1),e1,aS];show (bI (aE 0) fH (gM gi1 (aE 1) gts act) (xs.map h) (some (.d (h x))::z1::MT) >>= _)=_;rw [ih];rfl
theorem Dq {gi0 gi1:G (List D)}{gts:G Bool}{act:Ev->M (List D×Ev)}{fin:List D->M R}{h:α->D}{h':β->D}{xs:List α}(ys:α->List β) (p:α->β->Bool) (f:α->β->D) (hi:gi0 env=.ok (xs.map h)) (hl:xs.length<=10000)
 (H:∀x∈xs,(ys x).length<=1000/\(∀z:Option S,gi1 (some (.d (h x))::z::cE 0 cap env)=.ok ((ys x).map h'))/\∀y∈ys x,gts (some (.d (h x))::some (.d (h' y))::cE 0 cap env)=.ok (p x y)/\(p x y=true->act (some (.d (h x))::some (.d (h' y))::cE 0 cap env)=.ok ([f x y],some (.d (h x))::some (.d (h' y))::cE 0 cap env))):
  jc 10000 2 cap gi0 (aE 0) fH (gM gi1 (aE 1) gts act) fin env=fin (xs.flatMap λx=>((ys x).filter (p x)).map (f x)):=by unfold jc;rw [hi,aS,if_pos (by rw [M7];exact hl)];obtain ⟨z0',z',e⟩:=zY ys p f xs H none none;show (bI (aE 0) fH (gM gi1 (aE 1) gts act) (xs.map h) (none::none::cE 0 cap env) >>= _)=_;rw [e];rfl
theorem D5 {ge:G R}(h:ge env=.ok r) (h2:toD r=.ok d):fz ge env=.ok ([d],env):=by unfold fz;rw [h,aS,h2];rfl
theorem D6 {gk gv:G R}(h:gk env=.ok r) (h2:toD r=.ok k) (h3:gv env=.ok r2) (h4:toD r2=.ok d) (ok:gR k=true):yc gk gv env=.ok ([.tup [k,d]],env):=by unfold yc;rw [h,aS,h2,aS,h3,aS,h4,aS,if_pos ok]
end
noncomputable def dB (u:Wd) (a c:Nat):D:=.tup [.bl (aV (dN a) (dN c)),.tup (u.ms.map λr=>.bl (inD (dN a) (r.2.map dN))),.tup (u.ar.map λr=>.bl (inD (dP (a,c)) (r.2.map dP)))]
theorem FQ (u:Wd) (hu:ri u) (a c:Nat):tw [.d u.d,.d (dN a),.d (dN c)]=.ok (.d (dB u a c)):=by have ml:=hu.ml;have al:=hu.al;refine fZ (qe rfl rfl rfl ?_);refine bh (n1 (kI (xs:=u.ms) (λr=>.str r.1) (λr=>.tup (r.2.map dN)) (λr=>.bl (inD (dN a) (r.2.map dN))) rfl (by omega) λr _=>⟨_,two rfl rfl (JJ a r.2),rfl⟩) rfl) rfl ?_;refine bh (n1 (kI (xs:=u.ar) (λr=>.str r.1) (λr=>.tup (r.2.map dP)) (λr=>.bl (inD (dP (a,c)) (r.2.map dP))) rfl (by omega) λr _=>⟨_,two (bD (aI rfl rfl (aI rfl rfl bC)) t2) rfl (JK (a,c) r.2),rfl⟩) rfl) rfl ?_;exact bZ (bD (aI rfl rfl (aI rfl rfl (aI rfl rfl bC))) (by show 3<=1000;decide)) rfl rfl
noncomputable def fB (m n:Nat):List (Nat×Nat):=(Ng m).flatMap λa=>(Ng n).map λb=>(a,b)
theorem oJ {p:Nat×Nat}:p∈fB m n↔p.1 < m/\p.2 < n:=by
 unfold fB;simp only [Uh,NQ,M9];constructor
 ·rintro ⟨a,ha,b,hb,rfl⟩;exact ⟨ha,hb⟩
 ·rintro ⟨h1,h2⟩;exact ⟨p.1,h1,p.2,h2,rfl⟩
theorem yP (m n:Nat):(fB m n).Nodup:=by unfold fB;refine List.pairwise_flatMap.mpr ⟨λa _=>OB.mpr (Sa (λh e=>h (by cases e;rfl)) (Qs (n:=n))),?_⟩;refine Sa ?_ (Qs (n:=m));intro a b hab p h1 q h2 e;subst e;obtain ⟨x,_,rfl⟩:=M9.mp h1;obtain ⟨y,_,e⟩:=M9.mp h2;cases e;exact hab rfl
theorem u5 (m n:Nat):(fB m n).length=m * n:=by
 induction m with
 | zero=>simp [fB]
 | succ m ih=>
  unfold fB at ih ⊢;rw [UK,List.flatMap_append,NG,ih,Yp];simp
theorem EH (h:∀x∈ks,aV x k=false):jD ks vs k=none:=by
 induction ks generalizing vs with
 | nil=>cases vs <;> rfl
 | cons x ks ih=>
  cases vs with
  | nil=>rfl
  | cons v vs=>
   unfold jD;rw [h x Nd,if_neg (by decide)];exact ih λy hy=>h y (Na _ hy)
theorem rJ (f:Nat×Nat->D):∀(n:Nat) (ps:List (Nat×Nat)),ps.length=n->ps.Nodup->jU (ps.map λp=>D.tup [dP p,f p])=(ps.map dP,ps.map f)
 | 0,ps,h,_=>by have:=RW.mp h;subst this;rfl
 | n + 1,ps,h,nd=>by
  rcases List.eq_nil_or_concat ps with rfl | ⟨qs,p,rfl⟩
  ·cases h
  ·rw [List.concat_eq_append] at h nd ⊢;have nd':=Tz.mp nd;have ih:=rJ f n qs (by simpa using h) nd'.1;have hn:jD (qs.map dP) (qs.map f) (dP p)=none:=EH λx hx=>by obtain ⟨q,hq,rfl⟩:=M9.mp hx;rw [Ae,decide_eq_false_iff_not];rintro rfl;exact nd'.2.2 q hq q Nd rfl
   rw [NW,Vw,oE,ih];unfold dput;rw [hn];simp
noncomputable abbrev xT (u:Wd):List D:=(fB u.m u.m).map dP
noncomputable abbrev xU (u:Wd):List D:=(fB u.m u.m).map λp=>dB u p.1 p.2
theorem wG (u:Wd) (hu:ri u):lO [.d u.d]=.ok (.d (.dct (xT u) (xU u))):=by
 have hi:=hu.hi;refine fZ (bZ (r:=.d (.dct (xT u) (xU u))) ?_ rfl rfl);refine (Dq (xs:=Ng u.m) (h:=dN) (h':=dN) (λ_=>Ng u.m) (λ_ _=>true) (λa b=>.tup [dP (a,b),dB u a b]) ?_ (by simp;omega) λa _=>⟨by simp;omega,λz=>?_,λb _=>⟨rfl,λ_=>D6 (bD (aI rfl rfl (aI rfl rfl bC)) t2) rfl (c3 rfl rfl rfl (FQ u hu a b)) rfl rfl⟩⟩).trans ?_
 ·exact qU (jB (two rfl rfl (nT _ _))) (by omega)
 ·exact qU (jB (two rfl rfl (nT _ _))) (by omega)
 ·have ef:(Ng u.m).filter (λ_=>true)=Ng u.m:=U6.mpr λ_ _=>rfl;have e:((Ng u.m).flatMap λa=>((Ng u.m).filter λ_=>true).map λb=>D.tup [dP (a,b),dB u a b])=(fB u.m u.m).map λp=>D.tup [dP p,dB u p.1 p.2]:=by rw [ef];unfold fB;rw [V9];simp [N4,Function.comp_def]
  rw [e];have h:=rJ (λp=>dB u p.1 p.2) _ (fB u.m u.m) rfl (yP _ _);show M.ok (R.d (.dct (jU ((fB u.m u.m).map λp=>D.tup [dP p,dB u p.1 p.2])).1 (jU ((fB u.m u.m).map λp=>D.tup [dP p,dB u p.1 p.2])).2))=_;rw [h]
theorem xy (u:Wd):∀(ps:List (Nat×Nat)) (p:Nat×Nat),p∈ps->jD (ps.map dP) (ps.map λp=>dB u p.1 p.2) (dP p)=some (dB u p.1 p.2)
 | q::ps,p,h=>by
  rw [Nz,Nz];unfold jD;by_cases c:q=p
  ·subst c;rw [if_pos (by rw [Ae];simp)]
  ·rw [if_neg (by rw [Ae];simpa using c)];rcases Nj.mp h with e | e
   ·exact absurd e.symm c
   ·exact xy u ps p e
theorem uF (u:Wd) (a c:Nat) (ha:a < u.m) (hc:c < u.m):uI (.d (.dct (xT u) (xU u))) (.d (dP (a,c)))=.ok (.d (dB u a c)):=by
 show (if gR (dP (a,c))=true then (match jD (xT u) (xU u) (dP (a,c)) with
  | some d=>M.ok (R.d d)
  | none=>.bad) else .bad)=_
 rw [if_pos (show gR (dP (a,c))=true from rfl),xy u (fB u.m u.m) (a,c) (oJ.mpr ⟨ha,hc⟩)]
theorem vU (u:Wd) (a c:Nat):dep (dB u a c)<=60:=by
 have h1:deps (u.ms.map λr=>D.bl (inD (dN a) (r.2.map dN)))<=0:=fc λx hx=>by obtain ⟨r,_,rfl⟩:=M9.mp hx;exact Ny _
 have h2:deps (u.ar.map λr=>D.bl (inD (dP (a,c)) (r.2.map dP)))<=0:=fc λx hx=>by obtain ⟨r,_,rfl⟩:=M9.mp hx;exact Ny _
 unfold dB;simp only [dep,deps];omega
noncomputable def t9 (v w:Wd) (p q:Nat×Nat):Bool:=aV (dB v p.1 q.1) (dB w p.2 q.2)
noncomputable def tV (v w:Wd) (p:Nat×Nat):Prop:=p.1 < v.m/\p.2 < w.m
theorem D0 (v w:Wd) (p q:Nat×Nat) (hp:tV v w p) (hq:tV v w q):oV [.d (.dct (xT v) (xU v)),.d (.dct (xT w) (xU w)),.d (dP p),.d (dP q)]=.ok (.d (.bl (t9 v w p q))):=by refine fZ (bZ (two (x:=.d (dB v p.1 q.1)) (y:=.d (dB w p.2 q.2)) (two rfl (bD (aI (two rfl rfl (nT _ _)) rfl (aI (two rfl rfl (nT _ _)) rfl bC)) t2) (uF v p.1 q.1 hp.1 hq.1)) (two rfl (bD (aI (two rfl rfl (uT _ _ _)) rfl (aI (two rfl rfl (uT _ _ _)) rfl bC)) t2) (uF w p.2 q.2 hp.2 hq.2)) (ni _ _ _ (vU v p.1 q.1) (vU w p.2 q.2))) rfl rfl)
theorem Kq {g:G R}(h:g env=.ok (.d (.bl b))):cI g env=.ok b:=by show (g env >>= _)=_;rw [h];rfl
theorem f9 {f:R->R->M R}{g h:G R}(hx:g env=.ok x) (hy:h env=.ok y) (hf:f x y=.ok (.d (.bl b))):cI (g2 f g h) env=.ok b:=Kq (two hx hy hf)
theorem F5 {a b:G Bool}(h:a env=.ok false):i_ a b env=.ok false:=by unfold i_;rw [h];rfl
theorem D_ {a b:G Bool}(h:a env=.ok true) (h2:b env=.ok k):i_ a b env=.ok k:=by unfold i_;rw [h];exact h2
noncomputable def iu (u:Wd):D:=.tup [.tup ((u.ms.map OT).map .str),.tup ((u.ar.map OT).map .str)]
theorem tR (u:Wd) (hu:ri u):gJ [.d u.d]=.ok (.d (iu u)):=by have ml:=hu.ml;have al:=hu.al;refine fZ (qe rfl rfl rfl (bZ (bD (aI (n1 (kI (xs:=u.ms) (λr=>.str r.1) (λr=>.tup (r.2.map dN)) (λr=>.str r.1) rfl (by omega) λr _=>⟨_,rfl,rfl⟩) rfl) rfl (aI (n1 (kI (xs:=u.ar) (λr=>.str r.1) (λr=>.tup (r.2.map dP)) (λr=>.str r.1) rfl (by omega) λr _=>⟨_,rfl,rfl⟩) rfl) rfl bC)) t2) rfl ?_));unfold iu;rw [N4,N4];rfl
theorem xQ (u:Wd):dep (iu u)<=60:=by
 have h:∀ss:List Str,deps (ss.map D.str)<=0:=λss=>fc λx hx=>by obtain ⟨r,_,rfl⟩:=M9.mp hx;exact Ny _
 have h1:=h (u.ms.map OT);have h2:=h (u.ar.map OT);unfold iu;simp only [dep,deps];omega
noncomputable abbrev iL (ps:List (Nat×Nat)):D:=.tup (ps.map dP)
theorem allM {α:Type}(f:α->Bool) (xs:List α):qF [.l .fresh (xs.map λx=>.bl (f x))]=.ok (.d (.bl (xs.all f))):=by
 have:=all_map (λd=>match d with
  | .bl b=>b
  | _=>false) (xs.map λx=>.bl (f x))
 rw [N4,UB] at this;exact this
theorem tQ (ps:List (Nat×Nat)) (hl:ps.length < 64):∃qs:List (Nat×Nat),iT [.d (iL ps)]=.ok (.d (iL qs))/\(∀q,q∈qs↔q∈ps)/\qs.length<=ps.length:=by
 have tot:∀d∈ps.map dP,gj pF d:=λd hd=>by obtain ⟨x,_,rfl⟩:=M9.mp hd;exact j6 x
 obtain ⟨h1,h2⟩:=mW (cY pF) tot;have h3:=(k_ (cY pF) tot).2;have e:((bE (ps.map dP)).map gD).map dP=bE (ps.map dP):=back dP gD iS λd hd=>by obtain ⟨x,_,rfl⟩:=M9.mp (h2 d hd);exact ⟨x,rfl⟩
 refine ⟨(bE (ps.map dP)).map gD,?_,λq=>?_,by simpa using h1⟩
 ·refine fZ (f7 (f9 (b:=false) rfl rfl rfl) (bZ (n1 (n1 (x:=.d (iL ps)) (z:=.l .fresh (bE (ps.map dP))) rfl ?_) rfl) rfl ?_))
  ·exact JZ ps hl
  ·show O.rt (.d (.tup (bE (ps.map dP))))=O.rt (.d (.tup (((bE (ps.map dP)).map gD).map dP)));rw [e]
 ·constructor
  ·intro h;obtain ⟨d,hd,rfl⟩:=M9.mp h;obtain ⟨x,hx,rfl⟩:=M9.mp (h2 d hd);exact hx
  ·intro h;exact M9.mpr ⟨dP q,(h3 _).mpr (M9.mpr ⟨q,h,rfl⟩),rfl⟩
theorem zv:iT [.d .non]=.ok (.d (iL [])):=rfl
theorem uH:∀{xs ys:List Bool},bW (xs.map D.bl) (ys.map D.bl)=true↔xs=ys
 | [],[]=>by simp [bW]
 | [],_::_=>by simp [bW]
 | _::_,[]=>by simp [bW]
 | x::xs,y::ys=>by rw [Nz,Nz,gy,M8,uH];simp [aV]
structure Jh (v w:Wd) (p q:Nat×Nat):Prop where
 eq:p.1=q.1↔p.2=q.2
 ms:v.ms.map (λr=>decide (p.1∈r.2))=w.ms.map λr=>decide (p.2∈r.2)
 ar:v.ar.map (λr=>decide ((p.1,q.1)∈r.2))=w.ar.map λr=>decide ((p.2,q.2)∈r.2)
theorem wO (v w:Wd) (p q:Nat×Nat):t9 v w p q=true↔Jh v w p q:=by
 have e:t9 v w p q=((p.1 == q.1) == (p.2 == q.2) && (bW ((v.ms.map λr=>decide (p.1∈r.2)).map D.bl) ((w.ms.map λr=>decide (p.2∈r.2)).map D.bl) && (bW ((v.ar.map λr=>decide ((p.1,q.1)∈r.2)).map D.bl) ((w.ar.map λr=>decide ((p.2,q.2)∈r.2)).map D.bl) && true))):=by unfold t9 dB;rw [iW,gy,gy,gy,iW,iW,bW];simp only [K55.inN,K55.Gs,N4,K55.pC];rfl
 rw [e,M8,M8,M8,uH,uH];have e1:((p.1 == q.1) == (p.2 == q.2))=true↔(p.1=q.1↔p.2=q.2):=by rw [beq_iff_eq,O4,beq_iff_eq,beq_iff_eq]
 rw [e1];exact ⟨λ⟨a,b,c,_⟩=>⟨a,b,c⟩,λ⟨a,b,c⟩=>⟨a,b,c,rfl⟩⟩
theorem tL (a b:Nat):c6 (dN a) (dN b)=true↔a < b:=by rw [kh,decide_eq_true_eq];omega
theorem DF (a b:Nat×Nat):c6 (dP a) (dP b)=true↔pZ a b:=by
 have e:c6 (dP a) (dP b)=fX [dN a.1,dN a.2] [dN b.1,dN b.2]:=rfl;rw [e,ig,K55.pC];unfold pZ;by_cases c:a.1=b.1
 ·rw [if_pos (by simpa using c),ig,K55.pC];by_cases c2:a.2=b.2
  ·rw [if_pos (by simpa using c2)];constructor
   ·intro h;cases h
   ·intro h;omega
  ·rw [if_neg (by simpa using c2)];rw [show c6 (D.int a.2) (D.int b.2)=c6 (dN a.2) (dN b.2) from rfl,tL];omega
 ·rw [if_neg (by simpa using c)];rw [show c6 (D.int a.1) (D.int b.1)=c6 (dN a.1) (dN b.1) from rfl,tL];omega
theorem qv {α:Type}(h:α->D) (u:D->α) (hu:∀x,u (h x)=x) (R:α->α->Prop) (hR:∀a b,c6 (h a) (h b)=true->R a b){l:List D}(hl:∀d∈l,∃x,d=h x) (up:l.Pairwise λa b=>c6 a b=true):(l.map u).Pairwise R:=by refine OB.mpr ((Qz.mp up).imp ?_);rintro a b ⟨ha,hb,h1⟩;obtain ⟨x,rfl⟩:=hl a ha;obtain ⟨y,rfl⟩:=hl b hb;rw [hu,hu];exact hR x y h1
structure F1 (u:Wd):Prop where
 mp:∀r∈u.ms,r.2.Pairwise (· < ·)
 ap:∀r∈u.ar,r.2.Pairwise pZ
theorem yv {α:Type}{l:List α}{j:Nat}(h:j < l.length):(l[j]::l.eraseIdx j).Perm l:=by
 have e2:l=l.take j++l[j]::l.drop (j + 1):=by rw [R3,N5]
 rw [PL];exact Ue.symm.trans (Wz e2.symm)
theorem By (c:Int) (m:Nat) (hm:m<=8):∃ps:List Nat,cT [.d (.int c),.d (.int m)]=.ok (.d (.tup (ps.map dN)))/\ps.Perm (Ng m):=by
 have key:Wp (cT [.d (.int c),.d (.int m)]) λr=>∃ps:List Nat,r=.d (.tup (ps.map dN))/\ps.Perm (Ng m):=by
  refine jK (bh (r:=.l .fresh ((Ng m).map dN)) ?_ rfl (bh rfl rfl (jG (mO (n:=m) rfl (by omega)) ?_)))
  ·show (if below 16777216 (m:Int) then M.ok (R.l .fresh (dF 0 (m:Int).toNat)) else .bad)=_;rw [if_pos (by unfold below;simp;omega),Pa,CO]
  ·refine ly (λk env=>∃(c:Int) (ls ps:List Nat) (x:Option S),env=[some (.d (.int c)),some (.d (.int m)),some (.own (ls.map dN)),some (.own (ps.map dN)),x]/\ls.length + k=m/\ps.length=k/\(ps++ls).Perm (Ng m)) ⟨c,Ng m,[],none,rfl,by simp,rfl,.refl _⟩ ?_ ?_
   ·rintro k hk _ ⟨c,ls,ps,x,rfl,l1,l2,m1⟩;have hlen:(0:Int) < ((ls.map dN).length:Nat):=by simp;omega
    obtain ⟨j,hj⟩:∃j:Nat,c % ((ls.map dN).length:Nat)=j:=⟨(c % ((ls.map dN).length:Nat)).toNat,by have:=Qm c (b:=((ls.map dN).length:Nat)) (by omega);omega⟩;have hjl:j < (ls.map dN).length:=by have:=Pk c hlen;omega
    have Lj:j < ls.length:=by simpa using hjl
    refine ⟨_,rfl,cP (uY (k:=j) rfl rfl (by decide) ((two rfl (n1 rfl rfl) (dz _ _ hlen)).trans (by rw [hj])) hjl (by simp;omega) (by simp;omega) ?_)⟩;refine fQ (two rfl rfl (iw _ 9 (by decide) (by decide))) rfl ⟨_,rfl,c / 9,ls.eraseIdx j,ps++[ls[j]],some (.d (.int k)),?_,?_,?_,?_⟩
    ·rw [NW,Ud,show (ls.eraseIdx j).map dN=(ls.map dN).eraseIdx j by simp [PL,RS,RT]];rfl
    ·rw [Sz,if_pos Lj];omega
    ·rw [NG];simp;omega
    ·rw [NX,Sn];exact ((yv Lj).append_left ps).trans m1
   ·rintro _ ⟨c,ls,ps,x,rfl,l1,l2,m1⟩;have l0:ls=[]:=RW.mp (by omega);rw [l0,O0] at m1;exact bZ rfl rfl ⟨_,rfl,ps,rfl,m1⟩
 obtain ⟨_,h,ps,rfl,hk⟩:=key;exact ⟨ps,h,hk⟩
theorem getD_at {ps:List Nat}{k:Nat}(h:k < ps.length):ps.getD k 0=ps[k]:=by simp [TM,h]
theorem jf {α β:Type}{f:α->β}{xs:List α}(nd:xs.Nodup) (inj:∀a∈xs,∀b∈xs,f a=f b->a=b):(xs.map f).Nodup:=by refine OB.mpr ((Qz.mp nd).imp ?_);rintro a b ⟨ha,hb,h⟩ e;exact h (inj a ha b hb e)
theorem DE {xs:List Nat}(h:xs.Pairwise (· < ·)):xs.Nodup:=h.imp λh e=>by omega
theorem vp {xs:List (Nat×Nat)}(h:xs.Pairwise pZ):xs.Nodup:=h.imp fun {a b} h e=>by subst e;unfold pZ at h;omega
theorem jg {ps:List Nat}{m:Nat}(pm:ps.Perm (Ng m)){a b:Nat}(ha:a < m) (hb:b < m) (e:ps.getD a 0=ps.getD b 0):a=b:=by
 have l:ps.length=m:=by rw [pm.length_eq,Oo]
 rw [getD_at (by omega),getD_at (by omega)] at e;exact (Rq (pm.nodup_iff.mpr Qs)).mp e
theorem JX {xs:List Nat}(nd:xs.Nodup):((aY (xs.map dN)).map jJ).Pairwise (· < ·):=
 qv dN jJ qu _ (λa b h=>(tL a b).mp h) (λd hd=>by obtain ⟨x,_,rfl⟩:=M9.mp (jH hd);exact ⟨x,rfl⟩) (kD (cY .i) (λd hd=>by obtain ⟨x,_,rfl⟩:=M9.mp hd;exact ⟨_,rfl⟩) (jf nd λa _ b _ e=>by have:=congrArg jJ e;exact this))
theorem JY {xs:List (Nat×Nat)}(nd:xs.Nodup):((aY (xs.map dP)).map gD).Pairwise pZ:=
 qv dP gD iS _ (λa b h=>(DF a b).mp h) (λd hd=>by obtain ⟨x,_,rfl⟩:=M9.mp (jH hd);exact ⟨x,rfl⟩) (kD (cY pF) (λd hd=>by obtain ⟨x,_,rfl⟩:=M9.mp hd;exact j6 x) (jf nd λa _ b _ e=>by have:=congrArg gD e;exact this))
theorem Bk (w:Wd) (hw:ri w) (n:Nat) (hb:zx n w) (hs:F1 w) (ps:List Nat) (pm:ps.Perm (Ng w.m)):ri (iM w ps)/\zx n (iM w ps)/\F1 (iM w ps)/\(iM w ps).m=w.m/\(iM w ps).ms.map OT=w.ms.map OT/\(iM w ps).ar.map OT=w.ar.map OT:=by
 have l:ps.length=w.m:=by rw [pm.length_eq,Oo]
 obtain ⟨h1,h2,h3,h4,h5⟩:=Jf w hw n hb ps l λp hp=>by simpa using pm.mem_iff.mp hp
 refine ⟨h1,h2,⟨λr hr=>?_,λr hr=>?_⟩,h3,?_,?_⟩
 ·obtain ⟨q,hq,rfl⟩:=M9.mp (show r∈w.ms.map _ from hr);exact JX (jf (DE (hs.mp q hq)) λa ha b hb' e=>jg pm ((hb.mp q hq).2 a ha) ((hb.mp q hq).2 b hb') e)
 ·obtain ⟨q,hq,rfl⟩:=M9.mp (show r∈w.ar.map _ from hr);refine JY (jf (vp (hs.ap q hq)) λa ha b hb' e=>?_);have ra:=(hb.ap q hq).2 a ha;have rb:=(hb.ap q hq).2 b hb';exact Xk (jg pm ra.1 rb.1 (congrArg OT e)) (jg pm ra.2 rb.2 (congrArg Yx e))
 ·show (w.ms.map _).map _=_;rw [N4];rfl
 ·show (w.ar.map _).map _=_;rw [N4];rfl
end K23
namespace DL
open PySem PySem.Spec PyProof.Rows L2 DX
end DL
namespace K22
open PySem DL
noncomputable def xY:List Str:=["_law_one","_law_other","_law_pairs","_law_a","_law_b","_law_here","_law_there","_law_c","_law_d"]
noncomputable def pO:G O:=(aK (fF (yD (af 2)) (cV 2 (aW (aE 3) (aW (aE 4) cX))) (aK (fF (yE (ao (g2 bg (af 0) (gC (.int 1))) (ao (g2 bg (af 1) (gC (.int 1))) aF))) (cV 2 (aW (aE 5) (aW (aE 6) cX))) (cD (cI (g2 (cG true) (g2 (iJ false) (af 3) (g2 bg (af 5) (gC (.int 1)))) (g2 (iJ false) (af 4) (g2 bg (af 6) (gC (.int 1)))))) (cg (gC (.bl false))) fG))
 (fF (yD (af 2)) (cV 2 (aW (aE 7) (aW (aE 8) cX))) (aK (cD (cI (g2 (cG true) (g2 (cG false) (af 3) (af 7)) (g2 (cG false) (af 4) (af 8)))) (cg (gC (.bl false))) fG)
 (fF (yE (ao (g2 bg (af 0) (gC (.int 2))) (ao (g2 bg (af 1) (gC (.int 2))) aF))) (cV 2 (aW (aE 5) (aW (aE 6) cX))) (cD (cI (g2 (cG true) (g2 (iJ false) (bJ (aA (af 3) (aA (af 7) aX))) (g2 bg (af 5) (gC (.int 1)))) (g2 (iJ false) (bJ (aA (af 4) (aA (af 8) aX))) (g2 bg (af 6) (gC (.int 1)))))) (cg (gC (.bl false))) fG))))))
 (cg (gC (.bl true))))
noncomputable def gF (as:List S):M R:=fin (pO (bA xY as))
end K22
namespace K22
open PySem DL K01 WP K51 K52 K55 K23
section
variable {env:Ev}{tg:GT}{u t:G O}{α:Type}{h:α->D}{Q:O->Prop}{gi:G (List D)}
theorem w_all (I:Ev->Prop) (f:α->Bool):∀(xs:List α) (env:Ev),I env->(∀x∈xs,∀env,I env->∃e,tg (h x) env=.ok e/\Wp (u e) λo=>(f x=true/\∃e',o=.nx e'/\I e')\/(f x=false/\o=.rt (.d (.bl false))))->
  Wp (fR tg u (xs.map h) env) λo=>(xs.all f=true/\∃e',o=.nx e'/\I e')\/(xs.all f=false/\o=.rt (.d (.bl false)))
 | [],env,hI,_=>⟨.nx env,rfl,.inl ⟨rfl,env,rfl,hI⟩⟩
 | x::xs,env,hI,step=>by
  obtain ⟨e,h1,o,ho,hP⟩:=step x Nd env hI;rw [Nz,QM];show Wp (tg (h x) env >>= _) _;rw [h1,aS,ho,aS];rcases hP with ⟨hf,e',rfl,hI'⟩ | ⟨hf,rfl⟩
  ·rw [hf,QA];exact w_all I f xs e' hI' λx hx=>step x (Na _ hx)
  ·rw [hf];exact ⟨_,rfl,.inr ⟨rfl,rfl⟩⟩
theorem DQ (I:Ev->Prop) (f:α->Bool) (xs:List α) (hg:gi env=.ok (xs.map h)) (h0:I env) (step:∀x∈xs,∀env,I env->∃e,tg (h x) env=.ok e/\Wp (u e) λo=>(f x=true/\∃e',o=.nx e'/\I e')\/(f x=false/\o=.rt (.d (.bl false))))
  (k1:xs.all f=true->∀e,I e->Wp (t e) Q) (k2:xs.all f=false->Q (.rt (.d (.bl false)))):Wp (aK (fF gi tg u) t env) Q:=by
 refine jG hg ((w_all I f xs env h0 step).mono ?_);rintro o (⟨z,e,rfl,hI⟩ | ⟨z,rfl⟩)
 ·exact k1 z e hI
 ·exact k2 z
theorem DA (I:Ev->Prop) (f:α->Bool) (xs:List α) (hg:gi env=.ok (xs.map h)) (h0:I env) (step:∀x∈xs,∀env,I env->∃e,tg (h x) env=.ok e/\Wp (u e) λo=>(f x=true/\∃e',o=.nx e'/\I e')\/(f x=false/\o=.rt (.d (.bl false)))):
  Wp (fF gi tg u env) λo=>(xs.all f=true/\∃e',o=.nx e'/\I e')\/(xs.all f=false/\o=.rt (.d (.bl false))):=DB hg (w_all I f xs env h0 step)
end
theorem yu (neg a b:Bool):cG neg (.d (.bl a)) (.d (.bl b))=.ok (.d (.bl (if neg then !(a == b) else a == b))):=by cases neg <;> cases a <;> cases b <;> rfl
theorem zip_rows {α β:Type}(f:α->D) (g:β->D) (xs:List α) (ys:List β):VV (λa b=>D.tup [a,b]) (xs.map f) (ys.map g)=(xs.zip ys).map λr=>D.tup [f r.1,g r.2]:=by rw [List.zipWith_map,List.zip,List.map_zipWith]
noncomputable def mB (v w:Wd) (p:Nat×Nat):Bool:=(v.ms.zip w.ms).all λr=>decide (p.1∈r.1.2) == decide (p.2∈r.2.2)
noncomputable def aB (v w:Wd) (p q:Nat×Nat):Bool:=(v.ar.zip w.ar).all λr=>decide ((p.1,q.1)∈r.1.2) == decide ((p.2,q.2)∈r.2.2)
noncomputable def eB (p q:Nat×Nat):Bool:=(p.1 == q.1) == (p.2 == q.2)
noncomputable def l7 (v w:Wd) (ps:List (Nat×Nat)):Bool:=ps.all λp=>mB v w p && ps.all λq=>eB p q && aB v w p q
theorem kF {α β:Type}(f:α->Bool) (g:β->Bool):∀{xs:List α}{ys:List β},xs.length=ys.length->(((xs.zip ys).all λr=>f r.1 == g r.2)=true↔xs.map f=ys.map g)
 | [],[],_=>by simp
 | x::xs,y::ys,h=>by have ih:=kF f g (xs:=xs) (ys:=ys) (by simpa using h);rw [Vt,QM,M8,ih,Nz,Nz,YT,beq_iff_eq]
noncomputable abbrev eF (v w:Wd) (ps:List (Nat×Nat)) (a b c d e f:Option S):Ev:=[some (.d v.d),some (.d w.d),some (.d (iL ps)),a,b,c,d,e,f]
theorem FO (v w:Wd) (ps:List (Nat×Nat)):gF [.d v.d,.d w.d,.d (iL ps)]=.ok (.d (.bl (l7 v w ps))):=by
 refine fZ (DQ (h:=dP) (λenv=>∃a b c d e f:Option S,env=(eF v w ps a b c d e f)) (λp=>mB v w p && ps.all λq=>eB p q && aB v w p q) ps rfl ⟨none,none,none,none,none,none,rfl⟩ ?_ (λz e _=>bZ rfl rfl (by unfold l7;rw [z])) (λz=>by unfold l7;rw [z]));rintro p _ _ ⟨_,_,c0,d0,e0,f0,rfl⟩;refine ⟨(eF v w ps (some (.d (dN p.1))) (some (.d (dN p.2))) c0 d0 e0 f0),rfl,?_⟩;refine DQ (h:=λr:(Str×List Nat)×(Str×List Nat)=>D.tup [fM r.1,fM r.2]) (λenv=>∃c d e f:Option S,env=(eF v w ps (some (.d (dN p.1))) (some (.d (dN p.2))) c d e f)) (λr=>decide (p.1∈r.1.2) == decide (p.2∈r.2.2)) (v.ms.zip w.ms) ?_ ⟨c0,d0,e0,f0,rfl⟩ ?_ (λz e he=>?_) (λz=>.inr ⟨by show (mB v w p && _)=false;unfold mB;rw [z];rfl,rfl⟩)
 ·exact congrArg M.ok (zip_rows fM fM v.ms w.ms)
 ·rintro r _ _ ⟨_,_,e0,f0,rfl⟩;refine ⟨(eF v w ps (some (.d (dN p.1))) (some (.d (dN p.2))) (some (.d (fM r.1))) (some (.d (fM r.2))) e0 f0),rfl,?_⟩;refine qL (c:=!(decide (p.1∈r.1.2) == decide (p.2∈r.2.2))) (f9 (two rfl (two rfl rfl (uT _ _ _)) (kQ false (dN p.1) (r.1.2.map dN) (uD _) (Ny _))) (two rfl (two rfl rfl (uT _ _ _)) (kQ false (dN p.2) (r.2.2.map dN) (uD _) (Ny _))) ?_) (λz=>bZ rfl rfl (.inr ⟨by simpa using z,rfl⟩)) (λz=>mD (.inl ⟨by simpa using z,_,rfl,_,_,_,_,rfl⟩));show cG true (.d (.bl (inD (dN p.1) (r.1.2.map dN)))) (.d (.bl (inD (dN p.2) (r.2.2.map dN))))=_;rw [K55.inN,K55.inN,yu];rfl
 ·obtain ⟨c0,d0,e0,f0,rfl⟩:=he;have hm:mB v w p=true:=z;refine (DA (h:=dP) (λenv=>∃c d e f:Option S,env=(eF v w ps (some (.d (dN p.1))) (some (.d (dN p.2))) c d e f)) (λq=>eB p q && aB v w p q) ps rfl ⟨c0,d0,e0,f0,rfl⟩ ?_).mono ?_
  ·rintro q _ _ ⟨c0,d0,_,_,rfl⟩;refine ⟨(eF v w ps (some (.d (dN p.1))) (some (.d (dN p.2))) c0 d0 (some (.d (dN q.1))) (some (.d (dN q.2)))),rfl,?_⟩;have he:cI (g2 (cG true) (g2 (cG false) (af 3) (af 7)) (g2 (cG false) (af 4) (af 8))) (eF v w ps (some (.d (dN p.1))) (some (.d (dN p.2))) c0 d0 (some (.d (dN q.1))) (some (.d (dN q.2))))=.ok (!eB p q):=by refine f9 (two rfl rfl (ni false (.d (dN p.1)) (.d (dN q.1)) (Ny _) (Ny _))) (two rfl rfl (ni false (.d (dN p.2)) (.d (dN q.2)) (Ny _) (Ny _))) ?_;show cG true (.d (.bl (aV (dN p.1) (dN q.1)))) (.d (.bl (aV (dN p.2) (dN q.2))))=_;rw [K55.pC,K55.pC,yu];rfl
   cases hc:eB p q with
   | false=>
    rw [hc] at he;exact IP he (IM rfl rfl (.inr ⟨rfl,rfl⟩))
   | true=>
    rw [hc] at he;refine f7 he ?_;refine (DA (h:=λr:(Str×List (Nat×Nat))×(Str×List (Nat×Nat))=>D.tup [gT r.1,gT r.2]) (λenv=>∃c d:Option S,env=(eF v w ps (some (.d (dN p.1))) (some (.d (dN p.2))) c d (some (.d (dN q.1))) (some (.d (dN q.2))))) (λr=>decide ((p.1,q.1)∈r.1.2) == decide ((p.2,q.2)∈r.2.2)) (v.ar.zip w.ar) (congrArg M.ok (zip_rows gT gT v.ar w.ar)) ⟨c0,d0,rfl⟩ ?_).mono ?_
    ·rintro r _ _ ⟨_,_,rfl⟩;refine ⟨(eF v w ps (some (.d (dN p.1))) (some (.d (dN p.2))) (some (.d (gT r.1))) (some (.d (gT r.2))) (some (.d (dN q.1))) (some (.d (dN q.2)))),rfl,?_⟩;refine qL (c:=!(decide ((p.1,q.1)∈r.1.2) == decide ((p.2,q.2)∈r.2.2))) (f9 (two (bD (aI rfl rfl (aI rfl rfl bC)) (by show 2<=1000;decide)) (two rfl rfl (uT _ _ _)) (kQ false (dP (p.1,q.1)) (r.1.2.map dP) (lW _) (by show 1<=60;decide))) (two (bD (aI rfl rfl (aI rfl rfl bC)) (by show 2<=1000;decide)) (two rfl rfl (uT _ _ _)) (kQ false (dP (p.2,q.2)) (r.2.2.map dP) (lW _) (by show 1<=60;decide))) ?_) (λz=>bZ rfl rfl (.inr ⟨by simpa using z,rfl⟩)) (λz=>mD (.inl ⟨by simpa using z,_,rfl,_,_,rfl⟩));show cG true (.d (.bl (inD (dP (p.1,q.1)) (r.1.2.map dP)))) (.d (.bl (inD (dP (p.2,q.2)) (r.2.2.map dP))))=_;rw [K55.Gs,K55.Gs,yu];rfl
    ·rintro o (⟨z,e,rfl,c1,d1,rfl⟩ | ⟨z,rfl⟩)
     ·exact .inl ⟨z,_,rfl,c1,d1,_,_,rfl⟩
     ·exact .inr ⟨z,rfl⟩
  ·rintro o (⟨z,e,rfl,c1,d1,e1,f1,rfl⟩ | ⟨z,rfl⟩)
   ·exact .inl ⟨by rw [hm,z];rfl,_,rfl,_,_,_,_,_,_,rfl⟩
   ·exact .inr ⟨by rw [hm,z];rfl,rfl⟩
end K22
namespace DL
open PySem PySem.Spec PyProof.Rows L2 DX
end DL
namespace DL
open PySem PySem.Spec PyProof.Rows L2 DX
open Sem (wp)
end DL
namespace DL
open PySem PySem.Spec PyProof.Rows L2 DX
end DL
namespace DL
open PySem PySem.Spec PyProof.Rows L2
end DL
namespace K33
open PySem DL
end K33
namespace K33
open PySem DL K01 WP K51 K52 K55 K23
noncomputable abbrev Ps:=List (Nat×Nat)
end K33
namespace K33
open PySem DL K01 WP K51 K52 K55 K23 K22
end K33
namespace K33
open PySem DL K01 WP K51 K52 K55 K23
end K33
namespace K33
open PySem DL K01 WP K51 K52 K55 K23 K22
theorem qN (i:Int) (m:Nat) (h:0 < m):∃k:Nat,i % (m:Int)=k/\k < m:=by obtain ⟨k,hk⟩:=pW (Qm i (b:=m) (by omega));have:=Pk i (b:=m) (by omega);exact ⟨k,hk,by omega⟩
end K33
namespace DL
open PySem PySem.Spec PyProof.Rows L2
noncomputable def FA (K:M1) (x:Str) (st:RB):Prop:=∃f fd,OD K NT x=some (some (.ref f))/\jS K x x st f fd
theorem Ig {K:M1}{st:RB}(a:OD K NT x=some (some (.ref f)))
 (l:K.lookup f=some ⟨u,o,.func (Pr x x (eu st) (cC st) (aT st) .none v d p n q r),s⟩) (c:Sf K q x=true) (k:QV K (.ref f)=true):FA K x st:=⟨f,_,a,Ai l c k⟩
noncomputable def FB (K:M1) (mg:Str->Option M4) (x:Str) (st:RB):Prop:=∃f fd,mg x=some (.ref f)/\jS K x x st f fd
theorem dM {K:M1}{h:OQ}{mg:Str->Option M4}(X:K.In h) (G:h.Ns NT mg){x:Str}{st:RB}(e:FA K x st):FB K mg x st:=let ⟨f,fd,a,F⟩:=e;⟨f,fd,XC X G a,F⟩
theorem iE {P:Nt}{w:NS}{K:M1}{mg:Str->Option M4}{base:OQ}{x:Str}{st:RB}{k:Nat}{Fm:List S->M R}(gB:G O) (N:List Str) (n:Nat) (e:FB K mg x st)
  (hb:N.Nodup->∀(f:Nu) (cdv:M4) (A:NK) (outer:List Env) (s:M5) (H:Hp) (E:XK) (J:Hp) (T:Exc->Prop),cZ k (A.deeper (S7 x (aT st) s.heap.objs.size f cdv))->
   nG (w4 P w K mg base N x (aT st) f cdv A outer s H E) ⟨K,H,J,T⟩ (cC st) gB)
  (Sc:eZ N (N.take n) (aT st))
  (hbi:∀(kV doc pm:M4) (an:Option Nu) (cdv ct:M4) (us:List M4),us.length=(N.take n).length->Wa (Pr x x (eu st) (cC st) (aT st) .none kV doc pm an cdv ct) ⟨us,[]⟩=pure ((N.take n).zip us))
  (hF:∀as r,as.length=(N.take n).length->Fm as=.ok r->fin (gB (bA N as))=.ok r):cH P w K mg base (k + 1) (N.take n).length x Fm:=
 let ⟨f,_,hm,F⟩:=e;E_ F hm Sc hbi (hb Sc.nd f) hF
end DL
namespace K32
open PySem DL
noncomputable def nE:List Str:=["_law_script","_law_one","_law_other","_law_first","_law_order_here","_law_found","_law_k","_law_cell_here","_law_a","_law_b"]
noncomputable def nP:G O:=(aK (aZ 3 (gN (bf 2 K51.bx) (ao (af 0) (ao (gC (.int 16)) aF))))
 (aK (aZ 4 (gN (bf 2 K55.cT) (ao (gN (bf 2 K51.bx) (ao (af 0) (ao (gC (.int 15)) aF))) (ao (g2 bg (af 1) (gC (.int 0))) aF))))
 (aK (aZ 5 (gn aX))
 (aK (fF (dO (ao (g2 cM (af 3) (gC (.int 6))) aF)) (aE 6) (aK (aZ 7 (gN (bf 2 K51.bx) (ao (af 0) (ao (g2 c7 (gC (.int 17)) (af 6)) aF))))
 (aK (aZ 8 (g2 cM (af 7) (g2 bg (af 1) (gC (.int 0)))))
 (aK (aZ 9 (g2 cM (g2 eO (af 7) (gC (.int 8))) (g2 bg (af 2) (gC (.int 0)))))
 (aK (cD (i_ (cI (g2 (cG false) (g2 cM (g2 eO (af 3) (gC (.int 6))) (gC (.int 2))) (gC (.int 1)))) (i_ (cI (g2 (l6 λi j=>.bl (decide (i < j))) (g2 bg (af 4) (af 8)) (g2 bg (af 2) (gC (.int 0))))) (cI (g2 (l6 λi j=>.bl (decide (j < i))) (g2 cM (g2 eO (af 7) (gC (.int 64))) (gC (.int 5))) (gC (.int 0)))))) (aZ 9 (g2 bg (af 4) (af 8))) fG)
 (jb 5 (bJ (aA (af 8) (aA (af 9) aX)))))))))
 (cg (gN b_ (ao (af 5) aF)))))))
noncomputable def eY (as:List S):M R:=fin (nP (bA nE as))
end K32
namespace K32
open PySem DL K01 WP K51 K52 K55 K23 K22 K33
noncomputable abbrev eQ (ns:List Int) (v w:Wd) (os:List Nat) (ps:Ps) (a b c d:Option S):Ev:=[some (.bor (ns.map D.int)),some (.d v.d),some (.d w.d),some (.d (.int (K51.bO ns 16))),some (.d (.tup (os.map dN))),some (.own (ps.map dP)),a,b,c,d]
end K32
namespace S6
open PySem PySem.Spec PyProof.Rows L2 DL
noncomputable abbrev SM:=StateT OR Sem
noncomputable def JG:{g:Bool->NN->Array NN->Nat->Nat->Nat->SM (Option Nat) // ∃(f:OR->SM Bool) (p:PX->Array NN->Nat->OR) (h:PX->Array NN->Nat->NN->Option Nat->SM Bool),XD 0=(get >>= f)/\∀κ arr mg,f (OZ κ arr #[(0,1,0),(1,1,0)] mg none)=(set (p κ arr mg) >>= λ_=>YK arr 1 >>= λx=>g false x arr 0 1 0 >>= h κ arr mg x)}:=⟨_,_,_,_,rfl,λ_ _ _=>rfl⟩
noncomputable abbrev uN:=JG.1
noncomputable def JQ:{L:Array NN->Array NN->SM (Array NN) // ∃(f:OR->SM Bool) (p:PX->Array NN->Nat->OR) (h:PX->Array NN->Nat->NN->Option Nat->SM Bool) (h2:PX->Array NN->Nat->NN->NN->Option Nat->SM Bool) (j:PX->Array NN->Nat->NN->NN->Array NN->SM Bool),XD 0=(get >>= f)/\(∀κ arr mg,f (OZ κ arr #[(0,1,0),(1,1,0)] mg none)=(set (p κ arr mg) >>= λ_=>YK arr 1 >>= λx=>uN false x arr 0 1 0 >>= h κ arr mg x))/\(∀κ arr mg x,h κ arr mg x (some 0)=(YK arr 0 >>= λy=>uN true y arr 1 1 0 >>= h2 κ arr mg x y))/\∀κ arr mg x y,h2 κ arr mg x y (some 1)=(L (arr.extract 0 1) (arr.extract 1 2) >>= j κ arr mg x y)}:=⟨_,_,_,_,_,_,rfl,λ_ _ _=>rfl,λ_ _ _ _=>rfl,λ_ _ _ _ _=>rfl⟩
noncomputable abbrev KH:=JQ.1
noncomputable def JP:{L:Array NN->Array NN->SM (Array NN) // ∃(f:OR->SM Bool) (p:PX->Array NN->Nat->OR) (h:PX->Array NN->Nat->NN->Option Nat->SM Bool) (h2:PX->Array NN->Nat->NN->NN->Option Nat->SM Bool) (j:PX->Array NN->Nat->NN->NN->Array NN->SM Bool),XD 0=(get >>= f)/\(∀κ arr mg,f (OZ κ arr #[(0,2,0),(2,1,0)] mg none)=(set (p κ arr mg) >>= λ_=>YK arr 2 >>= λx=>uN false x arr 0 2 0 >>= h κ arr mg x))/\(∀κ arr mg x,h κ arr mg x (some 0)=(YK arr 1 >>= λy=>uN true y arr 2 1 0 >>= h2 κ arr mg x y))/\∀κ arr mg x y,h2 κ arr mg x y (some 1)=(L (arr.extract 0 2) (arr.extract 2 3) >>= j κ arr mg x y)}:=⟨_,_,_,_,_,_,rfl,λ_ _ _=>rfl,λ_ _ _ _=>rfl,λ_ _ _ _ _=>rfl⟩
noncomputable abbrev KG:=JP.1
noncomputable def lT (prog:Nt) (w:NS) (A:NK) (E:M4->M5->Prop) (s:M5) (κ:PX) (its:NN->Prop) (rk:NN->Nat):Prop:=
 ∀x y,its x->its y->∀(Q:Option Bool->OR->Prop) st,kindOf st=κ->Q (some (decide (rk x < rk y))) st->wpS (Nq prog w) A E s (lt' x y) Q st
section
variable {prog:Nt}{w:NS}{A:NK}{E:M4->M5->Prop}{s:M5}{κ:PX}{its:NN->Prop}{rk:NN->Nat}
theorem bF {arr:Array NN}{i:Nat}{x:NN}{Q:NN->OR->Prop}{st:OR}(h:arr[i]?=some x) (q:Q x st):wpS (Nq prog w) A E s (YK arr i) Q st:=by rw [elem'_eq,h];exact Np q
theorem pP (O:lT prog w A E s κ its rk){left:Bool}{key:NN}{arr:Array NN}{base n hint k:Nat}{st:OR}{Q:Option Nat->OR->Prop}(hk:kindOf st=κ) (ky:its key) (hh:hint < n) (kn:k<=n)
  (hb:∀i,i < n->∃x,arr[base + i]?=some x/\its x/\(rk x < rk key↔i < k)/\(¬rk key < rk x↔i < k)) (q:Q (some k) st):wpS (Nq prog w) A E s (uN left key arr base n hint) Q st:=by
 have bey:∀i,i < n->∀(Q:Option Bool->OR->Prop),Q (some (decide (i < k))) st->wpS (Nq prog w) A E s (YK arr (base + i) >>= λx=>if left=true then lt' x key else (lt' key x >>= λr=>pure (r.map (!·)))) Q st:=λi hi Q q=>by
  obtain ⟨x,h1,h2,h3,h4⟩:=hb i hi;refine Nh (bF h1 ?_);cases left with
  | true=>exact O x key h2 ky _ st hk (by rw [show decide (rk x < rk key)=decide (i < k) by rw [O4];simpa using h3];exact q)
  | false=>
   refine Nh (O key x ky h2 _ st hk (Np ?_));rw [show YF (!·) (some (decide (rk key < rk x)))=some (decide (i < k)) by
    show some (!decide (rk key < rk x))=_;congr 1;rw [O4];simpa using h4]
   exact q
 have bin:∀(f:Nat->Option (Option Nat)×Nat×Nat->SM (ForInStep (Option (Option Nat)×Nat×Nat))),(∀t o lo hi,hi<=n->∀Q:ForInStep (Option (Option Nat)×Nat×Nat)->OR->Prop,(hi<=lo->Q (.done (none,lo,hi)) st)->(lo < hi->lo + (hi - lo) / 2 < k->Q (.yield (none,lo + (hi - lo) / 2 + 1,hi)) st)->(lo < hi->k<=lo + (hi - lo) / 2->Q (.yield (none,lo,lo + (hi - lo) / 2)) st)->wpS (Nq prog w) A E s (f t (o,lo,hi)) Q st)->
   ∀(lo hi:Nat),lo<=k->k<=hi->hi<=n->wpS (Nq prog w) A E s (forIn [:n] ((none:Option (Option Nat)),lo,hi) f) (λc st'=>st'=st/\c.1=none/\c.2.2=k) st:=by
  intro f hf lo hi h1 h2 h3;refine Ou (λt c st'=>st'=st/\c.1=none/\c.2.1<=k/\k<=c.2.2/\c.2.2<=n/\c.2.2 - c.2.1 + t<=n) ?_ ?_ ⟨rfl,rfl,h1,h2,h3,by dsimp only;omega⟩
  ·rintro t ⟨o,lo,hi⟩ st' _ ht ⟨rfl,rfl,a1,a2,a3,a4⟩;dsimp only at a1 a2 a3 a4 ⊢;exact hf t none lo hi a3 _ (λ_=>⟨rfl,rfl,by dsimp only;omega⟩) (λ_ _=>⟨rfl,rfl,by dsimp only;omega,by dsimp only;omega,by dsimp only;omega,by dsimp only;omega⟩) λ_ _=>⟨rfl,rfl,by dsimp only;omega,by dsimp only;omega,by dsimp only;omega,by dsimp only;omega⟩
  ·rintro ⟨o,lo,hi⟩ st' ⟨rfl,rfl,a1,a2,a3,a4⟩;dsimp only at a1 a2 a3 a4 ⊢;exact ⟨rfl,rfl,by omega⟩
 refine Nh (bey hint hh _ ?_);by_cases c:hint < k
 ·rw [decide_eq_true c];dsimp only;rw [if_pos rfl];refine Nh (Qn (Ou (λt c st'=>st'=st/\c.1=none/\hint + c.2.1 < k/\c.2.1 < c.2.2/\t + 1<=c.2.2) (Q:=λc st'=>st'=st/\c.1=none/\hint + c.2.1 < k/\(n - hint<=c.2.2\/k<=hint + c.2.2)) ?_ ?_ ⟨rfl,rfl,by dsimp only;omega,by dsimp only;omega,by dsimp only;omega⟩) ?_)
  ·rintro t ⟨o,la,of⟩ st' _ ht ⟨rfl,rfl,a1,a2,a3⟩;dsimp only at a1 a2 a3 ⊢;by_cases c:of ≥ n - hint
   ·rw [if_pos c];exact Np ⟨rfl,rfl,a1,.inl c⟩
   ·rw [if_neg c];refine Nh (bey _ (by omega) _ ?_);by_cases m:hint + of < k
    ·rw [decide_eq_true m];exact Np ⟨rfl,rfl,m,by dsimp only;omega,by dsimp only;omega⟩
    ·rw [decide_eq_false m];exact Np ⟨rfl,rfl,a1,.inr (by dsimp only;omega)⟩
  ·rintro ⟨o,la,of⟩ st' ⟨rfl,rfl,a1,a2,a3⟩;dsimp only at a1 a2 a3;exact ⟨rfl,rfl,a1,.inl (by dsimp only;omega)⟩
  ·rintro ⟨o,la,of⟩ st' ⟨rfl,rfl,a1,a2⟩;dsimp only at a1 a2 ⊢;refine Nh (Qn (bin _ (λt o lo hi hn Q q1 q2 q3=>by
    dsimp only;by_cases c:lo ≥ hi
    ·rw [if_pos c];exact Np (q1 c)
    ·rw [if_neg c];refine Nh (bey _ (by omega) _ ?_);by_cases m:lo + (hi - lo) / 2 < k
     ·rw [decide_eq_true m];exact Np (q2 (by omega) m)
     ·rw [decide_eq_false m];exact Np (q3 (by omega) (by omega))) (hint + la + 1) (hint + min of (n - hint)) (by omega) (by omega) (by omega)) ?_)
   rintro ⟨o,lo,hi⟩ st' ⟨rfl,rfl,b1⟩;dsimp only at b1 ⊢;rw [b1];exact Np q
 ·rw [decide_eq_false c];dsimp only;rw [if_neg (by decide)];refine Nh (Qn (Ou (λt c st'=>st'=st/\c.1=none/\c.2.1<=hint/\k<=hint - c.2.1/\c.2.1 < c.2.2/\t + 1<=c.2.2) (Q:=λc st'=>st'=st/\c.1=none/\k<=hint - c.2.1/\(hint + 1<=c.2.2\/hint - c.2.2 < k)) ?_ ?_ ⟨rfl,rfl,by dsimp only;omega,by dsimp only;omega,by dsimp only;omega,by dsimp only;omega⟩) ?_)
  ·rintro t ⟨o,la,of⟩ st' _ ht ⟨rfl,rfl,a0,a1,a2,a3⟩;dsimp only at a0 a1 a2 a3 ⊢;by_cases c:of ≥ hint + 1
   ·rw [if_pos c];exact Np ⟨rfl,rfl,a1,.inl c⟩
   ·rw [if_neg c];refine Nh (bey _ (by omega) _ ?_);by_cases m:hint - of < k
    ·rw [decide_eq_true m];exact Np ⟨rfl,rfl,a1,.inr m⟩
    ·rw [decide_eq_false m];exact Np ⟨rfl,rfl,by dsimp only;omega,by dsimp only;omega,by dsimp only;omega,by dsimp only;omega⟩
  ·rintro ⟨o,la,of⟩ st' ⟨rfl,rfl,a0,a1,a2,a3⟩;dsimp only at a0 a1 a2 a3;exact ⟨rfl,rfl,a1,.inl (by dsimp only;omega)⟩
  ·rintro ⟨o,la,of⟩ st' ⟨rfl,rfl,a1,a2⟩;dsimp only at a1 a2 ⊢;refine Nh (Qn (bin _ (λt o lo hi hn Q q1 q2 q3=>by
    dsimp only;by_cases c:lo ≥ hi
    ·rw [if_pos c];exact Np (q1 c)
    ·rw [if_neg c];refine Nh (bey _ (by omega) _ ?_);by_cases m:lo + (hi - lo) / 2 < k
     ·rw [decide_eq_true m];exact Np (q2 (by omega) m)
     ·rw [decide_eq_false m];exact Np (q3 (by omega) (by omega))) (hint + 1 - min of (hint + 1)) (hint - la) (by omega) (by omega) (by omega)) ?_)
   rintro ⟨o,lo,hi⟩ st' ⟨rfl,rfl,b1⟩;dsimp only at b1 ⊢;rw [b1];exact Np q
end
end S6
namespace S6
structure MI {α:Type}(r:α->α->Prop) (la lb out:List α) (ia ib:Nat):Prop where
 up:out.Pairwise r
 pm:out.Perm (la.take ia++lb.take ib)
 a:∀x∈out,∀y∈la.drop ia,r x y
 b:∀x∈out,∀y∈lb.drop ib,r x y
section
variable {α:Type}{r:α->α->Prop}{la lb out:List α}{ia ib k:Nat}
theorem MI.swap (m:MI r la lb out ia ib):MI r lb la out ib ia:=⟨m.up,m.pm.trans P5,m.b,m.a⟩
theorem MI.pushA (m:MI r la lb out ia ib) (u:la.Pairwise r) (hc:∀x∈(la.drop ia).take k,∀y∈lb.drop ib,r x y):MI r la lb (out++(la.drop ia).take k) (ia + k) ib:=by
 have ud:(la.drop ia).Pairwise r:=u.sublist (PJ _ _);have sp:la.drop ia=(la.drop ia).take k++la.drop (ia + k):=by rw [<-Ti,N5]
 rw [sp] at ud;obtain ⟨u1,u2,u3⟩:=OX.mp ud;refine ⟨OX.mpr ⟨m.up,u1,λx hx y hy=>m.a x hx y (Qa hy)⟩,?_,λx hx y hy=>?_,λx hx y hy=>?_⟩
 ·rw [List.take_add,NX];exact (m.pm.append_right _).trans (by rw [NX];exact Q6 _ P5)
 ·rcases NV.mp hx with h | h
  ·exact m.a x h y (by rw [sp];exact Oa _ hy)
  ·exact u3 x h y hy
 ·rcases NV.mp hx with h | h
  ·exact m.b x h y hy
  ·exact hc x h y hy
theorem MI.pushB (m:MI r la lb out ia ib) (u:lb.Pairwise r) (hc:∀x∈(lb.drop ib).take k,∀y∈la.drop ia,r x y):MI r la lb (out++(lb.drop ib).take k) ia (ib + k):=(m.swap.pushA u hc).swap
theorem take_one {l:List α}{i:Nat}{x:α}(h:l[i]?=some x):(l.drop i).take 1=[x]:=by obtain ⟨h1,h2⟩:=Nr.mp h;rw [PV h1,h2];rfl
theorem MI.oneA {x:α}(m:MI r la lb out ia ib) (u:la.Pairwise r) (h:la[ia]?=some x) (hc:∀y∈lb.drop ib,r x y):MI r la lb (out++[x]) (ia + 1) ib:=by
 have:=m.pushA (k:=1) u (by rw [take_one h];intro z hz;rw [NH.mp hz];exact hc)
 rwa [take_one h] at this
theorem MI.oneB {x:α}(m:MI r la lb out ia ib) (u:lb.Pairwise r) (h:lb[ib]?=some x) (hc:∀y∈la.drop ia,r x y):MI r la lb (out++[x]) ia (ib + 1):=(m.swap.oneA u h hc).swap
theorem MI.join (m:MI r la lb out ia ib) (ua:la.Pairwise r) (ub:lb.Pairwise r) (h:∀x∈lb.drop ib,∀y∈la.drop ia,r x y):(out++lb.drop ib++la.drop ia).Pairwise r/\(out++lb.drop ib++la.drop ia).Perm (la++lb):=by
 refine ⟨OX.mpr ⟨OX.mpr ⟨m.up,ub.sublist (PJ _ _),m.b⟩,ua.sublist (PJ _ _),λx hx y hy=>?_⟩,?_⟩
 ·rcases NV.mp hx with q | q
  ·exact m.a x q y hy
  ·exact h x q y hy
 ·have e:(la++lb).Perm ((la.take ia++lb.take ib)++(lb.drop ib++la.drop ia)):=by
   have p1:(la++lb)=(la.take ia++la.drop ia)++(lb.take ib++lb.drop ib):=by rw [N5,N5]
   rw [p1,NX,NX];refine Q6 _ ?_;rw [<-NX,<-NX];exact (P5.append_right _).trans (by rw [NX,NX];exact Q6 _ P5)
  rw [NX];exact (m.pm.append_right _).trans e.symm
theorem fP {l:List α}(ht:∀{x y z:α},r x y->r y z->r x z) (u:l.Pairwise r){i:Nat}{x:α}(h:l[i]?=some x){z:α}(hz:r z x):∀y∈l.drop i,r z y:=by
 obtain ⟨h1,h2⟩:=Nr.mp h;have ud:(l.drop i).Pairwise r:=u.sublist (PJ _ _);rw [PV h1,h2] at ud ⊢;intro y hy;rcases Nj.mp hy with rfl | hy
 ·exact hz
 ·exact ht hz ((Ph.mp ud).1 y hy)
end
theorem lV {α:Type}(rk:α->Nat) (y:Nat):∀{l:List α},l.Pairwise (λa b=>rk a < rk b)->∃k,k<=l.length/\∀i x,l[i]?=some x->(rk x < y↔i < k)
 | [],_=>⟨0,Nb _,λi x h=>by simp at h⟩
 | z::l,u=>by
  obtain ⟨u1,u2⟩:=Ph.mp u;by_cases c:rk z < y
  ·obtain ⟨k,h1,h2⟩:=lV rk y u2;refine ⟨k + 1,by simpa using h1,λi x h=>?_⟩;cases i with
   | zero=>cases h;exact ⟨λ_=>Nat.succ_pos _,λ_=>c⟩
   | succ i=>rw [h2 i x h];omega
  ·refine ⟨0,Ny _,λi x h=>⟨λq=>?_,λq=>absurd q (Om _)⟩⟩;cases i with
   | zero=>cases h;exact absurd q c
   | succ i=>
    have:=u1 x (NB (show l[i]?=some x from h));omega
end S6
namespace S6
open PySem PySem.Spec PyProof.Rows L2 DL
noncomputable def Kg (st st':OR):Prop:=kindOf st'=kindOf st/\Pq st'=Pq st/\TN st'=TN st/\Sj st'=Sj st
theorem Kg.refl (st:OR):Kg st st:=⟨rfl,rfl,rfl,rfl⟩
noncomputable def Good (rk:NN->Nat) (a b r:Array NN):Prop:=r.toList.Pairwise (λx y=>rk x < rk y)/\r.toList.Perm (a.toList++b.toList)
theorem i9 (a:Array NN) (i k:Nat):(a.extract i (i + k)).toList=(a.toList.drop i).take k:=by rw [Pp];show (a.toList.drop i).take (i + k - i)=_;rw [Nat.add_sub_cancel_left]
theorem kM (a:Array NN) (i:Nat):(a.extract i).toList=a.toList.drop i:=by rw [Pp];show (a.toList.drop i).take (a.size - i)=_;rw [Px (by simp)]
section
variable {prog:Nt}{w:NS}{A:NK}{E:M4->M5->Prop}{s:M5}{κ:PX}{its:NN->Prop}{rk:NN->Nat}{a b:Array NN}
structure BF (its:NN->Prop) (rk:NN->Nat) (a b:Array NN):Prop where
 ia:∀x∈a.toList,its x
 ib:∀x∈b.toList,its x
 ua:a.toList.Pairwise λx y=>rk x < rk y
 ub:b.toList.Pairwise λx y=>rk x < rk y
 dj:∀x∈a.toList,∀y∈b.toList,rk x≠rk y
 na:1<=a.size
 nb:1<=b.size
 fst:∀y,b[0]?=some y->∀x∈a.toList,rk y < rk x
 lst:∀x,a[a.size - 1]?=some x->∀y∈b.toList,rk y < rk x
noncomputable abbrev rL (rk:NN->Nat):NN->NN->Prop:=λx y=>rk x < rk y
theorem Bj {x y z:NN}(h:rL rk x y) (h2:rL rk y z):rL rk x z:=Pb h h2
theorem fq {a:Array NN}{i:Nat}(h:i < a.size):∃x,a[i]?=some x/\a.toList[i]?=some x/\x∈a.toList:=⟨a[i],QE h,by simp [h],by simp⟩
theorem uO (O:lT prog w A E s κ its rk){left:Bool}{a:Array NN}{i:Nat}{y:NN}{st:OR}{Q:Option Nat->OR->Prop}(hk:kindOf st=κ) (hy:its y) (ha:∀x∈a.toList,its x) (ua:a.toList.Pairwise λx y=>rk x < rk y) (dj:∀x∈a.toList,rk x≠rk y) (hi:i < a.size)
  (q:∀k,i + k<=a.size->(∀x∈(a.toList.drop i).take k,rk x < rk y)->(∀x∈a.toList.drop (i + k),rk y < rk x)->Q (some k) st):wpS (Nq prog w) A E s (uN left y a i (a.size - i) 0) Q st:=by
 obtain ⟨k,h1,h2⟩:=lV rk (rk y) (ua.sublist (PJ i _));have hl:k<=a.size - i:=by simpa using h1
 refine pP O (k:=k) hk hy (by omega) hl (λj hj=>?_) (q k (by omega) (λx hx=>?_) λx hx=>?_)
 ·obtain ⟨x,e1,e2,e3⟩:=fq (a:=a) (i:=i + j) (by omega);have e4:=h2 j x (by rw [Q2];exact e2);have e5:=dj x e3;exact ⟨x,e1,ha x e3,e4,by omega⟩
 ·obtain ⟨j,hj,e⟩:=ND.mp hx;have hj':j < k:=by rw [N7] at hj;omega
  exact (h2 j x (by rw [<-e,PK];exact Nc _)).mpr hj'
 ·obtain ⟨j,hj,e⟩:=ND.mp hx;have:=h2 (k + j) x (by rw [<-e,Q2,Pc,<-Vy];exact Nc _);have e5:=dj x (OF hx);omega
theorem qw {c:Prop} [Decidable c] {α:Type}{x y:SM α}{st:OR}{Q:α->OR->Prop}(e:¬c->x=y) (h:wpS (Nq prog w) A E s x Q st):wpS (Nq prog w) A E s (if c then x else y) Q st:=by
 by_cases q:c
 ·rw [if_pos q];exact h
 ·rw [if_neg q,<-e q];exact h
theorem GN (O:lT prog w A E s κ its rk) (T:BF its rk a b){st:OR}{Q:Array NN->OR->Prop}(hk:kindOf st=κ) (q:∀r st',Kg st st'->Good rk a b r->Q r st'):wpS (Nq prog w) A E s (KH a b) Q st:=by
 obtain ⟨y0,b0,b0',b0m⟩:=fq T.nb;have m0:MI (rL rk) a.toList b.toList [y0] 0 1:=by have:MI (rL rk) a.toList b.toList [] 0 0:=⟨Qh,U1 _,λ_ h=>(nomatch h),λ_ h=>(nomatch h)⟩;exact this.oneB T.ub b0' λy hy=>T.fst y0 b0 y hy
 have dn:∀(out:Array NN) (ia ib:Nat),MI (rL rk) a.toList b.toList out.toList ia ib->ib=b.size->Good rk a b (out++a.extract ia++b.extract ib):=λout ia ib m e=>by
  have:=m.swap.join T.ub T.ua λx _ y hy=>by rw [e,List.drop_of_length_le (by rw [M_];exact Nb _)] at hy;cases hy
  unfold Good;rw [NL,NL,kM,kM];exact ⟨this.1,this.2.trans P5⟩
 have la:∀(out:Array NN) (ia ib:Nat),MI (rL rk) a.toList b.toList out.toList ia ib->ia + 1=a.size->Good rk a b (out++b.extract ib++a.extract ia):=λout ia ib m e=>by
  obtain ⟨x,x1,x2,x3⟩:=fq (a:=a) (i:=ia) (by omega);have:=m.join T.ua T.ub λy hy z hz=>by have e1:a.toList.drop ia=[x]:=(Px (by rw [O5,M_];omega)).symm.trans (take_one x2);rw [e1] at hz;rw [NH.mp hz];exact T.lst x (by rw [show a.size - 1=ia by omega];exact x1) y (OF hy)
  unfold Good;rw [NL,NL,kM,kM];exact this
 refine Nh (T7 (Py ⟨rfl,Nh (bF b0 ?_)⟩));dsimp only;by_cases c1:b.size=1
 ·rw [if_pos (by simp [c1])];exact Np (q _ _ (Kg.refl st) (dn #[y0] 0 1 m0 c1.symm))
 rw [if_neg (by simp;omega)];by_cases c2:a.size=1
 ·rw [if_pos (by simp [c2])];exact Np (q _ _ (Kg.refl st) (la #[y0] 0 1 m0 c2.symm))
 rw [if_neg (by simp;omega)];have na:=T.na;have nb:=T.nb;refine Nh (Rw (Nh (Qn (Ou (λt c st'=>Kg st st'/\c.1=none/\MI (rL rk) a.toList b.toList c.2.1.toList c.2.2.1 c.2.2.2.1/\c.2.2.1 + 1 < a.size/\c.2.2.2.1 < b.size/\1 + t<=c.2.2.1 + c.2.2.2.1) (Q:=λc st'=>Kg st st'/\∃r,c.1=some r/\Good rk a b r) ?_ ?_ ⟨Kg.refl st,rfl,m0,by dsimp only;omega,by dsimp only;omega,by dsimp only;omega⟩) ?_)))
 ·rintro t ⟨o,out,ia,ib,mg⟩ st1 _ ht ⟨k1,rfl,m1,l1,l2,l3⟩;dsimp only at m1 l1 l2 l3 ⊢;refine Nh (Qn (Ou (λt c st'=>Kg st st'/\c.1=none/\MI (rL rk) a.toList b.toList c.2.1.toList c.2.2.1 c.2.2.2.1/\c.2.2.1 + 1 < a.size/\c.2.2.2.1 < b.size/\ia + ib + t<=c.2.2.1 + c.2.2.2.1) (Q:=λc st'=>Kg st st'/\((∃r,c.1=some r/\Good rk a b r)\/(c.1=none/\MI (rL rk) a.toList b.toList c.2.1.toList c.2.2.1 c.2.2.2.1/\c.2.2.1 + 1 < a.size/\c.2.2.2.1 < b.size/\ia + ib < c.2.2.1 + c.2.2.2.1))) ?_ ?_ ⟨k1,rfl,m1,l1,l2,by dsimp only;omega⟩) ?_)
  ·rintro t ⟨o,out,ia',ib',ac,bc⟩ st2 _ ht ⟨k2,rfl,m2,j1,j2,j3⟩;dsimp only at m2 j1 j2 j3 ⊢;obtain ⟨y,y1,y2,y3⟩:=fq (a:=b) j2;obtain ⟨x,x1,x2,x3⟩:=fq (a:=a) (i:=ia') (by omega);refine Nh (bF y1 (Nh (bF x1 (Nh (O y x (T.ib y y3) (T.ia x x3) _ _ (k2.1.trans hk) ?_)))));by_cases c:rk y < rk x
   ·rw [decide_eq_true c];refine Nh (bF y1 ?_);have m3:MI (rL rk) a.toList b.toList (out.push y).toList ia' (ib' + 1):=by rw [OV];exact m2.oneB T.ub y2 (fP (r:=rL rk) (z:=y) Bj T.ua x2 c)
    by_cases e:ib' + 1=b.size
    ·rw [if_pos (by simp [e])];exact Np ⟨k2,.inl ⟨_,rfl,dn _ _ _ m3 e⟩⟩
    ·rw [if_neg (by simp;omega)];by_cases g:bc + 1 ≥ mg
     ·rw [if_pos g];exact Np ⟨k2,.inr ⟨rfl,m3,j1,by dsimp only;omega,by dsimp only;omega⟩⟩
     ·rw [if_neg g];exact Np ⟨k2,rfl,m3,j1,by dsimp only;omega,by dsimp only;omega⟩
   ·rw [decide_eq_false c];refine Nh (bF x1 ?_);have m3:MI (rL rk) a.toList b.toList (out.push x).toList (ia' + 1) ib':=by rw [OV];exact m2.oneA T.ua x2 (fP (r:=rL rk) (z:=x) Bj T.ub y2 (by have:=T.dj x x3 y y3;show rk x < rk y;omega))
    by_cases e:ia' + 1 + 1=a.size
    ·rw [if_pos (by simp [e])];exact Np ⟨k2,.inl ⟨_,rfl,la _ _ _ m3 e⟩⟩
    ·rw [if_neg (by simp;omega)];by_cases g:ac + 1 ≥ mg
     ·rw [if_pos g];exact Np ⟨k2,.inr ⟨rfl,m3,by dsimp only;omega,j2,by dsimp only;omega⟩⟩
     ·rw [if_neg g];exact Np ⟨k2,rfl,m3,by dsimp only;omega,j2,by dsimp only;omega⟩
  ·rintro ⟨o,out,ia',ib',ac,bc⟩ st2 ⟨k2,rfl,m2,j1,j2,j3⟩;dsimp only at m2 j1 j2 j3;omega
  ·rintro ⟨o,out,ia',ib',ac,bc⟩ st2 ⟨k2,h⟩;dsimp only at h ⊢;rcases h with ⟨r,rfl,g⟩ | ⟨rfl,m2,j1,j2,j3⟩
   ·exact Np ⟨k2,r,rfl,g⟩
   dsimp only;refine Nh (T7 (Py ⟨rfl,?_⟩));refine Nh (Qn (Ou (λt c st'=>Kg st st'/\c.1=none/\MI (rL rk) a.toList b.toList c.2.1.toList c.2.2.1 c.2.2.2.1/\c.2.2.1 + 1 < a.size/\c.2.2.2.1 < b.size/\ia' + ib' + t<=c.2.2.1 + c.2.2.2.1) (Q:=λc st'=>Kg st st'/\((∃r,c.1=some r/\Good rk a b r)\/(c.1=none/\MI (rL rk) a.toList b.toList c.2.1.toList c.2.2.1 c.2.2.2.1/\c.2.2.1 + 1 < a.size/\c.2.2.2.1 < b.size/\ia' + ib'<=c.2.2.1 + c.2.2.2.1))) ?_ ?_ ⟨k2,rfl,m2,j1,j2,by dsimp only;omega⟩) ?_)
   ·rintro t ⟨o,out,ia,ib,mg,ac,bc⟩ st3 _ ht ⟨k3,rfl,m3,i1,i2,i3⟩;dsimp only at m3 i1 i2 i3 ⊢;obtain ⟨y,y1,y2,y3⟩:=fq (a:=b) i2;by_cases g:mg > 1
    all_goals first | rw [if_pos g] | rw [if_neg g]
    all_goals
     refine Nh (Qu (Nh (bF y1 (Nh (uO O (left:=false) (y:=y) (k3.1.trans hk) (T.ib y y3) T.ia T.ua (λx hx=>T.dj x hx y y3) (by omega) λk d1 d2 d3=>?_)))));have kl:ia + k + 1<=a.size:=by
      refine Nat.lt_of_le_of_ne d1 λe=>?_;obtain ⟨x,x1,x2,x3⟩:=fq (a:=a) (i:=a.size - 1) (by omega);have h1:=T.lst x x1 y y3;have h2:=d2 x (by
       rw [List.mem_take_iff_getElem];refine ⟨a.size - 1 - ia,by simp;omega,?_⟩;rw [Pc];have:=Nr.mp x2;obtain ⟨p1,p2⟩:=this;rw [<-p2];congr 1;omega)
      omega
     have m4:MI (rL rk) a.toList b.toList (out++a.extract ia (ia + k)).toList (ia + k) ib:=by rw [NL,i9];exact m3.pushA T.ua λx hx z hz=>fP (r:=rL rk) (z:=x) Bj T.ub y2 (d2 x hx) z hz
     obtain ⟨out5,e5⟩:∃o,o=out++a.extract ia (ia + k):=⟨_,rfl⟩;obtain ⟨ia5,h5⟩:∃i,i=ia + k:=⟨_,rfl⟩;rw [<-e5,<-h5] at m4;rw [<-h5] at d3 kl;dsimp only;by_cases e:ia5 + 1=a.size
     ·rw [if_pos (by omega),<-e5,<-h5,if_pos (by simp [e])];exact Np ⟨k3,.inl ⟨_,rfl,la _ _ _ m4 e⟩⟩
     refine qw (c:=k > 0) (λkz=>?_) ?_
     ·rw [<-e5,<-h5,if_neg (by simp;omega),if_neg (by simp;omega),show out=out5 from Rr.mp (by rw [e5,NL,i9,show k=0 by omega,Tj,O0]),show ia=ia5 by omega]
     rw [<-e5,<-h5,if_neg (by simp;omega),if_neg (by simp;omega)];refine Nh (bF y1 ?_);have m6:MI (rL rk) a.toList b.toList (out5.push y).toList ia5 (ib + 1):=by rw [OV];exact m4.oneB T.ub y2 d3
     by_cases e6:ib + 1=b.size
     ·rw [if_pos (by simp [e6])];exact Np ⟨k3,.inl ⟨_,rfl,dn _ _ _ m6 e6⟩⟩
     rw [if_neg (by simp;omega)];obtain ⟨x,x1,x2,x3⟩:=fq (a:=a) (i:=ia5) (by omega);refine Nh (bF x1 (Nh (uO O (left:=true) (y:=x) (k3.1.trans hk) (T.ia x x3) T.ib T.ub (λz hz=>(T.dj x x3 z hz).symm) (by omega) λj f1 f2 f3=>?_)));have m7:MI (rL rk) a.toList b.toList (out5.push y++b.extract (ib + 1) (ib + 1 + j)).toList ia5 (ib + 1 + j):=by rw [NL,i9];exact m6.pushB T.ub λz hz u hu=>fP (r:=rL rk) (z:=z) Bj T.ua x2 (f2 z hz) u hu
     obtain ⟨out7,e7⟩:∃o,o=out5.push y++b.extract (ib + 1) (ib + 1 + j):=⟨_,rfl⟩;obtain ⟨ib7,h7⟩:∃i,i=ib + 1 + j:=⟨_,rfl⟩;rw [<-e7,<-h7] at m7;rw [<-h7] at f3;dsimp only;by_cases e8:ib7=b.size
     ·rw [if_pos (by omega),<-e7,<-h7,if_pos (by simp [e8])];exact Np ⟨k3,.inl ⟨_,rfl,dn _ _ _ m7 e8⟩⟩
     refine qw (c:=j > 0) (λjz=>?_) ?_
     ·rw [<-e7,<-h7,if_neg (by simp;omega),show out5.push y=out7 from Rr.mp (by rw [e7,NL,i9,show j=0 by omega,Tj,O0]),show ib + 1=ib7 by omega]
     rw [<-e7,<-h7,if_neg (by simp;omega)];refine Nh (bF x1 ?_);have m8:MI (rL rk) a.toList b.toList (out7.push x).toList (ia5 + 1) ib7:=by rw [OV];exact m7.oneA T.ua x2 f3
     by_cases e9:ia5 + 1 + 1=a.size
     ·rw [if_pos (by simp [e9])];exact Np ⟨k3,.inl ⟨_,rfl,la _ _ _ m8 e9⟩⟩
     rw [if_neg (by simp;omega)];by_cases gg:(decide (k < 7) && decide (j < 7))=true
     ·rw [if_pos gg];exact Np ⟨k3,.inr ⟨rfl,m8,by dsimp only;omega,by dsimp only;omega,by dsimp only;omega⟩⟩
     ·rw [if_neg gg];exact Np ⟨k3,rfl,m8,by dsimp only;omega,by dsimp only;omega,by dsimp only;omega⟩
   ·rintro ⟨o,out,ia,ib,mg,ac,bc⟩ st3 ⟨k3,rfl,m3,i1,i2,i3⟩;dsimp only at m3 i1 i2 i3;omega
   ·rintro ⟨o,out,ia,ib,mg,ac,bc⟩ st3 ⟨k3,h⟩;dsimp only at h ⊢;rcases h with ⟨r,rfl,g⟩ | ⟨rfl,m3,i1,i2,i3⟩
    ·exact Np ⟨k3,r,rfl,g⟩
    dsimp only;exact Nh (Qu (Np ⟨k3,rfl,m3,i1,i2,by dsimp only;omega⟩))
 ·rintro ⟨o,out,ia,ib,mg⟩ st1 ⟨k1,rfl,m1,l1,l2,l3⟩;dsimp only at m1 l1 l2 l3;omega
 ·rintro ⟨o,out,ia,ib,mg⟩ st1 ⟨k1,r,e,g⟩;dsimp only at e;subst e;exact Np (q r st1 k1 g)
noncomputable abbrev rG (rk:NN->Nat):NN->NN->Prop:=λx y=>rk y < rk x
theorem DY {x y z:NN}(h:rG rk x y) (h2:rG rk y z):rG rk x z:=Pb h2 h
theorem dR {a:Array NN}{n:Nat}(h:n<=a.size):a.toList.reverse.drop (a.size - n)=(a.toList.take n).reverse:=by rw [List.drop_reverse,M_,show a.size - (a.size - n)=n by omega]
theorem ug {a:Array NN}{n:Nat}(h0:0 < n) (h:n<=a.size):∃x,a[n - 1]?=some x/\a.toList.reverse[a.size - n]?=some x/\x∈a.toList:=by obtain ⟨x,h1,h2,h3⟩:=fq (a:=a) (i:=n - 1) (by omega);refine ⟨x,h1,?_,h3⟩;rw [Sl (by rw [M_];omega),M_,show a.size - 1 - (a.size - n)=n - 1 by omega];exact h2
theorem nj (a:Array NN) (n:Nat):(a.extract 0 n).toList=a.toList.take n:=by rw [Pp];show (a.toList.drop 0).take (n - 0)=_;rw [QX,Nat.sub_zero]
theorem iX {a:Array NN}{k n:Nat}(h:n<=a.size) (hk:k<=n):((a.extract k n).reverse).toList=(a.toList.reverse.drop (a.size - n)).take (n - k):=by rw [QF,Pp,dR h];show ((a.toList.drop k).take (n - k)).reverse=_;rw [List.take_reverse,To,N7,M_,show min n a.size - (n - k)=k by omega]
theorem FI {α:Type}{c:Prop} [Decidable c] {m1 m2:SM α}{Q:α->OR->Prop}{st:OR}(h1:wpS (Nq prog w) A E s m1 Q st) (h2:wpS (Nq prog w) A E s m2 Q st):wpS (Nq prog w) A E s (if c then m1 else m2) Q st:=by
 split
 ·exact h1
 ·exact h2
theorem xj (O:lT prog w A E s κ its rk){left:Bool}{a:Array NN}{n:Nat}{y:NN}{st:OR}{Q:Option Nat->OR->Prop}(hk:kindOf st=κ) (hy:its y) (ha:∀x∈a.toList,its x) (ua:a.toList.Pairwise λx y=>rk x < rk y) (dj:∀x∈a.toList,rk x≠rk y) (h0:0 < n) (hn:n<=a.size)
  (q:∀k,k<=n->(∀x∈a.toList.take k,rk x < rk y)->(∀x∈(a.toList.take n).drop k,rk y < rk x)->Q (some k) st):wpS (Nq prog w) A E s (uN left y a 0 n (n - 1)) Q st:=by
 obtain ⟨k,h1,h2⟩:=lV rk (rk y) (ua.sublist (Q_ n _));have hl:k<=n:=by rw [N7] at h1;omega
 have hx:∀j x,j < n->a.toList[j]?=some x->(rk x < rk y↔j < k):=λj x hj e=>h2 j x (by rw [OL hj];exact e);refine pP O (k:=k) hk hy (by omega) hl (λj hj=>?_) (q k hl (λx hx'=>?_) λx hx'=>?_)
 ·obtain ⟨x,e1,e2,e3⟩:=fq (a:=a) (i:=j) (by omega);have e4:=hx j x hj e2;have e5:=dj x e3;exact ⟨x,by rw [RA];exact e1,ha x e3,e4,by omega⟩
 ·obtain ⟨j,hj,e⟩:=ND.mp hx';have hj':j < k:=by rw [N7] at hj;omega
  exact (hx j x (by omega) (by rw [<-e,PK];exact Nc _)).mpr hj'
 ·obtain ⟨j,hj,e⟩:=ND.mp hx';rw [O5,N7] at hj;have:=hx (k + j) x (by omega) (by rw [<-e,Pc,PK];exact Nc _);have e5:=dj x (Qa (OF hx'));omega
theorem GL (O:lT prog w A E s κ its rk) (T:BF its rk a b){st:OR}{Q:Array NN->OR->Prop}(hk:kindOf st=κ) (q:∀r st',Kg st st'->Good rk a b r->Q r st'):wpS (Nq prog w) A E s (KG a b) Q st:=by
 have na:=T.na;have nb:=T.nb;have ua:a.toList.reverse.Pairwise (rG rk):=Sq.mpr T.ua;have ub:b.toList.reverse.Pairwise (rG rk):=Sq.mpr T.ub;obtain ⟨x0,a0,a0',a0m⟩:=ug (a:=a) (n:=a.size) (by omega) (Nb _);have m0:MI (rG rk) a.toList.reverse b.toList.reverse [x0] (a.size - (a.size - 1)) (b.size - b.size):=by have:MI (rG rk) a.toList.reverse b.toList.reverse [] (a.size - a.size) (b.size - b.size):=⟨Qh,by rw [XW,XW];exact U1 _,λ_ h=>(nomatch h),λ_ h=>(nomatch h)⟩;have h:=this.oneA ua a0' λy hy=>T.lst x0 a0 y (P_.mp (OF hy));rw [show a.size - (a.size - 1)=a.size - a.size + 1 by omega];exact h
 have gd:∀(l:List NN) (r:Array NN),l.Pairwise (rG rk)->l.Perm (a.toList.reverse++b.toList.reverse)->r.toList=l.reverse->Good rk a b r:=λl r h1 h2 e=>by unfold Good;rw [e];exact ⟨Sq.mpr h1,(TQ l).trans (h2.trans ((TQ _).append (TQ _)))⟩
 have dn:∀(out:Array NN) (na nb:Nat),MI (rG rk) a.toList.reverse b.toList.reverse out.toList (a.size - na) (b.size - nb)->na=0->nb<=b.size->Good rk a b (a.extract 0 na++b.extract 0 nb++out.reverse):=λout na nb m e hb=>by
  have:=m.join ua ub λx _ y hy=>by rw [dR (by omega),e] at hy;cases hy
  rw [dR hb,dR (a:=a) (n:=na) (by omega)] at this;refine gd _ _ this.1 this.2 ?_;rw [NL,NL,nj,nj,QF];simp
 have fb:∀(out:Array NN) (na nb:Nat),MI (rG rk) a.toList.reverse b.toList.reverse out.toList (a.size - na) (b.size - nb)->nb=1->na<=a.size->Good rk a b (b.extract 0 nb++a.extract 0 na++out.reverse):=λout na nb m e ha=>by
  obtain ⟨y,y1,y2,y3⟩:=fq (a:=b) (i:=0) (by omega);have:=m.swap.join ub ua λx hx z hz=>by rw [dR (by omega),e] at hz;have e1:b.toList.take 1=[y]:=take_one y2;rw [e1] at hz;rw [NH.mp (P_.mp hz)];exact T.fst y y1 x (P_.mp (OF hx))
  rw [dR ha,dR (a:=b) (n:=nb) (by omega)] at this;refine gd _ _ this.1 (this.2.trans P5) ?_;rw [NL,NL,nj,nj,QF];simp
 refine Nh (T7 (Py ⟨rfl,Nh (bF a0 ?_)⟩));by_cases c1:a.size=1
 ·rw [if_pos (by simp [c1])];exact Np (q _ _ (Kg.refl st) (dn #[x0] _ _ m0 (by omega) (Nb _)))
 rw [if_neg (by simp;omega)];by_cases c2:b.size=1
 ·rw [if_pos (by simp [c2])];exact Np (q _ _ (Kg.refl st) (fb #[x0] _ _ m0 c2 (by omega)))
 rw [if_neg (by simp;omega)];refine Nh (Rw (Nh (Qn (Ou (λt c st'=>Kg st st'/\c.1=none/\MI (rG rk) a.toList.reverse b.toList.reverse c.2.2.2.1.toList (a.size - c.2.1) (b.size - c.2.2.1)/\0 < c.2.1/\c.2.1<=a.size/\1 < c.2.2.1/\c.2.2.1<=b.size/\1 + t + c.2.1 + c.2.2.1<=a.size + b.size) (Q:=λc st'=>Kg st st'/\∃r,c.1=some r/\Good rk a b r) ?_ ?_ ⟨Kg.refl st,rfl,m0,by dsimp only;omega,by dsimp only;omega,by dsimp only;omega,by dsimp only;omega,by dsimp only;omega⟩) ?_)))
 ·rintro t ⟨o,na,nb,out,mg⟩ st1 _ ht ⟨k1,rfl,m1,l1,l2,l3,l4,l5⟩;dsimp only at m1 l1 l2 l3 l4 l5 ⊢;refine Nh (Qn (Ou (λt c st'=>Kg st st'/\c.1=none/\MI (rG rk) a.toList.reverse b.toList.reverse c.2.2.2.1.toList (a.size - c.2.1) (b.size - c.2.2.1)/\0 < c.2.1/\c.2.1<=a.size/\1 < c.2.2.1/\c.2.2.1<=b.size/\t + c.2.1 + c.2.2.1<=na + nb) (Q:=λc st'=>Kg st st'/\((∃r,c.1=some r/\Good rk a b r)\/(c.1=none/\MI (rG rk) a.toList.reverse b.toList.reverse c.2.2.2.1.toList (a.size - c.2.1) (b.size - c.2.2.1)/\0 < c.2.1/\c.2.1<=a.size/\1 < c.2.2.1/\c.2.2.1<=b.size/\c.2.1 + c.2.2.1 < na + nb))) ?_ ?_ ⟨k1,rfl,m1,l1,l2,l3,l4,by dsimp only;omega⟩) ?_)
  ·rintro t ⟨o,na',nb',out,ac,bc⟩ st2 _ ht ⟨k2,rfl,m2,j1,j2,j3,j4,j5⟩;dsimp only at m2 j1 j2 j3 j4 j5 ⊢;obtain ⟨y,y1,y2,y3⟩:=ug (a:=b) (n:=nb') (by omega) j4;obtain ⟨x,x1,x2,x3⟩:=ug (a:=a) (n:=na') j1 j2;refine Nh (bF y1 (Nh (bF x1 (Nh (O y x (T.ib y y3) (T.ia x x3) _ _ (k2.1.trans hk) ?_)))));by_cases c:rk y < rk x
   ·rw [decide_eq_true c];refine Nh (bF x1 ?_);have m3:MI (rG rk) a.toList.reverse b.toList.reverse (out.push x).toList (a.size - (na' - 1)) (b.size - nb'):=by rw [OV,show a.size - (na' - 1)=a.size - na' + 1 by omega];exact m2.oneA ua x2 (fP (r:=rG rk) (z:=x) DY ub y2 c)
    by_cases e:na' - 1=0
    ·rw [if_pos (by simp [e])];exact Np ⟨k2,.inl ⟨_,rfl,dn _ _ _ m3 e j4⟩⟩
    ·rw [if_neg (by simp;omega)];by_cases g:ac + 1 ≥ mg
     ·rw [if_pos g];exact Np ⟨k2,.inr ⟨rfl,m3,by dsimp only;omega,by dsimp only;omega,j3,j4,by dsimp only;omega⟩⟩
     ·rw [if_neg g];exact Np ⟨k2,rfl,m3,by dsimp only;omega,by dsimp only;omega,j3,j4,by dsimp only;omega⟩
   ·rw [decide_eq_false c];refine Nh (bF y1 ?_);have m3:MI (rG rk) a.toList.reverse b.toList.reverse (out.push y).toList (a.size - na') (b.size - (nb' - 1)):=by rw [OV,show b.size - (nb' - 1)=b.size - nb' + 1 by omega];exact m2.oneB ub y2 (fP (r:=rG rk) (z:=y) DY ua x2 (by have:=T.dj x x3 y y3;show rk x < rk y;omega))
    by_cases e:nb' - 1=1
    ·rw [if_pos (by simp [e])];exact Np ⟨k2,.inl ⟨_,rfl,fb _ _ _ m3 e j2⟩⟩
    ·rw [if_neg (by simp;omega)];by_cases g:bc + 1 ≥ mg
     ·rw [if_pos g];exact Np ⟨k2,.inr ⟨rfl,m3,j1,j2,by dsimp only;omega,by dsimp only;omega,by dsimp only;omega⟩⟩
     ·rw [if_neg g];exact Np ⟨k2,rfl,m3,j1,j2,by dsimp only;omega,by dsimp only;omega,by dsimp only;omega⟩
  ·rintro ⟨o,na',nb',out,ac,bc⟩ st2 ⟨k2,rfl,m2,j1,j2,j3,j4,j5⟩;dsimp only at m2 j1 j2 j3 j4 j5;omega
  ·rintro ⟨o,na',nb',out,ac,bc⟩ st2 ⟨k2,h⟩;dsimp only at h ⊢;rcases h with ⟨r,rfl,g⟩ | ⟨rfl,m2,j1,j2,j3,j4,j5⟩
   ·exact Np ⟨k2,r,rfl,g⟩
   dsimp only;refine Nh (T7 (Py ⟨rfl,?_⟩));refine Nh (Qn (Ou (λt c st'=>Kg st st'/\c.1=none/\MI (rG rk) a.toList.reverse b.toList.reverse c.2.2.2.1.toList (a.size - c.2.1) (b.size - c.2.2.1)/\0 < c.2.1/\c.2.1<=a.size/\1 < c.2.2.1/\c.2.2.1<=b.size/\t + c.2.1 + c.2.2.1<=na' + nb') (Q:=λc st'=>Kg st st'/\((∃r,c.1=some r/\Good rk a b r)\/(c.1=none/\MI (rG rk) a.toList.reverse b.toList.reverse c.2.2.2.1.toList (a.size - c.2.1) (b.size - c.2.2.1)/\0 < c.2.1/\c.2.1<=a.size/\1 < c.2.2.1/\c.2.2.1<=b.size/\c.2.1 + c.2.2.1<=na' + nb'))) ?_ ?_ ⟨k2,rfl,m2,j1,j2,j3,j4,by dsimp only;omega⟩) ?_)
   ·rintro t ⟨o,na,nb,out,mg,ac,bc⟩ st3 _ ht ⟨k3,rfl,m3,i1,i2,i3,i4,i5⟩;dsimp only at m3 i1 i2 i3 i4 i5 ⊢;obtain ⟨y,y1,y2,y3⟩:=ug (a:=b) (n:=nb) (by omega) i4;by_cases g:mg > 1
    all_goals first | rw [if_pos g] | rw [if_neg g]
    all_goals
     refine Nh (Qu (Nh (bF y1 (Nh (xj O (left:=false) (y:=y) (k3.1.trans hk) (T.ib y y3) T.ia T.ua (λx hx=>T.dj x hx y y3) i1 i2 λk d1 d2 d3=>?_)))));have m4:MI (rG rk) a.toList.reverse b.toList.reverse (out++(a.extract k na).reverse).toList (a.size - k) (b.size - nb):=by rw [NL,iX i2 d1,show a.size - k=a.size - na + (na - k) by omega];refine m3.pushA ua λx hx z hz=>fP (r:=rG rk) (z:=x) DY ub y2 ?_ z hz;rw [<-iX i2 d1,QF,Pp] at hx;exact d3 x (by rw [To];exact P_.mp hx)
     obtain ⟨out5,e5⟩:∃o,o=out++(a.extract k na).reverse:=⟨_,rfl⟩;rw [<-e5] at m4;dsimp only;by_cases e:k=0
     ·rw [if_pos (by omega),<-e5,if_pos (by simp [e])];exact Np ⟨k3,.inl ⟨_,rfl,dn _ _ _ m4 e i4⟩⟩
     refine qw (c:=na - k > 0) (λkz=>?_) ?_
     ·rw [<-e5,if_neg (by simp;omega),show out=out5 from Rr.mp (by rw [e5,NL,iX i2 d1,show na - k=0 by omega,Tj,O0]),show na=k by omega]
     rw [<-e5,if_neg (by simp;omega)];refine Nh (bF y1 ?_);have m6:MI (rG rk) a.toList.reverse b.toList.reverse (out5.push y).toList (a.size - k) (b.size - (nb - 1)):=by rw [OV,show b.size - (nb - 1)=b.size - nb + 1 by omega];refine m4.oneB ub y2 λz hz=>?_;rw [dR (by omega)] at hz;exact d2 z (P_.mp hz)
     by_cases e6:nb - 1=1
     ·rw [if_pos (by simp [e6])];exact Np ⟨k3,.inl ⟨_,rfl,fb _ _ _ m6 e6 (by omega)⟩⟩
     rw [if_neg (by simp;omega)];obtain ⟨x,x1,x2,x3⟩:=ug (a:=a) (n:=k) (by omega) (by omega);refine Nh (bF x1 (Nh (xj O (left:=true) (y:=x) (k3.1.trans hk) (T.ia x x3) T.ib T.ub (λz hz=>(T.dj x x3 z hz).symm) (by omega) (by omega) λj f1 f2 f3=>?_)));have jl:0 < j:=by
      refine Nat.pos_of_ne_zero λe=>?_;subst e;obtain ⟨z,z1,z2,z3⟩:=fq (a:=b) (i:=0) (by omega);have h1:=T.fst z z1 x x3;have h2:=f3 z (by
       rw [QX];exact NB (i:=0) (by rw [OL (by omega)];exact z2))
      omega
     have m7:MI (rG rk) a.toList.reverse b.toList.reverse (out5.push y++(b.extract j (nb - 1)).reverse).toList (a.size - k) (b.size - j):=by rw [NL,iX (by omega) f1,show b.size - j=b.size - (nb - 1) + (nb - 1 - j) by omega];refine m6.pushB ub λz hz u hu=>fP (r:=rG rk) (z:=z) DY ua x2 ?_ u hu;rw [<-iX (by omega) f1,QF,Pp] at hz;exact f3 z (by rw [To];exact P_.mp hz)
     obtain ⟨out7,e7⟩:∃o,o=out5.push y++(b.extract j (nb - 1)).reverse:=⟨_,rfl⟩;rw [<-e7] at m7;dsimp only;by_cases e8:j=1
     ·rw [if_pos (by omega),<-e7,if_pos (by simp [e8])];exact Np ⟨k3,.inl ⟨_,rfl,fb _ _ _ m7 e8 (by omega)⟩⟩
     refine qw (c:=nb - 1 - j > 0) (λjz=>?_) ?_
     ·rw [<-e7,if_neg (by simp;omega),if_neg (by simp;omega),show out5.push y=out7 from Rr.mp (by rw [e7,NL,iX (by omega) f1,show nb - 1 - j=0 by omega,Tj,O0]),show nb - 1=j by omega]
     rw [<-e7,if_neg (by simp;omega),if_neg (by simp;omega)];refine Nh (bF x1 ?_);have m8:MI (rG rk) a.toList.reverse b.toList.reverse (out7.push x).toList (a.size - (k - 1)) (b.size - j):=by rw [OV,show a.size - (k - 1)=a.size - k + 1 by omega];refine m7.oneA ua x2 λz hz=>?_;rw [dR (by omega)] at hz;exact f2 z (P_.mp hz)
     by_cases e9:k - 1=0
     ·rw [if_pos (by simp [e9])];exact Np ⟨k3,.inl ⟨_,rfl,dn _ _ _ m8 e9 (by omega)⟩⟩
     rw [if_neg (by simp;omega)];exact FI (Np ⟨k3,.inr ⟨rfl,m8,by dsimp only;omega,by dsimp only;omega,by dsimp only;omega,by dsimp only;omega,by dsimp only;omega⟩⟩) (Np ⟨k3,rfl,m8,by dsimp only;omega,by dsimp only;omega,by dsimp only;omega,by dsimp only;omega,by dsimp only;omega⟩)
   ·rintro ⟨o,na,nb,out,mg,ac,bc⟩ st3 ⟨k3,rfl,m3,i1,i2,i3,i4,i5⟩;dsimp only at m3 i1 i2 i3 i4 i5;omega
   ·rintro ⟨o,na,nb,out,mg,ac,bc⟩ st3 ⟨k3,h⟩;dsimp only at h ⊢;rcases h with ⟨r,rfl,g⟩ | ⟨rfl,m3,i1,i2,i3,i4,i5⟩
    ·exact Np ⟨k3,r,rfl,g⟩
    dsimp only;exact Nh (Qu (Np ⟨k3,rfl,m3,i1,i2,i3,i4,by dsimp only;omega⟩))
 ·rintro ⟨o,na,nb,out,mg⟩ st1 ⟨k1,rfl,m1,l1,l2,l3,l4,l5⟩;dsimp only at m1 l1 l2 l3 l4 l5;omega
 ·rintro ⟨o,na,nb,out,mg⟩ st1 ⟨k1,r,e,g⟩;dsimp only at e;subst e;exact Np (q r st1 k1 g)
end
theorem uL:∀(ms:List NN) (i j:Nat) (arr:Array NN),i + j + ms.length<=arr.size->(UP (λ(a:Array NN) (x:NN×Nat)=>match x with | (p,j)=>a.setIfInBounds (i + j) p) arr (ms.zipIdx j)).toList=arr.toList.take (i + j)++ms++arr.toList.drop (i + j + ms.length)
 | [],i,j,arr,_=>by simp
 | m::ms,i,j,arr,h=>by
  rw [Uc,RL];rw [OP] at h;show (UP _ (arr.setIfInBounds (i + j) m) _).toList=_;rw [uL ms i (j + 1) (arr.setIfInBounds (i + j) m) (by simp;omega),Array.toList_setIfInBounds];rw [show i + (j + 1)=i + j + 1 by omega];have hl:i + j < arr.toList.length:=by simp;omega
  rw [U0,Oj (by simpa using hl),List.take_set_of_le (Nb _),List.drop_set_of_lt (by omega),OP];simp;congr 1;omega
section
variable {prog:Nt}{w:NS}{A:NK}{E:M4->M5->Prop}{s:M5}{κ:PX}{its:NN->Prop}{rk:NN->Nat}
theorem FL {st st':OR}{Q:PUnit->OR->Prop}(h:Q ⟨⟩ st'):wpS (Nq prog w) A E s (set st':SM PUnit) Q st:=M3 ⟨rfl,h⟩
theorem GK (O:lT prog w A E s κ its rk){arr:Array NN}{n1 n2 p1 p2 mg:Nat}{Q:Bool->OR->Prop}(hi:∀x∈arr.toList,its x) (hn:arr.size=n1 + n2) (h1:1<=n1) (h2:1<=n2) (u1:(arr.toList.take n1).Pairwise λx y=>rk x < rk y) (u2:(arr.toList.drop n1).Pairwise λx y=>rk x < rk y) (dj:∀x∈arr.toList.take n1,∀y∈arr.toList.drop n1,rk x≠rk y)
  (q:∀st',kindOf st'=κ->Sj st'=none->(TN st').size<=1->(Pq st').toList.Pairwise (λx y=>rk x < rk y)->(Pq st').toList.Perm arr.toList->Q true st'):wpS (Nq prog w) A E s (XD 0) Q (OZ κ arr #[(0,n1,p1),(n1,n2,p2)] mg none):=by
 obtain ⟨y,y1,y2,y3⟩:=fq (a:=arr) (i:=n1) (by omega);have yd:(arr.toList.drop n1)[0]?=some y:=by rw [Q2];exact y2
 have ym:=NB yd;obtain ⟨k,k1,k2⟩:=lV rk (rk y) u1;have kl:k<=n1:=by rw [N7] at k1;omega
 have up:∀(st':OR),kindOf st'=κ->Sj st'=none->Pq st'=arr->(TN st').size<=1->(∀x∈arr.toList.take n1,∀z∈arr.toList.drop n1,rk x < rk z)->Q true st':=λst' e1 e2 e3 e4 h=>q st' e1 e2 e4 (by
  rw [e3,<-N5 n1 arr.toList];exact OX.mpr ⟨u1,u2,h⟩) (by rw [e3])
 have ps:((#[(0,n1,p1),(n1,n2,p2)].setIfInBounds 0 (0,n1 + n2,p1)).eraseIdxIfInBounds (0 + 1)).size<=1:=by simp
 refine Nh (Rw ?_);refine Nh (FL (Nh (bF y1 (Nh (pP O (k:=k) rfl (hi y y3) (by omega) kl (λi hi'=>?_) ?_)))))
 ·obtain ⟨x,x1,x2,x3⟩:=fq (a:=arr) (i:=i) (by omega);have xt:(arr.toList.take n1)[i]?=some x:=by rw [OL hi'];exact x2
  have e:=k2 i x xt;have e5:=dj x (NB xt) y ym;exact ⟨x,by rw [RA];exact x1,hi x x3,e,by omega⟩
 dsimp only;by_cases e:k=n1
 ·rw [if_pos (by simp [e])];refine Np (up _ rfl rfl rfl ps λx hx z hz=>?_);obtain ⟨i,hi',ex⟩:=ND.mp hx;have:rk x < rk y:=(k2 i x (by rw [<-ex];exact Nc _)).mpr (by rw [N7] at hi';omega);rcases Nat.lt_or_ge (rk y) (rk z) with c | c
  ·omega
  ·have:=fP (r:=rL rk) (z:=x) Bj u2 yd this z (by rw [QX];exact hz);exact this
 rw [if_neg (by simp;omega)];obtain ⟨x,x1,x2,x3⟩:=fq (a:=arr) (i:=n1 - 1) (by omega);have xt:(arr.toList.take n1)[n1 - 1]?=some x:=by rw [OL (by omega)];exact x2
 have xm:=NB xt;obtain ⟨j,j1,j2⟩:=lV rk (rk x) u2;have jl:j<=n2:=by rw [O5,M_] at j1;omega
 have yx:rk y < rk x:=by have:=k2 (n1 - 1) x xt;have:=dj x xm y ym;omega
 have j0:0 < j:=(j2 0 y yd).mp yx;refine Nh (bF (x:=x) (by rw [show 0 + k + (n1 - k) - 1=n1 - 1 by omega];exact x1) (Nh (pP O (k:=j) rfl (hi x x3) (by omega) jl (λi hi'=>?_) ?_)))
 ·obtain ⟨z,z1,z2,z3⟩:=fq (a:=arr) (i:=n1 + i) (by omega);have zt:(arr.toList.drop n1)[i]?=some z:=by rw [Q2];exact z2
  have e:=j2 i z zt;have e5:=dj x xm z (NB zt);exact ⟨z,z1,hi z z3,e,by omega⟩
 dsimp only;rw [if_neg (by simp;omega)];obtain ⟨X,hX⟩:∃X,X=arr.extract (0 + k) n1:=⟨_,rfl⟩;obtain ⟨Y,hY⟩:∃Y,Y=arr.extract n1 (n1 + j):=⟨_,rfl⟩;have lX:X.toList=(arr.toList.take n1).drop k:=by rw [hX,Pp,To,RA]
 have lY:Y.toList=(arr.toList.drop n1).take j:=by rw [hY,i9]
 have sX:X.size=n1 - k:=by rw [<-M_,lX];simp;omega
 have sY:Y.size=j:=by rw [<-M_,lY];simp;omega
 have bX:∀z∈X.toList,rk y < rk z:=λz hz=>by
  rw [lX] at hz;obtain ⟨i,hi',ez⟩:=ND.mp hz;have zt:(arr.toList.take n1)[k + i]?=some z:=by rw [<-ez,Pc];exact Nc _
  have:=k2 _ z zt;have:=dj z (NB zt) y ym;omega
 have bY:∀z∈Y.toList,rk z < rk x:=λz hz=>by
  rw [lY] at hz;obtain ⟨i,hi',ez⟩:=ND.mp hz;have zt:(arr.toList.drop n1)[i]?=some z:=by rw [<-ez,PK];exact Nc _
  rw [N7] at hi';exact (j2 i z zt).mpr (by omega)
 have mX:∀z∈X.toList,z∈arr.toList.take n1:=λz hz=>by rw [lX] at hz;exact OF hz
 have mY:∀z∈Y.toList,z∈arr.toList.drop n1:=λz hz=>by rw [lY] at hz;exact Qa hz
 have T:BF its rk X Y:=⟨λz hz=>hi z (Qa (mX z hz)),λz hz=>hi z (OF (mY z hz)),by rw [lX];exact u1.sublist (PJ _ _),by rw [lY];exact u2.sublist (Q_ _ _),λz hz u hu=>dj z (mX z hz) u (mY u hu),by omega,by omega,λz hz u hu=>by
   have:Y.toList[0]?=some z:=by rw [N3];exact hz
   rw [lY,OL j0,yd] at this;cases this;exact bX u hu,λz hz u hu=>by
   have:X.toList[X.size - 1]?=some z:=by rw [N3];exact hz
   rw [lX,Q2,sX,show k + (n1 - k - 1)=n1 - 1 by omega,xt] at this;cases this;exact bY u hu⟩
 rw [<-hX,<-hY];have fin:∀(r:Array NN) (st':OR),Kg (OZ κ arr ((#[(0,n1,p1),(n1,n2,p2)].setIfInBounds 0 (0,n1 + n2,p1)).eraseIdxIfInBounds (0 + 1)) mg none) st'->Good rk X Y r->kindOf st'=κ/\Sj st'=none/\(TN st').size<=1/\(UP (λ(a:Array NN) (x:NN×Nat)=>match x with | (p,j)=>a.setIfInBounds (0 + k + j) p) (Pq st') r.toList.zipIdx).toList.Pairwise (λx y=>rk x < rk y)/\(UP (λ(a:Array NN) (x:NN×Nat)=>match x with | (p,j)=>a.setIfInBounds (0 + k + j) p) (Pq st') r.toList.zipIdx).toList.Perm arr.toList:=λr st' kg g=>by
  obtain ⟨g1,g2⟩:=g;have lr:r.toList.length=n1 - k + j:=by rw [g2.length_eq,NG,M_,M_,sX,sY]
  rw [show Pq st'=arr from kg.2.1,uL r.toList (0 + k) 0 arr (by omega),lr,show 0 + k + 0 + (n1 - k + j)=n1 + j by omega,show 0 + k + 0=k by omega];refine ⟨kg.1,kg.2.2.2,by rw [show TN st'=_ from kg.2.2.1];exact ps,?_,?_⟩
  ·have mr:∀z∈r.toList,z∈X.toList\/z∈Y.toList:=λz hz=>NV.mp (g2.mem_iff.mp hz);have a1:∀z∈arr.toList.take k,rk z < rk y/\z∈arr.toList.take n1:=λz hz=>by
    obtain ⟨i,hi',ez⟩:=ND.mp hz;rw [N7] at hi';have zt:(arr.toList.take n1)[i]?=some z:=by rw [OL (by omega),<-ez,PK];exact Nc _
    exact ⟨(k2 i z zt).mpr (by omega),NB zt⟩
   have b2:∀z∈arr.toList.drop (n1 + j),rk x < rk z/\z∈arr.toList.drop n1:=λz hz=>by
    rw [<-Ti] at hz;obtain ⟨i,hi',ez⟩:=ND.mp hz;have zt:(arr.toList.drop n1)[j + i]?=some z:=by rw [<-ez,Pc];exact Nc _
    have:=j2 _ z zt;have:=dj x xm z (NB zt);exact ⟨by omega,NB zt⟩
   have yB:∀z∈arr.toList.drop n1,rk y<=rk z:=λz hz=>by
    obtain ⟨c,cs⟩:∃c,arr.toList.drop n1=y::c:=by
     cases q:arr.toList.drop n1 with
     | nil=>rw [q] at yd;cases yd
     | cons a c=>rw [q] at yd;cases yd;exact ⟨c,rfl⟩
    rw [cs] at hz u2;rcases Nj.mp hz with rfl | h
    ·exact Nb _
    ·exact Qv ((Ph.mp u2).1 z h)
   have xA:∀z∈arr.toList.take n1,rk z<=rk x:=λz hz=>by
    obtain ⟨i,hi',ez⟩:=ND.mp hz;have hl:(arr.toList.take n1).length=n1:=by simp;omega
    obtain ⟨p1,p2⟩:=Nr.mp xt;by_cases c:i=n1 - 1
    ·subst c;rw [<-ez,p2];exact Nb _
    ·rw [<-ez,<-p2];exact Qv (Ob.mp u1 i (n1 - 1) hi' p1 (by omega))
   refine OX.mpr ⟨OX.mpr ⟨?_,g1,λz hz u hu=>?_⟩,?_,λz hz u hu=>?_⟩
   ·have:(arr.toList.take k).Sublist (arr.toList.take n1):=by
     have:=Q_ k (arr.toList.take n1)
     rwa [WY,show min k n1=k by omega] at this
    exact u1.sublist this
   ·have h1:=(a1 z hz).1;rcases mr u hu with h | h
    ·have:=bX u h;omega
    ·have:=yB u (mY u h);omega
   ·rw [<-Ti];exact u2.sublist (PJ _ _)
   ·obtain ⟨c1,c2⟩:=b2 u hu;rcases NV.mp hz with h | h
    ·have:=(a1 z h).1;omega
    ·rcases mr z h with h | h
     ·have:=xA z (mX z h);omega
     ·have:=bY z h;omega
  ·have e:arr.toList=arr.toList.take k++(X.toList++Y.toList)++arr.toList.drop (n1 + j):=by
    rw [lX,lY];have e1:arr.toList.take k++(arr.toList.take n1).drop k=arr.toList.take n1:=by
     have:=N5 k (arr.toList.take n1)
     rwa [WY,show min k n1=k by omega] at this
    have e2:(arr.toList.drop n1).take j++arr.toList.drop (n1 + j)=arr.toList.drop n1:=by rw [<-Ti,N5]
    rw [<-NX,e1,NX,e2,N5]
   rw (occs:=[3]) [e];exact (g2.append_left _).append_right _
 have last:∀(r:Array NN) (st':OR),Kg (OZ κ arr ((#[(0,n1,p1),(n1,n2,p2)].setIfInBounds 0 (0,n1 + n2,p1)).eraseIdxIfInBounds (0 + 1)) mg none) st'->Good rk X Y r->Q (Sj st').isNone (RX st' (UP (λ(a:Array NN) (x:NN×Nat)=>match x with | (p,j)=>a.setIfInBounds (0 + k + j) p) (Pq st') r.toList.zipIdx)):=λr st' kg g=>by obtain ⟨f1,f2,f3,f4,f5⟩:=fin r st' kg g;rw [f2];exact q _ f1 f2 f3 f4 f5
 by_cases c:n1 - k<=j
 ·rw [if_pos c];exact Nh (GN O T rfl λr st' kg g=>Nh (Qu (Nh (Rw (Np (last r st' kg g))))))
 ·rw [if_neg c];exact Nh (GL O T rfl λr st' kg g=>Nh (Qu (Nh (Rw (Np (last r st' kg g))))))
end
noncomputable def ra (rk:NN->Nat) (arr:Array NN) (i:Nat):Nat:=(arr[i]?.map rk).getD 0
theorem k7 {rk:NN->Nat}{arr arr':Array NN}{i j:Nat}(h:arr'[i]?=arr[j]?):ra rk arr' i=ra rk arr j:=by unfold ra;rw [h]
noncomputable def Seg (rk:NN->Nat) (arr:Array NN) (lo hi:Nat):Prop:=∀i j,lo<=i->i < j->j < hi->ra rk arr i < ra rk arr j
theorem Seg.more {rk:NN->Nat}{arr:Array NN}{lo n:Nat}(h:Seg rk arr lo (lo + n)) (hn:1<=n) (hl:ra rk arr (lo + n - 1) < ra rk arr (lo + n)):Seg rk arr lo (lo + (n + 1)):=λi j h1 h2 h3=>by
 by_cases c:j=lo + n
 ·subst c;by_cases d:i=lo + n - 1
  ·subst d;exact hl
  ·exact Pb (h i (lo + n - 1) h1 (by omega) (by omega)) hl
 ·exact h i j h1 h2 (by omega)
structure oX (its:NN->Prop) (rk:NN->Nat) (arr:Array NN):Prop where
 i:∀x∈arr.toList,its x
 d:∀i j,i < arr.size->j < arr.size->i≠j->ra rk arr i≠ra rk arr j
theorem pV {its:NN->Prop}{rk:NN->Nat}{arr:Array NN}:oX its rk arr↔(∀x∈arr.toList,its x)/\(arr.toList.map rk).Nodup:=by
 have key:∀i,(arr.toList.map rk)[i]?=arr[i]?.map rk:=λi=>by rw [Nx,N3]
 have kr:∀i (h:i < (arr.toList.map rk).length),ra rk arr i=(arr.toList.map rk)[i]:=λi h=>by unfold ra;rw [<-key,Nc h];rfl
 have hl:(arr.toList.map rk).length=arr.size:=by simp
 refine ⟨λt=>⟨t.i,List.nodup_iff_pairwise_ne.mpr (Ob.mpr λi j hi hj hij=>?_)⟩,λ⟨h1,h2⟩=>⟨h1,λi j hi hj hij e=>?_⟩⟩
 ·rw [<-kr,<-kr];exact t.d i j (by omega) (by omega) (by omega)
 ·rw [kr i (by omega),kr j (by omega)] at e;exact hij ((Rq h2).mp e)
theorem ie {its:NN->Prop}{rk:NN->Nat}{arr arr':Array NN}(t:oX its rk arr) (p:arr'.Perm arr):oX its rk arr':=by obtain ⟨h1,h2⟩:=pV.mp t;exact pV.mpr ⟨λx hx=>h1 x (p.toList.mem_iff.mp hx),((p.toList.map rk).nodup_iff).mpr h2⟩
section
variable {prog:Nt}{w:NS}{A:NK}{E:M4->M5->Prop}{s:M5}{κ:PX}{its:NN->Prop}{rk:NN->Nat}
theorem nu (O:lT prog w A E s κ its rk){st:OR}{i j:Nat}{Q:Option Bool->OR->Prop}(hk:kindOf st=κ) (T:oX its rk (Pq st)) (hi:i < (Pq st).size) (hj:j < (Pq st).size) (q:Q (some (decide (ra rk (Pq st) i < ra rk (Pq st) j))) st):wpS (Nq prog w) A E s (ltAt' i j) Q st:=by
 obtain ⟨x,x1,_,x3⟩:=fq hi;obtain ⟨y,y1,_,y3⟩:=fq hj;have ex:ra rk (Pq st) i=rk x:=by unfold ra;rw [x1];rfl
 have ey:ra rk (Pq st) j=rk y:=by unfold ra;rw [y1];rfl
 rw [ex,ey] at q;rw [ltAt'_eq];exact Nh (Rw (Nh (bF x1 (Nh (bF y1 (O x y (T.i x x3) (T.i y y3) _ _ hk q))))))
theorem Ga (O:lT prog w A E s κ its rk){st:OR}{lo nrem:Nat}{Q:Option Nat->OR->Prop}(hk:kindOf st=κ) (T:oX its rk (Pq st)) (h1:1<=nrem) (h2:lo + nrem<=(Pq st).size)
  (q:∀m arr',1<=m->m<=nrem->arr'.Perm (Pq st)->Seg rk arr' lo (lo + m)->(∀i,i < lo\/lo + m<=i->arr'[i]?=(Pq st)[i]?)->Q (some m) (RX st arr')):wpS (Nq prog w) A E s (countRun' lo nrem) Q st:=by
 obtain ⟨arr,ha⟩:∃arr,arr=Pq st:=⟨_,rfl⟩;have qs:∀m,1<=m->m<=nrem->Seg rk arr lo (lo + m)->Q (some m) st:=λm a1 a2 a3=>by have:=q m arr a1 a2 (by rw [ha]) a3 (λ_ _=>by rw [ha]);rw [ha] at this;exact this
 rw [countRun'_eq];refine Nh (Qn (Ou (λt c st'=>st'=st/\c.1=none/\c.2=t/\Seg rk arr lo (lo + t)) (Q:=λc st'=>st'=st/\c.1=none/\1<=c.2/\c.2<=nrem/\Seg rk arr lo (lo + c.2)/\(c.2=nrem\/ra rk arr (lo + c.2) < ra rk arr (lo + c.2 - 1))) ?_ ?_ ⟨rfl,rfl,rfl,λi j _ _ _=>by omega⟩) ?_)
 ·rintro t ⟨o,n⟩ st' ht hn ⟨rfl,rfl,e,sg⟩;dsimp only at e;subst e;dsimp only;refine Nh (nu O hk T (by omega) (by omega) ?_);rw [<-ha];by_cases c:ra rk arr (lo + n) < ra rk arr (lo + n - 1)
  ·rw [decide_eq_true c];exact Np ⟨rfl,rfl,ht,by dsimp only;omega,sg,.inr c⟩
  ·rw [decide_eq_false c];refine Np ⟨rfl,rfl,rfl,sg.more ht ?_⟩;have:=T.d (lo + n) (lo + n - 1) (by omega) (by omega) (by omega);rw [<-ha] at this;omega
 ·rintro ⟨o,n⟩ st' ⟨rfl,rfl,e,sg⟩;dsimp only at e;rw [show max 1 nrem=nrem by omega] at e sg;subst e;exact ⟨rfl,rfl,h1,Nb _,sg,.inl rfl⟩
 ·rintro ⟨o,n⟩ st' ⟨rfl,rfl,n1,n2,sg,hd⟩;dsimp only at n1 n2 sg hd ⊢;by_cases c:n=nrem
  ·rw [if_pos (by simp [c])];exact Np (qs n n1 n2 sg)
  rw [if_neg (by simp [c])];have hd:ra rk arr (lo + n) < ra rk arr (lo + n - 1):=hd.resolve_left c;by_cases n0:n > 1
  ·rw [if_pos n0];refine Nh (nu O hk T (by omega) (by omega) ?_);rw [<-ha,decide_eq_true (sg lo (lo + n - 1) (Nb _) (by omega) (by omega))];exact Np (qs n n1 n2 sg)
  rw [if_neg n0];have n01:n=1:=by omega
  subst n01;refine Nh (T7 (Py ⟨rfl,?_⟩));refine Nh (Qn (Ou (λt c st''=>st''=st'/\c.1=none/\c.2.1=t/\c.2.2=0/\∀i j,lo<=i->i < j->j < lo + t->ra rk arr j < ra rk arr i) (Q:=λc st''=>st''=st'/\c.1=none/\2<=c.2.1/\c.2.1<=nrem/\c.2.2=0/\∀i j,lo<=i->i < j->j < lo + c.2.1->ra rk arr j < ra rk arr i) ?_ ?_ ⟨rfl,rfl,rfl,rfl,λi j a1 a2 a3=>?_⟩) ?_)
  ·rintro t ⟨o,n,ne⟩ st'' ht hn ⟨rfl,rfl,e,e2,ds⟩;dsimp only at e e2;subst e;subst e2;dsimp only at ds ⊢;refine Nh (nu O hk T (by omega) (by omega) ?_);rw [<-ha];by_cases c:ra rk arr (lo + n) < ra rk arr (lo + n - 1)
   ·rw [decide_eq_true c];dsimp only;rw [if_pos rfl,if_neg (by decide)];refine Np ⟨rfl,rfl,rfl,rfl,λi j a1 a2 a3=>?_⟩;by_cases d:j=lo + n
    ·subst d;by_cases d2:i=lo + n - 1
     ·subst d2;exact c
     ·exact Pb c (ds i (lo + n - 1) a1 (by omega) (by omega))
    ·exact ds i j a1 a2 (by omega)
   ·rw [decide_eq_false c];dsimp only;rw [if_neg (by decide)];refine Nh (nu O hk T (by omega) (by omega) ?_);have:=T.d (lo + n) (lo + n - 1) (by omega) (by omega) (by omega);rw [<-ha] at this ⊢;rw [decide_eq_true (by omega)];exact Np ⟨rfl,rfl,ht,by dsimp only;omega,rfl,ds⟩
  ·rintro ⟨o,n,ne⟩ st'' ⟨rfl,rfl,e,rfl,ds⟩;dsimp only at e ds;rw [show max (1 + 1) nrem=nrem by omega] at e ds;subst e;exact ⟨rfl,rfl,by dsimp only;omega,Nb _,rfl,ds⟩
  ·have:i=lo:=by omega
   have:j=lo + 1:=by omega
   subst this;rw [‹i=lo›];exact hd
  ·rintro ⟨o,n,ne⟩ st'' ⟨rfl,rfl,m1,m2,rfl,ds⟩;dsimp only at m1 m2 ds ⊢;rw [if_neg (by decide)];obtain ⟨arr2,Ls⟩:∃arr2,arr2=mirror arr lo (lo + n) ((lo + n - lo) / 2):=⟨_,rfl⟩;have g2:∀k,arr2[k]?=if lo<=k/\k < lo + n then arr[lo + (lo + n) - 1 - k]? else arr[k]?:=λk=>by rw [Ls];exact U7 (by rw [ha];omega) k
   have r2:∀k,lo<=k->k < lo + n->ra rk arr2 k=ra rk arr (lo + (lo + n) - 1 - k):=λk a1 a2=>k7 (by rw [g2,if_pos ⟨a1,a2⟩]);have r2':∀k,lo + n<=k->ra rk arr2 k=ra rk arr k:=λk a1=>k7 (by rw [g2,if_neg (by omega)]);have p2:arr2.Perm (Pq st''):=by rw [Ls,<-ha];exact mirror_perm _ _ _ _
   have s2:arr2.size=(Pq st'').size:=by rw [Ls,mirror_size,ha]
   have f2:∀m,n<=m->∀i,i < lo\/lo + m<=i->arr2[i]?=(Pq st'')[i]?:=λm hm i hi=>by rw [g2,if_neg (by omega),ha]
   have sg2:Seg rk arr2 lo (lo + n):=λi j a1 a2 a3=>by rw [r2 i a1 (by omega),r2 j (by omega) a3];exact ds _ _ (by omega) (by omega) (by omega)
   have T2:oX its rk arr2:=ie T p2;refine Nh (wpS_reverse ?_);rw [<-ha,<-Ls];refine Nh (Qn (Ou (λt c st3=>st3=RX st'' arr2/\c.1=none/\c.2=t/\Seg rk arr2 lo (lo + t)) (Q:=λc st3=>st3=RX st'' arr2/\c.1=none/\n<=c.2/\c.2<=nrem/\Seg rk arr2 lo (lo + c.2)) ?_ ?_ ⟨rfl,rfl,rfl,sg2⟩) ?_)
   ·rintro t ⟨o,m⟩ st3 ht hm ⟨rfl,rfl,e,sg3⟩;dsimp only at e;subst e;dsimp only;refine Nh (nu (st:=RX st'' arr2) O hk T2 (show _ < arr2.size by omega) (show _ < arr2.size by omega) ?_);by_cases c:ra rk arr2 (lo + m) < ra rk arr2 (lo + m - 1)
    ·rw [show decide (ra rk (Pq (RX st'' arr2)) (lo + m) < ra rk (Pq (RX st'' arr2)) (lo + m - 1))=true from decide_eq_true c];exact Np ⟨rfl,rfl,ht,by dsimp only;omega,sg3⟩
    ·rw [show decide (ra rk (Pq (RX st'' arr2)) (lo + m) < ra rk (Pq (RX st'' arr2)) (lo + m - 1))=false from decide_eq_false c];refine Np ⟨rfl,rfl,rfl,sg3.more (by omega) ?_⟩;have:=T2.d (lo + m) (lo + m - 1) (by omega) (by omega) (by omega);omega
   ·rintro ⟨o,m⟩ st3 ⟨rfl,rfl,e,sg3⟩;dsimp only at e;rw [show max n nrem=nrem by omega] at e sg3;subst e;exact ⟨rfl,rfl,m2,Nb _,sg3⟩
   ·rintro ⟨o,m⟩ st3 ⟨rfl,rfl,b1,b2,sg3⟩;exact Np (q m arr2 (by dsimp only at b1;omega) b2 p2 sg3 (f2 m b1))
theorem zL (O:lT prog w A E s κ its rk){st:OR}{lo n ok:Nat}{Q:Bool->OR->Prop}(hk:kindOf st=κ) (T:oX its rk (Pq st)) (h1:1<=ok) (h2:ok<=n) (h3:lo + n<=(Pq st).size) (sg:Seg rk (Pq st) lo (lo + ok))
  (q:∀arr',arr'.Perm (Pq st)->Seg rk arr' lo (lo + n)->(∀i,i < lo\/lo + n<=i->arr'[i]?=(Pq st)[i]?)->Q true (RX st arr')):wpS (Nq prog w) A E s (binarySort' lo n ok) Q st:=by
 rw [binarySort'_eq];refine Nh (Qn (Ou (λt c st'=>c.1=none/\∃arr',st'=RX st arr'/\arr'.Perm (Pq st)/\Seg rk arr' lo (lo + t)/\∀i,i < lo\/lo + n<=i->arr'[i]?=(Pq st)[i]?) (Q:=λc st'=>c.1=none/\∃arr',st'=RX st arr'/\arr'.Perm (Pq st)/\Seg rk arr' lo (lo + n)/\∀i,i < lo\/lo + n<=i->arr'[i]?=(Pq st)[i]?) ?_ ?_ ⟨rfl,Pq st,rfl,Ws _,by rw [show max ok 1=ok by omega];exact sg,λ_ _=>rfl⟩) ?_)
 ·rintro k ⟨o,⟨⟩⟩ st' hk1 hk2 ⟨e,arr,rfl,p,sg,fr⟩;dsimp only at e;subst e;have sz:arr.size=(Pq st).size:=p.size_eq;have T':=ie T p;have k1:1<=k:=by omega
  refine Nh (Qn (Ou (λt c st2=>st2=RX st arr/\c.1=none/\c.2.1<=c.2.2/\c.2.2<=k/\(∀i,i < c.2.1->ra rk arr (lo + i) < ra rk arr (lo + k))/\(∀i,c.2.2<=i->i < k->ra rk arr (lo + k) < ra rk arr (lo + i))/\c.2.2 - c.2.1 + t<=k) (Q:=λc st2=>st2=RX st arr/\c.1=none/\c.2.1<=k/\(∀i,i < c.2.1->ra rk arr (lo + i) < ra rk arr (lo + k))/\∀i,c.2.1<=i->i < k->ra rk arr (lo + k) < ra rk arr (lo + i)) ?_ ?_ ⟨rfl,rfl,Ny _,Nb _,λi h=>absurd h (Om _),λi a b=>by dsimp only at a;omega,by dsimp only;omega⟩) ?_)
  ·rintro t ⟨o,l,r⟩ st2 _ ht ⟨rfl,rfl,a1,a2,a3,a4,a5⟩;dsimp only at a1 a2 a3 a4 a5 ⊢;by_cases c:l ≥ r
   ·rw [if_pos c];exact Np ⟨rfl,rfl,by dsimp only;omega,a3,λi b1 b2=>a4 i (by dsimp only at b1;omega) b2⟩
   rw [if_neg c];refine Nh (nu (st:=RX st arr) O hk T' (show _ < arr.size by omega) (show _ < arr.size by omega) ?_);by_cases m:ra rk arr (lo + k) < ra rk arr (lo + (l + r) / 2)
   ·rw [show decide (ra rk (Pq (RX st arr)) (lo + k) < ra rk (Pq (RX st arr)) (lo + (l + r) / 2))=true from decide_eq_true m];refine Np ⟨rfl,rfl,by dsimp only;omega,by dsimp only;omega,a3,λi b1 b2=>?_,by dsimp only;omega⟩;dsimp only at b1;by_cases e:i=(l + r) / 2
    ·rw [e];exact m
    ·exact Pb m (sg _ _ (by omega) (by omega) (by omega))
   ·rw [show decide (ra rk (Pq (RX st arr)) (lo + k) < ra rk (Pq (RX st arr)) (lo + (l + r) / 2))=false from decide_eq_false m];have m':ra rk arr (lo + (l + r) / 2) < ra rk arr (lo + k):=by have:=T'.d (lo + k) (lo + (l + r) / 2) (by omega) (by omega) (by omega);omega
    refine Np ⟨rfl,rfl,by dsimp only;omega,a2,λi b1=>?_,a4,by dsimp only;omega⟩;dsimp only at b1;by_cases e:i=(l + r) / 2
    ·rw [e];exact m'
    ·exact Pb (sg _ _ (by omega) (by omega) (by omega)) m'
  ·rintro ⟨o,l,r⟩ st2 ⟨rfl,rfl,a1,a2,a3,a4,a5⟩;dsimp only at a1 a2 a3 a4 a5;exact ⟨rfl,rfl,by dsimp only;omega,a3,λi b1 b2=>a4 i (by dsimp only at b1;omega) b2⟩
  ·rintro ⟨o,l,r⟩ st2 ⟨rfl,rfl,a1,a3,a4⟩;dsimp only at a1 a3 a4 ⊢;rw [moveDown'_eq];obtain ⟨arr2,Ls⟩:∃arr2,arr2=bubble arr (lo + k) (lo + k - (lo + l)):=⟨_,rfl⟩;have g2:∀i,arr2[i]?=if i=lo + l then arr[lo + k]? else if lo + l < i/\i<=lo + k then arr[i - 1]? else arr[i]?:=λi=>by rw [Ls,Wx (by omega) _ (by omega),show lo + k - (lo + k - (lo + l))=lo + l by omega]
   refine Nh (Qu (Np ⟨rfl,arr2,by rw [Ls],?_,λi j b1 b2 b3=>?_,λi hi=>?_⟩))
   ·rw [Ls];exact (bubble_perm _ _ _).trans p
   ·have r1:∀x,x=lo + l->ra rk arr2 x=ra rk arr (lo + k):=λx h=>k7 (by rw [g2,if_pos h]);have r2:∀x,lo + l < x->x<=lo + k->ra rk arr2 x=ra rk arr (x - 1):=λx h h'=>k7 (by rw [g2,if_neg (by omega),if_pos ⟨h,h'⟩]);have r3:∀x,x < lo + l->ra rk arr2 x=ra rk arr x:=λx h=>k7 (by rw [g2,if_neg (by omega),if_neg (by omega)]);rcases Qi j (lo + l) with c | c | c
    ·rw [r3 i (by omega),r3 j c];exact sg i j b1 b2 (by omega)
    ·rw [r3 i (by omega),r1 j c];have:=a3 (i - lo) (by omega)
     rwa [show lo + (i - lo)=i by omega] at this
    ·rw [r2 j c (by omega)];rcases Qi i (lo + l) with d | d | d
     ·rw [r3 i d];exact sg i (j - 1) b1 (by omega) (by omega)
     ·rw [r1 i d];have:=a4 (j - 1 - lo) (by omega) (by omega)
      rwa [show lo + (j - 1 - lo)=j - 1 by omega] at this
     ·rw [r2 i d (by omega)];exact sg (i - 1) (j - 1) (by omega) (by omega) (by omega)
   ·rw [g2,if_neg (by omega),if_neg (by omega)];exact fr i hi
 ·rintro ⟨o,⟨⟩⟩ st' ⟨e,arr,e1,p,sg,fr⟩;rw [show max (max ok 1) n=n by omega] at sg;exact ⟨e,arr,e1,p,sg,fr⟩
 ·rintro ⟨o,⟨⟩⟩ st' ⟨e,arr,rfl,p,sg,fr⟩;dsimp only at e;subst e;exact Np (q arr p sg fr)
end
section
variable {its:NN->Prop}{rk:NN->Nat}{arr:Array NN}
theorem DO {i:Nat}(h:i < arr.toList.length):ra rk arr i=rk arr.toList[i]:=by unfold ra;rw [<-N3,Nc h];rfl
theorem za {lo hi:Nat}(h:Seg rk arr lo hi):((arr.toList.take hi).drop lo).Pairwise λx y=>rk x < rk y:=by refine Ob.mpr λi j h1 h2 hij=>?_;simp only [O5,N7] at h1 h2;rw [Pc,Pc,PK,PK,<-DO (rk:=rk) (arr:=arr),<-DO (rk:=rk) (arr:=arr)];exact h _ _ (by omega) (by omega) (by omega)
theorem Seg.of {arr':Array NN}{lo hi:Nat}(h:Seg rk arr lo hi) (f:∀i,i < hi->arr'[i]?=arr[i]?):Seg rk arr' lo hi:=λi j h1 h2 h3=>by rw [k7 (f i (by omega)),k7 (f j h3)];exact h i j h1 h2 h3
end
section
variable {prog:Nt}{w:NS}{A:NK}{E:M4->M5->Prop}{s:M5}{κ:PX}{its:NN->Prop}{rk:NN->Nat}
theorem FJ {α:Type}{c:Prop} [Decidable c] {m1 m2:SM α}{Q:α->OR->Prop}{st:OR}(h:¬c) (k:wpS (Nq prog w) A E s m2 Q st):wpS (Nq prog w) A E s (if c then m1 else m2) Q st:=by rw [if_neg h];exact k
theorem A_ (O:lT prog w A E s κ its rk){st:OR}{lo:Nat}{f:Option Nat->SM (ForInStep (Option Unit×Nat))}{Q:ForInStep (Option Unit×Nat)->OR->Prop}(hk:kindOf st=κ) (T:oX its rk (Pq st)) (hs:(Pq st).size=64) (hl:lo=0\/32<=lo) (h64:lo < 64)
  (hf:∀(m:Nat) (arr1:Array NN),1<=m->m<=64 - lo->arr1.Perm (Pq st)->Seg rk arr1 lo (lo + m)->(∀i,i < lo\/lo + m<=i->arr1[i]?=(Pq st)[i]?)->wpS (Nq prog w) A E s (f (some m)) Q (RX st arr1)):wpS (Nq prog w) A E s (countRun' lo (64 - lo) >>= f) Q st:=
 Nh (Ga O hk T (by omega) (by omega) hf)
theorem Im:minRun' 64 64 0=32:=by decide +kernel
theorem HH (O:lT prog w A E s κ its rk){arr:Array NN}{mg:Nat}{Q:Unit->OR->Prop}(hs:arr.size=64) (T:oX its rk arr) (q:∀st',Sj st'=none->(Pq st').toList.Perm arr.toList->(Pq st').toList.Pairwise (λx y=>rk x < rk y)->Q () st'):wpS (Nq prog w) A E s sortRuns' Q (OZ κ arr #[] mg none):=by
 rw [sortRuns'_eq];refine Nh (Rw ?_);show wpS _ _ _ _ (forIn [:arr.size] _ _ >>= _) _ _;rw [hs,Im];refine Nh (Qn (Ou (λt c st'=>c.1=none/\((t=0/\c.2=0/\st'=OZ κ arr #[] mg none)\/(t=1/\∃arr' n1 p1,c.2=n1/\32<=n1/\n1<=64/\arr'.Perm arr/\Seg rk arr' 0 n1/\st'=OZ κ arr' #[(0,n1,p1)] mg none)\/(t=2/\c.2=64/\∃arr' n1 p1,32<=n1/\n1 < 64/\arr'.Perm arr/\Seg rk arr' 0 n1/\Seg rk arr' n1 64/\st'=OZ κ arr' #[(0,n1,p1),(n1,64 - n1,0)] mg none)))
  (Q:=λc st'=>c.1=none/\((∃arr' p1,arr'.Perm arr/\Seg rk arr' 0 64/\st'=OZ κ arr' #[(0,64,p1)] mg none)\/∃arr' n1 p1,32<=n1/\n1 < 64/\arr'.Perm arr/\Seg rk arr' 0 n1/\Seg rk arr' n1 64/\st'=OZ κ arr' #[(0,n1,p1),(n1,64 - n1,0)] mg none)) ?_ ?_ ⟨rfl,.inl ⟨rfl,rfl,rfl⟩⟩) ?_)
 ·rintro t ⟨o,lo⟩ st' _ ht ⟨e,h⟩;dsimp only at e h ⊢;subst e;rcases h with ⟨rfl,rfl,rfl⟩ | ⟨rfl,arr',n1,p1,e2,a1,a2,p,sg,rfl⟩ | ⟨rfl,rfl,h⟩
  ·rw [if_neg (by decide)];refine A_ O rfl T hs (.inl rfl) (by decide) λm arr1 m1 m2 p sg fr=>?_;dsimp only;by_cases c:m < 32
   ·rw [if_pos c];refine Nh (T7 (Py ⟨rfl,Nh (zL O rfl (ie T p) m1 (show m<=min (64 - 0) 32 by omega) (show 0 + min (64 - 0) 32<=arr1.size by rw [p.size_eq,hs];decide) sg λarr2 p2 sg2 fr2=>?_)⟩));exact Nh (Rw (Nh (Qu (Np ⟨rfl,.inr (.inl ⟨rfl,arr2,32,0,rfl,by decide,by decide,p2.trans p,sg2,rfl⟩)⟩))))
   ·rw [if_neg c];exact Nh (Rw (Nh (Qu (Np ⟨rfl,.inr (.inl ⟨rfl,arr1,m,0,by dsimp only;omega,by omega,by omega,p,by rw [RA] at sg;exact sg,rfl⟩)⟩))))
  ·have e3:=e2.symm;subst e3;by_cases c64:n1 ≥ 64
   ·rw [if_pos c64];have e:n1=64:=by omega
    subst e;exact Np ⟨rfl,.inl ⟨arr',p1,p,sg,rfl⟩⟩
   rw [if_neg c64];have T':=ie T p;have s':arr'.size=64:=p.size_eq.trans hs;refine A_ (st:=OZ κ arr' #[(0,n1,p1)] mg none) O rfl T' s' (.inr a1) (by omega) λm arr1 m1 m2 pp sg1 fr=>?_;dsimp only;by_cases c:m < 32
   ·rw [if_pos c];refine Nh (T7 (Py ⟨rfl,Nh (zL O rfl (ie T' pp) m1 (show m<=min (64 - n1) 32 by omega) (show n1 + min (64 - n1) 32<=arr1.size by rw [pp.size_eq];show _<=arr'.size;omega) sg1 λarr2 p2 sg2 fr2=>?_)⟩));refine Nh (Rw (Nh (Qn (Ou (λt c st2=>c=(none,())/\st2=OZ κ arr2 #[(0,n1,p1)] mg none) (Q:=λc st2=>c=(none,())/\st2=OZ κ arr2 #[(0,n1,p1)] mg none) ?_ (λ_ _ h=>h) ⟨rfl,rfl⟩) ?_)))
    ·rintro t2 _ _ _ _ ⟨rfl,rfl⟩;exact Nh (Rw (Np ⟨rfl,rfl⟩))
    ·rintro _ _ ⟨rfl,rfl⟩;refine Nh (Qu (Nh (Qu (Np ⟨rfl,.inr (.inr ⟨rfl,by dsimp only;omega,arr2,n1,power' 64 (2 * 0 + n1) (2 * 0 + n1 + n1 + min (64 - n1) 32) 64,a1,by omega,p2.trans (pp.trans p),sg.of λi hi=>(fr2 i (.inl hi)).trans (fr i (.inl hi)),(by rw [show n1 + min (64 - n1) 32=64 by omega] at sg2;exact sg2),?_⟩)⟩))));rw [show min (64 - n1) 32=64 - n1 by omega];rfl
   ·rw [if_neg c];refine Nh (Rw (Nh (Qn (Ou (λt c st2=>c=(none,())/\st2=OZ κ arr1 #[(0,n1,p1)] mg none) (Q:=λc st2=>c=(none,())/\st2=OZ κ arr1 #[(0,n1,p1)] mg none) ?_ (λ_ _ h=>h) ⟨rfl,rfl⟩) ?_)))
    ·rintro t2 _ _ _ _ ⟨rfl,rfl⟩;exact Nh (Rw (Np ⟨rfl,rfl⟩))
    ·rintro _ _ ⟨rfl,rfl⟩;refine Nh (Qu (Nh (Qu (Np ⟨rfl,.inr (.inr ⟨rfl,by dsimp only;omega,arr1,n1,power' 64 (2 * 0 + n1) (2 * 0 + n1 + n1 + m) 64,a1,by omega,pp.trans p,sg.of λi hi=>fr i (.inl hi),(by rw [show n1 + m=64 by omega] at sg1;exact sg1),?_⟩)⟩))));rw [show m=64 - n1 by omega];rfl
  ·rw [if_pos (by decide)];exact Np ⟨rfl,.inr h⟩
 ·rintro c st' ⟨_,⟨h,_⟩ | ⟨h,_⟩ | ⟨h,_⟩⟩
  ·exact absurd h (by decide)
  ·exact absurd h (by decide)
  ·exact absurd h (by decide)
 ·rintro ⟨o,lo⟩ st' ⟨e,h⟩;dsimp only at e;subst e;refine Nh (Qn (Ou (λt c st2=>c=(none,())/\((t=0/\∃arr' n1 p1,32<=n1/\n1 < 64/\arr'.Perm arr/\Seg rk arr' 0 n1/\Seg rk arr' n1 64/\st2=OZ κ arr' #[(0,n1,p1),(n1,64 - n1,0)] mg none)\/(Sj st2=none/\(TN st2).size<=1/\(Pq st2).toList.Perm arr.toList/\(Pq st2).toList.Pairwise λx y=>rk x < rk y))) (Q:=λc st2=>c=(none,())/\Sj st2=none/\(Pq st2).toList.Perm arr.toList/\(Pq st2).toList.Pairwise λx y=>rk x < rk y) ?_ ?_ ⟨rfl,?_⟩) ?_)
  ·rintro t _ st2 _ _ ⟨rfl,h⟩;rcases h with ⟨_,arr',n1,p1,a1,a2,p,sg1,sg2,rfl⟩ | ⟨f1,f2,f3,f4⟩
   ·have s':arr'.size=64:=p.size_eq.trans hs;have T':=ie T p;have e0:arr'.toList=arr'.toList.take n1++arr'.toList.drop n1:=(N5 _ _).symm;refine Nh (Rw (FJ (by show ¬2<=1;decide) ?_));refine Nh (GK (n1:=n1) (n2:=64 - n1) (p1:=p1) (p2:=0) (mg:=mg) O T'.i (by omega) (by omega) (by omega) (by have:=za sg1;rwa [QX] at this) (by
      have:=za sg2
      rwa [Px (by rw [M_];omega)] at this) (λx hx y hy e=>?_) λst3 k1 k2 k3 k4 k5=>?_)
    ·have nd:=(pV.mp T').2;rw [e0,NW] at nd;exact (Tz.mp nd).2.2 _ (M9.mpr ⟨x,hx,rfl⟩) _ (M9.mpr ⟨y,hy,rfl⟩) e
    ·exact Np ⟨rfl,.inr ⟨k2,k3,k5.trans p.toList,k4⟩⟩
   ·refine Nh (Rw ?_);dsimp only;rw [if_pos f2];exact Np ⟨rfl,f1,f3,f4⟩
  ·rintro c st2 ⟨e,⟨h,_⟩ | ⟨f1,f2,f3,f4⟩⟩
   ·exact absurd h (by decide)
   ·exact ⟨e,f1,f3,f4⟩
  ·rcases h with ⟨arr',p1,p,sg,rfl⟩ | h
   ·refine .inr ⟨rfl,by show 1<=1;decide,p.toList,?_⟩;have:=za sg
    rwa [QX,Px (by rw [M_,p.size_eq,hs];decide)] at this
   ·exact .inl ⟨rfl,h⟩
  ·rintro _ st2 ⟨rfl,f1,f2,f3⟩;exact Np (q st2 f1 f2 f3)
end
end S6
namespace S6
open PySem PySem.Spec PyProof.Rows L2 DL
open PySem.W (kas_ask)
noncomputable def iK:D->Nat
 | .tup [.int a,.int b]=>1000 * a.toNat + b.toNat
 | _=>0
noncomputable def mw:D->Bool
 | .tup [.int a,.int b]=>decide (0<=a) && (decide (a < 1000) && (decide (0<=b) && decide (b < 1000)))
 | _=>false
noncomputable def fK (ds:List D):Bool:=decide (ds.length=64) && (ds.all mw && decide ((ds.map iK).Nodup))
theorem iA {d:D}(h:mw d=true):∃a b:Nat,d=.tup [.int a,.int b]/\a < 1000/\b < 1000/\iK d=1000 * a + b:=by
 unfold mw at h;split at h
 ·rename_i a b;simp only [M8,decide_eq_true_eq] at h;obtain ⟨h1,h2,h3,h4⟩:=h;obtain ⟨a',rfl⟩:=RQ h1;obtain ⟨b',rfl⟩:=RQ h3;exact ⟨a',b',rfl,by omega,by omega,rfl⟩
 ·cases h
theorem vc {x y:D}(hx:mw x=true) (hy:mw y=true):dh x y=some (decide (iK x < iK y)):=by
 obtain ⟨a,b,rfl,h1,h2,e1⟩:=iA hx;obtain ⟨c,d,rfl,h3,h4,e2⟩:=iA hy;rw [e1,e2];show (if aV (.int (a:Int)) (.int (c:Int))=true then (if aV (.int (b:Int)) (.int (d:Int))=true then some false else some (decide ((b:Int) < d))) else some (decide ((a:Int) < c)))=_;have eqi:∀i j:Int,(aV (.int i) (.int j)=true)↔i=j:=λi j=>by unfold aV;simp
 by_cases q1:(a:Int)=c
 ·rw [if_pos ((eqi _ _).mpr q1)];by_cases q2:(b:Int)=d
  ·rw [if_pos ((eqi _ _).mpr q2),decide_eq_false (by omega)]
  ·rw [if_neg λh=>q2 ((eqi _ _).mp h)];congr 1;rw [O4,decide_eq_true_eq,decide_eq_true_eq];omega
 ·rw [if_neg λh=>q1 ((eqi _ _).mp h)];congr 1;rw [O4,decide_eq_true_eq,decide_eq_true_eq];omega
theorem E4 {x y:D}(hx:mw x=true) (hy:mw y=true) (h:iK x=iK y):x=y:=by
 obtain ⟨a,b,rfl,h1,h2,e1⟩:=iA hx;obtain ⟨c,d,rfl,h3,h4,e2⟩:=iA hy;rw [e1,e2] at h;have:a=c:=by omega
 have:b=d:=by omega
 subst a;subst b;rfl
noncomputable def qd (h:OQ) (x:NN):Nat:=match x.1 with
 | .ref a=>(match h.get? a with
  | some o=>(match o.data with
   | .seq its _=>(match its.toList with
    | [.int i _,.int j _]=>1000 * i.toNat + j.toNat
    | _=>0)
   | _=>0)
  | none=>0)
 | _=>0
theorem HC {K:M1}{J:Hp}{s:M5}(F:HF K J s){d:D}{v:V}{u z:M4}(hp:mw d=true) (r:Rep K J d v) (rv:RelV v u):qd s.heap (u,z)=iK d:=by
 obtain ⟨a,b,rfl,_,_,e⟩:=iA hp;cases r with
 | tup h hs=>
  cases rv;obtain ⟨its,vl,o,ho,hc,n,hd⟩:=F.t _ _ h;cases hs with
  | cons r1 hs=>
   cases hs with
   | cons r2 hs=>
    cases hs;cases r1;cases r2;cases vl with
    | cons v1 vl=>
     cases vl with
     | cons v2 vl=>
      cases vl;obtain ⟨t1,rfl⟩:=v1;obtain ⟨t2,rfl⟩:=v2;unfold qd;simp only;rw [ho];simp only;rw [hd];rfl
theorem Cu {α β:Type}{f:α->β}{l l':List β}(h:l.Perm l'):∀m:List α,l=m.map f->∃m':List α,m'.Perm m/\l'=m'.map f:=by
 induction h with
 | nil=>exact λm e=>⟨m,U1 _,e⟩
 | cons x _ ih=>
  intro m e;cases m with
  | nil=>cases e
  | cons y m=>
   cases e;obtain ⟨m',p,e⟩:=ih m rfl;exact ⟨y::m',p.cons y,by rw [e];rfl⟩
 | swap x y l=>
  intro m e
  match m,e with
  | a::b::m,e=>
   cases e;exact ⟨b::a::m,YU _ _ _,rfl⟩
 | trans _ _ ih1 ih2=>
  intro m e;obtain ⟨m1,p1,e1⟩:=ih1 m e;obtain ⟨m2,p2,e2⟩:=ih2 m1 e1;exact ⟨m2,p2.trans p1,e2⟩
section
variable {prog:Nt}{w:NS}{A:NK}{E:M4->M5->Prop}{s:M5}
theorem Il {κ:PX}{x y:NN}{b:Bool}{Q:Option Bool->OR->Prop}{st:OR}(hk:kindOf st=κ) (h:∀C:Bool->M5->Prop,C b s->Nm (Nq prog w) A (keyLt' κ x.1 y.1) C (λ_ _=>False) s) (q:Q (some b) st):wpS (Nq prog w) A E s (lt' x y) Q st:=by rw [lt'_eq];refine Nh (Rw (Nh (T7 (Rb ?_))));rw [hk];exact Od (h (λb' s'=>b'=b/\s'=s) ⟨rfl,rfl⟩) (λb' s' ⟨e1,e2⟩=>⟨e2,by rw [e1];exact Np q⟩) λ_ _ f=>f.elim
noncomputable abbrev twice (vs:List M4) (i:Nat):NN:=(vs.getD i Oc,vs.getD i Oc)
theorem m_ (vs:List M4):(vs.toArray.zip vs.toArray).toList=(Ng vs.length).map (twice vs):=by rw [Array.toList_zip];refine P8 (by simp) λi h1 h2=>?_;simp at h1 h2;simp [twice,h1]
theorem wc {a:Nu}{vs:List M4}{n:Nat}{κ:PX}{rk:NN->Nat}{P:XQ->M5->Prop}(ho:s.heap.get? a=some (P1 "list" vs.toArray n)) (h64:vs.length=64) (nd:((Ng vs.length).map λi=>rk (twice vs i)).Nodup)
  (hk:∀h' C,(∀b o,b≠a->s.heap.get? b=some o->h'.get? b=some o)->C κ {s with heap:=h'}->Nm (Nq prog w) A (Xv vs.toArray) C (λ_ _=>False) {s with heap:=h'})
  (hc:∀h',(∀b o,b≠a->s.heap.get? b=some o->h'.get? b=some o)->∀i j C,i < vs.length->j < vs.length->C (decide (rk (twice vs i) < rk (twice vs j))) {s with heap:=h'}->kas_ask prog w A κ vs i j C {s with heap:=h'})
  (h:∀ix:List Nat,ix.Perm (Ng vs.length)->ix.Pairwise (λi j=>rk (twice vs i) < rk (twice vs j))->P (.done (.ret .none)) {s with heap:=VO s.heap a vs (ix.map λi=>vs.getD i Oc).toArray}):Nm (Nq prog w) A (RI.«list.sort» ⟨[.ref a],[]⟩) P E s:=by
 have la:a < s.heap.objs.size:=Nk ho;have sl:vs.length<=sizeLine:=by rw [OG];omega
 obtain ⟨e1,g1⟩:∃e1,(s.heap.update a (Po λ_=>(#[]:Array M4))).get? a=some (P1 "list" #[] e1):=⟨_,(UC ho λ_=>#[])⟩;have g3:(((s.heap.update a (Po λ_=>(#[]:Array M4))).push (P1 "tuple" vs.toArray 0)).push (P1 "list" #[] 0)).get? a=some (P1 "list" #[] e1):=(M6 _ ((M6 _ g1)));have kp:∀b o,b≠a->s.heap.get? b=some o->(((s.heap.update a (Po λ_=>(#[]:Array M4))).push (P1 "tuple" vs.toArray 0)).push (P1 "list" #[] 0)).get? b=some o:=λb o nb q=>
  M6 _ (M6 _ (by rw [SS _ _ _ _ nb];exact q))
 rw [UD];refine M0 ((VY ho rfl ?_));refine M0 (RO ho rfl ?_ (by rw [Ni];exact sl) (Ny _));refine M0 ((SV g1 rfl ?_));refine M0 (Tg ?_ (show vs.length<=_ from sl));refine M0 ((SE ?_ (Ny _)));refine (NU ?_);dsimp only;have n2:¬vs.toArray.size < 2:=by (rw [Ni]);omega
 rw [if_neg n2,if_neg n2];refine M0 (Od (hk _ (λk s'=>k=κ/\s'=_) kp ⟨rfl,rfl⟩) ?_ λ_ _ x=>x.elim);rintro _ _ ⟨rfl,rfl⟩;have mz:∀x∈(vs.toArray.zip vs.toArray).toList,∃i,i < vs.length/\x=twice vs i:=λx hx=>by rw [m_] at hx;obtain ⟨i,hi,e⟩:=M9.mp hx;exact ⟨i,NQ.mp hi,e.symm⟩
 refine M0 (Od (HH (its:=λx=>∃i,i < vs.length/\x=twice vs i) (rk:=rk) (Q:=λ_ st'=>Sj st'=none/\(Pq st').toList.Perm (vs.toArray.zip vs.toArray).toList/\(Pq st').toList.Pairwise λx y=>rk x < rk y) (λx y ⟨i,hi,ex⟩ ⟨j,hj,ey⟩ Q st hk q=>by
   subst ex;subst ey;exact Il hk (λC c=>hc _ kp i j C hi hj c) q) (by simp [h64]) (pV.mpr ⟨mz,by rw [m_,N4];exact nd⟩) λst' f1 f2 f3=>⟨f1,f2,f3⟩) ?_ λ_ _ e=>e)
 rintro ⟨⟨⟩,st'⟩ s' ⟨rfl,hf,hp,hu⟩;dsimp only at hf hp hu ⊢;rw [m_] at hp;obtain ⟨ix,pi,ei⟩:=Cu hp.symm (Ng vs.length) rfl;have ou:(Pq st').map (·.2)=(ix.map λi=>vs.getD i Oc).toArray:=by apply Rr.mp;rw [Array.toList_map,ei,N4];rfl
 rw [ei,OB] at hu;rw [ou];refine M0 ((SV g3 rfl ?_));refine M0 (RO g3 rfl ?_ (Ny _) (by rw [Ni,M7,pi.length_eq,Oo];omega));rw [hf];simp only [bne_self_eq_false,Nn,if_false];exact M3 (h ix pi hu)
end
end S6
namespace DL
open PySem PySem.Spec PyProof.Rows L2 S6
section
variable {prog:Nt}{w:NS}{A:NK}{E:M4->M5->Prop}{s:M5}
theorem Bd {x:M4}{Q:M4->M5->Prop}{vs:List M4}{rk:NN->Nat}(Lh:Coll prog w A.in1 s x vs) (h64:vs.length=64) (nd:((Ng vs.length).map λi=>rk (twice vs i)).Nodup) (ha:lN prog w A.in1.in1 s vs λi j=>decide (rk (twice vs i) < rk (twice vs j)))
  (h:∀(ix:List Nat) (h':OQ) tk l n,ix.Perm (Ng vs.length)->ix.Pairwise (λi j=>rk (twice vs i) < rk (twice vs j))->Kp s.heap h'->s.heap.objs.size<=l->h'.get? l=some (P1 "list" (ix.map λi=>vs.getD i Oc).toArray n)->Q (.ref l) {s with heap:=h',toks:=tk}):Nm (Nq prog w) A (call (.builtin "sorted") [x]) Q E s:=by
 have sl:vs.length<=sizeLine:=by rw [OG];omega
 refine (Th kind_sorted plain_sorted entry_sorted (args_sorted1 _) ?_);unfold RI.«sorted»;refine M0 (m:=checkCount "sorted" 1 1 _) ((M3 ?_));refine M0 (Lh _ _ λh1 tk1 k1 le1=>?_);refine M0 (SE ?_ sl);have gL:(h1.push (P1 "list" vs.toArray 0)).get? h1.objs.size=some (P1 "list" vs.toArray 0):=Nf _ rfl;have kp:∀b o,s.heap.get? b=some o->b≠h1.objs.size/\(h1.push (P1 "list" vs.toArray 0)).get? b=some o:=λb o e=>by have e1:=k1 b o e;exact ⟨NF (Nk e1),M6 _ e1⟩
 dsimp only;obtain ⟨κ,ask⟩:=ha (by omega);refine M0 (NU (Oe UY ⟨_,gL,rfl⟩ UH (wc (κ:=κ) (rk:=rk) gL h64 nd (λh' C k c=>?_) (λh' k i j C hi hj c=>?_) λix pi hu=>⟨_,rfl,?_⟩) (UZ _)))
 ·exact (ask h' tk1 λb o e=>k b o (kp b o e).1 (kp b o e).2).1 C c
 ·exact (ask h' tk1 λb o e=>k b o (kp b o e).1 (kp b o e).2).2 i j C hi hj c
 ·obtain ⟨n,hn'⟩:=Vu (out:=(ix.map λi=>vs.getD i Oc).toArray) gL;exact M3 ⟨_,rfl,h ix _ tk1 _ n pi hu (λb o e=>by
   obtain ⟨g1,g2'⟩:=kp b o e;rw [WR g1 (Nk g2')];exact g2') le1 hn'⟩
end
noncomputable def Jr:Fm:=.tc .i (.tc .i .tn)
theorem Ij {d:D}(h:mw d=true):gj Jr d:=by obtain ⟨a,b,rfl,_⟩:=iA h;exact ⟨_,rfl,_,_,rfl,⟨_,rfl⟩,⟨_,rfl,_,_,rfl,⟨_,rfl⟩,⟨_,rfl,rfl⟩⟩⟩
theorem rY (ds:List D):(Ng ds.length).map (bQ ds)=ds:=by refine P8 (by simp) λi h1 h2=>?_;simp [bQ,h2]
section
variable {X:Cx}{c:C}{e:N9}{es:List N9}{pos:Pos}
theorem Aa {MQ:List (Nu×Obj)}{s:M5}{σ:L2.St}{H J0:Hp}{Q:VK}{E:M4->M5->Prop}{x:M4}{its:List M4}{vs:List V}{ds:List D}(hu:X.A.units + 64 < PN) (I:Inv X MQ σ H s) (N:HF X.K J0 s) (col:Coll X.prog X.w X.A.in1 s x its) (rv:Vals vs its) (rs:az X.K J0 ds vs) (ok:fK ds=true)
  (q:∀l vs',H l=none->(∀J,az X.K J ds vs->az X.K J (aY ds) vs')->Q (.ref l) (upd H l (.lst vs'))):Nm (Nq X.prog X.w) X.A (call (.builtin "sorted") [x]) (EP X MQ σ Q) E s:=by
 unfold fK at ok;rw [M8,M8] at ok;obtain ⟨o1,o2,o3⟩:=ok;have o1:=of_decide_eq_true o1;have o3:=of_decide_eq_true o3;have l1:vs.length=its.length:=rv.length;have l2:ds.length=vs.length:=rs.length;have pp:∀d∈ds,mw d=true:=NC.mp o2;have rke:∀i,i < its.length->qd s.heap (twice its i)=iK (bQ ds i):=λi hi=>HC N (pp _ (dw (by omega))) (fL rs (by omega)) (fN rv (by omega));have hk':dZ .i ds=true:=g9 λd hd=>by obtain ⟨a,b,rfl,_⟩:=iA (pp d hd);rfl
 have ak:lN X.prog X.w X.A.in1.in1 s its (ltB ds):=uf N rs rv (k:=.i) (λd hd=>by
   obtain ⟨a,b,rfl,_⟩:=iA (pp d hd);exact ⟨rfl,by show 1<=60;decide⟩) hk' (λx hx y hy=>by rw [vc (pp x hx) (pp y hy)];rfl) hu
 have ak2:lN X.prog X.w X.A.in1.in1 s its λi j=>decide (qd s.heap (twice its i) < qd s.heap (twice its j)):=λh2=>by
  obtain ⟨κ,ask⟩:=ak h2;refine ⟨κ,λh' tk kp=>⟨(ask h' tk kp).1,λi j C hi hj cc=>(ask h' tk kp).2 i j C hi hj ?_⟩⟩;have cc:C (decide (qd s.heap (twice its i) < qd s.heap (twice its j))) {s with heap:=h',toks:=tk}:=cc;rw [rke i hi,rke j hj] at cc;have:ltB ds i j=decide (iK (bQ ds i) < iK (bQ ds j)):=by unfold ltB;rw [vc (pp _ (dw (by omega))) (pp _ (dw (by omega)))];rfl
  rw [this];exact cc
 have rm:(Ng its.length).map (λi=>qd s.heap (twice its i))=ds.map iK:=by rw [show ds.map iK=((Ng ds.length).map (bQ ds)).map iK by rw [rY],N4,show its.length=ds.length by omega];exact U9 λi hi=>rke i (by have:=NQ.mp hi;omega)
 refine Bd (rk:=qd s.heap) col (by omega) (by rw [rm];exact o3) ak2 λix h' tk l n pi hup kp hl hg=>?_;have ib:∀i∈ix,i < ds.length:=λi hi=>by have:=NQ.mp (pi.mem_iff.mp hi);omega
 have eS:ix.map (bQ ds)=aY ds:=by
  refine Xf (le:=λa b=>iK a<=iK b) (λa b ha hb h1 h2=>?_) ?_ ?_ ?_
  ·obtain ⟨i,hi,rfl⟩:=M9.mp ha;exact E4 (pp _ (dw (ib i hi))) (pp _ ((c_ ds).mem_iff.mp hb)) (Nat.le_antisymm h1 h2)
  ·rw [OB];refine hup.imp_of_mem fun {i j} hi hj h=>?_;rw [rke i (by have:=ib i hi;omega),rke j (by have:=ib j hj;omega)] at h;exact Qv h
  ·refine (vL (cY Jr) ds λd hd=>Ij (pp d hd)).imp_of_mem fun {x y} hx hy h=>?_;unfold c6 at h;rw [vc (pp _ ((c_ ds).mem_iff.mp hy)) (pp _ ((c_ ds).mem_iff.mp hx))] at h;have:=of_decide_eq_false h;omega
  ·have:=(pi.map (bQ ds)).trans (by rw [show its.length=ds.length by omega,rY]);exact this.trans (c_ ds).symm
 have rv':=qV rv ix λi hi=>by have:=ib i hi;omega
 exact ⟨.ref l,_,I.laid (t':=tk) kp hl (show bU X.prog X.w _ _ _ (.lst (ix.map λi=>vs.getD i V.non)) from ⟨by rw [M7,pi.length_eq,Oo,OG];omega,_,n,rv',by simpa [P1] using hg⟩),rfl,q l _ (I.hok.fresh hl) λJ rj=>by rw [<-eS];exact qT rj ix ib⟩
theorem sP (hu:X.A.units + 64 < PN):bw X (.builtin "sorted") (λxs H Q=>∃p vs ds,xs=[.ref p]/\(bN X.K H p vs\/bT X.K H p vs)/\az X.K H ds vs/\fK ds=true/\∀l vs',H l=none->(∀J,az X.K J ds vs->az X.K J (aY ds) vs')->Q (.ref l) (upd H l (.lst vs'))):=by intro MQ s σ H xs us Q I r h;obtain ⟨p,vs,ds,rfl,hq,rs,ok,q⟩:=h;obtain ⟨u,rfl,rx⟩:=vals1 r;cases rx;obtain ⟨its,rv,col⟩:=uQ I hq;exact Aa hu I (gz I) col rv rs ok q
noncomputable def jX:List R->M R
 | [r]=>gW r >>= λxs=>if nU xs=true then .ok (.l .fresh (aY xs)) else if lI xs=true then .ok (.l .fresh (aY xs)) else if fK xs=true then .ok (.l .fresh (aY xs)) else .bad
 | _=>.bad
theorem rV {p:Pos}{gs:G (List R)}(hu:X.A.units + 64 < PN) (ha:jt X c (e::es) gs) (hm:X.mg "sorted"=none) (hK:autoParam (X.K=c.K) zA._auto_1) (hg:autoParam (Gl X "sorted") zA._auto_1)
  (he:autoParam (Nl (e::es) X.env=(false,eval e X.env)::Nl es X.env) zA._auto_1) (hpl:autoParam ((Qw pos (Nl es X.env)).any (·.1)=false) zA._auto_1):QD X c (.Call (.Name "sorted" p) (e::es) [] pos) (gN jX gs):=have ha:=ha.h;⟨
 kX (r:=λxs H Q=>∃p vs ds,xs=[.ref p]/\(bN X.K H p vs\/bT X.K H p vs)/\az X.K H ds vs/\((nU ds=true\/lI ds=true)\/fK ds=true)/\∀l vs',H l=none->(∀J,az X.K J ds vs->az X.K J (aY ds) vs')->Q (.ref l) (upd H l (.lst vs'))) (λMQ s σ H xs us Q I r h=>by
   obtain ⟨p,vs,ds,e1,hq,rs,ok,q⟩:=h;rcases ok with ok | ok
   ·exact uw hu MQ s σ H xs us Q I r ⟨p,vs,ds,e1,hq,rs,ok,q⟩
   ·exact sP hu MQ s σ H xs us Q I r ⟨p,vs,ds,e1,hq,rs,ok,q⟩) (by
  intro He J H xs vs Q hp rs w;unfold jX at w;split at w
  ·obtain ⟨v,rfl,r⟩:=rs.one;obtain ⟨xs,q,w⟩:=iZ w;obtain ⟨p,vs,rfl,h1,h2⟩:=ng hp r q;rw [hK];have ow:((nU xs=true\/lI xs=true)\/fK xs=true)/\bR (M.ok (R.l .fresh (aY xs))) (λz=>∀w J' H',Ext J H J' H'->RR c H J' H' z w->Q w H') c.T:=by
    split at w
    ·rename_i ok;exact ⟨.inl (.inl ok),w⟩
    ·split at w
     ·rename_i ok;exact ⟨.inl (.inr ok),w⟩
     ·split at w
      ·rename_i ok;exact ⟨.inr ok,w⟩
      ·exact w.elim
   obtain ⟨ok,w⟩:=ow;exact ⟨p,vs,xs,rfl,h1,h2.mono hp.sub,ok,λl vs' hl rr=>w _ _ _ (Ext.new hp.sub hl _) (gU hp hl (rr _ h2))⟩
  ·exact w.elim) gQ hm ha hg (by decide) (by decide) he hpl⟩
end
end DL
namespace DL
open PySem PySem.Spec PyProof.Rows L2 ST S6
noncomputable def kW (ds:List D):Bool:=decide (ds.length<=76) && (areKeys ds && (decide (deps ds<=8) && (vh ds && (decide ((dd ds).length < 64) || fK (dd ds)))))
theorem rS {ds:List D}(h:kW ds=true):(∃k f,wI ds k f)/\((dd ds).length < 64\/fK (dd ds)=true):=by unfold kW at h;simp only [M8,P0,decide_eq_true_eq] at h;obtain ⟨h1,h2,h3,h4,h5⟩:=h;obtain ⟨k,f,h6⟩:=vj h4;exact ⟨⟨k,f,h1,h2,h3,h6⟩,h5⟩
theorem AI {ds ks:List D}(p:ks.Perm ds) (h:fK ds=true):fK ks=true:=by unfold fK at h ⊢;rw [M8,M8,decide_eq_true_eq,decide_eq_true_eq,NC] at h ⊢;exact ⟨p.length_eq.trans h.1,λd hd=>h.2.1 d (p.mem_iff.mp hd),(p.map iK).nodup_iff.mpr h.2.2⟩
section
variable {X:Cx}{c:C}{e:N9}{pos pos2:Pos}
theorem yq (hu:X.A.units + 64 < PN) (hc:X.calm=true):bw X (.builtin "sorted") (λxs H Q=>∃p ds J0,xs=[.ref p]/\H p=some (d9 X J0 p ds)/\aG J0 H/\kW ds=true/\∀l vs',H l=none->az X.K J0 (bE ds) vs'->Q (.ref l) (upd H l (.lst vs'))):=by
 intro MQ s σ H xs us Q I r h;obtain ⟨p,ds,J0,h1,hp,sm,oks,q⟩:=h;obtain ⟨ok,l | l⟩:=rS oks
 ·exact pq hu hc MQ s σ H xs us Q I r ⟨p,ds,J0,h1,hp,sm,ok,l,q⟩
 subst h1;obtain ⟨k,f,o⟩:=ok;obtain ⟨u,rfl,rx⟩:=vals1 r;cases rx;have hh:X.A.handled=none:=I.ok.hd hc;have N:HF X.K J0 s:=HF.of (c:=⟨X.K,H,H,λ_=>True⟩) I sm;obtain ⟨⟨ks,es,ep,t,S,hm⟩,_⟩:=(show bU X.prog X.w H s.heap p (d9 X J0 p ds) from I.hok p _ hp);obtain ⟨ks',pm,en'⟩:=S.en.perm (iy X.w p ep es).symm;have nd':ks'.Nodup:=pm.nodup_iff.mp S.nd;have hm':∀d,d∈ks'↔d∈ds:=λd=>by rw [<-pm.mem_iff,hm d]
 obtain ⟨vs,rs,rv⟩:=en'.reps;have hv:fS X.w p ep es=(dS X.w p ep es).toList.map (·.2):=rfl;rw [<-hv] at rv;generalize hits:fS X.w p ep es=its at rv;obtain ⟨d1,d2⟩:=kJ (cY f) ds λx hx=>(o.al x hx).2;have pd:ks'.Perm (dd ds):=(Rh nd' d1).mpr λd=>by rw [hm',d2]
 have ok:=AI pd l;have len:ks'.length=64:=by unfold fK at ok;exact of_decide_eq_true (Rk.mp ok).1
 have les:es.size=ks'.length:=by rw [<-M_,S.en.length,pm.length_eq]
 have out:=oR (cY f) (λx hx=>(o.al x hx).2) nd' hm';exact Aa hu I N (λE C h=>jN hh S.wk (by omega) λh1 tk k1 le=>hits▸h h1 tk k1 (Qv le)) rv rs ok λl vs' hl rr=>q l vs' hl (out▸rr _ rs)
noncomputable def iz:List R->M R
 | [.d (.tup ys)]=>if kW ys=true then .ok (.l .fresh (bE ys)) else if lI ys=true then .ok (.l .fresh (bE ys)) else .bad
 | _=>.bad
noncomputable def Hz (X:Cx):List V->Hp->VK->Prop:=λxs H Q=>∃p vs ds J0,xs=[.ref p]/\bT X.K H p vs/\aG J0 H/\az X.K J0 ds vs/\(∃k f,wI ds k f)/\∀l,H l=none->Q (.ref l) (upd H l (d9 X J0 l ds))
noncomputable def CI (X:Cx):List V->Hp->VK->Prop:=λxs H Q=>∃p ds J0,xs=[.ref p]/\H p=some (d9 X J0 p ds)/\aG J0 H/\kW ds=true/\∀l vs',H l=none->az X.K J0 (bE ds) vs'->Q (.ref l) (upd H l (.lst vs'))
theorem A6 {p p2:Pos}{gs:G (List R)}(hu:X.A.units + 64 < PN) (ha:jt X c [e] gs) (hm:X.mg "sorted"=none) (hm2:X.mg "set"=none) (hK:autoParam (X.K=c.K) zA._auto_1) (hc:autoParam (X.calm=true) zA._auto_1) (hg:autoParam (Gl X "sorted") zA._auto_1) (Ly:autoParam (Gl X "set") zA._auto_1)
  (he:autoParam (Nl [.Call (.Name "set" p2) [e] [] pos2] X.env=(false,eval (.Call (.Name "set" p2) [e] [] pos2) X.env)::Nl [] X.env) zA._auto_1) (hpl:autoParam ((Qw pos (Nl [] X.env)).any (·.1)=false) zA._auto_1)
  (LJ:autoParam (Nl [e] X.env=(false,eval e X.env)::Nl [] X.env) zA._auto_1) (LC:autoParam ((Qw pos2 (Nl [] X.env)).any (·.1)=false) zA._auto_1):
  QD X c (.Call (.Name "sorted" p) [.Call (.Name "set" p2) [e] [] pos2] [] pos) (gN iz gs):=by
 have h1:=iD (p:=p2) (pos:=pos2) (bw.or (show bw X (.type "set") (Hz X) from rE hu hc) (show bw X (.type "set") (Hy X) from zR hc)) Ly hm2 zO ha.h (by decide) (by decide) LJ LC;have h2:=kZ (p:=p) (pos:=pos) (bw.or (show bw X (.builtin "sorted") (CI X) from yq hu hc) (show bw X (.builtin "sorted") (CH X) from v_ hc)) hg hm gQ (fh h1 gS he) (by decide) (by decide) he hpl;refine ⟨yS (ta:=vN) (f:=iz) (r:=λvs H1 Q=>(Hz X vs H1 λv H2=>CI X [v] H2 Q\/CH X [v] H2 Q)\/(Hy X vs H1 λv H2=>CI X [v] H2 Q\/CH X [v] H2 Q)) h2 rfl ?_⟩;intro He J H xs vs Q hp rs w;unfold iz at w;split at w
 ·rename_i ys;obtain ⟨v,rfl,r⟩:=rs.one;cases r with
  | tup h hs=>
   have hT:∀{p:Nu}{us:List V},bT c.K J p us->bT X.K H p us:=λh=>by rw [hK];exact dQ hp.sub h
   have fin:∀(o:Nu->HO) (w:∀w J' H',Ext J H J' H'->RR c H J' H' (.l .fresh (bE ys)) w->Q w H') (l l2:Nu) (vs':List V),H l=none->upd H l (o l) l2=none->az X.K J (bE ys) vs'->Q (.ref l2) (upd (upd H l (o l)) l2 (.lst vs')):=λo w l l2 vs' hl h2 rr=>by rw [hK] at rr;have e1:=Ext.new hp.sub hl (o l);have e2:=Ext.new e1.sub h2 (.lst vs');exact w _ _ _ (e1.trans e2) (RR.from e1.h (gU (hp.ext e1) h2 rr))
   split at w
   ·rename_i ok;exact .inl ⟨_,_,ys,J,rfl,hT h,hp.sub,by rw [hK];exact hs,(rS ok).1,λl hl=>.inl ⟨l,ys,J,rfl,bz,(Ext.new hp.sub hl _).sub,ok,λl2 vs' h2 rr=>fin (λl=>d9 X J l ys) w l l2 vs' hl h2 rr⟩⟩
   ·split at w
    ·rename_i ok;unfold lI at ok;rw [M8] at ok;have o1:=of_decide_eq_true ok.1;have ey:=HX ok.2;refine .inr ⟨_,_,ys.map xS,J,rfl,hT h,by rw [hK,<-ey];exact hs,by rw [M7];exact o1,λl hl=>.inr ⟨l,ys.map xS,rfl,bz,by rw [M7];exact o1,λl2 vs' h2 rr=>?_⟩⟩;rw [<-ey] at rr;exact fin (λl=>k8 X l (ys.map xS)) w l l2 vs' hl h2 (rr _)
    ·exact w.elim
 ·exact w.elim
end
end DL
namespace K21
open PySem DL
noncomputable def Df:List Str:=["one","other","pairs","first","second","told"]
noncomputable def Du:G O:=(aK (yC (gN (bf 2 K23.gI) (ao (af 0) (ao (af 1) aF))))
 (aK (aZ 3 (gN (bf 1 K23.lO) (ao (af 0) aF)))
 (aK (aZ 4 (gN (bf 1 K23.lO) (ao (af 1) aF)))
 (aK (aZ 5 (gN (bf 1 K23.iT) (ao (af 2) aF)))
 (cg (gN qF (ao (Aj 2 [5,3,4] (ic (af 5)) (aE 0) fH (yD (af 2)) (aE 1) fH (gN (bf 4 K23.oV) (ao (af 3) (ao (af 4) (ao (af 0) (ao (af 1) aF)))))) aF)))))))
noncomputable def jq (as:List S):M R:=fin (Du (bA Df as))
noncomputable def lR:List Str:=["_law_world_here","_law_order_here","_law_marks","_law_arrows"]
noncomputable def l_:G O:=(aK (aZ 2 (cK 2 [1] (ic (g2 bg (af 0) (gC (.int 1)))) (cV 2 (aW (aE 0) (aW (aE 1) cX))) fH (bJ (aA (af 0) (aA (gN b_ (ao (gN jX (ao (cK 1 [2] (ic (af 1)) (aE 0) fH (g2 bg (af 1) (af 0))) aF)) aF)) aX)))))
 (aK (aZ 3 (cK 2 [1] (ic (g2 bg (af 0) (gC (.int 2)))) (cV 2 (aW (aE 0) (aW (aE 1) cX))) fH (bJ (aA (af 0) (aA (gN b_ (ao (gN jX (ao (cK 2 [2] (ic (af 1)) (cV 2 (aW (aE 0) (aW (aE 1) cX))) fH (bJ (aA (g2 bg (af 2) (af 0)) (aA (g2 bg (af 2) (af 1)) aX)))) aF)) aF)) aX)))))
 (cg (bJ (aA (g2 bg (af 0) (gC (.int 0))) (aA (gN b_ (ao (af 2) aF)) (aA (gN b_ (ao (af 3) aF)) aX)))))))
noncomputable def gG (as:List S):M R:=fin (l_ (bA lR as))
noncomputable def lC:List Str:=["_law_world_here","_law_cell_here","_law_many","_law_marks","_law_arrows","_law_at","_law_thing","_law_some","_law_name","_law_had","_law_now"]
noncomputable def lF:G O:=(aK (jP (cV 3 (aW (aE 2) (aW (aE 3) (aW (aE 4) cX)))) (af 0))
 (aK (cD (cI (g2 (cG false) (g2 d8 (gN iG (ao (af 3) aF)) (gN iG (ao (af 4) aF))) (gC (.int 0)))) (cg (af 0)) fG)
 (aK (aZ 5 (g2 cM (af 1) (g2 d8 (gN iG (ao (af 3) aF)) (gN iG (ao (af 4) aF)))))
 (aK (aZ 6 (g2 cM (g2 eO (af 1) (gC (.int 6))) (af 2)))
 (aK (aZ 7 (af 3))
 (aK (cD (cI (g2 (l6 λi j=>.bl (decide (j<=i))) (af 5) (gN iG (ao (af 3) aF)))) (aK (aZ 5 (g2 Gm (af 5) (gN iG (ao (af 3) aF))))
 (aK (aZ 6 (bJ (aA (af 6) (aA (g2 cM (g2 eO (af 1) (gC (.int 48))) (af 2)) aX))))
 (aZ 7 (af 4)))) fG)
 (aK (jP (cV 2 (aW (aE 8) (aW (aE 9) cX))) (g2 bg (af 7) (af 5)))
 (aK (aZ 10 (gN b_ (ao (gN iz (ao (g2 d8 (af 9) (bJ (aA (af 6) aX))) aF)) aF)))
 (aK (cD (cI (g2 (iJ false) (af 6) (af 9))) (aZ 10 (gN b_ (ao (cK 1 [6] (ic (af 9)) (aE 0) (cI (g2 (cG true) (af 0) (af 1))) (af 0)) aF))) fG)
 (aK (aZ 7 (g2 d8 (g2 d8 (xh qG (af 7) Ak (Al (af 5))) (bJ (aA (bJ (aA (af 8) (aA (af 10) aX))) aX))) (xh qG (af 7) (Al (g2 d8 (af 5) (gC (.int 1)))) Ak)))
 (aK (cD (cI (uM "tuple" (af 6))) (cg (bJ (aA (af 2) (aA (af 3) (aA (af 7) aX))))) fG)
 (cg (bJ (aA (af 2) (aA (af 7) (aA (af 4) aX))))))))))))))))
noncomputable def dH (as:List S):M R:=fin (lF (bA lC as))
noncomputable def q9:List Str:=["_law_script","_law_sizes","_law_first","_law_second","_law_marks","_law_names_here","_law_one","_law_way","_law_other"]
noncomputable def rN:G O:=(aK (aZ 2 (gN (bf 2 K51.bx) (ao (af 0) (ao (gC (.int 0)) aF))))
 (aK (aZ 3 (gN (bf 2 K51.bx) (ao (af 0) (ao (gC (.int 1)) aF))))
 (aK (aZ 4 (gN (bf 2 K51.eX) (ao (g2 eO (af 3) (gC (.int 20))) (ao (g2 bg (gn (aA (gC (.int 1)) (aA (gC (.int 0)) (aA (gC (.int 2)) (aA (gC (.int 3)) aX))))) (g2 cM (af 3) (gC (.int 4)))) aF))))
 (aK (qI 4 (aZ 5 (bJ (aA (af 4) (aA (gN (bf 2 K51.eX) (ao (gN (bf 2 K51.bx) (ao (af 0) (ao (gC (.int 2)) aF))) (ao (g2 bg (gn (aA (gC (.int 1)) (aA (gC (.int 2)) (aA (gC (.int 0)) (aA (gC (.int 1)) (aA (gC (.int 3)) aX)))))) (g2 cM (g2 eO (af 3) (gC (.int 4))) (gC (.int 5)))) aF))) aX)))))
 (aK (aZ 6 (gN (bf 3 K51.dW) (ao (af 5) (ao (g2 bg (af 1) (g2 cM (af 2) (gC (.int 8)))) (ao (cK 1 [0] (dO (ao (gC (.int 6)) aF)) (aE 0) fH (gN (bf 2 K51.bx) (ao (af 1) (ao (g2 c7 (gC (.int 3)) (af 0)) aF)))) aF)))))
 (aK (aZ 7 (g2 cM (g2 eO (af 2) (gC (.int 8))) (gC (.int 4))))
 (aK (cD (cI (g2 (cG false) (af 7) (gC (.int 0)))) (cg (bJ (aA (af 6) (aA (gN (bf 3 K51.dW) (ao (af 5) (ao (g2 bg (af 1) (g2 cM (g2 eO (af 2) (gC (.int 32))) (gC (.int 8)))) (ao (cK 1 [0] (dO (ao (gC (.int 6)) aF)) (aE 0) fH (gN (bf 2 K51.bx) (ao (af 1) (ao (g2 c7 (gC (.int 9)) (af 0)) aF)))) aF)))) aX)))) fG)
 (aK (aZ 8 (gN (bf 2 K21.gG) (ao (af 6) (ao (gN (bf 2 K55.cT) (ao (gN (bf 2 K51.bx) (ao (af 0) (ao (gC (.int 15)) aF))) (ao (g2 bg (af 6) (gC (.int 0))) aF))) aF))))
 (aK (cD (cI (g2 (l6 λi j=>.bl (decide (j < i))) (af 7) (gC (.int 1)))) (aZ 8 (gN (bf 2 K21.dH) (ao (af 8) (ao (gN (bf 2 K51.bx) (ao (af 0) (ao (gC (.int 9)) aF))) aF)))) fG)
 (aK (cD (cI (g2 (cG false) (af 7) (gC (.int 3)))) (aZ 8 (gN (bf 2 K21.dH) (ao (af 8) (ao (gN (bf 2 K51.bx) (ao (af 0) (ao (gC (.int 10)) aF))) aF)))) fG)
 (cg (bJ (aA (af 6) (aA (af 8) aX))))))))))))))
noncomputable def gx (as:List S):M R:=fin (rN (bA q9 as))
noncomputable def Jx:List Str:=["_law_script","_law_one","_law_other","_law_pairs_here","_law_due","_law_found","_law_again"]
noncomputable def BZ:G O:=(aK (jP (cV 2 (aW (aE 1) (aW (aE 2) cX))) (gN (bf 2 K21.gx) (ao (af 0) (ao (gn (aA (gC (.int 1)) (aA (gC (.int 2)) (aA (gC (.int 3)) (aA (gC (.int 4)) (aA (gC (.int 5)) (aA (gC (.int 6)) (aA (gC (.int 7)) (aA (gC (.int 8)) aX))))))))) aF))))
 (aK (aZ 3 (gN (bf 3 K32.eY) (ao (af 0) (ao (af 1) (ao (af 2) aF)))))
 (aK (aZ 4 (gN (bf 3 K22.gF) (ao (af 1) (ao (af 2) (ao (af 3) aF)))))
 (aK (aZ 5 (gN (bf 3 K21.jq) (ao (af 1) (ao (af 2) (ao (af 3) aF)))))
 (aK (cD (i_ (cI (g2 (cG false) (af 3) (bJ aX))) (cI (g2 (cG false) (g2 cM (gN (bf 2 K51.bx) (ao (af 0) (ao (gC (.int 22)) aF))) (gC (.int 2))) (gC (.int 1))))) (aZ 5 (gN (bf 3 K21.jq) (ao (af 1) (ao (af 2) (ao (gC .non) aF))))) fG)
 (aK (aZ 6 (gN (bf 3 K21.jq) (ao (af 1) (ao (af 2) (ao (BX (af 3)) aF)))))
 (cg (kN (uM "bool" (af 5)) (kN (g2 (cG false) (af 5) (af 4)) (kN (uM "bool" (af 6)) (g2 (cG false) (af 6) (af 4))))))))))))
noncomputable def oh (as:List S):M R:=fin (BZ (bA Jx as))
end K21
namespace K21
open PySem PySem.Spec PyProof.Rows L2 DL DX
structure gE (w:NS) (K:M1) (mg:Str->Option M4):Prop where
 all:mg "all"=none
 bool:mg "bool"=none
 isinstance:mg "isinstance"=none
 len:mg "len"=none
 list:mg "list"=none
 range:mg "range"=none
 set:mg "set"=none
 sorted:mg "sorted"=none
 tuple:mg "tuple"=none
 zip:mg "zip"=none
section
variable {P:Nt}{w:NS}{K:M1}{mg:Str->Option M4}{base:OQ}{f:Nu}{fd:Oz}
noncomputable abbrev qm:RB:=top 4
theorem uz (m:gE w K mg) (e:FB K mg "tongue_of" qm):cH P w K mg base 1 1 "tongue_of" K23.gJ:=
 iE K23.pQ K23.o8 1 e (λnd _ cdv A outer s H E J T hr=>
 (ay (jj (aa 0) (cu (aN (aD 1 nd) (aN (aD 2 nd) (aN (aD 3 nd) bP)))))
 (aM (br (bu (av (bG (ah (eG (jT ["name","points"] [] (dY (aa 2)) (λ_ _ _ _ _ hc=>⟨(cu (aN (aD 0 (c5 rfl)) (aN (aD 1 (c5 rfl)) bP))),cB,(aa 0)⟩))) au) m.tuple) (av (bG (ah (eG (jT ["name","pairs"] [] (dY (aa 3)) (λ_ _ _ _ _ hc=>⟨(cu (aN (aD 0 (c5 rfl)) (aN (aD 1 (c5 rfl)) bP))),cB,(aa 0)⟩))) au) m.tuple) aP))))))) (by exact ⟨rfl,rfl,rfl,by decide +kernel,rfl,by decide +kernel,by decide +kernel⟩) (by intro _ _ _ _ _ _ us hl;rcases us with _ | ⟨_,_ | ⟨_,_ | ⟨_,_ | ⟨_,_ | ⟨_,_ | ⟨_,_ | ⟨_,_⟩⟩⟩⟩⟩⟩⟩ <;> first | exact rfl | (cases hl;done) | exact nomatch hl) λ_ _ _ h=>h
noncomputable abbrev mU:RB:=top 5
theorem qD (m:gE w K mg) (K9:cH P w K mg base 1 1 "tongue_of" K23.gJ) (e:FB K mg "need_tongue" mU):cH P w K mg base 2 2 "need_tongue" K23.gI:=
 iE K23.mh K23.lS 2 e (λnd _ cdv A outer s H E J T hr=>
 (aM (cL (mK hr.units (aU K9 hr (ah (aa 0) au)) (aU K9 hr (ah (aa 1) au))) (aM yX) cj))) (by exact ⟨rfl,rfl,rfl,by decide +kernel,rfl,by decide +kernel,by decide +kernel⟩) (by intro _ _ _ _ _ _ us hl;rcases us with _ | ⟨_,_ | ⟨_,_ | ⟨_,_ | ⟨_,_ | ⟨_,_ | ⟨_,_ | ⟨_,_⟩⟩⟩⟩⟩⟩⟩ <;> first | exact rfl | (cases hl;done) | exact nomatch hl) λ_ _ _ h=>h
noncomputable abbrev xO:RB:=top 7
theorem zV (m:gE w K mg) (e:FB K mg "rising" xO):cH P w K mg base 1 1 "rising" K23.iT:=
 iE K23.xo K23.wH 1 e (λnd _ cdv A outer s H E J T hr=>
 (ay (cL (Hr (aa 0) xJ) (aM (br (bu aP))) cj)
 (aM (br (bG (ah (A0 hr.units (ah (aa 0) au) m.sorted m.set) au) m.tuple))))) (by exact ⟨rfl,rfl,rfl,by decide +kernel,rfl,by decide +kernel,by decide +kernel⟩) (by intro _ _ _ _ _ _ us hl;rcases us with _ | ⟨_,_ | ⟨_,_ | ⟨_,_ | ⟨_,_ | ⟨_,_ | ⟨_,_ | ⟨_,_⟩⟩⟩⟩⟩⟩⟩ <;> first | exact rfl | (cases hl;done) | exact nomatch hl) λ_ _ _ h=>h
noncomputable abbrev DT:RB:=top 8
theorem Ef (m:gE w K mg) (e:FB K mg "view" DT):cH P w K mg base 1 3 "view" K23.tw:=
 iE K23.Dv K23.Dg 3 e (λnd _ cdv A outer s H E J T hr=>
 (ay (jj (aa 0) (cu (aN (aD 3 nd) (aN (aD 4 nd) (aN (aD 5 nd) bP)))))
 (ay (aJ 6 nd (bG (ah (eG (jT ["name","points"] [1] (dY (aa 4)) (λ_ _ _ _ _ hc=>⟨(cu (aN (aD 0 (c5 rfl)) (aN (aD 1 (c5 rfl)) bP))),cB,(kq hr.units (aa 2) (aa 1))⟩))) au) m.tuple))
 (ay (aJ 7 nd (bG (ah (eG (jT ["name","pairs"] [1,2] (dY (aa 5)) (λ_ _ _ _ _ hc=>⟨(cu (aN (aD 0 (c5 rfl)) (aN (aD 1 (c5 rfl)) bP))),cB,(kq hr.units (bu (av (aa 2) (av (aa 3) aP))) (aa 1))⟩))) au) m.tuple))
 (aM (br (bu (av (jk hr.units (aa 1) (aa 2)) (av (aa 6) (av (aa 7) aP)))))))))) (by exact ⟨rfl,rfl,rfl,by decide +kernel,rfl,by decide +kernel,by decide +kernel⟩) (by intro _ _ _ _ _ _ us hl;rcases us with _ | ⟨_,_ | ⟨_,_ | ⟨_,_ | ⟨_,_ | ⟨_,_ | ⟨_,_ | ⟨_,_⟩⟩⟩⟩⟩⟩⟩ <;> first | exact rfl | (cases hl;done) | exact nomatch hl) λ_ _ _ h=>h
noncomputable abbrev Bf:RB:=top 9
theorem BL (m:gE w K mg) (LQ:cH P w K mg base 1 3 "view" K23.tw) (e:FB K mg "views" Bf):cH P w K mg base 2 1 "views" K23.lO:=
 iE K23.An K23.zB 1 e (λnd _ cdv A outer s H E J T hr=>
 (aM (br (eG (JC hr.units ["one","other"] [0] (jh (bS (ah (aH (aa 0) aq) au) m.range)) (λ_ _ _ _ _ hc=>⟨(aD 0 (c5 rfl)),cB,(bS (ah (aH (aa 2) aq) au) m.range),(aD 1 (c5 rfl)),cB,(bu (av (aa 0) (av (aa 1) aP))),(aU LQ hr (ah (aa 2) (ah (aa 0) (ah (aa 1) au))))⟩)))))) (by exact ⟨rfl,rfl,rfl,by decide +kernel,rfl,by decide +kernel,by decide +kernel⟩) (by intro _ _ _ _ _ _ us hl;rcases us with _ | ⟨_,_ | ⟨_,_ | ⟨_,_ | ⟨_,_ | ⟨_,_ | ⟨_,_ | ⟨_,_⟩⟩⟩⟩⟩⟩⟩ <;> first | exact rfl | (cases hl;done) | exact nomatch hl) λ_ _ _ h=>h
noncomputable abbrev Ba:RB:=top 10
theorem BI (m:gE w K mg) (e:FB K mg "agree" Ba):cH P w K mg base 1 4 "agree" K23.oV:=
 iE K23.Am K23.zA 4 e (λnd _ cdv A outer s H E J T hr=>
 (aM (br (jk hr.units (xH hr.units (aa 0) (bu (av (aH (aa 2) aq) (av (aH (aa 3) aq) aP)))) (xH hr.units (aa 1) (bu (av (aH (aa 2) aq) (av (aH (aa 3) aq) aP)))))))) (by exact ⟨rfl,rfl,rfl,by decide +kernel,rfl,by decide +kernel,by decide +kernel⟩) (by intro _ _ _ _ _ _ us hl;rcases us with _ | ⟨_,_ | ⟨_,_ | ⟨_,_ | ⟨_,_ | ⟨_,_ | ⟨_,_ | ⟨_,_⟩⟩⟩⟩⟩⟩⟩ <;> first | exact rfl | (cases hl;done) | exact nomatch hl) λ_ _ _ h=>h
noncomputable abbrev DR:RB:=top 11
theorem Ed (m:gE w K mg) (La:cH P w K mg base 2 2 "need_tongue" K23.gI) (Lm:cH P w K mg base 2 1 "views" K23.lO) (Lr:cH P w K mg base 1 1 "rising" K23.iT) (Lv:cH P w K mg base 1 4 "agree" K23.oV) (e:FB K mg "fits" DR):cH P w K mg base 3 3 "fits" K21.jq:=
 iE K21.Du K21.Df 3 e (λnd _ cdv A outer s H E J T hr=>
 (ay (AZ (aU La hr (ah (aa 0) (ah (aa 1) au))))
 (ay (aJ 3 nd (aU Lm hr (ah (aa 0) au)))
 (ay (aJ 4 nd (aU Lm hr (ah (aa 1) au)))
 (ay (aJ 5 nd (aU Lr hr (ah (aa 2) au)))
 (aM (br (Fd (ah (eG (JD ["pair","again"] [5,3,4] (dY (aa 5)) (λ_ _ _ _ _ hc=>⟨(aD 0 (c5 rfl)),cB,(oO (aa 2)),(aD 1 (c5 rfl)),cB,(aU Lv hr (ah (aa 3) (ah (aa 4) (ah (aa 0) (ah (aa 1) au)))))⟩))) au) m.all)))))))) (by exact ⟨rfl,rfl,rfl,by decide +kernel,rfl,by decide +kernel,by decide +kernel⟩) (by intro _ _ _ _ _ _ us hl;rcases us with _ | ⟨_,_ | ⟨_,_ | ⟨_,_ | ⟨_,_ | ⟨_,_ | ⟨_,_ | ⟨_,_⟩⟩⟩⟩⟩⟩⟩ <;> first | exact rfl | (cases hl;done) | exact nomatch hl) λ_ _ _ h=>h
noncomputable abbrev qh:RB:=top 13
theorem uo (m:gE w K mg) (e:FB K mg "_law_cell" qh):cH P w K mg base 1 2 "_law_cell" K51.bx:=
 iE K51.pN K51.o7 2 e (λnd _ cdv A outer s H E J T hr=>
 (ay (cL (kj DJ (jx λ_ _ _=>.bl _) (aa 1) (fj (ah (aa 0) au) m.len)) (aM (br (bH (aH (aa 0) (aa 1)) (Fe aq aq)))) cj)
 (aM (br aq)))) (by exact ⟨rfl,rfl,rfl,by decide +kernel,rfl,by decide +kernel,by decide +kernel⟩) (by intro _ _ _ _ _ _ us hl;rcases us with _ | ⟨_,_ | ⟨_,_ | ⟨_,_ | ⟨_,_ | ⟨_,_ | ⟨_,_ | ⟨_,_⟩⟩⟩⟩⟩⟩⟩ <;> first | exact rfl | (cases hl;done) | exact nomatch hl) λ_ _ _ h=>h
noncomputable abbrev nW:RB:=top 14
theorem sJ (m:gE w K mg) (e:FB K mg "_law_names" nW):cH P w K mg base 1 2 "_law_names" K51.eX:=
 iE K51.nN K51.nC 2 e (λnd _ cdv A outer s H E J T hr=>
 (ay (aJ 2 nd qR)
 (ay (aJ 3 nd (aH (aa 2) (bH (cS (aa 0) aq) aq)))
 (ay (aJ 4 nd (iF (aa 3) (eT aq (bH (cS (aa 0) aq) aq))))
 (ay (aJ 5 nd (fk aP))
 (ay (dX (bS (ah (aa 1) au) m.range) (aD 6 nd) (ay (aJ 7 nd (aH (aa 2) (bH (eT (cS (aa 0) aq) (iF aq (aa 6))) aq)))
 (ay (aJ 8 nd (aH (fk (av (eT (aa 4) (aa 7)) (av (eT (aa 7) (aa 4)) (av (iF (aa 3) (eT (aa 6) aq)) aP)))) (bH (aa 0) aq)))
 (ay (cL (ji hr.units (aa 8) qR) (aM (aJ 8 nd qR)) cj)
 (aM (f6 5 (aa 8)))))))
 (aM (br (yZ (ah (aa 5) au) m.sorted))))))))) (by exact ⟨rfl,rfl,rfl,by decide +kernel,rfl,by decide +kernel,by decide +kernel⟩) (by intro _ _ _ _ _ _ us hl;rcases us with _ | ⟨_,_ | ⟨_,_ | ⟨_,_ | ⟨_,_ | ⟨_,_ | ⟨_,_ | ⟨_,_⟩⟩⟩⟩⟩⟩⟩ <;> first | exact rfl | (cases hl;done) | exact nomatch hl) λ_ _ _ h=>h
noncomputable abbrev qf:RB:=top 15
theorem um (m:gE w K mg) (e:FB K mg "_law_bits" qf):cH P w K mg base 1 2 "_law_bits" K51.fO:=
 iE K51.pM K51.o6 2 e (λnd _ cdv A outer s H E J T hr=>
 (ay (aJ 2 nd (fk aP))
 (ay (dX (bS (ah (aa 1) au) m.range) (aD 3 nd) (ay (f6 2 (jk hr.units (bH (aa 0) aq) aq))
 (aM (aJ 0 nd (cS (aa 0) aq)))))
 (aM (br (aa 2)))))) (by exact ⟨rfl,rfl,rfl,by decide +kernel,rfl,by decide +kernel,by decide +kernel⟩) (by intro _ _ _ _ _ _ us hl;rcases us with _ | ⟨_,_ | ⟨_,_ | ⟨_,_ | ⟨_,_ | ⟨_,_ | ⟨_,_ | ⟨_,_⟩⟩⟩⟩⟩⟩⟩ <;> first | exact rfl | (cases hl;done) | exact nomatch hl) λ_ _ _ h=>h
noncomputable abbrev n_:RB:=top 16
theorem sN (m:gE w K mg) (K8:cH P w K mg base 1 2 "_law_bits" K51.fO) (e:FB K mg "_law_world" n_):cH P w K mg base 2 3 "_law_world" K51.dW:=
 iE K51.nQ K51.nF 3 e (λnd _ cdv A outer s H E J T hr=>
 (ay (aJ 3 nd (fk aP))
 (ay (dX (bS (ah (fj (ah (aH (aa 0) aq) au) m.len) au) m.range) (aD 4 nd) (ay (aJ 5 nd (aU K8 hr (ah (aH (aa 2) (aa 4)) (ah (aa 1) au))))
 (aM (f6 3 (bu (av (aH (aH (aa 0) aq) (aa 4)) (av (bG (ah (eG (jT ["_law_p"] [5] (jh (bS (ah (aa 1) au) m.range)) (λ_ _ _ _ _ hc=>⟨(aD 0 (c5 rfl)),(mL (xF (aH (aa 1) (aa 0)))),(aa 0)⟩))) au) m.tuple) aP)))))))
 (ay (aJ 6 nd (fk aP))
 (ay (dX (bS (ah (fj (ah (aH (aa 0) aq) au) m.len) au) m.range) (aD 4 nd) (ay (aJ 5 nd (aU K8 hr (ah (aH (aa 2) (eT aq (aa 4))) (ah (iF (aa 1) (aa 1)) au))))
 (aM (f6 6 (bu (av (aH (aH (aa 0) aq) (aa 4)) (av (bG (ah (eG (jT ["_law_p"] [5,1] (jh (bS (ah (iF (aa 1) (aa 1)) au) m.range)) (λ_ _ _ _ _ hc=>⟨(aD 0 (c5 rfl)),(mL (xF (aH (aa 1) (aa 0)))),(bu (av (cS (aa 0) (aa 2)) (av (bH (aa 0) (aa 2)) aP)))⟩))) au) m.tuple) aP)))))))
 (aM (br (bu (av (aa 1) (av (bG (ah (aa 3) au) m.tuple) (av (bG (ah (aa 6) au) m.tuple) aP))))))))))) (by exact ⟨rfl,rfl,rfl,by decide +kernel,rfl,by decide +kernel,by decide +kernel⟩) (by intro _ _ _ _ _ _ us hl;rcases us with _ | ⟨_,_ | ⟨_,_ | ⟨_,_ | ⟨_,_ | ⟨_,_ | ⟨_,_ | ⟨_,_⟩⟩⟩⟩⟩⟩⟩ <;> first | exact rfl | (cases hl;done) | exact nomatch hl) λ_ _ _ h=>h
noncomputable abbrev nY:RB:=top 17
theorem sL (m:gE w K mg) (e:FB K mg "_law_order" nY):cH P w K mg base 1 2 "_law_order" K55.cT:=
 iE K55.nO K55.nD 2 e (λnd _ cdv A outer s H E J T hr=>
 (ay (aJ 2 nd (yY (ah (aa 1) au) m.range m.list))
 (ay (aJ 3 nd (fk aP))
 (ay (dX (bS (ah (aa 1) au) m.range) (aD 4 nd) (ay (we 3 2 (bH (aa 0) (fj (ah (aa 2) au) m.len)))
 (aM (aJ 0 nd (cS (aa 0) aq)))))
 (aM (br (bG (ah (aa 3) au) m.tuple))))))) (by exact ⟨rfl,rfl,rfl,by decide +kernel,rfl,by decide +kernel,by decide +kernel⟩) (by intro _ _ _ _ _ _ us hl;rcases us with _ | ⟨_,_ | ⟨_,_ | ⟨_,_ | ⟨_,_ | ⟨_,_ | ⟨_,_ | ⟨_,_⟩⟩⟩⟩⟩⟩⟩ <;> first | exact rfl | (cases hl;done) | exact nomatch hl) λ_ _ _ h=>h
noncomputable abbrev mP:RB:=top 18
theorem qC (m:gE w K mg) (e:FB K mg "_law_turned" mP):cH P w K mg base 1 2 "_law_turned" K21.gG:=
 iE K21.l_ K21.lR 2 e (λnd _ cdv A outer s H E J T hr=>
 (ay (xG 2 nd (jT ["_law_name","_law_points"] [1] (dY (aH (aa 0) aq)) (λ_ _ _ _ _ hc=>⟨(cu (aN (aD 0 (c5 rfl)) (aN (aD 1 (c5 rfl)) bP))),cB,(bu (av (aa 0) (av (bG (ah (rV hr.units (ah (eG (jT ["_law_p"] [2] (dY (aa 1)) (λ_ _ _ _ _ hc=>⟨(aD 0 (c5 rfl)),cB,(aH (aa 1) (aa 0))⟩) (z_ (wX hc rfl)))) au) m.sorted) au) m.tuple) aP)))⟩)))
 (ay (xG 3 nd (jT ["_law_name","_law_some"] [1] (dY (aH (aa 0) aq)) (λ_ _ _ _ _ hc=>⟨(cu (aN (aD 0 (c5 rfl)) (aN (aD 1 (c5 rfl)) bP))),cB,(bu (av (aa 0) (av (bG (ah (rV hr.units (ah (eG (jT ["_law_p","_law_q"] [2] (dY (aa 1)) (λ_ _ _ _ _ hc=>⟨(cu (aN (aD 0 (c5 rfl)) (aN (aD 1 (c5 rfl)) bP))),cB,(bu (av (aH (aa 2) (aa 0)) (av (aH (aa 2) (aa 1)) aP)))⟩) (z_ (wX hc rfl)))) au) m.sorted) au) m.tuple) aP)))⟩)))
 (aM (br (bu (av (aH (aa 0) aq) (av (bG (ah (aa 2) au) m.tuple) (av (bG (ah (aa 3) au) m.tuple) aP))))))))) (by exact ⟨rfl,rfl,rfl,by decide +kernel,rfl,by decide +kernel,by decide +kernel⟩) (by intro _ _ _ _ _ _ us hl;rcases us with _ | ⟨_,_ | ⟨_,_ | ⟨_,_ | ⟨_,_ | ⟨_,_ | ⟨_,_ | ⟨_,_⟩⟩⟩⟩⟩⟩⟩ <;> first | exact rfl | (cases hl;done) | exact nomatch hl) λ_ _ _ h=>h
noncomputable abbrev lK:RB:=top 19
theorem pg (m:gE w K mg) (e:FB K mg "_law_flipped" lK):cH P w K mg base 1 2 "_law_flipped" K21.dH:=
 iE K21.lF K21.lC 2 e (λnd _ cdv A outer s H E J T hr=>
 (ay (jj (aa 0) (cu (aN (aD 2 nd) (aN (aD 3 nd) (aN (aD 4 nd) bP)))))
 (ay (cL (ji hr.units (ir (fj (ah (aa 3) au) m.len) (fj (ah (aa 4) au) m.len)) aq) (aM (br (aa 0))) cj)
 (ay (aJ 5 nd (bH (aa 1) (ir (fj (ah (aa 3) au) m.len) (fj (ah (aa 4) au) m.len))))
 (ay (aJ 6 nd (bH (cS (aa 1) aq) (aa 2)))
 (ay (aJ 7 nd (aa 3))
 (ay (cL (kj Iv (jx λ_ _ _=>.bl _) (aa 5) (fj (ah (aa 3) au) m.len)) (ay (aJ 5 nd (Fg (aa 5) (fj (ah (aa 3) au) m.len)))
 (ay (aJ 6 nd (bu (av (aa 6) (av (bH (cS (aa 1) aq) (aa 2)) aP))))
 (aM (aJ 7 nd (aa 4))))) cj)
 (ay (jj (aH (aa 7) (aa 5)) (cu (aN (aD 8 nd) (aN (aD 9 nd) bP))))
 (ay (aJ 10 nd (bG (ah (A6 hr.units (ah (ir (aa 9) (bu (av (aa 6) aP))) au) m.sorted m.set) au) m.tuple))
 (ay (cL (Hq hr.units (aa 6) (aa 9)) (aM (aJ 10 nd (bG (ah (eG (jT ["_law_one"] [6] (dY (aa 9)) (λ_ _ _ _ _ hc=>⟨(aD 0 (c5 rfl)),(mL (mK hr.units (aa 0) (aa 1))),(aa 0)⟩))) au) m.tuple))) cj)
 (ay (aJ 7 nd (ir (ir (xK (aa 7) rW (rX (aa 5))) (bu (av (bu (av (aa 8) (av (aa 10) aP))) aP))) (xK (aa 7) (rX (ir (aa 5) aq)) rW)))
 (ay (cL (Fc (k6 kit_tuple vZ m.tuple (aa 6) m.isinstance)) (aM (br (bu (av (aa 2) (av (aa 3) (av (aa 7) aP)))))) cj)
 (aM (br (bu (av (aa 2) (av (aa 7) (av (aa 4) aP)))))))))))))))))) (by exact ⟨rfl,rfl,rfl,by decide +kernel,rfl,by decide +kernel,by decide +kernel⟩) (by intro _ _ _ _ _ _ us hl;rcases us with _ | ⟨_,_ | ⟨_,_ | ⟨_,_ | ⟨_,_ | ⟨_,_ | ⟨_,_ | ⟨_,_⟩⟩⟩⟩⟩⟩⟩ <;> first | exact rfl | (cases hl;done) | exact nomatch hl) λ_ _ _ h=>h
noncomputable abbrev sy:RB:=top 20
theorem v5 (m:gE w K mg) (K1:cH P w K mg base 1 2 "_law_cell" K51.bx) (K6:cH P w K mg base 1 2 "_law_names" K51.eX) (K7:cH P w K mg base 2 3 "_law_world" K51.dW) (K3:cH P w K mg base 1 2 "_law_order" K55.cT) (K_:cH P w K mg base 1 2 "_law_turned" K21.gG) (K4:cH P w K mg base 1 2 "_law_flipped" K21.dH) (e:FB K mg "_law_two" sy):cH P w K mg base 3 2 "_law_two" K21.gx:=
 iE K21.rN K21.q9 2 e (λnd _ cdv A outer s H E J T hr=>
 (ay (aJ 2 nd (aU K1 hr (ah (aa 0) (ah aq au))))
 (ay (aJ 3 nd (aU K1 hr (ah (aa 0) (ah aq au))))
 (ay (aJ 4 nd (aU K6 hr (ah (cS (aa 3) aq) (ah (aH (fk (av aq (av aq (av aq (av aq aP))))) (bH (aa 3) aq)) au))))
 (ay (CB 4 (aJ 5 nd (bu (av (aa 4) (av (aU K6 hr (ah (aU K1 hr (ah (aa 0) (ah aq au))) (ah (aH (fk (av aq (av aq (av aq (av aq (av aq aP)))))) (bH (cS (aa 3) aq) aq)) au))) aP)))))
 (ay (aJ 6 nd (aU K7 hr (ah (aa 5) (ah (aH (aa 1) (bH (aa 2) aq)) (ah (eG (jT ["_law_k"] [0] (jh (bS (ah aq au) m.range)) (λ_ _ _ _ _ hc=>⟨(aD 0 (c5 rfl)),cB,(aU K1 hr (ah (aa 1) (ah (eT aq (aa 0)) au)))⟩))) au)))))
 (ay (aJ 7 nd (bH (cS (aa 2) aq) aq))
 (ay (cL (ji hr.units (aa 7) aq) (aM (br (bu (av (aa 6) (av (aU K7 hr (ah (aa 5) (ah (aH (aa 1) (bH (cS (aa 2) aq) aq)) (ah (eG (jT ["_law_k"] [0] (jh (bS (ah aq au) m.range)) (λ_ _ _ _ _ hc=>⟨(aD 0 (c5 rfl)),cB,(aU K1 hr (ah (aa 1) (ah (eT aq (aa 0)) au)))⟩))) au)))) aP))))) cj)
 (ay (aJ 8 nd (aU K_ hr (ah (aa 6) (ah (aU K3 hr (ah (aU K1 hr (ah (aa 0) (ah aq au))) (ah (aH (aa 6) aq) au))) au))))
 (ay (cL (kj DI (jx λ_ _ _=>.bl _) (aa 7) aq) (aM (aJ 8 nd (aU K4 hr (ah (aa 8) (ah (aU K1 hr (ah (aa 0) (ah aq au))) au))))) cj)
 (ay (cL (ji hr.units (aa 7) aq) (aM (aJ 8 nd (aU K4 hr (ah (aa 8) (ah (aU K1 hr (ah (aa 0) (ah aq au))) au))))) cj)
 (aM (br (bu (av (aa 6) (av (aa 8) aP)))))))))))))))) (by exact ⟨rfl,rfl,rfl,by decide +kernel,rfl,by decide +kernel,by decide +kernel⟩) (by intro _ _ _ _ _ _ us hl;rcases us with _ | ⟨_,_ | ⟨_,_ | ⟨_,_ | ⟨_,_ | ⟨_,_ | ⟨_,_ | ⟨_,_⟩⟩⟩⟩⟩⟩⟩ <;> first | exact rfl | (cases hl;done) | exact nomatch hl) λ_ _ _ h=>h
noncomputable abbrev qi:RB:=top 21
theorem uq (m:gE w K mg) (e:FB K mg "_law_fits" qi):cH P w K mg base 1 3 "_law_fits" K22.gF:=
 iE K22.pO ["_law_one","_law_other","_law_pairs_here","_law_a","_law_b","_law_here","_law_there","_law_c","_law_d"] 3 e (λnd _ cdv A outer s H E J T hr=>
 (ay (dX (oO (aa 2)) (cu (aN (aD 3 nd) (aN (aD 4 nd) bP))) (ay (dX (vC (ah (aH (aa 0) aq) (ah (aH (aa 1) aq) au)) m.zip) (cu (aN (aD 5 nd) (aN (aD 6 nd) bP))) (aM (cL (mK hr.units (kq hr.units (aa 3) (aH (aa 5) aq)) (kq hr.units (aa 4) (aH (aa 6) aq))) (aM (br qa)) cj)))
 (aM (dX (oO (aa 2)) (cu (aN (aD 7 nd) (aN (aD 8 nd) bP))) (ay (cL (mK hr.units (jk hr.units (aa 3) (aa 7)) (jk hr.units (aa 4) (aa 8))) (aM (br qa)) cj)
 (aM (dX (vC (ah (aH (aa 0) aq) (ah (aH (aa 1) aq) au)) m.zip) (cu (aN (aD 5 nd) (aN (aD 6 nd) bP))) (aM (cL (mK hr.units (kq hr.units (bu (av (aa 3) (av (aa 7) aP))) (aH (aa 5) aq)) (kq hr.units (bu (av (aa 4) (av (aa 8) aP))) (aH (aa 6) aq))) (aM (br qa)) cj)))))))))
 (aM (br qa)))) (by exact ⟨rfl,rfl,rfl,by decide +kernel,rfl,by decide +kernel,by decide +kernel⟩) (by intro _ _ _ _ _ _ us hl;rcases us with _ | ⟨_,_ | ⟨_,_ | ⟨_,_ | ⟨_,_ | ⟨_,_ | ⟨_,_ | ⟨_,_⟩⟩⟩⟩⟩⟩⟩ <;> first | exact rfl | (cases hl;done) | exact nomatch hl) λ_ _ _ h=>h
noncomputable abbrev nZ:RB:=top 22
theorem sM (m:gE w K mg) (K1:cH P w K mg base 1 2 "_law_cell" K51.bx) (K3:cH P w K mg base 1 2 "_law_order" K55.cT) (e:FB K mg "_law_pairs" nZ):cH P w K mg base 2 3 "_law_pairs" K32.eY:=
 iE K32.nP K32.nE 3 e (λnd _ cdv A outer s H E J T hr=>
 (ay (aJ 3 nd (aU K1 hr (ah (aa 0) (ah aq au))))
 (ay (aJ 4 nd (aU K3 hr (ah (aU K1 hr (ah (aa 0) (ah aq au))) (ah (aH (aa 1) aq) au))))
 (ay (aJ 5 nd (fk aP))
 (ay (dX (bS (ah (bH (aa 3) aq) au) m.range) (aD 6 nd) (ay (aJ 7 nd (aU K1 hr (ah (aa 0) (ah (eT aq (aa 6)) au))))
 (ay (aJ 8 nd (bH (aa 7) (aH (aa 1) aq)))
 (ay (aJ 9 nd (bH (cS (aa 7) aq) (aH (aa 2) aq)))
 (ay (cL (xE (qP (ji hr.units (bH (cS (aa 3) aq) aq) aq) (qP (kj DJ (jx λ_ _ _=>.bl _) (aH (aa 4) (aa 8)) (aH (aa 2) aq)) (vB (kj DI (jx λ_ _ _=>.bl _) (bH (cS (aa 7) aq) aq) aq))))) (aM (aJ 9 nd (aH (aa 4) (aa 8)))) cj)
 (aM (f6 5 (bu (av (aa 8) (av (aa 9) aP))))))))))
 (aM (br (bG (ah (aa 5) au) m.tuple)))))))) (by exact ⟨rfl,rfl,rfl,by decide +kernel,rfl,by decide +kernel,by decide +kernel⟩) (by intro _ _ _ _ _ _ us hl;rcases us with _ | ⟨_,_ | ⟨_,_ | ⟨_,_ | ⟨_,_ | ⟨_,_ | ⟨_,_ | ⟨_,_⟩⟩⟩⟩⟩⟩⟩ <;> first | exact rfl | (cases hl;done) | exact nomatch hl) λ_ _ _ h=>h
noncomputable abbrev k9:RB:=top 23
theorem IS:eZ ["_law_script","_law_one","_law_other","_law_pairs_here","_law_due","_law_found","_law_again"] ["_law_script"] (aT k9):=⟨rfl,rfl,rfl,by decide +kernel,rfl,by decide +kernel,by decide +kernel⟩
theorem Iu (m:gE w K mg) (Lf:cH P w K mg base 3 2 "_law_two" K21.gx) (Lb:cH P w K mg base 2 3 "_law_pairs" K32.eY) (Lc:cH P w K mg base 1 3 "_law_fits" K22.gF) (Li:cH P w K mg base 3 3 "fits" K21.jq) (K1:cH P w K mg base 1 2 "_law_cell" K51.bx) (F:jS K "law" "law" k9 f fd):gH P w K mg base jR 4 f fd ["_law_script"] (lM K 1 K21.oh):=
 have sc:=IS
 Fb (k:=3) (gB:=K21.BZ) F sc (λcdv A outer s H E J T hr=>
 (ay (jj (aU Lf hr (ah (aa 0) (ah (fk (av aq (av aq (av aq (av aq (av aq (av aq (av aq (av aq aP))))))))) au))) (cu (aN (aD 1 sc.nd) (aN (aD 2 sc.nd) bP))))
 (ay (aJ 3 sc.nd (aU Lb hr (ah (aa 0) (ah (aa 1) (ah (aa 2) au)))))
 (ay (aJ 4 sc.nd (aU Lc hr (ah (aa 1) (ah (aa 2) (ah (aa 3) au)))))
 (ay (aJ 5 sc.nd (aU Li hr (ah (aa 1) (ah (aa 2) (ah (aa 3) au)))))
 (ay (cL (xE (qP (ji hr.units (aa 3) (bu aP)) (vB (ji hr.units (bH (aU K1 hr (ah (aa 0) (ah aq au))) aq) aq)))) (aM (aJ 5 sc.nd (aU Li hr (ah (aa 1) (ah (aa 2) (ah xJ au)))))) cj)
 (ay (aJ 6 sc.nd (aU Li hr (ah (aa 1) (ah (aa 2) (ah (Ff (aa 3) IC) au)))))
 (aM (br (qQ (k6 uX pe m.bool (aa 5) m.isinstance) (qQ (jk hr.units (aa 5) (aa 4)) (qQ (k6 uX pe m.bool (aa 6) m.isinstance) (CC (jk hr.units (aa 6) (aa 4))))))))))))))) (λas r _ h=>h)
end
end K21
namespace K21
open PySem DL K01 WP K51 K52 K55 K23
theorem JV (xs:List Nat) (hl:xs.length < 64):jX [.l .fresh (xs.map dN)]=.ok (.l .fresh (aY (xs.map dN))):=by show (if nU (xs.map dN)=true then M.ok (R.l .fresh (aY (xs.map dN))) else if lI (xs.map dN)=true then M.ok (R.l .fresh (aY (xs.map dN))) else _)=_;rw [if_pos (DG xs hl)];split <;> rfl
theorem AH (xs:List (Nat×Nat)) (hl:xs.length=64) (nd:xs.Nodup) (h:∀p∈xs,p.1 < 8/\p.2 < 8):S6.fK (xs.map dP)=true:=by
 unfold S6.fK;rw [M7,decide_eq_true hl,QA,M8,NC,decide_eq_true_eq];refine ⟨λd hd=>?_,?_⟩
 ·obtain ⟨p,hp,rfl⟩:=M9.mp hd;have:=h p hp;have e:S6.mw (dP p)=(decide ((0:Int)<=p.1) && (decide ((p.1:Int) < 1000) && (decide ((0:Int)<=p.2) && decide ((p.2:Int) < 1000)))):=rfl;rw [e,decide_eq_true (by omega),decide_eq_true (by omega),decide_eq_true (by omega),decide_eq_true (by omega)];rfl
 ·rw [N4];refine jf nd λa ha b hb e=>?_;have e:1000 * (a.1:Int).toNat + (a.2:Int).toNat=1000 * (b.1:Int).toNat + (b.2:Int).toNat:=e;have:=h a ha;have:=h b hb;exact Xk (by omega) (by omega)
theorem JW (xs:List (Nat×Nat)) (hl:xs.length<=64) (nd:xs.Nodup) (h:∀p∈xs,p.1 < 8/\p.2 < 8):jX [.l .fresh (xs.map dP)]=.ok (.l .fresh (aY (xs.map dP))):=by
 show (if nU (xs.map dP)=true then M.ok (R.l .fresh (aY (xs.map dP))) else if lI (xs.map dP)=true then M.ok (R.l .fresh (aY (xs.map dP))) else if S6.fK (xs.map dP)=true then M.ok (R.l .fresh (aY (xs.map dP))) else .bad)=_;by_cases q:xs.length < 64
 ·rw [if_pos (Ir xs q)]
 ·rw [if_pos (AH xs (by omega) nd h)];split
  ·rfl
  ·split <;> rfl
theorem JE {xs:List (Nat×Nat)}(h:∀p∈xs,p.1 < 8/\p.2 < 8):(dd (xs.map dP)).length < 64\/S6.fK (dd (xs.map dP))=true:=by
 have tot:∀d∈xs.map dP,gj pF d:=λd hd=>by obtain ⟨x,_,rfl⟩:=M9.mp hd;exact j6 x
 obtain ⟨h1,h2⟩:=kJ (cY pF) _ tot;have e:((dd (xs.map dP)).map gD).map dP=dd (xs.map dP):=back dP gD iS λd hd=>by obtain ⟨x,_,rfl⟩:=M9.mp ((h2 d).mp hd);exact ⟨x,rfl⟩
 have nd:((dd (xs.map dP)).map gD).Nodup:=jf h1 λa ha b hb q=>by obtain ⟨x,_,rfl⟩:=M9.mp ((h2 a).mp ha);obtain ⟨y,_,rfl⟩:=M9.mp ((h2 b).mp hb);rw [iS,iS] at q;rw [q]
 have lt:∀p∈(dd (xs.map dP)).map gD,p.1 < 8/\p.2 < 8:=λp hp=>by obtain ⟨d,hd,rfl⟩:=M9.mp hp;obtain ⟨x,hx,rfl⟩:=M9.mp ((h2 d).mp hd);exact h x hx
 have len:=NI nd (l₂:=fB 8 8) λp hp=>oJ.mpr (lt p hp);rw [u5,M7] at len;by_cases q:(dd (xs.map dP)).length < 64
 ·exact .inl q
 ·refine .inr ?_;rw [<-e];exact AH _ (by rw [M7];omega) nd lt
theorem Ip (xs:List (Nat×Nat)):vh (xs.map dP)=true:=by
 cases xs with
 | nil=>rfl
 | cons x xs=>
  show (dZ .i ((x::xs).map dP) && ((x::xs).map dP).all (kO pF))=true;rw [g9 (B3 (x::xs)),QA,NC];intro d hd;obtain ⟨y,_,rfl⟩:=M9.mp hd;rfl
theorem GQ (xs:List (Nat×Nat)) (hl:xs.length<=65) (h:∀p∈xs,p.1 < 8/\p.2 < 8):kW (xs.map dP)=true:=by
 have h1:areKeys (xs.map dP)=true:=by
  clear h hl
  induction xs with
  | nil=>rfl
  | cons x xs ih=>
   rw [Nz];show (isKey (dP x) && areKeys (xs.map dP))=true;rw [ih];rfl
 have h2:deps (xs.map dP)<=8:=fc λd hd=>by obtain ⟨x,_,rfl⟩:=M9.mp hd;exact (by decide:(1:Nat)<=8)
 have h3:vh (xs.map dP)=true:=Ip xs;have h4:(decide ((dd (xs.map dP)).length < 64) || S6.fK (dd (xs.map dP)))=true:=by rw [P0,decide_eq_true_eq];exact JE h
 unfold kW;rw [h1,h3,h4,decide_eq_true h2,M7,decide_eq_true (by omega)];rfl
theorem J6 (xs:List Nat) (hl:xs.length < 64):∃ys:List Nat,iz [.d (.tup (xs.map dN))]=.ok (.l .fresh (ys.map dN))/\ys.length<=xs.length/\(∀y∈ys,y∈xs)/\ys.Pairwise (· < ·):=by
 have tot:∀d∈xs.map dN,gj .i d:=λd hd=>by obtain ⟨x,_,rfl⟩:=M9.mp hd;exact ⟨_,rfl⟩
 obtain ⟨h1,h2⟩:=mW (cY .i) tot;have fm:∀d∈bE (xs.map dN),∃x,d=dN x:=λd hd=>by obtain ⟨x,_,rfl⟩:=M9.mp (h2 d hd);exact ⟨x,rfl⟩
 refine ⟨(bE (xs.map dN)).map jJ,?_,by simpa using h1,λy hy=>?_,qv dN jJ qu _ (λa b h=>(tL a b).mp h) fm (k_ (cY .i) tot).1⟩
 ·rw [back dN jJ qu fm];show (if kW (xs.map dN)=true then M.ok (R.l .fresh (bE (xs.map dN))) else if lI (xs.map dN)=true then M.ok (R.l .fresh (bE (xs.map dN))) else .bad)=_;rw [if_pos (DG xs hl)];split <;> rfl
 ·obtain ⟨d,hd,rfl⟩:=M9.mp hy;obtain ⟨x,hx,rfl⟩:=M9.mp (h2 d hd);exact hx
theorem J_ (xs:List (Nat×Nat)) (hl:xs.length<=65) (h:∀p∈xs,p.1 < 8/\p.2 < 8):∃ys:List (Nat×Nat),iz [.d (.tup (xs.map dP))]=.ok (.l .fresh (ys.map dP))/\ys.length<=xs.length/\(∀y∈ys,y∈xs)/\ys.Pairwise pZ:=by
 have tot:∀d∈xs.map dP,gj pF d:=λd hd=>by obtain ⟨x,_,rfl⟩:=M9.mp hd;exact j6 x
 obtain ⟨h1,h2⟩:=mW (cY pF) tot;have fm:∀d∈bE (xs.map dP),∃x,d=dP x:=λd hd=>by obtain ⟨x,_,rfl⟩:=M9.mp (h2 d hd);exact ⟨x,rfl⟩
 refine ⟨(bE (xs.map dP)).map gD,?_,by simpa using h1,λy hy=>?_,qv dP gD iS _ (λa b h=>(DF a b).mp h) fm (k_ (cY pF) tot).1⟩
 ·rw [back dP gD iS fm];show (if kW (xs.map dP)=true then M.ok (R.l .fresh (bE (xs.map dP))) else _)=_;rw [if_pos (GQ xs hl h)]
 ·obtain ⟨d,hd,rfl⟩:=M9.mp hy;obtain ⟨x,hx,rfl⟩:=M9.mp (h2 d hd);exact hx
noncomputable abbrev IK:G O:=(aK (jP (cV 2 (aW (aE 8) (aW (aE 9) cX))) (g2 bg (af 7) (af 5)))
 (aK (aZ 10 (gN b_ (ao (gN iz (ao (g2 d8 (af 9) (bJ (aA (af 6) aX))) aF)) aF)))
 (aK (cD (cI (g2 (iJ false) (af 6) (af 9))) (aZ 10 (gN b_ (ao (cK 1 [6] (ic (af 9)) (aE 0) (cI (g2 (cG true) (af 0) (af 1))) (af 0)) aF))) fG)
 (aK (aZ 7 (g2 d8 (g2 d8 (xh qG (af 7) Ak (Al (af 5))) (bJ (aA (bJ (aA (af 8) (aA (af 10) aX))) aX))) (xh qG (af 7) (Al (g2 d8 (af 5) (gC (.int 1)))) Ak)))
 (aK (cD (cI (uM "tuple" (af 6))) (cg (bJ (aA (af 2) (aA (af 3) (aA (af 7) aX))))) fG)
 (cg (bJ (aA (af 2) (aA (af 7) (aA (af 4) aX))))))))))
theorem rK {α:Type}(h:α->D) (P:α->Prop) (Sr:List α->Prop) (hf:∀xs p,Sr xs->Sr (xs.filter p)) (n:Nat) (hn:n<=64) (hd:∀x,dep (h x)<=1) (b:Bool) (hb:∀x,mZ (jo (h x)) "tuple"=b)
  (hs:∀xs:List α,xs.length<=n + 1->(∀x∈xs,P x)->∃ys:List α,iz [.d (.tup (xs.map h))]=.ok (.l .fresh (ys.map h))/\ys.length<=xs.length/\(∀y∈ys,y∈xs)/\Sr ys)
  (L:List (Str×List α)) (hL:zF P n L) (hS:∀r∈L,Sr r.2) (l3:L.length<=3) (k:Nat) (hk:k < L.length) (th:α) (ht:P th) (w c:Option S) (m:D) (ms ar:D):
  ∃L':List (Str×List α),zF P (n + 1) L'/\(∀r∈L',Sr r.2)/\L'.map OT=L.map OT/\L'.length=L.length/\IK [w,c,some (.d m),some (.d ms),some (.d ar),some (.d (.int k)),some (.d (h th)),some (.d (.tup (L.map (cO h)))),none,none,none]=.ok (.rt (.d (if b=true then .tup [m,ms,.tup (L'.map (cO h))] else .tup [m,.tup (L'.map (cO h)),ar]))):=by
 obtain ⟨a1,a2⟩:=hL.all L[k] (O7 hk);obtain ⟨ys,e1,e2,e3,e4⟩:=hs (L[k].2++[th]) (by simp;omega) λx hx=>by
  rcases NV.mp hx with h | h
  ·exact a2 x h
  ·rw [NH.mp h];exact ht
 rw [NG] at e2;have e2:ys.length<=n + 1:=by simp at e2;omega
 have e3:∀y∈ys,P y:=λy hy=>by
  rcases NV.mp (e3 y hy) with h | h
  ·exact a2 y h
  ·rw [NH.mp h];exact ht
 have dp:deps (L[k].2.map h)<=60:=fc λd hd'=>by obtain ⟨x,_,rfl⟩:=M9.mp hd';have:=hd x;omega
 have dt:=hd th;have nx:∃now:List α,now.length<=n + 1/\(∀y∈now,P y)/\Sr now/\∀(Q:O->Prop) (u:G O),Wp (u [w,c,some (.d m),some (.d ms),some (.d ar),some (.d (.int k)),some (.d (h th)),some (.d (.tup (L.map (cO h)))),some (.d (.str L[k].1)),some (.d (.tup (L[k].2.map h))),some (.d (.tup (now.map h)))]) Q->
   Wp (aK (cD (cI (g2 (iJ false) (af 6) (af 9))) (aZ 10 (gN b_ (ao (cK 1 [6] (ic (af 9)) (aE 0) (cI (g2 (cG true) (af 0) (af 1))) (af 0)) aF))) fG) u [w,c,some (.d m),some (.d ms),some (.d ar),some (.d (.int k)),some (.d (h th)),some (.d (.tup (L.map (cO h)))),some (.d (.str L[k].1)),some (.d (.tup (L[k].2.map h))),some (.d (.tup (ys.map h)))]) Q:=by
  have hin:cI (g2 (iJ false) (af 6) (af 9)) [w,c,some (.d m),some (.d ms),some (.d ar),some (.d (.int k)),some (.d (h th)),some (.d (.tup (L.map (cO h)))),some (.d (.str L[k].1)),some (.d (.tup (L[k].2.map h))),some (.d (.tup (ys.map h)))]=.ok (inD (h th) (L[k].2.map h)):=by show (g2 _ _ _ _ >>= _)=_;rw [two (x:=.d (h th)) rfl rfl (kQ false _ _ dp (by omega))];rfl
  cases q:inD (h th) (L[k].2.map h) with
  | true=>
   rw [q] at hin;refine ⟨L[k].2.filter (λx=>!aV (h x) (h th)),N8 (Sm _ _) (by omega),λy hy=>a2 y (Q3.mp hy).1,hf _ _ (hS _ (O7 hk)),λQ u hu=>?_⟩;refine cP (iP hin (fQ (n1 (tG (xs:=L[k].2) (h:=h) (λx=>!aV (h x) (h th)) h rfl (by omega) λx _=>⟨?_,λ_=>⟨_,rfl,rfl⟩⟩) rfl) rfl hu));have:=hd x;show (g2 _ _ _ _ >>= _)=_;rw [two (x:=.d (h x)) (y:=.d (h th)) rfl rfl (ni _ _ _ (by show dep (h x)<=60;omega) (by show dep (h th)<=60;omega))];rfl
  | false=>
   rw [q] at hin;exact ⟨ys,e2,e3,e4,λQ u hu=>f7 hin hu⟩
 obtain ⟨now,n1',n2,nS,n3⟩:=nx;refine ⟨L.take k++[(L[k].1,now)]++L.drop (k + 1),⟨λr hr=>?_⟩,λr hr=>?_,?_,?_,?_⟩
 ·simp only [NV,NH] at hr;rcases hr with (hr | hr) | hr
  ·have:=hL.all r (Qa hr);exact ⟨by omega,this.2⟩
  ·rw [hr];exact ⟨n1',n2⟩
  ·have:=hL.all r (OF hr);exact ⟨by omega,this.2⟩
 ·simp only [NV,NH] at hr;rcases hr with (hr | hr) | hr
  ·exact hS r (Qa hr)
  ·rw [hr];exact nS
  ·exact hS r (OF hr)
 ·have e:L=L.take k++[L[k]]++L.drop (k + 1):=by rw [NX,Sn,R3,N5]
  conv=>rhs;rw [e]
  simp only [NW,Nz,Uy]
 ·simp;omega
 ·have ix:bg (.d (.tup (L.map (cO h)))) (.d (.int k))=.ok (.d (cO h L[k])):=iY (by rw [Nx,Nc hk];rfl);have hc1:d8 (.d (.tup ((L.map (cO h)).take k))) (.d (.tup [cO h (L[k].1,now)]))=.ok (.d (.tup ((L.map (cO h)).take k++[cO h (L[k].1,now)]))):=zg _ _ (by simp;omega);have hc2:d8 (.d (.tup ((L.map (cO h)).take k++[cO h (L[k].1,now)]))) (.d (.tup ((L.map (cO h)).drop (k + 1))))=.ok (.d (.tup ((L.map (cO h)).take k++[cO h (L[k].1,now)]++(L.map (cO h)).drop (k + 1)))):=zg _ _ (by simp;omega);have hm:(L.map (cO h)).take k++[cO h (L[k].1,now)]++(L.map (cO h)).drop (k + 1)=(L.take k++[(L[k].1,now)]++L.drop (k + 1)).map (cO h):=by rw [NW,NW,RS,RT];rfl
  rw [hm] at hc2;refine Wp.eq (qe (two rfl rfl ix) rfl rfl (bh (n1 (n1 (two rfl (bD (aI rfl rfl bC) (by show 1<=1000;decide)) (zg _ _ (by simp;omega))) (by rw [show L[k].2.map h++[h th]=(L[k].2++[th]).map h by rw [NW];rfl];exact e1)) rfl) rfl (n3 _ _ ?_)));refine bh (two (x:=.d (.tup ((L.map (cO h)).take k++[cO h (L[k].1,now)]))) (y:=.d (.tup ((L.map (cO h)).drop (k + 1)))) (two (x:=.d (.tup ((L.map (cO h)).take k))) ?_ (bD (aI (bD (aI rfl rfl (aI rfl rfl bC)) t2) rfl bC) (by show 1<=1000;decide)) hc1) ?_ hc2) rfl ?_
  ·show M.ok (R.d (.tup (cutD (L.map (cO h)) none (some (k:Int)))))=_;rw [Gd _ _ (by simp;omega)]
  ·show M.ok (R.d (.tup (cutD (L.map (cO h)) (some ((k:Int) + 1)) none)))=_;rw [show ((k:Int) + 1)=((k + 1:Nat):Int) by omega,BQ _ _ (by simp;omega)]
  ·have hb':=hb th;cases b with
   | true=>exact cP (iP (by show M.ok (mZ (jo (h th)) "tuple")=_;rw [hb']) (bZ (bD (aI rfl rfl (aI rfl rfl (aI rfl rfl bC))) (by show 3<=1000;decide)) rfl rfl))
   | false=>exact f7 (by show M.ok (mZ (jo (h th)) "tuple")=_;rw [hb']) (bZ (bD (aI rfl rfl (aI rfl rfl (aI rfl rfl bC))) (by show 3<=1000;decide)) rfl rfl)
structure Ok (w:Wd):Prop where
 ok:ri w
 srt:F1 w
 mr:∀r∈w.ms,∀p∈r.2,p < w.m
 ar:∀r∈w.ar,∀p∈r.2,p.1 < w.m/\p.2 < w.m
theorem Ok.m8 {w:Wd}(h:Ok w):∀r∈w.ms,r.2.length<=8:=λr hr=>by have:=NI (DE (h.srt.mp r hr)) (l₂:=Ng w.m) λp hp=>NQ.mpr (h.mr r hr p hp);rw [Oo] at this;have:=h.ok.hi;omega
theorem Ok.a64 {w:Wd}(h:Ok w):∀r∈w.ar,r.2.length<=64:=λr hr=>by have:=NI (vp (h.srt.ap r hr)) (l₂:=fB w.m w.m) λp hp=>oJ.mpr (h.ar r hr p hp);rw [u5] at this;have:=Sh h.ok.hi h.ok.hi;omega
theorem Ok.gA {w:Wd}(h:Ok w):zx 64 w:=⟨λr hr=>⟨N8 (h.m8 r hr) (by omega),h.mr r hr⟩,λr hr=>⟨h.a64 r hr,h.ar r hr⟩⟩
theorem Ok.tu {w:Wd}(h:Ok w){ps:List Nat}(pm:ps.Perm (Ng w.m)):Ok (iM w ps):=by obtain ⟨h1,h2,h3,_⟩:=Bk w h.ok 64 h.gA h.srt ps pm;exact ⟨h1,h3,λr hr=>(h2.mp r hr).2,λr hr=>(h2.ap r hr).2⟩
theorem BA (w:Wd) (h:Ok w) (ps:List Nat) (pm:ps.Perm (Ng w.m)):gG [.d w.d,.d (.tup (ps.map dN))]=.ok (.d (iM w ps).d):=by
 have ml:=h.ok.ml;have al:=h.ok.al;have m8:=h.ok.hi;have hl:ps.length=w.m:=by rw [pm.length_eq,Oo]
 have gd:∀p,p < w.m->ps.getD p 0 < w.m:=λp h=>by
  have h':p < ps.length:=by omega
  rw [show ps.getD p 0=ps[p] by simp [TM,h']];simpa using pm.mem_iff.mp (O7 h')
 refine fZ (bh (kI (xs:=w.ms) (λr=>.str r.1) (λr=>.tup (r.2.map dN)) (λr=>fM (r.1,(aY ((r.2.map λp=>ps.getD p 0).map dN)).map jJ)) ?_ (by omega) λr hr=>?_) rfl ?_)
 ·show (g2 bg (af 0) (gC (.int 1)) _ >>= _)=_;rw [two (x:=.d w.d) rfl rfl (uT _ _ _)];rfl
 ·obtain ⟨h1,h2⟩:=h.gA.mp r hr;have h1':=h.m8 r hr;refine ⟨_,bD (aI rfl rfl (aI (n1 (n1 (BO (xs:=r.2) (h:=dN) (λp=>dN (ps.getD p 0)) rfl (by omega) λp hp=>⟨_,two rfl rfl (yI (by rw [hl];exact h2 p hp)),rfl⟩) (x:=.l .fresh (r.2.map λp=>dN (ps.getD p 0))) (z:=.l .fresh (aY ((r.2.map λp=>ps.getD p 0).map dN))) ?_) rfl) rfl bC)) t2,?_⟩
  ·have:=JV (r.2.map λp=>ps.getD p 0) (by simp;omega);rw [N4] at this ⊢;exact this
  ·unfold fM;rw [sA dN jJ qu];rfl
 refine bh (kI (xs:=w.ar) (λr=>.str r.1) (λr=>.tup (r.2.map dP)) (λr=>gT (r.1,(aY ((r.2.map λp=>(ps.getD p.1 0,ps.getD p.2 0)).map dP)).map gD)) ?_ (by omega) λr hr=>?_) rfl ?_
 ·show (g2 bg (af 0) (gC (.int 2)) _ >>= _)=_;rw [two (x:=.d w.d) rfl rfl (KC _ _ _ _)];rfl
 ·obtain ⟨h1,h2⟩:=h.gA.ap r hr;refine ⟨_,bD (aI rfl rfl (aI (n1 (n1 (kI (xs:=r.2) (λp=>dN p.1) (λp=>dN p.2) (λp=>dP (ps.getD p.1 0,ps.getD p.2 0)) rfl (by omega) λp hp=>⟨_,bD (aI (two rfl rfl (yI (by rw [hl];exact (h2 p hp).1))) rfl (aI (two rfl rfl (yI (by rw [hl];exact (h2 p hp).2))) rfl bC)) t2,rfl⟩) (x:=.l .fresh (r.2.map λp=>dP (ps.getD p.1 0,ps.getD p.2 0))) (z:=.l .fresh (aY ((r.2.map λp=>(ps.getD p.1 0,ps.getD p.2 0)).map dP))) ?_) rfl) rfl bC)) t2,?_⟩
  ·have:=JW (r.2.map λp=>(ps.getD p.1 0,ps.getD p.2 0)) (by simp;omega) (jf (vp (h.srt.ap r hr)) λa ha b hb' e=>Xk (jg pm (h2 a ha).1 (h2 b hb').1 (congrArg OT e)) (jg pm (h2 a ha).2 (h2 b hb').2 (congrArg Yx e))) λp hp=>by obtain ⟨q,hq,rfl⟩:=M9.mp hp;have:=gd _ (h2 q hq).1;have:=gd _ (h2 q hq).2;exact ⟨by show ps.getD q.1 0 < 8;omega,by show ps.getD q.2 0 < 8;omega⟩
   rw [N4] at this ⊢;exact this
  ·unfold gT;rw [sA dP gD iS];rfl
 refine bZ (bD (aI (two rfl rfl (nT _ _)) rfl (aI rfl rfl (aI rfl rfl bC))) (by show 3<=1000;decide)) rfl ?_;unfold iM Wd.d;simp only [N4];rfl
structure Lk (w u:Wd):Prop where
 ok:Ok u
 m:u.m=w.m
 mn:u.ms.map OT=w.ms.map OT
 an:u.ar.map OT=w.ar.map OT
structure P2 (v w:Wd):Prop where
 vo:Ok v
 wo:Ok w
 mn:v.ms.map OT=w.ms.map OT
 an:v.ar.map OT=w.ar.map OT
theorem qZ (w:Wd) (ok:Ok w) (c:Int) (hc:0<=c):∃u:Wd,K21.dH [.d w.d,.d (.int c)]=.ok (.d u.d)/\Lk w u:=by
 have hw:=ok.ok;have hb:=ok.gA;have hs:=ok.srt;have ml:=hw.ml;have al:=hw.al;have lo:=hw.lo;have key:Wp (K21.dH [.d w.d,.d (.int c)]) λr=>∃u:Wd,r=.d u.d/\Lk w u:=by
  refine jK (qe rfl rfl rfl ?_);have hadd:d8 (.d (.int ((w.ms.map fM).length:Nat))) (.d (.int ((w.ar.map gT).length:Nat)))=.ok (.d (.int ((w.ms.length + w.ar.length:Nat):Int))):=by rw [fp,M7,M7,<-Int.natCast_add]
  by_cases c0:w.ms.length + w.ar.length=0
  ·refine cP (iP ?_ (bZ rfl rfl ⟨_,rfl,w,rfl,ok,rfl,rfl,rfl⟩));show (g2 _ _ _ _ >>= _)=_;rw [two (two (n1 rfl rfl) (n1 rfl rfl) hadd) rfl (eq_int _ _ _),c0];rfl
  ·have hs':(0:Int) < ((w.ms.length + w.ar.length:Nat):Int):=by omega
   have hm:(0:Int) < (w.m:Int):=by omega
   refine f7 ?_ (bh (two rfl (two (n1 rfl rfl) (n1 rfl rfl) hadd) (dz _ _ hs')) rfl (bh (two (two rfl rfl (iw _ 6 (by decide) (by decide))) rfl (dz _ _ hm)) rfl (bh rfl rfl ?_)))
   ·show (g2 _ _ _ _ >>= _)=_;rw [two (two (n1 rfl rfl) (n1 rfl rfl) hadd) rfl (eq_int _ _ _)];show M.ok ((((w.ms.length + w.ar.length:Nat):Int)) == 0)=_;rw [beq_eq_false_iff_ne.mpr (by omega)]
   obtain ⟨k,hk⟩:=pW (Qm c (b:=((w.ms.length + w.ar.length:Nat):Int)) (by omega));have Mw:=Pk c hs';obtain ⟨p,hp⟩:=pW (Qm (c / 6) (b:=(w.m:Int)) (by omega));have hpl:=Pk (c / 6) hm;obtain ⟨q,hq⟩:=pW (Qm (c / 48) (b:=(w.m:Int)) (by omega));have MB:=Pk (c / 48) hm;rw [hk] at Mw;rw [hp] at hpl;rw [hq] at MB;rw [hk,hp];by_cases ck:k < w.ms.length
   ·obtain ⟨L',o1,oS,oN,o2,o3⟩:=rK dN (λp=>p < w.m) (λxs=>xs.Pairwise (· < ·)) (λxs p h=>h.filter p) 8 (by decide) (λ_=>Ny _) false (λ_=>rfl) (λxs hl _=>J6 xs (by omega)) w.ms ⟨λr hr=>⟨ok.m8 r hr,ok.mr r hr⟩⟩ hs.mp ml k ck p (by show p < w.m;omega) (some (.d w.d)) (some (.d (.int c))) (.int w.m) (.tup (w.ms.map fM)) (.tup (w.ar.map gT));refine f7 ?_ (Wp.of o3 ⟨_,rfl,⟨w.m,L',w.ar⟩,rfl,⟨⟨lo,hw.hi,by show L'.length<=3;omega,al⟩,⟨oS,hs.ap⟩,λr hr=>(o1.all r hr).2,ok.ar⟩,rfl,oN,rfl⟩);show M.ok (decide ((((w.ms.map fM).length:Nat):Int)<=(k:Int)))=_;rw [decide_eq_false (by simp;omega)]
   ·obtain ⟨L',o1,oS,oN,o2,o3⟩:=rK dP (λp=>p.1 < w.m/\p.2 < w.m) (λxs=>xs.Pairwise pZ) (λxs p h=>h.filter p) 64 (by decide) (λ_=>(by decide:(1:Nat)<=1)) true (λ_=>rfl) (λxs hl hx=>J_ xs (by omega) λp hp=>by have:=hx p hp;have:=hw.hi;omega) w.ar ⟨hb.ap⟩ hs.ap al (k - w.ms.length) (by omega) (p,q) (by show p < w.m/\q < w.m;omega) (some (.d w.d)) (some (.d (.int c))) (.int w.m) (.tup (w.ms.map fM)) (.tup (w.ar.map gT));refine cP (iP ?_ (bh (x:=.d (.int ((k - w.ms.length:Nat):Int))) (two rfl (n1 rfl rfl) rfl) ?_ (bh (x:=.d (dP (p,q))) (bD (aI rfl rfl (aI (two (two rfl rfl (iw _ 48 (by decide) (by decide))) rfl (dz _ _ hm)) rfl bC)) t2) ?_ (fQ rfl rfl (Wp.of o3 ⟨_,rfl,⟨w.m,w.ms,L'⟩,rfl,⟨⟨lo,hw.hi,ml,by show L'.length<=3;omega⟩,⟨hs.mp,oS⟩,ok.mr,λr hr=>(o1.all r hr).2⟩,rfl,rfl,oN⟩)))))
    ·show M.ok (decide ((((w.ms.map fM).length:Nat):Int)<=(k:Int)))=_;rw [decide_eq_true (by simp;omega)]
    ·show M.ok (S.d (.int ((k:Int) - (((w.ms.map fM).length:Nat):Int))))=_;rw [M7,show (k:Int) - (w.ms.length:Int)=((k - w.ms.length:Nat):Int) by omega]
    ·show M.ok (S.d (.tup [.int p,.int (c / 48 % w.m)]))=_;rw [hq]
 obtain ⟨_,h,u,rfl,hu⟩:=key;exact ⟨u,h,hu⟩
theorem Ib (ns:List Int) (sz:List Nat) (hz:sz.length=8) (hs:∀n∈sz,1<=n/\n<=8):∃v w:Wd,K21.gx [.bor (ns.map D.int),.bor (sz.map dN)]=.ok (.d (.tup [v.d,w.d]))/\P2 v w:=by
 have c0:=K51.g_ ns 0;have c1':=K51.g_ ns 1;have c2':=K51.g_ ns 2;have c9:=K51.g_ ns 9;have c10:=K51.g_ ns 10;have key:Wp (K21.gx [.bor (ns.map D.int),.bor (sz.map dN)]) λr=>∃v w:Wd,r=.d (.tup [v.d,w.d])/\P2 v w:=by
  refine jK (bh (c2 rfl rfl (K51.zu ns 0)) rfl (bh (c2 rfl rfl (dG ns _ 1 rfl)) rfl ?_));obtain ⟨a,ha,ea⟩:=j_ (xs:=[1,0,2,3]) (h:=dN) (.l .fresh ([1,0,2,3].map dN)) rfl (K51.bO ns 1 % 4) (by omega) (by show _ < (4:Int);omega);obtain ⟨b,hb,eb⟩:=j_ (xs:=[1,2,0,1,3]) (h:=dN) (.l .fresh ([1,2,0,1,3].map dN)) rfl (K51.bO ns 1 / 4 % 5) (by omega) (by show _ < (5:Int);omega);have ha:a<=3:=by simp at ha;omega
  have hb:b<=3:=by simp at hb;omega
  obtain ⟨A,hA,lA⟩:=K51.wF (K51.bO ns 1 / 20) (by omega) a ha;obtain ⟨B,hB,lB⟩:=K51.wF (K51.bO ns 2) (by omega) b hb;refine bh (c2 rfl (two (u_ rfl (by show 4<=1000;decide)) rfl ea) hA) rfl ?_;refine cP (Jg rfl (fQ (bD (aI rfl rfl (aI (c2 (c2 rfl rfl (dG ns _ 2 rfl)) (two (u_ rfl (by show 5<=1000;decide)) rfl eb) hB) rfl bC)) (by show 2<=1000;decide)) rfl ?_));have mk:∀(m:Nat),1<=m/\m<=8->∀(j:Nat),∃w:Wd,K51.dW [.d (.tup [.lst (A.map .str),.lst (B.map .str)]),.d (.int m),.bor ((Ng 6).map λk=>.int (K51.bO ns (j + k)))]=.ok (.d w.d)/\Ok w/\w.m=m/\w.ms.map OT=A/\w.ar.map OT=B:=λm hm j=>by obtain ⟨ms,rs,hw,h1,h2,h3,h4⟩:=K51.FT m hm.1 (by omega) A B (by omega) (by omega) ((Ng 6).map λk=>K51.bO ns (j + k)) rfl;rw [N4] at hw;have l1:=congrArg Q5 h1;have l2:=congrArg Q5 h2;rw [M7] at l1 l2;exact ⟨⟨m,ms,rs⟩,hw,⟨⟨hm.1,by show m<=8;omega,by show ms.length<=3;omega,by show rs.length<=3;omega⟩,⟨λr hr=>(h3 r hr).2.1,λr hr=>(h4 r hr).2.1⟩,λr hr=>(h3 r hr).2.2,λr hr=>(h4 r hr).2.2⟩,rfl,h1,h2⟩
  obtain ⟨m,hm,em⟩:=j_ (xs:=sz) (h:=dN) (.l .bor (sz.map dN)) rfl (K51.bO ns 0 % 8) (by omega) (by omega);obtain ⟨v,hv,vo,vm,vl,va⟩:=mk m (hs m hm) 3;refine bh (c3 rfl (two rfl rfl em) (BO (xs:=Ng 6) (h:=dN) (λk=>.int (K51.bO ns (3 + k))) (qU rfl (by decide)) (by decide) λk hk=>⟨_,c2 rfl (two rfl rfl (qp _ _)) (dG ns _ (3 + k) (by simp)),rfl⟩) hv) rfl ?_;refine bh (two (two rfl rfl (iw _ 8 (by decide) (by decide))) rfl (dz _ 4 (by decide))) rfl ?_;have vm4:=(hs m hm).2;have MJ:=Qm (K51.bO ns 0 / 8) (b:=4) (by decide);have MK:=Pk (K51.bO ns 0 / 8) (b:=4) (by decide);generalize K51.bO ns 0 / 8 % 4=wy at MJ MK;by_cases cw:wy=0
  ·subst cw;obtain ⟨m2,hm2,em2⟩:=j_ (xs:=sz) (h:=dN) (.l .bor (sz.map dN)) rfl (K51.bO ns 0 / 32 % 8) (by omega) (by omega);obtain ⟨w,hw,wo,wm,wl,wa⟩:=mk m2 (hs m2 hm2) 9;have:=(hs m2 hm2).2;exact cP (iP rfl (bZ (bD (aI rfl rfl (aI (c3 rfl (two rfl (two (two rfl rfl (iw _ 32 (by decide) (by decide))) rfl (dz _ 8 (by decide))) em2) (BO (xs:=Ng 6) (h:=dN) (λk=>.int (K51.bO ns (9 + k))) (qU rfl (by decide)) (by decide) λk hk=>⟨_,c2 rfl (two rfl rfl (qp _ _)) (dG ns _ (9 + k) (by simp)),rfl⟩) hw) rfl bC)) t2) rfl ⟨_,rfl,v,w,rfl,⟨vo,wo,by rw [vl,wl],by rw [va,wa]⟩⟩))
  ·refine f7 ?_ ?_
   ·show M.ok (wy == 0)=_;rw [beq_eq_false_iff_ne.mpr cw]
   obtain ⟨ps,hps,pm⟩:=By (K51.bO ns 15) v.m vo.ok.hi;have lps:ps.length=v.m:=by rw [pm.length_eq,Oo]
   have ht:=K21.BA v vo ps pm;have to:=vo.tu pm;obtain ⟨_,_,_,tm,tl,ta⟩:=Bk v vo.ok 64 vo.gA vo.srt ps pm;refine bh (c2 rfl (c2 (c2 rfl rfl (dG ns _ 15 rfl)) (two rfl rfl (nT _ _)) hps) ht) rfl ?_;obtain ⟨u1,f1,k1⟩:=K21.qZ (iM v ps) to (K51.bO ns 9) c9;obtain ⟨u2,f2,k2⟩:=K21.qZ u1 k1.ok (K51.bO ns 10) c10;have a1:=k1.m;have a2:=k1.mn;have a3:=k1.an;have b1:=k2.m;have b2:=k2.mn;have b3:=k2.an;have w3:wy=1\/wy=2\/wy=3:=by omega
   rcases w3 with rfl | rfl | rfl
   ·exact f7 rfl (f7 rfl (bZ (bD (aI rfl rfl (aI rfl rfl bC)) t2) rfl ⟨_,rfl,v,iM v ps,rfl,⟨vo,to,tl.symm,ta.symm⟩⟩))
   ·exact cP (iP rfl (fQ (c2 rfl (c2 rfl rfl (dG ns _ 9 rfl)) f1) rfl (f7 rfl (bZ (bD (aI rfl rfl (aI rfl rfl bC)) t2) rfl ⟨_,rfl,v,u1,rfl,⟨vo,k1.ok,by rw [a2,tl],by rw [a3,ta]⟩⟩))))
   ·exact cP (iP rfl (fQ (c2 rfl (c2 rfl rfl (dG ns _ 9 rfl)) f1) rfl (cP (iP rfl (fQ (c2 rfl (c2 rfl rfl (dG ns _ 10 rfl)) f2) rfl (bZ (bD (aI rfl rfl (aI rfl rfl bC)) t2) rfl ⟨_,rfl,v,u2,rfl,⟨vo,k2.ok,by rw [b2,a2,tl],by rw [b3,a3,ta]⟩⟩))))))
 obtain ⟨_,h,v,w,rfl,hk⟩:=key;exact ⟨v,w,h,hk⟩
end K21
namespace K21
open PySem DL K01 WP K51 K52 K55 K23 K22 K33 K32
theorem and_val {env:Ev}{a b:G Bool}{x y:Bool}(h:a env=.ok x) (h2:b env=.ok y):i_ a b env=.ok (x && y):=by
 cases x with
 | true=>exact D_ h h2
 | false=>exact F5 h
theorem Bx (ns:List Int){v w:Wd}(t:P2 v w):∃ps:Ps,K32.eY [.bor (ns.map D.int),.d v.d,.d w.d]=.ok (.d (iL ps))/\ps.length<=5/\∀p∈ps,tV v w p:=by
 have vlo:=t.vo.ok.lo;have wlo:=t.wo.ok.lo;have key:Wp (K32.eY [.bor (ns.map D.int),.d v.d,.d w.d]) λr=>∃ps:Ps,r=.d (iL ps)/\ps.length<=5/\∀p∈ps,tV v w p:=by
  obtain ⟨os,ho,lo,_⟩:=D3 (K51.bO ns 15) v.m t.vo.ok.hi;refine jK (bh (c2 rfl rfl (K51.dG ns _ 16 rfl)) rfl (bh (c2 (c2 rfl rfl (K51.dG ns _ 15 rfl)) (two rfl rfl (nT _ _)) ho) rfl (bh rfl rfl ?_)));obtain ⟨n,hn,MO⟩:=qN (K51.bO ns 16) 6 (by decide);refine jG (mO (n:=n) (jB ((two rfl rfl (dz _ 6 (by decide))).trans (by rw [<-hn];rfl))) (by omega)) ?_;refine ly (λk env=>∃(ps:Ps) (a b c d:Option S),env=eQ ns v w os ps a b c d/\ps.length=k/\∀p∈ps,tV v w p) ⟨[],none,none,none,none,rfl,rfl,λ_ h=>nomatch h⟩ ?_ ?_
  ·rintro k hk _ ⟨ps,a,b,c,d,rfl,hl,hr⟩;have ck:=K51.g_ ns (17 + k);obtain ⟨x,hx,Mc⟩:=qN (K51.bO ns (17 + k)) v.m (by omega);obtain ⟨y,hy,hyl⟩:=qN (K51.bO ns (17 + k) / 8) w.m (by omega);refine ⟨_,rfl,bh (c2 rfl (two rfl rfl (qp _ _)) (K51.dG ns _ (17 + k) (by simp))) rfl (bh (two rfl (two rfl rfl (nT _ _)) (dz _ _ (by omega))) rfl (bh (two (two rfl rfl (iw _ 8 (by decide) (by decide))) (two rfl rfl (nT _ _)) (dz _ _ (by omega))) rfl ?_))⟩;rw [hx,hy];have hix:=yI (ps:=os) (p:=x) (by omega);have app:∀z:Nat,z < w.m->Wp (jb 5 (bJ (aA (af 8) (aA (af 9) aX))) (eQ ns v w os ps (some (.d (.int k))) (some (.d (.int (K51.bO ns (17 + k))))) (some (.d (.int x))) (some (.d (.int z)))))
     (λo=>∃e,o=.nx e/\∃(ps:Ps) (a b c d:Option S),e=eQ ns v w os ps a b c d/\ps.length=k + 1/\∀p∈ps,tV v w p):=λz hz=>
    nq rfl (bD (aI rfl rfl (aI rfl rfl bC)) t2) rfl (by rw [M7];omega) ⟨_,rfl,ps++[(x,z)],_,_,_,_,by show _=eQ ns v w os (ps++[(x,z)]) _ _ _ _;unfold eQ;rw [NW];rfl,by rw [NG,hl];rfl,λp hp=>by
     rcases NV.mp hp with h | h
     ·exact hr p h
     ·rw [NH.mp h];exact ⟨by show x < v.m;omega,hz⟩⟩
   have ht:∃b,(i_ (cI (g2 (cG false) (g2 cM (g2 eO (af 3) (gC (.int 6))) (gC (.int 2))) (gC (.int 1)))) (i_ (cI (g2 (l6 λi j=>.bl (decide (i < j))) (g2 bg (af 4) (af 8)) (g2 bg (af 2) (gC (.int 0))))) (cI (g2 (l6 λi j=>.bl (decide (j < i))) (g2 cM (g2 eO (af 7) (gC (.int 64))) (gC (.int 5))) (gC (.int 0))))) (eQ ns v w os ps (some (.d (.int k))) (some (.d (.int (K51.bO ns (17 + k))))) (some (.d (.int x))) (some (.d (.int y)))))=.ok b/\(b=true->os.getD x 0 < w.m):=by refine ⟨_,and_val (f9 (two (two rfl rfl (iw _ 6 (by decide) (by decide))) rfl (dz _ 2 (by decide))) rfl (K01.eq_int ..)) (and_val (f9 (two rfl rfl hix) (two rfl rfl (nT _ _)) rfl) (f9 (two (two rfl rfl (iw _ 64 (by decide) (by decide))) rfl (dz _ 5 (by decide))) rfl rfl)),λq=>?_⟩;rw [M8,M8] at q;have:=of_decide_eq_true q.2.1;omega
   obtain ⟨bb,hb,hlt⟩:=ht;exact cP (qL hb (λq=>fQ (two rfl rfl hix) rfl (app _ (hlt q))) λ_=>mD (app y (by omega)))
  ·rintro _ ⟨ps,a,b,c,d,rfl,hl,hr⟩;exact bZ rfl rfl ⟨_,rfl,ps,rfl,by omega,hr⟩
 obtain ⟨_,h,ps,rfl,hk⟩:=key;exact ⟨ps,h,hk⟩
theorem FP {v w:Wd}(t:P2 v w):K23.gI [.d v.d,.d w.d]=.ok (.d .non):=by
 refine H_ (GI (f9 (b:=false) (c1 rfl (K23.tR v t.vo.ok)) (c1 rfl (K23.tR w t.wo.ok)) ?_) (mD ⟨_,rfl⟩));show cG true (.d (iu v)) (.d (iu w))=_;rw [ni true (.d (iu v)) (.d (iu w)) (xQ v) (xQ w)];have e:iu v=iu w:=by unfold iu;rw [t.mn,t.an]
 show M.ok (R.d (.bl (!aV (iu v) (iu w))))=_;rw [e,fD];rfl
theorem Eo {v w:Wd}(t:P2 v w) (ps:List (Nat×Nat)):l7 v w ps=true↔∀p∈ps,∀q∈ps,Jh v w p q:=by
 have l1:v.ms.length=w.ms.length:=by have:=congrArg Q5 t.mn;simpa using this
 have l2:v.ar.length=w.ar.length:=by have:=congrArg Q5 t.an;simpa using this
 have e1:∀p q:Nat×Nat,eB p q=true↔(p.1=q.1↔p.2=q.2):=λp q=>by unfold eB;rw [beq_iff_eq,O4,beq_iff_eq,beq_iff_eq]
 unfold l7;rw [NC];constructor
 ·intro h p hp q hq;have h1:=h p hp;rw [M8,NC] at h1;have h2:=h1.2 q hq;rw [M8] at h2;exact ⟨(e1 p q).mp h2.1,(kF (λr:Str×List Nat=>decide (p.1∈r.2)) (λr:Str×List Nat=>decide (p.2∈r.2)) l1).mp h1.1,(kF (λr:Str×List (Nat×Nat)=>decide ((p.1,q.1)∈r.2)) (λr:Str×List (Nat×Nat)=>decide ((p.2,q.2)∈r.2)) l2).mp h2.2⟩
 ·intro h p hp;rw [M8,NC];refine ⟨(kF (λr:Str×List Nat=>decide (p.1∈r.2)) (λr:Str×List Nat=>decide (p.2∈r.2)) l1).mpr (h p hp p hp).ms,λq hq=>?_⟩;rw [M8];exact ⟨(e1 p q).mpr (h p hp q hq).eq,(kF (λr:Str×List (Nat×Nat)=>decide ((p.1,q.1)∈r.2)) (λr:Str×List (Nat×Nat)=>decide ((p.2,q.2)∈r.2)) l2).mpr (h p hp q hq).ar⟩
theorem qx {v w:Wd}(t:P2 v w) (d:D) (qs ps:Ps) (hl:qs.length<=100) (hr:K23.iT [.d d]=.ok (.d (iL qs))) (hq:∀q,q∈qs↔q∈ps) (hp:∀p∈ps,tV v w p):K21.jq [.d v.d,.d w.d,.d d]=.ok (.d (.bl (l7 v w ps))):=by
 have hn:=FP t;refine fZ (El (c2 rfl rfl hn) (bh (c1 rfl (wG v t.vo.ok)) rfl (bh (c1 rfl (wG w t.wo.ok)) rfl (bh (c1 rfl hr) rfl (bZ (n1 (x:=.l .fresh ((qs.flatMap λp=>qs.map λq=>(p,q)).map λx=>.bl (t9 v w x.1 x.2))) ?_ (allM (λx:(Nat×Nat)×(Nat×Nat)=>t9 v w x.1 x.2) _)) rfl ?_)))))
 ·refine (Dq (xs:=qs) (h:=dP) (h':=dP) (λ_=>qs) (λ_ _=>true) (λp q=>.bl (t9 v w p q)) rfl (by omega) λp h1=>⟨by omega,λz=>rfl,λq h2=>⟨rfl,λ_=>D5 (c4 rfl rfl rfl rfl (D0 v w p q (hp p ((hq p).mp h1)) (hp q ((hq q).mp h2)))) rfl⟩⟩).trans ?_;rw [yf,V9];simp only [N4];rfl
 ·congr 3;rw [O4,Eo t,NC];constructor
  ·intro h p h1 q h2;exact (wO v w p q).mp (h (p,q) (Uh.mpr ⟨p,(hq p).mpr h1,M9.mpr ⟨q,(hq q).mpr h2,rfl⟩⟩))
  ·rintro h x hx;obtain ⟨p,h1,h2⟩:=Uh.mp hx;obtain ⟨q,h3,rfl⟩:=M9.mp h2;exact (wO v w p q).mpr (h p ((hq p).mp h1) q ((hq q).mp h3))
theorem EK (ns:List Int) (hl:ns.length<=63):oh [.bor (ns.map D.int)]=.ok (.d (.bl true)):=by
 obtain ⟨v,w,h2,t⟩:=K21.Ib ns [1,2,3,4,5,6,7,8] rfl (by decide);obtain ⟨ps,hp,lp,rp⟩:=K21.Bx ns t;obtain ⟨qs,r1,q1,l1⟩:=tQ ps (by omega);obtain ⟨qs2,r2,q2,l2⟩:=tQ ps.reverse (by rw [U_];omega);rw [U_] at l2;have f1:=qx t (iL ps) qs ps (by omega) r1 q1 rp;have f2:=qx t (iL ps.reverse) qs2 ps (by omega) r2 (λq=>by rw [q2,P_]) rp;have lf:=K22.FO v w ps;have hn:ps=[]->K21.jq [.d v.d,.d w.d,.d .non]=.ok (.d (.bl (l7 v w ps))):=λe=>qx t .non [] ps (by decide) zv (λq=>by rw [e]) rp;have hc:=K51.dG ns 22 22 rfl;unfold oh BZ;generalize K21.gx=A1 at h2 ⊢;generalize K32.eY=A2 at hp ⊢;generalize K22.gF=A3 at lf ⊢;generalize K21.jq=A4 at f1 f2 hn ⊢;generalize K51.bx=A5 at hc ⊢;generalize l7 v w ps=B at *;refine fZ (qe (c2 rfl (u_ rfl (by decide)) h2) rfl rfl (bh (c3 rfl rfl rfl hp) rfl (bh (c3 rfl rfl rfl lf) rfl (bh (c3 rfl rfl rfl f1) rfl ?_))));have fin:Wp ((aK (aZ 6 (gN (bf 3 A4) (ao (af 1) (ao (af 2) (ao (BX (af 3)) aF)))))
 (cg (kN (uM "bool" (af 5)) (kN (g2 (cG false) (af 5) (af 4)) (kN (uM "bool" (af 6)) (g2 (cG false) (af 6) (af 4))))))) [some (.bor (ns.map D.int)),some (.d v.d),some (.d w.d),some (.d (iL ps)),some (.d (.bl B)),some (.d (.bl B)),none]) (·=.rt (.d (.bl true))):=by
  refine bh (c3 (w:=.d (iL ps.reverse)) rfl rfl ?_ f2) rfl (bZ (r:=.d (.bl true)) ?_ rfl rfl)
  ·show M.ok (R.d (.tup (ps.map dP).reverse))=_;rw [<-List.map_reverse]
  ·cases B <;> rfl
 have te:cI (g2 (cG false) (af 3) (bJ aX)) [some (.bor (ns.map D.int)),some (.d v.d),some (.d w.d),some (.d (iL ps)),some (.d (.bl B)),some (.d (.bl B)),none]=.ok (decide (ps=[])):=by
  refine f9 rfl (bD bC (by decide)) ((ni false (.d (iL ps)) (.d (.tup [])) ?_ (by decide)).trans ?_)
  ·have:=lW ps;show dep (.tup (ps.map dP))<=60;have:deps (ps.map dP)<=1:=fc λx hx=>by obtain ⟨k,_,rfl⟩:=M9.mp hx;exact (by decide:(1:Nat)<=1)
   simp only [dep];omega
  ·cases ps <;> rfl
 have tc:cI (g2 (cG false) (g2 cM (gN (bf 2 A5) (ao (af 0) (ao (gC (.int 22)) aF))) (gC (.int 2))) (gC (.int 1))) [some (.bor (ns.map D.int)),some (.d v.d),some (.d w.d),some (.d (iL ps)),some (.d (.bl B)),some (.d (.bl B)),none]=.ok (K51.bO ns 22 % 2 == 1):=f9 (two (c2 rfl rfl hc) rfl (dz _ 2 (by decide))) rfl (K01.eq_int ..);refine cP (qL (and_val te tc) (λq=>?_) λ_=>mD fin);rw [M8,decide_eq_true_eq] at q;exact fQ (c3 rfl rfl rfl (hn q.1)) rfl fin
end K21
namespace K21
open PySem PySem.Spec PyProof.Rows L2 DL DX
theorem all_mk {l:Uz}{w:NS}{K:M1}{h:OQ}{mg:Str->Option M4}{fa:Nu}(X:K.In h) (G:h.Ns NT mg) (Mt:mg "law"=some (.ref fa))
  {f17:Nu}{o17 n17:Option Nu}{s17:Array (Option M4)}{u17 v17 d17 p17 q17 r17:M4}
  (e0:FA K "tongue_of" qm)
  (e1:FA K "need_tongue" mU)
  (e2:FA K "rising" xO)
  (e3:FA K "view" DT)
  (e4:FA K "views" Bf)
  (e5:FA K "agree" Ba)
  (e6:FA K "fits" DR)
  (e7:FA K "_law_cell" qh)
  (e8:FA K "_law_names" nW)
  (e9:FA K "_law_bits" qf)
  (e10:FA K "_law_world" n_)
  (e11:FA K "_law_order" nY)
  (e12:FA K "_law_turned" mP)
  (e13:FA K "_law_flipped" lK)
  (e14:FA K "_law_two" sy)
  (e15:FA K "_law_fits" qi)
  (e16:FA K "_law_pairs" nZ)
  (a17:OD K NT "law"=some (some (.ref f17)))
  (l17:K.lookup f17=some ⟨u17,o17,.func (Pr "law" "law" (eu k9) (cC k9) (aT k9) .none v17 d17 p17 n17 q17 r17),s17⟩)
  (c17:Sf K q17 "law"=true)
  (k17:QV K (.ref f17)=true)
  (z0:OD K NT "all"=some none)
  (z1:OD K NT "bool"=some none)
  (z2:OD K NT "isinstance"=some none)
  (z3:OD K NT "len"=some none)
  (z4:OD K NT "list"=some none)
  (z5:OD K NT "range"=some none)
  (z6:OD K NT "set"=some none)
  (z7:OD K NT "sorted"=some none)
  (z8:OD K NT "tuple"=some none)
  (z9:OD K NT "zip"=some none):
  ∃fd:Oz,(∀(s:M5) (v:M4),Wh s fd ⟨[v],[]⟩ [("_law_script",v)])/\∀base:OQ,K.In base->base.Ns NT mg->gH l.prog w K mg base jR 4 fa fd ["_law_script"] (lM K 1 K21.oh):=by
 have e:=Mt.symm.trans (XC X G a17);cases e;have F17:=Ai (st:=k9) l17 c17 k17;have m:gE w K mg:=⟨OI X G z0,
   OI X G z1,
   OI X G z2,
   OI X G z3,
   OI X G z4,
   OI X G z5,
   OI X G z6,
   OI X G z7,
   OI X G z8,
   OI X G z9⟩
 refine ⟨Pr "law" "law" (eu k9) (cC k9) (aT k9) .none v17 d17 p17 n17 q17 r17,λs v=>.of_eq rfl,λbase _ _=>?_⟩;have C0:=uz (P:=l.prog) (base:=base) m (dM X G e0);have C1:=qD (P:=l.prog) (base:=base) m C0 (dM X G e1);have C2:=zV (P:=l.prog) (base:=base) m (dM X G e2);have C3:=Ef (P:=l.prog) (base:=base) m (dM X G e3);have C4:=BL (P:=l.prog) (base:=base) m C3 (dM X G e4);have C5:=BI (P:=l.prog) (base:=base) m (dM X G e5);have C6:=Ed (P:=l.prog) (base:=base) m C1 C4 C2 C5 (dM X G e6);have C7:=uo (P:=l.prog) (base:=base) m (dM X G e7);have C8:=sJ (P:=l.prog) (base:=base) m (dM X G e8);have C9:=um (P:=l.prog) (base:=base) m (dM X G e9);have C10:=sN (P:=l.prog) (base:=base) m C9 (dM X G e10);have C11:=sL (P:=l.prog) (base:=base) m (dM X G e11);have C12:=qC (P:=l.prog) (base:=base) m (dM X G e12);have C13:=pg (P:=l.prog) (base:=base) m (dM X G e13);have C14:=v5 (P:=l.prog) (base:=base) m C7 C8 C10 C11 C12 C13 (dM X G e14);have C15:=uq (P:=l.prog) (base:=base) m (dM X G e15);have C16:=sM (P:=l.prog) (base:=base) m C7 C11 (dM X G e16);exact Iu m C14 C16 C15 C6 C7 F17
theorem Fw (K:M1) (H:Hp) (a:Nu) (ns:List Int) (hl:ns.length<=63) (hO:xZ H) (hS:bN K H a (ns.map V.int)):lM K 1 K21.oh [.ref a] H (λv _=>v=.bl true) λ_ _ _=>False:=by
 refine ⟨λ_=>none,[.bor (ns.map D.int)],λ_ _ z=>(by cases z),rfl,⟨_,[],rfl,⟨a,_,rfl,hS,?_⟩,rfl⟩,?_⟩
 ·exact K01.sd ns
 ·rw [EK ns hl];intro v J H2 _ r;cases r;rfl
theorem walk {l:Uz}{q:Nt}{loose:List Str}{XP:(Str->Option M4)->OQ->Prop}{YP:NS->OQ->Prop}{d:DefRec}{K:Yu->M1}(hn:l.most=some 63) (hdf:d.params.defaults=[])
  (hY:∀(w:NS) (h:OQ),YP w h->(K w.params).In h)
  (F:∀(w:NS) (mg:Str->Option M4) (fa:Nu) (h:OQ),(K w.params).In h->h.Ns NT mg->mg d.name=some (.ref fa)->
   ∃fd:Oz,(∀(s:M5) (u:M4),Wh s fd ⟨[u],[]⟩ [("_law_script",u)])/\∀base:OQ,(K w.params).In base->base.Ns NT mg->gH l.prog w (K w.params) mg base jR 4 fa fd ["_law_script"] (lM (K w.params) 1 K21.oh)):
  Xq q loose XP YP l.row.toRowW d [] (λf vs=>W8 f vs):=
 L2.FH (n:=63) (k:=4) (x:="_law_script") (CX:=λ_=>jR) (sp:=λw=>lM (K w.params) 1 K21.oh) hn (by decide) hdf ⟨rfl,by decide,by decide⟩ hY F (λw H a ns hl hO hS=>Fw _ H a ns hl hO hS) λ_ _ _ _ _ z=>z
end K21
open PySem PySem.W PyProof.Rows
set_option maxRecDepth 100000 in
set_option maxHeartbeats 0 in
theorem PySem.Challenge.cw_pickalike_k21_what_fits_holds : PySem.Challenge.rw_pickalike_k21_what_fits.Holds := by
 refine holds_law K21.look λsaid=>?_;refine holds_open (q:=K21.VW) (XP:=XL K21.VW []) (YP:=Hook.says K21.HK) K21.left (Hook.of K21.HK) (Hook.keeps K21.HK) (λs e=>xl_of s (Rk.mp e).1) XL.keeps (by rfl) (by rfl) (by rfl) (λs e=>recFacts_of (Rk.mp e).2) (by rfl) said (by decide +kernel) ⟨rfl,rfl,rfl,rfl,rfl,by decide +kernel⟩ ?hw ?hc
 (case hw=>w_witness2)
 delta K21.HK
 k_fill
 refine K21.walk (l:=Ox) rfl rfl (K:=K21.KF) (λw h Y=>PySem.W.kIn_of Y) ?F
 case F=>
  intro w mg fa h KX G hmg;refine' K21.all_mk KX G hmg ..
  all_goals try first | k_is | (refine' DL.Ig ?a ?l ?c ?k;case a | l | c | k=>k_is)
