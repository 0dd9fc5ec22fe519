import PyProof.Rows.All
import Wide.All
import OpenK.AllK
import Wide.FinOn
import Lean
import PyProof.EqAt
import PyProof.EqKinds
import PyProof.TupleCall
import KE.KIsAll
import PyProof.ExcAttrAll.ValueError
import PyProof.NeKinds
import PyProof.InstStoreFacts
import KE.KSortTup
import PyProof.TupleOfSeq
import PyProof.Rows.SortWalk
import PyProof.EnumFor
import PyProof.EnumStmt
import KE.KUnpackStar
import PyProof.ListRange
import PyProof.TupleKey
import PyProof.SetKind
import PyProof.Rows.SetFrom
import PyProof.SetRoads
import PyProof.CollectWalk
import PyProof.WalksMore
import PyProof.DictCompW
import PyProof.DictRoadsH
import PyProof.DictKinds
import PyProof.DictWalks
import PyProof.StrBlock
import PyProof.StrBlockI
import PySem.Challenge.RW_pickalike_k03_moved
noncomputable section
open Array renaming length_toList->GB,toList_append->GI,toList_extract->HY,toList_push->Ih,toList_reverse->Jc,toList_inj->Jo,getElem?_toList->Jy,getD_eq_getD_getElem?->Lc,getElem?_eq_getElem->Lq,toList->LZ,append_empty->MZ,getElem_mem->Ni,getD->OB
open Array.Perm renaming mem_iff->Lk,refl->N5
open Bool renaming and_eq_true->Gw,false_ne_true->G4,or_eq_true->IJ,false_eq_true->Kc,eq_iff_iff->Kf,and_false->Lm,eq_false_iff->Lx,true_and->LI,and_eq_true_iff->Mr,not_true->OO,false_or->OS
open Classical renaming propDecidable->OV
open False renaming elim->JA
open ForInStep renaming yield->IK
open Int renaming toNat_natCast->Jd,emod_nonneg->Jh,emod_lt_of_pos->J6,eq_ofNat_of_zero_le->LK,zero_add->L_,natCast_add->Ma
open List renaming range->Gg,mem_map->Gi,length_map->Gn,mem_cons_of_mem->Gp,size_toArray->Gq,getElem?_eq_getElem->Gr,mem_cons_self->Gs,mem_cons->Gz,getElem?_eq_some_iff->GC,getElem?_map->GK,length_range->GN,not_mem_nil->GP,replicate->GQ,length_append->GR,map_map->GS,length_take->GU,mem_of_getElem?->GV,all_eq_true->GW,mem_iff_getElem->GY,getElem?_set_ne->G0,mem_append_right->G1,append_assoc->G2,mem_singleton->G5,getD_eq_getElem?_getD->G6,length_replicate->G7,getElem?_set_self->G_,mem_append->Hf,take_append_drop->Hr,map_cons->Ht,mem_range->Hu,pairwise_append->Hx,getElem?_take_of_lt->HA,getElem?_append_right->HG,append_nil->HL,lookup_cons->HN,replicate_succ->HQ,pairwise_map->HV,mem_of_mem_drop->HZ,pairwise_lt_range->Ib,drop_sublist->Ie,map_congr_left->Ii,drop_eq_getElem_cons->Io,perm_append_comm->Iv,pairwise_cons->Iz,length_drop->IA,getElem_mem->IB,getElem_take->IG,getElem_drop->II,take_of_length_le->IM,mem_reverse->IU,getElem?_append_left->IZ,pairwise_iff_getElem->Jb,map_append->Jg,getElem_inj->Jl,drop_zero->Js,getElem?_drop->Ju,nodup_cons->Jx,take_sublist->JC,nodup_iff_pairwise_ne->JH,mem_of_mem_take->JI,getD->JM,length_cons->JN,getElem_map->JP,eq_of_mem_replicate->JT,getElem?_replicate->JV,pairwise_singleton->J_,findIdx?_eq_some_iff_getElem->Km,eraseIdx_eq_take_drop_succ->Ks,length_filter_le->KC,pairwise_reverse->KH,eq_nil_of_length_eq_zero->KJ,range'_succ->KL,ext_getElem->KQ,all_cons->KW,any_cons->KY,mem_filter->K2,filterMap_cons->K4,foldl_cons->K8,zipWith->Lj,drop_drop->Lp,take_zero->Lr,drop_take->Ls,append_cancel_right->Lz,reverse_perm->LB,length->LG,zipIdx_cons->LN,range_succ_eq_map->LU,drop_eq_nil_of_le->LW,of_mem_zip->L4,forIn_cons->L7,foldl->Mg,mem_append_left->Mi,range_eq_range'->Mk,getElem_toArray->Mp,forIn_nil->Mu,take_succ->Mv,range'->MD,map_id->MF,mem_filterMap->MM,contains_cons->MT,filter_append->M0,all_map->Nr,le_antisymm->NC,any_eq_true->NH,take_length->NI,nodup_range->NN,zipIdx_nil->NX,range_succ->NZ,nodup_nil->Og,take_take->Om,map_take->OM,map_drop->ON,lookup->Py
open List.Pairwise renaming nil->JD,and_mem->KI,filter->Mq,and->P_
open List.Perm renaming append_left->KG,refl->My,of_eq->N_,eq_of_pairwise->OC,swap->Ql
open List.cons renaming inj->OW
open Nat renaming le_refl->Gm,lt_of_lt_of_le->Gy,ne_of_lt->G9,zero_le->Hh,le_trans->HB,lt_irrefl->Ik,le_of_succ_le->Ji,lt_trans->Jj,le_add_right->JO,not_lt_zero->Ke,le_of_lt->Ky,ne_of_gt->Lg,zero_add->Ll,lt_succ_self->LO,mul_le_mul_right->Mm,mul_le_mul->Mt,le_succ->MA,lt_succ_of_lt->Ng,lt_trichotomy->Nl,min_eq_left->Oa,le_of_eq->O0,min_self->O1,sub_self->O6,lt_or_ge->O7,add_mul->PN
open Ne renaming symm->Jt
open Option renaming isSome_iff_exists->Hz,bind_some->LM,getD_none->Ny,map_some->NW,none->Px
open Option.some renaming injEq->Ig,inj->Iq
open Or renaming inr->Nt,inl->OA
open Prod renaming fst->Ka,ext->Kv,snd->Qo
open PyProof.Rows renaming wpS_bind->Gj,wpS_pure->Gv,Keyed->GJ,slot_tuple_getitem->Hg,wpS_forRange->Hq,SortSt->HH,arrOf->H_,SortKind->Ip,seqObj->Ir,wpS_mono->IL,wpS_modify->IT,callWith_type1->Jw,wpS_get->JQ,listUpdate_at->Kd,setArr->Kh,failedOf->Kw,seqEpoch_at->Lb,envOfC->Li,pendingOf->LA,wpS_lift->LJ,subscriptTail_builtinR->LS,AllBare->LX,get?_update_seq->Mb,list_sort_plain->Mc,entry_list_sort->Me,slot_list_sort->Mw,args_list_sort->Mx,entry_tuple_getitem->Mz,getElem?_mirror_all->ME,args_tuple_getitem->MQ,sortedHeap_at->M1,sortedHeap->Nj,callWith_builtin1->Nn,listItems_at->Nv,IntsAre->NS,getElem?_bubble->N7,slicePart_none->Od,sortedHeap_old->Ol,tupleItemsOf_->OG,subscriptTail->OI,keyKind'->OQ,mergeAt'->OT,lt_int->PK,lt_str->PL,elem'->P8,IsTup->Qg
open PyProof.Rows.IsTup renaming new->OZ
open PyProof.Rows.SortSt renaming mk'->HJ
open PySem renaming wpAny_bind->Gb,Value->Ge,Shared->Gf,wpAny_pure->Gk,starEach->GA,model->GD,Addr->GF,Program->GG,wpAny->GH,mainGlobals->GL,Around->G3,cellsFrom->G8,World->Hi,Expr->Hl,wpAny_mono->Hv,bootBuiltins->Hw,FuncData->HM,wpAny_field->HW,wpAny_callSpecial?_slot->HX,wpAny_call_entry->Ia,wpAny_newObj_type->Ic,Heap->Ij,behindInMarks->Il,wpAny_holding->Im,NameKind->IC,wpAny_setField_rec->IW,sizeLine_eq->IY,wpAny_seqItems->Ja,mem_of_lookup->Jk,compareOp->Jm,assignEach->Jp,wpAny_rule->Jr,letOwnedTupleGo->Jv,wpAny_truthy_bool->Jz,binaryOp->JB,backTo->JG,wpAny_passesOwn->JU,IsPair->JZ,mem_of_lookup->Kl,cLine->Kn,foldedSetIterable->Kq,sliceBounds->Kr,codeAny_mono->Kz,Stmt->KR,wpAny_updateSeq_pair->KS,wpAny_attempt->KU,wpAny_newList->K0,Scope->K3,Builtin->K6,wpAny_Call_Name_kw->Lh,wpAny_newTuple->Ln,sysModules->Lv,wpAny_pyIter_list->Ly,codeAny->LF,wpAny_onRaise->LH,noFill_tuple_add->LL,wpAny_isTrue_Compare1->LY,wpAny_execs_nil->L3,Paired->MJ,swapsWith->MK,swapsWithSole->ML,bindArgs->MN,seq_tuple_add->MO,IsPart->MP,attributeBase->MR,ZipApart->MW,IsZip->MX,wpAny_pyIter_tuple->MY,wpAny_standAt->M3,getItem->M7,wpAny_sequenceKey->M8,slot_list_getitem->M9,callerA->Na,pyNext->Nm,concat_meets->Np,wpAny_typeOf->Nq,wpAny_execs_cons->Nx,checkBuiltinCall->Nz,wpAny_pyIter_zip->NG,wpAny_forIn_list->NJ,BindsTo->NQ,DictEntry->NT,wpAny_letGo->NY,wpAny_loadPart'->N3,codeAny_builtin->N6,pushCells->N8,pushCells_keeps->N9,recursionLimit->Oc,wpAny_setField->Oi,firstArgMember->Oj,newFunctionEnv->Oo,builtinsNs->Oq,isTrue->Ot,wpAny_Name->Ou,wpAny_call->Ov,call->Ow,swappedStores->OD,rangeSize_one->OE,intBits_le_64->OF,evalPart_none->OH,Comprehension->OU,rawInt->OY,Fin->O5,standAt->Pe,bindL->Pg,bindC->Ph,Keyword->Pw,CellsOk->PM,pyIter->PR,Params->PZ,Model->Qh
open PySem.Around renaming under_plainId->Ml
open PySem.Builtin.List renaming listTooLong->JS
open PySem.Builtin.Range renaming rangeSize->LD
open PySem.Builtin.Slice renaming slicePlaces->I0,sliceAdjust->JJ,sliceApplied->Le,slicePartIndex->NO,sliceFields->Oe
open PySem.Builtin.SmallTypes renaming nextOf->GZ,ownedTupleIsFree->HR,ownedTupleHandOut->JL
open PySem.Builtin.Str renaming tooLong->MB,occurrences->OL
open PySem.Builtin.Tuple renaming tupleExact->Jf,tupleItemsOf->Lf,tupleCompareSizes->Nh,tupleIsExact->Ob,tupleHashOf->Of
open PySem.Calls renaming Name_function_global->Ld,call_function_entry->Lo
open PySem.Challenge renaming rw_pickalike_k03_moved->HE,pw_pickalike_k03_moved->Iw
open PySem.CmpOp renaming NotIn->Pd,In->Qm
open PySem.Data renaming cell->NP,fields->Pf,seq->PY
open PySem.Env renaming kindOf->P5
open PySem.Expr renaming Call->Qk
open PySem.F renaming slot_tuple_iterator_next->IP,args_tuple_add_2->JR,entry_tuple_add->JW,slot_tuple_add->Ko,args_tuple_iterator_next_1->KZ,attrBase_ValueError->K7,entry_tuple_iterator_next->K9,slot_zip_next->K_,slot_tuple_index->LC,args_zip_next_1->Nf,plain_list_iadd->Nk,entry_zip_next->NF
open PySem.Heap renaming get?_push_of_some->Gh,get?_push_size->Gu,lt_size->Gx,size_push->IE,SameBut->IV,get?_update_ne->La,get?_update_self->L8,size_update->NK,ExtBut->PF
open PySem.Heap.IsList renaming push->ND
open PySem.Heap.IsSliceOf renaming new->PU
open PySem.Heap.IsTuple renaming push->P6
open PySem.Heap.SameBut renaming update->MC,refl->P9
open PySem.IsL renaming update->Qa
open PySem.MeetsSeq renaming EqGives->LQ
open PySem.MeetsSeq.EqGives renaming int->Pc
open PySem.NameKind renaming free->Hy,cell->JY
open PySem.Obj renaming mapSeq->IS,data_mapFields->MV
open PySem.PassesOwn renaming leaving->P7,never->Qj
open PySem.SeqAt renaming EqAt->IF,ne_of_list_tuple->LV
open PySem.SeqAt.EqAt renaming same->L5,int_str->MG,str_int->MH,of_refs->MU,tuple_list->O2,list_tuple->O3,none_bool->O9,bool_none->O_,bool_bool->Pa,none_int->Pj,none_str->Pk,bool_int->Pn,bool_str->Po,int_none->Pp,int_bool->Pq,str_none->Pr,str_bool->Pu,int_int->PV,str_str->PX
open PySem.SeqAt.RcAt renaming tuples->Nc,lists->NB,lists_lengths->Oz
open PySem.SeqAt.RcNeAt renaming tuples->Pz,lists->P0
open PySem.Shared renaming heap->PJ
open PySem.Str renaming ofString->KA,length->M_
open PySem.Value renaming none->HD,bool->K1,ref->Lu,builtin->MS,int->OX,type->P1,str->Qe
open PySem.Value.ref renaming inj->Qn
open PySem.W renaming Frag->Gd,mg_none_of->Hj,nsIn->Ho,fnOf->HU,kia_one->Iu,kas_desc->ID,kas_place->IX,findIn->I_,keepIn->Jq,mroIn->JE,kas_sort->JF,InstAt->JK,clsIn->JX,codeIn->Ku,kas_rev->KN,kas_asc->KP,findObj->K5,methodObj->Lw,cellsFrom_some->LR,OpenLaw->L6,looks_findIn->Mj,kitOne->Ms,mg_of->M4,specialIn->Nb,kitx_dict->Nd,kas_descPart->Nu,takesIn->NU,kitMeta->NV,kas_count->N4,notCls->Oh,WalkO->OJ,kas_bin->OP,kat_cons->OR,kas_tail3->O4
open PySem.W.Hook renaming obs->Qc,val->Qd
open PySem.W.OpenLaw renaming wellSaid->Ox
open PySem.W.RowW renaming records->Pb
open PySem.W.WData renaming int->Qi
open PySem.W.WShape renaming has->P4
open Std.Legacy renaming Range->NL
open Std.Legacy.Range renaming forIn_eq_forIn_range'->Mh,size->O8
open Sum renaming inl->M5,inr->M6
open True renaming intro->Mf
set_option Elab.async false
set_option linter.all false
set_option autoImplicit true
set_option relaxedAutoImplicit true
set_option maxRecDepth 100000
namespace L2
open PySem PySem.Spec PyProof.Rows
abbrev Key:=Sum Int Str
noncomputable def yF:Key->Ge->Bool
 | .inl k,v=>Value.isInt k v
 | .inr x,v=>Value.isStrOf x v
noncomputable def DR (w:Hi):Key->Int
 | .inl k=>hashInt k
 | .inr x=>hashStr w x
theorem cT:∀{k:Key}{v:Ge},yF k v=true->(∃i t,k=M5 i/\v=OX i t)\/(∃x t,k=M6 x/\v=Qe x t)
 | .inl i,v,h=>by obtain ⟨t,e⟩:=Value.isInt_shape (k:=i) (v:=v) h;exact .inl ⟨i,t,rfl,e⟩
 | .inr x,v,h=>by obtain ⟨t,e⟩:=Value.isStrOf_shape (x:=x) (v:=v) h;exact .inr ⟨x,t,rfl,e⟩
theorem A6 (a b:Int):decide ((M5 a:Key)=M5 b)=(a == b):=by
 by_cases e:a=b
 ·subst e;simp
 ·have h:¬(M5 a:Key)=M5 b:=λq=>e (Sum.inl.inj q);rw [decide_eq_false h];exact (beq_eq_false_iff_ne.mpr e).symm
theorem A9 (a b:Str):decide ((M6 a:Key)=M6 b)=decide (a=b):=by
 by_cases e:a=b
 ·subst e;simp
 ·have h:¬(M6 a:Key)=M6 b:=λq=>e (Sum.inr.inj q);rw [decide_eq_false h,decide_eq_false e]
theorem A7 (a:Int) (b:Str):decide ((M5 a:Key)=M6 b)=false:=decide_eq_false (λq=>nomatch q)
theorem A8 (a:Str) (b:Int):decide ((M6 a:Key)=M5 b)=false:=decide_eq_false (λq=>nomatch q)
noncomputable def rZ (prog:GG) (w:Hi):PySem.KeyKind prog w Key where
 is:=yF
 hash:=DR w
 inj:=λv a b ha hb=>by
  rcases cT ha with ⟨i,t,rfl,rfl⟩ | ⟨x,t,rfl,rfl⟩
  ·rcases cT hb with ⟨j,u,rfl,e⟩ | ⟨y,u,rfl,e⟩
   ·injection e with e1 _;rw [e1]
   ·exact nomatch e
  ·rcases cT hb with ⟨j,u,rfl,e⟩ | ⟨y,u,rfl,e⟩
   ·exact nomatch e
   ·injection e with e1 _;rw [e1]
 byValue:=λk v h=>by rcases cT h with ⟨i,t,rfl,rfl⟩ | ⟨x,t,rfl,rfl⟩ <;> rfl
 pyHash:=λhv h=>by
  rcases cT hv with ⟨i,t,rfl,rfl⟩ | ⟨x,t,rfl,rfl⟩
  ·exact wpAny_pyHash_int h
  ·exact wpAny_pyHash_str h
 eqBool:=λhu hv h=>by
  rcases cT hu with ⟨i,t,rfl,rfl⟩ | ⟨x,t,rfl,rfl⟩
  ·rcases cT hv with ⟨j,u,rfl,rfl⟩ | ⟨y,u,rfl,rfl⟩
   ·rw [A6] at h;exact wpAny_eqBool_int h
   ·rw [A7] at h;exact MG i t y u _ _ _ _ h
  ·rcases cT hv with ⟨j,u,rfl,rfl⟩ | ⟨y,u,rfl,rfl⟩
   ·rw [A8] at h;exact MH x t j u _ _ _ _ h
   ·rw [A9] at h;exact wpAny_eqBool_str h
 «strs»:=λk x t v h=>by
  rcases cT h with ⟨i,u,rfl,e⟩ | ⟨y,u,rfl,e⟩
  ·exact nomatch e
  ·injection e with e1 _
   subst e1;cases v <;> rfl
inductive V where
 | non | bl (b:Bool) | int (i:Int) | str (x:Str) | byt (b:Array UInt8) | flt (b:UInt64) | ref (a:GF) | ty (n:String)
 deriving DecidableEq
noncomputable def RelV:V->Ge->Prop
 | .non,u=>u=HD
 | .bl b,u=>u=K1 b
 | .int i,u=>∃t,u=OX i t
 | .str x,u=>∃t,u=Qe x t
 | .byt b,u=>∃t,u=Value.bytes b t
 | .flt b,u=>∃t,u=Value.float b t
 | .ref a,u=>u=Lu a
 | .ty n,u=>u=P1 n
abbrev Vals:List V->List Ge->Prop:=MJ RelV
theorem Vals.length {xs:List V}{us:List Ge}(r:Vals xs us):xs.length=us.length:=Paired.length r
theorem Vals.get:∀{xs:List V}{us:List Ge}{i:Nat}{x:V},Vals xs us->xs[i]?=some x->∃u,us[i]?=some u/\RelV x u
 | _,_,_,_,.nil,e=>by simp at e
 | _,_,0,_,.cons r _,e=>by simp at e;subst e;exact ⟨_,rfl,r⟩
 | _,_,i + 1,x,.cons _ t,e=>by obtain ⟨u,h1,h2⟩:=Vals.get (i:=i) (x:=x) t (by simpa using e);exact ⟨u,by simpa using h1,h2⟩
theorem Vals.append:∀{xs ys:List V}{us ws:List Ge},Vals xs us->Vals ys ws->Vals (xs++ys) (us++ws)
 | _,_,_,_,.nil,s=>s
 | _,_,_,_,.cons r t,s=>.cons r (Vals.append t s)
theorem Vals.take:∀{xs:List V}{us:List Ge}(n:Nat),Vals xs us->Vals (xs.take n) (us.take n)
 | _,_,0,_=>.nil
 | _,_,_ + 1,.nil=>.nil
 | _,_,n + 1,.cons r t=>.cons r (Vals.take n t)
theorem Vals.drop:∀{xs:List V}{us:List Ge}(n:Nat),Vals xs us->Vals (xs.drop n) (us.drop n)
 | _,_,0,r=>r
 | _,_,_ + 1,.nil=>.nil
 | _,_,n + 1,.cons _ t=>Vals.drop n t
noncomputable def Ax:Option V->Option Ge->Prop
 | some v,some u=>RelV v u
 | none,none=>True
 | _,_=>False
def KV {κ:Type}:List (κ×V)->List (κ×Ge)->Prop:=MJ λ(p:κ×V) (q:κ×Ge)=>p.1=q.1/\RelV p.2 q.2
noncomputable def kV:Key->V
 | .inl i=>.int i
 | .inr x=>.str x
inductive HO where
  | lst (xs:List V)
  | tup (xs:List V)
  | dK (Ga:List (Key×V)) | dT (Ga:List (List Key×V))
  | set (S:Int->Bool) (n:Nat)
  | ins (C dx:GF) (fs:List (Str×V))
  | own (x:GF)
  | xd (fs:List (Str×V))
  | met (f x:GF)
  | rng (lo hi:Int)
  | frz (o:Obj) (u:HO)
  | tbl (ps:Array Ge)
  | ext (φ:Ij->Prop)
abbrev Hp:=GF->Option HO
def upd (H:Hp) (a:GF) (o:HO):Hp:=λb=>if b=a then some o else H b
theorem cC {H:Hp}:upd H a o a=some o:=by unfold upd;rw [if_pos rfl]
theorem bf {H:Hp}(h:b≠a):upd H a o b=H b:=by unfold upd;rw [if_neg h]
theorem dc {H:Hp}(h:H a=some o) (h':H b=none):a≠b:=by intro e;subst e;rw [h] at h';cases h'
section
variable (P:GG) (w:Hi)
def Dp (h:Ij) (a:GF):Prop:=∀o,h.get? a=some o->o.dict=none
noncomputable def cS (H:Hp) (h:Ij) (a:GF):HO->Prop
 | .lst xs=>xs.length<=sizeLine/\∃(its:List Ge) (n:Nat),Vals xs its/\h.get? a=some {cls:=.type "list",data:=.seq its.toArray n}
 | .tup xs=>xs.length<=sizeLine/\∃its:List Ge,Vals xs its/\Qg h a its.toArray/\Dp h a
 | .dK Ga=>Ga.length<=sizeLine/\(a == Lv)=false/\∃vs,KV Ga vs/\h.DictOf (rZ P w) a vs
 | .dT Ga=>Ga.length<=sizeLine/\(a == Lv)=false/\∃xs:List (List Key×GF×Ge),
   MJ (λ(p:List Key×V) (q:List Key×GF×Ge)=>p.1=q.1/\H q.2.1=some (.tup (p.1.map kV))/\RelV p.2 q.2.2) Ga xs/\
   ∃o es ep,h.get? a=some o/\o.ExactDict/\o.data=.dict es ep/\es.toList=xs.map (entryOfKey (tupleKind (rZ P w)))/\(xs.map (·.1)).Nodup
 | .set S n=>h.SetOf (intKind P w) a S n
 | .ins C dx fs=>H dx=some (.own a)/\fs.length<=1000/\dx≠a/\h.get? a=some (W.instObj C dx)/\
   ∃mA,h.Ns1 dx mA/\(∀f,Ax (fs.lookup f) (mA f))/\PySem.Within mA (fs.map (·.1))
 | .own _=>∃o,h.get? a=some o
 | .xd fs=>∃mA,h.Ns1 a mA/\∀f,Ax (fs.lookup f) (mA f)
 | .rng lo hi=>∃t u v,h.get? a=some {cls:=.type "range",data:=.fields #[.int lo t,.int hi u,.int 1 v]}
 | .frz o u=>h.get? a=some o/\cS H h a u
 | .tbl ps=>h.get? a=some {cls:=.none,data:=.fields ps}
 | .met f x=>h.get? a=some (Lw (.ref f) (.ref x))
 | .ext φ=>φ h/\(∃o,h.get? a=some o)/\∀h1 h2:Ij,φ h1->(∀o,h1.get? a=some o->h2.get? a=some o)->φ h2
def eT (H:Hp) (h:Ij):Prop:=∀a o,H a=some o->cS P w H h a o
end
section
variable {P:GG}{w:Hi}{H H':Hp}{h h':Ij}{a:GF}{o:HO}
theorem cS.lt (x:cS P w H h a o):a < h.objs.size:=by
 cases o with
 | lst xs=>obtain ⟨_,_,_,_,e⟩:=x;exact Gx e
 | tup xs=>obtain ⟨_,_,_,p,_⟩:=x;exact p.lt
 | dK Ga=>obtain ⟨_,_,_,_,o,_,_,e,_⟩:=x;exact Gx e
 | dT Ga=>obtain ⟨_,_,_,_,o,_,_,e,_⟩:=x;exact Gx e
 | set S n=>obtain ⟨o,_,_,_,e,_⟩:=x;exact Gx e
 | ins C dx fs=>obtain ⟨_,_,_,e,_⟩:=x;exact Gx e
 | own y=>obtain ⟨_,e⟩:=x;exact Gx e
 | xd fs=>obtain ⟨_,⟨_,_,_,e,_⟩,_⟩:=x;exact Gx e
 | rng lo hi=>obtain ⟨_,_,_,e⟩:=x;exact Gx e
 | frz ob u=>obtain ⟨e,_⟩:=x;exact Gx e
 | tbl ps=>exact Gx (show h.get? a=some _ from x)
 | met f y=>exact Gx (show h.get? a=some _ from x)
 | ext φ=>obtain ⟨_,⟨_,e⟩,_⟩:=x;exact Gx e
theorem MJ.mapP {α β:Type}{F G:α->β->Prop}:∀{l₁:List α}{l₂:List β},MJ F l₁ l₂->(∀a b,F a b->G a b)->MJ G l₁ l₂
 | _,_,.nil,_=>.nil
 | _,_,.cons r t,f=>.cons (f _ _ r) (MJ.mapP t f)
theorem cS.stay (x:cS P w H h a o) (k:∀b u,(b=a\/H b=some (.own a))->h.get? b=some u->h'.get? b=some u)
  (ho:∀b,H b=some (.own a)->H' b=some (.own a)) (ht:∀b xs,H b=some (.tup xs)->H' b=some (.tup xs)):cS P w H' h' a o:=by
 induction o with
 | lst xs=>obtain ⟨z,its,n,r,e⟩:=x;exact ⟨z,its,n,r,k _ _ (.inl rfl) e⟩
 | tup xs=>obtain ⟨z,its,r,⟨ob,e,c⟩,nd⟩:=x;exact ⟨z,its,r,⟨ob,k _ _ (.inl rfl) e,c⟩,λo q=>by rw [k _ _ (.inl rfl) e] at q;cases q;exact nd _ e⟩
 | dK Ga=>obtain ⟨z,y,vs,r,ob,es,ep,e,c⟩:=x;exact ⟨z,y,vs,r,ob,es,ep,k _ _ (.inl rfl) e,c⟩
 | dT Ga=>
  obtain ⟨z,y,xs,r,ob,es,ep,e,c⟩:=x;exact ⟨z,y,xs,MJ.mapP r λp q z=>⟨z.1,ht _ _ z.2.1,z.2.2⟩,ob,es,ep,k _ _ (.inl rfl) e,c⟩
 | set S n=>obtain ⟨ob,es,ep,t,e,c⟩:=x;exact ⟨ob,es,ep,t,k _ _ (.inl rfl) e,c⟩
 | ins C dx fs=>
  obtain ⟨d,z,ne,e,mA,⟨od,es,ep,e2,c⟩,r⟩:=x;exact ⟨ho _ d,z,ne,k _ _ (.inl rfl) e,mA,⟨od,es,ep,k _ _ (.inr d) e2,c⟩,r⟩
 | own y=>obtain ⟨ob,e⟩:=x;exact ⟨ob,k _ _ (.inl rfl) e⟩
 | xd fs=>obtain ⟨mA,⟨od,es,ep,e,c⟩,r⟩:=x;exact ⟨mA,⟨od,es,ep,k _ _ (.inl rfl) e,c⟩,r⟩
 | rng lo hi=>obtain ⟨t,u,v,e⟩:=x;exact ⟨t,u,v,k _ _ (.inl rfl) e⟩
 | frz ob u ih=>obtain ⟨e,q⟩:=x;exact ⟨k _ _ (.inl rfl) e,ih q⟩
 | tbl ps=>
  have e:h.get? a=some {cls:=.none,data:=.fields ps}:=x;show h'.get? a=some {cls:=.none,data:=.fields ps};exact k a _ (.inl rfl) e
 | met f y=>
  have e:h.get? a=some (Lw (.ref f) (.ref y)):=x;show h'.get? a=some (Lw (.ref f) (.ref y));exact k a _ (.inl rfl) e
 | ext φ=>obtain ⟨p,⟨o,e⟩,st⟩:=x;exact ⟨st _ _ p λo q=>k _ _ (.inl rfl) q,⟨o,k _ _ (.inl rfl) e⟩,st⟩
theorem eT.lt (x:eT P w H h) (e:H a=some o):a < h.objs.size:=(x a o e).lt
theorem eT.fresh (x:eT P w H h) (e:h.objs.size<=a):H a=none:=by
 cases q:H a with
 | none=>rfl
 | some u=>exact absurd (Gy (x.lt q) e) (Ik _)
theorem eT.kept (x:eT P w H h) (k:∀b u,h.get? b=some u->h'.get? b=some u):eT P w H h':=λa o e=>
 (x a o e).stay (λb u _ q=>k b u q) (λ_ q=>q) λ_ _ q=>q
theorem eT.laid (x:eT P w H h) (k:∀b u,h.get? b=some u->h'.get? b=some u) (hp:h.objs.size<=a) (new:cS P w (upd H a o) h' a o):eT P w (upd H a o) h':=λb u e=>by
 have hn:=x.fresh hp;by_cases hb:b=a
 ·subst hb;rw [cC] at e;cases e;exact new
 ·rw [bf hb] at e;exact (x b u e).stay (λc v _ q=>k c v q) (λc q=>by rw [bf (dc q hn)];exact q) λc xs q=>by rw [bf (dc q hn)];exact q
end
def Rd (H:Hp) (a:GF) (u:HO):Prop:=H a=some u\/∃o,H a=some (.frz o u)
theorem Rd.ok {H:Hp}(r:Rd H a u) (x:eT P w H h):cS P w H h a u:=by
 rcases r with r | ⟨o,r⟩
 ·exact x a u r
 ·obtain ⟨_,q⟩:=x a _ r;exact q
noncomputable def yh:Option HO->Prop
 | some (.lst _)=>True
 | some (.dK _)=>True
 | some (.dT _)=>True
 | some (.set _ _)=>True
 | some (.ins _ _ _)=>True
 | some (.ext _)=>True
 | _=>False
section
variable {P:GG}{w:Hi}{H:Hp}{h h':Ij}{x e:GF}{o':HO}
theorem eT.write (ok:eT P w H h) (mu:yh (H x)) (he:e=x\/H e=some (.own x)) (k:∀b u,b≠e->h.get? b=some u->h'.get? b=some u) (E6:∃u,h'.get? e=some u)
  (new:cS P w (upd H x o') h' x o'):eT P w (upd H x o') h':=λb u q=>by
 have nown:∀c y,H c=some (.own y)->c≠x:=λc y r z=>by subst z;rw [r] at mu;exact mu
 have ntup:∀c xs,H c=some (.tup xs)->c≠x:=λc xs r z=>by subst z;rw [r] at mu;exact mu
 by_cases hb:b=x
 ·subst hb;rw [cC] at q;cases q;exact new
 ·rw [bf hb] at q;by_cases E3:b=e
  ·have q':H b=some (.own x):=by
    rcases he with z | z
    ·exact absurd (E3.trans z) hb
    ·rw [E3];exact z
   rw [q] at q';cases q';obtain ⟨v,hv⟩:=E6;exact ⟨v,by rw [E3];exact hv⟩
  ·refine (ok b u q).stay (λc v hc r=>k c v ?_ r) (λc r=>by rw [bf (nown c b r)];exact r) λc xs r=>by rw [bf (ntup c xs r)];exact r
   rcases hc with rfl | hc
   ·exact E3
   ·rintro rfl;rcases he with z | z
    ·exact nown c b hc z
    ·rw [hc] at z;cases z;exact hb rfl
end
structure Un (fs ex:List GF) (H H':Hp) (h h':Ij):Prop where
 keep:∀b o,h.get? b=some o->H b=none->b∉fs->b∉ex->h'.get? b=some o
 slot:∀b o,h.get? b=some o->H b=none->b∈fs->b∉ex->∃sl,h'.get? b=some {o with slots:=sl}
 free:∀b o,h.get? b=some o->H b=none->b∉ex->H' b=none
 there:∀b o,h.get? b=some o->b∉ex->∃o',h'.get? b=some o'
 tups:∀b xs,H b=some (.tup xs)->H' b=some (.tup xs)
 frzs:∀b o u,H b=some (.frz o u)->H' b=some (.frz o u)
 tbls:∀b ps,H b=some (.tbl ps)->∃more,H' b=some (.tbl (ps++more))
section
variable {fs fs' ex ex':List GF}{H H1 H2:Hp}{h h1 h2 h':Ij}{a x e:GF}{o:HO}
theorem Un.any (u:Un fs ex H H1 h h1) (q:h.get? b=some ob) (n:H b=none) (hx:b∉ex):∃sl,h1.get? b=some {ob with slots:=sl}:=by
 by_cases hb:b∈fs
 ·exact u.slot b ob q n hb hx
 ·exact ⟨ob.slots,u.keep b ob q n hb hx⟩
theorem Un.kept (k:∀b u,h.get? b=some u->h'.get? b=some u):Un fs ex H H h h':=
 ⟨λb ob q _ _ _=>k b ob q,λb ob q _ _ _=>⟨ob.slots,k b ob q⟩,λ_ _ _ n _=>n,λb ob q _=>⟨ob,k b ob q⟩,λ_ _ q=>q,λ_ _ _ q=>q,λ_ ps q=>⟨#[],by rw [q];simp⟩⟩
theorem Un.refl:Un fs ex H H h h:=Un.kept λ_ _ q=>q
theorem Un.laid (k:∀b u,h.get? b=some u->h'.get? b=some u) (hp:h.objs.size<=a) (hn:H a=none):Un fs ex H (upd H a o) h h' where
 keep:=λb u q _ _ _=>k b u q
 slot:=λb u q _ _ _=>⟨u.slots,k b u q⟩
 free:=λb u q n _=>by rw [bf (G9 (Gy (Gx q) hp))];exact n
 there:=λb u q _=>⟨u,k b u q⟩
 tups:=λb xs q=>by rw [bf (dc q hn)];exact q
 frzs:=λb u xs q=>by rw [bf (dc q hn)];exact q
 tbls:=λb ps q=>⟨#[],by rw [bf (dc q hn),q];simp⟩
theorem Un.write (mu:yh (H x)) (he:e=x\/H e=some (.own x)) (k:∀b u,b≠e->h.get? b=some u->h'.get? b=some u) (E6:∃u,h'.get? e=some u):Un fs ex H (upd H x o) h h':=by
 have hx:∀b,H b=none->b≠x:=λb n z=>by subst z;rw [n] at mu;exact mu
 have hb:∀b,H b=none->b≠e:=λb n z=>by
  subst z;rcases he with r | r
  ·exact hx b n r
  ·rw [n] at r;cases r
 have hm:∀b u,H b=some u->¬yh (some u)->b≠x:=λb u q nm z=>by subst z;rw [q] at mu;exact nm mu
 refine ⟨λb u q n _ _=>k b u (hb b n) q,λb u q n _ _=>⟨u.slots,k b u (hb b n) q⟩,λb u q n _=>by rw [bf (hx b n)];exact n,λb u q _=>?_,
  λb xs q=>by rw [bf (hm b _ q λz=>z)];exact q,λb u xs q=>by rw [bf (hm b _ q λz=>z)];exact q,λb ps q=>⟨#[],by rw [bf (hm b _ q λz=>z),q];simp⟩⟩
 by_cases E3:b=e
 ·subst E3;exact E6
 ·exact ⟨u,k b u E3 q⟩
end
def yO (h:Ij) (H:Hp):List GF:=(Gg h.objs.size).filter λa=>(H a).isSome
def jr (h:Ij) (H:Hp):Ij:=W.hideAll h (yO h H)
theorem uZ (h:Ij) (H:Hp):(jr h H).objs.size=h.objs.size:=W.hideAll_size _ _
theorem w4 {h:Ij}{H:Hp}(e:h.get? b=some o) (n:H b=none):(jr h H).get? b=some o:=
 W.hideAll_get _ e λhm=>by have q:(H b).isSome=true:=(K2.mp hm).2;rw [n] at q;simp at q
theorem zB {h:Ij}{H:Hp}(e:(jr h H).get? b=some o):h.get? b=some o/\H b=none:=by
 have e':h.get? b=some o:=W.of_hideAll (yO h H) e;refine ⟨e',?_⟩;cases q:H b with
 | none=>rfl
 | some x=>
  have hm:b∈yO h H:=K2.mpr ⟨Hu.mpr (Gx e'),by simp [q]⟩;have z:(jr h H).get? b=none:=W.hideAll_none (yO h H) hm;rw [z] at e;cases e
def yW (g h:Ij) (L:GF):List (GF×Obj):=(Gg h.objs.size).filterMap λa=>if a=L\/(g.get? a).isSome=true then none else (h.get? a).map λo=>(a,o)
def F6 (g h:Ij) (L d:GF):List (GF×Obj):=(yW g h L).filter λp=>decide (p.1≠d)
structure Mod (K:Gd) (mg:Str->Option Ge) (base:Ij):Prop where
 kin:K.In base
 glob:base.Ns GL mg
 blt:∃mb,base.Ns Oq mb/\∀x:Str,x≠"__name__"->mb x=Hw x
 nolimit:base.NoLimit
structure Cx where
 prog:GG
 w:Hi
 K:Gd
 mg:Str->Option Ge
 base:Ij
 A:G3
 N:List Str
 s₀:Gf
 H₀:Hp
 env:Env
 outer:List Env
 stack:List Env
 ex:List GF
 fn:Str->Bool
 calm:Bool
 pn:List (GF×Obj)
 xe:Ge->Gf->Prop
def frs (l:List Env):List GF:=l.filterMap (·.frame)
abbrev Cx.fs (X:Cx):List GF:=frs X.outer
def yo (sc:K3) (x:Str):Prop:=sc.names.lookup x=some .local\/sc.names.lookup x=some .cell\/sc.names.lookup x=some .free
def Loc (sc:K3) (x:Str):Prop:=sc.names.lookup x=some .local\/sc.names.lookup x=some .cell
noncomputable def Look (env:Env) (h:Ij) (m:Str->Option Ge) (x:Str) (u:Ge):Prop:=
 (env.kindOf x=some .local/\m x=some u)\/((env.kindOf x=some .cell\/env.kindOf x=some .free)/\∃c,env.cells.lookup x=some c/\h.IsCell c (some u))
structure Cx.Ok (X:Cx):Prop where
 mod:Mod X.K X.mg X.base
 kind:X.env.scope.kind=.function
 glob:X.env.globals=GL
 blt:X.env.builtins=Oq
 above:X.s₀.heap.objs.size<=X.env.locals
 inj:∀x y c,X.env.cells.lookup x=some c->X.env.cells.lookup y=some c->x=y
 has:∀x,(X.env.kindOf x=some .cell\/X.env.kindOf x=some .free)->∃c,X.env.cells.lookup x=some c
 cab:∀x c,X.fn x=true->X.env.cells.lookup x=some c->X.s₀.heap.objs.size<=c
 hd:X.calm=true->X.A.handled=none
 frames:X.A.frames=some X.stack
 stk:X.stack=X.outer\/(X.stack=X.env::X.outer/\X.env.frame=some X.env.locals)
 exf:∀b∈X.ex,b≠X.env.locals/\∀x c,X.env.cells.lookup x=some c->c≠b
 bs:∀b o,X.base.get? b=some o->X.s₀.heap.get? b=some o/\X.H₀ b=none
 bsz:X.base.objs.size<=X.s₀.heap.objs.size
 noex:∀b o,X.base.get? b=some o->b∉X.ex
 exfs:∀b∈X.ex,b∉X.fs
 funs:X.s₀.heap.FunFrames X.base X.outer
 frf:∀b∈X.fs,X.H₀ b=none
structure Inv (X:Cx) (F3:List (GF×Obj)) (σ:List (Option V)) (H:Hp) (s:Gf):Prop where
 ok:X.Ok
 os:s.os=X.s₀.os
 bare:LX s.gens
 base:Un X.fs X.ex X.H₀ H X.s₀.heap s.heap
 loc:∃m,s.heap.Ns X.env.locals m/\∀(i:Nat) (x:Str) (v:V),X.N[i]?=some x->σ[i]?=some (some v)->yo X.env.scope x->∃u,RelV v u/\Look X.env s.heap m x u
 cell:∀x c,X.env.cells.lookup x=some c->∃v,s.heap.IsCell c v
 free:H X.env.locals=none
 freeC:∀x c,X.env.cells.lookup x=some c->H c=none
 pin:∀p∈X.pn++F3,s.heap.get? p.1=some p.2/\H p.1=none/\p.1≠X.env.locals/\p.1∉X.fs/\∀v,p.2.data≠.cell v
 hok:eT X.prog X.w H s.heap
 len:σ.length=X.N.length
section
variable {X:Cx}{F3:List (GF×Obj)}{σ:List (Option V)}{H H':Hp}{s:Gf}{h':Ij}
theorem Cx.Ok.nofr (ok:X.Ok) (e:X.base.get? b=some o):b∉X.fs:=λhb=>by have:=(ok.funs.mem hb).1;rw [e] at this;cases this
theorem Inv.bs (I:Inv X F3 σ H s):∀b o,X.base.get? b=some o->s.heap.get? b=some o/\H b=none:=λb o e=>
 ⟨I.base.keep b o (I.ok.bs b o e).1 (I.ok.bs b o e).2 (I.ok.nofr e) (I.ok.noex b o e),I.base.free b o (I.ok.bs b o e).1 (I.ok.bs b o e).2 (I.ok.noex b o e)⟩
theorem Inv.bk (I:Inv X F3 σ H s):∀b o,X.base.get? b=some o->s.heap.get? b=some o:=λb o e=>(I.bs b o e).1
theorem Inv.mod (I:Inv X F3 σ H s):Mod X.K X.mg X.base:=I.ok.mod
theorem Inv.kIn (I:Inv X F3 σ H s):X.K.In s.heap:=I.ok.mod.kin.keeps I.bk
theorem Inv.lt (I:Inv X F3 σ H s):X.env.locals < s.heap.objs.size:=let ⟨_,hn,_⟩:=I.loc;hn.lt
theorem Inv.sz (I:Inv X F3 σ H s):X.s₀.heap.objs.size<=s.heap.objs.size:=HB I.ok.above (Ky I.lt)
theorem Inv.nofs (I:Inv X F3 σ H s) (h:s.heap.objs.size<=a):a∉X.fs:=λhb=>by obtain ⟨_,o,ho,_⟩:=I.ok.funs.mem hb;exact absurd (Gy (Gx ho) (HB I.sz h)) (Ik _)
theorem Inv.cne (I:Inv X F3 σ H s):∀x c,X.env.cells.lookup x=some c->c≠X.env.locals:=λx c e z=>by obtain ⟨v,o,ho,hd⟩:=I.cell x c e;obtain ⟨m,⟨o',es,ep,ho',hd',_⟩,_⟩:=I.loc;rw [z,ho'] at ho;cases ho;rw [hd'] at hd;cases hd
theorem Inv.funs (I:Inv X F3 σ H s):s.heap.FunFrames X.base X.outer:=by
 have all:∀(l:List Env),(∀b∈frs l,b∈X.fs)->X.s₀.heap.FunFrames X.base l->s.heap.FunFrames X.base l:=by
  intro l
  induction l with
  | nil=>intro _ _;trivial
  | cons env r ih=>
   intro hs hl;obtain ⟨hk,⟨L,o,hf,hn,ho,hd⟩,hr⟩:=hl;have hL:L∈X.fs:=hs L (by unfold frs;rw [K4,hf];exact Gs);obtain ⟨sl,e⟩:=I.base.slot L o ho (I.ok.frf L hL) hL λz=>I.ok.exfs L z hL;exact ⟨hk,⟨L,_,hf,hn,e,hd⟩,ih (λb hb=>hs b (by unfold frs;rw [K4,hf];exact Gp _ hb)) hr⟩
 exact all X.outer (λ_ hb=>hb) I.ok.funs
theorem Inv.stack (I:Inv X F3 σ H s):s.heap.FunFrames X.base X.stack:=by
 rcases I.ok.stk with e | ⟨e,hf⟩
 ·rw [e];exact I.funs
 ·rw [e];obtain ⟨m,hn,_⟩:=I.loc;refine .cons (by rw [I.ok.kind];decide) hf hn ?_ I.funs;exact Heap.get?_none_of_le (HB I.ok.bsz I.ok.above)
theorem Inv.stkSub (I:Inv X F3 σ H s):∀b∈frs X.stack,b∈X.env.locals::X.fs:=λb hb=>by
 rcases I.ok.stk with e | ⟨e,hf⟩
 ·rw [e] at hb;exact Gp _ hb
 ·rw [e] at hb;unfold frs at hb;rw [K4,hf] at hb;exact hb
theorem Inv.stkFree (I:Inv X F3 σ H s):∀b∈frs X.stack,H b=none:=λb hb=>by
 rcases Gz.mp (I.stkSub b hb) with e | hb
 ·rw [e];exact I.free
 ·obtain ⟨_,o,ho,_⟩:=I.ok.funs.mem hb;exact I.base.free b o ho (I.ok.frf b hb) λz=>I.ok.exfs b z hb
theorem Inv.step {g':Array GenState}{t':Nat}{d':Drawn}{ch:List GF}(I:Inv X F3 σ H s)
  (hch:∀b∈ch,(b∈X.ex\/X.s₀.heap.objs.size<=b)/\b≠X.env.locals/\(∀x c,X.env.cells.lookup x=some c->c≠b)/\∀p∈X.pn++F3,p.1≠b)
  (keep:∀b o,b≠X.env.locals->b∉X.fs->b∉ch->s.heap.get? b=some o->H b=none->h'.get? b=some o)
  (slot:∀b o,b≠X.env.locals->b∈X.fs->b∉ch->s.heap.get? b=some o->H b=none->∃sl,h'.get? b=some {o with slots:=sl}) (free:∀b o,b∉ch->s.heap.get? b=some o->H b=none->H' b=none)
  (there:∀b o,b∉ch->s.heap.get? b=some o->∃o',h'.get? b=some o')
  (tups:∀b xs,H b=some (.tup xs)->H' b=some (.tup xs)) (frzs:∀b o u,H b=some (.frz o u)->H' b=some (.frz o u)) (tbls:∀b ps,H b=some (.tbl ps)->∃more,H' b=some (.tbl (ps++more)))
  (ns:∀m,s.heap.Ns X.env.locals m->h'.Ns X.env.locals m) (hok:eT X.prog X.w H' h') (hg:LX g'):
  Inv X F3 σ H' {s with heap:=h',gens:=g',drawn:=d',toks:=t'}:=by
 have neL:∀b o,X.s₀.heap.get? b=some o->b≠X.env.locals:=λb o e=>G9 (Gy (Gx e) I.ok.above);have neC:∀b o,X.s₀.heap.get? b=some o->b∉X.ex->b∉ch:=λb o e hx hb=>by
  rcases (hch b hb).1 with z | z
  ·exact hx z
  ·exact absurd (Gy (Gx e) z) (Ik _)
 have cellK:∀x c,X.env.cells.lookup x=some c->∀v,s.heap.IsCell c v->h'.IsCell c v:=λx c e v ⟨o,ho,hd⟩=>by
  have nch:c∉ch:=λz=>(hch c z).2.2.1 x c e rfl;by_cases hc:c∈X.fs
  ·obtain ⟨sl,q⟩:=slot c o (I.cne x c e) hc nch ho (I.freeC x c e);exact ⟨_,q,hd⟩
  ·exact ⟨o,keep c o (I.cne x c e) hc nch ho (I.freeC x c e),hd⟩
 refine ⟨I.ok,I.os,hg,⟨λb o e n hb hx=>?_,λb o e n hb hx=>?_,λb o e n hx=>?_,λb o e hx=>?_,λb xs e=>tups b xs (I.base.tups b xs e),λb o xs e=>frzs b o xs (I.base.frzs b o xs e),λb ps e=>?_⟩,?_,λx c e=>?_,?_,λx c e=>?_,λp hp=>?_,hok,I.len⟩
 ·exact keep b o (neL b o e) hb (neC b o e hx) (I.base.keep b o e n hb hx) (I.base.free b o e n hx)
 ·obtain ⟨sl,e1⟩:=I.base.slot b o e n hb hx;obtain ⟨sl',e2⟩:=slot b _ (neL b o e) hb (neC b o e hx) e1 (I.base.free b o e n hx);exact ⟨sl',e2⟩
 ·obtain ⟨o',e1⟩:=I.base.there b o e hx;exact free b o' (neC b o e hx) e1 (I.base.free b o e n hx)
 ·obtain ⟨o',e1⟩:=I.base.there b o e hx;exact there b o' (neC b o e hx) e1
 ·obtain ⟨m1,e1⟩:=I.base.tbls b ps e;obtain ⟨m2,e2⟩:=tbls b _ e1;exact ⟨m1++m2,by rw [e2,Array.append_assoc]⟩
 ·obtain ⟨m,hn,hl⟩:=I.loc;refine ⟨m,ns m hn,λi x v e1 e2 e3=>?_⟩;obtain ⟨u,r,l⟩:=hl i x v e1 e2 e3;refine ⟨u,r,?_⟩;rcases l with l | ⟨k,c,e,z⟩
  ·exact .inl l
  ·exact .inr ⟨k,c,e,cellK x c e _ z⟩
 ·obtain ⟨v,z⟩:=I.cell x c e;exact ⟨v,cellK x c e v z⟩
 ·obtain ⟨m,⟨o,_,_,ho,_⟩,_⟩:=I.loc;exact free _ o (λz=>(hch _ z).2.1 rfl) ho I.free
 ·obtain ⟨v,o,ho,hd⟩:=I.cell x c e;exact free c o (λz=>(hch c z).2.2.1 x c e rfl) ho (I.freeC x c e)
 ·obtain ⟨e,n,ne,nf,d⟩:=I.pin p hp;have nch:p.1∉ch:=λz=>(hch p.1 z).2.2.2 p hp rfl;exact ⟨keep p.1 p.2 ne nf nch e n,free p.1 p.2 nch e n,ne,nf,d⟩
theorem Inv.un (I:Inv X F3 σ H s) (u:Un X.fs [] H H' s.heap h') (hok:eT X.prog X.w H' h'):Inv X F3 σ H' {s with heap:=h',toks:=t'}:=by
 obtain ⟨m,⟨o,es,ep,ho,r⟩,_⟩:=id I.loc;obtain ⟨sl,hL⟩:=u.any ho I.free (by simp);exact I.step (g':=s.gens) (d':=s.drawn) (ch:=[]) (λ_ z=>nomatch z) (λb o _ hb _ e n=>u.keep b o e n hb (by simp)) (λb o _ hb _ e n=>u.slot b o e n hb (by simp)) (λb o _ e n=>u.free b o e n (by simp)) (λb o _ e=>u.there b o e (by simp)) u.tups u.frzs u.tbls (λm' hm=>by
  obtain ⟨o',es',ep',ho',r'⟩:=hm;rw [ho] at ho';cases ho';exact ⟨_,es',ep',hL,r'⟩) hok I.bare
theorem Inv.call (I:Inv X F3 σ H s) (u:Un (frs X.stack) ch H H' s.heap h') (hok:eT X.prog X.w H' h') (hg:LX g')
 (hch:∀b∈ch,(b∈X.ex\/X.s₀.heap.objs.size<=b)/\b≠X.env.locals/\(∀x c,X.env.cells.lookup x=some c->c≠b)/\∀p∈X.pn++F3,p.1≠b):
  Inv X F3 σ H' {s with heap:=h',gens:=g',drawn:=d',toks:=t'}:=by
 obtain ⟨m,⟨o,es,ep,ho,r⟩,_⟩:=id I.loc;obtain ⟨sl,hL⟩:=u.any ho I.free λz=>(hch _ z).2.1 rfl;exact I.step (ch:=ch) hch (λb o hL hb hc e n=>u.keep b o e n (λz=>(Gz.mp (I.stkSub b z)).elim hL hb) hc) (λb o _ _ hc e n=>u.any e n hc) (λb o hc e n=>u.free b o e n hc) (λb o hc e=>u.there b o e hc) u.tups u.frzs u.tbls (λm' hm=>by
  obtain ⟨o',es',ep',ho',r'⟩:=hm;rw [ho] at ho';cases ho';exact ⟨_,es',ep',hL,r'⟩) hok hg
theorem Inv.turned {t':Nat}{it:GF}(I:Inv X F3 σ H s) (k:∀b o,b≠it->s.heap.get? b=some o->h'.get? b=some o) (hn:H it=none) (hL:it≠X.env.locals)
  (h1:it∈X.ex\/X.s₀.heap.objs.size<=it) (h2:∀x c,X.env.cells.lookup x=some c->c≠it) (h3:∀p∈X.pn++F3,p.1≠it):Inv X F3 σ H {s with heap:=h',toks:=t'}:=by
 have nit:∀b u,H b=some u->b≠it:=λb u e z=>by rw [z,hn] at e;cases e
 refine I.step (g':=s.gens) (d':=s.drawn) (ch:=[it]) (λb hb=>?_) (λb o _ _ hc e _=>k b o (λz=>hc (by simp [z])) e) (λb o _ _ hc e _=>⟨o.slots,k b o (λz=>hc (by simp [z])) e⟩) (λ_ _ _ _ n=>n)
  (λb o hc e=>⟨o,k b o (λz=>hc (by simp [z])) e⟩) (λ_ _ e=>e) (λ_ _ _ e=>e) (λb ps e=>⟨#[],by rw [e];simp⟩) (λm hm=>?_) (λb u e=>?_) I.bare
 ·have e:b=it:=by simpa using hb
  subst e;exact ⟨h1,hL,h2,h3⟩
 ·obtain ⟨o,es,ep,ho,r⟩:=hm;exact ⟨o,es,ep,k _ o (Jt hL) ho,r⟩
 ·refine (I.hok b u e).stay (λc v hc q=>k c v ?_ q) (λ_ q=>q) λ_ _ q=>q;rcases hc with z | z
  ·rw [z];exact nit b u e
  ·exact nit c _ z
theorem Inv.tok (I:Inv X F3 σ H s) (t:Nat):Inv X F3 σ H {s with toks:=t}:=I.un (h':=s.heap) (t':=t) Un.refl I.hok
theorem Inv.kept (I:Inv X F3 σ H s) (k:∀b u,s.heap.get? b=some u->h'.get? b=some u):Inv X F3 σ H {s with heap:=h',toks:=t'}:=I.un (Un.kept k) (I.hok.kept k)
theorem Inv.laid (I:Inv X F3 σ H s) (k:∀b u,s.heap.get? b=some u->h'.get? b=some u) (hp:s.heap.objs.size<=a) (new:cS X.prog X.w (upd H a o) h' a o):
  Inv X F3 σ (upd H a o) {s with heap:=h',toks:=t'}:=I.un (Un.laid k hp (I.hok.fresh hp)) (I.hok.laid k hp new)
theorem Inv.write (I:Inv X F3 σ H s) (mu:yh (H x)) (he:e=x\/H e=some (.own x)) (k:∀b u,b≠e->s.heap.get? b=some u->h'.get? b=some u) (E6:∃u,h'.get? e=some u)
 (new:cS X.prog X.w (upd H x o) h' x o):Inv X F3 σ (upd H x o) {s with heap:=h',toks:=t'}:=I.un (Un.write mu he k E6) (I.hok.write mu he k E6 new)
theorem Inv.pins_of (I:Inv X F3 σ H s) (h:∀p∈pins',s.heap.get? p.1=some p.2/\H p.1=none/\p.1≠X.env.locals/\p.1∉X.fs/\∀v,p.2.data≠.cell v):Inv X pins' σ H s:=
 ⟨I.ok,I.os,I.bare,I.base,I.loc,I.cell,I.free,I.freeC,λp hp=>(Hf.mp hp).elim (λz=>I.pin p (Mi _ z)) (h p),I.hok,I.len⟩
theorem qw {N:List Str}(hN:N.Nodup){i j:Nat}{x:Str}(a:N[i]?=some x) (b:N[j]?=some x):i=j:=by obtain ⟨h1,e1⟩:=GC.mp a;obtain ⟨h2,e2⟩:=GC.mp b;exact (Jl hN).mp (e1.trans e2.symm)
theorem oW {M:Qh}{E:Ge->Gf->Prop}{Q:Unit->Gf->Prop}(I:Inv X F3 σ H s) (hN:X.N.Nodup) (hi:X.N[i]?=some x) (hx:Loc X.env.scope x) (r:RelV v u)
 (h:∀s',Inv X F3 (σ.set i (some v)) H s'->(∃a,IV a s.heap s'.heap/\(a=X.env.locals\/X.env.cells.lookup x=some a))->Q () s') (hf:X.fn x=true\/X.env.scope.names.lookup x=some .local:=by first | exact .inl rfl | exact .inr rfl | assumption):GH M A (storeName X.env x u) Q E s:=by
 obtain ⟨m,hn,hl⟩:=id I.loc;have hcls:(X.env.scope.kind == .class || (X.env.scope.kind == .module && X.env.locals != X.env.globals))=false:=by rw [I.ok.kind];rfl
 have hiσ:i < σ.length:=by rw [I.len];exact (GC.mp hi).1
 have cne:=I.cne;have tracked:∀{a:GF}{h':Ij},(∃o,s.heap.get? a=some o/\H a=none)->IV a s.heap h'->eT X.prog X.w H h':=fun {a h'} ha hs b ob e=>by
  obtain ⟨_,_,hfree⟩:=ha;refine (I.hok b ob e).stay (λc w' hc q=>(hs.2 c ?_).trans q) (λ_ q=>q) λ_ _ q=>q;rintro rfl;rcases hc with rfl | hc
  ·rw [hfree] at e;cases e
  ·rw [hfree] at hc;cases hc
 rcases hx with hk | hk
 ·refine wpAny_storeName_local hk hn (λh' hn' hs=>?_) hcls;obtain ⟨oL,_,_,FT,_⟩:=id hn;refine h _ ⟨I.ok,I.os,I.bare,⟨λb o e n hb hx=>?_,λb o e n hb hx=>?_,I.base.free,λb o e hx=>?_,I.base.tups,I.base.frzs,I.base.tbls⟩,⟨_,hn',λj y v' e1 e2 e3=>?_⟩,λy c e=>?_,I.free,I.freeC,λp hp=>?_,tracked ⟨oL,FT,I.free⟩ hs,by simpa using I.len⟩ ⟨_,hs,.inl rfl⟩
  ·exact (hs.2 b (G9 (Gy (Gx e) I.ok.above))).trans (I.base.keep b o e n hb hx)
  ·obtain ⟨sl,e1⟩:=I.base.slot b o e n hb hx;exact ⟨sl,(hs.2 b (G9 (Gy (Gx e) I.ok.above))).trans e1⟩
  ·obtain ⟨o',e1⟩:=I.base.there b o e hx;exact ⟨o',(hs.2 b (G9 (Gy (Gx e) I.ok.above))).trans e1⟩
  ·by_cases hj:j=i
   ·subst hj;rw [hi] at e1;cases e1;rw [G_ hiσ] at e2;cases e2;exact ⟨u,r,.inl ⟨hk,by simp⟩⟩
   ·rw [G0 (Jt hj)] at e2;obtain ⟨u',r',q⟩:=hl j y v' e1 e2 e3;refine ⟨u',r',?_⟩;rcases q with ⟨k,e⟩ | ⟨k,c,e,z⟩
    ·refine .inl ⟨k,?_⟩;have:y≠x:=λe=>hj (qw hN e1 (e▸hi));simp [this,e]
    ·exact .inr ⟨k,c,e,z.sameBut hs (cne y c e)⟩
  ·obtain ⟨w',z⟩:=I.cell y c e;exact ⟨w',z.sameBut hs (cne y c e)⟩
  ·obtain ⟨e,n,ne,nf,d⟩:=I.pin p hp;exact ⟨(hs.2 p.1 ne).trans e,n,ne,nf,d⟩
 ·have hfn:X.fn x=true:=by
   rcases hf with z | z
   ·exact z
   ·rw [z] at hk;cases hk
  obtain ⟨c,hc⟩:=I.ok.has x (.inl hk);obtain ⟨w',z⟩:=I.cell x c hc;refine wpAny_storeName_cell I.ok.kind hk hc z (λh' hc' hs=>?_);obtain ⟨oc,hoc,Fl⟩:=id z;refine h {s with heap:=h'} ⟨I.ok,I.os,I.bare,⟨λb o e n hb hx=>?_,λb o e n hb hx=>?_,I.base.free,λb o e hx=>?_,I.base.tups,I.base.frzs,I.base.tbls⟩,⟨m,hn.sameBut hs (Jt (cne x c hc)),λj y v' e1 e2 e3=>?_⟩,λy c' e=>?_,I.free,I.freeC,λp hp=>?_,tracked ⟨oc,hoc,I.freeC x c hc⟩ hs,by simpa using I.len⟩ ⟨c,hs,.inr hc⟩
  ·exact (hs.2 b (G9 (Gy (Gx e) (I.ok.cab x c hfn hc)))).trans (I.base.keep b o e n hb hx)
  ·obtain ⟨sl,e1⟩:=I.base.slot b o e n hb hx;exact ⟨sl,(hs.2 b (G9 (Gy (Gx e) (I.ok.cab x c hfn hc)))).trans e1⟩
  ·obtain ⟨o',e1⟩:=I.base.there b o e hx;exact ⟨o',(hs.2 b (G9 (Gy (Gx e) (I.ok.cab x c hfn hc)))).trans e1⟩
  ·by_cases hj:j=i
   ·subst hj;rw [hi] at e1;cases e1;rw [G_ hiσ] at e2;cases e2;exact ⟨u,r,.inr ⟨.inl hk,c,hc,hc'⟩⟩
   ·rw [G0 (Jt hj)] at e2;obtain ⟨u',r',q⟩:=hl j y v' e1 e2 e3;refine ⟨u',r',?_⟩;rcases q with q | ⟨k,c',e,z'⟩
    ·exact .inl q
    ·refine .inr ⟨k,c',e,z'.sameBut hs ?_⟩;rintro rfl;exact hj (qw hN e1 (I.ok.inj _ _ _ e hc▸hi))
  ·by_cases hcc:c'=c
   ·subst hcc;exact ⟨_,hc'⟩
   ·obtain ⟨w2,z2⟩:=I.cell y c' e;exact ⟨w2,z2.sameBut hs hcc⟩
  ·obtain ⟨e,n,ne,nf,d⟩:=I.pin p hp;refine ⟨(hs.2 p.1 ?_).trans e,n,ne,nf,d⟩;intro q;rw [q,hoc] at e;have q':oc=p.2:=Iq e;exact d w' (by rw [<-q'];exact Fl)
theorem qK {M:Qh}{E:Ge->Gf->Prop}{Q:Unit->Gf->Prop}(I:Inv X F3 σ H s) (hN:X.N.Nodup) (hi:X.N[i]?=some x) (hx:Loc X.env.scope x) (r:RelV v u)
 (h:∀s',Inv X F3 (σ.set i (some v)) H s'->Q () s') (hf:X.fn x=true\/X.env.scope.names.lookup x=some .local:=by first | exact .inl rfl | exact .inr rfl | assumption):GH M A (storeName X.env x u) Q E s:=
 oW I hN hi hx r (λs' I' _=>h s' I') hf
theorem Inv.call' {s':Gf}(I:Inv X F3 σ H s) (ho:s'.os=s.os) (u:Un (frs X.stack) ch H H' s.heap s'.heap) (hok:eT X.prog X.w H' s'.heap) (hg:LX s'.gens)
 (hch:∀b∈ch,(b∈X.ex\/X.s₀.heap.objs.size<=b)/\b≠X.env.locals/\(∀x c,X.env.cells.lookup x=some c->c≠b)/\∀p∈X.pn++F3,p.1≠b):Inv X F3 σ H' s':=by obtain ⟨h',g',d',t',o'⟩:=s';have e:o'=s.os:=ho;subst e;exact I.call (g':=g') (t':=t') (d':=d') u hok hg hch
end
abbrev XK:=Ge->Option GF->Hp->Prop
abbrev St:=List (Option V)
abbrev VK:=V->Hp->Prop
abbrev TE:=St->Hp->VK->Prop
abbrev TT:=St->Hp->(Bool->Hp->Prop)->Prop
abbrev TA:=St->Hp->(List V->Hp->Prop)->Prop
structure Ends where
 nx:St->Hp->Prop
 rt:VK
 bk:St->Hp->Prop:=λ_ _=>False
 ct:St->Hp->Prop:=λ_ _=>False
abbrev TS:=Ends->St->Hp->Prop
def EP (X:Cx) (F3:List (GF×Obj)) (σ:St) (Q:VK) (u:Ge) (s':Gf):Prop:=∃v H',Inv X F3 σ H' s'/\RelV v u/\Q v H'
def TP (X:Cx) (F3:List (GF×Obj)) (σ:St) (Q:Bool->Hp->Prop) (b:Bool) (s':Gf):Prop:=∃H',Inv X F3 σ H' s'/\Q b H'
def AP (X:Cx) (F3:List (GF×Obj)) (σ:St) (Q:List V->Hp->Prop) (us:List Ge) (s':Gf):Prop:=∃vs H',Inv X F3 σ H' s'/\Vals vs us/\Q vs H'
noncomputable def SP (X:Cx) (F3:List (GF×Obj)) (D:Ends) (f:Flow) (s':Gf):Prop:=
 match f with
 | .next=>∃σ' H',Inv X F3 σ' H' s'/\D.nx σ' H'
 | .brk=>∃σ' H',Inv X F3 σ' H' s'/\D.bk σ' H'
 | .cont=>∃σ' H',Inv X F3 σ' H' s'/\D.ct σ' H'
 | .ret u=>∃v σ' H',Inv X F3 σ' H' s'/\RelV v u/\D.rt v H'
noncomputable def PE (X:Cx) (e:Hl) (t:TE):Prop:=
 ∀(F3:List (GF×Obj)) (s:Gf) (σ:St) (H:Hp) (Q:VK),Inv X F3 σ H s->t σ H Q->GH (GD X.prog X.w) X.A (eval e X.env) (EP X F3 σ Q) X.xe s
noncomputable def PT (X:Cx) (e:Hl) (t:TT):Prop:=
 ∀(F3:List (GF×Obj)) (s:Gf) (σ:St) (H:Hp) (Q:Bool->Hp->Prop),Inv X F3 σ H s->t σ H Q->GH (GD X.prog X.w) X.A (Ot e X.env (eval e X.env)) (TP X F3 σ Q) X.xe s
noncomputable def PW (X:Cx) (e:Hl) (t:TT):Prop:=
 ∀(whole:Sem Ge) (F3:List (GF×Obj)) (s:Gf) (σ:St) (H:Hp) (Q:Bool->Hp->Prop),Inv X F3 σ H s->t σ H Q->GH (GD X.prog X.w) X.A (Ot e X.env whole) (TP X F3 σ Q) X.xe s
theorem PW.pt (h:PW X e t):PT X e t:=h _
noncomputable def PA (X:Cx) (es:List Hl) (t:TA):Prop:=
 ∀(pos:Pos) (F3:List (GF×Obj)) (s:Gf) (σ:St) (H:Hp) (Q:List V->Hp->Prop),Inv X F3 σ H s->t σ H Q->GH (GD X.prog X.w) X.A (spliced (JG pos (GA es X.env))) (AP X F3 σ Q) X.xe s
noncomputable def PS (X:Cx) (st:KR) (t:TS):Prop:=
 ∀(F3:List (GF×Obj)) (s:Gf) (σ:St) (H:Hp) (D:Ends),Inv X F3 σ H s->t D σ H->GH (GD X.prog X.w) X.A (exec st X.env) (SP X F3 D) X.xe s
noncomputable def gU (X:Cx) (st:List KR) (t:TS):Prop:=
 ∀(F3:List (GF×Obj)) (s:Gf) (σ:St) (H:Hp) (D:Ends),Inv X F3 σ H s->t D σ H->GH (GD X.prog X.w) X.A (execs st X.env) (SP X F3 D) X.xe s
theorem bS {α:Type}{t:Sem α}{Q Q':α->Gf->Prop}{M:Qh}{A:G3}{E:Ge->Gf->Prop}{s:Gf}(h:GH M A t Q E s) (hQ:∀a s,Q a s->Q' a s):GH M A t Q' E s:=Hv h hQ λ_ _ x=>x
section
variable {X:Cx}
theorem bin {a b:Hl}{ta tb:TE}(ha:PE X a ta) (hb:PE X b tb){F3:List (GF×Obj)}{s:Gf}{σ:St}{H:Hp}{R:V->V->Hp->Prop}(I:Inv X F3 σ H s) (h:ta σ H λx H1=>tb σ H1 λy H2=>R x y H2)
  {α:Type}{Q:α->Gf->Prop}{f:Ge->Ge->Sem α}
  (hf:∀v u s2 x y H2,Inv X F3 σ H2 s2->RelV x v->RelV y u->R x y H2->GH (GD X.prog X.w) X.A (f v u) Q X.xe s2):
  GH (GD X.prog X.w) X.A (eval a X.env) (λv s₁=>GH (GD X.prog X.w) X.A (eval b X.env) (λu s₂=>GH (GD X.prog X.w) X.A (f v u) Q X.xe s₂) X.xe s₁) X.xe s:=by refine bS (ha F3 s σ H _ I h) λv s1 ⟨x,H1,I1,r1,q1⟩=>?_;refine bS (hb F3 s1 σ H1 _ I1 q1) λu s2 ⟨y,H2,I2,r2,q2⟩=>?_;exact hf v u s2 x y H2 I2 r1 r2 q2
def B0 (i:Nat):TE:=λσ H Q=>∃v,σ[i]?=some (some v)/\Q v H
def tC (v:V):TE:=λ_ H Q=>Q v H
theorem vz {pos:Pos}(hN:X.N[i]?=some x) (hv:yo X.env.scope x) (hd:(x == ("__debug__":Str))=false:=by decide) (hcd:(x == ("__classdict__":Str))=false:=by decide):PE X (.Name x pos) (B0 i):=by
 intro F3 s σ H Q I h;obtain ⟨v,e,h⟩:=h;obtain ⟨m,hn,hl⟩:=I.loc;obtain ⟨u,r,l⟩:=hl i x v hN e hv;have fin:EP X F3 σ Q u s:=⟨v,H,I,r,h⟩;rcases l with ⟨hk,hm⟩ | ⟨hk,c,hc,hcell⟩
 ·exact Ou (wpAny_loadName_local I.ok.kind hk hn hm fin) hd
 ·rcases hk with hk | hk
  ·exact Ou (wpAny_loadName_cell I.ok.kind hk hc hcell fin) hd
  ·exact Ou (wpAny_loadName_free I.ok.kind hk hc hcell fin hcd) hd
theorem Bs {i j pos}:PE X (.Constant (.int i) j pos) (tC (.int i)):=λ_ _ _ H _ I h=>wpAny_Constant_int ⟨.int i,H,I.tok _,⟨_,rfl⟩,h⟩
theorem CC {b j pos}:PE X (.Constant (.bool b) j pos) (tC (.bl b)):=λ_ _ _ H _ I h=>Constant_bool ⟨.bl b,H,I,rfl,h⟩
theorem Bv {x j pos}:PE X (.Constant (.str x) j pos) (tC (.str x)):=λ_ _ _ H _ I h=>Calls.Constant_str ⟨.str x,H,I.tok _,⟨_,rfl⟩,h⟩
def Gl (X:Cx) (x:Str):Prop:=X.env.kindOf x=some .globalImplicit
theorem zv {E:Ge->Gf->Prop}{H:Hp}{pos:Pos}{Q:Ge->Gf->Prop}(I:Inv X F3 σ H s) (hg:Gl X x) (hm:X.mg x=some u) (h:Q u s)
 (hd:(x == ("__debug__":Str))=false:=by decide):GH (GD X.prog X.w) X.A (eval (.Name x pos) X.env) Q E s:=
 Ld I.ok.kind hg (Calls.loadGlobal_global (by rw [I.ok.glob];exact I.mod.glob.keeps I.bk) hm h) hd
theorem jZ {E:Ge->Gf->Prop}{H:Hp}{pos:Pos}{Q:Ge->Gf->Prop}(I:Inv X F3 σ H s) (hg:Gl X x) (hm:X.mg x=none) (hv:Hw x=some u) (h:Q u s)
 (hn:x≠"__name__":=by decide) (hd:(x == ("__debug__":Str))=false:=by decide):GH (GD X.prog X.w) X.A (eval (.Name x pos) X.env) Q E s:=by obtain ⟨mb,h1,h2⟩:=I.mod.blt;exact Ld I.ok.kind hg (Calls.loadGlobal_builtin (by rw [I.ok.glob];exact I.mod.glob.keeps I.bk) hm (by rw [I.ok.blt];exact h1.keeps I.bk) ((h2 x hn).trans hv) h) hd
theorem zI {pos:Pos}(hg:Gl X x) (hm:X.mg x=none) (hv:Hw x=some u) (r:RelV v u) (hn:x≠"__name__":=by decide) (hd:(x == ("__debug__":Str))=false:=by decide):PE X (.Name x pos) (tC v):=
 λ_ _ _ H _ I h=>jZ I hg hm hv ⟨v,H,I,r,h⟩ hn hd
variable {a b:Hl}{ta tb:TE}{pos:Pos}
noncomputable def PC (X:Cx) (op:CmpOp) (a b:Hl) (t:TE):Prop:=
 ∀(F3:List (GF×Obj)) (s:Gf) (σ:St) (H:Hp) (Q:VK),Inv X F3 σ H s->t σ H Q->
  GH (GD X.prog X.w) X.A (eval a X.env) (λv s₁=>GH (GD X.prog X.w) X.A (eval b X.env) (λu s₂=>GH (GD X.prog X.w) X.A (Jm op v u) (EP X F3 σ Q) X.xe s₂) X.xe s₁) X.xe s
theorem xy (b:Hl) (h:op≠.In) (h2:op≠.NotIn):Il op b=false:=by
 have e1:(op == Qm)=false:=by cases op <;> first | rfl | exact absurd rfl h
 have e2:(op == Pd)=false:=by cases op <;> first | rfl | exact absurd rfl h2
 cases b <;> simp [Il,e1,e2]
def tB (t:TE):TT:=λσ H Q=>t σ H λx H1=>∃c,x=.bl c/\Q c H1
theorem Er {op:CmpOp}{t:TE}(h:PC X op a b t) (h1:Il op b=false:=by first | exact xy _ (by decide) (by decide) | rfl):PT X (.Compare a [op] [b] pos) (tB t):=by intro F3 s σ H Q I hw;refine LY (bS (h F3 s σ H _ I hw) λv s1 h1=>bS h1 λu s2 h2=>bS h2 λc s3 ⟨x,H1,I1,r1,q1⟩=>?_) h1;obtain ⟨d,rfl,q⟩:=q1;cases r1;exact Jz ⟨H1,I1,q⟩
theorem BI {e:Hl}{t:TE}(h:PE X e t) (he:∀whole,Ot e X.env whole=(do let v <-whole;Pe e.pos;holding [v] (truthy v)):=by intro _;rfl):PT X e (tB t):=by intro F3 s σ H Q I hw;refine isTrue_plain (bS (h F3 s σ H _ I hw) λv s1 ⟨x,H1,I1,r1,q1⟩=>?_) (he _);obtain ⟨d,rfl,q⟩:=q1;cases r1;exact Jz ⟨H1,I1,q⟩
variable {tA tB':TT}{F6:List Hl}
def Ex (t u:TT):TT:=λσ H Q=>t σ H λc H1=>if c=true then Q true H1 else u σ H1 Q
def Ec (t:TT):TT:=λσ H Q=>t σ H λc H1=>Q (!c) H1
theorem BJ (ha:PT X a tA):PW X (.BoolOp .Or [a] pos) tA:=by
 intro wh F3 s σ H Q I h;refine isTrue_or (bS (ha F3 s σ H Q I h) λc s1 e=>?_);cases c with
 | false=>exact isTrue_or_nil e
 | true=>exact e
theorem CN (ha:PT X a tA) (hb:PW X (.BoolOp .Or (b::F6) pos) tB'):PW X (.BoolOp .Or (a::b::F6) pos) (Ex tA tB'):=by
 intro wh F3 s σ H Q I h;refine isTrue_or (bS (ha F3 s σ H _ I h) λc s1 ⟨H1,I1,q1⟩=>?_);cases c with
 | true=>exact ⟨H1,I1,q1⟩
 | false=>exact hb wh F3 s1 σ H1 Q I1 q1
theorem BH (ha:PT X a tA):PT X (.UnaryOp .Not a pos) (Ec tA):=by intro F3 s σ H Q I h;exact isTrue_not (ha F3 s σ H (λc H1=>Q (!c) H1) I h)
def CV (ta tb:TE):TE:=λσ H Q=>ta σ H λx H1=>∃c,x=.bl c/\if c=true then tb σ H1 Q else Q (.bl false) H1
theorem Bu {op}{t:TE}(h:PE X a t):PE X (.BoolOp op [a] pos) t:=λF3 s σ H Q I hw=>BoolOp_one (h F3 s σ H Q I hw)
theorem Br (ha:PE X a ta) (hb:PE X (.BoolOp .And (b::F6) pos) tb):PE X (.BoolOp .And (a::b::F6) pos) (CV ta tb):=by
 intro F3 s σ H Q I h;refine BoolOp_and (bS (ha F3 s σ H _ I h) λv s1 ⟨x,H1,I1,r1,q1⟩=>?_);obtain ⟨c,rfl,q1⟩:=q1;cases r1;refine Jz ?_;cases c with
 | true=>exact hb F3 s1 σ H1 Q I1 q1
 | false=>exact ⟨.bl false,H1,I1,rfl,q1⟩
end
noncomputable def cg (K:Gd) (H:Hp) (a:GF) (xs:List V):Prop:=
 Rd H a (.lst xs)\/
  ∃(o:Obj) (its:Array Ge) (n:Nat),K.lookup a=some o/\o.cls=.type "list"/\o.dict=none/\o.data=.seq its n/\its.size<=sizeLine/\Vals xs its.toList
noncomputable def cZ (K:Gd) (H:Hp) (a:GF) (xs:List V):Prop:=
 Rd H a (.tup xs)\/
  ∃(o:Obj) (its:Array Ge) (n:Nat),K.lookup a=some o/\o.cls=.type "tuple"/\o.dict=none/\o.data=.seq its n/\its.size<=sizeLine/\Vals xs its.toList
noncomputable def DG:Ge->Option V
 | .none=>some .non
 | .bool b=>some (.bl b)
 | .int i _=>some (.int i)
 | .str x _=>some (.str x)
 | .bytes b _=>some (.byt b)
 | .float b _=>some (.flt b)
 | .ref a=>some (.ref a)
 | .type n=>some (.ty n)
 | _=>none
theorem RelV.abs (r:RelV x u):DG u=some x:=by
 cases x with
 | non=>cases r;rfl
 | bl _=>cases r;rfl
 | int _=>obtain ⟨t,rfl⟩:=r;rfl
 | str _=>obtain ⟨t,rfl⟩:=r;rfl
 | byt _=>obtain ⟨t,rfl⟩:=r;rfl
 | flt _=>obtain ⟨t,rfl⟩:=r;rfl
 | ref _=>cases r;rfl
 | ty _=>cases r;rfl
theorem RelV.inj (r:RelV x u) (q:RelV y u):x=y:=Iq (r.abs.symm.trans q.abs)
theorem Vals.inj:∀{xs ys:List V}{us:List Ge},Vals xs us->Vals ys us->xs=ys
 | _,_,_,.nil,.nil=>rfl
 | _,_,_,.cons r t,.cons r' t'=>by rw [r.inj r',Vals.inj t t']
section
variable {X:Cx}{F3:List (GF×Obj)}{σ:St}{H:Hp}{s:Gf}{a:GF}{xs ys:List V}
theorem cg.of {K:Gd}(h:H a=some (.lst xs)):cg K H a xs:=.inl (.inl h)
theorem Inv.list (I:Inv X F3 σ H s) (h:cg X.K H a xs):∃its:List Ge,Vals xs its/\PlainL s.heap a its.toArray/\xs.length<=sizeLine:=by
 rcases h with h | ⟨o,its,n,hk,hc,hd,hs,hz,r⟩
 ·obtain ⟨z,its,n,r,e⟩:=h.ok I.hok;exact ⟨its,r,⟨_,n,e,rfl,rfl,rfl⟩,z⟩
 ·refine ⟨its.toList,r,⟨o,n,I.kIn a o hk,hc,hd,by simpa using hs⟩,?_⟩;have e:=r.length;simp only [GB] at e;omega
theorem Inv.tuple (I:Inv X F3 σ H s) (h:cZ X.K H a xs):∃its:List Ge,Vals xs its/\Qg s.heap a its.toArray/\xs.length<=sizeLine:=by
 rcases h with h | ⟨o,its,n,hk,hc,hn,hs,hz,r⟩
 ·obtain ⟨z,its,r,p,_⟩:=h.ok I.hok;exact ⟨its,r,p,z⟩
 ·refine ⟨its.toList,r,⟨o,I.kIn a o hk,hc,n,by simpa using hs⟩,?_⟩;have e:=r.length;simp only [GB] at e;omega
theorem Inv.list_inj (I:Inv X F3 σ H s) (h:cg X.K H a xs) (h':cg X.K H a ys):xs=ys:=by
 obtain ⟨its,r,⟨o,n,e,_,_,d⟩,_⟩:=I.list h;obtain ⟨its',r',⟨o',n',e',_,_,d'⟩,_⟩:=I.list h';rw [e] at e';cases e';rw [d] at d';injection d' with d1 _
 have:its=its':=by simpa using congrArg LZ d1
 subst this;exact r.inj r'
theorem Inv.noD (I:Inv X F3 σ H s) (h:cZ X.K H a xs):Dp s.heap a:=by
 rcases h with h | ⟨o,its,n,hk,hc,hn,hs,hz,r⟩
 ·obtain ⟨z,its,r,p,nd⟩:=h.ok I.hok;exact nd
 ·intro o2 e;rw [I.kIn a o hk] at e;cases e;exact hn
theorem Inv.tuple_inj (I:Inv X F3 σ H s) (h:cZ X.K H a xs) (h':cZ X.K H a ys):xs=ys:=by
 obtain ⟨its,r,⟨o,e,_,n,d⟩,_⟩:=I.tuple h;obtain ⟨its',r',⟨o',e',_,n',d'⟩,_⟩:=I.tuple h';rw [e] at e';cases e';rw [d] at d';injection d' with d1 _
 have:its=its':=by simpa using congrArg LZ d1
 subst this;exact r.inj r'
end
abbrev Cx.wish (X:Cx) (E:Ge->Gf->Prop):Cx:={X with xe:=E}
abbrev Cx.nox (X:Cx):Cx:=X.wish λ_ _=>False
theorem Cx.Ok.wish {X:Cx}(ok:X.Ok) (E:Ge->Gf->Prop):(X.wish E).Ok:=
 ⟨ok.mod,ok.kind,ok.glob,ok.blt,ok.above,ok.inj,ok.has,ok.cab,ok.hd,ok.frames,ok.stk,ok.exf,ok.bs,ok.bsz,ok.noex,ok.exfs,ok.funs,ok.frf⟩
theorem Cx.Ok.unwish {X:Cx}{E:Ge->Gf->Prop}(ok:(X.wish E).Ok):X.Ok:=
 ⟨ok.mod,ok.kind,ok.glob,ok.blt,ok.above,ok.inj,ok.has,ok.cab,ok.hd,ok.frames,ok.stk,ok.exf,ok.bs,ok.bsz,ok.noex,ok.exfs,ok.funs,ok.frf⟩
section
variable {X:Cx}{F3:List (GF×Obj)}{σ:St}{H:Hp}{s:Gf}{E:Ge->Gf->Prop}
theorem Inv.wish (I:Inv X F3 σ H s) (E:Ge->Gf->Prop):Inv (X.wish E) F3 σ H s:=⟨I.ok.wish E,I.os,I.bare,I.base,I.loc,I.cell,I.free,I.freeC,I.pin,I.hok,I.len⟩
theorem Inv.unwish (I:Inv (X.wish E) F3 σ H s):Inv X F3 σ H s:=⟨I.ok.unwish,I.os,I.bare,I.base,I.loc,I.cell,I.free,I.freeC,I.pin,I.hok,I.len⟩
theorem SP.unwish {D:Ends}(h:SP (X.wish E) F3 D f s'):SP X F3 D f s':=by
 cases f with
 | next=>obtain ⟨σ',H',I,q⟩:=h;exact ⟨σ',H',I.unwish,q⟩
 | brk=>obtain ⟨σ',H',I,q⟩:=h;exact ⟨σ',H',I.unwish,q⟩
 | cont=>obtain ⟨σ',H',I,q⟩:=h;exact ⟨σ',H',I.unwish,q⟩
 | ret u=>obtain ⟨v,σ',H',I,r,q⟩:=h;exact ⟨v,σ',H',I.unwish,r,q⟩
theorem gU.nox {st:List KR}{t:TS}(h:gU X.nox st t):gU X st t:=λF3 s σ H D I hw=>
 Hv (h F3 s σ H D (I.wish _) hw) (λ_ _ q=>q.unwish) λ_ _ z=>JA z
end
section
variable {X:Cx}{st:KR}{F6:List KR}{t u:TS}{e:Hl}{te:TE}{pos:Pos}
def CZ:TS:=λD σ H=>D.nx σ H
def Ef (t u:TS):TS:=λD σ H=>t {D with nx:=u D} σ H
theorem zR:gU X [] CZ:=λ_ _ σ H _ I h=>L3 ⟨σ,H,I,h⟩
theorem xO (h1:PS X st t) (h2:gU X F6 u):gU X (st::F6) (Ef t u):=by
 intro F3 s σ H D I h;refine Nx (bS (h1 F3 s σ H {D with nx:=u D} I h) λf s1 q=>?_);cases f with
 | next=>
  obtain ⟨σ',H',I',q⟩:=q;exact h2 F3 s1 σ' H' D I' q
 | ret v=>exact q
 | brk=>exact q
 | cont=>exact q
theorem zS (h1:PS X st t):gU X [st] t:=by
 intro F3 s σ H D I h;refine Nx (bS (h1 F3 s σ H D I h) λf s1 q=>?_);cases f with
 | next=>exact L3 q
 | ret v=>exact q
 | brk=>exact q
 | cont=>exact q
theorem Inv.quiet {H:Hp}(I:Inv X F3 σ H s):interactive X.env=false:=by simp [interactive,I.ok.kind]
def CY (te:TE):TS:=λD σ H=>te σ H λ_ H1=>D.nx σ H1
theorem zQ (he:PE X e te) (hs:MK e none pos.line X.env=pure false:=by rfl):PS X (.Expr e pos) (CY te):=by intro F3 s σ H D I h;exact wpAny_Expr_any (bS (he F3 s σ H _ I h) λv s1 ⟨x,H1,I1,r1,q1⟩=>⟨σ,H1,I1,q1⟩) I.quiet hs
def Ed (te:TE):TS:=λD σ H=>te σ H D.rt
theorem BF (he:PE X e te):PS X (.Return (some e) pos) (Ed te):=by intro F3 s σ H D I h;exact wpAny_Return_some (bS (he F3 s σ H _ I h) λv s1 ⟨x,H1,I1,r1,q1⟩=>⟨x,σ,H1,I1,r1,q1⟩)
def Ea (c:TT) (t u:TS):TS:=λD σ H=>c σ H λb H1=>if b=true then t D σ H1 else u D σ H1
theorem CL {c:Hl}{a b:List KR}{tc:TT}(hc:PT X c tc) (ha:gU X a t) (hb:gU X b u):PS X (.If c a b pos) (Ea tc t u):=by
 intro F3 s σ H D I h;refine wpAny_If (bS (hc F3 s σ H _ I h) λd s1 ⟨H1,I1,q1⟩=>?_);cases d with
 | true=>exact ha F3 s1 σ H1 D I1 q1
 | false=>exact hb F3 s1 σ H1 D I1 q1
end
abbrev TG:=V->St->Hp->(St->Hp->Prop)->Prop
abbrev n_:=List V->St->Hp->(St->Hp->Prop)->Prop
noncomputable def PG (X:Cx) (F5:Hl) (t:TG):Prop:=
 ∀(F3:List (GF×Obj)) (s:Gf) (σ:St) (H:Hp) (v:V) (u:Ge) (Q:St->Hp->Prop),Inv X F3 σ H s->RelV v u->t v σ H Q->
  GH (GD X.prog X.w) X.A (assign F5 X.env u) (λ_ s'=>∃σ' H',Inv X F3 σ' H' s'/\Q σ' H') X.xe s
noncomputable def pO (X:Cx) (ts:List Hl) (t:n_):Prop:=
 ∀(F3:List (GF×Obj)) (s:Gf) (σ:St) (H:Hp) (vs:List V) (us:List Ge) (Q:St->Hp->Prop),Inv X F3 σ H s->Vals vs us->t vs σ H Q->
  GH (GD X.prog X.w) X.A (assignInOrder ((Jp ts X.env).map (·.2)) us) (λ_ s'=>∃σ' H',Inv X F3 σ' H' s'/\Q σ' H') X.xe s
section
variable {X:Cx}{pos:Pos}
def yy (i:Nat):TG:=λv σ H Q=>Q (σ.set i (some v)) H
theorem zL (hN:X.N.Nodup) (hi:X.N[i]?=some x) (hx:Loc X.env.scope x) (hf:X.fn x=true\/X.env.scope.names.lookup x=some .local:=by first | exact .inl rfl | exact .inr rfl | assumption):PG X (.Name x pos) (yy i):=by intro F3 s σ H v u Q I r h;exact wpAny_assign_Name (qK I hN hi hx r (λs' I'=>⟨_,H,I',h⟩) hf)
def av:n_:=λvs σ H Q=>vs=[]/\Q σ H
def ah (t:TG) (u:n_):n_:=λvs σ H Q=>∃v r,vs=v::r/\t v σ H λσ' H'=>u r σ' H' Q
theorem zM:pO X [] av:=by intro F3 s σ H vs us Q I r h;obtain ⟨e,h⟩:=h;subst e;cases r;exact assignInOrder_nil ⟨σ,H,I,h⟩
theorem xM {e:Hl}{es:List Hl}{t:TG}{u:n_}(h1:PG X e t) (h2:pO X es u)
  (hs:(Jp (e::es) X.env).map (·.2)=assign e X.env::(Jp es X.env).map (·.2):=by rfl):pO X (e::es) (ah t u):=by
 intro F3 s σ H vs us Q I r h;obtain ⟨v,vr,e1,h⟩:=h;subst e1;cases r with
 | cons r rr=>
  rw [hs];refine assignInOrder_cons (bS (h1 F3 s σ H _ _ _ I r h) λ_ s1 ⟨σ1,H1,I1,q1⟩=>?_);exact h2 F3 s1 σ1 H1 _ _ Q I1 rr q1
def cI (K:Gd) (n:Nat) (t:n_):TG:=λv σ H Q=>∃a xs,v=.ref a/\cZ K H a xs/\xs.length=n/\t xs σ H Q
theorem Bx (hc:X.calm=true) (h:pO X es t)
 (hn:(Jp es X.env).length=n:=by rfl) (hst:(Jp es X.env).findIdx? (·.1)=none:=by rfl):PG X (.Tuple es k pos) (cI X.K n t):=by intro F3 s σ H v u Q I r hw;obtain ⟨a,xs,e1,hq,hl,hw⟩:=hw;subst e1;cases r;obtain ⟨its,rv,ht,hz⟩:=I.tuple hq;refine assign_Tuple_tuple (I.ok.hd hc) ht (by simp [hn,<-hl,rv.length]) hst λh' hx=>?_;have I1:Inv X F3 σ H {s with heap:=h'}:=I.kept (t':=s.toks) λb o e=>hx b o (G9 (Gx e)) e;exact h F3 _ σ H xs _ Q I1 (by simpa using rv) hw
def xZ (te:TE) (g:TG):TS:=λD σ H=>te σ H λx H1=>g x σ H1 D.nx
theorem BC {tg e:Hl}{te:TE}{g:TG}(he:PE X e te) (hg:PG X tg g) (hs:ML [tg] e pos.line X.env=pure false:=by rfl) (hw:OD [tg] e X.env=pure none:=by rfl)
  (h1:(Jp [tg] X.env).map (·.2)=[assign tg X.env]:=by rfl):PS X (.Assign [tg] e pos) (xZ te g):=by intro F3 s σ H D I h;refine wpAny_Assign_stores (bS (he F3 s σ H _ I h) λv s1 ⟨x,H1,I1,r1,q1⟩=>?_) hs hw;rw [h1];exact bS (hg F3 s1 σ H1 x v _ I1 r1 q1) λ_ s2 q=>q
theorem BG {i:Nat}{x:Str}{e:Hl}{te:TE}{pos':Pos}(hN:X.N.Nodup) (hi:X.N[i]?=some x) (hx:Loc X.env.scope x) (he:PE X e te) (hs:MK e (some (.Name x pos')) pos.line X.env=pure false:=by rfl) (hf:X.fn x=true\/X.env.scope.names.lookup x=some .local:=by first | exact .inl rfl | exact .inr rfl | assumption):
  PS X (.Assign [.Name x pos'] e pos) (xZ te (yy i)):=by intro F3 s σ H D I h;refine wpAny_Assign_Name (bS (he F3 s σ H _ I h) λv s1 ⟨y,H1,I1,r1,q1⟩=>?_) hs;exact qK I1 hN hi hx r1 (λs2 I2=>⟨_,H1,I2,q1⟩) hf
end
structure It where
 go:Nat->Hp->Prop
 yld:Nat->Hp->V->Hp->Prop
 stop:Nat->Hp->Prop
noncomputable def fQ (X:Cx) (F3:List (GF×Obj)) (H:Hp) (b:GF):Prop:=
 H b=none/\b≠X.env.locals/\b∉X.fs/\(b∈X.ex\/X.s₀.heap.objs.size<=b)/\(∀x c,X.env.cells.lookup x=some c->c≠b)/\∀p∈X.pn++F3,p.1≠b
theorem Inv.fpOk {H H':Hp}{s:Gf}(I:Inv X F3 σ H s) (hb:s.heap.objs.size<=b) (hn:H' b=none):fQ X F3 H' b:=by
 refine ⟨hn,Lg (Gy I.lt hb),I.nofs hb,.inr (HB I.sz hb),λx c e z=>?_,λp hp z=>?_⟩
 ·obtain ⟨v,q⟩:=I.cell x c e;exact absurd (Gy q.lt (by rw [z];exact hb)) (Ik _)
 ·exact absurd (Gy (Gx (I.pin p hp).1) (by rw [z];exact hb)) (Ik _)
structure Turn (P:GG) (w:Hi) (K:Gd) (tg:Hl) (J:It) (fp:List GF) (it:GF) (tn:Nat->Ij->Prop):Prop where
 mem:it∈fp
 obj:∀i h,tn i h->∀b∈fp,∃o,h.get? b=some o/\∀v,o.data≠.cell v
 keep:∀i h h',tn i h->(∀b∈fp,∀o,h.get? b=some o->h'.get? b=some o)->tn i h'
 item:∀(X:Cx),X.prog=P->X.w=w->X.K=K->X.calm=true->∀(i:Nat) (F3:List (GF×Obj)) (s:Gf) (σ:St) (H:Hp) (E:Ge->Gf->Prop),Inv X F3 σ H s->(∀b∈fp,fQ X F3 H b)->tn i s.heap->J.go i H->
  GH (GD P w) X.A (Nm (.ref it)) (λr s1=>∃u,r=some u/\
   GH (GD P w) X.A (Jv tg (.ref it) u) (λ_ s2=>∃x H',Inv X F3 σ H' s2/\RelV x u/\J.yld i H x H'/\tn (i + 1) s2.heap/\∀b∈fp,H' b=none) E s1) E s
 done:∀(X:Cx),X.prog=P->X.w=w->X.K=K->X.calm=true->∀(i:Nat) (F3:List (GF×Obj)) (s:Gf) (σ:St) (H:Hp) (E:Ge->Gf->Prop),Inv X F3 σ H s->(∀b∈fp,fQ X F3 H b)->tn i s.heap->J.stop i H->
  GH (GD P w) X.A (Nm (.ref it)) (λr s1=>r=none/\Inv X F3 σ H s1) E s
 self:∀(A:G3) (i:Nat) (s:Gf) (Q:Ge->Gf->Prop) (E:Ge->Gf->Prop),tn i s.heap->Q (.ref it) s->GH (GD P w) A (PR (.ref it)) Q E s
abbrev TI:=St->Hp->(It->Hp->Prop)->Prop
noncomputable def Dr (X:Cx) (F3:List (GF×Obj)) (σ:St) (tg:Hl) (R:It->Hp->Prop) (itv:Ge) (s2:Gf):Prop:=
 ∃(it:GF) (fp:List GF) (tn:Nat->Ij->Prop) (J:It) (H':Hp),itv=.ref it/\Inv X F3 σ H' s2/\Turn X.prog X.w X.K tg J fp it tn/\tn 0 s2.heap/\(∀b∈fp,fQ X F3 H' b)/\R J H'
noncomputable def PI (X:Cx) (tg F7:Hl) (wi:TI):Prop:=
 ∀(F3:List (GF×Obj)) (s:Gf) (σ:St) (H:Hp) (R:It->Hp->Prop),Inv X F3 σ H s->wi σ H R->
  GH (GD X.prog X.w) X.A (eval F7 X.env) (λv s1=>GH (GD X.prog X.w) X.A (PR v) (Dr X F3 σ tg R) X.xe s1) X.xe s
theorem tG {M:Qh}{E:Ge->Gf->Prop}{s:Gf}{o:Obj}{Q:Unit->Gf->Prop}(ho:s.heap.get? it=some o) (hc:o.cls=.type n) (hd:o.data=.fields vs)
 (hn:["enumerate","zip","dict_itemiterator","dict_reverseitemiterator","odict_iterator","itertools.zip_longest","itertools.pairwise"].contains n=false) (hQ:Q () s):GH M A (Jv tg (.ref it) u) Q E s:=by
 unfold Jv;cases tg <;> first
  | exact Gk hQ
  | (cases u <;> first
    | exact Gk hQ
    | (refine Gb (wpAny_load ho ?_);rw [hc,hd];show GH M A (if (["enumerate","zip","dict_itemiterator","dict_reverseitemiterator","odict_iterator","itertools.zip_longest","itertools.pairwise"].contains n && vs[0]? == some (OY _))=true then _ else _) Q E s;rw [if_neg (by intro h;rw [hn,Bool.false_and] at h;cases h)];exact Gk hQ))
noncomputable def ye (K:Gd) (a:GF):It:=
 ⟨λi H=>∃xs x,cg K H a xs/\xs[i]?=some x,λi H x H'=>H'=H/\∀xs,cg K H a xs->xs[i]?=some x,λi H=>∃xs,cg K H a xs/\xs.length<=i⟩
noncomputable def yg (K:Gd) (a:GF):It:=
 ⟨λi H=>∃xs x,cZ K H a xs/\xs[i]?=some x,λi H x H'=>H'=H/\∀xs,cZ K H a xs->xs[i]?=some x,λi H=>∃xs,cZ K H a xs/\xs.length<=i⟩
def yf (lo:Int) (n:Nat):It:=⟨λi _=>i < n,λi H x H'=>H'=H/\x=.int (lo + i),λi _=>n<=i⟩
theorem vX {P:GG}{w:Hi}{K:Gd}{tg:Hl}(a it:GF):Turn P w K tg (ye K a) [it] it (λi h=>h.IsListIter it a i) where
 mem:=by simp
 obj:=λi h st b hb=>by
  have e:b=it:=by simpa using hb
  subst e;obtain ⟨o,e,c,d⟩:=st;exact ⟨o,e,λv z=>by rw [d] at z;cases z⟩
 keep:=λi h h' st k=>st.at λo e=>k it (by simp) o e
 item:=by intro X hP hw hK hc i F3 s σ H E I hf st hg;subst hP hw hK;obtain ⟨xs,x,hq,hx⟩:=hg;obtain ⟨its,rv,p,hz⟩:=I.list hq;obtain ⟨u,hu,ru⟩:=rv.get hx;obtain ⟨f0,f1,f2,f3,f4,f5⟩:=hf it (by simp);refine wpAny_pyNext_list_item st p.isList (x:=u) (by simpa using hu) λh' st' sb=>?_;have I1:Inv X F3 σ H {s with heap:=h'}:=I.turned (t':=s.toks) (λb o hb e=>(sb.2 b hb).trans e) f0 f1 f3 f4 f5;obtain ⟨o,e,c,d⟩:=id st';exact ⟨u,rfl,tG (s:={s with heap:=h'}) e c d (by decide) ⟨x,H,I1,ru,⟨rfl,λys hy=>by rw [I.list_inj hy hq];exact hx⟩,st',λb hb=>(hf b hb).1⟩⟩
 done:=by intro X hP hw hK hc i F3 s σ H E I hf st hg;subst hP hw hK;obtain ⟨xs,hq,hx⟩:=hg;obtain ⟨its,rv,p,hz⟩:=I.list hq;obtain ⟨f0,f1,f2,f3,f4,f5⟩:=hf it (by simp);have hl:=rv.length;exact wpAny_pyNext_list_end (I.ok.hd hc) st p.isList (by simp;omega) λh' eb=>⟨rfl,I.turned (t':=s.toks) (λb o hb e=>eb b o hb e) f0 f1 f3 f4 f5⟩
 self:=λ_ _ _ _ _ st h=>wpAny_pyIter_listiter st h
theorem um {P:GG}{w:Hi}{K:Gd}{tg:Hl}(a it:GF):Turn P w K tg (yg K a) [it] it (λi h=>h.IsTupleIter it a i) where
 mem:=by simp
 obj:=λi h st b hb=>by
  have e:b=it:=by simpa using hb
  subst e;obtain ⟨o,e,c,d⟩:=st;exact ⟨o,e,λv z=>by rw [d] at z;cases z⟩
 keep:=λi h h' st k=>st.at λo e=>k it (by simp) o e
 item:=by intro X hP hw hK hc i F3 s σ H E I hf st hg;subst hP hw hK;obtain ⟨xs,x,hq,hx⟩:=hg;obtain ⟨its,rv,p,hz⟩:=I.tuple hq;obtain ⟨u,hu,ru⟩:=rv.get hx;obtain ⟨f0,f1,f2,f3,f4,f5⟩:=hf it (by simp);refine wpAny_pyNext_tuple_item st (show s.heap.IsTuple a its.toArray from p) (x:=u) (by simpa using hu) λh' st' sb=>?_;have I1:Inv X F3 σ H {s with heap:=h'}:=I.turned (t':=s.toks) (λb o hb e=>(sb.2 b hb).trans e) f0 f1 f3 f4 f5;obtain ⟨o,e,c,d⟩:=id st';exact ⟨u,rfl,tG (s:={s with heap:=h'}) e c d (by decide) ⟨x,H,I1,ru,⟨rfl,λys hy=>by rw [I.tuple_inj hy hq];exact hx⟩,st',λb hb=>(hf b hb).1⟩⟩
 done:=by intro X hP hw hK hc i F3 s σ H E I hf st hg;subst hP hw hK;obtain ⟨xs,hq,hx⟩:=hg;obtain ⟨its,rv,p,hz⟩:=I.tuple hq;obtain ⟨f0,f1,f2,f3,f4,f5⟩:=hf it (by simp);have hl:=rv.length;exact wpAny_pyNext_tuple_end (I.ok.hd hc) st (show s.heap.IsTuple a its.toArray from p) (by simp;omega) λh' eb=>⟨rfl,I.turned (t':=s.toks) (λb o hb e=>eb b o hb e) f0 f1 f3 f4 f5⟩
 self:=λ_ _ _ _ _ st h=>wpAny_pyIter_tupleiter st h
theorem uh {P:GG}{w:Hi}{K:Gd}{tg:Hl}(it:GF) (lo:Int) (n:Nat):Turn P w K tg (yf lo n) [it] it (λi h=>IsRangeIter h it (lo + (i:Nat) * 1) ((n:Int) - (i:Nat)) 1) where
 mem:=by simp
 obj:=λi h st b hb=>by
  have e:b=it:=by simpa using hb
  subst e;exact ⟨_,st,λv z=>by
   have z':Pf _=NP v:=z;cases z'⟩
 keep:=λi h h' st k=>k it (by simp) _ st
 item:=by intro X hP hw hK hc i F3 s σ H E I hf st hg;subst hP hw hK;obtain ⟨f0,f1,f2,f3,f4,f5⟩:=hf it (by simp);have W:=Walks.range (prog:=X.prog) (w:=X.w) (I.ok.hd hc) it lo 1 n;refine W.item i s _ _ hg st λv h' tk hv st' kk=>?_;obtain ⟨t,rfl⟩:=hv;have I1:Inv X F3 σ H {s with heap:=h',toks:=tk}:=I.turned (λb o hb e=>kk b o (by simpa using hb) e) f0 f1 f3 f4 f5;refine ⟨_,rfl,tG (s:={s with heap:=h',toks:=tk}) (n:="range_iterator") st' rfl rfl (by decide) ⟨.int (lo + i),H,I1,⟨t,?_⟩,⟨rfl,rfl⟩,st',λb hb=>(hf b hb).1⟩⟩;rw [Int.mul_one]
 done:=by intro X hP hw hK hc i F3 s σ H E I hf st hg;subst hP hw hK;obtain ⟨f0,f1,f2,f3,f4,f5⟩:=hf it (by simp);exact wpAny_pyNext_range_end (I.ok.hd hc) st (by have:n<=i:=hg;omega) λh' eb=>⟨rfl,I.turned (t':=s.toks) (λb o hb e=>eb b o hb e) f0 f1 f3 f4 f5⟩
 self:=λ_ _ _ _ _ st h=>wpAny_pyIter_rangeiter st h
section
variable {X:Cx}{tg:Hl}
theorem xS {F3:List (GF×Obj)}{σ:St}{H:Hp}{s:Gf}{R:It->Hp->Prop}{E:Ge->Gf->Prop}{lo hi:Int}{t u v:Tok}{tk:Nat}(I:Inv X F3 σ H s) (h1:-(2 ^ 62)<=lo) (h2:lo < 2 ^ 62) (h3:-(2 ^ 62)<=hi) (h4:hi < 2 ^ 62)
  (q:R (yf lo (hi - lo).toNat) H):GH (GD X.prog X.w) X.A (PR (.ref s.heap.objs.size)) (Dr X F3 σ tg R) E {s with heap:=s.heap.push {cls:=.type "range",data:=.fields #[.int lo t,.int hi u,.int 1 v]},toks:=tk}:=by
 refine wpAny_pyIter_range (IsRange.new ..) (small_one h1 h2 h3 h4) ?_;have I1:Inv X F3 σ H {s with heap:=s.heap.push {cls:=.type "range",data:=.fields #[.int lo t,.int hi u,.int 1 v]},toks:=tk}:=I.kept λb o e=>Gh _ e;refine ⟨(s.heap.push {cls:=.type "range",data:=.fields #[.int lo t,.int hi u,.int 1 v]}).objs.size,[(s.heap.push {cls:=.type "range",data:=.fields #[.int lo t,.int hi u,.int 1 v]}).objs.size],_,_,H,rfl,
  I1.kept (t':=tk) λb o e=>Gh _ e,uh _ lo (hi - lo).toNat,?_,λb hb=>?_,q⟩
 ·have e1:lo + ((0:Nat):Int) * 1=lo:=by simp
  have e2:(((hi - lo).toNat:Nat):Int) - ((0:Nat):Int)=LD lo hi 1:=by rw [OE];split <;> omega
  show IsRangeIter _ _ (lo + ((0:Nat):Int) * 1) ((((hi - lo).toNat:Nat):Int) - ((0:Nat):Int)) 1;rw [e1,e2];exact Gu _ rfl
 ·have e:b=(s.heap.push {cls:=.type "range",data:=.fields #[.int lo t,.int hi u,.int 1 v]}).objs.size:=by simpa using hb
  subst e;exact I1.fpOk (Gm _) (I1.hok.fresh (Gm _))
def Ci (ta:TA):TI:=λσ H R=>ta σ H λvs H1=>∃j:Int,vs=[.int j]/\-(2 ^ 62)<=j/\j < 2 ^ 62/\R (yf 0 j.toNat) H1
theorem vC {a:Hl}{ta:TA}{p pos:Pos}(hg:Gl X "range") (hm:X.mg "range"=none) (ha:PA X [a] ta) (hs:GA [a] X.env=[(false,eval a X.env)]:=by rfl):PI X tg (.Call (.Name "range" p) [a] [] pos) (Ci ta):=by
 intro F3 s σ H R I h;refine Call_ (jZ I hg hm boot_range (Jw (bS (ha pos F3 s σ H _ I h) λus s1 ⟨vs,H1,I1,r1,q1⟩=>?_) hs rfl));obtain ⟨j,e,q1,q2,q⟩:=q1;subst e;cases r1 with
 | cons r rr=>
  cases rr;obtain ⟨t,rfl⟩:=r;exact call_range_1 (xS I1 (by omega) (by omega) q1 q2 (by simpa using q))
noncomputable def D_ (wi:TI) (g:TG) (tb:TS):TS:=λD σ H=>wi σ H λJ H1=>∃W:Nat->Nat->St->Hp->Prop,(∃m,W 0 m σ H1)/\∀i m σ H,W i m σ H->
 (J.stop i H/\D.nx σ H)\/(J.go i H/\∃N:St->Hp->Prop,(∀σ' H',N σ' H'->∃m',m' < m/\W (i + 1) m' σ' H')/\∀x H',J.yld i H x H'->g x σ H' λσ2 H2=>tb {D with nx:=N,ct:=N,bk:=D.nx} σ2 H2)
def ki (fp:List GF) (h:Ij):List (GF×Obj):=fp.filterMap λb=>(h.get? b).map λo=>(b,o)
theorem gZ {h:Ij}(hb:b∈fp) (e:h.get? b=some o):(b,o)∈ki fp h:=MM.mpr ⟨b,hb,by rw [e];rfl⟩
theorem vj {h:Ij}{p:GF×Obj}(hp:p∈ki fp h):p.1∈fp/\h.get? p.1=some p.2:=by
 obtain ⟨b,hb,e⟩:=MM.mp hp;cases q:h.get? b with
 | none=>rw [q] at e;cases e
 | some o=>
  rw [q] at e;have e':(b,o)=p:=Iq e;subst e';exact ⟨hb,q⟩
theorem Inv.pinned {H:Hp}{s:Gf}(I:Inv X F3 σ H s) (hf:∀b∈fp,fQ X F3 H b) (ho:∀b∈fp,∃o,s.heap.get? b=some o/\∀v,o.data≠.cell v):Inv X (F3++ki fp s.heap) σ H s:=
 I.pins_of λp hp=>(Hf.mp hp).elim (λz=>I.pin p (G1 _ z)) λz=>by obtain ⟨hb,e⟩:=vj z;obtain ⟨f0,f1,f2,_⟩:=hf p.1 hb;obtain ⟨o,e',d⟩:=ho p.1 hb;rw [e] at e';cases e';exact ⟨e,f0,f1,f2,d⟩
theorem Inv.unpinned {H:Hp}(I:Inv X (F3++pl) σ H s):Inv X F3 σ H s:=I.pins_of λp hp=>I.pin p (G1 _ (Mi _ hp))
theorem BE {F7:Hl}{body:List KR}{wi:TI}{g:TG}{tb:TS}{pos:Pos}(hp:PassesOwn (GD X.prog X.w) X.A X.env X.xe) (hc:X.calm=true) (hi:PI X tg F7 wi) (hg:PG X tg g) (hb:gU X body tb)
  (hs:∀x,Kq F7 X.env x=pure x:=by intro _;rfl):PS X (.For tg F7 body [] pos) (D_ wi g tb):=by
 intro F3 s σ H D I h;refine wpAny_For (bS (hi F3 s σ H _ I h) λv s1 h1=>bS h1 λitv s2 h2=>?_) hs;obtain ⟨it,fp,tn,J,H2,e,I2,T,st2,f2,W,⟨m0,w0⟩,turn⟩:=h2;subst e;have stat:∀{H':Hp},(∀b∈fp,H' b=none)->∀b∈fp,fQ X F3 H' b:=λhn b hb=>⟨hn b hb,(f2 b hb).2⟩;refine codeAny_forLoop_any (λn s'=>∃i σ' H',Inv X F3 σ' H' s'/\tn i s'.heap/\(∀b∈fp,H' b=none)/\W i n σ' H') ?_ m0 ⟨0,σ,H2,I2,st2,λb hb=>(f2 b hb).1,w0⟩;rintro n s3 ⟨i,σ3,H3,I3,st3,fr3,w3⟩;rcases turn i n σ3 H3 w3 with ⟨stop,qn⟩ | ⟨go,N,hN,step⟩
 ·refine JU hp (bS (T.done X rfl rfl rfl hc i F3 s3 σ3 H3 X.xe I3 (stat fr3) st3 stop) λr s4 ⟨hr,I4⟩=>?_);subst hr;exact L3 ⟨σ3,H3,I4,qn⟩
 ·refine JU hp (bS (T.item X rfl rfl rfl hc i F3 s3 σ3 H3 X.xe I3 (stat fr3) st3 go) λr s4 ⟨u,hr,h4⟩=>?_);subst hr;refine JU hp (bS h4 λ_ s5 ⟨x,H5,I5,r5,y5,st5,fr5⟩=>?_);have I5':=I5.pinned (stat fr5) (T.obj _ _ st5);refine JU hp (bS (hg _ s5 σ3 H5 x u _ I5' r5 (step x H5 y5)) λ_ s6 ⟨σ6,H6,I6,q6⟩=>?_);refine JU hp (bS (hb _ s6 σ6 H6 _ I6 q6) λf s7 q7=>?_);have again:∀{σ7:St}{H7:Hp},Inv X (F3++ki fp s5.heap) σ7 H7 s7->N σ7 H7->∃m,m < n/\∃i σ' H',Inv X F3 σ' H' s7/\tn i s7.heap/\(∀b∈fp,H' b=none)/\W i m σ' H':=fun {σ7 H7} I7 n7=>by obtain ⟨m',hm,w7⟩:=hN σ7 H7 n7;refine ⟨m',hm,i + 1,σ7,H7,I7.unpinned,T.keep _ _ _ st5 λb hb o e=>(I7.pin (b,o) (G1 _ (G1 _ (gZ hb e)))).1,λb hb=>?_,w7⟩;obtain ⟨o,e,d⟩:=T.obj _ _ st5 b hb;exact (I7.pin (b,o) (G1 _ (G1 _ (gZ hb e)))).2.1
  cases f with
  | next=>obtain ⟨σ7,H7,I7,n7⟩:=q7;exact again I7 n7
  | cont=>obtain ⟨σ7,H7,I7,n7⟩:=q7;exact again I7 n7
  | brk=>obtain ⟨σ7,H7,I7,q7⟩:=q7;exact ⟨σ7,H7,I7.unpinned,q7⟩
  | ret v=>obtain ⟨x7,σ7,H7,I7,r7,q7⟩:=q7;exact ⟨x7,σ7,H7,I7.unpinned,r7,q7⟩
end
abbrev R2:=V->V->Hp->VK->Prop
noncomputable def dU (X:Cx) (f:Ge->Ge->Sem Ge) (r:R2):Prop:=
 ∀(F3:List (GF×Obj)) (s:Gf) (σ:St) (H:Hp) (x y:V) (v u:Ge) (Q:VK),Inv X F3 σ H s->RelV x v->RelV y u->r x y H Q->
  GH (GD X.prog X.w) X.A (f v u) (EP X F3 σ Q) X.xe s
noncomputable def dG (X:Cx) (f:Ge) (r:List V->Hp->VK->Prop):Prop:=
 ∀(F3:List (GF×Obj)) (s:Gf) (σ:St) (H:Hp) (xs:List V) (us:List Ge) (Q:VK),Inv X F3 σ H s->Vals xs us->r xs H Q->
  GH (GD X.prog X.w) X.A (call f us) (EP X F3 σ Q) X.xe s
def vQ (r:R2) (ta tb:TE):TE:=λσ H Q=>ta σ H λx H1=>tb σ H1 λy H2=>r x y H2 Q
def rI (C:Int->Int->Prop) (g:Int->Int->V):R2:=λx y H Q=>∃i j,x=.int i/\y=.int j/\C i j/\Q (g i j) H
def oK (g:Int->Int->V):R2:=λx y H Q=>∃i j,x=.int i/\y=.int j/\Q (g i j) H
section
variable {X:Cx}{a b c:Hl}{ta tb tc:TE}{pos:Pos}
theorem wI (ha:PE X a ta) (hb:PE X b tb){F3:List (GF×Obj)}{s:Gf}{σ:St}{H:Hp}{R:V->V->Hp->Prop}(I:Inv X F3 σ H s)
  (h:ta σ H λx H1=>tb σ H1 λy H2=>R x y H2){Q:Ge->Gf->Prop}{f:Ge->Ge->Sem Ge}
  (hf:∀v u s2 x y H2,Inv X F3 σ H2 s2->RelV x v->RelV y u->R x y H2->GH (GD X.prog X.w) X.A (f v u) Q X.xe s2):
  GH (GD X.prog X.w) X.A (eval a X.env) (λv s₁=>GH (GD X.prog X.w) X.A (eval b X.env) (λu s₂=>GH (GD X.prog X.w) X.A (f v u) Q X.xe s₂) X.xe s₁) X.xe s:=by refine bS (ha F3 s σ H _ I h) λv s1 ⟨x,H1,I1,r1,q1⟩=>?_;refine bS (hb F3 s1 σ H1 _ I1 q1) λu s2 ⟨y,H2,I2,r2,q2⟩=>?_;exact hf v u s2 x y H2 I2 r1 r2 q2
theorem CH (ho:dU X (JB op) r) (ha:PE X a ta) (hb:PE X b tb):PE X (.BinOp a op b pos) (vQ r ta tb):=by intro F3 s σ H Q I h;exact wpAny_BinOp (wI ha hb I h λv u s2 x y H2 I2 rx ry q=>ho F3 s2 σ H2 x y v u Q I2 rx ry q)
theorem yH {f:Ge->Ge->Sem Ge}{C:Int->Int->Prop}{g:Int->Int->Int}
  (rule:∀(i j:Int) (t u:Tok) (s:Gf) (Q:Ge->Gf->Prop) (E:Ge->Gf->Prop),C i j->Q (.int (g i j) s.toks) {s with toks:=s.toks + 1}->GH (GD X.prog X.w) X.A (f (.int i t) (.int j u)) Q E s):
  dU X f (rI C λi j=>.int (g i j)):=by intro F3 s σ H x y v u Q I rx ry h;obtain ⟨i,j,rfl,rfl,hc,q⟩:=h;obtain ⟨t,rfl⟩:=rx;obtain ⟨t',rfl⟩:=ry;exact rule i j t t' s _ _ hc ⟨.int (g i j),H,I.tok _,⟨_,rfl⟩,q⟩
theorem Bg {f:Ge->Ge->Sem Ge}{g:Int->Int->Int}
  (rule:∀(i j:Int) (t u:Tok) (s:Gf) (Q:Ge->Gf->Prop) (E:Ge->Gf->Prop),Q (.int (g i j) s.toks) {s with toks:=s.toks + 1}->GH (GD X.prog X.w) X.A (f (.int i t) (.int j u)) Q E s):
  dU X f (oK λi j=>.int (g i j)):=by intro F3 s σ H x y v u Q I rx ry h;obtain ⟨i,j,rfl,rfl,q⟩:=h;obtain ⟨t,rfl⟩:=rx;obtain ⟨t',rfl⟩:=ry;exact rule i j t t' s _ _ ⟨.int (g i j),H,I.tok _,⟨_,rfl⟩,q⟩
theorem DV {f:Ge->Ge->Sem Ge}{g:Int->Int->Bool}
  (rule:∀(i j:Int) (t u:Tok) (s:Gf) (Q:Ge->Gf->Prop) (E:Ge->Gf->Prop),Q (.bool (g i j)) s->GH (GD X.prog X.w) X.A (f (.int i t) (.int j u)) Q E s):
  dU X f (oK λi j=>.bl (g i j)):=by intro F3 s σ H x y v u Q I rx ry h;obtain ⟨i,j,rfl,rfl,q⟩:=h;obtain ⟨t,rfl⟩:=rx;obtain ⟨t',rfl⟩:=ry;exact rule i j t t' s _ _ ⟨.bl (g i j),H,I,rfl,q⟩
def DB (i j:Int):Prop:=0 < j/\j < 1073741824
def DC (i j:Int):Prop:=0<=j/\j<=1000000/\i.natAbs < 2 ^ 64
def sD (i j:Int):Prop:=(-(2 ^ 64) < i/\i < 2 ^ 64)\/(-(2 ^ 64) < j/\j < 2 ^ 64)
theorem sD.ok (h:sD i j):IntMulOk i j:=by
 rcases h with ⟨h1,h2⟩ | ⟨h1,h2⟩
 ·exact .of_left (OF h1 h2)
 ·exact .of_right (OF h1 h2)
theorem vm:dU X (JB .Add) (oK λi j=>.int (i + j)):=Bg λ_ _ _ _ _ _ _ q=>add_int q
theorem Bo:dU X (JB .Sub) (oK λi j=>.int (i - j)):=Bg λ_ _ _ _ _ _ _ q=>sub_int q
theorem Bk:dU X (JB .Mult) (rI sD λi j=>.int (i * j)):=yH λ_ _ _ _ _ _ _ hc q=>mul_int q hc.ok
theorem zD:dU X (JB .FloorDiv) (rI DB λi j=>.int (i / j)):=yH λi j _ _ _ _ _ hc q=>by have h1:(0:Int) < j:=hc.1;have h2:j < 1073741824:=hc.2;exact floordiv_int (by omega) (by rw [Int.fdiv_eq_ediv_of_nonneg i (by omega)];exact q) (.inl (PyProof.noPylong_small (by omega)))
theorem Bj:dU X (JB .Mod) (rI (λ_ j=>0 < j) λi j=>.int (i % j)):=yH λi j _ _ _ _ _ hc q=>by have h1:(0:Int) < j:=hc;exact mod_int' (by omega) (by rw [Int.fmod_eq_emod_of_nonneg i (by omega)];exact q)
theorem Bm:dU X (JB .Pow) (rI DC λi j=>.int (i ^ j.toNat)):=yH λ_ _ _ _ _ _ _ hc q=>pow_int_small hc.1 hc.2.1 hc.2.2 q
theorem Cy:dU X (Jm .Lt) (oK λi j=>.bl (decide (i < j))):=DV λ_ _ _ _ _ _ _ q=>lt_int q
theorem dU.or {f:Ge->Ge->Sem Ge}{r r':R2}(h:dU X f r) (h':dU X f r'):dU X f (λx y H Q=>r x y H Q\/r' x y H Q):=by
 intro F3 s σ H x y v u Q I rx ry q;rcases q with q | q
 ·exact h F3 s σ H x y v u Q I rx ry q
 ·exact h' F3 s σ H x y v u Q I rx ry q
theorem qx (b:Hl) (h:op≠.In:=by decide) (h2:op≠.NotIn:=by decide):Il op b=false:=by
 have e1:(op == Qm)=false:=by cases op <;> first | rfl | exact absurd rfl h
 have e2:(op == Pd)=false:=by cases op <;> first | rfl | exact absurd rfl h2
 cases b <;> simp [Il,e1,e2]
theorem zK (ho:dU X (Jm op) r) (ha:PE X a ta) (hb:PE X b tb) (hm:Il op b=false):PE X (.Compare a [op] [b] pos) (vQ r ta tb):=by intro F3 s σ H Q I h;exact wpAny_Compare1 (wI ha hb I h λv u s2 x y H2 I2 rx ry q=>ho F3 s2 σ H2 x y v u Q I2 rx ry q) hm
def Dc (t:TE):TT:=λσ H Q=>t σ H λx H'=>∃k,x=.bl k/\Q k H'
theorem zU {op:CmpOp}{r:R2}(ho:dU X (Jm op) r) (ha:PE X a ta) (hb:PE X b tb) (hm:Il op b=false):PT X (.Compare a [op] [b] pos) (Dc (vQ r ta tb)):=by
 intro F3 s σ H Q I h;refine LY (bS (ha F3 s σ H _ I h) λv s1 ⟨x,H1,I1,r1,q1⟩=>bS (hb F3 s1 σ H1 _ I1 q1) λu s2 ⟨y,H2,I2,r2,q2⟩=>
  bS (ho F3 s2 σ H2 x y v u _ I2 r1 r2 q2) λc s3 ⟨z,H3,I3,r3,k,e,q3⟩=>?_) hm
 subst e;cases r3;exact Jz ⟨H3,I3,q3⟩
theorem j6:(sizeLine:Nat) < 2 ^ 63:=by rw [IY];decide
theorem mR:dU X (JB .Add) (λx y H Q=>∃i j,x=.str i/\y=.str j/\i.length + j.length<=sizeLine/\Q (.str (i++j)) H):=by intro F3 s σ H x y v u Q I rx ry h;obtain ⟨i,j,rfl,rfl,hz,q⟩:=h;obtain ⟨t,rfl⟩:=rx;obtain ⟨t',rfl⟩:=ry;exact add_str (λt' tk=>⟨.str (i++j),H,I.tok _,⟨_,rfl⟩,q⟩) hz
theorem vals1 (r:Vals [x] us):∃u,us=[u]/\RelV x u:=by
 cases r with
 | cons r1 r2=>cases r2;exact ⟨_,rfl,r1⟩
theorem vals2 (r:Vals [x,y] us):∃u w',us=[u,w']/\RelV x u/\RelV y w':=by
 cases r with
 | cons r1 r2=>
  cases r2 with
  | cons r3 r4=>cases r4;exact ⟨_,_,rfl,r1,r3⟩
end
structure c8 (k:Nat) (A:G3):Prop where
 hd:A.handled=none
 dp:A.depth + 3 * k + 5 < Oc
 un:A.units + 16 * k + 200 < Kn
theorem c8.mono (r:c8 k A) (h:j<=k):c8 j A:=⟨r.hd,by have:=r.dp;omega,by have:=r.un;omega⟩
theorem c8.deeper {A:G3}(r:c8 (k + 1) A) (env:Env):c8 k (A.deeper env):=
 ⟨r.hd,by have:=r.dp;show A.depth + 1 + 3 * k + 5 < _;omega,by have:=r.un;show A.units + 3 + 16 * k + 200 < _;omega⟩
theorem c8.depth {A:G3}(r:c8 k A):A.depth < Oc:=by have:=r.dp;omega
theorem c8.units {A:G3}(r:c8 k A):A.units + 64 < Kn:=by have:=r.un;omega
def x_:TA:=λ_ H Q=>Q [] H
def CW (ta:TE) (tr:TA):TA:=λσ H Q=>ta σ H λx H1=>tr σ H1 λxs H2=>Q (x::xs) H2
section
variable {X:Cx}{e:Hl}{es:List Hl}{te:TE}{t:TA}{pos:Pos}
theorem kc:PA X [] x_:=λ_ _ _ _ H Q I h=>Calls.spliced_nil ⟨[],H,I,.nil,h⟩
theorem ig (ha:PE X e te) (hr:PA X es t) (hs:GA (e::es) X.env=(false,eval e X.env)::GA es X.env:=by rfl):PA X (e::es) (CW te t):=by intro pos F3 s σ H Q I h;rw [hs];show GH _ _ (spliced ((false,eval e X.env)::JG pos (GA es X.env))) _ _ s;refine Calls.spliced_cons (bS (ha F3 s σ H _ I h) λu s1 ⟨x,H1,I1,r1,q1⟩=>?_);exact bS (hr pos F3 s1 σ H1 _ I1 q1) λus s2 ⟨xs,H2,I2,r2,q2⟩=>⟨x::xs,H2,I2,.cons r1 r2,q2⟩
def Eg (t:TA):TE:=λσ H Q=>t σ H λxs H1=>xs.length<=sizeLine/\∀p,H1 p=none->Q (.ref p) (upd H1 p (.tup xs))
def Eb (t:TA):TE:=λσ H Q=>t σ H λxs H1=>xs.length<=sizeLine/\∀p,H1 p=none->Q (.ref p) (upd H1 p (.lst xs))
theorem Bw {x1}(h:PA X es t):PE X (.Tuple es x1 pos) (Eg t):=by intro F3 s σ H Q I hq;refine wpAny_Tuple_spliced (bS (h pos F3 s σ H _ I hq) λus s1 ⟨xs,H1,I1,r,z,q⟩=>⟨by rw [<-r.length];exact z,?_⟩);have hf:H1 s1.heap.objs.size=none:=I1.hok.fresh (Gm _);refine ⟨.ref s1.heap.objs.size,upd H1 s1.heap.objs.size (.tup xs),I1.laid (t':=s1.toks) (λb u e=>Gh _ e) (Gm _) ?_,rfl,q _ hf⟩;exact ⟨z,us,r,⟨_,Gu _ rfl,rfl,_,rfl⟩,λo q=>by rw [Gu _ rfl] at q;cases q;rfl⟩
theorem Bt (h:PA X es t):PE X (.List es pos) (Eb t):=by intro F3 s σ H Q I hq;refine wpAny_List_spliced (bS (h pos F3 s σ H _ I hq) λus s1 ⟨xs,H1,I1,r,z,q⟩=>⟨by rw [<-r.length];exact z,?_⟩);have hf:H1 s1.heap.objs.size=none:=I1.hok.fresh (Gm _);refine ⟨.ref s1.heap.objs.size,upd H1 s1.heap.objs.size (.lst xs),I1.laid (t':=s1.toks) (λb u e=>Gh _ e) (Gm _) ?_,rfl,q _ hf⟩;exact ⟨z,us,0,r,Gu _ rfl⟩
end
abbrev Sp:=List V->Hp->VK->XK->Prop
abbrev nZ:=List Env->Hp->Gf->XK->Ge->Gf->Prop
structure sF (P:GG) (w:Hi) (K:Gd) (mg:Str->Option Ge) (base:Ij) (A:G3) (outer:List Env) (s:Gf) (H:Hp):Prop where
 frames:A.frames=some outer
 mod:Mod K mg base
 bs:∀b o,base.get? b=some o->s.heap.get? b=some o/\H b=none
 bsz:base.objs.size<=s.heap.objs.size
 funs:s.heap.FunFrames base outer
 frf:∀b∈frs outer,H b=none
 hok:eT P w H s.heap
 bare:LX s.gens
noncomputable def CE (outer:List Env) (P:GG) (w:Hi) (H:Hp) (s:Gf) (Q:VK) (u:Ge) (s':Gf):Prop:=
 ∃v H',s'.os=s.os/\LX s'.gens/\Un (frs outer) [] H H' s.heap s'.heap/\eT P w H' s'.heap/\RelV v u/\Q v H'
noncomputable def CR (CX:nZ) (outer:List Env) (P:GG) (w:Hi) (H:Hp) (s:Gf) (Q:VK) (E:XK) (r:Result) (s':Gf):Prop:=
 match r with
 | .ok (.ret u)=>CE outer P w H s Q u s'
 | .ok _=>False
 | .error e=>CX outer H s E e s'
structure f6 (P:GG) (w:Hi) (K:Gd) (mg:Str->Option Ge) (base:Ij) (CX:nZ) (k:Nat) (f:GF) (fd:HM) (ps:List Str) (sp:Sp):Prop where
 len:∀vs H Q E,sp vs H Q E->vs.length=ps.length
 run:∀(A:G3) (outer:List Env) (s:Gf) (H:Hp) (args:Args) (us:List Ge) (vs:List V) (Q:VK) (E:XK),c8 k A->sF P w K mg base A outer s H->NQ s fd args (ps.zip us)->Vals vs us->sp vs H Q E->
  LF (GD P w) A (.call (.ref f) args) (CR CX outer P w H s Q E) s
section
variable {X:Cx}{F3:List (GF×Obj)}{σ:St}{H:Hp}{s s':Gf}
theorem Inv.env0 (I:Inv X F3 σ H s):sF X.prog X.w X.K X.mg X.base X.A X.stack s H:=
 ⟨I.ok.frames,I.ok.mod,I.bs,HB I.ok.bsz I.sz,I.stack,I.stkFree,I.hok,I.bare⟩
theorem Inv.after {Q:VK}(I:Inv X F3 σ H s) (h:CE X.stack X.prog X.w H s Q u s'):EP X F3 σ Q u s':=by obtain ⟨v,H',os,bare,un,hok,r,q⟩:=h;obtain ⟨hh,g,d,t,os'⟩:=s';obtain rfl:os'=s.os:=os;exact ⟨v,H',I.call (h':=hh) (g':=g) (d':=d) (t':=t) (ch:=[]) un hok bare (λb z=>absurd z (by simp)),r,q⟩
end
def yM (sp:Sp) (dvs:List V) (E:XK) (t:TA):TE:=λσ H Q=>t σ H λvs H1=>sp (vs++dvs) H1 Q E
noncomputable def Binds (K:Gd) (fd:HM) (ps:List Str) (ds:List Ge):Prop:=
 ∀(s:Gf) (us:List Ge),K.In s.heap->(us++ds).length=ps.length->NQ s fd ⟨us,[]⟩ (ps.zip (us++ds))
theorem Binds.all {K:Gd}{fd:HM}{ps:List Str}(h:∀us:List Ge,us.length=ps.length->MN fd ⟨us,[]⟩=pure (ps.zip us)):Binds K fd ps []:=λs us _ hl=>by rw [HL] at hl ⊢;exact .of_eq (h us hl)
def Passes (CX:nZ) (X:Cx) (E:XK):Prop:=∀(F3:List (GF×Obj)) (σ:St) (H:Hp) (s:Gf) (e:Ge) (s':Gf),Inv X F3 σ H s->CX X.stack H s E e s'->X.xe e s'
section
variable {X:Cx}{CX:nZ}{k:Nat}{f C:GF}{fd:HM}{ps:List Str}{sp:Sp}{dvs:List V}{ds:List Ge}{E:XK}{x m:Str}{p pos apos:Pos}{e o:Hl}{es:List Hl}{ta:TE}{t:TA}
theorem BV {H:Hp}{Q:VK}(F:f6 X.prog X.w X.K X.mg X.base CX k f fd ps sp) (hr:c8 k X.A) (hb:Binds X.K fd ps ds) (hd:Vals dvs ds) (hx:Passes CX X E)
 (I:Inv X F3 σ H s) (r:Vals vs us) (h:sp (vs++dvs) H Q E):GH (GD X.prog X.w) X.A (call (.ref f) us) (EP X F3 σ Q) X.xe s:=by
 have r2:Vals (vs++dvs) (us++ds):=r.append hd;have hl:(us++ds).length=ps.length:=by rw [<-r2.length];exact F.len _ _ _ _ h
 refine Ov (Kz (F.run X.A X.stack s H ⟨us,[]⟩ (us++ds) (vs++dvs) Q E hr I.env0 (hb s us I.kIn hl) r2 h) λr s' hq=>?_);cases r with
 | error e=>exact hx F3 σ H s e s' I hq
 | ok fl=>
  cases fl with
  | ret u=>exact I.after hq
  | next=>exact JA hq
  | brk=>exact JA hq
  | cont=>exact JA hq
theorem zJ (F:f6 X.prog X.w X.K X.mg X.base CX k f fd ps sp) (hr:c8 k X.A) (hg:Gl X x) (hm:X.mg x=some (.ref f)) (hk:Jq X.K (.ref f)=true) (hb:Binds X.K fd ps ds) (hd:Vals dvs ds) (hx:Passes CX X E)
  (ha:PA X (e::es) t) (hdb:(x == ("__debug__":Str))=false:=by decide) (he:GA (e::es) X.env=(false,eval e X.env)::GA es X.env:=by rfl) (hpl:(JG pos (GA es X.env)).any (·.1)=false:=by rfl):
  PE X (.Call (.Name x p) (e::es) [] pos) (yM sp dvs E t):=by intro F3 s σ H Q I h;refine Lh (zv I hg hm ?_ hdb);refine W.callWith_K (h₀:=X.base) I.ok.mod.kin hk (bS (ha pos F3 s σ H _ I h) λus s1 ⟨vs,H1,I1,r,q⟩=>⟨I1.kIn,?_⟩) he hpl;exact BV F hr hb hd hx I1 r q
end
structure eB (N P:List Str) (sc:K3):Prop where
 kind:sc.kind=.function
 co:sc.isCoroutine=false
 gen:sc.isGenerator=false
 nd:N.Nodup
 pre:N.take P.length=P
 par:∀x∈P,sc.names.lookup x=some .local\/sc.names.lookup x=some .cell
 nofree:∀y∈sc.names,y.2≠.free
theorem oz {kindOf:Str->Option IC}:∀{binds:List (Str×Ge)}{m:Str->Option Ge},(∀v,(x,v)∉binds)->Pg kindOf binds m x=m x
 | [],_,_=>rfl
 | (n,v)::r,m,h=>by
  unfold Pg;rw [oz λw hw=>h w (Gp _ hw)];split
  ·have:x≠n:=by rintro rfl;exact h v Gs
   simp [this]
  ·rfl
theorem oj {kindOf:Str->Option IC}:∀{binds:List (Str×Ge)}{m:Str->Option Ge},(∀v,(x,v)∉binds)->Ph kindOf binds m x=m x
 | [],_,_=>rfl
 | (n,v)::r,m,h=>by
  unfold Ph;rw [oj λw hw=>h w (Gp _ hw)];split
  ·rfl
  ·have:x≠n:=by rintro rfl;exact h v Gs
   simp [this]
theorem oq {kindOf:Str->Option IC}{x:Str}{v:Ge}:∀{P:List Str}{vs:List Ge}{i:Nat}{m:Str->Option Ge},P.Nodup->P[i]?=some x->vs[i]?=some v->kindOf x=some .local->
  Pg kindOf (P.zip vs) m x=some v
 | [],_,_,_,_,h,_,_=>by simp at h
 | _::_,[],_,_,_,_,h,_=>by simp at h
 | p::P,w::vs,0,m,nd,h1,h2,hk=>by simp at h1 h2;subst h1;subst h2;show Pg kindOf ((p,w)::P.zip vs) m p=_;unfold Pg;rw [oz λv hv=>(Jx.mp nd).1 (L4 hv).1,if_pos hk];simp
 | p::P,w::vs,i + 1,m,nd,h1,h2,hk=>by show Pg kindOf ((p,w)::P.zip vs) m x=_;unfold Pg;exact oq (i:=i) (Jx.mp nd).2 (by simpa using h1) (by simpa using h2) hk
theorem oh {kindOf:Str->Option IC}{x:Str}{v:Ge}:∀{P:List Str}{vs:List Ge}{i:Nat}{m:Str->Option Ge},P.Nodup->P[i]?=some x->vs[i]?=some v->kindOf x≠some .local->
  Ph kindOf (P.zip vs) m x=some v
 | [],_,_,_,_,h,_,_=>by simp at h
 | _::_,[],_,_,_,_,h,_=>by simp at h
 | p::P,w::vs,0,m,nd,h1,h2,hk=>by simp at h1 h2;subst h1;subst h2;show Ph kindOf ((p,w)::P.zip vs) m p=_;unfold Ph;rw [oj λv hv=>(Jx.mp nd).1 (L4 hv).1,if_neg hk];simp
 | p::P,w::vs,i + 1,m,nd,h1,h2,hk=>by show Ph kindOf ((p,w)::P.zip vs) m x=_;unfold Ph;exact oh (i:=i) (Jx.mp nd).2 (by simpa using h1) (by simpa using h2) hk
def start (N:List Str) (vs:List V):St:=vs.map some++GQ (N.length - vs.length) none
noncomputable def lM (CX:nZ) (P:GG) (w:Hi) (K:Gd) (mg:Str->Option Ge) (base:Ij) (N:List Str) (F9:Str) (F0:K3) (f:GF) (cd:Ge) (A:G3) (outer:List Env) (s:Gf) (H:Hp) (E:XK):Cx where
 prog:=P
 w:=w
 K:=K
 mg:=mg
 base:=base
 A:=A.deeper (Li F9 F0 s.heap.objs.size f cd)
 N:=N
 s₀:=s
 H₀:=H
 env:=Li F9 F0 s.heap.objs.size f cd
 outer:=outer
 stack:=Li F9 F0 s.heap.objs.size f cd::outer
 ex:=[]
 calm:=true
 fn:=λ_=>true
 pn:=[]
 xe:=λe s'=>GH (GD P w) (A.deeper (Li F9 F0 s.heap.objs.size f cd)) (leaving (Li F9 F0 s.heap.objs.size f cd) e) (λ_ s''=>CX outer H s E e s'') (λe' s''=>CX outer H s E e' s'') s'
theorem pZ {sc:K3}(h:sc.names.lookup x=some .cell):∃c,(G8 n sc.names []).lookup x=some c:=by have q:=LR sc.names n [] (.inl h);exact Hz.mp q
theorem u6 {CX:nZ}{P:GG}{w:Hi}{K:Gd}{mg:Str->Option Ge}{base:Ij}{N ps:List Str}{F9:Str}{F0:K3}{f:GF}{cd:Ge}{A:G3}{outer:List Env}{s s1:Gf}{H:Hp}{E:XK}{us:List Ge}{vs:List V}
  (S:eB N ps F0) (hd:A.handled=none) (e0:sF P w K mg base A outer s H) (hl:vs.length=ps.length) (r:Vals vs us)
  (x:InCallC s s.heap.objs.size (Pg (Li F9 F0 s.heap.objs.size f cd).kindOf (ps.zip us) λ_=>none) (G8 (s.heap.objs.size + 1) F0.names []) (Ph (Li F9 F0 s.heap.objs.size f cd).kindOf (ps.zip us) λ_=>none) s1):
  Inv (lM CX P w K mg base N F9 F0 f cd A outer s H E) [] (start N vs) H s1:=by
 have hpl:ps.length<=N.length:=by have:=congrArg LG S.pre;rw [GU] at this;omega
 obtain ⟨h1,tk,rfl,hk⟩:=x.done;have noA:∀b:GF,b∉(lM CX P w K mg base N F9 F0 f cd A outer s H E).ex:=λb z=>absurd (show b∈([]:List GF) from z) (by simp);refine ⟨⟨e0.mod,S.kind,rfl,rfl,Gm _,λy z c h1 h2=>?_,λy hy=>?_,λy c _ h=>?_,λ_=>hd,Around.frames_deeper e0.frames,.inr ⟨rfl,rfl⟩,λb z=>absurd z (noA b),e0.bs,e0.bsz,λb _ _=>noA b,λb z=>absurd z (noA b),e0.funs,e0.frf⟩,
  rfl,e0.bare,Un.kept hk,⟨_,x.toInCall.ns,λi y v h1 h2 h3=>?_⟩,λy c h=>⟨_,x.cell y c h⟩,e0.hok.fresh (Gm _),λy c h=>?_,λp hp=>absurd (show p∈([]:List (GF×Obj)) from hp) (by simp),e0.hok.kept hk,?_⟩
 ·exact name_of_addr x.apart (Jk h1) (Jk h2)
 ·have hy:F0.names.lookup y=some .cell\/F0.names.lookup y=some .free:=hy;rcases hy with hy | hy
  ·exact pZ hy
  ·exact absurd rfl (S.nofree _ (Jk hy))
 ·exact Ky (x.above y c (Jk h))
 ·have hi:i < vs.length:=by
   unfold start at h2;by_cases hi:i < vs.length
   ·exact hi
   ·rw [HG (by simpa using hi)] at h2;rw [JV] at h2;split at h2 <;> cases h2
  have ha:vs[i]?=some v:=by
   unfold start at h2;rw [IZ (by simpa using hi),GK] at h2;cases e:vs[i]? with
   | none=>rw [e] at h2;cases h2
   | some a=>rw [e] at h2;cases h2;rfl
  obtain ⟨u,hu,rv⟩:=r.get ha;have hp:ps[i]?=some y:=by rw [<-S.pre,HA (by omega)];exact h1
  have ndP:ps.Nodup:=by rw [<-S.pre];exact S.nd.sublist (JC _ _)
  refine ⟨u,rv,?_⟩;rcases S.par y (GV hp) with k | k
  ·exact .inl ⟨k,oq ndP hp hu k⟩
  ·obtain ⟨c,e⟩:=pZ (n:=s.heap.objs.size + 1) k;refine .inr ⟨.inl k,c,e,?_⟩;have q:=x.cell y c e;rw [oh ndP hp hu (by show F0.names.lookup y≠_;rw [k];decide)] at q;exact q
 ·exact e0.hok.fresh (Ky (x.above y c (Jk h)))
 ·unfold start;show _=N.length;rw [GR,Gn,G7];omega
theorem Ce {K:Gd}{mg:Str->Option Ge}{dV kV doc pm cdv ct oc:Ge}
 {N ps:List Str}{sp:Sp}(lk:K.lookup f=some ⟨oc,od,.func (HU name F9 params body F0 dV kV doc pm an cdv ct),osl⟩) (hcd:Ku K cdv F9=true) (S:eB N ps F0)
 (len:∀vs H Q E,sp vs H Q E->vs.length=ps.length)
 (hbody:∀(A:G3) (outer:List Env) (s:Gf) (H:Hp) (vs:List V) (Q:VK) (E:XK),c8 k (A.deeper (Li F9 F0 s.heap.objs.size f cdv))->sp vs H Q E->
 ∃t,gU (lM CX P w K mg base N F9 F0 f cdv A outer s H E) body t/\t {nx:=λ_ H'=>Q .non H',rt:=Q} (start N vs) H):
  f6 P w K mg base CX (k + 1) f (HU name F9 params body F0 dV kV doc pm an cdv ct) ps sp:=by
 refine ⟨len,λA outer s H args us vs Q E hr e0 hb r EX=>?_⟩;have hl:=len _ _ _ _ EX;have KX:K.In s.heap:=e0.mod.kin.keeps λb o e=>(e0.bs b o e).1;have lim:s.heap.NoLimit:=e0.mod.nolimit.keeps λb o e=>(e0.bs b o e).1;have hkind:∀y∈ps.zip us,F0.names.lookup y.1=some .local\/(F0.names.lookup y.1=some .cell/\((G8 (s.heap.objs.size + 1) F0.names []).lookup y.1).isSome=true):=λ⟨n,v⟩ hy=>by
  rcases S.par n (L4 hy).1 with q | q
  ·exact .inl q
  ·exact .inr ⟨q,LR _ _ _ (.inl q)⟩
 refine codeAny_call_function hr.depth (KX _ _ lk) rfl S.co S.gen rfl (W.codeRec_of KX hcd) (hb _ _ _ _ ?_);refine wpAny_newFunctionEnv_cells S.kind hkind λenv he s1 x=>?_;subst he;refine ⟨lim.keeps x.toInCall.keep,codeAny_func ?_⟩;obtain ⟨t,ht,hq⟩:=hbody A outer s H vs Q E (hr.deeper _) EX;have I:Inv (lM CX P w K mg base N F9 F0 f cdv A outer s H E) [] (start N vs) H s1:=u6 S hr.hd e0 hl r x;refine Hv (ht [] s1 (start N vs) H _ I hq) (λfl s' hs=>?_) λe s' hs=>hs;have fin:∀{σ':St}{H':Hp}{v:V}{u:Ge},Inv (lM CX P w K mg base N F9 F0 f cdv A outer s H E) [] σ' H' s'->RelV v u->Q v H'->CE outer P w H s Q u s':=
  fun {σ' H' v u} J rv q=>⟨v,H',J.os,J.bare,J.base,J.hok,rv,q⟩
 cases fl with
 | ret u=>
  obtain ⟨v,σ',H',J,rv,q⟩:=hs;exact fin J rv q
 | next=>
  obtain ⟨σ',H',J,q⟩:=hs;exact fin (v:=V.non) (u:=HD) J rfl q
 | brk=>
  obtain ⟨_,_,_,q⟩:=hs;exact JA q
 | cont=>
  obtain ⟨_,_,_,q⟩:=hs;exact JA q
section
variable {X:Cx}{x:Str}{p pos:Pos}{e:Hl}{es:List Hl}{t:TA}{id T:String}{r:List V->Hp->VK->Prop}
def Dw (r:List V->Hp->VK->Prop) (t:TA):TE:=λσ H Q=>t σ H λvs H1=>r vs H1 Q
theorem qA (hc:dG X (.builtin id) r) (hg:Gl X x) (hm:X.mg x=none) (hv:Hw x=some (.builtin id)) (ha:PA X (e::es) t) (hn:x≠"__name__":=by decide) (hdb:(x == ("__debug__":Str))=false:=by decide)
  (he:GA (e::es) X.env=(false,eval e X.env)::GA es X.env:=by rfl) (hpl:(JG pos (GA es X.env)).any (·.1)=false:=by rfl):PE X (.Call (.Name x p) (e::es) [] pos) (Dw r t):=by intro F3 s σ H Q I h;refine Lh (jZ I hg hm hv ?_ hn hdb);exact Nn (bS (ha pos F3 s σ H _ I h) λus s1 ⟨vs,H1,I1,r1,q1⟩=>hc F3 s1 σ H1 vs us Q I1 r1 q1) he hpl
theorem kh (hc:dG X (.type T) r) (hg:Gl X x) (hm:X.mg x=none) (hv:Hw x=some (.type T)) (ha:PA X (e::es) t) (hn:x≠"__name__":=by decide) (hdb:(x == ("__debug__":Str))=false:=by decide)
  (he:GA (e::es) X.env=(false,eval e X.env)::GA es X.env:=by rfl) (hpl:(JG pos (GA es X.env)).any (·.1)=false:=by rfl):PE X (.Call (.Name x p) (e::es) [] pos) (Dw r t):=by intro F3 s σ H Q I h;refine Lh (jZ I hg hm hv ?_ hn hdb);exact Jw (bS (ha pos F3 s σ H _ I h) λus s1 ⟨vs,H1,I1,r1,q1⟩=>hc F3 s1 σ H1 vs us Q I1 r1 q1) he hpl
end
end L2
namespace HT
open PySem PyProof.Rows
section
open PySem.SeqAt
open PySem.AutoSeq1 (wpAny_loadPart')
open PySem.MeetsSeq PySem.MeetsSeq2 PySem.MeetsSeq3
end
section
variable {prog:GG}{w:Hi}{A:G3}{E:Ge->Gf->Prop}{s:Gf}
theorem zb {vs ws:List Ge}{Q:Ge->Gf->Prop}(ht:Qg s.heap t vs.toArray) (hb:Qg s.heap b ws.toArray) (hv:vs≠[])
 (h1:ws=[]->Q (.ref t) s) (h2:ws≠[]->Q (.ref s.heap.objs.size) {s with heap:=s.heap.push {cls:=.type "tuple",data:=.seq (vs++ws).toArray}})
 (hsz:vs.length + ws.length<=sizeLine):GH (GD prog w) A (JB .Add (.ref t) (.ref b)) Q E s:=by
 obtain ⟨⟨cls,dd,data,sl⟩,ho,hc,n,hd⟩:=id ht;obtain ⟨⟨cls2,dd2,data2,sl2⟩,ho2,hc2,n2,hd2⟩:=id hb;simp only at hc hd hc2 hd2;subst hc hd hc2 hd2;have e:vs.toArray++ws.toArray=(vs++ws).toArray:=by simp
 by_cases hw:ws=[]
 ·exact Np ⟨_,ho,rfl⟩ ⟨_,ho2,rfl⟩ LL MO Ko JW (JR _ _)
   (tuple_addW1 t b vs.toArray ws.toArray n n2 dd dd2 sl sl2 (by simpa using hv) (by simp [hw])) ⟨ho,ho2,h1 hw⟩
 ·refine Np ⟨_,ho,rfl⟩ ⟨_,ho2,rfl⟩ LL MO Ko JW (JR _ _)
   (tuple_addW2 t b vs.toArray ws.toArray n n2 dd dd2 sl sl2 (by simpa using hv) (by simpa using hw) (by rw [Gq,Gq];exact hsz)) ⟨ho,ho2,?_⟩
  rw [e];exact h2 hw
noncomputable def br (n d:Nat):Option Int->Nat
 | none=>d
 | some v=>if v < 0 then (v + (n:Int)).toNat else min v.toNat n
theorem xW (n d:Nat):br n d none=d:=rfl
theorem nT (n d k:Nat):br n d (some (k:Int))=min k n:=by show (if (k:Int) < 0 then ((k:Int) + (n:Int)).toNat else min (k:Int).toNat n)=min k n;rw [if_neg (by omega),Jd]
theorem BX (n d:Nat) (hd:d<=n) (o:Option Int):br n d o<=n:=by
 cases o with
 | none=>exact hd
 | some v=>
  show (if v < 0 then (v + (n:Int)).toNat else min v.toNat n)<=n;by_cases hv:v < 0
  ·rw [if_pos hv];omega
  ·rw [if_neg hv];exact Nat.min_le_right _ _
theorem rD (v:Int) (n d:Nat):(if v < 0 then max (v + (n:Int)) 0 else min v (n:Int))=((br n d (some v):Nat):Int):=by
 show (if v < 0 then max (v + (n:Int)) 0 else min v (n:Int))=(((if v < 0 then (v + (n:Int)).toNat else min v.toNat n):Nat):Int);by_cases hv:v < 0
 ·simp only [if_pos hv];omega
 ·simp only [if_neg hv];omega
theorem sM (lo hi:Option Int) (n:Nat):JJ lo hi 1 (n:Int)=(((br n 0 lo:Nat):Int),((br n n hi:Nat):Int)):=by
 have h1:¬((1:Int) < 0):=by omega
 unfold JJ;simp only [h1,if_false];refine Kv ?_ ?_
 ·cases lo with
  | none=>rfl
  | some v=>exact rD v n 0
 ·cases hi with
  | none=>rfl
  | some v=>exact rD v n n
theorem tY (i j:Nat):I0 (i:Int) (j:Int) 1=j - i:=by
 unfold I0;have h1:(1:Int) > 0:=by omega
 simp only [h1,if_true,Int.ediv_one];split <;> omega
theorem nu {Q:Option Int->Gf->Prop}(p:MP v o) (h:Q o s):GH (GD prog w) A (NO v) Q E s:=by
 cases p with
 | none=>exact Od h
 | int i t=>exact slicePart_int h
theorem iJ {sl:GF}{vl vu:Ge}{lo hi:Option Int}{n:Nat}{Q:Int×Int×Nat->Gf->Prop}(hs:s.heap.IsSliceOf sl vl vu .none) (pl:MP vl lo) (pu:MP vu hi)
  (h:Q (((br n 0 lo:Nat):Int),1,br n n hi - br n 0 lo) s):GH (GD prog w) A (Le (.ref sl) (pure (n:Int))) Q E s:=by obtain ⟨os,hos,hcs,hds⟩:=id hs;unfold Le Oe;refine Gb (Gb (HW hos hds (x:=vl) rfl (Gb (HW hos hds (x:=vu) rfl (Gb (HW hos hds (x:=.none) rfl (Gk ?_)))))));refine Gb (Od ?_);show GH _ _ (if ((1:Int) == 0)=true then _ else _) _ _ s;rw [if_neg (by decide)];refine Gb (nu pl (Gb (nu pu (Gb (Gk ?_)))));show GH _ _ (match JJ lo hi 1 (n:Int) with | (lo,hi)=>pure (lo,(1:Int),I0 lo hi 1)) _ _ s;rw [sM lo hi n];show GH _ _ (pure (((br n 0 lo:Nat):Int),(1:Int),I0 ((br n 0 lo:Nat):Int) ((br n n hi:Nat):Int) 1)) _ _ s;rw [tY];exact Gk h
theorem xN (xs:Array Ge) (i k:Nat):((Gg k).filterMap λ(m:Nat)=>xs[((i:Int) + (m:Int) * 1).toNat]?).toArray=((xs.toList.drop i).take k).toArray:=by
 have e:(λ(m:Nat)=>xs[((i:Int) + (m:Int) * 1).toNat]?)=λm=>xs[i + m]?:=by
  funext m;have:((i:Int) + (m:Int) * 1).toNat=i + m:=by omega
  rw [this]
 rw [e];have:=pick_run xs i k;rw [List.filterMap_map] at this;have e2:((λx=>xs[x]?) ∘ λx=>i + x)=λm=>xs[i + m]?:=rfl;rw [e2] at this;rw [this]
theorem kX {t sl:GF}{F4:Array Ge}{vl vu:Ge}{lo hi:Option Int}{Q:Ge->Gf->Prop}(ht:Qg s.heap t F4) (hs:s.heap.IsSliceOf sl vl vu .none) (pl:MP vl lo) (pu:MP vu hi)
  (hw:¬(br F4.size 0 lo=0/\br F4.size F4.size hi=F4.size))
  (h:Q (.ref s.heap.objs.size) {s with heap:=s.heap.push {cls:=.type "tuple",data:=.seq ((F4.toList.drop (br F4.size 0 lo)).take (br F4.size F4.size hi - br F4.size 0 lo)).toArray}})
  (hsz:F4.size<=sizeLine):GH (GD prog w) A (M7 (.ref t) (.ref sl)) Q E s:=by
 have EU:sizeOk (.seq ((F4.toList.drop (br F4.size 0 lo)).take (br F4.size F4.size hi - br F4.size 0 lo)).toArray):=by show ((F4.toList.drop (br F4.size 0 lo)).take (br F4.size F4.size hi - br F4.size 0 lo)).toArray.size<=sizeLine;rw [Gq,GU,IA,GB];omega
 have hj:br F4.size F4.size hi<=F4.size:=BX _ _ (Gm _) hi;obtain ⟨os,hos,hcs,hds⟩:=id hs;have Fd:s.TypeIs (.ref sl) "slice":=⟨os,hos,hcs⟩;unfold M7
 try with_reducible refine Im ?_
 first | refine Gb (Gk ?_) | skip
 refine Gb (M8 ht.typeIs (by decide) ?_);refine Gb (HX (name:=KA "__getitem__") ht.typeIs Hg
  (Ia Hg ht.typeIs Mz ?_ (MQ _ _)))
 show GH _ _ (Lf (.ref t) >>= _) _ _ s;refine Gb (OG ht ?_);refine Gb (Nq Fd ?_);rw [if_pos (by decide)];refine Gb (iJ hs pl pu ?_);have hno:¬((((br F4.size 0 lo:Nat):Int) == 0 && (1:Int) == 1 && (br F4.size F4.size hi - br F4.size 0 lo) == F4.size)=true):=by intro q;rw [Gw,Gw] at q;have q1:((br F4.size 0 lo:Nat):Int)=0:=eq_of_beq q.1.1;have q2:br F4.size F4.size hi - br F4.size 0 lo=F4.size:=eq_of_beq q.2;exact hw ⟨by omega,by omega⟩
 show GH _ _ (if (((br F4.size 0 lo:Nat):Int) == 0 && (1:Int) == 1 && (br F4.size F4.size hi - br F4.size 0 lo) == F4.size)=true then _ else _) _ _ s;rw [if_neg hno,xN]
 first
  | exact Gb (m:=Jf _) (Ic (Gk ⟨_,rfl,Gk h⟩) EU)
  | exact Gb (m:=Jf _) (Ic (Gb (Gk (Gk ⟨_,rfl,Gk h⟩))) EU)
  | exact Gb (Gb (m:=Jf _) (Ic (Gk (Gk ⟨_,rfl,Gk h⟩)) EU))
  | exact Gb (Gb (m:=Jf _) (Ic (Gk ⟨_,rfl,Gk h⟩) EU))
end
end HT
namespace L2
open PySem PySem.Spec PyProof.Rows
abbrev TO:=St->Hp->(Option Int->Hp->Prop)->Prop
noncomputable def PO (X:Cx) (e:Option Hl) (t:TO):Prop:=
 ∀(F3:List (GF×Obj)) (s:Gf) (σ:St) (H:Hp) (Q:Option Int->Hp->Prop),Inv X F3 σ H s->t σ H Q->
  GH (GD X.prog X.w) X.A (evalPart e X.env) (λu s'=>∃o H',Inv X F3 σ H' s'/\MP u o/\Q o H') X.xe s
def Af:TO:=λ_ H Q=>Q none H
def C_ (t:TE):TO:=λσ H Q=>t σ H λx H1=>∃i,x=.int i/\Q (some i) H1
section
variable {X:Cx}{e:Hl}{te:TE}{lo hi:Option Hl}{tl th:TO}{pos p2:Pos}
theorem zN:PO X none Af:=by intro F3 s σ H Q I h;rw [OH];exact Gk ⟨none,H,I,.none,h⟩
theorem zO (h:PE X e te):PO X (some e) (C_ te):=by intro F3 s σ H Q I hw;rw [evalPart_some];refine bS (h F3 s σ H _ I hw) λu s1 ⟨x,H1,I1,r1,q1⟩=>?_;obtain ⟨i,rfl,q⟩:=q1;obtain ⟨t,rfl⟩:=r1;exact ⟨some i,H1,I1,.int i t,q⟩
noncomputable def l7 (X:Cx) (r:V->Option Int->Option Int->Hp->VK->Prop):Prop:=
 ∀(F3:List (GF×Obj)) (s:Gf) (σ:St) (H:Hp) (x:V) (v vl vu:Ge) (lo hi:Option Int) (sl:GF) (Q:VK),Inv X F3 σ H s->RelV x v->s.heap.IsSliceOf sl vl vu .none->MP vl lo->MP vu hi->r x lo hi H Q->
  ∃T id,typeLookup (.type T) "__getitem__"=pure (some (.builtin id))/\s.TypeIs v T/\GH (GD X.prog X.w) X.A (M7 v (.ref sl)) (EP X F3 σ Q) X.xe s
theorem l7.or {r r':V->Option Int->Option Int->Hp->VK->Prop}(h:l7 X r) (h':l7 X r'):l7 X (λx lo hi H Q=>r x lo hi H Q\/r' x lo hi H Q):=by
 intro F3 s σ H x v vl vu lo hi sl Q I rx hs pl pu q;rcases q with q | q
 ·exact h F3 s σ H x v vl vu lo hi sl Q I rx hs pl pu q
 ·exact h' F3 s σ H x v vl vu lo hi sl Q I rx hs pl pu q
def Ey (r:V->Option Int->Option Int->Hp->VK->Prop) (te:TE) (tl th:TO):TE:=λσ H Q=>te σ H λx H1=>tl σ H1 λl H2=>th σ H2 λu H3=>r x l u H3 Q
theorem xJ {r:V->Option Int->Option Int->Hp->VK->Prop}(hr:l7 X r) (he:PE X e te) (hl:PO X lo tl) (hu:PO X hi th):PE X (.Subscript e (.Slice lo hi none p2) pos) (Ey r te tl th):=by intro F3 s σ H Q I h;refine Subscript_ (bS (he F3 s σ H _ I h) λv s1 ⟨x,H1,I1,r1,q1⟩=>?_);refine wpAny_Slice (bS (hl F3 s1 σ H1 _ I1 q1) λvl s2 ⟨l,H2,I2,pl,q2⟩=>bS (hu F3 s2 σ H2 _ I2 q2) λvu s3 ⟨u,H3,I3,pu,q3⟩=>?_);rw [OH];refine Gk ?_;have I4:Inv X F3 σ H3 {s3 with heap:=s3.heap.push {cls:=.type "slice",data:=.fields #[vl,vu,.none]}}:=I3.kept (t':=s3.toks) λb ob q=>Gh _ q;obtain ⟨T,id,hT,ht,hg⟩:=hr F3 {s3 with heap:=s3.heap.push {cls:=.type "slice",data:=.fields #[vl,vu,.none]}} σ H3 x v vl vu l u s3.heap.objs.size Q I4 r1 (PU ..) pl pu q3;show GH (GD X.prog X.w) X.A (OI e (.Slice lo hi none p2) v (.ref s3.heap.objs.size)) (EP X F3 σ Q) X.xe {s3 with heap:=s3.heap.push {cls:=.type "slice",data:=.fields #[vl,vu,.none]}};exact tail_any (ops:=[.ref s3.heap.objs.size,v]) ht hT hg (by with_unfolding_all rfl)
def iT (xs:List V) (lo hi:Option Int):List V:=(xs.drop (HT.br xs.length 0 lo)).take (HT.br xs.length xs.length hi - HT.br xs.length 0 lo)
theorem k_ (xs:List V) (lo hi:Option Int):(iT xs lo hi).length<=xs.length:=by unfold iT;rw [GU,IA];omega
noncomputable def DZ (K:Gd):V->Option Int->Option Int->Hp->VK->Prop:=λx lo hi H Q=>∃a xs,x=.ref a/\cZ K H a xs/\
 ¬(HT.br xs.length 0 lo=0/\HT.br xs.length xs.length hi=xs.length)/\∀p,H p=none->Q (.ref p) (upd H p (.tup (iT xs lo hi)))
theorem BZ:l7 X (DZ X.K):=by
 intro F3 s σ H x v vl vu lo hi sl Q I rx hs pl pu h;obtain ⟨a,xs,rfl,hx,hw,q⟩:=h;cases rx;obtain ⟨its,r,ht,hz⟩:=I.tuple hx;have hlen:its.toArray.size=xs.length:=by rw [Gq];exact r.length.symm
 refine ⟨"tuple",_,Hg.lookup,ht.typeIs,?_⟩;refine HT.kX ht hs pl pu (by rw [hlen];exact hw) ?_ (by rw [hlen];exact hz);rw [hlen];refine ⟨.ref s.heap.objs.size,_,I.laid (t':=s.toks) (o:=.tup (iT xs lo hi)) (λb ob q=>Gh _ q) (Gm _) ?_,rfl,q _ (I.hok.fresh (Gm _))⟩;exact ⟨HB (k_ xs lo hi) hz,_,(r.drop (HT.br xs.length 0 lo)).take (HT.br xs.length xs.length hi - HT.br xs.length 0 lo),OZ _ _,λo q=>by rw [Gu _ rfl] at q;cases q;rfl⟩
noncomputable def CO (K:Gd):R2:=λx y H Q=>∃a b xs ys,x=.ref a/\y=.ref b/\cZ K H a xs/\cZ K H b ys/\xs≠[]/\xs.length + ys.length<=sizeLine/\
 (ys=[]->Q (.ref a) H)/\(ys≠[]->∀p,H p=none->Q (.ref p) (upd H p (.tup (xs++ys))))
theorem Vals.nil_iff (r:Vals xs us):us=[]↔xs=[]:=by
 cases r with
 | nil=>simp
 | cons _ _=>simp
theorem zC:dU X (JB .Add) (CO X.K):=by intro F3 s σ H x y v u Q I rx ry h;obtain ⟨a,b,xs,ys,rfl,rfl,ha,hb,hx,hz,q1,q2⟩:=h;cases rx;cases ry;obtain ⟨its,r1,p1,_⟩:=I.tuple ha;obtain ⟨its2,r2,p2,_⟩:=I.tuple hb;refine HT.zb p1 p2 (λz=>hx (r1.nil_iff.mp z)) (λz=>⟨.ref a,H,I,rfl,q1 (r2.nil_iff.mp z)⟩) (λz=>?_) (by rw [<-r1.length,<-r2.length];exact hz);refine ⟨.ref s.heap.objs.size,_,I.laid (t':=s.toks) (o:=.tup (xs++ys)) (λb ob q=>Gh _ q) (Gm _) ?_,rfl,q2 (λw=>z (r2.nil_iff.mpr w)) _ (I.hok.fresh (Gm _))⟩;exact ⟨by rw [GR];exact hz,_,r1.append r2,OZ _ _,λo q=>by rw [Gu _ rfl] at q;cases q;rfl⟩
end
def rW (n:Nat) (i:Int):Option Nat:=if 0<=i then (if i < n then some i.toNat else none) else if -(n:Int)<=i then some (i + n).toNat else none
def jF {α:Type}(xs:List α) (i:Int):Option α:=(rW xs.length i).bind λj=>xs[j]?
theorem zh (h:rW n i=some j):seqIndex? i n=some j/\j < n/\-(n:Int)<=i/\i < n:=by
 unfold rW at h;by_cases h0:0<=i
 ·rw [if_pos h0] at h;by_cases h1:i < n
  ·rw [if_pos h1] at h;have e:i.toNat=j:=Iq h;exact ⟨by rw [seqIndex_of h0 h1,e],by omega,by omega,h1⟩
  ·rw [if_neg h1] at h;cases h
 ·rw [if_neg h0] at h;by_cases h1:-(n:Int)<=i
  ·rw [if_pos h1] at h;have e:(i + n).toNat=j:=Iq h;exact ⟨by rw [seqIndex_neg (by omega) h1,e],by omega,h1,by omega⟩
  ·rw [if_neg h1] at h;cases h
theorem nD {α:Type}{xs:List α}{i:Int}{v:α}(h:jF xs i=some v):∃j,seqIndex? i xs.length=some j/\xs[j]?=some v/\j < xs.length/\-(xs.length:Int)<=i/\i < xs.length:=by
 unfold jF at h;cases e:rW xs.length i with
 | none=>rw [e] at h;cases h
 | some j=>
  rw [e] at h;obtain ⟨h1,h2,h3,h4⟩:=zh e;exact ⟨j,h1,h,h2,h3,h4⟩
def nC (b:Hl):Prop:=∀o i,subscripted b false o i=operate [o,i] (M7 o i)
noncomputable def kY (X:Cx) (r:R2):Prop:=
 ∀(value slice:Hl) (F3:List (GF×Obj)) (s:Gf) (σ:St) (H:Hp) (x y:V) (v u:Ge) (Q:VK),Inv X F3 σ H s->RelV x v->RelV y u->r x y H Q->
  subscripted slice false v u=operate [v,u] (M7 v u)->GH (GD X.prog X.w) X.A (OI value slice v u) (EP X F3 σ Q) X.xe s
noncomputable def Ei (X:Cx) (id:String) (r:V->List V->Hp->VK->Prop):Prop:=
 ∀(F3:List (GF×Obj)) (s:Gf) (σ:St) (H:Hp) (x:V) (xs:List V) (v:Ge) (us:List Ge) (Q:VK),Inv X F3 σ H s->RelV x v->Vals xs us->r x xs H Q->
  GH (GD X.prog X.w) X.A (call (.builtin id) (v::us)) (EP X F3 σ Q) X.xe s
section
variable {X:Cx}{a b:Hl}{ta tb:TE}{pos:Pos}
theorem kY.or {r r':R2}(h:kY X r) (h':kY X r'):kY X (λx y H Q=>r x y H Q\/r' x y H Q):=by
 intro value slice F3 s σ H x y v u Q I rx ry q hs;rcases q with q | q
 ·exact h value slice F3 s σ H x y v u Q I rx ry q hs
 ·exact h' value slice F3 s σ H x y v u Q I rx ry q hs
theorem CG (hr:kY X r) (ha:PE X a ta) (hb:PE X b tb) (hs:nC b):PE X (.Subscript a b pos) (vQ r ta tb):=by intro F3 s σ H Q I h;exact Subscript_ (wI ha hb I h λv u s2 x y H2 I2 rx ry q=>hr a b F3 s2 σ H2 x y v u Q I2 rx ry q (hs _ _))
def BL (K:Gd):R2:=λx y H Q=>∃p xs i v,x=.ref p/\y=.int i/\cg K H p xs/\jF xs i=some v/\Q v H
def BO (K:Gd):R2:=λx y H Q=>∃p xs i v,x=.ref p/\y=.int i/\cZ K H p xs/\jF xs i=some v/\Q v H
def BN:R2:=λx y H Q=>∃z i c,x=.str z/\y=.int i/\z.length<=sizeLine/\jF z.cps.toList i=some c/\Q (.str ⟨#[c]⟩) H
theorem zk:kY X (BL X.K):=by
 intro value slice F3 s σ H x y v u Q I rx ry h hs;obtain ⟨p,xs,i,z,rfl,rfl,hq,he,q⟩:=h;cases rx;obtain ⟨t,rfl⟩:=ry;obtain ⟨its,r,pl,hz⟩:=I.list hq;obtain ⟨j,h1,h2,h3,h4,h5⟩:=nD he;obtain ⟨w,ew,rw'⟩:=r.get h2;have hl:=r.length;have hn:=j6;have fin:EP X F3 σ Q w s:=⟨z,H,I,rw',q⟩;by_cases h0:0<=i
 ·have hj:i.toNat=j:=by rw [seqIndex_of h0 h5] at h1;exact Iq h1
  exact item_listR pl.isList h0 (by omega) (by rw [hj];simpa using ew) fin hs
 ·have hj:(i + (its.toArray.size:Int)).toNat=j:=by rw [seqIndex_neg (by omega) h4] at h1;rw [Gq,<-hl];exact Iq h1
  exact LS (x:=w) pl.isList.typeIs M9.lookup
   (wpAny_getItem_list_neg (Q:=λr s'=>r=w/\EP X F3 σ Q r s') pl.isList (by omega) (by rw [Gq] <;> omega) (by omega) (by rw [hj];simpa using ew) ⟨rfl,fin⟩) hs
theorem A4:kY X (BO X.K):=by
 intro value slice F3 s σ H x y v u Q I rx ry h hs;obtain ⟨p,xs,i,z,rfl,rfl,hq,he,q⟩:=h;cases rx;obtain ⟨t,rfl⟩:=ry;obtain ⟨its,r,pl,hz⟩:=I.tuple hq;obtain ⟨j,h1,h2,h3,h4,h5⟩:=nD he;obtain ⟨w,ew,rw'⟩:=r.get h2;have hl:=r.length;have hn:=j6;have fin:EP X F3 σ Q w s:=⟨z,H,I,rw',q⟩;exact LS (x:=w) pl.typeIs slot_tuple_getitem.lookup
  (getItem_tuple (j:=j) (Q:=λr s'=>r=w/\EP X F3 σ Q r s') pl (by omega) (by omega) (by rw [Gq,<-hl];exact h1) (by simpa using ew) ⟨rfl,fin⟩) hs
theorem A3:kY X BN:=by
 intro value slice F3 s σ H x y v u Q I rx ry h hs;obtain ⟨z,i,c,rfl,rfl,hz,he,q⟩:=h;obtain ⟨t,rfl⟩:=rx;obtain ⟨t',rfl⟩:=ry;obtain ⟨j,h1,h2,h3,h4,h5⟩:=nD he;have hl:z.cps.toList.length=z.length:=by simp [M_]
 rw [hl] at h1 h4 h5;have hn:=j6;exact tail_any (typeIs_str s z t) slot_str_getitem.lookup (getItem_str (c:=c) (by
  have e1:decide (i < -(2 ^ 63:Int))=false:=decide_eq_false (by omega);have e2:decide (i ≥ 2 ^ 63)=false:=decide_eq_false (by omega);rw [e1,e2,Bool.or_false]) (by rw [h1];simpa using h2) ⟨.str ⟨#[c]⟩,H,I.tok _,⟨_,rfl⟩,q⟩) hs
def Es (K:Gd):R2:=λx y H Q=>BL K x y H Q\/BO K x y H Q\/BN x y H Q
theorem A2:kY X (Es X.K):=zk.or (A4.or A3)
theorem Inv.lst {H:Hp}{s:Gf}{xs:List V}(I:Inv X F3 σ H s) (h:H p=some (.lst xs)):
  ∃(its:List Ge) (n:Nat),Vals xs its/\s.heap.get? p=some {cls:=.type "list",data:=.seq its.toArray n}/\xs.length<=sizeLine:=by obtain ⟨z,its,n,r,e⟩:=I.hok p _ h;exact ⟨its,n,r,e,z⟩
theorem qI (lo hi:Option Int) (n:Nat):(Kr lo hi none n).1=((HT.br n 0 lo:Nat):Int)/\(Kr lo hi none n).2.1=((HT.br n n hi:Nat):Int)/\(Kr lo hi none n).2.2=1:=by
 refine ⟨?_,?_,rfl⟩
 ·cases lo with
  | none=>simp [Kr,HT.br]
  | some i=>
   simp only [Kr,HT.br,Ny,show (1:Int) > 0 by decide,if_true];by_cases h:i < 0
   ·simp only [h,if_true] <;> omega
   ·simp only [h,if_false] <;> omega
 ·cases hi with
  | none=>simp [Kr,HT.br]
  | some i=>
   simp only [Kr,HT.br,Ny,show (1:Int) > 0 by decide,if_true];by_cases h:i < 0
   ·simp only [h,if_true] <;> omega
   ·simp only [h,if_false] <;> omega
theorem pH (its:List Ge) (lo hi:Option Int):slicePick its.toArray lo hi none=((its.drop (HT.br its.length 0 lo)).take (HT.br its.length its.length hi - HT.br its.length 0 lo)).toArray:=by obtain ⟨h1,h2,h3⟩:=qI lo hi its.toArray.size;unfold slicePick;rw [h1,h2,h3];simp only [sliceRange_one,pick_run,Gq] <;> rfl
noncomputable def DY (K:Gd):V->Option Int->Option Int->Hp->VK->Prop:=λx lo hi H Q=>∃a xs,x=.ref a/\cg K H a xs/\∀p,H p=none->Q (.ref p) (upd H p (.lst (iT xs lo hi)))
theorem Ab:l7 X (DY X.K):=by intro F3 s σ H x v vl vu lo hi sl Q I rx hs pl pu h;obtain ⟨a,xs,rfl,hx,q⟩:=h;cases rx;obtain ⟨its,r,ht,hz⟩:=I.list hx;have hlen:=r.length;refine ⟨"list",_,M9.lookup,ht.isList.typeIs,?_⟩;refine wpAny_getItem_list_slice ht.isList hs pl pu .none (by simp) ?_ (by rw [Gq] <;> omega);rw [pH,<-hlen];refine ⟨.ref s.heap.objs.size,_,I.laid (t':=s.toks) (o:=.lst (iT xs lo hi)) (λb ob q=>Gh _ q) (Gm _) ?_,rfl,q _ (I.hok.fresh (Gm _))⟩;exact ⟨HB (k_ xs lo hi) hz,_,0,(r.drop (HT.br xs.length 0 lo)).take (HT.br xs.length xs.length hi - HT.br xs.length 0 lo),Gu _ rfl⟩
noncomputable def mD:V->Bool
 | .non=>true
 | .bl _=>true
 | .int _=>true
 | .str _=>true
 | _=>false
noncomputable def AU:V->V->Bool
 | .non,.non=>true
 | .bl a,.bl b=>a == b
 | .bl a,.int b=>(if a then 1 else 0) == b
 | .int a,.bl b=>a == (if b then 1 else 0)
 | .int a,.int b=>a == b
 | .str a,.str b=>a == b
 | _,_=>false
theorem AS (ry:RelV y u) (rx:RelV x v) (fy:mD y=true) (fx:mD x=true):IF A s u v (AU y x):=by
 cases y with
 | non=>
  cases ry;cases x with
  | non=>cases rx;exact L5 _
  | bl b=>cases rx;exact O9 b
  | int b=>obtain ⟨t,rfl⟩:=rx;exact Pj b t
  | str b=>obtain ⟨t,rfl⟩:=rx;exact Pk b t
  | _=>exact absurd (show false=true from fx) G4
 | bl a=>
  cases ry;cases x with
  | non=>cases rx;exact O_ a
  | bl b=>cases rx;exact Pa a b
  | int b=>obtain ⟨t,rfl⟩:=rx;exact Pn a b t
  | str b=>obtain ⟨t,rfl⟩:=rx;exact Po a b t
  | _=>exact absurd (show false=true from fx) G4
 | int a=>
  obtain ⟨t',rfl⟩:=ry;cases x with
  | non=>cases rx;exact Pp a t'
  | bl b=>cases rx;exact Pq a t' b
  | int b=>obtain ⟨t,rfl⟩:=rx;exact PV a t' b t
  | str b=>obtain ⟨t,rfl⟩:=rx;exact MG a t' b t
  | _=>exact absurd (show false=true from fx) G4
 | str a=>
  obtain ⟨t',rfl⟩:=ry;cases x with
  | non=>cases rx;exact Pr a t'
  | bl b=>cases rx;exact Pu a t' b
  | int b=>obtain ⟨t,rfl⟩:=rx;exact MH a t' b t
  | str b=>obtain ⟨t,rfl⟩:=rx;exact PX a t' b t
  | _=>exact absurd (show false=true from fx) G4
 | _=>exact absurd (show false=true from fy) G4
theorem pV:dG X (.builtin "len") (λxs H Q=>∃p ys,xs=[.ref p]/\(cg X.K H p ys\/cZ X.K H p ys)/\Q (.int ys.length) H):=by
 intro F3 s σ H xs us Q I r h;obtain ⟨p,ys,rfl,hq,q⟩:=h;obtain ⟨u,rfl,rx⟩:=vals1 r;cases rx;have hn:=j6;rcases hq with hq | hq
 ·obtain ⟨its,r',pl,hz⟩:=I.list hq;have hlen:=r'.length;exact Calls.call_len_list pl.isList (by simp only [Gq] <;> omega) ⟨.int ys.length,H,I.tok _,⟨s.toks + 1,by rw [Gq,hlen]⟩,q⟩
 ·obtain ⟨its,r',pl,hz⟩:=I.tuple hq;have hlen:=r'.length;exact len_tuple pl (by simp only [Gq] <;> omega) ⟨.int ys.length,H,I.tok _,⟨s.toks + 1,by rw [Gq,hlen]⟩,q⟩
theorem pW:dG X (.builtin "len") (λxs H Q=>∃z,xs=[.str z]/\z.length<=sizeLine/\Q (.int z.length) H):=by intro F3 s σ H xs us Q I r h;obtain ⟨z,rfl,hz,q⟩:=h;obtain ⟨u,rfl,t,rfl⟩:=vals1 r;have hn:=j6;exact len_str (by omega) ⟨.int z.length,H,I.tok _,⟨_,rfl⟩,q⟩
theorem dG.or {r r':List V->Hp->VK->Prop}(h:dG X f r) (h':dG X f r'):dG X f (λxs H Q=>r xs H Q\/r' xs H Q):=by
 intro F3 s σ H xs us Q I rs q;rcases q with q | q
 ·exact h F3 s σ H xs us Q I rs q
 ·exact h' F3 s σ H xs us Q I rs q
theorem pB:dG X (.type "tuple") (λxs H Q=>∃p ys,xs=[.ref p]/\((cg X.K H p ys/\∀l,H l=none->Q (.ref l) (upd H l (.tup ys)))\/(cZ X.K H p ys/\Q (.ref p) H))):=by
 intro F3 s σ H xs us Q I r h;obtain ⟨p,ys,rfl,h⟩:=h;obtain ⟨u,rfl,rx⟩:=vals1 r;cases rx;rcases h with ⟨hq,q⟩ | ⟨hq,q⟩
 ·obtain ⟨its,r',pl,hz⟩:=I.list hq;have hlen:=r'.length;refine call_tuple_list pl.isList (λh' kp=>?_) (by simp only [Gq] <;> omega);have I1:Inv X F3 σ H {s with heap:=h'}:=I.kept (t':=s.toks) kp;have I2:Inv X F3 σ (upd H h'.objs.size (.tup ys)) {s with heap:=h'.push {cls:=.type "tuple",data:=.seq its.toArray}}:=
   I1.laid (t':=s.toks) (λb o e=>Gh _ e) (Gm _) (show cS X.prog X.w _ _ _ (.tup ys) from ⟨hz,its,r',OZ _ _,λo q=>by rw [Gu _ rfl] at q;cases q;rfl⟩)
  exact ⟨.ref h'.objs.size,_,I2,rfl,q _ (I1.hok.fresh (Gm _))⟩
 ·obtain ⟨its,r',pl,hz⟩:=I.tuple hq;exact call_tuple_same pl ⟨.ref p,H,I,rfl,q⟩
noncomputable def DA (K:Gd) (T:String) (x:V) (H:Hp):Prop:=match x with
 | .str _=>T="str"
 | .int _=>T="int"
 | .ref p=>(T="list"/\∃xs,cg K H p xs)\/(T="tuple"/\∃o,K.lookup p=some o/\o.cls=.type "tuple"/\o.dict=none)\/
   (T="dict"/\((∃Ga,H p=some (.dK Ga))\/∃Ga,H p=some (.dT Ga)))\/(T="set"/\∃S n,H p=some (.set S n))
 | _=>False
theorem B6 {H:Hp}{s:Gf}(I:Inv X F3 σ H s) (r:RelV x v) (ty:DA X.K T x H):
  s.TypeIs v T/\∀a,v=.ref a->∃ob,s.heap.get? a=some ob/\ob.dict=none:=by
 cases x with
 | str z=>
  obtain ⟨t,rfl⟩:=r;cases (show T="str" from ty);exact ⟨typeIs_str s z t,λ_ e=>nomatch e⟩
 | int i=>
  obtain ⟨t,rfl⟩:=r;cases (show T="int" from ty);exact ⟨typeIs_int s i t,λ_ e=>nomatch e⟩
 | ref p=>
  cases r;rcases ty with ⟨rfl,xs,hq⟩ | ⟨rfl,o,hk,hc,hd⟩ | ⟨rfl,hk⟩ | ⟨rfl,S,n,hk⟩
  ·obtain ⟨its,_,pl,_⟩:=I.list hq;refine ⟨pl.isList.typeIs,λa e=>?_⟩;cases e;obtain ⟨o,n,e,c,hd,_⟩:=pl;exact ⟨o,e,hd⟩
  ·refine ⟨⟨o,I.kIn p o hk,hc⟩,λa e=>?_⟩;cases e;exact ⟨o,I.kIn _ o hk,hd⟩
  ·have z:∃o,s.heap.get? p=some o/\o.ExactDict:=by
    rcases hk with ⟨Ga,hk⟩ | ⟨Ga,hk⟩
    ·obtain ⟨_,_,_,_,o,_,_,e,ex,_⟩:=I.hok p _ hk;exact ⟨o,e,ex⟩
    ·obtain ⟨_,_,_,_,o,_,_,e,ex,_⟩:=I.hok p _ hk;exact ⟨o,e,ex⟩
   obtain ⟨o,e,ex⟩:=z;refine ⟨⟨o,e,ex.1⟩,λa e2=>?_⟩;cases e2;exact ⟨o,e,ex.2.1⟩
  ·obtain ⟨o,_,_,_,e,ex,_⟩:=I.hok p _ hk;refine ⟨⟨o,e,ex.1⟩,λa e2=>?_⟩;cases e2;exact ⟨o,e,ex.2.1⟩
 | _=>exact JA ty
def Eu (K:Gd) (T:String) (r:V->List V->Hp->VK->Prop) (to:TE) (t:TA):TE:=λσ H Q=>to σ H λx H1=>DA K T x H1/\t σ H1 λxs H2=>r x xs H2 Q
variable {o e:Hl}{es:List Hl}{to:TE}{t:TA}{name:Str}{apos cpos:Pos}{T id:String}{r:V->List V->Hp->VK->Prop}
theorem CF (pa:PlainAttrs T) (slot:Slot T name id) (hty:typeOf (.builtin id)=pure (.type "method_descriptor")) (hm:Ei X id r) (ho:PE X o to) (ha:PA X (e::es) t)
  (hbase:MR o name X.env (eval o X.env)=eval o X.env:=by rfl)
  (hfew:((JG cpos (GA (e::es) X.env)).all (λx=>!x.1) && (backToKw cpos (keywordEach [] X.env)).all (λx=>x.1.isSome)
   && decide ((e::es).length + ([]:List Pw).length + (if ([]:List Pw).isEmpty then 0 else 1) < 30))=true:=by rfl)
  (hline:(apos.endLine == cpos.line)=true:=by rfl) (hs:GA (e::es) X.env=(false,eval e X.env)::GA es X.env:=by rfl) (hplain:(JG cpos (GA es X.env)).any (·.1)=false:=by rfl):
  PE X (.Call (.Attribute o name apos) (e::es) [] cpos) (Eu X.K T r to t):=by intro F3 s σ H Q I h;refine wpAny_Call_method_late hbase hfew hline rfl (bS (ho F3 s σ H _ I h) λv s1 ⟨x,H1,I1,r1,ty,q1⟩=>?_);obtain ⟨h1,h2⟩:=B6 I1 r1 ty;refine ⟨T,id,pa,slot,hty,h1,h2,?_⟩;have hA:=ha cpos F3 s1 σ H1 _ I1 q1;rw [hs] at hA ⊢;refine Calls.callWith_builtin (by show (false || (JG cpos (GA es X.env)).any (·.1))=false;rw [hplain] <;> rfl) (Calls.evalArgs_plain ?_);exact bS hA λus s2 ⟨vs,H2,I2,r2,q2⟩=>hm F3 s2 σ H2 x vs v us Q I2 r1 r2 q2
end
noncomputable def Dn (X:Cx) (id:String) (r:V->List V->Hp->VK->Prop):Prop:=
 ∀(F3:List (GF×Obj)) (s:Gf) (σ:St) (H:Hp) (x:V) (xs:List V) (v:Ge) (us:List Ge) (Q:VK),Inv X F3 σ H s->RelV x v->Vals xs us->r x xs H Q->
  GH (GD X.prog X.w) X.A (call (.builtin id) (v::us)) (EP X F3 σ Q) X.xe s
theorem Vals.one:∀{x:V}{us:List Ge},Vals [x] us->∃u,us=[u]/\RelV x u
 | _,_,.cons r .nil=>⟨_,rfl,r⟩
section
variable {X:Cx}{F3:List (GF×Obj)}{σ:St}{H:Hp}{s:Gf}{l b:GF}{xs ys zs:List V}
theorem Inv.lset {its its':List Ge}{f:Array Ge->Array Ge}(I:Inv X F3 σ H s) (hH:H l=some (.lst xs))
 (e:s.heap.get? l=some {cls:=.type "list",data:=.seq its.toArray n}) (hf:f its.toArray=its'.toArray) (hv:Vals ys its') (hz:ys.length<=sizeLine):
  Inv X F3 σ (upd H l (.lst ys)) {s with heap:=s.heap.update l (IS f),toks:=t'}:=by have q:=Qa e f;rw [hf] at q;refine I.write (x:=l) (e:=l) (by rw [hH];exact trivial) (.inl rfl) (λb' u hb hu=>(Heap.get?_update_other s.heap (IS f) (Jt hb)).trans hu) ⟨_,q⟩ ?_;exact ⟨hz,its',_,hv,q⟩
theorem Inv.lnew {its:List Ge}(I:Inv X F3 σ H s) (hv:Vals ys its) (hz:ys.length<=sizeLine):
  Inv X F3 σ (upd H s.heap.objs.size (.lst ys)) {s with heap:=s.heap.push {cls:=.type "list",data:=.seq its.toArray},toks:=t'}:=
 I.laid (λ_ _ q=>Gh _ q) (Gm _) ⟨hz,its,0,hv,Gu _ rfl⟩
theorem Inv.fresh (I:Inv X F3 σ H s):H s.heap.objs.size=none:=I.hok.fresh (Gm _)
theorem Inv.lstM (I:Inv X F3 σ H s) (hH:H l=some (.lst xs)):xs.length<=sizeLine/\∃(its:List Ge) (n:Nat),Vals xs its/\xs.length=its.length/\s.heap.get? l=some {cls:=.type "list",data:=.seq its.toArray n}:=by obtain ⟨z,its,n,r,e⟩:=I.hok l _ hH;exact ⟨z,its,n,r,r.length,e⟩
theorem xC (h:n<=sizeLine):JS n=false:=by unfold JS;exact decide_eq_false (by omega)
end
section
variable {X:Cx}
noncomputable def zZ:V->List V->Hp->VK->Prop:=λx vs H Q=>∃l xs y,x=.ref l/\vs=[y]/\H l=some (.lst xs)/\xs.length < sizeLine/\Q .non (upd H l (.lst (xs++[y])))
theorem oG:Dn X "list.append" zZ:=by intro F3 s σ H x vs v us Q I rx rv h;obtain ⟨l,xs,y,rfl,rfl,hH,hz,q⟩:=h;cases rx;obtain ⟨u,rfl,ru⟩:=rv.one;obtain ⟨z,its,n,r,hl,e⟩:=I.lstM hH;refine call_meets F.slot_list_append ⟨_,e,rfl⟩ F.entry_list_append (F.args_list_append_2 _ _) (PySem.list_append l its.toArray n u (by rw [Gq];omega)) ⟨e,?_⟩;refine ⟨.non,_,I.lset (its':=its++[u]) hH e (by simp) (r.append (.cons ru .nil)) ?_,rfl,q⟩;rw [GR,List.length_singleton];omega
noncomputable def z_:V->List V->Hp->VK->Prop:=λx vs H Q=>∃l b xs zs,x=.ref l/\vs=[.ref b]/\H l=some (.lst xs)/\H b=some (.lst zs)/\xs.length + zs.length<=sizeLine/\Q .non (upd H l (.lst (xs++zs)))
theorem Du:Dn X "list.extend" z_:=by
 intro F3 s σ H x vs v us Q I rx rv h;obtain ⟨l,b,xs,zs,rfl,rfl,hH,hB,hz,q⟩:=h;cases rx;obtain ⟨u,rfl,ru⟩:=rv.one;cases ru;obtain ⟨z,its,n,r,hl,e⟩:=I.lstM hH;obtain ⟨z2,its2,n2,r2,hl2,e2⟩:=I.lstM hB;have hsz:its.toArray.size + its2.toArray.size<=sizeLine:=by rw [Gq,Gq];omega
 have E9:¬(!its.toArray.isEmpty && JS (its.toArray.size + its2.toArray.size))=true:=by rw [xC hsz,Lm];exact G4
 refine call_meets F.slot_list_extend ⟨_,e,rfl⟩ F.entry_list_extend (F.args_list_extend_2 _ _)
  (AutoSeq1.list_extend_list_list_0 l its.toArray n b its2.toArray n2 E9 (by rw [Gq];omega) (by omega)) ⟨e,e2,?_⟩
 refine ⟨.non,_,I.lset (its':=its++its2) hH e (by simp) (r.append r2) ?_,rfl,q⟩;rw [GR];omega
noncomputable def DW:R2:=λx y H Q=>∃l b xs zs,x=.ref l/\y=.ref b/\H l=some (.lst xs)/\H b=some (.lst zs)/\xs.length + zs.length<=sizeLine/\∀p,H p=none->Q (.ref p) (upd H p (.lst (xs++zs)))
theorem vn:dU X (JB .Add) DW:=by
 intro F3 s σ H x y v u Q I rx ry h;obtain ⟨l,b,xs,zs,rfl,rfl,hH,hB,hz,q⟩:=h;cases rx;cases ry;obtain ⟨z,its,n,r,hl,e⟩:=I.lstM hH;obtain ⟨z2,its2,n2,r2,hl2,e2⟩:=I.lstM hB;refine PySem.P.add_list e e2 ?_ (by rw [Gq,Gq];omega);have ea:its.toArray++its2.toArray=(its++its2).toArray:=by simp
 rw [ea];exact ⟨.ref _,_,I.lnew (t':=s.toks) (r.append r2) (by rw [GR];omega),rfl,q _ I.fresh⟩
end
end L2
namespace Att
open PySem PySem.W PySem.Calls PyProof.Rows
theorem mJ:∀(ns:List Int) (vs:List Ge),WellAll P h vs (ns.map Qi)->NS vs ns:=by
 intro ns
 induction ns with
 | nil=>
  intro vs w;rw [List.map_nil] at w;cases w;exact .nil
 | cons n ns ih=>
  intro vs w;rw [Ht] at w;cases w with
  | cons a b=>
   cases a;exact .cons _ _ (ih _ b)
theorem vJ {l:OpenLaw}(hn:l.most=some n){h:Ij}
 (hpre:l.row.toRowW.claim.pre args=true) (hwl:WellAll P h vals args):
  ∃a vs ns,vals=[Lu a]/\args=[WData.list (ns.map Qi)]/\h.get? a=some {cls:=.type "list",data:=.seq vs.toArray}/\NS vs ns/\ns.length<=n:=by
 have hsh:WShape.hasAll [] args [.list .int]=true:=(pre_splitW hpre).1;have hc:l.pre.holds [] {args:=args}=true:=(pre_splitW hpre).2;obtain ⟨d,r,rfl,h1,h2⟩:=hasAllW_cons hsh;obtain rfl:=hasAllW_nil h2;obtain ⟨xs,rfl,h3⟩:=hasW_list h1;obtain ⟨ns,rfl⟩:=items_int h3;have hlen:ns.length<=n:=by
  unfold OpenLaw.pre at hc;have h4:(WTm.not (.lt (.lit (.int (n:Int))) (.len (.arg 0)))).holds [] {args:=[.list (ns.map .int)]}=true:=by have h4:=(holds_andW hc).1;rw [hn] at h4;exact h4
  have h5:=condW_of h4 (w_not (w_lt w_lit (w_len_list (w_arg rfl))));rw [Gn] at h5;refine Nat.le_of_not_lt λq=>?_;have q':(n:Int) < ((ns.length:Nat):Int):=by omega
  first
   | (rw [decide_eq_true q'] at h5;exact absurd h5 (by decide))
   | (simp at h5;omega)
 cases hwl with
 | cons w1 w2=>
  cases w2;cases w1 with
  | list ho hall=>exact ⟨_,_,ns,rfl,rfl,ho,mJ ns _ hall,hlen⟩
theorem vE (l:OpenLaw) (args:List WData):l.row.toRowW.claim.post args (.bool true) args=true:=
 postW_of (r:=l.row.toRowW) (X:=(true == true))
  (show P4 [] (.bool true) .bool=true by first | rfl | decide | simp [P4,WShape.arms,WShape.armsAll])
  (show (WTm.eq .res (.lit (.bool true))).value [] {args:=args,res:=some (.bool true),after:=args}=some (.bool (true == true)) from w_eq_bool (w_res rfl) w_lit) rfl
theorem qR {l:OpenLaw}{XP:(Str->Option Ge)->Ij->Prop}{YP:Hi->Ij->Prop}{d:DefRec}
 (hn:l.most=some n) (hdf:d.params.defaults=[])
 (call:∀(w:Hi) (s₀ s₁:Gf) (mg mb:Str->Option Ge) (fa:GF) (o:Obj) (pm cd doc:Ge) (a:GF) (vs:List Ge) (ns:List Int),
 Ground q loose [] XP w s₀ mg mb s₁.heap->YP w s₁.heap->
 s₁.heap.get? fa=some o->o.data=.func (docDef d.name d.params d.body d.scope pm cd doc)->s₁.heap.CodeRec cd d.name->mg d.name=some (.ref fa)->
 s₁.heap.get? a=some {cls:=.type "list",data:=.seq vs.toArray}->NS vs ns->ns.length<=n->s₁.gens=#[]->
 LF (GD l.prog w) Na (.call (.ref fa) ⟨[.ref a],[]⟩) (λr s'=>r=.ok (.ret (.bool true))/\OldK s₁.heap s'.heap/\s'.os=s₁.os/\LX s'.gens) s₁):
  WalkO q loose XP YP l.row.toRowW d [] (λf vs=>Ow f vs):=by intro w s₀ s₁ mg mb G Y fa o pm cd doc dV kV ho hd hcd hD hmg hg args vals as hpre hlay hrd hwl hlo;obtain rfl:dV=.none:=Dflts.none hD hdf;obtain rfl:kV=.none:=Dflts.noKw hD;obtain ⟨a,vs,ns,rfl,rfl,hobj,hints,hlen⟩:=vJ hn hpre hwl;refine enter_call (Kz (call w s₀ s₁ mg mb fa o pm cd doc a vs ns G Y ho (fd_plain hd) hcd hmg hobj hints hlen hg) λr s' hq=>?_);obtain ⟨rfl,h2,h3,h4⟩:=hq;exact ⟨.inl ⟨.bool true,.bool true,[],rfl,λ_=>rfl,.bool true,vE l _,λ_=>⟨JD,λ_ hm=>(nomatch hm)⟩⟩,h2,h3,h4⟩
end Att
namespace L2
open PySem PySem.Spec PyProof.Rows
theorem oX:∀{vs:List Ge}{ns:List Int},NS vs ns->Vals (ns.map V.int) vs
 | _,_,.nil=>.nil
 | _,_,.cons n t h=>.cons ⟨t,rfl⟩ (oX h)
def sJ (H:Hp):Prop:=∀b,H b=none\/∃o xs,H b=some (.frz o (.lst xs))
theorem xh {K:Gd}{mg mb:Str->Option Ge}{sp:Sp}{s₁:Gf}{vs:List Ge}{ns:List Int}
 (KX:K.In s₁.heap) (hns:s₁.heap.Ns GL mg) (hb:s₁.heap.Ns Oq mb) (FH:∀x:Str,x≠"__name__"->mb x=Hw x) (hlim:s₁.heap.NoLimit) (hg:s₁.gens=#[])
 (ha:s₁.heap.get? a=some {cls:=.type "list",data:=.seq vs.toArray}) (hi:NS vs ns) (hl:ns.length<=sizeLine) (hr:c8 k Na)
 (F:∀base:Ij,K.In base->base.Ns GL mg->f6 P w K mg base CX k fa fd [x] sp) (hbind:∀(s:Gf) (u:Ge),NQ s fd ⟨[u],[]⟩ [(x,u)])
 (EX:∀H:Hp,sJ H->cg K H a (ns.map V.int)->sp [.ref a] H (λv _=>v=.bl true) λ_ _ _=>False)
 (E_:∀H e s',CX [] H s₁ (λ_ _ _=>False) e s'->False):
  LF (GD P w) Na (.call (.ref fa) ⟨[.ref a],[]⟩) (λr s'=>r=.ok (.ret (.bool true))/\OldK s₁.heap s'.heap/\s'.os=s₁.os/\LX s'.gens) s₁:=by
 have rv:=oX hi;have lenV:=hi.length;have core:∀H:Hp,sJ H->cg K H a (ns.map V.int)->eT P w H s₁.heap->(∀b,H b≠none->b=a)->(H a≠none->K.lookup a=none)->
   LF (GD P w) Na (.call (.ref fa) ⟨[.ref a],[]⟩) (λr s'=>r=.ok (.ret (.bool true))/\OldK s₁.heap s'.heap/\s'.os=s₁.os/\LX s'.gens) s₁:=by
  intro H hO hS hok hA hK;have base_of:∀{b:GF}{o:Obj},s₁.heap.get? b=some o->H b=none->(jr s₁.heap H).get? b=some o:=λe n=>w4 e n;have noA:∀{b:GF}{o:Obj}{es:Array NT}{ep:Nat},s₁.heap.get? b=some o->o.data=.dict es ep->H b=none:=fun {b o es ep} e d=>by
   cases q:H b with
   | none=>rfl
   | some u=>
    have e':b=a:=hA b (by rw [q];simp);subst e';rw [ha] at e;cases e;have d':PY vs.toArray _=Data.dict es ep:=d;cases d'
  have nsK:∀{b:GF}{m:Str->Option Ge},s₁.heap.Ns b m->(jr s₁.heap H).Ns b m:=fun {b m} ⟨o,es,ep,e,d,r⟩=>⟨o,es,ep,base_of e (noA e d),d,r⟩;have Fv:K.In (jr s₁.heap H):=λb o e=>base_of (KX b o e) (by
   cases q:H b with
   | none=>rfl
   | some u=>
    have e':b=a:=hA b (by rw [q];simp);subst e';rw [hK (by rw [q];simp)] at e;cases e)
  have hM:Mod K mg (jr s₁.heap H):=⟨Fv,nsK hns,⟨mb,nsK hb,FH⟩,let ⟨mc,h1,h2⟩:=hlim;⟨mc,nsK h1,h2⟩⟩;have e0:sF P w K mg (jr s₁.heap H) Na [] s₁ H:=⟨rfl,hM,λb o e=>zB e,O0 (uZ _ _),trivial,λb hb=>absurd (show b∈([]:List GF) from hb) (by simp),hok,.of_eq hg⟩;refine Kz ((F _ Fv (nsK hns)).run Na [] s₁ H ⟨[.ref a],[]⟩ [.ref a] [.ref a] _ _ hr e0 (hbind s₁ (.ref a)) (.cons rfl .nil) (EX H hO hS)) λr s' h=>?_;cases r with
  | error e=>exact (E_ H e s' h).elim
  | ok fl=>
   cases fl with
   | next=>exact JA h
   | brk=>exact JA h
   | cont=>exact JA h
   | ret u=>
    obtain ⟨v,H',os,bare,un,Fp,r',q⟩:=h;have q':v=.bl true:=q;subst q';obtain rfl:u=K1 true:=r';refine ⟨rfl,OldK.of_keep λb o e=>?_,os,bare⟩;cases q:H b with
    | none=>exact un.keep b o e q (by intro z;exact absurd (show b∈([]:List GF) from z) (by simp)) (by simp)
    | some u=>
     rcases hO b with z | ⟨ob,xs,z⟩
     ·rw [q] at z;cases z
     ·have z2:=un.frzs b ob _ z;obtain ⟨e1,_⟩:=hok b _ z;obtain ⟨e2,_⟩:=Fp b _ z2;rw [e] at e1;cases e1;exact e2
 cases hk:K.lookup a with
 | some o=>
  have e:=KX a o hk;rw [ha] at e;cases e;refine core (λ_=>none) (λ_=>.inl rfl) (.inr ⟨_,vs.toArray,_,hk,rfl,rfl,rfl,by rw [Gq,lenV];exact hl,by simpa using rv⟩) (λb u z=>by have z':(none:Option HO)=some u:=z;cases z') (λb z=>absurd rfl z) λz=>absurd rfl z
 | none=>
  refine core (λb=>if b=a then some (.frz {cls:=.type "list",data:=.seq vs.toArray} (.lst (ns.map V.int))) else none) (λb=>?_) (.inl (.inr ⟨{cls:=.type "list",data:=.seq vs.toArray},if_pos rfl⟩)) (λb u z=>?_) (λb z=>?_) λ_=>hk
  ·by_cases hb:b=a
   ·exact .inr ⟨_,_,if_pos hb⟩
   ·exact .inl (if_neg hb)
  ·by_cases hb:b=a
   ·have z':=(if_pos hb).symm.trans z;cases z';subst hb;exact ⟨ha,by rw [Gn];exact hl,vs,_,rv,ha⟩
   ·have z':=(if_neg hb).symm.trans z;cases z'
  ·by_cases hb:b=a
   ·exact hb
   ·exact absurd (if_neg hb) z
abbrev ED {K:Gd}{h:Ij}(_:K.In h):Gd:=K
theorem Ah {l:L6}{XP:(Str->Option Ge)->Ij->Prop}{YP:Hi->Ij->Prop}{d:DefRec}{K:PZ->Gd}{CX:Hi->nZ}{sp:Hi->Sp}
 (hn:l.most=some n) (hn2:n<=sizeLine) (hdf:d.params.defaults=[]) (hr:c8 k Na)
 (hY:∀(w:Hi) (h:Ij),YP w h->(K w.params).In h)
 (F:∀(w:Hi) (mg:Str->Option Ge) (fa:GF) (h:Ij),(K w.params).In h->h.Ns GL mg->mg d.name=some (.ref fa)->
 ∃fd:HM,(∀(s:Gf) (u:Ge),NQ s fd ⟨[u],[]⟩ [(x,u)])/\
 ∀base:Ij,(K w.params).In base->base.Ns GL mg->f6 l.prog w (K w.params) mg base (CX w) k fa fd [x] (sp w))
 (EX:∀(w:Hi) (H:Hp) (a:GF) (ns:List Int),ns.length<=n->sJ H->cg (K w.params) H a (ns.map V.int)->sp w [.ref a] H (λv _=>v=.bl true) λ_ _ _=>False)
 (E_:∀(w:Hi) (H:Hp) (s:Gf) (e:Ge) (s':Gf),CX w [] H s (λ_ _ _=>False) e s'->False):
  OJ q loose XP YP l.row.toRowW d [] (λf vs=>Ow f vs):=by refine Att.qR hn hdf λw s₀ s₁ mg mb fa o pm cd doc a vs ns G Y ho hd hcd hmg hobj hints hlen hg=>?_;have KX:=hY w _ Y;obtain ⟨fd,hb,hF⟩:=F w mg fa _ KX G.T.g hmg;exact xh KX G.T.g G.T.b G.T.builtins G.T.nolimit hg hobj hints (HB hlen hn2) hr hF hb (λH hO hS=>EX w H a ns hlen hO hS) λH e s'=>E_ w H s₁ e s'
noncomputable def dM (s:KR):Arguments:=match s with
 | .FunctionDef _ a _ _ _ _ _ _ _ _=>a
 | _=>{posonlyargs:=[],args:=[],vararg:=none,kwonlyargs:=[],kw_defaults:=[],kwarg:=none,defaults:=[]}
noncomputable def b6 (s:KR):List KR:=match s with
 | .FunctionDef _ _ b _ _ _ _ _ _ _=>b
 | _=>[]
noncomputable def aV (s:KR):K3:=match s with
 | .FunctionDef _ _ _ _ _ _ sc _ _ _=>sc
 | _=>{kind:=.function,names:=[],isGenerator:=false,isCoroutine:=false}
abbrev i6:nZ:=λ_ _ _ _ _ _=>False
abbrev E0:XK:=λ_ _ _=>False
theorem Cz:Passes i6 X E0:=λ_ _ _ _ _ _ _ h=>h.elim
structure ir (K:Gd) (x F9:Str) (st:KR) (f:GF) (fd:HM):Prop where
 ex:∃(oc:Ge) (od:Option GF) (kV doc pm:Ge) (an:Option GF) (cdv ct:Ge) (osl:Array (Option Ge)),
  fd=HU x F9 (dM st) (b6 st) (aV st) .none kV doc pm an cdv ct/\K.lookup f=some ⟨oc,od,.func fd,osl⟩/\Ku K cdv F9=true
 kp:Jq K (.ref f)=true
section
variable {P:GG}{w:Hi}{K:Gd}{mg:Str->Option Ge}{base:Ij}
theorem ir.ok {st:KR}{N ps:List Str}{sp:Sp}(F:ir K x F9 st f fd) (S:eB N ps (aV st)) (len:∀vs H Q E,sp vs H Q E->vs.length=ps.length)
 (hbody:∀(cdv:Ge) (A:G3) (outer:List Env) (s:Gf) (H:Hp) (vs:List V) (Q:VK) (E:XK),c8 k (A.deeper (Li F9 (aV st) s.heap.objs.size f cdv))->sp vs H Q E->
 ∃t,gU (lM i6 P w K mg base N F9 (aV st) f cdv A outer s H E).nox (b6 st) t/\t {nx:=λ_ H'=>Q .non H',rt:=Q} (start N vs) H):f6 P w K mg base i6 (k + 1) f fd ps sp:=by obtain ⟨oc,od,kV,doc,pm,an,cdv,ct,osl,rfl,lk,hcd⟩:=F.ex;refine Ce lk hcd S len λA outer s H vs Q E hr EX=>?_;obtain ⟨t,h,q⟩:=hbody cdv A outer s H vs Q E hr EX;exact ⟨t,h.nox,q⟩
theorem ir.binds {st:KR}{ps:List Str}(F:ir K x F9 st f fd)
 (h:∀(kV doc pm:Ge) (an:Option GF) (cdv ct:Ge) (us:List Ge),us.length=ps.length->MN (HU x F9 (dM st) (b6 st) (aV st) .none kV doc pm an cdv ct) ⟨us,[]⟩=pure (ps.zip us)):Binds K fd ps []:=by obtain ⟨oc,od,kV,doc,pm,an,cdv,ct,osl,rfl,lk,hcd⟩:=F.ex;exact .all (h kV doc pm an cdv ct)
theorem uV {st:KR}{kV doc pm cdv ct:Ge}(l:K.lookup f=some ⟨oc,od,.func (HU x F9 (dM st) (b6 st) (aV st) .none kV doc pm an cdv ct),osl⟩)
 (c:Ku K cdv F9=true) (k:Jq K (.ref f)=true):ir K x F9 st f (HU x F9 (dM st) (b6 st) (aV st) .none kV doc pm an cdv ct):=⟨⟨oc,od,kV,doc,pm,an,cdv,ct,osl,rfl,l,c⟩,k⟩
end
theorem DP {A B:Prop}(h:B):if false=true then A else B:=by rw [if_neg G4];exact h
theorem DQ {A B:Prop}(h:A):if true=true then A else B:=by rw [if_pos rfl];exact h
def aM (H H':Hp):Prop:=∀b o,H b=some o->H' b=some o
theorem aM.refl (H:Hp):aM H H:=λ_ _ h=>h
theorem aM.trans {H H1 H2:Hp}(a:aM H H1) (b:aM H1 H2):aM H H2:=λc o h=>b c o (a c o h)
theorem aM.free {H H':Hp}(e:aM H H') (h:H' l=Px):H l=Px:=by
 cases q:H l with
 | none=>rfl
 | some o=>
  rw [e l o q] at h;cases h
theorem aM.seq {K:Gd}{H H':Hp}{a:GF}{xs:List V}(e:aM H H') (h:cg K H a xs):cg K H' a xs:=by
 rcases h with (h | ⟨o,h⟩) | h
 ·exact .inl (.inl (e _ _ h))
 ·exact .inl (.inr ⟨o,e _ _ h⟩)
 ·exact .inr h
end L2
set_option maxHeartbeats 4000000
namespace K03
open PySem
def top (i:Nat):KR:=Iw.main.body.getD i (.Pass ⟨0,0,0,0⟩)
end K03
namespace K03
open PySem PySem.Spec PyProof.Rows L2
abbrev E (P:PZ) (k:Str) (t:Nat) (v:Ge):NT:=⟨PyData.keyHash P k,.str k t,v⟩
abbrev iO (P:PZ) (k:Str) (t r:Nat):NT:=E P k t (.ref r)
noncomputable def Dt (n:Str) (t l k a:Nat) (v w:Ge) (r u:Nat):Obj:=⟨.type "code",none,.fields #[.str n t,.str n (t + 1),.str "/claim/cut.py" (t + 2),.int l 0,.int k 0,.int 0 0,.int 0 0,.int 3 0,.ref a,.bool true,.int 181 0,.ref (a + 1),.none,v,w,.ref r,.int u 0,.int l 0,.str "/claim/cut.py" (u + 1)],#[]⟩
def rS (n:Str) (t l k a u:Nat):Obj:=Dt n t l k a (.ref (a + 2)) (.ref (a + 3)) (a + 4) u
def rT (n:Str) (t l k a u:Nat):Obj:=Dt n t l k a .none .none (a + 2) u
noncomputable def jG (n:Str) (k:Nat) (m:Ge) (c:Nat):Obj:=⟨.type "function",none,.func (HU n n (dM (top k)) (b6 (top k)) (aV (top k)) .none .none .none m none (.ref c) .none),#[]⟩
def DK:Ge:=.str "pickalike.worlds" 187
def iE:Ge:=.str "law_pickalike_k03_moved" 195
def KF (P:PZ):Gd:=
(nat_lit 2,⟨.none,none,(.dict #[] 0),#[]⟩)::
(nat_lit 3,⟨(.type "dict"),none,(.dict #[E P "__name__" 165 (.str "law_pickalike_k03_moved" 195),E P "__doc__" 166 .none,E P "__package__" 167 .none,E P "__loader__" 168 (.builtin "__main__.__loader__#opaque"),E P "__spec__" 169 .none,iO P "__annotations__" 170 6,iO P "__builtins__" 171 4,E P "__file__" 173 (.str "/claim/cut.py" 172),E P "__cached__" 174 .none,iO P "moved" 194 19,iO P "_law_cell" 204 26,iO P "_law_names" 210 31,iO P "_law_some" 220 38,iO P "_law_pairs" 231 45,iO P "_law_tongue" 241 52,iO P "_law_world" 255 59,iO P "_law_order" 267 66,iO P "_law_same" 273 71,iO P "_law_marks" 279 76,iO P "_law_arrows" 285 81,iO P "law" 291 86] 21),#[]⟩)::
(nat_lit 18,rT "moved" 189 2 2 15 192)::
(nat_lit 19,jG "moved" 1 DK 18)::
(nat_lit 25,rS "_law_cell" 197 8 2 20 202)::
(nat_lit 26,jG "_law_cell" 3 iE 25)::
(nat_lit 30,rT "_law_names" 205 12 2 27 208)::
(nat_lit 31,jG "_law_names" 4 iE 30)::
(nat_lit 37,rS "_law_some" 211 29 2 32 218)::
(nat_lit 38,jG "_law_some" 5 iE 37)::
(nat_lit 44,rS "_law_pairs" 221 36 2 39 229)::
(nat_lit 45,jG "_law_pairs" 6 iE 44)::
(nat_lit 51,rS "_law_tongue" 232 44 1 46 239)::
(nat_lit 52,jG "_law_tongue" 7 iE 51)::
(nat_lit 58,rS "_law_world" 242 49 4 53 253)::
(nat_lit 59,jG "_law_world" 8 iE 58)::
(nat_lit 65,rS "_law_order" 256 58 2 60 265)::
(nat_lit 66,jG "_law_order" 9 iE 65)::
(nat_lit 70,rT "_law_same" 268 67 2 67 271)::
(nat_lit 71,jG "_law_same" 10 iE 70)::
(nat_lit 75,rT "_law_marks" 274 75 3 72 277)::
(nat_lit 76,jG "_law_marks" 11 iE 75)::
(nat_lit 80,rT "_law_arrows" 280 84 3 77 283)::
(nat_lit 81,jG "_law_arrows" 12 iE 80)::
(nat_lit 85,rT "law" 286 95 1 82 289)::
(nat_lit 86,jG "law" 13 iE 85)::[]
def VW:GG:={Iw with main:={Iw.main with body:=[top 1,top 3,top 4,top 5,top 6,top 7,top 8,top 9,top 10,top 11,top 12,top 13]}}
def HK:W.Hook:=W.kHook KF [2,3,18,19,25,26,30,31,37,38,44,45,51,52,58,59,65,66,70,71,75,76,80,81,85,86] (λ_=>by kernel_rfl)
def XT:Gf->Bool:=λs=>W.xlAt VW [] s && W.recOk (Pb HE.row.toRowW) s
theorem look:Ox HE=true:=by decide +kernel
theorem left:W.LeftO HE.row.prog VW [] XT (Qc HK) (Qd HK) 880:=λw=>by kernel_rfl
end K03
namespace DX
open PySem PySem.Spec
open Sem (wp)
end DX
namespace DX
open PySem PySem.Spec
end DX
namespace DX
open PySem PySem.Spec PyProof.Rows L2
def B9 (a C:GF) (dx:Option GF):Ij->Prop:=λh=>∃oe vs,h.get? a=some oe/\oe.cls=.ref C/\oe.dict=dx/\oe.data=.fields vs
abbrev XO (a C:GF) (dx:Option GF):HO:=.ext (B9 a C dx)
end DX
namespace DX
open PySem PySem.Spec PyProof.Rows
open Sem (wp)
section
variable {prog:GG}{w:Hi}{A:G3}{E:Ge->Gf->Prop}{s:Gf}{K:Gd}{x C:GF}{ox:Obj}{od:Option Obj}{name:Str}
theorem wM {M:Qh}{Q:Unit->Gf->Prop}(X:K.In s.heap) (I:JK s.heap x ox C od) (hm:JE K C (.type "BaseException")=some true) (hq:Q () s):GH M A (Nz "BaseException.__getattribute__" ⟨[.ref x,nameV],[]⟩) Q E s:=by
 have hk:builtinKind "BaseException.__getattribute__"=some .slot:=by decide +kernel
 have EX:splitId "BaseException.__getattribute__"=some ("BaseException","__getattribute__"):=by decide +kernel
 have ha:=F.args_bexc_ga (.ref x) nameV;have L1:=I.type (M:=M);have L2:=W.looks_mroIn (M:=M) X hm;simp only [Nz,hk,EX];have L:W.Looks M s.heap (isInstance (.ref x) (.type "BaseException")) true:=L1.andThen L2;refine Gb (L.here ?_);obtain ⟨h,g,d,t,os⟩:=s
 repeat (any_goals (first | assumption | wp_step))
theorem entry_class {Q:Fin->Gf->Prop}(X:K.In s.heap) (I:JK s.heap x ox C od) (hf:K5 K C od "__class__"=some (.bind (.builtin "getset_descriptor.__get__") (.builtin "object.__class__"))) (hm:JE K C (.type "object")=some true) (h:Q (.done (.ret (.ref C))) s):
  GH (GD prog w) A (K6.«object.__getattribute__» ⟨[.ref x,.str "__class__" tk],[]⟩) Q E s:=by obtain ⟨hh,g,d,t,os⟩:=s;have L0:=I.type (M:=GD prog w);have L1:=W.looks_find (M:=GD prog w) X I hf;refine Gb (Gk (Gb (Gk (Gb (L0.at (Gb (L1.at ?_)))))));show GH _ _ (holding [_] (call _ [_,.ref x,.ref C]) >>= ret) _ _ _;exact Gb (Im (Ov (W.class_get (ox:=ox) (od:=od) X I hm (Gk h))))
theorem AZ {tk:Tok}{fill expr:Bool}{Q:Ge->Gf->Prop}(X:K.In s.heap) (I:JK s.heap x ox C od) (hga:I_ K (.ref C) "__getattribute__"=some (some (.builtin "BaseException.__getattribute__"))) (hgt:I_ K (.ref C) "__getattr__"=some none)
  (h:LF (GD prog w) A (.call (.builtin "BaseException.__getattribute__") ⟨[.ref x,.str name tk],[]⟩) (λr s'=>match r with | .ok (.ret v)=>GH (GD prog w) A (handedOut v) Q E s' | _=>False) s):GH (GD prog w) A (getAttrBy (.ref x) (.str name tk) fill expr) Q E s:=by
 obtain ⟨hh,g,d,t,os⟩:=s;have L0:=I.type (M:=GD prog w);have L1:=Mj (M:=GD prog w) X hga;have L2:=Mj (M:=GD prog w) X hgt;have EY:(MS "BaseException.__getattribute__" == MS "object.__getattribute__")=false:=by decide +kernel
 unfold getAttrBy;refine Im (Gb (L0.at (Gb (L1.at ?_))));dsimp only;rw [EY,Lm,if_neg (by decide)];unfold getAttrByItsOwn;refine Gb (L2.at ?_);have h0:(expr && onTheHeap (MS "BaseException.__getattribute__"))=false:=by cases expr <;> rfl
 refine Gb (KU (Im ?_));unfold callGetattribute;rw [h0,if_neg (by decide)];unfold boundAndCalled;rw [K7.ga.bind (.ref x)];refine Gb (Gk (Ov (Kz h λr s' q=>?_)))
 match r,q with
 | .ok (.ret v),q=>exact q
theorem get_class {Q:Option Ge->Gf->Prop}(X:K.In s.heap) (I:JK s.heap x ox C od) (hga:I_ K (.ref C) "__getattribute__"=some (some (.builtin "BaseException.__getattribute__"))) (hgt:I_ K (.ref C) "__getattr__"=some none)
  (hm:JE K C (.type "BaseException")=some true) (hf:K5 K C od "__class__"=some (.bind (.builtin "getset_descriptor.__get__") (.builtin "object.__class__"))) (ho:JE K C (.type "object")=some true) (h:Q (some (.ref C)) {s with toks:=s.toks + 1}):
  GH (GD prog w) A (getAttr? (.ref x) "__class__") Q E s:=by obtain ⟨hp,g,d,t,os⟩:=s;unfold getAttr? getAttrBy?;refine Gb (wpAny_mkText (Gb (KU (AZ (s:=⟨hp,g,d,t + 1,os⟩) X I hga hgt ?_))));refine codeAny_call_builtin K7.ga.plain F.entry_bexc_ga (wM (s:=⟨hp,g,d,t + 1,os⟩) X I hm (entry_class (s:=⟨hp,g,d,t + 1,os⟩) X I hf ho ?_));exact Gk (Gk h)
end
end DX
namespace DX
open PySem PySem.Spec PyProof.Rows L2
abbrev qO:List Ge:=[.type "ValueError",.type "Exception",.type "BaseException",.type "object"]
def quiet:List Str:=["__init__","__setattr__","name","letter","many","told","point","row"]
structure GX (K:Gd) (P:GF):Prop where
 gt:Nb K (.builtin "object.__class__") "__get__"=some (some (.builtin "getset_descriptor.__get__"))
 tk:NU K (.builtin "object.__class__")=some true
 lk:∃nm q N bs sn sub ab col dd k0 k1 k2 k3 k5,K.lookup P=some (excClassObj nm q P N bs qO true sn sub ab col dd k0 k1 k2 k3 k5 "ValueError.__new__")/\∀h,K.In h->∃m,h.Ns N m/\∀n∈quiet,m n=none
structure XE (K:Gd) (P C:GF):Prop where
 lk:∃nm q N bs sn sub ab col dd k0 k1 k2 k3 k5,K.lookup C=some (excClassObj nm q C N bs (.ref P::qO) true sn sub ab col dd k0 k1 k2 k3 k5 "ValueError.__new__")
 ga:I_ K (.ref C) "__getattribute__"=some (some (.builtin "BaseException.__getattribute__"))
 gt:I_ K (.ref C) "__getattr__"=some none
 cl:I_ K (.ref C) "__class__"=some (some (.builtin "object.__class__"))
section
variable {K:Gd}{P C:GF}
theorem uO (X:XE K P C):∃cd,JX K C=some cd/\cd.mro=.ref C::.ref P::qO/\cd.hasDict=true/\W.typeIn K (.ref C)=some (.type "type"):=by
 obtain ⟨nm,q,N,bs,sn,sub,ab,col,dd,k0,k1,k2,k3,k5,l⟩:=X.lk;have h1:JX K C=some {name:=nm,bases:=bs,mro:=.ref C::.ref P::qO,ns:=N,qualname:=q,hasDict:=true,slotNames:=sn,subclasses:=sub,abstract:=ab,collection:=col,hasDel:=false}:=by unfold JX;rw [l]
 refine ⟨_,h1,rfl,rfl,?_⟩;show (K.lookup C).map (·.cls)=_;rw [l];rfl
theorem qq (X:XE K P C) (b:Ge):JE K C b=some ((Lu C::.ref P::qO).contains b):=by obtain ⟨cd,h1,h2,_⟩:=uO X;unfold JE;rw [h1,LM,h2];rfl
end
theorem A_ {K:Gd}{P C:GF}(X:XE K P C){T:String}(h1:NV T=true) (h2:qO.contains (.type T)=false):Ms K (.ref C) (.type T)=some false:=by unfold Ms W.kitCls;rw [if_neg (by simp)];simp only [h1,if_true];show JE K C _=_;rw [qq X,MT,MT,h2];rfl
theorem zf {K:Gd}{C:GF}{od:Option Obj}{name:Str}{a g:Ge}(hc:(JX K C).isSome=true) (ha:I_ K (.ref C) name=some (some a)) (hg:Nb K a "__get__"=some (some g)) (ht:NU K a=some true):K5 K C od name=some (.bind g a):=by obtain ⟨cd,hc⟩:=Hz.mp hc;unfold K5;rw [hc,LM,ha,LM];simp [hg,ht]
theorem w_ {K:Gd}{e P C:GF}(G:GX K P) (E:XE K P C):W.KitX K (.ref e) (.ref C) (λh=>∃ox od,JK h e ox C od):=by
 obtain ⟨cd,hc,hm,hd,ht⟩:=uO E;refine ⟨λM h _ ⟨ox,od,I⟩=>I.type,λM h X _=>?_,λh tp dd its n sl X htp=>?_,λX ⟨ox,od,I⟩ k=>?_⟩
 ·unfold JX at hc;split at hc
  ·rename_i ho;intro A' Q' E' s' k q;unfold isType loadHead;exact Gb (wpAny_loadPart (k _ _ (X _ _ ho)) (Gk q))
  ·cases hc
 ·refine Lx.mpr λq=>?_;obtain rfl:C=tp:=Qn (beq_iff_eq.mp q);unfold JX at hc;split at hc
  ·rename_i ho;have z:=(X _ _ ho).symm.trans htp;cases z
  ·cases hc
 ·exact get_class X I E.ga E.gt (by rw [qq E];simp) (zf (by rw [hc];rfl) E.cl G.gt G.tk) (by rw [qq E];simp) k
end DX
namespace DL
open PySem PySem.Spec PyProof.Rows L2
inductive D where
 | non | bl (b:Bool) | int (i:Int) | str (x:Str) | tup (xs:List D) | lst (xs:List D) | emp
 | exn (cls:Str) (ns:List Str) (ds:List D)
  | dct (ks vs:List D)
mutual
noncomputable def isKey:D->Bool
 | .int _=>true
 | .tup xs=>areKeys xs
 | _=>false
noncomputable def areKeys:List D->Bool
 | []=>true
 | x::xs=>isKey x && areKeys xs
end
mutual
noncomputable def Cg:D->Int
 | .int i=>hashInt i
 | .tup xs=>reduceHash (Of (mG xs))
 | _=>0
noncomputable def mG:List D->List Int
 | []=>[]
 | x::xs=>Cg x::mG xs
end
mutual
noncomputable def dep:D->Nat
 | .tup xs=>deps xs + 1
 | .lst xs=>deps xs + 1
 | .emp=>5000
 | .exn _ _ _=>5000
 | .dct _ _=>5000
 | _=>0
noncomputable def deps:List D->Nat
 | []=>0
 | x::xs=>max (dep x) (deps xs)
end
structure As (ks:List D):Prop where
 key:areKeys ks=true
 nd:ks.Nodup
 dp:deps ks<=8
 tp:∀k∈ks,∃xs,k=.tup xs
def Ar (p:Int×V×V) (e:NT):Prop:=e.hash=p.1/\RelV p.2.1 e.key/\RelV p.2.2 e.val
abbrev yu (a:GF) (ep:Nat) (Ga:List (Int×V×V)):HO:=.ext λh=>∃o es,h.get? a=some o/\o.ExactDict/\o.data=.dict es ep/\MJ Ar Ga es.toList
noncomputable def XF (J:Hp) (dx:Option GF) (ns:List Str) (vs:List V):Prop:=(dx=none/\ns=[]/\vs=[])\/∃d,dx=some d/\ns.length=vs.length/\J d=some (.xd (ns.zip vs))
theorem XF.mono {J J':Hp}(e:aM J J') (h:XF J dx ns vs):XF J' dx ns vs:=by
 rcases h with h | ⟨d,h1,h2,h3⟩
 ·exact .inl h
 ·exact .inr ⟨d,h1,h2,e _ _ h3⟩
mutual
inductive Rep (K:Gd) (J:Hp):D->V->Prop
 | non:Rep K J .non .non
 | bl (b:Bool):Rep K J (.bl b) (.bl b)
 | int (i:Int):Rep K J (.int i) (.int i)
 | str (x:Str):Rep K J (.str x) (.str x)
 | emp {a:GF}:J a=some (.dK [])->Rep K J .emp (.ref a)
 | tup {a:GF}{vs:List V}{ds:List D}:cZ K J a vs->aD K J ds vs->Rep K J (.tup ds) (.ref a)
 | lst {a:GF}{vs:List V}{ds:List D}:cg K J a vs->aD K J ds vs->Rep K J (.lst ds) (.ref a)
 | exn {a C:GF}{dx:Option GF}{cls:Str}{ns:List Str}{vs:List V}{ds:List D}:J a=some (DX.XO a C dx)->Ho K GL cls=some (some (.ref C))->XF J dx ns vs->aD K J ds vs->(∃P,DX.GX K P/\DX.XE K P C)->Rep K J (.exn cls ns ds) (.ref a)
 | dct {a:GF}{ep:Nat}{ks vs:List D}{us ws:List V}:J a=some (yu a ep ((mG ks).zip (us.zip ws)))->aD K J ks us->aD K J vs ws->As ks->(a == Lv)=false/\ks.length=vs.length->Rep K J (.dct ks vs) (.ref a)
inductive aD (K:Gd) (J:Hp):List D->List V->Prop
 | nil:aD K J [] []
 | cons {d:D}{v:V}{ds:List D}{vs:List V}:Rep K J d v->aD K J ds vs->aD K J (d::ds) (v::vs)
end
theorem eL {K:Gd}{H H':Hp}{a:GF}{xs:List V}(e:aM H H') (h:cZ K H a xs):cZ K H' a xs:=by
 rcases h with (h | ⟨o,h⟩) | h
 ·exact .inl (.inl (e _ _ h))
 ·exact .inl (.inr ⟨o,e _ _ h⟩)
 ·exact .inr h
mutual
theorem Rep.mono {K:Gd}{J J':Hp}(e:aM J J'):∀{d:D}{v:V},Rep K J d v->Rep K J' d v
 | _,_,.non=>.non
 | _,_,.bl b=>.bl b
 | _,_,.int i=>.int i
 | _,_,.str x=>.str x
 | _,_,.emp h=>.emp (e _ _ h)
 | _,_,.tup h hs=>.tup (eL e h) (aD.mono e hs)
 | _,_,.lst h hs=>.lst (e.seq h) (aD.mono e hs)
 | _,_,.exn h1 h2 h3 hs hx=>.exn (e _ _ h1) h2 (h3.mono e) (aD.mono e hs) hx
 | _,_,.dct h h1 h2 h3 h4=>.dct (e _ _ h) (aD.mono e h1) (aD.mono e h2) h3 h4
theorem aD.mono {K:Gd}{J J':Hp}(e:aM J J'):∀{ds:List D}{vs:List V},aD K J ds vs->aD K J' ds vs
 | _,_,.nil=>.nil
 | _,_,.cons h hs=>.cons (Rep.mono e h) (aD.mono e hs)
end
section
variable {K:Gd}{J:Hp}
theorem aD.length:∀{ds:List D}{vs:List V},aD K J ds vs->ds.length=vs.length
 | _,_,.nil=>rfl
 | _,_,.cons _ hs=>congrArg (· + 1) (aD.length hs)
theorem aD.get:∀{ds:List D}{vs:List V}{i:Nat}{d:D},aD K J ds vs->ds[i]?=some d->∃v,vs[i]?=some v/\Rep K J d v
 | _,_,_,_,.nil,e=>by simp at e
 | _,_,0,_,.cons r _,e=>by simp at e;subst e;exact ⟨_,rfl,r⟩
 | _,_,i + 1,d,.cons _ t,e=>by obtain ⟨v,h1,h2⟩:=aD.get (i:=i) (d:=d) t (by simpa using e);exact ⟨v,by simpa using h1,h2⟩
theorem aD.append:∀{ds es:List D}{vs us:List V},aD K J ds vs->aD K J es us->aD K J (ds++es) (vs++us)
 | _,_,_,_,.nil,s=>s
 | _,_,_,_,.cons r t,s=>.cons r (aD.append t s)
theorem aD.take:∀{ds:List D}{vs:List V}(n:Nat),aD K J ds vs->aD K J (ds.take n) (vs.take n)
 | _,_,0,_=>.nil
 | _,_,_ + 1,.nil=>.nil
 | _,_,n + 1,.cons r t=>.cons r (aD.take n t)
theorem aD.drop:∀{ds:List D}{vs:List V}(n:Nat),aD K J ds vs->aD K J (ds.drop n) (vs.drop n)
 | _,_,0,r=>r
 | _,_,_ + 1,.nil=>.nil
 | _,_,n + 1,.cons _ t=>aD.drop n t
end
noncomputable def fJ (K:Gd) (J H:Hp) (a:GF) (ks vs:List D):Prop:=∃us ws ep,H a=some (yu a ep ((mG ks).zip (us.zip ws)))/\aD K J ks us/\aD K J vs ws/\As ks/\(a == Lv)=false/\ks.length=vs.length
theorem fJ.mono {K:Gd}{J J' H H':Hp}{a:GF}{ks vs:List D}(e:aM J J') (e':aM H H'):fJ K J H a ks vs->fJ K J' H' a ks vs
 | ⟨us,ws,ep,h1,h2,h3,h4⟩=>⟨us,ws,ep,e' _ _ h1,h2.mono e,h3.mono e,h4⟩
theorem fJ.ne {K:Gd}{J H:Hp}{a:GF}{ks vs:List D}:fJ K J H a ks vs->H a≠none
 | ⟨us,ws,ep,h1,_⟩=>by rw [h1];intro z;cases z
theorem fJ.rep {K:Gd}{J H:Hp}{a:GF}{ks vs:List D}(e:aM J H):fJ K J H a ks vs->Rep K H (.dct ks vs) (.ref a)
 | ⟨us,ws,ep,h1,h2,h3,h4,h5⟩=>.dct h1 (h2.mono e) (h3.mono e) h4 h5
noncomputable def NR (K:Gd) (J:Hp) (P:GF->Prop):List D->List V->Prop
 | [],vs=>vs=[]
 | x::xs,vs=>∃ds b ws us,x=.lst ds/\vs=.ref b::us/\J b=some (.lst ws)/\aD K J ds ws/\P b/\V.ref b∉us/\NR K J P xs us
theorem NR.mono {K:Gd}{J J':Hp}{P P':GF->Prop}(e:aM J J') (k:∀b,P b->P' b):∀{xs:List D}{vs:List V},NR K J P xs vs->NR K J' P' xs vs
 | [],_,h=>h
 | _::_,_,⟨ds,b,ws,us,h1,h2,h3,h4,h5,h6,h7⟩=>⟨ds,b,ws,us,h1,h2,e _ _ h3,h4.mono e,k b h5,h6,h7.mono e k⟩
theorem NR.reps {K:Gd}{J:Hp}{P:GF->Prop}:∀{xs:List D}{vs:List V},NR K J P xs vs->aD K J xs vs
 | [],_,h=>by cases h;exact .nil
 | _::_,_,⟨ds,b,ws,us,h1,h2,h3,h4,h5,h6,h7⟩=>by subst h1;subst h2;exact .cons (.lst (.inl (.inl h3)) h4) h7.reps
theorem NR.mem {K:Gd}{J:Hp}{P:GF->Prop}:∀{xs:List D}{vs:List V}{u:V},NR K J P xs vs->u∈vs->∃b ws,u=.ref b/\J b=some (.lst ws)/\P b
 | [],_,_,h,m=>by cases h;cases m
 | _::_,_,_,⟨ds,b,ws,us,h1,h2,h3,h4,h5,h6,h7⟩,m=>by
  subst h2;rcases Gz.mp m with e | e
  ·exact ⟨b,ws,e,h3,h5⟩
  ·exact h7.mem e
structure Exc where
 cls:Str
 ns:List Str
 ds:List D
inductive M (α:Type) where
 | bad | ok (a:α) | exc (x:Exc)
noncomputable def M.bind {α β:Type}:M α->(α->M β)->M β
 | .bad,_=>.bad
 | .ok a,f=>f a
 | .exc x,_=>.exc x
instance:Monad M where
 pure:=M.ok
 bind:=M.bind
@[simp] theorem aY {α β:Type}(a:α) (f:α->M β):(M.ok a >>= f)=f a:=rfl
noncomputable def b_ {α:Type}(m:M α) (Q:α->Prop) (T:Exc->Prop):Prop:=match m with
 | .bad=>False
 | .ok a=>Q a
 | .exc x=>T x
theorem aI {α β:Type}{m:M α}{f:α->M β}{Q:β->Prop}{T:Exc->Prop}(h:b_ (m >>= f) Q T):b_ m (λa=>b_ (f a) Q T) T:=by
 cases m with
 | bad=>exact h
 | ok a=>exact h
 | exc x=>exact h
theorem aE {α:Type}{m:M α}{Q Q':α->Prop}{T:Exc->Prop}(h:b_ m Q T) (k:∀a,Q a->Q' a):b_ m Q' T:=by
 cases m with
 | bad=>exact h
 | ok a=>exact k a h
 | exc x=>exact h
inductive Md where
 | fresh | own | bor
inductive R where
 | d (x:D) | l (m:Md) (xs:List D)
  | mo (ks vs:List D) | mb (ks vs:List D) | mf (ks vs:List D)
  | ln (xs:List D)
inductive S where
 | d (x:D) | own (xs:List D) | bor (xs:List D) | dk (ks vs:List D) | db (ks vs:List D)
  | fn (x:Str)
  | ow2 (xs:List D)
abbrev Ev:=List (Option S)
inductive Mn where
 | inl (xs:List D) | inr (p:List D×List D) | nst (xs:List D)
noncomputable def mS:Mn->S
 | .inl xs=>.own xs
 | .inr p=>.dk p.1 p.2
 | .nst xs=>.ow2 xs
structure C where
 K:Gd
 H0:Hp
 J0:Hp
 T:Exc->Prop
structure HI (c:C) (J H:Hp):Prop where
 sub:aM J H
 ent:aM c.H0 H
 entJ:aM c.J0 J
 frz:∀a,c.H0 a≠none->c.J0 a=none->J a=none
structure Ext (J H J' H':Hp):Prop where
 h:aM H H'
 j:aM J J'
 sub:aM J' H'
 frz:∀a,H a≠none->J a=none->J' a=none
theorem aM.ne {H H':Hp}(e:aM H H') (h:H a≠none):H' a≠none:=by
 cases q:H a with
 | none=>exact absurd q h
 | some o=>rw [e a o q];intro z;cases z
theorem Ext.refl {J H:Hp}(h:aM J H):Ext J H J H:=⟨aM.refl H,aM.refl J,h,λ_ _ q=>q⟩
theorem Ext.trans {J H J1 H1 J2 H2:Hp}(a:Ext J H J1 H1) (b:Ext J1 H1 J2 H2):Ext J H J2 H2:=
 ⟨a.h.trans b.h,a.j.trans b.j,b.sub,λp h q=>b.frz p (aM.ne a.h h) (a.frz p h q)⟩
theorem HI.ext {J H J' H':Hp}(h:HI c J H) (e:Ext J H J' H'):HI c J' H':=
 ⟨e.sub,h.ent.trans e.h,h.entJ.trans e.j,λa h0 j0=>e.frz a (aM.ne h.ent h0) (h.frz a h0 j0)⟩
theorem cK {H:Hp}(h:H p=none) (o:HO):aM H (upd H p o):=λb u q=>by rw [bf (dc q h)];exact q
theorem Ext.new {J H:Hp}(h:aM J H) (e:H p=none) (o:HO):Ext J H J (upd H p o):=
 ⟨cK e o,aM.refl J,λb u q=>cK e o b u (h b u q),λ_ _ q=>q⟩
theorem Ext.newJ {J H:Hp}(h:aM J H) (e:H p=none) (o:HO):Ext J H (upd J p o) (upd H p o):=
 ⟨cK e o,cK (h.free e) o,λb u q=>by
  by_cases hb:b=p
  ·subst hb;rw [cC] at q ⊢;exact q
  ·rw [bf hb] at q ⊢;exact h b u q,λa ha q=>by
  have:a≠p:=λz=>ha (z▸e);rw [bf this];exact q⟩
noncomputable def lG (c:C) (J H:Hp):S->V->Prop
 | .d x,v=>Rep c.K J x v
 | .own xs,v=>∃a vs,v=.ref a/\H a=some (.lst vs)/\J a=none/\c.H0 a=none/\aD c.K J xs vs
 | .bor xs,v=>∃a vs,v=.ref a/\cg c.K c.H0 a vs/\aD c.K J xs vs
 | .dk ks vs,v=>∃a,v=.ref a/\fJ c.K J H a ks vs/\J a=none/\c.H0 a=none
 | .db ks vs,v=>∃a,v=.ref a/\fJ c.K J c.H0 a ks vs
 | .fn x,v=>∃f,v=.ref f/\Ho c.K GL x=some (some (.ref f))
 | .ow2 xs,v=>∃a vs,v=.ref a/\H a=some (.lst vs)/\J a=none/\c.H0 a=none/\NR c.K J (λb=>c.H0 b=none/\c.J0 b=none) xs vs
theorem lG.ext {c:C}{J H J' H':Hp}(e:Ext J H J' H'):∀{x:S}{v:V},lG c J H x v->lG c J' H' x v
 | .d x,v,h=>Rep.mono e.j h
 | .own xs,v,⟨a,vs,h1,h2,h3,h4,h5⟩=>⟨a,vs,h1,e.h _ _ h2,e.frz a (by rw [h2];intro z;cases z) h3,h4,aD.mono e.j h5⟩
 | .bor xs,v,⟨a,vs,h1,h2,h3⟩=>⟨a,vs,h1,h2,aD.mono e.j h3⟩
 | .dk _ _,v,⟨a,h1,h2,h3,h4⟩=>⟨a,h1,h2.mono e.j e.h,e.frz a h2.ne h3,h4⟩
 | .db _ _,v,⟨a,h1,h2⟩=>⟨a,h1,h2.mono e.j (aM.refl _)⟩
 | .fn _,v,h=>h
 | .ow2 _,v,⟨a,vs,h1,h2,h3,h4,h5⟩=>⟨a,vs,h1,e.h _ _ h2,e.frz a (by rw [h2];intro z;cases z) h3,h4,h5.mono e.j λ_ h=>h⟩
noncomputable def cV (H:Hp) (σ:L2.St) (i:Nat):List V:=match σ[i]? with
 | some (some (.ref p))=>(match H p with
  | some (.lst vs)=>vs
  | _=>[])
 | _=>[]
theorem iF {H:Hp}{σ:L2.St}{i:Nat}{p:GF}{vs:List V}(h:σ[i]?=some (some (.ref p))) (h2:H p=some (.lst vs)):cV H σ i=vs:=by
 unfold cV;rw [h];show (match H p with
  | some (.lst vs)=>vs
  | _=>[])=vs
 rw [h2]
noncomputable def pP (H:Hp) (σ:L2.St) (env:Ev):Prop:=∀(i j:Nat) (xs ys:List D),i≠j->env[i]?=some (some (.ow2 xs))->env[j]?=some (some (.ow2 ys))->∀u∈cV H σ i,u∉cV H σ j
theorem kN {H:Hp}{σ:L2.St}{i k:Nat}{v:Option V}(h:k≠i):cV H (σ.set i v) k=cV H σ k:=by unfold cV;rw [G0 (Jt h)]
theorem pP.by {H H':Hp}{σ σ':L2.St}{env env':Ev}(h:pP H σ env) (f:Nat->Nat) (hf:∀i j xs ys,i≠j->env'[i]?=some (some (.ow2 xs))->env'[j]?=some (some (.ow2 ys))->f i≠f j) (k:∀i xs,env'[i]?=some (some (.ow2 xs))->(∃xs',env[f i]?=some (some (.ow2 xs')))/\cV H' σ' i=cV H σ (f i)):pP H' σ' env':=by intro i j xs ys hij h1 h2 u hu;obtain ⟨⟨xs',k1⟩,k2⟩:=k i xs h1;obtain ⟨⟨ys',k3⟩,k4⟩:=k j ys h2;rw [k4];rw [k2] at hu;exact h (f i) (f j) xs' ys' (hf i j xs ys hij h1 h2) k1 k3 u hu
theorem pP.keep {H H':Hp}{σ σ':L2.St}{env env':Ev}(h:pP H σ env) (k:∀i xs,env'[i]?=some (some (.ow2 xs))->(∃xs',env[i]?=some (some (.ow2 xs')))/\cV H' σ' i=cV H σ i):pP H' σ' env':=h.by id (λ_ _ _ _ h _ _=>h) k
structure SR (c:C) (J H:Hp) (σ:L2.St) (env:Ev):Prop where
 hp:HI c J H
 len:env.length=σ.length
 at_:∀(i:Nat) (x:S),env[i]?=some (some x)->∃v,σ[i]?=some (some v)/\lG c J H x v
 sep:∀(i j:Nat) (xs ys:Mn) (v:V),i≠j->env[i]?=some (some (mS xs))->env[j]?=some (some (mS ys))->σ[i]?=some (some v)->σ[j]?≠some (some v)
 sp2:pP H σ env
theorem SR.nst {c:C}{J H:Hp}{σ:L2.St}{env:Ev}(h:SR c J H σ env){i:Nat}{xs:List D}(q:env[i]?=some (some (.ow2 xs))):∃p vs,σ[i]?=some (some (.ref p))/\H p=some (.lst vs)/\J p=none/\c.H0 p=none/\NR c.K J (λb=>c.H0 b=none/\c.J0 b=none) xs vs/\cV H σ i=vs:=by obtain ⟨_,h1,p,vs,rfl,h2,h3⟩:=h.at_ i _ q;exact ⟨p,vs,h1,h2,h3.1,h3.2.1,h3.2.2,iF h1 h2⟩
theorem SR.ext {J H J' H':Hp}(h:SR c J H σ env) (e:Ext J H J' H'):SR c J' H' σ env:=
 ⟨h.hp.ext e,h.len,λi x q=>let ⟨v,q1,q2⟩:=h.at_ i x q;⟨v,q1,q2.ext e⟩,h.sep,h.sp2.keep λi xs q=>⟨⟨xs,q⟩,let ⟨_,_,h1,h2,_,_,_,h3⟩:=h.nst q;h3▸iF h1 (e.h _ _ h2)⟩⟩
theorem SR.mine {c:C}{J H:Hp}{σ:L2.St}{env:Ev}(sr:SR c J H σ env){i:Nat}:∀{x:Mn},env[i]?=some (some (mS x))->∃p,σ[i]?=some (some (.ref p))/\H p≠none/\J p=none/\c.H0 p=none
 | .inl xs,h=>let ⟨_,k1,p,vs,e,k2,k3,k4,_⟩:=sr.at_ i (.own xs) h;⟨p,e▸k1,by rw [k2];exact λz=>(by cases z),k3,k4⟩
 | .inr q,h=>let ⟨_,k1,p,e,k2,k3,k4⟩:=sr.at_ i (.dk q.1 q.2) h;⟨p,e▸k1,k2.ne,k3,k4⟩
 | .nst xs,h=>let ⟨p,vs,k1,k2,k3,k4,_⟩:=sr.nst h;⟨p,k1,by rw [k2];exact λz=>(by cases z),k3,k4⟩
noncomputable def RR (c:C) (He J H:Hp):R->V->Prop
 | .d x,v=>Rep c.K J x v
 | .l .fresh xs,v=>∃a vs,v=.ref a/\H a=some (.lst vs)/\J a=none/\He a=none/\aD c.K J xs vs
 | .l .own xs,v=>∃a vs,v=.ref a/\H a=some (.lst vs)/\J a=none/\c.H0 a=none/\aD c.K J xs vs
 | .l .bor xs,v=>∃a vs,v=.ref a/\cg c.K c.H0 a vs/\aD c.K J xs vs
 | .mo ks vs,v=>∃a,v=.ref a/\fJ c.K J H a ks vs/\J a=none/\c.H0 a=none
 | .mb ks vs,v=>∃a,v=.ref a/\fJ c.K J c.H0 a ks vs
 | .mf ks vs,v=>∃a,v=.ref a/\fJ c.K J H a ks vs/\J a=none/\He a=none
 | .ln xs,v=>∃a vs,v=.ref a/\H a=some (.lst vs)/\J a=none/\He a=none/\NR c.K J (λb=>He b=none) xs vs
theorem RR.ext {c:C}{He J H J' H':Hp}(e:Ext J H J' H'):∀{x:R}{v:V},RR c He J H x v->RR c He J' H' x v
 | .d x,v,h=>Rep.mono e.j h
 | .l .fresh xs,v,⟨a,vs,h1,h2,h3,h4,h5⟩=>⟨a,vs,h1,e.h _ _ h2,e.frz a (by rw [h2];intro z;cases z) h3,h4,aD.mono e.j h5⟩
 | .l .own xs,v,⟨a,vs,h1,h2,h3,h4,h5⟩=>⟨a,vs,h1,e.h _ _ h2,e.frz a (by rw [h2];intro z;cases z) h3,h4,aD.mono e.j h5⟩
 | .l .bor xs,v,⟨a,vs,h1,h2,h3⟩=>⟨a,vs,h1,h2,aD.mono e.j h3⟩
 | .mo _ _,v,⟨a,h1,h2,h3,h4⟩=>⟨a,h1,h2.mono e.j e.h,e.frz a h2.ne h3,h4⟩
 | .mb _ _,v,⟨a,h1,h2⟩=>⟨a,h1,h2.mono e.j (aM.refl _)⟩
 | .mf _ _,v,⟨a,h1,h2,h3,h4⟩=>⟨a,h1,h2.mono e.j e.h,e.frz a h2.ne h3,h4⟩
 | .ln _,v,⟨a,vs,h1,h2,h3,h4,h5⟩=>⟨a,vs,h1,e.h _ _ h2,e.frz a (by rw [h2];intro z;cases z) h3,h4,h5.mono e.j λ_ h=>h⟩
theorem RR.from {c:C}{He He' J H:Hp}(e:aM He He'):∀{x:R}{v:V},RR c He' J H x v->RR c He J H x v
 | .d x,v,h=>h
 | .l .fresh xs,v,⟨a,vs,h1,h2,h3,h4,h5⟩=>⟨a,vs,h1,h2,h3,e.free h4,h5⟩
 | .l .own xs,v,h=>h
 | .l .bor xs,v,h=>h
 | .mo _ _,v,h=>h
 | .mb _ _,v,h=>h
 | .mf _ _,v,⟨a,h1,h2,h3,h4⟩=>⟨a,h1,h2,h3,e.free h4⟩
 | .ln _,v,⟨a,vs,h1,h2,h3,h4,h5⟩=>⟨a,vs,h1,h2,h3,e.free h4,h5.mono (aM.refl _) λ_ h=>e.free h⟩
noncomputable def gV:R->M (List D)
 | .d (.lst xs)=>.ok xs
 | .l _ xs=>.ok xs
 | _=>.bad
noncomputable def toD:R->M D
 | .d x=>.ok x
 | .l .fresh xs=>.ok (.lst xs)
 | .mf ks vs=>.ok (.dct ks vs)
 | .ln xs=>.ok (.lst xs)
 | _=>.bad
theorem RR.list {c:C}{He J H:Hp}(hp:HI c J H):∀{r:R}{v:V}{xs:List D},RR c He J H r v->gV r=.ok xs->∃a vs,v=.ref a/\cg c.K H a vs/\aD c.K J xs vs
 | .d (.lst ys),v,xs,h,e=>by
  cases e;cases h with
  | lst h hs=>exact ⟨_,_,rfl,hp.sub.seq h,hs⟩
 | .l .fresh ys,v,xs,⟨a,vs,h1,h2,h3,h4,h5⟩,e=>by cases e;exact ⟨a,vs,h1,cg.of h2,h5⟩
 | .l .own ys,v,xs,⟨a,vs,h1,h2,h3,h4,h5⟩,e=>by cases e;exact ⟨a,vs,h1,cg.of h2,h5⟩
 | .l .bor ys,v,xs,⟨a,vs,h1,h2,h3⟩,e=>by cases e;exact ⟨a,vs,h1,hp.ent.seq h2,h3⟩
 | .d .non,_,_,_,e=>nomatch e
 | .d (.bl _),_,_,_,e=>nomatch e
 | .d (.int _),_,_,_,e=>nomatch e
 | .d (.str _),_,_,_,e=>nomatch e
 | .d (.tup _),_,_,_,e=>nomatch e
 | .d .emp,_,_,_,e=>nomatch e
 | .d (.dct _ _),_,_,_,e=>nomatch e
 | .mo _ _,_,_,_,e=>nomatch e
 | .mb _ _,_,_,_,e=>nomatch e
 | .mf _ _,_,_,_,e=>nomatch e
 | .ln _,_,_,_,e=>nomatch e
theorem nO {Je He J H:Hp}(x:Ext Je He J H) (h2:H a=some o) (h3:J a=none) (h4:He a=none):Ext Je He (upd J a o) H:=by
 refine ⟨x.h,x.j.trans (cK h3 _),λb u q=>?_,λb hb q=>?_⟩
 ·by_cases hb:b=a
  ·subst hb;rw [cC] at q;cases q;exact h2
  ·rw [bf hb] at q;exact x.sub b u q
 ·have:b≠a:=λz=>hb (z▸h4);rw [bf this];exact x.frz b hb q
theorem freeze {c:C}{Je He J H:Hp}(x:Ext Je He J H):∀{r:R}{v:V}{d:D},RR c He J H r v->toD r=.ok d->∃J',Ext Je He J' H/\aM J J'/\Rep c.K J' d v
 | .d y,v,d,h,e=>by cases e;exact ⟨J,x,aM.refl J,h⟩
 | .l .fresh ys,v,d,⟨a,vs,h1,h2,h3,h4,h5⟩,e=>by cases e;subst h1;exact ⟨_,nO x h2 h3 h4,cK h3 _,.lst (.inl (.inl cC)) (aD.mono (cK h3 _) h5)⟩
 | .mf ks vs,v,d,⟨a,h1,⟨us,ws,ep,h2,m1,m2,m3⟩,h3,h4⟩,e=>by cases e;subst h1;exact ⟨_,nO x h2 h3 h4,cK h3 _,.dct cC (m1.mono (cK h3 _)) (m2.mono (cK h3 _)) m3.1 m3.2⟩
 | .ln ys,v,d,⟨a,vs,h1,h2,h3,h4,h5⟩,e=>by cases e;subst h1;exact ⟨_,nO x h2 h3 h4,cK h3 _,.lst (.inl (.inl cC)) (h5.reps.mono (cK h3 _))⟩
 | .l .own _,_,_,_,e=>nomatch e
 | .l .bor _,_,_,_,e=>nomatch e
 | .mo _ _,_,_,_,e=>nomatch e
 | .mb _ _,_,_,_,e=>nomatch e
abbrev G (α:Type):=Ev->M α
def tD (c:C) (g:G R):TE:=λσ H Q=>∃J env,SR c J H σ env/\b_ (g env) (λr=>∀v J' H',Ext J H J' H'->RR c H J' H' r v->Q v H') c.T
def PD (X:Cx) (c:C) (e:Hl) (g:G R):Prop:=PE X e (tD c g)
def tB (c:C) (g:G Bool):TT:=λσ H Q=>∃J env,SR c J H σ env/\b_ (g env) (λb=>∀J' H',Ext J H J' H'->Q b H') c.T
def PB (X:Cx) (c:C) (e:Hl) (g:G Bool):Prop:=PT X e (tB c g)
noncomputable def iu (c:C) (He J H:Hp):List R->List V->Prop
 | [],vs=>vs=[]
 | r::rs,vs=>∃v us,vs=v::us/\RR c He J H r v/\iu c He J H rs us
def tA (c:C) (g:G (List R)):TA:=λσ H Q=>∃J env,SR c J H σ env/\b_ (g env) (λrs=>∀vs J' H',Ext J H J' H'->iu c H J' H' rs vs->Q vs H') c.T
def yi (X:Cx) (c:C) (es:List Hl) (g:G (List R)):Prop:=PA X es (tA c g)
def Et (c:C) (g:G (List D)):TA:=λσ H Q=>∃J env,SR c J H σ env/\b_ (g env) (λds=>∀vs J' H',Ext J H J' H'->aD c.K J' ds vs->Q vs H') c.T
def Ej (X:Cx) (c:C) (es:List Hl) (g:G (List D)):Prop:=PA X es (Et c g)
inductive O where
 | nx (e:Ev) | rt (r:R) | bk (e:Ev) | ct (e:Ev)
noncomputable def RF (c:C) (J H:Hp):R->V->Prop
 | .d x,v=>Rep c.K J x v
 | .l _ xs,v=>∃a vs,v=.ref a/\H a=some (.lst vs)/\J a=none/\c.H0 a=none/\aD c.K J xs vs
 | .mf ks vs,v=>∃a,v=.ref a/\fJ c.K J H a ks vs/\J a=none/\c.H0 a=none
 | .ln xs,v=>∃a vs,v=.ref a/\H a=some (.lst vs)/\J a=none/\c.H0 a=none/\NR c.K J (λb=>c.H0 b=none) xs vs
 | _,_=>False
noncomputable def oP (c:C) (J:Hp) (E:Ends):O->Prop
 | .nx e=>∀σ' J' H',aM J J'->SR c J' H' σ' e->E.nx σ' H'
 | .rt r=>∀v J' H',aM J J'->HI c J' H'->RF c J' H' r v->E.rt v H'
 | .bk e=>∀σ' J' H',aM J J'->SR c J' H' σ' e->E.bk σ' H'
 | .ct e=>∀σ' J' H',aM J J'->SR c J' H' σ' e->E.ct σ' H'
def tS (c:C) (g:G O):TS:=λE σ H=>∃J env,SR c J H σ env/\b_ (g env) (oP c J E) c.T
def Dq (X:Cx) (c:C) (st:KR) (g:G O):Prop:=PS X st (tS c g)
def Au (X:Cx) (c:C) (st:List KR) (g:G O):Prop:=gU X st (tS c g)
theorem oP.mono {c:C}{J J1:Hp}{E:Ends}(e:aM J J1):∀{o:O},oP c J E o->oP c J1 E o
 | .nx _,h=>λσ' J' H' q r=>h σ' J' H' (e.trans q) r
 | .rt _,h=>λσ' J' H' q r=>h σ' J' H' (e.trans q) r
 | .bk _,h=>λσ' J' H' q r=>h σ' J' H' (e.trans q) r
 | .ct _,h=>λσ' J' H' q r=>h σ' J' H' (e.trans q) r
def tW (c:C) (g:G O):TS:=λE σ H=>∃J env,SR c J H σ env/\b_ (g env) (oP c c.J0 E) c.T
theorem Dd {c:C}{g:G O}{E:Ends}{σ:L2.St}{H:Hp}(h:tW c g E σ H):tS c g E σ H:=by obtain ⟨J,env,sr,w⟩:=h;exact ⟨J,env,sr,aE w λo q=>q.mono sr.hp.entJ⟩
theorem gn {t t':TE}(h:PE X e t) (k:∀σ H Q,t' σ H Q->t σ H Q):PE X e t':=λF3 s σ H Q I q=>h F3 s σ H Q I (k σ H Q q)
theorem tZ (h:PT X e t) (k:∀σ H Q,t' σ H Q->t σ H Q):PT X e t':=λF3 s σ H Q I q=>h F3 s σ H Q I (k σ H Q q)
theorem pN (h:PA X es t) (k:∀σ H Q,t' σ H Q->t σ H Q):PA X es t':=λpos F3 s σ H Q I q=>h pos F3 s σ H Q I (k σ H Q q)
theorem kR {st:KR}{t t':TS}(h:PS X st t) (k:∀D σ H,t' D σ H->t D σ H):PS X st t':=λF3 s σ H D I q=>h F3 s σ H D I (k D σ H q)
theorem qB {st:List KR}{t t':TS}(h:gU X st t) (k:∀D σ H,t' D σ H->t D σ H):gU X st t':=λF3 s σ H D I q=>h F3 s σ H D I (k D σ H q)
section
variable {X:Cx}{c:C}{e a b:Hl}{ga gb:G R}{pos:Pos}
noncomputable def S.rd:S->M R
 | .d x=>.ok (.d x)
 | .own xs=>.ok (.l .own xs)
 | .bor xs=>.ok (.l .bor xs)
 | .dk ks vs=>.ok (.mo ks vs)
 | .db ks vs=>.ok (.mb ks vs)
 | .fn _=>.bad
 | .ow2 xs=>.ok (.l .own xs)
noncomputable def af (i:Nat):G R:=λenv=>match env[i]? with
 | some (some x)=>x.rd
 | _=>.bad
theorem zH (h:PE X (.Name x pos) (B0 i)):PD X c (.Name x pos) (af i):=gn h λσ H Q ⟨J,env,sr,w⟩=>by
 unfold af at w;cases q:env[i]? with
 | none=>rw [q] at w;exact w.elim
 | some o=>
  cases o with
  | none=>rw [q] at w;exact w.elim
  | some x=>
   rw [q] at w;obtain ⟨v,h1,h2⟩:=sr.at_ i x q;refine ⟨v,h1,?_⟩;cases x with
   | fn _=>exact w.elim
   | ow2 _=>obtain ⟨a,vs,k1,k2,k3,k4,k5⟩:=h2;exact w v J H (Ext.refl sr.hp.sub) ⟨a,vs,k1,k2,k3,k4,k5.reps⟩
   | _=>exact w v J H (Ext.refl sr.hp.sub) h2
def gC (d:D):G R:=λ_=>.ok (.d d)
theorem tX (hr:∀J,Rep c.K J d v) (h:PE X e (tC v)):PD X c e (gC d):=gn h λσ H Q ⟨J,env,sr,w⟩=>w v J H (Ext.refl sr.hp.sub) (hr J)
noncomputable def BD (c:C) (r:R2) (f:R->R->M R):Prop:=∀(He He' J H:Hp) (x y:R) (u v:V) (Q:VK),HI c J H->RR c He J H x u->RR c He' J H y v->
 b_ (f x y) (λz=>∀w J' H',Ext J H J' H'->RR c H J' H' z w->Q w H') c.T->r u v H Q
def g2 (f:R->R->M R) (ga gb:G R):G R:=λenv=>ga env >>= λx=>gb env >>= λy=>f x y
theorem two {P:R->R->M R}{σ:L2.St}{H:Hp}{k:V->V->Hp->Prop}{Q:VK}{J:Hp}{env:Ev}(sr:SR c J H σ env)
  (w:b_ (g2 P ga gb env) (λr=>∀v J' H',Ext J H J' H'->RR c H J' H' r v->Q v H') c.T)
  (hk:∀x y u v J2 H2,SR c J2 H2 σ env->Ext J H J2 H2->RR c H J2 H2 x u->RR c H J2 H2 y v->b_ (P x y) (λz=>∀w J' H',Ext J2 H2 J' H'->RR c H2 J' H' z w->Q w H') c.T->k u v H2):
  tD c ga σ H λu H1=>tD c gb σ H1 λv H2=>k u v H2:=by refine ⟨J,env,sr,aE (aI w) λx wx u J1 H1 e1 r1=>?_⟩;have sr1:=sr.ext e1;refine ⟨J1,env,sr1,aE (aI wx) λy wy v J2 H2 e2 r2=>?_⟩;exact hk x y u v J2 H2 (sr1.ext e2) (e1.trans e2) (r1.ext e2) (RR.from e1.h r2) (aE wy λz q w J' H' e3 r3=>q w J' H' ((e1.trans e2).trans e3) (RR.from (e1.h.trans e2.h) r3))
theorem xH {t:TE}{f:R->R->M R}(ht:PE X e t) (heq:t=vQ r (tD c ga) (tD c gb)) (hf:BD c r f):PD X c e (g2 f ga gb):=by subst heq;exact gn ht λσ H Q ⟨J,env,sr,w⟩=>two (k:=λu v H2=>r u v H2 Q) sr w λx y u v J2 H2 sr2 e2 r1 r2 q=>hf H H J2 H2 x y u v Q sr2.hp r1 r2 q
theorem jx {f:R->R->M R}(ho:dU X (JB op) r) (hf:BD c r f) (ha:PD X c a ga) (hb:PD X c b gb):PD X c (.BinOp a op b pos) (g2 f ga gb):=xH (CH ho ha hb) rfl hf
theorem Bq {f:R->R->M R}(ho:dU X (Jm op) r) (hf:BD c r f) (ha:PD X c a ga) (hb:PD X c b gb) (hm:Il op b=false:=by first | exact qx _ | rfl):PD X c (.Compare a [op] [b] pos) (g2 f ga gb):=xH (zK ho ha hb hm) rfl hf
theorem CA {f:R->R->M R}(ho:kY X r) (hf:BD c r f) (ha:PD X c a ga) (hb:PD X c b gb) (hs:nC b:=by exact λ_ _=>rfl):PD X c (.Subscript a b pos) (g2 f ga gb):=xH (CG ho ha hb hs) rfl hf
theorem BD.or {r r':R2}{f f':R->R->M R}(p:R->R->Bool) (h:BD c r f) (h':BD c r' f'):BD c (λx y H Q=>r x y H Q\/r' x y H Q) (λx y=>if p x y then f x y else f' x y):=by
 intro He He' J H x y u v Q hp rx ry w;simp only at w;cases q:p x y with
 | true=>rw [q] at w;exact .inl (h He He' J H x y u v Q hp rx ry w)
 | false=>rw [q] at w;exact .inr (h' He He' J H x y u v Q hp rx ry w)
noncomputable def fI (C:Int->Int->Bool) (f:Int->Int->D):R->R->M R
 | .d (.int i),.d (.int j)=>if C i j then .ok (.d (f i j)) else .bad
 | _,_=>.bad
noncomputable def bL (f:Int->Int->D):R->R->M R
 | .d (.int i),.d (.int j)=>.ok (.d (f i j))
 | _,_=>.bad
theorem sP {P:Int->Int->Prop}{Cb:Int->Int->Bool}{g:Int->Int->V}{f:Int->Int->D}(hC:∀i j,Cb i j=true->P i j) (hr:∀i j J,Rep c.K J (f i j) (g i j)):BD c (rI P g) (fI Cb f):=by
 intro He He' J H x y u v Q hp rx ry w;unfold fI at w;split at w
 ·cases rx;cases ry;rename_i i j;cases q:Cb i j with
  | true=>rw [q] at w;exact ⟨i,j,rfl,rfl,hC i j q,w _ J H (Ext.refl hp.sub) (hr i j J)⟩
  | false=>rw [q] at w;exact w.elim
 ·exact w.elim
theorem pK {g:Int->Int->V}{f:Int->Int->D}(hr:∀i j J,Rep c.K J (f i j) (g i j)):BD c (oK g) (bL f):=by
 intro He He' J H x y u v Q hp rx ry w;unfold bL at w;split at w
 ·cases rx;cases ry;rename_i i j;exact ⟨i,j,rfl,rfl,w _ J H (Ext.refl hp.sub) (hr i j J)⟩
 ·exact w.elim
def below (n:Nat) (j:Int):Bool:=Nat.blt j.natAbs n
theorem cU:below n j=true↔-(n:Int) < j/\j < n:=by unfold below;rw [Nat.blt_eq];omega
def tK (_ j:Int):Bool:=decide (0 < j) && below 1073741824 j
def A5 (_ j:Int):Bool:=decide (0 < j)
def lQ (i j:Int):Bool:=below 18446744073709551616 i || below 18446744073709551616 j
theorem zm (h:lQ i j=true):(-(2 ^ 64) < i/\i < 2 ^ 64)\/(-(2 ^ 64) < j/\j < 2 ^ 64):=by unfold lQ at h;rw [IJ] at h;exact h.imp cU.mp cU.mp
theorem zl (h:tK i j=true):0 < j/\j < 1073741824:=by unfold tK at h;rw [Gw] at h;exact ⟨of_decide_eq_true h.1,(cU.mp h.2).2⟩
def w5 (i j:Int):Bool:=decide (0<=j) && below 1000001 j && below 18446744073709551616 i
theorem zo {i j:Int}(h:w5 i j=true):0<=j/\j<=1000000/\i.natAbs < 2 ^ 64:=by unfold w5 at h;rw [Gw,Gw] at h;have h2:=cU.mp h.1.2;have h3:=cU.mp h.2;exact ⟨of_decide_eq_true h.1.1,by omega,by omega⟩
abbrev wW:R->R->M R:=bL λi j=>.int (i + j)
abbrev nN:R->R->M R:=bL λi j=>.int (i - j)
abbrev AV:R->R->M R:=fI lQ λi j=>.int (i * j)
abbrev eE:R->R->M R:=fI tK λi j=>.int (i / j)
abbrev cj:R->R->M R:=fI A5 λi j=>.int (i % j)
abbrev iU:R->R->M R:=fI w5 λi j=>.int (i ^ j.toNat)
noncomputable def mq:R->R->M R
 | .d (.str i),.d (.str j)=>if i.length + j.length<=sizeLine then .ok (.d (.str (i++j))) else .bad
 | _,_=>.bad
theorem Aa {K:Gd}{J:Hp}{ds:List D}{vs:List V}{i:Int}{d:D}(h:aD K J ds vs) (e:jF ds i=some d):∃v,jF vs i=some v/\Rep K J d v:=by
 unfold jF at e ⊢;rw [h.length] at e;cases q:rW vs.length i with
 | none=>rw [q] at e;cases e
 | some j=>rw [q] at e;exact h.get e
theorem nY {f:List D->M R}{Q:R->Prop}{T:Exc->Prop}(w:b_ (gV x >>= f) Q T):∃xs,gV x=.ok xs/\b_ (f xs) Q T:=by
 cases q:gV x with
 | bad=>rw [q] at w;exact w.elim
 | ok xs=>rw [q] at w;exact ⟨xs,rfl,w⟩
 | exc z=>unfold gV at q;split at q <;> cases q
noncomputable def jW:R->Bool
 | .l .fresh _=>true
 | .l .own _=>true
 | _=>false
noncomputable def jn (x y:R):M R:=if jW x && jW y then gV x >>= λxs=>gV y >>= λys=>if xs.length + ys.length<=sizeLine then .ok (.l .fresh (xs++ys)) else .bad else .bad
theorem RR.made {He J H:Hp}:∀{r:R}{v:V},jW r=true->RR c He J H r v->∃a vs xs,gV r=.ok xs/\v=.ref a/\H a=some (.lst vs)/\aD c.K J xs vs
 | .l .fresh xs,v,_,⟨a,vs,h1,h2,h3,h4,h5⟩=>⟨a,vs,xs,rfl,h1,h2,h5⟩
 | .l .own xs,v,_,⟨a,vs,h1,h2,h3,h4,h5⟩=>⟨a,vs,xs,rfl,h1,h2,h5⟩
 | .l .bor _,_,e,_=>nomatch e
 | .mo _ _,_,e,_=>nomatch e
 | .mb _ _,_,e,_=>nomatch e
 | .mf _ _,_,e,_=>nomatch e
 | .ln _,_,e,_=>nomatch e
 | .d _,_,e,_=>nomatch e
theorem iI {J H:Hp}(hp:HI c J H) (e:H p=none) (h:aD c.K J xs vs):RR c H J (upd H p (.lst vs)) (.l .fresh xs) (.ref p):=
 ⟨p,vs,rfl,cC,hp.sub.free e,e,h⟩
noncomputable def CD (c:C) (r:List V->Hp->VK->Prop) (f:List R->M R):Prop:=∀(He J H:Hp) (xs:List R) (vs:List V) (Q:VK),HI c J H->iu c He J H xs vs->
 b_ (f xs) (λz=>∀w J' H',Ext J H J' H'->RR c H J' H' z w->Q w H') c.T->r vs H Q
def gN (f:List R->M R) (gs:G (List R)):G R:=λenv=>gs env >>= f
theorem Bp {t:TE}{ta:TA}{r:List V->Hp->VK->Prop}{f:List R->M R}{gs:G (List R)}(ht:PE X e t) (heq:t=λσ H Q=>tA c gs σ H λvs H1=>r vs H1 Q) (hf:CD c r f):PD X c e (gN f gs):=by subst heq;refine gn ht λσ H Q ⟨J,env,sr,w⟩=>⟨J,env,sr,aE (aI w) λrs w vs J1 H1 e1 r1=>?_⟩;exact hf H J1 H1 rs vs Q (sr.hp.ext e1) r1 (aE w λz q v J' H' e2 r2=>q v J' H' (e1.trans e2) (RR.from e1.h r2))
def av:G (List R):=λ_=>.ok []
def ah (g:G R) (gs:G (List R)):G (List R):=λenv=>g env >>= λx=>gs env >>= λxs=>.ok (x::xs)
theorem iu.from {He He' J H:Hp}(e:aM He He'):∀{xs:List R}{vs:List V},iu c He' J H xs vs->iu c He J H xs vs
 | [],_,h=>h
 | _::_,_,⟨v,us,h1,h2,h3⟩=>⟨v,us,h1,RR.from e h2,iu.from e h3⟩
theorem jw {id:String}{x:Str}{p:Pos}{es:List Hl}{r:List V->Hp->VK->Prop}{f:List R->M R}{gs:G (List R)}(hc:dG X (.builtin id) r) (hf:CD c r f) (hv:Hw x=some (.builtin id)) (hm:X.mg x=none) (ha:yi X c (e::es) gs)
  (hg:Gl X x:=by rfl) (hn:x≠"__name__":=by decide) (hdb:(x == ("__debug__":Str))=false:=by decide)
  (he:GA (e::es) X.env=(false,eval e X.env)::GA es X.env:=by rfl) (hpl:(JG pos (GA es X.env)).any (·.1)=false:=by rfl):PD X c (.Call (.Name x p) (e::es) [] pos) (gN f gs):=
 Bp (ta:=x_) (qA hc hg hm hv ha hn hdb he hpl) rfl hf
theorem vv {r:List V->Hp->VK->Prop}{f:List R->M R}{gs:G (List R)}(hc:dG X (.type T) r) (hf:CD c r f) (hv:Hw x=some (.type T)) (hm:X.mg x=none) (ha:yi X c (e::es) gs)
 (hg:Gl X x:=by rfl) (hn:x≠"__name__":=by decide) (hdb:(x == ("__debug__":Str))=false:=by decide)
 (he:GA (e::es) X.env=(false,eval e X.env)::GA es X.env:=by rfl) (hpl:(JG pos (GA es X.env)).any (·.1)=false:=by rfl):PD X c (.Call (.Name x p) (e::es) [] pos) (gN f gs):=
 Bp (ta:=x_) (kh hc hg hm hv ha hn hdb he hpl) rfl hf
end
section
variable {X:Cx}{c:C}{e a b:Hl}{es:List Hl}{ga gb g:G R}{pos:Pos}
def aG:G (List D):=λ_=>.ok []
def au (g:G R) (gs:G (List D)):G (List D):=λenv=>g env >>= λx=>toD x >>= λd=>gs env >>= λds=>.ok (d::ds)
theorem kW {α:Type}{f:D->M α}{Q:α->Prop}{T:Exc->Prop}(w:b_ (toD x >>= f) Q T):∃d,toD x=.ok d/\b_ (f d) Q T:=by
 cases q:toD x with
 | bad=>rw [q] at w;exact w.elim
 | ok xs=>rw [q] at w;exact ⟨xs,rfl,w⟩
 | exc z=>unfold toD at q;split at q <;> cases q
def cI (gs:G (List D)):G R:=λenv=>gs env >>= λds=>if ds.length<=sizeLine then .ok (.d (.tup ds)) else .bad
def fK (gs:G (List D)):G R:=λenv=>gs env >>= λds=>if ds.length<=sizeLine then .ok (.l .fresh ds) else .bad
theorem ku {J H:Hp}(hp:HI c J H) (e:H p=none) (h:aD c.K J xs vs):Rep c.K (upd J p (.tup vs)) (.tup xs) (.ref p):=
 .tup (.inl (.inl cC)) (h.mono (cK (hp.sub.free e) _))
noncomputable def i7:R->M (List D)
 | .d (.tup xs)=>.ok xs
 | .d (.lst xs)=>.ok xs
 | .l _ xs=>.ok xs
 | _=>.bad
theorem kH {He J H:Hp}(hp:HI c J H):∀{r:R}{v:V}{xs:List D},RR c He J H r v->i7 r=.ok xs->∃a vs,v=.ref a/\(cg c.K H a vs\/cZ c.K H a vs)/\aD c.K J xs vs
 | .d (.tup ys),v,xs,h,e=>by
  cases e;cases h with
  | tup h hs=>exact ⟨_,_,rfl,.inr (eL hp.sub h),hs⟩
 | .d (.lst ys),v,xs,h,e=>let ⟨a,vs,h1,h2,h3⟩:=RR.list hp h e;⟨a,vs,h1,.inl h2,h3⟩
 | .l m ys,v,xs,h,e=>let ⟨a,vs,h1,h2,h3⟩:=RR.list hp h e;⟨a,vs,h1,.inl h2,h3⟩
 | .d .non,_,_,_,e=>nomatch e
 | .d (.bl _),_,_,_,e=>nomatch e
 | .d (.int _),_,_,_,e=>nomatch e
 | .d (.str _),_,_,_,e=>nomatch e
 | .d .emp,_,_,_,e=>nomatch e
 | .d (.dct _ _),_,_,_,e=>nomatch e
theorem jg {α:Type}{f:List D->M α}{Q:α->Prop}{T:Exc->Prop}(w:b_ (i7 x >>= f) Q T):∃xs,i7 x=.ok xs/\b_ (f xs) Q T:=by
 cases q:i7 x with
 | bad=>rw [q] at w;exact w.elim
 | ok xs=>rw [q] at w;exact ⟨xs,rfl,w⟩
 | exc z=>unfold i7 at q;split at q <;> cases q
noncomputable def fk:List R->M R
 | [.d (.str z)]=>if z.length<=sizeLine then .ok (.d (.int z.length)) else .bad
 | [r]=>i7 r >>= λxs=>.ok (.d (.int xs.length))
 | _=>.bad
theorem iu.one {He J H:Hp}(h:iu c He J H [r] vs):∃v,vs=[v]/\RR c He J H r v:=by obtain ⟨v,us,rfl,h1,h2⟩:=h;cases h2;exact ⟨v,rfl,h1⟩
theorem iu.two {He J H:Hp}{r r':R}{vs:List V}(h:iu c He J H [r,r'] vs):∃v v',vs=[v,v']/\RR c He J H r v/\RR c He J H r' v':=by obtain ⟨v,us,rfl,h1,v2,us2,rfl,h2,h3⟩:=h;cases h3;exact ⟨v,v2,rfl,h1,h2⟩
noncomputable def cM:List R->M R
 | [r]=>i7 r >>= λxs=>.ok (.d (.tup xs))
 | _=>.bad
theorem qS:Hw "tuple"=some (.type "tuple"):=by decide +kernel
theorem sR:Hw "list"=some (.type "list"):=by decide +kernel
noncomputable def aX (g:G R):G Bool:=λenv=>g env >>= λr=>match r with
 | .d (.bl k)=>.ok k
 | _=>.bad
theorem mU {f:R->R->M R}(ho:dU X (Jm op) r) (hf:BD c r f) (ha:PD X c a ga) (hb:PD X c b gb) (hm:Il op b=false:=by first | exact qx _ | rfl):PB X c (.Compare a [op] [b] pos) (aX (g2 f ga gb)):=
 tZ (zU ho ha hb hm) λσ H Q ⟨J,env,sr,w⟩=>by
  have w2:=aI w;refine two (k:=λu v H2=>r u v H2 λz H3=>∃k,z=.bl k/\Q k H3) (Q:=λz H3=>∃k,z=.bl k/\Q k H3) sr (aE w2 λr0 wr v J1 H1 e1 r1=>?_)
   λx y u v J2 H2 sr2 e2 r1 r2 q=>hf H H J2 H2 x y u v _ sr2.hp r1 r2 q
  split at wr
  ·cases r1;exact ⟨_,rfl,wr J1 H1 e1⟩
  ·exact wr.elim
def bz (g h:G Bool):G Bool:=λenv=>g env >>= λk=>if k=true then h env else .ok false
def bI (g h:G Bool):G Bool:=λenv=>g env >>= λk=>if k=true then .ok true else h env
def bg (g:G Bool):G Bool:=λenv=>g env >>= λk=>.ok (!k)
def Ek (X:Cx) (c:C) (e:Hl) (g:G Bool):Prop:=PW X e (tB c g)
variable {t u:G Bool}{F6:List Hl}
theorem CM {X:Cx}{e:Hl}{t t':TT}(h:PW X e t) (k:∀σ H Q,t' σ H Q->t σ H Q):PW X e t':=λwh F3 s σ H Q I q=>h wh F3 s σ H Q I (k σ H Q q)
noncomputable def aW (g h:G R):G R:=λenv=>g env >>= λr=>match r with
 | .d (.bl true)=>h env
 | .d (.bl false)=>.ok (.d (.bl false))
 | _=>.bad
noncomputable def aZ (g:G R):G R:=λenv=>g env >>= λr=>match r with
 | .d (.bl k)=>.ok (.d (.bl (!k)))
 | _=>.bad
end
section
variable {X:Cx}{c:C}{e a b tg:Hl}{es:List Hl}{ga gb g:G R}{pos:Pos}{st:KR}{F6:List KR}{t u:G O}{tb:G Bool}
def bx:G O:=λenv=>.ok (.nx env)
noncomputable def az (t u:G O):G O:=λenv=>t env >>= λo=>match o with
 | .nx e=>u e
 | o=>.ok o
noncomputable def rF:R->M R
 | .d x=>.ok (.d x)
 | .l .fresh xs=>.ok (.l .fresh xs)
 | .l .own xs=>.ok (.l .fresh xs)
 | .l .bor _=>.bad
 | .mo ks vs=>.ok (.mf ks vs)
 | .mf ks vs=>.ok (.mf ks vs)
 | .mb _ _=>.bad
 | .ln xs=>.ok (.ln xs)
def aN (g:G R):G O:=λenv=>g env >>= λr=>rF r >>= λr=>.ok (.rt r)
theorem RR.rf {J H J1 H1:Hp}(hp:HI c J H):∀{r r':R}{v:V},RR c H J1 H1 r v->rF r=.ok r'->RF c J1 H1 r' v
 | .d x,r',v,h,e=>by cases e;exact h
 | .l .fresh xs,r',v,⟨a,vs,h1,h2,h3,h4,h5⟩,e=>by cases e;exact ⟨a,vs,h1,h2,h3,hp.ent.free h4,h5⟩
 | .l .own xs,r',v,⟨a,vs,h1,h2,h3,h4,h5⟩,e=>by cases e;exact ⟨a,vs,h1,h2,h3,h4,h5⟩
 | .l .bor _,_,_,_,e=>nomatch e
 | .mo _ _,_,v,⟨a,h1,h2,h3,h4⟩,e=>by cases e;exact ⟨a,h1,h2,h3,h4⟩
 | .mb _ _,_,_,_,e=>nomatch e
 | .mf _ _,_,v,⟨a,h1,h2,h3,h4⟩,e=>by cases e;exact ⟨a,h1,h2,h3,hp.ent.free h4⟩
 | .ln _,_,v,⟨a,vs,h1,h2,h3,h4,h5⟩,e=>by cases e;exact ⟨a,vs,h1,h2,h3,hp.ent.free h4,h5.mono (aM.refl _) λ_ h=>hp.ent.free h⟩
def aO (b:G Bool) (t u:G O):G O:=λenv=>b env >>= λk=>if k=true then t env else u env
noncomputable def toS:R->M S
 | .d x=>.ok (.d x)
 | .l .fresh xs=>.ok (.own xs)
 | .l .bor xs=>.ok (.bor xs)
 | .l .own _=>.bad
 | .mb ks vs=>.ok (.db ks vs)
 | .mf ks vs=>.ok (.dk ks vs)
 | .mo _ _=>.bad
 | .ln xs=>.ok (.ow2 xs)
theorem dF {α:Type}{l:List (Option α)}{i j:Nat}{x y:α}(h:(l.set i (some x))[j]?=some (some y)):(j=i/\i < l.length/\y=x)\/(j≠i/\l[j]?=some (some y)):=by
 by_cases e:j=i
 ·subst e;have hj:j < l.length:=by have:=(GC.mp h).1;simpa using this
  rw [G_ hj] at h;cases h;exact .inl ⟨rfl,hj,rfl⟩
 ·rw [G0 (Jt e)] at h;exact .inr ⟨e,h⟩
theorem SR.setD {J H:Hp}{σ:L2.St}{env:Ev}(sr:SR c J H σ env){i:Nat}{x:S}{v:V}(h:lG c J H x v) (hx:∀xs,x≠mS xs):SR c J H (σ.set i (some v)) (env.set i (some x)):=by
 refine ⟨sr.hp,by simpa using sr.len,λj y q=>?_,λj k xs ys w hjk q1 q2 q3 q4=>?_,sr.sp2.keep λk xs q=>?_⟩
 ·rcases dF q with ⟨rfl,hl,rfl⟩ | ⟨hj,q⟩
  ·exact ⟨v,by rw [G_ (by rw [<-sr.len];exact hl)],h⟩
  ·obtain ⟨w,h1,h2⟩:=sr.at_ j y q;exact ⟨w,by rw [G0 (Jt hj)];exact h1,h2⟩
 ·rcases dF q1 with ⟨rfl,hl,e⟩ | ⟨hj,q1⟩
  ·exact hx xs e.symm
  ·rcases dF q2 with ⟨rfl,hl,e⟩ | ⟨hk,q2⟩
   ·exact hx ys e.symm
   ·rw [G0 (Jt hj)] at q3;rw [G0 (Jt hk)] at q4;exact sr.sep j k xs ys w hjk q1 q2 q3 q4
 ·rcases dF q with ⟨_,_,e⟩ | ⟨hk,q⟩
  ·exact (hx (.nst xs) e.symm).elim
  ·exact ⟨⟨xs,q⟩,kN hk⟩
theorem SR.setM {J He:Hp}{σ:L2.St}{env:Ev}(sr:SR c J He σ env){J1 H1:Hp}(e1:Ext J He J1 H1){i:Nat}{y:Mn}{p:GF}(h3:He p=none) (h:lG c J1 H1 (mS y) (.ref p)) (hn:∀xs,y=.nst xs->∀vs,H1 p=some (.lst vs)->∀u∈vs,∃b,u=.ref b/\He b=none:=by exact λ_ z=>nomatch z):SR c J1 H1 (σ.set i (some (.ref p))) (env.set i (some (mS y))):=by
 have sr1:=sr.ext e1;have old:∀(j:Nat) (ys:Mn),env[j]?=some (some (mS ys))->σ[j]?≠some (some (.ref p)):=λj ys qj z=>by obtain ⟨a,k1,k2,_⟩:=sr.mine qj;rw [z] at k1;cases k1;exact k2 h3
 have new:∀(j:Nat) (xs ys:List D),i < env.length->j≠i->mS y=.ow2 xs->env[j]?=some (some (.ow2 ys))->∀u∈cV H1 (σ.set i (some (.ref p))) i,u∉cV H1 (σ.set i (some (.ref p))) j:=λj xs ys hl hj e q u hu hv=>by
  have hy:y=.nst xs:=by cases y <;> cases e;rfl
  subst hy;obtain ⟨_,vs,rfl',k2,_⟩:=h;cases rfl';rw [iF (G_ (by rw [<-sr.len];exact hl)) k2] at hu;obtain ⟨b,rfl,hb⟩:=hn xs rfl vs k2 u hu;obtain ⟨p',ws,m1,m2,_,_,m3,m4⟩:=sr.nst q;rw [kN hj,iF m1 (e1.h _ _ m2)] at hv;obtain ⟨b',_,e',m5,_⟩:=m3.mem hv;cases e';rw [sr.hp.sub _ _ m5] at hb;cases hb
 refine ⟨sr1.hp,by simpa using sr.len,λj y q=>?_,λj k ys zs w hjk q1 q2 q3 q4=>?_,λj k ys zs hjk q1 q2 u hu=>?_⟩
 ·rcases dF q with ⟨rfl,hl,rfl⟩ | ⟨hj,q⟩
  ·exact ⟨.ref p,by rw [G_ (by rw [<-sr.len];exact hl)],h⟩
  ·obtain ⟨w,k1,k2⟩:=sr1.at_ j y q;exact ⟨w,by rw [G0 (Jt hj)];exact k1,k2⟩
 ·rcases dF q1 with ⟨rfl,hl,e⟩ | ⟨hj,q1'⟩
  ·rcases dF q2 with ⟨rfl,_,_⟩ | ⟨hk,q2⟩
   ·exact hjk rfl
   ·rw [G_ (by rw [<-sr.len];exact hl)] at q3;cases q3;rw [G0 (Jt hk)] at q4;exact old k zs q2 q4
  ·rw [G0 (Jt hj)] at q3;rcases dF q2 with ⟨rfl,hl,e⟩ | ⟨hk,q2⟩
   ·rw [G_ (by rw [<-sr.len];exact hl)] at q4;cases q4;exact old j ys q1' q3
   ·rw [G0 (Jt hk)] at q4;exact sr.sep j k ys zs w hjk q1' q2 q3 q4
 ·rcases dF q1 with ⟨rfl,hl,e⟩ | ⟨hj,q1'⟩
  ·rcases dF q2 with ⟨rfl,_,_⟩ | ⟨hk,q2⟩
   ·exact (hjk rfl).elim
   ·exact new k ys zs hl hk e.symm q2 u hu
  ·rcases dF q2 with ⟨rfl,hl,e⟩ | ⟨hk,q2⟩
   ·exact λhv=>new j zs ys hl hj e.symm q1' u hv hu
   ·rw [kN hj] at hu;rw [kN hk];exact sr1.sp2 j k ys zs hjk q1' q2 u hu
theorem SR.set {J He:Hp}{σ:L2.St}{env:Ev}(sr:SR c J He σ env){J1 H1:Hp}(e1:Ext J He J1 H1) (h:RR c He J1 H1 r v) (q:toS r=.ok x):SR c J1 H1 (σ.set i (some v)) (env.set i (some x)):=by
 have sr1:=sr.ext e1;cases r with
 | d y=>cases q;exact sr1.setD h (λx z=>by cases x <;> cases z)
 | mb _ _=>cases q;exact sr1.setD h (λx z=>by cases x <;> cases z)
 | mf ks vs=>cases q;obtain ⟨p,rfl,h1,h2,h3⟩:=h;exact sr.setM (y:=.inr (ks,vs)) e1 h3 ⟨p,rfl,h1,h2,sr.hp.ent.free h3⟩
 | mo _ _=>cases q
 | ln xs=>
  cases q;obtain ⟨p,vs,rfl,h1,h2,h3,h4⟩:=h;refine sr.setM (y:=.nst xs) e1 h3 ⟨p,vs,rfl,h1,h2,sr.hp.ent.free h3,h4.mono (aM.refl _) λb hb=>⟨sr.hp.ent.free hb,sr.hp.entJ.free (sr.hp.sub.free hb)⟩⟩ λ_ _ ws q u hu=>?_;rw [h1] at q;cases q;obtain ⟨b,_,e,_,hb⟩:=h4.mem hu;exact ⟨b,e,hb⟩
 | l m xs=>
  cases m with
  | own=>cases q
  | bor=>cases q;exact sr1.setD h (λx z=>by cases x <;> cases z)
  | fresh=>
   cases q;obtain ⟨p,vs,rfl,h1,h2,h3,h4⟩:=h;exact sr.setM (y:=.inl xs) e1 h3 ⟨p,vs,rfl,h1,h2,sr.hp.ent.free h3,h4⟩
theorem sC {α:Type}{f:S->M α}{Q:α->Prop}{T:Exc->Prop}(w:b_ (toS x >>= f) Q T):∃d,toS x=.ok d/\b_ (f d) Q T:=by
 cases q:toS x with
 | bad=>rw [q] at w;exact w.elim
 | ok xs=>rw [q] at w;exact ⟨xs,rfl,w⟩
 | exc z=>unfold toS at q;split at q <;> cases q
def aH (i:Nat) (g:G R):G O:=λenv=>g env >>= λr=>toS r >>= λx=>.ok (.nx (env.set i (some x)))
abbrev GT:=D->Ev->M Ev
def KO (env:Ev) (σ:L2.St) (e:Ev) (σ':L2.St):Prop:=∀(j:Nat) (xs:Mn),e[j]?=some (some (mS xs))->env[j]?=some (some (mS xs))/\σ'[j]?=σ[j]?
theorem KO.refl:KO env σ env σ:=λ_ _ h=>⟨h,rfl⟩
theorem KO.trans (a:KO env σ e1 s1) (b:KO e1 s1 e2 s2):KO env σ e2 s2:=λj xs h=>by obtain ⟨h1,h2⟩:=b j xs h;obtain ⟨h3,h4⟩:=a j xs h1;exact ⟨h3,h2.trans h4⟩
def tT (c:C) (g:GT):TG:=λv σ H Q=>∃J env d,SR c J H σ env/\Rep c.K J d v/\b_ (g d env) (λe=>∀σ',SR c J H σ' e->KO env σ e σ'->Q σ' H) c.T
def yj (X:Cx) (c:C) (tg:Hl) (g:GT):Prop:=PG X tg (tT c g)
abbrev lV:=List D->Ev->M Ev
def Ez (c:C) (g:lV):n_:=λvs σ H Q=>∃J env ds,SR c J H σ env/\aD c.K J ds vs/\b_ (g ds env) (λe=>∀σ',SR c J H σ' e->KO env σ e σ'->Q σ' H) c.T
def DF (X:Cx) (c:C) (tgs:List Hl) (g:lV):Prop:=pO X tgs (Ez c g)
theorem yI {t t':TG}(h:PG X e t) (k:∀v σ H Q,t' v σ H Q->t v σ H Q):PG X e t':=λF3 s σ H v u Q I r q=>h F3 s σ H v u Q I r (k v σ H Q q)
theorem vA {X:Cx}{e:List Hl}{t t':n_}(h:pO X e t) (k:∀v σ H Q,t' v σ H Q->t v σ H Q):pO X e t':=λF3 s σ H vs us Q I r q=>h F3 s σ H vs us Q I r (k vs σ H Q q)
def aS (i:Nat):GT:=λd env=>.ok (env.set i (some (.d d)))
noncomputable def gM:lV:=λds env=>match ds with
 | []=>.ok env
 | _=>.bad
noncomputable def cF (t:GT) (u:lV):lV:=λds env=>match ds with
 | d::r=>t d env >>= λe=>u r e
 | []=>.bad
noncomputable def gq (n:Nat) (u:lV):GT:=λd env=>match d with
 | .tup ds=>if ds.length=n then u ds env else .bad
 | _=>.bad
def p9 (t:GT) (g:G R):G O:=λenv=>g env >>= λr=>toD r >>= λd=>t d env >>= λe=>.ok (.nx e)
theorem zF {t:GT}(h:PD X c e g) (ht:yj X c tg t)
  (hq:PS X (.Assign [tg] e pos) (xZ (tD c g) (tT c t))):Dq X c (.Assign [tg] e pos) (p9 t g):=kR hq λE σ H ⟨J,env,sr,w⟩=>by refine ⟨J,env,sr,aE (aI w) λr wr v J1 H1 e1 r1=>?_⟩;obtain ⟨d,q,wr⟩:=kW wr;obtain ⟨J1',e1',s1,rd⟩:=freeze e1 r1 q;refine ⟨J1',env,d,sr.ext e1',rd,aE (aI wr) λe2 w2 σ' sr' _=>?_⟩;exact w2 σ' J1' H1 e1'.j sr'
noncomputable def Walk (c:C) (It:It) (ds:List D) (J1:Hp) (U:Hp->Hp->Prop):Prop:=∀(i:Nat) (J H:Hp),HI c J H->U J H->
 (ds.length<=i->It.stop i H)/\∀d,ds[i]?=some d->It.go i H/\∀x H2,It.yld i H x H2->∃J2,Ext J H J2 H2/\Rep c.K J2 d x
noncomputable def tI (c:C) (g:G (List D)):TI:=λσ H Q=>∃J env,SR c J H σ env/\b_ (g env) (λds=>∀It J1 H1,Ext J H J1 H1->Walk c It ds J1 (λJ' _=>aM J1 J')->Q It H1) c.T
def El (X:Cx) (c:C) (tg F7:Hl) (g:G (List D)):Prop:=PI X tg F7 (tI c g)
theorem mV {X:Cx}{tg it:Hl}{t t':TI}(h:PI X tg it t) (k:∀σ H Q,t' σ H Q->t σ H Q):PI X tg it t':=λF3 s σ H Q I q=>h F3 s σ H Q I (k σ H Q q)
noncomputable def eK (t:GT) (u:G O):List D->Ev->M O
 | [],env=>.ok (.nx env)
 | d::ds,env=>t d env >>= λe=>u e >>= λo=>match o with
  | .nx e=>eK t u ds e
  | .ct e=>eK t u ds e
  | .bk e=>.ok (.nx e)
  | .rt r=>.ok (.rt r)
def fm (g:G (List D)) (t:GT) (u:G O):G O:=λenv=>g env >>= λds=>eK t u ds env
noncomputable def EC (g:G R):G (List D):=λenv=>g env >>= λr=>match r with
 | .d (.tup xs)=>.ok xs
 | _=>.bad
theorem kF {J1:Hp}{a:GF}{vs:List V}{ds:List D}(h:cg c.K J1 a vs\/cg c.K c.H0 a vs) (hs:aD c.K J1 ds vs):Walk c (ye c.K a) ds J1 (λJ' _=>aM J1 J'):=by intro i J H hp u;have h':cg c.K H a vs:=h.elim (λh=>hp.sub.seq (u.seq h)) λh=>hp.ent.seq h;refine ⟨λhl=>⟨vs,h',by rw [<-hs.length];exact hl⟩,λd hd=>?_⟩;obtain ⟨v,h1,h2⟩:=hs.get hd;refine ⟨⟨vs,v,h',h1⟩,λx H2 ⟨e,hy⟩=>?_⟩;subst e;have:=hy vs h';rw [h1] at this;cases this;exact ⟨J,Ext.refl hp.sub,h2.mono u⟩
def cH (lo:Int) (n:Nat):List D:=(Gg n).map λ(k:Nat)=>.int (lo + (k:Int))
theorem uo {J1:Hp}{lo:Int}{n:Nat}{Ut:Hp->Hp->Prop}:Walk c (yf lo n) (cH lo n) J1 Ut:=by
 intro i J H hp u;refine ⟨λhl=>(show n<=i by simpa [cH] using hl),λd hd=>?_⟩;have hi:i < n:=by have:=(GC.mp hd).1;simpa [cH] using this
 have hd':d=.int (lo + i):=by unfold cH at hd;rw [GK,List.getElem?_range hi] at hd;exact (Iq hd).symm
 subst hd';exact ⟨hi,λx H2 ⟨e,hx⟩=>by subst e hx;exact ⟨J,Ext.refl hp.sub,.int _⟩⟩
noncomputable def cA (gs:G (List R)):G (List D):=λenv=>gs env >>= λrs=>match rs with
 | [.d (.int j)]=>if below 4611686018427387904 j then .ok (cH 0 j.toNat) else .bad
 | _=>.bad
noncomputable def Ew (c:C) (g:G (List D)):TI:=λσ H Q=>∃J env,SR c J H σ env/\b_ (g env) (λds=>∀It J1 H1,Ext J H J1 H1->Walk c It ds J1 (λJ' H'=>aM J1 J'/\aM H1 H')->Q It H1) c.T
def Ds (X:Cx) (c:C) (tg F7:Hl) (g:G (List D)):Prop:=PI X tg F7 (Ew c g)
end
section
variable {X:Cx}{c:C}{e a b tg:Hl}{es:List Hl}{ga gb g:G R}{pos:Pos}
theorem SR.updM {J H:Hp}{σ:L2.St}{env:Ev}(sr:SR c J H σ env){i:Nat}{x y:Mn}{p:GF}{o:HO}(hi:env[i]?=some (some (mS x))) (hs:σ[i]?=some (some (.ref p))) (hJ:J p=none) (h0:c.H0 p=none)
  (h:lG c J (L2.upd H p o) (mS y) (.ref p)) (hy:∀xs,y≠.nst xs:=by exact λ_ z=>nomatch z):SR c J (L2.upd H p o) σ (env.set i (some (mS y))):=by
 refine ⟨⟨λb o q=>?_,λb o q=>?_,sr.hp.entJ,sr.hp.frz⟩,by simpa using sr.len,λj y q=>?_,λj k ys zs w hjk q1 q2 q3 q4=>?_,sr.sp2.keep λk xs q=>?_⟩
 ·have:b≠p:=λz=>by rw [z,hJ] at q;cases q
  rw [bf this];exact sr.hp.sub b o q
 ·have:b≠p:=λz=>by rw [z,h0] at q;cases q
  rw [bf this];exact sr.hp.ent b o q
 ·rcases dF q with ⟨rfl,hl,rfl⟩ | ⟨hj,q⟩
  ·exact ⟨.ref p,hs,h⟩
  ·obtain ⟨w,k1,k2⟩:=sr.at_ j y q;refine ⟨w,k1,?_⟩;have hne:∀(z:Mn) p',y=mS z->w=.ref p'->p'≠p:=λz p' e ew ep=>sr.sep i j x z (.ref p) (Jt hj) hi (e▸q) hs (ep▸ew▸k1);cases y with
   | d x=>exact k2
   | bor zs=>exact k2
   | db _ _=>exact k2
   | fn _=>exact k2
   | dk ks zs=>
    obtain ⟨p',rfl,⟨us,ws,ep,m1,mr⟩,m2⟩:=k2;exact ⟨p',rfl,⟨us,ws,ep,by rw [bf (hne (.inr (ks,zs)) p' rfl rfl)];exact m1,mr⟩,m2⟩
   | own zs=>
    obtain ⟨p',us,rfl,m1,m2,m3,m4⟩:=k2;exact ⟨p',us,rfl,by rw [bf (hne (.inl zs) p' rfl rfl)];exact m1,m2,m3,m4⟩
   | ow2 zs=>
    obtain ⟨p',us,rfl,m1,m2,m3,m4⟩:=k2;exact ⟨p',us,rfl,by rw [bf (hne (.nst zs) p' rfl rfl)];exact m1,m2,m3,m4⟩
 ·have f:∀(k:Nat) (ys:Mn),(env.set i (some (mS y)))[k]?=some (some (mS ys))->∃ys',env[k]?=some (some (mS ys')):=λk ys q=>by
   rcases dF q with ⟨rfl,_,_⟩ | ⟨_,q⟩
   ·exact ⟨x,hi⟩
   ·exact ⟨ys,q⟩
  obtain ⟨ys',r1⟩:=f j ys q1;obtain ⟨zs',r2⟩:=f k zs q2;exact sr.sep j k ys' zs' w hjk r1 r2 q3 q4
 ·rcases dF q with ⟨rfl,_,e⟩ | ⟨hk,q⟩
  ·exact (hy xs (by cases y <;> cases e;rfl)).elim
  ·obtain ⟨p',vs,m1,m2,_,_,_,m3⟩:=sr.nst q;have hne:p'≠p:=λe=>sr.sep i k x (.nst xs) (.ref p) (Jt hk) hi q hs (e▸m1);exact ⟨⟨xs,q⟩,(iF m1 (by rw [bf hne];exact m2)).trans m3.symm⟩
theorem SR.upd {J H:Hp}{env:Ev}(sr:SR c J H σ env) (hi:env[i]?=some (some (.own xs))) (hs:σ[i]?=some (some (.ref p))) (hH:H p=some (.lst vs)) (hJ:J p=none) (h0:c.H0 p=none)
 (h:aD c.K J xs' vs'):SR c J (L2.upd H p (.lst vs')) σ (env.set i (some (.own xs'))):=sr.updM (x:=.inl xs) (y:=.inl xs') hi hs hJ h0 ⟨p,vs',rfl,cC,hJ,h0,h⟩
noncomputable def c_ (i:Nat) (g:G R):G O:=λenv=>match env[i]? with
 | some (some (.own xs))=>g env >>= λr=>toD r >>= λd=>if xs.length < sizeLine then .ok (.nx (env.set i (some (.own (xs++[d]))))) else .bad
 | _=>.bad
noncomputable def bq:R->S
 | .d x=>.d x
 | .l _ xs=>.bor xs
 | .mo ks vs=>.db ks vs
 | .mb ks vs=>.db ks vs
 | .mf ks vs=>.db ks vs
 | .ln xs=>.bor xs
noncomputable def iR (K:Gd) (J H:Hp):List S->List V->Prop
 | [],vs=>vs=[]
 | s::ss,vs=>∃v us,vs=v::us/\(match s with
  | .d x=>Rep K J x v
  | .bor xs=>∃a ws,v=.ref a/\cg K H a ws/\aD K J xs ws
  | .db ks ws=>∃a,v=.ref a/\fJ K J H a ks ws
  | .fn x=>∃f,v=.ref f/\Ho K GL x=some (some (.ref f))
  | _=>False)/\iR K J H ss us
theorem iR.length {K:Gd}{J H:Hp}:∀{ss:List S}{vs:List V},iR K J H ss vs->vs.length=ss.length
 | [],_,h=>by cases h;rfl
 | _::_,_,⟨_,_,h,_,h2⟩=>by subst h;exact congrArg (· + 1) h2.length
theorem iR.get {K:Gd}{J H:Hp}:∀{ss:List S}{vs:List V}{i:Nat}{s:S},iR K J H ss vs->ss[i]?=some s->∃v,vs[i]?=some v/\(match s with
  | .d x=>Rep K J x v
  | .bor xs=>∃a ws,v=.ref a/\cg K H a ws/\aD K J xs ws
  | .db ks ws=>∃a,v=.ref a/\fJ K J H a ks ws
  | .fn x=>∃f,v=.ref f/\Ho K GL x=some (some (.ref f))
  | _=>False)
 | [],_,_,_,_,e=>by simp at e
 | _::_,_,0,_,⟨v,us,h,h1,h2⟩,e=>by simp at e;subst e;subst h;exact ⟨v,rfl,h1⟩
 | _::_,_,i + 1,s,⟨v,us,h,h1,h2⟩,e=>by subst h;obtain ⟨v,k1,k2⟩:=iR.get (i:=i) (s:=s) h2 (by simpa using e);exact ⟨v,by simpa using k1,k2⟩
noncomputable def FR (K:Gd) (H J' H':Hp):R->V->Prop
 | .d x,v=>Rep K J' x v
 | .l _ xs,v=>∃a vs,v=.ref a/\H' a=some (.lst vs)/\J' a=none/\H a=none/\aD K J' xs vs
 | .mf ks vs,v=>∃a,v=.ref a/\fJ K J' H' a ks vs/\J' a=none/\H a=none
 | .ln xs,v=>∃a vs,v=.ref a/\H' a=some (.lst vs)/\J' a=none/\H a=none/\NR K J' (λb=>H b=none) xs vs
 | _,_=>False
noncomputable def jJ (K:Gd) (n:Nat) (F:List S->M R):Sp:=λvs H Q _=>∃J as,aM J H/\as.length=n/\iR K J H as vs/\b_ (F as) (λr=>∀v J' H',Ext J H J' H'->FR K H J' H' r v->Q v H') (λ_=>False)
noncomputable def fin:M O->M R
 | .ok (.rt r)=>.ok r
 | .ok (.nx _)=>.ok (.d .non)
 | .exc x=>.exc x
 | _=>.bad
def aF (N:List Str) (as:List S):Ev:=as.map some++GQ (N.length - as.length) none
theorem oV {N:List Str}{as:List S}{i:Nat}{x:S}(h:(aF N as)[i]?=some (some x)):as[i]?=some x:=by
 unfold aF at h;by_cases hi:i < as.length
 ·rw [IZ (by simpa using hi),GK] at h;cases q:as[i]? with
  | none=>rw [q] at h;cases h
  | some y=>rw [q] at h;cases h;rfl
 ·rw [HG (by simpa using hi),JV] at h;split at h <;> cases h
theorem xY {N:List Str}{vs:List V}{i:Nat}{v:V}(h:vs[i]?=some v):(L2.start N vs)[i]?=some (some v):=by unfold L2.start;have hi:i < vs.length:=(GC.mp h).1;rw [IZ (by simpa using hi),GK,h];rfl
theorem xX {K:Gd}{J H:Hp}{T:Exc->Prop}{N:List Str}{as:List S}{vs:List V}(hs:aM J H) (h:iR K J H as vs):SR ⟨K,H,J,T⟩ J H (L2.start N vs) (aF N as):=by
 have own:∀(i:Nat) (xs:Mn),(aF N as)[i]?≠some (some (mS xs)):=λi xs q=>by obtain ⟨v,_,k⟩:=h.get (oV q);cases xs <;> exact k
 refine ⟨⟨hs,aM.refl H,aM.refl J,λ_ _ q=>q⟩,?_,λi x q=>?_,λi j xs ys v _ q=>absurd q (own i xs),λi j xs ys _ q=>absurd q (own i (.nst xs))⟩
 ·unfold aF L2.start;rw [GR,GR,Gn,Gn,G7,G7,h.length]
 ·obtain ⟨v,k1,k2⟩:=h.get (oV q);refine ⟨v,xY k1,?_⟩;cases x with
  | d y=>exact k2
  | own y=>exact k2.elim
  | bor y=>exact k2
  | dk _ _=>exact k2.elim
  | db _ _=>exact k2
  | fn _=>exact k2
  | ow2 _=>exact k2.elim
abbrev rM (P:GG) (w:Hi) (K:Gd) (mg:Str->Option Ge) (base:Ij) (N:List Str) (F9:Str) (sc:K3) (f:GF) (cd:Ge) (A:G3) (outer:List Env) (s:Gf) (H:Hp) (E:XK):Cx:=(lM i6 P w K mg base N F9 sc f cd A outer s H E).nox
theorem AW {P:GG}{w:Hi}{K:Gd}{mg:Str->Option Ge}{base:Ij}{x F9:Str}{st:KR}{f:GF}{fd:HM}{N ps:List Str}{k:Nat}{Fm:List S->M R}(F:ir K x F9 st f fd) (Sc:eB N ps (aV st)){gB:G O}
  (hb:∀(cdv:Ge) (A:G3) (outer:List Env) (s:Gf) (H:Hp) (E:XK) (J:Hp) (T:Exc->Prop),c8 k (A.deeper (Li F9 (aV st) s.heap.objs.size f cdv))->
   gU (rM P w K mg base N F9 (aV st) f cdv A outer s H E) (b6 st) (tW ⟨K,H,J,T⟩ gB))
  (hF:∀as r,as.length=ps.length->Fm as=.ok r->fin (gB (aF N as))=.ok r):f6 P w K mg base i6 (k + 1) f fd ps (jJ K ps.length Fm):=by
 refine F.ok Sc (λvs H Q E h=>?_) (λcdv A outer s H vs Q E hr h=>?_)
 ·obtain ⟨J,as,h1,h2,h3,h4⟩:=h;rw [h3.length,h2]
 ·obtain ⟨J,as,h1,h2,h3,h4⟩:=h;refine ⟨_,hb cdv A outer s H E J (λ_=>False) hr,J,aF N as,xX h1 h3,?_⟩;cases q:Fm as with
  | bad=>rw [q] at h4;exact h4.elim
  | exc x=>rw [q] at h4;exact h4.elim
  | ok r=>
   rw [q] at h4;have z:=hF as r h2 q;have ext:∀{J' H':Hp},HI ⟨K,H,J,λ_=>False⟩ J' H'->Ext J H J' H':=λhp=>⟨hp.ent,hp.entJ,hp.sub,hp.frz⟩;cases qg:gB (aF N as) with
   | bad=>rw [qg] at z;cases z
   | exc x=>rw [qg] at z;cases z
   | ok o=>
    rw [qg] at z;cases o with
    | bk _=>cases z
    | ct _=>cases z
    | nx env=>cases z;exact λσ' J' H' _ sr=>h4 .non J' H' (ext sr.hp) .non
    | rt r'=>
     cases z;exact λv J' H' _ hp rf=>h4 v J' H' (ext hp) (by
      cases r with
      | d x=>exact rf
      | l m xs=>exact rf
      | mo _ _=>exact rf
      | mf _ _=>exact rf
      | ln _=>exact rf
      | mb _ _=>exact rf)
theorem uU {P:GG}{w:Hi}{K:Gd}{mg:Str->Option Ge}{base:Ij}{x F9:Str}{st:KR}{f:GF}{fd:HM}{N ps:List Str}{k:Nat}{Fm:List S->M R}(F:ir K x F9 st f fd) (Sc:eB N ps (aV st)){gB:G O}
  (hb:∀(cdv:Ge) (A:G3) (outer:List Env) (s:Gf) (H:Hp) (E:XK) (J:Hp) (T:Exc->Prop),c8 k (A.deeper (Li F9 (aV st) s.heap.objs.size f cdv))->
   Au (rM P w K mg base N F9 (aV st) f cdv A outer s H E) ⟨K,H,J,T⟩ (b6 st) gB)
  (hF:∀as r,as.length=ps.length->Fm as=.ok r->fin (gB (aF N as))=.ok r):f6 P w K mg base i6 (k + 1) f fd ps (jJ K ps.length Fm):=AW F Sc (λcdv A outer s H E J T hr=>qB (hb cdv A outer s H E J T hr) λ_ _ _ q=>Dd q) hF
noncomputable def bC:R->R
 | .d x=>.d x
 | .l _ xs=>.l .fresh xs
 | .mo ks vs=>.mo ks vs
 | .mb ks vs=>.mb ks vs
 | .mf ks vs=>.mf ks vs
 | .ln xs=>.ln xs
noncomputable def aC (n:Nat) (F:List S->M R):List R->M R:=λrs=>if rs.length=n then (match F (rs.map bq) with
 | .ok r=>.ok (bC r)
 | _=>.bad) else .bad
theorem iu.args {He J H:Hp}(hp:HI c J H):∀{rs:List R}{vs:List V},iu c He J H rs vs->iR c.K J H (rs.map bq) vs
 | [],_,h=>h
 | r::rs,_,⟨v,us,h,h1,h2⟩=>by
  refine ⟨v,us,h,?_,iu.args hp h2⟩;cases r with
  | d x=>exact h1
  | l m xs=>exact RR.list hp h1 rfl
  | mo _ _=>obtain ⟨a,h1,h2,_⟩:=h1;exact ⟨a,h1,h2⟩
  | mb _ _=>obtain ⟨a,h1,h2⟩:=h1;exact ⟨a,h1,h2.mono (aM.refl _) hp.ent⟩
  | mf _ _=>obtain ⟨a,h1,h2,_⟩:=h1;exact ⟨a,h1,h2⟩
  | ln _=>obtain ⟨a,vs,h1,h2,_,_,h5⟩:=h1;exact ⟨a,vs,h1,.inl (.inl h2),h5.reps⟩
theorem CU {F:List S->M R}{J H J1 H1:Hp}{Q:VK}{as:List S}{T:Exc->Prop}(hT:c.K=X.K) (e1:Ext J H J1 H1) (ar:iR c.K J1 H1 as vs) (hl:as.length=n)
 (wr:b_ (match F as with
 | .ok r=>.ok (bC r)
 | _=>.bad) (λr=>∀v J' H',Ext J H J' H'->RR c H J' H' r v->Q v H') T):jJ X.K n F (vs++[]) H1 Q E0:=by
 rw [hT] at ar;refine ⟨J1,as,e1.sub,hl,by rw [HL];exact ar,?_⟩;cases q:F as with
 | bad=>rw [q] at wr;exact wr
 | exc x=>rw [q] at wr;exact wr
 | ok r=>
  rw [q] at wr;intro v J' H' e2 fr;refine wr v J' H' (e1.trans e2) ?_;cases r with
  | d y=>exact (show Rep c.K J' y v from hT▸fr)
  | mo _ _=>exact fr.elim
  | mb _ _=>exact fr.elim
  | mf _ _=>obtain ⟨a,h1,h2,h3,h4⟩:=fr;exact ⟨a,h1,hT▸h2,h3,e1.h.free h4⟩
  | ln _=>obtain ⟨a,us,h1,h2,h3,h4,h5⟩:=fr;exact ⟨a,us,h1,h2,h3,e1.h.free h4,hT▸h5.mono (aM.refl _) λ_ h=>e1.h.free h⟩
  | l m ys=>
   obtain ⟨a,us,h1,h2,h3,h4,h5⟩:=fr;exact ⟨a,us,h1,h2,h3,e1.h.free h4,hT▸h5⟩
theorem wJ {n:Nat}{F:List S->M R}{gs:G (List R)}(hT:c.K=X.K):∀σ H Q,tD c (gN (aC n F) gs) σ H Q->yM (jJ X.K n F) [] E0 (tA c gs) σ H Q:=λσ H Q ⟨J,env,sr,w⟩=>by
 refine ⟨J,env,sr,aE (aI w) λrs wr vs J1 H1 e1 r1=>?_⟩;unfold aC at wr;split at wr
 ·rename_i hl;exact CU hT e1 (r1.args (sr.hp.ext e1)) (by simpa using hl) wr
 ·exact wr.elim
theorem zG {F:List S->M R}{gs:G (List R)}(G:f6 X.prog X.w X.K X.mg X.base i6 k f fd ps (jJ X.K n F)) (hr:c8 k X.A) (hm:X.mg x=some (.ref f)) (hk:Jq X.K (.ref f)=true)
 (hb:Binds X.K fd ps []) (ha:yi X c (e::es) gs) (hT:c.K=X.K:=by rfl) (hg:Gl X x:=by rfl) (hdb:(x == ("__debug__":Str))=false:=by decide) (he:GA (e::es) X.env=(false,eval e X.env)::GA es X.env:=by rfl)
 (hpl:(JG pos (GA es X.env)).any (·.1)=false:=by rfl):PD X c (.Call (.Name x p) (e::es) [] pos) (gN (aC n F) gs):=
 gn (zJ (E:=E0) G hr hg hm hk hb .nil Cz ha hdb he hpl) (wJ hT)
end
noncomputable def dH (cells:List (Str×GF)):List (Str×IC)->List (Str×GF)->Option (List (Str×GF))
 | [],cs=>some cs
 | (n,k)::r,cs=>if k == .free then (match cells.lookup n with
  | some a=>dH cells r ((n,a)::cs)
  | none=>none) else dH cells r cs
theorem iS {env:Env}:∀(names:List (Str×IC)) (cs cl:List (Str×GF)),dH env.cells names cs=some cl->
  (forIn names cs λ(x:Str×IC) (r:List (Str×GF))=>(if (x.2 == .free)=true then do let a <-cellOf env x.1;pure (IK ((x.1,a)::r)) else pure (IK r):Sem (ForInStep (List (Str×GF)))))=(pure cl:Sem (List (Str×GF)))
 | [],cs,cl,h=>by cases h;rfl
 | (n,k)::r,cs,cl,h=>by
  unfold dH at h;rw [L7];cases hk:(k == Hy) with
  | true=>
   rw [hk,if_pos rfl] at h;cases hc:env.cells.lookup n with
   | none=>rw [hc] at h;cases h
   | some a=>
    rw [hc] at h;have e:cellOf env n=pure a:=by unfold cellOf;rw [hc]
    simp only [hk,if_true,e];exact iS r ((n,a)::cs) cl h
  | false=>
   rw [hk,if_neg (by decide)] at h;simp only [hk];exact iS r cs cl h
theorem pD {F0:K3}{env:Env}{cl:List (Str×GF)}(h:dH env.cells F0.names []=some cl):closureFor F0 env=pure cl:=by have q:=iS (env:=env) F0.names [] cl h;unfold closureFor;show ((forIn F0.names [] λ(x:Str×IC) (r:List (Str×GF))=>(if (x.2 == .free)=true then do let a <-cellOf env x.1;pure (IK ((x.1,a)::r)) else pure (IK r):Sem (ForInStep (List (Str×GF))))) >>= λz=>pure z)=pure cl;rw [q];rfl
theorem fj {cells:List (Str×GF)}:∀(names:List (Str×IC)) (cs cl:List (Str×GF)),dH cells names cs=some cl->(∀x c,cs.lookup x=some c->cells.lookup x=some c)->
  (∀x c,cl.lookup x=some c->cells.lookup x=some c)/\(∀x,((cs.lookup x).isSome=true\/(x,Hy)∈names)->(cl.lookup x).isSome=true)
 | [],cs,cl,h,k=>by cases h;exact ⟨k,λx hx=>hx.elim id λz=>by cases z⟩
 | (n,kd)::r,cs,cl,h,k=>by
  unfold dH at h;cases hk:(kd == Hy) with
  | true=>
   rw [hk,if_pos rfl] at h;cases hc:cells.lookup n with
   | none=>rw [hc] at h;cases h
   | some a=>
    rw [hc] at h;obtain ⟨h1,h2⟩:=fj r ((n,a)::cs) cl h (λx c q=>by
     rw [HN] at q;cases e:x == n with
     | true=>
      rw [e] at q;cases q;have:x=n:=by simpa using e
      rw [this];exact hc
     | false=>rw [e] at q;exact k x c q)
    refine ⟨h1,λx hx=>h2 x ?_⟩;by_cases e:x=n
    ·left;subst e;rw [HN];simp
    ·have e':(x == n)=false:=by simpa using e
     rcases hx with hx | hx
     ·left;rw [HN,e'];exact hx
     ·right;rcases Gz.mp hx with z | z
      ·cases z;exact absurd rfl e
      ·exact z
  | false=>
   rw [hk,if_neg (by decide)] at h;obtain ⟨h1,h2⟩:=fj r cs cl h k;refine ⟨h1,λx hx=>h2 x ?_⟩;rcases hx with hx | hx
   ·exact .inl hx
   ·rcases Gz.mp hx with z | z
    ·cases z;simp at hk
    ·exact .inr z
section
variable {X:Cx}
def cN (X:Cx) (own:List Str) (cap:List Nat):List Str:=own++cap.map λ(j:Nat)=>(X.N[j]?).getD ("":Str)
noncomputable def AQ (X:Cx) (own:List Str) (cap:List Nat) (F0:K3) (cl:List (Str×GF)) (C:GF) (s:Gf) (H:Hp) (fp:List GF):Cx where
 prog:=X.prog
 w:=X.w
 K:=X.K
 mg:=X.mg
 base:=X.base
 A:=X.A
 N:=cN X own cap
 s₀:=s
 H₀:=H
 env:=compEnvC F0 cl C X.env
 outer:=X.stack
 stack:=X.stack
 ex:=fp
 fn:=λ_=>false
 calm:=X.calm
 pn:=[]
 xe:=λ_ _=>False
noncomputable def kI (X:Cx) (cap:List Nat):Bool:=cap.all λj=>match X.N[j]? with
 | some x=>(match X.env.scope.names.lookup x with
  | some .cell=>true
  | some .free=>true
  | _=>false)
 | none=>false
theorem qF {F0:K3}(hc:∀y∈F0.names,y.2≠.cell):∀{x:Str},((relabel F0 env).names.lookup x=some .cell\/(relabel F0 env).names.lookup x=some .free)->(x,Hy)∈F0.names:=by
 unfold relabel;have main:∀(names:List (Str×IC)),(∀y∈names,y.2≠.cell)->∀x,((names.map λ(n,k)=>if (k == Hy && env.scope.kind == .function && env.kindOf n == some .cell) then (n,JY) else (n,k)).lookup x=some .cell\/
   (names.map λ(n,k)=>if (k == Hy && env.scope.kind == .function && env.kindOf n == some .cell) then (n,JY) else (n,k)).lookup x=some .free)->(x,Hy)∈names:=by
  intro names
  induction names with
  | nil=>intro _ x h;simp at h
  | cons p r ih=>
   obtain ⟨n,k⟩:=p;intro hc x h;rw [Ht] at h;simp only at h;by_cases hx:x=n
   ·subst hx;have hk:k≠.cell:=hc (x,k) Gs;have:k=.free:=by
     by_cases q:(k == Hy && env.scope.kind == .function && env.kindOf x == some .cell)=true
     ·rw [Gw,Gw] at q;simpa using q.1.1
     ·rw [if_neg q,HN] at h;simp at h;rcases h with h | h
      ·exact absurd h hk
      ·exact h
    subst this;exact Gs
   ·have hx':(x == n)=false:=by simpa using hx
    refine Gp _ (ih (λy hy=>hc y (Gp _ hy)) x ?_);have red:∀(q:Str×IC) (l:List (Str×IC)),q.1=n->Py x (q::l)=Py x l:=λq l hq=>by obtain ⟨q1,q2⟩:=q;simp only at hq;subst hq;rw [HN,hx']
    have hq:(if (k == Hy && env.scope.kind == .function && env.kindOf n == some .cell) then (n,JY) else (n,k)).1=n:=by split <;> rfl
    rw [red _ _ hq] at h;exact h
 intro x h;exact main F0.names hc x h
end
section
variable {X:Cx}{c:C}
noncomputable def wB (X:Cx) (c:C) (ifs:List Hl) (g:G Bool):Prop:=
 ∀(F3:List (GF×Obj)) (s:Gf) (σ:L2.St) (H:Hp) (Q:Bool->Hp->Prop),Inv X F3 σ H s->tB c g σ H Q->
  GH (GD X.prog X.w) X.A (forIn ifs true λc r=>if r=true then do let ok <-Ot c X.env (eval c X.env);pure (IK ok) else pure (IK r)) (TP X F3 σ Q) X.xe s
def gk:G Bool:=λ_=>.ok true
noncomputable def dI (gt:GT) (gts:G Bool) (ge:G R):List D->Ev->M (List D)
 | [],_=>.ok []
 | d::ds,env=>gt d env >>= λe=>gts e >>= λk=>if k=true then ge e >>= λr=>toD r >>= λy=>dI gt gts ge ds e >>= λys=>.ok (y::ys) else dI gt gts ge ds e
def cE (n:Nat) (cap:List Nat) (env:Ev):Ev:=GQ n none++cap.map λ(j:Nat)=>(env[j]?).getD none
noncomputable def cG (n:Nat) (cap:List Nat) (gi:G (List D)) (gt:GT) (gts:G Bool) (ge:G R):G R:=λenv=>gi env >>= λds=>if ds.length<=sizeLine then dI gt gts ge ds (cE n cap env) >>= λys=>.ok (.l .fresh ys) else .bad
theorem fP {α:Type}{n:Nat}{cap:List Nat}{env:List (Option α)}{i:Nat}{x:α}(h:(GQ n none++cap.map λ(j:Nat)=>(env[j]?).getD none)[i]?=some (some x)):∃j,n<=i/\cap[i - n]?=some j/\env[j]?=some (some x):=by
 by_cases hi:i < n
 ·rw [IZ (by simpa using hi),JV] at h;split at h <;> cases h
 ·rw [HG (by simpa using hi),G7,GK] at h;cases q:cap[i - n]? with
  | none=>rw [q] at h;cases h
  | some j=>
   rw [q] at h;refine ⟨j,by omega,rfl,?_⟩;have h':(env[j]?).getD none=some x:=Iq h;cases z:env[j]? with
   | none=>rw [z] at h';cases h'
   | some o=>rw [z] at h';exact congrArg some h'
theorem yr {α:Type}{n:Nat}{cap:List Nat}{env:List (Option α)}{i j:Nat}{x:α}(h1:n<=i) (h2:cap[i - n]?=some j) (h3:env[j]?=some (some x)):(GQ n none++cap.map λ(j:Nat)=>(env[j]?).getD none)[i]?=some (some x):=by rw [HG (by simpa using h1),G7,GK,h2];simp [h3]
theorem SR.cap {J H:Hp}{σ:L2.St}{env:Ev}(sr:SR c J H σ env) (n:Nat) (cap:List Nat) (hnd:cap.Nodup):SR c J H (GQ n none++cap.map λ(j:Nat)=>(σ[j]?).getD none) (cE n cap env):=by
 refine ⟨sr.hp,by simp [cE],λi x q=>?_,λi j xs ys v hij q1 q2 q3 q4=>?_,sr.sp2.by (λi=>(cap[i - n]?).getD 0) (λi j xs ys hij q1 q2 z=>?_) λi xs q=>?_⟩
 ·obtain ⟨j,h1,h2,h3⟩:=fP q;obtain ⟨v,k1,k2⟩:=sr.at_ j x h3;exact ⟨v,yr h1 h2 k1,k2⟩
 ·obtain ⟨a,h1,h2,h3⟩:=fP q1;obtain ⟨b,h4,h5,h6⟩:=fP q2;obtain ⟨a',h7,h8,h9⟩:=fP q3;obtain ⟨b',FZ,h11,h12⟩:=fP q4;rw [h2] at h8;cases h8;rw [h5] at h11;cases h11;have hab:a≠b:=λz=>by subst z;have e1:=(GC.mp h2);have e2:=(GC.mp h5);have:=(Jl hnd).mp (e1.2.trans e2.2.symm);omega
  exact sr.sep a b xs ys v hab h3 h6 h9 h12
 ·obtain ⟨a,h1,h2,h3⟩:=fP q1;obtain ⟨b,h4,h5,h6⟩:=fP q2;have e1:=(GC.mp h2);have e2:=(GC.mp h5);rw [h2,h5] at z;have:=(Jl hnd).mp (e1.2.trans ((show a=b from z).trans e2.2.symm));omega
 ·obtain ⟨a,h1,h2,h3⟩:=fP q;obtain ⟨p,vs,m1,m2,_,_,_,m3⟩:=sr.nst h3;rw [h2];exact ⟨⟨xs,h3⟩,(iF (yr h1 h2 m1) m2).trans m3.symm⟩
theorem SR.other {J H:Hp}(sr:SR c J H σ env) (hJ:J p=none) (h0:c.H0 p=none) (hn:∀(j:Nat) (xs:Mn),env[j]?=some (some (mS xs))->σ[j]?≠some (some (.ref p))):SR c J (L2.upd H p o) σ env:=by
 refine ⟨⟨λb u q=>?_,λb u q=>?_,sr.hp.entJ,sr.hp.frz⟩,sr.len,λj y q=>?_,sr.sep,sr.sp2.keep λk xs q=>let ⟨p',vs,m1,m2,_,_,_,m3⟩:=sr.nst q;⟨⟨xs,q⟩,(iF m1 (by rw [bf (show p'≠p from λe=>hn k (.nst xs) q (by rw [<-e];exact m1))];exact m2)).trans m3.symm⟩⟩
 ·have:b≠p:=λz=>by rw [z,hJ] at q;cases q
  rw [bf this];exact sr.hp.sub b u q
 ·have:b≠p:=λz=>by rw [z,h0] at q;cases q
  rw [bf this];exact sr.hp.ent b u q
 ·obtain ⟨w,k1,k2⟩:=sr.at_ j y q;refine ⟨w,k1,?_⟩;cases y with
  | d x=>exact k2
  | bor zs=>exact k2
  | db _ _=>exact k2
  | fn _=>exact k2
  | dk ks zs=>
   obtain ⟨p',rfl,⟨us,ws,ep,m1,mr⟩,m2⟩:=k2;have hne:p'≠p:=λz=>hn j (.inr (ks,zs)) q (z▸k1);exact ⟨p',rfl,⟨us,ws,ep,by rw [bf hne];exact m1,mr⟩,m2⟩
  | own zs=>
   obtain ⟨p',us,rfl,m1,m2,m3,m4⟩:=k2;have hne:p'≠p:=λz=>hn j (.inl zs) q (z▸k1);exact ⟨p',us,rfl,by rw [bf hne];exact m1,m2,m3,m4⟩
  | ow2 zs=>
   obtain ⟨p',us,rfl,m1,m2,m3,m4⟩:=k2;have hne:p'≠p:=λz=>hn j (.nst zs) q (z▸k1);exact ⟨p',us,rfl,by rw [bf hne];exact m1,m2,m3,m4⟩
theorem Ext.other {J H J' H':Hp}(e:Ext J H J' H') (h:H p=none) (hJ:J' p=none):Ext J H J' (L2.upd H' p o):=
 ⟨λb u q=>by rw [bf (dc q h)];exact e.h b u q,e.j,λb u q=>by
  have:b≠p:=λz=>by rw [z,hJ] at q;cases q
  rw [bf this];exact e.sub b u q,e.frz⟩
theorem qW {H:Hp}(x:eT P w H h) (hn:H a=none) (sb:IV a h h'):eT P w H h':=λb u e=>by
 refine (x b u e).stay (λd v hd q=>(sb.2 d ?_).trans q) (λ_ q=>q) λ_ _ q=>q;rintro rfl;rcases hd with rfl | hd
 ·rw [hn] at e;cases e
 ·rw [hn] at hd;cases hd
theorem Eh {F3:List (GF×Obj)}{σ:L2.St}{H:Hp}{s:Gf}{own:List Str}{cap:List Nat}{F0:K3}{cl:List (Str×GF)}{fp:List GF}{h1:Ij}{m:Str->Option Ge}{tk:Nat}(I:Inv X F3 σ H s) (ok:(AQ X own cap F0 cl s.heap.objs.size s H fp).Ok)
  (hcl:dH X.env.cells F0.names []=some cl) (hcell:∀y∈F0.names,y.2≠.cell) (hcap:kI X cap=true) (ES:∀j∈cap,∀x,X.N[j]?=some x->(relabel F0 X.env).names.lookup x≠some .local)
  (hns:h1.Ns s.heap.objs.size m) (old:∀b o,s.heap.get? b=some o->h1.get? b=some o):
  Inv (AQ X own cap F0 cl s.heap.objs.size s H fp) [] (GQ own.length none++cap.map λ(j:Nat)=>(σ[j]?).getD none) H {s with heap:=h1,toks:=tk}:=by
 obtain ⟨m1,m2⟩:=fj F0.names [] cl hcl (λx c h=>by simp at h);refine ⟨ok,rfl,I.bare,Un.kept old,⟨m,hns,λi x v q1 q2 q3=>?_⟩,λx d h=>?_,I.hok.fresh (Gm _),λx d h=>I.freeC x d (m1 x d h),λp hp=>absurd (show p∈([]:List (GF×Obj)) from hp) (by simp),I.hok.kept old,?_⟩
 ·obtain ⟨j,h2,h3,h4⟩:=fP q2;have q1':(own++cap.map λ(j:Nat)=>(X.N[j]?).getD ("":Str))[i]?=some x:=q1;rw [HG (by exact h2),GK,h3] at q1';have hj:j∈cap:=GV h3;have hc:(match X.N[j]? with
   | some x=>(match X.env.scope.names.lookup x with
    | some .cell=>true
    | some .free=>true
    | _=>false)
   | none=>false)=true:=by unfold kI at hcap;exact GW.mp hcap j hj
  cases hx:X.N[j]? with
  | none=>rw [hx] at hc;cases hc
  | some y=>
   rw [NW,hx] at q1';rw [hx] at hc;have e:y=x:=by simpa using q1'
   subst e;have kd:X.env.kindOf y=some .cell\/X.env.kindOf y=some .free:=by
    unfold P5;simp only at hc;split at hc
    ·rename_i z;exact .inl z
    ·rename_i z;exact .inr z
    ·cases hc
   obtain ⟨mX,nX,lX⟩:=I.loc;obtain ⟨u,ru,lu⟩:=lX j y v hx h4 (kd.elim (λz=>.inr (.inl z)) λz=>.inr (.inr z));refine ⟨u,ru,.inr ?_⟩;have kd':(relabel F0 X.env).names.lookup y=some .cell\/(relabel F0 X.env).names.lookup y=some .free:=by
    rcases q3 with z | z | z
    ·exact absurd z (ES j hj y hx)
    ·exact .inl z
    ·exact .inr z
   refine ⟨kd',?_⟩;obtain ⟨d,hd⟩:=Hz.mp (m2 y (.inr (qF hcell kd')));refine ⟨d,hd,?_⟩;rcases lu with ⟨z,_⟩ | ⟨_,d',hd',z⟩
   ·rcases kd with k | k <;> (rw [k] at z;cases z)
   ·have:=m1 y d hd;rw [hd'] at this;cases this;obtain ⟨o,ho,hod⟩:=z;exact ⟨o,old _ _ ho,hod⟩
 ·obtain ⟨v,o,ho,hod⟩:=I.cell x d (m1 x d h);exact ⟨v,o,old _ _ ho,hod⟩
 ·show _=(own++cap.map λ(j:Nat)=>(X.N[j]?).getD ("":Str)).length;simp
noncomputable def uM (X:Cx) (cap:List Nat) (F0:K3):Bool:=cap.all λj=>match X.N[j]? with
 | some x=>!((relabel F0 X.env).names.lookup x == some .local)
 | none=>true
noncomputable def qv:List Nat->Bool
 | []=>true
 | x::r=>!(r.contains x) && qv r
theorem r6:∀{l:List Nat},qv l=true->l.Nodup
 | [],_=>Og
 | x::r,h=>by unfold qv at h;rw [Gw] at h;refine Jx.mpr ⟨λz=>?_,r6 h.2⟩;have:=h.1;simp [z] at this
theorem AB {X:Cx}{H:Hp}{s:Gf}(I:L2.Inv X F3 σ H s) (h:s.heap.objs.size<=T):(T∈X.ex\/X.s₀.heap.objs.size<=T)/\T≠X.env.locals/\(∀x c,X.env.cells.lookup x=some c->c≠T)/\∀p∈X.pn++F3,p.1≠T:=by have ne:∀b,b < s.heap.objs.size->b≠T:=λb hb z=>absurd (Gy (z▸hb) h) (Ik _);refine ⟨.inr (HB I.sz h),(ne _ I.lt).symm,λx c hc=>?_,λp hp=>ne _ (Gx (I.pin p hp).1)⟩;obtain ⟨v,o,hv,_⟩:=I.cell x c hc;exact ne _ (Gx hv)
theorem vq {X:Cx}{H:Hp}{s:Gf}{C:GF}{o0:Obj}(I:L2.Inv X F3 σ H s) (ap:(C∈X.ex\/X.s₀.heap.objs.size<=C)/\C≠X.env.locals/\(∀x c,X.env.cells.lookup x=some c->c≠C)/\∀p∈X.pn++F3,p.1≠C) (hf:H C=none) (sb:IV C s.heap h'):L2.Inv X F3 σ H {s with heap:=h'}:=by
 refine I.call' (ch:=[C]) rfl ⟨λb o hb hn _ hx=>?_,λb o hb hn _ hx=>⟨o.slots,?_⟩,λ_ _ _ n _=>n,λb o hb hx=>⟨o,?_⟩,λ_ _ q=>q,λ_ _ _ q=>q,λ_ ps q=>⟨#[],by rw [q];simp⟩⟩ (λa o ha=>?_) I.bare (λb hb=>by rw [G5.mp hb];exact ap)
 ·exact (sb.2 b λz=>hx (by simp [z])).trans hb
 ·exact (sb.2 b λz=>hx (by simp [z])).trans hb
 ·exact (sb.2 b λz=>hx (by simp [z])).trans hb
 ·refine (I.hok a o ha).stay (λb u hb q=>(sb.2 b λz=>?_).trans q) (λ_ q=>q) λ_ _ q=>q;rcases hb with rfl | hb
  ·rw [z,hf] at ha;cases ha
  ·rw [z,hf] at hb;cases hb
end
mutual
noncomputable def bD:D->D->Bool
 | .non,.non=>true
 | .bl p,.bl q=>p == q
 | .bl p,.int q=>(if p then 1 else 0) == q
 | .int p,.bl q=>p == (if q then 1 else 0)
 | .int p,.int q=>p == q
 | .str p,.str q=>p == q
 | .tup p,.tup q=>dB p q
 | .lst p,.lst q=>dB p q
 | .emp,.emp=>true
 | .exn _ _ _,.exn _ _ _=>true
 | .dct _ _,.dct _ _=>true
 | _,_=>false
noncomputable def dB:List D->List D->Bool
 | [],[]=>true
 | x::xs,y::ys=>bD x y && dB xs ys
 | _,_=>false
end
mutual
theorem gz:∀d:D,bD d d=true
 | .non=>by simp [bD]
 | .bl _=>by simp [bD]
 | .int _=>by simp [bD]
 | .str _=>by simp [bD]
 | .tup xs=>by simp only [bD];exact jT xs
 | .lst xs=>by simp only [bD];exact jT xs
 | .emp=>by simp [bD]
 | .exn _ _ _=>by simp [bD]
 | .dct _ _=>by simp [bD]
theorem jT:∀ds:List D,dB ds ds=true
 | []=>by simp [dB]
 | x::xs=>by simp only [dB,gz x,jT xs,Bool.and_self]
end
theorem jj:∀{xs ys:List D},xs.length≠ys.length->dB xs ys=false
 | [],[],h=>absurd rfl h
 | [],_::_,_=>by simp [dB]
 | _::_,[],_=>by simp [dB]
 | x::xs,y::ys,h=>by simp only [dB,jj (xs:=xs) (ys:=ys) (λz=>h (congrArg (· + 1) z)),Lm]
noncomputable def ju (xs ys:List D) (j:Nat):Bool:=match xs[j]?,ys[j]? with
 | some x,some y=>bD x y
 | _,_=>false
theorem jk:∀{xs ys:List D},xs.length=ys.length->(Gg xs.length).all (ju xs ys)=dB xs ys
 | [],[],_=>by simp [dB]
 | x::xs,y::ys,h=>by have ih:=jk (xs:=xs) (ys:=ys) (by simpa using h);rw [JN,LU,KW,Nr];simp only [dB];rw [<-ih];rfl
theorem p6 (xs ys:List D):((Gg (min xs.length ys.length)).all (ju xs ys) && xs.length == ys.length)=dB xs ys:=by
 by_cases h:xs.length=ys.length
 ·rw [<-h,O1,jk h];simp
 ·rw [jj h,beq_eq_false_iff_ne.mpr h,Lm]
section
structure HF (K:Gd) (J:Hp) (s:Gf):Prop where
 t:∀a xs,cZ K J a xs->∃its:List Ge,Vals xs its/\s.heap.IsTuple a its.toArray
 l:∀a xs,cg K J a xs->∃its:List Ge,Vals xs its/\s.heap.IsList a its.toArray
 e:∀a,J a=some (.dK [])->∃o,s.heap.get? a=some o/\o.cls=.type "dict"
 d:∀a ep Ga,J a=some (yu a ep Ga)->∃o es,s.heap.get? a=some o/\o.ExactDict/\o.data=.dict es ep/\MJ Ar Ga es.toList
variable {K:Gd}{J:Hp}{s:Gf}
theorem HF.of {X:Cx}{c:C}{H:Hp}(I:Inv X F3 σ H s) (hs:aM J H):HF X.K J s:=
 ⟨λa xs h=>let ⟨its,r,p,_⟩:=I.tuple (eL hs h);⟨its,r,p⟩,λa xs h=>let ⟨its,r,p,_⟩:=I.list (hs.seq h);⟨its,r,p.isList⟩,λa h=>by
  obtain ⟨_,_,vs,_,p⟩:=(show cS X.prog X.w H s.heap a (.dK []) from I.hok a _ (hs _ _ h));obtain ⟨o,es,ep,h1,h2,_⟩:=p;exact ⟨o,h1,h2.1⟩,λa ep Ga h=>(show cS X.prog X.w H s.heap a (yu a ep Ga) from I.hok a _ (hs _ _ h)).1⟩
theorem u9 {xs ys:List Ge}(h:s.heap.IsTuple a xs.toArray) (h':s.heap.IsTuple a ys.toArray):xs=ys:=by
 obtain ⟨o,ho,_,n,hd⟩:=h;obtain ⟨o',ho',_,n',hd'⟩:=h';rw [ho] at ho';cases ho';rw [hd] at hd';injection hd' with h1 _
 simpa using congrArg LZ h1
theorem tH {xs ys:List Ge}(h:s.heap.IsList a xs.toArray) (h':s.heap.IsList a ys.toArray):xs=ys:=by
 obtain ⟨o,ho,_,n,hd⟩:=h;obtain ⟨o',ho',_,n',hd'⟩:=h';rw [ho] at ho';cases ho';rw [hd] at hd';injection hd' with h1 _
 simpa using congrArg LZ h1
mutual
theorem Rep.inj (F:HF K J s):∀{d e:D}{v:V},Rep K J d v->Rep K J e v->dep d<=1000->dep e<=1000->d=e
 | _,_,_,.emp _,_,h,_=>by unfold dep at h;omega
 | _,_,_,.exn _ _ _ _ _,_,h,_=>by unfold dep at h;omega
 | _,_,_,.dct _ _ _ _ _,_,h,_=>by unfold dep at h;omega
 | _,_,_,.non,.non,_,_=>rfl
 | _,_,_,.bl _,.bl _,_,_=>rfl
 | _,_,_,.int _,.int _,_,_=>rfl
 | _,_,_,.str _,.str _,_,_=>rfl
 | _,_,_,.tup _ _,.emp _,_,h=>by unfold dep at h;omega
 | _,_,_,.lst _ _,.emp _,_,h=>by unfold dep at h;omega
 | _,_,_,.tup _ _,.exn _ _ _ _ _,_,h=>by unfold dep at h;omega
 | _,_,_,.tup _ _,.dct _ _ _ _ _,_,h=>by unfold dep at h;omega
 | _,_,_,.lst _ _,.exn _ _ _ _ _,_,h=>by unfold dep at h;omega
 | _,_,_,.lst _ _,.dct _ _ _ _ _,_,h=>by unfold dep at h;omega
 | _,_,_,.tup h hs,.tup h' hs',k,k'=>by obtain ⟨its,r,p⟩:=F.t _ _ h;obtain ⟨its',r',p'⟩:=F.t _ _ h';have:=u9 p p';subst this;have:=r.inj r';subst this;rw [aD.inj F hs hs' (by unfold dep at k;omega) (by unfold dep at k';omega)]
 | _,_,_,.lst h hs,.lst h' hs',k,k'=>by obtain ⟨its,r,p⟩:=F.l _ _ h;obtain ⟨its',r',p'⟩:=F.l _ _ h';have:=tH p p';subst this;have:=r.inj r';subst this;rw [aD.inj F hs hs' (by unfold dep at k;omega) (by unfold dep at k';omega)]
 | _,_,_,.tup h _,.lst h' _,_,_=>by obtain ⟨its,r,p⟩:=F.t _ _ h;obtain ⟨its',r',p'⟩:=F.l _ _ h';exact absurd rfl (LV p' p)
 | _,_,_,.lst h _,.tup h' _,_,_=>by obtain ⟨its,r,p⟩:=F.l _ _ h;obtain ⟨its',r',p'⟩:=F.t _ _ h';exact absurd rfl (LV p p')
theorem aD.inj (F:HF K J s):∀{ds es:List D}{vs:List V},aD K J ds vs->aD K J es vs->deps ds<=1000->deps es<=1000->ds=es
 | _,_,_,.nil,.nil,_,_=>rfl
 | _,_,_,.cons h hs,.cons h' hs',k,k'=>by rw [Rep.inj F h h' (by unfold deps at k;omega) (by unfold deps at k';omega),aD.inj F hs hs' (by unfold deps at k;omega) (by unfold deps at k';omega)]
end
theorem gu {A:G3}(h:s.heap.IsTuple a its) (r:RelV v u) (f:mD v=true) (hu:A.units < Kn):IF A s (.ref a) u false/\IF A s u (.ref a) false:=by
 cases v with
 | non=>cases r;exact ⟨.tuple_none h hu,.none_tuple h hu⟩
 | bl b=>cases r;exact ⟨.tuple_bool b h hu,.bool_tuple b h hu⟩
 | int i=>obtain ⟨t,rfl⟩:=r;exact ⟨.tuple_int i t h hu,.int_tuple i t h hu⟩
 | str x=>obtain ⟨t,rfl⟩:=r;exact ⟨.tuple_str x t h hu,.str_tuple x t h hu⟩
 | _=>exact absurd (show false=true from f) G4
theorem gP {A:G3}(h:s.heap.IsList a its) (r:RelV v u) (f:mD v=true) (hu:A.units < Kn):IF A s (.ref a) u false/\IF A s u (.ref a) false:=by
 cases v with
 | non=>cases r;exact ⟨.list_none h hu,.none_list h hu⟩
 | bl b=>cases r;exact ⟨.list_bool b h hu,.bool_list b h hu⟩
 | int i=>obtain ⟨t,rfl⟩:=r;exact ⟨.list_int i t h hu,.int_list i t h hu⟩
 | str x=>obtain ⟨t,rfl⟩:=r;exact ⟨.list_str x t h hu,.str_list x t h hu⟩
 | _=>exact absurd (show false=true from f) G4
noncomputable def jV:D->Bool
 | .tup _=>false
 | .lst _=>false
 | .emp=>false
 | .exn _ _ _=>false
 | .dct _ _=>false
 | _=>true
theorem Rep.flat (h:Rep K J d v) (f:jV d=true):mD v=true:=by cases h <;> first | rfl | cases f
theorem wU (h:Rep K J d v) (h':Rep K J e w) (f:jV d=true) (f':jV e=true):AU v w=bD d e:=by cases h <;> cases h' <;> first | rfl | cases f | cases f' | simp [AU,bD]
theorem in1_units (A:G3):A.in1.units=A.units + 1:=rfl
theorem mC (F:HF K J s) (A:G3) (hd:Rep K J d v) (he:Rep K J e w) (rv:RelV v u) (rw':RelV w u') (f:jV d=true) (hu:A.units < Kn) (hu':dep e<=1000):IF A s u u' (bD d e):=by
 cases q:jV e with
 | true=>rw [<-wU hd he f q];exact AS rv rw' (hd.flat f) (he.flat q)
 | false=>
  cases he with
  | tup h' hs'=>
   cases rw';obtain ⟨its',r',p'⟩:=F.t _ _ h';have:=(gu p' rv (hd.flat f) hu).2;cases hd <;> first | exact this | cases f
  | lst h' hs'=>
   cases rw';obtain ⟨its',r',p'⟩:=F.l _ _ h';have:=(gP p' rv (hd.flat f) hu).2;cases hd <;> first | exact this | cases f
  | emp _=>unfold dep at hu';omega
  | exn _ _ _ _ _=>unfold dep at hu';omega
  | dct _ _ _ _ _=>unfold dep at hu';omega
  | _=>cases q
mutual
theorem mh (F:HF K J s):∀{d e:D}{v w:V}{u u':Ge}(A:G3),Rep K J d v->Rep K J e w->RelV v u->RelV w u'->A.units + dep d < Kn->dep d<=1000->dep e<=1000->IF A s u u' (bD d e)
 | .tup ds,e,_,w,u,u',A,.tup h hs,he,rv,rw',hu,hd1,hu'=>by
  cases rv;obtain ⟨its,r,p⟩:=F.t _ _ h;have EF:A.units < Kn:=by unfold dep at hu;omega
  cases he with
  | tup h' hs'=>
   cases rw';obtain ⟨its',r',p'⟩:=F.t _ _ h';rename_i a vs b ws es;by_cases q:a=b
   ·subst q;have:=Rep.inj F (.tup h hs) (.tup h' hs') hd1 hu';rw [<-this,gz];exact L5 _
   ·have l1:its.length=ds.length:=by rw [<-r.length,hs.length]
    have l2:its'.length=es.length:=by rw [<-r'.length,hs'.length]
    simp only [bD];rw [<-p6,<-l1,<-l2];refine MU q ?_;have:=Nc (e:=ju ds es) p p' EF λj j1 j2=>by
     have k1:j < ds.length:=by rw [<-l1];simpa using j1
     have k2:j < es.length:=by rw [<-l2];simpa using j2
     have:=i9 F A.in1 hs hs' r r' (by rw [in1_units];unfold dep at hu;omega) (by unfold dep at hd1;omega) (by unfold dep at hu';omega) j k1 k2;have m1:j < its.length:=by simpa using j1
     have m2:j < its'.length:=by simpa using j2
     simpa [m1,m2] using this
    simpa using this
  | lst h' hs'=>
   cases rw';obtain ⟨its',r',p'⟩:=F.l _ _ h';exact O2 p p' EF
  | non=>exact (gu p rw' rfl EF).1
  | bl _=>exact (gu p rw' rfl EF).1
  | int _=>exact (gu p rw' rfl EF).1
  | str _=>exact (gu p rw' rfl EF).1
  | emp _=>unfold dep at hu';omega
  | exn _ _ _ _ _=>unfold dep at hu';omega
  | dct _ _ _ _ _=>unfold dep at hu';omega
 | .lst ds,e,_,w,u,u',A,.lst h hs,he,rv,rw',hu,hd1,hu'=>by
  cases rv;obtain ⟨its,r,p⟩:=F.l _ _ h;have EF:A.units < Kn:=by unfold dep at hu;omega
  cases he with
  | lst h' hs'=>
   cases rw';obtain ⟨its',r',p'⟩:=F.l _ _ h';rename_i a vs b ws es;by_cases q:a=b
   ·subst q;have:=Rep.inj F (.lst h hs) (.lst h' hs') hd1 hu';rw [<-this,gz];exact L5 _
   ·have l1:its.length=ds.length:=by rw [<-r.length,hs.length]
    have l2:its'.length=es.length:=by rw [<-r'.length,hs'.length]
    simp only [bD];refine MU q ?_;by_cases z:ds.length=es.length
    ·rw [<-jk z,<-l1];have:=NB (e:=ju ds es) p p' (by simp;omega) EF λj j1 j2=>by
      have k1:j < ds.length:=by rw [<-l1];simpa using j1
      have k2:j < es.length:=by rw [<-l2];simpa using j2
      have:=i9 F A.in1 hs hs' r r' (by rw [in1_units];unfold dep at hu;omega) (by unfold dep at hd1;omega) (by unfold dep at hu';omega) j k1 k2;have m1:j < its.length:=by simpa using j1
      have m2:j < its'.length:=by simpa using j2
      simpa [m1,m2] using this
     simpa using this
    ·rw [jj z];exact Oz p p' (by simp;omega) EF
  | tup h' hs'=>
   cases rw';obtain ⟨its',r',p'⟩:=F.t _ _ h';exact O3 p p' EF
  | non=>exact (gP p rw' rfl EF).1
  | bl _=>exact (gP p rw' rfl EF).1
  | int _=>exact (gP p rw' rfl EF).1
  | str _=>exact (gP p rw' rfl EF).1
  | emp _=>unfold dep at hu';omega
  | exn _ _ _ _ _=>unfold dep at hu';omega
  | dct _ _ _ _ _=>unfold dep at hu';omega
 | .non,e,v,w,u,u',A,hd,he,rv,rw',hu,_,hu'=>mC F A hd he rv rw' rfl (by omega) hu'
 | .bl _,e,v,w,u,u',A,hd,he,rv,rw',hu,_,hu'=>mC F A hd he rv rw' rfl (by omega) hu'
 | .int _,e,v,w,u,u',A,hd,he,rv,rw',hu,_,hu'=>mC F A hd he rv rw' rfl (by omega) hu'
 | .emp,e,v,w,u,u',A,hd,he,rv,rw',hu,hd1,hu'=>by unfold dep at hd1;omega
 | .exn _ _ _,e,v,w,u,u',A,hd,he,rv,rw',hu,hd1,hu'=>by unfold dep at hd1;omega
 | .dct _ _,e,v,w,u,u',A,hd,he,rv,rw',hu,hd1,hu'=>by unfold dep at hd1;omega
 | .str _,e,v,w,u,u',A,hd,he,rv,rw',hu,_,hu'=>mC F A hd he rv rw' rfl (by omega) hu'
theorem i9 (F:HF K J s):∀{ds es:List D}{vs ws:List V}{us us':List Ge}(A:G3),aD K J ds vs->aD K J es ws->Vals vs us->Vals ws us'->A.units + deps ds < Kn->deps ds<=1000->deps es<=1000->
  ∀(j:Nat) (h1:j < ds.length) (h2:j < es.length),IF A s (us.getD j .none) (us'.getD j .none) (ju ds es j)
 | _,_,_,_,_,_,A,.cons h hs,.cons h' hs',.cons r rs,.cons r' rs',hu,k1,k2,0,_,_=>mh F A h h' r r' (by unfold deps at hu;omega) (by unfold deps at k1;omega) (by unfold deps at k2;omega)
 | _,_,_,_,_,_,A,.cons h hs,.cons h' hs',.cons r rs,.cons r' rs',hu,k1,k2,j + 1,h1,h2=>i9 F A hs hs' rs rs' (by unfold deps at hu;omega) (by unfold deps at k1;omega) (by unfold deps at k2;omega) j (by simpa using h1) (by simpa using h2)
end
end
section
variable {K:Gd}{J:Hp}{s:Gf}
theorem vG (F:HF K J s) (A:G3) (hd:Rep K J d v) (he:Rep K J e w) (rv:RelV v u) (rw':RelV w u') (hu:A.units + dep d < Kn) (hd1:dep d<=1000) (hu':dep e<=1000):SeqAt.RcAt A s u u' (bD d e)/\SeqAt.RcNeAt A s u u' (!bD d e):=by
 have EF:A.units < Kn:=by omega
 cases hd with
 | non=>
  cases rv;cases he with
  | non=>cases rw';exact ⟨.none_none,.none_none⟩
  | bl b=>cases rw';exact ⟨.none_bool b,.none_bool b⟩
  | int i=>obtain ⟨t,rfl⟩:=rw';exact ⟨.none_int i t,.none_int i t⟩
  | str x=>obtain ⟨t,rfl⟩:=rw';exact ⟨.none_str x t,.none_str x t⟩
  | tup h hs=>cases rw';obtain ⟨its,r,p⟩:=F.t _ _ h;exact ⟨.none_tuple p EF,.none_tuple p EF⟩
  | lst h hs=>cases rw';obtain ⟨its,r,p⟩:=F.l _ _ h;exact ⟨.none_list p EF,.none_list p EF⟩
  | emp _=>unfold dep at hu';omega
  | exn _ _ _ _ _=>unfold dep at hu';omega
  | dct _ _ _ _ _=>unfold dep at hu';omega
 | bl a=>
  cases rv;cases he with
  | non=>cases rw';exact ⟨.bool_none a,.bool_none a⟩
  | bl b=>cases rw';exact ⟨.bool_bool a b,.bool_bool a b⟩
  | int i=>obtain ⟨t,rfl⟩:=rw';exact ⟨.bool_int a i t,.bool_int a i t⟩
  | str x=>obtain ⟨t,rfl⟩:=rw';exact ⟨.bool_str a x t,.bool_str a x t⟩
  | tup h hs=>cases rw';obtain ⟨its,r,p⟩:=F.t _ _ h;exact ⟨.bool_tuple a p EF,.bool_tuple a p EF⟩
  | lst h hs=>cases rw';obtain ⟨its,r,p⟩:=F.l _ _ h;exact ⟨.bool_list a p EF,.bool_list a p EF⟩
  | emp _=>unfold dep at hu';omega
  | exn _ _ _ _ _=>unfold dep at hu';omega
  | dct _ _ _ _ _=>unfold dep at hu';omega
 | int a=>
  obtain ⟨t0,rfl⟩:=rv;cases he with
  | non=>cases rw';exact ⟨.int_none a t0,.int_none a t0⟩
  | bl b=>cases rw';exact ⟨.int_bool a t0 b,.int_bool a t0 b⟩
  | int i=>obtain ⟨t,rfl⟩:=rw';exact ⟨.int_int a t0 i t,.int_int a t0 i t⟩
  | str x=>obtain ⟨t,rfl⟩:=rw';exact ⟨.int_str a t0 x t,.int_str a t0 x t⟩
  | tup h hs=>cases rw';obtain ⟨its,r,p⟩:=F.t _ _ h;exact ⟨.int_tuple a t0 p EF,.int_tuple a t0 p EF⟩
  | lst h hs=>cases rw';obtain ⟨its,r,p⟩:=F.l _ _ h;exact ⟨.int_list a t0 p EF,.int_list a t0 p EF⟩
  | emp _=>unfold dep at hu';omega
  | exn _ _ _ _ _=>unfold dep at hu';omega
  | dct _ _ _ _ _=>unfold dep at hu';omega
 | str a=>
  obtain ⟨t0,rfl⟩:=rv;cases he with
  | non=>cases rw';exact ⟨.str_none a t0,.str_none a t0⟩
  | bl b=>cases rw';exact ⟨.str_bool a t0 b,.str_bool a t0 b⟩
  | int i=>obtain ⟨t,rfl⟩:=rw';exact ⟨.str_int a t0 i t,.str_int a t0 i t⟩
  | str x=>obtain ⟨t,rfl⟩:=rw';exact ⟨.str_str a t0 x t,.str_str a t0 x t⟩
  | tup h hs=>cases rw';obtain ⟨its,r,p⟩:=F.t _ _ h;exact ⟨.str_tuple a t0 p EF,.str_tuple a t0 p EF⟩
  | lst h hs=>cases rw';obtain ⟨its,r,p⟩:=F.l _ _ h;exact ⟨.str_list a t0 p EF,.str_list a t0 p EF⟩
  | emp _=>unfold dep at hu';omega
  | exn _ _ _ _ _=>unfold dep at hu';omega
  | dct _ _ _ _ _=>unfold dep at hu';omega
 | tup h hs=>
  cases rv;obtain ⟨its,r,p⟩:=F.t _ _ h;cases he with
  | non=>cases rw';exact ⟨.tuple_none p EF,.tuple_none p EF⟩
  | bl b=>cases rw';exact ⟨.tuple_bool b p EF,.tuple_bool b p EF⟩
  | int i=>obtain ⟨t,rfl⟩:=rw';exact ⟨.tuple_int i t p EF,.tuple_int i t p EF⟩
  | str x=>obtain ⟨t,rfl⟩:=rw';exact ⟨.tuple_str x t p EF,.tuple_str x t p EF⟩
  | lst h' hs'=>cases rw';obtain ⟨its',r',p'⟩:=F.l _ _ h';exact ⟨.tuple_list p p' EF,.tuple_list p p' EF⟩
  | emp _=>unfold dep at hu';omega
  | exn _ _ _ _ _=>unfold dep at hu';omega
  | dct _ _ _ _ _=>unfold dep at hu';omega
  | tup h' hs'=>
   cases rw';obtain ⟨its',r',p'⟩:=F.t _ _ h';rename_i a vs ds b ws es;have l1:its.length=ds.length:=by rw [<-r.length,hs.length]
   have l2:its'.length=es.length:=by rw [<-r'.length,hs'.length]
   have it:∀(j:Nat) (j1:j < its.toArray.size) (j2:j < its'.toArray.size),IF A.in1 s its.toArray[j] its'.toArray[j] (ju ds es j):=λj j1 j2=>by
    have k1:j < ds.length:=by rw [<-l1];simpa using j1
    have k2:j < es.length:=by rw [<-l2];simpa using j2
    have:=i9 F A.in1 hs hs' r r' (by rw [in1_units];unfold dep at hu;omega) (by unfold dep at hd1;omega) (by unfold dep at hu';omega) j k1 k2;have m1:j < its.length:=by simpa using j1
    have m2:j < its'.length:=by simpa using j2
    simpa [m1,m2] using this
   simp only [bD];rw [<-p6,<-l1,<-l2];have q1:=Nc p p' EF it;have q2:=Pz p p' EF it;exact ⟨by simpa using q1,by simpa using q2⟩
 | emp _=>unfold dep at hd1;omega
 | exn _ _ _ _ _=>unfold dep at hd1;omega
 | dct _ _ _ _ _=>unfold dep at hd1;omega
 | lst h hs=>
  cases rv;obtain ⟨its,r,p⟩:=F.l _ _ h;cases he with
  | non=>cases rw';exact ⟨.list_none p EF,.list_none p EF⟩
  | bl b=>cases rw';exact ⟨.list_bool b p EF,.list_bool b p EF⟩
  | int i=>obtain ⟨t,rfl⟩:=rw';exact ⟨.list_int i t p EF,.list_int i t p EF⟩
  | str x=>obtain ⟨t,rfl⟩:=rw';exact ⟨.list_str x t p EF,.list_str x t p EF⟩
  | tup h' hs'=>cases rw';obtain ⟨its',r',p'⟩:=F.t _ _ h';exact ⟨.list_tuple p p' EF,.list_tuple p p' EF⟩
  | emp _=>unfold dep at hu';omega
  | exn _ _ _ _ _=>unfold dep at hu';omega
  | dct _ _ _ _ _=>unfold dep at hu';omega
  | lst h' hs'=>
   cases rw';obtain ⟨its',r',p'⟩:=F.l _ _ h';rename_i a vs ds b ws es;have l1:its.length=ds.length:=by rw [<-r.length,hs.length]
   have l2:its'.length=es.length:=by rw [<-r'.length,hs'.length]
   have it:∀(j:Nat) (j1:j < its.toArray.size) (j2:j < its'.toArray.size),IF A.in1 s its.toArray[j] its'.toArray[j] (ju ds es j):=λj j1 j2=>by
    have k1:j < ds.length:=by rw [<-l1];simpa using j1
    have k2:j < es.length:=by rw [<-l2];simpa using j2
    have:=i9 F A.in1 hs hs' r r' (by rw [in1_units];unfold dep at hu;omega) (by unfold dep at hd1;omega) (by unfold dep at hu';omega) j k1 k2;have m1:j < its.length:=by simpa using j1
    have m2:j < its'.length:=by simpa using j2
    simpa [m1,m2] using this
   simp only [bD];by_cases z:ds.length=es.length
   ·rw [<-jk z,<-l1];have q1:=NB p p' (by simp;omega) EF it;have q2:=P0 p p' (by simp;omega) EF it;exact ⟨by simpa using q1,by simpa using q2⟩
   ·rw [jj z];exact ⟨.lists_lengths p p' (by simp;omega) EF,.lists_lengths p p' (by simp;omega) EF⟩
end
section
variable {X:Cx}{c:C}{e a b tg:Hl}{es:List Hl}{ga gb g:G R}{pos:Pos}
theorem RR.rep {He J H:Hp}(hp:HI c J H):∀{r:R}{v:V}{d:D},RR c He J H r v->(∀xs,r=.l .fresh xs\/r=.l .own xs\/r=.l .bor xs->d=.lst xs)->(∀x,r=.d x->d=x)->(∀ks vs,r≠.mo ks vs/\r≠.mb ks vs/\r≠.mf ks vs/\r≠.ln ks)->Rep c.K H d v
 | .mo _ _,_,_,_,_,_,n=>((n _ _).1 rfl).elim
 | .mb _ _,_,_,_,_,_,n=>((n _ _).2.1 rfl).elim
 | .mf _ _,_,_,_,_,_,n=>((n _ _).2.2.1 rfl).elim
 | .ln _,_,_,_,_,_,n=>((n _ []).2.2.2 rfl).elim
 | .d x,v,d,h,_,k,_=>by rw [k x rfl];exact Rep.mono hp.sub h
 | .l m xs,v,d,h,k,_,_=>by have e:d=.lst xs:=k xs (by cases m;exact .inl rfl;exact .inr (.inl rfl);exact .inr (.inr rfl));obtain ⟨a,vs,rfl,h1,h2⟩:=RR.list hp h rfl;rw [e];exact .lst h1 (h2.mono hp.sub)
noncomputable def R.dat:R->D
 | .d x=>x
 | .l _ xs=>.lst xs
 | .mo ks vs=>.dct ks vs
 | .mb ks vs=>.dct ks vs
 | .mf ks vs=>.dct ks vs
 | .ln xs=>.lst xs
theorem RR.dat {He J H:Hp}(hp:HI c J H){r:R}(h:RR c He J H r v):Rep c.K H r.dat v:=by
 by_cases hm:∃ks vs,r=.mo ks vs
 ·obtain ⟨ks,vs,rfl⟩:=hm;obtain ⟨a,rfl,h,_⟩:=h;exact h.rep hp.sub
 by_cases hb:∃ks vs,r=.mb ks vs
 ·obtain ⟨ks,vs,rfl⟩:=hb;obtain ⟨a,rfl,h⟩:=h;exact (h.mono (aM.refl _) hp.ent).rep hp.sub
 by_cases hf:∃ks vs,r=.mf ks vs
 ·obtain ⟨ks,vs,rfl⟩:=hf;obtain ⟨a,rfl,h,_⟩:=h;exact h.rep hp.sub
 by_cases hl:∃xs,r=.ln xs
 ·obtain ⟨xs,rfl⟩:=hl;obtain ⟨a,vs,rfl,h,_,_,h5⟩:=h;exact .lst (.inl (.inl h)) (h5.reps.mono hp.sub)
 refine h.rep hp (λxs q=>?_) (λx q=>by rw [q];rfl) λks vs=>⟨λz=>hm ⟨_,_,z⟩,λz=>hb ⟨_,_,z⟩,λz=>hf ⟨_,_,z⟩,λz=>hl ⟨_,z⟩⟩;rcases q with q | q | q <;> (rw [q];rfl)
def xR (K:Gd) (neg:Bool):R2:=λx y H Q=>∃d e,Rep K H d x/\Rep K H e y/\dep d<=60/\dep e<=60/\Q (.bl (if neg then !bD d e else bD d e)) H
theorem ie {H:Hp}(I:Inv X F3 σ H s):HF X.K H s:=HF.of (c:=⟨X.K,H,H,λ_=>True⟩) I (aM.refl H)
theorem vp (hu:X.A.units + 64 < Kn):dU X (Jm .Eq) (xR X.K false):=by intro F3 s σ H x y v u Q I rx ry h;obtain ⟨d,e,h1,h2,h3,h4,q⟩:=h;exact (vG (ie I) X.A h1 h2 rx ry (by omega) (by omega) (by omega)).1 X.prog X.w X.xe _ ⟨.bl _,H,I,rfl,q⟩
theorem Bl (hu:X.A.units + 64 < Kn):dU X (Jm .NotEq) (xR X.K true):=by intro F3 s σ H x y v u Q I rx ry h;obtain ⟨d,e,h1,h2,h3,h4,q⟩:=h;exact (vG (ie I) X.A h1 h2 rx ry (by omega) (by omega) (by omega)).2 X.prog X.w X.xe _ ⟨.bl _,H,I,rfl,q⟩
def dW (neg:Bool) (x y:R):M R:=if dep x.dat<=60/\dep y.dat<=60 then .ok (.d (.bl (if neg then !bD x.dat y.dat else bD x.dat y.dat))) else .bad
theorem sQ (neg:Bool) (hK:X.K=c.K):BD c (xR X.K neg) (dW neg):=by
 intro He He' J H x y u v Q hp rx ry w;unfold dW at w;split at w
 ·rename_i hd;exact ⟨x.dat,y.dat,by rw [hK];exact rx.dat hp,by rw [hK];exact ry.dat hp,hd.1,hd.2,w _ J H (Ext.refl hp.sub) (.bl _)⟩
 ·exact w.elim
def inD (d:D) (xs:List D):Bool:=xs.any λx=>bD x d
noncomputable def BK (K:Gd) (neg:Bool):R2:=λx y H Q=>∃d p vs ds,Rep K H d x/\dep d<=60/\y=.ref p/\(cg K H p vs\/cZ K H p vs)/\aD K H ds vs/\deps ds<=60/\Q (.bl (if neg then !inD d ds else inD d ds)) H
theorem oN {K:Gd}{H:Hp}{y:Ge}:∀{ds:List D}{vs:List V}{us:List Ge},aD K H ds vs->Vals vs us->deps ds<=60->y∈us->∃d' v',Rep K H d' v'/\RelV v' y/\dep d'<=60
 | _,_,_,.nil,.nil,_,hy=>nomatch hy
 | _,_,_,.cons r hs,.cons q rs,hd,hy=>by
  unfold deps at hd;rcases Gz.mp hy with rfl | hy
  ·exact ⟨_,_,r,q,by omega⟩
  ·exact oN hs rs (by omega) hy
open Classical in
noncomputable def sN (K:Gd) (H:Hp) (d:D) (y:Ge):Bool:=decide (∃d' v',Rep K H d' v'/\RelV v' y/\dep d'<=1000/\bD d' d=true)
theorem rA {K:Gd}{H:Hp}{s:Gf}(F:HF K H s){d d':D}{v':V}{y:Ge}(r':Rep K H d' v') (q':RelV v' y) (hd:dep d'<=1000):sN K H d y=bD d' d:=by
 classical
 unfold sN;cases z:bD d' d with
 | true=>exact decide_eq_true ⟨d',v',r',q',hd,z⟩
 | false=>
  refine decide_eq_false ?_;rintro ⟨d2,v2,r2,q2,hd2,z2⟩;have:v2=v':=q2.inj q';subst this;rw [Rep.inj F r2 r' hd2 hd] at z2;rw [z] at z2;cases z2
theorem pQ {K:Gd}{H:Hp}{s:Gf}(F:HF K H s){d:D}:∀{ds:List D}{vs:List V}{us:List Ge},aD K H ds vs->Vals vs us->deps ds<=1000->us.any (sN K H d)=inD d ds
 | _,_,_,.nil,.nil,_=>rfl
 | _,_,_,.cons r hs,.cons q rs,hd=>by unfold deps at hd;unfold inD;rw [KY,KY,pQ F hs rs (by omega),rA F r q (by omega)];rfl
theorem uD {A:G3}{s:Gf}{K:Gd}{H:Hp}(F:HF K H s){d:D}{x:V}{u:Ge}(h:Rep K H d x) (rx:RelV x u) (Fe:dep d<=60) (hA:A.units + 60 < Kn){ds:List D}{vs:List V}{us:List Ge}(hs:aD K H ds vs) (rs:Vals vs us) (hd:deps ds<=60):
  ∃e:Ge->Bool,(∀y∈us,IF A s y u (e y))/\us.any e=inD d ds:=by refine ⟨sN K H d,λy hy=>?_,pQ F hs rs (by omega)⟩;obtain ⟨d',v',r',q',hd'⟩:=oN hs rs hd hy;rw [rA F r' q' (by omega)];exact mh F A r' h q' rx (by omega) (by omega) (by omega)
theorem Bh (hu:X.A.units + 64 < Kn):dU X (Jm .In) (BK X.K false):=by
 intro F3 s σ H x y v u Q I rx ry h;obtain ⟨d,p,vs,ds,h1,Fe,rfl,h2,h3,h4,q⟩:=h;cases ry;have F:=ie I;rcases h2 with h2 | h2
 ·obtain ⟨its,r,pl⟩:=F.l _ _ h2;obtain ⟨e,he,hany⟩:=uD (A:=X.A.in1) F h1 rx Fe (by rw [in1_units];omega) h3 r h4;exact SeqAt.in_listAt e pl (λz hz=>he z (by simpa using hz)) ⟨.bl _,H,I,rfl,by rw [show its.toArray.any e=its.any e by simp,hany];exact q⟩
 ·obtain ⟨its,r,pl⟩:=F.t _ _ h2;obtain ⟨e,he,hany⟩:=uD (A:=X.A.in1) F h1 rx Fe (by rw [in1_units];omega) h3 r h4;exact SeqAt.in_tupleAt e pl (λz hz=>he z (by simpa using hz)) ⟨.bl _,H,I,rfl,by rw [show its.toArray.any e=its.any e by simp,hany];exact q⟩
noncomputable def uT (neg:Bool) (x y:R):M R:=i7 y >>= λys=>if deps ys<=60/\dep x.dat<=60 then .ok (.d (.bl (if neg then !inD x.dat ys else inD x.dat ys))) else .bad
theorem B_ (neg:Bool) (hK:X.K=c.K):BD c (BK X.K neg) (uT neg):=by
 intro He He' J H x y u v Q hp rx ry w;obtain ⟨ys,q,w⟩:=jg w;obtain ⟨p,vs,rfl,h1,h2⟩:=kH hp ry q;split at w
 ·rename_i hd;exact ⟨x.dat,p,vs,ys,by rw [hK];exact rx.dat hp,hd.2,rfl,by rw [hK];exact h1,by rw [hK];exact h2.mono hp.sub,hd.1,w _ J H (Ext.refl hp.sub) (.bl _)⟩
 ·exact w.elim
abbrev GO:=G (Option Int)
def tO (c:C) (g:GO):TO:=λσ H Q=>∃J env,SR c J H σ env/\b_ (g env) (λo=>∀J' H',Ext J H J' H'->Q o H') c.T
def Av (X:Cx) (c:C) (e:Option Hl) (g:GO):Prop:=PO X e (tO c g)
theorem yJ {X:Cx}{e:Option Hl}{t t':TO}(h:PO X e t) (k:∀σ H Q,t' σ H Q->t σ H Q):PO X e t':=λF3 s σ H Q I q=>h F3 s σ H Q I (k σ H Q q)
def uW:GO:=λ_=>.ok none
noncomputable def qa (g:G R):GO:=λenv=>g env >>= λr=>match r with
 | .d (.int i)=>.ok (some i)
 | _=>.bad
def cutD (xs:List D) (lo hi:Option Int):List D:=(xs.drop (HT.br xs.length 0 lo)).take (HT.br xs.length xs.length hi - HT.br xs.length 0 lo)
theorem aD.cut {K:Gd}{J:Hp}{xs:List D}{vs:List V}(h:aD K J xs vs) (lo hi:Option Int):aD K J (cutD xs lo hi) (iT vs lo hi):=by unfold cutD iT;rw [h.length];exact (h.drop _).take _
def qb (f:R->Option Int->Option Int->M R) (g:G R) (lo hi:GO):G R:=λenv=>g env >>= λx=>lo env >>= λl=>hi env >>= λu=>f x l u
theorem CB {r:V->Option Int->Option Int->Hp->VK->Prop}{f:R->Option Int->Option Int->M R}{lo hi:Option Hl}{gl gh:GO}{p2:Pos}(hr:l7 X r) (hf:∀(He J H:Hp) (x:R) (v:V) (l u:Option Int) (Q:VK),HI c J H->RR c He J H x v->
   b_ (f x l u) (λz=>∀w J' H',Ext J H J' H'->RR c H J' H' z w->Q w H') c.T->r v l u H Q) (h:PD X c e g) (hl:Av X c lo gl) (hh:Av X c hi gh):PD X c (.Subscript e (.Slice lo hi none p2) pos) (qb f g gl gh):=
 gn (xJ hr h hl hh) λσ H Q ⟨J,env,sr,w⟩=>by refine ⟨J,env,sr,aE (aI w) λx wx v J1 H1 e1 r1=>?_⟩;refine ⟨J1,env,sr.ext e1,aE (aI wx) λl wl J2 H2 e2=>?_⟩;refine ⟨J2,env,(sr.ext e1).ext e2,aE (aI wl) λu wu J3 H3 e3=>?_⟩;have ee:=(e1.trans e2).trans e3;exact hf H J3 H3 x v l u Q (sr.hp.ext ee) ((r1.ext e2).ext e3) (aE wu λz q w J' H' e4 r4=>q w J' H' (ee.trans e4) (RR.from ee.h r4))
def DI (x:R) (l u:Option Int):M R:=gV x >>= λxs=>.ok (.l .fresh (cutD xs l u))
theorem ue {ss:List Str}:∀{us:List Ge},Vals (ss.map V.str) us->StrsAre us ss:=by
 induction ss with
 | nil=>intro us h;cases h;exact .nil
 | cons x r ih=>
  intro us h;cases h with
  | cons q rs=>
   obtain ⟨t,rfl⟩:=q;exact .cons x t (ih rs)
theorem oY:∀{us:List Ge}{ss:List Str},StrsAre us ss->Vals (ss.map V.str) us
 | _,_,.nil=>.nil
 | _,_,.cons y t h=>.cons ⟨t,rfl⟩ (oY h)
def gv (x y:Str):Bool:=decide (x.cps.toList<=y.cps.toList)
def fG (ss:List Str):List Str:=ss.mergeSort gv
theorem oF (x y z:Str) (h1:gv x y=true) (h2:gv y z=true):gv x z=true:=by unfold gv at *;exact decide_eq_true (List.le_trans (of_decide_eq_true h1) (of_decide_eq_true h2))
theorem ve (x y:Str):(gv x y || gv y x)=true:=by
 unfold gv;rw [IJ];rcases List.le_total x.cps.toList y.cps.toList with h | h
 ·exact .inl (decide_eq_true h)
 ·exact .inr (decide_eq_true h)
theorem xj (h1:gv x y=true) (h2:gv y x=true):x=y:=by unfold gv at *;have:=NC (of_decide_eq_true h1) (of_decide_eq_true h2);obtain ⟨⟨cx⟩⟩:=x;obtain ⟨⟨cy⟩⟩:=y;simp only at this;rw [this]
theorem kD (ss:List Str):(fG ss).Pairwise λx y=>gv x y=true:=List.pairwise_mergeSort oF ve ss
theorem g6 (ss:List Str):(fG ss).Perm ss:=List.mergeSort_perm ss gv
theorem ng:∀(x:Str) (r:List Str),risingS x r=true->(x::r).Pairwise λx y=>gv x y=true
 | x,[],_=>by simp
 | x,y::r,h=>by
  unfold risingS at h;rw [Gw] at h;have hy:=ng y r h.2;have hxy:gv x y=true:=by
   have h1:=h.1;rw [ltCps_eq] at h1;unfold gv;refine decide_eq_true ?_;have:¬y.cps.toList < x.cps.toList:=by simpa using h1
   exact this
  refine Iz.mpr ⟨λz hz=>?_,hy⟩;rcases Gz.mp hz with rfl | hz
  ·exact hxy
  ·exact oF x y z hxy ((Iz.mp hy).1 z hz)
theorem t_ {ss ss':List Str}(hp:ss'.Perm ss) (hs:sortedS ss'=true):ss'=fG ss:=by
 have pw:ss'.Pairwise λx y=>gv x y=true:=by
  cases ss' with
  | nil=>exact JD
  | cons x r=>exact ng x r hs
 exact (hp.trans (g6 ss).symm).eq_of_pairwise (λx y _ _ h1 h2=>xj h1 h2) pw (kD ss)
theorem pX:dG X (.builtin "sorted") (λxs H Q=>∃p ss,xs=[.ref p]/\cg X.K H p (ss.map V.str)/\ss.length < 64/\∀ss',ss'.Perm ss->sortedS ss'=true->∀l,H l=none->Q (.ref l) (upd H l (.lst (ss'.map V.str)))):=by
 intro F3 s σ H xs us Q I r h;obtain ⟨p,ss,rfl,hq,hl,q⟩:=h;obtain ⟨u,rfl,rx⟩:=vals1 r;cases rx;obtain ⟨its,r',pl,hz⟩:=I.list hq;have hlen:=r'.length;refine sorted_strs pl.isList (ue r') (by rw [<-hlen,Gn];exact hl) λout ss' a1 a2 a3=>?_;obtain ⟨n,hn⟩:=sortedAll_at s.heap its out;have kp:∀b o,s.heap.get? b=some o->(sortedAll s.heap its out).get? b=some o:=λb o e=>sortedAll_old e;have fr:H (s.heap.objs.size + 1)=none:=I.hok.fresh (MA _);have ll:(ss'.map V.str).length=(ss.map V.str).length:=by rw [Gn,Gn,a2.length_eq]
 refine ⟨.ref (s.heap.objs.size + 1),_,I.laid (t':=s.toks) kp (MA _) (show cS X.prog X.w _ _ _ (.lst (ss'.map V.str)) from ⟨by rw [ll];exact hz,out.toList,n,oY a1,by simpa [Ir] using hn⟩),rfl,q ss' a2 a3 _ fr⟩
noncomputable def strsOf:List D->Option (List Str)
 | []=>some []
 | .str x::r=>(strsOf r).map (x::·)
 | _::_=>none
theorem nv {K:Gd}{J:Hp}:∀{ds:List D}{vs:List V}{ss:List Str},strsOf ds=some ss->aD K J ds vs->vs=ss.map V.str
 | [],_,_,h,.nil=>by cases h;rfl
 | .str x::r,_,ss,h,.cons q rs=>by
  unfold strsOf at h;cases z:strsOf r with
  | none=>rw [z] at h;cases h
  | some ss'=>
   rw [z] at h;cases h;cases q;rw [nv z rs];rfl
theorem oQ {K:Gd}{J:Hp}:∀(ss:List Str),aD K J (ss.map D.str) (ss.map V.str)
 | []=>.nil
 | x::r=>.cons (.str x) (oQ r)
noncomputable def ic:List R->M R
 | [r]=>gV r >>= λxs=>match strsOf xs with
  | some ss=>if ss.length < 64 then .ok (.l .fresh ((fG ss).map .str)) else .bad
  | none=>.bad
 | _=>.bad
theorem jQ:Hw "sorted"=some (.builtin "sorted"):=by decide +kernel
theorem foldl_size (c:Array Nat):∀(k:Nat) (acc:Array Nat),((GQ k c).foldl (·++·) acc).size=acc.size + k * c.size
 | 0,acc=>by simp
 | k + 1,acc=>by rw [HQ,K8,foldl_size c k,Array.size_append,Nat.succ_mul];omega
def ef (x:Str) (n:Nat):Str:=⟨(GQ n x.cps).foldl (·++·) #[]⟩
theorem qV (x:Str) (n:Nat):(ef x n).length=n * x.length:=by unfold ef M_;simp only;rw [foldl_size];simp
theorem zE:dU X (JB .Mult) (λx y H Q=>∃z n,x=.str z/\y=.int n/\0<=n/\n<=1000/\z.length<=1000/\Q (.str (ef z n.toNat)) H):=by
 intro F3 s σ H x y v u Q I rx ry h;obtain ⟨z,n,rfl,rfl,h0,h1,h2,q⟩:=h;obtain ⟨t,rfl⟩:=rx;obtain ⟨t',rfl⟩:=ry;have hz:MB (z.length * n.toNat)=false:=by have:z.length * n.toNat<=1000 * 1000:=Mt h2 (by omega);unfold MB;exact decide_eq_false (by have:=IY;omega)
 refine PySem.P.mul_str (by
  rw [decide_eq_false (by omega:¬n < -(2 ^ 63:Int)),decide_eq_false (by omega:¬n ≥ 2 ^ 63)];rfl) (λhn _=>?_) (λ_ _=>hz) ?_
 ·have:(2 ^ 63 - 1:Int) / 1000<=(2 ^ 63 - 1) / n:=by refine (Int.le_ediv_iff_mul_le (by omega)).mpr ?_;have:(2 ^ 63 - 1:Int) / 1000 * n<=(2 ^ 63 - 1:Int) / 1000 * 1000:=Int.mul_le_mul_of_nonneg_left h1 (by decide);exact Int.le_trans this (by decide)
  have e:(2 ^ 63 - 1:Int) / 1000=9223372036854775:=by decide
  omega
 ·split
  ·rename_i hn;have e:n=0:=by omega
   subst e;exact ⟨by decide,.str _,H,I.tok _,⟨_,rfl⟩,q⟩
  ·split
   ·rename_i hn hc;have e:ef z n.toNat=z:=by
     unfold ef;rw [IJ] at hc;rcases hc with hc | hc
     ·have e:n=1:=by simpa using hc
      subst e;simp
     ·have e:z.length=0:=by simpa using hc
      have e2:z.cps=#[]:=by unfold M_ at e;exact Array.eq_empty_of_size_eq_zero e
      obtain ⟨cz⟩:=z;simp only at e2;subst e2;congr 1;generalize n.toNat=k
      induction k with
      | zero=>rfl
      | succ k ih=>rw [HQ,K8];exact ih
    rw [e] at q;exact ⟨.str z,H,I,⟨_,rfl⟩,q⟩
   ·exact ⟨by
     have:=qV z n.toNat
     unfold ef at this;rw [this,Nat.mul_comm];have:z.length * n.toNat<=1000 * 1000:=Mt h2 (by omega);rw [IY];omega,.str _,H,I.tok _,⟨_,rfl⟩,q⟩
noncomputable def tw:R->R->M R
 | .d (.str z),.d (.int n)=>if 0<=n/\n<=1000/\z.length<=1000 then .ok (.d (.str (ef z n.toNat))) else .bad
 | _,_=>.bad
noncomputable def bG:D->String
 | .non=>"NoneType"
 | .bl _=>"bool"
 | .int _=>"int"
 | .str _=>"str"
 | .tup _=>"tuple"
 | .lst _=>"list"
 | .emp=>"dict"
 | .exn _ _ _=>"exc"
 | .dct _ _=>"dict"
def bu (t T:String):Bool:=t == T || (t == "bool" && T == "int")
noncomputable def qi:R->Bool
 | .d (.int _)=>true
 | _=>false
noncomputable def u7:R->Bool
 | .d (.str _)=>true
 | _=>false
def bK (x y:R):M R:=if qi x then wW x y else if u7 x then mq x y else jn x y
def cu (x y:R):M R:=if qi x then AV x y else tw x y
noncomputable def bw (x y:R):M R:=match x,y with
 | .d (.str z),.d (.int i)=>if z.length<=sizeLine then (match jF z.cps.toList i with
  | some k=>.ok (.d (.str ⟨#[k]⟩))
  | none=>.bad) else .bad
 | x,.d (.int i)=>i7 x >>= λxs=>(match jF xs i with
  | some d=>.ok (.d d)
  | none=>.bad)
 | _,_=>.bad
noncomputable def dJ (P:GG) (w:Hi) (K:Gd) (mg:Str->Option Ge) (base:Ij) (k n:Nat) (x:Str) (Fm:List S->M R):Prop:=
 ∃f fd ps,f6 P w K mg base i6 k f fd ps (jJ K n Fm)/\mg x=some (.ref f)/\Jq K (.ref f)=true/\Binds K fd ps []
theorem AG {P:GG}{w:Hi}{K:Gd}{mg:Str->Option Ge}{base:Ij}{x F9:Str}{st:KR}{f:GF}{fd:HM}{N ps:List Str}{k:Nat}{Fm:List S->M R}(F:ir K x F9 st f fd) (hm:mg x=some (.ref f)) (Sc:eB N ps (aV st))
  (hbi:∀(kV doc pm:Ge) (an:Option GF) (cdv ct:Ge) (us:List Ge),us.length=ps.length->MN (HU x F9 (dM st) (b6 st) (aV st) .none kV doc pm an cdv ct) ⟨us,[]⟩=pure (ps.zip us)){gB:G O}
  (hb:∀(cdv:Ge) (A:G3) (outer:List Env) (s:Gf) (H:Hp) (E:XK) (J:Hp) (T:Exc->Prop),c8 k (A.deeper (Li F9 (aV st) s.heap.objs.size f cdv))->
   Au (rM P w K mg base N F9 (aV st) f cdv A outer s H E) ⟨K,H,J,T⟩ (b6 st) gB)
  (hF:∀as r,as.length=ps.length->Fm as=.ok r->fin (gB (aF N as))=.ok r):dJ P w K mg base (k + 1) ps.length x Fm:=
 ⟨f,fd,ps,uU F Sc hb hF,hm,F.kp,F.binds hbi⟩
noncomputable def xB:List Str->Bool
 | []=>true
 | x::r=>!(r.contains x) && xB r
theorem fh:∀{l:List Str},xB l=true->l.Nodup
 | [],_=>Og
 | x::r,h=>by unfold xB at h;rw [Gw] at h;refine Jx.mpr ⟨λz=>?_,fh h.2⟩;have:=h.1;simp [z] at this
theorem wV {H:Hp}{s:Gf}{a C:GF}{dx:Option GF}(I:L2.Inv X F3 σ H s) (h:H a=some (DX.XO a C dx)) (xf:XF H dx ns vs):∃ox od,JK s.heap a ox C od/\od.isSome=dx.isSome/\(∀d,dx=some d->∃o,od=some o/\s.heap.get? d=some o):=by
 obtain ⟨⟨oe,fs,h1,h2,h3,h4⟩,_⟩:=I.hok a _ h;have hn:Oh oe=true:=by unfold Oh;rw [h4]
 rcases xf with ⟨rfl,_⟩ | ⟨d,rfl,_,hd⟩
 ·exact ⟨oe,none,⟨h1,h2,hn,by rw [h3];exact Mf⟩,rfl,λd z=>by cases z⟩
 ·obtain ⟨m,⟨o,es,ep,k1,_⟩,_⟩:=I.hok d _ hd;exact ⟨oe,some o,⟨h1,h2,hn,by rw [h3];exact k1⟩,rfl,λd' z=>by cases z;exact ⟨o,rfl,k1⟩⟩
noncomputable def ri (T:String):Prop:=(∀(K:Gd) (t:String),t∈["NoneType","bool","int","str","tuple","list","dict"]->Ms K (.type t) (.type T)=some (bu t T))/\NV T=true/\DX.qO.contains (.type T)=false/\bu "exc" T=false
theorem rX:ri "int":=⟨λK t h=>by
 simp only [Gz,GP,or_false] at h;rcases h with rfl | rfl | rfl | rfl | rfl | rfl | rfl <;> rfl,by decide +kernel,by decide,by decide⟩
theorem lR:ri "bool":=⟨λK t h=>by
 simp only [Gz,GP,or_false] at h;rcases h with rfl | rfl | rfl | rfl | rfl | rfl | rfl <;> rfl,by decide +kernel,by decide,by decide⟩
theorem zu:ri "str":=⟨λK t h=>by
 simp only [Gz,GP,or_false] at h;rcases h with rfl | rfl | rfl | rfl | rfl | rfl | rfl <;> rfl,by decide +kernel,by decide,by decide⟩
theorem kit_tuple:ri "tuple":=⟨λK t h=>by
 simp only [Gz,GP,or_false] at h;rcases h with rfl | rfl | rfl | rfl | rfl | rfl | rfl <;> rfl,by decide +kernel,by decide,by decide⟩
theorem qT {T:String}(kit:ri T):
  dG X (.builtin "isinstance") (λxs H Q=>∃d x,xs=[x,.ty T]/\Rep X.K H d x/\Q (.bl (bu (bG d) T)) H):=by
 intro F3 s σ H xs us Q I r h;obtain ⟨d,x,rfl,hd,q⟩:=h;obtain ⟨u,w',rfl,rx,ry⟩:=vals2 r;cases ry;have fin:∀tk,EP X F3 σ Q (.bool (bu (bG d) T)) {s with toks:=tk}:=λtk=>⟨.bl _,H,I.tok tk,rfl,q⟩;have F:=ie I;cases hd with
 | non=>cases rx;exact Iu W.kitx_none I.kIn Mf (kit.1 X.K _ (by simp [bG])) (λz=>nomatch z) fin
 | bl y=>cases rx;exact Iu W.kitx_bool I.kIn Mf (kit.1 X.K _ (by simp [bG])) (λz=>nomatch z) fin
 | int i=>obtain ⟨t,rfl⟩:=rx;exact Iu W.kitx_int I.kIn Mf (kit.1 X.K _ (by simp [bG])) (λz=>nomatch z) fin
 | str y=>obtain ⟨t,rfl⟩:=rx;exact Iu W.kitx_str I.kIn Mf (kit.1 X.K _ (by simp [bG])) (λz=>nomatch z) fin
 | tup h hs=>
  cases rx;obtain ⟨its,r,o,h1,h2,_⟩:=F.t _ _ h;exact Iu W.kitx_tuple I.kIn ⟨o,h1,h2⟩ (kit.1 X.K _ (by simp [bG])) (λz=>nomatch z) fin
 | lst h hs=>
  cases rx;obtain ⟨its,r,o,h1,h2,_⟩:=F.l _ _ h;exact Iu W.kitx_list I.kIn ⟨o,h1,h2⟩ (kit.1 X.K _ (by simp [bG])) (λz=>nomatch z) fin
 | emp h=>
  cases rx;obtain ⟨o,h1,h2⟩:=F.e _ h;exact Iu Nd I.kIn ⟨o,h1,h2⟩ (kit.1 X.K _ (by simp [bG])) (λz=>nomatch z) fin
 | dct h _ _ _ _=>
  cases rx;obtain ⟨o,es,h1,h2,_⟩:=F.d _ _ _ h;exact Iu Nd I.kIn ⟨o,h1,h2.1⟩ (kit.1 X.K _ (by simp [bG])) (λz=>nomatch z) fin
 | exn h1 h2 h3 hs hx=>
  cases rx;obtain ⟨P,G,E⟩:=hx;obtain ⟨ox,od,J,_⟩:=wV I h1 h3;simp only [bG,kit.2.2.2] at fin;exact Iu (DX.w_ G E) I.kIn ⟨ox,od,J⟩ (DX.A_ E kit.2.1 kit.2.2.1) (λz=>nomatch z) fin
def bE (T:String) (g:G R):G R:=λenv=>g env >>= λr=>.ok (.d (.bl (bu (bG r.dat) T)))
noncomputable def jh:List D->Option (List Bool)
 | []=>some []
 | .bl k::r=>(jh r).map (k::·)
 | _::_=>none
theorem oA {K:Gd}{J:Hp}:∀{ds:List D}{vs:List V}{ks:List Bool},jh ds=some ks->aD K J ds vs->vs=ks.map V.bl
 | [],_,_,h,.nil=>by cases h;rfl
 | .bl x::r,_,ks,h,.cons q rs=>by
  unfold jh at h;cases z:jh r with
  | none=>rw [z] at h;cases h
  | some ks'=>
   rw [z] at h;cases h;cases q;rw [oA z rs];rfl
theorem qN:∀{ks:List Bool}{us:List Ge},Vals (ks.map V.bl) us->us=ks.map K1
 | [],_,.nil=>rfl
 | k::ks,_,.cons r rs=>by cases r;rw [qN rs];rfl
theorem all_range (ks:List Bool):(Gg ks.length).all (λi=>ks.getD i true)=ks.all id:=by
 induction ks with
 | nil=>rfl
 | cons k r ih=>
  rw [JN,LU,KW,Nr,KW];simp only [List.getD_cons_zero];rw [<-ih];rfl
theorem uL (hc:X.calm=true):dG X (.builtin "all") (λxs H Q=>∃(p:GF) (ks:List Bool),xs=[.ref p]/\cg X.K H p (ks.map V.bl)/\Q (.bl (ks.all id)) H):=by
 intro F3 s σ H xs us Q I r h;obtain ⟨p,ks,rfl,hq,q⟩:=h;obtain ⟨u,rfl,rx⟩:=vals1 r;cases rx;obtain ⟨its,r',pl,hz⟩:=I.list hq;have hi:=qN r';subst hi;have FU:p≠s.heap.objs.size:=by obtain ⟨o,h1,_⟩:=pl.isList;exact G9 (Gx h1)
 refine call_all_walk (Ly pl.isList ⟨s.heap.objs.size,_,_,_,_,_,(λi=>ks.getD i true),rfl,Walks.list (A:=X.A.in1) (show X.A.in1.handled=none from I.ok.hd hc) s.heap.objs.size p FU (ks.map K1).toArray,⟨⟨_,Gu _ rfl,rfl,rfl⟩,ND pl.isList _⟩,?_,λh' tk k=>?_⟩)
 ·intro i v s' Q' E' hP hQ;have e:∃k,ks[i]?=some k/\v=.bool k:=by
   have hP':(ks.map K1)[i]?=some v:=by simpa using hP
   rw [GK] at hP';cases z:ks[i]? with
   | none=>rw [z] at hP';cases hP'
   | some k=>rw [z] at hP';cases hP';exact ⟨k,rfl,rfl⟩
  obtain ⟨k,e1,rfl⟩:=e;simp only at hQ;rw [G6,e1] at hQ;exact Jz hQ
 ·have sz:(ks.map K1).toArray.size=ks.length:=by simp
  rw [sz,all_range];refine ⟨.bl (ks.all id),H,?_,rfl,q⟩;refine I.kept λb o e=>k b o (λz=>?_) (Gh _ e);have:b=s.heap.objs.size:=by simpa using z
  exact absurd (this▸Gx e) (Ik _)
noncomputable def nM:List R->M R
 | [r]=>gV r >>= λxs=>match jh xs with
  | some ks=>.ok (.d (.bl (ks.all id)))
  | none=>.bad
 | _=>.bad
theorem uJ:Hw "all"=some (.builtin "all"):=by decide +kernel
theorem AE {H:Hp}{s:Gf}(I:Inv X F3 σ H s):Lv < s.heap.objs.size:=by have h:GL < s.heap.objs.size:=(I.mod.glob.keeps I.bk).lt;exact Jj (by decide) h
theorem vo:dU X (JB .Add) (λx y H Q=>∃a b xs ys,x=.ref a/\y=.ref b/\cZ X.K H a xs/\cZ X.K H b ys/\xs.length + ys.length<=sizeLine/\
  (xs=[]->Q (.ref b) H)/\(ys=[]->Q (.ref a) H)/\∀p,H p=none->Q (.ref p) (upd H p (.tup (xs++ys)))):=by
 intro F3 s σ H x y v u Q I rx ry h;obtain ⟨a,b,xs,ys,rfl,rfl,ha,hb,hz,q0,q1,q2⟩:=h;by_cases hx:xs=[]
 ·cases rx;cases ry;obtain ⟨its,r1,p1,_⟩:=I.tuple ha;obtain ⟨its2,r2,p2,_⟩:=I.tuple hb;have he:its=[]:=r1.nil_iff.mpr hx;subst he;obtain ⟨⟨cls,dd,data,sl⟩,ho,hc,n,hd⟩:=id p1;obtain ⟨⟨cls2,dd2,data2,sl2⟩,ho2,hc2,n2,hd2⟩:=id p2;simp only at hc hd hc2 hd2;subst hc hd hc2 hd2;exact Np ⟨_,ho,rfl⟩ ⟨_,ho2,rfl⟩ LL MO Ko JW (JR _ _) (tuple_addW0 a b _ _ n n2 dd dd2 sl sl2 rfl) ⟨ho,ho2,⟨.ref b,H,I,rfl,q0 hx⟩⟩
 ·exact zC F3 s σ H (.ref a) (.ref b) v u Q I rx ry ⟨a,b,xs,ys,rfl,rfl,ha,hb,hx,hz,q1,λ_=>q2⟩
noncomputable def sZ:R->R->M R
 | .d (.tup xs),.d (.tup ys)=>if xs.length + ys.length<=sizeLine then .ok (.d (.tup (xs++ys))) else .bad
 | _,_=>.bad
theorem y9 (hK:X.K=c.K):BD c (λx y H Q=>∃a b xs ys,x=.ref a/\y=.ref b/\cZ X.K H a xs/\cZ X.K H b ys/\xs.length + ys.length<=sizeLine/\
  (xs=[]->Q (.ref b) H)/\(ys=[]->Q (.ref a) H)/\∀p,H p=none->Q (.ref p) (upd H p (.tup (xs++ys)))) sZ:=by
 intro He He' J H x y u v Q hp rx ry w;unfold sZ at w;split at w
 ·rename_i ds es;cases rx with
  | tup h1 s1=>
   cases ry with
   | tup h2 s2=>
    split at w
    ·rename_i hz;rw [s1.length,s2.length] at hz;refine ⟨_,_,_,_,rfl,rfl,by rw [hK];exact eL hp.sub h1,by rw [hK];exact eL hp.sub h2,hz,λe=>?_,λe=>?_,λp hp'=>w _ _ _ (Ext.newJ hp.sub hp' _) (ku hp hp' (s1.append s2))⟩
     ·have e':ds=[]:=KJ (by rw [s1.length,e];rfl);subst e';exact w _ J H (Ext.refl hp.sub) (.tup h2 s2)
     ·have e':es=[]:=KJ (by rw [s2.length,e];rfl);subst e';rw [HL] at w;exact w _ J H (Ext.refl hp.sub) (.tup h1 s1)
    ·exact w.elim
 ·exact w.elim
noncomputable def yE:R->Bool
 | .d (.tup _)=>true
 | _=>false
def gX (x y:R):M R:=if yE x then sZ x y else bK x y
def signs (x:Str):List D:=x.cps.toList.map λk=>.str ⟨#[k]⟩
noncomputable def EB (g:G R):G (List D):=λenv=>g env >>= λr=>match r with
 | .d (.str x)=>.ok (signs x)
 | _=>.bad
theorem qZ {prog:GG}{w:Hi}{A:G3}{E:Ge->Gf->Prop}{s:Gf}{t sl:GF}{F4:Array Ge}{vl vu:Ge}{lo hi:Option Int}{Q:Ge->Gf->Prop}(ht:Qg s.heap t F4) (hs:s.heap.IsSliceOf sl vl vu .none) (pl:MP vl lo) (pu:MP vu hi)
  (hw:HT.br F4.size 0 lo=0/\HT.br F4.size F4.size hi=F4.size) (h:Q (.ref t) s):GH (GD prog w) A (M7 (.ref t) (.ref sl)) Q E s:=by
 obtain ⟨os,hos,hcs,hds⟩:=id hs;have Fd:s.TypeIs (.ref sl) "slice":=⟨os,hos,hcs⟩;unfold M7
 try with_reducible refine Im ?_
 first | refine Gb (Gk ?_) | skip
 refine Gb (M8 ht.typeIs (by decide) ?_);refine Gb (HX (name:=KA "__getitem__") ht.typeIs Hg
  (Ia Hg ht.typeIs Mz ?_ (MQ _ _)))
 show GH _ _ (Lf (.ref t) >>= _) _ _ s;refine Gb (OG ht ?_);refine Gb (Nq Fd ?_);rw [if_pos (by decide)];refine Gb (HT.iJ hs pl pu ?_);have hyes:(((HT.br F4.size 0 lo:Nat):Int) == 0 && (1:Int) == 1 && (HT.br F4.size F4.size hi - HT.br F4.size 0 lo) == F4.size)=true:=by rw [hw.1,hw.2];simp
 show GH _ _ (if (((HT.br F4.size 0 lo:Nat):Int) == 0 && (1:Int) == 1 && (HT.br F4.size F4.size hi - HT.br F4.size 0 lo) == F4.size)=true then _ else _) _ _ s;rw [if_pos hyes];unfold Ob;refine Gb (Gb (Nq ht.typeIs (Gk ?_)));rw [if_pos (by decide)];exact Gb (Jr (Gk ⟨_,rfl,Gk h⟩))
theorem vL:l7 X (λx lo hi H Q=>∃a xs,x=.ref a/\cZ X.K H a xs/\((HT.br xs.length 0 lo=0/\HT.br xs.length xs.length hi=xs.length)->Q (.ref a) H)/\∀p,H p=none->Q (.ref p) (upd H p (.tup (iT xs lo hi)))):=by
 intro F3 s σ H x v vl vu lo hi sl Q I rx hs pl pu h;obtain ⟨a,xs,rfl,hx,q0,q1⟩:=h;by_cases hw:HT.br xs.length 0 lo=0/\HT.br xs.length xs.length hi=xs.length
 ·cases rx;obtain ⟨its,r,ht,hz⟩:=I.tuple hx;have hlen:its.toArray.size=xs.length:=by rw [Gq];exact r.length.symm
  exact ⟨"tuple",_,Hg.lookup,ht.typeIs,qZ ht hs pl pu (by rw [hlen];exact hw) ⟨.ref a,H,I,rfl,q0 hw⟩⟩
 ·exact BZ F3 s σ H (.ref a) v vl vu lo hi sl Q I rx hs pl pu ⟨a,xs,rfl,hx,hw,q1⟩
theorem sV {xs:List D}{lo hi:Option Int}(h:HT.br xs.length 0 lo=0/\HT.br xs.length xs.length hi=xs.length):cutD xs lo hi=xs:=by unfold cutD;rw [h.1,h.2];simp
noncomputable def wX:R->Option Int->Option Int->M R
 | .d (.tup xs),l,u=>.ok (.d (.tup (cutD xs l u)))
 | _,_,_=>.bad
theorem D9 (hK:X.K=c.K) (He J H:Hp) (x:R) (v:V) (l u:Option Int) (Q:VK) (hp:HI c J H) (rx:RR c He J H x v) (w:b_ (wX x l u) (λz=>∀w J' H',Ext J H J' H'->RR c H J' H' z w->Q w H') c.T):
  ∃a xs,v=.ref a/\cZ X.K H a xs/\((HT.br xs.length 0 l=0/\HT.br xs.length xs.length u=xs.length)->Q (.ref a) H)/\∀p,H p=none->Q (.ref p) (upd H p (.tup (iT xs l u))):=by
 unfold wX at w;split at w
 ·rename_i ds;cases rx with
  | tup h1 s1=>
   refine ⟨_,_,rfl,by rw [hK];exact eL hp.sub h1,λhw=>?_,λp hp'=>w _ _ _ (Ext.newJ hp.sub hp' _) (ku hp hp' (s1.cut _ _))⟩;rw [<-s1.length] at hw;rw [sV hw] at w;exact w _ J H (Ext.refl hp.sub) (.tup h1 s1)
 ·exact w.elim
def lO (x:R) (l u:Option Int):M R:=if yE x then wX x l u else DI x l u
end
structure gw (prog:GG) (w:Hi) (it src:GF) (vals:Array Ge) (St:Nat->Ij->Prop):Prop where
 keep:∀(k:Nat) (h h':Ij),St k h->(∀o,h.get? it=some o->h'.get? it=some o)->(∀o,h.get? src=some o->h'.get? src=some o)->St k h'
 there:∀(k:Nat) (h:Ij),St k h->∃o,h.get? it=some o/\∀v,o.data≠.cell v
 item:∀(A:G3) (s:Gf) (k:Nat) (x:Ge) (Q:Ge->Gf->Prop) (E:Ge->Gf->Prop),St k s.heap->vals[k]?=some x->(∀h',St (k + 1) h'->IV it s.heap h'->Q x {s with heap:=h'})->
  GH (GD prog w) A (GZ (.ref it)) Q E s
 fin:∀(A:G3) (s:Gf) (k:Nat) (Q:Ge->Gf->Prop) (E:Ge->Gf->Prop),A.handled=none->St k s.heap->vals[k]?=none->
  (∀h' e,PF it s.heap h'->(∃o,h'.get? e=some o/\o.cls=.type "StopIteration")->E (.ref e) {s with heap:=h'})->GH (GD prog w) A (GZ (.ref it)) Q E s
theorem iN (prog:GG) (w:Hi) (it l:GF) (vals:Array Ge) (hne:l≠it):gw prog w it l vals (λk h=>h.IsListIter it l k/\h.IsList l vals) where
 keep:=λk h h' st k1 k2=>⟨st.1.at λo e=>k1 o e,st.2.at λo e=>k2 o e⟩
 there:=λk h st=>by obtain ⟨⟨o,e,_,d⟩,_⟩:=st;exact ⟨o,e,λv z=>by rw [d] at z;cases z⟩
 item:=λA s k x Q E st hx hQ=>wpAny_nextOf_list_item st.1 st.2 hx λh' a1 a2=>hQ h' ⟨a1,st.2.extBut a2.extBut hne⟩ a2
 fin:=λA s k Q E hh st hx hE=>wpAny_nextOf_list_end hh st.1 st.2 hx hE
theorem next_tuple_item {prog:GG}{w:Hi}{A:G3}{E:Ge->Gf->Prop}{s:Gf}{it t:GF}{k:Nat}{vals:Array Ge}{x:Ge}{Q:Ge->Gf->Prop}(hit:s.heap.IsTupleIter it t k) (ht:s.heap.IsTuple t vals) (hx:vals[k]?=some x)
  (hQ:∀h',h'.IsTupleIter it t (k + 1)->IV it s.heap h'->Q x {s with heap:=h'}):GH (GD prog w) A (GZ (.ref it)) Q E s:=by obtain ⟨oi,E2,Fz,hdi⟩:=id hit;obtain ⟨ot,Fq,_,nt,hdt⟩:=ht;unfold GZ;refine Gb (HX (name:=KA "__next__") hit.typeIs IP (Ia IP hit.typeIs K9 ?_ (KZ _)));show GH _ _ (field (.ref it) 0 >>= _) _ _ s;refine Gb (HW E2 hdi (x:=.ref t) rfl ?_);show GH _ _ (if (Lu t == HD)=true then _ else _) _ _ s;rw [if_neg (show ¬(Lu t == HD)=true from λz=>G4 z)];show GH _ _ (field (.ref it) 1 >>= _) _ _ s;refine Gb (HW E2 hdi (x:=.int k 0) rfl ?_);show GH _ _ (seqItems? (.ref t) >>= _) _ _ s;refine Gb (Ja Fq hdt ?_);simp only [Jd,hx];refine Gb (Oi E2 hdi (by simp) (Gk ⟨x,rfl,Gk (hQ _ ?_ (MC ..))⟩));exact ⟨_,L8 _ E2 (Obj.isFreed_of_fields (MV hdi _)),(Obj.cls_mapFields ..).trans Fz,by rw [MV hdi] <;> simp [OY]⟩
theorem next_tuple_end {prog:GG}{w:Hi}{A:G3}{E:Ge->Gf->Prop}{s:Gf}{it t:GF}{k:Nat}{vals:Array Ge}{Q:Ge->Gf->Prop}(hh:A.handled=none) (hit:s.heap.IsTupleIter it t k) (ht:s.heap.IsTuple t vals) (hx:vals[k]?=none)
  (hE:∀h' e,PF it s.heap h'->(∃o,h'.get? e=some o/\o.cls=.type "StopIteration")->E (.ref e) {s with heap:=h'}):GH (GD prog w) A (GZ (.ref it)) Q E s:=by
 obtain ⟨oi,E2,Fz,hdi⟩:=id hit;obtain ⟨ot,Fq,_,nt,hdt⟩:=ht;unfold GZ;refine Gb (HX (name:=KA "__next__") hit.typeIs IP (Ia IP hit.typeIs K9 ?_ (KZ _)));show GH _ _ (field (.ref it) 0 >>= _) _ _ s;refine Gb (HW E2 hdi (x:=.ref t) rfl ?_);show GH _ _ (if (Lu t == HD)=true then _ else _) _ _ s;rw [if_neg (show ¬(Lu t == HD)=true from λz=>G4 z)];show GH _ _ (field (.ref it) 1 >>= _) _ _ s;refine Gb (HW E2 hdi (x:=.int k 0) rfl ?_);show GH _ _ (seqItems? (.ref t) >>= _) _ _ s;refine Gb (Ja Fq hdt ?_);simp only [Jd,hx];refine Gb (Jr (Gb (Oi E2 hdi (by simp) ?_)));show GH _ _ (newExc (.type "StopIteration") [] >>= _) _ _ _;refine Gb ?_;simp only [newExc,newTuple];refine Gb (Ic ?_ (by size_fits));refine Gb (m:=Oj _ _) (wpAny_of_eq (a:=HD) (by first | rfl | (simp only [Oj];rfl)) ?_);refine Ic ?_ (by size_fits);simp only [raiseNew];refine Gb (wpAny_handled ?_)
 first | rw [show A.in1.handled=none from hh] | rw [hh]
 refine Gb (Gk (wpAny_throw ?_));exact hE _ _ (((MC ..).extBut.push _).push _) ⟨_,Gu _ rfl,rfl⟩
theorem gY (prog:GG) (w:Hi) (it t:GF) (vals:Array Ge) (hne:t≠it):gw prog w it t vals (λk h=>h.IsTupleIter it t k/\h.IsTuple t vals) where
 keep:=λk h h' st k1 k2=>by obtain ⟨⟨o,e,r⟩,⟨o2,e2,r2⟩⟩:=st;exact ⟨⟨o,k1 o e,r⟩,⟨o2,k2 o2 e2,r2⟩⟩
 there:=λk h st=>by obtain ⟨⟨o,e,_,d⟩,_⟩:=st;exact ⟨o,e,λv z=>by rw [d] at z;cases z⟩
 item:=λA s k x Q E st hx hQ=>next_tuple_item st.1 st.2 hx λh' a1 a2=>hQ h' ⟨a1,st.2.extBut a2.extBut hne⟩ a2
 fin:=λA s k Q E hh st hx hE=>next_tuple_end hh st.1 st.2 hx hE
section
variable {prog:GG}{w:Hi}{A:G3}{E:Ge->Gf->Prop}{s:Gf}
theorem q8 {z TI TO i1 i2 l1 l2:GF}{k:Nat}{xs ys:Array Ge}{x y a b:Ge}{S1 S2:Nat->Ij->Prop}{Q:Ge->Gf->Prop}(N1:gw prog w i1 l1 xs S1) (N2:gw prog w i2 l2 ys S2) (D:MW z TI TO i1 i2 l1 l2)
  (hz:MX s.heap z TI TO .none) (hTI:JZ s.heap TI (.ref i1) (.ref i2)) (hTO:JZ s.heap TO a b) (st1:S1 k s.heap) (st2:S2 k s.heap) (hx:xs[k]?=some x) (hy:ys[k]?=some y)
  (hQ:∀h',MX h' z TI TO (OY s.heap.objs.size)->JZ h' TO x y->S1 (k + 1) h'->S2 (k + 1) h'->JZ h' s.heap.objs.size x y->h'.objs.size=s.heap.objs.size + 1->
   (∀q o,q≠z->q≠TO->q≠i1->q≠i2->s.heap.get? q=some o->h'.get? q=some o)->Q (.ref s.heap.objs.size) {s with heap:=h'}):
  GH (GD prog w) A (K6.«zip.__next__» ⟨[.ref z],[]⟩) (λfin s'=>∃v,fin=.done (.ret v)/\Q v s') E s:=by
 have move:∀{S:Nat->Ij->Prop}{it src q:GF}{vals:Array Ge}{m:Nat}{h h':Ij},gw prog w it src vals S->S m h->IV q h h'->it≠q->src≠q->S m h':=λN st sb n1 n2=>N.keep _ _ _ st (λo e=>sb.extBut _ _ n1 e) λo e=>sb.extBut _ _ n2 e;show GH _ _ (field (.ref z) 2 >>= _) _ _ _;refine Gb (HW hz rfl (x:=.bool false) rfl ?_);show GH _ _ (field (.ref z) 3 >>= _) _ _ _;refine Gb (HW hz rfl (x:=.ref TI) rfl ?_);refine Gb (Ja hTI rfl ?_);show GH _ _ (HR (.ref z) >>= _) _ _ _;refine Gb ?_;unfold HR;refine Gb (HW hz rfl (x:=.none) rfl (Gk ?_));simp only [if_true];refine Gb (Jr ?_);refine Gb (HW hz rfl (x:=.ref TO) rfl ?_);refine Gb (IW hz (by simp) λg1 z1 b1=>?_)
 replace z1:MX g1 z TI TO .ellipsis:=z1
 refine Gb ?_;simp only [LN,NX,L7,Mu];refine Gb (Gb (LH ?_));show GH _ _ (GZ (.ref i1) >>= _) _ _ _;refine Gb (N1.item _ _ k x _ _ (move N1 st1 b1 D.i1z D.l1z) hx λg2 p1 b2=>Gk ?_);have o2:JZ g2 TO a b:=b2.extBut _ _ D.TOi1 (b1.extBut _ _ D.TOz hTO);refine Gb (Ja o2 rfl ?_);refine Gb (KS o2 λg3 o3 b3=>?_)
 replace o3:JZ g3 TO x b:=o3
 refine Gb (NY (Gk ?_));refine Gb (Gb (LH ?_));show GH _ _ (GZ (.ref i2) >>= _) _ _ _;have q2:=move N2 (move N2 (move N2 st2 b1 D.i2z D.l2z) b2 D.i12.symm D.l2i1) b3 D.TOi2.symm D.l2TO;refine Gb (N2.item _ _ k y _ _ q2 hy λg4 p2 b4=>Gk ?_);have o4:JZ g4 TO x b:=b4.extBut _ _ D.TOi2 o3;refine Gb (Ja o4 rfl ?_);refine Gb (KS o4 λg5 o5 b5=>?_)
 replace o5:JZ g5 TO x y:=o5
 refine Gb (NY (Gk (Gk ?_)));refine Gb (Ja o5 rfl ?_);refine Gb (Ln ?_);have sz5:g5.objs.size=s.heap.objs.size:=by rw [b5.1,b4.1,b3.1,b2.1,b1.1]
 have z5:MX g5 z TI TO .ellipsis:=b5.extBut _ _ D.TOz.symm (b4.extBut _ _ D.i2z.symm (b3.extBut _ _ D.TOz.symm (b2.extBut _ _ D.i1z.symm z1)));have k5:∀q o,q≠z->q≠TO->q≠i1->q≠i2->s.heap.get? q=some o->g5.get? q=some o:=λq o c1 c2 c3 c4 e=>b5.extBut _ _ c2 (b4.extBut _ _ c4 (b3.extBut _ _ c2 (b2.extBut _ _ c3 (b1.extBut _ _ c1 e))));have p15:S1 (k + 1) g5:=move N1 (move N1 (move N1 p1 b3 D.TOi1.symm D.l1TO) b4 D.i12 D.l1i2) b5 D.TOi1.symm D.l1TO;have p25:S2 (k + 1) g5:=move N2 p2 b5 D.TOi2.symm D.l2TO;have zlt:z < g5.objs.size:=Gx z5;show GH _ _ (JL (.ref z) (.ref g5.objs.size) >>= _) _ _ _;refine Gb ?_;unfold JL;have z6:MX (g5.push {cls:=.type "tuple",data:=.seq #[x,y]}) z TI TO .ellipsis:=Gh _ z5;refine Gb (IW z6 (by simp) λg7 z7 b7=>?_)
 replace z7:MX g7 z TI TO (OY g5.objs.size):=z7
 refine IW z7 (by simp) λg8 z8 b8=>?_
 replace z8:MX g8 z TI TO (OY g5.objs.size):=z8
 have up:∀q o,q≠z->g5.get? q=some o->g8.get? q=some o:=λq o c1 e=>b8.extBut _ _ c1 (b7.extBut _ _ c1 (Gh _ e));have t8:JZ g8 g5.objs.size x y:=b8.extBut _ _ (Lg zlt) (b7.extBut _ _ (Lg zlt) (Gu _ rfl));have sz8:g8.objs.size=g5.objs.size + 1:=by rw [b8.1,b7.1,IE]
 rw [sz5] at z8 t8 sz8;refine Gk ⟨_,rfl,?_⟩;show Q (.ref g5.objs.size) _;rw [sz5];exact hQ g8 z8 (up _ _ D.TOz o5) (N1.keep _ _ _ p15 (λo e=>up _ o D.i1z e) λo e=>up _ o D.l1z e) (N2.keep _ _ _ p25 (λo e=>up _ o D.i2z e) λo e=>up _ o D.l2z e) t8 sz8 λq o c1 c2 c3 c4 e=>up q o c1 (k5 q o c1 c2 c3 c4 e)
theorem uq {z TI TO i1 i2 l1 l2:GF}{k:Nat}{xs ys:Array Ge}{a b:Ge}{S1 S2:Nat->Ij->Prop}{Q:Fin->Gf->Prop}(hh:A.handled=none) (N1:gw prog w i1 l1 xs S1) (N2:gw prog w i2 l2 ys S2) (D:MW z TI TO i1 i2 l1 l2)
  (hz:MX s.heap z TI TO .none) (hTI:JZ s.heap TI (.ref i1) (.ref i2)) (hTO:JZ s.heap TO a b) (st1:S1 k s.heap) (st2:S2 k s.heap) (hend:xs[k]?=none\/ys[k]?=none)
  (hE:∀h' e,(∀q o,q≠z->q≠TO->q≠i1->q≠i2->s.heap.get? q=some o->h'.get? q=some o)->(∃o,h'.get? e=some o/\o.cls=.type "StopIteration")->E (.ref e) {s with heap:=h'}):
  GH (GD prog w) A (K6.«zip.__next__» ⟨[.ref z],[]⟩) Q E s:=by
 have move:∀{S:Nat->Ij->Prop}{it src q:GF}{vals:Array Ge}{m:Nat}{h h':Ij},gw prog w it src vals S->S m h->IV q h h'->it≠q->src≠q->S m h':=λN st sb n1 n2=>N.keep _ _ _ st (λo e=>sb.extBut _ _ n1 e) λo e=>sb.extBut _ _ n2 e;show GH _ _ (field (.ref z) 2 >>= _) _ _ _;refine Gb (HW hz rfl (x:=.bool false) rfl ?_);show GH _ _ (field (.ref z) 3 >>= _) _ _ _;refine Gb (HW hz rfl (x:=.ref TI) rfl ?_);refine Gb (Ja hTI rfl ?_);show GH _ _ (HR (.ref z) >>= _) _ _ _;refine Gb ?_;unfold HR;refine Gb (HW hz rfl (x:=.none) rfl (Gk ?_));simp only [if_true];refine Gb (Jr ?_);refine Gb (HW hz rfl (x:=.ref TO) rfl ?_);refine Gb (IW hz (by simp) λg1 z1 b1=>?_)
 replace z1:MX g1 z TI TO .ellipsis:=z1
 refine Gb ?_;simp only [LN,NX,L7,Mu];refine Gb (Gb (LH ?_));show GH _ _ (GZ (.ref i1) >>= _) _ _ _;cases hx:xs[k]? with
 | none=>
  refine Gb (N1.fin _ _ k _ _ hh (move N1 st1 b1 D.i1z D.l1z) hx λg2 e b2 he=>?_);obtain ⟨oe,E5,hce⟩:=he;have z2:MX g2 z TI TO .ellipsis:=b2 _ _ D.i1z.symm z1;have Fg:e≠z:=λq=>by subst q;rw [z2] at E5;cases E5;simp at hce
  refine IW z2 (by simp) λg3 _ b3=>hE g3 e (λq o c1 _ c3 _ u=>b3.extBut _ _ c1 (b2 _ _ c3 (b1.extBut _ _ c1 u))) ⟨oe,b3.extBut _ _ Fg E5,hce⟩
 | some x=>
  have hy:ys[k]?=none:=by rcases hend with h | h;rw [hx] at h;cases h;exact h
  refine Gb (N1.item _ _ k x _ _ (move N1 st1 b1 D.i1z D.l1z) hx λg2 p1 b2=>Gk ?_);have o2:JZ g2 TO a b:=b2.extBut _ _ D.TOi1 (b1.extBut _ _ D.TOz hTO);refine Gb (Ja o2 rfl ?_);refine Gb (KS o2 λg3 o3 b3=>?_);refine Gb (NY (Gk ?_));refine Gb (Gb (LH ?_));show GH _ _ (GZ (.ref i2) >>= _) _ _ _;have q2:=move N2 (move N2 (move N2 st2 b1 D.i2z D.l2z) b2 D.i12.symm D.l2i1) b3 D.TOi2.symm D.l2TO;refine Gb (N2.fin _ _ k _ _ hh q2 hy λg4 e b4 he=>?_);obtain ⟨oe,E5,hce⟩:=he;have z4:MX g4 z TI TO .ellipsis:=b4 _ _ D.i2z.symm (b3.extBut _ _ D.TOz.symm (b2.extBut _ _ D.i1z.symm z1));have Fg:e≠z:=λq=>by subst q;rw [z4] at E5;cases E5;simp at hce
  refine IW z4 (by simp) λg5 _ b5=>hE g5 e (λq o c1 c2 c3 c4 u=>b5.extBut _ _ c1 (b4 _ _ c4 (b3.extBut _ _ c2 (b2.extBut _ _ c3 (b1.extBut _ _ c1 u))))) ⟨oe,b5.extBut _ _ Fg E5,hce⟩
theorem pG {z TI TO i1 i2 l1 l2:GF}{k:Nat}{xs ys:Array Ge}{x y a b:Ge}{S1 S2:Nat->Ij->Prop}{Q:Option Ge->Gf->Prop}(N1:gw prog w i1 l1 xs S1) (N2:gw prog w i2 l2 ys S2) (D:MW z TI TO i1 i2 l1 l2)
  (hz:MX s.heap z TI TO .none) (hTI:JZ s.heap TI (.ref i1) (.ref i2)) (hTO:JZ s.heap TO a b) (st1:S1 k s.heap) (st2:S2 k s.heap) (hx:xs[k]?=some x) (hy:ys[k]?=some y)
  (hQ:∀h',MX h' z TI TO (OY s.heap.objs.size)->JZ h' TO x y->S1 (k + 1) h'->S2 (k + 1) h'->JZ h' s.heap.objs.size x y->h'.objs.size=s.heap.objs.size + 1->
   (∀q o,q≠z->q≠TO->q≠i1->q≠i2->s.heap.get? q=some o->h'.get? q=some o)->Q (some (.ref s.heap.objs.size)) {s with heap:=h'}):GH (GD prog w) A (Nm (.ref z)) Q E s:=by
 have zt:s.TypeIs (.ref z) "zip":=⟨_,hz,rfl⟩;unfold Nm;exact Gb (KU (HX (name:=KA "__next__") zt K_ (Ia K_ zt NF
   (q8 N1 N2 D hz hTI hTO st1 st2 hx hy λh' a1 a2 a3 a4 a5 a6 a7=>Gk (hQ h' a1 a2 a3 a4 a5 a6 a7)) (Nf _))))
theorem mW {z TI TO i1 i2 l1 l2:GF}{k:Nat}{xs ys:Array Ge}{a b:Ge}{S1 S2:Nat->Ij->Prop}{Q:Option Ge->Gf->Prop}(hh:A.handled=none) (N1:gw prog w i1 l1 xs S1) (N2:gw prog w i2 l2 ys S2) (D:MW z TI TO i1 i2 l1 l2)
  (hz:MX s.heap z TI TO .none) (hTI:JZ s.heap TI (.ref i1) (.ref i2)) (hTO:JZ s.heap TO a b) (st1:S1 k s.heap) (st2:S2 k s.heap) (hend:xs[k]?=none\/ys[k]?=none)
  (hQ:∀h',(∀q o,q≠z->q≠TO->q≠i1->q≠i2->s.heap.get? q=some o->h'.get? q=some o)->Q none {s with heap:=h'}):GH (GD prog w) A (Nm (.ref z)) Q E s:=by have zt:s.TypeIs (.ref z) "zip":=⟨_,hz,rfl⟩;unfold Nm;refine Gb (KU (HX (name:=KA "__next__") zt K_ (Ia K_ zt NF (uq hh N1 N2 D hz hTI hTO st1 st2 hend λh' e hk he=>?_) (Nf _))));obtain ⟨o,ho,hc⟩:=he;exact Gb (wpAny_isInstance (T:="StopIteration") (b:=true) ⟨o,ho,hc⟩ isSubtype_stop (Gk (hQ _ hk)))
end
abbrev v5 (h:Ij) (o1 o2:Obj):Ij:=((h.push o1).push o2).push {cls:=.type "tuple",data:=.seq #[.ref h.objs.size,.ref (h.push o1).objs.size]}
abbrev v7 (h:Ij) (o1 o2:Obj):Ij:=(v5 h o1 o2).push {cls:=.type "tuple",data:=.seq #[.none,.none]}
abbrev v9 (h:Ij) (o1 o2:Obj):Ij:=(v7 h o1 o2).push {cls:=.type "zip",data:=.fields #[.none,.bool false,.bool false,.ref ((h.push o1).push o2).objs.size,.ref (v5 h o1 o2).objs.size]}
def bO (k:String) (l:GF):Obj:={cls:=.type k,data:=.fields #[.ref l,.int 0 0]}
def jL (k:String) (h:Ij) (l:GF) (vals:Array Ge):Prop:=(k="list_iterator"/\h.IsList l vals)\/(k="tuple_iterator"/\h.IsTuple l vals)
theorem jL.push {k:String}{h:Ij}{l:GF}{vals:Array Ge}(x:jL k h l vals) (o:Obj):jL k (h.push o) l vals:=x.elim (λx=>.inl ⟨x.1,ND x.2 _⟩) λx=>.inr ⟨x.1,P6 x.2 _⟩
theorem qC {prog:GG}{w:Hi}{A:G3}{E:Ge->Gf->Prop}{s:Gf}{k:String}{l:GF}{vals:Array Ge}{Q:Ge->Gf->Prop}(x:jL k s.heap l vals) (h:Q (.ref s.heap.objs.size) {s with heap:=s.heap.push (bO k l)}):GH (GD prog w) A (PR (.ref l)) Q E s:=by
 rcases x with ⟨rfl,x⟩ | ⟨rfl,x⟩
 ·exact Ly x h
 ·exact MY x h
theorem Am (k1 k2:String) (l1 l2:GF) (xs ys:Array Ge):
  Meets (K6.«zip.__new__» ⟨[.type "zip",.ref l1,.ref l2],[]⟩) (λ_ R s=>jL k1 s.heap l1 xs/\jL k2 s.heap l2 ys/\
   R (.ok (.ret (.ref (v7 s.heap (bO k1 l1) (bO k2 l2)).objs.size))) {s with heap:=v9 s.heap (bO k1 l1) (bO k2 l2)}):=
 .of_wp λprog w A R s h=>by
  obtain ⟨hp,g,d,tk,os⟩:=s;obtain ⟨q1,q2,h⟩:=h;have hsub:=sub_zip;have L1:jL k1 (PJ ⟨hp,g,d,tk,os⟩) l1 xs:=q1;have L2:jL k2 (PJ ⟨hp.push (bO k1 l1),g,d,tk,os⟩) l2 ys:=jL.push q2 _
  wp_walk using qC L1,qC L2
  exact ⟨_,rfl,h⟩
noncomputable def SQ (k:String) (it l:GF) (vals:Array Ge) (m:Nat) (h:Ij):Prop:=(k="list_iterator"/\h.IsListIter it l m/\h.IsList l vals)\/(k="tuple_iterator"/\h.IsTupleIter it l m/\h.IsTuple l vals)
def IQ (k:String) (it l:GF) (m:Nat) (h:Ij):Prop:=(k="list_iterator"/\h.IsListIter it l m)\/(k="tuple_iterator"/\h.IsTupleIter it l m)
theorem SQ.iq {k:String}{it l:GF}{vals:Array Ge}{m:Nat}{h:Ij}(x:SQ k it l vals m h):IQ k it l m h:=x.elim (λx=>.inl ⟨x.1,x.2.1⟩) λx=>.inr ⟨x.1,x.2.1⟩
theorem mw (prog:GG) (w:Hi) (k:String) (it l:GF) (vals:Array Ge) (hne:l≠it):gw prog w it l vals (SQ k it l vals) where
 keep:=λm h h' st k1 k2=>by
  rcases st with ⟨e,st⟩ | ⟨e,st⟩
  ·exact .inl ⟨e,(iN prog w it l vals hne).keep m h h' st k1 k2⟩
  ·exact .inr ⟨e,(gY prog w it l vals hne).keep m h h' st k1 k2⟩
 there:=λm h st=>by
  rcases st with ⟨e,st⟩ | ⟨e,st⟩
  ·exact (iN prog w it l vals hne).there m h st
  ·exact (gY prog w it l vals hne).there m h st
 item:=λA s m x Q E st hx hQ=>by
  rcases st with ⟨e,st⟩ | ⟨e,st⟩
  ·exact (iN prog w it l vals hne).item A s m x Q E st hx λh' a1 a2=>hQ h' (.inl ⟨e,a1⟩) a2
  ·exact (gY prog w it l vals hne).item A s m x Q E st hx λh' a1 a2=>hQ h' (.inr ⟨e,a1⟩) a2
 fin:=λA s m Q E hh st hx hE=>by
  rcases st with ⟨e,st⟩ | ⟨e,st⟩
  ·exact (iN prog w it l vals hne).fin A s m Q E hh st hx hE
  ·exact (gY prog w it l vals hne).fin A s m Q E hh st hx hE
def fM (k:String) (K:Gd) (H:Hp) (l:GF) (xs:List V):Prop:=(k="list_iterator"/\cg K H l xs)\/(k="tuple_iterator"/\cZ K H l xs)
section
variable {X:Cx}{F3:List (GF×Obj)}{σ:L2.St}{H:Hp}{s:Gf}
theorem fM.get {k:String}{l:GF}{xs:List V}(I:Inv X F3 σ H s) (h:fM k X.K H l xs):∃its:List Ge,Vals xs its/\jL k s.heap l its.toArray:=by
 rcases h with ⟨e,h⟩ | ⟨e,h⟩
 ·obtain ⟨its,r,p,_⟩:=I.list h;exact ⟨its,r,.inl ⟨e,p.isList⟩⟩
 ·obtain ⟨its,r,p,_⟩:=I.tuple h;exact ⟨its,r,.inr ⟨e,p⟩⟩
theorem fM.inj {k:String}{l:GF}{xs ys:List V}(I:Inv X F3 σ H s) (h:fM k X.K H l xs) (h':fM k X.K H l ys):xs=ys:=by
 rcases h with ⟨e,h⟩ | ⟨e,h⟩ <;> rcases h' with ⟨e',h'⟩ | ⟨e',h'⟩
 ·exact I.list_inj h h'
 ·rw [e] at e';exact absurd e' (by decide)
 ·rw [e] at e';exact absurd e' (by decide)
 ·exact I.tuple_inj h h'
theorem fM.ne {k:String}{l b:GF}{xs:List V}(I:Inv X F3 σ H s) (h:fM k X.K H l xs) (f:fQ X F3 H b):l≠b:=by
 have t:(∃o,H l=some o)\/∃o,X.K.lookup l=some o:=by
  rcases h with ⟨_,h⟩ | ⟨_,h⟩ <;> rcases h with (h | ⟨o,h⟩) | ⟨o,_,_,h,_⟩
  ·exact .inl ⟨_,h⟩
  ·exact .inl ⟨_,h⟩
  ·exact .inr ⟨o,h⟩
  ·exact .inl ⟨_,h⟩
  ·exact .inl ⟨_,h⟩
  ·exact .inr ⟨o,h⟩
 rintro rfl;rcases t with ⟨o,t⟩ | ⟨o,t⟩
 ·rw [f.1] at t;cases t
 ·have hb:X.base.get? l=some o:=I.ok.mod.kin l o t;rcases f.2.2.2.1 with z | z
  ·exact I.ok.noex l o hb z
  ·exact absurd (Gy (Gx (I.ok.bs l o hb).1) z) (Ik _)
end
noncomputable def Dm (K:Gd) (k1:String) (l1:GF) (k2:String) (l2:GF):It:=
 ⟨λi H=>∃xs ys x y,fM k1 K H l1 xs/\fM k2 K H l2 ys/\xs[i]?=some x/\ys[i]?=some y,
  λi H v H'=>∃p,H p=none/\v=.ref p/\∀xs ys x y,fM k1 K H l1 xs->fM k2 K H l2 ys->xs[i]?=some x->ys[i]?=some y->H'=upd H p (.tup [x,y]),
  λi H=>∃xs ys,fM k1 K H l1 xs/\fM k2 K H l2 ys/\(xs.length<=i\/ys.length<=i)⟩
noncomputable def Dy (k1 k2:String) (l1 l2 z TI TO i1 i2:GF) (i:Nat) (h:Ij):Prop:=MX h z TI TO .none/\JZ h TI (.ref i1) (.ref i2)/\(∃a b,JZ h TO a b)/\IQ k1 i1 l1 i h/\IQ k2 i2 l2 i h
theorem IQ.keep {k:String}{it l:GF}{m:Nat}{h h':Ij}(x:IQ k it l m h) (kp:∀o,h.get? it=some o->h'.get? it=some o):IQ k it l m h':=by
 rcases x with ⟨e,o,h1,r⟩ | ⟨e,o,h1,r⟩
 ·exact .inl ⟨e,o,kp o h1,r⟩
 ·exact .inr ⟨e,o,kp o h1,r⟩
theorem IQ.obj {k:String}{it l:GF}{m:Nat}{h:Ij}(x:IQ k it l m h):∃o,h.get? it=some o/\∀v,o.data≠.cell v:=by rcases x with ⟨e,o,h1,_,d⟩ | ⟨e,o,h1,_,d⟩ <;> exact ⟨o,h1,λv z=>by rw [d] at z;cases z⟩
theorem IQ.sq {k:String}{it l:GF}{m:Nat}{h:Ij}{vals:Array Ge}(x:IQ k it l m h) (q:jL k h l vals):SQ k it l vals m h:=by
 rcases x with ⟨e,x⟩ | ⟨e,x⟩ <;> rcases q with ⟨e',q⟩ | ⟨e',q⟩
 ·exact .inl ⟨e,x,q⟩
 ·rw [e] at e';exact absurd e' (by decide)
 ·rw [e] at e';exact absurd e' (by decide)
 ·exact .inr ⟨e,x,q⟩
theorem yb {P:GG}{w:Hi}{K:Gd}{elts:List Hl}{kk:Nat}{tp:Pos}(k1 k2:String) (l1 l2 z TI TO i1 i2:GF) (n1:TI≠z) (n2:TO≠z) (n3:i1≠z) (n4:i2≠z) (n5:TI≠TO) (n6:TI≠i1) (n7:TI≠i2) (n8:TO≠i1) (n9:TO≠i2) (n10:i1≠i2):
  Turn P w K (.Tuple elts kk tp) (Dm K k1 l1 k2 l2) [z,TI,TO,i1,i2] z (Dy k1 k2 l1 l2 z TI TO i1 i2) where
 mem:=by simp
 obj:=λi h st b hb=>by
  obtain ⟨hz,hTI,⟨a,c,hTO⟩,q1,q2⟩:=st;simp only [Gz,GP,or_false] at hb;rcases hb with rfl | rfl | rfl | rfl | rfl
  ·exact ⟨_,hz,λv q=>by cases (show Pf _=NP v from q)⟩
  ·exact ⟨_,hTI,λv q=>by cases (show PY _ _=NP v from q)⟩
  ·exact ⟨_,hTO,λv q=>by cases (show PY _ _=NP v from q)⟩
  ·exact q1.obj
  ·exact q2.obj
 keep:=λi h h' st kp=>by obtain ⟨hz,hTI,⟨a,c,hTO⟩,q1,q2⟩:=st;exact ⟨kp z (by simp) _ hz,kp TI (by simp) _ hTI,⟨a,c,kp TO (by simp) _ hTO⟩,q1.keep λo e=>kp i1 (by simp) o e,q2.keep λo e=>kp i2 (by simp) o e⟩
 item:=by
  intro X hP hw hK hc i F3 s σ H E I hf st hg;subst hP hw hK;obtain ⟨hz,hTI,⟨a,c,hTO⟩,q1,q2⟩:=st;obtain ⟨xs,ys,x,y,s1,s2,hx,hy⟩:=hg;obtain ⟨its,r1,p1⟩:=s1.get I;obtain ⟨its2,r2,p2⟩:=s2.get I;obtain ⟨u,hu,ru⟩:=r1.get hx;obtain ⟨v,hv,rv⟩:=r2.get hy;have ne1:∀b∈[z,TI,TO,i1,i2],l1≠b:=λb hb=>s1.ne I (hf b hb);have ne2:∀b∈[z,TI,TO,i1,i2],l2≠b:=λb hb=>s2.ne I (hf b hb);have Dz:MW z TI TO i1 i2 l1 l2:=⟨n1,n2,n3,n4,n5,n6,n7,n8,n9,n10,ne1 z (by simp),ne1 TO (by simp),ne1 i1 (by simp),ne1 i2 (by simp),ne2 z (by simp),ne2 TO (by simp),ne2 i1 (by simp),ne2 i2 (by simp)⟩;refine pG (mw X.prog X.w k1 i1 l1 its.toArray (ne1 i1 (by simp))) (mw X.prog X.w k2 i2 l2 its2.toArray (ne2 i2 (by simp))) Dz hz hTI hTO (q1.sq p1) (q2.sq p2) (by simpa using hu) (by simpa using hv) λh' a1 a2 a3 a4 a5 a6 hk=>?_;refine ⟨_,rfl,wpAny_letOwnedTupleGo_zip (s:={s with heap:=h'}) a1 λh'' z'' sb=>?_⟩;have fT:H s.heap.objs.size=none:=I.hok.fresh (Gm _);have old:∀{b:GF}{o:Obj},s.heap.get? b=some o->b≠s.heap.objs.size:=λe=>G9 (Gx e);have zT:z≠s.heap.objs.size:=old hz;have kk':∀b o,b∉[z,TO,i1,i2]->s.heap.get? b=some o->h''.get? b=some o:=λb o hb e=>by simp only [Gz,GP,or_false,not_or] at hb;exact sb.extBut _ _ hb.1 (hk b o hb.1 hb.2.1 hb.2.2.1 hb.2.2.2 e)
  have ff:∀b∈[z,TO,i1,i2],fQ X F3 H b:=λb hb=>hf b (by
   simp only [Gz,GP,or_false] at hb ⊢;rcases hb with rfl | rfl | rfl | rfl <;> simp)
  have Tn:∀b∈[z,TI,TO,i1,i2],b≠s.heap.objs.size:=λb hb=>by
   simp only [Gz,GP,or_false] at hb;rcases hb with rfl | rfl | rfl | rfl | rfl
   ·exact old hz
   ·exact old hTI
   ·exact old hTO
   ·exact old q1.obj.choose_spec.1
   ·exact old q2.obj.choose_spec.1
  have up':∀{b:GF}{o:HO},H b=some o->upd H s.heap.objs.size (.tup [x,y]) b=some o:=λe=>by rw [bf (dc e fT)];exact e
  have I2:Inv X F3 σ (upd H s.heap.objs.size (.tup [x,y])) {s with heap:=h'',gens:=s.gens,drawn:=s.drawn,toks:=s.toks}:=by
   refine I.step (ch:=[z,TO,i1,i2]) (λb hb=>⟨(ff b hb).2.2.2.1,(ff b hb).2.1,(ff b hb).2.2.2.2.1,(ff b hb).2.2.2.2.2⟩) (λb o _ _ hb e _=>kk' b o hb e) (λb o _ _ hb e _=>⟨o.slots,kk' b o hb e⟩) (λb o hb e n=>by rw [bf (old e)];exact n)
    (λb o hb e=>⟨o,kk' b o hb e⟩) (λb xs e=>up' e) (λb o q e=>up' e) (λb ps e=>⟨#[],by rw [MZ];exact up' e⟩) (λm hm=>?_) (λb q e=>?_) I.bare
   ·obtain ⟨o,es,ep,ho,r⟩:=hm;exact ⟨o,es,ep,kk' _ o (λhb=>(ff _ hb).2.1 rfl) ho,r⟩
   ·by_cases hb:b=s.heap.objs.size
    ·subst hb;rw [cC] at e;cases e;refine ⟨(by show 2<=sizeLine;decide),[u,v],.cons ru (.cons rv .nil),⟨_,sb.extBut _ _ (Jt zT) a5,rfl,0,rfl⟩,λo q=>by rw [sb.extBut _ _ (Jt zT) a5] at q;cases q;rfl⟩
    ·rw [bf hb] at e;have nch:∀d,(d=b\/H d=some (.own b))->d∉[z,TO,i1,i2]:=λd hd hm=>by
      have:=(ff d hm).1;rcases hd with rfl | hd
      ·rw [this] at e;cases e
      ·rw [this] at hd;cases hd
     exact (I.hok b q e).stay (λd o hd ho=>kk' d o (nch d hd) ho) (λ_ h=>up' h) λ_ _ h=>up' h
  refine ⟨.ref s.heap.objs.size,_,I2,rfl,⟨s.heap.objs.size,fT,rfl,λxs' ys' x' y' c1 c2 c3 c4=>?_⟩,⟨z'',sb.extBut _ _ n1 (hk TI _ n1 n5 n6 n7 hTI),⟨_,_,sb.extBut _ _ n2 a2⟩,a3.iq.keep λo e=>sb.extBut _ _ n3 e,a4.iq.keep λo e=>sb.extBut _ _ n4 e⟩,λb hb=>by rw [bf (Tn b hb)];exact (hf b hb).1⟩;have e1:=fM.inj I c1 s1;have e2:=fM.inj I c2 s2;subst e1 e2;rw [hx] at c3;rw [hy] at c4;cases c3;cases c4;rfl
 done:=by
  intro X hP hw hK hc i F3 s σ H E I hf st hg;subst hP hw hK;obtain ⟨hz,hTI,⟨a,c,hTO⟩,q1,q2⟩:=st;obtain ⟨xs,ys,s1,s2,hend⟩:=hg;obtain ⟨its,r1,p1⟩:=s1.get I;obtain ⟨its2,r2,p2⟩:=s2.get I;have ne1:∀b∈[z,TI,TO,i1,i2],l1≠b:=λb hb=>s1.ne I (hf b hb);have ne2:∀b∈[z,TI,TO,i1,i2],l2≠b:=λb hb=>s2.ne I (hf b hb);have Dz:MW z TI TO i1 i2 l1 l2:=⟨n1,n2,n3,n4,n5,n6,n7,n8,n9,n10,ne1 z (by simp),ne1 TO (by simp),ne1 i1 (by simp),ne1 i2 (by simp),ne2 z (by simp),ne2 TO (by simp),ne2 i1 (by simp),ne2 i2 (by simp)⟩;have E7:its.toArray[i]?=none\/its2.toArray[i]?=none:=by
   have e1:=r1.length;have e2:=r2.length;rcases hend with h | h
   ·left;simp;omega
   ·right;simp;omega
  refine mW (I.ok.hd hc) (mw X.prog X.w k1 i1 l1 its.toArray (ne1 i1 (by simp))) (mw X.prog X.w k2 i2 l2 its2.toArray (ne2 i2 (by simp))) Dz hz hTI hTO (q1.sq p1) (q2.sq p2) E7 λh' hk=>⟨rfl,?_⟩;have ff:∀b∈[z,TO,i1,i2],fQ X F3 H b:=λb hb=>hf b (by
   simp only [Gz,GP,or_false] at hb ⊢;rcases hb with rfl | rfl | rfl | rfl <;> simp)
  have kk':∀b o,b∉[z,TO,i1,i2]->s.heap.get? b=some o->h'.get? b=some o:=λb o hb e=>by simp only [Gz,GP,or_false,not_or] at hb;exact hk b o hb.1 hb.2.1 hb.2.2.1 hb.2.2.2 e
  refine I.step (ch:=[z,TO,i1,i2]) (g':=s.gens) (d':=s.drawn) (t':=s.toks) (λb hb=>⟨(ff b hb).2.2.2.1,(ff b hb).2.1,(ff b hb).2.2.2.2.1,(ff b hb).2.2.2.2.2⟩) (λb o _ _ hb e _=>kk' b o hb e) (λb o _ _ hb e _=>⟨o.slots,kk' b o hb e⟩) (λb o hb e n=>n)
    (λb o hb e=>⟨o,kk' b o hb e⟩) (λb xs e=>e) (λb o q e=>e) (λb ps e=>⟨#[],by rw [MZ];exact e⟩) (λm hm=>?_) (λb q e=>?_) I.bare
  ·obtain ⟨o,es,ep,ho,r⟩:=hm;exact ⟨o,es,ep,kk' _ o (λhb=>(ff _ hb).2.1 rfl) ho,r⟩
  ·have nch:∀d,(d=b\/H d=some (.own b))->d∉[z,TO,i1,i2]:=λd hd hm=>by
    have:=(ff d hm).1;rcases hd with rfl | hd
    ·rw [this] at e;cases e
    ·rw [this] at hd;cases hd
   exact (I.hok b q e).stay (λd o hd ho=>kk' d o (nch d hd) ho) (λ_ h=>h) λ_ _ h=>h
 self:=λA i s Q E st h=>NG st.1 h
section
variable {X:Cx}{c:C}{e a b:Hl}{es:List Hl}{ga gb g:G R}{pos:Pos}{elts:List Hl}{kk:Nat}{tp:Pos}
noncomputable def DO (K:Gd) (ta:TA):TI:=λσ H Q=>ta σ H λvs H1=>∃k1 l1 xs k2 l2 ys,vs=[.ref l1,.ref l2]/\fM k1 K H1 l1 xs/\fM k2 K H1 l2 ys/\Q (Dm K k1 l1 k2 l2) H1
theorem By {ta:TA}{p:Pos}(hg:Gl X "zip") (hm:X.mg "zip"=none) (ha:PA X [a,b] ta) (hs:GA [a,b] X.env=[(false,eval a X.env),(false,eval b X.env)]:=by rfl) (hs2:GA [b] X.env=[(false,eval b X.env)]:=by rfl):
  PI X (.Tuple elts kk tp) (.Call (.Name "zip" p) [a,b] [] pos) (DO X.K ta):=by
 intro F3 s σ H R I h;refine Call_ (jZ I hg hm boot_zip (Jw (bS (ha pos F3 s σ H _ I h) λus s1 ⟨vs,H1,I1,r1,q1⟩=>?_) (by rw [hs,hs2]) (by rw [hs2];rfl)));obtain ⟨k1,l1,xs,k2,l2,ys,e,s1',s2',q⟩:=q1;subst e;obtain ⟨its,v1,p1⟩:=s1'.get I1;obtain ⟨its2,v2,p2⟩:=s2'.get I1;cases r1 with
 | cons r rr=>
  cases rr with
  | cons r' rr=>
   cases rr;cases r;cases r';refine callType_new F.called_zip (by decide) (F.typeCall_zip_2 _ _) (F.newCall_zip_2 _ _) (λ_=>by first | exact F.args_object_init _ | rfl | decide) F.entry_zip_new (Am k1 k2 l1 l2 its.toArray its2.toArray) ?_;refine ⟨p1,p2,?_⟩;have f0:∀{h:Ij}{o:Obj},o.isFreed=false->(h.push o).get? h.objs.size=some o:=λho=>Gu _ ho;have gp:∀{h:Ij}{q:GF}{u:Obj}(o:Obj),h.get? q=some u->(h.push o).get? q=some u:=λo e=>Gh _ e;refine ⟨⟨_,Gu _ rfl,rfl⟩,NG (f0:=.none) (Gu _ rfl) ?_⟩;have e1:(s1.heap.push (bO k1 l1)).objs.size=s1.heap.objs.size + 1:=IE ..;have e2:((s1.heap.push (bO k1 l1)).push (bO k2 l2)).objs.size=s1.heap.objs.size + 2:=by rw [IE,e1]
   have e3:(v5 s1.heap (bO k1 l1) (bO k2 l2)).objs.size=s1.heap.objs.size + 3:=by unfold v5;rw [IE,e2]
   have e4:(v7 s1.heap (bO k1 l1) (bO k2 l2)).objs.size=s1.heap.objs.size + 4:=by unfold v7;rw [IE,e3]
   have up5:∀b o,s1.heap.get? b=some o->(v9 s1.heap (bO k1 l1) (bO k2 l2)).get? b=some o:=λb o h=>gp _ (gp _ (gp _ (gp _ (gp _ h))));have I5:Inv X F3 σ H1 {s1 with heap:=v9 s1.heap (bO k1 l1) (bO k2 l2)}:=I1.kept (t':=s1.toks) up5;refine ⟨_,[(v7 s1.heap (bO k1 l1) (bO k2 l2)).objs.size,((s1.heap.push (bO k1 l1)).push (bO k2 l2)).objs.size,(v5 s1.heap (bO k1 l1) (bO k2 l2)).objs.size,s1.heap.objs.size,(s1.heap.push (bO k1 l1)).objs.size],
    Dy k1 k2 l1 l2 _ _ _ _ _,_,H1,rfl,I5,yb k1 k2 l1 l2 _ _ _ _ _ (by rw [e2,e4];simp [GF]) (by rw [e3,e4];simp) (by rw [e4];simp) (by rw [e1,e4];simp) (by rw [e2,e3];simp) (by rw [e2];simp) (by rw [e2,e1];simp) (by rw [e3];simp) (by rw [e3,e1];simp) (by rw [e1];simp),?_,?_,q⟩
   ·refine ⟨Gu _ rfl,gp _ (gp _ (Gu _ rfl)),⟨.none,.none,gp _ (Gu _ rfl)⟩,?_,?_⟩
    ·have h1:(v9 s1.heap (bO k1 l1) (bO k2 l2)).get? s1.heap.objs.size=some (bO k1 l1):=gp _ (gp _ (gp _ (gp _ (Gu _ rfl))));rcases p1 with ⟨rfl,_⟩ | ⟨rfl,_⟩
     ·exact .inl ⟨rfl,_,h1,rfl,rfl⟩
     ·exact .inr ⟨rfl,_,h1,rfl,rfl⟩
    ·have h1:(v9 s1.heap (bO k1 l1) (bO k2 l2)).get? (s1.heap.push (bO k1 l1)).objs.size=some (bO k2 l2):=gp _ (gp _ (gp _ (Gu _ rfl)));rcases p2 with ⟨rfl,_⟩ | ⟨rfl,_⟩
     ·exact .inl ⟨rfl,_,h1,rfl,rfl⟩
     ·exact .inr ⟨rfl,_,h1,rfl,rfl⟩
   ·intro b hb;have hle:s1.heap.objs.size<=b:=by
     simp only [Gz,GP,or_false] at hb;rcases hb with rfl | rfl | rfl | rfl | rfl
     ·rw [e4];exact JO _ _
     ·rw [e2];exact JO _ _
     ·rw [e3];exact JO _ _
     ·exact Gm _
     ·rw [e1];exact JO _ _
    have fp:=I1.fpOk hle (I1.hok.fresh hle);exact fp
theorem xU {K:Gd}{J:Hp}{xs ys:List D}{us vs:List V}{i:Nat}{d:D}(h1:aD K J xs us) (h2:aD K J ys vs) (e:(Lj (λa b=>D.tup [a,b]) xs ys)[i]?=some d):∃x y u v,d=.tup [x,y]/\us[i]?=some u/\vs[i]?=some v/\Rep K J x u/\Rep K J y v:=by
 rw [List.getElem?_zipWith] at e;cases q1:xs[i]? with
 | none=>rw [q1] at e;simp at e
 | some x=>
  cases q2:ys[i]? with
  | none=>rw [q1,q2] at e;simp at e
  | some y=>
   rw [q1,q2] at e;simp at e;obtain ⟨u,a1,a2⟩:=h1.get q1;obtain ⟨v,b1,b2⟩:=h2.get q2;exact ⟨x,y,u,v,e.symm,a1,b1,a2,b2⟩
end
section
variable {X:Cx}{c:C}{e a b tg:Hl}{es:List Hl}{ga gb g:G R}{pos:Pos}
theorem oB:Hw "int"=some (.type "int"):=by decide +kernel
theorem ji:Hw "bool"=some (.type "bool"):=by decide +kernel
theorem uK:Hw "str"=some (.type "str"):=by decide +kernel
theorem fN:Hw "tuple"=some (.type "tuple"):=by decide +kernel
end
open PySem.AutoSeq1 in
theorem y_ {P:GG}{w:Hi}{K:Gd}{mg:Str->Option Ge}{base:Ij}{x F9:Str}{st:KR}{f:GF}{fd:HM}{ps:List Str}{k:Nat}{Fm:List S->M R}(F:ir K x F9 st f fd) (hm:mg x=some (.ref f))
  (hbi:∀(kV doc pm:Ge) (an:Option GF) (cdv ct:Ge) (us:List Ge),us.length=ps.length->MN (HU x F9 (dM st) (b6 st) (aV st) .none kV doc pm an cdv ct) ⟨us,[]⟩=pure (ps.zip us))
  (hF:∀as,Fm as=.bad):dJ P w K mg base k ps.length x Fm:=
 ⟨f,fd,ps,⟨λvs H Q E ⟨J,as,_,_,_,h⟩=>(by rw [hF as] at h;exact h.elim),λA outer s H args us vs Q E _ _ _ _ ⟨J,as,_,_,_,h⟩=>(by rw [hF as] at h;exact h.elim)⟩,hm,F.kp,F.binds hbi⟩
section
variable {X:Cx}{c:C}{e a b d tg:Hl}{es:List Hl}{ga gb g:G R}{pos:Pos}
def DN (K:Gd) (tl:TE):TI:=λσ H R=>tl σ H λx H1=>∃a,x=.ref a/\(((∃xs,cg K H1 a xs)/\R (ye K a) H1)\/((∃xs,cZ K H1 a xs)/\R (yg K a) H1))
theorem vB {tl:TE}(hl:PE X e tl):PI X tg e (DN X.K tl):=λF3 s σ H R I h=>bS (hl F3 s σ H _ I h) λv s1 ⟨x,H1,I1,r1,a,ex,q1⟩=>by
 subst ex;cases r1;have fp:∀b∈[s1.heap.objs.size],fQ X F3 H1 b:=λb hb=>by rw [G5] at hb;subst hb;exact I1.fpOk (Gm _) (I1.hok.fresh (Gm _))
 rcases q1 with ⟨⟨xs,hq⟩,q⟩ | ⟨⟨xs,hq⟩,q⟩
 ·obtain ⟨its,rv,p,hz⟩:=I1.list hq;exact Ly p.isList ⟨s1.heap.objs.size,[s1.heap.objs.size],_,_,H1,rfl,I1.kept (t':=s1.toks) (λb o e=>Gh _ e),vX a _,⟨_,Gu _ rfl,rfl,rfl⟩,fp,q⟩
 ·obtain ⟨its,rv,p,hz⟩:=I1.tuple hq;exact MY (show s1.heap.IsTuple a its.toArray from p) ⟨s1.heap.objs.size,[s1.heap.objs.size],_,_,H1,rfl,I1.kept (t':=s1.toks) (λb o e=>Gh _ e),um a _,⟨_,Gu _ rfl,rfl,rfl⟩,fp,q⟩
theorem oZ {J1:Hp}{a:GF}{vs:List V}{ds:List D}{U:Hp->Hp->Prop}(hU:∀J H,U J H->aM J1 J) (h:cZ c.K J1 a vs) (hs:aD c.K J1 ds vs):Walk c (yg c.K a) ds J1 U:=by intro i J H hp u;have h':=eL hp.sub (eL (hU J H u) h);refine ⟨λhl=>⟨vs,h',by rw [<-hs.length];exact hl⟩,λd hd=>?_⟩;obtain ⟨v,k1,k2⟩:=hs.get hd;refine ⟨⟨vs,v,h',k1⟩,λx H2 ⟨e,hy⟩=>?_⟩;subst e;have:=hy vs h';rw [k1] at this;cases this;exact ⟨J,Ext.refl hp.sub,k2.mono (hU J _ u)⟩
noncomputable def AY (g:G R):G (List D):=λenv=>g env >>= λr=>match r with
 | .d (.tup xs)=>.ok xs
 | .d (.lst xs)=>.ok xs
 | .l .fresh xs=>.ok xs
 | .l .bor xs=>.ok xs
 | _=>.bad
def lP (g:G R):G (List D):=λenv=>g env >>= i7
end
structure QD (X:Cx) (c:C) (x0:Hl) (x1:G R):Prop where
 h:PD X c x0 x1
structure QB (X:Cx) (c:C) (x0:Hl) (x1:G Bool):Prop where
 h:PB X c x0 x1
structure jE (X:Cx) (c:C) (x0:List Hl) (x1:G (List R)):Prop where
 h:yi X c x0 x1
structure uz (X:Cx) (c:C) (x0:List Hl) (x1:G (List D)):Prop where
 h:Ej X c x0 x1
structure l6 (X:Cx) (c:C) (x0:KR) (x1:G O):Prop where
 h:Dq X c x0 x1
structure k9 (X:Cx) (c:C) (x0:List KR) (x1:G O):Prop where
 h:Au X c x0 x1
structure yk (X:Cx) (c:C) (x0:Hl) (x1:G Bool):Prop where
 h:Ek X c x0 x1
structure rz (X:Cx) (c:C) (x0:Hl) (x1:GT):Prop where
 h:yj X c x0 x1
structure sL (X:Cx) (c:C) (x0:List Hl) (x1:lV):Prop where
 h:DF X c x0 x1
structure uA (X:Cx) (c:C) (x0:Hl) (x1:Hl) (x2:G (List D)):Prop where
 h:El X c x0 x1 x2
structure Aw (X:Cx) (c:C) (x0:Hl) (x1:Hl) (x2:G (List D)):Prop where
 h:Ds X c x0 x1 x2
structure wC (X:Cx) (c:C) (x0:List Hl) (x1:G Bool):Prop where
 h:wB X c x0 x1
structure yl (X:Cx) (c:C) (x0:Option Hl) (x1:GO):Prop where
 h:Av X c x0 x1
section
variable {X:Cx}{c:C}{e a b:Hl}{ga gb:G R}{pos:Pos}
theorem aa (i:Nat) (hN:X.N[i]?=some x:=by rfl) (hv:yo X.env.scope x:=by first | exact OA rfl | exact Nt (OA rfl) | exact Nt (Nt rfl)) (hd:(x == ("__debug__":Str))=false:=by decide)
 (hcd:(x == ("__classdict__":Str))=false:=by decide):QD X c (.Name x pos) (af i):=⟨zH (vz hN hv hd hcd)⟩
theorem aA:QD X c (.Constant (.int i) j pos) (gC (.int i)):=⟨tX (λ_=>.int i) Bs⟩
theorem fO:QD X c (.Constant (.bool i) j pos) (gC (.bl i)):=⟨tX (λ_=>.bl i) CC⟩
theorem eF:QD X c (.Constant (.str x) j pos) (gC (.str x)):=⟨tX (λ_=>.str x) Bv⟩
theorem se (ha:QD X c a ga) (hb:QD X c b gb):QD X c (.BinOp a .Sub b pos) (g2 nN ga gb):=have ha:=ha.h;have hb:=hb.h;⟨jx Bo (pK λ_ _ _=>.int _) ha hb⟩
theorem dQ (ha:QD X c a ga) (hb:QD X c b gb):QD X c (.BinOp a .FloorDiv b pos) (g2 eE ga gb):=have ha:=ha.h;have hb:=hb.h;⟨jx zD (sP (λi j h=>zl h) λ_ _ _=>.int _) ha hb⟩
theorem bV (ha:QD X c a ga) (hb:QD X c b gb):QD X c (.BinOp a .Mod b pos) (g2 cj ga gb):=have ha:=ha.h;have hb:=hb.h;⟨jx Bj (sP (λi j h=>by unfold A5 at h;exact of_decide_eq_true h) λ_ _ _=>.int _) ha hb⟩
theorem nR (ha:QD X c a ga) (hb:QD X c b gb):QD X c (.BinOp a .Pow b pos) (g2 iU ga gb):=have ha:=ha.h;have hb:=hb.h;⟨jx Bm (sP (λi j h=>zo h) λ_ _ _=>.int _) ha hb⟩
theorem ay:jE X c [] av:=⟨pN kc λσ H Q ⟨J,env,sr,w⟩=>w [] J H (Ext.refl sr.hp.sub) rfl⟩
theorem aq {es:List Hl}{g:G R}{gs:G (List R)}(h:QD X c e g) (hs:jE X c es gs) (hst:GA (e::es) X.env=(false,eval e X.env)::GA es X.env:=by rfl):jE X c (e::es) (ah g gs):=have h:=h.h;have hs:=hs.h;⟨
 pN (ig h hs hst) λσ H Q ⟨J,env,sr,w⟩=>by
  refine ⟨J,env,sr,aE (aI w) λx wx u J1 H1 e1 r1=>?_⟩;refine ⟨J1,env,sr.ext e1,aE (aI wx) λxs wy us J2 H2 e2 r2=>?_⟩;exact wy (u::us) J2 H2 (e1.trans e2) ⟨u,us,rfl,r1.ext e2,iu.from e1.h r2⟩⟩
end
section
variable {X:Cx}{c:C}{e a b:Hl}{es:List Hl}{ga gb g:G R}{pos:Pos}
theorem bF:uz X c [] aG:=⟨pN kc λσ H Q ⟨J,env,sr,w⟩=>w [] J H (Ext.refl sr.hp.sub) .nil⟩
theorem aJ {gs:G (List D)}(h:QD X c e g) (hs:uz X c es gs) (hst:GA (e::es) X.env=(false,eval e X.env)::GA es X.env:=by rfl):uz X c (e::es) (au g gs):=have h:=h.h;have hs:=hs.h;⟨
 pN (ig h hs hst) λσ H Q ⟨J,env,sr,w⟩=>by
  refine ⟨J,env,sr,aE (aI w) λx wx u J1 H1 e1 r1=>?_⟩;obtain ⟨d,q,wx⟩:=kW wx;obtain ⟨J1',e1',s1,rd⟩:=freeze e1 r1 q;refine ⟨J1',env,sr.ext e1',aE (aI wx) λxs wy us J2 H2 e2 r2=>?_⟩;exact wy (u::us) J2 H2 (e1'.trans e2) (.cons (rd.mono e2.j) r2)⟩
theorem c6 {k}{gs:G (List D)}(h:uz X c es gs):QD X c (.Tuple es k pos) (cI gs):=have h:=h.h;⟨gn (Bw h) λσ H Q ⟨J,env,sr,w⟩=>by
 refine ⟨J,env,sr,aE (aI w) λds wd vs J1 H1 e1 r1=>?_⟩;split at wd
 ·rename_i hz;rw [r1.length] at hz;exact ⟨hz,λp hp=>wd _ _ _ (e1.trans (Ext.newJ e1.sub hp _)) (ku (sr.hp.ext e1) hp r1)⟩
 ·exact wd.elim⟩
theorem fF {gs:G (List D)}(h:uz X c es gs):QD X c (.List es pos) (fK gs):=have h:=h.h;⟨gn (Bt h) λσ H Q ⟨J,env,sr,w⟩=>by
 refine ⟨J,env,sr,aE (aI w) λds wd vs J1 H1 e1 r1=>?_⟩;split at wd
 ·rename_i hz;rw [r1.length] at hz;exact ⟨hz,λp hp=>wd _ _ _ (e1.trans (Ext.new e1.sub hp _)) (RR.from e1.h (iI (sr.hp.ext e1) hp r1))⟩
 ·exact wd.elim⟩
theorem dS {p:Pos}{gs:G (List R)}(ha:jE X c (e::es) gs) (hm:X.mg "len"=none) (hK:X.K=c.K:=by rfl) (hg:Gl X "len":=by rfl)
  (he:GA (e::es) X.env=(false,eval e X.env)::GA es X.env:=by rfl) (hpl:(JG pos (GA es X.env)).any (·.1)=false:=by rfl):QD X c (.Call (.Name "len" p) (e::es) [] pos) (gN fk gs):=have ha:=ha.h;⟨
 jw (pW.or pV) (by
  intro He J H xs vs Q hp rs w;unfold fk at w;split at w
  ·obtain ⟨v,rfl,r⟩:=rs.one;cases r;split at w
   ·rename_i hz;exact .inl ⟨_,rfl,hz,w _ J H (Ext.refl hp.sub) (.int _)⟩
   ·exact w.elim
  ·obtain ⟨v,rfl,r⟩:=rs.one;obtain ⟨xs,q,w⟩:=jg w;obtain ⟨p,vs,rfl,hq,hs⟩:=kH hp r q;have w':=w (.int vs.length) J H (Ext.refl hp.sub) (by rw [hs.length];exact .int _);exact .inr ⟨p,vs,rfl,by rw [hK];exact hq,w'⟩
  ·exact w.elim) PySem.boot_len hm ha hg (by decide) (by decide) he hpl⟩
theorem bZ {gs:G (List R)}(ha:jE X c (e::es) gs) (hm:X.mg "tuple"=none) (hK:X.K=c.K:=by rfl) (hg:Gl X "tuple":=by rfl)
 (he:GA (e::es) X.env=(false,eval e X.env)::GA es X.env:=by rfl) (hpl:(JG pos (GA es X.env)).any (·.1)=false:=by rfl):QD X c (.Call (.Name "tuple" p) (e::es) [] pos) (gN cM gs):=have ha:=ha.h;⟨
 vv pB (by
  intro He J H xs vs Q hp rs w;unfold cM at w;split at w
  ·obtain ⟨v,rfl,r⟩:=rs.one;rename_i r0;obtain ⟨xs,q,w⟩:=jg w;cases r0 with
   | d y=>
    cases y with
    | tup ys=>
     cases q;cases r with
     | tup h hs=>exact ⟨_,_,rfl,.inr ⟨by rw [hK];exact eL hp.sub h,w _ J H (Ext.refl hp.sub) (.tup h hs)⟩⟩
    | lst ys=>
     cases q;obtain ⟨p,vs,rfl,hq,hs⟩:=RR.list hp r rfl;exact ⟨p,vs,rfl,.inl ⟨by rw [hK];exact hq,λl hl=>w _ _ _ (Ext.newJ hp.sub hl _) (ku hp hl hs)⟩⟩
    | _=>cases q
   | mo _ _=>cases q
   | mb _ _=>cases q
   | mf _ _=>cases q
   | ln _=>cases q
   | l m ys=>
    cases q;obtain ⟨p,vs,rfl,hq,hs⟩:=RR.list hp r rfl;exact ⟨p,vs,rfl,.inl ⟨by rw [hK];exact hq,λl hl=>w _ _ _ (Ext.newJ hp.sub hl _) (ku hp hl hs)⟩⟩
  ·exact w.elim) qS hm ha hg (by decide) (by decide) he hpl⟩
theorem dO (h:QD X c e g) (he:∀whole,Ot e X.env whole=(do let v <-whole;Pe e.pos;holding [v] (truthy v)):=by intro _;rfl):QB X c e (aX g):=have h:=h.h;⟨tZ (BI h he) λσ H Q ⟨J,env,sr,w⟩=>by
 refine ⟨J,env,sr,aE (aI w) λr wr v J1 H1 e1 r1=>?_⟩;split at wr
 ·cases r1;exact ⟨_,rfl,wr J1 H1 e1⟩
 ·exact wr.elim⟩
theorem zW {f:R->R->M R}(ho:dU X (Jm op) r) (hf:BD c r f) (ha:QD X c a ga) (hb:QD X c b gb) (hm:Il op b=false:=by first | exact qx _ | rfl):QB X c (.Compare a [op] [b] pos) (aX (g2 f ga gb)):=⟨mU ho hf ha.h hb.h hm⟩
variable {t u:G Bool}{F6:List Hl}
theorem gH (h:yk X c e t):QB X c e t:=have h:=h.h;⟨PW.pt h⟩
theorem gI (h:QB X c a t):yk X c (.BoolOp .Or [a] pos) t:=have h:=h.h;⟨BJ h⟩
theorem gQ (h:QB X c a t) (h':yk X c (.BoolOp .Or (b::F6) pos) u):yk X c (.BoolOp .Or (a::b::F6) pos) (bI t u):=have h:=h.h;have h':=h'.h;⟨CM (CN h h') λσ H Q ⟨J,env,sr,w⟩=>by
 refine ⟨J,env,sr,aE (aI w) λk wk J1 H1 e1=>?_⟩;cases k with
 | true=>
  rw [if_pos rfl] at wk ⊢;exact wk J1 H1 e1
 | false=>
  rw [if_neg (by decide)] at wk ⊢;exact ⟨J1,env,sr.ext e1,aE wk λk q J2 H2 e2=>q J2 H2 (e1.trans e2)⟩⟩
theorem fE (h:QB X c a t):QB X c (.UnaryOp .Not a pos) (bg t):=have h:=h.h;⟨tZ (BH h) λσ H Q ⟨J,env,sr,w⟩=>⟨J,env,sr,aE (aI w) λk wk J1 H1 e1=>wk J1 H1 e1⟩⟩
theorem qD {op}(h:QD X c a ga):QD X c (.BoolOp op [a] pos) ga:=have h:=h.h;⟨Bu h⟩
theorem nQ (h:QD X c a ga) (h':QD X c (.BoolOp .And (b::F6) pos) gb):QD X c (.BoolOp .And (a::b::F6) pos) (aW ga gb):=have h:=h.h;have h':=h'.h;⟨gn (Br h h') λσ H Q ⟨J,env,sr,w⟩=>by
 refine ⟨J,env,sr,aE (aI w) λr wr v J1 H1 e1 r1=>?_⟩;split at wr
 ·cases r1;exact ⟨true,rfl,DQ ⟨J1,env,sr.ext e1,aE wr λz q v J2 H2 e2 r2=>q v J2 H2 (e1.trans e2) (RR.from e1.h r2)⟩⟩
 ·cases r1;exact ⟨false,rfl,DP (wr _ J1 H1 e1 (.bl _))⟩
 ·exact wr.elim⟩
end
section
variable {X:Cx}{c:C}{e a b tg:Hl}{es:List Hl}{ga gb g:G R}{pos:Pos}{st:KR}{F6:List KR}{t u:G O}{tb:G Bool}
theorem cB:k9 X c [] bx:=⟨qB zR λE σ H ⟨J,env,sr,w⟩=>w σ J H (aM.refl J) sr⟩
theorem aB (h:l6 X c st t) (h':k9 X c F6 u):k9 X c (st::F6) (az t u):=have h:=h.h;have h':=h'.h;⟨qB (xO h h') λE σ H ⟨J,env,sr,w⟩=>by
 refine ⟨J,env,sr,aE (aI w) λo wo=>?_⟩;cases o with
 | nx e=>exact λσ' J' H' s' sr'=>⟨J',e,sr',aE wo λo q=>q.mono s'⟩
 | rt r=>exact wo
 | bk e=>exact wo
 | ct e=>exact wo⟩
theorem aQ (h:l6 X c st t):k9 X c [st] t:=have h:=h.h;⟨zS h⟩
theorem bA (h:QD X c e g):l6 X c (.Return (some e) pos) (aN g):=have h:=h.h;⟨kR (BF h) λE σ H ⟨J,env,sr,w⟩=>by
 refine ⟨J,env,sr,aE (aI w) λr wr v J1 H1 e1 r1=>?_⟩;cases q:rF r with
 | bad=>rw [q] at wr;exact wr.elim
 | exc x=>cases r with
  | d _=>cases q
  | l m _=>cases m <;> cases q
  | mo _ _=>cases q
  | mb _ _=>cases q
  | mf _ _=>cases q
  | ln _=>cases q
 | ok r'=>rw [q] at wr;exact wr v J1 H1 e1.j (sr.hp.ext e1) (RR.rf sr.hp r1 q)⟩
theorem cP {x:Hl}{as bs:List KR}(hx:QB X c x tb) (h:k9 X c as t) (h':k9 X c bs u):l6 X c (.If x as bs pos) (aO tb t u):=have hx:=hx.h;have h:=h.h;have h':=h'.h;⟨kR (CL hx h h') λE σ H ⟨J,env,sr,w⟩=>by
 refine ⟨J,env,sr,aE (aI w) λk wk J1 H1 e1=>?_⟩;cases k with
 | true=>
  rw [if_pos rfl] at wk ⊢;exact ⟨J1,env,sr.ext e1,aE wk λo q=>q.mono e1.j⟩
 | false=>
  rw [if_neg (by decide)] at wk ⊢;exact ⟨J1,env,sr.ext e1,aE wk λo q=>q.mono e1.j⟩⟩
theorem aU (i:Nat){x:Str}{pos':Pos}(hN:X.N.Nodup) (h:QD X c e g) (hi:X.N[i]?=some x:=by rfl) (hx:Loc X.env.scope x:=by first | exact OA rfl | exact Nt rfl) (hs:MK e (some (.Name x pos')) pos.line X.env=pure false:=by rfl)
  (hf:X.fn x=true\/X.env.scope.names.lookup x=some .local:=by first | exact .inl rfl | exact .inr rfl):l6 X c (.Assign [.Name x pos'] e pos) (aH i g):=have h:=h.h;⟨kR (BG hN hi hx h hs hf) λE σ H ⟨J,env,sr,w⟩=>by
 refine ⟨J,env,sr,aE (aI w) λr wr v J1 H1 e1 r1=>?_⟩;obtain ⟨x,q,wr⟩:=sC wr;exact wr (σ.set i (some v)) J1 H1 e1.j (sr.set e1 r1 q)⟩
theorem aT (i:Nat){x:Str}(hN:X.N.Nodup) (hi:X.N[i]?=some x:=by rfl) (hx:Loc X.env.scope x:=by first | exact OA rfl | exact Nt rfl) (hf:X.fn x=true\/X.env.scope.names.lookup x=some .local:=by first | exact .inl rfl | exact .inr rfl):rz X c (.Name x pos) (aS i):=⟨
 yI (zL hN hi hx hf) λv σ H Q ⟨J,env,d,sr,rd,w⟩=>w _ (sr.setD (x:=.d d) rd λx z=>by cases x <;> cases z) λj xs q=>by
  rcases dF q with ⟨_,_,e⟩ | ⟨hj,q⟩
  ·cases xs <;> cases e
  ·exact ⟨q,G0 (Jt hj)⟩⟩
theorem fz:sL X c [] gM:=⟨vA zM λvs σ H Q ⟨J,env,ds,sr,rd,w⟩=>by
 cases rd with
 | nil=>exact ⟨rfl,w σ sr KO.refl⟩
 | cons _ _=>exact w.elim⟩
theorem bP {t:GT}{u:lV}(h:rz X c e t) (h':sL X c es u) (hs:(Jp (e::es) X.env).map (·.2)=assign e X.env::(Jp es X.env).map (·.2):=by rfl):sL X c (e::es) (cF t u):=have h:=h.h;have h':=h'.h;⟨
 vA (xM h h' hs) λvs σ H Q ⟨J,env,ds,sr,rd,w⟩=>by
  cases rd with
  | nil=>exact w.elim
  | cons r rs=>
   refine ⟨_,_,rfl,J,env,_,sr,r,aE (aI w) λe1 w1 σ' sr' ko=>?_⟩;exact ⟨J,e1,_,sr',rs,aE w1 λe2 q σ2 sr2 ko2=>q σ2 sr2 (ko.trans ko2)⟩⟩
theorem fU {k:Nat}{u:lV}{n:Nat}(h:sL X c es u) (hc:X.calm=true:=by rfl) (hK:X.K=c.K:=by rfl) (hn:(Jp es X.env).length=n:=by rfl) (hst:(Jp es X.env).findIdx? (·.1)=none:=by rfl):rz X c (.Tuple es k pos) (gq n u):=have h:=h.h;⟨
 yI (Bx hc h hn hst) λv σ H Q ⟨J,env,d,sr,rd,w⟩=>by
  cases rd with
  | tup h1 h2=>
   unfold gq at w;simp only at w;split at w
   ·rename_i hl;exact ⟨_,_,rfl,by rw [hK];exact eL sr.hp.sub h1,by rw [<-h2.length];exact hl,J,env,_,sr,h2,w⟩
   ·exact w.elim
  | _=>exact w.elim⟩
theorem dD {F7:Hl}{body:List KR}{gi:G (List D)}{t:GT}(hi:uA X c tg F7 gi) (ht:rz X c tg t) (hb:k9 X c body u) (hp:PassesOwn (GD X.prog X.w) X.A X.env X.xe:=by first | exact Qj | exact P7) (hc:X.calm=true:=by rfl)
  (hs:∀x,Kq F7 X.env x=pure x:=by intro _;rfl):l6 X c (.For tg F7 body [] pos) (fm gi t u):=have hi:=hi.h;have ht:=ht.h;have hb:=hb.h;⟨kR (BE hp hc hi ht hb hs) λE σ H ⟨J,env,sr,w⟩=>by
 refine ⟨J,env,sr,aE (aI w) λds wd It J1 H1 e1 wk=>?_⟩;refine ⟨λi m σ H=>m=ds.length - i/\∃J' env,aM J1 J'/\SR c J' H σ env/\b_ (eK t u (ds.drop i) env) (oP c J' E) c.T,
  ⟨ds.length,by simp,J1,env,aM.refl J1,sr.ext e1,by rw [Js];exact aE wd λo q=>q.mono e1.j⟩,?_⟩
 rintro i m σ H ⟨rfl,J',env,s',sr',w'⟩;obtain ⟨w1,w2⟩:=wk i J' H sr'.hp s';by_cases hlt:i < ds.length
 ·obtain ⟨g1,y1⟩:=w2 ds[i] (by simp [hlt]);rw [Io hlt] at w';refine .inr ⟨g1,λσ2 H2=>∃J2 env2,aM J' J2/\SR c J2 H2 σ2 env2/\b_ (eK t u (ds.drop (i + 1)) env2) (oP c J2 E) c.T,?_,?_⟩
  ·rintro σ2 H2 ⟨J2,env2,s2,sr2,w2⟩;exact ⟨ds.length - (i + 1),by omega,rfl,J2,env2,s'.trans s2,sr2,w2⟩
  ·intro x H2 hy;obtain ⟨J2,e2,rx⟩:=y1 x H2 hy;refine ⟨J2,env,ds[i],sr'.ext e2,rx,aE (aI w') λenv3 w3 σ3 sr3 _=>?_⟩;refine ⟨J2,env3,sr3,aE (aI w3) λo wo=>?_⟩;cases o with
   | nx env4=>exact λσ4 J4 H4 s4 sr4=>⟨J4,env4,e2.j.trans s4,sr4,aE wo λo q=>q.mono (e2.j.trans s4)⟩
   | ct env4=>exact λσ4 J4 H4 s4 sr4=>⟨J4,env4,e2.j.trans s4,sr4,aE wo λo q=>q.mono (e2.j.trans s4)⟩
   | bk env4=>exact λσ4 J4 H4 s4 sr4=>wo σ4 J4 H4 (e2.j.trans s4) sr4
   | rt r=>exact λv J4 H4 s4 h4 r4=>wo v J4 H4 (e2.j.trans s4) h4 r4
 ·rw [LW (by omega)] at w';exact .inl ⟨w1 (by omega),w' σ J' H (aM.refl J') sr'⟩⟩
theorem bJ {p:Pos}{gs:G (List R)}(ha:jE X c [a] gs) (hm:X.mg "range"=none) (hg:Gl X "range":=by rfl) (hs:GA [a] X.env=[(false,eval a X.env)]:=by rfl):uA X c tg (.Call (.Name "range" p) [a] [] pos) (cA gs):=have ha:=ha.h;⟨
 mV (vC hg hm ha hs) λσ H Q ⟨J,env,sr,w⟩=>by
  refine ⟨J,env,sr,aE (aI w) λrs wr vs J1 H1 e1 r1=>?_⟩;split at wr
  ·split at wr
   ·rename_i h;obtain ⟨v,rfl,r⟩:=r1.one;cases r;have h:=cU.mp h;exact ⟨_,rfl,Int.le_of_lt h.1,h.2,wr _ J1 H1 e1 uo⟩
   ·exact wr.elim
  ·exact wr.elim⟩
theorem fS {gi:G (List D)}(h:uA X c tg e gi):Aw X c tg e gi:=have h:=h.h;⟨mV h λσ H Q ⟨J,env,sr,w⟩=>
 ⟨J,env,sr,aE w λds q It J1 H1 e1 wk=>q It J1 H1 e1 λi J' H' hp u=>wk i J' H' hp u.1⟩⟩
end
section
variable {X:Cx}{c:C}{e a b tg:Hl}{es:List Hl}{ga gb g:G R}{pos:Pos}
theorem e_ (i:Nat){x:Str}{p1 p2 pos':Pos}(h:QD X c e g) (hN:X.N[i]?=some x:=by rfl) (hv:yo X.env.scope x:=by first | exact OA rfl | exact Nt (OA rfl) | exact Nt (Nt rfl)) (hd:(x == ("__debug__":Str))=false:=by decide)
  (hcd:(x == ("__classdict__":Str))=false:=by decide)
  (hbase:MR (.Name x p1) "append" X.env (eval (.Name x p1) X.env)=eval (.Name x p1) X.env:=by rfl)
  (hfew:((JG pos' (GA [e] X.env)).all (λx=>!x.1) && (backToKw pos' (keywordEach [] X.env)).all (λx=>x.1.isSome)
   && decide (([e]:List Hl).length + ([]:List Pw).length + (if ([]:List Pw).isEmpty then 0 else 1) < 30))=true:=by rfl)
  (hline:(p2.endLine == pos'.line)=true:=by rfl) (hst:GA [e] X.env=(false,eval e X.env)::GA [] X.env:=by rfl) (hplain:(JG pos' (GA [] X.env)).any (·.1)=false:=by rfl)
  (hs:MK (.Call (.Attribute (.Name x p1) "append" p2) [e] [] pos') none pos.line X.env=pure false:=by rfl):l6 X c (.Expr (.Call (.Attribute (.Name x p1) "append" p2) [e] [] pos') pos) (c_ i g):=have h:=h.h;⟨
 kR (zQ (CF PySem.F.plainAttrs_list PySem.F.slot_list_append PySem.F.type_list_append oG (vz hN hv hd hcd) (ig h kc hst) hbase hfew hline hst hplain) hs) λE σ H ⟨J,env,sr,w⟩=>by
  unfold c_ at w;split at w
  ·rename_i xs hi;obtain ⟨v,h1,a,vs,rfl,h2,h3,h4,h5⟩:=sr.at_ i _ hi;refine ⟨.ref a,h1,.inl ⟨rfl,vs,cg.of h2⟩,?_⟩;refine ⟨J,env,sr,aE (aI w) λr wr y J1 H1 e1 r1=>?_⟩;obtain ⟨d,q,wr⟩:=kW wr;obtain ⟨J2,e2,s2,rd⟩:=freeze e1 r1 q;split at wr
   ·rename_i hz;refine ⟨a,vs,y,rfl,rfl,e2.h _ _ h2,by rw [<-h5.length];exact hz,?_⟩;refine wr σ J2 _ e2.j ?_;exact (sr.ext e2).upd hi h1 (e2.h _ _ h2) (e2.frz a (by rw [h2];intro z;cases z) h3) h4 ((h5.mono e2.j).append (.cons rd .nil))
   ·exact wr.elim
  ·exact w.elim⟩
end
section
variable {X:Cx}{c:C}
theorem cW:wC X c [] gk:=⟨λF3 s σ H Q I ⟨J,env,sr,w⟩=>wpAny_tests_nil ⟨H,I,w J H (Ext.refl sr.hp.sub)⟩⟩
theorem oJ {g:G Bool}(h:QB X c x g):wC X c [x] g:=have h:=h.h;⟨λF3 s σ H Q I q=>wpAny_tests_one (h F3 s σ H Q I q)⟩
end
section
variable {K:Gd}{J:Hp}{s:Gf}
variable {X:Cx}{c:C}{e a b tg:Hl}{es:List Hl}{ga gb g:G R}{pos:Pos}
theorem m9 (hu:X.A.units + 64 < Kn) (ha:QD X c a ga) (hb:QD X c b gb) (hK:X.K=c.K:=by rfl):QD X c (.Compare a [.Eq] [b] pos) (g2 (dW false) ga gb):=have ha:=ha.h;have hb:=hb.h;⟨Bq (vp hu) (sQ false hK) ha hb⟩
theorem mZ (hu:X.A.units + 64 < Kn) (ha:QD X c a ga) (hb:QD X c b gb) (hK:X.K=c.K:=by rfl):QB X c (.Compare a [.Eq] [b] pos) (aX (g2 (dW false) ga gb)):=have ha:=ha.h;have hb:=hb.h;⟨mU (vp hu) (sQ false hK) ha hb⟩
theorem jf (hu:X.A.units + 64 < Kn) (ha:QD X c a ga) (hb:QD X c b gb) (hK:X.K=c.K:=by rfl):QB X c (.Compare a [.NotEq] [b] pos) (aX (g2 (dW true) ga gb)):=have ha:=ha.h;have hb:=hb.h;⟨mU (Bl hu) (sQ true hK) ha hb⟩
theorem vF (hu:X.A.units + 64 < Kn) (ha:QD X c a ga) (hb:QD X c b gb) (hK:X.K=c.K:=by rfl) (hm:Il .In b=false:=by rfl):QB X c (.Compare a [.In] [b] pos) (aX (g2 (uT false) ga gb)):=have ha:=ha.h;have hb:=hb.h;⟨mU (Bh hu) (B_ false hK) ha hb hm⟩
end
section
variable {X:Cx}{c:C}{e a b tg:Hl}{es:List Hl}{ga gb g:G R}{pos:Pos}
theorem kj:yl X c none uW:=⟨yJ zN λσ H Q ⟨J,env,sr,w⟩=>w J H (Ext.refl sr.hp.sub)⟩
theorem gR (h:QD X c e g):yl X c (some e) (qa g):=have h:=h.h;⟨yJ (zO h) λσ H Q ⟨J,env,sr,w⟩=>by
 refine ⟨J,env,sr,aE (aI w) λr wr v J1 H1 e1 r1=>?_⟩;split at wr
 ·cases r1;exact ⟨_,rfl,wr J1 H1 e1⟩
 ·exact wr.elim⟩
theorem m_ {p:Pos}{gs:G (List R)}(ha:jE X c (e::es) gs) (hm:X.mg "sorted"=none) (hK:X.K=c.K:=by rfl) (hg:Gl X "sorted":=by rfl)
  (he:GA (e::es) X.env=(false,eval e X.env)::GA es X.env:=by rfl) (hpl:(JG pos (GA es X.env)).any (·.1)=false:=by rfl):QD X c (.Call (.Name "sorted" p) (e::es) [] pos) (gN ic gs):=have ha:=ha.h;⟨
 jw pX (by
  intro He J H xs vs Q hp rs w;unfold ic at w;split at w
  ·obtain ⟨v,rfl,r⟩:=rs.one;obtain ⟨xs,q,w⟩:=nY w;obtain ⟨p,vs,rfl,h1,h2⟩:=RR.list hp r q;split at w
   ·rename_i ss z;split at w
    ·rename_i hl;have:=nv z h2;subst this;refine ⟨p,ss,rfl,by rw [hK];exact h1,hl,λss' hp' hs' l hl'=>?_⟩;rw [t_ hp' hs'];exact w _ _ _ (Ext.new hp.sub hl' _) (iI hp hl' (oQ _))
    ·exact w.elim
   ·exact w.elim
  ·exact w.elim) jQ hm ha hg (by decide) (by decide) he hpl⟩
theorem cQ (ha:QD X c a ga) (hb:QD X c b gb):QD X c (.BinOp a .Add b pos) (g2 bK ga gb):=by
 have ha:=ha.h;have hb:=hb.h;refine ⟨?_⟩;have h1:BD c (oK λi j=>.int (i + j)) wW:=pK λ_ _ _=>.int _;have q:=jx (pos:=pos) (vm.or (mR.or vn)) (BD.or (c:=c) (λx _=>qi x) h1 (BD.or (c:=c) (λx _=>u7 x) (f:=mq) (f':=jn) (by
  intro He He' J H x y u v Q hp rx ry w;unfold mq at w;split at w
  ·cases rx;cases ry;split at w
   ·rename_i h;exact ⟨_,_,rfl,rfl,h,w _ J H (Ext.refl hp.sub) (.str _)⟩
   ·exact w.elim
  ·exact w.elim) (by
  intro He He' J H x y u v Q hp rx ry w;unfold jn at w;split at w
  ·rename_i hm;rw [Gw] at hm;obtain ⟨p,vs,xs,e1,rfl,h1,s1⟩:=rx.made hm.1;obtain ⟨p2,vs2,ys,e2,rfl,h2,s2⟩:=ry.made hm.2;rw [e1,e2] at w;simp only [aY] at w;split at w
   ·rename_i hz;rw [s1.length,s2.length] at hz;exact ⟨p,p2,vs,vs2,rfl,rfl,h1,h2,hz,λq hq=>w _ J _ (Ext.new hp.sub hq _) (iI hp hq (s1.append s2))⟩
   ·exact w.elim
  ·exact w.elim))) ha hb
 exact q
theorem dZ (ha:QD X c a ga) (hb:QD X c b gb):QD X c (.BinOp a .Mult b pos) (g2 cu ga gb):=by
 have ha:=ha.h;have hb:=hb.h;refine ⟨?_⟩;have h1:BD c (rI sD λi j=>.int (i * j)) AV:=sP (λi j h=>zm h) λ_ _ _=>.int _;exact jx (pos:=pos) (Bk.or zE) (BD.or (c:=c) (λx _=>qi x) h1 (f':=tw) (by
  intro He He' J H x y u v Q hp rx ry w;unfold tw at w;split at w
  ·cases rx;cases ry;split at w
   ·rename_i h;exact ⟨_,_,rfl,rfl,h.1,h.2.1,h.2.2,w _ J H (Ext.refl hp.sub) (.str _)⟩
   ·exact w.elim
  ·exact w.elim)) ha hb
theorem aL (ha:QD X c a ga) (hb:QD X c b gb) (hK:X.K=c.K:=by rfl) (hs:nC b:=by exact λ_ _=>rfl):QD X c (.Subscript a b pos) (g2 bw ga gb):=have ha:=ha.h;have hb:=hb.h;⟨CA A2 (by
 intro He He' J H x y u v Q hp rx ry w;rw [hK];unfold bw at w;split at w
 ·cases rx;cases ry;split at w
  ·rename_i h;split at w
   ·rename_i k hk;exact .inr (.inr ⟨_,_,k,rfl,rfl,h,hk,w _ J H (Ext.refl hp.sub) (.str _)⟩)
   ·exact w.elim
  ·exact w.elim
 ·cases ry;obtain ⟨xs,q,w⟩:=jg w;obtain ⟨p,vs,rfl,hl,hs⟩:=kH hp rx q;split at w
  ·rename_i d hd;obtain ⟨z,h1,h2⟩:=Aa hs hd;have fin:=w z J H (Ext.refl hp.sub) h2;rcases hl with hl | hl
   ·exact .inl ⟨p,vs,_,z,rfl,rfl,hl,h1,fin⟩
   ·exact .inr (.inl ⟨p,vs,_,z,rfl,rfl,hl,h1,fin⟩)
  ·exact w.elim
 ·exact w.elim) ha hb hs⟩
theorem bB {F:List S->M R}{gs:G (List R)}(G:dJ X.prog X.w X.K X.mg X.base k n x F) (hr:c8 k' X.A) (ha:jE X c (e::es) gs) (hk:k<=k':=by decide) (hT:c.K=X.K:=by rfl) (hg:Gl X x:=by rfl) (hdb:(x == ("__debug__":Str))=false:=by decide)
 (he:GA (e::es) X.env=(false,eval e X.env)::GA es X.env:=by rfl) (hpl:(JG pos (GA es X.env)).any (·.1)=false:=by rfl):QD X c (.Call (.Name x p) (e::es) [] pos) (gN (aC n F) gs):=by have ha:=ha.h;refine ⟨?_⟩;obtain ⟨f,fd,ps,h1,h2,h3,h4⟩:=G;exact zG h1 (hr.mono hk) h2 h3 h4 ha hT hg hdb he hpl
theorem xP (h:QD X c e g) (ht:rz X c tg t) (hs:ML [tg] e pos.line X.env=pure false:=by rfl) (hw:OD [tg] e X.env=pure none:=by rfl)
 (h1:(Jp [tg] X.env).map (·.2)=[assign tg X.env]:=by rfl):l6 X c (.Assign [tg] e pos) (p9 t g):=have h:=h.h;have ht:=ht.h;⟨zF h ht (BC h ht hs hw h1)⟩
theorem cJ {T:String}{Ts:Str}{p p2:Pos}(kit:ri T) (hT:Hw Ts=some (.type T)) (mT:X.mg Ts=none)
  (h:QD X c a g) (hm:X.mg "isinstance"=none) (hK:X.K=c.K:=by rfl) (hg:Gl X "isinstance":=by rfl) (FP:Gl X Ts:=by rfl) (hn:Ts≠"__name__":=by decide) (FI:(Ts == ("__debug__":Str))=false:=by decide)
  (he:GA [a,.Name Ts p2] X.env=(false,eval a X.env)::GA [.Name Ts p2] X.env:=by rfl) (FL:GA [.Name Ts p2] X.env=(false,eval (.Name Ts p2) X.env)::GA [] X.env:=by rfl)
  (hpl:(JG pos (GA [.Name Ts p2] X.env)).any (·.1)=false:=by rfl):QD X c (.Call (.Name "isinstance" p) [a,.Name Ts p2] [] pos) (bE T g):=have h:=h.h;⟨
 gn (qA (qT kit) hg hm (by decide +kernel) (ig h (ig (zI FP mT hT (v:=.ty T) rfl hn FI) kc FL) he) (by decide) (by decide) he hpl) λσ H Q ⟨J,env,sr,w⟩=>by
  refine ⟨J,env,sr,aE (aI w) λr wr v J1 H1 e1 r1=>?_⟩;exact ⟨r.dat,v,rfl,by rw [hK];exact r1.dat (sr.hp.ext e1),wr _ J1 H1 e1 (.bl _)⟩⟩
theorem zX {p:Pos}{gs:G (List R)}(ha:jE X c (e::es) gs) (hm:X.mg "all"=none) (hK:X.K=c.K:=by rfl) (hc:X.calm=true:=by rfl) (hg:Gl X "all":=by rfl)
  (he:GA (e::es) X.env=(false,eval e X.env)::GA es X.env:=by rfl) (hpl:(JG pos (GA es X.env)).any (·.1)=false:=by rfl):QD X c (.Call (.Name "all" p) (e::es) [] pos) (gN nM gs):=have ha:=ha.h;⟨
 jw (uL hc) (by
  intro He J H xs vs Q hp rs w;unfold nM at w;split at w
  ·obtain ⟨v,rfl,r⟩:=rs.one;obtain ⟨xs,q,w⟩:=nY w;obtain ⟨p,vs,rfl,h1,h2⟩:=RR.list hp r q;split at w
   ·rename_i ks z;have:=oA z h2;subst this;exact ⟨p,ks,rfl,by rw [hK];exact h1,w _ J H (Ext.refl hp.sub) (.bl _)⟩
   ·exact w.elim
  ·exact w.elim) uJ hm ha hg (by decide) (by decide) he hpl⟩
theorem jy (ha:QD X c a ga) (hb:QD X c b gb) (hK:X.K=c.K:=by rfl):QD X c (.BinOp a .Add b pos) (g2 gX ga gb):=by
 have ha:=ha.h;have hb:=hb.h;refine ⟨?_⟩;have h1:BD c (oK λi j=>.int (i + j)) wW:=pK λ_ _ _=>.int _;exact jx (pos:=pos) (vo.or (vm.or (mR.or vn))) (BD.or (c:=c) (λx _=>yE x) (y9 hK) (BD.or (c:=c) (λx _=>qi x) h1 (BD.or (c:=c) (λx _=>u7 x) (f:=mq) (f':=jn) (by
  intro He He' J H x y u v Q hp rx ry w;unfold mq at w;split at w
  ·cases rx;cases ry;split at w
   ·rename_i h;exact ⟨_,_,rfl,rfl,h,w _ J H (Ext.refl hp.sub) (.str _)⟩
   ·exact w.elim
  ·exact w.elim) (by
  intro He He' J H x y u v Q hp rx ry w;unfold jn at w;split at w
  ·rename_i hm;rw [Gw] at hm;obtain ⟨p,vs,xs,e1,rfl,h1,s1⟩:=rx.made hm.1;obtain ⟨p2,vs2,ys,e2,rfl,h2,s2⟩:=ry.made hm.2;rw [e1,e2] at w;simp only [aY] at w;split at w
   ·rename_i hz;rw [s1.length,s2.length] at hz;exact ⟨p,p2,vs,vs2,rfl,rfl,h1,h2,hz,λq hq=>w _ J _ (Ext.new hp.sub hq _) (iI hp hq (s1.append s2))⟩
   ·exact w.elim
  ·exact w.elim)))) ha hb
theorem kT {lo hi:Option Hl}{gl gh:GO}{p2:Pos}(h:QD X c e g) (hl:yl X c lo gl) (hh:yl X c hi gh) (hK:X.K=c.K:=by rfl):QD X c (.Subscript e (.Slice lo hi none p2) pos) (qb lO g gl gh):=have h:=h.h;have hl:=hl.h;have hh:=hh.h;⟨CB (vL.or Ab) (by
 intro He J H x v l u Q hp rx w;unfold lO at w;split at w
 ·exact .inl (D9 hK He J H x v l u Q hp rx w)
 ·obtain ⟨xs,q,w⟩:=nY w;obtain ⟨p,vs,rfl,h1,h2⟩:=rx.list hp q;exact .inr ⟨p,vs,rfl,by rw [hK];exact h1,λp' hp'=>w _ _ _ (Ext.new hp.sub hp' _) (iI hp hp' (h2.cut l u))⟩) h hl hh⟩
end
section
variable {X:Cx}{c:C}{e a b d tg:Hl}{es:List Hl}{ga gb g:G R}{pos:Pos}
theorem xQ (h:QD X c e g) (hK:X.K=c.K:=by rfl):uA X c tg e (AY g):=have h:=h.h;⟨mV (vB h) λσ H Q ⟨J,env,sr,w⟩=>by
 refine ⟨J,env,sr,aE (aI w) λr wr v J1 H1 e1 r1=>?_⟩;rw [hK];split at wr
 ·cases r1 with
  | tup h1 h2=>exact ⟨_,rfl,.inr ⟨⟨_,eL e1.sub h1⟩,wr _ J1 H1 e1 (oZ (λJ H u=>u) h1 h2)⟩⟩
 ·cases r1 with
  | lst h1 h2=>exact ⟨_,rfl,.inl ⟨⟨_,e1.sub.seq h1⟩,wr _ J1 H1 e1 (kF (.inl h1) h2)⟩⟩
 ·obtain ⟨J2,e2,s2,rd⟩:=freeze e1 r1 rfl;cases rd with
  | lst h1 h2=>exact ⟨_,rfl,.inl ⟨⟨_,e2.sub.seq h1⟩,wr _ J2 H1 e2 (kF (.inl h1) h2)⟩⟩
 ·obtain ⟨a,vs,rfl,h1,h2⟩:=r1;exact ⟨_,rfl,.inl ⟨⟨_,(sr.hp.ext e1).ent.seq h1⟩,wr _ J1 H1 e1 (kF (.inr h1) h2)⟩⟩
 ·exact wr.elim⟩
theorem gJ (h:QD X c e g) (hK:X.K=c.K:=by rfl):Aw X c tg e (lP g):=have h:=h.h;⟨mV (vB h) λσ H Q ⟨J,env,sr,w⟩=>by
 refine ⟨J,env,sr,aE (aI w) λr wr v J1 H1 e1 r1=>?_⟩;rw [hK];have lst:∀{xs:List D},gV r=.ok xs->(∀It J1' H1',Ext J H J1' H1'->Walk c It xs J1' (λJ' H'=>aM J1' J'/\aM H1' H')->Q It H1')->∃a,v=.ref a/\(((∃xs,cg c.K H1 a xs)/\Q (ye c.K a) H1)\/((∃xs,cZ c.K H1 a xs)/\Q (yg c.K a) H1)):=fun {xs} q wr=>by obtain ⟨a,vs,rfl,h1,h2⟩:=RR.list (sr.hp.ext e1) r1 q;refine ⟨a,rfl,.inl ⟨⟨_,h1⟩,wr _ J1 H1 e1 λi J' H' hp u=>?_⟩⟩;have h':=u.2.seq h1;refine ⟨λhl=>⟨vs,h',by rw [<-h2.length];exact hl⟩,λd hd=>?_⟩;obtain ⟨v,k1,k2⟩:=h2.get hd;refine ⟨⟨vs,v,h',k1⟩,λx H2 ⟨e,hy⟩=>?_⟩;subst e;have:=hy vs h';rw [k1] at this;cases this;exact ⟨J',Ext.refl hp.sub,k2.mono u.1⟩
 cases r with
 | d y=>
  cases y with
  | tup xs=>
   cases r1 with
   | tup h1 h2=>exact ⟨_,rfl,.inr ⟨⟨_,eL e1.sub h1⟩,wr _ J1 H1 e1 (oZ (λJ H u=>u.1) h1 h2)⟩⟩
  | lst xs=>exact lst rfl wr
  | _=>exact wr.elim
 | l m xs=>exact lst rfl wr
 | mo _ _=>exact wr.elim
 | mb _ _=>exact wr.elim
 | mf _ _=>exact wr.elim
 | ln _=>exact wr.elim⟩
end
section
variable {X:Cx}{c:C}
theorem r_ {P:GG}{w:Hi}{K:Gd}{mg:Str->Option Ge}{base:Ij}{x F9:Str}{st:KR}{f:GF}{fd:HM}{N ps:List Str}{k:Nat}{Fm:List S->M R}(F:ir K x F9 st f fd) (hm:mg x=some (.ref f)) (Sc:eB N ps (aV st))
  (hbi:∀(kV doc pm:Ge) (an:Option GF) (cdv ct:Ge) (us:List Ge),us.length=ps.length->MN (HU x F9 (dM st) (b6 st) (aV st) .none kV doc pm an cdv ct) ⟨us,[]⟩=pure (ps.zip us)){gB:G O}
  (hb:∀(cdv:Ge) (A:G3) (outer:List Env) (s:Gf) (H:Hp) (E:XK) (J:Hp) (T:Exc->Prop),c8 k (A.deeper (Li F9 (aV st) s.heap.objs.size f cdv))->
   k9 (rM P w K mg base N F9 (aV st) f cdv A outer s H E) ⟨K,H,J,T⟩ (b6 st) gB)
  (hF:∀as r,as.length=ps.length->Fm as=.ok r->fin (gB (aF N as))=.ok r):dJ P w K mg base (k + 1) ps.length x Fm:=
 AG F hm Sc hbi (λcdv A outer s H E J T hr=>(hb cdv A outer s H E J T hr).h) hF
theorem zV {P:GG}{w:Hi}{K:Gd}{mg:Str->Option Ge}{base:Ij}{x F9:Str}{st:KR}{f:GF}{fd:HM}{N ps:List Str}{k:Nat}{Fm:List S->M R}(F:ir K x F9 st f fd) (Sc:eB N ps (aV st)){gB:G O}
  (hb:∀(cdv:Ge) (A:G3) (outer:List Env) (s:Gf) (H:Hp) (E:XK) (J:Hp) (T:Exc->Prop),c8 k (A.deeper (Li F9 (aV st) s.heap.objs.size f cdv))->
   k9 (rM P w K mg base N F9 (aV st) f cdv A outer s H E) ⟨K,H,J,T⟩ (b6 st) gB)
  (hF:∀as r,as.length=ps.length->Fm as=.ok r->fin (gB (aF N as))=.ok r):f6 P w K mg base i6 (k + 1) f fd ps (jJ K ps.length Fm):=
 uU F Sc (λcdv A outer s H E J T hr=>(hb cdv A outer s H E J T hr).h) hF
end
end DL
namespace DX
open PySem PySem.Spec
open Builtin Builtin.ObjectAttr
end DX
namespace DX
open PySem PySem.Spec
end DX
namespace DX
open PySem PySem.Spec PyProof.Rows L2
end DX
namespace DL
open PySem PySem.Spec PyProof.Rows L2 DX
noncomputable def AX (n:Nat) (F:List S->M R):List R->M R:=λrs=>if rs.length=n then (match F (rs.map bq) with
 | .ok r=>.ok (bC r)
 | .exc x=>.exc x
 | .bad=>.bad) else .bad
end DL
namespace DX
open PySem PySem.Spec PyProof.Rows L2
end DX
namespace DL
open PySem PySem.Spec PyProof.Rows L2 DX
end DL
namespace DX
open PySem PySem.Spec PyProof.Rows L2
end DX
namespace DL
open PySem PySem.Spec PyProof.Rows L2 DX
end DL
namespace DX
open PySem PySem.Spec PyProof.Rows L2
open Sem (wp)
end DX
namespace DL
open PySem PySem.Spec PyProof.Rows L2 DX
end DL
namespace K01
open PySem DL
def gW:List Str:=["_law_script","_law_k"]
noncomputable def jo:G O:=(az (aO (aX (g2 (bL λi j=>.bl (decide (i < j))) (af 1) (gN fk (ah (af 0) av)))) (aN (g2 cj (g2 bw (af 0) (af 1)) (g2 iU (gC (.int 2)) (gC (.int 64))))) bx)
 (aN (gC (.int 0))))
def bT (as:List S):M R:=fin (jo (aF gW as))
noncomputable def k6:List Str:=["_law_cell_here","_law_many","_law_number","_law_base","_law_size","_law_words","_law_first","_law_signs","_law_at","_law_found","_law_k","_law_sign"]
noncomputable def iW:G O:=(az (aH 2 (g2 cj (g2 cu (af 0) (gC (.int 7129))) (gC (.int 1000033))))
 (az (aH 3 (g2 bw (gC (.str "bcdfg")) (g2 cj (af 2) (gC (.int 5)))))
 (az (aH 4 (g2 bK (gC (.int 2)) (g2 cj (g2 eE (af 2) (gC (.int 5))) (gC (.int 7)))))
 (az (aO (aX (g2 (dW false) (g2 cj (g2 eE (af 2) (gC (.int 35))) (gC (.int 4))) (gC (.int 1)))) (aN (cG 1 [3] (cA (ah (af 1) av)) (aS 0) gk (g2 cu (af 1) (g2 bK (gC (.int 2)) (af 0))))) bx)
 (az (aO (aX (g2 (dW false) (g2 cj (g2 eE (af 2) (gC (.int 35))) (gC (.int 4))) (gC (.int 2)))) (az (aH 5 (fK (au (gC (.str "and")) (au (gC (.str "or")) (au (gC (.str "not")) (au (gC (.str "some")) (au (gC (.str "every")) (au (gC (.str "least")) (au (gC (.str "true")) (au (gC (.str "false")) aG))))))))))
 (az (aH 6 (g2 cj (g2 eE (af 2) (gC (.int 140))) (gC (.int 8))))
 (az (aH 7 (gC (.str "abcdefghijklmnopqrstuvwxyz")))
 (aN (gN ic (ah (cG 1 [5,6,7,2] (cA (ah (af 1) av)) (aS 0) gk (g2 bK (g2 bw (g2 bK (af 1) (af 1)) (g2 bK (af 2) (af 0))) (g2 bw (af 3) (g2 cj (g2 eE (af 4) (gC (.int 1120))) (gC (.int 26)))))) av)))))) bx)
 (az (aH 8 (g2 cj (g2 eE (af 2) (gC (.int 105))) (af 4)))
 (az (aH 9 (fK aG))
 (az (fm (cA (ah (af 1) av)) (aS 10) (az (aH 11 (g2 bw (gC (.str "abcdefghijklmnopqrstuvwxyz")) (g2 cj (g2 bK (g2 eE (af 2) (gC (.int 840))) (g2 cu (gC (.int 5)) (af 10))) (gC (.int 26)))))
 (c_ 9 (g2 bK (g2 bK (g2 cu (af 3) (af 8)) (af 11)) (g2 cu (af 3) (g2 nN (g2 nN (af 4) (gC (.int 1))) (af 8)))))))
 (aN (gN ic (ah (af 9) av)))))))))))
def d9 (as:List S):M R:=fin (iW (aF k6 as))
def sI:List Str:=["_law_bits","_law_many","_law_found","_law_point_here"]
noncomputable def jq:G O:=(az (aH 2 (fK aG))
 (az (fm (cA (ah (af 1) av)) (aS 3) (az (aO (aX (g2 (dW false) (g2 cj (af 0) (gC (.int 2))) (gC (.int 1)))) (c_ 2 (af 3)) bx)
 (aH 0 (g2 eE (af 0) (gC (.int 2))))))
 (aN (gN cM (ah (af 2) av)))))
def fB (as:List S):M R:=fin (jq (aF sI as))
def k8:List Str:=["_law_bits","_law_many","_law_found","_law_one","_law_other"]
noncomputable def iX:G O:=(az (aH 2 (fK aG))
 (az (fm (cA (ah (af 1) av)) (aS 3) (fm (cA (ah (af 1) av)) (aS 4) (az (aO (aX (g2 (dW false) (g2 cj (af 0) (gC (.int 2))) (gC (.int 1)))) (c_ 2 (cI (au (af 3) (au (af 4) aG)))) bx)
 (aH 0 (g2 eE (af 0) (gC (.int 2)))))))
 (aN (gN cM (ah (af 2) av)))))
def eY (as:List S):M R:=fin (iX (aF k8 as))
def jN:List Str:=["_law_cell_here","_law_names_here","_law_number","_law_first"]
noncomputable def iD:G O:=(az (aH 1 (gN (aC 2 d9) (ah (af 0) (ah (gC (.int 6)) av))))
 (az (aH 2 (g2 cj (g2 cu (af 0) (gC (.int 523))) (gC (.int 10007))))
 (az (aH 3 (g2 cj (g2 eE (af 2) (gC (.int 16))) (gC (.int 3))))
 (aN (cI (au (gN cM (ah (qb lO (af 1) uW (qa (g2 cj (af 2) (gC (.int 4))))) av)) (au (gN cM (ah (qb lO (af 1) (qa (af 3)) (qa (g2 bK (af 3) (g2 cj (g2 eE (af 2) (gC (.int 4))) (gC (.int 4)))))) av)) aG)))))))
def dz (as:List S):M R:=fin (iD (aF jN as))
def qQ:List Str:=["_law_script","_law_at","_law_many","_law_tongue_here","_law_marks","_law_k","_law_arrows","_law_bits"]
noncomputable def iY:G O:=(az (aH 4 (fK aG))
 (az (fm (cA (ah (gN fk (ah (g2 bw (af 3) (gC (.int 0))) av)) av)) (aS 5) (c_ 4 (cI (au (g2 bw (g2 bw (af 3) (gC (.int 0))) (af 5)) (au (gN (aC 2 fB) (ah (g2 cj (g2 cu (gN (aC 2 bT) (ah (af 0) (ah (g2 bK (af 1) (af 5)) av))) (gC (.int 167))) (g2 iU (gC (.int 2)) (gC (.int 8)))) (ah (af 2) av))) aG)))))
 (az (aH 6 (fK aG))
 (az (fm (cA (ah (gN fk (ah (g2 bw (af 3) (gC (.int 1))) av)) av)) (aS 5) (az (aH 7 (g2 cj (g2 cu (gN (aC 2 bT) (ah (af 0) (ah (g2 bK (g2 bK (af 1) (gC (.int 3))) (af 5)) av))) (gC (.int 11400714819323198485))) (g2 iU (gC (.int 2)) (gC (.int 64)))))
 (c_ 6 (cI (au (g2 bw (g2 bw (af 3) (gC (.int 1))) (af 5)) (au (gN (aC 2 eY) (ah (af 7) (ah (af 2) av))) aG))))))
 (aN (cI (au (af 2) (au (gN cM (ah (af 4) av)) (au (gN cM (ah (af 6) av)) aG)))))))))
def cR (as:List S):M R:=fin (iY (aF qQ as))
theorem fR (h:n<=1000):n<=sizeLine:=HB h (by decide)
def Ba (k:Nat):Bool:=!(OL "abcdefghijklmnopqrstuvwxyz" ⟨#[k]⟩ 0 (M_ "abcdefghijklmnopqrstuvwxyz") 1).isEmpty
def words:List D:=[.str "and",.str "or",.str "not",.str "some",.str "every",.str "least",.str "true",.str "false"]
def vh (x:Str):Bool:=decide (2<=x.length) && (decide (x.length<=8) && (!inD (.str x) words && x.cps.toList.all Ba))
theorem uP {ge:G R}{f:D->D}(tl:Ev):∀(ds:List D) (x:Option S),(∀d∈ds,ge (some (.d d)::tl)=.ok (.d (f d)))->dI (aS 0) gk ge ds (x::tl)=.ok (ds.map f)
 | [],_,_=>rfl
 | d::r,x,h=>by have ih:=uP tl r (some (.d d)) λe he=>h e (Gp _ he);unfold dI;simp only [aS,List.set_cons_zero,aY,gk,if_true,h d Gs,toD];rw [ih];rfl
theorem rC (f:D->Bool):∀(ds:List D),jh (ds.map λd=>.bl (f d))=some (ds.map f)
 | []=>rfl
 | d::r=>by simp only [Ht,jh,rC f r];rfl
theorem all_map (f:D->Bool) (ds:List D):nM [.l .fresh (ds.map λd=>.bl (f d))]=.ok (.d (.bl (ds.all f))):=by unfold nM;simp only [gV,aY,rC];congr 3;simp [Nr]
theorem nE {α:Type}{xs:List α}{k:Nat}{x:α}(h:xs[k]?=some x):L2.jF xs (k:Int)=some x:=by have hk:k < xs.length:=(GC.mp h).1;unfold L2.jF L2.rW;rw [if_pos (by omega),if_pos (by omega)];simpa using h
theorem gA {xs:List D}{k:Nat}{x:D}(h:xs[k]?=some x):bw (.d (.tup xs)) (.d (.int k))=.ok (.d x):=by unfold bw;simp only [i7,aY,nE h]
theorem s_ {m:Md}{xs:List D}{k:Nat}{x:D}(h:xs[k]?=some x):bw (.l m xs) (.d (.int k))=.ok (.d x):=by unfold bw;simp only [i7,aY,nE h]
theorem rQ {z:Str}{k:Nat}{c:Nat}(hz:z.length<=1000) (h:z.cps.toList[k]?=some c):bw (.d (.str z)) (.d (.int k))=.ok (.d (.str ⟨#[c]⟩)):=by unfold bw;simp only [fR hz,if_true,nE h]
theorem aK (xs:List D):fk [.d (.tup xs)]=.ok (.d (.int xs.length)):=rfl
theorem eq_int (neg:Bool) (i j:Int):dW neg (.d (.int i)) (.d (.int j))=.ok (.d (.bl (if neg then !(i == j) else i == j))):=rfl
theorem bQ (a:D) (r:List D):bw (.d (.tup (a::r))) (.d (.int 0))=.ok (.d a):=gA (k:=0) rfl
theorem bU (a b:D) (r:List D):bw (.d (.tup (a::b::r))) (.d (.int 1))=.ok (.d b):=gA (k:=1) rfl
theorem bW (a b c:D) (r:List D):bw (.d (.tup (a::b::c::r))) (.d (.int 2))=.ok (.d c):=gA (k:=2) rfl
theorem D0 (n:Nat) (h:n<=1000):below 4611686018427387904 (n:Int)=true:=cU.mpr ⟨by omega,by omega⟩
def yL (j:Int):M (List D):=if below 4611686018427387904 j then .ok (cH 0 j.toNat) else .bad
theorem BU (j:Int) (h:below 4611686018427387904 j=true):yL j=.ok (cH 0 j.toNat):=by unfold yL;exact if_pos h
theorem BS {gs:G (List R)}(hg:gs env=.ok [.d (.int j)]):cA gs env=yL j:=by unfold cA yL;rw [hg];rfl
theorem qH {gs:G (List R)}{env:Ev}{n:Nat}(hg:gs env=.ok [.d (.int (n:Int))]) (h:n<=1000):cA gs env=.ok (cH 0 n):=by rw [BS hg,BU _ (D0 n h)];exact congrArg (λk=>M.ok (cH 0 k)) (Jd n)
theorem bN {t u:G O}(h:t env=.ok (.nx e)):az t u env=u e:=by unfold az;rw [h];rfl
theorem vK {t u:G O}(h:t env=.ok (.rt r)):az t u env=.ok (.rt r):=by unfold az;rw [h];rfl
theorem iB {g:G (List D)}{u:G O}(h:g env=.ok ds):fm g t u env=eK t u ds env:=by unfold fm;rw [h];rfl
theorem iK (i j:Int):bK (.d (.int i)) (.d (.int j))=.ok (.d (.int (i + j))):=rfl
theorem De (i j:Int):nN (.d (.int i)) (.d (.int j))=.ok (.d (.int (i - j))):=rfl
theorem kM {C:Int->Int->Bool}{f:Int->Int->D}(h:C i j=true):fI C f (.d (.int i)) (.d (.int j))=.ok (.d (f i j)):=by show (if C i j=true then M.ok (R.d (f i j)) else M.bad)=_;rw [if_pos h]
theorem kU (i j:Int) (h1:-(2 ^ 64) < j) (h2:j < 2 ^ 64):cu (.d (.int i)) (.d (.int j))=.ok (.d (.int (i * j))):=kM (C:=lQ) (f:=λi j=>.int (i * j)) (by unfold lQ;rw [IJ];exact Nt (cU.mpr ⟨h1,h2⟩))
theorem qL (i j:Int) (h1:-(2 ^ 64) < i) (h2:i < 2 ^ 64):cu (.d (.int i)) (.d (.int j))=.ok (.d (.int (i * j))):=kM (C:=lQ) (f:=λi j=>.int (i * j)) (by unfold lQ;rw [IJ];exact OA (cU.mpr ⟨h1,h2⟩))
theorem eg (i j:Int) (h1:0 < j) (h2:j < 1073741824):eE (.d (.int i)) (.d (.int j))=.ok (.d (.int (i / j))):=kM (by
 unfold tK;rw [Gw];exact ⟨decide_eq_true h1,cU.mpr ⟨by omega,h2⟩⟩)
theorem cL (i j:Int) (h1:0 < j):cj (.d (.int i)) (.d (.int j))=.ok (.d (.int (i % j))):=kM (decide_eq_true h1)
theorem su:iU (.d (.int 2)) (.d (.int 64))=.ok (.d (.int 18446744073709551616)):=kM (by decide)
theorem B3:iU (.d (.int 2)) (.d (.int 8))=.ok (.d (.int 256)):=kM (by decide)
theorem ug (x y:Str) (h:x.length + y.length<=1000):bK (.d (.str x)) (.d (.str y))=.ok (.d (.str (x++y))):=by show (if x.length + y.length<=sizeLine then M.ok (R.d (D.str (x++y))) else M.bad)=_;rw [if_pos (fR h)]
theorem uf (x:Str) (n:Int) (h0:0<=n) (h:n<=1000) (hx:x.length<=1000):cu (.d (.str x)) (.d (.int n))=.ok (.d (.str (ef x n.toNat))):=by show (if 0<=n/\n<=1000/\x.length<=1000 then M.ok (R.d (D.str (ef x n.toNat))) else M.bad)=_;rw [if_pos ⟨h0,h,hx⟩]
def Az:Str:="abcdefghijklmnopqrstuvwxyz"
theorem AA:∀k:Fin 26,Az.cps.toList[k.val]?=some (97 + k.val):=by decide +kernel
theorem yU:Az.length<=1000:=by decide +kernel
theorem vc (i:Int) (h0:0<=i) (h:i < 26):bw (.d (.str "abcdefghijklmnopqrstuvwxyz")) (.d (.int i))=.ok (.d (.str ⟨#[97 + i.toNat]⟩)):=by
 have e:i=((i.toNat:Nat):Int):=by omega
 have:=rQ (z:=Az) (k:=i.toNat) yU (AA ⟨i.toNat,by omega⟩);rw [e];exact this
def bases:List Nat:=[98,99,100,102,103]
theorem yZ:∀k:Fin 5,("bcdfg":Str).cps.toList[k.val]?=some (bases.getD k.val 0):=by decide +kernel
theorem wH:("bcdfg":Str).length<=1000:=by decide +kernel
theorem zj (i:Int) (h0:0<=i) (h:i < 5):∃b∈bases,bw (.d (.str "bcdfg")) (.d (.int i))=.ok (.d (.str ⟨#[b]⟩)):=by
 have e:i=((i.toNat:Nat):Int):=by omega
 have hb:i.toNat < bases.length:=by show _ < 5;omega
 refine ⟨bases.getD i.toNat 0,?_,?_⟩
 ·rw [G6,Gr hb];exact IB _
 ·have:=rQ (z:="bcdfg") (k:=i.toNat) wH (yZ ⟨i.toNat,by omega⟩);rw [e];exact this
theorem kJ (x y:Str):(x++y).cps.toList=x.cps.toList++y.cps.toList:=by show (x.cps++y.cps).toList=_;simp
theorem mE (c:Array Nat):∀(k:Nat) (acc:Array Nat),((GQ k c).foldl (·++·) acc).toList=acc.toList++(GQ k c.toList).flatten
 | 0,acc=>by simp
 | k + 1,acc=>by rw [HQ,K8,mE c k];simp [HQ]
theorem gy (b n:Nat):(ef ⟨#[b]⟩ n).cps.toList=GQ n b:=by
 unfold ef;simp only;rw [mE]
 induction n with
 | zero=>rfl
 | succ n ih=>simpa [HQ] using ih
theorem jb (x:Str):x.length=x.cps.toList.length:=by show x.cps.size=_;simp
theorem nV {x y:Str}(h:x.cps.toList=y.cps.toList):x=y:=by
 cases x with
 | mk a=>
  cases y with
  | mk b=>
   simp only at h;congr 1;exact Jo.mp h
theorem gF {t:GT}{u:G O}(I:Nat->Ev->Prop) (n:Nat)
  (h:∀k,k < n->∀env,I k env->∃e1 e2,t (.int k) env=.ok e1/\u e1=.ok (.nx e2)/\I (k + 1) e2) (env:Ev) (h0:I 0 env):
  ∃e,eK t u (cH 0 n) env=.ok (.nx e)/\I n e:=by
 have key:∀(m i:Nat),i + m=n->∀env,I i env->∃e,eK t u ((MD i m).map λ(k:Nat)=>D.int (0 + (k:Int))) env=.ok (.nx e)/\I n e:=by
  intro m
  induction m with
  | zero=>exact λi hi env hI=>⟨env,rfl,(by omega:i=n)▸hI⟩
  | succ m ih=>
   intro i hi env hI;obtain ⟨e1,e2,h1,h2,h3⟩:=h i (by omega) env hI;obtain ⟨e,h4,h5⟩:=ih (i + 1) (by omega) e2 h3;refine ⟨e,?_,h5⟩;rw [KL,Ht];unfold eK;rw [L_,h1,aY,h2,aY];exact h4
 obtain ⟨e,h1,h2⟩:=key n 0 (by omega) env h0;refine ⟨e,?_,h2⟩;unfold cH;rw [Mk];exact h1
noncomputable def cO:List (List Nat):=[[97,110,100],[111,114],[110,111,116],[115,111,109,101],[101,118,101,114,121],[108,101,97,115,116],[116,114,117,101],[102,97,108,115,101]]
def cY:List Str:=["and","or","not","some","every","least","true","false"]
theorem o6:cY.map (λw=>w.cps.toList)=cO:=by decide +kernel
theorem o7:words=cY.map .str:=rfl
theorem u5 (x:Str):inD (.str x) words=cY.any λw=>w == x:=by rw [o7];unfold inD;rw [List.any_map];congr 1
theorem xo:∀k:Fin 26,Ba (97 + k.val)=true:=by decide +kernel
theorem qu {x:Str}(h2:2<=x.cps.toList.length) (h8:x.cps.toList.length<=8) (hw:x.cps.toList∉cO) (ha:∀k∈x.cps.toList,97<=k/\k < 123):vh x=true:=by
 unfold vh;rw [jb,decide_eq_true h2,decide_eq_true h8,LI,LI,Gw];refine ⟨?_,GW.mpr λk hk=>?_⟩
 ·rw [Bool.not_eq_true',Lx];intro h;rw [u5,NH] at h;obtain ⟨w,h1,h3⟩:=h;have e:w=x:=eq_of_beq h3;subst e;refine hw ?_;rw [<-o6];exact Gi.mpr ⟨w,h1,rfl⟩
 ·obtain ⟨h1,h3⟩:=ha k hk;have:=xo ⟨k - 97,by omega⟩;rw [show 97 + (k - 97)=k by omega] at this;exact this
theorem wY:∀b∈bases,∀w∈cO,¬(w.filter (· != b)).length<=1:=by decide
theorem qy (hb:b∈bases){l:List Nat}(h:(l.filter (· != b)).length<=1):l∉cO:=λz=>wY b hb l z h
theorem vf:∀w∈cO,∀w'∈cO,w'.dropLast≠w:=by decide
theorem lJ:∀b∈bases,97<=b/\b < 123:=by decide
theorem strs_map:∀(ss:List Str),strsOf (ss.map .str)=some ss
 | []=>rfl
 | s::r=>by simp only [Ht,strsOf,strs_map r];rfl
theorem sorted_strs (m:Md) (ss:List Str) (h:ss.length < 64):ic [.l m (ss.map .str)]=.ok (.l .fresh ((fG ss).map .str)):=by unfold ic;simp only [gV,aY,strs_map,h,if_true]
theorem vO {ss:List Str}(h:ss.Nodup):(fG ss).Pairwise λa b=>a.cps.toList < b.cps.toList:=by
 have h1:=kD ss;have h2:(fG ss).Nodup:=(g6 ss).symm.nodup h;have:=h1.and h2;refine this.imp fun {a b} ⟨x,y⟩=>?_;unfold gv at x;have x:=of_decide_eq_true x;rcases List.le_iff_lt_or_eq.mp x with z | z
 ·exact z
 ·exact absurd (nV z) y
theorem lK {gi:G (List D)}{ge:G R}(hm:m<=1000) (f:Nat->D) (hi:gi env=.ok (cH 0 m)) (hc:cE 1 cap env=none::tl) (h:∀k,k < m->ge (some (.d (.int (k:Nat)))::tl)=.ok (.d (f k))):
  cG 1 cap gi (aS 0) gk ge env=.ok (.l .fresh ((Gg m).map f)):=by
 have e:=uP (ge:=ge) (f:=λd=>match d with | .int i=>f i.toNat | _=>.non) tl (cH 0 m) none λd hd=>by unfold cH at hd;rw [Gi] at hd;obtain ⟨k,hk,rfl⟩:=hd;rw [L_];exact h k (Hu.mp hk)
 have hl:(cH 0 m).length<=sizeLine:=by unfold cH;rw [Gn,GN];exact fR hm
 unfold cG;rw [hi,aY,if_pos hl,hc,e,aY];unfold cH;rw [GS];congr 3;funext k;show f ((0:Int) + (k:Int)).toNat=f k;rw [L_,Jd]
theorem vH (b:Nat):∀(i j:Nat),i < j->GQ i b < GQ j b
 | 0,j + 1,_=>by rw [HQ];exact List.nil_lt_cons _ _
 | i + 1,j + 1,h=>by rw [HQ,HQ,List.cons_lt_cons_iff];exact .inr ⟨rfl,vH b i j (by omega)⟩
def nP (b k:Nat):Str:=ef ⟨#[b]⟩ (2 + k)
def jt (f s k:Nat):Str:=(cY++cY).getD (f + k) ""++⟨#[97 + s]⟩
def iZ (b a r:Nat) (q:Int) (k:Nat):Str:=ef ⟨#[b]⟩ a++⟨#[97 + ((q + 5 * (k:Int)) % 26).toNat]⟩++ef ⟨#[b]⟩ r
def Good (m:Nat) (ss:List Str):Prop:=ss.length=m/\(∀s∈ss,vh s=true)/\ss.Pairwise λa b=>a.cps.toList < b.cps.toList
theorem Cf (hb:b∈bases) (hm:m<=6):Good m ((Gg m).map (nP b)):=by
 refine ⟨by simp,λs hs=>?_,?_⟩
 ·obtain ⟨k,hk,rfl⟩:=Gi.mp hs;have hk:=Hu.mp hk;have e:(nP b k).cps.toList=GQ (2 + k) b:=gy b (2 + k);refine qu (by rw [e,G7];omega) (by rw [e,G7];omega) (qy hb ?_) λx hx=>?_
  ·rw [e];simp
  ·rw [e] at hx;rw [JT hx];exact lJ b hb
 ·rw [HV];refine Ib.imp fun {i j} h=>?_;show (ef _ _).cps.toList < (ef _ _).cps.toList;rw [gy,gy];exact vH b _ _ (by omega)
theorem lq {ss:List Str}(hl:ss.length=m) (hn:∀s∈ss,vh s=true) (hd:ss.Nodup):Good m (fG ss):=
 ⟨by rw [(g6 ss).length_eq,hl],λs hs=>hn s ((g6 ss).mem_iff.mp hs),vO hd⟩
theorem qk (f s k:Nat) (h:f + k < 16):(jt f s k).cps.toList=(cO++cO).getD (f + k) []++[97 + s]:=by show (_++_:Str).cps.toList=_;rw [kJ];congr 1;rw [<-o6,<-Jg,G6,G6,GK];have hl:f + k < (cY++cY).length:=h;rw [Gr hl];rfl
theorem EA:∀j:Fin 16,(cO++cO).getD j.val []∈cO:=by decide
theorem Ag:∀w∈cO,2<=w.length/\w.length<=5/\∀k∈w,97<=k/\k < 123:=by decide
theorem B7:∀(f:Fin 8) (j k:Fin 6),j.val≠k.val->(cO++cO).getD (f.val + j.val) []≠(cO++cO).getD (f.val + k.val) []:=by decide
theorem good2 (hf:f < 8) (hs:s < 26) (hm:m<=6):Good m (fG ((Gg m).map (jt f s))):=by
 refine lq (by simp) (λx hx=>?_) ?_
 ·obtain ⟨k,hk,rfl⟩:=Gi.mp hx;have hk:=Hu.mp hk;have e:=qk f s k (by omega);have hw:=EA ⟨f + k,by omega⟩;obtain ⟨h1,h2,h3⟩:=Ag _ hw;simp only at h1 h2 h3 hw;generalize (cO++cO).getD (f + k) []=w at e hw h1 h2 h3;refine qu (by rw [e,GR];simp;omega) (by rw [e,GR];simp;omega) (λz=>?_) λy hy=>?_
  ·rw [e] at z;exact vf w hw _ z (by simp)
  ·rw [e,Hf] at hy;rcases hy with hy | hy
   ·exact h3 y hy
   ·rw [G5] at hy;omega
 ·rw [JH,HV];refine (Ib (n:=m)).imp_of_mem fun {i j} hi hj h z=>?_;have hi:=Hu.mp hi;have hj:=Hu.mp hj;have z':(jt f s i).cps.toList=(jt f s j).cps.toList:=by rw [z]
  rw [qk f s i (by omega),qk f s j (by omega)] at z';exact B7 ⟨f,hf⟩ ⟨i,by omega⟩ ⟨j,by omega⟩ (show i≠j by omega) (Lz z')
theorem ql (b a r:Nat) (q:Int) (k:Nat):(iZ b a r q k).cps.toList=GQ a b++[97 + ((q + 5 * (k:Int)) % 26).toNat]++GQ r b:=by show (_++_++_:Str).cps.toList=_;rw [kJ,kJ,gy,gy]
theorem good3 (hb:b∈bases) (h2:1<=a + r) (h8:a + r<=7) (hm:m<=6):Good m (fG ((Gg m).map (iZ b a r q))):=by
 refine lq (by simp) (λx hx=>?_) ?_
 ·obtain ⟨k,hk,rfl⟩:=Gi.mp hx;have e:=ql b a r q k;refine qu (by rw [e];simp;omega) (by rw [e];simp;omega) (qy hb ?_) λy hy=>?_
  ·rw [e,M0,M0];have:∀n,(GQ n b).filter (· != b)=[]:=λn=>by simp
   rw [this,this,List.nil_append,HL];exact KC _ _
  ·rw [e,Hf,Hf,G5] at hy;rcases hy with (hy | hy) | hy
   ·rw [JT hy];exact lJ b hb
   ·have:0<=(q + 5 * (k:Int)) % 26:=Jh _ (by decide);have:(q + 5 * (k:Int)) % 26 < 26:=J6 _ (by decide);omega
   ·rw [JT hy];exact lJ b hb
 ·rw [JH,HV];refine (Ib (n:=m)).imp_of_mem fun {i j} hi hj h z=>?_;have hi:=Hu.mp hi;have hj:=Hu.mp hj;have z':(iZ b a r q i).cps.toList=(iZ b a r q j).cps.toList:=by rw [z]
  rw [ql,ql] at z';have z2:=Lz z';have z3:=List.append_cancel_left z2;have z4:97 + ((q + 5 * (i:Int)) % 26).toNat=97 + ((q + 5 * (j:Int)) % 26).toNat:=by simpa using z3
  have g1:0<=(q + 5 * (i:Int)) % 26:=Jh _ (by decide);have g2:0<=(q + 5 * (j:Int)) % 26:=Jh _ (by decide);have z5:(q + 5 * (i:Int)) % 26=(q + 5 * (j:Int)) % 26:=by omega
  omega
theorem yG (m:Md) (xs:List D):fk [.l m xs]=.ok (.d (.int xs.length)):=rfl
def eH (ns:List Int) (k:Nat):Int:=(ns.map λx=>x % 18446744073709551616).getD k 0
theorem uu (ns:List Int) (k:Nat):bT [.bor (ns.map D.int),.d (.int k)]=.ok (.d (.int (eH ns k))):=by
 unfold bT jo;by_cases h:k < ns.length
 ·have h':(k:Int) < ns.length:=by omega
  have e:(ns.map D.int)[k]?=some (.int ns[k]):=by rw [GK,Gr h];rfl
  have e2:eH ns k=ns[k] % 18446744073709551616:=by unfold eH;rw [G6,GK,Gr h];rfl
  simp [az,aO,bI,bz,bg,aX,bE,af,aF,S.rd,R.dat,bG,bu,g2,gN,ah,av,gC,bx,aN,aW,aZ,aC,bq,bC,rF,fin,bL,aK,eq_int,au,aG,toD,toS,aH,bQ,bU,bW,gW,yG,h',s_ e,su,cL,e2]
 ·have h':¬(k:Int) < ns.length:=by omega
  have e2:eH ns k=0:=by unfold eH;rw [G6,GK,List.getElem?_eq_none (by omega)];rfl
  simp [az,aO,bI,bz,bg,aX,bE,af,aF,S.rd,R.dat,bG,bu,g2,gN,ah,av,gC,bx,aN,aW,aZ,aC,bq,bC,rF,fin,bL,aK,eq_int,au,aG,toD,toS,aH,bQ,bU,bW,gW,yG,h',e2]
abbrev eN (c m x2:Int) (x3:S) (x4:Int) (x5 x6 x7 x8 x9 x10 x11:Option S):Ev:=[some (.d (.int c)),some (.d (.int m)),some (.d (.int x2)),some x3,some (.d (.int x4)),x5,x6,x7,x8,x9,x10,x11]
theorem kq {m:Nat}{env:Ev}{gs:G (List R)}(h:m<=1000) (hg:gs env=.ok [.d (.int (m:Int))]):cA gs env=.ok (cH 0 m):=qH hg h
theorem Ai:fK (au (gC (.str "and")) (au (gC (.str "or")) (au (gC (.str "not")) (au (gC (.str "some")) (au (gC (.str "every")) (au (gC (.str "least")) (au (gC (.str "true")) (au (gC (.str "false")) aG))))))))=λ_=>.ok (.l .fresh words):=by funext env;rfl
theorem za (xs ys:List D) (h:xs.length + ys.length<=1000):bK (.l .own xs) (.l .own ys)=.ok (.l .fresh (xs++ys)):=by show (if xs.length + ys.length<=sizeLine then M.ok (R.l Md.fresh (xs++ys)) else M.bad)=_;rw [if_pos (fR h)]
theorem Dl (j:Nat) (h:j < 16):(words++words)[j]?=some (.str ((cY++cY).getD j "")):=by rw [o7,<-Jg,GK,G6];have hl:j < (cY++cY).length:=h;rw [Gr hl];rfl
theorem B8:∀j:Fin 16,((cY++cY).getD j.val "").length<=5:=by decide +kernel
theorem ja {b:G Bool}{t u:G O}(h:b env=.ok false):aO b t u env=u env:=by unfold aO;rw [h];rfl
theorem rU {b:G Bool}{t u:G O}(h:b env=.ok true):aO b t u env=t env:=by unfold aO;rw [h];rfl
theorem tU {g:G R}{f:List R->M R}(h:g env=.ok r) (hf:f [r]=.ok r'):gN f (ah g av) env=.ok r':=by unfold gN ah;rw [h];exact hf
theorem qG {g:G R}(h:g env=.ok r) (h2:rF r=.ok r'):aN g env=.ok (.rt r'):=by unfold aN;rw [h,aY,h2];rfl
theorem yS (c:Int) (m:Nat) (hm:m<=6):∃ss:List Str,d9 [.d (.int c),.d (.int m)]=.ok (.l .fresh (ss.map .str))/\Good m ss:=by
 unfold d9 iW;rw [Ai];show ∃ss:List Str,fin (az _ _ [some (.d (.int c)),some (.d (.int m)),none,none,none,none,none,none,none,none,none,none])=_/\_;obtain ⟨n,hn⟩:∃n,c * 7129 % 1000033=n:=⟨_,rfl⟩;have n0:0<=n:=hn▸Jh _ (by decide);have n1:n < 1000033:=hn▸J6 _ (by decide);obtain ⟨b,hb,eb⟩:=zj (n % 5) (by omega) (by omega);rw [bN (e:=[some (.d (.int c)),some (.d (.int m)),some (.d (.int n)),none,none,none,none,none,none,none,none,none]) (by simp [az,aO,bI,bz,bg,aX,bE,af,aF,S.rd,R.dat,bG,bu,g2,gN,ah,av,gC,bx,aN,aW,aZ,aC,bq,bC,rF,fin,bL,aK,eq_int,au,aG,toD,toS,aH,bQ,bU,bW,kU,cL,hn])];rw [bN (e:=[some (.d (.int c)),some (.d (.int m)),some (.d (.int n)),some (.d (.str ⟨#[b]⟩)),none,none,none,none,none,none,none,none]) (by simp [az,aO,bI,bz,bg,aX,bE,af,aF,S.rd,R.dat,bG,bu,g2,gN,ah,av,gC,bx,aN,aW,aZ,aC,bq,bC,rF,fin,bL,aK,eq_int,au,aG,toD,toS,aH,bQ,bU,bW,cL,eb])];rw [bN (e:=eN c m n (.d (.str ⟨#[b]⟩)) (2 + n / 5 % 7) none none none none none none none) (by simp [az,aO,bI,bz,bg,aX,bE,af,aF,S.rd,R.dat,bG,bu,g2,gN,ah,av,gC,bx,aN,aW,aZ,aC,bq,bC,rF,fin,bL,aK,eq_int,au,aG,toD,toS,aH,bQ,bU,bW,cL,eg,iK])];have lb:(⟨#[b]⟩:Str).length<=1000:=by show 1<=1000;decide
 by_cases c1:n / 35 % 4=1
 ·refine ⟨(Gg m).map (nP b),?_,Cf hb hm⟩;have cr:=lK (cap:=[3]) (gi:=cA (ah (af 1) av)) (ge:=g2 cu (af 1) (g2 bK (gC (.int 2)) (af 0))) (env:=eN c m n (.d (.str ⟨#[b]⟩)) (2 + n / 5 % 7) none none none none none none none) (tl:=[some (.d (.str ⟨#[b]⟩))]) (m:=m) (by omega) (λk=>.str (nP b k)) (kq (by omega) (by simp [az,aO,bI,bz,bg,aX,bE,af,aF,S.rd,R.dat,bG,bu,g2,gN,ah,av,gC,bx,aN,aW,aZ,aC,bq,bC,rF,fin,bL,aK,eq_int,au,aG,toD,toS,aH,bQ,bU,bW])) rfl (λk hk=>by
   have:=uf ⟨#[b]⟩ (2 + (k:Int)) (by omega) (by omega) lb;have e:(2 + (k:Int)).toNat=2 + k:=by omega
   rw [e] at this;simp [az,aO,bI,bz,bg,aX,bE,af,aF,S.rd,R.dat,bG,bu,g2,gN,ah,av,gC,bx,aN,aW,aZ,aC,bq,bC,rF,fin,bL,aK,eq_int,au,aG,toD,toS,aH,bQ,bU,bW,iK,this,nP])
  rw [vK (r:=.l .fresh (((Gg m).map (nP b)).map .str)) (by
   unfold aO aN;rw [cr];simp [az,aO,bI,bz,bg,aX,bE,af,aF,S.rd,R.dat,bG,bu,g2,gN,ah,av,gC,bx,aN,aW,aZ,aC,bq,bC,rF,fin,bL,aK,eq_int,au,aG,toD,toS,aH,bQ,bU,bW,eg,cL,c1])]
  rfl
 ·rw [bN (e:=eN c m n (.d (.str ⟨#[b]⟩)) (2 + n / 5 % 7) none none none none none none none) ((ja (by simp [az,aO,bI,bz,bg,aX,bE,af,aF,S.rd,R.dat,bG,bu,g2,gN,ah,av,gC,bx,aN,aW,aZ,aC,bq,bC,rF,fin,bL,aK,eq_int,au,aG,toD,toS,aH,bQ,bU,bW,eg,cL,c1])).trans rfl)];by_cases c2:n / 35 % 4=2
  ·refine ⟨fG ((Gg m).map (jt (n / 140 % 8).toNat (n / 1120 % 26).toNat)),?_,good2 (by omega) (by omega) hm⟩;have cr:=lK (cap:=[5,6,7,2]) (gi:=cA (ah (af 1) av)) (ge:=(g2 bK (g2 bw (g2 bK (af 1) (af 1)) (g2 bK (af 2) (af 0))) (g2 bw (af 3) (g2 cj (g2 eE (af 4) (gC (.int 1120))) (gC (.int 26)))))) (env:=eN c m n (.d (.str ⟨#[b]⟩)) (2 + n / 5 % 7) (some (.own words)) (some (.d (.int (n / 140 % 8)))) (some (.d (.str "abcdefghijklmnopqrstuvwxyz"))) none none none none) (tl:=[some (.own words),some (.d (.int (n / 140 % 8))),some (.d (.str "abcdefghijklmnopqrstuvwxyz")),some (.d (.int n))]) (m:=m) (by omega) (λk=>.str (jt (n / 140 % 8).toNat (n / 1120 % 26).toNat k)) (kq (by omega) (by simp [az,aO,bI,bz,bg,aX,bE,af,aF,S.rd,R.dat,bG,bu,g2,gN,ah,av,gC,bx,aN,aW,aZ,aC,bq,bC,rF,fin,bL,aK,eq_int,au,aG,toD,toS,aH,bQ,bU,bW])) rfl (λk hk=>by
    have ea:=vc (n / 1120 % 26) (by omega) (by omega);have ew:=s_ (m:=.fresh) (Dl ((n / 140 % 8).toNat + k) (by omega));have ei:(((n / 140 % 8).toNat + k:Nat):Int)=n / 140 % 8 + k:=by omega
    rw [ei] at ew;have el:=B8 ⟨(n / 140 % 8).toNat + k,by omega⟩;simp only at el;have es:=ug ((cY++cY).getD ((n / 140 % 8).toNat + k) "") ⟨#[97 + (n / 1120 % 26).toNat]⟩ (by show _ + 1<=_;omega);have ec:=za words words (by decide);unfold jt;generalize (cY++cY).getD ((n / 140 % 8).toNat + k) ""=w at ew es ⊢;simp only [g2,af,gC,List.getElem?_cons_zero,List.getElem?_cons_succ,aY,S.rd,ec,iK];rw [ew,aY,eg _ _ (by decide) (by decide),aY,cL _ _ (by decide),aY,ea,aY,es])
   rw [vK (r:=.l .fresh ((fG ((Gg m).map (jt (n / 140 % 8).toNat (n / 1120 % 26).toNat))).map .str)) (by
    unfold aO;rw [show aX (g2 (dW false) (g2 cj (g2 eE (af 2) (gC (.int 35))) (gC (.int 4))) (gC (.int 2))) (eN c m n (.d (.str ⟨#[b]⟩)) (2 + n / 5 % 7) none none none none none none none)=.ok true by simp [az,aO,bI,bz,bg,aX,bE,af,aF,S.rd,R.dat,bG,bu,g2,gN,ah,av,gC,bx,aN,aW,aZ,aC,bq,bC,rF,fin,bL,aK,eq_int,au,aG,toD,toS,aH,bQ,bU,bW,eg,cL,c2],aY,if_pos rfl];rw [bN (e:=eN c m n (.d (.str ⟨#[b]⟩)) (2 + n / 5 % 7) (some (.own words)) none none none none none none) (by simp [az,aO,bI,bz,bg,aX,bE,af,aF,S.rd,R.dat,bG,bu,g2,gN,ah,av,gC,bx,aN,aW,aZ,aC,bq,bC,rF,fin,bL,aK,eq_int,au,aG,toD,toS,aH,bQ,bU,bW])];rw [bN (e:=eN c m n (.d (.str ⟨#[b]⟩)) (2 + n / 5 % 7) (some (.own words)) (some (.d (.int (n / 140 % 8)))) none none none none none) (by simp [az,aO,bI,bz,bg,aX,bE,af,aF,S.rd,R.dat,bG,bu,g2,gN,ah,av,gC,bx,aN,aW,aZ,aC,bq,bC,rF,fin,bL,aK,eq_int,au,aG,toD,toS,aH,bQ,bU,bW,eg,cL])];rw [bN (e:=eN c m n (.d (.str ⟨#[b]⟩)) (2 + n / 5 % 7) (some (.own words)) (some (.d (.int (n / 140 % 8)))) (some (.d (.str "abcdefghijklmnopqrstuvwxyz"))) none none none none) (by simp [az,aO,bI,bz,bg,aX,bE,af,aF,S.rd,R.dat,bG,bu,g2,gN,ah,av,gC,bx,aN,aW,aZ,aC,bq,bC,rF,fin,bL,aK,eq_int,au,aG,toD,toS,aH,bQ,bU,bW])];have hs:=sorted_strs .fresh ((Gg m).map (jt (n / 140 % 8).toNat (n / 1120 % 26).toNat)) (by simp;omega);rw [GS] at hs;exact qG (tU cr hs) rfl)]
   rfl
  ·rw [bN (e:=eN c m n (.d (.str ⟨#[b]⟩)) (2 + n / 5 % 7) none none none none none none none) ((ja (by simp [az,aO,bI,bz,bg,aX,bE,af,aF,S.rd,R.dat,bG,bu,g2,gN,ah,av,gC,bx,aN,aW,aZ,aC,bq,bC,rF,fin,bL,aK,eq_int,au,aG,toD,toS,aH,bQ,bU,bW,eg,cL,c2])).trans rfl)];have hz:0 < 2 + n / 5 % 7:=by omega
   rw [bN (e:=eN c m n (.d (.str ⟨#[b]⟩)) (2 + n / 5 % 7) none none none (some (.d (.int (n / 105 % (2 + n / 5 % 7))))) none none none) (by simp [az,aO,bI,bz,bg,aX,bE,af,aF,S.rd,R.dat,bG,bu,g2,gN,ah,av,gC,bx,aN,aW,aZ,aC,bq,bC,rF,fin,bL,aK,eq_int,au,aG,toD,toS,aH,bQ,bU,bW,eg,cL,hz])];rw [bN (e:=eN c m n (.d (.str ⟨#[b]⟩)) (2 + n / 5 % 7) none none none (some (.d (.int (n / 105 % (2 + n / 5 % 7))))) (some (.own [])) none none) (by simp [az,aO,bI,bz,bg,aX,bE,af,aF,S.rd,R.dat,bG,bu,g2,gN,ah,av,gC,bx,aN,aW,aZ,aC,bq,bC,rF,fin,bL,aK,eq_int,au,aG,toD,toS,aH,bQ,bU,bW,fK])];obtain ⟨a,ha⟩:∃a,n / 105 % (2 + n / 5 % 7)=a:=⟨_,rfl⟩;have a0:0<=a:=ha▸Jh _ (by omega);have a1:a < 2 + n / 5 % 7:=ha▸J6 _ hz;obtain ⟨z,hz2⟩:∃z,2 + n / 5 % 7=z:=⟨_,rfl⟩;have z1:2<=z/\z<=8:=by omega
   rw [ha,hz2];rw [hz2] at a1;refine ⟨fG ((Gg m).map (iZ b a.toNat (z - 1 - a).toNat (n / 840))),?_,good3 hb (by omega) (by omega) hm⟩;have ra:=uf ⟨#[b]⟩ a (by omega) (by omega) lb;have rr:=uf ⟨#[b]⟩ (z - 1 - a) (by omega) (by omega) lb;have la:(ef ⟨#[b]⟩ a.toNat).length<=8:=by rw [jb,gy,G7];omega
   have lr:(ef ⟨#[b]⟩ (z - 1 - a).toNat).length<=8:=by rw [jb,gy,G7];omega
   obtain ⟨e,h1,x,y,rfl⟩:=gF (t:=aS 10) (u:=(az (aH 11 (g2 bw (gC (.str "abcdefghijklmnopqrstuvwxyz")) (g2 cj (g2 bK (g2 eE (af 2) (gC (.int 840))) (g2 cu (gC (.int 5)) (af 10))) (gC (.int 26)))))
 (c_ 9 (g2 bK (g2 bK (g2 cu (af 3) (af 8)) (af 11)) (g2 cu (af 3) (g2 nN (g2 nN (af 4) (gC (.int 1))) (af 8))))))) (λk env=>∃x y,env=eN c m n (.d (.str ⟨#[b]⟩)) z none none none (some (.d (.int a))) (some (.own (((Gg k).map (iZ b a.toNat (z - 1 - a).toNat (n / 840))).map .str))) x y) m (λk hk env ⟨x,y,he⟩=>by
    subst he;refine ⟨_,_,rfl,?_,some (.d (.int k)),some (.d (.str ⟨#[97 + ((n / 840 + 5 * (k:Int)) % 26).toNat]⟩)),rfl⟩
    ·have ea:=vc ((n / 840 + 5 * (k:Int)) % 26) (by omega) (by omega);rw [bN (e:=eN c m n (.d (.str ⟨#[b]⟩)) z none none none (some (.d (.int a))) (some (.own (((Gg k).map (iZ b a.toNat (z - 1 - a).toNat (n / 840))).map .str))) (some (.d (.int k))) (some (.d (.str ⟨#[97 + ((n / 840 + 5 * (k:Int)) % 26).toNat]⟩)))) (by simp [az,aO,bI,bz,bg,aX,bE,af,aF,S.rd,R.dat,bG,bu,g2,gN,ah,av,gC,bx,aN,aW,aZ,aC,bq,bC,rF,fin,bL,aK,eq_int,au,aG,toD,toS,aH,bQ,bU,bW,aS,iK,qL,eg,cL,ea])];have e1:=ug (ef ⟨#[b]⟩ a.toNat) ⟨#[97 + ((n / 840 + 5 * (k:Int)) % 26).toNat]⟩ (by show _ + 1<=_;omega);have e2:=ug (ef ⟨#[b]⟩ a.toNat++⟨#[97 + ((n / 840 + 5 * (k:Int)) % 26).toNat]⟩) (ef ⟨#[b]⟩ (z - 1 - a).toNat) (by
      rw [jb,kJ,GR,<-jb];simp;omega)
     have hk':k < sizeLine:=Gy (by omega:k < 1000) (by decide);simp [az,aO,bI,bz,bg,aX,bE,af,aF,S.rd,R.dat,bG,bu,g2,gN,ah,av,gC,bx,aN,aW,aZ,aC,bq,bC,rF,fin,bL,aK,eq_int,au,aG,toD,toS,aH,bQ,bU,bW,c_,ra,rr,e1,e2,De,hk',NZ,iZ]) (eN c m n (.d (.str ⟨#[b]⟩)) z none none none (some (.d (.int a))) (some (.own [])) none none) ⟨none,none,rfl⟩
   rw [bN ((iB (kq (m:=m) (by omega) (by simp [az,aO,bI,bz,bg,aX,bE,af,aF,S.rd,R.dat,bG,bu,g2,gN,ah,av,gC,bx,aN,aW,aZ,aC,bq,bC,rF,fin,bL,aK,eq_int,au,aG,toD,toS,aH,bQ,bU,bW]))).trans h1)];have hs:=sorted_strs .own ((Gg m).map (iZ b a.toNat (z - 1 - a).toNat (n / 840))) (by simp;omega);rw [qG (tU (r:=.l .own (((Gg m).map (iZ b a.toNat (z - 1 - a).toNat (n / 840))).map .str)) rfl hs) rfl];rfl
abbrev dN (k:Nat):D:=.int k
abbrev dP (p:Nat×Nat):D:=.tup [.int p.1,.int p.2]
def je (p q:Nat×Nat):Prop:=p.1 < q.1\/(p.1=q.1/\p.2 < q.2)
def pJ (m:Nat) (xs:List Nat):Prop:=xs.length<=8/\xs.Pairwise (· < ·)/\∀x∈xs,x < m
def pI (m:Nat) (ps:List (Nat×Nat)):Prop:=ps.length<=64/\ps.Pairwise je/\∀p∈ps,p.1 < m/\p.2 < m
def uB (ss:List Str):Prop:=ss.length<=3/\(∀s∈ss,vh s=true)/\ss.Pairwise λa b=>a.cps.toList < b.cps.toList
structure Wd where
 m:Nat
 ms:List (Str×List Nat)
 ar:List (Str×List (Nat×Nat))
abbrev cX (r:Str×List Nat):D:=.tup [.str r.1,.tup (r.2.map dN)]
abbrev c9 (r:Str×List (Nat×Nat)):D:=.tup [.str r.1,.tup (r.2.map dP)]
def Wd.d (w:Wd):D:=.tup [.int w.m,.tup (w.ms.map cX),.tup (w.ar.map c9)]
theorem Ao (b:Int) (m:Nat) (hm:m<=8):∃xs:List Nat,fB [.d (.int b),.d (.int m)]=.ok (.d (.tup (xs.map dN)))/\pJ m xs:=by
 unfold fB jq;show ∃xs:List Nat,fin (az _ _ [some (.d (.int b)),some (.d (.int m)),none,none])=_/\_;rw [bN (e:=[some (.d (.int b)),some (.d (.int m)),some (.own []),none]) (by simp [az,aO,bI,bz,bg,aX,bE,af,aF,S.rd,R.dat,bG,bu,g2,gN,ah,av,gC,bx,aN,aW,aZ,aC,bq,bC,rF,fin,bL,aK,eq_int,au,aG,toD,toS,aH,bQ,bU,bW,fK])];obtain ⟨e,h1,b',xs,y,rfl,hl,hp,hx⟩:=gF (t:=aS 3) (u:=(az (aO (aX (g2 (dW false) (g2 cj (af 0) (gC (.int 2))) (gC (.int 1)))) (c_ 2 (af 3)) bx)
 (aH 0 (g2 eE (af 0) (gC (.int 2)))))) (λk env=>∃(b':Int) (xs:List Nat) (y:Option S),env=[some (.d (.int b')),some (.d (.int m)),some (.own (xs.map dN)),y]/\xs.length<=k/\xs.Pairwise (· < ·)/\∀x∈xs,x < k) m (λk hk env ⟨b',xs,y,he,hl,hp,hx⟩=>by
  subst he;have hz:xs.length < sizeLine:=Gy (by omega:xs.length < 1000) (by decide);by_cases hb:b' % 2=1
  ·refine ⟨_,_,rfl,?_,b' / 2,xs++[k],some (.d (.int k)),rfl,by simp;omega,?_,λx hx'=>?_⟩
   ·rw [bN (e:=[some (.d (.int b')),some (.d (.int m)),some (.own ((xs++[k]).map dN)),some (.d (.int k))]) ((rU (by simp [az,aO,bI,bz,bg,aX,bE,af,aF,S.rd,R.dat,bG,bu,g2,gN,ah,av,gC,bx,aN,aW,aZ,aC,bq,bC,rF,fin,bL,aK,eq_int,au,aG,toD,toS,aH,bQ,bU,bW,cL,hb])).trans (by simp [az,aO,bI,bz,bg,aX,bE,af,aF,S.rd,R.dat,bG,bu,g2,gN,ah,av,gC,bx,aN,aW,aZ,aC,bq,bC,rF,fin,bL,aK,eq_int,au,aG,toD,toS,aH,bQ,bU,bW,c_,hz]))];simp [az,aO,bI,bz,bg,aX,bE,af,aF,S.rd,R.dat,bG,bu,g2,gN,ah,av,gC,bx,aN,aW,aZ,aC,bq,bC,rF,fin,bL,aK,eq_int,au,aG,toD,toS,aH,bQ,bU,bW,eg]
   ·rw [Hx];exact ⟨hp,J_ _ _,λa ha c hc=>by rw [G5] at hc;rw [hc];exact hx a ha⟩
   ·rw [Hf,G5] at hx';rcases hx' with h | h
    ·exact Ng (hx x h)
    ·omega
  ·refine ⟨_,_,rfl,?_,b' / 2,xs,some (.d (.int k)),rfl,by omega,hp,λx h=>Ng (hx x h)⟩;rw [bN (e:=[some (.d (.int b')),some (.d (.int m)),some (.own (xs.map dN)),some (.d (.int k))]) ((ja (by simp [az,aO,bI,bz,bg,aX,bE,af,aF,S.rd,R.dat,bG,bu,g2,gN,ah,av,gC,bx,aN,aW,aZ,aC,bq,bC,rF,fin,bL,aK,eq_int,au,aG,toD,toS,aH,bQ,bU,bW,cL,hb])).trans rfl)];simp [az,aO,bI,bz,bg,aX,bE,af,aF,S.rd,R.dat,bG,bu,g2,gN,ah,av,gC,bx,aN,aW,aZ,aC,bq,bC,rF,fin,bL,aK,eq_int,au,aG,toD,toS,aH,bQ,bU,bW,eg]) [some (.d (.int b)),some (.d (.int m)),some (.own []),none] ⟨b,[],none,rfl,Hh _,.nil,λx h=>by cases h⟩
 rw [bN ((iB (kq (m:=m) (by omega) (by simp [az,aO,bI,bz,bg,aX,bE,af,aF,S.rd,R.dat,bG,bu,g2,gN,ah,av,gC,bx,aN,aW,aZ,aC,bq,bC,rF,fin,bL,aK,eq_int,au,aG,toD,toS,aH,bQ,bU,bW]))).trans h1)];exact ⟨xs,rfl,by omega,hp,hx⟩
def En (k j:Nat) (p:Nat×Nat):Prop:=p.1 < k\/(p.1=k/\p.2 < j)
theorem we (b:Int) (m:Nat) (hm:m<=8):∃ps:List (Nat×Nat),eY [.d (.int b),.d (.int m)]=.ok (.d (.tup (ps.map dP)))/\pI m ps:=by
 unfold eY iX;show ∃ps:List (Nat×Nat),fin (az _ _ [some (.d (.int b)),some (.d (.int m)),none,none,none])=_/\_;rw [bN (e:=[some (.d (.int b)),some (.d (.int m)),some (.own []),none,none]) (by simp [az,aO,bI,bz,bg,aX,bE,af,aF,S.rd,R.dat,bG,bu,g2,gN,ah,av,gC,bx,aN,aW,aZ,aC,bq,bC,rF,fin,bL,aK,eq_int,au,aG,toD,toS,aH,bQ,bU,bW,fK])];obtain ⟨e,h1,b',ps,y,z,rfl,hl,hp,hx⟩:=gF (t:=aS 3) (u:=(fm (cA (ah (af 1) av)) (aS 4) (az (aO (aX (g2 (dW false) (g2 cj (af 0) (gC (.int 2))) (gC (.int 1)))) (c_ 2 (cI (au (af 3) (au (af 4) aG)))) bx)
 (aH 0 (g2 eE (af 0) (gC (.int 2))))))) (λk env=>∃(b':Int) (ps:List (Nat×Nat)) (y z:Option S),env=[some (.d (.int b')),some (.d (.int m)),some (.own (ps.map dP)),y,z]/\ps.length<=8 * k/\ps.Pairwise je/\∀p∈ps,p.1 < k/\p.2 < m) m (λk hk env ⟨b',ps,y,z,he,hl,hp,hx⟩=>by
  subst he;obtain ⟨e,h1,b2,qs,z,rfl,hl2,hp2,EY⟩:=gF (t:=aS 4) (u:=(az (aO (aX (g2 (dW false) (g2 cj (af 0) (gC (.int 2))) (gC (.int 1)))) (c_ 2 (cI (au (af 3) (au (af 4) aG)))) bx)
 (aH 0 (g2 eE (af 0) (gC (.int 2)))))) (λj env=>∃(b2:Int) (qs:List (Nat×Nat)) (z:Option S),env=[some (.d (.int b2)),some (.d (.int m)),some (.own (qs.map dP)),some (.d (.int k)),z]/\qs.length<=8 * k + j/\qs.Pairwise je/\∀p∈qs,En k j p/\p.2 < m) m (λj hj env ⟨b2,qs,z,he,hl2,hp2,EY⟩=>by
   subst he;have hz:qs.length < sizeLine:=Gy (by omega:qs.length < 1000) (by decide);have EW:2<=sizeLine:=by decide
   by_cases hb:b2 % 2=1
   ·refine ⟨_,_,rfl,?_,b2 / 2,qs++[(k,j)],some (.d (.int j)),rfl,by simp;omega,?_,λp hp'=>?_⟩
    ·rw [bN (e:=[some (.d (.int b2)),some (.d (.int m)),some (.own ((qs++[(k,j)]).map dP)),some (.d (.int k)),some (.d (.int j))]) ((rU (by simp [az,aO,bI,bz,bg,aX,bE,af,aF,S.rd,R.dat,bG,bu,g2,gN,ah,av,gC,bx,aN,aW,aZ,aC,bq,bC,rF,fin,bL,aK,eq_int,au,aG,toD,toS,aH,bQ,bU,bW,cL,hb])).trans (by simp [az,aO,bI,bz,bg,aX,bE,af,aF,S.rd,R.dat,bG,bu,g2,gN,ah,av,gC,bx,aN,aW,aZ,aC,bq,bC,rF,fin,bL,aK,eq_int,au,aG,toD,toS,aH,bQ,bU,bW,c_,cI,hz,EW]))];simp [az,aO,bI,bz,bg,aX,bE,af,aF,S.rd,R.dat,bG,bu,g2,gN,ah,av,gC,bx,aN,aW,aZ,aC,bq,bC,rF,fin,bL,aK,eq_int,au,aG,toD,toS,aH,bQ,bU,bW,eg]
    ·rw [Hx];refine ⟨hp2,J_ _ _,λa ha c hc=>?_⟩;rw [G5] at hc;rw [hc];exact (EY a ha).1
    ·rw [Hf,G5] at hp';rcases hp' with h | h
     ·refine ⟨?_,(EY p h).2⟩;rcases (EY p h).1 with q | ⟨q,q'⟩
      ·exact .inl q
      ·exact .inr ⟨q,by omega⟩
     ·rw [h];exact ⟨.inr ⟨rfl,LO _⟩,hj⟩
   ·refine ⟨_,_,rfl,?_,b2 / 2,qs,some (.d (.int j)),rfl,by omega,hp2,λp h=>⟨?_,(EY p h).2⟩⟩
    ·rw [bN (e:=[some (.d (.int b2)),some (.d (.int m)),some (.own (qs.map dP)),some (.d (.int k)),some (.d (.int j))]) ((ja (by simp [az,aO,bI,bz,bg,aX,bE,af,aF,S.rd,R.dat,bG,bu,g2,gN,ah,av,gC,bx,aN,aW,aZ,aC,bq,bC,rF,fin,bL,aK,eq_int,au,aG,toD,toS,aH,bQ,bU,bW,cL,hb])).trans rfl)];simp [az,aO,bI,bz,bg,aX,bE,af,aF,S.rd,R.dat,bG,bu,g2,gN,ah,av,gC,bx,aN,aW,aZ,aC,bq,bC,rF,fin,bL,aK,eq_int,au,aG,toD,toS,aH,bQ,bU,bW,eg]
    ·rcases (EY p h).1 with q | ⟨q,q'⟩
     ·exact .inl q
     ·exact .inr ⟨q,by omega⟩) [some (.d (.int b')),some (.d (.int m)),some (.own (ps.map dP)),some (.d (.int k)),z] ⟨b',ps,z,rfl,hl,hp,λp h=>⟨.inl (hx p h).1,(hx p h).2⟩⟩
  refine ⟨_,_,rfl,(iB (kq (m:=m) (by omega) (by simp [az,aO,bI,bz,bg,aX,bE,af,aF,S.rd,R.dat,bG,bu,g2,gN,ah,av,gC,bx,aN,aW,aZ,aC,bq,bC,rF,fin,bL,aK,eq_int,au,aG,toD,toS,aH,bQ,bU,bW]))).trans h1,b2,qs,some (.d (.int k)),z,rfl,by omega,hp2,λp h=>⟨?_,(EY p h).2⟩⟩;rcases (EY p h).1 with q | ⟨q,q'⟩
  ·omega
  ·omega) [some (.d (.int b)),some (.d (.int m)),some (.own []),none,none] ⟨b,[],none,none,rfl,Hh _,.nil,λx h=>by cases h⟩
 rw [bN ((iB (kq (m:=m) (by omega) (by simp [az,aO,bI,bz,bg,aX,bE,af,aF,S.rd,R.dat,bG,bu,g2,gN,ah,av,gC,bx,aN,aW,aZ,aC,bq,bC,rF,fin,bL,aK,eq_int,au,aG,toD,toS,aH,bQ,bU,bW]))).trans h1)];exact ⟨ps,rfl,by omega,hp,hx⟩
theorem rJ {α:Type}(f:α->D) (xs:List α) (l u:Option Int):∃ys:List α,cutD (xs.map f) l u=ys.map f/\ys=(xs.drop (HT.br xs.length 0 l)).take (HT.br xs.length xs.length u - HT.br xs.length 0 l):=by refine ⟨_,?_,rfl⟩;unfold cutD;rw [Gn,OM,ON]
theorem rK {α:Type}(xs:List α) (i j:Nat):((xs.drop i).take j).Sublist xs:=(JC _ _).trans (Ie _ _)
theorem Good.sub {ss ys:List Str}(h:Good m ss) (s:ys.Sublist ss) (hl:ys.length<=3):uB ys:=⟨hl,λx hx=>h.2.1 x (s.subset hx),h.2.2.sublist s⟩
theorem BY (xs:List D) (l u:Option Int):lO (.l .own xs) l u=.ok (.l .fresh (cutD xs l u)):=rfl
theorem sA (m:Md) (xs:List D):cM [.l m xs]=.ok (.d (.tup xs)):=rfl
theorem wg (c:Int):∃A B:List Str,dz [.d (.int c)]=.ok (.d (.tup [.tup (A.map .str),.tup (B.map .str)]))/\uB A/\uB B:=by
 obtain ⟨ss,hs,hg⟩:=yS c 6 (Gm _);have hs:d9 [.d (.int c),.d (.int 6)]=.ok (.l .fresh (ss.map .str)):=hs;unfold dz iD;generalize d9=F_names at hs ⊢;show ∃A B:List Str,fin (az _ _ [some (.d (.int c)),none,none,none])=_/\_;obtain ⟨n,hn⟩:∃n,c * 523 % 10007=n:=⟨_,rfl⟩;have n0:0<=n:=hn▸Jh _ (by decide);rw [bN (e:=[some (.d (.int c)),some (.own (ss.map .str)),none,none]) (by simp [az,aO,bI,bz,bg,aX,bE,af,aF,S.rd,R.dat,bG,bu,g2,gN,ah,av,gC,bx,aN,aW,aZ,aC,bq,bC,rF,fin,bL,aK,eq_int,au,aG,toD,toS,aH,bQ,bU,bW,hs])];rw [bN (e:=[some (.d (.int c)),some (.own (ss.map .str)),some (.d (.int n)),none]) (by simp [az,aO,bI,bz,bg,aX,bE,af,aF,S.rd,R.dat,bG,bu,g2,gN,ah,av,gC,bx,aN,aW,aZ,aC,bq,bC,rF,fin,bL,aK,eq_int,au,aG,toD,toS,aH,bQ,bU,bW,kU,cL,hn])];rw [bN (e:=[some (.d (.int c)),some (.own (ss.map .str)),some (.d (.int n)),some (.d (.int (n / 16 % 3)))]) (by simp [az,aO,bI,bz,bg,aX,bE,af,aF,S.rd,R.dat,bG,bu,g2,gN,ah,av,gC,bx,aN,aW,aZ,aC,bq,bC,rF,fin,bL,aK,eq_int,au,aG,toD,toS,aH,bQ,bU,bW,eg,cL])];obtain ⟨A,ha,ha'⟩:=rJ D.str ss none (some (n % 4));obtain ⟨B,hb,hb'⟩:=rJ D.str ss (some (n / 16 % 3)) (some (n / 16 % 3 + n / 4 % 4));refine ⟨A,B,?_,hg.sub (ha'▸rK _ _ _) ?_,hg.sub (hb'▸rK _ _ _) ?_⟩
 ·have EW:2<=sizeLine:=by decide
  simp [az,aO,bI,bz,bg,aX,bE,af,aF,S.rd,R.dat,bG,bu,g2,gN,ah,av,gC,bx,aN,aW,aZ,aC,bq,bC,rF,fin,bL,aK,eq_int,au,aG,toD,toS,aH,bQ,bU,bW,cI,qb,uW,qa,cL,eg,iK,BY,sA,ha,hb,EW]
 ·rw [ha',GU,HT.xW];have e:n % 4=((n % 4).toNat:Int):=by omega
  rw [e,HT.nT];omega
 ·rw [hb',GU];have e:n / 16 % 3=((n / 16 % 3).toNat:Int):=by omega
  have e2:n / 16 % 3 + n / 4 % 4=((n / 16 % 3 + n / 4 % 4).toNat:Int):=by omega
  rw [e2,HT.nT,e,HT.nT,hg.1];omega
theorem uc (Fs Fc:List S->M R) (ns:List Int) (a k m:Nat) (v:Int) (xs:List Nat) (T T2:D) (s:Str) (ms:List (Str×List Nat)) (hi:bw (.d T) (.d (.int k))=.ok (.d (.str s))) (hc:Fc [.bor (ns.map D.int),.d (.int ((a:Int) + k))]=.ok (.d (.int v))) (hx:Fs [.d (.int (v * 167 % 256)),.d (.int m)]=.ok (.d (.tup (xs.map dN))))
  (EW:2<=sizeLine) (hz:ms.length < sizeLine):(c_ 4 (cI (au (g2 bw (g2 bw (af 3) (gC (.int 0))) (af 5)) (au (gN (aC 2 Fs) (ah (g2 cj (g2 cu (gN (aC 2 Fc) (ah (af 0) (ah (g2 bK (af 1) (af 5)) av))) (gC (.int 167))) (g2 iU (gC (.int 2)) (gC (.int 8)))) (ah (af 2) av))) aG)))) [some (.bor (ns.map D.int)),some (.d (.int a)),some (.d (.int m)),some (.d (.tup [T,T2])),some (.own (ms.map cX)),some (.d (.int k)),none,none]=.ok (.nx [some (.bor (ns.map D.int)),some (.d (.int a)),some (.d (.int m)),some (.d (.tup [T,T2])),some (.own ((ms++[(s,xs)]).map cX)),some (.d (.int k)),none,none]):=by simp [az,aO,bI,bz,bg,aX,bE,af,aF,S.rd,R.dat,bG,bu,g2,gN,ah,av,gC,bx,aN,aW,aZ,aC,bq,bC,rF,fin,bL,aK,eq_int,au,aG,toD,toS,aH,bQ,bU,bW,c_,cI,hi,iK,hc,kU,B3,cL,hx,hz,EW]
theorem qY (Fs Fc:List S->M R) (ns:List Int) (a k m:Nat) (v:Int) (xs:List (Nat×Nat)) (T T2:D) (s:Str) (ms:List D) (z:Option S) (rs:List (Str×List (Nat×Nat))) (hi:bw (.d T2) (.d (.int k))=.ok (.d (.str s))) (hc:Fc [.bor (ns.map D.int),.d (.int ((a:Int) + 3 + k))]=.ok (.d (.int v))) (hx:Fs [.d (.int (v * 11400714819323198485 % 18446744073709551616)),.d (.int m)]=.ok (.d (.tup (xs.map dP))))
  (EW:2<=sizeLine) (hz:rs.length < sizeLine):(az (aH 7 (g2 cj (g2 cu (gN (aC 2 Fc) (ah (af 0) (ah (g2 bK (g2 bK (af 1) (gC (.int 3))) (af 5)) av))) (gC (.int 11400714819323198485))) (g2 iU (gC (.int 2)) (gC (.int 64)))))
 (c_ 6 (cI (au (g2 bw (g2 bw (af 3) (gC (.int 1))) (af 5)) (au (gN (aC 2 Fs) (ah (af 7) (ah (af 2) av))) aG))))) [some (.bor (ns.map D.int)),some (.d (.int a)),some (.d (.int m)),some (.d (.tup [T,T2])),some (.own ms),some (.d (.int k)),some (.own (rs.map c9)),z]=.ok (.nx [some (.bor (ns.map D.int)),some (.d (.int a)),some (.d (.int m)),some (.d (.tup [T,T2])),some (.own ms),some (.d (.int k)),some (.own ((rs++[(s,xs)]).map c9)),some (.d (.int (v * 11400714819323198485 % 18446744073709551616)))]):=by simp [az,aO,bI,bz,bg,aX,bE,af,aF,S.rd,R.dat,bG,bu,g2,gN,ah,av,gC,bx,aN,aW,aZ,aC,bq,bC,rF,fin,bL,aK,eq_int,au,aG,toD,toS,aH,bQ,bU,bW,c_,cI,hi,iK,hc,kU,su,cL,hx,hz,EW]
theorem yT (ns:List Int) (a m:Nat) (hm:m<=8) (A B:List Str) (hA:A.length<=3) (hB:B.length<=3):∃ms rs,cR [.bor (ns.map D.int),.d (.int a),.d (.int m),.d (.tup [.tup (A.map .str),.tup (B.map .str)])]=.ok (.d (Wd.d ⟨m,ms,rs⟩))/\
  ms.map Ka=A/\rs.map Ka=B/\(∀r∈ms,pJ m r.2)/\∀r∈rs,pI m r.2:=by
 unfold cR iY;have HS:=λb=>Ao b m hm;have HP:=λb=>we b m hm;have HC:=uu ns;generalize fB=F_some at HS ⊢;generalize eY=F_pairs at HP ⊢;generalize bT=F_cell at HC ⊢;show ∃ms rs,fin (az _ _ [some (.bor (ns.map D.int)),some (.d (.int a)),some (.d (.int m)),some (.d (.tup [.tup (A.map .str),.tup (B.map .str)])),none,none,none,none])=_/\_;have zA:∀k,k < 3->k < sizeLine:=λk hk=>Gy (by omega:k < 1000) (by decide);have EW:2<=sizeLine:=by decide
 have FE:3<=sizeLine:=by decide
 rw [bN (e:=[some (.bor (ns.map D.int)),some (.d (.int a)),some (.d (.int m)),some (.d (.tup [.tup (A.map .str),.tup (B.map .str)])),some (.own []),none,none,none]) (by simp [az,aO,bI,bz,bg,aX,bE,af,aF,S.rd,R.dat,bG,bu,g2,gN,ah,av,gC,bx,aN,aW,aZ,aC,bq,bC,rF,fin,bL,aK,eq_int,au,aG,toD,toS,aH,bQ,bU,bW,fK])];obtain ⟨e,h1,ms,y,rfl,hf,hp⟩:=gF (t:=aS 5) (u:=(c_ 4 (cI (au (g2 bw (g2 bw (af 3) (gC (.int 0))) (af 5)) (au (gN (aC 2 F_some) (ah (g2 cj (g2 cu (gN (aC 2 F_cell) (ah (af 0) (ah (g2 bK (af 1) (af 5)) av))) (gC (.int 167))) (g2 iU (gC (.int 2)) (gC (.int 8)))) (ah (af 2) av))) aG)))))
  (λk env=>∃(ms:List (Str×List Nat)) (y:Option S),env=[some (.bor (ns.map D.int)),some (.d (.int a)),some (.d (.int m)),some (.d (.tup [.tup (A.map .str),.tup (B.map .str)])),some (.own (ms.map cX)),y,none,none]/\ms.map Ka=A.take k/\∀r∈ms,pJ m r.2) A.length (λk hk env ⟨ms,y,he,hf,hp⟩=>by
   subst he;obtain ⟨xs,hx,px⟩:=HS (eH ns (a + k) * 167 % 256);have hc:=HC (a + k);rw [Ma] at hc;have hi:bw (.d (.tup (A.map D.str))) (.d (.int k))=.ok (.d (.str A[k])):=gA (by rw [GK,Gr hk];rfl);have hl:ms.length=k:=by have:=congrArg LG hf;rw [Gn,GU] at this;omega
   have hz:=zA ms.length (by have:=hA;omega);refine ⟨_,_,rfl,?_,ms++[(A[k],xs)],some (.d (.int k)),rfl,?_,λr hr=>?_⟩
   ·exact uc F_some F_cell ns a k m _ xs _ _ _ ms hi hc hx EW hz
   ·rw [Jg,hf,Mv,Gr hk];rfl
   ·rw [Hf,G5] at hr;rcases hr with h | h
    ·exact hp r h
    ·rw [h];exact px) [some (.bor (ns.map D.int)),some (.d (.int a)),some (.d (.int m)),some (.d (.tup [.tup (A.map .str),.tup (B.map .str)])),some (.own []),none,none,none] ⟨[],none,rfl,rfl,λr h=>by cases h⟩
 rw [bN ((iB (kq (m:=A.length) (by have:=hA;omega) (by simp [az,aO,bI,bz,bg,aX,bE,af,aF,S.rd,R.dat,bG,bu,g2,gN,ah,av,gC,bx,aN,aW,aZ,aC,bq,bC,rF,fin,bL,aK,eq_int,au,aG,toD,toS,aH,bQ,bU,bW]))).trans h1)];rw [bN (e:=[some (.bor (ns.map D.int)),some (.d (.int a)),some (.d (.int m)),some (.d (.tup [.tup (A.map .str),.tup (B.map .str)])),some (.own (ms.map cX)),y,some (.own []),none]) (by simp [az,aO,bI,bz,bg,aX,bE,af,aF,S.rd,R.dat,bG,bu,g2,gN,ah,av,gC,bx,aN,aW,aZ,aC,bq,bC,rF,fin,bL,aK,eq_int,au,aG,toD,toS,aH,bQ,bU,bW,fK])];obtain ⟨e,h2,rs,y2,z2,rfl,hf2,hp2⟩:=gF (t:=aS 5) (u:=(az (aH 7 (g2 cj (g2 cu (gN (aC 2 F_cell) (ah (af 0) (ah (g2 bK (g2 bK (af 1) (gC (.int 3))) (af 5)) av))) (gC (.int 11400714819323198485))) (g2 iU (gC (.int 2)) (gC (.int 64)))))
 (c_ 6 (cI (au (g2 bw (g2 bw (af 3) (gC (.int 1))) (af 5)) (au (gN (aC 2 F_pairs) (ah (af 7) (ah (af 2) av))) aG))))))
  (λk env=>∃(rs:List (Str×List (Nat×Nat))) (y z:Option S),env=[some (.bor (ns.map D.int)),some (.d (.int a)),some (.d (.int m)),some (.d (.tup [.tup (A.map .str),.tup (B.map .str)])),some (.own (ms.map cX)),y,some (.own (rs.map c9)),z]/\rs.map Ka=B.take k/\∀r∈rs,pI m r.2) B.length (λk hk env ⟨rs,y,z,he,hf,hp⟩=>by
   subst he;obtain ⟨xs,hx,px⟩:=HP (eH ns (a + 3 + k) * 11400714819323198485 % 18446744073709551616);have hc:=HC (a + 3 + k);rw [Ma,Ma] at hc;have hc:F_cell [.bor (ns.map D.int),.d (.int ((a:Int) + 3 + (k:Int)))]=.ok (.d (.int (eH ns (a + 3 + k)))):=hc;have hi:bw (.d (.tup (B.map D.str))) (.d (.int k))=.ok (.d (.str B[k])):=gA (by rw [GK,Gr hk];rfl);have hl:rs.length=k:=by have:=congrArg LG hf;rw [Gn,GU] at this;omega
   have hz:=zA rs.length (by have:=hB;omega);refine ⟨_,_,rfl,?_,rs++[(B[k],xs)],some (.d (.int k)),some (.d (.int (eH ns (a + 3 + k) * 11400714819323198485 % 18446744073709551616))),rfl,?_,λr hr=>?_⟩
   ·exact qY F_pairs F_cell ns a k m _ xs _ _ _ _ z rs hi hc hx EW hz
   ·rw [Jg,hf,Mv,Gr hk];rfl
   ·rw [Hf,G5] at hr;rcases hr with h | h
    ·exact hp r h
    ·rw [h];exact px) [some (.bor (ns.map D.int)),some (.d (.int a)),some (.d (.int m)),some (.d (.tup [.tup (A.map .str),.tup (B.map .str)])),some (.own (ms.map cX)),y,some (.own []),none] ⟨[],y,none,rfl,rfl,λr h=>by cases h⟩
 rw [bN ((iB (kq (m:=B.length) (by have:=hB;omega) (by simp [az,aO,bI,bz,bg,aX,bE,af,aF,S.rd,R.dat,bG,bu,g2,gN,ah,av,gC,bx,aN,aW,aZ,aC,bq,bC,rF,fin,bL,aK,eq_int,au,aG,toD,toS,aH,bQ,bU,bW]))).trans h2)];refine ⟨ms,rs,?_,by rw [hf,NI],by rw [hf2,NI],hp,hp2⟩;simp [az,aO,bI,bz,bg,aX,bE,af,aF,S.rd,R.dat,bG,bu,g2,gN,ah,av,gC,bx,aN,aW,aZ,aC,bq,bC,rF,fin,bL,aK,eq_int,au,aG,toD,toS,aH,bQ,bU,bW,cI,sA,FE,Wd.d]
theorem Aq (ns:List Int) (a m:Nat) (hm:m<=8) (A B:List Str) (hA:uB A) (hB:uB B):∃ms rs,cR [.bor (ns.map D.int),.d (.int a),.d (.int m),.d (.tup [.tup (A.map .str),.tup (B.map .str)])]=.ok (.d (Wd.d ⟨m,ms,rs⟩))/\
  ms.map Ka=A/\rs.map Ka=B/\(∀r∈ms,pJ m r.2)/\∀r∈rs,pI m r.2:=yT ns a m hm A B hA.1 hB.1
theorem oO {K:Gd}{J:L2.Hp}:∀(ns:List Int),aD K J (ns.map D.int) (ns.map L2.V.int)
 | []=>.nil
 | n::r=>.cons (.int n) (oO r)
end K01
namespace K02
open PySem DL
end K02
namespace K02
open PySem DL K01
theorem lN {α:Type}(f:α->D) (k:Nat) (h:∀x,dep (f x)<=k):∀xs:List α,deps (xs.map f)<=k
 | []=>by simp [deps]
 | x::xs=>by have:=lN f k h xs;have:=h x;simp only [Ht,deps];omega
theorem rO (xs:List Nat):deps (xs.map dN)<=0:=lN dN 0 (λ_=>by simp [dep]) xs
theorem rP (xs:List (Nat×Nat)):deps (xs.map dP)<=1:=lN dP 1 (λ_=>by simp [dP,dep,deps]) xs
theorem AH (xs ys:List D) (h:xs.length + ys.length<=1000):bK (.l .fresh xs) (.l .fresh ys)=.ok (.l .fresh (xs++ys)):=by unfold bK qi u7 jn;simp [gV,jW,fR h]
end K02
namespace K04
open PySem DL
def sH:List Str:=["_law_found","_law_due_here"]
noncomputable def dX (Fr:List S->M R):G O:=(az (aO (aX (bE "tuple" (af 1))) (az (aO (bI (bg (aX (bE "tuple" (af 0)))) (aX (g2 (dW true) (gN fk (ah (af 0) av)) (gN fk (ah (af 1) av))))) (aN (gC (.bl false))) bx)
 (aN (gN nM (ah (cG 1 [0,1] (cA (ah (gN fk (ah (af 1) av)) av)) (aS 0) gk (gN (aC 2 Fr) (ah (g2 bw (af 1) (af 0)) (ah (g2 bw (af 2) (af 0)) av)))) av)))) bx)
 (az (aO (bI (aX (bE "bool" (af 1))) (aX (bE "int" (af 1)))) (aN (aW (bE "int" (af 0)) (aW (g2 (dW false) (bE "bool" (af 0)) (bE "bool" (af 1))) (g2 (dW false) (af 0) (af 1))))) bx)
 (aN (aW (bE "str" (af 0)) (g2 (dW false) (af 0) (af 1))))))
noncomputable def bH:Nat->List S->M R
 | 0,_=>.bad
 | k + 1,as=>fin (dX (bH k) (aF sH as))
end K04
namespace K04
open PySem DL K01 K02
inductive Pl:D->Prop
 | int (i:Int):Pl (.int i)
 | str (x:Str):Pl (.str x)
 | tup (xs:List D):xs.length<=1000->(∀x∈xs,Pl x)->Pl (.tup xs)
theorem rN {x:D}:∀{xs:List D},x∈xs->dep x<=deps xs
 | y::ys,h=>by
  simp only [deps];rcases Gz.mp h with rfl | h
  ·omega
  ·have:=rN h;omega
theorem all_range (n:Nat):nM [.l .fresh ((Gg n).map λ_=>D.bl true)]=.ok (.d (.bl true)):=by have:=all_map (λ_=>true) ((Gg n).map λ_=>D.non);rw [GS] at this;simp only [Function.comp_def] at this;rw [this];congr 3;simp
theorem lU:∀(k:Nat) (d:D),Pl d->dep d < k->k<=50->bH k [.d d,.d d]=.ok (.d (.bl true))
 | 0,d,_,h,_=>by omega
 | k + 1,.int i,_,_,_=>by show fin (dX (bH k) [some (.d (.int i)),some (.d (.int i))])=_;unfold dX;simp [az,aO,bI,bz,bg,aX,bE,af,aF,S.rd,R.dat,bG,bu,g2,gN,ah,av,gC,bx,aN,aW,aZ,aC,bq,bC,rF,fin,bL,au,aG,toD,toS,aH,dW,dep,bD,gz]
 | k + 1,.str x,_,_,_=>by show fin (dX (bH k) [some (.d (.str x)),some (.d (.str x))])=_;unfold dX;simp [az,aO,bI,bz,bg,aX,bE,af,aF,S.rd,R.dat,bG,bu,g2,gN,ah,av,gC,bx,aN,aW,aZ,aC,bq,bC,rF,fin,bL,au,aG,toD,toS,aH,dW,dep,bD,gz]
 | k + 1,.tup xs,hp,h,hk=>by
  have hl:xs.length<=1000:=by cases hp;assumption
  have hx:∀x∈xs,Pl x:=by cases hp;assumption
  have ih:∀x∈xs,bH k [.d x,.d x]=.ok (.d (.bl true)):=λx hm=>lU k x (hx x hm) (by have:=rN hm;simp only [dep] at h;omega) (by omega);show fin (dX (bH k) [some (.d (.tup xs)),some (.d (.tup xs))])=_;unfold dX;generalize bH k=F at ih ⊢;have hc:=lK (cap:=[0,1]) (gi:=cA (ah (gN fk (ah (af 1) av)) av)) (ge:=gN (aC 2 F) (ah (g2 bw (af 1) (af 0)) (ah (g2 bw (af 2) (af 0)) av))) (env:=[some (.d (.tup xs)),some (.d (.tup xs))]) (tl:=[some (.d (.tup xs)),some (.d (.tup xs))]) (m:=xs.length) hl (λ_=>.bl true)
   (qH (n:=xs.length) (by simp [az,aO,bI,bz,bg,aX,bE,af,aF,S.rd,R.dat,bG,bu,g2,gN,ah,av,gC,bx,aN,aW,aZ,aC,bq,bC,rF,fin,bL,au,aG,toD,toS,aH,aK]) hl) rfl (λj hj=>by
    have hi:bw (.d (.tup xs)) (.d (.int j))=.ok (.d (xs[j])):=gA (by simp [hj]);simp [az,aO,bI,bz,bg,aX,bE,af,aF,S.rd,R.dat,bG,bu,g2,gN,ah,av,gC,bx,aN,aW,aZ,aC,bq,bC,rF,fin,bL,au,aG,toD,toS,aH,hi,ih _ (IB hj)])
  have ha:=all_range xs.length;simp [az,aO,bI,bz,bg,aX,bE,af,aF,S.rd,R.dat,bG,bu,g2,gN,ah,av,gC,bx,aN,aW,aZ,aC,bq,bC,rF,fin,bL,au,aG,toD,toS,aH,aK,eq_int,hc,ha]
 | k + 1,.non,hp,_,_=>by cases hp
 | k + 1,.bl _,hp,_,_=>by cases hp
 | k + 1,.lst _,hp,_,_=>by cases hp
 | k + 1,.emp,hp,_,_=>by cases hp
 | k + 1,.exn _ _ _,hp,_,_=>by cases hp
theorem yz (k:Nat):∀(xs:List Nat),inD (.int k) (xs.map dN)=decide (k∈xs)
 | []=>by simp [inD]
 | x::xs=>by
  have:=yz k xs;unfold inD at this ⊢;rw [Ht,KY,this];have e:bD (dN x) (.int k)=decide (k=x):=by
   simp only [dN,bD];by_cases z:k=x
   ·subst z;simp
   ·have:((x:Int) == (k:Int))=false:=by simp;omega
    rw [this];simp [z]
  rw [e];by_cases z:k=x <;> simp [z]
theorem CK (w:Wd) (hm:w.ms.length<=3) (ha:w.ar.length<=3) (pm:∀r∈w.ms,r.2.length<=1000) (pa:∀r∈w.ar,r.2.length<=1000):Pl w.d/\dep w.d<=5:=by
 have l1:∀r∈w.ms,Pl (cX r)/\dep (cX r)<=3:=λr hr=>by
  refine ⟨.tup _ (by simp) λx hx=>?_,?_⟩
  ·simp only [Gz,GP,or_false] at hx;rcases hx with rfl | rfl
   ·exact .str _
   ·exact .tup _ (by simpa using pm r hr) λx hx=>by obtain ⟨k,_,rfl⟩:=Gi.mp hx;exact .int _
  ·have:=rO r.2;simp only [cX,dep,deps];omega
 have l2:∀r∈w.ar,Pl (c9 r)/\dep (c9 r)<=3:=λr hr=>by
  refine ⟨.tup _ (by simp) λx hx=>?_,?_⟩
  ·simp only [Gz,GP,or_false] at hx;rcases hx with rfl | rfl
   ·exact .str _
   ·exact .tup _ (by simpa using pa r hr) λx hx=>by
     obtain ⟨k,_,rfl⟩:=Gi.mp hx;exact .tup _ (by simp) λy hy=>by simp only [Gz,GP,or_false] at hy;rcases hy with rfl | rfl <;> exact .int _
  ·have:=rP r.2;simp only [c9,dep,deps];omega
 have dm:∀{α:Type}(f:α->D) (xs:List α),(∀x∈xs,dep (f x)<=3)->deps (xs.map f)<=3:=by
  intro α f xs
  induction xs with
  | nil=>intro _;simp [deps]
  | cons x xs ih=>
   intro h;have:=ih λy hy=>h y (Gp _ hy);have:=h x Gs;simp only [Ht,deps];omega
 have d1:=dm cX w.ms λr hr=>(l1 r hr).2;have d2:=dm c9 w.ar λr hr=>(l2 r hr).2;refine ⟨.tup _ (by simp) λx hx=>?_,?_⟩
 ·simp only [Gz,GP,or_false] at hx;rcases hx with rfl | rfl | rfl
  ·exact .int _
  ·exact .tup _ (by simp;omega) λx hx=>by obtain ⟨r,hr,rfl⟩:=Gi.mp hx;exact (l1 r hr).1
  ·exact .tup _ (by simp;omega) λx hx=>by obtain ⟨r,hr,rfl⟩:=Gi.mp hx;exact (l2 r hr).1
 ·simp only [Wd.d,dep,deps];omega
end K04
namespace DL
open PySem PySem.Spec PyProof.Rows L2
noncomputable def nB (A:G3) (s:Gf) (y x:Ge) (b:Bool):Prop:=
 ∀(prog:GG) (w:Hi) (E:Ge->Gf->Prop) (Q:Ge->Gf->Prop),Q (.bool b) s->GH (GD prog w) A (richCompare .Lt y x) Q E s
inductive eZ (A:G3) (s:Gf) (fin:Bool):List (Ge×Ge)->Bool->Prop
 | nil:eZ A s fin [] fin
 | yes {x y:Ge}{r:List (Ge×Ge)}{b:Bool}:IF A s x y true->eZ A s fin r b->eZ A s fin ((x,y)::r) b
 | no {x y:Ge}{r:List (Ge×Ge)}{b:Bool}:IF A s x y false->nB A s x y b->eZ A s fin ((x,y)::r) b
section
open PySem.SeqAt
open PySem.AutoSeq1 (wpAny_loadPart')
open PySem.MeetsSeq PySem.MeetsSeq2 PySem.MeetsSeq3
theorem vW (l b:GF) (F4 F_:Array Ge) (n n2:Nat) (dd dd2:Option GF) (sl sl2:Array (Option Ge)) (ans:Bool):
  Meets (K6.«tuple.__lt__» ⟨[.ref l,.ref b],[]⟩)
   (λA R s=>s.heap.get? l=some {cls:=.type "tuple",dict:=dd,data:=.seq F4 n,slots:=sl}/\s.heap.get? b=some {cls:=.type "tuple",dict:=dd2,data:=.seq F_ n2,slots:=sl2}/\
    eZ A.in1 s (decide (F4.size < F_.size)) (F4.toList.zip F_.toList) ans/\R (.ok (.ret (.bool ans))) s):=
 .of_wp λprog w A R s h=>by
  obtain ⟨hp,g,d,tk,os⟩:=s;obtain ⟨hl,hb,hP,h⟩:=h;have f2:=AutoSeq1.sub_tuple_tuple
  wp_walk using N3 hl,N3 hb,NJ _ (λF6 b s'=>b.1=none/\s'=⟨hp,g,d,tk,os⟩/\eZ A.in1 ⟨hp,g,d,tk,os⟩ (decide (F4.size < F_.size)) F6 ans) _
  case turn=>
   rintro ⟨y,x⟩ F6 b s' ⟨hb',rfl,hq⟩;cases hq with
   | yes he hr=>
    refine Gb (he prog w _ _ ?_)
    wp_walk
    exact ⟨rfl,rfl,hr⟩
   | no he hlt=>
    refine Gb (he prog w _ _ ?_);have FW:=hlt prog w
    wp_walk using FW
    exact ⟨_,rfl,by simpa using h⟩
  case fin=>
   rintro ⟨b1,b2⟩ s' ⟨hb',rfl,hq⟩;simp only at hb';subst hb';cases hq
   wp_walk
   exact ⟨_,rfl,by simpa [Nh] using h⟩
  case h=>
   exact ⟨rfl,rfl,hP⟩
end
section
variable {K:Gd}{J:Hp}{s:Gf}
theorem zx {A:G3}{F4 F_:Array Ge}(hl:s.heap.IsTuple l F4) (hb:s.heap.IsTuple b F_) (hP:eZ A.in1 s (decide (F4.size < F_.size)) (F4.toList.zip F_.toList) ans)
 (hu:A.units < Kn):nB A s (.ref l) (.ref b) ans:=λprog w E Q h=>by
 obtain ⟨⟨cls,dd,data,sl⟩,ho,hc,n,hd⟩:=id hl;obtain ⟨⟨cls2,dd2,data2,sl2⟩,ho2,hc2,n2,hd2⟩:=id hb;simp only at hc hd hc2 hd2;subst hc hd hc2 hd2;exact richCompare_meets_room (op:=.Lt) ⟨_,ho,rfl⟩ ⟨_,ho2,rfl⟩ PySem.F.slot_tuple_lt PySem.F.entry_tuple_lt (PySem.F.args_tuple_lt_2 _ _) (vW l b F4 F_ n n2 dd dd2 sl sl2 ans)
  ⟨ho,ho2,hP,show K1 ans≠Value.notImplemented/\Q (.bool ans) s from ⟨(λx=>nomatch x),h⟩⟩ hu
mutual
noncomputable def dg:D->D->Option Bool
 | .bl p,y=>match y with
  | .bl q=>some (!p && q)
  | _=>none
 | .int i,y=>match y with
  | .int j=>some (decide (i < j))
  | _=>none
 | .str x,y=>match y with
  | .str z=>some (decide (x.cps.toList < z.cps.toList))
  | _=>none
 | .tup xs,y=>match y with
  | .tup ys=>gT xs ys
  | _=>none
 | _,_=>none
noncomputable def gT:List D->List D->Option Bool
 | [],ys=>some (!ys.isEmpty)
 | x::xs,ys=>match ys with
  | []=>some false
  | y::ys=>if bD x y=true then gT xs ys else dg x y
end
theorem zw (A:G3) (h:dg (.bl p) e=some b) (re:Rep K J e w) (rw':RelV w u'):nB A s (.bool p) u' b:=by
 unfold dg at h;cases e with
 | bl q=>
  cases re;cases rw';simp only [Ig] at h;subst h;intro prog w E Q hq;refine (lt_bool (p:=p) (q:=q) ?_:GH (GD prog w) A (Jm .Lt (.bool p) (.bool q)) Q E s);cases p <;> cases q <;> exact hq
 | _=>cases h
theorem xr (A:G3) (h:dg (.int p) e=some b) (re:Rep K J e w) (rw':RelV w u'):nB A s (.int p t) u' b:=by
 unfold dg at h;cases e with
 | int q=>
  cases re;obtain ⟨t',rfl⟩:=rw';simp only [Ig] at h;subst h;intro prog w E Q hq;exact (PK hq:GH (GD prog w) A (Jm .Lt (.int p t) (.int q t')) Q E s)
 | _=>cases h
theorem xu (A:G3) (h:dg (.str p) e=some b) (re:Rep K J e w) (rw':RelV w u'):nB A s (.str p t) u' b:=by
 unfold dg at h;cases e with
 | str q=>
  cases re;obtain ⟨t',rfl⟩:=rw';simp only [Ig] at h;subst h;intro prog w E Q hq;exact (PL hq:GH (GD prog w) A (Jm .Lt (.str p t) (.str q t')) Q E s)
 | _=>cases h
noncomputable def wz (K:Gd) (J:Hp) (s:Gf) (d:D):Prop:=∀{e:D}{v w:V}{u u':Ge}{b:Bool}(A:G3),dg d e=some b->Rep K J d v->Rep K J e w->RelV v u->RelV w u'->A.units + dep d < Kn->dep d<=1000->dep e<=1000->nB A s u u' b
noncomputable def lZ (K:Gd) (J:Hp) (s:Gf) (ds:List D):Prop:=∀{es:List D}{vs ws:List V}{us us':List Ge}{b:Bool}{n1 n2:Nat}(A:G3),gT ds es=some b->aD K J ds vs->aD K J es ws->Vals vs us->Vals ws us'->A.units + deps ds < Kn->deps ds<=1000->deps es<=1000->
  us.length + n2=us'.length + n1->eZ A s (decide (n1 < n2)) (us.zip us') b
theorem xw (F:HF K J s) (ih:lZ K J s ds):wz K J s (.tup ds):=by
 intro e v w u u' b A h rd re rv rw' hu k1 k2;unfold dg at h;cases e with
 | tup es=>
  simp only at h;cases rd with
  | tup h1 hs=>
   cases re with
   | tup h2 hs'=>
    cases rv;cases rw';obtain ⟨its,r,p⟩:=F.t _ _ h1;obtain ⟨its',r',p'⟩:=F.t _ _ h2;refine zx p p' ?_ (by unfold dep at hu;omega);have:=ih A.in1 (n1:=its.length) (n2:=its'.length) h hs hs' r r' (by rw [in1_units];unfold dep at hu;omega) (by unfold dep at k1;omega) (by unfold dep at k2;omega) (by omega);simpa using this
 | _=>cases h
theorem vg:lZ K J s []:=by
 intro es vs ws us us' b n1 n2 A h rd re rv rw' hu k1 k2 hl;cases rd;cases rv;cases re with
 | nil=>
  cases rw';simp only [gT,List.isEmpty_nil,OO,Ig] at h;subst h;have:decide (n1 < n2)=false:=decide_eq_false (by simp at hl;omega);rw [this];exact .nil
 | cons _ _=>
  cases rw';simp only [gT,List.isEmpty_cons,Bool.not_false,Ig] at h;subst h;have:decide (n1 < n2)=true:=decide_eq_true (by simp at hl;omega);rw [this];exact .nil
theorem tQ (F:HF K J s) (ix:wz K J s x) (ih:lZ K J s xs):lZ K J s (x::xs):=by
 intro es vs ws us us' b n1 n2 A h rd re rv rw' hu k1 k2 hl;cases rd with
 | cons q1 r1=>
  cases rv with
  | cons t1 u1=>
   cases re with
   | nil=>
    cases rw';simp only [gT,Ig] at h;subst h;have:decide (n1 < n2)=false:=decide_eq_false (by simp at hl;omega);rw [this];exact .nil
   | cons q2 r2=>
    cases rw' with
    | cons t2 u2=>
     unfold deps at hu k1 k2;rename_i y v' ys ws' u0 us0;have he:=mh F A q1 q2 t1 t2 (by omega) (by omega) (by omega);simp only [gT] at h;cases z:bD x y with
     | true=>
      rw [z,if_pos rfl] at h;rw [z] at he;exact .yes he (ih A h r1 r2 u1 u2 (by omega) (by omega) (by omega) (by simp at hl;omega))
     | false=>
      rw [z,if_neg G4] at h;rw [z] at he;exact .no he (ix A h q1 q2 t1 t2 (by omega) (by omega) (by omega))
mutual
theorem DS (F:HF K J s):∀d:D,wz K J s d
 | .bl p=>λA h rd re rv rw' _ _ _=>by cases rd;cases rv;exact zw A h re rw'
 | .int p=>λA h rd re rv rw' _ _ _=>by cases rd;obtain ⟨t,rfl⟩:=rv;exact xr A h re rw'
 | .str p=>λA h rd re rv rw' _ _ _=>by cases rd;obtain ⟨t,rfl⟩:=rv;exact xu A h re rw'
 | .tup ds=>xw F (pM F ds)
 | .non=>λA h _ _ _ _ _ _ _=>by unfold dg at h;cases h
 | .lst _=>λA h _ _ _ _ _ _ _=>by unfold dg at h;cases h
 | .emp=>λA h _ _ _ _ _ _ _=>by unfold dg at h;cases h
 | .exn _ _ _=>λA h _ _ _ _ _ _ _=>by unfold dg at h;cases h
 | .dct _ _=>λA h _ _ _ _ _ _ _=>by unfold dg at h;cases h
theorem pM (F:HF K J s):∀ds:List D,lZ K J s ds
 | []=>vg
 | x::xs=>tQ F (DS F x) (pM F xs)
end
end
end DL
namespace DL
open PySem PySem.Spec PyProof.Rows L2
open PySem.W (KasT kas_sort kas_asc kas_desc kas_rev kas_tail3 kas_descPart kas_count kas_place kas_bin)
noncomputable def aP {α:Type}(q:Nat->Nat->Bool):KasT α->α
 | .ret a=>a
 | .ask i j k=>aP q (k (q i j))
inductive ek (n:Nat){α:Type}(P:α->Prop):KasT α->Prop
 | ret {a:α}:P a->ek n P (.ret a)
 | ask {i j:Nat}{k:Bool->KasT α}:i < n->j < n->(∀b,ek n P (k b))->ek n P (.ask i j k)
theorem ek.bind {α β:Type}{P:α->Prop}{R:β->Prop}{f:α->KasT β}{t:KasT α}(h:ek n P t) (hf:∀a,P a->ek n R (f a)):ek n R (t.bind f):=by
 induction h with
 | ret p=>exact hf _ p
 | ask h1 h2 _ ih=>exact .ask h1 h2 ih
theorem ek.run {n:Nat}{α:Type}{P:α->Prop}{t:KasT α}(q:Nat->Nat->Bool) (h:ek n P t):P (aP q t):=by
 induction h with
 | ret p=>exact p
 | ask _ _ _ ih=>exact ih _
theorem ek.wp {α:Type}{P:α->Prop}{t:KasT α}{q:Nat->Nat->Bool}{cmp:Nat->Nat->(Bool->Gf->Prop)->Gf->Prop}{G:α->Gf->Prop}(h:ek n P t)
 (hc:∀i j C,i < n->j < n->C (q i j) s->cmp i j C s) (hG:G (aP q t) s):t.kasWp cmp G s:=by
 induction h with
 | ret p=>exact hG
 | ask h1 h2 _ ih=>exact hc _ _ _ h1 h2 (ih _ hG)
def eU (n:Nat) (p:Array Nat):Prop:=p.Perm (Gg n).toArray
theorem eU.lt {p:Array Nat}(h:eU n p) (hn:0 < n) (k:Nat):p.getD k 0 < n:=by
 by_cases hk:k < p.size
 ·have e:p.getD k 0=p[k]:=by simp [OB,hk]
  rw [e];have hm:p[k]∈p:=Ni hk;have:=(Lk h).mp hm;simpa using this
 ·have e:p.getD k 0=0:=by simp [OB,hk]
  rw [e];exact hn
theorem eU.rev (h:eU n p) (i j:Nat):eU n (KN p i j):=(mirror_perm _ _ _ _).trans h
theorem eU.bub (h:eU n p) (i j:Nat):eU n (bubble p i j):=(bubble_perm _ _ _).trans h
variable {n:Nat}
theorem sO {p:Array Nat}(hn:0 < n) (h:eU n p):∀f m,ek n (λ_:Nat=>True) (KP p f m)
 | 0,m=>.ret trivial
 | f + 1,m=>.ask (h.lt hn _) (h.lt hn _) λb=>by cases b with
  | true=>exact .ret trivial
  | false=>exact sO hn h f (m + 1)
theorem l_ (hn:0 < n):∀f {p:Array Nat} m q,eU n p->ek n (λr:Array Nat×Nat×Nat=>eU n r.1) (ID f p m q)
 | 0,p,m,q,h=>.ret h
 | f + 1,p,m,q,h=>.ask (h.lt hn _) (h.lt hn _) λb=>by
  cases b with
  | true=>
   simp only [if_true];by_cases hq:q > 0
   ·rw [if_pos hq];exact l_ hn f _ _ (h.rev _ _)
   ·rw [if_neg hq];exact l_ hn f _ _ h
  | false=>
   simp only [Kc,if_false];refine .ask (h.lt hn _) (h.lt hn _) λb=>?_;cases b with
   | true=>exact .ret h
   | false=>exact l_ hn f _ _ h
theorem uG (hn:0 < n) (h:eU n p) (m k:Nat):ek n (λr:Nat×Array Nat=>eU n r.2) (O4 m k p):=(sO hn (h.rev 0 m) _ _).bind λa _=>.ret (h.rev _ _)
theorem rB (hn:0 < n) (h:eU n p) (m k:Nat):ek n (λr:Nat×Array Nat=>eU n r.2) (Nu m k p):=(l_ hn _ _ _ h).bind λr hr=>by
 split
 ·exact uG hn (hr.rev _ _) _ _
 ·exact uG hn hr _ _
theorem yX (hn:0 < n) (h:eU n p) (k:Nat):ek n (λr:Nat×Array Nat=>eU n r.2) (N4 k p):=(sO hn h _ _).bind λm _=>by
 split
 ·exact .ret h
 ·split
  ·refine .ask (h.lt hn _) (h.lt hn _) λb=>?_;cases b with
   | true=>exact .ret h
   | false=>exact rB hn (h.rev _ _) _ _
  ·exact rB hn h _ _
theorem nF (hn:0 < n){p:Array Nat}(h:eU n p) (k:Nat):∀f l r,ek n (λ_:Nat=>True) (IX p k f l r)
 | 0,l,r=>.ret trivial
 | f + 1,l,r=>by
  unfold IX;split
  ·exact .ret trivial
  ·refine .ask (h.lt hn _) (h.lt hn _) λb=>?_;cases b with
   | true=>exact nF hn h k f _ _
   | false=>exact nF hn h k f _ _
theorem yq (hn:0 < n):∀f {p:Array Nat} k,eU n p->ek n (eU n) (OP f p k)
 | 0,p,k,h=>.ret h
 | f + 1,p,k,h=>(nF hn h k _ _ _).bind λl _=>yq hn f _ (h.bub _ _)
theorem gc (hn:0 < n):ek n (eU n) (JF n):=(yX hn (show eU n _ from N5 _) n).bind λr hr=>by
 split
 ·exact yq hn _ _ hr
 ·exact .ret hr
end DL
namespace DL
open PySem PySem.Spec PyProof.Rows L2
open PySem.W (KasT kas_sort kas_ask kas_item kat_run kat_snds KatLex kat_cons kat_yes kat_no kat_lt kat_one KatTups kat_kind Looks)
section
variable {prog:GG}{w:Hi}{A:G3}{E:Ge->Gf->Prop}{s:Gf}
def j_ (q:Nat->Nat->Bool) (vs:List Ge):List Ge:=(aP q (JF vs.length)).toList.map λi=>vs.getD i HD
theorem xG (q:Nat->Nat->Bool){vs:List Ge}(h:0 < vs.length):(j_ q vs).length=vs.length:=by unfold j_;rw [Gn,GB];have:=((gc h).run q:eU _ _).size_eq;simpa using this
theorem tP {vs:List Ge}{q:Nat->Nat->Bool}{P:O5->Gf->Prop}(ho:s.heap.get? a=some (Ir "list" vs.toArray n)) (h2:2<=vs.length) (h64:vs.length < 64)
 (hk:∀h' C,(∀b o,b≠a->s.heap.get? b=some o->h'.get? b=some o)->C κ {s with heap:=h'}->GH (GD prog w) A (OQ vs.toArray) C (λ_ _=>False) {s with heap:=h'})
 (hc:∀h',(∀b o,b≠a->s.heap.get? b=some o->h'.get? b=some o)->∀i j C,i < vs.length->j < vs.length->C (q i j) {s with heap:=h'}->kas_ask prog w A κ vs i j C {s with heap:=h'})
 (h:P (.done (.ret .none)) {s with heap:=Nj s.heap a vs (j_ q vs).toArray}):GH (GD prog w) A (K6.«list.sort» ⟨[.ref a],[]⟩) P E s:=by
 have la:a < s.heap.objs.size:=Gx ho;have sl:vs.length<=sizeLine:=by rw [IY];omega
 obtain ⟨e1,g1⟩:∃e1,(s.heap.update a (IS λ_=>(#[]:Array Ge))).get? a=some (Ir "list" #[] e1):=⟨_,(Mb ho λ_=>#[])⟩;have z1:(s.heap.update a (IS λ_=>(#[]:Array Ge))).objs.size=s.heap.objs.size:=(NK _ _ _);have g3:(((s.heap.update a (IS λ_=>(#[]:Array Ge))).push (Ir "tuple" vs.toArray 0)).push (Ir "list" #[] 0)).get? a=some (Ir "list" #[] e1):=(Gh _ ((Gh _ g1)));have kp:∀b o,b≠a->s.heap.get? b=some o->(((s.heap.update a (IS λ_=>(#[]:Array Ge))).push (Ir "tuple" vs.toArray 0)).push (Ir "list" #[] 0)).get? b=some o:=λb o nb q=>
  Gh _ (Gh _ (by rw [La _ _ _ _ nb];exact q))
 rw [Mc];refine Gb ((Nv ho rfl ?_));refine Gb (Kd ho rfl ?_ (by rw [Gq];exact sl) (Hh _));refine Gb ((Lb g1 rfl ?_));refine Gb (Ln ?_ (show vs.length<=_ from sl));refine Gb ((K0 ?_ (Hh _)));refine (Im ?_);dsimp only;have n2:¬vs.toArray.size < 2:=by (rw [Gq]);omega
 rw [if_neg n2,if_neg n2];refine Gb (Hv (hk _ (λk s'=>k=κ/\s'=_) kp ⟨rfl,rfl⟩) ?_ λ_ _ x=>x.elim);rintro _ _ ⟨rfl,rfl⟩;refine Gb (Hv (kat_run (E:=E) (Q:=λst' s'=>∃p:Array Nat,p.size=vs.length/\H_ st'=p.map (kas_item (vs.toArray.zip vs.toArray))/\Kw st'=none/\p=aP q (JF vs.length)/\s'=_)
  rfl h2 h64 (λp' st' s' a1 a2 a3 a4=>⟨p',a1,a2,a3,a4⟩) ((gc (by omega)).wp (q:=q) (hc _ kp) ⟨rfl,rfl⟩)) ?_ λ_ _ e=>e)
 rintro ⟨⟨⟩,st'⟩ s' ⟨p,hp,har,hf,rfl,rfl⟩;dsimp only;have ou:(H_ st').map (·.2)=(j_ q vs).toArray:=kat_snds rfl har;rw [ou];refine Gb ((Lb g3 rfl ?_));refine Gb (Kd g3 rfl ?_ (Hh _) (HB (O0 (Gq.trans (xG q (Gy Nat.zero_lt_two h2)))) (Nat.le_succ_of_le sl)));rw [hf];simp only [bne_self_eq_false,Kc,if_false];exact Gk h
end
end DL
namespace DL
open PySem PySem.Spec PyProof.Rows L2
open PySem.W (KasT kas_sort kas_ask KatLex kat_nil kat_cons kat_yes kat_no kat_lt kat_one KatTups kat_kind Looks)
section
variable {prog:GG}{w:Hi}{A:G3}{E:Ge->Gf->Prop}{s:Gf}{K:Gd}{J:Hp}
theorem oE {fin ans:Bool}{Q:Bool->Gf->Prop}(h:eZ A s fin zs ans) (hq:Q ans s):∀{i:Nat},(b && i == 0)=false->KatLex prog w A b fin Q zs i s:=by
 induction h with
 | nil=>intro i _;exact kat_nil hq
 | yes he _ ih=>intro i _;exact OR (he prog w _ _ (kat_yes (ih hq (by cases b <;> rfl))))
 | no he hl=>
  intro i hb;refine OR (he prog w _ _ (kat_no ?_));rw [hb];exact kat_one _ _ (hl prog w _ _ hq)
theorem zp {fin ans e:Bool}{Q:Bool->Gf->Prop}(he:IF A s u u' e) (h1:e=true->eZ A s fin zs ans)
 (h2:e=false->GH (GD prog w) A (oneLt' true u u') Q (λ_ _=>False) s) (hq:Q ans s):KatLex prog w A true fin Q ((u,u')::zs) 0 s:=by
 cases e with
 | true=>exact OR (he prog w _ _ (kat_yes (oE (h1 rfl) hq rfl)))
 | false=>exact OR (he prog w _ _ (kat_no (h2 rfl)))
inductive Hd where
 | t | i | x
noncomputable def gD:D->Option Hd
 | .tup (.tup _::_)=>some .t
 | .tup (.int _::_)=>some .i
 | .tup (.str _::_)=>some .x
 | _=>none
noncomputable def Hd.flag:Hd->Bool
 | .t=>false
 | _=>true
noncomputable def Hd.ty:Hd->Ge
 | .t=>.type "tuple"
 | .i=>.type "int"
 | .x=>.type "str"
theorem xF {k:Hd}{C:Bool->Gf->Prop}(hd:gD (.tup (x::xs))=some k) (he:gD (.tup (y::ys))=some k) (hf:k.flag=true) (h:dg x y=some b) (rd:Rep K J x v) (re:Rep K J y v') (rv:RelV v u) (rv':RelV v' u') (c:C b s):
  GH (GD prog w) A (oneLt' true u u') C E s:=by
 cases x with
 | int x=>
  cases hd;cases y with
  | int y=>
   cases rd;cases re;obtain ⟨tk,rfl⟩:=rv;obtain ⟨tk',rfl⟩:=rv';unfold dg at h;simp only [Ig] at h;refine oneLt_int ?_;rw [h];exact c
  | _=>cases he
 | str x=>
  cases hd;cases y with
  | str y=>
   cases rd;cases re;obtain ⟨tk,rfl⟩:=rv;obtain ⟨tk',rfl⟩:=rv';unfold dg at h;simp only [Ig] at h;refine oneLt_str ?_;rw [h];exact c
  | _=>cases he
 | tup _=>cases hd;cases hf
 | _=>cases hd
theorem zq (F:HF K J s){k:Hd}{C:Bool->Gf->Prop}(hd:gD d=some k) (he:gD e=some k) (h:dg d e=some b) (rd:Rep K J d v) (re:Rep K J e v') (rv:RelV v u) (rv':RelV v' u')
 (hu:A.units + dep d < Kn) (k1:dep d<=1000) (k2:dep e<=1000) (c:C b s):GH (GD prog w) A (keyLt' (tuples' k.flag) u u') C E s:=by
 cases d with
 | tup ds=>
  cases e with
  | tup es=>
   unfold dg at h;simp only at h;cases rd with
   | tup h1 hs=>
    cases re with
    | tup h2 hs'=>
     cases rv;cases rv';obtain ⟨its,r,p⟩:=F.t _ _ h1;obtain ⟨its',r',p'⟩:=F.t _ _ h2;obtain ⟨o,ho,hc,m,dm⟩:=id p;obtain ⟨o',ho',hc',m',dm'⟩:=id p';refine kat_lt ho dm ho' dm' ?_;simp only [Gq];cases hf:k.flag with
     | false=>
      exact oE (pM F ds A (n1:=its.length) (n2:=its'.length) h hs hs' r r' (by unfold dep at hu;omega) (by unfold dep at k1;omega) (by unfold dep at k2;omega) (by omega)) c rfl
     | true=>
      cases hs with
      | nil=>cases hd
      | cons q1 t1=>
       cases hs' with
       | nil=>cases he
       | cons q2 t2=>
        cases r with
        | cons a1 b1=>
         cases r' with
         | cons a2 b2=>
          unfold dep deps at hu k1 k2;rw [List.zip_cons_cons];unfold gT at h;simp only at h;refine zp (ans:=b) (mh F A q1 q2 a1 a2 (by omega) (by omega) (by omega)) (λz=>?_) (λz=>?_) c
          ·rw [z,if_pos rfl] at h;exact pM F _ A h t1 t2 b1 b2 (by omega) (by omega) (by omega) (by simp;omega)
          ·rw [z,if_neg G4] at h;exact xF hd he hf h q1 q2 a1 a2 c
  | _=>cases he
 | _=>cases hd
noncomputable def fC (k:Hd):List D->Bool
 | []=>true
 | d::r=>(match gD d,k with
  | some .t,.t=>true
  | some .i,.i=>true
  | some .x,.x=>true
  | _,_=>false) && fC k r
theorem jP {k:Hd}:∀{ds:List D},fC k ds=true->∀d∈ds,gD d=some k
 | [],_,_,hm=>nomatch hm
 | x::r,h,d,hm=>by
  unfold fC at h;rw [Gw] at h;rcases Gz.mp hm with rfl | hm
  ·cases q:gD d with
   | none=>rw [q] at h;cases h.1
   | some k'=>rw [q] at h;cases k' <;> cases k <;> first | rfl | cases h.1
  ·exact jP h.2 d hm
theorem uY (F:HF K J s){k:Hd}(hd:gD d=some k) (rd:Rep K J d v) (rv:RelV v u):∃a o xs n f,u=.ref a/\s.heap.get? a=some o/\o.cls=.type "tuple"/\o.data=.seq xs n/\xs[0]?=some f/\Looks (GD prog w) s.heap (typeOf f) k.ty:=by
 cases d with
 | tup ds=>
  cases rd with
  | tup h1 hs=>
   cases rv;obtain ⟨its,r,p⟩:=F.t _ _ h1;obtain ⟨o,ho,hc,m,dm⟩:=id p;cases hs with
   | nil=>cases hd
   | cons q1 t1=>
    cases r with
    | cons a1 b1=>
     refine ⟨_,o,_,m,_,rfl,ho,hc,dm,rfl,?_⟩;rename_i x v' ds' vs' u us;cases x with
     | tup _=>
      cases hd;cases q1 with
      | tup h2 _=>
       cases a1;obtain ⟨its2,_,p2⟩:=F.t _ _ h2;obtain ⟨o2,ho2,hc2,_,_⟩:=id p2;have:=(Looks.ld (M:=GD prog w) (part:=none) ho2).andThen (f:=λo=>pure o.cls) (b:=o2.cls) .now;rw [hc2] at this;exact this
     | int _=>
      cases hd;cases q1;obtain ⟨tk,rfl⟩:=a1;exact .now
     | str _=>
      cases hd;cases q1;obtain ⟨tk,rfl⟩:=a1;exact .now
     | _=>cases hd
 | _=>cases hd
theorem mH (F:HF K J s){k:Hd}:∀{ds:List D}{vs:List V}{us:List Ge},fC k ds=true->aD K J ds vs->Vals vs us->∃fs,KatTups s.heap us fs/\fs.length=us.length/\∀v∈fs,Looks (GD prog w) s.heap (typeOf v) k.ty
 | _,_,_,_,.nil,.nil=>⟨[],trivial,rfl,λ_ h=>nomatch h⟩
 | d::ds,_,_,h,.cons q rs,.cons a b=>by
  have hd:=jP h d (Gs ..);unfold fC at h;rw [Gw] at h;obtain ⟨fs,h1,h2,h3⟩:=mH F h.2 rs b;obtain ⟨p,o,xs,n,f,rfl,e1,e2,e3,e4,e5⟩:=uY (prog:=prog) (w:=w) F hd q a;refine ⟨f::fs,⟨⟨p,o,xs,n,rfl,e1,e2,e3,e4⟩,h1⟩,by simp [h2],λv hv=>?_⟩;rcases Gz.mp hv with rfl | hv
  ·exact e5
  ·exact h3 v hv
theorem ze (k:Hd):(k.ty != P1 "tuple")=k.flag:=by cases k <;> decide
theorem vd (F:HF K J s){k:Hd}{us:List Ge}(h:fC k ds=true) (rs:aD K J ds vs) (rv:Vals vs us) (hl:0 < us.length){C:Ip->Gf->Prop}(c:C (tuples' k.flag) s):GH (GD prog w) A (OQ us.toArray) C E s:=by obtain ⟨fs,h1,h2,h3⟩:=mH (prog:=prog) (w:=w) F h rs rv;refine kat_kind h1 (by omega) h3 (by cases k <;> decide) ?_;rw [ze];exact c
end
end DL
namespace DL
open PySem PySem.Spec PyProof.Rows L2
open PySem.W (KasT kas_sort kas_ask)
section
variable {prog:GG}{w:Hi}{A:G3}{E:Ge->Gf->Prop}{s:Gf}
theorem tN {vs:List Ge}{P:O5->Gf->Prop}(ho:s.heap.get? a=some (Ir "list" vs.toArray n)) (h2:vs.length < 2)
 (h:P (.done (.ret .none)) {s with heap:=Nj s.heap a vs vs.toArray}):GH (GD prog w) A (K6.«list.sort» ⟨[.ref a],[]⟩) P E s:=by
 have sl:vs.length<=sizeLine:=by rw [IY];omega
 obtain ⟨e1,g1⟩:∃e1,(s.heap.update a (IS λ_=>(#[]:Array Ge))).get? a=some (Ir "list" #[] e1):=⟨_,(Mb ho λ_=>#[])⟩;have g3:(((s.heap.update a (IS λ_=>(#[]:Array Ge))).push (Ir "tuple" vs.toArray 0)).push (Ir "list" #[] 0)).get? a=some (Ir "list" #[] e1):=(Gh _ ((Gh _ g1)));rw [Mc];refine Gb ((Nv ho rfl ?_));refine Gb (Kd ho rfl ?_ (by rw [Gq];exact sl) (Hh _));refine Gb ((Lb g1 rfl ?_));refine Gb (Ln ?_ (show vs.length<=_ from sl));refine Gb ((K0 ?_ (Hh _)));refine (Im ?_);dsimp only;have n2:vs.toArray.size < 2:=by (rw [Gq]);omega
 rw [if_pos n2,if_pos n2];refine (Gb (Gk ?_));rw [StateT.run_pure];refine (Gb (Gk ?_));dsimp only;have ou:(H_ (HJ general' (vs.toArray.zip vs.toArray) #[] 7 none)).map (·.2)=vs.toArray:=by
  show (vs.toArray.zip vs.toArray).map (·.2)=vs.toArray
  match vs,h2 with
  | [],_=>simp
  | [_],_=>simp
 rw [ou];refine Gb ((Lb g3 rfl ?_));refine Gb (Kd g3 rfl ?_ (Hh _) (by rw [Gq];omega));simp only [bne_self_eq_false,Kc,if_false];exact Gk h
abbrev Kp (h h':Ij):Prop:=∀b o,h.get? b=some o->h'.get? b=some o
noncomputable def jK (prog:GG) (w:Hi) (A:G3) (s:Gf) (vs:List Ge) (q:Nat->Nat->Bool):Prop:=2<=vs.length->∃κ,∀h' tk,Kp s.heap h'->
 (∀C:Ip->Gf->Prop,C κ {s with heap:=h',toks:=tk}->GH (GD prog w) A (OQ vs.toArray) C (λ_ _=>False) {s with heap:=h',toks:=tk})/\
 ∀i j (C:Bool->Gf->Prop),i < vs.length->j < vs.length->C (q i j) {s with heap:=h',toks:=tk}->kas_ask prog w A κ vs i j C {s with heap:=h',toks:=tk}
noncomputable def Coll (prog:GG) (w:Hi) (A:G3) (s:Gf) (x:Ge) (vs:List Ge):Prop:=∀(E:Ge->Gf->Prop) (C:List Ge->Gf->Prop),(∀h1 tk,Kp s.heap h1->s.heap.objs.size<=h1.objs.size->C vs {s with heap:=h1,toks:=tk})->GH (GD prog w) A (collect x) C E s
theorem rH {o:Obj}{vs:List Ge}(hT:T="list"\/T="tuple") (ho:s.heap.get? a=some o) (hc:o.cls=.type T) (hd:o.data=.seq vs.toArray n) (sl:vs.length<=sizeLine):Coll prog w A s (.ref a) vs:=by
 intro E C h;generalize hh:(s.heap.push (Ir "list" #[] 0)).update s.heap.objs.size (IS (·++vs.toArray))=h1;have hS:(s.heap.push (Ir "list" #[] 0)).get? s.heap.objs.size=some (Ir "list" #[] 0):=Gu _ rfl;have Fy:=L8 (IS (·++vs.toArray)) hS rfl;rw [hh] at Fy;have k1:Kp s.heap h1:=λb o e=>by rw [<-hh,La _ _ _ _ (G9 (Gx e))];exact Gh _ e
 have z1:s.heap.objs.size<=h1.objs.size:=by rw [<-hh,NK,size_push'];exact MA _
 have fin:=h h1 s.toks k1 z1;unfold collect;refine Gb (wpAny_runValue (N6 F.entry_proto_collect ?_));rw [Ml F.plain_proto_collect _];show GH _ A.in1 (newList [] >>= λl=>again (.builtin "list.__iadd__" ⟨[l,.ref a],[]⟩)) _ _ s;refine Gb (Ic ?_);refine Gk ⟨plainId_quiet Nk _,N6 F.entry_list_iadd ?_⟩;rw [Ml Nk _];have fin':GH (GD prog w) A (load s.heap.objs.size >>= λo=>match o.data with
   | .seq xs _=>pure xs.toList
   | _=>unsupported "internal:collect") C E {s with heap:=h1}:=by
  refine Gb (wpAny_load Fy (Gk ?_));have e:((#[]:Array Ge)++vs.toArray).toList=vs:=by simp
  show C ((#[]:Array Ge)++vs.toArray).toList _;rw [e];exact fin
 refine Hv (wpAny_extend_seq (hsz:=by rw [Gq];exact sl) (A:=A) (R:=λr s'=>r=.ok (.ret (.ref s.heap.objs.size))/\s'={s with heap:=h1})
  (s:={s with heap:=s.heap.push (Ir "list" #[] 0)}) _ a _ 0 hT hS (Gh _ ho) hc hd ⟨rfl,by rw [<-hh]⟩) (λf s' q=>?_) (λe s' q=>absurd q.1 (by simp))
 cases f with
 | done f=>
  obtain ⟨e,rfl⟩:=q;cases e;exact fin'
 | again c'=>exact ⟨q.1,Kz q.2 λr s'' hr=>by obtain ⟨rfl,rfl⟩:=hr;exact fin'⟩
theorem Ad {q:Nat->Nat->Bool}{Q:Ge->Gf->Prop}{vs:List Ge}(EV:Coll prog w A.in1 s x vs) (h64:vs.length < 64) (ha:jK prog w A.in1.in1 s vs q)
 (h:∀h' tk l n,Kp s.heap h'->s.heap.objs.size<=l->h'.get? l=some (Ir "list" (if vs.length < 2 then vs else j_ q vs).toArray n)->Q (.ref l) {s with heap:=h',toks:=tk}):GH (GD prog w) A (call (.builtin "sorted") [x]) Q E s:=by
 have sl:vs.length<=sizeLine:=by rw [IY];omega
 refine (Lo kind_sorted plain_sorted entry_sorted (args_sorted1 _) ?_);unfold K6.«sorted»;refine Gb (m:=checkCount "sorted" 1 1 _) ((Gk ?_));refine Gb (EV _ _ λh1 tk1 k1 le1=>?_);refine Gb (K0 ?_ sl);have gL:(h1.push (Ir "list" vs.toArray 0)).get? h1.objs.size=some (Ir "list" vs.toArray 0):=Gu _ rfl;have kp:∀b o,s.heap.get? b=some o->b≠h1.objs.size/\(h1.push (Ir "list" vs.toArray 0)).get? b=some o:=λb o e=>by have e1:=k1 b o e;exact ⟨G9 (Gx e1),Gh _ e1⟩
 have kend:∀out,Kp s.heap (Nj (h1.push (Ir "list" vs.toArray 0)) h1.objs.size vs out):=λout b o e=>by obtain ⟨g1,g2'⟩:=kp b o e;rw [Ol g1 (Gx g2')];exact g2'
 dsimp only;by_cases h2:vs.length < 2
 ·refine Gb (Im (Ia Mw ⟨_,gL,rfl⟩ Me (tN gL h2 ⟨_,rfl,?_⟩) (Mx _)));obtain ⟨n,hn'⟩:=M1 (out:=vs.toArray) gL;rw [if_pos h2] at h;exact Gk ⟨_,rfl,h _ tk1 _ n (kend _) le1 hn'⟩
 ·obtain ⟨κ,ask⟩:=ha (by omega);refine Gb (Im (Ia Mw ⟨_,gL,rfl⟩ Me (tP (κ:=κ) (q:=q) gL (by omega) h64 (λh' C k c=>?_) (λh' k i j C hi hj c=>?_) ⟨_,rfl,?_⟩) (Mx _)))
  ·exact (ask h' tk1 λb o e=>k b o (kp b o e).1 (kp b o e).2).1 C c
  ·exact (ask h' tk1 λb o e=>k b o (kp b o e).1 (kp b o e).2).2 i j C hi hj c
  ·obtain ⟨n,hn'⟩:=M1 (out:=(j_ q vs).toArray) gL;rw [if_neg h2] at h;exact Gk ⟨_,rfl,h _ tk1 _ n (kend _) le1 hn'⟩
end
def bR (ds:List D) (i:Nat):D:=ds.getD i .non
def ltB (ds:List D) (i j:Nat):Bool:=(dg (bR ds i) (bR ds j)).getD false
def a_ (ds:List D):List D:=if ds.length < 2 then ds else (aP (ltB ds) (JF ds.length)).toList.map (bR ds)
def p5 (ds:List D):Bool:=ds.all λx=>ds.all λy=>(dg x y).isSome
noncomputable def xD (ds:List D):Bool:=match ds with
 | []=>false
 | d::_=>match gD d with
  | some k=>fC k ds
  | none=>false
def ly (ds:List D):Bool:=decide (ds.length < 2) || (decide (ds.length < 64) && (decide (deps ds<=60) && (xD ds && p5 ds)))
section
variable {K:Gd}{J:Hp}
theorem fV {ds:List D}{vs:List V}(h:aD K J ds vs):∀{i:Nat},i < ds.length->Rep K J (bR ds i) (vs.getD i V.non):=by
 induction ds generalizing vs with
 | nil=>intro i hi;exact absurd hi (Ke _)
 | cons x r ih=>
  intro i hi;cases h with
  | cons q rs=>
   cases i with
   | zero=>simpa [bR] using q
   | succ i=>simpa [bR] using ih rs (i:=i) (by simpa using hi)
theorem fX {vs:List V}{us:List Ge}(h:Vals vs us):∀{i:Nat},i < vs.length->RelV (vs.getD i V.non) (us.getD i HD):=by
 induction vs generalizing us with
 | nil=>intro i hi;exact absurd hi (Ke _)
 | cons x r ih=>
  intro i hi;cases h with
  | cons q rs=>
   cases i with
   | zero=>simpa using q
   | succ i=>simpa using ih rs (i:=i) (by simpa using hi)
theorem nS {ds:List D}{vs:List V}(h:aD K J ds vs):∀ix:List Nat,(∀i∈ix,i < ds.length)->aD K J (ix.map (bR ds)) (ix.map λi=>vs.getD i V.non)
 | [],_=>.nil
 | i::r,hi=>.cons (fV h (hi i (Gs ..))) (nS h r λj hj=>hi j (Gp _ hj))
theorem nW {vs:List V}{us:List Ge}(h:Vals vs us):∀ix:List Nat,(∀i∈ix,i < vs.length)->Vals (ix.map λi=>vs.getD i V.non) (ix.map λi=>us.getD i HD)
 | [],_=>.nil
 | i::r,hi=>.cons (fX h (hi i (Gs ..))) (nW h r λj hj=>hi j (Gp _ hj))
theorem zd {ds:List D}:∀{i:Nat},i < ds.length->dep (bR ds i)<=deps ds:=by
 induction ds with
 | nil=>intro i hi;exact absurd hi (Ke _)
 | cons x r ih=>
  intro i hi;unfold deps;cases i with
  | zero=>show dep x<=_;omega
  | succ i=>
   have:=ih (i:=i) (by simpa using hi);have e:bR (x::r) (i + 1)=bR r i:=rfl;rw [e];omega
theorem dh {ds:List D}(hi:i < ds.length):bR ds i∈ds:=by
 have e:bR ds i=ds[i]:=by simp [bR,hi]
 rw [e];exact IB hi
theorem HF.keep {s s':Gf}(F:HF K J s) (k:∀b o,s.heap.get? b=some o->s'.heap.get? b=some o):HF K J s':=
 ⟨λa xs h=>let ⟨its,r,o,ho,p⟩:=F.t a xs h;⟨its,r,o,k _ _ ho,p⟩,λa xs h=>let ⟨its,r,o,ho,p⟩:=F.l a xs h;⟨its,r,o,k _ _ ho,p⟩,λa h=>let ⟨o,ho,p⟩:=F.e a h;⟨o,k _ _ ho,p⟩,λa ep Ga h=>let ⟨o,es,ho,p⟩:=F.d a ep Ga h;⟨o,es,k _ _ ho,p⟩⟩
theorem uE {A:G3}(F:HF K J s) (rs:aD K J ds vs) (rv:Vals vs its) (hk:∀d∈ds,gD d=some k/\dep d<=60) (hk':fC k ds=true) (hc:∀x∈ds,∀y∈ds,(dg x y).isSome=true) (hu:A.units + 62 < Kn):jK prog w A s its (ltB ds):=by
 intro h2;have l1:vs.length=its.length:=rv.length;have l2:ds.length=vs.length:=rs.length;refine ⟨tuples' k.flag,λh' tk kp=>⟨λC cc=>vd (F.keep kp) hk' rs rv (by omega) cc,λi j C hi hj cc=>?_⟩⟩;have hi':i < ds.length:=by omega
 have hj':j < ds.length:=by omega
 obtain ⟨a1,d1⟩:=hk _ (dh hi');obtain ⟨a2,d2⟩:=hk _ (dh hj');have hb:dg (bR ds i) (bR ds j)=some (ltB ds i j):=by
  have:=hc _ (dh hi') _ (dh hj');unfold ltB;cases z:dg (bR ds i) (bR ds j) with
  | none=>rw [z] at this;cases this
  | some b=>rfl
 exact zq (F.keep kp) a1 a2 hb (fV rs hi') (fV rs hj') (fX rv (by omega)) (fX rv (by omega)) (by omega) (by omega) (by omega) cc
end
noncomputable def isInt:D->Bool
 | .int _=>true
 | _=>false
def mQ (ds:List D):Bool:=decide (ds.length < 64) && ds.all isInt
theorem rV {K:Gd}{J:Hp}:∀{ds:List D}{vs:List V}{us:List Ge},ds.all isInt=true->aD K J ds vs->Vals vs us->∃ns,NS us ns
 | _,_,_,_,.nil,.nil=>⟨[],.nil⟩
 | d::ds,_,_,h,.cons r rs,.cons v vs=>by
  (rw [KW,Gw] at h)
  obtain ⟨ns,hn⟩:=rV h.2 rs vs;cases d with
  | int i=>
   cases r;obtain ⟨t,rfl⟩:=v;exact ⟨i::ns,.cons i t hn⟩
  | _=>cases h.1
theorem AD {K:Gd}{J:Hp}{prog:GG}{w:Hi}{A:G3}{s:Gf}{ds:List D}{vs:List V}{its:List Ge}(rs:aD K J ds vs) (rv:Vals vs its) (hi:ds.all isInt=true):jK prog w A s its (ltB ds):=by
 intro h2;have l1:vs.length=its.length:=rv.length;have l2:ds.length=vs.length:=rs.length;obtain ⟨ns,hI⟩:=rV hi rs rv;refine ⟨oneType',λh' tk kp=>⟨λC cc=>?_,λi j C hi' hj' cc=>?_⟩⟩
 ·clear l1 rv
  match its,hI,h2 with
  | v1::v2::r,hI,_=>rw [keyKind_ints hI];exact Gk cc
 ·have ai:=GW.mp hi _ (dh (i:=i) (by omega));have aj:=GW.mp hi _ (dh (i:=j) (by omega));have r1:=fV rs (i:=i) (by omega);have r2:=fV rs (i:=j) (by omega);have v1:=fX rv (i:=i) (by omega);have v2:=fX rv (i:=j) (by omega);show GH _ _ (keyLt' oneType' (its.getD i HD) (its.getD j HD)) _ _ _;rw [keyLt'_oneType];have e:ltB ds i j=(dg (bR ds i) (bR ds j)).getD false:=rfl;rw [e] at cc;generalize bR ds i=di at ai r1 cc;generalize bR ds j=dj at aj r2 cc;generalize vs.getD i V.non=wi at r1 v1;generalize vs.getD j V.non=wj at r2 v2;cases di with
  | int a=>
   cases dj with
   | int b=>
    cases r1;cases r2;obtain ⟨t1,q1⟩:=v1;obtain ⟨t2,q2⟩:=v2;rw [q1,q2];refine oneLt_int ?_;unfold dg at cc;exact cc
   | _=>cases aj
  | _=>cases ai
section
variable {X:Cx}{c:C}{e:Hl}{es:List Hl}{pos:Pos}
theorem oU {H:Hp}{Q:VK}{E:Ge->Gf->Prop}{vs:List V}{ds:List D}(I:Inv X F3 σ H s) (EV:Coll X.prog X.w X.A.in1 s x its) (rv:Vals vs its) (l2:ds.length=vs.length) (l64:ds.length < 64)
 (ha:jK X.prog X.w X.A.in1.in1 s its (ltB ds)) (q:∀l vs',H l=none->(∀J,aD X.K J ds vs->aD X.K J (a_ ds) vs')->Q (.ref l) (upd H l (.lst vs'))):GH (GD X.prog X.w) X.A (call (.builtin "sorted") [x]) (EP X F3 σ Q) E s:=by
 have l1:vs.length=its.length:=rv.length;refine Ad EV (by omega) ha λh' tk l n kp hl hg=>?_;have fin:∀(ot:List Ge) (vs':List V),vs'.length=vs.length->Vals vs' ot->(∀J,aD X.K J ds vs->aD X.K J (a_ ds) vs')->h'.get? l=some (Ir "list" ot.toArray n)->EP X F3 σ Q (.ref l) {s with heap:=h',toks:=tk}:=λot vs' lv rv' rr hg=>
  ⟨.ref l,_,I.laid (t':=tk) kp hl (show cS X.prog X.w _ _ _ (.lst vs') from ⟨by rw [lv,IY];omega,ot,n,rv',by simpa [Ir] using hg⟩),rfl,q l vs' (I.hok.fresh hl) rr⟩
 by_cases h2:its.length < 2
 ·rw [if_pos h2] at hg;refine fin its vs rfl rv (λJ rj=>?_) hg;unfold a_;rw [if_pos (by omega)];exact rj
 ·rw [if_neg h2] at hg;have ib:∀i∈(aP (ltB ds) (JF ds.length)).toList,i < ds.length:=λi hi=>by have:=((gc (n:=ds.length) (by omega)).run (ltB ds):eU _ _);have:=(Lk this).mp (Array.mem_toList_iff.mp hi);simpa using this
  have e1:j_ (ltB ds) its=(aP (ltB ds) (JF ds.length)).toList.map λi=>its.getD i HD:=by unfold j_;rw [l2,l1]
  rw [e1] at hg;refine fin _ _ ?_ (nW rv _ λi hi=>l2▸ib i hi) (λJ rj=>?_) hg
  ·rw [Gn,<-l2];have:=((gc (n:=ds.length) (by omega)).run (ltB ds):eU _ _).size_eq;simpa using this
  ·unfold a_;rw [if_neg (by omega)];exact nS rj _ ib
theorem qh {H:Hp}(I:Inv X F3 σ H s) (h:cg X.K H p vs\/cZ X.K H p vs):∃its,Vals vs its/\Coll X.prog X.w A s (.ref p) its:=by
 rcases h with h | h
 ·obtain ⟨its,r,⟨o,n,ho,hc,_,hd⟩,hz⟩:=I.list h;exact ⟨its,r,rH (.inl rfl) ho hc hd (r.length▸hz)⟩
 ·obtain ⟨its,r,pt,hz⟩:=I.tuple h;obtain ⟨o,ho,hc,n,hd⟩:=pt;exact ⟨its,r,rH (.inr rfl) ho hc hd (r.length▸hz)⟩
theorem xE {H:Hp}{ds:List D}(hu:X.A.units + 64 < Kn) (I:Inv X F3 σ H s) (rs:aD X.K H ds vs) (rv:Vals vs its) (ok:ly ds=true):ds.length < 64/\jK X.prog X.w X.A.in1.in1 s its (ltB ds):=by
 have l1:vs.length=its.length:=rv.length;have l2:ds.length=vs.length:=rs.length;by_cases h2:ds.length < 2
 ·exact ⟨by omega,λh=>absurd h (by omega)⟩
 ·unfold ly at ok;rw [decide_eq_false h2,OS,Gw,Gw,Gw] at ok;obtain ⟨o1,o2,o3,o4⟩:=ok;have o2:=of_decide_eq_true o2;obtain ⟨k,hk⟩:∃k,fC k ds=true:=by
   unfold xD at o3;cases ds with
   | nil=>cases o3
   | cons d r=>
    simp only at o3;cases z:gD d with
    | none=>rw [z] at o3;cases o3
    | some k=>rw [z] at o3;exact ⟨k,o3⟩
  refine ⟨of_decide_eq_true o1,uE (ie I) rs rv (k:=k) (λd hd=>⟨jP hk d hd,?_⟩) hk (λx hx y hy=>GW.mp (GW.mp o4 _ hx) _ hy) hu⟩;obtain ⟨i,hi,rfl⟩:=GY.mp hd;have:=zd hi;have e:bR ds i=ds[i]:=by simp [bR,hi]
  rw [e] at this;omega
theorem pY (hu:X.A.units + 64 < Kn):dG X (.builtin "sorted") (λxs H Q=>∃p vs ds,xs=[.ref p]/\(cg X.K H p vs\/cZ X.K H p vs)/\aD X.K H ds vs/\(ly ds=true\/mQ ds=true)/\∀l vs',H l=none->(∀J,aD X.K J ds vs->aD X.K J (a_ ds) vs')->Q (.ref l) (upd H l (.lst vs'))):=by
 intro F3 s σ H xs us Q I r h;obtain ⟨p,vs,ds,rfl,hq,rs,ok,q⟩:=h;obtain ⟨u,rfl,rx⟩:=vals1 r;cases rx;obtain ⟨its,rv,col⟩:=qh I hq;rcases ok with ok | ok
 ·obtain ⟨l64,ha⟩:=xE hu I rs rv ok;exact oU I col rv rs.length l64 ha q
 ·unfold mQ at ok;rw [Gw] at ok;exact oU I col rv rs.length (of_decide_eq_true ok.1) (AD rs rv ok.2) q
end
end DL
namespace S6
open PySem PySem.Spec PyProof.Rows L2 DL
abbrev SM:=StateT HH Sem
noncomputable def DJ:{g:Bool->GJ->Array GJ->Nat->Nat->Nat->SM (Option Nat) // ∃(f:HH->SM Bool) (p:Ip->Array GJ->Nat->HH) (h:Ip->Array GJ->Nat->GJ->Option Nat->SM Bool),OT 0=(get >>= f)/\∀κ arr mg,f (HJ κ arr #[(0,1,0),(1,1,0)] mg none)=(set (p κ arr mg) >>= λ_=>P8 arr 1 >>= λx=>g false x arr 0 1 0 >>= h κ arr mg x)}:=⟨_,_,_,_,rfl,λ_ _ _=>rfl⟩
abbrev qd:=DJ.1
noncomputable def DU:{L:Array GJ->Array GJ->SM (Array GJ) // ∃(f:HH->SM Bool) (p:Ip->Array GJ->Nat->HH) (h:Ip->Array GJ->Nat->GJ->Option Nat->SM Bool) (h2:Ip->Array GJ->Nat->GJ->GJ->Option Nat->SM Bool) (j:Ip->Array GJ->Nat->GJ->GJ->Array GJ->SM Bool),OT 0=(get >>= f)/\(∀κ arr mg,f (HJ κ arr #[(0,1,0),(1,1,0)] mg none)=(set (p κ arr mg) >>= λ_=>P8 arr 1 >>= λx=>qd false x arr 0 1 0 >>= h κ arr mg x))/\(∀κ arr mg x,h κ arr mg x (some 0)=(P8 arr 0 >>= λy=>qd true y arr 1 1 0 >>= h2 κ arr mg x y))/\∀κ arr mg x y,h2 κ arr mg x y (some 1)=(L (arr.extract 0 1) (arr.extract 1 2) >>= j κ arr mg x y)}:=⟨_,_,_,_,_,_,rfl,λ_ _ _=>rfl,λ_ _ _ _=>rfl,λ_ _ _ _ _=>rfl⟩
abbrev Ep:=DU.1
noncomputable def DT:{L:Array GJ->Array GJ->SM (Array GJ) // ∃(f:HH->SM Bool) (p:Ip->Array GJ->Nat->HH) (h:Ip->Array GJ->Nat->GJ->Option Nat->SM Bool) (h2:Ip->Array GJ->Nat->GJ->GJ->Option Nat->SM Bool) (j:Ip->Array GJ->Nat->GJ->GJ->Array GJ->SM Bool),OT 0=(get >>= f)/\(∀κ arr mg,f (HJ κ arr #[(0,2,0),(2,1,0)] mg none)=(set (p κ arr mg) >>= λ_=>P8 arr 2 >>= λx=>qd false x arr 0 2 0 >>= h κ arr mg x))/\(∀κ arr mg x,h κ arr mg x (some 0)=(P8 arr 1 >>= λy=>qd true y arr 2 1 0 >>= h2 κ arr mg x y))/\∀κ arr mg x y,h2 κ arr mg x y (some 1)=(L (arr.extract 0 2) (arr.extract 2 3) >>= j κ arr mg x y)}:=⟨_,_,_,_,_,_,rfl,λ_ _ _=>rfl,λ_ _ _ _=>rfl,λ_ _ _ _ _=>rfl⟩
abbrev Eo:=DT.1
noncomputable def jO (prog:GG) (w:Hi) (A:G3) (E:Ge->Gf->Prop) (s:Gf) (κ:Ip) (its:GJ->Prop) (rk:GJ->Nat):Prop:=
 ∀x y,its x->its y->∀(Q:Option Bool->HH->Prop) st,kindOf st=κ->Q (some (decide (rk x < rk y))) st->wpS (GD prog w) A E s (lt' x y) Q st
section
variable {prog:GG}{w:Hi}{A:G3}{E:Ge->Gf->Prop}{s:Gf}{κ:Ip}{its:GJ->Prop}{rk:GJ->Nat}
theorem bM {arr:Array GJ}{i:Nat}{x:GJ}{Q:GJ->HH->Prop}{st:HH}(h:arr[i]?=some x) (q:Q x st):wpS (GD prog w) A E s (P8 arr i) Q st:=by rw [elem'_eq,h];exact Gv q
theorem mF (O:jO prog w A E s κ its rk){left:Bool}{key:GJ}{arr:Array GJ}{base n hint k:Nat}{st:HH}{Q:Option Nat->HH->Prop}(hk:kindOf st=κ) (ky:its key) (hh:hint < n) (kn:k<=n)
  (hb:∀i,i < n->∃x,arr[base + i]?=some x/\its x/\(rk x < rk key↔i < k)/\(¬rk key < rk x↔i < k)) (q:Q (some k) st):wpS (GD prog w) A E s (qd left key arr base n hint) Q st:=by
 have bey:∀i,i < n->∀(Q:Option Bool->HH->Prop),Q (some (decide (i < k))) st->wpS (GD prog w) A E s (P8 arr (base + i) >>= λx=>if left=true then lt' x key else (lt' key x >>= λr=>pure (r.map (!·)))) Q st:=λi hi Q q=>by
  obtain ⟨x,h1,h2,h3,h4⟩:=hb i hi;refine Gj (bM h1 ?_);cases left with
  | true=>exact O x key h2 ky _ st hk (by rw [show decide (rk x < rk key)=decide (i < k) by rw [Kf];simpa using h3];exact q)
  | false=>
   refine Gj (O key x ky h2 _ st hk (Gv ?_));rw [show Option.map (!·) (some (decide (rk key < rk x)))=some (decide (i < k)) by
    show some (!decide (rk key < rk x))=_;congr 1;rw [Kf];simpa using h4]
   exact q
 have bin:∀(f:Nat->Option (Option Nat)×Nat×Nat->SM (ForInStep (Option (Option Nat)×Nat×Nat))),(∀t o lo hi,hi<=n->∀Q:ForInStep (Option (Option Nat)×Nat×Nat)->HH->Prop,(hi<=lo->Q (.done (none,lo,hi)) st)->(lo < hi->lo + (hi - lo) / 2 < k->Q (.yield (none,lo + (hi - lo) / 2 + 1,hi)) st)->(lo < hi->k<=lo + (hi - lo) / 2->Q (.yield (none,lo,lo + (hi - lo) / 2)) st)->wpS (GD prog w) A E s (f t (o,lo,hi)) Q st)->
   ∀(lo hi:Nat),lo<=k->k<=hi->hi<=n->wpS (GD prog w) A E s (forIn [:n] ((none:Option (Option Nat)),lo,hi) f) (λc st'=>st'=st/\c.1=none/\c.2.2=k) st:=by
  intro f hf lo hi h1 h2 h3;refine Hq (λt c st'=>st'=st/\c.1=none/\c.2.1<=k/\k<=c.2.2/\c.2.2<=n/\c.2.2 - c.2.1 + t<=n) ?_ ?_ ⟨rfl,rfl,h1,h2,h3,by dsimp only;omega⟩
  ·rintro t ⟨o,lo,hi⟩ st' _ ht ⟨rfl,rfl,a1,a2,a3,a4⟩;dsimp only at a1 a2 a3 a4 ⊢;exact hf t none lo hi a3 _ (λ_=>⟨rfl,rfl,by dsimp only;omega⟩) (λ_ _=>⟨rfl,rfl,by dsimp only;omega,by dsimp only;omega,by dsimp only;omega,by dsimp only;omega⟩) λ_ _=>⟨rfl,rfl,by dsimp only;omega,by dsimp only;omega,by dsimp only;omega,by dsimp only;omega⟩
  ·rintro ⟨o,lo,hi⟩ st' ⟨rfl,rfl,a1,a2,a3,a4⟩;dsimp only at a1 a2 a3 a4 ⊢;exact ⟨rfl,rfl,by omega⟩
 refine Gj (bey hint hh _ ?_);by_cases c:hint < k
 ·rw [decide_eq_true c];dsimp only;rw [if_pos rfl];refine Gj (IL (Hq (λt c st'=>st'=st/\c.1=none/\hint + c.2.1 < k/\c.2.1 < c.2.2/\t + 1<=c.2.2) (Q:=λc st'=>st'=st/\c.1=none/\hint + c.2.1 < k/\(n - hint<=c.2.2\/k<=hint + c.2.2)) ?_ ?_ ⟨rfl,rfl,by dsimp only;omega,by dsimp only;omega,by dsimp only;omega⟩) ?_)
  ·rintro t ⟨o,la,of⟩ st' _ ht ⟨rfl,rfl,a1,a2,a3⟩;dsimp only at a1 a2 a3 ⊢;by_cases c:of ≥ n - hint
   ·rw [if_pos c];exact Gv ⟨rfl,rfl,a1,.inl c⟩
   ·rw [if_neg c];refine Gj (bey _ (by omega) _ ?_);by_cases m:hint + of < k
    ·rw [decide_eq_true m];exact Gv ⟨rfl,rfl,m,by dsimp only;omega,by dsimp only;omega⟩
    ·rw [decide_eq_false m];exact Gv ⟨rfl,rfl,a1,.inr (by dsimp only;omega)⟩
  ·rintro ⟨o,la,of⟩ st' ⟨rfl,rfl,a1,a2,a3⟩;dsimp only at a1 a2 a3;exact ⟨rfl,rfl,a1,.inl (by dsimp only;omega)⟩
  ·rintro ⟨o,la,of⟩ st' ⟨rfl,rfl,a1,a2⟩;dsimp only at a1 a2 ⊢;refine Gj (IL (bin _ (λt o lo hi hn Q q1 q2 q3=>by
    dsimp only;by_cases c:lo ≥ hi
    ·rw [if_pos c];exact Gv (q1 c)
    ·rw [if_neg c];refine Gj (bey _ (by omega) _ ?_);by_cases m:lo + (hi - lo) / 2 < k
     ·rw [decide_eq_true m];exact Gv (q2 (by omega) m)
     ·rw [decide_eq_false m];exact Gv (q3 (by omega) (by omega))) (hint + la + 1) (hint + min of (n - hint)) (by omega) (by omega) (by omega)) ?_)
   rintro ⟨o,lo,hi⟩ st' ⟨rfl,rfl,b1⟩;dsimp only at b1 ⊢;rw [b1];exact Gv q
 ·rw [decide_eq_false c];dsimp only;rw [if_neg (by decide)];refine Gj (IL (Hq (λt c st'=>st'=st/\c.1=none/\c.2.1<=hint/\k<=hint - c.2.1/\c.2.1 < c.2.2/\t + 1<=c.2.2) (Q:=λc st'=>st'=st/\c.1=none/\k<=hint - c.2.1/\(hint + 1<=c.2.2\/hint - c.2.2 < k)) ?_ ?_ ⟨rfl,rfl,by dsimp only;omega,by dsimp only;omega,by dsimp only;omega,by dsimp only;omega⟩) ?_)
  ·rintro t ⟨o,la,of⟩ st' _ ht ⟨rfl,rfl,a0,a1,a2,a3⟩;dsimp only at a0 a1 a2 a3 ⊢;by_cases c:of ≥ hint + 1
   ·rw [if_pos c];exact Gv ⟨rfl,rfl,a1,.inl c⟩
   ·rw [if_neg c];refine Gj (bey _ (by omega) _ ?_);by_cases m:hint - of < k
    ·rw [decide_eq_true m];exact Gv ⟨rfl,rfl,a1,.inr m⟩
    ·rw [decide_eq_false m];exact Gv ⟨rfl,rfl,by dsimp only;omega,by dsimp only;omega,by dsimp only;omega,by dsimp only;omega⟩
  ·rintro ⟨o,la,of⟩ st' ⟨rfl,rfl,a0,a1,a2,a3⟩;dsimp only at a0 a1 a2 a3;exact ⟨rfl,rfl,a1,.inl (by dsimp only;omega)⟩
  ·rintro ⟨o,la,of⟩ st' ⟨rfl,rfl,a1,a2⟩;dsimp only at a1 a2 ⊢;refine Gj (IL (bin _ (λt o lo hi hn Q q1 q2 q3=>by
    dsimp only;by_cases c:lo ≥ hi
    ·rw [if_pos c];exact Gv (q1 c)
    ·rw [if_neg c];refine Gj (bey _ (by omega) _ ?_);by_cases m:lo + (hi - lo) / 2 < k
     ·rw [decide_eq_true m];exact Gv (q2 (by omega) m)
     ·rw [decide_eq_false m];exact Gv (q3 (by omega) (by omega))) (hint + 1 - min of (hint + 1)) (hint - la) (by omega) (by omega) (by omega)) ?_)
   rintro ⟨o,lo,hi⟩ st' ⟨rfl,rfl,b1⟩;dsimp only at b1 ⊢;rw [b1];exact Gv q
end
end S6
namespace S6
structure MI {α:Type}(r:α->α->Prop) (la lb out:List α) (ia ib:Nat):Prop where
 up:out.Pairwise r
 pm:out.Perm (la.take ia++lb.take ib)
 a:∀x∈out,∀y∈la.drop ia,r x y
 b:∀x∈out,∀y∈lb.drop ib,r x y
section
variable {α:Type}{r:α->α->Prop}{la lb out:List α}{ia ib k:Nat}
theorem MI.swap (m:MI r la lb out ia ib):MI r lb la out ib ia:=⟨m.up,m.pm.trans Iv,m.b,m.a⟩
theorem MI.pushA (m:MI r la lb out ia ib) (u:la.Pairwise r) (hc:∀x∈(la.drop ia).take k,∀y∈lb.drop ib,r x y):MI r la lb (out++(la.drop ia).take k) (ia + k) ib:=by
 have ud:(la.drop ia).Pairwise r:=u.sublist (Ie _ _);have sp:la.drop ia=(la.drop ia).take k++la.drop (ia + k):=by rw [<-Lp,Hr]
 rw [sp] at ud;obtain ⟨u1,u2,u3⟩:=Hx.mp ud;refine ⟨Hx.mpr ⟨m.up,u1,λx hx y hy=>m.a x hx y (JI hy)⟩,?_,λx hx y hy=>?_,λx hx y hy=>?_⟩
 ·rw [List.take_add,G2];exact (m.pm.append_right _).trans (by rw [G2];exact KG _ Iv)
 ·rcases Hf.mp hx with h | h
  ·exact m.a x h y (by rw [sp];exact G1 _ hy)
  ·exact u3 x h y hy
 ·rcases Hf.mp hx with h | h
  ·exact m.b x h y hy
  ·exact hc x h y hy
theorem MI.pushB (m:MI r la lb out ia ib) (u:lb.Pairwise r) (hc:∀x∈(lb.drop ib).take k,∀y∈la.drop ia,r x y):MI r la lb (out++(lb.drop ib).take k) ia (ib + k):=(m.swap.pushA u hc).swap
theorem take_one {l:List α}{i:Nat}{x:α}(h:l[i]?=some x):(l.drop i).take 1=[x]:=by obtain ⟨h1,h2⟩:=GC.mp h;rw [Io h1,h2];rfl
theorem MI.oneA {x:α}(m:MI r la lb out ia ib) (u:la.Pairwise r) (h:la[ia]?=some x) (hc:∀y∈lb.drop ib,r x y):MI r la lb (out++[x]) (ia + 1) ib:=by
 have:=m.pushA (k:=1) u (by rw [take_one h];intro z hz;rw [G5.mp hz];exact hc)
 rwa [take_one h] at this
theorem MI.oneB {x:α}(m:MI r la lb out ia ib) (u:lb.Pairwise r) (h:lb[ib]?=some x) (hc:∀y∈la.drop ia,r x y):MI r la lb (out++[x]) ia (ib + 1):=(m.swap.oneA u h hc).swap
theorem MI.join (m:MI r la lb out ia ib) (ua:la.Pairwise r) (ub:lb.Pairwise r) (h:∀x∈lb.drop ib,∀y∈la.drop ia,r x y):(out++lb.drop ib++la.drop ia).Pairwise r/\(out++lb.drop ib++la.drop ia).Perm (la++lb):=by
 refine ⟨Hx.mpr ⟨Hx.mpr ⟨m.up,ub.sublist (Ie _ _),m.b⟩,ua.sublist (Ie _ _),λx hx y hy=>?_⟩,?_⟩
 ·rcases Hf.mp hx with q | q
  ·exact m.a x q y hy
  ·exact h x q y hy
 ·have e:(la++lb).Perm ((la.take ia++lb.take ib)++(lb.drop ib++la.drop ia)):=by
   have p1:(la++lb)=(la.take ia++la.drop ia)++(lb.take ib++lb.drop ib):=by rw [Hr,Hr]
   rw [p1,G2,G2];refine KG _ ?_;rw [<-G2,<-G2];exact (Iv.append_right _).trans (by rw [G2,G2];exact KG _ Iv)
  rw [G2];exact (m.pm.append_right _).trans e.symm
theorem fD {l:List α}(ht:∀{x y z:α},r x y->r y z->r x z) (u:l.Pairwise r){i:Nat}{x:α}(h:l[i]?=some x){z:α}(hz:r z x):∀y∈l.drop i,r z y:=by
 obtain ⟨h1,h2⟩:=GC.mp h;have ud:(l.drop i).Pairwise r:=u.sublist (Ie _ _);rw [Io h1,h2] at ud ⊢;intro y hy;rcases Gz.mp hy with rfl | hy
 ·exact hz
 ·exact ht hz ((Iz.mp ud).1 y hy)
end
theorem jS {α:Type}(rk:α->Nat) (y:Nat):∀{l:List α},l.Pairwise (λa b=>rk a < rk b)->∃k,k<=l.length/\∀i x,l[i]?=some x->(rk x < y↔i < k)
 | [],_=>⟨0,Gm _,λi x h=>by simp at h⟩
 | z::l,u=>by
  obtain ⟨u1,u2⟩:=Iz.mp u;by_cases c:rk z < y
  ·obtain ⟨k,h1,h2⟩:=jS rk y u2;refine ⟨k + 1,by simpa using h1,λi x h=>?_⟩;cases i with
   | zero=>cases h;exact ⟨λ_=>Nat.succ_pos _,λ_=>c⟩
   | succ i=>rw [h2 i x h];omega
  ·refine ⟨0,Hh _,λi x h=>⟨λq=>?_,λq=>absurd q (Ke _)⟩⟩;cases i with
   | zero=>cases h;exact absurd q c
   | succ i=>
    have:=u1 x (GV (show l[i]?=some x from h));omega
end S6
namespace S6
open PySem PySem.Spec PyProof.Rows L2 DL
def Kg (st st':HH):Prop:=kindOf st'=kindOf st/\H_ st'=H_ st/\LA st'=LA st/\Kw st'=Kw st
theorem Kg.refl (st:HH):Kg st st:=⟨rfl,rfl,rfl,rfl⟩
def Good (rk:GJ->Nat) (a b r:Array GJ):Prop:=r.toList.Pairwise (λx y=>rk x < rk y)/\r.toList.Perm (a.toList++b.toList)
theorem iz (a:Array GJ) (i k:Nat):(a.extract i (i + k)).toList=(a.toList.drop i).take k:=by rw [HY];show (a.toList.drop i).take (i + k - i)=_;rw [Nat.add_sub_cancel_left]
theorem jm (a:Array GJ) (i:Nat):(a.extract i).toList=a.toList.drop i:=by rw [HY];show (a.toList.drop i).take (a.size - i)=_;rw [IM (by simp)]
section
variable {prog:GG}{w:Hi}{A:G3}{E:Ge->Gf->Prop}{s:Gf}{κ:Ip}{its:GJ->Prop}{rk:GJ->Nat}{a b:Array GJ}
structure wD (its:GJ->Prop) (rk:GJ->Nat) (a b:Array GJ):Prop where
 ia:∀x∈a.toList,its x
 ib:∀x∈b.toList,its x
 ua:a.toList.Pairwise λx y=>rk x < rk y
 ub:b.toList.Pairwise λx y=>rk x < rk y
 dj:∀x∈a.toList,∀y∈b.toList,rk x≠rk y
 na:1<=a.size
 nb:1<=b.size
 fst:∀y,b[0]?=some y->∀x∈a.toList,rk y < rk x
 lst:∀x,a[a.size - 1]?=some x->∀y∈b.toList,rk y < rk x
abbrev rL (rk:GJ->Nat):GJ->GJ->Prop:=λx y=>rk x < rk y
theorem vS {x y z:GJ}(h:rL rk x y) (h2:rL rk y z):rL rk x z:=Jj h h2
theorem fc {a:Array GJ}{i:Nat}(h:i < a.size):∃x,a[i]?=some x/\a.toList[i]?=some x/\x∈a.toList:=⟨a[i],Lq h,by simp [h],by simp⟩
theorem qe (O:jO prog w A E s κ its rk){left:Bool}{a:Array GJ}{i:Nat}{y:GJ}{st:HH}{Q:Option Nat->HH->Prop}(hk:kindOf st=κ) (hy:its y) (ha:∀x∈a.toList,its x) (ua:a.toList.Pairwise λx y=>rk x < rk y) (dj:∀x∈a.toList,rk x≠rk y) (hi:i < a.size)
  (q:∀k,i + k<=a.size->(∀x∈(a.toList.drop i).take k,rk x < rk y)->(∀x∈a.toList.drop (i + k),rk y < rk x)->Q (some k) st):wpS (GD prog w) A E s (qd left y a i (a.size - i) 0) Q st:=by
 obtain ⟨k,h1,h2⟩:=jS rk (rk y) (ua.sublist (Ie i _));have hl:k<=a.size - i:=by simpa using h1
 refine mF O (k:=k) hk hy (by omega) hl (λj hj=>?_) (q k (by omega) (λx hx=>?_) λx hx=>?_)
 ·obtain ⟨x,e1,e2,e3⟩:=fc (a:=a) (i:=i + j) (by omega);have e4:=h2 j x (by rw [Ju];exact e2);have e5:=dj x e3;exact ⟨x,e1,ha x e3,e4,by omega⟩
 ·obtain ⟨j,hj,e⟩:=GY.mp hx;have hj':j < k:=by rw [GU] at hj;omega
  exact (h2 j x (by rw [<-e,IG];exact Gr _)).mpr hj'
 ·obtain ⟨j,hj,e⟩:=GY.mp hx;have:=h2 (k + j) x (by rw [<-e,Ju,II,<-Nat.add_assoc];exact Gr _);have e5:=dj x (HZ hx);omega
theorem Bd (O:jO prog w A E s κ its rk) (T:wD its rk a b){st:HH}{Q:Array GJ->HH->Prop}(hk:kindOf st=κ) (q:∀r st',Kg st st'->Good rk a b r->Q r st'):wpS (GD prog w) A E s (Ep a b) Q st:=by
 obtain ⟨y0,b0,b0',b0m⟩:=fc T.nb;have m0:MI (rL rk) a.toList b.toList [y0] 0 1:=by have:MI (rL rk) a.toList b.toList [] 0 0:=⟨JD,My _,λ_ h=>(nomatch h),λ_ h=>(nomatch h)⟩;exact this.oneB T.ub b0' λy hy=>T.fst y0 b0 y hy
 have dn:∀(out:Array GJ) (ia ib:Nat),MI (rL rk) a.toList b.toList out.toList ia ib->ib=b.size->Good rk a b (out++a.extract ia++b.extract ib):=λout ia ib m e=>by
  have:=m.swap.join T.ub T.ua λx _ y hy=>by rw [e,List.drop_of_length_le (by rw [GB];exact Gm _)] at hy;cases hy
  unfold Good;rw [GI,GI,jm,jm];exact ⟨this.1,this.2.trans Iv⟩
 have la:∀(out:Array GJ) (ia ib:Nat),MI (rL rk) a.toList b.toList out.toList ia ib->ia + 1=a.size->Good rk a b (out++b.extract ib++a.extract ia):=λout ia ib m e=>by
  obtain ⟨x,x1,x2,x3⟩:=fc (a:=a) (i:=ia) (by omega);have:=m.join T.ua T.ub λy hy z hz=>by have e1:a.toList.drop ia=[x]:=(IM (by rw [IA,GB];omega)).symm.trans (take_one x2);rw [e1] at hz;rw [G5.mp hz];exact T.lst x (by rw [show a.size - 1=ia by omega];exact x1) y (HZ hy)
  unfold Good;rw [GI,GI,jm,jm];exact this
 refine Gj (LJ (Jr ⟨rfl,Gj (bM b0 ?_)⟩));dsimp only;by_cases c1:b.size=1
 ·rw [if_pos (by simp [c1])];exact Gv (q _ _ (Kg.refl st) (dn #[y0] 0 1 m0 c1.symm))
 rw [if_neg (by simp;omega)];by_cases c2:a.size=1
 ·rw [if_pos (by simp [c2])];exact Gv (q _ _ (Kg.refl st) (la #[y0] 0 1 m0 c2.symm))
 rw [if_neg (by simp;omega)];have na:=T.na;have nb:=T.nb;refine Gj (JQ (Gj (IL (Hq (λt c st'=>Kg st st'/\c.1=none/\MI (rL rk) a.toList b.toList c.2.1.toList c.2.2.1 c.2.2.2.1/\c.2.2.1 + 1 < a.size/\c.2.2.2.1 < b.size/\1 + t<=c.2.2.1 + c.2.2.2.1) (Q:=λc st'=>Kg st st'/\∃r,c.1=some r/\Good rk a b r) ?_ ?_ ⟨Kg.refl st,rfl,m0,by dsimp only;omega,by dsimp only;omega,by dsimp only;omega⟩) ?_)))
 ·rintro t ⟨o,out,ia,ib,mg⟩ st1 _ ht ⟨k1,rfl,m1,l1,l2,l3⟩;dsimp only at m1 l1 l2 l3 ⊢;refine Gj (IL (Hq (λt c st'=>Kg st st'/\c.1=none/\MI (rL rk) a.toList b.toList c.2.1.toList c.2.2.1 c.2.2.2.1/\c.2.2.1 + 1 < a.size/\c.2.2.2.1 < b.size/\ia + ib + t<=c.2.2.1 + c.2.2.2.1) (Q:=λc st'=>Kg st st'/\((∃r,c.1=some r/\Good rk a b r)\/(c.1=none/\MI (rL rk) a.toList b.toList c.2.1.toList c.2.2.1 c.2.2.2.1/\c.2.2.1 + 1 < a.size/\c.2.2.2.1 < b.size/\ia + ib < c.2.2.1 + c.2.2.2.1))) ?_ ?_ ⟨k1,rfl,m1,l1,l2,by dsimp only;omega⟩) ?_)
  ·rintro t ⟨o,out,ia',ib',ac,bc⟩ st2 _ ht ⟨k2,rfl,m2,j1,j2,j3⟩;dsimp only at m2 j1 j2 j3 ⊢;obtain ⟨y,y1,y2,y3⟩:=fc (a:=b) j2;obtain ⟨x,x1,x2,x3⟩:=fc (a:=a) (i:=ia') (by omega);refine Gj (bM y1 (Gj (bM x1 (Gj (O y x (T.ib y y3) (T.ia x x3) _ _ (k2.1.trans hk) ?_)))));by_cases c:rk y < rk x
   ·rw [decide_eq_true c];refine Gj (bM y1 ?_);have m3:MI (rL rk) a.toList b.toList (out.push y).toList ia' (ib' + 1):=by rw [Ih];exact m2.oneB T.ub y2 (fD (r:=rL rk) (z:=y) vS T.ua x2 c)
    by_cases e:ib' + 1=b.size
    ·rw [if_pos (by simp [e])];exact Gv ⟨k2,.inl ⟨_,rfl,dn _ _ _ m3 e⟩⟩
    ·rw [if_neg (by simp;omega)];by_cases g:bc + 1 ≥ mg
     ·rw [if_pos g];exact Gv ⟨k2,.inr ⟨rfl,m3,j1,by dsimp only;omega,by dsimp only;omega⟩⟩
     ·rw [if_neg g];exact Gv ⟨k2,rfl,m3,j1,by dsimp only;omega,by dsimp only;omega⟩
   ·rw [decide_eq_false c];refine Gj (bM x1 ?_);have m3:MI (rL rk) a.toList b.toList (out.push x).toList (ia' + 1) ib':=by rw [Ih];exact m2.oneA T.ua x2 (fD (r:=rL rk) (z:=x) vS T.ub y2 (by have:=T.dj x x3 y y3;show rk x < rk y;omega))
    by_cases e:ia' + 1 + 1=a.size
    ·rw [if_pos (by simp [e])];exact Gv ⟨k2,.inl ⟨_,rfl,la _ _ _ m3 e⟩⟩
    ·rw [if_neg (by simp;omega)];by_cases g:ac + 1 ≥ mg
     ·rw [if_pos g];exact Gv ⟨k2,.inr ⟨rfl,m3,by dsimp only;omega,j2,by dsimp only;omega⟩⟩
     ·rw [if_neg g];exact Gv ⟨k2,rfl,m3,by dsimp only;omega,j2,by dsimp only;omega⟩
  ·rintro ⟨o,out,ia',ib',ac,bc⟩ st2 ⟨k2,rfl,m2,j1,j2,j3⟩;dsimp only at m2 j1 j2 j3;omega
  ·rintro ⟨o,out,ia',ib',ac,bc⟩ st2 ⟨k2,h⟩;dsimp only at h ⊢;rcases h with ⟨r,rfl,g⟩ | ⟨rfl,m2,j1,j2,j3⟩
   ·exact Gv ⟨k2,r,rfl,g⟩
   dsimp only;refine Gj (LJ (Jr ⟨rfl,?_⟩));refine Gj (IL (Hq (λt c st'=>Kg st st'/\c.1=none/\MI (rL rk) a.toList b.toList c.2.1.toList c.2.2.1 c.2.2.2.1/\c.2.2.1 + 1 < a.size/\c.2.2.2.1 < b.size/\ia' + ib' + t<=c.2.2.1 + c.2.2.2.1) (Q:=λc st'=>Kg st st'/\((∃r,c.1=some r/\Good rk a b r)\/(c.1=none/\MI (rL rk) a.toList b.toList c.2.1.toList c.2.2.1 c.2.2.2.1/\c.2.2.1 + 1 < a.size/\c.2.2.2.1 < b.size/\ia' + ib'<=c.2.2.1 + c.2.2.2.1))) ?_ ?_ ⟨k2,rfl,m2,j1,j2,by dsimp only;omega⟩) ?_)
   ·rintro t ⟨o,out,ia,ib,mg,ac,bc⟩ st3 _ ht ⟨k3,rfl,m3,i1,i2,i3⟩;dsimp only at m3 i1 i2 i3 ⊢;obtain ⟨y,y1,y2,y3⟩:=fc (a:=b) i2;by_cases g:mg > 1
    all_goals first | rw [if_pos g] | rw [if_neg g]
    all_goals
     refine Gj (IT (Gj (bM y1 (Gj (qe O (left:=false) (y:=y) (k3.1.trans hk) (T.ib y y3) T.ia T.ua (λx hx=>T.dj x hx y y3) (by omega) λk d1 d2 d3=>?_)))));have kl:ia + k + 1<=a.size:=by
      refine Nat.lt_of_le_of_ne d1 λe=>?_;obtain ⟨x,x1,x2,x3⟩:=fc (a:=a) (i:=a.size - 1) (by omega);have h1:=T.lst x x1 y y3;have h2:=d2 x (by
       rw [List.mem_take_iff_getElem];refine ⟨a.size - 1 - ia,by simp;omega,?_⟩;rw [II];have:=GC.mp x2;obtain ⟨p1,p2⟩:=this;rw [<-p2];congr 1;omega)
      omega
     have m4:MI (rL rk) a.toList b.toList (out++a.extract ia (ia + k)).toList (ia + k) ib:=by rw [GI,iz];exact m3.pushA T.ua λx hx z hz=>fD (r:=rL rk) (z:=x) vS T.ub y2 (d2 x hx) z hz
     obtain ⟨out5,e5⟩:∃o,o=out++a.extract ia (ia + k):=⟨_,rfl⟩;obtain ⟨ia5,h5⟩:∃i,i=ia + k:=⟨_,rfl⟩;rw [<-e5,<-h5] at m4;rw [<-h5] at d3 kl;dsimp only;by_cases e:ia5 + 1=a.size
     ·rw [if_pos (by omega),<-e5,<-h5,if_pos (by simp [e])];exact Gv ⟨k3,.inl ⟨_,rfl,la _ _ _ m4 e⟩⟩
     by_cases kz:k > 0
     all_goals first | rw [if_pos kz,<-e5,<-h5,if_neg (by simp;omega),if_neg (by simp;omega)] | rw [if_neg kz,show out=out5 from Jo.mp (by rw [e5,GI,iz,show k=0 by omega,Lr,HL]),show ia=ia5 by omega]
     all_goals
      refine Gj (bM y1 ?_);have m6:MI (rL rk) a.toList b.toList (out5.push y).toList ia5 (ib + 1):=by rw [Ih];exact m4.oneB T.ub y2 d3
      by_cases e6:ib + 1=b.size
      ·rw [if_pos (by simp [e6])];exact Gv ⟨k3,.inl ⟨_,rfl,dn _ _ _ m6 e6⟩⟩
      rw [if_neg (by simp;omega)];obtain ⟨x,x1,x2,x3⟩:=fc (a:=a) (i:=ia5) (by omega);refine Gj (bM x1 (Gj (qe O (left:=true) (y:=x) (k3.1.trans hk) (T.ia x x3) T.ib T.ub (λz hz=>(T.dj x x3 z hz).symm) (by omega) λj f1 f2 f3=>?_)));have m7:MI (rL rk) a.toList b.toList (out5.push y++b.extract (ib + 1) (ib + 1 + j)).toList ia5 (ib + 1 + j):=by rw [GI,iz];exact m6.pushB T.ub λz hz u hu=>fD (r:=rL rk) (z:=z) vS T.ua x2 (f2 z hz) u hu
      obtain ⟨out7,e7⟩:∃o,o=out5.push y++b.extract (ib + 1) (ib + 1 + j):=⟨_,rfl⟩;obtain ⟨ib7,h7⟩:∃i,i=ib + 1 + j:=⟨_,rfl⟩;rw [<-e7,<-h7] at m7;rw [<-h7] at f3;dsimp only;by_cases e8:ib7=b.size
      ·rw [if_pos (by omega),<-e7,<-h7,if_pos (by simp [e8])];exact Gv ⟨k3,.inl ⟨_,rfl,dn _ _ _ m7 e8⟩⟩
      by_cases jz:j > 0
      all_goals first | rw [if_pos jz,<-e7,<-h7,if_neg (by simp;omega)] | rw [if_neg jz,show out5.push y=out7 from Jo.mp (by rw [e7,GI,iz,show j=0 by omega,Lr,HL]),show ib + 1=ib7 by omega]
      all_goals
       refine Gj (bM x1 ?_);have m8:MI (rL rk) a.toList b.toList (out7.push x).toList (ia5 + 1) ib7:=by rw [Ih];exact m7.oneA T.ua x2 f3
       by_cases e9:ia5 + 1 + 1=a.size
       ·rw [if_pos (by simp [e9])];exact Gv ⟨k3,.inl ⟨_,rfl,la _ _ _ m8 e9⟩⟩
       rw [if_neg (by simp;omega)];by_cases gg:(decide (k < 7) && decide (j < 7))=true
       ·rw [if_pos gg];exact Gv ⟨k3,.inr ⟨rfl,m8,by dsimp only;omega,by dsimp only;omega,by dsimp only;omega⟩⟩
       ·rw [if_neg gg];exact Gv ⟨k3,rfl,m8,by dsimp only;omega,by dsimp only;omega,by dsimp only;omega⟩
   ·rintro ⟨o,out,ia,ib,mg,ac,bc⟩ st3 ⟨k3,rfl,m3,i1,i2,i3⟩;dsimp only at m3 i1 i2 i3;omega
   ·rintro ⟨o,out,ia,ib,mg,ac,bc⟩ st3 ⟨k3,h⟩;dsimp only at h ⊢;rcases h with ⟨r,rfl,g⟩ | ⟨rfl,m3,i1,i2,i3⟩
    ·exact Gv ⟨k3,r,rfl,g⟩
    dsimp only;exact Gj (IT (Gv ⟨k3,rfl,m3,i1,i2,by dsimp only;omega⟩))
 ·rintro ⟨o,out,ia,ib,mg⟩ st1 ⟨k1,rfl,m1,l1,l2,l3⟩;dsimp only at m1 l1 l2 l3;omega
 ·rintro ⟨o,out,ia,ib,mg⟩ st1 ⟨k1,r,e,g⟩;dsimp only at e;subst e;exact Gv (q r st1 k1 g)
abbrev rG (rk:GJ->Nat):GJ->GJ->Prop:=λx y=>rk y < rk x
theorem yN {x y z:GJ}(h:rG rk x y) (h2:rG rk y z):rG rk x z:=Jj h2 h
theorem dR {a:Array GJ}{n:Nat}(h:n<=a.size):a.toList.reverse.drop (a.size - n)=(a.toList.take n).reverse:=by rw [List.drop_reverse,GB,show a.size - (a.size - n)=n by omega]
theorem pS {a:Array GJ}{n:Nat}(h0:0 < n) (h:n<=a.size):∃x,a[n - 1]?=some x/\a.toList.reverse[a.size - n]?=some x/\x∈a.toList:=by obtain ⟨x,h1,h2,h3⟩:=fc (a:=a) (i:=n - 1) (by omega);refine ⟨x,h1,?_,h3⟩;rw [List.getElem?_reverse (by rw [GB];omega),GB,show a.size - 1 - (a.size - n)=n - 1 by omega];exact h2
theorem kL (a:Array GJ) (n:Nat):(a.extract 0 n).toList=a.toList.take n:=by rw [HY];show (a.toList.drop 0).take (n - 0)=_;rw [Js,Nat.sub_zero]
theorem h_ {a:Array GJ}{k n:Nat}(h:n<=a.size) (hk:k<=n):((a.extract k n).reverse).toList=(a.toList.reverse.drop (a.size - n)).take (n - k):=by rw [Jc,HY,dR h];show ((a.toList.drop k).take (n - k)).reverse=_;rw [List.take_reverse,Ls,GU,GB,show min n a.size - (n - k)=k by omega]
theorem Aj {α:Type}{c:Prop} [Decidable c] {m1 m2:SM α}{Q:α->HH->Prop}{st:HH}(h1:wpS (GD prog w) A E s m1 Q st) (h2:wpS (GD prog w) A E s m2 Q st):wpS (GD prog w) A E s (if c then m1 else m2) Q st:=by
 split
 ·exact h1
 ·exact h2
theorem rR (O:jO prog w A E s κ its rk){left:Bool}{a:Array GJ}{n:Nat}{y:GJ}{st:HH}{Q:Option Nat->HH->Prop}(hk:kindOf st=κ) (hy:its y) (ha:∀x∈a.toList,its x) (ua:a.toList.Pairwise λx y=>rk x < rk y) (dj:∀x∈a.toList,rk x≠rk y) (h0:0 < n) (hn:n<=a.size)
  (q:∀k,k<=n->(∀x∈a.toList.take k,rk x < rk y)->(∀x∈(a.toList.take n).drop k,rk y < rk x)->Q (some k) st):wpS (GD prog w) A E s (qd left y a 0 n (n - 1)) Q st:=by
 obtain ⟨k,h1,h2⟩:=jS rk (rk y) (ua.sublist (JC n _));have hl:k<=n:=by rw [GU] at h1;omega
 have hx:∀j x,j < n->a.toList[j]?=some x->(rk x < rk y↔j < k):=λj x hj e=>h2 j x (by rw [HA hj];exact e);refine mF O (k:=k) hk hy (by omega) hl (λj hj=>?_) (q k hl (λx hx'=>?_) λx hx'=>?_)
 ·obtain ⟨x,e1,e2,e3⟩:=fc (a:=a) (i:=j) (by omega);have e4:=hx j x hj e2;have e5:=dj x e3;exact ⟨x,by rw [Ll];exact e1,ha x e3,e4,by omega⟩
 ·obtain ⟨j,hj,e⟩:=GY.mp hx';have hj':j < k:=by rw [GU] at hj;omega
  exact (hx j x (by omega) (by rw [<-e,IG];exact Gr _)).mpr hj'
 ·obtain ⟨j,hj,e⟩:=GY.mp hx';rw [IA,GU] at hj;have:=hx (k + j) x (by omega) (by rw [<-e,II,IG];exact Gr _);have e5:=dj x (JI (HZ hx'));omega
theorem Bc (O:jO prog w A E s κ its rk) (T:wD its rk a b){st:HH}{Q:Array GJ->HH->Prop}(hk:kindOf st=κ) (q:∀r st',Kg st st'->Good rk a b r->Q r st'):wpS (GD prog w) A E s (Eo a b) Q st:=by
 have na:=T.na;have nb:=T.nb;have ua:a.toList.reverse.Pairwise (rG rk):=KH.mpr T.ua;have ub:b.toList.reverse.Pairwise (rG rk):=KH.mpr T.ub;obtain ⟨x0,a0,a0',a0m⟩:=pS (a:=a) (n:=a.size) (by omega) (Gm _);have m0:MI (rG rk) a.toList.reverse b.toList.reverse [x0] (a.size - (a.size - 1)) (b.size - b.size):=by have:MI (rG rk) a.toList.reverse b.toList.reverse [] (a.size - a.size) (b.size - b.size):=⟨JD,by rw [O6,O6];exact My _,λ_ h=>(nomatch h),λ_ h=>(nomatch h)⟩;have h:=this.oneA ua a0' λy hy=>T.lst x0 a0 y (IU.mp (HZ hy));rw [show a.size - (a.size - 1)=a.size - a.size + 1 by omega];exact h
 have gd:∀(l:List GJ) (r:Array GJ),l.Pairwise (rG rk)->l.Perm (a.toList.reverse++b.toList.reverse)->r.toList=l.reverse->Good rk a b r:=λl r h1 h2 e=>by unfold Good;rw [e];exact ⟨KH.mpr h1,(LB l).trans (h2.trans ((LB _).append (LB _)))⟩
 have dn:∀(out:Array GJ) (na nb:Nat),MI (rG rk) a.toList.reverse b.toList.reverse out.toList (a.size - na) (b.size - nb)->na=0->nb<=b.size->Good rk a b (a.extract 0 na++b.extract 0 nb++out.reverse):=λout na nb m e hb=>by
  have:=m.join ua ub λx _ y hy=>by rw [dR (by omega),e] at hy;cases hy
  rw [dR hb,dR (a:=a) (n:=na) (by omega)] at this;refine gd _ _ this.1 this.2 ?_;rw [GI,GI,kL,kL,Jc];simp
 have fb:∀(out:Array GJ) (na nb:Nat),MI (rG rk) a.toList.reverse b.toList.reverse out.toList (a.size - na) (b.size - nb)->nb=1->na<=a.size->Good rk a b (b.extract 0 nb++a.extract 0 na++out.reverse):=λout na nb m e ha=>by
  obtain ⟨y,y1,y2,y3⟩:=fc (a:=b) (i:=0) (by omega);have:=m.swap.join ub ua λx hx z hz=>by rw [dR (by omega),e] at hz;have e1:b.toList.take 1=[y]:=take_one y2;rw [e1] at hz;rw [G5.mp (IU.mp hz)];exact T.fst y y1 x (IU.mp (HZ hx))
  rw [dR ha,dR (a:=b) (n:=nb) (by omega)] at this;refine gd _ _ this.1 (this.2.trans Iv) ?_;rw [GI,GI,kL,kL,Jc];simp
 refine Gj (LJ (Jr ⟨rfl,Gj (bM a0 ?_)⟩));by_cases c1:a.size=1
 ·rw [if_pos (by simp [c1])];exact Gv (q _ _ (Kg.refl st) (dn #[x0] _ _ m0 (by omega) (Gm _)))
 rw [if_neg (by simp;omega)];by_cases c2:b.size=1
 ·rw [if_pos (by simp [c2])];exact Gv (q _ _ (Kg.refl st) (fb #[x0] _ _ m0 c2 (by omega)))
 rw [if_neg (by simp;omega)];refine Gj (JQ (Gj (IL (Hq (λt c st'=>Kg st st'/\c.1=none/\MI (rG rk) a.toList.reverse b.toList.reverse c.2.2.2.1.toList (a.size - c.2.1) (b.size - c.2.2.1)/\0 < c.2.1/\c.2.1<=a.size/\1 < c.2.2.1/\c.2.2.1<=b.size/\1 + t + c.2.1 + c.2.2.1<=a.size + b.size) (Q:=λc st'=>Kg st st'/\∃r,c.1=some r/\Good rk a b r) ?_ ?_ ⟨Kg.refl st,rfl,m0,by dsimp only;omega,by dsimp only;omega,by dsimp only;omega,by dsimp only;omega,by dsimp only;omega⟩) ?_)))
 ·rintro t ⟨o,na,nb,out,mg⟩ st1 _ ht ⟨k1,rfl,m1,l1,l2,l3,l4,l5⟩;dsimp only at m1 l1 l2 l3 l4 l5 ⊢;refine Gj (IL (Hq (λt c st'=>Kg st st'/\c.1=none/\MI (rG rk) a.toList.reverse b.toList.reverse c.2.2.2.1.toList (a.size - c.2.1) (b.size - c.2.2.1)/\0 < c.2.1/\c.2.1<=a.size/\1 < c.2.2.1/\c.2.2.1<=b.size/\t + c.2.1 + c.2.2.1<=na + nb) (Q:=λc st'=>Kg st st'/\((∃r,c.1=some r/\Good rk a b r)\/(c.1=none/\MI (rG rk) a.toList.reverse b.toList.reverse c.2.2.2.1.toList (a.size - c.2.1) (b.size - c.2.2.1)/\0 < c.2.1/\c.2.1<=a.size/\1 < c.2.2.1/\c.2.2.1<=b.size/\c.2.1 + c.2.2.1 < na + nb))) ?_ ?_ ⟨k1,rfl,m1,l1,l2,l3,l4,by dsimp only;omega⟩) ?_)
  ·rintro t ⟨o,na',nb',out,ac,bc⟩ st2 _ ht ⟨k2,rfl,m2,j1,j2,j3,j4,j5⟩;dsimp only at m2 j1 j2 j3 j4 j5 ⊢;obtain ⟨y,y1,y2,y3⟩:=pS (a:=b) (n:=nb') (by omega) j4;obtain ⟨x,x1,x2,x3⟩:=pS (a:=a) (n:=na') j1 j2;refine Gj (bM y1 (Gj (bM x1 (Gj (O y x (T.ib y y3) (T.ia x x3) _ _ (k2.1.trans hk) ?_)))));by_cases c:rk y < rk x
   ·rw [decide_eq_true c];refine Gj (bM x1 ?_);have m3:MI (rG rk) a.toList.reverse b.toList.reverse (out.push x).toList (a.size - (na' - 1)) (b.size - nb'):=by rw [Ih,show a.size - (na' - 1)=a.size - na' + 1 by omega];exact m2.oneA ua x2 (fD (r:=rG rk) (z:=x) yN ub y2 c)
    by_cases e:na' - 1=0
    ·rw [if_pos (by simp [e])];exact Gv ⟨k2,.inl ⟨_,rfl,dn _ _ _ m3 e j4⟩⟩
    ·rw [if_neg (by simp;omega)];by_cases g:ac + 1 ≥ mg
     ·rw [if_pos g];exact Gv ⟨k2,.inr ⟨rfl,m3,by dsimp only;omega,by dsimp only;omega,j3,j4,by dsimp only;omega⟩⟩
     ·rw [if_neg g];exact Gv ⟨k2,rfl,m3,by dsimp only;omega,by dsimp only;omega,j3,j4,by dsimp only;omega⟩
   ·rw [decide_eq_false c];refine Gj (bM y1 ?_);have m3:MI (rG rk) a.toList.reverse b.toList.reverse (out.push y).toList (a.size - na') (b.size - (nb' - 1)):=by rw [Ih,show b.size - (nb' - 1)=b.size - nb' + 1 by omega];exact m2.oneB ub y2 (fD (r:=rG rk) (z:=y) yN ua x2 (by have:=T.dj x x3 y y3;show rk x < rk y;omega))
    by_cases e:nb' - 1=1
    ·rw [if_pos (by simp [e])];exact Gv ⟨k2,.inl ⟨_,rfl,fb _ _ _ m3 e j2⟩⟩
    ·rw [if_neg (by simp;omega)];by_cases g:bc + 1 ≥ mg
     ·rw [if_pos g];exact Gv ⟨k2,.inr ⟨rfl,m3,j1,j2,by dsimp only;omega,by dsimp only;omega,by dsimp only;omega⟩⟩
     ·rw [if_neg g];exact Gv ⟨k2,rfl,m3,j1,j2,by dsimp only;omega,by dsimp only;omega,by dsimp only;omega⟩
  ·rintro ⟨o,na',nb',out,ac,bc⟩ st2 ⟨k2,rfl,m2,j1,j2,j3,j4,j5⟩;dsimp only at m2 j1 j2 j3 j4 j5;omega
  ·rintro ⟨o,na',nb',out,ac,bc⟩ st2 ⟨k2,h⟩;dsimp only at h ⊢;rcases h with ⟨r,rfl,g⟩ | ⟨rfl,m2,j1,j2,j3,j4,j5⟩
   ·exact Gv ⟨k2,r,rfl,g⟩
   dsimp only;refine Gj (LJ (Jr ⟨rfl,?_⟩));refine Gj (IL (Hq (λt c st'=>Kg st st'/\c.1=none/\MI (rG rk) a.toList.reverse b.toList.reverse c.2.2.2.1.toList (a.size - c.2.1) (b.size - c.2.2.1)/\0 < c.2.1/\c.2.1<=a.size/\1 < c.2.2.1/\c.2.2.1<=b.size/\t + c.2.1 + c.2.2.1<=na' + nb') (Q:=λc st'=>Kg st st'/\((∃r,c.1=some r/\Good rk a b r)\/(c.1=none/\MI (rG rk) a.toList.reverse b.toList.reverse c.2.2.2.1.toList (a.size - c.2.1) (b.size - c.2.2.1)/\0 < c.2.1/\c.2.1<=a.size/\1 < c.2.2.1/\c.2.2.1<=b.size/\c.2.1 + c.2.2.1<=na' + nb'))) ?_ ?_ ⟨k2,rfl,m2,j1,j2,j3,j4,by dsimp only;omega⟩) ?_)
   ·rintro t ⟨o,na,nb,out,mg,ac,bc⟩ st3 _ ht ⟨k3,rfl,m3,i1,i2,i3,i4,i5⟩;dsimp only at m3 i1 i2 i3 i4 i5 ⊢;obtain ⟨y,y1,y2,y3⟩:=pS (a:=b) (n:=nb) (by omega) i4;by_cases g:mg > 1
    all_goals first | rw [if_pos g] | rw [if_neg g]
    all_goals
     refine Gj (IT (Gj (bM y1 (Gj (rR O (left:=false) (y:=y) (k3.1.trans hk) (T.ib y y3) T.ia T.ua (λx hx=>T.dj x hx y y3) i1 i2 λk d1 d2 d3=>?_)))));have m4:MI (rG rk) a.toList.reverse b.toList.reverse (out++(a.extract k na).reverse).toList (a.size - k) (b.size - nb):=by rw [GI,h_ i2 d1,show a.size - k=a.size - na + (na - k) by omega];refine m3.pushA ua λx hx z hz=>fD (r:=rG rk) (z:=x) yN ub y2 ?_ z hz;rw [<-h_ i2 d1,Jc,HY] at hx;exact d3 x (by rw [Ls];exact IU.mp hx)
     obtain ⟨out5,e5⟩:∃o,o=out++(a.extract k na).reverse:=⟨_,rfl⟩;rw [<-e5] at m4;dsimp only;by_cases e:k=0
     ·rw [if_pos (by omega),<-e5,if_pos (by simp [e])];exact Gv ⟨k3,.inl ⟨_,rfl,dn _ _ _ m4 e i4⟩⟩
     by_cases kz:na - k > 0
     all_goals first | rw [if_pos kz,<-e5,if_neg (by simp;omega)] | rw [if_neg kz,show out=out5 from Jo.mp (by rw [e5,GI,h_ i2 d1,show na - k=0 by omega,Lr,HL]),show na=k by omega]
     all_goals
      refine Gj (bM y1 ?_);have m6:MI (rG rk) a.toList.reverse b.toList.reverse (out5.push y).toList (a.size - k) (b.size - (nb - 1)):=by rw [Ih,show b.size - (nb - 1)=b.size - nb + 1 by omega];refine m4.oneB ub y2 λz hz=>?_;rw [dR (by omega)] at hz;exact d2 z (IU.mp hz)
      by_cases e6:nb - 1=1
      ·rw [if_pos (by simp [e6])];exact Gv ⟨k3,.inl ⟨_,rfl,fb _ _ _ m6 e6 (by omega)⟩⟩
      rw [if_neg (by simp;omega)];obtain ⟨x,x1,x2,x3⟩:=pS (a:=a) (n:=k) (by omega) (by omega);refine Gj (bM x1 (Gj (rR O (left:=true) (y:=x) (k3.1.trans hk) (T.ia x x3) T.ib T.ub (λz hz=>(T.dj x x3 z hz).symm) (by omega) (by omega) λj f1 f2 f3=>?_)));have jl:0 < j:=by
       refine Nat.pos_of_ne_zero λe=>?_;subst e;obtain ⟨z,z1,z2,z3⟩:=fc (a:=b) (i:=0) (by omega);have h1:=T.fst z z1 x x3;have h2:=f3 z (by
        rw [Js];exact GV (i:=0) (by rw [HA (by omega)];exact z2))
       omega
      have m7:MI (rG rk) a.toList.reverse b.toList.reverse (out5.push y++(b.extract j (nb - 1)).reverse).toList (a.size - k) (b.size - j):=by rw [GI,h_ (by omega) f1,show b.size - j=b.size - (nb - 1) + (nb - 1 - j) by omega];refine m6.pushB ub λz hz u hu=>fD (r:=rG rk) (z:=z) yN ua x2 ?_ u hu;rw [<-h_ (by omega) f1,Jc,HY] at hz;exact f3 z (by rw [Ls];exact IU.mp hz)
      obtain ⟨out7,e7⟩:∃o,o=out5.push y++(b.extract j (nb - 1)).reverse:=⟨_,rfl⟩;rw [<-e7] at m7;dsimp only;by_cases e8:j=1
      ·rw [if_pos (by omega),<-e7,if_pos (by simp [e8])];exact Gv ⟨k3,.inl ⟨_,rfl,fb _ _ _ m7 e8 (by omega)⟩⟩
      by_cases jz:nb - 1 - j > 0
      all_goals first | rw [if_pos jz,<-e7,if_neg (by simp;omega),if_neg (by simp;omega)] | rw [if_neg jz,show out5.push y=out7 from Jo.mp (by rw [e7,GI,h_ (by omega) f1,show nb - 1 - j=0 by omega,Lr,HL]),show nb - 1=j by omega]
      all_goals
       refine Gj (bM x1 ?_);have m8:MI (rG rk) a.toList.reverse b.toList.reverse (out7.push x).toList (a.size - (k - 1)) (b.size - j):=by rw [Ih,show a.size - (k - 1)=a.size - k + 1 by omega];refine m7.oneA ua x2 λz hz=>?_;rw [dR (by omega)] at hz;exact f2 z (IU.mp hz)
       by_cases e9:k - 1=0
       ·rw [if_pos (by simp [e9])];exact Gv ⟨k3,.inl ⟨_,rfl,dn _ _ _ m8 e9 (by omega)⟩⟩
       rw [if_neg (by simp;omega)];exact Aj (Gv ⟨k3,.inr ⟨rfl,m8,by dsimp only;omega,by dsimp only;omega,by dsimp only;omega,by dsimp only;omega,by dsimp only;omega⟩⟩) (Gv ⟨k3,rfl,m8,by dsimp only;omega,by dsimp only;omega,by dsimp only;omega,by dsimp only;omega,by dsimp only;omega⟩)
   ·rintro ⟨o,na,nb,out,mg,ac,bc⟩ st3 ⟨k3,rfl,m3,i1,i2,i3,i4,i5⟩;dsimp only at m3 i1 i2 i3 i4 i5;omega
   ·rintro ⟨o,na,nb,out,mg,ac,bc⟩ st3 ⟨k3,h⟩;dsimp only at h ⊢;rcases h with ⟨r,rfl,g⟩ | ⟨rfl,m3,i1,i2,i3,i4,i5⟩
    ·exact Gv ⟨k3,r,rfl,g⟩
    dsimp only;exact Gj (IT (Gv ⟨k3,rfl,m3,i1,i2,i3,i4,by dsimp only;omega⟩))
 ·rintro ⟨o,na,nb,out,mg⟩ st1 ⟨k1,rfl,m1,l1,l2,l3,l4,l5⟩;dsimp only at m1 l1 l2 l3 l4 l5;omega
 ·rintro ⟨o,na,nb,out,mg⟩ st1 ⟨k1,r,e,g⟩;dsimp only at e;subst e;exact Gv (q r st1 k1 g)
end
theorem p7:∀(ms:List GJ) (i j:Nat) (arr:Array GJ),i + j + ms.length<=arr.size->(Mg (λ(a:Array GJ) (x:GJ×Nat)=>match x with | (p,j)=>a.setIfInBounds (i + j) p) arr (ms.zipIdx j)).toList=arr.toList.take (i + j)++ms++arr.toList.drop (i + j + ms.length)
 | [],i,j,arr,_=>by simp
 | m::ms,i,j,arr,h=>by
  rw [LN,K8];rw [JN] at h;show (Mg _ (arr.setIfInBounds (i + j) m) _).toList=_;rw [p7 ms i (j + 1) (arr.setIfInBounds (i + j) m) (by simp;omega),Array.toList_setIfInBounds];rw [show i + (j + 1)=i + j + 1 by omega];have hl:i + j < arr.toList.length:=by simp;omega
  rw [Mv,G_ (by simpa using hl),List.take_set_of_le (Gm _),List.drop_set_of_lt (by omega),JN];simp;congr 1;omega
section
variable {prog:GG}{w:Hi}{A:G3}{E:Ge->Gf->Prop}{s:Gf}{κ:Ip}{its:GJ->Prop}{rk:GJ->Nat}
theorem Al {st st':HH}{Q:PUnit->HH->Prop}(h:Q ⟨⟩ st'):wpS (GD prog w) A E s (set st':SM PUnit) Q st:=Gk ⟨rfl,h⟩
theorem Bb (O:jO prog w A E s κ its rk){arr:Array GJ}{n1 n2 p1 p2 mg:Nat}{Q:Bool->HH->Prop}(hi:∀x∈arr.toList,its x) (hn:arr.size=n1 + n2) (h1:1<=n1) (h2:1<=n2) (u1:(arr.toList.take n1).Pairwise λx y=>rk x < rk y) (u2:(arr.toList.drop n1).Pairwise λx y=>rk x < rk y) (dj:∀x∈arr.toList.take n1,∀y∈arr.toList.drop n1,rk x≠rk y)
  (q:∀st',kindOf st'=κ->Kw st'=none->(LA st').size<=1->(H_ st').toList.Pairwise (λx y=>rk x < rk y)->(H_ st').toList.Perm arr.toList->Q true st'):wpS (GD prog w) A E s (OT 0) Q (HJ κ arr #[(0,n1,p1),(n1,n2,p2)] mg none):=by
 obtain ⟨y,y1,y2,y3⟩:=fc (a:=arr) (i:=n1) (by omega);have yd:(arr.toList.drop n1)[0]?=some y:=by rw [Ju];exact y2
 have ym:=GV yd;obtain ⟨k,k1,k2⟩:=jS rk (rk y) u1;have kl:k<=n1:=by rw [GU] at k1;omega
 have up:∀(st':HH),kindOf st'=κ->Kw st'=none->H_ st'=arr->(LA st').size<=1->(∀x∈arr.toList.take n1,∀z∈arr.toList.drop n1,rk x < rk z)->Q true st':=λst' e1 e2 e3 e4 h=>q st' e1 e2 e4 (by
  rw [e3,<-Hr n1 arr.toList];exact Hx.mpr ⟨u1,u2,h⟩) (by rw [e3])
 have ps:((#[(0,n1,p1),(n1,n2,p2)].setIfInBounds 0 (0,n1 + n2,p1)).eraseIdxIfInBounds (0 + 1)).size<=1:=by simp
 refine Gj (JQ ?_);refine Gj (Al (Gj (bM y1 (Gj (mF O (k:=k) rfl (hi y y3) (by omega) kl (λi hi'=>?_) ?_)))))
 ·obtain ⟨x,x1,x2,x3⟩:=fc (a:=arr) (i:=i) (by omega);have xt:(arr.toList.take n1)[i]?=some x:=by rw [HA hi'];exact x2
  have e:=k2 i x xt;have e5:=dj x (GV xt) y ym;exact ⟨x,by rw [Ll];exact x1,hi x x3,e,by omega⟩
 dsimp only;by_cases e:k=n1
 ·rw [if_pos (by simp [e])];refine Gv (up _ rfl rfl rfl ps λx hx z hz=>?_);obtain ⟨i,hi',ex⟩:=GY.mp hx;have:rk x < rk y:=(k2 i x (by rw [<-ex];exact Gr _)).mpr (by rw [GU] at hi';omega);rcases O7 (rk y) (rk z) with c | c
  ·omega
  ·have:=fD (r:=rL rk) (z:=x) vS u2 yd this z (by rw [Js];exact hz);exact this
 rw [if_neg (by simp;omega)];obtain ⟨x,x1,x2,x3⟩:=fc (a:=arr) (i:=n1 - 1) (by omega);have xt:(arr.toList.take n1)[n1 - 1]?=some x:=by rw [HA (by omega)];exact x2
 have xm:=GV xt;obtain ⟨j,j1,j2⟩:=jS rk (rk x) u2;have jl:j<=n2:=by rw [IA,GB] at j1;omega
 have yx:rk y < rk x:=by have:=k2 (n1 - 1) x xt;have:=dj x xm y ym;omega
 have j0:0 < j:=(j2 0 y yd).mp yx;refine Gj (bM (x:=x) (by rw [show 0 + k + (n1 - k) - 1=n1 - 1 by omega];exact x1) (Gj (mF O (k:=j) rfl (hi x x3) (by omega) jl (λi hi'=>?_) ?_)))
 ·obtain ⟨z,z1,z2,z3⟩:=fc (a:=arr) (i:=n1 + i) (by omega);have zt:(arr.toList.drop n1)[i]?=some z:=by rw [Ju];exact z2
  have e:=j2 i z zt;have e5:=dj x xm z (GV zt);exact ⟨z,z1,hi z z3,e,by omega⟩
 dsimp only;rw [if_neg (by simp;omega)];obtain ⟨X,hX⟩:∃X,X=arr.extract (0 + k) n1:=⟨_,rfl⟩;obtain ⟨Y,hY⟩:∃Y,Y=arr.extract n1 (n1 + j):=⟨_,rfl⟩;have lX:X.toList=(arr.toList.take n1).drop k:=by rw [hX,HY,Ls,Ll]
 have lY:Y.toList=(arr.toList.drop n1).take j:=by rw [hY,iz]
 have sX:X.size=n1 - k:=by rw [<-GB,lX];simp;omega
 have sY:Y.size=j:=by rw [<-GB,lY];simp;omega
 have bX:∀z∈X.toList,rk y < rk z:=λz hz=>by
  rw [lX] at hz;obtain ⟨i,hi',ez⟩:=GY.mp hz;have zt:(arr.toList.take n1)[k + i]?=some z:=by rw [<-ez,II];exact Gr _
  have:=k2 _ z zt;have:=dj z (GV zt) y ym;omega
 have bY:∀z∈Y.toList,rk z < rk x:=λz hz=>by
  rw [lY] at hz;obtain ⟨i,hi',ez⟩:=GY.mp hz;have zt:(arr.toList.drop n1)[i]?=some z:=by rw [<-ez,IG];exact Gr _
  rw [GU] at hi';exact (j2 i z zt).mpr (by omega)
 have mX:∀z∈X.toList,z∈arr.toList.take n1:=λz hz=>by rw [lX] at hz;exact HZ hz
 have mY:∀z∈Y.toList,z∈arr.toList.drop n1:=λz hz=>by rw [lY] at hz;exact JI hz
 have T:wD its rk X Y:=⟨λz hz=>hi z (JI (mX z hz)),λz hz=>hi z (HZ (mY z hz)),by rw [lX];exact u1.sublist (Ie _ _),by rw [lY];exact u2.sublist (JC _ _),λz hz u hu=>dj z (mX z hz) u (mY u hu),by omega,by omega,λz hz u hu=>by
   have:Y.toList[0]?=some z:=by rw [Jy];exact hz
   rw [lY,HA j0,yd] at this;cases this;exact bX u hu,λz hz u hu=>by
   have:X.toList[X.size - 1]?=some z:=by rw [Jy];exact hz
   rw [lX,Ju,sX,show k + (n1 - k - 1)=n1 - 1 by omega,xt] at this;cases this;exact bY u hu⟩
 rw [<-hX,<-hY];have fin:∀(r:Array GJ) (st':HH),Kg (HJ κ arr ((#[(0,n1,p1),(n1,n2,p2)].setIfInBounds 0 (0,n1 + n2,p1)).eraseIdxIfInBounds (0 + 1)) mg none) st'->Good rk X Y r->kindOf st'=κ/\Kw st'=none/\(LA st').size<=1/\(Mg (λ(a:Array GJ) (x:GJ×Nat)=>match x with | (p,j)=>a.setIfInBounds (0 + k + j) p) (H_ st') r.toList.zipIdx).toList.Pairwise (λx y=>rk x < rk y)/\(Mg (λ(a:Array GJ) (x:GJ×Nat)=>match x with | (p,j)=>a.setIfInBounds (0 + k + j) p) (H_ st') r.toList.zipIdx).toList.Perm arr.toList:=λr st' kg g=>by
  obtain ⟨g1,g2⟩:=g;have lr:r.toList.length=n1 - k + j:=by rw [g2.length_eq,GR,GB,GB,sX,sY]
  rw [show H_ st'=arr from kg.2.1,p7 r.toList (0 + k) 0 arr (by omega),lr,show 0 + k + 0 + (n1 - k + j)=n1 + j by omega,show 0 + k + 0=k by omega];refine ⟨kg.1,kg.2.2.2,by rw [show LA st'=_ from kg.2.2.1];exact ps,?_,?_⟩
  ·have mr:∀z∈r.toList,z∈X.toList\/z∈Y.toList:=λz hz=>Hf.mp (g2.mem_iff.mp hz);have a1:∀z∈arr.toList.take k,rk z < rk y/\z∈arr.toList.take n1:=λz hz=>by
    obtain ⟨i,hi',ez⟩:=GY.mp hz;rw [GU] at hi';have zt:(arr.toList.take n1)[i]?=some z:=by rw [HA (by omega),<-ez,IG];exact Gr _
    exact ⟨(k2 i z zt).mpr (by omega),GV zt⟩
   have b2:∀z∈arr.toList.drop (n1 + j),rk x < rk z/\z∈arr.toList.drop n1:=λz hz=>by
    rw [<-Lp] at hz;obtain ⟨i,hi',ez⟩:=GY.mp hz;have zt:(arr.toList.drop n1)[j + i]?=some z:=by rw [<-ez,II];exact Gr _
    have:=j2 _ z zt;have:=dj x xm z (GV zt);exact ⟨by omega,GV zt⟩
   have yB:∀z∈arr.toList.drop n1,rk y<=rk z:=λz hz=>by
    obtain ⟨c,cs⟩:∃c,arr.toList.drop n1=y::c:=by
     cases q:arr.toList.drop n1 with
     | nil=>rw [q] at yd;cases yd
     | cons a c=>rw [q] at yd;cases yd;exact ⟨c,rfl⟩
    rw [cs] at hz u2;rcases Gz.mp hz with rfl | h
    ·exact Gm _
    ·exact Ky ((Iz.mp u2).1 z h)
   have xA:∀z∈arr.toList.take n1,rk z<=rk x:=λz hz=>by
    obtain ⟨i,hi',ez⟩:=GY.mp hz;have hl:(arr.toList.take n1).length=n1:=by simp;omega
    obtain ⟨p1,p2⟩:=GC.mp xt;by_cases c:i=n1 - 1
    ·subst c;rw [<-ez,p2];exact Gm _
    ·rw [<-ez,<-p2];exact Ky (Jb.mp u1 i (n1 - 1) hi' p1 (by omega))
   refine Hx.mpr ⟨Hx.mpr ⟨?_,g1,λz hz u hu=>?_⟩,?_,λz hz u hu=>?_⟩
   ·have:(arr.toList.take k).Sublist (arr.toList.take n1):=by
     have:=JC k (arr.toList.take n1)
     rwa [Om,show min k n1=k by omega] at this
    exact u1.sublist this
   ·have h1:=(a1 z hz).1;rcases mr u hu with h | h
    ·have:=bX u h;omega
    ·have:=yB u (mY u h);omega
   ·rw [<-Lp];exact u2.sublist (Ie _ _)
   ·obtain ⟨c1,c2⟩:=b2 u hu;rcases Hf.mp hz with h | h
    ·have:=(a1 z h).1;omega
    ·rcases mr z h with h | h
     ·have:=xA z (mX z h);omega
     ·have:=bY z h;omega
  ·have e:arr.toList=arr.toList.take k++(X.toList++Y.toList)++arr.toList.drop (n1 + j):=by
    rw [lX,lY];have e1:arr.toList.take k++(arr.toList.take n1).drop k=arr.toList.take n1:=by
     have:=Hr k (arr.toList.take n1)
     rwa [Om,show min k n1=k by omega] at this
    have e2:(arr.toList.drop n1).take j++arr.toList.drop (n1 + j)=arr.toList.drop n1:=by rw [<-Lp,Hr]
    rw [<-G2,e1,G2,e2,Hr]
   rw (occs:=[3]) [e];exact (g2.append_left _).append_right _
 have last:∀(r:Array GJ) (st':HH),Kg (HJ κ arr ((#[(0,n1,p1),(n1,n2,p2)].setIfInBounds 0 (0,n1 + n2,p1)).eraseIdxIfInBounds (0 + 1)) mg none) st'->Good rk X Y r->Q (Kw st').isNone (Kh st' (Mg (λ(a:Array GJ) (x:GJ×Nat)=>match x with | (p,j)=>a.setIfInBounds (0 + k + j) p) (H_ st') r.toList.zipIdx)):=λr st' kg g=>by obtain ⟨f1,f2,f3,f4,f5⟩:=fin r st' kg g;rw [f2];exact q _ f1 f2 f3 f4 f5
 by_cases c:n1 - k<=j
 ·rw [if_pos c];exact Gj (Bd O T rfl λr st' kg g=>Gj (IT (Gj (JQ (Gv (last r st' kg g))))))
 ·rw [if_neg c];exact Gj (Bc O T rfl λr st' kg g=>Gj (IT (Gj (JQ (Gv (last r st' kg g))))))
end
def ra (rk:GJ->Nat) (arr:Array GJ) (i:Nat):Nat:=(arr[i]?.map rk).getD 0
theorem jA {rk:GJ->Nat}{arr arr':Array GJ}{i j:Nat}(h:arr'[i]?=arr[j]?):ra rk arr' i=ra rk arr j:=by unfold ra;rw [h]
def Seg (rk:GJ->Nat) (arr:Array GJ) (lo hi:Nat):Prop:=∀i j,lo<=i->i < j->j < hi->ra rk arr i < ra rk arr j
theorem Seg.more {rk:GJ->Nat}{arr:Array GJ}{lo n:Nat}(h:Seg rk arr lo (lo + n)) (hn:1<=n) (hl:ra rk arr (lo + n - 1) < ra rk arr (lo + n)):Seg rk arr lo (lo + (n + 1)):=λi j h1 h2 h3=>by
 by_cases c:j=lo + n
 ·subst c;by_cases d:i=lo + n - 1
  ·subst d;exact hl
  ·exact Jj (h i (lo + n - 1) h1 (by omega) (by omega)) hl
 ·exact h i j h1 h2 (by omega)
structure lW (its:GJ->Prop) (rk:GJ->Nat) (arr:Array GJ):Prop where
 i:∀x∈arr.toList,its x
 d:∀i j,i < arr.size->j < arr.size->i≠j->ra rk arr i≠ra rk arr j
theorem mL {its:GJ->Prop}{rk:GJ->Nat}{arr:Array GJ}:lW its rk arr↔(∀x∈arr.toList,its x)/\(arr.toList.map rk).Nodup:=by
 have key:∀i,(arr.toList.map rk)[i]?=arr[i]?.map rk:=λi=>by rw [GK,Jy]
 have kr:∀i (h:i < (arr.toList.map rk).length),ra rk arr i=(arr.toList.map rk)[i]:=λi h=>by unfold ra;rw [<-key,Gr h];rfl
 have hl:(arr.toList.map rk).length=arr.size:=by simp
 refine ⟨λt=>⟨t.i,JH.mpr (Jb.mpr λi j hi hj hij=>?_)⟩,λ⟨h1,h2⟩=>⟨h1,λi j hi hj hij e=>?_⟩⟩
 ·rw [<-kr,<-kr];exact t.d i j (by omega) (by omega) (by omega)
 ·rw [kr i (by omega),kr j (by omega)] at e;exact hij ((Jl h2).mp e)
theorem gE {its:GJ->Prop}{rk:GJ->Nat}{arr arr':Array GJ}(t:lW its rk arr) (p:arr'.Perm arr):lW its rk arr':=by obtain ⟨h1,h2⟩:=mL.mp t;exact mL.mpr ⟨λx hx=>h1 x (p.toList.mem_iff.mp hx),((p.toList.map rk).nodup_iff).mpr h2⟩
section
variable {prog:GG}{w:Hi}{A:G3}{E:Ge->Gf->Prop}{s:Gf}{κ:Ip}{its:GJ->Prop}{rk:GJ->Nat}
theorem kO (O:jO prog w A E s κ its rk){st:HH}{i j:Nat}{Q:Option Bool->HH->Prop}(hk:kindOf st=κ) (T:lW its rk (H_ st)) (hi:i < (H_ st).size) (hj:j < (H_ st).size) (q:Q (some (decide (ra rk (H_ st) i < ra rk (H_ st) j))) st):wpS (GD prog w) A E s (ltAt' i j) Q st:=by
 obtain ⟨x,x1,_,x3⟩:=fc hi;obtain ⟨y,y1,_,y3⟩:=fc hj;have ex:ra rk (H_ st) i=rk x:=by unfold ra;rw [x1];rfl
 have ey:ra rk (H_ st) j=rk y:=by unfold ra;rw [y1];rfl
 rw [ex,ey] at q;rw [ltAt'_eq];exact Gj (JQ (Gj (bM x1 (Gj (bM y1 (O x y (T.i x x3) (T.i y y3) _ _ hk q))))))
theorem AK (O:jO prog w A E s κ its rk){st:HH}{lo nrem:Nat}{Q:Option Nat->HH->Prop}(hk:kindOf st=κ) (T:lW its rk (H_ st)) (h1:1<=nrem) (h2:lo + nrem<=(H_ st).size)
  (q:∀m arr',1<=m->m<=nrem->arr'.Perm (H_ st)->Seg rk arr' lo (lo + m)->(∀i,i < lo\/lo + m<=i->arr'[i]?=(H_ st)[i]?)->Q (some m) (Kh st arr')):wpS (GD prog w) A E s (countRun' lo nrem) Q st:=by
 obtain ⟨arr,ha⟩:∃arr,arr=H_ st:=⟨_,rfl⟩;have qs:∀m,1<=m->m<=nrem->Seg rk arr lo (lo + m)->Q (some m) st:=λm a1 a2 a3=>by have:=q m arr a1 a2 (by rw [ha]) a3 (λ_ _=>by rw [ha]);rw [ha] at this;exact this
 rw [countRun'_eq];refine Gj (IL (Hq (λt c st'=>st'=st/\c.1=none/\c.2=t/\Seg rk arr lo (lo + t)) (Q:=λc st'=>st'=st/\c.1=none/\1<=c.2/\c.2<=nrem/\Seg rk arr lo (lo + c.2)/\(c.2=nrem\/ra rk arr (lo + c.2) < ra rk arr (lo + c.2 - 1))) ?_ ?_ ⟨rfl,rfl,rfl,λi j _ _ _=>by omega⟩) ?_)
 ·rintro t ⟨o,n⟩ st' ht hn ⟨rfl,rfl,e,sg⟩;dsimp only at e;subst e;dsimp only;refine Gj (kO O hk T (by omega) (by omega) ?_);rw [<-ha];by_cases c:ra rk arr (lo + n) < ra rk arr (lo + n - 1)
  ·rw [decide_eq_true c];exact Gv ⟨rfl,rfl,ht,by dsimp only;omega,sg,.inr c⟩
  ·rw [decide_eq_false c];refine Gv ⟨rfl,rfl,rfl,sg.more ht ?_⟩;have:=T.d (lo + n) (lo + n - 1) (by omega) (by omega) (by omega);rw [<-ha] at this;omega
 ·rintro ⟨o,n⟩ st' ⟨rfl,rfl,e,sg⟩;dsimp only at e;rw [show max 1 nrem=nrem by omega] at e sg;subst e;exact ⟨rfl,rfl,h1,Gm _,sg,.inl rfl⟩
 ·rintro ⟨o,n⟩ st' ⟨rfl,rfl,n1,n2,sg,hd⟩;dsimp only at n1 n2 sg hd ⊢;by_cases c:n=nrem
  ·rw [if_pos (by simp [c])];exact Gv (qs n n1 n2 sg)
  rw [if_neg (by simp [c])];have hd:ra rk arr (lo + n) < ra rk arr (lo + n - 1):=hd.resolve_left c;by_cases n0:n > 1
  ·rw [if_pos n0];refine Gj (kO O hk T (by omega) (by omega) ?_);rw [<-ha,decide_eq_true (sg lo (lo + n - 1) (Gm _) (by omega) (by omega))];exact Gv (qs n n1 n2 sg)
  rw [if_neg n0];have n01:n=1:=by omega
  subst n01;refine Gj (LJ (Jr ⟨rfl,?_⟩));refine Gj (IL (Hq (λt c st''=>st''=st'/\c.1=none/\c.2.1=t/\c.2.2=0/\∀i j,lo<=i->i < j->j < lo + t->ra rk arr j < ra rk arr i) (Q:=λc st''=>st''=st'/\c.1=none/\2<=c.2.1/\c.2.1<=nrem/\c.2.2=0/\∀i j,lo<=i->i < j->j < lo + c.2.1->ra rk arr j < ra rk arr i) ?_ ?_ ⟨rfl,rfl,rfl,rfl,λi j a1 a2 a3=>?_⟩) ?_)
  ·rintro t ⟨o,n,ne⟩ st'' ht hn ⟨rfl,rfl,e,e2,ds⟩;dsimp only at e e2;subst e;subst e2;dsimp only at ds ⊢;refine Gj (kO O hk T (by omega) (by omega) ?_);rw [<-ha];by_cases c:ra rk arr (lo + n) < ra rk arr (lo + n - 1)
   ·rw [decide_eq_true c];dsimp only;rw [if_pos rfl,if_neg (by decide)];refine Gv ⟨rfl,rfl,rfl,rfl,λi j a1 a2 a3=>?_⟩;by_cases d:j=lo + n
    ·subst d;by_cases d2:i=lo + n - 1
     ·subst d2;exact c
     ·exact Jj c (ds i (lo + n - 1) a1 (by omega) (by omega))
    ·exact ds i j a1 a2 (by omega)
   ·rw [decide_eq_false c];dsimp only;rw [if_neg (by decide)];refine Gj (kO O hk T (by omega) (by omega) ?_);have:=T.d (lo + n) (lo + n - 1) (by omega) (by omega) (by omega);rw [<-ha] at this ⊢;rw [decide_eq_true (by omega)];exact Gv ⟨rfl,rfl,ht,by dsimp only;omega,rfl,ds⟩
  ·rintro ⟨o,n,ne⟩ st'' ⟨rfl,rfl,e,rfl,ds⟩;dsimp only at e ds;rw [show max (1 + 1) nrem=nrem by omega] at e ds;subst e;exact ⟨rfl,rfl,by dsimp only;omega,Gm _,rfl,ds⟩
  ·have:i=lo:=by omega
   have:j=lo + 1:=by omega
   subst this;rw [‹i=lo›];exact hd
  ·rintro ⟨o,n,ne⟩ st'' ⟨rfl,rfl,m1,m2,rfl,ds⟩;dsimp only at m1 m2 ds ⊢;rw [if_neg (by decide)];obtain ⟨arr2,E1⟩:∃arr2,arr2=mirror arr lo (lo + n) ((lo + n - lo) / 2):=⟨_,rfl⟩;have g2:∀k,arr2[k]?=if lo<=k/\k < lo + n then arr[lo + (lo + n) - 1 - k]? else arr[k]?:=λk=>by rw [E1];exact ME (by rw [ha];omega) k
   have r2:∀k,lo<=k->k < lo + n->ra rk arr2 k=ra rk arr (lo + (lo + n) - 1 - k):=λk a1 a2=>jA (by rw [g2,if_pos ⟨a1,a2⟩]);have r2':∀k,lo + n<=k->ra rk arr2 k=ra rk arr k:=λk a1=>jA (by rw [g2,if_neg (by omega)]);have p2:arr2.Perm (H_ st''):=by rw [E1,<-ha];exact mirror_perm _ _ _ _
   have s2:arr2.size=(H_ st'').size:=by rw [E1,mirror_size,ha]
   have f2:∀m,n<=m->∀i,i < lo\/lo + m<=i->arr2[i]?=(H_ st'')[i]?:=λm hm i hi=>by rw [g2,if_neg (by omega),ha]
   have sg2:Seg rk arr2 lo (lo + n):=λi j a1 a2 a3=>by rw [r2 i a1 (by omega),r2 j (by omega) a3];exact ds _ _ (by omega) (by omega) (by omega)
   have T2:lW its rk arr2:=gE T p2;refine Gj (wpS_reverse ?_);rw [<-ha,<-E1];refine Gj (IL (Hq (λt c st3=>st3=Kh st'' arr2/\c.1=none/\c.2=t/\Seg rk arr2 lo (lo + t)) (Q:=λc st3=>st3=Kh st'' arr2/\c.1=none/\n<=c.2/\c.2<=nrem/\Seg rk arr2 lo (lo + c.2)) ?_ ?_ ⟨rfl,rfl,rfl,sg2⟩) ?_)
   ·rintro t ⟨o,m⟩ st3 ht hm ⟨rfl,rfl,e,sg3⟩;dsimp only at e;subst e;dsimp only;refine Gj (kO (st:=Kh st'' arr2) O hk T2 (show _ < arr2.size by omega) (show _ < arr2.size by omega) ?_);by_cases c:ra rk arr2 (lo + m) < ra rk arr2 (lo + m - 1)
    ·rw [show decide (ra rk (H_ (Kh st'' arr2)) (lo + m) < ra rk (H_ (Kh st'' arr2)) (lo + m - 1))=true from decide_eq_true c];exact Gv ⟨rfl,rfl,ht,by dsimp only;omega,sg3⟩
    ·rw [show decide (ra rk (H_ (Kh st'' arr2)) (lo + m) < ra rk (H_ (Kh st'' arr2)) (lo + m - 1))=false from decide_eq_false c];refine Gv ⟨rfl,rfl,rfl,sg3.more (by omega) ?_⟩;have:=T2.d (lo + m) (lo + m - 1) (by omega) (by omega) (by omega);omega
   ·rintro ⟨o,m⟩ st3 ⟨rfl,rfl,e,sg3⟩;dsimp only at e;rw [show max n nrem=nrem by omega] at e sg3;subst e;exact ⟨rfl,rfl,m2,Gm _,sg3⟩
   ·rintro ⟨o,m⟩ st3 ⟨rfl,rfl,b1,b2,sg3⟩;exact Gv (q m arr2 (by dsimp only at b1;omega) b2 p2 sg3 (f2 m b1))
theorem uI (O:jO prog w A E s κ its rk){st:HH}{lo n ok:Nat}{Q:Bool->HH->Prop}(hk:kindOf st=κ) (T:lW its rk (H_ st)) (h1:1<=ok) (h2:ok<=n) (h3:lo + n<=(H_ st).size) (sg:Seg rk (H_ st) lo (lo + ok))
  (q:∀arr',arr'.Perm (H_ st)->Seg rk arr' lo (lo + n)->(∀i,i < lo\/lo + n<=i->arr'[i]?=(H_ st)[i]?)->Q true (Kh st arr')):wpS (GD prog w) A E s (binarySort' lo n ok) Q st:=by
 rw [binarySort'_eq];refine Gj (IL (Hq (λt c st'=>c.1=none/\∃arr',st'=Kh st arr'/\arr'.Perm (H_ st)/\Seg rk arr' lo (lo + t)/\∀i,i < lo\/lo + n<=i->arr'[i]?=(H_ st)[i]?) (Q:=λc st'=>c.1=none/\∃arr',st'=Kh st arr'/\arr'.Perm (H_ st)/\Seg rk arr' lo (lo + n)/\∀i,i < lo\/lo + n<=i->arr'[i]?=(H_ st)[i]?) ?_ ?_ ⟨rfl,H_ st,rfl,N5 _,by rw [show max ok 1=ok by omega];exact sg,λ_ _=>rfl⟩) ?_)
 ·rintro k ⟨o,⟨⟩⟩ st' hk1 hk2 ⟨e,arr,rfl,p,sg,fr⟩;dsimp only at e;subst e;have sz:arr.size=(H_ st).size:=p.size_eq;have T':=gE T p;have k1:1<=k:=by omega
  refine Gj (IL (Hq (λt c st2=>st2=Kh st arr/\c.1=none/\c.2.1<=c.2.2/\c.2.2<=k/\(∀i,i < c.2.1->ra rk arr (lo + i) < ra rk arr (lo + k))/\(∀i,c.2.2<=i->i < k->ra rk arr (lo + k) < ra rk arr (lo + i))/\c.2.2 - c.2.1 + t<=k) (Q:=λc st2=>st2=Kh st arr/\c.1=none/\c.2.1<=k/\(∀i,i < c.2.1->ra rk arr (lo + i) < ra rk arr (lo + k))/\∀i,c.2.1<=i->i < k->ra rk arr (lo + k) < ra rk arr (lo + i)) ?_ ?_ ⟨rfl,rfl,Hh _,Gm _,λi h=>absurd h (Ke _),λi a b=>by dsimp only at a;omega,by dsimp only;omega⟩) ?_)
  ·rintro t ⟨o,l,r⟩ st2 _ ht ⟨rfl,rfl,a1,a2,a3,a4,a5⟩;dsimp only at a1 a2 a3 a4 a5 ⊢;by_cases c:l ≥ r
   ·rw [if_pos c];exact Gv ⟨rfl,rfl,by dsimp only;omega,a3,λi b1 b2=>a4 i (by dsimp only at b1;omega) b2⟩
   rw [if_neg c];refine Gj (kO (st:=Kh st arr) O hk T' (show _ < arr.size by omega) (show _ < arr.size by omega) ?_);by_cases m:ra rk arr (lo + k) < ra rk arr (lo + (l + r) / 2)
   ·rw [show decide (ra rk (H_ (Kh st arr)) (lo + k) < ra rk (H_ (Kh st arr)) (lo + (l + r) / 2))=true from decide_eq_true m];refine Gv ⟨rfl,rfl,by dsimp only;omega,by dsimp only;omega,a3,λi b1 b2=>?_,by dsimp only;omega⟩;dsimp only at b1;by_cases e:i=(l + r) / 2
    ·rw [e];exact m
    ·exact Jj m (sg _ _ (by omega) (by omega) (by omega))
   ·rw [show decide (ra rk (H_ (Kh st arr)) (lo + k) < ra rk (H_ (Kh st arr)) (lo + (l + r) / 2))=false from decide_eq_false m];have m':ra rk arr (lo + (l + r) / 2) < ra rk arr (lo + k):=by have:=T'.d (lo + k) (lo + (l + r) / 2) (by omega) (by omega) (by omega);omega
    refine Gv ⟨rfl,rfl,by dsimp only;omega,a2,λi b1=>?_,a4,by dsimp only;omega⟩;dsimp only at b1;by_cases e:i=(l + r) / 2
    ·rw [e];exact m'
    ·exact Jj (sg _ _ (by omega) (by omega) (by omega)) m'
  ·rintro ⟨o,l,r⟩ st2 ⟨rfl,rfl,a1,a2,a3,a4,a5⟩;dsimp only at a1 a2 a3 a4 a5;exact ⟨rfl,rfl,by dsimp only;omega,a3,λi b1 b2=>a4 i (by dsimp only at b1;omega) b2⟩
  ·rintro ⟨o,l,r⟩ st2 ⟨rfl,rfl,a1,a3,a4⟩;dsimp only at a1 a3 a4 ⊢;rw [moveDown'_eq];obtain ⟨arr2,E1⟩:∃arr2,arr2=bubble arr (lo + k) (lo + k - (lo + l)):=⟨_,rfl⟩;have g2:∀i,arr2[i]?=if i=lo + l then arr[lo + k]? else if lo + l < i/\i<=lo + k then arr[i - 1]? else arr[i]?:=λi=>by rw [E1,N7 (by omega) _ (by omega),show lo + k - (lo + k - (lo + l))=lo + l by omega]
   refine Gj (IT (Gv ⟨rfl,arr2,by rw [E1],?_,λi j b1 b2 b3=>?_,λi hi=>?_⟩))
   ·rw [E1];exact (bubble_perm _ _ _).trans p
   ·have r1:∀x,x=lo + l->ra rk arr2 x=ra rk arr (lo + k):=λx h=>jA (by rw [g2,if_pos h]);have r2:∀x,lo + l < x->x<=lo + k->ra rk arr2 x=ra rk arr (x - 1):=λx h h'=>jA (by rw [g2,if_neg (by omega),if_pos ⟨h,h'⟩]);have r3:∀x,x < lo + l->ra rk arr2 x=ra rk arr x:=λx h=>jA (by rw [g2,if_neg (by omega),if_neg (by omega)]);rcases Nl j (lo + l) with c | c | c
    ·rw [r3 i (by omega),r3 j c];exact sg i j b1 b2 (by omega)
    ·rw [r3 i (by omega),r1 j c];have:=a3 (i - lo) (by omega)
     rwa [show lo + (i - lo)=i by omega] at this
    ·rw [r2 j c (by omega)];rcases Nl i (lo + l) with d | d | d
     ·rw [r3 i d];exact sg i (j - 1) b1 (by omega) (by omega)
     ·rw [r1 i d];have:=a4 (j - 1 - lo) (by omega) (by omega)
      rwa [show lo + (j - 1 - lo)=j - 1 by omega] at this
     ·rw [r2 i d (by omega)];exact sg (i - 1) (j - 1) (by omega) (by omega) (by omega)
   ·rw [g2,if_neg (by omega),if_neg (by omega)];exact fr i hi
 ·rintro ⟨o,⟨⟩⟩ st' ⟨e,arr,e1,p,sg,fr⟩;rw [show max (max ok 1) n=n by omega] at sg;exact ⟨e,arr,e1,p,sg,fr⟩
 ·rintro ⟨o,⟨⟩⟩ st' ⟨e,arr,rfl,p,sg,fr⟩;dsimp only at e;subst e;exact Gv (q arr p sg fr)
end
section
variable {its:GJ->Prop}{rk:GJ->Nat}{arr:Array GJ}
theorem yK {i:Nat}(h:i < arr.toList.length):ra rk arr i=rk arr.toList[i]:=by unfold ra;rw [<-Jy,Gr h];rfl
theorem t9 {lo hi:Nat}(h:Seg rk arr lo hi):((arr.toList.take hi).drop lo).Pairwise λx y=>rk x < rk y:=by refine Jb.mpr λi j h1 h2 hij=>?_;simp only [IA,GU] at h1 h2;rw [II,II,IG,IG,<-yK (rk:=rk) (arr:=arr),<-yK (rk:=rk) (arr:=arr)];exact h _ _ (by omega) (by omega) (by omega)
theorem Seg.of {arr':Array GJ}{lo hi:Nat}(h:Seg rk arr lo hi) (f:∀i,i < hi->arr'[i]?=arr[i]?):Seg rk arr' lo hi:=λi j h1 h2 h3=>by rw [jA (f i (by omega)),jA (f j h3)];exact h i j h1 h2 h3
end
section
variable {prog:GG}{w:Hi}{A:G3}{E:Ge->Gf->Prop}{s:Gf}{κ:Ip}{its:GJ->Prop}{rk:GJ->Nat}
theorem Ak {α:Type}{c:Prop} [Decidable c] {m1 m2:SM α}{Q:α->HH->Prop}{st:HH}(h:¬c) (k:wpS (GD prog w) A E s m2 Q st):wpS (GD prog w) A E s (if c then m1 else m2) Q st:=by rw [if_neg h];exact k
theorem vI (O:jO prog w A E s κ its rk){st:HH}{lo:Nat}{f:Option Nat->SM (ForInStep (Option Unit×Nat))}{Q:ForInStep (Option Unit×Nat)->HH->Prop}(hk:kindOf st=κ) (T:lW its rk (H_ st)) (hs:(H_ st).size=64) (hl:lo=0\/32<=lo) (h64:lo < 64)
  (hf:∀(m:Nat) (arr1:Array GJ),1<=m->m<=64 - lo->arr1.Perm (H_ st)->Seg rk arr1 lo (lo + m)->(∀i,i < lo\/lo + m<=i->arr1[i]?=(H_ st)[i]?)->wpS (GD prog w) A E s (f (some m)) Q (Kh st arr1)):wpS (GD prog w) A E s (countRun' lo (64 - lo) >>= f) Q st:=
 Gj (AK O hk T (by omega) (by omega) hf)
theorem Ct:minRun' 64 64 0=32:=by decide +kernel
theorem BW (O:jO prog w A E s κ its rk){arr:Array GJ}{mg:Nat}{Q:Unit->HH->Prop}(hs:arr.size=64) (T:lW its rk arr) (q:∀st',Kw st'=none->(H_ st').toList.Perm arr.toList->(H_ st').toList.Pairwise (λx y=>rk x < rk y)->Q () st'):wpS (GD prog w) A E s sortRuns' Q (HJ κ arr #[] mg none):=by
 rw [sortRuns'_eq];refine Gj (JQ ?_);show wpS _ _ _ _ (forIn [:arr.size] _ _ >>= _) _ _;rw [hs,Ct];refine Gj (IL (Hq (λt c st'=>c.1=none/\((t=0/\c.2=0/\st'=HJ κ arr #[] mg none)\/(t=1/\∃arr' n1 p1,c.2=n1/\32<=n1/\n1<=64/\arr'.Perm arr/\Seg rk arr' 0 n1/\st'=HJ κ arr' #[(0,n1,p1)] mg none)\/(t=2/\c.2=64/\∃arr' n1 p1,32<=n1/\n1 < 64/\arr'.Perm arr/\Seg rk arr' 0 n1/\Seg rk arr' n1 64/\st'=HJ κ arr' #[(0,n1,p1),(n1,64 - n1,0)] mg none)))
  (Q:=λc st'=>c.1=none/\((∃arr' p1,arr'.Perm arr/\Seg rk arr' 0 64/\st'=HJ κ arr' #[(0,64,p1)] mg none)\/∃arr' n1 p1,32<=n1/\n1 < 64/\arr'.Perm arr/\Seg rk arr' 0 n1/\Seg rk arr' n1 64/\st'=HJ κ arr' #[(0,n1,p1),(n1,64 - n1,0)] mg none)) ?_ ?_ ⟨rfl,.inl ⟨rfl,rfl,rfl⟩⟩) ?_)
 ·rintro t ⟨o,lo⟩ st' _ ht ⟨e,h⟩;dsimp only at e h ⊢;subst e;rcases h with ⟨rfl,rfl,rfl⟩ | ⟨rfl,arr',n1,p1,e2,a1,a2,p,sg,rfl⟩ | ⟨rfl,rfl,h⟩
  ·rw [if_neg (by decide)];refine vI O rfl T hs (.inl rfl) (by decide) λm arr1 m1 m2 p sg fr=>?_;dsimp only;by_cases c:m < 32
   ·rw [if_pos c];refine Gj (LJ (Jr ⟨rfl,Gj (uI O rfl (gE T p) m1 (show m<=min (64 - 0) 32 by omega) (show 0 + min (64 - 0) 32<=arr1.size by rw [p.size_eq,hs];decide) sg λarr2 p2 sg2 fr2=>?_)⟩));exact Gj (JQ (Gj (IT (Gv ⟨rfl,.inr (.inl ⟨rfl,arr2,32,0,rfl,by decide,by decide,p2.trans p,sg2,rfl⟩)⟩))))
   ·rw [if_neg c];exact Gj (JQ (Gj (IT (Gv ⟨rfl,.inr (.inl ⟨rfl,arr1,m,0,by dsimp only;omega,by omega,by omega,p,by rw [Ll] at sg;exact sg,rfl⟩)⟩))))
  ·have e3:=e2.symm;subst e3;by_cases c64:n1 ≥ 64
   ·rw [if_pos c64];have e:n1=64:=by omega
    subst e;exact Gv ⟨rfl,.inl ⟨arr',p1,p,sg,rfl⟩⟩
   rw [if_neg c64];have T':=gE T p;have s':arr'.size=64:=p.size_eq.trans hs;refine vI (st:=HJ κ arr' #[(0,n1,p1)] mg none) O rfl T' s' (.inr a1) (by omega) λm arr1 m1 m2 pp sg1 fr=>?_;dsimp only;by_cases c:m < 32
   ·rw [if_pos c];refine Gj (LJ (Jr ⟨rfl,Gj (uI O rfl (gE T' pp) m1 (show m<=min (64 - n1) 32 by omega) (show n1 + min (64 - n1) 32<=arr1.size by rw [pp.size_eq];show _<=arr'.size;omega) sg1 λarr2 p2 sg2 fr2=>?_)⟩));refine Gj (JQ (Gj (IL (Hq (λt c st2=>c=(none,())/\st2=HJ κ arr2 #[(0,n1,p1)] mg none) (Q:=λc st2=>c=(none,())/\st2=HJ κ arr2 #[(0,n1,p1)] mg none) ?_ (λ_ _ h=>h) ⟨rfl,rfl⟩) ?_)))
    ·rintro t2 _ _ _ _ ⟨rfl,rfl⟩;exact Gj (JQ (Gv ⟨rfl,rfl⟩))
    ·rintro _ _ ⟨rfl,rfl⟩;refine Gj (IT (Gj (IT (Gv ⟨rfl,.inr (.inr ⟨rfl,by dsimp only;omega,arr2,n1,power' 64 (2 * 0 + n1) (2 * 0 + n1 + n1 + min (64 - n1) 32) 64,a1,by omega,p2.trans (pp.trans p),sg.of λi hi=>(fr2 i (.inl hi)).trans (fr i (.inl hi)),(by rw [show n1 + min (64 - n1) 32=64 by omega] at sg2;exact sg2),?_⟩)⟩))));rw [show min (64 - n1) 32=64 - n1 by omega];rfl
   ·rw [if_neg c];refine Gj (JQ (Gj (IL (Hq (λt c st2=>c=(none,())/\st2=HJ κ arr1 #[(0,n1,p1)] mg none) (Q:=λc st2=>c=(none,())/\st2=HJ κ arr1 #[(0,n1,p1)] mg none) ?_ (λ_ _ h=>h) ⟨rfl,rfl⟩) ?_)))
    ·rintro t2 _ _ _ _ ⟨rfl,rfl⟩;exact Gj (JQ (Gv ⟨rfl,rfl⟩))
    ·rintro _ _ ⟨rfl,rfl⟩;refine Gj (IT (Gj (IT (Gv ⟨rfl,.inr (.inr ⟨rfl,by dsimp only;omega,arr1,n1,power' 64 (2 * 0 + n1) (2 * 0 + n1 + n1 + m) 64,a1,by omega,pp.trans p,sg.of λi hi=>fr i (.inl hi),(by rw [show n1 + m=64 by omega] at sg1;exact sg1),?_⟩)⟩))));rw [show m=64 - n1 by omega];rfl
  ·rw [if_pos (by decide)];exact Gv ⟨rfl,.inr h⟩
 ·rintro c st' ⟨_,⟨h,_⟩ | ⟨h,_⟩ | ⟨h,_⟩⟩
  ·exact absurd h (by decide)
  ·exact absurd h (by decide)
  ·exact absurd h (by decide)
 ·rintro ⟨o,lo⟩ st' ⟨e,h⟩;dsimp only at e;subst e;refine Gj (IL (Hq (λt c st2=>c=(none,())/\((t=0/\∃arr' n1 p1,32<=n1/\n1 < 64/\arr'.Perm arr/\Seg rk arr' 0 n1/\Seg rk arr' n1 64/\st2=HJ κ arr' #[(0,n1,p1),(n1,64 - n1,0)] mg none)\/(Kw st2=none/\(LA st2).size<=1/\(H_ st2).toList.Perm arr.toList/\(H_ st2).toList.Pairwise λx y=>rk x < rk y))) (Q:=λc st2=>c=(none,())/\Kw st2=none/\(H_ st2).toList.Perm arr.toList/\(H_ st2).toList.Pairwise λx y=>rk x < rk y) ?_ ?_ ⟨rfl,?_⟩) ?_)
  ·rintro t _ st2 _ _ ⟨rfl,h⟩;rcases h with ⟨_,arr',n1,p1,a1,a2,p,sg1,sg2,rfl⟩ | ⟨f1,f2,f3,f4⟩
   ·have s':arr'.size=64:=p.size_eq.trans hs;have T':=gE T p;have e0:arr'.toList=arr'.toList.take n1++arr'.toList.drop n1:=(Hr _ _).symm;refine Gj (JQ (Ak (by show ¬2<=1;decide) ?_));refine Gj (Bb (n1:=n1) (n2:=64 - n1) (p1:=p1) (p2:=0) (mg:=mg) O T'.i (by omega) (by omega) (by omega) (by have:=t9 sg1;rwa [Js] at this) (by
      have:=t9 sg2
      rwa [IM (by rw [GB];omega)] at this) (λx hx y hy e=>?_) λst3 k1 k2 k3 k4 k5=>?_)
    ·have nd:=(mL.mp T').2;rw [e0,Jg] at nd;exact (List.nodup_append.mp nd).2.2 _ (Gi.mpr ⟨x,hx,rfl⟩) _ (Gi.mpr ⟨y,hy,rfl⟩) e
    ·exact Gv ⟨rfl,.inr ⟨k2,k3,k5.trans p.toList,k4⟩⟩
   ·refine Gj (JQ ?_);dsimp only;rw [if_pos f2];exact Gv ⟨rfl,f1,f3,f4⟩
  ·rintro c st2 ⟨e,⟨h,_⟩ | ⟨f1,f2,f3,f4⟩⟩
   ·exact absurd h (by decide)
   ·exact ⟨e,f1,f3,f4⟩
  ·rcases h with ⟨arr',p1,p,sg,rfl⟩ | h
   ·refine .inr ⟨rfl,by show 1<=1;decide,p.toList,?_⟩;have:=t9 sg
    rwa [Js,IM (by rw [GB,p.size_eq,hs];decide)] at this
   ·exact .inl ⟨rfl,h⟩
  ·rintro _ st2 ⟨rfl,f1,f2,f3⟩;exact Gv (q st2 f1 f2 f3)
end
end S6
namespace DL
open PySem PySem.Spec PyProof.Rows L2
open PySem.W (KasT kas_sort kas_asc kas_desc kas_rev kas_tail3 kas_descPart kas_count kas_place kas_bin)
theorem run_bind {α β:Type}(q:Nat->Nat->Bool) (f:α->KasT β):∀t:KasT α,aP q (t.bind f)=aP q (f (aP q t))
 | .ret _=>rfl
 | .ask i j k=>run_bind q f (k (q i j))
theorem xV {n:Nat}{α:Type}{P:α->Prop}{t:KasT α}{q q':Nat->Nat->Bool}(h:ek n P t) (e:∀i j,i < n->j < n->q i j=q' i j):aP q t=aP q' t:=by
 induction h with
 | ret _=>rfl
 | @ask i j k h1 h2 _ ih=>
  show aP q (k (q i j))=aP q' (k (q' i j));rw [e _ _ h1 h2];exact ih _
structure Ord (q:Nat->Nat->Bool):Prop where
 asy:∀a b,q a b=true->q b a=false
 tra:∀a b c,q b a=false->q c b=false->q c a=false
section
variable {q:Nat->Nat->Bool}{n:Nat}
abbrev bh (p:Array Nat) (k:Nat):Nat:=p.getD k 0
def Up (q:Nat->Nat->Bool) (p:Array Nat) (k:Nat):Prop:=∀i j,i<=j->j < k->q (bh p j) (bh p i)=false
def Down (q:Nat->Nat->Bool) (p:Array Nat) (k:Nat):Prop:=∀i j,i<=j->j < k->q (bh p i) (bh p j)=false
theorem Ord.irr (O:Ord q) (a:Nat):q a a=false:=by
 cases h:q a a with
 | false=>rfl
 | true=>rw [<-h];exact (O.asy a a h)
theorem getD_eq (h:p[i]?=p'[j]?):bh p i=bh p' j:=by show p.getD i 0=p'.getD j 0;rw [Lc,Lc,h]
theorem f_ {p:Array Nat}(hj:j<=p.size) (k:Nat):bh (KN p i j) k=if i<=k/\k < j then bh p (i + j - 1 - k) else bh p k:=by
 have e:=ME (xs:=p) (i:=i) hj k;by_cases c:i<=k/\k < j
 ·rw [if_pos c] at e ⊢;exact getD_eq e
 ·rw [if_neg c] at e ⊢;exact getD_eq e
theorem uF {p:Array Nat}(hs:src < p.size) (hd:d<=src) (k:Nat):bh (bubble p src d) k=if k=src - d then bh p src else if src - d < k/\k<=src then bh p (k - 1) else bh p k:=by
 have e:=N7 hs d hd k;by_cases c:k=src - d
 ·rw [if_pos c] at e ⊢;exact getD_eq e
 ·rw [if_neg c] at e ⊢;by_cases c':src - d < k/\k<=src
  ·rw [if_pos c'] at e ⊢;exact getD_eq e
  ·rw [if_neg c'] at e ⊢;exact getD_eq e
theorem fW (p:Array Nat) (i j:Nat):(KN p i j).size=p.size:=mirror_size _ _ _ _
theorem Up.one (O:Ord q) (p:Array Nat):Up q p 1:=λi j h1 h2=>by
 have:i=j:=by omega
 rw [this];exact O.irr _
theorem Up.more (O:Ord q) (h:Up q p k) (h1:1<=k) (e:q (bh p k) (bh p (k - 1))=false):Up q p (k + 1):=λi j hi hj=>by
 by_cases c:j < k
 ·exact h i j hi c
 ·have:j=k:=by omega
  subst this;by_cases c':i=j
  ·rw [c'];exact O.irr _
  ·exact O.tra _ _ _ (h i (j - 1) (by omega) (by omega)) e
theorem Down.more (O:Ord q) (h:Down q p k) (h1:1<=k) (e:q (bh p (k - 1)) (bh p k)=false):Down q p (k + 1):=λi j hi hj=>by
 by_cases c:j < k
 ·exact h i j hi c
 ·have:j=k:=by omega
  subst this;by_cases c':i=j
  ·rw [c'];exact O.irr _
  ·exact O.tra _ _ _ e (h i (j - 1) (by omega) (by omega))
theorem pR (O:Ord q) (p:Array Nat):∀(f m:Nat),1<=m->Up q p m->m<=aP q (KP p f m)/\aP q (KP p f m)<=m + f/\Up q p (aP q (KP p f m))/\(aP q (KP p f m)=m + f\/q (bh p (aP q (KP p f m))) (bh p (aP q (KP p f m) - 1))=true)
 | 0,m,h1,h=>⟨Gm _,Gm _,h,.inl rfl⟩
 | f + 1,m,h1,h=>by
  have e:aP q (KP p (f + 1) m)=if q (bh p m) (bh p (m - 1))=true then m else aP q (KP p f (m + 1)):=by
   show aP q (if q (bh p m) (bh p (m - 1))=true then KasT.ret m else KP p f (m + 1))=_;by_cases c:q (bh p m) (bh p (m - 1))=true
   ·rw [if_pos c,if_pos c];rfl
   ·rw [if_neg c,if_neg c]
  rw [e];by_cases c:q (bh p m) (bh p (m - 1))=true
  ·rw [if_pos c];exact ⟨Gm _,by omega,h,.inr c⟩
  ·rw [if_neg c];obtain ⟨a1,a2,a3,a4⟩:=pR O p f (m + 1) (by omega) (h.more O h1 (by simpa using c));refine ⟨by omega,by omega,a3,?_⟩;rcases a4 with a4 | a4
   ·exact .inl (by omega)
   ·exact .inr a4
def Alike (q:Nat->Nat->Bool) (p:Array Nat) (i j:Nat):Prop:=∀a b,i<=a->a < j->i<=b->b < j->q (bh p a) (bh p b)=false
theorem oR {p:Array Nat}{i j k:Nat}(hj:j<=p.size) (ha:Alike q p i j) (hd:Down q p j) (O:Ord q):Down q (KN p i j) j:=λa b h1 h2=>by
 rw [f_ hj,f_ hj];by_cases c:i<=a/\a < j
 ·rw [if_pos c];by_cases c':i<=b/\b < j
  ·rw [if_pos c'];exact ha _ _ (by omega) (by omega) (by omega) (by omega)
  ·omega
 ·rw [if_neg c];by_cases c':i<=b/\b < j
  ·rw [if_pos c'];exact hd _ _ (by omega) (by omega)
  ·rw [if_neg c'];exact hd _ _ h1 h2
theorem BP {p:Array Nat}(hj:j<=p.size) (hd:Down q p j):Up q (KN p 0 j) j:=λa b h1 h2=>by rw [f_ hj,f_ hj,if_pos (by omega),if_pos (by omega)];exact hd _ _ (by omega) (by omega)
theorem nc {p:Array Nat}(hj:j<=p.size) (h:j<=k):bh (KN p i j) k=bh p k:=by rw [f_ hj,if_neg (by omega)]
theorem iM (O:Ord q):∀(f:Nat) (p:Array Nat) (m e:Nat),1<=m->e + 1<=m->m + f<=p.size->Down q p m->Alike q p (m - (e + 1)) m->
  (aP q (ID f p m e)).1.size=p.size/\m<=(aP q (ID f p m e)).2.1/\(aP q (ID f p m e)).2.1<=m + f/\(aP q (ID f p m e)).2.2 + 1<=(aP q (ID f p m e)).2.1/\
  Down q (aP q (ID f p m e)).1 (aP q (ID f p m e)).2.1/\Alike q (aP q (ID f p m e)).1 ((aP q (ID f p m e)).2.1 - ((aP q (ID f p m e)).2.2 + 1)) (aP q (ID f p m e)).2.1
 | 0,p,m,e,h1,h2,h3,h4,h5=>⟨rfl,Gm _,Gm _,h2,h4,h5⟩
 | f + 1,p,m,e,h1,h2,h3,h4,h5=>by
  have solo:∀(p:Array Nat) (m:Nat),Alike q p (m + 1 - (0 + 1)) (m + 1):=λp m a b c1 c2 c3 c4=>by
   have:a=b:=by omega
   rw [this];exact O.irr _
  cases c:q (bh p m) (bh p (m - 1)) with
  | true=>
   have c2:=O.asy _ _ c;by_cases he:e > 0
   ·have er:aP q (ID (f + 1) p m e)=aP q (ID f (KN p (m - (e + 1)) m) (m + 1) 0):=by show aP q (if q (bh p m) (bh p (m - 1))=true then _ else _)=_;rw [if_pos c,if_pos he]
    rw [er];have hr:=oR (k:=0) (i:=m - (e + 1)) (by omega:m<=p.size) h5 h4 O;have hl:bh (KN p (m - (e + 1)) m) (m - 1)=bh p (m - (e + 1)):=by rw [f_ (by omega),if_pos (by omega)];congr 1;omega
    obtain ⟨a0,a1,a2,a3,a4,a5⟩:=iM O f (KN p (m - (e + 1)) m) (m + 1) 0 (by omega) (by omega) (by rw [fW];omega)
     (hr.more O h1 (by
      rw [hl,nc (by omega) (Gm _)];exact O.tra _ _ _ c2 (h5 _ _ (by omega) (by omega) (by omega) (by omega)))) (solo _ _)
    rw [fW] at a0;exact ⟨a0,by omega,by omega,a3,a4,a5⟩
   ·have er:aP q (ID (f + 1) p m e)=aP q (ID f p (m + 1) 0):=by show aP q (if q (bh p m) (bh p (m - 1))=true then _ else _)=_;rw [if_pos c,if_neg he]
    rw [er];obtain ⟨a0,a1,a2,a3,a4,a5⟩:=iM O f p (m + 1) 0 (by omega) (by omega) (by omega) (h4.more O h1 c2) (solo _ _);exact ⟨a0,by omega,by omega,a3,a4,a5⟩
  | false=>
   cases c2:q (bh p (m - 1)) (bh p m) with
   | true=>
    have er:aP q (ID (f + 1) p m e)=(p,m,e):=by show aP q (if q (bh p m) (bh p (m - 1))=true then _ else _)=_;rw [if_neg (by rw [c];decide)];show aP q (if q (bh p (m - 1)) (bh p m)=true then _ else _)=_;rw [if_pos c2];rfl
    rw [er];exact ⟨rfl,Gm _,JO _ _,h2,h4,h5⟩
   | false=>
    have er:aP q (ID (f + 1) p m e)=aP q (ID f p (m + 1) (e + 1)):=by show aP q (if q (bh p m) (bh p (m - 1))=true then _ else _)=_;rw [if_neg (by rw [c];decide)];show aP q (if q (bh p (m - 1)) (bh p m)=true then _ else _)=_;rw [if_neg (by rw [c2];decide)]
    rw [er];have hal:Alike q p (m + 1 - (e + 1 + 1)) (m + 1):=λa b d1 d2 d3 d4=>by
     by_cases ea:a=m
     ·subst ea;by_cases eb:b=a
      ·rw [eb];exact O.irr _
      ·exact O.tra _ _ _ (h5 (a - 1) b (by omega) (by omega) (by omega) (by omega)) c
     ·by_cases eb:b=m
      ·subst eb;exact O.tra _ _ _ c2 (h5 a (b - 1) (by omega) (by omega) (by omega) (by omega))
      ·exact h5 a b (by omega) (by omega) (by omega) (by omega)
    obtain ⟨a0,a1,a2,a3,a4,a5⟩:=iM O f p (m + 1) (e + 1) (by omega) (by omega) (by omega) (h4.more O h1 c2) hal;exact ⟨a0,by omega,by omega,a3,a4,a5⟩
def Got (q:Nat->Nat->Bool) (N s:Nat) (r:Nat×Array Nat):Prop:=r.2.size=s/\1<=r.1/\r.1<=N/\Up q r.2 r.1
theorem sy (O:Ord q){p:Array Nat}(h1:1<=m) (hm:m<=N) (hN:N<=p.size) (hd:Down q p m):Got q N p.size (aP q (O4 m N p)):=by unfold O4;rw [run_bind];obtain ⟨a1,a2,a3,_⟩:=pR O (KN p 0 m) (N - m) m h1 (BP (by omega) hd);exact ⟨fW _ _ _,by show 1<=aP q (KP _ _ _);omega,by show aP q (KP _ _ _)<=N;omega,a3⟩
theorem r9 (O:Ord q){p:Array Nat}(h1:1<=m) (hm:m + 1<=N) (hN:N<=p.size) (hd:Down q p (m + 1)):Got q N p.size (aP q (Nu m N p)):=by
 unfold Nu;rw [run_bind];obtain ⟨a0,a1,a2,a3,a4,a5⟩:=iM O (N - (m + 1)) p (m + 1) 0 (by omega) (by omega) (by omega) hd (λa b c1 c2 c3 c4=>by
  have:a=b:=by omega
  rw [this];exact O.irr _)
 generalize aP q (ID (N - (m + 1)) p (m + 1) 0)=r at *;obtain ⟨p',m',e'⟩:=r;simp only at *;by_cases c:e' > 0
 ·rw [if_pos c];have:=sy (N:=N) O (p:=KN p' (m' - (e' + 1)) m') (m:=m') (by omega) (by omega) (by rw [fW];omega) (oR (k:=0) (by omega) a5 a4 O);rw [fW,a0] at this;exact this
 ·rw [if_neg c];have:=sy (N:=N) O (p:=p') (m:=m') (by omega) (by omega) (by omega) a4;rw [a0] at this;exact this
theorem wO (O:Ord q){p:Array Nat}(h1:1<=N) (hN:N<=p.size):Got q N p.size (aP q (N4 N p)):=by
 unfold N4;rw [run_bind];obtain ⟨a1,a2,a3,a4⟩:=pR O p (N - 1) 1 (Gm _) (Up.one O p);generalize aP q (KP p (N - 1) 1)=m at *;by_cases c:(m == N)=true
 ·rw [if_pos c];exact ⟨rfl,a1,by show m<=N;omega,a3⟩
 ·rw [if_neg c];have hm:m + 1<=N:=by
   have:m≠N:=by simpa using c
   omega
  have a4:q (bh p m) (bh p (m - 1))=true:=by
   rcases a4 with h | h
   ·omega
   ·exact h
  have a5:=O.asy _ _ a4;by_cases c':m > 1
  ·rw [if_pos c'];show Got q N p.size (aP q (if q (bh p 0) (bh p (m - 1))=true then _ else _));by_cases d:q (bh p 0) (bh p (m - 1))=true
   ·rw [if_pos d];exact ⟨rfl,a1,by show m<=N;omega,a3⟩
   ·rw [if_neg d];have d:q (bh p 0) (bh p (m - 1))=false:=by simpa using d
    have all:∀a b,a < m->b < m->q (bh p a) (bh p b)=false:=λa b ha hb=>O.tra _ _ _ (O.tra _ _ _ (a3 b (m - 1) (by omega) (by omega)) d) (a3 0 a (by omega) (by omega));have hd:Down q (KN p 0 m) m:=λa b h1 h2=>by rw [f_ (by omega),f_ (by omega),if_pos (by omega),if_pos (by omega)];exact all _ _ (by omega) (by omega)
    have:=r9 O (p:=KN p 0 m) (m:=m) (N:=N) (by omega) hm (by rw [fW];exact hN) (hd.more O (by omega) (by
     rw [nc (by omega) (Gm _),f_ (by omega),if_pos (by omega),show 0 + m - 1 - (m - 1)=0 by omega];exact O.tra _ _ _ a5 d))
    rw [fW] at this;exact this
  ·rw [if_neg c'];have:m=1:=by omega
   subst this;refine r9 O (Gm _) hm hN ?_;exact Down.more O (λi j h1 h2=>by
    have:i=j:=by omega
    rw [this];exact O.irr _) (Gm _) a5
theorem lS (O:Ord q) (hs:Up q p k):∀(f l r:Nat),l<=r->r<=k->r - l<=f->(∀i,i < l->q (bh p k) (bh p i)=false)->(∀i,r<=i->i < k->q (bh p k) (bh p i)=true)->
  aP q (IX p k f l r)<=k/\(∀i,i < aP q (IX p k f l r)->q (bh p k) (bh p i)=false)/\∀i,aP q (IX p k f l r)<=i->i < k->q (bh p k) (bh p i)=true
 | 0,l,r,h1,h2,h3,h4,h5=>⟨by show l<=k;omega,h4,λi hi=>h5 i (by show r<=i;have:l<=i:=hi;omega)⟩
 | f + 1,l,r,h1,h2,h3,h4,h5=>by
  by_cases c:l ≥ r
  ·have e:aP q (IX p k (f + 1) l r)=l:=by unfold IX;rw [if_pos c];rfl
   rw [e];exact ⟨by omega,h4,λi hi=>h5 i (by omega)⟩
  ·cases d:q (bh p k) (bh p ((l + r) / 2)) with
   | true=>
    have e:aP q (IX p k (f + 1) l r)=aP q (IX p k f l ((l + r) / 2)):=by rw [IX,if_neg c];show aP q (if q (bh p k) (bh p ((l + r) / 2))=true then _ else _)=_;rw [if_pos d]
    rw [e];refine lS O hs f l ((l + r) / 2) (by omega) (by omega) (by omega) h4 λi i1 i2=>?_;by_cases ci:r<=i
    ·exact h5 i ci i2
    ·cases dd:q (bh p k) (bh p i) with
     | true=>rfl
     | false=>
      have:=O.tra _ _ _ (hs ((l + r) / 2) i i1 i2) dd;rw [d] at this;cases this
   | false=>
    have e:aP q (IX p k (f + 1) l r)=aP q (IX p k f ((l + r) / 2 + 1) r):=by rw [IX,if_neg c];show aP q (if q (bh p k) (bh p ((l + r) / 2))=true then _ else _)=_;rw [if_neg (by rw [d];decide)]
    rw [e];refine lS O hs f ((l + r) / 2 + 1) r (by omega) (by omega) (by omega) (λi hi=>?_) h5;exact O.tra _ _ _ (hs i ((l + r) / 2) (by omega) (by omega)) d
theorem AF (O:Ord q){p:Array Nat}(hk:k < p.size) (hl:l<=k) (hs:Up q p k) (h1:∀i,i < l->q (bh p k) (bh p i)=false) (h2:∀i,l<=i->i < k->q (bh p k) (bh p i)=true):Up q (bubble p k (k - l)) (k + 1):=λi j hi hj=>by
 rw [uF hk (by omega),uF hk (by omega),show k - (k - l)=l by omega];by_cases a:i=l
 ·rw [if_pos a];by_cases b:j=l
  ·rw [if_pos b];exact O.irr _
  ·rw [if_neg b,if_pos (by omega)];exact O.asy _ _ (h2 (j - 1) (by omega) (by omega))
 ·rw [if_neg a];by_cases b:j=l
  ·rw [if_pos b,if_neg (by omega)];exact h1 i (by omega)
  ·rw [if_neg b];by_cases a':l < i/\i<=k
   ·rw [if_pos a',if_pos (by omega)];exact hs _ _ (by omega) (by omega)
   ·rw [if_neg a'];by_cases b':l < j/\j<=k
    ·rw [if_pos b'];exact hs _ _ (by omega) (by omega)
    ·rw [if_neg b'];exact hs _ _ hi (by omega)
theorem uH (O:Ord q):∀(f:Nat) (p:Array Nat) (k:Nat),k + f<=p.size->Up q p k->Up q (aP q (OP f p k)) (k + f)
 | 0,p,k,_,h=>h
 | f + 1,p,k,hs,h=>by
  have e:aP q (OP (f + 1) p k)=aP q (OP f (bubble p k (k - aP q (IX p k k 0 k))) (k + 1)):=by rw [OP,run_bind]
  rw [e];obtain ⟨a1,a2,a3⟩:=lS O h k 0 k (Hh _) (Gm _) (by omega) (λi hi=>by omega) (λi h1 h2=>by omega);have:=uH O f (bubble p k (k - aP q (IX p k k 0 k))) (k + 1) (by rw [bubble_size];omega) (AF O (by omega) a1 h a2 a3);rw [show k + (f + 1)=k + 1 + f by omega];exact this
theorem Ac (O:Ord q) (n:Nat) (hn:1<=n):Up q (aP q (JF n)) n:=by
 unfold JF;rw [run_bind];obtain ⟨a0,a1,a2,a3⟩:=wO O (p:=(Gg n).toArray) (N:=n) hn (by simp);generalize aP q (N4 n (Gg n).toArray)=r at *;have a0:r.2.size=n:=by simpa using a0
 by_cases c:r.1 < n
 ·rw [if_pos c];have:=uH O (n - max r.1 1) r.2 (max r.1 1) (by omega) (by rw [show max r.1 1=r.1 by omega];exact a3)
  rwa [show max r.1 1 + (n - max r.1 1)=n by omega] at this
 ·rw [if_neg c];have:r.1=n:=by omega
  rw [this] at a3;exact a3
end
end DL
namespace DL
open PySem PySem.Spec PyProof.Rows L2
open PySem.W (kas_sort)
def dY (x y:D):Bool:=(dg x y).getD false
structure f7 (P:D->Prop):Prop where
 eq:∀x y,P x->P y->(bD x y=true↔x=y)
 lt:∀x y,P x->P y->(dg x y).isSome=true
 asy:∀x y,P x->P y->dY x y=true->dY y x=false
 tri:∀x y,P x->P y->dY x y=false->dY y x=false->x=y
 tra:∀x y z,P x->P y->P z->dY x y=true->dY y z=true->dY x z=true
def fL (xs ys:List D):Bool:=dY (.tup xs) (.tup ys)
theorem gG (x y:D) (xs ys:List D):fL (x::xs) (y::ys)=if bD x y=true then fL xs ys else dY x y:=by
 show (if bD x y=true then gT xs ys else dg x y).getD false=_;by_cases h:bD x y=true
 ·rw [if_pos h,if_pos h];rfl
 ·rw [if_neg h,if_neg h];rfl
variable {P R:D->Prop}
theorem nL (xs ys:List D):bD (.tup xs) (.tup ys)=dB xs ys:=by rw [bD]
theorem kK (x y:D) (xs ys:List D):dB (x::xs) (y::ys)=(bD x y && dB xs ys):=by rw [dB]
structure iw (Q:List D->Prop):Prop where
 eq:∀x y,Q x->Q y->(dB x y=true↔x=y)
 lt:∀x y,Q x->Q y->(gT x y).isSome=true
 asy:∀x y,Q x->Q y->fL x y=true->fL y x=false
 tri:∀x y,Q x->Q y->fL x y=false->fL y x=false->x=y
 tra:∀x y z,Q x->Q y->Q z->fL x y=true->fL y z=true->fL x z=true
theorem iw.tot {Q:List D->Prop}(h:iw Q):f7 λd=>∃xs,d=.tup xs/\Q xs where
 eq:=by rintro _ _ ⟨x,rfl,hx⟩ ⟨y,rfl,hy⟩;rw [nL,h.eq x y hx hy];exact ⟨λe=>e▸rfl,λe=>by cases e;rfl⟩
 lt:=by rintro _ _ ⟨x,rfl,hx⟩ ⟨y,rfl,hy⟩;exact h.lt x y hx hy
 asy:=by rintro _ _ ⟨x,rfl,hx⟩ ⟨y,rfl,hy⟩;exact h.asy x y hx hy
 tri:=by rintro _ _ ⟨x,rfl,hx⟩ ⟨y,rfl,hy⟩ h1 h2;rw [h.tri x y hx hy h1 h2]
 tra:=by rintro _ _ _ ⟨x,rfl,hx⟩ ⟨y,rfl,hy⟩ ⟨z,rfl,hz⟩;exact h.tra x y z hx hy hz
theorem rY (p:f7 P) (px:P x) (py:P y) (pz:P z) (h:fL r s=true->fL s t=true->fL r t=true) (h1:fL (x::r) (y::s)=true) (h2:fL (y::s) (z::t)=true):fL (x::r) (z::t)=true:=by
 rw [gG] at h1 h2 ⊢;by_cases e:x=y
 ·subst e;rw [if_pos ((p.eq x x px px).mpr rfl)] at h1;by_cases f:x=z
  ·subst f;rw [if_pos ((p.eq x x px px).mpr rfl)] at h2 ⊢;exact h h1 h2
  ·rw [if_neg λq=>f ((p.eq x z px pz).mp q)] at h2 ⊢;exact h2
 ·rw [if_neg λq=>e ((p.eq x y px py).mp q)] at h1;by_cases f:y=z
  ·subst f;rw [if_neg λq=>e ((p.eq x y px py).mp q)];exact h1
  ·rw [if_neg λq=>f ((p.eq y z py pz).mp q)] at h2;have h3:=p.tra x y z px py pz h1 h2;by_cases g:x=z
   ·subst g;have:=p.asy x x px px h3;rw [h3] at this;cases this
   ·rw [if_neg λq=>g ((p.eq x z px pz).mp q)];exact h3
theorem iw.cons {Q:List D->Prop}(p:f7 P) (h:iw Q):iw λxs=>∃x r,xs=x::r/\P x/\Q r where
 eq:=by rintro _ _ ⟨x,r,rfl,px,qr⟩ ⟨y,s,rfl,py,qs⟩;rw [kK,Gw,p.eq x y px py,h.eq r s qr qs];exact ⟨λe=>by rw [e.1,e.2],λe=>by cases e;exact ⟨rfl,rfl⟩⟩
 lt:=by
  rintro _ _ ⟨x,r,rfl,px,qr⟩ ⟨y,s,rfl,py,qs⟩;show (if bD x y=true then gT r s else dg x y).isSome=true;split
  ·exact h.lt r s qr qs
  ·exact p.lt x y px py
 asy:=by
  rintro _ _ ⟨x,r,rfl,px,qr⟩ ⟨y,s,rfl,py,qs⟩ hl;rw [gG] at hl ⊢;by_cases e:x=y
  ·subst e;rw [if_pos ((p.eq x x px px).mpr rfl)] at hl ⊢;exact h.asy r s qr qs hl
  ·rw [if_neg λz=>e ((p.eq x y px py).mp z)] at hl;rw [if_neg λz=>e ((p.eq y x py px).mp z).symm];exact p.asy x y px py hl
 tri:=by
  rintro _ _ ⟨x,r,rfl,px,qr⟩ ⟨y,s,rfl,py,qs⟩ h1 h2;rw [gG] at h1 h2;by_cases e:x=y
  ·subst e;rw [if_pos ((p.eq x x px px).mpr rfl)] at h1 h2;rw [h.tri r s qr qs h1 h2]
  ·rw [if_neg λz=>e ((p.eq x y px py).mp z)] at h1;rw [if_neg λz=>e ((p.eq y x py px).mp z).symm] at h2;exact absurd (p.tri x y px py h1 h2) e
 tra:=by rintro _ _ _ ⟨x,r,rfl,px,qr⟩ ⟨y,s,rfl,py,qs⟩ ⟨z,t,rfl,pz,qt⟩ h1 h2;exact rY p px py pz (h.tra r s t qr qs qt) h1 h2
theorem iw.nil:iw λxs=>xs=[] where
 eq:=by rintro _ _ rfl rfl;simp [dB]
 lt:=by rintro _ _ rfl rfl;rfl
 asy:=by rintro _ _ rfl rfl h;cases h
 tri:=by rintro _ _ rfl rfl _ _;rfl
 tra:=by rintro _ _ _ rfl rfl rfl h;cases h
theorem f7.list (p:f7 P):iw λxs=>∀x∈xs,P x where
 eq:=by
  intro xs
  induction xs with
  | nil=>intro ys _ _;cases ys <;> simp [dB]
  | cons x xs ih=>
   intro ys hx hy;cases ys with
   | nil=>simp [dB]
   | cons y ys=>
    rw [kK,Gw,p.eq x y (hx x Gs) (hy y Gs),ih ys (λz hz=>hx z (Gp _ hz)) λz hz=>hy z (Gp _ hz)];exact ⟨λe=>by rw [e.1,e.2],λe=>by cases e;exact ⟨rfl,rfl⟩⟩
 lt:=by
  intro xs
  induction xs with
  | nil=>intro ys _ _;rfl
  | cons x xs ih=>
   intro ys hx hy;cases ys with
   | nil=>rfl
   | cons y ys=>
    show (if bD x y=true then gT xs ys else dg x y).isSome=true;split
    ·exact ih ys (λz hz=>hx z (Gp _ hz)) λz hz=>hy z (Gp _ hz)
    ·exact p.lt x y (hx x Gs) (hy y Gs)
 asy:=by
  intro xs
  induction xs with
  | nil=>
   intro ys _ _ h;cases ys with
   | nil=>cases h
   | cons y ys=>rfl
  | cons x xs ih=>
   intro ys hx hy hl;cases ys with
   | nil=>cases hl
   | cons y ys=>
    have px:=hx x Gs;have py:=hy y Gs;rw [gG] at hl ⊢;by_cases e:x=y
    ·subst e;rw [if_pos ((p.eq x x px px).mpr rfl)] at hl ⊢;exact ih ys (λz hz=>hx z (Gp _ hz)) (λz hz=>hy z (Gp _ hz)) hl
    ·rw [if_neg λz=>e ((p.eq x y px py).mp z)] at hl;rw [if_neg λz=>e ((p.eq y x py px).mp z).symm];exact p.asy x y px py hl
 tri:=by
  intro xs
  induction xs with
  | nil=>
   intro ys _ _ h1 h2;cases ys with
   | nil=>rfl
   | cons y ys=>cases h1
  | cons x xs ih=>
   intro ys hx hy h1 h2;cases ys with
   | nil=>cases h2
   | cons y ys=>
    have px:=hx x Gs;have py:=hy y Gs;rw [gG] at h1 h2;by_cases e:x=y
    ·subst e;rw [if_pos ((p.eq x x px px).mpr rfl)] at h1 h2;rw [ih ys (λz hz=>hx z (Gp _ hz)) (λz hz=>hy z (Gp _ hz)) h1 h2]
    ·rw [if_neg λz=>e ((p.eq x y px py).mp z)] at h1;rw [if_neg λz=>e ((p.eq y x py px).mp z).symm] at h2;exact absurd (p.tri x y px py h1 h2) e
 tra:=by
  intro xs
  induction xs with
  | nil=>
   intro ys zs _ _ _ h1 h2;cases ys with
   | nil=>cases h1
   | cons y ys=>
    cases zs with
    | nil=>cases h2
    | cons z zs=>rfl
  | cons x xs ih=>
   intro ys zs hx hy hz h1 h2;cases ys with
   | nil=>cases h1
   | cons y ys=>
    cases zs with
    | nil=>cases h2
    | cons z zs=>
     have px:=hx x Gs;have py:=hy y Gs;have pz:=hz z Gs;exact rY p px py pz (ih ys zs (λz hz=>hx z (Gp _ hz)) (λz hz=>hy z (Gp _ hz)) λw hw=>hz w (Gp _ hw)) h1 h2
theorem Df:f7 λd=>∃k,d=.bl k where
 eq:=by rintro _ _ ⟨x,rfl⟩ ⟨y,rfl⟩;simp [bD]
 lt:=by rintro _ _ ⟨x,rfl⟩ ⟨y,rfl⟩;rfl
 asy:=by rintro _ _ ⟨x,rfl⟩ ⟨y,rfl⟩;revert x y;decide
 tri:=by
  rintro _ _ ⟨x,rfl⟩ ⟨y,rfl⟩ h1 h2;revert h1 h2;cases x <;> cases y <;> intro h1 h2
  ·rfl
  ·exact absurd h1 (by decide)
  ·exact absurd h2 (by decide)
  ·rfl
 tra:=by rintro _ _ _ ⟨x,rfl⟩ ⟨y,rfl⟩ ⟨z,rfl⟩;revert x y z;decide
theorem jc (x y:Int):dY (.int x) (.int y)=decide (x < y):=rfl
theorem Dg:f7 λd=>∃k,d=.int k where
 eq:=by rintro _ _ ⟨x,rfl⟩ ⟨y,rfl⟩;simp [bD]
 lt:=by rintro _ _ ⟨x,rfl⟩ ⟨y,rfl⟩;rfl
 asy:=by rintro _ _ ⟨x,rfl⟩ ⟨y,rfl⟩ h;rw [jc,decide_eq_true_eq] at h;rw [jc,decide_eq_false_iff_not];omega
 tri:=by rintro _ _ ⟨x,rfl⟩ ⟨y,rfl⟩ h1 h2;rw [jc,decide_eq_false_iff_not] at h1 h2;rw [show x=y by omega]
 tra:=by rintro _ _ _ ⟨x,rfl⟩ ⟨y,rfl⟩ ⟨z,rfl⟩ h1 h2;rw [jc,decide_eq_true_eq] at h1 h2 ⊢;omega
theorem kP (x y:Str):dY (.str x) (.str y)=decide (x.cps.toList < y.cps.toList):=rfl
theorem nV {x y:Str}(h:x.cps.toList=y.cps.toList):x=y:=by obtain ⟨⟨cx⟩⟩:=x;obtain ⟨⟨cy⟩⟩:=y;simp only at h;rw [h]
theorem Dh:f7 λd=>∃k,d=.str k where
 eq:=by rintro _ _ ⟨x,rfl⟩ ⟨y,rfl⟩;simp [bD]
 lt:=by rintro _ _ ⟨x,rfl⟩ ⟨y,rfl⟩;rfl
 asy:=by rintro _ _ ⟨x,rfl⟩ ⟨y,rfl⟩ h;rw [kP,decide_eq_true_eq] at h;rw [kP,decide_eq_false_iff_not];exact List.lt_asymm h
 tri:=by rintro _ _ ⟨x,rfl⟩ ⟨y,rfl⟩ h1 h2;rw [kP,decide_eq_false_iff_not] at h1 h2;rw [nV (NC h2 h1)]
 tra:=by rintro _ _ _ ⟨x,rfl⟩ ⟨y,rfl⟩ ⟨z,rfl⟩ h1 h2;rw [kP,decide_eq_true_eq] at h1 h2 ⊢;exact List.lt_trans h1 h2
inductive Fm where
 | b | i | s | hom (t:Fm) | tn | tc (x r:Fm)
noncomputable def lF:Fm->D->Prop
 | .b,d=>∃k,d=.bl k
 | .i,d=>∃k,d=.int k
 | .s,d=>∃k,d=.str k
 | .hom t,d=>∃xs,d=.tup xs/\∀x∈xs,lF t x
 | .tn,d=>∃xs,d=.tup xs/\xs=[]
 | .tc x r,d=>∃xs,d=.tup xs/\∃y ys,xs=y::ys/\lF x y/\lF r (.tup ys)
theorem f7.tail {Q:List D->Prop}(h:f7 R) (k:∀xs,Q xs->R (.tup xs)):iw Q where
 eq:=λx y hx hy=>by have:=h.eq _ _ (k x hx) (k y hy);rw [nL] at this;rw [this];exact ⟨λe=>by cases e;rfl,λe=>e▸rfl⟩
 lt:=λx y hx hy=>h.lt _ _ (k x hx) (k y hy)
 asy:=λx y hx hy=>h.asy _ _ (k x hx) (k y hy)
 tri:=λx y hx hy h1 h2=>by have:=h.tri _ _ (k x hx) (k y hy) h1 h2;cases this;rfl
 tra:=λx y z hx hy hz=>h.tra _ _ _ (k x hx) (k y hy) (k z hz)
theorem jD:∀t:Fm,f7 (lF t)
 | .b=>Df
 | .i=>Dg
 | .s=>Dh
 | .hom t=>(jD t).list.tot
 | .tn=>iw.nil.tot
 | .tc x r=>(iw.cons (jD x) (f7.tail (Q:=λys=>lF r (.tup ys)) (jD r) λ_ h=>h)).tot
theorem CT (ds:List D):(a_ ds).length=ds.length:=by
 unfold a_;by_cases h:ds.length < 2
 ·rw [if_pos h]
 ·rw [if_neg h,Gn];have:=((gc (n:=ds.length) (by omega)).run (ltB ds)).size_eq;simpa using this
theorem zz (ds:List D):(Gg ds.length).map (bR ds)=ds:=by refine KQ (by simp) λi h1 h2=>?_;rw [JP,List.getElem_range];unfold bR;rw [G6,Gr h2];rfl
theorem fH (ds:List D):(a_ ds).Perm ds:=by
 unfold a_;by_cases h:ds.length < 2
 ·rw [if_pos h]
 ·rw [if_neg h];have hp:=(gc (n:=ds.length) (by omega)).run (ltB ds);have hq:(aP (ltB ds) (JF ds.length)).toList.Perm (Gg ds.length):=by have:=Array.perm_iff_toList_perm.mp hp;simpa using this
  have:=hq.map (bR ds)
  rwa [zz] at this
theorem qJ (p:f7 P) (ds:List D) (h:∀x∈ds,P x):(a_ ds).Pairwise λx y=>dY y x=false:=by
 unfold a_;by_cases h2:ds.length < 2
 ·rw [if_pos h2]
  match ds,h2 with
  | [],_=>exact .nil
  | [x],_=>exact J_ _ _
 ·rw [if_neg h2];have hn:0 < ds.length:=by omega
  have hb:=gc (n:=ds.length) hn;have at_P:∀i,i < ds.length->P (bR ds i):=λi hi=>h _ (dh hi)
  let q':Nat->Nat->Bool:=λi j=>if i < ds.length then (if j < ds.length then ltB ds i j else true) else false
  have hq:aP (ltB ds) (JF ds.length)=aP q' (JF ds.length):=xV hb λi j hi hj=>by simp [q',hi,hj]
  have O:Ord q':=by
   constructor
   ·intro a b hab;by_cases ha:a < ds.length <;> by_cases hb:b < ds.length <;> simp [q',ha,hb] at hab ⊢
    exact p.asy _ _ (at_P a ha) (at_P b hb) hab
   ·intro a b c hab hbc;by_cases ha:a < ds.length <;> by_cases hb:b < ds.length <;> by_cases hc:c < ds.length <;> simp [q',ha,hb,hc] at hab hbc ⊢
    have h1:dY (bR ds b) (bR ds a)=false:=hab;have h2:dY (bR ds c) (bR ds b)=false:=hbc;show dY (bR ds c) (bR ds a)=false;cases g:dY (bR ds c) (bR ds a) with
    | false=>rfl
    | true=>
     have pa:=at_P a ha;have pb:=at_P b hb;have pc:=at_P c hc;cases g2:dY (bR ds a) (bR ds b) with
     | true=>
      have:=p.tra _ _ _ pc pa pb g g2;rw [this] at h2;cases h2
     | false=>
      rw [<-p.tri _ _ pb pa h1 g2] at g;rw [g] at h2;cases h2
  have up:=Ac O ds.length (by omega);have hs:=(hb.run (ltB ds));rw [hq] at hs ⊢;have hsz:(aP q' (JF ds.length)).size=ds.length:=by simpa using hs.size_eq
  generalize aP q' (JF ds.length)=A at *;rw [HV,Jb];intro i j hi hj hij;rw [GB] at hi hj;have:=up i j (by omega) (by omega);have e:∀k (hk:k < A.size),bh A k=A.toList[k]'(by rw [GB];exact hk):=λk hk=>by show A.getD k 0=_;simp [OB,hk]
  rw [e i hi,e j hj] at this;have l:∀k (hk:k < A.size),A.toList[k]'(by rw [GB];exact hk) < ds.length:=λk hk=>by rw [<-e k hk];exact hs.lt hn k
  have li:=l i hi;have lj:=l j hj;simp only [q',li,lj,if_true] at this;exact this
end DL
namespace DL
open PySem PySem.Spec PyProof.Rows L2
end DL
namespace DL
open PySem PySem.Spec PyProof.Rows L2 DX
end DL
namespace DL
open PySem PySem.Spec PyProof.Rows L2
end DL
namespace DL
open PySem PySem.Spec PyProof.Rows L2 DX
section
variable {M:Qh}{A:G3}{E:Ge->Gf->Prop}{s:Gf}
theorem tV {F0:K3}{globals:GF}{closure:List (Str×GF)}{F9:Str}{func:Option GF}{code:Ge}{outer:Env}{builtins:GF}{Q:Env->Gf->Prop}
  (hQ:Q (newEnv F0 s.heap.objs.size globals (G8 (s.heap.objs.size + 1) F0.names closure) F9 func code (some outer) builtins) {s with heap:=N8 (s.heap.push {cls:=.type "dict",data:=.dict #[]}) F0.names}):
  GH M A (Oo F0 globals closure [] F9 func code (some outer) builtins) Q E s:=by simp only [Oo,Option.isSome_some,if_true];refine Gb (wpAny_alloc ?_);refine Gb (wpAny_layCells _ (λname kind cells=>by cases hkc:kind == JY <;> simp [hkc]) _ _ _ _ ?_);rw [show ({s with heap:=s.heap.push {cls:=.type "dict",data:=.dict #[]}}:Gf).heap.objs.size=s.heap.objs.size + 1 from IE ..];simp only [Mu];exact Gb (Gk (Gk hQ))
theorem gx:∀(names:List (Str×IC)) (n:Nat) (acc:List (Str×GF)) (x:Str),(∀y∈names,y.2=.cell->y.1≠x)->(G8 n names acc).lookup x=acc.lookup x
 | [],_,_,_,_=>by unfold G8;rfl
 | (y,k)::r,n,acc,x,h=>by
  have hr:∀z∈r,z.2=.cell->z.1≠x:=λz hz=>h z (Gp _ hz);unfold G8;split
  ·rename_i hk;rw [gx r _ _ x hr];have hy:y≠x:=h (y,k) (Gs ..) (by simpa using hk);have:(x == y)=false:=by
    cases q:x == y with
    | false=>rfl
    | true=>exact absurd (eq_of_beq q).symm hy
   rw [HN,this]
  ·exact gx r _ _ x hr
end
theorem pC:∀(names:List (Str×IC)) (n:Nat) (acc:List (Str×GF)),G8 n names acc=G8 n names []++acc:=by
 intro names
 suffices ∀(n:Nat) (a b:List (Str×GF)),G8 n names (a++b)=G8 n names a++b by intro n acc;exact this n [] acc
 induction names with
 | nil=>intro n a b;unfold G8;rfl
 | cons p r ih=>
  obtain ⟨y,k⟩:=p;intro n a b;unfold G8;split
  ·exact ih _ (_::a) b
  ·exact ih _ a b
def cD (names:List (Str×IC)) (x:Str):Bool:=names.any λy=>y.1 == x && y.2 == .cell
theorem eV:∀(names:List (Str×IC)) (n:Nat) (acc:List (Str×GF)) (x:Str),((acc.lookup x).isSome=true\/cD names x=true)->((G8 n names acc).lookup x).isSome=true
 | [],_,_,_,h=>by
  unfold G8;rcases h with h | h
  ·exact h
  ·cases h
 | (y,k)::r,n,acc,x,h=>by
  unfold G8;have e:cD ((y,k)::r) x=((y == x && k == .cell) || cD r x):=rfl;rw [e] at h;split
  ·rename_i hk;refine eV r _ _ x ?_;by_cases hx:x=y
   ·left;subst hx;rw [HN];simp
   ·rcases h with h | h
    ·left;rw [HN];cases q:x == y with
     | true=>exact absurd (eq_of_beq q) hx
     | false=>exact h
    ·rw [IJ,Gw] at h;rcases h with h | h
     ·exact absurd (eq_of_beq h.1).symm hx
     ·exact .inr h
  ·rename_i hk;refine eV r _ _ x ?_;rcases h with h | h
   ·exact .inl h
   ·rw [IJ,Gw] at h;rcases h with h | h
    ·exact absurd h.2 hk
    ·exact .inr h
theorem eG {cl:List (Str×GF)}(h:(G8 n names cl).lookup x=some d):
  (G8 n names []).lookup x=some d\/(cD names x=false/\cl.lookup x=some d):=by
 rw [pC,List.lookup_append] at h;cases q:(G8 n names []).lookup x with
 | some e=>rw [q] at h;left;simpa using h
 | none=>
  rw [q] at h;right;refine ⟨?_,by simpa using h⟩;cases z:cD names x with
  | false=>rfl
  | true=>
   have:=eV names n [] x (.inr z);rw [q] at this;cases this
theorem jI {F0:K3}(h:(relabel F0 env).names.lookup x=some .cell\/(relabel F0 env).names.lookup x=some .free):(x,Hy)∈F0.names\/cD F0.names x=true:=by
 unfold relabel at h;revert h;generalize F0.names=names
 induction names with
 | nil=>intro h;simp at h
 | cons p r ih=>
  obtain ⟨n,k⟩:=p;intro h;rw [Ht] at h;simp only at h;by_cases hx:x=n
  ·subst hx;cases k with
   | free=>exact .inl (Gs ..)
   | cell=>right;unfold cD;simp
   | _=>simp [HN] at h
  ·have e:(x == n)=false:=by simpa using hx
   have h':(r.map λ(n,k)=>if (k == Hy && env.scope.kind == .function && env.kindOf n == some .cell) then (n,JY) else (n,k)).lookup x=some .cell\/(r.map λ(n,k)=>if (k == Hy && env.scope.kind == .function && env.kindOf n == some .cell) then (n,JY) else (n,k)).lookup x=some .free:=by split at h <;> simpa [HN,e] using h
   rcases ih h' with z | z
   ·exact .inl (Gp _ z)
   ·right;unfold cD at z ⊢;rw [KY,z,Bool.or_true]
section
variable {X:Cx}
noncomputable def gf (X:Cx) (own:List Str) (cap:List Nat) (F0:K3) (cl:List (Str×GF)) (C:GF) (s:Gf) (H:Hp) (fp:List GF):Cx:=
 {AQ X own cap F0 (G8 (C + 1) F0.names cl) C s H fp with fn:=cD F0.names}
theorem zc {H:Hp}{s:Gf}{F0:K3}(I:Inv X F3 σ H s) (hk:F0.kind=.function)
 (hcl:dH X.env.cells F0.names []=some cl) (ck:PM h1 (s.heap.objs.size + 1) (G8 (s.heap.objs.size + 1) F0.names [])) (hfp:∀b∈fp,fQ X F3 H b) (hin:∀b∈fp,b < s.heap.objs.size):(gf X own cap F0 cl s.heap.objs.size s H fp).Ok:=by
 obtain ⟨m1,m2⟩:=fj F0.names [] cl hcl (λx c h=>by simp at h);have lo:∀{x:Str}{d:GF},(G8 (s.heap.objs.size + 1) F0.names []).lookup x=some d->s.heap.objs.size + 1<=d:=fun {x d} h=>(ck.empty _ _ (Kl h)).2;have old:∀{x:Str}{d:GF},cl.lookup x=some d->d < s.heap.objs.size:=fun {x d} h=>by obtain ⟨v,z⟩:=I.cell x d (m1 x d h);exact z.lt
 refine ⟨I.ok.mod,hk,I.ok.glob,I.ok.blt,Gm _,λx y d h1 h2=>?_,λx hx=>?_,λx d hf h=>?_,λhc=>I.ok.hd hc,I.ok.frames,.inl rfl,λb hb=>⟨G9 (hin b hb),λx d h=>?_⟩,
  I.bs,HB I.ok.bsz I.sz,λb o h hb=>?_,λb hb hf=>?_,I.stack,I.stkFree⟩
 ·rcases eG h1 with h1 | ⟨_,h1⟩
  ·rcases eG h2 with h2 | ⟨_,h2⟩
   ·exact name_of_addr ck.apart (Kl h1) (Kl h2)
   ·exact absurd (Gy (old h2) (Ji (lo h1))) (Ik _)
  ·rcases eG h2 with h2 | ⟨_,h2⟩
   ·exact absurd (Gy (old h1) (Ji (lo h2))) (Ik _)
   ·exact I.ok.inj x y d (m1 x d h1) (m1 y d h2)
 ·refine Hz.mp (eV _ _ _ x ?_);rcases jI hx with z | z
  ·exact .inl (m2 x (.inr z))
  ·exact .inr z
 ·rcases eG h with h | ⟨z,h⟩
  ·exact Ji (lo h)
  ·have hf':cD F0.names x=true:=hf;rw [z] at hf';cases hf'
 ·rcases eG h with h | ⟨_,h⟩
  ·exact Lg (Gy (hin b hb) (Ji (lo h)))
  ·exact (hfp b hb).2.2.2.2.1 x d (m1 x d h)
 ·rcases (hfp b hb).2.2.2.1 with z | z
  ·exact I.ok.noex b o h z
  ·exact absurd (Gy (Gx (I.ok.bs b o h).1) z) (Ik _)
 ·rcases Gz.mp (I.stkSub b hf) with e | e
  ·exact (hfp b hb).2.1 e
  ·exact (hfp b hb).2.2.1 e
end
theorem qo {cl:List (Str×GF)}(h:cD names x=false):(G8 n names cl).lookup x=cl.lookup x:=
 gx names n cl x λy hy hk e=>by unfold cD at h;have:=List.any_eq_false.mp h y hy;simp [hk,e] at this
section
variable {X:Cx}
theorem wQ {F3:List (GF×Obj)}{σ:L2.St}{H:Hp}{s:Gf}{own:List Str}{cap:List Nat}{F0:K3}{cl:List (Str×GF)}{fp:List GF}{h1:Ij}{m:Str->Option Ge}{tk:Nat}(I:Inv X F3 σ H s) (ok:(gf X own cap F0 cl s.heap.objs.size s H fp).Ok)
  (hcl:dH X.env.cells F0.names []=some cl) (ck:PM h1 (s.heap.objs.size + 1) (G8 (s.heap.objs.size + 1) F0.names [])) (hcap:kI X cap=true) (ES:∀j∈cap,∀x,X.N[j]?=some x->(relabel F0 X.env).names.lookup x≠some .local)
  (hno:∀j∈cap,∀x,X.N[j]?=some x->cD F0.names x=false) (hns:h1.Ns s.heap.objs.size m) (old:∀b o,s.heap.get? b=some o->h1.get? b=some o):
  Inv (gf X own cap F0 cl s.heap.objs.size s H fp) [] (GQ own.length none++cap.map λ(j:Nat)=>(σ[j]?).getD none) H {s with heap:=h1,toks:=tk}:=by
 obtain ⟨m1,m2⟩:=fj F0.names [] cl hcl (λx c h=>by simp at h);refine ⟨ok,rfl,I.bare,Un.kept old,⟨m,hns,λi x v q1 q2 q3=>?_⟩,λx d h=>?_,I.hok.fresh (Gm _),λx d h=>?_,λp hp=>absurd (show p∈([]:List (GF×Obj)) from hp) (by simp),I.hok.kept old,?_⟩
 ·obtain ⟨j,h2,h3,h4⟩:=fP q2;have q1':(own++cap.map λ(j:Nat)=>(X.N[j]?).getD ("":Str))[i]?=some x:=q1;rw [HG (by exact h2),GK,h3] at q1';have hj:j∈cap:=GV h3;have hc:(match X.N[j]? with
   | some x=>(match X.env.scope.names.lookup x with
    | some .cell=>true
    | some .free=>true
    | _=>false)
   | none=>false)=true:=by unfold kI at hcap;exact GW.mp hcap j hj
  cases hx:X.N[j]? with
  | none=>rw [hx] at hc;cases hc
  | some y=>
   rw [NW,hx] at q1';rw [hx] at hc;have e:y=x:=by simpa using q1'
   subst e;have kd:X.env.kindOf y=some .cell\/X.env.kindOf y=some .free:=by
    unfold P5;simp only at hc;split at hc
    ·rename_i z;exact .inl z
    ·rename_i z;exact .inr z
    ·cases hc
   obtain ⟨mX,nX,lX⟩:=I.loc;obtain ⟨u,ru,lu⟩:=lX j y v hx h4 (kd.elim (λz=>.inr (.inl z)) λz=>.inr (.inr z));refine ⟨u,ru,.inr ?_⟩;have kd':(relabel F0 X.env).names.lookup y=some .cell\/(relabel F0 X.env).names.lookup y=some .free:=by
    rcases q3 with z | z | z
    ·exact absurd z (ES j hj y hx)
    ·exact .inl z
    ·exact .inr z
   refine ⟨kd',?_⟩;have no:=hno j hj y hx;have fr:(y,Hy)∈F0.names:=by
    rcases jI kd' with z | z
    ·exact z
    ·rw [no] at z;cases z
   obtain ⟨d,hd⟩:=Hz.mp (m2 y (.inr fr));refine ⟨d,(qo no).trans hd,?_⟩;rcases lu with ⟨z,_⟩ | ⟨_,d',hd',z⟩
   ·rcases kd with k | k <;> (rw [k] at z;cases z)
   ·have:=m1 y d hd;rw [hd'] at this;cases this;obtain ⟨o,ho,hod⟩:=z;exact ⟨o,old _ _ ho,hod⟩
 ·rcases eG h with h | ⟨_,h⟩
  ·exact ⟨none,(ck.empty _ _ (Kl h)).1⟩
  ·obtain ⟨v,o,ho,hod⟩:=I.cell x d (m1 x d h);exact ⟨v,o,old _ _ ho,hod⟩
 ·rcases eG h with h | ⟨_,h⟩
  ·exact I.hok.fresh (Ji (ck.empty _ _ (Kl h)).2)
  ·exact I.freeC x d (m1 x d h)
 ·show _=(own++cap.map λ(j:Nat)=>(X.N[j]?).getD ("":Str)).length;simp
end
theorem Be (h:Ij) (names:List (Str×IC)):(N8 (h.push {cls:=.type "dict",data:=.dict #[]}) names).Ns h.objs.size (λ_=>none):=
 (Heap.Ns.new h (.type "dict")).keeps λb o e=>N9 _ _ _ _ e
theorem uN (h:Ij) (names:List (Str×IC)):PM (N8 (h.push {cls:=.type "dict",data:=.dict #[]}) names) (h.objs.size + 1) (G8 (h.objs.size + 1) names []):=by have:=cellsFrom_ok names (h.push {cls:=.type "dict",data:=.dict #[]}) (h.objs.size + 1) [] ⟨λ_ _ hm=>(nomatch hm),JD⟩ (by rw [IE];exact Gm _);rw [IE] at this;exact this
noncomputable def yt (X:Cx) (cap:List Nat) (F0:K3):Bool:=cap.all λj=>match X.N[j]? with
 | some x=>!cD F0.names x
 | none=>true
section
variable {X:Cx}{c:C}
theorem rE {names names2:List (Str×IC)}(h:dH cells names []=some cl)
 (hn:(names2.all λy=>!(y.2 == .free) || ((names.any λz=>z.1 == y.1 && z.2 == .free) || cD names y.1))=true):(dH (G8 n names cl) names2 []).isSome=true:=by
 obtain ⟨_,m2⟩:=fj names [] cl h (λx c h=>by simp at h);have go:∀(l:List (Str×IC)) (cs:List (Str×GF)),(l.all λy=>!(y.2 == .free) || ((names.any λz=>z.1 == y.1 && z.2 == .free) || cD names y.1))=true->(dH (G8 n names cl) l cs).isSome=true:=by
  intro l
  induction l with
  | nil=>intro cs _;rfl
  | cons y r ih=>
   obtain ⟨y,k⟩:=y;intro cs hl;rw [KW,Gw] at hl;unfold dH;split
   ·rename_i hk;have h1:=hl.1;simp only [hk,OO,OS,IJ] at h1;have:((G8 n names cl).lookup y).isSome=true:=by
     refine eV names n cl y ?_;rcases h1 with z | z
     ·obtain ⟨q,hq,e⟩:=NH.mp z;rw [Gw] at e;have e1:q=(y,Hy):=by
       obtain ⟨q1,q2⟩:=q;have a1:q1=y:=eq_of_beq e.1;have a2:q2=Hy:=by simpa using e.2
       rw [a1,a2]
      exact .inl (m2 y (.inr (e1▸hq)))
     ·exact .inr z
    obtain ⟨a,ha⟩:=Hz.mp this;rw [ha];exact ih _ hl.2
   ·exact ih _ hl.2
 exact go names2 [] hn
end
end DL
namespace DL
open PySem PySem.Spec PyProof.Rows L2
section
variable {X:Cx}{c:C}{e a b:Hl}{es elts:List Hl}{pos tp:Pos}{kk:Nat}
noncomputable def lI:R->M (List D)
 | .d (.tup xs)=>.ok xs
 | .d (.lst xs)=>.ok xs
 | _=>.bad
theorem qP {β:Type}{x:R}{k:List D->M β}{Q:β->Prop}{T:Exc->Prop}(w:b_ (lI x >>= k) Q T):∃xs,lI x=.ok xs/\b_ (k xs) Q T:=by
 cases q:lI x with
 | bad=>rw [q] at w;exact w.elim
 | ok xs=>rw [q] at w;exact ⟨xs,rfl,w⟩
 | exc z=>unfold lI at q;split at q <;> cases q
noncomputable def tF (gs:G (List R)):G (List D):=λenv=>gs env >>= λrs=>match rs with
 | [x,y]=>lI x >>= λxs=>lI y >>= λys=>.ok (Lj (λa b=>.tup [a,b]) xs ys)
 | _=>.bad
theorem vP {c:C}{He J H:Hp}{x:R}{v:V}{xs:List D}(r:RR c He J H x v) (q:lI x=.ok xs):∃k l us,v=.ref l/\aD c.K J xs us/\fM k c.K J l us:=by
 cases x with
 | l m ys=>cases q
 | mo _ _=>cases q
 | mb _ _=>cases q
 | mf _ _=>cases q
 | ln _=>cases q
 | d y=>
  cases y with
  | tup ys=>
   cases q;cases r with
   | tup h1 h2=>exact ⟨"tuple_iterator",_,_,rfl,h2,.inr ⟨rfl,h1⟩⟩
  | lst ys=>
   cases q;cases r with
   | lst h1 h2=>exact ⟨"list_iterator",_,_,rfl,h2,.inl ⟨rfl,h1⟩⟩
  | _=>cases q
theorem fM.via {k:String}{K:Gd}{J H:Hp}{l:GF}{xs:List V}(h:fM k K J l xs) (s:aM J H):fM k K H l xs:=by
 rcases h with ⟨e,h⟩ | ⟨e,h⟩
 ·exact .inl ⟨e,s.seq h⟩
 ·exact .inr ⟨e,eL s h⟩
theorem wK:dG X (.type "range") (λxs H Q=>∃j:Int,xs=[.int j]/\∀p,H p=none->Q (.ref p) (upd H p (.rng 0 j))):=by intro F3 s σ H xs us Q I r h;obtain ⟨j,rfl,q⟩:=h;obtain ⟨u,rfl,t,rfl⟩:=vals1 r;refine call_range_1 ⟨.ref s.heap.objs.size,_,I.laid (λb o e=>Gh _ e) (Gm _) (show cS X.prog X.w _ _ _ (.rng 0 j) from ⟨_,_,_,Gu _ rfl⟩),rfl,q _ (I.hok.fresh (Gm _))⟩
def iP (n:Nat):List V:=(Gg n).map λ(k:Nat)=>V.int k
theorem yc {acc:Array Ge}(h:ItemsOf (λi v=>∃t,v=.int (0 + (i:Int) * 1) t) acc n):Vals (iP n) acc.toList:=by
 have key:∀(us:List Ge) (i:Nat),(∀j v,us[j]?=some v->∃t:Tok,v=OX ((i + j:Nat):Int) t)->Vals ((MD i us.length).map λ(k:Nat)=>V.int k) us:=by
  intro us
  induction us with
  | nil=>exact λi _=>.nil
  | cons u us ih=>
   intro i hj;obtain ⟨t,e⟩:=hj 0 u rfl;rw [JN,KL,Ht];refine .cons ⟨t,by rw [e];rfl⟩ (ih (i + 1) λj v hv=>?_);obtain ⟨t,e⟩:=hj (j + 1) v (by simpa using hv);exact ⟨t,by rw [e];congr 2;omega⟩
 have e:acc.toList.length=n:=by rw [GB];exact h.1
 unfold iP;rw [Mk,<-e];refine key acc.toList 0 λj v hv=>?_;obtain ⟨t,q⟩:=h.2 j v (by simpa using hv);exact ⟨t,by rw [q];congr 1;omega⟩
theorem pq (hc:X.calm=true):dG X (.type "list") (λxs H Q=>∃(p:GF) (j:Int),xs=[.ref p]/\H p=some (.rng 0 j)/\-(2 ^ 24)<=j/\j<=2 ^ 24/\∀l,H l=none->Q (.ref l) (upd H l (.lst (iP j.toNat)))):=by
 intro F3 s σ H xs us Q I r h;obtain ⟨p,j,rfl,hp,h0,h1,q⟩:=h;obtain ⟨u,rfl,rx⟩:=vals1 r;cases rx;obtain ⟨t,u,v,ho⟩:=I.hok p _ hp;have hn:LD 0 j 1=(j.toNat:Int):=by rw [OE];split <;> omega
 refine call_list_range (I.ok.hd hc) ho (small_one (by decide) (by decide) (by omega) (by omega)) hn (by omega) λh' tk acc' c' kp e hi=>?_;have hv:=yc hi;refine ⟨.ref s.heap.objs.size,_,I.laid kp (Gm _) (show cS X.prog X.w _ h' _ (.lst (iP j.toNat)) from ⟨?_,acc'.toList,c',hv,e⟩),rfl,q _ (I.hok.fresh (Gm _))⟩;unfold iP;rw [Gn,GN];show j.toNat<=2 ^ 24;omega
noncomputable def yw (gs:G (List R)):G R:=λenv=>gs env >>= λrs=>match rs with
 | [.d (.int j)]=>if below 16777216 j then .ok (.l .fresh (cH 0 j.toNat)) else .bad
 | _=>.bad
theorem xT {K:Gd}{J:Hp}(n:Nat):aD K J (cH 0 n) (iP n):=by
 unfold cH iP;generalize Gg n=ks
 induction ks with
 | nil=>exact .nil
 | cons k ks ih=>
  rw [Ht,Ht,L_];exact .cons (.int _) ih
end
end DL
namespace DL
open PySem PySem.Spec PyProof.Rows L2 DX
section
variable {X:Cx}{c:C}{e a:Hl}{es:List Hl}{ga g:G R}{pos:Pos}{L:List Str}{T:Str->Bool}
theorem qE {b:Hl}{elts:List Hl}{kk:Nat}{tp p:Pos}{gs:G (List R)}(ha:jE X c [a,b] gs) (hm:X.mg "zip"=none) (hK:X.K=c.K:=by rfl) (hg:Gl X "zip":=by rfl) (hs:GA [a,b] X.env=[(false,eval a X.env),(false,eval b X.env)]:=by rfl) (hs2:GA [b] X.env=[(false,eval b X.env)]:=by rfl):
  uA X c (.Tuple elts kk tp) (.Call (.Name "zip" p) [a,b] [] pos) (tF gs):=have ha:=ha.h;⟨
 mV (By hg hm ha hs hs2) λσ H Q ⟨J,env,sr,w⟩=>by
  refine ⟨J,env,sr,aE (aI w) λrs wr vs J1 H1 e1 r1=>?_⟩;split at wr
  ·obtain ⟨v,v2,rfl,r,r2⟩:=r1.two;obtain ⟨xs,q1,wr⟩:=qP wr;obtain ⟨ys,q2,wr⟩:=qP wr;have hp1:=sr.hp.ext e1;obtain ⟨k1,l1,us1,rfl,a1,s1⟩:=vP r q1;obtain ⟨k2,l2,us2,rfl,a2,s2⟩:=vP r2 q2;refine ⟨k1,l1,us1,k2,l2,us2,rfl,by rw [hK];exact s1.via hp1.sub,by rw [hK];exact s2.via hp1.sub,?_⟩;rw [hK];refine wr _ J1 H1 e1 λi J' H' hp u=>?_;have t1:=(s1.via u).via hp.sub;have t2:=(s2.via u).via hp.sub;refine ⟨λhl=>⟨us1,us2,t1,t2,?_⟩,λd hd=>?_⟩
   ·rw [List.length_zipWith,a1.length,a2.length] at hl;omega
   ·obtain ⟨x,y,ux,uy,rfl,b1,b2,c1,c2⟩:=xU a1 a2 hd;refine ⟨⟨us1,us2,ux,uy,t1,t2,b1,b2⟩,λz H2 ⟨q,hq,e,hy⟩=>?_⟩;have:=hy us1 us2 ux uy t1 t2 b1 b2;subst this e;have s':aM J' (upd J' q (.tup [ux,uy])):=cK (hp.sub.free hq) _;exact ⟨_,Ext.newJ hp.sub hq _,.tup (.inl (.inl cC)) (.cons ((c1.mono u).mono s') (.cons ((c2.mono u).mono s') .nil))⟩
  ·exact wr.elim⟩
theorem t6 {p p2 pos2:Pos}{gs:G (List R)}(ha:jE X c [a] gs) (hm:X.mg "range"=none) (hm2:X.mg "list"=none) (hc:X.calm=true:=by rfl) (hK:X.K=c.K:=by rfl) (hg:Gl X "range":=by rfl) (FO:Gl X "list":=by rfl)
  (hs:GA [a] X.env=(false,eval a X.env)::GA [] X.env:=by rfl) (hs0:(JG pos (GA [] X.env)).any (·.1)=false:=by rfl) (hs2:GA [Qk (.Name "range" p) [a] [] pos] X.env=(false,eval (Qk (.Name "range" p) [a] [] pos) X.env)::GA [] X.env:=by rfl) (FY:(JG pos2 (GA [] X.env)).any (·.1)=false:=by rfl):
  QD X c (.Call (.Name "list" p2) [.Call (.Name "range" p) [a] [] pos] [] pos2) (yw gs):=by
 have ha:=ha.h;refine ⟨?_⟩;have h1:=kh (p:=p) (pos:=pos) wK hg hm boot_range ha (by decide) (by decide) hs hs0;have h2:=kh (p:=p2) (pos:=pos2) (pq hc) FO hm2 sR (ig h1 kc hs2) (by decide) (by decide) hs2 FY;refine gn h2 λσ H Q ⟨J,env,sr,w⟩=>?_;refine ⟨J,env,sr,aE (aI w) λrs wr vs J1 H1 e1 r1=>?_⟩;split at wr
 ·rename_i j;obtain ⟨v,rfl,r⟩:=r1.one;cases r;split at wr
  ·rename_i hb;obtain ⟨b1,b2⟩:=cU.mp hb;refine ⟨j,rfl,λq hq=>?_⟩;refine ⟨q,j,rfl,cC,by omega,by omega,λl hl=>?_⟩;have hp1:=sr.hp.ext e1;have e2:=Ext.new hp1.sub hq (.rng 0 j);have hp2:=hp1.ext e2;have hr:RR c H1 J1 (upd (upd H1 q (.rng 0 j)) l (.lst (iP j.toNat))) (.l .fresh (cH 0 j.toNat)) (.ref l):=by obtain ⟨a,us,x1,x2,x3,x4,x5⟩:=iI (c:=c) hp2 hl (xT j.toNat);exact ⟨a,us,x1,x2,x3,e2.h.free x4,x5⟩
   exact wr _ _ _ ((e1.trans e2).trans (Ext.new hp2.sub hl _)) (by
    obtain ⟨a,us,x1,x2,x3,x4,x5⟩:=hr;exact ⟨a,us,x1,x2,x3,e1.h.free x4,x5⟩)
  ·exact wr.elim
 ·exact wr.elim
end
end DL
namespace DL
open PySem PySem.Spec PyProof.Rows L2
end DL
namespace DL
open PySem PySem.Spec PyProof.Rows L2 DX
open PySem.W (KasT kas_sort kas_ask)
end DL
namespace S6
open PySem PySem.Spec PyProof.Rows L2 DL
open PySem.W (kas_ask)
noncomputable def iH:D->Nat
 | .tup [.int a,.int b]=>1000 * a.toNat + b.toNat
 | _=>0
noncomputable def jX:D->Bool
 | .tup [.int a,.int b]=>decide (0<=a) && (decide (a < 1000) && (decide (0<=b) && decide (b < 1000)))
 | _=>false
def jv (ds:List D):Bool:=decide (ds.length=64) && (ds.all jX && decide ((ds.map iH).Nodup))
theorem gO {d:D}(h:jX d=true):∃a b:Nat,d=.tup [.int a,.int b]/\a < 1000/\b < 1000/\iH d=1000 * a + b:=by
 unfold jX at h;split at h
 ·rename_i a b;simp only [Gw,decide_eq_true_eq] at h;obtain ⟨h1,h2,h3,h4⟩:=h;obtain ⟨a',rfl⟩:=LK h1;obtain ⟨b',rfl⟩:=LK h3;exact ⟨a',b',rfl,by omega,by omega,rfl⟩
 ·cases h
theorem qp {x y:D}(hx:jX x=true) (hy:jX y=true):dg x y=some (decide (iH x < iH y)):=by
 obtain ⟨a,b,rfl,h1,h2,e1⟩:=gO hx;obtain ⟨c,d,rfl,h3,h4,e2⟩:=gO hy;rw [e1,e2];show (if bD (.int (a:Int)) (.int (c:Int))=true then (if bD (.int (b:Int)) (.int (d:Int))=true then some false else some (decide ((b:Int) < d))) else some (decide ((a:Int) < c)))=_;have eqi:∀i j:Int,(bD (.int i) (.int j)=true)↔i=j:=λi j=>by unfold bD;simp
 by_cases q1:(a:Int)=c
 ·rw [if_pos ((eqi _ _).mpr q1)];by_cases q2:(b:Int)=d
  ·rw [if_pos ((eqi _ _).mpr q2),decide_eq_false (by omega)]
  ·rw [if_neg λh=>q2 ((eqi _ _).mp h)];congr 1;rw [Kf,decide_eq_true_eq,decide_eq_true_eq];omega
 ·rw [if_neg λh=>q1 ((eqi _ _).mp h)];congr 1;rw [Kf,decide_eq_true_eq,decide_eq_true_eq];omega
theorem zP {x y:D}(hx:jX x=true) (hy:jX y=true) (h:iH x=iH y):x=y:=by
 obtain ⟨a,b,rfl,h1,h2,e1⟩:=gO hx;obtain ⟨c,d,rfl,h3,h4,e2⟩:=gO hy;rw [e1,e2] at h;have:a=c:=by omega
 have:b=d:=by omega
 subst a;subst b;rfl
noncomputable def nh (h:Ij) (x:GJ):Nat:=match x.1 with
 | .ref a=>(match h.get? a with
  | some o=>(match o.data with
   | .seq its _=>(match its.toList with
    | [.int i _,.int j _]=>1000 * i.toNat + j.toNat
    | _=>0)
   | _=>0)
  | none=>0)
 | _=>0
theorem BQ {K:Gd}{J:Hp}{s:Gf}(F:HF K J s){d:D}{v:V}{u z:Ge}(hp:jX d=true) (r:Rep K J d v) (rv:RelV v u):nh s.heap (u,z)=iH d:=by
 obtain ⟨a,b,rfl,_,_,e⟩:=gO hp;cases r with
 | tup h hs=>
  cases rv;obtain ⟨its,vl,o,ho,hc,n,hd⟩:=F.t _ _ h;cases hs with
  | cons r1 hs=>
   cases hs with
   | cons r2 hs=>
    cases hs;cases r1;cases r2;cases vl with
    | cons v1 vl=>
     cases vl with
     | cons v2 vl=>
      cases vl;obtain ⟨t1,rfl⟩:=v1;obtain ⟨t2,rfl⟩:=v2;unfold nh;simp only;rw [ho];simp only;rw [hd];rfl
theorem xK {α β:Type}{f:α->β}{l l':List β}(h:l.Perm l'):∀m:List α,l=m.map f->∃m':List α,m'.Perm m/\l'=m'.map f:=by
 induction h with
 | nil=>exact λm e=>⟨m,My _,e⟩
 | cons x _ ih=>
  intro m e;cases m with
  | nil=>cases e
  | cons y m=>
   cases e;obtain ⟨m',p,e⟩:=ih m rfl;exact ⟨y::m',p.cons y,by rw [e];rfl⟩
 | swap x y l=>
  intro m e
  match m,e with
  | a::b::m,e=>
   cases e;exact ⟨b::a::m,Ql _ _ _,rfl⟩
 | trans _ _ ih1 ih2=>
  intro m e;obtain ⟨m1,p1,e1⟩:=ih1 m e;obtain ⟨m2,p2,e2⟩:=ih2 m1 e1;exact ⟨m2,p2.trans p1,e2⟩
section
variable {prog:GG}{w:Hi}{A:G3}{E:Ge->Gf->Prop}{s:Gf}
theorem Cr {κ:Ip}{x y:GJ}{b:Bool}{Q:Option Bool->HH->Prop}{st:HH}(hk:kindOf st=κ) (h:∀C:Bool->Gf->Prop,C b s->GH (GD prog w) A (keyLt' κ x.1 y.1) C (λ_ _=>False) s) (q:Q (some b) st):wpS (GD prog w) A E s (lt' x y) Q st:=by rw [lt'_eq];refine Gj (JQ (Gj (LJ (KU ?_))));rw [hk];exact Hv (h (λb' s'=>b'=b/\s'=s) ⟨rfl,rfl⟩) (λb' s' ⟨e1,e2⟩=>⟨e2,by rw [e1];exact Gv q⟩) λ_ _ f=>f.elim
abbrev twice (vs:List Ge) (i:Nat):GJ:=(vs.getD i HD,vs.getD i HD)
theorem kG (vs:List Ge):(vs.toArray.zip vs.toArray).toList=(Gg vs.length).map (twice vs):=by rw [Array.toList_zip];refine KQ (by simp) λi h1 h2=>?_;simp at h1 h2;simp [twice,h1]
theorem qU {a:GF}{vs:List Ge}{n:Nat}{κ:Ip}{rk:GJ->Nat}{P:O5->Gf->Prop}(ho:s.heap.get? a=some (Ir "list" vs.toArray n)) (h64:vs.length=64) (nd:((Gg vs.length).map λi=>rk (twice vs i)).Nodup)
  (hk:∀h' C,(∀b o,b≠a->s.heap.get? b=some o->h'.get? b=some o)->C κ {s with heap:=h'}->GH (GD prog w) A (OQ vs.toArray) C (λ_ _=>False) {s with heap:=h'})
  (hc:∀h',(∀b o,b≠a->s.heap.get? b=some o->h'.get? b=some o)->∀i j C,i < vs.length->j < vs.length->C (decide (rk (twice vs i) < rk (twice vs j))) {s with heap:=h'}->kas_ask prog w A κ vs i j C {s with heap:=h'})
  (h:∀ix:List Nat,ix.Perm (Gg vs.length)->ix.Pairwise (λi j=>rk (twice vs i) < rk (twice vs j))->P (.done (.ret .none)) {s with heap:=Nj s.heap a vs (ix.map λi=>vs.getD i HD).toArray}):GH (GD prog w) A (K6.«list.sort» ⟨[.ref a],[]⟩) P E s:=by
 have la:a < s.heap.objs.size:=Gx ho;have sl:vs.length<=sizeLine:=by rw [IY];omega
 obtain ⟨e1,g1⟩:∃e1,(s.heap.update a (IS λ_=>(#[]:Array Ge))).get? a=some (Ir "list" #[] e1):=⟨_,(Mb ho λ_=>#[])⟩;have g3:(((s.heap.update a (IS λ_=>(#[]:Array Ge))).push (Ir "tuple" vs.toArray 0)).push (Ir "list" #[] 0)).get? a=some (Ir "list" #[] e1):=(Gh _ ((Gh _ g1)));have kp:∀b o,b≠a->s.heap.get? b=some o->(((s.heap.update a (IS λ_=>(#[]:Array Ge))).push (Ir "tuple" vs.toArray 0)).push (Ir "list" #[] 0)).get? b=some o:=λb o nb q=>
  Gh _ (Gh _ (by rw [La _ _ _ _ nb];exact q))
 rw [Mc];refine Gb ((Nv ho rfl ?_));refine Gb (Kd ho rfl ?_ (by rw [Gq];exact sl) (Hh _));refine Gb ((Lb g1 rfl ?_));refine Gb (Ln ?_ (show vs.length<=_ from sl));refine Gb ((K0 ?_ (Hh _)));refine (Im ?_);dsimp only;have n2:¬vs.toArray.size < 2:=by (rw [Gq]);omega
 rw [if_neg n2,if_neg n2];refine Gb (Hv (hk _ (λk s'=>k=κ/\s'=_) kp ⟨rfl,rfl⟩) ?_ λ_ _ x=>x.elim);rintro _ _ ⟨rfl,rfl⟩;have mz:∀x∈(vs.toArray.zip vs.toArray).toList,∃i,i < vs.length/\x=twice vs i:=λx hx=>by rw [kG] at hx;obtain ⟨i,hi,e⟩:=Gi.mp hx;exact ⟨i,Hu.mp hi,e.symm⟩
 refine Gb (Hv (BW (its:=λx=>∃i,i < vs.length/\x=twice vs i) (rk:=rk) (Q:=λ_ st'=>Kw st'=none/\(H_ st').toList.Perm (vs.toArray.zip vs.toArray).toList/\(H_ st').toList.Pairwise λx y=>rk x < rk y) (λx y ⟨i,hi,ex⟩ ⟨j,hj,ey⟩ Q st hk q=>by
   subst ex;subst ey;exact Cr hk (λC c=>hc _ kp i j C hi hj c) q) (by simp [h64]) (mL.mpr ⟨mz,by rw [kG,GS];exact nd⟩) λst' f1 f2 f3=>⟨f1,f2,f3⟩) ?_ λ_ _ e=>e)
 rintro ⟨⟨⟩,st'⟩ s' ⟨rfl,hf,hp,hu⟩;dsimp only at hf hp hu ⊢;rw [kG] at hp;obtain ⟨ix,pi,ei⟩:=xK hp.symm (Gg vs.length) rfl;have ou:(H_ st').map (·.2)=(ix.map λi=>vs.getD i HD).toArray:=by apply Jo.mp;rw [Array.toList_map,ei,GS];rfl
 rw [ei,HV] at hu;rw [ou];refine Gb ((Lb g3 rfl ?_));refine Gb (Kd g3 rfl ?_ (Hh _) (by rw [Gq,Gn,pi.length_eq,GN];omega));rw [hf];simp only [bne_self_eq_false,Kc,if_false];exact Gk (h ix pi hu)
end
end S6
namespace ST
open PySem PySem.SetTable
noncomputable def st (mask:Nat) (h:Int):Nat->Probe
 | 0=>({mask:=mask,place:=#[],dummies:=#[],finger:=0,led:=true,moves:=0,plain:=true}:SetTable).probeStart h
 | n + 1=>({mask:=mask,place:=#[],dummies:=#[],finger:=0,led:=true,moves:=0,plain:=true}:SetTable).advance (st mask h n)
abbrev pos (mask:Nat) (h:Int) (n:Nat):Nat:=(st mask h n).j
end ST
namespace DL
open PySem PySem.Spec PyProof.Rows L2
end DL
namespace DL
open PySem PySem.Spec PyProof.Rows L2 ST
end DL
namespace ST
open PySem PySem.SetTable
end ST
namespace DL
open PySem PySem.Spec PyProof.Rows L2 ST
end DL
namespace DL
open PySem PySem.Spec PyProof.Rows L2 ST
open PySem.W (KasT kas_sort kas_ask)
theorem lH {k:Hd}:∀{ds:List D},(∀d∈ds,gD d=some k)->fC k ds=true
 | [],_=>rfl
 | x::r,h=>by unfold fC;rw [h x (Gs ..),lH λd hd=>h d (Gp _ hd)];cases k <;> rfl
end DL
namespace DL
open PySem PySem.Spec PyProof.Rows L2 S6
section
variable {prog:GG}{w:Hi}{A:G3}{E:Ge->Gf->Prop}{s:Gf}
theorem vN {x:Ge}{Q:Ge->Gf->Prop}{vs:List Ge}{rk:GJ->Nat}(EV:Coll prog w A.in1 s x vs) (h64:vs.length=64) (nd:((Gg vs.length).map λi=>rk (twice vs i)).Nodup) (ha:jK prog w A.in1.in1 s vs λi j=>decide (rk (twice vs i) < rk (twice vs j)))
  (h:∀(ix:List Nat) (h':Ij) tk l n,ix.Perm (Gg vs.length)->ix.Pairwise (λi j=>rk (twice vs i) < rk (twice vs j))->Kp s.heap h'->s.heap.objs.size<=l->h'.get? l=some (Ir "list" (ix.map λi=>vs.getD i HD).toArray n)->Q (.ref l) {s with heap:=h',toks:=tk}):GH (GD prog w) A (call (.builtin "sorted") [x]) Q E s:=by
 have sl:vs.length<=sizeLine:=by rw [IY];omega
 refine (Lo kind_sorted plain_sorted entry_sorted (args_sorted1 _) ?_);unfold K6.«sorted»;refine Gb (m:=checkCount "sorted" 1 1 _) ((Gk ?_));refine Gb (EV _ _ λh1 tk1 k1 le1=>?_);refine Gb (K0 ?_ sl);have gL:(h1.push (Ir "list" vs.toArray 0)).get? h1.objs.size=some (Ir "list" vs.toArray 0):=Gu _ rfl;have kp:∀b o,s.heap.get? b=some o->b≠h1.objs.size/\(h1.push (Ir "list" vs.toArray 0)).get? b=some o:=λb o e=>by have e1:=k1 b o e;exact ⟨G9 (Gx e1),Gh _ e1⟩
 dsimp only;obtain ⟨κ,ask⟩:=ha (by omega);refine Gb (Im (Ia Mw ⟨_,gL,rfl⟩ Me (qU (κ:=κ) (rk:=rk) gL h64 nd (λh' C k c=>?_) (λh' k i j C hi hj c=>?_) λix pi hu=>⟨_,rfl,?_⟩) (Mx _)))
 ·exact (ask h' tk1 λb o e=>k b o (kp b o e).1 (kp b o e).2).1 C c
 ·exact (ask h' tk1 λb o e=>k b o (kp b o e).1 (kp b o e).2).2 i j C hi hj c
 ·obtain ⟨n,hn'⟩:=M1 (out:=(ix.map λi=>vs.getD i HD).toArray) gL;exact Gk ⟨_,rfl,h ix _ tk1 _ n pi hu (λb o e=>by
   obtain ⟨g1,g2'⟩:=kp b o e;rw [Ol g1 (Gx g2')];exact g2') le1 hn'⟩
end
def Dv:Fm:=.tc .i (.tc .i .tn)
theorem Ck {d:D}(h:jX d=true):lF Dv d:=by obtain ⟨a,b,rfl,_⟩:=gO h;exact ⟨_,rfl,_,_,rfl,⟨_,rfl⟩,⟨_,rfl,_,_,rfl,⟨_,rfl⟩,⟨_,rfl,rfl⟩⟩⟩
theorem oM (ds:List D):(Gg ds.length).map (bR ds)=ds:=by refine KQ (by simp) λi h1 h2=>?_;simp [bR,h2]
section
variable {X:Cx}{c:C}{e:Hl}{es:List Hl}{pos:Pos}
theorem AM {F3:List (GF×Obj)}{s:Gf}{σ:L2.St}{H J0:Hp}{Q:VK}{E:Ge->Gf->Prop}{x:Ge}{its:List Ge}{vs:List V}{ds:List D}(hu:X.A.units + 64 < Kn) (I:Inv X F3 σ H s) (N:HF X.K J0 s) (col:Coll X.prog X.w X.A.in1 s x its) (rv:Vals vs its) (rs:aD X.K J0 ds vs) (ok:jv ds=true)
  (q:∀l vs',H l=none->(∀J,aD X.K J ds vs->aD X.K J (a_ ds) vs')->Q (.ref l) (upd H l (.lst vs'))):GH (GD X.prog X.w) X.A (call (.builtin "sorted") [x]) (EP X F3 σ Q) E s:=by
 unfold jv at ok;rw [Gw,Gw] at ok;obtain ⟨o1,o2,o3⟩:=ok;have o1:=of_decide_eq_true o1;have o3:=of_decide_eq_true o3;have l1:vs.length=its.length:=rv.length;have l2:ds.length=vs.length:=rs.length;have pp:∀d∈ds,jX d=true:=GW.mp o2;have rke:∀i,i < its.length->nh s.heap (twice its i)=iH (bR ds i):=λi hi=>BQ N (pp _ (dh (by omega))) (fV rs (by omega)) (fX rv (by omega));have hk':fC .i ds=true:=lH λd hd=>by obtain ⟨a,b,rfl,_⟩:=gO (pp d hd);rfl
 have ak:jK X.prog X.w X.A.in1.in1 s its (ltB ds):=uE N rs rv (k:=.i) (λd hd=>by
   obtain ⟨a,b,rfl,_⟩:=gO (pp d hd);exact ⟨rfl,by show 1<=60;decide⟩) hk' (λx hx y hy=>by rw [qp (pp x hx) (pp y hy)];rfl) hu
 have ak2:jK X.prog X.w X.A.in1.in1 s its λi j=>decide (nh s.heap (twice its i) < nh s.heap (twice its j)):=λh2=>by
  obtain ⟨κ,ask⟩:=ak h2;refine ⟨κ,λh' tk kp=>⟨(ask h' tk kp).1,λi j C hi hj cc=>(ask h' tk kp).2 i j C hi hj ?_⟩⟩;have cc:C (decide (nh s.heap (twice its i) < nh s.heap (twice its j))) {s with heap:=h',toks:=tk}:=cc;rw [rke i hi,rke j hj] at cc;have:ltB ds i j=decide (iH (bR ds i) < iH (bR ds j)):=by unfold ltB;rw [qp (pp _ (dh (by omega))) (pp _ (dh (by omega)))];rfl
  rw [this];exact cc
 have rm:(Gg its.length).map (λi=>nh s.heap (twice its i))=ds.map iH:=by rw [show ds.map iH=((Gg ds.length).map (bR ds)).map iH by rw [oM],GS,show its.length=ds.length by omega];exact Ii λi hi=>rke i (by have:=Hu.mp hi;omega)
 refine vN (rk:=nh s.heap) col (by omega) (by rw [rm];exact o3) ak2 λix h' tk l n pi hup kp hl hg=>?_;have ib:∀i∈ix,i < ds.length:=λi hi=>by have:=Hu.mp (pi.mem_iff.mp hi);omega
 have eS:ix.map (bR ds)=a_ ds:=by
  refine OC (le:=λa b=>iH a<=iH b) (λa b ha hb h1 h2=>?_) ?_ ?_ ?_
  ·obtain ⟨i,hi,rfl⟩:=Gi.mp ha;exact zP (pp _ (dh (ib i hi))) (pp _ ((fH ds).mem_iff.mp hb)) (Nat.le_antisymm h1 h2)
  ·rw [HV];refine hup.imp_of_mem fun {i j} hi hj h=>?_;rw [rke i (by have:=ib i hi;omega),rke j (by have:=ib j hj;omega)] at h;exact Ky h
  ·refine (qJ (jD Dv) ds λd hd=>Ck (pp d hd)).imp_of_mem fun {x y} hx hy h=>?_;unfold dY at h;rw [qp (pp _ ((fH ds).mem_iff.mp hy)) (pp _ ((fH ds).mem_iff.mp hx))] at h;have:=of_decide_eq_false h;omega
  ·have:=(pi.map (bR ds)).trans (by rw [show its.length=ds.length by omega,oM]);exact this.trans (fH ds).symm
 have rv':=nW rv ix λi hi=>by have:=ib i hi;omega
 exact ⟨.ref l,_,I.laid (t':=tk) kp hl (show cS X.prog X.w _ _ _ (.lst (ix.map λi=>vs.getD i V.non)) from ⟨by rw [Gn,pi.length_eq,GN,IY];omega,_,n,rv',by simpa [Ir] using hg⟩),rfl,q l _ (I.hok.fresh hl) λJ rj=>by rw [<-eS];exact nS rj ix ib⟩
theorem pA (hu:X.A.units + 64 < Kn):dG X (.builtin "sorted") (λxs H Q=>∃p vs ds,xs=[.ref p]/\(cg X.K H p vs\/cZ X.K H p vs)/\aD X.K H ds vs/\jv ds=true/\∀l vs',H l=none->(∀J,aD X.K J ds vs->aD X.K J (a_ ds) vs')->Q (.ref l) (upd H l (.lst vs'))):=by intro F3 s σ H xs us Q I r h;obtain ⟨p,vs,ds,rfl,hq,rs,ok,q⟩:=h;obtain ⟨u,rfl,rx⟩:=vals1 r;cases rx;obtain ⟨its,rv,col⟩:=qh I hq;exact AM hu I (ie I) col rv rs ok q
noncomputable def i_:List R->M R
 | [r]=>i7 r >>= λxs=>if ly xs=true then .ok (.l .fresh (a_ xs)) else if mQ xs=true then .ok (.l .fresh (a_ xs)) else if jv xs=true then .ok (.l .fresh (a_ xs)) else .bad
 | _=>.bad
theorem oH {p:Pos}{gs:G (List R)}(hu:X.A.units + 64 < Kn) (ha:jE X c (e::es) gs) (hm:X.mg "sorted"=none) (hK:X.K=c.K:=by rfl) (hg:Gl X "sorted":=by rfl)
  (he:GA (e::es) X.env=(false,eval e X.env)::GA es X.env:=by rfl) (hpl:(JG pos (GA es X.env)).any (·.1)=false:=by rfl):QD X c (.Call (.Name "sorted" p) (e::es) [] pos) (gN i_ gs):=have ha:=ha.h;⟨
 jw (r:=λxs H Q=>∃p vs ds,xs=[.ref p]/\(cg X.K H p vs\/cZ X.K H p vs)/\aD X.K H ds vs/\((ly ds=true\/mQ ds=true)\/jv ds=true)/\∀l vs',H l=none->(∀J,aD X.K J ds vs->aD X.K J (a_ ds) vs')->Q (.ref l) (upd H l (.lst vs'))) (λF3 s σ H xs us Q I r h=>by
   obtain ⟨p,vs,ds,e1,hq,rs,ok,q⟩:=h;rcases ok with ok | ok
   ·exact pY hu F3 s σ H xs us Q I r ⟨p,vs,ds,e1,hq,rs,ok,q⟩
   ·exact pA hu F3 s σ H xs us Q I r ⟨p,vs,ds,e1,hq,rs,ok,q⟩) (by
  intro He J H xs vs Q hp rs w;unfold i_ at w;split at w
  ·obtain ⟨v,rfl,r⟩:=rs.one;obtain ⟨xs,q,w⟩:=jg w;obtain ⟨p,vs,rfl,h1,h2⟩:=kH hp r q;rw [hK];have ow:((ly xs=true\/mQ xs=true)\/jv xs=true)/\b_ (M.ok (R.l .fresh (a_ xs))) (λz=>∀w J' H',Ext J H J' H'->RR c H J' H' z w->Q w H') c.T:=by
    split at w
    ·rename_i ok;exact ⟨.inl (.inl ok),w⟩
    ·split at w
     ·rename_i ok;exact ⟨.inl (.inr ok),w⟩
     ·split at w
      ·rename_i ok;exact ⟨.inr ok,w⟩
      ·exact w.elim
   obtain ⟨ok,w⟩:=ow;exact ⟨p,vs,xs,rfl,h1,h2.mono hp.sub,ok,λl vs' hl rr=>w _ _ _ (Ext.new hp.sub hl _) (iI hp hl (rr _ h2))⟩
  ·exact w.elim) jQ hm ha hg (by decide) (by decide) he hpl⟩
end
end DL
namespace DL
open PySem PySem.Spec PyProof.Rows L2 DX
noncomputable def c5 (gt:GT) (gts:G Bool) (act:Ev->M (List D×Ev)):List D->Ev->M (List D×Ev)
 | [],env=>.ok ([],env)
 | d::ds,env=>gt d env >>= λe=>gts e >>= λk=>if k=true then act e >>= λr=>c5 gt gts act ds r.2 >>= λz=>.ok (r.1++z.1,z.2) else c5 gt gts act ds e
def rq (env:Ev) (σ:L2.St) (p:GF):Prop:=∀(j:Nat) (xs:Mn),env[j]?=some (some (mS xs))->σ[j]?≠some (some (.ref p))
structure v_ (Acc:Hp->Hp->List D->Prop):Prop where
 ext:∀{J H J' H':Hp}{ys:List D},Acc J H ys->Ext J H J' H'->Acc J' H' ys
noncomputable def wA (X:Cx) (c:C) (p:GF) (Acc:Hp->Hp->List D->Prop) (J2 H2:Hp) (N:Nat) (m:Sem Unit) (act:Ev->M (List D×Ev)):Prop:=
 ∀(F3:List (GF×Obj)) (s:Gf) (σ:L2.St) (H J:Hp) (env:Ev) (ys:List D) (Qf:List D×Ev->Prop),Inv X F3 σ H s->Ext J2 H2 J H->SR c J H σ env->rq env σ p->Acc J H ys->ys.length + N<=sizeLine->b_ (act env) Qf c.T->
  GH (GD X.prog X.w) X.A m (λ_ s'=>∃σ' H' J' r,Inv X F3 σ' H' s'/\Ext J2 H2 J' H'/\aM J J'/\SR c J' H' σ' r.2/\rq r.2 σ' p/\Acc J' H' (ys++r.1)/\r.1.length<=N/\Qf r) (λ_ _=>False) s
abbrev vR (ifs:List Hl) (env:Env):Sem Bool:=forIn ifs true λc r=>if r=true then do let ok <-Ot c env (eval c env);pure (IK ok) else pure (IK r)
abbrev yP (F5 F7:Hl) (ifs:List Hl) (it:Ge) (env:Env) (act:Sem Unit) (again':Sem Fin):Sem Fin:=do
 Pe F7.pos
 match <-Nm it with
 | none=>pure (.done .next)
 | some v=>
  Jv F5 it v
  assign F5 env v
  let mut ok:=true
  for c in ifs do
   if ok then ok <-Ot c env (eval c env)
  if ok then
   act
  again'
noncomputable def sG (prog:GG) (w:Hi) (A:G3) (e:Hl) (depth:Nat) (it acc:Ge) (env:Env) (F5:Hl) (ifs:List Hl) (m:Sem Unit):Prop:=
 ∀(R:Result->Gf->Prop) (I:Nat->Gf->Prop),(∀n s,I n s->GH (GD prog w) A (Nm it) (λr s₁=>match r with
   | none=>R (.ok .next) s₁
   | some v=>GH (GD prog w) A (Jv F5 it v) (λ_ s₁=>GH (GD prog w) A (assign F5 env v) (λ_ s₂=>
     GH (GD prog w) A (vR ifs env) (λok s₃=>if ok=true then GH (GD prog w) A m (λ_ s₅=>∃m,m < n/\I m s₅) (λ_ _=>False) s₃ else ∃m,m < n/\I m s₃) (λ_ _=>False) s₂) (λ_ _=>False) s₁) (λ_ _=>False) s₁) (λ_ _=>False) s)->
  ∀(n:Nat) (s:Gf),I n s->LF (GD prog w) A (.compLoop e depth it acc env) R s
section
variable {prog:GG}{w:Hi}{A:G3}{F5 F7:Hl}{ifs:List Hl}{F0:K3}{pos:Pos}{it acc:Ge}{env:Env}{depth:Nat}{gens:List OU}{act:Sem Unit}
theorem ya {R:Result->Gf->Prop}{I:Nat->Gf->Prop}{E:Ge->Gf->Prop}{code:Code}{n:Nat}{s:Gf}{Q:Fin->Gf->Prop}
  (FG:∀s,R (.ok .next) s->Q (.done .next) s) (Fx:∀s,(∃m,m < n/\I m s)->GH (GD prog w) A (again code) Q E s)
  (t:GH (GD prog w) A (Nm it) (λr s₁=>match r with
   | none=>R (.ok .next) s₁
   | some v=>GH (GD prog w) A (Jv F5 it v) (λ_ s₁=>GH (GD prog w) A (assign F5 env v) (λ_ s₂=>
     GH (GD prog w) A (vR ifs env) (λok s₃=>if ok=true then GH (GD prog w) A act (λ_ s₅=>∃m,m < n/\I m s₅) (λ_ _=>False) s₃ else ∃m,m < n/\I m s₃) (λ_ _=>False) s₂) (λ_ _=>False) s₁) (λ_ _=>False) s₁) (λ_ _=>False) s):
  GH (GD prog w) A (yP F5 F7 ifs it env act (again code)) Q E s:=by
 refine Gb (M3 (Gb (Hv t (λr s₁ h₁=>?_) λ_ _ f=>f.elim)));cases r with
 | none=>exact Gk (FG _ h₁)
 | some v=>
  refine Gb (Hv h₁ (λ_ s₁' h₁'=>?_) λ_ _ f=>f.elim);refine Gb (Hv h₁' (λ_ s₂ h₂=>Gb (Hv h₂ (λok s₃ h₃=>?_) λ_ _ f=>f.elim)) λ_ _ f=>f.elim);cases ok with
  | false=>exact Fx _ h₃
  | true=>exact Gb (Hv h₃ (λ_ s₅ h₅=>Fx _ h₅) λ_ _ f=>f.elim)
theorem Cp {elt:Hl}(ht:compTurn (.ListComp elt gens F0 pos) depth it acc env=yP F5 F7 ifs it env act (again (.compLoop (.ListComp elt gens F0 pos) depth it acc env))):sG prog w A (.ListComp elt gens F0 pos) depth it acc env F5 ifs act:=by intro R I turn n s h;refine codeAny_loop rfl I (λn s hI=>?_) n h;show GH _ A ((compTurn (.ListComp elt gens F0 pos) depth it acc env).onRaise (λx=>do noteFrame x env;theTreesLotGoes x)) _ _ s;refine wpAny_noted ?_;rw [ht];exact ya (λ_ h=>h) (λ_ h=>Gk ⟨rfl,h⟩) (turn n s hI)
end
section
variable {X:Cx}{c:C}{p:GF}{Acc:Hp->Hp->List D->Prop}{J2 H2:Hp}{N:Nat}{m:Sem Unit}{act:Ev->M (List D×Ev)}{F5:Hl}{ifs:List Hl}{gt:GT}{gts:G Bool}{e:Hl}{depth:Nat}{acc:Ge}{it:GF}{fp:List GF}{tn:Nat->Ij->Prop}{It:It}{ds:List D}{J1:Hp}
theorem xq (aR:v_ Acc) (hc:X.calm=true) (hx:∀v s,X.xe v s->False) (LP:sG X.prog X.w X.A e depth (.ref it) acc X.env F5 ifs m) (hT:yj X c F5 gt) (hIf:wB X c ifs gts) (hA:wA X c p Acc J2 H2 N m act) (T:Turn X.prog X.w X.K F5 It fp it tn)
 (U:Hp->Hp->Prop) (wk:Walk c It ds J1 U){s:Gf}{H J:Hp}{ys:List D}{Qf:List D×Ev->Prop}(hU:∀J' H',Ext J2 H2 J' H'->aM J J'->U J' H') (I:Inv X F3 σ H s) (st:tn 0 s.heap) (fr:∀b∈fp,fQ X F3 H b) (e2:Ext J2 H2 J H) (sr:SR c J H σ env) (no:rq env σ p) (ac:Acc J H ys)
 (hl:ys.length + ds.length * N<=sizeLine) (w:b_ (c5 gt gts act ds env) Qf c.T):
  LF (GD X.prog X.w) X.A (.compLoop e depth (.ref it) acc X.env) (λr s'=>r=.ok .next/\∃σ' H' J' r',Inv X F3 σ' H' s'/\Ext J2 H2 J' H'/\aM J J'/\SR c J' H' σ' r'.2/\rq r'.2 σ' p/\Acc J' H' (ys++r'.1)/\r'.1.length<=ds.length * N/\Qf r') s:=by
 refine LP _ (λn s'=>∃(i:Nat) (σ':L2.St) (H' J':Hp) (env':Ev) (zs:List D),n=ds.length - i/\i<=ds.length/\Inv X F3 σ' H' s'/\tn i s'.heap/\(∀b∈fp,H' b=none)/\Ext J2 H2 J' H'/\aM J J'/\SR c J' H' σ' env'/\rq env' σ' p/\Acc J' H' (ys++zs)/\zs.length<=i * N/\
  b_ (c5 gt gts act (ds.drop i) env') (λr=>Qf (zs++r.1,r.2)) c.T) ?_ ds.length s ⟨0,σ,H,J,env,[],rfl,Hh _,I,st,λb hb=>(fr b hb).1,e2,aM.refl J,sr,no,by rw [HL];exact ac,by simp,by rw [Js];exact w⟩
 rintro n s' ⟨i,σ',H',J',env',zs,rfl,hi,I',st',fr',e',sj,sr',no',ac',hz,w'⟩;have stat:∀{H':Hp},(∀b∈fp,H' b=none)->∀b∈fp,fQ X F3 H' b:=λhn b hb=>⟨hn b hb,(fr b hb).2⟩;obtain ⟨wk1,wk2⟩:=wk i J' H' sr'.hp (hU J' H' e' sj);by_cases hlt:i < ds.length
 ·obtain ⟨g1,y1⟩:=wk2 ds[i] (by simp [hlt]);rw [Io hlt] at w';refine Hv (T.item X rfl rfl rfl hc i F3 s' σ' H' (λ_ _=>False) I' (stat fr') st' g1) (λr s4 ⟨u,hr,h4⟩=>?_) λ_ _ f=>f.elim;subst hr;refine Hv h4 (λ_ s5 ⟨x,H5,I5,r5,y5,st5,fr5⟩=>?_) λ_ _ f=>f.elim;obtain ⟨J5,e5,rx⟩:=y1 x H5 y5;have I5':=I5.pinned (stat fr5) (T.obj _ _ st5);have again:∀{σ7:L2.St}{H7:Hp}{s7:Gf},Inv X (F3++ki fp s5.heap) σ7 H7 s7->Inv X F3 σ7 H7 s7/\tn (i + 1) s7.heap/\(∀b∈fp,H7 b=none):=fun {σ7 H7 s7} I7=>by refine ⟨I7.unpinned,T.keep _ _ _ st5 λb hb o e=>(I7.pin (b,o) (G1 _ (G1 _ (gZ hb e)))).1,λb hb=>?_⟩;obtain ⟨o,e,d⟩:=T.obj _ _ st5 b hb;exact (I7.pin (b,o) (G1 _ (G1 _ (gZ hb e)))).2.1
  refine Hv (hT _ s5 σ' H5 x u (λσ6 H6=>∃e6,H6=H5/\SR c J5 H5 σ6 e6/\KO env' σ' e6 σ6/\b_ (gts e6 >>= λk=>if k=true then act e6 >>= λr=>c5 gt gts act (ds.drop (i + 1)) r.2 >>= λz=>.ok (r.1++z.1,z.2) else c5 gt gts act (ds.drop (i + 1)) e6)
   (λr=>Qf (zs++r.1,r.2)) c.T) I5' r5 ⟨J5,env',ds[i],sr'.ext e5,rx,aE (aI w') λe6 w6 σ6 sr6 ko=>⟨e6,rfl,sr6,ko,w6⟩⟩) (λ_ s6 ⟨σ6,H6,I6,e6,FF,sr6,ko,w6⟩=>?_) λ_ _ f=>(hx _ _ f).elim
  subst FF;have no6:rq e6 σ6 p:=λj xs q z=>by obtain ⟨k1,k2⟩:=ko j xs q;exact no' j xs k1 (k2▸z)
  refine Hv (hIf _ s6 σ6 H6 (λk H7=>∃J7,Ext J5 H6 J7 H7/\b_ (if k=true then act e6 >>= λr=>c5 gt gts act (ds.drop (i + 1)) r.2 >>= λz=>.ok (r.1++z.1,z.2) else c5 gt gts act (ds.drop (i + 1)) e6)
   (λr=>Qf (zs++r.1,r.2)) c.T) I6 ⟨J5,e6,sr6,aE (aI w6) λk wk J7 H7 e7=>⟨J7,e7,wk⟩⟩) (λk s7 ⟨H7,I7,J7,e7,w7⟩=>?_) λ_ _ f=>(hx _ _ f).elim
  have sr7:=sr6.ext e7;have ac7:=aR.ext (aR.ext ac' e5) e7;have x7:=(e'.trans e5).trans e7;have j7:=(sj.trans e5.j).trans e7.j;have hm:(i + 1) * N=i * N + N:=by rw [PN,Nat.one_mul]
  cases k with
  | false=>
   rw [if_neg (by decide)] at w7 ⊢;obtain ⟨a1,a2,a3⟩:=again I7;exact ⟨ds.length - (i + 1),by omega,i + 1,σ6,H7,J7,e6,zs,rfl,hlt,a1,a2,a3,x7,j7,sr7,no6,ac7,by omega,w7⟩
  | true=>
   rw [if_pos rfl] at w7 ⊢;have hN:(i + 1) * N<=ds.length * N:=Mm N hlt;refine Hv (hA _ s7 σ6 H7 J7 e6 (ys++zs) _ I7 x7 sr7 no6 ac7 (by rw [GR];omega) (aI w7)) (λ_ s8 ⟨σ8,H8,J8,r,I8,x8,j8,sr8,no8,ac8,l8,w8⟩=>?_) λ_ _ f=>f.elim;obtain ⟨a1,a2,a3⟩:=again I8;refine ⟨ds.length - (i + 1),by omega,i + 1,σ8,H8,J8,r.2,zs++r.1,rfl,hlt,a1,a2,a3,x8,j7.trans j8,sr8,no8,by rw [<-G2];exact ac8,by rw [GR];omega,?_⟩;refine aE (aI w8) λz q=>?_;rw [G2];exact q
 ·have FQ:i=ds.length:=by omega
  subst FQ;rw [LW (Gm _)] at w';refine Hv (T.done X rfl rfl rfl hc _ F3 s' σ' H' (λ_ _=>False) I' (stat fr') st' (wk1 (Gm _))) (λr s4 ⟨hr,I9⟩=>?_) λ_ _ f=>f.elim;subst hr;have w9:Qf (zs++[],env'):=w';rw [HL] at w9;exact ⟨rfl,σ',H',J',(zs,env'),I9,e',sj,sr',no',ac',hz,w9⟩
end
def f9 (ge:G R):Ev->M (List D×Ev):=λe=>ge e >>= λr=>toD r >>= λy=>.ok ([y],e)
def wF (c:C) (p:GF):Hp->Hp->List D->Prop:=λJ H ys=>∃us,H p=some (.lst us)/\J p=none/\aD c.K J ys us
theorem wG:v_ (wF c p):=⟨fun {J H J' H' ys} ⟨us,h1,h2,h3⟩ e=>⟨us,e.h _ _ h1,e.frz _ (by rw [h1];intro z;cases z) h2,h3.mono e.j⟩⟩
section
variable {X:Cx}{c:C}{p:GF}{J2 H2:Hp}{elt:Hl}{ge:G R}
theorem yV (hx:∀v s,X.xe v s->False) (hp2:H2 p=none) (hp0:c.H0 p=none) (hE:PD X c elt ge):wA X c p (wF c p) J2 H2 1 (do let _ <-call (.builtin "list.append") [.ref p,<-eval elt X.env]) (f9 ge):=by
 intro F3 s σ H J env ys Qf I x2 sr no ⟨us,h1,h2,h3⟩ hl w;have hlen:ys.length=us.length:=h3.length;refine Gb (Hv (hE _ s σ H (λv H8=>∃J8 y,Ext J H J8 H8/\Rep c.K J8 y v/\Qf ([y],env)) I ⟨J,env,sr,aE (aI w) λr wr v J8 H8 e8 r8=>?_⟩) (λu8 s8 ⟨v8,H8,I8,r8,J8,y,e8,ry,w8⟩=>?_) λv s f=>(hx v s f).elim)
 ·obtain ⟨y,q,wr⟩:=kW wr;obtain ⟨J9,e9,_,ry⟩:=freeze e8 r8 q;exact ⟨J9,y,e9,ry,wr⟩
 have p8:H8 p=some (.lst us):=e8.h _ _ h1;have J8p:J8 p=none:=e8.frz _ (by rw [h1];intro z;cases z) h2;refine Gb (Hv (oG (X:=X) _ s8 σ H8 (.ref p) [v8] (.ref p) [u8] (λ_ H9=>H9=L2.upd H8 p (.lst (us++[v8]))) I8 rfl (.cons r8 .nil) ⟨_,us,v8,rfl,rfl,p8,by omega,rfl⟩) (λ_ s9 ⟨_,H9,I9,_,h9⟩=>?_) λv s f=>(hx v s f).elim);subst h9;exact Gk ⟨σ,_,J8,([y],env),I9,(x2.trans e8).other hp2 J8p,e8.j,(sr.ext e8).other J8p hp0 no,no,⟨us++[v8],cC,J8p,(h3.mono e8.j).append (.cons ry .nil)⟩,Gm _,w8⟩
end
noncomputable def p_ (lim n:Nat) (cap:List Nat) (gi:G (List D)) (gt:GT) (gts:G Bool) (act:Ev->M (List D×Ev)) (fin:List D->M R):G R:=λenv=>gi env >>= λds=>if ds.length<=lim then c5 gt gts act ds (cE n cap env) >>= λr=>fin r.1 else .bad
section
variable {X:Cx}{c:C}
structure An (X:Cx) (F0:K3) (cap:List Nat) (F7:Hl):Prop where
 hk:F0.kind=.function
 hno:yt X cap F0=true
 hnames:(F0.names.all λx=>!(x.2 == .local) || (F0.names.lookup x.1 == some .local))=true
 hcl:(dH X.env.cells F0.names []).isSome=true
 hcap:kI X cap=true
 hloc:uM X cap F0=true
 hnd:qv cap=true
 ET:X.calm=true
 hs:∀x,Kq F7 X.env x=pure x
theorem AI {F0:K3}{cap:List Nat}{F7:Hl}(hcl:(dH X.env.cells F0.names []).isSome=true) (hk:F0.kind=.function:=by rfl) (hno:yt X cap F0=true:=by rfl) (hnames:(F0.names.all λx=>!(x.2 == .local) || (F0.names.lookup x.1 == some .local))=true:=by rfl)
  (hcap:kI X cap=true:=by rfl) (hloc:uM X cap F0=true:=by rfl) (hnd:qv cap=true:=by rfl) (ET:X.calm=true:=by rfl) (hs:∀x,Kq F7 X.env x=pure x:=by intro _;rfl):An X F0 cap F7:=⟨hk,hno,hnames,hcl,hcap,hloc,hnd,ET,hs⟩
noncomputable def ur (X:Cx) (c:C) (cm:Option (Ge->Sem Unit)->Sem Ge) (g:G R):Prop:=
 ∀{F3:List (GF×Obj)}{s:Gf}{σ:L2.St}{H:Hp}{Q:VK}{use:Option (Ge->Sem Unit)}{Q0:Ge->Gf->Prop},Inv X F3 σ H s->tD c g σ H Q->
  (∀(acc C:GF) (m:Str->Option Ge) (s':Gf) (H':Hp) (fl:Flow),s'.heap.Ns C m->((C∈X.ex\/X.s₀.heap.objs.size<=C)/\C≠X.env.locals/\(∀x c,X.env.cells.lookup x=some c->c≠C)/\∀p∈X.pn++F3,p.1≠C)->H' C=none->(∀h'',IV C s'.heap h''->Inv X F3 σ H' {s' with heap:=h''})->Q (.ref acc) H'->compPost (GD X.prog X.w) X.A X.xe use Q0 (.ref acc) C (.ok fl) s')->
  GH (GD X.prog X.w) X.A (cm use) Q0 X.xe s
theorem wN (own:List Str) (cap:List Nat){e F5 F7:Hl}{ifs:List Hl}{gs:List OU}{F0:K3}{gi:G (List D)}{gt:GT}{gts:G Bool}{act:Ev->M (List D×Ev)}{fin:List D->M R}{newAcc:Sem Ge}{ob:Obj}{o0:GF->HO}{Acc:GF->Hp->Hp->Hp->List D->Prop}{N lim:Nat}{m:GF->Env->Sem Unit}
  (hcls:clausesOf e=⟨F5,F7,ifs,0⟩::gs) (hi:Ds X c F5 F7 gi)
  (hnew:∀(s:Gf) (Q:Ge->Gf->Prop) (E:Ge->Gf->Prop),Q (.ref s.heap.objs.size) {s with heap:=s.heap.push ob}->GH (GD X.prog X.w) X.A newAcc Q E s)
  (hob:∀(h:Ij) (H:Hp),cS X.prog X.w H (h.push ob) h.objs.size (o0 h.objs.size))
  (aR:∀p H2,v_ (Acc p H2)) (a0:∀(p:GF) (H2 J H:Hp),Lv < p->H p=some (o0 p)->J p=none->Acc p H2 J H [])
  (hN:lim * N<=sizeLine) (LP:∀(it p:GF) (env:Env),sG X.prog X.w X.A e 0 (.ref it) (.ref p) env F5 ifs (m p env))
  (start:∀(it:GF) (acc:Ge) (env:Env) (R:Result->Gf->Prop) (s:Gf),LF (GD X.prog X.w) X.A (.compLoop e 0 (.ref it) acc env) R s->GH (GD X.prog X.w) X.A (PR (.ref it)) (λit' s'=>LF (GD X.prog X.w) X.A (.compLoop e 0 it' acc env) R s') (notedBy (GD X.prog X.w) X.A env λx s'=>R (.error x) s') s->LF (GD X.prog X.w) X.A (.compStart e 0 (.ref it) acc env) R s)
  (nofin:∀ys z,fin ys≠.exc z) (hend:∀{p:GF}{H2 J H J' H':Hp}{ys:List D}{r:R},H p=none->aM H H2->Ext J H J' H'->Acc p H2 J' H' ys->fin ys=.ok r->∃J'',Ext J H J'' H'/\RR c H J'' H' r (.ref p))
  (hbody:∀(cl:List (Str×GF)) (C:GF) (s:Gf) (H:Hp) (fp:List GF),dH X.env.cells F0.names []=some cl->yj (gf X own cap F0 cl C s H fp) c F5 gt/\wB (gf X own cap F0 cl C s H fp) c ifs gts/\∀(p:GF) (J2 H2:Hp),H2 p=none->c.H0 p=none->wA (gf X own cap F0 cl C s H fp) c p (Acc p H2) J2 H2 N (m p (gf X own cap F0 cl C s H fp).env) act)
  (a:An X F0 cap F7){pos':Pos}:ur X c (λuse=>comprehension e F0 X.env pos' newAcc false (eval F7 X.env) use) (p_ lim own.length cap gi gt gts act fin):=by
 obtain ⟨hk,hno,hnames,hcl,hcap,hloc,hnd,ET,hs⟩:=a;intro F3 s σ H Q use Q0 I h Fi;obtain ⟨J,env,sr,w⟩:=h;obtain ⟨cl,hcl⟩:=Hz.mp hcl;have Fj:∀j∈cap,∀x,X.N[j]?=some x->cD F0.names x=false:=λj hj x hx=>by have:=GW.mp hno j hj;rw [hx] at this;simpa using this
 have EZ:∀x∈F0.names,x.2=.local->F0.names.lookup x.1=some .local:=λy hy z=>by have:=GW.mp hnames y hy;rw [z] at this;simpa using this
 have E8:∀j∈cap,∀x,X.N[j]?=some x->(relabel F0 X.env).names.lookup x≠some .local:=λj hj x hx z=>by have:=GW.mp hloc j hj;rw [hx] at this;simp only at this;rw [z] at this;cases this
 refine wpAny_comprehension_free (use:=use) hcls hs (pD hcl) hk EZ ?_;refine bS (hi F3 s σ H (λIt H1=>∃ds J1,Ext J H J1 H1/\Walk c It ds J1 (λJ' H'=>aM J1 J'/\aM H1 H')/\
  b_ (if ds.length<=lim then c5 gt gts act ds (cE own.length cap env) >>= λr=>fin r.1 else .bad) (λr=>∀v J' H',Ext J H J' H'->RR c H J' H' r v->Q v H') c.T) I ⟨J,env,sr,aE (aI w) λds wd It J1 H1 e1 wk=>⟨ds,J1,e1,wk,wd⟩⟩) λxv s1 h1=>bS h1 λitv s2 h2=>?_
 obtain ⟨it,fp,tn,It,H2,rfl,I2,T,st2,f2,ds,J2,e2,wk,w2⟩:=h2;have hsz:ds.length<=lim:=by
  by_cases z:ds.length<=lim
  ·exact z
  ·rw [if_neg z] at w2;exact w2.elim
 rw [if_pos hsz] at w2;have w3:=aI w2;refine hnew s2 _ _ (tV ?_);dsimp only;generalize Fb:s2.heap.push ob=Hs;have hC:Hs.objs.size=s2.heap.objs.size + 1:=by rw [<-Fb,IE]
 have hp2:H2 s2.heap.objs.size=none:=I2.hok.fresh (Gm _);have kHs:∀b o,s2.heap.get? b=some o->Hs.get? b=some o:=λb o e=>by rw [<-Fb];exact Gh _ e
 have I3:Inv X F3 σ (L2.upd H2 s2.heap.objs.size (o0 s2.heap.objs.size)) {s2 with heap:=Hs,toks:=s2.toks}:=I2.laid (t':=s2.toks) kHs (Gm _) (by rw [<-Fb];exact hob _ _);have f3:∀b∈fp,fQ X F3 (L2.upd H2 s2.heap.objs.size (o0 s2.heap.objs.size)) b:=λb hb=>by obtain ⟨o,ho,_⟩:=T.obj _ _ st2 b hb;exact ⟨by rw [bf (G9 (Gx ho))];exact (f2 b hb).1,(f2 b hb).2⟩
 have hin:∀b∈fp,b < Hs.objs.size:=λb hb=>by obtain ⟨o,ho,_⟩:=T.obj _ _ st2 b hb;exact Jj (Gx ho) (by rw [hC];exact LO _)
 obtain ⟨h₁,eh₁⟩:∃h₁,h₁=N8 (Hs.push {cls:=.type "dict",data:=.dict #[]}) F0.names:=⟨_,rfl⟩;rw [<-eh₁];have hns₁:h₁.Ns Hs.objs.size (λ_=>none):=by rw [eh₁];exact Be Hs F0.names
 have ck:PM h₁ (Hs.objs.size + 1) (G8 (Hs.objs.size + 1) F0.names []):=by rw [eh₁];exact uN Hs F0.names
 have okC:=zc (own:=own) (cap:=cap) I3 hk hcl ck f3 hin;have old1:∀b o,Hs.get? b=some o->h₁.get? b=some o:=λb o e=>by rw [eh₁];exact N9 _ _ _ _ (Gh _ e)
 have I4:=wQ (tk:=s2.toks) I3 okC hcl ck hcap E8 Fj hns₁ old1;have sr2:=sr.ext e2;have srA:SR c J2 (L2.upd H2 s2.heap.objs.size (o0 s2.heap.objs.size)) σ env:=sr2.ext (Ext.new e2.sub hp2 _);have J2p:J2 s2.heap.objs.size=none:=e2.sub.free hp2;have H0p:c.H0 s2.heap.objs.size=none:=sr2.hp.ent.free hp2;have nown:∀(j:Nat) (xs:Mn),(cE own.length cap env)[j]?=some (some (mS xs))->(GQ own.length none++cap.map λ(j:Nat)=>(σ[j]?).getD none)[j]?≠some (some (.ref s2.heap.objs.size)):=λj xs q z=>by obtain ⟨a,h1,h2,h3⟩:=fP q;obtain ⟨a',h4,h5,h6⟩:=fP z;rw [h2] at h5;cases h5;obtain ⟨p,k1,k2,_⟩:=sr2.mine h3;rw [h6] at k1;cases k1;exact k2 hp2
 obtain ⟨hT,hIf,hE⟩:=hbody cl Hs.objs.size {s2 with heap:=Hs,toks:=s2.toks} (L2.upd H2 s2.heap.objs.size (o0 s2.heap.objs.size)) fp hcl;have fpC:∀{H':Hp},(∀b∈fp,H' b=none)->∀b∈fp,fQ (gf X own cap F0 cl Hs.objs.size {s2 with heap:=Hs,toks:=s2.toks} (L2.upd H2 s2.heap.objs.size (o0 s2.heap.objs.size)) fp) [] H' b:=fun {H'} hn b hb=>by
  obtain ⟨m1,_⟩:=fj F0.names [] cl hcl (λx c h=>by simp at h);refine ⟨hn b hb,G9 (hin b hb),λz=>?_,.inl hb,λx d h=>(eG h).elim (λh=>Lg (Gy (hin b hb) (Ji (ck.empty _ _ (Kl h)).2))) (λh=>(f2 b hb).2.2.2.2.1 x d (m1 x d h.2)),λp hp=>absurd (show p∈([]:List (GF×Obj)) from hp) (by simp)⟩;rcases Gz.mp (I2.stkSub b z) with e | e
  ·exact (f2 b hb).2.1 e
  ·exact (f2 b hb).2.2.1 e
 have back:∀{pi:List (GF×Obj)}{σ':L2.St}{H':Hp}{s':Gf}{h'':Ij},Inv (gf X own cap F0 cl Hs.objs.size {s2 with heap:=Hs,toks:=s2.toks} (L2.upd H2 s2.heap.objs.size (o0 s2.heap.objs.size)) fp) pi σ' H' s'->IV Hs.objs.size s'.heap h''->Inv X F3 σ H' {s' with heap:=h''}:=fun {pi σ' H' s' h''} I' sb=>by
  have B:Un (frs X.stack) fp (L2.upd H2 s2.heap.objs.size (o0 s2.heap.objs.size)) H' Hs s'.heap:=I'.base;have ne2:∀{b:GF}{o:Obj},s2.heap.get? b=some o->b≠s2.heap.objs.size/\b≠Hs.objs.size:=fun {b o} e=>
   ⟨G9 (Gx e),G9 (Jj (Gx e) (by rw [hC];exact LO _))⟩
  have nH:∀{b:GF}{o:HO},H2 b=some o->L2.upd H2 s2.heap.objs.size (o0 s2.heap.objs.size) b=some o:=fun {b o} e=>by rw [bf (dc e hp2)];exact e
  refine Inv.call' (ch:=fp) (s':={s' with heap:=h''}) I2 I'.os ⟨λb o e n hf hx=>?_,λb o e n hf hx=>?_,λb o e n hx=>?_,λb o e hx=>?_,λb xs e=>B.tups b xs (nH e),λb o u e=>B.frzs b o u (nH e),λb ps e=>B.tbls b ps (nH e)⟩ (qW I'.hok I'.free sb) I'.bare λb hb=>⟨(f2 b hb).2.2.2.1,(f2 b hb).2.1,(f2 b hb).2.2.2.2.1,(f2 b hb).2.2.2.2.2⟩
  ·exact (sb.2 b (ne2 e).2).trans (B.keep b o (kHs b o e) (by rw [bf (ne2 e).1];exact n) hf hx)
  ·obtain ⟨sl,z⟩:=B.slot b o (kHs b o e) (by rw [bf (ne2 e).1];exact n) hf hx;exact ⟨sl,(sb.2 b (ne2 e).2).trans z⟩
  ·exact B.free b o (kHs b o e) (by rw [bf (ne2 e).1];exact n) hx
  ·obtain ⟨o',z⟩:=B.there b o (kHs b o e) hx;exact ⟨o',(sb.2 b (ne2 e).2).trans z⟩
 have run:=λ(s4:Gf) (I4:Inv (gf X own cap F0 cl Hs.objs.size {s2 with heap:=Hs,toks:=s2.toks} (L2.upd H2 s2.heap.objs.size (o0 s2.heap.objs.size)) fp) [] _ _ s4) (st4:tn 0 s4.heap)=>xq (X:=gf X own cap F0 cl Hs.objs.size {s2 with heap:=Hs,toks:=s2.toks} (L2.upd H2 s2.heap.objs.size (o0 s2.heap.objs.size)) fp) (e:=e) (depth:=0) (acc:=.ref s2.heap.objs.size) (aR _ _) ET (λ_ _ f=>f) (LP it _ _) hT hIf (hE s2.heap.objs.size J2 H2 hp2 H0p) T (λJ' H'=>aM J2 J'/\aM H2 H') wk (λJ' H' x _=>⟨x.j,x.h⟩) I4 st4 (fpC λb hb=>(f3 b hb).1) (Ext.new e2.sub hp2 _) (srA.cap own.length cap (r6 hnd)) nown (a0 _ _ _ _ (AE I2) cC J2p) (HB (by rw [List.length_nil,Ll];exact Mm N hsz) hN) w3;have st4:=T.keep _ _ _ st2 (λb hb o e=>old1 b o (kHs b o e));have go:=Kz (run _ I4 st4) (R':=compPost (GD X.prog X.w) X.A X.xe use Q0 (.ref s2.heap.objs.size) Hs.objs.size) λr s' ⟨hr,σ',H',J',r',I9,x9,j9,sr9,no9,ac9,l9,w9⟩=>by
  subst hr;obtain ⟨mm,hm,_⟩:=I9.loc;refine Fi s2.heap.objs.size Hs.objs.size mm _ H' _ hm (AB I2 (by rw [hC];exact MA _)) I9.free (λh'' sb=>back I9 sb) ?_;cases q:fin r'.1 with
  | bad=>rw [q] at w9;exact w9.elim
  | exc z=>rw [q] at w9;exact (nofin _ z q).elim
  | ok z=>
   rw [q] at w9;obtain ⟨J9,x10,rr⟩:=hend (e2.h.free hp2) e2.h (e2.trans x9) ac9 q;exact w9 _ J9 H' x10 rr
 exact start it _ _ _ _ go (T.self _ 0 _ _ _ st4 go)
def sE (X:Cx) (c:C) (e:Hl) (g:G R):Prop:=∃cm,ur X c cm g/\eval e X.env=cm none/\∀use,evalThenUse e X.env use=(do let _ <-cm (some use))
theorem fq {e:Hl}{g:G R}(h:sE X c e g):QD X c e g:=by obtain ⟨cm,core,hev,_⟩:=h;refine ⟨λF3 s σ H Q I h=>?_⟩;rw [hev];exact core I h λacc C m s' H' fl hm hz hf hb q=>⟨m,hm,λh'' sb=>⟨.ref acc,H',hb h'' sb,rfl,q⟩⟩
theorem sd (i:Nat){e:Hl}{g:G R}{x:Str}{pos' pos2:Pos}(hN:X.N.Nodup) (h:sE X c e g) (hx:X.N[i]?=some x:=by rfl) (FD:X.env.scope.names.lookup x=some .local:=by rfl)
  (hsw:MK e (some (.Name x pos')) pos2.line X.env=pure true:=by rfl):l6 X c (.Assign [.Name x pos'] e pos2) (aH i g):=by
 obtain ⟨cm,core,_,Ff⟩:=h;refine ⟨λF3 s σ H D I ⟨J,env,sr,w⟩=>?_⟩;rw [arm_exec_Assign];refine Gb (M3 ?_);rw [show ML [.Name x pos'] e pos2.line X.env=pure true from hsw];refine Gb (Gk ?_);rw [if_pos rfl,Ff];refine Gb (Gb (core (Q:=λv H1=>∃J1 r xx,Ext J H J1 H1/\RR c H J1 H1 r v/\toS r=.ok xx/\oP c J D (.nx (env.set i (some xx)))) I ⟨J,env,sr,aE (aI w) λr wr v J1 H1 e1 r1=>?_⟩ λacc C m s' H' fl hm ap hf hb ⟨J1,r,xx,e1,r1,q1,w1⟩=>?_))
 ·obtain ⟨xx,q,wr⟩:=sC wr;exact ⟨J1,r,xx,e1,r1,q,wr⟩
 ·have I1:L2.Inv X F3 σ H' s':=hb s'.heap (P9 ..);show GH _ _ (do Pe pos';bindName X.env x (.ref acc)) _ _ _;refine Gb (M3 (wpAny_bindName ?_));refine oW I1 hN hx (.inl FD) (v:=.ref acc) (u:=.ref acc) rfl (λs2 I2 ⟨a,sb,ha⟩=>?_) (.inr FD);have hac:C≠a:=λz=>by
   rcases ha with e | e
   ·exact ap.2.1 (z.trans e)
   ·exact ap.2.2.1 _ _ e z.symm
  refine ⟨m,hm.sameBut sb hac,λh2 sb2=>?_⟩;refine Gk (Gk ⟨σ.set i (some (.ref acc)),H',vq I2 ap hf sb2 (o0:=default),?_⟩);exact w1 _ J1 H' e1.j (sr.set e1 r1 q1)
end
open Classical in
def KD:Type:={d:D // isKey d=true/\dep d<=8}
noncomputable instance:DecidableEq KD:=λa b=>OV (a=b)
end DL
namespace DL
open PySem PySem.Spec PyProof.Rows L2 ST PySem.SetTable
end DL
namespace DL
open PySem PySem.Spec PyProof.Rows L2 ST
end DL
namespace DL
open PySem PySem.Spec PyProof.Rows L2 ST
open PySem.W (KasT kas_sort kas_ask)
noncomputable def dd:List D->List D
 | []=>[]
 | x::xs=>if (dd xs).any (bD x)=true then dd xs else x::dd xs
section
variable {P:D->Prop}
theorem sf (p:f7 P){ds:List D}(h:∀x∈ds,P x) (nd:ds.Nodup):(a_ ds).Pairwise λa b=>dY a b=true:=by
 have up:=qJ p ds h;have pm:=fH ds;have nd':(a_ ds).Nodup:=pm.nodup_iff.mpr nd;have both:=P_ up nd';refine (KI.mp both).imp ?_;rintro a b ⟨ha,hb,h1,h2⟩;cases q:dY a b with
 | true=>rfl
 | false=>exact absurd (p.tri a b (h a (pm.mem_iff.mp ha)) (h b (pm.mem_iff.mp hb)) q h1) h2
end
end DL
namespace DL
open PySem PySem.Spec PyProof.Rows L2 ST DX
open PySem.W (KasT kas_sort kas_ask)
end DL
namespace DL
open PySem PySem.Spec PyProof.Rows L2 DX
section
open PySem.SeqAt
open PySem.AutoSeq1 (wpAny_loadPart')
open PySem.MeetsSeq PySem.MeetsSeq2 PySem.MeetsSeq3
end
theorem nJ (gt:GT) (gts:G Bool) (ge:G R):∀(ds:List D) (env:Ev) (k:List D->M R),(c5 gt gts (f9 ge) ds env >>= λr=>k r.1)=(dI gt gts ge ds env >>= k)
 | [],env,k=>rfl
 | d::ds,env,k=>by
  unfold c5 dI;cases gt d env with
  | bad=>rfl
  | exc z=>rfl
  | ok e=>
   show ((gts e >>= λk=>if k=true then f9 ge e >>= λr=>c5 gt gts (f9 ge) ds r.2 >>= λz=>.ok (r.1++z.1,z.2) else c5 gt gts (f9 ge) ds e) >>= _)=((gts e >>= λk=>if k=true then ge e >>= λr=>toD r >>= λy=>dI gt gts ge ds e >>= λys=>.ok (y::ys) else dI gt gts ge ds e) >>= _);cases gts e with
   | bad=>rfl
   | exc z=>rfl
   | ok b=>
    cases b with
    | false=>exact nJ gt gts ge ds e k
    | true=>
     show ((f9 ge e >>= λr=>c5 gt gts (f9 ge) ds r.2 >>= λz=>.ok (r.1++z.1,z.2)) >>= _)=((ge e >>= λr=>toD r >>= λy=>dI gt gts ge ds e >>= λys=>.ok (y::ys)) >>= _);unfold f9;cases ge e with
     | bad=>rfl
     | exc z=>rfl
     | ok r=>
      show (((toD r >>= λy=>M.ok ([y],e)) >>= λr=>c5 gt gts (f9 ge) ds r.2 >>= λz=>.ok (r.1++z.1,z.2)) >>= _)=((toD r >>= λy=>dI gt gts ge ds e >>= λys=>.ok (y::ys)) >>= _);cases toD r with
      | bad=>rfl
      | exc z=>rfl
      | ok y=>
       have ih:=nJ gt gts ge ds e λys=>k (y::ys);show ((c5 gt gts (f9 ge) ds e >>= λz=>.ok ([y]++z.1,z.2)) >>= λr=>k r.1)=((dI gt gts ge ds e >>= λys=>M.ok (y::ys)) >>= k);have e1:((c5 gt gts (f9 ge) ds e >>= λz=>M.ok ([y]++z.1,z.2)) >>= λr=>k r.1)=(c5 gt gts (f9 ge) ds e >>= λr=>k (y::r.1)):=by cases c5 gt gts (f9 ge) ds e <;> rfl
       have e2:((dI gt gts ge ds e >>= λys=>M.ok (y::ys)) >>= k)=(dI gt gts ge ds e >>= λys=>k (y::ys)):=by cases dI gt gts ge ds e <;> rfl
       rw [e1,e2,ih]
theorem zg (n:Nat) (cap:List Nat) (gi:G (List D)) (gt:GT) (gts:G Bool) (ge:G R):cG n cap gi gt gts ge=p_ sizeLine n cap gi gt gts (f9 ge) (λys=>.ok (.l .fresh ys)):=by
 funext env;unfold cG p_;cases gi env with
 | bad=>rfl
 | exc z=>rfl
 | ok ds=>
  show (if ds.length<=sizeLine then _ else _)=(if ds.length<=sizeLine then _ else _);by_cases c:ds.length<=sizeLine
  ·rw [if_pos c,if_pos c];exact (nJ gt gts ge ds _ λys=>.ok (.l .fresh ys)).symm
  ·rw [if_neg c,if_neg c]
section
variable {X:Cx}{c:C}
theorem i8 (own:List Str) (cap:List Nat){elt F5 F7:Hl}{ifs:List Hl}{F0:K3}{pos:Pos}{gi:G (List D)}{gt:GT}{gts:G Bool}{ge:G R}(hi:Aw X c F5 F7 gi)
  (hbody:∀(cl:List (Str×GF)) (C:GF) (s:Gf) (H:Hp) (fp:List GF),dH X.env.cells F0.names []=some cl->rz (gf X own cap F0 cl C s H fp) c F5 gt/\wC (gf X own cap F0 cl C s H fp) c ifs gts/\QD (gf X own cap F0 cl C s H fp) c elt ge) (a:An X F0 cap F7:=by exact AI rfl):sE X c (.ListComp elt [⟨F5,F7,ifs,0⟩] F0 pos) (cG own.length cap gi gt gts ge):=by
 refine ⟨_,?_,rfl,λ_=>rfl⟩;rw [zg];refine wN (e:=.ListComp elt [⟨F5,F7,ifs,0⟩] F0 pos) (ob:={cls:=.type "list",dict:=none,data:=.seq ([]:List Ge).toArray}) (o0:=λ_=>.lst []) (Acc:=λp _=>wF c p) (N:=1) (lim:=sizeLine) (m:=λp env=>do let _ <-call (.builtin "list.append") [.ref p,<-eval elt env]) own cap rfl hi.h
  (λs Q E q=>Ic q) (λh H=>⟨Hh _,[],0,.nil,Gu _ rfl⟩) (λp _=>wG) (λp _ J H _ h1 h2=>⟨[],h1,h2,.nil⟩) (by rw [Nat.mul_one];exact Gm _) (λit p env=>Cp (compTurn_list ..)) (λit acc env R s h0 h=>codeAny_compStart_list h0 h) (λys z q=>by cases q)
  (fun {p H2 J H J' H' ys r} hp _ e ⟨us,h1,h2,h3⟩ q=>by cases q;exact ⟨J',e,⟨p,us,rfl,h1,h2,hp,h3⟩⟩) (λcl C s H fp hcc=>?_) a
 obtain ⟨b1,b2,b3⟩:=hbody cl C s H fp hcc;exact ⟨b1.h,b2.h,λp J2 H2 hp2 hp0=>yV (λ_ _ f=>f) hp2 hp0 b3.h⟩
end
end DL
namespace DL
open PySem PySem.Spec PyProof.Rows L2 DX
open Sem (wp)
end DL
namespace DL
open PySem PySem.Spec PyProof.Rows L2 DX
end DL
namespace DL
open PySem PySem.Spec PyProof.Rows L2
def FA (K:Gd) (x:Str) (st:KR):Prop:=∃f fd,Ho K GL x=some (some (.ref f))/\ir K x x st f fd
theorem Cd {K:Gd}{st:KR}(a:Ho K GL x=some (some (.ref f)))
 (l:K.lookup f=some ⟨u,o,.func (HU x x (dM st) (b6 st) (aV st) .none v d p n q r),s⟩) (c:Ku K q x=true) (k:Jq K (.ref f)=true):FA K x st:=⟨f,_,a,uV l c k⟩
def FB (K:Gd) (mg:Str->Option Ge) (x:Str) (st:KR):Prop:=∃f fd,mg x=some (.ref f)/\ir K x x st f fd
theorem gK {K:Gd}{h:Ij}{mg:Str->Option Ge}(X:K.In h) (G:h.Ns GL mg){x:Str}{st:KR}(e:FA K x st):FB K mg x st:=let ⟨f,fd,a,F⟩:=e;⟨f,fd,M4 X G a,F⟩
theorem qc {P:GG}{w:Hi}{K:Gd}{mg:Str->Option Ge}{base:Ij}{x:Str}{st:KR}{k:Nat}{Fm:List S->M R}(gB:G O) (N:List Str) (n:Nat) (e:FB K mg x st)
  (hb:N.Nodup->∀(f:GF) (cdv:Ge) (A:G3) (outer:List Env) (s:Gf) (H:Hp) (E:XK) (J:Hp) (T:Exc->Prop),c8 k (A.deeper (Li x (aV st) s.heap.objs.size f cdv))->
   k9 (rM P w K mg base N x (aV st) f cdv A outer s H E) ⟨K,H,J,T⟩ (b6 st) gB)
  (Sc:eB N (N.take n) (aV st):=by exact ⟨rfl,rfl,rfl,by decide +kernel,rfl,by decide +kernel,by decide +kernel⟩)
  (hbi:∀(kV doc pm:Ge) (an:Option GF) (cdv ct:Ge) (us:List Ge),us.length=(N.take n).length->MN (HU x x (dM st) (b6 st) (aV st) .none kV doc pm an cdv ct) ⟨us,[]⟩=pure ((N.take n).zip us):=by
   intro _ _ _ _ _ _ us hl;rcases us with _ | ⟨_,_ | ⟨_,_ | ⟨_,_ | ⟨_,_ | ⟨_,_ | ⟨_,_ | ⟨_,_⟩⟩⟩⟩⟩⟩⟩ <;> first | exact rfl | (cases hl;done) | exact nomatch hl)
  (hF:∀as r,as.length=(N.take n).length->Fm as=.ok r->fin (gB (aF N as))=.ok r:=by intro _ _ _ h;exact h):dJ P w K mg base (k + 1) (N.take n).length x Fm:=
 let ⟨f,_,hm,F⟩:=e;r_ F hm Sc hbi (hb Sc.nd f) hF
theorem vV (l:GF) (F4:Array Ge) (n:Nat) (x:Ge) (e:Ge->Bool) (he:∀y,y∈F4->LQ y x (e y)) (j:Nat) (hj:j < F4.size)
  (hit:e F4[j]=true) (hno:∀m (hm:m < F4.size),m < j->e F4[m]=false):
  Meets (K6.«tuple.index» ⟨[.ref l,x],[]⟩)
   (λ_ R s=>(∃o:Obj,s.heap.get? l=some o/\o.data=.seq F4 n)/\R (.ok (.ret (.int j s.toks))) {s with toks:=s.toks + 1}):=by
 refine .of_wp λprog w A R s h=>?_;obtain ⟨hp,g,d,tk,os⟩:=s;obtain ⟨⟨ob,hl,hd⟩,h⟩:=h;unfold K6.«tuple.index»;refine Gb (Gk ?_);refine Gb (wpAny_tupleItemsOf hl hd ?_);dsimp only;refine Gb (Gk ?_);refine Gb (Gk ?_);rw [O1,Mh];have hsz:([0:F4.size]:NL).size=F4.size:=by simp [O8]
 show GH _ _ (forIn (MD 0 ([0:F4.size]:NL).size 1) _ _ >>= _) _ _ _;rw [hsz];refine Gb (NJ _ (λF6 b s'=>s'=⟨hp,g,d,tk,os⟩/\∃i,i<=j/\F6=MD i (F4.size - i)) _ ?_ ?_ _ _ ⟨rfl,0,Hh _,rfl⟩)
 ·rintro k F6 b s' ⟨rfl,i,hi,hr⟩;obtain ⟨m,hm⟩:∃m,F4.size - i=m + 1:=⟨F4.size - i - 1,by omega⟩;rw [hm,KL] at hr;obtain ⟨rfl,rfl⟩:=OW hr;have hk:k < F4.size:=by omega
  rw [Lq hk];refine Gb (he _ (Ni hk) prog w _ _ _ _ ?_);rcases O7 k j with q | q
  ·rw [hno k hk q];exact Gk ⟨rfl,k + 1,q,by congr 1;omega⟩
  ·obtain rfl:k=j:=by omega
   rw [hit];exact Gb (Gb (wpAny_mkInt (Gk (Gk (Gk ⟨_,rfl,h⟩)))))
 ·rintro b s' ⟨rfl,i,hi,hr⟩;obtain ⟨m,hm⟩:∃m,F4.size - i=m + 1:=⟨F4.size - i - 1,by omega⟩;rw [hm,KL] at hr;cases hr
noncomputable def mK (a:Int):D->Bool
 | .int b=>b == a
 | _=>false
noncomputable def u_ (a:Int):Ge->Bool
 | .int b _=>b == a
 | _=>false
theorem Cj {K:Gd}{J:Hp}{a:Int}{d:D}{v:V}{u:Ge}(h:isInt d=true) (r:Rep K J d v) (q:RelV v u):u_ a u=mK a d/\∀t,LQ u (.int a t) (u_ a u):=by
 unfold isInt at h;split at h
 ·cases r;obtain ⟨t,rfl⟩:=q;exact ⟨rfl,λt'=>Pc _ _ _ _⟩
 ·cases h
section
variable {X:Cx}{c:C}{o a:Hl}{go ga:G R}{apos cpos:Pos}
noncomputable def tE (go ga:G R):G R:=λenv=>go env >>= λr=>match r with
 | .d (.tup xs)=>ga env >>= λk=>(match k with
  | .d (.int k)=>if xs.all isInt=true then (match xs.findIdx? (mK k) with
   | some i=>.ok (.d (.int i))
   | none=>.bad) else .bad
  | _=>.bad)
 | _=>.bad
theorem zY (ho:QD X c o go) (ha:QD X c a ga) (hK:X.K=c.K:=by rfl) (hbase:MR o "index" X.env (eval o X.env)=eval o X.env:=by rfl) (hline:(apos.endLine == cpos.line)=true:=by rfl)
  (htr:JG cpos (GA [a] X.env)=[(false,eval a X.env)]:=by rfl):QD X c (.Call (.Attribute o "index" apos) [a] [] cpos) (tE go ga):=by
 refine ⟨λF3 s σ H Q I ⟨J,env,sr,w⟩=>?_⟩;refine wpAny_Call_method1_late hbase hline htr (bS (ho.h F3 s σ H (λx H1=>∃J1 r,Ext J H J1 H1/\RR c H J1 H1 r x/\b_ _ _ _) I ⟨J,env,sr,aE (aI w) λr wr v J1 H1 e1 r1=>⟨J1,r,e1,r1,wr⟩⟩) λov s1 ⟨x,H1,I1,rx,J1,r,e1,r1,wr⟩=>?_);split at wr
 ·rename_i xs;have r1:Rep c.K J1 (.tup xs) x:=r1;cases r1 with
  | @tup p vs _ sq rs=>
  cases rx;have F1:HF X.K J1 s1:=HF.of (c:=⟨X.K,H1,H1,λ_=>True⟩) I1 e1.sub;obtain ⟨its1,_,⟨ob1,g1,g2,_⟩⟩:=F1.t p vs (hK▸sq);refine ⟨"tuple","tuple.index",PySem.F.plainAttrs_tuple,LC,PySem.F.type_tuple_index,⟨ob1,g1,g2⟩,λq e=>⟨ob1,by cases e;exact g1,I1.noD (eL e1.sub (hK▸sq)) _ g1⟩,?_⟩;refine seqMethod1_meets LC PySem.F.entry_tuple_index (bS (ha.h F3 s1 σ H1 (λx H2=>∃J2 r,Ext J1 H1 J2 H2/\RR c H1 J2 H2 r x/\b_ _ _ _) I1 ⟨J1,env,sr.ext e1,aE (aI wr) λr wr v J2 H2 e2 r2=>⟨J2,r,e2,r2,wr⟩⟩) λkv s2 ⟨y,H2,I2,ry,J2,r',e2,r2,wr⟩=>?_);split at wr
  ·rename_i k;have r2:Rep c.K J2 (.int k) y:=r2;cases r2;obtain ⟨t',rfl⟩:=ry;split at wr
   ·rename_i al;split at wr
    ·rename_i i hi;obtain ⟨hl,h1,h2⟩:=Km.mp hi;have F2:HF X.K J2 s2:=HF.of (c:=⟨X.K,H2,H2,λ_=>True⟩) I2 e2.sub;have rs2:aD X.K J2 xs vs:=hK▸rs.mono e2.j;obtain ⟨its,rv,⟨ob,g3,g4,n,g5⟩⟩:=F2.t p vs (hK▸eL e2.j sq);have l1:xs.length=vs.length:=rs2.length;have l2:vs.length=its.length:=rv.length;have at_:∀m (hm:m < its.length),u_ k its[m]=mK k (bR xs m)/\∀t,LQ its[m] (.int k t) (u_ k its[m]):=λm hm=>by have:=Cj (a:=k) (GW.mp al _ (dh (i:=m) (by omega))) (fV rs2 (i:=m) (by omega)) (fX rv (i:=m) (by omega));rw [show its.getD m HD=its[m] by simp [JM,hm]] at this;exact this
     refine ⟨⟨ob,g3,g4⟩,PySem.F.args_tuple_index_2 _ _,_,vV p its.toArray n _ (u_ k) (λy hy=>?_) i (by simp;omega) ?_ (λm hm hmi=>?_),⟨ob,g3,g5⟩,.int i,H2,I2.tok _,⟨_,rfl⟩,wr _ J2 H2 (e1.trans e2) (.int _)⟩
     ·obtain ⟨m,hm,rfl⟩:=GY.mp (show y∈its by simpa using hy);exact (at_ m hm).2 _
     ·rw [Mp,(at_ i (by omega)).1,show bR xs i=xs[i] by simp [bR,hl]];exact h1
     ·rw [Mp,(at_ m (by simpa using hm)).1,show bR xs m=xs[m]'(by omega) by simp [bR,show m < xs.length by omega]];exact Lx.mpr (h2 m hmi)
    ·exact wr.elim
   ·exact wr.elim
  ·exact wr.elim
 ·exact wr.elim
end
end DL
namespace K51
open PySem DL
end K51
namespace WP
open PySem DL K01
def Wp {α:Type}(m:M α) (P:α->Prop):Prop:=∃a,m=.ok a/\P a
section
variable {α β:Type}{m:M α}{P P':α->Prop}{a:α}{env:Ev}{Q:O->Prop}{t u:G O}{g:G R}{r r':R}{i:Nat}{b:G Bool}
theorem Wp.eq (h:Wp m (·=a)):m=.ok a:=let ⟨_,h1,h2⟩:=h;h2▸h1
theorem Dk {P:R->Prop}(h:Wp (t env) λo=>∃r,o=.rt r/\P r):Wp (fin (t env)) P:=by obtain ⟨_,h1,r,rfl,h2⟩:=h;exact ⟨r,by rw [h1];rfl,h2⟩
theorem mj (h:Wp (t env) (·=.rt r)):fin (t env)=.ok r:=by rw [h.eq];rfl
theorem nA (h:Wp (t env) λo=>match o with
 | .nx e=>Wp (u e) Q
 | o=>Q o):Wp (az t u env) Q:=by
 obtain ⟨o,h1,h2⟩:=h;show Wp (t env >>= _) Q;rw [h1];cases o with
 | nx e=>exact h2
 | rt r=>exact ⟨_,rfl,h2⟩
 | bk e=>exact ⟨_,rfl,h2⟩
 | ct e=>exact ⟨_,rfl,h2⟩
theorem tM (h:g env=.ok r) (h2:toS r=.ok x) (k:Q (.nx (env.set i (some x)))):Wp (aH i g env) Q:=⟨_,by show (g env >>= _)=_;rw [h,aY,h2];rfl,k⟩
theorem d7 (h:g env=.ok r) (h2:toS r=.ok x) (k:Wp (u (env.set i (some x))) Q):Wp (az (aH i g) u env) Q:=nA (tM h h2 k)
theorem mO (h:g env=.ok r) (h2:rF r=.ok r') (k:Q (.rt r')):Wp (aN g env) Q:=⟨_,qG h h2,k⟩
theorem tL (k:Q (.nx env)):Wp (bx env) Q:=⟨_,rfl,k⟩
theorem D8 (k:Wp (u env) Q):Wp (az bx u env) Q:=nA (tL k)
theorem xg (h:b env=.ok false) (k:Wp (u env) Q):Wp (aO b t u env) Q:=by rw [ja h];exact k
theorem D7 {v:G O}(h:b env=.ok false) (k:Wp (az u v env) Q):Wp (az (aO b t u) v env) Q:=by
 have:az (aO b t u) v env=az u v env:=by unfold az;rw [ja h]
 rw [this];exact k
theorem nq {v:G O}(h:b env=.ok false) (k:Wp (v env) Q):Wp (az (aO b t bx) v env) Q:=D7 h (D8 k)
theorem Cm {xs:List D}(h0:env[i]?=some (some (.own xs))) (h:g env=.ok r) (h2:toD r=.ok d) (hl:xs.length<=1000) (k:Q (.nx (env.set i (some (.own (xs++[d])))))):Wp (c_ i g env) Q:=by refine ⟨_,?_,k⟩;unfold c_;rw [h0];show (g env >>= _)=_;rw [h,aY,h2,aY,if_pos (Nat.lt_of_le_of_lt hl (by decide))]
theorem CP {xs:List D}{d:D}(h0:env[i]?=some (some (.own xs))) (h:g env=.ok r) (h2:toD r=.ok d) (hl:xs.length<=1000) (k:Wp (u (env.set i (some (.own (xs++[d]))))) Q):Wp (az (c_ i g) u env) Q:=nA (Cm h0 h h2 hl k)
theorem Co {gi:G (List D)}(h:gi env=.ok ds) (k:Wp (eK tg u ds env) Q):Wp (fm gi tg u env) Q:=by rw [iB h];exact k
theorem ni {gi:G (List D)}{v:G O}(h:gi env=.ok ds) (k:Wp (eK tg t ds env) λo=>match o with
 | .nx e=>Wp (v e) Q
 | o=>Q o):Wp (az (fm gi tg t) v env) Q:=nA (Co h k)
theorem ny {tg:GT}(I:Nat->Ev->Prop) (ds:List D) (h0:I 0 env) (step:∀(k:Nat) (hk:k < ds.length) (env:Ev),I k env->∃e,tg ds[k] env=.ok e/\Wp (u e) λo=>∃e,o=.nx e/\I (k + 1) e)
  (k:∀e,I ds.length e->Q (.nx e)):Wp (eK tg u ds env) Q:=by
 have key:∀(es:List D) (i:Nat) (env:Ev),ds.drop i=es->i<=ds.length->I i env->Wp (eK tg u es env) Q:=by
  intro es
  induction es with
  | nil=>
   intro i env hd hi hI;have:i=ds.length:=by have:=congrArg LG hd;rw [IA] at this;simp at this;omega
   subst this;exact ⟨_,rfl,k _ hI⟩
  | cons d es ih=>
   intro i env hd hi hI;have hlt:i < ds.length:=by have:=congrArg LG hd;rw [IA] at this;simp at this;omega
   have e1:=Io hlt;rw [hd] at e1;obtain ⟨q1,q2⟩:=OW e1;obtain ⟨e,h1,_,h2,e2,rfl,h3⟩:=step i hlt env hI;unfold eK;rw [q1,h1,aY,h2,aY];exact ih (i + 1) e2 q2.symm (by omega) h3
 exact key ds 0 env rfl (Hh _) h0
theorem yQ {tg:GT}(I:Nat->Ev->Prop) (h0:I 0 env) (step:∀(k:Nat),k < n->∀env,I k env->∃e,tg (.int k) env=.ok e/\Wp (u e) λo=>∃e,o=.nx e/\I (k + 1) e)
 (k:∀e,I n e->Q (.nx e)):Wp (eK tg u (cH 0 n) env) Q:=by
 have hl:(cH 0 n).length=n:=by simp [cH]
 refine ny I (cH 0 n) h0 (λj hj env hI=>?_) (by rw [hl];exact k);obtain ⟨e,h1,h2⟩:=step j (by rw [hl] at hj;exact hj) env hI;refine ⟨e,?_,h2⟩;rw [<-h1];simp [cH]
theorem n1 {f:List R->M R}(hx:g env=.ok x) (hf:f [x]=.ok z):gN f (ah g av) env=.ok z:=tU hx hf
theorem two {f:R->R->M R}{h:G R}{x y z:R}(hx:g env=.ok x) (hy:h env=.ok y) (hf:f x y=.ok z):g2 f g h env=.ok z:=by show (g env >>= _)=_;rw [hx,aY,hy,aY,hf]
theorem c1 {F:List S->M R}(hx:g env=.ok x) (hF:F [bq x]=.ok z):gN (aC 1 F) (ah g av) env=.ok (bC z):=by show (ah g av env >>= _)=_;unfold ah av;rw [hx];show (match F [bq x] with | .ok r=>M.ok (bC r) | _=>M.bad)=_;rw [hF]
theorem c2 {F:List S->M R}{h:G R}(hx:g env=.ok x) (hy:h env=.ok y) (hF:F [bq x,bq y]=.ok z):gN (aC 2 F) (ah g (ah h av)) env=.ok (bC z):=by show (ah g (ah h av) env >>= _)=_;unfold ah av;rw [hx,hy];show (match F [bq x,bq y] with | .ok r=>M.ok (bC r) | _=>M.bad)=_;rw [hF]
theorem c3 {F:List S->M R}{h k:G R}(hx:g env=.ok x) (hy:h env=.ok y) (hw:k env=.ok w) (hF:F [bq x,bq y,bq w]=.ok z):gN (aC 3 F) (ah g (ah h (ah k av))) env=.ok (bC z):=by show (ah g (ah h (ah k av)) env >>= _)=_;unfold ah av;rw [hx,hy,hw];show (match F [bq x,bq y,bq w] with | .ok r=>M.ok (bC r) | _=>M.bad)=_;rw [hF]
theorem c4 {F:List S->M R}{h k l:G R}(hx:g env=.ok x) (hy:h env=.ok y) (hw:k env=.ok w) (hv:l env=.ok v) (hF:F [bq x,bq y,bq w,bq v]=.ok z):gN (aC 4 F) (ah g (ah h (ah k (ah l av)))) env=.ok (bC z):=by show (ah g (ah h (ah k (ah l av))) env >>= _)=_;unfold ah av;rw [hx,hy,hw,hv];show (match F [bq x,bq y,bq w,bq v] with | .ok r=>M.ok (bC r) | _=>M.bad)=_;rw [hF]
theorem x3 {F:List S->M R}{h k:G R}{x y w z:R}(hx:g env=.ok x) (hy:h env=.ok y) (hw:k env=.ok w) (hF:F [bq x,bq y,bq w]=.ok z):gN (AX 3 F) (ah g (ah h (ah k av))) env=.ok (bC z):=by show (ah g (ah h (ah k av)) env >>= _)=_;unfold ah av;rw [hx,hy,hw];show (match F [bq x,bq y,bq w] with | .ok r=>M.ok (bC r) | .exc x=>.exc x | .bad=>M.bad)=_;rw [hF]
theorem AJ {n:Nat}{cap:List Nat}{gi:G (List D)}{tg:GT}{ge:G R}{gts:G Bool}{α:Type}{xs:List α}{h:α->D}(o:α->Ev) (p:α->Bool) (f:α->D) (hi:gi env=.ok (xs.map h)) (hl:xs.length<=1000000)
  (ho:∀x,(o x).length=n) (ht:∀x (e:Ev),e.length=n->tg (h x) (e++cE 0 cap env)=.ok (o x++cE 0 cap env))
  (hb:∀x∈xs,gts (o x++cE 0 cap env)=.ok (p x)/\(p x=true->∃r,ge (o x++cE 0 cap env)=.ok r/\toD r=.ok (f x))):cG n cap gi tg gts ge env=.ok (.l .fresh ((xs.filter p).map f)):=by
 have key:∀(es:List α) (x:Ev),x.length=n->(∀d∈es,d∈xs)->dI tg gts ge (es.map h) (x++cE 0 cap env)=.ok ((es.filter p).map f):=by
  intro es
  induction es with
  | nil=>exact λ_ _ _=>rfl
  | cons d es ih=>
   intro x hx hm;obtain ⟨h0,h1⟩:=hb d (hm d Gs);have ih:=ih (o d) (ho d) λe he=>hm e (Gp _ he);rw [Ht];unfold dI;rw [ht d x hx,aY,h0,aY];cases q:p d with
   | true=>
    obtain ⟨r,h1,h2⟩:=h1 q;rw [if_pos rfl,h1,aY,h2,aY,ih,List.filter_cons_of_pos q];rfl
   | false=>
    rw [if_neg (by decide),List.filter_cons_of_neg (by simp [q])];exact ih
 unfold cG;rw [hi,aY,if_pos (by rw [IY,Gn];omega)];show (dI tg gts ge _ (GQ n none++cE 0 cap env) >>= _)=_;rw [key xs _ G7 λ_ h=>h];rfl
theorem yp {α:Type}(xs:List α):xs.filter (λ_=>true)=xs:=List.filter_eq_self.mpr λ_ _=>rfl
theorem sU {gi:G (List D)}{ge:G R}{gts:G Bool}{α:Type}{xs:List α}{h:α->D}(p:α->Bool) (f:α->D) (hi:gi env=.ok (xs.map h)) (hl:xs.length<=1000000)
 (hb:∀x∈xs,gts (some (.d (h x))::cE 0 cap env)=.ok (p x)/\(p x=true->∃r,ge (some (.d (h x))::cE 0 cap env)=.ok r/\toD r=.ok (f x))):cG 1 cap gi (aS 0) gts ge env=.ok (.l .fresh ((xs.filter p).map f)):=
 AJ (λx=>[some (.d (h x))]) p f hi hl (λ_=>rfl) (λ_ e he=>match e,he with | [_],_=>rfl) hb
theorem sS {gi:G (List D)}{ge:G R}{α:Type}{xs:List α}{h:α->D}(f:α->D) (hi:gi env=.ok (xs.map h)) (hl:xs.length<=1000000)
 (hb:∀x∈xs,∃r,ge (some (.d (h x))::cE 0 cap env)=.ok r/\toD r=.ok (f x)):cG 1 cap gi (aS 0) gk ge env=.ok (.l .fresh (xs.map f)):=by
 have:=sU (gts:=gk) (λ_=>true) f hi hl λx hx=>⟨rfl,λ_=>hb x hx⟩
 rwa [yp] at this
theorem AL {cap:List Nat}{gi:G (List D)}{ge:G R}{gts:G Bool}{α:Type}{xs:List α}(a b:α->D) (p:α->Bool) (f:α->D) (hi:gi env=.ok (xs.map λx=>.tup [a x,b x])) (hl:xs.length<=1000)
  (h:∀x∈xs,gts (some (.d (a x))::some (.d (b x))::cE 0 cap env)=.ok (p x)/\(p x=true->∃r,ge (some (.d (a x))::some (.d (b x))::cE 0 cap env)=.ok r/\toD r=.ok (f x))):cG 2 cap gi (gq 2 (cF (aS 0) (cF (aS 1) gM))) gts ge env=.ok (.l .fresh ((xs.filter p).map f)):=
 AJ (λx=>[some (.d (a x)),some (.d (b x))]) p f hi (by omega) (λ_=>rfl) (λ_ e he=>match e,he with | [_,_],_=>rfl) h
theorem pL {gi:G (List D)}{ge:G R}{α:Type}{xs:List α}(a b:α->D) (f:α->D) (hi:gi env=.ok (xs.map λx=>.tup [a x,b x])) (hl:xs.length<=1000)
 (h:∀x∈xs,∃r,ge (some (.d (a x))::some (.d (b x))::cE 0 cap env)=.ok r/\toD r=.ok (f x)):cG 2 cap gi (gq 2 (cF (aS 0) (cF (aS 1) gM))) gk ge env=.ok (.l .fresh (xs.map f)):=by
 have:=AL (gts:=gk) a b (λ_=>true) f hi hl λx hx=>⟨rfl,λ_=>h x hx⟩
 rwa [yp] at this
theorem BR (n:Nat):cH 0 n=(Gg n).map dN:=by simp [cH]
theorem t7 {gs:G (List R)}{n:Nat}(hg:gs env=.ok [.d (.int (n:Int))]) (h:n<=1000):cA gs env=.ok ((Gg n).map dN):=by rw [qH hg h,BR]
theorem jU (h:g env=.ok x):ah g av env=.ok [x]:=by show (g env >>= _)=_;rw [h];rfl
theorem gj:aG env=.ok []:=rfl
theorem b9 {gs:G (List D)}(h:g env=.ok r) (h2:toD r=.ok d) (k:gs env=.ok ds):au g gs env=.ok (d::ds):=by show (g env >>= _)=_;rw [h,aY,h2,aY,k];rfl
theorem gr {gs:G (List D)}{ds:List D}(h:gs env=.ok ds) (hl:ds.length<=1000):cI gs env=.ok (.d (.tup ds)):=by show (gs env >>= _)=_;rw [h,aY,if_pos (fR hl)]
theorem Cn (h:g env=.ok r) (h2:toD r=.ok d) (h3:tg d env=.ok e) (k:Q (.nx e)):Wp (p9 tg g env) Q:=⟨_,by show (g env >>= _)=_;rw [h,aY,h2,aY,h3];rfl,k⟩
theorem CQ (h:g env=.ok r) (h2:toD r=.ok d) (h3:tg d env=.ok e) (k:Wp (u e) Q):Wp (az (p9 tg g) u env) Q:=nA (Cn h h2 h3 k)
theorem Cc (neg:Bool) (x y:R) (h:dep x.dat<=60) (hx:dep y.dat<=60):dW neg x y=.ok (.d (.bl (if neg then !bD x.dat y.dat else bD x.dat y.dat))):=by unfold dW;rw [if_pos ⟨h,hx⟩]
theorem nK:∀{xs:List D},(∀x∈xs,dep x<=n)->deps xs<=n
 | [],_=>Hh _
 | x::xs,h=>by have h1:=h x Gs;have h2:=nK (xs:=xs) λy hy=>h y (Gp _ hy);simp only [deps];omega
theorem AR (xs:List Nat):deps (xs.map dN)<=60:=nK λx hx=>by obtain ⟨k,_,rfl⟩:=Gi.mp hx;exact Hh _
theorem uR (xs:List (Nat×Nat)):deps (xs.map dP)<=60:=nK λx hx=>by obtain ⟨k,_,rfl⟩:=Gi.mp hx;exact (by decide:(1:Nat)<=60)
end
end WP
namespace K51
open PySem DL K01 WP
structure uC (w:Wd):Prop where
 lo:1<=w.m
 hi:w.m<=8
 ml:w.ms.length<=3
 al:w.ar.length<=3
theorem t2:(2:Nat)<=1000:=by decide
end K51
namespace K51
open PySem DL K01 WP
open PySem.W (kas_sort)
theorem kE (ds:List D):(a_ ds).length=ds.length:=by
 unfold a_;by_cases h:ds.length < 2
 ·rw [if_pos h]
 ·rw [if_neg h,Gn];have:=(gc (n:=ds.length) (by omega)).run (ltB ds);have:=this.size_eq;simpa using this
theorem iQ {ds:List D}{x:D}(hx:x∈a_ ds):x∈ds:=by
 unfold a_ at hx;by_cases h:ds.length < 2
 ·rwa [if_pos h] at hx
 ·rw [if_neg h] at hx;have hp:=(gc (n:=ds.length) (by omega)).run (ltB ds);obtain ⟨i,hi,rfl⟩:=Gi.mp hx;have hi:i∈aP (ltB ds) (JF ds.length):=by simpa using hi
  have:=(Lk hp).mp hi;exact dh (by simpa using this)
end K51
namespace K51
open PySem DL K01 WP
end K51
namespace K52
open PySem DL
end K52
namespace K52
open PySem DL K01 WP K51
variable {P:D->Prop}
end K52
namespace DL
open PySem PySem.Spec PyProof.Rows L2 DX
end DL
namespace DL
open PySem PySem.Spec PyProof.Rows L2 ST
end DL
namespace DL
open PySem PySem.Spec PyProof.Rows L2 DX
end DL
namespace DL
open PySem PySem.Spec PyProof.Rows L2 ST DX
end DL
namespace K55
open PySem DL
end K55
namespace K55
open PySem DL K01 WP K51 K52
theorem yv (a b:Nat):bD (dN a) (dN b)=(a == b):=by
 show ((a:Int) == (b:Int))=_;by_cases h:a=b
 ·subst h;simp
 ·rw [beq_eq_false_iff_ne.mpr h,beq_eq_false_iff_ne.mpr (by omega)]
structure uv (n:Nat) (w:Wd):Prop where
 mp:∀r∈w.ms,r.2.length<=n/\∀p∈r.2,p < w.m
 ap:∀r∈w.ar,r.2.length<=n/\∀p∈r.2,p.1 < w.m/\p.2 < w.m
theorem Em (a b:Nat×Nat):bD (dP a) (dP b)=decide (a=b):=by
 have:bD (dP a) (dP b)=(bD (dN a.1) (dN b.1) && (bD (dN a.2) (dN b.2) && true)):=by show bD (.tup [dN a.1,dN a.2]) (.tup [dN b.1,dN b.2])=_;rw [nL,kK,kK,dB]
 rw [this,yv,yv,Kf];obtain ⟨a1,a2⟩:=a;obtain ⟨b1,b2⟩:=b;simp
noncomputable def fZ:D->Nat
 | .int i=>i.toNat
 | _=>0
noncomputable def gS:D->Nat×Nat
 | .tup [x,y]=>(fZ x,fZ y)
 | _=>(0,0)
theorem g9 (n:Nat):fZ (dN n)=n:=rfl
theorem g_ (n:Nat×Nat):gS (dP n)=n:=rfl
theorem back {α:Type}(h:α->D) (u:D->α) (hu:∀x,u (h x)=x){l:List D}(hl:∀d∈l,∃x,d=h x):(l.map u).map h=l:=by rw [GS];refine (Ii (g:=id) λd hd=>?_).trans (MF _);obtain ⟨x,rfl⟩:=hl d hd;show h (u (h x))=h x;rw [hu]
theorem oS {α:Type}(h:α->D) (u:D->α) (hu:∀x,u (h x)=x) (xs:List α):((a_ (xs.map h)).map u).map h=a_ (xs.map h):=back h u hu λd hd=>by obtain ⟨x,_,rfl⟩:=Gi.mp (iQ hd);exact ⟨x,rfl⟩
theorem nU {α:Type}(h:α->D) (u:D->α) (hu:∀x,u (h x)=x) (xs:List α):∀y∈(a_ (xs.map h)).map u,y∈xs:=λy hy=>by obtain ⟨d,hd,rfl⟩:=Gi.mp hy;obtain ⟨x,hx,rfl⟩:=Gi.mp (iQ hd);rw [hu];exact hx
def pF:Fm:=.tc .i (.tc .i .tn)
theorem qf (p:Nat×Nat):lF pF (dP p):=⟨_,rfl,_,_,rfl,⟨_,rfl⟩,_,rfl,_,_,rfl,⟨_,rfl⟩,[],rfl,rfl⟩
theorem Cu (xs:List Nat) (hl:xs.length < 64):mQ (xs.map dN)=true:=by unfold mQ;rw [Gn,decide_eq_true hl,LI,GW];intro d hd;obtain ⟨x,_,rfl⟩:=Gi.mp hd;rfl
theorem DM (xs:List (Nat×Nat)):∀d∈xs.map dP,gD d=some .i:=λd hd=>by obtain ⟨x,_,rfl⟩:=Gi.mp hd;rfl
theorem Cv (xs:List (Nat×Nat)) (hl:xs.length < 64):ly (xs.map dP)=true:=by
 have FJ:=uR xs;have hc:p5 (xs.map dP)=true:=by unfold p5;rw [GW];intro x hx;rw [GW];intro y hy;obtain ⟨a,_,rfl⟩:=Gi.mp hx;obtain ⟨b,_,rfl⟩:=Gi.mp hy;exact (jD pF).lt _ _ (qf a) (qf b)
 unfold ly;rw [hc,decide_eq_true FJ,Gn,decide_eq_true hl];cases xs with
 | nil=>rfl
 | cons x xs=>
  have hh:xD ((x::xs).map dP)=true:=by show fC .i ((x::xs).map dP)=true;exact lH (DM (x::xs))
  rw [hh];simp
theorem jY {ps:List Nat}(hp:p < ps.length):bw (.d (.tup (ps.map dN))) (.d (dN p))=.ok (.d (dN (ps.getD p 0))):=by
 have h1:(ps.map dN)[p]?=some (dN (ps.getD p 0)):=by rw [GK,Gr hp];simp [JM,hp]
 exact gA h1
noncomputable def c7 (w:Wd) (ps:List Nat):Wd:=⟨w.m,w.ms.map λr=>(r.1,(a_ ((r.2.map λp=>ps.getD p 0).map dN)).map fZ),w.ar.map λr=>(r.1,(a_ ((r.2.map λp=>(ps.getD p.1 0,ps.getD p.2 0)).map dP)).map gS)⟩
theorem Dj (w:Wd) (hw:uC w) (n:Nat) (hb:uv n w) (ps:List Nat) (hl:ps.length=w.m) (hp:∀p∈ps,p < w.m):uC (c7 w ps)/\uv n (c7 w ps)/\(c7 w ps).m=w.m/\(c7 w ps).ms.length=w.ms.length/\(c7 w ps).ar.length=w.ar.length:=by
 have gd:∀p,p < w.m->ps.getD p 0 < w.m:=λp h=>by
  have h':p < ps.length:=by omega
  rw [show ps.getD p 0=ps[p] by simp [JM,h']];exact hp _ (IB h')
 refine ⟨⟨hw.lo,hw.hi,?_,?_⟩,⟨λr hr=>?_,λr hr=>?_⟩,rfl,Gn _,Gn _⟩
 ·show (w.ms.map _).length<=3;rw [Gn];exact hw.ml
 ·show (w.ar.map _).length<=3;rw [Gn];exact hw.al
 ·obtain ⟨q,hq,rfl⟩:=Gi.mp (show r∈w.ms.map _ from hr);obtain ⟨h1,h2⟩:=hb.mp q hq;refine ⟨?_,λp hp'=>?_⟩
  ·show ((a_ _).map fZ).length<=n;rw [Gn,kE,Gn,Gn];exact h1
  ·have:=nU dN fZ g9 _ p hp';obtain ⟨z,hz,rfl⟩:=Gi.mp this;exact gd z (h2 z hz)
 ·obtain ⟨q,hq,rfl⟩:=Gi.mp (show r∈w.ar.map _ from hr);obtain ⟨h1,h2⟩:=hb.ap q hq;refine ⟨?_,λp hp'=>?_⟩
  ·show ((a_ _).map gS).length<=n;rw [Gn,kE,Gn,Gn];exact h1
  ·have:=nU dP gS g_ _ p hp';obtain ⟨z,hz,rfl⟩:=Gi.mp this;exact ⟨gd _ (h2 z hz).1,gd _ (h2 z hz).2⟩
end K55
namespace K23
open PySem DL
end K23
namespace K23
open PySem DL K01 WP K51 K52 K55
theorem B4 {g:G R}(h:g env=.ok (.d (.bl b))):aX g env=.ok b:=by show (g env >>= _)=_;rw [h];rfl
theorem qM {g:G R}(h:g env=.ok (bC (.d (.bl b)))):aX g env=.ok b:=B4 h
theorem iL {f:R->R->M R}{g h:G R}(hx:g env=.ok x) (hy:h env=.ok y) (hf:f x y=.ok (.d (.bl b))):aX (g2 f g h) env=.ok b:=B4 (two hx hy hf)
theorem mP {g:G Bool}(h:g env=.ok b):bg g env=.ok (!b):=by show (g env >>= _)=_;rw [h];rfl
theorem tR (a b:Nat):dY (dN a) (dN b)=true↔a < b:=by rw [jc,decide_eq_true_eq];omega
theorem Cs (a b:Nat×Nat):dY (dP a) (dP b)=true↔je a b:=by
 have e:dY (dP a) (dP b)=fL [dN a.1,dN a.2] [dN b.1,dN b.2]:=rfl;rw [e,gG,K55.yv];unfold je;by_cases c:a.1=b.1
 ·rw [if_pos (by simpa using c),gG,K55.yv];by_cases c2:a.2=b.2
  ·rw [if_pos (by simpa using c2)];constructor
   ·intro h;cases h
   ·intro h;omega
  ·rw [if_neg (by simpa using c2)];rw [show dY (D.int a.2) (D.int b.2)=dY (dN a.2) (dN b.2) from rfl,tR];omega
 ·rw [if_neg (by simpa using c)];rw [show dY (D.int a.1) (D.int b.1)=dY (dN a.1) (dN b.1) from rfl,tR];omega
theorem vY {α:Type}(h:α->D) (u:D->α) (hu:∀x,u (h x)=x) (R:α->α->Prop) (hR:∀a b,dY (h a) (h b)=true->R a b){l:List D}(hl:∀d∈l,∃x,d=h x) (up:l.Pairwise λa b=>dY a b=true):(l.map u).Pairwise R:=by refine HV.mpr ((KI.mp up).imp ?_);rintro a b ⟨ha,hb,h1⟩;obtain ⟨x,rfl⟩:=hl a ha;obtain ⟨y,rfl⟩:=hl b hb;rw [hu,hu];exact hR x y h1
structure Ay (u:Wd):Prop where
 mp:∀r∈u.ms,r.2.Pairwise (· < ·)
 ap:∀r∈u.ar,r.2.Pairwise je
theorem sW {α:Type}{l:List α}{j:Nat}(h:j < l.length):(l[j]::l.eraseIdx j).Perm l:=by
 have e2:l=l.take j++l[j]::l.drop (j + 1):=by rw [List.getElem_cons_drop,Hr]
 rw [Ks];exact List.perm_middle.symm.trans (N_ e2.symm)
theorem getD_at {ps:List Nat}{k:Nat}(h:k < ps.length):ps.getD k 0=ps[k]:=by simp [JM,h]
theorem jd {α β:Type}{f:α->β}{xs:List α}(nd:xs.Nodup) (inj:∀a∈xs,∀b∈xs,f a=f b->a=b):(xs.map f).Nodup:=by refine HV.mpr ((KI.mp nd).imp ?_);rintro a b ⟨ha,hb,h⟩ e;exact h (inj a ha b hb e)
theorem Cq {xs:List Nat}(h:xs.Pairwise (· < ·)):xs.Nodup:=h.imp λh e=>by omega
theorem vt {xs:List (Nat×Nat)}(h:xs.Pairwise je):xs.Nodup:=h.imp fun {a b} h e=>by subst e;unfold je at h;omega
theorem iG {ps:List Nat}{m:Nat}(pm:ps.Perm (Gg m)){a b:Nat}(ha:a < m) (hb:b < m) (e:ps.getD a 0=ps.getD b 0):a=b:=by
 have l:ps.length=m:=by rw [pm.length_eq,GN]
 rw [getD_at (by omega),getD_at (by omega)] at e;exact (Jl (pm.nodup_iff.mpr NN)).mp e
theorem D5 {xs:List Nat}(nd:xs.Nodup):((a_ (xs.map dN)).map fZ).Pairwise (· < ·):=
 vY dN fZ g9 _ (λa b h=>(tR a b).mp h) (λd hd=>by obtain ⟨x,_,rfl⟩:=Gi.mp (iQ hd);exact ⟨x,rfl⟩) (sf (jD .i) (λd hd=>by obtain ⟨x,_,rfl⟩:=Gi.mp hd;exact ⟨_,rfl⟩) (jd nd λa _ b _ e=>by have:=congrArg fZ e;exact this))
theorem D6 {xs:List (Nat×Nat)}(nd:xs.Nodup):((a_ (xs.map dP)).map gS).Pairwise je:=
 vY dP gS g_ _ (λa b h=>(Cs a b).mp h) (λd hd=>by obtain ⟨x,_,rfl⟩:=Gi.mp (iQ hd);exact ⟨x,rfl⟩) (sf (jD pF) (λd hd=>by obtain ⟨x,_,rfl⟩:=Gi.mp hd;exact qf x) (jd nd λa _ b _ e=>by have:=congrArg gS e;exact this))
theorem B5 (w:Wd) (hw:uC w) (n:Nat) (hb:uv n w) (hs:Ay w) (ps:List Nat) (pm:ps.Perm (Gg w.m)):uC (c7 w ps)/\uv n (c7 w ps)/\Ay (c7 w ps)/\(c7 w ps).m=w.m/\(c7 w ps).ms.map Ka=w.ms.map Ka/\(c7 w ps).ar.map Ka=w.ar.map Ka:=by
 have l:ps.length=w.m:=by rw [pm.length_eq,GN]
 obtain ⟨h1,h2,h3,h4,h5⟩:=Dj w hw n hb ps l λp hp=>by simpa using pm.mem_iff.mp hp
 refine ⟨h1,h2,⟨λr hr=>?_,λr hr=>?_⟩,h3,?_,?_⟩
 ·obtain ⟨q,hq,rfl⟩:=Gi.mp (show r∈w.ms.map _ from hr);exact D5 (jd (Cq (hs.mp q hq)) λa ha b hb' e=>iG pm ((hb.mp q hq).2 a ha) ((hb.mp q hq).2 b hb') e)
 ·obtain ⟨q,hq,rfl⟩:=Gi.mp (show r∈w.ar.map _ from hr);refine D6 (jd (vt (hs.ap q hq)) λa ha b hb' e=>?_);have ra:=(hb.ap q hq).2 a ha;have rb:=(hb.ap q hq).2 b hb';exact Kv (iG pm ra.1 rb.1 (congrArg Ka e)) (iG pm ra.2 rb.2 (congrArg Qo e))
 ·show (w.ms.map _).map _=_;rw [GS];rfl
 ·show (w.ar.map _).map _=_;rw [GS];rfl
theorem iA {α:Type}{R:α->α->Prop}(as:∀a b,R a b->¬R b a):∀{A B:List α},A.Pairwise R->B.Pairwise R->(∀y,y∈A↔y∈B)->A=B
 | [],[],_,_,_=>rfl
 | [],b::B,_,_,h=>by have:=(h b).mpr Gs;cases this
 | a::A,[],_,_,h=>by have:=(h a).mp Gs;cases this
 | a::A,b::B,hA,hB,h=>by
  obtain ⟨a1,a2⟩:=Iz.mp hA;obtain ⟨b1,b2⟩:=Iz.mp hB;have e:a=b:=by
   rcases Gz.mp ((h a).mp Gs) with e | e
   ·exact e
   ·rcases Gz.mp ((h b).mpr Gs) with f | f
    ·exact f.symm
    ·exact absurd (b1 a e) (as a b (a1 b f))
  subst e;have:A=B:=iA as a2 b2 λy=>⟨λhy=>by
    rcases Gz.mp ((h y).mp (Gp _ hy)) with e | e
    ·subst e;exact absurd (a1 y hy) (as y y (a1 y hy))
    ·exact e,λhy=>by
    rcases Gz.mp ((h y).mpr (Gp _ hy)) with e | e
    ·subst e;exact absurd (b1 y hy) (as y y (b1 y hy))
    ·exact e⟩
  rw [this]
theorem eW {α:Type}(h:α->D) (u:D->α) (hu:∀x,u (h x)=x) (xs:List α) (y:α):y∈(a_ (xs.map h)).map u↔y∈xs:=by
 constructor
 ·exact nU h u hu xs y
 ·intro hy;exact Gi.mpr ⟨h y,(fH _).mem_iff.mpr (Gi.mpr ⟨y,hy,rfl⟩),hu y⟩
end K23
namespace K03
open PySem DL
def uw:List Str:=["world","order","many","marks","arrows","new_marks","new_arrows"]
noncomputable def uX:G O:=(az (p9 (gq 3 (cF (aS 2) (cF (aS 3) (cF (aS 4) gM)))) (af 0))
 (az (aH 5 (cG 2 [1] (lP (af 3)) (gq 2 (cF (aS 0) (cF (aS 1) gM))) gk (cI (au (af 0) (au (gN cM (ah (gN i_ (ah (cG 1 [2] (lP (af 1)) (aS 0) gk (g2 bw (af 1) (af 0))) av)) av)) aG)))))
 (az (aH 6 (cG 2 [1] (lP (af 4)) (gq 2 (cF (aS 0) (cF (aS 1) gM))) gk (cI (au (af 0) (au (gN cM (ah (gN i_ (ah (cG 2 [2] (lP (af 1)) (gq 2 (cF (aS 0) (cF (aS 1) gM))) gk (cI (au (g2 bw (af 2) (af 0)) (au (g2 bw (af 2) (af 1)) aG)))) av)) av)) aG)))))
 (aN (cI (au (af 2) (au (gN cM (ah (af 5) av)) (au (gN cM (ah (af 6) av)) aG))))))))
def eO (as:List S):M R:=fin (uX (aF uw as))
def k7:List Str:=["_law_number","_law_many","_law_left","_law_found","_law_k","_law_at"]
noncomputable def lg:G O:=(az (aH 2 (yw (ah (af 1) av)))
 (az (aH 3 (fK aG))
 (az (fm (cA (ah (af 1) av)) (aS 4) (az (aH 5 (g2 cj (af 0) (gN fk (ah (af 2) av))))
 (az (aH 0 (g2 gX (g2 eE (af 0) (gC (.int 11))) (g2 cu (gC (.int 7)) (af 5))))
 (az (c_ 3 (g2 bw (af 2) (af 5)))
 (aH 2 (g2 gX (qb lO (af 2) uW (qa (af 5))) (qb lO (af 2) (qa (g2 gX (af 5) (gC (.int 1)))) uW)))))))
 (aN (gN cM (ah (af 3) av))))))
def d_ (as:List S):M R:=fin (lg (aF k7 as))
def kZ:List Str:=["_law_world_here","_law_found","_law_order_here","_law_part","_law_told","_law_points","_law_due"]
noncomputable def iV:G O:=(az (aO (bI (bg (aX (bE "tuple" (af 1)))) (aX (g2 (dW true) (gN fk (ah (af 1) av)) (gN fk (ah (g2 bw (af 0) (gC (.int 1))) av))))) (aN (gC (.bl false))) bx)
 (az (fm (tF (ah (g2 bw (af 0) (gC (.int 1))) (ah (af 1) av))) (gq 2 (cF (aS 3) (cF (aS 4) gM))) (az (aH 5 (cG 1 [2] (lP (g2 bw (af 3) (gC (.int 1)))) (aS 0) gk (g2 bw (af 1) (af 0))))
 (az (aH 6 (cI (au (g2 bw (af 3) (gC (.int 0))) (au (gN cM (ah (cG 1 [5] (cA (ah (g2 bw (af 0) (gC (.int 0))) av)) (aS 0) (aX (g2 (uT false) (af 0) (af 1))) (af 0)) av)) aG))))
 (aO (bg (aX (gN (aC 2 (K04.bH 10)) (ah (af 4) (ah (af 6) av))))) (aN (gC (.bl false))) bx))))
 (aN (gC (.bl true)))))
def eX (as:List S):M R:=fin (iV (aF kZ as))
def jM:List Str:=["_law_world_here","_law_found","_law_order_here","_law_part","_law_told","_law_pairs_here","_law_due","_law_one"]
noncomputable def iC:G O:=(az (aO (bI (bg (aX (bE "tuple" (af 1)))) (aX (g2 (dW true) (gN fk (ah (af 1) av)) (gN fk (ah (g2 bw (af 0) (gC (.int 2))) av))))) (aN (gC (.bl false))) bx)
 (az (fm (tF (ah (g2 bw (af 0) (gC (.int 2))) (ah (af 1) av))) (gq 2 (cF (aS 3) (cF (aS 4) gM))) (az (aH 5 (cG 2 [2] (lP (g2 bw (af 3) (gC (.int 1)))) (gq 2 (cF (aS 0) (cF (aS 1) gM))) gk (cI (au (g2 bw (af 2) (af 0)) (au (g2 bw (af 2) (af 1)) aG)))))
 (az (aH 6 (fK aG))
 (az (fm (cA (ah (g2 bw (af 0) (gC (.int 0))) av)) (aS 7) (aH 6 (g2 gX (af 6) (cG 1 [7,5] (cA (ah (g2 bw (af 0) (gC (.int 0))) av)) (aS 0) (aX (g2 (uT false) (cI (au (af 1) (au (af 0) aG))) (af 2))) (cI (au (af 1) (au (af 0) aG)))))))
 (aO (bg (aX (gN (aC 2 (K04.bH 10)) (ah (af 4) (ah (cI (au (g2 bw (af 3) (gC (.int 0))) (au (gN cM (ah (af 6) av)) aG))) av))))) (aN (gC (.bl false))) bx)))))
 (aN (gC (.bl true)))))
def eu (as:List S):M R:=fin (iC (aF jM as))
def DE:List Str:=["_law_script","_law_many","_law_world_here","_law_one","_law_two","_law_order_here","_law_found","_law_both","_law_back"]
noncomputable def wZ:G O:=(az (aH 1 (g2 bK (gC (.int 1)) (g2 cj (gN (aC 2 K01.bT) (ah (af 0) (ah (gC (.int 0)) av))) (gC (.int 8)))))
 (az (aH 2 (gN (aC 4 K01.cR) (ah (af 0) (ah (gC (.int 2)) (ah (af 1) (ah (gN (aC 1 K01.dz) (ah (gN (aC 2 K01.bT) (ah (af 0) (ah (gC (.int 1)) av))) av)) av))))))
 (az (aH 3 (gN (aC 2 K03.d_) (ah (gN (aC 2 K01.bT) (ah (af 0) (ah (gC (.int 8)) av))) (ah (af 1) av))))
 (az (aH 4 (gN (aC 2 K03.d_) (ah (gN (aC 2 K01.bT) (ah (af 0) (ah (gC (.int 9)) av))) (ah (af 1) av))))
 (az (fm (AY (fK (au (af 3) (au (af 4) aG)))) (aS 5) (az (aH 6 (gN (aC 2 K03.eO) (ah (af 2) (ah (af 5) av))))
 (az (aO (bI (bg (aX (bE "tuple" (af 6)))) (bI (aX (g2 (dW true) (gN fk (ah (af 6) av)) (gC (.int 3)))) (bg (aX (gN (aC 2 (K04.bH 10)) (ah (g2 bw (af 6) (gC (.int 0))) (ah (af 1) av))))))) (aN (gC (.bl false))) bx)
 (aO (bI (bg (aX (gN (aC 3 K03.eX) (ah (af 2) (ah (g2 bw (af 6) (gC (.int 1))) (ah (af 5) av)))))) (bg (aX (gN (aC 3 K03.eu) (ah (af 2) (ah (g2 bw (af 6) (gC (.int 2))) (ah (af 5) av))))))) (aN (gC (.bl false))) bx))))
 (az (aH 7 (gN cM (ah (cG 1 [4,3] (cA (ah (af 1) av)) (aS 0) gk (g2 bw (af 1) (g2 bw (af 2) (af 0)))) av)))
 (az (aH 8 (gN cM (ah (cG 1 [3] (cA (ah (af 1) av)) (aS 0) gk (tE (af 1) (af 0))) av)))
 (az (aO (bI (aX (g2 (dW true) (gN (aC 2 K03.eO) (ah (gN (aC 2 K03.eO) (ah (af 2) (ah (af 3) av))) (ah (af 4) av))) (gN (aC 2 K03.eO) (ah (af 2) (ah (af 7) av))))) (aX (g2 (dW true) (gN (aC 2 K03.eO) (ah (gN (aC 2 K03.eO) (ah (af 2) (ah (af 3) av))) (ah (af 8) av))) (af 2)))) (aN (gC (.bl false))) bx)
 (aN (g2 (dW false) (af 2) (gN (aC 4 K01.cR) (ah (af 0) (ah (gC (.int 2)) (ah (af 1) (ah (gN (aC 1 K01.dz) (ah (gN (aC 2 K01.bT) (ah (af 0) (ah (gC (.int 1)) av))) av)) av)))))))))))))))
def lE (as:List S):M R:=fin (wZ (aF DE as))
end K03
namespace K03
open PySem PySem.Spec PyProof.Rows L2 DL DX
structure i0 (w:Hi) (K:Gd) (mg:Str->Option Ge):Prop where
 all:mg "all"=none
 bool:mg "bool"=none
 int:mg "int"=none
 isinstance:mg "isinstance"=none
 len:mg "len"=none
 list:mg "list"=none
 range:mg "range"=none
 sorted:mg "sorted"=none
 str:mg "str"=none
 tuple:mg "tuple"=none
 zip:mg "zip"=none
section
variable {P:GG}{w:Hi}{K:Gd}{mg:Str->Option Ge}{base:Ij}{f:GF}{fd:HM}
abbrev vM:KR:=top 1
theorem wL (m:i0 w K mg) (e:FB K mg "moved" vM):dJ P w K mg base 1 2 "moved" K03.eO:=
 qc K03.uX K03.uw 2 e (λnd _ cdv A outer s H E J T hr=>
 (aB (xP (aa 0) (fU (bP (aT 2 nd) (bP (aT 3 nd) (bP (aT 4 nd) fz)))))
 (aB (sd 5 nd (i8 ["name","points"] [1] (gJ (aa 3)) (λ_ _ _ _ _ hc=>⟨(fU (bP (aT 0 (fh rfl)) (bP (aT 1 (fh rfl)) fz))),cW,(c6 (aJ (aa 0) (aJ (bZ (aq (oH hr.units (aq (fq (i8 ["point"] [2] (gJ (aa 1)) (λ_ _ _ _ _ hc=>⟨(aT 0 (fh rfl)),cW,(aL (aa 1) (aa 0))⟩) (AI (rE hc rfl)))) ay) m.sorted) ay) m.tuple) bF)))⟩)))
 (aB (sd 6 nd (i8 ["name","pairs"] [1] (gJ (aa 4)) (λ_ _ _ _ _ hc=>⟨(fU (bP (aT 0 (fh rfl)) (bP (aT 1 (fh rfl)) fz))),cW,(c6 (aJ (aa 0) (aJ (bZ (aq (oH hr.units (aq (fq (i8 ["a","b"] [2] (gJ (aa 1)) (λ_ _ _ _ _ hc=>⟨(fU (bP (aT 0 (fh rfl)) (bP (aT 1 (fh rfl)) fz))),cW,(c6 (aJ (aL (aa 2) (aa 0)) (aJ (aL (aa 2) (aa 1)) bF)))⟩) (AI (rE hc rfl)))) ay) m.sorted) ay) m.tuple) bF)))⟩)))
 (aQ (bA (c6 (aJ (aa 2) (aJ (bZ (aq (aa 5) ay) m.tuple) (aJ (bZ (aq (aa 6) ay) m.tuple) bF))))))))))
abbrev nj:KR:=top 3
theorem pT (m:i0 w K mg) (e:FB K mg "_law_cell" nj):dJ P w K mg base 1 2 "_law_cell" K01.bT:=
 qc K01.jo K01.gW 2 e (λnd _ cdv A outer s H E J T hr=>
 (aB (cP (zW Cy (pK λ_ _ _=>.bl _) (aa 1) (dS (aq (aa 0) ay) m.len)) (aQ (bA (bV (aL (aa 0) (aa 1)) (nR aA aA)))) cB)
 (aQ (bA aA))))
abbrev lA:KR:=top 4
theorem o9 (m:i0 w K mg) (e:FB K mg "_law_names" lA):dJ P w K mg base 1 2 "_law_names" K01.d9:=
 qc K01.iW K01.k6 2 e (λnd _ cdv A outer s H E J T hr=>
 (aB (aU 2 nd (bV (dZ (aa 0) aA) aA))
 (aB (aU 3 nd (aL eF (bV (aa 2) aA)))
 (aB (aU 4 nd (cQ aA (bV (dQ (aa 2) aA) aA)))
 (aB (cP (mZ hr.units (bV (dQ (aa 2) aA) aA) aA) (aQ (bA (fq (i8 ["_law_k"] [3] (fS (bJ (aq (aa 1) ay) m.range)) (λ_ _ _ _ _ hc=>⟨(aT 0 (fh rfl)),cW,(dZ (aa 1) (cQ aA (aa 0)))⟩))))) cB)
 (aB (cP (mZ hr.units (bV (dQ (aa 2) aA) aA) aA) (aB (aU 5 nd (fF (aJ eF (aJ eF (aJ eF (aJ eF (aJ eF (aJ eF (aJ eF (aJ eF bF))))))))))
 (aB (aU 6 nd (bV (dQ (aa 2) aA) aA))
 (aB (aU 7 nd eF)
 (aQ (bA (m_ (aq (fq (i8 ["_law_k"] [5,6,7,2] (fS (bJ (aq (aa 1) ay) m.range)) (λ_ _ _ _ _ hc=>⟨(aT 0 (fh rfl)),cW,(cQ (aL (cQ (aa 1) (aa 1)) (cQ (aa 2) (aa 0))) (aL (aa 3) (bV (dQ (aa 4) aA) aA)))⟩))) ay) m.sorted)))))) cB)
 (aB (aU 8 nd (bV (dQ (aa 2) aA) (aa 4)))
 (aB (aU 9 nd (fF bF))
 (aB (dD (bJ (aq (aa 1) ay) m.range) (aT 10 nd) (aB (aU 11 nd (aL eF (bV (cQ (dQ (aa 2) aA) (dZ aA (aa 10))) aA)))
 (aQ (e_ 9 (cQ (cQ (dZ (aa 3) (aa 8)) (aa 11)) (dZ (aa 3) (se (se (aa 4) aA) (aa 8))))))))
 (aQ (bA (m_ (aq (aa 9) ay) m.sorted))))))))))))
abbrev nk:KR:=top 5
theorem pU (m:i0 w K mg) (e:FB K mg "_law_some" nk):dJ P w K mg base 1 2 "_law_some" K01.fB:=
 qc K01.jq ["_law_bits","_law_many","_law_found","_law_point"] 2 e (λnd _ cdv A outer s H E J T hr=>
 (aB (aU 2 nd (fF bF))
 (aB (dD (bJ (aq (aa 1) ay) m.range) (aT 3 nd) (aB (cP (mZ hr.units (bV (aa 0) aA) aA) (aQ (e_ 2 (aa 3))) cB)
 (aQ (aU 0 nd (dQ (aa 0) aA)))))
 (aQ (bA (bZ (aq (aa 2) ay) m.tuple))))))
abbrev lC:KR:=top 6
theorem pe (m:i0 w K mg) (e:FB K mg "_law_pairs" lC):dJ P w K mg base 1 2 "_law_pairs" K01.eY:=
 qc K01.iX K01.k8 2 e (λnd _ cdv A outer s H E J T hr=>
 (aB (aU 2 nd (fF bF))
 (aB (dD (bJ (aq (aa 1) ay) m.range) (aT 3 nd) (aQ (dD (bJ (aq (aa 1) ay) m.range) (aT 4 nd) (aB (cP (mZ hr.units (bV (aa 0) aA) aA) (aQ (e_ 2 (c6 (aJ (aa 3) (aJ (aa 4) bF))))) cB)
 (aQ (aU 0 nd (dQ (aa 0) aA)))))))
 (aQ (bA (bZ (aq (aa 2) ay) m.tuple))))))
abbrev kC:KR:=top 7
theorem nI (m:i0 w K mg) (EN:dJ P w K mg base 1 2 "_law_names" K01.d9) (e:FB K mg "_law_tongue" kC):dJ P w K mg base 2 1 "_law_tongue" K01.dz:=
 qc K01.iD K01.jN 1 e (λnd _ cdv A outer s H E J T hr=>
 (aB (aU 1 nd (bB EN hr (aq (aa 0) (aq aA ay))))
 (aB (aU 2 nd (bV (dZ (aa 0) aA) aA))
 (aB (aU 3 nd (bV (dQ (aa 2) aA) aA))
 (aQ (bA (c6 (aJ (bZ (aq (kT (aa 1) kj (gR (bV (aa 2) aA))) ay) m.tuple) (aJ (bZ (aq (kT (aa 1) (gR (aa 3)) (gR (cQ (aa 3) (bV (dQ (aa 2) aA) aA)))) ay) m.tuple) bF)))))))))
abbrev lD:KR:=top 8
theorem pg (m:i0 w K mg) (EE:dJ P w K mg base 1 2 "_law_cell" K01.bT) (ER:dJ P w K mg base 1 2 "_law_some" K01.fB) (EO:dJ P w K mg base 1 2 "_law_pairs" K01.eY) (e:FB K mg "_law_world" lD):dJ P w K mg base 2 4 "_law_world" K01.cR:=
 qc K01.iY ["_law_script","_law_at","_law_many","_law_tongue_here","_law_marks_here","_law_k","_law_arrows_here","_law_bits"] 4 e (λnd _ cdv A outer s H E J T hr=>
 (aB (aU 4 nd (fF bF))
 (aB (dD (bJ (aq (dS (aq (aL (aa 3) aA) ay) m.len) ay) m.range) (aT 5 nd) (aQ (e_ 4 (c6 (aJ (aL (aL (aa 3) aA) (aa 5)) (aJ (bB ER hr (aq (bV (dZ (bB EE hr (aq (aa 0) (aq (cQ (aa 1) (aa 5)) ay))) aA) (nR aA aA)) (aq (aa 2) ay))) bF))))))
 (aB (aU 6 nd (fF bF))
 (aB (dD (bJ (aq (dS (aq (aL (aa 3) aA) ay) m.len) ay) m.range) (aT 5 nd) (aB (aU 7 nd (bV (dZ (bB EE hr (aq (aa 0) (aq (cQ (cQ (aa 1) aA) (aa 5)) ay))) aA) (nR aA aA)))
 (aQ (e_ 6 (c6 (aJ (aL (aL (aa 3) aA) (aa 5)) (aJ (bB EO hr (aq (aa 7) (aq (aa 2) ay))) bF)))))))
 (aQ (bA (c6 (aJ (aa 2) (aJ (bZ (aq (aa 4) ay) m.tuple) (aJ (bZ (aq (aa 6) ay) m.tuple) bF)))))))))))
abbrev lB:KR:=top 9
theorem o_ (m:i0 w K mg) (e:FB K mg "_law_order" lB):dJ P w K mg base 1 2 "_law_order" K03.d_:=
 qc K03.lg K03.k7 2 e (λnd _ cdv A outer s H E J T hr=>
 (aB (aU 2 nd (t6 (aq (aa 1) ay) m.range m.list))
 (aB (aU 3 nd (fF bF))
 (aB (dD (bJ (aq (aa 1) ay) m.range) (aT 4 nd) (aB (aU 5 nd (bV (aa 0) (dS (aq (aa 2) ay) m.len)))
 (aB (aU 0 nd (jy (dQ (aa 0) aA) (dZ aA (aa 5))))
 (aB (e_ 3 (aL (aa 2) (aa 5)))
 (aQ (aU 2 nd (jy (kT (aa 2) kj (gR (aa 5))) (kT (aa 2) (gR (jy (aa 5) aA)) kj))))))))
 (aQ (bA (bZ (aq (aa 3) ay) m.tuple)))))))
abbrev jB:KR:=top 10
theorem qX:eB ["_law_found","_law_due"] ["_law_found","_law_due"] (aV jB):=⟨rfl,rfl,rfl,by decide +kernel,rfl,by decide +kernel,by decide +kernel⟩
theorem jR (m:i0 w K mg) (F:ir K "_law_same" "_law_same" jB f fd) (hm:mg "_law_same"=some (.ref f)):∀fu:Nat,dJ P w K mg base (0 + fu) 2 "_law_same" (K04.bH fu)
 | 0=>y_ (ps:=["_law_found","_law_due"]) F hm (λ_ _ _ _ _ _ us hl=>match us,hl with | [_,_],_=>rfl) (λ_=>rfl)
 | fu + 1=>
  have sc:=qX;have hself:=jR m F hm fu
  r_ (k:=0 + fu) (gB:=K04.dX (K04.bH fu)) F hm sc (λ_ _ _ _ _ _ us hl=>match us,hl with | [_,_],_=>rfl) (λcdv A outer s H E J T hr=>
 (aB (cP (dO (cJ kit_tuple fN m.tuple (aa 1) m.isinstance)) (aB (cP (gH (gQ (fE (dO (cJ kit_tuple fN m.tuple (aa 0) m.isinstance))) (gI (jf hr.units (dS (aq (aa 0) ay) m.len) (dS (aq (aa 1) ay) m.len))))) (aQ (bA fO)) cB)
 (aQ (bA (zX (aq (fq (i8 ["_law_k"] [0,1] (fS (bJ (aq (dS (aq (aa 1) ay) m.len) ay) m.range)) (λ_ _ _ _ _ hc=>⟨(aT 0 (fh rfl)),cW,(bB hself hr (aq (aL (aa 1) (aa 0)) (aq (aL (aa 2) (aa 0)) ay)) (by omega))⟩))) ay) m.all)))) cB)
 (aB (cP (gH (gQ (dO (cJ lR ji m.bool (aa 1) m.isinstance)) (gI (dO (cJ rX oB m.int (aa 1) m.isinstance))))) (aQ (bA (nQ (cJ rX oB m.int (aa 0) m.isinstance) (nQ (m9 hr.units (cJ lR ji m.bool (aa 0) m.isinstance) (cJ lR ji m.bool (aa 1) m.isinstance)) (qD (m9 hr.units (aa 0) (aa 1))))))) cB)
 (aQ (bA (nQ (cJ zu uK m.str (aa 0) m.isinstance) (qD (m9 hr.units (aa 0) (aa 1))))))))) (λas r _ h=>h)
abbrev lz:KR:=top 11
theorem o8 (m:i0 w K mg) (EG:dJ P w K mg base 10 2 "_law_same" (K04.bH 10)) (e:FB K mg "_law_marks" lz):dJ P w K mg base 11 3 "_law_marks" K03.eX:=
 qc K03.iV K03.kZ 3 e (λnd _ cdv A outer s H E J T hr=>
 (aB (cP (gH (gQ (fE (dO (cJ kit_tuple fN m.tuple (aa 1) m.isinstance))) (gI (jf hr.units (dS (aq (aa 1) ay) m.len) (dS (aq (aL (aa 0) aA) ay) m.len))))) (aQ (bA fO)) cB)
 (aB (dD (qE (aq (aL (aa 0) aA) (aq (aa 1) ay)) m.zip) (fU (bP (aT 3 nd) (bP (aT 4 nd) fz))) (aB (aU 5 nd (fq (i8 ["_law_point"] [2] (gJ (aL (aa 3) aA)) (λ_ _ _ _ _ hc=>⟨(aT 0 (fh rfl)),cW,(aL (aa 1) (aa 0))⟩))))
 (aB (aU 6 nd (c6 (aJ (aL (aa 3) aA) (aJ (bZ (aq (fq (i8 ["_law_point"] [5] (fS (bJ (aq (aL (aa 0) aA) ay) m.range)) (λ_ _ _ _ _ hc=>⟨(aT 0 (fh rfl)),(oJ (vF hr.units (aa 0) (aa 1))),(aa 0)⟩))) ay) m.tuple) bF))))
 (aQ (cP (fE (dO (bB EG hr (aq (aa 4) (aq (aa 6) ay))))) (aQ (bA fO)) cB)))))
 (aQ (bA fO)))))
abbrev kB:KR:=top 12
theorem nG (m:i0 w K mg) (EG:dJ P w K mg base 10 2 "_law_same" (K04.bH 10)) (e:FB K mg "_law_arrows" kB):dJ P w K mg base 11 3 "_law_arrows" K03.eu:=
 qc K03.iC K03.jM 3 e (λnd _ cdv A outer s H E J T hr=>
 (aB (cP (gH (gQ (fE (dO (cJ kit_tuple fN m.tuple (aa 1) m.isinstance))) (gI (jf hr.units (dS (aq (aa 1) ay) m.len) (dS (aq (aL (aa 0) aA) ay) m.len))))) (aQ (bA fO)) cB)
 (aB (dD (qE (aq (aL (aa 0) aA) (aq (aa 1) ay)) m.zip) (fU (bP (aT 3 nd) (bP (aT 4 nd) fz))) (aB (aU 5 nd (fq (i8 ["_law_one","_law_other"] [2] (gJ (aL (aa 3) aA)) (λ_ _ _ _ _ hc=>⟨(fU (bP (aT 0 (fh rfl)) (bP (aT 1 (fh rfl)) fz))),cW,(c6 (aJ (aL (aa 2) (aa 0)) (aJ (aL (aa 2) (aa 1)) bF)))⟩))))
 (aB (aU 6 nd (fF bF))
 (aB (dD (bJ (aq (aL (aa 0) aA) ay) m.range) (aT 7 nd) (aQ (aU 6 nd (jy (aa 6) (fq (i8 ["_law_other"] [7,5] (fS (bJ (aq (aL (aa 0) aA) ay) m.range)) (λ_ _ _ _ _ hc=>⟨(aT 0 (fh rfl)),(oJ (vF hr.units (c6 (aJ (aa 1) (aJ (aa 0) bF))) (aa 2))),(c6 (aJ (aa 1) (aJ (aa 0) bF)))⟩)))))))
 (aQ (cP (fE (dO (bB EG hr (aq (aa 4) (aq (c6 (aJ (aL (aa 3) aA) (aJ (bZ (aq (aa 6) ay) m.tuple) bF))) ay))))) (aQ (bA fO)) cB))))))
 (aQ (bA fO)))))
abbrev jC:KR:=top 13
theorem CS:eB ["_law_script","_law_many","_law_world_here","_law_one","_law_two","_law_order_here","_law_found","_law_both","_law_back"] ["_law_script"] (aV jC):=⟨rfl,rfl,rfl,by decide +kernel,rfl,by decide +kernel,by decide +kernel⟩
theorem Cw (m:i0 w K mg) (EE:dJ P w K mg base 1 2 "_law_cell" K01.bT) (EH:dJ P w K mg base 2 1 "_law_tongue" K01.dz) (EK:dJ P w K mg base 2 4 "_law_world" K01.cR) (EJ:dJ P w K mg base 1 2 "_law_order" K03.d_) (EI:dJ P w K mg base 1 2 "moved" K03.eO) (EG:dJ P w K mg base 10 2 "_law_same" (K04.bH 10)) (EM:dJ P w K mg base 11 3 "_law_marks" K03.eX) (EL:dJ P w K mg base 11 3 "_law_arrows" K03.eu) (F:ir K "law" "law" jC f fd):f6 P w K mg base i6 12 f fd ["_law_script"] (jJ K 1 K03.lE):=
 have sc:=CS
 zV (k:=11) (gB:=K03.wZ) F sc (λcdv A outer s H E J T hr=>
 (aB (aU 1 sc.nd (cQ aA (bV (bB EE hr (aq (aa 0) (aq aA ay))) aA)))
 (aB (aU 2 sc.nd (bB EK hr (aq (aa 0) (aq aA (aq (aa 1) (aq (bB EH hr (aq (bB EE hr (aq (aa 0) (aq aA ay))) ay)) ay))))))
 (aB (aU 3 sc.nd (bB EJ hr (aq (bB EE hr (aq (aa 0) (aq aA ay))) (aq (aa 1) ay))))
 (aB (aU 4 sc.nd (bB EJ hr (aq (bB EE hr (aq (aa 0) (aq aA ay))) (aq (aa 1) ay))))
 (aB (dD (xQ (fF (aJ (aa 3) (aJ (aa 4) bF)))) (aT 5 sc.nd) (aB (aU 6 sc.nd (bB EI hr (aq (aa 2) (aq (aa 5) ay))))
 (aB (cP (gH (gQ (fE (dO (cJ kit_tuple fN m.tuple (aa 6) m.isinstance))) (gQ (jf hr.units (dS (aq (aa 6) ay) m.len) aA) (gI (fE (dO (bB EG hr (aq (aL (aa 6) aA) (aq (aa 1) ay))))))))) (aQ (bA fO)) cB)
 (aQ (cP (gH (gQ (fE (dO (bB EM hr (aq (aa 2) (aq (aL (aa 6) aA) (aq (aa 5) ay)))))) (gI (fE (dO (bB EL hr (aq (aa 2) (aq (aL (aa 6) aA) (aq (aa 5) ay))))))))) (aQ (bA fO)) cB)))))
 (aB (aU 7 sc.nd (bZ (aq (fq (i8 ["_law_k"] [4,3] (fS (bJ (aq (aa 1) ay) m.range)) (λ_ _ _ _ _ hc=>⟨(aT 0 (fh rfl)),cW,(aL (aa 1) (aL (aa 2) (aa 0)))⟩))) ay) m.tuple))
 (aB (aU 8 sc.nd (bZ (aq (fq (i8 ["_law_k"] [3] (fS (bJ (aq (aa 1) ay) m.range)) (λ_ _ _ _ _ hc=>⟨(aT 0 (fh rfl)),cW,(zY (aa 1) (aa 0))⟩))) ay) m.tuple))
 (aB (cP (gH (gQ (jf hr.units (bB EI hr (aq (bB EI hr (aq (aa 2) (aq (aa 3) ay))) (aq (aa 4) ay))) (bB EI hr (aq (aa 2) (aq (aa 7) ay)))) (gI (jf hr.units (bB EI hr (aq (bB EI hr (aq (aa 2) (aq (aa 3) ay))) (aq (aa 8) ay))) (aa 2))))) (aQ (bA fO)) cB)
 (aQ (bA (m9 hr.units (aa 2) (bB EK hr (aq (aa 0) (aq aA (aq (aa 1) (aq (bB EH hr (aq (bB EE hr (aq (aa 0) (aq aA ay))) ay)) ay))))))))))))))))) (λas r _ h=>h)
end
end K03
namespace K03
open PySem DL K01 WP K51 K52 K55 K23
theorem AO (ls:List D) (j:Nat) (h:j < ls.length):cutD ls none (some (j:Int))=ls.take j:=by unfold cutD HT.br;simp;rw [if_neg (by omega),Oa (by omega)]
theorem AN (ls:List D) (j:Nat) (h:j < ls.length):cutD ls (some ((j:Int) + 1)) none=ls.drop (j + 1):=by unfold cutD HT.br;simp;rw [if_neg (by omega),Oa (by omega)];exact IM (by simp)
theorem DH (xs ys:List D) (h:xs.length + ys.length<=1000):gX (.l .fresh xs) (.l .fresh ys)=.ok (.l .fresh (xs++ys)):=by unfold gX;exact K02.AH xs ys h
theorem Ca (xs ys:List D) (h:xs.length + ys.length<=1000):gX (.l .own xs) (.l .fresh ys)=.ok (.l .fresh (xs++ys)):=by unfold gX yE bK qi u7 jn;simp [gV,jW,fR h]
theorem q_ (c:Int) (m:Nat) (hm:m<=8):∃ps:List Nat,d_ [.d (.int c),.d (.int m)]=.ok (.d (.tup (ps.map dN)))/\ps.Perm (Gg m):=by
 have key:Wp (d_ [.d (.int c),.d (.int m)]) λr=>∃ps:List Nat,r=.d (.tup (ps.map dN))/\ps.Perm (Gg m):=by
  refine Dk (d7 (r:=.l .fresh ((Gg m).map dN)) ?_ rfl (d7 rfl rfl (ni (qH (n:=m) rfl (by omega)) ?_)))
  ·show (if below 16777216 (m:Int) then M.ok (R.l .fresh (cH 0 (m:Int).toNat)) else .bad)=_;rw [if_pos (by unfold below;simp;omega),Jd,BR]
  ·refine yQ (λk env=>∃(c:Int) (ls ps:List Nat) (x y:Option S),env=[some (.d (.int c)),some (.d (.int m)),some (.own (ls.map dN)),some (.own (ps.map dN)),x,y]/\ls.length + k=m/\ps.length=k/\(ps++ls).Perm (Gg m)) ⟨c,Gg m,[],none,none,rfl,by simp,rfl,.refl _⟩ ?_ ?_
   ·rintro k hk _ ⟨c,ls,ps,x,y,rfl,l1,l2,m1⟩;have hlen:(0:Int) < ((ls.map dN).length:Nat):=by simp;omega
    obtain ⟨j,hj⟩:∃j:Nat,c % ((ls.map dN).length:Nat)=j:=⟨(c % ((ls.map dN).length:Nat)).toNat,by have:=Jh c (b:=((ls.map dN).length:Nat)) (by omega);omega⟩;have hjl:j < (ls.map dN).length:=by have:=J6 c hlen;omega
    have E4:j < ls.length:=by simpa using hjl
    refine ⟨_,rfl,d7 (two rfl (n1 rfl rfl) ((cL _ _ hlen).trans (by rw [hj]))) rfl ?_⟩;refine d7 (two (two rfl rfl (eg _ 11 (by decide) (by decide))) (two rfl rfl (qL 7 _ (by decide) (by decide))) rfl) rfl ?_;refine CP rfl (two rfl rfl (s_ (k:=j) (x:=dN ls[j]) (by simp [E4]))) rfl (by simp;omega) ?_;refine tM (two (x:=.l .fresh ((ls.map dN).take j)) (y:=.l .fresh ((ls.map dN).drop (j + 1))) ?_ ?_ (DH _ _ (by simp;omega))) rfl ⟨_,rfl,c / 11 + 7 * (j:Int),ls.eraseIdx j,ps++[ls[j]],some (.d (.int k)),some (.d (.int j)),?_,?_,?_,?_⟩
    ·show M.ok (R.l .fresh (cutD (ls.map dN) none (some (j:Int))))=_;rw [AO _ _ hjl]
    ·show M.ok (R.l .fresh (cutD (ls.map dN) (some ((j:Int) + 1)) none))=_;rw [AN _ _ hjl]
    ·rw [Jg,show (ls.eraseIdx j).map dN=(ls.map dN).take j++(ls.map dN).drop (j + 1) by simp [Ks,OM,ON]];rfl
    ·rw [List.length_eraseIdx,if_pos E4];omega
    ·rw [GR];simp;omega
    ·rw [G2,List.singleton_append];exact ((sW E4).append_left ps).trans m1
   ·rintro _ ⟨c,ls,ps,x,y,rfl,l1,l2,m1⟩;have l0:ls=[]:=List.length_eq_zero_iff.mp (by omega);rw [l0,HL] at m1;exact mO rfl rfl ⟨_,rfl,ps,rfl,m1⟩
 obtain ⟨_,h,ps,rfl,hk⟩:=key;exact ⟨ps,h,hk⟩
theorem D3 (xs:List Nat) (hl:xs.length < 64):i_ [.l .fresh (xs.map dN)]=.ok (.l .fresh (a_ (xs.map dN))):=by show (if ly (xs.map dN)=true then M.ok (R.l .fresh (a_ (xs.map dN))) else if mQ (xs.map dN)=true then M.ok (R.l .fresh (a_ (xs.map dN))) else _)=_;rw [if_pos (Cu xs hl)];split <;> rfl
theorem Bf (xs:List (Nat×Nat)) (hl:xs.length=64) (nd:xs.Nodup) (h:∀p∈xs,p.1 < 8/\p.2 < 8):S6.jv (xs.map dP)=true:=by
 unfold S6.jv;rw [Gn,decide_eq_true hl,LI,Gw,GW,decide_eq_true_eq];refine ⟨λd hd=>?_,?_⟩
 ·obtain ⟨p,hp,rfl⟩:=Gi.mp hd;have:=h p hp;have e:S6.jX (dP p)=(decide ((0:Int)<=p.1) && (decide ((p.1:Int) < 1000) && (decide ((0:Int)<=p.2) && decide ((p.2:Int) < 1000)))):=rfl;rw [e,decide_eq_true (by omega),decide_eq_true (by omega),decide_eq_true (by omega),decide_eq_true (by omega)];rfl
 ·rw [GS];refine jd nd λa ha b hb e=>?_;have e:1000 * (a.1:Int).toNat + (a.2:Int).toNat=1000 * (b.1:Int).toNat + (b.2:Int).toNat:=e;have:=h a ha;have:=h b hb;exact Kv (by omega) (by omega)
theorem D4 (xs:List (Nat×Nat)) (hl:xs.length<=64) (nd:xs.Nodup) (h:∀p∈xs,p.1 < 8/\p.2 < 8):i_ [.l .fresh (xs.map dP)]=.ok (.l .fresh (a_ (xs.map dP))):=by
 show (if ly (xs.map dP)=true then M.ok (R.l .fresh (a_ (xs.map dP))) else if mQ (xs.map dP)=true then M.ok (R.l .fresh (a_ (xs.map dP))) else if S6.jv (xs.map dP)=true then M.ok (R.l .fresh (a_ (xs.map dP))) else .bad)=_;by_cases q:xs.length < 64
 ·rw [if_pos (Cv xs q)]
 ·rw [if_pos (Bf xs (by omega) nd h)];split
  ·rfl
  ·split <;> rfl
structure Ok (w:Wd):Prop where
 ok:uC w
 cV:uv 64 w
 srt:Ay w
 m8:∀r∈w.ms,r.2.length<=8
theorem Ok.tu {w:Wd}(h:Ok w){ps:List Nat}(pm:ps.Perm (Gg w.m)):Ok (c7 w ps):=by obtain ⟨h1,h2,h3,_⟩:=B5 w h.ok 64 h.cV h.srt ps pm;refine ⟨h1,h2,h3,λr hr=>?_⟩;obtain ⟨q,hq,rfl⟩:=Gi.mp (show r∈w.ms.map _ from hr);show ((a_ _).map fZ).length<=8;rw [Gn,kE,Gn,Gn];exact h.m8 q hq
theorem q9 (w:Wd) (h:Ok w) (ps:List Nat) (pm:ps.Perm (Gg w.m)):eO [.d w.d,.d (.tup (ps.map dN))]=.ok (.d (c7 w ps).d):=by
 have ml:=h.ok.ml;have al:=h.ok.al;have m8:=h.ok.hi;have hl:ps.length=w.m:=by rw [pm.length_eq,GN]
 have gd:∀p,p < w.m->ps.getD p 0 < w.m:=λp h=>by
  have h':p < ps.length:=by omega
  rw [show ps.getD p 0=ps[p] by simp [JM,h']];simpa using pm.mem_iff.mp (IB h')
 refine mj (CQ rfl rfl rfl (d7 (pL (xs:=w.ms) (λr=>.str r.1) (λr=>.tup (r.2.map dN)) (λr=>cX (r.1,(a_ ((r.2.map λp=>ps.getD p 0).map dN)).map fZ)) rfl (by omega) λr hr=>?_) rfl ?_))
 ·obtain ⟨h1,h2⟩:=h.cV.mp r hr;have h1':=h.m8 r hr;refine ⟨_,gr (b9 rfl rfl (b9 (n1 (n1 (sS (xs:=r.2) (h:=dN) (λp=>dN (ps.getD p 0)) rfl (by omega) λp hp=>⟨_,two rfl rfl (jY (by rw [hl];exact h2 p hp)),rfl⟩) (x:=.l .fresh (r.2.map λp=>dN (ps.getD p 0))) (z:=.l .fresh (a_ ((r.2.map λp=>ps.getD p 0).map dN))) ?_) rfl) rfl gj)) t2,?_⟩
  ·have:=D3 (r.2.map λp=>ps.getD p 0) (by simp;omega);rw [GS] at this ⊢;exact this
  ·unfold cX;rw [oS dN fZ g9];rfl
 refine d7 (pL (xs:=w.ar) (λr=>.str r.1) (λr=>.tup (r.2.map dP)) (λr=>c9 (r.1,(a_ ((r.2.map λp=>(ps.getD p.1 0,ps.getD p.2 0)).map dP)).map gS)) rfl (by omega) λr hr=>?_) rfl ?_
 ·obtain ⟨h1,h2⟩:=h.cV.ap r hr;refine ⟨_,gr (b9 rfl rfl (b9 (n1 (n1 (pL (xs:=r.2) (λp=>dN p.1) (λp=>dN p.2) (λp=>dP (ps.getD p.1 0,ps.getD p.2 0)) rfl (by omega) λp hp=>⟨_,gr (b9 (two rfl rfl (jY (by rw [hl];exact (h2 p hp).1))) rfl (b9 (two rfl rfl (jY (by rw [hl];exact (h2 p hp).2))) rfl gj)) t2,rfl⟩) (x:=.l .fresh (r.2.map λp=>dP (ps.getD p.1 0,ps.getD p.2 0))) (z:=.l .fresh (a_ ((r.2.map λp=>(ps.getD p.1 0,ps.getD p.2 0)).map dP))) ?_) rfl) rfl gj)) t2,?_⟩
  ·have:=D4 (r.2.map λp=>(ps.getD p.1 0,ps.getD p.2 0)) (by simp;omega) (jd (vt (h.srt.ap r hr)) λa ha b hb' e=>Kv (iG pm (h2 a ha).1 (h2 b hb').1 (congrArg Ka e)) (iG pm (h2 a ha).2 (h2 b hb').2 (congrArg Qo e))) λp hp=>by obtain ⟨q,hq,rfl⟩:=Gi.mp hp;have:=gd _ (h2 q hq).1;have:=gd _ (h2 q hq).2;exact ⟨by show ps.getD q.1 0 < 8;omega,by show ps.getD q.2 0 < 8;omega⟩
   rw [GS] at this ⊢;exact this
  ·unfold c9;rw [oS dP gS g_];rfl
 refine mO (gr (b9 rfl rfl (b9 rfl rfl (b9 rfl rfl gj))) (by show 3<=1000;decide)) rfl ?_;unfold c7 Wd.d;simp only [GS];rfl
theorem kQ {a b:G Bool}(h1:a env=.ok false) (h2:b env=.ok k):bI a b env=.ok k:=by show (a env >>= _)=_;rw [h1];exact h2
theorem A1 (neg:Bool) (x:D) (m:Md) (ys:List D) (h:deps ys<=60) (hx:dep x<=60):uT neg (.d x) (.l m ys)=.ok (.d (.bl (if neg then !inD x ys else inD x ys))):=by show (if deps ys<=60/\dep x<=60 then M.ok (R.d (.bl (if neg then !inD x ys else inD x ys))) else M.bad)=_;rw [if_pos ⟨h,hx⟩]
theorem yC (k:Nat×Nat):∀(xs:List (Nat×Nat)),inD (dP k) (xs.map dP)=decide (k∈xs)
 | []=>by simp [inD]
 | x::xs=>by
  have:=yC k xs;unfold inD at this;rw [Ht,inD,KY,this,Em];by_cases q:k=x
  ·subst q;simp
  ·have:¬x=k:=λh=>q h.symm;simp [q,this]
theorem lT {α:Type}(f g:α->D):∀xs:List α,Lj (λa b=>D.tup [a,b]) (xs.map f) (xs.map g)=xs.map λx=>.tup [f x,g x]
 | []=>rfl
 | x::xs=>by rw [Ht,Ht,List.zipWith_cons_cons,lT f g xs];rfl
theorem BA (s:Str) (xs:List Nat) (h:xs.length<=1000):K04.Pl (cX (s,xs))/\dep (cX (s,xs)) < 10:=by
 refine ⟨.tup _ (by simp) λx hx=>?_,?_⟩
 ·simp only [Gz,GP,or_false] at hx;rcases hx with rfl | rfl
  ·exact .str _
  ·refine .tup _ (by simpa using h) λx hx=>?_;obtain ⟨k,_,rfl⟩:=Gi.mp hx;exact .int _
 ·have:=K02.rO xs;simp only [cX,dep,deps];omega
theorem BB (s:Str) (xs:List (Nat×Nat)) (h:xs.length<=1000):K04.Pl (c9 (s,xs))/\dep (c9 (s,xs)) < 10:=by
 refine ⟨.tup _ (by simp) λx hx=>?_,?_⟩
 ·simp only [Gz,GP,or_false] at hx;rcases hx with rfl | rfl
  ·exact .str _
  ·refine .tup _ (by simpa using h) λx hx=>?_;obtain ⟨k,_,rfl⟩:=Gi.mp hx;refine .tup _ (by simp) λx hx=>?_;simp only [Gz,GP,or_false] at hx;rcases hx with rfl | rfl <;> exact .int _
 ·have:=K02.rP xs;simp only [c9,dep,deps];omega
theorem CI {m:Nat}{xs ys:List Nat}(h:∀x∈xs,x < m) (up:ys.Pairwise (· < ·)) (e:∀y,y∈ys↔y∈xs):(Gg m).filter (λk=>decide (k∈xs))=ys:=
 iA (R:=(· < ·)) (λa b h h'=>by omega) (Mq _ Ib) up λx=>by simp only [K2,Hu,decide_eq_true_eq];rw [e];exact ⟨λh=>h.2,λhx=>⟨h x hx,hx⟩⟩
theorem qz (a b:Nat×Nat) (h:je a b):¬je b a:=by unfold je at *;omega
def iy (m:Nat) (xs:List (Nat×Nat)) (k:Nat):List (Nat×Nat):=(Gg k).flatMap λa=>((Gg m).filter λb=>decide ((a,b)∈xs)).map λb=>(a,b)
theorem uS (m:Nat) (xs:List (Nat×Nat)) (k:Nat):iy m xs (k + 1)=iy m xs k++((Gg m).filter λb=>decide ((k,b)∈xs)).map λb=>(k,b):=by unfold iy;rw [NZ,List.flatMap_append];simp
theorem wR (m:Nat) (xs:List (Nat×Nat)) (k:Nat):(iy m xs k).length<=k * m:=by
 induction k with
 | zero=>simp [iy]
 | succ k ih=>
  rw [uS,GR,Gn,PN];have:=KC (λb=>decide ((k,b)∈xs)) (Gg m);rw [GN] at this;omega
theorem CJ {m:Nat}{xs ys:List (Nat×Nat)}(h:∀x∈xs,x.1 < m/\x.2 < m) (up:ys.Pairwise je) (e:∀y,y∈ys↔y∈xs):iy m xs m=ys:=by
 refine iA qz ?_ up λx=>?_
 ·unfold iy;refine List.pairwise_flatMap.mpr ⟨λa _=>HV.mpr ((Mq _ Ib).imp λh=>.inr ⟨rfl,h⟩),?_⟩;refine Ib.imp ?_;intro a b hab p h1 q h2;obtain ⟨_,_,rfl⟩:=Gi.mp h1;obtain ⟨_,_,rfl⟩:=Gi.mp h2;exact .inl hab
 ·rw [e];unfold iy;simp only [List.mem_flatMap,Hu,Gi,K2,decide_eq_true_eq];constructor
  ·rintro ⟨a,_,b,⟨_,h⟩,rfl⟩;exact h
  ·intro hx;exact ⟨x.1,(h x hx).1,x.2,⟨(h x hx).2,hx⟩,rfl⟩
abbrev fY (ps:List Nat) (r:Str×List Nat):Str×List Nat:=(r.1,(a_ ((r.2.map λp=>ps.getD p 0).map dN)).map fZ)
abbrev gm (ps:List Nat) (r:Str×List (Nat×Nat)):Str×List (Nat×Nat):=(r.1,(a_ ((r.2.map λp=>(ps.getD p.1 0,ps.getD p.2 0)).map dP)).map gS)
theorem gd {ps:List Nat}{m:Nat}(pm:ps.Perm (Gg m)){p:Nat}(h:p < m):ps.getD p 0 < m:=by
 have h':p < ps.length:=by rw [pm.length_eq,GN];exact h
 rw [show ps.getD p 0=ps[p] by simp [JM,h']];simpa using pm.mem_iff.mp (IB h')
theorem yR (w:Wd) (h:Ok w) (ps:List Nat) (pm:ps.Perm (Gg w.m)):eX [.d w.d,.d (.tup ((c7 w ps).ms.map cX)),.d (.tup (ps.map dN))]=.ok (.d (.bl true)):=by
 have ml:=h.ok.ml;have m8:=h.ok.hi;have t:=h.tu pm;have hl:ps.length=w.m:=by rw [pm.length_eq,GN]
 have hF:=K04.lU 10;unfold eX iV;generalize K04.bH 10=F at hF ⊢;refine mj (nq (kQ rfl (iL (n1 rfl rfl) (n1 (two rfl rfl (bU _ _ _)) rfl) (eq_int true _ _) |>.trans ?_)) (ni (ds:=w.ms.map λr=>.tup [cX r,cX (fY ps r)]) ?_ ?_))
 ·show M.ok _=_;congr 1;simp [c7]
 ·show M.ok (Lj _ (w.ms.map cX) ((w.ms.map (fY ps)).map cX))=_;rw [GS,lT];rfl
 ·refine ny (λk env=>∃x3 x4 x5 x6:Option S,env=[some (.d w.d),some (.d (.tup ((c7 w ps).ms.map cX))),some (.d (.tup (ps.map dN))),x3,x4,x5,x6]) _ ⟨_,_,_,_,rfl⟩ ?_ ?_
  ·rintro k hk _ ⟨x3,x4,x5,x6,rfl⟩;have hk':k < w.ms.length:=by simpa using hk
   have hr:w.ms[k]∈w.ms:=IB hk';rw [JP];generalize w.ms[k]=r at hr;obtain ⟨h1,h2⟩:=h.cV.mp r hr;refine ⟨_,rfl,d7 (sS (xs:=r.2) (h:=dN) (λp=>dN (ps.getD p 0)) ?_ (by omega) λp hp=>⟨_,two rfl rfl (jY (by rw [hl];exact h2 p hp)),rfl⟩) rfl ?_⟩
   ·show (g2 bw (af 3) (gC (.int 1)) _ >>= _)=_;rw [two (x:=.d (cX r)) rfl rfl (bU _ _ _)];rfl
   have due:(Gg w.m).filter (λk=>decide (k∈r.2.map λp=>ps.getD p 0))=(fY ps r).2:=CI (λx hx=>by
     obtain ⟨p,hp,rfl⟩:=Gi.mp hx;exact gd pm (h2 p hp)) (t.srt.mp (fY ps r) (Gi.mpr ⟨r,hr,rfl⟩)) λy=>eW dN fZ g9 _ y
   have ll:(fY ps r).2.length<=1000:=by have:=(t.cV.mp (fY ps r) (Gi.mpr ⟨r,hr,rfl⟩)).1;omega
   refine d7 (x:=.d (cX (fY ps r))) (gr (ds:=[.str r.1,.tup ((fY ps r).2.map dN)]) (b9 (two rfl rfl (bQ _ _)) rfl (b9 (n1 (sU (xs:=Gg w.m) (h:=dN) (λk=>decide (k∈r.2.map λp=>ps.getD p 0)) dN (t7 (jU (two rfl rfl (bQ _ _))) (by omega)) (by simp;omega) λk _=>⟨?_,λ_=>⟨_,rfl,rfl⟩⟩) (z:=.d (.tup ((fY ps r).2.map dN))) ?_) rfl gj)) t2) rfl ?_
   ·refine iL rfl rfl ((A1 false (dN k) _ (r.2.map λp=>dN (ps.getD p 0)) ?_ (Hh _)).trans ?_)
    ·have:=AR (r.2.map λp=>ps.getD p 0);rw [GS] at this;exact this
    ·have:=K04.yz k (r.2.map λp=>ps.getD p 0);rw [GS] at this;show M.ok (R.d (.bl (inD (.int k) (r.2.map λp=>dN (ps.getD p 0)))))=_;rw [show (r.2.map λp=>dN (ps.getD p 0))=r.2.map (dN ∘ λp=>ps.getD p 0) from rfl,this]
   ·rw [due];rfl
   ·refine xg (mP (qM (c2 (z:=.d (.bl true)) rfl rfl (hF (cX (fY ps r)) (BA _ _ ll).1 (BA _ _ ll).2 (by omega))))) (tL ⟨_,rfl,_,_,_,_,rfl⟩)
  ·rintro _ ⟨x3,x4,x5,x6,rfl⟩;exact mO rfl rfl rfl
theorem wc (w:Wd) (h:Ok w) (ps:List Nat) (pm:ps.Perm (Gg w.m)):eu [.d w.d,.d (.tup ((c7 w ps).ar.map c9)),.d (.tup (ps.map dN))]=.ok (.d (.bl true)):=by
 have al:=h.ok.al;have m8:=h.ok.hi;have t:=h.tu pm;have hl:ps.length=w.m:=by rw [pm.length_eq,GN]
 have hF:=K04.lU 10;unfold eu iC;generalize K04.bH 10=F at hF ⊢;refine mj (nq (kQ rfl (iL (n1 rfl rfl) (n1 (two rfl rfl (bW _ _ _ _)) rfl) (eq_int true _ _) |>.trans ?_)) (ni (ds:=w.ar.map λr=>.tup [c9 r,c9 (gm ps r)]) ?_ ?_))
 ·show M.ok _=_;congr 1;simp [c7]
 ·show M.ok (Lj _ (w.ar.map c9) ((w.ar.map (gm ps)).map c9))=_;rw [GS,lT];rfl
 ·refine ny (λk env=>∃x3 x4 x5 x6 x7:Option S,env=[some (.d w.d),some (.d (.tup ((c7 w ps).ar.map c9))),some (.d (.tup (ps.map dN))),x3,x4,x5,x6,x7]) _ ⟨_,_,_,_,_,rfl⟩ ?_ ?_
  ·rintro k hk _ ⟨x3,x4,x5,x6,x7,rfl⟩;have hk':k < w.ar.length:=by simpa using hk
   have hr:w.ar[k]∈w.ar:=IB hk';rw [JP];generalize w.ar[k]=r at hr;obtain ⟨h1,h2⟩:=h.cV.ap r hr;refine ⟨_,rfl,d7 (x:=.own ((r.2.map λp=>(ps.getD p.1 0,ps.getD p.2 0)).map dP)) (pL (xs:=r.2) (λp=>dN p.1) (λp=>dN p.2) (λp=>dP (ps.getD p.1 0,ps.getD p.2 0)) ?_ (by omega) λp hp=>⟨_,gr (b9 (two rfl rfl (jY (by rw [hl];exact (h2 p hp).1))) rfl (b9 (two rfl rfl (jY (by rw [hl];exact (h2 p hp).2))) rfl gj)) t2,rfl⟩) ?_ ?_⟩
   ·show (g2 bw (af 3) (gC (.int 1)) _ >>= _)=_;rw [two (x:=.d (c9 r)) rfl rfl (bU _ _ _)];rfl
   ·rw [GS];rfl
   have due:iy w.m (r.2.map λp=>(ps.getD p.1 0,ps.getD p.2 0)) w.m=(gm ps r).2:=CJ (λx hx=>by
     obtain ⟨p,hp,rfl⟩:=Gi.mp hx;exact ⟨gd pm (h2 p hp).1,gd pm (h2 p hp).2⟩) (t.srt.ap (gm ps r) (Gi.mpr ⟨r,hr,rfl⟩)) λy=>eW dP gS g_ _ y
   have ll:(gm ps r).2.length<=1000:=by have:=(t.cV.ap (gm ps r) (Gi.mpr ⟨r,hr,rfl⟩)).1;omega
   generalize e:(r.2.map λp=>(ps.getD p.1 0,ps.getD p.2 0))=qs at due;refine d7 rfl rfl (ni (qH (n:=w.m) (jU (two rfl rfl (bQ _ _))) (by omega)) ?_);refine yQ (λj env=>∃x7:Option S,env=[some (.d w.d),some (.d (.tup ((c7 w ps).ar.map c9))),some (.d (.tup (ps.map dN))),some (.d (c9 r)),some (.d (c9 (gm ps r))),some (.own (qs.map dP)),some (.own ((iy w.m qs j).map dP)),x7]) ⟨_,rfl⟩ ?_ ?_
   ·rintro j hj _ ⟨x7,rfl⟩;refine ⟨_,rfl,tM (x:=.own ((iy w.m qs (j + 1)).map dP)) (two rfl (sU (xs:=Gg w.m) (h:=dN) (λb=>decide ((j,b)∈qs)) (λb=>dP (j,b)) (t7 (jU (two rfl rfl (bQ _ _))) (by omega)) (by simp;omega) λb _=>⟨?_,λ_=>⟨_,gr (b9 rfl rfl (b9 rfl rfl gj)) t2,rfl⟩⟩) (Ca _ _ ?_)) ?_ ⟨_,rfl,_,rfl⟩⟩
    ·refine iL (gr (b9 rfl rfl (b9 rfl rfl gj)) t2) rfl ((A1 false (dP (j,b)) _ (qs.map dP) (uR _) (by show (1:Nat)<=60;decide)).trans ?_);show M.ok (R.d (.bl (inD (dP (j,b)) (qs.map dP))))=_;rw [yC]
    ·have a1:=wR w.m qs j;have a2:j * w.m<=8 * 8:=Mt (by omega) m8;have a3:=KC (λb=>decide ((j,b)∈qs)) (Gg w.m);rw [GN] at a3;rw [Gn,Gn];omega
    ·rw [uS,Jg,GS];rfl
   ·rintro _ ⟨x7,rfl⟩;rw [due];refine xg (mP (qM (c2 (z:=.d (.bl true)) rfl (gr (ds:=[.str r.1,.tup ((gm ps r).2.map dP)]) (b9 (two rfl rfl (bQ _ _)) rfl (b9 (n1 rfl rfl) rfl gj)) t2) (hF (c9 (gm ps r)) (BB _ _ ll).1 (BB _ _ ll).2 (by omega))))) (tL ⟨_,rfl,_,_,_,_,_,rfl⟩)
  ·rintro _ ⟨x3,x4,x5,x6,x7,rfl⟩;exact mO rfl rfl rfl
theorem vZ {u v:Wd}(h:u.m=v.m) (h2:u.ms=v.ms) (h3:u.ar=v.ar):u=v:=by cases u;cases v;cases h;cases h2;cases h3;rfl
theorem vU (w:Wd) (h:Ok w){ps qs:List Nat}(pm:ps.Perm (Gg w.m)) (qm:qs.Perm (Gg w.m)){bs:List Nat}(bm:bs.Perm (Gg w.m)) (e:∀k,k < w.m->bs.getD k 0=qs.getD (ps.getD k 0) 0):c7 (c7 w ps) qs=c7 w bs:=by
 have t1:=(h.tu pm).tu (ps:=qs) qm;have t2:=h.tu bm;refine vZ rfl ?_ ?_
 ·show (w.ms.map (fY ps)).map (fY qs)=w.ms.map (fY bs);rw [GS];refine Ii λr hr=>Kv rfl (iA (R:=(· < ·)) (λa b h h'=>by omega) (t1.srt.mp (fY qs (fY ps r)) (Gi.mpr ⟨_,Gi.mpr ⟨r,hr,rfl⟩,rfl⟩)) (t2.srt.mp (fY bs r) (Gi.mpr ⟨r,hr,rfl⟩)) λy=>?_);show y∈(a_ (((fY ps r).2.map λp=>qs.getD p 0).map dN)).map fZ↔_;rw [eW dN fZ g9,eW dN fZ g9,Gi,Gi];constructor
  ·rintro ⟨p,hp,rfl⟩;obtain ⟨q,hq,rfl⟩:=Gi.mp ((eW dN fZ g9 _ _).mp hp);exact ⟨q,hq,e q ((h.cV.mp r hr).2 q hq)⟩
  ·rintro ⟨q,hq,rfl⟩;exact ⟨ps.getD q 0,(eW dN fZ g9 _ _).mpr (Gi.mpr ⟨q,hq,rfl⟩),(e q ((h.cV.mp r hr).2 q hq)).symm⟩
 ·show (w.ar.map (gm ps)).map (gm qs)=w.ar.map (gm bs);rw [GS];refine Ii λr hr=>Kv rfl (iA qz (t1.srt.ap (gm qs (gm ps r)) (Gi.mpr ⟨_,Gi.mpr ⟨r,hr,rfl⟩,rfl⟩)) (t2.srt.ap (gm bs r) (Gi.mpr ⟨r,hr,rfl⟩)) λy=>?_);show y∈(a_ (((gm ps r).2.map λp=>(qs.getD p.1 0,qs.getD p.2 0)).map dP)).map gS↔_;rw [eW dP gS g_,eW dP gS g_,Gi,Gi];constructor
  ·rintro ⟨p,hp,rfl⟩;obtain ⟨q,hq,rfl⟩:=Gi.mp ((eW dP gS g_ _ _).mp hp);exact ⟨q,hq,Kv (e _ ((h.cV.ap r hr).2 q hq).1) (e _ ((h.cV.ap r hr).2 q hq).2)⟩
  ·rintro ⟨q,hq,rfl⟩;exact ⟨(ps.getD q.1 0,ps.getD q.2 0),(eW dP gS g_ _ _).mpr (Gi.mpr ⟨q,hq,rfl⟩),Kv (e _ ((h.cV.ap r hr).2 q hq).1).symm (e _ ((h.cV.ap r hr).2 q hq).2).symm⟩
theorem Di (w:Wd) (h:Ok w):c7 w (Gg w.m)=w:=by
 have t:=h.tu (.refl (Gg w.m));have g:∀k,k < w.m->(Gg w.m).getD k 0=k:=λk hk=>by simp [JM,hk]
 refine vZ rfl ?_ ?_
 ·show w.ms.map (fY (Gg w.m))=w.ms;have key:∀r∈w.ms,fY (Gg w.m) r=r:=λr hr=>by
   refine Kv rfl (iA (R:=(· < ·)) (λa b h h'=>by omega) (t.srt.mp (fY (Gg w.m) r) (Gi.mpr ⟨r,hr,rfl⟩)) (h.srt.mp r hr) λy=>?_);rw [eW dN fZ g9,Gi];constructor
   ·rintro ⟨p,hp,rfl⟩;rw [g p ((h.cV.mp r hr).2 p hp)];exact hp
   ·exact λhy=>⟨y,hy,g y ((h.cV.mp r hr).2 y hy)⟩
  exact (Ii (g:=id) key).trans (MF _)
 ·show w.ar.map (gm (Gg w.m))=w.ar;have key:∀r∈w.ar,gm (Gg w.m) r=r:=λr hr=>by
   refine Kv rfl (iA qz (t.srt.ap (gm (Gg w.m) r) (Gi.mpr ⟨r,hr,rfl⟩)) (h.srt.ap r hr) λy=>?_);rw [eW dP gS g_,Gi];constructor
   ·rintro ⟨p,hp,rfl⟩;rw [g _ ((h.cV.ap r hr).2 p hp).1,g _ ((h.cV.ap r hr).2 p hp).2];exact hp
   ·exact λhy=>⟨y,hy,Kv (g _ ((h.cV.ap r hr).2 y hy).1) (g _ ((h.cV.ap r hr).2 y hy).2)⟩
  exact (Ii (g:=id) key).trans (MF _)
theorem map_getD {ps:List Nat}{m:Nat}(h:ps.length=m):(Gg m).map (λk=>ps.getD k 0)=ps:=by
 subst h;apply KQ
 ·simp
 ·intro i h1 h2;simp [JM,h2]
theorem uQ {ps qs:List Nat}{m:Nat}(pm:ps.Perm (Gg m)) (qm:qs.Perm (Gg m)):((Gg m).map λk=>qs.getD (ps.getD k 0) 0).Perm (Gg m):=by
 have l1:ps.length=m:=by rw [pm.length_eq,GN]
 have l2:qs.length=m:=by rw [qm.length_eq,GN]
 have e:((Gg m).map λk=>qs.getD (ps.getD k 0) 0)=ps.map λk=>qs.getD k 0:=by
  conv=>rhs;rw [<-map_getD l1]
  rw [GS];rfl
 rw [e];refine (pm.map _).trans ?_;rw [map_getD l2];exact qm
def jH (ps:List Nat) (k:Nat):Nat:=((ps.map dN).findIdx? (mK k)).getD 0
theorem yD (k x:Nat):mK k (dN x)=decide (x=k):=by
 show ((x:Int) == (k:Int))=_;by_cases q:x=k
 ·subst q;simp
 ·have:¬(x:Int)=k:=by omega
  simp [q,this]
theorem vD {ps:List Nat}(nd:ps.Nodup){j:Nat}(h:j < ps.length):(ps.map dN).findIdx? (mK (ps[j]:Nat))=some j:=by
 refine Km.mpr ⟨by simpa using h,?_,λi hi=>?_⟩
 ·rw [JP,yD];simp
 ·rw [JP,yD,decide_eq_true_eq];intro e;have:=(Jl nd).mp e;omega
theorem yY {ps:List Nat}{m:Nat}(pm:ps.Perm (Gg m)):(∀k,k < m->(ps.map dN).findIdx? (mK k)=some (jH ps k))/\(∀k,k < m->jH ps (ps.getD k 0)=k)/\((Gg m).map (jH ps)).Perm (Gg m):=by
 have l1:ps.length=m:=by rw [pm.length_eq,GN]
 have nd:ps.Nodup:=pm.nodup_iff.mpr NN;have b:∀k,k < m->jH ps (ps.getD k 0)=k:=λk hk=>by have:=vD nd (j:=k) (by omega);unfold jH;rw [K23.getD_at (by omega),this];rfl
 refine ⟨λk hk=>?_,b,?_⟩
 ·have hm:k∈ps:=pm.mem_iff.mpr (by simpa using hk);obtain ⟨j,hj,rfl⟩:=GY.mp hm;unfold jH;rw [vD nd hj];rfl
 ·refine (pm.symm.map _).trans (N_ ?_);rw [<-congrArg (List.map (jH ps)) (map_getD l1),GS];refine (Ii (g:=id) λk hk=>?_).trans (MF _);exact b k (Hu.mp hk)
theorem A0 {ps:List Nat}{k i:Nat}{env:Ev}{a b:G R}(ha:a env=.ok (.d (.tup (ps.map dN)))) (hb:b env=.ok (.d (dN k))) (h:(ps.map dN).findIdx? (mK k)=some i):tE a b env=.ok (.d (dN i)):=by
 unfold tE;rw [ha,aY];show (b env >>= _)=_;rw [hb,aY];show (if (ps.map dN).all isInt=true then (match (ps.map dN).findIdx? (mK k) with
   | some i=>M.ok (R.d (.int i))
   | none=>.bad) else .bad)=_
 rw [if_pos (by rw [GW];intro d hd;obtain ⟨x,_,rfl⟩:=Gi.mp hd;rfl),h]
theorem eq_self (neg:Bool) (d:D) (h:dep d<=60):dW neg (.d d) (.d d)=.ok (.d (.bl (if neg then false else true))):=by rw [Cc neg (.d d) (.d d) h h];show M.ok (R.d (.bl (if neg then !bD d d else bD d d)))=_;rw [gz];cases neg <;> rfl
theorem Ok.dep {w:Wd}(h:Ok w):dep w.d<=60:=by have:=(K04.CK w h.ok.ml h.ok.al (λr hr=>HB (h.m8 r hr) (by omega)) (λr hr=>HB (h.cV.ap r hr).1 (by omega))).2;omega
theorem zy (ns:List Int) (hl:ns.length<=63):lE [.bor (ns.map D.int)]=.ok (.d (.bl true)):=by
 obtain ⟨A,B,ht,tA,tB⟩:=wg (K01.eH ns 1);obtain ⟨m,hm⟩:∃m:Nat,1 + K01.eH ns 0 % 8=m:=⟨(1 + K01.eH ns 0 % 8).toNat,by omega⟩;have m8:m<=8:=by omega
 obtain ⟨ms,rs,hw,fa,fb,pa,pb⟩:=Aq ns 2 m m8 A B tA tB;have hw:K01.cR [.bor (ns.map D.int),.d (.int 2),.d (.int m),.d (.tup [.tup (A.map .str),.tup (B.map .str)])]=.ok (.d (Wd.d ⟨m,ms,rs⟩)):=hw;have ok:Ok ⟨m,ms,rs⟩:=by
  refine ⟨⟨show 1<=m by omega,m8,?_,?_⟩,⟨λr hr=>⟨HB (pa r hr).1 (by omega),(pa r hr).2.2⟩,λr hr=>⟨(pb r hr).1,(pb r hr).2.2⟩⟩,⟨λr hr=>(pa r hr).2.1,λr hr=>(pb r hr).2.1⟩,λr hr=>(pa r hr).1⟩
  ·show ms.length<=3;have:=tA.1;rw [<-fa,Gn] at this;exact this
  ·show rs.length<=3;have:=tB.1;rw [<-fb,Gn] at this;exact this
 have wm:(Wd.mk m ms rs).m=m:=rfl;generalize Wd.mk m ms rs=w at *;subst wm;obtain ⟨ps,h1,pm⟩:=q_ (K01.eH ns 8) w.m m8;obtain ⟨qs,h2,qm⟩:=q_ (K01.eH ns 9) w.m m8;obtain ⟨b1,b2,bm⟩:=yY pm;have l1:ps.length=w.m:=by rw [pm.length_eq,GN]
 have l2:qs.length=w.m:=by rw [qm.length_eq,GN]
 have hc:=K01.uu ns;have hs:=K04.lU 10;have mv:=q9 w ok;have mk:=yR w ok;have ar:=wc w ok;have mv1:=q9 (c7 w ps) (ok.tu pm);have cm:=uQ pm qm;have e2:eO [.d (c7 w ps).d,.d (.tup (qs.map dN))]=.ok (.d (c7 w ((Gg w.m).map λk=>qs.getD (ps.getD k 0) 0)).d):=by rw [mv1 qs qm,vU w ok pm qm cm λk hk=>by simp [JM,hk]]
 have e3:eO [.d (c7 w ps).d,.d (.tup (((Gg w.m).map (jH ps)).map dN))]=.ok (.d w.d):=by
  rw [mv1 _ bm,vU w ok pm bm (.refl (Gg w.m)) λk hk=>?_,Di w ok];have g:=gd pm hk;rw [show ((Gg w.m).map (jH ps)).getD (ps.getD k 0) 0=jH ps (ps.getD k 0) by
   generalize ps.getD k 0=z at g;simp [JM,g],b2 k hk]
  simp [JM,hk]
 have e1:=mv ps pm;have e4:=mv _ cm;have dw:=ok.dep;have dt:=(ok.tu cm).dep;unfold lE wZ;generalize K03.d_=Fo at h1 h2 ⊢;generalize K01.bT=Fc at hc ⊢;generalize K01.dz=Ft at ht ⊢;generalize K01.cR=Fw at hw ⊢;generalize eO=Fm at *;generalize eX=Fk at mk ⊢;generalize eu=Fa at ar ⊢;generalize K04.bH 10=Fs at hs ⊢;refine mj (d7 (x:=.d (dN w.m)) (two rfl (two (c2 rfl rfl (hc 0)) rfl (cL _ 8 (by decide))) rfl) ?_ ?_)
 ·show M.ok (S.d (.int (1 + K01.eH ns 0 % 8)))=_;rw [hm]
 refine d7 (c4 rfl rfl rfl (c1 (c2 rfl rfl (hc 1)) ht) hw) rfl ?_;refine d7 (c2 (c2 rfl rfl (hc 8)) rfl h1) rfl ?_;refine d7 (c2 (c2 rfl rfl (hc 9)) rfl h2) rfl ?_;refine ni (ds:=[.tup (ps.map dN),.tup (qs.map dN)]) rfl ?_;refine ny (λk env=>∃x5 x6:Option S,env=[some (.bor (ns.map D.int)),some (.d (dN w.m)),some (.d w.d),some (.d (.tup (ps.map dN))),some (.d (.tup (qs.map dN))),x5,x6,none,none]) _ ⟨_,_,rfl⟩ ?_ ?_
 ·rintro k hk _ ⟨x5,x6,rfl⟩;obtain ⟨os,om,e⟩:∃os:List Nat,os.Perm (Gg w.m)/\[D.tup (ps.map dN),.tup (qs.map dN)][k]=.tup (os.map dN):=by
   match k,hk with
   | 0,_=>exact ⟨ps,pm,rfl⟩
   | 1,_=>exact ⟨qs,qm,rfl⟩
  rw [e];have eo:=mv os om;have ko:=mk os om;have ao:=ar os om;have h0:bw (.d (c7 w os).d) (.d (.int 0))=.ok (.d (.int w.m)):=rfl;have h1':bw (.d (c7 w os).d) (.d (.int 1))=.ok (.d (.tup ((c7 w os).ms.map cX))):=rfl;have h2':bw (.d (c7 w os).d) (.d (.int 2))=.ok (.d (.tup ((c7 w os).ar.map c9))):=rfl;refine ⟨_,rfl,d7 (c2 rfl rfl eo) rfl (nq (kQ rfl (kQ (iL (n1 rfl rfl) rfl rfl) (mP (qM (c2 (z:=.d (.bl true)) (two rfl rfl h0) rfl (hs _ (.int _) (by simp [dep]) (by omega))))))) ?_)⟩;exact xg (kQ (mP (qM (c3 (z:=.d (.bl true)) rfl (two rfl rfl h1') rfl ko))) (mP (qM (c3 (z:=.d (.bl true)) rfl (two rfl rfl h2') rfl ao)))) (tL ⟨_,rfl,_,_,rfl⟩)
 ·rintro _ ⟨x5,x6,rfl⟩;refine d7 (x:=.d (.tup (((Gg w.m).map λk=>qs.getD (ps.getD k 0) 0).map dN))) (n1 (sS (xs:=Gg w.m) (h:=dN) (λk=>dN (qs.getD (ps.getD k 0) 0)) (t7 rfl (by omega)) (by simp;omega) λk hk=>⟨_,two rfl (two rfl rfl (jY (by rw [l1];simpa using hk))) (jY (by rw [l2];exact gd pm (by simpa using hk))),rfl⟩) rfl) ?_ ?_
  ·rw [GS];rfl
  refine d7 (x:=.d (.tup (((Gg w.m).map (jH ps)).map dN))) (n1 (sS (xs:=Gg w.m) (h:=dN) (λk=>dN (jH ps k)) (t7 rfl (by omega)) (by simp;omega) λk hk=>⟨_,A0 rfl rfl (b1 k (by simpa using hk)),rfl⟩) rfl) ?_ ?_
  ·rw [GS];rfl
  refine nq (kQ (iL (c2 (c2 rfl rfl e1) rfl e2) (c2 rfl rfl e4) (eq_self true _ dt)) (iL (c2 (c2 rfl rfl e1) rfl e3) rfl (eq_self true _ dw))) ?_;exact mO (two rfl (c4 rfl rfl rfl (c1 (c2 rfl rfl (hc 1)) ht) hw) (eq_self false _ dw)) rfl rfl
end K03
namespace K03
open PySem PySem.Spec PyProof.Rows L2 DL DX
theorem all_mk {l:L6}{w:Hi}{K:Gd}{h:Ij}{mg:Str->Option Ge}{fa:GF}(X:K.In h) (G:h.Ns GL mg) (FN:mg "law"=some (.ref fa))
  {f11:GF}{o11 n11:Option GF}{s11:Array (Option Ge)}{u11 v11 d11 p11 q11 r11:Ge}
  (e0:FA K "moved" vM)
  (e1:FA K "_law_cell" nj)
  (e2:FA K "_law_names" lA)
  (e3:FA K "_law_some" nk)
  (e4:FA K "_law_pairs" lC)
  (e5:FA K "_law_tongue" kC)
  (e6:FA K "_law_world" lD)
  (e7:FA K "_law_order" lB)
  (e8:FA K "_law_same" jB)
  (e9:FA K "_law_marks" lz)
  (e10:FA K "_law_arrows" kB)
  (a11:Ho K GL "law"=some (some (.ref f11)))
  (l11:K.lookup f11=some ⟨u11,o11,.func (HU "law" "law" (dM jC) (b6 jC) (aV jC) .none v11 d11 p11 n11 q11 r11),s11⟩)
  (c11:Ku K q11 "law"=true)
  (k11:Jq K (.ref f11)=true)
  (z0:Ho K GL "all"=some none)
  (z1:Ho K GL "bool"=some none)
  (z2:Ho K GL "int"=some none)
  (z3:Ho K GL "isinstance"=some none)
  (z4:Ho K GL "len"=some none)
  (z5:Ho K GL "list"=some none)
  (z6:Ho K GL "range"=some none)
  (z7:Ho K GL "sorted"=some none)
  (z8:Ho K GL "str"=some none)
  (z9:Ho K GL "tuple"=some none)
  (z10:Ho K GL "zip"=some none):
  ∃fd:HM,(∀(s:Gf) (v:Ge),NQ s fd ⟨[v],[]⟩ [("_law_script",v)])/\∀base:Ij,K.In base->base.Ns GL mg->f6 l.prog w K mg base i6 12 fa fd ["_law_script"] (jJ K 1 K03.lE):=by
 have e:=FN.symm.trans (M4 X G a11);cases e;obtain ⟨f8,d8,a8,F8⟩:=e8;have F11:=uV (st:=jC) l11 c11 k11;have m:i0 w K mg:=⟨Hj X G z0,
   Hj X G z1,
   Hj X G z2,
   Hj X G z3,
   Hj X G z4,
   Hj X G z5,
   Hj X G z6,
   Hj X G z7,
   Hj X G z8,
   Hj X G z9,
   Hj X G z10⟩
 refine ⟨HU "law" "law" (dM jC) (b6 jC) (aV jC) .none v11 d11 p11 n11 q11 r11,λs v=>.of_eq rfl,λbase _ _=>?_⟩;have C0:=wL (P:=l.prog) (base:=base) m (gK X G e0);have C1:=pT (P:=l.prog) (base:=base) m (gK X G e1);have C2:=o9 (P:=l.prog) (base:=base) m (gK X G e2);have C3:=pU (P:=l.prog) (base:=base) m (gK X G e3);have C4:=pe (P:=l.prog) (base:=base) m (gK X G e4);have C5:=nI (P:=l.prog) (base:=base) m C2 (gK X G e5);have C6:=pg (P:=l.prog) (base:=base) m C1 C3 C4 (gK X G e6);have C7:=o_ (P:=l.prog) (base:=base) m (gK X G e7);have C8:=jR (P:=l.prog) (base:=base) m F8 (M4 X G a8) 10;have C9:=o8 (P:=l.prog) (base:=base) m C8 (gK X G e9);have C10:=nG (P:=l.prog) (base:=base) m C8 (gK X G e10);exact Cw m C1 C5 C6 C7 C0 C8 C9 C10 F11
theorem Ae (K:Gd) (H:Hp) (a:GF) (ns:List Int) (hl:ns.length<=63) (hO:sJ H) (hS:cg K H a (ns.map V.int)):jJ K 1 K03.lE [.ref a] H (λv _=>v=.bl true) λ_ _ _=>False:=by
 refine ⟨λ_=>none,[.bor (ns.map D.int)],λ_ _ z=>(by cases z),rfl,⟨_,[],rfl,⟨a,_,rfl,hS,?_⟩,rfl⟩,?_⟩
 ·exact K01.oO ns
 ·rw [zy ns hl];intro v J H2 _ r;cases r;rfl
theorem walk {l:L6}{q:GG}{loose:List Str}{XP:(Str->Option Ge)->Ij->Prop}{YP:Hi->Ij->Prop}{d:DefRec}{K:PZ->Gd}(hn:l.most=some 63) (hdf:d.params.defaults=[])
  (hY:∀(w:Hi) (h:Ij),YP w h->(K w.params).In h)
  (F:∀(w:Hi) (mg:Str->Option Ge) (fa:GF) (h:Ij),(K w.params).In h->h.Ns GL mg->mg d.name=some (.ref fa)->
   ∃fd:HM,(∀(s:Gf) (u:Ge),NQ s fd ⟨[u],[]⟩ [("_law_script",u)])/\∀base:Ij,(K w.params).In base->base.Ns GL mg->f6 l.prog w (K w.params) mg base i6 12 fa fd ["_law_script"] (jJ (K w.params) 1 K03.lE)):
  OJ q loose XP YP l.row.toRowW d [] (λf vs=>Ow f vs):=
 L2.Ah (n:=63) (k:=12) (x:="_law_script") (CX:=λ_=>i6) (sp:=λw=>jJ (K w.params) 1 K03.lE) hn (by decide) hdf ⟨rfl,by decide,by decide⟩ hY F (λw H a ns hl hO hS=>Ae _ H a ns hl hO hS) λ_ _ _ _ _ z=>z
end K03
open PySem PySem.W PyProof.Rows
set_option maxRecDepth 100000 in
set_option maxHeartbeats 0 in
theorem PySem.Challenge.cw_pickalike_k03_moved_holds : PySem.Challenge.rw_pickalike_k03_moved.Holds := by
 refine holds_law K03.look λsaid=>?_;refine holds_open (q:=K03.VW) (XP:=XL K03.VW []) (YP:=Hook.says K03.HK) K03.left (Hook.of K03.HK) (Hook.keeps K03.HK) (λs e=>xl_of s (Mr.mp e).1) XL.keeps (by rfl) (by rfl) (by rfl) (λs e=>recFacts_of (Mr.mp e).2) (by rfl) said (by decide +kernel) ⟨rfl,rfl,rfl,rfl,rfl,by decide +kernel⟩ ?hw ?hc
 (case hw=>w_witness2)
 delta K03.HK
 k_fill
 refine K03.walk (l:=HE) rfl rfl (K:=K03.KF) (λw h Y=>PySem.W.kIn_of Y) ?F
 case F=>
  intro w mg fa h KX G hmg;refine' K03.all_mk KX G hmg ..
  all_goals try first | k_is | (refine' DL.Cd ?a ?l ?c ?k;case a | l | c | k=>k_is)
