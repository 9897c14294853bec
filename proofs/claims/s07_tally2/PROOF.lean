import PyProof.Rows.All
import Wide.All
import OpenK.AllK
import Wide.FinOn
import PyProof.EqAt
import PyProof.EqKinds
import PyProof.TupleCall
import KE.BitLaws
import Open.SpecLaws
import KE.OsHead
import KE.OsGo
import PyProof.RulesAs
import PyProof.PassesOwn
import PyProof.StationsW
import PyProof.ExcInit
import PyProof.ExcArgsOwn
import PyProof.InstStoreFacts
import PyProof.ExcAttrAll.Exception
import PyProof.InstStore
import PyVaarrc
import PySem.Challenge.RW_rankedfunctions_s07_tally2
import KE.KLam
import VaarrcSpec
import PyProof.Rows.SumAny
import PyProof.Rows.MinMaxN
import PyProof.Rows.CallKwBuiltin
import KE.KMinBuiltin
import PyProof.ZipIter
import KE.KRevIter
import PyProof.ListRange
import PyProof.DictFindH
import PyProof.DictRoadsH
import PyProof.Rows.CatchTuple
set_option Elab.async false
set_option linter.all false
set_option maxRecDepth 100000
open Array renaming find?_toList->N4,forIn_toList->N3,getElem?_eq_some_iff->dh,length_toList->pH,mk->EA,size_push->Pf,toList->JO,toList_append->ME
open Bool renaming and_eq_true->dS,and_eq_true_iff->oV,eq_iff_iff->u_,false_eq_true->lV,false_ne_true->aN,noConfusion->ez,or_eq_true->jJ,or_false->yP,or_true->Sc
open Classical renaming byContradiction->Bw
open Decidable renaming not_not->gJ
open Except renaming ok->HP
open Except.ok renaming inj->jo
open False renaming elim->dn
open ForInStep renaming done->W6,yield->jn
open Int renaming fmod_lt_of_pos->O_,fmod_nonneg_of_pos->KZ,le_refl->Eh,le_trans->TU,mul_fdiv_add_fmod->MD,mul_le_mul_of_nonneg_left->Eg,mul_le_mul_of_nonneg_right->E9,natCast_mul->lU,not_lt->Va,toNat->E8,toNat_natCast->dM,toNat_of_nonneg->Nk
open List renaming all_cons->RN,all_eq_true->eU,any_cons->sk,any_eq_true->oJ,append_nil->gy,cons_append->gi,contains_cons->lS,contains_iff_mem->vP,contains_nil->OZ,drop->Pe,drop_drop->G3,drop_eq_getElem_cons->fC,drop_eq_nil_of_le->eI,drop_length->Pd,drop_zero->kL,eq_replicate_iff->KY,filterMap_cons->jd,filter_append->yS,filter_cons->Bv,filter_nil->PY,find?_cons->gT,flatMap_append->xq,flatMap_cons->cV,flatMap_nil->Bu,flatten_append->lB,flatten_cons->fP,foldl->Nj,foldl_append->AT,foldl_cons->jI,forIn_cons->pG,forIn_nil->wI,forall_mem_cons->c_,getElem?_append_left->ln,getElem?_append_right->iw,getElem?_eq_getElem->aP,getElem?_eq_none->jL,getElem?_eq_some_iff->aY,getElem?_map->bW,getElem?_of_mem->wH,getElem?_replicate->mJ,getElem?_set_ne->wG,getElem?_set_self->ua,getElem?_take_of_lt->sj,getElem_mem->Pc,isEmpty_iff->jg,length->oU,length_append->bp,length_cons->aF,length_drop->bK,length_eq_one_iff->jz,length_eq_zero_iff->cH,length_flatMap->N2,length_map->am,length_nil->pF,length_pos_iff->N1,length_range->gv,length_replicate->bU,length_reverse->xp,length_singleton->iA,length_take->bQ,length_zip->Ef,lookup->kK,lookup_append->Ni,lookup_cons->eS,map->VP,map_append->bY,map_congr_left->g_,map_cons->dI,map_drop->Ia,map_id->TR,map_map->gu,map_nil->JY,map_replicate->qV,map_take->H_,mem_append->bV,mem_append_left->gh,mem_append_right->du,mem_cons->aH,mem_cons_of_mem->au,mem_cons_self->ar,mem_filter->lR,mem_filterMap->Nh,mem_flatMap->kP,mem_flatten->Bt,mem_map->cR,mem_map_of_mem->N0,mem_of_getElem?->bD,mem_of_mem_drop->gf,mem_of_mem_tail->oS,mem_of_mem_take->gM,mem_range->kH,mem_replicate->eG,mem_reverse->tR,mem_singleton->aL,nil_append->pE,nodup_cons->jH,not_mem_nil->et,of_mem_zip->gS,range->iu,range_succ->PX,replicate->aG,replicate_succ->gw,reverse_cons->nj,size_toArray->bL,sum_cons->RM,takeWhile_cons->qh,take_append_drop->dD,take_length->bH,take_of_length_le->di,take_sublist->OY,take_succ_cons->lA,take_zero->QU,zip_cons_cons->fu
open List.cons renaming inj->W5
open Nat renaming add_comm->nM,add_mul->eY,ble->Wl,blt->Wk,div_lt_iff_lt_mul->oI,le_add_right->ll,le_mul_of_pos_left->KW,le_mul_of_pos_right->JX,le_of_ble_eq_true->MC,le_of_eq->nL,le_of_lt->ii,le_of_succ_le->si,le_of_succ_le_succ->uZ,le_refl->aO,le_succ->M_,le_trans->cD,lt_irrefl->eW,lt_of_le_of_lt->jA,lt_of_lt_of_le->bZ,lt_succ_of_lt->sg,lt_succ_self->E7,lt_trans->TQ,min_eq_left->gY,min_eq_right->gI,min_le_left->QT,min_le_right->PV,mul_assoc->Sa,mul_comm->TN,mul_le_mul->xk,mul_le_mul_right->gj,mul_one->pA,mul_zero->B3,ne_of_gt->nJ,ne_of_lt->cu,not_lt->V9,not_lt_zero->QS,one_mul->dF,one_pos->MZ,pos_of_ne_zero->gH,sub_mul->UC,sub_self->KU,sub_zero->B2,succ_ne_self->PU,zero_le->cy,zero_mul->qx
open Nat.succ renaming inj->sf
open Ne renaming symm->dO
open NeutralIO renaming bytes->MB
open Option renaming getD_none->Ng,isSome_iff_exists->lz,isSome_some->MA,map_eq_some_iff->HZ,map_some->tY,none->B1
open Option.some renaming inj->bw
open Or renaming inl->bz,inr->jG
open PUnit renaming unit->MX
open Prod.mk renaming injEq->Pb
open PyProof.Rows renaming AllBare->AS,IsTup->V8,Subscript_->RL,boot_int->UA,boot_ord->Uz,callWith_builtin1->Uy,callWith_type1->fQ,envOfC->Ac,subscriptTail->MW,subscriptTail_builtinR->OX
open PyProof.Rows.IsTup renaming new->UB
open PySem renaming Addr->af,Arguments->kG,Around->gt,BindsTo->JV,Builtin->Ez,Drawn->Wi,Expr->eM,FuncData->ip,GenState->KS,Heap->cz,IsPair->tJ,IsRangeIter->Wh,Keyword->Et,Model->Wg,NameKind->lK,OsState->gQ,Paired->fW,Params->E6,PassesOwn->Tw,Program->be,PyData->Ab,Scope->i_,Shared->aK,Stmt->dm,TriplesOk->wh,Value->al,Within->JK,World->bN,ZipApart->A9,again->V4,assign->KN,assignEach->E3,atKey->Br,attributeBase->mP,backTo->fV,backToKw->KL,behindInMarks->uU,binaryOp->mO,bindArgs->A8,bindL->Nb,bootBuiltins->lQ,boot_len->io,builtinLookup_eq_fast->yN,builtinsNs->D_,cLine->KJ,call->DZ,call_list_seq->Vx,call_meets->KH,call_meetsIn->OR,callerA->OQ,cellsFrom->eo,codeAmong->iN,codeAny->m_,codeAny_builtin->rp,codeAny_call_builtin->PQ,codeAny_call_function->P6,codeAny_compStart_list->OP,codeAny_func->VY,codeAny_handlers_suite->OO,codeAny_handlers_test->P5,codeAny_mono->rZ,compEnvC->eZ,compPost->v_,compareOp->iM,comprehension->Bq,concat_meets->VX,defaultsOf->KG,dictSetDefault->KE,entryOfKey->RK,evalPart_none->Vw,eval_ListComp->Vv,excClassObj->iZ,excMatches->KD,exec_Assign_Name_used->P4,fenceModules?->Vu,field->V3,firstIterPos->VW,foldedSetIterable->iY,fresh->Bp,getAttr->VU,getItem->ON,getMethod->Na,handleBy->V1,holding->S3,importedModules->ro,intBits_le_64->Vt,intItems_at->Wa,intText?->PN,interactive->W9,isExcClass->RJ,isTrue->RI,keywordEach->A7,leaving->qj,letOwnedTupleGo->xo,loadIfAlive->PM,mainGlobals->ax,mem_of_lookup->cG,model->bP,newFunctionEnv->V0,newList->S1,noFill_tuple_add->Tr,noteFrame->iK,notedBy->AO,nums_intItems->Vs,operate->VT,pastItsLine_dict->Tq,plainId_quiet->qi,plainObj_wpAny_Assign_Attribute->FZ,pushCells->on,pushCells_keeps->rn,pyNext->uT,qualnameIn->RH,raiseStmt->N9,rawInt->dL,recursionLimit->U_,rule->OM,seqIndex_of->W8,seqItems?->To,seq_tuple_add->Vr,setAttr->S0,setFlight->AN,sizeLine->a_,sizeLine_eq->cq,sliceBounds->qu,slot_list_getitem->R_,spliced->RZ,standAt->AM,starEach->bx,storedH->RY,storedH_new->PL,subscripted->HS,swapsWith->se,sysModules->jk,treeTable->om,tupleKind->vZ,tupleKind_room_in1->RG,typeIs_int->RF,typeLookup->qd,typeLookup_type->JJ,updateSeq->vY,valueAt->Er,wpAny->bj,wpAny_Call_Name_kw->dk,wpAny_Call_method->RX,wpAny_Compare1->UZ,wpAny_Name->RE,wpAny_Try_except->Tn,wpAny_assign_Name->Ep,wpAny_attempt->Vq,wpAny_bind->ak,wpAny_call->DV,wpAny_callSpecial?_slot->N8,wpAny_call_entry->Tk,wpAny_comprehension_free->MQ,wpAny_execs_cons->Tj,wpAny_execs_nil->mZ,wpAny_field->fk,wpAny_handleBy_cons->QQ,wpAny_holding->kx,wpAny_isInstance->Ti,wpAny_isSubtype_exc->mC,wpAny_letGo->A6,wpAny_loadPart_at->h_,wpAny_lookBehind->Th,wpAny_mono->ft,wpAny_newFunctionEnv->A5,wpAny_newObj_type->Eo,wpAny_nextOf_list_end->P2,wpAny_nextOf_list_item->xh,wpAny_noRaise->Vp,wpAny_nsSet1->VS,wpAny_passesOwn->kn,wpAny_pure->bh,wpAny_pyIter_enum->RW,wpAny_pyIter_list->RV,wpAny_pyIter_zip->HH,wpAny_pyNext_zip_end->PJ,wpAny_pyNext_zip_item->P1,wpAny_rule->KC,wpAny_seqItems->lF,wpAny_setField->oP,wpAny_specialOf->JI,wpAny_standAt->kq,wpAny_truthy_bool->iX,wpAny_tryCatch->tI,wpAny_typeLookup_exc->PH,wpAny_updateSeq->ke
open PySem.Around renaming frames_deeper->JW,under->HY,under_plainId->jV
open PySem.AutoListH renaming list___mul___list_int_3->W4
open PySem.AutoSeq1 renaming list_extend_list_list_0->Wj
open PySem.Builtin renaming bitAnd->OW
open PySem.Builtin.Builtins renaming bindParams->wj
open PySem.Builtin.Dict renaming keyAndDefault->Ux
open PySem.Builtin.List renaming listExtendWith->oq,listFitsIndex->Uw,listItems->Bs,listLengthHint->Uv,listSameRef->AR,listTooLong->jU,listTouch->Uu,listUpdate->Ut
open PySem.Builtin.Range renaming rangeSize->TM
open PySem.Builtin.SmallTypes renaming nextOf->jm,ownedTupleIsFree->gF
open PySem.Calls renaming Name_function_global->Ey,callWith_builtin->mQ,evalArgs_plain->oR,spliced_cons->ir,spliced_nil->rE
open PySem.Challenge renaming pw_rankedfunctions_s07_tally2->ah,rw_rankedfunctions_s07_tally2->iq
open PySem.Code renaming frames->TK,isFrame->JU
open PySem.Data renaming seq->VO
open PySem.DictEntry renaming refKey->W3
open PySem.EntryCells renaming newEntry->HN
open PySem.EqMixed renaming eq_bool_str->TJ,eq_int_str->TH,eq_str_bool->TF,eq_str_int->TD,ne_bool_str->TC,ne_int_str->TB,ne_str_bool->Tz,ne_str_int->Tx
open PySem.EqNone renaming eq_bool_none->Us,eq_int_none->Ur,eq_none_bool->Uq,eq_none_int->Up,eq_none_none->Uo,eq_none_str->Um,eq_str_none->Ul,ne_bool_none->Uk,ne_int_none->Uj,ne_none_bool->Ui,ne_none_int->Uh,ne_none_none->Ug,ne_none_str->Uf,ne_str_none->Ue
open PySem.F renaming args_dict_get_3->G2,args_tuple_add_2->Ew,args_zip_next_1->G1,entry_dict_get->HM,entry_extend_loop->Ee,entry_min_loop->tK,entry_tuple_add->G0,entry_zip_next->HK,excBase_Exception->qw,plainAttrs_dict->F_,plainAttrs_list->iW,plain_extend_loop->kC,plain_min_loop->gr,slot_dict_get->tX,slot_dict_setdefault->B0,slot_int_rmul->S9,slot_list_append->tW,slot_list_extend->mI,slot_tuple_add->HJ,slot_zip_next->ni,type_list_append->Eu,type_list_extend->rB
open PySem.Heap renaming SameBut->jy,get?_none_of_le->wF,get?_push_of_some->aq,get?_push_size->bG,get?_some_iff->yR,get?_update_ne->MV,get?_update_other->bB,get?_update_self->cP,lt_size->aZ,size_push->eQ
open PySem.Heap.IsSliceOf renaming new->S8
open PySem.Heap.Ns1 renaming of_empty->KR
open PySem.Heap.SameBut renaming update->nI
open PySem.IsL renaming update->W2
open PySem.NameKind renaming cell->Ed,free->dw
open PySem.Obj renaming cls_mapFields->Pa,data_mapDictKeys->MU,data_mapFields->eJ,isFreed_of_fields->gE,mapFields->gK,mapSeq->gX
open PySem.Paired renaming length->gG
open PySem.PassesOwn renaming leaving->W1
open PySem.PyData renaming canLay0->P9,canLayAll0->rA,depth->ky,depthAll->lH,eqv->qk,eqvAll->xj,int->op
open PySem.ReadsAll renaming cons->We,nil->Wc
open PySem.SeqAt renaming EqAt->Tv,shaped->kN
open PySem.SeqAt.EqAt renaming bool_bool->VN,bool_int->VM,bool_none->VL,bool_str->VJ,int_bool->VI,int_int->VH,int_none->VG,int_str->HX,none_bool->VF,none_int->VE,none_str->VD,same->VC,str_bool->VB,str_int->HW,str_none->VA,str_str->Vz
open PySem.Str renaming empty->JT,length->V7,ofString->ae
open PySem.Value renaming bool->Tu,bytes->S7,float->S6,int->wE,isInt->S5,isStrOf->QR,none->dC,ref->bO,str->HV,type->jw
open PySem.Value.ref renaming inj->Nf
open PySem.Value.type renaming inj->Mz
open PySem.W renaming CodeHd->nH,Frag->ac,SharedT->S4,TabsAt->V5,WData->qv,WellAll->AQ,behindTheImports->qg,boot_drawn->KQ,boot_heap->qf,boot_toks->Nd,callWith_F->KP,callWith_K->jl,callWith_K0->we,cellsFrom_some->HI,codeIn->cv,emptyDict->gq,envX->OT,findCls->Nc,findIn->cM,fnMade->OS,fnOf->bM,handedIn->MT,hasDictIn->jF,hideAll->A_,hideAll_get->JS,hideAll_none->uY,hideAll_size->JN,instObj->iC,isFn->mH,kHook->rq,keepIn->bq,kla_callFunE->JM,kla_codeExpr->JL,kla_eval->MS,kla_makeFunction->Es,kla_obj->tZ,ktu_apart->My,length_le_weightAllW->AZ,lookIn->uX,makesIn->oQ,methodCall_KW->HU,methodObj->yO,mg_none_of->lG,mg_of->bo,noTabs->uW,nsIn->aj,nsOkIn->uV,of_hideAll->xi,openGood->PR,plainGet->iV,plainGet_of->wd,plainOver->mG,specialIn->Mx,tabIn->P7,tabObj->KO,tab_of->E4,takerIn->AY,topFrame->Aa,topFrom->VZ
open PySem.W.Codec renaming app->OV,denoteAll->E5,encAll->tV,inInt->rD,inInt_iff->P8,inLen->wg
open PySem.W.Fast renaming te10110043849684766642->Ud,te12563942051412417395->Uc,te14364793385576792824->Ub,te4187177175401517315->Ua,tw10110043849684766642->U9,tw12563942051412417395->U8,tw14364793385576792824->U7,tw4187177175401517315->gR
open PySem.W.Hook renaming keeps->U6,obs->U5,of->U4,says->U3,val->U2
open PySem.W.KIN renaming call_text->V6
open PySem.W.Looks renaming here->Tt
open PySem.W.OpenSpec renaming post_iff->Wb
open PySem.W.ReadsAllW renaming cons->W0,nil->V_
open PySem.W.WData renaming int->OU,weightAll->t_
open PySem.W.XL renaming keeps->Vy
open PySem.Walks renaming list->Ts
open PySem.Within renaming cons->MR
open PyVaarrc renaming tally2->AL
open Sum renaming inl->xm,inr->iS
open Sum.inl renaming inj->QP
open Sum.inr renaming inj->QO
open True renaming intro->oH
open Vaarrb renaming FILL->yM,MOST->VR,RANKS->VQ,Res->RU,asItems->cC,asVector->bt,cellShape->cZ,cellsOf->im,digit->kM,dropFn->nG,element->dQ,fillCell->A4,findFn->k_,frameOf->ek,itemShape->cQ,items->cK,joinFn->r_,keepFn->oO,letter->dW,ofItems->JR,oneNumber->fH,pickFn->kZ,pieces->jv,product->ai,putGraded->vX,repeated->jT,reshapeFn->gd,rotateFn->iz,sameFn->jK,scalar->dU,shapeOk->aQ,sized->jS,takeFn->nF,takenItems->DT,toldShape->iH,total->gx,vector->JH
open Vaarrb.Arr renaming rank->kO
open Vaarrc renaming Counted->ej,Fun->Ec,MODS->RD,SHAPE->tQ,SIZE->vO,Toks->PF,agree->qt,andOf->xg,answer->PD,arrAt->mX,atOne->W7,atTwo->Eb,blank->yQ,cellArrs->gW,counted->wD,countedEnv->dP,countedWork->ol,divOf->En,elem->oF,foldCells->gc,foldOne->OL,full->jj,gather->hZ,isTruth->dR,itemArrs->gb,kinded->b_,longer->ju,modOf->xf,modified->UX,oneNames->Bo,orOf->A3,ownRank->dg,paired->jR,plainEnv->dq,plainWork->HG,position->UW,prim2->oj,readFun->mU,readMods->dG,runAll->uS,runPairs->iQ,scalarOf->dj,scalarTwo->lP,scanCells->ck,scanOne->JQ,scanTwo->kY,signs1->xb,signs2->rC,small->eP,str->aE,tableTwo->oG,truth->ga,twoNames->fj,usesOf->tH,workAll->eB,zeroCell->KA
open Vaarrc.Call renaming tally2->UY
open VaarrcNeutral renaming arr->FY,callOf->Tg,encode->Tf,step->Te,text->tU
namespace L2
open PySem PySem.Spec PyProof.Rows
abbrev vU:=Sum Int Str
def Dz:vU->al->Bool
 | .inl k,v=>S5 k v
 | .inr x,v=>QR x v
def T6(w:bN):vU->Int
 | .inl k=>hashInt k
 | .inr x=>hashStr w x
def gZ:∀{k:vU} {v:al},Dz k v=true->(∃i t,k=xm i/\v=wE i t)\/(∃x t,k=iS x/\v=HV x t)
 | .inl i,v,h=>by
  obtain ⟨t,e⟩:=Value.isInt_shape (k:=i) (v:=v) h;exact .inl ⟨i,t,rfl,e⟩
 | .inr x,v,h=>by
  obtain ⟨t,e⟩:=Value.isStrOf_shape (x:=x) (v:=v) h;exact .inr ⟨x,t,rfl,e⟩
def FO(i)(t):Dz (.inl i) (.int i t)=true:=by simp [Dz,S5]
def FN(x)(t):Dz (.inr x) (.str x t)=true:=by simp [Dz,QR]
def OA(a b):decide ((xm a:vU)=xm b)=(a==b):=by
 by_cases e:a=b
 ·subst e;simp
 ·have h:¬(xm a:vU)=xm b:=λq=>e (QP q);rw [decide_eq_false h];exact (beq_eq_false_iff_ne.mpr e).symm
def Ox(a b):decide ((iS a:vU)=iS b)=decide (a=b):=by
 by_cases e:a=b
 ·subst e;simp
 ·have h:¬(iS a:vU)=iS b:=λq=>e (QO q);rw [decide_eq_false h,decide_eq_false e]
def Oz(a)(b):decide ((xm a:vU)=iS b)=false:=decide_eq_false (λq=>nomatch q)
def Oy(a)(b):decide ((iS a:vU)=xm b)=false:=decide_eq_false (λq=>nomatch q)
def iG (prog:be) (w:bN):PySem.KeyKind prog w vU where
 is:=Dz
 hash:=T6 w
 inj:=λv a b D z=>by
  rcases gZ D with ⟨i,t,rfl,rfl⟩ | ⟨x,t,rfl,rfl⟩
  ·rcases gZ z with ⟨j,u,rfl,e⟩ | ⟨y,u,rfl,e⟩
   ·injection e with n _;rw [n]
   ·exact nomatch e
  ·rcases gZ z with ⟨j,u,rfl,e⟩ | ⟨y,u,rfl,e⟩
   ·exact nomatch e
   ·injection e with n _;rw [n]
 byValue:=λk v h=>by
  rcases gZ h with ⟨i,t,rfl,rfl⟩ | ⟨x,t,rfl,rfl⟩<;>rfl
 pyHash:=λq h=>by
  rcases gZ q with ⟨i,t,rfl,rfl⟩ | ⟨x,t,rfl,rfl⟩
  ·exact wpAny_pyHash_int h
  ·exact wpAny_pyHash_str h
 eqBool:=λB q h=>by
  rcases gZ B with ⟨i,t,rfl,rfl⟩ | ⟨x,t,rfl,rfl⟩
  ·rcases gZ q with ⟨j,u,rfl,rfl⟩ | ⟨y,u,rfl,rfl⟩
   ·rw [OA] at h;exact wpAny_eqBool_int h
   ·rw [Oz] at h;exact HX i t y u _ _ _ _ h
  ·rcases gZ q with ⟨j,u,rfl,rfl⟩ | ⟨y,u,rfl,rfl⟩
   ·rw [Oy] at h;exact HW x t j u _ _ _ _ h
   ·rw [Ox] at h;exact wpAny_eqBool_str h
 «strs»:=λk x t v h=>by
  rcases gZ h with ⟨i,u,rfl,e⟩ | ⟨y,u,rfl,e⟩
  ·exact nomatch e
  ·injection e with n _;subst n;cases v<;>rfl
def AI(prog)(w)(i)(t):(iG prog w).is (.inl i) (.int i t)=true:=FO i t
def qP(prog)(w)(x)(t):(iG prog w).is (.inr x) (.str x t)=true:=FN x t
inductive V where
 | non | bl (b:Bool) | int (i:Int) | str (x:Str) | byt (b:Array UInt8) | flt (b:UInt64) | ref (a:af) | ty (n:String)
 deriving DecidableEq
def RelV:V->al->Prop
 | .non,u=>u=dC
 | .bl b,u=>u=Tu b
 | .int i,u=>∃t,u=wE i t
 | .str x,u=>∃t,u=HV x t
 | .byt b,u=>∃t,u=S7 b t
 | .flt b,u=>∃t,u=S6 b t
 | .ref a,u=>u=bO a
 | .ty n,u=>u=jw n
abbrev Vals:List V->List al->Prop:=fW RelV
theorem Vals.length(r:Vals xs us):xs.length=us.length:=gG r
theorem Vals.get:∀{xs:List V} {us:List al} {i:Nat} {x:V},Vals xs us->xs[i]? =some x->∃u,us[i]? =some u/\RelV x u
 | _,_,_,_,.nil,e=>by simp at e
 | _,_,0,_,.cons r _,e=>by simp at e;subst e;exact ⟨_,rfl,r⟩
 | _,_,i+1,x,.cons _ t,e=>by
  obtain ⟨u,h1,h2⟩:=Vals.get (i:=i) (x:=x) t (by simpa using e);exact ⟨u,by simpa using h1,h2⟩
theorem Vals.append:∀{xs ys:List V} {us j:List al},Vals xs us->Vals ys j->Vals (xs++ys) (us++j)
 | _,_,_,_,.nil,s=>s
 | _,_,_,_,.cons r t,s=> .cons r (Vals.append t s)
theorem Vals.take:∀{xs:List V} {us:List al} (n:Nat),Vals xs us->Vals (xs.take n) (us.take n)
 | _,_,0,_=> .nil
 | _,_,_+1,.nil=> .nil
 | _,_,n+1,.cons r t=> .cons r (Vals.take n t)
theorem Vals.drop:∀{xs:List V} {us:List al} (n:Nat),Vals xs us->Vals (xs.drop n) (us.drop n)
 | _,_,0,r=>r
 | _,_,_+1,.nil=> .nil
 | _,_,n+1,.cons _ t=>Vals.drop n t
def RelO:Option V->Option al->Prop
 | some v,some u=>RelV v u
 | none,none=>True
 | _,_=>False
def KV{κ:Type}:List (κ×V)->List (κ×al)->Prop:=fW λ(p:κ×V) (q:κ×al)=>p.1=q.1/\RelV p.2 q.2
def kV:vU->V
 | .inl i=> .int i
 | .inr x=> .str x
inductive HO where
 | lst (xs:List V)
 | tup (xs:List V)
 | dK (kvs:List (vU×V)) | dT (kvs:List (List vU×V))
 | set (S:Int→Bool) (n:Nat)
 | ins (C dx:af) (fs:List (Str×V))
 | own (x:af)
 | xd (fs:List (Str×V))
 | met (f x:af)
 | rng (lo hi:Int)
 | frz (o:Obj) (u:HO)
 | tbl (ps:Array al)
 | ext (φ:cz→Prop)
abbrev Hp:=af->Option HO
def upd(H:Hp)(a:af)(o:HO):Hp:=λb=>if b=a then some o else H b
def ao:upd H a o a=some o:=by unfold upd;rw [if_pos rfl]
def aC(h:b≠a):upd H a o b=H b:=by unfold upd;rw [if_neg h]
def mw:upd (upd H a o) a u=upd H a u:=by
 funext b;unfold upd;split<;>rfl
def jr{H:Hp}(h:H a=some o)(h':H b=some u)(d:o≠u):a≠b:=by
 intro e;subst e;rw [h] at h';exact d (bw h')
def aU{H:Hp}(h:H a=some o)(h':H b=none):a≠b:=by
 intro e;subst e;rw [h] at h';cases h'
section
variable (P:be) (w:bN)
def ObjOk (H:Hp) (h:cz) (a:af):HO->Prop
 | .lst xs=>xs.length<=a_/\∃(its:List al) (n:Nat),Vals xs its/\h.get? a=some {cls:= .type "list",data:= .seq its.toArray n}
 | .tup xs=>xs.length<=a_/\∃its:List al,Vals xs its/\V8 h a its.toArray
 | .dK kvs=>kvs.length<=a_/\(a==jk)=false/\∃z,KV kvs z/\h.DictOf (iG P w) a z
 | .dT kvs=>kvs.length<=a_/\(a==jk)=false/\∃xs:List (List vU×af×al),
   fW (λ(p:List vU×V) (q:List vU×af×al)=>p.1=q.1/\H q.2.1=some (.tup (p.1.map kV))/\RelV p.2 q.2.2) kvs xs/\
   ∃o es ep,h.get? a=some o/\o.ExactDict/\o.data= .dict es ep/\es.toList=xs.map (RK (vZ (iG P w)))/\(xs.map (·.1)).Nodup
 | .set S n=>h.SetOf (intKind P w) a S n
 | .ins C dx fs=>H dx=some (.own a)/\fs.length<=1000/\dx≠a/\h.get? a=some (iC C dx)/\
   ∃mA,h.Ns1 dx mA/\(∀f,RelO (fs.lookup f) (mA f))/\JK mA (fs.map (·.1))
 | .own _=>∃o,h.get? a=some o
 | .xd fs=>∃mA,h.Ns1 a mA/\∀f,RelO (fs.lookup f) (mA f)
 | .rng lo hi=>∃t u v,h.get? a=some {cls:= .type "range",data:= .fields #[.int lo t,.int hi u,.int 1 v]}
 | .frz o u=>h.get? a=some o/\ObjOk H h a u
 | .tbl ps=>h.get? a=some {cls:= .none,data:= .fields ps}
 | .met f x=>h.get? a=some (yO (.ref f) (.ref x))
 | .ext j=>j h/\(∃o,h.get? a=some o)/\∀h1 h2:cz,j h1->(∀o,h1.get? a=some o->h2.get? a=some o)->j h2
def HOk (H:Hp) (h:cz):Prop:=∀a o,H a=some o->ObjOk P w H h a o
end
section
variable {P:be} {w:bN} {H H':Hp} {h h':cz} {a:af} {o:HO}
theorem ObjOk.lt(x:ObjOk P w H h a o):a<h.objs.size:=by
 cases o with
 | lst xs=>obtain ⟨_,_,_,_,e⟩:=x;exact aZ e
 | tup xs=>obtain ⟨_,_,_,p⟩:=x;exact p.lt
 | dK kvs=>obtain ⟨_,_,_,_,o,_,_,e,_⟩:=x;exact aZ e
 | dT kvs=>obtain ⟨_,_,_,_,o,_,_,e,_⟩:=x;exact aZ e
 | set S n=>obtain ⟨o,_,_,_,e,_⟩:=x;exact aZ e
 | ins C dx fs=>obtain ⟨_,_,_,e,_⟩:=x;exact aZ e
 | own y=>obtain ⟨_,e⟩:=x;exact aZ e
 | xd fs=>obtain ⟨_,⟨_,_,_,e,_⟩,_⟩:=x;exact aZ e
 | rng lo hi=>obtain ⟨_,_,_,e⟩:=x;exact aZ e
 | frz q u=>obtain ⟨e,_⟩:=x;exact aZ e
 | tbl ps=>exact aZ (show h.get? a=some _ from x)
 | met f y=>exact aZ (show h.get? a=some _ from x)
 | ext j=>obtain ⟨_,⟨_,e⟩,_⟩:=x;exact aZ e
theorem Paired.mapP:∀{n:List z} {j:List q},fW F n j->(∀a b,F a b->G a b)->fW G n j
 | _,_,.nil,_=> .nil
 | _,_,.cons r t,f=> .cons (f _ _ r) (Paired.mapP t f)
def ObjOk.stay(x:ObjOk P w H h a o)(k:∀b u,(b=a\/H b=some (.own a))->h.get? b=some u->h'.get? b=some u)(L:∀b,H b=some (.own a)->H' b=some (.own a))(J:∀b xs,H b=some (.tup xs)->H' b=some (.tup xs)):ObjOk P w H' h' a o:=by
 induction o with
 | lst xs=>obtain ⟨z,its,n,r,e⟩:=x;exact ⟨z,its,n,r,k _ _ (.inl rfl) e⟩
 | tup xs=>obtain ⟨z,its,r,j,e,c⟩:=x;exact ⟨z,its,r,j,k _ _ (.inl rfl) e,c⟩
 | dK kvs=>obtain ⟨z,y,D,r,j,es,ep,e,c⟩:=x;exact ⟨z,y,D,r,j,es,ep,k _ _ (.inl rfl) e,c⟩
 | dT kvs=>
  obtain ⟨z,y,xs,r,j,es,ep,e,c⟩:=x;exact ⟨z,y,xs,Paired.mapP r λp q z=>⟨z.1,J _ _ z.2.1,z.2.2⟩,j,es,ep,k _ _ (.inl rfl) e,c⟩
 | set S n=>obtain ⟨j,es,ep,t,e,c⟩:=x;exact ⟨j,es,ep,t,k _ _ (.inl rfl) e,c⟩
 | ins C dx fs=>
  obtain ⟨d,z,G,e,mA,⟨B,es,ep,M,c⟩,r⟩:=x;exact ⟨L _ d,z,G,k _ _ (.inl rfl) e,mA,⟨B,es,ep,k _ _ (.inr d) M,c⟩,r⟩
 | own y=>obtain ⟨j,e⟩:=x;exact ⟨j,k _ _ (.inl rfl) e⟩
 | xd fs=>obtain ⟨mA,⟨B,es,ep,e,c⟩,r⟩:=x;exact ⟨mA,⟨B,es,ep,k _ _ (.inl rfl) e,c⟩,r⟩
 | rng lo hi=>obtain ⟨t,u,v,e⟩:=x;exact ⟨t,u,v,k _ _ (.inl rfl) e⟩
 | frz j u I=>obtain ⟨e,q⟩:=x;exact ⟨k _ _ (.inl rfl) e,I q⟩
 | tbl ps=>
  have e:h.get? a=some {cls:= .none,data:= .fields ps}:=x;show h'.get? a=some {cls:= .none,data:= .fields ps};exact k a _ (.inl rfl) e
 | met f y=>
  have e:h.get? a=some (yO (.ref f) (.ref y)):=x;show h'.get? a=some (yO (.ref f) (.ref y));exact k a _ (.inl rfl) e
 | ext N=>obtain ⟨p,⟨o,e⟩,st⟩:=x;exact ⟨st _ _ p λo q=>k _ _ (.inl rfl) q,⟨o,k _ _ (.inl rfl) e⟩,st⟩
theorem HOk.lt(x:HOk P w H h)(e:H a=some o):a<h.objs.size:=(x a o e).lt
def HOk.fresh(x:HOk P w H h)(e:h.objs.size<=a):H a=none:=by
 cases q:H a with
 | none=>rfl
 | some u=>exact absurd (bZ (x.lt q) e) (eW _)
def HOk.kept(x:HOk P w H h)(k:∀b u,h.get? b=some u->h'.get? b=some u):HOk P w H h':=λa o e=>
 (x a o e).stay (λb u _ q=>k b u q) (λ_ q=>q) λ_ _ q=>q
def HOk.laid(x:HOk P w H h)(k:∀b u,h.get? b=some u->h'.get? b=some u)(B:h.objs.size<=a)(j:ObjOk P w (upd H a o) h' a o):HOk P w (upd H a o) h':=λb u e=>by
 have n:=x.fresh B;by_cases z:b=a
 ·subst z;rw [ao] at e;cases e;exact j
 ·rw [aC z] at e;exact (x b u e).stay (λc v _ q=>k c v q) (λc q=>by rw [aC (aU q n)];exact q) λc xs q=>by rw [aC (aU q n)];exact q
end
def Rd(H:Hp)(a:af)(u:HO):Prop:=H a=some u\/∃o,H a=some (.frz o u)
def Rd.ok(r:Rd H a u)(x:HOk P w H h):ObjOk P w H h a u:=by
 rcases r with r | ⟨o,r⟩
 ·exact x a u r
 ·obtain ⟨_,q⟩:=x a _ r;exact q
def Pz:Option HO->Prop
 | some (.lst _)=>True
 | some (.dK _)=>True
 | some (.dT _)=>True
 | some (.set _ _)=>True
 | some (.ins _ _ _)=>True
 | some (.ext _)=>True
 | _=>False
section
variable {P:be} {w:bN} {H:Hp} {h h':cz} {x e:af} {o':HO}
def HOk.write(ok:HOk P w H h)(D:Pz (H x))(N:e=x\/H e=some (.own x))(k:∀b u,b≠e->h.get? b=some u->h'.get? b=some u)(L:∃u,h'.get? e=some u)(J:ObjOk P w (upd H x o') h' x o'):HOk P w (upd H x o') h':=λb u q=>by
 have n:∀c y,H c=some (.own y)->c≠x:=λc y r z=>by subst z;rw [r] at D;exact D
 have B:∀c xs,H c=some (.tup xs)->c≠x:=λc xs r z=>by subst z;rw [r] at D;exact D
 by_cases I:b=x
 ·subst I;rw [ao] at q;cases q;exact J
 ·rw [aC I] at q;by_cases j:b=e
  ·have M:H b=some (.own x):=by
    rcases N with z | z
    ·exact absurd (j.trans z) I
    ·rw [j];exact z
   rw [q] at M;cases M;obtain ⟨v,O⟩:=L;exact ⟨v,by rw [j];exact O⟩
  ·refine (ok b u q).stay (λc v G r=>k c v ?_ r) (λc r=>by rw [aC (n c b r)];exact r) λc xs r=>by rw [aC (B c xs r)];exact r
   rcases G with rfl | G
   ·exact j
   ·rintro rfl;rcases N with z | z
    ·exact n c b G z
    ·rw [G] at z;cases z;exact I rfl
end
structure Un (fs ex:List af) (H H':Hp) (h h':cz):Prop where
 keep:∀b o,h.get? b=some o→H b=none→b∉fs→b∉ex→h'.get? b=some o
 slot:∀b o,h.get? b=some o→H b=none→b∈fs→b∉ex→∃sl,h'.get? b=some {o with slots:=sl}
 free:∀b o,h.get? b=some o→H b=none→b∉ex→H' b=none
 there:∀b o,h.get? b=some o→b∉ex→∃o',h'.get? b=some o'
 tups:∀b xs,H b=some (.tup xs)→H' b=some (.tup xs)
 frzs:∀b o u,H b=some (.frz o u)→H' b=some (.frz o u)
 tbls:∀b ps,H b=some (.tbl ps)→∃more,H' b=some (.tbl (ps++more))
section
variable {fs fs' ex ex':List af} {H H1 H2:Hp} {h h1 h2 h':cz} {a x e:af} {o:HO}
def Un.any(u:Un fs ex H H1 h h1)(q:h.get? b=some j)(n:H b=none)(z:b∉ex):∃D,h1.get? b=some {j with slots:=D}:=by
 by_cases B:b∈fs
 ·exact u.slot b j q n B z
 ·exact ⟨j.slots,u.keep b j q n B z⟩
def Un.kept(k:∀b u,h.get? b=some u->h'.get? b=some u):Un fs ex H H h h':=
 ⟨λb j q _ _ _=>k b j q,λb j q _ _ _=>⟨j.slots,k b j q⟩,λ_ _ _ n _=>n,λb j q _=>⟨j,k b j q⟩,λ_ _ q=>q,λ_ _ _ q=>q,λ_ ps q=>⟨#[],by rw [q];simp⟩⟩
def Un.refl:Un fs ex H H h h:=Un.kept λ_ _ q=>q
def Un.laid (k:∀b u,h.get? b=some u->h'.get? b=some u) (z:h.objs.size<=a) (j:H a=none):Un fs ex H (upd H a o) h h' where
 keep:=λb u q _ _ _=>k b u q
 slot:=λb u q _ _ _=>⟨u.slots,k b u q⟩
 free:=λb u q n _=>by rw [aC (cu (bZ (aZ q) z))];exact n
 there:=λb u q _=>⟨u,k b u q⟩
 tups:=λb xs q=>by rw [aC (aU q j)];exact q
 frzs:=λb u xs q=>by rw [aC (aU q j)];exact q
 tbls:=λb ps q=>⟨#[],by rw [aC (aU q j),q];simp⟩
def Un.write(B:Pz (H x))(L:e=x\/H e=some (.own x))(k:∀b u,b≠e->h.get? b=some u->h'.get? b=some u)(G:∃u,h'.get? e=some u):Un fs ex H (upd H x o) h h':=by
 have I:∀b,H b=none->b≠x:=λb n z=>by subst z;rw [n] at B;exact B
 have J:∀b,H b=none->b≠e:=λb n z=>by
  subst z;rcases L with r | r
  ·exact I b n r
  ·rw [n] at r;cases r
 have D:∀b u,H b=some u->¬Pz (some u)->b≠x:=λb u q nm z=>by subst z;rw [q] at B;exact nm B
 refine ⟨λb u q n _ _=>k b u (J b n) q,λb u q n _ _=>⟨u.slots,k b u (J b n) q⟩,λb u q n _=>by rw [aC (I b n)];exact n,λb u q _=> ?_,
  λb xs q=>by rw [aC (D b _ q λz=>z)];exact q,λb u xs q=>by rw [aC (D b _ q λz=>z)];exact q,λb ps q=>⟨#[],by rw [aC (D b _ q λz=>z),q];simp⟩⟩
 by_cases j:b=e
 ·subst j;exact G
 ·exact ⟨u,k b u j q⟩
end
def Qr(h:cz)(H:Hp):List af:=(iu h.objs.size).filter λa=>(H a).isSome
def AX(h:cz)(H:Hp):cz:=A_ h (Qr h H)
def FQ(h)(H):(AX h H).objs.size=h.objs.size:=JN _ _
def Ju(e:h.get? b=some o)(n:H b=none):(AX h H).get? b=some o:=
 JS _ e λj=>by
  have q:(H b).isSome=true:=(lR.mp j).2;rw [n] at q;simp at q
def Mc(e:(AX h H).get? b=some o):h.get? b=some o/\H b=none:=by
 have j:h.get? b=some o:=xi (Qr h H) e;refine ⟨j,?_⟩;cases q:H b with
 | none=>rfl
 | some x=>
  have n:b∈Qr h H:=lR.mpr ⟨kH.mpr (aZ j),by simp [q]⟩;have z:(AX h H).get? b=none:=uY (Qr h H) n;rw [z] at e;cases e
structure Mod (K:ac) (mg:Str→Option al) (base:cz):Prop where
 kin:K.In base
 glob:base.Ns ax mg
 blt:∃mb,base.Ns D_ mb∧∀x:Str,x≠"__name__"→mb x=lQ x
 nolimit:base.NoLimit
structure Cx where
 prog:be
 w:bN
 K:ac
 mg:Str→Option al
 base:cz
 A:gt
 N:List Str
 s_0:aK
 H_0:Hp
 env:Env
 outer:List Env
 stack:List Env
 ex:List af
 fn:Str→Bool
 calm:Bool
 pn:List (af×Obj)
 xe:al→aK→Prop
def tT(l:List Env):List af:=l.filterMap (·.frame)
abbrev Cx.fs(X:Cx):List af:=tT X.outer
def Ms(j:i_)(x:Str):Prop:=j.names.lookup x=some .local\/j.names.lookup x=some .cell\/j.names.lookup x=some .free
def Loc(j:i_)(x:Str):Prop:=j.names.lookup x=some .local\/j.names.lookup x=some .cell
def Look(env:Env)(h:cz)(m:Str->Option al)(x:Str)(u:al):Prop:=
 (env.kindOf x=some .local/\m x=some u)\/((env.kindOf x=some .cell\/env.kindOf x=some .free)/\∃c,env.cells.lookup x=some c/\h.IsCell c (some u))
structure Cx.Ok (X:Cx):Prop where
 mod:Mod X.K X.mg X.base
 kind:X.env.scope.kind= .function
 glob:X.env.globals=ax
 blt:X.env.builtins=D_
 above:X.s_0.heap.objs.size≤X.env.locals
 inj:∀x y c,X.env.cells.lookup x=some c→X.env.cells.lookup y=some c→x=y
 has:∀x,(X.env.kindOf x=some .cell∨X.env.kindOf x=some .free)→∃c,X.env.cells.lookup x=some c
 cab:∀x c,X.fn x=true→X.env.cells.lookup x=some c→X.s_0.heap.objs.size≤c
 hd:X.calm=true→X.A.handled=none
 frames:X.A.frames=some X.stack
 stk:X.stack=X.outer∨(X.stack=X.env::X.outer∧X.env.frame=some X.env.locals)
 exf:∀b∈X.ex,b≠X.env.locals∧∀x c,X.env.cells.lookup x=some c→c≠b
 bs:∀b o,X.base.get? b=some o→X.s_0.heap.get? b=some o∧X.H_0 b=none
 bsz:X.base.objs.size≤X.s_0.heap.objs.size
 noex:∀b o,X.base.get? b=some o→b∉X.ex
 exfs:∀b∈X.ex,b∉X.fs
 funs:X.s_0.heap.FunFrames X.base X.outer
 frf:∀b∈X.fs,X.H_0 b=none
structure Inv (X:Cx) (pins:List (af×Obj)) (σ:List (Option V)) (H:Hp) (s:aK):Prop where
 ok:X.Ok
 os:s.os=X.s_0.os
 bare:AS s.gens
 base:Un X.fs X.ex X.H_0 H X.s_0.heap s.heap
 loc:∃m,s.heap.Ns X.env.locals m∧∀(i:Nat) (x:Str) (v:V),X.N[i]? =some x→σ[i]? =some (some v)→Ms X.env.scope x→∃u,RelV v u∧Look X.env s.heap m x u
 cell:∀x c,X.env.cells.lookup x=some c→∃v,s.heap.IsCell c v
 free:H X.env.locals=none
 freeC:∀x c,X.env.cells.lookup x=some c→H c=none
 pin:∀p∈X.pn++pins,s.heap.get? p.1=some p.2∧H p.1=none∧p.1≠X.env.locals∧p.1∉X.fs∧∀v,p.2.data≠.cell v
 hok:HOk X.prog X.w H s.heap
 len:σ.length=X.N.length
section
variable {X:Cx} {pins:List (af×Obj)} {σ:List (Option V)} {H H':Hp} {s:aK} {h':cz}
def Cx.Ok.nofr(ok:X.Ok)(e:X.base.get? b=some o):b∉X.fs:=λj=>by
 have:=(ok.funs.mem j).1;rw [e] at this;cases this
theorem Inv.bs(I:Inv X pins σ H s):∀b o,X.base.get? b=some o->s.heap.get? b=some o/\H b=none:=λb o e=>
 ⟨I.base.keep b o (I.ok.bs b o e).1 (I.ok.bs b o e).2 (I.ok.nofr e) (I.ok.noex b o e),I.base.free b o (I.ok.bs b o e).1 (I.ok.bs b o e).2 (I.ok.noex b o e)⟩
def Inv.bk(I:Inv X pins σ H s):∀b o,X.base.get? b=some o->s.heap.get? b=some o:=λb o e=>(I.bs b o e).1
theorem Inv.mod(I:Inv X pins σ H s):Mod X.K X.mg X.base:=I.ok.mod
def Inv.kIn(I:Inv X pins σ H s):X.K.In s.heap:=I.ok.mod.kin.keeps I.bk
def Inv.fr(I:Inv X pins σ H s):∃m,Fr X.base X.env.locals s.heap m:=
 let ⟨m,j,_⟩:=I.loc
 ⟨m,j,I.bk,cD I.ok.bsz I.ok.above⟩
theorem Inv.lt(I:Inv X pins σ H s):X.env.locals<s.heap.objs.size:=let ⟨_,j,_⟩:=I.loc;j.lt
def Inv.sz(I:Inv X pins σ H s):X.s_0.heap.objs.size<=s.heap.objs.size:=cD I.ok.above (ii I.lt)
def Inv.nofs(I:Inv X pins σ H s){a:af}(h:s.heap.objs.size<=a):a∉X.fs:=λn=>by
 obtain ⟨_,o,j,_⟩:=I.ok.funs.mem n;exact absurd (bZ (aZ j) (cD I.sz h)) (eW _)
def Inv.cne(I:Inv X pins σ H s):∀x c,X.env.cells.lookup x=some c->c≠X.env.locals:=λx c e z=>by
 obtain ⟨v,o,q,B⟩:=I.cell x c e;obtain ⟨m,⟨o',es,ep,j,n,_⟩,_⟩:=I.loc;rw [z,j] at q;cases q;rw [n] at B;cases B
theorem Inv.funs(I:Inv X pins σ H s):s.heap.FunFrames X.base X.outer:=by
 have all:∀(l:List Env),(∀b∈tT l,b∈X.fs)->X.s_0.heap.FunFrames X.base l->s.heap.FunFrames X.base l:=by
  intro l
  induction l with
  | nil=>intro _ _;trivial
  | cons env r D=>
   intro B N;obtain ⟨O,⟨L,o,j,M,J,U⟩,G⟩:=N;have q:L∈X.fs:=B L (by unfold tT;rw [jd,j];exact ar);obtain ⟨Y,e⟩:=I.base.slot L o J (I.ok.frf L q) q λz=>I.ok.exfs L z q;exact ⟨O,⟨L,_,j,M,e,U⟩,D (λb n=>B b (by unfold tT;rw [jd,j];exact au _ n)) G⟩
 exact all X.outer (λ_ n=>n) I.ok.funs
theorem Inv.stack(I:Inv X pins σ H s):s.heap.FunFrames X.base X.stack:=by
 rcases I.ok.stk with e | ⟨e,n⟩
 ·rw [e];exact I.funs
 ·rw [e];obtain ⟨m,j,_⟩:=I.loc;refine .cons (by rw [I.ok.kind];decide) n j ?_ I.funs;exact wF (cD I.ok.bsz I.ok.above)
def Inv.stkSub(I:Inv X pins σ H s):∀b∈tT X.stack,b∈X.env.locals::X.fs:=λb j=>by
 rcases I.ok.stk with e | ⟨e,n⟩
 ·rw [e] at j;exact au _ j
 ·rw [e] at j;unfold tT at j;rw [jd,n] at j;exact j
def Inv.stkFree(I:Inv X pins σ H s):∀b∈tT X.stack,H b=none:=λb j=>by
 rcases aH.mp (I.stkSub b j) with e | j
 ·rw [e];exact I.free
 ·obtain ⟨_,o,n,_⟩:=I.ok.funs.mem j;exact I.base.free b o n (I.ok.frf b j) λz=>I.ok.exfs b z j
def Inv.step{ch:List af}(I:Inv X pins σ H s)(G:∀b∈ch,(b∈X.ex\/X.s_0.heap.objs.size<=b)/\b≠X.env.locals/\(∀x c,X.env.cells.lookup x=some c->c≠b)/\∀p∈X.pn++pins,p.1≠b)(J:∀b o,b≠X.env.locals->b∉X.fs->b∉ch->s.heap.get? b=some o->H b=none->h'.get? b=some o)(slot:∀b o,b≠X.env.locals->b∈X.fs->b∉ch->s.heap.get? b=some o->H b=none->∃sl,h'.get? b=some {o with slots:=sl})(B:∀b o,b∉ch->s.heap.get? b=some o->H b=none->H' b=none)(U:∀b o,b∉ch->s.heap.get? b=some o->∃o',h'.get? b=some o')(a1:∀b xs,H b=some (.tup xs)->H' b=some (.tup xs))(a4:∀b o u,H b=some (.frz o u)->H' b=some (.frz o u))(a2:∀b ps,H b=some (.tbl ps)->∃a3,H' b=some (.tbl (ps++a3)))(ns:∀m,s.heap.Ns X.env.locals m->h'.Ns X.env.locals m)(a6:HOk X.prog X.w H' h')(hg:AS g'):
  Inv X pins σ H' {s with heap:=h',gens:=g',drawn:=d',toks:=t'}:=by
 have a0:∀b o,X.s_0.heap.get? b=some o->b≠X.env.locals:=λb o e=>cu (bZ (aZ e) I.ok.above);have N:∀b o,X.s_0.heap.get? b=some o->b∉X.ex->b∉ch:=λb o e j O=>by
  rcases (G b O).1 with z | z
  ·exact j z
  ·exact absurd (bZ (aZ e) z) (eW _)
 have L:∀x c,X.env.cells.lookup x=some c->∀v,s.heap.IsCell c v->h'.IsCell c v:=λx c e v ⟨o,Y,hd⟩=>by
  have D:c∉ch:=λz=>(G c z).2.2.1 x c e rfl;by_cases hc:c∈X.fs
  ·obtain ⟨sl,q⟩:=slot c o (I.cne x c e) hc D Y (I.freeC x c e);exact ⟨_,q,hd⟩
  ·exact ⟨o,J c o (I.cne x c e) hc D Y (I.freeC x c e),hd⟩
 refine ⟨I.ok,I.os,hg,⟨λb o e n O j=> ?_,λb o e n O j=> ?_,λb o e n j=> ?_,λb o e j=> ?_,λb xs e=>a1 b xs (I.base.tups b xs e),λb o xs e=>a4 b o xs (I.base.frzs b o xs e),λb ps e=> ?_⟩,?_,λx c e=> ?_,?_,λx c e=> ?_,λp hp=> ?_,a6,I.len⟩
 ·exact J b o (a0 b o e) O (N b o e j) (I.base.keep b o e n O j) (I.base.free b o e n j)
 ·obtain ⟨sl,M⟩:=I.base.slot b o e n O j;obtain ⟨a5,e2⟩:=slot b _ (a0 b o e) O (N b o e j) M (I.base.free b o e n j);exact ⟨a5,e2⟩
 ·obtain ⟨o',M⟩:=I.base.there b o e j;exact B b o' (N b o e j) M (I.base.free b o e n j)
 ·obtain ⟨o',M⟩:=I.base.there b o e j;exact U b o' (N b o e j) M
 ·obtain ⟨m1,M⟩:=I.base.tbls b ps e;obtain ⟨m2,e2⟩:=a2 b _ M;exact ⟨m1++m2,by rw [e2,Array.append_assoc]⟩
 ·obtain ⟨m,hn,hl⟩:=I.loc;refine ⟨m,ns m hn,λi x v M e2 e3=> ?_⟩;obtain ⟨u,r,l⟩:=hl i x v M e2 e3;refine ⟨u,r,?_⟩;rcases l with l | ⟨k,c,e,z⟩
  ·exact .inl l
  ·exact .inr ⟨k,c,e,L x c e _ z⟩
 ·obtain ⟨v,z⟩:=I.cell x c e;exact ⟨v,L x c e v z⟩
 ·obtain ⟨m,⟨o,_,_,Y,_⟩,_⟩:=I.loc;exact B _ o (λz=>(G _ z).2.1 rfl) Y I.free
 ·obtain ⟨v,o,Y,hd⟩:=I.cell x c e;exact B c o (λz=>(G c z).2.2.1 x c e rfl) Y (I.freeC x c e)
 ·obtain ⟨e,n,ne,nf,d⟩:=I.pin p hp;have D:p.1∉ch:=λz=>(G p.1 z).2.2.2 p hp rfl;exact ⟨J p.1 p.2 ne nf D e n,B p.1 p.2 D e n,ne,nf,d⟩
def Inv.un(I:Inv X pins σ H s)(u:Un X.fs [] H H' s.heap h')(B:HOk X.prog X.w H' h'):Inv X pins σ H' {s with heap:=h',toks:=t'}:=by
 obtain ⟨m,⟨o,es,ep,J,r⟩,_⟩:=id I.loc;obtain ⟨O,N⟩:=u.any J I.free (by simp);exact I.step (g':=s.gens) (d':=s.drawn) (ch:=[]) (λ_ z=>nomatch z) (λb o _ q _ e n=>u.keep b o e n q (by simp)) (λb o _ q _ e n=>u.slot b o e n q (by simp)) (λb o _ e n=>u.free b o e n (by simp)) (λb o _ e=>u.there b o e (by simp)) u.tups u.frzs u.tbls (λU M=>by
  obtain ⟨o',D,G,j,L⟩:=M;rw [J] at j;cases j;exact ⟨_,D,G,N,L⟩) B I.bare
def Inv.call(I:Inv X pins σ H s)(u:Un (tT X.stack) ch H H' s.heap h')(G:HOk X.prog X.w H' h')(U:AS g')(B:∀b∈ch,(b∈X.ex\/X.s_0.heap.objs.size<=b)/\b≠X.env.locals/\(∀x c,X.env.cells.lookup x=some c->c≠b)/\∀p∈X.pn++pins,p.1≠b):
  Inv X pins σ H' {s with heap:=h',gens:=g',drawn:=d',toks:=t'}:=by
 obtain ⟨m,⟨o,es,ep,M,r⟩,_⟩:=id I.loc;obtain ⟨sl,D⟩:=u.any M I.free λz=>(B _ z).2.1 rfl;exact I.step (ch:=ch) B (λb o D Y j e n=>u.keep b o e n (λz=>(aH.mp (I.stkSub b z)).elim D Y) j) (λb o _ _ j e n=>u.any e n j) (λb o j e n=>u.free b o e n j) (λb o j e=>u.there b o e j) u.tups u.frzs u.tbls (λm' O=>by
  obtain ⟨o',J,L,q,N⟩:=O;rw [M] at q;cases q;exact ⟨_,J,L,D,N⟩) G U
def Inv.turned(I:Inv X pins σ H s)(k:∀b o,b≠it->s.heap.get? b=some o->h'.get? b=some o)(J:H it=none)(D:it≠X.env.locals)(h1:it∈X.ex\/X.s_0.heap.objs.size<=it)(h2:∀x c,X.env.cells.lookup x=some c->c≠it)(N:∀p∈X.pn++pins,p.1≠it):Inv X pins σ H {s with heap:=h',toks:=t'}:=by
 have B:∀b u,H b=some u->b≠it:=λb u e z=>by rw [z,J] at e;cases e
 refine I.step (g':=s.gens) (d':=s.drawn) (ch:=[it]) (λb M=> ?_) (λb o _ _ j e _=>k b o (λz=>j (by simp [z])) e) (λb o _ _ j e _=>⟨o.slots,k b o (λz=>j (by simp [z])) e⟩) (λ_ _ _ _ n=>n)
  (λb o j e=>⟨o,k b o (λz=>j (by simp [z])) e⟩) (λ_ _ e=>e) (λ_ _ _ e=>e) (λb ps e=>⟨#[],by rw [e];simp⟩) (λm L=> ?_) (λb u e=> ?_) I.bare
 ·have e:b=it:=by simpa using M
  subst e;exact ⟨h1,D,h2,N⟩
 ·obtain ⟨o,es,ep,G,r⟩:=L;exact ⟨o,es,ep,k _ o (dO D) G,r⟩
 ·refine (I.hok b u e).stay (λc v j q=>k c v ?_ q) (λ_ q=>q) λ_ _ q=>q;rcases j with z | z
  ·rw [z];exact B b u e
  ·exact B c _ z
def Inv.tok(I:Inv X pins σ H s)(t):Inv X pins σ H {s with toks:=t}:=I.un (h':=s.heap) (t':=t) Un.refl I.hok
theorem Inv.kept(I:Inv X pins σ H s)(k:∀b u,s.heap.get? b=some u->h'.get? b=some u):Inv X pins σ H {s with heap:=h',toks:=t'}:=I.un (Un.kept k) (I.hok.kept k)
theorem Inv.laid{a:af}(I:Inv X pins σ H s)(k:∀b u,s.heap.get? b=some u->h'.get? b=some u)(j:s.heap.objs.size<=a)(n:ObjOk X.prog X.w (upd H a o) h' a o):
  Inv X pins σ (upd H a o) {s with heap:=h',toks:=t'}:=I.un (Un.laid k j (I.hok.fresh j)) (I.hok.laid k j n)
theorem Inv.write(I:Inv X pins σ H s)(q:Pz (H x))(z:e=x\/H e=some (.own x))(k:∀b u,b≠e->s.heap.get? b=some u->h'.get? b=some u)(j:∃u,h'.get? e=some u)(n:ObjOk X.prog X.w (upd H x o) h' x o):Inv X pins σ (upd H x o) {s with heap:=h',toks:=t'}:=I.un (Un.write q z k j) (I.hok.write q z k j n)
def Inv.weak(I:Inv X pins σ H s)(z:j.length=σ.length)(w:∀(i:Nat) v,j[i]? =some (some v)->σ[i]? =some (some v)):Inv X pins j H s:=
 ⟨I.ok,I.os,I.bare,I.base,let ⟨m,q,n⟩:=I.loc;⟨m,q,λi x v G D B=>n i x v G (w i v D) B⟩,I.cell,I.free,I.freeC,I.pin,I.hok,z.trans I.len⟩
def Inv.pins_of(I:Inv X pins σ H s)(h:∀p∈j,s.heap.get? p.1=some p.2/\H p.1=none/\p.1≠X.env.locals/\p.1∉X.fs/\∀v,p.2.data≠.cell v):Inv X j σ H s:=
 ⟨I.ok,I.os,I.bare,I.base,I.loc,I.cell,I.free,I.freeC,λp n=>(bV.mp n).elim (λz=>I.pin p (gh _ z)) (h p),I.hok,I.len⟩
def yB{N:List Str}(n:N.Nodup){i j:Nat}(a:N[i]? =some x)(b:N[j]? =some x):i=j:=by
 obtain ⟨h1,z⟩:=aY.mp a;obtain ⟨h2,q⟩:=aY.mp b;exact (List.getElem_inj n).mp (z.trans q.symm)
def vF(I:Inv X pins σ H s)(hN:X.N.Nodup)(hi:X.N[i]? =some x)(L:Loc X.env.scope x)(r:RelV v u)(h:∀s',Inv X pins (σ.set i (some v)) H s'->(∃a,jy a s.heap s'.heap/\(a=X.env.locals\/X.env.cells.lookup x=some a))->Q () s')(hf:X.fn x=true\/X.env.scope.names.lookup x=some .local:=by first | exact .inl rfl | exact .inr rfl | assumption):bj M A (storeName X.env x u) Q E s:=by
 obtain ⟨m,hn,hl⟩:=id I.loc;have a6:(X.env.scope.kind== .class||(X.env.scope.kind== .module&&X.env.locals != X.env.globals))=false:=by rw [I.ok.kind];rfl
 have Y:i<σ.length:=by rw [I.len];exact (aY.mp hi).1
 have a1:=I.cne;have G:∀{a:af} {h':cz},(∃o,s.heap.get? a=some o/\H a=none)->jy a s.heap h'->HOk X.prog X.w H h':=λ{a h'} ha B b ob e=>by
  obtain ⟨_,_,N⟩:=ha;refine (I.hok b ob e).stay (λc w' J q=>(B.2 c ?_).trans q) (λ_ q=>q) λ_ _ q=>q;rintro rfl;rcases J with rfl | J
  ·rw [N] at e;cases e
  ·rw [N] at J;cases J
 rcases L with U | U
 ·refine wpAny_storeName_local U hn (λh' a8 B=> ?_) a6;obtain ⟨oL,_,_,a7,_⟩:=id hn;refine h _ ⟨I.ok,I.os,I.bare,⟨λb o e n hb L=> ?_,λb o e n hb L=> ?_,I.base.free,λb o e L=> ?_,I.base.tups,I.base.frzs,I.base.tbls⟩,⟨_,a8,λj y v' D O e3=> ?_⟩,λy c e=> ?_,I.free,I.freeC,λp hp=> ?_,G ⟨oL,a7,I.free⟩ B,by simpa using I.len⟩ ⟨_,B,.inl rfl⟩
  ·exact (B.2 b (cu (bZ (aZ e) I.ok.above))).trans (I.base.keep b o e n hb L)
  ·obtain ⟨sl,D⟩:=I.base.slot b o e n hb L;exact ⟨sl,(B.2 b (cu (bZ (aZ e) I.ok.above))).trans D⟩
  ·obtain ⟨o',D⟩:=I.base.there b o e L;exact ⟨o',(B.2 b (cu (bZ (aZ e) I.ok.above))).trans D⟩
  ·by_cases hj:j=i
   ·subst hj;rw [hi] at D;cases D;rw [ua Y] at O;cases O;exact ⟨u,r,.inl ⟨U,by simp⟩⟩
   ·rw [wG (dO hj)] at O;obtain ⟨u',r',q⟩:=hl j y v' D O e3;refine ⟨u',r',?_⟩;rcases q with ⟨k,e⟩ | ⟨k,c,e,z⟩
    ·refine .inl ⟨k,?_⟩;have:y≠x:=λe=>hj (yB hN D (e▸hi));simp [this,e]
    ·exact .inr ⟨k,c,e,z.sameBut B (a1 y c e)⟩
  ·obtain ⟨w',z⟩:=I.cell y c e;exact ⟨w',z.sameBut B (a1 y c e)⟩
  ·obtain ⟨e,n,ne,nf,d⟩:=I.pin p hp;exact ⟨(B.2 p.1 ne).trans e,n,ne,nf,d⟩
 ·have a0:X.fn x=true:=by
   rcases hf with z | z
   ·exact z
   ·rw [z] at U;cases U
  obtain ⟨c,J⟩:=I.ok.has x (.inl U);obtain ⟨w',z⟩:=I.cell x c J;refine wpAny_storeName_cell I.ok.kind U J z (λh' a4 B=> ?_);obtain ⟨oc,a2,a5⟩:=id z;refine h {s with heap:=h'} ⟨I.ok,I.os,I.bare,⟨λb o e n hb L=> ?_,λb o e n hb L=> ?_,I.base.free,λb o e L=> ?_,I.base.tups,I.base.frzs,I.base.tbls⟩,⟨m,hn.sameBut B (dO (a1 x c J)),λj y v' D O e3=> ?_⟩,λy c' e=> ?_,I.free,I.freeC,λp hp=> ?_,G ⟨oc,a2,I.freeC x c J⟩ B,by simpa using I.len⟩ ⟨c,B,.inr J⟩
  ·exact (B.2 b (cu (bZ (aZ e) (I.ok.cab x c a0 J)))).trans (I.base.keep b o e n hb L)
  ·obtain ⟨sl,D⟩:=I.base.slot b o e n hb L;exact ⟨sl,(B.2 b (cu (bZ (aZ e) (I.ok.cab x c a0 J)))).trans D⟩
  ·obtain ⟨o',D⟩:=I.base.there b o e L;exact ⟨o',(B.2 b (cu (bZ (aZ e) (I.ok.cab x c a0 J)))).trans D⟩
  ·by_cases hj:j=i
   ·subst hj;rw [hi] at D;cases D;rw [ua Y] at O;cases O;exact ⟨u,r,.inr ⟨.inl U,c,J,a4⟩⟩
   ·rw [wG (dO hj)] at O;obtain ⟨u',r',q⟩:=hl j y v' D O e3;refine ⟨u',r',?_⟩;rcases q with q | ⟨k,c',e,z'⟩
    ·exact .inl q
    ·refine .inr ⟨k,c',e,z'.sameBut B ?_⟩;rintro rfl;exact hj (yB hN D (I.ok.inj _ _ _ e J▸hi))
  ·by_cases a3:c'=c
   ·subst a3;exact ⟨_,a4⟩
   ·obtain ⟨w2,z2⟩:=I.cell y c' e;exact ⟨w2,z2.sameBut B a3⟩
  ·obtain ⟨e,n,ne,nf,d⟩:=I.pin p hp;refine ⟨(B.2 p.1 ?_).trans e,n,ne,nf,d⟩;intro q;rw [q,a2] at e;have q':oc=p.2:=bw e;exact d w' (by rw [<-q'];exact a5)
def yt(I:Inv X pins σ H s)(q:X.N.Nodup)(hi:X.N[i]? =some x)(j:Loc X.env.scope x)(r:RelV v u)(h:∀s',Inv X pins (σ.set i (some v)) H s'->Q () s')(n:X.fn x=true\/X.env.scope.names.lookup x=some .local:=by first | exact .inl rfl | exact .inr rfl | assumption):bj M A (storeName X.env x u) Q E s:=
 vF I q hi j r (λs' z _=>h s' z) n
def Inv.call'(I:Inv X pins σ H s)(q:s'.os=s.os)(u:Un (tT X.stack) ch H H' s.heap s'.heap)(j:HOk X.prog X.w H' s'.heap)(z:AS s'.gens)(n:∀b∈ch,(b∈X.ex\/X.s_0.heap.objs.size<=b)/\b≠X.env.locals/\(∀x c,X.env.cells.lookup x=some c->c≠b)/\∀p∈X.pn++pins,p.1≠b):Inv X pins σ H' s':=by
 obtain ⟨h',g',d',t',o'⟩:=s';have e:o'=s.os:=q;subst e;exact I.call (g':=g') (t':=t') (d':=d') u j z n
end
abbrev XK:=al->Option af->Hp->Prop
abbrev St:=List (Option V)
abbrev VK:=V->Hp->Prop
abbrev TE:=St->Hp->VK->Prop
abbrev TT:=St->Hp->(Bool->Hp->Prop)->Prop
abbrev TA:=St->Hp->(List V->Hp->Prop)->Prop
structure Ends where
 nx:St→Hp→Prop
 rt:VK
 bk:St→Hp→Prop:=fun _ _=>False
 ct:St→Hp→Prop:=fun _ _=>False
abbrev TS:=Ends->St->Hp->Prop
def EP(X:Cx)(pins:List (af×Obj))(σ:St)(Q:VK)(u:al)(s':aK):Prop:=∃v H',Inv X pins σ H' s'/\RelV v u/\Q v H'
def TP(X:Cx)(pins:List (af×Obj))(σ:St)(Q:Bool->Hp->Prop)(b:Bool)(s':aK):Prop:=∃H',Inv X pins σ H' s'/\Q b H'
def AP(X:Cx)(pins:List (af×Obj))(σ:St)(Q:List V->Hp->Prop)(us:List al)(s':aK):Prop:=∃j H',Inv X pins σ H' s'/\Vals j us/\Q j H'
def SP(X:Cx)(pins:List (af×Obj))(D:Ends)(f:Flow)(s':aK):Prop:=
 match f with
 | .next=>∃j H',Inv X pins j H' s'/\D.nx j H'
 | .brk=>∃j H',Inv X pins j H' s'/\D.bk j H'
 | .cont=>∃j H',Inv X pins j H' s'/\D.ct j H'
 | .ret u=>∃v j H',Inv X pins j H' s'/\RelV v u/\D.rt v H'
def PE(X:Cx)(e:eM)(t:TE):Prop:=
 ∀(pins:List (af×Obj)) (s:aK) (σ:St) (H:Hp) (Q:VK),Inv X pins σ H s->t σ H Q->bj (bP X.prog X.w) X.A (eval e X.env) (EP X pins σ Q) X.xe s
def PT(X:Cx)(e:eM)(t:TT):Prop:=
 ∀(pins:List (af×Obj)) (s:aK) (σ:St) (H:Hp) (Q:Bool->Hp->Prop),Inv X pins σ H s->t σ H Q->bj (bP X.prog X.w) X.A (RI e X.env (eval e X.env)) (TP X pins σ Q) X.xe s
def PW(X:Cx)(e:eM)(t:TT):Prop:=
 ∀(whole:Sem al) (pins:List (af×Obj)) (s:aK) (σ:St) (H:Hp) (Q:Bool->Hp->Prop),Inv X pins σ H s->t σ H Q->bj (bP X.prog X.w) X.A (RI e X.env whole) (TP X pins σ Q) X.xe s
def PW.pt(h:PW X e t):PT X e t:=h _
def PA(X:Cx)(es:List eM)(t:TA):Prop:=
 ∀(pos:Pos) (pins:List (af×Obj)) (s:aK) (σ:St) (H:Hp) (Q:List V->Hp->Prop),Inv X pins σ H s->t σ H Q->bj (bP X.prog X.w) X.A (RZ (fV pos (bx es X.env))) (AP X pins σ Q) X.xe s
def PS(X:Cx)(st:dm)(t:TS):Prop:=
 ∀(pins:List (af×Obj)) (s:aK) (σ:St) (H:Hp) (D:Ends),Inv X pins σ H s->t D σ H->bj (bP X.prog X.w) X.A (exec st X.env) (SP X pins D) X.xe s
def HR(X:Cx)(st:List dm)(t:TS):Prop:=
 ∀(pins:List (af×Obj)) (s:aK) (σ:St) (H:Hp) (D:Ends),Inv X pins σ H s->t D σ H->bj (bP X.prog X.w) X.A (execs st X.env) (SP X pins D) X.xe s
def gL(h:bj M A t Q E s)(j:∀a s,Q a s->n a s):bj M A t n E s:=ft h j λ_ _ x=>x
section
variable {X:Cx}
def qm(i:Nat):TE:=λσ H Q=>∃v,σ[i]? =some (some v)/\Q v H
def tC(v:V):TE:=λ_ H Q=>Q v H
def zO(N:X.N[i]? =some x)(G:Ms X.env.scope x)(z:(x==("__debug__":Str))=false:=by decide)(B:(x==("__classdict__":Str))=false:=by decide):PE X (.Name x pos) (qm i):=by
 intro pins s σ H Q I h;obtain ⟨v,e,h⟩:=h;obtain ⟨m,J,M⟩:=I.loc;obtain ⟨u,r,l⟩:=M i x v N e G;have q:EP X pins σ Q u s:=⟨v,H,I,r,h⟩
 rcases l with ⟨n,L⟩ | ⟨n,c,D,j⟩
 ·exact RE (wpAny_loadName_local I.ok.kind n J L q) z
 ·rcases n with n | n
  ·exact RE (wpAny_loadName_cell I.ok.kind n D j q) z
  ·exact RE (wpAny_loadName_free I.ok.kind n D j q B) z
def bR {i j pos}:PE X (.Constant (.int i) j pos) (tC (.int i)):=λ_ _ _ H _ I h=>wpAny_Constant_int ⟨.int i,H,I.tok _,⟨_,rfl⟩,h⟩
def QE {b j pos}:PE X (.Constant (.bool b) j pos) (tC (.bl b)):=λ_ _ _ H _ I h=>Constant_bool ⟨.bl b,H,I,rfl,h⟩
def Oo {j pos}:PE X (.Constant .none j pos) (tC .non):=λ_ _ _ H _ I h=>Constant_none ⟨.non,H,I,rfl,h⟩
def Om {x j pos}:PE X (.Constant (.str x) j pos) (tC (.str x)):=λ_ _ _ H _ I h=>Calls.Constant_str ⟨.str x,H,I.tok _,⟨_,rfl⟩,h⟩
def Gl(X:Cx)(x:Str):Prop:=X.env.kindOf x=some .globalImplicit
def oh{σ:St}(I:Inv X pins σ H s)(n:Gl X x)(j:X.mg x=some u)(h:Q u s)(q:(x==("__debug__":Str))=false:=by decide):bj (bP X.prog X.w) X.A (eval (.Name x pos) X.env) Q E s:=
 Ey I.ok.kind n (Calls.loadGlobal_global (by rw [I.ok.glob];exact I.mod.glob.keeps I.bk) j h) q
def rh{σ:St}(I:Inv X pins σ H s)(z:Gl X x)(q:X.mg x=none)(j:lQ x=some u)(h:Q u s)(n:x≠"__name__":=by decide)(B:(x==("__debug__":Str))=false:=by decide):bj (bP X.prog X.w) X.A (eval (.Name x pos) X.env) Q E s:=by
 obtain ⟨D,h1,h2⟩:=I.mod.blt;exact Ey I.ok.kind z (Calls.loadGlobal_builtin (by rw [I.ok.glob];exact I.mod.glob.keeps I.bk) q (by rw [I.ok.blt];exact h1.keeps I.bk) ((h2 x n).trans j) h) B
def cg(n:Gl X x)(j:X.mg x=some u)(r:RelV v u)(q:(x==("__debug__":Str))=false:=by decide):PE X (.Name x pos) (tC v):=
 λ_ _ _ H _ I h=>oh I n j ⟨v,H,I,r,h⟩ q
variable {a b:eM} {ta tb:TE} {pos:Pos}
def PC(X:Cx)(q:CmpOp)(a b:eM)(t:TE):Prop:=
 ∀(pins:List (af×Obj)) (s:aK) (σ:St) (H:Hp) (Q:VK),Inv X pins σ H s->t σ H Q->
  bj (bP X.prog X.w) X.A (eval a X.env) (λv n=>bj (bP X.prog X.w) X.A (eval b X.env) (λu j=>bj (bP X.prog X.w) X.A (iM q v u) (EP X pins σ Q) X.xe j) X.xe n) X.xe s
def tB(t:TE):TT:=λσ H Q=>t σ H λx H1=>∃c,x= .bl c/\Q c H1
def Oq(h:PC X j a b t)(h1:uU j b=false:=by first | exact nobehind _ (by decide) (by decide) | rfl):PE X (.Compare a [j] [b] pos) t:=λpins s σ H Q I n=>UZ (h pins s σ H Q I n) h1
def re(h:PE X e t)(B:∀whole,RI e X.env whole=(do let v <-whole;AM e.pos;S3 [v] (truthy v)):=by intro _;rfl):PT X e (tB t):=by
 intro pins s σ H Q I z;refine isTrue_plain (gL (h pins s σ H _ I z) λv G ⟨x,H1,D,j,n⟩=> ?_) (B _);obtain ⟨d,rfl,q⟩:=n;cases j;exact iX ⟨H1,D,q⟩
variable {tA tB':TT} {rest:List eM}
def SX(t u:TT):TT:=λσ H Q=>t σ H λc H1=>if c=true then u σ H1 Q else Q false H1
def Vh(t u:TT):TT:=λσ H Q=>t σ H λc H1=>if c=true then Q true H1 else u σ H1 Q
def SU(t:TT):TT:=λσ H Q=>t σ H λc H1=>Q (!c) H1
def Bi(j:PT X a tA):PW X (.BoolOp .And [a] pos) tA:=by
 intro n pins s σ H Q I h;refine isTrue_and (gL (j pins s σ H Q I h) λc q e=> ?_);cases c with
 | true=>exact isTrue_and_nil e
 | false=>exact e
def D0(j:PT X a tA):PW X (.BoolOp .Or [a] pos) tA:=by
 intro n pins s σ H Q I h;refine isTrue_or (gL (j pins s σ H Q I h) λc q e=> ?_);cases c with
 | false=>exact isTrue_or_nil e
 | true=>exact e
def Hq(D:PT X a tA)(B:PW X (.BoolOp .And (b::rest) pos) tB'):PW X (.BoolOp .And (a::b::rest) pos) (SX tA tB'):=by
 intro q pins s σ H Q I h;refine isTrue_and (gL (D pins s σ H _ I h) λc z ⟨H1,n,j⟩=> ?_);cases c with
 | true=>exact B q pins z σ H1 Q n j
 | false=>exact ⟨H1,n,j⟩
def Je(D:PT X a tA)(B:PW X (.BoolOp .Or (b::rest) pos) tB'):PW X (.BoolOp .Or (a::b::rest) pos) (Vh tA tB'):=by
 intro q pins s σ H Q I h;refine isTrue_or (gL (D pins s σ H _ I h) λc z ⟨H1,n,j⟩=> ?_);cases c with
 | true=>exact ⟨H1,n,j⟩
 | false=>exact B q pins z σ H1 Q n j
def Dd(j:PT X a tA):PT X (.UnaryOp .Not a pos) (SU tA):=by
 intro pins s σ H Q I h;exact isTrue_not (j pins s σ H (λc H1=>Q (!c) H1) I h)
def SS(ta tb:TE):TE:=λσ H Q=>ta σ H λx H1=>∃c,x= .bl c/\if c=true then Q (.bl true) H1 else tb σ H1 Q
def On{j}(h:PE X a t):PE X (.BoolOp j [a] pos) t:=λpins s σ H Q I n=>BoolOp_one (h pins s σ H Q I n)
def QD(D:PE X a ta)(B:PE X (.BoolOp .Or (b::rest) pos) tb):PE X (.BoolOp .Or (a::b::rest) pos) (SS ta tb):=by
 intro pins s σ H Q I h;refine BoolOp_or (gL (D pins s σ H _ I h) λv q ⟨x,H1,n,z,j⟩=> ?_);obtain ⟨c,rfl,j⟩:=j;cases z;refine iX ?_;cases c with
 | false=>exact B pins q σ H1 Q n j
 | true=>exact ⟨.bl true,H1,n,rfl,j⟩
def Vj(t:TT)(ta tb:TE):TE:=λσ H Q=>t σ H λc H1=>if c=true then ta σ H1 Q else tb σ H1 Q
def Jk(z:PT X c tA)(D:PE X a ta)(B:PE X b tb):PE X (.IfExp c a b pos) (Vj tA ta tb):=by
 intro pins s σ H Q I h;refine wpAny_IfExp (gL (z pins s σ H _ I h) λd j ⟨H1,q,n⟩=> ?_);cases d with
 | true=>exact D pins j σ H1 Q q n
 | false=>exact B pins j σ H1 Q q n
end
def SqL(K:ac)(H:Hp)(a:af)(xs:List V):Prop:=
 Rd H a (.lst xs)\/
  ∃(o:Obj) (its:Array al) (n:Nat),K.lookup a=some o/\o.cls= .type "list"/\o.dict=none/\o.data= .seq its n/\its.size<=a_/\Vals xs its.toList
def SqT(K:ac)(H:Hp)(a:af)(xs:List V):Prop:=
 Rd H a (.tup xs)\/
  ∃(o:Obj) (its:Array al) (n:Nat),K.lookup a=some o/\o.cls= .type "tuple"/\o.data= .seq its n/\its.size<=a_/\Vals xs its.toList
def DQ:al->Option V
 | .none=>some .non
 | .bool b=>some (.bl b)
 | .int i _=>some (.int i)
 | .str x _=>some (.str x)
 | .bytes b _=>some (.byt b)
 | .float b _=>some (.flt b)
 | .ref a=>some (.ref a)
 | .type n=>some (.ty n)
 | _=>none
def RelV.abs(r:RelV x u):DQ u=some x:=by
 cases x with
 | non=>cases r;rfl
 | bl _=>cases r;rfl
 | int _=>obtain ⟨t,rfl⟩:=r;rfl
 | str _=>obtain ⟨t,rfl⟩:=r;rfl
 | byt _=>obtain ⟨t,rfl⟩:=r;rfl
 | flt _=>obtain ⟨t,rfl⟩:=r;rfl
 | ref _=>cases r;rfl
 | ty _=>cases r;rfl
theorem RelV.inj(r:RelV x u)(q:RelV y u):x=y:=bw (r.abs.symm.trans q.abs)
theorem Vals.inj:∀{xs ys:List V} {us:List al},Vals xs us->Vals ys us->xs=ys
 | _,_,_,.nil,.nil=>rfl
 | _,_,_,.cons r t,.cons n j=>by rw [r.inj n,Vals.inj t j]
section
variable {X:Cx} {pins:List (af×Obj)} {σ:St} {H:Hp} {s:aK} {a:af} {xs ys:List V}
def SqL.of{K}(h:H a=some (.lst xs)):SqL K H a xs:= .inl (.inl h)
def SqT.of{K}(h:H a=some (.tup xs)):SqT K H a xs:= .inl (.inl h)
def Inv.list(I:Inv X pins σ H s)(h:SqL X.K H a xs):∃its:List al,Vals xs its/\PlainL s.heap a its.toArray/\xs.length<=a_:=by
 rcases h with h | ⟨o,its,n,q,D,B,j,G,r⟩
 ·obtain ⟨z,its,n,r,e⟩:=h.ok I.hok;exact ⟨its,r,⟨_,n,e,rfl,rfl,rfl⟩,z⟩
 ·refine ⟨its.toList,r,⟨o,n,I.kIn a o q,D,B,by simpa using j⟩,?_⟩;have e:=r.length;simp only [pH] at e;omega
def Inv.tuple(I:Inv X pins σ H s)(h:SqT X.K H a xs):∃its:List al,Vals xs its/\V8 s.heap a its.toArray/\xs.length<=a_:=by
 rcases h with h | ⟨o,its,n,q,B,j,D,r⟩
 ·obtain ⟨z,its,r,p⟩:=h.ok I.hok;exact ⟨its,r,p,z⟩
 ·refine ⟨its.toList,r,⟨o,I.kIn a o q,B,n,by simpa using j⟩,?_⟩;have e:=r.length;simp only [pH] at e;omega
def Inv.list_inj(I:Inv X pins σ H s)(h:SqL X.K H a xs)(h':SqL X.K H a ys):xs=ys:=by
 obtain ⟨its,r,⟨o,n,e,_,_,d⟩,_⟩:=I.list h;obtain ⟨j,B,⟨o',G,q,_,_,z⟩,_⟩:=I.list h';rw [e] at q;cases q;rw [d] at z;injection z with D _;have:its=j:=by simpa using congrArg JO D
 subst this;exact r.inj B
def Inv.tuple_inj(I:Inv X pins σ H s)(h:SqT X.K H a xs)(h':SqT X.K H a ys):xs=ys:=by
 obtain ⟨its,r,⟨o,e,_,n,d⟩,_⟩:=I.tuple h;obtain ⟨j,B,⟨o',q,_,G,z⟩,_⟩:=I.tuple h';rw [e] at q;cases q;rw [d] at z;injection z with D _;have:its=j:=by simpa using congrArg JO D
 subst this;exact r.inj B
end
section
variable {X:Cx} {st:dm} {rest:List dm} {t u:TS} {e:eM} {te:TE} {pos:Pos}
def O3:TS:=λD σ H=>D.nx σ H
def MN(t u:TS):TS:=λD σ H=>t {D with nx:=u D} σ H
def cB:HR X [] O3:=λ_ _ σ H _ I h=>mZ ⟨σ,H,I,h⟩
def ay(h1:PS X st t)(h2:HR X rest u):HR X (st::rest) (MN t u):=by
 intro pins s σ H D I h;refine Tj (gL (h1 pins s σ H {D with nx:=u D} I h) λf n q=> ?_);cases f with
 | next=>
  obtain ⟨j,H',z,q⟩:=q;exact h2 pins n j H' D z q
 | ret v=>exact q
 | brk=>exact q
 | cont=>exact q
def az(h1:PS X st t):HR X [st] t:=by
 intro pins s σ H D I h;refine Tj (gL (h1 pins s σ H D I h) λf j q=> ?_);cases f with
 | next=>exact mZ q
 | ret v=>exact q
 | brk=>exact q
 | cont=>exact q
def Inv.quiet{σ:St}(I:Inv X pins σ H s):W9 X.env=false:=by simp [W9,I.ok.kind]
def Ja(te:TE):TS:=λD σ H=>te σ H λ_ H1=>D.nx σ H1
def iF(q:PE X e te)(n:se e none pos.line X.env=pure false:=by rfl):PS X (.Expr e pos) (Ja te):=by
 intro pins s σ H D I h;exact wpAny_Expr_any (gL (q pins s σ H _ I h) λv B ⟨x,H1,z,G,j⟩=>⟨σ,H1,z,j⟩) I.quiet n
def Kk(te:TE):TS:=λD σ H=>te σ H D.rt
def bn(q:PE X e te):PS X (.Return (some e) pos) (Kk te):=by
 intro pins s σ H D I h;exact wpAny_Return_some (gL (q pins s σ H _ I h) λv B ⟨x,H1,z,j,n⟩=>⟨x,σ,H1,z,j,n⟩)
def Rr(c:TT)(t u:TS):TS:=λD σ H=>c σ H λb H1=>if b=true then t D σ H1 else u D σ H1
def ee(z:PT X c tc)(G:HR X a t)(B:HR X b u):PS X (.If c a b pos) (Rr tc t u):=by
 intro pins s σ H D I h;refine wpAny_If (gL (z pins s σ H _ I h) λd j ⟨H1,q,n⟩=> ?_);cases d with
 | true=>exact G pins j σ H1 D q n
 | false=>exact B pins j σ H1 D q n
end
abbrev TG:=V->St->Hp->(St->Hp->Prop)->Prop
abbrev RO:=List V->St->Hp->(St->Hp->Prop)->Prop
def PG(X:Cx)(j:eM)(t:TG):Prop:=
 ∀(pins:List (af×Obj)) (s:aK) (σ:St) (H:Hp) (v:V) (u:al) (Q:St->Hp->Prop),Inv X pins σ H s->RelV v u->t v σ H Q->
  bj (bP X.prog X.w) X.A (KN j X.env u) (λ_ s'=>∃n H',Inv X pins n H' s'/\Q n H') X.xe s
def Tc(X:Cx)(z:List eM)(t:RO):Prop:=
 ∀(pins:List (af×Obj)) (s:aK) (σ:St) (H:Hp) (n:List V) (q:List al) (Q:St->Hp->Prop),Inv X pins σ H s->Vals n q->t n σ H Q->
  bj (bP X.prog X.w) X.A (assignInOrder ((E3 z X.env).map (·.2)) q) (λ_ s'=>∃j H',Inv X pins j H' s'/\Q j H') X.xe s
section
variable {X:Cx} {pos:Pos}
def wB(i:Nat):TG:=λv σ H Q=>Q (σ.set i (some v)) H
def fg(q:X.N.Nodup)(hi:X.N[i]? =some x)(j:Loc X.env.scope x)(n:X.fn x=true\/X.env.scope.names.lookup x=some .local:=by first | exact .inl rfl | exact .inr rfl | assumption):PG X (.Name x pos) (wB i):=by
 intro pins s σ H v u Q I r h;exact Ep (yt I q hi j r (λs' z=>⟨_,H,z,h⟩) n)
def Rw:RO:=λj σ H Q=>j=[]/\Q σ H
def Mj(t:TG)(u:RO):RO:=λn σ H Q=>∃v r,n=v::r/\t v σ H λj H'=>u r j H' Q
def Bj:Tc X [] Rw:=by
 intro pins s σ H j n Q I r h;obtain ⟨e,h⟩:=h;subst e;cases r;exact assignInOrder_nil ⟨σ,H,I,h⟩
def pZ(h1:PG X e t)(h2:Tc X es u)(B:(E3 (e::es) X.env).map (·.2)=KN e X.env::(E3 es X.env).map (·.2):=by rfl):Tc X (e::es) (Mj t u):=by
 intro pins s σ H J M Q I r h;obtain ⟨v,L,D,h⟩:=h;subst D;cases r with
 | cons r q=>
  rw [B];refine assignInOrder_cons (gL (h1 pins s σ H _ _ _ I r h) λ_ n ⟨j,H1,G,z⟩=> ?_);exact h2 pins n j H1 _ _ Q G q z
def Rv(K:ac)(n:Nat)(t:RO):TG:=λv σ H Q=>∃a xs,v= .ref a/\SqT K H a xs/\xs.length=n/\t xs σ H Q
def Hr(M:X.calm=true)(h:Tc X es t)(J:(E3 es X.env).length=n:=by rfl)(q:(E3 es X.env).findIdx? (·.1)=none:=by rfl):PG X (.Tuple es k pos) (Rv X.K n t):=by
 intro pins s σ H v u Q I r j;obtain ⟨a,xs,N,G,L,j⟩:=j;subst N;cases r;obtain ⟨its,z,D,U⟩:=I.tuple G;refine assign_Tuple_tuple (I.ok.hd M) D (by simp [J,<-L,z.length]) q λh' B=> ?_;have O:Inv X pins σ H {s with heap:=h'}:=I.kept (t':=s.toks) λb o e=>B b o (cu (aZ e)) e;exact h pins _ σ H xs _ Q O (by simpa using z) j
def Ob(te:TE)(g:TG):TS:=λD σ H=>te σ H λx H1=>g x σ H1 D.nx
def cj(J:X.N.Nodup)(hi:X.N[i]? =some x)(q:Loc X.env.scope x)(G:PE X e te)(z:se e (some (.Name x pos')) pos.line X.env=pure false:=by rfl)(B:X.fn x=true\/X.env.scope.names.lookup x=some .local:=by first | exact .inl rfl | exact .inr rfl | assumption):
  PS X (.Assign [.Name x pos'] e pos) (Ob te (wB i)):=by
 intro pins s σ H D I h;refine wpAny_Assign_Name (gL (G pins s σ H _ I h) λv O ⟨y,H1,M,j,n⟩=> ?_) z;exact yt M J hi q j (λN L=>⟨_,H1,L,n⟩) B
end
section
variable {X:Cx} {pos:Pos}
def O1(c:TT)(tb:TS):TS:=λD σ H=>∃W:Nat->St->Hp->Prop,(∃m,W m σ H)/\∀m σ H,W m σ H->
 c σ H λb H1=>if b=true then ∃N:St->Hp->Prop,(∀j H',N j H'->∃n,n<m/\W n j H')/\tb {D with nx:=N,ct:=N,bk:=D.nx} σ H1 else D.nx σ H1
def Dg(hp:Tw (bP X.prog X.w) X.A X.env X.xe)(hc:PT X c tc)(hb:HR X J tb):PS X (.While c J [] pos) (O1 tc tb):=by
 intro pins s σ H D I h;obtain ⟨W,⟨m0,w0⟩,G⟩:=h;refine wpAny_While (codeAny_whileLoop (λn s'=>∃B H',Inv X pins B H' s'/\W n B H') ?_ m0 ⟨σ,H,I,w0⟩);rintro n s1 ⟨q,H1,I1,w1⟩;refine kn hp (gL (hc pins s1 q H1 _ I1 (G n q H1 w1)) λb s2 ⟨H2,I2,M⟩=> ?_);cases b with
 | true=>
  obtain ⟨N,hN,M⟩:=M;rw [if_pos rfl];refine kn hp (gL (hb pins s2 q H2 _ I2 M) λf s3 L=> ?_);cases f with
  | next=>
   obtain ⟨j,z,I3,U⟩:=L;obtain ⟨Y,hm,O⟩:=hN j z U;exact ⟨Y,hm,j,z,I3,O⟩
  | cont=>
   obtain ⟨j,z,I3,U⟩:=L;obtain ⟨Y,hm,O⟩:=hN j z U;exact ⟨Y,hm,j,z,I3,O⟩
  | brk=>exact L
  | ret v=>exact L
 | false=>
  rw [if_neg aN];exact mZ ⟨q,H2,I2,M⟩
end
structure It where
 go:Nat→Hp→Prop
 yld:Nat→Hp→V→Hp→Prop
 stop:Nat→Hp→Prop
def qr(X:Cx)(pins:List (af×Obj))(H:Hp)(b:af):Prop:=
 H b=none/\b≠X.env.locals/\b∉X.fs/\(b∈X.ex\/X.s_0.heap.objs.size<=b)/\(∀x c,X.env.cells.lookup x=some c->c≠b)/\∀p∈X.pn++pins,p.1≠b
def Inv.fpOk{σ:St}{b:af}(I:Inv X pins σ H s)(j:s.heap.objs.size<=b)(B:H' b=none):qr X pins H' b:=by
 refine ⟨B,nJ (bZ I.lt j),I.nofs j,.inr (cD I.sz j),λx c e z=> ?_,λp n z=> ?_⟩
 ·obtain ⟨v,q⟩:=I.cell x c e;exact absurd (bZ q.lt (by rw [z];exact j)) (eW _)
 ·exact absurd (bZ (aZ (I.pin p n).1) (by rw [z];exact j)) (eW _)
structure Turn (P:be) (w:bN) (K:ac) (tg:eM) (J:It) (fp:List af) (it:af) (tn:Nat→cz→Prop):Prop where
 mem:it∈fp
 obj:∀i h,tn i h→∀b∈fp,∃o,h.get? b=some o∧∀v,o.data≠.cell v
 keep:∀i h h',tn i h→(∀b∈fp,∀o,h.get? b=some o→h'.get? b=some o)→tn i h'
 item:∀(X:Cx),X.prog=P→X.w=w→X.K=K→X.calm=true→∀(i:Nat) (pins:List (af×Obj)) (s:aK) (σ:St) (H:Hp) (E:al→aK→Prop),Inv X pins σ H s→(∀b∈fp,qr X pins H b)→tn i s.heap→J.go i H→
  bj (bP P w) X.A (uT (.ref it)) (fun r s1=>∃u,r=some u∧
   bj (bP P w) X.A (xo tg (.ref it) u) (fun _ s2=>∃x H',Inv X pins σ H' s2∧RelV x u∧J.yld i H x H'∧tn (i+1) s2.heap∧∀b∈fp,H' b=none) E s1) E s
 done:∀(X:Cx),X.prog=P→X.w=w→X.K=K→X.calm=true→∀(i:Nat) (pins:List (af×Obj)) (s:aK) (σ:St) (H:Hp) (E:al→aK→Prop),Inv X pins σ H s→(∀b∈fp,qr X pins H b)→tn i s.heap→J.stop i H→
  bj (bP P w) X.A (uT (.ref it)) (fun r s1=>r=none∧Inv X pins σ H s1) E s
 self:∀(A:gt) (i:Nat) (s:aK) (Q:al→aK→Prop) (E:al→aK→Prop),tn i s.heap→Q (.ref it) s→bj (bP P w) A (pyIter (.ref it)) Q E s
abbrev TI:=St->Hp->(It->Hp->Prop)->Prop
def T_(X:Cx)(pins:List (af×Obj))(σ:St)(tg:eM)(R:It->Hp->Prop)(j:al)(q:aK):Prop:=
 ∃(it:af) (z:List af) (n:Nat->cz->Prop) (J:It) (H':Hp),j= .ref it/\Inv X pins σ H' q/\Turn X.prog X.w X.K tg J z it n/\n 0 q.heap/\(∀b∈z,qr X pins H' b)/\R J H'
def PI(X:Cx)(tg iter:eM)(j:TI):Prop:=
 ∀(pins:List (af×Obj)) (s:aK) (σ:St) (H:Hp) (R:It->Hp->Prop),Inv X pins σ H s->j σ H R->
  bj (bP X.prog X.w) X.A (eval iter X.env) (λv n=>bj (bP X.prog X.w) X.A (pyIter v) (T_ X pins σ tg R) X.xe n) X.xe s
def Jv(q : s.heap.get? it = some o)(D : o.cls = .type n)(B : o.data = .fields vs)(z : ["enumerate", "zip", "dict_itemiterator", "dict_reverseitemiterator", "odict_iterator", "itertools.zip_longest", "itertools.pairwise"].contains n = false)(j : Q () s): bj M A (xo tg (.ref it) u) Q E s := by
  unfold xo;cases tg <;> first
    | exact bh j
    | (cases u <;> first
        | exact bh j
        | (refine ak (wpAny_load q ?_)
           rw [D, B];show bj M A (if (["enumerate", "zip", "dict_itemiterator", "dict_reverseitemiterator", "odict_iterator", "itertools.zip_longest", "itertools.pairwise"].contains n && vs[0]? == some (dL _)) = true then _ else _) Q E s;rw [if_neg (by intro h; rw [z, Bool.false_and] at h; cases h)];exact bh j))
def PB(K:ac)(a:af):It:=
 ⟨λi H=>∃xs x,SqL K H a xs/\xs[i]? =some x,λi H x H'=>H'=H/\∀xs,SqL K H a xs->xs[i]? =some x,λi H=>∃xs,SqL K H a xs/\xs.length<=i⟩
def RQ(K:ac)(a:af):It:=
 ⟨λi H=>∃xs x,SqT K H a xs/\xs[i]? =some x,λi H x H'=>H'=H/\∀xs,SqT K H a xs->xs[i]? =some x,λi H=>∃xs,SqT K H a xs/\xs.length<=i⟩
def RB(lo:Int)(n:Nat):It:=⟨λi _=>i<n,λi H x H'=>H'=H/\x= .int (lo+i),λi _=>n<=i⟩
def Fv {P:be} {w:bN} {K:ac} {tg:eM} (a it:af):Turn P w K tg (PB K a) [it] it (λi h=>h.IsListIter it a i) where
 mem:=by simp
 obj:=λi h st b j=>by
  have e:b=it:=by simpa using j
  subst e;obtain ⟨o,e,c,d⟩:=st;exact ⟨o,e,λv z=>by rw [d] at z;cases z⟩
 keep:=λi h h' st k=>st.at λo e=>k it (by simp) o e
 item:=by
  intro X M J N hc i pins s σ H E I B st L;subst M J N;obtain ⟨xs,x,q,G⟩:=L;obtain ⟨its,D,p,hz⟩:=I.list q;obtain ⟨u,hu,ru⟩:=D.get G;obtain ⟨f0,f1,f2,Y,U,O⟩:=B it (by simp);refine wpAny_pyNext_list_item st p.isList (x:=u) (by simpa using hu) λh' n sb=> ?_;have I1:Inv X pins σ H {s with heap:=h'}:=I.turned (t':=s.toks) (λb o j e=>(sb.2 b j).trans e) f0 f1 Y U O;obtain ⟨o,e,c,d⟩:=id n;exact ⟨u,rfl,Jv (s:={s with heap:=h'}) e c d (by decide) ⟨x,H,I1,ru,⟨rfl,λys hy=>by rw [I.list_inj hy q];exact G⟩,n,λb j=>(B b j).1⟩⟩
 done:=by
  intro X M J N hc i pins s σ H E I B st L;subst M J N;obtain ⟨xs,q,G⟩:=L;obtain ⟨its,D,p,hz⟩:=I.list q;obtain ⟨f0,f1,f2,Y,U,O⟩:=B it (by simp);have hl:=D.length;exact wpAny_pyNext_list_end (I.ok.hd hc) st p.isList (by simp;omega) λh' eb=>⟨rfl,I.turned (t':=s.toks) (λb o j e=>eb b o j e) f0 f1 Y U O⟩
 self:=λ_ _ _ _ _ st h=>wpAny_pyIter_listiter st h
def CS {P:be} {w:bN} {K:ac} {tg:eM} (a it:af):Turn P w K tg (RQ K a) [it] it (λi h=>h.IsTupleIter it a i) where
 mem:=by simp
 obj:=λi h st b j=>by
  have e:b=it:=by simpa using j
  subst e;obtain ⟨o,e,c,d⟩:=st;exact ⟨o,e,λv z=>by rw [d] at z;cases z⟩
 keep:=λi h h' st k=>st.at λo e=>k it (by simp) o e
 item:=by
  intro X M J N hc i pins s σ H E I B st L;subst M J N;obtain ⟨xs,x,q,G⟩:=L;obtain ⟨its,D,p,hz⟩:=I.tuple q;obtain ⟨u,hu,ru⟩:=D.get G;obtain ⟨f0,f1,f2,Y,U,O⟩:=B it (by simp);refine wpAny_pyNext_tuple_item st (show s.heap.IsTuple a its.toArray from p) (x:=u) (by simpa using hu) λh' n sb=> ?_;have I1:Inv X pins σ H {s with heap:=h'}:=I.turned (t':=s.toks) (λb o j e=>(sb.2 b j).trans e) f0 f1 Y U O;obtain ⟨o,e,c,d⟩:=id n;exact ⟨u,rfl,Jv (s:={s with heap:=h'}) e c d (by decide) ⟨x,H,I1,ru,⟨rfl,λys hy=>by rw [I.tuple_inj hy q];exact G⟩,n,λb j=>(B b j).1⟩⟩
 done:=by
  intro X M J N hc i pins s σ H E I B st L;subst M J N;obtain ⟨xs,q,G⟩:=L;obtain ⟨its,D,p,hz⟩:=I.tuple q;obtain ⟨f0,f1,f2,Y,U,O⟩:=B it (by simp);have hl:=D.length;exact wpAny_pyNext_tuple_end (I.ok.hd hc) st (show s.heap.IsTuple a its.toArray from p) (by simp;omega) λh' eb=>⟨rfl,I.turned (t':=s.toks) (λb o j e=>eb b o j e) f0 f1 Y U O⟩
 self:=λ_ _ _ _ _ st h=>wpAny_pyIter_tupleiter st h
def CV {P:be} {w:bN} {K:ac} {tg:eM} (it:af) (lo:Int) (n:Nat):Turn P w K tg (RB lo n) [it] it (λi h=>Wh h it (lo+(i:Nat)*1) ((n:Int) - (i:Nat)) 1) where
 mem:=by simp
 obj:=λi h st b j=>by
  have e:b=it:=by simpa using j
  subst e;exact ⟨_,st,λv z=>by
   have z':Data.fields _=Data.cell v:=z;cases z'⟩
 keep:=λi h h' st k=>k it (by simp) _ st
 item:=by
  intro X L D M J i pins s σ H E I B st G;subst L D M;obtain ⟨f0,Y,f2,U,O,N⟩:=B it (by simp);have W:=Walks.range (prog:=X.prog) (w:=X.w) (I.ok.hd J) it lo 1 n;refine W.item i s _ _ G st λv h' tk hv q kk=> ?_;obtain ⟨t,rfl⟩:=hv;have I1:Inv X pins σ H {s with heap:=h',toks:=tk}:=I.turned (λb o j e=>kk b o (by simpa using j) e) f0 Y U O N;refine ⟨_,rfl,Jv (s:={s with heap:=h',toks:=tk}) (n:="range_iterator") q rfl rfl (by decide) ⟨.int (lo+i),H,I1,⟨t,?_⟩,⟨rfl,rfl⟩,q,λb j=>(B b j).1⟩⟩;rw [Int.mul_one]
 done:=by
  intro X L D M J i pins s σ H E I B st G;subst L D M;obtain ⟨f0,Y,f2,U,O,N⟩:=B it (by simp);exact wpAny_pyNext_range_end (I.ok.hd J) st (by have:n<=i:=G;omega) λh' eb=>⟨rfl,I.turned (t':=s.toks) (λb o j e=>eb b o j e) f0 Y U O N⟩
 self:=λ_ _ _ _ _ st h=>wpAny_pyIter_rangeiter st h
section
variable {X:Cx} {tg:eM}
def QG(K:ac)(tl:TE):TI:=λσ H R=>tl σ H λx H1=>∃a,x= .ref a/\(∃xs,SqL K H1 a xs)/\R (PB K a) H1
def T8(K:ac)(tl:TE):TI:=λσ H R=>tl σ H λx H1=>∃a,x= .ref a/\(∃xs,SqT K H1 a xs)/\R (RQ K a) H1
def ik(G:PE X l tl):PI X tg l (QG X.K tl):=by
 intro pins s σ H R I h;refine gL (G pins s σ H _ I h) λv j ⟨x,H1,n,z,B⟩=> ?_;obtain ⟨a,e,⟨xs,D⟩,q⟩:=B;subst e;cases z;obtain ⟨its,L,p,M⟩:=n.list D;refine RV p.isList ?_;refine ⟨j.heap.objs.size,[j.heap.objs.size],_,_,H1,rfl,n.kept (t':=j.toks) λb o e=>aq _ e,Fv a _,⟨_,bG _ rfl,rfl,rfl⟩,λb J=> ?_,q⟩;have e:b=j.heap.objs.size:=by simpa using J
 subst e;exact n.fpOk (aO _) (n.hok.fresh (aO _))
def Kp(G:PE X l tl):PI X tg l (T8 X.K tl):=by
 intro pins s σ H R I h;refine gL (G pins s σ H _ I h) λv j ⟨x,H1,n,z,B⟩=> ?_;obtain ⟨a,e,⟨xs,D⟩,q⟩:=B;subst e;cases z;obtain ⟨its,L,p,M⟩:=n.tuple D;refine wpAny_pyIter_tuple (show j.heap.IsTuple a its.toArray from p) ?_;refine ⟨j.heap.objs.size,[j.heap.objs.size],_,_,H1,rfl,n.kept (t':=j.toks) λb o e=>aq _ e,CS a _,⟨_,bG _ rfl,rfl,rfl⟩,λb J=> ?_,q⟩;have e:b=j.heap.objs.size:=by simpa using J
 subst e;exact n.fpOk (aO _) (n.hok.fresh (aO _))
def Jd{σ:St}{lo hi}(I:Inv X pins σ H s)(h1: -(2^62)<=lo)(h2:lo<2^62)(B: -(2^62)<=hi)(z:hi<2^62)(q:R (RB lo (hi - lo).toNat) H):bj (bP X.prog X.w) X.A (pyIter (.ref s.heap.objs.size)) (T_ X pins σ tg R) E {s with heap:=s.heap.push {cls:= .type "range",data:= .fields #[.int lo t,.int hi u,.int 1 v]},toks:=tk}:=by
 refine wpAny_pyIter_range (IsRange.new ..) (small_one h1 h2 B z) ?_;have j:Inv X pins σ H {s with heap:=s.heap.push {cls:= .type "range",data:= .fields #[.int lo t,.int hi u,.int 1 v]},toks:=tk}:=I.kept λb o e=>aq _ e;refine ⟨(s.heap.push {cls:= .type "range",data:= .fields #[.int lo t,.int hi u,.int 1 v]}).objs.size,[(s.heap.push {cls:= .type "range",data:= .fields #[.int lo t,.int hi u,.int 1 v]}).objs.size],_,_,H,rfl,
  j.kept (t':=tk) λb o e=>aq _ e,CV _ lo (hi - lo).toNat,?_,λb n=> ?_,q⟩
 ·have G:lo+((0:Nat):Int)*1=lo:=by simp
  have D:(((hi - lo).toNat:Nat):Int) - ((0:Nat):Int)=TM lo hi 1:=by rw [rangeSize_one];split<;>omega
  show Wh _ _ (lo+((0:Nat):Int)*1) ((((hi - lo).toNat:Nat):Int) - ((0:Nat):Int)) 1;rw [G,D];exact bG _ rfl
 ·have e:b=(s.heap.push {cls:= .type "range",data:= .fields #[.int lo t,.int hi u,.int 1 v]}).objs.size:=by simpa using n
  subst e;exact j.fpOk (aO _) (j.hok.fresh (aO _))
def QF(ta:TA):TI:=λσ H R=>ta σ H λn H1=>∃j:Int,n=[.int j]/\-(2^62)<=j/\j<2^62/\R (RB 0 j.toNat) H1
def zN(L:Gl X "range")(J:X.mg "range"=none)(M:PA X [a] ta)(G:bx [a] X.env=[(false,eval a X.env)]:=by rfl):PI X tg (.Call (.Name "range" p) [a] [] pos) (QF ta):=by
 intro pins s σ H R I h;refine Call_ (rh I L J boot_range (fQ (gL (M pos pins s σ H _ I h) λU Y ⟨O,H1,N,B,n⟩=> ?_) G rfl));obtain ⟨j,e,n,D,q⟩:=n;subst e;cases B with
 | cons r z=>
  cases z;obtain ⟨t,rfl⟩:=r;exact call_range_1 (Jd N (by omega) (by omega) n D (by simpa using q))
def SW(z:TI)(g:TG)(tb:TS):TS:=λD σ H=>z σ H λJ H1=>∃W:Nat->Nat->St->Hp->Prop,(∃m,W 0 m σ H1)/\∀i m σ H,W i m σ H->
 (J.stop i H/\D.nx σ H)\/(J.go i H/\∃N:St->Hp->Prop,(∀j H',N j H'->∃q,q<m/\W (i+1) q j H')/\∀x H',J.yld i H x H'->g x σ H' λn H2=>tb {D with nx:=N,ct:=N,bk:=D.nx} n H2)
def uH(j:List af)(h:cz):List (af×Obj):=j.filterMap λb=>(h.get? b).map λo=>(b,o)
def nD(j:b∈n)(e:h.get? b=some o):(b,o)∈uH n h:=Nh.mpr ⟨b,j,by rw [e];rfl⟩
def FH(j:p∈uH z h):p.1∈z/\h.get? p.1=some p.2:=by
 obtain ⟨b,n,e⟩:=Nh.mp j;cases q:h.get? b with
 | none=>rw [q] at e;cases e
 | some o=>
  rw [q] at e;have B:(b,o)=p:=bw e;subst B;exact ⟨n,q⟩
def Inv.pinned{σ:St}(I:Inv X pins σ H s)(G:∀b∈n,qr X pins H b)(D:∀b∈n,∃o,s.heap.get? b=some o/\∀v,o.data≠.cell v):Inv X (pins++uH n s.heap) σ H s:=
 I.pins_of λp B=>(bV.mp B).elim (λz=>I.pin p (du _ z)) λz=>by
  obtain ⟨j,e⟩:=FH z;obtain ⟨M,L,J,_⟩:=G p.1 j;obtain ⟨o,q,d⟩:=D p.1 j;rw [e] at q;cases q;exact ⟨e,M,L,J,d⟩
def Inv.unpinned{σ:St}(I:Inv X (pins++pl) σ H s):Inv X pins σ H s:=I.pins_of λp j=>I.pin p (du _ (gh _ j))
def my(hp:Tw (bP X.prog X.w) X.A X.env X.xe)(hc:X.calm=true)(hi:PI X tg iter wi)(hg:PG X tg g)(q:HR X a3 tb)(hs:∀x,iY iter X.env x=pure x:=by intro _;rfl):PS X (.For tg iter a3 [] pos) (SW wi g tb):=by
 intro pins s σ H D I h;refine wpAny_For (gL (hi pins s σ H _ I h) λv s1 h1=>gL h1 λa8 s2 h2=> ?_) hs;obtain ⟨it,fp,tn,J,H2,e,I2,T,a5,f2,W,⟨m0,w0⟩,a2⟩:=h2;subst e;have M:∀{H':Hp},(∀b∈fp,H' b=none)->∀b∈fp,qr X pins H' b:=λhn b q=>⟨hn b q,(f2 b q).2⟩
 refine codeAny_forLoop_any (λn s'=>∃i L H',Inv X pins L H' s'/\tn i s'.heap/\(∀b∈fp,H' b=none)/\W i n L H') ?_ m0 ⟨0,σ,H2,I2,a5,λb q=>(f2 b q).1,w0⟩;rintro n s3 ⟨i,G,H3,I3,a0,a1,w3⟩;rcases a2 i n G H3 w3 with ⟨stop,qn⟩ | ⟨go,N,hN,step⟩
 ·refine kn hp (gL (T.done X rfl rfl rfl hc i pins s3 G H3 X.xe I3 (M a1) a0 stop) λr s4 ⟨hr,I4⟩=> ?_);subst hr;exact mZ ⟨G,H3,I4,qn⟩
 ·refine kn hp (gL (T.item X rfl rfl rfl hc i pins s3 G H3 X.xe I3 (M a1) a0 go) λr s4 ⟨u,hr,h4⟩=> ?_);subst hr;refine kn hp (gL h4 λ_ s5 ⟨x,H5,I5,r5,y5,U,a6⟩=> ?_);have a7:=I5.pinned (M a6) (T.obj _ _ U);refine kn hp (gL (hg _ s5 G H5 x u _ a7 r5 (step x H5 y5)) λ_ s6 ⟨a4,H6,I6,q6⟩=> ?_);refine kn hp (gL (q _ s6 a4 H6 _ I6 q6) λf s7 O=> ?_);have V4:∀{j:St} {B:Hp},Inv X (pins++uH fp s5.heap) j B s7->N j B->∃m,m<n/\∃i L H',Inv X pins L H' s7/\tn i s7.heap/\(∀b∈fp,H' b=none)/\W i m L H':=λ{j B} z Y=>by
   obtain ⟨m',hm,w7⟩:=hN j B Y;refine ⟨m',hm,i+1,j,B,z.unpinned,T.keep _ _ _ U λb q o e=>(z.pin (b,o) (du _ (du _ (nD q e)))).1,λb q=> ?_,w7⟩;obtain ⟨o,e,d⟩:=T.obj _ _ U b q;exact (z.pin (b,o) (du _ (du _ (nD q e)))).2.1
  cases f with
  | next=>obtain ⟨j,B,z,Y⟩:=O;exact V4 z Y
  | cont=>obtain ⟨j,B,z,Y⟩:=O;exact V4 z Y
  | brk=>obtain ⟨j,B,z,O⟩:=O;exact ⟨j,B,z.unpinned,O⟩
  | ret v=>obtain ⟨x7,j,B,z,r7,O⟩:=O;exact ⟨x7,j,B,z.unpinned,r7,O⟩
end
def kW{K}{g:TG}{tb:TS}{D:Ends}(Pv:Nat->St->Hp->Prop)(h0:Pv 0 σ H)(J:∀i σ H,i<=xs.length->Pv i σ H->SqL K H a xs)(I:∀i x σ H,xs[i]? =some x->Pv i σ H->g x σ H λj H2=>tb {D with nx:=Pv (i+1),ct:=Pv (i+1),bk:=D.nx} j H2)(L:∀σ H,Pv xs.length σ H->D.nx σ H):
  ∃W:Nat->Nat->St->Hp->Prop,(∃m,W 0 m σ H)/\∀i m σ H,W i m σ H->
   ((PB K a).stop i H/\D.nx σ H)\/((PB K a).go i H/\∃N:St->Hp->Prop,(∀n H',N n H'->∃B,B<m/\W (i+1) B n H')/\∀x H',(PB K a).yld i H x H'->g x σ H' λj H2=>tb {D with nx:=N,ct:=N,bk:=D.nx} j H2):=by
 refine ⟨λi m σ H=>m=xs.length - i/\i<=xs.length/\Pv i σ H,⟨xs.length,by simp,cy _,h0⟩,?_⟩;rintro i m σ H ⟨rfl,hi,p⟩;have q:=J i σ H hi p;by_cases z:i<xs.length
 ·refine .inr ⟨⟨xs,xs[i],q,by simp [z]⟩,Pv (i+1),λn H' G=>⟨xs.length - (i+1),by omega,rfl,z,G⟩,λx H' y=> ?_⟩;obtain ⟨e,y⟩:=y;subst e;exact I i x σ _ (y xs q) p
 ·have e:i=xs.length:=by omega
  subst e;exact .inl ⟨⟨xs,q,aO _⟩,L σ H p⟩
def HA{K}{g:TG}{tb:TS}{D:Ends}(Pv:Nat->St->Hp->Prop)(h0:Pv 0 σ H)(J:∀i σ H,i<=xs.length->Pv i σ H->SqT K H a xs)(I:∀i x σ H,xs[i]? =some x->Pv i σ H->g x σ H λj H2=>tb {D with nx:=Pv (i+1),ct:=Pv (i+1),bk:=D.nx} j H2)(L:∀σ H,Pv xs.length σ H->D.nx σ H):
  ∃W:Nat->Nat->St->Hp->Prop,(∃m,W 0 m σ H)/\∀i m σ H,W i m σ H->
   ((RQ K a).stop i H/\D.nx σ H)\/((RQ K a).go i H/\∃N:St->Hp->Prop,(∀n H',N n H'->∃B,B<m/\W (i+1) B n H')/\∀x H',(RQ K a).yld i H x H'->g x σ H' λj H2=>tb {D with nx:=N,ct:=N,bk:=D.nx} j H2):=by
 refine ⟨λi m σ H=>m=xs.length - i/\i<=xs.length/\Pv i σ H,⟨xs.length,by simp,cy _,h0⟩,?_⟩;rintro i m σ H ⟨rfl,hi,p⟩;have q:=J i σ H hi p;by_cases z:i<xs.length
 ·refine .inr ⟨⟨xs,xs[i],q,by simp [z]⟩,Pv (i+1),λn H' G=>⟨xs.length - (i+1),by omega,rfl,z,G⟩,λx H' y=> ?_⟩;obtain ⟨e,y⟩:=y;subst e;exact I i x σ _ (y xs q) p
 ·have e:i=xs.length:=by omega
  subst e;exact .inl ⟨⟨xs,q,aO _⟩,L σ H p⟩
abbrev R2:=V->V->Hp->VK->Prop
def yL(X:Cx)(f:al->al->Sem al)(r:R2):Prop:=
 ∀(pins:List (af×Obj)) (s:aK) (σ:St) (H:Hp) (x y:V) (v u:al) (Q:VK),Inv X pins σ H s->RelV x v->RelV y u->r x y H Q->
  bj (bP X.prog X.w) X.A (f v u) (EP X pins σ Q) X.xe s
def TZ(X:Cx)(f:al->Sem al)(r:V->Hp->VK->Prop):Prop:=
 ∀(pins:List (af×Obj)) (s:aK) (σ:St) (H:Hp) (x:V) (v:al) (Q:VK),Inv X pins σ H s->RelV x v->r x H Q->
  bj (bP X.prog X.w) X.A (f v) (EP X pins σ Q) X.xe s
def rY(X:Cx)(f:al)(r:List V->Hp->VK->Prop):Prop:=
 ∀(pins:List (af×Obj)) (s:aK) (σ:St) (H:Hp) (xs:List V) (j:List al) (Q:VK),Inv X pins σ H s->Vals xs j->r xs H Q->
  bj (bP X.prog X.w) X.A (DZ f j) (EP X pins σ Q) X.xe s
def Qv(r:R2)(ta tb:TE):TE:=λσ H Q=>ta σ H λx H1=>tb σ H1 λy H2=>r x y H2 Q
def Vg(r:V->Hp->VK->Prop)(ta:TE):TE:=λσ H Q=>ta σ H λx H1=>r x H1 Q
def rI(C:Int->Int->Prop)(g:Int->Int->V):R2:=λx y H Q=>∃i j,x= .int i/\y= .int j/\C i j/\Q (g i j) H
def Oi(g:Int->Int->V):R2:=λx y H Q=>∃i j,x= .int i/\y= .int j/\Q (g i j) H
def rU(g:Int->V):V->Hp->VK->Prop:=λx H Q=>∃i,x= .int i/\Q (g i) H
section
variable {X:Cx} {a b c:eM} {ta tb tc:TE} {pos:Pos}
def Px(N:PE X a ta)(M:PE X b tb){σ:St}{R:V->V->Hp->Prop}(I:Inv X pins σ H s)(h:ta σ H λx H1=>tb σ H1 λy H2=>R x y H2){f:al->al->Sem al}(L:∀v u q x y H2,Inv X pins σ H2 q->RelV x v->RelV y u->R x y H2->bj (bP X.prog X.w) X.A (f v u) Q X.xe q):
  bj (bP X.prog X.w) X.A (eval a X.env) (λv n=>bj (bP X.prog X.w) X.A (eval b X.env) (λu j=>bj (bP X.prog X.w) X.A (f v u) Q X.xe j) X.xe n) X.xe s:=by
 refine gL (N pins s σ H _ I h) λv z ⟨x,H1,U,D,J⟩=> ?_;refine gL (M pins z σ H1 _ U J) λu q ⟨y,H2,O,B,G⟩=> ?_;exact L v u q x y H2 O D B G
def d_(D:yL X (mO B) r)(J:PE X a ta)(G:PE X b tb):PE X (.BinOp a B b pos) (Qv r ta tb):=by
 intro pins s σ H Q I h;exact wpAny_BinOp (Px J G I h λv u j x y H2 L z n q=>D pins j σ H2 x y v u Q L z n q)
def Jh(B:TZ X (unaryOp z) r)(D:PE X a ta):PE X (.UnaryOp z a pos) (Vg r ta):=by
 intro pins s σ H Q I h;exact UnaryOp_ (gL (D pins s σ H _ I h) λv j ⟨x,H1,G,n,q⟩=>B pins j σ H1 x v Q G n q)
def T5{g:Int->Int->Int}(OM:∀(i j:Int) (t u:Tok) (s:aK) (Q:al->aK->Prop) (E:al->aK->Prop),C i j->Q (.int (g i j) s.toks) {s with toks:=s.toks+1}->bj (bP X.prog X.w) X.A (f (.int i t) (.int j u)) Q E s):
  yL X f (rI C λi j=> .int (g i j)):=by
 intro pins s σ H x y v u Q I B z h;obtain ⟨i,j,rfl,rfl,D,q⟩:=h;obtain ⟨t,rfl⟩:=B;obtain ⟨n,rfl⟩:=z;exact OM i j t n s _ _ D ⟨.int (g i j),H,I.tok _,⟨_,rfl⟩,q⟩
def Ps{g:Int->Int->Int}(OM:∀(i j:Int) (t u:Tok) (s:aK) (Q:al->aK->Prop) (E:al->aK->Prop),Q (.int (g i j) s.toks) {s with toks:=s.toks+1}->bj (bP X.prog X.w) X.A (f (.int i t) (.int j u)) Q E s):
  yL X f (Oi λi j=> .int (g i j)):=by
 intro pins s σ H x y v u Q I B z h;obtain ⟨i,j,rfl,rfl,q⟩:=h;obtain ⟨t,rfl⟩:=B;obtain ⟨n,rfl⟩:=z;exact OM i j t n s _ _ ⟨.int (g i j),H,I.tok _,⟨_,rfl⟩,q⟩
def Pu{g:Int->Int->Bool}(OM:∀(i j:Int) (t u:Tok) (s:aK) (Q:al->aK->Prop) (E:al->aK->Prop),Q (.bool (g i j)) s->bj (bP X.prog X.w) X.A (f (.int i t) (.int j u)) Q E s):
  yL X f (Oi λi j=> .bl (g i j)):=by
 intro pins s σ H x y v u Q I B z h;obtain ⟨i,j,rfl,rfl,q⟩:=h;obtain ⟨t,rfl⟩:=B;obtain ⟨n,rfl⟩:=z;exact OM i j t n s _ _ ⟨.bl (g i j),H,I,rfl,q⟩
def CMul(i j:Int):Prop:=(-(2^64)<i/\i<2^64)\/(-(2^64)<j/\j<2^64)
def CMul.ok(h:CMul i j):IntMulOk i j:=by
 rcases h with ⟨h1,h2⟩ | ⟨h1,h2⟩
 ·exact .of_left (Vt h1 h2)
 ·exact .of_right (Vt h1 h2)
def oM:yL X (mO .Add) (Oi λi j=> .int (i+j)):=Ps λ_ _ _ _ _ _ _ q=>add_int q
def p_:yL X (mO .Sub) (Oi λi j=> .int (i - j)):=Ps λ_ _ _ _ _ _ _ q=>sub_int q
def s_:yL X (mO .Mult) (rI CMul λi j=> .int (i*j)):=T5 λ_ _ _ _ _ _ _ n q=>mul_int q n.ok
def Kr:yL X (mO .Mod) (rI (λ_ j=>0<j) λi j=> .int (i % j)):=T5 λi j _ _ _ _ _ n q=>by
 have h1:(0:Int)<j:=n;exact mod_int' (by omega) (by rw [Int.fmod_eq_emod_of_nonneg i (by omega)];exact q)
def Mb:yL X (mO .Mod) (rI (λ_ j=>j≠0) λi j=> .int (i.fmod j)):=T5 λ_ _ _ _ _ _ _ n q=>mod_int' n q
def Ou:yL X (mO .BitAnd) (Oi λi j=> .int (OW i j)):=Ps λ_ _ _ _ _ _ _ q=>and_int q
def Vf{g:Int->Int}(OM:∀(i:Int) (t:Tok) (s:aK) (Q:al->aK->Prop) (E:al->aK->Prop),Q (.int (g i) s.toks) {s with toks:=s.toks+1}->bj (bP X.prog X.w) X.A (f (.int i t)) Q E s):
  TZ X f (rU λi=> .int (g i)):=by
 intro pins s σ H x v Q I j h;obtain ⟨i,rfl,q⟩:=h;obtain ⟨t,rfl⟩:=j;exact OM i t s _ _ ⟨.int (g i),H,I.tok _,⟨_,rfl⟩,q⟩
def CQ:TZ X (unaryOp .USub) (rU λi=> .int (-i)):=Vf λ_ _ _ _ _ q=>neg_int q
end
def Rt:V->V->Bool
 | .non,.non=>true | .non,.int _=>true | .int _,.non=>true | .non,.bl _=>true | .bl _,.non=>true | .non,.str _=>true | .str _,.non=>true
 | .int _,.int _=>true | .bl _,.bl _=>true | .str _,.str _=>true | .byt _,.byt _=>true
 | .int _,.str _=>true | .str _,.int _=>true | .bl _,.str _=>true | .str _,.bl _=>true
 | _,_=>false
def Vl:R2:=λx y H Q=>Rt x y=true/\Q (.bl (decide (x=y))) H
def UT:R2:=λx y H Q=>Rt x y=true/\Q (.bl (!decide (x=y))) H
def HC:decide (V.int i=V.int j)=(i==j):=by
 rw [u_];simp
def Kw:decide (V.bl i=V.bl j)=(i==j):=by
 rw [u_];simp
def HB:decide (V.str i=V.str j)=(i==j):=by
 rw [u_];simp
def HD:decide (V.byt i=V.byt j)=(i.toList==j.toList):=by
 rw [u_];cases i;cases j;simp
section
variable {X:Cx} {a b c:eM} {ta tb tc:TE} {pos:Pos}
def fU{σ:St}(I:Inv X pins σ H s)(q:Q (.bl k) H)(e:k=j):EP X pins σ Q (.bool j) s:=by
 subst e;exact ⟨.bl k,H,I,rfl,q⟩
def lM:yL X (iM .Eq) Vl:=by
 intro pins s σ H x y v u Q I D n h;obtain ⟨B,q⟩:=h;cases x with
 | non=>
  cases D;cases y with
  | non=>cases n;exact Uo (fU I q (by simp))
  | bl j=>cases n;exact Uq (fU I q (by simp))
  | int j=>obtain ⟨z,rfl⟩:=n;exact Up (fU I q (by simp))
  | str j=>obtain ⟨z,rfl⟩:=n;exact Um (fU I q (by simp))
  | _=>exact absurd (show false=true from B) aN
 | bl i=>
  cases D;cases y with
  | non=>cases n;exact Us (fU I q (by simp))
  | bl j=>cases n;exact eq_bool (fU I q Kw)
  | str j=>obtain ⟨z,rfl⟩:=n;exact TJ (fU I q (by simp))
  | _=>exact absurd (show false=true from B) aN
 | int i=>
  obtain ⟨t,rfl⟩:=D;cases y with
  | non=>cases n;exact Ur (fU I q (by simp))
  | int j=>obtain ⟨z,rfl⟩:=n;exact eq_int (fU I q HC)
  | str j=>obtain ⟨z,rfl⟩:=n;exact TH (fU I q (by simp))
  | _=>exact absurd (show false=true from B) aN
 | str i=>
  obtain ⟨t,rfl⟩:=D;cases y with
  | non=>cases n;exact Ul (fU I q (by simp))
  | bl j=>cases n;exact TF (fU I q (by simp))
  | int j=>obtain ⟨z,rfl⟩:=n;exact TD (fU I q (by simp))
  | str j=>obtain ⟨z,rfl⟩:=n;exact eq_str (fU I q HB)
  | _=>exact absurd (show false=true from B) aN
 | byt i=>
  obtain ⟨t,rfl⟩:=D;cases y with
  | byt j=>obtain ⟨z,rfl⟩:=n;exact PySem.W.eq_bytes (fU I q HD)
  | _=>exact absurd (show false=true from B) aN
 | _=>cases y<;>exact absurd (show false=true from B) aN
def yA:yL X (iM .NotEq) UT:=by
 intro pins s σ H x y v u Q I D n h;obtain ⟨B,q⟩:=h;cases x with
 | non=>
  cases D;cases y with
  | non=>cases n;exact Ug (fU I q (by simp))
  | bl j=>cases n;exact Ui (fU I q (by simp))
  | int j=>obtain ⟨z,rfl⟩:=n;exact Uh (fU I q (by simp))
  | str j=>obtain ⟨z,rfl⟩:=n;exact Uf (fU I q (by simp))
  | _=>exact absurd (show false=true from B) aN
 | bl i=>
  cases D;cases y with
  | non=>cases n;exact Uk (fU I q (by simp))
  | bl j=>cases n;exact ne_bool (fU I q (congrArg not Kw))
  | str j=>obtain ⟨z,rfl⟩:=n;exact TC (fU I q (by simp))
  | _=>exact absurd (show false=true from B) aN
 | int i=>
  obtain ⟨t,rfl⟩:=D;cases y with
  | non=>cases n;exact Uj (fU I q (by simp))
  | int j=>obtain ⟨z,rfl⟩:=n;exact ne_int (fU I q (congrArg not HC))
  | str j=>obtain ⟨z,rfl⟩:=n;exact TB (fU I q (by simp))
  | _=>exact absurd (show false=true from B) aN
 | str i=>
  obtain ⟨t,rfl⟩:=D;cases y with
  | non=>cases n;exact Ue (fU I q (by simp))
  | bl j=>cases n;exact Tz (fU I q (by simp))
  | int j=>obtain ⟨z,rfl⟩:=n;exact Tx (fU I q (by simp))
  | str j=>obtain ⟨z,rfl⟩:=n;exact ne_str (fU I q (congrArg not HB))
  | _=>exact absurd (show false=true from B) aN
 | byt i=>
  obtain ⟨t,rfl⟩:=D;cases y with
  | byt j=>obtain ⟨z,rfl⟩:=n;exact PySem.W.ne_bytes (fU I q (congrArg not HD))
  | _=>exact absurd (show false=true from B) aN
 | _=>cases y<;>exact absurd (show false=true from B) aN
def wz:yL X (iM .Lt) (Oi λi j=> .bl (decide (i<j))):=Pu λ_ _ _ _ _ _ _ q=>lt_int q
def wA:yL X (iM .LtE) (Oi λi j=> .bl (decide (i<=j))):=Pu λ_ _ _ _ _ _ _ q=>le_int q
def AG:yL X (iM .Gt) (Oi λi j=> .bl (decide (j<i))):=Pu λ_ _ _ _ _ _ _ q=>gt_int q
def dA(b)(h:j≠.In:=by decide)(h2:j≠.NotIn:=by decide):uU j b=false:=by
 have q:(j==CmpOp.In)=false:=by cases j<;>first | rfl | exact absurd rfl h
 have n:(j==CmpOp.NotIn)=false:=by cases j<;>first | rfl | exact absurd rfl h2
 cases b<;>simp [uU,q,n]
def qO(D:yL X (iM j) r)(L:PE X a ta)(J:PE X b tb)(G:uU j b=false):PE X (.Compare a [j] [b] pos) (Qv r ta tb):=by
 intro pins s σ H Q I h;exact UZ (Px L J I h λv u n x y H2 M B z q=>D pins n σ H2 x y v u Q M B z q) G
def LN(t:TE):TT:=λσ H Q=>t σ H λx H'=>∃k,x= .bl k/\Q k H'
def cU(N:yL X (iM j) r)(Y:PE X a ta)(U:PE X b tb)(O:uU j b=false):PT X (.Compare a [j] [b] pos) (LN (Qv r ta tb)):=by
 intro pins s σ H Q I h;refine wpAny_isTrue_Compare1 (gL (Y pins s σ H _ I h) λv q ⟨x,H1,I1,G,M⟩=>gL (U pins q σ H1 _ I1 M) λu n ⟨y,H2,I2,D,L⟩=>
  gL (N pins n σ H2 x y v u _ I2 G D L) λc s3 ⟨z,H3,I3,B,k,e,J⟩=> ?_) O
 subst e;cases B;exact iX ⟨H3,I3,J⟩
def Hm(r q:R2)(ta tb tc:TE):TE:=λσ H Q=>ta σ H λx H1=>tb σ H1 λy H2=>r x y H2 λz j=>∃k,z= .bl k/\
 (if k=true then tc σ j λn B=>q y n B Q else Q (.bl false) j)
def yz(ho:yL X (iM D) r)(n:yL X (iM j) r')(ha:PE X a ta)(hb:PE X b tb)(hc:PE X c tc)(hm:lastMarks [D,j] [b,c]=false:=by with_unfolding_all rfl):PE X (.Compare a [D,j] [b,c] pos) (Hm r r' ta tb tc):=by
 intro pins s σ H Q I h;refine Compare_chain (gL (ha pins s σ H _ I h) λv Y ⟨x,H1,I1,r1,q1⟩=>chain_link (gL (hb pins Y σ H1 _ I1 q1) λu U ⟨y,H2,I2,q,q2⟩=>
  gL (ho pins U σ H2 x y v u _ I2 r1 q q2) λd O ⟨z,J,G,r3,k,e,B⟩=> ?_)) hm
 subst e;cases r3;refine iX ?_;cases k with
 | false=>exact ite_ff ⟨.bl false,J,G,rfl,B⟩
 | true=>exact ite_tt (chain_last (gL (hc pins O σ J _ G B) λM N ⟨L,H4,I4,r4,q4⟩=>n pins N σ H4 y L u M Q I4 q r4 q4))
def Jf(ho:yL X (iM D) r)(n:yL X (iM j) r')(ha:PE X a ta)(hb:PE X b tb)(hc:PE X c tc)(hm:lastMarks [D,j] [b,c]=false:=by with_unfolding_all rfl):PT X (.Compare a [D,j] [b,c] pos) (LN (Hm r r' ta tb tc)):=by
 intro pins s σ H Q I h;refine isTrue_chain (gL (ha pins s σ H _ I h) λv Y ⟨x,H1,I1,r1,q1⟩=>test_link (gL (hb pins Y σ H1 _ I1 q1) λu U ⟨y,H2,I2,q,q2⟩=>
  gL (ho pins U σ H2 x y v u _ I2 r1 q q2) λd O ⟨z,J,G,r3,k,e,B⟩=> ?_)) hm
 subst e;cases r3;refine iX ?_;cases k with
 | false=>
  obtain ⟨k',e',q'⟩:=B;cases e';exact ite_ff ⟨J,G,q'⟩
 | true=>
  refine ite_tt (test_last (gL (hc pins O σ J _ G B) λM N ⟨L,H4,I4,r4,q4⟩=>gL (n pins N σ H4 y L u M _ I4 q r4 q4) λd' s5 ⟨z2,H5,I5,r5,k2,e2,q5⟩=> ?_));subst e2;cases r5;exact iX ⟨H5,I5,q5⟩
def Du:(a_:Nat)<2^63:=by rw [cq];decide
def vals1(r:Vals [x] us):∃u,us=[u]/\RelV x u:=by
 cases r with
 | cons n j=>cases j;exact ⟨_,rfl,n⟩
def vals2(r:Vals [x,y] us):∃u j,us=[u,j]/\RelV x u/\RelV y j:=by
 cases r with
 | cons B z=>
  cases z with
  | cons q n=>cases n;exact ⟨_,_,rfl,B,q⟩
def yJ:rY X (.builtin "abs") (λxs H Q=>∃i,xs=[.int i]/\Q (.int (if i<0 then -i else i)) H):=by
 intro pins s σ H xs j Q I r h;obtain ⟨i,rfl,q⟩:=h;obtain ⟨u,rfl,t,rfl⟩:=vals1 r;exact call_abs_int λu tk=>⟨.int (if i<0 then -i else i),H,I.tok _,⟨_,rfl⟩,q⟩
def vL(z:X.calm=true):rY X (.builtin "max") (λxs H Q=>∃i j,xs=[.int i,.int j]/\Q (.int (if j>i then j else i)) H):=by
 intro pins s σ H xs D Q I r h;obtain ⟨i,j,rfl,q⟩:=h;obtain ⟨u,B,rfl,⟨t,rfl⟩,⟨G,rfl⟩⟩:=vals2 r;refine max_two_ints (I.ok.hd z) λh' tk k=>⟨_,H,I.kept k,?_,q⟩
 by_cases n:j>i
 ·rw [if_pos n,if_pos n];exact ⟨_,rfl⟩
 ·rw [if_neg n,if_neg n];exact ⟨_,rfl⟩
def nE(z:X.calm=true):rY X (.builtin "min") (λxs H Q=>∃i j,xs=[.int i,.int j]/\Q (.int (if j<i then j else i)) H):=by
 intro pins s σ H xs D Q I r h;obtain ⟨i,j,rfl,q⟩:=h;obtain ⟨u,B,rfl,⟨t,rfl⟩,⟨G,rfl⟩⟩:=vals2 r;refine min_two_ints (I.ok.hd z) λh' tk k=>⟨_,H,I.kept k,?_,q⟩
 by_cases n:j<i
 ·rw [if_pos n,if_pos n];exact ⟨_,rfl⟩
 ·rw [if_neg n,if_neg n];exact ⟨_,rfl⟩
def JD:rY X (.builtin "ord") (λxs H Q=>∃x,xs=[.str x]/\x.length=1/\Q (.int (x.cps.getD 0 0:Nat)) H):=by
 intro pins s σ H xs n Q I r h;obtain ⟨x,rfl,j,q⟩:=h;obtain ⟨u,rfl,t,rfl⟩:=vals1 r;exact ord_of_one j ⟨.int _,H,I.tok _,⟨_,rfl⟩,q⟩
end
structure ObjM (h:cz) (x dx C:af) (mA:Str→Option al):Prop where
 obj:h.get? x=some (iC C dx)
 ns:h.Ns1 dx mA
 ne:dx≠x
def FL{h:cz}(n:h.Ns1 dx mA):∃B,h.get? dx=some B/\∀name,uX name B=some (mA name):=by
 obtain ⟨o,es,ep,G,L,J,_,I⟩:=n;refine ⟨o,G,λname=> ?_⟩;have e:=I name;unfold nsFind findBy at e;rw [<-N4] at e;unfold uX;rw [L];dsimp only;split
 ·rename_i y q;rw [q] at e;exact congrArg some e
 ·rename_i q;rw [q] at e;have a:es.toList.any (·.refKey)=false:=by
   rw [List.any_eq_false];intro y D;obtain ⟨z,t,j⟩:=J y (Array.mem_toList_iff.mp D);simp [W3,j]
  have M:¬es.toList.any (·.refKey)=true:=by rw [a];exact aN
  rw [if_neg M];exact congrArg some e
def ObjM.look(I:ObjM h x dx C mA):∃j,PySem.W.InstAt h x (iC C dx) C (some j)/\∀name,uX name j=some (mA name):=
 let ⟨j,n,q⟩:=FL I.ns
 ⟨j,⟨I.obj,rfl,rfl,n⟩,q⟩
section
variable {prog:be} {w:bN} {A:gt} {E:al→aK→Prop} {s:aK} {K:ac} {x dx C f:af} {mA:Str→Option al} {name:Str} {v:al}
def Mi(X:K.In s.heap)(I:ObjM s.heap x dx C mA)(D:iV K C name=true)(B:jF K C=true)(G:cM K (.ref C) name=some none)(q:mA name=some v)(j:MT v=true)(h:Q v {s with toks:=s.toks+1}):
  bj (bP prog w) A (VU (.ref x) name n) Q E s:=by
 obtain ⟨L,J,z⟩:=I.look;exact PySem.W.get_value X J (wd D).1 (PySem.W.findObj_own B G rfl (by rw [z,q])) j h
def Jx(X:K.In s.heap)(I:ObjM s.heap x dx C mA)(j:iV K C name=true)(D:cM K (.ref C) name=some (some (.ref f)))(z:mH K (.ref f)=true)(q:mA name=none)(h:Q (.ref f,[.ref x]) s):
  bj (bP prog w) A (Na (.ref x) name pl) Q E s:=by
 obtain ⟨n,J,B⟩:=I.look;exact PySem.W.method_fn X J (wd j).1 (wd j).2 D (beq_iff_eq.mp z) (by show (uX name n).map (·.isSome)=some false;rw [B,q];rfl) h
def LV(X:K.In s.heap)(I:ObjM s.heap x dx C mA)(N:cM K (.ref C) "__setattr__"=some (some (.builtin "object.__setattr__")))(O:mG K C=true)(M:AY K C name=some none)(U:jF K C=true)(L:JK mA ns)(hsz:ns.length<=a_)(h:∀h',ObjM h' x dx C (λy=>if y=name then some v else mA y)->jy dx s.heap h'->Q () {s with heap:=h',toks:=s.toks+2}):
  bj (bP prog w) A (S0 (.ref x) name v) Q E s:=by
 obtain ⟨od,J,hl⟩:=I.look;refine PySem.W.set_plain X J N (PySem.W.osa_open (s:={s with toks:=s.toks+1}) (r:=none) X J O M λb=> ?_);obtain ⟨cd,Y,B⟩:=PySem.W.any_some U;have G:s.heap.get? x=some ⟨.ref C,some dx,.plain,#[]⟩:=I.obj;refine ak (bh (ak (ak (wpAny_loadPart G (ak (Tt (s:={s with toks:=s.toks+1}) (PySem.W.looks_clsIn X Y) ?_))))));rw [B];refine bh (a:=some dx) (ak (bh (ak ?_)));refine VS (s:={s with toks:=s.toks+1}) I.ns λh' n j=> ?_;obtain ⟨oD,a0,a1,q,z,D⟩:=n.count (MR name v L);refine ak (Th q (by rw [z];exact Tq (cD D (by rw [aF];omega))) ?_);exact bh (h _ ⟨(j.2 _ (dO I.ne)).trans I.obj,n,I.ne⟩ j)
def Jo(X:K.In s.heap)(n:oQ K C=true)(hi:cM K (.ref C) "__init__"=some (some (.ref f)))(q:PySem.W.typeIn K (.ref f)=some (.type "function"))(h:m_ (bP prog w) (A.under (.builtin "type.__call__" ⟨.ref C::vs,j⟩)) (.call (.ref f) ⟨.ref (s.heap.objs.size+1)::vs,j⟩) (PySem.W.InitBack (s.heap.objs.size+1) R)
   {s with heap:=(s.heap.push gq).push (iC C s.heap.objs.size)}):
  m_ (bP prog w) A (.call (.ref C) ⟨vs,j⟩) R s:=by
 obtain ⟨z,g,d,t,os⟩:=s;exact PySem.W.make_core (PySem.W.makes_of X n) (PySem.W.looks_findIn X hi) (λself=>PySem.W.bind_fn X self q) (.inl rfl) h
end
def mK(f:Str)(v:V):List (Str×V)->List (Str×V)
 | []=>[(f,v)]
 | (g,x)::r=>if g=f then (g,v)::r else (g,x)::mK f v r
theorem fq(f g)(v):∀fs:List (Str×V),(mK f v fs).lookup g=if g=f then some v else fs.lookup g
 | []=>by
  show kK g [(f,v)]=_;by_cases h:g=f
  ·have j:(g==f)=true:=beq_iff_eq.mpr h;simp only [kK,j,if_pos h]
  ·have j:(g==f)=false:=beq_eq_false_iff_ne.mpr h;simp only [kK,j,if_neg h]
 | (k,x)::r=>by
  have q:=fq f g v r;rw [show mK f v ((k,x)::r)=(if k=f then (k,v)::r else (k,x)::mK f v r) from rfl];by_cases n:k=f
  ·rw [if_pos n];by_cases h:g=k
   ·have j:(g==k)=true:=beq_iff_eq.mpr h;simp only [kK,j,if_pos (h.trans n)]
   ·have j:(g==k)=false:=beq_eq_false_iff_ne.mpr h;simp only [kK,j,if_neg (λe:g=f=>h (e.trans n.symm))]
  ·rw [if_neg n];by_cases h:g=k
   ·have j:(g==k)=true:=beq_iff_eq.mpr h;simp only [kK,j,if_neg (λe:g=f=>n (h.symm.trans e))]
   ·have j:(g==k)=false:=beq_eq_false_iff_ne.mpr h;simp only [kK,j];exact q
theorem vI(f)(v):∀fs:List (Str×V),f∈(mK f v fs).map (·.1)/\∀g,g∈fs.map (·.1)->g∈(mK f v fs).map (·.1)
 | []=>⟨by simp [mK],λg h=>by simp at h⟩
 | (k,x)::r=>by
  obtain ⟨i1,n⟩:=vI f v r;rw [show mK f v ((k,x)::r)=(if k=f then (k,v)::r else (k,x)::mK f v r) from rfl];by_cases j:k=f
  ·rw [if_pos j];subst j;exact ⟨by simp,λg h=>by simpa using h⟩
  ·rw [if_neg j];refine ⟨?_,λg h=> ?_⟩
   ·rw [dI];exact au _ i1
   ·rw [dI] at h ⊢;rcases aH.mp h with e | e
    ·exact aH.mpr (.inl e)
    ·exact au _ (n g e)
theorem uK(f)(v):∀fs:List (Str×V),(mK f v fs).length<=fs.length+1
 | []=>by simp [mK]
 | (k,x)::r=>by
  have n:=uK f v r;rw [show mK f v ((k,x)::r)=(if k=f then (k,v)::r else (k,x)::mK f v r) from rfl];by_cases j:k=f
  ·rw [if_pos j,aF,aF];omega
  ·rw [if_neg j,aF,aF];omega
def RelO.some_of(r:RelO (some v) o):∃u,o=some u/\RelV v u:=by
 cases o with
 | none=>exact (show False from r).elim
 | some u=>exact ⟨u,rfl,r⟩
def RelO.none_of(r:RelO none o):o=none:=by
 cases o with
 | none=>rfl
 | some u=>exact (show False from r).elim
def FR(r:RelV v u):MT u=true:=by
 cases v with
 | non=>cases (show u=dC from r);rfl
 | bl b=>cases (show u=Tu b from r);rfl
 | int i=>obtain ⟨t,e⟩:=(show ∃t,u=wE i t from r);cases e;rfl
 | str x=>obtain ⟨t,e⟩:=(show ∃t,u=HV x t from r);cases e;rfl
 | byt b=>obtain ⟨t,e⟩:=(show ∃t,u=S7 b t from r);cases e;rfl
 | flt b=>obtain ⟨t,e⟩:=(show ∃t,u=S6 b t from r);cases e;rfl
 | ref a=>cases (show u=bO a from r);rfl
 | ty n=>cases (show u=jw n from r);rfl
section
variable {P:be} {w:bN} {H H':Hp} {h h':cz} {a C dx:af} {fs fs':List (Str×V)}
def Bm(j:HOk P w H h)(e:H a=some (.ins C dx fs)):∃mA,ObjM h a dx C mA/\(∀f,RelO (fs.lookup f) (mA f))/\JK mA (fs.map (·.1))/\fs.length<=1000/\H dx=some (.own a):=by
 obtain ⟨d,z,D,B,mA,n,r,q⟩:=(show ObjOk P w H h a (.ins C dx fs) from j a _ e)
 exact ⟨mA,⟨B,n,D⟩,r,q,z,d⟩
end
structure Cls (K:ac) (C:af):Prop where
 pg:iV K C JT=true
 hd:jF K C=true
 po:mG K C=true
 sa:cM K (.ref C) "__setattr__"=some (some (.builtin "object.__setattr__"))
def Cls.get{K}(c:Cls K C)(f):iV K C f=true:=c.pg
def NoAttr(K:ac)(C:af)(f:Str):Prop:=cM K (.ref C) f=some none
def NoAttr.taker{K}(n:NoAttr K C f):AY K C f=some none:=by
 unfold AY;rw [show cM K (.ref C) f=some none from n];rfl
structure Con (K:ac) (C:af) (f:Str) (v:V) (u:al):Prop where
 at_:cM K (.ref C) f=some (some u)
 rel:RelV v u
 get:Mx K u "__get__"=some none
 cp:PySem.W.copiedNames.contains f=false
structure Meth (K:ac) (C:af) (m:Str) (f:af):Prop where
 at_:cM K (.ref C) m=some (some (.ref f))
 fn:mH K (.ref f)=true
 kp:bq K (.ref f)=true
section
variable {X:Cx} {pins:List (af×Obj)} {σ:St} {H:Hp} {s:aK} {a C dx:af} {fs:List (Str×V)} {f:Str} {v:V} {A:gt} {E:al→aK→Prop}
def DI(I:Inv X pins σ H s)(e:H a=some (.ins C dx fs))(c:Cls X.K C)(n:NoAttr X.K C f)(l:fs.lookup f=some v)(h:∀u s',Inv X pins σ H s'->RelV v u->Q u s'):bj (bP X.prog X.w) A (VU (.ref a) f b) Q E s:=by
 obtain ⟨mA,O,r,_,_,_⟩:=Bm I.hok e;obtain ⟨u,q,j⟩:=RelO.some_of (v:=v) (o:=mA f) (by rw [<-l];exact r f);exact Mi I.kIn O (c.get f) c.hd n q (FR j) (h u _ (I.tok _) j)
def DH(I:Inv X pins σ H s)(e:H a=some (.ins C dx fs))(c:Cls X.K C)(k:Meth X.K C m g)(l:fs.lookup m=none)(h:Q (.ref g,[.ref a]) s):bj (bP X.prog X.w) A (Na (.ref a) m pl) Q E s:=by
 obtain ⟨mA,O,r,_,_,_⟩:=Bm I.hok e;have j:mA m=none:=RelO.none_of (by rw [<-l];exact r m);exact Jx I.kIn O (c.get m) k.at_ k.fn j h
def CZ(I:Inv X pins σ H s)(e:H a=some (.ins C dx fs))(c:Cls X.K C)(n:NoAttr X.K C f)(hl:fs.length<1000)(J:RelV y u)(h:∀s',Inv X pins σ (upd H a (.ins C dx (mK f y fs))) s'->Q () s'):bj (bP X.prog X.w) A (S0 (.ref a) f u) Q E s:=by
 obtain ⟨mA,O,r,B,_,D⟩:=Bm I.hok e;have L:(fs.map (·.1)).length<=a_:=by rw [am,cq];omega
 refine LV I.kIn O c.sa c.po n.taker c.hd B L λh' j G=>h _ ?_;have N:∃o,h'.get? dx=some o:=let ⟨o,_,_,Y,_⟩:=j.ns;⟨o,Y⟩;refine I.write (x:=a) (e:=dx) (by rw [e];exact oH) (.inr D) (λb q U z=>(G.2 b U).trans z) N ?_;refine ⟨by rw [aC O.ne];exact D,?_,O.ne,j.obj,_,j.ns,λg=> ?_,λg M=> ?_⟩
 ·have:=uK f y fs;omega
 ·show RelO ((mK f y fs).lookup g) (if g=f then some u else mA g);rw [fq];by_cases q:g=f
  ·rw [if_pos q,if_pos q];exact J
  ·rw [if_neg q,if_neg q];exact r g
 ·by_cases q:g=f
  ·rw [q];exact (vI f y fs).1
  ·refine (vI f y fs).2 g (B g λz=>M ?_);show (if g=f then some u else mA g)=none;rw [if_neg q];exact z
def Inv.made(I:Inv X pins σ H s):Inv X pins σ (upd (upd H s.heap.objs.size (.own (s.heap.objs.size+1))) (s.heap.objs.size+1) (.ins C s.heap.objs.size []))
  {s with heap:=(s.heap.push gq).push (iC C s.heap.objs.size)}:=by
 have n:(s.heap.push gq).get? s.heap.objs.size=some gq:=bG s.heap rfl;have G:((s.heap.push gq).push (iC C s.heap.objs.size)).get? (s.heap.objs.size+1)=some (iC C s.heap.objs.size):=by
  have:=bG (s.heap.push gq) (o:=iC C s.heap.objs.size) rfl
  rwa [eQ] at this
 have D:(s.heap.push gq).Ns s.heap.objs.size (λ_=>none):=⟨gq,#[],_,n,rfl,(λe B=>absurd B (by simp)),λ_=>rfl⟩
 have J:=I.laid (a:=s.heap.objs.size) (o:= .own (s.heap.objs.size+1)) (h':=s.heap.push gq) (t':=s.toks) (λb u q=>aq _ q) (aO _) ⟨_,n⟩;refine J.laid (a:=s.heap.objs.size+1) (o:= .ins C s.heap.objs.size []) (t':=s.toks) (λb u q=>aq _ q) (nL (eQ _ _)) ?_;have j:s.heap.objs.size≠s.heap.objs.size+1:=cu (E7 _);refine ⟨by rw [aC j,ao],cy _,j,G,λ_=>none,(KR D).at λo q=>aq _ q,λ_=>oH,λy z=>absurd rfl z⟩
def Mq(n:mP e f env (eval e env)=eval e env)(h:bj (bP prog w) A (eval e env) (λo j=>bj (bP prog w) A (VU o f true) Q E j) E s):bj (bP prog w) A (eval (.Attribute e f pos) env) Q E s:=
 Attribute_any_ h (by rw [arm_eval_Attribute,n])
end
def Rs(K:ac)(ta:TE)(f:Str):TE:=λσ H Q=>ta σ H λx H1=>∃a C dx fs v,x= .ref a/\H1 a=some (.ins C dx fs)/\Cls K C/\NoAttr K C f/\fs.lookup f=some v/\Q v H1
def SY(K:ac)(ta tv:TE)(f:Str):TS:=λD σ H=>tv σ H λy H1=>ta σ H1 λx H2=>∃a C dx fs,x= .ref a/\H2 a=some (.ins C dx fs)/\Cls K C/\NoAttr K C f/\fs.length<1000/\
 D.nx σ (upd H2 a (.ins C dx (mK f y fs)))
section
variable {X:Cx} {o e value:eM} {f:Str} {pos pos' tpos:Pos} {ta tv:TE}
def iP(B:PE X e ta)(D:mP e f X.env (eval e X.env)=eval e X.env):PE X (.Attribute e f pos) (Rs X.K ta f):=by
 intro pins s σ H Q I h;refine Mq D (gL (B pins s σ H _ I h) λu O ⟨x,H1,L,j,a,C,dx,fs,v,ex,G,c,n,l,q⟩=> ?_);subst ex;obtain rfl:u=bO a:=j;exact DI L G c n l λM N J z=>⟨v,H1,J,z,q⟩
def rf(N:PE X o ta)(L:PE X value tv)(M:se value (some (.Attribute o f pos')) pos.line X.env=pure false):PS X (.Assign [.Attribute o f pos'] value pos) (SY X.K ta tv f):=by
 intro pins s σ H D I h;refine FZ (gL (L pins s σ H _ I h) λu j ⟨y,H1,I1,z,q⟩=>gL (N pins j σ H1 _ I1 q) λJ s2 ⟨x,H2,Y,B,a,C,dx,fs,ex,O,c,n,l,G⟩=> ?_) M;subst ex;obtain rfl:J=bO a:=B;exact CZ Y O c n l z λs3 U=>⟨σ,_,U,G⟩
end
section
variable {X:Cx} {pins:List (af×Obj)} {σ:St} {H:Hp} {s:aK} {A:gt} {E:al→aK→Prop} {Q:al→aK→Prop} {c:al} {b:Bool}
inductive TyOf (K:ac) (H:Hp):V→al→Prop where
 | non:TyOf K H .non (.type "NoneType")
 | bl (x:Bool):TyOf K H (.bl x) (.type "bool")
 | int (i:Int):TyOf K H (.int i) (.type "int")
 | str (x:Str):TyOf K H (.str x) (.type "str")
 | flt (x:UInt64):TyOf K H (.flt x) (.type "float")
 | lst {a:af} {xs:List V} (e:H a=some (.lst xs)):TyOf K H (.ref a) (.type "list")
 | frz {a:af} {o:Obj} {xs:List V} (e:H a=some (.frz o (.lst xs))):TyOf K H (.ref a) (.type "list")
 | tup {a:af} {xs:List V} (e:H a=some (.tup xs)):TyOf K H (.ref a) (.type "tuple")
 | dK {a:af} {kvs:List (vU×V)} (e:H a=some (.dK kvs)):TyOf K H (.ref a) (.type "dict")
 | dT {a:af} {kvs:List (List vU×V)} (e:H a=some (.dT kvs)):TyOf K H (.ref a) (.type "dict")
 | ins {a C dx:af} {fs:List (Str×V)} (e:H a=some (.ins C dx fs)) (cl:Cls K C) (ha:cM K (.ref C) "__class__"=some (some (.builtin "object.__class__")))
   (hn:Mx K (.builtin "object.__class__") "__get__"=some (some (.builtin "getset_descriptor.__get__"))) (htk:PySem.W.takesIn K (.builtin "object.__class__")=some true)
   (hm:PySem.W.mroIn K C (.type "object")=some true):TyOf K H (.ref a) (.ref C)
end
structure Room (k:Nat) (A:gt):Prop where
 hd:A.handled=none
 dp:A.depth+3*k+5<U_
 un:A.units+16*k+200<KJ
def Room.mono(r:Room k A)(h:j<=k):Room j A:=⟨r.hd,by have:=r.dp;omega,by have:=r.un;omega⟩
theorem Room.deeper(r:Room (k+1) A)(env):Room k (A.deeper env):=
 ⟨r.hd,by have:=r.dp;show A.depth+1+3*k+5<_;omega,by have:=r.un;show A.units+3+16*k+200<_;omega⟩
def Dt{A:gt}:(A.under (.builtin "type.__call__" ⟨.ref C::us,j⟩)).depth=A.depth+1:=by
 first | rfl | simp [HY,Code.weight,Code.isCreation,Code.isGuard,Code.isCaller,TK,JU,guardIds]
def Ds{A:gt}:(A.under (.builtin "type.__call__" ⟨.ref C::us,j⟩)).units=A.units+1:=by
 first | rfl | simp [HY,Code.cUnits,TK,JU]
def Room.make(r:Room (k+1) A)(C)(us)(j):Room k (A.under (.builtin "type.__call__" ⟨.ref C::us,j⟩)):=
 ⟨r.hd,by have:=r.dp;rw [Dt];omega,by have:=r.un;rw [Ds];omega⟩
theorem Room.depth(r:Room k A):A.depth<U_:=by have:=r.dp;omega
theorem Room.units(r:Room k A):A.units+64<KJ:=by have:=r.un;omega
def qo:TA:=λ_ H Q=>Q [] H
def jP(ta:TE)(j:TA):TA:=λσ H Q=>ta σ H λx H1=>j σ H1 λxs H2=>Q (x::xs) H2
section
variable {X:Cx} {e:eM} {es:List eM} {te:TE} {t:TA} {pos:Pos}
def aw:PA X [] qo:=λ_ _ _ _ H Q I h=>rE ⟨[],H,I,.nil,h⟩
def aa(J:PE X e te)(G:PA X es t)(D:bx (e::es) X.env=(false,eval e X.env)::bx es X.env:=by rfl):PA X (e::es) (jP te t):=by
 intro pos pins s σ H Q I h;rw [D];show bj _ _ (RZ ((false,eval e X.env)::fV pos (bx es X.env))) _ _ s;refine ir (gL (J pins s σ H _ I h) λu j ⟨x,H1,M,q,B⟩=> ?_);exact gL (G pos pins j σ H1 _ M B) λN O ⟨xs,H2,L,n,z⟩=>⟨x::xs,H2,L,.cons q n,z⟩
def Rq(t:TA):TE:=λσ H Q=>t σ H λxs H1=>xs.length<=a_/\∀p,H1 p=none->Q (.ref p) (upd H1 p (.tup xs))
def O4(t:TA):TE:=λσ H Q=>t σ H λxs H1=>xs.length<=a_/\∀p,H1 p=none->Q (.ref p) (upd H1 p (.lst xs))
def zP{x1}(h:PA X es t):PE X (.Tuple es x1 pos) (Rq t):=by
 intro pins s σ H Q I D;refine wpAny_Tuple_spliced (gL (h pos pins s σ H _ I D) λB j ⟨xs,H1,n,r,z,q⟩=>⟨by rw [<-r.length];exact z,?_⟩);have G:H1 j.heap.objs.size=none:=n.hok.fresh (aO _);refine ⟨.ref j.heap.objs.size,upd H1 j.heap.objs.size (.tup xs),n.laid (t':=j.toks) (λb u e=>aq _ e) (aO _) ?_,rfl,q _ G⟩;exact ⟨z,B,r,⟨_,bG _ rfl,rfl,_,rfl⟩⟩
def eA(h:PA X es t):PE X (.List es pos) (O4 t):=by
 intro pins s σ H Q I D;refine wpAny_List_spliced (gL (h pos pins s σ H _ I D) λB j ⟨xs,H1,n,r,z,q⟩=>⟨by rw [<-r.length];exact z,?_⟩);have G:H1 j.heap.objs.size=none:=n.hok.fresh (aO _);refine ⟨.ref j.heap.objs.size,upd H1 j.heap.objs.size (.lst xs),n.laid (t':=j.toks) (λb u e=>aq _ e) (aO _) ?_,rfl,q _ G⟩;exact ⟨z,B,0,r,bG _ rfl⟩
end
abbrev Sp:=List V->Hp->VK->XK->Prop
abbrev AK:=List Env->Hp->aK->XK->al->aK->Prop
structure Env0 (P:be) (w:bN) (K:ac) (mg:Str→Option al) (base:cz) (A:gt) (outer:List Env) (s:aK) (H:Hp):Prop where
 frames:A.frames=some outer
 mod:Mod K mg base
 bs:∀b o,base.get? b=some o→s.heap.get? b=some o∧H b=none
 bsz:base.objs.size≤s.heap.objs.size
 funs:s.heap.FunFrames base outer
 frf:∀b∈tT outer,H b=none
 hok:HOk P w H s.heap
 bare:AS s.gens
def CE(outer:List Env)(P:be)(w:bN)(H:Hp)(s:aK)(Q:VK)(u:al)(s':aK):Prop:=
 ∃v H',s'.os=s.os/\AS s'.gens/\Un (tT outer) [] H H' s.heap s'.heap/\HOk P w H' s'.heap/\RelV v u/\Q v H'
def CR(CX:AK)(outer:List Env)(P:be)(w:bN)(H:Hp)(s:aK)(Q:VK)(E:XK)(r:Result)(s':aK):Prop:=
 match r with
 | .ok (.ret u)=>CE outer P w H s Q u s'
 | .ok _=>False
 | .error e=>CX outer H s E e s'
structure FnOk (P:be) (w:bN) (K:ac) (mg:Str→Option al) (base:cz) (CX:AK) (k:Nat) (f:af) (fd:ip) (ps:List Str) (sp:Sp):Prop where
 len:∀vs H Q E,sp vs H Q E→vs.length=ps.length
 run:∀(A:gt) (outer:List Env) (s:aK) (H:Hp) (args:Args) (us:List al) (vs:List V) (Q:VK) (E:XK),Room k A→Env0 P w K mg base A outer s H→JV s fd args (ps.zip us)→Vals vs us→sp vs H Q E→
  m_ (bP P w) A (.call (.ref f) args) (CR CX outer P w H s Q E) s
theorem FnOk.mono{K}(F:FnOk P w K mg base CX j f fd ps sp)(h:j<=k):
  FnOk P w K mg base CX k f fd ps sp:=⟨F.len,λA n s H q B z Q E D=>F.run A n s H q B z Q E (D.mono h)⟩
def FnOk.imp{K}(F:FnOk P w K mg base CX k f fd ps sp)(h:∀vs H Q E,z vs H Q E->sp vs H Q E):FnOk P w K mg base CX k f fd ps z:=
 ⟨λvs H Q E q=>F.len vs H Q E (h _ _ _ _ q),λA j s H n B vs Q E I J L D G=>F.run A j s H n B vs Q E I J L D (h _ _ _ _ G)⟩
def Env0.make{K}(e:Env0 P w K mg base A outer s H)(C)(us)(j):
  Env0 P w K mg base (A.under (.builtin "type.__call__" ⟨.ref C::us,j⟩)) outer s H:=⟨by first | exact e.frames | (simpa [HY,Code.envs,JU,pushEnvs] using e.frames),e.mod,e.bs,e.bsz,e.funs,e.frf,e.hok,e.bare⟩
section
variable {X:Cx} {pins:List (af×Obj)} {σ:St} {H:Hp} {s s':aK}
def Inv.env0(I:Inv X pins σ H s):Env0 X.prog X.w X.K X.mg X.base X.A X.stack s H:=
 ⟨I.ok.frames,I.ok.mod,I.bs,cD I.ok.bsz I.sz,I.stack,I.stkFree,I.hok,I.bare⟩
def Inv.after(I:Inv X pins σ H s)(h:CE X.stack X.prog X.w H s Q u s'):EP X pins σ Q u s':=by
 obtain ⟨v,H',os,j,D,B,r,q⟩:=h;obtain ⟨G,g,d,t,n⟩:=s';obtain rfl:n=s.os:=os;exact ⟨v,H',I.call (h':=G) (g':=g) (d':=d) (t':=t) (ch:=[]) D B j (λb z=>absurd z (by simp)),r,q⟩
end
def wx(sp:Sp)(dvs:List V)(E:XK)(t:TA):TE:=λσ H Q=>t σ H λj H1=>sp (j++dvs) H1 Q E
def Qx(C:af)(m:Str)(sp:Sp)(dvs:List V)(E:XK)(ta:TE)(t:TA):TE:=λσ H Q=>ta σ H λx H1=>∃a dx fs,x= .ref a/\H1 a=some (.ins C dx fs)/\fs.lookup m=none/\
 t σ H1 λj H2=>sp (x::(j++dvs)) H2 Q E
def LQ(C:af)(sp:Sp)(dvs:List V)(E:XK)(t:TA):TE:=λσ H Q=>t σ H λj H1=>∀x dx,H1 x=none->H1 dx=none->dx≠x->
 sp (.ref x::(j++dvs)) (upd (upd H1 dx (.own x)) x (.ins C dx [])) (λv H2=>v= .non/\Q (.ref x) H2) E
def Binds(K:ac)(fd:ip)(ps:List Str)(ds:List al):Prop:=
 ∀(s:aK) (j:List al),K.In s.heap->(j++ds).length=ps.length->JV s fd ⟨j,[]⟩ (ps.zip (j++ds))
def Binds.all{K}(h:∀us:List al,us.length=ps.length->A8 fd ⟨us,[]⟩=pure (ps.zip us)):Binds K fd ps []:=λs us _ j=>by
 rw [gy] at j ⊢;exact .of_eq (h us j)
def ge(CX:AK)(X:Cx)(E:XK):Prop:=∀(pins:List (af×Obj)) (σ:St) (H:Hp) (s:aK) (e:al) (s':aK),Inv X pins σ H s->CX X.stack H s E e s'->X.xe e s'
section
variable {X:Cx} {CX:AK} {k:Nat} {f C:af} {fd:ip} {ps:List Str} {sp:Sp} {dvs:List V} {ds:List al} {E:XK} {x m:Str} {p pos apos:Pos} {e o:eM} {es:List eM} {ta:TE} {t:TA}
def zI{σ:St}(F:FnOk X.prog X.w X.K X.mg X.base CX k f fd ps sp)(z:Room k X.A)(G:Binds X.K fd ps ds)(D:Vals dvs ds)(q:ge CX X E)(I:Inv X pins σ H s)(r:Vals vs us)(h:sp (vs++dvs) H Q E):bj (bP X.prog X.w) X.A (DZ (.ref f) us) (EP X pins σ Q) X.xe s:=by
 have n:Vals (vs++dvs) (us++ds):=r.append D;have B:(us++ds).length=ps.length:=by rw [<-n.length];exact F.len _ _ _ _ h
 refine DV (rZ (F.run X.A X.stack s H ⟨us,[]⟩ (us++ds) (vs++dvs) Q E z I.env0 (G s us I.kIn B) n h) λr s' j=> ?_);cases r with
 | error e=>exact q pins σ H s e s' I j
 | ok J=>
  cases J with
  | ret u=>exact I.after j
  | next=>exact dn j
  | brk=>exact dn j
  | cont=>exact dn j
def fZ(F:FnOk X.prog X.w X.K X.mg X.base CX k f fd ps sp)(D:Room k X.A)(L:Gl X x)(G:X.mg x=some (.ref f))(J:bq X.K (.ref f)=true)(O:Binds X.K fd ps ds)(N:Vals dvs ds)(B:ge CX X E)(U:PA X (e::es) t)(n:(x==("__debug__":Str))=false:=by decide)(M:bx (e::es) X.env=(false,eval e X.env)::bx es X.env:=by rfl)(j:(fV pos (bx es X.env)).any (·.1)=false:=by rfl):
  PE X (.Call (.Name x p) (e::es) [] pos) (wx sp dvs E t):=by
 intro pins s σ H Q I h;refine dk (oh I L G ?_ n);refine jl (h₀:=X.base) I.ok.mod.kin J (gL (U pos pins s σ H _ I h) λus s1 ⟨Y,H1,z,r,q⟩=>⟨z.kIn,?_⟩) M j;exact zI F D O N B z r q
def Ji {pl:Sem Bool} (L:PE X o ta) (c:Cls X.K C) (z:Meth X.K C m f) (F:FnOk X.prog X.w X.K X.mg X.base CX k f fd ps sp) (J:Room k X.A) (N:Binds X.K fd ps ds) (M:Vals dvs ds) (D:ge CX X E)
  (G:eval (.Call (.Attribute o m apos) [] [] pos) X.env=(do
   let n <-eval o X.env
   AM apos.atName
   let (f,first) <-S3 [n] (Na n m pl)
   callWith pos f first (fV pos (bx [] X.env)) (KL pos (A7 [] X.env))):=by rfl):
  PE X (.Call (.Attribute o m apos) [] [] pos) (Qx C m sp dvs E ta qo):=by
 intro pins s σ H Q I h;refine HU (pl:=pl) (gL (L pins s σ H _ I h) λu U ⟨x,H1,j,B,a,dx,fs,ex,O,l,q⟩=> ?_) G;subst ex;obtain rfl:u=bO a:=B;refine DH j O c z l ?_;exact we (first:=[.ref a]) j.kIn z.kp (zI (us:=[.ref a]) (vs:=[.ref a]) F J N M D j (.cons rfl .nil) q)
structure Mk (K:ac) (C f:af):Prop where
 makes:oQ K C=true
 init:cM K (.ref C) "__init__"=some (some (.ref f))
 fn:mH K (.ref f)=true
 kp:bq K (.ref C)=true
def C_{σ:St}(M:Mk X.K C f)(F:FnOk X.prog X.w X.K X.mg X.base CX k f fd ps sp)(J:Room (k+1) X.A)(O:Binds X.K fd ps ds)(N:Vals dvs ds)(G:ge CX X E)(I:Inv X pins σ H s)(r:Vals vs us)(h:∀x dx,H x=none->H dx=none->dx≠x->sp (.ref x::(vs++dvs)) (upd (upd H dx (.own x)) x (.ins C dx [])) (λv H2=>v= .non/\Q (.ref x) H2) E):
  bj (bP X.prog X.w) X.A (DZ (.ref C) us) (EP X pins σ Q) X.xe s:=by
 have z:=h (s.heap.objs.size+1) s.heap.objs.size (I.hok.fresh (M_ _)) (I.hok.fresh (aO _)) (cu (E7 _));have n:=Inv.made (C:=C) I;have q:Vals (V.ref (s.heap.objs.size+1)::(vs++dvs)) (bO (s.heap.objs.size+1)::(us++ds)):= .cons rfl (r.append N);have L:(bO (s.heap.objs.size+1)::us++ds).length=ps.length:=by
  have e:=q.length;rw [F.len _ _ _ _ z] at e;exact e.symm
 refine DV (Jo (f:=f) I.kIn M.makes M.init (beq_iff_eq.mp M.fn) (rZ (F.run _ X.stack _ _ ⟨bO (s.heap.objs.size+1)::us,[]⟩ (bO (s.heap.objs.size+1)::(us++ds)) _ _ E (J.make C us [])
  (n.env0.make C us []) (O _ (bO (s.heap.objs.size+1)::us) n.kIn L) q z) λr s' j=> ?_))
 cases r with
 | error e=>exact G pins σ _ _ e s' n j
 | ok U=>
  cases U with
  | ret u=>
   obtain ⟨v,H',I3,B,Y,D⟩:=n.after j;subst Y;exact ⟨B,⟨V.ref (s.heap.objs.size+1),H',I3,rfl,D⟩⟩
  | next=>exact dn j
  | brk=>exact dn j
  | cont=>exact dn j
def yx(M:Mk X.K C f)(F:FnOk X.prog X.w X.K X.mg X.base CX k f fd ps sp)(D:Room (k+1) X.A)(J:Gl X x)(G:X.mg x=some (.ref C))(O:Binds X.K fd ps ds)(N:Vals dvs ds)(B:ge CX X E)(U:PA X (e::es) t)(n:(x==("__debug__":Str))=false:=by decide)(L:bx (e::es) X.env=(false,eval e X.env)::bx es X.env:=by rfl)(j:(fV pos (bx es X.env)).any (·.1)=false:=by rfl):
  PE X (.Call (.Name x p) (e::es) [] pos) (LQ C sp dvs E t):=by
 intro pins s σ H Q I h;refine dk (oh I J G ?_ n);refine jl (h₀:=X.base) I.ok.mod.kin M.kp (gL (U pos pins s σ H _ I h) λus s1 ⟨Y,H1,z,r,q⟩=>⟨z.kIn,?_⟩) L j;exact C_ M F D O N B z r q
def Dj(M:Mk X.K C f)(F:FnOk X.prog X.w X.K X.mg X.base CX k f fd ps sp)(q:Room (k+1) X.A)(B:Gl X x)(z:X.mg x=some (.ref C))(G:Binds X.K fd ps ds)(D:Vals dvs ds)(n:ge CX X E)(j:(x==("__debug__":Str))=false:=by decide):PE X (.Call (.Name x p) [] [] pos) (LQ C sp dvs E qo):=by
 intro pins s σ H Q I h;refine dk (oh I B z ?_ j);exact we I.kIn M.kp (C_ (us:=[]) M F q G D n I .nil h)
end
section
variable {X:Cx} {CX:AK} {k:Nat} {f C:af} {fd:ip} {ps ks:List Str} {sp:Sp} {E:XK} {x m:Str} {p pos apos kpos:Pos} {e o:eM} {es:List eM} {kws:List Et} {te ta:TE} {t tk:TA} {nm:Option Str}
structure KBinds (K:ac) (fd:ip) (ps ks:List Str) (g:List al→List al→List al) (gV:List V→List V→List V):Prop where
 to:∀(s:aK) (us ws:List al),K.In s.heap→(g us ws).length=ps.length→JV s fd ⟨us,ks.zip ws⟩ (ps.zip (g us ws))
 rel:∀{vs:List V} {us:List al} {zs:List V} {ws:List al},Vals vs us→Vals zs ws→Vals (gV vs zs) (g us ws)
variable {g:List al→List al→List al} {gV:List V→List V→List V}
end
structure FnScope (N P:List Str) (sc:i_):Prop where
 kind:sc.kind= .function
 co:sc.isCoroutine=false
 gen:sc.isGenerator=false
 nd:N.Nodup
 pre:N.take P.length=P
 par:∀x∈P,sc.names.lookup x=some .local∨sc.names.lookup x=some .cell
 nofree:∀y∈sc.names,y.2≠.free
theorem z_{kindOf}:∀{j:List (Str×al)} {m:Str->Option al},(∀v,(x,v)∉j)->Nb kindOf j m x=m x
 | [],_,_=>rfl
 | (n,v)::r,m,h=>by
  unfold Nb;rw [z_ λw q=>h w (au _ q)];split
  ·have:x≠n:=by rintro rfl;exact h v ar
   simp [this]
  ·rfl
theorem A1{kindOf}:∀{j:List (Str×al)} {m:Str->Option al},(∀v,(x,v)∉j)->bindC kindOf j m x=m x
 | [],_,_=>rfl
 | (n,v)::r,m,h=>by
  unfold bindC;rw [A1 λw q=>h w (au _ q)];split
  ·rfl
  ·have:x≠n:=by rintro rfl;exact h v ar
   simp [this]
theorem A0{kindOf}:∀{P:List Str} {vs:List al} {i:Nat} {m:Str->Option al},P.Nodup->P[i]? =some x->vs[i]? =some v->kindOf x=some .local->
  Nb kindOf (P.zip vs) m x=some v
 | [],_,_,_,_,h,_,_=>by simp at h
 | _::_,[],_,_,_,_,h,_=>by simp at h
 | p::P,w::vs,0,m,j,h1,h2,n=>by
  simp at h1 h2;subst h1;subst h2;show Nb kindOf ((p,w)::P.zip vs) m p=_;unfold Nb;rw [z_ λv q=>(jH.mp j).1 (gS q).1,if_pos n];simp
 | p::P,w::vs,i+1,m,j,h1,h2,n=>by
  show Nb kindOf ((p,w)::P.zip vs) m x=_;unfold Nb;exact A0 (i:=i) (jH.mp j).2 (by simpa using h1) (by simpa using h2) n
theorem A2{kindOf}:∀{P:List Str} {vs:List al} {i:Nat} {m:Str->Option al},P.Nodup->P[i]? =some x->vs[i]? =some v->kindOf x≠some .local->
  bindC kindOf (P.zip vs) m x=some v
 | [],_,_,_,_,h,_,_=>by simp at h
 | _::_,[],_,_,_,_,h,_=>by simp at h
 | p::P,w::vs,0,m,j,h1,h2,n=>by
  simp at h1 h2;subst h1;subst h2;show bindC kindOf ((p,w)::P.zip vs) m p=_;unfold bindC;rw [A1 λv q=>(jH.mp j).1 (gS q).1,if_neg n];simp
 | p::P,w::vs,i+1,m,j,h1,h2,n=>by
  show bindC kindOf ((p,w)::P.zip vs) m x=_;unfold bindC;exact A2 (i:=i) (jH.mp j).2 (by simpa using h1) (by simpa using h2) n
def start(N:List Str)(vs:List V):St:=vs.map some++aG (N.length - vs.length) none
def zY (CX:AK) (P:be) (w:bN) (K:ac) (mg:Str->Option al) (base:cz) (N:List Str) (qual:Str) (scope:i_) (f:af) (n:al) (A:gt) (outer:List Env) (s:aK) (H:Hp) (E:XK):Cx where
 prog:=P
 w:=w
 K:=K
 mg:=mg
 base:=base
 A:=A.deeper (Ac qual scope s.heap.objs.size f n)
 N:=N
 s_0:=s
 H_0:=H
 env:=Ac qual scope s.heap.objs.size f n
 outer:=outer
 stack:=Ac qual scope s.heap.objs.size f n::outer
 ex:=[]
 calm:=true
 fn:=λ_=>true
 pn:=[]
 xe:=λe s'=>bj (bP P w) (A.deeper (Ac qual scope s.heap.objs.size f n)) (qj (Ac qual scope s.heap.objs.size f n) e) (λ_ j=>CX outer H s E e j) (λq j=>CX outer H s E q j) s'
def rX{j:i_}(h:j.names.lookup x=some .cell):∃c,(eo n j.names []).lookup x=some c:=by
 have q:=HI j.names n [] (.inl h);exact lz.mp q
def FP{K}(S:FnScope N ps scope)(Y:A.handled=none)(j:Env0 P w K mg base A outer s H)(hl:vs.length=ps.length)(r:Vals vs us)(x:InCallC s s.heap.objs.size (Nb (Ac qual scope s.heap.objs.size f J).kindOf (ps.zip us) λ_=>none) (eo (s.heap.objs.size+1) scope.names []) (bindC (Ac qual scope s.heap.objs.size f J).kindOf (ps.zip us) λ_=>none) O):
  Inv (zY CX P w K mg base N qual scope f J A outer s H E) [] (start N vs) H O:=by
 have a0:ps.length<=N.length:=by have:=congrArg oU S.pre;rw [bQ] at this;omega
 obtain ⟨h1,tk,rfl,M⟩:=x.done;have D:∀b:af,b∉(zY CX P w K mg base N qual scope f J A outer s H E).ex:=λb z=>absurd (show b∈([]:List af) from z) (by simp);refine ⟨⟨j.mod,S.kind,rfl,rfl,aO _,λy z c h1 h2=> ?_,λy B=> ?_,λy c _ h=> ?_,λ_=>Y,JW j.frames,.inr ⟨rfl,rfl⟩,λb z=>absurd z (D b),j.bs,j.bsz,λb _ _=>D b,λb z=>absurd z (D b),j.funs,j.frf⟩,
  rfl,j.bare,Un.kept M,⟨_,x.toInCall.ns,λi y v h1 h2 h3=> ?_⟩,λy c h=>⟨_,x.cell y c h⟩,j.hok.fresh (aO _),λy c h=> ?_,λp G=>absurd (show p∈([]:List (af×Obj)) from G) (by simp),j.hok.kept M,?_⟩
 ·exact name_of_addr x.apart (cG h1) (cG h2)
 ·have B:scope.names.lookup y=some .cell\/scope.names.lookup y=some .free:=B;rcases B with B | B
  ·exact rX B
  ·exact absurd rfl (S.nofree _ (cG B))
 ·exact ii (x.above y c (cG h))
 ·have hi:i<vs.length:=by
   unfold start at h2;by_cases hi:i<vs.length
   ·exact hi
   ·rw [iw (by simpa using hi)] at h2;rw [mJ] at h2;split at h2<;>cases h2
  have ha:vs[i]? =some v:=by
   unfold start at h2;rw [ln (by simpa using hi),bW] at h2;cases e:vs[i]? with
   | none=>rw [e] at h2;cases h2
   | some a=>rw [e] at h2;cases h2;rfl
  obtain ⟨u,L,U⟩:=r.get ha;have G:ps[i]? =some y:=by
   rw [<-S.pre,sj (by omega)];exact h1
  have I:ps.Nodup:=by rw [<-S.pre];exact S.nd.sublist (OY _ _)
  refine ⟨u,U,?_⟩;rcases S.par y (bD G) with k | k
  ·exact .inl ⟨k,A0 I G L k⟩
  ·obtain ⟨c,e⟩:=rX (n:=s.heap.objs.size+1) k;refine .inr ⟨.inl k,c,e,?_⟩;have q:=x.cell y c e;rw [A2 I G L (by show scope.names.lookup y≠_;rw [k];decide)] at q;exact q
 ·exact j.hok.fresh (ii (x.above y c (cG h)))
 ·unfold start;show _=N.length;rw [bp,am,bU];omega
def FU{K}{dV kV Y pm cdv ct oc}(lk:K.lookup f=some ⟨oc,od,.func (bM name qual z B scope dV kV Y pm an cdv ct),a3⟩)(a1:cv K cdv qual=true)(S:FnScope N ps scope)(len:∀vs H Q E,sp vs H Q E->vs.length=ps.length)(G:∀(A:gt) (outer:List Env) (s:aK) (H:Hp) (vs:List V) (Q:VK) (E:XK),Room k (A.deeper (Ac qual scope s.heap.objs.size f cdv))->sp vs H Q E->
   ∃t,HR (zY CX P w K mg base N qual scope f cdv A outer s H E) B t/\t {nx:=λ_ H'=>Q .non H',rt:=Q} (start N vs) H):
  FnOk P w K mg base CX (k+1) f (bM name qual z B scope dV kV Y pm an cdv ct) ps sp:=by
 refine ⟨len,λA outer s H a2 us vs Q E hr M hb r O=> ?_⟩;have hl:=len _ _ _ _ O;have KX:K.In s.heap:=M.mod.kin.keeps λb o e=>(M.bs b o e).1;have a0:s.heap.NoLimit:=M.mod.nolimit.keeps λb o e=>(M.bs b o e).1;have D:∀y∈ps.zip us,scope.names.lookup y.1=some .local\/(scope.names.lookup y.1=some .cell/\((eo (s.heap.objs.size+1) scope.names []).lookup y.1).isSome=true):=λ⟨n,v⟩ hy=>by
  rcases S.par n (gS hy).1 with q | q
  ·exact .inl q
  ·exact .inr ⟨q,HI _ _ _ (.inl q)⟩
 refine P6 hr.depth (KX _ _ lk) rfl S.co S.gen rfl (PySem.W.codeRec_of KX a1) (hb _ _ _ _ ?_);refine wpAny_newFunctionEnv_cells S.kind D λenv he s1 x=> ?_;subst he;refine ⟨a0.keeps x.toInCall.keep,VY ?_⟩;obtain ⟨t,ht,hq⟩:=G A outer s H vs Q E (hr.deeper _) O;have I:Inv (zY CX P w K mg base N qual scope f cdv A outer s H E) [] (start N vs) H s1:=FP S hr.hd M hl r x;refine ft (ht [] s1 (start N vs) H _ I hq) (λfl s' L=> ?_) λe s' L=>L;have U:∀{j:St} {H':Hp} {v:V} {u:al},Inv (zY CX P w K mg base N qual scope f cdv A outer s H E) [] j H' s'->RelV v u->Q v H'->CE outer P w H s Q u s':=
  λ{j H' v u} J rv q=>⟨v,H',J.os,J.bare,J.base,J.hok,rv,q⟩
 cases fl with
 | ret u=>
  obtain ⟨v,j,H',J,rv,q⟩:=L;exact U J rv q
 | next=>
  obtain ⟨j,H',J,q⟩:=L;exact U (v:=V.non) (u:=dC) J rfl q
 | brk=>
  obtain ⟨_,_,_,q⟩:=L;exact dn q
 | cont=>
  obtain ⟨_,_,_,q⟩:=L;exact dn q
section
variable {X:Cx} {x:Str} {p pos:Pos} {e:eM} {es:List eM} {t:TA} {id T:String} {r:List V→Hp→VK→Prop}
def TY(r:List V->Hp->VK->Prop)(t:TA):TE:=λσ H Q=>t σ H λj H1=>r j H1 Q
def eV(U:rY X (.builtin id) r)(N:Gl X x)(M:X.mg x=none)(J:lQ x=some (.builtin id))(Y:PA X (e::es) t)(L:x≠"__name__":=by decide)(n:(x==("__debug__":Str))=false:=by decide)(O:bx (e::es) X.env=(false,eval e X.env)::bx es X.env:=by rfl)(j:(fV pos (bx es X.env)).any (·.1)=false:=by rfl):PE X (.Call (.Name x p) (e::es) [] pos) (TY r t):=by
 intro pins s σ H Q I h;refine dk (rh I N M J ?_ L n);exact Uy (gL (Y pos pins s σ H _ I h) λz B ⟨q,H1,I1,D,G⟩=>U pins B σ H1 q z Q I1 D G) O j
def rR(U:rY X (.type T) r)(N:Gl X x)(M:X.mg x=none)(J:lQ x=some (.type T))(Y:PA X (e::es) t)(L:x≠"__name__":=by decide)(n:(x==("__debug__":Str))=false:=by decide)(O:bx (e::es) X.env=(false,eval e X.env)::bx es X.env:=by rfl)(j:(fV pos (bx es X.env)).any (·.1)=false:=by rfl):PE X (.Call (.Name x p) (e::es) [] pos) (TY r t):=by
 intro pins s σ H Q I h;refine dk (rh I N M J ?_ L n);exact fQ (gL (Y pos pins s σ H _ I h) λz B ⟨q,H1,I1,D,G⟩=>U pins B σ H1 q z Q I1 D G) O j
end
end L2
open L2 renaming Vals->Wn,ObjOk->Wo,Ends->Wq,NoAttr->Wx,Room->Wy,FnOk->Wz,FnScope->WB
open L2.Paired renaming mapP->Wp
open L2.PW renaming pt->Wr
open L2.SqL renaming of->Ws
open L2.SqT renaming of->Wu
open L2.V renaming int->Wv,str->Ww,ref->WA
open L2.HO renaming frz->WK,lst->Y8
open L2.V.int renaming inj->X1
namespace HT
open PySem PyProof.Rows
section
variable {prog:be} {w:bN} {A:gt} {E:al→aK→Prop} {s:aK}
def cat_tup(ht:V8 s.heap t vs.toArray)(hb:V8 s.heap b j.toArray)(M:vs≠[])(h1:j=[]->Q (.ref t) s)(h2:j≠[]->Q (.ref s.heap.objs.size) {s with heap:=s.heap.push {cls:= .type "tuple",data:= .seq (vs++j).toArray}})(hsz:vs.length+j.length<=a_):bj (bP prog w) A (mO .Add (.ref t) (.ref b)) Q E s:=by
 obtain ⟨⟨cls,U,data,J⟩,I,O,n,N⟩:=id ht;obtain ⟨⟨Y,D,data2,z⟩,q,B,L,hd2⟩:=id hb;simp only at O N B hd2;subst O N B hd2;have e:vs.toArray++j.toArray=(vs++j).toArray:=by simp
 by_cases G:j=[]
 ·exact VX ⟨_,I,rfl⟩ ⟨_,q,rfl⟩ Tr Vr HJ G0 (Ew _ _)
   (tuple_addW1 t b vs.toArray j.toArray n L U D J z (by simpa using M) (by simp [G])) ⟨I,q,h1 G⟩
 ·refine VX ⟨_,I,rfl⟩ ⟨_,q,rfl⟩ Tr Vr HJ G0 (Ew _ _)
   (tuple_addW2 t b vs.toArray j.toArray n L U D J z (by simpa using M) (by simpa using G) (by rw [bL,bL];exact hsz)) ⟨I,q,?_⟩
  rw [e];exact h2 G
def sIx(n d:Nat):Option Int->Nat
 | none=>d
 | some v=>if v<0 then (v+(n:Int)).toNat else min v.toNat n
def sIx_none(n d):sIx n d none=d:=rfl
def sIx_nat(n d k:Nat):sIx n d (some (k:Int))=min k n:=by
 show (if (k:Int)<0 then ((k:Int)+(n:Int)).toNat else min (k:Int).toNat n)=min k n;rw [if_neg (by omega),dM]
end
end HT
open HT renaming sIx->WC,sIx_none->WD,sIx_nat->WE
namespace L2
open PySem PySem.Spec PyProof.Rows
abbrev TO:=St->Hp->(Option Int->Hp->Prop)->Prop
def PO(X:Cx)(e:Option eM)(t:TO):Prop:=
 ∀(pins:List (af×Obj)) (s:aK) (σ:St) (H:Hp) (Q:Option Int->Hp->Prop),Inv X pins σ H s->t σ H Q->
  bj (bP X.prog X.w) X.A (evalPart e X.env) (λu s'=>∃o H',Inv X pins σ H' s'/\IsPart u o/\Q o H') X.xe s
def Bf:TO:=λ_ H Q=>Q none H
def LP(t:TE):TO:=λσ H Q=>t σ H λx H1=>∃i,x= .int i/\Q (some i) H1
section
variable {X:Cx} {e:eM} {te:TE} {lo hi:Option eM} {tl th:TO} {pos p2:Pos}
def ff:PO X none Bf:=by
 intro pins s σ H Q I h;rw [Vw];exact bh ⟨none,H,I,.none,h⟩
def dY(h:PE X e te):PO X (some e) (LP te):=by
 intro pins s σ H Q I z;rw [evalPart_some];refine gL (h pins s σ H _ I z) λu D ⟨x,H1,B,j,n⟩=> ?_;obtain ⟨i,rfl,q⟩:=n;obtain ⟨t,rfl⟩:=j;exact ⟨some i,H1,B,.int i t,q⟩
def UU(X:Cx)(r:V->Option Int->Option Int->Hp->VK->Prop):Prop:=
 ∀(pins:List (af×Obj)) (s:aK) (σ:St) (H:Hp) (x:V) (v n j:al) (lo hi:Option Int) (q:af) (Q:VK),Inv X pins σ H s->RelV x v->s.heap.IsSliceOf q n j .none->IsPart n lo->IsPart j hi->r x lo hi H Q->
  ∃T id,qd (.type T) "__getitem__"=pure (some (.builtin id))/\s.TypeIs v T/\bj (bP X.prog X.w) X.A (ON v (.ref q)) (EP X pins σ Q) X.xe s
def TX(r:V->Option Int->Option Int->Hp->VK->Prop)(te:TE)(tl th:TO):TE:=λσ H Q=>te σ H λx H1=>tl σ H1 λl H2=>th σ H2 λu j=>r x l u j Q
def dJ(hr:UU X r)(he:PE X e te)(hl:PO X lo tl)(Y:PO X hi th):PE X (.Subscript e (.Slice lo hi none p2) pos) (TX r te tl th):=by
 intro pins s σ H Q I h;refine RL (gL (he pins s σ H _ I h) λv G ⟨x,H1,I1,J,N⟩=> ?_);refine wpAny_Slice (gL (hl pins G σ H1 _ I1 N) λz D ⟨l,H2,I2,U,M⟩=>gL (Y pins D σ H2 _ I2 M) λn j ⟨u,B,I3,O,L⟩=> ?_);rw [Vw];refine bh ?_;have I4:Inv X pins σ B {j with heap:=j.heap.push {cls:= .type "slice",data:= .fields #[z,n,.none]}}:=I3.kept (t':=j.toks) λb ob q=>aq _ q;obtain ⟨T,id,hT,ht,hg⟩:=hr pins {j with heap:=j.heap.push {cls:= .type "slice",data:= .fields #[z,n,.none]}} σ B x v z n l u j.heap.objs.size Q I4 J (S8 ..) U O L;show bj (bP X.prog X.w) X.A (MW e (.Slice lo hi none p2) v (.ref j.heap.objs.size)) (EP X pins σ Q) X.xe {j with heap:=j.heap.push {cls:= .type "slice",data:= .fields #[z,n,.none]}};exact tail_any (ops:=[.ref j.heap.objs.size,v]) ht hT hg (by with_unfolding_all rfl)
def py(xs:List V)(lo hi:Option Int):List V:=(xs.drop (WC xs.length 0 lo)).take (WC xs.length xs.length hi - WC xs.length 0 lo)
def AJ(xs)(lo hi):(py xs lo hi).length<=xs.length:=by
 unfold py;rw [bQ,bK];omega
def QC(K:ac):R2:=λx y H Q=>∃a b xs ys,x= .ref a/\y= .ref b/\SqT K H a xs/\SqT K H b ys/\xs≠[]/\xs.length+ys.length<=a_/\
 (ys=[]->Q (.ref a) H)/\(ys≠[]->∀p,H p=none->Q (.ref p) (upd H p (.tup (xs++ys))))
def Vals.nil_iff(r:Wn xs us):us=[]↔xs=[]:=by
 cases r with
 | nil=>simp
 | cons _ _=>simp
def Hu:yL X (mO .Add) (QC X.K):=by
 intro pins s σ H x y v u Q I J G h;obtain ⟨a,b,xs,ys,rfl,rfl,Y,U,O,B,M,L⟩:=h;cases J;cases G;obtain ⟨its,n,N,_⟩:=I.tuple Y;obtain ⟨D,j,p2,_⟩:=I.tuple U;refine HT.cat_tup N p2 (λz=>O (n.nil_iff.mp z)) (λz=>⟨.ref a,H,I,rfl,M (j.nil_iff.mp z)⟩) (λz=> ?_) (by rw [<-n.length,<-j.length];exact B);refine ⟨.ref s.heap.objs.size,_,I.laid (t':=s.toks) (o:= .tup (xs++ys)) (λb ob q=>aq _ q) (aO _) ?_,rfl,L (λw=>z (j.nil_iff.mpr w)) _ (I.hok.fresh (aO _))⟩;exact ⟨by rw [bp];exact B,_,n.append j,UB _ _⟩
end
def OB(n:Nat)(i:Int):Option Nat:=if 0<=i then (if i<n then some i.toNat else none) else if -(n:Int)<=i then some (i+n).toNat else none
def N7{n:Type}(xs:List n)(i:Int):Option n:=(OB xs.length i).bind λj=>xs[j]?
def Mh(h:OB n i=some j):seqIndex? i n=some j/\j<n/\-(n:Int)<=i/\i<n:=by
 unfold OB at h;by_cases q:0<=i
 ·rw [if_pos q] at h;by_cases h1:i<n
  ·rw [if_pos h1] at h;have e:i.toNat=j:=bw h;exact ⟨by rw [W8 q h1,e],by omega,by omega,h1⟩
  ·rw [if_neg h1] at h;cases h
 ·rw [if_neg q] at h;by_cases h1: -(n:Int)<=i
  ·rw [if_pos h1] at h;have e:(i+n).toNat=j:=bw h;exact ⟨by rw [seqIndex_neg (by omega) h1,e],by omega,h1,by omega⟩
  ·rw [if_neg h1] at h;cases h
def HE(h:N7 xs i=some v):∃j,seqIndex? i xs.length=some j/\xs[j]? =some v/\j<xs.length/\-(xs.length:Int)<=i/\i<xs.length:=by
 unfold N7 at h;cases e:OB xs.length i with
 | none=>rw [e] at h;cases h
 | some j=>
  rw [e] at h;obtain ⟨h1,h2,q,n⟩:=Mh e;exact ⟨j,h1,h,h2,q,n⟩
def f_{j:Nat}(h:xs[j]? =some v):N7 xs (j:Int)=some v:=by
 have n:j<xs.length:=(aY.mp h).1;have e:OB xs.length (j:Int)=some j:=by
  unfold OB;rw [if_pos (by omega),if_pos (by omega)];simp
 unfold N7;rw [e];exact h
def Mt(b:eM):Prop:=∀o i,HS b false o i=VT [o,i] (ON o i)
def U0(X:Cx)(r:R2):Prop:=
 ∀(value j:eM) (pins:List (af×Obj)) (s:aK) (σ:St) (H:Hp) (x y:V) (v u:al) (Q:VK),Inv X pins σ H s->RelV x v->RelV y u->r x y H Q->
  HS j false v u=VT [v,u] (ON v u)->bj (bP X.prog X.w) X.A (MW value j v u) (EP X pins σ Q) X.xe s
def Vm(X:Cx)(id:String)(r:V->List V->Hp->VK->Prop):Prop:=
 ∀(pins:List (af×Obj)) (s:aK) (σ:St) (H:Hp) (x:V) (xs:List V) (v:al) (j:List al) (Q:VK),Inv X pins σ H s->RelV x v->Wn xs j->r x xs H Q->
  bj (bP X.prog X.w) X.A (DZ (.builtin id) (v::j)) (EP X pins σ Q) X.xe s
section
variable {X:Cx} {a b:eM} {ta tb:TE} {pos:Pos}
def iR(D:U0 X r)(J:PE X a ta)(G:PE X b tb)(B:Mt b):PE X (.Subscript a b pos) (Qv r ta tb):=by
 intro pins s σ H Q I h;exact RL (Px J G I h λv u j x y H2 L z n q=>D a b pins j σ H2 x y v u Q L z n q (B _ _))
def MO(K:ac):R2:=λx y H Q=>∃p xs i v,x= .ref p/\y= .int i/\SqL K H p xs/\N7 xs i=some v/\Q v H
def T3(K:ac):R2:=λx y H Q=>∃p xs i v,x= .ref p/\y= .int i/\SqT K H p xs/\N7 xs i=some v/\Q v H
def gn:U0 X (MO X.K):=by
 intro value J pins s σ H x y v u Q I U O h L;obtain ⟨p,xs,i,z,rfl,rfl,Y,he,q⟩:=h;cases U;obtain ⟨t,rfl⟩:=O;obtain ⟨its,r,B,hz⟩:=I.list Y;obtain ⟨j,h1,h2,h3,h4,h5⟩:=HE he;obtain ⟨w,N,G⟩:=r.get h2;have hl:=r.length;have hn:=Du;have n:EP X pins σ Q w s:=⟨z,H,I,G,q⟩
 by_cases M:0<=i
 ·have D:i.toNat=j:=by
   rw [W8 M h5] at h1;exact bw h1
  exact item_listR B.isList M (by omega) (by rw [D];simpa using N) n L
 ·have D:(i+(its.toArray.size:Int)).toNat=j:=by
   rw [seqIndex_neg (by omega) h4] at h1;rw [bL,<-hl];exact bw h1
  exact OX (x:=w) B.isList.typeIs R_.lookup
   (wpAny_getItem_list_neg (Q:=λr s'=>r=w/\EP X pins σ Q r s') B.isList (by omega) (by rw [bL]<;>omega) (by omega) (by rw [D];simpa using N) ⟨rfl,n⟩) L
def zW:U0 X (T3 X.K):=by
 intro value D pins s σ H x y v u Q I L J h M;obtain ⟨p,xs,i,z,rfl,rfl,N,U,q⟩:=h;cases L;obtain ⟨t,rfl⟩:=J;obtain ⟨its,r,G,hz⟩:=I.tuple N;obtain ⟨j,h1,h2,h3,h4,h5⟩:=HE U;obtain ⟨w,Y,n⟩:=r.get h2;have O:=r.length;have hn:=Du;have B:EP X pins σ Q w s:=⟨z,H,I,n,q⟩
 exact OX (x:=w) G.typeIs slot_tuple_getitem.lookup
  (getItem_tuple (j:=j) (Q:=λr s'=>r=w/\EP X pins σ Q r s') G (by omega) (by omega) (by rw [bL,<-O];exact h1) (by simpa using Y) ⟨rfl,B⟩) M
def yu(lo hi)(n):(qu lo hi none n).1=((WC n 0 lo:Nat):Int)/\(qu lo hi none n).2.1=((WC n n hi:Nat):Int)/\(qu lo hi none n).2.2=1:=by
 refine ⟨?_,?_,rfl⟩
 ·cases lo with
  | none=>simp [qu,WC]
  | some i=>
   simp only [qu,WC,Ng,show (1:Int)>0 by decide,if_true];by_cases h:i<0
   ·simp only [h,if_true]<;>omega
   ·simp only [h,if_false]<;>omega
 ·cases hi with
  | none=>simp [qu,WC]
  | some i=>
   simp only [qu,WC,Ng,show (1:Int)>0 by decide,if_true];by_cases h:i<0
   ·simp only [h,if_true]<;>omega
   ·simp only [h,if_false]<;>omega
def wy(its:List al)(lo hi):slicePick its.toArray lo hi none=((its.drop (WC its.length 0 lo)).take (WC its.length its.length hi - WC its.length 0 lo)).toArray:=by
 obtain ⟨h1,h2,j⟩:=yu lo hi its.toArray.size;unfold slicePick;rw [h1,h2,j];simp only [sliceRange_one,pick_run,bL]<;>rfl
def Oh(K:ac):V->Option Int->Option Int->Hp->VK->Prop:=λx lo hi H Q=>∃a xs,x= .ref a/\SqL K H a xs/\∀p,H p=none->Q (.ref p) (upd H p (.lst (py xs lo hi)))
def eD:UU X (Oh X.K):=by
 intro pins s σ H x v N M lo hi O Q I z L D B h;obtain ⟨a,xs,rfl,J,q⟩:=h;cases z;obtain ⟨its,r,n,G⟩:=I.list J;have j:=r.length;refine ⟨"list",_,R_.lookup,n.isList.typeIs,?_⟩;refine wpAny_getItem_list_slice n.isList L D B .none (by simp) ?_ (by rw [bL]<;>omega);rw [wy,<-j];refine ⟨.ref s.heap.objs.size,_,I.laid (t':=s.toks) (o:= .lst (py xs lo hi)) (λb U q=>aq _ q) (aO _) ?_,rfl,q _ (I.hok.fresh (aO _))⟩;exact ⟨cD (AJ xs lo hi) G,_,0,(r.drop (WC xs.length 0 lo)).take (WC xs.length xs.length hi - WC xs.length 0 lo),bG _ rfl⟩
def yD:V->Bool
 | .non=>true
 | .bl _=>true
 | .int _=>true
 | .str _=>true
 | _=>false
def N6:V->V->Bool
 | .non,.non=>true
 | .bl a,.bl b=>a==b
 | .bl a,.int b=>(if a then 1 else 0)==b
 | .int a,.bl b=>a==(if b then 1 else 0)
 | .int a,.int b=>a==b
 | .str a,.str b=>a==b
 | _,_=>false
def OF(q:RelV y u)(j:RelV x v)(B:yD y=true)(z:yD x=true):Tv A s u v (N6 y x):=by
 cases y with
 | non=>
  cases q;cases x with
  | non=>cases j;exact VC _
  | bl b=>cases j;exact VF b
  | int b=>obtain ⟨t,rfl⟩:=j;exact VE b t
  | str b=>obtain ⟨t,rfl⟩:=j;exact VD b t
  | _=>exact absurd (show false=true from z) aN
 | bl a=>
  cases q;cases x with
  | non=>cases j;exact VL a
  | bl b=>cases j;exact VN a b
  | int b=>obtain ⟨t,rfl⟩:=j;exact VM a b t
  | str b=>obtain ⟨t,rfl⟩:=j;exact VJ a b t
  | _=>exact absurd (show false=true from z) aN
 | int a=>
  obtain ⟨n,rfl⟩:=q;cases x with
  | non=>cases j;exact VG a n
  | bl b=>cases j;exact VI a n b
  | int b=>obtain ⟨t,rfl⟩:=j;exact VH a n b t
  | str b=>obtain ⟨t,rfl⟩:=j;exact HX a n b t
  | _=>exact absurd (show false=true from z) aN
 | str a=>
  obtain ⟨n,rfl⟩:=q;cases x with
  | non=>cases j;exact VA a n
  | bl b=>cases j;exact VB a n b
  | int b=>obtain ⟨t,rfl⟩:=j;exact HW a n b t
  | str b=>obtain ⟨t,rfl⟩:=j;exact Vz a n b t
  | _=>exact absurd (show false=true from z) aN
 | _=>exact absurd (show false=true from B) aN
def P0(x:V)(u:al):Bool:=match u with
 | .none=>N6 .non x
 | .bool b=>N6 (.bl b) x
 | .int i _=>N6 (.int i) x
 | .str z _=>N6 (.str z) x
 | _=>false
def Kv(r:RelV y u)(f:yD y=true):P0 x u=N6 y x:=by
 cases y with
 | non=>cases r;rfl
 | bl b=>cases r;rfl
 | int i=>obtain ⟨t,rfl⟩:=r;rfl
 | str z=>obtain ⟨t,rfl⟩:=r;rfl
 | _=>exact absurd (show false=true from f) aN
theorem Bn:∀{xs:List V} {us:List al},Wn xs us->xs.all yD=true->us.any (P0 x)=xs.any λy=>N6 y x
 | _,_,.nil,_=>rfl
 | y::xs,u::us,.cons r t,f=>by
  rw [RN,dS] at f;rw [sk,sk,Kv r f.1,Bn t f.2]
theorem yC(n:RelV x v)(q:yD x=true):∀{xs:List V} {us:List al},Wn xs us->xs.all yD=true->∀u∈us,Tv A s u v (P0 x u)
 | _,_,.nil,_=>λu j=>by cases j
 | y::xs,u::us,.cons r t,f=>λz j=>by
  rw [RN,dS] at f;rcases aH.mp j with rfl | j
  ·rw [Kv r f.1];exact OF r n f.1 q
  ·exact yC n q t f.2 z j
def N5(x:V)(xs:List V):Bool:=xs.any λy=>N6 y x
def Vk(K:ac)(j:Bool):R2:=λx y H Q=>∃p xs,y= .ref p/\(SqL K H p xs\/SqT K H p xs)/\yD x=true/\xs.all yD=true/\Q (.bl (if j then !N5 x xs else N5 x xs)) H
def vG:yL X (iM .In) (Vk X.K false):=by
 intro pins s σ H x y v u Q I B G h;obtain ⟨p,xs,rfl,j,D,fs,q⟩:=h;cases G;rcases j with j | j
 ·obtain ⟨its,r,n,J⟩:=I.list j;refine SeqAt.in_listAt (P0 x) n.isList (λw z=>yC B D r fs w (by simpa using z)) ⟨.bl _,H,I,rfl,?_⟩;rw [show its.toArray.any (P0 x)=its.any (P0 x) by simp,Bn r fs];exact q
 ·obtain ⟨its,r,n,J⟩:=I.tuple j;refine SeqAt.in_tupleAt (P0 x) n (λw z=>yC B D r fs w (by simpa using z)) ⟨.bl _,H,I,rfl,?_⟩;rw [show its.toArray.any (P0 x)=its.any (P0 x) by simp,Bn r fs];exact q
def gU:rY X (.builtin "len") (λxs H Q=>∃p ys,xs=[.ref p]/\(SqL X.K H p ys\/SqT X.K H p ys)/\Q (.int ys.length) H):=by
 intro pins s σ H xs J Q I r h;obtain ⟨p,ys,rfl,n,q⟩:=h;obtain ⟨u,rfl,D⟩:=vals1 r;cases D;have L:=Du;rcases n with n | n
 ·obtain ⟨its,z,B,G⟩:=I.list n;have j:=z.length;exact Calls.call_len_list B.isList (by simp only [bL]<;>omega) ⟨.int ys.length,H,I.tok _,⟨s.toks+1,by rw [bL,j]⟩,q⟩
 ·obtain ⟨its,z,B,G⟩:=I.tuple n;have j:=z.length;exact len_tuple B (by simp only [bL]<;>omega) ⟨.int ys.length,H,I.tok _,⟨s.toks+1,by rw [bL,j]⟩,q⟩
def yH:rY X (.builtin "len") (λxs H Q=>∃z,xs=[.str z]/\z.length<=a_/\Q (.int z.length) H):=by
 intro pins s σ H xs j Q I r h;obtain ⟨z,rfl,n,q⟩:=h;obtain ⟨u,rfl,t,rfl⟩:=vals1 r;have B:=Du;exact len_str (by omega) ⟨.int z.length,H,I.tok _,⟨_,rfl⟩,q⟩
def tG:rY X (.type "list") (λxs H Q=>∃p ys,xs=[.ref p]/\(SqL X.K H p ys\/SqT X.K H p ys)/\∀l,H l=none->Q (.ref l) (upd H l (.lst ys))):=by
 intro pins s σ H xs us Q I r h;obtain ⟨p,ys,rfl,G,q⟩:=h;obtain ⟨u,rfl,Y⟩:=vals1 r;cases Y;have J:∀(its:List al),Wn ys its->ys.length<=a_->∀(h':cz) (z:Nat),(∀b o',s.heap.get? b=some o'->h'.get? b=some o')->
   h'.get? s.heap.objs.size=some {cls:= .type "list",dict:=none,data:= .seq its.toArray z,slots:= #[]}->EP X pins σ Q (.ref s.heap.objs.size) {s with heap:=h'}:=λits j D h' z B e=>
  ⟨.ref s.heap.objs.size,_,I.laid (t':=s.toks) B (aO _) (show Wo X.prog X.w _ h' _ (.lst ys) from ⟨D,its,z,j,e⟩),rfl,q _ (I.hok.fresh (aO _))⟩
 rcases G with G | G
 ·obtain ⟨its,j,M,D⟩:=I.list G;have L:=j.length;obtain ⟨o,N,U,n,O⟩:=M.isList;exact Vx p (.inl rfl) N U O (λh' z B e=>J its j D h' z B e) (by simp only [bL]<;>omega)
 ·obtain ⟨its,j,M,D⟩:=I.tuple G;have L:=j.length;obtain ⟨o,N,U,n,O⟩:=M;exact Vx p (.inr rfl) N U O (λh' z B e=>J its j D h' z B e) (by simp only [bL]<;>omega)
def wC:rY X (.type "tuple") (λxs H Q=>∃p ys,xs=[.ref p]/\((SqL X.K H p ys/\∀l,H l=none->Q (.ref l) (upd H l (.tup ys)))\/(SqT X.K H p ys/\Q (.ref p) H))):=by
 intro pins s σ H xs N Q I r h;obtain ⟨p,ys,rfl,h⟩:=h;obtain ⟨u,rfl,J⟩:=vals1 r;cases J;rcases h with ⟨z,q⟩ | ⟨z,q⟩
 ·obtain ⟨its,j,n,B⟩:=I.list z;have G:=j.length;refine call_tuple_list n.isList (λh' L=> ?_) (by simp only [bL]<;>omega);have D:Inv X pins σ H {s with heap:=h'}:=I.kept (t':=s.toks) L;have M:Inv X pins σ (upd H h'.objs.size (.tup ys)) {s with heap:=h'.push {cls:= .type "tuple",data:= .seq its.toArray}}:=
   D.laid (t':=s.toks) (λb o e=>aq _ e) (aO _) (show Wo X.prog X.w _ _ _ (.tup ys) from ⟨B,its,j,UB _ _⟩)
  exact ⟨.ref h'.objs.size,_,M,rfl,q _ (D.hok.fresh (aO _))⟩
 ·obtain ⟨its,j,n,B⟩:=I.tuple z;exact call_tuple_same n ⟨.ref p,H,I,rfl,q⟩
def UR(K:ac)(T:String)(x:V)(H:Hp):Prop:=match x with
 | .str _=>T="str"
 | .int _=>T="int"
 | .ref p=>(T="list"/\∃xs,SqL K H p xs)\/(T="tuple"/\∃o,K.lookup p=some o/\o.cls= .type "tuple"/\o.dict=none)\/
   (T="dict"/\((∃kvs,H p=some (.dK kvs))\/∃kvs,H p=some (.dT kvs)))\/(T="set"/\∃S n,H p=some (.set S n))
 | _=>False
def O0{σ:St}(I:Inv X pins σ H s)(r:RelV x v)(ty:UR X.K T x H):
  s.TypeIs v T/\∀a,v= .ref a->∃G,s.heap.get? a=some G/\G.dict=none:=by
 cases x with
 | str z=>
  obtain ⟨t,rfl⟩:=r;cases (show T="str" from ty);exact ⟨typeIs_str s z t,λ_ e=>nomatch e⟩
 | int i=>
  obtain ⟨t,rfl⟩:=r;cases (show T="int" from ty);exact ⟨RF s i t,λ_ e=>nomatch e⟩
 | ref p=>
  cases r;rcases ty with ⟨rfl,xs,J⟩ | ⟨rfl,o,j,L,q⟩ | ⟨rfl,j⟩ | ⟨rfl,S,n,j⟩
  ·obtain ⟨its,_,D,_⟩:=I.list J;refine ⟨D.isList.typeIs,λa e=> ?_⟩;cases e;obtain ⟨o,n,e,c,q,_⟩:=D;exact ⟨o,e,q⟩
  ·refine ⟨⟨o,I.kIn p o j,L⟩,λa e=> ?_⟩;cases e;exact ⟨o,I.kIn _ o j,q⟩
  ·have z:∃o,s.heap.get? p=some o/\o.ExactDict:=by
    rcases j with ⟨kvs,j⟩ | ⟨kvs,j⟩
    ·obtain ⟨_,_,_,_,o,_,_,e,ex,_⟩:=I.hok p _ j;exact ⟨o,e,ex⟩
    ·obtain ⟨_,_,_,_,o,_,_,e,ex,_⟩:=I.hok p _ j;exact ⟨o,e,ex⟩
   obtain ⟨o,e,ex⟩:=z;refine ⟨⟨o,e,ex.1⟩,λa B=> ?_⟩;cases B;exact ⟨o,e,ex.2.1⟩
  ·obtain ⟨o,_,_,_,e,ex,_⟩:=I.hok p _ j;refine ⟨⟨o,e,ex.1⟩,λa B=> ?_⟩;cases B;exact ⟨o,e,ex.2.1⟩
 | _=>exact dn ty
def US(K:ac)(T:String)(r:V->List V->Hp->VK->Prop)(to:TE)(t:TA):TE:=λσ H Q=>to σ H λx H1=>UR K T x H1/\t σ H1 λxs H2=>r x xs H2 Q
variable {o e:eM} {es:List eM} {to:TE} {t:TA} {name:Str} {apos cpos:Pos} {T id:String} {r:V→List V→Hp→VK→Prop}
def FG(pa:PlainAttrs T)(slot:Slot T name id)(B:typeOf (.builtin id)=pure (.type "method_descriptor"))(hm:Vm X id r)(ho:PE X o to)(ha:PA X (e::es) t)(q:mP o name X.env (eval o X.env)=eval o X.env:=by rfl)(z:((fV cpos (bx (e::es) X.env)).all (λx=> !x.1)&&(KL cpos (A7 [] X.env)).all (λx=>x.1.isSome)
   &&decide ((e::es).length+([]:List Et).length+(if ([]:List Et).isEmpty then 0 else 1)<30))=true:=by rfl)(n:(apos.endLine==cpos.line)=true:=by rfl)(hs:bx (e::es) X.env=(false,eval e X.env)::bx es X.env:=by rfl)(j:(fV cpos (bx es X.env)).any (·.1)=false:=by rfl):
  PE X (.Call (.Attribute o name apos) (e::es) [] cpos) (US X.K T r to t):=by
 intro pins s σ H Q I h;refine wpAny_Call_method_late q z n rfl (gL (ho pins s σ H _ I h) λv N ⟨x,H1,G,D,ty,Y⟩=> ?_);obtain ⟨h1,h2⟩:=O0 G D ty;refine ⟨T,id,pa,slot,B,h1,h2,?_⟩;have hA:=ha cpos pins N σ H1 _ G Y;rw [hs] at hA ⊢;refine mQ (by show (false||(fV cpos (bx es X.env)).any (·.1))=false;rw [j]<;>rfl) (oR ?_);exact gL hA λL M ⟨J,H2,I2,O,U⟩=>hm pins M σ H2 x J v L Q I2 D O U
end
def UV(X:Cx)(id:String)(r:V->List V->Hp->VK->Prop):Prop:=
 ∀(pins:List (af×Obj)) (s:aK) (σ:St) (H:Hp) (x:V) (xs:List V) (v:al) (j:List al) (Q:VK),Inv X pins σ H s->RelV x v->Wn xs j->r x xs H Q->
  bj (bP X.prog X.w) X.A (DZ (.builtin id) (v::j)) (EP X pins σ Q) X.xe s
def Vals.one:∀{x:V} {us:List al},Wn [x] us->∃u,us=[u]/\RelV x u
 | _,_,.cons r .nil=>⟨_,rfl,r⟩
theorem Vals.rep(h:Wn xs us):∀k:Nat,Wn (aG k xs).flatten (aG k us).flatten
 | 0=> .nil
 | k+1=>by
  rw [gw,gw,fP,fP];exact Vals.append h (Vals.rep h k)
theorem foldl_rep(its):∀(k:Nat) (acc:List al),
  Nj (λx1 j=>x1++j) acc.toArray (aG k its.toArray)=(acc++(aG k its).flatten).toArray
 | 0,acc=>by simp
 | k+1,acc=>by
  have e:acc.toArray++its.toArray=(acc++its).toArray:=by simp
  have n:(acc++its)++(aG k its).flatten=acc++(aG (k+1) its).flatten:=by
   rw [gw,fP,List.append_assoc]
  rw [<-n,<-foldl_rep its k (acc++its),<-e,gw,jI]
section
variable {X:Cx} {pins:List (af×Obj)} {σ:St} {H:Hp} {s:aK} {l b:af} {xs ys zs:List V}
def Inv.lset{its its':List al}(I:Inv X pins σ H s)(G:H l=some (.lst xs))(e:s.heap.get? l=some {cls:= .type "list",data:= .seq its.toArray n})(B:f its.toArray=its'.toArray)(j:Wn ys its')(hz:ys.length<=a_):
  Inv X pins σ (upd H l (.lst ys)) {s with heap:=s.heap.update l (gX f),toks:=t'}:=by
 have q:=W2 e f;rw [B] at q;refine I.write (x:=l) (e:=l) (by rw [G];exact trivial) (.inl rfl) (λJ u D z=>(bB s.heap (gX f) (dO D)).trans z) ⟨_,q⟩ ?_;exact ⟨hz,its',_,j,q⟩
def Inv.lnew(I:Inv X pins σ H s)(j:Wn ys its)(hz:ys.length<=a_):
  Inv X pins σ (upd H s.heap.objs.size (.lst ys)) {s with heap:=s.heap.push {cls:= .type "list",data:= .seq its.toArray},toks:=t'}:=
 I.laid (λ_ _ q=>aq _ q) (aO _) ⟨hz,its,0,j,bG _ rfl⟩
theorem Inv.fresh(I:Inv X pins σ H s):H s.heap.objs.size=none:=I.hok.fresh (aO _)
def Inv.lstM(I:Inv X pins σ H s)(j:H l=some (.lst xs)):xs.length<=a_/\∃(its:List al) (n:Nat),Wn xs its/\xs.length=its.length/\s.heap.get? l=some {cls:= .type "list",data:= .seq its.toArray n}:=by
 obtain ⟨z,its,n,r,e⟩:=I.hok l _ j;exact ⟨z,its,n,r,r.length,e⟩
def Dr(h:n<=a_):jU n=false:=by
 unfold jU;exact decide_eq_false (by omega)
end
section
variable {X:Cx}
def Ho:V->List V->Hp->VK->Prop:=λx j H Q=>∃l xs y,x= .ref l/\j=[y]/\H l=some (.lst xs)/\xs.length<a_/\Q .non (upd H l (.lst (xs++[y])))
def zU:UV X "list.append" Ho:=by
 intro pins s σ H x J v L Q I B D h;obtain ⟨l,xs,y,rfl,rfl,j,M,q⟩:=h;cases B;obtain ⟨u,rfl,G⟩:=D.one;obtain ⟨z,its,n,r,N,e⟩:=I.lstM j;refine KH tW ⟨_,e,rfl⟩ F.entry_list_append (F.args_list_append_2 _ _) (PySem.list_append l its.toArray n u (by rw [bL];omega)) ⟨e,?_⟩;refine ⟨.non,_,I.lset (its':=its++[u]) j e (by simp) (r.append (.cons G .nil)) ?_,rfl,q⟩;rw [bp,iA];omega
def LW:V->List V->Hp->VK->Prop:=λx j H Q=>∃l b xs zs,x= .ref l/\j=[.ref b]/\H l=some (.lst xs)/\H b=some (.lst zs)/\xs.length+zs.length<=a_/\Q .non (upd H l (.lst (xs++zs)))
def vH:UV X "list.extend" LW:=by
 intro pins s σ H x vs v us Q I J L h;obtain ⟨l,b,xs,zs,rfl,rfl,G,U,hz,q⟩:=h;cases J;obtain ⟨u,rfl,M⟩:=L.one;cases M;obtain ⟨z,its,n,r,hl,e⟩:=I.lstM G;obtain ⟨z2,j,O,N,a0,Y⟩:=I.lstM U;have D:its.toArray.size+j.toArray.size<=a_:=by rw [bL,bL];omega
 have B:¬(!its.toArray.isEmpty&&jU (its.toArray.size+j.toArray.size))=true:=by
  rw [Dr D,Bool.and_false];exact aN
 refine KH mI ⟨_,e,rfl⟩ F.entry_list_extend (F.args_list_extend_2 _ _)
  (Wj l its.toArray n b j.toArray O B (by rw [bL];omega) (by omega)) ⟨e,Y,?_⟩
 refine ⟨.non,_,I.lset (its':=its++j) G e (by simp) (r.append N) ?_,rfl,q⟩;rw [bp];omega
def Ru:R2:=λx y H Q=>∃l b xs zs,x= .ref l/\y= .ref b/\H l=some (.lst xs)/\H b=some (.lst zs)/\xs.length+zs.length<=a_/\∀p,H p=none->Q (.ref p) (upd H p (.lst (xs++zs)))
def lE:yL X (mO .Add) Ru:=by
 intro pins s σ H x y v u Q I D B h;obtain ⟨l,b,xs,zs,rfl,rfl,J,L,hz,q⟩:=h;cases D;cases B;obtain ⟨z,its,n,r,hl,e⟩:=I.lstM J;obtain ⟨U,j,Y,G,O,N⟩:=I.lstM L;refine PySem.P.add_list e N ?_ (by rw [bL,bL];omega);have M:its.toArray++j.toArray=(its++j).toArray:=by simp
 rw [M];exact ⟨.ref _,_,I.lnew (t':=s.toks) (r.append G) (by rw [bp];omega),rfl,q _ I.fresh⟩
def T1:R2:=λx y H Q=>∃l k xs,x= .ref l/\y= .int k/\H l=some (.lst xs)/\-(2^63)<=k/\k<2^63/\xs.length*k.toNat<=a_/\
 ∀p,H p=none->Q (.ref p) (upd H p (.lst (aG k.toNat xs).flatten))
def Hw{j:Type}(xs:List j)(k):(aG k xs).flatten.length=k*xs.length:=by
 induction k with
 | zero=>simp
 | succ k n=>rw [gw,fP,bp,n,Nat.succ_mul,nM]
def zR:yL X (mO .Mult) T1:=by
 intro pins s σ H x y v u Q I Y O h;obtain ⟨l,k,xs,rfl,rfl,hH,h1,h2,N,q⟩:=h;cases Y;obtain ⟨t,rfl⟩:=O;obtain ⟨z,its,n,r,hl,e⟩:=I.lstM hH;have D:its.toArray.size*k.toNat<=a_:=by rw [bL,<-hl];exact N
 have J:¬its.toArray.size*k.toNat>(2^63 - 1) / 8:=by
  have:(a_:Nat)<=(2^63 - 1) / 8:=by decide
  omega
 have G:¬(!Uw k)=true:=by
  rw [fitsIndex_both h1 h2];exact aN
 have j:¬jU (its.toArray.size*k.toNat)=true:=by
  rw [Dr D];exact aN
 have B:Nj (λM L=>M++L) #[] (aG (if its.toArray.isEmpty=true then 0 else k.toNat) its.toArray)=(aG k.toNat its).flatten.toArray:=by
  have f0:∀m:Nat,Nj (λM L=>M++L) #[] (aG m its.toArray)=(aG m its).flatten.toArray:=λm=>by
   have:=foldl_rep its m [];rw [pE] at this;exact this
  rw [f0];cases its with
  | nil=>simp
  | cons a r'=>rw [if_neg (by simp)]
 refine wpAny_binaryOp_repeat_ref (T:="list") (U:="int") (by decide) ⟨_,e,rfl⟩ (λs'=>RF s' k t) noFill_list_mul F.fills_int_mul S9 repeat_list F.slot_int_index.lookup
  (KH S9 (RF s k t) F.entry_int_rmul (F.args_int_rmul_2 _ _) (int___rmul___int_list k t l its.toArray n)
   ⟨e,rfl,⟨_,e,rfl⟩,KH F.slot_list_mul ⟨_,e,rfl⟩ F.entry_list_mul (F.args_list_mul_2 _ _) (W4 l its.toArray n k t G J j) ⟨e,?_⟩⟩)
 rw [B];exact ⟨.ref _,_,I.lnew (t':=s.toks) (r.rep k.toNat) (by rw [Hw,TN];exact N),rfl,q _ I.fresh⟩
end
mutual
inductive Dp (K:ac) (H:Hp):V→Ab→Prop
 | non:Dp K H .non .none
 | bl (b:Bool):Dp K H (.bl b) (.bool b)
 | int (i:Int):Dp K H (.int i) (.int i)
 | str (x:Str):Dp K H (.str x) (.str x)
 | lst {a:af} {xs:List V} {ds:List Ab}:SqL K H a xs→DpAll K H xs ds→Dp K H (.ref a) (.list ds)
 | tup {a:af} {xs:List V} {ds:List Ab}:SqT K H a xs→DpAll K H xs ds→Dp K H (.ref a) (.tuple ds)
inductive DpAll (K:ac) (H:Hp):List V→List Ab→Prop
 | nil:DpAll K H [] []
 | cons {v:V} {vs:List V} {d:Ab} {ds:List Ab}:Dp K H v d→DpAll K H vs ds→DpAll K H (v::vs) (d::ds)
end
section
variable {X:Cx} {pins:List (af×Obj)} {σ:St} {H:Hp} {s:aK}
mutual
theorem Dp.reads (I:Inv X pins σ H s):∀(d:Ab) (v:V) (u:al),Dp X.K H v d->RelV v u->∃L,Reads s.heap u d L
 | .none,_,_,h,r=>by
  cases h;cases r;exact ⟨_,Reads.none⟩
 | .bool b,_,_,h,r=>by
  cases h;cases r;exact ⟨_,Reads.bool b⟩
 | .int i,_,_,h,r=>by
  cases h;obtain ⟨t,rfl⟩:=r;exact ⟨_,Reads.int i t⟩
 | .str x,_,_,h,r=>by
  cases h;obtain ⟨t,rfl⟩:=r;exact ⟨_,Reads.str x t⟩
 | .list ds,_,_,h,r=>by
  cases h with
  | lst q J=>
   cases r;obtain ⟨its,j,⟨o,n,B,G,_,D⟩,_⟩:=I.list q;obtain ⟨L,z⟩:=Dp.readsAll I ds _ its J j;exact ⟨_,Reads.list B G D z⟩
 | .tuple ds,_,_,h,r=>by
  cases h with
  | tup q J=>
   cases r;obtain ⟨its,j,⟨o,B,G,n,D⟩,_⟩:=I.tuple q;obtain ⟨L,z⟩:=Dp.readsAll I ds _ its J j;exact ⟨_,Reads.tuple B G D z⟩
 | .dict _,_,_,h,_=>by cases h
theorem Dp.readsAll (I:Inv X pins σ H s):∀(ds:List Ab) (vs:List V) (us:List al),DpAll X.K H vs ds->Wn vs us->∃j,ReadsAll s.heap us ds j
 | [],_,_,h,r=>by
  cases h;cases r;exact ⟨_,Wc⟩
 | d::ds,_,_,h,r=>by
  cases h with
  | cons h1 h2=>
   cases r with
   | cons q n=>
    obtain ⟨j,B⟩:=Dp.reads I d _ _ h1 q;obtain ⟨D,z⟩:=Dp.readsAll I ds _ _ h2 n;exact ⟨_,We B z⟩
end
end
section
variable {X:Cx}
def T4(K:ac):R2:=λx y H Q=>∃d e,Dp K H x d/\Dp K H y e/\kN d=true/\kN e=true/\Q (.bl (qk d e)) H
def T2(K:ac):R2:=λx y H Q=>∃d e,Dp K H x d/\Dp K H y e/\kN d=true/\kN e=true/\Q (.bl (!qk d e)) H
def zS(J:X.A.units+64<KJ):yL X (iM .Eq) (T4 X.K):=by
 intro pins s σ H x y v u Q I B z h;obtain ⟨d,e,M,L,n,j,q⟩:=h;obtain ⟨O,G⟩:=Dp.reads I d x v M B;obtain ⟨N,D⟩:=Dp.reads I e y u L z;exact SeqAt.compareEq_shaped G D n j J ⟨.bl _,H,I,rfl,q⟩
def Do(J:X.A.units+64<KJ):yL X (iM .NotEq) (T2 X.K):=by
 intro pins s σ H x y v u Q I B z h;obtain ⟨d,e,M,L,n,j,q⟩:=h;obtain ⟨O,G⟩:=Dp.reads I d x v M B;obtain ⟨N,D⟩:=Dp.reads I e y u L z;exact SeqAt.compareNe_shaped G D n j J ⟨.bl _,H,I,rfl,q⟩
end
abbrev Ky(h:cz)(c:af)(v:Option al):Prop:=h.IsCell c v
def S_(scope j:i_):i_:=
 {scope with names:=scope.names.map λ(n,k)=>if (k== .free&&j.kind== .function&&j.names.lookup n==some .cell) then (n,.cell) else (n,k)}
def df(cells:List (Str×af)):List (Str×lK)->List (Str×af)->List (Str×af)
 | [],acc=>acc
 | (n,k)::r,acc=>if k== .free then df cells r ((n,(cells.lookup n).getD 0)::acc) else df cells r acc
theorem tz(env)(f)(hf:∀n k c,f (n,k) c=if k== .free then (do let a <-cellOf env n;pure (.yield ((n,a)::c))) else pure (.yield c)):
  ∀(names:List (Str×lK)) (acc:List (Str×af)),(∀y∈names,y.2= .free->∃c,env.cells.lookup y.1=some c)->forIn names acc f=pure (df env.cells names acc)
 | [],acc,_=>by rw [wI];rfl
 | (n,k)::r,acc,h=>by
  rw [pG,hf]
  have ih:=λacc=>tz env f hf r acc λy hy=>h y (au _ hy)
  unfold df
  by_cases hk:(k==dw)=true
  ·rw [if_pos hk,if_pos hk]
   obtain ⟨c,hc⟩:=h (n,k) ar (by simpa using hk)
   have e:cellOf env n=pure c:=by unfold cellOf;rw [hc]
   rw [e]
   have e2:(env.cells.lookup n).getD 0=c:=by rw [hc];rfl
   rw [e2]
   exact ih _
  ·rw [if_neg hk,if_neg hk]
   exact ih _
def jQ(h:∀y∈scope.names,y.2= .free->∃c,env.cells.lookup y.1=some c):closureFor scope env=pure (df env.cells scope.names []):=by
 simp only [closureFor]
 rw [tz env _ (λn k c=>rfl) scope.names [] h]
 rfl
theorem mem_lookup{j:Type}:∀{l:List (Str×j)} {n:Str} {c:j},(n,c)∈l->∃z,l.lookup n=some z
 | (k,v)::r,n,c,h=>by
  rw [eS];cases q:n==k with
  | true=>exact ⟨_,rfl⟩
  | false=>
   rcases aH.mp h with e | h
   ·cases e;simp at q
   ·exact mem_lookup h
theorem oE:∀{names:List (Str×lK)} {acc:List (Str×af)} {n:Str} {c:af},(n,c)∈df cells names acc->(n,c)∈acc\/((n,.free)∈names/\c=(cells.lookup n).getD 0)
 | [],_,_,_,h=> .inl h
 | (m,k)::r,acc,n,c,h=>by
  unfold df at h;split at h
  ·rename_i j;have j:k= .free:=by simpa using j
   rcases oE h with h | ⟨h1,h2⟩
   ·rcases aH.mp h with e | h
    ·cases e;exact .inr ⟨j▸ar,rfl⟩
    ·exact .inl h
   ·exact .inr ⟨au _ h1,h2⟩
  ·rcases oE h with h | ⟨h1,h2⟩
   ·exact .inl h
   ·exact .inr ⟨au _ h1,h2⟩
theorem qU:∀{names:List (Str×lK)} {acc:List (Str×af)} {p:Str×af},p∈acc->p∈df cells names acc
 | [],_,_,h=>h
 | (m,k)::r,acc,p,h=>by
  unfold df;split
  ·exact qU (au _ h)
  ·exact qU h
theorem qT:∀{names:List (Str×lK)} {acc:List (Str×af)} {n:Str},(n,.free)∈names->(n,(cells.lookup n).getD 0)∈df cells names acc
 | (m,k)::r,acc,n,h=>by
  unfold df;rcases aH.mp h with e | h
  ·cases e;exact qU ar
  ·split
   ·exact qT h
   ·exact qT h
theorem pD:∀{names:List (Str×lK)} {h:cz} {acc:List (Str×af)} {x:Str} {c:af},(x,c)∈eo h.objs.size names acc->
  (x,c)∈acc\/((x,.cell)∈names/\h.objs.size<=c/\Ky (on h names) c none)
 | [],_,_,_,_,h=> .inl h
 | (n,k)::r,h,acc,x,c,j=>by
  unfold eo at j;unfold on;split at j
  ·rename_i q;rw [if_pos q];have q:k= .cell:=by simpa using q
   rw [<-eQ h {cls:= .type "cell",data:= .cell none}] at j;rcases pD j with j | ⟨h1,h2,z⟩
   ·rcases aH.mp j with e | j
    ·cases e;exact .inr ⟨q▸ar,aO _,_,rn r _ _ _ (bG _ rfl),rfl⟩
    ·exact .inl j
   ·rw [eQ] at h2;exact .inr ⟨au _ h1,si h2,z⟩
  ·rename_i q;rw [if_neg q];rcases pD j with j | ⟨h1,h2,z⟩
   ·exact .inl j
   ·exact .inr ⟨au _ h1,h2,z⟩
theorem rW:∀{names:List (Str×lK)} {n:Nat} {acc:List (Str×af)} {p:Str×af},p∈acc->p∈eo n names acc
 | [],_,_,_,h=>h
 | (m,k)::r,n,acc,p,h=>by
  unfold eo;split
  ·exact rW (au _ h)
  ·exact rW h
theorem vK:∀{names:List (Str×lK)} {n:Nat} {acc:List (Str×af)} {x:Str},(x,.cell)∈names->∃c,(x,c)∈eo n names acc
 | (m,k)::r,n,acc,x,h=>by
  unfold eo;rcases aH.mp h with e | h
  ·cases e;exact ⟨n,rW ar⟩
  ·split
   ·exact vK h
   ·exact vK h
theorem vJ:∀{names:List (Str×lK)} {h:cz} {acc:List (Str×af)} {x y:Str} {c:af},(∀p∈acc,p.2<h.objs.size)->(∀x y c,(x,c)∈acc->(y,c)∈acc->x=y)->
  (x,c)∈eo h.objs.size names acc->(y,c)∈eo h.objs.size names acc->x=y
 | [],_,_,_,_,_,_,hi,h1,h2=>hi _ _ _ h1 h2
 | (n,k)::r,h,acc,x,y,c,j,hi,h1,h2=>by
  unfold eo at h1 h2;split at h1
  ·rename_i z;rw [if_pos z] at h2;rw [<-eQ h {cls:= .type "cell",data:= .cell none}] at h1 h2;refine vJ (h:=h.push _) (λp q=> ?_) (λx y c a b=> ?_) h1 h2
   ·rw [eQ];rcases aH.mp q with rfl | q
    ·exact E7 _
    ·exact sg (j p q)
   ·rcases aH.mp a with e | a<;>rcases aH.mp b with B | b
    ·cases e;cases B;rfl
    ·cases e;exact absurd (j _ b) (eW _)
    ·cases B;exact absurd (j _ a) (eW _)
    ·exact hi _ _ _ a b
  ·rename_i z;rw [if_neg z] at h2;exact vJ j hi h1 h2
def uI{code}(h:Q (newEnv scope s.heap.objs.size globals (eo (s.heap.objs.size+1) scope.names j) qual B code (some z) q)
   {s with heap:=on (s.heap.push {cls:= .type "dict",data:= .dict #[]}) scope.names}):
  bj M A (V0 scope globals j [] qual B code (some z) q) Q E s:=by
 simp only [V0,MA,if_true];refine ak (wpAny_alloc ?_);refine ak (wpAny_layCells _ (λn k c=>rfl) scope.names j _ _ ?_);rw [show ({s with heap:=s.heap.push {cls:= .type "dict",data:= .dict #[]}}:aK).heap.objs.size=s.heap.objs.size+1 from eQ ..];rw [wI];exact ak (bh (bh h))
theorem qQ {q:i_}:∀{names:List (Str×lK)} {x:Str} {k:lK},
  (names.map λ(n,k)=>if (k==dw&&q.kind== .function&&q.names.lookup n==some .cell) then (n,Ed) else (n,k)).lookup x=some k->
  ∃D,names.lookup x=some D/\(k=D\/(D= .free/\k= .cell))
 | [],_,_,h=>by simp at h
 | (n,j)::r,x,k,h=>by
  have G:= @qQ q r x k;have h':kK x ((if (j==dw&&q.kind== .function&&q.names.lookup n==some .cell)=true then (n,Ed) else (n,j))::(r.map _))=some k:=h;cases B:x==n with
  | true=>
   simp only [eS,B];by_cases z:(j==dw&&q.kind== .function&&q.names.lookup n==some .cell)=true
   ·rw [if_pos z] at h';simp only [eS,B] at h';cases h';simp only [dS,beq_iff_eq] at z;exact ⟨j,rfl,.inr ⟨z.1.1,rfl⟩⟩
   ·rw [if_neg z] at h';simp only [eS,B] at h';cases h';exact ⟨_,rfl,.inl rfl⟩
  | false=>
   simp only [eS,B];by_cases z:(j==dw&&q.kind== .function&&q.names.lookup n==some .cell)=true
   ·rw [if_pos z] at h';simp only [eS,B] at h';exact G h'
   ·rw [if_neg z] at h';simp only [eS,B] at h';exact G h'
structure BlkOk (N:List Str) (sc scope:i_) (own:List (Str×Nat)):Prop where
 kind:scope.kind= .function
 uniq:∀y∈scope.names,scope.names.lookup y.1=some y.2
 ix:∀p∈own,N[p.2]? =some p.1
 free:∀y∈scope.names,y.2= .free→sc.names.lookup y.1=some .cell∨sc.names.lookup y.1=some .free
 own:∀y∈scope.names,y.2= .local∨y.2= .cell→y.1∈own.map (·.1)∨y.1∉N
def jO(σ:St):List Nat->St
 | []=>σ
 | v::j=>(jO σ j).set v none
theorem oz(σ):∀vs:List Nat,(jO σ vs).length=σ.length
 | []=>rfl
 | v::vs=>by unfold jO;rw [List.length_set,oz σ vs]
theorem rQ:∀{vs:List Nat},(jO σ vs)[i]? =some (some x)->σ[i]? =some (some x)/\i∉vs
 | [],h=>⟨h,by simp⟩
 | v::vs,h=>by
  unfold jO at h;by_cases hi:v=i
  ·subst hi;by_cases j:v<(jO σ vs).length
   ·rw [ua j] at h;cases h
   ·rw [jL (by simpa using j)] at h;cases h
  ·rw [wG hi] at h;obtain ⟨h1,h2⟩:=rQ h;exact ⟨h1,by simp only [aH,not_or];exact ⟨λe=>hi e.symm,h2⟩⟩
abbrev Cx.blk(X:Cx)(s:aK)(H:Hp)(scope:i_)(j:Env)(n:List af):Cx:={X with s_0:=s,H_0:=H,env:=j,outer:=X.stack,ex:=n,fn:=λx=>scope.names.lookup x==some .cell,pn:=[],xe:=λ_ _=>False}
section
variable {X:Cx} {pins:List (af×Obj)} {σ:St} {H:Hp} {s:aK}
def uQ(I:Inv X pins σ H s)(ok:BlkOk X.N X.env.scope scope own)(hN:X.N.Nodup)(M:∀b∈fp,qr X pins H b/\b<s.heap.objs.size):
  Inv (X.blk s H scope (eZ scope (eo (s.heap.objs.size+1) scope.names (df X.env.cells scope.names [])) s.heap.objs.size X.env) fp) [] (jO σ (own.map (·.2))) H {s with heap:=on (s.heap.push {cls:= .type "dict",data:= .dict #[]}) scope.names}:=by
 have a4:∀y∈scope.names,y.2= .free->∃c,X.env.cells.lookup y.1=some c:=λy O e=>by
  rcases ok.free y O e with k | k
  ·exact I.ok.has _ (.inl k)
  ·exact I.ok.has _ (.inr k)
 generalize B:eZ scope (eo (s.heap.objs.size+1) scope.names (df X.env.cells scope.names [])) s.heap.objs.size X.env=j;have kp:∀b o,s.heap.get? b=some o->(on (s.heap.push {cls:= .type "dict",data:= .dict #[]}) scope.names).get? b=some o:=λb o e=>rn _ _ _ _ (aq _ e);have hL:j.locals=s.heap.objs.size:=by rw [<-B];rfl
 have D:j.cells=eo (s.heap.objs.size+1) scope.names (df X.env.cells scope.names []):=by rw [<-B];rfl
 have a2:j.scope=S_ scope X.env.scope:=by rw [<-B];rfl
 rw [<-eQ s.heap {cls:= .type "dict",data:= .dict #[]}] at D;have cm:∀{y c},(y,c)∈df X.env.cells scope.names []->X.env.cells.lookup y=some c/\c<s.heap.objs.size:=λ{y c} G=>by
  rcases oE G with G | ⟨h1,rfl⟩
  ·cases G
  ·obtain ⟨c,hc⟩:=a4 _ h1 rfl;rw [hc];obtain ⟨w,z⟩:=I.cell _ _ hc;exact ⟨rfl,z.lt⟩
 have a1:∀{y c},j.cells.lookup y=some c->(X.env.cells.lookup y=some c/\c<s.heap.objs.size)\/(s.heap.objs.size+1<=c/\Ky (on (s.heap.push {cls:= .type "dict",data:= .dict #[]}) scope.names) c none):=λ{y c} e=>by
  rw [D] at e;rcases pD (cG e) with G | ⟨_,h2,h3⟩
  ·exact .inl (cm G)
  ·rw [eQ] at h2;exact .inr ⟨h2,h3⟩
 have a0:∀{y},scope.names.lookup y=some .free->∃c,j.cells.lookup y=some c/\X.env.cells.lookup y=some c:=λ{y} hl=>by
  have O:(y,dw)∈scope.names:=cG hl;obtain ⟨c',J⟩:=mem_lookup (rW (names:=scope.names) (n:=(s.heap.push {cls:= .type "dict",data:= .dict #[]}).objs.size) (qT (cells:=X.env.cells) (acc:=[]) O));rw [<-D] at J;refine ⟨c',J,?_⟩;rw [D] at J;rcases pD (cG J) with G | ⟨h1,_,_⟩
  ·exact (cm G).1
  ·have:=ok.uniq _ h1;rw [hl] at this;cases this
 have a7:(X.blk s H scope j fp).Ok:=by
  refine ⟨I.ok.mod,by show j.scope.kind=_;rw [a2];exact ok.kind,by show j.globals=_;rw [<-B];exact I.ok.glob,by show j.builtins=_;rw [<-B];exact I.ok.blt,by show s.heap.objs.size<=j.locals;rw [hL];exact aO _,
   λy z c e1 e2=> ?_,λy O=> ?_,λy c z e=> ?_,I.ok.hd,I.ok.frames,.inl rfl,λb hb=>⟨?_,λy c e z=> ?_⟩,I.bs,cD I.ok.bsz I.sz,λb o e hb=> ?_,λb hb z=> ?_,I.stack,I.stkFree⟩
  ·have e1:j.cells.lookup y=some c:=e1;have e2:j.cells.lookup z=some c:=e2;rw [D] at e1 e2;refine vJ (λp hp=> ?_) (λy z c a b=>I.ok.inj y z c (cm a).1 (cm b).1) (cG e1) (cG e2);rw [eQ];exact sg (cm (y:=p.1) (c:=p.2) hp).2
  ·show ∃c,j.cells.lookup y=some c;have L:∀k,j.kindOf y=some k->(k= .cell\/k= .free)->∃c,j.cells.lookup y=some c:=λk hk a3=>by
    unfold Env.kindOf at hk;rw [a2] at hk;obtain ⟨Y,e,r⟩:=qQ hk;have:Y= .cell\/Y= .free:=by
     rcases r with rfl | ⟨rfl,_⟩
     ·exact a3
     ·exact .inr rfl
    rcases this with rfl | rfl
    ·obtain ⟨c,G⟩:=vK (n:=(s.heap.push {cls:= .type "dict",data:= .dict #[]}).objs.size) (acc:=df X.env.cells scope.names []) (cG e);obtain ⟨c',J⟩:=mem_lookup G;exact ⟨c',by rw [D];exact J⟩
    ·obtain ⟨c,h1,_⟩:=a0 e;exact ⟨c,h1⟩
   rcases O with O | O
   ·exact L _ O (.inl rfl)
   ·exact L _ O (.inr rfl)
  ·have z:(scope.names.lookup y==some Ed)=true:=z;have z:scope.names.lookup y=some .cell:=by simpa using z
   have e:j.cells.lookup y=some c:=e;rw [D] at e;rcases pD (cG e) with G | ⟨_,h2,_⟩
   ·rcases oE G with G | ⟨h1,_⟩
    ·cases G
    ·have q:=ok.uniq _ h1;rw [z] at q;cases q
   ·rw [eQ] at h2;exact si h2
  ·show b≠j.locals;rw [hL];exact cu (M b hb).2
  ·have e:j.cells.lookup y=some c:=e;rcases a1 e with ⟨h1,_⟩ | ⟨h1,_⟩
   ·exact (M b hb).1.2.2.2.2.1 y c h1 z
   ·have h2:s.heap.objs.size+1<=b:=by rw [<-z];exact h1
    exact absurd (bZ (M b hb).2 (si h2)) (eW _)
  ·rcases (M b hb).1.2.2.2.1 with z | z
   ·exact I.ok.noex b o e z
   ·exact absurd (bZ (aZ e) (cD I.ok.bsz z)) (eW _)
  ·rcases aH.mp (I.stkSub b z) with z | z
   ·exact (M b hb).1.2.1 z
   ·exact (M b hb).1.2.2.1 z
 refine ⟨a7,rfl,I.bare,Un.kept kp,⟨λ_=>none,?_,λi y av e1 e2 N=> ?_⟩,λy c e=> ?_,?_,λy c e=> ?_,λp hp=> ?_,I.hok.kept kp,by rw [oz];exact I.len⟩
 ·show Heap.Ns _ j.locals _;rw [hL];exact Heap.Ns.keeps (Heap.Ns.new ..) λb o e=>rn _ _ _ _ e
 ·obtain ⟨e2,a9⟩:=rQ e2;have U:scope.names.lookup y=some .free/\(j.kindOf y=some .cell\/j.kindOf y=some .free):=by
   have L:∀k,j.scope.names.lookup y=some k->k= .local\/k= .cell\/k= .free->scope.names.lookup y=some .free/\(j.kindOf y=some .cell\/j.kindOf y=some .free):=λk hk a3=>by
    have a5:=hk;rw [a2] at hk;obtain ⟨Y,e,r⟩:=qQ hk;have no:¬(Y= .local\/Y= .cell):=λhh=>by
     rcases ok.own _ (cG e) hh with J | J
     ·obtain ⟨p,hp,a8⟩:=cR.mp J;have N:=ok.ix p hp;have:p.1=y:=a8;rw [this] at N;exact a9 (cR.mpr ⟨p,hp,yB hN N e1⟩)
     ·exact J (bD e1)
    rcases r with rfl | ⟨rfl,rfl⟩
    ·rcases a3 with rfl | rfl | rfl
     ·exact absurd (.inl rfl) no
     ·exact absurd (.inr rfl) no
     ·exact ⟨e,.inr a5⟩
    ·exact ⟨e,.inl a5⟩
   have N:Ms j.scope y:=N;rcases N with N | N | N
   ·exact L _ N (.inl rfl)
   ·exact L _ N (.inr (.inl rfl))
   ·exact L _ N (.inr (.inr rfl))
  obtain ⟨m,hn,hl⟩:=I.loc;have a6:Ms X.env.scope y:=(ok.free _ (cG U.1) rfl).elim (λk=> .inr (.inl k)) (λk=> .inr (.inr k));obtain ⟨w,r,q⟩:=hl i y av e1 e2 a6;refine ⟨w,r,.inr ⟨U.2,?_⟩⟩;obtain ⟨c,h1,h2⟩:=a0 U.1;rcases q with ⟨k,_⟩ | ⟨_,c',J,z⟩
  ·have k:X.env.scope.names.lookup y=some .local:=k;rcases ok.free _ (cG U.1) rfl with Y | Y<;>rw [show X.env.scope.names.lookup y=_ from Y] at k<;>cases k
  ·rw [h2] at J;cases J;exact ⟨c,h1,z.keeps kp⟩
 ·have e:j.cells.lookup y=some c:=e;rcases a1 e with ⟨h1,_⟩ | ⟨_,z⟩
  ·obtain ⟨w,z⟩:=I.cell y c h1;exact ⟨w,z.keeps kp⟩
  ·exact ⟨_,z⟩
 ·show H j.locals=none;rw [hL];exact I.hok.fresh (aO _)
 ·have e:j.cells.lookup y=some c:=e;rcases a1 e with ⟨h1,_⟩ | ⟨h1,_⟩
  ·exact I.freeC y c h1
  ·exact I.hok.fresh (si h1)
 ·exact absurd (show p∈([]:List (af×Obj))++[] from hp) (by simp)
def Kx(I:Inv X pins σ H s)(B:H D=some (.lst xs))(hz:xs.length<a_)(r:RelV y v)(h:∀s',Inv X pins σ (upd H D (.lst (xs++[y]))) s'->Q .none s'):bj (bP X.prog X.w) X.A (DZ (.builtin "list.append") [.ref D,v]) Q E s:=by
 obtain ⟨L,its,n,z,e⟩:=I.hok D _ B;have M:=z.length;refine append_at (hsz:=by rw [bL];omega) e λh' G j=> ?_;refine h {s with heap:=h'} (I.write (t':=s.toks) (by rw [B];trivial) (.inl rfl) (λb u J q=>(G.2 b J).trans q) ⟨_,j⟩ ⟨by rw [bp];exact hz,its++[v],n+1,z.append (.cons r .nil),?_⟩);rw [j];simp
def Py(X:Cx)(ifs:List eM)(t:TT):Prop:=
 ∀(pins:List (af×Obj)) (s:aK) (σ:St) (H:Hp) (Q:Bool->Hp->Prop),Inv X pins σ H s->t σ H Q->
  bj (bP X.prog X.w) X.A (forIn ifs true λc r=>if r=true then do let ok <-RI c X.env (eval c X.env);pure (jn ok) else pure (jn r)) (TP X pins σ Q) X.xe s
def SR:TT:=λ_ H Q=>Q true H
def mx:Py X [] SR:=λ_ _ _ H _ I h=>wpAny_tests_nil ⟨H,I,h⟩
def LY(h:PT X c t):Py X [c] t:=λpins s σ H Q I j=>wpAny_tests_one (h pins s σ H Q I j)
end
def El(h:bj M A t Q (λ_ _=>False) s)(j:∀a s,Q a s->n a s):bj M A t n E s:=ft h j λ_ _ z=>dn z
def tq {prog:be} {w:bN} {A:gt} {R:Result->aK->Prop} {s:aK} {elt target iter:eM} {ifs:List eM} {scope:i_} {pos:Pos} {it acc:al} {env:Env} (I:Nat->aK->Prop)
  (turn:∀n s,I n s->bj (bP prog w) A (uT it) (λr s₁=>match r with
   | none=>R (.ok .next) s₁
   | some v=>bj (bP prog w) A (xo target it v) (λ_ s₁'=>bj (bP prog w) A (KN target env v) (λ_ s₂=>
     bj (bP prog w) A (forIn ifs true λc r=>if r=true then do let ok <-RI c env (eval c env);pure (jn ok) else pure (jn r)) (λok s₃=>
      if ok=true then bj (bP prog w) A (eval elt env) (λx s₄=>
       bj (bP prog w) A (DZ (.builtin "list.append") [acc,x]) (λ_ s₅=>∃m,m<n/\I m s₅) (AO (bP prog w) A env λe s'=>R (.error e) s') s₄) (AO (bP prog w) A env λe s'=>R (.error e) s') s₃
      else ∃m,m<n/\I m s₃) (AO (bP prog w) A env λe s'=>R (.error e) s') s₂) (AO (bP prog w) A env λe s'=>R (.error e) s') s₁') (AO (bP prog w) A env λe s'=>R (.error e) s') s₁) (AO (bP prog w) A env λe s'=>R (.error e) s') s)
  (n:Nat) (h:I n s):
  m_ (bP prog w) A (.compLoop (.ListComp elt [⟨target,iter,ifs,0⟩] scope pos) 0 it acc env) R s:=by
 refine codeAny_loop rfl I (λn s hI=> ?_) n h
 show bj _ A ((compTurn (.ListComp elt [⟨target,iter,ifs,0⟩] scope pos) 0 it acc env).onRaise (λx=>do iK x env;theTreesLotGoes x)) _ _ s
 refine wpAny_noted ?_
 rw [compTurn_list]
 refine ak (kq (ak (ft (turn n s hI) (λr s₁ h₁=> ?_) λ_ _ h'=>h')))
 cases r with
 | none=>exact bh h₁
 | some v=>
  refine ak (ft h₁ (λ_ s₁' h₁'=> ?_) λ_ _ h'=>h')
  refine ak (ft h₁' (λ_ s₂ h₂=>ak (ft h₂ (λok s₃ h₃=> ?_) λ_ _ h'=>h')) λ_ _ h'=>h')
  cases ok with
  | false=>exact bh ⟨rfl,h₃⟩
  | true=>
   exact ak (ak (ft h₃ (λx s₄ h₄=>ak (ft h₄ (λ_ s₅ h₅=>bh (bh ⟨rfl,h₅⟩)) λ_ _ h'=>h')) λ_ _ h'=>h'))
section
variable {X:Cx}
def Pr(G:TI)(g:TG)(I:TT)(te:TE)(vs:List Nat):TE:=λσ H Q=>G σ H λJ H1=>∀D,H1 D=none->∃W:Nat->Nat->Hp->Prop,(∃m,W 0 m (upd H1 D (.lst [])))/\∀i m H,W i m H->
 (J.stop i H/\Q (.ref D) H)\/(J.go i H/\∃n:Hp->Prop,(∀H',n H'->∃q,q<m/\W (i+1) q H')/\∀x H',J.yld i H x H'->g x (jO σ vs) H' λj H2=>jO j vs=jO σ vs/\I j H2 λb B=>
  if b=true then te j B λy z=>∃acc,z D=some (.lst acc)/\acc.length<a_/\n (upd z D (.lst (acc++[y]))) else n B)
def Hy{σ:St}(hc:X.calm=true)(hN:X.N.Nodup)(I:Inv X pins σ H s)(hi:PI X tg iter wi)(ok:BlkOk X.N X.env.scope scope own)(hg:∀(s:aK) (H:Hp) (C:af) (cl:List (Str×af)) (fp:List af),PG (X.blk s H scope (eZ scope cl C X.env) fp) tg g)(ht:∀(s:aK) (H:Hp) (C:af) (cl:List (Str×af)) (fp:List af),Py (X.blk s H scope (eZ scope cl C X.env) fp) ifs tt)(he:∀(s:aK) (H:Hp) (C:af) (cl:List (Str×af)) (fp:List af),PE (X.blk s H scope (eZ scope cl C X.env) fp) elt te)(hs:∀x,iY iter X.env x=pure x)(h:Pr wi g tt te (own.map (·.2)) σ H Q)(hRR:∀D C s' m H',Inv X pins σ H' s'->Q (.ref D) H'->s'.heap.Ns C m->qr X pins H' C->v_ (bP X.prog X.w) X.A X.xe use Qf (.ref D) C (.ok .next) s'):
  bj (bP X.prog X.w) X.A (Bq (.ListComp elt [⟨tg,iter,ifs,0⟩] scope pos) scope X.env pos' (S1 []) false (eval iter X.env) use) Qf X.xe s:=by
 have hfree:∀y∈scope.names,y.2= .free->∃c,X.env.cells.lookup y.1=some c:=λy hy e=>by
  rcases ok.free y hy e with k | k
  ·exact I.ok.has _ (.inl k)
  ·exact I.ok.has _ (.inr k)
 refine MQ (use:=use) rfl hs (jQ hfree) ok.kind (λy hy e=>by rw [ok.uniq y hy,e])
  (gL (hi pins s σ H _ I h) λxv s1 hx=>gL hx λitv s2 h2=> ?_)
 obtain ⟨it,fp,tn,J,H2,e,I2,T,st2,f2,q⟩:=h2
 subst e
 refine Eo (uI ?_) (by show 0<=a_;decide)
 generalize hD:s2.heap.objs.size=D
 have hDn:H2 D=none:=I2.hok.fresh (nL hD)
 obtain ⟨W,⟨m0,w0⟩,turn⟩:=q D hDn
 generalize hs3:({s2 with heap:=s2.heap.push {cls:= .type "list",data:= .seq ([]:List al).toArray}}:aK)=s3
 have I3:Inv X pins σ (upd H2 D (.lst [])) s3:=by
  rw [<-hs3]
  refine I2.laid (t':=s2.toks) (λb o e=>aq _ e) (nL hD) ⟨cy _,[],0,.nil,?_⟩
  rw [<-hD]
  exact bG _ rfl
 have h3:s3.heap=s2.heap.push {cls:= .type "list",data:= .seq ([]:List al).toArray}:=by rw [<-hs3]
 have sz:∀b∈fp,b<s2.heap.objs.size:=λb hb=>by
  obtain ⟨o,e,_⟩:=T.obj _ _ st2 b hb
  exact aZ e
 have f3:∀b∈fp,qr X pins (upd H2 D (.lst [])) b/\b<s3.heap.objs.size:=λb hb=>by
  have hlt:=sz b hb
  refine ⟨⟨?_,(f2 b hb).2⟩,by rw [h3,eQ];exact sg hlt⟩
  rw [aC (by rw [<-hD];exact cu hlt)]
  exact (f2 b hb).1
 have st3:tn 0 s3.heap:=T.keep _ _ _ st2 λb _ o e=>by rw [h3];exact aq _ e
 have I4:=uQ I3 ok hN f3
 have pg:=hg s3 (upd H2 D (.lst [])) s3.heap.objs.size (eo (s3.heap.objs.size+1) scope.names (df X.env.cells scope.names [])) fp
 have pt:=ht s3 (upd H2 D (.lst [])) s3.heap.objs.size (eo (s3.heap.objs.size+1) scope.names (df X.env.cells scope.names [])) fp
 have pe:=he s3 (upd H2 D (.lst [])) s3.heap.objs.size (eo (s3.heap.objs.size+1) scope.names (df X.env.cells scope.names [])) fp
 show m_ _ _ (.compStart (.ListComp elt [⟨tg,iter,ifs,0⟩] scope pos) 0 (.ref it) (.ref D) (eZ scope (eo (s3.heap.objs.size+1) scope.names (df X.env.cells scope.names [])) s3.heap.objs.size X.env)) (v_ (bP X.prog X.w) X.A X.xe use Qf (.ref D) s3.heap.objs.size) {s3 with heap:=on (s3.heap.push {cls:= .type "dict",data:= .dict #[]}) scope.names}
 have nfp:∀b∈fp,(upd H2 D (.lst [])) b=none:=λb hb=>(f3 b hb).1.1
 generalize hce:eZ scope (eo (s3.heap.objs.size+1) scope.names (df X.env.cells scope.names [])) s3.heap.objs.size X.env=ce at I4 pg pt pe ⊢
 have cL:ce.locals=s3.heap.objs.size:=by subst hce;rfl
 generalize hH3:upd H2 D (.lst [])=H3 at I3 I4 pg pt pe w0 nfp f3
 generalize hs4:({s3 with heap:=on (s3.heap.push {cls:= .type "dict",data:= .dict #[]}) scope.names}:aK)=s4 at I4 ⊢
 have st4:tn 0 s4.heap:=T.keep _ _ _ st3 λb _ o e=>by rw [<-hs4];exact rn _ _ _ _ (aq _ e)
 have stat:∀{σ':St} {H':Hp} {s':aK},Inv (X.blk s3 H3 scope ce fp) [] σ' H' s'->(∀b∈fp,H' b=none)->∀b∈fp,qr (X.blk s3 H3 scope ce fp) [] H' b:=λ{σ' H' s'} I' hn b hb=>
  ⟨hn b hb,(I'.ok.exf b hb).1,I'.ok.exfs b hb,.inl hb,λx c e=>(I'.ok.exf b hb).2 x c e,λp hp=>absurd (show p∈([]:List (af×Obj))++[] from hp) (by simp)⟩
 have loop:m_ (bP X.prog X.w) X.A (.compLoop (.ListComp elt [⟨tg,iter,ifs,0⟩] scope pos) 0 (.ref it) (.ref D) ce) (v_ (bP X.prog X.w) X.A X.xe use Qf (.ref D) s3.heap.objs.size) s4:=by
  refine tq (λn s'=>∃i H',Inv (X.blk s3 H3 scope ce fp) [] (jO σ (own.map (·.2))) H' s'/\tn i s'.heap/\(∀b∈fp,H' b=none)/\W i n H') ?_ m0 ⟨0,H3,I4,st4,nfp,w0⟩
  rintro n s5 ⟨i,H5,I5,st5,n5,w5⟩
  rcases turn i n H5 w5 with ⟨stop,qq⟩ | ⟨go,Nx,hNx,step⟩
  ·have td:=T.done (X.blk s3 H3 scope ce fp) rfl rfl rfl hc i [] s5 _ H5 (λ_ _=>False) I5 (stat I5 n5) st5 stop
   refine El td λr s6 ⟨hr,I6⟩=> ?_
   subst hr
   have I7:Inv X pins σ H5 s6:=I3.call' (ch:=fp) I6.os I6.base I6.hok I6.bare λb hb=>⟨(f3 b hb).1.2.2.2.1,(f3 b hb).1.2.1,(f3 b hb).1.2.2.2.2.1,(f3 b hb).1.2.2.2.2.2⟩
   have nC:H5 s3.heap.objs.size=none:=by
    have z:H5 ce.locals=none:=I6.free
    rw [cL] at z
    exact z
   obtain ⟨m,hn,_⟩:=I6.loc
   have hn:s6.heap.Ns ce.locals m:=hn
   rw [cL] at hn
   exact hRR D s3.heap.objs.size s6 m H5 I7 qq hn (I3.fpOk (aO _) nC)
  ·have ti:=T.item (X.blk s3 H3 scope ce fp) rfl rfl rfl hc i [] s5 _ H5 (λ_ _=>False) I5 (stat I5 n5) st5 go
   refine El ti λr s6 ⟨u,hr,h6⟩=> ?_
   subst hr
   refine El h6 λ_ s7 ⟨x,H7,I7,r7,y7,st7,n7⟩=> ?_
   have I7':=I7.pinned (stat I7 n7) (T.obj _ _ st7)
   refine El (pg _ s7 _ H7 x u _ I7' r7 (step x H7 y7)) λ_ s8 ⟨σ8,H8,I8,hw8,q8⟩=> ?_
   refine El (pt _ s8 σ8 H8 _ I8 q8) λb s9 ⟨H9,I9,q9⟩=> ?_
   have fin:∀{s':aK} {H':Hp},Inv (X.blk s3 H3 scope ce fp) ([]++uH fp s7.heap) σ8 H' s'->Nx H'->∃m,m<n/\∃i H',Inv (X.blk s3 H3 scope ce fp) [] (jO σ (own.map (·.2))) H' s'/\tn i s'.heap/\(∀b∈fp,H' b=none)/\W i m H':=λ{s' H'} I' nx=>by
    obtain ⟨m',hm,w'⟩:=hNx H' nx
    have pin':∀b∈fp,∀o,s7.heap.get? b=some o->s'.heap.get? b=some o/\H' b=none:=λb hb o e=>
     let z:=I'.pin (b,o) (du _ (du _ (nD hb e)))
     ⟨z.1,z.2.1⟩
    have hl:(jO σ (own.map (·.2))).length=σ8.length:=by rw [<-hw8,oz]
    refine ⟨m',hm,i+1,H',(I'.unpinned (pins:=[])).weak hl (λj v e=> ?_),T.keep _ _ _ st7 λb hb o e=>(pin' b hb o e).1,λb hb=> ?_,w'⟩
    ·rw [<-hw8] at e
     exact (rQ e).1
    ·obtain ⟨o,e,_⟩:=T.obj _ _ st7 b hb
     exact (pin' b hb o e).2
   cases b with
   | false=>
    simp only [lV,if_false] at q9 ⊢
    exact fin I9 q9
   | true=>
    simp only [if_true] at q9 ⊢
    refine El (pe _ s9 σ8 H9 _ I9 q9) λz s10 ⟨yv,H10,I10,r10,acc,hD10,hz10,nx⟩=> ?_
    exact Kx (X:=X.blk s3 H3 scope ce fp) I10 hD10 hz10 r10 λs11 I11=>fin I11 nx
 exact OP loop (T.self X.A 0 _ _ _ st4 loop)
def yy(U:X.calm=true)(hN:X.N.Nodup)(hi:PI X tg iter z)(ok:BlkOk X.N X.env.scope scope own)(N:∀(s:aK) (H:Hp) (C:af) (cl:List (Str×af)) (j:List af),PG (X.blk s H scope (eZ scope cl C X.env) j) tg g)(J:∀(s:aK) (H:Hp) (C:af) (cl:List (Str×af)) (j:List af),Py (X.blk s H scope (eZ scope cl C X.env) j) n B)(O:∀(s:aK) (H:Hp) (C:af) (cl:List (Str×af)) (j:List af),PE (X.blk s H scope (eZ scope cl C X.env) j) elt te)(L:∀x,iY iter X.env x=pure x:=by intro _;rfl):
  PE X (.ListComp elt [⟨tg,iter,n,0⟩] scope pos) (Pr z g B te (own.map (·.2))):=by
 intro pins s σ H Q I h;rw [Vv];refine Hy U hN I hi ok N J O L h λD C s' m H' I' q M f=>⟨m,M,λa0 G=> ?_⟩
 obtain ⟨f0,f1,f2,f3,f4,f5⟩:=f;exact ⟨.ref D,H',I'.turned (t':=s'.toks) (λb o Y e=>(G.2 b Y).trans e) f0 f1 f3 f4 f5,rfl,q⟩
def Jg(hc:X.calm=true)(hN:X.N.Nodup)(hy:X.N[i]? =some y)(B:X.env.scope.names.lookup y=some .local)(N:se (.ListComp elt [⟨tg,iter,j,0⟩] scope pos) (some (.Name y J)) G.line X.env=pure true)(hi:PI X tg iter U)(ok:BlkOk X.N X.env.scope scope own)(hg:∀(s:aK) (H:Hp) (C:af) (cl:List (Str×af)) (n:List af),PG (X.blk s H scope (eZ scope cl C X.env) n) tg g)(ht:∀(s:aK) (H:Hp) (C:af) (cl:List (Str×af)) (n:List af),Py (X.blk s H scope (eZ scope cl C X.env) n) j Y)(he:∀(s:aK) (H:Hp) (C:af) (cl:List (Str×af)) (n:List af),PE (X.blk s H scope (eZ scope cl C X.env) n) elt te)(hs:∀x,iY iter X.env x=pure x:=by intro _;rfl):
  PS X (.Assign [.Name y J] (.ListComp elt [⟨tg,iter,j,0⟩] scope pos) G) (Ob (Pr U g Y te (own.map (·.2))) (wB i)):=by
 intro pins s σ H D I h;rw [P4 _ _ _ _ N];refine ak (kq (ak ?_));show bj _ X.A (do let _ <-Bq (.ListComp elt [⟨tg,iter,j,0⟩] scope pos) scope X.env (VW [⟨tg,iter,j,0⟩] pos) (S1 []) false (eval iter X.env) (some (KN (.Name y J) X.env))) _ _ s;have h:Pr U g Y te (own.map (·.2)) σ H (λx H1=>wB i x σ H1 D.nx):=h;refine ak (gL (Hy (Qf:=λ_ s'=>SP X pins D .next s') hc hN I hi ok hg ht he hs h λL C s' m H' I' q hn f=> ?_) λ_ s' hq=>bh (bh hq));show bj _ _ (KN (.Name y J) X.env (.ref L)) _ _ _;refine Ep (vF (v:=WA L) I' hN hy (.inl B) rfl (λs2 I2 ⟨a,sb,ha⟩=> ?_) (.inr B));obtain ⟨f0,f1,f2,f3,f4,f5⟩:=f;have O:C≠a:=by
  rcases ha with z | z
  ·rw [z];exact f1
  ·exact λe=>f4 y a z e.symm
 refine ⟨m,hn.sameBut sb O,λh3 M=> ?_⟩;exact ⟨_,H',I2.turned (t':=s2.toks) (λb o hb e=>(M.2 b hb).trans e) f0 f1 f3 f4 f5,q⟩
def Hn {elt:eM} {J:List Comprehension} {scope:i_} {pos j:Pos} {y:Str} {l:Nat} {env:Env} (D:env.scope.kind= .function) (z:env.scope.names.lookup y=some .local) (B:(j.line==pos.line)=true)
  (I:(scope.names.any λ(n,k)=>n==y&&(k== .local||k== .cell))=false):se (.ListComp elt J scope pos) (some (.Name y j)) l env=pure true:=by
 have q:env.kindOf y=some .local:=z;have G:env.blockKind= .function:=by unfold Env.blockKind;rw [D];rfl
 unfold se;simp only [G,q,I,Expr.pos,B];rfl
end
def Dv{lo}{g : TG}{I : TT}{te : TE}{L : Hp -> Prop}(Pv : Nat -> Hp -> Prop)(h0 : Pv 0 (upd H1 D (.lst [])))(N : ∀ i H, i < n -> Pv i H -> g (.int (lo + i)) (jO σ vs) H λj H2 => jO j vs = jO σ vs /\ I j H2 λb B =>
      if b = true then te j B λy z => ∃ acc, z D = some (.lst acc) /\ acc.length < a_ /\ Pv (i + 1) (upd z D (.lst (acc ++ [y]))) else Pv (i + 1) B)(O : ∀ H, Pv n H -> L H):
    ∃ W : Nat -> Nat -> Hp -> Prop, (∃ m, W 0 m (upd H1 D (.lst []))) /\ ∀ i m H, W i m H ->
      ((RB lo n).stop i H /\ L H) \/ ((RB lo n).go i H /\ ∃ G : Hp -> Prop, (∀ H', G H' -> ∃ J, J < m /\ W (i + 1) J H') /\ ∀ x H', (RB lo n).yld i H x H' -> g x (jO σ vs) H' λj H2 => jO j vs = jO σ vs /\ I j H2 λb B =>
        if b = true then te j B λy z => ∃ acc, z D = some (.lst acc) /\ acc.length < a_ /\ G (upd z D (.lst (acc ++ [y]))) else G B) := by
  refine ⟨λi m H => m = n - i /\ i <= n /\ Pv i H, ⟨n, by simp, cy _, h0⟩, ?_⟩;rintro i m H ⟨rfl, hi, p⟩;by_cases q : i < n
  · refine .inr ⟨q, Pv (i + 1), λH' M => ⟨n - (i + 1), by omega, rfl, q, M⟩, λx H' y => ?_⟩
    obtain ⟨e, y⟩ := y;subst e y;exact N i _ q p
  · have e : i = n := by omega
    subst e;exact .inl ⟨aO _, O H p⟩
def pw{K}{g : TG}{I : TT}{te : TE}{L : Hp -> Prop}(Pv : Nat -> Hp -> Prop)(h0 : Pv 0 (upd H1 D (.lst [])))(O : ∀ i H, i <= xs.length -> Pv i H -> SqL K H a xs)(N : ∀ i x H, xs[i]? = some x -> Pv i H -> g x (jO σ vs) H λj H2 => jO j vs = jO σ vs /\ I j H2 λb z =>
      if b = true then te j z λy n => ∃ acc, n D = some (.lst acc) /\ acc.length < a_ /\ Pv (i + 1) (upd n D (.lst (acc ++ [y]))) else Pv (i + 1) z)(U : ∀ H, Pv xs.length H -> L H):
    ∃ W : Nat -> Nat -> Hp -> Prop, (∃ m, W 0 m (upd H1 D (.lst []))) /\ ∀ i m H, W i m H ->
      ((PB K a).stop i H /\ L H) \/ ((PB K a).go i H /\ ∃ G : Hp -> Prop, (∀ H', G H' -> ∃ J, J < m /\ W (i + 1) J H') /\ ∀ x H', (PB K a).yld i H x H' -> g x (jO σ vs) H' λj H2 => jO j vs = jO σ vs /\ I j H2 λb z =>
        if b = true then te j z λy n => ∃ acc, n D = some (.lst acc) /\ acc.length < a_ /\ G (upd n D (.lst (acc ++ [y]))) else G z) := by
  refine ⟨λi m H => m = xs.length - i /\ i <= xs.length /\ Pv i H, ⟨xs.length, by simp, cy _, h0⟩, ?_⟩;rintro i m H ⟨rfl, hi, p⟩;have q := O i H hi p;by_cases B : i < xs.length
  · refine .inr ⟨⟨xs, xs[i], q, by simp [B]⟩, Pv (i + 1), λH' M => ⟨xs.length - (i + 1), by omega, rfl, B, M⟩, λx H' y => ?_⟩
    obtain ⟨e, y⟩ := y;subst e;exact N i x _ (y xs q) p
  · have e : i = xs.length := by omega
    subst e;exact .inl ⟨⟨xs, q, aO _⟩, U H p⟩
def Ry(N:List Str)(j scope:i_)(own:List (Str×Nat)):Bool:=
 (match scope.kind with | .function=>true | _=>false)&&(scope.names.all λy=>decide (scope.names.lookup y.1=some y.2))&&(own.all λp=>decide (N[p.2]? =some p.1))&&
  (scope.names.all λy=>match y.2 with
   | .free=>(match j.names.lookup y.1 with | some .cell=>true | some .free=>true | _=>false)
   | .local=>decide (y.1∈own.map (·.1))||decide (y.1∉N)
   | .cell=>decide (y.1∈own.map (·.1))||decide (y.1∉N)
   | _=>true)
def jt(h:Ry N z scope own=true):BlkOk N z scope own:=by
 unfold Ry at h;simp only [dS,eU,decide_eq_true_eq] at h;obtain ⟨⟨⟨h1,h2⟩,B⟩,n⟩:=h;refine ⟨?_,h2,B,λy j e=> ?_,λy j e=> ?_⟩
 ·split at h1
  ·assumption
  ·cases h1
 ·have q:=n y j;simp only [e] at q;split at q<;>first | exact .inl (by assumption) | exact .inr (by assumption) | cases q
 ·have q:=n y j;rcases e with e | e<;>(simp only [e,jJ,decide_eq_true_eq] at q;exact q)
section
variable {κ:Type} [DecidableEq κ]
def lO (kvs:List (κ×V)) (k:κ):Option V:=(kvs.find? λj=>decide (j.1=k)).map (·.2)
def Em (kvs:List (κ×V)) (k:κ) (v:V):List (κ×V):=
 if (kvs.any λj=>decide (j.1=k))=true then kvs.map (λj=>if j.1=k then (j.1,v) else j) else kvs++[(k,v)]
def jp{k:κ}(e:p.1=k):lO (p::r) k=some p.2:=by simp [lO,gT,e]
def jq{k:κ}(e:¬p.1=k):lO (p::r) k=lO r k:=by simp [lO,gT,e]
theorem uG(k):∀kvs:List (κ×V),(kvs.any λj=>decide (j.1=k))=(lO kvs k).isSome
 | []=>rfl
 | p::r=>by
  rw [sk];by_cases e:p.1=k
  ·simp only [jp e,decide_eq_true e,Bool.true_or,MA]
  ·rw [jq e,decide_eq_false e,Bool.false_or];exact uG k r
theorem CO(k j)(y):∀kvs:List (κ×V),lO (kvs.map λn=>if n.1=k then (n.1,y) else n) j=(lO kvs j).map λx=>if j=k then y else x
 | []=>rfl
 | p::r=>by
  have q:=CO k j y r;rw [dI];by_cases h:p.1=k
  ·rw [if_pos h];by_cases e:p.1=j
   ·rw [jp (p:=(p.1,y)) e,jp e,tY,if_pos (e.symm.trans h)]
   ·rw [jq (p:=(p.1,y)) e,jq e,q]
  ·rw [if_neg h];by_cases e:p.1=j
   ·rw [jp (p:=p) e,jp e,tY,if_neg (λz=>h (e.trans z))]
   ·rw [jq (p:=p) e,jq e,q]
theorem zH(k j)(y):∀kvs:List (κ×V),lO kvs k=none->lO (kvs++[(k,y)]) j=if j=k then some y else lO kvs j
 | [],_=>by
  by_cases e:k=j
  ·rw [if_pos e.symm];exact jp (p:=(k,y)) e
  ·rw [if_neg (λz=>e z.symm)];exact jq (p:=(k,y)) e
 | p::r,n=>by
  rw [gi];have q:¬p.1=k:=λz=>by rw [jp z] at n;cases n
  rw [jq q] at n;have B:=zH k j y r n;by_cases e:p.1=j
  ·rw [jp e,jp e,if_neg (λz=>q (e.trans z))]
  ·rw [jq e,jq e,B]
def J8(kvs)(k j:κ)(y):lO (Em kvs k y) j=if j=k then some y else lO kvs j:=by
 unfold Em;by_cases a:(kvs.any λn=>decide (n.1=k))=true
 ·rw [if_pos a,CO];rw [uG] at a;by_cases e:j=k
  ·obtain ⟨x,z⟩:=lz.mp a;rw [if_pos e,e,z,tY,if_pos rfl]
  ·rw [if_neg e];cases lO kvs j with
   | none=>rfl
   | some x=>rw [tY,if_neg e]
 ·rw [if_neg a];refine zH k j y kvs ?_;rw [uG] at a;cases q:lO kvs k with
  | none=>rfl
  | some x=>rw [q] at a;exact (a rfl).elim
def uJ(kvs)(k:κ)(v):(Em kvs k v).length<=kvs.length+1:=by
 unfold Em;split
 ·rw [am];omega
 ·rw [bp,aF,pF];omega
def RelO.isSome_eq(r:RelO o u):o.isSome=u.isSome:=by
 cases o with
 | none=>cases u with
  | none=>rfl
  | some _=>exact (show False from r).elim
 | some _=>cases u with
  | none=>exact (show False from r).elim
  | some _=>rfl
theorem RelO.getD(r:RelO o u)(j:RelV d d'):RelV (o.getD d) (u.getD d'):=by
 cases o with
 | none=>cases u with
  | none=>exact j
  | some _=>exact (show False from r).elim
 | some _=>cases u with
  | none=>exact (show False from r).elim
  | some _=>exact r
def KV.val(r:KV kvs vs)(k:κ):RelO (lO kvs k) (Er vs k):=by
 unfold KV at r
 induction r with
 | nil=>exact oH
 | @cons p q ps j h t B=>
  obtain ⟨h1,h2⟩:=h;by_cases e:p.1=k
  ·have n:q.1=k:=h1.symm.trans e;have b:Er (q::j) k=some q.2:=by simp [Er,gT,n]
   rw [jp e,b];exact h2
  ·have n:¬q.1=k:=λz=>e (h1.trans z);have b:Er (q::j) k=Er j k:=by simp [Er,gT,n]
   rw [jq e,b];exact B
end
def Jt(r:RelV (kV k) u):(iG P w).is k u=true:=by
 cases k with
 | inl i=>obtain ⟨t,e⟩:=(show ∃t,u=wE i t from r);subst e;exact AI P w i t
 | inr x=>obtain ⟨t,e⟩:=(show ∃t,u=HV x t from r);subst e;exact qP P w x t
theorem zX:∀{ks:List vU} {us:List al},Wn (ks.map kV) us->ItemsAre (iG P w) ks us
 | [],_,r=>by rw [JY] at r;cases r;exact .nil
 | k::ks,_,r=>by
  rw [dI] at r;cases r with
  | cons h t=>exact .cons (Jt h) (zX t)
abbrev KT(H:Hp):List (List vU×V)->List (List vU×af×al)->Prop:=fW λp q=>p.1=q.1/\H q.2.1=some (.tup (p.1.map kV))/\RelV p.2 q.2.2
def KT.val(r:KT H kvs xs)(k):RelO (lO kvs k) ((Br xs k).map (·.2)):=by
 induction r with
 | nil=>exact oH
 | @cons p q ps j h t B=>
  obtain ⟨h1,_,h2⟩:=h;by_cases e:p.1=k
  ·have n:q.1=k:=h1.symm.trans e;have b:Br (q::j) k=some q.2:=by simp [Br,gT,n]
   rw [jp e,b];exact h2
  ·have n:¬q.1=k:=λz=>e (h1.trans z);have b:Br (q::j) k=Br j k:=by simp [Br,gT,n]
   rw [jq e,b];exact B
def KT.repl(r:KT H kvs xs)(k)(n:RelV y u):
  KT H (kvs.map λj=>if j.1=k then (j.1,y) else j) (xs.map (putAt k u)):=by
 induction r with
 | nil=>exact .nil
 | @cons p q ps G h t B=>
  rw [dI,dI];refine .cons ?_ B;obtain ⟨h1,h2,D⟩:=h;unfold putAt;by_cases e:p.1=k
  ·rw [if_pos e,if_pos (h1.symm.trans e)];exact ⟨h1,h2,n⟩
  ·rw [if_neg e,if_neg (λz=>e (h1.trans z))];exact ⟨h1,h2,D⟩
def KT.put(r:KT H kvs xs)(k)(z:H b=some (.tup (k.map kV)))(j:RelV y u):
  KT H (Em kvs k y) (RY xs k b u):=by
 have e:(kvs.any λn=>decide (n.1=k))=(Br xs k).isSome:=by
  rw [uG,(r.val k).isSome_eq,Option.isSome_map]
 unfold Em RY;rw [e];by_cases q:(Br xs k).isSome=true
 ·rw [if_pos q,if_pos q];exact r.repl k j
 ·rw [if_neg q,if_neg q];exact Paired.snoc r ⟨rfl,z,j⟩
def KT.keeps(r:KT H kvs xs)(j:∀b ys,H b=some (.tup ys)->H' b=some (.tup ys)):KT H' kvs xs:=
 Wp r λ_ _ z=>⟨z.1,j _ _ z.2.1,z.2.2⟩
section
variable {P:be} {w:bN} {H:Hp} {h:cz} {a:af}
def Og(ok:HOk P w H h)(e:Rd H a u):Wo P w H h a u:=e.ok ok
def OH(ok:HOk P w H h)(e:Rd H a (.dK kvs)):kvs.length<=a_/\(a==jk)=false/\∃vs,KV kvs vs/\h.DictOf (iG P w) a vs:=
 show Wo P w H h a (.dK kvs) from Og ok e
def Hz(ok:HOk P w H h)(e:H a=some (.tup (ks.map kV))):(vZ (iG P w)).is h ks a:=by
 obtain ⟨_,its,r,o,h1,h2,n,j⟩:=(show Wo P w H h a (.tup (ks.map kV)) from ok a _ e)
 exact ⟨o,its.toArray,n,h1,h2,j,by simpa using zX r⟩
def Mm(ok:HOk P w H h)(e:Rd H a (.dT kvs)):kvs.length<=a_/\(a==jk)=false/\
  ∃xs,KT H kvs xs/\h.DictOfH (vZ (iG P w)) a xs:=by
 obtain ⟨z,y,xs,r,o,es,ep,h1,h2,I,G,D⟩:=(show Wo P w H h a (.dT kvs) from Og ok e)
 refine ⟨z,y,xs,r,o,es,ep,h1,h2,I,G,λx j=> ?_,D⟩;have all:∀{l:List (List vU×V)} {m:List (List vU×af×al)},KT H l m->∀x∈m,(vZ (iG P w)).is h x.1 x.2.1:=by
  intro l m q
  induction q with
  | nil=>intro x j;exact nomatch j
  | @cons p q ps J n t B=>
   intro x j;rcases aH.mp j with e | j
   ·subst e;exact Hz ok (by rw [<-n.1];exact n.2.1)
   ·exact B x j
 exact all r x j
def QJ(ok:HOk P w H h)(e:H a=some (.dT kvs)):kvs.length<=a_/\(a==jk)=false/\
  ∃xs,KT H kvs xs/\h.DictOfH (vZ (iG P w)) a xs:=Mm ok (.inl e)
end
def DGet(H:Hp)(a:af)(y:V)(r:Option V):Prop:=
 (∃kvs k,Rd H a (.dK kvs)/\y=kV k/\r=lO kvs k)\/∃kvs k b,Rd H a (.dT kvs)/\y= .ref b/\H b=some (.tup (k.map kV))/\r=lO kvs k
def DGet.t{k}(e:H a=some (.dT kvs))(j:H b=some (.tup (k.map kV))):DGet H a (.ref b) (lO kvs k):= .inr ⟨kvs,k,b,.inl e,rfl,j,rfl⟩
section
variable {X:Cx} {pins:List (af×Obj)} {σ:St} {H:Hp} {s:aK} {a:af} {y v:V} {u r:al} {o:Option V} {A:gt} {E:al→aK→Prop}
def Inv.big(I:Inv X pins σ H s):jk<s.heap.objs.size:=by
 have h:ax<s.heap.objs.size:=(I.mod.glob.keeps I.bk).lt;exact TQ (by decide) h
def Mo(I:Inv X pins σ H s)(B:Pz (H a))(D:jy a s.heap h')(G:∃q,h'.get? a=some q)(j:Wo X.prog X.w (upd H a n) h' a n):
  Inv X pins σ (upd H a n) {s with heap:=h',toks:=t'}:=
 I.write (x:=a) (e:=a) B (.inl rfl) (λb q J z=>(D.2 b J).trans z) G j
end
def Rz(i:eM):Prop:=∀j iv,HS i false j iv=VT [j,iv] (ON j iv)
def LU{T id}(M:qd (.type T) "__getitem__"=pure (some (.builtin id)))(L:Rz j)(h:bj (bP prog w) A (eval value env) (λo B=>bj (bP prog w) A (eval j env) (λi n=>n.TypeIs o T/\bj (bP prog w) A (ON o i) Q E n) E B) E s):
  bj (bP prog w) A (eval (.Subscript value j pos) env) Q E s:=by
 refine RL (ft h (λo B I=>ft I (λi n q=> ?_) λ_ _ x=>x) λ_ _ x=>x);obtain ⟨J,q⟩:=q;unfold MW;refine ak ?_;rw [getitemInPython_of_ne J.not_modules];refine ak (JI J M ?_);have D:bj (bP prog w) A (HS j false o i) (λr z=>bj (bP prog w) A (letTemporaryGo value o r>>= λ_=>pure r) Q E z) E n:=by
  rw [L o i];exact wpAny_operating (ft q (λr z G=>ak (wpAny_letTemporaryGo (bh G))) λ_ _ x=>x)
 first
  | exact bh (ak D)
  | exact ak (bh (ak D))
  | exact ak D
def Jz(h:cz)(j:jk<h.objs.size):Wo P w H (h.push {cls:= .type "dict",data:= .dict #[]}) h.objs.size (.dT []):=
 ⟨cy _,beq_eq_false_iff_ne.mpr (dO (cu j)),[],.nil,_,#[],0,bG _ rfl,⟨rfl,rfl,rfl⟩,rfl,rfl,List.nodup_nil⟩
def O7:TE:=λ_ H Q=>∀p,H p=none->Q (.ref p) (upd H p (.dT []))
section
variable {X:Cx} {pos:Pos}
def Jl:PE X (.Dict [] [] pos) O7:=λpins s σ H Q I h=>
 wpAny_Dict_empty ⟨.ref s.heap.objs.size,_,I.laid (a:=s.heap.objs.size) (o:= .dT []) (t':=s.toks) (λ_ _ q=>aq _ q) (aO _) (Jz s.heap I.big),rfl,h _ (I.hok.fresh (aO _))⟩
end
structure M1 (X:Cx) (o:eM) (m:Str) (apos:Pos) (e:eM) (cpos:Pos):Prop where
 base:mP o m X.env (eval o X.env)=eval o X.env
 few:((fV cpos (bx [e] X.env)).all (fun x=> !x.1)&&(KL cpos (A7 [] X.env)).all (fun x=>x.1.isSome)
  &&decide (([e]:List eM).length+([]:List Et).length+(if ([]:List Et).isEmpty then 0 else 1)<30))=true
 line:(apos.endLine==cpos.line)=true
 trees:fV cpos (bx [e] X.env)=[(false,eval e X.env)]
structure M2 (X:Cx) (o:eM) (m:Str) (apos:Pos) (e f:eM) (cpos:Pos):Prop where
 base:mP o m X.env (eval o X.env)=eval o X.env
 few:((fV cpos (bx [e,f] X.env)).all (fun x=> !x.1)&&(KL cpos (A7 [] X.env)).all (fun x=>x.1.isSome)
  &&decide (([e,f]:List eM).length+([]:List Et).length+(if ([]:List Et).isEmpty then 0 else 1)<30))=true
 line:(apos.endLine==cpos.line)=true
 trees:fV cpos (bx [e,f] X.env)=[(false,eval e X.env),(false,eval f X.env)]
def U1(H:Hp)(a:af):Prop:=(∃kvs,Rd H a (.dK kvs))\/∃kvs,Rd H a (.dT kvs)
def Ks{σ:St}(I:Inv X pins σ H s)(d:U1 H a):
  s.TypeIs (.ref a) "dict"/\(∀b,bO a= .ref b->∃j,s.heap.get? b=some j/\j.dict=none)/\(a==jk)=false:=by
 rcases d with ⟨kvs,e⟩ | ⟨kvs,e⟩
 ·obtain ⟨_,z,B,_,n⟩:=OH I.hok e;refine ⟨n.typeIs,λb q=> ?_,z⟩;cases q;obtain ⟨j,_,_,h1,h2,_⟩:=n;exact ⟨j,h1,h2.2.1⟩
 ·obtain ⟨_,z,xs,_,n⟩:=Mm I.hok e;refine ⟨n.typeIs,λb q=> ?_,z⟩;cases q;obtain ⟨j,_,_,h1,h2,_⟩:=n;exact ⟨j,h1,h2.2.1⟩
section
variable {X:Cx} {pins:List (af×Obj)} {σ:St} {H:Hp} {s:aK} {a:af} {y d:V} {u r:al} {o:Option V} {A:gt} {E:al→aK→Prop}
def OI(L:A.units+1<KJ)(I:Inv X pins σ H s)(g:DGet H a y o)(G:RelV y u)(J:RelV d r)(h:∀D s',Inv X pins σ H s'->RelV (o.getD d) D->Q D s'):
  bj (bP X.prog X.w) A (DZ (.builtin "dict.get") [.ref a,u,r]) Q E s:=by
 rcases g with ⟨kvs,k,e,B,l⟩ | ⟨kvs,k,b,e,B,M,l⟩
 ·subst B;obtain ⟨z,q,N,j,n⟩:=OH I.hok e;refine OR tX n.typeIs HM (G2 _ _ _) (meets_dict_get_default (iG X.prog X.w) a (Jt G) q r) ⟨_,n.mapOf,h _ _ (I.tok _) ?_⟩;rw [l];exact (j.val k).getD J
 ·subst B;cases (show u=bO b from G);obtain ⟨z,q,xs,j,n⟩:=Mm I.hok e;refine OR tX n.typeIs HM (G2 _ _ _) (meetsH_dict_get_default (vZ (iG X.prog X.w)) a b q r) ⟨RG L,k,xs,Hz I.hok M,n,h _ _ (I.tok _) ?_⟩;rw [l];exact (j.val k).getD J
end
def O8(td ty tx:TE):TE:=λσ H Q=>td σ H λx H1=>∃a,x= .ref a/\U1 H1 a/\ty σ H1 λy H2=>tx σ H2 λz j=>∃o,DGet j a y o/\Q (o.getD z) j
section
variable {X:Cx} {o e f:eM} {apos cpos:Pos} {td ty tx:TE}
def Jm(U:X.A.units+1<KJ)(Y:PE X o td)(he:PE X e ty)(hf:PE X f tx)(m:M2 X o "get" apos e f cpos):PE X (.Call (.Attribute o "get" apos) [e,f] [] cpos) (O8 td ty tx):=by
 intro pins s σ H Q I h;refine RX m.base m.few m.line F_ tX PySem.F.type_dict_get (gL (Y pins s σ H _ I h) λu D ⟨x,H1,n,L,a,ex,d,O⟩=> ?_);subst ex;obtain rfl:u=bO a:=L;obtain ⟨t1,q,_⟩:=Ks n d;refine ⟨t1,q,?_⟩;rw [m.trees];refine mQ rfl (oR (ir (gL (he pins D σ H1 _ n O) λiv B ⟨y,H2,I2,J,N⟩=>
  ir (gL (hf pins B σ H2 _ I2 N) λfv s3 ⟨z,H3,I3,G,ov,g,M⟩=>rE ?_))))
 exact OI U I3 g J G λw' s4 I4 j=>⟨_,H3,I4,j,M⟩
end
section
variable {X:Cx} {pins:List (af×Obj)} {σ:St} {H:Hp} {s:aK} {h':cz}
def Inv.turnedL{ch:List af}(I:Inv X pins σ H s)(k:∀b o,b∉ch->s.heap.get? b=some o->h'.get? b=some o)(B:∀b∈ch,qr X pins H b):Inv X pins σ H {s with heap:=h',toks:=t'}:=by
 have D:∀b u,H b=some u->b∉ch:=λb u e z=>by
  have q:=(B b z).1;rw [q] at e;cases e
 refine I.step (g':=s.gens) (d':=s.drawn) (ch:=ch) (λb G=>⟨(B b G).2.2.2.1,(B b G).2.1,(B b G).2.2.2.2.1,(B b G).2.2.2.2.2⟩) (λb o _ _ j e _=>k b o j e) (λb o _ _ j e _=>⟨o.slots,k b o j e⟩)
  (λ_ _ _ _ n=>n) (λb o j e=>⟨o,k b o j e⟩) (λ_ _ e=>e) (λ_ _ _ e=>e) (λb ps e=>⟨#[],by rw [e];simp⟩) (λm L=> ?_) (λb u e=> ?_) I.bare
 ·obtain ⟨o,es,ep,J,r⟩:=L;exact ⟨o,es,ep,k _ o (λz=>(B _ z).2.1 rfl) J,r⟩
 ·refine (I.hok b u e).stay (λc v j q=>k c v ?_ q) (λ_ q=>q) λ_ _ q=>q;rcases j with z | z
  ·rw [z];exact D b u e
  ·exact D c _ z
def Inv.turnedNew{ch:List af}{T:af}(I:Inv X pins σ H s)(k:∀b o,b∉ch->s.heap.get? b=some o->h'.get? b=some o)(D:∀b∈ch,qr X pins H b)(N:s.heap.objs.size<=T)(L:Wo X.prog X.w (upd H T M) h' T M):Inv X pins σ (upd H T M) {s with heap:=h',toks:=t'}:=by
 have G:H T=none:=I.hok.fresh N;have J:∀b u,H b=some u->b∉ch:=λb u e z=>by
  have q:=(D b z).1;rw [q] at e;cases e
 refine I.step (g':=s.gens) (d':=s.drawn) (ch:=ch) (λb B=>⟨(D b B).2.2.2.1,(D b B).2.1,(D b B).2.2.2.2.1,(D b B).2.2.2.2.2⟩) (λb o _ _ j e _=>k b o j e) (λb o _ _ j e _=>⟨o.slots,k b o j e⟩)
  (λb o _ e n=> ?_) (λb o j e=>⟨o,k b o j e⟩) (λb xs e=> ?_) (λb o u e=> ?_) (λb ps e=>⟨#[],?_⟩) (λm U=> ?_) (λb u e=> ?_) I.bare
 ·rw [aC (cu (bZ (aZ e) N))];exact n
 ·rw [aC (aU e G)];exact e
 ·rw [aC (aU e G)];exact e
 ·rw [aC (aU e G),e];simp
 ·obtain ⟨o,es,ep,O,r⟩:=U;exact ⟨o,es,ep,k _ o (λz=>(D _ z).2.1 rfl) O,r⟩
 ·by_cases B:b=T
  ·subst B;rw [ao] at e;cases e;exact L
  ·rw [aC B] at e;refine (I.hok b u e).stay (λc v j q=>k c v ?_ q) (λc q=>by rw [aC (aU q G)];exact q) λc xs q=>by rw [aC (aU q G)];exact q
   rcases j with z | z
   ·rw [z];exact J b u e
   ·exact J c _ z
def Inv.lock(I:Inv X pins σ H s)(h:H d=some u)(B:Pz (some u)):∃j,Inv X pins σ (upd H d (.frz j u)) s:=by
 have x:=I.hok d u h;have ex:∃j,s.heap.get? d=some j:=by
  cases u with
  | lst xs=>obtain ⟨_,_,_,_,e⟩:=x;exact ⟨_,e⟩
  | dK kvs=>obtain ⟨_,_,_,_,o,_,_,e,_⟩:=x;exact ⟨o,e⟩
  | dT kvs=>obtain ⟨_,_,_,_,o,_,_,e,_⟩:=x;exact ⟨o,e⟩
  | set S n=>obtain ⟨o,_,_,_,e,_⟩:=x;exact ⟨o,e⟩
  | ins C dx fs=>obtain ⟨_,_,_,e,_⟩:=x;exact ⟨_,e⟩
  | ext G=>obtain ⟨_,⟨_,e⟩,_⟩:=x;exact ⟨_,e⟩
  | _=>exact dn B
 obtain ⟨j,e⟩:=ex;have D:Wo X.prog X.w (upd H d (.frz j u)) s.heap d (.frz j u):=by
  refine ⟨e,x.stay (λb v _ q=>q) (λb q=> ?_) λb xs q=> ?_⟩
  ·rw [aC (λz=>by rw [z,h] at q;cases q;exact B)];exact q
  ·rw [aC (λz=>by rw [z,h] at q;cases q;exact B)];exact q
 exact ⟨j,I.write (x:=d) (e:=d) (t':=s.toks) (h':=s.heap) (by rw [h];exact B) (.inl rfl) (λb v _ q=>q) ⟨j,e⟩ D⟩
def Inv.nofrz(I:Inv X pins σ H s)(h:H d=some u)(n:Pz (some u)):∀o' j,X.H_0 d≠some (.frz o' j):=λo' j e=>by
 have q:=I.base.frzs d o' j e;rw [h] at q;cases q;exact n
def Inv.unlock(I:Inv X pins σ H s)(h:H d=some (.frz N u))(M:∀o' B,X.H_0 d≠some (.frz o' B)):Inv X pins σ (upd H d u) s:=by
 have j:∀b o,H b=some o->(∀o' B,o≠.frz o' B)->b≠d:=λb o e G z=>by
  rw [z,h] at e;cases e;exact G _ _ rfl
 have neN:∀b,H b=none->b≠d:=λb e z=>by rw [z,h] at e;cases e
 refine ⟨I.ok,I.os,I.bare,⟨I.base.keep,I.base.slot,λb o e n J=> ?_,I.base.there,λb xs e=> ?_,λb o x e=> ?_,λb ps e=> ?_⟩,I.loc,I.cell,?_,λx c e=> ?_,λp L=> ?_,λb o e=> ?_,I.len⟩
 ·rw [aC (neN b (I.base.free b o e n J))];exact I.base.free b o e n J
 ·have q:=I.base.tups b xs e;rw [aC (j b _ q (λ_ _ z=>nomatch z))];exact q
 ·have q:=I.base.frzs b o x e;rw [aC (λz=>by rw [z] at e;exact M _ _ e)];exact q
 ·obtain ⟨m,q⟩:=I.base.tbls b ps e;exact ⟨m,by rw [aC (j b _ q (λ_ _ z=>nomatch z))];exact q⟩
 ·rw [aC (neN _ I.free)];exact I.free
 ·rw [aC (neN c (I.freeC x c e))];exact I.freeC x c e
 ·obtain ⟨e,n,r⟩:=I.pin p L;exact ⟨e,by rw [aC (neN _ n)];exact n,r⟩
 ·by_cases D:b=d
  ·rw [D,ao] at e;cases e;rw [D];obtain ⟨_,x⟩:=I.hok d _ h;exact x.stay (λc v _ q=>q) (λc q=>by rw [aC (j c _ q (λ_ _ z=>nomatch z))];exact q) λc xs q=>by rw [aC (j c _ q (λ_ _ z=>nomatch z))];exact q
  ·rw [aC D] at e;exact (I.hok b o e).stay (λc v _ q=>q) (λc q=>by rw [aC (j c _ q (λ_ _ z=>nomatch z))];exact q) λc xs q=>by rw [aC (j c _ q (λ_ _ z=>nomatch z))];exact q
end
def Kl(t:TE):TE:=λσ H Q=>∃d u,H d=some u/\Pz (some u)/\∀j,t σ (upd H d (.frz j u)) λv H'=>H' d=some (.frz j u)/\Q v (upd H' d u)
section
variable {X:Cx}
def M6(h:PE X e t):PE X e (Kl t):=by
 intro pins s σ H Q I j;obtain ⟨d,u,z,n,j⟩:=j;obtain ⟨B,J⟩:=I.lock z n;refine gL (h pins s σ _ _ J (j B)) λv L ⟨x,H1,G,r,D,q⟩=> ?_;exact ⟨x,_,G.unlock D (I.nofrz z n),r,q⟩
def Kq{σ:St}(I:Inv X pins σ H s)(o)(T:Turn X.prog X.w X.K tg J [s.heap.objs.size] s.heap.objs.size j)(st:j 0 (s.heap.push o))(q:R J H):T_ X pins σ tg R (.ref s.heap.objs.size) {s with heap:=s.heap.push o,toks:=tk}:=by
 refine ⟨s.heap.objs.size,[s.heap.objs.size],j,J,H,rfl,I.kept λb z e=>aq _ e,T,st,λb n=> ?_,q⟩;have e:b=s.heap.objs.size:=by simpa using n
 subst e;exact I.fpOk (aO _) (I.hok.fresh (aO _))
end
def RR(x:Str):It:=⟨λi _=>i<x.cps.size,λi H v H'=>H'=H/\∃c,x.cps[i]? =some c/\v= .str ⟨#[c]⟩,λi _=>x.cps.size<=i⟩
def CU {P:be} {w:bN} {K:ac} {tg:eM} (it:af) (x:Str) (t:Tok) (ty:String) (n:ty="str_ascii_iterator"\/ty="str_iterator"):
  Turn P w K tg (RR x) [it] it (λi h=>h.IsStrIter it ty x t i) where
 mem:=by simp
 obj:=λi h st b j=>by
  have e:b=it:=by simpa using j
  subst e;obtain ⟨o,e,c,d⟩:=st;exact ⟨o,e,λv z=>by rw [d] at z;cases z⟩
 keep:=λi h h' st k=>let ⟨o,ho,r⟩:=st;⟨o,k it (by simp) o ho,r⟩
 item:=by
  intro X Y O hK q i pins s σ H E I D st U;subst Y O hK;obtain ⟨N,M,f2,L,J,G⟩:=D it (by simp);have W:Walks X.prog X.w X.A it [it] [it] x.cps.size (SignAt x) (λi h=>h.IsStrIter it ty x t i):=by
   rcases n with e | e
   ·rw [e];exact Walks.strAscii (I.ok.hd q) it x t
   ·rw [e];exact Walks.strWide (I.ok.hd q) it x t
  have a0:["enumerate","zip","dict_itemiterator","dict_reverseitemiterator","odict_iterator","itertools.zip_longest","itertools.pairwise"].contains ty=false:=by
   rcases n with e | e
   ·rw [e];decide
   ·rw [e];decide
  refine W.item i s _ _ U st λv h' tk hv B kk=> ?_;obtain ⟨c,u,a1,rfl⟩:=hv;have I1:Inv X pins σ H {s with heap:=h',toks:=tk}:=I.turned (λb o j e=>kk b o (by simpa using j) e) N M L J G;obtain ⟨oi,e,cc,dd⟩:=id B;exact ⟨_,rfl,Jv (s:={s with heap:=h',toks:=tk}) e cc dd a0 ⟨.str ⟨#[c]⟩,H,I1,⟨u,rfl⟩,⟨rfl,c,a1,rfl⟩,B,λb j=>(D b j).1⟩⟩
 done:=by
  intro X Y O hK q i pins s σ H E I D st U;subst Y O hK;obtain ⟨N,M,f2,L,J,G⟩:=D it (by simp);have hx:x.cps[i]? =none:=Array.getElem?_eq_none U;rcases n with e | e
  ·rw [e] at st;exact wpAny_pyNext_ascii_end (I.ok.hd q) st hx λh' eb=>⟨rfl,I.turned (t':=s.toks) (λb o j e=>eb b o j e) N M L J G⟩
  ·rw [e] at st;exact wpAny_pyNext_wide_end (I.ok.hd q) st hx λh' eb=>⟨rfl,I.turned (t':=s.toks) (λb o j e=>eb b o j e) N M L J G⟩
 self:=λA i s Q E st h=>by
  rcases n with e | e
  ·rw [e] at st;exact wpAny_pyIter_striter_ascii st h
  ·rw [e] at st;exact wpAny_pyIter_striter_wide st h
def T9(te:TE):TI:=λσ H R=>te σ H λv H1=>∃x,v= .str x/\R (RR x) H1
def Ol(D:PE X e te):PI X tg e (T9 te):=by
 intro pins s σ H R I h;refine gL (D pins s σ H _ I h) λv j ⟨y,H1,z,B,x,ex,q⟩=> ?_;subst ex;obtain ⟨t,rfl⟩:=B;cases n:x.cps.all (·<128)
 ·exact wpAny_pyIter_wide n (Kq (tk:=j.toks) z _ (CU _ x t "str_iterator" (.inr rfl)) ⟨_,bG _ rfl,rfl,rfl⟩ q)
 ·exact wpAny_pyIter_ascii n (Kq (tk:=j.toks) z _ (CU _ x t "str_ascii_iterator" (.inl rfl)) ⟨_,bG _ rfl,rfl,rfl⟩ q)
def RS(K:ac)(a:af):It:=
 ⟨λi H=>∃(xs:List V) (x:V),SqL K H a xs/\xs[i]? =some x,λi H v H'=>∃T x,v= .ref T/\H T=none/\H'=upd H T (.tup [.int (i:Nat),x])/\∀xs,SqL K H a xs->xs[i]? =some x,λi H=>∃xs:List V,SqL K H a xs/\xs.length<=i⟩
def Fw {P:be} {w:bN} {K:ac} {N:List eM} {kk:Nat} {tpos:Pos} (a e it:af):
  Turn P w K (.Tuple N kk tpos) (RS K a) [e,it] e (λi h=>(∃j,IsEnum h e it ((i:Nat):Int) j)/\h.IsListIter it a i/\e≠it) where
 mem:=by simp
 obj:=λi h st b D=>by
  obtain ⟨⟨j,B⟩,⟨o,ho,hc,hd⟩,_⟩:=st;have e':b=e\/b=it:=by simpa using D
  rcases e' with z | z
  ·rw [z];exact ⟨_,B,λv q=>nomatch q⟩
  ·rw [z];exact ⟨o,ho,λv q=>by rw [hd] at q;cases q⟩
 keep:=λi h h' st k=>let ⟨⟨j,B⟩,hi,n⟩:=st;⟨⟨j,k e (by simp) _ B⟩,hi.at λo q=>k it (by simp) o q,n⟩
 item:=by
  intro X hP hw hK hc i pins s σ H E I U st hg;subst hP hw hK;obtain ⟨⟨j,B⟩,G,n⟩:=st;obtain ⟨xs,x,O,hx⟩:=hg;obtain ⟨its,rv,p,hz⟩:=I.list O;obtain ⟨u,hu,ru⟩:=rv.get hx;have L:e<s.heap.objs.size:=aZ B;have a1:it<s.heap.objs.size:=by obtain ⟨_,q,_⟩:=G;exact aZ q
  refine wpAny_pyNext_enum_item B G p.isList (x:=u) (by simpa using hu) n λh' ho M hT a5 hk=> ?_;refine ⟨_,rfl,wpAny_letOwnedTupleGo_enum (s:={s with heap:=h',toks:=s.toks+1}) ho λJ a2 Y=> ?_⟩;have a4:J.get? s.heap.objs.size=some {cls:= .type "tuple",data:= .seq #[.int i s.toks,u]}:=(Y.2 _ (nJ L)).trans hT;have a0:Wo X.prog X.w (upd H s.heap.objs.size (.tup [.int (i:Nat),x])) J s.heap.objs.size (.tup [.int (i:Nat),x]):=
   ⟨by show 2<=a_;decide,[.int i s.toks,u],.cons ⟨_,rfl⟩ (.cons ru .nil),⟨_,a4,rfl,_,rfl⟩⟩
  have I1:Inv X pins σ (upd H s.heap.objs.size (.tup [.int (i:Nat),x])) {s with heap:=J,toks:=s.toks+1}:=
   I.turnedNew (ch:=[e,it]) (λb ob D q=>(Y.2 b (λz=>D (by simp [z]))).trans (hk b ob (λz=>D (by simp [z])) (λz=>D (by simp [z])) q)) U (aO _) a0
  refine ⟨.ref s.heap.objs.size,_,I1,rfl,⟨_,x,rfl,I.hok.fresh (aO _),rfl,λys hy=>by rw [I.list_inj hy O];exact hx⟩,⟨⟨u,?_⟩,M.at λo q=>(Y.2 it (dO n)).trans q,n⟩,λb D=> ?_⟩
  ·have e1:((i+1:Nat):Int)=(i:Int)+1:=by omega
   rw [e1];exact a2
  ·have a3:b<s.heap.objs.size:=by
    have e':b=e\/b=it:=by simpa using D
    rcases e' with z | z
    ·rw [z];exact L
    ·rw [z];exact a1
   rw [aC (cu a3)];exact (U b D).1
 done:=by
  intro X hP hw hK hc i pins s σ H E I U st hg;subst hP hw hK;obtain ⟨⟨j,B⟩,G,n⟩:=st;obtain ⟨xs,O,hx⟩:=hg;obtain ⟨its,rv,p,hz⟩:=I.list O;obtain ⟨f0,f1,f2,f3,f4,f5⟩:=U it (by simp);have hl:=rv.length;exact wpAny_pyNext_enum_end (I.ok.hd hc) B G p.isList (by simp;omega) λh' eb=>⟨rfl,I.turned (t':=s.toks) (λb o D q=>eb b o D q) f0 f1 f3 f4 f5⟩
 self:=λA i s Q E st h=>let ⟨⟨_,B⟩,_⟩:=st;RW B h
def QH(K:ac)(ta:TA):TI:=λσ H R=>ta σ H λj H1=>∃a xs,j=[.ref a]/\SqL K H1 a xs/\R (RS K a) H1
def M4(hg:Gl X "enumerate")(hm:X.mg "enumerate"=none)(ha:PA X [e] ta)(U:bx [e] X.env=[(false,eval e X.env)]:=by rfl):
  PI X (.Tuple J kk tpos) (.Call (.Name "enumerate" p) [e] [] pos) (QH X.K ta):=by
 intro pins s σ H R I h;refine Call_ (rh I hg hm boot_enumerate (fQ (gL (ha pos pins s σ H _ I h) λus j ⟨vs,H1,B,M,N⟩=> ?_) U rfl));obtain ⟨a,xs,ex,Y,q⟩:=N;subst ex;cases M with
 | cons r L=>
  cases L;cases r;obtain ⟨its,rv,O,hz⟩:=B.list Y;refine call_enumerate_list O.isList λh' G D a0 hk=>RW G ?_;have I2:Inv X pins σ H1 {j with heap:=h'}:=B.kept (t':=j.toks) hk;refine ⟨j.heap.objs.size+1,[j.heap.objs.size+1,j.heap.objs.size],_,_,H1,rfl,I2,Fw a (j.heap.objs.size+1) j.heap.objs.size,⟨⟨.none,G⟩,D,PU _⟩,λb hb=> ?_,q⟩;have e':b=j.heap.objs.size+1\/b=j.heap.objs.size:=by simpa using hb
  have n:j.heap.objs.size<=b:=by
   rcases e' with z | z
   ·rw [z];exact ll _ _
   ·rw [z];exact aO _
  exact B.fpOk n (B.hok.fresh n)
def zZ:lQ "zip"=some (.type "zip"):=by decide+kernel
def RP(K:ac)(a b:af):It:=
 ⟨λi H=>∃(xs ys:List V) (x y:V),SqL K H a xs/\SqL K H b ys/\xs[i]? =some x/\ys[i]? =some y,
  λi H v H'=>∃T x y,v= .ref T/\H T=none/\H'=upd H T (.tup [x,y])/\(∀xs,SqL K H a xs->xs[i]? =some x)/\∀ys,SqL K H b ys->ys[i]? =some y,
  λi H=>∃xs ys:List V,SqL K H a xs/\SqL K H b ys/\(xs.length<=i\/ys.length<=i)⟩
def J9 {P:be} {w:bN} {K:ac} {a3:List eM} {kk:Nat} {tpos:Pos} {a b z TI TO i1 J:af} (D:A9 z TI TO i1 J a b):
  Turn P w K (.Tuple a3 kk tpos) (RP K a b) [z,TI,TO,i1,J] z (λi h=>IsZip h z TI TO .none/\tJ h TI (.ref i1) (.ref J)/\(∃x y,tJ h TO x y)/\h.IsListIter i1 a i/\h.IsListIter J b i) where
 mem:=by simp
 obj:=λi h st c hc=>by
  obtain ⟨N,j,⟨x,y,B⟩,⟨o1,e1,_,d1⟩,⟨o2,e2,_,d2⟩⟩:=st;have e':c=z\/c=TI\/c=TO\/c=i1\/c=J:=by simpa using hc
  rcases e' with q | q | q | q | q
  ·rw [q];exact ⟨_,N,λv q=>nomatch q⟩
  ·rw [q];exact ⟨_,j,λv q=>nomatch q⟩
  ·rw [q];exact ⟨_,B,λv q=>nomatch q⟩
  ·rw [q];exact ⟨o1,e1,λv q=>by rw [d1] at q;cases q⟩
  ·rw [q];exact ⟨o2,e2,λv q=>by rw [d2] at q;cases q⟩
 keep:=λi h h' st k=>by
  obtain ⟨N,j,⟨x,y,B⟩,h1,h2⟩:=st;exact ⟨k z (by simp) _ N,k TI (by simp) _ j,⟨x,y,k TO (by simp) _ B⟩,h1.at λo q=>k i1 (by simp) o q,h2.at λo q=>k J (by simp) o q⟩
 item:=by
  intro X hP hw hK hc i pins s σ H E I hf st hg;subst hP hw hK;obtain ⟨N,j,⟨x0,y0,B⟩,h1,h2⟩:=st;obtain ⟨xs,ys,x,y,M,L,hx,hy⟩:=hg;obtain ⟨its,rv,p,_⟩:=I.list M;obtain ⟨O,U,p2,_⟩:=I.list L;obtain ⟨u,hu,ru⟩:=rv.get hx;obtain ⟨u2,a7,a5⟩:=U.get hy;have a0:z<s.heap.objs.size:=aZ N;refine P1 D N j B h1 h2 p.isList p2.isList (x:=u) (y:=u2) (by simpa using hu) (by simpa using a7) λh' z' b2 b1 b0 hT b3 hk=> ?_;refine ⟨_,rfl,wpAny_letOwnedTupleGo_zip (s:={s with heap:=h'}) z' λY a4 sb=> ?_⟩;have a9:Y.get? s.heap.objs.size=some {cls:= .type "tuple",data:= .seq #[u,u2]}:=(sb.2 _ (nJ a0)).trans hT;have a6:Wo X.prog X.w (upd H s.heap.objs.size (.tup [x,y])) Y s.heap.objs.size (.tup [x,y]):=
   ⟨by show 2<=a_;decide,[u,u2],.cons ru (.cons a5 .nil),⟨_,a9,rfl,_,rfl⟩⟩
  have I1:Inv X pins σ (upd H s.heap.objs.size (.tup [x,y])) {s with heap:=Y}:=
   I.turnedNew (t':=s.toks) (ch:=[z,TI,TO,i1,J]) (λc o G q=>(sb.2 c (λn=>G (by simp [n]))).trans (hk c o (λn=>G (by simp [n])) (λn=>G (by simp [n])) (λn=>G (by simp [n])) (λn=>G (by simp [n])) q)) hf (aO _) a6
  refine ⟨.ref s.heap.objs.size,_,I1,rfl,⟨_,x,y,rfl,I.hok.fresh (aO _),rfl,λl hl=>by rw [I.list_inj hl M];exact hx,λl hl=>by rw [I.list_inj hl L];exact hy⟩,⟨a4,?_,⟨u,u2,?_⟩,?_,?_⟩,λc a1=> ?_⟩
  ·exact (sb.2 _ D.TIz).trans (hk _ _ D.TIz D.TITO D.TIi1 D.TIi2 j)
  ·exact (sb.2 _ D.TOz).trans b2
  ·exact b1.at λo q=>(sb.2 _ D.i1z).trans q
  ·exact b0.at λo q=>(sb.2 _ D.i2z).trans q
  ·have a8:c<s.heap.objs.size:=by
    have e':c=z\/c=TI\/c=TO\/c=i1\/c=J:=by simpa using a1
    rcases e' with q | q | q | q | q
    ·rw [q];exact a0
    ·rw [q];exact aZ j
    ·rw [q];exact aZ B
    ·rw [q];obtain ⟨_,e1,_⟩:=h1;exact aZ e1
    ·rw [q];obtain ⟨_,e2,_⟩:=h2;exact aZ e2
   rw [aC (cu a8)];exact (hf c a1).1
 done:=by
  intro X hP hw hK hc i pins s σ H E I hf st hg;subst hP hw hK;obtain ⟨N,j,⟨x0,y0,B⟩,h1,h2⟩:=st;obtain ⟨xs,ys,M,L,a2⟩:=hg;obtain ⟨its,rv,p,_⟩:=I.list M;obtain ⟨O,U,p2,_⟩:=I.list L;have l1:=rv.length;have l2:=U.length;have he:its.toArray[i]? =none\/O.toArray[i]? =none:=by
   rcases a2 with q | q
   ·exact .inl (by simp;omega)
   ·exact .inr (by simp;omega)
  exact PJ (I.ok.hd hc) D N j B h1 h2 p.isList p2.isList he λh' hk=>⟨rfl,I.turnedL (t':=s.toks) (ch:=[z,TI,TO,i1,J]) (λc o G q=>
   hk c o (λn=>G (by simp [n])) (λn=>G (by simp [n])) (λn=>G (by simp [n])) (λn=>G (by simp [n])) q) hf⟩
 self:=λA i s Q E st h=>HH st.1 h
def T7(K:ac)(ta:TA):TI:=λσ H R=>ta σ H λj H1=>∃a b xs ys,j=[.ref a,.ref b]/\SqL K H1 a xs/\SqL K H1 b ys/\R (RP K a b) H1
def Oj(hg:Gl X "zip")(hm:X.mg "zip"=none)(ha:PA X [e,D] ta)(hs:bx [e,D] X.env=(false,eval e X.env)::bx [D] X.env:=by rfl)(M:(fV pos (bx [D] X.env)).any (·.1)=false:=by rfl):
  PI X (.Tuple a1 kk tpos) (.Call (.Name "zip" p) [e,D] [] pos) (T7 X.K ta):=by
 intro pins s σ H R I h;refine Call_ (rh I hg hm zZ (fQ (gL (ha pos pins s σ H _ I h) λus j ⟨vs,H1,n,r1,q1⟩=> ?_) hs M));obtain ⟨a,b,xs,ys,ex,L,J,q⟩:=q1;subst ex;cases r1 with
 | cons r G=>
  cases G with
  | cons r' G=>
   cases G;cases r;cases r';obtain ⟨its,rv,Y,_⟩:=n.list L;obtain ⟨a0,a2,p2,_⟩:=n.list J;have la:a<j.heap.objs.size:=Y.lt;have lb:b<j.heap.objs.size:=p2.lt;refine call_zip_2 Y.isList p2.isList λh' hz U O h1 h2 a3 hk=>HH hz ?_;have I2:Inv X pins σ H1 {j with heap:=h'}:=n.kept (t':=j.toks) hk;refine ⟨j.heap.objs.size+4,[j.heap.objs.size+4,j.heap.objs.size+2,j.heap.objs.size+3,j.heap.objs.size,j.heap.objs.size+1],_,_,H1,rfl,I2,J9 (My j.heap.objs.size a b la lb),⟨hz,U,⟨_,_,O⟩,h1,h2⟩,λc N=> ?_,q⟩;have e':c=j.heap.objs.size+4\/c=j.heap.objs.size+2\/c=j.heap.objs.size+3\/c=j.heap.objs.size\/c=j.heap.objs.size+1:=by simpa using N
   have B:j.heap.objs.size<=c:=by
    rcases e' with z | z | z | z | z
    ·rw [z];exact ll _ _
    ·rw [z];exact ll _ _
    ·rw [z];exact ll _ _
    ·rw [z];exact aO _
    ·rw [z];exact ll _ _
   exact n.fpOk B (n.hok.fresh B)
end L2
section
namespace Bits
open PySem PyProof.Rows
end Bits
end
section
namespace TL
open PySem PySem.Builtin PySem.Builtin.Str PySem.StrLaws
end TL
end
namespace L2
open PySem PySem.Spec PyProof.Rows
section
variable {X:Cx}
def yI:rY X (.type "int") (λxs H Q=>∃a n,xs=[.str a]/\PN a=some n/\a.length<=640/\Q (.int n) H):=by
 intro pins s σ H xs D Q I j h;obtain ⟨a,n,rfl,z,B,h⟩:=h;cases j with
 | cons q j=>
  cases j;obtain ⟨t,rfl⟩:=q;exact V6 z B ⟨.int n,H,I.tok _,⟨_,rfl⟩,h⟩
end
end L2
namespace Att
open PySem PySem.W PySem.Calls PyProof.Rows
end Att
namespace L2
open PySem PySem.Spec PyProof.Rows
abbrev KOf{K:ac}(_:K.In h):ac:=K
def j_(s:dm)(j:Nat):dm:=match s with
 | .ClassDef _ _ _ n _ _ _ _ _ _ _=>n.getD j (.Pass ⟨0,0,0,0⟩)
 | _=> .Pass ⟨0,0,0,0⟩
def dH(s:dm):kG:=match s with
 | .FunctionDef _ a _ _ _ _ _ _ _ _=>a
 | _=>{posonlyargs:=[],args:=[],vararg:=none,kwonlyargs:=[],kw_defaults:=[],kwarg:=none,defaults:=[]}
def dB(s:dm):List dm:=match s with
 | .FunctionDef _ _ b _ _ _ _ _ _ _=>b
 | _=>[]
def aA(s:dm):i_:=match s with
 | .FunctionDef _ _ _ _ _ _ j _ _ _=>j
 | _=>{kind:= .function,names:=[],isGenerator:=false,isCoroutine:=false}
abbrev E0:XK:=λ_ _ _=>False
structure Fun (K:ac) (x qual:Str) (st:dm) (f:af) (fd:ip):Prop where
 ex:∃(oc:al) (od:Option af) (kV doc pm:al) (an:Option af) (cdv ct:al) (osl:Array (Option al)),
  fd=bM x qual (dH st) (dB st) (aA st) .none kV doc pm an cdv ct∧K.lookup f=some ⟨oc,od,.func fd,osl⟩∧cv K cdv qual=true
 kp:bq K (.ref f)=true
section
variable {P:be} {w:bN} {K:ac} {mg:Str→Option al} {base:cz}
def Fun.binds{st}(F:Fun K x qual st f fd)(h:∀(kV j n:al) (z:Option af) (cdv q:al) (us:List al),us.length=ps.length->A8 (bM x qual (dH st) (dB st) (aA st) .none kV j n z cdv q) ⟨us,[]⟩=pure (ps.zip us)):Binds K fd ps []:=by
 obtain ⟨I,G,kV,j,n,z,cdv,q,B,rfl,J,D⟩:=F.ex;exact .all (h kV j n z cdv q)
def qb{st}{kV j n cdv q}(l:K.lookup f=some ⟨G,D,.func (bM x qual (dH st) (dB st) (aA st) .none kV j n B cdv q),z⟩)(c:cv K cdv qual=true)(k:bq K (.ref f)=true):Fun K x qual st f (bM x qual (dH st) (dB st) (aA st) .none kV j n B cdv q):=⟨⟨G,D,kV,j,n,B,cdv,q,z,rfl,l,c⟩,k⟩
end
def OC(j:Wy k A):A.units+1<KJ:=jA (Nat.add_le_add_left (by decide:1<=64) _) j.units
def jx(h:n<=1000):n<a_:=jA h (by decide)
section
variable {X:Cx}
def pv(i)(z:X.N[i]? =some x:=by rfl)(n:Ms X.env.scope x:=by first | exact bz rfl | exact jG (bz rfl) | exact jG (jG rfl))(q:(x==("__debug__":Str))=false:=by decide)(j:(x==("__classdict__":Str))=false:=by decide):PE X (.Name x pos) (qm i):=zO z n q j
end
def rT{A B:Prop}(h:B):if false=true then A else B:=by
 rw [if_neg aN];exact h
def qa{A B:Prop}(h:A):if true=true then A else B:=by
 rw [if_pos rfl];exact h
def gp{c A B:Prop}[Decidable c](h1:c->A)(h2:¬c->B):if c then A else B:=by
 by_cases h:c
 ·rw [if_pos h];exact h1 h
 ·rw [if_neg h];exact h2 h
def Same(H H':Hp):Prop:=∀b o,H b=some o->H' b=some o
def Same.refl(H):Same H H:=λ_ _ h=>h
def Same.trans(a:Same H H1)(b:Same H1 H2):Same H H2:=λc o h=>b c o (a c o h)
def Same.free(e:Same H H')(h:H' l=B1):H l=B1:=by
 cases q:H l with
 | none=>rfl
 | some o=>
  rw [e l o q] at h;cases h
def Same.seq{K}(e:Same H H')(h:SqL K H a xs):SqL K H' a xs:=by
 rcases h with (h | ⟨o,h⟩) | h
 ·exact .inl (.inl (e _ _ h))
 ·exact .inl (.inr ⟨o,e _ _ h⟩)
 ·exact .inr h
def QM{j:Nat}{v:V}(e:z=(j:Int))(h:xs[j]? =some v):N7 xs z=some v:=by
 rw [e];exact f_ h
def Same.made(j:H x=B1)(n:H dx=B1)(k:∀b o,(upd (upd H dx (.own x)) x (.ins C dx [])) b=some o->b≠x->H1 b=some o):Same H H1:=λb o e=>
 k b o (by rw [aC (aU e j),aC (aU e n)];exact e) (aU e j)
end L2
open L2 renaming KOf->WF,Same->WG
open L2.Same renaming refl->WH,made->WI
section
set_option maxHeartbeats 2000000
namespace L2
open PySem PySem.Spec PyProof.Rows
open PySem.W (WData Codec OpenSpec Well WellAll ReadsW ReadsAllW)
mutual
inductive Dw (K:ac) (H:Hp):V→qv→Prop
 | non:Dw K H .non .none
 | bl (b:Bool):Dw K H (.bl b) (.bool b)
 | int (i:Int):Dw K H (.int i) (.int i)
 | str (x:Str):Dw K H (.str x) (.str x)
 | byt (b:Array UInt8):Dw K H (.byt b) (.bytes b.toList)
 | lst {a:af} {xs:List V} {ds:List qv}:SqL K H a xs→DwAll K H xs ds→Dw K H (.ref a) (.list ds)
 | tup {a:af} {xs:List V} {ds:List qv}:SqT K H a xs→DwAll K H xs ds→Dw K H (.ref a) (.tuple ds)
inductive DwAll (K:ac) (H:Hp):List V→List qv→Prop
 | nil:DwAll K H [] []
 | cons {v:V} {vs:List V} {d:qv} {ds:List qv}:Dw K H v d→DwAll K H vs ds→DwAll K H (v::vs) (d::ds)
end
theorem dw_ints{K}:∀ns:List Int,DwAll K H (ns.map Wv) (ns.map OU)
 | []=> .nil
 | n::r=> .cons (.int n) (dw_ints r)
theorem ints_dw{K}:∀(ns:List Int) (xs:List V),DwAll K H xs (ns.map OU)->xs=ns.map Wv
 | [],xs,h=>by
  cases h;rfl
 | n::r,xs,h=>by
  cases h with
  | cons h1 h2=>
   cases h1;rw [ints_dw r _ h2]<;>rfl
section
variable {P:be} {w:bN} {K:ac} {H:Hp} {h:cz} {R:PySem.W.WRecords} {cl:Str→Option af}
def Of(z:HOk P w H h)(G:K.In h)(q:SqL K H a xs):∃(its:List al) (o:Obj) (n:Nat),Wn xs its/\h.get? a=some o/\o.cls= .type "list"/\o.data= .seq its.toArray n:=by
 rcases q with q | ⟨o,its,n,e,D,_,B,_,j⟩
 ·obtain ⟨_,its,n,j,e⟩:=(show Wo P w H h a (.lst xs) from q.ok z)
  exact ⟨its,_,n,j,e,rfl,rfl⟩
 ·exact ⟨its.toList,o,n,j,G _ _ e,D,by simp [B]⟩
def Od(D:HOk P w H h)(G:K.In h)(q:SqT K H a xs):∃(its:List al) (o:Obj) (n:Nat),Wn xs its/\h.get? a=some o/\o.cls= .type "tuple"/\o.data= .seq its.toArray n:=by
 rcases q with q | ⟨o,its,n,e,B,z,_,j⟩
 ·obtain ⟨_,its,j,o,e,B,n,z⟩:=(show Wo P w H h a (.tup xs) from q.ok D)
  exact ⟨its,o,n,j,e,B,z⟩
 ·exact ⟨its.toList,o,n,j,G _ _ e,B,by simp [z]⟩
mutual
theorem Dw.reads (j:HOk P w H h) (q:K.In h):∀(d:qv) (v:V) (u:al),Dw K H v d->RelV v u->∃M,ReadsW R cl h u d M
 | .none,_,_,x,r=>by
  cases x;cases r;exact ⟨_,ReadsW.none⟩
 | .bool b,_,_,x,r=>by
  cases x;cases r;exact ⟨_,ReadsW.bool b⟩
 | .int i,_,_,x,r=>by
  cases x;obtain ⟨t,rfl⟩:=r;exact ⟨_,ReadsW.int i t⟩
 | .str s,_,_,x,r=>by
  cases x;obtain ⟨t,rfl⟩:=r;exact ⟨_,ReadsW.str s t⟩
 | .bytes b,_,_,x,r=>by
  cases x;obtain ⟨t,rfl⟩:=r;exact ⟨_,ReadsW.bytes _ t⟩
 | .list ds,_,_,x,r=>by
  cases x with
  | lst B L=>
   cases r;obtain ⟨its,o,n,z,G,J,I⟩:=Of j q B;obtain ⟨M,D⟩:=Dw.readsAll j q ds _ its L z;exact ⟨_,ReadsW.list G J I D⟩
 | .tuple ds,_,_,x,r=>by
  cases x with
  | tup B L=>
   cases r;obtain ⟨its,o,n,z,G,J,I⟩:=Od j q B;obtain ⟨M,D⟩:=Dw.readsAll j q ds _ its L z;exact ⟨_,ReadsW.tuple G J I D⟩
 | .float _,_,_,x,_=>by cases x
 | .dict _,_,_,x,_=>by cases x
 | .bytearray _,_,_,x,_=>by cases x
 | .set _,_,_,x,_=>by cases x
 | .frozenset _,_,_,x,_=>by cases x
 | .obj _ _,_,_,x,_=>by cases x
theorem Dw.readsAll (j:HOk P w H h) (q:K.In h):∀(ds:List qv) (vs:List V) (us:List al),DwAll K H vs ds->Wn vs us->∃n,ReadsAllW R cl h us ds n
 | [],_,_,x,r=>by
  cases x;cases r;exact ⟨_,V_⟩
 | d::ds,_,_,x,r=>by
  cases x with
  | cons h1 h2=>
   cases r with
   | cons B z=>
    obtain ⟨n,G⟩:=Dw.reads j q d _ _ h1 B;obtain ⟨I,D⟩:=Dw.readsAll j q ds _ _ h2 z;exact ⟨_,W0 G D⟩
end
end
mutual
def Ko:qv->Bool
 | .none=>true
 | .bool _=>true
 | .int _=>true
 | .str _=>true
 | .bytes _=>true
 | .list xs=>zM xs
 | .tuple xs=>zM xs
 | _=>false
def zM:List qv->Bool
 | []=>true
 | x::r=>Ko x&&zM r
end
theorem Dh{j:Type}{f}(h:∀a,Ko (f a)=true):∀l:List j,zM (l.map f)=true
 | []=>rfl
 | x::r=>by
  show (Ko (f x)&&zM (r.map f))=true;rw [h x,Dh h r]<;>rfl
theorem sZ:∀(c:Codec) (a:c.denote),Ko (c.enc a)=true
 | .unit,_=>rfl
 | .bool,_=>rfl
 | .int _ _,_=>rfl
 | .nat _ _,_=>rfl
 | .u8,_=>rfl
 | .bytes _ _,_=>rfl
 | .text _ _ _ _,_=>rfl
 | .list _ _ c,a=>Dh (λx=>sZ c x) a
 | .pair c d,a=>by
  show (Ko (c.enc a.1)&&(Ko (d.enc a.2)&&true))=true;rw [sZ c a.1,sZ d a.2]<;>rfl
 | .triple c d e,a=>by
  show (Ko (c.enc a.1)&&(Ko (d.enc a.2.1)&&(Ko (e.enc a.2.2)&&true)))=true;rw [sZ c a.1,sZ d a.2.1,sZ e a.2.2]<;>rfl
 | .option c,none=>rfl
 | .option c,some x=>sZ c x
theorem zL:∀(j:List Codec) (a:E5 j),zM (tV j a)=true
 | [],_=>rfl
 | c::j,a=>by
  show (Ko (c.enc a.1)&&zM (tV j a.2))=true;rw [sZ c a.1,zL j a.2]<;>rfl
theorem sY:∀{xs:List qv} {d:qv},d∈xs->d.weight<=t_ xs
 | [],d,h=>absurd h (by simp)
 | x::r,d,h=>by
  show d.weight<=x.weight+1+t_ r;rcases aH.mp h with e | m
  ·rw [e];omega
  ·have z:=sY m;omega
def HQ:al->V
 | .none=> .non
 | .bool b=> .bl b
 | .int i _=> .int i
 | .str x _=> .str x
 | .bytes b _=> .byt b
 | .ref a=> .ref a
 | _=> .non
def OkU(A:List af):al->Prop
 | .none=>True
 | .bool _=>True
 | .int _ _=>True
 | .str _ _=>True
 | .bytes _ _=>True
 | .ref a=>a∈A
 | _=>False
def OkU.mono(h:∀a∈A,a∈B):∀{u:al},OkU A u->OkU B u:=λ{u} x=>by
 cases u with
 | ref a=>exact h a x
 | none=>trivial
 | bool b=>trivial
 | int i t=>trivial
 | str s t=>trivial
 | bytes b t=>trivial
 | _=>exact dn x
def Jc(x:OkU A u):RelV (HQ u) u:=by
 cases u with
 | ref a=>rfl
 | none=>rfl
 | bool b=>rfl
 | int i t=>exact ⟨t,rfl⟩
 | str s t=>exact ⟨t,rfl⟩
 | bytes b t=>exact ⟨t,rfl⟩
 | _=>exact dn x
theorem pX:∀{vs:List al},(∀u∈vs,OkU A u)->Wn (vs.map HQ) vs
 | [],_=> .nil
 | u::r,h=> .cons (Jc (h u (ar ..))) (pX λx j=>h x (au _ j))
def ArgOb(h:cz)(A:List af)(a:af):Prop:=∃j:List al,j.length<=a_/\(∀u∈j,OkU A u)/\
 (h.get? a=some {cls:= .type "list",data:= .seq j.toArray}\/h.get? a=some {cls:= .type "tuple",data:= .seq j.toArray})
theorem ArgOb.mono(k:∀a∈A,a∈B)(x:ArgOb h A a):ArgOb h B a:=by
 obtain ⟨j,h1,h2,q⟩:=x;exact ⟨j,h1,λu n=>(h2 u n).mono k,q⟩
theorem oA:∀{vs:List al} {ds:List qv},AQ P h vs ds->vs.length=ds.length
 | _,_,.nil=>rfl
 | _,_,.cons _ b=>by
  show _+1=_+1;rw [oA b]
def zF(x:Well P h v (.list ds)):∃(a:af) (vs:List al),v= .ref a/\h.get? a=some {cls:= .type "list",data:= .seq vs.toArray}/\AQ P h vs ds:=by
 cases x with
 | list n j=>exact ⟨_,_,rfl,n,j⟩
def wV(x:Well P h v (.tuple ds)):∃(a:af) (vs:List al),v= .ref a/\h.get? a=some {cls:= .type "tuple",data:= .seq vs.toArray}/\AQ P h vs ds:=by
 cases x with
 | tuple n j=>exact ⟨_,_,rfl,n,j⟩
def zG(x:AQ P h us (d::ds)):∃(v:al) (vs:List al),us=v::vs/\Well P h v d/\AQ P h vs ds:=by
 cases x with
 | cons a b=>exact ⟨_,_,rfl,a,b⟩
def Hv(h:n<=1048576):n<=a_:=cD h (by decide)
section
variable {P:E6} {h:cz}
mutual
theorem JE:∀(d:qv) (v:al),Well P h v d->Ko d=true->d.weight<=1048576->∃A:List af,OkU A v/\∀a∈A,ArgOb h A a
 | .none,_,x,_,_=>by
  cases x;exact ⟨[],trivial,λa m=>absurd m (by simp)⟩
 | .bool b,_,x,_,_=>by
  cases x;exact ⟨[],trivial,λa m=>absurd m (by simp)⟩
 | .int i,_,x,_,_=>by
  cases x;exact ⟨[],trivial,λa m=>absurd m (by simp)⟩
 | .str s,_,x,_,_=>by
  cases x;exact ⟨[],trivial,λa m=>absurd m (by simp)⟩
 | .bytes b,_,x,_,_=>by
  cases x;exact ⟨[],trivial,λa m=>absurd m (by simp)⟩
 | .list ds,_,x,p,z=>by
  obtain ⟨a,B,rfl,G,j⟩:=zF x;have q:t_ ds<=1048576:=z;obtain ⟨A,h1,h2⟩:=uR ds _ j p λd I=>cD (sY I) q;have k:∀b∈A,b∈a::A:=λb n=>au _ n;refine ⟨a::A,ar ..,λb n=> ?_⟩;rcases aH.mp n with e | m
  ·rw [e];exact ⟨B,Hv (by rw [oA j];exact cD (AZ ds) q),λu D=>(h1 u D).mono k,.inl G⟩
  ·exact (h2 b m).mono k
 | .tuple ds,_,x,p,z=>by
  obtain ⟨a,B,rfl,G,j⟩:=wV x;have q:t_ ds<=1048576:=z;obtain ⟨A,h1,h2⟩:=uR ds _ j p λd I=>cD (sY I) q;have k:∀b∈A,b∈a::A:=λb n=>au _ n;refine ⟨a::A,ar ..,λb n=> ?_⟩;rcases aH.mp n with e | m
  ·rw [e];exact ⟨B,Hv (by rw [oA j];exact cD (AZ ds) q),λu D=>(h1 u D).mono k,.inr G⟩
  ·exact (h2 b m).mono k
 | .float _,_,_,p,_=>ez (show false=true from p)
 | .dict _,_,_,p,_=>ez (show false=true from p)
 | .bytearray _,_,_,p,_=>ez (show false=true from p)
 | .set _,_,_,p,_=>ez (show false=true from p)
 | .frozenset _,_,_,p,_=>ez (show false=true from p)
 | .obj _ _,_,_,p,_=>ez (show false=true from p)
theorem uR:∀(ds:List qv) (vs:List al),AQ P h vs ds->zM ds=true->(∀d∈ds,d.weight<=1048576)->∃A:List af,(∀u∈vs,OkU A u)/\∀a∈A,ArgOb h A a
 | [],_,x,_,_=>by
  cases x;exact ⟨[],λu m=>absurd m (by simp),λa m=>absurd m (by simp)⟩
 | d::ds,_,x,p,z=>by
  obtain ⟨v,vs,rfl,I,G⟩:=zG x;have q:Ko d=true/\zM ds=true:=oV.mp p;obtain ⟨A,U,O⟩:=JE d v I q.1 (z d (ar ..));obtain ⟨B,N,M⟩:=uR ds vs G q.2 λe L=>z e (au _ L);have D:∀b∈A,b∈A++B:=λb j=>bV.mpr (.inl j);have n:∀b∈B,b∈A++B:=λb j=>bV.mpr (.inr j);refine ⟨A++B,λu J=> ?_,λb j=> ?_⟩
  ·rcases aH.mp J with e | m
   ·rw [e];exact U.mono D
   ·exact (N u m).mono n
  ·rcases bV.mp j with m | m
   ·exact (O b m).mono D
   ·exact (M b m).mono n
end
end
def OD(o:Obj):Option HO:=match o.data with
 | .seq j _=>if (o.cls==jw "list")=true then some (.frz o (.lst (j.toList.map HQ))) else some (.frz o (.tup (j.toList.map HQ)))
 | _=>none
def qp(K:ac)(h:cz)(A:List af):Hp:=λb=>if b∈A then (if (K.lookup b).isNone=true then (h.get? b).bind OD else none) else none
def OK(H:Hp):Prop:=∀b,H b=none\/∃o u,H b=some (.frz o u)
def DF(vs:List al):OD {cls:= .type "list",data:= .seq vs.toArray}=some (.frz {cls:= .type "list",data:= .seq vs.toArray} (.lst (vs.map HQ))):=by
 show (if (jw "list"==jw "list")=true then some (WK {cls:= .type "list",data:= .seq vs.toArray} (.lst (vs.toArray.toList.map HQ))) else some (WK {cls:= .type "list",data:= .seq vs.toArray} (.tup (vs.toArray.toList.map HQ))))=_;rw [if_pos (beq_self_eq_true _)]
def DC(vs:List al):OD {cls:= .type "tuple",data:= .seq vs.toArray}=some (.frz {cls:= .type "tuple",data:= .seq vs.toArray} (.tup (vs.map HQ))):=by
 show (if (jw "tuple"==jw "list")=true then some (WK {cls:= .type "tuple",data:= .seq vs.toArray} (.lst (vs.toArray.toList.map HQ))) else some (WK {cls:= .type "tuple",data:= .seq vs.toArray} (.tup (vs.toArray.toList.map HQ))))=_;rw [if_neg (by decide)]
section
variable {P:be} {w:bN} {K:ac} {h:cz} {A:List af}
def yK(n:b∈A)(j:K.lookup b=none)(e:h.get? b=some o):qp K h A b=OD o:=by
 unfold qp;rw [if_pos n,j,if_pos (show (none:Option Obj).isNone=true from rfl),e]<;>rfl
def Md(q:qp K h A b=some u):b∈A/\K.lookup b=none:=by
 unfold qp at q;by_cases j:b∈A
 ·rw [if_pos j] at q;cases n:K.lookup b with
  | none=>exact ⟨j,rfl⟩
  | some o=>
   rw [n,if_neg (by simp)] at q;cases q
 ·rw [if_neg j] at q;cases q
def vN(B : ∀ a ∈ A, ArgOb h A a)(q : qp K h A b = some u): K.lookup b = none /\ ∃ vs : List al, vs.length <= a_ /\ (∀ u ∈ vs, OkU A u) /\
    ((h.get? b = some { cls := .type "list", data := .seq vs.toArray } /\ u = .frz { cls := .type "list", data := .seq vs.toArray } (.lst (vs.map HQ))) \/
     (h.get? b = some { cls := .type "tuple", data := .seq vs.toArray } /\ u = .frz { cls := .type "tuple", data := .seq vs.toArray } (.tup (vs.map HQ)))) := by
  obtain ⟨n, j⟩ := Md q;obtain ⟨vs, h1, h2, z⟩ := B b n;refine ⟨j, vs, h1, h2, ?_⟩;rcases z with e | e
  · rw [yK n j e, DF] at q
    exact .inl ⟨e, (bw q).symm⟩
  · rw [yK n j e, DC] at q
    exact .inr ⟨e, (bw q).symm⟩
def FV(j:∀a∈A,ArgOb h A a):OK (qp K h A):=λb=>by
 cases q:qp K h A b with
 | none=>exact .inl rfl
 | some u=>
  obtain ⟨_,n,_,_,⟨_,e⟩ | ⟨_,e⟩⟩:=vN j q
  ·exact .inr ⟨_,_,by rw [e]⟩
  ·exact .inr ⟨_,_,by rw [e]⟩
def Mr(n:∀a∈A,ArgOb h A a):HOk P w (qp K h A) h:=λb u q=>by
 obtain ⟨_,j,h1,h2,⟨e,rfl⟩ | ⟨e,rfl⟩⟩:=vN n q
 ·exact ⟨e,by rw [am];exact h1,j,_,pX h2,e⟩
 ·exact ⟨e,by rw [am];exact h1,j,pX h2,_,e,rfl,_,rfl⟩
def yw{vs us:List al}(e:(some {cls:=c,data:= .seq vs.toArray}:Option Obj)=some {cls:=n,data:= .seq us.toArray}):c=n/\vs=us:=by
 have j:=bw e;have D:c=n:=congrArg Obj.cls j;have B:VO vs.toArray=VO us.toArray:=congrArg Obj.data j;injection B with z;refine ⟨D,?_⟩;have q:=congrArg JO z;simpa using q
def Tb(J:K.In h)(I:∀a∈A,ArgOb h A a){vs:List al}(z:a∈A)(e:h.get? a=some {cls:= .type "list",data:= .seq vs.toArray}):(∀u∈vs,OkU A u)/\SqL K (qp K h A) a (vs.map HQ):=by
 obtain ⟨n,h1,h2,G⟩:=I a z;have D:n=vs:=by
  rcases G with q | q
  ·rw [e] at q;exact (yw q).2.symm
  ·rw [e] at q;exact absurd (Mz (yw q).1) (by decide)
 subst D;refine ⟨h2,?_⟩;cases j:K.lookup a with
 | none=>exact .inl (.inr ⟨_,by rw [yK z j e,DF]⟩)
 | some o=>
  have B:=J a o j;rw [e] at B;obtain rfl:=bw B;exact .inr ⟨_,n.toArray,_,j,rfl,rfl,rfl,by rw [bL];exact h1,by simpa using pX h2⟩
def Ta(J:K.In h)(I:∀a∈A,ArgOb h A a){vs:List al}(z:a∈A)(e:h.get? a=some {cls:= .type "tuple",data:= .seq vs.toArray}):(∀u∈vs,OkU A u)/\SqT K (qp K h A) a (vs.map HQ):=by
 obtain ⟨n,h1,h2,G⟩:=I a z;have D:n=vs:=by
  rcases G with q | q
  ·rw [e] at q;exact absurd (Mz (yw q).1) (by decide)
  ·rw [e] at q;exact (yw q).2.symm
 subst D;refine ⟨h2,?_⟩;cases j:K.lookup a with
 | none=>exact .inl (.inr ⟨_,by rw [yK z j e,DC]⟩)
 | some o=>
  have B:=J a o j;rw [e] at B;obtain rfl:=bw B;exact .inr ⟨_,n.toArray,_,j,rfl,rfl,by rw [bL];exact h1,by simpa using pX h2⟩
mutual
theorem OG {J:E6} (q:K.In h) (n:∀a∈A,ArgOb h A a):∀(d:qv) (v:al),Well J h v d->Ko d=true->OkU A v->Dw K (qp K h A) (HQ v) d
 | .none,_,x,_,_=>by
  cases x;exact .non
 | .bool b,_,x,_,_=>by
  cases x;exact .bl b
 | .int i,_,x,_,_=>by
  cases x;exact .int i
 | .str s,_,x,_,_=>by
  cases x;exact .str s
 | .bytes b,_,x,_,_=>by
  cases x;have z:=Dw.byt (K:=K) (H:=qp K h A) b.toArray;exact z
 | .list ds,_,x,p,B=>by
  obtain ⟨a,I,rfl,G,j⟩:=zF x;obtain ⟨h2,D⟩:=Tb q n B G;exact .lst D (DK q n ds _ j p h2)
 | .tuple ds,_,x,p,B=>by
  obtain ⟨a,I,rfl,G,j⟩:=wV x;obtain ⟨h2,D⟩:=Ta q n B G;exact .tup D (DK q n ds _ j p h2)
 | .float _,_,_,p,_=>ez (show false=true from p)
 | .dict _,_,_,p,_=>ez (show false=true from p)
 | .bytearray _,_,_,p,_=>ez (show false=true from p)
 | .set _,_,_,p,_=>ez (show false=true from p)
 | .frozenset _,_,_,p,_=>ez (show false=true from p)
 | .obj _ _,_,_,p,_=>ez (show false=true from p)
theorem DK {G:E6} (z:K.In h) (n:∀a∈A,ArgOb h A a):∀(ds:List qv) (vs:List al),AQ G h vs ds->zM ds=true->(∀u∈vs,OkU A u)->DwAll K (qp K h A) (vs.map HQ) ds
 | [],_,x,_,_=>by
  cases x;exact .nil
 | d::ds,_,x,p,j=>by
  obtain ⟨v,vs,rfl,D,B⟩:=zG x;have q:Ko d=true/\zM ds=true:=oV.mp p;exact .cons (OG z n d v D q.1 (j _ (ar ..))) (DK z n ds vs B q.2 λu m=>j u (au _ m))
end
end
def uM(h:WData.layableAll ds=true):∀d∈ds,d.weight<=1048576:=λd j=>
 (PySem.W.layableW_iff.mp (eU.mp h d j)).2.2
theorem w_:∀(j:List Codec) (a:E5 j),(tV j a).length=j.length
 | [],_=>rfl
 | c::j,a=>by
  show (tV j a.2).length+1=j.length+1;rw [w_ j a.2]
end L2
end
open L2 renaming ints_dw->WJ
namespace Rx
open PySem
structure Moved (fs ch:List af) (h h':cz):Prop where
 keep:∀b o,h.get? b=some o→b∉fs→b∉ch→h'.get? b=some o
 slot:∀b o,h.get? b=some o→b∈fs→b∉ch→∃sl,h'.get? b=some {o with slots:=sl}
 there:∀b o,h.get? b=some o→∃o',h'.get? b=some o'
def Moved.trans {fs ch:List af} {h g f:cz} (a:Moved fs ch h g) (b:Moved fs ch g f):Moved fs ch h f where
 keep:=λc o e m n=>b.keep c o (a.keep c o e m n) m n
 slot:=λc o e m n=>by
  obtain ⟨l,d⟩:=a.slot c o e m n;obtain ⟨i,k⟩:=b.slot c _ d m n;exact ⟨i,k⟩
 there:=λc o e=>by
  obtain ⟨j,d⟩:=a.there c o e;exact b.there c j d
def Moved.mono {fs d ch f:List af} {h i:cz} (a:Moved fs ch h i) (j:∀b∈fs,b∈d) (g:∀b∈ch,b∈f):Moved d f h i where
 keep:=λc o e m n=>a.keep c o e (λz=>m (j c z)) λz=>n (g c z)
 slot:=λc o e _ n=>by
  by_cases z:c∈fs
  ·exact a.slot c o e z λy=>n (g c y)
  ·exact ⟨o.slots,a.keep c o e z λy=>n (g c y)⟩
 there:=a.there
def pI(o:Obj)(f):(o.mapFields f).dict=o.dict:=by
 obtain ⟨_,_,a,_⟩:=o;cases a<;>rfl
def EJ(h:cz)(e:af)(C:al)(dx:Option af)(T:af)(fl:al):Prop:=
 ∃a b d c,h.get? e=some a/\a.cls=C/\a.dict=dx/\a.data= .fields b/\b[1]? =some (.ref T)/\h.get? T=some d/\d.data= .fields c/\c[3]? =some fl/\T≠e
def Nm(h:cz)(e:af)(C:al)(dx:Option af):Prop:=
 ∃a b,h.get? e=some a/\a.cls=C/\a.dict=dx/\a.data= .fields b/\b[1]? =some .none
section
variable {M:Wg} {A:gt} {E:al→aK→Prop} {s:aK} {base:cz} {env:Env} {outer:List Env} {L e T:af} {C:al} {dx:Option af}
def Pg(u:A.frames=some (env::outer))(y:s.heap.FunFrames base (env::outer))(I:env.frame=some L)(B:s.heap.get? e=some i)(j:i.data= .fields vs)(hz:1<vs.size)(q:∀g T,Moved ((env::outer).filterMap (·.frame)) [e] s.heap g->s.heap.get? T=none->EJ g e i.cls i.dict T (dL L)->Q () {s with heap:=g}):
  bj M A (frameOf env>>= λa=>entryPlaceOf L N>>= λpl=>HN dN a .none (dL L) .none pl>>= λb=>setField (.ref e) 1 b) Q E s:=by
 have r:e∉(env::outer).filterMap (·.frame):=λz=>by
  obtain ⟨_,o,w,H⟩:=y.mem z;rw [B] at w;cases w;exact H vs j
 refine ak (wpAny_frameOf_fun u y I λf c=>ak (wpAny_entryPlaceOf λpl t=> ?_));unfold HN newFields;refine ak (Eo ?_ (t.sizeOk5 _ _ _ _ _));have D:f.get? e=some i:=(c.2.1 e r).trans B;generalize l:({cls:= .type "traceback",dict:=none,data:= .fields ([dN,bO L,.none,dL L,.none]++(if pl.isEmpty then aG 6 dC else pl)).toArray}:Obj)=d;have p:(f.push d).get? e=some i:=aq d D;refine oP p j hz (q _ f.objs.size ⟨λb o k G m=> ?_,λb o k O m=> ?_,λb o k=> ?_⟩ (wF (by rw [c.1];exact aO _)) ?_)
 ·have h:b≠e:=λz=>m (by rw [z];exact aL.mpr rfl);rw [bB _ _ (dO h)];exact aq d ((c.2.1 b G).trans k)
 ·have h:b≠e:=λz=>m (by rw [z];exact aL.mpr rfl);obtain ⟨x,n⟩:=c.2.2 b o k;exact ⟨x,by rw [bB _ _ (dO h)];exact aq d n⟩
 ·by_cases h:b=e
  ·subst h;exact ⟨_,cP _ p (gE (eJ j _))⟩
  ·obtain ⟨x,n⟩:=c.2.2 b o k;exact ⟨_,by rw [bB _ _ (dO h)];exact aq d n⟩
 ·have v:f.objs.size≠e:=nJ (aZ D);have J:(f.push d).get? f.objs.size=some d:=bG f (by subst l;rfl);refine ⟨_,_,d,([dN,bO L,.none,dL L,.none]++(if pl.isEmpty then aG 6 dC else pl)).toArray,cP _ p (gE (eJ j _)),Pa _ _,pI _ _,eJ j _,by simp [hz],?_,by subst l;rfl,?_,v⟩
  ·rw [bB _ _ (dO v)];exact J
  ·simp
def landed(x:EJ s.heap e C dx T fl)(q:∀g,(∀b o,b≠T->s.heap.get? b=some o->g.get? b=some o)->(∀b o,s.heap.get? b=some o->∃u,g.get? b=some u)->EJ g e C dx T .none->Q () {s with heap:=g}):bj M A (AN (.ref e) none) Q E s:=by
 obtain ⟨t,p,y,r,k,v,h,l,n,m,a,w,j⟩:=x;have i:3<r.size:=(dh.mp w).1;unfold AN;refine ak (fk k l n ?_);rw [if_pos (show (bO T != dC)=true by simp)];have self:=cP (gK (·.setIfInBounds 3 ((none:Option af).elim dC λf=>dL f))) m (gE (eJ a _));refine oP m a i (q _ (λb o c d=> ?_) (λb o d=> ?_) ?_)
 ·rw [bB _ _ (dO c)];exact d
 ·by_cases c:b=T
  ·subst c;exact ⟨_,self⟩
  ·exact ⟨o,by rw [bB _ _ (dO c)];exact d⟩
 ·refine ⟨t,p,_,_,?_,v,h,l,n,self,eJ a _,by simp [i],j⟩;rw [bB _ _ j];exact k
def so {fs:List af} {h g:cz} (k:∀b o,b≠T->h.get? b=some o->g.get? b=some o) (t:∀b o,h.get? b=some o->∃a,g.get? b=some a):Moved fs [T] h g where
 keep:=λb o e _ n=>k b o (λz=>n (by rw [z];exact aL.mpr rfl)) e
 slot:=λb o e _ n=>⟨o.slots,k b o (λz=>n (by rw [z];exact aL.mpr rfl)) e⟩
 there:=t
def Ad(i:A.frames=some (env::outer))(v:s.heap.FunFrames base (env::outer))(l:env.frame=some L)(x:Nm s.heap e C dx)(q:∀g T,Moved ((env::outer).filterMap (·.frame)) [e] s.heap g->s.heap.get? T=none->EJ g e C dx T .none->Q () {s with heap:=g}):bj M A (qj env (.ref e)) Q E s:=by
 obtain ⟨G,D,m,rfl,rfl,n,p⟩:=x;unfold qj iK;simp only [l];refine ak (ak (fk m n p ?_));rw [if_neg (by decide)];refine Pg (base:=base) i v l m n (dh.mp p).1 λg T d h B=> ?_;refine landed B λw k t j=>q w T ⟨λb o a r c=> ?_,λb o a u c=> ?_,λb o a=> ?_⟩ h j
 ·exact k b o (λz=>by rw [z,h] at a;cases a) (d.keep b o a r c)
 ·obtain ⟨y,f⟩:=d.slot b o a u c;exact ⟨y,k b _ (λz=>by rw [z,h] at a;cases a) f⟩
 ·obtain ⟨y,f⟩:=d.there b o a;exact t b y f
def xt(m:A.frames=some (env::outer))(H:s.heap.FunFrames base (env::outer))(n:env.frame=some L)(x:EJ s.heap e C dx T .none)(q:∀g h,Moved ((env::outer).filterMap (·.frame)) [e,T] s.heap g->s.heap.get? h=none->EJ g e C dx h (dL L)->Q () {s with heap:=g}):bj M A (iK (.ref e) env) Q E s:=by
 obtain ⟨w,N,O,v,p,rfl,rfl,r,u,l,f,t,B⟩:=x;unfold iK;simp only [n];refine ak (fk p r u ?_);rw [if_pos (show (bO T != dC)=true by simp)];refine ak (fk l f t ?_);rw [if_neg (show ¬((dC==dL L)=true) by simp [dL])];have self:=cP (gK (·.setIfInBounds 3 dC)) l (gE (eJ f _));refine ak (oP l f (dh.mp t).1 ?_);have a:∀b,b≠T->(s.heap.update T (gK (·.setIfInBounds 3 dC))).get? b=s.heap.get? b:=λb c=>bB _ _ (dO c);have J:(s.heap.update T (gK (·.setIfInBounds 3 dC))).get? e=some w:=(a e (dO B)).trans p;refine Pg (base:=base) (s:={s with heap:=s.heap.update T (gK (·.setIfInBounds 3 dC))}) m (H.of_keeps λb o d G=> ?_) n J r (dh.mp u).1 λg h k j I=> ?_
 ·have c:b≠T:=λz=>by
   subst z;rw [l] at d;cases d;exact G v f
  exact ⟨o,(a b c).trans d,rfl⟩
 ·refine q g h ⟨λb o d y i=> ?_,λb o d D i=> ?_,λb o d=> ?_⟩ ?_ I
  ·have c:b≠T:=λz=>i (by rw [z];simp);exact k.keep b o ((a b c).trans d) y λz=>i (by rw [aL.mp z];simp)
  ·have c:b≠T:=λz=>i (by rw [z];simp);exact k.slot b o ((a b c).trans d) D λz=>i (by rw [aL.mp z];simp)
  ·by_cases c:b=T
   ·subst c;exact k.there b _ self
   ·exact k.there b o ((a b c).trans d)
  ·by_cases c:h=T
   ·subst c;have z:(s.heap.update h (gK (·.setIfInBounds 3 dC))).get? h=none:=j;rw [self] at z;cases z
   ·exact (a h c).symm.trans j
def BA(j:A.frames=some (env::outer))(p:s.heap.FunFrames base (env::outer))(r:env.frame=some L)(x:EJ s.heap e C dx T .none)(q:∀g c,Moved ((env::outer).filterMap (·.frame)) [e,T] s.heap g->s.heap.get? c=none->EJ g e C dx c .none->Q () {s with heap:=g}):bj M A (qj env (.ref e)) Q E s:=by
 unfold qj;refine ak (xt (base:=base) j p r x λg c f i v=> ?_);refine landed v λu k t l=>q u c ⟨λb o a m d=> ?_,λb o a n d=> ?_,λb o a=> ?_⟩ i l
 ·exact k b o (λz=>by rw [z,i] at a;cases a) (f.keep b o a m d)
 ·obtain ⟨y,h⟩:=f.slot b o a n d;exact ⟨y,k b _ (λz=>by rw [z,i] at a;cases a) h⟩
 ·obtain ⟨y,h⟩:=f.there b o a;exact t b y h
end
section
variable {M:Wg} {A:gt} {E:al→aK→Prop} {h:cz} {g:Array KS} {d:Wi} {t:Nat} {os:gQ} {env:Env}
variable {nm q:Str} {C N:af} {bs bm:List al} {hdct:Bool} {sn:List Str} {sub:List al} {ab:Bool} {col:Option Bool} {dd:Option af} {k0 k1 k2 k3 k5:Option al} {newId:String}
variable {nm' q':Str} {C' N':af} {bs' bm':List al} {hdct':Bool} {sn':List Str} {sub':List al} {ab':Bool} {col':Option Bool} {dd':Option af} {k0' k1' k2' k3' k5':Option al} {newId':String}
def ub(n:bm.contains (.type "BaseException")=true)(m:A.handled=none)(k:bj M A x (λv a=>∃e b,v= .ref e/\a.heap.get? C=some (iZ nm q C N bs bm hdct sn sub ab col dd k0 k1 k2 k3 k5 newId)/\a.heap.get? e=some b/\b.cls= .ref C/\(∃vs,b.data= .fields vs/\vs[1]? =some .none)/\E (.ref e) a) E s):
  bj M A (N9 env (some x) none) Q E s:=by
 have p:(bO C::bm).contains (.type "BaseException")=true:=by rw [lS,n,Sc]
 unfold N9;refine ak (ft k (λv a k1=> ?_) λ_ _ z=>z);obtain ⟨e,⟨H,G,y,r⟩,rfl,j,c,i,⟨vs,f,l⟩,o⟩:=k1;obtain ⟨I,J,L,D,u⟩:=a;dsimp only at i f;subst i f
 repeat (first | with_reducible refine h_ c ?_ | with_reducible refine fk c rfl l ?_ | with_reducible refine h_ j ?_ | (with_reducible refine mC j ?_;rw [p]) | wp_step)
 exact wpAny_raiseNew_none m o
def yT(hC:h.get? C=some (iZ nm q C N bs bm hdct sn sub ab col dd k0 k1 k2 k3 k5 newId))(hC':h.get? C'=some (iZ nm' q' C' N' bs' bm' hdct' sn' sub' ab' col' dd' k0' k1' k2' k3' k5' newId'))(he:h.get? e=some oe)(hc:oe.cls= .ref C)(hb':bm'.contains (.type "BaseException")=true)(hm:(bO C::bm).contains (.ref C')=b)(k:Q b ⟨h,g,d,t,os⟩):bj M A (KD (.ref e) (.ref C')) Q E ⟨h,g,d,t,os⟩:=by
 have cb:(bO C'::bm').contains (.type "BaseException")=true:=by rw [lS,hb',Sc]
 have nt:=tc_notTuple
 unfold KD
 repeat (first | (with_reducible refine h_ he ?_;rw [hc]) | with_reducible refine h_ hC' ?_ | (with_reducible refine mC hC' ?_;rw [cb]) | (with_reducible refine mC hC ?_;rw [hm]) | wp_step)
 cases b<;>first | exact k | (wp_walk;exact k)
end
section
variable {prog:be} {w:bN} {A:gt} {E:al→aK→Prop} {h:cz} {g:Array KS} {d:Wi} {t:Nat} {os:gQ}
variable {nm q:Str} {C N:af} {bs bm bmB:List al} {sn:List Str} {sub:List al} {ab:Bool} {col:Option Bool} {dd:Option af} {k0 k1 k2 k3 k5:Option al} {B newId:String} {mN mA:Str→Option al}
open Builtin Builtin.ObjectAttr
def EI(F:ExcBaseFacts B newId a bm)(p:h.get? C=some (iZ nm q C N bs bm true sn sub ab col dd k0 k1 k2 k3 k5 newId))(i:h.get? e=some o)(m:o.cls= .ref C)(f:o.data= .fields vs)(h0:vs[0]? =some (.ref t0))(k:∀h' T,(∀b u,b≠e->h.get? b=some u->h'.get? b=some u)->h'.get? e=some (o.mapFields (·.setIfInBounds 0 (.ref T)))->Q .none ⟨h',g,d,t,os⟩):
  bj (bP prog w) A (DZ (.builtin a) [.ref e]) Q E ⟨h,g,d,t,os⟩:=by
 refine DV (PQ F.init.plain F.initEntry (wpAny_check_init_sub F p i m ?_));have c:(h.push {cls:= .type "tuple",data:= .seq #[]}).get? e=some o:=aq _ i;have l:0<vs.size:=(dh.mp h0).1;unfold Ez.«BaseException.__init__»
 repeat (first | with_reducible refine fk c f h0 ?_ | with_reducible refine oP c f l ?_ | wp_step)
 refine k _ h.objs.size (λb u j n=> ?_) ?_
 ·show ((h.push {cls:= .type "tuple",data:= .seq #[]}).update e _).get? b=some u;rw [bB _ _ (dO j)];exact aq _ n
 ·exact cP _ c (gE (eJ f _))
end
section
variable {prog:be} {w:bN} {A:gt} {E:al→aK→Prop} {h:cz} {g:Array KS} {d:Wi} {t:Nat} {os:gQ}
variable {nm q:Str} {C N x:af} {bs bm:List al} {sn:List Str} {sub:List al} {ab:Bool} {col:Option Bool} {dd:Option af} {k0 k1 k2 k3 k5:Option al} {B newId sa owner:String}
 {mN:Str→Option al} {name:Str} {v:al}
set_option maxHeartbeats 4000000 in
def K_(SF:StoreFacts B bm sa owner)(hC:h.get? C=some (iZ nm q C N bs bm true sn sub ab col dd k0 k1 k2 k3 k5 newId))(hn:h.Ns N mN)(hna:mN name=none)(hB:qd (.type B) name=pure none)(hx:h.get? x=some o)(hc:o.cls= .ref C)(hd:o.data= .fields vs)(hdn:o.dict=none)(k:∀h' tk',(∀b u,b≠x->h.get? b=some u->h'.get? b=some u)->h'.get? x=some {o with dict:=some h.objs.size}->h'.Ns1 h.objs.size (λy=>if y=name then some v else none)->Q (.done (.ret .none)) ⟨h',g,d,tk',os⟩):
  bj (bP prog w) A (Ez.«object.__setattr__» ⟨[.ref x,.str name tk,v],[]⟩) Q E ⟨h,g,d,t,os⟩:=by
 obtain ⟨oc,od,odt,osl⟩:=o
 dsimp only at hc hd hdn
 subst hc hd hdn
 have pass:=SF.passes (.ref x)
 have xs:x≠h.objs.size:=cu (aZ hx)
 have x1:(h.push {cls:= .type "dict",data:= .dict #[]}).get? x=some {cls:= .ref C,dict:=none,data:= .fields vs,slots:=osl}:=aq _ hx
 have d1:((h.push {cls:= .type "dict",data:= .dict #[]}).update x λo=>{cls:=o.cls,dict:=some h.objs.size,data:=o.data,slots:=o.slots}).get? h.objs.size=some {cls:= .type "dict",data:= .dict #[]}:=
  (MV _ _ _ _ xs.symm).trans (Heap.get?_push_at rfl rfl)
 have n1:((h.push {cls:= .type "dict",data:= .dict #[]}).update x λo=>{cls:=o.cls,dict:=some h.objs.size,data:=o.data,slots:=o.slots}).Ns h.objs.size (λ_=>none):=
  ⟨_,#[],_,d1,rfl,λe he=>absurd he (by simp),λ_=>rfl⟩
 have x2:((h.push {cls:= .type "dict",data:= .dict #[]}).update x λo=>{cls:=o.cls,dict:=some h.objs.size,data:=o.data,slots:=o.slots}).get? x=some {cls:= .ref C,dict:=some h.objs.size,data:= .fields vs,slots:=osl}:=
  cP _ x1 rfl
 unfold Ez.«object.__setattr__»
 repeat (first | rw [refuse_eq] | (rw [refuseLoop_ref,pass]) | with_reducible refine h_ hx ?_ | with_reducible refine wpAny_mroOf_exc hC ?_ | (with_reducible refine PH hC hn SF.mro hB ?_;rw [hna]) | with_reducible refine VS (KR n1) ?_ | wp_step)
 intro h' hn' hs
 obtain ⟨oD,esD,epD,hoD,hdD,hcD⟩:=hn'.count (MR name v Within.nil)
 refine ak (Th hoD (by rw [hdD];exact Tq (cD hcD (by rw [aF,pF,cq];omega))) ?_)
 wp_walk
 refine k h' _ (λb u nb hb=> ?_) ((hs.2 x xs).trans x2) hn'
 exact (hs.2 b (cu (aZ hb))).trans ((MV _ _ _ _ nb).trans (aq _ hb))
def EH(e:StoreFacts B bm sa owner)(l:h.get? C=some (iZ nm q C N bs bm true sn sub ab col dd k0 k1 k2 k3 k5 newId))(r:h.Ns N mN)(m:mN "__setattr__"=none)(n:mN name=none)(z:qd (.type B) name=pure none)(i:h.get? x=some o)(j:o.cls= .ref C)(s:o.data= .fields vs)(p:o.dict=none)(k:∀h' f,(∀b u,b≠x->h.get? b=some u->h'.get? b=some u)->h'.get? x=some {o with dict:=some h.objs.size}->h'.Ns1 h.objs.size (λy=>if y=name then some v else none)->Q () ⟨h',g,d,f,os⟩):
  bj (bP prog w) A (S0 (.ref x) name v) Q E ⟨h,g,d,t,os⟩:=by
 have D:=e.slot.bind (.ref x);unfold S0 callSpecial? specialOf
 repeat (any_goals (first | assumption | (with_reducible refine h_ i ?_;rw [j]) | (with_reducible refine PH l r e.mro e.slot.lookup ?_;rw [m]) | wp_step))
 refine PQ e.slot.plain e.entry (wpAny_check_sa e l i j (K_ e l r n z i j s p λh' f a b c=> ?_))
 repeat (any_goals (first | assumption | wp_step))
 exact k h' f a b c
end
end Rx
namespace L2
open PySem PySem.Spec PyProof.Rows Rx
section
variable {P:be} {w:bN} {H:Hp} {h g:cz} {a e:af} {o:HO}
def HOk.seen(ok:HOk P w H h)(q:H a=some o):∃b,h.get? a=some b:=by
 have x:=ok a o q;cases o with
 | lst d=>obtain ⟨_,_,_,_,e⟩:=x;exact ⟨_,e⟩
 | tup d=>obtain ⟨_,_,_,b,e,_⟩:=x;exact ⟨b,e⟩
 | dK c=>obtain ⟨_,_,_,_,b,_,_,e,_⟩:=x;exact ⟨b,e⟩
 | dT c=>obtain ⟨_,_,_,_,b,_,_,e,_⟩:=x;exact ⟨b,e⟩
 | set S n=>obtain ⟨b,_,_,_,e,_⟩:=x;exact ⟨b,e⟩
 | ins C m i=>obtain ⟨_,_,_,e,_⟩:=x;exact ⟨_,e⟩
 | own y=>exact x
 | xd i=>obtain ⟨_,⟨b,_,_,e,_⟩,_⟩:=x;exact ⟨b,e⟩
 | rng lo l=>obtain ⟨_,_,_,e⟩:=x;exact ⟨_,e⟩
 | frz b u=>obtain ⟨e,_⟩:=x;exact ⟨_,e⟩
 | tbl k=>exact ⟨_,x⟩
 | met f y=>exact ⟨_,x⟩
 | ext j=>exact x.2.1
def HOk.gone(ok:HOk P w H h)(n:h.get? a=none):H a=none:=by
 cases q:H a with
 | none=>rfl
 | some o=>
  obtain ⟨b,z⟩:=ok.seen q;rw [n] at z;cases z
def HOk.moved(ok:HOk P w H h)(d:Moved fs ch h g)(i:∀b∈fs,H b=none)(j:∀b∈ch,H b=none):HOk P w H g:=λa o q=>
 (ok a o q).stay (λb u k e=>by
  have c:H b≠none:=by
   rcases k with z | z
   ·rw [z,q];exact λy=>nomatch y
   ·rw [z];exact λy=>nomatch y
  exact d.keep b u e (λz=>c (i b z)) λz=>c (j b z)) (λ_ r=>r) λ_ _ r=>r
def Un.moved {fs c ch:List af} {H0:Hp} {h0:cz} (u:Un c [] H0 H h0 h) (i:Moved fs ch h g) (v:∀b o,h0.get? b=some o->b∈fs->b∈c) (m:∀b∈ch,h0.get? b=none):Un c [] H0 H h0 g where
 keep:=λb o e n k d=>i.keep b o (u.keep b o e n k d) (λz=>k (v b o e z)) λz=>by rw [m b z] at e;cases e
 slot:=λb o e n t d=>by
  obtain ⟨q,j⟩:=u.slot b o e n t d;have l:b∉ch:=λz=>by rw [m b z] at e;cases e
  by_cases z:b∈fs
  ·obtain ⟨p,x⟩:=i.slot b _ j z l;exact ⟨p,x⟩
  ·exact ⟨q,i.keep b _ j z l⟩
 free:=u.free
 there:=λb o e d=>by
  obtain ⟨r,j⟩:=u.there b o e d;exact i.there b r j
 tups:=u.tups
 frzs:=u.frzs
 tbls:=u.tbls
def QK(H:Hp)(e:af):Hp:=λb=>if b=e then none else H b
def yF:QK H e e=none:=if_pos rfl
def rj(n:b≠e):QK H e b=H b:=if_neg n
def uP(n:H b=none):QK H e b=none:=by
 by_cases z:b=e
 ·rw [z];exact yF
 ·rw [rj z];exact n
def HOk.drop(ok:HOk P w H h)(c:H e=some (.ext d)):HOk P w (QK H e) h:=λa o q=>by
 by_cases z:a=e
 ·subst z;rw [yF] at q;cases q
 ·rw [rj z] at q;exact (ok a o q).stay (λ_ _ _ r=>r) (λb r=>by rw [rj (jr r c (by intro y;cases y))];exact r) λb i r=>by rw [rj (jr r c (by intro y;cases y))];exact r
end
def XF(C e:af)(dx:Option af):HO:= .ext λh=>∃b c,h.get? e=some b/\b.cls= .ref C/\b.dict=dx/\b.data= .fields c/\(∃d,c[0]? =some (.ref d))/\c[1]? =some .none
def LM(c:h.get? e=some b)(m:b.cls= .ref C)(l:b.dict=dx)(j:b.data= .fields vs)(i:vs[0]? =some (.ref t0))(d:vs[1]? =some .none):Wo P w H h e (XF C e dx):=
 ⟨⟨b,vs,c,m,l,j,⟨t0,i⟩,d⟩,⟨b,c⟩,λ_ _ ⟨o,v,a,r⟩ k=>⟨o,v,k o a,r⟩⟩
section
variable {X:Cx} {pins:List (af×Obj)} {σ:St} {H H':Hp} {s s':aK} {h':cz}
def Inv.laidX(I:Inv X pins σ H s)(k:∀b u,s.heap.get? b=some u->h'.get? b=some u)(l:s.heap.get? a=none)(i:Wo X.prog X.w (upd H a o) h' a o):
  Inv X pins σ (upd H a o) {s with heap:=h',toks:=t'}:=by
 have d:=I.hok.gone l;refine I.un ⟨λb u q _ _ _=>k b u q,λb u q _ _ _=>⟨u.slots,k b u q⟩,λb u q n _=> ?_,λb u q _=>⟨u,k b u q⟩,λb j q=>by rw [aC (aU q d)];exact q,
  λb u j q=>by rw [aC (aU q d)];exact q,λb m q=>⟨#[],by rw [aC (aU q d),q];simp⟩⟩ λb u q=> ?_
 ·rw [aC (λz=>by rw [z,l] at q;cases q)];exact n
 ·by_cases z:b=a
  ·subst z;rw [ao] at q;cases q;exact i
  ·rw [aC z] at q;exact (I.hok b u q).stay (λc v _ r=>k c v r) (λc r=>by rw [aC (aU r d)];exact r) λc j r=>by rw [aC (aU r d)];exact r
theorem Inv.drop(I:Inv X pins σ H s)(d:H e=some (.ext r))(h0:X.s_0.heap.get? e=none):Inv X pins σ (QK H e) s:=
 ⟨I.ok,I.os,I.bare,⟨I.base.keep,I.base.slot,λb o q n k=>uP (I.base.free b o q n k),I.base.there,
   λb i q=>by have z:=I.base.tups b i q;rw [rj (jr z d (by intro y;cases y))];exact z,
   λb o i q=>by have z:=I.base.frzs b o i q;rw [rj (jr z d (by intro y;cases y))];exact z,
   λb j q=>by obtain ⟨m,z⟩:=I.base.tbls b j q;exact ⟨m,by rw [rj (jr z d (by intro y;cases y))];exact z⟩⟩,
  I.loc,I.cell,uP I.free,λx c q=>uP (I.freeC x c q),λp l=>let ⟨a,b,c⟩:=I.pin p l;⟨a,uP b,c⟩,I.hok.drop d,I.len⟩
end
def CXE(P:be)(w:bN):AK:=λouter H s E c s'=>∃(e:af) (C:al) (b:Option af) (T:af) (H':Hp),c= .ref e/\s'.os=s.os/\AS s'.gens/\Un (tT outer) [] H H' s.heap s'.heap/\HOk P w H' s'.heap/\
 s.heap.get? e=none/\s.heap.get? T=none/\H' e=none/\H' T=none/\EJ s'.heap e C b T .none/\E C b H'
def cw:ge (CXE P w) X E0:=λ_ _ _ _ _ _ _ ⟨_,_,_,_,_,_,_,_,_,_,_,_,_,_,_,q⟩=>q.elim
def HF(X:Cx)(E:XK):Prop:=∀(pins:List (af×Obj)) (σ:St) (H:Hp) (s:aK) (e:af) (C:al) (b:Option af),Inv X pins σ H s->X.s_0.heap.get? e=none->Nm s.heap e C b->H e=none->E C b H->X.xe (.ref e) s
section
variable {P:be} {w:bN} {K:ac} {mg:Str→Option al} {base:cz} {N:List Str} {qual:Str} {scope:i_} {f:af} {cd:al} {A:gt} {outer:List Env} {s0:aK} {H0:Hp} {E:XK}
def iT {X:Cx} {pins:List (af×Obj)} {σ:St} {H:Hp} {s:aK} (I:Inv X pins σ H s) (c:X.ex=[]) {b:af} (n:s.heap.get? b=none):X.s_0.heap.get? b=none:=by
 cases q:X.s_0.heap.get? b with
 | none=>rfl
 | some o=>
  obtain ⟨d,e⟩:=I.base.there b o q (by rw [c];simp);rw [n] at e;cases e
def rV{X:Cx}(ok:X.Ok)(q:X.s_0.heap.get? b=some o)(c:b∈tT X.stack):b∈X.fs:=by
 rcases ok.stk with z | ⟨z,d⟩
 ·rw [z] at c;exact c
 ·rw [z] at c;unfold tT at c;rw [jd,d] at c;rcases aH.mp c with y | y
  ·rw [y] at q;exact absurd (bZ (aZ q) ok.above) (eW _)
  ·exact y
def eO:ge (CXE P w) (zY (CXE P w) P w K mg base N qual scope f cd A outer s0 H0 E) E:=by
 intro pins σ H s G s' I h;obtain ⟨e,C,B,T,H',rfl,os,c,t,d,n,u,r,v,x,q⟩:=h;have i:=I.call' (s':=s') (ch:=[]) os t d c (λb z=>absurd z (by simp));show bj _ _ (qj _ (.ref e)) _ _ s';refine BA (base:=base) (outer:=outer) i.ok.frames i.stack rfl x λg D p j m=> ?_;have l:∀b∈[e,T],s0.heap.get? b=none:=λb k=>by
  rcases aH.mp k with z | z
  ·rw [z];exact iT I rfl n
  ·rw [aL.mp z];exact iT I rfl u
 refine ⟨e,C,B,D,H',rfl,os.trans I.os,c,Un.moved (H0:=H0) (h0:=s0.heap) i.base p (λb o z y=>rV i.ok z y) l,d.moved p i.stkFree (λb k=> ?_),iT I rfl n,iT i rfl j,r,d.gone j,m,q⟩;rcases aH.mp k with z | z
 ·rw [z];exact r
 ·rw [aL.mp z];exact v
def ig:HF (zY (CXE P w) P w K mg base N qual scope f cd A outer s0 H0 E) E:=by
 intro pins σ H s e C n I d l k q;show bj _ _ (qj _ (.ref e)) _ _ s;refine Ad (base:=base) (outer:=outer) I.ok.frames I.stack rfl l λg T j i m=> ?_;refine ⟨e,C,n,T,H,rfl,I.os,I.bare,Un.moved (H0:=H0) (h0:=s0.heap) I.base j (λb o z y=>rV I.ok z y) (λb c=>by rw [aL.mp c];exact d),I.hok.moved j I.stkFree (λb c=>by rw [aL.mp c];exact k),d,iT I rfl i,k,I.hok.gone i,m,q⟩
def vT:Tw (bP P w) (zY (CXE P w) P w K mg base N qual scope f cd A outer s0 H0 E).A (zY (CXE P w) P w K mg base N qual scope f cd A outer s0 H0 E).env (zY (CXE P w) P w K mg base N qual scope f cd A outer s0 H0 E).xe:=W1
def Fun.okX{st}(F:Fun K x qual st f l)(S:WB N ps (aA st))(len:∀vs H Q E,sp vs H Q E->vs.length=ps.length)(b:∀(cdv:al) (A:gt) (outer:List Env) (s:aK) (H:Hp) (vs:List V) (Q:VK) (E:XK),Wy k (A.deeper (Ac qual (aA st) s.heap.objs.size f cdv))->sp vs H Q E->
   ∃t,HR (zY (CXE P w) P w K mg base N qual (aA st) f cdv A outer s H E) (dB st) t/\t {nx:=λ_ H'=>Q .non H',rt:=Q} (start N vs) H):Wz P w K mg base (CXE P w) (k+1) f l ps sp:=by
 obtain ⟨r,q,kV,n,p,v,cdv,u,m,rfl,i,d⟩:=F.ex;exact FU i d S len λA outer s H vs Q E j c=>b cdv A outer s H vs Q E j c
end
abbrev QL:List al:=[.type "Exception",.type "BaseException",.type "object"]
structure XC (K:ac) (C N:af):Prop where
 obj:∃nm q bs sn sub ab col dd k0 k1 k2 k3 k5,K.lookup C=some (iZ nm q C N bs QL true sn sub ab col dd k0 k1 k2 k3 k5 "Exception.__new__")
 ns:uV K N=true
 kp:bq K (.ref C)=true
def Dq{K}(X:K.In h)(G:h.Ns N a)(e:aj K N n=some (some v)):a n=some v:=by
 obtain ⟨o,es,s,b,j,_,g⟩:=G;unfold aj at e;split at e
 ·rename_i c d l r m q;have z:=X _ _ q;rw [b] at z;cases z;cases j;split at e
  ·rename_i u i;cases e;rw [<-g];unfold nsFind findBy;rw [<-N4,i];rfl
  ·split at e<;>cases e
 ·cases e
def XC.nsAt{K}(x:XC K C N)(k:K.In h):h.Ns N (h.nsMap N):= .of_isNs (PySem.W.isNs_of_in k x.ns)
def XC.no{K}(x:XC K C N)(k:K.In h)(e:aj K N n=some none):h.nsMap N n=none:=PySem.W.nsMap_none_of_in k x.ns e
section
variable {X:Cx} {C N f:af} {CX:AK} {k:Nat} {fd:ip} {ps:List Str} {sp:Sp} {E E1:XK} {x:Str} {p cpos pos:Pos} {e:eM} {es:List eM} {t:TA}
def LO(C:af)(sp:Sp)(E E1:XK)(t:TA):TS:=λ_ d H=>t d H λg c=>∀e,c e=none->sp (.ref e::g) (upd c e (XF C e none)) (λv b=>v= .non/\∃a,b e=some (XF C e a)/\E (.ref C) a (QK b e)) E1
def zK(hc:X.calm=true)(hex:X.ex=[])(A:XC X.K C N)(hi:aj X.K N "__init__"=some (some (.ref f)))(Q:∃o,X.K.lookup f=some o/\o.cls= .type "function")(F:Wz X.prog X.w X.K X.mg X.base CX k f fd ps sp)(hr:Wy (k+1) X.A)(hg:Gl X x)(hm:X.mg x=some (.ref C))(hb:Binds X.K fd ps [])(a0:ps.length<=1000)(hx:ge CX X E1)(ht:HF X E)(ha:PA X (e::es) t)(T:(x==("__debug__":Str))=false:=by decide)(he:bx (e::es) X.env=(false,eval e X.env)::bx es X.env:=by rfl)(O:(fV cpos (bx es X.env)).any (·.1)=false:=by rfl):
  PS X (.Raise (some (.Call (.Name x p) (e::es) [] cpos)) none pos) (LO C sp E E1 t):=by
 intro b s w H D I h;obtain ⟨nm,q,bs,sn,sub,ab,col,dd,k0,k1,k2,k3,k5,lk⟩:=A.obj;obtain ⟨of,lf,cf⟩:=Q;show bj _ _ (do AM pos;N9 X.env (some (do let v <-eval (.Call (.Name x p) (e::es) [] cpos) X.env;AM pos;pure v)) none) _ _ s;refine ak (kq (ub (C:=C) (N:=N) (nm:=nm) (q:=q) (bs:=bs) (bm:=QL) (hdct:=true) (sn:=sn) (sub:=sub) (ab:=ab) (col:=col) (dd:=dd) (k0:=k0) (k1:=k1) (k2:=k2) (k3:=k3) (k5:=k5) (newId:="Exception.__new__") (by decide) (I.ok.hd hc) ?_));refine ak (gL ?_ λv s1 k1=>ak (kq (bh k1)));refine dk (oh I hg hm ?_ T);refine jl (h₀:=X.base) I.ok.mod.kin A.kp (gL (ha cpos b s w H _ I h) λd s1 ⟨vs,H1,c,r,q1⟩=>⟨c.kIn,?_⟩) he O;obtain ⟨h1,g1,d1,G,l⟩:=s1;have M:d.length<=a_:=by
  have z:=F.len _ _ _ _ (q1 (h1.objs.size) (c.hok.fresh (aO _)));have y:=r.length;rw [aF] at z;have:=jx (n:=d.length) (by omega);omega
 refine wpAny_call_exc_init qw (c.kIn _ _ lk) (A.nsAt c.kIn) (Dq c.kIn (A.nsAt c.kIn) hi) (c.kIn _ _ lf) cf (λh' a mk=> ?_) M;obtain ⟨tt,m1,m2,m3⟩:=mk.there;have B:Inv X b w (upd H1 a (XF C a none)) ⟨h',g1,d1,G,l⟩:=c.laidX (t':=G) mk.keeps mk.new (LM m1 rfl rfl rfl rfl rfl);have q2:=q1 a (c.hok.gone mk.new);have r2:Wn (WA a::vs) (bO a::d):= .cons rfl r;have hl:(bO a::d++[]).length=ps.length:=by
  rw [gy,<-r2.length];exact F.len _ _ _ _ q2
 have m:=hb ⟨h',g1,d1,G,l⟩ (bO a::d) B.kIn hl;rw [gy] at m;refine DV (rZ (F.run _ X.stack _ _ ⟨bO a::d,[]⟩ (bO a::d) _ _ E1 (hr.make C d []) (B.env0.make C d []) m r2 q2) λrr s' i=> ?_);cases rr with
 | error J=>exact hx b w _ _ J s' B i
 | ok fl=>
  cases fl with
  | next=>exact dn i
  | brk=>exact dn i
  | cont=>exact dn i
  | ret u=>
   obtain ⟨v,H2,L,rv,J,dx,hX,hE⟩:=B.after i;subst J;refine ⟨rv,a,?_⟩;obtain ⟨⟨oe,j,x1,x2,x3,Y,x5,U⟩,_,_⟩:=L.hok a _ hX;refine ⟨oe,rfl,L.kIn _ _ lk,x1,x2,⟨j,Y,U⟩,?_⟩;have g:X.s_0.heap.get? a=none:=iT c hex mk.new;exact ht b w _ s' a (.ref C) dx (L.drop hX g) g ⟨oe,j,x1,x2,x3,Y,U⟩ yF hE
def Hl(C:af)(E:XK):TS:=λ_ _ H=>E (.ref C) none H
def eK(A:X.calm=true)(hex:X.ex=[])(d:XC X.K C N)(y:aj X.K N "__init__"=some none)(z:Gl X x)(w:X.mg x=some (.ref C))(u:HF X E)(i:(x==("__debug__":Str))=false:=by decide):
  PS X (.Raise (some (.Call (.Name x p) [] [] cpos)) none pos) (Hl C E):=by
 intro b s j H D I h;obtain ⟨nm,q,bs,sn,sub,ab,col,dd,k0,k1,k2,k3,k5,n⟩:=d.obj;show bj _ _ (do AM pos;N9 X.env (some (do let v <-eval (.Call (.Name x p) [] [] cpos) X.env;AM pos;pure v)) none) _ _ s;refine ak (kq (ub (C:=C) (N:=N) (nm:=nm) (q:=q) (bs:=bs) (bm:=QL) (hdct:=true) (sn:=sn) (sub:=sub) (ab:=ab) (col:=col) (dd:=dd) (k0:=k0) (k1:=k1) (k2:=k2) (k3:=k3) (k5:=k5) (newId:="Exception.__new__") (by decide) (I.ok.hd A) ?_));refine ak (gL ?_ λv M k1=>ak (kq (bh k1)));refine dk (oh I z w ?_ i);refine we I.kIn d.kp ?_;obtain ⟨T,G,J,l,g⟩:=s;refine wpAny_call_exc_sub qw (I.kIn _ _ n) (d.nsAt I.kIn) (d.no I.kIn y) (λB a mk=> ?_) (cy _);obtain ⟨L,m,Q,O⟩:=mk.there;have r:Inv X b j H ⟨B,G,J,l,g⟩:=I.kept (t':=l) mk.keeps;have c:X.s_0.heap.get? a=none:=iT I hex mk.new;exact ⟨a,_,rfl,r.kIn _ _ n,m,rfl,⟨_,rfl,rfl⟩,u b j H _ a (.ref C) none r c ⟨_,_,m,rfl,rfl,rfl,rfl⟩ (I.hok.gone mk.new) h⟩
end
def CP(h:H a=some o):upd H a o=H:=by
 funext b;by_cases z:b=a
 ·rw [z,ao,h]
 ·exact aC z
def yE(K):Nc K (.type "Exception") (.type "type") "__init__"=some (.val (.builtin "Exception.__init__")):=by
 show Nc [] (.type "Exception") (.type "type") "__init__"=_;kernel_rfl
section
variable {X:Cx} {C N:af} {p apos pos:Pos} {e o value:eM} {te ta tv:TE} {fl:Str} {pos':Pos}
def O6(K:ac)(t:TA):TE:=λc H Q=>t c H λd b=>∃a C N g,d=[.ref a]/\b a=some (XF C a g)/\XC K C N/\Q .non b
def Jj {pl:Sem Bool} {t:TA} (hg:Gl X "Exception") (hm:X.mg "Exception"=none) (ha:PA X [e] t) (hs:bx [e] X.env=[(false,eval e X.env)]:=by rfl)
  (Y:eval (.Call (.Attribute (.Name "Exception" p) "__init__" apos) [e] [] pos) X.env=(do
   let n <-eval (.Name "Exception" p) X.env
   AM apos.atName
   let (f,first) <-S3 [n] (Na n "__init__" pl)
   callWith pos f first (fV pos (bx [e] X.env)) (KL pos (A7 [] X.env))):=by rfl):
  PE X (.Call (.Attribute (.Name "Exception" p) "__init__" apos) [e] [] pos) (O6 X.K t):=by
 intro b s w H Q I h;refine HU (pl:=pl) (rh I hg hm PyProof.Rows.Boot.«Exception» ?_ (by decide) (by decide)) Y;obtain ⟨m,Fm⟩:=I.fr;refine PySem.W.method_type Fm I.mod.kin (by kernel_rfl) (by decide+kernel) (yE X.K) (by decide+kernel) ?_;have I0:=I.tok (s.toks+1);have hA:=ha pos b _ w H _ I0 h;rw [hs] at hA ⊢;refine mQ rfl (oR ?_);refine gL hA λus J ⟨vs,H2,d,M,a,C,N,dx,ev,c,z,q⟩=> ?_;subst ev;obtain ⟨u,rfl,L⟩:=vals1 M;obtain rfl:u=bO a:=L;obtain ⟨nm,qn,bs,sn,sub,ab,a1,dd,k0,k1,k2,k3,k5,O⟩:=z.obj;obtain ⟨⟨oe,g,D,l,B,j,⟨t0,i⟩,A⟩,_,_⟩:=d.hok a _ c;obtain ⟨h1,g1,d1,G,a0⟩:=J;refine EI qw (d.kIn _ _ O) D l j i λh' T U r=> ?_;have y:0<g.size:=(dh.mp i).1;have v:=d.write (x:=a) (e:=a) (h':=h') (t':=G) (o:=XF C a dx) (by rw [c];exact oH) (.inl rfl) U ⟨_,r⟩
  (LM r ((Pa _ _).trans l) ((pI _ _).trans B) (eJ j _) (t0:=T) (by simp [y]) (by rw [Array.getElem?_setIfInBounds_ne (by decide)];exact A))
 rw [CP c] at v;exact ⟨.non,H2,v,rfl,q⟩
def QB(K:ac)(ta tv:TE)(f:Str):TS:=λD c H=>tv c H λy g=>ta c g λx d=>∃a C N,x= .ref a/\d a=some (XF C a none)/\XC K C N/\aj K N f=some none/\aj K N "__setattr__"=some none/\
 ∀b,d b=none->b≠a->D.nx c (upd (upd d b (.xd [(f,y)])) a (XF C a (some b)))
def Jw{h:cz}{o}(e:(h.push o).get? b=some u):h.get? b=some u\/(b=h.objs.size/\u=o):=by
 obtain ⟨a,d⟩:=yR.mp e;by_cases z:b<h.objs.size
 ·left;refine yR.mpr ⟨?_,d⟩;have y:(h.objs.push o)[b]? =some u:=a;rw [Array.getElem?_push_lt z] at y;rw [Array.getElem?_eq_getElem z];exact y
 ·right;have y:(h.objs.push o)[b]? =some u:=a;have lt:=(dh.mp y).1;rw [Pf] at lt;have c:b=h.objs.size:=Nat.le_antisymm (Nat.lt_succ_iff.mp lt) (Nat.le_of_not_lt z);subst c;rw [Array.getElem?_push_size] at y;exact ⟨rfl,(bw y).symm⟩
def M0(ha:PE X o ta)(hv:PE X value tv)(hB:qd (.type "Exception") fl=pure none)(hs:se value (some (.Attribute o fl pos')) pos.line X.env=pure false):PS X (.Assign [.Attribute o fl pos'] value pos) (QB X.K ta tv fl):=by
 intro d s m H D I h;refine FZ (gL (hv d s m H _ I h) λu s1 ⟨y,H1,I1,ry,q⟩=>gL (ha d s1 m H1 _ I1 q) λov s2 ⟨x,H2,i,rx,a,C,N,ex,M,l,n1,n2,q2⟩=> ?_) hs;subst ex;obtain rfl:ov=bO a:=rx;obtain ⟨nm,qn,bs,sn,sub,ab,a2,dd,k0,k1,k2,k3,k5,lk⟩:=l.obj;obtain ⟨⟨oe,a0,B,A,Y,w,⟨t0,U⟩,T⟩,_,_⟩:=i.hok a _ M;obtain ⟨c,g1,d1,t1,a1⟩:=s2;refine EH PySem.F.store_Exception (i.kIn _ _ lk) (l.nsAt i.kIn) (l.no i.kIn n2) (l.no i.kIn n1) hB B A w Y λh' G kp L j=> ?_;have fr:=i.hok.fresh (a:=c.objs.size) (aO _);have J:c.objs.size≠a:=nJ (aZ B);obtain ⟨r,es,ep,n,zr⟩:=id j;have alive:=(yR.mp n).2;have p1:(c.push r).get? c.objs.size=some r:=bG c alive;have I3:=i.laid (a:=c.objs.size) (o:= .xd [(fl,y)]) (h':=c.push r) (t':=G) (λb u z=>aq _ z) (aO _)
  ⟨_,j.at (λo z=>by rw [n] at z;cases z;exact p1),λg=>by
   show RelO (kK g [(fl,y)]) (if g=fl then some u else none);by_cases z:g=fl
   ·rw [if_pos z,z,List.lookup_cons_self];exact ry
   ·rw [if_neg z,eS,show (g==fl)=false from beq_eq_false_iff_ne.mpr z];exact oH⟩
 have v:upd H2 c.objs.size (.xd [(fl,y)]) a=some (XF C a none):=by rw [aC (dO J)];exact M
 have I4:=I3.write (x:=a) (e:=a) (h':=h') (t':=G) (o:=XF C a (some c.objs.size)) (by rw [v];exact oH) (.inl rfl) (λb u nb z=>by
   rcases Jw z with y | ⟨Q,O⟩
   ·exact kp b u nb y
   ·rw [Q,O];exact n) ⟨_,L⟩ (LM L A rfl w U T)
 exact ⟨m,_,I4,q2 _ fr J⟩
end
abbrev Cx.tr(X:Cx)(pn:List (af×Obj))(Ev:al->aK->Prop):Cx:={X with pn:=pn,xe:=Ev}
abbrev Cx.hd(X:Cx)(e:af)(pn:List (af×Obj)):Cx:={X with A:=X.A.mark (some (.ref e)),calm:=false,pn:=pn,xe:=λ_ _=>False}
def none_of(n:Nat):St:=aG n none
def AH{n i:Nat}(h:(none_of n)[i]? =some (some v)):False:=by
 unfold none_of at h;rw [mJ] at h;split at h<;>cases h
section
variable {X:Cx} {pins pn pn':List (af×Obj)} {σ:St} {H:Hp} {s:aK} {Ev:al→aK→Prop} {e:af}
def Cx.Ok.to_tr(ok:X.Ok):(X.tr pn Ev).Ok:=⟨ok.mod,ok.kind,ok.glob,ok.blt,ok.above,ok.inj,ok.has,ok.cab,ok.hd,ok.frames,ok.stk,ok.exf,ok.bs,ok.bsz,ok.noex,ok.exfs,ok.funs,ok.frf⟩
def Cx.Ok.of_tr(ok:(X.tr pn Ev).Ok):X.Ok:=⟨ok.mod,ok.kind,ok.glob,ok.blt,ok.above,ok.inj,ok.has,ok.cab,ok.hd,ok.frames,ok.stk,ok.exf,ok.bs,ok.bsz,ok.noex,ok.exfs,ok.funs,ok.frf⟩
def Cx.Ok.to_hd(ok:X.Ok):(X.hd e pn).Ok:=⟨ok.mod,ok.kind,ok.glob,ok.blt,ok.above,ok.inj,ok.has,ok.cab,(λz=>nomatch z),ok.frames,ok.stk,ok.exf,ok.bs,ok.bsz,ok.noex,ok.exfs,ok.funs,ok.frf⟩
theorem Inv.to_tr(I:Inv X pins σ H s):Inv (X.tr (X.pn++pins) Ev) [] σ H s:=
 ⟨I.ok.to_tr,I.os,I.bare,I.base,I.loc,I.cell,I.free,I.freeC,λp a=>I.pin p (by rw [gy] at a;exact a),I.hok,I.len⟩
theorem Inv.of_tr(I:Inv (X.tr (X.pn++pins) Ev) pn' σ H s):Inv X pins σ H s:=
 ⟨I.ok.of_tr,I.os,I.bare,I.base,I.loc,I.cell,I.free,I.freeC,λp a=>I.pin p (gh _ a),I.hok,I.len⟩
theorem Inv.to_hd(I:Inv X pins σ H s)(a:∀p∈pn,s.heap.get? p.1=some p.2/\H p.1=none/\p.1≠X.env.locals/\p.1∉X.fs/\∀v,p.2.data≠.cell v):Inv (X.hd e pn) [] (none_of X.N.length) H s:=
 ⟨I.ok.to_hd,I.os,I.bare,I.base,let ⟨m,b,_⟩:=I.loc;⟨m,b,λi x v _ c _=>(AH c).elim⟩,I.cell,I.free,I.freeC,λp h=>a p (by rw [gy] at h;exact h),I.hok,bU⟩
def Inv.of_hd(I:Inv (X.hd e pn) pn' σ H s)(ok:X.Ok)(a:∀p∈X.pn++pins,p∈pn):Inv X pins σ H s:=
 ⟨ok,I.os,I.bare,I.base,I.loc,I.cell,I.free,I.freeC,λp h=>I.pin p (gh _ (a p h)),I.hok,I.len⟩
end
def wW(D:Wq):Wq:={nx:=λ_ _=>False,rt:=D.rt}
section
variable {X:Cx} {CX:AK} {x:Str} {p pos:Pos} {e:eM} {es:List eM} {t:TA} {E:XK} {i:Nat}
def O9(X:Cx)(CX:AK)(k:Nat)(ps:List Str)(E:XK)(i:Nat)(t:TA):TE:=λσ H Q=>∃g a b,σ[i]? =some (some (.ref g))/\Wz X.prog X.w X.K X.mg X.base CX k g b ps a/\Binds X.K b ps []/\bq X.K (.ref g)=true/\t σ H λc d=>a (c++[]) d Q E
def Dl(A:Wy k X.A)(J:X.N[i]? =some x)(y:Ms X.env.scope x)(w:ge CX X E)(G:PA X (e::es) t)(c:(x==("__debug__":Str))=false:=by decide)(d:(x==("__classdict__":Str))=false:=by decide)(C:bx (e::es) X.env=(false,eval e X.env)::bx es X.env:=by rfl)(b:(fV pos (bx es X.env)).any (·.1)=false:=by rfl):PE X (.Call (.Name x p) (e::es) [] pos) (O9 X CX k ps E i t):=by
 intro pins s σ H Q I h;obtain ⟨g,T,Y,z,F,D,B,h⟩:=h;refine dk (gL (zO J y c d pins s σ H (λv a=>v= .ref g/\a=H) I ⟨_,z,rfl,rfl⟩) λu m ⟨v,a,l,o,L,M⟩=> ?_);subst L M;obtain rfl:u=bO g:=o;refine jl (h₀:=X.base) l.ok.mod.kin B (gL (G pos pins m σ a _ l h) λO U ⟨N,H2,j,r,q⟩=>⟨j.kIn,?_⟩) C b;exact zI F A D .nil w j r q
def Ov{g : TG}{q : TT}{te : TE}{u : Hp -> Prop}(Pv : Nat -> Hp -> Prop)(h0 : Pv 0 (upd G D (.lst [])))(w : ∀ i c H, z.cps[i]? = some c -> Pv i H -> g (.str ⟨#[c]⟩) (jO σ vs) H λa o => jO a vs = jO σ vs /\ q a o λb j =>
      if b = true then te a j λy h => ∃ acc, h D = some (.lst acc) /\ acc.length < a_ /\ Pv (i + 1) (upd h D (.lst (acc ++ [y]))) else Pv (i + 1) j)(A : ∀ H, Pv z.cps.size H -> u H):
    ∃ W : Nat -> Nat -> Hp -> Prop, (∃ m, W 0 m (upd G D (.lst []))) /\ ∀ i m H, W i m H ->
      ((RR z).stop i H /\ u H) \/ ((RR z).go i H /\ ∃ l : Hp -> Prop, (∀ d, l d -> ∃ r, r < m /\ W (i + 1) r d) /\ ∀ x d, (RR z).yld i H x d -> g x (jO σ vs) d λa o => jO a vs = jO σ vs /\ q a o λb j =>
        if b = true then te a j λy h => ∃ acc, h D = some (.lst acc) /\ acc.length < a_ /\ l (upd h D (.lst (acc ++ [y]))) else l j) := by
  refine ⟨λi m H => m = z.cps.size - i /\ i <= z.cps.size /\ Pv i H, ⟨z.cps.size, by simp, cy _, h0⟩, ?_⟩;rintro i m H ⟨rfl, I, p⟩;by_cases k : i < z.cps.size
  · refine .inr ⟨k, Pv (i + 1), λd v => ⟨z.cps.size - (i + 1), by omega, rfl, k, v⟩, λx d y => ?_⟩
    obtain ⟨e, c, B, C⟩ := y;subst e C;exact w i c _ B p
  · have e : i = z.cps.size := by omega
    subst e;exact .inl ⟨aO _, A H p⟩
end
end L2
open L2.Un renaming moved->WL
open L2 renaming none_of->WM
namespace Rk
open Vaarrc (Token Toks tokensIn blank position readMods readFun str Mod Fun)
open Vaarrb (letter digit)
def e_(p:Nat->Bool)(t:List Nat)(i:Nat):Nat:=i+((t.drop i).takeWhile p).length
def pR(p)(t)(h:i<=t.length):e_ p t i<=t.length:=by
 unfold e_;have a:=(List.takeWhile_sublist p (l:=t.drop i)).length_le;rw [bK] at a;omega
def sF(p)(t)(i):i<=e_ p t i:=by unfold e_;omega
def sE(h:t[i]? =some c)(a:p c=true):e_ p t i=e_ p t (i+1):=by
 obtain ⟨b,d⟩:=aY.mp h;unfold e_;rw [fC b,d,qh,if_pos a,aF];omega
def ut(h:t[i]? =some c)(a:p c=false):e_ p t i=i:=by
 obtain ⟨b,d⟩:=aY.mp h;unfold e_;rw [fC b,d,qh,if_neg (by rw [a];exact aN),pF];rfl
def uu(h:t.length<=i):e_ p t i=i:=by
 unfold e_;rw [eI h];rfl
def signs:List (List Nat):=[[60,61],[47,61],[43],[45],[42],[60],[61]]
def JP(t:List Nat)(i j:Nat):List Nat:=(t.drop i).take (j - i)
def iD(t:List Nat)(i:Nat):Nat:=match signs.find? λs=>(t.drop i).take s.length==s with
 | some s=>i+s.length
 | none=>i
def nR(t:List Nat)(i:Nat):Nat:=if e_ dW t (i+1)=i+1 then i else e_ dW t (i+1)
def dX(t:List Nat)(i:Nat):Nat:=match t[i]? with
 | none=>i
 | some c=>if dW c=true then e_ dW t i else if kM c=true then e_ kM t i else if c=58 then nR t i else iD t i
def gP(t:List Nat)(i:Nat):Nat:=e_ blank t i
def gN(t:List Nat)(i:Nat):Nat:=dX t (gP t i)
def eE(t:List Nat)(i:Nat):List Nat:=JP t (gP t i) (gN t i)
def toks(t:List Nat)(i:Nat):PF:=tokensIn t.length (t.length+1) (t.drop i)
def kind:List Nat->Token
 | []=> .none
 | c::r=>if dW c=true then .name (c::r) else if kM c=true then .num (c::r) else if c=58 then .mod r else .name (c::r)
def sJ(p)(r:List Nat):(r.dropWhile p).length<=r.length:=(List.dropWhile_sublist p).length_le
theorem ML(w):∀(k a:Nat) (l:List Nat),l.length<k->l.length<a->tokensIn w k l=tokensIn w a l
 | 0,_,l,h,_=>absurd h (QS _)
 | _+1,0,l,_,h=>absurd h (QS _)
 | k+1,a+1,[],_,_=>by rw [tokensIn,tokensIn]
 | k+1,a+1,c::r,h,b=>by
  rw [aF] at h b;have f:=sJ dW r;have e:=sJ kM r;have d:(r.drop 1).length<=r.length:=by rw [bK];omega
  rw [tokensIn,tokensIn];rw [ML w k a r (by omega) (by omega),ML w k a (r.dropWhile dW) (by omega) (by omega),ML w k a (r.dropWhile kM) (by omega) (by omega),
   ML w k a (r.drop 1) (by omega) (by omega)]
def yX(t)(i k)(h:(t.drop i).length<k):tokensIn t.length k (t.drop i)=toks t i:=by
 unfold toks;exact ML _ _ _ _ h (by rw [bK];omega)
def GP{t:List Nat}(h:t[i]? =some c):t.drop i=c::t.drop (i+1):=by
 obtain ⟨a,b⟩:=aY.mp h;rw [fC a,b]
theorem jN(p):∀r:List Nat,r.dropWhile p=r.drop (r.takeWhile p).length
 | []=>rfl
 | a::r=>by
  rw [List.dropWhile_cons,qh];cases b:p a with
  | true=>rw [if_pos rfl,if_pos rfl,aF,List.drop_succ_cons];exact jN p r
  | false=>rw [if_neg aN,if_neg aN];rfl
theorem pK(p):∀r:List Nat,r.take (r.takeWhile p).length=r.takeWhile p
 | []=>rfl
 | a::r=>by
  rw [qh];cases b:p a with
  | true=>rw [if_pos rfl,aF,lA,pK p r]
  | false=>rw [if_neg aN];rfl
def Gi(h:t[i]? =none):dX t i=i:=by unfold dX;rw [h]
def zc(h:t[i]? =some c)(a:dW c=true):dX t i=e_ dW t i:=by unfold dX;rw [h];exact if_pos a
def C4(h:t[i]? =some c)(b:¬dW c=true)(a:kM c=true):dX t i=e_ kM t i:=by
 unfold dX;rw [h];exact (if_neg b).trans (if_pos a)
def K6(h:t[i]? =some 58):dX t i=nR t i:=by
 unfold dX;rw [h];exact ((if_neg (by decide)).trans (if_neg (by decide))).trans (if_pos rfl)
def Gh(h:t[i]? =some c)(b:¬dW c=true)(a:¬kM c=true)(d:¬c=58):dX t i=iD t i:=by
 unfold dX;rw [h];exact ((if_neg b).trans (if_neg a)).trans (if_neg d)
def Aq(a:dW c=true):kind (c::r)= .name (c::r):=by unfold kind;exact if_pos a
def Cd(b:¬dW c=true)(a:kM c=true):kind (c::r)= .num (c::r):=by unfold kind;exact (if_neg b).trans (if_pos a)
def IL:kind (58::r)= .mod r:=by unfold kind;exact ((if_neg (by decide)).trans (if_neg (by decide))).trans (if_pos rfl)
def zm(b:¬dW c=true)(a:¬kM c=true)(d:¬c=58):kind (c::r)= .name (c::r):=by
 unfold kind;exact ((if_neg b).trans (if_neg a)).trans (if_neg d)
def EN(c)(r):(signs.find? λs=>(c::r).take s.length==s)=
  if rC.contains ((c::r).take 2)=true then some ((c::r).take 2) else if xb.contains [c]=true then some [c] else none:=by
 have i:rC.contains ((c::r).take 2)=(((c::r).take 2==[60,61])||((c::r).take 2==[47,61])):=by
  show (([[60,61],[47,61]]:List (List Nat)).contains _)=_;simp only [lS,OZ,yP]
 have j:xb.contains [c]=(([c]==[43])||(([c]==[45])||(([c]==[42])||(([c]==[60])||([c]==[61]))))):=by
  show (([[43],[45],[42],[60],[61]]:List (List Nat)).contains [c])=_;simp only [lS,OZ,yP]
 have h:(c::r).take 1=[c]:=by simp
 rw [i,j];unfold signs;simp only [gT,List.find?_nil,aF,pF,Nat.zero_add,h,Nat.reduceAdd];generalize n:(c::r).take 2=x;cases l:(x==[60,61]) with
 | true=>have e:=eq_of_beq l;subst e;rfl
 | false=>
  cases k:(x==[47,61]) with
  | true=>have e:=eq_of_beq k;subst e;rfl
  | false=>
   simp only [Bool.or_self,lV,if_false];generalize m:([c]:List Nat)=y;cases g:(y==[43]) with
   | true=>have e:=eq_of_beq g;subst e;rfl
   | false=>
    cases f:(y==[45]) with
    | true=>have e:=eq_of_beq f;subst e;rfl
    | false=>
     cases d:(y==[42]) with
     | true=>have e:=eq_of_beq d;subst e;rfl
     | false=>
      cases b:(y==[60]) with
      | true=>have e:=eq_of_beq b;subst e;rfl
      | false=>
       cases a:(y==[61]) with
       | true=>have e:=eq_of_beq a;subst e;rfl
       | false=>rfl
def EL(h:t[i]? =some c)(H:blank c=false):
  toks t i=if dX t i=i then [(i,.none)] else (i,kind (JP t i (dX t i)))::toks t (dX t i):=by
 have O:=(aY.mp h).1;have m:=GP h;have N:(t.drop (i+1)).length+1=t.length - i:=by rw [bK];omega
 have G:t.length - ((t.drop (i+1)).length+1)=i:=by omega
 have M:(t.drop (i+1)).length<t.length:=by omega
 have b:∀k,tokensIn t.length t.length ((t.drop (i+1)).drop k)=toks t (i+1+k):=λk=>by
  rw [G3];exact yX t _ _ (by rw [bK];omega)
 have v:toks t i=tokensIn t.length (t.length+1) (c::t.drop (i+1)):=by unfold toks;rw [m]
 have run:∀p:Nat->Bool,p c=true->e_ p t i=i+1+((t.drop (i+1)).takeWhile p).length:=λp d=>by rw [sE h d];rfl
 have f:∀p:Nat->Bool,JP t i (i+1+((t.drop (i+1)).takeWhile p).length)=c::(t.drop (i+1)).takeWhile p:=λp=>by
  unfold JP;rw [m,show i+1+((t.drop (i+1)).takeWhile p).length - i=((t.drop (i+1)).takeWhile p).length+1 by omega,lA,pK]
 rw [v,tokensIn];simp only [G];rw [if_neg (by rw [H];exact aN)];by_cases d:dW c=true
 ·rw [if_pos d,zc h d,run dW d,if_neg (by omega),f,jN,b,Aq d]
 rw [if_neg d];by_cases j:kM c=true
 ·rw [if_pos j,C4 h d j,run kM j,if_neg (by omega),f,jN,b,Cd d j]
 rw [if_neg j];by_cases e:c=58
 ·subst e;rw [K6 h];have A:e_ dW t (i+1)=i+1+((t.drop (i+1)).takeWhile dW).length:=rfl;have u:=f dW;have C:nR t i=if ((t.drop (i+1)).takeWhile dW).length=0 then i else i+1+((t.drop (i+1)).takeWhile dW).length:=by
   unfold nR;rw [A];by_cases z:((t.drop (i+1)).takeWhile dW).length=0
   ·rw [if_pos (by omega),if_pos z]
   ·rw [if_neg (by omega),if_neg z]
  rw [C];cases w:(t.drop (i+1)).takeWhile dW with
  | nil=>
   have D:¬rC.contains ((58::t.drop (i+1)).take 2)=true:=by
    rw [lA];show ¬(([[60,61],[47,61]]:List (List Nat)).contains (58::(t.drop (i+1)).take 1))=true;simp
   rw [if_neg (by simp),if_neg D,if_neg (by decide),pF,if_pos rfl,if_pos rfl]
  | cons a r=>
   rw [w] at u;have I:(if r.length+1=0 then i else i+1+(r.length+1))=i+1+(r.length+1):=if_neg (by omega);rw [if_pos ⟨rfl,rfl⟩,aF,I,if_neg (by omega)];rw [aF] at u;rw [u,jN,w,aF,b,IL]
 rw [if_neg (λz=>e z.1),Gh h d j e];have B:iD t i=if rC.contains ((c::t.drop (i+1)).take 2)=true then i+((c::t.drop (i+1)).take 2).length else if xb.contains [c]=true then i+1 else i:=by
  unfold iD;rw [m,EN];split
  ·rename_i s g;split at g
   ·rename_i q;rw [if_pos q];rw [bw g]
   ·rename_i q;rw [if_neg q];split at g
    ·rename_i o;rw [if_pos o,<-bw g];rfl
    ·cases g
  ·rename_i g;split at g
   ·cases g
   ·rename_i q;rw [if_neg q];split at g
    ·cases g
    ·rename_i o;rw [if_neg o]
 rw [B];by_cases l:rC.contains ((c::t.drop (i+1)).take 2)=true
 ·rw [if_pos l,if_pos l];have E:((c::t.drop (i+1)).take 2).length=2:=by
   have q:(([[60,61],[47,61]]:List (List Nat)).contains ((c::t.drop (i+1)).take 2))=true:=l;generalize (c::t.drop (i+1)).take 2=x at q;simp at q;rcases q with q | q<;>rw [q]<;>rfl
  have J:JP t i (i+2)=(c::t.drop (i+1)).take 2:=by
   unfold JP;rw [m];congr 1;omega
  rw [E,if_neg (by omega),J,b 1,lA,zm d j e]
 rw [if_neg l,if_neg l];by_cases n:xb.contains [c]=true
 ·have L:JP t i (i+1)=[c]:=by
   unfold JP;rw [m,show i+1 - i=1 by omega];rfl
  have y:=b 0;rw [kL,Nat.add_zero] at y;rw [if_pos n,if_pos n,if_neg (by omega),L,y,zm d j e]
 ·rw [if_neg n,if_neg n,if_pos rfl]
def Ii(h:t.length<=i):toks t i=[(t.length,.none)]:=by
 unfold toks;rw [eI h,tokensIn]
def BG(h:t[i]? =some c)(b:blank c=true):toks t i=toks t (i+1):=by
 have d:=(aY.mp h).1;have a:toks t i=tokensIn t.length (t.length+1) (c::t.drop (i+1)):=by unfold toks;rw [GP h]
 rw [a,tokensIn,if_pos b];exact yX t _ _ (by rw [bK];omega)
theorem yW(t):∀(k i:Nat),t.length - i=k->i<=t.length->
  toks t i=if gN t i=gP t i then [(gP t i,.none)] else (gP t i,kind (eE t i))::toks t (gN t i)
 | 0,i,m,n=>by
  have e:t.length=i:=by omega
  have b:gP t i=i:=uu (by omega);have o:gN t i=i:=by unfold gN;rw [b];exact Gi (jL (by omega))
  rw [Ii (by omega),if_pos (o.trans b.symm),b,e]
 | k+1,i,m,n=>by
  have l:i<t.length:=by omega
  obtain ⟨c,h⟩:∃c,t[i]? =some c:=⟨_,aP l⟩
  by_cases f:blank c=true
  ·have j:gP t i=gP t (i+1):=sE h f;have a:gN t i=gN t (i+1):=by unfold gN;rw [j]
   have g:eE t i=eE t (i+1):=by unfold eE;rw [j,a]
   rw [BG h f,yW t k (i+1) (by omega) (by omega),j,a,g]
  ·have d:blank c=false:=by simpa using f
   have b:gP t i=i:=ut h d;have a:gN t i=dX t i:=by unfold gN;rw [b]
   have g:eE t i=JP t i (dX t i):=by unfold eE;rw [b,a]
   rw [EL h d,b,a,g]
def qz(a:i<=t.length):
  toks t i=if gN t i=gP t i then [(gP t i,.none)] else (gP t i,kind (eE t i))::toks t (gN t i):=yW t _ i rfl a
def lZ(a:i<=t.length):UW (toks t i)=gP t i:=by
 rw [qz a];split<;>rfl
def Ap(t)(i):i<=iD t i:=by unfold iD;split<;>omega
def Ao(h:i<=t.length):iD t i<=t.length:=by
 unfold iD;split
 ·rename_i s a;have z:=List.find?_some (p:=λs:List Nat=>(t.drop i).take s.length==s) a;have e:=eq_of_beq z;have l:=congrArg oU e;rw [bQ,bK] at l;omega
 ·exact h
def xO(t)(i):i<=dX t i:=by
 unfold dX;split
 ·omega
 ·split
  ·exact sF ..
  ·split
   ·exact sF ..
   ·split
    ·unfold nR;have:=sF dW t (i+1);split<;>omega
    ·exact Ap t i
def xN(h:i<=t.length):dX t i<=t.length:=by
 unfold dX;split
 ·omega
 ·rename_i c a;have b:=(aY.mp a).1;split
  ·exact pR _ _ h
  ·split
   ·exact pR _ _ h
   ·split
    ·unfold nR;have:=pR dW t (i:=i+1) (by omega);split<;>omega
    ·exact Ao h
def B4(h:i<=t.length):gP t i<=t.length:=pR _ _ h
def G9(t)(i):gP t i<=gN t i:=xO ..
def sq(h:i<=t.length):gN t i<=t.length:=xN (B4 h)
def xy(h:i<=t.length):(eE t i).length=gN t i - gP t i:=by
 unfold eE JP;rw [bQ,bK];have:=sq h;omega
def rF(h:gN t i=gP t i):eE t i=[]:=by
 unfold eE JP;rw [h,KU,QU]
def F9:List (List Nat):=(["Shape","Count","Ravel","Iota","Flip","Turn","Grade","Where","First","Abs","Sign","Not","Reshape","Take","Drop","Rotate","Join","Pick","Find","Same","Keep","Div","Mod","Min","Max","And","Or"]).map str
def hJ:List (List Nat):=signs++F9
def l_:List (List Nat):=[":fold",":scan",":table",":swap",":at"].map str
def jX:List (List Nat):=[[48],[49],[50],[51],[52],[53]]
def zi(n:List Nat):(Bo.contains n||fj.contains n)=true↔n∈hJ:=by
 have a:∀x∈Bo,x∈hJ:=by decide
 have b:∀x∈fj,x∈hJ:=by decide
 have c:∀x∈hJ,x∈Bo\/x∈fj:=by decide
 rw [jJ,vP,vP];exact ⟨λh=>h.elim (a n) (b n),c n⟩
def EX:∀n∈hJ,kind n= .name n:=by decide
def zo:∀n∈l_,kind n= .mod (n.drop 1):=by decide
def zn:∀n∈jX,kind n= .num n:=by decide
def wq{s n:List Nat}(h:kind s= .name n):s=n:=by
 cases s with
 | nil=>cases h
 | cons c r=>
  unfold kind at h;dsimp only at h;split at h
  ·injection h
  ·split at h
   ·cases h
   ·split at h
    ·cases h
    ·injection h
def sG{s n:List Nat}(h:kind s= .mod n):s=58::n:=by
 cases s with
 | nil=>cases h
 | cons c r=>
  unfold kind at h;dsimp only at h;split at h
  ·cases h
  ·split at h
   ·cases h
   ·split at h
    ·rename_i e;injection h with h;rw [e,h]
    ·cases h
def xQ{s n:List Nat}(h:kind s= .num n):s=n/\∃c r,s=c::r/\kM c=true:=by
 cases s with
 | nil=>cases h
 | cons c r=>
  unfold kind at h;dsimp only at h;split at h
  ·cases h
  ·split at h
   ·rename_i e;injection h with h;exact ⟨h,c,r,rfl,e⟩
   ·split at h<;>cases h
def IJ(a:i<=t.length)(h:gP t i=t.length):dG t.length m (toks t i)= .ok []:=by
 unfold dG;rw [if_pos (by rw [lZ a];exact h)]
def EV(a:i<=t.length)(h:gP t i≠t.length):dG t.length 0 (toks t i)= .error (gP t i):=by
 unfold dG;rw [if_neg (by rw [lZ a];exact h),<-lZ a]
def Ll{w:List Nat}(a:s∉l_)(h:kind s= .mod w):w≠str "fold"/\w≠str "scan"/\w≠str "table"/\w≠str "swap"/\w≠str "at":=by
 have e:=sG h;subst e;refine ⟨?_,?_,?_,?_,?_⟩<;>(intro z;subst z;exact a (by decide))
def Lm(a:i<=t.length)(h:gP t i≠t.length)(b:eE t i∉l_):dG t.length (m+1) (toks t i)= .error (gP t i):=by
 unfold dG;rw [if_neg (by rw [lZ a];exact h)];rw [qz a];by_cases e:gN t i=gP t i
 ·rw [if_pos e];rfl
 ·rw [if_neg e];cases c:kind (eE t i) with
  | mod w=>
   obtain ⟨k,j,g,f,d⟩:=Ll b c;dsimp only;rw [if_neg k,if_neg j,if_neg g,if_neg f,if_neg d]
  | name n=>rfl
  | num n=>rfl
  | none=>rfl
def NJ(s:List Nat):Mod:=if s=str ":fold" then .fold else if s=str ":scan" then .scan else if s=str ":table" then .table else .swap
def II(c:i<=t.length)(h:gP t i≠t.length)(a:eE t i∈l_)(g:eE t i≠str ":at"):
  dG t.length (m+1) (toks t i)=(dG t.length m (toks t (gN t i))).map λl=>NJ (eE t i)::l:=by
 have f:=zo _ a;have d:gN t i≠gP t i:=λz=>by rw [rF z] at a;revert a;decide
 rw [readMods.eq_def];dsimp only;rw [if_neg (show ¬UW (toks t i)=t.length by rw [lZ c];exact h)];rw [qz c,if_neg d,f];have b:eE t i=str ":fold"\/eE t i=str ":scan"\/eE t i=str ":table"\/eE t i=str ":swap"\/eE t i=str ":at":=by
  simpa [l_] using a
 rcases b with e | e | e | e | e
 ·rw [e];dsimp only;rw [if_pos (by decide)];rfl
 ·rw [e];dsimp only;rw [if_neg (by decide),if_pos (by decide)];rfl
 ·rw [e];dsimp only;rw [if_neg (by decide),if_neg (by decide),if_pos (by decide)];rfl
 ·rw [e];dsimp only;rw [if_neg (by decide),if_neg (by decide),if_neg (by decide),if_pos (by decide)];rfl
 ·exact absurd e g
def Ln(g:i<=t.length)(h:gP t i≠t.length)(d:eE t i=str ":at"):
  dG t.length (m+1) (toks t i)=if eE t (gN t i)∈jX then (dG t.length m (toks t (gN t (gN t i)))).map λl=> .at_ ((eE t (gN t i)).headD 0 - 48)::l else .error (gP t (gN t i)):=by
 have o:=zo (eE t i) (by rw [d];decide);have k:gN t i≠gP t i:=λz=>by rw [rF z] at d;revert d;decide
 have b:=sq g;rw [readMods.eq_def];dsimp only;rw [if_neg (show ¬UW (toks t i)=t.length by rw [lZ g];exact h)];rw [qz g,if_neg k,o,d];dsimp only;rw [if_neg (by decide),if_neg (by decide),if_neg (by decide),if_neg (by decide),if_pos (by decide)];have f:=lZ b;rw [qz b] at f ⊢;by_cases e:gN t (gN t i)=gP t (gN t i)
 ·rw [if_pos e,rF e,if_neg (by decide)];rfl
 ·rw [if_neg e] at f ⊢;generalize eE t (gN t i)=s at f ⊢;cases a:kind s with
  | num n=>
   obtain ⟨rfl,c,r,rfl,p⟩:=xQ a;have u:48<=c/\c<=57:=of_decide_eq_true p;cases r with
   | nil=>
    dsimp only;by_cases j:c<=53
    ·rw [if_pos j,if_pos ?_]
     ·rfl
     ·have:c=48\/c=49\/c=50\/c=51\/c=52\/c=53:=by omega
      rcases this with rfl | rfl | rfl | rfl | rfl | rfl<;>decide
    ·rw [if_neg j,if_neg ?_]
     ·rfl
     ·intro z;have q:c=48\/c=49\/c=50\/c=51\/c=52\/c=53:=by simpa [jX] using z
      omega
   | cons v r=>
    rw [if_neg (by intro z;simp [jX] at z)];rfl
  | mod n=>
   have e:=sG a;subst e;rw [if_neg (by intro z;simp [jX] at z)];rfl
  | name n=>
   rw [if_neg (λz=>by rw [zn _ z] at a;cases a)];rfl
  | none=>
   rw [if_neg (λz=>by rw [zn _ z] at a;cases a)];rfl
def Ke(b:eE t 0∉hJ):mU t= .error (gP t 0):=by
 have d:tokensIn t.length (t.length+1) t=toks t 0:=by unfold toks;rw [kL]
 unfold mU;rw [d];have a:=lZ (t:=t) (i:=0) (cy _);rw [qz (cy _)] at a ⊢;by_cases e:gN t 0=gP t 0
 ·rw [if_pos e];rfl
 ·rw [if_neg e] at a ⊢;cases c:kind (eE t 0) with
  | name n=>
   have z:=wq c;rw [<-z];dsimp only;rw [if_neg (λy=>b ((zi _).mp y))]
  | mod n=>rfl
  | num n=>rfl
  | none=>rfl
def xU(a:eE t 0∈hJ):mU t=(dG t.length RD (toks t (gN t 0))).map λl=>{base:=eE t 0,mods:=l.reverse}:=by
 have c:tokensIn t.length (t.length+1) t=toks t 0:=by unfold toks;rw [kL]
 have b:gN t 0≠gP t 0:=λz=>by rw [rF z] at a;revert a;decide
 unfold mU;rw [c,qz (cy _),if_neg b,EX _ a];dsimp only;rw [if_pos ((zi _).mpr a)]
end Rk
namespace Rk
open PySem PySem.Spec PyProof.Rows L2 Rx
def dN(i:Nat):dm:=ah.main.body.getD i (.Pass ⟨0,0,0,0⟩)
abbrev um:dm:=j_ (dN 24) 0
abbrev sAns:dm:=dN 25
abbrev c_Array:dm:=j_ (dN 30) 0
abbrev vA:dm:=dN 31
abbrev sM:dm:=dN 32
abbrev Bc:dm:=dN 33
abbrev mj:dm:=dN 34
abbrev xW:dm:=dN 35
abbrev xV:dm:=dN 36
abbrev ye:dm:=dN 37
abbrev qG:dm:=dN 38
abbrev qD:dm:=dN 39
abbrev xZ:dm:=dN 40
abbrev nX:dm:=dN 41
abbrev jE:dm:=dN 42
abbrev sP:dm:=dN 43
abbrev lu:dm:=dN 44
abbrev sQ:dm:=dN 45
abbrev uo:dm:=j_ (dN 50) 0
abbrev oK:dm:=dN 51
abbrev uq:dm:=dN 52
abbrev nQ:dm:=dN 53
abbrev sC:dm:=dN 54
abbrev Ek:dm:=dN 55
abbrev xK:dm:=dN 56
abbrev xI:dm:=dN 57
abbrev Iy:dm:=dN 58
abbrev xL:dm:=dN 59
abbrev sFInit:dm:=j_ (dN 74) 0
abbrev xJ:dm:=dN 75
abbrev Ak:dm:=dN 76
abbrev Aj:dm:=dN 77
abbrev jY:dm:=dN 78
abbrev sUBase:dm:=dN 79
abbrev sMay2:dm:=dN 80
abbrev sUses0:dm:=dN 81
abbrev c_Tally:dm:=j_ (dN 83) 0
abbrev mm:dm:=dN 85
abbrev sK:dm:=dN 86
abbrev mh:dm:=dN 88
abbrev qC:dm:=dN 89
abbrev sL:dm:=dN 90
abbrev sO:dm:=dN 92
abbrev oZ:dm:=dN 93
abbrev qB:dm:=dN 94
abbrev d_work_each_pair:dm:=dN 95
abbrev qF:dm:=dN 96
abbrev me:dm:=dN 97
abbrev qE:dm:=dN 98
abbrev x_:dm:=dN 99
abbrev nW:dm:=dN 100
abbrev vy:dm:=dN 101
abbrev nS:dm:=dN 102
abbrev o_:dm:=dN 104
abbrev vz:dm:=dN 105
abbrev GS:dm:=dN 106
abbrev Hd:dm:=dN 107
abbrev xX:dm:=dN 108
abbrev yf:dm:=dN 109
abbrev G_:dm:=dN 110
abbrev GW:dm:=dN 111
abbrev Hc:dm:=dN 112
abbrev GU:dm:=dN 113
abbrev GZ:dm:=dN 114
abbrev nV:dm:=dN 116
abbrev qH:dm:=dN 119
abbrev nU:dm:=dN 120
abbrev jZ:dm:=dN 121
abbrev ml:dm:=dN 122
abbrev GV:dm:=dN 123
abbrev Bd:dm:=dN 124
abbrev Bb:dm:=dN 125
abbrev vE:dm:=dN 126
abbrev xY:dm:=dN 127
abbrev vx:dm:=dN 128
abbrev vD:dm:=dN 129
abbrev vC:dm:=dN 130
abbrev ph:dm:=dN 131
abbrev sN:dm:=dN 132
abbrev pi:dm:=dN 133
abbrev He:dm:=dN 134
abbrev mn:dm:=dN 135
abbrev ji:dm:=dN 137
abbrev lq:dm:=dN 138
abbrev nY:dm:=dN 140
abbrev d_work_of_two:dm:=dN 141
abbrev jD:dm:=dN 143
abbrev d_tallied_with_two:dm:=dN 144
abbrev fo:dm:=dN 145
abbrev m_Tally_add_one:dm:=j_ (dN 83) 1
abbrev ot:Str:="MOVES"
abbrev tv(t:List Nat):List V:=t.map λ(n:Nat)=>Wv (n:Int)
def JZ{i c:Nat}(h:t[i]? =some c):(tv t)[i]? =some (.int (c:Int)):=by rw [bW,h];rfl
def dE(t):(tv t).length=t.length:=am _
abbrev cp(x:Str):List Nat:=x.cps.toList
def lY:List Str:=["<=","/=","+","-","*","<","="]
def vQ:List Str:=["Shape","Count","Ravel","Iota","Flip","Turn","Grade","Where","First","Abs","Sign","Not"]
def Ie:List Str:=["Reshape","Take","Drop","Rotate","Join","Pick","Find","Same","Keep","Div","Mod","Min","Max","And","Or"]
def J1:List Str:=vQ++Ie
def MJ:List Str:=[":fold",":scan",":table",":swap",":at"]
def EU:List Str:=["0","1","2","3","4","5"]
def Io:lY.map cp=signs:=by decide+kernel
def Cn:(lY++J1).map cp=hJ:=by decide+kernel
def Go:MJ.map cp=l_:=by decide+kernel
def C3:EU.map cp=jX:=by decide+kernel
structure Adr where
 (CL NL CN NN CT CF aB aS aW aV aM aR:af)
structure Txt (K:ac) (mg:Str→Option al) (z:Adr):Prop where
 xl:XC K z.CL z.NL
 xn:XC K z.CN z.NN
 ne:z.CL≠z.CN
 li:aj K z.NL "__init__"=some none
 np:aj K z.NN "place"=some none
 ns:aj K z.NN "__setattr__"=some none
 ng:aj K z.NN "__getattribute__"=some none
 nh:aj K z.NN "__getattr__"=some none
 mL:mg "TooLong"=some (.ref z.CL)
 mN:mg "NoFunction"=some (.ref z.CN)
 mE:mg "Exception"=none
 mT:mg "Token"=some (.ref z.CT)
 cT:Cls K z.CT
 tb:Wx K z.CT "begin"
 ts:Wx K z.CT "spelling"
 te:Wx K z.CT "end"
 mF:mg "Function"=some (.ref z.CF)
 cF:Cls K z.CF
 fb:Wx K z.CF "base"
 fm:Wx K z.CF "modifiers"
 kLong:∃t,mg "LONG"=some (.int (-21) t)
 kCol:∃t,mg "COLON"=some (.int 58 t)
 kMb:∃t,mg "MOST_BYTES"=some (.int 256 t)
 kMm:∃t,mg "MOST_MODIFIERS"=some (.int 8 t)
 kAt:∃t,mg "AT"=some (.str ":at" t)
 mB:mg "BLANKS"=some (.ref z.aB)
 vB:∀H,SqT K H z.aB (tv [32,9,10,13])
 mS:mg "SIGNS"=some (.ref z.aS)
 vS:∀H,SqT K H z.aS (lY.map Ww)
 mW:mg "WORDS_OF_ONE"=some (.ref z.aW)
 vW:∀H,SqT K H z.aW (vQ.map Ww)
 mV:mg "WORDS_OF_TWO"=some (.ref z.aV)
 vV:∀H,SqT K H z.aV (Ie.map Ww)
 mM:mg "MODIFIER_WORDS"=some (.ref z.aM)
 vM:∀H,SqT K H z.aM (MJ.map Ww)
 mR:mg "RANK_DIGITS"=some (.ref z.aR)
 vR:∀H,SqT K H z.aR (EU.map Ww)
 len:mg "len"=none
 ord:mg "ord"=none
 int:mg "int"=none
section
variable {P:be} {w:bN} {K:ac} {mg:Str→Option al} {base:cz} {z:Adr}
def y_(p:Nat->Bool):Sp:=λa H Q _=>∃n:Nat,a=[.int (n:Int)]/\Q (.bl (p n)) H
def Ve:WB ["byte"] ["byte"] (aA uq):=⟨rfl,rfl,rfl,by decide+kernel,rfl,by decide+kernel,by decide+kernel⟩
def J0(n:Nat):N5 (.int (n:Int)) (tv [32,9,10,13])=yQ n:=by
 have e:∀k:Nat,((k:Int)==(n:Int))=(n==k):=λk=>by
  by_cases z:n=k
  ·subst z;simp
  ·have a:¬(k:Int)=(n:Int):=by omega
   rw [beq_eq_false_iff_ne.mpr a,beq_eq_false_iff_ne.mpr z]
 show ([Wv (32:Nat),Wv (9:Nat),Wv (10:Nat),Wv (13:Nat)].any λy=>N6 y (.int (n:Int)))=_;simp only [sk,List.any_nil,N6,yP];rw [e,e,e,e];rfl
def IF(F:Fun K "is_blank" "is_blank" uq f c)(T:Txt K mg z):Wz P w K mg base (CXE P w) 1 f c ["byte"] (y_ yQ):=by
 refine F.okX Ve (λb H Q E h=> ?_) (λd A a s H b Q E e h=> ?_)
 ·obtain ⟨n,rfl,_⟩:=h;rfl
 ·obtain ⟨n,rfl,q⟩:=h;refine ⟨_,az (bn (qO vG (pv 0) (cg (v:= .ref z.aB) rfl T.mB rfl) (by with_unfolding_all rfl))),?_⟩;refine ⟨_,rfl,z.aB,tv [32,9,10,13],rfl,.inr (T.vB _),rfl,rfl,?_⟩;show Q (.bl (N5 (.int (n:Int)) (tv [32,9,10,13]))) H;rw [J0];exact q
def Vd:WB ["byte"] ["byte"] (aA nQ):=⟨rfl,rfl,rfl,by decide+kernel,rfl,by decide+kernel,by decide+kernel⟩
def zh(F:Fun K "is_letter" "is_letter" nQ f l):Wz P w K mg base (CXE P w) 1 f l ["byte"] (y_ dW):=by
 refine F.okX Vd (λk H Q E h=> ?_) (λm A g s H k Q E o h=> ?_)
 ·obtain ⟨n,rfl,_⟩:=h;rfl
 ·obtain ⟨n,rfl,q⟩:=h;refine ⟨_,az (bn (QD (yz wA wA bR (pv 0) bR) (On (yz wA wA bR (pv 0) bR)))),?_⟩;have b:∀(lo a:Nat) (R:V->Hp->Prop),R (.bl (decide (lo<=n/\n<=a))) H->Hm (Oi λi j=> .bl (decide (i<=j))) (Oi λi j=> .bl (decide (i<=j))) (tC (.int (lo:Int))) (qm 0) (tC (.int (a:Int))) [some (.int (n:Int))] H R:=λlo a R r=>by
   refine ⟨_,rfl,_,_,rfl,rfl,_,rfl,gp (λc=> ?_) λc=> ?_⟩
   ·have d:lo<=n:=by have:=of_decide_eq_true c;omega
    refine ⟨_,_,rfl,rfl,?_⟩;have e:decide ((n:Int)<=(a:Int))=decide (lo<=n/\n<=a):=decide_eq_decide.mpr ⟨λy=>⟨d,by omega⟩,λy=>by omega⟩;show R (.bl (decide ((n:Int)<=(a:Int)))) H;rw [e];exact r
   ·have d:¬lo<=n:=λy=>c (decide_eq_true (by omega));rw [decide_eq_false (λy=>d y.1)] at r;exact r
  refine b 65 90 _ ⟨_,rfl,gp (λc=> ?_) λc=>b 97 122 _ ?_⟩
  ·have e:dW n=true:=decide_eq_true (.inl (of_decide_eq_true c));rw [e] at q;exact q
  ·have e:dW n=decide (97<=n/\n<=122):=decide_eq_decide.mpr ⟨λy=>y.elim (λy=>absurd (decide_eq_true y) c) λy=>y,.inr⟩;rw [e] at q;exact q
def Vc:WB ["byte"] ["byte"] (aA sC):=⟨rfl,rfl,rfl,by decide+kernel,rfl,by decide+kernel,by decide+kernel⟩
def IE(F:Fun K "is_digit" "is_digit" sC f d):Wz P w K mg base (CXE P w) 1 f d ["byte"] (y_ kM):=by
 refine F.okX Vc (λb H Q E h=> ?_) (λi A a s H b Q E j h=> ?_)
 ·obtain ⟨n,rfl,_⟩:=h;rfl
 ·obtain ⟨n,rfl,q⟩:=h;refine ⟨_,az (bn (yz wA wA bR (pv 0) bR)),?_⟩;refine ⟨_,rfl,_,_,rfl,rfl,_,rfl,gp (λc=> ?_) λc=> ?_⟩
  ·have g:48<=n:=by have:=of_decide_eq_true c;omega
   refine ⟨_,_,rfl,rfl,?_⟩;have e:decide ((n:Int)<=57)=kM n:=decide_eq_decide.mpr ⟨λy=>⟨g,by omega⟩,λy=>by omega⟩;show Q (.bl (decide ((n:Int)<=57))) H;rw [e];exact q
  ·have e:kM n=false:=decide_eq_false (λy=>c (decide_eq_true (by omega)));rw [e] at q;exact q
def NY(P:be)(w:bN)(K:ac)(mg:Str->Option al)(base:cz)(g:af)(p:Nat->Bool):Prop:=
 ∃a,Wz P w K mg base (CXE P w) 1 g a ["byte"] (y_ p)/\Binds K a ["byte"] []/\bq K (.ref g)=true
def Q1(P:be)(w:bN)(K:ac)(mg:Str->Option al)(base:cz):Sp:=λb H Q _=>∃(a g:af) (t:List Nat) (i:Nat) (p:Nat->Bool),b=[.ref a,.int (i:Int),.ref g]/\SqL K H a (tv t)/\i<=t.length/\NY P w K mg base g p/\Q (.int (e_ p t i:Nat)) H
def UP:WB ["text","place","belongs"] ["text","place","belongs"] (aA Ek):=⟨rfl,rfl,rfl,by decide+kernel,rfl,by decide+kernel,by decide+kernel⟩
def Gm(F:Fun K "past_run" "past_run" Ek f L)(T:Txt K mg z):Wz P w K mg base (CXE P w) 2 f L ["text","place","belongs"] (Q1 P w K mg base):=by
 refine F.okX UP (λC H Q E h=> ?_) (λY A u s H C Q E G h=> ?_)
 ·obtain ⟨a,g,t,i,p,rfl,_⟩:=h;rfl
 ·obtain ⟨a,g,t,i,p,rfl,B,I,⟨J,U,O,D⟩,q⟩:=h;refine ⟨_,ay (Dg vT (Hq (cU wz (pv 1) (eV gU (by rfl) T.len io (aa (pv 0) aw)) (dA _))
   (Bi (re (Dl (CX:=CXE P w) (ps:=["byte"]) G (i:=2) rfl (bz rfl) cw (aa (iR gn (pv 0) (pv 1) (λ_ _=>rfl)) aw))))).pt
   (az (cj (i:=1) UP.nd rfl (bz rfl) (d_ oM (pv 1) bR)))) (az (bn (pv 1))),?_⟩
  refine ⟨λm v b=>∃j:Nat,m=t.length - j/\v=[some (.ref a),some (.int (j:Int)),some (.ref g)]/\b=H/\j<=t.length/\e_ p t j=e_ p t i,⟨_,i,rfl,rfl,rfl,I,rfl⟩,?_⟩;rintro m v b ⟨j,rfl,rfl,rfl,hj,o⟩;refine ⟨_,rfl,_,rfl,a,tv t,rfl,.inl B,_,_,rfl,rfl,_,rfl,gp (λc=> ?_) λc=> ?_⟩
  ·have r:j<t.length:=by have:=of_decide_eq_true c;rw [dE] at this;omega
   obtain ⟨x,n⟩:∃x,t[j]? =some x:=⟨_,aP r⟩
   refine ⟨g,y_ p,J,rfl,U,O,D,_,rfl,_,rfl,a,tv t,(j:Int),.int (x:Int),rfl,rfl,B,f_ (JZ n),x,rfl,_,rfl,gp (λd=> ?_) λd=> ?_⟩
   ·refine ⟨λk l=>k=[some (.ref a),some (.int ((j+1:Nat):Int)),some (.ref g)]/\l=b,λk l ⟨N,M⟩=>⟨t.length - (j+1),by omega,j+1,rfl,N,M,r,(sE n d).symm.trans o⟩,?_⟩;refine ⟨_,rfl,_,_,rfl,rfl,?_,rfl⟩;show [some (WA a),some (Wv ((j:Int)+1)),some (WA g)]=_;rfl
   ·have e:=ut n (show p x=false by simpa using d);refine ⟨_,rfl,?_⟩;show Q (.int (j:Int)) b;rw [<-e,o];exact q
  ·have r:j=t.length:=by
    have:¬((j:Int)<(t.length:Int)):=λy=>c (decide_eq_true (by rw [dE];exact y));omega
   have e:=uu (p:=p) (t:=t) (i:=j) (by omega);refine ⟨_,rfl,?_⟩;show Q (.int (j:Int)) b;rw [<-e,o];exact q
end
structure Df (K:ac) (mg:Str→Option al) (x:Str) (st:dm) (ps:List Str) (f:af) (fd:ip):Prop where
 fn:Fun K x x st f fd
 bd:Binds K fd ps []
 at_:mg x=some (.ref f)
theorem Same.upd {H a:Hp} {l:af} {o:HO} (s:WG H a) (n:a l=none):WG H (upd a l o):=λb u e=>by
 rw [aC (aU (s b u e) n)];exact s b u e
abbrev pd(t:List Nat):List Ab:=t.map λ(n:Nat)=>op (n:Int)
theorem NU{K}:∀t:List Nat,DpAll K H (tv t) (pd t)
 | []=> .nil
 | n::r=> .cons (.int _) (NU r)
def dpL{K}(h:SqL K H l (tv t)):Dp K H (.ref l) (.list (pd t)):= .lst h (NU t)
theorem Ki:∀t:List Nat,rA (pd t)=true
 | []=>rfl
 | n::r=>by
  show (P9 (op (n:Int))&&rA (pd r))=true;rw [Ki r];rfl
theorem Kh:∀t:List Nat,lH (pd t)<=1
 | []=>by simp [lH]
 | n::r=>by
  have h:=Kh r;show max (ky (op (n:Int))) (lH (pd r))<=1;have:ky (op (n:Int))<=1:=by simp [ky]
  omega
def shapedL(t):kN (.list (pd t))=true:=by
 unfold kN;rw [dS];refine ⟨Ki t,decide_eq_true ?_⟩;have:=Kh t;simp only [ky];omega
theorem eqvAll:∀s t:List Nat,xj (pd s) (pd t)=(s==t)
 | [],[]=>rfl
 | [],_::_=>rfl
 | _::_,[]=>rfl
 | a::s,b::t=>by
  have h:=eqvAll s t;show (qk (.int (a:Int)) (.int (b:Int))&&xj (pd s) (pd t))=((a::s)==(b::t))
  rw [h];have e:qk (.int (a:Int)) (.int (b:Int))=(a==b):=by
   show ((a:Int)==(b:Int))=(a==b)
   by_cases z:a=b
   ·subst z;simp
   ·have c:¬(a:Int)=(b:Int):=by omega
    rw [beq_eq_false_iff_ne.mpr c,beq_eq_false_iff_ne.mpr z]
  rw [e];rfl
def eqvL(s t):qk (.list (pd s)) (.list (pd t))=(s==t):=eqvAll s t
def Rn(t){i j:Nat}(a:i<=t.length)(b:i<=j):py (tv t) (some (i:Int)) (some (j:Int))=tv (JP t i j):=by
 unfold py JP;rw [WE,WE,dE,gY a,<-Ia,<-H_];by_cases h:j<=t.length
 ·rw [gY h]
 ·rw [gI (by omega)];congr 1;rw [di (by rw [bK];omega),di (by rw [bK];omega)]
section
variable {P:be} {w:bN} {K:ac} {mg:Str→Option al} {base:cz} {z:Adr}
def L4:Sp:=λa H Q _=>∃x:Str,a=[.str x]/\x.length<=1000/\∀l,H l=none->Q (.ref l) (upd H l (.lst (tv (cp x))))
def TW:WB ["name","letter"] ["name"] (aA oK):=⟨rfl,rfl,rfl,by decide+kernel,rfl,by decide+kernel,by decide+kernel⟩
theorem take_snoc{b:Type}:∀{l:List b} {i:Nat} {x:b},l[i]? =some x->l.take (i+1)=l.take i++[x]
 | [],i,x,h=>by simp at h
 | a::l,0,x,h=>by
  have e:a=x:=bw h;subst e;rfl
 | a::l,i+1,x,h=>by
  have c:=take_snoc (l:=l) (i:=i) (x:=x) h;show a::l.take (i+1)=a::l.take i++[x]
  rw [c];rfl
def Ca(F:Fun K "bytes_of" "bytes_of" oK f l)(T:Txt K mg z):Wz P w K mg base (CXE P w) 1 f l ["name"] L4:=by
 refine F.okX TW (λg H Q E h=> ?_) (λm A d s H g Q E p h=> ?_)
 ·obtain ⟨x,rfl,_⟩:=h;rfl
 ·obtain ⟨x,rfl,o,q⟩:=h;refine ⟨_,az (bn (yy (own:=[("letter",1)]) rfl TW.nd (Ol (pv 0)) (jt (by first | rfl | kernel_rfl)) (λ_ _ _ _ _=>fg (i:=1) TW.nd rfl (bz rfl)) (λ_ _ _ _ _=>mx)
   (λ_ _ _ _ _=>eV JD (by rfl) T.ord Uz (aa (pv 1) aw)))),?_⟩
  refine ⟨_,rfl,x,rfl,λD k=>Ov (λi a=>a=upd H D (.lst (tv ((cp x).take i)))) ?_ ?_ ?_⟩
  ·rw [QU];rfl
  ·rintro i c a j rfl;refine ⟨rfl,_,rfl,⟨#[c]⟩,rfl,rfl,_,ao,?_,?_⟩
   ·rw [dE,bQ];have n:(cp x).length<=1000:=by
     have:x.length=(cp x).length:=by simp [V7]
     omega
    exact jx (by omega)
   ·rw [mw];have b:(cp x)[i]? =some c:=by rw [<-j];simp
    rw [take_snoc b];show upd H D (.lst (tv ((cp x).take i)++[Wv ((#[c]:Array Nat).getD 0 0:Nat)]))=_;rw [show tv ((cp x).take i++[c])=tv ((cp x).take i)++tv [c] from bY];rfl
  ·rintro a rfl;have e:(cp x).take x.cps.size=cp x:=di (by simp);rw [e];exact q D k
def Sj(g:List Nat->Nat->Nat)(K:ac):Sp:=λb H Q _=>∃(a:af) (t:List Nat) (i:Nat),b=[.ref a,.int (i:Int)]/\SqL K H a (tv t)/\i<t.length/\Q (.int (g t i:Nat)) H
def UO:WB ["text","place","end"] ["text","place"] (aA xK):=⟨rfl,rfl,rfl,by decide+kernel,rfl,by decide+kernel,by decide+kernel⟩
def Lh(F:Fun K "past_modifier_word" "past_modifier_word" xK f u)(T:Txt K mg z)(d:Df K mg "past_run" Ek ["text","place","belongs"] x l)(g:Df K mg "is_letter" nQ ["byte"] j b):
  Wz P w K mg base (CXE P w) 3 f u ["text","place"] (Sj nR K):=by
 have B:Wz P w K mg base (CXE P w) 2 x l _ _:=Gm d.fn T;have C:Wz P w K mg base (CXE P w) 1 j b _ _:=zh g.fn;refine F.okX UO (λn H Q E h=> ?_) (λD A m s H n Q E o h=> ?_)
 ·obtain ⟨a,t,i,rfl,_⟩:=h;rfl
 ·obtain ⟨a,t,i,rfl,r,p,q⟩:=h;refine ⟨_,ay (cj (i:=2) UO.nd rfl (bz rfl) (fZ B o rfl d.at_ d.fn.kp d.bd .nil cw (aa (pv 0) (aa (d_ oM (pv 1) bR) (aa (cg (v:= .ref j) rfl g.at_ rfl) aw)))))
   (ay (ee (cU lM (pv 2) (d_ oM (pv 1) bR) (dA _)) (az (bn (pv 1))) cB) (az (bn (pv 2)))),?_⟩
  refine ⟨_,rfl,_,rfl,_,_,rfl,rfl,a,j,t,i+1,dW,rfl,r,p,⟨b,C,g.bd,g.fn.kp⟩,?_⟩;refine ⟨_,rfl,_,rfl,_,_,rfl,rfl,rfl,_,rfl,gp (λc=> ?_) λc=> ?_⟩
  ·refine ⟨_,rfl,?_⟩;have k:e_ dW t (i+1)=i+1:=by have:=X1 (of_decide_eq_true c);omega
   have e:nR t i=i:=if_pos k;rw [e] at q;exact q
  ·refine ⟨_,rfl,?_⟩;have k:¬e_ dW t (i+1)=i+1:=λy=>c (decide_eq_true (by rw [y];rfl));have e:nR t i=e_ dW t (i+1):=if_neg k;rw [e] at q;exact q
def Nv(g:List Nat->Nat->Nat)(K:ac):Sp:=λc H Q _=>∃(a:af) (t:List Nat) (i:Nat),c=[.ref a,.int (i:Int)]/\SqL K H a (tv t)/\i<=t.length/\∀b,WG H b->Q (.int (g t i:Nat)) b
def TV:WB ["text","place","sign","end"] ["text","place"] (aA xI):=⟨rfl,rfl,rfl,by decide+kernel,rfl,by decide+kernel,by decide+kernel⟩
theorem zv{c:Type}(p):∀(l:List c) (i:Nat) (x:c),l[i]? =some x->(∀y∈l.take i,p y=false)->p x=true->l.find? p=some x
 | [],i,x,h,_,_=>by simp at h
 | a::l,0,x,h,_,b=>by
  have e:a=x:=bw h;subst e;rw [gT,b]
 | a::l,i+1,x,h,d,b=>by
  rw [gT,d a (by simp)];exact zv p l i x h (λy f=>d y (by rw [lA];exact au _ f)) b
def F8{a:Type}(p)(l:List a)(h:∀y∈l,p y=false):l.find? p=none:=List.find?_eq_none.mpr λx b=>by rw [h x b];exact aN
def Le(F:Fun K "past_sign" "past_sign" xI f fd)(T:Txt K mg z)(C:Df K mg "bytes_of" oK ["name"] fY M):Wz P w K mg base (CXE P w) 2 f fd ["text","place"] (Nv iD K):=by
 have GY:Wz P w K mg base (CXE P w) 1 fY M _ _:=Ca C.fn T;refine F.okX TV (λY H Q E h=> ?_) (λa0 A N s H Y Q E U h=> ?_)
 ·obtain ⟨a,t,i,rfl,_⟩:=h;rfl
 ·obtain ⟨a,t,i,rfl,hS,hi,q⟩:=h;refine ⟨_,ay (my vT rfl (Kp (cg (v:= .ref z.aS) rfl T.mS rfl)) (fg (i:=2) TV.nd rfl (bz rfl))
   (ay (cj (i:=3) TV.nd rfl (bz rfl) (d_ oM (pv 1) (eV yH (by rfl) T.len io (aa (pv 2) aw))))
   (az (ee (cU (zS U.units) (dJ eD (pv 0) (dY (pv 1)) (dY (pv 3))) (fZ GY U rfl C.at_ C.fn.kp C.bd .nil cw (aa (pv 2) aw)) (dA _)) (az (bn (pv 3))) cB))))
   (az (bn (pv 1))),?_⟩
  refine ⟨z.aS,rfl,⟨_,T.vS _⟩,HA (K:=K) (a:=z.aS) (xs:=lY.map Ww) (λj r k=>∃I G:Option V,r=[some (.ref a),some (.int (i:Int)),I,G]/\WG H k/\∀y∈signs.take j,((t.drop i).take y.length==y)=false)
   ⟨none,none,rfl,WH H,λy d=>by simp at d⟩ (λj r k _ _=>T.vS k) ?_ ?_⟩
  ·rintro j x r k n ⟨I,G,rfl,u,B⟩;obtain ⟨g,hg,rfl⟩:∃g,lY[j]? =some g/\x=Ww g:=by
    rw [bW] at n;cases e:lY[j]? with
    | none=>rw [e] at n;cases n
    | some g=>rw [e] at n;exact ⟨g,rfl,(bw n).symm⟩
   have b:signs[j]? =some (cp g):=by rw [<-Io,bW,hg];rfl
   have L:g.length=(cp g).length:=by simp [V7]
   have gs:g.length<=2:=by
    have:∀y∈signs,y.length<=2:=by decide
    rw [L];exact this _ (bD b)
   refine ⟨_,rfl,_,rfl,g,rfl,ii (jx (by omega)),_,_,rfl,rfl,?_⟩;refine ⟨_,rfl,_,rfl,_,rfl,_,rfl,_,rfl,a,_,rfl,u.seq hS,λp hp=> ?_⟩;rw [show ((i:Int)+(g.length:Int))=((i+g.length:Nat):Int) by omega];have ce:JP t i (i+g.length)=(t.drop i).take (cp g).length:=by unfold JP;rw [L];congr 1;omega
   rw [Rn t hi (by omega),ce];have s2:WG H (upd k p (.lst (tv ((t.drop i).take (cp g).length)))):=Same.upd u hp;refine ⟨_,rfl,g,rfl,by omega,λl J=> ?_⟩;have np:l≠p:=λy=>by rw [y,ao] at J;cases J
   have O:=Same.upd (o:= .lst (tv (cp g))) s2 J;refine ⟨_,_,dpL (Ws (by rw [aC np.symm];exact ao)),dpL (Ws ao),shapedL _,shapedL _,_,rfl,?_⟩;rw [eqvL];refine gp (λc=> ?_) λc=> ?_
   ·refine ⟨_,rfl,?_⟩;have f:=zv (λs:List Nat=>(t.drop i).take s.length==s) signs j _ b B c;have e:iD t i=i+g.length:=by unfold iD;rw [f,L]
    have m:=q _ O;rw [e] at m;exact m
   ·refine ⟨_,_,rfl,O,λy d=> ?_⟩;rw [take_snoc b] at d;rcases bV.mp d with D | D
    ·exact B y D
    ·rw [aL.mp D];simpa using c
  ·rintro r k ⟨I,G,rfl,u,B⟩;refine ⟨_,rfl,?_⟩;have f:=F8 (λs:List Nat=>(t.drop i).take s.length==s) signs (λy d=>B y (by rw [di (by simp [lY,signs])];exact d));have e:iD t i=i:=by unfold iD;rw [f]
   have m:=q _ u;rw [e] at m;exact m
end
section
variable {P:be} {w:bN} {K:ac} {mg:Str→Option al} {base:cz} {z:Adr}
def UN:WB ["text","place","byte"] ["text","place"] (aA Iy):=⟨rfl,rfl,rfl,by decide+kernel,rfl,by decide+kernel,by decide+kernel⟩
def NF(F:Fun K "past_token" "past_token" Iy f fd)(T:Txt K mg z)(d:Df K mg "past_run" Ek ["text","place","belongs"] fR O)(g:Df K mg "is_letter" nQ ["byte"] G o)(j:Df K mg "is_digit" sC ["byte"] I p)(u:Df K mg "past_modifier_word" xK ["text","place"] fM U)(B:Df K mg "past_sign" xI ["text","place"] fG Y)(DY:Df K mg "bytes_of" oK ["name"] fY a2):
  Wz P w K mg base (CXE P w) 4 f fd ["text","place"] (Nv dX K):=by
 have GR:Wz P w K mg base (CXE P w) 2 fR O _ _:=Gm d.fn T;have GL:Wz P w K mg base (CXE P w) 1 G o _ _:=zh g.fn;have GD:Wz P w K mg base (CXE P w) 1 I p _ _:=IE j.fn;have GM:Wz P w K mg base (CXE P w) 3 fM U _ _:=Lh u.fn T d g;have GG:Wz P w K mg base (CXE P w) 2 fG Y _ _:=Le B.fn T DY;obtain ⟨tc,kc⟩:=T.kCol;refine F.okX UN (λvs H Q E h=> ?_) (λa3 A a1 s H vs Q E C h=> ?_)
 ·obtain ⟨a,t,i,rfl,_⟩:=h;rfl
 ·obtain ⟨a,t,i,rfl,l,D,q⟩:=h;have n:Wy 1 _:=C.mono (by decide);have k:Wy 2 _:=C.mono (by decide);refine ⟨_,ay (ee (cU lM (pv 1) (eV gU (by rfl) T.len io (aa (pv 0) aw)) (dA _)) (az (bn (pv 1))) cB)
   (ay (cj (i:=2) UN.nd rfl (bz rfl) (iR gn (pv 0) (pv 1) (λ_ _=>rfl)))
   (ay (ee (re (fZ GL n rfl g.at_ g.fn.kp g.bd .nil cw (aa (pv 2) aw))) (az (bn (fZ GR k rfl d.at_ d.fn.kp d.bd .nil cw (aa (pv 0) (aa (pv 1) (aa (cg (v:= .ref G) rfl g.at_ rfl) aw)))))) cB)
   (ay (ee (re (fZ GD n rfl j.at_ j.fn.kp j.bd .nil cw (aa (pv 2) aw))) (az (bn (fZ GR k rfl d.at_ d.fn.kp d.bd .nil cw (aa (pv 0) (aa (pv 1) (aa (cg (v:= .ref I) rfl j.at_ rfl) aw)))))) cB)
   (ay (ee (cU lM (pv 2) (cg (v:= .int 58) rfl kc ⟨_,rfl⟩) (dA _)) (az (bn (fZ GM C rfl u.at_ u.fn.kp u.bd .nil cw (aa (pv 0) (aa (pv 1) aw))))) cB)
   (az (bn (fZ GG k rfl B.at_ B.fn.kp B.bd .nil cw (aa (pv 0) (aa (pv 1) aw))))))))),?_⟩
  refine ⟨_,rfl,_,rfl,a,tv t,rfl,.inl l,rfl,_,rfl,gp (λc=> ?_) λc=> ?_⟩
  ·refine ⟨_,rfl,?_⟩;have M:i=t.length:=by
    have:=X1 (of_decide_eq_true c);rw [dE] at this;omega
   have e:dX t i=i:=Gi (jL (by omega));have b:=q H (WH H);rw [e] at b;exact b
  ·have M:i<t.length:=by
    have:¬i=t.length:=λy=>c (decide_eq_true (by rw [dE,y]));omega
   obtain ⟨x,m⟩:∃x,t[i]? =some x:=⟨_,aP M⟩
   refine ⟨_,rfl,_,rfl,a,tv t,(i:Int),.int (x:Int),rfl,rfl,l,f_ (JZ m),?_⟩;refine ⟨_,rfl,x,rfl,_,rfl,gp (λr=> ?_) λr=> ?_⟩
   ·refine ⟨_,rfl,_,rfl,a,G,t,i,dW,rfl,l,D,⟨o,GL,g.bd,g.fn.kp⟩,?_⟩;have b:=q H (WH H);rw [zc m r] at b;exact b
   ·refine ⟨_,rfl,x,rfl,_,rfl,gp (λL=> ?_) λL=> ?_⟩
    ·refine ⟨_,rfl,_,rfl,a,I,t,i,kM,rfl,l,D,⟨p,GD,j.bd,j.fn.kp⟩,?_⟩;have b:=q H (WH H);rw [C4 m r L] at b;exact b
    ·refine ⟨_,rfl,rfl,_,rfl,gp (λJ=> ?_) λJ=> ?_⟩
     ·have a0:x=58:=by have:=X1 (of_decide_eq_true J);omega
      subst a0;refine ⟨_,rfl,_,rfl,a,t,i,rfl,l,M,?_⟩;have b:=q H (WH H);rw [K6 m] at b;exact b
     ·have N:¬x=58:=λy=>J (decide_eq_true (by rw [y];rfl));refine ⟨_,rfl,_,rfl,a,t,i,rfl,l,D,λH' s'=> ?_⟩;have b:=q H' s';rw [Gh m r L N] at b;exact b
def Ei(b:Nat)(l:af)(e:Nat):List (Str×V):=mK "end" (.int (e:Int)) (mK "spelling" (.ref l) (mK "begin" (.int (b:Int)) []))
def G8(b)(l)(e):(Ei b l e).lookup ("begin":Str)=some (.int (b:Int)):=by
 unfold Ei;rw [fq,if_neg (by decide+kernel),fq,if_neg (by decide+kernel),fq,if_pos rfl]
def No(b)(l)(e):(Ei b l e).lookup ("spelling":Str)=some (.ref l):=by
 unfold Ei;rw [fq,if_neg (by decide+kernel),fq,if_pos rfl]
def G7(b)(l)(e):(Ei b l e).lookup ("end":Str)=some (.int (e:Int)):=by
 unfold Ei;rw [fq,if_pos rfl]
def Sh(C:af)(K:ac):Sp:=λf H Q _=>∃(x e l:af) (b:Nat) (d:List Nat),f=[.ref x,.int (b:Int),.ref l]/\H x=some (.ins C e [])/\H l=some (.lst (tv d))/\
 ∀a,a x=some (.ins C e (Ei b l (b+d.length)))->(∀c o,H c=some o->c≠x->a c=some o)->Q .non a
def Vb:WB ["self","begin","spelling"] ["self","begin","spelling"] (aA uo):=⟨rfl,rfl,rfl,by decide+kernel,rfl,by decide+kernel,by decide+kernel⟩
def ID(F:Fun K "__init__" "Token.__init__" uo f q)(T:Txt K mg z):Wz P w K mg base (CXE P w) 1 f q ["self","begin","spelling"] (Sh z.CT K):=by
 refine F.okX Vb (λp H Q E h=> ?_) (λr A j s H p Q E t h=> ?_)
 ·obtain ⟨x,g,l,b,d,rfl,_⟩:=h;rfl
 ·obtain ⟨x,g,l,b,d,rfl,m,n,k⟩:=h;have a:l≠x:=jr n m (by intro y;cases y);refine ⟨_,ay (rf (pv 0) (pv 1) rfl) (ay (rf (pv 0) (pv 2) rfl) (az (rf (pv 0) (d_ oM (pv 1) (eV gU (by rfl) T.len io (aa (pv 2) aw))) rfl))),?_⟩;refine ⟨_,rfl,_,rfl,x,z.CT,g,[],rfl,m,T.cT,T.tb,(by show 0<1000;decide),?_⟩;refine ⟨_,rfl,_,rfl,x,z.CT,g,_,rfl,ao,T.cT,T.ts,(by show 1<1000;decide),?_⟩;refine ⟨_,rfl,_,rfl,l,tv d,rfl,.inl (Ws (by rw [aC a,aC a];exact n)),_,_,rfl,rfl,_,rfl,x,z.CT,g,_,rfl,ao,T.cT,T.te,(by show 2<1000;decide),?_⟩;refine k _ ?_ λc o e i=>by rw [aC i,aC i,aC i];exact e
  rw [ao];dsimp only;rw [show ((b:Int)+((tv d).length:Int))=((b+d.length:Nat):Int) by rw [dE];omega];rfl
def TokAt(C:af)(H:Hp)(x:af)(b:Nat)(sp:List Nat)(e:Nat):Prop:=∃a l,H x=some (.ins C a (Ei b l e))/\H l=some (.lst (tv sp))
def TokAt.same(T:TokAt C H x b sp e)(s:WG H f):TokAt C f x b sp e:=
 let ⟨d,l,c,a⟩:=T;⟨d,l,s _ _ c,s _ _ a⟩
def BO(C:af)(K:ac):Sp:=λc H Q _=>∃(a:af) (t:List Nat) (i:Nat),c=[.ref a,.int (i:Int)]/\SqL K H a (tv t)/\i<=t.length/\
 ∀b x,WG H b->H x=none->TokAt C b x (gP t i) (eE t i) (gN t i)->Q (.ref x) b
def Ri:WB ["text","place","begin"] ["text","place"] (aA xL):=⟨rfl,rfl,rfl,by decide+kernel,rfl,by decide+kernel,by decide+kernel⟩
def Lk(F:Fun K "token_from" "token_from" xL f fd)(T:Txt K mg z)(c:Df K mg "past_run" Ek ["text","place","belongs"] fR G)(n:Df K mg "is_blank" uq ["byte"] u j)(m:Df K mg "past_token" Iy ["text","place"] fK I)(M:Mk K z.CT fI)(FI:Fun K "__init__" "Token.__init__" uo fI g)(bI:Binds K g ["self","begin","spelling"] [])(DL:Df K mg "is_letter" nQ ["byte"] fL a2)(DD:Df K mg "is_digit" sC ["byte"] fD a4)(DM:Df K mg "past_modifier_word" xK ["text","place"] fM a1)(DG:Df K mg "past_sign" xI ["text","place"] fG a3)(DY:Df K mg "bytes_of" oK ["name"] fY a0):
  Wz P w K mg base (CXE P w) 5 f fd ["text","place"] (BO z.CT K):=by
 have GR:Wz P w K mg base (CXE P w) 2 fR G _ _:=Gm c.fn T;have GB:Wz P w K mg base (CXE P w) 1 u j _ _:=IF n.fn T;have GK:Wz P w K mg base (CXE P w) 4 fK I _ _:=NF m.fn T c DL DD DM DG DY;have GI:Wz P w K mg base (CXE P w) 1 fI g _ _:=ID FI T;refine F.okX Ri (λvs H Q E h=> ?_) (λa5 A J s H vs Q E O h=> ?_)
 ·obtain ⟨a,t,i,rfl,_⟩:=h;rfl
 ·obtain ⟨a,t,i,rfl,r,p,q⟩:=h;have e:Wy 2 _:=O.mono (by decide);refine ⟨_,ay (cj (i:=2) Ri.nd rfl (bz rfl) (fZ GR e rfl c.at_ c.fn.kp c.bd .nil cw (aa (pv 0) (aa (pv 1) (aa (cg (v:= .ref u) rfl n.at_ rfl) aw)))))
   (az (bn (yx M GI e rfl T.mT bI .nil cw (aa (pv 2) (aa (dJ eD (pv 0) (dY (pv 2)) (dY (fZ GK O rfl m.at_ m.fn.kp m.bd .nil cw (aa (pv 0) (aa (pv 2) aw))))) aw))))),?_⟩
  have U:=B4 p;refine ⟨_,rfl,_,rfl,a,u,t,i,yQ,rfl,r,p,⟨j,GB,n.bd,n.fn.kp⟩,?_⟩;refine ⟨_,rfl,_,rfl,_,rfl,_,rfl,_,rfl,_,rfl,a,t,gP t i,rfl,r,U,λH1 N=>⟨_,rfl,a,_,rfl,N.seq r,λl hl=> ?_⟩⟩;rw [show ((dX t (gP t i):Nat):Int)=((gN t i:Nat):Int) from rfl,show py (tv t) (some ((e_ yQ t i:Nat):Int)) (some ((gN t i:Nat):Int))=tv (eE t i) from Rn t U (G9 t i)];intro x B k o ne;have L:WG H (upd H1 l (.lst (tv (eE t i)))):=Same.upd N hl;have b:l≠x:=λy=>by rw [<-y,ao] at k;cases k
  have d:l≠B:=λy=>by rw [<-y,ao] at o;cases o
  refine ⟨x,B,l,gP t i,eE t i,rfl,ao,by rw [aC b,aC d,ao],λC h1 Y=>⟨rfl,?_⟩⟩;have s3:WG H C:=L.trans (WI k o Y);have D:C l=some (.lst (tv (eE t i))):=Y l _ (by rw [aC b,aC d,ao]) b;refine q C x s3 (L.free k) ⟨B,l,?_,D⟩;rw [h1,xy p];have:=G9 t i;rw [show gP t i+(gN t i - gP t i)=gN t i by omega]
end
def Lp:qd (.type "Exception") "place"=pure none:=by rw [JJ,yN];kernel_rfl
def Ik{K}(e:WG H b)(h:SqT K H a xs):SqT K b a xs:=by
 rcases h with (h | ⟨o,h⟩) | h
 ·exact .inl (.inl (e _ _ h))
 ·exact .inl (.inr ⟨o,e _ _ h⟩)
 ·exact .inr h
section
variable {P:be} {w:bN} {K:ac} {mg:Str→Option al} {base:cz} {z:Adr}
def QX(C:af):Sp:=λb H Q _=>∃(e:af) (v:V),b=[.ref e,v]/\H e=some (XF C e none)/\∀a,H a=none->a≠e->Q .non (upd (upd H a (.xd [("place",v)])) e (XF C e (some a)))
def Sy:WB ["self","place"] ["self","place"] (aA um):=⟨rfl,rfl,rfl,by decide+kernel,rfl,by decide+kernel,by decide+kernel⟩
def C8(F:Fun K "__init__" "NoFunction.__init__" um f i)(T:Txt K mg z):Wz P w K mg base (CXE P w) 1 f i ["self","place"] (QX z.CN):=by
 refine F.okX Sy (λc H Q E h=> ?_) (λl A a s H c Q E m h=> ?_)
 ·obtain ⟨e,v,rfl,_⟩:=h;rfl
 ·obtain ⟨e,v,rfl,b,k⟩:=h;refine ⟨_,ay (iF (Jj rfl T.mE (aa (pv 0) aw))) (az (M0 (pv 0) (pv 1) Lp rfl)),?_⟩;refine ⟨_,rfl,e,z.CN,z.NN,none,rfl,b,T.xn,?_⟩;exact ⟨_,rfl,_,rfl,e,z.CN,z.NN,rfl,b,T.xn,T.np,T.ns,λj g d=>k j g d⟩
def Raised(C:af)(E:XK)(H:Hp)(p:Nat):Prop:=∀a b,WG H a->a b=some (.xd [("place",.int (p:Int))])->E (.ref C) (some b) a
structure DX (K:ac) (z:Adr) (f:af) (fd:ip):Prop where
 fn:Fun K "__init__" "NoFunction.__init__" um f fd
 bd:Binds K fd ["self","place"] []
 at_:aj K z.NN "__init__"=some (some (.ref f))
 obj:∃o,K.lookup f=some o∧o.cls= .type "function"
def ur(r:Raised C E H p)(s:WG H f)(e)(k:f e=none):
  QX C (.ref e::[.int (p:Int)]) (upd f e (XF C e none)) (λv i=>v= .non/\∃dx,i e=some (XF C e dx)/\E (.ref C) dx (QK i e)) E0:=by
 refine ⟨e,_,rfl,ao,λdx g a=>⟨rfl,some dx,ao,?_⟩⟩;have j:f dx=none:=by rw [aC a] at g;exact g
 refine r _ dx (λb o h=> ?_) ?_
 ·have c:=s b o h;have d:b≠e:=aU c k;have l:b≠dx:=aU c j;rw [rj d,aC d,aC l,aC d];exact c
 ·rw [rj a,aC a,ao]
def Ga(z:Adr)(K:ac):Sp:=λf H Q E=>∃(n x:af) (a:List Str) (b e:Nat) (c:List Nat),f=[.ref n,.ref x]/\SqT K H n (a.map Ww)/\(∀u∈a,u.length<=1000)/\TokAt z.CT H x b c e/\
 (c∈a.map cp->∀d,WG H d->Q (.str ⟨c.toArray⟩) d)/\(c∉a.map cp->Raised z.CN E H b)
def Rh:WB ["names","token","name"] ["names","token"] (aA xJ):=⟨rfl,rfl,rfl,by decide+kernel,rfl,by decide+kernel,by decide+kernel⟩
def Qo(x):(⟨(cp x).toArray⟩:Str)=x:=by
 obtain ⟨⟨l⟩⟩:=x;rfl
def Lg(F:Fun K "name_among" "name_among" xJ f fd)(T:Txt K mg z)(G:Df K mg "bytes_of" oK ["name"] fY a0)(X:DX K z fX a1):Wz P w K mg base (CXE P w) 3 f fd ["names","token"] (Ga z K):=by
 have GY:Wz P w K mg base (CXE P w) 1 fY a0 _ _:=Ca G.fn T;have GX:Wz P w K mg base (CXE P w) 1 fX a1 _ _:=C8 X.fn T;refine F.okX Rh (λvs H Q E h=> ?_) (λa3 A a2 s H vs Q E M h=> ?_)
 ·obtain ⟨n,x,k,b,e,sp,rfl,_⟩:=h;rfl
 ·obtain ⟨n,x,k,b,e,sp,rfl,hN,hw,hT,q,qe⟩:=h;have U:Wy 1 _:=M.mono (by decide);refine ⟨_,ay (my vT rfl (Kp (pv 0)) (fg (i:=2) Rh.nd rfl (bz rfl))
   (az (ee (cU (zS M.units) (fZ GY U rfl G.at_ G.fn.kp G.bd .nil cw (aa (pv 2) aw)) (iP (pv 1) rfl) (dA _)) (az (bn (pv 2))) cB)))
   (az (zK rfl rfl T.xn X.at_ X.obj GX M rfl T.mN X.bd (by decide) cw ig (aa (iP (pv 1) rfl) aw))),?_⟩
  refine ⟨_,rfl,n,rfl,⟨_,hN⟩,HA (K:=K) (a:=n) (xs:=k.map Ww) (λj r o=>∃J:Option V,r=[some (.ref n),some (.ref x),J]/\WG H o/\∀y∈k.take j,cp y≠sp)
   ⟨none,rfl,WH H,λy B=>by simp at B⟩ (λj r o _ ⟨_,_,d,_⟩=>Ik d hN) ?_ ?_⟩
  ·rintro j v r o m ⟨J,rfl,d,C⟩;obtain ⟨g,hg,rfl⟩:∃g,k[j]? =some g/\v=Ww g:=by
    rw [bW] at m;cases e:k[j]? with
    | none=>rw [e] at m;cases m
    | some g=>rw [e] at m;exact ⟨g,rfl,(bw m).symm⟩
   have gm:g∈k:=bD hg;obtain ⟨O,l,t,L⟩:=hT.same d;refine ⟨_,rfl,g,rfl,hw g gm,λp N=> ?_⟩;have s2:WG H (upd o p (.lst (tv (cp g)))):=Same.upd d N;have nx:x≠p:=aU t N;have nl:l≠p:=aU L N;refine ⟨_,rfl,x,z.CT,O,_,.ref l,rfl,by rw [aC nx];exact t,T.cT,T.ts,No _ _ _,?_⟩;refine ⟨_,_,dpL (Ws ao),dpL (Ws (by rw [aC nl];exact L)),shapedL _,shapedL _,_,rfl,?_⟩;rw [eqvL];refine gp (λc=> ?_) λc=> ?_
   ·refine ⟨_,rfl,?_⟩;have D:=eq_of_beq c;have q':=q (by rw [<-D];exact N0 gm) _ s2;rw [<-D,Qo] at q';exact q'
   ·refine ⟨_,rfl,s2,λy B=> ?_⟩;rw [take_snoc hg] at B;rcases bV.mp B with I | I
    ·exact C y I
    ·rw [aL.mp I];exact λy2=>c (by rw [y2];exact beq_self_eq_true _)
  ·rintro r o ⟨J,rfl,d,C⟩;rw [am,bH] at C;obtain ⟨O,l,t,L⟩:=hT.same d;refine ⟨_,rfl,x,z.CT,O,_,.int (b:Int),rfl,t,T.cT,T.tb,G8 _ _ _,λD Y=> ?_⟩;exact ur (qe (λy=>by obtain ⟨u,hu,eu⟩:=cR.mp y;exact C u hu eu)) d D Y
end
open Vaarrc (Mod readMods readFun)
def vn:Mod->List Nat
 | .fold=>aE ":fold"
 | .scan=>aE ":scan"
 | .table=>aE ":table"
 | .swap=>aE ":swap"
 | .at_ _=>aE ":at"
def vo:Mod->V
 | .at_ k=> .int (k:Int)
 | _=> .non
abbrev K9(m:Mod):List V:=[.str ⟨(vn m).toArray⟩,vo m]
abbrev ModsOf(H:Hp)(b:List af)(ms:List Mod):Prop:=fW (λ(a:af) (m:Mod)=>H a=some (.tup (K9 m))) b ms
def ModsOf.len(h:ModsOf H a ms):a.length=ms.length:=gG h
def ModsOf.to(h:ModsOf H b ms)(k:∀a m,H a=some (.tup (K9 m))->c a=some (.tup (K9 m))):ModsOf c b ms:=Wp h k
theorem ModsOf.snoc(b:H a=some (.tup (K9 m))):∀{c:List af} {ms:List Mod},ModsOf H c ms->ModsOf H (c++[a]) (ms++[m])
 | _,_,.nil=> .cons b .nil
 | _,_,.cons h t=> .cons h (ModsOf.snoc b t)
def EW(h:s∈l_)(n:s≠aE ":at"):vn (NJ s)=s/\vo (NJ s)= .non:=by
 have a:s=aE ":fold"\/s=aE ":scan"\/s=aE ":table"\/s=aE ":swap"\/s=aE ":at":=by simpa [l_] using h
 rcases a with e | e | e | e | e
 ·rw [e];exact ⟨by decide,rfl⟩
 ·rw [e];exact ⟨by decide,rfl⟩
 ·rw [e];exact ⟨by decide,rfl⟩
 ·rw [e];exact ⟨by decide,rfl⟩
 ·exact absurd e n
def atS:(":at":Str)=⟨(aE ":at").toArray⟩:=by decide+kernel
def Iz(h:s∈jX):PN ⟨s.toArray⟩=some (((s.headD 0 - 48:Nat)):Int)/\s.length=1:=by
 have a:s=[48]\/s=[49]\/s=[50]\/s=[51]\/s=[52]\/s=[53]:=by simpa [jX] using h
 rcases a with e | e | e | e | e | e<;>(subst e;exact ⟨by decide+kernel,rfl⟩)
def Cb:∀u∈MJ,u.length<=1000:=by decide+kernel
def Al:∀u∈EU,u.length<=1000:=by decide+kernel
def Av:∀u∈lY++J1,u.length<=1000:=by decide+kernel
def map_cons(r:Except Nat (List Mod)):((r.map λl=>m::l).map λl=>ms++l)=r.map λl=>(ms++[m])++l:=by
 cases r with
 | error e=>rfl
 | ok l=>show HP _=HP _;simp
section
variable {P:be} {w:bN} {K:ac} {mg:Str→Option al} {base:cz} {z:Adr}
def K4(z:Adr)(K:ac):Sp:=λe H Q E=>∃(a:af) (t:List Nat) (i:Nat),e=[.ref a,.int (i:Int)]/\SqL K H a (tv t)/\i<=t.length/\
 (∀c,dG t.length 8 (toks t i)= .ok c->∀b l d,WG H b->H l=none->b l=some (.lst (d.map WA))->ModsOf b d c->Q (.ref l) b)/\(∀p,dG t.length 8 (toks t i)= .error p->Raised z.CN E H p)
def Gg:WB ["text","place","modifiers","token","word","rank"] ["text","place"] (aA Ak):=⟨rfl,rfl,rfl,by decide+kernel,rfl,by decide+kernel,by decide+kernel⟩
def Raised.same(r:Raised C E H p)(s:WG H d):Raised C E d p:=λc b a h=>r c b (s.trans a) h
def Li(F:Fun K "read_modifiers" "read_modifiers" Ak f fd)(T:Txt K mg z)(U:Df K mg "token_from" xL ["text","place"] fF c4)(GF:Wz P w K mg base (CXE P w) 5 fF c4 ["text","place"] (BO z.CT K))(DN:Df K mg "name_among" xJ ["names","token"] fN c3)(GN:Wz P w K mg base (CXE P w) 3 fN c3 ["names","token"] (Ga z K))(X:DX K z fX c2):Wz P w K mg base (CXE P w) 6 f fd ["text","place"] (K4 z K):=by
 have GX:Wz P w K mg base (CXE P w) 1 fX c2 _ _:=C8 X.fn T;obtain ⟨tm,km⟩:=T.kMm;obtain ⟨ta,ka⟩:=T.kAt;refine F.okX Gg (λvs H Q E h=> ?_) (λd0 A c5 s H vs Q E hr h=> ?_)
 ·obtain ⟨a,t,i,rfl,_⟩:=h;rfl
 ·obtain ⟨a,t,i,rfl,hS,hi,q,qe⟩:=h;have c0:Wy 2 _:=hr.mono (by decide);have a9:Wy 3 _:=hr.mono (by decide);refine ⟨_,ay (cj (i:=2) Gg.nd rfl (bz rfl) (eA aw))
   (ay (cj (i:=3) Gg.nd rfl (bz rfl) (fZ GF hr rfl U.at_ U.fn.kp U.bd .nil cw (aa (pv 0) (aa (pv 1) aw))))
   (ay (Dg vT (cU wz (iP (pv 3) rfl) (eV gU (by rfl) T.len io (aa (pv 0) aw)) (dA _))
    (ay (ee (cU lM (eV gU (by rfl) T.len io (aa (pv 2) aw)) (cg (v:= .int 8) rfl km ⟨_,rfl⟩) (dA _))
     (az (zK rfl rfl T.xn X.at_ X.obj GX c0 rfl T.mN X.bd (by decide) cw ig (aa (iP (pv 3) rfl) aw))) cB)
    (ay (cj (i:=4) Gg.nd rfl (bz rfl) (fZ GN a9 rfl DN.at_ DN.fn.kp DN.bd .nil eO (aa (cg (v:= .ref z.aM) rfl T.mM rfl) (aa (pv 3) aw))))
    (ay (cj (i:=5) Gg.nd rfl (bz rfl) Oo)
    (ay (ee (cU lM (pv 4) (cg (v:= .str ":at") rfl ka ⟨_,rfl⟩) (dA _))
     (ay (cj (i:=3) Gg.nd rfl (bz rfl) (fZ GF hr rfl U.at_ U.fn.kp U.bd .nil cw (aa (pv 0) (aa (iP (pv 3) rfl) aw))))
     (az (cj (i:=5) Gg.nd rfl (bz rfl) (rR yI (by rfl) T.int UA (aa (fZ GN a9 rfl DN.at_ DN.fn.kp DN.bd .nil eO (aa (cg (v:= .ref z.aR) rfl T.mR rfl) (aa (pv 3) aw))) aw))))) cB)
    (ay (iF (FG iW tW Eu zU (pv 2) (aa (zP (aa (pv 4) (aa (pv 5) aw))) aw)))
    (az (cj (i:=3) Gg.nd rfl (bz rfl) (fZ GF hr rfl U.at_ U.fn.kp U.bd .nil cw (aa (pv 0) (aa (iP (pv 3) rfl) aw))))))))))
   ) (az (bn (pv 2))))),?_⟩
  refine ⟨cy _,λl hl=> ?_⟩;have s0:WG H (upd H l (.lst [])):=Same.upd (WH H) hl;refine ⟨_,rfl,_,rfl,a,t,i,rfl,s0.seq hS,hi,λH1 x0 s1 c8 b6=> ?_⟩;have b9:=s0.trans s1;refine ⟨λm σ H'=>∃(n:List Mod) (as:List af) (x:af) (j:Nat) (v4 v5:Option V),m=8 - n.length/\σ=[some (.ref a),some (.int (i:Int)),some (.ref l),some (.ref x),v4,v5]/\H' l=some (.lst (as.map WA))/\ModsOf H' as n/\n.length<=8/\j<=t.length/\
   TokAt z.CT H' x (gP t j) (eE t j) (gN t j)/\WG H H'/\dG t.length 8 (toks t i)=(dG t.length (8 - n.length) (toks t j)).map λr=>n++r,
   ⟨_,[],[],x0,i,none,none,rfl,rfl,s1 _ _ ao,.nil,cy _,hi,b6,b9,?_⟩,?_⟩
  ·show dG t.length 8 (toks t i)=(dG t.length 8 (toks t i)).map λr=>[]++r;cases dG t.length 8 (toks t i)<;>rfl
  rintro m σ H' ⟨n,as,x,j,v4,v5,rfl,rfl,a5,hm,c9,hj,tk,s2,hR⟩;obtain ⟨dx,sl,a2,c6⟩:=id tk;have hb:=B4 hj;refine ⟨_,rfl,x,z.CT,dx,_,.int (gP t j:Int),rfl,a2,T.cT,T.tb,G8 _ _ _,_,rfl,a,tv t,rfl,.inl (s2.seq hS),_,_,rfl,rfl,_,rfl,gp (λc=> ?_) λc=> ?_⟩
  ·have c':gP t j≠t.length:=by have:=of_decide_eq_true c;rw [dE] at this;omega
   refine ⟨λY u=>∃(g:List Mod) (C:List af) (x':af) (D:Nat) (I G:Option V),g.length=n.length+1/\Y=[some (.ref a),some (.int (i:Int)),some (.ref l),some (.ref x'),I,G]/\u l=some (.lst (C.map WA))/\ModsOf u C g/\g.length<=8/\D<=t.length/\
    TokAt z.CT u x' (gP t D) (eE t D) (gN t D)/\WG H u/\dG t.length 8 (toks t i)=(dG t.length (8 - g.length) (toks t D)).map λr=>g++r,
    λY u ⟨g,C,x',D,I,G,g1,g2,g3,g4,g5,g6,g7,g8,g9⟩=>⟨8 - g.length,by omega,g,C,x',D,I,G,rfl,g2,g3,g4,g5,g6,g7,g8,g9⟩,?_⟩
   refine ⟨_,rfl,l,_,rfl,.inl (Ws a5),rfl,_,rfl,gp (λd=> ?_) λd=> ?_⟩
   ·have d':n.length=8:=by
     have:=X1 (of_decide_eq_true d);rw [am,hm.len] at this;omega
    have er:dG t.length 8 (toks t i)= .error (gP t j):=by
     rw [hR,d',KU,EV hj c'];rfl
    exact ⟨_,rfl,x,z.CT,dx,_,.int (gP t j:Int),rfl,a2,T.cT,T.tb,G8 _ _ _,λe he=>ur (qe _ er) s2 e he⟩
   have d':n.length<8:=by
    have:¬n.length=8:=λy=>d (decide_eq_true (by rw [am,hm.len,y];rfl));omega
   obtain ⟨k,hk⟩:∃k,8 - n.length=k+1:=⟨8 - n.length - 1,by omega⟩
   rw [hk] at hR;refine ⟨_,rfl,z.aM,x,MJ,_,_,_,rfl,T.vM _,Cb,tk,λa6 H2 s3=> ?gA,λb4=> ?gB⟩
   case gB=>
    have er:dG t.length 8 (toks t i)= .error (gP t j):=by
     rw [hR,Lm hj c' (by rw [<-Go];exact b4)];rfl
    exact (qe _ er).same s2
   rw [Go] at a6;have l2:=s3 _ _ a5;have m2:ModsOf H2 as n:=hm.to λ_ _ y=>s3 _ _ y;have a1:=s3 _ _ a2;have a3:=s2.trans s3;have rest:∀(H3:Hp) (O:Mod) (N:af) (J a0:af) (b3 e3:Nat),WG H2 H3->vn O=eE t j->H3 N=some (.ins z.CT J (Ei b3 a0 e3))->e3<=t.length->
     dG t.length 8 (toks t i)=(dG t.length k (toks t e3)).map (λr=>(n++[O])++r)->
     MN (Ja (US K "list" Ho (qm 2) (jP (Rq (jP (qm 4) (jP (qm 5) qo))) qo)))
      (Ob (wx (BO z.CT K) [] E0 (jP (qm 0) (jP (Rs K (qm 3) "end") qo))) (wB 3))
      {nx:=λY u=>∃(g:List Mod) (C:List af) (x':af) (D:Nat) (I G:Option V),g.length=n.length+1/\Y=[some (.ref a),some (.int (i:Int)),some (.ref l),some (.ref x'),I,G]/\u l=some (.lst (C.map WA))/\ModsOf u C g/\g.length<=8/\D<=t.length/\
        TokAt z.CT u x' (gP t D) (eE t D) (gN t D)/\WG H u/\dG t.length 8 (toks t i)=(dG t.length (8 - g.length) (toks t D)).map λr=>g++r,rt:=Q}
      [some (.ref a),some (.int (i:Int)),some (.ref l),some (.ref N),some (.str ⟨(eE t j).toArray⟩),some (vo O)] H3:=by
    intro H3 O N J a0 b3 e3 s4 hw a4 b0 c1;have l3:=s4 _ _ l2;have m3:ModsOf H3 as n:=m2.to λ_ _ y=>s4 _ _ y;have b8:=a3.trans s4;refine ⟨_,rfl,.inl ⟨rfl,_,Ws l3⟩,_,rfl,_,rfl,(by show 2<=a_;decide),λp hp=> ?_⟩;have a8:l≠p:=aU l3 hp;refine ⟨l,_,_,rfl,rfl,by rw [aC a8];exact l3,?_,?_⟩
    ·rw [am,m3.len];exact jx (by omega)
    have nl:H l=none:=hl;have s5:WG H (upd (upd H3 p (.tup [Ww ⟨(eE t j).toArray⟩,vo O])) l (.lst (as.map WA++[WA p]))):=λb o e=>by
     have e':=b8 b o e;rw [aC (aU e nl),aC (aU e' hp)];exact e'
    have b2:N≠l:=jr a4 l3 (by intro y;cases y);have b1:N≠p:=aU a4 hp;refine ⟨_,rfl,_,rfl,N,z.CT,J,_,.int (e3:Int),rfl,by rw [aC b2,aC b1];exact a4,T.cT,T.te,G7 _ _ _,a,t,e3,rfl,s5.seq hS,b0,λH5 x5 s6 _ b5=> ?_⟩;refine ⟨n++[O],as++[p],x5,e3,_,_,by simp,rfl,?_,?_,by simp;omega,b0,b5,s5.trans s6,?_⟩
    ·rw [bY];exact s6 _ _ ao
    ·refine ModsOf.snoc (s6 _ _ ?_) (m3.to λb m' y=>s6 _ _ ?_)
     ·rw [aC a8.symm,ao];show some (HO.tup [Ww ⟨(eE t j).toArray⟩,vo O])=some (HO.tup (K9 O));rw [<-hw]
     ·rw [aC (jr y l3 (by intro q;cases q)),aC (aU y hp)];exact y
    ·rw [c1];have:8 - (n++[O]).length=k:=by simp;omega
     rw [this]
   refine ⟨_,rfl,rfl,_,rfl,gp (λe=> ?_) λe=> ?_⟩
   ·have e':eE t j=aE ":at":=by
     have y:=V.str.inj (of_decide_eq_true e);rw [atS] at y;have y2:=congrArg cp y;exact y2
    have B:=hR;rw [Ln hj c' e'] at B;have he:=sq hj;refine ⟨_,rfl,_,rfl,x,z.CT,dx,_,.int (gN t j:Int),rfl,a1,T.cT,T.te,G7 _ _ _,a,t,gN t j,rfl,a3.seq hS,he,λH3 N s4 _ a7=> ?_⟩;refine ⟨_,rfl,z.aR,N,EU,_,_,_,rfl,T.vR _,Al,a7,λL H4 s5=> ?gC,λM=> ?gD⟩
    case gD=>
     rw [C3] at M;rw [if_neg M] at B;have er:dG t.length 8 (toks t i)= .error (gP t (gN t j)):=by rw [B];rfl
     exact (qe _ er).same (a3.trans s4)
    rw [C3] at L;rw [if_pos L,map_cons] at B;obtain ⟨r1,r2⟩:=Iz L;refine ⟨_,_,rfl,r1,?_,?_⟩
    ·show ((eE t (gN t j)).toArray.size)<=640;rw [bL,r2];decide
    obtain ⟨J,a0,b7,c7⟩:=a7;exact rest H4 (.at_ ((eE t (gN t j)).headD 0 - 48)) N J a0 _ _ (s4.trans s5) e'.symm (s5 _ _ b7) (sq he) B
   ·have e':eE t j≠aE ":at":=λy=>e (decide_eq_true (by rw [atS,y]));have B:=hR;rw [II hj c' a6 e',map_cons] at B;obtain ⟨w1,w2⟩:=EW a6 e';have r:=rest H2 (NJ (eE t j)) x dx sl _ _ (WH H2) w1 a1 (sq hj) B;rw [w2] at r;exact r
  ·have c':gP t j=t.length:=by
    have:¬((gP t j:Nat):Int)<((t.length:Nat):Int):=λy=>c (decide_eq_true (by rw [dE];exact y));omega
   rw [IJ hj c'] at hR;have er:dG t.length 8 (toks t i)= .ok n:=by rw [hR];show HP (n++[])=_;rw [gy]
   exact ⟨_,rfl,q n er H' l as s2 hl a5 hm⟩
end
section
variable {P:be} {w:bN} {K:ac} {mg:Str→Option al} {base:cz} {z:Adr}
def Kf(b:List Nat)(l:af):List (Str×V):=mK "modifiers" (.ref l) (mK "base" (.str ⟨b.toArray⟩) [])
def GH(b)(l):(Kf b l).lookup ("base":Str)=some (.str ⟨b.toArray⟩):=by
 unfold Kf;rw [fq,if_neg (by decide+kernel),fq,if_pos rfl]
def wO(b)(l):(Kf b l).lookup ("modifiers":Str)=some (.ref l):=by
 unfold Kf;rw [fq,if_pos rfl]
def Si(C:af):Sp:=λe H Q _=>∃(x d l:af) (b:List Nat),e=[.ref x,.str ⟨b.toArray⟩,.ref l]/\H x=some (.ins C d [])/\∀a,a x=some (.ins C d (Kf b l))->(∀c o,H c=some o->c≠x->a c=some o)->Q .non a
def Sx:WB ["self","base","modifiers"] ["self","base","modifiers"] (aA sFInit):=⟨rfl,rfl,rfl,by decide+kernel,rfl,by decide+kernel,by decide+kernel⟩
def C9(F:Fun K "__init__" "Function.__init__" sFInit f m)(T:Txt K mg z):Wz P w K mg base (CXE P w) 1 f m ["self","base","modifiers"] (Si z.CF):=by
 refine F.okX Sx (λi H Q E h=> ?_) (λn A d s H i Q E p h=> ?_)
 ·obtain ⟨x,a,l,b,rfl,_⟩:=h;rfl
 ·obtain ⟨x,a,l,b,rfl,j,k⟩:=h;refine ⟨_,ay (rf (pv 0) (pv 1) rfl) (az (rf (pv 0) (pv 2) rfl)),?_⟩;refine ⟨_,rfl,_,rfl,x,z.CF,a,[],rfl,j,T.cF,T.fb,(by show 0<1000;decide),?_⟩;refine ⟨_,rfl,_,rfl,x,z.CF,a,_,rfl,ao,T.cF,T.fm,(by show 1<1000;decide),?_⟩;exact k _ ao λc o e g=>by rw [aC g,aC g];exact e
def FunAt(C:af)(H:Hp)(x:af)(f:Ec):Prop:=∃b l a,H x=some (.ins C b (Kf f.base l))/\H l=some (.lst (a.map WA))/\ModsOf H a f.mods.reverse
def BK(z:Adr)(K:ac):Sp:=λc H Q E=>∃(a:af) (t:List Nat),c=[.ref a]/\SqL K H a (tv t)/\(256<t.length->∀b,WG H b->E (.ref z.CL) none b)/\
 (t.length<=256->∀f,mU t= .ok f->∀b x,WG H b->FunAt z.CF b x f->Q (.ref x) b)/\(t.length<=256->∀p,mU t= .error p->Raised z.CN E H p)
def Po:WB ["text","token","base"] ["text"] (aA Aj):=⟨rfl,rfl,rfl,by decide+kernel,rfl,by decide+kernel,by decide+kernel⟩
def Lf(F:Fun K "read_function" "read_function" Aj f fd)(T:Txt K mg z)(J:Df K mg "token_from" xL ["text","place"] fF a2)(GF:Wz P w K mg base (CXE P w) 5 fF a2 ["text","place"] (BO z.CT K))(G:Df K mg "name_among" xJ ["names","token"] fN a0)(GN:Wz P w K mg base (CXE P w) 3 fN a0 ["names","token"] (Ga z K))(I:Df K mg "read_modifiers" Ak ["text","place"] fM a1)(GM:Wz P w K mg base (CXE P w) 6 fM a1 ["text","place"] (K4 z K))(M:Mk K z.CF fI)(FI:Fun K "__init__" "Function.__init__" sFInit fI n)(bI:Binds K n ["self","base","modifiers"] []):Wz P w K mg base (CXE P w) 7 f fd ["text"] (BK z K):=by
 have GI:Wz P w K mg base (CXE P w) 1 fI n _ _:=C9 FI T;obtain ⟨tb,kb⟩:=T.kMb;refine F.okX Po (λvs H Q E h=> ?_) (λa4 A a3 s H vs Q E o h=> ?_)
 ·obtain ⟨a,t,rfl,_⟩:=h;rfl
 ·obtain ⟨a,t,rfl,u,ql,q,qe⟩:=h;have N:Wy 5 _:=o.mono (by decide);have O:Wy 3 _:=o.mono (by decide);have U:Wy 2 _:=o.mono (by decide);refine ⟨_,ay (ee (cU AG (eV gU (by rfl) T.len io (aa (pv 0) aw)) (cg (v:= .int 256) rfl kb ⟨_,rfl⟩) (dA _)) (az (eK rfl rfl T.xl T.li rfl T.mL ig)) cB)
   (ay (cj (i:=1) Po.nd rfl (bz rfl) (fZ GF N rfl J.at_ J.fn.kp J.bd .nil cw (aa (pv 0) (aa bR aw))))
   (ay (cj (i:=2) Po.nd rfl (bz rfl) (fZ GN O rfl G.at_ G.fn.kp G.bd .nil eO (aa (d_ Hu (d_ Hu (cg (v:= .ref z.aS) rfl T.mS rfl) (cg (v:= .ref z.aW) rfl T.mW rfl)) (cg (v:= .ref z.aV) rfl T.mV rfl)) (aa (pv 1) aw))))
   (az (bn (yx M GI U rfl T.mF bI .nil cw (aa (pv 2) (aa (fZ GM o rfl I.at_ I.fn.kp I.bd .nil eO (aa (pv 0) (aa (iP (pv 1) rfl) aw))) aw))))))),?_⟩
  refine ⟨_,rfl,a,tv t,rfl,.inl u,_,_,rfl,rfl,_,rfl,gp (λc=> ?_) λc=> ?_⟩
  ·have j:256<t.length:=by have:=of_decide_eq_true c;rw [dE] at this;omega
   exact ql j H (WH H)
  have j:t.length<=256:=by
   have:¬(256:Int)<((t.length:Nat):Int):=λy=>c (decide_eq_true (by rw [dE];exact y));omega
  refine ⟨_,rfl,a,t,0,rfl,u,cy _,λD x s1 _ tk=> ?_⟩;refine ⟨z.aS,z.aW,_,_,rfl,rfl,T.vS _,T.vW _,by simp [lY],by show (lY.map Ww).length+(vQ.map Ww).length<=a_;exact ii (jx (by simp [lY,vQ])),?_⟩;refine ⟨λe=>absurd e (by simp [vQ]),λ_ p0 Y=> ?_⟩;refine ⟨p0,z.aV,_,_,rfl,rfl,Wu ao,T.vV _,by simp [lY],by show (lY.map Ww++vQ.map Ww).length+(Ie.map Ww).length<=a_;exact ii (jx (by simp [lY,vQ,Ie])),?_⟩;refine ⟨λe=>absurd e (by simp [Ie]),λ_ p hp=> ?_⟩;have m:WG D (upd (upd D p0 (.tup (lY.map Ww++vQ.map Ww))) p (.tup (lY.map Ww++vQ.map Ww++Ie.map Ww))):=Same.upd (Same.upd (WH D) Y) hp;have s2:=s1.trans m;have k:=tk.same m;refine ⟨_,rfl,p,x,lY++J1,_,_,_,rfl,Wu (by rw [ao];simp [J1]),Av,k,λg H2 s3=> ?gA,λb=> ?gB⟩
  case gB=>
   rw [Cn] at b;exact (qe j _ (Ke b)).same s2
  rw [Cn] at g;have d:=s2.trans s3;obtain ⟨dx,sl,t1,t2⟩:=k.same s3;have he:=sq (t:=t) (i:=0) (cy _);refine ⟨_,rfl,_,rfl,_,rfl,x,z.CT,dx,_,.int (gN t 0:Int),rfl,t1,T.cT,T.te,G7 _ _ _,a,t,gN t 0,rfl,d.seq u,he,λms B H3 l as s4 nl hl hm=> ?gC,λp' B=> ?gD⟩
  case gD=>
   refine Raised.same (qe j p' ?_) d;rw [xU g];show (dG t.length 8 (toks t (gN t 0))).map _=_;rw [B];rfl
  have ok:mU t= .ok {base:=eE t 0,mods:=ms.reverse}:=by
   rw [xU g];show (dG t.length 8 (toks t (gN t 0))).map _=_;rw [B];rfl
  intro y dy ny nd ne;have L:=d.trans s4;refine ⟨y,dy,l,eE t 0,rfl,ao,λC h1 h2=>⟨rfl,?_⟩⟩;have r:WG H3 C:=WI ny nd h2;refine q j _ ok C y (L.trans r) ⟨dy,l,as,h1,r _ _ hl,?_⟩;show ModsOf C as ms.reverse.reverse;rw [List.reverse_reverse];exact hm.to λ_ _ w=>r _ _ w
end
end Rk
open Rk renaming sAns->WN,c_Array->WO,sFInit->WP,sUBase->WQ,sMay2->WR,sUses0->WS,c_Tally->WT,d_work_each_pair->WU,d_work_of_two->WV,d_tallied_with_two->WW,m_Tally_add_one->WX,Df->WY,shapedL->W_,eqvL->X0,FunAt->X2
open Rk.Same renaming upd->WZ
namespace L2
open PySem PySem.Spec PyProof.Rows
open PySem.W (WData Codec OpenSpec)
def JG:∀{u:al} {x:V},DQ u=some x->RelV x u:=by
 intro u x h;cases u<;>first | (cases h;first | exact rfl | exact ⟨_,rfl⟩) | cases h
theorem CM:∀(us:List al) (xs:List V),us.map DQ=xs.map some->Wn xs us
 | [],[],_=> .nil
 | [],_::_,h=>by cases h
 | _::_,[],h=>by cases h
 | u::us,x::xs,h=>by
  injection h with b a;exact .cons (JG b) (CM us xs a)
def cxe_none {P:be} {w:bN} (H:Hp) (s:aK) (e:al) (s':aK) (h:CXE P w [] H s (λ_ _ _=>False) e s'):False:=by
 obtain ⟨_,_,_,_,_,_,_,_,_,_,_,_,_,_,_,q⟩:=h;exact q
end L2
namespace Rk
open PySem PySem.Spec PyProof.Rows L2 Rx
def df_mk {K:ac} {h:cz} {mg:Str->Option al} {x:Str} {st:dm} {ps:List Str} {f:af} {m:al} {j g:Option af} {i:Array (Option al)} {kV b d cdv e:al} (X:K.In h) (G:h.Ns ax mg)
  (a:aj K ax x=some (some (.ref f))) (l:K.lookup f=some ⟨m,j,.func (bM x x (dH st) (dB st) (aA st) .none kV b d g cdv e),i⟩) (c:cv K cdv x=true) (k:bq K (.ref f)=true)
  (n:∀(kV b d:al) (g:Option af) (cdv e:al) (us:List al),us.length=ps.length->A8 (bM x x (dH st) (dB st) (aA st) .none kV b d g cdv e) ⟨us,[]⟩=pure (ps.zip us)):
  Df K mg x st ps f (bM x x (dH st) (dB st) (aA st) .none kV b d g cdv e):=⟨qb l c k,(qb l c k).binds n,bo X G a⟩
def BH {K:ac} {a:af} {xs:List V} {d:Option af} {b:Array al} {n:Nat} {c:Array (Option al)} (l:K.lookup a=some ⟨.type "tuple",d,.seq b n,c⟩) (hz:b.size<=1000) (h:b.toList.map DQ=xs.map some):∀H,SqT K H a xs:=
 λH=> .inr ⟨_,b,n,l,rfl,rfl,ii (jx hz),CM _ _ h⟩
def I_ {ns:List Int} (h:∀x∈ns,0<=x/\x<=255):tU ns=some (ns.map λb=>b.toNat):=by
 unfold tU;have e:MB ns=true:=by
  unfold MB;rw [eU];intro x a;rw [dS];exact ⟨decide_eq_true (h x a).1,decide_eq_true (h x a).2⟩
 rw [if_pos e]
def tv_ints {ns:List Int} (h:∀x∈ns,0<=x/\x<=255):tv (ns.map λb=>b.toNat)=ns.map Wv:=by
 show ((ns.map λb=>b.toNat).map λ(n:Nat)=>Wv (n:Int))=_;rw [gu];refine g_ λx a=> ?_;show Wv ((x.toNat:Nat):Int)=Wv x;rw [Nk (h x a).1]
def Reads (K:ac) (mg:Str->Option al):Prop:=∃(z:Adr) (d:af) (a:ip) (e:af) (c:ip),Txt K mg z/\Df K mg "read_function" Aj ["text"] d a/\Df K mg "bytes_of" oK ["name"] e c/\
 ∀(P:be) (w:bN) (b:cz),Wz P w K mg b (CXE P w) 7 d a ["text"] (BK z K)
set_option maxHeartbeats 2000000 in
def read_mk {K:ac} {h:cz} {mg:Str->Option al} (X:K.In h) (G:h.Ns ax mg)
  {g o f e c d u r p q t s:af}
  {i9 qL i8 qN:Str} {w0 v9:List al} {b9 b8:List Str} {U Q:List al} {z8 z7:Bool} {b2 b1:Option Bool} {p0 o9:Option af} {o6 o4 o2 o0 n8 o5 o3 o1 n9 n7:Option al}
  (eL:aj K ax "TooLong"=some (some (.ref g))) (lL:K.lookup g=some (iZ i9 qL g o w0 QL true b9 U z8 b2 p0 o6 o4 o2 o0 n8 "Exception.__new__")) (oL:uV K o=true) (pL:bq K (.ref g)=true) (iL:aj K o "__init__"=some none)
  (eN:aj K ax "NoFunction"=some (some (.ref f))) (lN:K.lookup f=some (iZ i8 qN f e v9 QL true b8 Q z7 b1 o9 o5 o3 o1 n9 n7 "Exception.__new__")) (oN:uV K e=true) (pN:bq K (.ref f)=true)
  (n1:aj K e "place"=some none) (n2:aj K e "__setattr__"=some none) (n3:aj K e "__getattribute__"=some none) (n4:aj K e "__getattr__"=some none) (ne:g≠f)
  {fX:af} {g5 x3:Option af} {c0:Array (Option al)} {l2 q9 e5 z u2:al}
  (aX:aj K e "__init__"=some (some (.ref fX))) (lX:K.lookup fX=some ⟨.type "function",g5,.func (bM "__init__" "NoFunction.__init__" (dH um) (dB um) (aA um) .none l2 q9 e5 x3 z u2),c0⟩) (cX:cv K z "NoFunction.__init__"=true) (kX:bq K (.ref fX)=true)
  (eT:aj K ax "Token"=some (some (.ref c))) (f9:iV K c JT=true) (o7:jF K c=true) (e0:mG K c=true) (d8:cM K (.ref c) "__setattr__"=some (some (.builtin "object.__setattr__"))) (k5:oQ K c=true) (k7:bq K (.ref c)=true)
  (t1:cM K (.ref c) "begin"=some none) (t2:cM K (.ref c) "spelling"=some none) (t3:cM K (.ref c) "end"=some none)
  {fI:af} {h8:al} {g7 x5:Option af} {d1:Array (Option al)} {l4 r7 e7 B u4:al}
  (aI:cM K (.ref c) "__init__"=some (some (.ref fI))) (iI:mH K (.ref fI)=true) (lI:K.lookup fI=some ⟨h8,g7,.func (bM "__init__" "Token.__init__" (dH uo) (dB uo) (aA uo) .none l4 r7 e7 x5 B u4),d1⟩) (cI:cv K B "Token.__init__"=true) (kI:bq K (.ref fI)=true)
  (eF:aj K ax "Function"=some (some (.ref d))) (g0:iV K d JT=true) (o8:jF K d=true) (e1:mG K d=true) (d9:cM K (.ref d) "__setattr__"=some (some (.builtin "object.__setattr__"))) (k6:oQ K d=true) (k8:bq K (.ref d)=true)
  (f1:cM K (.ref d) "base"=some none) (f2:cM K (.ref d) "modifiers"=some none)
  {fJ:af} {h7:al} {g6 x4:Option af} {d0:Array (Option al)} {l3 r0 e6 A u3:al}
  (aJ:cM K (.ref d) "__init__"=some (some (.ref fJ))) (iJ:mH K (.ref fJ)=true) (lJ:K.lookup fJ=some ⟨h7,g6,.func (bM "__init__" "Function.__init__" (dH WP) (dB WP) (aA WP) .none l3 r0 e6 x4 A u3),d0⟩) (cJ:cv K A "Function.__init__"=true) (kJ:bq K (.ref fJ)=true)
  {b5 b6 b4 b3 b7:Tok} (v1:aj K ax "LONG"=some (some (.int (-21) b5))) (v2:aj K ax "COLON"=some (some (.int 58 b6))) (v3:aj K ax "MOST_BYTES"=some (some (.int 256 b4))) (v4:aj K ax "MOST_MODIFIERS"=some (some (.int 8 b3))) (v5:aj K ax "AT"=some (some (.str ":at" b7)))
  {h3 h2 h1 h0 g9 g8:Option af} {n m l k j i:Array al} {k4 k3 k2 k1 k0 j0:Nat} {d7 d6 d5 d4 d3 d2:Array (Option al)}
  (q1:aj K ax "BLANKS"=some (some (.ref u))) (r1:K.lookup u=some ⟨.type "tuple",h3,.seq n k4,d7⟩) (z1:n.size<=1000) (y1:n.toList.map DQ=(tv [32,9,10,13]).map some)
  (q2:aj K ax "SIGNS"=some (some (.ref r))) (r2:K.lookup r=some ⟨.type "tuple",h2,.seq m k3,d6⟩) (z2:m.size<=1000) (y2:m.toList.map DQ=(lY.map Ww).map some)
  (q6:aj K ax "WORDS_OF_TWO"=some (some (.ref q))) (r6:K.lookup q=some ⟨.type "tuple",g8,.seq i j0,d2⟩) (z6:i.size<=1000) (y6:i.toList.map DQ=(Ie.map Ww).map some)
  (q3:aj K ax "WORDS_OF_ONE"=some (some (.ref p))) (r3:K.lookup p=some ⟨.type "tuple",h1,.seq l k2,d5⟩) (z3:l.size<=1000) (y3:l.toList.map DQ=(vQ.map Ww).map some)
  (q4:aj K ax "MODIFIER_WORDS"=some (some (.ref t))) (r4:K.lookup t=some ⟨.type "tuple",h0,.seq k k1,d4⟩) (z4:k.size<=1000) (y4:k.toList.map DQ=(MJ.map Ww).map some)
  (q5:aj K ax "RANK_DIGITS"=some (some (.ref s))) (r5:K.lookup s=some ⟨.type "tuple",g9,.seq j k0,d3⟩) (z5:j.size<=1000) (y5:j.toList.map DQ=(EU.map Ww).map some)
  (g1:aj K ax "len"=some none) (g2:aj K ax "ord"=some none) (g3:aj K ax "int"=some none) (g4:aj K ax "Exception"=some none)
  {p1 p2 p3 p4 p5 p6 p7 p8 p9 pa pb pc:af} {i7 i6 i5 i4 i3 i2 i1 i0 h9 h6 h5 h4:al} {b0 a9 a8 a7 a6 a5 a4 a3 a2 a1 a0 Y z0 y9 y8 y7 y0 x9 x8 x7 x6 x2 x1 x0:Option af}
  {s1 s2 s3 s4 s5 s6 s7 s8 s9 sa sb sc:Array (Option al)} {n6 t8 f8 N v8 n5 t7 f7 M v7 n0 t6 f6 L v6 m0 t5 f5 J v0 l9 t4 f4 I u9 l8 t0 f3 H u8 l7 s0 f0 E u7 l6 r9 e9 D u6 l5 r8 e8 C u5 l1 q8 e4 y u1 l0 q7 e3 x u0 k9 q0 e2 v t9:al}
  (m1:aj K ax "bytes_of"=some (some (.ref p1))) (j1:K.lookup p1=some ⟨i7,b0,.func (bM "bytes_of" "bytes_of" (dH oK) (dB oK) (aA oK) .none n6 t8 f8 z0 N v8),s1⟩) (c1:cv K N "bytes_of"=true) (w1:bq K (.ref p1)=true)
  (m2:aj K ax "is_blank"=some (some (.ref p2))) (j2:K.lookup p2=some ⟨i6,a9,.func (bM "is_blank" "is_blank" (dH uq) (dB uq) (aA uq) .none n5 t7 f7 y9 M v7),s2⟩) (c2:cv K M "is_blank"=true) (w2:bq K (.ref p2)=true)
  (m3:aj K ax "is_letter"=some (some (.ref p3))) (j3:K.lookup p3=some ⟨i5,a8,.func (bM "is_letter" "is_letter" (dH nQ) (dB nQ) (aA nQ) .none n0 t6 f6 y8 L v6),s3⟩) (c3:cv K L "is_letter"=true) (w3:bq K (.ref p3)=true)
  (m4:aj K ax "is_digit"=some (some (.ref p4))) (j4:K.lookup p4=some ⟨i4,a7,.func (bM "is_digit" "is_digit" (dH sC) (dB sC) (aA sC) .none m0 t5 f5 y7 J v0),s4⟩) (c4:cv K J "is_digit"=true) (w4:bq K (.ref p4)=true)
  (m5:aj K ax "past_run"=some (some (.ref p5))) (j5:K.lookup p5=some ⟨i3,a6,.func (bM "past_run" "past_run" (dH Ek) (dB Ek) (aA Ek) .none l9 t4 f4 y0 I u9),s5⟩) (c5:cv K I "past_run"=true) (w5:bq K (.ref p5)=true)
  (m6:aj K ax "past_modifier_word"=some (some (.ref p6))) (j6:K.lookup p6=some ⟨i2,a5,.func (bM "past_modifier_word" "past_modifier_word" (dH xK) (dB xK) (aA xK) .none l8 t0 f3 x9 H u8),s6⟩) (c6:cv K H "past_modifier_word"=true) (w6:bq K (.ref p6)=true)
  (m7:aj K ax "past_sign"=some (some (.ref p7))) (j7:K.lookup p7=some ⟨i1,a4,.func (bM "past_sign" "past_sign" (dH xI) (dB xI) (aA xI) .none l7 s0 f0 x8 E u7),s7⟩) (c7:cv K E "past_sign"=true) (w7:bq K (.ref p7)=true)
  (m8:aj K ax "past_token"=some (some (.ref p8))) (j8:K.lookup p8=some ⟨i0,a3,.func (bM "past_token" "past_token" (dH Iy) (dB Iy) (aA Iy) .none l6 r9 e9 x7 D u6),s8⟩) (c8:cv K D "past_token"=true) (w8:bq K (.ref p8)=true)
  (m9:aj K ax "token_from"=some (some (.ref p9))) (j9:K.lookup p9=some ⟨h9,a2,.func (bM "token_from" "token_from" (dH xL) (dB xL) (aA xL) .none l5 r8 e8 x6 C u5),s9⟩) (c9:cv K C "token_from"=true) (w9:bq K (.ref p9)=true)
  (ma:aj K ax "name_among"=some (some (.ref pa))) (ja:K.lookup pa=some ⟨h6,a1,.func (bM "name_among" "name_among" (dH xJ) (dB xJ) (aA xJ) .none l1 q8 e4 x2 y u1),sa⟩) (ca:cv K y "name_among"=true) (wa:bq K (.ref pa)=true)
  (mb:aj K ax "read_modifiers"=some (some (.ref pb))) (jb:K.lookup pb=some ⟨h5,a0,.func (bM "read_modifiers" "read_modifiers" (dH Ak) (dB Ak) (aA Ak) .none l0 q7 e3 x1 x u0),sb⟩) (cb:cv K x "read_modifiers"=true) (wb:bq K (.ref pb)=true)
  (mc:aj K ax "read_function"=some (some (.ref pc))) (jc:K.lookup pc=some ⟨h4,Y,.func (bM "read_function" "read_function" (dH Aj) (dB Aj) (aA Aj) .none k9 q0 e2 x0 v t9),sc⟩) (cc:cv K v "read_function"=true) (wc:bq K (.ref pc)=true):
  Reads K mg:=by
 have T:Txt K mg ⟨g,o,f,e,c,d,u,r,p,q,t,s⟩:=⟨⟨⟨_,_,_,_,_,_,_,_,_,_,_,_,_,lL⟩,oL,pL⟩,⟨⟨_,_,_,_,_,_,_,_,_,_,_,_,_,lN⟩,oN,pN⟩,ne,iL,n1,n2,n3,n4,bo X G eL,bo X G eN,lG X G g4,
  bo X G eT,⟨f9,o7,e0,d8⟩,t1,t2,t3,bo X G eF,⟨g0,o8,e1,d9⟩,f1,f2,⟨_,bo X G v1⟩,⟨_,bo X G v2⟩,⟨_,bo X G v3⟩,⟨_,bo X G v4⟩,⟨_,bo X G v5⟩,
  bo X G q1,BH r1 z1 y1,bo X G q2,BH r2 z2 y2,bo X G q3,BH r3 z3 y3,bo X G q6,BH r6 z6 y6,bo X G q4,BH r4 z4 y4,bo X G q5,BH r5 z5 y5,lG X G g1,lG X G g2,lG X G g3⟩
 have D1:=df_mk (st:=oK) (ps:=["name"]) X G m1 j1 c1 w1 λ_ _ _ _ _ _ a b=>match a,b with | [_],_=>rfl
 have D2:=df_mk (st:=uq) (ps:=["byte"]) X G m2 j2 c2 w2 λ_ _ _ _ _ _ a b=>match a,b with | [_],_=>rfl
 have D3:=df_mk (st:=nQ) (ps:=["byte"]) X G m3 j3 c3 w3 λ_ _ _ _ _ _ a b=>match a,b with | [_],_=>rfl
 have D4:=df_mk (st:=sC) (ps:=["byte"]) X G m4 j4 c4 w4 λ_ _ _ _ _ _ a b=>match a,b with | [_],_=>rfl
 have D5:=df_mk (st:=Ek) (ps:=["text","place","belongs"]) X G m5 j5 c5 w5 λ_ _ _ _ _ _ a b=>match a,b with | [_,_,_],_=>rfl
 have D6:=df_mk (st:=xK) (ps:=["text","place"]) X G m6 j6 c6 w6 λ_ _ _ _ _ _ a b=>match a,b with | [_,_],_=>rfl
 have D7:=df_mk (st:=xI) (ps:=["text","place"]) X G m7 j7 c7 w7 λ_ _ _ _ _ _ a b=>match a,b with | [_,_],_=>rfl
 have D8:=df_mk (st:=Iy) (ps:=["text","place"]) X G m8 j8 c8 w8 λ_ _ _ _ _ _ a b=>match a,b with | [_,_],_=>rfl
 have D9:=df_mk (st:=xL) (ps:=["text","place"]) X G m9 j9 c9 w9 λ_ _ _ _ _ _ a b=>match a,b with | [_,_],_=>rfl
 have Da:=df_mk (st:=xJ) (ps:=["names","token"]) X G ma ja ca wa λ_ _ _ _ _ _ a b=>match a,b with | [_,_],_=>rfl
 have Db:=df_mk (st:=Ak) (ps:=["text","place"]) X G mb jb cb wb λ_ _ _ _ _ _ a b=>match a,b with | [_,_],_=>rfl
 have Dc:=df_mk (st:=Aj) (ps:=["text"]) X G mc jc cc wc λ_ _ _ _ _ _ a b=>match a,b with | [_],_=>rfl
 have FX:=qb (st:=um) lX cX kX;have bX:=FX.binds (ps:=["self","place"]) λ_ _ _ _ _ _ a b=>match a,b with | [_,_],_=>rfl
 have FI:=qb (st:=uo) lI cI kI;have bI:=FI.binds (ps:=["self","begin","spelling"]) λ_ _ _ _ _ _ a b=>match a,b with | [_,_,_],_=>rfl
 have FJ:=qb (st:=WP) lJ cJ kJ;have bJ:=FJ.binds (ps:=["self","base","modifiers"]) λ_ _ _ _ _ _ a b=>match a,b with | [_,_,_],_=>rfl
 have O:DX K ⟨g,o,f,e,c,d,u,r,p,q,t,s⟩ fX _:=⟨FX,bX,aX,⟨_,lX,rfl⟩⟩
 refine ⟨⟨g,o,f,e,c,d,u,r,p,q,t,s⟩,pc,_,p1,_,T,Dc,D1,λP w base=> ?_⟩;have GF:=Lk (P:=P) (w:=w) (base:=base) D9.fn T D5 D2 D8 ⟨k5,aI,iI,k7⟩ FI bI D3 D4 D6 D7 D1;have GN:=Lg (P:=P) (w:=w) (base:=base) Da.fn T D1 O;have GM:=Li (P:=P) (w:=w) (base:=base) Db.fn T D9 GF Da GN O;exact Lf Dc.fn T D9 GF Da GN Db GM ⟨k6,aJ,iJ,k8⟩ FJ bJ
open Vaarrc (Mod readMods readFun modText plainText)
def IH:Mod->Bool
 | .at_ k=>decide (k<=5)
 | _=>true
theorem wM(whole):∀(n:Nat) (c:PF) (ms:List Mod),dG whole n c= .ok ms->ms.length<=n/\∀m∈ms,IH m=true
 | 0,c,ms,h=>by
  unfold dG at h;split at h
  ·cases h;exact ⟨aO _,λm b=>by cases b⟩
  ·cases h
 | n+1,c,ms,h=>by
  have a:∀(m:Mod) (r:PF),IH m=true->((dG whole n r).map λl=>m::l)= .ok ms->ms.length<=n+1/\∀m∈ms,IH m=true:=λm r b e=>by
   cases q:dG whole n r with
   | error p=>rw [q] at e;cases e
   | ok l=>
    rw [q] at e;have s:m::l=ms:=jo e;subst s;obtain ⟨k,j⟩:=wM whole n r l q;exact ⟨Nat.succ_le_succ k,λx i=>(aH.mp i).elim (λy=>by rw [y];exact b) (j x)⟩
  unfold dG at h;split at h
  ·cases h;exact ⟨cy _,λm b=>by cases b⟩
  ·split at h
   ·rename_i g p w r f t;have o:g=n:=by first | omega | exact (sf f).symm | exact sf f
    subst o;split at h
    ·exact a _ _ rfl h
    ·split at h
     ·exact a _ _ rfl h
     ·split at h
      ·exact a _ _ rfl h
      ·split at h
       ·exact a _ _ rfl h
       ·split at h
        ·split at h
         ·split at h
          ·rename_i d q u;exact a (.at_ (d - 48)) q (decide_eq_true (show d - 48<=5 by omega)) h
          ·cases h
         ·cases h
        ·cases h
   ·cases h
def zu{t:List Nat}(h:mU t= .ok f):f.base∈hJ/\f.mods.length<=8/\∀m∈f.mods,IH m=true:=by
 by_cases a:eE t 0∈hJ
 ·rw [xU a] at h;cases q:dG t.length RD (toks t (gN t 0)) with
  | error p=>rw [q] at h;cases h
  | ok l=>
   rw [q] at h;have e:({base:=eE t 0,mods:=l.reverse}:Ec)=f:=jo h;subst e;obtain ⟨d,c⟩:=wM _ _ _ _ q;exact ⟨a,by rw [xp];exact d,λm b=>c m (tR.mp b)⟩
 ·rw [Ke a] at h;cases h
end Rk
open Rk renaming df_mk->X3
namespace L2
open PySem PySem.Spec PyProof.Rows Rx
open PySem.W (CodeHd tabObj kla_obj kla_fn FnAt envX)
theorem ri{h b c:cz}:∀{l:List Env},h.FunFrames b l->(∀L∈tT l,c.get? L=none)->h.FunFrames c l
 | [],_,_=>trivial
 | env::r,⟨j,⟨L,o,a,q,g,m⟩,d⟩,k=>⟨j,⟨L,o,a,k L (by unfold tT;rw [jd,a];exact ar),g,m⟩,
   ri d λM n=>k M (by unfold tT;rw [jd,a];exact au _ n)⟩
structure Reb (X:Cx) (H:Hp) (s:aK) (b':cz):Prop where
 env:Env0 X.prog X.w X.K X.mg b' X.A X.stack s H
 old:∀b o,X.base.get? b=some o→b'.get? b=some o
 has:∀b o,s.heap.get? b=some o→H b=none→b≠X.env.locals→b∉X.fs→b∉X.ex→b'.get? b=some o
section
variable {X:Cx} {pins:List (af×Obj)} {σ:St} {H:Hp} {s:aK}
def Inv.reb(I:Inv X pins σ H s):∃D,Reb X H s D:=by
 have c:∀b o,s.heap.get? b=some o->H b=none->b≠X.env.locals->b∉X.fs->b∉X.ex->
   (A_ s.heap (Qr s.heap H++(X.env.locals::(X.fs++X.ex)))).get? b=some o:=λb o e n l j h=>by
  refine JS _ e λd=> ?_;rcases bV.mp d with z | z
  ·have q:(H b).isSome=true:=(lR.mp z).2;rw [n] at q;cases q
  ·rcases aH.mp z with z | z
   ·exact l z
   ·rcases bV.mp z with z | z
    ·exact j z
    ·exact h z
 have a:∀b o,X.base.get? b=some o->(A_ s.heap (Qr s.heap H++(X.env.locals::(X.fs++X.ex)))).get? b=some o:=λb o e=>
  c b o (I.bs b o e).1 (I.bs b o e).2 (λz=>by
   have g:=aZ e;have u:=I.ok.bsz;have r:=I.ok.above;rw [z] at g;exact absurd (bZ g (cD u r)) (eW _)) (I.ok.nofr e) (I.ok.noex b o e)
 refine ⟨_,⟨I.ok.frames,⟨I.mod.kin.keeps a,I.mod.glob.keeps a,?_,I.mod.nolimit.keeps a⟩,λb o e=>⟨xi _ e,?_⟩,nL (JN _ _),ri I.stack λL v=> ?_,I.stkFree,I.hok,I.bare⟩,a,c⟩
 ·obtain ⟨m,B,y⟩:=I.mod.blt;exact ⟨m,B.keeps a,y⟩
 ·cases q:H b with
  | none=>rfl
  | some x=>
   have C:s.heap.get? b=some o:=xi _ e;have d:b∈Qr s.heap H++(X.env.locals::(X.fs++X.ex)):=gh _ (lR.mpr ⟨kH.mpr (aZ C),by simp [q]⟩);rw [uY _ d] at e;cases e
 ·refine uY _ (du _ ?_);rcases aH.mp (I.stkSub L v) with z | z
  ·rw [z];exact ar
  ·exact au _ (gh _ z)
def Reb.cell(R:Reb X H s j)(I:Inv X pins σ H s)(d:X.ex=[])(b:∀x,X.fn x=true)(e:X.env.cells.lookup x=some c)(z:s.heap.IsCell c v):j.IsCell c v:=by
 obtain ⟨o,g,h⟩:=id z;refine ⟨o,R.has c o g (I.freeC x c e) (I.cne x c e) (λy=> ?_) (by rw [d];simp),h⟩;obtain ⟨_,l,a,_⟩:=I.ok.funs.mem y;exact absurd (bZ (aZ a) (I.ok.cab x c (b x) e)) (eW _)
section
variable {CX:AK} {k:Nat} {f:af} {fd:ip} {ps:List Str} {sp:Sp} {dvs:List V} {ds:List al} {E:XK}
def Bh(F:Wz X.prog X.w X.K X.mg q CX k f fd ps sp)(o:Env0 X.prog X.w X.K X.mg q X.A X.stack s H)(g:Wy k X.A)(m:Binds X.K fd ps ds)(l:Wn dvs ds)(d:ge CX X E)(I:Inv X pins σ H s)(r:Wn vs us)(h:sp (vs++dvs) H Q E):bj (bP X.prog X.w) X.A (DZ (.ref f) us) (EP X pins σ Q) X.xe s:=by
 have b:Wn (vs++dvs) (us++ds):=r.append l;have j:(us++ds).length=ps.length:=by rw [<-b.length];exact F.len _ _ _ _ h
 refine DV (rZ (F.run X.A X.stack s H ⟨us,[]⟩ (us++ds) (vs++dvs) Q E g o (m s us I.kIn j) b h) λr c a=> ?_);cases r with
 | error e=>exact d pins σ H s e c I a
 | ok n=>
  cases n with
  | ret u=>exact I.after a
  | next=>exact dn a
  | brk=>exact dn a
  | cont=>exact dn a
end
end
def Pw (CX:AK) (P:be) (w:bN) (K:ac) (mg:Str->Option al) (base:cz) (N:List Str) (fn:Str->Bool) (env:Env) (A:gt) (outer:List Env) (s:aK) (H:Hp) (E:XK):Cx where
 prog:=P
 w:=w
 K:=K
 mg:=mg
 base:=base
 A:=A.deeper env
 N:=N
 s_0:=s
 H_0:=H
 env:=env
 outer:=outer
 stack:=env::outer
 ex:=[]
 calm:=true
 fn:=fn
 pn:=[]
 xe:=λe b=>bj (bP P w) (A.deeper env) (qj env e) (λ_ a=>CX outer H s E e a) (λc a=>CX outer H s E c a) b
section
variable {P:be} {w:bN} {K:ac} {mg:Str→Option al} {base:cz} {N:List Str} {fn:Str→Bool} {env:Env} {A:gt} {outer:List Env} {s0:aK} {H0:Hp} {E:XK}
def M9(G:env.frame=some env.locals):ge (CXE P w) (Pw (CXE P w) P w K mg base N fn env A outer s0 H0 E) E:=by
 intro pins σ H s U s' I h;obtain ⟨e,C,M,T,Q,rfl,os,a,B,c,r,D,v,J,L,q⟩:=h;have d:=I.call' (s':=s') (ch:=[]) os B c a (λb z=>absurd z (by simp));show bj _ _ (qj _ (.ref e)) _ _ s';refine BA (base:=base) (outer:=outer) d.ok.frames d.stack G L λg O u j n=> ?_;have m:∀b∈[e,T],s0.heap.get? b=none:=λb l=>by
  rcases aH.mp l with z | z
  ·rw [z];exact iT I rfl r
  ·rw [aL.mp z];exact iT I rfl D
 refine ⟨e,C,M,O,Q,rfl,os.trans I.os,a,WL (H0:=H0) (h0:=s0.heap) d.base u (λb o z y=>rV d.ok z y) m,c.moved u d.stkFree (λb l=> ?_),iT I rfl r,iT d rfl j,v,c.gone j,n,q⟩;rcases aH.mp l with z | z
 ·rw [z];exact v
 ·rw [aL.mp z];exact J
end
structure CloSc (N ps fr:List Str) (sc:i_):Prop where
 kind:sc.kind= .function
 co:sc.isCoroutine=false
 gen:sc.isGenerator=false
 nd:N.Nodup
 pre:N.take ps.length=ps
 mid:(N.drop ps.length).take fr.length=fr
 par:∀x∈ps,sc.names.lookup x=some .local
 nocell:∀y∈sc.names,y.2≠.cell
 free:∀y,sc.names.lookup y=some .free→y∈fr
 fre:∀x∈fr,sc.names.lookup x=some .free
structure CloC (base:cz) (cl:List (Str×af)) (fr:List Str) (fvs:List V):Prop where
 len:fvs.length=fr.length
 at_:∀(j:Nat) (x:Str),fr[j]? =some x→∃c u v,cl.lookup x=some c∧base.IsCell c (some u)∧fvs[j]? =some v∧RelV v u
 all:∀x c,cl.lookup x=some c→∃v,base.IsCell c v
 inj:∀x y c,cl.lookup x=some c→cl.lookup y=some c→x=y
def pY(N:List Str)(vs fvs:List V):St:=vs.map some++(fvs.map some++aG (N.length - vs.length - fvs.length) none)
theorem wU:∀{ps:List Str} {us:List al} {i:Nat},ps.Nodup->ps[i]? =some x->us[i]? =some v->(ps.zip us).reverse.lookup x=some v
 | [],_,_,_,h,_=>by simp at h
 | _::_,[],_,_,_,h=>by simp at h
 | p::ps,u::us,0,a,c,b=>by
  simp at c b;subst c;subst b;rw [fu,nj,Ni];have e:(ps.zip us).reverse.lookup p=none:=by
   rw [List.lookup_eq_none_iff];intro q g;have d:=tR.mp g;have:q.1∈ps:=(gS (show (q.1,q.2)∈ps.zip us from d)).1;rw [bne_iff_ne];intro z;rw [z] at a;exact (jH.mp a).1 this
  rw [e];simp
 | p::ps,u::us,i+1,a,c,b=>by
  rw [fu,nj,Ni,wU (i:=i) (jH.mp a).2 (by simpa using c) (by simpa using b)];rfl
section
variable {CX:AK} {P:be} {w:bN} {K:ac} {mg:Str→Option al} {base:cz} {k:Nat} {f:af} {name qual:Str} {params:kG} {scope:i_} {cl:List (Str×af)} {pm cdv ctv:al} {N ps fr:List Str} {fvs:List V} {sp:Sp}
def tj(S:CloSc N ps fr scope)(C:CloC base cl fr fvs)(I:A.handled=none)(g:Env0 P w K mg base A outer s H)(hl:vs.length=ps.length)(r:Wn vs us)(M:l.Ns s.heap.objs.size (λy=>(ps.zip us).reverse.lookup y))(G:∀b o,s.heap.get? b=some o->l.get? b=some o):
  Inv (Pw CX P w K mg base N (λ_=>false) (OT qual scope s.heap.objs.size f cdv cl) A outer s H E) [] (pY N vs fvs) H {s with heap:=l,toks:=t'}:=by
 have a0:ps.length<=N.length:=by have:=congrArg oU S.pre;rw [bQ] at this;omega
 have a1:ps.length+fr.length<=N.length:=by have:=congrArg oU S.mid;rw [bQ,bK] at this;omega
 have q:∀b:af,b∉(Pw CX P w K mg base N (λ_=>false) (OT qual scope s.heap.objs.size f cdv cl) A outer s H E).ex:=λb z=>absurd (show b∈([]:List af) from z) (by simp);have T:∀{c:af} {v:Option al},base.IsCell c v->l.IsCell c v:=λ{c v} ⟨o,D,I⟩=>⟨o,G _ _ (g.bs _ _ D).1,I⟩
 refine ⟨⟨g.mod,S.kind,rfl,rfl,aO _,λy z c l d=>C.inj y z c l d,λy m=> ?_,(λy c z _=>by cases z),λ_=>I,JW g.frames,.inr ⟨rfl,rfl⟩,λb z=>absurd z (q b),g.bs,g.bsz,λb _ _=>q b,λb z=>absurd z (q b),g.funs,g.frf⟩,
  rfl,g.bare,Un.kept G,⟨_,M,λi y v l d h3=> ?_⟩,λy c h=> ?_,g.hok.fresh (aO _),λy c h=> ?_,λp n=>absurd (show p∈([]:List (af×Obj)) from n) (by simp),g.hok.kept G,?_⟩
 ·have m:scope.names.lookup y=some .cell\/scope.names.lookup y=some .free:=m;rcases m with m | m
  ·exact absurd rfl (S.nocell _ (cG m))
  ·obtain ⟨j,B⟩:=wH (S.free y m);obtain ⟨c,_,_,e,_⟩:=C.at_ j y B;exact ⟨c,e⟩
 ·by_cases O:i<vs.length
  ·have J:vs[i]? =some v:=by
    unfold pY at d;rw [ln (by simpa using O),bW] at d;cases e:vs[i]? with
    | none=>rw [e] at d;cases d
    | some a=>rw [e] at d;cases d;rfl
   obtain ⟨u,Y,U⟩:=r.get J;have n:ps[i]? =some y:=by
    rw [<-S.pre,sj (by omega)];exact l
   have L:ps.Nodup:=by rw [<-S.pre];exact S.nd.sublist (OY _ _)
   exact ⟨u,U,.inl ⟨S.par y (bD n),wU L n Y⟩⟩
  ·unfold pY at d;rw [iw (by simpa using O),am] at d;by_cases B:i - vs.length<fvs.length
   ·have J:fvs[i - vs.length]? =some v:=by
     rw [ln (by simpa using B),bW] at d;cases e:fvs[i - vs.length]? with
     | none=>rw [e] at d;cases d
     | some a=>rw [e] at d;cases d;rfl
    have n:fr[i - vs.length]? =some y:=by
     rw [<-S.mid,sj (by rw [<-C.len];exact B),List.getElem?_drop,<-hl];have e:vs.length+(i - vs.length)=i:=by omega
     rw [e];exact l
    obtain ⟨c,u,v',e1,e2,Q,e4⟩:=C.at_ _ y n;rw [J] at Q;cases Q;exact ⟨u,e4,.inr ⟨.inr (S.fre y (bD n)),c,e1,T e2⟩⟩
   ·rw [iw (by simpa using B),mJ] at d;split at d<;>cases d
 ·obtain ⟨v,z⟩:=C.all y c h;exact ⟨v,T z⟩
 ·obtain ⟨v,o,D,_⟩:=C.all y c h;exact (g.bs _ _ D).2
 ·unfold pY;show _=N.length;rw [bp,bp,am,am,bU];have:=C.len;omega
def Ow(ho:base.get? f=some (tZ name qual params a scope cl pm d ctv))(B:base.CodeRec (.ref d) qual)(S:CloSc N ps fr scope)(C:CloC base cl fr fvs)(len:∀vs H Q E,sp vs H Q E->vs.length=ps.length)(c:∀(A:gt) (outer:List Env) (s:aK) (H:Hp) (vs:List V) (Q:VK) (E:XK),Wy k (A.deeper (OT qual scope s.heap.objs.size f (.ref d) cl))->sp vs H Q E->
   ∃t,PE (Pw CX P w K mg base N (λ_=>false) (OT qual scope s.heap.objs.size f (.ref d) cl) A outer s H E) a t/\t (pY N vs fvs) H Q):
  Wz P w K mg base CX (k+1) f (kla_fn name qual params a scope cl pm (.ref d) ctv) ps sp:=by
 refine ⟨len,λA outer s H D G vs Q E l g hb r h=> ?_⟩;have hl:=len _ _ _ _ h;have m:s.heap.NoLimit:=g.mod.nolimit.keeps λb o e=>(g.bs b o e).1;refine JM l.depth (g.bs _ _ ho).1 rfl S.co S.gen rfl (B.keeps λb o e=>(g.bs b o e).1) (hb _ _ _ _ ?_);refine A5 S.nocell (λ⟨n,v⟩ O=>S.par n (gS O).1) (λh1 y j=>⟨m.fresh _ j,?_⟩) S.kind;have hk:∀b o,s.heap.get? b=some o->h1.get? b=some o:=λb o e=>j.extBut b o (cu (aZ e)) (aq _ e);obtain ⟨t,T,Y⟩:=c A outer s H vs Q E (l.deeper _) h;have I:=tj (CX:=CX) (qual:=qual) (f:=f) (cdv:= .ref d) (E:=E) (t':=s.toks+(ps.zip G).length) S C l.hd g hl r y hk;show m_ _ _ (.expr a (OT qual scope s.heap.objs.size f (.ref d) cl)) _ _;refine JL (ft (T [] _ (pY N vs fvs) H Q I Y) (λu L z=> ?_) λe L U=>U);obtain ⟨v,H',J,M,q⟩:=z;exact ⟨v,H',J.os,J.bare,J.base,J.hok,M,q⟩
end
section
variable {X:Cx} {CX:AK} {x:Str} {p pos:Pos} {e:eM} {es:List eM} {t:TA} {E:XK} {i:Nat}
def Km(P:be)(w:bN)(K:ac)(mg:Str->Option al)(base:cz)(CX:AK)(k:Nat)(ps:List Str)(E:XK)(i:Nat)(t:TA):TE:=λσ H Q=>∃g sp fd,σ[i]? =some (some (.ref g))/\Wz P w K mg base CX k g fd ps sp/\Binds K fd ps []/\FnAt g base/\t σ H λa b=>sp (a++[]) b Q E
def DJ(z:FnAt g h)(k:∀b o,h.get? b=some o->h'.get? b=some o):FnAt g h':=by
 obtain ⟨d,c,fd,a,e⟩:=z;exact ⟨d,c,fd,a,k _ _ e⟩
def FD(o:Wy k X.A)(y:X.N[i]? =some x)(m:Ms X.env.scope x)(l:ge CX X E)(a:(x==("__debug__":Str))=false:=by decide)(b:(x==("__classdict__":Str))=false:=by decide):
  PE X (.Call (.Name x p) [] [] pos) (Km X.prog X.w X.K X.mg X.base CX k ps E i qo):=by
 intro pins s σ H Q I h;obtain ⟨g,sp,fd,n,F,r,q,h⟩:=h;refine dk (gL (zO y m a b pins s σ H (λv d=>v= .ref g/\d=H) I ⟨_,n,rfl,rfl⟩) λu C ⟨v,d,c,j,z,B⟩=> ?_);subst z B;obtain rfl:u=bO g:=j;exact PySem.W.callWith_F0 (DJ q c.bk) (zI (us:=[]) F o r .nil l c .nil h)
end
def BMain(base:cz)(mg:Str->Option al):Prop:=∃b a,mg "__builtins__"=some (.ref b)/\b≠D_/\b≠ax/\base.get? b=some a/\a.cls= .type "module"/\a.dict=some D_/\a.data= .plain
def BMain.keeps(B:BMain b mg)(k:∀a o,b.get? a=some o->g.get? a=some o):BMain g mg:=
 let ⟨e,d,l,j,i,h,r⟩:=B;⟨e,d,l,j,i,k _ _ h,r⟩
section
variable {X:Cx} {pins:List (af×Obj)} {σ:St} {H:Hp} {s:aK} {c P:af} {ps:Array al}
def Hk(I:Inv X pins σ H s)(a:H P=some (.tbl ps)):s.heap.get? P=some (KO ps):=I.hok P _ a
def Inv.grown(I:Inv X pins σ H s)(i:H P=some (.tbl ps))(k:∀b o,b≠P->s.heap.get? b=some o->h'.get? b=some o)(n:h'.get? P=some (KO (ps++a))):
  Inv X pins σ (upd H P (.tbl (ps++a))) {s with heap:=h',toks:=t'}:=by
 have h:∀b u,H b=some u->u≠.tbl ps->b≠P:=λb u q d z=>by rw [z,i] at q;exact d (bw q).symm
 have neN:∀b,H b=none->b≠P:=λb q z=>by rw [z,i] at q;cases q
 refine I.un ⟨λb o e m _ _=>k b o (neN b m) e,λb o e m _ _=>⟨o.slots,k b o (neN b m) e⟩,λb o _ m _=>by rw [aC (neN b m)];exact m,λb o e _=> ?_,λb j q=>by rw [aC (h b _ q (λz=>nomatch z))];exact q,
  λb o u q=>by rw [aC (h b _ q (λz=>nomatch z))];exact q,λb t q=> ?_⟩ λb o q=> ?_
 ·by_cases z:b=P
  ·rw [z];exact ⟨_,n⟩
  ·exact ⟨o,k b o z e⟩
 ·by_cases z:b=P
  ·subst z;rw [i] at q;cases q;exact ⟨a,ao⟩
  ·exact ⟨#[],by rw [aC z,q];simp⟩
 ·by_cases z:b=P
  ·subst z;rw [ao] at q;cases q;exact n
  ·rw [aC z] at q;refine (I.hok b o q).stay (λg u l e=>k g u ?_ e) (λg r=> ?_) λg j r=> ?_
   ·rcases l with y | y
    ·rw [y];exact z
    ·exact h g _ y (λz=>nomatch z)
   ·rw [aC (h g _ r (λz=>nomatch z))];exact r
   ·rw [aC (h g _ r (λz=>nomatch z))];exact r
variable {E:al→aK→Prop} {Q:al→aK→Prop} {params:kG} {body:eM} {scope:i_} {pos:Pos}
def Me(I:Inv X pins σ H s)(j:X.env.code= .ref c)(C:nH X.base c P)(B:BMain X.base X.mg)(u:H P=some (.tbl ps))(ht:wh ps.toList)(A:iN pos ps.toList=none)(q:KG params X.env=([],[]))(i:∀y∈scope.names,y.2= .free->∃c,X.env.cells.lookup y.1=some c)(h:∀g d a O s',Inv X pins σ (upd H P (.tbl (ps++ #[dL pos.line,dL pos.col,.ref d]))) s'->(∃r vs t,s'.heap.get? d=some r/\r.data= .fields vs/\vs[1]? =some (.str (X.env.qual++"<lambda>") t))->s.heap.objs.size<=d->s.heap.objs.size<=g->
   s'.heap.get? g=some (tZ "<lambda>" (X.env.qual++"<lambda>") params body scope (df X.env.cells scope.names []) O d a)->(∀b o,b≠P->s.heap.get? b=some o->s'.heap.get? b=some o)->Q (.ref g) s'):
  bj (bP X.prog X.w) X.A (eval (.Lambda params body scope pos) X.env) Q E s:=by
 obtain ⟨bm,T,b1,b2,b3,M,b5,b6,b7⟩:=B;have G:=Hk I u;have l:∀b o,X.base.get? b=some o->b≠P:=λb o e z=>by rw [z] at e;rw [(I.bs P o e).2] at u;cases u
 have hg:=I.mod.glob.keeps I.bk;obtain ⟨og,_,_,eg,_⟩:=id I.mod.glob;refine MS q (Es (mg:=X.mg) (jQ i) I.ok.glob hg j (C.keeps I.bk) G ht A (l _ _ eg) ⟨bm,T,b1,b2,b3,l _ _ M,I.bk _ _ M,b5,b6,b7⟩ λd a L N Y m D n v=> ?_);obtain ⟨c2,r,vs,t,e2,w,hd,hv⟩:=n;cases e2;have J:∀b o,b≠P->s.heap.get? b=some o->(L.push (tZ "<lambda>" (X.env.qual++"<lambda>") params body scope (df X.env.cells scope.names []) ((X.mg "__name__").getD .none) d a)).get? b=some o:=λb o U e=>aq _ (Y b o U e);refine h L.objs.size d a _ _ (I.grown (t':=N) u J (aq _ v)) ⟨r,vs,t,aq _ w,hd,hv⟩ m (ii (jA m D)) (bG _ rfl) J
end
section
variable {X:Cx} {CX:AK} {k:Nat} {f c P:af} {fd:ip} {x y:Str} {p pos lpos:Pos} {E:XK} {params:kG} {body:eM} {scope:i_}
structure LamAt (X:Cx) (σ:St) (params:kG) (body:eM) (scope:i_) (b':cz) (g c':af) (pm ctv:al):Prop where
 old:∀b o,X.base.get? b=some o→b'.get? b=some o
 obj:b'.get? g=some (tZ "<lambda>" (X.env.qual++"<lambda>") params body scope (df X.env.cells scope.names []) pm c' ctv)
 code:b'.CodeRec (.ref c') (X.env.qual++"<lambda>")
 cel:∀z c,X.env.cells.lookup z=some c→∃v,b'.IsCell c v
 val:∀(i:Nat) (z:Str) (v:V),X.N[i]? =some z→σ[i]? =some (some v)→(X.env.kindOf z=some .cell∨X.env.kindOf z=some .free)→∃c u,X.env.cells.lookup z=some c∧b'.IsCell c (some u)∧RelV v u
 inj:∀y z c,X.env.cells.lookup y=some c→X.env.cells.lookup z=some c→y=z
def Jb(X:Cx)(CX:AK)(k:Nat)(f:af)(fd:ip)(y:Str)(E:XK)(P:af)(lpos:Pos)(params:kG)(body:eM)(scope:i_):TE:=λσ H Q=>∃ps,H P=some (.tbl ps)/\wh ps.toList/\iN lpos ps.toList=none/\
 ∀(e:cz) (g d:af) (h a:al),LamAt X σ params body scope e g d h a->∃b,Wz X.prog X.w X.K X.mg e CX k f fd [y] b/\b [.ref g] (upd H P (.tbl (ps++ #[dL lpos.line,dL lpos.col,.ref d]))) Q E
def Dm(n:X.env.code= .ref c)(C:nH X.base c P)(B:BMain X.base X.mg)(a:X.ex=[])(r:∀x,X.fn x=true)(hr:Wy k X.A)(hg:Gl X x)(hm:X.mg x=some (.ref f))(hk:bq X.K (.ref f)=true)(J:Binds X.K fd [y] [])(hx:ge CX X E)(l:∀y∈scope.names,y.2= .free->∃c,X.env.cells.lookup y.1=some c)(A:KG params X.env=([],[]):=by rfl)(a0:(x==("__debug__":Str))=false:=by decide):
  PE X (.Call (.Name x p) [.Lambda params body scope lpos] [] pos) (Jb X CX k f fd y E P lpos params body scope):=by
 intro pins s σ H Q I h;obtain ⟨ps,L,ht,T,h⟩:=h;refine dk (oh I hg hm ?_ a0);refine jl (h₀:=X.base) I.ok.mod.kin hk ?_ rfl rfl;show bj _ _ (RZ ((false,eval (.Lambda params body scope lpos) X.env)::fV pos (bx [] X.env))) _ _ s;refine ir ?_;refine Me I n C B L ht T A l λg d w pm s1 j a1 G D Y kp=> ?_;refine rE ⟨j.kIn,?_⟩;obtain ⟨b',R⟩:=j.reb;obtain ⟨oc,vs,t,e1,e2,e3⟩:=a1;have ng:(upd H P (.tbl (ps++ #[dL lpos.line,dL lpos.col,.ref d]))) g=none:=by
  have:=I.hok.fresh D;rw [aC (λz=>by rw [z,L] at this;cases this)];exact this
 have nc:(upd H P (.tbl (ps++ #[dL lpos.line,dL lpos.col,.ref d]))) d=none:=by
  have:=I.hok.fresh G;rw [aC (λz=>by rw [z,L] at this;cases this)];exact this
 have nl:∀b,s.heap.objs.size<=b->b≠X.env.locals:=λb J z=>by
  have:=I.lt;rw [<-z] at this;exact absurd (bZ this J) (eW _)
 have og:=R.has g _ Y ng (nl g D) (I.nofs D) (by rw [a];simp);have O:=R.has d _ e1 nc (nl d G) (I.nofs G) (by rw [a];simp);have LA:LamAt X σ params body scope b' g d pm w:=by
  refine ⟨R.old,og,⟨d,oc,vs,t,rfl,O,e2,e3⟩,λz M e=> ?_,λi z v h1 h2 h3=> ?_,I.ok.inj⟩
  ·obtain ⟨v,hv⟩:=j.cell z M e;exact ⟨v,R.cell j a r e hv⟩
  ·obtain ⟨m,hn,hl⟩:=j.loc;have N:Ms X.env.scope z:=h3.elim (λy=> .inr (.inl y)) λy=> .inr (.inr y);obtain ⟨u,ru,U⟩:=hl i z v h1 h2 N;rcases U with ⟨o,_⟩ | ⟨_,M,e,hc⟩
   ·rcases h3 with y | y<;>rw [y] at o<;>cases o
   ·exact ⟨M,u,e,R.cell j a r e hc,ru⟩
 obtain ⟨sp,F,q⟩:=h b' g d pm w LA;exact Bh (us:=[.ref g]) (vs:=[.ref g]) F R.env hr J .nil hx j (.cons rfl .nil) q
end
theorem qc:∀(names:List (Str×lK)) (acc:List (Str×af)),(df cells names acc).lookup x=some c->acc.lookup x=some c\/((x,dw)∈names/\(cells.lookup x).getD 0=c)
 | [],acc,h=> .inl h
 | (n,k)::r,acc,h=>by
  unfold df at h;by_cases d:(k==dw)=true
  ·rw [if_pos d] at h;have i:k= .free:=by simpa using d
   rcases qc r _ h with z | ⟨b,a⟩
   ·rw [eS] at z;split at z
    ·rename_i e;have g:x=n:=beq_iff_eq.mp e;subst g;exact .inr ⟨by rw [i];exact ar,bw z⟩
    ·exact .inl z
   ·exact .inr ⟨au _ b,a⟩
  ·rw [if_neg d] at h;rcases qc r _ h with z | ⟨b,a⟩
   ·exact .inl z
   ·exact .inr ⟨au _ b,a⟩
theorem yG:∀(names:List (Str×lK)) (acc:List (Str×af)),((x,dw)∈names\/(acc.lookup x).isSome=true)->((df cells names acc).lookup x).isSome=true
 | [],acc,h=>h.elim (λz=>by cases z) λz=>z
 | (n,k)::r,acc,h=>by
  unfold df;by_cases a:(k==dw)=true
  ·rw [if_pos a];refine yG r _ ?_;rcases h with h | h
   ·rcases aH.mp h with z | z
    ·cases z;right;rw [eS,beq_self_eq_true]<;>rfl
    ·exact .inl z
   ·right;rw [eS];split
    ·rfl
    ·exact h
  ·rw [if_neg a];refine yG r _ ?_;rcases h with h | h
   ·rcases aH.mp h with z | z
    ·cases z;exact absurd rfl a
    ·exact .inl z
   ·exact .inr h
def LamAt.clo(L:LamAt X σ params body scope I g N M J)(len:fvs.length=fr.length)(B:∀x∈fr,(x,dw)∈scope.names)(A:∀x,(x,dw)∈scope.names->x∈fr)(l:∀(j:Nat) (x:Str),fr[j]? =some x->∃(i:Nat) (v:V),X.N[i]? =some x/\σ[i]? =some (some v)/\fvs[j]? =some v/\(X.env.kindOf x=some .cell\/X.env.kindOf x=some .free)):
  CloC I (df X.env.cells scope.names []) fr fvs:=by
 have a:∀x c,(df X.env.cells scope.names []).lookup x=some c->X.env.cells.lookup x=some c:=λx c e=>by
  rcases qc _ _ e with z | ⟨w,q⟩
  ·cases z
  ·obtain ⟨j,m⟩:=wH (A x w);obtain ⟨i,v,h,b,_,o⟩:=l j x m;obtain ⟨t,u,n,_⟩:=L.val i x v h b o;rw [n] at q;rw [n];exact congrArg some q
 refine ⟨len,λj x m=> ?_,λx c e=>L.cel x c (a x c e),λx y c h b=>L.inj x y c (a x c h) (a y c b)⟩;obtain ⟨i,v,h,b,G,o⟩:=l j x m;obtain ⟨t,u,n,D,C⟩:=L.val i x v h b o;obtain ⟨d,r⟩:=lz.mp (yG (cells:=X.env.cells) scope.names [] (.inl (B x (bD m))));have:=a x d r;rw [n] at this;cases this;exact ⟨t,u,v,r,D,G,C⟩
structure Kz where
 (x:Str) (C N:af) (p q:Pos) (b:dm) (r:List dm) (t:TS)
def Kz.h(c:Kz):ExceptHandler:= .ExceptHandler (some (.Name c.x c.p)) none (c.b::c.r) c.q
def wZ(n:Nat)(D:Wq):List Kz->XK
 | [],_,_,_=>False
 | c::r,C,a,H=>(C= .ref c.C/\c.t (wW D) (WM n) H)\/(C≠.ref c.C/\wZ n D r C a H)
def Qt(n:Nat)(b:List Kz)(tb:XK->TS):TS:=λD a H=>tb (wZ n D b) D a H
theorem wY:∀{a:List Kz},wZ n D a C dx H->∃c∈a,C= .ref c.C
 | [],h=>h.elim
 | c::r,h=>by
  rcases h with ⟨e,_⟩ | ⟨_,h⟩
  ·exact ⟨c,ar,e⟩
  ·obtain ⟨d,b,e⟩:=wY h;exact ⟨d,au _ b,e⟩
section
variable {X:Cx} {pos:Pos} {body:List dm} {tb:XK→TS} {c0:Kz} {cr:List Kz}
structure KzOk (X:Cx) (c:Kz):Prop where
 xc:XC X.K c.C c.N
 gl:Gl X c.x
 mg:X.mg c.x=some (.ref c.C)
 db:(c.x==("__debug__":Str))=false
 ps:∀(e:af) (pn:List (af×Obj)),HR (X.hd e pn) (c.b::c.r) c.t
def L_(L:X.stack=X.env::X.outer)(b8:X.env.frame=some X.env.locals)(hc:∀c∈c0::cr,KzOk X c)(t:∀(pn:List (af×Obj)) (Ev:al->aK->Prop) (Ex:XK),ge (CXE X.prog X.w) (X.tr pn Ev) Ex->HR (X.tr pn Ev) body (tb Ex)):
  PS X (.Try body ((c0::cr).map Kz.h) [] [] pos) (Qt X.N.length (c0::cr) tb):=by
 intro i s σ H D I h;refine Tn ?_;have PP:ge (CXE X.prog X.w) (X.tr (X.pn++i) (λev U=>bj (bP X.prog X.w) X.A (iK ev X.env) (λ_ s2=>bj (bP X.prog X.w) X.A (AN ev none) (λ_ s3=>
   bj (bP X.prog X.w) X.A (V1 ev X.env ((c0::cr).map Kz.h)) (SP X i D) X.xe s3) X.xe s2) X.xe U)) (wZ X.N.length D (c0::cr)):=by
  intro d0 j H1 U ev s2 l hx;obtain ⟨e,C,dx,T,B,rfl,os,E,un,M,ne,nT,he,hT,fl,q⟩:=hx;obtain ⟨k,gg,dd,Q,Y⟩:=s2;have I2:=l.call' (s':=⟨k,gg,dd,Q,Y⟩) (ch:=[]) os un M E (λb z=>absurd z (by simp));have b5:tT X.stack=(X.env::X.outer).filterMap (·.frame):=by rw [L];rfl
  have b6:X.A.frames=some (X.env::X.outer):=by rw [<-L];exact l.ok.frames
  have b7:k.FunFrames X.base (X.env::X.outer):=by rw [<-L];exact I2.stack
  show bj (bP X.prog X.w) X.A (iK (.ref e) X.env) _ _ _;refine xt (base:=X.base) b6 b7 b8 fl λg1 n b3 a4 c4=> ?_;have d5:U.heap.get? n=none:=by
   cases z:U.heap.get? n with
   | none=>rfl
   | some o=>
    obtain ⟨o',y⟩:=un.there n o z (by simp);have N:k.get? n=none:=a4;have y':k.get? n=some o':=y;rw [N] at y';cases y'
  have c7:∀b∈[e,T,n],U.heap.get? b=none:=λb t=>by
   simp only [aH,et,or_false] at t;rcases t with z | z | z<;>rw [z]<;>assumption
  have f9:B n=none:=M.gone a4;have c8:∀b∈[e,T,n],B b=none:=λb t=>by
   simp only [aH,et,or_false] at t;rcases t with z | z | z<;>rw [z]<;>assumption
  have mk:∀g:cz,Moved (tT X.stack) [e,T,n] k g->Inv X i j B ⟨g,gg,dd,Q,Y⟩:=λg mv=>
   (l.call' (s':=⟨g,gg,dd,Q,Y⟩) (ch:=[]) os (WL un mv (λ_ _ _ y=>y) c7) (M.moved mv I2.stkFree c8) E (λb z=>absurd z (by simp))).of_tr
  have b0:Moved (tT X.stack) [e,T,n] k g1:=by
   rw [b5];exact b3.mono (λ_ z=>z) λb t=>by
    simp only [aH,et,or_false] at t ⊢;rcases t with z | z
    ·exact .inl z
    ·exact .inr (.inl z)
  have a0:∀{g g':cz},Moved (tT X.stack) [e,T,n] k g->(∀b o,b≠n->g.get? b=some o->g'.get? b=some o)->(∀b o,g.get? b=some o->∃o',g'.get? b=some o')->Moved (tT X.stack) [e,T,n] k g':=λ{g g'} mv kk tt=>
   mv.trans ((so (fs:=tT X.stack) kk tt).mono (λ_ z=>z) λb t=>by rw [aL.mp t];simp)
  refine landed c4 λg2 k2 b2 a9=> ?_;have a5:=a0 b0 k2 b2;have I3:=mk g2 a5;have A:∀{g:cz} {w:Obj} {O:Array al},Inv X i j B ⟨g,gg,dd,Q,Y⟩->g.get? e=some w->w.data= .fields O->∀p∈(e,w)::(X.pn++i),g.get? p.1=some p.2/\B p.1=none/\p.1≠X.env.locals/\p.1∉X.fs/\∀v,p.2.data≠.cell v:=λ{g w O} J z1 z2 p hp=>by
   rcases aH.mp hp with y | y
   ·subst y;refine ⟨z1,he,λz=> ?_,λz=> ?_,λv z=>by rw [z2] at z;cases z⟩
    ·have:=l.lt;obtain ⟨m,⟨o,es,ep,ho,_⟩,_⟩:=l.loc;have z':e=X.env.locals:=z;rw [z'] at ne;rw [ne] at ho;cases ho
    ·obtain ⟨_,o,ho,_⟩:=l.funs.mem z;rw [ne] at ho;cases ho
   ·exact J.pin p y
  have ex:∀{g:cz} {fv:al} {T':af},EJ g e C dx T' fv->∃w O,g.get? e=some w/\w.cls=C/\w.dict=dx/\w.data= .fields O:=λ⟨w,O,_,_,a,b,c,d,_⟩=>⟨w,O,a,b,c,d⟩
  obtain ⟨cE,b9,c5⟩:=wY q;subst c5;obtain ⟨e5,e2,g5,e0,d1,g7,d6,g0,f7,f5,f1,e9,e7,a6⟩:=(hc cE b9).xc.obj;obtain ⟨a1,d9,a2,c2,d2,f2⟩:=ex a9;have c9:Inv (X.hd e ((e,a1)::(X.pn++i))) [] (WM X.N.length) B ⟨g2,gg,dd,Q,Y⟩:=I3.to_hd (A I3 a2 f2);have go:∀(rs:List Kz),(∀c∈rs,KzOk X c)->wZ X.N.length D rs (.ref cE.C) dx B->bj (bP X.prog X.w) X.A (V1 (.ref e) X.env (rs.map Kz.h)) (SP X i D) X.xe ⟨g2,gg,dd,Q,Y⟩:=by
   intro rs
   induction rs with
   | nil=>intro _ z;exact z.elim
   | cons c r ih=>
    intro a8 z;have x:=a8 c ar;obtain ⟨e6,e3,g6,e1,d4,g8,d7,g4,f8,f6,f4,f0,e8,a7⟩:=x.xc.obj;rw [dI];refine QQ (P5 ?_) (by intro z;cases z);refine oh (X:=X.hd e ((e,a1)::(X.pn++i))) c9 x.gl x.mg ?_ x.db;rcases z with ⟨eC,z⟩ | ⟨nC,z⟩
    ·have c6:cE.C=c.C:=Nf eC;refine yT (I3.kIn _ _ a6) (I3.kIn _ _ a7) a2 c2 (by decide) (b:=true) (by simp [c6]) ?_;refine OO (landed a9 λg3 k3 t3 c1=> ?_);have I4:=mk g3 (a0 a5 k3 t3);obtain ⟨e4,d8,a3,c3,d3,f3⟩:=ex c1;refine Vp (gL (x.ps e _ [] _ _ B (wW D) (I4.to_hd (A I4 a3 f3)) z) λf s5 z=> ?_);cases f with
     | ret u=>
      obtain ⟨v,b1,H5,I5,rv,z⟩:=z;exact ⟨v,b1,H5,I5.of_hd I4.ok λp hp=>au _ hp,rv,z⟩
     | next=>obtain ⟨_,_,_,z⟩:=z;exact dn z
     | brk=>obtain ⟨_,_,_,z⟩:=z;exact dn z
     | cont=>obtain ⟨_,_,_,z⟩:=z;exact dn z
    ·have b4:c.C≠cE.C:=λz=>nC (by rw [z]);have nC:(bO cE.C::QL).contains (.ref c.C)=false:=by
      simp [b4]
     refine yT (I3.kIn _ _ a6) (I3.kIn _ _ a7) a2 c2 (by decide) (b:=false) nC ?_;exact ih (λd hd=>a8 d (au _ hd)) z
  exact go (c0::cr) hc q
 refine ft (t _ _ _ PP [] s σ H D I.to_tr h) (λf U q=> ?_) (λ_ _ z=>z);cases f with
 | next=>
  obtain ⟨j,G,l,q⟩:=q;exact mZ ⟨j,G,l.of_tr,q⟩
 | brk=>
  obtain ⟨j,G,l,q⟩:=q;exact ⟨j,G,l.of_tr,q⟩
 | cont=>
  obtain ⟨j,G,l,q⟩:=q;exact ⟨j,G,l.of_tr,q⟩
 | ret u=>
  obtain ⟨v,j,G,l,rv,q⟩:=q;exact ⟨v,j,G,l.of_tr,rv,q⟩
end
end L2
open L2 renaming CloSc->X4,CloC->X5,BMain->Xa
namespace L2
open PySem PySem.Spec PyProof.Rows Rx
open PySem.W (WData Codec OpenSpec CodeHd tabObj TabsAt Well WellAll ReadsW ReadsAllW)
def Oe{K}(k:∀b o,H b=some o->d b=some o):SqL K H a xs->SqL K d a xs
 | .inl (.inl h)=> .inl (.inl (k _ _ h))
 | .inl (.inr ⟨c,h⟩)=> .inl (.inr ⟨c,k _ _ h⟩)
 | .inr h=> .inr h
def Oc{K}(k:∀b o,H b=some o->d b=some o):SqT K H a xs->SqT K d a xs
 | .inl (.inl h)=> .inl (.inl (k _ _ h))
 | .inl (.inr ⟨c,h⟩)=> .inl (.inr ⟨c,k _ _ h⟩)
 | .inr h=> .inr h
mutual
theorem QI {K:ac} {H e:Hp} (k:∀b o,H b=some o->e b=some o):∀{v:V} {d:qv},Dw K H v d->Dw K e v d
 | _,_,.non=> .non
 | _,_,.bl b=> .bl b
 | _,_,.int i=> .int i
 | _,_,.str s=> .str s
 | _,_,.byt b=> .byt b
 | _,_,.lst a c=> .lst (Oe k a) (uO k c)
 | _,_,.tup a c=> .tup (Oc k a) (uO k c)
theorem uO {K:ac} {H a:Hp} (k:∀b o,H b=some o->a b=some o):∀{vs:List V} {ds:List qv},DwAll K H vs ds->DwAll K a vs ds
 | _,_,.nil=> .nil
 | _,_,.cons h t=> .cons (QI k h) (uO k t)
end
structure OnlyT (tabs:List (af×af)) (H:Hp):Prop where
 tab:∀q∈tabs,H q.2=some (.tbl #[])
 rest:∀b,(∃q∈tabs,q.2=b)∨H b=none∨∃o u,H b=some (.frz o u)
def CW{K}(KX:K.In a.heap)(b1:a.heap.Ns ax mg)(hb:a.heap.Ns D_ mb)(c3:∀x:Str,x≠"__name__"->mb x=lQ x)(b5:a.heap.NoLimit)(hg:a.gens= #[])(I:V5 f a.heap)(c6:uW K=true)(B:BMain a.heap mg)(M:AQ w.params a.heap h ds)(a9:zM ds=true)(c0:∀d∈ds,d.weight<=1048576)(hr:Wy k OQ)(F:∀base:cz,K.In base->base.Ns ax mg->(∀q∈f,nH base q.1 q.2)->BMain base mg->Wz P w K mg base CX k fa fd ps sp)(N:∀(s:aK) (us:List al),us.length=ps.length->JV s fd ⟨us,[]⟩ (ps.zip us))(b6:ds.length=ps.length)(c1:∀(H:Hp) (xs:List V),OnlyT f H->DwAll K H xs ds->sp xs H (λv H'=>Dw K H' v d0) λ_ _ _=>False)(c7:∀H e s',CX [] H a (λ_ _ _=>False) e s'->False):
  m_ (bP P w) OQ (.call (.ref fa) ⟨h,[]⟩) (λr s'=>∃u as,r= .ok (.ret u)/\ReadsW R cl s'.heap u d0 as/\OldK a.heap s'.heap/\s'.os=a.os/\AS s'.gens) a:=by
 obtain ⟨A,ho,T⟩:=uR ds h M a9 c0;have c5:OK (qp K a.heap A):=FV T;have b4:HOk P w (qp K a.heap A) a.heap:=Mr T;have c4:=DK KX T ds h M a9 ho;have hV:=pX ho;have Q:∀b u,qp K a.heap A b=some u->∀q∈f,q.2≠b:=λb u z q i e=>by
  have j:=(I q i).2;rw [e] at j;obtain ⟨_,U,_,_,⟨p,_⟩ | ⟨p,_⟩⟩:=vN T z
  ·rw [p] at j;cases j
  ·rw [p] at j;cases j
 let a8:af->Bool:=λb=>f.any λq=>q.2==b;have l:∀b,a8 b=true↔∃q∈f,q.2=b:=λb=>by
  show (f.any λq=>q.2==b)=true↔_;rw [oJ];exact ⟨λ⟨q,Y,J⟩=>⟨q,Y,beq_iff_eq.mp J⟩,λ⟨q,Y,J⟩=>⟨q,Y,beq_iff_eq.mpr J⟩⟩
 have hx:∃H:Hp,(∀q∈f,H q.2=some (.tbl #[]))/\(∀b,(¬∃q∈f,q.2=b)->H b=qp K a.heap A b):=by
  refine ⟨λb=>if a8 b=true then some (.tbl #[]) else qp K a.heap A b,λq i=>if_pos ((l _).mpr ⟨q,i,rfl⟩),λb nb=>if_neg λz=>nb ((l b).mp z)⟩
 obtain ⟨H,G,t⟩:=hx;have up:∀b u,qp K a.heap A b=some u->H b=some u:=λb u z=>by rw [t b (λ⟨q,i,e⟩=>Q b u z q i e)];exact z
 have hS:=uO up c4;have hO:OnlyT f H:=⟨G,λb=>by
  by_cases z:∃q∈f,q.2=b
  ·exact .inl z
  ·right;rw [t b z];exact c5 b⟩
 have b0:HOk P w H a.heap:=λb u z=>by
  by_cases y:∃q∈f,q.2=b
  ·obtain ⟨q,i,e⟩:=y;have j:=G q i;rw [e,z] at j;cases j;have p:=(I q i).2;rw [e] at p;exact p
  ·rw [t b y] at z;exact (b4 b u z).stay (λ_ _ _ r=>r) (λc r=>up c _ r) λc xs r=>up c _ r
 have a0:∀{b:af} {o:Obj},a.heap.get? b=some o->o≠KO #[]->¬∃q∈f,q.2=b:=λ{b o} e n ⟨q,i,z⟩=>by
  have j:=(I q i).2;rw [z,e] at j;exact n (bw j)
 have L:∀{b:af} {o:Obj},a.heap.get? b=some o->o≠KO #[]->(∀U n,o.data≠.seq U n)->H b=none:=λ{b o} e n d=>by
  rw [t b (a0 e n)];cases q:qp K a.heap A b with
  | none=>rfl
  | some u=>
   obtain ⟨_,U,_,_,⟨p,_⟩ | ⟨p,_⟩⟩:=vN T q
   ·rw [p] at e;cases e;exact absurd rfl (d _ _)
   ·rw [p] at e;cases e;exact absurd rfl (d _ _)
 have g:∀{b:af} {o:Obj},a.heap.get? b=some o->H b=none->(AX a.heap H).get? b=some o:=λe n=>Ju e n;have E:∀{b:af} {m:Str->Option al},a.heap.Ns b m->(AX a.heap H).Ns b m:=λ{b m} ⟨o,es,ep,e,d,r⟩=>⟨o,es,ep,g e (L e (λz=>by rw [z] at d;cases d) (λ_ _ z=>by rw [z] at d;cases d)),d,r⟩
 have nK:∀b o,K.lookup b=some o->H b=none:=λb o e=>by
  have nt:o≠KO #[]:=λz=>by
   have J:=eU.mp c6 (b,o) (PySem.W.mem_of_lookupK e);subst z;exact absurd (show false=true from J) aN
  rw [t b (a0 (KX b o e) nt)];cases q:qp K a.heap A b with
  | none=>rfl
  | some u=>
   have:=(vN T q).1;rw [this] at e;cases e
 have b2:K.In (AX a.heap H):=λb o e=>g (KX b o e) (nK b o e);have hM:Mod K mg (AX a.heap H):=⟨b2,E b1,⟨mb,E hb,c3⟩,let ⟨mc,Y,J⟩:=b5;⟨mc,E Y,J⟩⟩
 have e0:Env0 P w K mg (AX a.heap H) OQ [] a H:=⟨rfl,hM,λb o e=>Mc e,nL (FQ _ _),trivial,λb hb=>absurd (show b∈([]:List af) from hb) (by simp),b0,.of_eq hg⟩
 have hl:h.length=ps.length:=by rw [oA M];exact b6
 have hC:∀q∈f,nH (AX a.heap H) q.1 q.2:=λq i=>by
  obtain ⟨o,U,b7,tf,O,tg,b9,b3,tt,j,r1,r2,r⟩:=(I q i).1;exact ⟨o,U,b7,tf,O,tg,b9,b3,tt,g j (L j (λz=>by rw [z] at r1;cases r1) (λ_ _ z=>by rw [z] at r2;cases r2)),r1,r2,r⟩
 have hB:BMain (AX a.heap H) mg:=by
  obtain ⟨bm,ob,a1,a2,a3,a4,a5,a6,a7⟩:=B;exact ⟨bm,ob,a1,a2,a3,g a4 (L a4 (λz=>by rw [z] at a5;cases a5) (λ_ _ z=>by rw [z] at a7;cases a7)),a5,a6,a7⟩
 refine rZ ((F _ b2 (E b1) hC hB).run OQ [] a H ⟨h,[]⟩ h (h.map HQ) _ _ hr e0 (N a h hl) hV (c1 H _ hO hS)) λr s' x=> ?_;cases r with
 | error e=>exact (c7 H e s' x).elim
 | ok fl=>
  cases fl with
  | next=>exact dn x
  | brk=>exact dn x
  | cont=>exact dn x
  | ret u=>
   obtain ⟨v,H',os,b8,un,C,r',q⟩:=x;have kept:∀b o,(¬∃q∈f,q.2=b)->a.heap.get? b=some o->s'.heap.get? b=some o:=λb o nb e=>by
    cases q2:H b with
    | none=>exact un.keep b o e q2 (by intro z;exact absurd (show b∈([]:List af) from z) (by simp)) (by simp)
    | some u2=>
     rcases hO.rest b with z | z | ⟨ob,u3,z⟩
     ·exact absurd z nb
     ·rw [q2] at z;cases z
     ·have z2:=un.frzs b ob _ z;obtain ⟨j,_⟩:=b0 b _ z;obtain ⟨p,_⟩:=C b _ z2;rw [e] at j;cases j;exact p
   have D:∀q∈f,∃ps,s'.heap.get? q.2=some (KO ps):=λq i=>by
    obtain ⟨c9,z⟩:=un.tbls q.2 _ (G q i);exact ⟨_,C _ _ z⟩
   have c8:K.In s'.heap:=λb o e=>by
    refine kept b o (λ⟨q,i,z⟩=> ?_) (KX b o e);have:=nK b o e;rw [<-z,G q i] at this;cases this
   obtain ⟨as,c2⟩:=Dw.reads (R:=R) (cl:=cl) C c8 d0 v u q r';refine ⟨u,as,rfl,c2,⟨λb o e=> ?_,λb o e=> ?_⟩,os,b8⟩
   ·by_cases z:∃q∈f,q.2=b
    ·obtain ⟨q,i,j⟩:=z;subst j;have p:=(I q i).2;rw [e] at p;cases p;obtain ⟨qs,e3⟩:=D q i;exact .inr (.inl ⟨((I q i).1.tab (I q i).2).isCodeTable,rfl,#[],qs,rfl,by rw [Array.empty_append];exact e3⟩)
    ·exact .inl (kept b o z e)
   ·by_cases z:∃q∈f,q.2=b
    ·obtain ⟨q,i,j⟩:=z;subst j;obtain ⟨qs,e3⟩:=D q i;exact ⟨_,e3⟩
    ·exact ⟨o,kept b o z e⟩
def walk_specT{K:E6->ac}{CX:bN->AK}{sp:List (af×af)->ac->Sp}(g:r.wellSaid=true)(a2:d.params.defaults=[])(m:r.args.length=ps.length)(hr:Wy k OQ)(hY:∀(w:bN) (h:cz),YP w h->(K w.params).In h)(F:∀(w:bN) (j:ExcName->Option al) (mg x:Str->Option al) (t:af) (h:cz),Top q (PySem.W.looseW q loose) j mg x h->YP w h->(K w.params).In h->h.Ns ax mg->mg d.name=some (.ref t)->
   ∃(b:List (af×af)) (y:ip),V5 b h/\uW (K w.params)=true/\(∀(s:aK) (us:List al),us.length=ps.length->JV s y ⟨us,[]⟩ (ps.zip us))/\
    ∀base:cz,(K w.params).In base->base.Ns ax mg->(∀q∈b,nH base q.1 q.2)->BMain base mg->Wz r.prog w (K w.params) mg base (CX w) k t y ps (sp b (K w.params)))(I:∀(b:List (af×af)) (K:ac) (H:Hp) (xs:List V) (a:E5 r.args),OnlyT b H->Codec.withinAll r.args a=true->OV r.args r.asked a=true->DwAll K H xs (tV r.args a)->
   sp b K xs H (λv H'=>Dw K H' v (r.ret.enc (OV r.args r.f a))) λ_ _ _=>False)(M:∀(w:bN) (H:Hp) (s:aK) (e:al) (s':aK),CX w [] H s (λ_ _ _=>False) e s'->False):
  PySem.W.WalkOS q loose XP YP r d [] (λf vs=>DZ f vs):=by
 intro w D c mg x G Y t o pm cd a4 dV kV ho O a3 hD J hg p T as l n a0 E a1;obtain ⟨a,e1,e2⟩:=PySem.W.os_pre_some l;obtain ⟨e3,i⟩:=Codec.encAll_of_decAll r.args p a e1;subst e3;have Q:=hY w _ Y;obtain ⟨b,y,hT,L,hb,hF⟩:=F w _ mg x t _ G.T Y Q G.T.g J;have B:BMain c.heap mg:=by
  obtain ⟨bm,U,b1,b2,C,b4,b5,A⟩:=G.T.bmain;refine ⟨bm,U,b1,b2,λz=> ?_,C,b4,b5,A⟩;obtain ⟨og,es,ep,e,O,_⟩:=G.T.g;rw [z,e] at C;cases C;rw [O] at A;cases A
 refine PySem.W.enter_call (rZ (CW (R:=[]) (cl:=classAt D.heap) (d0:=r.ret.enc (OV r.args r.f a)) Q G.T.g G.T.b G.T.builtins G.T.nolimit hg hT L B E (zL _ _) (uM n) hr hF hb (by rw [w_];exact m)
  (λH xs hO hS=>I b _ H xs a hO i e2 hS) λH e s'=>M w H c e s') λr' s' hq=> ?_)
 obtain ⟨u,N,rfl,h1,h2,h3,h4⟩:=hq;exact ⟨.inl ⟨u,_,N,rfl,λ_=>rfl,h1,(Wb g i _ _).mpr rfl,λz=>ez (show false=true from z)⟩,h2,h3,h4⟩
def tab_mk{K}(g:aj K ax x=some (some (.ref f)))(e:K.lookup f=some ⟨l,k,.func h,j⟩)(d:h.code= .ref c)(b:K.lookup c=some ⟨n,m,.fields vs,i⟩)(a:vs[11]? =some (.ref P)):P7 K x=some (c,P):=by
 unfold P7;rw [g];dsimp only;rw [e];dsimp only;rw [d];dsimp only;rw [b];dsimp only;rw [a]
end L2
open L2 renaming tab_mk->X7
namespace Rk
open PySem PySem.Spec PyProof.Rows L2 Rx
open PySem.W (CodeHd tabObj kla_obj kla_fn FnAt envX)
open Vaarrc (Mod readMods readFun usesOf)
structure XT (K:ac) (mg:Str→Option al) (x c:Str) (n:Int) (a:af×af):Prop where
 xc:XC K a.1 a.2
 at_:mg x=some (.ref a.1)
 num:∃t,mg c=some (.int n t)
structure AnsT (K:ac) (mg:Str→Option al) (q:Nat→af×af):Prop where
 t0:XT K mg "TooLong" "LONG" (-21) (q 0)
 t1:XT K mg "NoFunction" "FUNCTION" (-22) (q 1)
 t2:XT K mg "NoArray" "FORM" (-20) (q 2)
 t3:XT K mg "NoSuchUse" "USE" (-11) (q 3)
 t4:XT K mg "WrongShape" "SHAPE" (-1) (q 4)
 t5:XT K mg "WrongRank" "RANK" (-2) (q 5)
 t6:XT K mg "NoSuchCell" "INDEX" (-3) (q 6)
 t7:XT K mg "ByZero" "ZERO" (-4) (q 7)
 t8:XT K mg "NumberTooBig" "BIG" (-5) (q 8)
 t9:XT K mg "NoShape" "SIZE" (-6) (q 9)
 ta:XT K mg "OutsideDomain" "DOMAIN" (-7) (q 10)
 tb:XT K mg "NothingToFold" "EMPTY" (-8) (q 11)
 nd:((iu 12).map fun i=>(q i).1).Nodup
def iO(q:Nat->af×af):List (af×Int):=[((q 0).1,-21),((q 1).1,-22),((q 2).1,-20),((q 3).1,-11),((q 4).1,-1),((q 5).1,-2),((q 6).1,-3),((q 7).1,-4),((q 8).1,-5),((q 9).1,-6),((q 10).1,-7),((q 11).1,-8)]
def Qp(q:Nat->af×af)(Q:VK):XK:=λC _ H=>∃p∈iO q,C= .ref p.1/\∀l,H l=none->Q (.ref l) (upd H l (.lst [.int p.2]))
def Q3(q:Nat->af×af)(g:af)(a:Sp):Sp:=λe H Q _=>e=[.ref g]/\∀d:XK,(∀C b c,Qp q Q C b c->d C b c)->a [] H Q d
def qI(n:Int):TS:=Kk (O4 (jP (tC (.int n)) qo))
theorem zw:∀{b:List Kz},(b.map λc=>c.C).Nodup->(∃c∈b,C= .ref c.C/\c.t (wW D) (WM n) H)->wZ n D b C dx H
 | [],_,⟨_,h,_⟩=>by cases h
 | d::r,a,⟨c,f,e,h⟩=>by
  rw [dI,jH] at a;rcases aH.mp f with z | z
  ·subst z;exact .inl ⟨e,h⟩
  ·refine .inr ⟨λy=> ?_,zw a.2 ⟨c,z,e,h⟩⟩;rw [e] at y;have:c.C=d.C:=Nf y;exact a.1 (by rw [<-this];exact N0 z)
def rM{a:List Kz}{i:Nat}{F:Kz->Prop}(h:a[i]? =some c)(f:F c):∃c∈a,F c:=⟨c,bD h,f⟩
def rL(a:XC X.K C N)(c:Gl X x)(mg:X.mg x=some (.ref C))(d:(x==("__debug__":Str))=false)(ps:∀(e:af) (pn:List (af×Obj)),HR (X.hd e pn) (b::r) t):KzOk X ⟨x,C,N,p,q,b,r,t⟩:=⟨a,c,mg,d,ps⟩
section
variable {P:be} {w:bN} {K:ac} {mg:Str→Option al} {base:cz} {z:Adr} {q:Nat→af×af}
def Sv:WB ["call"] ["call"] (aA WN):=⟨rfl,rfl,rfl,by decide+kernel,rfl,by decide+kernel,by decide+kernel⟩
def NH(F:Fun K "answer_of" "answer_of" WN f M)(T:AnsT K mg q)(G:Wz P w K mg base (CXE P w) k g r [] o)(bg:Binds K r [] [])(ag:FnAt g base):
  Wz P w K mg base (CXE P w) (k+1) f M ["call"] (Q3 q g o):=by
 refine F.okX Sv (λB H Q E h=> ?_) (λa0 A u s H B Q E I h=> ?_)
 ·obtain ⟨rfl,_⟩:=h;rfl
 ·obtain ⟨rfl,h⟩:=h;obtain ⟨k0,e0⟩:=T.t0.num;obtain ⟨k1,e1⟩:=T.t1.num;obtain ⟨k2,e2⟩:=T.t2.num;obtain ⟨k3,e3⟩:=T.t3.num;obtain ⟨k4,e4⟩:=T.t4.num;obtain ⟨k5,e5⟩:=T.t5.num;obtain ⟨k6,e6⟩:=T.t6.num;obtain ⟨k7,e7⟩:=T.t7.num;obtain ⟨k8,Y⟩:=T.t8.num;obtain ⟨k9,U⟩:=T.t9.num;obtain ⟨ka,O⟩:=T.ta.num;obtain ⟨kb,N⟩:=T.tb.num;refine ⟨_,az (L_ (tb:=λx=>Kk (Km P w K mg base (CXE P w) k [] x 0 qo))
   (c0:=⟨"TooLong",(q 0).1,(q 0).2,_,_,_,_,qI (-21)⟩) (cr:=[⟨"NoFunction",(q 1).1,(q 1).2,_,_,_,_,qI (-22)⟩,⟨"NoArray",(q 2).1,(q 2).2,_,_,_,_,qI (-20)⟩,⟨"NoSuchUse",(q 3).1,(q 3).2,_,_,_,_,qI (-11)⟩,
    ⟨"WrongShape",(q 4).1,(q 4).2,_,_,_,_,qI (-1)⟩,⟨"WrongRank",(q 5).1,(q 5).2,_,_,_,_,qI (-2)⟩,⟨"NoSuchCell",(q 6).1,(q 6).2,_,_,_,_,qI (-3)⟩,⟨"ByZero",(q 7).1,(q 7).2,_,_,_,_,qI (-4)⟩,
    ⟨"NumberTooBig",(q 8).1,(q 8).2,_,_,_,_,qI (-5)⟩,⟨"NoShape",(q 9).1,(q 9).2,_,_,_,_,qI (-6)⟩,⟨"OutsideDomain",(q 10).1,(q 10).2,_,_,_,_,qI (-7)⟩,⟨"NothingToFold",(q 11).1,(q 11).2,_,_,_,_,qI (-8)⟩])
   rfl rfl ?hc (λb Ev x t=>az (bn (FD I rfl (bz rfl) t)))),?_⟩
  case hc=>
   refine c_.mpr ⟨rL T.t0.xc rfl T.t0.at_ (by decide) (λe b=>az (bn (eA (aa (cg (v:= .int (-21)) rfl e0 ⟨_,rfl⟩) aw)))),?_⟩;refine c_.mpr ⟨rL T.t1.xc rfl T.t1.at_ (by decide) (λe b=>az (bn (eA (aa (cg (v:= .int (-22)) rfl e1 ⟨_,rfl⟩) aw)))),?_⟩;refine c_.mpr ⟨rL T.t2.xc rfl T.t2.at_ (by decide) (λe b=>az (bn (eA (aa (cg (v:= .int (-20)) rfl e2 ⟨_,rfl⟩) aw)))),?_⟩;refine c_.mpr ⟨rL T.t3.xc rfl T.t3.at_ (by decide) (λe b=>az (bn (eA (aa (cg (v:= .int (-11)) rfl e3 ⟨_,rfl⟩) aw)))),?_⟩;refine c_.mpr ⟨rL T.t4.xc rfl T.t4.at_ (by decide) (λe b=>az (bn (eA (aa (cg (v:= .int (-1)) rfl e4 ⟨_,rfl⟩) aw)))),?_⟩;refine c_.mpr ⟨rL T.t5.xc rfl T.t5.at_ (by decide) (λe b=>az (bn (eA (aa (cg (v:= .int (-2)) rfl e5 ⟨_,rfl⟩) aw)))),?_⟩;refine c_.mpr ⟨rL T.t6.xc rfl T.t6.at_ (by decide) (λe b=>az (bn (eA (aa (cg (v:= .int (-3)) rfl e6 ⟨_,rfl⟩) aw)))),?_⟩;refine c_.mpr ⟨rL T.t7.xc rfl T.t7.at_ (by decide) (λe b=>az (bn (eA (aa (cg (v:= .int (-4)) rfl e7 ⟨_,rfl⟩) aw)))),?_⟩;refine c_.mpr ⟨rL T.t8.xc rfl T.t8.at_ (by decide) (λe b=>az (bn (eA (aa (cg (v:= .int (-5)) rfl Y ⟨_,rfl⟩) aw)))),?_⟩;refine c_.mpr ⟨rL T.t9.xc rfl T.t9.at_ (by decide) (λe b=>az (bn (eA (aa (cg (v:= .int (-6)) rfl U ⟨_,rfl⟩) aw)))),?_⟩;refine c_.mpr ⟨rL T.ta.xc rfl T.ta.at_ (by decide) (λe b=>az (bn (eA (aa (cg (v:= .int (-7)) rfl O ⟨_,rfl⟩) aw)))),?_⟩;refine c_.mpr ⟨rL T.tb.xc rfl T.tb.at_ (by decide) (λe b=>az (bn (eA (aa (cg (v:= .int (-8)) rfl N ⟨_,rfl⟩) aw)))),?_⟩;exact λc hc=>by cases hc
  refine ⟨g,o,r,rfl,G,bg,ag,h _ λC dx m D=>zw T.nd ?_⟩;obtain ⟨p,t,j,d⟩:=D;have a:∀n:Int,(∀l,m l=none->Q (.ref l) (upd m l (.lst [.int n])))->qI n (wW {nx:=λ_ m=>Q .non m,rt:=Q}) (WM 1) m:=λn J=>⟨by show 1<=a_;decide,λl L=>J l L⟩
  simp only [iO,aH,et,or_false] at t;rcases t with y | y | y | y | y | y | y | y | y | y | y | y<;>subst y
  ·exact rM (i:=0) rfl ⟨j,a _ d⟩
  ·exact rM (i:=1) rfl ⟨j,a _ d⟩
  ·exact rM (i:=2) rfl ⟨j,a _ d⟩
  ·exact rM (i:=3) rfl ⟨j,a _ d⟩
  ·exact rM (i:=4) rfl ⟨j,a _ d⟩
  ·exact rM (i:=5) rfl ⟨j,a _ d⟩
  ·exact rM (i:=6) rfl ⟨j,a _ d⟩
  ·exact rM (i:=7) rfl ⟨j,a _ d⟩
  ·exact rM (i:=8) rfl ⟨j,a _ d⟩
  ·exact rM (i:=9) rfl ⟨j,a _ d⟩
  ·exact rM (i:=10) rfl ⟨j,a _ d⟩
  ·exact rM (i:=11) rfl ⟨j,a _ d⟩
end
def qY(s:dm):eM:=match dB s with
 | [.Return (some (.Call _ [e] _ _)) _]=>e
 | _=> .Constant .none 0 ⟨0,0,0,0⟩
def zl(e:eM):kG:=match e with
 | .Lambda a _ _ _=>a
 | _=>{posonlyargs:=[],args:=[],vararg:=none,kwonlyargs:=[],kw_defaults:=[],kwarg:=none,defaults:=[]}
def Gq(e:eM):eM:=match e with
 | .Lambda _ b _ _=>b
 | _=> .Constant .none 0 ⟨0,0,0,0⟩
def kU(e:eM):i_:=match e with
 | .Lambda _ _ s _=>s
 | _=>{kind:= .function,names:=[],isGenerator:=false,isCoroutine:=false}
def Ba{a:i_}{fr:List Str}(h:∀p∈a.names,p.2=dw->p.1∈fr):∀y,a.names.lookup y=some .free->y∈fr:=λy e=>h _ (cG e) rfl
def vd{K}(h:SqL K H a xs)(f:H Pt=some (.tbl ps)):SqL K (upd H Pt (.tbl qs)) a xs:=by
 have b:∀o,H a=some o->o≠.tbl ps->a≠Pt:=λo e d z=>by rw [z,f] at e;exact d (bw e).symm
 rcases h with (h | ⟨c,h⟩) | h
 ·exact .inl (.inl (by rw [aC (b _ h (λz=>nomatch z))];exact h))
 ·exact .inl (.inr ⟨c,by rw [aC (b _ h (λz=>nomatch z))];exact h⟩)
 ·exact .inr h
def xt_mk{K}(X:K.In h)(G:h.Ns ax mg)(e:aj K ax x=some (some (.ref C)))(l:K.lookup C=some (iZ nm q C N bs QL true sn sub ab col dd k0 k1 k2 k3 k5 "Exception.__new__"))(o:uV K N=true)(p:bq K (.ref C)=true)(v:aj K ax c=some (some (.int n t))):XT K mg x c n (C,N):=⟨⟨⟨_,_,_,_,_,_,_,_,_,_,_,_,_,l⟩,o,p⟩,bo X G e,⟨_,bo X G v⟩⟩
def ans_mk{K}(t0:XT K mg "TooLong" "LONG" (-21) l)(t1:XT K mg "NoFunction" "FUNCTION" (-22) k)(v:XT K mg "NoArray" "FORM" (-20) j)(u:XT K mg "NoSuchUse" "USE" (-11) h)(t:XT K mg "WrongShape" "SHAPE" (-1) g)(s:XT K mg "WrongRank" "RANK" (-2) f)(r:XT K mg "NoSuchCell" "INDEX" (-3) e)(p:XT K mg "ByZero" "ZERO" (-4) d)(o:XT K mg "NumberTooBig" "BIG" (-5) c)(n:XT K mg "NoShape" "SIZE" (-6) b)(m:XT K mg "OutsideDomain" "DOMAIN" (-7) a)(tb:XT K mg "NothingToFold" "EMPTY" (-8) ab)(x:([l,k,j,h,g,f,e,d,c,b,a,ab].map (·.1)).Nodup):
  AnsT K mg (λi=>[l,k,j,h,g,f,e,d,c,b,a,ab].getD i (0,0)):=⟨t0,t1,v,u,t,s,r,p,o,n,m,tb,x⟩
end Rk
open Rk renaming xt_mk->X8
namespace Rk
open PySem PySem.Spec PyProof.Rows L2 Rx
open PySem.W (CodeHd tabObj kla_obj kla_fn FnAt envX TabsAt)
open Vaarrc (Mod readMods readFun usesOf)
section
variable {P:be} {w:bN} {K:ac} {mg:Str→Option al} {base:cz} {z:Adr} {q:Nat→af×af}
def uB(b:List Nat):Int:=if b=aE "-" then 3 else if b∈vQ.map cp then 1 else 2
def uN(u:Bool×Bool):Int:=((u.1.toNat+2*u.2.toNat:Nat):Int)
def PZ:∀b∈hJ,uB b=uN (tH b []):=by decide+kernel
def xx(u:Bool×Bool)(m:Mod):Bool×Bool:=match m with
 | .fold=>(u.2,u.2)
 | .scan=>(u.2,u.2)
 | .swap=>(u.2,u.2)
 | .table=>u
 | .at_ _=>u
def EK(b:List Nat)(ms):tH b ms=ms.reverse.foldl xx (tH b []):=by
 induction ms with
 | nil=>rfl
 | cons m r a=>
  rw [nj,AT,<-a];cases m<;>rfl
def So:WB ["base"] ["base"] (aA WQ):=⟨rfl,rfl,rfl,by decide+kernel,rfl,by decide+kernel,by decide+kernel⟩
def Sg:Sp:=λa H Q _=>∃b:List Nat,a=[.str ⟨b.toArray⟩]/\Q (.int (uB b)) H
structure UsT (mg:Str→Option al):Prop where
 k1:∃t,mg "WITH_ONE"=some (.int 1 t)
 k2:∃t,mg "WITH_TWO"=some (.int 2 t)
def K2(b)(c):decide (Ww ⟨b.toArray⟩=Ww c)=decide (b=cp c):=by
 by_cases h:b=cp c
 ·subst h;simp
 ·rw [decide_eq_false h,decide_eq_false];intro e;apply h;have:(⟨b.toArray⟩:Str)=c:=by injection e
  rw [<-this]
theorem B9(b):∀l:List Str,N5 (.str ⟨b.toArray⟩) (l.map Ww)=decide (b∈l.map cp)
 | []=>by simp [N5]
 | c::r=>by
  have a:=B9 b r;unfold N5 at a ⊢;rw [dI,sk,a,dI];have e:N6 (Ww c) (Ww ⟨b.toArray⟩)=decide (b=cp c):=by
   show (c==(⟨b.toArray⟩:Str))=_;by_cases h:b=cp c
   ·subst h;simp
   ·rw [decide_eq_false h,beq_eq_false_iff_ne];intro e;apply h;rw [e]
  rw [e,<-Bool.decide_or];congr 1;simp [aH]
def IC(F:Fun K "uses_of_base" "uses_of_base" WQ f o)(T:Txt K mg z)(U:UsT mg):Wz P w K mg base (CXE P w) 1 f o ["base"] Sg:=by
 obtain ⟨t,l⟩:=U.k1;obtain ⟨r,k⟩:=U.k2;refine F.okX So (λn H Q E h=> ?_) (λp A j s H n Q E u h=> ?_)
 ·obtain ⟨b,rfl,_⟩:=h;rfl
 ·obtain ⟨b,rfl,a⟩:=h;refine ⟨_,ay (ee (cU lM (pv 0) Om (dA _)) (az (bn (d_ oM (cg (v:= .int 1) rfl l ⟨_,rfl⟩) (cg (v:= .int 2) rfl k ⟨_,rfl⟩)))) cB)
   (ay (ee (cU vG (pv 0) (cg (v:= .ref z.aW) rfl T.mW rfl) (by with_unfolding_all rfl)) (az (bn (cg (v:= .int 1) rfl l ⟨_,rfl⟩))) cB)
   (az (bn (cg (v:= .int 2) rfl k ⟨_,rfl⟩)))),?_⟩
  refine ⟨_,rfl,rfl,_,rfl,gp (λc=> ?_) λc=> ?_⟩
  ·have g:b=aE "-":=by
    have:=K2 b "-";rw [c] at this;exact of_decide_eq_true this.symm
   refine ⟨_,_,rfl,rfl,?_⟩;have e:uB b=3:=if_pos g;rw [e] at a;exact a
  have g:b≠aE "-":=λy=>c (by rw [K2 b "-"];exact decide_eq_true y);refine ⟨_,rfl,z.aW,_,rfl,.inr (T.vW _),rfl,by decide+kernel,_,rfl,gp (λd=> ?_) λd=> ?_⟩
  ·have i:b∈vQ.map cp:=by
    have m:N5 (.str ⟨b.toArray⟩) (vQ.map Ww)=true:=d;rw [B9] at m;exact of_decide_eq_true m
   have e:uB b=1:=by unfold uB;rw [if_neg g,if_pos i]
   rw [e] at a;exact a
  ·have i:¬b∈vQ.map cp:=λy=>d (by
    show N5 (.str ⟨b.toArray⟩) (vQ.map Ww)=true;rw [B9];exact decide_eq_true y)
   have e:uB b=2:=by unfold uB;rw [if_neg g,if_neg i]
   rw [e] at a;exact a
def Sr:WB ["uses"] ["uses"] (aA WR):=⟨rfl,rfl,rfl,by decide+kernel,rfl,by decide+kernel,by decide+kernel⟩
def Pn:Sp:=λa H Q _=>∃u:Bool×Bool,a=[.int (uN u)]/\Q (.bl u.2) H
def Lo:∀u:Bool×Bool,(!decide (Wv (OW (uN u) 2)=Wv 0))=u.2:=by
 rintro ⟨a,b⟩;cases a<;>cases b<;>decide+kernel
def Gn(F:Fun K "may_with_two" "may_with_two" WR f e)(U:UsT mg):Wz P w K mg base (CXE P w) 1 f e ["uses"] Pn:=by
 obtain ⟨i,c⟩:=U.k2;refine F.okX Sr (λb H Q E h=> ?_) (λg A a s H b Q E j h=> ?_)
 ·obtain ⟨u,rfl,_⟩:=h;rfl
 ·obtain ⟨u,rfl,d⟩:=h;refine ⟨_,az (bn (qO yA (d_ Ou (pv 0) (cg (v:= .int 2) rfl c ⟨_,rfl⟩)) bR (dA _))),?_⟩;refine ⟨_,rfl,_,_,rfl,rfl,rfl,?_⟩;rw [Lo u];exact d
def Nz:WB ["function","uses","modifier"] ["function"] (aA WS):=⟨rfl,rfl,rfl,by decide+kernel,rfl,by decide+kernel,by decide+kernel⟩
def Pl(z:Adr):Sp:=λb H Q _=>∃(x:af) (f:Ec),b=[.ref x]/\X2 z.CF H x f/\f.base∈hJ/\f.mods.length<=8/\∀a,WG H a->Q (.int (uN (tH f.base f.mods))) a
theorem nq:∀{d:List f} {c:List g},fW G d c->∀{i:Nat} {a:f},d[i]? =some a->∃b,c[i]? =some b/\G a b
 | _,_,.nil,i,a,h=>by simp at h
 | _,_,.cons r t,0,a,h=>by
  have e:=bw h;subst e;exact ⟨_,rfl,r⟩
 | _,_,.cons r t,i+1,a,h=>nq t (i:=i) h
structure MwT (mg:Str→Option al):Prop where
 kf:∃t,mg "FOLD"=some (.str ":fold" t)
 ks:∃t,mg "SCAN"=some (.str ":scan" t)
 kw:∃t,mg "SWAP"=some (.str ":swap" t)
def LD:Mod->Bool
 | .fold=>true
 | .scan=>true
 | .swap=>true
 | _=>false
def G5(m):N5 (.str ⟨(vn m).toArray⟩) [Ww ":fold",Ww ":scan",Ww ":swap"]=LD m:=by
 cases m<;>first | decide+kernel | (show N5 (.str ⟨(aE ":at").toArray⟩) _=false;decide+kernel)
def IB(F:Fun K "uses_of" "uses_of" WS f fd)(T:Txt K mg z)(U:UsT mg)(W:MwT mg)(C:Df K mg "uses_of_base" WQ ["base"] fB O)(B:Df K mg "may_with_two" WR ["uses"] fM N):
  Wz P w K mg base (CXE P w) 2 f fd ["function"] (Pl z):=by
 obtain ⟨t1,k1⟩:=U.k1;obtain ⟨t2,k2⟩:=U.k2;obtain ⟨tf,kf⟩:=W.kf;obtain ⟨ts,ks⟩:=W.ks;obtain ⟨tw,kw⟩:=W.kw;have GB:Wz P w K mg base (CXE P w) 1 fB O _ _:=IC C.fn T U;have GM:Wz P w K mg base (CXE P w) 1 fM N _ _:=Gn B.fn U;refine F.okX Nz (λvs H Q E h=> ?_) (λa0 A Y s H vs Q E hr h=> ?_)
 ·obtain ⟨x,d,rfl,_⟩:=h;rfl
 ·obtain ⟨x,d,rfl,⟨dx,l,t,hx,hl,hm⟩,hb,h8,hq⟩:=h;refine ⟨_,ay (cj (i:=1) Nz.nd rfl (bz rfl) (fZ GB hr rfl C.at_ C.fn.kp C.bd .nil cw (aa (iP (pv 0) rfl) aw)))
   (ay (my vT rfl (ik (iP (pv 0) rfl)) (fg (i:=2) Nz.nd rfl (bz rfl))
    (az (ee (cU vG (iR zW (pv 2) bR (λ_ _=>rfl)) (zP (aa (cg (v:= .str ":fold") rfl kf ⟨_,rfl⟩) (aa (cg (v:= .str ":scan") rfl ks ⟨_,rfl⟩) (aa (cg (v:= .str ":swap") rfl kw ⟨_,rfl⟩) aw)))) (by with_unfolding_all rfl))
     (az (cj (i:=1) Nz.nd rfl (bz rfl) (Jk (re (fZ GM hr rfl B.at_ B.fn.kp B.bd .nil cw (aa (pv 1) aw))) (d_ oM (cg (v:= .int 1) rfl k1 ⟨_,rfl⟩) (cg (v:= .int 2) rfl k2 ⟨_,rfl⟩)) bR))) cB)))
   (az (bn (pv 1)))),?_⟩
  refine ⟨_,rfl,x,z.CF,dx,_,.str ⟨d.base.toArray⟩,rfl,hx,T.cF,T.fb,GH _ _,d.base,rfl,?_⟩;refine ⟨_,rfl,x,z.CF,dx,_,.ref l,rfl,hx,T.cF,T.fm,wO _ _,l,rfl,⟨_,Ws hl⟩,
   kW (K:=K) (a:=l) (xs:=t.map WA) (λi n k=>∃D:Option V,n=[some (.ref x),some (.int (uN ((d.mods.reverse.take i).foldl xx (tH d.base [])))),D]/\WG H k)
    ⟨none,by rw [PZ _ hb];rfl,WH H⟩ (λi n k _ ⟨_,_,g⟩=>Ws (g _ _ hl)) ?_ ?_⟩
  ·rintro i y n k j ⟨D,rfl,g⟩;obtain ⟨b,M,rfl⟩:∃b,t[i]? =some b/\y=WA b:=by
    rw [bW] at j;cases e:t[i]? with
    | none=>rw [e] at j;cases j
    | some b=>rw [e] at j;exact ⟨b,rfl,(bw j).symm⟩
   obtain ⟨m,L,tb⟩:=nq hm M;have J:=g _ _ tb;have o:(d.mods.reverse.take (i+1)).foldl xx (tH d.base [])=xx ((d.mods.reverse.take i).foldl xx (tH d.base [])) m:=by
    rw [List.take_succ,L,AT];rfl
   generalize (d.mods.reverse.take i).foldl xx (tH d.base [])=u at o ⊢;refine ⟨_,rfl,b,_,0,.str ⟨(vn m).toArray⟩,rfl,rfl,Wu J,rfl,(by show 3<=a_;decide),λp hp=> ?_⟩;have G:WG H (upd k p (.tup [.str ":fold",.str ":scan",.str ":swap"])):=WZ g hp;refine ⟨p,_,rfl,.inr (Wu ao),rfl,by decide+kernel,_,rfl,gp (λc=> ?_) λc=> ?_⟩
   ·have I:LD m=true:=by rw [<-G5 m];exact c
    have r:xx u m=(u.2,u.2):=by cases m<;>first | rfl | cases I
    refine ⟨_,rfl,u,rfl,_,rfl,?_⟩;cases hu:u.2 with
    | true=>
     refine ⟨_,_,rfl,rfl,some (.ref b),?_,G⟩;rw [o,r,hu];rfl
    | false=>
     refine ⟨some (.ref b),?_,G⟩;rw [o,r,hu];rfl
   ·have I:¬LD m=true:=by rw [<-G5 m];exact c
    have r:xx u m=u:=by cases m<;>first | rfl | exact absurd rfl I
    refine ⟨some (.ref b),?_,G⟩;rw [o,r];rfl
  ·rintro n k ⟨D,rfl,g⟩;refine ⟨_,rfl,?_⟩;have el:(t.map WA).length=d.mods.reverse.length:=by rw [am];exact hm.len
   rw [el,bH,<-EK];exact hq _ g
end
end Rk
namespace Rx
open PySem
section
variable {M:Wg} {A:gt} {E:al→aK→Prop} {s:aK} {base:cz} {env:Env} {outer:List Env} {L e T:af} {C:al} {dx:Option af}
def tL(h:a.frame=env.frame)(x):iK x a=iK x env:=by
 unfold iK frameOf;rw [h]
def Nl(x:EJ s.heap e C dx T fl)(q:∀g,(∀b o,b≠T->s.heap.get? b=some o->g.get? b=some o)->(∀b o,s.heap.get? b=some o->∃u,g.get? b=some u)->EJ g e C dx T (fr.elim dC λf=>dL f)->Q () {s with heap:=g}):bj M A (AN (.ref e) fr) Q E s:=by
 obtain ⟨t,p,z,r,k,v,h,l,n,m,a,y,j⟩:=x;have i:3<r.size:=(dh.mp y).1;unfold AN;refine ak (fk k l n ?_);rw [if_pos (show (bO T != dC)=true by simp)];have self:=cP (gK (·.setIfInBounds 3 (fr.elim dC λf=>dL f))) m (gE (eJ a _));refine oP m a i (q _ (λb o c d=> ?_) (λb o d=> ?_) ?_)
 ·rw [bB _ _ (dO c)];exact d
 ·by_cases c:b=T
  ·subst c;exact ⟨_,self⟩
  ·exact ⟨o,by rw [bB _ _ (dO c)];exact d⟩
 ·refine ⟨t,p,_,_,?_,v,h,l,n,self,eJ a _,by simp [i],j⟩;rw [bB _ _ j];exact k
def Moved.refl:Moved fs ch h h:=⟨λ_ _ e _ _=>e,λ_ o e _ _=>⟨o.slots,e⟩,λ_ o e=>⟨o,e⟩⟩
def Ic(B:A.frames=some (env::outer))(Y:s.heap.FunFrames base (env::outer))(y:env.frame=some L)(x:EJ s.heap e C dx T fl)(q:∀g i,Moved ((env::outer).filterMap (·.frame)) [e,T] s.heap g->(i=T\/s.heap.get? i=none)->EJ g e C dx i (dL L)->Q () {s with heap:=g}):bj M A (iK (.ref e) env) Q E s:=by
 by_cases j:(fl==dL L)=true
 ·obtain ⟨u,G,I,t,l,rfl,rfl,m,p,h,c,n,v⟩:=x;unfold iK;simp only [y];refine ak (fk l m p ?_);rw [if_pos (show (bO T != dC)=true by simp)];refine ak (fk h c n ?_);rw [if_pos j];have ef:fl=dL L:=beq_iff_eq.mp j;subst ef;exact bh (q s.heap T .refl (.inl rfl) ⟨u,G,I,t,l,rfl,rfl,m,p,h,c,n,v⟩)
 ·obtain ⟨u,G,I,t,l,rfl,rfl,m,p,h,c,n,v⟩:=x;unfold iK;simp only [y];refine ak (fk l m p ?_);rw [if_pos (show (bO T != dC)=true by simp)];refine ak (fk h c n ?_);rw [if_neg j];have self:=cP (gK (·.setIfInBounds 3 dC)) h (gE (eJ c _));refine ak (oP h c (dh.mp n).1 ?_);have a:∀b,b≠T->(s.heap.update T (gK (·.setIfInBounds 3 dC))).get? b=s.heap.get? b:=λb d=>bB _ _ (dO d);have e1:(s.heap.update T (gK (·.setIfInBounds 3 dC))).get? e=some u:=(a e (dO v)).trans l;refine Pg (base:=base) (s:={s with heap:=s.heap.update T (gK (·.setIfInBounds 3 dC))}) B (Y.of_keeps λb o f U=> ?_) y e1 m (dh.mp p).1 λg i r D fl=> ?_
  ·have d:b≠T:=λz=>by
    subst z;rw [h] at f;cases f;exact U t c
   exact ⟨o,(a b d).trans f,rfl⟩
  ·refine q g i ⟨λb o f J k=> ?_,λb o f O k=> ?_,λb o f=> ?_⟩ ?_ fl
   ·have d:b≠T:=λz=>k (by rw [z];simp);exact r.keep b o ((a b d).trans f) J λz=>k (by rw [aL.mp z];simp)
   ·have d:b≠T:=λz=>k (by rw [z];simp);exact r.slot b o ((a b d).trans f) O λz=>k (by rw [aL.mp z];simp)
   ·by_cases d:b=T
    ·subst d;exact r.there b _ self
    ·exact r.there b o ((a b d).trans f)
   ·by_cases d:i=T
    ·exact .inl d
    ·exact .inr ((a i d).symm.trans D)
def EF(j:A.frames=some (env::outer))(p:s.heap.FunFrames base (env::outer))(r:env.frame=some L)(x:EJ s.heap e C dx T fl)(q:∀g d,Moved ((env::outer).filterMap (·.frame)) [e,T] s.heap g->(d=T\/s.heap.get? d=none)->EJ g e C dx d .none->Q () {s with heap:=g}):bj M A (qj env (.ref e)) Q E s:=by
 unfold qj;refine ak (Ic (base:=base) j p r x λg d f c fl=> ?_);refine landed fl λu k t l=>q u d ?_ c l;rcases c with c | c
 ·subst c;exact f.trans ((so k t).mono (λ_ z=>z) λb a=>by rw [aL.mp a];simp)
 ·exact ⟨λb o a m h=>k b o (λz=>by rw [z,c] at a;cases a) (f.keep b o a m h),λb o a n h=>by
   obtain ⟨y,i⟩:=f.slot b o a n h;exact ⟨y,k b _ (λz=>by rw [z,c] at a;cases a) i⟩,λb o a=>by
   obtain ⟨y,i⟩:=f.there b o a;exact t b y i⟩
end
end Rx
namespace L2
open PySem PySem.Spec PyProof.Rows Rx
def DR(X:Cx)(E:XK):Prop:=∀(pins:List (af×Obj)) (σ:St) (H:Hp) (s:aK) (e T:af) (C:al) (dx:Option af) (a:al),Inv X pins σ H s->X.s_0.heap.get? e=none->X.s_0.heap.get? T=none->H e=none->H T=none->EJ s.heap e C dx T a->E C dx H->X.xe (.ref e) s
section
variable {P:be} {w:bN} {K:ac} {mg:Str→Option al} {base:cz} {N:List Str} {fn:Str→Bool} {env:Env} {A:gt} {outer:List Env} {s0:aK} {H0:Hp} {E:XK}
def OE(p:env.frame=some env.locals):DR (Pw (CXE P w) P w K mg base N fn env A outer s0 H0 E) E:=by
 intro pins σ H s e T C dx t I j k m n r q;show bj _ _ (qj _ (.ref e)) _ _ s;refine EF (base:=base) (outer:=outer) I.ok.frames I.stack p r λg d l a i=> ?_;have f:s0.heap.get? d=none:=by
  rcases a with z | z
  ·rw [z];exact k
  ·exact iT I rfl z
 have h:H d=none:=by
  rcases a with z | z
  ·rw [z];exact n
  ·exact I.hok.gone z
 refine ⟨e,C,dx,d,H,rfl,I.os,I.bare,WL (H0:=H0) (h0:=s0.heap) I.base l (λb o z y=>rV I.ok z y) (λb c=> ?_),I.hok.moved l I.stkFree (λb c=> ?_),j,f,m,h,i,q⟩
 ·rcases aH.mp c with z | z
  ·rw [z];exact j
  ·rw [aL.mp z];exact k
 ·rcases aH.mp c with z | z
  ·rw [z];exact m
  ·rw [aL.mp z];exact n
def Kt:DR (zY (CXE P w) P w K mg base N qual scope f a A outer s0 H0 E) E:=OE (P:=P) (w:=w) (K:=K) (mg:=mg) (base:=base) (N:=N) (fn:=λ_=>true) (env:=Ac qual scope s0.heap.objs.size f a) (A:=A) (outer:=outer) (s0:=s0) (H0:=H0) (E:=E) rfl
end
abbrev Cx.blkE(X:Cx)(s:aK)(H:Hp)(scope:i_)(a:Env)(fp:List af)(pn:List (af×Obj))(Ev:al->aK->Prop):Cx:={X with s_0:=s,H_0:=H,env:=a,outer:=X.stack,ex:=fp,fn:=λx=>scope.names.lookup x==some .cell,pn:=pn,xe:=Ev}
section
variable {X:Cx} {pins pn pn':List (af×Obj)} {σ:St} {H:Hp} {s:aK} {s3:aK} {H3:Hp} {scope:i_} {ce:Env} {fp:List af} {Ev Ev':al→aK→Prop}
def Cx.Ok.toE(ok:(X.blk s3 H3 scope ce fp).Ok):(X.blkE s3 H3 scope ce fp pn Ev).Ok:=⟨ok.mod,ok.kind,ok.glob,ok.blt,ok.above,ok.inj,ok.has,ok.cab,ok.hd,ok.frames,ok.stk,ok.exf,ok.bs,ok.bsz,ok.noex,ok.exfs,ok.funs,ok.frf⟩
theorem Inv.toE(I:Inv (X.blk s3 H3 scope ce fp) pn σ H s):Inv (X.blkE s3 H3 scope ce fp pn Ev) [] σ H s:=
 ⟨I.ok.toE,I.os,I.bare,I.base,I.loc,I.cell,I.free,I.freeC,λp a=>I.pin p (by rw [gy] at a;exact du _ a),I.hok,I.len⟩
def Cx.Ok.ofE(ok:(X.blkE s3 H3 scope ce fp pn Ev).Ok):(X.blk s3 H3 scope ce fp).Ok:=⟨ok.mod,ok.kind,ok.glob,ok.blt,ok.above,ok.inj,ok.has,ok.cab,ok.hd,ok.frames,ok.stk,ok.exf,ok.bs,ok.bsz,ok.noex,ok.exfs,ok.funs,ok.frf⟩
theorem Inv.ofE(I:Inv (X.blkE s3 H3 scope ce fp pn Ev) pins σ H s):Inv (X.blk s3 H3 scope ce fp) pn σ H s:=
 ⟨I.ok.ofE,I.os,I.bare,I.base,I.loc,I.cell,I.free,I.freeC,λp a=>I.pin p (gh _ (by
  rcases bV.mp a with z | z
  ·cases z
  ·exact z)),I.hok,I.len⟩
def DP{G:St}(c8:DR X E)(I:X.stack=X.env::X.outer)(c3:X.env.frame=some X.env.locals)(c5:ce.frame=X.env.frame)(a9:s3.heap.get? ce.locals=none)(I3:Inv X pins G H3 s3)(a8:X.ex=[])(f3:∀b∈fp,qr X pins H3 b)(b8:∀b∈fp,∃o,(b,o)∈pn)(b7:ce.locals∉tT X.stack):
  ge (CXE X.prog X.w) (X.blkE s3 H3 scope ce fp pn (AO (bP X.prog X.w) X.A ce λe s'=>v_ (bP X.prog X.w) X.A X.xe use Qf D ce.locals (.error e) s')) E:=by
 intro d2 d4 H1 Y ev s2 I1 hx;obtain ⟨e,C,dx,T,k,rfl,os,v,un,J,ne,nT,he,hT,fl,q⟩:=hx;obtain ⟨c,gg,dd,tk,oo⟩:=s2;have Q:=I1.call' (s':=⟨c,gg,dd,tk,oo⟩) (ch:=[]) os un J v (λb z=>absurd z (by simp));have O:tT X.stack=(X.env::X.outer).filterMap (·.frame):=by rw [I];rfl
 have c1:X.A.frames=some (X.env::X.outer):=by rw [<-I];exact I1.ok.frames
 have c2:c.FunFrames X.base (X.env::X.outer):=by
  have z:c.FunFrames X.base X.stack:=Q.funs;rw [I] at z;exact z
 have g:∀b,Y.heap.get? b=none->s3.heap.get? b=none:=λb j=>by
  cases z:s3.heap.get? b with
  | none=>rfl
  | some o=>
   by_cases f:b∈fp
   ·obtain ⟨p,c0⟩:=b8 b f;have:=(I1.pin (b,p) (gh _ c0)).1;rw [j] at this;cases this
   ·obtain ⟨p,y⟩:=I1.base.there b o z f;rw [j] at y;cases y
 have b2:∀b,c.get? b=none->Y.heap.get? b=none:=λb j=>by
  cases z:Y.heap.get? b with
  | none=>rfl
  | some o=>
   obtain ⟨p,y⟩:=un.there b o z (by simp);have y':c.get? b=some p:=y;rw [j] at y';cases y'
 show bj (bP X.prog X.w) X.A (iK (.ref e) ce) _ _ _;rw [tL c5];refine xt (base:=X.base) c1 c2 c3 fl λg1 h n a0 d0=> ?_;have n1:Y.heap.get? h=none:=b2 h a0;have c6:k h=none:=J.gone a0;have fc:k ce.locals=none:=Q.free;have l:ce.locals≠e/\ce.locals≠T/\ce.locals≠h:=by
  obtain ⟨m,⟨o,es,ep,t,_⟩,_⟩:=I1.loc;have t:Y.heap.get? ce.locals=some o:=t;refine ⟨λz=> ?_,λz=> ?_,λz=> ?_⟩
  ·rw [z,ne] at t;cases t
  ·rw [z,nT] at t;cases t
  ·rw [z,n1] at t;cases t
 obtain ⟨m,hn,_⟩:=Q.loc;have hn:c.Ns ce.locals m:=hn;obtain ⟨oC,es,ep,b9,c4⟩:=hn;have b4:g1.get? ce.locals=some oC:=n.keep _ _ b9 (by rw [<-O];exact b7) (by simp [l.1,l.2.1]);refine ⟨m,⟨oC,es,ep,b4,c4⟩,λh' U d3 d5=> ?_⟩;have b0:EJ h' e C dx h (dL X.env.locals):=by
  obtain ⟨oe,vs,oT,ts,a1,a2,a3,a4,a5,a6,a7⟩:=d0;exact ⟨oe,vs,oT,ts,(U.2 e (dO l.1)).trans a1,a2,a3,a4,a5,(U.2 h (dO l.2.2)).trans a6,a7⟩
 unfold PySem.passOn;have fe:=b0;obtain ⟨oe,vs,oT,ts,a1,a2,a3,a4,a5,a6,a7⟩:=fe;refine ak (fk a1 a4 a5 ?_);rw [if_neg (show ¬((bO h==dC)=true) by simp)];refine ak (Nl (s:=⟨h',gg,dd,tk,oo⟩) b0 λB k2 t2 c9=> ?_);refine wpAny_throw ?_;have b1:∀b∈[e,T,h,ce.locals],s3.heap.get? b=none:=λb f=>by
  simp only [aH,et,or_false] at f;rcases f with z | z | z | z
  ·rw [z];exact g _ ne
  ·rw [z];exact g _ nT
  ·rw [z];exact g _ n1
  ·rw [z];exact a9
 have kA:∀b o,c.get? b=some o->b∉tT X.stack->b∉[e,T,h,ce.locals]->B.get? b=some o:=λb o d nf i=>by
  simp only [aH,et,or_false,not_or] at i;exact k2 b o i.2.2.1 ((U.2 b i.2.2.2).trans (n.keep b o d (by rw [<-O];exact nf) (by simp [i.1,i.2.1])))
 have sA:∀b o,c.get? b=some o->b∈tT X.stack->b∉[e,T,h,ce.locals]->∃sl,B.get? b=some {o with slots:=sl}:=λb o d mf i=>by
  simp only [aH,et,or_false,not_or] at i;obtain ⟨sl,y⟩:=n.slot b o d (by rw [<-O];exact mf) (by simp [i.1,i.2.1]);exact ⟨sl,k2 b _ i.2.2.1 ((U.2 b i.2.2.2).trans y)⟩
 have tA:∀b o,c.get? b=some o->b≠ce.locals->∃p,B.get? b=some p:=λb o d j=>by
  obtain ⟨o1,y1⟩:=n.there b o d;exact t2 b o1 ((U.2 b j).trans y1)
 have d1:∀b∈[e,T,h,ce.locals],k b=none:=λb f=>by
  simp only [aH,et,or_false] at f;rcases f with z | z | z | z<;>rw [z]<;>assumption
 have b5:Un (tT X.stack) fp H3 k s3.heap B:=by
  have x:Un (tT X.stack) fp H3 k s3.heap c:=Q.base;refine ⟨λb o d j nf nx=>kA b o (x.keep b o d j nf nx) nf (λz=>by rw [b1 b z] at d;cases d),λb o d j mf nx=> ?_,x.free,λb o d nx=> ?_,x.tups,x.frzs,x.tbls⟩
  ·obtain ⟨sl,y⟩:=x.slot b o d j mf nx;obtain ⟨b6,y'⟩:=sA b _ y mf (λz=>by rw [b1 b z] at d;cases d);exact ⟨b6,y'⟩
  ·obtain ⟨p,y⟩:=x.there b o d nx;exact tA b p y (λz=>by rw [z,a9] at d;cases d)
 have c7:∀b∈tT X.stack,k b=none:=λb f=>Q.stkFree b f;have b3:HOk X.prog X.w k B:=λa o y=>(J a o y).stay (λb u f d=>by
  have nn:k b≠none:=by
   rcases f with z | z
   ·rw [z,y];exact λw=>nomatch w
   ·rw [z];exact λw=>nomatch w
  exact kA b u d (λz=>nn (c7 b z)) λz=>nn (d1 b z)) (λ_ r=>r) λ_ _ r=>r
 have I7:Inv X pins G k ⟨B,gg,dd,tk,oo⟩:=I3.call' (s':=⟨B,gg,dd,tk,oo⟩) (ch:=fp) Q.os b5 b3 v λb f=>⟨(f3 b f).2.2.2.1,(f3 b f).2.1,(f3 b f).2.2.2.2.1,(f3 b f).2.2.2.2.2⟩
 exact c8 pins G k _ e h C dx _ I7 (iT I3 a8 (g _ ne)) (iT I3 a8 (g _ n1)) he c6 c9 q
end
section
variable {X:Cx}
def Dy{A:St}(c5:DR X E)(b9:X.stack=X.env::X.outer)(c1:X.env.frame=some X.env.locals)(b8:X.ex=[])(hc:X.calm=true)(hN:X.N.Nodup)(I:Inv X pins A H s)(hi:PI X tg iter wi)(ok:BlkOk X.N X.env.scope scope own)(hg:∀(s:aK) (H:Hp) (C:af) (cl:List (Str×af)) (f:List af) (pn:List (af×Obj)) (Ev:al->aK->Prop),PG (X.blkE s H scope (eZ scope cl C X.env) f pn Ev) tg g)(ht:∀(s:aK) (H:Hp) (C:af) (cl:List (Str×af)) (f:List af) (pn:List (af×Obj)) (Ev:al->aK->Prop),Py (X.blkE s H scope (eZ scope cl C X.env) f pn Ev) a0 tt)(he:∀(s:aK) (H:Hp) (C:af) (cl:List (Str×af)) (f:List af) (pn:List (af×Obj)) (Ev:al->aK->Prop),ge (CXE X.prog X.w) (X.blkE s H scope (eZ scope cl C X.env) f pn Ev) E->PE (X.blkE s H scope (eZ scope cl C X.env) f pn Ev) a1 te)(hs:∀x,iY iter X.env x=pure x)(h:Pr wi g tt te (own.map (·.2)) A H Q)(c2:∀D C s' m l,Inv X pins A l s'->Q (.ref D) l->s'.heap.Ns C m->qr X pins l C->v_ (bP X.prog X.w) X.A X.xe use Qf (.ref D) C (.ok .next) s'):
  bj (bP X.prog X.w) X.A (Bq (.ListComp a1 [⟨tg,iter,a0,0⟩] scope pos) scope X.env c9 (S1 []) false (eval iter X.env) use) Qf X.xe s:=by
 have a2:∀y∈scope.names,y.2= .free->∃c,X.env.cells.lookup y.1=some c:=λy hy e=>by
  rcases ok.free y hy e with k | k
  ·exact I.ok.has _ (.inl k)
  ·exact I.ok.has _ (.inr k)
 refine MQ (use:=use) rfl hs (jQ a2) ok.kind (λy hy e=>by rw [ok.uniq y hy,e])
  (gL (hi pins s A H _ I h) λxv s1 hx=>gL hx λd2 s2 h2=> ?_)
 obtain ⟨it,f,tn,J,N,e,I2,T,a6,f2,q⟩:=h2;subst e;refine Eo (uI ?_) (by show 0<=a_;decide);generalize hD:s2.heap.objs.size=D;have c4:N D=none:=I2.hok.fresh (nL hD);obtain ⟨W,⟨m0,w0⟩,b3⟩:=q D c4;generalize a9:({s2 with heap:=s2.heap.push {cls:= .type "list",data:= .seq ([]:List al).toArray}}:aK)=a;have I3:Inv X pins A (upd N D (.lst [])) a:=by
  rw [<-a9];refine I2.laid (t':=s2.toks) (λb o e=>aq _ e) (nL hD) ⟨cy _,[],0,.nil,?_⟩;rw [<-hD];exact bG _ rfl
 have h3:a.heap=s2.heap.push {cls:= .type "list",data:= .seq ([]:List al).toArray}:=by rw [<-a9]
 have sz:∀b∈f,b<s2.heap.objs.size:=λb d=>by
  obtain ⟨o,e,_⟩:=T.obj _ _ a6 b d;exact aZ e
 have M:∀b∈f,qr X pins (upd N D (.lst [])) b/\b<a.heap.objs.size:=λb d=>by
  have b0:=sz b d;refine ⟨⟨?_,(f2 b d).2⟩,by rw [h3,eQ];exact sg b0⟩;rw [aC (by rw [<-hD];exact cu b0)];exact (f2 b d).1
 have b6:tn 0 a.heap:=T.keep _ _ _ a6 λb _ o e=>by rw [h3];exact aq _ e
 have I4:=uQ I3 ok hN M;have pg:=λpn Ev=>hg a (upd N D (.lst [])) a.heap.objs.size (eo (a.heap.objs.size+1) scope.names (df X.env.cells scope.names [])) f pn Ev;have pt:=λpn Ev=>ht a (upd N D (.lst [])) a.heap.objs.size (eo (a.heap.objs.size+1) scope.names (df X.env.cells scope.names [])) f pn Ev;have pe:=λpn Ev=>he a (upd N D (.lst [])) a.heap.objs.size (eo (a.heap.objs.size+1) scope.names (df X.env.cells scope.names [])) f pn Ev;show m_ _ _ (.compStart (.ListComp a1 [⟨tg,iter,a0,0⟩] scope pos) 0 (.ref it) (.ref D) (eZ scope (eo (a.heap.objs.size+1) scope.names (df X.env.cells scope.names [])) a.heap.objs.size X.env)) (v_ (bP X.prog X.w) X.A X.xe use Qf (.ref D) a.heap.objs.size) {a with heap:=on (a.heap.push {cls:= .type "dict",data:= .dict #[]}) scope.names};have a7:∀b∈f,(upd N D (.lst [])) b=none:=λb d=>(M b d).1.1;generalize b1:eZ scope (eo (a.heap.objs.size+1) scope.names (df X.env.cells scope.names [])) a.heap.objs.size X.env=t at I4 pg pt pe ⊢;have cL:t.locals=a.heap.objs.size:=by subst b1;rfl
 have cF:t.frame=X.env.frame:=by subst b1;rfl
 generalize d3:upd N D (.lst [])=B at I3 I4 pg pt pe w0 a7 M;generalize c0:({a with heap:=on (a.heap.push {cls:= .type "dict",data:= .dict #[]}) scope.names}:aK)=s4 at I4 ⊢;have a5:tn 0 s4.heap:=T.keep _ _ _ b6 λb _ o e=>by rw [<-c0];exact rn _ _ _ _ (aq _ e)
 have w:∀{a3:St} {l:Hp} {s':aK},Inv (X.blk a B scope t f) [] a3 l s'->(∀b∈f,l b=none)->∀b∈f,qr (X.blk a B scope t f) [] l b:=λ{a3 l s'} I' hn b d=>
  ⟨hn b d,(I'.ok.exf b d).1,I'.ok.exfs b d,.inl d,λx c e=>(I'.ok.exf b d).2 x c e,λp hp=>absurd (show p∈([]:List (af×Obj))++[] from hp) (by simp)⟩
 have U:m_ (bP X.prog X.w) X.A (.compLoop (.ListComp a1 [⟨tg,iter,a0,0⟩] scope pos) 0 (.ref it) (.ref D) t) (v_ (bP X.prog X.w) X.A X.xe use Qf (.ref D) a.heap.objs.size) s4:=by
  refine tq (λn s'=>∃i l,Inv (X.blk a B scope t f) [] (jO A (own.map (·.2))) l s'/\tn i s'.heap/\(∀b∈f,l b=none)/\W i n l) ?_ m0 ⟨0,B,I4,a5,a7,w0⟩;rintro n s5 ⟨i,Y,I5,a4,n5,w5⟩;rcases b3 i n Y w5 with ⟨stop,qq⟩ | ⟨go,Nx,c3,step⟩
  ·have td:=T.done (X.blk a B scope t f) rfl rfl rfl hc i [] s5 _ Y (λ_ _=>False) I5 (w I5 n5) a4 stop;refine El td λr s6 ⟨hr,I6⟩=> ?_;subst hr;have I7:Inv X pins A Y s6:=I3.call' (ch:=f) I6.os I6.base I6.hok I6.bare λb d=>⟨(M b d).1.2.2.2.1,(M b d).1.2.1,(M b d).1.2.2.2.2.1,(M b d).1.2.2.2.2.2⟩
   have nC:Y a.heap.objs.size=none:=by
    have z:Y t.locals=none:=I6.free;rw [cL] at z;exact z
   obtain ⟨m,hn,_⟩:=I6.loc;have hn:s6.heap.Ns t.locals m:=hn;rw [cL] at hn;exact c2 D a.heap.objs.size s6 m Y I7 qq hn (I3.fpOk (aO _) nC)
  ·have ti:=T.item (X.blk a B scope t f) rfl rfl rfl hc i [] s5 _ Y (λ_ _=>False) I5 (w I5 n5) a4 go;refine El ti λr s6 ⟨u,hr,h6⟩=> ?_;subst hr;refine El h6 λ_ s7 ⟨x,H7,I7,r7,y7,L,n7⟩=> ?_;have c6:=(I7.pinned (w I7 n7) (T.obj _ _ L)).toE (Ev:=AO (bP X.prog X.w) X.A t λe s'=>v_ (bP X.prog X.w) X.A X.xe use Qf (.ref D) t.locals (.error e) s');have PP:=DP (scope:=scope) (use:=use) (Qf:=Qf) (D:= .ref D) (pn:=[]++uH f s7.heap) c5 b9 c1 cF (by rw [cL];exact wF (aO _)) I3 b8 (λb d=>(M b d).1) (λb d=>by
    obtain ⟨o,e,_⟩:=T.obj _ _ L b d;exact ⟨o,du _ (nD d e)⟩) (λz=>by
    obtain ⟨_,o,ho,_⟩:=I3.stack.mem z;have lt:=aZ ho;rw [cL] at lt;exact absurd lt (eW _))
   rw [<-cL];refine gL (pg _ _ _ s7 _ H7 x u _ c6 r7 (step x H7 y7)) λ_ s8 ⟨G,H8,I8,a8,q8⟩=> ?_;refine gL (pt _ _ _ s8 G H8 _ I8 q8) λb s9 ⟨H9,I9,q9⟩=> ?_;have b2:∀{s':aK} {l:Hp},Inv (X.blk a B scope t f) ([]++uH f s7.heap) G l s'->Nx l->∃m,m<n/\∃i l,Inv (X.blk a B scope t f) [] (jO A (own.map (·.2))) l s'/\tn i s'.heap/\(∀b∈f,l b=none)/\W i m l:=λ{s' l} I' nx=>by
    obtain ⟨m',hm,w'⟩:=c3 l nx;have O:∀b∈f,∀o,s7.heap.get? b=some o->s'.heap.get? b=some o/\l b=none:=λb d o e=>
     let z:=I'.pin (b,o) (du _ (du _ (nD d e)))
     ⟨z.1,z.2.1⟩
    have hl:(jO A (own.map (·.2))).length=G.length:=by rw [<-a8,oz]
    refine ⟨m',hm,i+1,l,(I'.unpinned (pins:=[])).weak hl (λj v e=> ?_),T.keep _ _ _ L λb d o e=>(O b d o e).1,λb d=> ?_,w'⟩
    ·rw [<-a8] at e;exact (rQ e).1
    ·obtain ⟨o,e,_⟩:=T.obj _ _ L b d;exact (O b d o e).2
   cases b with
   | false=>
    simp only [lV,if_false] at q9 ⊢;exact b2 I9.ofE q9
   | true=>
    simp only [if_true] at q9 ⊢;refine gL (pe _ _ PP _ s9 G H9 _ I9 q9) λz d1 ⟨yv,d5,c8,b7,d4,b5,b4,nx⟩=> ?_;exact Kx (X:=X.blk a B scope t f) c8.ofE b5 b4 b7 λd0 c7=>b2 c7 nx
 exact OP U (T.self X.A 0 _ _ _ a5 U)
def Op(k:DR X E)(i:X.stack=X.env::X.outer)(j:X.env.frame=some X.env.locals)(d:X.ex=[])(J:X.calm=true)(M:X.N.Nodup)(A:PI X n iter r)(ok:BlkOk X.N X.env.scope scope own)(B:∀(s:aK) (H:Hp) (C:af) (cl:List (Str×af)) (a:List af) (pn:List (af×Obj)) (Ev:al->aK->Prop),PG (X.blkE s H scope (eZ scope cl C X.env) a pn Ev) n g)(w:∀(s:aK) (H:Hp) (C:af) (cl:List (Str×af)) (a:List af) (pn:List (af×Obj)) (Ev:al->aK->Prop),Py (X.blkE s H scope (eZ scope cl C X.env) a pn Ev) c t)(G:∀(s:aK) (H:Hp) (C:af) (cl:List (Str×af)) (a:List af) (pn:List (af×Obj)) (Ev:al->aK->Prop),ge (CXE X.prog X.w) (X.blkE s H scope (eZ scope cl C X.env) a pn Ev) E->PE (X.blkE s H scope (eZ scope cl C X.env) a pn Ev) l te)(y:∀x,iY iter X.env x=pure x:=by intro _;rfl):
  PE X (.ListComp l [⟨n,iter,c,0⟩] scope pos) (Pr r g t te (own.map (·.2))):=by
 intro p s σ H Q I h;rw [Vv];refine Dy k i j d J M I A ok B w G y h λD C v m H' I' q z f=>⟨m,z,λa0 u=> ?_⟩
 obtain ⟨Y,U,f2,T,O,N⟩:=f;exact ⟨.ref D,H',I'.turned (t':=v.toks) (λb o L e=>(u.2 b L).trans e) Y U T O N,rfl,q⟩
def Fx(M:DR X E)(B:X.stack=X.env::X.outer)(G:X.env.frame=some X.env.locals)(w:X.ex=[])(hc:X.calm=true)(T:X.N.Nodup)(hy:X.N[i]? =some y)(l:X.env.scope.names.lookup y=some .local)(A:se (.ListComp d [⟨k,iter,c,0⟩] scope pos) (some (.Name y t)) n.line X.env=pure true)(hi:PI X k iter O)(ok:BlkOk X.N X.env.scope scope own)(hg:∀(s:aK) (H:Hp) (C:af) (cl:List (Str×af)) (j:List af) (pn:List (af×Obj)) (Ev:al->aK->Prop),PG (X.blkE s H scope (eZ scope cl C X.env) j pn Ev) k g)(ht:∀(s:aK) (H:Hp) (C:af) (cl:List (Str×af)) (j:List af) (pn:List (af×Obj)) (Ev:al->aK->Prop),Py (X.blkE s H scope (eZ scope cl C X.env) j pn Ev) c Q)(he:∀(s:aK) (H:Hp) (C:af) (cl:List (Str×af)) (j:List af) (pn:List (af×Obj)) (Ev:al->aK->Prop),ge (CXE X.prog X.w) (X.blkE s H scope (eZ scope cl C X.env) j pn Ev) E->PE (X.blkE s H scope (eZ scope cl C X.env) j pn Ev) d te)(hs:∀x,iY iter X.env x=pure x:=by intro _;rfl):
  PS X (.Assign [.Name y t] (.ListComp d [⟨k,iter,c,0⟩] scope pos) n) (Ob (Pr O g Q te (own.map (·.2))) (wB i)):=by
 intro p s N H D I h;rw [P4 _ _ _ _ A];refine ak (kq (ak ?_));show bj _ X.A (do let _ <-Bq (.ListComp d [⟨k,iter,c,0⟩] scope pos) scope X.env (VW [⟨k,iter,c,0⟩] pos) (S1 []) false (eval iter X.env) (some (KN (.Name y t) X.env))) _ _ s;have h:Pr O g Q te (own.map (·.2)) N H (λx H1=>wB i x N H1 D.nx):=h;refine ak (gL (Dy (Qf:=λ_ r=>SP X p D .next r) M B G w hc T I hi ok hg ht he hs h λL C r m H' I' q hn f=> ?_) λ_ r hq=>bh (bh hq));show bj _ _ (KN (.Name y t) X.env (.ref L)) _ _ _;refine Ep (vF (v:=WA L) I' T hy (.inl l) rfl (λs2 I2 ⟨a,sb,ha⟩=> ?_) (.inr l));obtain ⟨f0,Y,f2,f3,U,f5⟩:=f;have J:C≠a:=by
  rcases ha with z | z
  ·rw [z];exact Y
  ·exact λe=>U y a z e.symm
 refine ⟨m,hn.sameBut sb J,λh3 u=> ?_⟩;exact ⟨_,H',I2.turned (t':=s2.toks) (λb o hb e=>(u.2 b hb).trans e) f0 Y f3 U f5,q⟩
end
open PySem.W (CodeHd tabObj kla_obj kla_fn FnAt envX fnMade fnX)
abbrev Any:HO:= .ext λ_=>True
def CodeAt(H:Hp)(c:af)(qual:Str):Prop:=∃b a t,H c=some (.frz b Any)/\b.data= .fields a/\a[1]? =some (.str qual t)
def mz(H:Hp)(P:af)(qs:List (Pos×Str)):Prop:=∃a:Array al,H P=some (.tbl a)/\wh a.toList/\∀q∈qs,iN q.1 a.toList=none\/∃b,iN q.1 a.toList=some (.ref b)/\CodeAt H b q.2
def CodeAt.to(h:CodeAt H c qual)(k:∀o,H c=some (.frz o Any)->d c=some (.frz o Any)):CodeAt d c qual:=by
 obtain ⟨a,b,t,e,r⟩:=h;exact ⟨a,b,t,k a e,r⟩
def JF(l)(h:wh l)(n:¬(a=pos.line/\b=pos.col)):iN pos (l++[dL a,dL b,c])=iN pos l:=by
 fun_induction wh l with
 | case1=>
  simp only [pE,iN,dL];rw [if_neg];intro z;simp only [dS,beq_iff_eq] at z;exact n z
 | case2 i t g u x rest d=>
  simp only [gi,iN];rw [d h]
 | case3 l f e=>exact h.elim
def OJ(e:h.get? a=some o):Wo P w H h a (.frz o Any):=⟨e,trivial,⟨o,e⟩,λ_ _ _ _=>trivial⟩
section
variable {X:Cx} {pins:List (af×Obj)} {σ:St} {H:Hp} {s:aK}
def Inv.track(I:Inv X pins σ H s)(f:qr X pins H a)(B:X.ex=[])(C:s.heap.get? a=some o):Inv X pins σ (upd H a (.frz o Any)) s:=by
 obtain ⟨N,M,O,L,J,G⟩:=f;have A:∀b u,X.s_0.heap.get? b=some u->b≠a:=λb u e z=>by
  rcases L with y | y
  ·rw [B] at y;cases y
  ·rw [z] at e;exact absurd (bZ (aZ e) y) (eW _)
 have d:∀b u,H b=some u->b≠a:=λb u q z=>by rw [z,N] at q;cases q
 refine ⟨I.ok,I.os,I.bare,⟨I.base.keep,I.base.slot,λb u e n D=>by rw [aC (A b u e)];exact I.base.free b u e n D,I.base.there,λb g q=> ?_,λb u v q=> ?_,λb i q=> ?_⟩,I.loc,I.cell,by rw [aC (dO M)];exact I.free,λx c q=>by rw [aC (J x c q)];exact I.freeC x c q,
  λp h=> ?_,λb u q=> ?_,I.len⟩
 ·have z:=I.base.tups b g q;rw [aC (d b _ z)];exact z
 ·have z:=I.base.frzs b u v q;rw [aC (d b _ z)];exact z
 ·obtain ⟨m,z⟩:=I.base.tbls b i q;exact ⟨m,by rw [aC (d b _ z)];exact z⟩
 ·obtain ⟨w,t,l,k,j⟩:=I.pin p h;exact ⟨w,by rw [aC (G p h)];exact t,l,k,j⟩
 ·by_cases z:b=a
  ·subst z;rw [ao] at q;cases q;exact OJ C
  ·rw [aC z] at q;exact (I.hok b u q).stay (λ_ _ _ r=>r) (λc r=>by rw [aC (d c _ r)];exact r) λc g r=>by rw [aC (d c _ r)];exact r
end
structure Made (H H1:Hp) (P:af) (qs:List (Pos×Str)) (qual:Str) (g c':af) (obj:Obj):Prop where
 keep:∀b o,H b=some o→b≠P→H1 b=some o
 tab:mz H1 P qs
 code:CodeAt H1 c' qual
 fn:H1 g=some (.frz obj Any)
 ng:H g=none
def Apart(pos:Pos)(qual:Str)(qs:List (Pos×Str)):Prop:=(pos,qual)∈qs/\∀q∈qs,((pos.line:Int)=q.1.line/\(pos.col:Int)=q.1.col)->q=(pos,qual)
def Jp(l:H P=some (.tbl ps))(j:wh ps.toList)(D:∀q∈qs,iN q.1 ps.toList=none\/∃a,iN q.1 ps.toList=some (.ref a)/\CodeAt H a q.2)(J:Apart pos qual qs)(G:iN pos ps.toList=none)(r:H a=none)(k:H g=none)(A:g≠a)(I:i.data= .fields vs)(C:vs[1]? =some (.str qual t)):
  Made H (upd (upd (upd H P (.tbl (ps++ #[dL pos.line,dL pos.col,.ref a]))) a (.frz i Any)) g (.frz f Any)) P qs qual g a f:=by
 have n:P≠a:=aU l r;have m:P≠g:=aU l k;have p:∀b o,H b=some o->b≠P->(upd (upd (upd H P (.tbl (ps++ #[dL pos.line,dL pos.col,.ref a]))) a (.frz i Any)) g (.frz f Any)) b=some o:=λb o e B=>by
  rw [aC (aU e k),aC (aU e r),aC B];exact e
 have u:CodeAt (upd (upd (upd H P (.tbl (ps++ #[dL pos.line,dL pos.col,.ref a]))) a (.frz i Any)) g (.frz f Any)) a qual:=⟨i,vs,t,by rw [aC (dO A),ao],I,C⟩
 refine ⟨p,⟨_,by rw [aC m,aC n,ao],?_,λq h=> ?_⟩,u,ao,k⟩
 ·rw [ME];exact TriplesOk_snoc _ _ _ _ j
 ·rw [ME];show iN q.1 (ps.toList++[dL pos.line,dL pos.col,.ref a])=none\/_;by_cases z:(pos.line:Int)=q.1.line/\(pos.col:Int)=q.1.col
  ·have e:=J.2 q h z;subst e;exact .inr ⟨a,codeAmong_snoc _ j G,u⟩
  ·rw [JF _ j z];rcases D q h with y | ⟨d,x,v⟩
   ·exact .inl y
   ·exact .inr ⟨d,x,v.to λo e=>p d _ e (λw=>by rw [w,l] at e;cases e)⟩
def Jq(h:mz H P qs)(t:CodeAt H u qual)(i:H g=none):Made H (upd H g (.frz a Any)) P qs qual g u a:=by
 have f:∀b o,H b=some o->upd H g (.frz a Any) b=some o:=λb o e=>by rw [aC (aU e i)];exact e
 obtain ⟨l,r,p,n⟩:=h;refine ⟨λb o e _=>f b o e,⟨l,f _ _ r,p,λq m=> ?_⟩,t.to λo e=>f _ _ e,ao,i⟩;rcases n q m with y | ⟨d,k,j⟩
 ·exact .inl y
 ·exact .inr ⟨d,k,j.to λo e=>f _ _ e⟩
section
variable {X:Cx} {pins:List (af×Obj)} {σ:St} {H:Hp} {s:aK} {c P:af} {E:al→aK→Prop} {Q:al→aK→Prop} {params:kG} {scope:i_} {pos:Pos} {qs:List (Pos×Str)}
def zV(I:Inv X pins σ H s)(d:X.ex=[]){tk:Tok}{a g:af}(h:H P=some (.tbl ps))(x:wh ps.toList)(y:∀q∈qs,iN q.1 ps.toList=none\/∃a,iN q.1 ps.toList=some (.ref a)/\CodeAt H a q.2)(L:Apart pos qual qs)(B:iN pos ps.toList=none)(v:∀b o,b≠P->s.heap.get? b=some o->h'.get? b=some o)(D:h'.get? P=some (KO (ps++ #[dL pos.line,dL pos.col,.ref a])))(r:s.heap.objs.size<=a)(p:s.heap.objs.size<=g)(n:g≠a)(A:h'.get? g=some i)(l:h'.get? a=some m)(C:m.data= .fields vs)(w:vs[1]? =some (.str qual t)):
  ∃u,Inv X pins σ u {s with heap:=h',toks:=tk}/\Made H u P qs qual g a i:=by
 have f:=I.hok.fresh r;have e:=I.hok.fresh p;have N:=I.grown (t':=tk) h v D;have k:a≠P:=λz=>by rw [z,h] at f;cases f
 have j:g≠P:=λz=>by rw [z,h] at e;cases e
 have J:qr X pins (upd H P (.tbl (ps++ #[dL pos.line,dL pos.col,.ref a]))) a:=I.fpOk r (by rw [aC k];exact f);have M:=N.track J d l;have G:qr X pins (upd (upd H P (.tbl (ps++ #[dL pos.line,dL pos.col,.ref a]))) a (.frz m Any)) g:=I.fpOk p (by rw [aC n,aC j];exact e);exact ⟨_,M.track G d A,Jp h x y L B f e n C w⟩
def wX(I:Inv X pins σ H s)(d:X.ex=[]){tk:Tok}{h g:af}(l:mz H P qs)(m:CodeAt H h qual)(j:∀b o,s.heap.get? b=some o->h'.get? b=some o)(f:s.heap.objs.size<=g)(k:h'.get? g=some a):
  ∃i,Inv X pins σ i {s with heap:=h',toks:=tk}/\Made H i P qs qual g h a:=by
 have e:=I.hok.fresh f;have n:=I.kept (t':=tk) j;exact ⟨_,n.track (I.fpOk f e) d k,Jq l m e⟩
def Js(I:Inv X pins σ H s)(m:X.ex=[])(i:X.env.code= .ref c)(C:nH X.base c P)(B:Xa X.base X.mg)(U:mz H P qs)(ap:Apart pos (X.env.qual++"<lambda>") qs)(u:KG params X.env=([],[]))(f:∀y∈scope.names,y.2= .free->∃c,X.env.cells.lookup y.1=some c)(h:∀g k a pm l s',Inv X pins σ l s'->Made H l P qs (X.env.qual++"<lambda>") g k (tZ "<lambda>" (X.env.qual++"<lambda>") params d scope (df X.env.cells scope.names []) pm k a)->Q (.ref g) s'):
  bj (bP X.prog X.w) X.A (eval (.Lambda params d scope pos) X.env) Q E s:=by
 obtain ⟨Y,L,b1,b2,b3,w,b5,b6,b7⟩:=B;obtain ⟨ps,v,x,N⟩:=id U;have q:=Hk I v;have j:∀b o,X.base.get? b=some o->b≠P:=λb o e z=>by rw [z] at e;rw [(I.bs P o e).2] at v;cases v
 have T:=I.mod.glob.keeps I.bk;obtain ⟨og,_,_,eg,_⟩:=id I.mod.glob;refine MS u ?_;rcases N _ ap.1 with O | ⟨k,hf,cd⟩
 ·refine Es (mg:=X.mg) (jQ f) I.ok.glob T i (C.keeps I.bk) q x O (j _ _ eg) ⟨Y,L,b1,b2,b3,j _ _ w,I.bk _ _ w,b5,b6,b7⟩ λk a h' tk hx p n r D=> ?_;obtain ⟨c2,oc,vs,t,e2,J,hd,hv⟩:=r;cases e2;obtain ⟨l,A,M⟩:=zV (tk:=tk) (h':=h'.push (tZ "<lambda>" (X.env.qual++"<lambda>") params d scope (df X.env.cells scope.names []) ((X.mg "__name__").getD .none) k a)) I m v x N ap O (λb o nb e=>aq _ (hx b o nb e)) (aq _ D) p (ii (jA p n)) (nJ n) (bG _ rfl) (aq _ J) hd hv;exact h _ _ _ _ l _ A M
 ·refine PySem.W.kla_makeFunctionHit (mg:=X.mg) (jQ f) I.ok.glob T i (C.keeps I.bk) q x hf ⟨Y,L,b1,b2,b3,j _ _ w,I.bk _ _ w,b5,b6,b7⟩ λa h' tk kp G=> ?_;obtain ⟨l,A,M⟩:=wX (tk:=tk) (h':=h'.push (tZ "<lambda>" (X.env.qual++"<lambda>") params d scope (df X.env.cells scope.names []) ((X.mg "__name__").getD .none) k a)) I m U cd (λb o e=>aq _ (kp b o e)) G (bG _ rfl);exact h _ _ _ _ l _ A M
def JA(I:Inv X pins σ H s)(n:X.ex=[])(j:X.env.code= .ref c)(C:nH X.base c P)(B:Xa X.base X.mg)(U:mz H P qs)(ap:Apart pos qual qs)(i:∀y∈scope.names,y.2= .free->∃c,X.env.cells.lookup y.1=some c)(h:∀g l d pm a m s',Inv X pins σ m s'->Made H m P qs qual g l (OS name qual params f scope (df X.env.cells scope.names []) a pm l d)->Q (.ref g) s'):
  bj (bP X.prog X.w) X.A (makeFunction name qual params (.stmts f) scope X.env [] [] [] pos fl) Q E s:=by
 obtain ⟨Y,L,b1,b2,b3,w,b5,b6,b7⟩:=B;obtain ⟨ps,v,x,N⟩:=id U;have r:=Hk I v;have k:∀b o,X.base.get? b=some o->b≠P:=λb o e z=>by rw [z] at e;rw [(I.bs P o e).2] at v;cases v
 have T:=I.mod.glob.keeps I.bk;obtain ⟨og,_,_,eg,_⟩:=id I.mod.glob;rcases N _ ap.1 with O | ⟨l,hf,cd⟩
 ·refine PySem.W.makeFunction_K (mg:=X.mg) (jQ i) I.ok.glob T j (C.keeps I.bk) r x O (k _ _ eg) ⟨Y,L,b1,b2,b3,k _ _ w,I.bk _ _ w,b5,b6,b7⟩ λl d a h' tk hx q p u D=> ?_;obtain ⟨c2,oc,vs,t,e2,J,hd,hv⟩:=u;cases e2;obtain ⟨m,A,M⟩:=zV (tk:=tk) (h':=h'.push (OS name qual params f scope (df X.env.cells scope.names []) a ((X.mg "__name__").getD .none) l d)) I n v x N ap O (λb o nb e=>aq _ (hx b o nb e)) (aq _ D) q (ii (jA q p)) (nJ p) (bG _ rfl) (aq _ J) hd hv;exact h _ _ _ _ _ m _ A M
 ·refine PySem.W.makeFunction_hit (mg:=X.mg) (jQ i) I.ok.glob T j (C.keeps I.bk) r x hf ⟨Y,L,b1,b2,b3,k _ _ w,I.bk _ _ w,b5,b6,b7⟩ λd a h' tk kp G=> ?_;obtain ⟨m,A,M⟩:=wX (tk:=tk) (h':=h'.push (OS name qual params f scope (df X.env.cells scope.names []) a ((X.mg "__name__").getD .none) l d)) I n U cd (λb o e=>aq _ (kp b o e)) G (bG _ rfl);exact h _ _ _ _ _ m _ A M
end
def FnH(H:Hp)(g:af):Prop:=∃d b fd a,H g=some (.frz ⟨d,b,.func fd,a⟩ Any)
def FnH.at_(f:FnH H g)(ok:HOk P w H h):FnAt g h:=by
 obtain ⟨d,b,fd,a,e⟩:=f;exact ⟨d,b,fd,a,(ok g _ e).1⟩
structure CellsIn (X:Cx) (σ:St) (b':cz):Prop where
 old:∀b o,X.base.get? b=some o→b'.get? b=some o
 cel:∀z c,X.env.cells.lookup z=some c→∃v,b'.IsCell c v
 val:∀(i:Nat) (z:Str) (v:V),X.N[i]? =some z→σ[i]? =some (some v)→(X.env.kindOf z=some .cell∨X.env.kindOf z=some .free)→∃c u,X.env.cells.lookup z=some c∧b'.IsCell c (some u)∧RelV v u
 inj:∀y z c,X.env.cells.lookup y=some c→X.env.cells.lookup z=some c→y=z
def CellsIn.clo{scope:i_}(L:CellsIn X s I)(len:fvs.length=fr.length)(C:∀x∈fr,(x,dw)∈scope.names)(B:∀x,(x,dw)∈scope.names->x∈fr)(h:∀(j:Nat) (x:Str),fr[j]? =some x->∃(i:Nat) (v:V),X.N[i]? =some x/\s[i]? =some (some v)/\fvs[j]? =some v/\(X.env.kindOf x=some .cell\/X.env.kindOf x=some .free)):
  X5 I (df X.env.cells scope.names []) fr fvs:=by
 have a:∀x c,(df X.env.cells scope.names []).lookup x=some c->X.env.cells.lookup x=some c:=λx c e=>by
  rcases qc _ _ e with z | ⟨A,o⟩
  ·cases z
  ·obtain ⟨j,l⟩:=wH (B x A);obtain ⟨i,v,g,b,_,n⟩:=h j x l;obtain ⟨r,u,m,_⟩:=L.val i x v g b n;rw [m] at o;rw [m];exact congrArg some o
 refine ⟨len,λj x l=> ?_,λx c e=>L.cel x c (a x c e),λx y c g b=>L.inj x y c (a x c g) (a y c b)⟩;obtain ⟨i,v,g,b,H,n⟩:=h j x l;obtain ⟨r,u,m,G,D⟩:=L.val i x v g b n;obtain ⟨d,q⟩:=lz.mp (yG (cells:=X.env.cells) scope.names [] (.inl (C x (bD l))));have:=a x d q;rw [m] at this;cases this;exact ⟨r,u,v,q,G,H,D⟩
section
variable {X:Cx} {CX:AK} {k:Nat} {f c P:af} {fd:ip} {x name:Str} {p pos:Pos} {E:XK} {params:kG} {scope:i_} {qs:List (Pos×Str)} {ps:List Str} {e:eM} {es:List eM} {t:TA} {i:Nat}
def DO{l:St}(I:Inv X pins l H s)(R:Reb X H s D)(a:X.ex=[])(d:∀x,X.fn x=true):CellsIn X l D:=by
 refine ⟨R.old,λz g e=> ?_,λi z v C B n=> ?_,I.ok.inj⟩
 ·obtain ⟨v,q⟩:=I.cell z g e;exact ⟨v,R.cell I a d e q⟩
 ·obtain ⟨m,G,r⟩:=I.loc;have h:Ms X.env.scope z:=n.elim (λy=> .inr (.inl y)) λy=> .inr (.inr y);obtain ⟨u,o,j⟩:=r i z v C B h;rcases j with ⟨b,_⟩ | ⟨_,g,e,A⟩
  ·rcases n with y | y<;>rw [y] at b<;>cases b
  ·exact ⟨g,u,e,R.cell I a d e A,o⟩
def Qy(X:Cx)(P:af)(qs:List (Pos×Str))(params:kG)(a:eM)(scope:i_):TE:=λ_ H Q=>mz H P qs/\∀g c' ctv pm b,Made H b P qs (X.env.qual++"<lambda>") g c' (tZ "<lambda>" (X.env.qual++"<lambda>") params a scope (df X.env.cells scope.names []) pm c' ctv)->Q (.ref g) b
def M8(l:X.ex=[])(b:X.env.code= .ref c)(C:nH X.base c P)(B:Xa X.base X.mg)(q:Apart pos (X.env.qual++"<lambda>") qs)(a:∀y∈scope.names,y.2= .free->∃c,X.env.cells.lookup y.1=some c)(d:KG params X.env=([],[]):=by rfl):
  PE X (.Lambda params j scope pos) (Qy X P qs params j scope):=by
 intro n s u H Q I h;obtain ⟨o,h⟩:=h;exact Js I l b C B o q d a λg c' ctv pm m v r M=>⟨.ref g,m,r,rfl,h g c' ctv pm m M⟩
def QA(X:Cx)(P:af)(qs:List (Pos×Str))(i:Nat)(name:Str)(params:kG)(a:List dm)(scope:i_):TS:=λD d H=>mz H P qs/\∀g c' ctv pm doc b,Made H b P qs (RH X.env name name) g c' (OS name (RH X.env name name) params a scope (df X.env.cells scope.names []) doc pm c' ctv)->D.nx (d.set i (some (.ref g))) b
def M3(G:X.N.Nodup)(u:X.N[i]? =some name)(r:Loc X.env.scope name)(j:X.ex=[])(b:X.env.code= .ref c)(C:nH X.base c P)(B:Xa X.base X.mg)(J:Apart pos (RH X.env name name) qs)(a:∀y∈scope.names,y.2= .free->∃c,X.env.cells.lookup y.1=some c)(m:X.fn name=true\/X.env.scope.names.lookup name=some .local:=by first | exact .inl rfl | exact .inr rfl | assumption)(n:params.defaults=[]:=by rfl)(l:params.kw_defaults=[]:=by rfl)(z:annTrees params none X.env=[]:=by rfl):
  PS X (.FunctionDef name params d [] none [] scope none name pos) (QA X P qs i name params d scope):=by
 intro q s Q H D I h;obtain ⟨A,h⟩:=h;refine PySem.W.nestDef_K n l z (JA I j b C B A J a λg c' ctv pm doc o U O M=> ?_);exact yt (v:=WA g) O G u r rfl (λT L=>⟨_,o,L,h g c' ctv pm doc o M⟩) m
def Oa(X:Cx)(CX:AK)(k:Nat)(f:af)(fd:ip)(ps:List Str)(E:XK)(t:TA):TE:=λa H Q=>t a H λd g=>∀b,CellsIn X a b->∃sp,Wz X.prog X.w X.K X.mg b CX k f fd ps sp/\sp (d++[]) g Q E
def rS(d:X.ex=[])(j:∀x,X.fn x=true)(o:Wy k X.A)(y:Gl X x)(u:X.mg x=some (.ref f))(v:bq X.K (.ref f)=true)(A:Binds X.K fd ps [])(n:ge CX X E)(B:PA X (e::es) t)(l:(x==("__debug__":Str))=false:=by decide)(z:bx (e::es) X.env=(false,eval e X.env)::bx es X.env:=by rfl)(g:(fV pos (bx es X.env)).any (·.1)=false:=by rfl):
  PE X (.Call (.Name x p) (e::es) [] pos) (Oa X CX k f fd ps E t):=by
 intro a s m H Q I h;refine dk (oh I y u ?_ l);refine jl (h₀:=X.base) I.ok.mod.kin v (gL (B pos a s m H _ I h) λG J ⟨D,L,b,r,q⟩=>⟨b.kIn,?_⟩) z g;obtain ⟨C,R⟩:=b.reb;obtain ⟨sp,F,q⟩:=q C (DO b R d j);exact Bh F R.env o A .nil n b r q
def LS(X:Cx)(CX:AK)(k:Nat)(ps:List Str)(E:XK)(i:Nat)(t:TA):TE:=λa H Q=>∃g,a[i]? =some (some (.ref g))/\FnH H g/\t a H λh d=>FnH d g/\∀b,CellsIn X a b->∃fd sp,Wz X.prog X.w X.K X.mg b CX k g fd ps sp/\Binds X.K fd ps []/\sp (h++[]) d Q E
def FC(j:X.ex=[])(m:∀x,X.fn x=true)(L:Wy k X.A)(U:X.N[i]? =some x)(G:Ms X.env.scope x)(D:ge CX X E)(T:PA X (e::es) t)(n:(x==("__debug__":Str))=false:=by decide)(o:(x==("__classdict__":Str))=false:=by decide)(M:bx (e::es) X.env=(false,eval e X.env)::bx es X.env:=by rfl)(l:(fV pos (bx es X.env)).any (·.1)=false:=by rfl):PE X (.Call (.Name x p) (e::es) [] pos) (LS X CX k ps E i t):=by
 intro a s z H Q I h;obtain ⟨g,J,Y,h⟩:=h;refine dk (gL (zO U G n o a s z H (λv d=>v= .ref g/\d=H) I ⟨_,J,rfl,rfl⟩) λu B ⟨v,d,A,C,ev,eH⟩=> ?_);subst ev eH;obtain rfl:u=bO g:=C;refine KP (Y.at_ A.hok) (gL (T pos a B z d _ A h) λus s2 ⟨vs,H2,b,r,y,q⟩=>⟨y.at_ b.hok,?_⟩) M l;obtain ⟨b',R⟩:=b.reb;obtain ⟨fd,sp,F,O,q⟩:=q b' (DO b R j m);exact Bh F R.env L O .nil D b r q
def LR(P:be)(w:bN)(K:ac)(mg:Str->Option al)(base:cz)(CX:AK)(k:Nat)(ps:List Str)(E:XK)(i:Nat)(t:TA):TE:=λa H Q=>∃g sp fd,a[i]? =some (some (.ref g))/\Wz P w K mg base CX k g fd ps sp/\Binds K fd ps []/\FnH H g/\t a H λd b=>FnH b g/\sp (d++[]) b Q E
def Fy(G:Wy k X.A)(O:X.N[i]? =some x)(C:Ms X.env.scope x)(B:ge CX X E)(M:PA X (e::es) t)(j:(x==("__debug__":Str))=false:=by decide)(l:(x==("__classdict__":Str))=false:=by decide)(J:bx (e::es) X.env=(false,eval e X.env)::bx es X.env:=by rfl)(d:(fV pos (bx es X.env)).any (·.1)=false:=by rfl):PE X (.Call (.Name x p) (e::es) [] pos) (LR X.prog X.w X.K X.mg X.base CX k ps E i t):=by
 intro a s n H Q I h;obtain ⟨g,sp,fd,D,F,L,T,h⟩:=h;refine dk (gL (zO O C j l a s n H (λv b=>v= .ref g/\b=H) I ⟨_,D,rfl,rfl⟩) λu z ⟨v,b,y,A,U,Y⟩=> ?_);subst U Y;obtain rfl:u=bO g:=A;refine KP (T.at_ y.hok) (gL (M pos a z n b _ y h) λus s2 ⟨vs,H2,o,r,m,q⟩=>⟨m.at_ o.hok,?_⟩) J d;exact zI F G L .nil B o r q
end
section
variable {CX:AK} {P:be} {w:bN} {K:ac} {mg:Str→Option al} {base:cz} {k:Nat} {f:af} {name qual:Str} {params:kG} {scope:i_} {cl:List (Str×af)} {pm doc ctv:al} {N ps fr:List Str} {fvs:List V} {sp:Sp} {c':af}
def CodeAt.rec(x:CodeAt H c' qual)(ok:HOk P w H h):h.CodeRec (.ref c') qual:=by
 obtain ⟨b,a,t,e,g,d⟩:=x;exact ⟨c',b,a,t,rfl,(ok c' _ e).1,g,d⟩
def Mg(ho:∀vs H Q E,sp vs H Q E->H f=some (.frz (tZ name qual params a scope cl pm c' ctv) Any))(B:∀vs H Q E,sp vs H Q E->CodeAt H c' qual)(S:X4 N ps fr scope)(C:X5 base cl fr fvs)(len:∀vs H Q E,sp vs H Q E->vs.length=ps.length)(g:∀(A:gt) (outer:List Env) (s:aK) (H:Hp) (vs:List V) (Q:VK) (E:XK),Wy k (A.deeper (OT qual scope s.heap.objs.size f (.ref c') cl))->sp vs H Q E->
   ∃t,PE (Pw CX P w K mg base N (λ_=>false) (OT qual scope s.heap.objs.size f (.ref c') cl) A outer s H E) a t/\t (pY N vs fvs) H Q):
  Wz P w K mg base CX (k+1) f (kla_fn name qual params a scope cl pm (.ref c') ctv) ps sp:=by
 refine ⟨len,λA outer s H D G vs Q E l h hb r d=> ?_⟩;have hl:=len _ _ _ _ d;have m:s.heap.NoLimit:=h.mod.nolimit.keeps λb o e=>(h.bs b o e).1;refine JM l.depth (h.hok f _ (ho _ _ _ _ d)).1 rfl S.co S.gen rfl ((B _ _ _ _ d).rec h.hok) (hb _ _ _ _ ?_);refine A5 S.nocell (λ⟨n,v⟩ O=>S.par n (gS O).1) (λh1 y j=>⟨m.fresh _ j,?_⟩) S.kind;have hk:∀b o,s.heap.get? b=some o->h1.get? b=some o:=λb o e=>j.extBut b o (cu (aZ e)) (aq _ e);obtain ⟨t,T,Y⟩:=g A outer s H vs Q E (l.deeper _) d;have I:=tj (CX:=CX) (qual:=qual) (f:=f) (cdv:= .ref c') (E:=E) (t':=s.toks+(ps.zip G).length) S C l.hd h hl r y hk;show m_ _ _ (.expr a (OT qual scope s.heap.objs.size f (.ref c') cl)) _ _;refine JL (ft (T [] _ (pY N vs fvs) H Q I Y) (λu L z=> ?_) λe L U=>U);obtain ⟨v,H',J,M,q⟩:=z;exact ⟨v,H',J.os,J.bare,J.base,J.hok,M,q⟩
def Mn(ho:∀vs H Q E,sp vs H Q E->H f=some (.frz (OS name qual params h scope cl doc pm c' ctv) Any))(O:∀vs H Q E,sp vs H Q E->CodeAt H c' qual)(S:X4 N ps fr scope)(C:X5 base cl fr fvs)(len:∀vs H Q E,sp vs H Q E->vs.length=ps.length)(j:∀(A:gt) (outer:List Env) (s:aK) (H:Hp) (vs:List V) (Q:VK) (E:XK),Wy k (A.deeper (OT qual scope s.heap.objs.size f (.ref c') cl))->sp vs H Q E->
   ∃t,HR (Pw CX P w K mg base N (λ_=>false) (OT qual scope s.heap.objs.size f (.ref c') cl) A outer s H E) h t/\t {nx:=λ_ g=>Q .non g,rt:=Q} (pY N vs fvs) H):
  Wz P w K mg base CX (k+1) f (fnX name qual params h scope cl .none .none doc pm none (.ref c') ctv) ps sp:=by
 refine ⟨len,λA outer s H T U vs Q E G l hb r d=> ?_⟩;have hl:=len _ _ _ _ d;have L:s.heap.NoLimit:=l.mod.nolimit.keeps λb o e=>(l.bs b o e).1;refine P6 G.depth (l.hok f _ (ho _ _ _ _ d)).1 rfl S.co S.gen rfl ((O _ _ _ _ d).rec l.hok) (hb _ _ _ _ ?_);refine A5 S.nocell (λ⟨n,v⟩ Y=>S.par n (gS Y).1) (λh1 M m=>⟨L.fresh _ m,VY ?_⟩) S.kind;have hk:∀b o,s.heap.get? b=some o->h1.get? b=some o:=λb o e=>m.extBut b o (cu (aZ e)) (aq _ e);obtain ⟨t,ht,hq⟩:=j A outer s H vs Q E (G.deeper _) d;have I:=tj (CX:=CX) (qual:=qual) (f:=f) (cdv:= .ref c') (E:=E) (t':=s.toks+(ps.zip U).length) S C G.hd l hl r M hk;refine ft (ht [] _ (pY N vs fvs) H _ I hq) (λfl B z=> ?_) λe B hs=>hs;have y:∀{a:St} {g:Hp} {v:V} {u:al},Inv (Pw CX P w K mg base N (λ_=>false) (OT qual scope s.heap.objs.size f (.ref c') cl) A outer s H E) [] a g B->RelV v u->Q v g->CE outer P w H s Q u B:=
  λ{a g v u} J D q=>⟨v,g,J.os,J.bare,J.base,J.hok,D,q⟩
 cases fl with
 | ret u=>
  obtain ⟨v,a,g,J,D,q⟩:=z;exact y J D q
 | next=>
  obtain ⟨a,g,J,q⟩:=z;exact y (v:=V.non) (u:=dC) J rfl q
 | brk=>
  obtain ⟨_,_,_,q⟩:=z;exact dn q
 | cont=>
  obtain ⟨_,_,_,q⟩:=z;exact dn q
end
end L2
open L2 renaming Any->X9
namespace OneM
open Vaarrb
def Fp(s)(n):s.foldl (λn x=>n*x) n=n*ai s:=by
 unfold ai
 induction s generalizing n with
 | nil=>simp
 | cons e s a=>rw [jI,jI,a,a (1*e),dF,Sa]
def product_nil:ai []=1:=rfl
def product_cons(e)(s):ai (e::s)=e*ai s:=by
 show (e::s).foldl (λn x=>n*x) 1=_;rw [jI,Fp,dF]
def product_append(s t):ai (s++t)=ai s*ai t:=by
 induction s with
 | nil=>rw [pE,product_nil,dF]
 | cons e s a=>rw [gi,product_cons,product_cons,a,Sa]
def tP(s):ai s.reverse=ai s:=by
 induction s with
 | nil=>rfl
 | cons e s a=>rw [nj,product_append,a,product_cons,product_cons,product_nil,pA,TN]
def nz(s:List Nat):Nat:=ai (s.filter λx=>x != 0)
def N_:nz []=1:=rfl
def sX(e)(s):nz (e::s)=(if e=0 then 1 else e)*nz s:=by
 unfold nz;by_cases h:e=0
 ·subst h;simp
 ·rw [List.filter_cons_of_pos (by simpa using h),product_cons,if_neg h]
def zB(s t):nz (s++t)=nz s*nz t:=by
 unfold nz;rw [yS,product_append]
def Hi(s):0<nz s:=by
 induction s with
 | nil=>exact MZ
 | cons e s a=>
  rw [sX];refine Nat.mul_pos ?_ a;by_cases h:e=0
  ·rw [if_pos h];exact MZ
  ·rw [if_neg h];omega
def wu(s):ai s<=nz s:=by
 induction s with
 | nil=>exact aO _
 | cons e s a=>
  rw [sX,product_cons];by_cases h:e=0
  ·subst h;simp
  ·rw [if_neg h];exact Nat.mul_le_mul_left _ a
def shapeOk_iff(s):aQ s=true↔s.length<=5/\nz s<=1024:=by
 unfold aQ nz VQ VR;rw [dS,decide_eq_true_eq,decide_eq_true_eq]
def product_small(h:aQ s=true):ai s<=1024:=cD (wu s) ((shapeOk_iff s).mp h).2
def Cy(s t):nz s<=nz (s++t):=by rw [zB];exact JX _ (Hi t)
def AD(s t):nz t<=nz (s++t):=by rw [zB];exact KW _ (Hi s)
def shapeOk_take(h:aQ s=true)(k):aQ (s.take k)=true:=by
 rw [shapeOk_iff] at h ⊢;refine ⟨cD (by rw [bQ];exact PV _ _) h.1,cD ?_ h.2⟩;have:=Cy (s.take k) (s.drop k)
 rwa [dD] at this
def shapeOk_drop(h:aQ s=true)(k):aQ (s.drop k)=true:=by
 rw [shapeOk_iff] at h ⊢;refine ⟨cD (by rw [bK];exact Nat.sub_le _ _) h.1,cD ?_ h.2⟩;have:=AD (s.take k) (s.drop k)
 rwa [dD] at this
def tO(h:aQ s=true):aQ s.reverse=true:=by
 rw [shapeOk_iff] at h ⊢;refine ⟨by rw [xp];exact h.1,?_⟩;have:nz s.reverse=nz s:=by unfold nz;rw [List.filter_reverse,tP]
 rw [this];exact h.2
theorem zC:∀{s:List Nat} {e:Nat},e∈s->e<=nz s
 | x::s,e,h=>by
  rw [sX];rcases aH.mp h with z | z
  ·subst z;by_cases a:e=0
   ·subst a;exact cy _
   ·rw [if_neg a];exact JX _ (Hi s)
  ·refine cD (zC z) (KW _ ?_);by_cases a:x=0
   ·rw [if_pos a];exact MZ
   ·rw [if_neg a];omega
def mem_small(h:aQ s=true)(m:e∈s):e<=1024:=cD (zC m) ((shapeOk_iff s).mp h).2
def ok_iff(a:Arr):a.ok=true↔aQ a.shape=true/\a.data.length=ai a.shape/\∀n∈a.data,dQ n=true:=by
 unfold Arr.ok;rw [dS,dS,decide_eq_true_eq,eU]
def element_iff(n):dQ n=true↔-1000000000000000000<=n/\n<=1000000000000000000:=by
 unfold dQ GREAT;rw [dS,decide_eq_true_eq,decide_eq_true_eq]
def n_(h0:0<=n)(a:n<=1025):dQ n=true:=(element_iff n).mpr ⟨by omega,by omega⟩
def handed(s:List Int):List Nat:=s.map λn=>if n<0 then VR+1 else n.toNat
def handed_ok(h:aQ (handed s)=true):(∀n∈s,0<=n)/\handed s=s.map E8:=by
 have a:∀n∈s,0<=n:=λn b=>by
  by_cases z:n<0
  ·exfalso;have m:VR+1∈handed s:=cR.mpr ⟨n,b,if_pos z⟩;have:=mem_small h m;unfold VR at this;omega
  ·omega
 exact ⟨a,g_ λn b=>if_neg (by have:=a n b;omega)⟩
theorem pieces_eq(c):∀(n:Nat) (l:List Int),jv c n l=(iu n).map λi=>(l.drop (i*c)).take c
 | 0,_=>rfl
 | n+1,l=>by
  show l.take c::jv c n (l.drop c)=_;rw [List.range_succ_eq_map,dI,pieces_eq c n,gu];congr 1
  ·simp
  ·refine g_ λi _=> ?_;show ((l.drop c).drop (i*c)).take c=(l.drop ((i+1)*c)).take c;rw [G3];congr 2;rw [eY,dF,nM]
def pieces_length(c n)(l):(jv c n l).length=n:=by rw [pieces_eq,am,gv]
def uA(h:l.length=n*c):∀p∈jv c n l,p.length=c:=by
 rw [pieces_eq];intro p b;obtain ⟨i,a,rfl⟩:=cR.mp b;rw [kH] at a;rw [bQ,bK,h];have:(i+1)*c<=n*c:=gj _ a;rw [eY,dF] at this;omega
theorem mu(c):∀(n:Nat) (l:List Int),l.length=n*c->(jv c n l).flatten=l
 | 0,l,h=>by
  rw [qx] at h;rw [cH.mp h];rfl
 | n+1,l,h=>by
  show (l.take c::jv c n (l.drop c)).flatten=l;rw [fP,mu c n _ (by rw [bK,h,eY,dF];omega),dD]
def wT(h:p∈jv c n l)(a:x∈p):x∈l:=by
 rw [pieces_eq] at h;obtain ⟨i,_,rfl⟩:=cR.mp h;exact gf (gM a)
def CG(a)(k):frameOf a k++cZ a k=a.shape:=dD _ _
def Fu(h:a.data.length=ai a.shape)(k):a.data.length=ai (frameOf a k)*ai (cZ a k):=by
 rw [h,<-product_append,CG]
def LL(h:a.ok=true)(k)(b:d∈im a k):({shape:=cZ a k,data:=d}:Arr).ok=true:=by
 obtain ⟨g,f,e⟩:=(ok_iff a).mp h;refine (ok_iff _).mpr ⟨shapeOk_drop g _,uA (Fu f k) d b,λn c=>e n (wT b c)⟩
def full_ok(h:aQ s=true)(e:dQ n=true):(jj s n).ok=true:=
 (ok_iff _).mpr ⟨h,bU,λm a=>by rw [(eG.mp a).2];exact e⟩
def items_eq(h:a.shape=e::s):cK a=jv (ai s) e a.data/\cQ a=s:=by
 have b:a.rank=s.length+1:=by unfold kO;rw [h];rfl
 refine ⟨?_,by unfold cQ;rw [h];rfl⟩;unfold cK im cZ frameOf;rw [b,h];have c:s.length+1 - (s.length+1 - 1)=1:=by omega
 rw [c];show jv (ai s) (ai [e]) a.data=_;rw [product_cons,product_nil,pA]
def asVector_ok(h:a.ok=true):(bt a).ok=true:=by
 obtain ⟨g,f,d⟩:=(ok_iff a).mp h;unfold bt;by_cases c:a.shape.isEmpty=true
 ·rw [if_pos c];have e:a.shape=[]:=jg.mp c;have b:a.data.length=1:=by rw [f,e];rfl
  refine (ok_iff _).mpr ⟨?_,?_,d⟩
  ·show aQ [a.data.length]=true;rw [b];decide
  ·show a.data.length=ai [a.data.length];rw [product_cons,product_nil,pA]
 ·rw [if_neg c];exact h
def asVector_shape(a):∃e s,(bt a).shape=e::s:=by
 unfold bt;by_cases c:a.shape.isEmpty=true
 ·rw [if_pos c];exact ⟨a.data.length,[],rfl⟩
 ·rw [if_neg c];cases h:a.shape with
  | nil=>rw [h] at c;exact absurd rfl c
  | cons e s=>exact ⟨e,s,rfl⟩
open Vaarrc (kinded workAll scalarOne scalarTwo small truth isTruth notOf divOf modOf andOf orOf prim1 prim2 paired longer elem agree full)
def OkR{E:Type}(r:Except E Arr):Prop:=∀a,r= .ok a->a.ok=true
theorem OkR.error(k):OkR (.error k:Except E Arr):=λ_ h=>by cases h
def OkR.mk(h:a.ok=true):OkR (.ok a:Except E Arr):=λb e=>by cases e;exact h
theorem OkR.kinded {r:Res} (h:OkR r):OkR (b_ r):=λa e=>by
 cases r with
 | error k=>cases e
 | ok b=>
  have c:b=a:=jo e;rw [<-c];exact h b rfl
def OkR.ite[Decidable p]{a b:Except E Arr}(e:OkR a)(d:OkR b):OkR (if p then a else b):=by
 by_cases c:p
 ·rw [if_pos c];exact e
 ·rw [if_neg c];exact d
theorem sR:∀{l:List A} {r:List Int},eB f l= .ok r->r.length=l.length/\∀n∈r,∃x∈l,f x= .ok n
 | [],r,h=>by cases h;exact ⟨rfl,λn c=>by cases c⟩
 | x::l,r,h=>by
  unfold eB at h;cases a:f x with
  | error k=>rw [a] at h;cases h
  | ok n=>
   rw [a] at h;cases b:eB f l with
   | error k=>rw [b] at h;cases h
   | ok j=>
    rw [b] at h;cases h;obtain ⟨i,g⟩:=sR b;refine ⟨by rw [aF,aF,i],λm d=> ?_⟩;rcases aH.mp d with z | z
    ·subst z;exact ⟨x,ar,a⟩
    ·obtain ⟨y,hy,e⟩:=g m z;exact ⟨y,au _ hy,e⟩
def mq(hy:y.ok=true)(i:∀a n,dQ a=true->f a= .ok n->dQ n=true):OkR (scalarOne f y):=λa e=>by
 obtain ⟨o,m,j⟩:=(ok_iff y).mp hy;unfold scalarOne at e;cases b:eB f y.data with
 | error k=>rw [b] at e;cases e
 | ok l=>
  rw [b] at e;cases e;obtain ⟨d,c⟩:=sR b;refine (ok_iff _).mpr ⟨o,d.trans m,λn h=> ?_⟩;obtain ⟨x,g,e⟩:=c n h;exact i x n (j x g) e
def paired_length(s t):(jR s t).length=ai (ju s t):=by
 unfold jR ju;split<;>rw [am,gv]
def longer_ok(b:aQ s=true)(a:aQ t=true):aQ (ju s t)=true:=by
 unfold ju;split<;>assumption
def elem_el(h:a.ok=true)(i):dQ (oF a i)=true:=by
 obtain ⟨_,_,b⟩:=(ok_iff a).mp h;unfold oF;cases e:a.data[i]? with
 | none=>decide
 | some n=>exact b n (bD e)
def yi(d:x.ok=true)(hy:y.ok=true)(o:∀a b n,dQ a=true->dQ b=true->f a b= .ok n->dQ n=true):OkR (lP f x y):=λa e=>by
 have h:=((ok_iff x).mp d).1;have g:=((ok_iff y).mp hy).1;unfold lP at e;split at e
 ·cases e
 ·cases c:eB (λ(p:Nat×Nat)=>f (oF x p.1) (oF y p.2)) (jR x.shape y.shape) with
  | error k=>rw [c] at e;cases e
  | ok l=>
   rw [c] at e;cases e;obtain ⟨j,i⟩:=sR c;refine (ok_iff _).mpr ⟨longer_ok h g,j.trans (paired_length _ _),λn m=> ?_⟩;obtain ⟨p,_,e⟩:=i n m;exact o _ _ n (elem_el d _) (elem_el hy _) e
def ou(h:ga b= .ok n):dQ n=true:=by
 unfold ga at h;cases h;cases b<;>decide
def yo(h:∀n∈l,n<=1025):∀n∈Vaarrb.ints l,dQ n=true:=λn a=>by
 obtain ⟨m,b,rfl⟩:=cR.mp a;exact n_ (by omega) (by have:=h m b;omega)
def rP(b:l.length<=1024)(a:∀n∈l,dQ n=true):(JH l).ok=true:=by
 refine (ok_iff _).mpr ⟨?_,by show l.length=ai [l.length];rw [product_cons,product_nil,pA],a⟩;show aQ [l.length]=true;rw [shapeOk_iff,sX,N_,pA];refine ⟨by simp,?_⟩;split<;>omega
def scalar_ok(h:dQ n=true):(dU n).ok=true:=(ok_iff _).mpr ⟨(by decide:aQ []=true),rfl,λm a=>by rw [aL.mp a];exact h⟩
section
variable {y:Arr} (hy:y.ok=true)
include hy in
def data_len:y.data.length<=1024:=by
 obtain ⟨b,a,_⟩:=(ok_iff y).mp hy;rw [a];exact product_small b
include hy in
def Cr:OkR (shapeFn y):=by
 obtain ⟨a,_,_⟩:=(ok_iff y).mp hy;refine .mk (rP ?_ (yo λn b=>cD (mem_small a b) (by decide)));unfold Vaarrb.ints;rw [am];have:=((shapeOk_iff _).mp a).1;omega
include hy in
def CJ:OkR (countFn y):=by
 obtain ⟨b,_,_⟩:=(ok_iff y).mp hy;refine .mk (scalar_ok ?_);cases e:y.shape with
 | nil=>decide
 | cons a s=>
  show dQ ((a:Nat):Int)=true;have:=mem_small (e:=a) b (by rw [e];exact ar);exact n_ (by omega) (by omega)
include hy in
def Cw:OkR (ravelFn y):= .mk (rP (data_len hy) ((ok_iff y).mp hy).2.2)
include hy in
theorem Fo:OkR (iotaFn y):=λa e=>by
 unfold iotaFn at e;cases b:iH y with
 | error k=>rw [b] at e;cases e
 | ok s=>
  rw [b] at e;dsimp only at e;split at e
  ·rename_i c;cases e;have:=product_small c;refine (ok_iff _).mpr ⟨c,by show (Vaarrb.ints (iu (ai s))).length=_;unfold Vaarrb.ints;rw [am,gv],yo λn d=> ?_⟩;rw [kH] at d;omega
  ·cases e
include hy in
def Qq (i:List Nat):dQ (at_ y i)=true:=by
 obtain ⟨_,_,a⟩:=(ok_iff y).mp hy;unfold at_;cases e:y.data[offset y.shape i]? with
 | none=>decide
 | some n=>exact a n (bD e)
include hy in
def Fq:OkR (flipFn y):=by
 obtain ⟨b,_,_⟩:=(ok_iff y).mp hy;refine .mk ((ok_iff _).mpr ⟨tO b,by show ((iu _).map _).length=_;rw [am,gv],λn a=> ?_⟩);obtain ⟨i,_,rfl⟩:=cR.mp a;exact Qq hy _
theorem flatten_len:∀{l:List (List Int)},(∀p∈l,p.length=c)->l.flatten.length=l.length*c
 | [],_=>by simp
 | p::l,h=>by
  rw [fP,bp,h p ar,flatten_len λq a=>h q (au _ a),aF,eY,dF,nM]
include hy in
def items_ok {e:Nat} {s:List Nat} (h:y.shape=e::s):(cK y).length=e/\(∀p∈cK y,p.length=ai s)/\(∀p∈cK y,∀n∈p,dQ n=true)/\(cK y).flatten=y.data:=by
 obtain ⟨f,d,c⟩:=(ok_iff y).mp hy;have l:y.data.length=e*ai s:=by rw [d,h,product_cons]
 rw [(items_eq h).1];exact ⟨pieces_length _ _ _,uA l,λp a n b=>c n (wT a b),mu _ _ _ l⟩
include hy in
def Fc:OkR (turnFn y):=by
 obtain ⟨f,l,k⟩:=(ok_iff y).mp hy;unfold turnFn;cases e:y.shape with
 | nil=>exact .mk hy
 | cons a s=>
  obtain ⟨i,h,g,j⟩:=items_ok hy e;refine .mk ((ok_iff _).mpr ⟨by rw [e] at f;exact f,?_,λn d=> ?_⟩)
  ·show ((cK y).reverse.flatten).length=ai (a::s);rw [flatten_len (c:=ai s) λp b=>h p (tR.mp b),xp,i,product_cons]
  ·obtain ⟨p,b,d⟩:=Bt.mp d;exact g p (tR.mp b) n d
theorem rc(x):∀l,(vX x l).length=l.length+1
 | []=>rfl
 | z::r=>by
  unfold vX;split
  ·rfl
  ·rw [aF,rc x r,aF]
theorem rb:∀{l},z∈vX x l->z=x\/z∈l
 | [],h=>by
  unfold vX at h;exact .inl (aL.mp h)
 | w::r,h=>by
  unfold vX at h;split at h
  ·rcases aH.mp h with q | q
   ·exact .inl q
   ·exact .inr q
  ·rcases aH.mp h with q | q
   ·exact .inr (by rw [q];exact ar)
   ·rcases rb q with q | q
    ·exact .inl q
    ·exact .inr (au _ q)
def CB(xs acc:List (List Int×Nat)):(xs.foldl (λl x=>vX x l) acc).length=acc.length+xs.length:=by
 induction xs generalizing acc with
 | nil=>rfl
 | cons x r a=>rw [jI,a,rc,aF];omega
def Cz(xs acc:List (List Int×Nat))(h:z∈xs.foldl (λl x=>vX x l) acc):z∈acc\/z∈xs:=by
 induction xs generalizing acc with
 | nil=>exact .inl h
 | cons x r a=>
  rw [jI] at h;rcases a _ h with q | q
  ·rcases rb q with q | q
   ·exact .inr (by rw [q];exact ar)
   ·exact .inl q
  ·exact .inr (au _ q)
include hy in
def CD:OkR (gradeFn y):=by
 obtain ⟨f,_,_⟩:=(ok_iff y).mp hy;unfold gradeFn;cases e:y.shape with
 | nil=>exact .error _
 | cons a s=>
  obtain ⟨b,_⟩:=items_ok hy e;have g:a<=1024:=mem_small f (by rw [e];exact ar);refine .mk (rP ?_ (yo λn d=> ?_))
  ·unfold Vaarrb.ints;rw [am,am,CB,List.length_zipIdx,b];show 0+a<=1024;omega
  ·obtain ⟨z,c,rfl⟩:=cR.mp d;rcases Cz _ _ c with q | q
   ·cases q
   ·have:=List.snd_lt_of_mem_zipIdx q;omega
def total_cons(n)(l):gx (n::l)=n+gx l:=by
 have g:∀(l:List Int) (a:Int),l.foldl (λn x=>n+x) a=a+gx l:=by
  intro l
  induction l with
  | nil=>intro a;show a=a+0;omega
  | cons b l c=>
   intro a;show l.foldl _ (a+b)=a+l.foldl _ (0+b);rw [c,c];omega
 show l.foldl _ (0+n)=_;rw [g];omega
theorem total_nonneg:∀{l:List Int},(∀n∈l,0<=n)->0<=gx l
 | [],_=>Eh _
 | n::l,h=>by
  rw [total_cons];have:=h n ar;have:=total_nonneg λm a=>h m (au _ a);omega
def zE(h0:0<=n)(a:n<=1024):capped n=n.toNat:=by
 unfold capped VR;rw [if_neg (by omega)]
theorem uy:∀(l:List A) (ns:List Int),(∀n∈ns,0<=n)->gx ns<=1024->jT l ns=(l.zip ns).flatMap λx=>aG x.2.toNat x.1
 | [],ns,_,_=>by simp [jT]
 | a::l,[],_,_=>by simp [jT]
 | a::l,n::ns,h,e=>by
  rw [total_cons] at e;have d:=h n ar;have f:=total_nonneg λm b=>h m (au _ b);have c:=uy l ns (λm b=>h m (au _ b)) (by omega);unfold jT at c ⊢;rw [fu,cV,cV,c,zE d (by omega)]
theorem repeated_len:∀(l:List A) (ns:List Int),l.length=ns.length->(∀n∈ns,0<=n)->gx ns<=1024->(jT l ns).length=(gx ns).toNat
 | [],[],_,_,_=>rfl
 | [],_::_,h,_,_=>by cases h
 | _::_,[],h,_,_=>by cases h
 | a::l,n::ns,f,h,e=>by
  rw [total_cons] at e;have d:=h n ar;have g:=total_nonneg λm b=>h m (au _ b);have c:=repeated_len l ns (sf f) (λm b=>h m (au _ b)) (by omega);unfold jT at c ⊢;rw [fu,cV,bp,c,bU,zE d (by omega),total_cons];omega
def pj{x:A}(h:x∈jT l ns):x∈l:=by
 unfold jT at h;obtain ⟨p,b,a⟩:=kP.mp h;rw [(eG.mp a).2];exact (gS (show (p.1,p.2)∈l.zip ns from b)).1
def any_neg{l:List Int}:(l.any λn=>decide (n<0))=true↔¬∀n∈l,0<=n:=by
 rw [oJ];constructor
 ·rintro ⟨n,a,h⟩ z;have:=z n a;have:=of_decide_eq_true h;omega
 ·intro h;by_cases c:∃n∈l,n<0
  ·obtain ⟨n,a,b⟩:=c;exact ⟨n,a,decide_eq_true b⟩
  ·exact absurd (λn a=>by
    by_cases z:0<=n
    ·exact z
    ·exact absurd ⟨n,a,by omega⟩ c) h
include hy in
def Co:OkR (whereFn y):=λa e=>by
 unfold whereFn at e;split at e
 ·cases e
 ·split at e
  ·cases e
  ·split at e
   ·cases e
   ·rename_i i h g;have c:∀n∈y.data,0<=n:=Bw λz=>h (any_neg.mpr z);have b:gx y.data<=1024:=by unfold VR at g;omega
    cases e;refine rP ?_ λn d=> ?_
    ·rw [repeated_len _ _ (by unfold Vaarrb.ints;rw [am,gv]) c b];omega
    ·have:=pj d;refine yo (l:=iu y.data.length) (λm f=> ?_) n this;rw [kH] at f;have:=data_len hy;omega
include hy in
def CH:OkR (firstFn y):=by
 obtain ⟨j,_,_⟩:=(ok_iff y).mp hy;unfold firstFn;cases e:y.shape with
 | nil=>exact .mk hy
 | cons a s=>
  obtain ⟨l,h,g,k⟩:=items_ok hy e;have f:cQ y=s:=(items_eq e).2;have c:aQ s=true:=by have:=shapeOk_drop j 1;rw [e] at this;exact this
  refine .mk ((ok_iff _).mpr ⟨by rw [f];exact c,?_,?_⟩)
  ·show ((cK y).headD _).length=ai (cQ y);cases b:cK y with
   | nil=>show (A4 (cQ y)).length=_;unfold A4;rw [bU]
   | cons p r=>rw [f];exact h p (by rw [b];exact ar)
  ·show ∀n∈(cK y).headD _,dQ n=true;cases b:cK y with
   | nil=>
    intro n i;have d:n∈A4 (cQ y):=i;rw [(eG.mp d).2];decide
   | cons p r=>exact g p (by rw [b];exact ar)
include hy in
def J4 (n:Text):OkR (prim1 n y):=by
 unfold prim1
 refine .ite ?_ ?_
 ·exact mq (f:=λa=> .ok (-a)) hy λa n ha e=>by
   have e': -a=n:=jo e
   rw [element_iff] at*;omega
 refine .ite ?_ ?_
 ·exact mq (f:=λa=> .ok ((a.natAbs:Nat):Int)) hy λa n ha e=>by
   have e':((a.natAbs:Nat):Int)=n:=jo e
   rw [element_iff] at*;omega
 refine .ite ?_ ?_
 ·exact mq (f:=λa=> .ok (if a<0 then -1 else if a=0 then 0 else 1)) hy λa n ha e=>by
   have e':(if a<0 then (-1:Int) else if a=0 then 0 else 1)=n:=jo e
   rw [<-e']
   split
   ·decide
   ·split<;>decide
 refine .ite ?_ ?_
 ·exact mq hy λa n ha e=>by
   unfold notOf at e
   split at e
   ·exact ou e
   ·cases e
 refine .ite ?_ ?_
 ·exact (Cr hy).kinded
 refine .ite ?_ ?_
 ·exact (CJ hy).kinded
 refine .ite ?_ ?_
 ·exact (Cw hy).kinded
 refine .ite ?_ ?_
 ·exact (Fo hy).kinded
 refine .ite ?_ ?_
 ·exact (Fq hy).kinded
 refine .ite ?_ ?_
 ·exact (Fc hy).kinded
 refine .ite ?_ ?_
 ·exact (CD hy).kinded
 refine .ite ?_ ?_
 ·exact (Co hy).kinded
 refine .ite ?_ ?_
 ·exact (CH hy).kinded
 ·exact .error _
end
end OneM
open OneM renaming product_nil->Xb,product_cons->Xc,product_append->Xd,shapeOk_iff->Xe,product_small->Xf,shapeOk_take->Xg,shapeOk_drop->Xh,mem_small->Xi,ok_iff->Xj,element_iff->Xk,handed_ok->Xl,pieces_length->Xm,full_ok->Xn,items_eq->Xo,asVector_ok->Xp,asVector_shape->Xq,OkR->Xr,paired_length->Xs,longer_ok->Xu,elem_el->Xv,scalar_ok->Xw,data_len->Xx,flatten_len->Xy,items_ok->Xz,total_cons->XA,total_nonneg->XB,repeated_len->XD,any_neg->XE,handed->Y7
namespace OneM
open Vaarrb
open Vaarrc (kinded workAll scalarOne scalarTwo small truth isTruth notOf divOf modOf andOf orOf prim1 prim2 paired longer elem agree full scalarOf)
def yh(h:eP n= .ok m):dQ m=true:=by
 unfold eP at h;split at h
 ·cases h;assumption
 ·cases h
def uD(a b:Int)(c:b≠0):(0<b->0<=a.fmod b/\a.fmod b<b)/\(b<0->b<a.fmod b/\a.fmod b<=0):=
 ⟨λh=>⟨KZ _ h,O_ _ h⟩,λh=>by
  have e:a.fmod b= -((-a).fmod (-b)):=by
   rw [Int.neg_fmod_neg];omega
  have f:=KZ (-a) (show 0< -b by omega);have d:=O_ (-a) (show 0< -b by omega);rw [e];omega⟩
def LK(l:dQ a=true)(f:b≠0):dQ (a.fdiv b)=true:=by
 rw [Xk] at*;have e:=MD a b;obtain ⟨p,n⟩:=uD a b f;generalize a.fdiv b=q at e ⊢;generalize a.fmod b=r at e p n;by_cases h:0<b
 ·obtain ⟨i,g⟩:=p h;constructor
  ·by_cases c:q< -1000000000000000000
   ·exfalso;have:b*q<=b*(-1000000000000000001):=Eg (by omega) (by omega);omega
   ·omega
  ·by_cases c:1000000000000000000<q
   ·exfalso;have:1*q<=b*q:=E9 (by omega) (by omega);omega
   ·omega
 ·obtain ⟨k,j⟩:=n (by omega);have d:1<=-b:=by omega
  constructor
  ·by_cases c:q< -1000000000000000000
   ·exfalso;have:1*(-q - 1)<=(-b)*(-q - 1):=E9 d (by omega);have m:(-b)*(-q - 1)=b*q+b:=by rw [Int.mul_sub,Int.neg_mul_neg];omega
    omega
   ·omega
  ·by_cases c:1000000000000000000<q
   ·exfalso;have:(-b)*1000000000000000001<=(-b)*q:=Eg (by omega) (by omega);rw [Int.neg_mul (a:=b) (b:=q)] at this;omega
   ·omega
def mod_eq(a b:Int):a - b*a.fdiv b=a.fmod b:=by
 have:=MD a b;omega
def LJ{a b:Int}(c:dQ b=true)(h0:b≠0):dQ (a.fmod b)=true:=by
 rw [Xk] at*;obtain ⟨p,n⟩:=uD a b h0;by_cases h:0<b
 ·have:=p h;omega
 ·have:=n (by omega);omega
def Ax{n:Text}(h:dj n=some f):∀a b m,dQ a=true->dQ b=true->f a b= .ok m->dQ m=true:=by
 intro a b m i g e;have t:∀{p:Prop} [Decidable p] {x y:Option (Int->Int->Except Nat Int)} {R:Prop},(if p then x else y)=some f->(x=some f->R)->(y=some f->R)->R:=by
  intro p _ x y R h k j;by_cases c:p
  ·rw [if_pos c] at h;exact k h
  ·rw [if_neg c] at h;exact j h
 unfold dj at h;refine t h (λz=> ?_) λh=> ?_
 ·cases z;exact yh e
 refine t h (λz=> ?_) λh=> ?_
 ·cases z;exact yh e
 refine t h (λz=> ?_) λh=> ?_
 ·cases z;exact yh e
 refine t h (λz=> ?_) λh=> ?_
 ·cases z;unfold En at e;split at e
  ·cases e
  ·rename_i c;cases e;exact LK i c
 refine t h (λz=> ?_) λh=> ?_
 ·cases z;unfold xf at e;split at e
  ·cases e
  ·rename_i c;cases e;rw [mod_eq];exact LJ g c
 refine t h (λz=> ?_) λh=> ?_
 ·cases z;have d:(if a<b then a else b)=m:=jo e;rw [<-d];split<;>assumption
 refine t h (λz=> ?_) λh=> ?_
 ·cases z;have d:(if a<b then b else a)=m:=jo e;rw [<-d];split<;>assumption
 refine t h (λz=> ?_) λh=> ?_
 ·cases z;exact ou e
 refine t h (λz=> ?_) λh=> ?_
 ·cases z;exact ou e
 refine t h (λz=> ?_) λh=> ?_
 ·cases z;exact ou e
 refine t h (λz=> ?_) λh=> ?_
 ·cases z;exact ou e
 refine t h (λz=> ?_) λh=> ?_
 ·cases z;unfold xg at e;split at e
  ·exact ou e
  ·cases e
 refine t h (λz=> ?_) λh=> ?_
 ·cases z;unfold A3 at e;split at e
  ·exact ou e
  ·cases e
 ·cases h
def Cq(b:l.length=ai s)(a:∀n∈l,dQ n=true):OkR (jS s l):=by
 unfold jS;by_cases c:aQ s=true
 ·rw [if_pos c];exact .mk ((Xj _).mpr ⟨c,b,a⟩)
 ·rw [if_neg c];exact .error _
def sW(d:∀p∈l,p.length=ai s)(c:∀p∈l,∀n∈p,dQ n=true):OkR (JR s l):=by
 unfold JR;refine Cq ?_ λn a=> ?_
 ·rw [Xy d,Xc]
 ·obtain ⟨p,b,a⟩:=Bt.mp a;exact c p b n a
def CI(s):(A4 s).length=ai s:=bU
def Hj:∀n∈A4 s,dQ n=true:=λn a=>by
 rw [(eG.mp a).2];decide
section
variable {x y:Arr} (hx:x.ok=true) (hy:y.ok=true)
include hy in
def yg:(∀p∈cK (bt y),p.length=ai (cQ (bt y)))/\(∀p∈cK (bt y),∀n∈p,dQ n=true)/\(cK (bt y)).length=(bt y).shape.headD 0/\(cK (bt y)).flatten=(bt y).data:=by
 obtain ⟨e,s,h⟩:=Xq y;obtain ⟨d,c,b,a⟩:=Xz (Xp hy) h;rw [(Xo h).2,h];exact ⟨c,b,d,a⟩
include hy in
def yl:OkR (gd x y):=λa e=>by
 obtain ⟨_,_,f⟩:=(Xj y).mp hy;unfold gd at e;cases b:iH x with
 | error k=>rw [b] at e;cases e
 | ok s=>
  rw [b] at e;dsimp only at e;split at e
  ·rename_i c;cases e;refine (Xj _).mpr ⟨c,by show ((iu _).map _).length=_;rw [am,gv],λn d=> ?_⟩;obtain ⟨i,_,rfl⟩:=cR.mp d;split
   ·decide
   ·cases e:y.data[i % y.data.length]? with
    | none=>decide
    | some m=>exact f m (bD e)
  ·cases e
include hy in
def Fe:OkR (nF x y):=λa e=>by
 obtain ⟨d,c,h,g⟩:=yg hy;unfold nF at e;cases f:fH x with
 | error k=>rw [f] at e;cases e
 | ok n=>
  rw [f] at e;dsimp only at e;split at e
  ·cases e
  ·refine sW (λp b=> ?_) (λp b=> ?_) a e
   all_goals
    unfold DT at b;split at b
    ·rcases bV.mp b with z | z
     ·first | exact d p (gM z) | exact c p (gM z)
     ·rw [(eG.mp z).2];first | exact CI _ | exact Hj
    ·rcases bV.mp b with z | z
     ·rw [(eG.mp z).2];first | exact CI _ | exact Hj
     ·first | exact d p (gf z) | exact c p (gf z)
include hy in
def Ft:OkR (nG x y):=λa e=>by
 obtain ⟨d,c,h,g⟩:=yg hy;unfold nG at e;cases f:fH x with
 | error k=>rw [f] at e;cases e
 | ok n=>
  rw [f] at e;refine sW (λp b=> ?_) (λp b=> ?_) a e
  all_goals
   split at b
   ·first | exact d p (gf b) | exact c p (gf b)
   ·first | exact d p (gM b) | exact c p (gM b)
include hy in
def Az:OkR (iz x y):=λa e=>by
 obtain ⟨m,r,q⟩:=(Xj y).mp hy;unfold iz at e;cases j:fH x with
 | error k=>rw [j] at e;cases e
 | ok n=>
  rw [j] at e;dsimp only at e;split at e
  ·cases e;exact hy
  ·rename_i c;cases f:y.shape with
   | nil=>rw [f] at c;exact absurd rfl c
   | cons b s=>
    obtain ⟨l,i,h,o⟩:=Xz hy f;cases e;refine (Xj _).mpr ⟨m,?_,λn d=> ?_⟩
    ·show (List.flatten _).length=ai y.shape;rw [Xy (c:=ai s),bp,bK,bQ,l,f,Xc]
     ·congr 1;omega
     ·intro p g;rcases bV.mp g with z | z
      ·exact i p (gf z)
      ·exact i p (gM z)
    ·obtain ⟨p,g,d⟩:=Bt.mp d;rcases bV.mp g with z | z
     ·exact h p (gf z) n d
     ·exact h p (gM z) n d
include hx in
def asItems_ok (y:Arr):(∃e s,(cC x y).shape=e::s)/\(cC x y).data.length=ai (cC x y).shape/\∀n∈(cC x y).data,dQ n=true:=by
 obtain ⟨k,b,a⟩:=(Xj x).mp hx;unfold cC;split
 ·exact ⟨⟨_,_,rfl⟩,by show x.data.length=ai [x.data.length];rw [Xc,Xb,pA],a⟩
 ·split
  ·rename_i j c;refine ⟨⟨_,_,rfl⟩,?_,λn h=> ?_⟩
   ·show (aG _ _).length=ai (1::cQ y);rw [bU,Xc,dF]
   ·have d:n∈aG (ai (cQ y)) (x.data.headD 0):=h;rw [(eG.mp d).2];have l:x.data.length=1:=by rw [b,jg.mp c];rfl
    match i:x.data,l with
    | [m],_=>exact a m (by rw [i];exact aL.mpr rfl)
  ·split
   ·exact ⟨⟨_,_,rfl⟩,by show x.data.length=ai (1::x.shape);rw [Xc,dF];exact b,a⟩
   ·rename_i j f o;refine ⟨?_,b,a⟩;cases g:x.shape with
    | nil=>rw [g] at f;exact absurd rfl f
    | cons e s=>exact ⟨e,s,rfl⟩
include hx hy in
def Fn:OkR (r_ x y):=λa e=>by
 obtain ⟨⟨i,b,k⟩,q,p⟩:=asItems_ok hx y;obtain ⟨⟨h,g,j⟩,o,m⟩:=asItems_ok hy x;unfold r_ at e;dsimp only at e;split at e
 ·cases e
 ·rename_i c;have d:cQ (cC x y)=cQ (cC y x):=Bw λz=>c (.inr z);unfold cQ at d;rw [k,j] at d;have f:b=g:=d;refine Cq ?_ (λn l=> ?_) a e
  ·rw [bp,q,o];unfold cQ;rw [k,j];show ai (i::b)+ai (h::g)=ai ((i+h)::b);rw [Xc,Xc,Xc,f,eY]
  ·exact (bV.mp l).elim (p n) (m n)
include hx hy in
def Fk:OkR (kZ x y):=λa e=>by
 obtain ⟨E,r,D⟩:=(Xj x).mp hx;unfold kZ at e;split at e
 ·cases e
 ·rename_i c;split at e
  ·cases e
  ·rename_i C;split at e
   ·cases e
   ·rename_i B;cases f:y.shape with
    | nil=>rw [f] at c;exact absurd rfl c
    | cons b s=>
     obtain ⟨w,v,u,H⟩:=Xz hy f;have k:cQ y=s:=(Xo f).2;cases e;have inr:∀n∈x.data,∃p∈cK y,((cK y)[n.toNat]?).getD []=p:=λn d=>by
      have I:0<=n/\n<(b:Int):=by
       have q:¬(decide (n<0)||decide (((y.shape.headD 0:Nat):Int)<=n))=true:=λz=>C (oJ.mpr ⟨n,d,z⟩);rw [jJ,decide_eq_true_eq,decide_eq_true_eq,f] at q;have G:¬(n<0\/((b:Nat):Int)<=n):=q;omega
      have lt:n.toNat<(cK y).length:=by rw [w];omega
      rw [aP lt];exact ⟨_,Pc lt,rfl⟩
     refine (Xj _).mpr ⟨by cases A:aQ (x.shape++cQ y) with | true=>rfl | false=>exact absurd A B,?_,λn d=> ?_⟩
     ·show (x.data.flatMap _).length=ai (x.shape++cQ y);rw [Xd,k,<-r];have g:∀l:List Int,(∀n∈l,n∈x.data)->(l.flatMap λn=>((cK y)[n.toNat]?).getD []).length=l.length*ai s:=by
       intro l
       induction l with
       | nil=>intro _;simp
       | cons n l t=>
        intro o;obtain ⟨p,i,e⟩:=inr n (o n ar);rw [cV,bp,t λm j=>o m (au _ j),e,v p i,aF,eY,dF,nM]
      exact g _ λ_ h=>h
     ·obtain ⟨m,j,d⟩:=kP.mp d;obtain ⟨p,i,e⟩:=inr m j;rw [e] at d;exact u p i n d
include hx hy in
def Fs:OkR (k_ x y):=λa e=>by
 obtain ⟨h,m,l⟩:=(Xj x).mp hx;obtain ⟨g,k,j⟩:=(Xj y).mp hy;unfold k_ at e;split at e
 ·cases e
 ·rename_i c;split at e
  ·cases e
  ·cases f:x.shape with
   | nil=>rw [f] at c;exact absurd rfl c
   | cons b s=>
    obtain ⟨r,_⟩:=Xz hx f;cases e;refine (Xj _).mpr ⟨Xg g _,?_,λn i=> ?_⟩
    ·show ((im y (x.rank - 1)).map _).length=ai (frameOf y (x.rank - 1));rw [am];unfold im;rw [Xm]
    ·obtain ⟨p,t,rfl⟩:=cR.mp i;have q:(cK x).findIdx (λd=>d==p)<=(cK x).length:=List.findIdx_le_length;have o:b<=1024:=Xi h (by rw [f];exact ar);exact n_ (by omega) (by omega)
def Fh:OkR (jK x y):= .mk (Xw (by split<;>decide))
include hy in
def Fl:OkR (oO x y):=λa e=>by
 obtain ⟨v1,v2,v3,v4⟩:=yg hy
 unfold oO at e
 dsimp only at e
 repeat' split at e
 all_goals first
  | (cases e;done)
  | exact sW (λp hp=>v1 p (pj hp)) (λp hp=>v2 p (pj hp)) a e
include hx hy in
def J3 (n:Text):OkR (oj n x y):=by
 unfold oj;cases a:dj n with
 | some f=>exact yi hx hy (Ax a)
 | none=>
  dsimp only;refine .ite (yl hy).kinded ?_;refine .ite (Fe hy).kinded ?_;refine .ite (Ft hy).kinded ?_;refine .ite (Az hy).kinded ?_;refine .ite (Fn hx hy).kinded ?_;refine .ite (Fk hx hy).kinded ?_;refine .ite (Fs hx hy).kinded ?_;refine .ite Fh.kinded ?_;refine .ite (Fl hy).kinded ?_;exact .error _
end
end OneM
open OneM renaming asItems_ok->XG
namespace OneM
open Vaarrb
open Vaarrc (Mod Work Env plainEnv plainWork modified runAll runPairs gather atOne atTwo tableTwo foldCells foldOne foldTwo scanCells scanOne scanTwo itemArrs cellArrs zeroCell ownRank paired longer agree arrAt full emptyFold prim1 prim2)
abbrev ER:=Except Nat
def Ay (f:Arr->ER Arr) (a:Arr) (r:List Arr):uS f (a::r)=match f a with
  | .error k=> .error k
  | .ok b=>match uS f r with
   | .error k=> .error k
   | .ok l=> .ok (b::l):=by
 show (f a>>= λb=>uS f r>>= λl=>pure (b::l))=_;cases f a with
 | error k=>rfl
 | ok b=>cases uS f r<;>rfl
def wr (f:Arr->Arr->ER Arr) (a:Arr×Arr) (r:List (Arr×Arr)):iQ f (a::r)=match f a.1 a.2 with
  | .error k=> .error k
  | .ok b=>match iQ f r with
   | .error k=> .error k
   | .ok l=> .ok (b::l):=by
 show (f a.1 a.2>>= λb=>iQ f r>>= λl=>pure (b::l))=_;cases f a.1 a.2 with
 | error k=>rfl
 | ok b=>cases iQ f r<;>rfl
def uC (f:Arr->Arr->ER Arr) (a c:Arr) (r:List Arr):gc f a (c::r)=match f a c with
  | .error k=> .error k
  | .ok b=>gc f b r:=by
 show (f a c>>= λb=>gc f b r)=_;cases f a c<;>rfl
def ux (f:Arr->Arr->ER Arr) (a c:Arr) (r:List Arr):ck f a (c::r)=match f a c with
  | .error k=> .error k
  | .ok b=>match ck f b r with
   | .error k=> .error k
   | .ok l=> .ok (b::l):=by
 show (f a c>>= λb=>ck f b r>>= λl=>pure (b::l))=_;cases f a c with
 | error k=>rfl
 | ok b=>
  show (ck f b r>>= λl=>pure (b::l))=(match ck f b r with | .error k=> .error k | .ok l=> .ok (b::l))
  cases ck f b r<;>rfl
def toldOf(r:ER Arr):List Nat:=match r with
 | .ok a=>a.shape
 | .error _=>[]
def shapeOfAll(zero:Unit->ER Arr)(b:List Arr):List Nat:=match b with
 | []=>toldOf (zero ())
 | a::_=>a.shape
def gather_eq(b)(zero:Unit->ER Arr)(c):hZ dq b zero c=
  if c.all (λa=>a.shape==shapeOfAll zero c)=false then .error tQ else if aQ (b++shapeOfAll zero c)=false then .error vO else .ok {shape:=b++shapeOfAll zero c,data:=c.flatMap λa=>a.data}:=by
 cases c with
 | nil=>rfl
 | cons a r=>rfl
def J6 (f:Arr->ER Arr) (k:Nat) (y:Arr):W7 dq f k y=match uS f (gW k y) with
  | .error k=> .error k
  | .ok a=>hZ dq (frameOf y (dg k y)) (λ_=>f (KA k y)) a:=by
 show (uS f (gW k y)>>= λa=>_)=_;cases uS f (gW k y)<;>rfl
def J5 (f:Arr->Arr->ER Arr) (k:Nat) (x y:Arr):Eb dq f k x y=if qt (frameOf x (dg k x)) (frameOf y (dg k y))=false then .error tQ else
  match iQ f ((jR (frameOf x (dg k x)) (frameOf y (dg k y))).map λp=>(mX (gW k x) p.1,mX (gW k y) p.2)) with
  | .error k=> .error k
  | .ok a=>hZ dq (ju (frameOf x (dg k x)) (frameOf y (dg k y))) (λ_=>f (KA k x) (KA k y)) a:=by
 unfold Eb;dsimp only;split
 ·rfl
 ·cases iQ f ((jR (frameOf x (dg k x)) (frameOf y (dg k y))).map λp=>(mX (gW k x) p.1,mX (gW k y) p.2))<;>rfl
def Aw (f:Arr->Arr->ER Arr) (x y:Arr):oG dq f x y=if aQ (x.shape++y.shape)=false then .error vO else
  match iQ f (x.data.flatMap λa=>y.data.map λb=>(dU a,dU b)) with
  | .error k=> .error k
  | .ok c=>hZ dq (x.shape++y.shape) (λ_=>f (dU 0) (dU 0)) c:=by
 unfold oG;split
 ·rfl
 ·cases iQ f (x.data.flatMap λa=>y.data.map λb=>(dU a,dU b))<;>rfl
def Cu (f:Arr->Arr->ER Arr) (y:Arr):JQ dq f y=match gb y with
  | []=> .ok (bt y)
  | c::r=>match ck f c r with
   | .error k=> .error k
   | .ok l=>hZ dq [r.length+1] (λ_=> .ok c) (c::l):=by
 unfold JQ;cases gb y with
 | nil=>rfl
 | cons c r=>
  show (ck f c r>>= λl=>hZ dq [r.length+1] (λ_=> .ok c) (c::l))=(match ck f c r with | .error k=> .error k | .ok l=>hZ dq [r.length+1] (λ_=> .ok c) (c::l))
  cases ck f c r<;>rfl
def Ct (f:Arr->Arr->ER Arr) (x y:Arr):kY dq f x y=match gb y with
  | []=> .ok (bt y)
  | c::r=>match ck f x (c::r) with
   | .error k=> .error k
   | .ok l=>hZ dq [r.length+1] (λ_=> .ok c) l:=by
 unfold kY;cases gb y with
 | nil=>rfl
 | cons c r=>
  show (ck f x (c::r)>>= λl=>hZ dq [r.length+1] (λ_=> .ok c) l)=(match ck f x (c::r) with | .error k=> .error k | .ok l=>hZ dq [r.length+1] (λ_=> .ok c) l)
  cases ck f x (c::r)<;>rfl
theorem zy{f:Arr->ER Arr}(j:∀a,a.ok=true->OkR (f a)):∀{l c:List Arr},(∀a∈l,a.ok=true)->uS f l= .ok c->c.length=l.length/\∀a∈c,a.ok=true
 | [],c,_,h=>by cases h;exact ⟨rfl,λa d=>by cases d⟩
 | a::l,c,i,h=>by
  rw [Ay] at h;cases d:f a with
  | error k=>rw [d] at h;cases h
  | ok b=>
   rw [d] at h;cases g:uS f l with
   | error k=>rw [g] at h;cases h
   | ok r=>
    rw [g] at h;cases h;obtain ⟨n,m⟩:=zy j (λx e=>i x (au _ e)) g;refine ⟨by rw [aF,aF,n],λx e=> ?_⟩;rcases aH.mp e with z | z
    ·rw [z];exact j a (i a ar) b d
    ·exact m x z
theorem qK{f:Arr->Arr->ER Arr}(j:∀a b,a.ok=true->b.ok=true->OkR (f a b)):∀{l:List (Arr×Arr)} {c:List Arr},(∀a∈l,a.1.ok=true/\a.2.ok=true)->iQ f l= .ok c->c.length=l.length/\∀a∈c,a.ok=true
 | [],c,_,h=>by cases h;exact ⟨rfl,λa d=>by cases d⟩
 | a::l,c,i,h=>by
  rw [wr] at h;cases d:f a.1 a.2 with
  | error k=>rw [d] at h;cases h
  | ok b=>
   rw [d] at h;cases g:iQ f l with
   | error k=>rw [g] at h;cases h
   | ok r=>
    rw [g] at h;cases h;obtain ⟨n,m⟩:=qK j (λx e=>i x (au _ e)) g;refine ⟨by rw [aF,aF,n],λx e=> ?_⟩;rcases aH.mp e with z | z
    ·rw [z];exact j _ _ (i a ar).1 (i a ar).2 b d
    ·exact m x z
theorem uE:∀{b:List Arr},(∀a∈b,a.ok=true)->(∀a∈b,a.shape=s)->(b.flatMap λa=>a.data).length=b.length*ai s
 | [],_,_=>by simp
 | a::r,e,d=>by
  rw [cV,bp,uE (λx c=>e x (au _ c)) (λx c=>d x (au _ c)),aF,eY,dF,
   ((Xj a).mp (e a ar)).2.1,d a ar,nM]
def pB{zero:Unit->ER Arr}(k:d.length=ai b)(j:∀a∈d,a.ok=true):OkR (hZ dq b zero d):=by
 rw [gather_eq];intro a e;split at e
 ·cases e
 ·rename_i c;split at e
  ·cases e
  ·rename_i l;cases e;have m:∀a∈d,a.shape=shapeOfAll zero d:=by
    have:d.all (λa=>a.shape==shapeOfAll zero d)=true:=by cases h:d.all (λa=>a.shape==shapeOfAll zero d) with | true=>rfl | false=>exact absurd h c
    intro a g;exact beq_iff_eq.mp (eU.mp this a g)
   have i:aQ (b++shapeOfAll zero d)=true:=by cases h:aQ (b++shapeOfAll zero d) with | true=>rfl | false=>exact absurd h l
   refine (Xj _).mpr ⟨i,?_,λn f=> ?_⟩
   ·show (d.flatMap λa=>a.data).length=_;rw [uE j m,Xd,k]
   ·obtain ⟨a,g,f⟩:=kP.mp f;exact ((Xj a).mp (j a g)).2.2 n f
def cellArrs_ok(b:y.ok=true)(k):(gW k y).length=ai (frameOf y (dg k y))/\∀a∈gW k y,a.ok=true:=by
 refine ⟨by unfold gW;rw [am];unfold im;rw [Xm],λa e=> ?_⟩;obtain ⟨d,c,rfl⟩:=cR.mp e;exact LL b _ c
def arrAt_ok(h:∀a∈l,a.ok=true)(i):(mX l i).ok=true:=by
 unfold mX;cases e:l[i]? with
 | none=>exact Xw (by decide)
 | some a=>exact h a (bD e)
def itemArrs_ok(b:y.ok=true):∀a∈gb y,a.ok=true:=λa g=>by
 obtain ⟨d,c,rfl⟩:=cR.mp g;obtain ⟨f,e,_,_⟩:=yg b;obtain ⟨h,_,_⟩:=(Xj _).mp (Xp b);exact (Xj _).mpr ⟨Xh h 1,f d c,e d c⟩
theorem pu{f:Arr->Arr->ER Arr}(g:∀a b,a.ok=true->b.ok=true->OkR (f a b)):∀{l:List Arr} {a:Arr},a.ok=true->(∀c∈l,c.ok=true)->OkR (gc f a l)
 | [],a,d,_=> .mk d
 | c::r,a,d,e=>by
  rw [uC];cases h:f a c with
  | error k=>exact .error _
  | ok b=>exact pu g (g a c d (e c ar) b h) λx i=>e x (au _ i)
theorem scanCells_ok{f:Arr->Arr->ER Arr}(m:∀a b,a.ok=true->b.ok=true->OkR (f a b)):∀{l d:List Arr} {a:Arr},a.ok=true->(∀c∈l,c.ok=true)->ck f a l= .ok d->d.length=l.length/\∀c∈d,c.ok=true
 | [],d,a,_,_,h=>by cases h;exact ⟨rfl,λc e=>by cases e⟩
 | c::r,d,a,o,j,h=>by
  rw [ux] at h;cases e:f a c with
  | error k=>rw [e] at h;cases h
  | ok b=>
   rw [e] at h;dsimp only at h;have n:=m a c o (j c ar) b e;cases i:ck f b r with
   | error k=>rw [i] at h;cases h
   | ok l=>
    rw [i] at h;cases h;obtain ⟨q,p⟩:=scanCells_ok m n (λx g=>j x (au _ g)) i;refine ⟨by rw [aF,aF,q],λx g=> ?_⟩;rcases aH.mp g with z | z
    ·rw [z];exact n
    ·exact p x z
def zD{y:Arr}(a:y.ok=true):y.data.length=ai y.shape:=((Xj y).mp a).2.1
def Rp(n):ai [n]=n:=by rw [Xc,Xb,pA]
structure WOk (w:Work ER):Prop where
 one:∀y,y.ok=true→OkR (w.one y)
 two:∀x y,x.ok=true→y.ok=true→OkR (w.two x y)
def AE(M:∀s,aQ s=true->OkR (g s))(W:WOk w)(q):WOk (UX dq g w q):=by
 have A:∀k y,y.ok=true->OkR (W7 dq w.one k y):=λk y f=>by
  obtain ⟨U,T⟩:=cellArrs_ok f k;rw [J6];cases u:uS w.one (gW k y) with
  | error e=>exact .error _
  | ok H=>
   obtain ⟨t,o⟩:=zy W.one T u;exact pB (t.trans U) o
 have D:∀y,y.ok=true->∀c r,gb y=c::r->c.ok=true/\(∀d∈r,d.ok=true):=λy f c r h=>by
  have:=itemArrs_ok f;rw [h] at this;exact ⟨this c ar,λd N=>this d (au _ N)⟩
 cases q with
 | fold=>
  refine ⟨λy f=> ?_,λx y j f=>pu W.two j (itemArrs_ok f)⟩;show OkR (OL w.two g y);unfold OL;cases h:gb y with
  | nil=>exact M _ (Xh ((Xj _).mp (Xp f)).1 1)
  | cons c r=>exact pu W.two (D y f c r h).1 (D y f c r h).2
 | scan=>
  refine ⟨λy f=> ?_,λx y j f=> ?_⟩
  ·show OkR (JQ dq w.two y);rw [Cu];cases h:gb y with
   | nil=>exact .mk (Xp f)
   | cons c r=>
    obtain ⟨I,Q⟩:=D y f c r h;dsimp only;cases E:ck w.two c r with
    | error k=>exact .error _
    | ok l=>
     obtain ⟨C,B⟩:=scanCells_ok W.two I Q E;refine pB (by rw [aF,C,Rp]) λa m=> ?_;rcases aH.mp m with z | z
     ·rw [z];exact I
     ·exact B a z
  ·show OkR (kY dq w.two x y);rw [Ct];cases h:gb y with
   | nil=>exact .mk (Xp f)
   | cons c r=>
    dsimp only;have m:=itemArrs_ok f;rw [h] at m;cases E:ck w.two x (c::r) with
    | error k=>exact .error _
    | ok l=>
     obtain ⟨C,B⟩:=scanCells_ok W.two j m E;exact pB (by rw [C,Rp,aF]) B
 | table=>
  refine ⟨λy f=>A 0 y f,λx y j f=> ?_⟩;show OkR (oG dq w.two x y);rw [Aw];split
  ·exact .error _
  ·have G:∀p∈x.data.flatMap λa=>y.data.map λb=>(dU a,dU b),p.1.ok=true/\p.2.ok=true:=λp v=>by
    obtain ⟨a,m,v⟩:=kP.mp v;obtain ⟨b,O,rfl⟩:=cR.mp v;exact ⟨Xw (((Xj x).mp j).2.2 a m),Xw (((Xj y).mp f).2.2 b O)⟩
   have J:(x.data.flatMap λa=>y.data.map λb=>(dU a,dU b)).length=ai (x.shape++y.shape):=by
    rw [Xd,<-zD j,<-zD f,N2];have:(x.data.map λa=>(y.data.map λb=>(dU a,dU b)).length)=aG x.data.length y.data.length:=by
     rw [KY];exact ⟨am _,λn L=>by obtain ⟨a,_,rfl⟩:=cR.mp L;exact am _⟩
    rw [this,List.sum_replicate_nat]
   cases u:iQ w.two (x.data.flatMap λa=>y.data.map λb=>(dU a,dU b)) with
   | error k=>exact .error _
   | ok H=>
    obtain ⟨t,o⟩:=qK W.two G u;exact pB (t.trans J) o
 | swap=>exact ⟨λy f=>W.two y y f f,λx y j f=>W.two y x f j⟩
 | at_ k=>
  refine ⟨λy f=>A k y f,λx y j f=> ?_⟩;show OkR (Eb dq w.two k x y);rw [J5];split
  ·exact .error _
  ·have G:∀p∈(jR (frameOf x (dg k x)) (frameOf y (dg k y))).map λp=>(mX (gW k x) p.1,mX (gW k y) p.2),p.1.ok=true/\p.2.ok=true:=λp v=>by
    obtain ⟨i,_,rfl⟩:=cR.mp v;exact ⟨arrAt_ok (cellArrs_ok j k).2 _,arrAt_ok (cellArrs_ok f k).2 _⟩
   cases u:iQ w.two ((jR (frameOf x (dg k x)) (frameOf y (dg k y))).map λp=>(mX (gW k x) p.1,mX (gW k y) p.2)) with
   | error k=>exact .error _
   | ok H=>
    obtain ⟨t,o⟩:=qK W.two G u;exact pB (t.trans (by rw [am,Xs])) o
def yp(base)(a)(s)(b:aQ s=true):OkR (emptyFold base a s):=by
 unfold emptyFold;split
 ·rename_i n h;refine .mk (Xn b ?_);unfold Vaarrc.identity at h;split at h
  ·cases h;decide
  ·split at h
   ·cases h;decide
   ·cases h
 ·exact .error _
theorem plainWork_ok(base):∀a:List Mod,WOk (HG base a)
 | []=>⟨λy b=>J4 b base,λx y c b=>J3 c b base⟩
 | q::r=>AE (yp base r) (plainWork_ok base r) q
end OneM
open OneM renaming toldOf->XH,shapeOfAll->XI,gather_eq->XJ,cellArrs_ok->XM,arrAt_ok->XN
namespace OneM
open Vaarrb
open Vaarrc (paired longer agree elem)
theorem sV:∀(s t:List Nat),s.isPrefixOf t=true↔t.take s.length=s
 | [],t=>by simp
 | a::s,[]=>by simp
 | a::s,b::t=>by
  rw [List.isPrefixOf,dS,sV s t];show _↔b::t.take s.length=a::s;constructor
  ·rintro ⟨d,c⟩;rw [c,beq_iff_eq.mp d]
  ·intro h;injection h with d c;exact ⟨beq_iff_eq.mpr d.symm,c⟩
def agree_iff(s t):qt s t=true↔s.take (min s.length t.length)=t.take (min s.length t.length):=by
 unfold qt;rw [jJ,sV,sV];by_cases h:s.length<=t.length
 ·rw [gY h,bH];constructor
  ·rintro (z | z)
   ·exact z.symm
   ·by_cases e:s.length=t.length
    ·rw [e,bH];rw [<-e,bH] at z;exact z
    ·have:=congrArg oU z;rw [bQ] at this;omega
  ·intro z;exact .inl z.symm
 ·have a:t.length<=s.length:=by omega
  rw [gI a,bH];constructor
  ·rintro (z | z)
   ·have:=congrArg oU z;rw [bQ] at this;omega
   ·exact z
  ·intro z;exact .inr z
def stretch{A:Type}(xs:List A)(n:Nat):List A:=xs.flatMap λa=>aG n a
def stretch_one(xs:List A):stretch xs 1=xs:=by
 unfold stretch
 induction xs with
 | nil=>rfl
 | cons a xs b=>rw [cV,b];rfl
def stretch_len(xs:List A)(n):(stretch xs n).length=xs.length*n:=by
 unfold stretch
 induction xs with
 | nil=>simp
 | cons a xs b=>rw [cV,bp,b,bU,aF,eY,dF,nM]
theorem qJ(c:0<n):∀(xs:List A) (i:Nat),(stretch xs n)[i]? =xs[i / n]?
 | [],i=>by simp [stretch]
 | a::xs,i=>by
  have b:=qJ c xs;unfold stretch at b ⊢;rw [cV];by_cases h:i<n
  ·rw [ln (by rw [bU];exact h),mJ,if_pos h,Nat.div_eq_of_lt h];rfl
  ·rw [iw (by rw [bU];omega),bU,b];have e:i / n=(i - n) / n+1:=by
    have:i=(i - n)+n:=by omega
    rw [this,Nat.add_div_right _ c];simp
   rw [e];rfl
theorem zip_get {A B:Type}:∀(xs:List A) (ys:List B) (i:Nat),(xs.zip ys)[i]? =match xs[i]?,ys[i]? with | some a,some b=>some (a,b) | _,_=>none
 | [],ys,i=>by simp
 | a::xs,[],i=>by simp
 | a::xs,b::ys,0=>rfl
 | a::xs,b::ys,i+1=>by
  rw [fu];show (xs.zip ys)[i]? =_;rw [zip_get xs ys i];rfl
def uF(h:qt s t=true):(s.length<=t.length->t=s++t.drop s.length)/\(t.length<=s.length->s=t++s.drop t.length):=by
 rw [agree_iff] at h;constructor
 ·intro l;rw [gY l,bH] at h;exact (dD s.length t).symm.trans (by rw [<-h])
 ·intro l;rw [gI l,bH] at h;exact (dD t.length s).symm.trans (by rw [h])
def pairs_eq(h:qt s t=true)(j:xs.length=ai s)(g:ys.length=ai t)(o:A)(n:B):
  (stretch xs (ai (t.drop s.length))).zip (stretch ys (ai (s.drop t.length)))=(jR s t).map λp=>(xs[p.1]?.getD o,ys[p.2]?.getD n):=by
 obtain ⟨m,k⟩:=uF h;apply List.ext_getElem?;intro i;unfold jR;by_cases l:t.length<s.length
 ·rw [if_pos l];have f:t.drop s.length=[]:=eI (by omega);have e:=k (by omega);have d:ai s=ai t*ai (s.drop t.length):=by rw [<-Xd,<-e]
  rw [f,Xb,stretch_one,zip_get,gu,bW];by_cases b:i<ai s
  ·have a:0<ai (s.drop t.length):=gH λz=>by rw [d,z,B3] at b;omega
   have c:i / ai (s.drop t.length)<ys.length:=by
    rw [g];exact (oI a).mpr (by rw [<-d];exact b)
   rw [qJ a,aP (show i<xs.length by omega),aP c];simp [b,aP (show i<xs.length by omega),aP c]
  ·rw [jL (show xs.length<=i by omega)];simp [b]
 ·rw [if_neg l];have f:s.drop t.length=[]:=eI (by omega);have e:=m (by omega);have d:ai t=ai s*ai (t.drop s.length):=by rw [<-Xd,<-e]
  rw [f,Xb,stretch_one,zip_get,gu,bW];by_cases b:i<ai t
  ·have a:0<ai (t.drop s.length):=gH λz=>by rw [d,z,B3] at b;omega
   have c:i / ai (t.drop s.length)<xs.length:=by
    rw [j];exact (oI a).mpr (by rw [<-d];exact b)
   rw [qJ a,aP c,aP (show i<ys.length by omega)];simp [b,aP (show i<ys.length by omega),aP c]
  ·rw [jL (show ys.length<=i by omega)];cases (stretch xs (ai (t.drop s.length)))[i]? <;>simp [b]
theorem ox(c):∀(e n:Nat) (l:List Int),l.length=e*c->((jv c e l).take n).flatten=l.take (n*c)
 | 0,n,l,h=>by
  rw [qx] at h;rw [cH.mp h];simp [jv]
 | e+1,0,l,h=>by simp
 | e+1,n+1,l,h=>by
  show (l.take c::(jv c e (l.drop c)).take n).flatten=_;rw [fP,ox c e n _ (by rw [bK,h,eY,dF];omega),eY,dF,nM,List.take_add]
theorem oy(c):∀(e n:Nat) (l:List Int),l.length=e*c->((jv c e l).drop n).flatten=l.drop (n*c)
 | 0,n,l,h=>by
  rw [qx] at h;rw [cH.mp h];simp [jv]
 | e+1,0,l,h=>by
  rw [kL,qx,kL];exact mu c (e+1) l h
 | e+1,n+1,l,h=>by
  show ((jv c e (l.drop c)).drop n).flatten=_;rw [oy c e n _ (by rw [bK,h,eY,dF];omega),G3,eY,dF];congr 1;omega
def rd(k)(s):(aG k (A4 s)).flatten=aG (k*ai s) (0:Int):=by
 induction k with
 | zero=>simp
 | succ k a=>
  rw [gw,fP,a,eY,dF];show aG (ai s) yM++_=_;rw [show yM=(0:Int) from rfl,List.replicate_append_replicate];congr 1;omega
section
variable {v:Arr} {e:Nat} {s:List Nat} (hs:v.shape=e::s) (hl:v.data.length=e*ai s)
include hs hl in
def Cp (n:Int):(DT n (A4 (cQ v)) (cK v)).flatten=
  if 0<=n then v.data.take (min n.natAbs e*ai s)++aG ((n.natAbs - min n.natAbs e)*ai s) 0
  else aG ((n.natAbs - min n.natAbs e)*ai s) 0++v.data.drop (v.data.length - min n.natAbs e*ai s):=by
 obtain ⟨d,b⟩:=Xo hs;unfold DT;rw [d,b];by_cases h:0<=n
 ·rw [if_pos h,if_pos h,lB,ox _ _ _ _ hl,Xm,rd];have a:n.toNat=n.natAbs:=by omega
  rw [a];congr 1
  ·by_cases c:n.natAbs<=e
   ·rw [gY c]
   ·rw [gI (by omega),<-hl,bH,di];rw [hl];exact gj _ (by omega)
  ·congr 2;omega
 ·rw [if_neg h,if_neg h,lB,oy _ _ _ _ hl,Xm,rd];have a:(-n).toNat=n.natAbs:=by omega
  rw [a];congr 1
  ·congr 2;omega
  ·congr 1;rw [hl,<-UC];congr 1;omega
include hs hl in
def yq (n:Int):(if 0<=n then (cK v).drop n.toNat else (cK v).take ((cK v).length - (-n).toNat)).flatten=
  (if n<0 then v.data.take ((e - n.natAbs)*ai s) else v.data.drop (v.data.length - (e - n.natAbs)*ai s))/\
  (if 0<=n then (cK v).drop n.toNat else (cK v).take ((cK v).length - (-n).toNat)).length=e - n.natAbs:=by
 obtain ⟨b,f⟩:=Xo hs;rw [b,Xm];by_cases h:0<=n
 ·rw [if_pos h,if_neg (by omega),oy _ _ _ _ hl,bK,Xm];have a:n.toNat=n.natAbs:=by omega
  rw [a];refine ⟨?_,rfl⟩;by_cases c:n.natAbs<=e
  ·congr 1;rw [hl,<-UC];congr 1;omega
  ·have d:e - n.natAbs=0:=by omega
   rw [d,qx,B2,Pd,eI];rw [hl];exact gj _ (by omega)
 ·rw [if_neg h,if_pos (by omega),ox _ _ _ _ hl,bQ,Xm];have a:(-n).toNat=n.natAbs:=by omega
  rw [a];exact ⟨rfl,by omega⟩
include hs hl in
def yk (m:Nat):((cK v).drop m++(cK v).take m).flatten=v.data.drop (m*ai s)++v.data.take (m*ai s):=by
 rw [(Xo hs).1,lB,oy _ _ _ _ hl,ox _ _ _ _ hl]
end
end OneM
open OneM renaming agree_iff->XO,stretch->XQ,pairs_eq->XR
namespace OneM
open Vaarrb
open Vaarrc (Mod Work Env plainEnv plainWork countedEnv countedWork Counted counted uncounted modified runAll runPairs gather atOne atTwo tableTwo foldCells foldOne foldTwo scanCells scanOne scanTwo itemArrs cellArrs zeroCell ownRank paired longer agree arrAt full emptyFold prim1 prim2)
def Prj(c:ej A)(p:ER A):Prop:=∀n,(c n).map (·.1)=p
theorem Prj.pure {A:Type} (a:A):Prj (pure a:ej A) (Pure.pure a):=λ_=>rfl
def Prj.bind{q:A->ER B}(h:Prj c p)(k:∀a,Prj (g a) (q a)):Prj (c>>= g) (p>>= q):=λn=>by
 have e:(c>>= g) n=(match c n with | .error e=> .error e | .ok x=>g x.1 x.2):=by
  show (c n>>= λx=>g x.1 x.2)=_;cases c n<;>rfl
 rw [e];have b:=h n;cases d:c n with
 | error e=>rw [d] at b;rw [<-b];rfl
 | ok x=>
  rw [d] at b;rw [<-b];exact k x.1 x.2
theorem Prj.ok{p:ER A}(h:Prj c p)(e:c n= .ok (a,m)):p= .ok a:=by
 have:=h n;rw [e] at this;exact this.symm
def Prj.err{p:ER A}(h:Prj c p)(e:c n= .error k):p= .error k:=by
 have:=h n;rw [e] at this;exact this.symm
def pW(k):Prj (dP.refuse k) (dq.refuse k):=λ_=>rfl
def J2(h:Prj c p):Prj (dP.told c) (dq.told p):=λn=>by
 have a:=h n;show (match c n with | .ok x=> .ok (x.1.shape,n) | .error _=> .ok ([],n):Except Nat (List Nat×Nat)).map (·.1)=_;cases b:c n with
 | error e=>rw [b] at a;rw [<-a];rfl
 | ok x=>rw [b] at a;rw [<-a];rfl
section
variable {f:Arr→ej Arr} {p:Arr→ER Arr} {g:Arr→Arr→ej Arr} {q:Arr→Arr→ER Arr}
theorem wR(h:∀a,Prj (f a) (p a)):∀l,Prj (uS f l) (uS p l)
 | []=>Prj.pure []
 | a::r=>Prj.bind (h a) λb=>Prj.bind (wR h r) λl=>Prj.pure (b::l)
theorem pq(h:∀a b,Prj (g a b) (q a b)):∀l,Prj (iQ g l) (iQ q l)
 | []=>Prj.pure []
 | a::r=>Prj.bind (h a.1 a.2) λb=>Prj.bind (pq h r) λl=>Prj.pure (b::l)
theorem nZ(h:∀a b,Prj (g a b) (q a b)):∀l a,Prj (gc g a l) (gc q a l)
 | [],a=>Prj.pure a
 | c::r,a=>Prj.bind (h a c) λb=>nZ h r b
theorem prj_scanCells(h:∀a b,Prj (g a b) (q a b)):∀l a,Prj (ck g a l) (ck q a l)
 | [],_=>Prj.pure []
 | c::r,a=>Prj.bind (h a c) λb=>Prj.bind (prj_scanCells h r b) λl=>Prj.pure (b::l)
def nB(b)(hz:Prj (zero ()) (zero' ()))(c):Prj (hZ dP b zero c) (hZ dq b zero' c):=by
 have d:∀s:List Nat,Prj (if c.all (λa=>a.shape==s)=false then dP.refuse tQ else if aQ (b++s)=false then dP.refuse vO else pure {shape:=b++s,data:=c.flatMap λa=>a.data}:ej Arr)
   (if c.all (λa=>a.shape==s)=false then dq.refuse tQ else if aQ (b++s)=false then dq.refuse vO else pure {shape:=b++s,data:=c.flatMap λa=>a.data}:ER Arr):=λs=>by
  by_cases h:c.all (λa=>a.shape==s)=false
  ·rw [if_pos h,if_pos h];exact pW _
  ·rw [if_neg h,if_neg h];by_cases e:aQ (b++s)=false
   ·rw [if_pos e,if_pos e];exact pW _
   ·rw [if_neg e,if_neg e];exact Prj.pure _
 cases c with
 | nil=>exact Prj.bind (J2 hz) d
 | cons a r=>exact d a.shape
def zA(h:∀a,Prj (f a) (p a))(k)(y):Prj (W7 dP f k y) (W7 dq p k y):=
 Prj.bind (wR h _) λb=>nB _ (h _) b
def Fj(h:∀a b,Prj (g a b) (q a b))(k)(x y):Prj (Eb dP g k x y) (Eb dq q k x y):=by
 unfold Eb;dsimp only;by_cases c:qt (frameOf x (dg k x)) (frameOf y (dg k y))=false
 ·rw [if_pos c,if_pos c];exact pW _
 ·rw [if_neg c,if_neg c];exact Prj.bind (pq h _) λd=>nB _ (h _ _) d
def ym(h:∀a b,Prj (g a b) (q a b))(x y):Prj (oG dP g x y) (oG dq q x y):=by
 unfold oG;by_cases c:aQ (x.shape++y.shape)=false
 ·rw [if_pos c,if_pos c];exact pW _
 ·rw [if_neg c,if_neg c];exact Prj.bind (pq h _) λd=>nB _ (h _ _) d
def AC(h:∀a b,Prj (g a b) (q a b))(d:∀s,Prj (e s) (i s))(y):Prj (OL g e y) (OL q i y):=by
 unfold OL;cases gb y with
 | nil=>exact d _
 | cons c r=>exact nZ h r c
def AB(h:∀a b,Prj (g a b) (q a b))(y):Prj (JQ dP g y) (JQ dq q y):=by
 unfold JQ;cases gb y with
 | nil=>exact Prj.pure _
 | cons c r=>exact Prj.bind (prj_scanCells h r c) λl=>nB _ (Prj.pure c) _
def AA(h:∀a b,Prj (g a b) (q a b))(x y):Prj (kY dP g x y) (kY dq q x y):=by
 unfold kY;cases gb y with
 | nil=>exact Prj.pure _
 | cons c r=>exact Prj.bind (prj_scanCells h (c::r) x) λl=>nB _ (Prj.pure c) _
end
structure PW (c:Work ej) (p:Work ER):Prop where
 one:∀y,Prj (c.one y) (p.one y)
 two:∀x y,Prj (c.two x y) (p.two x y)
def yn(W:PW c p)(a:∀s,Prj (e s) (b s))(q):PW (UX dP e c q) (UX dq b p q):=by
 cases q with
 | fold=>exact ⟨λy=>AC W.two a y,λx y=>nZ W.two _ x⟩
 | scan=>exact ⟨λy=>AB W.two y,λx y=>AA W.two x y⟩
 | table=>exact ⟨λy=>zA W.one 0 y,λx y=>ym W.two x y⟩
 | swap=>exact ⟨λy=>W.two y y,λx y=>W.two y x⟩
 | at_ k=>exact ⟨λy=>zA W.one k y,λx y=>Fj W.two k x y⟩
def uz(r):Prj (wD r) r:=λn=>by
 unfold wD;cases r<;>rfl
def wv(r):Prj (uncounted r) r:=λn=>by
 unfold uncounted;cases r<;>rfl
theorem prj_work(base):∀a:List Mod,PW (ol base a) (HG base a)
 | []=>⟨λy=>uz _,λx y=>uz _⟩
 | q::r=>yn (prj_work base r) (λs=>wv _) q
section
variable {f:Arr→ej Arr} {p:Arr→ER Arr} {g:Arr→Arr→ej Arr} {q:Arr→Arr→ER Arr}
def bC{A B:Type}(r:Except Nat (A×Nat))(k:A->Nat->Except Nat (B×Nat)):Except Nat (B×Nat):=match r with
 | .error e=> .error e
 | .ok x=>k x.1 x.2
def bindC(c)(k:A->ej B)(n):(c>>= k) n=bC (c n) k:=by
 show (c n>>= λx=>k x.1 x.2)=_;cases c n<;>rfl
def foldCells_consC(g:Arr->Arr->ej Arr)(c a)(r)(n):gc g a (c::r) n=bC (g a c n) λb m=>gc g b r m:=by
 show (g a c>>= λb=>gc g b r) n=_;rw [bindC]
def scanCells_consC(g:Arr->Arr->ej Arr)(c a)(r)(n):ck g a (c::r) n=bC (g a c n) λb m=>bC (ck g b r m) λl m=> .ok (b::l,m):=by
 show (g a c>>= λb=>ck g b r>>= λl=>pure (b::l)) n=_;rw [bindC];congr 1;funext b m;rw [bindC];rfl
def bC_ok(x)(h:A->Nat->Except Nat (B×Nat)):bC (.ok x) h=h x.1 x.2:=rfl
theorem foldCells_snoc(g:Arr->Arr->ej Arr)(c):∀(l:List Arr) (a:Arr) (n:Nat),gc g a (l++[c]) n=bC (gc g a l n) λx m=>g x c m
 | [],a,n=>by
  rw [pE,foldCells_consC];show bC (g a c n) (λb m=> .ok (b,m))=g a c n;cases g a c n<;>rfl
 | d::r,a,n=>by
  rw [gi,foldCells_consC,foldCells_consC];cases g a d n with
  | error k=>rfl
  | ok x=>exact foldCells_snoc g c r x.1 x.2
def lastOr(a:Arr)(l:List Arr):Arr:=l.getLast?.getD a
def lastOr_cons(a b)(l):lastOr a (b::l)=lastOr b l:=by
 unfold lastOr;cases l with
 | nil=>rfl
 | cons c r=>rw [List.getLast?_cons_cons,List.getLast?_cons];rfl
theorem scanCells_snoc(g:Arr->Arr->ej Arr)(c):∀(l:List Arr) (a:Arr) (n:Nat),ck g a (l++[c]) n=bC (ck g a l n) λx m=>bC (g (lastOr a x) c m) λy m=> .ok (x++[y],m)
 | [],a,n=>by
  rw [pE,scanCells_consC];show bC (g a c n) (λb m=> .ok ([b],m))=bC (g a c n) λy m=> .ok ([]++[y],m);rfl
 | d::r,a,n=>by
  rw [gi,scanCells_consC,scanCells_consC];cases g a d n with
  | error k=>rfl
  | ok x=>
   rw [bC_ok,bC_ok,scanCells_snoc g c r x.1 x.2];cases ck g x.1 r x.2 with
   | error k=>rfl
   | ok z=>
    rw [bC_ok,bC_ok,bC_ok,lastOr_cons];cases g (lastOr x.1 z.1) c z.2<;>rfl
def gather_count{zero':Unit->ER Arr}(hz:Prj (zero ()) (zero' ()))(d)(n):hZ dP c zero d n=(hZ dq c zero' d).map λa=>(a,n):=by
 have e:hZ dP c zero d n=
   if d.all (λa=>a.shape==XI zero' d)=false then .error tQ else if aQ (c++XI zero' d)=false then .error vO else .ok ({shape:=c++XI zero' d,data:=d.flatMap λa=>a.data},n):=by
  cases d with
  | nil=>
   have i:=hz n;show ((dP.told (zero ())>>= λs=>_:ej Arr)) n=_;rw [bindC];have l:dP.told (zero ()) n= .ok (XH (zero' ()),n):=by
    show (match zero () n with | .ok x=> .ok (x.1.shape,n) | .error _=> .ok ([],n):Except Nat (List Nat×Nat))=_;cases k:zero () n with
    | error e=>rw [k] at i;rw [<-i];rfl
    | ok x=>rw [k] at i;rw [<-i];rfl
   rw [l,bC_ok];by_cases h:aQ (c++XH (zero' ()))=false
   ·rw [if_neg (by simp),if_pos h,if_neg (by simp),if_pos (show aQ (c++XI zero' [])=false from h)];rfl
   ·rw [if_neg (by simp),if_neg h,if_neg (by simp),if_neg (show ¬aQ (c++XI zero' [])=false from h)];rfl
  | cons a r=>
   show (if _ then _ else _:ej Arr) n=_;by_cases j:(a::r).all (λb=>b.shape==a.shape)=false
   ·rw [if_pos j,if_pos (show (a::r).all (λb=>b.shape==XI zero' (a::r))=false from j)];rfl
   ·rw [if_neg j,if_neg (show ¬(a::r).all (λb=>b.shape==XI zero' (a::r))=false from j)];by_cases h:aQ (c++a.shape)=false
    ·rw [if_pos h,if_pos (show aQ (c++XI zero' (a::r))=false from h)];rfl
    ·rw [if_neg h,if_neg (show ¬aQ (c++XI zero' (a::r))=false from h)];rfl
 rw [e,XJ];split
 ·rfl
 ·split<;>rfl
end
end OneM
open OneM renaming prj_work->XS,foldCells_consC->XU,scanCells_consC->XV,bC_ok->XW,lastOr->XX,gather_count->XY
namespace Rx
open PySem PyProof.Rows
def vc(vs:List al)(c:Nat):Obj:={cls:= .type "list",dict:=none,data:= .seq vs.toArray c,slots:= #[]}
abbrev dflt(d:al):List (Str×al):=[(ae "default",d)]
def BD(a d):argsOk "min" ⟨[a],dflt d⟩:=by unfold argsOk;kernel_rfl
section
variable {prog:be} {w:bN} {A:gt} {E:al→aK→Prop} {l J B:af} {its:Array al} {R:Result→aK→Prop} {d:al}
abbrev Keeps(J B:af)(h h':cz):Prop:=∀b o,b≠J->b≠B->h.get? b=some o->h'.get? b=some o
def BB(hh:A.handled=none)(lJ:l≠J)(BJ:B≠J)(Bl:B≠l)(num:Nat->Int)(hnum:∀(i:Nat) (v:al),its[i]? =some v->∃t,v=wE (num i) t):
  ∀(k j:Nat) (s:aK) (bv:al) (m c:Nat),its.size - (j+1)=k->j+1<=its.size->s.heap.IsListIter J l (j+1)->s.heap.IsList l its->its[m]? =some bv->(∀i,i<=j->num m<=num i)->
   s.heap.get? B=some (vc [bv,bv] c)->(∀v m' h' tk,its[m']? =some v->(∀i,i<its.size->num m'<=num i)->Keeps J B s.heap h'->R (.ok (.ret v)) {s with heap:=h',toks:=tk})->
   m_ (bP prog w) A (.builtin "min.loop" ⟨[.ref J,.none,.ref B],dflt d⟩) R s:=by
 have W:=Ts (prog:=prog) (w:=w) (A:=A.in1) hh J l lJ its
 have nm:(toString "min"++toString ".loop":String)="min.loop":=by decide
 have notIn:∀{b:af},b≠J->b∉[J]:=λh q=>h (aL.mp q)
 intro k
 induction k with
 | zero=>
  intro j s bv m c hk hj it ls hm hb hB fin
  have hin:j+1=its.size:=by omega
  refine rp tK ?_
  rw [jV gr _]
  show bj _ A.in1 (To (.ref B)>>= _) _ _ s
  refine ak (lF hB rfl ?_)
  show bj _ A.in1 (tryCatch (uT (.ref J)) _>>= _) _ _ s
  refine ak (tI (W.done s _ _ ⟨hin▸it,ls⟩ λh1 tk k1=> ?_))
  have hB1:h1.get? B=some (vc [bv,bv] c):=k1 B _ (notIn BJ) hB
  show bj _ A.in1 (vY B (λ_=> #[])>>= _) _ _ _
  refine ak ?_
  refine ke hB1 rfl (ak (A6 (bh ?_)))
  exact fin bv m _ tk hm (λi hi=>hb i (by omega)) λb o h1 h2 e=>(bB _ _ (dO h2)).trans (k1 b o (notIn h1) e)
 | succ k ih=>
  intro j s bv m c hk hj it ls hm hb hB fin
  have hlt:j+1<its.size:=by omega
  refine rp tK ?_
  rw [jV gr _]
  show bj _ A.in1 (To (.ref B)>>= _) _ _ s
  refine ak (lF hB rfl ?_)
  show bj _ A.in1 (tryCatch (uT (.ref J)) _>>= _) _ _ s
  refine ak (tI (W.item (j+1) s _ _ hlt ⟨it,ls⟩ λv h1 tk hv st1 k1=> ?_))
  have hB1:h1.get? B=some (vc [bv,bv] c):=k1 B _ (notIn BJ) hB
  show bj _ A.in1 (tryCatch (S3 [v,v] (richCompare .Lt v bv>>= _)) _>>= _) _ _ _
  refine ak (tI (kx (ak (CmpOf.ints_lt num hnum (j+1) m v bv _ _ _ hv hm ?_))))
  refine ak (kx (iX ?_))
  refine ak (A6 (bh ?_))
  by_cases q:num (j+1)<num m
  ·simp only [q,decide_true,if_true]
   refine ak ?_
   refine ke hB1 rfl (ak (A6 ?_))
   rw [nm]
   refine bh ⟨qi gr _,ih (j+1) _ v (j+1) _ (by omega) hlt ?_ ?_ hv ?_ (cP _ hB1 rfl) λv' m' h' tk' a1 a2 a3=> ?_⟩
   ·exact st1.1.at λo e=>(bB _ _ BJ).trans e
   ·exact st1.2.at λo e=>(bB _ _ Bl).trans e
   ·intro i hi
    by_cases z:i=j+1
    ·rw [z];exact Eh _
    ·have:=hb i (by omega);omega
   ·exact fin v' m' h' tk' a1 a2 λb o b1 b2 e=>a3 b o b1 b2 ((bB _ _ (dO b2)).trans (k1 b o (notIn b1) e))
  ·simp only [q,decide_false,lV,if_false]
   refine ak (A6 ?_)
   rw [nm]
   refine bh ⟨qi gr _,ih (j+1) _ bv m c (by omega) hlt st1.1 st1.2 hm ?_ hB1 λv' m' h' tk' a1 a2 a3=> ?_⟩
   ·intro i hi
    by_cases z:i=j+1
    ·rw [z];omega
    ·exact hb i (by omega)
   ·exact fin v' m' h' tk' a1 a2 λb o b1 b2 e=>a3 b o b1 b2 (k1 b o (notIn b1) e)
def BC(hh:A.handled=none)(num:Nat->Int)(hnum:∀(i:Nat) (v:al),its[i]? =some v->∃t,v=wE (num i) t)(ls:s.heap.IsList l its)(none_:its.size=0->∀h' tk,(∀b o,s.heap.get? b=some o->h'.get? b=some o)->Q d {s with heap:=h',toks:=tk})(some_:∀v m h' tk,its[m]? =some v->(∀i,i<its.size->num m<=num i)->(∀b o,s.heap.get? b=some o->h'.get? b=some o)->Q v {s with heap:=h',toks:=tk}):
  bj (bP prog w) A (DZ (.builtin "min") [.ref l] (dflt d)) Q E s:=by
 have nm:(toString "min"++toString ".loop":String)="min.loop":=by decide
 have hl:l<s.heap.objs.size:=by obtain ⟨_,e,_⟩:=ls;exact aZ e
 refine kmb_tree PySem.F.kind_min PySem.F.plain_min PySem.F.entry_min (BD _ _) ?_
 show bj _ A.in1 (wj "min" ["key","default"] 0 ⟨[],dflt d⟩>>= _) _ _ s
 refine ak (wpAny_of_eq (show wj "min" ["key","default"] 0 ⟨[],dflt d⟩=pure [none,some d] from rfl) ?_)
 refine ak (bh ?_)
 refine ak (RV ls ?_)
 refine ak (wpAny_newList ?_ (cy _))
 rw [nm]
 refine bh ⟨qi gr _,?_⟩
 have z1:(s.heap.push {cls:= .type "list_iterator",data:= .fields #[.ref l,.int 0 0]}).objs.size=s.heap.objs.size+1:=size_push' ..
 have lJ:l≠s.heap.objs.size:=cu hl
 have BJ:(s.heap.push {cls:= .type "list_iterator",data:= .fields #[.ref l,.int 0 0]}).objs.size≠s.heap.objs.size:=by rw [z1];exact PU _
 have Bl:(s.heap.push {cls:= .type "list_iterator",data:= .fields #[.ref l,.int 0 0]}).objs.size≠l:=by rw [z1];exact λq=>absurd hl (by rw [<-q];exact V9.mpr (M_ _))
 have hB:((s.heap.push {cls:= .type "list_iterator",data:= .fields #[.ref l,.int 0 0]}).push {cls:= .type "list",data:= .seq [].toArray}).get? (s.heap.push {cls:= .type "list_iterator",data:= .fields #[.ref l,.int 0 0]}).objs.size=some (vc [] 0):=bG _ rfl
 have old:∀b o,s.heap.get? b=some o->((s.heap.push {cls:= .type "list_iterator",data:= .fields #[.ref l,.int 0 0]}).push {cls:= .type "list",data:= .seq [].toArray}).get? b=some o:=λb o e=>aq _ (aq _ e)
 have it:((s.heap.push {cls:= .type "list_iterator",data:= .fields #[.ref l,.int 0 0]}).push {cls:= .type "list",data:= .seq [].toArray}).IsListIter s.heap.objs.size l 0:=⟨_,aq _ (bG _ rfl),rfl,rfl⟩
 have ls1:((s.heap.push {cls:= .type "list_iterator",data:= .fields #[.ref l,.int 0 0]}).push {cls:= .type "list",data:= .seq [].toArray}).IsList l its:=(ls.push _).push _
 generalize (s.heap.push {cls:= .type "list_iterator",data:= .fields #[.ref l,.int 0 0]}).objs.size=B at*
 generalize ((s.heap.push {cls:= .type "list_iterator",data:= .fields #[.ref l,.int 0 0]}).push {cls:= .type "list",data:= .seq [].toArray})=h0 at*
 have W:=Ts (prog:=prog) (w:=w) (A:=A.in1) hh s.heap.objs.size l lJ its
 have notIn:∀{b:af},b≠s.heap.objs.size->b∉[s.heap.objs.size]:=λh q=>h (aL.mp q)
 have eP:∀{b:af} {o:Obj},s.heap.get? b=some o->b≠s.heap.objs.size/\b≠B:=λe=>⟨cu (aZ e),λq=>by have:=aZ e;rw [q,z1] at this;exact absurd this (V9.mpr (M_ _))⟩
 refine rp tK ?_
 rw [jV gr _]
 show bj _ A.in1 (To (.ref B)>>= _) _ _ _
 refine ak (lF hB rfl ?_)
 show bj _ A.in1 (tryCatch (uT (.ref s.heap.objs.size)) _>>= _) _ _ _
 by_cases z:its.size=0
 ·refine ak (tI (W.done _ _ _ ⟨z▸it,ls1⟩ λh1 tk k1=> ?_))
  show bj _ A.in1 (OM _>>= _) _ _ _
  refine ak (KC (bh ?_))
  exact none_ z h1 tk λb o e=>k1 b o (notIn (eP e).1) (old b o e)
 ·refine ak (tI (W.item 0 _ _ _ (gH z) ⟨it,ls1⟩ λv h1 tk hv st1 k1=> ?_))
  have hB1:h1.get? B=some (vc [] 0):=k1 B _ (notIn BJ) hB
  show bj _ A.in1 (vY B (λ_=> #[v,v])>>= _) _ _ _
  refine ak ?_
  refine ke hB1 rfl ?_
  rw [nm]
  refine bh ⟨qi gr _,BB hh lJ BJ Bl num hnum _ 0 _ v 0 _ rfl (gH z) ?_ ?_ hv ?_ (cP _ hB1 rfl) λv' m' h' tk' a1 a2 a3=> ?_⟩
  ·exact st1.1.at λo e=>(bB _ _ BJ).trans e
  ·exact st1.2.at λo e=>(bB _ _ Bl).trans e
  ·intro i hi
   rw [Nat.le_zero.mp hi];exact Eh _
  ·exact some_ v' m' h' tk' a1 a2 λb o e=>a3 b o (eP e).1 (eP e).2 ((bB _ _ (dO (eP e).2)).trans (k1 b o (notIn (eP e).1) (old b o e)))
end
end Rx
namespace L2
open PySem PySem.Spec PyProof.Rows Rx
variable {X:Cx}
theorem Bk:∀{ns:List Int} {us:List al},Wn (ns.map Wv) us->IntsAre us ns
 | [],us,r=>by cases r;exact .nil
 | n::ns,us,r=>by
  cases r with
  | cons b a=>
   obtain ⟨t,rfl⟩:=b;exact .cons _ _ (Bk a)
def JC(t:X.calm=true):rY X (.builtin "sum") (λxs H Q=>∃(p:af) (ns:List Int),xs=[.ref p]/\SqL X.K H p (ns.map Wv)/\Q (.int ns.sum) H):=by
 intro f s v H xs x Q I r h;obtain ⟨p,ns,rfl,n,q⟩:=h;obtain ⟨u,rfl,j⟩:=vals1 r;cases j;obtain ⟨its,k,m,z⟩:=I.list n;have c:=Bk k;obtain ⟨g,e⟩:=c.allInts.items;have a:ns=g.toList.map (·.1):=by rw [<-c.numsOf,<-Vs,<-e]
 have b:=m.isList;rw [e] at b;refine sum_intListG (I.ok.hd t) b λC y i o=>⟨.int ns.sum,H,I.kept o,⟨i,?_⟩,q⟩
 rw [preSum_eq,di (by simp),a]
def qR(d:Int):List Int->Int
 | []=>d
 | n::a=>a.foldl min n
theorem px:∀(ns:List Int) (a:Int),ns.foldl min a<=a/\(∀x∈ns,ns.foldl min a<=x)/\(ns.foldl min a=a\/ns.foldl min a∈ns)
 | [],a=>⟨Eh _,λ_ h=>(nomatch h),.inl rfl⟩
 | n::ns,a=>by
  obtain ⟨e,f,b⟩:=px ns (min a n);rw [jI];refine ⟨TU e (Int.min_le_left _ _),λx c=> ?_,?_⟩
  ·rcases aH.mp c with rfl | c
   ·exact TU e (Int.min_le_right _ _)
   ·exact f x c
  ·rcases b with b | b
   ·rw [b];rcases Int.le_total a n with q | q
    ·exact .inl (Int.min_eq_left q)
    ·exact .inr (by rw [Int.min_eq_right q];exact ar)
   ·exact .inr (au _ b)
def uL:∀{ns:List Int},x∈ns->(∀y∈ns,x<=y)->qR d ns=x
 | [],h,_=>nomatch h
 | n::ns,h,e=>by
  obtain ⟨g,f,b⟩:=px ns n;have a:qR d (n::ns)<=x:=by
   rcases aH.mp h with rfl | h
   ·exact g
   ·exact f x h
  have c:qR d (n::ns)∈n::ns:=by
   show ns.foldl min n∈n::ns;rcases b with b | b
   ·rw [b];exact ar
   ·exact au _ b
  exact Int.le_antisymm a (e _ c)
def Qw(K:ac)(n:Int)(t:TA):TE:=λc H Q=>t c H λe b=>∃(p:af) (a:List Int),e=[.ref p]/\SqL K b p (a.map Wv)/\Q (.int (qR n a)) b
def Hs(hc:X.calm=true)(hg:Gl X x)(G:X.mg x=none)(r:lQ x=some (.builtin "min"))(ha:PA X [e] t)(hd:PE X T (tC (.int n)))(hn:x≠"__name__":=by decide)(L:(x==("__debug__":Str))=false:=by decide)(he:∀pos,fV pos (bx [e] X.env)=(false,eval e X.env)::fV pos (bx [] X.env):=by intro _;rfl)(hp:∀pos,(fV pos (bx [e] X.env)).any (·.1)=false:=by intro _;rfl):
  PE X (.Call (.Name x p) [e] [⟨some (ae "default"),T,kp⟩] pos) (Qw X.K n t):=by
 intro f s M H Q I h;refine dk (rh I hg G r ?_ hn L);refine callWith_kw ?_ (he pos) (hp pos) rfl rfl;refine gL (ha pos f s M H _ I h) λus O ⟨vs,H1,I1,r1,a,g,e1,hq,q⟩=> ?_;subst e1;obtain ⟨u,rfl,rx⟩:=vals1 r1;cases rx;show bj _ X.A (evalAll [(eval T X.env>>= λv=>AM pos>>= λ_=>pure v)]) _ _ O;refine wpAny_evalAll_cons (ak (gL (hd f O M H1 (λv H2=>v= .int n/\H2=H1) I1 ⟨rfl,rfl⟩) λu2 s2 ⟨v2,H2,C,r2,e2,e3⟩=> ?_));subst e2 e3;obtain ⟨N,rfl⟩:=r2;refine ak (kq (bh (wpAny_evalAll_nil ?_)));show bj _ X.A (DZ (.builtin "min") [.ref a] (dflt (.int n N))) _ _ s2;obtain ⟨its,r',pl,hz⟩:=C.list hq;have c:=Bk r';obtain ⟨b,Y⟩:=c.allInts.items;have j:g=b.toList.map (·.1):=by rw [<-c.numsOf,<-Vs,<-Y]
 have U:=pl.isList;rw [Y] at U;have D:(intItems b).size=b.size:=by simp [intItems]
 have len:g.length=b.size:=by rw [j,am,pH]
 have at_:∀i,i<b.size->g[i]? =some (numAt b i):=λi c=>by
  have q:i<b.toList.length:=by rw [pH];exact c
  rw [j,bW,aP q];simp [numAt,c]
 refine BC (C.ok.hd hc) (numAt b) (λ_ _=>Wa) U (λz h' tk k=> ?_) λv m h' tk r hb k=> ?_
 ·refine ⟨.int (qR n g),_,C.kept k,⟨N,?_⟩,q⟩;have nil:g=[]:=List.eq_nil_of_length_eq_zero (by rw [len,<-D];exact z);rw [nil];rfl
 ·have G:m<b.size:=by
   rw [<-D];exact (dh.mp r).1
  obtain ⟨t,rfl⟩:=Wa r;refine ⟨.int (qR n g),_,C.kept k,⟨t,?_⟩,q⟩;rw [uL (d:=n) (bD (at_ m G)) λy hy=> ?_];obtain ⟨i,c,e⟩:=List.mem_iff_getElem.mp hy;have o:i<b.size:=by rw [<-len];exact c
  have:=at_ i o;rw [aP c,e] at this;rw [bw this];exact hb i (by rw [D];exact o)
end L2
namespace Rx
open PySem PyProof.Rows
abbrev pJ(h:cz)(a TI TO:af)(c:al)(b:Bool):Prop:=h.get? a=some {cls:= .type "zip",dict:=none,data:= .fields #[c,.bool b,.bool false,.ref TI,.ref TO],slots:= #[]}
def same_refl:jy a h h:=⟨rfl,λ_ _=>rfl⟩
section
variable {prog:be} {w:bN} {A:gt} {E:al→aK→Prop} {s:aK}
def BE(c:s.heap.get? a=some o)(h:Q (some o) s):bj (bP prog w) A (PM a) Q E s:=by
 intro G p b;simp only [PM,Sem.wp_loadIfAlive,c];exact bh h G p b
def uc{b TI TO T:af}(a:pJ s.heap b TI TO (dL T) f)(g:s.heap.get? T=some h)(e:∀h',pJ h' b TI TO (dL T) true->jy b s.heap h'->Q false {s with heap:=h'}):bj (bP prog w) A (gF (.ref b)) Q E s:=by
 unfold gF;refine ak (fk a rfl (x:=dL T) rfl ?_);show bj _ _ (PM T>>= _) _ _ _;refine ak (BE g ?_);show bj _ _ (V3 (.ref b) 1>>= _) _ _ _;refine ak (fk a rfl (x:= .bool f) rfl ?_);cases f with
 | true=>
  show bj _ _ (pure false) _ _ _;exact bh (e s.heap a same_refl)
 | false=>
  show bj _ _ (setField (.ref b) 1 (.bool true)>>= λ_=>pure false) _ _ _;refine ak (wpAny_setField_rec a (by simp) λh' c d=>bh (e h' ?_ d));exact c
def EB{zp TI TO T j1 j2 l1 l2:af}{Q:al->aK->Prop}(D:A9 zp TI TO j1 j2 l1 l2)(hzp:pJ s.heap zp TI TO (dL T) f1)(hT:s.heap.get? T=some oT)(hPr:tJ s.heap TI (.ref j1) (.ref j2))(h1:s.heap.IsListIter j1 l1 k1)(h2:s.heap.IsListIter j2 l2 k2)(hl1:s.heap.IsList l1 xs)(hl2:s.heap.IsList l2 ys)(hx:xs[k1]? =some x)(hy:ys[k2]? =some y)(hQ:∀h',pJ h' zp TI TO (dL T) true->h'.IsListIter j1 l1 (k1+1)->h'.IsListIter j2 l2 (k2+1)->tJ h' s.heap.objs.size x y->h'.objs.size=s.heap.objs.size+1->
   (∀c o,c≠zp->c≠j1->c≠j2->s.heap.get? c=some o->h'.get? c=some o)->Q (.ref s.heap.objs.size) {s with heap:=h'}):
  bj (bP prog w) A (Ez.«zip.__next__» ⟨[.ref zp],[]⟩) (λfin s'=>∃v,fin= .done (.ret v)/\Q v s') E s:=by
 show bj _ _ (V3 (.ref zp) 2>>= _) _ _ _
 refine ak (fk hzp rfl (x:= .bool false) rfl ?_)
 show bj _ _ (V3 (.ref zp) 3>>= _) _ _ _
 refine ak (fk hzp rfl (x:= .ref TI) rfl ?_)
 refine ak (lF hPr rfl ?_)
 show bj _ _ (gF (.ref zp)>>= _) _ _ _
 refine ak (uc hzp hT λg0 hz0 hs0=> ?_)
 show bj _ _ (forIn (#[bO j1,bO j2]:Array al) (none,(#[]:Array al)) _>>= _) _ _ _
 refine ak ?_
 rw [<-N3]
 simp only [pG,wI]
 refine ak (ak (kx ?_))
 show bj _ _ (jm (.ref j1)>>= _) _ _ _
 refine ak (xh (h1.extBut hs0.extBut D.i1z) (hl1.extBut hs0.extBut D.l1z) hx λg1 it1 hs1=>bh ?_)
 refine bh ?_
 refine ak (ak (kx ?_))
 show bj _ _ (jm (.ref j2)>>= _) _ _ _
 refine ak (xh ((h2.extBut hs0.extBut D.i2z).extBut hs1.extBut D.i12.symm) ((hl2.extBut hs0.extBut D.l2z).extBut hs1.extBut D.l2i1) hy λg2 it2 hs2=>bh ?_)
 refine bh (bh ?_)
 show bj _ _ (newTuple [x,y]>>= λt=>ret t) _ _ _
 refine ak (wpAny_newTuple ?_)
 have sz:g2.objs.size=s.heap.objs.size:=by rw [hs2.1,hs1.1,hs0.1]
 have kp:∀c o,c≠zp->c≠j1->c≠j2->s.heap.get? c=some o->g2.get? c=some o:=λc o c1 c2 c3 e=>hs2.extBut _ _ c3 (hs1.extBut _ _ c2 (hs0.extBut _ _ c1 e))
 refine bh ⟨_,rfl,?_⟩
 show Q (.ref g2.objs.size) _
 rw [sz]
 refine hQ _ (aq _ (hs2.extBut _ _ D.i2z.symm (hs1.extBut _ _ D.i1z.symm hz0))) ((it1.extBut hs2.extBut D.i12).at λo e=>aq _ e) (it2.at λo e=>aq _ e) ?_ ?_ λc o c1 c2 c3 e=>aq _ (kp c o c1 c2 c3 e)
 ·rw [<-sz];exact bG _ rfl
 ·rw [eQ,sz]
def Ib{zp TI TO T j1 j2 l1 l2:af}(hh:A.handled=none)(D:A9 zp TI TO j1 j2 l1 l2)(hzp:pJ s.heap zp TI TO (dL T) f1)(hT:s.heap.get? T=some oT)(hPr:tJ s.heap TI (.ref j1) (.ref j2))(h1:s.heap.IsListIter j1 l1 k1)(h2:s.heap.IsListIter j2 l2 k2)(hl1:s.heap.IsList l1 xs)(hl2:s.heap.IsList l2 ys)(hend:xs[k1]? =none\/ys[k2]? =none)(hE:∀h' e,(∀c o,c≠zp->c≠j1->c≠j2->s.heap.get? c=some o->h'.get? c=some o)->(∃o,h'.get? e=some o/\o.cls= .type "StopIteration")->E (.ref e) {s with heap:=h'}):
  bj (bP prog w) A (Ez.«zip.__next__» ⟨[.ref zp],[]⟩) Q E s:=by
 show bj _ _ (V3 (.ref zp) 2>>= _) _ _ _
 refine ak (fk hzp rfl (x:= .bool false) rfl ?_)
 show bj _ _ (V3 (.ref zp) 3>>= _) _ _ _
 refine ak (fk hzp rfl (x:= .ref TI) rfl ?_)
 refine ak (lF hPr rfl ?_)
 show bj _ _ (gF (.ref zp)>>= _) _ _ _
 refine ak (uc hzp hT λg0 hz0 hs0=> ?_)
 show bj _ _ (forIn (#[bO j1,bO j2]:Array al) (none,(#[]:Array al)) _>>= _) _ _ _
 refine ak ?_
 rw [<-N3]
 simp only [pG,wI]
 refine ak (ak (kx ?_))
 show bj _ _ (jm (.ref j1)>>= _) _ _ _
 cases hx:xs[k1]? with
 | none=>
  refine ak (P2 hh (h1.extBut hs0.extBut D.i1z) (hl1.extBut hs0.extBut D.l1z) hx λg1 e ex he=> ?_)
  exact hE g1 e (λc o c1 c2 c3 q=>ex _ _ c2 (hs0.extBut _ _ c1 q)) he
 | some x=>
  have hy:ys[k2]? =none:=by rcases hend with q | q;rw [hx] at q;cases q;exact q
  refine ak (xh (h1.extBut hs0.extBut D.i1z) (hl1.extBut hs0.extBut D.l1z) hx λg1 it1 hs1=>bh ?_)
  refine bh ?_
  refine ak (ak (kx ?_))
  show bj _ _ (jm (.ref j2)>>= _) _ _ _
  refine ak (P2 hh ((h2.extBut hs0.extBut D.i2z).extBut hs1.extBut D.i12.symm) ((hl2.extBut hs0.extBut D.l2z).extBut hs1.extBut D.l2i1) hy λg2 e ex he=> ?_)
  exact hE g2 e (λc o c1 c2 c3 q=>ex _ _ c3 (hs1.extBut _ _ c2 (hs0.extBut _ _ c1 q))) he
def Bz{a TI TO T d b g f:af}(D:A9 a TI TO d b g f)(e:pJ s.heap a TI TO (dL T) H)(n:s.heap.get? T=some G)(j:tJ s.heap TI (.ref d) (.ref b))(r:s.heap.IsListIter d g k1)(q:s.heap.IsListIter b f k2)(i:s.heap.IsList g xs)(h:s.heap.IsList f ys)(m:xs[k1]? =some x)(l:ys[k2]? =some y)(p:∀h',pJ h' a TI TO (dL T) true->h'.IsListIter d g (k1+1)->h'.IsListIter b f (k2+1)->tJ h' s.heap.objs.size x y->h'.objs.size=s.heap.objs.size+1->
   (∀c o,c≠a->c≠d->c≠b->s.heap.get? c=some o->h'.get? c=some o)->Q (some (.ref s.heap.objs.size)) {s with heap:=h'}):
  bj (bP prog w) A (uT (.ref a)) Q E s:=by
 have k:s.TypeIs (.ref a) "zip":=⟨_,e,rfl⟩
 unfold uT;exact ak (Vq (N8 (name:=ae "__next__") k ni
  (Tk ni k HK (EB D e n j r q i h m l λh' C B z v u t=>bh (p h' C B z v u t)) (G1 _))))
def ED{a TI TO T h g j i:af}(r:A.handled=none)(D:A9 a TI TO h g j i)(d:pJ s.heap a TI TO (dL T) C)(v:s.heap.get? T=some B)(m:tJ s.heap TI (.ref h) (.ref g))(z:s.heap.IsListIter h j k1)(y:s.heap.IsListIter g i k2)(l:s.heap.IsList j xs)(k:s.heap.IsList i ys)(f:xs[k1]? =none\/ys[k2]? =none)(x:∀h',(∀c o,c≠a->c≠h->c≠g->s.heap.get? c=some o->h'.get? c=some o)->Q none {s with heap:=h'}):bj (bP prog w) A (uT (.ref a)) Q E s:=by
 have n:s.TypeIs (.ref a) "zip":=⟨_,d,rfl⟩
 unfold uT;refine ak (Vq (N8 (name:=ae "__next__") n ni
  (Tk ni n HK (Ib r D d v m z y l k f λh' e q t=> ?_) (G1 _))))
 obtain ⟨o,p,u⟩:=t;refine ak (Ti (T:="StopIteration") (b:=true) ⟨o,p,u⟩ isSubtype_stop ?_);exact bh (x _ q)
end
end Rx
namespace L2
open PySem PySem.Spec PyProof.Rows Rx
def LX{f:St}(I:Inv X pins f H s)(j:H D=some (.lst xs))(hz:xs.length<a_)(r:RelV y v)(h:∀h',Inv X pins f (upd H D (.lst (xs++[y]))) {s with heap:=h'}->(∀b o,b≠D->s.heap.get? b=some o->h'.get? b=some o)->Q () {s with heap:=h'}):bj (bP X.prog X.w) A (vY D (·.push v)) Q E s:=by
 obtain ⟨k,d,n,i,e⟩:=I.hok D _ j;have l:=i.length;have g:jy D s.heap (s.heap.update D (gX (·.push v))):=nI ..;have a:=cP (gX (·.push v)) e rfl;refine ke e rfl (h _ (I.write (t':=s.toks) (by rw [j];trivial) (.inl rfl) (λb u c q=>(g.2 b c).trans q) ⟨_,a⟩ ⟨by rw [bp];exact hz,d++[v],n+1,i.append (.cons r .nil),?_⟩) λb o c q=>(g.2 b c).trans q) (by rw [bL];omega) (by rw [Pf,bL];omega);rw [a];simp [gX]
def Rd.fresh(h:Rd H a o)(d:H c=none):Rd (upd H c e) a o:=by
 have b:a≠c:=λq=>by
  subst q;rcases h with h | ⟨_,h⟩<;>(rw [d] at h;exact nomatch h)
 rcases h with h | ⟨x,h⟩
 ·exact .inl (by rw [aC b];exact h)
 ·exact .inr ⟨x,by rw [aC b];exact h⟩
def SqL.ne{K}(h:SqL K H a xs)(b:a≠c):SqL K (upd H c d) a xs:=h.imp (λh=>by
 rcases h with h | ⟨x,h⟩
 ·exact .inl (by rw [aC b];exact h)
 ·exact .inr ⟨x,by rw [aC b];exact h⟩) id
theorem SqL.fresh{K}(h:SqL K H a xs)(b:H c=none):SqL K (upd H c d) a xs:=h.imp (λh=>h.fresh b) id
def TupsAt(H:Hp):List af->List (V×V)->Prop
 | [],[]=>True
 | t::a,p::b=>H t=some (.tup [p.1,p.2])/\TupsAt H a b
 | _,_=>False
theorem TupsAt.snoc(b:H t=some (.tup [p.1,p.2])):∀{a:List af} {ps:List (V×V)},TupsAt H a ps->TupsAt H (a++[t]) (ps++[p])
 | [],[],_=>⟨b,trivial⟩
 | [],_::_,h=>h.elim
 | _::_,[],h=>h.elim
 | _::_,_::_,h=>⟨h.1,TupsAt.snoc b h.2⟩
theorem TupsAt.keep(k:∀a xs,H a=some (.tup xs)->c a=some (.tup xs)):∀{b:List af} {ps:List (V×V)},TupsAt H b ps->TupsAt c b ps
 | [],[],_=>trivial
 | [],_::_,h=>h.elim
 | _::_,[],h=>h.elim
 | _::_,_::_,h=>⟨k _ _ h.1,TupsAt.keep k h.2⟩
theorem TupsAt.length:∀{a:List af} {ps:List (V×V)},TupsAt H a ps->a.length=ps.length
 | [],[],_=>rfl
 | [],_::_,h=>h.elim
 | _::_,[],h=>h.elim
 | _::_,_::_,h=>by rw [aF,aF,TupsAt.length h.2]
def QN(H:Hp)(h:cz)(a TI TO:af):Nat->Prop
 | 0=>IsZip h a TI TO .none/\∃x y,tJ h TO x y
 | _+1=>∃(T:af) (c:Bool) (b:List V),pJ h a TI TO (dL T) c/\H T=some (.tup b)
def J7(hh:A.handled=none){j TI TO t r a b S}(D:A9 j TI TO t r a b){σ:St}{H0:Hp}(h0:H0 S=none)(a6:∀c∈[j,TI,TO,t,r],c<S):
  ∀(k i:Nat) (s:aK) (H:Hp) (ts:List af),min xs.length ys.length - i=k->i<=min xs.length ys.length->Inv X pins σ H s->(∀c∈[j,TI,TO,t,r],qr X pins H c)->QN H s.heap j TI TO i->
   tJ s.heap TI (.ref t) (.ref r)->s.heap.IsListIter t a i->s.heap.IsListIter r b i->SqL X.K H a xs->SqL X.K H b ys->a≠S->b≠S->H S=some (.lst (ts.map WA))->TupsAt H ts ((xs.zip ys).take i)->
   (∀p o,H0 p=some o->H p=some o)->
   (∀s' H' a5,Inv X pins σ H' s'->H' S=some (.lst (a5.map WA))->TupsAt H' a5 (xs.zip ys)->(∀p o,H0 p=some o->H' p=some o)->R (.ok (.ret .none)) s')->
   m_ (bP X.prog X.w) A (.builtin "list.extend.loop" ⟨[.ref S,.ref j,.none],[]⟩) R s:=by
 intro k
 induction k with
 | zero=>
  intro i s H ts hk hi I fp za B L J Q O aS bS hS l a0 M;obtain ⟨a7,rv,p,_⟩:=I.list Q;obtain ⟨U,N,p2,_⟩:=I.list O;have l1:=rv.length;have l2:=N.length;have Y:a7.toArray[i]? =none\/U.toArray[i]? =none:=by
   have:xs.length<=i\/ys.length<=i:=by omega
   rcases this with q | q
   ·exact .inl (by simp;omega)
   ·exact .inr (by simp;omega)
  refine rp Ee ?_;rw [jV kC _];show bj _ A.in1 (uT (.ref j)>>= _) _ _ s;have all:(xs.zip ys).take i=xs.zip ys:=di (by rw [Ef];omega);rw [all] at l;have done:∀h,(∀c o,c∉[j,TI,TO,t,r]->s.heap.get? c=some o->h.get? c=some o)->R (.ok (.ret .none)) {s with heap:=h}:=λh C=>
   M _ H ts (I.turnedL (t':=s.toks) (ch:=[j,TI,TO,t,r]) C fp) hS l a0
  cases i with
  | zero=>
   obtain ⟨m,x0,y0,a3⟩:=za;refine ak (PJ hh D m B a3 L J p.isList p2.isList Y λh C=>bh (done h λc o d e=>C c o ?_ ?_ ?_ ?_ e))<;>(intro q;exact d (by simp [q]))
  | succ i=>
   obtain ⟨T,f1,ps,m,hT⟩:=za;obtain ⟨_,_,_,⟨oT,eT,_⟩⟩:=I.hok T _ hT;refine ak (ED hh D m eT B L J p.isList p2.isList Y λh C=>bh (done h λc o d e=>C c o ?_ ?_ ?_ e))<;>(intro q;exact d (by simp [q]))
 | succ k ih=>
  intro i s H ts hk hi I fp za B L J Q O aS bS hS l a0 M;obtain ⟨a7,rv,p,zx⟩:=I.list Q;obtain ⟨U,N,p2,_⟩:=I.list O;have l1:=rv.length;have l2:=N.length;have ix:i<xs.length:=by omega
  have iy:i<ys.length:=by omega
  obtain ⟨u,hu,ru⟩:=rv.get (aP ix);obtain ⟨u2,a9,b2⟩:=N.get (aP iy);have tl:=l.length;rw [bQ,Ef] at tl;have a4:ts.length<a_:=by omega
  refine rp Ee ?_;rw [jV kC _];show bj _ A.in1 (uT (.ref j)>>= _) _ _ s;have Sl:S<s.heap.objs.size:=by
   obtain ⟨_,_,_,_,e⟩:=I.hok S _ hS;exact aZ e
  have Bp:H s.heap.objs.size=none:=I.hok.fresh (aO _);have v:∀c∈[j,TI,TO,t,r],c≠S:=λc d=>cu (a6 c d);have neN:∀c∈[j,TI,TO,t,r],c≠s.heap.objs.size:=λc d=>cu (TQ (a6 c d) Sl);have SN:S≠s.heap.objs.size:=cu Sl;have next:∀(h:cz) (T:af) (f1:Bool),pJ h j TI TO (dL T) f1->(T=s.heap.objs.size\/∃ps,H T=some (.tup ps))->h.IsListIter t a (i+1)->h.IsListIter r b (i+1)->tJ h s.heap.objs.size u u2->
    (∀c o,c∉[j,TO,t,r]->s.heap.get? c=some o->h.get? c=some o)->
    bj (bP X.prog X.w) A.in1 (vY S (·.push (.ref s.heap.objs.size))>>= λ_=>V4 (.builtin "list.extend.loop" ⟨[.ref S,.ref j,.none],[]⟩))
     (λM s'=>match M with | .done f=>R (.ok f) s' | .again c'=>c'.quiet=true/\m_ (bP X.prog X.w) A c' R s') (λe s'=>R (.error e) s') {s with heap:=h}:=by
   intro h T f1 a8 n b1 b0 hN C;have b3:Wo X.prog X.w (upd H s.heap.objs.size (.tup [xs[i],ys[i]])) h s.heap.objs.size (.tup [xs[i],ys[i]]):=⟨by show 2<=a_;decide,[u,u2],.cons ru (.cons b2 .nil),⟨_,hN,rfl,_,rfl⟩⟩
   have I1:=I.turnedNew (t':=s.toks) (ch:=[j,TO,t,r]) C (λc d=>fp c (by simp at d ⊢;rcases d with q | q | q | q<;>simp [q])) (aO _) b3;refine ak (LX (y:= .ref s.heap.objs.size) I1 (by rw [aC SN];exact hS) (by rw [am];exact a4) rfl λg I2 G=> ?_);refine bh ⟨qi kC _,ih (i+1) _ _ (ts++[s.heap.objs.size]) (by omega) (by omega) I2 (λc d=>⟨?_,(fp c d).2⟩) ?_ ?_ ?_ ?_ ?_ ?_ aS bS ?_ ?_ (λq o e=> ?_) M⟩
   ·rw [aC (v c d),aC (neN c d)];exact (fp c d).1
   ·rcases n with rfl | ⟨ps,n⟩
    ·exact ⟨_,f1,_,G _ _ (v j (by simp)) a8,by rw [aC SN.symm,ao]⟩
    ·have tS:T≠S:=λq=>by rw [q,hS] at n;cases n
     have tN:T≠s.heap.objs.size:=λq=>by rw [q,Bp] at n;cases n
     exact ⟨T,f1,ps,G _ _ (v j (by simp)) a8,by rw [aC tS,aC tN];exact n⟩
   ·exact G _ _ (v TI (by simp)) (C _ _ (by simp [D.TIz,D.TITO,D.TIi1,D.TIi2]) B)
   ·exact b1.at λo e=>G _ o (v t (by simp)) e
   ·exact b0.at λo e=>G _ o (v r (by simp)) e
   ·exact (Q.fresh Bp).ne aS
   ·exact (O.fresh Bp).ne bS
   ·rw [ao,bY];rfl
   ·have tk:(xs.zip ys).take (i+1)=(xs.zip ys).take i++[(xs[i],ys[i])]:=by
     have hl:i<(xs.zip ys).length:=by rw [Ef];omega
     rw [List.take_succ_eq_append_getElem hl,List.getElem_zip]
    rw [tk];refine TupsAt.snoc (by rw [aC SN.symm,ao]) (l.keep λc vs e=> ?_);have cS:c≠S:=λq=>by rw [q,hS] at e;cases e
    have cN:c≠s.heap.objs.size:=λq=>by rw [q,Bp] at e;cases e
    rw [aC cS,aC cN];exact e
   ·have e1:=a0 q o e;have qS:q≠S:=λz=>by rw [z,h0] at e;cases e
    have qN:q≠s.heap.objs.size:=λz=>by rw [z,Bp] at e1;cases e1
    rw [aC qS,aC qN];exact e1
  cases i with
  | zero=>
   obtain ⟨m,x0,y0,a3⟩:=za;refine ak (P1 D m B a3 L J p.isList p2.isList (x:=u) (y:=u2) (by simpa using hu) (by simpa using a9) λh z' b5 a1 a2 hN b4 C=> ?_);exact next h _ false z' (.inl rfl) a1 a2 hN λc o d e=>C c o (λq=>d (by simp [q])) (λq=>d (by simp [q])) (λq=>d (by simp [q])) (λq=>d (by simp [q])) e
  | succ i=>
   obtain ⟨T,f1,ps,m,hT⟩:=za;obtain ⟨_,_,_,⟨oT,eT,_⟩⟩:=I.hok T _ hT;refine ak (Bz D m eT B L J p.isList p2.isList (x:=u) (y:=u2) (by simpa using hu) (by simpa using a9) λh z' a1 a2 hN b4 C=> ?_);exact next h _ true z' (.inr ⟨ps,hT⟩) a1 a2 hN λc o d e=>C c o (λq=>d (by simp [q])) (λq=>d (by simp [q])) (λq=>d (by simp [q])) e
def CK:qd (.type "zip") "__len__"=pure none:=by rw [JJ,yN];kernel_rfl
def AF:qd (.type "zip") "__length_hint__"=pure none:=by rw [JJ,yN];kernel_rfl
abbrev MP:Obj:={cls:= .type "list",data:= .seq #[]}
def Jr(hc:X.calm=true){zp TI TO j1 j2 a b}(D:A9 zp TI TO j1 j2 a b){σ:St}(I:Inv X pins σ H s)(hzp:IsZip s.heap zp TI TO .none)(hPr:tJ s.heap TI (.ref j1) (.ref j2))(hTO:∃x y,tJ s.heap TO x y)(it1:s.heap.IsListIter j1 a 0)(it2:s.heap.IsListIter j2 b 0)(hxs:SqL X.K H a xs)(hys:SqL X.K H b ys)(fp:∀c∈[zp,TI,TO,j1,j2],qr X pins H c)(q:∀(l:af) (ts:List af) (H':Hp),H l=none->(∀p o,H p=some o->H' p=some o)->H' l=some (.lst (ts.map WA))->TupsAt H' ts (xs.zip ys)->Q (.ref l) H'):
  bj (bP X.prog X.w) X.A (DZ (.type "list") [.ref zp]) (EP X pins σ Q) E s:=by
 have hh:=I.ok.hd hc
 refine callType_codes (Q₁:=λv g=>v= .ref s.heap.objs.size/\g={s with heap:=s.heap.push MP}) PySem.F.called_list (PySem.F.typeCall_list_1 _) PySem.F.entry_list_init (code_list_new _ ⟨rfl,rfl⟩) λv g hg=> ?_
 obtain ⟨rfl,rfl⟩:=hg
 have hS:(s.heap.push MP).get? s.heap.objs.size=some MP:=bG _ rfl
 refine ⟨⟨_,hS,rfl⟩,PySem.F.args_list_init_2 _ _,?_⟩
 show bj _ X.A.in1.in1 (do let old <-Bs (.ref s.heap.objs.size);Ut (.ref s.heap.objs.size) (λ_=> #[]);letGo old.toList.reverse;oq (.ref s.heap.objs.size) (.ref zp) .none) _ _ _
 refine ak ?_
 unfold Bs
 refine ak (lF hS rfl (bh ?_))
 show bj _ X.A.in1.in1 (vY s.heap.objs.size (λ_=> #[])>>= λ_=>letGo (#[]:Array al).toList.reverse>>= λ_=>oq (.ref s.heap.objs.size) (.ref zp) .none) _ _ _
 refine ak (ke hS rfl ?_)
 have hS2:=cP (gX (λ_=>(#[]:Array al))) hS rfl
 refine ak (A6 ?_)
 have low:∀{c:af} {o:Obj},s.heap.get? c=some o->c≠s.heap.objs.size:=λe=>cu (aZ e)
 have k2:∀c o,s.heap.get? c=some o->((s.heap.push MP).update s.heap.objs.size (gX (λ_=>(#[]:Array al)))).get? c=some o:=λc o e=>(bB _ _ (dO (low e))).trans (aq _ e)
 generalize ((s.heap.push MP).update s.heap.objs.size (gX (λ_=>(#[]:Array al))))=g2 at hS2 k2 ⊢
 have zT:({s with heap:=g2}:aK).TypeIs (.ref zp) "zip":=⟨_,k2 _ _ hzp,rfl⟩
 unfold oq
 refine ak (wpAny_typeOf zT ?_)
 have e1:AR (.ref s.heap.objs.size) (.ref zp)=false:=by simp [AR,(low hzp).symm]
 have e2:(jw "zip"==jw "list")=false:=by decide
 have e3:(jw "zip"==jw "tuple")=false:=by decide
 simp only [e1,e2,e3,yP,lV,if_false]
 refine ak (HH (k2 _ _ hzp) ?_)
 refine ak (kx ?_)
 unfold Uv
 refine ak (JI zT CK ?_)
 show bj _ X.A.in1.in1 (specialOf (bO zp) (ae "__length_hint__")>>= _) _ _ _
 refine ak (JI zT AF ?_)
 refine bh ?_
 show bj _ X.A.in1.in1 (OM "list.extend.makes-room">>= λ_=>Uu (.ref s.heap.objs.size)>>= λ_=>V4 (.builtin "list.extend.loop" ⟨[.ref s.heap.objs.size,.ref zp,.none],[]⟩)) _ _ _
 refine ak (KC ?_)
 refine ak ?_
 show bj _ X.A.in1.in1 (vY s.heap.objs.size (·.push .none)>>= λ_=>vY s.heap.objs.size (·.pop)) _ _ _
 refine ak (ke hS2 rfl ?_)
 have hS3:=cP (gX (·.push dC)) hS2 rfl
 refine ke (hz:=by seq_fits) hS3 rfl ?_
 have hS4:=cP (gX (·.pop)) hS3 rfl
 have k4:∀c o,s.heap.get? c=some o->((g2.update s.heap.objs.size (gX (·.push dC))).update s.heap.objs.size (gX (·.pop))).get? c=some o:=
  λc o e=>(bB _ _ (dO (low e))).trans ((bB _ _ (dO (low e))).trans (k2 c o e))
 generalize ((g2.update s.heap.objs.size (gX (·.push dC))).update s.heap.objs.size (gX (·.pop)))=g4 at hS4 k4 ⊢
 have Bp:H s.heap.objs.size=none:=I.hok.fresh (aO _)
 have I4:Inv X pins σ (upd H s.heap.objs.size (.lst [])) {s with heap:=g4}:=I.laid (t':=s.toks) k4 (aO _) ⟨cy _,[],_,.nil,hS4⟩
 obtain ⟨_,_,pa,_⟩:=I.list hxs
 obtain ⟨_,_,pb,_⟩:=I.list hys
 obtain ⟨x0,y0,hTO⟩:=hTO
 have lt:∀c∈[zp,TI,TO,j1,j2],c<s.heap.objs.size:=λc hc=>by
  have e':c=zp\/c=TI\/c=TO\/c=j1\/c=j2:=by simpa using hc
  rcases e' with z | z | z | z | z
  ·rw [z];exact aZ hzp
  ·rw [z];exact aZ hPr
  ·rw [z];exact aZ hTO
  ·rw [z];obtain ⟨_,e,_⟩:=it1;exact aZ e
  ·rw [z];obtain ⟨_,e,_⟩:=it2;exact aZ e
 refine bh ⟨qi kC _,J7 (X:=X) (A:=X.A.in1) hh D (H0:=H) Bp lt _ 0 _ _ [] rfl (cy _) I4 (λc hc=>⟨?_,(fp c hc).2⟩) ⟨k4 _ _ hzp,_,_,k4 _ _ hTO⟩ (k4 _ _ hPr) (it1.at λo e=>k4 _ o e) (it2.at λo e=>k4 _ o e)
  (hxs.fresh Bp) (hys.fresh Bp) (cu pa.lt) (cu pb.lt) (ao ..) trivial (λp o e=> ?_) λs' H' ts' I' hS' tu old=> ?_⟩
 ·rw [aC (cu (lt c hc))];exact (fp c hc).1
 ·rw [aC (λz=>by rw [z,Bp] at e;cases e)];exact e
 ·exact ⟨rfl,.ref s.heap.objs.size,H',I',rfl,q _ ts' H' Bp old hS' tu⟩
def Vi(K:ac)(j:TA):TE:=λh H Q=>j h H λi c=>∃(a b:af) (f e:List V),i=[.ref a,.ref b]/\SqL K c a f/\SqL K c b e/\
 ∀(l:af) (g:List af) (d:Hp),c l=none->(∀p o,c p=some o->d p=some o)->d l=some (.lst (g.map WA))->TupsAt d g (f.zip e)->Q (.ref l) d
def Dk(hc:X.calm=true)(x:Gl X "list")(v:X.mg "list"=none)(hg:Gl X "zip")(hm:X.mg "zip"=none)(ha:PA X [e,j] N)(hs:bx [e,j] X.env=(false,eval e X.env)::bx [j] X.env:=by rfl)(u:(fV d (bx [j] X.env)).any (·.1)=false:=by rfl)(l:bx [.Call (.Name "zip" t) [e,j] [] d] X.env=[(false,eval (.Call (.Name "zip" t) [e,j] [] d) X.env)]:=by rfl):
  PE X (.Call (.Name "list" p) [.Call (.Name "zip" t) [e,j] [] d] [] pos) (Vi X.K N):=by
 intro i s D H Q I h;refine dk (rh I x v (by decide+kernel:lQ "list"=some (.type "list")) ?_);refine fQ ?_ l rfl;rw [l];show bj _ _ (RZ ((false,eval (.Call (.Name "zip" t) [e,j] [] d) X.env)::fV pos (bx [] X.env))) _ _ s;refine ir ?_;refine dk (rh I hg hm zZ ?_);refine fQ (gL (ha d i s D H _ I h) λus f ⟨vs,H1,k,O,U⟩=> ?_) hs u;obtain ⟨a,b,xs,ys,ex,n,m,q⟩:=U;subst ex;cases O with
 | cons r o=>
  cases o with
  | cons T o=>
   cases o;cases r;cases T;obtain ⟨a1,rv,J,_⟩:=k.list n;obtain ⟨M,a0,G,_⟩:=k.list m;refine call_zip_2 J.isList G.isList λg Y C B h1 h2 a2 hk=> ?_;have I2:Inv X i D H1 {f with heap:=g}:=k.kept (t':=f.toks) hk;refine bh ?_;refine Jr hc (My f.heap.objs.size a b J.lt G.lt) I2 Y C ⟨_,_,B⟩ h1 h2 n m (λc y=> ?_) q;have L:f.heap.objs.size<=c:=by
    have e':c=f.heap.objs.size+4\/c=f.heap.objs.size+2\/c=f.heap.objs.size+3\/c=f.heap.objs.size\/c=f.heap.objs.size+1:=by simpa using y
    rcases e' with z | z | z | z | z<;>(rw [z];first | exact aO _ | exact ll _ _)
   exact k.fpOk L (k.hok.fresh L)
end L2
namespace Rx
open PySem PyProof.Rows
end Rx
namespace L2
open PySem PySem.Spec PyProof.Rows Rx
end L2
namespace Hx
open PySem PySem.W PyProof.Rows
def pos0:Pos:=⟨0,0,0,0⟩
def Vo:Obj:={cls:= .type "code",data:= .fields #[.str (ae "<module>") 182,.str (ae "<module>") 183,.str (ae "/claim/cut.py") 184,.int 1 0,.int 0 0,.int 0 0,.int 0 0,.int 0 0,.ref 11,.bool false,.int 181 0,.ref 12,.none,.none,.none,.none,.int 185 0,.int 1 0,.str (ae "/claim/cut.py") 186]}
def Vn:Obj:={cls:= .type "frame",slots:= #[some (.ref 13),some (.ref 3),some (.ref 3),none,some (.str (ae "__main__") 164),none,some (.ref 0)]}
noncomputable def objs(P:E6):List Obj:=[boot_o_0 P,boot_o_1 P,boot_o_2 P,boot_o_3 P,boot_o_4 P,boot_o_5 P,boot_o_6 P,boot_o_7 P,boot_o_8 P,boot_o_9 P,boot_o_10 P,{cls:= .type "tuple",data:= .seq #[]},{cls:= .none,data:= .fields #[]},Vo,Vn]
noncomputable def Td(P:E6):BT:=(objs P).zipIdx.foldl (λt x=>t.ins x.2 x.1) .nil
noncomputable def Sb(w:bN)(os:gQ):S4:=⟨Td w.params,15,{},#[],{},187,os⟩
def ann:Option al:=some (.ref 6)
def env(p:be):Env:={scope:=p.main.scope,locals:=mainNs,globals:=mainNs,cells:=[],code:= .ref 13,frame:=some 14}
def cE(p:be):Code:= .body (qg p) (env p)
def Mw(s)(c)(pos):topRun om p w 11 ann 2 s ⟨doneF .next,c,pos,[Aa pos0]⟩=some s:=by
 obtain ⟨h,g,d,k,os⟩:=s;rfl
def FW(w:bN):((qf w.params).isNs ax&&(EA []:Array KS).size==0,(qf w.params).objs.size,(qf w.params).nsMap ax "__annotations__")=(true,11,ann):=by kernel_rfl
noncomputable def looks(p:be)(w:bN)(s:aK):Bool:=staticsOk (ro p.main.body) (qf w.params) s.heap&&namesBound p s.heap&&gensDone s&&laidKept (qf w.params) s.heap
noncomputable def RC(p:be)(w:bN)(M:Nat)(os:gQ):Option (Flow×S4×Code×Pos):=segRunT om p w 11 ann 1 M (Sb w os) (piecesOf (qg p) (env p) (cE p) pos0 [Aa pos0])
noncomputable def runQ(p:be)(w:bN)(M:Nat)(os:gQ):Option (Flow×S4×Code×Pos):=U9 U7 p w 11 ann 1 M (Sb w os) ⟨(U8 (qg p) (env p)).wrap doneF deadEnd id id,cE p,pos0,[Aa pos0]⟩
def Mu(p)(w)(M)(os):RC p w M os=runQ p w M os:=by
 unfold RC runQ piecesOf;rw [Ud,Ub,Uc]
noncomputable def getT(s:S4)(a:Nat):Option Obj:=match Wk a s.n with
 | true=>(match s.tree.get a with | some o=>alive o | none=>none)
 | false=>none
def Mv(h:getT s a=some o):s.abs.heap.get? a=some o:=by
 obtain ⟨T,n,b,c,drawn,toks,os⟩:=s;unfold getT at h;dsimp only at h;cases e:Wk a n with
 | false=>rw [e] at h;cases h
 | true=>
  rw [e] at h;dsimp only at h;cases g:T.get a with
  | none=>rw [g] at h;cases h
  | some x=>
   rw [g] at h;exact (abs_get (MC e) g).trans h
theorem DS:∀(b:List Nat) (os:List Obj),b.map (getT s)=os.map some->b.map s.abs.heap.get? =os.map some
 | [],[],_=>rfl
 | [],_::_,h=>nomatch h
 | _::_,[],h=>nomatch h
 | a::b,o::os,h=>by
  rw [dI,dI] at h ⊢;obtain ⟨d,c⟩:=W5 h;rw [Mv d,DS b os c]
def left_of{K:E6->ac}{v:List af}{N M:Nat}(e:opening p=plainProg p.main.scope.names)(D:Wl 600 N=true)(f:∀s,Vu p s=some s)(pre:∀(w:bN) (os:gQ),topGo om p w 11 ann 12 ⟨qf w.params,EA [],KQ,Nd,os⟩ (topStub p)=some ((Sb w os).abs,⟨denote om (cE p),cE p,pos0,[Aa pos0]⟩))(g:∀(w:bN) (os:gQ),segRun om p w 11 ann 1 1 (Sb w os).abs (blockOf (qg p) (env p) (cE p) pos0 [Aa pos0])=some (.next,(Sb w os).abs,cE p,pos0))(A:Wl (12+(1+(M+2))) N=true)(runA:∀(w:bN) (os:gQ),(runQ p w M os).map (λr=>(r.1,r.2.2.1,looks p w r.2.1.abs))=some (.next,cE p,true))(runB:∀(w:bN) (os:gQ),(runQ p w M os).map (λr=>gR q loose (ro p.main.body) Xt G r.2.1.abs)=some (PR q loose))(runC:∀(w:bN) (os:gQ),(runQ p w M os).map (λr=>v.map (getT r.2.1))=some (((K w.params).map (·.2)).map some)):
  LeftO p q loose Xt (λs=>v.map s.heap.get?) (λw=>(K w.params).map λp=>some p.2) N G:=λw=>by
 obtain ⟨⟨h,E,d,k,os⟩,I,H⟩:=HZ.mp (boot_open e D f w);obtain ⟨rfl,rfl,rfl,rfl⟩:h=qf w.params/\E=EA []/\d=KQ/\k=Nd:=by simpa using H
 obtain ⟨z,y,x⟩:_/\_/\_:=by simpa only [Pb] using FW w
 obtain ⟨⟨L,i,c,l⟩,j,o⟩:=HZ.mp (runA w os);have n:=runB w os;rw [j,<-Ua] at n;have B:=bw n;have m:=runC w os;rw [j] at m;have u:=DS _ _ (bw m);rw [gu] at u;rw [<-Mu] at j;simp only [Pb] at o;obtain ⟨rfl,rfl,C⟩:=o;have a:=segRun_of j;have b:=piece_app (rest:=[]) a (by exact Mw i.abs (cE p) l);rw [gy] at b;have J:=piece_block (g w os) b;have r:=go_top (pre w os) J;have r:=topRun_mono (N - (12+(1+(M+2)))) _ _ _ _ r;rw [show 12+(1+(M+2))+(N - (12+(1+(M+2))))=N by have:=MC A;omega] at r;have t:VZ om p w N ⟨qf w.params,EA [],KQ,Nd,os⟩=some i.abs:=by
  unfold VZ;dsimp only;rw [z,y,x,r];show (match looks p w i.abs with | true=>some i.abs | false=>none)=_;rw [C]
 unfold openEnds;rw [I];refine (congrArg (Option.map _) (show VZ om p w N _=_ from t)).trans ?_;refine congrArg Option.some ?_;refine Prod.ext ?_ ?_
 ·exact B
 ·exact u
def by_row{P:bN->Prop}(a)(h0:∀w:bN,P (w.withFollow a false))(c:∀w:bN,P (w.withFollow a true))(w):P w:=by
 have same:=World.withFollow_self w a;rcases Bool.eq_false_or_eq_true (w.params.followText a) with b | b
 ·rw [b] at same;rw [<-same];exact c w
 ·rw [b] at same;rw [<-same];exact h0 w
abbrev ent(P:E6)(k:String)(t:Nat)(v:al):DictEntry:=⟨PyData.keyHash P (ae k),.str (ae k) t,v⟩
end Hx
open Hx renaming cE->X6,pos0->XZ,looks->X_,runQ->Y0,getT->Y1,by_row->Y2,ent->Y3
namespace L2
open PySem PySem.Spec PyProof.Rows Rx
def KDic(P:be)(w:bN)(K:ac)(a:af)(ps:List (Str×V)):Prop:=
 (a==jk)=false/\∃o,K.lookup a=some o/\∃b:List (vU×al),KV (ps.map λp=>((iS p.1:vU),p.2)) b/\o.IsDictOf (iG P w) b
def KDic.at{K}(d:KDic P w K a ps)(k:K.In h):∃vs,KV (ps.map λp=>((iS p.1:vU),p.2)) vs/\h.DictOf (iG P w) a vs:=by
 obtain ⟨_,o,e,vs,r,x⟩:=d;exact ⟨vs,r,Heap.dictOf_iff.mpr ⟨o,k a o e,x⟩⟩
def kAt(ps:List (Str×V))(x:Str):Option V:=lO (ps.map λp=>((iS p.1:vU),p.2)) (iS x:vU)
section
variable {X:Cx} {o i:eM} {td ty:TE}
def Qz(P:be)(w:bN)(K:ac)(td ty:TE):TE:=λb H Q=>td b H λx f=>ty b f λy d=>∃(a:af) (c:List (Str×V)) (z:Str) (v:V),x= .ref a/\KDic P w K a c/\y= .str z/\kAt c z=some v/\Q v d
def Ht(C:PE X o td)(D:PE X i ty)(B:Rz i):PE X (.Subscript o i pos) (Qz X.prog X.w X.K td ty):=by
 intro b s f H Q I h;refine LU PySem.F.slot_dict_getitem.lookup B (gL (C b s f H _ I h) λu n ⟨x,M,J,q,t⟩=>gL (D b n f M _ J t) λiv O ⟨y,L,j,p,a,T,z,v,G,w,E,l,r⟩=> ?_);subst G E;obtain rfl:u=bO a:=q;obtain ⟨m,d,g⟩:=w.at j.kIn;obtain ⟨N,A,c⟩:=RelO.some_of (v:=v) (o:=Er m (iS z)) (by rw [<-l];exact d.val _);exact ⟨g.typeIs,wpAny_getItem_of (Jt (k:=iS z) p) g.mapOf A ⟨v,L,j.tok _,c,r⟩⟩
def SV(P:be)(w:bN)(K:ac)(ty td:TE):TE:=λb H Q=>ty b H λy f=>td b f λx d=>∃(a:af) (c:List (Str×V)) (z:Str),x= .ref a/\KDic P w K a c/\y= .str z/\Q (.bl (kAt c z).isSome) d
def Ot(r:PE X i ty)(q:PE X o td):PC X .In i o (SV X.prog X.w X.K ty td):=by
 intro b s d H Q I h;refine gL (r b s d H _ I h) λiv j ⟨y,C,A,l,p⟩=>gL (q b j d C _ A p) λu E ⟨x,B,g,m,a,G,z,v,f,t,n⟩=> ?_;subst v t;obtain rfl:u=bO a:=m;obtain ⟨D,c,w⟩:=f.at g.kIn;refine wpAny_in_of (Jt (k:=iS z) l) f.1 w.mapOf ?_;rw [<-(c.val _).isSome_eq];exact ⟨.bl _,B,g.tok _,rfl,n⟩
end
def kdic_mk{K}(g:(a==jk)=false)(l:K.lookup a=some ⟨.type "dict",none,.dict (rows.map λr=>Y3 w.params r.1 r.2.1 r.2.2).toArray n,#[]⟩)(b:(rows.map (λq=>ae q.1)).Nodup)(r:fW (λ(p:Str×V) (q:String×Nat×al)=>p.1=ae q.1/\RelV p.2 q.2.2) ps rows):KDic P w K a ps:=by
 refine ⟨g,_,l,rows.map λq=>((iS (ae q.1):vU),q.2.2),?_,_,n,⟨rfl,rfl,rfl⟩,rfl,?_,?_,?_⟩
 ·clear l b
  induction r with
  | nil=>exact .nil
  | cons f k c=>exact .cons ⟨congrArg iS f.1,f.2⟩ c
 ·intro e d;rw [List.mem_toArray,cR] at d;obtain ⟨q,_,rfl⟩:=d;exact ⟨iS (ae q.1),qP P w _ _,rfl⟩
 ·clear l b r
  induction rows with
  | nil=>exact .nil
  | cons q j c=>exact .cons (qP P w _ _) rfl c
 ·rw [gu];have e:(rows.map ((λx=>x.1)∘λq=>((iS (ae q.1):vU),q.2.2)))=(rows.map λq=>ae q.1).map iS:=by rw [gu];rfl
  rw [e];exact b.map _ λ_ _ h q=>h (QO q)
section
variable {X:Cx}
def PA.up(h:PA X es t):PA X es (λc H Q=>∃R,t c H R/\∀vs a,R vs a->Q vs a):=λpos b s c H Q I ⟨R,f,d⟩=>
 gL (h pos b s c H R I f) λi j ⟨vs,a,g,r,q⟩=>⟨vs,a,g,r,d vs a q⟩
def PE.up(h:PE X e t):PE X e (λc H Q=>∃R,t c H R/\∀v a,R v a->Q v a):=λb s c H Q I ⟨R,f,d⟩=>
 gL (h b s c H R I f) λu i ⟨v,a,g,r,q⟩=>⟨v,a,g,r,d v a q⟩
def PE.imp(h:PE X e t)(k:∀a H Q,t' a H Q->t a H Q):PE X e t':=λb s a H Q I q=>h b s a H Q I (k a H Q q)
def PT.imp(h:PT X e t)(k:∀a H Q,t' a H Q->t a H Q):PT X e t':=λb s a H Q I q=>h b s a H Q I (k a H Q q)
end
structure Pk (P:be) (w:bN) (K:ac) (mg:Str→Option al) (G:cz→Prop) (k:Nat) (nm:Str) (ps:List Str) (sp:Sp):Prop where
 ex:∃f fd,mg nm=some (.ref f)∧bq K (.ref f)=true∧Binds K fd ps []∧∀base,G base→Wz P w K mg base (CXE P w) k f fd ps sp
section
variable {X:Cx} {G:cz→Prop} {k kk:Nat} {nm:Str} {ps:List Str} {sp:Sp} {e:eM} {es:List eM} {t:TA} {p pos:Pos} {E:XK}
def ci(C:Pk X.prog X.w X.K X.mg G k nm ps sp)(n:G X.base)(h:Wy kk X.A)(g:ge (CXE X.prog X.w) X E)(o:PA X (e::es) t)(j:k<=kk:=by decide)(l:Gl X nm:=by rfl)(c:(nm==("__debug__":Str))=false:=by decide)(m:bx (e::es) X.env=(false,eval e X.env)::bx es X.env:=by rfl)(a:(fV pos (bx es X.env)).any (·.1)=false:=by rfl):
  PE X (.Call (.Name nm p) (e::es) [] pos) (wx sp [] E t):=by
 obtain ⟨f,r,i,b,d,F⟩:=C.ex;exact fZ (F _ n) (h.mono j) l i b d .nil g o c m a
end
section
variable {X:Cx} {e:eM} {t:TE} {p pos:Pos}
def Pq(K:ac)(t:TE):TE:=λc H Q=>t c H λv b=>∃l a,v= .ref l/\SqL K b l a/\Q (.int a.length) b
def M7{K}(f:X.mg "len"=none)(i:PE X e t)(j:X.K=K:=by rfl)(g:Gl X "len":=by rfl)(b:bx (e::[]) X.env=(false,eval e X.env)::bx [] X.env:=by rfl)(a:(fV pos (bx [] X.env)).any (·.1)=false:=by rfl):
  PE X (.Call (.Name "len" p) [e] [] pos) (Pq K t):=by
 subst j;exact (eV gU g f io (aa i.up aw b) (by decide) (by decide) b a).imp λn H Q h=>⟨_,h,λv o ⟨l,c,m,d,q⟩=>⟨l,c,by rw [m],.inl d,q⟩⟩
def fy(f:X.mg "len"=none)(i:PE X e t)(g:Gl X "len":=by rfl)(b:bx (e::[]) X.env=(false,eval e X.env)::bx [] X.env:=by rfl)(a:(fV pos (bx [] X.env)).any (·.1)=false:=by rfl):
  PE X (.Call (.Name "len" p) [e] [] pos) (Pq X.K t):=
 (eV gU g f io (aa i.up aw b) (by decide) (by decide) b a).imp λm H Q h=>⟨_,h,λv n ⟨l,c,j,d,q⟩=>⟨l,c,by rw [j],.inl d,q⟩⟩
def O5(K:ac)(t:TE):TT:=λc H Q=>t c H λv b=>∃l s,v= .ref l/\SqL K b l (Rk.tv s)/\∀a,WG b a->Q s.isEmpty a
def oB(b:X.A.units+64<KJ)(d:PE X e t):PT X (.Compare e [.Eq] [.List [] j] pos) (O5 X.K t):=
 (cU (zS b) d.up (eA aw) (dA _)).imp λi H Q h=>⟨_,h,λv g ⟨l,s,f,c,q⟩=>⟨cy _,λp a=>by
  subst f;refine ⟨_,_,Rk.dpL (c.fresh a),Rk.dpL (t:=[]) (Ws ao),W_ _,W_ _,_,rfl,?_⟩;rw [X0];have e:(s==[])=s.isEmpty:=by cases s<;>rfl
  rw [e];exact q _ (WZ (WH g) a)⟩⟩
end
end L2
open L2 renaming kdic_mk->Y4
namespace Rk
open PySem PySem.Spec PyProof.Rows L2 Rx
open Vaarrb (Arr)
abbrev iv(l:List Int):List V:=l.map Wv
def ij(s):iv (Vaarrb.ints s)=tv s:=by unfold Vaarrb.ints iv tv;rw [gu];rfl
def dZ(l):(iv l).length=l.length:=am _
def AW(a ld:af):List (Str×V):=mK "data" (.ref ld) (mK "shape" (.ref a) [])
def NV(a ld):(AW a ld).lookup ("shape":Str)=some (.ref a):=by
 unfold AW;rw [fq,if_neg (by decide+kernel),fq,if_pos rfl]
def NW(a ld):(AW a ld).lookup ("data":Str)=some (.ref ld):=by
 unfold AW;rw [fq,if_pos rfl]
def ArrAt(C:af)(H:Hp)(x:af)(a:Arr):Prop:=∃c b ld,H x=some (.ins C c (AW b ld))/\H b=some (.lst (tv a.shape))/\H ld=some (.lst (iv a.data))
def ArrAt.same(h:ArrAt C H x a)(s:WG H i):ArrAt C i x a:=by
 obtain ⟨g,b,ld,f,d,c⟩:=h;exact ⟨g,b,ld,s _ _ f,s _ _ d,s _ _ c⟩
def Pcs(H:Hp)(ps:List af)(ds:List (List Int)):Prop:=fW (λp d=>H p=some (.lst (iv d))) ps ds
def Pcs.same(h:Pcs H ps ds)(s:WG H a):Pcs a ps ds:=Wp h λ_ _ y=>s _ _ y
def Arrs(C:af)(H:Hp)(xs:List af)(a:List Arr):Prop:=fW (ArrAt C H) xs a
theorem Arrs.same(h:Arrs C H xs a)(s:WG H b):Arrs C b xs a:=Wp h λ_ _ y=>y.same s
abbrev cls(q:Nat->af×af)(k:Nat):af:=(q (k+3)).1
def RA(C:af)(q:Nat->af×af)(H:Hp)(r:Except Nat Arr)(Q:VK)(E:XK):Prop:=
 (∀a,r= .ok a->∀b x,WG H b->ArrAt C b x a->Q (.ref x) b)/\∀k,r= .error k->∀b,WG H b->E (.ref (cls q k)) none b
structure Ars (K:ac) (mg:Str→Option al) (CA:af) (q:Nat→af×af):Prop where
 an:AnsT K mg q
 i2:aj K (q 2).2 "__init__"=some none
 i3:aj K (q 3).2 "__init__"=some none
 i4:aj K (q 4).2 "__init__"=some none
 i5:aj K (q 5).2 "__init__"=some none
 i6:aj K (q 6).2 "__init__"=some none
 i7:aj K (q 7).2 "__init__"=some none
 i8:aj K (q 8).2 "__init__"=some none
 i9:aj K (q 9).2 "__init__"=some none
 ia:aj K (q 10).2 "__init__"=some none
 ib:aj K (q 11).2 "__init__"=some none
 mA:mg "Array"=some (.ref CA)
 cA:Cls K CA
 ns:Wx K CA "shape"
 nd:Wx K CA "data"
 kE:∃t,mg "MOST_EXTENTS"=some (.int 5 t)
 kD:∃t,mg "MOST_DATA"=some (.int 1024 t)
 kF:∃t,mg "FILL"=some (.int 0 t)
 kB:∃t,mg "BIGGEST"=some (.int 1000000000000000000 t)
 len:mg "len"=none
 min:mg "min"=none
 max:mg "max"=none
 abs:mg "abs"=none
 list:mg "list"=none
 tuple:mg "tuple"=none
 range:mg "range"=none
 zip:mg "zip"=none
 enum:mg "enumerate"=none
 rev:mg "reversed"=none
 sum:mg "sum"=none
 sorted:mg "sorted"=none
section
variable {X:Cx} {e e1 e2:eM} {t:TE} {ta:TA} {p pos:Pos} {CA:af} {q:Nat→af×af}
def MG(CA:af)(t:TE):TE:=λc H Q=>t c H λv b=>∃x d a ld,v= .ref x/\b x=some (.ins CA d (AW a ld))/\Q (.ref a) b
def de(A:Ars X.K X.mg CA q)(d:PE X e t)(c:mP e "shape" X.env (eval e X.env)=eval e X.env:=by rfl):PE X (.Attribute e "shape" pos) (MG CA t):=
 (iP d.up c).imp λi H Q h=>⟨_,h,λv j ⟨x,g,a,ld,f,b,q⟩=>⟨x,CA,g,_,.ref a,f,b,A.cA,A.ns,NV _ _,q⟩⟩
def QV(CA:af)(t:TE):TE:=λb H Q=>t b H λv a=>∃x d c ld,v= .ref x/\a x=some (.ins CA d (AW c ld))/\Q (.ref ld) a
def fw(A:Ars X.K X.mg CA q)(c:PE X e t)(b:mP e "data" X.env (eval e X.env)=eval e X.env:=by rfl):PE X (.Attribute e "data" pos) (QV CA t):=
 (iP c.up b).imp λg H Q h=>⟨_,h,λv j ⟨x,f,i,ld,d,a,q⟩=>⟨x,CA,f,_,.ref ld,d,a,A.cA,A.nd,NW _ _,q⟩⟩
def Q_(C:af):Sp:=λf H Q _=>∃(x d b ld:af),f=[.ref x,.ref b,.ref ld]/\H x=some (.ins C d [])/\∀a,a x=some (.ins C d (AW b ld))->(∀c o,H c=some o->c≠x->a c=some o)->Q .non a
structure MkA (P:be) (w:bN) (K:ac) (mg:Str→Option al) (CA:af):Prop where
 ex:∃f fd,Mk K CA f∧Binds K fd ["self","shape","data"] []∧∀base,Wz P w K mg base (CXE P w) 1 f fd ["self","shape","data"] (Q_ CA)
def Se(CA:af)(t:TA):TE:=λd H Q=>t d H λf c=>∃b ld,f=[.ref b,.ref ld]/\∀a x g,WG c a->c x=none->a x=some (.ins CA g (AW b ld))->Q (.ref x) a
def jh(A:Ars X.K X.mg CA q)(M:MkA X.prog X.w X.K X.mg CA)(i:Wy kk X.A)(o:PA X [e1,e2] ta)(j:2<=kk:=by decide)(l:Gl X "Array":=by rfl)(n:bx (e1::[e2]) X.env=(false,eval e1 X.env)::bx [e2] X.env:=by rfl)(a:(fV pos (bx [e2] X.env)).any (·.1)=false:=by rfl):
  PE X (.Call (.Name "Array" p) [e1,e2] [] pos) (Se CA ta):=by
 obtain ⟨f,C,m,v,F⟩:=M.ex;refine (yx (k:=1) m (F _) (i.mono j) l A.mA v .nil cw o.up (by decide) n a).imp λy H Q h=>⟨_,h,λz D ⟨g,ld,u,k⟩ x c b d B=> ?_⟩
 subst u;exact ⟨x,c,g,ld,rfl,ao,λw s r=>⟨rfl,k w x c (WI b d r) b s⟩⟩
end
def eR{K}(h:H l=some (.lst xs)):SqL K H l xs:=Ws h
def rJ(ns:List Int):Int:=ns.foldl (λn x=>n*x) 1
def iB(K:ac):Sp:=λc H Q _=>∃(a:af) (b:List Int),c=[.ref a]/\SqL K H a (iv b)/\(∀n∈b.tail,-(2^64)<n/\n<2^64)/\Q (.int (rJ b)) H
def ve(K:ac):Sp:=λd H Q _=>∃(a:af) (b:List Int),d=[.ref a]/\SqL K H a (iv b)/\(∀n∈b.tail,-(2^64)<n/\n<2^64)/\∀c,WG H c->Q (.bl (aQ (Y7 b))) c
def nP(K:ac)(q:Nat->af×af):Sp:=λd H Q E=>∃(a:af) (c:List Int),d=[.ref a]/\SqL K H a (iv c)/\(∀n∈c.tail,-(2^64)<n/\n<2^64)/\
 (aQ (Y7 c)=true->∀b,WG H b->Q (.ref a) b)/\(aQ (Y7 c)=false->∀b,WG H b->E (.ref (cls q 6)) none b)
def BN(K:ac)(CA:af)(q:Nat->af×af):Sp:=λg H Q E=>∃(a b:af) (c f:List Int),g=[.ref a,.ref b]/\SqL K H a (iv c)/\SqL K H b (iv f)/\(∀n∈c,-(2^64)<n/\n<2^64)/\
 (aQ (Y7 c)=true->f.length=ai (Y7 c)->∀d x,WG H d->ArrAt CA d x ⟨Y7 c,f⟩->Q (.ref x) d)/\
 (¬(aQ (Y7 c)=true/\f.length=ai (Y7 c))->∀d,WG H d->E (.ref (q 2).1) none d)
def xA(CA:af):Sp:=λb H Q _=>∃n:Int,b=[.int n]/\∀a x,WG H a->ArrAt CA a x (dU n)->Q (.ref x) a
def BI(CA:af):Sp:=λc H Q _=>∃(l:af) (b:List Int),c=[.ref l]/\H l=some (.lst (iv b))/\∀a x,WG H a->ArrAt CA a x (JH b)->Q (.ref x) a
def uh(CA:af):Sp:=λb H Q _=>∃(l:af) (s:List Nat) (n:Int),b=[.ref l,.int n]/\H l=some (.lst (tv s))/\(∀e∈s,e<=1024)/\ai s<=1048576/\∀a x,WG H a->ArrAt CA a x (jj s n)->Q (.ref x) a
def lD(CA:af):Sp:=λc H Q _=>∃(x:af) (a:Arr),c=[.ref x]/\ArrAt CA H x a/\∀b y,WG H b->ArrAt CA b y (bt a)->Q (.ref y) b
def xB:Sp:=λf H Q _=>∃(l:af) (d:List Int) (c n:Nat),f=[.ref l,.int (n:Int),.int (c:Int)]/\H l=some (.lst (iv d))/\n<=1048576/\c<=1048576/\∀a b ps,WG H a->(∀p∈ps,H p=none)->a b=some (.lst (ps.map WA))->Pcs a ps (jv c n d)->Q (.ref b) a
def ug:Sp:=λd H Q _=>∃(l:af) (ps:List af) (a:List (List Int)),d=[.ref l]/\H l=some (.lst (ps.map WA))/\Pcs H ps a/\a.flatten.length<=16777216/\∀b c,WG H b->b c=some (.lst (iv a.flatten))->Q (.ref c) b
def jW(CA:af):Sp:=λc H Q _=>∃(x:af) (a:Arr) (e:Nat) (s:List Nat),c=[.ref x]/\ArrAt CA H x a/\a.ok=true/\a.shape=e::s/\∀b l ps,WG H b->b l=some (.lst (ps.map WA))->Pcs b ps (cK a)->Q (.ref l) b
def su(CA:af):Sp:=λf H Q _=>∃(c d:af) (s:List Nat) (ps:List af) (a:List (List Int)),f=[.ref c,.ref d]/\H c=some (.lst (tv s))/\H d=some (.lst (ps.map WA))/\Pcs H ps a/\s.length<=5/\a.flatten.length<=16777216/\
 ∀b x,WG H b->ArrAt CA b x ⟨a.length::s,a.flatten⟩->Q (.ref x) b
def ss(CA:af)(f:Arr->Nat->List Nat):Sp:=λc H Q _=>∃(x:af) (a:Arr) (k:Nat),c=[.ref x,.int (k:Int)]/\ArrAt CA H x a/\k<=a.shape.length/\∀b l,WG H b->H l=none->b l=some (.lst (tv (f a k)))->Q (.ref l) b
def wQ(a:Arr)(k:Nat):List Arr:=(im a k).map λd=>{shape:=cZ a k,data:=d}
def ArrN(C:af)(H0 H:Hp)(x:af)(a:Arr):Prop:=∃c b ld,H x=some (.ins C c (AW b ld))/\H b=some (.lst (tv a.shape))/\H ld=some (.lst (iv a.data))/\H0 x=none/\H0 b=none/\H0 ld=none
def ArrN.at_(h:ArrN C H0 H x a):ArrAt C H x a:=let ⟨g,b,ld,f,d,c,_⟩:=h;⟨g,b,ld,f,d,c⟩
def ArrsN(C:af)(H0 H:Hp)(xs:List af)(a:List Arr):Prop:=fW (ArrN C H0 H) xs a
def ArrsN.arrs(h:ArrsN C H0 H xs a):Arrs C H xs a:=Wp h λ_ _ y=>y.at_
def ArrsN.same(h:ArrsN C H0 H xs g)(s:WG H i):ArrsN C H0 i xs g:=Wp h λ_ _ ⟨f,a,ld,d,c,b,r⟩=>⟨f,a,ld,s _ _ d,s _ _ c,s _ _ b,r⟩
def ArrsN.put(h:ArrsN C H0 H xs l)(n:H0 D=some u):ArrsN C H0 (upd H D o) xs l:=Wp h λ_ _ ⟨j,d,ld,i,g,f,c,b,a⟩=>
 ⟨j,d,ld,by rw [aC (dO (aU n c))];exact i,by rw [aC (dO (aU n b))];exact g,by rw [aC (dO (aU n a))];exact f,c,b,a⟩
def vf(CA:af):Sp:=λd H Q _=>∃(x:af) (a:Arr) (k:Nat),d=[.ref x,.int (k:Int)]/\ArrAt CA H x a/\a.ok=true/\k<=a.shape.length/\∀b l c,WG H b->H l=none->b l=some (.lst (c.map WA))->ArrsN CA H b c (wQ a k)->Q (.ref l) b
def kQ(K:ac)(q:Nat->af×af):Sp:=λd H Q E=>∃(a:af) (b:List Int),d=[.ref a]/\SqL K H a (iv b)/\((∀n∈b,0<=n)->Q .non H)/\((¬∀n∈b,0<=n)->∀c,WG H c->E (.ref (cls q 7)) none c)
def sD(xs:List V)(ns:List Int):List V:=(xs.zip ns).flatMap λx=>aG x.2.toNat x.1
def pM:Sp:=λg H Q _=>∃(a b:af) (d:List V) (c:List Int),g=[.ref a,.ref b]/\H a=some (.lst d)/\H b=some (.lst (iv c))/\d.length=c.length/\(∀n∈c,0<=n/\n<=1048576)/\(sD d c).length<=16777216/\∀f l,WG H f->f l=some (.lst (sD d c))->Q (.ref l) f
def xC(q:Nat->af×af):Sp:=λd H Q E=>∃(a b:af) (s t:List Nat),d=[.ref a,.ref b]/\H a=some (.lst (tv s))/\H b=some (.lst (tv t))/\
 (qt s t=true->∀c l,WG H c->c l=some (.lst (tv (ju s t)))->Q (.ref l) c)/\(qt s t=false->∀c,WG H c->E (.ref (cls q 1)) none c)
def ue:Sp:=λf H Q _=>∃(a b:af) (c:List V) (s:List Nat),f=[.ref a,.ref b]/\H a=some (.lst c)/\H b=some (.lst (tv s))/\(∀e∈s,e<=1024)/\ai s<=1024/\c.length<=1024/\∀d l,WG H d->d l=some (.lst (XQ c (ai s)))->Q (.ref l) d
def B5:Sp:=λj H Q _=>∃(a b c d:af) (s t:List Nat) (h g:List V),j=[.ref a,.ref b,.ref c,.ref d]/\H a=some (.lst (tv s))/\H b=some (.lst h)/\H c=some (.lst (tv t))/\H d=some (.lst g)/\
 aQ s=true/\aQ t=true/\h.length<=1024/\g.length<=1024/\
 ∀f l i,WG H f->f l=some (.lst (i.map WA))->TupsAt f i ((XQ h (ai (t.drop s.length))).zip (XQ g (ai (s.drop t.length))))->Q (.ref l) f
def lC(q:Nat->af×af)(f:Int->Int->Except Nat Int):Sp:=λd H Q E=>∃a b:Int,d=[.int a,.int b]/\dQ a=true/\dQ b=true/\
 (∀n,f a b= .ok n->∀c,WG H c->Q (.int n) c)/\∀k,f a b= .error k->∀c,WG H c->E (.ref (cls q k)) none c
def pO(CA:af)(q:Nat->af×af)(f:Arr->Arr->Except Nat Arr):Sp:=λc H Q E=>∃(x y:af) (a b:Arr),c=[.ref x,.ref y]/\ArrAt CA H x a/\ArrAt CA H y b/\a.ok=true/\b.ok=true/\RA CA q H (f a b) Q E
def Dx(K:ac)(mg:Str->Option al)(nm:Str)(st:dm)(ps:List Str):Prop:=∃f a,Df K mg nm st ps f a
def _root_.L2.Pk.of{K}{st}(D:Dx K mg nm st ps)(h:∀f a,Fun K nm nm st f a->∀base,G base->Wz P w K mg base (CXE P w) k f a ps sp):Pk P w K mg G k nm ps sp:=by
 obtain ⟨f,a,D⟩:=D;exact ⟨f,a,D.at_,D.fn.kp,D.bd,h f a D.fn⟩
def wN{i:Nat}(h:(iv ns)[i]? =some x):∃n,ns[i]? =some n/\x= .int n:=by
 rw [bW] at h;cases e:ns[i]? with
 | none=>rw [e] at h;cases h
 | some n=>rw [e] at h;exact ⟨n,rfl,(bw h).symm⟩
def iU{ps:List af}{i:Nat}(h:(ps.map WA)[i]? =some x):∃p,ps[i]? =some p/\x= .ref p:=by
 rw [bW] at h;cases e:ps[i]? with
 | none=>rw [e] at h;cases h
 | some n=>rw [e] at h;exact ⟨n,rfl,(bw h).symm⟩
def C5(ns)(n):rJ (ns++[n])=rJ ns*n:=by unfold rJ;rw [AT];rfl
def An(s):∀n:Nat,(Vaarrb.ints s).foldl (λn x=>n*x) (n:Int)=((s.foldl (λn x=>n*x) n:Nat):Int):=by
 induction s with
 | nil=>intro n;rfl
 | cons e s a=>
  intro n;show (Vaarrb.ints s).foldl _ ((n:Int)*(e:Int))=_;rw [<-lU,a];rfl
def gz(s):rJ (Vaarrb.ints s)=((ai s:Nat):Int):=An s 1
def NI{ns:List Int}(h:ns[i]? =some n)(b:∀n∈ns.tail,-(2^64)<n/\n<2^64):CMul (rJ (ns.take i)) n:=by
 cases i with
 | zero=>exact .inl ⟨by show -(2^64)<(1:Int);decide,by show (1:Int)<2^64;decide⟩
 | succ i=>
  cases ns with
  | nil=>simp at h
  | cons a r=>exact .inr (b n (bD (show r[i]? =some n from h)))
def Ae(p){ns:List Int}(h:n∈(ns.filter p).tail):n∈ns.tail:=by
 cases ns with
 | nil=>cases h
 | cons a r=>
  show n∈r;rw [Bv] at h;split at h
  ·exact (lR.mp h).1
  ·exact (lR.mp (oS h)).1
def gO(h:∀e∈s,e<=1024):∀n∈(Vaarrb.ints s).tail,-(2^64)<n/\n<2^64:=λn a=>by
 obtain ⟨e,b,rfl⟩:=cR.mp (oS a);have:=h e b;omega
section
variable {P:be} {w:bN} {K:ac} {mg:Str→Option al} {G:cz→Prop} {CA:af} {q:Nat→af×af}
def Sw:WB ["self","shape","data"] ["self","shape","data"] (aA WO):=⟨rfl,rfl,rfl,by decide+kernel,rfl,by decide+kernel,by decide+kernel⟩
def IG(A:Ars K mg CA q)(F:Fun K "__init__" "Array.__init__" WO f m):Wz P w K mg base (CXE P w) 1 f m ["self","shape","data"] (Q_ CA):=by
 refine F.okX Sw (λi H Q E h=> ?_) (λn r d s H i Q E p h=> ?_)
 ·obtain ⟨x,a,l,b,rfl,_⟩:=h;rfl
 ·obtain ⟨x,a,l,b,rfl,j,k⟩:=h;refine ⟨_,ay (rf (pv 0) (pv 1) rfl) (az (rf (pv 0) (pv 2) rfl)),?_⟩;refine ⟨_,rfl,_,rfl,x,CA,a,[],rfl,j,A.cA,A.ns,(by show 0<1000;decide),?_⟩;refine ⟨_,rfl,_,rfl,x,CA,a,_,rfl,ao,A.cA,A.nd,(by show 1<1000;decide),?_⟩;exact k _ ao λc o e g=>by rw [aC g,aC g];exact e
def rH:WB ["extents","whole","extent"] ["extents"] (aA vA):=⟨rfl,rfl,rfl,by decide+kernel,rfl,by decide+kernel,by decide+kernel⟩
def F0(D:Dx K mg "product" vA ["extents"]):Pk P w K mg G 1 "product" ["extents"] (iB K):= .of D λf z F m y=>by
 refine F.okX rH (λo H Q E h=> ?_) (λu A k s H o Q E v h=> ?_)
 ·obtain ⟨a,j,rfl,_⟩:=h;rfl
 ·obtain ⟨a,j,rfl,l,r,p⟩:=h;refine ⟨_,ay (cj (i:=1) rH.nd rfl (bz rfl) bR)
   (ay (my vT rfl (ik (pv 0)) (fg (i:=2) rH.nd rfl (bz rfl)) (az (cj (i:=1) rH.nd rfl (bz rfl) (d_ s_ (pv 1) (pv 2)))))
   (az (bn (pv 1)))),?_⟩
  refine ⟨_,rfl,a,rfl,⟨_,l⟩,kW (K:=K) (a:=a) (xs:=iv j) (λi c d=>∃g,c=[some (.ref a),some (.int (rJ (j.take i))),g]/\d=H) ⟨none,rfl,rfl⟩ (λi c d _ ⟨_,_,e⟩=>by rw [e];exact l) ?_ ?_⟩
  ·rintro i x c d t ⟨g,rfl,rfl⟩;obtain ⟨n,b,rfl⟩:=wN t;refine ⟨_,rfl,_,rfl,_,_,rfl,rfl,NI b r,some (.int n),?_,rfl⟩;rw [take_snoc b,C5];rfl
  ·rintro c d ⟨g,rfl,rfl⟩;refine ⟨_,rfl,?_⟩;rw [dZ,bH];exact p
def Ck(h:¬∀n∈ns,0<=n):aQ (Y7 ns)=false:=by
 cases e:aQ (Y7 ns) with
 | false=>rfl
 | true=>exact absurd (Xl e).1 h
def nu(h:∀n∈ns,0<=n):Y7 ns=ns.map E8:=by
 unfold Y7;refine g_ λn a=> ?_;rw [if_neg (by have:=h n a;omega)]
def nr(h:∀n∈ns,0<=n):Vaarrb.ints (ns.map E8)=ns:=by
 unfold Vaarrb.ints;rw [gu]
 conv=>rhs;rw [<-TR ns]
 refine g_ λn a=> ?_;have:=h n a;show ((n.toNat:Nat):Int)=n;omega
def jf(s):Y7 (Vaarrb.ints s)=s:=by
 have h:∀n∈Vaarrb.ints s,0<=n:=λn a=>by obtain ⟨e,_,rfl⟩:=cR.mp a;omega
 rw [nu h];unfold Vaarrb.ints;rw [gu]
 conv=>rhs;rw [<-TR s]
 exact g_ λn _=>rfl
def Au(s):(Vaarrb.ints s).filter (λn=> !decide (Wv n=Wv 0))=Vaarrb.ints (s.filter λx=>x != 0):=by
 unfold Vaarrb.ints;rw [List.filter_map];congr 1;refine List.filter_congr λn _=> ?_;show (!decide (Wv ((n:Nat):Int)=Wv 0))=(n != 0)
 by_cases h:n=0
 ·subst h;rfl
 ·have:Wv ((n:Nat):Int)≠Wv 0:=λe=>by have:=X1 e;omega
  rw [decide_eq_false this];simp [h]
def rK:qR 0 ns<0↔¬∀n∈ns,0<=n:=by
 cases ns with
 | nil=>
  show (0:Int)<0↔_;simp
 | cons a r=>
  obtain ⟨e,d,c⟩:=px r a;show r.foldl min a<0↔_;constructor
  ·intro h k;rcases c with z | z
   ·have:=k a ar;omega
   ·have:=k _ (au _ z);omega
  ·intro h;apply Int.not_le.mp;intro k;apply h;intro n b;rcases aH.mp b with z | z
   ·rw [z];omega
   ·have:=d n z;omega
def vh:WB ["extents","extent"] ["extents"] (aA sM):=⟨rfl,rfl,rfl,by decide+kernel,rfl,by decide+kernel,by decide+kernel⟩
def F3(A:Ars K mg CA q)(D:Dx K mg "is_shape" sM ["extents"])(M:Pk P w K mg G 1 "product" ["extents"] (iB K)):Pk P w K mg G 2 "is_shape" ["extents"] (ve K):= .of D λf fd F I Y=>by
 obtain ⟨tE,N⟩:=A.kE;obtain ⟨tD,O⟩:=A.kD;refine F.okX vh (λJ H Q E h=> ?_) (λa1 A' u s H J Q E T h=> ?_)
 ·obtain ⟨a,b,rfl,_⟩:=h;rfl
 ·obtain ⟨a,b,rfl,p,t,z⟩:=h;refine ⟨_,ay (ee (Wr (Je (cU AG (fy A.len (pv 0)) (cg (v:= .int 5) rfl N ⟨_,rfl⟩) (dA _))
    (D0 (cU wz (Hs (n:=0) rfl rfl A.min (by decide+kernel) (aa (pv 0) aw) bR) bR (dA _))))) (az (bn QE)) cB)
   (az (bn (qO wA (ci M Y T cw (aa (yy (own:=[("extent",1)]) rfl vh.nd (ik (pv 0)) (jt (by first | rfl | kernel_rfl)) (λ_ _ _ _ _=>fg (i:=1) vh.nd rfl (bz rfl))
    (λ_ _ _ _ _=>LY (cU yA (pv 1) bR (dA _))) (λ_ _ _ _ _=>pv 1)) aw)) (cg (v:= .int 1024) rfl O ⟨_,rfl⟩) (dA _)))),?_⟩
  have g:=z H (WH H);have a0:(Y7 b).length=b.length:=am _;refine ⟨_,rfl,a,_,rfl,p,_,_,rfl,rfl,_,rfl,gp (λc=>qa ?_) λc=> ?_⟩
  ·have C:¬b.length<=5:=by have:=of_decide_eq_true c;rw [dZ] at this;omega
   have e:aQ (Y7 b)=false:=by
    cases e:aQ (Y7 b) with
    | false=>rfl
    | true=>have:=((Xe _).mp e).1;omega
   rw [e] at g;exact g
  have C:b.length<=5:=by
   have:¬(5:Int)<((b.length:Nat):Int):=λy=>c (decide_eq_true (by rw [dZ];exact y));omega
  refine ⟨_,rfl,a,b,rfl,p,_,_,rfl,rfl,_,rfl,gp (λd=> ?_) λd=> ?_⟩
  ·have e:=Ck (rK.mp (of_decide_eq_true d));rw [e] at g;exact g
  have j:∀n∈b,0<=n:=λn t=>Va.mp λy=>d (decide_eq_true (rK.mpr λk=>by have:=k n t;omega));refine ⟨_,rfl,a,rfl,⟨_,p⟩,λD B=>pw (K:=K) (a:=a) (xs:=iv b) (λi r=>r=upd H D (.lst (iv ((b.take i).filter λn=> !decide (Wv n=Wv 0))))) rfl (λi r _ e=>by rw [e];exact p.fresh B) ?_ ?_⟩
  ·rintro i x r U rfl;obtain ⟨n,o,rfl⟩:=wN U;refine ⟨rfl,_,rfl,rfl,_,rfl,gp (λe=> ?_) λe=> ?_⟩
   ·refine ⟨_,rfl,_,ao,?_,?_⟩
    ·rw [dZ];refine jx (cD (List.length_filter_le _ _) ?_);rw [bQ];omega
    ·rw [mw,take_snoc o,yS,Bv,if_pos e,PY];show _=upd H D (.lst (iv (_++[n])));rw [show iv (((b.take i).filter λn=> !decide (Wv n=Wv 0))++[n])=iv ((b.take i).filter λn=> !decide (Wv n=Wv 0))++[Wv n] from bY]
   ·rw [take_snoc o,yS,Bv,if_neg e,PY,gy]
  ·rintro r rfl;refine ⟨D,_,rfl,Ws ao,λn m=> ?_,_,_,rfl,rfl,?_⟩
   ·rw [dZ,bH] at m;exact t n (Ae _ m)
   ·have L:WG H (upd H D (.lst (iv ((b.take (iv b).length).filter λn=> !decide (Wv n=Wv 0))))):=WZ (WH H) B;have e:aQ (Y7 b)=decide (rJ ((b.take (iv b).length).filter λn=> !decide (Wv n=Wv 0))<=1024):=by
     rw [dZ,bH,nu j]
     conv=>rhs;rw [<-nr j]
     rw [Au,gz];unfold aQ;rw [decide_eq_true (show (b.map E8).length<=VQ by rw [am];exact C),Bool.true_and];refine decide_eq_decide.mpr ⟨λy=> ?_,λy=> ?_⟩
     ·have:ai ((b.map E8).filter λx=>x != 0)<=1024:=y;omega
     ·show _<=1024;omega
    have l:=z _ L;rw [e] at l;exact l
def L8:WB ["extents"] ["extents"] (aA Bc):=⟨rfl,rfl,rfl,by decide+kernel,rfl,by decide+kernel,by decide+kernel⟩
def Ls(A:Ars K mg CA q)(D:Dx K mg "sized" Bc ["extents"])(k:Pk P w K mg G 2 "is_shape" ["extents"] (ve K)):Pk P w K mg G 3 "sized" ["extents"] (nP K q):= .of D λf u F i n=>by
 refine F.okX L8 (λj H Q E h=> ?_) (λt v c s H j Q E l h=> ?_)
 ·obtain ⟨a,b,rfl,_⟩:=h;rfl
 ·obtain ⟨a,b,rfl,o,m,r,p⟩:=h;refine ⟨_,ay (ee (Dd (re (ci k n l cw (aa (pv 0) aw)))) (az (eK rfl rfl A.an.t9.xc A.i9 rfl A.an.t9.at_ ig)) cB) (az (bn (pv 0))),?_⟩;refine ⟨_,rfl,a,b,rfl,o,m,λg d=>⟨_,rfl,?_⟩⟩;cases e:aQ (Y7 b) with
  | true=>exact ⟨_,rfl,r e g d⟩
  | false=>exact p e g d
def Iu:WB ["shape","data"] ["shape","data"] (aA mj):=⟨rfl,rfl,rfl,by decide+kernel,rfl,by decide+kernel,by decide+kernel⟩
def IU(A:Ars K mg CA q)(M:MkA P w K mg CA)(D:Dx K mg "handed_array" mj ["shape","data"])(ki:Pk P w K mg G 2 "is_shape" ["extents"] (ve K))(Y:Pk P w K mg G 1 "product" ["extents"] (iB K)):
  Pk P w K mg G 3 "handed_array" ["shape","data"] (BN K CA q):= .of D λf fd F O C=>by
 refine F.okX Iu (λT H Q E h=> ?_) (λa0 A' v s H T Q E p h=> ?_)
 ·obtain ⟨a,b,d,k,rfl,_⟩:=h;rfl
 ·obtain ⟨a,b,d,k,rfl,t,I,hn,h1,J⟩:=h;refine ⟨_,ay (ee (Wr (Je (Dd (re (ci ki C p cw (aa (pv 0) aw)))) (D0 (cU yA (fy A.len (pv 1)) (ci Y C p cw (aa (pv 0) aw)) (dA _)))))
    (az (eK rfl rfl A.an.t2.xc A.i2 rfl A.an.t2.at_ ig)) cB)
   (az (bn (jh A M p (aa (rR tG rfl A.list (by decide+kernel) (aa (pv 0) aw)) (aa (rR tG rfl A.list (by decide+kernel) (aa (pv 1) aw)) aw))))),?_⟩
  have z:∀n∈d.tail,-(2^64)<n/\n<2^64:=λn h=>hn n (oS h);refine ⟨_,rfl,a,d,rfl,t,z,λj i=>⟨_,rfl,?_⟩⟩;cases e:aQ (Y7 d) with
  | false=>exact qa (J (λy=>by rw [e] at y;exact aN y.1) j i)
  | true=>
   obtain ⟨g,N⟩:=Xl e;have ei:iv d=tv (Y7 d):=by rw [N,<-ij,nr g]
   have L:rJ d=((ai (Y7 d):Nat):Int):=by rw [N,<-gz,nr g]
   refine rT ⟨_,rfl,b,_,rfl,i.seq I,_,rfl,a,d,rfl,i.seq t,z,rfl,_,rfl,gp (λc=> ?_) λc=> ?_⟩
   ·refine J (λy=> ?_) j i;rw [L,dZ,y.2] at c;simp at c
   ·have c':k.length=ai (Y7 d):=by
     rw [L,dZ] at c;have:=gJ.mp (show ¬¬(Wv ((k.length:Nat):Int)=Wv ((ai (Y7 d):Nat):Int)) from λy=>c (by rw [decide_eq_false y];rfl));have:=X1 this;omega
    refine ⟨_,rfl,a,_,rfl,.inl (i.seq t),λl B=>⟨_,rfl,b,_,rfl,.inl ((i.seq I).fresh B),λm r=>⟨l,m,rfl,λH2 x dx o nx hx=> ?_⟩⟩⟩;have U:WG j (upd (upd j l (.lst (iv d))) m (.lst (iv k))):=WZ (WZ (WH j) B) r;have u:l≠m:=λy=>by rw [<-y,ao] at r;cases r
    refine h1 e c' H2 x (i.trans (U.trans o)) ⟨dx,l,m,hx,o _ _ ?_,o _ _ ao⟩;rw [aC u,ao,ei]
def Is:WB ["number"] ["number"] (aA xW):=⟨rfl,rfl,rfl,by decide+kernel,rfl,by decide+kernel,by decide+kernel⟩
def IP(A:Ars K mg CA q)(M:MkA P w K mg CA)(D:Dx K mg "scalar" xW ["number"]):Pk P w K mg G 3 "scalar" ["number"] (xA CA):= .of D λf B F e z=>by
 refine F.okX Is (λg H Q E h=> ?_) (λu C d s H g Q E k h=> ?_)
 ·obtain ⟨n,rfl,_⟩:=h;rfl
 ·obtain ⟨n,rfl,o⟩:=h;refine ⟨_,az (bn (jh A M k (aa (eA aw) (aa (eA (aa (pv 0) aw)) aw)))),?_⟩;refine ⟨cy _,λl p=>⟨_,rfl,(by show 1<=a_;decide),λm b=>⟨l,m,rfl,λt x r a v j=> ?_⟩⟩⟩;have c:l≠m:=λy=>by rw [<-y,ao] at b;cases b
  have i:WG H (upd (upd H l (.lst [])) m (.lst [.int n])):=WZ (WZ (WH H) p) b;exact o t x (i.trans a) ⟨r,l,m,j,a _ _ (by rw [aC c,ao];rfl),a _ _ ao⟩
def Ir:WB ["numbers"] ["numbers"] (aA xV):=⟨rfl,rfl,rfl,by decide+kernel,rfl,by decide+kernel,by decide+kernel⟩
def IM(A:Ars K mg CA q)(M:MkA P w K mg CA)(D:Dx K mg "vector" xV ["numbers"]):Pk P w K mg G 3 "vector" ["numbers"] (BI CA):= .of D λf y F g v=>by
 refine F.okX Ir (λi H Q E h=> ?_) (λt z b s H i Q E k h=> ?_)
 ·obtain ⟨l,d,rfl,_⟩:=h;rfl
 ·obtain ⟨l,d,rfl,e,n⟩:=h;refine ⟨_,az (bn (jh A M k (aa (eA (aa (fy A.len (pv 0)) aw)) (aa (pv 0) aw)))),?_⟩;refine ⟨_,rfl,l,_,rfl,eR e,(by show 1<=a_;decide),λm o=>⟨_,rfl,m,l,rfl,λr x p a u j=> ?_⟩⟩;have c:WG H (upd H m (.lst [.int ((iv d).length:Nat)])):=WZ (WH H) o;refine n r x (c.trans a) ⟨p,m,l,j,a _ _ ?_,a _ _ (c _ _ e)⟩;rw [ao,dZ];rfl
def vj{a:Type}(n:a)(k):(aG k [n]).flatten=aG k n:=by
 induction k with
 | zero=>rfl
 | succ k b=>rw [gw,fP,b];rfl
def Iv:WB ["shape","number"] ["shape","number"] (aA ye):=⟨rfl,rfl,rfl,by decide+kernel,rfl,by decide+kernel,by decide+kernel⟩
def IW(A:Ars K mg CA q)(M:MkA P w K mg CA)(D:Dx K mg "filled" ye ["shape","number"])(p:Pk P w K mg G 1 "product" ["extents"] (iB K)):Pk P w K mg G 3 "filled" ["shape","number"] (uh CA):= .of D λf L F k y=>by
 refine F.okX Iv (λo H Q E h=> ?_) (λC N e s H o Q E i h=> ?_)
 ·obtain ⟨l,a,n,rfl,_⟩:=h;rfl
 ·obtain ⟨l,a,n,rfl,c,v,J,u⟩:=h;refine ⟨_,az (bn (jh A M i (aa (pv 0) (aa (d_ zR (eA (aa (pv 1) aw)) (ci p y i cw (aa (pv 0) aw))) aw)))),?_⟩;refine ⟨_,rfl,_,rfl,(by show 1<=a_;decide),λm j=>⟨_,rfl,l,Vaarrb.ints a,rfl,?_,gO v,?_⟩⟩
  ·rw [ij];exact eR (by rw [aC (aU c j)];exact c)
  rw [gz];refine ⟨m,_,_,rfl,rfl,ao,by omega,by omega,?_,λr d=>⟨l,r,rfl,λB x z b I t=> ?_⟩⟩
  ·show 1*((ai a:Nat):Int).toNat<=a_;rw [cq,dM];omega
  have g:WG H (upd (upd H m (.lst [.int n])) r (.lst (aG ((ai a:Nat):Int).toNat [Wv n]).flatten)):=WZ (WZ (WH H) j) d;refine u B x (g.trans b) ⟨z,l,r,t,b _ _ (g _ _ c),b _ _ ?_⟩;rw [ao,dM,vj];show _=some (Y8 (iv (aG (ai a) n)));rw [show iv (aG (ai a) n)=aG (ai a) (Wv n) from qV]
def C2:WB ["array"] ["array"] (aA qG):=⟨rfl,rfl,rfl,by decide+kernel,rfl,by decide+kernel,by decide+kernel⟩
def Ci(A:Ars K mg CA q)(D:Dx K mg "as_vector" qG ["array"])(t:Pk P w K mg G 3 "vector" ["numbers"] (BI CA)):Pk P w K mg G 4 "as_vector" ["array"] (lD CA):= .of D λf I F o v=>by
 refine F.okX C2 (λp H Q E h=> ?_) (λC J j s H p Q E l h=> ?_)
 ·obtain ⟨x,a,rfl,_⟩:=h;rfl
 ·obtain ⟨x,a,rfl,⟨i,c,ld,d,k,n⟩,m⟩:=h;refine ⟨_,ay (ee (oB l.units (de A (pv 0))) (az (bn (ci t v l cw (aa (fw A (pv 0)) aw)))) cB) (az (bn (pv 0))),?_⟩;refine ⟨_,rfl,x,i,c,ld,rfl,d,c,a.shape,rfl,eR k,λB b=> ?_⟩;cases e:a.shape.isEmpty with
  | true=>
   refine qa ⟨_,rfl,x,i,c,ld,rfl,b _ _ d,ld,a.data,rfl,b _ _ n,λz y r u=> ?_⟩;have g:bt a=JH a.data:=if_pos e;exact m z y (b.trans r) (by rw [g];exact u)
  | false=>
   refine rT ⟨_,rfl,?_⟩;have g:bt a=a:=if_neg (by rw [e];exact aN);exact m B x b (by rw [g];exact ⟨i,c,ld,b _ _ d,b _ _ k,b _ _ n⟩)
end
end Rk
open Rk renaming ArrAt->Y5,Arrs->Y6
namespace L2
open PySem PySem.Spec PyProof.Rows Rx
def Mp(xs){a b:Nat}(h:a<=b):py xs (some (a:Int)) (some (b:Int))=(xs.drop a).take (b - a):=by
 unfold py;rw [WE,WE];by_cases d:a<=xs.length
 ·rw [gY d];by_cases c:b<=xs.length
  ·rw [gY c]
  ·rw [gI (by omega),di (by rw [bK];omega),di (by rw [bK];omega)]
 ·rw [gI (by omega),gI (by omega),eI (by omega),eI (by omega)];simp
def js(xs)(a:Nat):py xs (some (a:Int)) none=xs.drop a:=by
 unfold py;rw [WE,WD,di (by rw [bK];omega)];by_cases b:a<=xs.length
 ·rw [gY b]
 ·rw [gI (by omega),eI (by omega),eI (by omega)]
def tp(xs)(b:Nat):py xs none (some (b:Int))=xs.take b:=by
 unfold py;rw [WE,WD,kL,B2];by_cases a:b<=xs.length
 ·rw [gY a]
 ·rw [gI (by omega),bH,di (by omega)]
def JB(xs):py xs none (some (-1))=xs.dropLast:=by
 unfold py;rw [WD,kL,B2,List.dropLast_eq_take];show xs.take (if (-1:Int)<0 then (-1+(xs.length:Int)).toNat else min (-1:Int).toNat xs.length)=_;rw [if_pos (by decide)];congr 1;omega
def Same.put(s:WG H a)(n:H D=none):WG H (upd a D o):=λb u e=>by
 rw [aC (aU e n)];exact s b u e
def Ml{K}{g:TG}{tb:TS}{D:Wq}(Pv:Nat->St->Hp->Prop)(h0:Pv 0 c H)(r:xs.length=ys.length)(z:∀i c H,i<=xs.length->Pv i c H->SqL K H a xs/\SqL K H b ys)(u:∀i x y c H T,xs[i]? =some x->ys[i]? =some y->Pv i c H->H T=none->g (.ref T) c (upd H T (.tup [x,y])) λf n=>tb {D with nx:=Pv (i+1),ct:=Pv (i+1),bk:=D.nx} f n)(B:∀c H,Pv xs.length c H->D.nx c H):
  ∃W:Nat->Nat->St->Hp->Prop,(∃m,W 0 m c H)/\∀i m c H,W i m c H->
   ((RP K a b).stop i H/\D.nx c H)\/((RP K a b).go i H/\∃N:St->Hp->Prop,(∀h d,N h d->∃o,o<m/\W (i+1) o h d)/\∀x d,(RP K a b).yld i H x d->g x c d λf n=>tb {D with nx:=N,ct:=N,bk:=D.nx} f n):=by
 refine ⟨λi m c H=>m=xs.length - i/\i<=xs.length/\Pv i c H,⟨xs.length,by simp,cy _,h0⟩,?_⟩;rintro i m c H ⟨rfl,A,p⟩;obtain ⟨l,k⟩:=z i c H A p;by_cases j:i<xs.length
 ·have C:i<ys.length:=by omega
  refine .inr ⟨⟨xs,ys,xs[i],ys[i],l,k,by simp [j],by simp [C]⟩,Pv (i+1),λh d s=>⟨xs.length - (i+1),by omega,rfl,j,s⟩,λv d y=> ?_⟩;obtain ⟨T,x,y,L,t,J,I,E⟩:=y;subst L J;exact u i x y c _ T (I xs l) (E ys k) p t
 ·have e:i=xs.length:=by omega
  subst e;exact .inl ⟨⟨xs,ys,l,k,.inl (aO _)⟩,B c H p⟩
end L2
open L2.Same renaming put->Y9
namespace Rk
open PySem PySem.Spec PyProof.Rows L2 Rx
open Vaarrb (Arr)
def vw(l)(n):(iv l).drop n=iv (l.drop n):=Ia.symm
def vv(l)(n):(iv l).take n=iv (l.take n):=H_.symm
def xw(l)(n):(tv l).drop n=tv (l.drop n):=Ia.symm
def xv(l)(n):(tv l).take n=tv (l.take n):=H_.symm
theorem Pcs.snoc(a:H p=some (.lst (iv d))):∀{ps:List af} {ds:List (List Int)},Pcs H ps ds->Pcs H (ps++[p]) (ds++[d])
 | _,_,.nil=> .cons a .nil
 | _,_,.cons h t=> .cons h (Pcs.snoc a t)
theorem Arrs.snoc(a:Y5 C H p d):∀{ps:List af} {ds:List Arr},Y6 C H ps ds->Y6 C H (ps++[p]) (ds++[d])
 | _,_,.nil=> .cons a .nil
 | _,_,.cons h t=> .cons h (Arrs.snoc a t)
def Pcs.len(h:Pcs H ps ds):ps.length=ds.length:=gG h
def Arrs.len(h:Y6 C H ps ds):ps.length=ds.length:=gG h
theorem Pcs.put:∀{ps:List af} {ds:List (List Int)},Pcs H ps ds->D∉ps->Pcs (upd H D o) ps ds
 | _,_,.nil,_=> .nil
 | _,_,.cons h t,n=> .cons (by rw [aC (λe=>n (by rw [<-e];exact ar))];exact h) (Pcs.put t λm=>n (au _ m))
def Pcs.get(h:Pcs H ps ds){i:Nat}(e:ps[i]? =some p):∃d,ds[i]? =some d/\H p=some (.lst (iv d)):=nq h e
def Arrs.get(h:Y6 C H ps ds){i:Nat}(e:ps[i]? =some p):∃d,ds[i]? =some d/\Y5 C H p d:=nq h e
section
variable {P:be} {w:bN} {K:ac} {mg:Str→Option al} {G:cz→Prop} {CA:af} {q:Nat→af×af}
def xF:WB ["data","count","size","number"] ["data","count","size"] (aA qD):=⟨rfl,rfl,rfl,by decide+kernel,rfl,by decide+kernel,by decide+kernel⟩
def IQ(A:Ars K mg CA q)(D:Dx K mg "pieces_of" qD ["data","count","size"]):Pk P w K mg G 1 "pieces_of" ["data","count","size"] xB:= .of D λf fd F I hb=>by
 refine F.okX xF (λJ H Q E h=> ?_) (λa0 A' y s H J Q E hr h=> ?_)
 ·obtain ⟨l,d,c,n,rfl,_⟩:=h;rfl
 ·obtain ⟨l,d,c,n,rfl,N,hn,hc,M⟩:=h;refine ⟨_,az (bn (yy (own:=[("number",3)]) rfl xF.nd (zN rfl A.range (aa (pv 1) aw)) (jt (by first | rfl | kernel_rfl)) (λ_ _ _ _ _=>fg (i:=3) xF.nd rfl (bz rfl)) (λ_ _ _ _ _=>mx)
   (λ_ _ _ _ _=>dJ (r:=Oh K) eD (pv 0) (dY (d_ s_ (pv 3) (pv 2))) (dY (d_ s_ (d_ oM (pv 3) bR) (pv 2)))))),?_⟩
  refine ⟨_,rfl,(n:Int),rfl,by omega,by omega,λD B=>Dv (lo:=0) (λi b=>∃a,WG H b/\D∉a/\b D=some (.lst (a.map WA))/\Pcs b a ((iu i).map λj=>(d.drop (j*c)).take c)/\∀p∈a,H p=none) ⟨[],WZ (WH H) B,by simp,ao,.nil,by simp⟩ ?_ ?_⟩
  ·rintro i b O ⟨a,e,k,u,g,x⟩;rw [dM] at O;have C:(0:Int)+(i:Int)=((i:Nat):Int):=by omega
   have o:a.length=i:=by have:=g.len;rw [am,gv] at this;exact this
   refine ⟨rfl,_,rfl,_,rfl,_,rfl,_,_,rfl,rfl,.inr ⟨by omega,by omega⟩,_,rfl,_,rfl,_,_,rfl,rfl,_,rfl,_,_,rfl,rfl,.inr ⟨by omega,by omega⟩,_,rfl,l,_,rfl,eR (e _ _ N),λp t=> ?_⟩;have v:D≠p:=aU u t;refine ⟨_,by rw [aC v];exact u,by rw [am,o,cq];omega,a++[p],?_,?_,?_,?_,?_⟩
   ·exact Y9 (WZ e t) B
   ·intro m;rcases bV.mp m with z | z
    ·exact k z
    ·exact v (aL.mp z)
   ·rw [ao,bY];rfl
   ·rw [PX,bY];have Y:((0:Int)+(i:Int))*(c:Int)=((i*c:Nat):Int):=by rw [C,lU]
    have U:((0:Int)+(i:Int)+1)*(c:Int)=(((i+1)*c:Nat):Int):=by rw [C,lU];rfl
    have T:(i+1)*c - i*c=c:=by rw [eY,dF];omega
    refine Pcs.snoc ?_ (Pcs.put (g.same (WZ (WH _) t)) k);rw [aC v.symm,ao,Y,U,Mp _ (by rw [eY];omega),T,vw,vv]
   ·intro L m;rcases bV.mp m with z | z
    ·exact x L z
    ·rw [aL.mp z];exact e.free t
  ·rintro b ⟨a,e,_,u,g,x⟩;rw [dM,<-OneM.pieces_eq] at g;exact M b D a e x u g
def xG:WB ["pieces","data","piece"] ["pieces"] (aA xZ):=⟨rfl,rfl,rfl,by decide+kernel,rfl,by decide+kernel,by decide+kernel⟩
def F6{ds:List (List Int)}(i):(ds.take i).flatten.length<=ds.flatten.length:=by
 conv=>rhs;rw [<-dD i ds,lB,bp]
 omega
def IT(D:Dx K mg "joined" xZ ["pieces"]):Pk P w K mg G 1 "joined" ["pieces"] ug:= .of D λf M F v L=>by
 refine F.okX xG (λy H Q E h=> ?_) (λC N o s H y Q E J h=> ?_)
 ·obtain ⟨l,r,ds,rfl,_⟩:=h;rfl
 ·obtain ⟨l,r,ds,rfl,g,t,I,z⟩:=h;refine ⟨_,ay (cj (i:=1) xG.nd rfl (bz rfl) (eA aw))
   (ay (my vT rfl (ik (pv 0)) (fg (i:=2) xG.nd rfl (bz rfl)) (az (iF (FG iW mI rB vH (pv 1) (aa (pv 2) aw)))))
   (az (bn (pv 1)))),?_⟩
  refine ⟨cy _,λD j=> ?_⟩;refine ⟨_,rfl,l,rfl,⟨_,eR (by rw [aC (aU g j)];exact g)⟩,kW (K:=K) (a:=l) (xs:=r.map WA) (λi c k=>∃m,c=[some (.ref l),some (.ref D),m]/\k=upd H D (.lst (iv (ds.take i).flatten))) ⟨none,rfl,rfl⟩
   (λi c k _ ⟨_,_,e⟩=>by rw [e];exact eR (by rw [aC (aU g j)];exact g)) ?_ ?_⟩
  ·rintro i x c k A ⟨m,rfl,rfl⟩;obtain ⟨p,n,rfl⟩:=iU A;obtain ⟨d,B,b⟩:=t.get n;have u:(ds.take (i+1)).flatten=(ds.take i).flatten++d:=by rw [take_snoc B,lB];simp
   refine ⟨_,rfl,.inl ⟨rfl,_,Ws ao⟩,_,rfl,D,p,_,_,rfl,rfl,ao,by rw [aC (aU b j)];exact b,?_,some (.ref p),rfl,?_⟩
   ·have:=F6 (ds:=ds) (i+1);rw [u,bp] at this;rw [dZ,dZ,cq];omega
   ·rw [mw,u,show iv ((ds.take i).flatten++d)=iv (ds.take i).flatten++iv d from bY]
  ·rintro c k ⟨m,rfl,rfl⟩;refine ⟨_,rfl,z _ D (WZ (WH H) j) ?_⟩;rw [ao,am,t.len,bH]
def xH:WB ["array"] ["array"] (aA nX):=⟨rfl,rfl,rfl,by decide+kernel,rfl,by decide+kernel,by decide+kernel⟩
def xT(A:Ars K mg CA q)(D:Dx K mg "cell_pieces" nX ["array"])(I:Pk P w K mg G 1 "pieces_of" ["data","count","size"] xB)(C:Pk P w K mg G 1 "product" ["extents"] (iB K)):Pk P w K mg G 2 "cell_pieces" ["array"] (jW CA):= .of D λf fd F u t=>by
 refine F.okX xH (λv H Q E h=> ?_) (λa0 A' m s H v Q E r h=> ?_)
 ·obtain ⟨x,a,e,c,rfl,_⟩:=h;rfl
 ·obtain ⟨x,a,e,c,rfl,⟨k,d,ld,j,o,N⟩,ok,b,L⟩:=h;have i:=((Xj a).mp ok).1;have ep:(e:Nat)<=1024:=Xi i (by rw [b];exact ar);have g:aQ c=true:=by have:=Xh i 1;rw [b] at this;exact this
  have pp:=Xf g;refine ⟨_,az (bn (ci I t r cw (aa (fw A (pv 0)) (aa (iR gn (de A (pv 0)) bR (λ_ _=>rfl)) (aa (ci C t r cw (aa (dJ eD (de A (pv 0)) (dY bR) ff) aw)) aw))))),?_⟩;refine ⟨_,rfl,x,k,d,ld,rfl,j,_,rfl,x,k,d,ld,rfl,j,d,_,((0:Nat):Int),.int (e:Int),rfl,rfl,eR o,f_ (by rw [b];rfl),_,rfl,x,k,d,ld,rfl,j,_,rfl,d,_,rfl,eR o,λp M=> ?_⟩;have U:py (tv a.shape) (some 1) none=tv c:=by rw [show (some (1:Int))=some ((1:Nat):Int) from rfl,js,b];rfl
  rw [U];refine ⟨p,Vaarrb.ints c,rfl,by rw [ij];exact eR ao,gO λy J=>Xi g J,?_⟩;rw [gz];have n:WG H (upd H p (.lst (tv c))):=WZ (WH H) M;refine ⟨ld,a.data,ai c,e,rfl,n _ _ N,by omega,by omega,λY l B z _ T O=>L Y l B (n.trans z) T ?_⟩;rw [(Xo b).1];exact O
def BZ:WB ["cell_shape","pieces"] ["cell_shape","pieces"] (aA jE):=⟨rfl,rfl,rfl,by decide+kernel,rfl,by decide+kernel,by decide+kernel⟩
def Cf(A:Ars K mg CA q)(M:MkA P w K mg CA)(D:Dx K mg "array_of_pieces" jE ["cell_shape","pieces"])(B:Pk P w K mg G 1 "joined" ["pieces"] ug):Pk P w K mg G 3 "array_of_pieces" ["cell_shape","pieces"] (su CA):= .of D λf fd F y L=>by
 refine F.okX BZ (λz H Q E h=> ?_) (λU A' i s H z Q E o h=> ?_)
 ·obtain ⟨k,e,b,a,v,rfl,_⟩:=h;rfl
 ·obtain ⟨k,e,b,a,v,rfl,n,p,u,h5,C,J⟩:=h;refine ⟨_,az (bn (jh A M o (aa (d_ lE (eA (aa (fy A.len (pv 1)) aw)) (pv 0)) (aa (ci B L o cw (aa (pv 1) aw)) aw)))),?_⟩;refine ⟨_,rfl,e,_,rfl,eR p,(by show 1<=a_;decide),λm t=>⟨_,rfl,m,k,_,_,rfl,rfl,ao,by rw [aC (aU n t)];exact n,?_,λr g=> ?_⟩⟩
  ·show 1+(tv b).length<=a_;rw [dE,cq];omega
  have d:WG H (upd (upd H m (.lst [Wv ((a.map WA).length:Nat)])) r (.lst ([Wv ((a.map WA).length:Nat)]++tv b))):=WZ (WZ (WH H) t) g;refine ⟨_,rfl,e,a,v,rfl,d _ _ p,u.same d,C,λH2 l j N=>⟨r,l,rfl,λT x O c Y I=> ?_⟩⟩;refine J T x (d.trans (j.trans c)) ⟨O,r,l,I,c _ _ (j _ _ ?_),c _ _ N⟩;rw [ao,am,u.len];rfl
def L9:WB ["array","rank"] ["array","rank"] (aA sP):=⟨rfl,rfl,rfl,by decide+kernel,rfl,by decide+kernel,by decide+kernel⟩
def Lx(A:Ars K mg CA q)(D:Dx K mg "frame_of" sP ["array","rank"]):Pk P w K mg G 1 "frame_of" ["array","rank"] (ss CA ek):= .of D λf v F j u=>by
 refine F.okX L9 (λl H Q E h=> ?_) (λn y c s H l Q E o h=> ?_)
 ·obtain ⟨x,a,k,rfl,_⟩:=h;rfl
 ·obtain ⟨x,a,k,rfl,⟨i,b,ld,d,e,t⟩,r,m⟩:=h;refine ⟨_,az (bn (dJ eD (de A (pv 0)) ff (dY (d_ p_ (fy A.len (de A (pv 0))) (pv 1))))),?_⟩;refine ⟨_,rfl,x,i,b,ld,rfl,d,_,rfl,x,i,b,ld,rfl,d,b,_,rfl,eR e,_,rfl,_,_,rfl,rfl,_,rfl,b,_,rfl,eR e,λp g=> ?_⟩;refine m _ p (WZ (WH H) g) g ?_;rw [ao,show ((tv a.shape).length:Int) - (k:Int)=((a.shape.length - k:Nat):Int) by rw [dE];omega,tp,xv];rfl
def Ah:WB ["array","rank"] ["array","rank"] (aA lu):=⟨rfl,rfl,rfl,by decide+kernel,rfl,by decide+kernel,by decide+kernel⟩
def As(A:Ars K mg CA q)(D:Dx K mg "cell_shape_of" lu ["array","rank"]):Pk P w K mg G 1 "cell_shape_of" ["array","rank"] (ss CA cZ):= .of D λf v F j u=>by
 refine F.okX Ah (λl H Q E h=> ?_) (λn y c s H l Q E o h=> ?_)
 ·obtain ⟨x,a,k,rfl,_⟩:=h;rfl
 ·obtain ⟨x,a,k,rfl,⟨i,b,ld,d,e,t⟩,r,m⟩:=h;refine ⟨_,az (bn (dJ eD (de A (pv 0)) (dY (d_ p_ (fy A.len (de A (pv 0))) (pv 1))) ff)),?_⟩;refine ⟨_,rfl,x,i,b,ld,rfl,d,_,rfl,x,i,b,ld,rfl,d,b,_,rfl,eR e,_,rfl,_,_,rfl,rfl,_,rfl,b,_,rfl,eR e,λp g=> ?_⟩;refine m _ p (WZ (WH H) g) g ?_;rw [ao,show ((tv a.shape).length:Int) - (k:Int)=((a.shape.length - k:Nat):Int) by rw [dE];omega,js,xw];rfl
end
def ArrsN.len(h:ArrsN C H0 H ps ds):ps.length=ds.length:=gG h
theorem qA{a:d}{b:c}(h:R a b):∀{xs:List d} {ys:List c},fW R xs ys->fW R (xs++[a]) (ys++[b])
 | _,_,.nil=> .cons h .nil
 | _,_,.cons e t=> .cons e (qA h t)
theorem uv{g:e->j}:∀{xs:List n} {ys:List l} {d:List e},fW R xs ys->fW S ys d->(∀a b c,True->b∈ys->R a b->S b c->T a (g c))->fW T xs (d.map g)
 | _,_,_,.nil,.nil,_=> .nil
 | _,_,_,.cons h t,.cons i f,k=> .cons (k _ _ _ trivial ar h i) (uv t f λa b c x m=>k a b c x (au _ m))
section
variable {P:be} {w:bN} {K:ac} {mg:Str→Option al} {G:cz→Prop} {CA:af} {q:Nat→af×af}
def vi:WB ["array","rank","shape","pieces","piece"] ["array","rank"] (aA sQ):=⟨rfl,rfl,rfl,by decide+kernel,rfl,by decide+kernel,by decide+kernel⟩
def LB(A:Ars K mg CA q)(M:MkA P w K mg CA)(D:Dx K mg "cells_of" sQ ["array","rank"])(kc:Pk P w K mg G 1 "pieces_of" ["data","count","size"] xB)(kp:Pk P w K mg G 1 "product" ["extents"] (iB K))(kf:Pk P w K mg G 1 "frame_of" ["array","rank"] (ss CA ek))(ks:Pk P w K mg G 1 "cell_shape_of" ["array","rank"] (ss CA cZ)):Pk P w K mg G 3 "cells_of" ["array","rank"] (vf CA):= .of D λf fd F a6 o=>by
 refine F.okX vi (λvs H Q E h=> ?_) (λa8 A' a5 s H vs Q E m h=> ?_)
 ·obtain ⟨x,a,k,rfl,_⟩:=h;rfl
 ·obtain ⟨x,a,k,rfl,Y,ok,hk,hq⟩:=h;have t:=((Xj a).mp ok).1;have u:aQ (ek a k)=true:=Xg t _;have v:aQ (cZ a k)=true:=Xh t _;have pf:=Xf u;have pc:=Xf v;refine ⟨_,ay (cj (i:=2) vi.nd rfl (by first | exact bz rfl | exact jG rfl) (ci ks o m cw (aa (pv 0) (aa (pv 1) aw))))
   (ay (cj (i:=3) vi.nd rfl (by first | exact bz rfl | exact jG rfl) (ci kc o m cw (aa (fw A (pv 0)) (aa (ci kp o m cw (aa (ci kf o m cw (aa (pv 0) (aa (pv 1) aw))) aw)) (aa (ci kp o m cw (aa (pv 2) aw)) aw)))))
   (az (bn (yy (own:=[("piece",4)]) rfl vi.nd (ik (pv 3)) (jt (by first | rfl | kernel_rfl)) (λ_ _ _ _ _=>fg (i:=4) vi.nd rfl (bz rfl)) (λ_ _ _ _ _=>mx)
    (λ_ _ _ _ _=>jh A M m (aa (pv 2) (aa (pv 4) aw))))))),?_⟩
  refine ⟨_,rfl,_,rfl,x,a,k,rfl,Y,hk,λH1 N J n1 h1=> ?_⟩;obtain ⟨dx,a1,ld,hx,hs,hd⟩:=Y.same J;refine ⟨_,rfl,x,dx,a1,ld,rfl,hx,_,rfl,_,rfl,x,a,k,rfl,Y.same J,hk,λH2 lf n nf h2=> ?_⟩;refine ⟨lf,Vaarrb.ints (ek a k),rfl,by rw [ij];exact eR h2,gO λy U=>Xi u U,?_⟩;rw [gz];refine ⟨_,rfl,N,Vaarrb.ints (cZ a k),rfl,by rw [ij];exact eR (n _ _ h1),gO λy U=>Xi v U,?_⟩;rw [gz];refine ⟨ld,a.data,_,_,rfl,n _ _ hd,by omega,by omega,λH3 lp L s3 np h3 h4=> ?_⟩;have g:=J.trans (n.trans s3);have a3:=s3 _ _ (n _ _ h1);refine ⟨_,rfl,lp,rfl,⟨_,eR h3⟩,λD hD=>pw (K:=K) (a:=lp) (xs:=L.map WA) (λi e=>∃xs,WG H3 e/\e D=some (.lst (xs.map WA))/\fW (λx p=>∃dx,e x=some (.ins CA dx (AW N p))/\H x=none) xs (L.take i)) ⟨[],WZ (WH H3) hD,ao,.nil⟩
   (λi e _ ⟨_,s,_⟩=>eR (s _ _ h3)) ?_ ?_⟩
  ·rintro i y e hi ⟨xs,l,c,r⟩;obtain ⟨p,C,rfl⟩:=iU hi;have li:i<L.length:=(aY.mp C).1;have a7:L.length<=1024:=by rw [h4.len,Xm];exact pf
   have lx:xs.length=i:=by rw [gG r,bQ];omega
   refine ⟨rfl,_,rfl,_,rfl,N,p,rfl,λH5 x5 a4 T B a2=> ?_⟩;have a0:D≠x5:=aU c B;refine ⟨_,T _ _ c,by rw [am,lx,cq];omega,xs++[x5],?_,?_,?_⟩
   ·exact Y9 (l.trans T) hD
   ·rw [ao,bY];rfl
   ·rw [take_snoc C];refine qA ⟨a4,by rw [aC a0.symm];exact a2,g.free (l.free B)⟩ (Wp r λb p' ⟨j,I,O⟩=>⟨j,?_,O⟩);rw [aC (jr I c (λz=>nomatch z))];exact T _ _ I
  ·rintro e ⟨xs,l,c,r⟩;refine hq e D xs (g.trans l) (g.free hD) c ?_;rw [am,bH] at r;show fW _ xs ((im a k).map _);refine uv r h4 λb p d hp hm ⟨j,I,O⟩ y3=>⟨j,N,p,I,l _ _ a3,l _ _ y3,O,n1,(J.trans n).free (np p hm)⟩
end
def ET(h:xs.length=ns.length):sD (xs++[x]) (ns++[n])=sD xs ns++aG n.toNat x:=by
 unfold sD;rw [List.zip_append h,xq];simp
theorem BF{b a:Type}:∀(xs:List b) (ys:List a) (i:Nat),(xs.take i).zip (ys.take i)=(xs.zip ys).take i
 | [],ys,i=>by simp
 | x::xs,[],i=>by simp
 | x::xs,y::ys,0=>rfl
 | x::xs,y::ys,i+1=>by
  show (x,y)::(xs.take i).zip (ys.take i)=(x,y)::(xs.zip ys).take i;rw [BF xs ys i]
def ES(i):(sD (xs.take i) (ns.take i)).length<=(sD xs ns).length:=by
 unfold sD;rw [BF]
 conv=>rhs;rw [<-dD i (xs.zip ns),xq,bp]
 omega
def wK(xs)(n:Nat):sD xs (aG xs.length (n:Int))=XQ xs n:=by
 unfold sD XQ
 induction xs with
 | nil=>rfl
 | cons x r a=>
  rw [aF,gw,fu,cV,a,cV];rfl
section
variable {P:be} {w:bN} {K:ac} {mg:Str→Option al} {G:cz→Prop} {CA:af} {q:Nat→af×af}
def Lb:WB ["numbers"] ["numbers"] (aA mm):=⟨rfl,rfl,rfl,by decide+kernel,rfl,by decide+kernel,by decide+kernel⟩
def Lz(A:Ars K mg CA q)(D:Dx K mg "check_counts" mm ["numbers"]):Pk P w K mg G 1 "check_counts" ["numbers"] (kQ K q):= .of D λf t F e r=>by
 refine F.okX Lb (λg H Q E h=> ?_) (λo u b s H g Q E p h=> ?_)
 ·obtain ⟨a,c,rfl,_⟩:=h;rfl
 ·obtain ⟨a,c,rfl,j,m,l⟩:=h;refine ⟨_,az (ee (cU wz (Hs (n:=0) rfl rfl A.min (by decide+kernel) (aa (pv 0) aw) bR) bR (dA _)) (az (eK rfl rfl A.an.ta.xc A.ia rfl A.an.ta.at_ ig)) cB),?_⟩;refine ⟨_,rfl,a,c,rfl,j,_,_,rfl,rfl,_,rfl,gp (λd=> ?_) λd=> ?_⟩
  ·exact l (rK.mp (of_decide_eq_true d)) H (WH H)
  ·exact m λn i=>Va.mp λy=>d (decide_eq_true (rK.mpr λk=>by have:=k n i;omega))
def pP:WB ["things","counts","taken","thing","count"] ["things","counts"] (aA sK):=⟨rfl,rfl,rfl,by decide+kernel,rfl,by decide+kernel,by decide+kernel⟩
def Ce(A:Ars K mg CA q)(D:Dx K mg "repeated" sK ["things","counts"]):Pk P w K mg G 1 "repeated" ["things","counts"] pM:= .of D λf fd F O hb=>by
 refine F.okX pP (λU H Q E h=> ?_) (λa0 A' I s H U Q E hr h=> ?_)
 ·obtain ⟨a,b,xs,ns,rfl,_⟩:=h;rfl
 ·obtain ⟨a,b,xs,ns,rfl,M,l,z,hn,hz,hq⟩:=h;refine ⟨_,ay (cj (i:=2) pP.nd rfl (bz rfl) (eA aw))
   (ay (my vT rfl (Oj rfl A.zip (aa (pv 0) (aa (pv 1) aw))) (Hr rfl (pZ (fg (i:=3) pP.nd rfl (bz rfl)) (pZ (fg (i:=4) pP.nd rfl (bz rfl)) Bj)))
    (az (iF (FG iW mI rB vH (pv 2) (aa (d_ zR (eA (aa (pv 3) aw)) (pv 4)) aw)))))
   (az (bn (pv 2)))),?_⟩
  refine ⟨cy _,λD N=> ?_⟩;have v:WG H (upd H D (.lst [])):=WZ (WH H) N;refine ⟨_,rfl,_,rfl,a,b,xs,iv ns,rfl,eR (v _ _ M),eR (v _ _ l),Ml (K:=K) (a:=a) (b:=b) (xs:=xs) (ys:=iv ns)
   (λi o d=>∃u t,o=[some (.ref a),some (.ref b),some (.ref D),u,t]/\WG H d/\d D=some (.lst (sD (xs.take i) (ns.take i)))) ⟨none,none,rfl,v,ao⟩ (by rw [dZ];exact z)
   (λi o d _ ⟨_,_,_,e,_⟩=>⟨eR (e _ _ M),eR (e _ _ l)⟩) ?_ ?_⟩
  ·rintro i x y o d T hi hj ⟨u,t,rfl,e,p⟩ J;obtain ⟨n,k,rfl⟩:=wN hj;obtain ⟨n0,n1⟩:=hn n (bD k);have C:D≠T:=aU p J;have Y:WG H (upd d T (.tup [x,Wv n])):=WZ e J;have c:(upd d T (.tup [x,Wv n])) D=some (.lst (sD (xs.take i) (ns.take i))):=by rw [aC C];exact p
   refine ⟨T,_,rfl,Wu ao,rfl,_,_,rfl,_,_,rfl,rfl,?_⟩;refine ⟨_,rfl,.inl ⟨rfl,_,Ws c⟩,_,rfl,(by show 1<=a_;decide),λm L=>⟨_,rfl,m,n,_,rfl,rfl,ao,by omega,by omega,?_,λr j=> ?_⟩⟩
   ·show 1*n.toNat<=a_;rw [cq];omega
   have g:D≠m:=aU c L;have B:D≠r:=aU (by rw [aC g];exact c) j;have tl:(sD (xs.take (i+1)) (ns.take (i+1)))=sD (xs.take i) (ns.take i)++aG n.toNat x:=by
    rw [take_snoc hi,take_snoc k,ET (by rw [bQ,bQ,z])]
   refine ⟨D,r,_,_,rfl,rfl,by rw [aC B,aC g];exact c,ao,?_,some x,some (.int n),rfl,?_,?_⟩
   ·have:=ES (xs:=xs) (ns:=ns) (i+1);rw [tl,bp,bU] at this;rw [Hw,cq];show _+n.toNat*1<=_;omega
   ·exact Y9 (WZ (WZ Y L) j) N
   ·rw [ao,tl,vj]
  ·rintro o d ⟨u,t,rfl,e,p⟩;refine ⟨_,rfl,hq d D e ?_⟩;rw [p,bH,z,bH]
def B_:WB ["left","right","shared"] ["left","right"] (aA mh):=⟨rfl,rfl,rfl,by decide+kernel,rfl,by decide+kernel,by decide+kernel⟩
def IS(A:Ars K mg CA q)(D:Dx K mg "longer_shape" mh ["left","right"]):Pk P w K mg G 1 "longer_shape" ["left","right"] (xC q):= .of D λf O F B N=>by
 refine F.okX B_ (λC H Q E h=> ?_) (λM T u s H C Q E I h=> ?_)
 ·obtain ⟨a,b,d,t,rfl,_⟩:=h;rfl
 ·obtain ⟨a,b,d,t,rfl,m,g,x,J⟩:=h;refine ⟨_,ay (cj (i:=2) B_.nd rfl (bz rfl) (eV (nE rfl) rfl A.min (by decide+kernel) (aa (fy A.len (pv 0)) (aa (fy A.len (pv 1)) aw))))
   (ay (ee (cU (Do I.units) (dJ eD (pv 0) ff (dY (pv 2))) (dJ eD (pv 1) ff (dY (pv 2))) (dA _)) (az (eK rfl rfl A.an.t4.xc A.i4 rfl A.an.t4.at_ ig)) cB)
   (ay (ee (cU AG (fy A.len (pv 0)) (fy A.len (pv 1)) (dA _)) (az (bn (pv 0))) cB) (az (bn (pv 1))))),?_⟩
  refine ⟨_,rfl,a,_,rfl,eR m,_,rfl,b,_,rfl,eR g,_,_,rfl,?_⟩;have L:(if ((tv t).length:Int)<((tv d).length:Int) then ((tv t).length:Int) else ((tv d).length:Int))=((min d.length t.length:Nat):Int):=by
   rw [dE,dE];split<;>omega
  rw [L];refine ⟨_,rfl,_,rfl,_,rfl,a,_,rfl,eR m,λp v=>⟨_,rfl,_,rfl,_,rfl,b,_,rfl,eR (by rw [aC (aU g v)];exact g),λr j=> ?_⟩⟩;have o:p≠r:=λy=>by rw [<-y,ao] at j;cases j
  rw [tp,tp,xv,xv];have k:WG H (upd (upd H p (.lst (tv (d.take (min d.length t.length))))) r (.lst (tv (t.take (min d.length t.length))))):=by
   rw [tp,xv] at j;exact WZ (WZ (WH H) v) j
  refine ⟨_,_,dpL (Ws (by rw [aC o];exact ao)),dpL (Ws ao),W_ _,W_ _,_,rfl,?_⟩;rw [X0];by_cases l:qt d t=true
  ·have e:(d.take (min d.length t.length)==t.take (min d.length t.length))=true:=beq_iff_eq.mpr ((XO d t).mp l);rw [e];refine rT ⟨_,rfl,a,_,rfl,eR (k _ _ m),_,rfl,b,_,rfl,eR (k _ _ g),_,_,rfl,rfl,_,rfl,gp (λc=> ?_) λc=> ?_⟩
   ·have n:t.length<d.length:=by have:=of_decide_eq_true c;rw [dE,dE] at this;omega
    refine ⟨_,rfl,x l _ a k ?_⟩;rw [show ju d t=d from if_pos n];exact k _ _ m
   ·have n:¬t.length<d.length:=λy=>c (decide_eq_true (by rw [dE,dE];omega));refine ⟨_,rfl,x l _ b k ?_⟩;rw [show ju d t=t from if_neg n];exact k _ _ g
  ·have e:(d.take (min d.length t.length)==t.take (min d.length t.length))=false:=by
    cases z:(d.take (min d.length t.length)==t.take (min d.length t.length)) with
    | false=>rfl
    | true=>exact absurd ((XO d t).mpr (beq_iff_eq.mp z)) l
   rw [e];exact qa (J (by simpa using l) _ k)
def Ag:WB ["things","extents"] ["things","extents"] (aA qC):=⟨rfl,rfl,rfl,by decide+kernel,rfl,by decide+kernel,by decide+kernel⟩
def Ar(A:Ars K mg CA q)(D:Dx K mg "stretched" qC ["things","extents"])(I:Pk P w K mg G 1 "repeated" ["things","counts"] pM)(J:Pk P w K mg G 1 "product" ["extents"] (iB K)):Pk P w K mg G 2 "stretched" ["things","extents"] ue:= .of D λf fd F z y=>by
 refine F.okX Ag (λB H Q E h=> ?_) (λa0 A' t s H B Q E o h=> ?_)
 ·obtain ⟨a,b,d,c,rfl,_⟩:=h;rfl
 ·obtain ⟨a,b,d,c,rfl,j,i,O,M,L,v⟩:=h;refine ⟨_,ay (ee (oB o.units (pv 1)) (az (bn (pv 0))) cB)
   (az (bn (ci I y o cw (aa (pv 0) (aa (d_ zR (eA (aa (ci J y o cw (aa (pv 1) aw)) aw)) (fy A.len (pv 0))) aw))))),?_⟩
  refine ⟨_,rfl,b,c,rfl,eR i,λk g=> ?_⟩;cases e:c.isEmpty with
  | true=>
   refine qa ⟨_,rfl,v k a g ?_⟩;rw [jg.mp e,Xb,OneM.stretch_one];exact g _ _ j
  | false=>
   refine rT ⟨_,rfl,_,rfl,b,Vaarrb.ints c,rfl,by rw [ij];exact eR (g _ _ i),gO O,?_⟩;rw [gz];refine ⟨(by show 1<=a_;decide),λm x=>⟨_,rfl,a,_,rfl,eR (by rw [aC (aU (g _ _ j) x)];exact g _ _ j),m,_,_,rfl,rfl,ao,by omega,by omega,?_,λr p=> ?_⟩⟩
   ·show 1*((d.length:Nat):Int).toNat<=a_;rw [cq,dM];omega
   have u:WG k (upd (upd k m (.lst [Wv ((ai c:Nat):Int)])) r (.lst (aG ((d.length:Nat):Int).toNat [Wv ((ai c:Nat):Int)]).flatten)):=WZ (WZ (WH k) x) p;have U:(aG ((d.length:Nat):Int).toNat [Wv ((ai c:Nat):Int)]).flatten=iv (aG d.length ((ai c:Nat):Int)):=by
    rw [dM,vj];exact qV.symm
   refine ⟨a,r,d,aG d.length ((ai c:Nat):Int),rfl,u _ _ (g _ _ j),by rw [ao,U],by rw [bU],λn N=> ?_,?_,λY l C T=> ?_⟩
   ·rw [(eG.mp N).2];omega
   ·rw [wK,OneM.stretch_len];have:d.length*ai c<=1024*1024:=xk L M;omega
   ·refine v Y l (g.trans (u.trans C)) ?_;rw [<-wK];exact T
def B6:WB ["left_shape","left_things","right_shape","right_things","left","right"] ["left_shape","left_things","right_shape","right_things"] (aA sL):=⟨rfl,rfl,rfl,by decide+kernel,rfl,by decide+kernel,by decide+kernel⟩
def Lw(A:Ars K mg CA q)(D:Dx K mg "pairs_of" sL ["left_shape","left_things","right_shape","right_things"])(N:Pk P w K mg G 2 "stretched" ["things","extents"] ue):
  Pk P w K mg G 3 "pairs_of" ["left_shape","left_things","right_shape","right_things"] B5:= .of D λf fd F a0 U=>by
 refine F.okX B6 (λvs H Q E h=> ?_) (λa1 A' B s H vs Q E O h=> ?_)
 ·obtain ⟨a,b,c,d,m,t,I,C,rfl,_⟩:=h;rfl
 ·obtain ⟨a,b,c,d,m,t,I,C,rfl,Y,z,T,hd,x,v,lx,ly,hq⟩:=h;refine ⟨_,ay (cj (i:=4) B6.nd rfl (bz rfl) (ci N U O cw (aa (pv 1) (aa (dJ eD (pv 2) (dY (fy A.len (pv 0))) ff) aw))))
   (ay (cj (i:=5) B6.nd rfl (bz rfl) (ci N U O cw (aa (pv 3) (aa (dJ eD (pv 0) (dY (fy A.len (pv 2))) ff) aw))))
   (az (bn (Dk rfl rfl A.list rfl A.zip (aa (pv 4) (aa (pv 5) aw)))))),?_⟩
  refine ⟨_,rfl,_,rfl,_,rfl,a,_,rfl,eR Y,_,rfl,c,_,rfl,eR T,λp hp=> ?_⟩;rw [dE,js,xw];have L:WG H (upd H p (.lst (tv (t.drop m.length)))):=WZ (WH H) hp;have n:=Xh v m.length;have j:=Xh x t.length;refine ⟨b,p,I,t.drop m.length,rfl,L _ _ z,ao,λe r=>Xi n r,Xf n,lx,λu l1 s2 h1=> ?_⟩;have g:=L.trans s2;refine ⟨_,rfl,_,rfl,_,rfl,c,_,rfl,eR (g _ _ T),_,rfl,a,_,rfl,eR (g _ _ Y),λM y=> ?_⟩;rw [dE,js,xw];have o:WG u (upd u M (.lst (tv (m.drop t.length)))):=WZ (WH u) y;refine ⟨d,M,C,m.drop t.length,rfl,o _ _ (g _ _ hd),ao,λe r=>Xi j r,Xf j,ly,λH2 l2 J h2=> ?_⟩;refine ⟨_,rfl,_,rfl,l1,l2,_,_,rfl,eR (J _ _ (o _ _ h1)),eR h2,λl ts H' nl k hl ht=>hq H' l ts (g.trans (o.trans (J.trans k))) hl ht⟩
end
end Rk
open Rk.Arrs renaming snoc->Yb
namespace OneM
open Vaarrb
def asV_len(a:y.ok=true)(b:(bt y).shape=e::s):(bt y).data.length=e*ai s:=by
 have:=((Xj _).mp (Xp a)).2.1;rw [b,Xc] at this;exact this
def Fd(n)(f)(l):(DT n f l).length=n.natAbs:=by
 unfold DT;split
 ·rw [bp,bQ,bU];omega
 ·rw [bp,bK,bU];omega
def take_eq(f:y.ok=true)(h:fH x= .ok n)(a:(bt y).shape=e::s):nF x y=
  if aQ (n.natAbs::s)=true then .ok ⟨n.natAbs::s,if n<0 then aG ((n.natAbs - min n.natAbs e)*ai s) 0++(bt y).data.drop ((bt y).data.length - min n.natAbs e*ai s)
   else (bt y).data.take (min n.natAbs e*ai s)++aG ((n.natAbs - min n.natAbs e)*ai s) 0⟩ else .error SIZE:=by
 have g:=asV_len f a;have b:=(Xo a).2;unfold nF;rw [h];dsimp only;by_cases c:aQ (n.natAbs::s)=true
 ·have j:=(Xe _).mp c;have i:n.natAbs<=1024:=Xi c ar;rw [if_neg (by
   rintro (z | z | z)
   ·have:(1024:Int)<n:=z;omega
   ·have:n< -(1024:Int):=z;omega
   ·rw [b,c] at z;cases z),if_pos c]
  unfold JR jS;rw [Fd,Cp a g,b,if_pos c];congr 2;by_cases d:0<=n
  ·rw [if_pos d,if_neg (by omega)]
  ·rw [if_neg d,if_pos (by omega)]
 ·rw [if_pos (.inr (.inr (by rw [b];simpa using c))),if_neg c]
def shapeOk_less(h:aQ (e::s)=true)(a:k<=e):aQ (k::s)=true:=by
 rw [Xe] at h ⊢;refine ⟨h.1,cD ?_ h.2⟩;rw [sX,sX];refine gj _ ?_;split<;>split<;>omega
def drop_eq(b:y.ok=true)(h:fH x= .ok n)(a:(bt y).shape=e::s):nG x y=
  .ok ⟨(e - n.natAbs)::s,if n<0 then (bt y).data.take ((e - n.natAbs)*ai s) else (bt y).data.drop ((bt y).data.length - (e - n.natAbs)*ai s)⟩:=by
 have c:=asV_len b a;have d:=(Xo a).2;have ok:=((Xj _).mp (Xp b)).1;rw [a] at ok;obtain ⟨g,f⟩:=yq a c n;unfold nG;rw [h];dsimp only;unfold JR jS;rw [f,g,d,if_pos (shapeOk_less ok (by omega))]
def rotate_eq(b:y.ok=true)(h:fH x= .ok n){s:List Nat}(a:y.shape=e::s):iz x y=
  .ok ⟨y.shape,y.data.drop ((n % (e:Int)).toNat*ai s)++y.data.take ((n % (e:Int)).toNat*ai s)⟩:=by
 have c:y.data.length=e*ai s:=by have:=((Xj _).mp b).2.1;rw [a,Xc] at this;exact this
 unfold iz;rw [h];dsimp only;rw [if_neg (by rw [a];simp),yk a c,(Xo a).1,Xm]
def rotate_nil(h:fH x= .ok n)(a:y.shape=[]):iz x y= .ok y:=by
 unfold iz;rw [h,a];rfl
def rotate_zero(a:y.ok=true)(h:fH x= .ok n)(b:y.shape=0::s):iz x y= .ok y:=by
 rw [rotate_eq a h b];have c:y.data.length=0*ai s:=by have:=((Xj _).mp a).2.1;rw [b,Xc] at this;exact this
 rw [qx] at c;have:y.data=[]:=cH.mp c;obtain ⟨e,d⟩:=y;subst this;simp
def join_eq:r_ x y=if cQ (cC x y)≠cQ (cC y x) then .error SHAPE else
  jS (((cC x y).shape.headD 0+(cC y x).shape.headD 0)::cQ (cC x y)) ((cC x y).data++(cC y x).data):=by
 unfold r_;dsimp only;by_cases c:cQ (cC x y)≠cQ (cC y x)
 ·rw [if_pos (.inr c),if_pos c]
 ·rw [if_neg c,if_neg];rintro (z | z)
  ·apply z;have f:cQ (cC x y)=cQ (cC y x):=gJ.mp c;have d:∀a b:Arr,(cC a b).shape≠[]:=λa b h=>by
    unfold cC at h;split at h
    ·simp [JH] at h
    ·split at h
     ·cases h
     ·split at h
      ·cases h
      ·rename_i g e k;rw [jg] at g e;exact e h
   unfold cQ at f;have l:=congrArg oU f;rw [bK,bK] at l;have j:=N1.mpr (d x y);have i:=N1.mpr (d y x);show (cC x y).shape.length=(cC y x).shape.length;omega
  ·exact c z
def repeated_flat{l:List A}(h0:∀n∈ns,0<=n)(a:gx ns<=1024):jT l ns=(l.zip ns).flatMap λx=>aG x.2.toNat x.1:=uy l ns h0 a
def keep_eq(p:x.ok=true)(A:y.ok=true)(i:(bt y).shape=e::s)(q:¬1<x.rank)(j:ns=if x.rank=0 then aG e (x.data.headD 0) else x.data):oO x y=
  if ns.length≠e then .error SHAPE else if ¬(∀n∈x.data,0<=n) then .error DOMAIN else if aQ ((gx ns).toNat::s)=false then .error SIZE else .ok ⟨(jT (cK (bt y)) ns).length::s,(jT (cK (bt y)) ns).flatten⟩:=by
 have k:=(Xo i).2;have r:=(Xo i).1;have t:x.data.length=ai x.shape:=((Xj _).mp p).2.1;unfold oO;dsimp only;rw [if_neg q,i];show (if x.rank=1/\x.data.length≠e then _ else _)=_;have len:ns.length≠e↔(x.rank=1/\x.data.length≠e):=by
  rw [j];by_cases z:x.rank=0
  ·rw [if_pos z,bU];constructor
   ·intro h;exact absurd rfl h
   ·intro h;omega
  ·rw [if_neg z];constructor
   ·intro h;exact ⟨by omega,h⟩
   ·intro h;exact h.2
 by_cases c:ns.length≠e
 ·rw [if_pos (len.mp c),if_pos c]
 rw [if_neg (λh=>c (len.mpr h)),if_neg c];by_cases b:¬(∀n∈x.data,0<=n)
 ·rw [if_pos (XE.mpr b),if_pos b]
 rw [if_neg (λh=>b (XE.mp h)),if_neg b];have g:=gJ.mp b;rw [show (e::s).headD 0=e from rfl,<-j];have d:∀n∈ns,0<=n:=λn h=>by
  rw [j] at h;by_cases z:x.rank=0
  ·rw [if_pos z] at h;have u:x.data.length=1:=by
    rw [t,cH.mp z];rfl
   obtain ⟨m,l⟩:=jz.mp u;rw [(eG.mp h).2,l];exact g m (by rw [l];exact ar)
  ·rw [if_neg z] at h;exact g n h
 have v:=XB d;by_cases a:aQ ((gx ns).toNat::s)=false
 ·rw [if_pos (.inr (by rw [k];exact a)),if_pos a]
 ·have f:aQ ((gx ns).toNat::s)=true:=by simpa using a
  have w:(gx ns).toNat<=1024:=Xi f ar;rw [if_neg (by
   rintro (z | z)
   ·have:(1024:Int)<gx ns:=z;omega
   ·rw [k] at z;exact a z),if_neg a]
  unfold JR jS;have o:(jT (cK (bt y)) ns).length=(gx ns).toNat:=by
   rw [XD _ _ (by rw [r,Xm];exact (gJ.mp c).symm) d (by omega)]
  rw [k,o,if_pos f]
end OneM
open OneM renaming asV_len->Yc
namespace Rk
open PySem PySem.Spec PyProof.Rows L2 Rx
open Vaarrb (Arr)
def BL(CA:af)(q:Nat->af×af):Sp:=λb H Q E=>∃(x:af) (a:Arr),b=[.ref x]/\Y5 CA H x a/\(∀n,fH a= .ok n->Q (.int n) H)/\∀k,fH a= .error k->E (.ref (cls q k.natAbs)) none H
def Kb(h:r= .ok a):b_ r= .ok a:=by rw [h];rfl
def rO(j)(h:r= .error k)(e:k.natAbs=j:=by rfl):b_ r= .error j:=by rw [h,<-e];rfl
def Gk{a:Arr}(ok:a.ok=true):∀n∈a.data.tail,-(2^64)<n/\n<2^64:=λn b=>by
 have:=(Xk n).mp (((Xj a).mp ok).2.2 n (oS b));omega
section
variable {P:be} {w:bN} {K:ac} {mg:Str→Option al} {G:cz→Prop} {CA:af} {q:Nat→af×af}
def NC:WB ["x"] ["x"] (aA o_):=⟨rfl,rfl,rfl,by decide+kernel,rfl,by decide+kernel,by decide+kernel⟩
def NR(A:Ars K mg CA q)(D:Dx K mg "one_number" o_ ["x"]):Pk P w K mg G 1 "one_number" ["x"] (BL CA q):= .of D λf C F p B=>by
 refine F.okX NC (λr H Q E h=> ?_) (λv I k s H r Q E z h=> ?_)
 ·obtain ⟨x,a,rfl,_⟩:=h;rfl
 ·obtain ⟨x,a,rfl,⟨j,b,ld,i,t,m⟩,u,o⟩:=h;refine ⟨_,ay (ee (cU AG (fy A.len (de A (pv 0))) bR (dA _)) (az (eK rfl rfl A.an.t5.xc A.i5 rfl A.an.t5.at_ ig)) cB)
   (ay (ee (cU yA (fy A.len (fw A (pv 0))) bR (dA _)) (az (eK rfl rfl A.an.t4.xc A.i4 rfl A.an.t4.at_ ig)) cB)
   (az (bn (iR gn (fw A (pv 0)) bR (λ_ _=>rfl))))),?_⟩
  refine ⟨_,rfl,x,j,b,ld,rfl,i,b,_,rfl,eR t,_,_,rfl,rfl,_,rfl,gp (λc=> ?_) λc=> ?_⟩
  ·have g:1<a.rank:=by have:=of_decide_eq_true c;rw [dE] at this;show 1<a.shape.length;omega
   exact o (-2) (if_pos g)
  have g:¬1<a.rank:=λy=>c (decide_eq_true (by rw [dE];have:1<a.shape.length:=y;omega));refine ⟨_,rfl,x,j,b,ld,rfl,i,ld,_,rfl,eR m,rfl,_,rfl,gp (λd=> ?_) λd=> ?_⟩
  ·have e:a.data.length≠1:=λy=>by rw [dZ,y] at d;simp at d
   exact o (-1) (by unfold fH;rw [if_neg g,if_pos e];rfl)
  ·have e:a.data.length=1:=by
    have:Wv (((iv a.data).length:Nat):Int)=Wv 1:=gJ.mp λy=>d (by rw [decide_eq_false y];rfl);have:=X1 this;rw [dZ] at this;omega
   obtain ⟨n,l⟩:=jz.mp e;refine ⟨_,rfl,x,j,b,ld,rfl,i,ld,_,((0:Nat):Int),.int n,rfl,rfl,eR m,f_ (by rw [l];rfl),u n ?_⟩;unfold fH;rw [if_neg g,if_neg (λy=>y e),l];rfl
def Ih(h:1<x.rank):iH x= .error (-2):=if_pos h
def Ig(h:¬1<x.rank)(n:¬∀n∈x.data,0<=n):iH x= .error (-7):=by unfold iH;rw [if_neg h,if_pos (XE.mpr n)];rfl
def L0(h:¬1<x.rank)(n:∀n∈x.data,0<=n):iH x= .ok (Y7 x.data):=by
 unfold iH;rw [if_neg h,if_neg (λy=>XE.mp y n),nu n]
def F4(h:∀n∈ns,0<=n):iv ns=tv (Y7 ns):=by rw [nu h,<-ij,nr h]
def Am(h:∀n∈ns,0<=n):rJ ns=((ai (Y7 ns):Nat):Int):=by rw [nu h,<-gz,nr h]
def rG:WB ["x","y","shape","place"] ["x","y"] (aA vz):=⟨rfl,rfl,rfl,by decide+kernel,rfl,by decide+kernel,by decide+kernel⟩
def vq(A:Ars K mg CA q)(M:MkA P w K mg CA)(D:Dx K mg "reshape" vz ["x","y"])(kc:Pk P w K mg G 1 "check_counts" ["numbers"] (kQ K q))(ks:Pk P w K mg G 3 "sized" ["extents"] (nP K q))(kf:Pk P w K mg G 3 "filled" ["shape","number"] (uh CA))(kp:Pk P w K mg G 1 "product" ["extents"] (iB K)):Pk P w K mg G 4 "reshape" ["x","y"] (pO CA q λa b=>b_ (gd a b)):= .of D λf fd F a3 N=>by
 obtain ⟨tF,kF⟩:=A.kF;refine F.okX rG (λvs H Q E h=> ?_) (λa5 A' a2 s H vs Q E t h=> ?_)
 ·obtain ⟨x,y,a,b,rfl,_⟩:=h;rfl
 ·obtain ⟨x,y,a,b,rfl,⟨dx,J,ld,hx,hs,L⟩,⟨dy,lt,p,hy,ht,he⟩,B,a4,h1,h2⟩:=h;refine ⟨_,ay (ee (cU AG (fy A.len (de A (pv 0))) bR (dA _)) (az (eK rfl rfl A.an.t5.xc A.i5 rfl A.an.t5.at_ ig)) cB)
   (ay (iF (ci kc N t eO (aa (fw A (pv 0)) aw)))
   (ay (cj (i:=2) rG.nd rfl (by first | exact bz rfl | exact jG rfl) (ci ks N t eO (aa (fw A (pv 0)) aw)))
   (ay (ee (cU lM (fy A.len (fw A (pv 1))) bR (dA _)) (az (bn (ci kf N t cw (aa (pv 2) (aa (cg (v:= .int 0) rfl kF ⟨_,rfl⟩) aw))))) cB)
   (az (bn (jh A M t (aa (pv 2) (aa (yy (own:=[("place",3)]) rfl rG.nd (zN rfl A.range (aa (ci kp N t cw (aa (pv 2) aw)) aw)) (jt (by first | rfl | kernel_rfl)) (λ_ _ _ _ _=>fg (i:=3) rG.nd rfl (bz rfl)) (λ_ _ _ _ _=>mx)
    (λ_ _ _ _ _=>iR (r:=MO K) gn (fw A (pv 1)) (d_ Kr (pv 3) (M7 (K:=K) A.len (fw A (pv 1)))) (λ_ _=>rfl))) aw)))))))),?_⟩
  refine ⟨_,rfl,x,dx,J,ld,rfl,hx,J,_,rfl,eR hs,_,_,rfl,rfl,_,rfl,gp (λc=> ?_) λc=> ?_⟩
  ·have O:1<a.rank:=by have:=of_decide_eq_true c;rw [dE] at this;show 1<a.shape.length;omega
   exact h2 2 (rO 2 (by unfold gd;rw [Ih O])) H (WH H)
  have O:¬1<a.rank:=λy=>c (decide_eq_true (by rw [dE];have:1<a.shape.length:=y;omega));refine ⟨_,rfl,x,dx,J,ld,rfl,hx,ld,a.data,rfl,eR L,λm=> ?_,λa0 l U=>h2 7 (rO 7 (by unfold gd;rw [Ig O a0])) l U⟩;have told:=L0 O m;refine ⟨_,rfl,x,dx,J,ld,rfl,hx,ld,a.data,rfl,eR L,Gk B,λe k g=> ?_,λe l U=>h2 6 (rO 6 (by unfold gd;rw [told];dsimp only;rw [if_neg (by rw [e];exact aN)])) l U⟩;have pp:=Xf e;have hd1:k ld=some (.lst (tv (Y7 a.data))):=by rw [<-F4 m];exact g _ _ L
  have eq:gd a b= .ok {shape:=Y7 a.data,data:=(iu (ai (Y7 a.data))).map λi=>if b.data.isEmpty=true then yM else b.data[i % b.data.length]?.getD yM}:=by
   unfold gd;rw [told];dsimp only;rw [if_pos e]
  refine ⟨_,rfl,y,dy,lt,p,rfl,g _ _ hy,p,_,rfl,eR (g _ _ he),rfl,_,rfl,gp (λd=> ?_) λd=> ?_⟩
  ·have u:b.data=[]:=by
    have:=X1 (of_decide_eq_true d);rw [dZ] at this;exact cH.mp (by omega)
   refine ⟨_,rfl,ld,Y7 a.data,0,rfl,hd1,λn hn=>Xi e hn,by omega,λH2 z C Y=>h1 _ (Kb eq) H2 z (g.trans C) ?_⟩;have ed:((iu (ai (Y7 a.data))).map λi=>if b.data.isEmpty=true then yM else b.data[i % b.data.length]?.getD yM)=aG (ai (Y7 a.data)) (0:Int):=by
    rw [u,KY];exact ⟨by rw [am,gv],λn hn=>by obtain ⟨i,_,rfl⟩:=cR.mp hn;rfl⟩
   rw [ed];exact Y
  ·have u:0<b.data.length:=by
    apply gH;intro z;apply d;rw [dZ,z];rfl
   refine ⟨_,rfl,_,rfl,ld,a.data,rfl,eR (g _ _ L),Gk B,_,rfl,?_⟩;rw [Am m];refine ⟨by omega,by omega,λD hD=>Dv (lo:=0) (λi l=>l=upd k D (.lst (iv ((iu i).map λj=>b.data[j % b.data.length]?.getD 0)))) rfl ?_ ?_⟩
   ·rintro i l hi rfl;rw [dM] at hi;have I:∀c o,k c=some o->(upd k D (.lst (iv ((iu i).map λj=>b.data[j % b.data.length]?.getD 0)))) c=some o:=λc o z=>by rw [aC (aU z hD)];exact z
    have hm:i % b.data.length<b.data.length:=Nat.mod_lt _ u;refine ⟨rfl,_,rfl,y,dy,lt,p,rfl,I _ _ (g _ _ hy),_,rfl,_,rfl,y,dy,lt,p,rfl,I _ _ (g _ _ hy),p,_,rfl,eR (I _ _ (g _ _ he)),_,_,rfl,rfl,?_,p,_,_,.int (b.data[i % b.data.length]'hm),rfl,rfl,eR (I _ _ (g _ _ he)),?_,_,ao,?_,?_⟩
    ·show (0:Int)<((iv b.data).length:Int);rw [dZ];omega
    ·have ei:(0+(i:Int)) % (((iv b.data).length:Nat):Int)=((i % b.data.length:Nat):Int):=by rw [dZ];simp
     rw [ei];refine f_ ?_;rw [bW,aP hm];rfl
    ·rw [dZ,am,gv,cq];omega
    ·rw [mw,PX,bY];show _=upd k D (.lst (iv (_++[b.data[i % b.data.length]?.getD 0])));rw [aP hm];show _=upd k D (.lst (VP Wv (_++[_])));rw [bY];rfl
   ·rintro l rfl;rw [dM];have C:WG k (upd k D (.lst (iv ((iu (ai (Y7 a.data))).map λj=>b.data[j % b.data.length]?.getD 0)))):=WZ (WH k) hD;refine ⟨ld,D,rfl,λH2 z dz T nz Y=>h1 _ (Kb eq) H2 z (g.trans (C.trans T)) ⟨dz,ld,D,Y,T _ _ (C _ _ hd1),T _ _ ?_⟩⟩;rw [ao];congr 3;refine g_ λj _=> ?_;rw [if_neg (by cases a1:b.data with | nil=>rw [a1] at u;cases u | cons _ _=>simp)];rfl
end
def Kj(n):(if n<0 then -n else n)=((n.natAbs:Nat):Int):=by split<;>omega
def NK(a e:Nat):(if (e:Int)<(a:Int) then (e:Int) else (a:Int))=((min a e:Nat):Int):=by split<;>omega
def xP(n)(h:∀e∈s,e<=1024):∀m∈(n::Vaarrb.ints s).tail,-(2^64)<m/\m<2^64:=λm a=>by
 obtain ⟨e,b,rfl⟩:=cR.mp (show m∈Vaarrb.ints s from a);have:=h e b;omega
def nA(n:Nat)(s):Y7 ((n:Int)::Vaarrb.ints s)=n::s:=jf (n::s)
def AV(e)(s):py (tv (e::s)) (some 1) none=tv s:=js (tv (e::s)) 1
def Kc(k)(n):iv (aG k n)=aG k (Wv n):=qV
def zq(a b):iv (a++b)=iv a++iv b:=bY
section
variable {P:be} {w:bN} {K:ac} {mg:Str→Option al} {G:cz→Prop} {CA:af} {q:Nat→af×af}
def sB:WB ["x","y","number","whole","wanted","shape","there","size","fills"] ["x","y"] (aA GS):=⟨rfl,rfl,rfl,by decide+kernel,rfl,by decide+kernel,by decide+kernel⟩
def Gs(A:Ars K mg CA q)(M:MkA P w K mg CA)(D:Dx K mg "take" GS ["x","y"])(ko:Pk P w K mg G 1 "one_number" ["x"] (BL CA q))(kv:Pk P w K mg G 4 "as_vector" ["array"] (lD CA))(ks:Pk P w K mg G 3 "sized" ["extents"] (nP K q))(kp:Pk P w K mg G 1 "product" ["extents"] (iB K)):Pk P w K mg G 5 "take" ["x","y"] (pO CA q λa b=>b_ (nF a b)):= .of D λf fd F b4 hb=>by
 obtain ⟨tF,kF⟩:=A.kF;refine F.okX sB (λvs H Q E h=> ?_) (λc0 A' b3 s H vs Q E hr h=> ?_)
 ·obtain ⟨x,y,a,b,rfl,_⟩:=h;rfl
 ·obtain ⟨x,y,a,b,rfl,ha,b1,b5,J,h1,h2⟩:=h;refine ⟨_,ay (cj (i:=2) sB.nd rfl (bz rfl) (ci ko hb hr eO (aa (pv 0) aw)))
   (ay (cj (i:=3) sB.nd rfl (bz rfl) (ci kv hb hr cw (aa (pv 1) aw)))
   (ay (cj (i:=4) sB.nd rfl (bz rfl) (eV yJ rfl A.abs (by decide+kernel) (aa (pv 2) aw)))
   (ay (cj (i:=5) sB.nd rfl (bz rfl) (ci ks hb hr eO (aa (d_ lE (eA (aa (pv 4) aw)) (dJ eD (de A (pv 3)) (dY bR) ff)) aw)))
   (ay (cj (i:=6) sB.nd rfl (bz rfl) (eV (nE rfl) rfl A.min (by decide+kernel) (aa (pv 4) (aa (iR gn (de A (pv 3)) bR (λ_ _=>rfl)) aw))))
   (ay (cj (i:=7) sB.nd rfl (bz rfl) (ci kp hb hr cw (aa (dJ eD (de A (pv 3)) (dY bR) ff) aw)))
   (ay (cj (i:=8) sB.nd rfl (bz rfl) (d_ zR (eA (aa (cg (v:= .int 0) rfl kF ⟨_,rfl⟩) aw)) (d_ s_ (d_ p_ (pv 4) (pv 6)) (pv 7))))
   (ay (ee (cU wz (pv 2) bR (dA _)) (az (bn (jh A M hr (aa (pv 5) (aa (d_ lE (pv 8) (dJ eD (fw A (pv 3)) (dY (d_ p_ (fy A.len (fw A (pv 3))) (d_ s_ (pv 6) (pv 7)))) ff)) aw))))) cB)
   (az (bn (jh A M hr (aa (pv 5) (aa (d_ lE (dJ eD (fw A (pv 3)) ff (dY (d_ s_ (pv 6) (pv 7)))) (pv 8)) aw)))))))))))),?_⟩
  refine ⟨_,rfl,x,a,rfl,ha,λn hn=> ?_,λk hk=>h2 _ (rO _ (by unfold nF;rw [hk])) H (WH H)⟩;obtain ⟨e,d,es⟩:=Xq b;have g:=OneM.take_eq J hn es;have a2:=((Xj _).mp (Xp J)).1;have Y:aQ d=true:=by have:=Xh a2 1;rw [es] at this;exact this
  have b0:=Yc J es;have b6:d.length<=4:=by have:=((Xe _).mp a2).1;rw [es] at this;exact uZ this
  have b9:(bt b).data.length<=1024:=Xx (Xp J);refine ⟨_,rfl,y,b,rfl,b1,λH1 v s1 hv=> ?_⟩;obtain ⟨dv,I,C,v1,v2,v3⟩:=hv;rw [es] at v2;refine ⟨_,rfl,n,rfl,?_⟩;rw [Kj];refine ⟨_,rfl,(by show 1<=a_;decide),λm hm=> ?_⟩;have nv:∀c o,H1 c=some o->(upd H1 m (.lst [.int ((n.natAbs:Nat):Int)])) c=some o:=WZ (WH H1) hm;refine ⟨_,rfl,v,dv,I,C,rfl,nv _ _ v1,_,rfl,I,_,rfl,eR (nv _ _ v2),λp hp=> ?_⟩;rw [AV];have a6:m≠p:=λz=>by rw [<-z,ao] at hp;cases hp
  refine ⟨m,p,_,_,rfl,rfl,by rw [aC a6];exact ao,ao,?_,λr a7=> ?_⟩
  ·show 1+(tv d).length<=a_;rw [dE,cq];omega
  have s2:WG H1 (upd (upd (upd H1 m (.lst [.int ((n.natAbs:Nat):Int)])) p (.lst (tv d))) r (.lst ([.int ((n.natAbs:Nat):Int)]++tv d))):=WZ (WZ nv hp) a7;have er:([.int ((n.natAbs:Nat):Int)]++tv d:List V)=iv (((n.natAbs:Nat):Int)::Vaarrb.ints d):=by
   show _::tv d=_::iv (Vaarrb.ints d);rw [ij]
  refine ⟨r,((n.natAbs:Nat):Int)::Vaarrb.ints d,rfl,by rw [<-er];exact eR ao,xP _ λz O=>Xi Y O,λok l s3=> ?_,λa3 l s3=>h2 6 (rO 6 (by rw [g];rw [nA] at a3;rw [if_neg (by rw [a3];exact aN)])) l (s1.trans (s2.trans s3))⟩;rw [nA] at ok;rw [if_pos ok] at g;have na:n.natAbs<=1024:=Xi ok ar;have u:=s2.trans s3;have a4:l r=some (.lst (tv (n.natAbs::d))):=s3 _ _ (by rw [ao,er];show _=some (Y8 (_::tv d));rw [show iv (((n.natAbs:Nat):Int)::Vaarrb.ints d)= .int ((n.natAbs:Nat):Int)::iv (Vaarrb.ints d) from rfl,ij]);have t:=u _ _ v1;have a1:=u _ _ v2;have U:=u _ _ v3;refine ⟨_,rfl,_,rfl,v,dv,I,C,rfl,t,I,_,((0:Nat):Int),.int (e:Int),rfl,rfl,eR a1,f_ rfl,_,_,rfl,?_⟩;rw [NK];refine ⟨_,rfl,v,dv,I,C,rfl,t,_,rfl,I,_,rfl,eR a1,λp2 a8=> ?_⟩;rw [AV];refine ⟨p2,Vaarrb.ints d,rfl,by rw [ij];exact eR ao,gO λz O=>Xi Y O,?_⟩;rw [gz];have pp:=Xf Y;have s4:WG l (upd l p2 (.lst (tv d))):=WZ (WH l) a8;refine ⟨(by show 1<=a_;decide),λm2 a9=> ?_⟩;have s5:WG l (upd (upd l p2 (.lst (tv d))) m2 (.lst [.int 0])):=WZ s4 a9;have ew:(((n.natAbs:Nat):Int) - ((min n.natAbs e:Nat):Int))*((ai d:Nat):Int)=(((n.natAbs - min n.natAbs e)*ai d:Nat):Int):=by
   rw [lU,Int.ofNat_sub (QT _ _)]
  have b8:(n.natAbs - min n.natAbs e)*ai d<=1024*1024:=xk (by omega) pp;refine ⟨_,rfl,_,rfl,_,_,rfl,rfl,_,rfl,_,_,rfl,rfl,.inr ⟨by omega,by omega⟩,m2,(((n.natAbs - min n.natAbs e)*ai d:Nat):Int),_,rfl,congrArg Wv ew,ao,by omega,by omega,?_,λr2 a5=> ?_⟩
  ·show 1*(((n.natAbs - min n.natAbs e)*ai d:Nat):Int).toNat<=a_;rw [dM,cq];omega
  rw [dM,vj,<-Kc];have j:WG l (upd (upd (upd l p2 (.lst (tv d))) m2 (.lst [.int 0])) r2 (.lst (iv (aG ((n.natAbs - min n.natAbs e)*ai d) 0)))):=WZ s5 a5;generalize b2:(upd (upd (upd l p2 (.lst (tv d))) m2 (.lst [.int 0])) r2 (.lst (iv (aG ((n.natAbs - min n.natAbs e)*ai d) 0))))=T at j ⊢;have hf:T r2=some (.lst (iv (aG ((n.natAbs - min n.natAbs e)*ai d) 0))):=by rw [<-b2,ao]
  have em:((min n.natAbs e:Nat):Int)*((ai d:Nat):Int)=((min n.natAbs e*ai d:Nat):Int):=(lU _ _).symm;have b7:min n.natAbs e*ai d<=(bt b).data.length:=by rw [b0];exact gj _ (PV _ _)
  refine ⟨_,rfl,_,_,rfl,rfl,_,rfl,gp (λc=> ?_) λc=> ?_⟩
  ·have c':n<0:=of_decide_eq_true c;rw [if_pos c'] at g;refine ⟨_,rfl,_,rfl,_,rfl,v,dv,I,C,rfl,j _ _ t,_,rfl,v,dv,I,C,rfl,j _ _ t,C,_,rfl,eR (j _ _ U),_,rfl,_,rfl,_,_,rfl,rfl,.inr ⟨by omega,by omega⟩,_,_,rfl,rfl,_,rfl,C,_,rfl,eR (j _ _ U),λp3 B=> ?_⟩;rw [em,dZ,show (((bt b).data.length:Nat):Int) - ((min n.natAbs e*ai d:Nat):Int)=(((bt b).data.length - min n.natAbs e*ai d:Nat):Int) by omega,js,vw];refine ⟨r2,p3,_,_,rfl,rfl,by rw [aC (aU hf B)];exact hf,ao,?_,λN a0=>⟨r,N,rfl,λH4 z dz L nz O=> ?_⟩⟩
   ·rw [dZ,dZ,bU,bK,cq];omega
   have s8:WG T (upd (upd T p3 (.lst (iv ((bt b).data.drop ((bt b).data.length - min n.natAbs e*ai d))))) N (.lst (iv (aG ((n.natAbs - min n.natAbs e)*ai d) 0)++iv ((bt b).data.drop ((bt b).data.length - min n.natAbs e*ai d))))):=WZ (WZ (WH T) B) a0;refine h1 _ (Kb g) H4 z (s1.trans (u.trans (j.trans (s8.trans L)))) ⟨dz,r,N,O,L _ _ (s8 _ _ (j _ _ a4)),L _ _ ?_⟩;rw [ao,<-zq]
  ·have c':¬n<0:=λz=>c (decide_eq_true z);rw [if_neg c'] at g;refine ⟨_,rfl,_,rfl,v,dv,I,C,rfl,j _ _ t,_,rfl,_,rfl,_,_,rfl,rfl,.inr ⟨by omega,by omega⟩,_,rfl,C,_,rfl,eR (j _ _ U),λp3 B=> ?_⟩;rw [em,tp,vv];refine ⟨_,rfl,p3,r2,_,_,rfl,rfl,ao,by rw [aC (aU hf B)];exact hf,?_,λN a0=>⟨r,N,rfl,λH4 z dz L nz O=> ?_⟩⟩
   ·rw [dZ,dZ,bU,bQ,cq];omega
   have s8:WG T (upd (upd T p3 (.lst (iv ((bt b).data.take (min n.natAbs e*ai d))))) N (.lst (iv ((bt b).data.take (min n.natAbs e*ai d))++iv (aG ((n.natAbs - min n.natAbs e)*ai d) 0)))):=WZ (WZ (WH T) B) a0;refine h1 _ (Kb g) H4 z (s1.trans (u.trans (j.trans (s8.trans L)))) ⟨dz,r,N,O,L _ _ (s8 _ _ (j _ _ a4)),L _ _ ?_⟩;rw [ao,<-zq]
end
abbrev Lc(t:List Int):List Ab:=t.map op
theorem Kg{K}:∀t:List Int,DpAll K H (iv t) (Lc t)
 | []=> .nil
 | n::r=> .cons (.int _) (Kg r)
def UQ{K}(h:SqL K H l (iv t)):Dp K H (.ref l) (.list (Lc t)):= .lst h (Kg t)
theorem Hg:∀t:List Int,rA (Lc t)=true
 | []=>rfl
 | n::r=>by
  show (P9 (op n)&&rA (Lc r))=true;rw [Hg r];rfl
theorem GQ:∀t:List Int,lH (Lc t)<=1
 | []=>by simp [lH]
 | n::r=>by
  have h:=GQ r;show max (ky (op n)) (lH (Lc r))<=1;have:ky (op n)<=1:=by simp [ky]
  omega
def Ge(t):kN (.list (Lc t))=true:=by
 unfold kN;rw [dS];refine ⟨Hg t,decide_eq_true ?_⟩;have:=GQ t;simp only [ky];omega
theorem GO:∀s t:List Int,xj (Lc s) (Lc t)=(s==t)
 | [],[]=>rfl
 | [],_::_=>rfl
 | _::_,[]=>rfl
 | a::s,b::t=>by
  show (qk (.int a) (.int b)&&xj (Lc s) (Lc t))=((a::s)==(b::t))
  rw [GO s t];rfl
def SO(s t):qk (.list (Lc s)) (.list (Lc t))=(s==t):=GO s t
theorem yV:∀ns:List Int,gx ns=ns.sum
 | []=>rfl
 | n::r=>by rw [XA,yV r,RM]
section
variable {P:be} {w:bN} {K:ac} {mg:Str→Option al} {G:cz→Prop} {CA:af} {q:Nat→af×af}
def NB:WB ["x","y"] ["x","y"] (aA GU):=⟨rfl,rfl,rfl,by decide+kernel,rfl,by decide+kernel,by decide+kernel⟩
def Gu(A:Ars K mg CA q)(D:Dx K mg "same" GU ["x","y"])(m:Pk P w K mg G 3 "scalar" ["number"] (xA CA)):Pk P w K mg G 4 "same" ["x","y"] (pO CA q λa b=>b_ (jK a b)):= .of D λf fd F v r=>by
 refine F.okX NB (λB H Q E h=> ?_) (λa0 A' j s H B Q E i h=> ?_)
 ·obtain ⟨x,y,a,b,rfl,_⟩:=h;rfl
 ·obtain ⟨x,y,a,b,rfl,⟨u,k,ld,p,L,N⟩,⟨t,lt,l,o,J,M⟩,Y,U,O,h2⟩:=h;refine ⟨_,ay (ee (Wr (Hq (cU (zS i.units) (de A (pv 0)) (de A (pv 1)) (dA _)) (Bi (cU (zS i.units) (fw A (pv 0)) (fw A (pv 1)) (dA _))))) (az (bn (ci m r i cw (aa bR aw)))) cB)
   (az (bn (ci m r i cw (aa bR aw)))),?_⟩
  have g:∀n:Int,jK a b= .ok (dU n)->xA CA [.int n] H Q E0:=λn e=>⟨n,rfl,λT z C I=>O _ (Kb e) T z C I⟩
  refine ⟨_,rfl,x,u,k,ld,rfl,p,_,rfl,y,t,lt,l,rfl,o,_,_,dpL (eR L),dpL (eR J),W_ _,W_ _,_,rfl,?_⟩;rw [X0];by_cases c:a.shape=b.shape
  ·rw [show (a.shape==b.shape)=true by rw [c];exact beq_self_eq_true _];refine qa ⟨_,rfl,x,u,k,ld,rfl,p,_,rfl,y,t,lt,l,rfl,o,_,_,UQ (eR N),UQ (eR M),Ge _,Ge _,_,rfl,?_⟩;rw [SO];by_cases d:a.data=b.data
   ·rw [show (a.data==b.data)=true by rw [d];exact beq_self_eq_true _];refine qa (g 1 ?_);have e:a=b:=by obtain ⟨sa,da⟩:=a;obtain ⟨sb,db⟩:=b;cases c;cases d;rfl
    unfold jK;rw [if_pos e]
   ·rw [show (a.data==b.data)=false from beq_eq_false_iff_ne.mpr d];refine rT (g 0 ?_);unfold jK;rw [if_neg (λz=>d (by rw [z]))]
  ·rw [show (a.shape==b.shape)=false from beq_eq_false_iff_ne.mpr c];refine rT (rT (g 0 ?_));unfold jK;rw [if_neg (λz=>c (by rw [z]))]
theorem K7(h:Pcs H ps ds):∀{ns:List Int},(∀n∈ns,0<=n/\n<(ds.length:Int))->Pcs H (ns.map λn=>ps[n.toNat]?.getD 0) (ns.map λn=>ds[n.toNat]?.getD [])
 | [],_=> .nil
 | n::r,a=>by
  obtain ⟨g,f⟩:=a n ar;have l:=h.len;have lt:n.toNat<ps.length:=by omega
  obtain ⟨d,e,b⟩:=h.get (aP lt);refine .cons ?_ (K7 h λm c=>a m (au _ c));show H (ps[n.toNat]?.getD 0)=some (Y8 (iv (ds[n.toNat]?.getD [])));rw [aP lt,e];exact b
def wJ:WB ["x","y","number","shape","pieces"] ["x","y"] (aA GW):=⟨rfl,rfl,rfl,by decide+kernel,rfl,by decide+kernel,by decide+kernel⟩
def Gw(A:Ars K mg CA q)(M:MkA P w K mg CA)(D:Dx K mg "pick" GW ["x","y"])(ks:Pk P w K mg G 3 "sized" ["extents"] (nP K q))(kc:Pk P w K mg G 2 "cell_pieces" ["array"] (jW CA))(kj:Pk P w K mg G 1 "joined" ["pieces"] ug):
  Pk P w K mg G 4 "pick" ["x","y"] (pO CA q λa b=>b_ (kZ a b)):= .of D λf fd F base hb=>by
 refine F.okX wJ (λvs H Q E h=> ?_) (λcdv A' outer s H vs Q E hr h=> ?_)
 ·obtain ⟨x,y,a,b,rfl,_⟩:=h;rfl
 ·obtain ⟨x,y,a,b,rfl,⟨dx,ls,ld,hx,hs,hd⟩,⟨dy,lt,le,hy,ht,he⟩,oka,okb,h1,h2⟩:=h
  refine ⟨_,ay (ee (oB hr.units (de A (pv 1))) (az (eK rfl rfl A.an.t5.xc A.i5 rfl A.an.t5.at_ ig)) cB)
   (ay (my vT rfl (ik (fw A (pv 0))) (fg (i:=2) wJ.nd rfl (bz rfl)) (az (ee (Dd (Jf wA wz bR (pv 2) (iR gn (de A (pv 1)) bR (λ_ _=>rfl)))) (az (eK rfl rfl A.an.t6.xc A.i6 rfl A.an.t6.at_ ig)) cB)))
   (ay (cj (i:=3) wJ.nd rfl (bz rfl) (ci ks hb hr eO (aa (d_ lE (de A (pv 0)) (dJ eD (de A (pv 1)) (dY bR) ff)) aw)))
   (ay (cj (i:=4) wJ.nd rfl (by first | exact bz rfl | exact jG rfl) (ci kc hb hr cw (aa (pv 1) aw)))
   (az (bn (jh A M hr (aa (pv 3) (aa (ci kj hb hr cw (aa (yy (own:=[("number",2)]) rfl wJ.nd (ik (fw A (pv 0))) (jt (by first | rfl | kernel_rfl)) (λ_ _ _ _ _=>fg (i:=2) wJ.nd rfl (bz rfl)) (λ_ _ _ _ _=>mx)
    (λ_ _ _ _ _=>iR (r:=MO K) gn (pv 4) (pv 2) (λ_ _=>rfl))) aw)) aw)))))))),?_⟩
  refine ⟨_,rfl,y,dy,lt,le,rfl,hy,lt,b.shape,rfl,eR ht,λH1 s1=> ?_⟩
  cases es:b.shape with
  | nil=>
   refine qa (h2 2 (rO (k:= -2) 2 ?_) H1 s1)
   unfold kZ
   rw [if_pos (by rw [es];rfl)];rfl
  | cons e sh=>
  have ht1:H1 lt=some (.lst (tv (e::sh))):=by rw [<-es];exact s1 _ _ ht
  have sb:=((Xj b).mp okb).1
  have sa:=((Xj a).mp oka).1
  have la:=((Xe _).mp sa).1
  have lb:=((Xe _).mp sb).1
  rw [es] at sb lb
  have st:aQ sh=true:=Xh sb 1
  have hy1:=s1 _ _ hy
  obtain ⟨il,ie,_,_⟩:=Xz okb es
  have unf:kZ a b=if a.data.any (λn=>decide (n<0)||decide ((e:Int)<=n))=true then .error Vaarrb.INDEX else if aQ (a.shape++sh)=false then .error Vaarrb.SIZE else .ok {shape:=a.shape++sh,data:=a.data.flatMap λn=>((cK b)[n.toNat]?).getD []}:=by
   unfold kZ cQ
   rw [if_neg (by rw [es];simp),es];rfl
  refine rT ⟨_,rfl,x,dx,ls,ld,rfl,s1 _ _ hx,ld,rfl,⟨_,eR (s1 _ _ hd)⟩,kW (K:=K) (a:=ld) (xs:=iv a.data) (λi σ H'=>∃v2,σ=[some (.ref x),some (.ref y),v2,none,none]/\H'=H1/\∀n∈a.data.take i,0<=n/\n<(e:Int)) ⟨none,rfl,rfl,by simp⟩ (λi σ H' _ ⟨_,_,e,_⟩=>by rw [e];exact eR (s1 _ _ hd)) ?_ ?_⟩
  ·rintro i v σ H' hi ⟨v2,rfl,rfl,hin⟩
   obtain ⟨n,hi',rfl⟩:=wN hi
   have bad:¬(0<=n/\n<(e:Int))->E (.ref (cls q 3)) none H':=λnn=>h2 3 (rO (k:= -3) 3 (by
    rw [unf,if_pos]
    ·rfl
    ·refine oJ.mpr ⟨n,bD hi',?_⟩
     rw [jJ,decide_eq_true_eq,decide_eq_true_eq];omega)) H' s1
   refine ⟨_,rfl,_,_,rfl,rfl,_,rfl,gp (λc=> ?_) λc=> ?_⟩
   ·have c':0<=n:=of_decide_eq_true c
    refine ⟨_,rfl,y,dy,lt,le,rfl,hy1,lt,_,((0:Nat):Int),.int (e:Int),rfl,rfl,eR ht1,f_ rfl,_,_,rfl,rfl,_,rfl,?_⟩
    by_cases d:n<(e:Int)
    ·rw [decide_eq_true d]
     refine rT ⟨_,rfl,rfl,λm hm=> ?_⟩
     rw [take_snoc hi'] at hm
     rcases bV.mp hm with z | z
     ·exact hin m z
     ·rw [aL.mp z];exact ⟨c',d⟩
    ·rw [decide_eq_false d]
     exact qa (bad λz=>d z.2)
   ·have c':¬0<=n:=λz=>c (decide_eq_true z)
    exact ⟨_,rfl,qa (bad λz=>c' z.1)⟩
  ·rintro σ H' ⟨v2,rfl,rfl,hin⟩
   rw [dZ,bH] at hin
   have nany:¬a.data.any (λn=>decide (n<0)||decide ((e:Int)<=n))=true:=λz=>by
    obtain ⟨n,hn,hz⟩:=oJ.mp z
    rw [jJ,decide_eq_true_eq,decide_eq_true_eq] at hz
    have:=hin n hn
    omega
   rw [if_neg nany] at unf
   have hs1:=s1 _ _ hs
   refine ⟨_,rfl,x,dx,ls,ld,rfl,s1 _ _ hx,_,rfl,y,dy,lt,le,rfl,hy1,_,rfl,lt,_,rfl,eR ht1,λp hp=> ?_⟩
   rw [AV]
   refine ⟨ls,p,_,_,rfl,rfl,by rw [aC (aU hs1 hp)];exact hs1,ao,?_,λr hr'=> ?_⟩
   ·rw [aF] at lb
    rw [dE,dE,cq];omega
   have s2:=WZ (o:= .lst (tv a.shape++tv sh)) (WZ (o:= .lst (tv sh)) (WH H') hp) hr'
   have er:tv a.shape++tv sh=tv (a.shape++sh):=bY.symm
   rw [er] at s2
   have bnd:∀m∈(Vaarrb.ints (a.shape++sh)).tail,-(2^64)<m/\m<2^64:=gO λz hz=>by
    rcases bV.mp hz with z' | z'
    ·exact Xi sa z'
    ·exact Xi st z'
   rw [er]
   refine ⟨r,Vaarrb.ints (a.shape++sh),rfl,by rw [ij];exact eR ao,bnd,λok H2 s3=> ?_,λnok H2 s3=>h2 6 (rO (k:= -6) 6 (by rw [jf] at nok;rw [unf,if_pos nok];rfl)) H2 (s1.trans (s2.trans s3))⟩
   rw [jf] at ok
   rw [if_neg (by rw [ok];exact λz=>nomatch z)] at unf
   have s23:=s2.trans s3
   have hr2:H2 r=some (.lst (tv (a.shape++sh))):=s3 _ _ ao
   refine ⟨_,rfl,y,b,e,sh,rfl,⟨dy,lt,le,s23 _ _ hy1,by rw [es];exact s23 _ _ ht1,s23 _ _ (s1 _ _ he)⟩,okb,es,λH3 lp ps s4 hp3 hP=> ?_⟩
   have hx3:=s4 _ _ (s23 _ _ (s1 _ _ hx))
   have hd3:=s4 _ _ (s23 _ _ (s1 _ _ hd))
   refine ⟨_,rfl,_,rfl,x,dx,ls,ld,rfl,hx3,ld,rfl,⟨_,eR hd3⟩,λD hD=>pw (K:=K) (a:=ld) (xs:=iv a.data) (λi H'=>H'=upd H3 D (.lst (((a.data.take i).map λn=>ps[n.toNat]?.getD 0).map WA))) rfl (λi H' _ e=>by rw [e];exact (eR hd3).fresh hD) ?_ ?_⟩
   ·rintro i v H' hi rfl
    obtain ⟨n,hi',rfl⟩:=wN hi
    obtain ⟨n0,n1⟩:=hin n (bD hi')
    have ltn:n.toNat<ps.length:=by rw [hP.len,il];omega
    have ld1:=Xx oka
    refine ⟨rfl,_,rfl,_,rfl,lp,_,n,.ref (ps[n.toNat]'ltn),rfl,rfl,(eR hp3).fresh hD,?_,_,ao,?_,?_⟩
    ·exact QM (j:=n.toNat) (by omega) (by rw [bW,aP ltn];rfl)
    ·rw [am,am,bQ,cq];omega
    ·rw [mw,take_snoc hi',bY,bY]
     show _=upd H3 D (.lst (_++[WA (ps[n.toNat]?.getD 0)]))
     rw [aP ltn];rfl
   ·rintro H' rfl
    rw [dZ,bH]
    have s5:=WZ (o:= .lst ((a.data.map λn=>ps[n.toNat]?.getD 0).map WA)) (WH H3) hD
    have pk:=K7 (hP.same s5) (ns:=a.data) λn hn=>by rw [il];exact hin n hn
    have fl:(a.data.map λn=>(cK b)[n.toNat]?.getD []).flatten=a.data.flatMap λn=>((cK b)[n.toNat]?).getD []:=rfl
    refine ⟨D,_,_,rfl,ao,pk,?_,λH5 l5 s6 h5=>⟨r,l5,rfl,λH6 z dz s7 nz hz=>h1 _ (Kb unf) H6 z (s1.trans (s23.trans (s4.trans (s5.trans (s6.trans s7))))) ⟨dz,r,l5,hz,s7 _ _ (s6 _ _ (s5 _ _ (s4 _ _ hr2))),s7 _ _ h5⟩⟩⟩
    have pp:=Xf st
    have each:∀d∈a.data.map (λn=>(cK b)[n.toNat]?.getD []),d.length=ai sh:=λd hd'=>by
     obtain ⟨n,hn,rfl⟩:=cR.mp hd'
     obtain ⟨n0,n1⟩:=hin n hn
     have:n.toNat<(cK b).length:=by rw [il];omega
     rw [aP this]
     exact ie _ (Pc this)
    rw [Xy each,am]
    have:a.data.length*ai sh<=1024*1024:=xk (Xx oka) pp
    omega
end
def zb{a:Type}(xs:List a)(ns:List Int):List a:=(xs.zip ns).flatMap λx=>aG x.2.toNat x.1
theorem vk:∀(ps:List af) (ns:List Int),sD (ps.map WA) ns=(zb ps ns).map WA
 | [],ns=>by simp [sD,zb]
 | p::ps,[]=>by simp [sD,zb]
 | p::ps,n::ns=>by
  have a:=vk ps ns;unfold sD zb at a ⊢;rw [dI,fu,cV,a,fu,cV,bY,qV]
theorem wL(h:R a b):∀k,fW R (aG k a) (aG k b)
 | 0=> .nil
 | k+1=> .cons h (wL h k)
theorem pS:∀{xs:List b} {ys:List a} {us:List b} {vs:List a},fW R xs ys->fW R us vs->fW R (xs++us) (ys++vs)
 | _,_,_,_,.nil,h=>h
 | _,_,_,_,.cons h t,c=> .cons h (pS t c)
theorem xM:∀{ps:List af} {ds:List (List Int)} (ns:List Int),Pcs H ps ds->Pcs H (zb ps ns) (zb ds ns)
 | _,_,_,.nil=>by simp only [zb,List.zip_nil_left,Bu];exact .nil
 | _,_,[],.cons _ _=>by simp only [zb,List.zip_nil_right,Bu];exact .nil
 | _,_,n::ns,.cons h t=>by
  have a:=xM ns t;unfold zb at a ⊢;rw [fu,cV,fu,cV];exact pS (wL (R:=λp d=>H p=some (.lst (iv d))) h _) a
def IK(h0:∀n∈ns,0<=n):∀n∈ns,n<=gx ns:=by
 induction ns with
 | nil=>intro n a;cases a
 | cons m r c=>
  intro n a;have b:=λk d=>h0 k (au _ d);rw [XA];have e:=XB b;have f:=h0 m ar;rcases aH.mp a with z | z
  ·rw [z];omega
  ·have:=c b n z;omega
section
variable {P:be} {w:bN} {K:ac} {mg:Str→Option al} {G:cz→Prop} {CA:af} {q:Nat→af×af}
def C0:WB ["x","y","whole","counts"] ["x","y"] (aA GZ):=⟨rfl,rfl,rfl,by decide+kernel,rfl,by decide+kernel,by decide+kernel⟩
def Gx(A:Ars K mg CA q)(D:Dx K mg "keep" GZ ["x","y"])(kv:Pk P w K mg G 4 "as_vector" ["array"] (lD CA))(kc:Pk P w K mg G 1 "check_counts" ["numbers"] (kQ K q))(ks:Pk P w K mg G 3 "sized" ["extents"] (nP K q))(kp:Pk P w K mg G 2 "cell_pieces" ["array"] (jW CA))(kr:Pk P w K mg G 1 "repeated" ["things","counts"] pM)(ko:Pk P w K mg G 3 "array_of_pieces" ["cell_shape","pieces"] (su CA)):
  Pk P w K mg G 5 "keep" ["x","y"] (pO CA q λa b=>b_ (oO a b)):= .of D λf fd F c1 hb=>by
 refine F.okX C0 (λvs H Q E h=> ?_) (λc4 A' b9 s H vs Q E O h=> ?_)
 ·obtain ⟨x,y,a,b,rfl,_⟩:=h;rfl
 ·obtain ⟨x,y,a,b,rfl,⟨dx,N,ld,hx,hs,hd⟩,b8,Y,L,h1,h2⟩:=h;refine ⟨_,ay (ee (cU AG (fy A.len (de A (pv 0))) bR (dA _)) (az (eK rfl rfl A.an.t5.xc A.i5 rfl A.an.t5.at_ ig)) cB)
   (ay (cj (i:=2) C0.nd rfl (bz rfl) (ci kv hb O cw (aa (pv 1) aw)))
   (ay (cj (i:=3) C0.nd rfl (bz rfl) (fw A (pv 0)))
   (ay (ee (oB O.units (de A (pv 0))) (az (cj (i:=3) C0.nd rfl (bz rfl) (d_ zR (fw A (pv 0)) (iR gn (de A (pv 2)) bR (λ_ _=>rfl))))) cB)
   (ay (ee (cU yA (fy A.len (pv 3)) (iR gn (de A (pv 2)) bR (λ_ _=>rfl)) (dA _)) (az (eK rfl rfl A.an.t4.xc A.i4 rfl A.an.t4.at_ ig)) cB)
   (ay (iF (ci kc hb O eO (aa (fw A (pv 0)) aw)))
   (ay (iF (ci ks hb O eO (aa (d_ lE (eA (aa (eV (JC rfl) rfl A.sum (by decide+kernel) (aa (pv 3) aw)) aw)) (dJ eD (de A (pv 2)) (dY bR) ff)) aw)))
   (az (bn (ci ko hb O cw (aa (dJ eD (de A (pv 2)) (dY bR) ff) (aa (ci kr hb O cw (aa (ci kp hb O cw (aa (pv 2) aw)) (aa (pv 3) aw))) aw))))))))))),?_⟩
  refine ⟨_,rfl,x,dx,N,ld,rfl,hx,N,_,rfl,eR hs,_,_,rfl,rfl,_,rfl,gp (λc=> ?_) λc=> ?_⟩
  ·have c':1<a.rank:=by have:=of_decide_eq_true c;rw [dE] at this;show 1<a.shape.length;omega
   refine h2 2 (rO (k:= -2) 2 ?_) H (WH H);unfold oO;dsimp only;rw [if_pos c'];rfl
  have c':¬1<a.rank:=λy=>c (decide_eq_true (by rw [dE];have:1<a.shape.length:=y;omega));obtain ⟨e,j,es⟩:=Xq b;have J:=((Xj _).mp (Xp L)).1;rw [es] at J;have a4:aQ j=true:=Xh J 1;have c0:e<=1024:=Xi J ar;have c3:j.length<=4:=by have:=((Xe _).mp J).1;exact uZ this
  refine ⟨_,rfl,y,b,rfl,b8,λH1 v s1 hv=> ?_⟩;obtain ⟨dv,C,lw,v1,v2,v3⟩:=hv;refine ⟨_,rfl,x,dx,N,ld,rfl,s1 _ _ hx,?_⟩;refine ⟨_,rfl,x,dx,N,ld,rfl,s1 _ _ hx,N,a.shape,rfl,eR (s1 _ _ hs),λH2 s2=> ?_⟩;have u:=s1.trans s2;have a2:=s2 _ _ v1;have a1:H2 C=some (.lst (tv (e::j))):=by rw [<-es];exact s2 _ _ v2
  have b0:=s2 _ _ v3;have hd2:=u _ _ hd;have a6:=u _ _ hx;have rest:∀(H3:Hp) (lc:af) (g:List Int),WG H2 H3->H3 lc=some (.lst (iv g))->(g=if a.rank=0 then aG e (a.data.headD 0) else a.data)->
    MN (Rr (LN (Qv UT (Pq K (qm 3)) (Qv (MO K) (MG CA (qm 2)) (tC (.int 0))))) (Hl (q 4).1 E) O3)
     (MN (Ja (wx (kQ K q) [] E (jP (QV CA (qm 0)) qo)))
     (MN (Ja (wx (nP K q) [] E (jP (Qv Ru (O4 (jP (TY (λxs H Q=>∃(p:af) (g:List Int),xs=[.ref p]/\SqL K H p (g.map Wv)/\Q (.int g.sum) H) (jP (qm 3) qo)) qo)) (TX (Oh K) (MG CA (qm 2)) (LP (tC (.int 1))) Bf)) qo)))
     (Kk (wx (su CA) [] E0 (jP (TX (Oh K) (MG CA (qm 2)) (LP (tC (.int 1))) Bf) (jP (wx pM [] E0 (jP (wx (jW CA) [] E0 (jP (qm 2) qo)) (jP (qm 3) qo))) qo))))))
     {nx:=λ_ H'=>Q .non H',rt:=Q} [some (.ref x),some (.ref y),some (.ref v),some (.ref lc)] H3:=by
   intro H3 lc g I hc a7;have t:=OneM.keep_eq Y L es c' a7;have w1:=I _ _ a2;have w2:=I _ _ a1;have w3:=I _ _ b0;refine ⟨_,rfl,lc,_,rfl,eR hc,_,rfl,v,dv,C,lw,rfl,w1,C,_,((0:Nat):Int),.int (e:Int),rfl,rfl,eR w2,f_ rfl,rfl,_,rfl,gp (λd=> ?_) λd=> ?_⟩
   ·have d':g.length≠e:=λz=>by rw [dZ,z] at d;simp at d
    exact h2 1 (rO (k:= -1) 1 (by rw [t,if_pos d'];rfl)) H3 (u.trans I)
   have d':g.length=e:=by
    have:Wv (((iv g).length:Nat):Int)=Wv (e:Int):=gJ.mp λy=>d (by rw [decide_eq_false y];rfl);have:=X1 this;rw [dZ] at this;omega
   rw [if_neg (λz=>z d')] at t;refine ⟨_,rfl,x,dx,N,ld,rfl,I _ _ a6,ld,a.data,rfl,eR (I _ _ hd2),λU=> ?_,λb4 H' s'=>h2 7 (rO (k:= -7) 7 (by rw [t,if_pos b4];rfl)) H' (u.trans (I.trans s'))⟩;rw [if_neg (λz=>z U)] at t;have l:∀n∈g,0<=n:=λn h=>by
    rw [a7] at h;by_cases z:a.rank=0
    ·rw [if_pos z] at h;have ex:a.data.length=1:=by rw [((Xj a).mp Y).2.1,cH.mp z];rfl
     obtain ⟨m,hm⟩:=jz.mp ex;rw [(eG.mp h).2,hm];exact U m (by rw [hm];exact ar)
    ·rw [if_neg z] at h;exact U n h
   have c2:=XB l;refine ⟨_,rfl,lc,g,rfl,eR hc,(by show 1<=a_;decide),λm hm=> ?_⟩;have s4:=WZ (o:= .lst [.int g.sum]) (WH H3) hm;refine ⟨_,rfl,v,dv,C,lw,rfl,s4 _ _ w1,_,rfl,C,_,rfl,eR (s4 _ _ w2),λp hp=> ?_⟩;rw [AV];have b3:m≠p:=λz=>by rw [<-z,ao] at hp;cases hp
   have s5:=WZ (o:= .lst (tv j)) s4 hp;refine ⟨m,p,_,_,rfl,rfl,by rw [aC b3];exact ao,ao,?_,λr a0=> ?_⟩
   ·show 1+(tv j).length<=a_;rw [dE,cq];omega
   have s6:=WZ (o:= .lst ([.int g.sum]++tv j)) s5 a0;have er:([.int g.sum]++tv j:List V)=iv (g.sum::Vaarrb.ints j):=by
    show Wv g.sum::tv j=Wv g.sum::iv (Vaarrb.ints j);rw [ij]
   have eh:Y7 (g.sum::Vaarrb.ints j)=(gx g).toNat::j:=by
    rw [<-yV];have:gx g=(((gx g).toNat:Nat):Int):=by omega
    rw [this,nA,dM]
   refine ⟨r,g.sum::Vaarrb.ints j,rfl,by rw [<-er];exact eR ao,xP _ λz hz=>Xi a4 hz,λok H4 s7=> ?_,λa5 H4 s7=>h2 6 (rO (k:= -6) 6 (by rw [eh] at a5;rw [t,if_pos a5];rfl)) H4 (u.trans (I.trans (s6.trans s7)))⟩;rw [eh] at ok;rw [if_neg (by rw [ok];exact λz=>nomatch z)] at t;have b1:(gx g).toNat<=1024:=Xi ok ar;have B:=s6.trans s7;have u1:=B _ _ w1;have u2:=B _ _ w2;have u3:=B _ _ w3;refine ⟨_,rfl,v,dv,C,lw,rfl,u1,_,rfl,C,_,rfl,eR u2,λp2 b6=> ?_⟩;rw [AV];have s8:=WZ (o:= .lst (tv j)) (WH H4) b6;refine ⟨_,rfl,v,bt b,e,j,rfl,⟨dv,C,lw,s8 _ _ u1,by rw [es];exact s8 _ _ u2,s8 _ _ u3⟩,Xp L,es,λH5 lp ps s9 h5 hP=> ?_⟩;obtain ⟨il,ie,_,_⟩:=Xz (Xp L) es;have a3:=s8.trans s9;have rl:jT (cK (bt b)) g=zb (cK (bt b)) g:=OneM.repeated_flat l (by omega);have M:(zb (cK (bt b)) g).length=(gx g).toNat:=by rw [<-rl,XD _ _ (by rw [il,d']) l (by omega)]
   refine ⟨_,rfl,lp,lc,_,g,rfl,h5,a3 _ _ (B _ _ hc),by rw [am,hP.len,il,d'],λn hn=>⟨l n hn,by have:=IK l n hn;omega⟩,?_,λH6 l6 T h6=> ?_⟩
   ·rw [vk,am,(xM g hP).len,M];omega
   rw [vk] at h6;have a8:=a3.trans T;refine ⟨p2,l6,j,_,_,rfl,(s9.trans T) _ _ ao,h6,(xM g hP).same T,by omega,?_,λH7 z b2 hz=> ?_⟩
   ·have pp:=Xf a4;have a9:∀d∈zb (cK (bt b)) g,d.length=ai j:=λd b7=>by
     obtain ⟨z,hz,b5⟩:=kP.mp b7;rw [(eG.mp b5).2];exact ie _ (gS hz).1
    rw [Xy a9,M];have:(gx g).toNat*ai j<=1024*1024:=xk b1 pp;omega
   ·refine h1 _ (Kb t) H7 z (u.trans (I.trans (B.trans (a8.trans b2)))) ?_;rw [rl];exact hz
  by_cases h0:a.shape=[]
  ·obtain ⟨n,hn⟩:∃n,a.data=[n]:=by
    have:=((Xj a).mp Y).2.1;rw [h0] at this;exact jz.mp this
   rw [show a.shape.isEmpty=true by rw [h0];rfl];refine qa ⟨_,rfl,x,dx,N,ld,rfl,a6,_,rfl,v,dv,C,lw,rfl,a2,C,_,((0:Nat):Int),.int (e:Int),rfl,rfl,eR a1,f_ rfl,ld,_,_,rfl,rfl,hd2,by omega,by omega,?_,λr a0=> ?_⟩
   ·rw [dZ,hn,cq,dM];show 1*e<=_;omega
   refine rest _ r (aG e n) (WZ (WH H2) a0) ?_ ?_
   ·rw [ao,hn,dM];show some (Y8 (aG e [Wv n]).flatten)=_;rw [vj,Kc]
   ·rw [if_pos (show a.rank=0 by unfold kO;rw [h0];rfl),hn];rfl
  ·have ne:a.shape.isEmpty=false:=by cases e:a.shape.isEmpty with | false=>rfl | true=>exact absurd (jg.mp e) h0
   rw [ne];refine rT (rest H2 ld a.data (WH H2) hd2 ?_);rw [if_neg (show ¬a.rank=0 from λz=>h0 (cH.mp z))]
end
end Rk
namespace Rx
open PySem
section
variable {prog:be} {w:bN} {κ:Type} [DecidableEq κ] {knd:HeapKind prog w κ} {A:gt} {E:al→aK→Prop} {s:aK} {d kp:af} {k:κ} {xs:List (κ×af×al)} {dv:al}
def EC(b:knd.room A)(g:knd.is s.heap k kp)(dd:s.heap.DictOfH knd d xs)(I:xs.length<=a_)(u:∀p,Br xs k=some p->Q p.2 {s with toks:=s.toks+knd.draws k})(v:Br xs k=none->∀h',h'.DictOfH knd d (RY xs k kp dv)->jy d s.heap h'->Q dv {s with heap:=h',toks:=s.toks+knd.draws k}):
  bj (bP prog w) A (KE d (.ref kp) dv) Q E s:=by
 obtain ⟨J,G,n,h,C,c,m,B,q⟩:=dd;unfold KE
 try with_reducible refine kx ?_
 refine ak (knd.pyHash b g ?_);refine ak (wpAny_dictFind_heap (s:={s with toks:=s.toks+knd.draws k}) b g h c m B q (λno=> ?_) λj p i=> ?_)
 ·have a:=atKey_none_of_get no;have D:k∉xs.map (·.1):=not_mem_keys_of_get no;refine ak (KC (ak (wpAny_updateDictKeys (hz:=by have z:=size_of_entries m;omega) (s:={s with toks:=s.toks+knd.draws k}) h c (bh (v a _ ⟨_,_,n+1,cP _ h (Obj.isFreed_of_dict (MU c _)),C.mapDictKeys _,MU c _,?_,?_,?_⟩ (nI ..))))))
  ·rw [PL a];simp [m,RK]
  ·rw [PL a];refine λy r=>(bV.mp r).elim (λz=>knd.keeps (B y z) h c (nI ..)) λz=> ?_;rw [aL.mp z];exact knd.keeps g h c (nI ..)
  ·rw [PL a,bY,List.nodup_append];refine ⟨q,by simp,λy r z hz e=>D ?_⟩;rw [dI,JY,aL] at hz;have x:z=k:=hz;rw [<-x,<-e];exact r
 ·have l:=atKey_of_get q i;refine ak (wpAny_dictEntries (s:={s with toks:=s.toks+knd.draws k}) h c ?_);have H:G[j]? =some (RK knd (k,p)):=by
   rw [<-Array.getElem?_toList,m,bW,i];rfl
  rw [H];exact ak (KC (bh (u p l)))
def By(knd:HeapKind prog w κ)(d kp)(ns:(d==jk)=false)(dv):
  MeetsIn prog w (Ez.«dict.setdefault» ⟨[.ref d,.ref kp,dv],[]⟩) (λA R s=>knd.room A.in1/\∃k xs,knd.is s.heap k kp/\s.heap.DictOfH knd d xs/\xs.length<=a_/\
   (∀p,Br xs k=some p->R (.ok (.ret p.2)) {s with toks:=s.toks+knd.draws k})/\
   (Br xs k=none->∀h',h'.DictOfH knd d (RY xs k kp dv)->jy d s.heap h'->R (.ok (.ret dv)) {s with heap:=h',toks:=s.toks+knd.draws k})):=
 .of_wp λA R s ⟨a,k,xs,g,h,i,b,c⟩=>by
  unfold Ez.«dict.setdefault»;refine ak ?_;unfold Ux;refine ak (wpAny_notOrdered_dict h.typeIs ?_);show bj _ _ (pure (d,bO kp,some dv)) _ _ s;refine bh ?_;show bj _ _ (if (d==jk)=true then _ else (KE d (.ref kp) dv>>= _)) _ _ s;rw [if_neg (by rw [ns];exact aN)];exact ak (EC a g h i (λp e=>bh ⟨p.2,rfl,b p e⟩) λe h' l j=>bh ⟨dv,rfl,c e h' l j⟩)
end
end Rx
namespace L2
open PySem PySem.Spec PyProof.Rows Rx
section
variable {X:Cx} {o e f:eM} {apos cpos:Pos} {td ty tx:TE}
def Qu(td ty tx:TE):TE:=λh H Q=>td h H λx i=>∃a,x= .ref a/\U1 i a/\ty h i λy j=>tx h j λz g=>∃c k b,g a=some (.dT c)/\y= .ref b/\g b=some (.tup (k.map kV))/\c.length<a_/\
 (∀v,lO c k=some v->Q v g)/\(lO c k=none->Q z (upd g a (.dT (Em c k z))))
def M5(hu:X.A.units+1<KJ)(ho:PE X o td)(he:PE X e ty)(hf:PE X f tx)(m:M2 X o "setdefault" apos e f cpos):PE X (.Call (.Attribute o "setdefault" apos) [e,f] [] cpos) (Qu td ty tx):=by
 intro g s B H Q I h;refine RX m.base m.few m.line F_ B0 PySem.F.type_dict_setdefault (gL (ho g s B H _ I h) λu s1 ⟨x,H1,U,rx,a,ex,d,q1⟩=> ?_);subst ex;obtain rfl:u=bO a:=rx;obtain ⟨t1,t2,_⟩:=Ks U d;refine ⟨t1,t2,?_⟩;rw [m.trees];refine mQ rfl (oR (ir (gL (he g s1 B H1 _ U q1) λu2 s2 ⟨y,H2,I2,ry,q2⟩=>ir (gL (hf g s2 B H2 _ I2 q2) λu3 s3 ⟨z,H3,r,G,i,k,b,C,ey,O,l,q3,q4⟩=>rE ?_))));subst ey;obtain rfl:u2=bO b:=ry;obtain ⟨Y,M,xs,n,T⟩:=QJ r.hok C;have hz:xs.length<=a_:=by rw [<-gG n];exact Y
 have j:=n.val k;refine OR B0 T.typeIs PySem.F.entry_dict_setdefault (PySem.F.args_dict_setdefault_3 _ _ _) (By (vZ (iG X.prog X.w)) a b M u3) ⟨RG hu,k,xs,Hz r.hok O,T,hz,λp hp=> ?_,λhn h' D hs=> ?_⟩
 ·rw [hp] at j;cases q:lO i k with
  | none=>rw [q] at j;exact j.elim
  | some v=>
   rw [q] at j;exact ⟨v,H3,r.tok _,j,q3 v q⟩
 ·rw [hn] at j;cases q:lO i k with
  | some v=>rw [q] at j;exact j.elim
  | none=>
   have hl:(Em i k z).length<=a_:=by have:=uJ i k z;omega
   refine ⟨z,_,?_,G,q4 q⟩;obtain ⟨J,es,ep,L,h2,h3,h4,_,h5⟩:=D;refine Mo r (by rw [C];exact oH) hs ⟨J,L⟩ ⟨hl,M,_,(n.put k O G).keeps λc ys N=> ?_,J,es,ep,L,h2,h3,h4,h5⟩;rw [aC (jr N C (λz=>nomatch z))];exact N
def O2(K:ac)(t:TE):TE:=λb H Q=>t b H λv a=>∃l xs,v= .ref l/\SqL K a l xs/\∀p,a p=none->Q (.ref p) (upd a p (.tup xs))
end
def Jy{K}{g:TG}{tb:TS}{D:Wq}(Pv:Nat->St->Hp->Prop)(h0:Pv 0 b H)(C:∀i b H,i<=xs.length->Pv i b H->SqL K H a xs)(B:∀i x b H T,xs[i]? =some x->Pv i b H->H T=none->g (.ref T) b (upd H T (.tup [.int (i:Nat),x])) λh q=>tb {D with nx:=Pv (i+1),ct:=Pv (i+1),bk:=D.nx} h q)(I:∀b H,Pv xs.length b H->D.nx b H):
  ∃W:Nat->Nat->St->Hp->Prop,(∃m,W 0 m b H)/\∀i m b H,W i m b H->
   ((RS K a).stop i H/\D.nx b H)\/((RS K a).go i H/\∃N:St->Hp->Prop,(∀j c,N j c->∃r,r<m/\W (i+1) r j c)/\∀x c,(RS K a).yld i H x c->g x b c λh q=>tb {D with nx:=N,ct:=N,bk:=D.nx} h q):=by
 refine ⟨λi m b H=>m=xs.length - i/\i<=xs.length/\Pv i b H,⟨xs.length,by simp,cy _,h0⟩,?_⟩;rintro i m b H ⟨rfl,G,p⟩;have n:=C i b H G p;by_cases l:i<xs.length
 ·refine .inr ⟨⟨xs,xs[i],n,by simp [l]⟩,Pv (i+1),λj c u=>⟨xs.length - (i+1),by omega,rfl,l,u⟩,λv c y=> ?_⟩;obtain ⟨T,x,M,z,L,J⟩:=y;subst M L;exact B i x b _ T (J xs n) p z
 ·have e:i=xs.length:=by omega
  subst e;exact .inl ⟨⟨xs,n,aO _⟩,I b H p⟩
section
variable {X:Cx} {e:eM} {t:TE} {p pos:Pos}
def Di{K}(m:X.mg "tuple"=none)(r:PE X e (λb H Q=>∃R,t b H R/\∀v c,R v c->Q v c))(u:X.K=K:=by rfl)(n:Gl X "tuple":=by rfl)(i:bx (e::[]) X.env=(false,eval e X.env)::bx [] X.env:=by rfl)(g:(fV pos (bx [] X.env)).any (·.1)=false:=by rfl):
  PE X (.Call (.Name "tuple" p) [e] [] pos) (O2 K t):=by
 subst u;intro a s b H Q I h;exact (rR wC n m (by decide+kernel) (aa r aw i) (by decide) (by decide) i g) a s b H Q I ⟨_,h,λv c ⟨l,xs,x,j,q⟩=>⟨l,xs,by rw [x],.inl ⟨j,q⟩⟩⟩
end
end L2
namespace Rk
open PySem PySem.Spec PyProof.Rows L2 Rx
open Vaarrb (Arr)
abbrev rN(c:List Int):List vU:=c.map xm
def Ka(c):(rN c).map kV=iv c:=by
 unfold rN;rw [gu];rfl
def Lr(h:rN c=rN d):c=d:=List.map_inj_right (λ_ _ e=>QP e) |>.mp h
def FirstAt(a:List (List vU×V))(ds:List (List Int)):Prop:=∀c:List Int,lO a (rN c)=(ds.findIdx? λd=>d==c).map λ(j:Nat)=>Wv (j:Int)
def F7:FirstAt [] []:=λc=>rfl
def wP(ds)(d c:List Int):(ds++[d]).findIdx? (λx=>x==c)=(ds.findIdx? λx=>x==c).or (if d==c then some ds.length else none):=by
 rw [List.findIdx?_append];congr 1;rw [List.findIdx?_cons];split<;>simp
def FirstAt.old(h:FirstAt a ds)(e:lO a (rN d)=some v):FirstAt a (ds++[d]):=λc=>by
 rw [wP,h c];by_cases z:d=c
 ·subst z;rw [h d] at e;cases f:ds.findIdx? (λx=>x==d) with
  | none=>rw [f] at e;cases e
  | some j=>rfl
 ·rw [if_neg (by simpa using z)];cases ds.findIdx? (λx=>x==c)<;>rfl
def FirstAt.new(h:FirstAt a ds)(e:lO a (rN d)=none):FirstAt (Em a (rN d) (.int (ds.length:Nat))) (ds++[d]):=λc=>by
 rw [wP,J8];by_cases z:c=d
 ·subst z;rw [if_pos rfl];rw [h c] at e;cases f:ds.findIdx? (λx=>x==c) with
  | some j=>rw [f] at e;cases e
  | none=>simp
 ·rw [if_neg (λy=>z (Lr y)),h c,if_neg (by simpa using λy=>z y.symm)];cases ds.findIdx? (λx=>x==c)<;>rfl
def IZ(h:FirstAt a ds)(c):(lO a (rN c)).getD (.int (ds.length:Nat))= .int ((ds.findIdx λd=>d==c:Nat):Int):=by
 rw [h c,List.findIdx_eq_getD_findIdx?];cases ds.findIdx? (λx=>x==c)<;>rfl
section
variable {P:be} {w:bN} {K:ac} {mg:Str→Option al} {G:cz→Prop} {CA:af} {q:Nat→af×af}
def ul:WB ["x","y","rank","numbers","number","piece","found","cell"] ["x","y"] (aA Hc):=⟨rfl,rfl,rfl,by decide+kernel,rfl,by decide+kernel,by decide+kernel⟩
def Gz(A:Ars K mg CA q)(M:MkA P w K mg CA)(D:Dx K mg "find" Hc ["x","y"])(ks:Pk P w K mg G 1 "cell_shape_of" ["array","rank"] (ss CA cZ))(kf:Pk P w K mg G 1 "frame_of" ["array","rank"] (ss CA ek))(kp:Pk P w K mg G 2 "cell_pieces" ["array"] (jW CA))(kc:Pk P w K mg G 3 "cells_of" ["array","rank"] (vf CA)):Pk P w K mg G 4 "find" ["x","y"] (pO CA q λa b=>b_ (k_ a b)):= .of D λf fd F d5 hb=>by
 refine F.okX ul (λvs H Q E h=> ?_) (λd7 A' d3 s H vs Q E L h=> ?_)
 ·obtain ⟨x,y,a,b,rfl,_⟩:=h;rfl
 ·obtain ⟨x,y,a,b,rfl,⟨dx,u,ld,hx,hs,hd⟩,a7,a2,b0,h1,h2⟩:=h;refine ⟨_,ay (ee (oB L.units (de A (pv 0))) (az (eK rfl rfl A.an.t5.xc A.i5 rfl A.an.t5.at_ ig)) cB)
   (ay (cj (i:=2) ul.nd rfl (bz rfl) (d_ p_ (fy A.len (de A (pv 0))) bR))
   (ay (ee (Wr (Je (cU wz (fy A.len (de A (pv 1))) (pv 2) (dA _)) (D0 (cU (Do L.units) (ci ks hb L cw (aa (pv 1) (aa (pv 2) aw))) (dJ eD (de A (pv 0)) (dY bR) ff) (dA _))))) (az (eK rfl rfl A.an.t4.xc A.i4 rfl A.an.t4.at_ ig)) cB)
   (ay (cj (i:=3) ul.nd rfl (by first | exact bz rfl | exact jG rfl) Jl)
   (ay (my vT rfl (M4 rfl A.enum (aa (ci kp hb L cw (aa (pv 0) aw)) aw)) (Hr rfl (pZ (fg (i:=4) ul.nd rfl (bz rfl)) (pZ (fg (i:=5) ul.nd rfl (bz rfl)) Bj)))
    (az (iF (M5 (OC L) (pv 3) (Di (K:=K) A.tuple (pv 5).up) (pv 4) ⟨rfl,rfl,rfl,rfl⟩))))
   (ay (Jg (i:=6) (own:=[("cell",7)]) rfl ul.nd rfl rfl (Hn rfl rfl rfl rfl) (ik (ci kc hb L cw (aa (pv 1) (aa (pv 2) aw)))) (jt (by first | rfl | kernel_rfl)) (λ_ _ _ _ _=>fg (i:=7) ul.nd rfl (bz rfl)) (λ_ _ _ _ _=>mx)
    (λ_ _ _ _ _=>Jm (OC L) (pv 3) (Di (K:=K) A.tuple (fw A (pv 7)).up) (iR (r:=MO K) gn (de A (pv 0)) bR (λ_ _=>rfl)) ⟨rfl,rfl,rfl,rfl⟩))
   (az (bn (jh A M L (aa (ci kf hb L cw (aa (pv 1) (aa (pv 2) aw))) (aa (pv 6) aw)))))))))),?_⟩
  refine ⟨_,rfl,x,dx,u,ld,rfl,hx,u,a.shape,rfl,eR hs,λH1 s1=> ?_⟩;cases I:a.shape with
  | nil=>
   refine qa (h2 2 (rO (k:= -2) 2 ?_) H1 s1);unfold k_;rw [if_pos (by rw [I];rfl)];rfl
  | cons e g=>
  have sa:=((Xj a).mp a2).1;rw [I] at sa;have a4:H1 u=some (.lst (tv (e::g))):=by rw [<-I];exact s1 _ _ hs
  have a3:=s1 _ _ hx;have er:(((tv (e::g)).length:Nat):Int) - 1=((g.length:Nat):Int):=by rw [dE,aF];omega
  have rk:a.rank - 1=g.length:=by show a.shape.length - 1=_;rw [I];rfl
  have N:k_ a b=if b.rank<g.length\/cZ b g.length≠g then .error Vaarrb.SHAPE else .ok {shape:=ek b g.length,data:=(im b g.length).map λc=>(((cK a).findIdx λd=>d==c:Nat):Int)}:=by
   unfold k_;rw [if_neg (by rw [I];simp),rk];unfold cQ;rw [I];rfl
  have ev:∀z:af,([WA z,Wv ((((tv (e::g)).length:Nat):Int) - 1)]:List V)=[.ref z,.int ((g.length:Nat):Int)]:=λz=>by rw [er]
  refine rT ⟨_,rfl,x,dx,u,ld,rfl,a3,u,_,rfl,eR a4,_,_,rfl,rfl,?_⟩;obtain ⟨dy,lt,le,hy,ht,he⟩:=a7.same s1;refine ⟨_,rfl,y,dy,lt,le,rfl,hy,lt,_,rfl,eR ht,_,rfl,_,_,rfl,rfl,_,rfl,gp (λc=>qa ?_) λc=> ?_⟩
  ·have c':b.rank<g.length:=by have:=of_decide_eq_true c;rw [er,dE] at this;show b.shape.length<_;omega
   exact h2 1 (rO (k:= -1) 1 (by rw [N,if_pos (.inl c')];rfl)) H1 s1
  have c':g.length<=b.shape.length:=by
   have:¬((b.shape.length:Nat):Int)<((g.length:Nat):Int):=λz=>c (decide_eq_true (by rw [er,dE];exact z));omega
  refine ⟨_,rfl,_,rfl,y,b,g.length,ev y,a7.same s1,c',λH2 l2 s2 n2 b9=> ?_⟩;refine ⟨_,rfl,x,dx,u,ld,rfl,s2 _ _ a3,_,rfl,u,_,rfl,eR (s2 _ _ a4),λp hp=> ?_⟩;rw [AV];have s3:=s2.trans (WZ (o:= .lst (tv g)) (WH H2) hp);refine ⟨_,_,dpL (Ws (by rw [aC (aU b9 hp)];exact b9)),dpL (Ws ao),W_ _,W_ _,_,rfl,?_⟩;rw [X0];generalize upd H2 p (.lst (tv g))=H3 at s3 ⊢;have a9:=s1.trans s3;by_cases d0:cZ b g.length=g
  case neg=>
   rw [show (cZ b g.length==g)=false from beq_eq_false_iff_ne.mpr d0];exact qa (h2 1 (rO (k:= -1) 1 (by rw [N,if_pos (.inr d0)];rfl)) H3 a9)
  rw [show (cZ b g.length==g)=true from beq_iff_eq.mpr d0];rw [if_neg (λz=>z.elim (λy=>by have:b.shape.length<g.length:=y;omega) λy=>y d0)] at N;refine rT ?_;intro J b6;have s4:=WZ (o:= .dT []) (WH H3) b6;have a0:=s3.trans s4;refine ⟨_,rfl,x,a,e,g,rfl,⟨dx,u,ld,a0 _ _ a3,by rw [I];exact a0 _ _ a4,a0 _ _ (s1 _ _ hd)⟩,a2,I,λH5 lp ps s5 h5 hP=> ?_⟩;obtain ⟨il,ie,_,_⟩:=Xz a2 I;have d4:e<=1024:=Xi sa ar;have a6:H5 J=some (.dT []):=s5 _ _ ao;refine ⟨lp,_,rfl,eR h5,Jy (K:=K) (a:=lp) (xs:=ps.map WA) (λi σ B=>∃v4 v5 j,σ=[some (.ref x),some (.ref y),some (.int ((((tv (e::g)).length:Nat):Int) - 1)),some (.ref J),v4,v5,none,none]/\(∀c o,H5 c=some o->c≠J->B c=some o)/\B J=some (.dT j)/\j.length<=i/\FirstAt j ((cK a).take i))
   ⟨none,none,[],rfl,λc o z _=>z,a6,aO _,F7⟩ (λi σ B _ ⟨_,_,_,_,k,_⟩=>eR (k _ _ h5 (jr h5 a6 (λz=>nomatch z)))) ?_ ?_⟩
  ·rintro i v σ B T hi ⟨v4,v5,j,rfl,k1,k2,k3,k4⟩ nT;obtain ⟨p',U,rfl⟩:=iU hi;obtain ⟨d,b7,a5⟩:=hP.get U;have li:i<(cK a).length:=(aY.mp b7).1;have b2:(cK a).take (i+1)=(cK a).take i++[d]:=take_snoc b7;have c6:((cK a).take i).length=i:=by rw [bQ];omega
   have b1:p'≠J:=jr a5 a6 (λz=>nomatch z);have c5:J≠T:=aU k2 nT;have b4:(upd B T (.tup [.int (i:Nat),.ref p'])) p'=some (.lst (iv d)):=by rw [aC (aU (k1 _ _ a5 b1) nT)];exact k1 _ _ a5 b1
   have m:(upd B T (.tup [.int (i:Nat),.ref p'])) J=some (.dT j):=by rw [aC c5];exact k2
   have kT:∀c o,H5 c=some o->c≠J->(upd B T (.tup [.int (i:Nat),.ref p'])) c=some o:=λc o z nz=>by rw [aC (aU (k1 _ _ z nz) nT)];exact k1 _ _ z nz
   refine ⟨T,_,rfl,Wu ao,rfl,_,_,rfl,_,_,rfl,rfl,?_⟩;generalize upd B T (.tup [.int (i:Nat),.ref p'])=H6 at b4 m kT ⊢;refine ⟨_,rfl,J,rfl,.inr ⟨_,.inl m⟩,_,rfl,p',_,rfl,eR b4,λt l=>⟨_,rfl,j,rN d,t,by rw [aC (aU m l)];exact m,rfl,by rw [ao,Ka],by rw [cq];omega,λv hv=> ?_,λhv=> ?_⟩⟩
   ·refine ⟨_,_,j,rfl,λc o z nz=>by rw [aC (aU (kT c o z nz) l)];exact kT c o z nz,by rw [aC (aU m l)];exact m,by omega,?_⟩;rw [b2];exact k4.old hv
   ·refine ⟨_,_,_,rfl,λc o z nz=>by rw [aC nz,aC (aU (kT c o z nz) l)];exact kT c o z nz,ao,by have:=uJ j (rN d) (Wv (i:Nat));omega,?_⟩;have:=k4.new hv;rw [c6] at this;rw [b2];exact this
  ·rintro σ B ⟨v4,v5,j,rfl,k1,k2,k3,k4⟩;rw [am,hP.len,bH] at k4;have c0:WG H3 B:=λc o z=>k1 c o (s5 _ _ (s4 _ _ z)) (aU z b6);have O:=a9.trans c0;have b8:=a7.same O;have c8:=O _ _ hx;have c9:B u=some (.lst (tv (e::g))):=by rw [<-I];exact O _ _ hs
   refine ⟨_,rfl,_,rfl,y,b,g.length,ev y,b8,b0,c',λH7 lc xs s7 n7 h7 hC=> ?_⟩;have d1:=hC.arrs;have c4:=((Xj b).mp b0).1;have pf:=Xf (Xg c4 (b.shape.length - g.length));have d6:xs.length<=1024:=by rw [hC.len];unfold wQ;rw [am];show (jv _ _ _).length<=_;rw [Xm];exact pf
   refine ⟨lc,rfl,⟨_,eR h7⟩,λD hD=>pw (K:=K) (a:=lc) (xs:=xs.map WA) (λi H8=>WG H7 H8/\H8 D=some (.lst (iv (((im b g.length).take i).map λc=>(((cK a).findIdx λd=>d==c:Nat):Int))))) ⟨WZ (WH H7) hD,ao⟩ (λi H8 _ ⟨z,_⟩=>eR (z _ _ h7)) ?_ ?_⟩
   ·rintro i v H8 hi ⟨Y,C⟩;obtain ⟨cx,U,rfl⟩:=iU hi;obtain ⟨ca,n,dc,c7,b3,c1,c2,c3⟩:=d1.get U;obtain ⟨c,hc,rfl⟩:∃c,(im b g.length)[i]? =some c/\ca={shape:=cZ b g.length,data:=c}:=by
     unfold wQ at n;rw [bW] at n;cases z:(im b g.length)[i]? with
     | none=>rw [z] at n;cases n
     | some c=>rw [z] at n;exact ⟨c,rfl,(bw n).symm⟩
    have li:i<xs.length:=(aY.mp U).1;have b5:=Y _ _ (s7 _ _ k2);refine ⟨rfl,_,rfl,J,rfl,.inr ⟨_,.inl b5⟩,_,rfl,cx,dc,c7,b3,rfl,Y _ _ c1,b3,_,rfl,eR (Y _ _ c3),λt l=> ?_⟩;have sT:=WZ (o:= .tup (iv c)) (WH H8) l;refine ⟨_,rfl,x,dx,u,ld,rfl,sT _ _ (Y _ _ (s7 _ _ c8)),u,_,((0:Nat):Int),.int (e:Int),rfl,rfl,eR (sT _ _ (Y _ _ (s7 _ _ c9))),f_ rfl,_,DGet.t (k:=rN c) (sT _ _ b5) (by rw [ao,Ka]),_,sT _ _ C,?_,?_,?_⟩
    ·rw [dZ,am,bQ,cq];have:=hC.len;omega
    ·exact Y9 (Y.trans sT) hD
    ·rw [ao,take_snoc hc,bY];have fa:=IZ k4 c;rw [il] at fa;rw [fa];show _=some (Y8 (VP Wv (_++[_])));rw [bY];rfl
   ·rintro H8 ⟨Y,C⟩;rw [am,hC.len] at C;rw [di (by unfold wQ;rw [am];exact aO _)] at C;have a8:=s7.trans Y;refine ⟨_,rfl,_,rfl,y,b,g.length,ev y,b8.same a8,c',λH9 lf s9 n9 h9=> ?_⟩;refine ⟨_,rfl,lf,D,rfl,λd2 z dz a1 nz hz=>h1 _ (Kb N) d2 z (O.trans (a8.trans (s9.trans a1))) ⟨dz,lf,D,hz,a1 _ _ h9,a1 _ _ (s9 _ _ C)⟩⟩
end
section
variable {P:be} {w:bN} {K:ac} {mg:Str→Option al} {G:cz→Prop} {CA:af} {q:Nat→af×af}
def z9:WB ["x","y","number","whole","staying","shape"] ["x","y"] (aA Hd):=⟨rfl,rfl,rfl,by decide+kernel,rfl,by decide+kernel,by decide+kernel⟩
def L1(e k:Nat):(if (0:Int)>(e:Int) - (k:Int) then (0:Int) else (e:Int) - (k:Int))=((e - k:Nat):Int):=by split<;>omega
def GA(A:Ars K mg CA q)(M:MkA P w K mg CA)(D:Dx K mg "drop" Hd ["x","y"])(ko:Pk P w K mg G 1 "one_number" ["x"] (BL CA q))(kv:Pk P w K mg G 4 "as_vector" ["array"] (lD CA))(kp:Pk P w K mg G 1 "product" ["extents"] (iB K)):Pk P w K mg G 5 "drop" ["x","y"] (pO CA q λa b=>b_ (nG a b)):= .of D λf fd F a8 hb=>by
 refine F.okX z9 (λvs H Q E h=> ?_) (λb4 A' a7 s H vs Q E N h=> ?_)
 ·obtain ⟨x,y,a,b,rfl,_⟩:=h;rfl
 ·obtain ⟨x,y,a,b,rfl,ha,a5,b0,l,h1,h2⟩:=h;refine ⟨_,ay (cj (i:=2) z9.nd rfl (bz rfl) (ci ko hb N eO (aa (pv 0) aw)))
   (ay (cj (i:=3) z9.nd rfl (bz rfl) (ci kv hb N cw (aa (pv 1) aw)))
   (ay (cj (i:=4) z9.nd rfl (bz rfl) (eV (vL rfl) rfl A.max (by decide+kernel) (aa (d_ p_ (iR gn (de A (pv 3)) bR (λ_ _=>rfl)) (eV yJ rfl A.abs (by decide+kernel) (aa (pv 2) aw))) (aa bR aw))))
   (ay (cj (i:=5) z9.nd rfl (bz rfl) (d_ lE (eA (aa (pv 4) aw)) (dJ eD (de A (pv 3)) (dY bR) ff)))
   (ay (ee (cU wz (pv 2) bR (dA _)) (az (bn (jh A M N (aa (pv 5) (aa (dJ eD (fw A (pv 3)) ff (dY (ci kp hb N cw (aa (pv 5) aw)))) aw))))) cB)
   (az (bn (jh A M N (aa (pv 5) (aa (dJ eD (fw A (pv 3)) (dY (d_ p_ (fy A.len (fw A (pv 3))) (ci kp hb N cw (aa (pv 5) aw)))) ff) aw))))))))),?_⟩
  refine ⟨_,rfl,x,a,rfl,ha,λn hn=> ?_,λk hk=>h2 _ (rO _ (by unfold nG;rw [hk])) H (WH H)⟩;obtain ⟨e,d,es⟩:=Xq b;have g:=OneM.drop_eq l hn es;have j:=((Xj _).mp (Xp l)).1;have a9:aQ d=true:=by have:=Xh j 1;rw [es] at this;exact this
  have a4:=Yc l es;rw [es] at j;have a1:=OneM.shapeOk_less j (show e - n.natAbs<=e by omega);have b1:d.length<=4:=by have:=((Xe _).mp j).1;exact uZ this
  have b3:(bt b).data.length<=1024:=Xx (Xp l);refine ⟨_,rfl,y,b,rfl,a5,λO v s1 hv=> ?_⟩;obtain ⟨dv,B,t,v1,v2,v3⟩:=hv;rw [es] at v2;refine ⟨_,rfl,v,dv,B,t,rfl,v1,B,_,((0:Nat):Int),.int (e:Int),rfl,rfl,eR v2,f_ rfl,_,rfl,n,rfl,_,_,rfl,rfl,_,_,rfl,?_⟩;rw [Kj,L1];refine ⟨_,rfl,(by show 1<=a_;decide),λm hm=> ?_⟩;have nv:∀c o,O c=some o->(upd O m (.lst [.int ((e - n.natAbs:Nat):Int)])) c=some o:=WZ (WH O) hm;refine ⟨_,rfl,v,dv,B,t,rfl,nv _ _ v1,_,rfl,B,_,rfl,eR (nv _ _ v2),λp hp=> ?_⟩;rw [AV];have a2:m≠p:=λz=>by rw [<-z,ao] at hp;cases hp
  refine ⟨m,p,_,_,rfl,rfl,by rw [aC a2];exact ao,ao,?_,λr a3=> ?_⟩
  ·show 1+(tv d).length<=a_;rw [dE,cq];omega
  have U:WG O (upd (upd (upd O m (.lst [.int ((e - n.natAbs:Nat):Int)])) p (.lst (tv d))) r (.lst ([.int ((e - n.natAbs:Nat):Int)]++tv d))):=WZ (WZ nv hp) a3;generalize a6:(upd (upd (upd O m (.lst [.int ((e - n.natAbs:Nat):Int)])) p (.lst (tv d))) r (.lst ([.int ((e - n.natAbs:Nat):Int)]++tv d)))=H2 at U ⊢;have J:H2 r=some (.lst (tv ((e - n.natAbs)::d))):=by rw [<-a6,ao];rfl
  have I:=U _ _ v1;have C:=U _ _ v3;have ep:ai ((e - n.natAbs)::d)=(e - n.natAbs)*ai d:=Xc _ _;have b2:(e - n.natAbs)*ai d<=(bt b).data.length:=by rw [a4];exact gj _ (by omega)
  have hP:SqL K H2 r (iv (Vaarrb.ints ((e - n.natAbs)::d))):=by rw [ij];exact eR J
  have a0:=gO λz hz=>Xi a1 hz;refine ⟨_,rfl,_,_,rfl,rfl,_,rfl,gp (λc=> ?_) λc=> ?_⟩
  ·have c':n<0:=of_decide_eq_true c;rw [if_pos c'] at g;refine ⟨_,rfl,_,rfl,v,dv,B,t,rfl,I,_,rfl,r,_,rfl,hP,a0,_,rfl,t,_,rfl,eR C,λY L=>⟨r,Y,rfl,λH4 z dz u nz hz=> ?_⟩⟩;have T:=WZ (o:= .lst (py (iv (bt b).data) none (some (rJ (Vaarrb.ints ((e - n.natAbs)::d)))))) (WH H2) L;refine h1 _ (Kb g) H4 z (s1.trans (U.trans (T.trans u))) ⟨dz,r,Y,hz,u _ _ (T _ _ J),u _ _ ?_⟩;rw [ao,gz,ep,tp,vv]
  ·have c':¬n<0:=λz=>c (decide_eq_true z);rw [if_neg c'] at g;refine ⟨_,rfl,_,rfl,v,dv,B,t,rfl,I,_,rfl,v,dv,B,t,rfl,I,t,_,rfl,eR C,_,rfl,r,_,rfl,hP,a0,_,_,rfl,rfl,_,rfl,t,_,rfl,eR C,λY L=>⟨r,Y,rfl,λH4 z dz u nz hz=> ?_⟩⟩;have T:=WZ (o:= .lst (py (iv (bt b).data) (some (((iv (bt b).data).length:Int) - rJ (Vaarrb.ints ((e - n.natAbs)::d)))) none)) (WH H2) L;refine h1 _ (Kb g) H4 z (s1.trans (U.trans (T.trans u))) ⟨dz,r,Y,hz,u _ _ (T _ _ J),u _ _ ?_⟩;rw [ao,gz,ep,dZ,show (((bt b).data.length:Nat):Int) - (((e - n.natAbs)*ai d:Nat):Int)=(((bt b).data.length - (e - n.natAbs)*ai d:Nat):Int) by omega,js,vw]
def xE:WB ["x","y","number","begin"] ["x","y"] (aA xX):=⟨rfl,rfl,rfl,by decide+kernel,rfl,by decide+kernel,by decide+kernel⟩
def xR(A:Ars K mg CA q)(M:MkA P w K mg CA)(D:Dx K mg "rotate" xX ["x","y"])(ko:Pk P w K mg G 1 "one_number" ["x"] (BL CA q))(kp:Pk P w K mg G 1 "product" ["extents"] (iB K)):
  Pk P w K mg G 3 "rotate" ["x","y"] (pO CA q λa b=>b_ (iz a b)):= .of D λf fd F a7 hb=>by
 refine F.okX xE (λvs H Q E h=> ?_) (λa9 A' a5 s H vs Q E U h=> ?_)
 ·obtain ⟨x,y,a,b,rfl,_⟩:=h;rfl
 ·obtain ⟨x,y,a,b,rfl,ha,⟨t,lt,j,C,ht,he⟩,a8,l,h1,h2⟩:=h;refine ⟨_,ay (cj (i:=2) xE.nd rfl (bz rfl) (ci ko hb U eO (aa (pv 0) aw)))
   (ay (ee (Wr (Je (oB U.units (de A (pv 1))) (D0 (cU lM (iR gn (de A (pv 1)) bR (λ_ _=>rfl)) bR (dA _))))) (az (bn (pv 1))) cB)
   (ay (cj (i:=3) xE.nd rfl (bz rfl) (d_ s_ (d_ Kr (pv 2) (iR gn (de A (pv 1)) bR (λ_ _=>rfl))) (ci kp hb U cw (aa (dJ eD (de A (pv 1)) (dY bR) ff) aw))))
   (az (bn (jh A M U (aa (de A (pv 1)) (aa (d_ lE (dJ eD (fw A (pv 1)) (dY (pv 3)) ff) (dJ eD (fw A (pv 1)) ff (dY (pv 3)))) aw))))))),?_⟩
  refine ⟨_,rfl,x,a,rfl,ha,λn hn=> ?_,λk hk=>h2 _ (rO _ (by unfold iz;rw [hk])) H (WH H)⟩;refine ⟨_,rfl,y,t,lt,j,rfl,C,lt,b.shape,rfl,eR ht,λu d=> ?_⟩;have O:Y5 CA u y b:=⟨t,lt,j,d _ _ C,d _ _ ht,d _ _ he⟩
  cases I:b.shape with
  | nil=>exact qa (qa ⟨_,rfl,h1 _ (Kb (OneM.rotate_nil hn I)) u y d O⟩)
  | cons e g=>
   have m:u lt=some (.lst (tv (e::g))):=by rw [<-I];exact d _ _ ht
   refine rT ⟨_,rfl,y,t,lt,j,rfl,d _ _ C,lt,_,((0:Nat):Int),.int (e:Int),rfl,rfl,eR m,f_ rfl,rfl,_,rfl,gp (λc=> ?_) λc=> ?_⟩
   ·have c':e=0:=by have:=X1 (of_decide_eq_true c);omega
    subst c';exact ⟨_,rfl,h1 _ (Kb (OneM.rotate_zero l hn I)) u y d O⟩
   have c':0<e:=gH λz=>c (decide_eq_true (by rw [z];rfl));have a0:=OneM.rotate_eq l hn I;have v:=((Xj b).mp l).1;rw [I] at v;have L:aQ g=true:=Xh v 1;have pp:=Xf L;have a6:e<=1024:=Xi v ar;have T:0<=n % (e:Int)/\n % (e:Int)<e:=⟨Int.emod_nonneg _ (by omega),Int.emod_lt_of_pos _ (by omega)⟩
   refine ⟨_,rfl,_,rfl,y,t,lt,j,rfl,d _ _ C,lt,_,((0:Nat):Int),.int (e:Int),rfl,rfl,eR m,f_ rfl,_,_,rfl,rfl,(by show (0:Int)<(e:Int);omega),_,rfl,y,t,lt,j,rfl,d _ _ C,_,rfl,lt,_,rfl,eR m,λp hp=> ?_⟩;rw [AV];refine ⟨p,Vaarrb.ints g,rfl,by rw [ij];exact eR ao,gO λz hz=>Xi L hz,?_⟩;rw [gz];have J:WG u (upd u p (.lst (tv g))):=WZ (WH u) hp;have ev:(n % (e:Int))*((ai g:Nat):Int)=(((n % (e:Int)).toNat*ai g:Nat):Int):=by
    rw [lU,Nk T.1]
   refine ⟨_,_,rfl,rfl,.inr ⟨by omega,by omega⟩,?_⟩;generalize upd u p (.lst (tv g))=H2 at J ⊢;have B:=J _ _ (d _ _ C);have N:=J _ _ (d _ _ he);have a1:H2 lt=some (.lst (tv b.shape)):=by rw [I];exact J _ _ m
   refine ⟨_,rfl,y,t,lt,j,rfl,B,_,rfl,y,t,lt,j,rfl,B,_,rfl,_,congrArg Wv ev,j,_,rfl,eR N,λp3 a4=> ?_⟩;have s3:=WZ (o:= .lst (py (iv b.data) (some (((n % (e:Int)).toNat*ai g:Nat):Int)) none)) (WH H2) a4;refine ⟨_,rfl,y,t,lt,j,rfl,s3 _ _ B,_,rfl,_,congrArg Wv ev,j,_,rfl,eR (s3 _ _ N),λp4 a3=> ?_⟩;have s4:=WZ (o:= .lst (py (iv b.data) none (some (((n % (e:Int)).toNat*ai g:Nat):Int)))) (WH _) a3;refine ⟨p3,p4,_,_,rfl,rfl,s4 _ _ ao,ao,?_,λr a2=>⟨lt,r,rfl,λH4 z dz Y nz hz=> ?_⟩⟩
   ·rw [js,tp,vw,vv,dZ,dZ,bK,bQ,cq];have:=Xx l;omega
   have s5:=s3.trans (WZ (o:= .lst (py (iv b.data) (some (((n % (e:Int)).toNat*ai g:Nat):Int)) none++py (iv b.data) none (some (((n % (e:Int)).toNat*ai g:Nat):Int)))) s4 a2);refine h1 _ (Kb a0) H4 z (d.trans (J.trans (s5.trans Y))) ⟨dz,lt,r,hz,Y _ _ (s5 _ _ a1),Y _ _ ?_⟩;rw [ao,js,tp,vw,vv,zq]
end
def ui{a:Arr}(ok:a.ok=true)(h:a.shape=[]):∃n,a.data=[n]:=by
 have:=((Xj a).mp ok).2.1;rw [h] at this;exact jz.mp this
def pU(h:a.shape=[])(c:a.data=[n]):cC a b=jj (1::b.shape.drop 1) n:=by
 unfold cC jj;rw [Xc,dF,h,c];cases d:b.shape with
 | nil=>rfl
 | cons e s=>
  rw [if_neg (λz=>by cases z.2),if_pos (show ([]:List Nat).isEmpty=true from rfl)];unfold cQ;rw [d];rfl
def q_(c:a.ok=true)(f:b.ok=true):(∀z∈(cC a b).shape.drop 1,z<=1024)/\(cC a b).data.length<=1024/\(cC a b).shape.length<=6:=by
 have e:=((Xj a).mp c).1;have i:=((Xj b).mp f).1;have m:=((Xe _).mp e).1;have l:=((Xe _).mp i).1;by_cases h:a.shape=[]
 ·obtain ⟨n,k⟩:=ui c h;rw [pU (b:=b) h k];have g:=Xh i 1;refine ⟨λz d=>Xi g d,?_,?_⟩
  ·show (aG (ai (1::b.shape.drop 1)) n).length<=1024;rw [bU,Xc,dF];exact Xf g
  ·show (1::b.shape.drop 1).length<=6;rw [aF,bK];omega
 ·have j:¬a.shape.isEmpty=true:=λz=>h (jg.mp z);unfold cC;rw [if_neg (λz=>j z.1),if_neg j];split
  ·exact ⟨λz d=>Xi e d,(show a.data.length<=1024 from Xx c),by rw [aF];omega⟩
  ·exact ⟨λz d=>Xi e (gf d),Xx c,by omega⟩
def BQ(CA:af):Sp:=λd H Q _=>∃(x y:af) (a b:Arr),d=[.ref x,.ref y]/\Y5 CA H x a/\Y5 CA H y b/\a.ok=true/\b.ok=true/\∀c z,WG H c->Y5 CA c z (cC a b)->Q (.ref z) c
section
variable {P:be} {w:bN} {K:ac} {mg:Str→Option al} {G:cz→Prop} {CA:af} {q:Nat→af×af}
def Iw:WB ["array","other"] ["array","other"] (aA yf):=⟨rfl,rfl,rfl,by decide+kernel,rfl,by decide+kernel,by decide+kernel⟩
def IX(A:Ars K mg CA q)(M:MkA P w K mg CA)(D:Dx K mg "beside" yf ["array","other"])(kf:Pk P w K mg G 3 "filled" ["shape","number"] (uh CA)):Pk P w K mg G 4 "beside" ["array","other"] (BQ CA):= .of D λf fd F a4 hb=>by
 refine F.okX Iw (λvs H Q E h=> ?_) (λa5 A' a3 s H vs Q E L h=> ?_)
 ·obtain ⟨x,y,a,b,rfl,_⟩:=h;rfl
 ·obtain ⟨x,y,a,b,rfl,⟨t,g,ld,l,C,U⟩,⟨dy,lt,le,hy,ht,he⟩,B,a0,N⟩:=h;refine ⟨_,ay (ee (oB L.units (de A (pv 0))) (az (bn (ci kf hb L cw (aa (d_ lE (eA (aa bR aw)) (dJ eD (de A (pv 1)) (dY bR) ff)) (aa (iR gn (fw A (pv 0)) bR (λ_ _=>rfl)) aw))))) cB)
   (ay (ee (cU lM (fy A.len (de A (pv 0))) (d_ p_ (fy A.len (de A (pv 1))) bR) (dA _)) (az (bn (jh A M L (aa (d_ lE (eA (aa bR aw)) (de A (pv 0))) (aa (fw A (pv 0)) aw))))) cB)
   (az (bn (pv 0)))),?_⟩
  have sa:=((Xj a).mp B).1;have sb:=((Xj b).mp a0).1;have la:=((Xe _).mp sa).1;have lb:=((Xe _).mp sb).1;refine ⟨_,rfl,x,t,g,ld,rfl,l,g,a.shape,rfl,eR C,λH1 d=> ?_⟩;by_cases I:a.shape=[]
  ·obtain ⟨n,hn⟩:=ui B I;rw [show a.shape.isEmpty=true by rw [I];rfl];refine qa ⟨(by show 1<=a_;decide),λm T=> ?_⟩;have j:=WZ (o:= .lst [.int 1]) (WH H1) T;refine ⟨_,rfl,y,dy,lt,le,rfl,j _ _ (d _ _ hy),_,rfl,lt,_,rfl,eR (j _ _ (d _ _ ht)),λp O=> ?_⟩;have a1:m≠p:=λz=>by rw [<-z,ao] at O;cases O
   rw [show (some (1:Int))=some ((1:Nat):Int) from rfl,js,xw];refine ⟨m,p,_,_,rfl,rfl,by rw [aC a1];exact ao,ao,?_,λr k=> ?_⟩
   ·show 1+(tv (b.shape.drop 1)).length<=a_;rw [dE,bK,cq];omega
   have i:=WZ (o:= .lst ([.int 1]++tv (b.shape.drop 1))) (WZ (o:= .lst (tv (b.shape.drop 1))) j O) k;have sd:=Xh sb 1;refine ⟨_,rfl,x,t,g,ld,rfl,i _ _ (d _ _ l),ld,_,((0:Nat):Int),.int n,rfl,rfl,eR (i _ _ (d _ _ U)),f_ (by rw [hn];rfl),r,1::b.shape.drop 1,n,rfl,by rw [ao];rfl,?_,?_,λH2 z u J=> ?_⟩
   ·intro e a2;rcases aH.mp a2 with z | z
    ·omega
    ·exact Xi sd z
   ·rw [Xc,dF];have:=Xf sd;omega
   ·refine N H2 z (d.trans (i.trans u)) ?_;rw [pU I hn];exact J
  ·have v:a.shape.isEmpty=false:=by cases e:a.shape.isEmpty with | false=>rfl | true=>exact absurd (jg.mp e) I
   rw [v];refine rT ⟨_,rfl,x,t,g,ld,rfl,d _ _ l,g,_,rfl,eR (d _ _ C),_,rfl,y,dy,lt,le,rfl,d _ _ hy,lt,_,rfl,eR (d _ _ ht),_,_,rfl,rfl,rfl,_,rfl,gp (λc=> ?_) λc=> ?_⟩
   ·have Y:a.rank+1=b.rank:=by
     have:=X1 (of_decide_eq_true c);rw [dE,dE] at this;show a.shape.length+1=b.shape.length;omega
    refine ⟨(by show 1<=a_;decide),λm T=> ?_⟩;have j:=WZ (o:= .lst [.int 1]) (WH H1) T;refine ⟨_,rfl,x,t,g,ld,rfl,j _ _ (d _ _ l),m,g,_,_,rfl,rfl,ao,j _ _ (d _ _ C),?_,λr k=> ?_⟩
    ·show 1+(tv a.shape).length<=a_;rw [dE,cq];omega
    have i:=WZ (o:= .lst ([.int 1]++tv a.shape)) j k;refine ⟨_,rfl,x,t,g,ld,rfl,i _ _ (d _ _ l),r,ld,rfl,λH2 z dz u nz J=> ?_⟩;refine N H2 z (d.trans (i.trans u)) ?_;have e:cC a b=⟨1::a.shape,a.data⟩:=by
     unfold cC;rw [if_neg (λz=>by rw [v] at z;exact aN z.1),if_neg (by rw [v];exact aN),if_pos Y]
    rw [e];exact ⟨dz,r,ld,J,u _ _ (by rw [ao];rfl),u _ _ (i _ _ (d _ _ U))⟩
   ·have Y:¬a.rank+1=b.rank:=λz=>c (decide_eq_true (by
     have z':a.shape.length+1=b.shape.length:=z;rw [dE,dE];congr 1;omega))
    refine ⟨_,rfl,N H1 x d ?_⟩;have e:cC a b=a:=by
     unfold cC;rw [if_neg (λz=>by rw [v] at z;exact aN z.1),if_neg (by rw [v];exact aN),if_neg Y]
    rw [e];exact ⟨t,g,ld,d _ _ l,d _ _ C,d _ _ U⟩
def C1:WB ["x","y","left","right","shape"] ["x","y"] (aA G_):=⟨rfl,rfl,rfl,by decide+kernel,rfl,by decide+kernel,by decide+kernel⟩
def Gy(A:Ars K mg CA q)(M:MkA P w K mg CA)(D:Dx K mg "join" G_ ["x","y"])(kb:Pk P w K mg G 4 "beside" ["array","other"] (BQ CA))(ks:Pk P w K mg G 3 "sized" ["extents"] (nP K q)):
  Pk P w K mg G 5 "join" ["x","y"] (pO CA q λa b=>b_ (r_ a b)):= .of D λf fd F a7 hb=>by
 refine F.okX C1 (λvs H Q E h=> ?_) (λa8 A' a6 s H vs Q E hr h=> ?_)
 ·obtain ⟨x,y,a,b,rfl,_⟩:=h;rfl
 ·obtain ⟨x,y,a,b,rfl,ha,a2,t,n,h1,h2⟩:=h;refine ⟨_,ay (cj (i:=2) C1.nd rfl (bz rfl) (ci kb hb hr cw (aa (pv 0) (aa (pv 1) aw))))
   (ay (cj (i:=3) C1.nd rfl (bz rfl) (ci kb hb hr cw (aa (pv 1) (aa (pv 0) aw))))
   (ay (ee (cU (Do hr.units) (dJ eD (de A (pv 2)) (dY bR) ff) (dJ eD (de A (pv 3)) (dY bR) ff) (dA _)) (az (eK rfl rfl A.an.t4.xc A.i4 rfl A.an.t4.at_ ig)) cB)
   (ay (cj (i:=4) C1.nd rfl (bz rfl) (ci ks hb hr eO (aa (d_ lE (eA (aa (d_ oM (iR gn (de A (pv 2)) bR (λ_ _=>rfl)) (iR gn (de A (pv 3)) bR (λ_ _=>rfl))) aw)) (dJ eD (de A (pv 2)) (dY bR) ff)) aw)))
   (az (bn (jh A M hr (aa (pv 4) (aa (d_ lE (fw A (pv 2)) (fw A (pv 3))) aw)))))))),?_⟩
  obtain ⟨⟨g,d,U⟩,_⟩:=XG t b;obtain ⟨⟨e,Y,T⟩,_⟩:=XG n a;obtain ⟨z1,z2,z3⟩:=q_ t n;obtain ⟨y1,y2,y3⟩:=q_ n t;have C:=OneM.join_eq (x:=a) (y:=b);unfold cQ at C;rw [U,T] at C;rw [U] at z1 z3;rw [T] at y1 y3;refine ⟨_,rfl,_,rfl,x,y,a,b,rfl,ha,a2,t,n,λH1 l s1 hl=> ?_⟩;refine ⟨_,rfl,_,rfl,y,x,b,a,rfl,a2.same s1,ha.same s1,n,t,λH2 r s2 a5=> ?_⟩;obtain ⟨dl,J,lm,l1,l2,l3⟩:=hl.same s2;obtain ⟨dr,rl,rm,r1,r2,r3⟩:=a5;rw [U] at l2;rw [T] at r2;have L:=s1.trans s2;refine ⟨_,rfl,l,dl,J,lm,rfl,l1,_,rfl,J,_,rfl,eR l2,λp hp=> ?_⟩;rw [AV];have s3:=WZ (o:= .lst (tv d)) (WH H2) hp;refine ⟨_,rfl,r,dr,rl,rm,rfl,s3 _ _ r1,_,rfl,rl,_,rfl,eR (s3 _ _ r2),λp2 O=> ?_⟩;rw [AV];have I:=WZ (o:= .lst (tv Y)) s3 O;have a3:p≠p2:=λz=>by rw [<-z,ao] at O;cases O
  refine ⟨_,_,dpL (Ws (by rw [aC a3];exact ao)),dpL (Ws ao),W_ _,W_ _,_,rfl,?_⟩;rw [X0];generalize upd (upd H2 p (.lst (tv d))) p2 (.lst (tv Y))=H3 at I ⊢;by_cases c:d=Y
  ·subst c;have B:=C;rw [if_neg (by simp)] at B;rw [show (d==d)=true from beq_self_eq_true d];refine rT ⟨_,rfl,l,dl,J,lm,rfl,I _ _ l1,J,_,((0:Nat):Int),.int (g:Int),rfl,rfl,eR (I _ _ l2),f_ rfl,_,rfl,r,dr,rl,rm,rfl,I _ _ r1,rl,_,((0:Nat):Int),.int (e:Int),rfl,rfl,eR (I _ _ r2),f_ rfl,_,_,rfl,rfl,(by show 1<=a_;decide),λm hm=> ?_⟩;have s5:=WZ (o:= .lst [.int ((g:Int)+(e:Int))]) I hm;refine ⟨_,rfl,l,dl,J,lm,rfl,s5 _ _ l1,_,rfl,J,_,rfl,eR (s5 _ _ l2),λp3 N=> ?_⟩;rw [AV];have a4:m≠p3:=λz=>by rw [<-z,ao] at N;cases N
   have s6:=WZ (o:= .lst (tv d)) s5 N;refine ⟨m,p3,_,_,rfl,rfl,by rw [aC a4];exact ao,ao,?_,λv hv=> ?_⟩
   ·show 1+(tv d).length<=a_;rw [aF] at z3;rw [dE,cq];omega
   have s7:=WZ (o:= .lst ([.int ((g:Int)+(e:Int))]++tv d)) s6 hv;have ev:([.int ((g:Int)+(e:Int))]++tv d:List V)=iv (((g+e:Nat):Int)::Vaarrb.ints d):=by
    show Wv ((g:Int)+(e:Int))::tv d=Wv ((g+e:Nat):Int)::iv (Vaarrb.ints d);rw [ij];rfl
   refine ⟨v,((g+e:Nat):Int)::Vaarrb.ints d,rfl,by rw [<-ev];exact eR ao,xP _ z1,λok H5 s8=> ?_,λa1 H5 s8=>h2 6 (rO (k:= -6) 6 ?_) H5 (L.trans (s7.trans s8))⟩
   ·rw [nA] at ok;have j:=s7.trans s8;refine ⟨_,rfl,_,rfl,l,dl,J,lm,rfl,j _ _ l1,_,rfl,r,dr,rl,rm,rfl,j _ _ r1,lm,rm,_,_,rfl,rfl,j _ _ l3,j _ _ r3,?_,λu hu=>⟨v,u,rfl,λH6 z dz s9 nz hz=> ?_⟩⟩
    ·rw [dZ,dZ,cq];omega
    have a0:=WZ (o:= .lst (iv (cC a b).data++iv (cC b a).data)) (WH H5) hu;refine h1 ⟨(g+e)::d,(cC a b).data++(cC b a).data⟩ (Kb ?_) H6 z (L.trans (j.trans (a0.trans s9))) ⟨dz,v,u,hz,s9 _ _ (a0 _ _ (s8 _ _ ?_)),s9 _ _ ?_⟩
    ·rw [B];show jS ((g+e)::d) _=_;unfold jS;rw [if_pos ok]
    ·rw [ao];rfl
    ·rw [ao,zq]
   ·rw [nA] at a1;rw [B];show jS ((g+e)::d) _=_;unfold jS;rw [if_neg (by rw [a1];exact aN)];rfl
  ·rw [show (d==Y)=false from beq_eq_false_iff_ne.mpr c];refine qa (h2 1 (rO (k:= -1) 1 ?_) H3 (L.trans I));rw [C,if_pos (show Pe 1 (g::d)≠Pe 1 (e::Y) from c)];rfl
end
end Rk
namespace L2
open PySem PySem.Spec PyProof.Rows Rx
section
variable {X:Cx}
def FM(h:n<=1000000000000000000):n.log2<9000:=by
 by_cases z:n=0
 ·subst z;decide
 ·have:n.log2<60:=(Nat.log2_lt z).mpr (jA h (by decide));omega
def Jn:yL X (mO .FloorDiv) (rI (λ_ j=>j≠0/\j.natAbs<=1000000000000000000) λi j=> .int (i.fdiv j)):=T5 λ_ _ _ _ _ _ _ a q=>floordiv_int a.1 q (.inl (PyProof.noPylong_of_log2 (FM a.2)))
end
end L2
namespace Rk
open PySem PySem.Spec PyProof.Rows L2 Rx
open Vaarrb (Arr)
def nk:Sp:=λa H Q _=>∃b:Bool,a=[.bl b]/\Q (.int (if b=true then 1 else 0)) H
def uf(q:Nat->af×af):Sp:=λa H Q E=>∃n:Int,a=[.int n]/\(∀m,eP n= .ok m->Q (.int m) H)/\∀k,eP n= .error k->E (.ref (cls q k)) none H
def sw(q:Nat->af×af):Sp:=λa H Q E=>∃b:Int,a=[.int b]/\(b≠0->Q .non H)/\(b=0->E (.ref (cls q 4)) none H)
def xz(q:Nat->af×af):Sp:=λb H Q E=>∃(l:af) (a:List Int),b=[.ref l]/\H l=some (.lst (iv a))/\(a.all dR=true->Q .non H)/\(a.all dR=false->E (.ref (cls q 7)) none H)
def je(n):dR n=true↔n=0\/n=1:=by
 unfold dR;rw [jJ,beq_iff_eq,beq_iff_eq]
def Im(h: -1000000000000000000<=n/\n<=1000000000000000000):eP n= .ok n:=if_pos ((Xk n).mpr h)
def EM(h:¬(-1000000000000000000<=n/\n<=1000000000000000000)):eP n= .error 5:=if_neg (λe=>h ((Xk n).mp e))
section
variable {P:be} {w:bN} {K:ac} {mg:Str→Option al} {G:cz→Prop} {CA:af} {q:Nat→af×af}
def Q9:WB ["holds"] ["holds"] (aA qH):=⟨rfl,rfl,rfl,by decide+kernel,rfl,by decide+kernel,by decide+kernel⟩
def Cj(D:Dx K mg "as_number" qH ["holds"]):Pk P w K mg G 1 "as_number" ["holds"] nk:= .of D λf k F d j=>by
 refine F.okX Q9 (λe H Q E h=> ?_) (λg l a s H e Q E i h=> ?_)
 ·obtain ⟨b,rfl,_⟩:=h;rfl
 ·obtain ⟨b,rfl,c⟩:=h;refine ⟨_,ay (ee (re (pv 0)) (az (bn bR)) cB) (az (bn bR)),?_⟩;refine ⟨_,rfl,_,rfl,?_⟩;cases b with
  | true=>exact qa c
  | false=>exact rT c
def Q7:WB ["number"] ["number"] (aA nU):=⟨rfl,rfl,rfl,by decide+kernel,rfl,by decide+kernel,by decide+kernel⟩
def IR(A:Ars K mg CA q)(D:Dx K mg "not_too_big" nU ["number"]):Pk P w K mg G 1 "not_too_big" ["number"] (uf q):= .of D λf o F d m=>by
 obtain ⟨tB,g⟩:=A.kB;refine F.okX Q7 (λe H Q E h=> ?_) (λk p b s H e Q E l h=> ?_)
 ·obtain ⟨n,rfl,_⟩:=h;rfl
 ·obtain ⟨n,rfl,j,i⟩:=h;refine ⟨_,ay (ee (cU AG (eV yJ rfl A.abs (by decide+kernel) (aa (pv 0) aw)) (cg (v:= .int 1000000000000000000) rfl g ⟨_,rfl⟩) (dA _)) (az (eK rfl rfl A.an.t8.xc A.i8 rfl A.an.t8.at_ ig)) cB)
   (az (bn (pv 0))),?_⟩
  refine ⟨_,rfl,n,rfl,_,_,rfl,rfl,_,rfl,gp (λc=> ?_) λc=> ?_⟩
  ·have a:=of_decide_eq_true c;exact i 5 (EM λy=>by split at a<;>omega)
  ·refine ⟨_,rfl,j n (Im ?_)⟩;have a:¬(1000000000000000000:Int)<(if n<0 then -n else n):=λy=>c (decide_eq_true y);split at a<;>omega
def Q6:WB ["b"] ["b"] (aA jZ):=⟨rfl,rfl,rfl,by decide+kernel,rfl,by decide+kernel,by decide+kernel⟩
def Ch(A:Ars K mg CA q)(D:Dx K mg "check_division" jZ ["b"]):Pk P w K mg G 1 "check_division" ["b"] (sw q):= .of D λf l F b k=>by
 refine F.okX Q6 (λd H Q E h=> ?_) (λi m a s H d Q E j h=> ?_)
 ·obtain ⟨n,rfl,_⟩:=h;rfl
 ·obtain ⟨n,rfl,g,e⟩:=h;refine ⟨_,az (ee (cU lM (pv 0) bR (dA _)) (az (eK rfl rfl A.an.t7.xc A.i7 rfl A.an.t7.at_ ig)) cB),?_⟩;refine ⟨_,rfl,rfl,_,rfl,gp (λc=> ?_) λc=> ?_⟩
  ·exact e (X1 (of_decide_eq_true c))
  ·exact g λy=>c (decide_eq_true (by rw [y]))
def BX:WB ["numbers","number"] ["numbers"] (aA ml):=⟨rfl,rfl,rfl,by decide+kernel,rfl,by decide+kernel,by decide+kernel⟩
def IN(A:Ars K mg CA q)(D:Dx K mg "check_truths" ml ["numbers"]):Pk P w K mg G 1 "check_truths" ["numbers"] (xz q):= .of D λf fd F C Y=>by
 refine F.okX BX (λI H Q E h=> ?_) (λT A' r s H I Q E U h=> ?_)
 ·obtain ⟨l,b,rfl,_⟩:=h;rfl
 ·obtain ⟨l,b,rfl,B,M,L⟩:=h;refine ⟨_,az (my vT rfl (ik (pv 0)) (fg (i:=1) BX.nd rfl (bz rfl))
   (az (ee (Wr (Hq (cU yA (pv 1) bR (dA _)) (Bi (cU yA (pv 1) bR (dA _))))) (az (eK rfl rfl A.an.ta.xc A.ia rfl A.an.ta.at_ ig)) cB))),?_⟩
  refine ⟨_,rfl,l,rfl,⟨_,eR B⟩,kW (K:=K) (a:=l) (xs:=iv b) (λi j o=>∃p,j=[some (.ref l),p]/\o=H/\∀n∈b.take i,dR n=true) ⟨none,rfl,rfl,by simp⟩ (λi j o _ ⟨_,_,e,_⟩=>by rw [e];exact eR B) ?_ ?_⟩
  ·rintro i x j o J ⟨p,rfl,rfl,k⟩;obtain ⟨n,g,rfl⟩:=wN J;have u:dR n=true->∀m∈b.take (i+1),dR m=true:=λt m v=>by
    rw [take_snoc g] at v;rcases bV.mp v with z | z
    ·exact k m z
    ·rw [aL.mp z];exact t
   refine ⟨_,rfl,rfl,_,rfl,gp (λc=> ?_) λc=>rT ?_⟩
   ·refine ⟨_,rfl,rfl,_,rfl,gp (λd=> ?_) λd=> ?_⟩
    ·refine L ?_;have O:n≠0:=λy=>by rw [y] at c;simp at c
     have N:n≠1:=λy=>by rw [y] at d;simp at d
     cases z:b.all dR with
     | false=>rfl
     | true=>
      have:=eU.mp z n (bD g);rcases (je n).mp this with y | y
      ·exact absurd y O
      ·exact absurd y N
    ·refine ⟨_,rfl,rfl,u ((je n).mpr (.inr ?_))⟩;have:Wv n=Wv 1:=gJ.mp λy=>d (by rw [decide_eq_false y];rfl);exact X1 this
   ·refine ⟨_,rfl,rfl,u ((je n).mpr (.inl ?_))⟩;have:Wv n=Wv 0:=gJ.mp λy=>c (by rw [decide_eq_false y];rfl);exact X1 this
  ·rintro j o ⟨p,rfl,rfl,k⟩;rw [dZ,bH] at k;exact M (eU.mpr k)
def L6:WB ["a","b"] ["a","b"] (aA GV):=⟨rfl,rfl,rfl,by decide+kernel,rfl,by decide+kernel,by decide+kernel⟩
def Gv(i:Pk P w K mg G 1 "not_too_big" ["number"] (uf q))(D:Dx K mg "plus" GV ["a","b"]):Pk P w K mg G 2 "plus" ["a","b"] (lC q λa b=>eP (a+b)):= .of D λf r F d l=>by
 refine F.okX L6 (λg H Q E h=> ?_) (λp v c s H g Q E j h=> ?_)
 ·obtain ⟨a,b,rfl,_⟩:=h;rfl
 ·obtain ⟨a,b,rfl,u,t,o,n⟩:=h;refine ⟨_,az (bn (ci i l j eO (aa (d_ oM (pv 0) (pv 1)) aw))),?_⟩;exact ⟨_,rfl,_,rfl,_,_,rfl,rfl,a+b,rfl,λm e=>o m e H (WH H),λk e=>n k e H (WH H)⟩
def Iq:WB ["a","b"] ["a","b"] (aA Bd):=⟨rfl,rfl,rfl,by decide+kernel,rfl,by decide+kernel,by decide+kernel⟩
def B8(i:Pk P w K mg G 1 "not_too_big" ["number"] (uf q))(D:Dx K mg "minus" Bd ["a","b"]):Pk P w K mg G 2 "minus" ["a","b"] (lC q λa b=>eP (a - b)):= .of D λf r F d l=>by
 refine F.okX Iq (λg H Q E h=> ?_) (λp v c s H g Q E j h=> ?_)
 ·obtain ⟨a,b,rfl,_⟩:=h;rfl
 ·obtain ⟨a,b,rfl,u,t,o,n⟩:=h;refine ⟨_,az (bn (ci i l j eO (aa (d_ p_ (pv 0) (pv 1)) aw))),?_⟩;exact ⟨_,rfl,_,rfl,_,_,rfl,rfl,a - b,rfl,λm e=>o m e H (WH H),λk e=>n k e H (WH H)⟩
def Ip:WB ["a","b"] ["a","b"] (aA Bb):=⟨rfl,rfl,rfl,by decide+kernel,rfl,by decide+kernel,by decide+kernel⟩
def B7(j:Pk P w K mg G 1 "not_too_big" ["number"] (uf q))(D:Dx K mg "times" Bb ["a","b"]):Pk P w K mg G 2 "times" ["a","b"] (lC q λa b=>eP (a*b)):= .of D λf t F g n=>by
 refine F.okX Ip (λi H Q E h=> ?_) (λr v c s H i Q E l h=> ?_)
 ·obtain ⟨a,b,rfl,_⟩:=h;rfl
 ·obtain ⟨a,b,rfl,d,u,p,o⟩:=h;refine ⟨_,az (bn (ci j n l eO (aa (d_ s_ (pv 0) (pv 1)) aw))),?_⟩;exact ⟨_,rfl,_,rfl,_,_,rfl,rfl,.inl ⟨by have:=(Xk a).mp d;omega,by have:=(Xk a).mp d;omega⟩,a*b,rfl,λm e=>p m e H (WH H),λk e=>o k e H (WH H)⟩
def BW:WB ["a","b"] ["a","b"] (aA vE):=⟨rfl,rfl,rfl,by decide+kernel,rfl,by decide+kernel,by decide+kernel⟩
def vu(i:Pk P w K mg G 1 "check_division" ["b"] (sw q))(D:Dx K mg "divided" vE ["a","b"]):Pk P w K mg G 2 "divided" ["a","b"] (lC q En):= .of D λf p F e k=>by
 refine F.okX BW (λg H Q E h=> ?_) (λo t d s H g Q E j h=> ?_)
 ·obtain ⟨a,b,rfl,_⟩:=h;rfl
 ·obtain ⟨a,b,rfl,r,n,m,l⟩:=h;refine ⟨_,ay (iF (ci i k j eO (aa (pv 1) aw))) (az (bn (d_ Jn (pv 0) (pv 1)))),?_⟩;exact ⟨_,rfl,b,rfl,λc=>⟨_,rfl,_,rfl,_,_,rfl,rfl,⟨c,by have:=(Xk b).mp n;omega⟩,m _ (if_neg c) H (WH H)⟩,λc=>l 4 (if_pos c) H (WH H)⟩
def EQ:WB ["a","b"] ["a","b"] (aA xY):=⟨rfl,rfl,rfl,by decide+kernel,rfl,by decide+kernel,by decide+kernel⟩
def xS(i:Pk P w K mg G 1 "check_division" ["b"] (sw q))(D:Dx K mg "modulo" xY ["a","b"]):Pk P w K mg G 2 "modulo" ["a","b"] (lC q xf):= .of D λf o F e k=>by
 refine F.okX EQ (λg H Q E h=> ?_) (λn t d s H g Q E j h=> ?_)
 ·obtain ⟨a,b,rfl,_⟩:=h;rfl
 ·obtain ⟨a,b,rfl,r,p,m,l⟩:=h;refine ⟨_,ay (iF (ci i k j eO (aa (pv 1) aw))) (az (bn (d_ Mb (pv 0) (pv 1)))),?_⟩;exact ⟨_,rfl,b,rfl,λc=>⟨_,rfl,_,rfl,_,_,rfl,rfl,c,m _ (by unfold xf;rw [if_neg c,OneM.mod_eq]) H (WH H)⟩,λc=>l 4 (if_pos c) H (WH H)⟩
def BS:WB ["a","b"] ["a","b"] (aA vx):=⟨rfl,rfl,rfl,by decide+kernel,rfl,by decide+kernel,by decide+kernel⟩
def vp(A:Ars K mg CA q)(D:Dx K mg "smaller" vx ["a","b"]):Pk P w K mg G 1 "smaller" ["a","b"] (lC q (λa b=> .ok (if a<b then a else b))):= .of D λf n F d l=>by
 refine F.okX BS (λg H Q E h=> ?_) (λj r c s H g Q E k h=> ?_)
 ·obtain ⟨a,b,rfl,_⟩:=h;rfl
 ·obtain ⟨a,b,rfl,p,o,i,m⟩:=h;refine ⟨_,az (bn (eV (nE rfl) rfl A.min (by decide+kernel) (aa (pv 0) (aa (pv 1) aw)))),?_⟩;refine ⟨_,rfl,_,rfl,_,_,rfl,?_⟩;have e:(if b<a then b else a)=(if a<b then a else b):=by split<;>split<;>omega
  rw [e];exact i _ rfl H (WH H)
def BV:WB ["a","b"] ["a","b"] (aA vD):=⟨rfl,rfl,rfl,by decide+kernel,rfl,by decide+kernel,by decide+kernel⟩
def vt(A:Ars K mg CA q)(D:Dx K mg "greater" vD ["a","b"]):Pk P w K mg G 1 "greater" ["a","b"] (lC q (λa b=> .ok (if a<b then b else a))):= .of D λf m F d k=>by
 refine F.okX BV (λe H Q E h=> ?_) (λi p c s H e Q E j h=> ?_)
 ·obtain ⟨a,b,rfl,_⟩:=h;rfl
 ·obtain ⟨a,b,rfl,o,n,g,l⟩:=h;refine ⟨_,az (bn (eV (vL rfl) rfl A.max (by decide+kernel) (aa (pv 0) (aa (pv 1) aw)))),?_⟩;exact ⟨_,rfl,_,rfl,_,_,rfl,g _ rfl H (WH H)⟩
def BU:WB ["a","b"] ["a","b"] (aA vC):=⟨rfl,rfl,rfl,by decide+kernel,rfl,by decide+kernel,by decide+kernel⟩
def vr(g:Pk P w K mg G 1 "as_number" ["holds"] nk)(D:Dx K mg "is_less" vC ["a","b"]):Pk P w K mg G 2 "is_less" ["a","b"] (lC q (λa b=>ga (decide (a<b)))):= .of D λf n F d j=>by
 refine F.okX BU (λe H Q E h=> ?_) (λl r c s H e Q E i h=> ?_)
 ·obtain ⟨a,b,rfl,_⟩:=h;rfl
 ·obtain ⟨a,b,rfl,p,o,k,m⟩:=h;refine ⟨_,az (bn (ci g j i cw (aa (qO wz (pv 0) (pv 1) (dA _)) aw))),?_⟩;exact ⟨_,rfl,_,rfl,_,_,rfl,rfl,_,rfl,k _ rfl H (WH H)⟩
def wl:WB ["a","b"] ["a","b"] (aA ph):=⟨rfl,rfl,rfl,by decide+kernel,rfl,by decide+kernel,by decide+kernel⟩
def oX(g:Pk P w K mg G 1 "as_number" ["holds"] nk)(D:Dx K mg "is_at_most" ph ["a","b"]):Pk P w K mg G 2 "is_at_most" ["a","b"] (lC q (λa b=>ga (decide (a<=b)))):= .of D λf n F d j=>by
 refine F.okX wl (λe H Q E h=> ?_) (λl r c s H e Q E i h=> ?_)
 ·obtain ⟨a,b,rfl,_⟩:=h;rfl
 ·obtain ⟨a,b,rfl,p,o,k,m⟩:=h;refine ⟨_,az (bn (ci g j i cw (aa (qO wA (pv 0) (pv 1) (dA _)) aw))),?_⟩;exact ⟨_,rfl,_,rfl,_,_,rfl,rfl,_,rfl,k _ rfl H (WH H)⟩
def Af:WB ["a","b"] ["a","b"] (aA sN):=⟨rfl,rfl,rfl,by decide+kernel,rfl,by decide+kernel,by decide+kernel⟩
def sH(i:Pk P w K mg G 1 "as_number" ["holds"] nk)(D:Dx K mg "is_equal" sN ["a","b"]):Pk P w K mg G 2 "is_equal" ["a","b"] (lC q (λa b=>ga (decide (a=b)))):= .of D λf o F d k=>by
 refine F.okX Af (λg H Q E h=> ?_) (λm t c s H g Q E j h=> ?_)
 ·obtain ⟨a,b,rfl,_⟩:=h;rfl
 ·obtain ⟨a,b,rfl,r,p,l,n⟩:=h;refine ⟨_,az (bn (ci i k j cw (aa (qO lM (pv 0) (pv 1) (dA _)) aw))),?_⟩;have e:decide (Wv a=Wv b)=decide (a=b):=decide_eq_decide.mpr ⟨λy=>X1 y,λy=>by rw [y]⟩;exact ⟨_,rfl,_,rfl,rfl,_,rfl,l _ (by rw [e];rfl) H (WH H)⟩
def wn:WB ["a","b"] ["a","b"] (aA pi):=⟨rfl,rfl,rfl,by decide+kernel,rfl,by decide+kernel,by decide+kernel⟩
def oY(i:Pk P w K mg G 1 "as_number" ["holds"] nk)(D:Dx K mg "is_another" pi ["a","b"]):Pk P w K mg G 2 "is_another" ["a","b"] (lC q (λa b=>ga (decide (a≠b)))):= .of D λf o F d k=>by
 refine F.okX wn (λg H Q E h=> ?_) (λm t c s H g Q E j h=> ?_)
 ·obtain ⟨a,b,rfl,_⟩:=h;rfl
 ·obtain ⟨a,b,rfl,r,p,l,n⟩:=h;refine ⟨_,az (bn (ci i k j cw (aa (qO yA (pv 0) (pv 1) (dA _)) aw))),?_⟩;have e:(!decide (Wv a=Wv b))=decide (a≠b):=by
   rw [<-decide_not];exact decide_eq_decide.mpr ⟨λy z=>y (by rw [z]),λy z=>y (X1 z)⟩
  exact ⟨_,rfl,_,rfl,rfl,_,rfl,l _ (by rw [e];rfl) H (WH H)⟩
def L7:WB ["a","b"] ["a","b"] (aA He):=⟨rfl,rfl,rfl,by decide+kernel,rfl,by decide+kernel,by decide+kernel⟩
def GC(A:Ars K mg CA q)(j:Pk P w K mg G 1 "check_truths" ["numbers"] (xz q))(D:Dx K mg "both" He ["a","b"]):Pk P w K mg G 2 "both" ["a","b"] (lC q xg):= .of D λf r F g m=>by
 refine F.okX L7 (λi H Q E h=> ?_) (λp x d s H i Q E k h=> ?_)
 ·obtain ⟨a,b,rfl,_⟩:=h;rfl
 ·obtain ⟨a,b,rfl,v,u,o,n⟩:=h;refine ⟨_,ay (iF (ci j m k eO (aa (eA (aa (pv 0) (aa (pv 1) aw))) aw))) (az (bn (eV (nE rfl) rfl A.min (by decide+kernel) (aa (pv 0) (aa (pv 1) aw))))),?_⟩;refine ⟨_,rfl,_,rfl,(by show 2<=a_;decide),λl e=>⟨l,[a,b],rfl,ao,λt=>⟨_,rfl,_,rfl,_,_,rfl,o _ ?_ _ (WZ (WH H) e)⟩,λt=>n 7 ?_ _ (WZ (WH H) e)⟩⟩
  ·have c:dR a=true/\dR b=true:=by simpa using t
   rcases (je a).mp c.1 with y | y<;>rcases (je b).mp c.2 with z | z<;>(subst y;subst z;rfl)
  ·have c:(dR a&&dR b)=false:=by simpa using t
   unfold xg;rw [c];rfl
def tM:WB ["a","b"] ["a","b"] (aA mn):=⟨rfl,rfl,rfl,by decide+kernel,rfl,by decide+kernel,by decide+kernel⟩
def md(A:Ars K mg CA q)(j:Pk P w K mg G 1 "check_truths" ["numbers"] (xz q))(D:Dx K mg "at_least_one" mn ["a","b"]):Pk P w K mg G 2 "at_least_one" ["a","b"] (lC q A3):= .of D λf r F g m=>by
 refine F.okX tM (λi H Q E h=> ?_) (λp x d s H i Q E k h=> ?_)
 ·obtain ⟨a,b,rfl,_⟩:=h;rfl
 ·obtain ⟨a,b,rfl,v,u,o,n⟩:=h;refine ⟨_,ay (iF (ci j m k eO (aa (eA (aa (pv 0) (aa (pv 1) aw))) aw))) (az (bn (eV (vL rfl) rfl A.max (by decide+kernel) (aa (pv 0) (aa (pv 1) aw))))),?_⟩;refine ⟨_,rfl,_,rfl,(by show 2<=a_;decide),λl e=>⟨l,[a,b],rfl,ao,λt=>⟨_,rfl,_,rfl,_,_,rfl,o _ ?_ _ (WZ (WH H) e)⟩,λt=>n 7 ?_ _ (WZ (WH H) e)⟩⟩
  ·have c:dR a=true/\dR b=true:=by simpa using t
   rcases (je a).mp c.1 with y | y<;>rcases (je b).mp c.2 with z | z<;>(subst y;subst z;rfl)
  ·have c:(dR a&&dR b)=false:=by simpa using t
   unfold A3;rw [c];rfl
end
end Rk
namespace L2
open PySem PySem.Spec PyProof.Rows Rx
def Kn(P:be)(w:bN)(K:ac)(mg:Str->Option al)(base:cz)(CX:AK)(k:Nat)(ps:List Str)(E:XK)(i:Nat)(t:TA):TE:=λa H Q=>∃g b c,a[i]? =some (some (.ref g))/\Wz P w K mg base CX k g c ps b/\Binds K c ps []/\bq K (.ref g)=true/\t a H λd e=>b (d++[]) e Q E
def Dn{K}(j:Wy k X.A)(s:X.N[i]? =some x)(h:Ms X.env.scope x)(f:ge CX X E)(o:PA X (e::a) t)(r:X.prog=P:=by rfl)(g:X.w=w:=by rfl)(u:X.K=K:=by rfl)(l:X.mg=mg:=by rfl)(n:X.base=base:=by rfl)(c:(x==("__debug__":Str))=false:=by decide)(d:(x==("__classdict__":Str))=false:=by decide)(m:bx (e::a) X.env=(false,eval e X.env)::bx a X.env:=by rfl)(b:(fV pos (bx a X.env)).any (·.1)=false:=by rfl):PE X (.Call (.Name x p) (e::a) [] pos) (Kn P w K mg base CX k ps E i t):=by
 subst r g u l n;exact Dl j s h f o c d m b
theorem TupsAt.get:∀{b:List af} {ps:List (V×V)} {i:Nat} {t:af},TupsAt H b ps->b[i]? =some t->∃p,ps[i]? =some p/\H t=some (.tup [p.1,p.2])
 | [],_,i,t,_,h=>by simp at h
 | a::b,p::ps,0,t,h,e=>by
  have c:a=t:=bw e;subst c;exact ⟨p,rfl,h.1⟩
 | a::b,p::ps,i+1,t,h,e=>TupsAt.get (i:=i) h.2 e
 | a::b,[],i,t,h,e=>h.elim
end L2
namespace Rk
open PySem PySem.Spec PyProof.Rows L2 Rx
open Vaarrb (Arr)
open Vaarrc (workAll scalarTwo scalarOf paired elem twoNames prim2)
structure DicF (P:be) (w:bN) (K:ac) (mg:Str→Option al) (G:cz→Prop) (nm:Str) (names:List (List Nat)) (k:Nat) (ps:List Str) (tab:List Nat→Option Sp):Prop where
 ex:∃(a:af) (prs:List (Str×V)),mg nm=some (.ref a)∧KDic P w K a prs∧∀n∈names,(tab n=none→kAt prs ⟨n.toArray⟩=none)∧
  ∀sp,tab n=some sp→∃g fd,kAt prs ⟨n.toArray⟩=some (.ref g)∧bq K (.ref g)=true∧Binds K fd ps []∧∀base,G base→Wz P w K mg base (CXE P w) k g fd ps sp
def lW {A:Type} (f:A->Except Nat Int) (a:A) (l:List A):eB f (a::l)=match f a with
  | .error k=> .error k
  | .ok n=>(eB f l).map λs=>n::s:=by
 conv=>lhs;unfold eB
 cases f a with
 | error k=>rfl
 | ok n=>
  dsimp only;cases eB f l<;>rfl
theorem qy {A:Type} (f:A->Except Nat Int):∀c b:List A,eB f (c++b)=match eB f c with
  | .error k=> .error k
  | .ok r=>(eB f b).map λs=>r++s
 | [],b=>by
  show eB f b=(eB f b).map λs=>[]++s;cases eB f b<;>rfl
 | a::c,b=>by
  rw [gi,lW,qy f c b,lW];cases f a with
  | error k=>rfl
  | ok n=>
   dsimp only;cases eB f c with
   | error k=>rfl
   | ok r=>
    show ((eB f b).map _).map _=(eB f b).map _;cases eB f b<;>rfl
def xu{a:A}(h:eB f (l.take i)= .ok acc)(e:l[i]? =some a):
  (∀n,f a= .ok n->eB f (l.take (i+1))= .ok (acc++[n]))/\∀k,f a= .error k->eB f l= .error k:=by
 constructor
 ·intro n c;rw [take_snoc e,qy,h];show (eB f [a]).map _=_;rw [lW,c];rfl
 ·intro k d;have b:l=l.take i++a::l.drop (i+1):=by
   conv=>lhs;rw [<-dD i l]
   rw [fC (aY.mp e).1,(aY.mp e).2]
  rw [b,qy,h];show (eB f (a::l.drop (i+1))).map _=_;rw [lW,d];rfl
def AU(q:Nat->af×af)(n:List Nat):Option Sp:=(dj n).map (lC q)
def Nt:Sp:=λa H Q _=>∃n:List Nat,a=[.str ⟨n.toArray⟩]/\n∈fj/\Q (.bl (dj n).isSome) H
def Nq(CA:af)(q:Nat->af×af):Sp:=λc H Q E=>∃(n:List Nat) (f:Int->Int->Except Nat Int) (x y:af) (a b:Arr),c=[.str ⟨n.toArray⟩,.ref x,.ref y]/\n∈fj/\dj n=some f/\Y5 CA H x a/\Y5 CA H y b/\a.ok=true/\b.ok=true/\RA CA q H (lP f a b) Q E
section
variable {P:be} {w:bN} {K:ac} {mg:Str→Option al} {G:cz→Prop} {CA:af} {q:Nat→af×af}
def Q5:WB ["name"] ["name"] (aA ji):=⟨rfl,rfl,rfl,by decide+kernel,rfl,by decide+kernel,by decide+kernel⟩
def Qk(D:Dx K mg "is_scalar_of_two" ji ["name"])(S:DicF P w K mg G "OF_TWO" fj k ["a","b"] (AU q)):Pk P w K mg G 1 "is_scalar_of_two" ["name"] Nt:= .of D λf B F l z=>by
 obtain ⟨j,d,o,p,all⟩:=S.ex;refine F.okX Q5 (λm H Q E h=> ?_) (λx C i s H m Q E y h=> ?_)
 ·obtain ⟨n,rfl,_⟩:=h;rfl
 ·obtain ⟨n,rfl,r,a⟩:=h;refine ⟨_,az (bn (Oq (Ot (pv 0) (cg (v:= .ref j) rfl o rfl)) (by with_unfolding_all rfl))),?_⟩;refine ⟨_,rfl,j,d,⟨n.toArray⟩,rfl,p,rfl,?_⟩;obtain ⟨c,b⟩:=all n r;unfold AU at c b;cases e:dj n with
  | none=>
   rw [e] at a c;rw [c rfl];exact a
  | some g=>
   rw [e] at a b;obtain ⟨A,u,t,_⟩:=b _ rfl;rw [t];exact a
def BY:WB ["name","x","y","work","shape","a","b"] ["name","x","y"] (aA lq):=⟨rfl,rfl,rfl,by decide+kernel,rfl,by decide+kernel,by decide+kernel⟩
def Qh(A:Ars K mg CA q)(M:MkA P w K mg CA)(D:Dx K mg "scalar_of_two" lq ["name","x","y"])(S:DicF P w K mg G "OF_TWO" fj 2 ["a","b"] (AU q))(kl:Pk P w K mg G 1 "longer_shape" ["left","right"] (xC q))(kp:Pk P w K mg G 3 "pairs_of" ["left_shape","left_things","right_shape","right_things"] B5):Pk P w K mg G 4 "scalar_of_two" ["name","x","y"] (Nq CA q):= .of D λf fd F u hb=>by
 obtain ⟨aD,a5,mD,kd,all⟩:=S.ex;refine F.okX BY (λvs H Q E h=> ?_) (λb2 A' b0 s H vs Q E hr h=> ?_)
 ·obtain ⟨n,f,x,y,a,b,rfl,_⟩:=h;rfl
 ·obtain ⟨n,f,x,y,a,b,rfl,hn,hf,⟨dx,L,ld,hx,hs,hd⟩,⟨dy,lt,le,hy,ht,he⟩,o,j,h1,h2⟩:=h;have a7:Wy 2 _:=hr.mono (by decide);refine ⟨_,ay (cj (i:=3) BY.nd rfl (by first | exact bz rfl | exact jG rfl) (Ht (cg (v:= .ref aD) rfl mD rfl) (pv 0) (λ_ _=>rfl)))
   (ay (cj (i:=4) BY.nd rfl (by first | exact bz rfl | exact jG rfl) (ci kl hb hr eO (aa (de A (pv 1)) (aa (de A (pv 2)) aw))))
   (az (bn (jh A M hr (aa (pv 4) (aa (Op (E:=E) (g:=Rv K 2 (Mj (wB 5) (Mj (wB 6) Rw))) (te:=Kn P w K mg u (CXE P w) 2 ["a","b"] E 3 (jP (qm 5) (jP (qm 6) qo))) (own:=[("a",5),("b",6)]) Kt rfl rfl rfl rfl BY.nd
    (ik (ci kp hb hr cw (aa (de A (pv 1)) (aa (fw A (pv 1)) (aa (de A (pv 2)) (aa (fw A (pv 2)) aw)))))) (jt (by first | rfl | kernel_rfl))
    (λ_ _ _ _ _ _ _=>Hr rfl (pZ (fg (i:=5) BY.nd rfl (bz rfl)) (pZ (fg (i:=6) BY.nd rfl (bz rfl)) Bj))) (λ_ _ _ _ _ _ _=>mx)
    (λ_ _ _ _ _ _ _ hp=>Dn a7 rfl (by first | exact bz rfl | exact jG (bz rfl) | exact jG (jG rfl)) hp (aa (pv 5) (aa (pv 6) aw)))) aw)))))),?_⟩
  obtain ⟨g,a9,h3,kg,bg,Fg⟩:=(all n hn).2 (lC q f) (by unfold AU;rw [hf];rfl);refine ⟨_,rfl,aD,a5,⟨n.toArray⟩,.ref g,rfl,kd,rfl,h3,?_⟩;refine ⟨_,rfl,x,dx,L,ld,rfl,hx,_,rfl,y,dy,lt,le,rfl,hy,L,lt,a.shape,b.shape,rfl,hs,ht,λag H1 l1 B a8=> ?_,λa6 C s'=>h2 1 (by unfold lP;rw [if_pos a6];rfl) C s'⟩;have U:=B _ _ hx;have T:=B _ _ hy;have sa:=((Xj a).mp o).1;have sb:=((Xj b).mp j).1;refine ⟨_,rfl,_,rfl,x,dx,L,ld,rfl,U,_,rfl,x,dx,L,ld,rfl,U,_,rfl,y,dy,lt,le,rfl,T,_,rfl,y,dy,lt,le,rfl,T,L,ld,lt,le,a.shape,b.shape,iv a.data,iv b.data,rfl,B _ _ hs,B _ _ hd,B _ _ ht,B _ _ he,sa,sb,by rw [dZ];exact Xx o,by rw [dZ];exact Xx j,λH2 l2 ts s2 a0 hT=> ?_⟩;rw [XR ag (by rw [dZ];exact ((Xj a).mp o).2.1) (by rw [dZ];exact ((Xj b).mp j).2.1) (Wv 0) (Wv 0)] at hT;have eX:∀(c:Arr) (i:Nat),(iv c.data)[i]?.getD (Wv 0)= .int (oF c i):=λc i=>by
   unfold oF;rw [bW];cases c.data[i]? <;>rfl
  have O:=B.trans s2;have b1:(jR a.shape b.shape).length<=1024:=by rw [Xs];exact Xf (Xu sa sb)
  have a2:ts.length=(jR a.shape b.shape).length:=by rw [hT.length,am]
  have N:lP f a b=match eB (λ(p:Nat×Nat)=>f (oF a p.1) (oF b p.2)) (jR a.shape b.shape) with
    | .error k=> .error k
    | .ok l=> .ok {shape:=ju a.shape b.shape,data:=l}:=by
   unfold lP;rw [if_neg (by rw [ag];exact λz=>nomatch z)];cases eB (λ(p:Nat×Nat)=>f (oF a p.1) (oF b p.2)) (jR a.shape b.shape)<;>rfl
  refine ⟨l2,rfl,⟨_,eR a0⟩,λD hD=>pw (K:=K) (a:=l2) (xs:=ts.map WA) (λi C=>∃d,WG H2 C/\C D=some (.lst (iv d))/\d.length<=i/\eB (λ(p:Nat×Nat)=>f (oF a p.1) (oF b p.2)) ((jR a.shape b.shape).take i)= .ok d) ⟨[],WZ (WH H2) hD,ao,aO _,rfl⟩
   (λi C _ ⟨_,z,_⟩=>eR (z _ _ a0)) ?_ ?_⟩
  ·rintro i v C hi ⟨d,J,I,la,wk⟩;obtain ⟨t,a1,rfl⟩:=iU hi;obtain ⟨pr,e,Y⟩:=hT.get a1;rw [bW] at e;obtain ⟨p,hp,rfl⟩:∃p,(jR a.shape b.shape)[i]? =some p/\pr=((iv a.data)[p.1]?.getD (Wv 0),(iv b.data)[p.2]?.getD (Wv 0)):=by
    cases z:(jR a.shape b.shape)[i]? with
    | none=>rw [z] at e;cases e
    | some p=>rw [z] at e;exact ⟨p,rfl,(bw e).symm⟩
   rw [eX,eX] at Y;have li:i<ts.length:=(aY.mp a1).1;obtain ⟨a4,a3⟩:=xu wk hp;refine ⟨t,_,rfl,Wu (J _ _ Y),rfl,_,_,rfl,_,_,rfl,rfl,rfl,?_⟩;refine ⟨g,lC q f,a9,rfl,Fg u hb,bg,kg,_,rfl,_,rfl,oF a p.1,oF b p.2,rfl,Xv o _,Xv j _,λm hm H4 r=> ?_,λk hk H4 r=> ?_⟩
   ·refine ⟨_,r _ _ I,by rw [dZ,cq];omega,d++[m],Y9 (J.trans r) hD,?_,by rw [bp,iA];omega,a4 m hm⟩;rw [ao,zq];rfl
   ·exact h2 k (by rw [N,a3 k hk]) H4 (O.trans (J.trans r))
  ·rintro C ⟨d,J,I,la,wk⟩;rw [am,a2,bH] at wk;refine ⟨l1,D,rfl,λH4 z dz r nz hz=>h1 _ (by rw [N,wk]) H4 z (O.trans (J.trans r)) ⟨dz,l1,D,hz,r _ _ (J _ _ (s2 _ _ a8)),r _ _ I⟩⟩
def Ej(CA:af)(q:Nat->af×af)(n:List Nat):Option Sp:=match dj n with
 | some _=>none
 | none=>some (pO CA q (oj n))
def Nr(CA:af)(q:Nat->af×af):Sp:=λc H Q E=>∃(n:List Nat) (x y:af) (a b:Arr),c=[.str ⟨n.toArray⟩,.ref x,.ref y]/\n∈fj/\dj n=none/\Y5 CA H x a/\Y5 CA H y b/\a.ok=true/\b.ok=true/\RA CA q H (oj n a b) Q E
def ND:WB ["name","x","y","move"] ["name","x","y"] (aA nV):=⟨rfl,rfl,rfl,by decide+kernel,rfl,by decide+kernel,by decide+kernel⟩
def Qj(D:Dx K mg "move_of_two" nV ["name","x","y"])(S:DicF P w K mg G ot fj 5 ["x","y"] (Ej CA q)):Pk P w K mg G 6 "move_of_two" ["name","x","y"] (Nr CA q):= .of D λf T F c C=>by
 obtain ⟨o,d,r,u,all⟩:=S.ex;refine F.okX ND (λp H Q E h=> ?_) (λO U m s H p Q E z h=> ?_)
 ·obtain ⟨n,x,y,a,b,rfl,_⟩:=h;rfl
 ·obtain ⟨n,x,y,a,b,rfl,A,B,I,k,j,e,L⟩:=h;refine ⟨_,ay (cj (i:=3) ND.nd rfl (bz rfl) (Ht (cg (v:= .ref o) rfl r rfl) (pv 0) (λ_ _=>rfl)))
   (az (bn (Dn (ps:=["x","y"]) (i:=3) z rfl (bz rfl) eO (aa (pv 1) (aa (pv 2) aw))))),?_⟩
  obtain ⟨g,l,J,t,M,N⟩:=(all n A).2 (pO CA q (oj n)) (by unfold Ej;rw [B]);refine ⟨_,rfl,o,d,⟨n.toArray⟩,.ref g,rfl,u,rfl,J,?_⟩;exact ⟨g,pO CA q (oj n),l,rfl,N c C,M,t,_,rfl,_,rfl,x,y,a,b,rfl,I,k,j,e,L⟩
end
end Rk
namespace Rk
open PySem PySem.Spec PyProof.Rows L2 Rx
open Vaarrb (Arr)
open Vaarrc (scalarOf twoNames prim2)
def ud(n:Nat):List (Str×V):=[("worked",.int (n:Int))]
def Tl(CY:af)(H:Hp)(t:af)(n:Nat):Prop:=∃a,H t=some (.ins CY a (ud n))
def K1(n):(ud n).lookup ("worked":Str)=some (.int (n:Int)):=rfl
def Np(n):(ud n).lookup ("add_one":Str)=none:=by
 unfold ud;rw [eS,show (("add_one":Str)==("worked":Str))=false by decide+kernel];rfl
def Ij(n m:Nat):mK "worked" (.int (m:Int)) (ud n)=ud m:=by
 unfold ud mK;rw [if_pos rfl]
def stay(CY:af):HO->Prop
 | .tbl _=>False
 | .ins C _ _=>C≠CY
 | _=>True
def Wf(W:Hp->Prop):Prop:=∀H H':Hp,(∀b a,H b=some (.tbl a)->H' b=some (.tbl a))->(∀b o,H b=some (.frz o X9)->H' b=some (.frz o X9))->W H->W H'
def quiet(o:HO):Prop:=(∀a,o≠.tbl a)/\∀b,o≠.frz b X9
theorem Wf.upd(a:Wf W)(h:∀u,H D=some u->quiet u)(w:W H):W (L2.upd H D o):=by
 refine a H _ (λb c e=> ?_) (λb d e=> ?_) w
 ·rw [aC (λz=>by rw [z] at e;exact (h _ e).1 _ rfl)];exact e
 ·rw [aC (λz=>by rw [z] at e;exact (h _ e).2 _ rfl)];exact e
structure Fz (CY:af) (W:Hp→Prop) (t:af) (H H':Hp):Prop where
 k1:∀b o,H b=some o→stay CY o→H' b=some o
 k2:∀b dx fs,H b=some (.ins CY dx fs)→b≠t→H' b=some (.ins CY dx fs)
 k3:W H→W H'
section
variable {CY CA:af} {W:Hp→Prop} {t:af} {H H1 H2 H':Hp}
def Fz.of(a:Wf W)(s:WG H H'):Fz CY W t H H':=⟨λb o e _=>s b o e,λb f d e _=>s _ _ e,a H H' (λb c e=>s _ _ e) λb o e=>s _ _ e⟩
def Fz.trans(a:Fz CY W t H H1)(b:Fz CY W t H1 H2):Fz CY W t H H2:=⟨λc o e s=>b.k1 c o (a.k1 c o e s) s,λc f d e n=>b.k2 c f d (a.k2 c f d e n) n,λz=>b.k3 (a.k3 z)⟩
theorem Fz.lst(z:Fz CY W t H H')(h:H l=some (.lst xs)):H' l=some (.lst xs):=z.k1 _ _ h trivial
theorem Fz.tup(z:Fz CY W t H H')(h:H l=some (.tup xs)):H' l=some (.tup xs):=z.k1 _ _ h trivial
theorem Fz.frz(z:Fz CY W t H H')(h:H l=some (.frz o u)):H' l=some (.frz o u):=z.k1 _ _ h trivial
theorem Fz.ins(z:Fz CY W t H H')(h:H l=some (.ins C dx fs))(n:C≠CY):H' l=some (.ins C dx fs):=z.k1 _ _ h n
def Fz.arr(z:Fz CY W t H H')(n:CA≠CY)(h:Y5 CA H x a):Y5 CA H' x a:=by
 obtain ⟨f,b,ld,e,d,c⟩:=h;exact ⟨f,b,ld,z.ins e n,z.lst d,z.lst c⟩
def Fz.arrs(z:Fz CY W t H H')(n:CA≠CY)(h:Y6 CA H xs a):Y6 CA H' xs a:=Wp h λ_ _ y=>z.arr n y
def Fz.fnh(z:Fz CY W t H H')(h:FnH H g):FnH H' g:=by
 obtain ⟨c,b,d,a,e⟩:=h;exact ⟨c,b,d,a,z.frz e⟩
def Fz.put(d:Wf W)(h:H t=some (.ins CY dx fs)):Fz CY W t H (upd H t (.ins CY dx a)):=by
 have c:∀b o,H b=some o->stay CY o->b≠t:=λb o e s z=>by
  rw [z,h] at e;cases e;exact s rfl
 exact ⟨λb o e s=>by rw [aC (c b o e s)];exact e,λb f a e n=>by rw [aC n];exact e,d.upd λu e=>by rw [h] at e;cases e;exact ⟨(λ_ z=>nomatch z),(λ_ z=>nomatch z)⟩⟩
def Fz.lay(d:Wf W)(z:Fz CY W t H H')(n:H D=none)(a:∀u,H' D=some u->quiet u):Fz CY W t H (upd H' D o):=
 ⟨λb u e s=>by rw [aC (aU e n)];exact z.k1 b u e s,λb g f e c=>by rw [aC (aU e n)];exact z.k2 b g f e c,λw=>d.upd a (z.k3 w)⟩
def Fz.refl:Fz CY W t H H:=⟨λ_ _ e _=>e,λ_ _ _ e _=>e,λw=>w⟩
end
def RT(CA CY:af)(W:Hp->Prop)(q:Nat->af×af)(t:af)(H:Hp)(r:Except Nat (Arr×Nat))(Q:VK)(E:XK):Prop:=
 (∀a m,r= .ok (a,m)->∀H' x,Fz CY W t H H'->Tl CY H' t m->Y5 CA H' x a->Q (.ref x) H')/\∀k,r= .error k->∀H',Fz CY W t H H'->E (.ref (cls q k)) none H'
theorem RT.trans(h:RT CA CY W q t H r Q E)(z:Fz CY W t H H1):RT CA CY W q t H1 r Q E:=
 ⟨λa m e H' x b=>h.1 a m e H' x (z.trans b),λk e H' b=>h.2 k e H' (z.trans b)⟩
structure Tly (P:be) (w:bN) (K:ac) (mg:Str→Option al) (CY:af):Prop where
 mY:mg "Tally"=some (.ref CY)
 cY:Cls K CY
 nw:Wx K CY "worked"
 mi:∃f fd,Mk K CY f∧Binds K fd ["self"] []∧Fun K "__init__" "Tally.__init__" WT f fd
 ad:∃f fd,Meth K CY "add_one" f∧Binds K fd ["self"] []∧Fun K "add_one" "Tally.add_one" WX f fd
def QW(C:af):Sp:=λb H Q _=>∃(x a:af),b=[.ref x]/\H x=some (.ins C a [])/\∀H',H' x=some (.ins C a (ud 0))->(∀c o,H c=some o->c≠x->H' c=some o)->Q .non H'
def Sf(C:af):Sp:=λb H Q _=>∃(x a:af) (n:Nat),b=[.ref x]/\H x=some (.ins C a (ud n))/\Q .non (upd H x (.ins C a (ud (n+1))))
section
variable {P:be} {w:bN} {K:ac} {mg:Str→Option al} {G:cz→Prop} {CA CY:af} {q:Nat→af×af} {W:Hp→Prop}
def Sk:WB ["self"] ["self"] (aA WT):=⟨rfl,rfl,rfl,by decide+kernel,rfl,by decide+kernel,by decide+kernel⟩
def C7(Y:Tly P w K mg CY)(F:Fun K "__init__" "Tally.__init__" WT f j):Wz P w K mg base (CXE P w) 1 f j ["self"] (QW CY):=by
 refine F.okX Sk (λd H Q E h=> ?_) (λl n a s H d Q E m h=> ?_)
 ·obtain ⟨x,b,rfl,_⟩:=h;rfl
 ·obtain ⟨x,b,rfl,i,k⟩:=h;refine ⟨_,az (rf (pv 0) bR rfl),?_⟩;refine ⟨_,rfl,x,CY,b,[],rfl,i,Y.cY,Y.nw,(by show 0<1000;decide),?_⟩;exact k _ ao λc o e g=>by rw [aC g];exact e
def Sm:WB ["self"] ["self"] (aA WX):=⟨rfl,rfl,rfl,by decide+kernel,rfl,by decide+kernel,by decide+kernel⟩
def Ld(Y:Tly P w K mg CY)(F:Fun K "add_one" "Tally.add_one" WX f g):Wz P w K mg base (CXE P w) 1 f g ["self"] (Sf CY):=by
 refine F.okX Sm (λd H Q E h=> ?_) (λi l b s H d Q E j h=> ?_)
 ·obtain ⟨x,a,n,rfl,_⟩:=h;rfl
 ·obtain ⟨x,a,n,rfl,c,k⟩:=h;refine ⟨_,az (rf (pv 0) (d_ oM (iP (pv 0) rfl) bR) rfl),?_⟩;refine ⟨_,rfl,x,CY,a,_,_,rfl,c,Y.cY,Y.nw,K1 n,_,_,rfl,rfl,_,rfl,x,CY,a,_,rfl,c,Y.cY,Y.nw,(by show 1<1000;decide),?_⟩;have e:mK "worked" (Wv ((n:Int)+1)) (ud n)=ud (n+1):=Ij n (n+1);show Q .non (upd H x (.ins CY a (mK "worked" (Wv ((n:Int)+1)) (ud n))));rw [e];exact k
def QZ(CA CY:af)(W:Hp->Prop)(q:Nat->af×af):Sp:=λc H Q E=>∃(n:List Nat) (x y t:af) (a b:Arr) (m:Nat),c=[.str ⟨n.toArray⟩,.ref x,.ref y,.ref t]/\n∈fj/\Y5 CA H x a/\Y5 CA H y b/\a.ok=true/\b.ok=true/\Tl CY H t m/\RT CA CY W q t H (wD (oj n a b) m) Q E
def Su:WB ["base","x","y","tally"] ["base","x","y","tally"] (aA nY):=⟨rfl,rfl,rfl,by decide+kernel,rfl,by decide+kernel,by decide+kernel⟩
def IA{n:List Nat}(h:dj n=some f)(a b):oj n a b=lP f a b:=by unfold oj;rw [h]
def SM(C:Wf W)(o:CA≠CY)(Y:Tly P w K mg CY)(D:Dx K mg "base_of_two" nY ["base","x","y","tally"])(ki:Pk P w K mg G 1 "is_scalar_of_two" ["name"] Nt)(U:Pk P w K mg G 4 "scalar_of_two" ["name","x","y"] (Nq CA q))(km:Pk P w K mg G 6 "move_of_two" ["name","x","y"] (Nr CA q)):
  Pk P w K mg G 7 "base_of_two" ["base","x","y","tally"] (QZ CA CY W q):= .of D λf fd F N B=>by
 obtain ⟨fa,a0,T,ba,Fa⟩:=Y.ad;refine F.okX Su (λO H Q E h=> ?_) (λa1 A' J s H O Q E p h=> ?_)
 ·obtain ⟨n,x,y,t,a,b,m,rfl,_⟩:=h;rfl
 ·obtain ⟨n,x,y,t,a,b,m,rfl,A,M,j,i,g,⟨d,v⟩,h1,h2⟩:=h;have I:Wy 1 _:=p.mono (by decide);refine ⟨_,ay (iF (Ji (pv 3) Y.cY T (Ld Y Fa) I ba .nil cw))
   (ay (ee (re (ci ki B p cw (aa (pv 0) aw))) (az (bn (ci U B p eO (aa (pv 0) (aa (pv 1) (aa (pv 2) aw)))))) cB)
   (az (bn (ci km B p eO (aa (pv 0) (aa (pv 1) (aa (pv 2) aw))))))),?_⟩
  refine ⟨_,rfl,t,d,_,rfl,v,Np m,t,d,m,rfl,v,?_⟩;have c:Fz CY W t H (upd H t (.ins CY d (ud (m+1)))):=Fz.put C v;have L:Tl CY (upd H t (.ins CY d (ud (m+1)))) t (m+1):=⟨d,ao⟩
  generalize upd H t (.ins CY d (ud (m+1)))=H1 at c L ⊢;have u:RA CA q H1 (oj n a b) Q E:=by
   refine ⟨λr e H' z l hz=>h1 r (m+1) (by unfold wD;rw [e]) H' z (c.trans (Fz.of C l)) ?_ hz,λk e H' l=>h2 k (by unfold wD;rw [e]) H' (c.trans (Fz.of C l))⟩;obtain ⟨d1,e1⟩:=L;exact ⟨d1,l _ _ e1⟩
  refine ⟨_,rfl,n,rfl,A,_,rfl,?_⟩;cases e:dj n with
  | some f=>
   rw [IA e] at u;exact qa ⟨_,rfl,_,rfl,_,rfl,n,f,x,y,a,b,rfl,A,e,c.arr o M,c.arr o j,i,g,u⟩
  | none=>exact rT ⟨_,rfl,_,rfl,_,rfl,n,x,y,a,b,rfl,A,e,c.arr o M,c.arr o j,i,g,u⟩
end
end Rk
open Rk.Fz renaming of->Yd,refl->Ye
namespace OneM
open Vaarrb
open Vaarrc (Mod Work Env plainEnv plainWork countedEnv countedWork Counted counted uncounted modified runAll runPairs gather atOne atTwo tableTwo foldCells foldOne foldTwo scanCells scanOne scanTwo itemArrs cellArrs zeroCell ownRank paired longer agree arrAt full emptyFold prim1 prim2 scalarOf scalarTwo scalarOne workAll twoNames oneNames kinded)
def K8{A:Type}(r:ER A):Prop:=∀k,r= .error k->1<=k/\k<=8
theorem K8.ok(a):K8 (.ok a:ER A):=λk h=>by cases h
def K8.err(h:1<=j/\j<=8):K8 (.error j:ER A):=λk e=>by cases e;exact h
def K8.ite[Decidable p]{a b:ER A}(d:K8 a)(c:K8 b):K8 (if p then a else b):=by
 split
 ·exact d
 ·exact c
theorem K8.workAll {A:Type} {f:A->ER Int} (c:∀a,K8 (f a)):∀l,K8 (eB f l)
 | []=> .ok _
 | a::r=>λk h=>by
  unfold eB at h;cases e:f a with
  | error j=>rw [e] at h;cases h;exact c a k e
  | ok n=>
   rw [e] at h;dsimp only at h;cases b:eB f r with
   | error j=>rw [b] at h;cases h;exact K8.workAll c r k b
   | ok l=>rw [b] at h;cases h
theorem K8.scalarTwo {f:Int->Int->ER Int} (c:∀a b,K8 (f a b)) (x y:Arr):K8 (lP f x y):=by
 unfold lP;refine .ite (.err (by decide)) λk h=> ?_;have w:=K8.workAll (f:=λ(p:Nat×Nat)=>f (oF x p.1) (oF y p.2)) (λp=>c _ _) (jR x.shape y.shape);cases e:eB (λ(p:Nat×Nat)=>f (oF x p.1) (oF y p.2)) (jR x.shape y.shape) with
 | error j=>rw [e] at h;cases h;exact w k e
 | ok l=>rw [e] at h;cases h
def Be(n):K8 (eP n):= .ite (.ok _) (.err (by decide))
def sS(b):K8 (ga b):= .ok _
def iE{A:Type}[Decidable p]{f g}{o:Option A}(h:(if p then some g else o)=some f):g=f\/o=some f:=by
 split at h
 ·exact .inl (bw h)
 ·exact .inr h
def Cv{f:Int->Int->ER Int}(h:dj n=some f)(a b):K8 (f a b):=by
 unfold dj at h;rcases iE h with e | h
 ·subst e;exact Be _
 rcases iE h with e | h
 ·subst e;exact Be _
 rcases iE h with e | h
 ·subst e;exact Be _
 rcases iE h with e | h
 ·subst e;exact .ite (.err (by decide)) (.ok _)
 rcases iE h with e | h
 ·subst e;exact .ite (.err (by decide)) (.ok _)
 rcases iE h with e | h
 ·subst e;exact .ok _
 rcases iE h with e | h
 ·subst e;exact .ok _
 rcases iE h with e | h
 ·subst e;exact sS _
 rcases iE h with e | h
 ·subst e;exact sS _
 rcases iE h with e | h
 ·subst e;exact sS _
 rcases iE h with e | h
 ·subst e;exact sS _
 rcases iE h with e | h
 ·subst e;exact .ite (sS _) (.err (by decide))
 rcases iE h with e | h
 ·subst e;exact .ite (sS _) (.err (by decide))
 ·cases h
def KI(r:RU):Prop:=∀k,r= .error k->1<=k.natAbs/\k.natAbs<=8
theorem KI.ok(a):KI (.ok a):=λk h=>by cases h
def KI.err(h:1<=j.natAbs/\j.natAbs<=8):KI (.error j):=λk e=>by cases e;exact h
def KI.ite[Decidable p](d:KI a)(c:KI b):KI (if p then a else b):=by
 split
 ·exact d
 ·exact c
theorem KI.kinded {r:RU} (h:KI r):K8 (b_ r):=λk e=>by
 unfold b_ at e;cases r with
 | ok a=>cases e
 | error j=>cases e;exact h j rfl
theorem KI.sized (s:List Nat) (l:List Int):KI (jS s l):= .ite (.ok _) (.err (by decide))
theorem KI.ofItems (s:List Nat) (l:List (List Int)):KI (JR s l):= .sized _ _
def qM(h:fH x= .error k):1<=k.natAbs/\k.natAbs<=8:=by
 unfold fH at h;split at h
 ·cases h;decide
 ·split at h
  ·cases h;decide
  ·cases h
def NZ(h:iH x= .error k):1<=k.natAbs/\k.natAbs<=8:=by
 unfold iH at h;split at h
 ·cases h;decide
 ·split at h
  ·cases h;decide
  ·cases h
def LI(x y):KI (gd x y)/\KI (nF x y)/\KI (nG x y)/\KI (iz x y)/\KI (r_ x y)/\KI (kZ x y)/\KI (k_ x y)/\KI (jK x y)/\KI (oO x y):=by
 refine ⟨?_,?_,?_,?_,?_,?_,?_,?_,?_⟩
 ·unfold gd;cases e:iH x with
  | error k=>exact .err (NZ e)
  | ok s=>exact .ite (.ok _) (.err (by decide))
 ·unfold nF;cases e:fH x with
  | error k=>exact .err (qM e)
  | ok n=>exact .ite (.err (by decide)) (.ofItems _ _)
 ·unfold nG;cases e:fH x with
  | error k=>exact .err (qM e)
  | ok n=>exact .ofItems _ _
 ·unfold iz;cases e:fH x with
  | error k=>exact .err (qM e)
  | ok n=>exact .ite (.ok _) (.ok _)
 ·exact .ite (.err (by decide)) (.sized _ _)
 ·exact .ite (.err (by decide)) (.ite (.err (by decide)) (.ite (.err (by decide)) (.ok _)))
 ·exact .ite (.err (by decide)) (.ite (.err (by decide)) (.ok _))
 ·exact .ok _
 ·exact .ite (.err (by decide)) (.ite (.err (by decide)) (.ite (.err (by decide)) (.ite (.err (by decide)) (.ofItems _ _))))
def Fb:∀n∈fj,(dj n).isNone=true->n∈(["Reshape","Take","Drop","Rotate","Join","Pick","Find","Same","Keep"].map aE):=by decide+kernel
def LH(r:n∈fj)(x y):K8 (oj n x y):=by
 unfold oj;cases e:dj n with
 | some f=>exact K8.scalarTwo (Cv e) x y
 | none=>
  obtain ⟨q,o,m,l,k,j,i,h,d⟩:=LI x y;have c:=Fb n r (by rw [e];rfl);have st:∀{p:Prop} [Decidable p] {a b:ER Arr},K8 a->(¬p->K8 b)->K8 (if p then a else b):=λ{p _ a b} t s=>by
   by_cases z:p
   ·rw [if_pos z];exact t
   ·rw [if_neg z];exact s z
  refine st q.kinded λG=>st o.kinded λE=>st m.kinded λD=>st l.kinded λC=>st k.kinded λB=>st j.kinded λA=>st i.kinded λw=>st h.kinded λv=>st d.kinded λu=> ?_;simp only [dI,JY,aH,et,or_false] at c;rcases c with y | y | y | y | y | y | y | y | y<;>contradiction
def K8.bind{g:A->ER B}(h:K8 c)(k:∀a,K8 (g a)):K8 (c>>= g):=λj e=>by
 cases b:c with
 | error i=>
  rw [b] at e;have d:(Except.error i:ER B)= .error j:=e;cases d;exact h j b
 | ok a=>rw [b] at e;exact k a j e
section
variable {g:Arr→Arr→ER Arr}
theorem K8.runPairs (h:∀a b,K8 (g a b)):∀l,K8 (iQ g l)
 | []=> .ok _
 | a::r=> .bind (h a.1 a.2) λb=> .bind (K8.runPairs h r) λl=> .ok _
theorem K8.foldCells (h:∀a b,K8 (g a b)):∀l a,K8 (gc g a l)
 | [],a=> .ok _
 | c::r,a=> .bind (h a c) λb=>K8.foldCells h r b
theorem K8.scanCells (h:∀a b,K8 (g a b)):∀l a,K8 (ck g a l)
 | [],a=> .ok _
 | c::r,a=> .bind (h a c) λb=> .bind (K8.scanCells h r b) λl=> .ok _
theorem K8.gather (a:List Nat) (zero:Unit->ER Arr) (b:List Arr):K8 (hZ dq a zero b):=by
 rw [XJ];exact .ite (.err (by decide)) (.ite (.err (by decide)) (.ok _))
end
theorem two_k(d:n∈fj):∀(b:List Mod) (x y:Arr),K8 ((HG n b).two x y)
 | [],x,y=>LH d x y
 | q::r,x,y=>by
  have a:=two_k d r;cases q with
  | fold=>exact K8.foldCells a _ x
  | scan=>
   show K8 (kY dq (HG n r).two x y);unfold kY;cases gb y with
   | nil=>exact .ok _
   | cons c l=>exact .bind (K8.scanCells a (c::l) x) λl=> .gather _ _ _
  | table=>exact .ite (.err (by decide)) (.bind (K8.runPairs a _) λe=> .gather _ _ _)
  | swap=>exact a y x
  | at_ k=>exact .ite (.err (by decide)) (.bind (K8.runPairs a _) λe=> .gather _ _ _)
def runL{A:Type}(f:A->ej Arr):List A->ej (List Arr)
 | []=>pure []
 | a::r=>do
  let b <-f a;let l <-runL f r
  pure (b::l)
theorem sU(f):∀l,iQ f l=runL (λp=>f p.1 p.2) l
 | []=>rfl
 | a::r=>by
  show (f a.1 a.2>>= λb=>iQ f r>>= λl=>pure (b::l))=_;rw [sU f r];rfl
def pV(f)(a)(r:List A)(n):runL f (a::r) n=bC (f a n) λb m=>bC (runL f r m) λl m=> .ok (b::l,m):=by
 show (f a>>= λb=>runL f r>>= λl=>pure (b::l)) n=_;rw [bindC];congr 1;funext b m;rw [bindC];rfl
theorem yj(f):∀(c b:List A) (n:Nat),runL f (c++b) n=bC (runL f c n) λx m=>bC (runL f b m) λy m=> .ok (x++y,m)
 | [],b,n=>by
  show runL f b n=bC (.ok ([],n)) _;rw [XW];cases runL f b n<;>rfl
 | a::c,b,n=>by
  rw [gi,pV,pV];cases f a n with
  | error k=>rfl
  | ok x=>
   rw [XW,XW,yj f c b x.2];cases runL f c x.2 with
   | error k=>rfl
   | ok z=>
    rw [XW,XW,XW];cases runL f b z.2<;>rfl
def runL_step{a:A}(h:runL f (l.take i) n= .ok (j,m))(e:l[i]? =some a)(o:l.take (i+1)=l.take i++[a]):
  (∀b c,f a m= .ok (b,c)->runL f (l.take (i+1)) n= .ok (j++[b],c))/\∀k,f a m= .error k->runL f l n= .error k:=by
 constructor
 ·intro b c q;rw [o,yj,h,XW,pV,q];rfl
 ·intro k p;have d:l=l.take i++a::l.drop (i+1):=by
   conv=>lhs;rw [<-dD i l]
   rw [fC (aY.mp e).1,(aY.mp e).2]
  rw [d,yj,h,XW,pV,p];rfl
def eachC{A:Type}(f:A->ej Arr)(a:List Nat)(c:List A)(z:A):ej Arr:=runL f c>>= λb=>hZ dP a (λ_=>f z) b
def eachC_eq{p:A->ER Arr}(h:∀a,Prj (f a) (p a))(b)(d)(z)(n):eachC f b d z n=bC (runL f d n) λc m=>(hZ dq b (λ_=>p z) c).map λa=>(a,m):=by
 unfold eachC;rw [bindC];congr 1;funext c m;exact XY (h z) c m
end OneM
open OneM renaming eachC->Yg
namespace Rx
open PySem PyProof.Rows
section
variable {M:Wg} {A:gt} {E:al→aK→Prop} {h:cz} {g:Array KS} {d:Wi} {t:Nat} {os:gQ}
abbrev Sd:List al:=[.type "Exception",.type "BaseException",.type "object"]
def MF(h:cz)(C:af):Prop:=∃f q N o b e sub p c n m l k j i a,h.get? C=some (iZ f q C N o Sd b e sub p c n m l k j i a)
def EG(x:MF h C)(k:Q true ⟨h,g,d,t,os⟩):bj M A (RJ (.ref C)) Q E ⟨h,g,d,t,os⟩:=by
 obtain ⟨j,q,N,s,c,i,sub,u,f,r,p,o,n,m,l,a,b⟩:=x;have e:(bO C::Sd).contains (.type "BaseException")=true:=by rw [lS];rfl
 unfold RJ
 repeat (first | with_reducible refine h_ b ?_ | (with_reducible refine mC b ?_;rw [e]) | wp_step)
 exact k
theorem G4:∀(cs:List af) {Q:PUnit->aK->Prop},(∀c∈cs,MF h c)->Q () ⟨h,g,d,t,os⟩->
  bj M A (forIn (cs.map bO) MX λc r=>do
   if (!(<-RJ c))=true then
    OM "try.except-non-exception-class"
    raiseError "TypeError" "catching classes that do not inherit from BaseException is not allowed"
    pure (jn MX)
   else pure (jn MX)) Q E ⟨h,g,d,t,os⟩
 | [],Q,_,k=>bh k
 | c::r,Q,hc,k=>by
  rw [dI,pG]
  refine ak (ak (EG (hc c ar) ?_))
  rw [if_neg (by decide)]
  refine bh ?_
  exact G4 r (λd hd=>hc d (au _ hd)) k
theorem Bx(x:MF h C):∀(cs:List af) {Q:Option Bool×Unit->aK->Prop},C∈cs->Q (some true,()) ⟨h,g,d,t,os⟩->
  bj M A (forIn (cs.map bO) ((none,()):Option Bool×Unit) λc _=>do
   let b <-isSubtype (.ref C) c
   if b=true then pure (W6 (some true,())) else pure (jn (none,()))) Q E ⟨h,g,d,t,os⟩
 | [],Q,m,_=>by cases m
 | c::r,Q,m,k=>by
  obtain ⟨nm,q,N,bs,hdct,sn,sub,ab,col,dd,k0,k1,k2,k3,k5,newId,hC⟩:=id x
  rw [dI,pG]
  refine ak (ak (mC hC ?_))
  by_cases z:c=C
  ·rw [show (bO C::Sd).contains (.ref c)=true by simp [z],if_pos rfl]
   exact bh (bh k)
  ·rw [show (bO C::Sd).contains (.ref c)=false by simp [z],if_neg (by decide)]
   refine bh ?_
   exact Bx x r ((aH.mp m).resolve_left λy=>z y.symm) k
def EE{a:List af}(q:V8 h m (a.map bO).toArray)(b:∀c∈a,MF h c)(r:h.get? e=some p)(w:p.cls= .ref C)(j:C∈a)(k:Q true ⟨h,g,d,t,os⟩):
  bj M A (KD (.ref e) (.ref m)) Q E ⟨h,g,d,t,os⟩:=by
 obtain ⟨o,i,f,n,u⟩:=q;unfold KD;refine ak (Ti ⟨o,i,f⟩ isSubtype_tuple_tuple ?_);dsimp only;rw [if_pos rfl];refine ak (lF i u ?_);dsimp only [Option.getD_some,Option.getD];refine ak (bh (ak (G4 a b (ak ?_))));have l:bj M A (typeOf (.ref e)) (λv s=>v= .ref C/\s=⟨h,g,d,t,os⟩) E ⟨h,g,d,t,os⟩:=by
  repeat (first | (with_reducible refine h_ r ?_;rw [w]) | wp_step)
  exact ⟨rfl,rfl⟩
 refine ft l (λv s ⟨x,y⟩=> ?_) λ_ _ z=>z;subst x y;exact ak (Bx (b C j) a j (bh k))
end
end Rx
namespace L2
open PySem PySem.Spec PyProof.Rows Rx
def Ku(n:Nat)(D:Wq)(Cs:List af)(t1:TS):XK:=λC b H=>(∃c∈Cs,C= .ref c)/\∀a,H a=none->t1 (wW D) (WM n) (upd H a (.tup (Cs.map WA)))
def Qs(n:Nat)(Cs:List af)(t1:TS)(tb:XK->TS):TS:=λD a H=>tb (Ku n D Cs t1) D a H
theorem zJ:∀{a:List af} {us:List al},Wn (a.map WA) us->us=a.map bO
 | [],_,.nil=>rfl
 | c::r,_,.cons h t=>by
  have b:_=bO c:=h;rw [b,zJ t];rfl
section
variable {X:Cx}
def Inv.touch{t:St}(I:Inv X pins t H s)(k:∀b o,b≠T->s.heap.get? b=some o->g.get? b=some o)(tt:∀b o,s.heap.get? b=some o->∃h,g.get? b=some h)(L:X.s_0.heap.get? T=none)(Q:H T=none)(U:T≠X.env.locals)(C:∀x c,X.env.cells.lookup x=some c->c≠T)(N:∀p∈X.pn++pins,p.1≠T):Inv X pins t H {s with heap:=g}:=by
 have a:∀b o,X.s_0.heap.get? b=some o->b≠T:=λb o e z=>by rw [z,L] at e;cases e
 have f:∀b o,H b=some o->b≠T:=λb o e z=>by rw [z,Q] at e;cases e
 have A:∀c v,c≠T->s.heap.IsCell c v->g.IsCell c v:=λc v n ⟨o,e,r⟩=>⟨o,k _ _ n e,r⟩
 refine ⟨I.ok,I.os,I.bare,⟨λb o e n j d=>k _ _ (a b o e) (I.base.keep b o e n j d),λb o e n j d=> ?_,I.base.free,λb o e d=> ?_,I.base.tups,I.base.frzs,I.base.tbls⟩,?_,λx c e=> ?_,I.free,I.freeC,λp B=> ?_,λb u e=> ?_,I.len⟩
 ·obtain ⟨E,y⟩:=I.base.slot b o e n j d;exact ⟨E,k _ _ (a b o e) y⟩
 ·obtain ⟨h,y⟩:=I.base.there b o e d;exact ⟨h,k _ _ (a b o e) y⟩
 ·obtain ⟨m,⟨o,Y,n,e,r⟩,O⟩:=I.loc;refine ⟨m,⟨o,Y,n,k _ _ (dO U) e,r⟩,λi x v a1 a2 a3=> ?_⟩;obtain ⟨u,G,M⟩:=O i x v a1 a2 a3;refine ⟨u,G,?_⟩;rcases M with y | ⟨y,c,w,D⟩
  ·exact .inl y
  ·exact .inr ⟨y,c,w,A _ _ (C x c w) D⟩
 ·obtain ⟨v,y⟩:=I.cell x c e;exact ⟨v,A _ _ (C x c e) y⟩
 ·obtain ⟨J,r⟩:=I.pin p B;exact ⟨k _ _ (N p B) J,r⟩
 ·refine (I.hok b u e).stay (λc v l q=>k c v ?_ q) (λ_ q=>q) λ_ _ q=>q;rcases l with z | z
  ·rw [z];exact f b u e
  ·exact f c _ z
variable {pos p qq:Pos} {kk:Nat} {body br:List dm} {b0:dm} {tb:XK→TS} {es:List eM} {Cs:List af} {t1:TS} {tA:TA}
def LZ(a4:X.stack=X.env::X.outer)(d7:X.env.frame=some X.env.locals)(hex:X.ex=[])(hX:∀c∈Cs,∃N,XC X.K c N)(hs:∀(e:af) (pn:List (af×Obj)),PA (X.hd e pn) es tA)(hA:∀σ H Q,Q (Cs.map WA) H->tA σ H Q)(hl:Cs.length<=1000)(d0:∀(e:af) (pn:List (af×Obj)),HR (X.hd e pn) (b0::br) t1)(A:∀(pn:List (af×Obj)) (Ev:al->aK->Prop) (Ex:XK),ge (CXE X.prog X.w) (X.tr pn Ev) Ex->HR (X.tr pn Ev) body (tb Ex)):
  PS X (.Try body [.ExceptHandler (some (.Tuple es kk p)) none (b0::br) qq] [] [] pos) (Qs X.N.length Cs t1 tb):=by
 intro i s σ H D I h;refine Tn ?_;have PP:ge (CXE X.prog X.w) (X.tr (X.pn++i) (λev s1=>bj (bP X.prog X.w) X.A (iK ev X.env) (λ_ s2=>bj (bP X.prog X.w) X.A (AN ev none) (λ_ s3=>
   bj (bP X.prog X.w) X.A (V1 ev X.env [.ExceptHandler (some (.Tuple es kk p)) none (b0::br) qq]) (SP X i D) X.xe s3) X.xe s2) X.xe s1)) (Ku X.N.length D Cs t1):=by
  intro e8 j H1 s1 ev s2 l hx;obtain ⟨e,C,dx,T,B,rfl,os,a0,un,a5,ne,nT,he,hT,fl,q⟩:=hx;obtain ⟨r,gg,dd,tk,oo⟩:=s2;have I2:=l.call' (s':=⟨r,gg,dd,tk,oo⟩) (ch:=[]) os un a5 a0 (λb z=>absurd z (by simp));have d1:tT X.stack=(X.env::X.outer).filterMap (·.frame):=by rw [a4];rfl
  have d4:X.A.frames=some (X.env::X.outer):=by rw [<-a4];exact l.ok.frames
  have d6:r.FunFrames X.base (X.env::X.outer):=by rw [<-a4];exact I2.stack
  show bj (bP X.prog X.w) X.A (iK (.ref e) X.env) _ _ _;refine xt (base:=X.base) d4 d6 d7 fl λg1 k c8 a9 e3=> ?_;have t:s1.heap.get? k=none:=by
   cases z:s1.heap.get? k with
   | none=>rfl
   | some o=>
    obtain ⟨o',y⟩:=un.there k o z (by simp);have a6:r.get? k=none:=a9;have y':r.get? k=some o':=y;rw [a6] at y';cases y'
  have e5:∀b∈[e,T,k],s1.heap.get? b=none:=λb A=>by
   simp only [aH,et,or_false] at A;rcases A with z | z | z<;>rw [z]<;>assumption
  have d9:B k=none:=a5.gone a9;have e6:∀b∈[e,T,k],B b=none:=λb A=>by
   simp only [aH,et,or_false] at A;rcases A with z | z | z<;>rw [z]<;>assumption
  have mk:∀g:cz,Moved (tT X.stack) [e,T,k] r g->Inv X i j B ⟨g,gg,dd,tk,oo⟩:=λg mv=>
   (l.call' (s':=⟨g,gg,dd,tk,oo⟩) (ch:=[]) os (WL un mv (λ_ _ _ y=>y) e5) (a5.moved mv I2.stkFree e6) a0 (λb z=>absurd z (by simp))).of_tr
  have b4:Moved (tT X.stack) [e,T,k] r g1:=by
   rw [d1];exact c8.mono (λ_ z=>z) λb A=>by
    simp only [aH,et,or_false] at A ⊢;rcases A with z | z
    ·exact .inl z
    ·exact .inr (.inl z)
  have c4:∀{g g':cz},Moved (tT X.stack) [e,T,k] r g->(∀b o,b≠k->g.get? b=some o->g'.get? b=some o)->(∀b o,g.get? b=some o->∃o',g'.get? b=some o')->Moved (tT X.stack) [e,T,k] r g':=λ{g g'} mv kk tt=>
   mv.trans ((so (fs:=tT X.stack) kk tt).mono (λ_ z=>z) λb A=>by rw [aL.mp A];simp)
  refine landed e3 λg2 k2 b8 e2=> ?_;have c7:=c4 b4 k2 b8;have I3:=mk g2 c7;have M:∀{g:cz} {G:Obj} {vs:Array al},Inv X i j B ⟨g,gg,dd,tk,oo⟩->g.get? e=some G->G.data= .fields vs->∀p∈(e,G)::(X.pn++i),g.get? p.1=some p.2/\B p.1=none/\p.1≠X.env.locals/\p.1∉X.fs/\∀v,p.2.data≠.cell v:=λ{g G vs} J z1 z2 p w=>by
   rcases aH.mp w with y | y
   ·subst y;refine ⟨z1,he,λz=> ?_,λz=> ?_,λv z=>by rw [z2] at z;cases z⟩
    ·have:=l.lt;obtain ⟨m,⟨o,es,ep,O,_⟩,_⟩:=l.loc;have z':e=X.env.locals:=z;rw [z'] at ne;rw [ne] at O;cases O
    ·obtain ⟨_,o,O,_⟩:=l.funs.mem z;rw [ne] at O;cases O
   ·exact J.pin p y
  have ex:∀{g:cz} {fv:al} {T':af},EJ g e C dx T' fv->∃G vs,g.get? e=some G/\G.cls=C/\G.dict=dx/\G.data= .fields vs:=λ⟨G,vs,_,_,a,b,c,d,_⟩=>⟨G,vs,a,b,c,d⟩
  obtain ⟨⟨cE,d8,e4⟩,q⟩:=q;subst e4;obtain ⟨L,b6,Y,b7,a2,c2,d2,f2,w2,aT,fT,w3,c6⟩:=id e2;have lT:k≠X.env.locals:=λz=>by
   obtain ⟨m,⟨o,en,n,O,_⟩,_⟩:=l.loc;have b1:s1.heap.get? X.env.locals=some o:=O;rw [<-z,t] at b1;cases b1
  have e0:k∉X.fs:=λz=>by
   obtain ⟨_,o,O,_⟩:=l.funs.mem z;rw [t] at O;cases O
  have b2:∀p∈(e,L)::(k,Y)::(X.pn++i),g2.get? p.1=some p.2/\B p.1=none/\p.1≠X.env.locals/\p.1∉X.fs/\∀v,p.2.data≠.cell v:=λp w=>by
   rcases aH.mp w with y | y
   ·exact M I3 a2 f2 p (by rw [y];exact ar)
   ·rcases aH.mp y with y | y
    ·subst y;exact ⟨aT,d9,lT,e0,λv z=>by rw [fT] at z;cases z⟩
    ·exact M I3 a2 f2 p (au _ y)
  have e7:Inv (X.hd e ((e,L)::(k,Y)::(X.pn++i))) [] (WM X.N.length) B ⟨g2,gg,dd,tk,oo⟩:=I3.to_hd b2;refine QQ (P5 ?_) (by intro z;cases z);refine ft (zP (x1:=kk) (pos:=p) (hs e _) [] _ _ B (λv U=>∃E,v= .ref E/\B E=none/\U=upd B E (.tup (Cs.map WA))) e7 (hA _ _ _ ⟨by rw [am];exact ii (jx hl),λE a1=>⟨E,rfl,a1,rfl⟩⟩)) (λu s5 z5=> ?_) λ_ _ z=>z.elim;obtain ⟨v5,H5,J,b9,E,rfl,a1,rfl⟩:=z5;obtain rfl:u=bO E:=b9;obtain ⟨h5,g5,d5,t5,o5⟩:=s5;obtain ⟨a8,_⟩:=J.pin (e,L) (by simp);obtain ⟨c1,c0,_⟩:=J.pin (k,Y) (by simp);have ow:∀c∈Cs,MF h5 c:=λc hc=>by
   obtain ⟨N,xc⟩:=hX c hc;obtain ⟨f6,f5,g8,f4,e9,g9,f0,g7,g4,g0,f9,f8,f7,c9⟩:=xc.obj;exact ⟨_,_,_,_,_,_,_,_,_,_,_,_,_,_,_,_,J.kIn _ _ c9⟩
  obtain ⟨_,g6,vl,a7⟩:=J.hok E _ ao;rw [zJ vl] at a7;refine EE a7 ow a8 c2 d8 ?_;refine OO (landed (T:=k) (fl:= .none) ⟨L,b6,Y,b7,a8,c2,d2,f2,w2,c1,fT,w3,c6⟩ λg3 k3 t3 e1=> ?_);obtain ⟨c5,f1,_,_,a3,c3,d3,f3,_⟩:=id e1;have Ix:Inv X i (WM X.N.length) (upd B E (.tup (Cs.map WA))) ⟨h5,g5,d5,t5,o5⟩:=J.of_hd I3.ok λp w=>au _ (au _ w);have I4:=Ix.touch k3 t3 (iT l hex t) c0 lT (λx c ec z=>by
   obtain ⟨v,o,y,_⟩:=l.cell x c ec;rw [z,t] at y;cases y) (λp w z=>by
   have:=(I3.pin p w).1;have y:=(l.of_tr.pin p w).1;rw [z,t] at y;cases y)
  have b3:∀p∈(e,c5)::(X.pn++i),g3.get? p.1=some p.2/\(upd B E (.tup (Cs.map WA))) p.1=none/\p.1≠X.env.locals/\p.1∉X.fs/\∀v,p.2.data≠.cell v:=λp w=>by
   rcases aH.mp w with y | y
   ·subst y;obtain ⟨_,y2,y3,y4,_⟩:=J.pin (e,L) (by simp);exact ⟨a3,y2,y3,y4,λv z=>by rw [f3] at z;cases z⟩
   ·exact I4.pin p y
  refine Vp (gL (d0 e _ [] _ _ _ (wW D) (I4.to_hd b3) (q E a1)) λf s6 z=> ?_);cases f with
  | ret u=>
   obtain ⟨v,b5,H5,I5,rv,z⟩:=z;exact ⟨v,b5,H5,I5.of_hd I4.ok λp w=>au _ w,rv,z⟩
  | next=>obtain ⟨_,_,_,z⟩:=z;exact dn z
  | brk=>obtain ⟨_,_,_,z⟩:=z;exact dn z
  | cont=>obtain ⟨_,_,_,z⟩:=z;exact dn z
 refine ft (A _ _ _ PP [] s σ H D I.to_tr h) (λf s1 q=> ?_) (λ_ _ z=>z);cases f with
 | next=>
  obtain ⟨j,U,l,q⟩:=q;exact mZ ⟨j,U,l.of_tr,q⟩
 | brk=>
  obtain ⟨j,U,l,q⟩:=q;exact ⟨j,U,l.of_tr,q⟩
 | cont=>
  obtain ⟨j,U,l,q⟩:=q;exact ⟨j,U,l.of_tr,q⟩
 | ret u=>
  obtain ⟨v,j,U,l,rv,q⟩:=q;exact ⟨v,j,U,l.of_tr,rv,q⟩
end
def Bg(P:be)(w:bN)(K:ac)(mg:Str->Option al)(base:cz)(CX:AK)(k:Nat)(E:XK)(i:Nat)(t:TA):TE:=λa H Q=>∃g sp b ps,a[i]? =some (some (.ref g))/\Wz P w K mg base CX k g b ps sp/\Binds K b ps []/\FnH H g/\t a H λd c=>FnH c g/\sp (d++[]) c Q E
def pC{K}(n:Wy k X.A)(z:X.N[i]? =some x)(m:Ms X.env.scope x)(j:ge CX X E)(v:PA X (e::es) t)(y:X.prog=P:=by rfl)(l:X.w=w:=by rfl)(A:X.K=K:=by rfl)(o:X.mg=mg:=by rfl)(u:X.base=base:=by rfl)(c:(x==("__debug__":Str))=false:=by decide)(d:(x==("__classdict__":Str))=false:=by decide)(r:bx (e::es) X.env=(false,eval e X.env)::bx es X.env:=by rfl)(b:(fV pos (bx es X.env)).any (·.1)=false:=by rfl):PE X (.Call (.Name x p) (e::es) [] pos) (Bg P w K mg base CX k E i t):=by
 subst y l A o u;intro a s f H Q I h;obtain ⟨g,sp,M,ps,L,J,D,C,B⟩:=h;exact Fy (ps:=ps) n z m j v c d r b a s f H Q I ⟨g,sp,M,L,J,D,C,B⟩
structure PkB (P:be) (w:bN) (K:ac) (mg:Str→Option al) (G:cz→Prop) (k:Nat) (nm:Str) (ps:List Str) (sp:cz→Sp):Prop where
 ex:∃f fd,mg nm=some (.ref f)∧bq K (.ref f)=true∧Binds K fd ps []∧∀base,G base→Wz P w K mg base (CXE P w) k f fd ps (sp base)
section
variable {X:Cx} {G:cz→Prop} {k kk:Nat} {nm:Str} {ps:List Str} {sp:cz→Sp} {e:eM} {es:List eM} {t:TA} {p pos:Pos} {E:XK} {base:cz}
def zQ(C:PkB X.prog X.w X.K X.mg G k nm ps sp)(n:G X.base)(h:Wy kk X.A)(g:ge (CXE X.prog X.w) X E)(o:PA X (e::es) t)(j:k<=kk)(r:X.base=base:=by rfl)(l:Gl X nm:=by rfl)(c:(nm==("__debug__":Str))=false:=by decide)(m:bx (e::es) X.env=(false,eval e X.env)::bx es X.env:=by rfl)(a:(fV pos (bx es X.env)).any (·.1)=false:=by rfl):
  PE X (.Call (.Name nm p) (e::es) [] pos) (wx (sp base) [] E t):=by
 subst r;obtain ⟨f,s,i,b,d,F⟩:=C.ex;exact fZ (F _ n) (h.mono j) l i b d .nil g o c m a
end
end L2
namespace Rk
open PySem PySem.Spec PyProof.Rows L2 Rx
open Vaarrb (Arr)
open Vaarrc (Counted)
def _root_.L2.PkB.of{K}{st}(D:Dx K mg nm st ps)(h:∀f a,Fun K nm nm st f a->∀base,G base->Wz P w K mg base (CXE P w) k f a ps (sp base)):PkB P w K mg G k nm ps sp:=by
 obtain ⟨f,a,D⟩:=D;exact ⟨f,a,D.at_,D.fn.kp,D.bd,h f a D.fn⟩
theorem GJ:∀{l:List (List Int)},(∀d∈l,d.length<=c)->l.flatten.length<=l.length*c
 | [],_=>by simp
 | d::r,h=>by
  have f:=h d ar;have b:=GJ λe a=>h e (au _ a);rw [fP,bp,aF,eY,dF];omega
def sI(b s:List Nat)(c:List Arr):Except Nat Arr:=if c.all (λa=>a.shape==s)=false then .error 1 else if aQ (b++s)=false then .error 6 else .ok {shape:=b++s,data:=c.flatMap λa=>a.data}
def sv(CA:af)(q:Nat->af×af):Sp:=λh H Q E=>∃(f d g:af) (a s:List Nat) (c:List af) (b:List Arr),h=[.ref f,.ref d,.ref g]/\H f=some (.lst (tv a))/\H d=some (.lst (tv s))/\H g=some (.lst (c.map WA))/\Y6 CA H c b/\
 (∀r∈b,r.ok=true)/\a.length<=10/\s.length<=5/\(∀e∈a++s,e<=1024)/\b.length<=1024/\RA CA q H (sI a s b) Q E
section
variable {P:be} {w:bN} {K:ac} {mg:Str→Option al} {G:cz→Prop} {CA CY:af} {q:Nat→af×af} {W:Hp→Prop}
def pQ:WB ["frame","shape","answers","answer"] ["frame","shape","answers"] (aA sO):=⟨rfl,rfl,rfl,by decide+kernel,rfl,by decide+kernel,by decide+kernel⟩
def Cg(A:Ars K mg CA q)(M:MkA P w K mg CA)(D:Dx K mg "gathered" sO ["frame","shape","answers"])(ks:Pk P w K mg G 3 "sized" ["extents"] (nP K q))(kj:Pk P w K mg G 1 "joined" ["pieces"] ug):Pk P w K mg G 4 "gathered" ["frame","shape","answers"] (sv CA q):= .of D λf fd F base hb=>by
 refine F.okX pQ (λvs H Q E h=> ?_) (λa4 A' a2 s H vs Q E hr h=> ?_)
 ·obtain ⟨lf,ls,I,b,l,xs,m,rfl,_⟩:=h;rfl
 ·obtain ⟨lf,ls,I,b,l,xs,m,rfl,hf,hs,ha,hA,a0,a3,l5,sm,lr,h1,h2⟩:=h;refine ⟨_,ay (my vT rfl (ik (pv 2)) (fg (i:=3) pQ.nd rfl (bz rfl)) (az (ee (cU (Do hr.units) (de A (pv 3)) (pv 1) (dA _)) (az (eK rfl rfl A.an.t4.xc A.i4 rfl A.an.t4.at_ ig)) cB)))
   (az (bn (jh A M hr (aa (ci ks hb hr eO (aa (d_ lE (pv 0) (pv 1)) aw)) (aa (ci kj hb hr cw (aa (yy (own:=[("answer",3)]) rfl pQ.nd (ik (pv 2)) (jt (by first | rfl | kernel_rfl)) (λ_ _ _ _ _=>fg (i:=3) pQ.nd rfl (bz rfl)) (λ_ _ _ _ _=>mx)
    (λ_ _ _ _ _=>fw A (pv 3))) aw)) aw))))),?_⟩
  have lx:=hA.len;refine ⟨_,rfl,I,rfl,⟨_,eR ha⟩,kW (K:=K) (a:=I) (xs:=xs.map WA) (λi U y=>∃v3,U=[some (.ref lf),some (.ref ls),some (.ref I),v3]/\y=H/\∀r∈m.take i,r.shape=l) ⟨none,rfl,rfl,by simp⟩ (λi U y _ ⟨_,_,e,_⟩=>by rw [e];exact eR ha) ?_ ?_⟩
  ·rintro i v U y hi ⟨v3,rfl,rfl,j⟩;obtain ⟨x,u,rfl⟩:=iU hi;obtain ⟨r,g,dx,C,n,r1,r2,r3⟩:=hA.get u;refine ⟨_,rfl,x,dx,C,n,rfl,r1,_,rfl,_,_,dpL (eR r2),dpL (eR hs),W_ _,W_ _,_,rfl,?_⟩;rw [X0];by_cases c:r.shape=l
   ·rw [show (r.shape==l)=true by rw [c];exact beq_self_eq_true _];refine rT ⟨_,rfl,rfl,λr' hm=> ?_⟩;rw [take_snoc g] at hm;rcases bV.mp hm with z | z
    ·exact j r' z
    ·rw [aL.mp z];exact c
   ·rw [show (r.shape==l)=false from beq_eq_false_iff_ne.mpr c];refine qa (h2 1 ?_ y (WH y));unfold sI;rw [if_pos];cases z:m.all (λa=>a.shape==l) with
    | false=>rfl
    | true=>exact absurd (beq_iff_eq.mp (eU.mp z r (bD g))) c
  ·rintro U y ⟨v3,rfl,rfl,j⟩;rw [am,lx,bH] at j;have all1:m.all (λa=>a.shape==l)=true:=eU.mpr λr g=>beq_iff_eq.mpr (j r g);refine ⟨_,rfl,_,rfl,lf,ls,_,_,rfl,rfl,hf,hs,by rw [dE,dE,cq];omega,λp hp=> ?_⟩;have er:tv b++tv l=tv (b++l):=bY.symm;rw [er];have s1:=WZ (o:= .lst (tv (b++l))) (WH y) hp;refine ⟨p,Vaarrb.ints (b++l),rfl,by rw [ij];exact eR ao,gO sm,λok L Y=> ?_,λN L Y=>h2 6 (by unfold sI;rw [if_neg (by rw [all1];exact λz=>nomatch z),if_pos (by rw [jf] at N;exact N)]) L (s1.trans Y)⟩;rw [jf] at ok;have B:=s1.trans Y;have O:=B _ _ ha;have a1:=hA.same B;refine ⟨_,rfl,I,rfl,⟨_,eR O⟩,λD hD=>pw (K:=K) (a:=I) (xs:=xs.map WA) (λi H3=>∃ps,H3=upd L D (.lst (ps.map WA))/\Pcs L ps ((m.map λa=>a.data).take i)) ⟨[],rfl,.nil⟩ (λi H3 _ ⟨_,e,_⟩=>by rw [e];exact (eR O).fresh hD) ?_ ?_⟩
   ·rintro i v H3 hi ⟨ps,rfl,J⟩;obtain ⟨x,u,rfl⟩:=iU hi;obtain ⟨r,g,dx,C,n,r1,r2,r3⟩:=a1.get u;have li:i<xs.length:=(aY.mp u).1;have hd:(m.map λa=>a.data)[i]? =some r.data:=by rw [bW,g];rfl
    have lp:ps.length<=i:=by rw [J.len,bQ];omega
    refine ⟨rfl,_,rfl,x,dx,C,n,rfl,by rw [aC (aU r1 hD)];exact r1,_,ao,by rw [am,cq];omega,ps++[n],?_,?_⟩
    ·rw [mw,bY];rfl
    ·rw [take_snoc hd];exact Pcs.snoc r3 J
   ·rintro H3 ⟨ps,rfl,J⟩;rw [am,lx,di (by rw [am];exact aO _)] at J;have s3:=WZ (o:= .lst (ps.map WA)) (WH L) hD;have fl:(m.map λa=>a.data).flatten=m.flatMap λa=>a.data:=rfl;refine ⟨D,ps,_,rfl,ao,J.same s3,?_,λH4 l4 s4 h4=>⟨p,l4,rfl,λH5 z dz s5 nz hz=>h1 _ (by unfold sI;rw [if_neg (by rw [all1];exact λz=>nomatch z),if_neg (by rw [ok];exact λz=>nomatch z)]) H5 z (B.trans (s3.trans (s4.trans s5))) ⟨dz,p,l4,hz,s5 _ _ (s4 _ _ (s3 _ _ (Y _ _ ao))),s5 _ _ h4⟩⟩⟩;have T:∀d∈m.map (λa=>a.data),d.length<=1024:=λd hd=>by
     obtain ⟨r,g,rfl⟩:=cR.mp hd;exact Xx (a0 r g)
    have:=GJ T;rw [am] at this;have:m.length*1024<=1024*1024:=gj _ lr;omega
end
open OneM (ER Prj K8 eachC runL toldOf)
structure Fa (CY:af) (W:Hp→Prop) (H H':Hp):Prop where
 k1:∀b o,H b=some o→stay CY o→H' b=some o
 k2:∀b dx fs,H b=some (.ins CY dx fs)→H' b=some (.ins CY dx fs)
 k3:W H→W H'
def Fa.fz(z:Fa CY W H d)(t):Fz CY W t H d:=⟨z.k1,λb c a e _=>z.k2 b c a e,z.k3⟩
def Fa.tl(z:Fa CY W H b)(h:Tl CY H t n):Tl CY b t n:=let ⟨a,e⟩:=h;⟨a,z.k2 _ _ _ e⟩
def Fz.fa(c:Wf W)(s:WG H a)(z:Fz CY W t a g)(n:H t=none):Fa CY W H g:=
 ⟨λb o e st=>z.k1 b o (s _ _ e) st,λb f d e=>z.k2 b f d (s _ _ e) (aU e n),λw=>z.k3 (c H a (λb h e=>s _ _ e) (λb o e=>s _ _ e) w)⟩
def Fa.lay(f:Wf W)(z:Fa CY W H d)(n:d D=none):Fa CY W H (upd d D o):=
 ⟨λb u e st=>by rw [aC (aU (z.k1 b u e st) n)];exact z.k1 b u e st,λb c a e=>by rw [aC (aU (z.k2 b c a e) n)];exact z.k2 b c a e,λw=>f.upd (λu e=>by rw [n] at e;cases e) (z.k3 w)⟩
def Pj{b:Type}(CA CY:af)(W:Hp->Prop)(q:Nat->af×af)(R:Hp->af->b->Prop)(ok:b->Prop)(f:b->ej Arr):Sp:=λc H Q E=>∃(x t:af) (a:b) (n:Nat),c=[.ref x,.ref t]/\R H x a/\ok a/\Tl CY H t n/\W H/\RT CA CY W q t H (f a n) Q E
def MM(P:be)(w:bN)(K:ac)(mg:Str->Option al)(base:cz)(c:Nat)(g:af)(sp:Sp):Prop:=∃b a,Wz P w K mg base (CXE P w) c g b a sp/\Binds K b a []
def LG{c:Type}(CY:af)(W:Hp->Prop)(R:Hp->af->c->Prop):Prop:=∀t H b x a,Fz CY W t H b->R H x a->R b x a
def K3(P:be)(w:bN)(K:ac)(mg:Str->Option al)(CA CY:af)(W:Hp->Prop)(q:Nat->af×af)(h:Nat)(base:cz):Sp:=λe H Q _=>∃(b:Type) (R:Hp->af->b->Prop) (ok:b->Prop) (f:b->ej Arr) (p:b->ER Arr) (g z:af) (c:b),e=[.ref g,.ref z]/\
 LG CY W R/\MM P w K mg base h g (Pj CA CY W q R ok f)/\FnH H g/\R H z c/\ok c/\W H/\(∀a,Prj (f a) (p a))/\K8 (p c)/\∀d l,Fa CY W H d->d l=some (.lst (tv (XH (p c))))->Q (.ref l) d
def Gb(P:be)(w:bN)(K:ac)(mg:Str->Option al)(CA CY:af)(W:Hp->Prop)(q:Nat->af×af)(o:Nat)(base:cz):Sp:=λm H Q E=>∃(d:Type) (R:Hp->af->d->Prop) (ok:d->Prop) (f:d->ej Arr) (p:d->ER Arr) (g k l z t:af) (b:List Nat) (j:List af) (i:List d) (h:d) (n:Nat),m=[.ref g,.ref k,.ref l,.ref z,.ref t]/\
 LG CY W R/\MM P w K mg base o g (Pj CA CY W q R ok f)/\FnH H g/\H k=some (.lst (tv b))/\H l=some (.lst (j.map WA))/\fW (R H) j i/\(∀c∈i,ok c)/\R H z h/\ok h/\Tl CY H t n/\W H/\(∀a,Prj (f a) (p a))/\K8 (p h)/\(∀a,ok a->Xr (p a))/\
 i.length<=1024/\b.length<=10/\(∀e∈b,e<=1024)/\RT CA CY W q t H (Yg f b i h n) Q E
section
variable {P:be} {w:bN} {K:ac} {mg:Str→Option al} {G:cz→Prop} {CA CY:af} {q:Nat→af×af} {W:Hp→Prop}
def NA:WB ["work","zeros"] ["work","zeros"] (aA oZ):=⟨rfl,rfl,rfl,by decide+kernel,rfl,by decide+kernel,by decide+kernel⟩
def NO(L:2<=B)(i:Wf W)(A:Ars K mg CA q)(Y:Tly P w K mg CY)(D:Dx K mg "told_shape" oZ ["work","zeros"]):PkB P w K mg G (B+1) "told_shape" ["work","zeros"] (K3 P w K mg CA CY W q B):= .of D λf fd F j hb=>by
 obtain ⟨fi,a0,mi,bi,Fi⟩:=Y.mi;refine F.okX NA (λvs H Q E h=> ?_) (λa4 A' N s H vs Q E U h=> ?_)
 ·obtain ⟨α,R,ok,f,p,g,z,d,rfl,_⟩:=h;rfl
 ·obtain ⟨α,R,ok,f,p,g,z,d,rfl,hR,⟨M,ps,Fg,bg⟩,fh,hz,C,hw,b,k8,hq⟩:=h;have J:Wy (1+1) _:=U.mono L;refine ⟨_,az (LZ (Cs:=[(q 4).1,(q 5).1,(q 6).1,(q 7).1,(q 8).1,(q 9).1,(q 10).1,(q 11).1]) (t1:=Kk (O4 qo)) (tb:=λEx=>Kk (MG CA (Bg P w K mg j (CXE P w) B Ex 0 (jP (qm 1) (jP (LQ CY (QW CY) [] E0 qo) qo))))) rfl rfl rfl ?hX
   (λe O=>aa (cg (v:= .ref (q 4).1) rfl A.an.t4.at_ rfl) (aa (cg (v:= .ref (q 5).1) rfl A.an.t5.at_ rfl) (aa (cg (v:= .ref (q 6).1) rfl A.an.t6.at_ rfl) (aa (cg (v:= .ref (q 7).1) rfl A.an.t7.at_ rfl)
    (aa (cg (v:= .ref (q 8).1) rfl A.an.t8.at_ rfl) (aa (cg (v:= .ref (q 9).1) rfl A.an.t9.at_ rfl) (aa (cg (v:= .ref (q 10).1) rfl A.an.ta.at_ rfl) (aa (cg (v:= .ref (q 11).1) rfl A.an.tb.at_ rfl) aw)))))))) (λσ H Q h=>h) (by show 8<=1000;decide)
   (λe O=>az (bn (eA aw)))
   (λO Ev Ex hp=>az (bn (de A (pC U rfl (bz rfl) hp (aa (pv 1) (aa (Dj mi (C7 Y Fi) J rfl Y.mY bi .nil cw) aw))))))),?_⟩
  case hX=>
   intro c hc;simp only [aH,et,or_false] at hc;rcases hc with y | y | y | y | y | y | y | y<;>subst y
   ·exact ⟨_,A.an.t4.xc⟩
   ·exact ⟨_,A.an.t5.xc⟩
   ·exact ⟨_,A.an.t6.xc⟩
   ·exact ⟨_,A.an.t7.xc⟩
   ·exact ⟨_,A.an.t8.xc⟩
   ·exact ⟨_,A.an.t9.xc⟩
   ·exact ⟨_,A.an.ta.xc⟩
   ·exact ⟨_,A.an.tb.xc⟩
  refine ⟨g,_,M,ps,rfl,Fg,bg,fh,_,rfl,λx dx u nd ne=>⟨x,dx,rfl,ao,λH1 h1 h2=>⟨rfl,?_⟩⟩⟩;have t:WG H H1:=WI u nd h2;have o:Fz CY W x H H1:=Yd i t;refine ⟨o.fnh fh,z,x,d,0,rfl,hR _ _ _ _ _ o hz,C,⟨dx,h1⟩,o.k3 hw,λa m e H' r n _ ⟨da,T,ld,a1,a2,a3⟩=> ?_,λk e H' n=> ?_⟩
  ·refine ⟨r,da,T,ld,rfl,a1,hq H' T (n.fa i t u) ?_⟩;rw [(b d).ok e];exact a2
  ·have kz:=k8 k ((b d).err e);refine ⟨⟨cls q k,?_,rfl⟩,λtp I=>⟨cy _,λl hl=> ?_⟩⟩
   ·have:k=1\/k=2\/k=3\/k=4\/k=5\/k=6\/k=7\/k=8:=by omega
    rcases this with y | y | y | y | y | y | y | y<;>(subst y;simp [cls])
   ·refine hq _ l (((n.fa i t u).lay i I).lay i hl) ?_;rw [ao,(b d).err e];rfl
def Arrs.off(h:Y6 CA H xs d)(e:H D=some (.frz i u)):Y6 CA (upd H D o) xs d:=Wp h λ_ _ ⟨g,f,ld,c,b,a⟩=>
 ⟨g,f,ld,by rw [aC (jr c e (λz=>nomatch z))];exact c,by rw [aC (jr b e (λz=>nomatch z))];exact b,by rw [aC (jr a e (λz=>nomatch z))];exact a⟩
def Cm(a)(zero:Unit->ER Arr)(b):hZ dq a zero b=sI a (XI zero b) b:=XJ a zero b
def pT{a:Arr}(h:a.ok=true):a.shape.length<=5/\∀e∈a.shape,e<=1024:=by
 have s:=((Xj a).mp h).1;exact ⟨((Xe _).mp s).1,λe b=>Xi s b⟩
def RT.ra(d:Wf W)(h:RT CA CY W q t H r Q E)(z:Fz CY W t H f)(tl:Tl CY f t m)(e:r=g.map λa=>(a,m)):RA CA q f g Q E:=by
 refine ⟨λa l c x b i=>h.1 a m (by rw [e,l];rfl) c x (z.trans (Yd d b)) ?_ i,λk j c b=>h.2 k (by rw [e,j];rfl) c (z.trans (Yd d b))⟩;obtain ⟨n,y⟩:=tl;exact ⟨n,b _ _ y⟩
def Gf:WB ["work","frame","cells","zeros","tally","answers","cell"] ["work","frame","cells","zeros","tally"] (aA qB):=⟨rfl,rfl,rfl,by decide+kernel,rfl,by decide+kernel,by decide+kernel⟩
def NS(d2:3<=kk)(hW:Wf W)(ne:CA≠CY)(A:Ars K mg CA q)(D:Dx K mg "work_each" qB ["work","frame","cells","zeros","tally"])(kg:Pk P w K mg G 4 "gathered" ["frame","shape","answers"] (sv CA q))(kt:PkB P w K mg G (kk+1) "told_shape" ["work","zeros"] (K3 P w K mg CA CY W q kk)):PkB P w K mg G (kk+2) "work_each" ["work","frame","cells","zeros","tally"] (Gb P w K mg CA CY W q kk):= .of D λf fd F base hb=>by
 refine F.okX Gf (λvs H Q E h=> ?_) (λd3 A' c8 s H vs Q E hr h=> ?_)
 ·obtain ⟨α,R,ok,f,p,g,lf,lc,z,t,j,xs,cs,M,n,rfl,_⟩:=h;rfl
 ·obtain ⟨α,R,ok,f,p,g,lf,lc,z,t,j,xs,cs,M,n,rfl,hR,⟨b8,ps,Fg,bg⟩,fh,hf,hc,hC,a9,hz,a7,tl,hw,a1,k8,a8,d1,b0,a6,hQ⟩:=h;have c4:Wy kk _:=hr.mono (by omega);refine ⟨_,ay (Fx (i:=5) (E:=E) (te:=Kl (Bg P w K mg base (CXE P w) kk E 0 (jP (qm 6) (jP (qm 4) qo)))) (own:=[("cell",6)]) Kt rfl rfl rfl rfl Gf.nd rfl rfl (Hn rfl rfl rfl rfl) (ik (pv 2)) (jt (by first | rfl | kernel_rfl))
    (λ_ _ _ _ _ _ _=>fg (i:=6) Gf.nd rfl (bz rfl)) (λ_ _ _ _ _ _ _=>mx) (λ_ _ _ _ _ _ _ hp=>M6 (pC c4 rfl (by first | exact bz rfl | exact jG (bz rfl) | exact jG (jG rfl)) hp (aa (pv 6) (aa (pv 4) aw)))))
   (ay (ee (cU lM (fy A.len (pv 5)) bR (dA _)) (az (bn (ci kg hb hr eO (aa (pv 1) (aa (zQ (base:=base) kt hb hr cw (aa (pv 0) (aa (pv 3) aw)) (aO _)) (aa (pv 5) aw))) (by omega)))) cB)
   (az (bn (ci kg hb hr eO (aa (pv 1) (aa (de A (iR gn (pv 5) bR (λ_ _=>rfl))) (aa (pv 5) aw))) (by omega))))),?_⟩
  have eq:=OneM.eachC_eq a1 j cs M n;have lx:=gG hC;refine ⟨_,rfl,lc,rfl,⟨_,eR hc⟩,λD hD=>pw (K:=K) (a:=lc) (xs:=xs.map WA) (λi J=>∃C m d,runL f (cs.take i) n= .ok (C,m)/\Fz CY W t H J/\Tl CY J t m/\J D=some (.lst (d.map WA))/\(∀o,Y6 CA (upd J D o) d C)/\(∀r∈C,r.ok=true)/\C.length=min i cs.length)
   ⟨[],n,[],rfl,Ye.lay hW hD (λu e=>by rw [hD] at e;cases e),?_,ao,λo=> .nil,by simp,by simp⟩ (λi J _ ⟨_,_,_,_,N,_⟩=>eR (N.lst hc)) ?_ ?_⟩
  ·obtain ⟨dx,e⟩:=tl;exact ⟨dx,by rw [aC (aU e hD)];exact e⟩
  ·rintro i v J hi ⟨C,m,d,I,N,⟨dt,b4⟩,B,hA,O,T⟩;obtain ⟨x,c6,rfl⟩:=iU hi;obtain ⟨c,L,c3⟩:=nq hC c6;have c9:i<cs.length:=(aY.mp L).1;obtain ⟨c2,c1⟩:=OneM.runL_step I L (take_snoc L);refine ⟨rfl,D,_,B,trivial,λod=> ?_⟩;have Y:Fz CY W t H (upd J D (.frz od (.lst (d.map WA)))):=N.lay hW hD λu e=>by rw [B] at e;cases e;exact ⟨(λ_ y=>nomatch y),(λ_ y=>nomatch y)⟩
   have a4:Tl CY (upd J D (.frz od (.lst (d.map WA)))) t m:=⟨dt,by rw [aC (jr b4 B (λy=>nomatch y))];exact b4⟩
   have b6:=hA (.frz od (.lst (d.map WA)));have b5:(upd J D (.frz od (.lst (d.map WA)))) D=some (.frz od (.lst (d.map WA))):=ao;generalize upd J D (.frz od (.lst (d.map WA)))=HL at Y a4 b6 b5 ⊢;refine ⟨g,_,b8,ps,rfl,Fg,bg,Y.fnh fh,_,rfl,_,rfl,Y.fnh fh,x,t,c,m,rfl,hR _ _ _ _ _ Y c3,a9 c (bD L),a4,Y.k3 hw,λb m2 e H4 r z4 c0 c5=> ?_,λk e H4 z4=> ?_⟩
   ·have U:=z4.frz b5;refine ⟨U,_,ao,?_,C++[b],m2,d++[r],c2 b m2 e,?_,?_,?_,λo=> ?_,?_,?_⟩
    ·have:=(hA (.lst [])).len;rw [am,this,T,cq];omega
    ·rw [mw];exact (Y.trans z4).lay hW hD λu e=>by rw [U] at e;cases e;exact ⟨(λ_ y=>nomatch y),(λ_ y=>nomatch y)⟩
    ·obtain ⟨d4,e4⟩:=c0;rw [mw];exact ⟨d4,by rw [aC (jr e4 U (λy=>nomatch y))];exact e4⟩
    ·rw [ao,bY];rfl
    ·rw [mw,mw];exact Arrs.off (Yb c5 (z4.arrs ne b6)) U
    ·intro r' hm;rcases bV.mp hm with y | y
     ·exact O r' y
     ·rw [aL.mp y];exact a8 c (a9 c (bD L)) b ((a1 c).ok e)
    ·rw [bp,iA,T];omega
   ·exact hQ.2 k (by rw [eq,c1 k e];rfl) H4 (Y.trans z4)
  ·rintro J ⟨C,m,d,I,N,a5,B,hA,O,T⟩;rw [am,lx,bH] at I;rw [am,lx,Nat.min_self] at T;rw [I] at eq;have b9:Yg f j cs M n=(sI j (XI (λ_=>p M) C) C).map λa=>(a,m):=by
    rw [eq,<-Cm];rfl
   have a2:d.length=C.length:=(hA (.lst [])).len;refine ⟨_,rfl,D,_,rfl,eR B,rfl,_,rfl,gp (λc=> ?_) λc=> ?_⟩
   ·have c':d=[]:=by
     have:=X1 (of_decide_eq_true c);rw [am] at this;exact cH.mp (by omega)
    subst c';have r0:C=[]:=cH.mp a2.symm;subst r0;refine ⟨_,rfl,_,rfl,_,rfl,α,R,ok,f,p,g,z,M,rfl,hR,⟨b8,ps,Fg,bg⟩,N.fnh fh,hR _ _ _ _ _ N hz,a7,N.k3 hw,a1,k8,λH5 l z5 h5=> ?_⟩;have a3:=N.trans (z5.fz t);have ts:(XH (p M)).length<=5/\∀e∈XH (p M),e<=1024:=by
     cases e:p M with
     | error k=>exact ⟨by show 0<=5;decide,λe he=>by cases he⟩
     | ok a=>exact pT (a8 M a7 a e)
    refine ⟨_,rfl,lf,l,D,j,XH (p M),[],[],rfl,a3.lst hf,h5,z5.k1 _ _ B trivial,.nil,by simp,b0,ts.1,λe he=> ?_,by simp,RT.ra hW hQ a3 (z5.tl a5) b9⟩;rcases bV.mp he with y | y
    ·exact a6 e y
    ·exact ts.2 e y
   ·obtain ⟨x0,xr,ex⟩:∃x0 xr,d=x0::xr:=by
     cases d with
     | nil=>exact absurd (decide_eq_true (by rfl)) c
     | cons a r=>exact ⟨a,r,rfl⟩
    obtain ⟨r0,rr,er⟩:∃r0 rr,C=r0::rr:=by
     cases C with
     | nil=>rw [ex] at a2;cases a2
     | cons a r=>exact ⟨a,r,rfl⟩
    have b7:Y6 CA J d C:=by
     have:=hA (.lst (d.map WA))
     rwa [CP B] at this
    obtain ⟨a0,ea,d0,l0,k0,b1,b2,b3⟩:=b7.get (i:=0) (p:=x0) (by rw [ex];rfl);have c7:a0=r0:=by rw [er] at ea;exact (bw ea).symm
    subst c7;have sh:=pT (O a0 (by rw [er];exact ar));refine ⟨_,rfl,_,rfl,D,_,((0:Nat):Int),.ref x0,rfl,rfl,eR B,f_ (by rw [ex];rfl),x0,d0,l0,k0,rfl,b1,_,rfl,lf,l0,D,j,a0.shape,d,C,rfl,N.lst hf,b2,B,b7,O,b0,sh.1,λe he=> ?_,by omega,RT.ra hW hQ N a5 ?_⟩
    ·rcases bV.mp he with y | y
     ·exact a6 e y
     ·exact sh.2 e y
    ·rw [b9];congr 2;rw [er];rfl
end
end Rk
namespace Rk
open PySem PySem.Spec PyProof.Rows L2 Rx
open Vaarrb (Arr)
open Vaarrc (Counted itemArrs foldCells scanCells)
open OneM (ER Prj K8 eachC runL toldOf bC)
def Pp(b c:cz):Prop:=∀a o,b.get? a=some o->c.get? a=some o
def Ro(CY:af)(W:Hp->Prop)(a:Hp->Prop):Prop:=∀t H b,Fz CY W t H b->a H->a b
def Il(CA CY:af)(W:Hp->Prop)(q:Nat->af×af)(d:Hp->Prop)(f:Arr->Arr->ej Arr):Sp:=λc H Q E=>∃(x y t:af) (a b:Arr) (n:Nat),c=[.ref x,.ref y,.ref t]/\d H/\Y5 CA H x a/\Y5 CA H y b/\a.ok=true/\b.ok=true/\Tl CY H t n/\W H/\RT CA CY W q t H (f a b n) Q E
def HasX(P:be)(w:bN)(K:ac)(mg:Str->Option al)(base:cz)(d:Nat)(g:af)(sp:Sp):Prop:=∃b a,(∀c,Pp base c->Wz P w K mg c (CXE P w) d g b a sp)/\Binds K b a []
def HasX.at_{K}(h:HasX P w K mg base c g sp):MM P w K mg base c g sp:=let ⟨d,a,F,b⟩:=h;⟨d,a,F base λ_ _ e=>e,b⟩
structure Wok (f:Arr→Arr→ej Arr) (p:Arr→Arr→ER Arr):Prop where
 prj:∀a b,Prj (f a b) (p a b)
 ok:∀a b,a.ok=true→b.ok=true→Xr (p a b)
 k8:∀a b,K8 (p a b)
def BM(P:be)(w:bN)(K:ac)(mg:Str->Option al)(CA CY:af)(W:Hp->Prop)(q:Nat->af×af)(e:Nat)(F:(Arr->Arr->ej Arr)->Arr->Arr->ej Arr)(base:cz):Sp:=λd H Q E=>∃(f:Arr->Arr->ej Arr) (p:Arr->Arr->ER Arr) (c:Hp->Prop) (g x y t:af) (a b:Arr) (n:Nat),d=[.ref g,.ref x,.ref y,.ref t]/\
 Wok f p/\Ro CY W c/\c H/\HasX P w K mg base e g (Il CA CY W q c f)/\FnH H g/\Y5 CA H x a/\Y5 CA H y b/\a.ok=true/\b.ok=true/\Tl CY H t n/\W H/\RT CA CY W q t H (F f a b n) Q E
def L3(CA:af):Sp:=λf H Q _=>∃(x:af) (a:Arr) (e:Nat) (s:List Nat),f=[.ref x]/\Y5 CA H x a/\a.ok=true/\a.shape=e::s/\∀b l c,WG H b->H l=none->b l=some (.lst (c.map WA))->ArrsN CA H b c ((cK a).map λd=>{shape:=cQ a,data:=d})->Q (.ref l) b
def BP(P:be)(w:bN)(K:ac)(mg:Str->Option al)(CA CY:af)(W:Hp->Prop)(q:Nat->af×af)(j:Nat)(base:cz):Sp:=λi H Q E=>∃(f:Arr->Arr->ej Arr) (p:Arr->Arr->ER Arr) (d:Hp->Prop) (g x h t:af) (a:Arr) (e:List af) (b:List Arr) (n:Nat),i=[.ref g,.ref x,.ref h,.ref t]/\
 Wok f p/\Ro CY W d/\d H/\MM P w K mg base j g (Il CA CY W q d f)/\FnH H g/\Y5 CA H x a/\a.ok=true/\H h=some (.lst (e.map WA))/\Y6 CA H e b/\(∀c∈b,c.ok=true)/\Tl CY H t n/\W H/\RT CA CY W q t H (gc f a b n) Q E
def yZ(P:be)(w:bN)(K:ac)(mg:Str->Option al)(CA CY:af)(W:Hp->Prop)(q:Nat->af×af)(s:Nat)(base:cz):Sp:=λr H Q E=>∃(f:Arr->Arr->ej Arr) (p:Arr->Arr->ER Arr) (e:Hp->Prop) (g x o t:af) (a:Arr) (i:List af) (d:List Arr) (n:Nat),r=[.ref g,.ref x,.ref o,.ref t]/\
 Wok f p/\Ro CY W e/\e H/\MM P w K mg base s g (Il CA CY W q e f)/\FnH H g/\Y5 CA H x a/\a.ok=true/\H o=some (.lst (i.map WA))/\Y6 CA H i d/\(∀c∈d,c.ok=true)/\d.length<=1024/\Tl CY H t n/\W H/\
 (∀j m,ck f a d n= .ok (j,m)->∀b l h,Fz CY W t H b->Tl CY b t m->b l=some (.lst (h.map WA))->Y6 CA b h (a::j)->Q (.ref l) b)/\∀k,ck f a d n= .error k->∀b,Fz CY W t H b->E (.ref (cls q k)) none b
theorem qZ(f:Arr->Arr->ej Arr):∀(e d:List Arr) (a:Arr) (n:Nat),gc f a (e++d) n=bC (gc f a e n) λb m=>gc f b d m
 | [],d,a,n=>rfl
 | c::e,d,a,n=>by
  rw [gi,XU,XU];cases f a c n with
  | error k=>rfl
  | ok x=>exact qZ f e d x.1 x.2
def F5{f:Arr->Arr->ej Arr}(h:gc f a (l.take i) n= .ok (b,m))(e:l[i]? =some c):
  (∀r d,f b c m= .ok (r,d)->gc f a (l.take (i+1)) n= .ok (r,d))/\∀k,f b c m= .error k->gc f a l n= .error k:=by
 constructor
 ·intro r d j;rw [take_snoc e,OneM.foldCells_snoc,h];exact j
 ·intro k o;have g:l=l.take i++c::l.drop (i+1):=by
   conv=>lhs;rw [<-dD i l]
   rw [fC (aY.mp e).1,(aY.mp e).2]
  rw [g,qZ,h,XW,XU,o];rfl
theorem qX(f:Arr->Arr->ej Arr):∀(d b:List Arr) (a:Arr) (n:Nat),ck f a (d++b) n=bC (ck f a d n) λx m=>bC (ck f (XX a x) b m) λy m=> .ok (x++y,m)
 | [],b,a,n=>by
  show ck f a b n=bC (.ok ([],n)) _;rw [XW];show _=bC (ck f a b n) _;cases ck f a b n<;>rfl
 | c::d,b,a,n=>by
  rw [gi,XV,XV];cases f a c n with
  | error k=>rfl
  | ok x=>
   rw [XW,XW,qX f d b x.1 x.2];cases ck f x.1 d x.2 with
   | error k=>rfl
   | ok z=>
    rw [XW,XW,XW,OneM.lastOr_cons];cases ck f (XX x.1 z.1) b z.2<;>rfl
def EO{f:Arr->Arr->ej Arr}(h:ck f a (l.take i) n= .ok (b,m))(e:l[i]? =some c):
  (∀r d,f (XX a b) c m= .ok (r,d)->ck f a (l.take (i+1)) n= .ok (b++[r],d))/\∀k,f (XX a b) c m= .error k->ck f a l n= .error k:=by
 constructor
 ·intro r d j;rw [take_snoc e,OneM.scanCells_snoc,h,XW,j];rfl
 ·intro k o;have g:l=l.take i++c::l.drop (i+1):=by
   conv=>lhs;rw [<-dD i l]
   rw [fC (aY.mp e).1,(aY.mp e).2]
  rw [g,qX,h,XW,XV,o];rfl
def Arrs.offL(h:Y6 CA H xs l)(e:H D=some (.lst ((f::d).map WA))):Y6 CA (upd H D o) xs l:=Wp h λ_ a ⟨p,g,ld,k,j,i⟩=>by
 have n:g≠D:=jr j e (λz=>by
  have b:tv a.shape=(f::d).map WA:=by injection z
  cases c:a.shape with
  | nil=>rw [c] at b;cases b
  | cons e s=>rw [c] at b;cases b)
 have m:ld≠D:=jr i e (λz=>by
  have b:iv a.data=(f::d).map WA:=by injection z
  cases c:a.data with
  | nil=>rw [c] at b;cases b
  | cons e s=>rw [c] at b;cases b)
 exact ⟨p,g,ld,by rw [aC (jr k e (λz=>nomatch z))];exact k,by rw [aC n];exact j,by rw [aC m];exact i⟩
section
variable {P:be} {w:bN} {K:ac} {mg:Str→Option al} {G:cz→Prop} {CA CY:af} {q:Nat→af×af} {W:Hp→Prop}
def Q4:WB ["y"] ["y"] (aA qE):=⟨rfl,rfl,rfl,by decide+kernel,rfl,by decide+kernel,by decide+kernel⟩
def Qi(A:Ars K mg CA q)(D:Dx K mg "own_cells" qE ["y"])(r:Pk P w K mg G 3 "cells_of" ["array","rank"] (vf CA)):Pk P w K mg G 4 "own_cells" ["y"] (L3 CA):= .of D λf O F j B=>by
 refine F.okX Q4 (λm H Q E h=> ?_) (λM T c s H m Q E v h=> ?_)
 ·obtain ⟨x,a,e,n,rfl,_⟩:=h;rfl
 ·obtain ⟨x,a,e,n,rfl,g,ok,i,y⟩:=h;obtain ⟨J,d,ld,t,u,N⟩:=id g;refine ⟨_,az (bn (ci r B v cw (aa (pv 0) (aa (d_ p_ (fy A.len (de A (pv 0))) bR) aw)))),?_⟩;have C:(((tv a.shape).length:Nat):Int) - 1=((a.shape.length - 1:Nat):Int):=by rw [dE,i,aF];omega
  refine ⟨_,rfl,_,rfl,x,J,d,ld,rfl,t,d,_,rfl,eR u,_,_,rfl,rfl,x,a,a.shape.length - 1,(by show [WA x,Wv ((((tv a.shape).length:Nat):Int) - 1)]=_;rw [C]),g,ok,by omega,λL l k o p z b=>y L l k o p z ?_⟩;have I:cZ a (a.shape.length - 1)=cQ a:=by
   unfold cZ cQ kO;congr 1;rw [i,aF];omega
  unfold wQ at b;rw [I] at b;exact b
def uk:WB ["work","start","cells","tally","so_far","cell"] ["work","start","cells","tally"] (aA x_):=⟨rfl,rfl,rfl,by decide+kernel,rfl,by decide+kernel,by decide+kernel⟩
def IV(ne:CA≠CY)(D:Dx K mg "folded" x_ ["work","start","cells","tally"]):PkB P w K mg G (kk+1) "folded" ["work","start","cells","tally"] (BP P w K mg CA CY W q kk):= .of D λf fd F base hb=>by
 refine F.okX uk (λvs H Q E h=> ?_) (λa5 A' a4 s H vs Q E hr h=> ?_)
 ·obtain ⟨f,p,Lv,g,x,B,t,a,xs,cs,n,rfl,_⟩:=h;rfl
 ·obtain ⟨f,p,Lv,g,x,B,t,a,xs,cs,n,rfl,wo,Y,lv,⟨a3,ps,Fg,bg⟩,fh,hx,U,hc,hC,T,tl,hw,h1,h2⟩:=h;refine ⟨_,ay (cj (i:=4) uk.nd rfl (bz rfl) (pv 1)) (ay (my vT rfl (ik (pv 2)) (fg (i:=5) uk.nd rfl (bz rfl)) (az (cj (i:=4) uk.nd rfl (bz rfl) (pC (P:=P) (w:=w) (K:=K) (mg:=mg) (base:=base) (CX:=CXE P w) (i:=0) hr rfl (bz rfl) eO (aa (pv 4) (aa (pv 5) (aa (pv 3) aw)))))))
   (az (bn (pv 4)))),?_⟩
  refine ⟨_,rfl,_,rfl,B,rfl,⟨_,eR hc⟩,kW (K:=K) (a:=B) (xs:=xs.map WA) (λi A l=>∃y b m J,A=[some (.ref g),some (.ref x),some (.ref B),some (.ref t),some (.ref y),J]/\gc f a (cs.take i) n= .ok (b,m)/\Fz CY W t H l/\Tl CY l t m/\Y5 CA l y b/\b.ok=true)
   ⟨x,a,n,none,rfl,rfl,Ye,tl,hx,U⟩ (λi A l _ ⟨_,_,_,_,_,_,d,_⟩=>eR (d.lst hc)) ?_ ?_⟩
  ·rintro i v A l hi ⟨y,b,m,J,rfl,C,d,o,L,u⟩;obtain ⟨xc,a2,rfl⟩:=iU hi;obtain ⟨c,z,a0⟩:=hC.get a2;obtain ⟨O,N⟩:=F5 C z;have j:=T c (bD z);refine ⟨g,_,a3,ps,rfl,Fg,bg,d.fnh fh,_,rfl,_,rfl,_,rfl,d.fnh fh,y,xc,t,b,c,m,rfl,Y _ _ _ d lv,L,d.arr ne a0,u,j,o,d.k3 hw,λr m2 e H4 yr I M a1=> ?_,λk e H4 I=>h2 k (N k e) H4 (d.trans I)⟩;exact ⟨yr,r,m2,_,rfl,O r m2 e,d.trans I,M,a1,wo.ok b c u j r ((wo.prj b c).ok e)⟩
  ·rintro A l ⟨y,b,m,J,rfl,C,d,o,L,u⟩;rw [am,hC.len,bH] at C;exact ⟨_,rfl,h1 b m C l y d o L⟩
def vg:WB ["work","start","cells","tally","kept","cell"] ["work","start","cells","tally"] (aA vy):=⟨rfl,rfl,rfl,by decide+kernel,rfl,by decide+kernel,by decide+kernel⟩
def zk:(a::c)[c.length]? =some (XX a c):=by
 unfold XX;cases c with
 | nil=>rfl
 | cons b r=>
  rw [aF,List.getElem?_cons_succ,List.getLast?_eq_getElem?,aF,Nat.add_sub_cancel];rw [aP (by simp)];rfl
def E_(hW:Wf W)(ne:CA≠CY)(D:Dx K mg "scanned" vy ["work","start","cells","tally"]):PkB P w K mg G (kk+1) "scanned" ["work","start","cells","tally"] (yZ P w K mg CA CY W q kk):= .of D λf fd F base hb=>by
 refine F.okX vg (λvs H Q E h=> ?_) (λb8 A' b5 s H vs Q E hr h=> ?_)
 ·obtain ⟨f,p,Lv,g,x,lc,t,a,xs,cs,n,rfl,_⟩:=h;rfl
 ·obtain ⟨f,p,Lv,g,x,lc,t,a,xs,cs,n,rfl,wo,a6,lv,⟨b3,ps,Fg,bg⟩,fh,hx,a5,hc,hC,a4,b7,tl,hw,h1,h2⟩:=h;refine ⟨_,ay (cj (i:=4) vg.nd rfl (bz rfl) (eA (aa (pv 1) aw)))
   (ay (my vT rfl (ik (pv 2)) (fg (i:=5) vg.nd rfl (bz rfl)) (az (iF (FG iW tW Eu zU (pv 4)
    (aa (pC (P:=P) (w:=w) (K:=K) (mg:=mg) (base:=base) (CX:=CXE P w) (i:=0) hr rfl (bz rfl) eO (aa (iR gn (pv 4) (Jh CQ bR) (λ_ _=>rfl)) (aa (pv 5) (aa (pv 3) aw)))) aw)))))
   (az (bn (pv 4)))),?_⟩
  refine ⟨_,rfl,(by show 1<=a_;decide),λD hD=> ?_⟩;have z0:Fz CY W t H (upd H D (.lst [.ref x])):=Ye.lay hW hD λu e=>by rw [hD] at e;cases e
  have a1:Tl CY (upd H D (.lst [.ref x])) t n:=by
   obtain ⟨dx,e⟩:=tl;exact ⟨dx,by rw [aC (aU e hD)];exact e⟩
  refine ⟨_,rfl,lc,rfl,⟨_,eR (z0.lst hc)⟩,kW (K:=K) (a:=lc) (xs:=xs.map WA) (λi Y A=>∃b d m v5,Y=[some (.ref g),some (.ref x),some (.ref lc),some (.ref t),some (.ref D),v5]/\ck f a (cs.take i) n= .ok (d,m)/\Fz CY W t H A/\Tl CY A t m/\A D=some (.lst ((x::b).map WA))/\Y6 CA A (x::b) (a::d)/\(∀r∈a::d,r.ok=true)/\d.length=min i cs.length)
   ⟨[],[],n,none,rfl,rfl,z0,a1,ao,.cons (z0.arr ne hx) .nil,λr b1=>by rw [aL.mp b1];exact a5,by simp⟩ (λi Y A _ ⟨_,_,_,_,_,_,j,_⟩=>eR (j.lst hc)) ?_ ?_⟩
  ·rintro i v Y A hi ⟨b,d,m,v5,rfl,hf,j,C,l,o,I,J⟩;obtain ⟨xc,b2,rfl⟩:=iU hi;obtain ⟨c,L,a9⟩:=hC.get b2;obtain ⟨a3,a2⟩:=EO hf L;have B:=a4 c (bD L);have ly:b.length=d.length:=by have:=o.len;simpa using this
   have b6:i<cs.length:=(aY.mp L).1;obtain ⟨N,T⟩:∃N,(x::b)[b.length]? =some N:=⟨_,aP (by simp)⟩
   obtain ⟨bl,U,a8⟩:=o.get T;rw [ly,zk] at U;have b4:XX a d=bl:=bw U;subst b4;have O:(XX a d).ok=true:=I _ (bD zk);have a7:N7 ((x::b).map WA) (-1)=some (.ref N):=by
    have e:OB ((x::b).map WA).length (-1)=some b.length:=by
     unfold OB;rw [if_neg (by decide),am,aF,if_pos (by omega)];congr 1;omega
    unfold N7;rw [e];show ((x::b).map WA)[b.length]? =_;rw [bW,T];rfl
   refine ⟨_,rfl,.inl ⟨rfl,_,Ws l⟩,g,_,b3,ps,rfl,Fg,bg,j.fnh fh,_,rfl,1,rfl,D,_,_,.ref N,rfl,rfl,eR l,a7,_,rfl,_,rfl,j.fnh fh,N,xc,t,XX a d,c,m,rfl,a6 _ _ _ j lv,a8,j.arr ne a9,O,B,C,j.k3 hw,λr m2 e H4 yr M a0 b0=> ?_,λk e H4 M=>h2 k (a2 k e) H4 (j.trans M)⟩;have z:=M.lst l;refine ⟨D,_,_,rfl,rfl,z,by rw [am,aF,ly,J,cq];omega,b++[yr],d++[r],m2,_,rfl,a3 r m2 e,?_,?_,?_,?_,?_,?_⟩
   ·exact (j.trans M).lay hW hD λu e=>by rw [z] at e;cases e;exact ⟨(λ_ y=>nomatch y),(λ_ y=>nomatch y)⟩
   ·obtain ⟨d4,e4⟩:=a0;exact ⟨d4,by rw [aC (jr e4 z (λy=>nomatch y))];exact e4⟩
   ·rw [ao,<-gi,bY];rfl
   ·exact Arrs.offL (Yb b0 (M.arrs ne o)) z
   ·intro r' hm;rcases bV.mp (show r'∈(a::d)++[r] from hm) with y | y
    ·exact I r' y
    ·rw [aL.mp y];exact wo.ok _ c O B r ((wo.prj _ c).ok e)
   ·rw [bp,iA,J];omega
  ·rintro Y A ⟨b,d,m,v5,rfl,hf,j,C,l,o,I,J⟩;rw [am,hC.len,bH] at hf;exact ⟨_,rfl,h1 d m hf A D (x::b) j C l o⟩
end
end Rk
namespace Rk
open PySem PySem.Spec PyProof.Rows L2 Rx
open Vaarrb (Arr)
open Vaarrc (Counted itemArrs foldCells scanCells foldTwo scanTwo countedEnv plainEnv)
open OneM (ER Prj K8 eachC runL toldOf bC)
def zt(h:b.ok=true):(gb b).length<=1024/\∀c∈gb b,c.ok=true:=by
 refine ⟨?_,OneM.itemArrs_ok h⟩;obtain ⟨e,s,a⟩:=Xq b;have ok:=((Xj _).mp (Xp h)).1;rw [a] at ok;unfold gb;rw [am,(Xo a).1,Xm];exact Xi ok ar
def BR(h:gb b=c::r):kY dP f a b n=bC (ck f a (c::r) n) λl m=>(hZ dq [r.length+1] (λ_=> .ok c) l).map λx=>(x,m):=by
 unfold kY;rw [h];show (ck f a (c::r)>>= λl=>hZ dP [r.length+1] (λ_=>pure c) l) n=_;rw [OneM.bindC];congr 1;funext l m;exact XY (zero:=λ_=>pure c) (zero':=λ_=> .ok c) (Prj.pure c) l m
theorem qW{f:Arr->Arr->ej Arr}:∀{l:List Arr} {a:Arr} {n m:Nat} {b:List Arr},ck f a l n= .ok (b,m)->b.length=l.length
 | [],a,n,m,b,h=>by
  have:(HP ([],n):Except Nat (List Arr×Nat))= .ok (b,m):=h;cases this;rfl
 | c::l,a,n,m,b,h=>by
  rw [XV] at h;cases e:f a c n with
  | error k=>rw [e] at h;cases h
  | ok x=>
   rw [e,XW] at h;cases d:ck f x.1 l x.2 with
   | error k=>rw [d] at h;cases h
   | ok z=>
    rw [d,XW] at h;cases h;have:=qW d;rw [aF,this,aF]
def L5(b:Wok f p)(g:a.ok=true)(e:∀c∈l,c.ok=true)(h:ck f a l n= .ok (d,m)):∀r∈d,r.ok=true:=
 (OneM.scanCells_ok b.ok g e ((OneM.prj_scanCells b.prj l a).ok h)).2
section
variable {P:be} {w:bN} {K:ac} {mg:Str→Option al} {G:cz→Prop} {CA CY:af} {q:Nat→af×af} {W:Hp→Prop}
def La:WB ["work","x","y","tally"] ["work","x","y","tally"] (aA nW):=⟨rfl,rfl,rfl,by decide+kernel,rfl,by decide+kernel,by decide+kernel⟩
def Ly(a0:3<=j)(hW:Wf W)(ne:CA≠CY)(D:Dx K mg "fold_of_two" nW ["work","x","y","tally"])(Y:PkB P w K mg G (j+1) "folded" ["work","start","cells","tally"] (BP P w K mg CA CY W q j))(U:Pk P w K mg G 4 "own_cells" ["y"] (L3 CA))(T:Pk P w K mg G 4 "as_vector" ["array"] (lD CA)):PkB P w K mg G (j+2) "fold_of_two" ["work","x","y","tally"] (BM P w K mg CA CY W q j foldTwo):= .of D λf fd F base m=>by
 refine F.okX La (λJ H Q E h=> ?_) (λa1 A' A s H J Q E k h=> ?_)
 ·obtain ⟨f,p,B,g,x,y,t,a,b,n,rfl,_⟩:=h;rfl
 ·obtain ⟨f,p,B,g,x,y,t,a,b,n,rfl,I,i,O,hX,fh,ha,u,o,d,tl,hw,hQ⟩:=h;refine ⟨_,az (bn (zQ (base:=base) Y m k eO (aa (pv 0) (aa (pv 1) (aa (ci U m k cw (aa (ci T m k cw (aa (pv 2) aw) (by omega)) aw) (by omega)) (aa (pv 3) aw)))) (aO _))),?_⟩;obtain ⟨e,L,es⟩:=Xq b;obtain ⟨il,r⟩:=zt d;refine ⟨_,rfl,_,rfl,_,rfl,y,b,rfl,u,λH1 v N hv=>⟨v,_,e,L,rfl,hv,Xp d,es,λH2 l C M nl hl hC=> ?_⟩⟩;have c:=N.trans M;have z:=Yd (CY:=CY) (t:=t) hW c;refine ⟨_,rfl,f,p,B,g,x,l,t,a,C,gb b,n,rfl,I,i,i _ _ _ z O,hX.at_,z.fnh fh,ha.same c,o,hl,hC.arrs,r,?_,z.k3 hw,hQ.trans z⟩;obtain ⟨dx,y⟩:=tl;exact ⟨dx,c _ _ y⟩
def xD:WB ["work","x","y","tally","whole","cells","answers"] ["work","x","y","tally"] (aA nS):=⟨rfl,rfl,rfl,by decide+kernel,rfl,by decide+kernel,by decide+kernel⟩
def Lu(c2:4<=kk)(hW:Wf W)(ne:CA≠CY)(A:Ars K mg CA q)(D:Dx K mg "scan_of_two" nS ["work","x","y","tally"])(kf:PkB P w K mg G (kk+1) "scanned" ["work","start","cells","tally"] (yZ P w K mg CA CY W q kk))(ko:Pk P w K mg G 4 "own_cells" ["y"] (L3 CA))(kv:Pk P w K mg G 4 "as_vector" ["array"] (lD CA))(kg:Pk P w K mg G 4 "gathered" ["frame","shape","answers"] (sv CA q)):PkB P w K mg G (kk+2) "scan_of_two" ["work","x","y","tally"] (BM P w K mg CA CY W q kk (kY dP)):= .of D λf fd F base hb=>by
 refine F.okX xD (λvs H Q E h=> ?_) (λc3 A' c1 s H vs Q E hr h=> ?_)
 ·obtain ⟨f,p,Lv,g,x,y,t,a,b,n,rfl,_⟩:=h;rfl
 ·obtain ⟨f,p,Lv,g,x,y,t,a,b,n,rfl,wo,a6,lv,hX,fh,ha,b8,a4,a3,tl,hw,hQ⟩:=h;refine ⟨_,ay (cj (i:=4) xD.nd rfl (bz rfl) (ci kv hb hr cw (aa (pv 2) aw) (by omega)))
   (ay (cj (i:=5) xD.nd rfl (bz rfl) (ci ko hb hr cw (aa (pv 4) aw) (by omega)))
   (ay (ee (cU lM (fy A.len (pv 5)) bR (dA _)) (az (bn (pv 4))) cB)
   (ay (cj (i:=6) xD.nd rfl (bz rfl) (dJ eD (zQ (base:=base) kf hb hr eO (aa (pv 0) (aa (pv 1) (aa (pv 5) (aa (pv 3) aw)))) (aO _)) (dY bR) ff))
   (az (bn (ci kg hb hr eO (aa (eA (aa (fy A.len (pv 5)) aw)) (aa (de A (iR gn (pv 6) bR (λ_ _=>rfl))) (aa (pv 6) aw))) (by omega))))))),?_⟩
  obtain ⟨e,sh,es⟩:=Xq b;obtain ⟨il,I⟩:=zt a3;refine ⟨_,rfl,y,b,rfl,b8,λH1 v s1 hv=> ?_⟩;refine ⟨_,rfl,v,_,e,sh,rfl,hv,Xp a3,es,λH2 l xs s2 nl hl hC=> ?_⟩;have C:=s1.trans s2;have z:=Yd (CY:=CY) (t:=t) hW C;have a1:Tl CY H2 t n:=by
   obtain ⟨U,y⟩:=tl;exact ⟨U,C _ _ y⟩
  have M:Y6 CA H2 xs (gb b):=hC.arrs;have lx:=M.len;refine ⟨_,rfl,l,_,rfl,eR hl,rfl,_,rfl,gp (λc=> ?_) λc=> ?_⟩
  ·have c':gb b=[]:=by
    have:=X1 (of_decide_eq_true c);rw [am,lx] at this;exact cH.mp (by omega)
   refine ⟨_,rfl,hQ.1 (bt b) n ?_ H2 v z a1 (hv.same s2)⟩;unfold kY;rw [c'];rfl
  obtain ⟨c0,cr,ec⟩:∃c0 cr,gb b=c0::cr:=by
   cases h:gb b with
   | nil=>exact absurd (decide_eq_true (by rw [am,lx,h];rfl)) c
   | cons a r=>exact ⟨a,r,rfl⟩
  have b4:=BR (f:=f) (a:=a) (n:=n) ec;rw [ec] at M I il lx;refine ⟨_,rfl,_,rfl,_,rfl,_,rfl,f,p,Lv,g,x,l,t,a,xs,c0::cr,n,rfl,wo,a6,a6 _ _ _ z lv,hX.at_,z.fnh fh,ha.same C,a4,hl,M,I,il,a1,z.k3 hw,λrs m J j lk ys z3 b5 hk hY=> ?_,λk hk j z3=>hQ.2 k (by rw [b4,hk];rfl) j (z.trans z3)⟩;have a7:=qW J;obtain ⟨r0,rr,er⟩:∃r0 rr,rs=r0::rr:=by
   cases rs with
   | nil=>cases a7
   | cons a r=>exact ⟨a,r,rfl⟩
  obtain ⟨y0,d,ey⟩:∃y0 d,ys=y0::d:=by
   cases ys with
   | nil=>have:=hY.len;cases this
   | cons a r=>exact ⟨a,r,rfl⟩
  rw [ey] at hY hk;have a9:Y6 CA j d rs:=by cases hY with | cons _ t=>exact t
  obtain ⟨O,y2,b0⟩:∃O y2,d=O::y2:=by
   cases d with
   | nil=>have:=a9.len;rw [er] at this;cases this
   | cons a r=>exact ⟨a,r,rfl⟩
  refine ⟨_,rfl,lk,_,rfl,eR hk,λB b6=> ?_⟩;rw [show (some (1:Int))=some ((1:Nat):Int) from rfl,js,show Pe 1 ((y0::d).map WA)=d.map WA from rfl];have T:=WZ (o:= .lst (d.map WA)) (WH j) b6;have z4:=z3.trans (Yd (CY:=CY) (t:=t) hW T);have N:=a9.same T;have a5:=L5 wo a4 I J;obtain ⟨a0,ea,d0,l0,k0,b1,b2,b3⟩:=N.get (i:=0) (p:=O) (by rw [b0];rfl);have b9:a0=r0:=by rw [er] at ea;exact (bw ea).symm
  subst b9;have a8:(upd j B (.lst (d.map WA))) l=some (.lst (xs.map WA)):=T _ _ (z3.lst hl);have L:(upd j B (.lst (d.map WA))) B=some (.lst (d.map WA)):=ao;have Y:Tl CY (upd j B (.lst (d.map WA))) t m:=by
   obtain ⟨U,y⟩:=b5;exact ⟨U,T _ _ y⟩
  generalize upd j B (.lst (d.map WA))=H4 at T z4 N b1 b2 b3 a8 L Y ⊢;refine ⟨_,rfl,l,_,rfl,eR a8,(by show 1<=a_;decide),λm2 b7=> ?_⟩;have u:=WZ (o:= .lst [.int ((xs.map WA).length:Nat)]) (WH H4) b7;have a2:=pT (a5 a0 (by rw [er];exact ar));refine ⟨_,rfl,B,_,((0:Nat):Int),.ref O,rfl,rfl,eR (u _ _ L),f_ (by rw [b0];rfl),O,d0,l0,k0,rfl,u _ _ b1,_,rfl,m2,l0,B,[cr.length+1],a0.shape,d,rs,rfl,?_,u _ _ b2,u _ _ L,N.same u,a5,by show 1<=10;decide,a2.1,λe he=> ?_,by rw [a7];exact il,RT.ra (m:=m) hW hQ (z.trans (z4.trans (Yd hW u))) ?_ ?_⟩
  ·rw [ao,am,lx];rfl
  ·rcases bV.mp he with y | y
   ·rw [aL.mp y];rw [aF] at il;omega
   ·exact a2.2 e y
  ·obtain ⟨U,y⟩:=Y;exact ⟨U,u _ _ y⟩
  ·rw [b4,J,XW,Cm];congr 2;rw [er];rfl
end
end Rk
namespace Rk
open PySem PySem.Spec PyProof.Rows L2 Rx
open PySem.W (CodeHd tabObj kla_obj kla_fn FnAt envX fnMade fnX)
open Vaarrb (Arr)
open Vaarrc (Counted itemArrs countedEnv plainEnv)
open OneM (ER Prj K8 eachC runL toldOf bC)
structure DfC (K:ac) (mg:Str→Option al) (nm:Str) (st:dm) (ps:List Str) (c:af):Prop where
 ex:∃(f:af) (oc:al) (od an:Option af) (osl:Array (Option al)) (kV doc pm ct:al),K.lookup f=some ⟨oc,od,.func (bM nm nm (dH st) (dB st) (aA st) .none kV doc pm an (.ref c) ct),osl⟩∧cv K (.ref c) nm=true∧mg nm=some (.ref f)∧bq K (.ref f)=true∧
  Binds K (bM nm nm (dH st) (dB st) (aA st) .none kV doc pm an (.ref c) ct) ps []
def NM(e:eM):Pos:=match e with
 | .Lambda _ _ _ p=>p
 | _=>⟨0,0,0,0⟩
def MK(s:dm):eM:=match dB s with
 | [_,.Return (some (.Call _ (e::_) _ _)) _]=>e
 | _=> .Constant .none 0 ⟨0,0,0,0⟩
def Rl:List (Pos×Str):=[(NM (MK WU),("work_each_pair"++".<locals>.")++"<lambda>")]
def RP2(CA:af)(H:Hp)(p:af)(c:Arr×Arr):Prop:=∃x y,H p=some (.tup [.ref x,.ref y])/\Y5 CA H x c.1/\Y5 CA H y c.2
def RP2.fz(z:Fz CY W t H f)(a:CA≠CY)(h:RP2 CA H p c):RP2 CA f p c:=let ⟨x,y,e,d,b⟩:=h;⟨x,y,z.tup e,z.arr a d,z.arr a b⟩
def Nu(P:be)(w:bN)(K:ac)(mg:Str->Option al)(CA CY:af)(W:Hp->Prop)(q:Nat->af×af)(s:Nat)(base:cz):Sp:=λr H Q E=>∃(f:Arr->Arr->ej Arr) (p:Arr->Arr->ER Arr) (i:Hp->Prop) (g l k o m t:af) (a h d:List Nat) (j:List af) (b:List (Arr×Arr)) (n:Nat),r=[.ref g,.ref l,.ref k,.ref o,.ref m,.ref t]/\
 Wok f p/\Ro CY W i/\i H/\HasX P w K mg base s g (Il CA CY W q i f)/\FnH H g/\H l=some (.lst (tv a))/\H k=some (.lst (j.map WA))/\fW (RP2 CA H) j b/\(∀c∈b,c.1.ok=true/\c.2.ok=true)/\H o=some (.lst (tv h))/\H m=some (.lst (tv d))/\aQ h=true/\aQ d=true/\Tl CY H t n/\W H/\
 b.length<=1024/\a.length<=10/\(∀e∈a,e<=1024)/\RT CA CY W q t H (Yg (λc=>f c.1 c.2) a b (jj h 0,jj d 0) n) Q E
def Made.fz(h:mz H Pt qs)(m:Made H d Pt qs qual g n i)(f:W H->W d):Fz CY W t H d:=by
 obtain ⟨j,a,_⟩:=h;refine ⟨λb o e s=>m.keep b o e λz=> ?_,λb l k e _=>m.keep _ _ e λz=> ?_,f⟩
 ·rw [z,a] at e;cases e;exact s
 ·rw [z,a] at e;cases e
section
variable {P:be} {w:bN} {K:ac} {mg:Str→Option al} {G:cz→Prop} {CA CY:af} {q:Nat→af×af} {W:Hp→Prop} {c Pt:af}
def NE:X4 ["pair","its_tally","work"] ["pair","its_tally"] ["work"] (kU (MK WU)):=⟨rfl,rfl,rfl,by decide+kernel,rfl,rfl,by decide+kernel,by decide+kernel,Ba (by decide+kernel),by decide+kernel⟩
def Rg:WB ["work","frame","pairs","left_shape","right_shape","tally","zeros"] ["work","frame","pairs","left_shape","right_shape","tally"] (aA WU):=⟨rfl,rfl,rfl,by decide+kernel,rfl,by decide+kernel,by decide+kernel⟩
def NQ(hk:2<=I)(hW:Wf W)(ne:CA≠CY)(A:Ars K mg CA q)(D:DfC K mg "work_each_pair" WU ["work","frame","pairs","left_shape","right_shape","tally"] c)(hG:∀base,G base->nH base c Pt/\Xa base mg)(hE:∀b r,Pp b r->G b->G r)(wt:∀H,W H->mz H Pt Rl)(wm:∀H H1 qual g c' b1,Made H H1 Pt Rl qual g c' b1->W H->W H1)(kf:Pk P w K mg G 3 "filled" ["shape","number"] (uh CA))(kE:PkB P w K mg G (I+3) "work_each" ["work","frame","cells","zeros","tally"] (Gb P w K mg CA CY W q (I+1))):
  PkB P w K mg G (I+4) "work_each_pair" ["work","frame","pairs","left_shape","right_shape","tally"] (Nu P w K mg CA CY W q I):=by
 obtain ⟨f0,oc,od,an,d0,kV,d5,pm,ct,lk,c1,b9,c0,c2⟩:=D.ex;obtain ⟨fE,d2,mE,b4,bE,FE⟩:=kE.ex;obtain ⟨tF,kF⟩:=A.kF;refine ⟨f0,_,b9,c0,c2,λbase hb=> ?_⟩;obtain ⟨C,B⟩:=hG base hb;refine FU lk c1 Rg (λvs H Q E h=>by obtain ⟨f,p,Lv,g,lf,lp,l1,l2,t,d,s1,U,ts,cs,n,rfl,_⟩:=h;rfl) λA' c6 s H vs Q E hr h=> ?_;obtain ⟨f,p,Lv,g,lf,lp,l1,l2,t,d,s1,U,ts,cs,n,rfl,wo,a1,lv,⟨c5,a7,Fg,bg⟩,fh,hf,hp,hP,a8,h1,h2,o1,o2,tl,hw,b3,b2,a6,hQ⟩:=h;refine ⟨_,ay (cj (i:=6) Rg.nd rfl (bz rfl) (zP (aa (ci kf hb hr cw (aa (pv 3) (aa (cg (v:= .int 0) rfl kF ⟨_,rfl⟩) aw)) (by omega)) (aa (ci kf hb hr cw (aa (pv 4) (aa (cg (v:= .int 0) rfl kF ⟨_,rfl⟩) aw)) (by omega)) aw))))
  (az (bn (rS (CX:=CXE P w) (E:=E) (k:=I+3) rfl (λ_=>rfl) hr rfl mE b4 bE eO (aa (M8 (c:=c) (P:=Pt) (qs:=Rl) rfl rfl C B ⟨by first | exact ar | (unfold Rl;exact aL.mpr rfl),λz hz _=>aL.mp hz⟩ ?hfree) (aa (pv 1) (aa (pv 2) (aa (pv 6) (aa (pv 5) aw)))))))),?_⟩
 case hfree=>
  intro y hy e;have:y.1∈(["work"]:List Str):=(by decide+kernel:∀p∈(kU (MK WU)).names,p.2=dw->p.1∈(["work"]:List Str)) y hy e;rw [aL.mp this];exact rX rfl
 have c9:=Xf o1;have c8:=Xf o2;refine ⟨_,rfl,l1,s1,0,rfl,h1,λe he=>Xi o1 he,by omega,λH1 z1 t1 b6=> ?_⟩;refine ⟨_,rfl,l2,U,0,rfl,t1 _ _ h2,λe he=>Xi o2 he,by omega,λH2 z2 t2 b5=> ?_⟩;refine ⟨(by show 2<=a_;decide),λpz L=> ?_⟩;have t3:=t1.trans (t2.trans (WZ (o:= .tup [.ref z1,.ref z2]) (WH H2) L));have a2:RP2 CA (upd H2 pz (.tup [.ref z1,.ref z2])) pz (jj s1 0,jj U 0):=⟨z1,z2,ao,(b6.same t2).same (WZ (WH H2) L),b5.same (WZ (WH H2) L)⟩
 generalize upd H2 pz (.tup [.ref z1,.ref z2])=H3 at t3 a2 ⊢;have z3:Fz CY W t H H3:=Yd hW t3;have J:=z3.k3 hw;refine ⟨wt _ J,λgl c' d7 pm T made=> ?_⟩;have a0:Fz CY W t H3 T:=Made.fz (wt _ J) made (wm _ _ _ _ _ _ made);have u:=z3.trans a0;have a5:Tl CY T t n:=by
  obtain ⟨dx,y⟩:=tl;refine ⟨dx,made.keep _ _ (t3 _ _ y) λz=> ?_⟩;obtain ⟨ps,c4,_⟩:=wt _ J;have:=t3 _ _ y;rw [z,c4] at this;cases this
 refine ⟨_,rfl,_,rfl,_,rfl,_,rfl,λr M=>⟨Gb P w K mg CA CY W q (I+1) r,FE r (hE _ _ M.old hb),?_⟩⟩;have CC:=M.clo (scope:=kU (MK WU)) (fr:=["work"]) (fvs:=[.ref g]) rfl (by decide+kernel) (λx hx=>(by decide+kernel:∀p∈(kU (MK WU)).names,p.2=dw->p.1∈(["work"]:List Str)) _ hx rfl) (λj x Y=>by
  match j,Y with
  | 0,Y=>cases Y;exact ⟨0,.ref g,rfl,rfl,rfl,.inl rfl⟩
  | j+1,Y=>simp at Y)
 obtain ⟨d1,d6,d8,l,d4,d3⟩:=id made.code;have m:=made.fn;let R:Hp->af->Arr×Arr->Prop:=λH x a=>(H gl=T gl/\H c'=T c'/\Lv H/\FnH H g)/\RP2 CA H x a;have O:LG CY W R:=λt' Ha Hb x a z ⟨⟨r1,r2,r3,r4⟩,r5⟩=>⟨⟨by rw [m];exact z.frz (r1.trans m),by rw [l];exact z.frz (r2.trans l),a1 _ _ _ z r3,z.fnh r4⟩,r5.fz z ne⟩
 have LF:=Mg (CX:=CXE P w) (P:=P) (w:=w) (K:=K) (mg:=mg) (base:=r) (k:=I) (f:=gl) (sp:=Pj CA CY W q R (λa=>a.1.ok=true/\a.2.ok=true) (λa=>f a.1 a.2)) (N:=["pair","its_tally","work"]) (ps:=["pair","its_tally"])
  (λvs H Q E h=>by obtain ⟨x,t,a,n,_,⟨⟨r1,_⟩,_⟩,_⟩:=h;exact r1.trans m) (λvs H Q E h=>by
   obtain ⟨x,t,a,n,_,⟨⟨_,r2,_⟩,_⟩,_⟩:=h;exact made.code.to λo e=>r2.trans e) NE CC (λvs H Q E h=>by obtain ⟨x,t,a,n,rfl,_⟩:=h;rfl) (λA2 a3 U H5 c7 Q2 E2 b8 h5=>by
   obtain ⟨x,t2,a,n2,rfl,⟨⟨r1,r2,r3,r4⟩,xa,ya,r5,r6,r7⟩,⟨b0,a9⟩,a4,b7,c3⟩:=h5;refine ⟨_,pC (P:=P) (w:=w) (K:=K) (mg:=mg) (base:=r) (CX:=CXE P w) (E:=E2) (i:=2) b8 rfl (by first | exact bz rfl | exact jG (bz rfl) | exact jG (jG rfl)) (M9 rfl) (aa (iR zW (pv 0) bR (λ_ _=>rfl)) (aa (iR zW (pv 0) bR (λ_ _=>rfl)) (aa (pv 1) aw))),?_⟩;exact ⟨g,_,c5,a7,rfl,Fg r M.old,bg,r4,_,rfl,x,_,((0:Nat):Int),.ref xa,rfl,rfl,Wu r5,f_ rfl,_,rfl,x,_,((1:Nat):Int),.ref ya,rfl,rfl,Wu r5,f_ rfl,_,rfl,r4,xa,ya,t2,a.1,a.2,n2,rfl,r3,r6,r7,b0,a9,a4,b7,c3⟩)
 have rz:∀x a,RP2 CA T x a->R T x a:=λx a h=>⟨⟨rfl,rfl,a1 _ _ _ u lv,u.fnh fh⟩,h⟩
 refine ⟨Arr×Arr,R,(λa=>a.1.ok=true/\a.2.ok=true),(λa=>f a.1 a.2),(λa=>p a.1 a.2),gl,lf,lp,pz,t,d,ts,cs,(jj s1 0,jj U 0),n,rfl,O,⟨_,["pair","its_tally"],LF,.all λus hl=>match us,hl with | [_,_],_=>rfl⟩,⟨_,_,_,_,m⟩,u.lst hf,u.lst hp,Wp hP λx a h=>rz x a (h.fz u ne),a8,rz _ _ (a2.fz a0 ne),
  ⟨Xn o1 (by decide),Xn o2 (by decide)⟩,a5,u.k3 hw,λa=>wo.prj a.1 a.2,wo.k8 _ _,λa ok=>wo.ok a.1 a.2 ok.1 ok.2,b3,b2,a6,hQ.trans u⟩
end
end Rk
open Rk.Made renaming fz->Yh
namespace OneM
open Vaarrb
open Vaarrc (Counted countedEnv plainEnv atTwo tableTwo runPairs gather agree paired longer arrAt cellArrs zeroCell ownRank)
def paired_lt(h:qt s t=true)(c:p∈jR s t):p.1<ai s/\p.2<ai t:=by
 obtain ⟨g,f⟩:=uF h;unfold jR at c;by_cases l:t.length<s.length
 ·rw [if_pos l] at c;obtain ⟨i,b,rfl⟩:=cR.mp c;rw [kH] at b;have e:=f (by omega);have d:ai s=ai t*ai (s.drop t.length):=by rw [<-Xd,<-e]
  have a:0<ai (s.drop t.length):=gH λz=>by rw [d,z,B3] at b;omega
  exact ⟨b,(oI a).mpr (by rw [<-d];exact b)⟩
 ·rw [if_neg l] at c;obtain ⟨i,b,rfl⟩:=cR.mp c;rw [kH] at b;have e:=g (by omega);have d:ai t=ai s*ai (t.drop s.length):=by rw [<-Xd,<-e]
  have a:0<ai (t.drop s.length):=gH λz=>by rw [d,z,B3] at b;omega
  exact ⟨(oI a).mpr (by rw [<-d];exact b),b⟩
def atTwo_each(f)(k)(x y)(n):Eb dP f k x y n=if qt (frameOf x (dg k x)) (frameOf y (dg k y))=false then .error 1 else
  Yg (λc=>f c.1 c.2) (ju (frameOf x (dg k x)) (frameOf y (dg k y))) ((jR (frameOf x (dg k x)) (frameOf y (dg k y))).map λp=>(mX (gW k x) p.1,mX (gW k y) p.2)) (KA k x,KA k y) n:=by
 unfold Eb;by_cases c:qt (frameOf x (dg k x)) (frameOf y (dg k y))=false
 ·rw [if_pos c,if_pos c];rfl
 ·rw [if_neg c,if_neg c,sU];rfl
def tableTwo_each(f)(x y)(n):oG dP f x y n=if aQ (x.shape++y.shape)=false then .error 6 else
  Yg (λc=>f c.1 c.2) (x.shape++y.shape) (x.data.flatMap λa=>y.data.map λb=>(dU a,dU b)) (dU 0,dU 0) n:=by
 unfold oG;by_cases c:aQ (x.shape++y.shape)=false
 ·rw [if_pos c,if_pos c];rfl
 ·rw [if_neg c,if_neg c,sU];rfl
theorem wS:∀(n:Nat) (l:List Int),l.length=n->jv 1 n l=l.map λx=>[x]
 | 0,l,h=>by rw [cH.mp h];rfl
 | n+1,[],h=>by cases h
 | n+1,a::l,h=>by
  show [a]::jv 1 n l=[a]::l.map λx=>[x]
  rw [wS n l (sf h)]
def cells0(h:a.ok=true):(im a 0).map (λd=>({shape:=cZ a 0,data:=d}:Arr))=a.data.map dU:=by
 have b:=((Xj a).mp h).2.1;unfold im cZ frameOf kO;rw [B2,bH,Pd,Xb,wS _ _ b,gu];rfl
end OneM
namespace Rk
open PySem PySem.Spec PyProof.Rows L2 Rx
open Vaarrb (Arr)
open Vaarrc (Counted countedEnv plainEnv atTwo tableTwo arrAt cellArrs paired ownRank)
open OneM (ER Prj K8 eachC runL toldOf bC)
def Tl.same(h:Tl CY H t n)(s:WG H b):Tl CY b t n:=let ⟨a,y⟩:=h;⟨a,s _ _ y⟩
theorem zd(g:Y6 CA H xs j)(f:Y6 CA H ys bs):∀{ps:List (Nat×Nat)} {c:List af},(∀p∈ps,p.1<xs.length/\p.2<ys.length)->
  TupsAt H c (ps.map λp=>((xs.map WA)[p.1]?.getD .non,(ys.map WA)[p.2]?.getD .non))->fW (RP2 CA H) c (ps.map λp=>(mX j p.1,mX bs p.2))
 | [],[],_,_=> .nil
 | [],_::_,_,h=>h.elim
 | _::_,[],_,h=>h.elim
 | p::ps,t::c,i,h=>by
  obtain ⟨e,d⟩:=i p ar;obtain ⟨a,r,n⟩:=g.get (aP e);obtain ⟨b,o,l⟩:=f.get (aP d);refine .cons ⟨xs[p.1],ys[p.2],?_,?_,?_⟩ (zd g f (λk m=>i k (au _ m)) h.2)
  ·have:=h.1;dsimp only at this;rw [bW,bW,aP e,aP d] at this;exact this
  ·show Y5 CA H _ (mX j p.1);unfold mX;rw [r];exact n
  ·show Y5 CA H _ (mX bs p.2);unfold mX;rw [o];exact l
def Gp(k:Nat)(a):(if ((tv a.shape).length:Int)<(k:Int) then ((tv a.shape).length:Int) else (k:Int))=((dg k a:Nat):Int):=by
 unfold dg kO;rw [dE];split<;>omega
def Nw(P:be)(w:bN)(K:ac)(mg:Str->Option al)(CA CY:af)(W:Hp->Prop)(q:Nat->af×af)(e:Nat)(base:cz):Sp:=λd H Q E=>∃(f:Arr->Arr->ej Arr) (p:Arr->Arr->ER Arr) (c:Hp->Prop) (k:Nat) (g x y t:af) (a b:Arr) (n:Nat),d=[.ref g,.int (k:Int),.ref x,.ref y,.ref t]/\
 Wok f p/\Ro CY W c/\c H/\HasX P w K mg base e g (Il CA CY W q c f)/\FnH H g/\Y5 CA H x a/\Y5 CA H y b/\a.ok=true/\b.ok=true/\Tl CY H t n/\W H/\RT CA CY W q t H (Eb dP f k a b n) Q E
section
variable {P:be} {w:bN} {K:ac} {mg:Str→Option al} {G:cz→Prop} {CA CY:af} {q:Nat→af×af} {W:Hp→Prop}
def Ai:WB ["work","rank","x","y","tally","x_rank","y_rank","x_frame","y_frame","frame","pairs"] ["work","rank","x","y","tally"] (aA qF):=⟨rfl,rfl,rfl,by decide+kernel,rfl,by decide+kernel,by decide+kernel⟩
def Ql(hW:Wf W)(ne:CA≠CY)(A:Ars K mg CA q)(D:Dx K mg "at_of_two" qF ["work","rank","x","y","tally"])(kE:PkB P w K mg G (kk+4) "work_each_pair" ["work","frame","pairs","left_shape","right_shape","tally"] (Nu P w K mg CA CY W q kk))(kf:Pk P w K mg G 1 "frame_of" ["array","rank"] (ss CA ek))(ks:Pk P w K mg G 1 "cell_shape_of" ["array","rank"] (ss CA cZ))(kc:Pk P w K mg G 3 "cells_of" ["array","rank"] (vf CA))(kl:Pk P w K mg G 1 "longer_shape" ["left","right"] (xC q))(kp:Pk P w K mg G 3 "pairs_of" ["left_shape","left_things","right_shape","right_things"] B5):PkB P w K mg G (kk+5) "at_of_two" ["work","rank","x","y","tally"] (Nw P w K mg CA CY W q kk):= .of D λf fd F base j=>by
 refine F.okX Ai (λvs H Q E h=> ?_) (λb0 A' a9 s H vs Q E e h=> ?_)
 ·obtain ⟨f,p,Lv,k,g,x,y,t,a,b,n,rfl,_⟩:=h;rfl
 ·obtain ⟨f,p,Lv,k,g,x,y,t,a,b,n,rfl,wo,a0,lv,hX,fh,ha,r,o,l,tl,hw,hQ⟩:=h;rw [OneM.atTwo_each] at hQ;refine ⟨_,ay (cj (i:=5) Ai.nd rfl (bz rfl) (eV (nE rfl) rfl A.min (by decide+kernel) (aa (pv 1) (aa (fy A.len (de A (pv 2))) aw))))
   (ay (cj (i:=6) Ai.nd rfl (bz rfl) (eV (nE rfl) rfl A.min (by decide+kernel) (aa (pv 1) (aa (fy A.len (de A (pv 3))) aw))))
   (ay (cj (i:=7) Ai.nd rfl (bz rfl) (ci kf j e cw (aa (pv 2) (aa (pv 5) aw)) (by omega)))
   (ay (cj (i:=8) Ai.nd rfl (bz rfl) (ci kf j e cw (aa (pv 3) (aa (pv 6) aw)) (by omega)))
   (ay (cj (i:=9) Ai.nd rfl (bz rfl) (ci kl j e eO (aa (pv 7) (aa (pv 8) aw)) (by omega)))
   (ay (cj (i:=10) Ai.nd rfl (bz rfl) (ci kp j e cw (aa (pv 7) (aa (ci kc j e cw (aa (pv 2) (aa (pv 5) aw)) (by omega)) (aa (pv 8) (aa (ci kc j e cw (aa (pv 3) (aa (pv 6) aw)) (by omega)) aw)))) (by omega)))
   (az (bn (zQ (base:=base) kE j e eO (aa (pv 0) (aa (pv 9) (aa (pv 10) (aa (ci ks j e cw (aa (pv 2) (aa (pv 5) aw)) (by omega)) (aa (ci ks j e cw (aa (pv 3) (aa (pv 6) aw)) (by omega)) (aa (pv 4) aw)))))) (aO _))))))))),?_⟩
  obtain ⟨dx,ls,ld,hx,hs,hd⟩:=id ha;obtain ⟨dy,lt,le,hy,ht,he⟩:=id r;refine ⟨_,rfl,_,rfl,x,dx,ls,ld,rfl,hx,ls,_,rfl,eR hs,_,_,rfl,?_⟩;rw [Gp];refine ⟨_,rfl,_,rfl,y,dy,lt,le,rfl,hy,lt,_,rfl,eR ht,_,_,rfl,?_⟩;rw [Gp];have r1:dg k a<=a.shape.length:=by unfold dg kO;omega
  have r2:dg k b<=b.shape.length:=by unfold dg kO;omega
  refine ⟨_,rfl,_,rfl,x,a,dg k a,rfl,ha,r1,λH1 lf s1 nf hf=> ?_⟩;refine ⟨_,rfl,_,rfl,y,b,dg k b,rfl,r.same s1,r2,λH2 lg s2 ng hg=> ?_⟩;have O:=s1.trans s2;refine ⟨_,rfl,_,rfl,lf,lg,_,_,rfl,s2 _ _ hf,hg,λag H3 lh C hh=> ?_,λa6 H3 C=>hQ.2 1 (by rw [if_pos a6]) H3 (Yd hW (O.trans C))⟩;rw [if_neg (by rw [ag];exact λz=>nomatch z)] at hQ;have N:=O.trans C;obtain ⟨la,a3⟩:=XM o k;obtain ⟨lb,a2⟩:=XM l k;have v:aQ (ek a (dg k a))=true:=Xg (((Xj a).mp o).1) _;have u:aQ (ek b (dg k b))=true:=Xg (((Xj b).mp l).1) _;have a5:aQ (cZ a (dg k a))=true:=Xh (((Xj a).mp o).1) _;have a4:aQ (cZ b (dg k b))=true:=Xh (((Xj b).mp l).1) _;have T:=Xu v u;refine ⟨_,rfl,_,rfl,_,rfl,x,a,dg k a,rfl,ha.same N,o,r1,λH4 l4 xs s4 n4 h4 a8=> ?_⟩;have M:=N.trans s4;refine ⟨_,rfl,_,rfl,_,rfl,y,b,dg k b,rfl,r.same M,l,r2,λH5 l5 ys B n5 h5 a7=> ?_⟩;have a1:=M.trans B;have hA:Y6 CA H5 xs (gW k a):=a8.arrs.same B;have hB:Y6 CA H5 ys (gW k b):=a7.arrs;have Y:xs.length=ai (ek a (dg k a)):=hA.len.trans la;have U:ys.length=ai (ek b (dg k b)):=hB.len.trans lb;have p1:=Xf v;have p2:=Xf u;refine ⟨lf,l4,lg,l5,_,_,xs.map WA,ys.map WA,rfl,B _ _ (s4 _ _ (C _ _ (s2 _ _ hf))),B _ _ h4,B _ _ (s4 _ _ (C _ _ hg)),h5,v,u,by rw [am];omega,by rw [am];omega,λH6 l6 ts s6 h6 hT=> ?_⟩;rw [XR ag (by rw [am];exact Y) (by rw [am];exact U) V.non V.non] at hT;have L:=a1.trans s6;have hP:=zd (hA.same s6) (hB.same s6) (λp m=>by
   have:=OneM.paired_lt ag m;rw [Y,U];exact this) hT
  refine ⟨_,rfl,_,rfl,_,rfl,_,rfl,_,rfl,x,a,dg k a,rfl,ha.same L,r1,λH7 l7 s7 n7 h7=> ?_⟩;have J:=L.trans s7;refine ⟨_,rfl,_,rfl,y,b,dg k b,rfl,r.same J,r2,λH8 l8 s8 n8 h8=> ?_⟩;have I:=J.trans s8;have d:=s7.trans s8;have z:=Yd (CY:=CY) (t:=t) hW I;have sl:=pT (a:=⟨ju (ek a (dg k a)) (ek b (dg k b)),aG (ai (ju (ek a (dg k a)) (ek b (dg k b)))) 0⟩) (Xn T (by decide));refine ⟨_,rfl,f,p,Lv,g,lh,l6,l7,l8,t,_,_,_,ts,_,n,rfl,wo,a0,a0 _ _ _ z lv,hX,z.fnh fh,d _ _ (s6 _ _ (B _ _ (s4 _ _ hh))),d _ _ h6,Wp hP λ_ _ ⟨x1,y1,e1,e2,e3⟩=>⟨x1,y1,d _ _ e1,e2.same d,e3.same d⟩,λc hc=> ?_,s8 _ _ h7,h8,a5,a4,tl.same I,z.k3 hw,?_,cD sl.1 (by decide),sl.2,hQ.trans z⟩
  ·obtain ⟨p,_,rfl⟩:=cR.mp hc;exact ⟨XN a3 _,XN a2 _⟩
  ·rw [am,Xs];exact Xf T
end
def Tp(H:Hp)(t:af)(p:af×af):Prop:=H t=some (.tup [.ref p.1,.ref p.2])
theorem J_(d:Y5 CA H x a):∀{c ys:List af} {bs:List Arr},fW (Tp H) c (ys.map λy=>(x,y))->Y6 CA H ys bs->fW (RP2 CA H) c (bs.map λb=>(a,b))
 | _,[],[],.nil,_=> .nil
 | _,y::ys,b::bs,.cons h t,.cons f e=> .cons ⟨x,y,h,d,f⟩ (J_ d t e)
theorem oW:∀{ys1 a:List i} {xs:List j},fW R xs (ys1++a)->∃c b,xs=c++b/\fW R c ys1/\fW R b a
 | [],a,xs,h=>⟨[],xs,rfl,.nil,h⟩
 | y::ys1,a,_,.cons h t=>by
  obtain ⟨e,d,rfl,g,f⟩:=oW (ys1:=ys1) t;exact ⟨_::e,d,rfl,.cons h g,f⟩
theorem K0(d:Y6 CA H ys bs):∀{ts xs:List af} {c:List Arr},fW (Tp H) ts (xs.flatMap λx=>ys.map λy=>(x,y))->Y6 CA H xs c->fW (RP2 CA H) ts (c.flatMap λa=>bs.map λb=>(a,b))
 | _,[],[],.nil,_=> .nil
 | ts,x::xs,a::c,h,.cons f e=>by
  rw [cV] at h;obtain ⟨k,j,rfl,i,g⟩:=oW h;rw [cV];exact pS (J_ f i d) (K0 d g e)
def Hf(h:a.ok=true):wQ a 0=a.data.map dU:=OneM.cells0 h
section
variable {P:be} {w:bN} {K:ac} {mg:Str→Option al} {G:cz→Prop} {CA CY:af} {q:Nat→af×af} {W:Hp→Prop}
def uj:WB ["work","x","y","tally","frame","y_cells","pairs","left","right"] ["work","x","y","tally"] (aA me):=⟨rfl,rfl,rfl,by decide+kernel,rfl,by decide+kernel,by decide+kernel⟩
def NP(hW:Wf W)(ne:CA≠CY)(A:Ars K mg CA q)(D:Dx K mg "table_of_two" me ["work","x","y","tally"])(kE:PkB P w K mg G (kk+4) "work_each_pair" ["work","frame","pairs","left_shape","right_shape","tally"] (Nu P w K mg CA CY W q kk))(ks:Pk P w K mg G 3 "sized" ["extents"] (nP K q))(kc:Pk P w K mg G 3 "cells_of" ["array","rank"] (vf CA)):PkB P w K mg G (kk+5) "table_of_two" ["work","x","y","tally"] (BM P w K mg CA CY W q kk (oG dP)):= .of D λf fd F base hb=>by
 refine F.okX uj (λvs H Q E h=> ?_) (λc8 A' c2 s H vs Q E hr h=> ?_)
 ·obtain ⟨f,p,Lv,g,x,y,t,a,b,n,rfl,_⟩:=h;rfl
 ·obtain ⟨f,p,Lv,g,x,y,t,a,b,n,rfl,wo,a6,lv,hX,fh,ha,b0,m,l,tl,hw,hQ⟩:=h;rw [OneM.tableTwo_each] at hQ;refine ⟨_,ay (cj (i:=4) uj.nd rfl (bz rfl) (ci ks hb hr eO (aa (d_ lE (de A (pv 1)) (de A (pv 2))) aw) (by omega)))
   (ay (cj (i:=5) uj.nd rfl (bz rfl) (ci kc hb hr cw (aa (pv 2) (aa bR aw)) (by omega)))
   (ay (cj (i:=6) uj.nd rfl (bz rfl) (eA aw))
   (ay (my vT rfl (ik (ci kc hb hr cw (aa (pv 1) (aa bR aw)) (by omega))) (fg (i:=7) uj.nd rfl (by first | exact bz rfl | exact jG rfl))
    (az (iF (FG iW mI rB vH (pv 6) (aa (yy (own:=[("right",8)]) rfl uj.nd (ik (pv 5)) (jt (by first | rfl | kernel_rfl)) (λ_ _ _ _ _=>fg (i:=8) uj.nd rfl (bz rfl)) (λ_ _ _ _ _=>mx)
     (λ_ _ _ _ _=>zP (aa (pv 7) (aa (pv 8) aw)))) aw)))))
   (az (bn (zQ (base:=base) kE hb hr eO (aa (pv 0) (aa (pv 4) (aa (pv 6) (aa (eA aw) (aa (eA aw) (aa (pv 3) aw)))))) (aO _))))))),?_⟩
  obtain ⟨dx,ls,ld,hx,hs,hd⟩:=id ha;obtain ⟨dy,lt,le,hy,ht,he⟩:=id b0;obtain ⟨c7,b5⟩:=pT m;obtain ⟨c6,b4⟩:=pT l;refine ⟨_,rfl,x,dx,ls,ld,rfl,hx,_,rfl,y,dy,lt,le,rfl,hy,ls,lt,_,_,rfl,rfl,hs,ht,by rw [dE,dE,cq];omega,λlf b9=> ?_⟩;rw [show tv a.shape++tv b.shape=tv (a.shape++b.shape) from bY.symm];have s1:=WZ (o:= .lst (tv (a.shape++b.shape))) (WH H) b9;have sm:∀e∈a.shape++b.shape,e<=1024:=λe he=>(bV.mp he).elim (b5 e) (b4 e);refine ⟨lf,Vaarrb.ints (a.shape++b.shape),rfl,by rw [ij];exact eR ao,gO sm,λok H2 s2=> ?_,λa4 H2 s2=>hQ.2 6 (by rw [jf] at a4;rw [if_pos a4]) H2 (Yd hW (s1.trans s2))⟩;rw [jf] at ok;rw [if_neg (by rw [ok];exact λz=>nomatch z)] at hQ;have c0:H2 lf=some (.lst (tv (a.shape++b.shape))):=s2 _ _ ao;have a3:=s1.trans s2;refine ⟨_,rfl,y,b,0,rfl,b0.same a3,l,cy _,λH3 l3 ys s3 n3 h3 b2=> ?_⟩;rw [Hf l] at b2;have hB:=b2.arrs;have a2:=a3.trans s3;refine ⟨cy _,λD hD=> ?_⟩;have s4:=WZ (o:= .lst []) (WH H3) hD;have M:(upd H3 D (.lst [])) D=some (.lst []):=ao;generalize upd H3 D (.lst [])=H4 at s4 M ⊢;refine ⟨_,rfl,x,a,0,rfl,ha.same (a2.trans s4),m,cy _,λH5 l5 xs s5 n5 h5 a0=> ?_⟩;rw [Hf m] at a0;have b7:l5≠D:=dO (aU M n5);have c4:xs.length=a.data.length:=by have:=a0.len;rw [am] at this;exact this
  have c3:ys.length=b.data.length:=by have:=hB.len;rw [am] at this;exact this
  have da:=Xx m;have db:=Xx l;refine ⟨l5,rfl,⟨_,eR h5⟩,kW (K:=K) (a:=l5) (xs:=xs.map WA) (λi σ J=>∃T v7,σ=[some (.ref g),some (.ref x),some (.ref y),some (.ref t),some (.ref lf),some (.ref l3),some (.ref D),v7,none]/\WG H3 J/\J l5=some (.lst (xs.map WA))/\J D=some (.lst (T.map WA))/\ArrsN CA H4 J xs (a.data.map dU)/\fW (Tp J) T ((xs.take i).flatMap λx=>ys.map λy=>(x,y)))
   ⟨[],none,rfl,s4.trans s5,h5,s5 _ _ M,a0,.nil⟩ (λi σ J _ ⟨_,_,_,_,e,_⟩=>eR e) ?_ ?_⟩
  ·rintro i v σ J hi ⟨T,v7,rfl,s6,a7,L,Y,r⟩;obtain ⟨xc,a9,rfl⟩:=iU hi;have li:i<xs.length:=(aY.mp a9).1;have c5:T.length<=i*1024:=by
    rw [gG r,N2];have:((xs.take i).map λx=>(ys.map λy=>(x,y)).length).sum<=(xs.take i).length*1024:=by
     generalize xs.take i=zs
     induction zs with
     | nil=>simp
     | cons z zs ih=>
      rw [dI,RM,aF,am,eY,dF];omega
    rw [bQ] at this;exact cD this (gj _ (QT _ _))
   have b3:=s6 _ _ h3;refine ⟨_,rfl,.inl ⟨rfl,_,Ws L⟩,_,rfl,l3,rfl,⟨_,eR b3⟩,λD2 b1=>pw (K:=K) (a:=l3) (xs:=ys.map WA) (λj d=>∃N,WG J d/\d D2=some (.lst (N.map WA))/\fW (Tp d) N ((ys.take j).map λy=>(xc,y))) ⟨[],WZ (WH J) b1,ao,.nil⟩
    (λj d _ ⟨_,e,_⟩=>eR (e _ _ b3)) ?_ ?_⟩
   ·rintro j v d hj ⟨N,C,B,hU⟩;obtain ⟨yc,a8,rfl⟩:=iU hj;have lj:j<ys.length:=(aY.mp a8).1;have b8:N.length<=1024:=by rw [gG hU,am,bQ];omega
    refine ⟨rfl,_,rfl,_,rfl,(by show 2<=a_;decide),λp hp=> ?_⟩;have a5:D2≠p:=aU B hp;refine ⟨_,by rw [aC a5];exact B,by rw [am,cq];omega,N++[p],Y9 (WZ C hp) b1,by rw [ao,bY];rfl,?_⟩;rw [take_snoc a8,bY];refine qA ?_ (Wp hU λu O e=> ?_)
    ·show (upd (upd d p (.tup [.ref xc,.ref yc])) D2 _) p=_;rw [aC (dO a5),ao]
    ·have I:d u=some (.tup [.ref O.1,.ref O.2]):=e;show (upd (upd d p _) D2 _) u=_;rw [aC (jr I B (λz=>nomatch z)),aC (aU I hp)];exact I
   ·rintro d ⟨N,C,B,hU⟩;rw [am,bH] at hU;have b8:N.length<=1024:=by rw [gG hU,am];omega
    have U:=C _ _ L;refine ⟨D,D2,_,_,rfl,rfl,U,B,by rw [am,am,cq];omega,T++N,_,rfl,Y9 (s6.trans C) hD,by rw [aC b7];exact C _ _ a7,by rw [ao,bY],(Y.same C).put M,?_⟩;rw [take_snoc a9,xq,cV,Bu,gy];refine pS (Wp r λu O e=> ?_) (Wp hU λu O e=> ?_)
    ·have I:d u=some (.tup [.ref O.1,.ref O.2]):=C _ _ e;show (upd d D _) u=_;rw [aC (jr I U (λz=>nomatch z))];exact I
    ·have I:d u=some (.tup [.ref O.1,.ref O.2]):=e;show (upd d D _) u=_;rw [aC (jr I U (λz=>nomatch z))];exact I
  ·rintro σ H6 ⟨T,v7,rfl,s6,a7,L,Y,r⟩;rw [am,bH] at r;have b6:=a2.trans s6;have hP:=K0 (hB.same s6) r Y.arrs;refine ⟨_,rfl,_,rfl,_,rfl,cy _,λl7 h7=> ?_⟩;have C:=WZ (o:= .lst []) (WH H6) h7;have e7:(upd H6 l7 (.lst [])) l7=some (.lst (tv [])):=ao;generalize upd H6 l7 (.lst [])=H7 at C e7 ⊢;refine ⟨cy _,λl8 h8=> ?_⟩;have s8:=WZ (o:= .lst []) (WH H7) h8;have e8:(upd H7 l8 (.lst [])) l8=some (.lst (tv [])):=ao;generalize upd H7 l8 (.lst [])=H8 at s8 e8 ⊢;have k:=C.trans s8;have a1:=b6.trans k;have z:=Yd (CY:=CY) (t:=t) hW a1;have c1:((a.data.map dU).flatMap λa=>(b.data.map dU).map λb=>(a,b))=a.data.flatMap λa=>b.data.map λb=>(dU a,dU b):=by
    rw [List.flatMap_map];congr 1;funext e;rw [gu];rfl
   rw [c1] at hP;refine ⟨_,rfl,f,p,Lv,g,lf,D,l7,l8,t,_,[],[],T,_,n,rfl,wo,a6,a6 _ _ _ z lv,hX,z.fnh fh,k _ _ (s6 _ _ (s3 _ _ c0)),k _ _ L,Wp hP λ_ _ ⟨x1,y1,e1,e2,e3⟩=>⟨x1,y1,k _ _ e1,e2.same k,e3.same k⟩,λc hc=> ?_,s8 _ _ e7,e8,rfl,rfl,tl.same a1,z.k3 hw,?_,?_,sm,hQ.trans z⟩
   ·obtain ⟨i,hi,hc⟩:=kP.mp hc;obtain ⟨j,hj,rfl⟩:=cR.mp hc;exact ⟨Xw (((Xj a).mp m).2.2 _ hi),Xw (((Xj b).mp l).2.2 _ hj)⟩
   ·have pe:=Xf ok;rw [Xd] at pe;have:(a.data.flatMap λa=>b.data.map λb=>(dU a,dU b)).length=a.data.length*b.data.length:=by
     generalize a.data=zs
     induction zs with
     | nil=>simp
     | cons z zs ih=>rw [cV,bp,ih,am,aF,eY,dF];omega
    rw [this,((Xj a).mp m).2.1,((Xj b).mp l).2.1];exact pe
   ·rw [bp];omega
end
end Rk
namespace L2
open PySem PySem.Spec PyProof.Rows Rx
def De:HR X a (λ_ _ _=>False):=λ_ _ _ _ _ _ h=>h.elim
def CloC.ext(h:X5 b cl fr fvs)(e:∀a o,b.get? a=some o->i.get? a=some o):X5 i cl fr fvs:=by
 have g:∀c v,b.IsCell c v->i.IsCell c v:=λc v ⟨o,f,d⟩=>⟨o,e _ _ f,d⟩
 refine ⟨h.len,λj x l=> ?_,λx c m=> ?_,h.inj⟩
 ·obtain ⟨c,u,v,f,d,p,n⟩:=h.at_ j x l;exact ⟨c,u,v,f,g _ _ d,p,n⟩
 ·obtain ⟨v,k⟩:=h.all x c m;exact ⟨v,g _ _ k⟩
end L2
namespace Rk
open PySem PySem.Spec PyProof.Rows L2 Rx
open PySem.W (CodeHd tabObj kla_obj kla_fn FnAt envX fnMade fnX)
open Vaarrb (Arr)
open Vaarrc (Counted countedEnv plainEnv atTwo tableTwo foldTwo scanTwo countedWork plainWork Mod twoNames)
open OneM (ER Prj K8 eachC runL toldOf bC)
def FunAt.same(h:X2 C H x f)(s:WG H j):X2 C j x f:=let ⟨g,l,i,d,b,a⟩:=h;⟨g,l,i,s _ _ d,s _ _ b,a.to λ_ _ e=>s _ _ e⟩
def Fz.fun_(z:Fz CY W t H j)(n:C≠CY)(h:X2 C H x f):X2 C j x f:=let ⟨g,l,i,d,b,a⟩:=h;⟨g,l,i,z.ins d n,z.lst b,a.to λ_ _ e=>z.tup e⟩
def zj(h:ModsOf H g (m::ms).reverse):∃a b,g=a++[b]/\ModsOf H a ms.reverse/\H b=some (.tup (K9 m)):=by
 rw [nj] at h;obtain ⟨a,i,rfl,f,e⟩:=oW h;cases e with
 | cons d t=>cases t;exact ⟨a,_,rfl,f,d⟩
structure FnK (K:ac) (z:Adr):Prop where
 ex:∃fI fdI,Mk K z.CF fI∧Fun K "__init__" "Function.__init__" WP fI fdI∧Binds K fdI ["self","base","modifiers"] []
def Gc(C:af):Sp:=λd H Q _=>∃(x:af) (n:List Nat) (m:Mod) (b:List Mod),d=[.ref x]/\X2 C H x ⟨n,m::b⟩/\∀a y,WG H a->X2 C a y ⟨n,b⟩->Q (.ref y) a
def Ph(g CA CY:af)(W:Hp->Prop)(q:Nat->af×af)(m:Nat):Sp:=λf H Q E=>∃(e x y t:af) (n:List Nat) (d:List Mod) (a b:Arr) (c:Nat),f=[.ref e,.ref x,.ref y,.ref t]/\X2 g H e ⟨n,d⟩/\n∈fj/\d.length=m/\Y5 CA H x a/\Y5 CA H y b/\a.ok=true/\b.ok=true/\Tl CY H t c/\W H/\RT CA CY W q t H ((ol n d).two a b c) Q E
def wp(s:dm):dm:=match dB s with
 | _::_::_::_::e::_=>e
 | _=>s
def P_(s:dm):Pos:=match s with
 | .FunctionDef _ _ _ _ _ _ _ _ _ p=>p
 | _=>⟨0,0,0,0⟩
def Rj:List (Pos×Str):=[(P_ (wp WV),("work_of_two"++".<locals>.")++"below_of_two")]
section
variable {P:be} {w:bN} {K:ac} {mg:Str→Option al} {G:cz→Prop} {CA CY:af} {q:Nat→af×af} {W:Hp→Prop} {z:Adr} {c Pt:af}
def Q8:WB ["function"] ["function"] (aA jY):=⟨rfl,rfl,rfl,by decide+kernel,rfl,by decide+kernel,by decide+kernel⟩
def LC(T:Txt K mg z)(FK:FnK K z)(D:Dx K mg "function_below" jY ["function"]):Pk P w K mg G 3 "function_below" ["function"] (Gc z.CF):= .of D λf fd F a hb=>by
 obtain ⟨fI,i,M,FI,bI⟩:=FK.ex;have GI:Wz P w K mg a (CXE P w) 1 fI i _ _:=C9 FI T;refine F.okX Q8 (λB H Q E h=> ?_) (λa0 A' k s H B Q E L h=> ?_)
 ·obtain ⟨x,n,m,J,rfl,_⟩:=h;rfl
 ·obtain ⟨x,n,m,J,rfl,⟨v,l,b,r,Y,U⟩,N⟩:=h;refine ⟨_,az (bn (yx M GI L rfl T.mF bI .nil cw (aa (iP (pv 0) rfl) (aa (dJ eD (iP (pv 0) rfl) ff (dY (Jh CQ bR))) aw)))),?_⟩;refine ⟨_,rfl,x,z.CF,v,_,.str ⟨n.toArray⟩,rfl,r,T.cF,T.fb,GH _ _,_,rfl,x,z.CF,v,_,.ref l,rfl,r,T.cF,T.fm,wO _ _,1,rfl,_,rfl,l,_,rfl,eR Y,λp O=> ?_⟩;rw [JB];have g:=WZ (o:= .lst (b.map WA).dropLast) (WH H) O;have t:(upd H p (.lst (b.map WA).dropLast)) p=some (.lst (b.map WA).dropLast):=ao;generalize upd H p (.lst (b.map WA).dropLast)=H1 at g t ⊢;intro y u C I ne;refine ⟨y,u,p,n,rfl,ao,λA h1 h2=>⟨rfl,?_⟩⟩;have d:WG H1 A:=WI C I h2;obtain ⟨j,a1,rfl,g1,g2⟩:=zj U;refine N A y (g.trans d) ⟨u,p,j,h1,?_,g1.to λ_ _ e=>d _ _ (g _ _ e)⟩;have:=d _ _ t;rw [bY,List.map_singleton,List.dropLast_concat] at this;exact this
def Sn:X4 ["left","right","its_tally","below"] ["left","right","its_tally"] ["below"] (aA (wp WV)):=⟨rfl,rfl,rfl,by decide+kernel,rfl,rfl,by decide+kernel,by decide+kernel,Ba (by decide+kernel),by decide+kernel⟩
def K5:WB ["function","x","y","tally","below","word","rank","below_of_two"] ["function","x","y","tally"] (aA WV):=⟨rfl,rfl,rfl,by decide+kernel,rfl,by decide+kernel,by decide+kernel⟩
def G6{n:List Nat}(d:n∈fj)(ms):Wok (ol n ms).two (HG n ms).two:=⟨(XS n ms).two,λa b f e=>(OneM.plainWork_ok n ms).two a b f e,OneM.two_k d ms⟩
def SQ(f:af)(b:Hp)(g a e:af)(n:List Nat)(d:List Mod):Hp->Prop:=λH=>H g=b g/\H a=b a/\X2 f H e ⟨n,d⟩
def vm{n:List Nat}(hE:∀b r,Pp b r->G b->G r)(hb:G r)(M:CellsIn X U r)(h4:U[4]? =some (some (.ref l)))(hN:X.N[4]? =some ("below":Str))(hk:X.env.kindOf ("below":Str)=some .cell)(fn:B g=some (.frz (OS "below_of_two" qual (dH (wp WV)) (dB (wp WV)) (aA (wp WV)) (df X.env.cells (aA (wp WV)).names []) a1 pm A a2) Any))(code:CodeAt B A qual)(hn:n∈fj)(D:d.length=m)(ih:Pk P w K mg G (8+7*m) "work_of_two" ["function","x","y","tally"] (Ph z.CF CA CY W q m)):∃T,(∀u,Pp r u->Wz P w K mg u (CXE P w) (8+7*m+1) g T ["left","right","its_tally"] (Il CA CY W q (SQ z.CF B g A l n d) (ol n d).two))/\Binds K T ["left","right","its_tally"] []:=by
 have CC:=M.clo (scope:=aA (wp WV)) (fr:=["below"]) (fvs:=[.ref l]) rfl (by decide+kernel) (λx hx=>(by decide+kernel:∀p∈(aA (wp WV)).names,p.2=dw->p.1∈(["below"]:List Str)) _ hx rfl) (λj x i=>by
  match j,i with
  | 0,i=>cases i;exact ⟨4,.ref l,hN,h4,rfl,.inl hk⟩
  | j+1,i=>simp at i)
 refine ⟨_,λu ext=>Mn (CX:=CXE P w) (P:=P) (w:=w) (K:=K) (mg:=mg) (base:=u) (k:=8+7*m) (f:=g) (sp:=Il CA CY W q (SQ z.CF B g A l n d) (ol n d).two) (N:=["left","right","its_tally","below"]) (ps:=["left","right","its_tally"])
  (λO H Q E h=>by obtain ⟨x,y,t,a,b,s,_,⟨r1,_⟩,_⟩:=h;exact r1.trans fn) (λO H Q E h=>by
   obtain ⟨x,y,t,a,b,s,_,⟨_,r2,_⟩,_⟩:=h;exact code.to λo e=>r2.trans e) Sn (CC.ext ext) (λO H Q E h=>by obtain ⟨x,y,t,a,b,s,rfl,_⟩:=h;rfl) (λA2 v s2 H5 a0 Q2 E2 J h5=> ?_),.all λY hl=>match Y,hl with | [_,_,_],_=>rfl⟩
 obtain ⟨x,y,t,a,b,s,rfl,⟨_,_,r3⟩,r4,r5,o1,o2,C,I,L⟩:=h5;refine ⟨_,az (bn (ci ih (hE _ _ ext hb) J (M9 rfl) (aa (pv 3) (aa (pv 0) (aa (pv 1) (aa (pv 2) aw)))) (aO _))),?_⟩;exact ⟨_,rfl,_,rfl,_,rfl,_,rfl,l,x,y,t,n,d,a,b,s,rfl,r3,hn,D,r4,r5,o1,o2,C,I,L⟩
def uw(h:∃a,(∀d,Pp b d->Wz P w K mg d (CXE P w) k g a ps sp)/\Binds K a ps []):HasX P w K mg b k g sp:=let ⟨a,f,e⟩:=h;⟨a,ps,f,e⟩
structure Wds (mg:Str→Option al):Prop where
 ka:∃t,mg "AT"=some (.str ":at" t)
 kt:∃t,mg "TABLE"=some (.str ":table" t)
 kf:∃t,mg "FOLD"=some (.str ":fold" t)
 ks:∃t,mg "SCAN"=some (.str ":scan" t)
abbrev MI:List Str:=["function","x","y","tally"]
theorem Gr(hW:Wf W)(ne:CA≠CY)(nf:z.CF≠CY)(A:Ars K mg CA q)(T:Txt K mg z)(Wd:Wds mg)(D:DfC K mg "work_of_two" WV MI c)(hG:∀base,G base->nH base c Pt/\Xa base mg)(o:∀b L,Pp b L->G b->G L)(wt:∀H,W H->mz H Pt Rj)(wm:∀H H1 qual g c' b9,Made H H1 Pt Rj qual g c' b9->W H->W H1)(kB:Pk P w K mg G 7 "base_of_two" ["base","x","y","tally"] (QZ CA CY W q))(kb:Pk P w K mg G 3 "function_below" ["function"] (Gc z.CF))(kA:∀j,4<=j->PkB P w K mg G (j+5) "at_of_two" ["work","rank","x","y","tally"] (Nw P w K mg CA CY W q j))(kT:∀j,4<=j->PkB P w K mg G (j+5) "table_of_two" ["work","x","y","tally"] (BM P w K mg CA CY W q j (oG dP)))(kF:∀j,4<=j->PkB P w K mg G (j+2) "fold_of_two" ["work","x","y","tally"] (BM P w K mg CA CY W q j foldTwo))(kS:∀j,4<=j->PkB P w K mg G (j+2) "scan_of_two" ["work","x","y","tally"] (BM P w K mg CA CY W q j (kY dP))):
  ∀m,Pk P w K mg G (8+7*m) "work_of_two" MI (Ph z.CF CA CY W q m)
 | 0=>by
  obtain ⟨f0,oc,od,an,b8,kV,b7,pm,ct,lk,a9,a7,a8,b0⟩:=D.ex;refine ⟨f0,_,a7,a8,b0,λbase I=> ?_⟩;refine FU lk a9 K5 (λvs H Q E h=>by obtain ⟨fx,x,y,t,n,ms,a,b,cn,rfl,_⟩:=h;rfl) λA' b2 s H vs Q E hr h=> ?_;obtain ⟨fx,x,y,t,n,ms,a,b,cn,rfl,⟨dx,l,as,hx,hl,hm⟩,hn,lm,ha,b1,u,r,tl,hw,hQ⟩:=h;have em:ms=[]:=cH.mp lm;subst em;have ea:as=[]:=cH.mp hm.len;subst ea;refine ⟨_,ay (ee (cU lM (fy A.len (iP (pv 0) rfl)) bR (dA _)) (az (bn (ci kB I hr eO (aa (iP (pv 0) rfl) (aa (pv 1) (aa (pv 2) (aa (pv 3) aw)))) (by omega)))) cB) De,?_⟩;refine ⟨_,rfl,fx,z.CF,dx,_,.ref l,rfl,hx,T.cF,T.fm,wO _ _,l,_,rfl,eR hl,rfl,_,rfl,qa ?_⟩;exact ⟨_,rfl,fx,z.CF,dx,_,.str ⟨n.toArray⟩,rfl,hx,T.cF,T.fb,GH _ _,_,rfl,_,rfl,_,rfl,n,x,y,t,a,b,cn,rfl,hn,ha,b1,u,r,tl,hQ⟩
 | m+1=>by
  have ih:=Gr hW ne nf A T Wd D hG o wt wm kB kb kA kT kF kS m;obtain ⟨f0,oc,od,an,b8,kV,b7,pm,ct,lk,a9,a7,a8,b0⟩:=D.ex;obtain ⟨fA,d3,mA,c3,bA,FA⟩:=(kA (8+7*m+1) (by omega)).ex;obtain ⟨fT,d0,mT,c0,bT,FT⟩:=(kT (8+7*m+1) (by omega)).ex;obtain ⟨fF,d2,mF,c2,bF,FF⟩:=(kF (8+7*m+1) (by omega)).ex;obtain ⟨fS,d1,mS,c1,bS,FS⟩:=(kS (8+7*m+1) (by omega)).ex;obtain ⟨ta,ka⟩:=Wd.ka;obtain ⟨tt,kt⟩:=Wd.kt;obtain ⟨tf,kf⟩:=Wd.kf;obtain ⟨ts,ks⟩:=Wd.ks;refine ⟨f0,_,a7,a8,b0,λbase I=> ?_⟩;obtain ⟨C,B⟩:=hG base I;rw [show 8+7*(m+1)=(8+7*m+1+5)+1 by omega];refine FU lk a9 K5 (λvs H Q E h=>by obtain ⟨fx,x,y,t,n,ms,a,b,cn,rfl,_⟩:=h;rfl) λA' b2 s H vs Q E hr h=> ?_;obtain ⟨fx,x,y,t,n,ms,a,b,cn,rfl,a6,hn,lm,ha,b1,u,r,tl,hw,hQ⟩:=h;obtain ⟨mo,mr,rfl⟩:∃mo mr,ms=mo::mr:=by
   cases ms with
   | nil=>cases lm
   | cons mo mr=>exact ⟨mo,mr,rfl⟩
  have O:mr.length=m:=sf lm;obtain ⟨dx,l,as,hx,hl,hm⟩:=id a6;obtain ⟨J,a1,rfl,c9,c6⟩:=zj hm;have b5:Wy (8+7*m+1+2) _:=hr.mono (by omega);have c4:Wy (8+7*m+1) _:=hr.mono (by omega);refine ⟨_,ay (ee (cU lM (fy A.len (iP (pv 0) rfl)) bR (dA _)) De cB)
   (ay (cj (i:=4) K5.nd rfl (jG rfl) (ci kb I hr cw (aa (pv 0) aw) (by omega)))
   (ay (cj (i:=5) K5.nd rfl (bz rfl) (iR zW (iR gn (iP (pv 0) rfl) (Jh CQ bR) (λ_ _=>rfl)) bR (λ_ _=>rfl)))
   (ay (cj (i:=6) K5.nd rfl (bz rfl) (iR zW (iR gn (iP (pv 0) rfl) (Jh CQ bR) (λ_ _=>rfl)) bR (λ_ _=>rfl)))
   (ay (M3 (i:=7) (c:=c) (P:=Pt) (qs:=Rj) K5.nd rfl (bz rfl) rfl rfl C B ⟨by first | exact ar | (unfold Rj;exact aL.mpr rfl),λz hz _=>aL.mp hz⟩ ?hfree)
   (ay (ee (cU lM (pv 5) (cg (v:= .str ":at") rfl ka ⟨_,rfl⟩) (dA _)) (az (bn (rS (CX:=CXE P w) (E:=E) (k:=8+7*m+1+5) rfl (λ_=>rfl) hr rfl mA c3 bA eO (aa (pv 7) (aa (pv 6) (aa (pv 1) (aa (pv 2) (aa (pv 3) aw)))))))) cB)
   (ay (ee (cU lM (pv 5) (cg (v:= .str ":table") rfl kt ⟨_,rfl⟩) (dA _)) (az (bn (rS (CX:=CXE P w) (E:=E) (k:=8+7*m+1+5) rfl (λ_=>rfl) hr rfl mT c0 bT eO (aa (pv 7) (aa (pv 1) (aa (pv 2) (aa (pv 3) aw))))))) cB)
   (ay (ee (cU lM (pv 5) (cg (v:= .str ":fold") rfl kf ⟨_,rfl⟩) (dA _)) (az (bn (rS (CX:=CXE P w) (E:=E) (k:=8+7*m+1+2) rfl (λ_=>rfl) b5 rfl mF c2 bF eO (aa (pv 7) (aa (pv 1) (aa (pv 2) (aa (pv 3) aw))))))) cB)
   (ay (ee (cU lM (pv 5) (cg (v:= .str ":scan") rfl ks ⟨_,rfl⟩) (dA _)) (az (bn (rS (CX:=CXE P w) (E:=E) (k:=8+7*m+1+2) rfl (λ_=>rfl) b5 rfl mS c1 bS eO (aa (pv 7) (aa (pv 1) (aa (pv 2) (aa (pv 3) aw))))))) cB)
   (az (bn (FC (CX:=CXE P w) (E:=E) (k:=8+7*m+1) (i:=7) (ps:=["left","right","its_tally"]) rfl (λ_=>rfl) c4 rfl (bz rfl) eO (aa (pv 2) (aa (pv 1) (aa (pv 3) aw)))))))))))))),?_⟩
  case hfree=>
   intro y hy e;have:y.1∈(["below"]:List Str):=(by decide+kernel:∀p∈(aA (wp WV)).names,p.2=dw->p.1∈(["below"]:List Str)) y hy e;rw [aL.mp this];exact rX rfl
  have nz:¬(decide (Wv (((J++[a1]).map WA).length:Nat)=Wv 0)=true):=λe=>by
   have:=X1 (of_decide_eq_true e);rw [am,bp,iA] at this;omega
  refine ⟨_,rfl,fx,z.CF,dx,_,.ref l,rfl,hx,T.cF,T.fm,wO _ _,l,_,rfl,eR hl,rfl,_,rfl,gp (λe=>absurd e nz) λ_=> ?_⟩;refine ⟨_,rfl,fx,n,mo,mr,rfl,a6,λH1 bl s1 c5=> ?_⟩;have b3:=s1 _ _ hx;have b6:=s1 _ _ hl;have la:N7 ((J++[a1]).map WA) (-1)=some (.ref a1):=by
   have e:OB ((J++[a1]).map WA).length (-1)=some J.length:=by
    unfold OB;rw [if_neg (by decide),am,bp,iA,if_pos (by omega)];congr 1;omega
   unfold N7;rw [e];show ((J++[a1]).map WA)[J.length]? =_;rw [bW,iw (aO _),KU];rfl
  have b4:=s1 _ _ c6;refine ⟨_,rfl,fx,z.CF,dx,_,.ref l,rfl,b3,T.cF,T.fm,wO _ _,1,rfl,l,_,_,.ref a1,rfl,rfl,eR b6,la,a1,_,((0:Nat):Int),_,rfl,rfl,Wu b4,f_ rfl,?_⟩;refine ⟨_,rfl,fx,z.CF,dx,_,.ref l,rfl,b3,T.cF,T.fm,wO _ _,1,rfl,l,_,_,.ref a1,rfl,rfl,eR b6,la,a1,_,((1:Nat):Int),_,rfl,rfl,Wu b4,f_ rfl,?_⟩;have z1:Fz CY W t H H1:=Yd hW s1;have a5:=z1.k3 hw;refine ⟨wt _ a5,λg c' d7 pm b7 H4 made=> ?_⟩;have z4:Fz CY W t H H4:=z1.trans (Yh (wt _ a5) made (wm _ _ _ _ _ _ made));have U:=z4.k3 hw;have M:Tl CY H4 t cn:=by
   obtain ⟨dy,y⟩:=tl;refine ⟨dy,made.keep _ _ (s1 _ _ y) λz=> ?_⟩;obtain ⟨ps,c7,_⟩:=wt _ a5;have:=s1 _ _ y;rw [z,c7] at this;cases this
  have f:=made.fn;have N:=made.code;obtain ⟨c8,d6,d8,a3,d5,d4⟩:=id made.code;have a4:Ro CY W (SQ z.CF H4 g c' bl n mr):=λt' Ha Hb zz ⟨r1,r2,r3⟩=>⟨by rw [f];exact zz.frz (r1.trans f),by rw [a3];exact zz.frz (r2.trans a3),zz.fun_ nf r3⟩
  have lv:SQ z.CF H4 g c' bl n mr H4:=⟨rfl,rfl,(Yh (CY:=CY) (t:=t) (wt _ a5) made (wm _ _ _ _ _ _ made)).fun_ nf c5⟩
  have fh:FnH H4 g:=⟨_,_,_,_,f⟩
  have wo:=G6 hn mr;have a0:=z4.arr ne ha;have Y:=z4.arr ne b1;have a2:=hQ.trans z4;cases mo with
  | at_ k=>
   refine ⟨_,rfl,rfl,_,rfl,gp (λ_=> ?_) λe=>absurd (show decide (Ww ⟨(aE ":at").toArray⟩=Ww ":at")=true by decide+kernel) e⟩;refine ⟨_,rfl,_,rfl,_,rfl,_,rfl,_,rfl,λL d=>⟨_,FA L (o _ _ d.old I),?_⟩⟩;exact ⟨_,_,_,k,g,x,y,t,a,b,cn,rfl,wo,a4,lv,(uw (vm o (o _ _ d.old I) d rfl rfl rfl f N hn O ih)),fh,a0,Y,u,r,M,U,a2⟩
  | table=>
   refine ⟨_,rfl,rfl,_,rfl,gp (λe=>absurd e (by decide+kernel)) λ_=> ?_⟩;refine ⟨_,rfl,rfl,_,rfl,gp (λ_=> ?_) λe=>absurd (by decide+kernel) e⟩;refine ⟨_,rfl,_,rfl,_,rfl,_,rfl,λL d=>⟨_,FT L (o _ _ d.old I),?_⟩⟩;exact ⟨_,_,_,g,x,y,t,a,b,cn,rfl,wo,a4,lv,(uw (vm o (o _ _ d.old I) d rfl rfl rfl f N hn O ih)),fh,a0,Y,u,r,M,U,a2⟩
  | fold=>
   refine ⟨_,rfl,rfl,_,rfl,gp (λe=>absurd e (by decide+kernel)) λ_=> ?_⟩;refine ⟨_,rfl,rfl,_,rfl,gp (λe=>absurd e (by decide+kernel)) λ_=> ?_⟩;refine ⟨_,rfl,rfl,_,rfl,gp (λ_=> ?_) λe=>absurd (by decide+kernel) e⟩;refine ⟨_,rfl,_,rfl,_,rfl,_,rfl,λL d=>⟨_,FF L (o _ _ d.old I),?_⟩⟩;exact ⟨_,_,_,g,x,y,t,a,b,cn,rfl,wo,a4,lv,(uw (vm o (o _ _ d.old I) d rfl rfl rfl f N hn O ih)),fh,a0,Y,u,r,M,U,a2⟩
  | scan=>
   refine ⟨_,rfl,rfl,_,rfl,gp (λe=>absurd e (by decide+kernel)) λ_=> ?_⟩;refine ⟨_,rfl,rfl,_,rfl,gp (λe=>absurd e (by decide+kernel)) λ_=> ?_⟩;refine ⟨_,rfl,rfl,_,rfl,gp (λe=>absurd e (by decide+kernel)) λ_=> ?_⟩;refine ⟨_,rfl,rfl,_,rfl,gp (λ_=> ?_) λe=>absurd (by decide+kernel) e⟩;refine ⟨_,rfl,_,rfl,_,rfl,_,rfl,λL d=>⟨_,FS L (o _ _ d.old I),?_⟩⟩;exact ⟨_,_,_,g,x,y,t,a,b,cn,rfl,wo,a4,lv,(uw (vm o (o _ _ d.old I) d rfl rfl rfl f N hn O ih)),fh,a0,Y,u,r,M,U,a2⟩
  | swap=>
   refine ⟨_,rfl,rfl,_,rfl,gp (λe=>absurd e (by decide+kernel)) λ_=> ?_⟩;refine ⟨_,rfl,rfl,_,rfl,gp (λe=>absurd e (by decide+kernel)) λ_=> ?_⟩;refine ⟨_,rfl,rfl,_,rfl,gp (λe=>absurd e (by decide+kernel)) λ_=> ?_⟩;refine ⟨_,rfl,rfl,_,rfl,gp (λe=>absurd e (by decide+kernel)) λ_=> ?_⟩;refine ⟨g,rfl,fh,_,rfl,_,rfl,_,rfl,fh,λL d=> ?_⟩;obtain ⟨fd,F1,F2⟩:=vm (P:=P) (w:=w) o (o _ _ d.old I) d rfl rfl rfl f N hn O ih;exact ⟨fd,_,F1 L λ_ _ e=>e,F2,y,x,t,b,a,cn,rfl,lv,Y,a0,r,u,M,U,a2⟩
end
end Rk
namespace Rk
open PySem PySem.Spec PyProof.Rows L2 Rx
open PySem.W (CodeHd tabObj kla_obj kla_fn FnAt envX fnMade fnX)
open Vaarrb (Arr)
open Vaarrc (Counted countedEnv plainEnv countedWork plainWork Mod twoNames readFun usesOf)
open OneM (ER Prj K8)
theorem jM{b:List Nat}:∀{ms:List Mod},(tH b ms).2=true->b∈fj
 | [],h=>vP.mp h
 | .fold::r,h=>jM (ms:=r) h
 | .scan::r,h=>jM (ms:=r) h
 | .swap::r,h=>jM (ms:=r) h
 | .table::r,h=>jM (ms:=r) h
 | .at_ _::r,h=>jM (ms:=r) h
abbrev hA(s d:List Int):Arr:=⟨Y7 s,d⟩
def zg(t:List Nat)(xs xd ys yd:List Int):Except Int (Arr×Nat):=if 256<t.length then .error (-21) else match mU t with
 | .error _=> .error (-22)
 | .ok f=>if (hA xs xd).ok=true/\(hA ys yd).ok=true then (if (tH f.base f.mods).2=true then (match (ol f.base f.mods).two (hA xs xd) (hA ys yd) 0 with
   | .ok r=> .ok r
   | .error k=> .error (-((k:Nat):Int))) else .error (-11)) else .error (-20)
def ze(h:256<t.length):zg t xs xd ys yd= .error (-21):=if_pos h
def C6{t:List Nat}(h:t.length<=256)(e:mU t= .error p):zg t xs xd ys yd= .error (-22):=by
 unfold zg;rw [if_neg (by omega),e]
def Gj {t:List Nat} {xs xd ys yd:List Int} {f:Ec} (h:t.length<=256) (e:mU t= .ok f):zg t xs xd ys yd=if (hA xs xd).ok=true/\(hA ys yd).ok=true then (if (tH f.base f.mods).2=true then (match (ol f.base f.mods).two (hA xs xd) (hA ys yd) 0 with
   | .ok r=> .ok r
   | .error k=> .error (-((k:Nat):Int))) else .error (-11)) else .error (-20):=by
 unfold zg;rw [if_neg (by omega),e]
def Rm(q:Nat->af×af)(o:Except Int (Arr×Nat))(E:XK):Prop:=∀k p,o= .error k->p∈iO q->p.2=k->∀a b,E (.ref p.1) a b
def inR(l:List Int):Prop:=∀n∈l,-(2^64)<n/\n<2^64
def okE(l:List Int):Prop:=∀n∈l,dQ n=true
def MH(K:ac)(CA CY:af)(W:Hp->Prop)(q:Nat->af×af):Sp:=λl H Q E=>∃(a i k h j f:af) (t:List Nat) (d e b c:List Int),l=[.ref a,.ref i,.ref k,.ref h,.ref j,.ref f]/\
 SqL K H a (tv t)/\SqL K H i (iv d)/\SqL K H k (iv e)/\SqL K H h (iv b)/\SqL K H j (iv c)/\inR d/\inR b/\okE e/\okE c/\Tl CY H f 0/\W H/\
 (∀r m,zg t d e b c= .ok (r,m)->r.ok=true->∀g z,Fz CY W f H g->Tl CY g f m->Y5 CA g z r->Q (.ref z) g)/\Rm q (zg t d e b c) E
def Lq(q)(h:1<=k/\k<=8):(cls q k,-((k:Nat):Int))∈iO q:=by
 obtain ⟨b,a⟩:=h
 match k,b,a with
 | 1,_,_=>simp [iO,cls]
 | 2,_,_=>simp [iO,cls]
 | 3,_,_=>simp [iO,cls]
 | 4,_,_=>simp [iO,cls]
 | 5,_,_=>simp [iO,cls]
 | 6,_,_=>simp [iO,cls]
 | 7,_,_=>simp [iO,cls]
 | 8,_,_=>simp [iO,cls]
def IY(c:okE d):(hA s d).ok=true↔(aQ (Y7 s)=true/\d.length=ai (Y7 s)):=by
 rw [Xj];exact ⟨λ⟨a,b,_⟩=>⟨a,b⟩,λ⟨a,b⟩=>⟨a,b,c⟩⟩
section
variable {P:be} {w:bN} {K:ac} {mg:Str→Option al} {G:cz→Prop} {CA CY:af} {q:Nat→af×af} {W:Hp→Prop} {z:Adr}
def Ny:WB ["f","x_shape","x_data","y_shape","y_data","tally","function","x","y"] ["f","x_shape","x_data","y_shape","y_data","tally"] (aA jD):=⟨rfl,rfl,rfl,by decide+kernel,rfl,by decide+kernel,by decide+kernel⟩
def EY(hW:Wf W)(ne:CA≠CY)(A:Ars K mg CA q)(T:Txt K mg z)(D:Dx K mg "worked_with_two" jD ["f","x_shape","x_data","y_shape","y_data","tally"])(kR:Pk P w K mg G 7 "read_function" ["text"] (BK z K))(kh:Pk P w K mg G 3 "handed_array" ["shape","data"] (BN K CA q))(ku:Pk P w K mg G 2 "uses_of" ["function"] (Pl z))(km:Pk P w K mg G 1 "may_with_two" ["uses"] Pn)(kw:∀m,Pk P w K mg G (8+7*m) "work_of_two" MI (Ph z.CF CA CY W q m)):Pk P w K mg G 65 "worked_with_two" ["f","x_shape","x_data","y_shape","y_data","tally"] (MH K CA CY W q):= .of D λf fd F b1 B=>by
 have e0:z.CL=(q 0).1:=by
  have:=T.mL.symm.trans A.an.t0.at_;injection this with this;injection this
 have e1:z.CN=(q 1).1:=by
  have:=T.mN.symm.trans A.an.t1.at_;injection this with this;injection this
 refine F.okX Ny (λvs H Q E h=> ?_) (λb4 A' b0 s H vs Q E v h=> ?_)
 ·obtain ⟨a,sx,dx,sy,dy,U,t,xs,xd,ys,yd,rfl,_⟩:=h;rfl
 ·obtain ⟨a,sx,dx,sy,dy,U,t,xs,xd,ys,yd,rfl,ha,a7,a9,a6,a8,rx,ry,ex,ey,tl,hw,hq,I⟩:=h;obtain ⟨m,b2,hm⟩:∃m,m<=8/\∀f,mU t= .ok f->f.mods.length=m:=by
   cases e:mU t with
   | error p=>exact ⟨0,by omega,λf h=>by cases h⟩
   | ok f=>exact ⟨f.mods.length,(zu e).2.1,λf' h=>by cases h;rfl⟩
  have hk:8+7*m<=64:=by omega
  refine ⟨_,ay (cj (i:=6) Ny.nd rfl (bz rfl) (ci kR B v eO (aa (pv 0) aw)))
   (ay (cj (i:=7) Ny.nd rfl (bz rfl) (ci kh B v eO (aa (pv 1) (aa (pv 2) aw))))
   (ay (cj (i:=8) Ny.nd rfl (bz rfl) (ci kh B v eO (aa (pv 3) (aa (pv 4) aw))))
   (ay (ee (Dd (re (ci km B v cw (aa (ci ku B v cw (aa (pv 6) aw)) aw)))) (az (eK rfl rfl A.an.t3.xc A.i3 rfl A.an.t3.at_ ig)) cB)
   (az (bn (ci (kw m) B v eO (aa (pv 6) (aa (pv 7) (aa (pv 8) (aa (pv 5) aw)))) hk)))))),?_⟩
  refine ⟨_,rfl,a,t,rfl,ha,λc b C=> ?_,λc j J H1 x C hf=> ?_,λc p J b b3 C hd=> ?_⟩
  ·rw [e0];exact I _ _ (ze c) (by simp [iO]:((q 0).1,(-21:Int))∈iO q) rfl none b
  rotate_left
  ·rw [e1];exact I _ _ (C6 c J) (by simp [iO]:((q 1).1,(-22:Int))∈iO q) rfl _ b
  obtain ⟨g1,g2,g3⟩:=zu J;have d:=Gj (xs:=xs) (xd:=xd) (ys:=ys) (yd:=yd) c J;have g:¬((hA xs xd).ok=true/\(hA ys yd).ok=true)->∀b:Hp,E (.ref (q 2).1) none b:=λno b=>I _ _ (by rw [d,if_neg no]) (by simp [iO]:((q 2).1,(-20:Int))∈iO q) rfl none b;refine ⟨_,rfl,_,rfl,sx,dx,xs,xd,rfl,C.seq a7,C.seq a9,rx,λa5 a4 H2 x2 s2 h2=> ?_,λno b s'=>g (λy=>no ((IY ex).mp y.1)) b⟩;have o:=(IY ex).mpr ⟨a5,a4⟩;have l:=C.trans s2;refine ⟨_,rfl,_,rfl,sy,dy,ys,yd,rfl,l.seq a6,l.seq a8,ry,λa3 a2 H3 x3 Y h3=> ?_,λno b s'=>g (λy=>no ((IY ey).mp y.2)) b⟩;have n:=(IY ey).mpr ⟨a3,a2⟩;have a1:=l.trans Y;rw [if_pos ⟨o,n⟩] at d;have M:=(hf.same s2).same Y;refine ⟨_,rfl,x,j,rfl,M,g1,g2,λH4 O=>⟨_,rfl,_,rfl,?_⟩⟩;have L:=a1.trans O;cases u:(tH j.base j.mods).2 with
  | false=>
   refine I _ _ (by rw [d,if_neg (by rw [u];exact λz=>nomatch z)]) (by simp [iO]:((q 3).1,(-11:Int))∈iO q) rfl none _
  | true=>
   rw [if_pos u] at d;have hn:=jM u;have zf:=Yd (CY:=CY) (t:=U) hW L;have N:=G6 hn j.mods;refine ⟨_,rfl,_,rfl,_,rfl,_,rfl,x,x2,x3,U,j.base,j.mods,hA xs xd,hA ys yd,0,rfl,M.same O,hn,hm j J,(h2.same Y).same O,h3.same O,o,n,tl.same L,zf.k3 hw,λr m' e b zr z5 a0 hz=> ?_,λk e b z5=> ?_⟩
   ·exact hq r m' (by rw [d,e]) (N.ok _ _ o n r ((N.prj _ _).ok e)) b zr (zf.trans z5) a0 hz
   ·exact I _ _ (by rw [d,e]) (Lq q (N.k8 _ _ k ((N.prj _ _).err e))) rfl none b
end
end Rk
namespace Rk
open PySem PySem.Spec PyProof.Rows L2 Rx
open PySem.W (CodeHd tabObj kla_obj kla_fn FnAt envX fnMade fnX)
open Vaarrb (Arr)
open Vaarrc (Counted countedEnv plainEnv countedWork plainWork Mod twoNames readFun usesOf scalarOf prim2)
open OneM (ER Prj K8)
structure F2 (K:ac) (mg:Str→Option al):Prop where
 f_product:Dx K mg "product" vA ["extents"]
 f_is_shape:Dx K mg "is_shape" sM ["extents"]
 f_sized:Dx K mg "sized" Bc ["extents"]
 f_handed_array:Dx K mg "handed_array" mj ["shape","data"]
 f_scalar:Dx K mg "scalar" xW ["number"]
 f_vector:Dx K mg "vector" xV ["numbers"]
 f_filled:Dx K mg "filled" ye ["shape","number"]
 f_as_vector:Dx K mg "as_vector" qG ["array"]
 f_pieces_of:Dx K mg "pieces_of" qD ["data","count","size"]
 f_joined:Dx K mg "joined" xZ ["pieces"]
 f_cell_pieces:Dx K mg "cell_pieces" nX ["array"]
 f_array_of_pieces:Dx K mg "array_of_pieces" jE ["cell_shape","pieces"]
 f_frame_of:Dx K mg "frame_of" sP ["array","rank"]
 f_cell_shape_of:Dx K mg "cell_shape_of" lu ["array","rank"]
 f_cells_of:Dx K mg "cells_of" sQ ["array","rank"]
 f_check_counts:Dx K mg "check_counts" mm ["numbers"]
 f_repeated:Dx K mg "repeated" sK ["things","counts"]
 f_longer_shape:Dx K mg "longer_shape" mh ["left","right"]
 f_stretched:Dx K mg "stretched" qC ["things","extents"]
 f_pairs_of:Dx K mg "pairs_of" sL ["left_shape","left_things","right_shape","right_things"]
 f_as_number:Dx K mg "as_number" qH ["holds"]
 f_not_too_big:Dx K mg "not_too_big" nU ["number"]
 f_check_division:Dx K mg "check_division" jZ ["b"]
 f_check_truths:Dx K mg "check_truths" ml ["numbers"]
 f_plus:Dx K mg "plus" GV ["a","b"]
 f_minus:Dx K mg "minus" Bd ["a","b"]
 f_times:Dx K mg "times" Bb ["a","b"]
 f_divided:Dx K mg "divided" vE ["a","b"]
 f_modulo:Dx K mg "modulo" xY ["a","b"]
 f_smaller:Dx K mg "smaller" vx ["a","b"]
 f_greater:Dx K mg "greater" vD ["a","b"]
 f_is_less:Dx K mg "is_less" vC ["a","b"]
 f_is_at_most:Dx K mg "is_at_most" ph ["a","b"]
 f_is_equal:Dx K mg "is_equal" sN ["a","b"]
 f_is_another:Dx K mg "is_another" pi ["a","b"]
 f_both:Dx K mg "both" He ["a","b"]
 f_at_least_one:Dx K mg "at_least_one" mn ["a","b"]
 f_one_number:Dx K mg "one_number" o_ ["x"]
 f_reshape:Dx K mg "reshape" vz ["x","y"]
 f_take:Dx K mg "take" GS ["x","y"]
 f_drop:Dx K mg "drop" Hd ["x","y"]
 f_rotate:Dx K mg "rotate" xX ["x","y"]
 f_beside:Dx K mg "beside" yf ["array","other"]
 f_join:Dx K mg "join" G_ ["x","y"]
 f_same:Dx K mg "same" GU ["x","y"]
 f_pick:Dx K mg "pick" GW ["x","y"]
 f_find:Dx K mg "find" Hc ["x","y"]
 f_keep:Dx K mg "keep" GZ ["x","y"]
 f_is_scalar_of_two:Dx K mg "is_scalar_of_two" ji ["name"]
 f_scalar_of_two:Dx K mg "scalar_of_two" lq ["name","x","y"]
 f_move_of_two:Dx K mg "move_of_two" nV ["name","x","y"]
 f_base_of_two:Dx K mg "base_of_two" nY ["base","x","y","tally"]
 f_gathered:Dx K mg "gathered" sO ["frame","shape","answers"]
 f_told_shape:Dx K mg "told_shape" oZ ["work","zeros"]
 f_work_each:Dx K mg "work_each" qB ["work","frame","cells","zeros","tally"]
 f_own_cells:Dx K mg "own_cells" qE ["y"]
 f_folded:Dx K mg "folded" x_ ["work","start","cells","tally"]
 f_scanned:Dx K mg "scanned" vy ["work","start","cells","tally"]
 f_fold_of_two:Dx K mg "fold_of_two" nW ["work","x","y","tally"]
 f_scan_of_two:Dx K mg "scan_of_two" nS ["work","x","y","tally"]
 f_at_of_two:Dx K mg "at_of_two" qF ["work","rank","x","y","tally"]
 f_table_of_two:Dx K mg "table_of_two" me ["work","x","y","tally"]
 f_function_below:Dx K mg "function_below" jY ["function"]
 f_worked_with_two:Dx K mg "worked_with_two" jD ["f","x_shape","x_data","y_shape","y_data","tally"]
structure Sc2T (P:be) (w:bN) (K:ac) (mg:Str→Option al):Prop where
 ex:∃aD a0 a1 a2 a3 a4 a5 a6 a7 a8 a9 a10 a11 a12:af,mg "OF_TWO"=some (.ref aD)∧KDic P w K aD [("+",.ref a0),("-",.ref a1),("*",.ref a2),("Div",.ref a3),("Mod",.ref a4),("Min",.ref a5),("Max",.ref a6),("<",.ref a7),("<=",.ref a8),("=",.ref a9),("/=",.ref a10),("And",.ref a11),("Or",.ref a12)]∧mg "plus"=some (.ref a0)∧mg "minus"=some (.ref a1)∧mg "times"=some (.ref a2)∧mg "divided"=some (.ref a3)∧mg "modulo"=some (.ref a4)∧mg "smaller"=some (.ref a5)∧mg "greater"=some (.ref a6)∧mg "is_less"=some (.ref a7)∧mg "is_at_most"=some (.ref a8)∧mg "is_equal"=some (.ref a9)∧mg "is_another"=some (.ref a10)∧mg "both"=some (.ref a11)∧mg "at_least_one"=some (.ref a12)
structure Mv2T (P:be) (w:bN) (K:ac) (mg:Str→Option al):Prop where
 ex:∃aD a0 a1 a2 a3 a4 a5 a6 a7 a8:af,mg ot=some (.ref aD)∧KDic P w K aD [("Reshape",.ref a0),("Take",.ref a1),("Drop",.ref a2),("Rotate",.ref a3),("Join",.ref a4),("Pick",.ref a5),("Find",.ref a6),("Same",.ref a7),("Keep",.ref a8)]∧mg "reshape"=some (.ref a0)∧mg "take"=some (.ref a1)∧mg "drop"=some (.ref a2)∧mg "rotate"=some (.ref a3)∧mg "join"=some (.ref a4)∧mg "pick"=some (.ref a5)∧mg "find"=some (.ref a6)∧mg "same"=some (.ref a7)∧mg "keep"=some (.ref a8)
section
variable {P:be} {w:bN} {K:ac} {mg:Str→Option al} {G:cz→Prop} {CA CY:af} {q:Nat→af×af} {W:Hp→Prop} {z:Adr}
abbrev NX(P:be)(w:bN)(K:ac)(mg:Str->Option al)(G:cz->Prop)(k:Nat)(ps:List Str)(b:List Nat->Option Sp)(c:List (Str×V))(n:List Nat):Prop:=(b n=none->kAt c ⟨n.toArray⟩=none)/\
  ∀d,b n=some d->∃g e,kAt c ⟨n.toArray⟩=some (.ref g)/\bq K (.ref g)=true/\Binds K e ps []/\∀a,G a->Wz P w K mg a (CXE P w) k g e ps d
def gk(m:Pk P w K mg G k0 i ps d)(j:mg i=some (.ref a))(o:k0<=k)(h:kAt g ⟨n.toArray⟩=some (.ref a))(l:c n=some d):NX P w K mg G k ps c g n:=by
 obtain ⟨f,v,u,t,s,r⟩:=m.ex;rw [u] at j;cases j;refine ⟨λe=>(by rw [l] at e;cases e),λx e=> ?_⟩;rw [l] at e;cases e;exact ⟨_,v,h,t,s,λb p=>(r b p).mono o⟩
def ic(d:a n=none)(c:kAt b ⟨n.toArray⟩=none):NX P w K mg G k ps a b n:=⟨λ_=>c,λf e=>by rw [d] at e;cases e⟩
def nO{n:List Nat}{f:Arr->Arr->Except Nat Arr}(h:dj n=none)(e:oj n=f):Ej CA q n=some (pO CA q f):=by
 unfold Ej;rw [h,<-e]
def jC{n:List Nat}(h:dj n=some f):Ej CA q n=none:=by
 unfold Ej;rw [h]
def jB{n:List Nat}(h:dj n=some f):AU q n=some (lC q f):=by
 unfold AU;rw [h];rfl
def nN{n:List Nat}(h:dj n=none):AU q n=none:=by
 unfold AU;rw [h];rfl
def yU{F:List Nat->Prop}(h0:F (aE "+"))(B:F (aE "-"))(A:F (aE "*"))(y:F (aE "Div"))(x:F (aE "Mod"))(v:F (aE "Min"))(u:F (aE "Max"))(t:F (aE "<"))(s:F (aE "<="))(r:F (aE "="))(o:F (aE "/="))(m:F (aE "And"))(l:F (aE "Or"))(k:F (aE "Reshape"))(j:F (aE "Take"))(i:F (aE "Drop"))(h:F (aE "Rotate"))(g:F (aE "Join"))(f:F (aE "Pick"))(d:F (aE "Find"))(c:F (aE "Same"))(b:F (aE "Keep")):∀n∈fj,F n:=by
 intro n p;have a:n=aE "+"\/n=aE "-"\/n=aE "*"\/n=aE "Div"\/n=aE "Mod"\/n=aE "Min"\/n=aE "Max"\/n=aE "<"\/n=aE "<="\/n=aE "="\/n=aE "/="\/n=aE "And"\/n=aE "Or"\/n=aE "Reshape"\/n=aE "Take"\/n=aE "Drop"\/n=aE "Rotate"\/n=aE "Join"\/n=aE "Pick"\/n=aE "Find"\/n=aE "Same"\/n=aE "Keep":=by simpa [fj] using p
 rcases a with e | e | e | e | e | e | e | e | e | e | e | e | e | e | e | e | e | e | e | e | e | e<;>rw [e]
 ·exact h0
 ·exact B
 ·exact A
 ·exact y
 ·exact x
 ·exact v
 ·exact u
 ·exact t
 ·exact s
 ·exact r
 ·exact o
 ·exact m
 ·exact l
 ·exact k
 ·exact j
 ·exact i
 ·exact h
 ·exact g
 ·exact f
 ·exact d
 ·exact c
 ·exact b
def UM:dj (aE "+")=some (λa b=>eP (a+b)):=by first | rfl | kernel_rfl
def UL:dj (aE "-")=some (λa b=>eP (a - b)):=by first | rfl | kernel_rfl
def UK:dj (aE "*")=some (λa b=>eP (a*b)):=by first | rfl | kernel_rfl
def UJ:dj (aE "Div")=some En:=by first | rfl | kernel_rfl
def UI:dj (aE "Mod")=some xf:=by first | rfl | kernel_rfl
def UH:dj (aE "Min")=some (λa b=> .ok (if a<b then a else b)):=by first | rfl | kernel_rfl
def UG:dj (aE "Max")=some (λa b=> .ok (if a<b then b else a)):=by first | rfl | kernel_rfl
def UF:dj (aE "<")=some (λa b=>ga (decide (a<b))):=by first | rfl | kernel_rfl
def UE:dj (aE "<=")=some (λa b=>ga (decide (a<=b))):=by first | rfl | kernel_rfl
def UD:dj (aE "=")=some (λa b=>ga (decide (a=b))):=by first | rfl | kernel_rfl
def Rc:dj (aE "/=")=some (λa b=>ga (decide (a≠b))):=by first | rfl | kernel_rfl
def Rb:dj (aE "And")=some xg:=by first | rfl | kernel_rfl
def Ra:dj (aE "Or")=some A3:=by first | rfl | kernel_rfl
def R9:dj (aE "Reshape")=none:=by first | rfl | kernel_rfl
def SK:oj (aE "Reshape")=λa b=>b_ (gd a b):=by first | rfl | kernel_rfl
def R8:dj (aE "Take")=none:=by first | rfl | kernel_rfl
def SJ:oj (aE "Take")=λa b=>b_ (nF a b):=by first | rfl | kernel_rfl
def R7:dj (aE "Drop")=none:=by first | rfl | kernel_rfl
def SI:oj (aE "Drop")=λa b=>b_ (nG a b):=by first | rfl | kernel_rfl
def R6:dj (aE "Rotate")=none:=by first | rfl | kernel_rfl
def SH:oj (aE "Rotate")=λa b=>b_ (iz a b):=by first | rfl | kernel_rfl
def R5:dj (aE "Join")=none:=by first | rfl | kernel_rfl
def SG:oj (aE "Join")=λa b=>b_ (r_ a b):=by first | rfl | kernel_rfl
def R4:dj (aE "Pick")=none:=by first | rfl | kernel_rfl
def SE:oj (aE "Pick")=λa b=>b_ (kZ a b):=by first | rfl | kernel_rfl
def R3:dj (aE "Find")=none:=by first | rfl | kernel_rfl
def SD:oj (aE "Find")=λa b=>b_ (k_ a b):=by first | rfl | kernel_rfl
def R1:dj (aE "Same")=none:=by first | rfl | kernel_rfl
def SA:oj (aE "Same")=λa b=>b_ (jK a b):=by first | rfl | kernel_rfl
def R0:dj (aE "Keep")=none:=by first | rfl | kernel_rfl
def Sz:oj (aE "Keep")=λa b=>b_ (oO a b):=by first | rfl | kernel_rfl
def Qm(S:Sc2T P w K mg)(Gv:Pk P w K mg G 2 "plus" ["a","b"] (lC q (λa b=>eP (a+b))))(B8:Pk P w K mg G 2 "minus" ["a","b"] (lC q (λa b=>eP (a - b))))(B7:Pk P w K mg G 2 "times" ["a","b"] (lC q (λa b=>eP (a*b))))(vu:Pk P w K mg G 2 "divided" ["a","b"] (lC q En))(xS:Pk P w K mg G 2 "modulo" ["a","b"] (lC q xf))(vp:Pk P w K mg G 1 "smaller" ["a","b"] (lC q (λa b=> .ok (if a<b then a else b))))(vt:Pk P w K mg G 1 "greater" ["a","b"] (lC q (λa b=> .ok (if a<b then b else a))))(vr:Pk P w K mg G 2 "is_less" ["a","b"] (lC q (λa b=>ga (decide (a<b)))))(oX:Pk P w K mg G 2 "is_at_most" ["a","b"] (lC q (λa b=>ga (decide (a<=b)))))(sH:Pk P w K mg G 2 "is_equal" ["a","b"] (lC q (λa b=>ga (decide (a=b)))))(oY:Pk P w K mg G 2 "is_another" ["a","b"] (lC q (λa b=>ga (decide (a≠b)))))(GC:Pk P w K mg G 2 "both" ["a","b"] (lC q xg))(md:Pk P w K mg G 2 "at_least_one" ["a","b"] (lC q A3)):DicF P w K mg G "OF_TWO" fj 2 ["a","b"] (AU q):=by
 obtain ⟨s,J,I,H,E,D,C,B,A,y,x,v,u,t,f,r,p,o,n,m,l,k,j,i,h,g,e,d,c⟩:=S.ex;refine ⟨s,_,f,r,yU (F:=NX P w K mg G 2 ["a","b"] (AU q) _) ?g0 ?g1 ?g2 ?g3 ?g4 ?g5 ?g6 ?g7 ?g8 ?g9 ?g10 ?g11 ?g12 ?g13 ?g14 ?g15 ?g16 ?g17 ?g18 ?g19 ?g20 ?g21⟩
 (case g0=>exact gk Gv p (by decide) (by first | rfl | kernel_rfl) (jB UM))
 (case g1=>exact gk B8 o (by decide) (by first | rfl | kernel_rfl) (jB UL))
 (case g2=>exact gk B7 n (by decide) (by first | rfl | kernel_rfl) (jB UK))
 (case g3=>exact gk vu m (by decide) (by first | rfl | kernel_rfl) (jB UJ))
 (case g4=>exact gk xS l (by decide) (by first | rfl | kernel_rfl) (jB UI))
 (case g5=>exact gk vp k (by decide) (by first | rfl | kernel_rfl) (jB UH))
 (case g6=>exact gk vt j (by decide) (by first | rfl | kernel_rfl) (jB UG))
 (case g7=>exact gk vr i (by decide) (by first | rfl | kernel_rfl) (jB UF))
 (case g8=>exact gk oX h (by decide) (by first | rfl | kernel_rfl) (jB UE))
 (case g9=>exact gk sH g (by decide) (by first | rfl | kernel_rfl) (jB UD))
 (case g10=>exact gk oY e (by decide) (by first | rfl | kernel_rfl) (jB Rc))
 (case g11=>exact gk GC d (by decide) (by first | rfl | kernel_rfl) (jB Rb))
 (case g12=>exact gk md c (by decide) (by first | rfl | kernel_rfl) (jB Ra))
 (case g13=>exact ic (nN R9) (by first | rfl | kernel_rfl))
 (case g14=>exact ic (nN R8) (by first | rfl | kernel_rfl))
 (case g15=>exact ic (nN R7) (by first | rfl | kernel_rfl))
 (case g16=>exact ic (nN R6) (by first | rfl | kernel_rfl))
 (case g17=>exact ic (nN R5) (by first | rfl | kernel_rfl))
 (case g18=>exact ic (nN R4) (by first | rfl | kernel_rfl))
 (case g19=>exact ic (nN R3) (by first | rfl | kernel_rfl))
 (case g20=>exact ic (nN R1) (by first | rfl | kernel_rfl))
 (case g21=>exact ic (nN R0) (by first | rfl | kernel_rfl))
def Qn(S:Mv2T P w K mg)(vq:Pk P w K mg G 4 "reshape" ["x","y"] (pO CA q λa b=>b_ (gd a b)))(Gs:Pk P w K mg G 5 "take" ["x","y"] (pO CA q λa b=>b_ (nF a b)))(GA:Pk P w K mg G 5 "drop" ["x","y"] (pO CA q λa b=>b_ (nG a b)))(xR:Pk P w K mg G 3 "rotate" ["x","y"] (pO CA q λa b=>b_ (iz a b)))(Gy:Pk P w K mg G 5 "join" ["x","y"] (pO CA q λa b=>b_ (r_ a b)))(Gw:Pk P w K mg G 4 "pick" ["x","y"] (pO CA q λa b=>b_ (kZ a b)))(Gz:Pk P w K mg G 4 "find" ["x","y"] (pO CA q λa b=>b_ (k_ a b)))(Gu:Pk P w K mg G 4 "same" ["x","y"] (pO CA q λa b=>b_ (jK a b)))(Gx:Pk P w K mg G 5 "keep" ["x","y"] (pO CA q λa b=>b_ (oO a b))):DicF P w K mg G ot fj 5 ["x","y"] (Ej CA q):=by
 obtain ⟨n,y,x,v,u,t,s,r,p,o,c,m,l,k,j,i,h,g,f,e,d⟩:=S.ex;refine ⟨n,_,c,m,yU (F:=NX P w K mg G 5 ["x","y"] (Ej CA q) _) ?g0 ?g1 ?g2 ?g3 ?g4 ?g5 ?g6 ?g7 ?g8 ?g9 ?g10 ?g11 ?g12 ?g13 ?g14 ?g15 ?g16 ?g17 ?g18 ?g19 ?g20 ?g21⟩
 (case g0=>exact ic (jC UM) (by first | rfl | kernel_rfl))
 (case g1=>exact ic (jC UL) (by first | rfl | kernel_rfl))
 (case g2=>exact ic (jC UK) (by first | rfl | kernel_rfl))
 (case g3=>exact ic (jC UJ) (by first | rfl | kernel_rfl))
 (case g4=>exact ic (jC UI) (by first | rfl | kernel_rfl))
 (case g5=>exact ic (jC UH) (by first | rfl | kernel_rfl))
 (case g6=>exact ic (jC UG) (by first | rfl | kernel_rfl))
 (case g7=>exact ic (jC UF) (by first | rfl | kernel_rfl))
 (case g8=>exact ic (jC UE) (by first | rfl | kernel_rfl))
 (case g9=>exact ic (jC UD) (by first | rfl | kernel_rfl))
 (case g10=>exact ic (jC Rc) (by first | rfl | kernel_rfl))
 (case g11=>exact ic (jC Rb) (by first | rfl | kernel_rfl))
 (case g12=>exact ic (jC Ra) (by first | rfl | kernel_rfl))
 (case g13=>exact gk vq l (by decide) (by first | rfl | kernel_rfl) (nO R9 SK))
 (case g14=>exact gk Gs k (by decide) (by first | rfl | kernel_rfl) (nO R8 SJ))
 (case g15=>exact gk GA j (by decide) (by first | rfl | kernel_rfl) (nO R7 SI))
 (case g16=>exact gk xR i (by decide) (by first | rfl | kernel_rfl) (nO R6 SH))
 (case g17=>exact gk Gy h (by decide) (by first | rfl | kernel_rfl) (nO R5 SG))
 (case g18=>exact gk Gw g (by decide) (by first | rfl | kernel_rfl) (nO R4 SE))
 (case g19=>exact gk Gz f (by decide) (by first | rfl | kernel_rfl) (nO R3 SD))
 (case g20=>exact gk Gu e (by decide) (by first | rfl | kernel_rfl) (nO R1 SA))
 (case g21=>exact gk Gx d (by decide) (by first | rfl | kernel_rfl) (nO R0 Sz))
def Wt(PE PW:af):Hp->Prop:=λH=>mz H PE Rl/\mz H PW Rj
def sr(k1:∀ps,H Pt=some (.tbl ps)->a Pt=some (.tbl ps))(k2:∀b o,H b=some (.frz o X9)->a b=some (.frz o X9))(h:mz H Pt qs):mz a Pt qs:=by
 obtain ⟨ps,j,i,g⟩:=h;refine ⟨ps,k1 _ j,i,λp f=> ?_⟩;rcases g p f with y | ⟨k,d,c⟩
 ·exact .inl y
 ·exact .inr ⟨k,d,c.to λo e=>k2 _ _ e⟩
def Nn{PE PW}:Wf (Wt PE PW):=λH e b a ⟨d,c⟩=>⟨sr (b _) a d,sr (b _) a c⟩
def Cc(m:Made H j Pt qs qual g l k)(f:mz H Pt qs)(d:a≠Pt)(h:mz H a us):mz j a us:=by
 obtain ⟨c,i,_⟩:=f;exact sr (λc e=>m.keep _ _ e d) (λb o e=>m.keep _ _ e λz=>by rw [z,i] at e;cases e) h
def yY(h:H Pt=some (.tbl #[])):mz H Pt qs:=⟨#[],h,trivial,λp _=> .inl rfl⟩
def Gd(mg:Str->Option al)(cE PE a PW:af):cz->Prop:=λb=>nH b cE PE/\nH b a PW/\Xa b mg
def Kd{cE PE c PW}:∀b a,Pp b a->Gd mg cE PE c PW b->Gd mg cE PE c PW a:=λb a e ⟨g,f,d⟩=>⟨g.keeps e,f.keeps e,d.keeps e⟩
structure All2 (P:be) (w:bN) (K:ac) (mg:Str→Option al) (CA CY:af) (q:Nat→af×af) (z:Adr) (cE PE cW PW:af):Prop where
 A:Ars K mg CA q
 M:MkA P w K mg CA
 Y:Tly P w K mg CY
 T:Txt K mg z
 FK:FnK K z
 Wd:Wds mg
 F:F2 K mg
 S:Sc2T P w K mg
 V:Mv2T P w K mg
 DE:DfC K mg "work_each_pair" WU ["work","frame","pairs","left_shape","right_shape","tally"] cE
 DW:DfC K mg "work_of_two" WV MI cW
 ne:CA≠CY
 nf:z.CF≠CY
 np:PE≠PW
def NT{cE PE k PW}(L:All2 P w K mg CA CY q z cE PE k PW)(kR:Pk P w K mg (Gd mg cE PE k PW) 7 "read_function" ["text"] (BK z K))(ku:Pk P w K mg (Gd mg cE PE k PW) 2 "uses_of" ["function"] (Pl z))(km:Pk P w K mg (Gd mg cE PE k PW) 1 "may_with_two" ["uses"] Pn):
  Pk P w K mg (Gd mg cE PE k PW) 65 "worked_with_two" ["f","x_shape","x_data","y_shape","y_data","tally"] (MH K CA CY (Wt PE PW) q):=by
 obtain ⟨A,M,Y,T,FK,Wd,F,S,V,DE,DW,d,nf,np⟩:=L;have a0:∀a,Gd mg cE PE k PW a->nH a cE PE/\Xa a mg:=λb h=>⟨h.1,h.2.2⟩
 have U:∀a,Gd mg cE PE k PW a->nH a k PW/\Xa a mg:=λb h=>h.2;have e:Wf (Wt PE PW):=Nn;have a2:∀H p c g B f,Made H p PE Rl c g B f->Wt PE PW H->Wt PE PW p:=λH p c g B f m h=>⟨m.tab,Cc m h.1 (dO np) h.2⟩
 have a1:∀H p c g B f,Made H p PW Rj c g B f->Wt PE PW H->Wt PE PW p:=λH p c g B f m h=>⟨Cc m h.2 np h.1,m.tab⟩
 generalize b2:Gd mg cE PE k PW=G at kR ku km a0 U ⊢;have hE:∀b b',Pp b b'->G b->G b':=by rw [<-b2];exact Kd
 have j:Pk P w K mg G _ _ _ _:=F0 F.f_product;have k2:Pk P w K mg G _ _ _ _:=F3 A F.f_is_shape j;have o:Pk P w K mg G _ _ _ _:=Ls A F.f_sized k2;have k4:Pk P w K mg G _ _ _ _:=IU A M F.f_handed_array k2 j;have k5:Pk P w K mg G _ _ _ _:=IP A M F.f_scalar;have k6:Pk P w K mg G _ _ _ _:=IM A M F.f_vector;have k7:Pk P w K mg G _ _ _ _:=IW A M F.f_filled j;have y:Pk P w K mg G _ _ _ _:=Ci A F.f_as_vector k6;have k9:Pk P w K mg G _ _ _ _:=IQ A F.f_pieces_of;have x:Pk P w K mg G _ _ _ _:=IT F.f_joined;have v:Pk P w K mg G _ _ _ _:=xT A F.f_cell_pieces k9 j;have b1:Pk P w K mg G _ _ _ _:=Cf A M F.f_array_of_pieces x;have u:Pk P w K mg G _ _ _ _:=Lx A F.f_frame_of;have t:Pk P w K mg G _ _ _ _:=As A F.f_cell_shape_of;have n:Pk P w K mg G _ _ _ _:=LB A M F.f_cells_of k9 j u t;have Q:Pk P w K mg G _ _ _ _:=Lz A F.f_check_counts;have O:Pk P w K mg G _ _ _ _:=Ce A F.f_repeated;have N:Pk P w K mg G _ _ _ _:=IS A F.f_longer_shape;have b0:Pk P w K mg G _ _ _ _:=Ar A F.f_stretched O j;have J:Pk P w K mg G _ _ _ _:=Lw A F.f_pairs_of b0;have l:Pk P w K mg G _ _ _ _:=Cj F.f_as_number;have s:Pk P w K mg G _ _ _ _:=IR A F.f_not_too_big;have I:Pk P w K mg G _ _ _ _:=Ch A F.f_check_division;have E:Pk P w K mg G _ _ _ _:=IN A F.f_check_truths;have ks:DicF P w K mg G "OF_TWO" fj 2 ["a","b"] (AU q):=Qm S (Gv s F.f_plus) (B8 s F.f_minus) (B7 s F.f_times) (vu I F.f_divided) (xS I F.f_modulo) (vp A F.f_smaller) (vt A F.f_greater) (vr l F.f_is_less) (oX l F.f_is_at_most) (sH l F.f_is_equal) (oY l F.f_is_another) (GC A E F.f_both) (md A E F.f_at_least_one);have r:Pk P w K mg G _ _ _ _:=NR A F.f_one_number;have a9:Pk P w K mg G _ _ _ _:=IX A M F.f_beside k7;have a3:DicF P w K mg G ot fj 5 ["x","y"] (Ej CA q):=Qn V (vq A M F.f_reshape Q o k7 j) (Gs A M F.f_take r y o j) (GA A M F.f_drop r y j) (xR A M F.f_rotate r j) (Gy A M F.f_join a9 o) (Gw A M F.f_pick o v x) (Gz A M F.f_find t u v n) (Gu A F.f_same k5) (Gx A F.f_keep y Q o v O b1);have a8:Pk P w K mg G _ _ _ _:=Qk F.f_is_scalar_of_two ks;have a7:Pk P w K mg G _ _ _ _:=Qh A M F.f_scalar_of_two ks N J;have a6:Pk P w K mg G _ _ _ _:=Qj F.f_move_of_two a3;have a5:Pk P w K mg G _ _ _ _:=SM e d Y F.f_base_of_two a8 a7 a6;have D:Pk P w K mg G _ _ _ _:=Cg A M F.f_gathered o x;have C:Pk P w K mg G _ _ _ _:=Qi A F.f_own_cells n;have a4:Pk P w K mg G _ _ _ _:=LC T FK F.f_function_below;have kp:∀i,4<=i->PkB P w K mg G (i+4) "work_each_pair" ["work","frame","pairs","left_shape","right_shape","tally"] (Nu P w K mg CA CY (Wt PE PW) q i):=λi h=>NQ (by omega) e d A DE a0 hE (λH h=>h.1) a2 k7 (NS (by omega) e d A F.f_work_each D (NO (by omega) e A Y F.f_told_shape));have kw:=Gr e d nf A T Wd DW U hE (λH h=>h.2) a1 a5 a4 (λi h=>Ql e d A F.f_at_of_two (kp i h) u t n N J) (λi h=>NP e d A F.f_table_of_two (kp i h) o n)
  (λi h=>Ly (by omega) e d F.f_fold_of_two (IV d F.f_folded) C y) (λi h=>Lu h e d A F.f_scan_of_two (E_ e d F.f_scanned) C y D)
 exact EY e d A T F.f_worked_with_two kR k4 ku km kw
end
end Rk
namespace Rk
open PySem PySem.Spec PyProof.Rows L2 Rx
open PySem.W (CodeHd tabObj kla_obj kla_fn FnAt envX TabsAt)
open Vaarrb (Arr)
open Vaarrc (countedWork plainWork twoNames readFun usesOf)
def Hh(o:Except Int (Arr×Nat)):List Int:=match o with
 | .ok r=>[0,(r.2:Int)]
 | .error k=>[k]
abbrev Ea:List Str:=["f","x_shape","x_data","y_shape","y_data"]
def QY(K:ac)(W:Hp->Prop)(q:Nat->af×af)(a sx dx sy dy:af)(t:List Nat)(xs xd ys yd:List Int)(vs:List V)(H:Hp)(Q:VK)(E:XK):Prop:=SqL K H a (tv t)/\SqL K H sx (iv xs)/\SqL K H dx (iv xd)/\SqL K H sy (iv ys)/\SqL K H dy (iv yd)/\W H/\
 (∀r m,zg t xs xd ys yd= .ok (r,m)->∀b l,b l=some (.lst (iv [0,(m:Int)]))->Q (.ref l) b)/\Rm q (zg t xs xd ys yd) E
def Pm(K:ac)(W:Hp->Prop)(q:Nat->af×af):Sp:=λf H Q E=>∃(a h j g i:af) (t:List Nat) (d e b c:List Int),f=[.ref a,.ref h,.ref j,.ref g,.ref i]/\inR d/\inR b/\okE e/\okE c/\QY K W q a h j g i t d e b c f H Q E
section
variable {P:be} {w:bN} {K:ac} {mg:Str→Option al} {G:cz→Prop} {CA CY:af} {q:Nat→af×af} {W:Hp→Prop} {z:Adr}
def Rf:WB ["f","x_shape","x_data","y_shape","y_data","tally"] Ea (aA WW):=⟨rfl,rfl,rfl,by decide+kernel,rfl,by decide+kernel,by decide+kernel⟩
def EZ(hW:Wf W)(Y:Tly P w K mg CY)(D:Dx K mg "tallied_with_two" WW Ea)(kw:Pk P w K mg G 65 "worked_with_two" ["f","x_shape","x_data","y_shape","y_data","tally"] (MH K CA CY W q)):Pk P w K mg G 66 "tallied_with_two" Ea (Pm K W q):= .of D λf fd F M hb=>by
 obtain ⟨fi,a1,mi,bi,Fi⟩:=Y.mi;refine F.okX Rf (λO H Q E h=> ?_) (λa2 A' o s H O Q E I h=> ?_)
 ·obtain ⟨a,C,L,B,J,t,v,A,p,u,rfl,_⟩:=h;rfl
 ·obtain ⟨a,C,L,B,J,t,v,A,p,u,rfl,U,T,ex,ey,ha,g,n,d,k,hw,hq,hE⟩:=h;have j:Wy (1+1) _:=I.mono (by decide);refine ⟨_,ay (cj (i:=5) Rf.nd rfl (bz rfl) (Dj mi (C7 Y Fi) j rfl Y.mY bi .nil cw))
   (ay (iF (ci kw hb I eO (aa (pv 0) (aa (pv 1) (aa (pv 2) (aa (pv 3) (aa (pv 4) (aa (pv 5) aw))))))))
   (az (bn (eA (aa bR (aa (iP (pv 5) rfl) aw)))))),?_⟩
  intro y c ny nd a0;refine ⟨y,c,rfl,ao,λH5 h1 h2=>⟨rfl,?_⟩⟩;have b:WG H H5:=WI ny nd h2;have N:=Yd (CY:=CY) (t:=y) hW b;refine ⟨_,rfl,_,rfl,_,rfl,_,rfl,_,rfl,_,rfl,a,C,L,B,J,y,t,v,A,p,u,rfl,b.seq ha,b.seq g,b.seq n,b.seq d,b.seq k,U,T,ex,ey,⟨c,h1⟩,N.k3 hw,λr m e ok H' x _ ⟨dt,ht⟩ hx=> ?_,hE⟩;refine ⟨_,rfl,y,CY,dt,_,.int (m:Int),rfl,ht,Y.cY,Y.nw,K1 m,(by show 2<=a_;decide),λl hl=>hq r m e _ l ?_⟩;rw [ao];rfl
def Ss:X4 Ea [] Ea (kU (qY fo)):=⟨rfl,rfl,rfl,by decide+kernel,rfl,rfl,(λx h=>by cases h),by decide+kernel,Ba (by decide+kernel),by decide+kernel⟩
def Sq:WB Ea Ea (aA fo):=⟨rfl,rfl,rfl,by decide+kernel,rfl,by decide+kernel,by decide+kernel⟩
def Lj(i:inR xs)(f:inR ys)(p:okE xd)(o:okE yd)(m:base.get? g=some (tZ name qual (zl (qY fo)) (Gq (qY fo)) (kU (qY fo)) cl j e c))(b:base.CodeRec (.ref e) qual)(C:X5 base cl Ea [.ref a,.ref sx,.ref dx,.ref sy,.ref dy])(n:G base)(k:Pk P w K mg G 66 "tallied_with_two" Ea (Pm K W q)):
  Wz P w K mg base (CXE P w) 67 g (kla_fn name qual (zl (qY fo)) (Gq (qY fo)) (kU (qY fo)) cl j (.ref e) c) [] (λvs H Q E=>vs=[]/\QY K W q a sx dx sy dy t xs xd ys yd vs H Q E):=by
 refine Ow m b Ss C (λvs H Q E h=>by obtain ⟨rfl,_⟩:=h;rfl) λr d s H vs Q E l h=> ?_;obtain ⟨rfl,h⟩:=h;refine ⟨_,ci k n l (M9 rfl) (aa (pv 0) (aa (pv 1) (aa (pv 2) (aa (pv 3) (aa (pv 4) aw))))),?_⟩;exact ⟨_,rfl,_,rfl,_,rfl,_,rfl,_,rfl,a,sx,dx,sy,dy,t,xs,xd,ys,yd,rfl,i,f,p,o,h⟩
def Q0(K:ac)(Pt PE PW:af):Sp:=λk H Q _=>∃(a g i f h:af) (t:List Nat) (d e b c:List Int),k=[.ref a,.ref g,.ref i,.ref f,.ref h]/\SqL K H a (tv t)/\SqL K H g (iv d)/\SqL K H i (iv e)/\SqL K H f (iv b)/\SqL K H h (iv c)/\inR d/\inR b/\okE e/\okE c/\
 H Pt=some (.tbl #[])/\H PE=some (.tbl #[])/\H PW=some (.tbl #[])/\∀j l,j l=some (.lst (iv (Hh (zg t d e b c))))->Q (.ref l) j
def NG{f c Pt cE PE Y PW fA}{kV i u U}(lk:K.lookup f=some ⟨oc,od,.func (bM "tally2" "tally2" (dH fo) (dB fo) (aA fo) .none kV i u an (.ref c) U),a0⟩)(I:cv K (.ref c) "tally2"=true)(C:nH base c Pt)(T:Gd mg cE PE Y PW base)(n1:PE≠Pt)(n2:PW≠Pt)(X:AnsT K mg q)(o:Df K mg "answer_of" WN ["call"] fA a1)(kt:Pk P w K mg (Gd mg cE PE Y PW) 66 "tallied_with_two" Ea (Pm K (Wt PE PW) q)):
  Wz P w K mg base (CXE P w) 69 f (bM "tally2" "tally2" (dH fo) (dB fo) (aA fo) .none kV i u an (.ref c) U) Ea (Q0 K Pt PE PW):=by
 refine FU lk I Sq (λvs H Q E h=>by obtain ⟨a,sx,dx,sy,dy,t,xs,xd,ys,yd,rfl,_⟩:=h;rfl) λA' N s H vs Q E hr h=> ?_;obtain ⟨a,sx,dx,sy,dy,t,xs,xd,ys,yd,rfl,ha,A,D,v,B,rx,ry,ex,ey,d,M,J,O⟩:=h;refine ⟨_,az (bn (Dm (CX:=CXE P w) (c:=c) (P:=Pt) (E:=E0) (y:="call") rfl C T.2.2 rfl (λ_=>rfl) hr rfl o.at_ o.fn.kp o.bd cw ?hf)),?_⟩
 case hf=>
  intro y hy e;have:y.1∈Ea:=(by decide+kernel:∀p∈(kU (qY fo)).names,p.2=dw->p.1∈Ea) y hy e;have h5:y.1="f"\/y.1="x_shape"\/y.1="x_data"\/y.1="y_shape"\/y.1="y_data":=by simpa [Ea] using this
  rcases h5 with r | r | r | r | r<;>rw [r]<;>exact rX rfl
 refine ⟨#[],d,trivial,rfl,λb' g c' u a3 L=> ?_⟩;have CC:=L.clo (fr:=Ea) (fvs:=[.ref a,.ref sx,.ref dx,.ref sy,.ref dy]) rfl (by decide+kernel) (λx hx=>(by decide+kernel:∀p∈(kU (qY fo)).names,p.2=dw->p.1∈Ea) _ hx rfl) (λj x b=>by
  match j,b with
  | 0,b=>cases b;exact ⟨0,.ref a,rfl,rfl,rfl,.inl rfl⟩
  | 1,b=>cases b;exact ⟨1,.ref sx,rfl,rfl,rfl,.inl rfl⟩
  | 2,b=>cases b;exact ⟨2,.ref dx,rfl,rfl,rfl,.inl rfl⟩
  | 3,b=>cases b;exact ⟨3,.ref sy,rfl,rfl,rfl,.inl rfl⟩
  | 4,b=>cases b;exact ⟨4,.ref dy,rfl,rfl,rfl,.inl rfl⟩
  | j+5,b=>simp [Ea] at b)
 have GL:=Lj (P:=P) (w:=w) (t:=t) (a:=a) (sx:=sx) (dx:=dx) (sy:=sy) (dy:=dy) rx ry ex ey L.obj L.code CC (Kd _ _ L.old T) kt;refine ⟨_,NH o.fn X GL (.all λus n=>match us,n with | [],_=>rfl) ⟨_,_,_,_,L.obj⟩,rfl,λE' hE=>⟨rfl,vd ha d,vd A d,vd D d,vd v d,vd B d,⟨yY (by rw [aC n1];exact M),yY (by rw [aC n2];exact J)⟩,λr m e H' l n=>O H' l (by rw [n,e];rfl),λk p e hp hk a2 H'=>hE _ _ _ ⟨p,hp,rfl,λl n=>O _ l ?_⟩⟩⟩;rw [ao,e,hk];rfl
end
structure Kls (K:ac) (mg:Str→Option al) (nm qn:Str) (st:dm) (ps:List Str) (C:af):Prop where
 at_:mg nm=some (.ref C)
 cls:Cls K C
 ex:∃f fd,Mk K C f∧Binds K fd ps []∧Fun K "__init__" qn st f fd
def kls_mk{K}{st}{kV t b j d}(X:K.In h)(G:h.Ns ax mg)(e:aj K ax nm=some (some (.ref C)))(p:iV K C JT=true)(r:jF K C=true)(o:mG K C=true)(n:cM K (.ref C) "__setattr__"=some (some (.builtin "object.__setattr__")))(mk:oQ K C=true)(q:bq K (.ref C)=true)(a:cM K (.ref C) "__init__"=some (some (.ref f)))(i:mH K (.ref f)=true)(l:K.lookup f=some ⟨w,v,.func (bM "__init__" qn (dH st) (dB st) (aA st) .none kV t b m j d),u⟩)(c:cv K j qn=true)(k:bq K (.ref f)=true)(s:∀(kV g b:al) (m:Option af) (cdv d:al) (us:List al),us.length=ps.length->A8 (bM "__init__" qn (dH st) (dB st) (aA st) .none kV g b m cdv d) ⟨us,[]⟩=pure (ps.zip us)):Kls K mg nm qn st ps C:=
 ⟨bo X G e,⟨p,r,o,n⟩,f,_,⟨mk,a,i,q⟩,(qb l c k).binds s,qb l c k⟩
structure MthF (K:ac) (nm qn:Str) (st:dm) (ps:List Str) (C:af):Prop where
 ex:∃f fd,Meth K C nm f∧Binds K fd ps []∧Fun K nm qn st f fd
def mth_mk{K}{st}{kV m b g d}(a:cM K (.ref C) nm=some (some (.ref f)))(i:mH K (.ref f)=true)(l:K.lookup f=some ⟨p,o,.func (bM nm qn (dH st) (dB st) (aA st) .none kV m b h g d),n⟩)(c:cv K g qn=true)(k:bq K (.ref f)=true)(j:∀(kV e b:al) (h:Option af) (cdv d:al) (us:List al),us.length=ps.length->A8 (bM nm qn (dH st) (dB st) (aA st) .none kV e b h cdv d) ⟨us,[]⟩=pure (ps.zip us)):MthF K nm qn st ps C:=
 ⟨f,_,⟨a,i,k⟩,(qb l c k).binds j,qb l c k⟩
def dfc_mk{K}{st}{kV b d e}(X:K.In h)(G:h.Ns ax mg)(a:aj K ax x=some (some (.ref f)))(l:K.lookup f=some ⟨n,m,.func (bM x x (dH st) (dB st) (aA st) .none kV b d g (.ref j) e),i⟩)(c:cv K (.ref j) x=true)(k:bq K (.ref f)=true)(o:∀(kV b d:al) (g:Option af) (cdv e:al) (us:List al),us.length=ps.length->A8 (bM x x (dH st) (dB st) (aA st) .none kV b d g cdv e) ⟨us,[]⟩=pure (ps.zip us)):DfC K mg x st ps j:=
 ⟨f,n,m,g,i,kV,b,d,e,l,c,bo X G a,k,(qb l c k).binds o⟩
def dx_mk{K}{st}{kV b d cdv e}(X:K.In h)(G:h.Ns ax mg)(a:aj K ax x=some (some (.ref f)))(l:K.lookup f=some ⟨n,m,.func (bM x x (dH st) (dB st) (aA st) .none kV b d g cdv e),j⟩)(c:cv K cdv x=true)(k:bq K (.ref f)=true)(i:∀(kV b d:al) (g:Option af) (cdv e:al) (us:List al),us.length=ps.length->A8 (bM x x (dH st) (dB st) (aA st) .none kV b d g cdv e) ⟨us,[]⟩=pure (ps.zip us)):Dx K mg x st ps:=⟨_,_,X3 X G a l c k i⟩
structure Ini (K:ac) (q:Nat→af×af):Prop where
 i2:aj K (q 2).2 "__init__"=some none
 i3:aj K (q 3).2 "__init__"=some none
 i4:aj K (q 4).2 "__init__"=some none
 i5:aj K (q 5).2 "__init__"=some none
 i6:aj K (q 6).2 "__init__"=some none
 i7:aj K (q 7).2 "__init__"=some none
 i8:aj K (q 8).2 "__init__"=some none
 i9:aj K (q 9).2 "__init__"=some none
 ia:aj K (q 10).2 "__init__"=some none
 ib:aj K (q 11).2 "__init__"=some none
structure Con (K:ac):Prop where
 kE:∃t,aj K ax "MOST_EXTENTS"=some (some (.int 5 t))
 kD:∃t,aj K ax "MOST_DATA"=some (some (.int 1024 t))
 kF:∃t,aj K ax "FILL"=some (some (.int 0 t))
 kB:∃t,aj K ax "BIGGEST"=some (some (.int 1000000000000000000 t))
 k1:∃t,aj K ax "WITH_ONE"=some (some (.int 1 t))
 k2:∃t,aj K ax "WITH_TWO"=some (some (.int 2 t))
 wa:∃t,aj K ax "AT"=some (some (.str ":at" t))
 wt:∃t,aj K ax "TABLE"=some (some (.str ":table" t))
 wf:∃t,aj K ax "FOLD"=some (some (.str ":fold" t))
 ws:∃t,aj K ax "SCAN"=some (some (.str ":scan" t))
 ww:∃t,aj K ax "SWAP"=some (some (.str ":swap" t))
 b1:aj K ax "len"=some none
 b2:aj K ax "min"=some none
 b3:aj K ax "max"=some none
 b4:aj K ax "abs"=some none
 b5:aj K ax "list"=some none
 b6:aj K ax "tuple"=some none
 b7:aj K ax "range"=some none
 b8:aj K ax "zip"=some none
 b9:aj K ax "enumerate"=some none
 ba:aj K ax "reversed"=some none
 bb:aj K ax "sum"=some none
 bc:aj K ax "sorted"=some none
def con_mk{K}(c0:aj K ax "MOST_EXTENTS"=some (some (.int 5 t0)))(j:aj K ax "MOST_DATA"=some (some (.int 1024 t1)))(i:aj K ax "FILL"=some (some (.int 0 E)))(h:aj K ax "BIGGEST"=some (some (.int 1000000000000000000 D)))(g:aj K ax "WITH_ONE"=some (some (.int 1 C)))(f:aj K ax "WITH_TWO"=some (some (.int 2 B)))(e:aj K ax "AT"=some (some (.str ":at" A)))(d:aj K ax "TABLE"=some (some (.str ":table" z)))(c:aj K ax "FOLD"=some (some (.str ":fold" y)))(b:aj K ax "SCAN"=some (some (.str ":scan" x)))(a:aj K ax "SWAP"=some (some (.str ":swap" w)))(v:aj K ax "len"=some none)(u:aj K ax "min"=some none)(t:aj K ax "max"=some none)(s:aj K ax "abs"=some none)(r:aj K ax "list"=some none)(q:aj K ax "tuple"=some none)(p:aj K ax "range"=some none)(o:aj K ax "zip"=some none)(n:aj K ax "enumerate"=some none)(m:aj K ax "reversed"=some none)(l:aj K ax "sum"=some none)(k:aj K ax "sorted"=some none):Con K:=⟨⟨_,c0⟩,⟨_,j⟩,⟨_,i⟩,⟨_,h⟩,⟨_,g⟩,⟨_,f⟩,⟨_,e⟩,⟨_,d⟩,⟨_,c⟩,⟨_,b⟩,⟨_,a⟩,v,u,t,s,r,q,p,o,n,m,l,k⟩
def all2_mk{K}{c CY j cE PE y PW Q t s}(X:K.In h)(G:h.Ns ax mg)(R:Reads K mg)(A:AnsT K mg q)(I:Ini K q)(C:Con K)(g:Kls K mg "Array" "Array.__init__" WO ["self","shape","data"] c)(E:Wx K c "shape")(D:Wx K c "data")(f:Kls K mg "Tally" "Tally.__init__" WT ["self"] CY)(B:Wx K CY "worked")(MY:MthF K "add_one" "Tally.add_one" WX ["self"] CY)(KF:Kls K mg "Function" "Function.__init__" WP ["self","base","modifiers"] j)(F:F2 K mg)(S:Sc2T P w K mg)(V:Mv2T P w K mg)(DE:DfC K mg "work_each_pair" WU ["work","frame","pairs","left_shape","right_shape","tally"] cE)(DW:DfC K mg "work_of_two" WV MI y)(L:c≠CY)(J:j≠CY)(H:PE≠PW)(DB:Df K mg "uses_of_base" WQ ["base"] Q a1)(d:Df K mg "may_with_two" WR ["uses"] t p)(e:Df K mg "uses_of" WS ["function"] s n):
  Ars K mg c q/\Tly P w K mg CY/\Pk P w K mg (Gd mg cE PE y PW) 65 "worked_with_two" ["f","x_shape","x_data","y_shape","y_data","tally"] (MH K c CY (Wt PE PW) q):=by
 obtain ⟨z,N,o,fY,a0,T,i,DY,GR⟩:=R;have m:=λ{x:Str} {v:al} (h:aj K ax x=some (some v))=>bo X G h;have b:=λ{x:Str} (h:aj K ax x=some none)=>lG X G h;have k:Ars K mg c q:=⟨A,I.i2,I.i3,I.i4,I.i5,I.i6,I.i7,I.i8,I.i9,I.ia,I.ib,g.at_,g.cls,E,D,C.kE.imp λ_ h=>m h,C.kD.imp λ_ h=>m h,C.kF.imp λ_ h=>m h,C.kB.imp λ_ h=>m h,b C.b1,b C.b2,b C.b3,b C.b4,b C.b5,b C.b6,b C.b7,b C.b8,b C.b9,b C.ba,b C.bb,b C.bc⟩
 have Y:Tly P w K mg CY:=⟨f.at_,f.cls,B,f.ex,MY.ex⟩
 have u:j=z.CF:=by
  have:=KF.at_.symm.trans T.mF;injection this with this;injection this
 obtain ⟨M,l,Ma,ba,Fa⟩:=g.ex;obtain ⟨O,r,Mf,bf,Ff⟩:=KF.ex;have U:UsT mg:=⟨C.k1.imp λ_ h=>m h,C.k2.imp λ_ h=>m h⟩
 have Wm:MwT mg:=⟨C.wf.imp λ_ h=>m h,C.ws.imp λ_ h=>m h,C.ww.imp λ_ h=>m h⟩
 refine ⟨k,Y,NT (z:=z) ⟨k,⟨M,l,Ma,ba,λa=>IG k Fa⟩,Y,T,⟨O,r,by rw [<-u];exact Mf,Ff,bf⟩,⟨C.wa.imp λ_ h=>m h,C.wt.imp λ_ h=>m h,C.wf.imp λ_ h=>m h,C.ws.imp λ_ h=>m h⟩,F,S,V,DE,DW,L,by rw [<-u];exact J,H⟩
  ⟨N,o,i.at_,i.fn.kp,i.bd,λa _=>GR P w a⟩ ⟨s,n,e.at_,e.fn.kp,e.bd,λa _=>IB e.fn T U Wm DB d⟩ ⟨t,p,d.at_,d.fn.kp,d.bd,λa _=>Gn d.fn U⟩⟩
def tally2_eq(h:∀x∈ns,0<=x/\x<=255):AL ns xs xd ys yd=Hh (zg (ns.map λb=>b.toNat) xs xd ys yd):=by
 unfold AL Te;have e:Tg [[6],ns,xs,xd,ys,yd]=some (.tally2 (ns.map λb=>b.toNat) (hA xs xd) (hA ys yd)):=by
  show (tU ns).map (λf=>UY f (FY xs xd) (FY ys yd))=_;rw [I_ h];rfl
 rw [e];show Tf (PD (.tally2 (ns.map λb=>b.toNat) (hA xs xd) (hA ys yd)))=_;generalize (ns.map λb=>b.toNat)=t;unfold PD Vaarrc.withFun;dsimp only;by_cases c:256<t.length
 ·rw [if_pos c,ze c];rfl
 rw [if_neg c];cases d:mU t with
 | error p=>rw [C6 (by omega) d];rfl
 | ok f=>
  rw [Gj (by omega) d];dsimp only;by_cases a:(hA xs xd).ok=true/\(hA ys yd).ok=true
  ·rw [if_pos a,if_pos a];unfold Vaarrc.tally2;by_cases u:(tH f.base f.mods).2=true
   ·rw [if_pos u,if_pos u];have g:=(XS f.base f.mods).two (hA xs xd) (hA ys yd);cases i:(ol f.base f.mods).two (hA xs xd) (hA ys yd) 0 with
    | error k=>rfl
    | ok r=>
     obtain ⟨r,m⟩:=r;rfl
   ·rw [if_neg u,if_neg u];rfl
  ·rw [if_neg a,if_neg a];rfl
def spTal2T(b:List (af×af))(K:ac):Sp:=λm H Q _=>∃(a h j g i:af) (t:List Nat) (e f c d:List Int),m=[.ref a,.ref h,.ref j,.ref g,.ref i]/\SqL K H a (tv t)/\SqL K H h (iv e)/\SqL K H j (iv f)/\SqL K H g (iv c)/\SqL K H i (iv d)/\inR e/\inR c/\okE f/\okE d/\
 (∀q∈b,H q.2=some (.tbl #[]))/\∀k l,k l=some (.lst (iv (Hh (zg t e f c d))))->Q (.ref l) k
def tally2_mk{K}{u f c Pt cE PE g PW k CY fA}{kV i p v}(X:K.In h)(G:h.Ns ax mg)(l:mg "tally2"=some (.ref u))(e:aj K ax "tally2"=some (some (.ref f)))(O:K.lookup f=some ⟨oc,od,.func (bM "tally2" "tally2" (dH fo) (dB fo) (aA fo) .none kV i p an (.ref c) v),a0⟩)(m:cv K (.ref c) "tally2"=true)(hT:V5 [(c,Pt),(cE,PE),(g,PW)] h)(hK:uW K=true)(N:PE≠Pt)(M:PW≠Pt)(n3:k≠CY)(DA:Df K mg "answer_of" WN ["call"] fA a1)(D:Dx K mg "tallied_with_two" WW Ea)(L:Ars K mg k q/\Tly P w K mg CY/\Pk P w K mg (Gd mg cE PE g PW) 65 "worked_with_two" ["f","x_shape","x_data","y_shape","y_data","tally"] (MH K k CY (Wt PE PW) q)):
  ∃(b:List (af×af)) (r:ip),V5 b h/\uW K=true/\(∀(s:aK) (us:List al),us.length=Ea.length->JV s r ⟨us,[]⟩ (Ea.zip us))/\
   ∀base:cz,K.In base->base.Ns ax mg->(∀q∈b,nH base q.1 q.2)->Xa base mg->Wz P w K mg base (CXE P w) 69 u r Ea (spTal2T b K):=by
 have e2:=l.symm.trans (bo X G e);cases e2;obtain ⟨A,Y,T⟩:=L;refine ⟨[(c,Pt),(cE,PE),(g,PW)],bM "tally2" "tally2" (dH fo) (dB fo) (aA fo) .none kV i p an (.ref c) v,hT,hK,λs us hu=>match us,hu with | [_,_,_,_,_],_=> .of_eq rfl,λbase _ _ j B=> ?_⟩;have c1:=j (c,Pt) (by simp);have c2:=j (cE,PE) (by simp);have c3:=j (g,PW) (by simp);refine FnOk.imp (NG O m c1 ⟨c2,c3,B⟩ N M A.an DA (EZ Nn Y D T)) λvs H Q E U=> ?_;obtain ⟨a,J,dx,I,dy,t,z,C,x,y,h1,h2,h3,h4,h5,h6,h7,h8,h9,o,d,n⟩:=U;exact ⟨a,J,dx,I,dy,t,z,C,x,y,h1,h2,h3,h4,h5,h6,h7,h8,h9,o,d (c,Pt) (by simp),d (cE,PE) (by simp),d (g,PW) (by simp),n⟩
end Rk
open Rk renaming kls_mk->Yi,dfc_mk->Yj,dx_mk->Yk
open PySem PySem.W PyProof.Rows
namespace Rk
open PySem PySem.Spec PyProof.Rows L2 Rx
abbrev cO (x:String) (a:Nat) (y:String) (b c:Nat) (l n p q r:Int) (s:af) (e:Int) (f:af) (g h:al) (i:af) (j k:Int) (m:Nat):Obj:=⟨.type "code",none,.fields #[.str (ae x) a,.str (ae y) b,.str (ae "/claim/cut.py") c,.int l 0,.int n 0,.int p 0,.int q 0,.int r 0,.ref s,.bool true,.int e 0,.ref f,.none,g,h,.ref i,.int j 0,.int k 0,.str (ae "/claim/cut.py") m],#[]⟩
abbrev fO (x y:String) (t:dm) (m:String) (k:Nat) (c:af):Obj:=⟨.type "function",none,.func (bM (ae x) (ae y) (dH t) (dB t) (aA t) .none .none .none (.str (ae m) k) none (.ref c) .none),#[]⟩
noncomputable def heapK (P:E6):ac:=
 (nat_lit 3,⟨(.type "dict"),none,(.dict (List.toArray (Y3 P "__name__" 165 (.str (ae "rankedfunctions.ranks") 1440)::Y3 P "__doc__" 166 .none::Y3 P "__package__" 167 .none::Y3 P "__loader__" 168 (.builtin "__main__.__loader__#opaque")::Y3 P "__spec__" 169 .none::Y3 P "__annotations__" 170 (.ref 6)::Y3 P "__builtins__" 171 (.ref 4)::Y3 P "__file__" 173 (.str (ae "/claim/cut.py") 172)::Y3 P "__cached__" 174 .none::Y3 P "SHAPE" 191 (.int (-1) 190)::Y3 P "RANK" 194 (.int (-2) 193)::Y3 P "INDEX" 197 (.int (-3) 196)::Y3 P "ZERO" 200 (.int (-4) 199)::Y3 P "BIG" 203 (.int (-5) 202)::Y3 P "SIZE" 206 (.int (-6) 205)::Y3 P "DOMAIN" 209 (.int (-7) 208)::Y3 P "EMPTY" 212 (.int (-8) 211)::Y3 P "USE" 215 (.int (-11) 214)::Y3 P "FORM" 218 (.int (-20) 217)::Y3 P "LONG" 221 (.int (-21) 220)::Y3 P "FUNCTION" 224 (.int (-22) 223)::Y3 P "WrongShape" 244 (.ref 24)::Y3 P "WrongRank" 264 (.ref 37)::Y3 P "NoSuchCell" 284 (.ref 50)::Y3 P "ByZero" 304 (.ref 63)::Y3 P "NumberTooBig" 324 (.ref 76)::Y3 P "NoShape" 344 (.ref 89)::Y3 P "OutsideDomain" 364 (.ref 102)::Y3 P "NothingToFold" 384 (.ref 115)::Y3 P "NoSuchUse" 404 (.ref 128)::Y3 P "NoArray" 424 (.ref 141)::Y3 P "TooLong" 444 (.ref 154)::Y3 P "NoFunction" 473 (.ref 174)::Y3 P "answer_of" 480 (.ref 184)::Y3 P "MOST_EXTENTS" 484 (.int (5) 483)::Y3 P "MOST_DATA" 486 (.int (1024) 485)::Y3 P "FILL" 488 (.int (0) 487)::Y3 P "Array" 519 (.ref 201)::Y3 P "product" 528 (.ref 212)::Y3 P "is_shape" 534 (.ref 217)::Y3 P "sized" 541 (.ref 224)::Y3 P "handed_array" 549 (.ref 231)::Y3 P "scalar" 556 (.ref 238)::Y3 P "vector" 563 (.ref 245)::Y3 P "filled" 571 (.ref 252)::Y3 P "as_vector" 578 (.ref 259)::Y3 P "pieces_of" 584 (.ref 264)::Y3 P "joined" 593 (.ref 271)::Y3 P "cell_pieces" 600 (.ref 278)::Y3 P "array_of_pieces" 608 (.ref 285)::Y3 P "frame_of" 616 (.ref 292)::Y3 P "cell_shape_of" 624 (.ref 299)::Y3 P "cells_of" 630 (.ref 304)::Y3 P "BLANKS" 637 (.ref 305)::Y3 P "COLON" 639 (.int (58) 638)::Y3 P "SIGNS" 647 (.ref 306)::Y3 P "Token" 679 (.ref 323)::Y3 P "bytes_of" 685 (.ref 332)::Y3 P "is_blank" 692 (.ref 339)::Y3 P "is_letter" 699 (.ref 346)::Y3 P "is_digit" 706 (.ref 353)::Y3 P "past_run" 715 (.ref 360)::Y3 P "past_modifier_word" 724 (.ref 367)::Y3 P "past_sign" 734 (.ref 374)::Y3 P "past_token" 743 (.ref 381)::Y3 P "token_from" 752 (.ref 388)::Y3 P "MOST_BYTES" 756 (.int (256) 755)::Y3 P "MOST_MODIFIERS" 758 (.int (8) 757)::Y3 P "WORDS_OF_ONE" 771 (.ref 389)::Y3 P "WORDS_OF_TWO" 787 (.ref 390)::Y3 P "FOLD" 789 (.str (ae ":fold") 788)::Y3 P "SCAN" 791 (.str (ae ":scan") 790)::Y3 P "TABLE" 793 (.str (ae ":table") 792)::Y3 P "SWAP" 795 (.str (ae ":swap") 794)::Y3 P "AT" 797 (.str (ae ":at") 796)::Y3 P "MODIFIER_WORDS" 803 (.ref 391)::Y3 P "RANK_DIGITS" 810 (.ref 392)::Y3 P "WITH_ONE" 812 (.int (1) 811)::Y3 P "WITH_TWO" 814 (.int (2) 813)::Y3 P "Function" 845 (.ref 409)::Y3 P "name_among" 854 (.ref 420)::Y3 P "read_modifiers" 866 (.ref 427)::Y3 P "read_function" 875 (.ref 434)::Y3 P "function_below" 882 (.ref 441)::Y3 P "uses_of_base" 889 (.ref 448)::Y3 P "may_with_two" 896 (.ref 455)::Y3 P "uses_of" 905 (.ref 462)::Y3 P "Tally" 942 (.ref 486)::Y3 P "check_counts" 951 (.ref 497)::Y3 P "repeated" 962 (.ref 504)::Y3 P "longer_shape" 973 (.ref 511)::Y3 P "stretched" 981 (.ref 518)::Y3 P "pairs_of" 993 (.ref 525)::Y3 P "gathered" 1001 (.ref 530)::Y3 P "told_shape" 1009 (.ref 537)::Y3 P "work_each" 1015 (.ref 542)::Y3 P "work_each_pair" 1029 (.ref 549)::Y3 P "at_of_two" 1046 (.ref 556)::Y3 P "table_of_two" 1052 (.ref 561)::Y3 P "own_cells" 1059 (.ref 568)::Y3 P "folded" 1071 (.ref 575)::Y3 P "fold_of_two" 1081 (.ref 582)::Y3 P "scanned" 1093 (.ref 589)::Y3 P "scan_of_two" 1106 (.ref 596)::Y3 P "one_number" 1115 (.ref 603)::Y3 P "reshape" 1121 (.ref 608)::Y3 P "take" 1136 (.ref 615)::Y3 P "drop" 1148 (.ref 622)::Y3 P "rotate" 1158 (.ref 629)::Y3 P "beside" 1166 (.ref 636)::Y3 P "join" 1177 (.ref 643)::Y3 P "pick" 1183 (.ref 648)::Y3 P "find" 1189 (.ref 653)::Y3 P "same" 1197 (.ref 660)::Y3 P "keep" 1207 (.ref 667)::Y3 P "MOVES" 1226 (.ref 668)::Y3 P "move_of_two" 1236 (.ref 675)::Y3 P "BIGGEST" 1240 (.int (1000000000000000000) 1239)::Y3 P "as_number" 1247 (.ref 682)::Y3 P "not_too_big" 1254 (.ref 689)::Y3 P "check_division" 1261 (.ref 696)::Y3 P "check_truths" 1269 (.ref 703)::Y3 P "plus" 1277 (.ref 710)::Y3 P "minus" 1285 (.ref 717)::Y3 P "times" 1293 (.ref 724)::Y3 P "divided" 1301 (.ref 731)::Y3 P "modulo" 1309 (.ref 738)::Y3 P "smaller" 1317 (.ref 745)::Y3 P "greater" 1325 (.ref 752)::Y3 P "is_less" 1333 (.ref 759)::Y3 P "is_at_most" 1341 (.ref 766)::Y3 P "is_equal" 1349 (.ref 773)::Y3 P "is_another" 1357 (.ref 780)::Y3 P "both" 1365 (.ref 787)::Y3 P "at_least_one" 1373 (.ref 794)::Y3 P "OF_TWO" 1400 (.ref 795)::Y3 P "is_scalar_of_two" 1407 (.ref 802)::Y3 P "scalar_of_two" 1413 (.ref 807)::Y3 P "base_of_two" 1425 (.ref 814)::Y3 P "work_of_two" 1439 (.ref 821)::Y3 P "worked_with_two" 1456 (.ref 828)::Y3 P "tallied_with_two" 1468 (.ref 835)::Y3 P "tally2" 1484 (.ref 842)::[])) 143),#[]⟩)::
 (nat_lit 23,⟨(.type "dict"),none,(.dict #[Y3 P "__module__" 232 (.str (ae "rankedfunctions.refusals") 187),Y3 P "__firstlineno__" 236 (.int (14) 235),Y3 P "__static_attributes__" 237 (.ref 22),Y3 P "__weakref__" 239 (.ref 25),Y3 P "__doc__" 240 .none] 3),#[]⟩)::
 (nat_lit 24,⟨(.type "type"),none,(.cls ⟨(ae "WrongShape"),[(.type "Exception")],[(.ref 24),(.type "Exception"),(.type "BaseException"),(.type "object")],23,(ae "WrongShape"),true,[],[],false,none,false⟩),#[(some (.ref 15)),none,(some (.str (ae "WrongShape") 225)),(some (.str (ae "WrongShape") 233)),(some (.builtin "Exception.__new__")),(some (.bool true))]⟩)::
 (nat_lit 36,⟨(.type "dict"),none,(.dict #[Y3 P "__module__" 252 (.str (ae "rankedfunctions.refusals") 187),Y3 P "__firstlineno__" 256 (.int (16) 255),Y3 P "__static_attributes__" 257 (.ref 35),Y3 P "__weakref__" 259 (.ref 38),Y3 P "__doc__" 260 .none] 3),#[]⟩)::
 (nat_lit 37,⟨(.type "type"),none,(.cls ⟨(ae "WrongRank"),[(.type "Exception")],[(.ref 37),(.type "Exception"),(.type "BaseException"),(.type "object")],36,(ae "WrongRank"),true,[],[],false,none,false⟩),#[(some (.ref 28)),none,(some (.str (ae "WrongRank") 245)),(some (.str (ae "WrongRank") 253)),(some (.builtin "Exception.__new__")),(some (.bool true))]⟩)::
 (nat_lit 49,⟨(.type "dict"),none,(.dict #[Y3 P "__module__" 272 (.str (ae "rankedfunctions.refusals") 187),Y3 P "__firstlineno__" 276 (.int (18) 275),Y3 P "__static_attributes__" 277 (.ref 48),Y3 P "__weakref__" 279 (.ref 51),Y3 P "__doc__" 280 .none] 3),#[]⟩)::
 (nat_lit 50,⟨(.type "type"),none,(.cls ⟨(ae "NoSuchCell"),[(.type "Exception")],[(.ref 50),(.type "Exception"),(.type "BaseException"),(.type "object")],49,(ae "NoSuchCell"),true,[],[],false,none,false⟩),#[(some (.ref 41)),none,(some (.str (ae "NoSuchCell") 265)),(some (.str (ae "NoSuchCell") 273)),(some (.builtin "Exception.__new__")),(some (.bool true))]⟩)::
 (nat_lit 62,⟨(.type "dict"),none,(.dict #[Y3 P "__module__" 292 (.str (ae "rankedfunctions.refusals") 187),Y3 P "__firstlineno__" 296 (.int (20) 295),Y3 P "__static_attributes__" 297 (.ref 61),Y3 P "__weakref__" 299 (.ref 64),Y3 P "__doc__" 300 .none] 3),#[]⟩)::
 (nat_lit 63,⟨(.type "type"),none,(.cls ⟨(ae "ByZero"),[(.type "Exception")],[(.ref 63),(.type "Exception"),(.type "BaseException"),(.type "object")],62,(ae "ByZero"),true,[],[],false,none,false⟩),#[(some (.ref 54)),none,(some (.str (ae "ByZero") 285)),(some (.str (ae "ByZero") 293)),(some (.builtin "Exception.__new__")),(some (.bool true))]⟩)::
 (nat_lit 75,⟨(.type "dict"),none,(.dict #[Y3 P "__module__" 312 (.str (ae "rankedfunctions.refusals") 187),Y3 P "__firstlineno__" 316 (.int (22) 315),Y3 P "__static_attributes__" 317 (.ref 74),Y3 P "__weakref__" 319 (.ref 77),Y3 P "__doc__" 320 .none] 3),#[]⟩)::
 (nat_lit 76,⟨(.type "type"),none,(.cls ⟨(ae "NumberTooBig"),[(.type "Exception")],[(.ref 76),(.type "Exception"),(.type "BaseException"),(.type "object")],75,(ae "NumberTooBig"),true,[],[],false,none,false⟩),#[(some (.ref 67)),none,(some (.str (ae "NumberTooBig") 305)),(some (.str (ae "NumberTooBig") 313)),(some (.builtin "Exception.__new__")),(some (.bool true))]⟩)::
 (nat_lit 88,⟨(.type "dict"),none,(.dict #[Y3 P "__module__" 332 (.str (ae "rankedfunctions.refusals") 187),Y3 P "__firstlineno__" 336 (.int (24) 335),Y3 P "__static_attributes__" 337 (.ref 87),Y3 P "__weakref__" 339 (.ref 90),Y3 P "__doc__" 340 .none] 3),#[]⟩)::
 (nat_lit 89,⟨(.type "type"),none,(.cls ⟨(ae "NoShape"),[(.type "Exception")],[(.ref 89),(.type "Exception"),(.type "BaseException"),(.type "object")],88,(ae "NoShape"),true,[],[],false,none,false⟩),#[(some (.ref 80)),none,(some (.str (ae "NoShape") 325)),(some (.str (ae "NoShape") 333)),(some (.builtin "Exception.__new__")),(some (.bool true))]⟩)::
 (nat_lit 101,⟨(.type "dict"),none,(.dict #[Y3 P "__module__" 352 (.str (ae "rankedfunctions.refusals") 187),Y3 P "__firstlineno__" 356 (.int (26) 355),Y3 P "__static_attributes__" 357 (.ref 100),Y3 P "__weakref__" 359 (.ref 103),Y3 P "__doc__" 360 .none] 3),#[]⟩)::
 (nat_lit 102,⟨(.type "type"),none,(.cls ⟨(ae "OutsideDomain"),[(.type "Exception")],[(.ref 102),(.type "Exception"),(.type "BaseException"),(.type "object")],101,(ae "OutsideDomain"),true,[],[],false,none,false⟩),#[(some (.ref 93)),none,(some (.str (ae "OutsideDomain") 345)),(some (.str (ae "OutsideDomain") 353)),(some (.builtin "Exception.__new__")),(some (.bool true))]⟩)::
 (nat_lit 114,⟨(.type "dict"),none,(.dict #[Y3 P "__module__" 372 (.str (ae "rankedfunctions.refusals") 187),Y3 P "__firstlineno__" 376 (.int (28) 375),Y3 P "__static_attributes__" 377 (.ref 113),Y3 P "__weakref__" 379 (.ref 116),Y3 P "__doc__" 380 .none] 3),#[]⟩)::
 (nat_lit 115,⟨(.type "type"),none,(.cls ⟨(ae "NothingToFold"),[(.type "Exception")],[(.ref 115),(.type "Exception"),(.type "BaseException"),(.type "object")],114,(ae "NothingToFold"),true,[],[],false,none,false⟩),#[(some (.ref 106)),none,(some (.str (ae "NothingToFold") 365)),(some (.str (ae "NothingToFold") 373)),(some (.builtin "Exception.__new__")),(some (.bool true))]⟩)::
 (nat_lit 127,⟨(.type "dict"),none,(.dict #[Y3 P "__module__" 392 (.str (ae "rankedfunctions.refusals") 187),Y3 P "__firstlineno__" 396 (.int (30) 395),Y3 P "__static_attributes__" 397 (.ref 126),Y3 P "__weakref__" 399 (.ref 129),Y3 P "__doc__" 400 .none] 3),#[]⟩)::
 (nat_lit 128,⟨(.type "type"),none,(.cls ⟨(ae "NoSuchUse"),[(.type "Exception")],[(.ref 128),(.type "Exception"),(.type "BaseException"),(.type "object")],127,(ae "NoSuchUse"),true,[],[],false,none,false⟩),#[(some (.ref 119)),none,(some (.str (ae "NoSuchUse") 385)),(some (.str (ae "NoSuchUse") 393)),(some (.builtin "Exception.__new__")),(some (.bool true))]⟩)::
 (nat_lit 140,⟨(.type "dict"),none,(.dict #[Y3 P "__module__" 412 (.str (ae "rankedfunctions.refusals") 187),Y3 P "__firstlineno__" 416 (.int (32) 415),Y3 P "__static_attributes__" 417 (.ref 139),Y3 P "__weakref__" 419 (.ref 142),Y3 P "__doc__" 420 .none] 3),#[]⟩)::
 (nat_lit 141,⟨(.type "type"),none,(.cls ⟨(ae "NoArray"),[(.type "Exception")],[(.ref 141),(.type "Exception"),(.type "BaseException"),(.type "object")],140,(ae "NoArray"),true,[],[],false,none,false⟩),#[(some (.ref 132)),none,(some (.str (ae "NoArray") 405)),(some (.str (ae "NoArray") 413)),(some (.builtin "Exception.__new__")),(some (.bool true))]⟩)::
 (nat_lit 153,⟨(.type "dict"),none,(.dict #[Y3 P "__module__" 432 (.str (ae "rankedfunctions.refusals") 187),Y3 P "__firstlineno__" 436 (.int (34) 435),Y3 P "__static_attributes__" 437 (.ref 152),Y3 P "__weakref__" 439 (.ref 155),Y3 P "__doc__" 440 .none] 3),#[]⟩)::
 (nat_lit 154,⟨(.type "type"),none,(.cls ⟨(ae "TooLong"),[(.type "Exception")],[(.ref 154),(.type "Exception"),(.type "BaseException"),(.type "object")],153,(ae "TooLong"),true,[],[],false,none,false⟩),#[(some (.ref 145)),none,(some (.str (ae "TooLong") 425)),(some (.str (ae "TooLong") 433)),(some (.builtin "Exception.__new__")),(some (.bool true))]⟩)::
 (nat_lit 170,cO "__init__" 457 "NoFunction.__init__" 458 459 38 2 0 0 3 165 181 166 (.ref 167) (.ref 168) 169 462 38 463)::
 (nat_lit 171,fO "__init__" "NoFunction.__init__" (j_ (dN 24) 0) "rankedfunctions.refusals" 187 170)::
 (nat_lit 173,⟨(.type "dict"),none,(.dict #[Y3 P "__module__" 452 (.str (ae "rankedfunctions.refusals") 187),Y3 P "__firstlineno__" 456 (.int (36) 455),Y3 P "__init__" 464 (.ref 171),Y3 P "__static_attributes__" 466 (.ref 172),Y3 P "__weakref__" 468 (.ref 175),Y3 P "__doc__" 469 .none] 3),#[]⟩)::
 (nat_lit 174,⟨(.type "type"),none,(.cls ⟨(ae "NoFunction"),[(.type "Exception")],[(.ref 174),(.type "Exception"),(.type "BaseException"),(.type "object")],173,(ae "NoFunction"),true,[],[],false,none,false⟩),#[(some (.ref 158)),none,(some (.str (ae "NoFunction") 445)),(some (.str (ae "NoFunction") 453)),(some (.builtin "Exception.__new__")),(some (.bool true))]⟩)::
 (nat_lit 183,cO "answer_of" 474 "answer_of" 475 476 41 1 0 0 3 178 181 179 (.ref 180) (.ref 181) 182 478 41 479)::
 (nat_lit 184,fO "answer_of" "answer_of" (dN 25) "rankedfunctions.refusals" 187 183)::
 (nat_lit 197,cO "__init__" 501 "Array.__init__" 502 503 74 3 0 0 3 192 181 193 (.ref 194) (.ref 195) 196 507 74 508)::
 (nat_lit 198,fO "__init__" "Array.__init__" (j_ (dN 30) 0) "rankedfunctions.arrays" 481 197)::
 (nat_lit 200,⟨(.type "dict"),none,(.dict #[Y3 P "__module__" 496 (.str (ae "rankedfunctions.arrays") 481),Y3 P "__firstlineno__" 500 (.int (72) 499),Y3 P "__init__" 509 (.ref 198),Y3 P "__static_attributes__" 512 (.ref 199),Y3 P "__dict__" 514 (.ref 202),Y3 P "__weakref__" 516 (.ref 203),Y3 P "__doc__" 517 .none] 4),#[]⟩)::
 (nat_lit 201,⟨(.type "type"),none,(.cls ⟨(ae "Array"),[(.type "object")],[(.ref 201),(.type "object")],200,(ae "Array"),true,[],[],false,none,false⟩),#[none,none,(some (.str (ae "Array") 489)),(some (.str (ae "Array") 497)),(some (.builtin "object.__new__")),(some (.bool true))]⟩)::
 (nat_lit 211,cO "product" 520 "product" 521 522 77 1 0 0 3 206 181 207 (.ref 208) (.ref 209) 210 526 77 527)::
 (nat_lit 212,fO "product" "product" (dN 31) "rankedfunctions.arrays" 481 211)::
 (nat_lit 216,cO "is_shape" 529 "is_shape" 530 531 82 1 0 0 3 213 181 214 .none .none 215 532 82 533)::
 (nat_lit 217,fO "is_shape" "is_shape" (dN 32) "rankedfunctions.arrays" 481 216)::
 (nat_lit 223,cO "sized" 535 "sized" 536 537 86 1 0 0 3 218 181 219 (.ref 220) (.ref 221) 222 539 86 540)::
 (nat_lit 224,fO "sized" "sized" (dN 33) "rankedfunctions.arrays" 481 223)::
 (nat_lit 230,cO "handed_array" 542 "handed_array" 543 544 90 2 0 0 3 225 181 226 (.ref 227) (.ref 228) 229 547 90 548)::
 (nat_lit 231,fO "handed_array" "handed_array" (dN 34) "rankedfunctions.arrays" 481 230)::
 (nat_lit 237,cO "scalar" 550 "scalar" 551 552 94 1 0 0 3 232 181 233 (.ref 234) (.ref 235) 236 554 94 555)::
 (nat_lit 238,fO "scalar" "scalar" (dN 35) "rankedfunctions.arrays" 481 237)::
 (nat_lit 244,cO "vector" 557 "vector" 558 559 96 1 0 0 3 239 181 240 (.ref 241) (.ref 242) 243 561 96 562)::
 (nat_lit 245,fO "vector" "vector" (dN 36) "rankedfunctions.arrays" 481 244)::
 (nat_lit 251,cO "filled" 564 "filled" 565 566 98 2 0 0 3 246 181 247 (.ref 248) (.ref 249) 250 569 98 570)::
 (nat_lit 252,fO "filled" "filled" (dN 37) "rankedfunctions.arrays" 481 251)::
 (nat_lit 258,cO "as_vector" 572 "as_vector" 573 574 100 1 0 0 3 253 181 254 (.ref 255) (.ref 256) 257 576 100 577)::
 (nat_lit 259,fO "as_vector" "as_vector" (dN 38) "rankedfunctions.arrays" 481 258)::
 (nat_lit 263,cO "pieces_of" 579 "pieces_of" 580 581 104 3 0 0 3 260 181 261 .none .none 262 582 104 583)::
 (nat_lit 264,fO "pieces_of" "pieces_of" (dN 39) "rankedfunctions.arrays" 481 263)::
 (nat_lit 270,cO "joined" 585 "joined" 586 587 106 1 0 0 3 265 181 266 (.ref 267) (.ref 268) 269 591 106 592)::
 (nat_lit 271,fO "joined" "joined" (dN 40) "rankedfunctions.arrays" 481 270)::
 (nat_lit 277,cO "cell_pieces" 594 "cell_pieces" 595 596 111 1 0 0 3 272 181 273 (.ref 274) (.ref 275) 276 598 111 599)::
 (nat_lit 278,fO "cell_pieces" "cell_pieces" (dN 41) "rankedfunctions.arrays" 481 277)::
 (nat_lit 284,cO "array_of_pieces" 601 "array_of_pieces" 602 603 113 2 0 0 3 279 181 280 (.ref 281) (.ref 282) 283 606 113 607)::
 (nat_lit 285,fO "array_of_pieces" "array_of_pieces" (dN 42) "rankedfunctions.arrays" 481 284)::
 (nat_lit 291,cO "frame_of" 609 "frame_of" 610 611 115 2 0 0 3 286 181 287 (.ref 288) (.ref 289) 290 614 115 615)::
 (nat_lit 292,fO "frame_of" "frame_of" (dN 43) "rankedfunctions.arrays" 481 291)::
 (nat_lit 298,cO "cell_shape_of" 617 "cell_shape_of" 618 619 117 2 0 0 3 293 181 294 (.ref 295) (.ref 296) 297 622 117 623)::
 (nat_lit 299,fO "cell_shape_of" "cell_shape_of" (dN 44) "rankedfunctions.arrays" 481 298)::
 (nat_lit 303,cO "cells_of" 625 "cells_of" 626 627 119 2 0 0 3 300 181 301 .none .none 302 628 119 629)::
 (nat_lit 304,fO "cells_of" "cells_of" (dN 45) "rankedfunctions.arrays" 481 303)::
 (nat_lit 305,⟨(.type "tuple"),none,(.seq #[(.int (32) 633),(.int (9) 634),(.int (10) 635),(.int (13) 636)] 0),#[]⟩)::
 (nat_lit 306,⟨(.type "tuple"),none,(.seq #[(.str (ae "<=") 640),(.str (ae "/=") 641),(.str (ae "+") 642),(.str (ae "-") 643),(.str (ae "*") 644),(.str (ae "<") 645),(.str (ae "=") 646)] 0),#[]⟩)::
 (nat_lit 319,cO "__init__" 660 "Token.__init__" 661 662 129 3 0 0 3 314 181 315 (.ref 316) (.ref 317) 318 666 129 667)::
 (nat_lit 320,fO "__init__" "Token.__init__" (j_ (dN 50) 0) "rankedfunctions.tokens" 631 319)::
 (nat_lit 322,⟨(.type "dict"),none,(.dict #[Y3 P "__module__" 655 (.str (ae "rankedfunctions.tokens") 631),Y3 P "__firstlineno__" 659 (.int (127) 658),Y3 P "__init__" 668 (.ref 320),Y3 P "__static_attributes__" 672 (.ref 321),Y3 P "__dict__" 674 (.ref 324),Y3 P "__weakref__" 676 (.ref 325),Y3 P "__doc__" 677 .none] 4),#[]⟩)::
 (nat_lit 323,⟨(.type "type"),none,(.cls ⟨(ae "Token"),[(.type "object")],[(.ref 323),(.type "object")],322,(ae "Token"),true,[],[],false,none,false⟩),#[none,none,(some (.str (ae "Token") 648)),(some (.str (ae "Token") 656)),(some (.builtin "object.__new__")),(some (.bool true))]⟩)::
 (nat_lit 331,cO "bytes_of" 680 "bytes_of" 681 682 133 1 0 0 3 328 181 329 .none .none 330 683 133 684)::
 (nat_lit 332,fO "bytes_of" "bytes_of" (dN 51) "rankedfunctions.tokens" 631 331)::
 (nat_lit 338,cO "is_blank" 686 "is_blank" 687 688 135 1 0 0 3 333 181 334 (.ref 335) (.ref 336) 337 690 135 691)::
 (nat_lit 339,fO "is_blank" "is_blank" (dN 52) "rankedfunctions.tokens" 631 338)::
 (nat_lit 345,cO "is_letter" 693 "is_letter" 694 695 137 1 0 0 3 340 181 341 (.ref 342) (.ref 343) 344 697 137 698)::
 (nat_lit 346,fO "is_letter" "is_letter" (dN 53) "rankedfunctions.tokens" 631 345)::
 (nat_lit 352,cO "is_digit" 700 "is_digit" 701 702 139 1 0 0 3 347 181 348 (.ref 349) (.ref 350) 351 704 139 705)::
 (nat_lit 353,fO "is_digit" "is_digit" (dN 54) "rankedfunctions.tokens" 631 352)::
 (nat_lit 359,cO "past_run" 707 "past_run" 708 709 141 3 0 0 3 354 181 355 (.ref 356) (.ref 357) 358 713 141 714)::
 (nat_lit 360,fO "past_run" "past_run" (dN 55) "rankedfunctions.tokens" 631 359)::
 (nat_lit 366,cO "past_modifier_word" 716 "past_modifier_word" 717 718 145 2 0 0 3 361 181 362 (.ref 363) (.ref 364) 365 722 145 723)::
 (nat_lit 367,fO "past_modifier_word" "past_modifier_word" (dN 56) "rankedfunctions.tokens" 631 366)::
 (nat_lit 373,cO "past_sign" 725 "past_sign" 726 727 150 2 0 0 3 368 181 369 (.ref 370) (.ref 371) 372 732 150 733)::
 (nat_lit 374,fO "past_sign" "past_sign" (dN 57) "rankedfunctions.tokens" 631 373)::
 (nat_lit 380,cO "past_token" 735 "past_token" 736 737 156 2 0 0 3 375 181 376 (.ref 377) (.ref 378) 379 741 156 742)::
 (nat_lit 381,fO "past_token" "past_token" (dN 58) "rankedfunctions.tokens" 631 380)::
 (nat_lit 387,cO "token_from" 744 "token_from" 745 746 167 2 0 0 3 382 181 383 (.ref 384) (.ref 385) 386 750 167 751)::
 (nat_lit 388,fO "token_from" "token_from" (dN 59) "rankedfunctions.tokens" 631 387)::
 (nat_lit 389,⟨(.type "tuple"),none,(.seq #[(.str (ae "Shape") 759),(.str (ae "Count") 760),(.str (ae "Ravel") 761),(.str (ae "Iota") 762),(.str (ae "Flip") 763),(.str (ae "Turn") 764),(.str (ae "Grade") 765),(.str (ae "Where") 766),(.str (ae "First") 767),(.str (ae "Abs") 768),(.str (ae "Sign") 769),(.str (ae "Not") 770)] 0),#[]⟩)::
 (nat_lit 390,⟨(.type "tuple"),none,(.seq #[(.str (ae "Reshape") 772),(.str (ae "Take") 773),(.str (ae "Drop") 774),(.str (ae "Rotate") 775),(.str (ae "Join") 776),(.str (ae "Pick") 777),(.str (ae "Find") 778),(.str (ae "Same") 779),(.str (ae "Keep") 780),(.str (ae "Div") 781),(.str (ae "Mod") 782),(.str (ae "Min") 783),(.str (ae "Max") 784),(.str (ae "And") 785),(.str (ae "Or") 786)] 0),#[]⟩)::
 (nat_lit 391,⟨(.type "tuple"),none,(.seq #[(.str (ae ":fold") 798),(.str (ae ":scan") 799),(.str (ae ":table") 800),(.str (ae ":swap") 801),(.str (ae ":at") 802)] 0),#[]⟩)::
 (nat_lit 392,⟨(.type "tuple"),none,(.seq #[(.str (ae "0") 804),(.str (ae "1") 805),(.str (ae "2") 806),(.str (ae "3") 807),(.str (ae "4") 808),(.str (ae "5") 809)] 0),#[]⟩)::
 (nat_lit 405,cO "__init__" 827 "Function.__init__" 828 829 186 3 0 0 3 400 181 401 (.ref 402) (.ref 403) 404 833 186 834)::
 (nat_lit 406,fO "__init__" "Function.__init__" (j_ (dN 74) 0) "rankedfunctions.functions" 753 405)::
 (nat_lit 408,⟨(.type "dict"),none,(.dict #[Y3 P "__module__" 822 (.str (ae "rankedfunctions.functions") 753),Y3 P "__firstlineno__" 826 (.int (184) 825),Y3 P "__init__" 835 (.ref 406),Y3 P "__static_attributes__" 838 (.ref 407),Y3 P "__dict__" 840 (.ref 410),Y3 P "__weakref__" 842 (.ref 411),Y3 P "__doc__" 843 .none] 4),#[]⟩)::
 (nat_lit 409,⟨(.type "type"),none,(.cls ⟨(ae "Function"),[(.type "object")],[(.ref 409),(.type "object")],408,(ae "Function"),true,[],[],false,none,false⟩),#[none,none,(some (.str (ae "Function") 815)),(some (.str (ae "Function") 823)),(some (.builtin "object.__new__")),(some (.bool true))]⟩)::
 (nat_lit 419,cO "name_among" 846 "name_among" 847 848 189 2 0 0 3 414 181 415 (.ref 416) (.ref 417) 418 852 189 853)::
 (nat_lit 420,fO "name_among" "name_among" (dN 75) "rankedfunctions.functions" 753 419)::
 (nat_lit 426,cO "read_modifiers" 855 "read_modifiers" 856 857 194 2 0 0 3 421 181 422 (.ref 423) (.ref 424) 425 864 194 865)::
 (nat_lit 427,fO "read_modifiers" "read_modifiers" (dN 76) "rankedfunctions.functions" 753 426)::
 (nat_lit 433,cO "read_function" 867 "read_function" 868 869 208 1 0 0 3 428 181 429 (.ref 430) (.ref 431) 432 873 208 874)::
 (nat_lit 434,fO "read_function" "read_function" (dN 77) "rankedfunctions.functions" 753 433)::
 (nat_lit 440,cO "function_below" 876 "function_below" 877 878 214 1 0 0 3 435 181 436 (.ref 437) (.ref 438) 439 880 214 881)::
 (nat_lit 441,fO "function_below" "function_below" (dN 78) "rankedfunctions.functions" 753 440)::
 (nat_lit 447,cO "uses_of_base" 883 "uses_of_base" 884 885 216 1 0 0 3 442 181 443 (.ref 444) (.ref 445) 446 887 216 888)::
 (nat_lit 448,fO "uses_of_base" "uses_of_base" (dN 79) "rankedfunctions.functions" 753 447)::
 (nat_lit 454,cO "may_with_two" 890 "may_with_two" 891 892 222 1 0 0 3 449 181 450 (.ref 451) (.ref 452) 453 894 222 895)::
 (nat_lit 455,fO "may_with_two" "may_with_two" (dN 80) "rankedfunctions.functions" 753 454)::
 (nat_lit 461,cO "uses_of" 897 "uses_of" 898 899 224 1 0 0 3 456 181 457 (.ref 458) (.ref 459) 460 903 224 904)::
 (nat_lit 462,fO "uses_of" "uses_of" (dN 81) "rankedfunctions.functions" 753 461)::
 (nat_lit 475,cO "__init__" 920 "Tally.__init__" 921 922 233 1 0 0 3 470 181 471 (.ref 472) (.ref 473) 474 924 233 925)::
 (nat_lit 476,fO "__init__" "Tally.__init__" (j_ (dN 83) 0) "rankedfunctions.tallies" 906 475)::
 (nat_lit 482,cO "add_one" 927 "Tally.add_one" 928 929 236 1 0 0 3 477 181 478 (.ref 479) (.ref 480) 481 931 236 932)::
 (nat_lit 483,fO "add_one" "Tally.add_one" (j_ (dN 83) 1) "rankedfunctions.tallies" 906 482)::
 (nat_lit 485,⟨(.type "dict"),none,(.dict #[Y3 P "__module__" 915 (.str (ae "rankedfunctions.tallies") 906),Y3 P "__firstlineno__" 919 (.int (231) 918),Y3 P "__init__" 926 (.ref 476),Y3 P "add_one" 933 (.ref 483),Y3 P "__static_attributes__" 935 (.ref 484),Y3 P "__dict__" 937 (.ref 487),Y3 P "__weakref__" 939 (.ref 488),Y3 P "__doc__" 940 .none] 4),#[]⟩)::
 (nat_lit 486,⟨(.type "type"),none,(.cls ⟨(ae "Tally"),[(.type "object")],[(.ref 486),(.type "object")],485,(ae "Tally"),true,[],[],false,none,false⟩),#[none,none,(some (.str (ae "Tally") 908)),(some (.str (ae "Tally") 916)),(some (.builtin "object.__new__")),(some (.bool true))]⟩)::
 (nat_lit 496,cO "check_counts" 945 "check_counts" 946 947 239 1 0 0 3 491 181 492 (.ref 493) (.ref 494) 495 949 239 950)::
 (nat_lit 497,fO "check_counts" "check_counts" (dN 85) "rankedfunctions.counts" 943 496)::
 (nat_lit 503,cO "repeated" 952 "repeated" 953 954 242 2 0 0 3 498 181 499 (.ref 500) (.ref 501) 502 960 242 961)::
 (nat_lit 504,fO "repeated" "repeated" (dN 86) "rankedfunctions.counts" 943 503)::
 (nat_lit 510,cO "longer_shape" 965 "longer_shape" 966 967 248 2 0 0 3 505 181 506 (.ref 507) (.ref 508) 509 971 248 972)::
 (nat_lit 511,fO "longer_shape" "longer_shape" (dN 88) "rankedfunctions.agreement" 963 510)::
 (nat_lit 517,cO "stretched" 974 "stretched" 975 976 255 2 0 0 3 512 181 513 (.ref 514) (.ref 515) 516 979 255 980)::
 (nat_lit 518,fO "stretched" "stretched" (dN 89) "rankedfunctions.agreement" 963 517)::
 (nat_lit 524,cO "pairs_of" 982 "pairs_of" 983 984 259 4 0 0 3 519 181 520 (.ref 521) (.ref 522) 523 991 259 992)::
 (nat_lit 525,fO "pairs_of" "pairs_of" (dN 90) "rankedfunctions.agreement" 963 524)::
 (nat_lit 529,cO "gathered" 996 "gathered" 997 998 264 3 0 0 3 526 181 527 .none .none 528 999 264 1000)::
 (nat_lit 530,fO "gathered" "gathered" (dN 92) "rankedfunctions.modifiers" 994 529)::
 (nat_lit 536,cO "told_shape" 1002 "told_shape" 1003 1004 269 2 0 0 3 531 181 532 (.ref 533) (.ref 534) 535 1007 269 1008)::
 (nat_lit 537,fO "told_shape" "told_shape" (dN 93) "rankedfunctions.modifiers" 994 536)::
 (nat_lit 541,cO "work_each" 1010 "work_each" 1011 1012 274 5 0 0 3 538 181 539 .none .none 540 1013 274 1014)::
 (nat_lit 542,fO "work_each" "work_each" (dN 94) "rankedfunctions.modifiers" 994 541)::
 (nat_lit 548,cO "work_each_pair" 1016 "work_each_pair" 1017 1018 279 6 0 0 3 543 181 544 (.ref 545) (.ref 546) 547 1027 279 1028)::
 (nat_lit 549,fO "work_each_pair" "work_each_pair" (dN 95) "rankedfunctions.modifiers" 994 548)::
 (nat_lit 555,cO "at_of_two" 1030 "at_of_two" 1031 1032 282 5 0 0 3 550 181 551 (.ref 552) (.ref 553) 554 1044 282 1045)::
 (nat_lit 556,fO "at_of_two" "at_of_two" (dN 96) "rankedfunctions.modifiers" 994 555)::
 (nat_lit 560,cO "table_of_two" 1047 "table_of_two" 1048 1049 290 4 0 0 3 557 181 558 .none .none 559 1050 290 1051)::
 (nat_lit 561,fO "table_of_two" "table_of_two" (dN 97) "rankedfunctions.modifiers" 994 560)::
 (nat_lit 567,cO "own_cells" 1053 "own_cells" 1054 1055 297 1 0 0 3 562 181 563 (.ref 564) (.ref 565) 566 1057 297 1058)::
 (nat_lit 568,fO "own_cells" "own_cells" (dN 98) "rankedfunctions.modifiers" 994 567)::
 (nat_lit 574,cO "folded" 1060 "folded" 1061 1062 299 4 0 0 3 569 181 570 (.ref 571) (.ref 572) 573 1069 299 1070)::
 (nat_lit 575,fO "folded" "folded" (dN 99) "rankedfunctions.modifiers" 994 574)::
 (nat_lit 581,cO "fold_of_two" 1072 "fold_of_two" 1073 1074 304 4 0 0 3 576 181 577 (.ref 578) (.ref 579) 580 1079 304 1080)::
 (nat_lit 582,fO "fold_of_two" "fold_of_two" (dN 100) "rankedfunctions.modifiers" 994 581)::
 (nat_lit 588,cO "scanned" 1082 "scanned" 1083 1084 306 4 0 0 3 583 181 584 (.ref 585) (.ref 586) 587 1091 306 1092)::
 (nat_lit 589,fO "scanned" "scanned" (dN 101) "rankedfunctions.modifiers" 994 588)::
 (nat_lit 595,cO "scan_of_two" 1094 "scan_of_two" 1095 1096 311 4 0 0 3 590 181 591 (.ref 592) (.ref 593) 594 1104 311 1105)::
 (nat_lit 596,fO "scan_of_two" "scan_of_two" (dN 102) "rankedfunctions.modifiers" 994 595)::
 (nat_lit 602,cO "one_number" 1109 "one_number" 1110 1111 319 1 0 0 3 597 181 598 (.ref 599) (.ref 600) 601 1113 319 1114)::
 (nat_lit 603,fO "one_number" "one_number" (dN 104) "rankedfunctions.moves_of_two" 1107 602)::
 (nat_lit 607,cO "reshape" 1116 "reshape" 1117 1118 325 2 0 0 3 604 181 605 .none .none 606 1119 325 1120)::
 (nat_lit 608,fO "reshape" "reshape" (dN 105) "rankedfunctions.moves_of_two" 1107 607)::
 (nat_lit 614,cO "take" 1122 "take" 1123 1124 333 2 0 0 3 609 181 610 (.ref 611) (.ref 612) 613 1134 333 1135)::
 (nat_lit 615,fO "take" "take" (dN 106) "rankedfunctions.moves_of_two" 1107 614)::
 (nat_lit 621,cO "drop" 1137 "drop" 1138 1139 344 2 0 0 3 616 181 617 (.ref 618) (.ref 619) 620 1146 344 1147)::
 (nat_lit 622,fO "drop" "drop" (dN 107) "rankedfunctions.moves_of_two" 1107 621)::
 (nat_lit 628,cO "rotate" 1149 "rotate" 1150 1151 352 2 0 0 3 623 181 624 (.ref 625) (.ref 626) 627 1156 352 1157)::
 (nat_lit 629,fO "rotate" "rotate" (dN 108) "rankedfunctions.moves_of_two" 1107 628)::
 (nat_lit 635,cO "beside" 1159 "beside" 1160 1161 358 2 0 0 3 630 181 631 (.ref 632) (.ref 633) 634 1164 358 1165)::
 (nat_lit 636,fO "beside" "beside" (dN 109) "rankedfunctions.moves_of_two" 1107 635)::
 (nat_lit 642,cO "join" 1167 "join" 1168 1169 364 2 0 0 3 637 181 638 (.ref 639) (.ref 640) 641 1175 364 1176)::
 (nat_lit 643,fO "join" "join" (dN 110) "rankedfunctions.moves_of_two" 1107 642)::
 (nat_lit 647,cO "pick" 1178 "pick" 1179 1180 371 2 0 0 3 644 181 645 .none .none 646 1181 371 1182)::
 (nat_lit 648,fO "pick" "pick" (dN 111) "rankedfunctions.moves_of_two" 1107 647)::
 (nat_lit 652,cO "find" 1184 "find" 1185 1186 380 2 0 0 3 649 181 650 .none .none 651 1187 380 1188)::
 (nat_lit 653,fO "find" "find" (dN 112) "rankedfunctions.moves_of_two" 1107 652)::
 (nat_lit 659,cO "same" 1190 "same" 1191 1192 391 2 0 0 3 654 181 655 (.ref 656) (.ref 657) 658 1195 391 1196)::
 (nat_lit 660,fO "same" "same" (dN 113) "rankedfunctions.moves_of_two" 1107 659)::
 (nat_lit 666,cO "keep" 1198 "keep" 1199 1200 395 2 0 0 3 661 181 662 (.ref 663) (.ref 664) 665 1205 395 1206)::
 (nat_lit 667,fO "keep" "keep" (dN 114) "rankedfunctions.moves_of_two" 1107 666)::
 (nat_lit 668,⟨(.type "dict"),none,(.dict #[Y3 P "Reshape" 1208 (.ref 608),Y3 P "Take" 1209 (.ref 615),Y3 P "Drop" 1210 (.ref 622),Y3 P "Rotate" 1211 (.ref 629),Y3 P "Join" 1212 (.ref 643),Y3 P "Pick" 1213 (.ref 648),Y3 P "Find" 1214 (.ref 653),Y3 P "Same" 1215 (.ref 660),Y3 P "Keep" 1216 (.ref 667)] 9),#[]⟩)::
 (nat_lit 674,cO "move_of_two" 1227 "move_of_two" 1228 1229 408 3 0 0 3 669 181 670 (.ref 671) (.ref 672) 673 1234 408 1235)::
 (nat_lit 675,fO "move_of_two" "move_of_two" (dN 116) "rankedfunctions.moves_of_two" 1107 674)::
 (nat_lit 681,cO "as_number" 1241 "as_number" 1242 1243 413 1 0 0 3 676 181 677 (.ref 678) (.ref 679) 680 1245 413 1246)::
 (nat_lit 682,fO "as_number" "as_number" (dN 119) "rankedfunctions.scalars" 1237 681)::
 (nat_lit 688,cO "not_too_big" 1248 "not_too_big" 1249 1250 417 1 0 0 3 683 181 684 (.ref 685) (.ref 686) 687 1252 417 1253)::
 (nat_lit 689,fO "not_too_big" "not_too_big" (dN 120) "rankedfunctions.scalars" 1237 688)::
 (nat_lit 695,cO "check_division" 1255 "check_division" 1256 1257 421 1 0 0 3 690 181 691 (.ref 692) (.ref 693) 694 1259 421 1260)::
 (nat_lit 696,fO "check_division" "check_division" (dN 121) "rankedfunctions.scalars" 1237 695)::
 (nat_lit 702,cO "check_truths" 1262 "check_truths" 1263 1264 424 1 0 0 3 697 181 698 (.ref 699) (.ref 700) 701 1267 424 1268)::
 (nat_lit 703,fO "check_truths" "check_truths" (dN 122) "rankedfunctions.scalars" 1237 702)::
 (nat_lit 709,cO "plus" 1270 "plus" 1271 1272 428 2 0 0 3 704 181 705 (.ref 706) (.ref 707) 708 1275 428 1276)::
 (nat_lit 710,fO "plus" "plus" (dN 123) "rankedfunctions.scalars" 1237 709)::
 (nat_lit 716,cO "minus" 1278 "minus" 1279 1280 430 2 0 0 3 711 181 712 (.ref 713) (.ref 714) 715 1283 430 1284)::
 (nat_lit 717,fO "minus" "minus" (dN 124) "rankedfunctions.scalars" 1237 716)::
 (nat_lit 723,cO "times" 1286 "times" 1287 1288 432 2 0 0 3 718 181 719 (.ref 720) (.ref 721) 722 1291 432 1292)::
 (nat_lit 724,fO "times" "times" (dN 125) "rankedfunctions.scalars" 1237 723)::
 (nat_lit 730,cO "divided" 1294 "divided" 1295 1296 434 2 0 0 3 725 181 726 (.ref 727) (.ref 728) 729 1299 434 1300)::
 (nat_lit 731,fO "divided" "divided" (dN 126) "rankedfunctions.scalars" 1237 730)::
 (nat_lit 737,cO "modulo" 1302 "modulo" 1303 1304 437 2 0 0 3 732 181 733 (.ref 734) (.ref 735) 736 1307 437 1308)::
 (nat_lit 738,fO "modulo" "modulo" (dN 127) "rankedfunctions.scalars" 1237 737)::
 (nat_lit 744,cO "smaller" 1310 "smaller" 1311 1312 440 2 0 0 3 739 181 740 (.ref 741) (.ref 742) 743 1315 440 1316)::
 (nat_lit 745,fO "smaller" "smaller" (dN 128) "rankedfunctions.scalars" 1237 744)::
 (nat_lit 751,cO "greater" 1318 "greater" 1319 1320 442 2 0 0 3 746 181 747 (.ref 748) (.ref 749) 750 1323 442 1324)::
 (nat_lit 752,fO "greater" "greater" (dN 129) "rankedfunctions.scalars" 1237 751)::
 (nat_lit 758,cO "is_less" 1326 "is_less" 1327 1328 444 2 0 0 3 753 181 754 (.ref 755) (.ref 756) 757 1331 444 1332)::
 (nat_lit 759,fO "is_less" "is_less" (dN 130) "rankedfunctions.scalars" 1237 758)::
 (nat_lit 765,cO "is_at_most" 1334 "is_at_most" 1335 1336 446 2 0 0 3 760 181 761 (.ref 762) (.ref 763) 764 1339 446 1340)::
 (nat_lit 766,fO "is_at_most" "is_at_most" (dN 131) "rankedfunctions.scalars" 1237 765)::
 (nat_lit 772,cO "is_equal" 1342 "is_equal" 1343 1344 448 2 0 0 3 767 181 768 (.ref 769) (.ref 770) 771 1347 448 1348)::
 (nat_lit 773,fO "is_equal" "is_equal" (dN 132) "rankedfunctions.scalars" 1237 772)::
 (nat_lit 779,cO "is_another" 1350 "is_another" 1351 1352 450 2 0 0 3 774 181 775 (.ref 776) (.ref 777) 778 1355 450 1356)::
 (nat_lit 780,fO "is_another" "is_another" (dN 133) "rankedfunctions.scalars" 1237 779)::
 (nat_lit 786,cO "both" 1358 "both" 1359 1360 452 2 0 0 3 781 181 782 (.ref 783) (.ref 784) 785 1363 452 1364)::
 (nat_lit 787,fO "both" "both" (dN 134) "rankedfunctions.scalars" 1237 786)::
 (nat_lit 793,cO "at_least_one" 1366 "at_least_one" 1367 1368 455 2 0 0 3 788 181 789 (.ref 790) (.ref 791) 792 1371 455 1372)::
 (nat_lit 794,fO "at_least_one" "at_least_one" (dN 135) "rankedfunctions.scalars" 1237 793)::
 (nat_lit 795,⟨(.type "dict"),none,(.dict #[Y3 P "+" 1374 (.ref 710),Y3 P "-" 1375 (.ref 717),Y3 P "*" 1376 (.ref 724),Y3 P "Div" 1377 (.ref 731),Y3 P "Mod" 1378 (.ref 738),Y3 P "Min" 1379 (.ref 745),Y3 P "Max" 1380 (.ref 752),Y3 P "<" 1381 (.ref 759),Y3 P "<=" 1382 (.ref 766),Y3 P "=" 1383 (.ref 773),Y3 P "/=" 1384 (.ref 780),Y3 P "And" 1385 (.ref 787),Y3 P "Or" 1386 (.ref 794)] 13),#[]⟩)::
 (nat_lit 801,cO "is_scalar_of_two" 1401 "is_scalar_of_two" 1402 1403 459 1 0 0 3 796 181 797 (.ref 798) (.ref 799) 800 1405 459 1406)::
 (nat_lit 802,fO "is_scalar_of_two" "is_scalar_of_two" (dN 137) "rankedfunctions.scalars" 1237 801)::
 (nat_lit 806,cO "scalar_of_two" 1408 "scalar_of_two" 1409 1410 461 3 0 0 3 803 181 804 .none .none 805 1411 461 1412)::
 (nat_lit 807,fO "scalar_of_two" "scalar_of_two" (dN 138) "rankedfunctions.scalars" 1237 806)::
 (nat_lit 813,cO "base_of_two" 1416 "base_of_two" 1417 1418 466 4 0 0 3 808 181 809 (.ref 810) (.ref 811) 812 1423 466 1424)::
 (nat_lit 814,fO "base_of_two" "base_of_two" (dN 140) "rankedfunctions.working" 1414 813)::
 (nat_lit 820,cO "work_of_two" 1426 "work_of_two" 1427 1428 471 4 0 0 3 815 181 816 (.ref 817) (.ref 818) 819 1437 471 1438)::
 (nat_lit 821,fO "work_of_two" "work_of_two" (dN 141) "rankedfunctions.working" 1414 820)::
 (nat_lit 827,cO "worked_with_two" 1442 "worked_with_two" 1443 1444 490 6 0 0 3 822 181 823 (.ref 824) (.ref 825) 826 1454 490 1455)::
 (nat_lit 828,fO "worked_with_two" "worked_with_two" (dN 143) "rankedfunctions.ranks" 1440 827)::
 (nat_lit 834,cO "tallied_with_two" 1457 "tallied_with_two" 1458 1459 497 5 0 0 3 829 181 830 (.ref 831) (.ref 832) 833 1466 497 1467)::
 (nat_lit 835,fO "tallied_with_two" "tallied_with_two" (dN 144) "rankedfunctions.ranks" 1440 834)::
 (nat_lit 841,cO "tally2" 1469 "tally2" 1470 1471 501 5 0 0 3 836 181 837 (.ref 838) (.ref 839) 840 1482 501 1483)::
 (nat_lit 842,fO "tally2" "tally2" (dN 145) "rankedfunctions.ranks" 1440 841)::[]
def heapA:List af:=nat_lit 3::nat_lit 23::nat_lit 24::nat_lit 36::nat_lit 37::nat_lit 49::nat_lit 50::nat_lit 62::nat_lit 63::nat_lit 75::nat_lit 76::nat_lit 88::nat_lit 89::nat_lit 101::nat_lit 102::nat_lit 114::nat_lit 115::nat_lit 127::nat_lit 128::nat_lit 140::nat_lit 141::nat_lit 153::nat_lit 154::nat_lit 170::nat_lit 171::nat_lit 173::nat_lit 174::nat_lit 183::nat_lit 184::nat_lit 197::nat_lit 198::nat_lit 200::nat_lit 201::nat_lit 211::nat_lit 212::nat_lit 216::nat_lit 217::nat_lit 223::nat_lit 224::nat_lit 230::nat_lit 231::nat_lit 237::nat_lit 238::nat_lit 244::nat_lit 245::nat_lit 251::nat_lit 252::nat_lit 258::nat_lit 259::nat_lit 263::nat_lit 264::nat_lit 270::nat_lit 271::nat_lit 277::nat_lit 278::nat_lit 284::nat_lit 285::nat_lit 291::nat_lit 292::nat_lit 298::nat_lit 299::nat_lit 303::nat_lit 304::nat_lit 305::nat_lit 306::nat_lit 319::nat_lit 320::nat_lit 322::nat_lit 323::nat_lit 331::nat_lit 332::nat_lit 338::nat_lit 339::nat_lit 345::nat_lit 346::nat_lit 352::nat_lit 353::nat_lit 359::nat_lit 360::nat_lit 366::nat_lit 367::nat_lit 373::nat_lit 374::nat_lit 380::nat_lit 381::nat_lit 387::nat_lit 388::nat_lit 389::nat_lit 390::nat_lit 391::nat_lit 392::nat_lit 405::nat_lit 406::nat_lit 408::nat_lit 409::nat_lit 419::nat_lit 420::nat_lit 426::nat_lit 427::nat_lit 433::nat_lit 434::nat_lit 440::nat_lit 441::nat_lit 447::nat_lit 448::nat_lit 454::nat_lit 455::nat_lit 461::nat_lit 462::nat_lit 475::nat_lit 476::nat_lit 482::nat_lit 483::nat_lit 485::nat_lit 486::nat_lit 496::nat_lit 497::nat_lit 503::nat_lit 504::nat_lit 510::nat_lit 511::nat_lit 517::nat_lit 518::nat_lit 524::nat_lit 525::nat_lit 529::nat_lit 530::nat_lit 536::nat_lit 537::nat_lit 541::nat_lit 542::nat_lit 548::nat_lit 549::nat_lit 555::nat_lit 556::nat_lit 560::nat_lit 561::nat_lit 567::nat_lit 568::nat_lit 574::nat_lit 575::nat_lit 581::nat_lit 582::nat_lit 588::nat_lit 589::nat_lit 595::nat_lit 596::nat_lit 602::nat_lit 603::nat_lit 607::nat_lit 608::nat_lit 614::nat_lit 615::nat_lit 621::nat_lit 622::nat_lit 628::nat_lit 629::nat_lit 635::nat_lit 636::nat_lit 642::nat_lit 643::nat_lit 647::nat_lit 648::nat_lit 652::nat_lit 653::nat_lit 659::nat_lit 660::nat_lit 666::nat_lit 667::nat_lit 668::nat_lit 674::nat_lit 675::nat_lit 681::nat_lit 682::nat_lit 688::nat_lit 689::nat_lit 695::nat_lit 696::nat_lit 702::nat_lit 703::nat_lit 709::nat_lit 710::nat_lit 716::nat_lit 717::nat_lit 723::nat_lit 724::nat_lit 730::nat_lit 731::nat_lit 737::nat_lit 738::nat_lit 744::nat_lit 745::nat_lit 751::nat_lit 752::nat_lit 758::nat_lit 759::nat_lit 765::nat_lit 766::nat_lit 772::nat_lit 773::nat_lit 779::nat_lit 780::nat_lit 786::nat_lit 787::nat_lit 793::nat_lit 794::nat_lit 795::nat_lit 801::nat_lit 802::nat_lit 806::nat_lit 807::nat_lit 813::nat_lit 814::nat_lit 820::nat_lit 821::nat_lit 827::nat_lit 828::nat_lit 834::nat_lit 835::nat_lit 841::nat_lit 842::[]
def looseT:List Str:=(["SHAPE","RANK","INDEX","ZERO","BIG","SIZE","DOMAIN","EMPTY","USE","FORM","LONG","FUNCTION","WrongShape","WrongRank","NoSuchCell","ByZero","NumberTooBig","NoShape","OutsideDomain","NothingToFold","NoSuchUse","NoArray","TooLong","NoFunction","answer_of","MOST_EXTENTS","MOST_DATA","FILL","Array","product","is_shape","sized","handed_array","scalar","vector","filled","as_vector","pieces_of","joined","cell_pieces","array_of_pieces","frame_of","cell_shape_of","cells_of","BLANKS","COLON","SIGNS","Token","bytes_of","is_blank","is_letter","is_digit","past_run","past_modifier_word","past_sign","past_token","token_from","MOST_BYTES","MOST_MODIFIERS","WORDS_OF_ONE","WORDS_OF_TWO","FOLD","SCAN","TABLE","SWAP","AT","MODIFIER_WORDS","RANK_DIGITS","WITH_ONE","WITH_TWO","Function","name_among","read_modifiers","read_function","function_below","uses_of_base","may_with_two","uses_of","Tally","check_counts","repeated","longer_shape","stretched","pairs_of","gathered","told_shape","work_each","at_of_two","table_of_two","own_cells","folded","fold_of_two","scanned","scan_of_two","one_number","reshape","take","drop","rotate","beside","join","pick","find","same","keep","MOVES","move_of_two","BIGGEST","as_number","not_too_big","check_division","check_truths","plus","minus","times","divided","modulo","smaller","greater","is_less","is_at_most","is_equal","is_another","both","at_least_one","OF_TWO","is_scalar_of_two","scalar_of_two","base_of_two","worked_with_two","tallied_with_two"]:List String).map ae
def viewT:be:=PySem.W.view ah [95,141,145]
end Rk
open Rk renaming heapK->Yl,heapA->Ym,looseT->Yn,viewT->Yo
namespace Rk
open PySem PySem.W PyProof.Rows
theorem hd1:opening ah=plainProg (ah).main.scope.names:=by kernel_rfl
theorem hd2:∀s,Vu ah s=some s:=fun s=>by kernel_rfl
theorem hd3:∀(w:bN) (os:gQ),topGo om ah w 11 Hx.ann 12 ⟨qf w.params,EA [],KQ,Nd,os⟩ (topStub ah)=some ((Hx.Sb w os).abs,⟨denote om (X6 ah),X6 ah,XZ,[Aa XZ]⟩):=fun w os=>by kernel_rfl
theorem hd4:∀(w:bN) (os:gQ),segRun om ah w 11 Hx.ann 1 1 (Hx.Sb w os).abs (blockOf (qg ah) (Hx.env ah) (X6 ah) XZ [Aa XZ])=some (.next,(Hx.Sb w os).abs,X6 ah,XZ):=fun w os=>by kernel_rfl
def seeT (s:aK):Bool:=xlAt Yo [] s&&recOk [] s
theorem Qg:∀(w:bN) (os:gQ),(Y0 ah (w.withFollow "special-get-raises" false) 6900 os).map (fun r=>(r.1,r.2.2.1,X_ ah (w.withFollow "special-get-raises" false) r.2.1.abs))=some (.next,X6 ah,true):=fun w os=>by kernel_rfl
theorem Qe:∀(w:bN) (os:gQ),(Y0 ah (w.withFollow "special-get-raises" true) 6900 os).map (fun r=>(r.1,r.2.2.1,X_ ah (w.withFollow "special-get-raises" true) r.2.1.abs))=some (.next,X6 ah,true):=fun w os=>by kernel_rfl
theorem runA:∀(w:bN) (os:gQ),(Y0 ah w 6900 os).map (fun r=>(r.1,r.2.2.1,X_ ah w r.2.1.abs))=some (.next,X6 ah,true):=Y2 "special-get-raises" Qg Qe
theorem Qd:∀(w:bN) (os:gQ),(Y0 ah (w.withFollow "special-get-raises" false) 6900 os).map (fun r=>gR Yo Yn (ro (ah).main.body) seeT true r.2.1.abs)=some (PR Yo Yn):=fun w os=>by kernel_rfl
theorem Qc:∀(w:bN) (os:gQ),(Y0 ah (w.withFollow "special-get-raises" true) 6900 os).map (fun r=>gR Yo Yn (ro (ah).main.body) seeT true r.2.1.abs)=some (PR Yo Yn):=fun w os=>by kernel_rfl
theorem runB:∀(w:bN) (os:gQ),(Y0 ah w 6900 os).map (fun r=>gR Yo Yn (ro (ah).main.body) seeT true r.2.1.abs)=some (PR Yo Yn):=Y2 "special-get-raises" Qd Qc
theorem Qb:∀(w:bN) (os:gQ),(Y0 ah (w.withFollow "special-get-raises" false) 6900 os).map (fun r=>Ym.map (Y1 r.2.1))=some (((Yl ((w.withFollow "special-get-raises" false)).params).map (·.2)).map some):=fun w os=>by kernel_rfl
theorem Qa:∀(w:bN) (os:gQ),(Y0 ah (w.withFollow "special-get-raises" true) 6900 os).map (fun r=>Ym.map (Y1 r.2.1))=some (((Yl ((w.withFollow "special-get-raises" true)).params).map (·.2)).map some):=fun w os=>by kernel_rfl
theorem runC:∀(w:bN) (os:gQ),(Y0 ah w 6900 os).map (fun r=>Ym.map (Y1 r.2.1))=some (((Yl (w).params).map (·.2)).map some):=Y2 "special-get-raises" Qb Qa
end Rk
open PySem PySem.W PyProof.Rows
local macro_rules | `(tactic| trivial)=>`(tactic| exact fun _ _ _ _ _ _ us hl=>match us,hl with | [_],_=>rfl)
local macro_rules | `(tactic| trivial)=>`(tactic| exact fun _ _ _ _ _ _ us hl=>match us,hl with | [_,_],_=>rfl)
local macro_rules | `(tactic| trivial)=>`(tactic| exact fun _ _ _ _ _ _ us hl=>match us,hl with | [_,_,_],_=>rfl)
local macro_rules | `(tactic| trivial)=>`(tactic| exact fun _ _ _ _ _ _ us hl=>match us,hl with | [_,_,_,_],_=>rfl)
local macro_rules | `(tactic| trivial)=>`(tactic| exact fun _ _ _ _ _ _ us hl=>match us,hl with | [_,_,_,_,_],_=>rfl)
local macro_rules | `(tactic| trivial)=>`(tactic| exact fun _ _ _ _ _ _ us hl=>match us,hl with | [_,_,_,_,_,_],_=>rfl)
set_option maxRecDepth 100000 in
set_option maxHeartbeats 0 in
theorem PySem.Challenge.cw_rankedfunctions_s07_tally2_holds : PySem.Challenge.rw_rankedfunctions_s07_tally2.Holds := by
 w_on
 refine PySem.W.holds_os (q:=Yo) (loose:=Yn) (Xt:=Rk.seeT) (XP:=PySem.W.XL Yo []) (Yf:=U5 (rq Yl Ym (fun _=>by kernel_rfl))) (Ya:=U2 (rq Yl Ym (fun _=>by kernel_rfl))) (YP:=U3 (rq Yl Ym (fun _=>by kernel_rfl))) (N:=14500) ?hl (U4 (rq Yl Ym (fun _=>by kernel_rfl))) (U6 (rq Yl Ym (fun _=>by kernel_rfl))) (fun s e=>PySem.W.xl_of s (oV.mp e).1) Vy (by rfl) (by rfl) (by rfl) (fun s e=>PySem.W.recFacts_of (oV.mp e).2) PySem.W.os_shapes (by decide+kernel) (by decide+kernel) ⟨rfl,rfl,rfl,rfl,rfl,by decide+kernel⟩ ?hw ?hc
 (case hl=>exact Hx.left_of (M:=6900) Rk.hd1 rfl Rk.hd2 Rk.hd3 Rk.hd4 rfl Rk.runA Rk.runB Rk.runC)
 (case hw=>exact ⟨[.list [],.list [],.list [],.list [],.list []],by decide+kernel,by decide+kernel⟩)
 k_fillS
 refine L2.walk_specT (r:=iq) (k:=69) (CX:=fun w=>L2.CXE iq.prog w) (ps:=["f","x_shape","x_data","y_shape","y_data"]) (sp:=Rk.spTal2T) (by decide+kernel) rfl rfl ⟨rfl,by decide,by decide⟩ (fun w h Y=>PySem.W.kIn_of Y) ?F ?S (fun w H s e s' z=>L2.cxe_none H s e s' z)
 case F=>
  intro w mean mg mb fa h T Y KX G hmg
  have R:Rk.Reads (WF KX) mg:=by
   dsimp only [WF]
   refine' Rk.read_mk KX G ?eL ?lL ?oL ?pL ?iL ?eN ?lN ?oN ?pN ?n1 ?n2 ?n3 ?n4 ?ne ?aX ?lX ?cX ?kX ?eT ?pgT ?hdT ?poT ?saT ?mkT ?kcT ?t1 ?t2 ?t3 ?aI ?iI ?lI ?cI ?kI ?eF ?pgF ?hdF ?poF ?saF ?mkF ?kcF ?f1 ?f2 ?aJ ?iJ ?lJ ?cJ ?kJ ?v1 ?v2 ?v3 ?v4 ?v5
    ?q1 ?r1 ?z1 ?y1 ?q2 ?r2 ?z2 ?y2 ?q6 ?r6 ?z6 ?y6 ?q3 ?r3 ?z3 ?y3 ?q4 ?r4 ?z4 ?y4 ?q5 ?r5 ?z5 ?y5 ?g1 ?g2 ?g3 ?g4
    ?m1 ?j1 ?c1 ?w1 ?m2 ?j2 ?c2 ?w2 ?m3 ?j3 ?c3 ?w3 ?m4 ?j4 ?c4 ?w4 ?m5 ?j5 ?c5 ?w5 ?m6 ?j6 ?c6 ?w6 ?m7 ?j7 ?c7 ?w7 ?m8 ?j8 ?c8 ?w8 ?m9 ?j9 ?c9 ?w9 ?ma ?ja ?ca ?wa ?mb ?jb ?cb ?wb ?mc ?jc ?cc ?wc
   (case eL=>k_is);(case lL=>k_is);(case oL=>first | kernel_rfl | with_unfolding_all rfl);(case pL=>k_is);(case iL=>k_is)
   (case eN=>k_is);(case lN=>k_is);(case oN=>first | kernel_rfl | with_unfolding_all rfl);(case pN=>k_is);(case n1=>k_is);(case n2=>k_is);(case n3=>k_is);(case n4=>k_is);(case ne=>decide)
   (case aX=>k_is);(case lX=>k_is);(case cX=>k_is);(case kX=>k_is)
   (case eT=>k_is);(case pgT=>k_is);(case hdT=>k_is);(case poT=>k_is);(case saT=>k_is);(case mkT=>k_is);(case kcT=>k_is);(case t1=>k_is);(case t2=>k_is);(case t3=>k_is)
   (case aI=>k_is);(case iI=>k_is);(case lI=>k_is);(case cI=>k_is);(case kI=>k_is)
   (case eF=>k_is);(case pgF=>k_is);(case hdF=>k_is);(case poF=>k_is);(case saF=>k_is);(case mkF=>k_is);(case kcF=>k_is);(case f1=>k_is);(case f2=>k_is)
   (case aJ=>k_is);(case iJ=>k_is);(case lJ=>k_is);(case cJ=>k_is);(case kJ=>k_is)
   (case v1=>k_is);(case v2=>k_is);(case v3=>k_is);(case v4=>k_is);(case v5=>k_is)
   (case q1=>k_is);(case r1=>k_is);(case z1=>decide);(case y1=>rfl)
   (case q2=>k_is);(case r2=>k_is);(case z2=>decide);(case y2=>rfl)
   (case q6=>k_is);(case r6=>k_is);(case z6=>decide);(case y6=>rfl)
   (case q3=>k_is);(case r3=>k_is);(case z3=>decide);(case y3=>rfl)
   (case q4=>k_is);(case r4=>k_is);(case z4=>decide);(case y4=>rfl)
   (case q5=>k_is);(case r5=>k_is);(case z5=>decide);(case y5=>rfl)
   (case g1=>k_is);(case g2=>k_is);(case g3=>k_is);(case g4=>k_is)
   (case m1=>k_is);(case j1=>k_is);(case c1=>k_is);(case w1=>k_is)
   (case m2=>k_is);(case j2=>k_is);(case c2=>k_is);(case w2=>k_is)
   (case m3=>k_is);(case j3=>k_is);(case c3=>k_is);(case w3=>k_is)
   (case m4=>k_is);(case j4=>k_is);(case c4=>k_is);(case w4=>k_is)
   (case m5=>k_is);(case j5=>k_is);(case c5=>k_is);(case w5=>k_is)
   (case m6=>k_is);(case j6=>k_is);(case c6=>k_is);(case w6=>k_is)
   (case m7=>k_is);(case j7=>k_is);(case c7=>k_is);(case w7=>k_is)
   (case m8=>k_is);(case j8=>k_is);(case c8=>k_is);(case w8=>k_is)
   (case m9=>k_is);(case j9=>k_is);(case c9=>k_is);(case w9=>k_is)
   (case ma=>k_is);(case ja=>k_is);(case ca=>k_is);(case wa=>k_is)
   (case mb=>k_is);(case jb=>k_is);(case cb=>k_is);(case wb=>k_is)
   (case mc=>k_is);(case jc=>k_is);(case cc=>k_is);(case wc=>k_is)
  have X12:∃q,Rk.AnsT (WF KX) mg q∧Rk.Ini (WF KX) q:=by
   dsimp only [WF]
   refine' ⟨_,Rk.ans_mk (X8 KX G ?e0 ?l0 ?o0 ?p0 ?v0) (X8 KX G ?e1 ?l1 ?o1 ?p1 ?v1) (X8 KX G ?e2 ?l2 ?o2 ?p2 ?v2) (X8 KX G ?e3 ?l3 ?o3 ?p3 ?v3) (X8 KX G ?e4 ?l4 ?o4 ?p4 ?v4) (X8 KX G ?e5 ?l5 ?o5 ?p5 ?v5) (X8 KX G ?e6 ?l6 ?o6 ?p6 ?v6) (X8 KX G ?e7 ?l7 ?o7 ?p7 ?v7) (X8 KX G ?e8 ?l8 ?o8 ?p8 ?v8) (X8 KX G ?e9 ?l9 ?o9 ?p9 ?v9) (X8 KX G ?ea ?la ?oa ?pa ?va) (X8 KX G ?eb ?lb ?ob ?pb ?vb) ?nd,?ini⟩
   (case e0=>k_is);(case l0=>k_is);(case o0=>first | kernel_rfl | with_unfolding_all rfl);(case p0=>k_is);(case v0=>k_is)
   (case e1=>k_is);(case l1=>k_is);(case o1=>first | kernel_rfl | with_unfolding_all rfl);(case p1=>k_is);(case v1=>k_is)
   (case e2=>k_is);(case l2=>k_is);(case o2=>first | kernel_rfl | with_unfolding_all rfl);(case p2=>k_is);(case v2=>k_is)
   (case e3=>k_is);(case l3=>k_is);(case o3=>first | kernel_rfl | with_unfolding_all rfl);(case p3=>k_is);(case v3=>k_is)
   (case e4=>k_is);(case l4=>k_is);(case o4=>first | kernel_rfl | with_unfolding_all rfl);(case p4=>k_is);(case v4=>k_is)
   (case e5=>k_is);(case l5=>k_is);(case o5=>first | kernel_rfl | with_unfolding_all rfl);(case p5=>k_is);(case v5=>k_is)
   (case e6=>k_is);(case l6=>k_is);(case o6=>first | kernel_rfl | with_unfolding_all rfl);(case p6=>k_is);(case v6=>k_is)
   (case e7=>k_is);(case l7=>k_is);(case o7=>first | kernel_rfl | with_unfolding_all rfl);(case p7=>k_is);(case v7=>k_is)
   (case e8=>k_is);(case l8=>k_is);(case o8=>first | kernel_rfl | with_unfolding_all rfl);(case p8=>k_is);(case v8=>k_is)
   (case e9=>k_is);(case l9=>k_is);(case o9=>first | kernel_rfl | with_unfolding_all rfl);(case p9=>k_is);(case v9=>k_is)
   (case ea=>k_is);(case la=>k_is);(case oa=>first | kernel_rfl | with_unfolding_all rfl);(case pa=>k_is);(case va=>k_is)
   (case eb=>k_is);(case lb=>k_is);(case ob=>first | kernel_rfl | with_unfolding_all rfl);(case pb=>k_is);(case vb=>k_is)
   (case nd=>decide)
   (case ini=>exact ⟨by kernel_rfl,by kernel_rfl,by kernel_rfl,by kernel_rfl,by kernel_rfl,by kernel_rfl,by kernel_rfl,by kernel_rfl,by kernel_rfl,by kernel_rfl⟩)
  obtain ⟨q,A,I⟩:=X12
  have DA:∃f fd,WY (WF KX) mg "answer_of" WN ["call"] f fd:=by
   dsimp only [WF]
   refine' ⟨_,_,X3 (st:=WN) (ps:=["call"]) KX G ?a ?l ?c ?k ?b⟩
   (case a=>k_is);(case l=>k_is);(case c=>k_is);(case k=>k_is)
   (case b=>exact fun _ _ _ _ _ _ us hl=>match us,hl with | [_],_=>rfl)
  obtain ⟨fDA,fdDA,DA⟩:=DA
  have DB:∃f fd,WY (WF KX) mg "uses_of_base" WQ ["base"] f fd:=by
   dsimp only [WF]
   refine' ⟨_,_,X3 (st:=WQ) (ps:=["base"]) KX G ?a ?l ?c ?k ?b⟩
   (case a=>k_is);(case l=>k_is);(case c=>k_is);(case k=>k_is)
   (case b=>exact fun _ _ _ _ _ _ us hl=>match us,hl with | [_],_=>rfl)
  obtain ⟨fDB,fdDB,DB⟩:=DB
  have DM:∃f fd,WY (WF KX) mg "may_with_two" WR ["uses"] f fd:=by
   dsimp only [WF]
   refine' ⟨_,_,X3 (st:=WR) (ps:=["uses"]) KX G ?a ?l ?c ?k ?b⟩
   (case a=>k_is);(case l=>k_is);(case c=>k_is);(case k=>k_is)
   (case b=>exact fun _ _ _ _ _ _ us hl=>match us,hl with | [_],_=>rfl)
  obtain ⟨fDM,fdDM,DM⟩:=DM
  have DU:∃f fd,WY (WF KX) mg "uses_of" WS ["function"] f fd:=by
   dsimp only [WF]
   refine' ⟨_,_,X3 (st:=WS) (ps:=["function"]) KX G ?a ?l ?c ?k ?b⟩
   (case a=>k_is);(case l=>k_is);(case c=>k_is);(case k=>k_is)
   (case b=>exact fun _ _ _ _ _ _ us hl=>match us,hl with | [_],_=>rfl)
  obtain ⟨fDU,fdDU,DU⟩:=DU
  have D_tallied_with_two:Rk.Dx (WF KX) mg "tallied_with_two" WW ["f","x_shape","x_data","y_shape","y_data"]:=by
   dsimp only [WF]
   refine' ⟨_,_,X3 (st:=WW) (ps:=["f","x_shape","x_data","y_shape","y_data"]) KX G ?a ?l ?c ?k ?b⟩
   (case a=>k_is);(case l=>k_is);(case c=>k_is);(case k=>k_is)
   (case b=>exact fun _ _ _ _ _ _ us hl=>match us,hl with | [_,_,_,_,_],_=>rfl)
  have F:Rk.F2 (WF KX) mg:=by
   dsimp only [WF]
   refine' ⟨Yk KX G ?a0 ?l0 ?c0 ?k0 ?b0,Yk KX G ?a1 ?l1 ?c1 ?k1 ?b1,Yk KX G ?a2 ?l2 ?c2 ?k2 ?b2,Yk KX G ?a3 ?l3 ?c3 ?k3 ?b3,Yk KX G ?a4 ?l4 ?c4 ?k4 ?b4,Yk KX G ?a5 ?l5 ?c5 ?k5 ?b5,Yk KX G ?a6 ?l6 ?c6 ?k6 ?b6,Yk KX G ?a7 ?l7 ?c7 ?k7 ?b7,Yk KX G ?a8 ?l8 ?c8 ?k8 ?b8,Yk KX G ?a9 ?l9 ?c9 ?k9 ?b9,Yk KX G ?a10 ?l10 ?c10 ?k10 ?b10,Yk KX G ?a11 ?l11 ?c11 ?k11 ?b11,Yk KX G ?a12 ?l12 ?c12 ?k12 ?b12,Yk KX G ?a13 ?l13 ?c13 ?k13 ?b13,Yk KX G ?a14 ?l14 ?c14 ?k14 ?b14,Yk KX G ?a15 ?l15 ?c15 ?k15 ?b15,Yk KX G ?a16 ?l16 ?c16 ?k16 ?b16,Yk KX G ?a17 ?l17 ?c17 ?k17 ?b17,Yk KX G ?a18 ?l18 ?c18 ?k18 ?b18,Yk KX G ?a19 ?l19 ?c19 ?k19 ?b19,Yk KX G ?a20 ?l20 ?c20 ?k20 ?b20,Yk KX G ?a21 ?l21 ?c21 ?k21 ?b21,Yk KX G ?a22 ?l22 ?c22 ?k22 ?b22,Yk KX G ?a23 ?l23 ?c23 ?k23 ?b23,Yk KX G ?a24 ?l24 ?c24 ?k24 ?b24,Yk KX G ?a25 ?l25 ?c25 ?k25 ?b25,Yk KX G ?a26 ?l26 ?c26 ?k26 ?b26,Yk KX G ?a27 ?l27 ?c27 ?k27 ?b27,Yk KX G ?a28 ?l28 ?c28 ?k28 ?b28,Yk KX G ?a29 ?l29 ?c29 ?k29 ?b29,Yk KX G ?a30 ?l30 ?c30 ?k30 ?b30,Yk KX G ?a31 ?l31 ?c31 ?k31 ?b31,Yk KX G ?a32 ?l32 ?c32 ?k32 ?b32,Yk KX G ?a33 ?l33 ?c33 ?k33 ?b33,Yk KX G ?a34 ?l34 ?c34 ?k34 ?b34,Yk KX G ?a35 ?l35 ?c35 ?k35 ?b35,Yk KX G ?a36 ?l36 ?c36 ?k36 ?b36,Yk KX G ?a37 ?l37 ?c37 ?k37 ?b37,Yk KX G ?a38 ?l38 ?c38 ?k38 ?b38,Yk KX G ?a39 ?l39 ?c39 ?k39 ?b39,Yk KX G ?a40 ?l40 ?c40 ?k40 ?b40,Yk KX G ?a41 ?l41 ?c41 ?k41 ?b41,Yk KX G ?a42 ?l42 ?c42 ?k42 ?b42,Yk KX G ?a43 ?l43 ?c43 ?k43 ?b43,Yk KX G ?a44 ?l44 ?c44 ?k44 ?b44,Yk KX G ?a45 ?l45 ?c45 ?k45 ?b45,Yk KX G ?a46 ?l46 ?c46 ?k46 ?b46,Yk KX G ?a47 ?l47 ?c47 ?k47 ?b47,Yk KX G ?a48 ?l48 ?c48 ?k48 ?b48,Yk KX G ?a49 ?l49 ?c49 ?k49 ?b49,Yk KX G ?a50 ?l50 ?c50 ?k50 ?b50,Yk KX G ?a51 ?l51 ?c51 ?k51 ?b51,Yk KX G ?a52 ?l52 ?c52 ?k52 ?b52,Yk KX G ?a53 ?l53 ?c53 ?k53 ?b53,Yk KX G ?a54 ?l54 ?c54 ?k54 ?b54,Yk KX G ?a55 ?l55 ?c55 ?k55 ?b55,Yk KX G ?a56 ?l56 ?c56 ?k56 ?b56,Yk KX G ?a57 ?l57 ?c57 ?k57 ?b57,Yk KX G ?a58 ?l58 ?c58 ?k58 ?b58,Yk KX G ?a59 ?l59 ?c59 ?k59 ?b59,Yk KX G ?a60 ?l60 ?c60 ?k60 ?b60,Yk KX G ?a61 ?l61 ?c61 ?k61 ?b61,Yk KX G ?a62 ?l62 ?c62 ?k62 ?b62,Yk KX G ?a63 ?l63 ?c63 ?k63 ?b63⟩
   (case a0=>k_is);(case l0=>k_is);(case c0=>k_is);(case k0=>k_is);(case b0=>trivial)
   (case a1=>k_is);(case l1=>k_is);(case c1=>k_is);(case k1=>k_is);(case b1=>trivial)
   (case a2=>k_is);(case l2=>k_is);(case c2=>k_is);(case k2=>k_is);(case b2=>trivial)
   (case a3=>k_is);(case l3=>k_is);(case c3=>k_is);(case k3=>k_is);(case b3=>trivial)
   (case a4=>k_is);(case l4=>k_is);(case c4=>k_is);(case k4=>k_is);(case b4=>trivial)
   (case a5=>k_is);(case l5=>k_is);(case c5=>k_is);(case k5=>k_is);(case b5=>trivial)
   (case a6=>k_is);(case l6=>k_is);(case c6=>k_is);(case k6=>k_is);(case b6=>trivial)
   (case a7=>k_is);(case l7=>k_is);(case c7=>k_is);(case k7=>k_is);(case b7=>trivial)
   (case a8=>k_is);(case l8=>k_is);(case c8=>k_is);(case k8=>k_is);(case b8=>trivial)
   (case a9=>k_is);(case l9=>k_is);(case c9=>k_is);(case k9=>k_is);(case b9=>trivial)
   (case a10=>k_is);(case l10=>k_is);(case c10=>k_is);(case k10=>k_is);(case b10=>trivial)
   (case a11=>k_is);(case l11=>k_is);(case c11=>k_is);(case k11=>k_is);(case b11=>trivial)
   (case a12=>k_is);(case l12=>k_is);(case c12=>k_is);(case k12=>k_is);(case b12=>trivial)
   (case a13=>k_is);(case l13=>k_is);(case c13=>k_is);(case k13=>k_is);(case b13=>trivial)
   (case a14=>k_is);(case l14=>k_is);(case c14=>k_is);(case k14=>k_is);(case b14=>trivial)
   (case a15=>k_is);(case l15=>k_is);(case c15=>k_is);(case k15=>k_is);(case b15=>trivial)
   (case a16=>k_is);(case l16=>k_is);(case c16=>k_is);(case k16=>k_is);(case b16=>trivial)
   (case a17=>k_is);(case l17=>k_is);(case c17=>k_is);(case k17=>k_is);(case b17=>trivial)
   (case a18=>k_is);(case l18=>k_is);(case c18=>k_is);(case k18=>k_is);(case b18=>trivial)
   (case a19=>k_is);(case l19=>k_is);(case c19=>k_is);(case k19=>k_is);(case b19=>trivial)
   (case a20=>k_is);(case l20=>k_is);(case c20=>k_is);(case k20=>k_is);(case b20=>trivial)
   (case a21=>k_is);(case l21=>k_is);(case c21=>k_is);(case k21=>k_is);(case b21=>trivial)
   (case a22=>k_is);(case l22=>k_is);(case c22=>k_is);(case k22=>k_is);(case b22=>trivial)
   (case a23=>k_is);(case l23=>k_is);(case c23=>k_is);(case k23=>k_is);(case b23=>trivial)
   (case a24=>k_is);(case l24=>k_is);(case c24=>k_is);(case k24=>k_is);(case b24=>trivial)
   (case a25=>k_is);(case l25=>k_is);(case c25=>k_is);(case k25=>k_is);(case b25=>trivial)
   (case a26=>k_is);(case l26=>k_is);(case c26=>k_is);(case k26=>k_is);(case b26=>trivial)
   (case a27=>k_is);(case l27=>k_is);(case c27=>k_is);(case k27=>k_is);(case b27=>trivial)
   (case a28=>k_is);(case l28=>k_is);(case c28=>k_is);(case k28=>k_is);(case b28=>trivial)
   (case a29=>k_is);(case l29=>k_is);(case c29=>k_is);(case k29=>k_is);(case b29=>trivial)
   (case a30=>k_is);(case l30=>k_is);(case c30=>k_is);(case k30=>k_is);(case b30=>trivial)
   (case a31=>k_is);(case l31=>k_is);(case c31=>k_is);(case k31=>k_is);(case b31=>trivial)
   (case a32=>k_is);(case l32=>k_is);(case c32=>k_is);(case k32=>k_is);(case b32=>trivial)
   (case a33=>k_is);(case l33=>k_is);(case c33=>k_is);(case k33=>k_is);(case b33=>trivial)
   (case a34=>k_is);(case l34=>k_is);(case c34=>k_is);(case k34=>k_is);(case b34=>trivial)
   (case a35=>k_is);(case l35=>k_is);(case c35=>k_is);(case k35=>k_is);(case b35=>trivial)
   (case a36=>k_is);(case l36=>k_is);(case c36=>k_is);(case k36=>k_is);(case b36=>trivial)
   (case a37=>k_is);(case l37=>k_is);(case c37=>k_is);(case k37=>k_is);(case b37=>trivial)
   (case a38=>k_is);(case l38=>k_is);(case c38=>k_is);(case k38=>k_is);(case b38=>trivial)
   (case a39=>k_is);(case l39=>k_is);(case c39=>k_is);(case k39=>k_is);(case b39=>trivial)
   (case a40=>k_is);(case l40=>k_is);(case c40=>k_is);(case k40=>k_is);(case b40=>trivial)
   (case a41=>k_is);(case l41=>k_is);(case c41=>k_is);(case k41=>k_is);(case b41=>trivial)
   (case a42=>k_is);(case l42=>k_is);(case c42=>k_is);(case k42=>k_is);(case b42=>trivial)
   (case a43=>k_is);(case l43=>k_is);(case c43=>k_is);(case k43=>k_is);(case b43=>trivial)
   (case a44=>k_is);(case l44=>k_is);(case c44=>k_is);(case k44=>k_is);(case b44=>trivial)
   (case a45=>k_is);(case l45=>k_is);(case c45=>k_is);(case k45=>k_is);(case b45=>trivial)
   (case a46=>k_is);(case l46=>k_is);(case c46=>k_is);(case k46=>k_is);(case b46=>trivial)
   (case a47=>k_is);(case l47=>k_is);(case c47=>k_is);(case k47=>k_is);(case b47=>trivial)
   (case a48=>k_is);(case l48=>k_is);(case c48=>k_is);(case k48=>k_is);(case b48=>trivial)
   (case a49=>k_is);(case l49=>k_is);(case c49=>k_is);(case k49=>k_is);(case b49=>trivial)
   (case a50=>k_is);(case l50=>k_is);(case c50=>k_is);(case k50=>k_is);(case b50=>trivial)
   (case a51=>k_is);(case l51=>k_is);(case c51=>k_is);(case k51=>k_is);(case b51=>trivial)
   (case a52=>k_is);(case l52=>k_is);(case c52=>k_is);(case k52=>k_is);(case b52=>trivial)
   (case a53=>k_is);(case l53=>k_is);(case c53=>k_is);(case k53=>k_is);(case b53=>trivial)
   (case a54=>k_is);(case l54=>k_is);(case c54=>k_is);(case k54=>k_is);(case b54=>trivial)
   (case a55=>k_is);(case l55=>k_is);(case c55=>k_is);(case k55=>k_is);(case b55=>trivial)
   (case a56=>k_is);(case l56=>k_is);(case c56=>k_is);(case k56=>k_is);(case b56=>trivial)
   (case a57=>k_is);(case l57=>k_is);(case c57=>k_is);(case k57=>k_is);(case b57=>trivial)
   (case a58=>k_is);(case l58=>k_is);(case c58=>k_is);(case k58=>k_is);(case b58=>trivial)
   (case a59=>k_is);(case l59=>k_is);(case c59=>k_is);(case k59=>k_is);(case b59=>trivial)
   (case a60=>k_is);(case l60=>k_is);(case c60=>k_is);(case k60=>k_is);(case b60=>trivial)
   (case a61=>k_is);(case l61=>k_is);(case c61=>k_is);(case k61=>k_is);(case b61=>trivial)
   (case a62=>k_is);(case l62=>k_is);(case c62=>k_is);(case k62=>k_is);(case b62=>trivial)
   (case a63=>k_is);(case l63=>k_is);(case c63=>k_is);(case k63=>k_is);(case b63=>trivial)
  have S2:Rk.Sc2T ah w (WF KX) mg:=by
   dsimp only [WF]
   refine' ⟨_,nat_lit 710,nat_lit 717,nat_lit 724,nat_lit 731,nat_lit 738,nat_lit 745,nat_lit 752,nat_lit 759,nat_lit 766,nat_lit 773,nat_lit 780,nat_lit 787,nat_lit 794,bo KX G ?d,Y4 (n:=13) (rows:=[("+",nat_lit 1374,.ref (nat_lit 710)),("-",nat_lit 1375,.ref (nat_lit 717)),("*",nat_lit 1376,.ref (nat_lit 724)),("Div",nat_lit 1377,.ref (nat_lit 731)),("Mod",nat_lit 1378,.ref (nat_lit 738)),("Min",nat_lit 1379,.ref (nat_lit 745)),("Max",nat_lit 1380,.ref (nat_lit 752)),("<",nat_lit 1381,.ref (nat_lit 759)),("<=",nat_lit 1382,.ref (nat_lit 766)),("=",nat_lit 1383,.ref (nat_lit 773)),("/=",nat_lit 1384,.ref (nat_lit 780)),("And",nat_lit 1385,.ref (nat_lit 787)),("Or",nat_lit 1386,.ref (nat_lit 794))]) ?ha ?l ?nd ?r,bo KX G ?m0,bo KX G ?m1,bo KX G ?m2,bo KX G ?m3,bo KX G ?m4,bo KX G ?m5,bo KX G ?m6,bo KX G ?m7,bo KX G ?m8,bo KX G ?m9,bo KX G ?m10,bo KX G ?m11,bo KX G ?m12⟩
   (case d=>k_is);(case l=>first | k_is | kernel_rfl);(case ha=>rfl);(case nd=>decide+kernel)
   (case r=>exact .cons ⟨rfl,rfl⟩ (.cons ⟨rfl,rfl⟩ (.cons ⟨rfl,rfl⟩ (.cons ⟨rfl,rfl⟩ (.cons ⟨rfl,rfl⟩ (.cons ⟨rfl,rfl⟩ (.cons ⟨rfl,rfl⟩ (.cons ⟨rfl,rfl⟩ (.cons ⟨rfl,rfl⟩ (.cons ⟨rfl,rfl⟩ (.cons ⟨rfl,rfl⟩ (.cons ⟨rfl,rfl⟩ (.cons ⟨rfl,rfl⟩ (.nil))))))))))))))
   (case m0=>k_is);(case m1=>k_is);(case m2=>k_is);(case m3=>k_is);(case m4=>k_is);(case m5=>k_is);(case m6=>k_is);(case m7=>k_is);(case m8=>k_is);(case m9=>k_is);(case m10=>k_is);(case m11=>k_is);(case m12=>k_is)
  have V2:Rk.Mv2T ah w (WF KX) mg:=by
   dsimp only [WF]
   refine' ⟨_,nat_lit 608,nat_lit 615,nat_lit 622,nat_lit 629,nat_lit 643,nat_lit 648,nat_lit 653,nat_lit 660,nat_lit 667,bo KX G ?d,Y4 (n:=9) (rows:=[("Reshape",nat_lit 1208,.ref (nat_lit 608)),("Take",nat_lit 1209,.ref (nat_lit 615)),("Drop",nat_lit 1210,.ref (nat_lit 622)),("Rotate",nat_lit 1211,.ref (nat_lit 629)),("Join",nat_lit 1212,.ref (nat_lit 643)),("Pick",nat_lit 1213,.ref (nat_lit 648)),("Find",nat_lit 1214,.ref (nat_lit 653)),("Same",nat_lit 1215,.ref (nat_lit 660)),("Keep",nat_lit 1216,.ref (nat_lit 667))]) ?ha ?l ?nd ?r,bo KX G ?m0,bo KX G ?m1,bo KX G ?m2,bo KX G ?m3,bo KX G ?m4,bo KX G ?m5,bo KX G ?m6,bo KX G ?m7,bo KX G ?m8⟩
   (case d=>k_is);(case l=>first | k_is | kernel_rfl);(case ha=>rfl);(case nd=>decide+kernel)
   (case r=>exact .cons ⟨rfl,rfl⟩ (.cons ⟨rfl,rfl⟩ (.cons ⟨rfl,rfl⟩ (.cons ⟨rfl,rfl⟩ (.cons ⟨rfl,rfl⟩ (.cons ⟨rfl,rfl⟩ (.cons ⟨rfl,rfl⟩ (.cons ⟨rfl,rfl⟩ (.cons ⟨rfl,rfl⟩ (.nil))))))))))
   (case m0=>k_is);(case m1=>k_is);(case m2=>k_is);(case m3=>k_is);(case m4=>k_is);(case m5=>k_is);(case m6=>k_is);(case m7=>k_is);(case m8=>k_is)
  have C:Rk.Con (WF KX):=by
   dsimp only [WF]
   refine' Rk.con_mk ?c0 ?c1 ?c2 ?c3 ?c4 ?c5 ?c6 ?c7 ?c8 ?c9 ?ca ?b0 ?b1 ?b2 ?b3 ?b4 ?b5 ?b6 ?b7 ?b8 ?b9 ?ba ?bb
   (case c0=>k_is);(case c1=>k_is);(case c2=>k_is);(case c3=>k_is);(case c4=>k_is);(case c5=>k_is);(case c6=>k_is);(case c7=>k_is);(case c8=>k_is);(case c9=>k_is);(case ca=>k_is);(case b0=>k_is);(case b1=>k_is);(case b2=>k_is);(case b3=>k_is);(case b4=>k_is);(case b5=>k_is);(case b6=>k_is);(case b7=>k_is);(case b8=>k_is);(case b9=>k_is);(case ba=>k_is);(case bb=>k_is)
  dsimp only [WF] at R A I C F S2 V2 DA DB DM DU D_tallied_with_two
  refine' Rk.tally2_mk KX G hmg ?e ?lk ?hcd (Pt:= ?Pt) ?hT ?hK ?x1 ?x2 ?n1 DA D_tallied_with_two (Rk.all2_mk (P:=ah) (w:=w) KX G R A I C (Yi (nm:="Array") (qn:="Array.__init__") (st:=WO) (ps:=["self","shape","data"]) KX G ?a0 ?a1 ?a2 ?a3 ?a4 ?a5 ?a6 ?a7 ?a8 ?a9 ?a10 ?a11 ?ab) ?na ?nb (Yi (nm:="Tally") (qn:="Tally.__init__") (st:=WT) (ps:=["self"]) KX G ?y0 ?y1 ?y2 ?y3 ?y4 ?y5 ?y6 ?y7 ?y8 ?y9 ?y10 ?y11 ?yb) ?ny (Rk.mth_mk (nm:="add_one") (qn:="Tally.add_one") (st:=WX) (ps:=["self"]) ?m0 ?m1 ?m2 ?m3 ?m4 ?mb) (Yi (nm:="Function") (qn:="Function.__init__") (st:=WP) (ps:=["self","base","modifiers"]) KX G ?f0 ?f1 ?f2 ?f3 ?f4 ?f5 ?f6 ?f7 ?f8 ?f9 ?f10 ?f11 ?fb) F S2 V2 (Yj (st:=WU) (ps:=["work","frame","pairs","left_shape","right_shape","tally"]) KX G ?p0 ?p1 ?p2 ?p3 ?pb) (Yj (st:=WV) (ps:=["function","x","y","tally"]) KX G ?w0 ?w1 ?w2 ?w3 ?wb) ?n1' ?n2 ?n3 DB DM DU)
  (case e=>k_is);(case lk=>k_is);(case hcd=>k_is)
  (case hK=>kernel_rfl)
  (case a0=>k_is);(case a1=>k_is);(case a2=>k_is);(case a3=>k_is);(case a4=>k_is);(case a5=>k_is);(case a6=>k_is);(case a7=>k_is);(case a8=>k_is);(case a9=>k_is);(case a10=>k_is);(case a11=>k_is)
  (case ab=>exact fun _ _ _ _ _ _ us hl=>match us,hl with | [_,_,_],_=>rfl)
  (case y0=>k_is);(case y1=>k_is);(case y2=>k_is);(case y3=>k_is);(case y4=>k_is);(case y5=>k_is);(case y6=>k_is);(case y7=>k_is);(case y8=>k_is);(case y9=>k_is);(case y10=>k_is);(case y11=>k_is)
  (case yb=>exact fun _ _ _ _ _ _ us hl=>match us,hl with | [_],_=>rfl)
  (case f0=>k_is);(case f1=>k_is);(case f2=>k_is);(case f3=>k_is);(case f4=>k_is);(case f5=>k_is);(case f6=>k_is);(case f7=>k_is);(case f8=>k_is);(case f9=>k_is);(case f10=>k_is);(case f11=>k_is)
  (case fb=>exact fun _ _ _ _ _ _ us hl=>match us,hl with | [_,_,_],_=>rfl)
  (case na=>unfold Wx;k_is);(case nb=>unfold Wx;k_is);(case ny=>unfold Wx;k_is)
  (case m0=>k_is);(case m1=>k_is);(case m2=>k_is);(case m3=>k_is);(case m4=>k_is)
  (case mb=>exact fun _ _ _ _ _ _ us hl=>match us,hl with | [_],_=>rfl)
  (case p0=>k_is);(case p1=>k_is);(case p2=>k_is);(case p3=>k_is)
  (case pb=>exact fun _ _ _ _ _ _ us hl=>match us,hl with | [_,_,_,_,_,_],_=>rfl)
  (case w0=>k_is);(case w1=>k_is);(case w2=>k_is);(case w3=>k_is)
  (case wb=>exact fun _ _ _ _ _ _ us hl=>match us,hl with | [_,_,_,_],_=>rfl)
  (case hT=>
   refine' c_.mpr ⟨E4 (x:="tally2") T KX rfl (X7 ?h1 ?h2 ?h3 ?h4 ?h5),c_.mpr ⟨E4 (x:="work_each_pair") T KX rfl (X7 ?i1 ?i2 ?i3 ?i4 ?i5),c_.mpr ⟨E4 (x:="work_of_two") T KX rfl (X7 ?j1 ?j2 ?j3 ?j4 ?j5),fun _ h=>nomatch h⟩⟩⟩
   (case h1=>k_is);(case h2=>k_is);(case h3=>rfl);(case h4=>k_is);(case h5=>rfl)
   (case i1=>k_is);(case i2=>k_is);(case i3=>rfl);(case i4=>k_is);(case i5=>rfl)
   (case j1=>k_is);(case j2=>k_is);(case j3=>rfl);(case j4=>k_is);(case j5=>rfl))
  (case x1=>decide);(case x2=>decide);(case n1=>decide);(case n1'=>decide);(case n2=>decide);(case n3=>decide)
 case S=>
  intro tabs K H xs a hO hwi hask hx
  cases hx with
  | cons h1 g1=>
  cases g1 with
  | cons h2 g2=>
  cases g2 with
  | cons h3 g3=>
  cases g3 with
  | cons h4 g4=>
  cases g4 with
  | cons h5 g5=>
  cases g5
  cases h1 with
  | lst s1 e1=>
  cases h2 with
  | lst s2 e2=>
  cases h3 with
  | lst s3 e3=>
  cases h4 with
  | lst s4 e4=>
  cases h5 with
  | lst s5 e5=>
  obtain ⟨b1,b2,b3,b4,b5,bu⟩:=a
  have r1:=WJ b1 _ e1
  have r2:=WJ b2 _ e2
  have r3:=WJ b3 _ e3
  have r4:=WJ b4 _ e4
  have r5:=WJ b5 _ e5
  subst r1 r2 r3 r4 r5
  have q:((wg 0 1000 b1&&b1.all (rD 0 255))&&((wg 0 3000 b2&&b2.all (rD (-1000000000000000000) 1000000000000000000))&&((wg 0 3000 b3&&b3.all (rD (-1000000000000000000) 1000000000000000000))&&((wg 0 3000 b4&&b4.all (rD (-1000000000000000000) 1000000000000000000))&&((wg 0 3000 b5&&b5.all (rD (-1000000000000000000) 1000000000000000000))&&true)))))=true:=hwi
  simp only [dS] at q
  obtain ⟨⟨_,q1⟩,⟨_,q2⟩,⟨_,q3⟩,⟨_,q4⟩,⟨_,q5⟩,_⟩:=q
  have hb:∀x∈b1,0≤x∧x≤255:=fun x hx=>P8.mp (eU.mp q1 x hx)
  have rg:∀{l:List Int},l.all (rD (-1000000000000000000) 1000000000000000000)=true→Rk.inR l∧Rk.okE l:=fun {l} ql=>by
   have z:∀x∈l,-1000000000000000000≤x∧x≤1000000000000000000:=fun x hx=>P8.mp (eU.mp ql x hx)
   exact ⟨fun x hx=>by have:=z x hx;omega,fun x hx=>(Xk x).mpr (z x hx)⟩
  refine ⟨_,_,_,_,_,b1.map fun b=>b.toNat,b2,b3,b4,b5,rfl,?_,s2,s3,s4,s5,(rg q2).1,(rg q4).1,(rg q3).2,(rg q5).2,hO.tab,fun H' p hp=> ?_⟩
  ·rw [Rk.tv_ints hb];exact s1
  ·show L2.Dw K H' (.ref p) (.list ((AL b1 b2 b3 b4 b5).map OU))
   rw [Rk.tally2_eq hb]
   exact .lst (Ws hp) (L2.dw_ints _)
