import PyProof.Rows.All
import Wide.All
import OpenK.AllK
import Wide.FinOn
import Lean
import PyProof.EqAt
import PyProof.EqKinds
import PyProof.TupleCall
import PyProof.P3In
import PyProof.NeData
import PyProof.FitsReplace
import PyProof.StrBlockL
import PyProof.TupleKey
import PyProof.DictRoadsH
import KE.KItemsList
import PyProof.DictWalks
import KE.KDictList
import PyProof.Rows.Range3
import KE.KListMore
import KE.KRevIter
import KE.KPairComp
import PyProof.TupleOfSeq
import KE.KSortKey
import PyProof.Rows.SortRuns
import KE.KLam
import KE.KNestM
import PySem.Challenge.RW_leafjudge_k91_whole_least_of_grown_and_d
set_option Elab.async false
set_option linter.all false
set_option compiler.extract_closed false
set_option bootstrap.genMatcherCode false
set_option maxRecDepth 100000
noncomputable section
def L2.tabA : Option PySem.Addr := some 292
theorem Fj{p:Prop}(h:p:=by decide +kernel):p:=h
theorem Fk{p:Prop}(h:p:=by decide):p:=h
theorem Fl{p:Prop}(h:p:=by lia):p:=h
theorem Fm{p:Prop}(h:p:=by simp):p:=h
theorem Fn{a b:Nat}(h:Nat.ble a b=true:=by rfl):a<=b:=Nat.le_of_ble_eq_true h
theorem Fo{α:Sort u}{a:α}:a=a:=rfl
open Option.some renaming inj->c5
open PySem.Str renaming ofString->c6,length->bj
open PySem renaming World->c7,Around->d1,bootBuiltins->d2,wpAny_callSpecial?_slot->d7,compareOp->e7,wpAny_holding->h8,rawInt->h9,mem_of_lookup->i3,foldedSetIterable->j7,wpAny_setState_of->j8,backTo->l0,wpAny_setField->l3,wpAny_setField_rec->l4,codeAny_builtin->l8,letOwnedTupleGo->l9,Builtin->m3,binaryOp->m4,wpAny_dictEntries->m5,wpAny_pyIter_slot->m6,PyData->m7,sysModules->m8,wpAny_attempt->m9,wpAny_rule->n8,wpAny_setEntries_of->o6,firstArgMember->o8,wpAny_fieldsOf->o9,wpAny_typeNameOfWhole_itemiter->q9,wpAny_field->u0,wpAny_typeNameOfWhole_keyiter->u1,pyNext->u3,NameKind->u5,cLine->u7,wpAny_passesOwn->u8,wpAny_specialOf->v0,attributeBase->v4,wpAny_pyIter_list->v9,wpAny_truthy_bool->w5,sizeLine_eq->w6,DictEntry->x9,wpAny_askSetting->y3,wpAny_isInstance->y4,wpAny_typeNameOf_itemiter->y8,behindInMarks->z4,plainId_quiet->z5,wpAny_typeNameOf_keyiter->z6,codeAny->z8,wpAny_dictEpoch->z9,wpAny_updateSeq->aa,builtinsNs->ab,wpAny_Call_Name_kw->ae,wpAny_getItem_str_slice->af,codeAny_mono->aj,wpAny_typeOf->al,sliceBounds->au,wpAny_execs_nil->ax,cellsFrom->bd,pyIter->bg,setField->bo,assignEach->br,call_meets->bu,getItem->bw,wpAny_isOneOf_itemiter->bx,wpAny_load->bz,post_val_or_str->ce,wpAny_loadPart'->cf,wpAny_callSpecialIfBoundUnlessNone?_slot->ci,isCodeTable->cn,isSubtype_stop->cq,recursionLimit->cr,relayAll->cu,wpAny_of_eq->cw,wpAny_seqItems->cx,hashInt->cz,wpAny_handled->dk,callerA->dw,concat_meets->dy,eqIsQuiet_byValue->dz,assign->em,checkBuiltinCall->ew,newExc->ez,noFill_tuple_add->fb,pushCells->fc,updateSeq->fe,wpAny_forIn_list->fg,IsRangeIter->fh,atKey->fj,callSpecialIfBoundUnlessNone?->fm,subscripted->fq,wpAny_letGo->ft,wpAny_throw->fu,Within->fv,codeAny_of_tree->fx,wpAny_ret_mkInt->gb,intKind_is->gu,newFunctionEnv->gw,setEntries->gx,setsByText->gy,wpAny_call->gz,wpAny_newTuple->ia,wpAny_runValue->ic,evalArgs_none->ig,call->ij,sub_set_self->ik,seq_tuple_add->io,wpAny_comprehension_free->iq,wpAny_newList->ir,eqIsQuiet->iw,wpAny_Call_method0_late->ix,holding->jb,intKind->jc,wpAny_Assign_Subscript->jg,wpAny_Call_method_late->jh,wpAny_pyIter_rangeiter->ji,wpAny_pyNext_range_end->jj,builtinLookup_eq_fast->jk,wpAny_isOneOf_keyiter->jo,wpAny_notOrdered_dict->jp,codeAny_call_builtin->nc,codeAny_extend_loopS->ng,fieldsOf->qy,keywordEach->rl,newTuple->rm,raiseNew->rr,wpAny_pyIter_keyiter->se,wpAny_pyIter_revIter->sg,entryOfKey->sw,reduceHash->tj,sliceRange->tu,typeIs_str->tx,wpAny_Name->tz,wpAny_pyIter_range->ua,wpAny_pyIter_tuple->uc,wpAny_setItem_heap->ud,Keyword->uf,collect->uh,newList->uk,setNext->um,standAt->uo,wpAny_assign_Name->uq,wpAny_pyIter_enum->ur,wpAny_sequenceKey->ut,wpAny_storeSet_of->uu
open Classical renaming choose_spec->c8,choose->d8
open PySem.Value renaming ref->c9,none->d9,int->i4,type->j9,bool->u6,builtin->ah,str->fi,float->gi,isInt_shape->iv
open PySem.Obj renaming mapSeq->d0,data_mapFields->e9,isFreed_of_fields->u2,mapFields->am,cls_mapFields->bb,putSet->iy
open PySem.NameKind renaming cell->d4,free->f6
open PySem.Builtin.Range renaming rangeSize->f7,small->z7
open PyProof.Rows renaming seqObj->f8,wpS_bind->f9,callWith_type1->j0,wpS_pure->j6,slot_tuple_getitem->k9,envOfC->aq,reverseSlice'->ar,wpS_forRange->az,AllBare->bh,arrOf->bn,pendingOf->da,listUpdate_at->dj,get?_update_seq->fy,failedOf->gq,wpS_modify->ie,subscriptTail->ip,subscriptTail_builtinR->jf,Keyed->jr,wpS_mono->sh,entry_tuple_getitem->sj,Subscript_->su,args_tuple_getitem->sv,setPending->tm,IsTup->ue,wpS_get->uv
open PySem.Builtin.Tuple renaming tupleHashOf->g6,tupleExact->i5,tupleItemsOf->ag
open ForInStep renaming yield->g7,done->ao
open PySem.Paired renaming length->g8
open PySem.Builtin.List renaming listExtendWith->g9,listTooLong->u4,listSameRef->cy,listItems->di
open PySem.Builtin.Dict_items renaming ownsTuple->i6,ownedTupleFields->av,ownedTupleIsFree->aw,pairFromOwner->ba
open True renaming intro->i8
open PySem.Around renaming under_plainId->i9,under->cj,frames_deeper->gc
open PySem.W renaming mg_none_of->j3,OpenLaw->db
open False renaming elim->j4
open PySem.Shared renaming TypeIs->l5
open Ne renaming symm->l6
open PySem.SetTable renaming below->l7,grown->y7
open PySem.Builtin.Frozenset renaming sizeOf->o7
open PySem.Builtin.Slice renaming slicePlaces->r0,sliceAdjust->ai,sliceApplied->cg
open Or renaming inr->r8,inl->v7
open PyProof.Rows.F renaming plain_set_update_loop->t4,entry_set_update_loop->bc
open PySem.Builtin.Str renaming occurrences->v6,strSliceIndices->ck
open PySem.PassesOwn renaming never->v8
open PySem.Builtin.Dict renaming showsAll->x8
open PySem.Calls renaming callWith_builtin->y9,Name_function_global->dt,call_function_entry->ej,evalArgs_plain->gg
open PySem.SeqAt renaming eqv_refl->bf,readOf->jd,readsAll_map->je,items_eqAt->tf
open Sum renaming inl->de,inr->dh
open PySem.Data renaming fields->dm
open PySem.SetTable.below renaming go->du
open PySem.SetTable.probe renaming go->dv
open PySem.pickOrder renaming go->ef
open PyProof renaming noPylong_small->ek
open LawfulBEq renaming eq_of_beq->ey
open PySem.Code renaming isFrame->ge
open Function renaming comp_def->gh
open PySem.F renaming typeOf_object_class->iu
open Eq renaming symm->jq
open ForIn renaming forIn->qz
def a6:=@if_neg
def a7:=@if_pos
def a8:=@decide_eq_true
def a9:=@absurd
def b8:=@of_decide_eq_true
def c4:=@decide_eq_false
def e8:=@congrArg
def h7:=@if_false
def i7:=@of_decide_eq_false
def j5:=@or_false
def o0:=@decide_eq_true_eq
def ak:=@if_true
def ay:=@decide_eq_decide
def fk:=@beq_iff_eq
def gf:=@getElem?_pos
def ii:=@beq_self_eq_true
def Aa:=@not_or
open PySem renaming wpAny_bind->aB,wpAny_pure->aG,sizeLine->bO,starEach->cD,Program->cM,wpAny_newObj_type->dI,wpAny_call_entry->dL,wpAny_mono->gO,mainGlobals->iP,FuncData->iV,swapsWith->jH
open List renaming length_map->aC,getElem?_eq_getElem->aD,getElem?_eq_some_iff->aE,getElem?_map->aI,mem_cons_of_mem->aO,mem_map->aR,mem_cons_self->aS,mem_of_getElem?->aU,mem_cons->aY,map_append->bA,length_take->bB,map_cons->bE,length_append->bG,getElem?_set_ne->bH,size_toArray->bI,getElem?_set_self->bK,map_map->bM,getElem?_of_mem->bP,length_filter_le->bW,filter_cons->cH,mem_filter->cL,range->cR,take_add_one->cS,take_length->dA,length_cons->dB,getD_eq_getElem?_getD->dD,mem_singleton->dH,not_mem_nil->dS,mem_of_mem_take->dZ,mem_append->eA,getElem?_append_left->eB,mem_append_right->eF,getElem?_append_right->eJ,getElem?_eq_none->eP,filter_append->fC,getElem_mem->fK,append_nil->fR,length_range->fU,length_drop->gA,idxOf_lt_length_iff->gB,length->gC,filterMap_cons->gD,getElem?_take->gR,lookup_cons->gW,ext_getElem?->gY,length_eq_zero_iff->hX,map_congr_left->iH,getElem?_range->iI,Perm->iQ,sum_cons->iS,mem_append_left->iW,filter_congr->jB,getElem_idxOf->jN,getElem?_drop->jO,append_assoc->jZ,getElem?_replicate->kK,all_eq_true->kL,take_of_length_le->kR,length_singleton->lA,mem_reverse->lU,map_nil->lV,nodup_cons->mT,map_id->nH,lookup->nI,mem_range->nQ,set->oW,length_reverse->pP,getElem?_zip_eq_some->qO,take_sublist->rK,nodup_append->rL,map_take->rO,any_eq_true->sR,pairwise_lt_range->sX,range_succ->uJ,filter_map->uK,getElem?_reverse->uZ,mem_filterMap->xX,flatMap_cons->zT,find?_isSome->zU,isEmpty_iff_length_eq_zero->AJ,mem_flatMap->A9,getElem_inj->BA,cons_append->BB,sum_append->C6,of_mem_zip->C7,length_nil->C8,dropLast_concat_getLast->C9,replicate->E7,nodup_nil->E8,map->E9,length_eraseIdx_of_lt->FB,drop_zero->FC,getElem?_eq_none_iff->G5,drop_eq_getElem_cons->G6,getElem?_take_of_lt->HG,Pairwise->HH,getElem?_cons_succ->KA,set_set->KG,flatten_singleton->KH,filter_eq_nil_iff->KI,drop_eq_nil_of_le->KJ,take_append_drop->MT,getElem?_toArray->MU,filterMap_append->MV,countP_le_length->MW,range'->OO,mem_of_mem_drop->OP,mem_iff_getElem->OQ,length_dropLast->OR,flatten_append->Q8,filter_eq_self->Q9,length_attach->RH,findIdx?_cons->RI,filterMap_map->RJ,pairwise_map->WS,getElem?_inj->WT,foldl_append->WU,flatten_cons->WV,any_eq_false->WW,range'_succ->XB,mem_flatten->XC,getLast_mem->XD,countP_cons->XE,nil_append->aAv,forIn_cons->aAw,countP_map->aAx,Sublist->aFy
open Nat renaming le_of_ble_eq_true->aF,le_refl->aN,le_trans->bJ,ne_of_lt->bS,zero_le->cI,lt_of_lt_of_le->cX,lt_succ_self->fA,lt_succ_of_lt->fB,ne_of_gt->fM,mul_le_mul->fZ,lt_irrefl->iT,le_of_lt->iU,pow_le_pow_right->lR,gcd_pos_of_pos_right->mS,le_of_eq->nX,mul_assoc->oV,not_lt_zero->pM,min_eq_left->pN,div_le_self->pO,lt_of_le_of_lt->qM,pow_succ->uF,mul_comm->uG,lt_or_ge->uH,lt_asymm->uI,mul_le_mul_right->wF,gcd_dvd_right->AH,add_zero->AI,min_le_right->CZ,min_eq_right->C0,le_succ->C5,add_assoc->J9,sub_zero->MR,lt_trans->MS,div_pos->Q7,not_lt->WP,mod_lt->WQ,div_mul_cancel->WR,lt_trichotomy->W9,le_succ_of_le->XA,succ_ne_zero->aAq,succ_le_succ->aAr,le_of_not_lt->aAs,le_add_right->aAt,gcd_le_right->aAu,le_antisymm->aCl,le_of_dvd->aFx,zero_add->aMo,sub_self->aMp,mul_succ->aMq,gcd_comm->aMr,pow_one->aM7,one_mul->aM8,add_mul->aM9
open PySem.Heap renaming get?_push_of_some->aJ,get?_push_size->aV,lt_size->bF,SameBut->cU,size_push->eV,get?_update_self->fD,get?_update_other->iG,size_update->BC,ExtBut->C2
open PySem.W renaming Frag->aM,kia_one->fG,findIn->fY,keepIn->iC,emptyDict->iD,instObj->jQ,kitOne->lG,InstAt->lH,fnOf->nG,looks_findIn->oK,codeIn->pL,kitx_list->qB,plainGet->rH,envX->sJ,lookIn->uE,plainGet_of->vB,callWith_K->wD,methodObj->xQ,hasDictIn->xR,codeHdIn->zA,takerIn->AE,kla_obj->AF,mroIn->DL,isFn->GY,cellsFrom_some->GZ,kitx_tuple->MQ,plainOver->OL,kitx_dict->OM,handedIn->Q6,makesIn->RF,notCls->WM,CodeHd->WN,clsIn->W7,WalkO->W8
open PySem.PyData renaming int->aQ,str->aW,depthAll->dM,canLayAll0->dP,eqv->dW,hasDict->fJ,tuple->gE,hasDictAll->iY,bool->oM,none->uY,eqvAll->wE,bulkAll->C4,leavesShortAll->J8,list->KE,dict->KF,showableAll->ON,strOk->aCk
open Bool renaming false_ne_true->bN,and_eq_true->dN,false_eq_true->eH,eq_iff_iff->mU,false_xor->qC,eq_false_iff->rM,or_eq_true->uM,or_false->xT,not_true->xU,true_and->HI,or_eq_false_iff->OS,false_and->aCm,true_xor->aFu
open Array renaming length_toList->bQ,getElem?_eq_getElem->bV,getElem?_toList->eD,getElem?_eq_none->eY,getD_eq_getD_getElem?->lB,forIn_toList->pU,toList_push->zC,getElem?_eq_some_iff->DM,toList_append->OU,append_assoc->RA,size_append->RK,toList->aFv
open PySem.F renaming plainAttrs_list->bT,type_list_append->dE,slot_list_append->dF,slot_dict_itemiterator_next->fS,slot_dict_keyiterator_next->hU,called_set->iO,slot_NoneType_hash->lI,type_tuple_index->mC,slot_tuple_index->mD,plainAttrs_tuple->mE,slot_tuple_hash->mQ,plain_list_iadd->mR,slot_set_iter->nO,plain_extend_loop->pS,type_list_extend->qJ,slot_list_extend->qK,args_tuple_add_2->qL,entry_tuple_add->rJ,slot_tuple_add->sK,args_dict_itemiterator_next_1->uX,entry_dict_itemiterator_next->vC,args_dict_keyiterator_next_1->vD,slot_dict_itemiterator_iter->vK,entry_dict_keyiterator_next->vL,slot_dict_items_iter->AG,plain_proto_collect->A7,entry_proto_collect->A8,type_list_index->EW,slot_list_index->EY,slot_dict_items->E3,plainAttrs_dict->E4,entry_list_iadd->E5,args_set_iter_1->E6,slot_dict_iter->G0,type_list_pop->HB,slot_list_pop->HC,slot_dict_len->HD,slot_dict_get->HE,plain_set_new->HF
open Option renaming map_eq_some_iff->bU,isSome_map->xW,getD_some->zS,bind_eq_some_iff->G4,getD_none->RG,map_some->WO
open Int renaming emod_lt_of_pos->cV,emod_nonneg->dG,toNat_natCast->dY,natCast_mul->eI,mul_assoc->fE,natCast_add->fT,mul_le_mul_of_nonneg_left->iZ,mul_comm->kC,mul_add->kD,mul_zero->mF,le_refl->pA,add_zero->pT,mul_nonneg->qN,ofNat->sV,le_trans->uL,mul_one->wG,toNat_of_nonneg->xS,natCast_nonneg->zB,natCast_ediv->C1,mul_lt_mul_of_pos_right->FD,lt_of_mul_lt_mul_right->G7,fdiv_eq_ediv_of_nonneg->G8,ne_of_lt->aMs,ediv_one->aMt,sub_mul->aNa,one_mul->aNb,add_mul->aNc
section
open PySem PySem.Spec PyProof.Rows
namespace L2
abbrev A6:=Sum Int Str
noncomputable def Ml:A6->Value->Bool
|.inl k,v=>Value.isInt k v
|.inr x,v=>Value.isStrOf x v
noncomputable def On(w:c7):A6->Int
|.inl k=>cz k
|.inr x=>hashStr w x
def jV:∀{k v},Ml k v=true->(∃i t,k=de i/\v=i4 i t)\/(∃x t,k=dh x/\v=fi x t)
|.inl i,v,h=>by
 obtain⟨t,e⟩:=iv (k:=i) (v:=v) h;exact .inl ⟨i,t,Fo,e⟩
|.inr x,v,h=>by
 obtain⟨t,e⟩:=Value.isStrOf_shape (x:=x) (v:=v) h;exact .inr ⟨x,t,Fo,e⟩
def Yt(a b:Int):decide ((de a:A6)=de b)=(a==b):=by
 by_cases e:a=b
 ·subst e;simp
 ·have h:¬(de a:A6)=de b:=λq=>e (Sum.inl.inj q);rw[c4 h];exact(beq_eq_false_iff_ne.mpr e).symm
def Yw(a b:Str):decide ((dh a:A6)=dh b)=decide (a=b):=by
 by_cases e:a=b
 ·subst e;simp
 ·have h:¬(dh a:A6)=dh b:=λq=>e (Sum.inr.inj q);rw[c4 h,c4 e]
def Yu(a:Int)(b:Str):decide ((de a:A6)=dh b)=false:=c4 (λq=>nomatch q)
def Yv(a:Str)(b:Int):decide ((dh a:A6)=de b)=false:=c4 (λq=>nomatch q)
noncomputable def F4(prog:cM)(w:c7):PySem.KeyKind prog w A6 where
 is:=Ml
 hash:=On w
 inj:=λv a b ha hb=>by
  rcases jV ha with⟨i,t,rfl,rfl⟩ | ⟨x,t,rfl,rfl⟩
  ·rcases jV hb with⟨j,u,rfl,e⟩ | ⟨y,u,rfl,e⟩
   ·injection e with e1 _;rw[e1]
   ·exact nomatch e
  ·rcases jV hb with⟨j,u,rfl,e⟩ | ⟨y,u,rfl,e⟩
   ·exact nomatch e
   ·injection e with e1 _;rw[e1]
 byValue:=λk v h=>by
  rcases jV h with⟨i,t,rfl,rfl⟩ | ⟨x,t,rfl,rfl⟩<;>rfl
 pyHash:=λhv h=>by
  rcases jV hv with⟨i,t,rfl,rfl⟩ | ⟨x,t,rfl,rfl⟩
  ·exact wpAny_pyHash_int h
  ·exact wpAny_pyHash_str h
 eqBool:=λhu hv h=>by
  rcases jV hu with⟨i,t,rfl,rfl⟩ | ⟨x,t,rfl,rfl⟩
  ·rcases jV hv with⟨j,u,rfl,rfl⟩ | ⟨y,u,rfl,rfl⟩
   ·rw[Yt]at h;exact wpAny_eqBool_int h
   ·rw[Yu]at h;exact SeqAt.EqAt.int_str i t y u _ _ _ _ h
  ·rcases jV hv with⟨j,u,rfl,rfl⟩ | ⟨y,u,rfl,rfl⟩
   ·rw[Yv]at h;exact SeqAt.EqAt.str_int x t j u _ _ _ _ h
   ·rw[Yw]at h;exact wpAny_eqBool_str h
 «strs»:=λk x t v h=>by
  rcases jV h with⟨i,u,rfl,e⟩ | ⟨y,u,rfl,e⟩
  ·exact nomatch e
  ·injection e with e1 _
   subst e1;cases v<;>rfl
inductive V where
 |non | bl (b:Bool) | int (i:Int) | str (x:Str) | byt (b:Array UInt8) | flt (b:UInt64) | ref (a:Addr) | ty (n:String)
 deriving DecidableEq
def iJ:V->Value->Prop
|.non,u=>u=d9
|.bl b,u=>u=u6 b
|.int i,u=>∃t,u=i4 i t
|.str x,u=>∃t,u=fi x t
|.byt b,u=>∃t,u=Value.bytes b t
|.flt b,u=>∃t,u=gi b t
|.ref a,u=>u=c9 a
|.ty n,u=>u=j9 n
abbrev gM:List V->List Value->Prop:=Paired iJ
theorem gM.length{b:List V}{a:List Value}(r:gM b a):b.length=a.length:=g8 r
theorem gM.get:∀{xs us}{i:Nat}{x},gM xs us->xs[i]?=some x->∃u,us[i]?=some u/\iJ x u
|_,_,_,_,.nil,e=>by simp at e
|_,_,0,_,.cons r _,e=>by simp at e;subst e;exact⟨_,Fo,r⟩
|_,_,i+1,x,.cons _ t,e=>by
 obtain⟨u,a,b⟩:=gM.get (i:=i) (x:=x) t (by simpa using e);exact⟨u,by simpa using a,b⟩
theorem gM.append:∀{xs ys us ws},gM xs us->gM ys ws->gM (xs++ys) (us++ws)
|_,_,_,_,.nil,s=>s
|_,_,_,_,.cons r t,s=>.cons r (gM.append t s)
theorem gM.take:∀{a:List V}{us:List Value}(n:Nat),gM a us->gM (a.take n) (us.take n)
|_,_,0,_=>.nil
|_,_,_+1,.nil=>.nil
|_,_,n+1,.cons r t=>.cons r (gM.take n t)
theorem gM.drop:∀{b:List V}{a:List Value}(n:Nat),gM b a->gM (b.drop n) (a.drop n)
|_,_,0,r=>r
|_,_,_+1,.nil=>.nil
|_,_,n+1,.cons _ t=>gM.drop n t
def DH:Option V->Option Value->Prop
|some v,some u=>iJ v u
|none,none=>True
|_,_=>False
noncomputable def KV{a:Type}:List (a×V)->List (a×Value)->Prop:=Paired λ(p:a×V) (q:a×Value)=>p.1=q.1/\iJ p.2 q.2
noncomputable def kV:A6->V
|.inl i=>.int i
|.inr x=>.str x
inductive HO where
 /-- a list -/
 |lst (xs:List V)
 /-- a tuple (never changes) -/
 |tup (xs:List V)
 /-- a dict whose keys are ints and texts;one whose keys are tuples of ints and texts (the empty one is both) -/
 |dK (kvs:List (A6×V)) | dT (kvs:List (List A6×V))
 /-- a set of ints: fo members,fo size -/
 |set (S:Int->Bool) (n:Nat)
 /-- an instance of the class at C,fo dict at dx,fo attributes -/
 |ins (C dx:Addr) (fs:List (Str×V))
 /-- the dict of the instance at x -/
 |own (x:Addr)
 /-- the dict of an exception -/
 |xd (fs:List (Str×V))
 /-- a bound method,f of x -/
 |met (f x:Addr)
 /-- a range object lo,lo+1,.. below hi -/
 |rng (lo hi:Int)
 /-- a thing that is known to the object (the script;a dict while a loop walks it): read,never written while it is so -/
 |frz (o:Obj) (u:HO)
 /-- a code object's table -/
 |tbl (ps:Array Value)
 /-- any other thing,by what is true of fo one object (a def of Ab own: SetO a S n:=HO.ext λh=>..) -/
 |ext (φ:Heap->Prop)
abbrev Hp:=Addr->Option HO
noncomputable def gG(H:Hp)(a:Addr)(o:HO):Hp:=λb=>if b=a then some o else H b
def cW{a:Addr}:gG H a o a=some o:=by unfold gG;rw[a7 rfl]
def cN{a b:Addr}(h:b≠a):gG H a o b=H b:=by unfold gG;rw[a6 h]
def iA{H:Hp}{a b:Addr}{o:HO}(h:H a=some o)(c:H b=none):a≠b:=by
 intro e;subst e;rw[h]at c;cases c
section
variable(P:cM)(w:c7)
def CT(h:Heap)(a:Addr)(b:Array Value):Prop:=∃o,h.get? a=some o/\o.cls=.type "tuple"/\∃n,o.data=.seq b n/\o.dict=none
def CT.tup{h}{a:Addr}{items}(x:CT h a items):ue h a items:=let ⟨o,e,c,n,d,_⟩:=x;⟨o,e,c,n,d⟩
theorem CT.lt{h:Heap}{a:Addr}(x:CT h a items):a<h.objs.size:=x.tup.lt
def CT.new(h:Heap)(a:Array Value):CT (h.push { cls:=.type "tuple",data:=.seq a }) h.objs.size a:=⟨_,aV _ Fo,Fo,_,Fo,Fo⟩
def WL(a:Obj):Prop:=∃(vs:Array Value)(q:Str)(t:Tok),a.data=.fields vs/\vs[1]?=some (.str q t)
def jY(H:Hp)(h:Heap)(a:Addr):HO->Prop
|.lst d=>d.length<=bO/\∃(b:List Value)(n:Nat),gM d b/\h.get? a=some { cls:=.type "list",data:=.seq b.toArray n }
|.tup d=>d.length<=bO/\∃b:List Value,gM d b/\CT h a b.toArray
|.dK kvs=>kvs.length<=bO/\(a==m8)=false/\∃vs,KV kvs vs/\h.DictOf (F4 P w) a vs
|.dT kvs=>kvs.length<=bO/\(a==m8)=false/\∃d:List (List A6×Addr×Value),
  Paired (λ(p:List A6×V) (q:List A6×Addr×Value)=>p.1=q.1/\H q.2.1=some (.tup (p.1.map kV))/\iJ p.2 q.2.2) kvs d /\
  ∃o i m,h.get? a=some o/\o.ExactDict/\o.data=.dict i m/\i.toList=d.map (sw (tupleKind (F4 P w)))/\(d.map (·.1)).Nodup
|.set S n=>h.SetOf (jc P w) a S n
|.ins C dx fs=>H dx=some (.own a)/\fs.length<=1000/\dx≠a/\h.get? a=some (jQ C dx) /\
  ∃e,h.Ns1 dx e/\(∀f,DH (fs.lookup f) (e f))/\fv e (fs.map (·.1))
|.own _=>∃o,h.get? a=some o
|.xd fs=>∃e,h.Ns1 a e/\∀f,DH (fs.lookup f) (e f)
|.rng lo hi=>∃t u v,h.get? a=some { cls:=.type "range",data:=.fields #[.int lo t,.int hi u,.int 1 v] }
|.frz o u=>h.get? a=some o/\jY H h a u
|.tbl _=>∃qs:Array Value,h.get? a=some { cls:=.none,data:=.fields qs }/\TriplesOk qs.toList/\∀(p:Pos)(c:Value),codeAmong p qs.toList=some c->∃g l,c=.ref g/\H g=some (.frz l (.own a))/\WL l
|.met f x=>h.get? a=some (xQ (.ref f) (.ref x))
|.ext φ=>φ h/\(∃o,h.get? a=some o)/\∀j k:Heap,φ j->(∀o,j.get? a=some o->k.get? a=some o)->φ k
def vI(H:Hp)(h:Heap):Prop:=∀a o,H a=some o->jY P w H h a o
end
section
variable{P:cM}{w:c7}{H g:Hp}{h h':Heap}{a:Addr}{o:HO}
theorem jY.lt(x:jY P w H h a o):a<h.objs.size:=by
 cases o with
 |lst c=>obtain⟨_,_,_,_,e⟩:=x;exact bF e
 |tup c=>obtain⟨_,_,_,p⟩:=x;exact p.lt
 |dK b=>obtain⟨_,_,_,_,o,_,_,e,_⟩:=x;exact bF e
 |dT b=>obtain⟨_,_,_,_,o,_,_,e,_⟩:=x;exact bF e
 |set S n=>obtain⟨o,_,_,_,e,_⟩:=x;exact bF e
 |ins C d fs=>obtain⟨_,_,_,e,_⟩:=x;exact bF e
 |own y=>obtain⟨_,e⟩:=x;exact bF e
 |xd fs=>obtain⟨_,⟨_,_,_,e,_⟩,_⟩:=x;exact bF e
 |rng lo i=>obtain⟨_,_,_,e⟩:=x;exact bF e
 |frz ob u=>obtain⟨e,_⟩:=x;exact bF e
 |tbl j=>obtain⟨_,e,_⟩:=x;exact bF e
 |met f y=>exact bF (show h.get? a=some _ from x)
 |ext k=>obtain⟨_,⟨_,e⟩,_⟩:=x;exact bF e
theorem Paired.mapP{c d:Type}{F G:c->d->Prop}:∀{l₁ l₂},Paired F l₁ l₂->(∀a b,F a b->G a b)->Paired G l₁ l₂
|_,_,.nil,_=>.nil
|_,_,.cons r t,f=>.cons (f _ _ r) (Paired.mapP t f)
def jY.stay(x:jY P w H h a o)(k:∀b u,(b=a\/H b=some (.own a))->h.get? b=some u->h'.get? b=some u)
  (G:∀b,H b=some (.own a)->g b=some (.own a)) (I:∀b m,H b=some (.tup m)->g b=some (.tup m)) (F:∀b ob u,H b=some (.frz ob u)->g b=some (.frz ob u):=by exactλ_ _ _ q=>q):jY P w g h' a o:=by
 induction o with
 |lst m=>obtain⟨z,l,n,r,e⟩:=x;exact⟨z,l,n,r,k _ _ (.inl Fo) e⟩
 |tup m=>obtain⟨z,l,r,ob,e,c⟩:=x;exact⟨z,l,r,ob,k _ _ (.inl Fo) e,c⟩
 |dK s=>obtain⟨z,y,vs,r,ob,j,i,e,c⟩:=x;exact⟨z,y,vs,r,ob,j,i,k _ _ (.inl Fo) e,c⟩
 |dT s=>
  obtain⟨z,y,m,r,ob,j,i,e,c⟩:=x;exact⟨z,y,m,Paired.mapP r λp q z=>⟨z.1,I _ _ z.2.1,z.2.2⟩,ob,j,i,k _ _ (.inl Fo) e,c⟩
 |set S n=>obtain⟨ob,j,i,t,e,c⟩:=x;exact⟨ob,j,i,t,k _ _ (.inl Fo) e,c⟩
 |ins C K fs=>
  obtain⟨d,z,ne,e,A,⟨B,j,i,E,c⟩,r⟩:=x;exact⟨G _ d,z,ne,k _ _ (.inl Fo) e,A,⟨B,j,i,k _ _ (.inr d) E,c⟩,r⟩
 |own y=>obtain⟨ob,e⟩:=x;exact⟨ob,k _ _ (.inl Fo) e⟩
 |xd fs=>obtain⟨A,⟨B,j,i,e,c⟩,r⟩:=x;exact⟨A,⟨B,j,i,k _ _ (.inl Fo) e,c⟩,r⟩
 |rng lo L=>obtain⟨t,u,v,e⟩:=x;exact⟨t,u,v,k _ _ (.inl Fo) e⟩
 |frz ob u J=>obtain⟨e,q⟩:=x;exact⟨k _ _ (.inl Fo) e,J q⟩
 |tbl M=>
  obtain⟨qs,e,t,z⟩:=x;exact⟨qs,k a _ (.inl Fo) e,t,λp c q=>let ⟨c',oc,h1,h2,h3⟩:=z p c q;⟨c',oc,h1,F _ _ _ h2,h3⟩⟩
 |met f y=>
  have e:h.get? a=some (xQ (.ref f) (.ref y)):=x;show h'.get? a=some (xQ (.ref f) (.ref y));exact k a _ (.inl Fo) e
 |ext N=>obtain⟨p,⟨o,e⟩,st⟩:=x;exact⟨st _ _ p λo q=>k _ _ (.inl Fo) q,⟨o,k _ _ (.inl Fo) e⟩,st⟩
theorem vI.lt(x:vI P w H h)(e:H a=some o):a<h.objs.size:=(x a o e).lt
def vI.fresh(x:vI P w H h)(e:h.objs.size<=a):H a=none:=by
 cases q:H a with
 |none=>rfl
 |some u=>exact a9 (cX (x.lt q) e) (iT _)
def vI.kept(x:vI P w H h)(k:∀b u,h.get? b=some u->h'.get? b=some u):vI P w H h':=λa o e=>
 (x a o e).stay (λb u _ q=>k b u q) (λ_ q=>q) λ_ _ q=>q
def vI.laid(x:vI P w H h)(k:∀b u,h.get? b=some u->h'.get? b=some u)(i:h.objs.size<=a)(new:jY P w (gG H a o) h' a o):vI P w (gG H a o) h':=λb u e=>by
 have d:=x.fresh i;by_cases f:b=a
 ·subst f;rw[cW]at e;cases e;exact new
 ·rw[cN f]at e;exact(x b u e).stay (λc v _ q=>k c v q) (λc q=>by rw[cN (iA q d)];exact q) (λc j q=>by rw[cN (iA q d)];exact q) λc ob v q=>by rw[cN (iA q d)];exact q
end
def Rd(H:Hp)(a:Addr)(u:HO):Prop:=H a=some u\/∃o,H a=some (.frz o u)
def Rd.ok{h}{a:Addr}(r:Rd H a u)(x:vI P w H h):jY P w H h a u:=by
 rcases r with r | ⟨o,r⟩
 ·exact x a u r
 ·obtain⟨_,q⟩:=x a _ r;exact q
def Gx:Option HO->Prop
|some (.lst _)=>True
|some (.dK _)=>True
|some (.dT _)=>True
|some (.set _ _)=>True
|some (.ins _ _ _)=>True
|some (.ext _)=>True
|_=>False
section
variable{P:cM}{w:c7}{H:Hp}{h h':Heap}{x e:Addr}{a:HO}
def vI.write(ok:vI P w H h)(g:Gx (H x))(n:e=x\/H e=some (.own x))(k:∀b u,b≠e->h.get? b=some u->h'.get? b=some u)(m:∃u,h'.get? e=some u)
  (new:jY P w (gG H x a) h' x a):vI P w (gG H x a) h':=λb u q=>by
 have f:∀c y,H c=some (.own y)->c≠x:=λc y r z=>by subst z;rw[r]at g;exact g
 have i:∀c l,H c=some (.tup l)->c≠x:=λc l r z=>by subst z;rw[r]at g;exact g
 by_cases j:b=x
 ·subst j;rw[cW]at q;cases q;exact new
 ·rw[cN j]at q;by_cases d:b=e
  ·have o:H b=some (.own x):=by
    rcases n with z | z
    ·exact a9 (d.trans z) j
    ·rw[d];exact z
   rw[q]at o;cases o;obtain⟨v,p⟩:=m;exact⟨v,by rw[d];exact p⟩
  ·refine(ok b u q).stay (λc v hc r=>k c v ?_ r) (λc r=>by rw[cN (f c b r)];exact r) (λc l r=>by rw[cN (i c l r)];exact r) λc ob v r=>by rw[cN (λz=>by subst z;rw[r]at g;exact g)];exact r
   rcases hc with rfl | hc
   ·exact d
   ·rintro rfl;rcases n with z | z
    ·exact f c b hc z
    ·rw[hc]at z;cases z;exact j Fo
end
structure Un(fs ex:List Addr)(H H':Hp)(h h':Heap):Prop where
 keep:∀b o,h.get? b=some o->H b=none->b∉fs->b∉ex->h'.get? b=some o
 slot:∀b o,h.get? b=some o->H b=none->b∈fs->b∉ex->∃sl,h'.get? b=some { o with slots:=sl }
 free:∀b o,h.get? b=some o->H b=none->b∉ex->H' b=none
 there:∀b o,h.get? b=some o->b∉ex->∃o',h'.get? b=some o'
 tups:∀b xs,H b=some (.tup xs)->H' b=some (.tup xs)
 frzs:∀b o u,H b=some (.frz o u)->H' b=some (.frz o u)
 tbls:∀b ps,H b=some (.tbl ps)->∃more,H' b=some (.tbl (ps++more))
section
variable{fs ex:List Addr}{H f g:Hp}{h d i h':Heap}{a x e:Addr}{o:HO}
def Un.any(u:Un fs ex H f h d){b:Addr}(q:h.get? b=some ob)(n:H b=none)(j:b∉ex):∃k,d.get? b=some { ob with slots:=k }:=by
 by_cases c:b∈fs
 ·exact u.slot b ob q n c j
 ·exact⟨ob.slots,u.keep b ob q n c j⟩
def Un.trans(a:Un fs ex H f h d)(b:Un fs ex f g d i):Un fs ex H g h i where
 keep:=λc ob q n hc hx=>b.keep c ob (a.keep c ob q n hc hx) (a.free c ob q n hx) hc hx
 slot:=λc ob q n hc hx=>by
  obtain⟨sl,e1⟩:=a.slot c ob q n hc hx;obtain⟨zg,e2⟩:=b.slot c _ e1 (a.free c ob q n hx) hc hx;exact⟨zg,e2⟩
 free:=λc ob q n hx=>by
  obtain⟨o',e1⟩:=a.there c ob q hx;exact b.free c o' e1 (a.free c ob q n hx) hx
 there:=λc ob q hx=>by
  obtain⟨o',e1⟩:=a.there c ob q hx;exact b.there c o' e1 hx
 tups:=λc xs q=>b.tups c xs (a.tups c xs q)
 frzs:=λc ob xs q=>b.frzs c ob xs (a.frzs c ob xs q)
 tbls:=λc ps q=>by
  obtain⟨m1,e1⟩:=a.tbls c ps q;obtain⟨m2,e2⟩:=b.tbls c _ e1;exact⟨m1++m2,by rw[e2,RA]⟩
def Un.kept(k:∀b u,h.get? b=some u->h'.get? b=some u):Un fs ex H H h h':=
 ⟨λb ob q _ _ _=>k b ob q,λb ob q _ _ _=>⟨ob.slots,k b ob q⟩,λ_ _ _ n _=>n,λb ob q _=>⟨ob,k b ob q⟩,λ_ _ q=>q,λ_ _ _ q=>q,λ_ c q=>⟨#[],by rw[q];simp⟩⟩
def Un.refl:Un fs ex H H h h:=Un.kept λ_ _ q=>q
def Un.laid(k:∀b u,h.get? b=some u->h'.get? b=some u)(hp:h.objs.size<=a)(hn:H a=none):Un fs ex H (gG H a o) h h' where
 keep:=λb u q _ _ _=>k b u q
 slot:=λb u q _ _ _=>⟨u.slots,k b u q⟩
 free:=λb u q n _=>by rw[cN (bS (cX (bF q) hp))];exact n
 there:=λb u q _=>⟨u,k b u q⟩
 tups:=λb xs q=>by rw[cN (iA q hn)];exact q
 frzs:=λb u xs q=>by rw[cN (iA q hn)];exact q
 tbls:=λb ps q=>⟨#[],by rw[cN (iA q hn),q];simp⟩
def Un.write(j:Gx (H x))(t:e=x\/H e=some (.own x))(k:∀b u,b≠e->h.get? b=some u->h'.get? b=some u)(l:∃u,h'.get? e=some u):Un fs ex H (gG H x o) h h':=by
 have s:∀b,H b=none->b≠x:=λb n z=>by subst z;rw[n]at j;exact j
 have p:∀b,H b=none->b≠e:=λb n z=>by
  subst z;rcases t with r | r
  ·exact s b n r
  ·rw[n]at r;cases r
 have m:∀b u,H b=some u->¬Gx (some u)->b≠x:=λb u q nm z=>by subst z;rw[q]at j;exact nm j
 refine⟨λb u q n _ _=>k b u (p b n) q,λb u q n _ _=>⟨u.slots,k b u (p b n) q⟩,λb u q n _=>by rw[cN (s b n)];exact n,λb u q _=>?_,
  λb v q=>by rw[cN (m b _ q λz=>z)];exact q,λb u v q=>by rw[cN (m b _ q λz=>z)];exact q,λb w q=>⟨#[],by rw[cN (m b _ q λz=>z),q];simp⟩⟩
 by_cases c:b=e
 ·subst c;exact l
 ·exact⟨u,k b u c q⟩
end
noncomputable def trk(h:Heap)(H:Hp):List Addr:=(cR h.objs.size).filter λa=>(H a).isSome
noncomputable def GC(h:Heap)(H:Hp):Heap:=PySem.W.hideAll h (trk h H)
def QF(h:Heap)(H:Hp):(GC h H).objs.size=h.objs.size:=PySem.W.hideAll_size _ _
def VD{h:Heap}{b:Addr}(e:h.get? b=some o)(n:H b=none):(GC h H).get? b=some o:=
 PySem.W.hideAll_get _ e λa=>by
  have q:(H b).isSome=true:=(cL.mp a).2;rw[n]at q;simp at q
def Y3{h:Heap}{H:Hp}{b:Addr}(e:(GC h H).get? b=some o):h.get? b=some o/\H b=none:=by
 have a:h.get? b=some o:=PySem.W.of_hideAll (trk h H) e;refine⟨a,?_⟩
 cases q:H b with
 |none=>rfl
 |some x=>
  have c:b∈trk h H:=cL.mpr ⟨nQ.mpr (bF a),by simp[q]⟩;have z:(GC h H).get? b=none:=PySem.W.hideAll_none (trk h H) c;rw[z]at e;cases e
noncomputable def aAk(g h:Heap)(L:Addr):List (Addr×Obj):=(cR h.objs.size).filterMap λa=>if a=L\/(g.get? a).isSome=true then none else(h.get? a).map λo=>(a,o)
noncomputable def jM(g h:Heap)(L d:Addr):List (Addr×Obj):=(aAk g h L).filter λp=>decide (p.1≠d)
structure Mod(K:aM)(mg:Str->Option Value)(base:Heap):Prop where
 kin:K.In base
 glob:base.Ns iP mg
 blt:∃mb,base.Ns ab mb/\∀x:Str,x≠"__name__"->mb x=d2 x
 nolimit:base.NoLimit
 bmod:∃bm o,mg "__builtins__"=some (.ref bm)/\bm≠ab/\base.get? bm=some o/\o.cls=.type "module"/\o.dict=some ab/\o.data=.plain
structure Cx where
 prog:cM
 w:c7
 K:aM
 mg:Str->Option Value
 base:Heap
 A:d1
 N:List Str
 s₀:Shared
 H₀:Hp
 env:Env
 outer:List Env
 stack:List Env
 ex:List Addr
 fn:Str->Bool
 calm:Bool
 pn:List (Addr×Obj)
 xe:Value->Shared->Prop
noncomputable def JM(l:List Env):List Addr:=l.filterMap (·.frame)
noncomputable abbrev Cx.fs(X:Cx):List Addr:=JM X.outer
def Gq(a:Scope)(x:Str):Prop:=a.names.lookup x=some .local\/a.names.lookup x=some .cell\/a.names.lookup x=some .free
def OI(a:Scope)(x:Str):Prop:=a.names.lookup x=some .local\/a.names.lookup x=some .cell
def Oc(env:Env)(h:Heap)(m:Str->Option Value)(x:Str)(u:Value):Prop:=
 (env.kindOf x=some .local/\m x=some u)\/((env.kindOf x=some .cell\/env.kindOf x=some .free)/\∃c,env.cells.lookup x=some c/\h.IsCell c (some u))
def Tb(H:Hp):Prop:=∀P,tabA=some P->∃a,H P=some (.tbl a)
structure Cx.Ok(X:Cx):Prop where
 mod:Mod X.K X.mg X.base
 kind:X.env.scope.kind=.function
 glob:X.env.globals=iP
 blt:X.env.builtins=ab
 above:X.s₀.heap.objs.size<=X.env.locals
 inj:∀x y c,X.env.cells.lookup x=some c->X.env.cells.lookup y=some c->x=y
 has:∀x,(X.env.kindOf x=some .cell\/X.env.kindOf x=some .free)->∃c,X.env.cells.lookup x=some c
 cab:∀x c,X.fn x=true->X.env.cells.lookup x=some c->X.s₀.heap.objs.size<=c
 hd:X.calm=true->X.A.handled=none
 frames:X.A.frames=some X.stack
 stk:X.stack=X.outer\/(X.stack=X.env::X.outer/\X.env.frame=some X.env.locals)
 exf:∀b∈X.ex,b≠X.env.locals/\∀x c,X.env.cells.lookup x=some c->c≠b
 bs:∀b o,X.base.get? b=some o->X.s₀.heap.get? b=some o/\X.H₀ b=none
 bsz:X.base.objs.size<=X.s₀.heap.objs.size
 noex:∀b o,X.base.get? b=some o->b∉X.ex
 exfs:∀b∈X.ex,b∉X.fs
 funs:X.s₀.heap.FunFrames X.base X.outer
 frf:∀b∈X.fs,X.H₀ b=none
 tab:Tb X.H₀
structure eG(X:Cx)(pins:List (Addr×Obj))(σ:List (Option V))(H:Hp)(s:Shared):Prop where
 ok:X.Ok
 os:s.os=X.s₀.os
 bare:bh s.gens
 base:Un X.fs X.ex X.H₀ H X.s₀.heap s.heap
 loc:∃m,s.heap.Ns X.env.locals m/\∀(i:Nat)(x:Str)(v:V),X.N[i]?=some x->σ[i]?=some (some v)->Gq X.env.scope x->∃u,iJ v u/\Oc X.env s.heap m x u
 cell:∀x c,X.env.cells.lookup x=some c->∃v,s.heap.IsCell c v
 free:H X.env.locals=none
 freeC:∀x c,X.env.cells.lookup x=some c->H c=none
 pin:∀p∈X.pn++pins,s.heap.get? p.1=some p.2/\H p.1=none/\p.1≠X.env.locals/\p.1∉X.fs/\∀v,p.2.data≠.cell v
 hok:vI X.prog X.w H s.heap
 len:σ.length=X.N.length
section
variable{X:Cx}{f:List (Addr×Obj)}{g:List (Option V)}{H H':Hp}{s:Shared}{h':Heap}
def Cx.Ok.nofr(ok:X.Ok){b:Addr}(e:X.base.get? b=some o):b∉X.fs:=λa=>by
 have:=(ok.funs.mem a).1;rw[e]at this;cases this
theorem eG.bs(I:eG X f g H s):∀b o,X.base.get? b=some o->s.heap.get? b=some o/\H b=none:=λb o e=>
 ⟨I.base.keep b o (I.ok.bs b o e).1 (I.ok.bs b o e).2 (I.ok.nofr e) (I.ok.noex b o e),I.base.free b o (I.ok.bs b o e).1 (I.ok.bs b o e).2 (I.ok.noex b o e)⟩
def eG.bk(I:eG X f g H s):∀b o,X.base.get? b=some o->s.heap.get? b=some o:=λb o e=>(I.bs b o e).1
theorem eG.mod(I:eG X f g H s):Mod X.K X.mg X.base:=I.ok.mod
def eG.kIn(I:eG X f g H s):X.K.In s.heap:=I.ok.mod.kin.keeps I.bk
theorem eG.nolimit(I:eG X f g H s):s.heap.NoLimit:=I.ok.mod.nolimit.keeps I.bk
theorem eG.lt(I:eG X f g H s):X.env.locals<s.heap.objs.size:=let ⟨_,hn,_⟩:=I.loc;hn.lt
def eG.sz(I:eG X f g H s):X.s₀.heap.objs.size<=s.heap.objs.size:=bJ I.ok.above (iU I.lt)
def eG.nofs(I:eG X f g H s){a:Addr}(h:s.heap.objs.size<=a):a∉X.fs:=λb=>by
 obtain⟨_,o,c,_⟩:=I.ok.funs.mem b;exact a9 (cX (bF c) (bJ I.sz h)) (iT _)
def eG.cne(I:eG X f g H s):∀x c,X.env.cells.lookup x=some c->c≠X.env.locals:=λx c e z=>by
 obtain⟨v,o,d,hd⟩:=I.cell x c e;obtain⟨m,⟨j,i,h,b,a,_⟩,_⟩:=I.loc;rw[z,b]at d;cases d;rw[a]at hd;cases hd
theorem eG.funs(I:eG X f g H s):s.heap.FunFrames X.base X.outer:=by
 have all:∀l,(∀b∈JM l,b∈X.fs)->X.s₀.heap.FunFrames X.base l->s.heap.FunFrames X.base l:=by
  intro l
  induction l with
  |nil=>intro _ _;trivial
  |cons env r m=>
   intro hs h;obtain⟨hk,⟨L,o,d,i,j,hd⟩,k⟩:=h;have a:L∈X.fs:=hs L (by unfold JM;rw[gD,d];exact aS);obtain⟨n,e⟩:=I.base.slot L o j (I.ok.frf L a) a λz=>I.ok.exfs L z a;exact⟨hk,⟨L,_,d,i,e,hd⟩,m (λb c=>hs b (by unfold JM;rw[gD,d];exact aO _ c)) k⟩
 exact all X.outer (λ_ c=>c) I.ok.funs
theorem eG.stack(I:eG X f g H s):s.heap.FunFrames X.base X.stack:=by
 rcases I.ok.stk with e | ⟨e,a⟩
 ·rw[e];exact I.funs
 ·rw[e];obtain⟨m,b,_⟩:=I.loc;refine .cons (by rw[I.ok.kind];decide) a b ?_ I.funs;exact Heap.get?_none_of_le (bJ I.ok.bsz I.ok.above)
def eG.stkSub(I:eG X f g H s):∀b∈JM X.stack,b∈X.env.locals::X.fs:=λb a=>by
 rcases I.ok.stk with e | ⟨e,c⟩
 ·rw[e]at a;exact aO _ a
 ·rw[e]at a;unfold JM at a;rw[gD,c]at a;exact a
def eG.stkFree(I:eG X f g H s):∀b∈JM X.stack,H b=none:=λb hb=>by
 rcases aY.mp (I.stkSub b hb)with e | hb
 ·rw[e];exact I.free
 ·obtain⟨_,o,a,_⟩:=I.ok.funs.mem hb;exact I.base.free b o a (I.ok.frf b hb) λz=>I.ok.exfs b z hb
def eG.step{g':Array GenState}{t':Nat}{d':Drawn}{ch:List Addr}(I:eG X f g H s)
  (j:∀b∈ch,(b∈X.ex\/X.s₀.heap.objs.size<=b)/\b≠X.env.locals/\(∀x c,X.env.cells.lookup x=some c->c≠b)/\∀p∈X.pn++f,p.1≠b)
  (keep:∀b o,b≠X.env.locals->b∉X.fs->b∉ch->s.heap.get? b=some o->H b=none->h'.get? b=some o)
  (slot:∀b o,b≠X.env.locals->b∈X.fs->b∉ch->s.heap.get? b=some o->H b=none->∃M,h'.get? b=some { o with slots:=M }) (free:∀b o,b∉ch->s.heap.get? b=some o->H b=none->H' b=none)
  (there:∀b o,b∉ch->s.heap.get? b=some o->∃K,h'.get? b=some K)
  (tups:∀b B,H b=some (.tup B)->H' b=some (.tup B)) (frzs:∀b o u,H b=some (.frz o u)->H' b=some (.frz o u)) (tbls:∀b L,H b=some (.tbl L)->∃G,H' b=some (.tbl (L++G)))
  (ns:∀m,s.heap.Ns X.env.locals m->h'.Ns X.env.locals m) (hok:vI X.prog X.w H' h') (S:bh g') :
  eG X f g H' { s with heap:=h',gens:=g',drawn:=d',toks:=t' }:=by
 have J:∀b o,X.s₀.heap.get? b=some o->b≠X.env.locals:=λb o e=>bS (cX (bF e) I.ok.above)
 have A:∀b o,X.s₀.heap.get? b=some o->b∉X.ex->b∉ch:=λb o e a C=>by
  rcases(j b C).1 with z | z
  ·exact a z
  ·exact a9 (cX (bF e) z) (iT _)
 have h:∀x c,X.env.cells.lookup x=some c->∀v,s.heap.IsCell c v->h'.IsCell c v:=λx c e v ⟨o,E,hd⟩=>by
  have t:c∉ch:=λz=>(j c z).2.2.1 x c e Fo;by_cases O:c∈X.fs
  ·obtain⟨M,q⟩:=slot c o (I.cne x c e) O t E (I.freeC x c e);exact⟨_,q,hd⟩
  ·exact⟨o,keep c o (I.cne x c e) O t E (I.freeC x c e),hd⟩
 refine⟨I.ok,I.os,S,⟨λb o e n C a=>?_,λb o e n C a=>?_,λb o e n a=>?_,λb o e a=>?_,λb B e=>tups b B (I.base.tups b B e),λb o B e=>frzs b o B (I.base.frzs b o B e),λb L e=>?_⟩,?_,λx c e=>?_,?_,λx c e=>?_,λp P=>?_,hok,I.len⟩
 ·exact keep b o (J b o e) C (A b o e a) (I.base.keep b o e n C a) (I.base.free b o e n a)
 ·obtain⟨M,y⟩:=I.base.slot b o e n C a;obtain⟨N,F⟩:=slot b _ (J b o e) C (A b o e a) y (I.base.free b o e n a);exact⟨N,F⟩
 ·obtain⟨K,y⟩:=I.base.there b o e a;exact free b K (A b o e a) y (I.base.free b o e n a)
 ·obtain⟨K,y⟩:=I.base.there b o e a;exact there b K (A b o e a) y
 ·obtain⟨W,y⟩:=I.base.tbls b L e;obtain⟨Y,F⟩:=tbls b _ y;exact⟨W++Y,by rw[F,RA]⟩
 ·obtain⟨m,U,T⟩:=I.loc;refine⟨m,ns m U,λi x v y F R=>?_⟩;obtain⟨u,r,l⟩:=T i x v y F R;refine⟨u,r,?_⟩;rcases l with l | ⟨k,c,e,z⟩
  ·exact .inl l
  ·exact .inr ⟨k,c,e,h x c e _ z⟩
 ·obtain⟨v,z⟩:=I.cell x c e;exact⟨v,h x c e v z⟩
 ·obtain⟨m,⟨o,_,_,E,_⟩,_⟩:=I.loc;exact free _ o (λz=>(j _ z).2.1 Fo) E I.free
 ·obtain⟨v,o,E,hd⟩:=I.cell x c e;exact free c o (λz=>(j c z).2.2.1 x c e Fo) E (I.freeC x c e)
 ·obtain⟨e,n,ne,Q,d⟩:=I.pin p P;have t:p.1∉ch:=λz=>(j p.1 z).2.2.2 p P Fo;exact⟨keep p.1 p.2 ne Q t e n,free p.1 p.2 t e n,ne,Q,d⟩
def eG.un{t':Nat}(I:eG X f g H s)(u:Un X.fs [] H H' s.heap h')(hok:vI X.prog X.w H' h'):eG X f g H' { s with heap:=h',toks:=t' }:=by
 obtain⟨m,⟨o,q,p,i,r⟩,_⟩:=id I.loc;obtain⟨x,j⟩:=u.any i I.free Fm
 exact I.step (g':=s.gens) (d':=s.drawn) (ch:=[]) (λ_ z=>nomatch z) (λb o _ h _ e n=>u.keep b o e n h Fm) (λb o _ h _ e n=>u.slot b o e n h Fm) (λb o _ e n=>u.free b o e n Fm) (λb o _ e=>u.there b o e Fm) u.tups u.frzs u.tbls (λt k=>by
  obtain⟨v,d,c,a,l⟩:=k;rw[i]at a;cases a;exact⟨_,d,c,j,l⟩) hok I.bare
def eG.call{g':Array GenState}{t':Nat}{d':Drawn}{ch:List Addr}(I:eG X f g H s)(u:Un (JM X.stack) ch H H' s.heap h')(hok:vI X.prog X.w H' h')(t:bh g')
  (d:∀b∈ch,(b∈X.ex\/X.s₀.heap.objs.size<=b)/\b≠X.env.locals/\(∀x c,X.env.cells.lookup x=some c->c≠b)/\∀p∈X.pn++f,p.1≠b) :
  eG X f g H' { s with heap:=h',gens:=g',drawn:=d',toks:=t' }:=by
 obtain⟨m,⟨o,B,A,l,r⟩,_⟩:=id I.loc;obtain⟨F,k⟩:=u.any l I.free λz=>(d _ z).2.1 Fo
 exact I.step (ch:=ch) d (λb o k q a e n=>u.keep b o e n (λz=>(aY.mp (I.stkSub b z)).elim k q) a) (λb o _ _ a e n=>u.any e n a) (λb o a e n=>u.free b o e n a) (λb o a e=>u.there b o e a) u.tups u.frzs u.tbls (λC v=>by
  obtain⟨E,j,i,h,y⟩:=v;rw[l]at h;cases h;exact⟨_,j,i,k,y⟩) hok t
def eG.turned{t':Nat}{a:Addr}(I:eG X f g H s)(k:∀b o,b≠a->s.heap.get? b=some o->h'.get? b=some o)(C:H a=none)(i:a≠X.env.locals)
  (t:a∈X.ex\/X.s₀.heap.objs.size<=a) (w:∀x c,X.env.cells.lookup x=some c->c≠a) (y:∀p∈X.pn++f,p.1≠a):eG X f g H { s with heap:=h',toks:=t' }:=by
 have h:∀b u,H b=some u->b≠a:=λb u e z=>by rw[z,C]at e;cases e
 refine I.step (g':=s.gens) (d':=s.drawn) (ch:=[a]) (λb A=>?_) (λb o _ _ d e _=>k b o (λz=>d (by simp[z])) e) (λb o _ _ d e _=>⟨o.slots,k b o (λz=>d (by simp[z])) e⟩) (λ_ _ _ _ n=>n)
  (λb o d e=>⟨o,k b o (λz=>d (by simp[z])) e⟩) (λ_ _ e=>e) (λ_ _ _ e=>e) (λb F e=>⟨#[],by rw[e];simp⟩) (λm B=>?_) (λb u e=>?_) I.bare
 ·have e:b=a:=by simpa using A
  subst e;exact⟨t,i,w,y⟩
 ·obtain⟨o,l,j,E,r⟩:=B;exact⟨o,l,j,k _ o (l6 i) E,r⟩
 ·refine(I.hok b u e).stay (λc v d q=>k c v ?_ q) (λ_ q=>q) λ_ _ q=>q;rcases d with z | z
  ·rw[z];exact h b u e
  ·exact h c _ z
def eG.tok(I:eG X f g H s)(t:Nat):eG X f g H { s with toks:=t }:=I.un (h':=s.heap) (t':=t) Un.refl I.hok
theorem eG.kept{t':Nat}(I:eG X f g H s)(k:∀b u,s.heap.get? b=some u->h'.get? b=some u):eG X f g H { s with heap:=h',toks:=t' }:=I.un (Un.kept k) (I.hok.kept k)
theorem eG.laid{a:Addr}{t':Nat}(I:eG X f g H s)(k:∀b u,s.heap.get? b=some u->h'.get? b=some u)(c:s.heap.objs.size<=a)(new:jY X.prog X.w (gG H a o) h' a o) :
  eG X f g (gG H a o) { s with heap:=h',toks:=t' }:=I.un (Un.laid k c (I.hok.fresh c)) (I.hok.laid k c new)
theorem eG.write{x e:Addr}{t':Nat}(I:eG X f g H s)(d:Gx (H x))(c:e=x\/H e=some (.own x))(k:∀b u,b≠e->s.heap.get? b=some u->h'.get? b=some u)(a:∃u,h'.get? e=some u)
  (new:jY X.prog X.w (gG H x o) h' x o):eG X f g (gG H x o) { s with heap:=h',toks:=t' }:=I.un (Un.write d c k a) (I.hok.write d c k a new)
def eG.pins_of(I:eG X f g H s)(h:∀p∈pins',s.heap.get? p.1=some p.2/\H p.1=none/\p.1≠X.env.locals/\p.1∉X.fs/\∀v,p.2.data≠.cell v):eG X pins' g H s:=
 ⟨I.ok,I.os,I.bare,I.base,I.loc,I.cell,I.free,I.freeC,λp a=>(eA.mp a).elim (λz=>I.pin p (iW _ z)) (h p),I.hok,I.len⟩
def I0{N:List Str}(e:N.Nodup){i j:Nat}(a:N[i]?=some x)(b:N[j]?=some x):i=j:=by
 obtain⟨h,c⟩:=aE.mp a;obtain⟨k,d⟩:=aE.mp b;exact(BA e).mp (c.trans d.symm)
def DW{E:Value->Shared->Prop}{i:Nat}{Q:Unit->Shared->Prop}(I:eG X f g H s)(hN:X.N.Nodup)(S:X.N[i]?=some x)(B:OI X.env.scope x)(r:iJ v u)
  (h:∀s',eG X f (g.set i (some v)) H s'->(∃a,cU a s.heap s'.heap/\(a=X.env.locals\/X.env.cells.lookup x=some a))->Q () s') (hf:X.fn x=true\/X.env.scope.names.lookup x=some .local:=by first | exact .inl Fo | exact .inr Fo | assumption):wpAny M A (storeName X.env x u) Q E s:=by
 obtain⟨m,hn,hl⟩:=id I.loc;have R:(X.env.scope.kind==.class||(X.env.scope.kind==.module&&X.env.locals != X.env.globals))=false:=by rw[I.ok.kind];rfl
 have G:i<g.length:=by rw[I.len];exact(aE.mp S).1
 have cne:=I.cne
 have t:∀{a:Addr}{h':Heap},(∃o,s.heap.get? a=some o/\H a=none)->cU a s.heap h'->vI X.prog X.w H h':=λ{a h'} ha hs b ob e=>by
  obtain⟨_,_,C⟩:=ha;refine(I.hok b ob e).stay (λc Y hc q=>(hs.2 c ?_).trans q) (λ_ q=>q) λ_ _ q=>q;rintro rfl;rcases hc with rfl | hc
  ·rw[C]at e;cases e
  ·rw[C]at hc;cases hc
 rcases B with hk | hk
 ·refine wpAny_storeName_local hk hn (λh' yk hs=>?_) R;obtain⟨oL,_,_,Cj,_⟩:=id hn;refine h _ ⟨I.ok,I.os,I.bare,⟨λb o e n J B=>?_,λb o e n J B=>?_,I.base.free,λb o e B=>?_,I.base.tups,I.base.frzs,I.base.tbls⟩,⟨_,yk,λj y v' l F Z=>?_⟩,λy c e=>?_,I.free,I.freeC,λp hp=>?_,t ⟨oL,Cj,I.free⟩ hs,by simpa using I.len⟩ ⟨_,hs,.inl Fo⟩
  ·exact(hs.2 b (bS (cX (bF e) I.ok.above))).trans (I.base.keep b o e n J B)
  ·obtain⟨sl,l⟩:=I.base.slot b o e n J B;exact⟨sl,(hs.2 b (bS (cX (bF e) I.ok.above))).trans l⟩
  ·obtain⟨o',l⟩:=I.base.there b o e B;exact⟨o',(hs.2 b (bS (cX (bF e) I.ok.above))).trans l⟩
  ·by_cases L:j=i
   ·subst L;rw[S]at l;cases l;rw[bK G]at F;cases F;exact⟨u,r,.inl ⟨hk,Fm⟩⟩
   ·rw[bH (l6 L)]at F;obtain⟨u',r',q⟩:=hl j y v' l F Z;refine⟨u',r',?_⟩;rcases q with⟨k,e⟩ | ⟨k,c,e,z⟩
    ·refine .inl ⟨k,?_⟩;have:y≠x:=λe=>L (I0 hN l (e▸S));simp[this,e]
    ·exact .inr ⟨k,c,e,z.sameBut hs (cne y c e)⟩
  ·obtain⟨Y,z⟩:=I.cell y c e;exact⟨Y,z.sameBut hs (cne y c e)⟩
  ·obtain⟨e,n,ne,nf,d⟩:=I.pin p hp;exact⟨(hs.2 p.1 ne).trans e,n,ne,nf,d⟩
 ·have K:X.fn x=true:=by
   rcases hf with z | z
   ·exact z
   ·rw[z]at hk;cases hk
  obtain⟨c,hc⟩:=I.ok.has x (.inl hk);obtain⟨Y,z⟩:=I.cell x c hc;refine wpAny_storeName_cell I.ok.kind hk hc z (λh' O hs=>?_);obtain⟨oc,T,U⟩:=id z;refine h { s with heap:=h' } ⟨I.ok,I.os,I.bare,⟨λb o e n J B=>?_,λb o e n J B=>?_,I.base.free,λb o e B=>?_,I.base.tups,I.base.frzs,I.base.tbls⟩,⟨m,hn.sameBut hs (l6 (cne x c hc)),λj y v' l F Z=>?_⟩,λy W e=>?_,I.free,I.freeC,λp hp=>?_,t ⟨oc,T,I.freeC x c hc⟩ hs,by simpa using I.len⟩ ⟨c,hs,.inr hc⟩
  ·exact(hs.2 b (bS (cX (bF e) (I.ok.cab x c K hc)))).trans (I.base.keep b o e n J B)
  ·obtain⟨sl,l⟩:=I.base.slot b o e n J B;exact⟨sl,(hs.2 b (bS (cX (bF e) (I.ok.cab x c K hc)))).trans l⟩
  ·obtain⟨o',l⟩:=I.base.there b o e B;exact⟨o',(hs.2 b (bS (cX (bF e) (I.ok.cab x c K hc)))).trans l⟩
  ·by_cases L:j=i
   ·subst L;rw[S]at l;cases l;rw[bK G]at F;cases F;exact⟨u,r,.inr ⟨.inl hk,c,hc,O⟩⟩
   ·rw[bH (l6 L)]at F;obtain⟨u',r',q⟩:=hl j y v' l F Z;refine⟨u',r',?_⟩;rcases q with q | ⟨k,W,e,z'⟩
    ·exact .inl q
    ·refine .inr ⟨k,W,e,z'.sameBut hs ?_⟩;rintro rfl;exact L (I0 hN l (I.ok.inj _ _ _ e hc▸S))
  ·by_cases P:W=c
   ·subst P;exact⟨_,O⟩
   ·obtain⟨w2,z2⟩:=I.cell y W e;exact⟨w2,z2.sameBut hs P⟩
  ·obtain⟨e,n,ne,nf,d⟩:=I.pin p hp;refine⟨(hs.2 p.1 ?_).trans e,n,ne,nf,d⟩;intro q;rw[q,T]at e;have q':oc=p.2:=c5 e;exact d Y (by rw[<- q'];exact U)
def HU{E:Value->Shared->Prop}{i:Nat}{Q:Unit->Shared->Prop}(I:eG X f g H s)(c:X.N.Nodup)(e:X.N[i]?=some x)(j:OI X.env.scope x)(r:iJ v u)
  (h:∀a,eG X f (g.set i (some v)) H a->Q () a) (d:X.fn x=true\/X.env.scope.names.lookup x=some .local:=by first | exact .inl Fo | exact .inr Fo | assumption):wpAny M A (storeName X.env x u) Q E s:=
 DW I c e j r (λa b _=>h a b) d
def eG.call'{s':Shared}(I:eG X f g H s)(h:s'.os=s.os)(u:Un (JM X.stack) ch H H' s.heap s'.heap)(hok:vI X.prog X.w H' s'.heap)(d:bh s'.gens)
  (a:∀b∈ch,(b∈X.ex\/X.s₀.heap.objs.size<=b)/\b≠X.env.locals/\(∀x c,X.env.cells.lookup x=some c->c≠b)/\∀p∈X.pn++f,p.1≠b):eG X f g H' s':=by
 obtain⟨h',g',d',t',i⟩:=s';have e:i=s.os:=h;subst e;exact I.call (g':=g') (t':=t') (d':=d') u hok d a
end
abbrev XK:=Value->Option Addr->Hp->Prop
abbrev St:=List (Option V)
abbrev VK:=V->Hp->Prop
abbrev TE:=St->Hp->VK->Prop
abbrev TT:=St->Hp->(Bool->Hp->Prop)->Prop
abbrev TA:=St->Hp->(List V->Hp->Prop)->Prop
structure GX where
 nx:St->Hp->Prop
 rt:VK
 bk:St->Hp->Prop:=λ_ _=>False
 ct:St->Hp->Prop:=λ_ _=>False
abbrev TS:=GX->St->Hp->Prop
def EP(X:Cx)(a:List (Addr×Obj))(d:St)(Q:VK)(u:Value)(c:Shared):Prop:=∃v b,eG X a d b c/\iJ v u/\Q v b
def TP(X:Cx)(a:List (Addr×Obj))(e:St)(Q:Bool->Hp->Prop)(b:Bool)(d:Shared):Prop:=∃c,eG X a e c d/\Q b c
def AP(X:Cx)(a:List (Addr×Obj))(e:St)(Q:List V->Hp->Prop)(d:List Value)(c:Shared):Prop:=∃vs b,eG X a e b c/\gM vs d/\Q vs b
def SP(X:Cx)(b:List (Addr×Obj))(D:GX)(f:Flow)(d:Shared):Prop:=
 match f with
 |.next=>∃a c,eG X b a c d/\D.nx a c
 |.brk=>∃a c,eG X b a c d/\D.bk a c
 |.cont=>∃a c,eG X b a c d/\D.ct a c
 |.ret u=>∃v a c,eG X b a c d/\iJ v u/\D.rt v c
def PE(X:Cx)(e:Expr)(t:TE):Prop:=
 ∀a s b H Q,eG X a b H s->t b H Q->wpAny (model X.prog X.w) X.A (eval e X.env) (EP X a b Q) X.xe s
def PT(X:Cx)(e:Expr)(t:TT):Prop:=
 ∀pins s σ H(Q:Bool->Hp->Prop),eG X pins σ H s->t σ H Q->wpAny (model X.prog X.w) X.A (isTrue e X.env (eval e X.env)) (TP X pins σ Q) X.xe s
def PW(X:Cx)(e:Expr)(t:TT):Prop:=
 ∀(a:Sem Value)pins s σ H(Q:Bool->Hp->Prop),eG X pins σ H s->t σ H Q->wpAny (model X.prog X.w) X.A (isTrue e X.env a) (TP X pins σ Q) X.xe s
def PW.pt(h:PW X e t):PT X e t:=h _
def PA(X:Cx)(a:List Expr)(t:TA):Prop:=
 ∀(pos:Pos)pins s σ H(Q:List V->Hp->Prop),eG X pins σ H s->t σ H Q->wpAny (model X.prog X.w) X.A (spliced (l0 pos (cD a X.env))) (AP X pins σ Q) X.xe s
def PS(X:Cx)(st:Stmt)(t:TS):Prop:=
 ∀pins s σ H(D:GX),eG X pins σ H s->t D σ H->wpAny (model X.prog X.w) X.A (exec st X.env) (SP X pins D) X.xe s
def AC(X:Cx)(st:List Stmt)(t:TS):Prop:=
 ∀pins s σ H(D:GX),eG X pins σ H s->t D σ H->wpAny (model X.prog X.w) X.A (execs st X.env) (SP X pins D) X.xe s
def jR{d:Type}{t}{Q b:d->Shared->Prop}{M A}{E:Value->Shared->Prop}{s}(h:wpAny M A t Q E s)(c:∀a s,Q a s->b a s):wpAny M A t b E s:=gO h c λ_ _ x=>x
section
variable{X:Cx}
def sS(i:Nat):TE:=λa H Q=>∃v,a[i]?=some (some v)/\Q v H
def tC(v:V):TE:=λ_ H Q=>Q v H
def S4{i:Nat}{x:Str}(g:X.N[i]?=some x)(o:Gq X.env.scope x)(hd:(x==("__debug__":Str))=false:=by decide)(d:(x==("__classdict__":Str))=false:=by decide):PE X (.Name x pos) (sS i):=by
 intro b s p H Q I h;obtain⟨v,e,h⟩:=h;obtain⟨m,n,j⟩:=I.loc;obtain⟨u,r,l⟩:=j i x v g e o;have fin:EP X b p Q u s:=⟨v,H,I,r,h⟩;rcases l with⟨hk,k⟩ | ⟨hk,c,f,a⟩
 ·exact tz (wpAny_loadName_local I.ok.kind hk n k fin) hd
 ·rcases hk with hk | hk
  ·exact tz (wpAny_loadName_cell I.ok.kind hk f a fin) hd
  ·exact tz (wpAny_loadName_free I.ok.kind hk f a fin d) hd
def yG:PE X (.Constant (.int i) j pos) (tC (.int i)):=λ_ _ _ H _ I h=>wpAny_Constant_int ⟨.int i,H,I.tok _,⟨_,Fo⟩,h⟩
def Tl:PE X (.Constant (.bool b) j pos) (tC (.bl b)):=λ_ _ _ H _ I h=>Constant_bool ⟨.bl b,H,I,Fo,h⟩
def Zq:PE X (.Constant .none j pos) (tC .non):=λ_ _ _ H _ I h=>Constant_none ⟨.non,H,I,Fo,h⟩
def Zs:PE X (.Constant (.str x) j pos) (tC (.str x)):=λ_ _ _ H _ I h=>Calls.Constant_str ⟨.str x,H,I.tok _,⟨_,Fo⟩,h⟩
def Gl(X:Cx)(x:Str):Prop:=X.env.kindOf x=some .globalImplicit
def F8{E:Value->Shared->Prop}{x:Str}{Q:Value->Shared->Prop}(I:eG X pins σ H s)(a:Gl X x)(b:X.mg x=some u)(h:Q u s)
  (hd:(x==("__debug__":Str))=false:=by decide):wpAny (model X.prog X.w) X.A (eval (.Name x pos) X.env) Q E s:=
 dt I.ok.kind a (Calls.loadGlobal_global (by rw[I.ok.glob];exact I.mod.glob.keeps I.bk) b h) hd
def tV{E:Value->Shared->Prop}{x:Str}{Q:Value->Shared->Prop}(I:eG X pins σ H s)(c:Gl X x)(d:X.mg x=none)(f:d2 x=some u)(h:Q u s)
  (e:x≠"__name__":=by decide) (hd:(x==("__debug__":Str))=false:=by decide):wpAny (model X.prog X.w) X.A (eval (.Name x pos) X.env) Q E s:=by
 obtain⟨g,a,b⟩:=I.mod.blt;exact dt I.ok.kind c (Calls.loadGlobal_builtin (by rw[I.ok.glob];exact I.mod.glob.keeps I.bk) d (by rw[I.ok.blt];exact a.keeps I.bk) ((b x e).trans f) h) hd
def NM{x:Str}(a:Gl X x)(b:X.mg x=some u)(r:iJ v u)(hd:(x==("__debug__":Str))=false:=by decide):PE X (.Name x pos) (tC v):=
 λ_ _ _ H _ I h=>F8 I a b ⟨v,H,I,r,h⟩ hd
def NN{x:Str}(a:Gl X x)(b:X.mg x=none)(d:d2 x=some u)(r:iJ v u)(c:x≠"__name__":=by decide)(hd:(x==("__debug__":Str))=false:=by decide):PE X (.Name x pos) (tC v):=
 λ_ _ _ H _ I h=>tV I a b d ⟨v,H,I,r,h⟩ c hd
variable{a b:Expr}{k n:TE}{pos:Pos}
def tB(t:TE):TT:=λe H Q=>t e H λx d=>∃c,x=.bl c/\Q c d
def Zy{e:Expr}(h:PE X e t)(j:∀c,isTrue e X.env c=(do let v <- c;uo e.pos;jb [v] (truthy v)):=by intro _;rfl):PT X e (tB t):=by
 intro f s o H Q I hw;refine isTrue_plain (jR (h f s o H _ I hw) λv p m=>?_) (j _);obtain⟨x,g,i,l,q1⟩:=m;obtain⟨d,rfl,q⟩:=q1;cases l;exact w5 ⟨g,i,q⟩
variable{f g:TT}{jM:List Expr}
def Pk(t u:TT):TT:=λe H Q=>t e H λc d=>if c=true then u e d Q else Q false d
def Nk(t u:TT):TT:=λe H Q=>t e H λc d=>if c=true then Q true d else u e d Q
def Po(t:TT):TT:=λe H Q=>t e H λc d=>Q (!c) d
def YM(i:PT X a f):PW X (.BoolOp .And [a] pos) f:=by
 intro m d s j H Q I h;refine isTrue_and (jR (i d s j H Q I h) λc l e=>?_)
 cases c with
 |true=>exact isTrue_and_nil e
 |false=>exact e
def aDf(i:PT X a f):PW X (.BoolOp .Or [a] pos) f:=by
 intro m d s j H Q I h;refine isTrue_or (jR (i d s j H Q I h) λc l e=>?_)
 cases c with
 |false=>exact isTrue_or_nil e
 |true=>exact e
def Zz(l:PT X a f)(m:PW X (.BoolOp .And (b::jM) pos) g):PW X (.BoolOp .And (a::b::jM) pos) (Pk f g):=by
 intro p d s j H Q I h;refine isTrue_and (jR (l d s j H _ I h) λc o q=>?_);obtain⟨e,i,q1⟩:=q
 cases c with
 |true=>exact m p d o j e Q i q1
 |false=>exact⟨e,i,q1⟩
def So(l:PT X a f)(m:PW X (.BoolOp .Or (b::jM) pos) g):PW X (.BoolOp .Or (a::b::jM) pos) (Nk f g):=by
 intro p d s j H Q I h;refine isTrue_or (jR (l d s j H _ I h) λc o q=>?_);obtain⟨e,i,q1⟩:=q
 cases c with
 |true=>exact⟨e,i,q1⟩
 |false=>exact m p d o j e Q i q1
def Zx(i:PT X a f):PT X (.UnaryOp .Not a pos) (Po f):=by
 intro d s j H Q I h;exact isTrue_not (i d s j H (λc e=>Q (!c) e) I h)
def Ye(k n:TE):TE:=λe H Q=>k e H λx d=>∃c,x=.bl c/\if c=true then n e d Q else Q (.bl false) d
def Zr(h:PE X a t):PE X (.BoolOp op [a] pos) t:=λc s d H Q I hw=>BoolOp_one (h c s d H Q I hw)
def Zn(l:PE X a k)(m:PE X (.BoolOp .And (b::jM) pos) n):PE X (.BoolOp .And (a::b::jM) pos) (Ye k n):=by
 intro d s j H Q I h;refine BoolOp_and (jR (l d s j H _ I h) λv p q=>?_);obtain⟨x,e,i,o,q1⟩:=q;obtain⟨c,rfl,q1⟩:=q1;cases o;refine w5 ?_
 cases c with
 |true=>exact m d p j e Q i q1
 |false=>exact⟨.bl false,e,i,Fo,q1⟩
def Nl(t:TT)(k n:TE):TE:=λd H Q=>t d H λc e=>if c=true then k d e Q else n d e Q
def S9(q:PT X c f)(o:PE X a k)(p:PE X b n):PE X (.IfExp c a b pos) (Nl f k n):=by
 intro e s i H Q I h;refine wpAny_IfExp (jR (q e s i H _ I h) λd m r=>?_);obtain⟨j,l,q1⟩:=r
 cases d with
 |true=>exact o e m i j Q l q1
 |false=>exact p e m i j Q l q1
end
def lT(K:aM)(H:Hp)(a:Addr)(c:List V):Prop:=
 Rd H a (.lst c) \/
  ∃(o:Obj)(b:Array Value)(n:Nat),K.lookup a=some o/\o.cls=.type "list"/\o.dict=none/\o.data=.seq b n/\b.size<=bO/\gM c b.toList
def rN(K:aM)(H:Hp)(a:Addr)(c:List V):Prop:=
 Rd H a (.tup c) \/
  ∃(o:Obj)(b:Array Value)(n:Nat),K.lookup a=some o/\o.cls=.type "tuple"/\o.dict=none/\o.data=.seq b n/\b.size<=bO/\gM c b.toList
noncomputable def Pa:Value->Option V
|.none=>some .non
|.bool b=>some (.bl b)
|.int i _=>some (.int i)
|.str x _=>some (.str x)
|.bytes b _=>some (.byt b)
|.float b _=>some (.flt b)
|.ref a=>some (.ref a)
|.type n=>some (.ty n)
|_=>none
def iJ.abs(r:iJ x u):Pa u=some x:=by
 cases x with
 |non=>cases r;rfl
 |bl _=>cases r;rfl
 |int _=>obtain⟨t,rfl⟩:=r;rfl
 |str _=>obtain⟨t,rfl⟩:=r;rfl
 |byt _=>obtain⟨t,rfl⟩:=r;rfl
 |flt _=>obtain⟨t,rfl⟩:=r;rfl
 |ref _=>cases r;rfl
 |ty _=>cases r;rfl
theorem iJ.inj(r:iJ x u)(q:iJ y u):x=y:=c5 (r.abs.symm.trans q.abs)
theorem gM.inj:∀{xs ys us},gM xs us->gM ys us->xs=ys
|_,_,_,.nil,.nil=>rfl
|_,_,_,.cons r t,.cons r' t'=>by rw[r.inj r',gM.inj t t']
section
variable{X:Cx}{b:List (Addr×Obj)}{g:St}{H:Hp}{s:Shared}{a:Addr}{f i:List V}
def lT.of{K}(h:H a=some (.lst f)):lT K H a f:=.inl (.inl h)
def rN.of{K}(h:H a=some (.tup f)):rN K H a f:=.inl (.inl h)
def eG.list(I:eG X b g H s)(h:lT X.K H a f):∃c:List Value,gM f c/\PlainL s.heap a c.toArray/\f.length<=bO:=by
 rcases h with h | ⟨o,c,n,hk,d,hd,hs,j,r⟩
 ·obtain⟨z,c,n,r,e⟩:=h.ok I.hok;exact⟨c,r,⟨_,n,e,Fo,Fo,Fo⟩,z⟩
 ·refine⟨c.toList,r,⟨o,n,I.kIn a o hk,d,hd,by simpa using hs⟩,?_⟩;have e:=r.length;simp only[bQ]at e;lia
def eG.tuple(I:eG X b g H s)(h:rN X.K H a f):∃c:List Value,gM f c/\ue s.heap a c.toArray/\f.length<=bO:=by
 rcases h with h | ⟨o,c,n,hk,d,_,hs,j,r⟩
 ·obtain⟨z,c,r,p⟩:=h.ok I.hok;exact⟨c,r,p.tup,z⟩
 ·refine⟨c.toList,r,⟨o,I.kIn a o hk,d,n,by simpa using hs⟩,?_⟩;have e:=r.length;simp only[bQ]at e;lia
def eG.tupleN(I:eG X b g H s)(h:rN X.K H a f):∃o,s.heap.get? a=some o/\o.cls=.type "tuple"/\o.dict=none:=by
 rcases h with h | ⟨o,j,n,hk,k,hd,_⟩
 ·obtain⟨z,j,r,⟨o,e,c,n,_,d⟩⟩:=h.ok I.hok;exact⟨o,e,c,d⟩
 ·exact⟨o,I.kIn a o hk,k,hd⟩
def eG.list_inj(I:eG X b g H s)(h:lT X.K H a f)(p:lT X.K H a i):f=i:=by
 obtain⟨j,r,⟨o,n,e,_,_,d⟩,_⟩:=I.list h;obtain⟨c,q,⟨u,t,l,_,_,k⟩,_⟩:=I.list p;rw[e]at l;cases l;rw[d]at k;injection k with m _
 have:j=c:=by simpa using e8 aFv m
 subst this;exact r.inj q
def eG.tuple_inj(I:eG X b g H s)(h:rN X.K H a f)(p:rN X.K H a i):f=i:=by
 obtain⟨j,r,⟨o,e,_,n,d⟩,_⟩:=I.tuple h;obtain⟨c,q,⟨u,l,_,t,k⟩,_⟩:=I.tuple p;rw[e]at l;cases l;rw[d]at k;injection k with m _
 have:j=c:=by simpa using e8 aFv m
 subst this;exact r.inj q
end
noncomputable abbrev Cx.wish(X:Cx)(E:Value->Shared->Prop):Cx:={ X with xe:=E }
noncomputable abbrev Cx.nox(X:Cx):Cx:=X.wish λ_ _=>False
theorem Cx.Ok.wish{X:Cx}(ok:X.Ok)(E:Value->Shared->Prop):(X.wish E).Ok:=
 ⟨ok.mod,ok.kind,ok.glob,ok.blt,ok.above,ok.inj,ok.has,ok.cab,ok.hd,ok.frames,ok.stk,ok.exf,ok.bs,ok.bsz,ok.noex,ok.exfs,ok.funs,ok.frf,ok.tab⟩
def Cx.Ok.unwish{X:Cx}{E:Value->Shared->Prop}(ok:(X.wish E).Ok):X.Ok:=
 ⟨ok.mod,ok.kind,ok.glob,ok.blt,ok.above,ok.inj,ok.has,ok.cab,ok.hd,ok.frames,ok.stk,ok.exf,ok.bs,ok.bsz,ok.noex,ok.exfs,ok.funs,ok.frf,ok.tab⟩
section
variable{X:Cx}{a:List (Addr×Obj)}{b:St}{H:Hp}{s:Shared}{E:Value->Shared->Prop}
theorem eG.wish(I:eG X a b H s)(E:Value->Shared->Prop):eG (X.wish E) a b H s:=⟨I.ok.wish E,I.os,I.bare,I.base,I.loc,I.cell,I.free,I.freeC,I.pin,I.hok,I.len⟩
theorem eG.unwish(I:eG (X.wish E) a b H s):eG X a b H s:=⟨I.ok.unwish,I.os,I.bare,I.base,I.loc,I.cell,I.free,I.freeC,I.pin,I.hok,I.len⟩
theorem SP.unwish{D}(h:SP (X.wish E) a D f s'):SP X a D f s':=by
 cases f with
 |next=>obtain⟨c,d,I,q⟩:=h;exact⟨c,d,I.unwish,q⟩
 |brk=>obtain⟨c,d,I,q⟩:=h;exact⟨c,d,I.unwish,q⟩
 |cont=>obtain⟨c,d,I,q⟩:=h;exact⟨c,d,I.unwish,q⟩
 |ret u=>obtain⟨v,c,d,I,r,q⟩:=h;exact⟨v,c,d,I.unwish,r,q⟩
theorem AC.nox{st}(h:AC X.nox st t):AC X st t:=λa s b H D I hw=>
 gO (h a s b H D (I.wish _) hw) (λ_ _ q=>q.unwish) λ_ _ z=>j4 z
end
section
variable{X:Cx}{st:Stmt}{jM:List Stmt}{t u:TS}{e:Expr}{g:TE}{pos:Pos}
def Yf:TS:=λD a H=>D.nx a H
def Pq(t u:TS):TS:=λD a H=>t { D with nx:=u D } a H
def FV:AC X [] Yf:=λ_ _ a H _ I h=>ax ⟨a,H,I,h⟩
def BR(i:PS X st t)(j:AC X jM u):AC X (st::jM) (Pq t u):=by
 intro a s l H D I h;refine wpAny_execs_cons (jR (i a s l H { D with nx:=u D } I h) λf k q=>?_)
 cases f with
 |next=>
  obtain⟨b,c,d,q⟩:=q;exact j a k b c D d q
 |ret v=>exact q
 |brk=>exact q
 |cont=>exact q
def FU(b:PS X st t):AC X [st] t:=by
 intro a s c H D I h;refine wpAny_execs_cons (jR (b a s c H D I h) λf d q=>?_)
 cases f with
 |next=>exact ax q
 |ret v=>exact q
 |brk=>exact q
 |cont=>exact q
def eG.quiet(I:eG X pins σ H s):interactive X.env=false:=by simp[interactive,I.ok.kind]
def RZ(g:TE):TS:=λD a H=>g a H λ_ b=>D.nx a b
def jJ(f:PE X e g)(hs:jH e none pos.line X.env=pure false:=by rfl):PS X (.Expr e pos) (RZ g):=by
 intro a s b H D I h;exact wpAny_Expr_any (jR (f a s b H _ I h) λv j ⟨x,c,d,i,q1⟩=>⟨b,c,d,q1⟩) I.quiet hs
def Pp(g:TE):TS:=λD a H=>g a H D.rt
def yF(f:PE X e g):PS X (.Return (some e) pos) (Pp g):=by
 intro a s b H D I h;exact wpAny_Return_some (jR (f a s b H _ I h) λv j ⟨x,c,d,i,q1⟩=>⟨x,b,c,d,i,q1⟩)
def Pm(c:TT)(t u:TS):TS:=λD a H=>c a H λb d=>if b=true then t D a d else u D a d
def Ly(o:PT X c tc)(m:AC X a t)(n:AC X b u):PS X (.If c a b pos) (Pm tc t u):=by
 intro f s i H D I h;refine wpAny_If (jR (o f s i H _ I h) λd l p=>?_);obtain⟨j,k,q1⟩:=p
 cases d with
 |true=>exact m f l i j D k q1
 |false=>exact n f l i j D k q1
end
abbrev TG:=V->St->Hp->(St->Hp->Prop)->Prop
abbrev Gj:=List V->St->Hp->(St->Hp->Prop)->Prop
def PG(X:Cx)(a:Expr)(t:TG):Prop:=
 ∀pins s σ H(v:V)(u:Value)(Q:St->Hp->Prop),eG X pins σ H s->iJ v u->t v σ H Q ->
  wpAny (model X.prog X.w) X.A (em a X.env u) (λ_ d=>∃b c,eG X pins b c d/\Q b c) X.xe s
def Gw(X:Cx)(f:List Expr)(t:Gj):Prop:=
 ∀pins s(d:St)H(vs:List V)(c:List Value)(Q:St->Hp->Prop),eG X pins d H s->gM vs c->t vs d H Q ->
  wpAny (model X.prog X.w) X.A (assignInOrder ((br f X.env).map (·.2)) c) (λ_ e=>∃a b,eG X pins a b e/\Q a b) X.xe s
section
variable{X:Cx}{pos:Pos}
def kY(i:Nat):TG:=λv a H Q=>Q (a.set i (some v)) H
def NL{i:Nat}(c:X.N.Nodup)(e:X.N[i]?=some x)(f:OI X.env.scope x)(d:X.fn x=true\/X.env.scope.names.lookup x=some .local:=by first | exact .inl Fo | exact .inr Fo | assumption):PG X (.Name x pos) (kY i):=by
 intro a s j H v u Q I r h;exact uq (HU I c e f r (λg b=>⟨_,H,b,h⟩) d)
def ZY:Gj:=λvs a H Q=>vs=[]/\Q a H
def vF(t:TG)(u:Gj):Gj:=λvs c H Q=>∃v r,vs=v::r/\t v c H λa b=>u r a b Q
def jS:Gw X [] ZY:=by
 intro a s b H vs c Q I r h;obtain⟨e,h⟩:=h;subst e;cases r;exact assignInOrder_nil ⟨b,H,I,h⟩
def dR(g:PG X e t)(i:Gw X es u)
  (hs:(br (e::es) X.env).map (·.2)=em e X.env::(br es X.env).map (·.2):=by rfl):Gw X (e::es) (vF t u):=by
 intro a s m H vs n Q I r h;obtain⟨v,o,f,h⟩:=h;subst f
 cases r with
 |cons r j=>
  rw[hs];refine assignInOrder_cons (jR (g a s m H _ _ _ I r h) λ_ k l=>?_);obtain⟨b,c,d,q1⟩:=l;exact i a k b c _ _ Q d j q1
def ZX(K:aM)(n:Nat)(t:Gj):TG:=λv c H Q=>∃a b,v=.ref a/\rN K H a b/\b.length=n/\t b c H Q
def lD{k:Nat}{n:Nat}(m:X.calm=true)(h:Gw X es t)
  (q:(br es X.env).length=n:=by rfl) (d:(br es X.env).findIdx? (·.1)=none:=by rfl):PG X (.Tuple es k pos) (ZX X.K n t):=by
 intro c s g H v u Q I r hw;obtain⟨a,A,j,w,p,hw⟩:=hw;subst j;cases r;obtain⟨z,f,x,B⟩:=I.tuple w;refine assign_Tuple_tuple (I.ok.hd m) x (by simp[q,<- p,f.length]) d λl y=>?_;have i:eG X c g H { s with heap:=l }:=I.kept (t':=s.toks) λb o e=>y b o (bS (bF e)) e;exact h c _ g H A _ Q i (by simpa using f) hw
def wO(c:TE)(g:TG):TS:=λD a H=>c a H λx b=>g x a b D.nx
def tQ(i:PE X e te)(j:PG X tg g)(hs:swapsWithSole [tg] e pos.line X.env=pure false:=by rfl)(hw:swappedStores [tg] e X.env=pure none:=by rfl)
  (f:(br [tg] X.env).map (·.2)=[em tg X.env]:=by rfl):PS X (.Assign [tg] e pos) (wO te g):=by
 intro a s b H D I h;refine wpAny_Assign_stores (jR (i a s b H _ I h) λv l m=>?_) hs hw;obtain⟨x,c,d,k,q1⟩:=m;rw[f];exact jR (j a l b c x v _ d k q1) λ_ n q=>q
def yE{i:Nat}(f:X.N.Nodup)(k:X.N[i]?=some x)(l:OI X.env.scope x)(g:PE X e te)(hs:jH e (some (.Name x pos')) pos.line X.env=pure false:=by rfl)(j:X.fn x=true\/X.env.scope.names.lookup x=some .local:=by first | exact .inl Fo | exact .inr Fo | assumption) :
  PS X (.Assign [.Name x pos'] e pos) (wO te (kY i)):=by
 intro a s o H D I h;refine wpAny_Assign_Name (jR (g a s o H _ I h) λv p n=>?_) hs;obtain⟨y,b,c,m,q1⟩:=n;exact HU c f k l m (λq d=>⟨_,b,d,q1⟩) j
end
section
variable{X:Cx}{pos:Pos}
def RX(c:TT)(h:TS):TS:=λD a H=>∃W:Nat->St->Hp->Prop,(∃m,W m a H)/\∀m a H,W m a H ->
 c a H λb f=>if b=true then∃N:St->Hp->Prop,(∀d e,N d e->∃g,g<m/\W g d e)/\h { D with nx:=N,ct:=N,bk:=D.nx } a f else D.nx a f
def tP(y:PassesOwn (model X.prog X.w) X.A X.env X.xe)(C:PT X c tc)(B:AC X body tb):PS X (.While c body [] pos) (RX tc tb):=by
 intro a s O H D I h;obtain⟨W,⟨E,K⟩,turn⟩:=h;refine wpAny_While (codeAny_whileLoop (λn F=>∃g q,eG X a g q F/\W n g q) ?_ E ⟨O,H,I,K⟩);rintro n G ⟨e,r,z,L⟩;refine u8 y (jR (C a G e r _ z (turn n e r L)) λb J M=>?_);obtain⟨t,u,i⟩:=M
 cases b with
 |true=>
  obtain⟨N,x,i⟩:=i;rw[a7 rfl];refine u8 y (jR (B a J e t _ u i) λf s3 j=>?_)
  cases f with
  |next=>
   obtain⟨d,H3,k,o⟩:=j;obtain⟨m,l,p⟩:=x d H3 o;exact⟨m,l,d,H3,k,p⟩
  |cont=>
   obtain⟨d,H3,k,o⟩:=j;obtain⟨m,l,p⟩:=x d H3 o;exact⟨m,l,d,H3,k,p⟩
  |brk=>exact j
  |ret v=>exact j
 |false=>
  rw[a6 bN];exact ax ⟨e,t,u,i⟩
end
structure It where
 go:Nat->Hp->Prop
 yld:Nat->Hp->V->Hp->Prop
 stop:Nat->Hp->Prop
def AD(X:Cx)(a:List (Addr×Obj))(H:Hp)(b:Addr):Prop:=
 H b=none/\b≠X.env.locals/\b∉X.fs/\(b∈X.ex\/X.s₀.heap.objs.size<=b)/\(∀x c,X.env.cells.lookup x=some c->c≠b)/\∀p∈X.pn++a,p.1≠b
def eG.fpOk{s:Shared}{b:Addr}(I:eG X pins σ H s)(a:s.heap.objs.size<=b)(d:H' b=none):AD X pins H' b:=by
 refine⟨d,fM (cX I.lt a),I.nofs a,.inr (bJ I.sz a),λx c e z=>?_,λp f z=>?_⟩
 ·obtain⟨v,q⟩:=I.cell x c e;exact a9 (cX q.lt (by rw[z];exact a)) (iT _)
 ·exact a9 (cX (bF (I.pin p f).1) (by rw[z];exact a)) (iT _)
structure CS(P:cM)(w:c7)(K:aM)(tg:Expr)(J:It)(fp:List Addr)(it:Addr)(tn:Nat->Heap->Prop):Prop where
 mem:it∈fp
 obj:∀i h,tn i h->∀b∈fp,∃o,h.get? b=some o/\∀v,o.data≠.cell v
 keep:∀i h h',tn i h->(∀b∈fp,∀o,h.get? b=some o->h'.get? b=some o)->tn i h'
 item:∀(X:Cx),X.prog=P->X.w=w->X.K=K->X.calm=true->∀(i:Nat)pins(s:Shared)σ H E,eG X pins σ H s->(∀b∈fp,AD X pins H b)->tn i s.heap->J.go i H ->
  wpAny (model P w) X.A (u3 (.ref it)) (λr s1=>∃u,r=some u /\
   wpAny (model P w) X.A (l9 tg (.ref it) u) (λ_ s2=>∃x H',eG X pins σ H' s2/\iJ x u/\J.yld i H x H'/\tn (i+1) s2.heap/\∀b∈fp,H' b=none) E s1) E s
 done:∀(X:Cx),X.prog=P->X.w=w->X.K=K->X.calm=true->∀(i:Nat)pins(s:Shared)σ H E,eG X pins σ H s->(∀b∈fp,AD X pins H b)->tn i s.heap->J.stop i H ->
  wpAny (model P w) X.A (u3 (.ref it)) (λr s1=>r=none/\eG X pins σ H s1) E s
 self:∀A(i:Nat)(s:Shared)Q E,tn i s.heap->Q (.ref it) s->wpAny (model P w) A (bg (.ref it)) Q E s
abbrev TI:=St->Hp->(It->Hp->Prop)->Prop
def Iy(X:Cx)(a:List (Addr×Obj))(j:St)(i:Expr)(R:It->Hp->Prop)(d:Value)(g:Shared):Prop:=
 ∃(f:Addr)(e:List Addr)(h:Nat->Heap->Prop)(J:It)(c:Hp),d=.ref f/\eG X a j c g/\CS X.prog X.w X.K i J e f h/\h 0 g.heap/\(∀b∈e,AD X a c b)/\R J c
def PI(X:Cx)(b iter:Expr)(c:TI):Prop:=
 ∀pins(s:Shared)σ H(R:It->Hp->Prop),eG X pins σ H s->c σ H R ->
  wpAny (model X.prog X.w) X.A (eval iter X.env) (λv a=>wpAny (model X.prog X.w) X.A (bg v) (Iy X pins σ b R) X.xe a) X.xe s
def EH{E:Value->Shared->Prop}{s:Shared}{b:Addr}{o:Obj}{Q:Unit->Shared->Prop}(e:s.heap.get? b=some o)(c:o.cls=.type n)(hd:o.data=.fields vs)
  (d:["enumerate","zip","dict_itemiterator","dict_reverseitemiterator","odict_iterator","itertools.zip_longest","itertools.pairwise"].contains n=false) (a:Q () s):wpAny M A (l9 tg (.ref b) u) Q E s:=by
 unfold l9
 cases tg<;>first
  |exact aG a
  | (cases u<;>first
    |exact aG a
    | (refine aB (bz e ?_)
       rw[c,hd];show wpAny M A (if(["enumerate","zip","dict_itemiterator","dict_reverseitemiterator","odict_iterator","itertools.zip_longest","itertools.pairwise"].contains n&&vs[0]?==some (h9 _))=true then _ else _) Q E s;rw[a6 (by intro h;rw[d,aCm]at h;cases h)];exact aG a))
noncomputable def Jb(K:aM)(a:Addr):It:=
 ⟨λi H=>∃b x,lT K H a b/\b[i]?=some x,λi H x c=>c=H/\∀b,lT K H a b->b[i]?=some x,λi H=>∃b,lT K H a b/\b.length<=i⟩
noncomputable def I3(K:aM)(a:Addr):It:=
 ⟨λi H=>∃b x,rN K H a b/\b[i]?=some x,λi H x c=>c=H/\∀b,rN K H a b->b[i]?=some x,λi H=>∃b,rN K H a b/\b.length<=i⟩
noncomputable def Ja(lo:Int)(n:Nat):It:=⟨λi _=>i<n,λi H x a=>a=H/\x=.int (lo+i),λi _=>n<=i⟩
def OY{K}(a it:Addr):CS P w K tg (Jb K a) [it] it (λi h=>h.IsListIter it a i) where
 mem:=by simp
 obj:=λi h st b hb=>by
  have e:b=it:=by simpa using hb
  subst e;obtain⟨o,e,c,d⟩:=st;exact⟨o,e,λv z=>by rw[d]at z;cases z⟩
 keep:=λi h h' st k=>st.at λo e=>k it Fm o e
 item:=by
  intro X hP hw hK hc i pins s σ H E I hf st hg;subst hP hw hK;obtain⟨xs,x,hq,hx⟩:=hg;obtain⟨fo,rv,p,hz⟩:=I.list hq;obtain⟨u,hu,ru⟩:=rv.get hx;obtain⟨f0,f1,f2,f3,f4,f5⟩:=hf it Fm;refine wpAny_pyNext_list_item st p.isList (x:=u) (by simpa using hu) λh' ei sb=>?_;have I1:eG X pins σ H { s with heap:=h' }:=I.turned (t':=s.toks) (λb o hb e=>(sb.2 b hb).trans e) f0 f1 f3 f4 f5;obtain⟨o,e,c,d⟩:=id ei;exact⟨u,Fo,EH (s:={ s with heap:=h' }) e c d Fk ⟨x,H,I1,ru,⟨Fo,λys hy=>by rw[I.list_inj hy hq];exact hx⟩,ei,λb hb=>(hf b hb).1⟩⟩
 done:=by
  intro X hP hw hK hc i pins s σ H E I hf st hg;subst hP hw hK;obtain⟨xs,hq,hx⟩:=hg;obtain⟨fo,rv,p,hz⟩:=I.list hq;obtain⟨f0,f1,f2,f3,f4,f5⟩:=hf it Fm;have hl:=rv.length;exact wpAny_pyNext_list_end (I.ok.hd hc) st p.isList (by simp;lia) λh' eb=>⟨Fo,I.turned (t':=s.toks) (λb o hb e=>eb b o hb e) f0 f1 f3 f4 f5⟩
 self:=λ_ _ _ _ _ st h=>wpAny_pyIter_listiter st h
def KN{K}(a it:Addr):CS P w K tg (I3 K a) [it] it (λi h=>h.IsTupleIter it a i) where
 mem:=by simp
 obj:=λi h st b hb=>by
  have e:b=it:=by simpa using hb
  subst e;obtain⟨o,e,c,d⟩:=st;exact⟨o,e,λv z=>by rw[d]at z;cases z⟩
 keep:=λi h h' st k=>st.at λo e=>k it Fm o e
 item:=by
  intro X hP hw hK hc i pins s σ H E I hf st hg;subst hP hw hK;obtain⟨xs,x,hq,hx⟩:=hg;obtain⟨fo,rv,p,hz⟩:=I.tuple hq;obtain⟨u,hu,ru⟩:=rv.get hx;obtain⟨f0,f1,f2,f3,f4,f5⟩:=hf it Fm;refine wpAny_pyNext_tuple_item st (show s.heap.IsTuple a fo.toArray from p) (x:=u) (by simpa using hu) λh' ei sb=>?_;have I1:eG X pins σ H { s with heap:=h' }:=I.turned (t':=s.toks) (λb o hb e=>(sb.2 b hb).trans e) f0 f1 f3 f4 f5;obtain⟨o,e,c,d⟩:=id ei;exact⟨u,Fo,EH (s:={ s with heap:=h' }) e c d Fk ⟨x,H,I1,ru,⟨Fo,λys hy=>by rw[I.tuple_inj hy hq];exact hx⟩,ei,λb hb=>(hf b hb).1⟩⟩
 done:=by
  intro X hP hw hK hc i pins s σ H E I hf st hg;subst hP hw hK;obtain⟨xs,hq,hx⟩:=hg;obtain⟨fo,rv,p,hz⟩:=I.tuple hq;obtain⟨f0,f1,f2,f3,f4,f5⟩:=hf it Fm;have hl:=rv.length;exact wpAny_pyNext_tuple_end (I.ok.hd hc) st (show s.heap.IsTuple a fo.toArray from p) (by simp;lia) λh' eb=>⟨Fo,I.turned (t':=s.toks) (λb o hb e=>eb b o hb e) f0 f1 f3 f4 f5⟩
 self:=λ_ _ _ _ _ st h=>wpAny_pyIter_tupleiter st h
def KO{K}(it:Addr)(lo:Int)(n:Nat):CS P w K tg (Ja lo n) [it] it (λi h=>fh h it (lo+(i:Nat)*1) ((n:Int)-(i:Nat)) 1) where
 mem:=by simp
 obj:=λi h st b hb=>by
  have e:b=it:=by simpa using hb
  subst e
  exact⟨_,st,λv z=>by
   have z':dm _=Data.cell v:=z;cases z'⟩
 keep:=λi h h' st k=>k it Fm _ st
 item:=by
  intro X hP hw hK hc i pins s σ H E I hf st hg;subst hP hw hK;obtain⟨f0,f1,f2,f3,f4,f5⟩:=hf it Fm;have W:=Walks.range (prog:=X.prog) (w:=X.w) (I.ok.hd hc) it lo 1 n;refine W.item i s _ _ hg st λv h' tk hv ei kk=>?_;obtain⟨t,rfl⟩:=hv;have I1:eG X pins σ H { s with heap:=h',toks:=tk }:=I.turned (λb o hb e=>kk b o (by simpa using hb) e) f0 f1 f3 f4 f5;refine⟨_,Fo,EH (s:={ s with heap:=h',toks:=tk }) (n:="range_iterator") ei Fo Fo Fk ⟨.int (lo+i),H,I1,⟨t,?_⟩,⟨Fo,Fo⟩,ei,λb hb=>(hf b hb).1⟩⟩;rw[wG]
 done:=by
  intro X hP hw hK hc i pins s σ H E I hf st hg;subst hP hw hK;obtain⟨f0,f1,f2,f3,f4,f5⟩:=hf it Fm;exact jj (I.ok.hd hc) st (by have:n<=i:=hg;lia) λh' eb=>⟨Fo,I.turned (t':=s.toks) (λb o hb e=>eb b o hb e) f0 f1 f3 f4 f5⟩
 self:=λ_ _ _ _ _ st h=>ji st h
section
variable{X:Cx}{c:Expr}
def SJ{s:Shared}{R:It->Hp->Prop}{E:Value->Shared->Prop}{lo a:Int}{f:Nat}(I:eG X pins σ H s)(i:-(2^62)<=lo)(j:lo<2^62)(k:-(2^62)<=a)(l:a<2^62)
  (q:R (Ja lo (a-lo).toNat) H):wpAny (model X.prog X.w) X.A (bg (.ref s.heap.objs.size)) (Iy X pins σ c R) E { s with heap:=s.heap.push { cls:=.type "range",data:=.fields #[.int lo t,.int a u,.int 1 v] },toks:=f }:=by
 refine ua (IsRange.new ..) (small_one i j k l) ?_;have d:eG X pins σ H { s with heap:=s.heap.push { cls:=.type "range",data:=.fields #[.int lo t,.int a u,.int 1 v] },toks:=f }:=I.kept λb o e=>aJ _ e
 refine⟨(s.heap.push { cls:=.type "range",data:=.fields #[.int lo t,.int a u,.int 1 v] }).objs.size,[(s.heap.push { cls:=.type "range",data:=.fields #[.int lo t,.int a u,.int 1 v] }).objs.size],_,_,H,Fo,
  d.kept (t':=f) λb o e=>aJ _ e,KO _ lo (a-lo).toNat,?_,λb m=>?_,q⟩
 ·have g:lo+((0:Nat):Int)*1=lo:=by simp
  have h:(((a-lo).toNat:Nat):Int)-((0:Nat):Int)=f7 lo a 1:=by rw[rangeSize_one];split<;>lia
  show fh _ _ (lo+((0:Nat):Int)*1) ((((a-lo).toNat:Nat):Int)-((0:Nat):Int)) 1;rw[g,h];exact aV _ Fo
 ·have e:b=(s.heap.push { cls:=.type "range",data:=.fields #[.int lo t,.int a u,.int 1 v] }).objs.size:=by simpa using m
  subst e;exact d.fpOk (aN _) (d.hok.fresh (aN _))
def Mh(b:TA):TI:=λd H R=>b d H λvs a=>∃j:Int,vs=[.int j]/\-(2^62)<=j/\j<2^62/\R (Ja 0 j.toNat) a
def jP(g:Gl X "range")(i:X.mg "range"=none)(f:PA X [a] ta)(hs:cD [a] X.env=[(false,eval a X.env)]:=by rfl):PI X c (.Call (.Name "range" p) [a] [] pos) (Mh ta):=by
 intro b s o H R I h;refine Call_ (tV I g i boot_range (j0 (jR (f pos b s o H _ I h) λw v n=>?_) hs Fo));obtain⟨vs,u,d,l,q1⟩:=n;obtain⟨j,e,q1,k,q⟩:=q1;subst e
 cases l with
 |cons r m=>
  cases m;obtain⟨t,rfl⟩:=r;exact call_range_1 (SJ d Fl Fl q1 k (by simpa using q))
def Ks(l:TI)(g:TG)(k:TS):TS:=λD a H=>l a H λJ h=>∃W:Nat->Nat->St->Hp->Prop,(∃m,W 0 m a h)/\∀i m a H,W i m a H ->
 (J.stop i H/\D.nx a H)\/(J.go i H/\∃N:St->Hp->Prop,(∀d b,N d b->∃f,f<m/\W (i+1) f d b)/\∀x b,J.yld i H x b->g x a b λe j=>k { D with nx:=N,ct:=N,bk:=D.nx } e j)
noncomputable def BT(a:List Addr)(h:Heap):List (Addr×Obj):=a.filterMap λb=>(h.get? b).map λo=>(b,o)
def rY{h:Heap}{b:Addr}(a:b∈fp)(e:h.get? b=some o):(b,o)∈BT fp h:=xX.mpr ⟨b,a,by rw[e];rfl⟩
def P0{h:Heap}{p:Addr×Obj}(f:p∈BT fp h):p.1∈fp/\h.get? p.1=some p.2:=by
 obtain⟨b,d,e⟩:=xX.mp f
 cases q:h.get? b with
 |none=>rw[q]at e;cases e
 |some o=>
  rw[q]at e;have a:(b,o)=p:=c5 e;subst a;exact⟨d,q⟩
def eG.pinned{s:Shared}(I:eG X pins σ H s)(h:∀b∈fp,AD X pins H b)(i:∀b∈fp,∃o,s.heap.get? b=some o/\∀v,o.data≠.cell v):eG X (pins++BT fp s.heap) σ H s:=
 I.pins_of λp j=>(eA.mp j).elim (λz=>I.pin p (eF _ z)) λz=>by
  obtain⟨f,e⟩:=P0 z;obtain⟨g,f1,f2,_⟩:=h p.1 f;obtain⟨o,a,d⟩:=i p.1 f;rw[e]at a;cases a;exact⟨e,g,f1,f2,d⟩
def eG.unpinned(I:eG X (pins++pl) σ H s):eG X pins σ H s:=I.pins_of λp a=>I.pin p (eF _ (iW _ a))
def Zw{iter}(K:PassesOwn (model X.prog X.w) X.A X.env X.xe)(hc:X.calm=true)(hi:PI X c iter wi)(hg:PG X c g)(p:AC X body tb)
  (hs:∀x,j7 iter X.env x=pure x:=by intro _;rfl):PS X (.For c iter body [] pos) (Ks wi g tb):=by
 intro a s σ H D I h;refine wpAny_For (jR (hi a s σ H _ I h) λv s1 h1=>jR h1 λtA s2 h2=>?_) hs;obtain⟨it,F,tn,J,H2,e,I2,T,S,f2,W,⟨m0,w0⟩,turn⟩:=h2;subst e
 -- what stays true of the iterator's objects through the loop
 have q:∀{z:Hp},(∀b∈F,z b=none)->∀b∈F,AD X a z b:=λhn b p=>⟨hn b p,(f2 b p).2⟩;refine codeAny_forLoop_any (λn s'=>∃i t z,eG X a t z s'/\tn i s'.heap/\(∀b∈F,z b=none)/\W i n t z) ?_ m0 ⟨0,σ,H2,I2,S,λb p=>(f2 b p).1,w0⟩;rintro n s3 ⟨i,y,H3,Z,M,G,w3⟩;rcases turn i n y H3 w3 with⟨stop,qn⟩ | ⟨go,N,hN,step⟩
 ·refine u8 K (jR (T.done X Fo Fo Fo hc i a s3 y H3 X.xe Z (q G) M stop) λr s4 E=>?_);obtain⟨Q,I4⟩:=E;subst Q;exact ax ⟨y,H3,I4,qn⟩
 ·refine u8 K (jR (T.item X Fo Fo Fo hc i a s3 y H3 X.xe Z (q G) M go) λr s4 E=>?_);obtain⟨u,Q,h4⟩:=E;subst Q;refine u8 K (jR h4 λ_ s5 E=>?_);obtain⟨x,Y,I5,r5,y5,C,P⟩:=E;have O:=I5.pinned (q P) (T.obj _ _ C);refine u8 K (jR (hg _ s5 y Y x u _ O r5 (step x Y y5)) λ_ s6 E=>?_);obtain⟨U,H6,I6,q6⟩:=E;refine u8 K (jR (p _ s6 U H6 _ I6 q6) λf R B=>?_)
  have again:∀{j:St}{k:Hp},eG X (a++BT F s5.heap) j k R->N j k->∃m,m<n/\∃i t z,eG X a t z R/\tn i R.heap/\(∀b∈F,z b=none)/\W i m t z:=λ{j k} l L=>by
   obtain⟨m',hm,w7⟩:=hN j k L;refine⟨m',hm,i+1,j,k,l.unpinned,T.keep _ _ _ C λb p o e=>(l.pin (b,o) (eF _ (eF _ (rY p e)))).1,λb p=>?_,w7⟩;obtain⟨o,e,d⟩:=T.obj _ _ C b p;exact(l.pin (b,o) (eF _ (eF _ (rY p e)))).2.1
  cases f with
  |next=>obtain⟨j,k,l,L⟩:=B;exact again l L
  |cont=>obtain⟨j,k,l,L⟩:=B;exact again l L
  |brk=>obtain⟨j,k,l,B⟩:=B;exact⟨j,k,l.unpinned,B⟩
  |ret v=>obtain⟨x7,j,k,l,r7,B⟩:=B;exact⟨x7,j,k,l.unpinned,r7,B⟩
end
abbrev R2:=V->V->Hp->VK->Prop
def oU(X:Cx)(f:Value->Value->Sem Value)(r:R2):Prop:=
 ∀pins s σ H(x y:V)(v u:Value)Q,eG X pins σ H s->iJ x v->iJ y u->r x y H Q ->
  wpAny (model X.prog X.w) X.A (f v u) (EP X pins σ Q) X.xe s
def Iu(X:Cx)(f:Value->Sem Value)(r:V->Hp->VK->Prop):Prop:=
 ∀pins s σ H(x:V)(v:Value)Q,eG X pins σ H s->iJ x v->r x H Q ->
  wpAny (model X.prog X.w) X.A (f v) (EP X pins σ Q) X.xe s
def kO(X:Cx)(f:Value)(r:List V->Hp->VK->Prop):Prop:=
 ∀pins s σ H(b:List V)(a:List Value)Q,eG X pins σ H s->gM b a->r b H Q ->
  wpAny (model X.prog X.w) X.A (call f a) (EP X pins σ Q) X.xe s
def OK(X:Cx)(r:V->Hp->(Bool->Hp->Prop)->Prop):Prop:=
 ∀pins s σ H(x:V)(v:Value)(Q:Bool->Hp->Prop),eG X pins σ H s->iJ x v->r x H Q ->
  wpAny (model X.prog X.w) X.A (truthy v) (TP X pins σ Q) X.xe s
def Gb(r:R2)(d e:TE):TE:=λa H Q=>d a H λx b=>e a b λy c=>r x y c Q
def Ni(r:V->Hp->VK->Prop)(b:TE):TE:=λc H Q=>b c H λx a=>r x a Q
def rI(C:Int->Int->Prop)(g:Int->Int->V):R2:=λx y H Q=>∃i j,x=.int i/\y=.int j/\C i j/\Q (g i j) H
def SM(g:Int->Int->V):R2:=λx y H Q=>∃i j,x=.int i/\y=.int j/\Q (g i j) H
def rU(g:Int->V):V->Hp->VK->Prop:=λx H Q=>∃i,x=.int i/\Q (g i) H
section
variable{X:Cx}{a b:Expr}{c d:TE}{pos:Pos}
def Hu(o:PE X a c)(p:PE X b d){R:V->V->Hp->Prop}(I:eG X pins σ H s)
  (h:c σ H λx k=>d σ k λy e=>R x y e) {Q:Value->Shared->Prop} {f:Value->Value->Sem Value}
  (q:∀v u j x y e,eG X pins σ e j->iJ x v->iJ y u->R x y e->wpAny (model X.prog X.w) X.A (f v u) Q X.xe j) :
  wpAny (model X.prog X.w) X.A (eval a X.env) (λv g=>wpAny (model X.prog X.w) X.A (eval b X.env) (λu i=>wpAny (model X.prog X.w) X.A (f v u) Q X.xe i) X.xe g) X.xe s:=by
 refine jR (o pins s σ H _ I h) λv B l=>?_;obtain⟨x,k,m,t,q1⟩:=l;refine jR (p pins B σ k _ m q1) λu j l=>?_;obtain⟨y,e,n,z,r⟩:=l;exact q v u j x y e n t z r
def IL(k:oU X (m4 op) r)(i:PE X a c)(j:PE X b d):PE X (.BinOp a op b pos) (Gb r c d):=by
 intro e s o H Q I h;exact wpAny_BinOp (Hu i j I h λv u n x y f g l m q=>k e n o f x y v u Q g l m q)
def To{r:V->Hp->VK->Prop}(k:Iu X (unaryOp op) r)(j:PE X a c):PE X (.UnaryOp op a pos) (Ni r c):=by
 intro e s f H Q I h;exact UnaryOp_ (jR (j e s f H _ I h) λv m ⟨x,g,i,l,q1⟩=>k e m f g x v Q i l q1)
def Gk{f:Value->Value->Sem Value}{C:Int->Int->Prop}{g:Int->Int->Int}
  (rule:∀(i j:Int)(t u:Tok)(s:Shared)Q E,C i j->Q (.int (g i j) s.toks) { s with toks:=s.toks+1 }->wpAny (model X.prog X.w) X.A (f (.int i t) (.int j u)) Q E s) :
  oU X f (rI C λi j=>.int (g i j)):=by
 intro e s o H x y v u Q I l m h;obtain⟨i,j,rfl,rfl,k,q⟩:=h;obtain⟨t,rfl⟩:=l;obtain⟨n,rfl⟩:=m;exact rule i j t n s _ _ k ⟨.int (g i j),H,I.tok _,⟨_,Fo⟩,q⟩
def Kn{f:Value->Value->Sem Value}{g:Int->Int->Int}
  (rule:∀(i j:Int)(t u:Tok)(s:Shared)Q E,Q (.int (g i j) s.toks) { s with toks:=s.toks+1 }->wpAny (model X.prog X.w) X.A (f (.int i t) (.int j u)) Q E s) :
  oU X f (SM λi j=>.int (g i j)):=by
 intro e s n H x y v u Q I k l h;obtain⟨i,j,rfl,rfl,q⟩:=h;obtain⟨t,rfl⟩:=k;obtain⟨m,rfl⟩:=l;exact rule i j t m s _ _ ⟨.int (g i j),H,I.tok _,⟨_,Fo⟩,q⟩
def Y1{f:Value->Value->Sem Value}{g:Int->Int->Bool}
  (rule:∀(i j:Int)(t u:Tok)s Q E,Q (.bool (g i j)) s->wpAny (model X.prog X.w) X.A (f (.int i t) (.int j u)) Q E s) :
  oU X f (SM λi j=>.bl (g i j)):=by
 intro e s n H x y v u Q I k l h;obtain⟨i,j,rfl,rfl,q⟩:=h;obtain⟨t,rfl⟩:=k;obtain⟨m,rfl⟩:=l;exact rule i j t m s _ _ ⟨.bl (g i j),H,I,Fo,q⟩
def Hl(i j:Int):Prop:=0<j/\j<1073741824
def J7(i j:Int):Prop:=(-(2^64)<i/\i<2^64)\/(-(2^64)<j/\j<2^64)
def J7.ok{i j:Int}(h:J7 i j):IntMulOk i j:=by
 rcases h with⟨e,f⟩ | ⟨e,f⟩
 ·exact .of_left (intBits_le_64 e f)
 ·exact .of_right (intBits_le_64 e f)
def Zh:oU X (m4 .Add) (SM λi j=>.int (i+j)):=Kn λ_ _ _ _ _ _ _ q=>add_int q
def mN:oU X (m4 .Sub) (SM λi j=>.int (i-j)):=Kn λ_ _ _ _ _ _ _ q=>sub_int q
def TN:oU X (m4 .Mult) (rI J7 λi j=>.int (i*j)):=Gk λ_ _ _ _ _ _ _ e q=>mul_int q e.ok
def lL:oU X (m4 .FloorDiv) (rI Hl λi j=>.int (i / j)):=Gk λi j _ _ _ _ _ e q=>by
 have f:(0:Int)<j:=e.1;have g:j<1073741824:=e.2;exact floordiv_int Fl (by rw[G8 i Fl];exact q) (.inl (ek Fl))
def gK:oU X (m4 .Mod) (rI (λ_ j=>0<j) λi j=>.int (i%j)):=Gk λi j _ _ _ _ _ e q=>by
 have f:(0:Int)<j:=e;exact mod_int' Fl (by rw[Int.fmod_eq_emod_of_nonneg i Fl];exact q)
def Ng{f:Value->Sem Value}{g:Int->Int}
  (rule:∀(i:Int)(t:Tok)(s:Shared)Q E,Q (.int (g i) s.toks) { s with toks:=s.toks+1 }->wpAny (model X.prog X.w) X.A (f (.int i t)) Q E s) :
  Iu X f (rU λi=>.int (g i)):=by
 intro e s k H x v Q I j h;obtain⟨i,rfl,q⟩:=h;obtain⟨t,rfl⟩:=j;exact rule i t s _ _ ⟨.int (g i),H,I.tok _,⟨_,Fo⟩,q⟩
def aCo:Iu X (unaryOp .USub) (rU λi=>.int (-i)):=Ng λ_ _ _ _ _ q=>neg_int q
end
noncomputable def Iq:V->V->Bool
|.non,.non=>true | .non,.int _=>true | .int _,.non=>true | .non,.bl _=>true | .bl _,.non=>true | .non,.str _=>true | .str _,.non=>true
|.int _,.int _=>true | .bl _,.bl _=>true | .str _,.str _=>true | .byt _,.byt _=>true
|.int _,.str _=>true | .str _,.int _=>true | .bl _,.str _=>true | .str _,.bl _=>true
|_,_=>false
def Jg:R2:=λx y H Q=>Iq x y=true/\Q (.bl (decide (x=y))) H
def Je:R2:=λx y H Q=>Iq x y=true/\Q (.bl (!decide (x=y))) H
def OA{i j:Int}:decide (V.int i=V.int j)=(i==j):=by
 rw[mU];simp
def V6{i j:Bool}:decide (V.bl i=V.bl j)=(i==j):=by
 rw[mU];simp
def N9:decide (V.str i=V.str j)=(i==j):=by
 rw[mU];simp
def OB{i j:Array UInt8}:decide (V.byt i=V.byt j)=(i.toList==j.toList):=by
 rw[mU];cases i;cases j;simp
section
variable{X:Cx}{a b c:Expr}{g l n:TE}{pos:Pos}
def gX{k d:Bool}(I:eG X pins σ H s)(q:Q (.bl k) H)(e:k=d):EP X pins σ Q (.bool d) s:=by
 subst e;exact⟨.bl k,H,I,Fo,q⟩
def jI:oU X (e7 .Eq) Jg:=by
 intro k s m H x y v u Q I f d h;obtain⟨hs,q⟩:=h
 cases x with
 |non=>
  cases f
  cases y with
  |non=>cases d;exact PySem.EqNone.eq_none_none (gX I q Fm)
  |bl j=>cases d;exact PySem.EqNone.eq_none_bool (gX I q Fm)
  |int j=>obtain⟨e,rfl⟩:=d;exact PySem.EqNone.eq_none_int (gX I q Fm)
  |str j=>obtain⟨e,rfl⟩:=d;exact PySem.EqNone.eq_none_str (gX I q Fm)
  |_=>exact a9 (show false=true from hs) bN
 |bl i=>
  cases f
  cases y with
  |non=>cases d;exact PySem.EqNone.eq_bool_none (gX I q Fm)
  |bl j=>cases d;exact eq_bool (gX I q V6)
  |str j=>obtain⟨e,rfl⟩:=d;exact PySem.EqMixed.eq_bool_str (gX I q Fm)
  |_=>exact a9 (show false=true from hs) bN
 |int i=>
  obtain⟨t,rfl⟩:=f
  cases y with
  |non=>cases d;exact PySem.EqNone.eq_int_none (gX I q Fm)
  |int j=>obtain⟨e,rfl⟩:=d;exact eq_int (gX I q OA)
  |str j=>obtain⟨e,rfl⟩:=d;exact PySem.EqMixed.eq_int_str (gX I q Fm)
  |_=>exact a9 (show false=true from hs) bN
 |str i=>
  obtain⟨t,rfl⟩:=f
  cases y with
  |non=>cases d;exact PySem.EqNone.eq_str_none (gX I q Fm)
  |bl j=>cases d;exact PySem.EqMixed.eq_str_bool (gX I q Fm)
  |int j=>obtain⟨e,rfl⟩:=d;exact PySem.EqMixed.eq_str_int (gX I q Fm)
  |str j=>obtain⟨e,rfl⟩:=d;exact eq_str (gX I q N9)
  |_=>exact a9 (show false=true from hs) bN
 |byt i=>
  obtain⟨t,rfl⟩:=f
  cases y with
  |byt j=>obtain⟨e,rfl⟩:=d;exact PySem.W.eq_bytes (gX I q OB)
  |_=>exact a9 (show false=true from hs) bN
 |_=>cases y<;>exact a9 (show false=true from hs) bN
def BU:oU X (e7 .NotEq) Je:=by
 intro k s m H x y v u Q I f d h;obtain⟨hs,q⟩:=h
 cases x with
 |non=>
  cases f
  cases y with
  |non=>cases d;exact PySem.EqNone.ne_none_none (gX I q Fm)
  |bl j=>cases d;exact PySem.EqNone.ne_none_bool (gX I q Fm)
  |int j=>obtain⟨e,rfl⟩:=d;exact PySem.EqNone.ne_none_int (gX I q Fm)
  |str j=>obtain⟨e,rfl⟩:=d;exact PySem.EqNone.ne_none_str (gX I q Fm)
  |_=>exact a9 (show false=true from hs) bN
 |bl i=>
  cases f
  cases y with
  |non=>cases d;exact PySem.EqNone.ne_bool_none (gX I q Fm)
  |bl j=>cases d;exact ne_bool (gX I q (e8 not V6))
  |str j=>obtain⟨e,rfl⟩:=d;exact PySem.EqMixed.ne_bool_str (gX I q Fm)
  |_=>exact a9 (show false=true from hs) bN
 |int i=>
  obtain⟨t,rfl⟩:=f
  cases y with
  |non=>cases d;exact PySem.EqNone.ne_int_none (gX I q Fm)
  |int j=>obtain⟨e,rfl⟩:=d;exact ne_int (gX I q (e8 not OA))
  |str j=>obtain⟨e,rfl⟩:=d;exact PySem.EqMixed.ne_int_str (gX I q Fm)
  |_=>exact a9 (show false=true from hs) bN
 |str i=>
  obtain⟨t,rfl⟩:=f
  cases y with
  |non=>cases d;exact PySem.EqNone.ne_str_none (gX I q Fm)
  |bl j=>cases d;exact PySem.EqMixed.ne_str_bool (gX I q Fm)
  |int j=>obtain⟨e,rfl⟩:=d;exact PySem.EqMixed.ne_str_int (gX I q Fm)
  |str j=>obtain⟨e,rfl⟩:=d;exact ne_str (gX I q (e8 not N9))
  |_=>exact a9 (show false=true from hs) bN
 |byt i=>
  obtain⟨t,rfl⟩:=f
  cases y with
  |byt j=>obtain⟨e,rfl⟩:=d;exact PySem.W.ne_bytes (gX I q (e8 not OB))
  |_=>exact a9 (show false=true from hs) bN
 |_=>cases y<;>exact a9 (show false=true from hs) bN
def zK:oU X (e7 .Lt) (SM λi j=>.bl (decide (i<j))):=Y1 λ_ _ _ _ _ _ _ q=>lt_int q
def D2:oU X (e7 .LtE) (SM λi j=>.bl (decide (i<=j))):=Y1 λ_ _ _ _ _ _ _ q=>le_int q
def oI:oU X (e7 .Gt) (SM λi j=>.bl (decide (j<i))):=Y1 λ_ _ _ _ _ _ _ q=>gt_int q
def NP:oU X (e7 .GtE) (SM λi j=>.bl (decide (j<=i))):=Y1 λ_ _ _ _ _ _ _ q=>ge_int q
def PV:oU X (e7 .In) (λx y H Q=>∃i j,x=.str i/\y=.str j/\Q (.bl (!(v6 j i 0 j.length 1).isEmpty)) H):=by
 intro d s m H x y v u Q I e f h;obtain⟨i,j,rfl,rfl,q⟩:=h;obtain⟨t,rfl⟩:=e;obtain⟨k,rfl⟩:=f;exact in_str (gX I q Fo)
def Zl:oU X (e7 .Is) (λx y H Q=>y=.non/\Q (.bl (decide (x=.non))) H):=by
 intro d s i H x y v u Q I e f h;obtain⟨rfl,q⟩:=h;cases f;refine is_none_gen (gX I q ?_)
 cases x<;>first
  | (cases e;rfl)
  | (obtain⟨t,rfl⟩:=e;rfl)
def YZ:oU X (e7 .IsNot) (λx y H Q=>y=.non/\Q (.bl (!decide (x=.non))) H):=by
 intro d s i H x y v u Q I e f h;obtain⟨rfl,q⟩:=h;cases f;refine isnot_none_gen (gX I q ?_)
 cases x<;>first
  | (cases e;rfl)
  | (obtain⟨t,rfl⟩:=e;rfl)
def oU.or{f:Value->Value->Sem Value}{r e:R2}(h:oU X f r)(m:oU X f e):oU X f (λx y H Q=>r x y H Q\/e x y H Q):=by
 intro d s k H x y v u Q I i j q;rcases q with q | q
 ·exact h d s k H x y v u Q I i j q
 ·exact m d s k H x y v u Q I i j q
def LC(b:Expr)(h:op≠.In:=by decide)(f:op≠.NotIn:=by decide):z4 op b=false:=by
 have d:(op==CmpOp.In)=false:=by cases op<;>first | rfl | exact a9 Fo h
 have e:(op==CmpOp.NotIn)=false:=by cases op<;>first | rfl | exact a9 Fo f
 cases b<;>simp[z4,d,e]
def YY(m:oU X (e7 op) r)(i:PE X a g)(j:PE X b l)(k:z4 op b=false):PE X (.Compare a [op] [b] pos) (Gb r g l):=by
 intro d s w H Q I h;exact wpAny_Compare1 (Hu i j I h λv u t x y e f o p q=>m d t w e x y v u Q f o p q) k
def Mw(t:TE):TT:=λe H Q=>t e H λx d=>∃k,x=.bl k/\Q k d
def FS(A:oU X (e7 op) r)(q:PE X a g)(t:PE X b l)(w:z4 op b=false):PT X (.Compare a [op] [b] pos) (Mw (Gb r g l)):=by
 intro d s f H Q I h
 refine wpAny_isTrue_Compare1 (jR (q d s f H _ I h) λv J ⟨x,i,m,E,q1⟩=>jR (t d J f i _ m q1) λu K ⟨y,j,o,F,B⟩=>
  jR (A d K f j x y v u _ o E F B) λc s3 ⟨z,H3,p,G,k,e,C⟩=>?_) w
 subst e;cases G;exact w5 ⟨H3,p,C⟩
def R0(r i:R2)(g l n:TE):TE:=λd H Q=>g d H λx e=>l d e λy f=>r x y f λz H3=>∃k,z=.bl k /\
 (if k=true then n d H3 λj h=>i y j h Q else Q (.bl false) H3)
def SR(O:oU X (e7 op) r)(j:oU X (e7 op') r')(K:PE X a g)(L:PE X b l)(M:PE X c n)
  (N:lastMarks [op,op'] [b,c]=false:=by with_unfolding_all rfl):PT X (.Compare a [op,op'] [b,c] pos) (Mw (R0 r r' g l n)):=by
 intro f s i H Q I h
 refine isTrue_chain (jR (K f s i H _ I h) λv s1 ⟨x,q,B,U,q1⟩=>test_link (jR (L f s1 i q _ B q1) λu s2 ⟨y,t,C,p,R⟩=>
  jR (O f s2 i t x y v u _ C U p R) λd s3 ⟨z,H3,m,W,k,e,o⟩=>?_)) N
 subst e;cases W;refine w5 ?_
 cases k with
 |false=>
  obtain⟨k',G,P⟩:=o;cases G;exact ite_ff ⟨H3,m,P⟩
 |true=>
  refine ite_tt (test_last (jR (M f s3 i H3 _ m o) λw' s4 ⟨z',w,E,Y,S⟩=>jR (j f s4 i w y z' u w' _ E p Y S) λd' s5 zq=>?_));obtain⟨z2,A,F,Z,k2,J,T⟩:=zq;subst J;cases Z;exact w5 ⟨A,F,T⟩
def Ht(K:aM)(x:V)(H:Hp)(k:Bool):Prop:=
 match x with
 |.non=>k=false
 |.bl b=>k=b
 |.int i=>k=(i != 0)
 |.str y=>y.length<=bO/\k=((y.length:Int) != 0)
 |.byt y=>y.size<=bO/\k=((y.size:Int) != 0)
 |.ref p=>(∃e,lT K H p e/\k=!e.isEmpty)\/(∃e,rN K H p e/\k=!e.isEmpty)\/∃d,H p=some (.dK d)/\k=!d.isEmpty
 |_=>False
def LP{e:Type}{d:List (e×V)}{vs:List (e×Value)}(r:KV d vs):(!vs.isEmpty)=!d.isEmpty:=by
 cases r<;>rfl
def B2{e:List V}{d:List Value}(r:gM e d):(!d.toArray.isEmpty)=!e.isEmpty:=by
 cases r<;>simp
def yL:(bO:Nat)<2^63:=by rw[w6];decide
def aCq:OK X (λx H Q=>∃k,Ht X.K x H k/\Q k H):=by
 intro E s L H x v Q I u h;obtain⟨k,e,q⟩:=h;have J:=yL;have hs:bO=16777216:=w6
 cases x with
 |non=>
  cases u;have d:k=false:=e;subst d;exact truthy_none ⟨H,I,q⟩
 |bl b=>
  cases u;have d:k=b:=e;subst d;exact w5 ⟨H,I,q⟩
 |int i=>
  obtain⟨t,rfl⟩:=u;have d:k=(i != 0):=e;subst d;exact PySem.P.truthy_int ⟨H,I,q⟩
 |str y=>
  obtain⟨t,rfl⟩:=u;obtain⟨G,d⟩:y.length<=bO/\k=((y.length:Int) != 0):=e;subst d;exact PySem.P.truthy_str Fl ⟨H,I.tok _,q⟩
 |byt y=>
  obtain⟨t,rfl⟩:=u;obtain⟨G,d⟩:y.size<=bO/\k=((y.size:Int) != 0):=e;subst d;exact PySem.W.truthy_bytes Fl ⟨H,I.tok _,q⟩
 |ref p=>
  cases u;have d:(∃o,lT X.K H p o/\k=!o.isEmpty)\/(∃o,rN X.K H p o/\k=!o.isEmpty)\/∃f,H p=some (.dK f)/\k=!f.isEmpty:=e;rcases d with⟨o,z,d⟩ | ⟨o,z,d⟩ | ⟨f,z,d⟩
  ·subst d;obtain⟨A,r,B,C⟩:=I.list z;have j:=r.length;exact wpAny_truthy_list B.isList (by simp only[bI];lia) ⟨H,I.tok _,by rw[B2 r];exact q⟩
  ·subst d;obtain⟨A,r,B,C⟩:=I.tuple z;have j:=r.length;exact truthy_tuple B (by simp only[bI];lia) ⟨H,I.tok _,by rw[B2 r];exact q⟩
  ·subst d;obtain⟨C,F,vs,r,m⟩:f.length<=bO/\(p==m8)=false/\∃vs,KV f vs/\s.heap.DictOf (F4 X.prog X.w) p vs:=I.hok p _ z;have j:f.length=vs.length:=g8 r;exact wpAny_truthy_dict F m Fl ⟨H,I.tok _,by rw[LP r];exact q⟩
 |_=>exact(show False from e).elim
def SQ(o:PE X a g)(p:∀d,isTrue a X.env d=(do let v <- d;uo a.pos;jb [v] (truthy v))) :
  PT X a (λf H Q=>g f H λx i=>∃k,Ht X.K x i k/\Q k i):=by
 intro e s f H Q I h;exact isTrue_plain (jR (o e s f H _ I h) λv r ⟨x,j,m,q,q1⟩=>aCq e r f j x v Q m q q1) (p _)
def K7:oU X (m4 .Add) (λx y H Q=>∃i j,x=.str i/\y=.str j/\i.length+j.length<=bO/\Q (.str (i++j)) H):=by
 intro d s p H x y v u Q I f k h;obtain⟨i,j,rfl,rfl,e,q⟩:=h;obtain⟨t,rfl⟩:=f;obtain⟨m,rfl⟩:=k;exact add_str (λm o=>⟨.str (i++j),H,I.tok _,⟨_,Fo⟩,q⟩) e
def oC(r:gM [x] us):∃u,us=[u]/\iJ x u:=by
 cases r with
 |cons d e=>cases e;exact⟨_,Fo,d⟩
def MZ(r:gM [x,y] us):∃u d,us=[u,d]/\iJ x u/\iJ y d:=by
 cases r with
 |cons e f=>
  cases f with
  |cons h i=>cases i;exact⟨_,_,Fo,e,h⟩
def QU(m:X.calm=true):kO X (.builtin "max") (λf H Q=>∃i j,f=[.int i,.int j]/\Q (.int (if j>i then j else i)) H):=by
 intro e s y H f w Q I r h;obtain⟨i,j,rfl,q⟩:=h;obtain⟨u,x,rfl,⟨t,rfl⟩,⟨p,rfl⟩⟩:=MZ r;refine max_two_ints (I.ok.hd m) λo v k=>⟨_,H,I.kept k,?_,q⟩;by_cases d:j>i
 ·rw[a7 d,a7 d];exact⟨_,Fo⟩
 ·rw[a6 d,a6 d];exact⟨_,Fo⟩
def QT(m:X.calm=true):kO X (.builtin "min") (λf H Q=>∃i j,f=[.int i,.int j]/\Q (.int (if j<i then j else i)) H):=by
 intro e s y H f w Q I r h;obtain⟨i,j,rfl,q⟩:=h;obtain⟨u,x,rfl,⟨t,rfl⟩,⟨p,rfl⟩⟩:=MZ r;refine min_two_ints (I.ok.hd m) λo v k=>⟨_,H,I.kept k,?_,q⟩;by_cases d:j<i
 ·rw[a7 d,a7 d];exact⟨_,Fo⟩
 ·rw[a6 d,a6 d];exact⟨_,Fo⟩
def nW:kO X (.type "int") (λd H Q=>(∃i,d=[.int i]/\Q (.int i) H)\/∃k,d=[.bl k]/\Q (.int (if k then 1 else 0)) H):=by
 intro e s m H d j Q I r h;rcases h with⟨i,rfl,q⟩ | ⟨k,rfl,q⟩
 ·obtain⟨u,rfl,t,rfl⟩:=oC r;exact call_int_int ⟨.int i,H,I,⟨_,Fo⟩,q⟩
 ·obtain⟨u,rfl,f⟩:=oC r;cases f;exact call_int_bool ⟨.int (if k then 1 else 0),H,I.tok _,⟨_,Fo⟩,q⟩
end
structure MK(h:Heap)(x dx C:Addr)(mA:Str->Option Value):Prop where
 obj:h.get? x=some (jQ C dx)
 ns:h.Ns1 dx mA
 ne:dx≠x
def P5{h:Heap}{c:Addr}{f:Str->Option Value}(n:h.Ns1 c f):∃g,h.get? c=some g/\∀name,uE name g=some (f name):=by
 obtain⟨o,d,m,k,hd,hk,_,j⟩:=n;refine⟨o,k,λname=>?_⟩;have e:=j name;unfold nsFind findBy at e;rw[<- Array.find?_toList]at e;unfold uE;rw[hd];dsimp only;split
 ·rename_i y q;rw[q]at e;exact e8 some e
 ·rename_i q;rw[q]at e
  have a:d.toList.any (·.refKey)=false:=by
   rw[WW];intro y l;obtain⟨z,t,b⟩:=hk y (Array.mem_toList_iff.mp l);simp[DictEntry.refKey,b]
  have i:¬d.toList.any (·.refKey)=true:=by rw[a];exact bN
  rw[a6 i];exact e8 some e
def MK.look{h}{x b C:Addr}{c:Str->Option Value}(I:MK h x b C c):∃a,lH h x (jQ C b) C (some a)/\∀name,uE name a=some (c name):=
 let ⟨a,ho,hl⟩:=P5 I.ns
 ⟨a,⟨I.obj,Fo,Fo,ho⟩,hl⟩
section
variable{prog:cM}{w:c7}{A:d1}{E:Value->Shared->Prop}{s:Shared}{K:aM}{x c C f:Addr}{e:Str->Option Value}{name:Str}{v:Value}
def ZW{a:Bool}{Q:Value->Shared->Prop}(X:K.In s.heap)(I:MK s.heap x c C e)(g:rH K C name=true)(i:xR K C=true)
  (d:fY K (.ref C) name=some none) (k:e name=some v) (b:Q6 v=true) (h:Q v { s with toks:=s.toks+1 }) :
  wpAny (model prog w) A (getAttr (.ref x) name a) Q E s:=by
 obtain⟨l,J,j⟩:=I.look;exact PySem.W.get_value X J (vB g).1 (PySem.W.findObj_own i d Fo (by rw[j,k])) b h
def VL{Q:Value×List Value->Shared->Prop}(X:K.In s.heap)(I:MK s.heap x c C e)(a:rH K C name=true)
  (b:fY K (.ref C) name=some (some (.ref f))) (g:GY K (.ref f)=true) (i:e name=none) (h:Q (.ref f,[.ref x]) s) :
  wpAny (model prog w) A (getMethod (.ref x) name pl) Q E s:=by
 obtain⟨j,J,d⟩:=I.look;exact PySem.W.method_fn X J (vB a).1 (vB a).2 b (beq_iff_eq.mp g) (by show(uE name j).map (·.isSome)=some false;rw[d,i];rfl) h
def YB{ns:List Str}{Q:Unit->Shared->Prop}(X:K.In s.heap)(I:MK s.heap x c C e)
  (hs:fY K (.ref C) "__setattr__"=some (some (.builtin "object.__setattr__"))) (t:OL K C=true) (z:AE K C name=some none) (q:xR K C=true)
  (hw:fv e ns) (u:ns.length<=bO)
  (h:∀i,MK i x c C (λy=>if y=name then some v else e y)->cU c s.heap i->Q () { s with heap:=i,toks:=s.toks+2 }) :
  wpAny (model prog w) A (setAttr (.ref x) name v) Q E s:=by
 obtain⟨H,J,F⟩:=I.look;refine PySem.W.set_plain X J hs (PySem.W.osa_open (s:={ s with toks:=s.toks+1 }) (r:=none) X J t z λb=>?_);obtain⟨cd,p,k⟩:=PySem.W.any_some q;have B:s.heap.get? x=some ⟨.ref C,some c,.plain,#[]⟩:=I.obj;refine aB (aG (aB (aB (wpAny_loadPart B (aB (PySem.W.Looks.here (s:={ s with toks:=s.toks+1 }) (PySem.W.looks_clsIn X p) ?_))))));rw[k];refine aG (a:=some c) (aB (aG (aB ?_)));refine wpAny_nsSet1 (s:={ s with toks:=s.toks+1 }) I.ns λi d g=>?_;obtain⟨G,o,n,m,l,j⟩:=d.count (PySem.Within.cons name v hw);refine aB (wpAny_lookBehind m (by rw[l];exact pastItsLine_dict (bJ j (by rw[dB];lia))) ?_);exact aG (h _ ⟨(g.2 _ (l6 I.ne)).trans I.obj,d,I.ne⟩ g)
def UO{R:Result->Shared->Prop}(X:K.In s.heap)(i:RF K C=true)
  (b:fY K (.ref C) "__init__"=some (some (.ref f))) (a:PySem.W.typeIn K (.ref f)=some (.type "function"))
  (h:z8 (model prog w) (A.under (.builtin "type.__call__" ⟨.ref C::vs,kw⟩)) (.call (.ref f) ⟨.ref (s.heap.objs.size+1)::vs,kw⟩) (PySem.W.InitBack (s.heap.objs.size+1) R)
   { s with heap:=(s.heap.push iD).push (jQ C s.heap.objs.size) }) :
  z8 (model prog w) A (.call (.ref C) ⟨vs,kw⟩) R s:=by
 obtain⟨j,g,d,t,os⟩:=s;exact PySem.W.make_core (PySem.W.makes_of X i) (oK X b) (λself=>PySem.W.bind_fn X self a) (.inl Fo) h
end
noncomputable def qF(f:Str)(v:V):List (Str×V)->List (Str×V)
|[]=>[(f,v)]
| (g,x)::r=>if g=f then(g,v)::r else(g,x)::qF f v r
theorem zM(f g:Str)(v:V):∀fs:List (Str×V),(qF f v fs).lookup g=if g=f then some v else fs.lookup g
|[]=>by
 show nI g [(f,v)]=_;by_cases h:g=f
 ·have a:(g==f)=true:=beq_iff_eq.mpr h;simp only[nI,a,a7 h]
 ·have a:(g==f)=false:=beq_eq_false_iff_ne.mpr h;simp only[nI,a,a6 h]
| (k,x)::r=>by
 have b:=zM f g v r;rw[show qF f v ((k,x)::r)=(if k=f then(k,v)::r else(k,x)::qF f v r)from rfl];by_cases hk:k=f
 ·rw[a7 hk];by_cases h:g=k
  ·have a:(g==k)=true:=beq_iff_eq.mpr h;simp only[nI,a,a7 (h.trans hk)]
  ·have a:(g==k)=false:=beq_eq_false_iff_ne.mpr h;simp only[nI,a,a6 (λe:g=f=>h (e.trans hk.symm))]
 ·rw[a6 hk];by_cases h:g=k
  ·have a:(g==k)=true:=beq_iff_eq.mpr h;simp only[nI,a,a6 (λe:g=f=>hk (h.symm.trans e))]
  ·have a:(g==k)=false:=beq_eq_false_iff_ne.mpr h;simp only[nI,a];exact b
theorem yM(f:Str)(v:V):∀fs:List (Str×V),f∈(qF f v fs).map (·.1)/\∀g,g∈fs.map (·.1)->g∈(qF f v fs).map (·.1)
|[]=>⟨by simp[qF],λg h=>by simp at h⟩
| (k,x)::r=>by
 obtain⟨a,b⟩:=yM f v r;rw[show qF f v ((k,x)::r)=(if k=f then(k,v)::r else(k,x)::qF f v r)from rfl];by_cases hk:k=f
 ·rw[a7 hk];subst hk;exact⟨Fm,λg h=>by simpa using h⟩
 ·rw[a6 hk];refine⟨?_,λg h=>?_⟩
  ·rw[bE];exact aO _ a
  ·rw[bE]at h |-
   rcases aY.mp h with e | e
   ·exact aY.mpr (.inl e)
   ·exact aO _ (b g e)
theorem zO(f:Str)(v:V):∀fs:List (Str×V),(qF f v fs).length<=fs.length+1
|[]=>by simp[qF]
| (k,x)::r=>by
 have a:=zO f v r;rw[show qF f v ((k,x)::r)=(if k=f then(k,v)::r else(k,x)::qF f v r)from rfl];by_cases hk:k=f
 ·rw[a7 hk,dB,dB];lia
 ·rw[a6 hk,dB,dB];lia
def DH.some_of(r:DH (some v) o):∃u,o=some u/\iJ v u:=by
 cases o with
 |none=>exact(show False from r).elim
 |some u=>exact⟨u,Fo,r⟩
def DH.none_of(r:DH none o):o=none:=by
 cases o with
 |none=>rfl
 |some u=>exact(show False from r).elim
def QH(r:iJ v u):Q6 u=true:=by
 cases v with
 |non=>cases (show u=d9 from r);rfl
 |bl b=>cases (show u=u6 b from r);rfl
 |int i=>obtain⟨t,e⟩:=(show∃t,u=i4 i t from r);cases e;rfl
 |str x=>obtain⟨t,e⟩:=(show∃t,u=fi x t from r);cases e;rfl
 |byt b=>obtain⟨t,e⟩:=(show∃t,u=Value.bytes b t from r);cases e;rfl
 |flt b=>obtain⟨t,e⟩:=(show∃t,u=gi b t from r);cases e;rfl
 |ref a=>cases (show u=c9 a from r);rfl
 |ty n=>cases (show u=j9 n from r);rfl
section
variable{P:cM}{w:c7}{H:Hp}{h:Heap}{a C b:Addr}{fs:List (Str×V)}
def A0(hok:vI P w H h)(e:H a=some (.ins C b fs)):∃c,MK h a b C c/\(∀f,DH (fs.lookup f) (c f))/\fv c (fs.map (·.1))/\fs.length<=1000/\H b=some (.own a):=by
 obtain⟨d,z,ne,ob,c,n,r,q⟩:=(show jY P w H h a (.ins C b fs)from hok a _ e);exact⟨c,⟨ob,n,ne⟩,r,q,z,d⟩
end
structure RE(K:aM)(C:Addr):Prop where
 pg:rH K C Str.empty=true
 hd:xR K C=true
 po:OL K C=true
 sa:fY K (.ref C) "__setattr__"=some (some (.builtin "object.__setattr__"))
def RE.get{K}{C:Addr}(c:RE K C)(f:Str):rH K C f=true:=c.pg
def nE(K:aM)(C:Addr)(f:Str):Prop:=fY K (.ref C) f=some none
def nE.taker{K}{C:Addr}(n:nE K C f):AE K C f=some none:=by
 unfold AE;rw[show fY K (.ref C) f=some none from n]
 rfl
structure aAp(K:aM)(C:Addr)(m:Str)(f:Addr):Prop where
 at_:fY K (.ref C) m=some (some (.ref f))
 fn:GY K (.ref f)=true
 kp:iC K (.ref f)=true
section
variable{X:Cx}{d:List (Addr×Obj)}{i:St}{H:Hp}{s:Shared}{a C j:Addr}{fs:List (Str×V)}{f:Str}{v:V}{A:d1}{E:Value->Shared->Prop}
def LT{b:Bool}{Q:Value->Shared->Prop}(I:eG X d i H s)(e:H a=some (.ins C j fs))(c:RE X.K C)(n:nE X.K C f)(l:fs.lookup f=some v)
  (h:∀u k,eG X d i H k->iJ v u->Q u k):wpAny (model X.prog X.w) A (getAttr (.ref a) f b) Q E s:=by
 obtain⟨p,O,r,_,_,_⟩:=A0 I.hok e;obtain⟨u,m,g⟩:=DH.some_of (v:=v) (o:=p f) (by rw[<- l];exact r f);exact ZW I.kIn O (c.get f) c.hd n m (QH g) (h u _ (I.tok _) g)
def LS{g:Addr}{Q:Value×List Value->Shared->Prop}(I:eG X d i H s)(e:H a=some (.ins C j fs))(c:RE X.K C)(k:aAp X.K C m g)(l:fs.lookup m=none)
  (h:Q (.ref g,[.ref a]) s):wpAny (model X.prog X.w) A (getMethod (.ref a) m pl) Q E s:=by
 obtain⟨n,O,r,_,_,_⟩:=A0 I.hok e;have b:n m=none:=DH.none_of (by rw[<- l];exact r m);exact VL I.kIn O (c.get m) k.at_ k.fn b h
def KT{Q:Unit->Shared->Prop}(I:eG X d i H s)(e:H a=some (.ins C j fs))(c:RE X.K C)(n:nE X.K C f)(N:fs.length<1000)(L:iJ y u)
  (h:∀p,eG X d i (gG H a (.ins C j (qF f y fs))) p->Q () p):wpAny (model X.prog X.w) A (setAttr (.ref a) f u) Q E s:=by
 obtain⟨m,O,r,t,_,l⟩:=A0 I.hok e;have J:(fs.map (·.1)).length<=bO:=by rw[aC,w6];lia
 refine YB I.kIn O c.sa c.po n.taker c.hd t J λB k M=>h _ ?_;have hd:∃o,B.get? j=some o:=let ⟨o,_,_,e',_⟩:=k.ns;⟨o,e'⟩
 refine I.write (x:=a) (e:=j) (by rw[e];exact i8) (.inr l) (λb q F z=>(M.2 b F).trans z) hd ?_;refine⟨by rw[cN O.ne];exact l,?_,O.ne,k.obj,_,k.ns,λg=>?_,λg G=>?_⟩
 ·have:=zO f y fs;lia
 ·show DH ((qF f y fs).lookup g) (if g=f then some u else m g);rw[zM];by_cases q:g=f
  ·rw[a7 q,a7 q];exact L
  ·rw[a6 q,a6 q];exact r g
 ·by_cases q:g=f
  ·rw[q];exact(yM f y fs).1
  ·refine(yM f y fs).2 g (t g λz=>G ?_);show(if g=f then some u else m g)=none;rw[a6 q];exact z
def eG.made(I:eG X d i H s):eG X d i (gG (gG H s.heap.objs.size (.own (s.heap.objs.size+1))) (s.heap.objs.size+1) (.ins C s.heap.objs.size []))
  { s with heap:=(s.heap.push iD).push (jQ C s.heap.objs.size) }:=by
 have c:(s.heap.push iD).get? s.heap.objs.size=some iD:=aV s.heap Fo
 have h:((s.heap.push iD).push (jQ C s.heap.objs.size)).get? (s.heap.objs.size+1)=some (jQ C s.heap.objs.size):=by
  have:=aV (s.heap.push iD) (o:=jQ C s.heap.objs.size) Fo
  rwa [eV]at this
 have k:(s.heap.push iD).Ns s.heap.objs.size (λ_=>none):=⟨iD,#[],_,c,Fo,(λe l=>a9 l Fm),λ_=>rfl⟩;have g:=I.laid (a:=s.heap.objs.size) (o:=.own (s.heap.objs.size+1)) (h':=s.heap.push iD) (t':=s.toks) (λb u q=>aJ _ q) (aN _) ⟨_,c⟩;refine g.laid (a:=s.heap.objs.size+1) (o:=.ins C s.heap.objs.size []) (t':=s.toks) (λb u q=>aJ _ q) (nX (eV _ _)) ?_;have ne:s.heap.objs.size≠s.heap.objs.size+1:=bS (fA _);refine⟨by rw[cN ne,cW],cI _,ne,h,λ_=>none,(Heap.Ns1.of_empty k).at λo q=>aJ _ q,λ_=>i8,λy m=>a9 Fo m⟩
def aAi{f s}{Q:Value->Shared->Prop}(c:v4 e f env (eval e env)=eval e env)
  (h:wpAny (model prog w) A (eval e env) (λo b=>wpAny (model prog w) A (getAttr o f true) Q E b) E s):wpAny (model prog w) A (eval (.Attribute e f pos) env) Q E s:=
 Attribute_any_ h (by rw[arm_eval_Attribute,c])
end
def Pl(K:aM)(d:TE)(f:Str):TE:=λe H Q=>d e H λx b=>∃a C c fs v,x=.ref a/\b a=some (.ins C c fs)/\RE K C/\nE K C f/\fs.lookup f=some v/\Q v b
def Pt(K:aM)(g tv:TE)(f:Str):TS:=λD b H=>tv b H λy e=>g b e λx c=>∃a C d fs,x=.ref a/\c a=some (.ins C d fs)/\RE K C/\nE K C f/\fs.length<1000 /\
 D.nx b (gG c a (.ins C d (qF f y fs)))
section
variable{X:Cx}{o e b:Expr}{f:Str}{pos d:Pos}{g tv:TE}
def Zo(t:PE X e g)(r:v4 e f X.env (eval e X.env)=eval e X.env):PE X (.Attribute e f pos) (Pl X.K g f):=by
 intro i s A H Q I h;refine aAi r (jR (t i s A H _ I h) λu E z=>?_);obtain⟨x,j,k,y,a,C,B,fs,v,ex,p,c,n,l,q⟩:=z;subst ex;obtain rfl:u=c9 a:=y;exact LT k p c n l λG F m w=>⟨v,j,m,w,q⟩
def Zv(v:PE X o g)(w:PE X b tv)(hs:jH b (some (.Attribute o f d)) pos.line X.env=pure false):PS X (.Assign [.Attribute o f d] b pos) (Pt X.K g tv f):=by
 intro i s j H D I h;refine plainObj_wpAny_Assign_Attribute (jR (w i s j H _ I h) λu F ⟨y,k,m,E,q⟩=>jR (v i F j k _ m q) λz M G=>?_) hs;obtain⟨x,J,p,B,a,C,L,fs,ex,t,c,n,l,A⟩:=G;subst ex;obtain rfl:z=c9 a:=B;exact KT p t c n l E λs3 r=>⟨j,_,r,A⟩
end
section
variable{X:Cx}{d:List (Addr×Obj)}{f:St}{H:Hp}{s:Shared}{A:d1}{E:Value->Shared->Prop}{Q:Value->Shared->Prop}{c:Value}{b:Bool}
inductive AB(K:aM)(H:Hp):V->Value->Prop where
|non:AB K H .non (.type "NoneType")
|bl (x:Bool):AB K H (.bl x) (.type "bool")
|int (i:Int):AB K H (.int i) (.type "int")
|str (x:Str):AB K H (.str x) (.type "str")
|flt (x:UInt64):AB K H (.flt x) (.type "float")
|lst {a:Addr} {xs:List V} (e:H a=some (.lst xs)):AB K H (.ref a) (.type "list")
|frz {a:Addr} {o:Obj} {xs:List V} (e:H a=some (.frz o (.lst xs))):AB K H (.ref a) (.type "list")
|tup {a:Addr} {xs:List V} (e:H a=some (.tup xs)):AB K H (.ref a) (.type "tuple")
|dK {a:Addr} {kvs:List (A6×V)} (e:H a=some (.dK kvs)):AB K H (.ref a) (.type "dict")
|dT {a:Addr} {kvs:List (List A6×V)} (e:H a=some (.dT kvs)):AB K H (.ref a) (.type "dict")
|ins {a C dx:Addr} {fs:List (Str×V)} (e:H a=some (.ins C dx fs)) (cl:RE K C) (ha:fY K (.ref C) "__class__"=some (some (.builtin "object.__class__")))
  (hn:PySem.W.specialIn K (.builtin "object.__class__") "__get__"=some (some (.builtin "getset_descriptor.__get__"))) (xi:PySem.W.takesIn K (.builtin "object.__class__")=some true)
  (hm:DL K C (.type "object")=some true):AB K H (.ref a) (.ref C)
def uS(I:eG X d f H s)(g:iJ x u)(ty:AB X.K H x t)(e:lG X.K t c=some b)(h:∀v,Q (.bool b) { s with toks:=v }) :
  wpAny (model X.prog X.w) A (call (.builtin "isinstance") [u,c]) Q E s:=by
 cases ty with
 |non=>cases (show u=d9 from g);exact fG PySem.W.kitx_none I.kIn i8 e (λz=>nomatch z) h
 |bl y=>cases (show u=u6 y from g);exact fG PySem.W.kitx_bool I.kIn i8 e (λz=>nomatch z) h
 |int i=>obtain⟨t,q⟩:=(show∃t,u=i4 i t from g);cases q;exact fG PySem.W.kitx_int I.kIn i8 e (λz=>nomatch z) h
 |str y=>obtain⟨t,q⟩:=(show∃t,u=fi y t from g);cases q;exact fG PySem.W.kitx_str I.kIn i8 e (λz=>nomatch z) h
 |flt y=>obtain⟨t,q⟩:=(show∃t,u=gi y t from g);cases q;exact fG PySem.W.kitx_float I.kIn i8 e (λz=>nomatch z) h
 |@lst a k ea=>
  cases (show u=c9 a from g);obtain⟨_,_,n,_,j⟩:=(show jY X.prog X.w H s.heap a (.lst k)from I.hok a _ ea);exact fG qB I.kIn ⟨_,j,Fo⟩ e (λz=>nomatch z) h
 |@frz a ob k ea=>
  cases (show u=c9 a from g);obtain⟨_,_,_,n,_,j⟩:=(show jY X.prog X.w H s.heap a (.frz ob (.lst k))from I.hok a _ ea);exact fG qB I.kIn ⟨_,j,Fo⟩ e (λz=>nomatch z) h
 |@tup a k ea=>
  cases (show u=c9 a from g);obtain⟨_,_,_,p⟩:=(show jY X.prog X.w H s.heap a (.tup k)from I.hok a _ ea);obtain⟨o,j,l,_⟩:=p;exact fG MQ I.kIn ⟨o,j,l⟩ e (λz=>nomatch z) h
 |@dK a kvs ea=>
  cases (show u=c9 a from g);obtain⟨_,_,vs,_,p⟩:=(show jY X.prog X.w H s.heap a (.dK kvs)from I.hok a _ ea);obtain⟨o,r,m,j,l,_⟩:=p;exact fG OM I.kIn ⟨o,j,l.1⟩ e (λz=>nomatch z) h
 |@dT a kvs ea=>
  cases (show u=c9 a from g);obtain⟨_,_,k,_,o,r,m,j,l,_⟩:=(show jY X.prog X.w H s.heap a (.dT kvs)from I.hok a _ ea);exact fG OM I.kIn ⟨o,j,l.1⟩ e (λz=>nomatch z) h
 |@ins a C dx fs ea cl ha hn xi hm=>
  cases (show u=c9 a from g);obtain⟨B,O,_⟩:=A0 I.hok ea;obtain⟨F,J,_⟩:=O.look;exact fG (PySem.W.kitx_own (cl.get _) cl.hd ha hn xi hm) I.kIn J e (λz=>nomatch z) h
end
structure Room(k:Nat)(A:d1):Prop where
 hd:A.handled=none
 dp:A.depth+3*k+5<cr
 un:A.units+16*k+200<u7
 gd:A.guards=some []
def Room.mono{j k:Nat}(r:Room k A)(h:j<=k):Room j A:=⟨r.hd,by have:=r.dp;lia,by have:=r.un;lia,r.gd⟩
theorem Room.deeper{k:Nat}{A:d1}(r:Room (k+1) A)(env:Env):Room k (A.deeper env):=
 ⟨r.hd,by have:=r.dp;show A.depth+1+3*k+5<_;lia,by have:=r.un;show A.units+3+16*k+200<_;lia,r.gd⟩
theorem Room.in1{k:Nat}{A:d1}(r:Room (k+1) A):Room k A.in1:=
 ⟨r.hd,by have:=r.dp;show A.depth+3*k+5<_;lia,by have:=r.un;show A.units+1+16*k+200<_;lia,r.gd⟩
def LI{A:d1}{C:Addr}:(A.under (.builtin "type.__call__" ⟨.ref C::us,kw⟩)).depth=A.depth+1:=by
 first | rfl | simp[cj,Code.weight,Code.isCreation,Code.isGuard,Code.isCaller,Code.frames,ge,guardIds]
def LH{A:d1}{C:Addr}:(A.under (.builtin "type.__call__" ⟨.ref C::us,kw⟩)).units=A.units+1:=by
 first | rfl | simp[cj,Code.cUnits,Code.frames,ge]
def Room.make{k:Nat}{A:d1}(r:Room (k+1) A)(C:Addr)(b:List Value)(a:List (Str×Value)):Room k (A.under (.builtin "type.__call__" ⟨.ref C::b,a⟩)):=
 ⟨r.hd,by have:=r.dp;rw[LI];lia,by have:=r.un;rw[LH];lia,by first | exact r.gd | (simp[cj,Code.isGuard,guardIds];exact r.gd)⟩
theorem Room.depth{k:Nat}{A:d1}(r:Room k A):A.depth<cr:=by have:=r.dp;lia
def BD:TA:=λ_ H Q=>Q [] H
def sL(d:TE)(tr:TA):TA:=λa H Q=>d a H λx b=>tr a b λe c=>Q (x::e) c
section
variable{X:Cx}{e:Expr}{a:List Expr}{c:TE}{t:TA}{pos:Pos}
def lE:PA X [] BD:=λ_ _ _ _ H Q I h=>Calls.spliced_nil ⟨[],H,I,.nil,h⟩
def jC(k:PE X e c)(l:PA X a t)(hs:cD (e::a) X.env=(false,eval e X.env)::cD a X.env:=by rfl):PA X (e::a) (sL c t):=by
 intro pos b s d H Q I h;rw[hs];show wpAny _ _ (spliced ((false,eval e X.env)::l0 pos (cD a X.env))) _ _ s;refine Calls.spliced_cons (jR (k b s d H _ I h) λu p r=>?_);obtain⟨x,f,i,n,q1⟩:=r;exact jR (l pos b p d f _ i q1) λw v ⟨q,g,j,o,m⟩=>⟨x::q,g,j,.cons n o,m⟩
def Pr(t:TA):TE:=λf H Q=>t f H λd b=>d.length<=bO/\∀p,b p=none->Q (.ref p) (gG b p (.tup d))
def Pn(t:TA):TE:=λf H Q=>t f H λd b=>d.length<=bO/\∀p,b p=none->Q (.ref p) (gG b p (.lst d))
def S5(h:PA X a t):PE X (.Tuple a x1 pos) (Pr t):=by
 intro d s n H Q I k;refine wpAny_Tuple_spliced (jR (h pos d s n H _ I k) λl f ⟨m,g,i,r,z,q⟩=>⟨by rw[<- r.length];exact z,?_⟩);have j:g f.heap.objs.size=none:=i.hok.fresh (aN _);refine⟨.ref f.heap.objs.size,gG g f.heap.objs.size (.tup m),i.laid (t':=f.toks) (λb u e=>aJ _ e) (aN _) ?_,Fo,q _ j⟩;exact⟨z,l,r,⟨_,aV _ Fo,Fo,_,Fo,Fo⟩⟩
def K5(h:PA X a t):PE X (.List a pos) (Pn t):=by
 intro d s n H Q I k;refine wpAny_List_spliced (jR (h pos d s n H _ I k) λl f ⟨m,g,i,r,z,q⟩=>⟨by rw[<- r.length];exact z,?_⟩);have j:g f.heap.objs.size=none:=i.hok.fresh (aN _);refine⟨.ref f.heap.objs.size,gG g f.heap.objs.size (.lst m),i.laid (t':=f.toks) (λb u e=>aJ _ e) (aN _) ?_,Fo,q _ j⟩;exact⟨z,l,0,r,aV _ Fo⟩
end
abbrev Sp:=List V->Hp->VK->XK->Prop
abbrev W6:=List Env->Hp->Shared->XK->Value->Shared->Prop
structure MN(P:cM)(w:c7)(K:aM)(mg:Str->Option Value)(base:Heap)(A:d1)(outer:List Env)(s:Shared)(H:Hp):Prop where
 frames:A.frames=some outer
 mod:Mod K mg base
 bs:∀b o,base.get? b=some o->s.heap.get? b=some o/\H b=none
 bsz:base.objs.size<=s.heap.objs.size
 funs:s.heap.FunFrames base outer
 frf:∀b∈JM outer,H b=none
 hok:vI P w H s.heap
 bare:bh s.gens
 tab:Tb H
def CE(outer:List Env)(P:cM)(w:c7)(H:Hp)(s:Shared)(Q:VK)(u:Value)(a:Shared):Prop:=
 ∃v b,a.os=s.os/\bh a.gens/\Un (JM outer) [] H b s.heap a.heap/\vI P w b a.heap/\iJ v u/\Q v b
def CR(b:W6)(outer:List Env)(P:cM)(w:c7)(H:Hp)(s:Shared)(Q:VK)(E:XK)(r:Result)(a:Shared):Prop:=
 match r with
 |.ok (.ret u)=>CE outer P w H s Q u a
 |.ok _=>False
 |.error e=>b outer H s E e a
structure dU(P:cM)(w:c7)(K:aM)(mg:Str->Option Value)(base:Heap)(CX:W6)(k:Nat)(f:Addr)(fd:iV)(ps:List Str)(sp:Sp):Prop where
 len:∀vs H Q E,sp vs H Q E->vs.length=ps.length
 run:∀A outer s H(args:Args)(us:List Value)(vs:List V)Q E,Room k A->MN P w K mg base A outer s H->BindsTo s fd args (ps.zip us)->gM vs us->sp vs H Q E ->
  z8 (model P w) A (.call (.ref f) args) (CR CX outer P w H s Q E) s
def dU.imp{K}{mg:Str->Option Value}{k:Nat}{f:Addr}{c b:Sp}(F:dU P w K mg base CX k f fd ps c)
  (h:∀vs H Q E,b vs H Q E->c vs H Q E):dU P w K mg base CX k f fd ps b:=
 ⟨λvs H Q E q=>F.len vs H Q E (h _ _ _ _ q),λA outer s H a j vs Q E g e d i hs=>F.run A outer s H a j vs Q E g e d i (h _ _ _ _ hs)⟩
def MN.make{K}{mg:Str->Option Value}{A:d1}(e:MN P w K mg base A outer s H)(C:Addr)(b:List Value)(a:List (Str×Value)) :
  MN P w K mg base (A.under (.builtin "type.__call__" ⟨.ref C::b,a⟩)) outer s H:=⟨by first | exact e.frames | (simpa[cj,Code.envs,ge,pushEnvs]using e.frames),e.mod,e.bs,e.bsz,e.funs,e.frf,e.hok,e.bare,e.tab⟩
section
variable{X:Cx}{a:List (Addr×Obj)}{f:St}{H:Hp}{s c:Shared}
def eG.env0(I:eG X a f H s):MN X.prog X.w X.K X.mg X.base X.A X.stack s H:=
 ⟨I.ok.frames,I.ok.mod,I.bs,bJ I.ok.bsz I.sz,I.stack,I.stkFree,I.hok,I.bare,λP e=>let ⟨ps,h⟩:=I.ok.tab P e;let ⟨m,h'⟩:=I.base.tbls P ps h;⟨_,h'⟩⟩
def eG.after(I:eG X a f H s)(h:CE X.stack X.prog X.w H s Q u c):EP X a f Q u c:=by
 obtain⟨v,i,os,bare,un,hok,r,q⟩:=h;obtain⟨j,g,d,t,e⟩:=c;obtain rfl:e=s.os:=os;exact⟨v,i,I.call (h':=j) (g':=g) (d':=d) (t':=t) (ch:=[]) un hok bare (λb z=>a9 z Fm),r,q⟩
end
def M4(c:Sp)(a:List V)(E:XK)(t:TA):TE:=λd H Q=>t d H λvs b=>c (vs++a) b Q E
def Mu(C:Addr)(m:Str)(g:Sp)(b:List V)(E:XK)(h:TE)(t:TA):TE:=λd H Q=>h d H λx c=>∃a f fs,x=.ref a/\c a=some (.ins C f fs)/\fs.lookup m=none /\
 t d c λvs e=>g (x::(vs++b)) e Q E
def Mt(C:Addr)(e:Sp)(c:List V)(E:XK)(t:TA):TE:=λf H Q=>t f H λvs b=>∀x a,b x=none->b a=none->a≠x ->
 e (.ref x::(vs++c)) (gG (gG b a (.own x)) x (.ins C a [])) (λv d=>v=.non/\Q (.ref x) d) E
def sQ(K:aM)(d:iV)(c:List Str)(b:List Value):Prop:=
 ∀(s:Shared)(a:List Value),K.In s.heap->(a++b).length=c.length->BindsTo s d ⟨a,[]⟩ (c.zip (a++b))
def sQ.all{K}{b:List Str}(h:∀a:List Value,a.length=b.length->bindArgs fd ⟨a,[]⟩=pure (b.zip a)):sQ K fd b []:=λs a _ c=>by
 rw[fR]at c |-
 exact .of_eq (h a c)
def yY(a:W6)(X:Cx)(E:XK):Prop:=∀pins σ H s(e:Value)s',eG X pins σ H s->a X.stack H s E e s'->X.xe e s'
section
variable{X:Cx}{n:W6}{k:Nat}{f C:Addr}{y:iV}{i:List Str}{z:Sp}{b:List V}{g:List Value}{E:XK}{x m:Str}{p pos j:Pos}{e o:Expr}{d:List Expr}{B:TE}{t:TA}
def SG(F:dU X.prog X.w X.K X.mg X.base n k f y i z)(v:Room k X.A)(l:sQ X.K y i g)(hd:gM b g)(G:yY n X E)
  (I:eG X pins σ H s) (r:gM vs us) (h:z (vs++b) H Q E):wpAny (model X.prog X.w) X.A (call (.ref f) us) (EP X pins σ Q) X.xe s:=by
 have c:gM (vs++b) (us++g):=r.append hd;have q:(us++g).length=i.length:=by rw[<- c.length];exact F.len _ _ _ _ h
 refine gz (aj (F.run X.A X.stack s H ⟨us,[]⟩ (us++g) (vs++b) Q E v I.env0 (l s us I.kIn q) c h) λr J a=>?_)
 cases r with
 |error e=>exact G pins σ H s e J I a
 |ok fl=>
  cases fl with
  |ret u=>exact I.after a
  |next=>exact j4 a
  |brk=>exact j4 a
  |cont=>exact j4 a
def FW(F:dU X.prog X.w X.K X.mg X.base n k f y i z)(N:Room k X.A)(L:Gl X x)(M:X.mg x=some (.ref f))(hk:iC X.K (.ref f)=true)(G:sQ X.K y i g)(hd:gM b g)(O:yY n X E)
  (v:PA X (e::d) t) (c:(x==("__debug__":Str))=false:=by decide) (J:cD (e::d) X.env=(false,eval e X.env)::cD d X.env:=by rfl) (l:(l0 pos (cD d X.env)).any (·.1)=false:=by rfl) :
  PE X (.Call (.Name x p) (e::d) [] pos) (M4 z b E t):=by
 intro a s P H Q I h;refine ae (F8 I L M ?_ c);refine wD (h₀:=X.base) I.ok.mod.kin hk (jR (v pos a s P H _ I h) λT S ⟨vs,R,u,r,q⟩=>⟨u.kIn,?_⟩) J l;exact SG F N G hd O u r q
def AQ(U:PE X o B)(c:RE X.K C)(N:aAp X.K C m f)(F:dU X.prog X.w X.K X.mg X.base n k f y i z)(Y:Room k X.A)(T:sQ X.K y i g)(hd:gM b g)(hx:yY n X E)(S:PA X (e::d) t)
  (J:cD (e::d) X.env=(false,eval e X.env)::cD d X.env:=by rfl) (G:(l0 pos (cD d X.env)).any (·.1)=false:=by rfl)
  (Z:eval (.Call (.Attribute o m j) (e::d) [] pos) X.env=(do
   let ov <- eval o X.env
   uo j.atName
   let (f,first) <- jb [ov] (getMethod ov m pl)
   callWith pos f first (l0 pos (cD (e::d) X.env)) (backToKw pos (rl [] X.env))):=by rfl) :
  PE X (.Call (.Attribute o m j) (e::d) [] pos) (Mu C m z b E B t):=by
 intro v s O H Q I h;refine PySem.W.methodCall_KW (pl:=pl) (jR (U v s O H _ I h) λu s1 zq=>?_) Z;obtain⟨x,P,L,rx,a,dx,fs,ex,R,l,q⟩:=zq;subst ex;obtain rfl:u=c9 a:=rx;refine LS L R c N l ?_;refine wD (first:=[.ref a]) (h₀:=X.base) I.ok.mod.kin N.kp (jR (S pos v s1 O P _ L q) λus s2 ⟨vs,H2,M,r,q2⟩=>⟨M.kIn,?_⟩) J G;exact SG (us:=.ref a::us) (vs:=.ref a::vs) F Y T hd hx M (.cons Fo r) q2
structure Mk(K:aM)(C f:Addr):Prop where
 makes:RF K C=true
 init:fY K (.ref C) "__init__"=some (some (.ref f))
 fn:GY K (.ref f)=true
 kp:iC K (.ref C)=true
def SF{H:Hp}{Q:VK}(M:Mk X.K C f)(F:dU X.prog X.w X.K X.mg X.base n k f y i z)(S:Room (k+1) X.A)(P:sQ X.K y i g)(hd:gM b g)
  (T:yY n X E) (I:eG X pins σ H s) (r:gM vs us)
  (h:∀x l,H x=none->H l=none->l≠x->z (.ref x::(vs++b)) (gG (gG H l (.own x)) x (.ins C l [])) (λv L=>v=.non/\Q (.ref x) L) E) :
  wpAny (model X.prog X.w) X.A (call (.ref C) us) (EP X pins σ Q) X.xe s:=by
 have q:=h (s.heap.objs.size+1) s.heap.objs.size (I.hok.fresh (C5 _)) (I.hok.fresh (aN _)) (bS (fA _));have c:=eG.made (C:=C) I;have G:gM (V.ref (s.heap.objs.size+1)::(vs++b)) (c9 (s.heap.objs.size+1)::(us++g)):=.cons Fo (r.append hd)
 have R:(c9 (s.heap.objs.size+1)::us++g).length=i.length:=by
  have e:=G.length;rw[F.len _ _ _ _ q]at e;exact e.symm
 refine gz (UO (f:=f) I.kIn M.makes M.init (beq_iff_eq.mp M.fn) (aj (F.run _ X.stack _ _ ⟨c9 (s.heap.objs.size+1)::us,[]⟩ (c9 (s.heap.objs.size+1)::(us++g)) _ _ E (S.make C us [])
  (c.env0.make C us []) (P _ (c9 (s.heap.objs.size+1)::us) c.kIn R) G q) λr Y a=>?_))
 cases r with
 |error e=>exact T pins σ _ _ e Y c a
 |ok fl=>
  cases fl with
  |ret u=>
   obtain⟨v,J,N,W,O,U⟩:=c.after a;subst O;exact⟨W,⟨V.ref (s.heap.objs.size+1),J,N,Fo,U⟩⟩
  |next=>exact j4 a
  |brk=>exact j4 a
  |cont=>exact j4 a
def YX(M:Mk X.K C f)(F:dU X.prog X.w X.K X.mg X.base n k f y i z)(O:Room (k+1) X.A)(L:Gl X x)(N:X.mg x=some (.ref C))(G:sQ X.K y i g)(hd:gM b g)(P:yY n X E)
  (v:PA X (e::d) t) (c:(x==("__debug__":Str))=false:=by decide) (J:cD (e::d) X.env=(false,eval e X.env)::cD d X.env:=by rfl) (l:(l0 pos (cD d X.env)).any (·.1)=false:=by rfl) :
  PE X (.Call (.Name x p) (e::d) [] pos) (Mt C z b E t):=by
 intro a s R H Q I h;refine ae (F8 I L N ?_ c);refine wD (h₀:=X.base) I.ok.mod.kin M.kp (jR (v pos a s R H _ I h) λU T ⟨vs,S,u,r,q⟩=>⟨u.kIn,?_⟩) J l;exact SF M F O G hd P u r q
end
structure bX(N P:List Str)(sc:Scope):Prop where
 kind:sc.kind=.function
 co:sc.isCoroutine=false
 gen:sc.isGenerator=false
 nd:N.Nodup
 pre:N.take P.length=P
 par:∀x∈P,sc.names.lookup x=some .local\/sc.names.lookup x=some .cell
 nofree:∀y∈sc.names,y.2≠.free
theorem EO{kindOf:Str->Option u5}:∀{binds}{m:Str->Option Value},(∀v,(x,v)∉binds)->bindL kindOf binds m x=m x
|[],_,_=>rfl
| (n,v)::r,m,h=>by
 unfold bindL;rw[EO λw hw=>h w (aO _ hw)];split
 ·have:x≠n:=by rintro rfl;exact h v aS
  simp[this]
 ·rfl
theorem ER{kindOf:Str->Option u5}:∀{binds}{m:Str->Option Value},(∀v,(x,v)∉binds)->bindC kindOf binds m x=m x
|[],_,_=>rfl
| (n,v)::r,m,h=>by
 unfold bindC;rw[ER λw hw=>h w (aO _ hw)];split
 ·rfl
 ·have:x≠n:=by rintro rfl;exact h v aS
  simp[this]
theorem EQ{kindOf:Str->Option u5}:∀{P:List Str}{vs}{i:Nat}{m:Str->Option Value},P.Nodup->P[i]?=some x->vs[i]?=some v->kindOf x=some .local ->
 bindL kindOf (P.zip vs) m x=some v
|[],_,_,_,_,h,_,_=>by simp at h
|_::_,[],_,_,_,_,h,_=>by simp at h
|p::P,w::vs,0,m,nd,h1,h2,hk=>by
 simp at h1 h2;subst h1;subst h2;show bindL kindOf ((p,w)::P.zip vs) m p=_;unfold bindL;rw[EO λv a=>(mT.mp nd).1 (C7 a).1,a7 hk];simp
|p::P,w::vs,i+1,m,nd,h1,h2,hk=>by
 show bindL kindOf ((p,w)::P.zip vs) m x=_;unfold bindL;exact EQ (i:=i) (mT.mp nd).2 (by simpa using h1) (by simpa using h2) hk
theorem ES{kindOf:Str->Option u5}:∀{P:List Str}{vs}{i:Nat}{m:Str->Option Value},P.Nodup->P[i]?=some x->vs[i]?=some v->kindOf x≠some .local ->
 bindC kindOf (P.zip vs) m x=some v
|[],_,_,_,_,h,_,_=>by simp at h
|_::_,[],_,_,_,_,h,_=>by simp at h
|p::P,w::vs,0,m,nd,h1,h2,hk=>by
 simp at h1 h2;subst h1;subst h2;show bindC kindOf ((p,w)::P.zip vs) m p=_;unfold bindC;rw[ER λv a=>(mT.mp nd).1 (C7 a).1,a6 hk];simp
|p::P,w::vs,i+1,m,nd,h1,h2,hk=>by
 show bindC kindOf ((p,w)::P.zip vs) m x=_;unfold bindC;exact ES (i:=i) (mT.mp nd).2 (by simpa using h1) (by simpa using h2) hk
noncomputable def qR(N:List Str)(vs:List V):St:=vs.map some++E7 (N.length-vs.length) none
noncomputable def zZ(CX:W6)(P:cM)(w:c7)(K:aM)(mg:Str->Option Value)(base:Heap)(N:List Str)(qual:Str)(scope:Scope)(f:Addr)(cd:Value)(A:d1)(outer:List Env)(s:Shared)(H:Hp)(E:XK):Cx where
 prog:=P
 w:=w
 K:=K
 mg:=mg
 base:=base
 A:=A.deeper (aq qual scope s.heap.objs.size f cd)
 N:=N
 s₀:=s
 H₀:=H
 env:=aq qual scope s.heap.objs.size f cd
 outer:=outer
 stack:=aq qual scope s.heap.objs.size f cd::outer
 ex:=[]
 calm:=true
 fn:=λ_=>true
 pn:=[]
 xe:=λe s'=>wpAny (model P w) (A.deeper (aq qual scope s.heap.objs.size f cd)) (leaving (aq qual scope s.heap.objs.size f cd) e) (λ_ ze=>CX outer H s E e ze) (λe' ze=>CX outer H s E e' ze) s'
def JW{a:Scope}{n:Nat}(h:a.names.lookup x=some .cell):∃c,(bd n a.names []).lookup x=some c:=by
 have q:=GZ a.names n [] (.inl h);exact Option.isSome_iff_exists.mp q
def QB{K}{mg:Str->Option Value}{N m:List Str}{d:Scope}{f:Addr}{cd}{A:d1}{s G:Shared}{vs:List V}
  (S:bX N m d) (hd:A.handled=none) (j:MN P w K mg base A outer s H) (O:vs.length=m.length) (r:gM vs us)
  (x:InCallC s s.heap.objs.size (bindL (aq qual d s.heap.objs.size f cd).kindOf (m.zip us) λ_=>none) (bd (s.heap.objs.size+1) d.names []) (bindC (aq qual d s.heap.objs.size f cd).kindOf (m.zip us) λ_=>none) G) :
  eG (zZ CX P w K mg base N qual d f cd A outer s H E) [] (qR N vs) H G:=by
 have J:m.length<=N.length:=by have:=e8 gC S.pre;rw[bB]at this;lia
 obtain⟨B,Q,rfl,hk⟩:=x.done;have l:∀b:Addr,b∉(zZ CX P w K mg base N qual d f cd A outer s H E).ex:=λb z=>a9 (show b∈([]:List Addr)from z) Fm
 refine⟨⟨j.mod,S.kind,Fo,Fo,aN _,λy z c B g=>?_,λy hy=>?_,λy c _ h=>?_,λ_=>hd,gc j.frames,.inr ⟨Fo,Fo⟩,λb z=>a9 z (l b),j.bs,j.bsz,λb _ _=>l b,λb z=>a9 z (l b),j.funs,j.frf,j.tab⟩,
  rfl,j.bare,Un.kept hk,⟨_,x.toInCall.ns,λi y v B g M=>?_⟩,λy c h=>⟨_,x.cell y c h⟩,j.hok.fresh (aN _),λy c h=>?_,λp o=>a9 (show p∈([]:List (Addr×Obj))from o) Fm,j.hok.kept hk,?_⟩
 ·exact name_of_addr x.apart (i3 B) (i3 g)
 ·have hy:d.names.lookup y=some .cell\/d.names.lookup y=some .free:=hy;rcases hy with hy | hy
  ·exact JW hy
  ·exact a9 Fo (S.nofree _ (i3 hy))
 ·exact iU (x.above y c (i3 h))
 ·have C:i<vs.length:=by
   unfold qR at g;by_cases C:i<vs.length
   ·exact C
   ·rw[eJ (by simpa using C)]at g;rw[kK]at g;split at g<;>cases g
  have I:vs[i]?=some v:=by
   unfold qR at g;rw[eB (by simpa using C),aI]at g
   cases e:vs[i]? with
   |none=>rw[e]at g;cases g
   |some a=>rw[e]at g;cases g;rfl
  obtain⟨u,F,L⟩:=r.get I
  have o:m[i]?=some y:=by
   rw[<- S.pre,HG Fl];exact B
  have t:m.Nodup:=by rw[<- S.pre];exact S.nd.sublist (rK _ _)
  refine⟨u,L,?_⟩;rcases S.par y (aU o)with k | k
  ·exact .inl ⟨k,EQ t o F k⟩
  ·obtain⟨c,e⟩:=JW (n:=s.heap.objs.size+1) k;refine .inr ⟨.inl k,c,e,?_⟩;have q:=x.cell y c e;rw[ES t o F (by show d.names.lookup y≠_;rw[k];decide)]at q;exact q
 ·exact j.hok.fresh (iU (x.above y c (i3 h)))
 ·unfold qR;show _=N.length;rw[bG,aC,List.length_replicate];lia
def Lb{K:aM}{mg:Str->Option Value}{k:Nat}{f:Addr}{name kV}
   {N j:List Str} {C:Sp} (Y:K.lookup f=some ⟨oc,od,.func (nG name qual params body scope dV kV si pm an er ct),ul⟩) (l:pL K er qual=true) (S:bX N j scope)
  (len:∀vs H Q E,C vs H Q E->vs.length=j.length)
  (d:∀(A:d1)outer(s:Shared)H(vs:List V)Q E,Room k (A.deeper (aq qual scope s.heap.objs.size f er))->C vs H Q E ->
   ∃t,AC (zZ CX P w K mg base N qual scope f er A outer s H E) body t/\t { nx:=λ_ c=>Q .non c,rt:=Q } (qR N vs) H) :
  dU P w K mg base CX (k+1) f (nG name qual params body scope dV kV si pm an er ct) j C:=by
 refine⟨len,λA outer s H G Z vs Q E m h M r i=>?_⟩;have R:=len _ _ _ _ i;have F:K.In s.heap:=h.mod.kin.keeps λb o e=>(h.bs b o e).1;have p:s.heap.NoLimit:=h.mod.nolimit.keeps λb o e=>(h.bs b o e).1
 have g:∀y∈j.zip Z,scope.names.lookup y.1=some .local\/(scope.names.lookup y.1=some .cell/\((bd (s.heap.objs.size+1) scope.names []).lookup y.1).isSome=true):=λ⟨n,v⟩ X=>by
  rcases S.par n (C7 X).1 with q | q
  ·exact .inl q
  ·exact .inr ⟨q,GZ _ _ _ (.inl q)⟩
 refine codeAny_call_function m.depth (F _ _ Y) Fo S.co S.gen Fo (PySem.W.codeRec_of F l) (M _ _ _ _ ?_);refine wpAny_newFunctionEnv_cells S.kind g λenv O L x=>?_;subst O;refine⟨p.keeps x.toInCall.keep,codeAny_func ?_⟩;obtain⟨t,U,T⟩:=d A outer s H vs Q E (m.deeper _) i;have I:eG (zZ CX P w K mg base N qual scope f er A outer s H E) [] (qR N vs) H L:=QB S m.hd h R r x;refine gO (U [] L (qR N vs) H _ I T) (λfl B hs=>?_) λe B hs=>hs
 have fin:∀{a:St}{c:Hp}{v:V}{u:Value},eG (zZ CX P w K mg base N qual scope f er A outer s H E) [] a c B->iJ v u->Q v c->CE outer P w H s Q u B:=
  λ{a c v u} J z q=>⟨v,c,J.os,J.bare,J.base,J.hok,z,q⟩
 cases fl with
 |ret u=>
  obtain⟨v,a,c,J,z,q⟩:=hs;exact fin J z q
 |next=>
  obtain⟨a,c,J,q⟩:=hs;exact fin (v:=V.non) (u:=d9) J Fo q
 |brk=>
  obtain⟨_,_,_,q⟩:=hs;exact j4 q
 |cont=>
  obtain⟨_,_,_,q⟩:=hs;exact j4 q
section
variable{X:Cx}{x:Str}{p pos:Pos}{e:Expr}{a:List Expr}{t:TA}{id T:String}{r:List V->Hp->VK->Prop}
def R1(r:List V->Hp->VK->Prop)(t:TA):TE:=λc H Q=>t c H λvs b=>r vs b Q
def tT(k:kO X (.builtin id) r)(m:Gl X x)(n:X.mg x=none)(q:d2 x=some (.builtin id))(j:PA X (e::a) t)(o:x≠"__name__":=by decide)(c:(x==("__debug__":Str))=false:=by decide)
  (l:cD (e::a) X.env=(false,eval e X.env)::cD a X.env:=by rfl) (d:(l0 pos (cD a X.env)).any (·.1)=false:=by rfl):PE X (.Call (.Name x p) (e::a) [] pos) (R1 r t):=by
 intro b s f H Q I h;refine ae (tV I m n q ?_ o c);exact PyProof.Rows.callWith_builtin1 (jR (j pos b s f H _ I h) λw v ⟨vs,g,i,u,q1⟩=>k b v f g vs w Q i u q1) l d
def gH(k:kO X (.type T) r)(m:Gl X x)(n:X.mg x=none)(q:d2 x=some (.type T))(j:PA X (e::a) t)(o:x≠"__name__":=by decide)(c:(x==("__debug__":Str))=false:=by decide)
  (l:cD (e::a) X.env=(false,eval e X.env)::cD a X.env:=by rfl) (d:(l0 pos (cD a X.env)).any (·.1)=false:=by rfl):PE X (.Call (.Name x p) (e::a) [] pos) (R1 r t):=by
 intro b s f H Q I h;refine ae (tV I m n q ?_ o c);exact j0 (jR (j pos b s f H _ I h) λw v ⟨vs,g,i,u,q1⟩=>k b v f g vs w Q i u q1) l d
end
end L2
namespace HT
section
variable{prog:cM}{w:c7}{A:d1}{E:Value->Shared->Prop}{s:Shared}
def cat_tup{t b:Addr}{vs a:List Value}{Q:Value->Shared->Prop}(x:ue s.heap t vs.toArray)(v:ue s.heap b a.toArray)(o:vs≠[])
  (r:a=[]->Q (.ref t) s) (u:a≠[]->Q (.ref s.heap.objs.size) { s with heap:=s.heap.push { cls:=.type "tuple",data:=.seq (vs++a).toArray } })
  (j:vs.length+a.length<=bO):wpAny (model prog w) A (m4 .Add (.ref t) (.ref b)) Q E s:=by
 obtain⟨⟨cls,l,data,q⟩,i,m,n,hd⟩:=id x;obtain⟨⟨k,d,data2,h⟩,c,f,p,g⟩:=id v;simp only at m hd f g;subst m hd f g;have e:vs.toArray++a.toArray=(vs++a).toArray:=by simp
 by_cases hw:a=[]
 ·exact dy ⟨_,i,Fo⟩ ⟨_,c,Fo⟩ fb io sK rJ (qL _ _)
   (tuple_addW1 t b vs.toArray a.toArray n p l d q h (by simpa using o) (by simp[hw])) ⟨i,c,r hw⟩
 ·refine dy ⟨_,i,Fo⟩ ⟨_,c,Fo⟩ fb io sK rJ (qL _ _)
   (tuple_addW2 t b vs.toArray a.toArray n p l d q h (by simpa using o) (by simpa using hw) (by rw[bI,bI];exact j)) ⟨i,c,?_⟩
  rw[e];exact u hw
noncomputable def sIx(n d:Nat):Option Int->Nat
|none=>d
|some v=>if v<0 then(v+(n:Int)).toNat else min v.toNat n
def sIx_none(n d:Nat):sIx n d none=d:=rfl
def sIx_nat(n d k:Nat):sIx n d (some (k:Int))=min k n:=by
 show(if(k:Int)<0 then((k:Int)+(n:Int)).toNat else min (k:Int).toNat n)=min k n;rw[a6 Fl,dY]
def sIx_le(n d:Nat)(hd:d<=n)(o:Option Int):sIx n d o<=n:=by
 cases o with
 |none=>exact hd
 |some v=>
  show(if v<0 then(v+(n:Int)).toNat else min v.toNat n)<=n;by_cases a:v<0
  ·rw[a7 a];lia
  ·rw[a6 a];exact CZ _ _
def clip_eq(v:Int)(n d:Nat):(if v<0 then max (v+(n:Int)) 0 else min v (n:Int))=((sIx n d (some v):Nat):Int):=by
 show(if v<0 then max (v+(n:Int)) 0 else min v (n:Int))=(((if v<0 then(v+(n:Int)).toNat else min v.toNat n):Nat):Int);by_cases a:v<0
 ·simp only[a7 a];lia
 ·simp only[a6 a];lia
def MI(lo a:Option Int)(n:Nat):ai lo a 1 (n:Int)=(((sIx n 0 lo:Nat):Int),((sIx n n a:Nat):Int)):=by
 have b:¬((1:Int)<0):=by lia
 unfold ai;simp only[b,h7];refine Prod.ext ?_ ?_
 ·cases lo with
  |none=>rfl
  |some v=>exact clip_eq v n 0
 ·cases a with
  |none=>rfl
  |some v=>exact clip_eq v n n
def K3(i j:Nat):r0 (i:Int) (j:Int) 1=j-i:=by
 unfold r0;have a:(1:Int)>0:=by lia
 simp only[a,ak,aMt];split<;>lia
def BI{Q:Option Int->Shared->Prop}(p:IsPart v o)(h:Q o s):wpAny (model prog w) A (Builtin.Slice.slicePartIndex v) Q E s:=by
 cases p with
 |none=>exact slicePart_none h
 |int i t=>exact slicePart_int h
def qU{d:Addr}{lo}{n:Nat}{Q:Int×Int×Nat->Shared->Prop}(hs:s.heap.IsSliceOf d vl vu .none)(f:IsPart vl lo)(g:IsPart vu b)
  (h:Q (((sIx n 0 lo:Nat):Int),1,sIx n n b-sIx n 0 lo) s):wpAny (model prog w) A (cg (.ref d) (pure (n:Int))) Q E s:=by
 obtain⟨os,c,e,a⟩:=id hs;unfold cg Builtin.Slice.sliceFields;refine aB (aB (u0 c a (x:=vl) Fo (aB (u0 c a (x:=vu) Fo (aB (u0 c a (x:=.none) Fo (aG ?_)))))));refine aB (slicePart_none ?_);show wpAny _ _ (if((1:Int)==0)=true then _ else _) _ _ s;rw[a6 Fk];refine aB (BI f (aB (BI g (aB (aG ?_)))));show wpAny _ _ (match ai lo b 1 (n:Int)with | (lo,b)=>pure (lo,(1:Int),r0 lo b 1)) _ _ s;rw[MI lo b n];show wpAny _ _ (pure (((sIx n 0 lo:Nat):Int),(1:Int),r0 ((sIx n 0 lo:Nat):Int) ((sIx n n b:Nat):Int) 1)) _ _ s;rw[K3];exact aG h
def S1(a:Array Value)(i k:Nat):((cR k).filterMap λ(m:Nat)=>a[((i:Int)+(m:Int)*1).toNat]?).toArray=((a.toList.drop i).take k).toArray:=by
 have e:(λ(m:Nat)=>a[((i:Int)+(m:Int)*1).toNat]?)=λm=>a[i+m]?:=by
  funext m;have:((i:Int)+(m:Int)*1).toNat=i+m:=by lia
  rw[this]
 rw[e];have:=pick_run a i k;rw[RJ]at this;have b:((λx=>a[x]?)∘λx=>i+x)=λm=>a[i+m]?:=rfl;rw[b]at this;rw[this]
def getItem_tuple_cut{t i:Addr}{a:Array Value}{lo}{Q:Value->Shared->Prop}(c:ue s.heap t a)(hs:s.heap.IsSliceOf i vl vu .none)(l:IsPart vl lo)(n:IsPart vu hi)
  (hw:¬(sIx a.size 0 lo=0/\sIx a.size a.size hi=a.size))
  (h:Q (.ref s.heap.objs.size) { s with heap:=s.heap.push { cls:=.type "tuple",data:=.seq ((a.toList.drop (sIx a.size 0 lo)).take (sIx a.size a.size hi-sIx a.size 0 lo)).toArray } })
  (k:a.size<=bO):wpAny (model prog w) A (bw (.ref t) (.ref i)) Q E s:=by
 have b:sizeOk (.seq ((a.toList.drop (sIx a.size 0 lo)).take (sIx a.size a.size hi-sIx a.size 0 lo)).toArray):=by
  show((a.toList.drop (sIx a.size 0 lo)).take (sIx a.size a.size hi-sIx a.size 0 lo)).toArray.size<=bO;rw[bI,bB,gA,bQ];lia
 have o:sIx a.size a.size hi<=a.size:=sIx_le _ _ (aN _) hi;obtain⟨os,g,e,j⟩:=id hs;have d:s.TypeIs (.ref i) "slice":=⟨os,g,e⟩;unfold bw
 try with_reducible refine h8 ?_
 first | refine aB (aG ?_) | skip
 refine aB (ut c.typeIs Fk ?_)
 refine aB (d7 (name:=c6 "__getitem__") c.typeIs k9
  (dL k9 c.typeIs sj ?_ (sv _ _)))
 show wpAny _ _ (ag (.ref t) >>= _) _ _ s;refine aB (tupleItemsOf_ c ?_);refine aB (al d ?_);rw[a7 Fk];refine aB (qU hs l n ?_)
 have f:¬((((sIx a.size 0 lo:Nat):Int)==0&&(1:Int)==1&&(sIx a.size a.size hi-sIx a.size 0 lo)==a.size)=true):=by
  intro q;rw[dN,dN]at q;have q1:((sIx a.size 0 lo:Nat):Int)=0:=ey q.1.1;have p:sIx a.size a.size hi-sIx a.size 0 lo=a.size:=ey q.2;exact hw ⟨Fl,Fl⟩
 show wpAny _ _ (if(((sIx a.size 0 lo:Nat):Int)==0&&(1:Int)==1&&(sIx a.size a.size hi-sIx a.size 0 lo)==a.size)=true then _ else _) _ _ s;rw[a6 f,S1]
 first
  |exact aB (m:=i5 _) (dI (aG ⟨_,Fo,aG h⟩) b)
  |exact aB (m:=i5 _) (dI (aB (aG (aG ⟨_,Fo,aG h⟩))) b)
  |exact aB (aB (m:=i5 _) (dI (aG (aG ⟨_,Fo,aG h⟩)) b))
  |exact aB (aB (m:=i5 _) (dI (aG ⟨_,Fo,aG h⟩) b))
end
end HT
namespace L2
abbrev TO:=St->Hp->(Option Int->Hp->Prop)->Prop
def PO(X:Cx)(e:Option Expr)(t:TO):Prop:=
 ∀pins s σ H(Q:Option Int->Hp->Prop),eG X pins σ H s->t σ H Q ->
  wpAny (model X.prog X.w) X.A (evalPart e X.env) (λu b=>∃o a,eG X pins σ a b/\IsPart u o/\Q o a) X.xe s
def XJ:TO:=λ_ H Q=>Q none H
def Xs(t:TE):TO:=λb H Q=>t b H λx a=>∃i,x=.int i/\Q (some i) a
section
variable{X:Cx}{e:Expr}{d:TE}{lo c:Option Expr}{j g:TO}{pos f:Pos}
def YS:PO X none XJ:=by
 intro a s b H Q I h;rw[evalPart_none];exact aG ⟨none,H,I,.none,h⟩
def YR(h:PE X e d):PO X (some e) (Xs d):=by
 intro a s n H Q I hw;rw[evalPart_some];refine jR (h a s n H _ I hw) λu o m=>?_;obtain⟨x,b,k,l,q1⟩:=m;obtain⟨i,rfl,q⟩:=q1;obtain⟨t,rfl⟩:=l;exact⟨some i,b,k,.int i t,q⟩
def WG(X:Cx)(r:V->Option Int->Option Int->Hp->VK->Prop):Prop:=
 ∀pins(s:Shared)σ H(x:V)(v b h:Value)(lo c:Option Int)(a:Addr)Q,eG X pins σ H s->iJ x v->s.heap.IsSliceOf a b h .none->IsPart b lo->IsPart h c->r x lo c H Q ->
  ∃T id,typeLookup (.type T) "__getitem__"=pure (some (.builtin id))/\s.TypeIs v T/\wpAny (model X.prog X.w) X.A (bw v (.ref a)) (EP X pins σ Q) X.xe s
def WG.or{r k:V->Option Int->Option Int->Hp->VK->Prop}(h:WG X r)(t:WG X k):WG X (λx lo c H Q=>r x lo c H Q\/k x lo c H Q):=by
 intro a s p H x v n o lo c m Q I l hs b i q;rcases q with q | q
 ·exact h a s p H x v n o lo c m Q I l hs b i q
 ·exact t a s p H x v n o lo c m Q I l hs b i q
def Nj(r:V->Option Int->Option Int->Hp->VK->Prop)(d:TE)(j g:TO):TE:=λa H Q=>d a H λx b=>j a b λl h=>g a h λu H3=>r x l u H3 Q
def S7{r:V->Option Int->Option Int->Hp->VK->Prop}(J:WG X r)(E:PE X e d)(G:PO X lo j)(L:PO X c g):PE X (.Subscript e (.Slice lo c none f) pos) (Nj r d j g):=by
 intro a s i H Q I h;refine su (jR (E a s i H _ I h) λv S n=>?_);obtain⟨x,o,t,R,q1⟩:=n;refine wpAny_Slice (jR (G a S i o _ t q1) λk U ⟨l,p,y,M,O⟩=>jR (L a U i p _ y O) λm s3 n=>?_);obtain⟨u,H3,z,N,P⟩:=n;rw[evalPart_none];refine aG ?_;have B:eG X a i H3 { s3 with heap:=s3.heap.push { cls:=.type "slice",data:=.fields #[k,m,.none] } }:=z.kept (t':=s3.toks) λb ob q=>aJ _ q;obtain⟨T,id,C,K,F⟩:=J a { s3 with heap:=s3.heap.push { cls:=.type "slice",data:=.fields #[k,m,.none] } } i H3 x v k m l u s3.heap.objs.size Q B R (Heap.IsSliceOf.new ..) M N P;show wpAny (model X.prog X.w) X.A (ip e (.Slice lo c none f) v (.ref s3.heap.objs.size)) (EP X a i Q) X.xe { s3 with heap:=s3.heap.push { cls:=.type "slice",data:=.fields #[k,m,.none] } };exact tail_any (ops:=[.ref s3.heap.objs.size,v]) K C F (by with_unfolding_all rfl)
noncomputable def GG(a:List V)(lo c:Option Int):List V:=(a.drop (HT.sIx a.length 0 lo)).take (HT.sIx a.length a.length c-HT.sIx a.length 0 lo)
def zQ(a:List V)(lo c:Option Int):(GG a lo c).length<=a.length:=by
 unfold GG;rw[bB,gA];lia
def Oz(K:aM):V->Option Int->Option Int->Hp->VK->Prop:=λx lo c H Q=>∃a b,x=.ref a/\rN K H a b /\
 ¬(HT.sIx b.length 0 lo=0/\HT.sIx b.length b.length c=b.length)/\∀p,H p=none->Q (.ref p) (gG H p (.tup (GG b lo c)))
def aC3:WG X (Oz X.K):=by
 intro p s C H x v A B lo c z Q I y hs u w h;obtain⟨a,k,rfl,t,hw,q⟩:=h;cases y;obtain⟨l,r,m,n⟩:=I.tuple t;have i:l.toArray.size=k.length:=by rw[bI];exact r.length.symm
 refine⟨"tuple",_,PyProof.Rows.slot_tuple_getitem.lookup,m.typeIs,?_⟩;refine HT.getItem_tuple_cut m hs u w (by rw[i];exact hw) ?_ (by rw[i];exact n);rw[i];refine⟨.ref s.heap.objs.size,_,I.laid (t':=s.toks) (o:=.tup (GG k lo c)) (λb ob q=>aJ _ q) (aN _) ?_,Fo,q _ (I.hok.fresh (aN _))⟩;exact⟨bJ (zQ k lo c) n,_,(r.drop (HT.sIx k.length 0 lo)).take (HT.sIx k.length k.length c-HT.sIx k.length 0 lo),CT.new _ _⟩
def Sq(K:aM):R2:=λx y H Q=>∃a b i h,x=.ref a/\y=.ref b/\rN K H a i/\rN K H b h/\i≠[]/\i.length+h.length<=bO /\
 (h=[]->Q (.ref a) H)/\(h≠[]->∀p,H p=none->Q (.ref p) (gG H p (.tup (i++h))))
def gM.nil_iff(r:gM xs us):us=[]↔xs=[]:=by
 cases r with
 |nil=>simp
 |cons _ _=>simp
def Y0:oU X (m4 .Add) (Sq X.K):=by
 intro n s J H x y v u Q I C E h;obtain⟨a,b,F,G,rfl,rfl,p,r,t,l,q1,B⟩:=h;cases C;cases E;obtain⟨A,k,p1,_⟩:=I.tuple p;obtain⟨m,i,f,_⟩:=I.tuple r;refine HT.cat_tup p1 f (λz=>t (k.nil_iff.mp z)) (λz=>⟨.ref a,H,I,Fo,q1 (i.nil_iff.mp z)⟩) (λz=>?_) (by rw[<- k.length,<- i.length];exact l);refine⟨.ref s.heap.objs.size,_,I.laid (t':=s.toks) (o:=.tup (F++G)) (λb ob q=>aJ _ q) (aN _) ?_,Fo,B (λw=>z (i.nil_iff.mpr w)) _ (I.hok.fresh (aN _))⟩;exact⟨by rw[bG];exact l,_,k.append i,CT.new _ _⟩
end
noncomputable def ZL(n:Nat)(i:Int):Option Nat:=if 0<=i then(if i<n then some i.toNat else none)else if -(n:Int)<=i then some (i+n).toNat else none
noncomputable def atI{b:Type}(a:List b)(i:Int):Option b:=(ZL a.length i).bind λj=>a[j]?
def ZK{n:Nat}{i:Int}{j:Nat}(h:ZL n i=some j):seqIndex? i n=some j/\j<n/\-(n:Int)<=i/\i<n:=by
 unfold ZL at h;by_cases b:0<=i
 ·rw[a7 b]at h;by_cases a:i<n
  ·rw[a7 a]at h;have e:i.toNat=j:=c5 h;exact⟨by rw[seqIndex_of b a,e],Fl,Fl,a⟩
  ·rw[a6 a]at h;cases h
 ·rw[a6 b]at h;by_cases a:-(n:Int)<=i
  ·rw[a7 a]at h;have e:(i+n).toNat=j:=c5 h;exact⟨by rw[seqIndex_neg Fl a,e],Fl,a,Fl⟩
  ·rw[a6 a]at h;cases h
def GO{g:Type}{a:List g}{i:Int}{v}(h:atI a i=some v):∃j,seqIndex? i a.length=some j/\a[j]?=some v/\j<a.length/\-(a.length:Int)<=i/\i<a.length:=by
 unfold atI at h
 cases e:ZL a.length i with
 |none=>rw[e]at h;cases h
 |some j=>
  rw[e]at h;obtain⟨b,c,d,f⟩:=ZK e;exact⟨j,b,h,c,d,f⟩
def fH{a:Type}{xs:List a}{j:Nat}{v:a}(h:xs[j]?=some v):atI xs (j:Int)=some v:=by
 have b:j<xs.length:=(aE.mp h).1
 have e:ZL xs.length (j:Int)=some j:=by
  unfold ZL;rw[a7 Fl,a7 Fl];simp
 unfold atI;rw[e];exact h
def WE{b:Type}(a:List b)(v:b):atI (a++[v]) (-1)=some v:=by
 have c:(a++[v]).length=a.length+1:=by simp
 have e:ZL (a++[v]).length (-1)=some a.length:=by
  unfold ZL;rw[c,a6 Fk,a7 Fl];congr 1;lia
 unfold atI;rw[e];show(a++[v])[a.length]?=some v;simp
def GQ(b:Expr):Prop:=∀o i,fq b false o i=operate [o,i] (bw o i)
def W5(X:Cx)(r:R2):Prop:=
 ∀(b a:Expr)pins s σ H(x y:V)(v u:Value)Q,eG X pins σ H s->iJ x v->iJ y u->r x y H Q ->
  fq a false v u=operate [v,u] (bw v u)->wpAny (model X.prog X.w) X.A (ip b a v u) (EP X pins σ Q) X.xe s
def W4(X:Cx)(id:String)(r:V->List V->Hp->VK->Prop):Prop:=
 ∀pins s σ H(x:V)(b:List V)(v:Value)(a:List Value)Q,eG X pins σ H s->iJ x v->gM b a->r x b H Q ->
  wpAny (model X.prog X.w) X.A (call (.builtin id) (v::a)) (EP X pins σ Q) X.xe s
section
variable{X:Cx}{a b:Expr}{m A:TE}{pos:Pos}
def W5.or{r f:R2}(h:W5 X r)(k:W5 X f):W5 X (λx y H Q=>r x y H Q\/f x y H Q):=by
 intro d c e s j H x y v u Q I g i q hs;rcases q with q | q
 ·exact h d c e s j H x y v u Q I g i q hs
 ·exact k d c e s j H x y v u Q I g i q hs
def D1(i:W5 X r)(f:PE X a m)(g:PE X b A)(hs:GQ b):PE X (.Subscript a b pos) (Gb r m A):=by
 intro c s n H Q I h;exact su (Hu f g I h λv u l x y d e j k q=>i a b c l n d x y v u Q e j k q (hs _ _))
def Kg(K:aM):R2:=λx y H Q=>∃p c i v,x=.ref p/\y=.int i/\lT K H p c/\atI c i=some v/\Q v H
def Ki(K:aM):R2:=λx y H Q=>∃p c i v,x=.ref p/\y=.int i/\rN K H p c/\atI c i=some v/\Q v H
def Kh:R2:=λx y H Q=>∃z i c,x=.str z/\y=.int i/\z.length<=bO/\atI z.cps.toList i=some c/\Q (.str ⟨#[c]⟩) H
def ZJ:W5 X (Kg X.K):=by
 intro n l c s C H x y v u Q I N O h hs;obtain⟨p,U,i,z,rfl,rfl,M,J,q⟩:=h;cases N;obtain⟨t,rfl⟩:=O;obtain⟨f,r,g,T⟩:=I.list M;obtain⟨j,d,E,R,F,G⟩:=GO J;obtain⟨w,o,k⟩:=r.get E;have L:=r.length;have S:=yL;have fin:EP X c C Q w s:=⟨z,H,I,k,q⟩;by_cases B:0<=i
 ·have e:i.toNat=j:=by
   rw[seqIndex_of B G]at d;exact c5 d
  exact item_listR g.isList B Fl (by rw[e];simpa using o) fin hs
 ·have e:(i+(f.toArray.size:Int)).toNat=j:=by
   rw[seqIndex_neg Fl F]at d;rw[bI,<- L];exact c5 d
  exact jf (x:=w) g.isList.typeIs slot_list_getitem.lookup
   (wpAny_getItem_list_neg (Q:=λr P=>r=w/\EP X c C Q r P) g.isList Fl (by rw[bI]<;>lia) Fl (by rw[e];simpa using o) ⟨Fo,fin⟩) hs
def Ys:W5 X (Ki X.K):=by
 intro f e c s k H x y v u Q I G J h hs;obtain⟨p,S,i,z,rfl,rfl,E,B,q⟩:=h;cases G;obtain⟨t,rfl⟩:=J;obtain⟨F,r,g,R⟩:=I.tuple E;obtain⟨j,n,o,M,N,O⟩:=GO B;obtain⟨w,l,d⟩:=r.get o;have C:=r.length;have P:=yL;have fin:EP X c k Q w s:=⟨z,H,I,d,q⟩
 exact jf (x:=w) g.typeIs slot_tuple_getitem.lookup
  (getItem_tuple (j:=j) (Q:=λr L=>r=w/\EP X c k Q r L) g Fl Fl (by rw[bI,<- C];exact n) (by simpa using l) ⟨Fo,fin⟩) hs
def Yr:W5 X Kh:=by
 intro e d g s K H x y v u Q I B C h hs;obtain⟨z,i,c,rfl,rfl,G,r,q⟩:=h;obtain⟨t,rfl⟩:=B;obtain⟨J,rfl⟩:=C;obtain⟨j,f,n,E,o,p⟩:=GO r;have w:z.cps.toList.length=z.length:=by simp[bj]
 rw[w]at f o p;have F:=yL
 exact tail_any (tx s z t) slot_str_getitem.lookup (getItem_str (c:=c) (by
  have k:decide (i < -(2^63:Int))=false:=c4 Fl;have l:decide (i>=2^63)=false:=c4 Fl;rw[k,l,xT]) (by rw[f];simpa using n) ⟨.str ⟨#[c]⟩,H,I.tok _,⟨_,Fo⟩,q⟩) hs
def Jf(K:aM):R2:=λx y H Q=>Kg K x y H Q\/Ki K x y H Q\/Kh x y H Q
def aX:W5 X (Jf X.K):=ZJ.or (Ys.or Yr)
def FK(lo c:Option Int)(n:Nat):(au lo c none n).1=((HT.sIx n 0 lo:Nat):Int)/\(au lo c none n).2.1=((HT.sIx n n c:Nat):Int)/\(au lo c none n).2.2=1:=by
 refine⟨?_,?_,Fo⟩
 ·cases lo with
  |none=>simp[au,HT.sIx]
  |some i=>
   simp only[au,HT.sIx,RG,show(1:Int)>0 by decide,ak];by_cases h:i<0
   ·simp only[h,ak]<;>lia
   ·simp only[h,h7]<;>lia
 ·cases c with
  |none=>simp[au,HT.sIx]
  |some i=>
   simp only[au,HT.sIx,RG,show(1:Int)>0 by decide,ak];by_cases h:i<0
   ·simp only[h,ak]<;>lia
   ·simp only[h,h7]<;>lia
def DD(c:List Value)(lo d:Option Int):slicePick c.toArray lo d none=((c.drop (HT.sIx c.length 0 lo)).take (HT.sIx c.length c.length d-HT.sIx c.length 0 lo)).toArray:=by
 obtain⟨e,f,g⟩:=FK lo d c.toArray.size;unfold slicePick;rw[e,f,g];simp only[sliceRange_one,pick_run,bI]<;>rfl
def Kj(K:aM):V->Option Int->Option Int->Hp->VK->Prop:=λx lo d H Q=>∃a c,x=.ref a/\lT K H a c/\∀p,H p=none->Q (.ref p) (gG H p (.lst (GG c lo d)))
def X9:WG X (Kj X.K):=by
 intro g s y H x v u w lo e t Q I p hs l n h;obtain⟨a,c,rfl,i,q⟩:=h;cases p;obtain⟨k,r,f,j⟩:=I.list i;have d:=r.length;refine⟨"list",_,slot_list_getitem.lookup,f.isList.typeIs,?_⟩;refine wpAny_getItem_list_slice f.isList hs l n .none Fm ?_ (by rw[bI]<;>lia);rw[DD,<- d];refine⟨.ref s.heap.objs.size,_,I.laid (t':=s.toks) (o:=.lst (GG c lo e)) (λb ob q=>aJ _ q) (aN _) ?_,Fo,q _ (I.hok.fresh (aN _))⟩;exact⟨bJ (zQ c lo e) j,_,0,(r.drop (HT.sIx c.length 0 lo)).take (HT.sIx c.length c.length e-HT.sIx c.length 0 lo),aV _ Fo⟩
def GL:kO X (.builtin "len") (λj H Q=>∃p d,j=[.ref p]/\(lT X.K H p d\/rN X.K H p d)/\Q (.int d.length) H):=by
 intro i s t H j o Q I r h;obtain⟨p,d,rfl,hq,q⟩:=h;obtain⟨u,rfl,l⟩:=oC r;cases l;have n:=yL;rcases hq with hq | hq
 ·obtain⟨e,g,f,k⟩:=I.list hq;have c:=g.length;exact Calls.call_len_list f.isList (by simp only[bI]<;>lia) ⟨.int d.length,H,I.tok _,⟨s.toks+1,by rw[bI,c]⟩,q⟩
 ·obtain⟨e,g,f,k⟩:=I.tuple hq;have c:=g.length;exact len_tuple f (by simp only[bI]<;>lia) ⟨.int d.length,H,I.tok _,⟨s.toks+1,by rw[bI,c]⟩,q⟩
def GK:kO X (.builtin "len") (λd H Q=>∃z,d=[.str z]/\z.length<=bO/\Q (.int z.length) H):=by
 intro c s i H d g Q I r h;obtain⟨z,rfl,f,q⟩:=h;obtain⟨u,rfl,t,rfl⟩:=oC r;have e:=yL;exact len_str Fl ⟨.int z.length,H,I.tok _,⟨_,Fo⟩,q⟩
def kO.or{r e:List V->Hp->VK->Prop}(h:kO X f r)(k:kO X f e):kO X f (λd H Q=>r d H Q\/e d H Q):=by
 intro c s j H d i Q I g q;rcases q with q | q
 ·exact h c s j H d i Q I g q
 ·exact k c s j H d i Q I g q
def sD:kO X (.type "list") (λB H Q=>∃p i,B=[.ref p]/\(lT X.K H p i\/rN X.K H p i)/\∀l,H l=none->Q (.ref l) (gG H l (.lst i))):=by
 intro t s E H B F Q I r h;obtain⟨p,i,rfl,hq,q⟩:=h;obtain⟨u,rfl,C⟩:=oC r;cases C
 have fin:∀(c:List Value),gM i c->i.length<=bO->∀(d:Heap)(f:Nat),(∀b z,s.heap.get? b=some z->d.get? b=some z) ->
   d.get? s.heap.objs.size=some { cls:=.type "list",dict:=none,data:=.seq c.toArray f,slots:=#[] }->EP X t E Q (.ref s.heap.objs.size) { s with heap:=d }:=λc g k d f kp e=>
  ⟨.ref s.heap.objs.size,_,I.laid (t':=s.toks) kp (aN _) (show jY X.prog X.w _ d _ (.lst i)from⟨k,c,f,g,e⟩),Fo,q _ (I.hok.fresh (aN _))⟩
 rcases hq with hq | hq
 ·obtain⟨c,g,y,k⟩:=I.list hq;have j:=g.length;obtain⟨o,x,v,n,hd⟩:=y.isList;exact call_list_seq p (.inl Fo) x v hd (λd f kp e=>fin c g k d f kp e) (by simp only[bI]<;>lia)
 ·obtain⟨c,g,y,k⟩:=I.tuple hq;have j:=g.length;obtain⟨o,x,v,n,hd⟩:=y;exact call_list_seq p (.inr Fo) x v hd (λd f kp e=>fin c g k d f kp e) (by simp only[bI]<;>lia)
def jF:kO X (.type "tuple") (λx H Q=>∃p f,x=[.ref p]/\((lT X.K H p f/\∀l,H l=none->Q (.ref l) (gG H l (.tup f)))\/(rN X.K H p f/\Q (.ref p) H))):=by
 intro c s y H x C Q I r h;obtain⟨p,f,rfl,h⟩:=h;obtain⟨u,rfl,B⟩:=oC r;cases B;rcases h with⟨i,q⟩ | ⟨i,q⟩
 ·obtain⟨d,k,j,v⟩:=I.list i;have t:=k.length;refine call_tuple_list j.isList (λg kp=>?_) (by simp only[bI]<;>lia);have n:eG X c y H { s with heap:=g }:=I.kept (t':=s.toks) kp
  have z:eG X c y (gG H g.objs.size (.tup f)) { s with heap:=g.push { cls:=.type "tuple",data:=.seq d.toArray } }:=
   n.laid (t':=s.toks) (λb o e=>aJ _ e) (aN _) (show jY X.prog X.w _ _ _ (.tup f)from⟨v,d,k,CT.new _ _⟩)
  exact⟨.ref g.objs.size,_,z,Fo,q _ (n.hok.fresh (aN _))⟩
 ·obtain⟨d,k,j,v⟩:=I.tuple i;exact call_tuple_same j ⟨.ref p,H,I,Fo,q⟩
def Ha(K:aM)(T:String)(x:V)(H:Hp):Prop:=match x with
|.str _=>T="str"
|.int _=>T="int"
|.ref p=>(T="list"/\∃d,lT K H p d)\/(T="tuple"/\((∃o,K.lookup p=some o/\o.cls=.type "tuple"/\o.dict=none)\/∃d,rN K H p d)) \/
  (T="dict"/\((∃c,H p=some (.dK c))\/∃c,H p=some (.dT c)))\/(T="set"/\∃S n,H p=some (.set S n))
|_=>False
def RT{s:Shared}(I:eG X pins σ H s)(r:iJ x v)(ty:Ha X.K T x H) :
  s.TypeIs v T/\∀a,v=.ref a->∃ob,s.heap.get? a=some ob/\ob.dict=none:=by
 cases x with
 |str z=>
  obtain⟨t,rfl⟩:=r;cases (show T="str" from ty);exact⟨tx s z t,λ_ e=>nomatch e⟩
 |int i=>
  obtain⟨t,rfl⟩:=r;cases (show T="int" from ty);exact⟨typeIs_int s i t,λ_ e=>nomatch e⟩
 |ref p=>
  cases r;rcases ty with⟨rfl,l,g⟩ | ⟨rfl,⟨o,hk,f,hd⟩ | ⟨l,g⟩⟩ | ⟨rfl,hk⟩ | ⟨rfl,S,n,hk⟩
  ·obtain⟨k,_,j,_⟩:=I.list g;refine⟨j.isList.typeIs,λa e=>?_⟩;cases e;obtain⟨o,n,e,c,hd,_⟩:=j;exact⟨o,e,hd⟩
  ·refine⟨⟨o,I.kIn p o hk,f⟩,λa e=>?_⟩;cases e;exact⟨o,I.kIn _ o hk,hd⟩
  ·obtain⟨o,e,f,hd⟩:=I.tupleN g;refine⟨⟨o,e,f⟩,λa d=>?_⟩;cases d;exact⟨o,e,hd⟩
  ·have z:∃o,s.heap.get? p=some o/\o.ExactDict:=by
    rcases hk with⟨h,hk⟩ | ⟨h,hk⟩
    ·obtain⟨_,_,_,_,o,_,_,e,ex,_⟩:=I.hok p _ hk;exact⟨o,e,ex⟩
    ·obtain⟨_,_,_,_,o,_,_,e,ex,_⟩:=I.hok p _ hk;exact⟨o,e,ex⟩
   obtain⟨o,e,ex⟩:=z;refine⟨⟨o,e,ex.1⟩,λa d=>?_⟩;cases d;exact⟨o,e,ex.2.1⟩
  ·obtain⟨o,_,_,_,e,ex,_⟩:=I.hok p _ hk;refine⟨⟨o,e,ex.1⟩,λa d=>?_⟩;cases d;exact⟨o,e,ex.2.1⟩
 |_=>exact j4 ty
def Ip(K:aM)(T:String)(r:V->List V->Hp->VK->Prop)(to:TE):TE:=λd H Q=>to d H λx c=>Ha K T x c/\r x [] c Q
def Ft(K:aM)(T:String)(r:V->List V->Hp->VK->Prop)(to:TE)(t:TA):TE:=λd H Q=>to d H λx c=>Ha K T x c/\t d c λf e=>r x f e Q
variable{o e:Expr}{k:List Expr}{to:TE}{t:TA}{name:Str}{g d:Pos}{T id:String}{r:V->List V->Hp->VK->Prop}
def TJ(B:PlainAttrs T)(slot:Slot T name id)(j:typeOf (.builtin id)=pure (.type "method_descriptor"))(y:W4 X id r)(z:PE X o to)
  (f:v4 o name X.env (eval o X.env)=eval o X.env:=by rfl) (i:(g.endLine==d.line)=true:=by rfl):PE X (.Call (.Attribute o name g) [] [] d) (Ip X.K T r to):=by
 intro c s p H Q I h;refine ix f i (jR (z c s p H _ I h) λv C E=>?_);obtain⟨x,q,l,n,ty,q1⟩:=E;obtain⟨u,w⟩:=RT l n ty;exact⟨T,id,B,slot,j,u,w,y9 Fo (ig (y c C p q x [] v [] Q l n .nil q1))⟩
def kJ(L:PlainAttrs T)(slot:Slot T name id)(n:typeOf (.builtin id)=pure (.type "method_descriptor"))(G:W4 X id r)(J:PE X o to)(F:PA X (e::k) t)
  (i:v4 o name X.env (eval o X.env)=eval o X.env:=by rfl)
  (l:((l0 d (cD (e::k) X.env)).all (λx=>!x.1)&&(backToKw d (rl [] X.env)).all (λx=>x.1.isSome)
  &&decide ((e::k).length+([]:List uf).length+(if([]:List uf).isEmpty then 0 else 1)<30))=true:=by rfl)
  (j:(g.endLine==d.line)=true:=by rfl) (hs:cD (e::k) X.env=(false,eval e X.env)::cD k X.env:=by rfl) (f:(l0 d (cD k X.env)).any (·.1)=false:=by rfl) :
  PE X (.Call (.Attribute o name g) (e::k) [] d) (Ft X.K T r to t):=by
 intro c s p H Q I h;refine jh i l j Fo (jR (J c s p H _ I h) λv O S=>?_);obtain⟨x,y,q,w,ty,q1⟩:=S;obtain⟨C,E⟩:=RT q w ty;refine⟨T,id,L,slot,n,C,E,?_⟩;have u:=F d c O p y _ q q1;rw[hs]at u |-
 refine y9 (by show(false||(l0 d (cD k X.env)).any (·.1))=false;rw[f]<;>rfl) (gg ?_);exact jR u λR P ⟨vs,z,B,N,M⟩=>G c P p z x vs v R Q B w N M
end
def Iz(X:Cx)(id:String)(r:V->List V->Hp->VK->Prop):Prop:=
 ∀pins s σ H(x:V)(b:List V)(v:Value)(a:List Value)Q,eG X pins σ H s->iJ x v->gM b a->r x b H Q ->
  wpAny (model X.prog X.w) X.A (call (.builtin id) (v::a)) (EP X pins σ Q) X.xe s
def gM.one:∀{x us},gM [x] us->∃u,us=[u]/\iJ x u
|_,_,.cons r .nil=>⟨_,Fo,r⟩
def gM.zero:∀{us},gM [] us->us=[]
|_,.nil=>rfl
theorem gM.dropLast{b:List V}{a:List Value}(h:gM b a):gM b.dropLast a.dropLast:=by
 induction h with
 |nil=>exact .nil
 |cons r t c=>
  cases t with
  |nil=>exact .nil
  |cons q d=>exact .cons r c
def L3{d:Type}(l:List d):l.eraseIdx (l.length-1)=l.dropLast:=by
 induction l with
 |nil=>rfl
 |cons a r c=>
  cases r with
  |nil=>rfl
  |cons b r=>
   have e:(a::b::r).length-1=((b::r).length-1)+1:=by
    have f:(a::b::r).length=r.length+2:=rfl;have g:(b::r).length=r.length+1:=rfl;lia
   rw[e,List.eraseIdx_cons_succ,c]
   all_goals rfl
section
variable{X:Cx}{a:List (Addr×Obj)}{c:St}{H:Hp}{s:Shared}{l:Addr}{d b:List V}
def eG.lset{g its':List Value}{n:Nat}{f:Array Value->Array Value}{p:Nat}(I:eG X a c H s)(h:H l=some (.lst d))
  (e:s.heap.get? l=some { cls:=.type "list",data:=.seq g.toArray n }) (j:f g.toArray=its'.toArray) (m:gM b its') (o:b.length<=bO) :
  eG X a c (gG H l (.lst b)) { s with heap:=s.heap.update l (d0 f),toks:=p }:=by
 have q:=PySem.IsL.update e f;rw[j]at q;refine I.write (x:=l) (e:=l) (by rw[h];exact trivial) (.inl Fo) (λr u i k=>(iG s.heap (d0 f) (l6 i)).trans k) ⟨_,q⟩ ?_;exact⟨o,its',_,m,q⟩
def eG.lnew{e:List Value}{t':Nat}(I:eG X a c H s)(f:gM b e)(g:b.length<=bO) :
  eG X a c (gG H s.heap.objs.size (.lst b)) { s with heap:=s.heap.push { cls:=.type "list",data:=.seq e.toArray },toks:=t' }:=
 I.laid (λ_ _ q=>aJ _ q) (aN _) ⟨g,e,0,f,aV _ Fo⟩
theorem eG.fresh(I:eG X a c H s):H s.heap.objs.size=none:=I.hok.fresh (aN _)
def eG.lstM(I:eG X a c H s)(g:H l=some (.lst d)):d.length<=bO/\∃(f:List Value)(n:Nat),gM d f/\d.length=f.length/\s.heap.get? l=some { cls:=.type "list",data:=.seq f.toArray n }:=by
 obtain⟨z,f,n,r,e⟩:=I.hok l _ g;exact⟨z,f,n,r,r.length,e⟩
def T4{n:Nat}(h:n<=bO):u4 n=false:=by
 unfold u4;exact c4 Fl
end
section
variable{X:Cx}
def NH:V->List V->Hp->VK->Prop:=λx vs H Q=>∃l a y,x=.ref l/\vs=[y]/\H l=some (.lst a)/\a.length<bO/\Q .non (gG H l (.lst (a++[y])))
def iE:Iz X "list.append" NH:=by
 intro c s o H x vs v k Q I g f h;obtain⟨l,m,y,rfl,rfl,b,j,q⟩:=h;cases g;obtain⟨u,rfl,d⟩:=f.one;obtain⟨z,a,n,r,i,e⟩:=I.lstM b;refine bu F.slot_list_append ⟨_,e,Fo⟩ F.entry_list_append (F.args_list_append_2 _ _) (PySem.list_append l a.toArray n u (by rw[bI];lia)) ⟨e,?_⟩;refine⟨.non,_,I.lset (its':=a++[u]) b e Fm (r.append (.cons d .nil)) ?_,Fo,q⟩;rw[bG,lA];lia
def Ih:V->List V->Hp->VK->Prop:=λx vs H Q=>∃l a y,x=.ref l/\vs=[]/\H l=some (.lst a)/\a[a.length-1]?=some y/\Q y (gG H l (.lst a.dropLast))
def UJ:Iz X "list.pop" Ih:=by
 intro f s w H x vs v p Q I o m h;obtain⟨l,t,y,rfl,rfl,d,j,q⟩:=h;cases o;have b:=m.zero;subst b;obtain⟨z,a,n,r,g,e⟩:=I.lstM d;obtain⟨u,i,k⟩:=r.get j
 have c:a.toArray[a.toArray.size-1]?=some u:=by
  show a.toArray[a.length-1]?=some u;rw[<- eD,<- g];exact i
 refine bu F.slot_list_pop ⟨_,e,Fo⟩ F.entry_list_pop (F.args_list_pop_1 _) (MeetsSeq.list_pop_last l a.toArray n u c (by rw[bI];lia)) ⟨e,?_⟩;refine⟨y,_,I.lset (its':=a.dropLast) d e ?_ r.dropLast ?_,k,q⟩
 ·show a.toArray.eraseIdxIfInBounds (a.toArray.size-1)=a.dropLast.toArray;rw[bI,List.eraseIdxIfInBounds_toArray,L3]
 ·rw[OR];lia
end
end L2
namespace Att
open PySem.W PySem.Calls
def zX{h}:∀(ns:List Int)(vs:List Value),WellAll P h vs (ns.map WData.int)->IntsAre vs ns:=by
 intro ns
 induction ns with
 |nil=>
  intro vs w;rw[lV]at w;cases w;exact .nil
 |cons n ns c=>
  intro vs w;rw[bE]at w
  cases w with
  |cons a b=>
   cases a;exact .cons _ _ (c _ b)
def PD{l:OpenLaw}{n:Nat}(p:l.most=some n){h:Heap}{vals}
  (b:l.row.toRowW.claim.pre args=true) (i:WellAll P h vals args) :
  ∃a vs ns,vals=[c9 a]/\args=[WData.list (ns.map WData.int)]/\h.get? a=some { cls:=.type "list",data:=.seq vs.toArray }/\IntsAre vs ns/\ns.length<=n:=by
 have hsh:WShape.hasAll [] args [.list .int]=true:=(pre_splitW b).1;have j:l.pre.holds [] { args:=args }=true:=(pre_splitW b).2;obtain⟨d,r,rfl,k,m⟩:=hasAllW_cons hsh;obtain rfl:=hasAllW_nil m;obtain⟨w,rfl,o⟩:=hasW_list k;obtain⟨ns,rfl⟩:=items_int o
 have e:ns.length<=n:=by
  unfold OpenLaw.pre at j
  have f:(WTm.not (.lt (.lit (.int (n:Int))) (.len (.arg 0)))).holds [] { args:=[.list (ns.map .int)] }=true:=by
   have f:=(holds_andW j).1;rw[p]at f;exact f
  have g:=condW_of f (w_not (w_lt w_lit (w_len_list (w_arg Fo))));rw[aC]at g;refine aAs λq=>?_;have t:(n:Int)<((ns.length:Nat):Int):=by lia
  first
   | (rw[a8 t]at g;exact a9 g Fk)
   | (simp at g;lia)
 cases i with
 |cons u v=>
  cases v
  cases u with
  |list s c=>exact⟨_,_,ns,Fo,Fo,s,zX ns _ c,e⟩
def PL(l:OpenLaw)(args:List WData):l.row.toRowW.claim.post args (.bool true) args=true:=
 postW_of (r:=l.row.toRowW) (X:=(true==true))
  (show WShape.has [] (.bool true) .bool=true by first | rfl | decide | simp[WShape.has,WShape.arms,WShape.armsAll])
  (show(WTm.eq .res (.lit (.bool true))).value [] { args:=args,res:=some (.bool true),after:=args }=some (.bool (true==true))from w_eq_bool (w_res Fo) w_lit) Fo
def attach_call{l:OpenLaw}{n:Nat}{v:(Str->Option Value)->Heap->Prop}{x:c7->Heap->Prop}{d:DefRec}
  (K:l.most=some n) (m:d.params.defaults=[])
  (call:∀(w:c7)(s₀ b:Shared)(mg t:Str->Option Value)(fa:Addr)(o:Obj)(u cd c:Value)(a:Addr)(vs:List Value)(ns:List Int),
   Ground q loose [] v w s₀ mg t b.heap->x w b.heap ->
   b.heap.get? fa=some o->o.data=.func (docDef d.name d.params d.body d.scope u cd c)->b.heap.CodeRec cd d.name->mg d.name=some (.ref fa) ->
   b.heap.get? a=some { cls:=.type "list",data:=.seq vs.toArray }->IntsAre vs ns->ns.length<=n->b.gens=#[] ->
   z8 (model l.prog w) dw (.call (.ref fa) ⟨[.ref a],[]⟩) (λr j=>r=.ok (.ret (.bool true))/\OldK b.heap j.heap/\j.os=b.os/\bh j.gens) b) :
  WalkO q loose v x l.row.toRowW d [] (λf vs=>ij f vs):=by
 intro w s₀ b mg t G Y fa o u cd c B kV L hd k z p H y vals O i A N s I;obtain rfl:B=.none:=Dflts.none z m;obtain rfl:kV=.none:=Dflts.noKw z;obtain⟨a,vs,ns,rfl,rfl,h,e,g⟩:=PD K i s;refine enter_call (aj (call w s₀ b mg t fa o u cd c a vs ns G Y L (fd_plain hd) k p h e g H) λr j M=>?_);obtain⟨rfl,C,E,F⟩:=M;exact⟨.inl ⟨.bool true,.bool true,[],Fo,λ_=>rfl,.bool true,PL l _,λ_=>⟨HH.nil,λ_ J=>(nomatch J)⟩⟩,C,E,F⟩
end Att
namespace L2
theorem DQ:∀{vs}{ns:List Int},IntsAre vs ns->gM (ns.map V.int) vs
|_,_,.nil=>.nil
|_,_,.cons n t h=>.cons ⟨t,Fo⟩ (DQ h)
def Ho(H:Hp):Prop:=∀b,H b=none\/(∃o c,H b=some (.frz o (.lst c)))\/(tabA=some b/\∃a,H b=some (.tbl a))
def UW{K:aM}{mg mb:Str->Option Value}{CX:W6}{k:Nat}{fa a:Addr}{x:Str}{sp:Sp}{f:Shared}{vs:List Value}{ns:List Int}
  (KX:K.In f.heap) (T:f.heap.Ns iP mg) (i:f.heap.Ns ab mb) (Be:∀x:Str,x≠"__name__"->mb x=d2 x) (S:f.heap.NoLimit) (hg:f.gens=#[])
  (O:f.heap.get? a=some { cls:=.type "list",data:=.seq vs.toArray }) (hi:IntsAre vs ns) (hl:ns.length<=bO) (hr:Room k dw)
  (Bi:∃Q o,mg "__builtins__"=some (.ref Q)/\Q≠ab/\f.heap.get? Q=some o/\o.cls=.type "module"/\o.dict=some ab/\o.data=.plain)
  (I:∀P,tabA=some P->f.heap.get? P=some { cls:=.none,data:=.fields #[] }/\K.lookup P=none/\cn f.heap P)
  (F:∀base:Heap,K.In base->base.Ns iP mg->dU P w K mg base CX k fa fd [x] sp) (J:∀s(u:Value),BindsTo s fd ⟨[u],[]⟩ [(x,u)])
  (yx:∀H:Hp,Ho H->lT K H a (ns.map V.int)->sp [.ref a] H (λv _=>v=.bl true) λ_ _ _=>False)
  (Y:∀H e y,CX [] H f (λ_ _ _=>False) e y->False) :
  z8 (model P w) dw (.call (.ref fa) ⟨[.ref a],[]⟩) (λr y=>r=.ok (.ret (.bool true))/\OldK f.heap y.heap/\y.os=f.os/\bh y.gens) f:=by
 have rv:=DQ hi;have U:=hi.length
 have aT:∀P,tabA=some P->P≠a:=λP e z=>by
  have l:=(I P e).1;rw[z,O]at l;cases l
 have C:∀H:Hp,Ho H->lT K H a (ns.map V.int)->vI P w H f.heap->(∀b,H b≠none->b=a\/tabA=some b)->(H a≠none->K.lookup a=none)->Tb H ->
   z8 (model P w) dw (.call (.ref fa) ⟨[.ref a],[]⟩) (λr y=>r=.ok (.ret (.bool true))/\OldK f.heap y.heap/\y.os=f.os/\bh y.gens) f:=by
  intro H hO hS hok X hK Z;have j:∀{b:Addr}{o:Obj},f.heap.get? b=some o->H b=none->(GC f.heap H).get? b=some o:=λe n=>VD e n
  have Db:∀{b:Addr}{o:Obj}{M:Array x9}{L:Nat},f.heap.get? b=some o->o.data=.dict M L->H b=none:=λ{b o M L} e d=>by
   cases q:H b with
   |none=>rfl
   |some u=>
    rcases X b (by rw[q];simp)with e' | e'
    ·subst e';rw[O]at e;cases e;have G:Data.seq vs.toArray _=Data.dict M L:=d;cases G
    ·rw[(I b e').1]at e;cases e;have G:dm #[]=Data.dict M L:=d;cases G
  have Dc:∀{b:Addr}{o:Obj},f.heap.get? b=some o->o.data=.plain->H b=none:=λ{b o} e d=>by
   cases q:H b with
   |none=>rfl
   |some u=>
    rcases X b (by rw[q];simp)with e' | e'
    ·subst e';rw[O]at e;cases e;have G:Data.seq vs.toArray _=Data.plain:=d;cases G
    ·rw[(I b e').1]at e;cases e;have G:dm #[]=Data.plain:=d;cases G
  have A:∀{b:Addr}{m:Str->Option Value},f.heap.Ns b m->(GC f.heap H).Ns b m:=λ{b m} ⟨o,M,L,e,d,r⟩=>⟨o,M,L,j e (Db e d),d,r⟩
  have R:K.In (GC f.heap H):=λb o e=>j (KX b o e) (by
   cases q:H b with
   |none=>rfl
   |some u=>
    rcases X b (by rw[q];simp)with e' | e'
    ·subst e';rw[hK (by rw[q];simp)]at e;cases e
    ·rw[(I b e').2.1]at e;cases e)
  have hM:Mod K mg (GC f.heap H):=⟨R,A T,⟨mb,A i,Be⟩,let ⟨mc,l,N⟩:=S;⟨mc,A l,N⟩,let ⟨Q,o,b1,b2,b3,b4,b5,b6⟩:=Bi;⟨Q,o,b1,b2,j b3 (Dc b3 b6),b4,b5,b6⟩⟩;have e0:MN P w K mg (GC f.heap H) dw [] f H:=⟨Fo,hM,λb o e=>Y3 e,nX (QF _ _),trivial,λb i=>a9 (show b∈([]:List Addr)from i) Fm,hok,.of_eq hg,Z⟩;refine aj ((F _ R (A T)).run dw [] f H ⟨[.ref a],[]⟩ [.ref a] [.ref a] _ _ hr e0 (J f (.ref a)) (.cons Fo .nil) (yx H hO hS)) λr y h=>?_
  cases r with
  |error e=>exact(Y H e y h).elim
  |ok fl=>
   cases fl with
   |next=>exact j4 h
   |brk=>exact j4 h
   |cont=>exact j4 h
   |ret u=>
    obtain⟨v,H',os,bare,un,E,r',q⟩:=h;have q':v=.bl true:=q;subst q';obtain rfl:u=u6 true:=r'
    have old:∀b o,f.heap.get? b=some o->y.heap.get? b=some o\/(cn f.heap b/\o={ cls:=.none,data:=.fields #[] }/\∃qs:Array Value,y.heap.get? b=some { cls:=.none,data:=.fields qs }):=λb o e=>by
     cases q:H b with
     |none=>exact .inl (un.keep b o e q (by intro z;exact a9 (show b∈([]:List Addr)from z) Fm) Fm)
     |some u=>
      rcases hO b with z | ⟨ob,xs,z⟩ | ⟨t,ps,z⟩
      ·rw[q]at z;cases z
      ·have z2:=un.frzs b ob _ z;obtain⟨e1,_⟩:=hok b _ z;obtain⟨W,_⟩:=E b _ z2;rw[e]at e1;cases e1;exact .inl W
      ·obtain⟨l,N,h3⟩:=I b t;obtain⟨m,z2⟩:=un.tbls b ps z;obtain⟨qs,W,_⟩:=E b _ z2;rw[e]at l;cases l;exact .inr ⟨h3,Fo,qs,W⟩
    refine⟨Fo,⟨λb o e=>?_,λb o e=>?_⟩,os,bare⟩
    ·rcases old b o e with l | ⟨l,rfl,qs,N⟩
     ·exact .inl l
     ·exact .inr (.inl ⟨l,Fo,#[],qs,Fo,by rw[N];simp⟩)
    ·rcases old b o e with l | ⟨l,rfl,qs,N⟩
     ·exact⟨_,l⟩
     ·exact⟨_,N⟩
 have dT:∀b,Decidable (tabA=some b):=λb=>inferInstance
 cases hk:K.lookup a with
 |some o=>
  have e:=KX a o hk;rw[O]at e;cases e;refine C (λb=>if tabA=some b then some (.tbl #[])else none) (λb=>?_) (.inr ⟨_,vs.toArray,_,hk,Fo,Fo,Fo,by rw[bI,U];exact hl,by simpa using rv⟩) (λb u z=>?_) (λb z=>?_) (λz=>?_) λP e=>⟨#[],a7 e⟩
  ·by_cases i:tabA=some b
   ·exact .inr (.inr ⟨i,#[],a7 i⟩)
   ·exact .inl (a6 i)
  ·by_cases i:tabA=some b
   ·have B:=(a7 i).symm.trans z;cases B;exact⟨#[],(I b i).1,trivial,λp c q=>by cases q⟩
   ·have B:=(a6 i).symm.trans z;cases B
  ·by_cases i:tabA=some b
   ·exact .inr i
   ·exact a9 (a6 i) z
  ·exact a9 (a6 λe=>aT a e Fo) z
 |none=>
  refine C (λb=>if tabA=some b then some (.tbl #[])else if b=a then some (.frz { cls:=.type "list",data:=.seq vs.toArray } (.lst (ns.map V.int)))else none) (λb=>?_) (.inl (.inr ⟨{ cls:=.type "list",data:=.seq vs.toArray },(a6 λe=>aT a e Fo).trans (a7 Fo)⟩)) (λb u z=>?_) (λb z=>?_) (λ_=>hk) λP e=>⟨#[],a7 e⟩
  ·by_cases g:tabA=some b
   ·exact .inr (.inr ⟨g,#[],a7 g⟩)
   ·by_cases i:b=a
    ·exact .inr (.inl ⟨_,_,(a6 g).trans (a7 i)⟩)
    ·exact .inl ((a6 g).trans (a6 i))
  ·by_cases g:tabA=some b
   ·have B:=(a7 g).symm.trans z;cases B;exact⟨#[],(I b g).1,trivial,λp c q=>by cases q⟩
   ·by_cases i:b=a
    ·have B:=((a6 g).trans (a7 i)).symm.trans z;cases B;subst i;exact⟨O,by rw[aC];exact hl,vs,_,rv,O⟩
    ·have B:=((a6 g).trans (a6 i)).symm.trans z;cases B
  ·by_cases g:tabA=some b
   ·exact .inr g
   ·by_cases i:b=a
    ·exact .inl i
    ·exact a9 ((a6 g).trans (a6 i)) z
def XG{l:db}{n k:Nat}{I:(Str->Option Value)->Heap->Prop}{p:c7->Heap->Prop}{d:DefRec}{K:Params->aM}{CX:c7->W6}{sp:c7->Sp}
  (X:l.most=some n) (A:n<=bO) (y:d.params.defaults=[]) (Z:Room k dw)
  (Q:∀(w:c7)(h:Heap),p w h->(K w.params).In h) (O:∀(w:c7)(h:Heap),p w h->∀P,tabA=some P->h.get? P=some { cls:=.none,data:=.fields #[] }/\(K w.params).lookup P=none/\cn h P)
  (F:∀(w:c7)(mg:Str->Option Value)(fa:Addr)(h:Heap),(K w.params).In h->h.Ns iP mg->mg d.name=some (.ref fa) ->
   ∃r:iV,(∀s(u:Value),BindsTo s r ⟨[u],[]⟩ [(x,u)]) /\
    ∀base:Heap,(K w.params).In base->base.Ns iP mg->dU l.prog w (K w.params) mg base (CX w) k fa r [x] (sp w))
  (B:∀(w:c7)H(a:Addr)(ns:List Int),ns.length<=n->Ho H->lT (K w.params) H a (ns.map V.int)->sp w [.ref a] H (λv _=>v=.bl true) λ_ _ _=>False)
  (t:∀(w:c7)H s(e:Value)C,CX w [] H s (λ_ _ _=>False) e C->False) :
  W8 q loose I p l.row.toRowW d [] (λf vs=>ij f vs):=by
 refine Att.attach_call X y λw s₀ m mg mb fa o pm cd J a vs ns G Y ho hd S z j i c U=>?_;have E:=Q w _ Y;obtain⟨r,R,L⟩:=F w mg fa _ E G.T.g z;exact UW E G.T.g G.T.b G.T.builtins G.T.nolimit U j i (bJ c A) Z G.T.bmain (O w _ Y) L R (λH M N=>B w H a ns c M N) λH e C=>t w H m e C
noncomputable def xJ(s:Stmt):Arguments:=match s with
|.FunctionDef _ a _ _ _ _ _ _ _ _=>a
|_=>{ posonlyargs:=[],args:=[],vararg:=none,kwonlyargs:=[],kw_defaults:=[],kwarg:=none,defaults:=[] }
noncomputable def mJ(s:Stmt):List Stmt:=match s with
|.FunctionDef _ _ b _ _ _ _ _ _ _=>b
|_=>[]
noncomputable def aZ(s:Stmt):Scope:=match s with
|.FunctionDef _ _ _ _ _ _ sc _ _ _=>sc
|_=>{ kind:=.function,names:=[],isGenerator:=false,isCoroutine:=false }
abbrev hW:W6:=λ_ _ _ _ _ _=>False
abbrev E0:XK:=λ_ _ _=>False
def zJ:yY hW X E0:=λ_ _ _ _ _ _ _ h=>h.elim
structure Q5(K:aM)(x qual:Str)(st:Stmt)(f:Addr)(fd:iV):Prop where
 ex:∃(oc:Value)(od:Option Addr)(kV si pm:Value)(an:Option Addr)(er ct:Value)(ul:Array (Option Value)),
  fd=nG x qual (xJ st) (mJ st) (aZ st) .none kV si pm an er ct/\K.lookup f=some ⟨oc,od,.func fd,ul⟩/\pL K er qual=true
 kp:iC K (.ref f)=true
section
variable{P:cM}{w:c7}{K:aM}{mg:Str->Option Value}{base:Heap}
def Q5.ok{st}{f:Addr}{N e:List Str}{k:Nat}{g:Sp}(F:Q5 K x qual st f fd)(S:bX N e (aZ st))(len:∀vs H Q E,g vs H Q E->vs.length=e.length)
  (b:∀(a:Value)(A:d1)outer(s:Shared)H(vs:List V)Q E,Room k (A.deeper (aq qual (aZ st) s.heap.objs.size f a))->g vs H Q E ->
   ∃t,AC (zZ hW P w K mg base N qual (aZ st) f a A outer s H E).nox (mJ st) t/\t { nx:=λ_ i=>Q .non i,rt:=Q } (qR N vs) H):dU P w K mg base hW (k+1) f fd e g:=by
 obtain⟨o,p,kV,j,r,an,a,ct,n,rfl,m,c⟩:=F.ex;refine Lb m c S len λA outer s H vs Q E l d=>?_;obtain⟨t,h,q⟩:=b a A outer s H vs Q E l d;exact⟨t,h.nox,q⟩
def Q5.binds{st}{f:Addr}{d:List Str}(F:Q5 K x qual st f fd)
  (h:∀(kV b c:Value)(an:Option Addr)(a ct:Value)(e:List Value),e.length=d.length->bindArgs (nG x qual (xJ st) (mJ st) (aZ st) .none kV b c an a ct) ⟨e,[]⟩=pure (d.zip e)):sQ K fd d []:=by
 obtain⟨k,l,kV,b,c,an,a,ct,i,rfl,j,g⟩:=F.ex;exact .all (h kV b c an a ct)
def VM{st}{f:Addr}{kV}(l:K.lookup f=some ⟨oc,od,.func (nG x qual (xJ st) (mJ st) (aZ st) .none kV si pm an er ct),ul⟩)
  (c:pL K er qual=true) (k:iC K (.ref f)=true):Q5 K x qual st f (nG x qual (xJ st) (mJ st) (aZ st) .none kV si pm an er ct):=⟨⟨oc,od,kV,si,pm,an,er,ct,ul,Fo,l,c⟩,k⟩
end
def O6{n:Nat}(h:n<=1000):n<bO:=qM h Fk
section
variable{X:Cx}
def pv(i:Nat){x:Str}(b:X.N[i]?=some x:=by rfl)(c:Gq X.env.scope x:=by first | exact v7 Fo | exact r8 (v7 Fo) | exact r8 (r8 Fo))(hd:(x==("__debug__":Str))=false:=by decide)
  (a:(x==("__classdict__":Str))=false:=by decide):PE X (.Name x pos) (sS i):=S4 b c hd a
end
def bR(H a:Hp):Prop:=∀b o,H b=some o->a b=some o
def bR.refl(H:Hp):bR H H:=λ_ _ h=>h
def bR.trans(a:bR H H1)(b:bR H1 H2):bR H H2:=λc o h=>b c o (a c o h)
def bR.seq{K}{a:Addr}(e:bR H H')(h:lT K H a xs):lT K H' a xs:=by
 rcases h with(h | ⟨o,h⟩) | h
 ·exact .inl (.inl (e _ _ h))
 ·exact .inl (.inr ⟨o,e _ _ h⟩)
 ·exact .inr h
def ZV{E:Value->Shared->Prop}{Q:Unit->Shared->Prop}(a:Q () s) :
  wpAny M A (l9 tg it (.str z t)) Q E s:=by
 unfold l9
 cases tg<;>first
  |exact aG a
  | (cases it<;>exact aG a)
noncomputable def Gy(z:Str):It:=⟨λi _=>i<z.cps.size,λi H x a=>a=H/\∃c,z.cps[i]?=some c/\x=.str ⟨#[c]⟩,λi _=>z.cps.size<=i⟩
def OX{K}(it:Addr)(z:Str)(t:Tok)
  (W:∀A:d1,A.handled=none->Walks P w A it [it] [it] z.cps.size (SignAt z) (λi h=>h.IsStrIter it ty z t i))
  (S:∀A(i:Nat)(s:Shared)Q E,s.heap.IsStrIter it ty z t i->Q (.ref it) s->wpAny (model P w) A (bg (.ref it)) Q E s) :
  CS P w K tg (Gy z) [it] it (λi h=>i<=z.cps.size/\h.IsStrIter it ty z t i) where
 mem:=by simp
 obj:=λi h st b hb=>by
  obtain rfl:b=it:=by simpa using hb
  obtain⟨_,o,e,c,d⟩:=st;exact⟨o,e,λv q=>by rw[d]at q;cases q⟩
 keep:=λi h h' st k=>by
  obtain⟨l,o,e,r⟩:=st;exact⟨l,o,k it Fm o e,r⟩
 item:=by
  intro X hP hw hK hc i pins s σ H E I hf st hg;subst hP hw hK;obtain⟨f0,f1,f2,f3,f4,f5⟩:=hf it Fm;refine(W X.A (I.ok.hd hc)).item i s _ _ hg st.2 λv h' tk hv ei kk=>?_;obtain⟨c,u,hx,rfl⟩:=hv;have I1:eG X pins σ H { s with heap:=h',toks:=tk }:=I.turned (λb o hb e=>kk b o (by simpa using hb) e) f0 f1 f3 f4 f5;exact⟨_,Fo,ZV ⟨.str ⟨#[c]⟩,H,I1,⟨u,Fo⟩,⟨Fo,c,hx,Fo⟩,⟨hg,ei⟩,λb hb=>(hf b hb).1⟩⟩
 done:=by
  intro X hP hw hK hc i pins s σ H E I hf st hg;subst hP hw hK;obtain⟨f0,f1,f2,f3,f4,f5⟩:=hf it Fm;have e:i=z.cps.size:=aCl st.1 hg;subst e;exact(W X.A (I.ok.hd hc)).done s _ _ st.2 λh' tk kk=>⟨Fo,I.turned (λb o hb e=>kk b o (by simpa using hb) e) f0 f1 f3 f4 f5⟩
 self:=λA i s Q E st h=>S A i s Q E st.2 h
def Oj(K:aM)(d:TE):TI:=λe H R=>d e H λx b=>(∃a,x=.ref a/\(∃c,lT K b a c)/\R (Jb K a) b)\/(∃a,x=.ref a/\(∃c,rN K b a c)/\R (I3 K a) b)\/∃z,x=.str z/\R (Gy z) b
def Zt{X:Cx}(B:PE X l tl):PI X tg l (Oj X.K tl):=by
 intro f s y H R I h;refine jR (B f s y H _ I h) λv c J=>?_;obtain⟨x,k,d,r,q1⟩:=J;rcases q1 with⟨a,rfl,⟨G,n⟩,q⟩ | ⟨a,rfl,⟨G,n⟩,q⟩ | ⟨z,rfl,q⟩
 ·cases r;obtain⟨j,F,p,C⟩:=d.list n;refine v9 p.isList ⟨c.heap.objs.size,[c.heap.objs.size],_,_,k,Fo,d.kept (t':=c.toks) λb o e=>aJ _ e,OY a _,⟨_,aV _ Fo,Fo,Fo⟩,λb g=>?_,q⟩;obtain rfl:b=c.heap.objs.size:=by simpa using g
  exact d.fpOk (aN _) (d.hok.fresh (aN _))
 ·cases r;obtain⟨j,F,p,C⟩:=d.tuple n;refine uc (show c.heap.IsTuple a j.toArray from p) ⟨c.heap.objs.size,[c.heap.objs.size],_,_,k,Fo,d.kept (t':=c.toks) λb o e=>aJ _ e,KN a _,⟨_,aV _ Fo,Fo,Fo⟩,λb g=>?_,q⟩;obtain rfl:b=c.heap.objs.size:=by simpa using g
  exact d.fpOk (aN _) (d.hok.fresh (aN _))
 ·obtain⟨t,rfl⟩:=r
  have fin:∀(o:Obj)(ty:String),(∀A:d1,A.handled=none->Walks X.prog X.w A c.heap.objs.size [c.heap.objs.size] [c.heap.objs.size] z.cps.size (SignAt z) (λi h=>h.IsStrIter c.heap.objs.size ty z t i)) ->
    (∀A(i:Nat)(s:Shared)Q E,s.heap.IsStrIter c.heap.objs.size ty z t i->Q (.ref c.heap.objs.size) s->wpAny (model X.prog X.w) A (bg (.ref c.heap.objs.size)) Q E s) ->
    (c.heap.push o).IsStrIter c.heap.objs.size ty z t 0->Iy X f y tg R (.ref c.heap.objs.size) { c with heap:=c.heap.push o }:=λo ty W S st=>by
   refine⟨c.heap.objs.size,[c.heap.objs.size],_,Gy z,k,Fo,d.kept (t':=c.toks) λb o e=>aJ _ e,OX _ z t W S,⟨cI _,st⟩,λb g=>?_,q⟩;obtain rfl:b=c.heap.objs.size:=by simpa using g
   exact d.fpOk (aN _) (d.hok.fresh (aN _))
  cases u:z.cps.all (·<128)
  ·exact wpAny_pyIter_wide u (fin _ "str_iterator" (λA m=>Walks.strWide m _ z t) (λ_ _ _ _ _ st h=>wpAny_pyIter_striter_wide st h) ⟨_,aV _ Fo,Fo,Fo⟩)
  ·exact wpAny_pyIter_ascii u (fin _ "str_ascii_iterator" (λA m=>Walks.strAscii m _ z t) (λ_ _ _ _ _ st h=>wpAny_pyIter_striter_ascii st h) ⟨_,aV _ Fo,Fo,Fo⟩)
structure BP where
 cl:List (Str×Addr)
 C:Addr
 s3:Shared
 H3:Hp
 ex:List Addr
 pn:List (Addr×Obj)
noncomputable def blk(X:Cx)(scope:Scope)(N':List Str)(b:BP):Cx where
 prog:=X.prog
 w:=X.w
 K:=X.K
 mg:=X.mg
 base:=X.base
 A:=X.A
 N:=N'
 s₀:=b.s3
 H₀:=b.H3
 env:=compEnvC scope b.cl b.C X.env
 outer:=X.stack
 stack:=X.stack
 ex:=b.ex
 fn:=λx=>scope.names.lookup x==some .cell
 calm:=X.calm
 pn:=b.pn
 xe:=λ_ _=>False
theorem vX{env:Env}:∀(f:List (Str×u5))(b:List (Str×Addr)),(∀x∈f,x.2=.free->∃c,env.cells.lookup x.1=some c) ->
 (∀n c,b.lookup n=some c->env.cells.lookup n=some c) ->
 ∃cl:List (Str×Addr),(qz f b (λx o=>match x with | (name,kind)=>if kind==.free then do let a <- cellOf env name;pure (g7 ((name,a)::o))else pure (g7 o)):Sem (List (Str×Addr)))=pure cl /\
  (∀n c,cl.lookup n=some c->env.cells.lookup n=some c)/\(∀n,((∃c,b.lookup n=some c)\/(n,f6)∈f)->∃c,cl.lookup n=some c)
|[],b,_,ha=>⟨b,Fo,ha,λn h=>h.elim id λz=>a9 z Fm⟩
| (n,k)::r,b,h,ha=>by
 by_cases hk:k=.free
 ·subst hk;obtain⟨c,p⟩:=h (n,.free) (aS ..) Fo
  obtain⟨cl,e,i,j⟩:=vX r ((n,c)::b) (λx l=>h x (aO _ l)) (λm d hm=>by
   rw[gW]at hm
   cases g:m==n with
   |true=>
    rw[g]at hm;obtain rfl:m=n:=by simpa using g
    cases hm;exact p
   |false=>rw[g]at hm;exact ha m d hm)
  refine⟨cl,?_,i,λm hm=>j m ?_⟩
  ·rw[aAw];have s:cellOf env n=pure c:=by unfold cellOf;rw[p]
   simp only[ii,ak,s];exact e
  ·rcases hm with⟨d,hd⟩ | hm
   ·left
    rw[gW]
    cases g:m==n with
    |true=>exact⟨c,Fo⟩
    |false=>exact⟨d,hd⟩
   ·rcases aY.mp hm with z | z
    ·left
     cases z;exact⟨c,by simp[gW]⟩
    ·exact .inr z
 ·obtain⟨cl,e,i,j⟩:=vX r b (λx l=>h x (aO _ l)) ha;refine⟨cl,?_,i,λm hm=>j m (hm.imp id λz=>?_)⟩
  ·rw[aAw];have q:(k==f6)=false:=by simpa using hk
   simp only[q,eH,h7];exact e
  ·rcases aY.mp z with z | z
   ·cases z;exact a9 Fo hk
   ·exact z
def vW{env:Env}{scope:Scope}(h:∀x∈scope.names,x.2=.free->∃c,env.cells.lookup x.1=some c) :
  ∃cl,closureFor scope env=pure cl/\(∀n c,cl.lookup n=some c->env.cells.lookup n=some c)/\∀n,(n,f6)∈scope.names->∃c,cl.lookup n=some c:=by
 obtain⟨cl,e,a,b⟩:=vX (env:=env) scope.names [] h (λn c z=>by simp at z);refine⟨cl,?_,a,λn z=>b n (.inr z)⟩;unfold closureFor;refine Eq.trans ?_ (e8 (λm=>m >>= λr=>(pure r:Sem (List (Str×Addr)))) e)
 rfl
theorem rX{env:Env}:∀{names:List (Str×u5)},
 (names.map λ(n,k)=>if(k==f6&&env.scope.kind==.function&&env.kindOf n==some .cell)then(n,d4)else(n,k)).lookup x=some k ->
 ∃b,(x,b)∈names/\(b=k\/(b=.free/\k=.cell))
|[],h=>by simp at h
| (n,j)::r,h=>by
 rw[bE,gW]at h;dsimp only at h;by_cases c:(j==f6&&env.scope.kind==.function&&env.kindOf n==some .cell)=true
 ·rw[a7 c]at h;dsimp only at h
  cases a:x==n with
  |true=>
   rw[a]at h;obtain rfl:x=n:=by simpa using a
   cases h;have f:j=.free:=by simp only[dN,fk]at c;exact c.1.1
   exact⟨j,aS ..,.inr ⟨f,Fo⟩⟩
  |false=>
   rw[a]at h;obtain⟨b,d,e⟩:=rX (names:=r) h;exact⟨b,aO _ d,e⟩
 ·rw[a6 c]at h;dsimp only at h
  cases a:x==n with
  |true=>
   rw[a]at h;obtain rfl:x=n:=by simpa using a
   cases h;exact⟨_,aS ..,.inl Fo⟩
  |false=>
   rw[a]at h;obtain⟨b,d,e⟩:=rX (names:=r) h;exact⟨b,aO _ d,e⟩
theorem wU{env:Env}:∀{names:List (Str×u5)},names.lookup x=some .free ->
 (names.map λ(n,k)=>if(k==f6&&env.scope.kind==.function&&env.kindOf n==some .cell)then(n,d4)else(n,k)).lookup x=some .cell \/
 (names.map λ(n,k)=>if(k==f6&&env.scope.kind==.function&&env.kindOf n==some .cell)then(n,d4)else(n,k)).lookup x=some .free
|[],h=>by simp at h
| (n,j)::r,h=>by
 rw[gW]at h;rw[bE,gW];dsimp only
 cases a:x==n with
 |true=>
  rw[a]at h;cases h;by_cases b:(f6==f6&&env.scope.kind==.function&&env.kindOf n==some .cell)=true
  ·rw[a7 b];dsimp only;rw[a];exact .inl Fo
  ·rw[a6 b];dsimp only;rw[a];exact .inr Fo
 |false=>
  rw[a]at h;have c:=wU (env:=env) (names:=r) h;by_cases b:(j==f6&&env.scope.kind==.function&&env.kindOf n==some .cell)=true
  ·rw[a7 b];dsimp only;rw[a];exact c
  ·rw[a6 b];dsimp only;rw[a];exact c
noncomputable def tY(a outer:List (Str×u5))(b:List Str):List Str->List (Option Nat)->Bool
|[],[]=>true
|x::r,none::f=>tY a outer b r f
|x::r,some j::f=>(a.lookup x==some .free)&&(b[j]?==some x)&&(outer.lookup x==some .cell)&&tY a outer b r f
|_,_=>false
theorem yQ{a outer:List (Str×u5)}:∀{N':List Str}{fr:List (Option Nat)},tY a outer Nx N' fr=true ->
 N'.length=fr.length/\∀(i:Nat)(x:Str)(j:Nat),N'[i]?=some x->fr[i]?=some (some j)->a.lookup x=some .free/\Nx[j]?=some x/\outer.lookup x=some .cell
|[],[],_=>⟨Fo,λi x j h=>by simp at h⟩
|x::r,none::f,h=>by
 obtain⟨d,e⟩:=yQ (N':=r) (fr:=f) h;refine⟨by simp[d],λi y j c b=>?_⟩
 cases i with
 |zero=>simp at b
 |succ i=>exact e i y j (by simpa using c) (by simpa using b)
|x::r,some k::f,h=>by
 simp only[tY,dN,fk]at h;obtain⟨⟨⟨a1,a2⟩,g⟩,h⟩:=h;obtain⟨d,e⟩:=yQ (N':=r) (fr:=f) h;refine⟨by simp[d],λi y j c b=>?_⟩
 cases i with
 |zero=>
  simp at c b;subst c;subst b;exact⟨a1,a2,g⟩
 |succ i=>exact e i y j (by simpa using c) (by simpa using b)
|[],_::_,h=>by simp[tY]at h
|_::_,[],h=>by simp[tY]at h
noncomputable def xE(a:List (Option Nat))(b:St):St:=a.map λo=>o.bind λj=>(b[j]?).join
def vI.but{h}{a:Addr}(ok:vI P w H h)(n:H a=none)(d:cU a h h'):vI P w H h':=λb ob e=>by
 refine(ok b ob e).stay (λc u hc q=>(d.2 c ?_).trans q) (λ_ q=>q) λ_ _ q=>q;rintro rfl;rcases hc with rfl | hc
 ·rw[n]at e;cases e
 ·rw[n]at hc;cases hc
def Q4(X:Cx)(a:List Expr)(b:TT):Prop:=
 ∀pins s σ H(Q:Bool->Hp->Prop),eG X pins σ H s->b σ H Q ->
  wpAny (model X.prog X.w) X.A (qz a true λc r=>if r=true then do let ok <- isTrue c X.env (eval c X.env);pure (g7 ok)else pure (g7 r)) (TP X pins σ Q) X.xe s
def XL:TT:=λ_ H Q=>Q true H
def YU:Q4 X [] XL:=λ_ _ _ H _ I h=>wpAny_tests_nil ⟨H,I,h⟩
def YT(h:PT X c tt):Q4 X [c] tt:=λa s b H Q I q=>wpAny_tests_one (h a s b H Q I q)
def RY(q:List (Option Nat))(t:TI)(g:BP->TG)(s:BP->TT)(r:BP->TE):TE:=λp H Q=>t p H λJ k=>∀(h:BP)(a:Addr),k a=none->∃W:Nat->Nat->St->Hp->Prop,
 (∃m,W 0 m (xE q p) (gG k a (.lst [])))/\∀i m f d,W i m f d ->
  (J.stop i d/\Q (.ref a) d)\/(J.go i d/\∀x l,J.yld i d x l->g h x f l λc H3=>s h c H3 λb n=>
   if b=true then r h c n λy o=>∃j,o a=some (.lst j)/\j.length<bO/\∃e,e<m/\W (i+1) e c (gG o a (.lst (j++[y])))
   else∃e,e<m/\W (i+1) e c n)
theorem sC:∀{a:List (Str×u5)},a.filter (λy=>y.2==d4)=[]->∀(n:Nat)(b:List (Str×Addr))h,bd n a b=b/\fc h a=h
|[],_,_,_,_=>⟨Fo,Fo⟩
| (x,k)::r,e,n,b,h=>by
 rw[cH]at e
 cases hk:(k==d4)with
 |true=>dsimp only at e;rw[hk,a7 rfl]at e;cases e
 |false=>
  dsimp only at e;rw[hk,a6 bN]at e;unfold bd fc;rw[hk,a6 bN,a6 bN];exact sC e n b h
theorem yV{z:Str}:∀{a:List (Str×u5)},a.filter (λy=>y.2==d4)=[(z,.cell)]->∀(n:Nat)(b:List (Str×Addr))(h:Heap),bd n a b=(z,n)::b/\fc h a=h.push { cls:=.type "cell",data:=.cell none }
|[],e,_,_,_=>by cases e
| (x,k)::r,e,n,b,h=>by
 rw[cH]at e
 cases hk:(k==d4)with
 |true=>
  dsimp only at e;rw[hk,a7 rfl]at e;injection e with c d
  injection c with c _
  subst c;unfold bd fc;rw[hk,a7 Fo,a7 rfl];exact sC d (n+1) ((x,n)::b) _
 |false=>
  dsimp only at e;rw[hk,a6 bN]at e;unfold bd fc;rw[hk,a6 bN,a6 bN];exact yV e n b h
def uW(a:List (Str×u5)):Prop:=a.filter (λy=>y.2==d4)=[]\/∃z,a.filter (λy=>y.2==d4)=[(z,.cell)]/\a.lookup z=some .cell
structure aPc(names:List (Str×u5))(cl ug:List (Str×Addr))(h:Heap)(C:Addr):Prop where
 get:∀x c,ug.lookup x=some c->(C<c/\(x,d4)∈names/\h.IsCell c none)\/(cl.lookup x=some c/\(x,d4)∉names)
 old:∀x c,names.lookup x=some .free->cl.lookup x=some c->ug.lookup x=some c
 has:∀x,(x,d4)∈names->∃c,ug.lookup x=some c
 keep:∀x c,cl.lookup x=some c->∃c',ug.lookup x=some c'
 inj:∀x y c,ug.lookup x=some c->ug.lookup y=some c->C<c->x=y
def Y9{E:Value->Shared->Prop}{s:Shared}{d:Scope}{globals:Addr}{a:List (Str×Addr)}{Q:Env->Shared->Prop}(i:uW d.names)(j:∀x c,a.lookup x=some c->c<s.heap.objs.size)
  (B:∀r k,r.Ns s.heap.objs.size (λ_=>none)->(∀b o,s.heap.get? b=some o->r.get? b=some o)->aPc d.names a k r s.heap.objs.size->Q (newEnv d s.heap.objs.size globals k qual none .none (some outer) ab) { s with heap:=r }) :
  wpAny M A (gw d globals a [] qual none .none (some outer)) Q E s:=by
 simp only[gw,Option.isSome_some,ak];refine aB (wpAny_alloc ?_);refine aB (wpAny_layCells _ (λname kind u=>by cases v:kind==d4<;>simp[v]) _ _ _ _ ?_);have mem:∀x,(x,d4)∈d.names->(x,d4)∈d.names.filter (λy=>y.2==d4):=λx f=>cL.mpr ⟨f,Fo⟩;rcases i with i | ⟨z,i,m⟩
 ·rw[(sC i _ _ s.heap).1,(sC i 0 [] _).2]
  have C:∀x,(x,d4)∉d.names:=λx f=>by
   have:=mem x f;rw[i]at this;cases this
  exact aB (aG (aG (B _ _ (Heap.Ns.new s.heap (.type "dict")) (λb o e=>aJ _ e) ⟨λx c h=>.inr ⟨h,C x⟩,λx c _ h=>h,λx h=>a9 h (C x),λx c h=>⟨c,h⟩,λx y c h _ l=>a9 (j x c h) (uI l)⟩)))
 ·rw[(yV i _ _ s.heap).1,(yV i 0 [] _).2,show({ s with heap:=s.heap.push { cls:=.type "dict",data:=.dict #[] } }:Shared).heap.objs.size=s.heap.objs.size+1 from eV ..]
  have p:∀x,(x,d4)∈d.names->x=z:=λx f=>by
   have:=mem x f;rw[i]at this;exact e8 Prod.fst (dH.mp this)
  have w:∀x c,((z,s.heap.objs.size+1)::a).lookup x=some c->(x=z/\c=s.heap.objs.size+1)\/(x≠z/\a.lookup x=some c):=λx c h=>by
   rw[gW]at h
   cases t:x==z with
   |true=>rw[t]at h;cases h;exact .inl ⟨ey t,Fo⟩
   |false=>rw[t]at h;exact .inr ⟨ne_of_beq_false t,h⟩
  have q:∀x c,x≠z->a.lookup x=some c->((z,s.heap.objs.size+1)::a).lookup x=some c:=λx c f h=>by
   rw[gW,beq_eq_false_iff_ne.mpr f];exact h
  have g:((s.heap.push { cls:=.type "dict",data:=.dict #[] }).push { cls:=.type "cell",data:=.cell none }).get? (s.heap.objs.size+1)=some { cls:=.type "cell",data:=.cell none }:=by
   have:=aV (s.heap.push { cls:=.type "dict",data:=.dict #[] }) (o:={ cls:=.type "cell",data:=.cell none }) Fo
   rwa [eV]at this
  refine aB (aG (aG (B _ _ ((Heap.Ns.new s.heap (.type "dict")).keeps λb o e=>aJ _ e) (λb o e=>aJ _ (aJ _ e)) ⟨λx c h=>?_,λx c f h=>q x c (λe=>by rw[e,m]at f;cases f) h,λx f=>⟨s.heap.objs.size+1,by rw[p x f];simp⟩,λx c h=>?_,λx y c J K l=>?_⟩)))
  ·rcases w x c h with⟨rfl,rfl⟩ | ⟨n,h⟩
   ·exact .inl ⟨fA _,i3 m,_,g,Fo⟩
   ·exact .inr ⟨h,λf=>n (p x f)⟩
  ·by_cases e:x=z
   ·exact⟨s.heap.objs.size+1,by rw[e];simp⟩
   ·exact⟨c,q x c e h⟩
  ·rcases w x c J with⟨F,_⟩ | ⟨_,H⟩
   ·rcases w y c K with⟨G,_⟩ | ⟨_,I⟩
    ·exact F.trans G.symm
    ·exact a9 (j y c I) (uI l)
   ·exact a9 (j x c H) (uI l)
section
variable{X:Cx}
def QP{R:Result->Shared->Prop}{iter}(I:Nat->Shared->Prop)
  (turn:∀n s,I n s->wpAny (model prog w) A (u3 it) (λr a=>match r with
   |none=>R (.ok .next) a
   |some v=>wpAny (model prog w) A (l9 target it v) (λ_ u=>wpAny (model prog w) A (em target env v) (λ_ i=>
     wpAny (model prog w) A (qz t true λc r=>if r=true then do let ok <- isTrue c env (eval c env);pure (g7 ok)else pure (g7 r)) (λok b=>
      if ok=true then wpAny (model prog w) A (eval f env) (λx j=>wpAny (model prog w) A (call (.builtin "list.append") [acc,x]) (λ_ k=>∃m,m<n/\I m k) (λ_ _=>False) j) (λ_ _=>False) b
      else∃m,m<n/\I m b) (λ_ _=>False) i) (λ_ _=>False) u) (λ_ _=>False) a) (λ_ _=>False) s)
  (n:Nat) (h:I n s):z8 (model prog w) A (.compLoop (.ListComp f [⟨target,iter,t,0⟩] scope pos) 0 it acc env) R s:=by
 refine codeAny_loop Fo I (λn s B=>?_) n h;show wpAny _ A ((compTurn (.ListComp f [⟨target,iter,t,0⟩] scope pos) 0 it acc env).onRaise (λx=>do noteFrame x env;theTreesLotGoes x)) _ _ s;refine wpAny_noted ?_;rw[compTurn_list];have l:∀{E:Value->Shared->Prop}(e:Value)(s:Shared),False->E e s:=λ_ _ z=>z.elim;refine aB (wpAny_standAt (aB (gO (turn n s B) (λr a d=>?_) l)))
 cases r with
 |none=>exact aG d
 |some v=>
  refine aB (gO d (λ_ u y=>aB (gO y (λ_ i o=>aB (gO o (λok b g=>?_) l)) l)) l)
  cases ok with
  |false=>exact aG ⟨Fo,g⟩
  |true=>exact aB (aB (gO g (λx j p=>aB (gO p (λ_ k q=>aG (aG ⟨Fo,q⟩)) l)) l))
variable{f iter F:Expr}{t:List Expr}{scope:Scope}{pos:Pos}{B:List Str}{G:List (Option Nat)}{O:TI}{g:BP->TG}{M:BP->TT}{L:BP->TE}
def JD{H2:Hp}{s2:Shared}{it:Addr}{tn:Nat->Heap->Prop}{J:It}{Q:VK}{RR:Value->Addr->Result->Shared->Prop}{cl:List (Str×Addr)}{E:Value->Shared->Prop}
  (Y:X.calm=true) (vy:scope.kind=.function) (hz:uW scope.names) (Br:tY scope.names X.env.scope.names X.N B G=true)
  (H:∀n c,cl.lookup n=some c->X.env.cells.lookup n=some c) (vh:∀n,(n,f6)∈scope.names->∃c,cl.lookup n=some c)
  (hY:∀b:BP,PG (blk X scope B b) F (g b)/\Q4 (blk X scope B b) t (M b)/\PE (blk X scope B b) f (L b))
  (I2:eG X pins σ H2 s2) (T:CS X.prog X.w X.K F J fp it tn) (sr:tn 0 s2.heap) (f2:∀b∈fp,AD X pins H2 b)
  (q:∀(bp:BP)(P:Addr),H2 P=none->∃W:Nat->Nat->St->Hp->Prop,(∃m,W 0 m (xE G σ) (gG H2 P (.lst [])))/\∀i m U S,W i m U S ->
   (J.stop i S/\Q (.ref P) S)\/(J.go i S/\∀x H2,J.yld i S x H2->g bp x U H2 λxk H3=>M bp xk H3 λb H4=>
    if b=true then L bp xk H4 λy H5=>∃ys,H5 P=some (.lst ys)/\ys.length<bO/\∃m',m'<m/\W (i+1) m' xk (gG H5 P (.lst (ys++[y])))
    else∃m',m'<m/\W (i+1) m' xk H4))
  (Ay:∀P C s' HY m,eG X pins σ HY s'->AD X pins HY C->s'.heap.Ns C m->Q (.ref P) HY->RR (.ref P) C (.ok .next) s') :
  wpAny (model X.prog X.w) X.A (uk []) (λP zi=>wpAny (model X.prog X.w) X.A (gw scope X.env.globals cl [] X.env.qual none .none (some X.env)) (λvc zj=>
   z8 (model X.prog X.w) X.A (.compStart (.ListComp f [⟨F,iter,t,0⟩] scope pos) 0 (.ref it) P { vc with scope:=relabel scope X.env }) (RR P vc.locals) zj) E zi) E s2:=by
 obtain⟨Bq,Bp⟩:=yQ Br;have yc:H2 s2.heap.objs.size=none:=I2.hok.fresh (aN _);refine dI ?_ (by show 0<=bO;exact cI _)
 generalize yw:({ s2 with heap:=s2.heap.push { cls:=.type "list",dict:=none,data:=.seq ([]:List Value).toArray } }:Shared)=s3
 have s:eG X pins σ (gG H2 s2.heap.objs.size (.lst [])) s3:=by
  rw[<- yw];exact I2.laid (t':=s2.toks) (λb u e=>aJ _ e) (aN _) ⟨cI _,[],0,.nil,aV _ Fo⟩
 have vo:∀b∈fp,b<s3.heap.objs.size:=λb a=>by
  obtain⟨o,e,_⟩:=T.obj 0 _ sr b a;rw[<- yw];exact bF (aJ _ e)
 have Ad:tn 0 s3.heap:=T.keep 0 _ _ sr λb _ o e=>by rw[<- yw];exact aJ _ e
 have f3:∀b∈fp,AD X pins (gG H2 s2.heap.objs.size (.lst [])) b:=λb a=>⟨by
  obtain⟨o,e,_⟩:=T.obj 0 _ sr b a;rw[cN (bS (bF e))];exact(f2 b a).1,(f2 b a).2⟩
 refine Y9 hz (λx c e=>by obtain⟨v,o,ho,_⟩:=s.cell x c (H x c e);exact bF ho) λwe I rh keep R=>?_
 generalize Aw:gG H2 s2.heap.objs.size (.lst [])=H3 at *
 generalize E1:s2.heap.objs.size=ac at *
 generalize hC:s3.heap.objs.size=C at *
 obtain⟨W,⟨m0,w0⟩,turn⟩:=q ⟨I,C,s3,H3,fp,X.pn++pins⟩ ac yc;rw[Aw]at w0
 have Z:∀x c,X.env.cells.lookup x=some c->c<C:=λx c e=>by
  obtain⟨v,o,ho,_⟩:=s.cell x c e;rw[<- hC];exact bF ho
 have vg:∀b∈fp,b≠C:=λb a=>by exact bS (vo b a)
 have zt:X.env.locals<C:=by rw[<- hC];exact s.lt
 have yy:∀b∈JM X.stack,b≠C/\H3 b=none:=λb a=>⟨by
  rintro rfl;rcases aY.mp (s.stkSub b a)with z | z
  ·rw[z]at zt;exact a9 zt (iT _)
  ·exact s.nofs (by rw[hC];exact aN _) z,s.stkFree b a⟩
 have xx:∀x c,X.env.cells.lookup x=some c->c≠C:=λx c e z=>by
  obtain⟨v,o,ho,_⟩:=s.cell x c e;have:=bF ho;rw[z,hC]at this;exact a9 this (iT _)
 -- the block's context
 have Di:(blk X scope B ⟨I,C,s3,H3,fp,X.pn++pins⟩).Ok:=by
  refine⟨s.ok.mod,vy,s.ok.glob,s.ok.blt,nX hC,λx y c h1 h2=>by
   rcases R.get x c h1 with⟨l1,_⟩ | ⟨g1,_⟩<;>rcases R.get y c h2 with⟨l2,_⟩ | ⟨g2,_⟩
   ·exact R.inj x y c h1 h2 l1
   ·exact a9 (Z y _ (H y _ g2)) (uI l1)
   ·exact a9 (Z x _ (H x _ g1)) (uI l2)
   ·exact s.ok.inj x y c (H x c g1) (H y c g2),λx hx=>?_,λx c hf h=>by
   rcases R.get x c h with⟨l,_⟩ | ⟨_,n⟩
   ·exact bJ (nX hC) (iU l)
   ·exact a9 (i3 (beq_iff_eq.mp hf)) n,λ_=>s.ok.hd Y,s.ok.frames,.inl Fo,
   λb a=>⟨vg b a,λx c h=>by
    rcases R.get x c h with⟨l,_⟩ | ⟨h,_⟩
    ·exact fM (MS (vo b a) l)
    ·exact(f3 b a).2.2.2.2.1 x c (H x c h)⟩,λb o e=>s.bs b o e,?_,λb o e a=>?_,λb a hs=>?_,s.stack,λb a=>(yy b a).2,s.env0.tab⟩
  ·have uz:∀k,(relabel scope X.env).names.lookup x=some k->(k=.cell\/k=.free)->∃c,(I).lookup x=some c:=λk h hk=>by
    obtain⟨k0,h1,h2⟩:=rX h;rcases(show k0=.cell\/k0=.free from h2.elim (λe=>by rw[e];exact hk) λe=>.inr e.1)with rfl | rfl
    ·exact R.has x h1
    ·obtain⟨c,hc⟩:=vh x h1;exact R.keep x c hc
   rcases hx with hx | hx
   ·exact uz _ hx (.inl Fo)
   ·exact uz _ hx (.inr Fo)
  ·exact bJ s.ok.bsz (bJ s.sz (aN _))
  ·rcases(f3 b a).2.2.2.1 with z | z
   ·exact s.ok.noex b o e z
   ·exact a9 (cX (bF (s.ok.bs b o e).1) z) (iT _)
  ·rcases aY.mp (s.stkSub b hs)with z | z
   ·exact(f3 b a).2.1 z
   ·exact(f3 b a).2.2.1 z
 have yb:H3 C=none:=s.hok.fresh (nX hC)
 have IY:eG (blk X scope B ⟨I,C,s3,H3,fp,X.pn++pins⟩) [] (xE G σ) H3 { s3 with heap:=we }:=by
  refine⟨Di,Fo,s.bare,Un.kept keep,⟨_,rh,λi x v h1 h2 _=>?_⟩,λx c e=>?_,yb,λx c e=>(by
   rcases R.get x c e with⟨l,_⟩ | ⟨e,_⟩
   ·exact s.hok.fresh (by rw[hC];exact iU l)
   ·exact s.freeC x c (H x c e)),λp hp=>?_,s.hok.kept keep,?_⟩
  ·have e:∃j,G[i]?=some (some j)/\σ[j]?=some (some v):=by
    unfold xE at h2;rw[aI]at h2
    cases hf:G[i]? with
    |none=>rw[hf]at h2;cases h2
    |some o=>
     rw[hf]at h2
     cases o with
     |none=>cases h2
     |some j=>
      refine⟨j,Fo,?_⟩;have sx:(σ[j]?).join=some v:=by simpa using h2
      cases hj:σ[j]? with
      |none=>rw[hj]at sx;cases sx
      |some o=>rw[hj]at sx;rw[show o=some v from sx]
   obtain⟨j,e1,e2⟩:=e;obtain⟨a1,a2,a3⟩:=Bp i x j h1 e1;obtain⟨m,hn,hl⟩:=s.loc;obtain⟨u,r,l⟩:=hl j x v a2 e2 (.inr (.inl a3));refine⟨u,r,.inr ⟨wU a1,?_⟩⟩;rcases l with⟨k,_⟩ | ⟨_,c,hc,o,ho,hd⟩
   ·have k':X.env.scope.names.lookup x=some .local:=k;rw[a3]at k';cases k'
   ·obtain⟨c',dn⟩:=vh x (i3 a1);have z:=H x c' dn;rw[hc]at z;cases z;exact⟨c,R.old x c a1 dn,o,keep c o ho,hd⟩
  ·rcases R.get x c e with⟨_,_,Ci⟩ | ⟨e,_⟩
   ·exact⟨none,Ci⟩
   ·obtain⟨v,o,ho,hd⟩:=s.cell x c (H x c e);exact⟨v,o,keep c o ho,hd⟩
  ·obtain⟨e,n,ne,nf,d⟩:=s.pin p (by have td:p∈(X.pn++pins)++[]:=hp;simpa using td);refine⟨keep _ _ e,n,?_,λz=>?_,d⟩
   ·have:=bF e;rw[hC]at this;exact bS this
   ·rcases aY.mp (s.stkSub p.1 z)with z | z
    ·exact ne z
    ·exact nf z
  ·unfold xE;rw[aC];exact Bq.symm
 have tw:∀{S:Hp},(∀b∈fp,S b=none)->∀b∈fp,AD (blk X scope B ⟨I,C,s3,H3,fp,X.pn++pins⟩) [] S b:=λ{S} hn b a=>
  ⟨hn b a,vg b a,λz=>by
   rcases aY.mp (s.stkSub b z)with z | z
   ·exact(f3 b a).2.1 z
   ·exact(f3 b a).2.2.1 z,  .inl a,λx c e=>(by
   rcases R.get x c e with⟨l,_⟩ | ⟨e,_⟩
   ·exact fM (MS (vo b a) l)
   ·exact(f3 b a).2.2.2.2.1 x c (H x c e)),λp hp=>(f3 b a).2.2.2.2.2 p (by have td:p∈(X.pn++pins)++[]:=hp;simpa using td)⟩
 obtain⟨hg,ht,he⟩:=hY ⟨I,C,s3,H3,fp,X.pn++pins⟩
 have loop:z8 (model X.prog X.w) X.A (.compLoop (.ListComp f [⟨F,iter,t,0⟩] scope pos) 0 (.ref it) (.ref ac) (compEnvC scope I C X.env)) (RR (.ref ac) C) { s3 with heap:=we }:=by
  refine QP (λn s'=>∃i U S,eG (blk X scope B ⟨I,C,s3,H3,fp,X.pn++pins⟩) [] U S s'/\tn i s'.heap/\(∀b∈fp,S b=none)/\W i n U S) ?_ m0
   ⟨0,xE G σ,H3,IY,T.keep 0 _ _ Ad λb _ o e=>keep b o e,λb a=>(f3 b a).1,w0⟩
  rintro n s4 ⟨i,xm,H4,I4,Ae,zo,w4⟩;rcases turn i n xm H4 w4 with⟨stop,qn⟩ | ⟨go,step⟩
  ·refine jR (T.done (blk X scope B ⟨I,C,s3,H3,fp,X.pn++pins⟩) Fo Fo Fo Y i [] s4 xm H4 _ I4 (tw zo) Ae stop) λr s5 zq=>?_;obtain⟨hr,I5⟩:=zq;subst hr;obtain⟨m,hn,_⟩:=I5.loc;have IX:eG X pins σ H4 s5:=s.call' I5.os I5.base I5.hok I5.bare λb a=>⟨(f3 b a).2.2.2.1,(f3 b a).2.1,(f3 b a).2.2.2.2.1,(f3 b a).2.2.2.2.2⟩;exact Ay ac C s5 H4 m IX (s.fpOk (nX hC) I5.free) hn qn
  ·refine jR (T.item (blk X scope B ⟨I,C,s3,H3,fp,X.pn++pins⟩) Fo Fo Fo Y i [] s4 xm H4 (λ_ _=>False) I4 (tw zo) Ae go) λr s5 zq=>?_;obtain⟨u,hr,h5⟩:=zq;subst hr;refine jR h5 λ_ s6 zq=>?_;obtain⟨x,H6,I6,r6,y6,zh,Am⟩:=zq;have Ag:=I6.pinned (tw Am) (T.obj _ _ zh);refine jR (hg _ s6 xm H6 x u _ Ag r6 (step x H6 y6)) λ_ s7 zq=>?_;obtain⟨zl,H7,I7,q7⟩:=zq;refine jR (ht _ s7 zl H7 _ I7 q7) λok s8 zq=>?_;obtain⟨H8,I8,q8⟩:=zq
   have again:∀{s9:Shared}{xn:St}{H9:Hp}{m':Nat},eG (blk X scope B ⟨I,C,s3,H3,fp,X.pn++pins⟩) ([]++BT fp s6.heap) xn H9 s9->m'<n->W (i+1) m' xn H9 ->
     ∃m,m<n/\∃i U S,eG (blk X scope B ⟨I,C,s3,H3,fp,X.pn++pins⟩) [] U S s9/\tn i s9.heap/\(∀b∈fp,S b=none)/\W i m U S:=λ{s9 xn H9 m'} I9 hm w9=>by
    refine⟨m',hm,i+1,xn,H9,I9.unpinned,T.keep _ _ _ zh λb a o e=>(I9.pin (b,o) (eF _ (eF _ (rY a e)))).1,λb a=>?_,w9⟩;obtain⟨o,e,d⟩:=T.obj _ _ zh b a;exact(I9.pin (b,o) (eF _ (eF _ (rY a e)))).2.1
   cases ok with
   |false=>
    obtain⟨m',hm,w8⟩:=q8;exact again I8 hm w8
   |true=>
    refine jR (he _ s8 zl H8 _ I8 q8) λy s9 zq=>?_;obtain⟨yv,H9,I9,r9,ys,Cz,hz,m',hm,w9⟩:=zq;refine jR (iE (X:=blk X scope B ⟨I,C,s3,H3,fp,X.pn++pins⟩) _ s9 zl H9 (.ref ac) [yv] (.ref ac) [y] (λ_ S=>S=gG H9 ac (.lst (ys++[yv]))) I9 Fo (.cons r9 .nil) ⟨ac,ys,yv,Fo,Fo,Cz,hz,Fo⟩) λ_ Fc zq=>?_;obtain⟨_,Dt,Af,_,Ak⟩:=zq;subst Ak;exact again Af hm w9
 exact codeAny_compStart_list loop (T.self _ 0 _ _ _ (T.keep 0 _ _ Ad λb _ o e=>keep b o e) loop)
def Tn(j:X.calm=true)(a:scope.kind=.function)(hz:uW scope.names)(u:tY scope.names X.env.scope.names X.N B G=true)
  (l:∀y∈scope.names,y.2=.free->X.env.scope.names.lookup y.1=some .cell) (c:∀x∈scope.names,x.2=.local->scope.names.lookup x.1=some .local) (Z:PI X F iter O)
  (W:∀b:BP,PG (blk X scope B b) F (g b)/\Q4 (blk X scope B b) t (M b)/\PE (blk X scope B b) f (L b))
  (hs:∀x,j7 iter X.env x=pure x:=by intro _;rfl):PE X (.ListComp f [⟨F,iter,t,0⟩] scope pos) (RY G O g M L):=by
 intro d s E H Q I h;obtain⟨cl,k,p,r⟩:=vW (env:=X.env) (scope:=scope) λy hy hk=>I.ok.has y.1 (.inl (l y hy hk));rw[eval_ListComp];refine iq (use:=none) Fo hs k a c (jR (Z d s E H _ I h) λv s1 S=>jR S λtA s2 U=>?_);obtain⟨it,fp,tn,J,H2,rfl,R,T,z,f2,q⟩:=U;refine JD (RR:=λi C=>compPost (model X.prog X.w) X.A X.xe none (EP X d E Q) i C) j a hz u p r W R T z f2 q λi C s' K m P n hn q'=>?_;exact⟨m,hn,λh' sb=>⟨.ref i,K,P.turned (t':=s'.toks) (λb o Y e=>(sb.2 b Y).trans e) n.1 n.2.1 n.2.2.2.1 n.2.2.2.2.1 n.2.2.2.2.2,Fo,q'⟩⟩
def SV{i:Nat}{x:Str}{E l:Pos}(hN:X.N.Nodup)(Z:X.N[i]?=some x)(hx:OI X.env.scope x)(p:X.calm=true)(c:scope.kind=.function)(hz:uW scope.names)(Y:tY scope.names X.env.scope.names X.N B G=true)
  (u:∀y∈scope.names,y.2=.free->X.env.scope.names.lookup y.1=some .cell) (k:∀x∈scope.names,x.2=.local->scope.names.lookup x.1=some .local) (hi:PI X F iter O)
  (hY:∀b:BP,PG (blk X scope B b) F (g b)/\Q4 (blk X scope B b) t (M b)/\PE (blk X scope B b) f (L b))
  (Cq:jH (.ListComp f [⟨F,iter,t,0⟩] scope pos) (some (.Name x E)) l.line X.env=pure true)
  (hs:∀x,j7 iter X.env x=pure x:=by intro _;rfl) (hf:X.fn x=true\/X.env.scope.names.lookup x=some .local:=by first | exact .inl Fo | exact .inr Fo | assumption) :
  PS X (.Assign [.Name x E] (.ListComp f [⟨F,iter,t,0⟩] scope pos) l) (wO (RY G O g M L) (kY i)):=by
 intro d s σ H D I h;obtain⟨cl,r,K,P⟩:=vW (env:=X.env) (scope:=scope) λy hy hk=>I.ok.has y.1 (.inl (u y hy hk));rw[exec_Assign_Name_used _ _ _ _ Cq];refine aB (wpAny_standAt (aB ?_));show wpAny _ _ (do let _ <- comprehension (.ListComp f [⟨F,iter,t,0⟩] scope pos) scope X.env _ (uk []) false (eval iter X.env) (some (em (.Name x E) X.env))) _ _ s
 refine aB (gO (iq (use:=some (em (.Name x E) X.env)) (Q:=λ_ R=>SP X d D .next R) Fo hs r c k
  (jR (hi d s σ H _ I h) λv s1 h1=>jR h1 λtA s2 h2=>?_)) (λ_ R hq=>aG (aG hq)) λ_ _ e=>e)
 obtain⟨it,fp,tn,J,H2,rfl,I2,T,sr,f2,q⟩:=h2;refine JD (RR:=λj C=>compPost (model X.prog X.w) X.A X.xe (some (em (.Name x E) X.env)) (λ_ R=>SP X d D .next R) j C) (Q:=λx H1=>kY i x σ H1 D.nx) p c hz Y K P hY I2 T sr f2 q λj C R HY m I' n hn q'=>?_;show wpAny _ _ (em (.Name x E) X.env (.ref j)) _ _ _;refine uq (DW I' hN Z hx (v:=.ref j) Fo (λDn S W=>?_) hf);obtain⟨a,sb,ha⟩:=W
 have U:C≠a:=by
  rcases ha with z | z
  ·rw[z];exact n.2.1
  ·exactλe=>n.2.2.2.2.1 x a z e.symm
 exact⟨m,hn.sameBut sb U,λh' Do=>⟨_,HY,S.turned (t':=Dn.toks) (λb o hb e=>(Do.2 b hb).trans e) n.1 n.2.1 n.2.2.2.1 n.2.2.2.2.1 n.2.2.2.2.2,q'⟩⟩
end
section
variable{prog:cM}{w:c7}{A:d1}{E:Value->Shared->Prop}{h:Heap}{g:Array GenState}{d:Drawn}{t:Nat}{os:OsState}{a C:Addr}{f:Obj}{b:Option Obj}{K:aM}
structure GP(K:aM)(C:Addr):Prop where
 ga:fY K (.ref C) "__getattribute__"=some (some (.builtin "BaseException.__getattribute__"))
 gt:fY K (.ref C) "__getattr__"=some none
 cl:fY K (.ref C) "__class__"=some (some (.builtin "object.__class__"))
 ob:DL K C (.type "object")=some true
 be:DL K C (.type "BaseException")=some true
def Ir(K:aM)(C:Addr):Prop:=GP K C/\∀T∈["int","str","list","tuple","bool"],lG K (.ref C) (.type T)=some false
def QR{Q:Unit->Shared->Prop}(X:K.In h)(c:GP K C)(I:lH h a f C b)(k:Q () ⟨h,g,d,t,os⟩):wpAny M A (ew "BaseException.__getattribute__" ⟨[.ref a,nameV],[]⟩) Q E ⟨h,g,d,t,os⟩:=by
 have hk:builtinKind "BaseException.__getattribute__"=some .slot:=by decide +kernel
 have e:splitId "BaseException.__getattribute__"=some ("BaseException","__getattribute__"):=by decide +kernel
 have l:=F.args_bexc_ga (.ref a) nameV;have i:=I.type (M:=M);have j:=PySem.W.looks_mroIn (M:=M) X c.be;simp only[ew,hk,e];refine aB ?_;unfold isInstance;refine aB (i.at (j.at ?_))
 repeat (first | exact k | wp_step)
def GI{Q:Fin->Shared->Prop}(X:K.In h)(c:GP K C)(I:lH h a f C b)(n:Q (.done (.ret (.ref C))) ⟨h,g,d,t,os⟩) :
  wpAny (model prog w) A (m3.«object.__getattribute__» ⟨[.ref a,.str "__class__" tk],[]⟩) Q E ⟨h,g,d,t,os⟩:=by
 have j:(⟨h,g,d,t,os⟩:Shared).TypeIs (.builtin "object.__class__") "getset_descriptor":=iu;have k:=iu;have l:=F.slot_gs_get.lookup;have m:=F.slot_gs_set.lookup;have e:=I.type (M:=model prog w);have i:=oK (M:=model prog w) X c.cl
 repeat (any_goals (first | assumption | with_reducible refine e.at ?_ | with_reducible refine i.at ?_ | wp_step))
 refine PySem.W.class_get (s:=⟨h,g,d,t,os⟩) X I c.ob ?_
 repeat (any_goals (first | assumption | wp_step))
def JU{R:Result->Shared->Prop}(X:K.In h)(c:GP K C)(I:lH h a f C b)(e:R (.ok (.ret (.ref C))) ⟨h,g,d,t,os⟩) :
  z8 (model prog w) A (.call (.builtin "BaseException.__getattribute__") ⟨[.ref a,.str "__class__" tk],[]⟩) R ⟨h,g,d,t,os⟩:=
 nc F.excAttr_ValueError.ga.plain F.entry_bexc_ga (QR X c I (GI X c I e))
def QQ{Q:Value->Shared->Prop}(X:K.In h)(c:GP K C)(I:lH h a f C b)(n:Q (.ref C) ⟨h,g,d,t,os⟩):wpAny (model prog w) A (getAttrBy (.ref a) (.str "__class__" tk) false) Q E ⟨h,g,d,t,os⟩:=by
 have m:=F.excAttr_ValueError.ga.bind (.ref a);have i:(ah "BaseException.__getattribute__"==ah "object.__getattribute__")=false:=by decide +kernel
 have l:(onTheHeap (c9 C)&&ah "BaseException.__getattribute__"==ah "object.__getattribute__")=false:=by rw[i];rfl
 have j:=I.type (M:=model prog w);have k:=oK (M:=model prog w) X c.ga;have e:=oK (M:=model prog w) X c.gt
 repeat (any_goals (first | assumption | with_reducible refine j.at ?_ | with_reducible refine k.at ?_ | with_reducible refine e.at ?_ | wp_step))
 refine JU X c I ?_
 repeat (any_goals (first | assumption | wp_step))
def JV{Q:Option Value->Shared->Prop}(X:K.In h)(c:GP K C)(I:lH h a f C b)(e:Q (some (.ref C)) ⟨h,g,d,t+1,os⟩):wpAny (model prog w) A (getAttr? (.ref a) "__class__") Q E ⟨h,g,d,t,os⟩:=by
 unfold getAttr? getAttrBy?
 repeat (any_goals (first | assumption | with_reducible apply QQ X c I | wp_step))
def UZ(c:GP K C):PySem.W.KitX K (.ref a) (.ref C) (λh=>∃f b,lH h a f C b) where
 ty:=λ_ _ _ ⟨_,_,I⟩=>I.type
 it:=λ_ _ X _=>by
  obtain⟨cd,hc,_⟩:=G4.mp c.ob;unfold W7 at hc;split at hc
  ·rename_i c' d' Aj zg ho;intro A' Q' E' s' k q;unfold isType loadHead;exact aB (wpAny_loadPart (k _ _ (X _ _ ho)) (aG q))
  ·cases hc
 ne:=λh tp dd fo n sl X Cr=>by
  obtain⟨cd,hc,_⟩:=G4.mp c.ob;refine rM.mpr λq=>?_;have e:C=tp:=Value.ref.inj (beq_iff_eq.mp q);subst e;unfold W7 at hc;split at hc
  ·rename_i c' d' Aj zg ho;have z:=(X _ _ ho).symm.trans Cr;cases z
  ·cases hc
 ca:=λ{_ _ _ _ _ s} X ⟨_,_,I⟩ k=>by
  obtain⟨hh,g,d,t,os⟩:=s;exact JV X c I k
end
structure aMh(k:Nat)(A:d1):Prop where
 dp:A.depth+3*k+5<cr
 un:A.units+16*k+200<u7
 gd:A.guards=some []
def Room.h{k:Nat}(r:Room k A):aMh k A:=⟨r.dp,r.un,r.gd⟩
end L2
namespace TL
open L2
abbrev D:=PySem.PyData
def pE(p:Addr)(h:Heap):Prop:=∃(a:List Value)(n:Nat),h.get? p=some { cls:=.type "list",data:=.seq a.toArray n }/\a.length<=1000/\∀v∈a,∃(i:Int)(t:Tok),v=.int i t/\0<=i/\i<4096
def JQ(p C:Addr)(a:Option Addr)(h:Heap):Prop:=∃o vs,h.get? p=some o/\o.cls=.ref C/\o.dict=a/\o.data=.fields vs
def aCt(p q:Addr)(h:Heap):Prop:=∃(a b c:Int)(d e f:Tok)(n:Nat),h.get? p=some { cls:=.type "list",data:=.seq [c9 q,.int a d,.int b e,.int c f].toArray n }/\0<=a/\(c=0\/c=1)
def MO(e:Int×Addr×V)(x:x9):Prop:=x.hash=e.1/\x.key=.ref e.2.1/\iJ e.2.2 x.val
def OJ(p:Addr)(a:List (Int×Addr×V))(h:Heap):Prop:=(p==m8)=false/\a.length<=bO/\∃o b c,h.get? p=some o/\o.ExactDict/\o.data=.dict b c/\Paired MO a b.toList
noncomputable def nK(p:Addr)(a:List (Int×Addr×V)):HO:=.ext (OJ p a)
def Xt(p:Addr)(a:List (Int×Addr×V))(c:Nat)(h:Heap):Prop:=(p==m8)=false/\a.length<=bO/\∃o b,h.get? p=some o/\o.ExactDict/\o.data=.dict b c/\Paired MO a b.toList
noncomputable def sB(p:Addr)(b:List (Int×Addr×V))(a:Nat):HO:=.ext (Xt p b a)
noncomputable def Gp(hs:List Int)(a:List (D×D)):D:=.dict ((.str "{}",.list (hs.map aQ))::a)
mutual
inductive iN(K:aM)(H:Hp):D->V->Prop
|none:iN K H .none .non
|bool (b:Bool):iN K H (.bool b) (.bl b)
|int (i:Int):iN K H (.int i) (.int i)
|str (x:Str):iN K H (.str x) (.str x)
|list {p:Addr} {xs:List V} {ts:List D}:lT K H p xs->Reps K H ts xs->iN K H (.list ts) (.ref p)
|tuple {p:Addr} {xs:List V} {ts:List D}:rN K H p xs->Reps K H ts xs->iN K H (.tuple ts) (.ref p)
|wild {p:Addr}:H p=some (.ext (pE p))->iN K H (.dict []) (.ref p)
|exc {p C:Addr}:Ir K C->H p=some (.ext (JQ p C Option.none))->iN K H (.dict [(.int (C:Nat),.none)]) (.ref p)
|excA {p C dx:Addr} {n:Int}:Ir K C->H p=some (.ext (JQ p C (some dx)))->H dx=some (.xd [("at",.int n)])->iN K H (.dict [(.int (C:Nat),.int n)]) (.ref p)
|excD {p C dx:Addr} {v:V} {cs:List D}:Ir K C->H p=some (.ext (JQ p C (some dx)))->H dx=some (.xd [("case",v)])->iN K H (.tuple cs) v->iN K H (.dict [(.int (C:Nat),.tuple cs)]) (.ref p)
|tape {p q:Addr} {ns:List Int}:H p=some (.ext (aCt p q))->lT K H q (ns.map V.int)->iN K H (.dict [(.none,.list (ns.map aQ))]) (.ref p)
|dct {p:Addr} {es:List (Int×Addr×V)} {ep:Nat} {kvs:List (D×D)}:H p=some (sB p es ep)->(kvs.map (·.1)).Nodup->Reps K H (kvs.map (·.1)) (es.map λe=>.ref e.2.1)->Reps K H (kvs.map (·.2)) (es.map λe=>e.2.2)->iN K H (.dict ((.str "{}",.list ((es.map (·.1)).map aQ))::kvs)) (.ref p)
|addr {p:Addr} (z:List D):iN K H (.dict [(.str "@",.list (.int (p:Nat)::z))]) (.ref p)
|ins {p C dx:Addr} {fs:List (Str×V)} {ds:List D}:H p=some (.ins C dx fs)->Reps K H ds (fs.map (·.2))->iN K H (.dict [(.str "obj",.tuple [.int (C:Nat),.list ((fs.map (·.1)).map aW),.list ds])]) (.ref p)
inductive Reps(K:aM)(H:Hp):List D->List V->Prop
|nil:Reps K H [] []
|cons {t:D} {ts:List D} {x:V} {xs:List V}:iN K H t x->Reps K H ts xs->Reps K H (t::ts) (x::xs)
end
variable{K:aM}{H E I J:Hp}
def bR.seqT{a:Addr}(e:bR H E)(h:rN K H a xs):rN K E a xs:=by
 rcases h with(h | ⟨o,h⟩) | h
 ·exact .inl (.inl (e _ _ h))
 ·exact .inl (.inr ⟨o,e _ _ h⟩)
 ·exact .inr h
def iN.same(e:bR H E){d:D}{v:V}(r:iN K H d v):iN K E d v:=
 iN.rec (motive_1:=λd v _=>iN K E d v) (motive_2:=λc vs _=>Reps K E c vs) .none .bool .int .str (λq _ a=>.list (L2.bR.seq e q) a) (λq _ a=>.tuple (bR.seqT e q) a) (λh=>.wild (e _ _ h)) (λx h=>.exc x (e _ _ h)) (λx h g=>.excA x (e _ _ h) (e _ _ g))
  (λx h g _ a=>.excD x (e _ _ h) (e _ _ g) a) (λh g=>.tape (e _ _ h) (L2.bR.seq e g)) (λh n _ _ a b=>.dct (e _ _ h) n a b) .addr (λh _ a=>.ins (e _ _ h) a) .nil (λ_ _ a b=>.cons a b) r
theorem Reps.same(e:bR H E){c:List D}:∀{vs:List V},Reps K H c vs->Reps K E c vs:=by
 induction c with
 |nil=>intro vs r;cases r;exact .nil
 |cons d c f=>
  intro vs r
  cases r with
  |cons a b=>exact .cons (a.same e) (f b)
theorem Reps.length:∀{a:List D}{vs:List V},Reps K H a vs->a.length=vs.length
|_,_,.nil=>rfl
|_,_,.cons _ s=>by simp[Reps.length s]
theorem Reps.get:∀{ds vs}{i:Nat}{d},Reps K H ds vs->ds[i]?=some d->∃v,vs[i]?=some v/\iN K H d v
|_,_,_,_,.nil,e=>by simp at e
|_,_,0,_,.cons r _,e=>by simp at e;subst e;exact⟨_,Fo,r⟩
|_,_,i+1,d,.cons _ s,e=>by
 obtain⟨v,a,b⟩:=Reps.get (i:=i) (d:=d) s (by simpa using e);exact⟨v,by simpa using a,b⟩
theorem Reps.get':∀{ds vs}{i:Nat}{v},Reps K H ds vs->vs[i]?=some v->∃d,ds[i]?=some d/\iN K H d v
|_,_,_,_,.nil,e=>by simp at e
|_,_,0,_,.cons r _,e=>by simp at e;subst e;exact⟨_,Fo,r⟩
|_,_,i+1,d,.cons _ s,e=>by
 obtain⟨v,a,b⟩:=Reps.get' (i:=i) (v:=d) s (by simpa using e);exact⟨v,by simpa using a,b⟩
theorem Reps.append:∀{ds es vs us},Reps K H ds vs->Reps K H es us->Reps K H (ds++es) (vs++us)
|_,_,_,_,.nil,s=>s
|_,_,_,_,.cons r t,s=>.cons r (Reps.append t s)
theorem Reps.take:∀{a:List D}{vs:List V}(n:Nat),Reps K H a vs->Reps K H (a.take n) (vs.take n)
|_,_,0,_=>.nil
|_,_,_+1,.nil=>.nil
|_,_,n+1,.cons r t=>.cons r (Reps.take n t)
theorem Reps.drop:∀{a:List D}{vs:List V}(n:Nat),Reps K H a vs->Reps K H (a.drop n) (vs.drop n)
|_,_,0,r=>r
|_,_,_+1,.nil=>.nil
|_,_,n+1,.cons _ t=>Reps.drop n t
noncomputable def mask(H:Hp)(a:List Addr):Hp:=λb=>if b∈a then none else H b
def cE(e:bR H E):bR (mask H ps) (mask E ps):=λb o h=>by
 unfold mask at h |-
 by_cases a:b∈ps
 ·rw[a7 a]at h;cases h
 ·rw[a6 a]at h |-;exact e b o h
def lX(h:∀p∈eh,p∈ps):bR (mask H ps) (mask H eh):=λb o e=>by
 unfold mask at e |-
 by_cases a:b∈ps
 ·rw[a7 a]at e;cases e
 ·rw[a6 a]at e;rw[a6 λz=>a (h b z)];exact e
def bZ:bR (mask H ps) H:=λb o e=>by
 unfold mask at e;by_cases a:b∈ps
 ·rw[a7 a]at e;cases e
 ·rw[a6 a]at e;exact e
def lY{p:Addr}(h:H p=none):mask (gG H p o) (p::ps)=mask H ps:=by
 funext b;unfold mask;by_cases a:b=p
 ·subst a;rw[a7 (aS ..),h];by_cases z:b∈ps<;>simp[z]
 ·rw[cN a];by_cases z:b∈ps
  ·rw[a7 (aO _ z),a7 z]
  ·rw[a6 (λq=>(aY.mp q).elim a z),a6 z]
def jU{p:Addr}(h:p∈ps):mask (gG H p o) ps=mask H ps:=by
 funext b;unfold mask;by_cases a:b=p
 ·subst a;rw[a7 h,a7 h]
 ·rw[cN a]
def eX{p:Addr}(h:H p=none):bR H (gG H p o):=λb u q=>by rw[cN (iA q h)];exact q
def nA{p:Addr}(h:p∉ps)(e:H p=some o):mask H ps p=some o:=by
 unfold mask;rw[a6 h];exact e
noncomputable def U4:HO->Bool
|.tup _=>true
|.frz _ (.tup _)=>true
|_=>false
def EV(u:Option HO):Prop:=∃v,u=some v/\U4 v=false
def EV.ne(h:EV u):u≠none:=λz=>by obtain⟨v,e,_⟩:=h;rw[z]at e;cases e
theorem EV.lst{xs}:EV (some (.lst xs)):=⟨_,Fo,Fo⟩
def jE{a:List Addr}{p:Addr}(live:∀q∈a,EV (H q))(h:H p=none):p∉a:=λz=>(live p z).ne h
inductive Sl where
|un | val (d:D) | own (ts:List D) | dic (hs:List Int) (kvs:List (D×D))
def qA(K:aM)(B:Hp)(G:List Addr)(H:Hp)(f:List Addr)(m:List Sl)(C:L2.St):Prop:=∀(i:Nat)(hs:List Int)(a:List (D×D)),m[i]?=some (.dic hs a) ->
 (∃(p:Addr)(b:List (Int×Addr×V)),C[i]?=some (some (.ref p))/\p∈f/\B p=none/\p∉G/\H p=some (nK p b)/\hs=b.map (·.1)/\(a.map (·.1)).Nodup/\Reps K (mask H f) (a.map (·.1)) (b.map λe=>.ref e.2.1)/\Reps K (mask H f) (a.map (·.2)) (b.map λe=>e.2.2)) /\
 ∀(j:Nat)(c:List Int)(d:List (D×D)),m[j]?=some (.dic c d)->i=j
def qA.to{B g:Hp}(o:qA K B G H ps m C)(c:∀(i:Nat)(hs:List Int)(a:List (D×D)),dr[i]?=some (.dic hs a)->m[i]?=some (.dic hs a)/\bi[i]?=C[i]?)
  (F:∀(p:Addr)(f:Heap->Prop),p∈ps->H p=some (.ext f)->p∉G->p∈eh/\E p=H p) (z:∀(p:Addr)(f:Heap->Prop),p∈ps->H p=some (.ext f)->B p=none->p∉G->g p=none/\p∉p0') (k:bR (mask H ps) (mask E eh)):qA K g p0' E eh dr bi:=λi hs a h=>by
 obtain⟨x,y⟩:=c i hs a h;obtain⟨⟨p,w,a1,a2,l,a4,e,n,q,r,s⟩,u⟩:=o i hs a x;obtain⟨b1,t⟩:=F p _ a2 e a4;obtain⟨c1,v⟩:=z p _ a2 e l a4;exact⟨⟨p,w,y.trans a1,b1,c1,v,t.trans e,n,q,r.same k,s.same k⟩,λj b d A=>u j b d (c j b d A).1⟩
def A4{m:List Sl}{i j:Nat}(c:∀hs a,s≠.dic hs a)(h:(m.set i s)[j]?=some (.dic hs a)):i≠j/\m[j]?=some (.dic hs a):=by
 by_cases e:i=j
 ·subst e;have b:i<m.length:=by simpa using(aE.mp h).1
  rw[bK b]at h;exact a9 (c5 h) (c hs a)
 ·rw[bH e]at h;exact⟨e,h⟩
def qA.setS{m:List Sl}{C:L2.St}(o:qA K B G H ps m C){i:Nat}(d:∀hs c,s≠.dic hs c):qA K B G H ps (m.set i s) (C.set i v):=
 o.to (λj hs c h=>let ⟨e,h'⟩:=A4 d h;⟨h',bH e⟩) (λp f a b _=>⟨a,Fo⟩) (λp f _ _ a b=>⟨a,b⟩) (L2.bR.refl _)
def qA.setT{m:List Sl}(o:qA K B G H ps m C){i:Nat}(d:∀hs c,s≠.dic hs c):qA K B G H ps (m.set i s) C:=
 o.to (λj hs c h=>⟨(A4 d h).2,Fo⟩) (λp e a b _=>⟨a,Fo⟩) (λp e _ _ a b=>⟨a,b⟩) (L2.bR.refl _)
def qA.grow(o:qA K B G H ps m C)(e:bR H E):qA K B G E ps m C:=
 o.to (λj hs c h=>⟨h,Fo⟩) (λp d a b _=>⟨a,(e p _ b).trans b.symm⟩) (λp d _ _ a b=>⟨a,b⟩) (cE e)
structure Ok(K:aM)(B:Hp)(G:List Addr)(H:Hp)(ps:List Addr)(m:List Sl)(C:L2.St):Prop where
 base:bR B H
 sub:∀p∈G,p∈ps
 live:∀p∈ps,EV (H p)
 len:m.length=C.length
 val:∀(i:Nat)(d:D),m[i]?=some (.val d)->∃v,C[i]?=some (some v)/\iN K (mask H ps) d v
 own:∀(i:Nat)(ts:List D),m[i]?=some (.own ts)->∃p xs,C[i]?=some (some (.ref p))/\p∈ps/\B p=none/\p∉G/\H p=some (.lst xs)/\Reps K (mask H ps) ts xs
 dis:∀(i j:Nat)(ts us:List D)(p:Addr),m[i]?=some (.own ts)->m[j]?=some (.own us)->C[i]?=some (some (.ref p))->C[j]?=some (some (.ref p))->i=j
 dc:qA K B G H ps m C
variable{B:Hp}{G ps:List Addr}{m:List Sl}{C:L2.St}
theorem Ok.grow(o:Ok K B G H ps m C)(e:bR H E):Ok K B G E ps m C where
 base:=o.base.trans e
 sub:=o.sub
 live:=λp hp=>let ⟨u,h1,h2⟩:=o.live p hp;⟨u,e p u h1,h2⟩
 len:=o.len
 val:=λi d h=>let ⟨v,h1,h2⟩:=o.val i d h;⟨v,h1,h2.same (cE e)⟩
 own:=λi ts h=>let ⟨p,xs,h1,h2,h3,h4,h5,h6⟩:=o.own i ts h;⟨p,xs,h1,h2,h3,h4,e _ _ h5,h6.same (cE e)⟩
 dis:=o.dis
 dc:=o.dc.grow e
theorem Ok.set(o:Ok K B G H ps m C){i:Nat}(r:iN K (mask H ps) d v):Ok K B G H ps (m.set i (.val d)) (C.set i (some v)) where
 base:=o.base
 sub:=o.sub
 live:=o.live
 len:=by simpa using o.len
 val:=λj d' h=>by
  by_cases e:i=j
  ·subst e
   have hi:i<m.length:=by
    have:=(aE.mp h).1;simpa using this
   rw[bK hi]at h;cases h;exact⟨v,by rw[bK (by rw[<- o.len];exact hi)],r⟩
  ·rw[bH e]at h |-
   exact o.val j d' h
 own:=λj ts h=>by
  by_cases e:i=j
  ·subst e
   have hi:i<m.length:=by
    have:=(aE.mp h).1;simpa using this
   rw[bK hi]at h;cases h
  ·rw[bH e]at h |-
   exact o.own j ts h
 dis:=λj k ts us p h1 h2 h3 h4=>by
  have ne:∀{l:Nat}{ts:List D},(m.set i (.val d))[l]?=some (.own ts)->i≠l:=λ{l ts} h e=>by
   subst e
   have hi:i<m.length:=by
    have:=(aE.mp h).1;simpa using this
   rw[bK hi]at h;cases h
  have e1:=ne h1;have e2:=ne h2;rw[bH e1]at h1 h3;rw[bH e2]at h2 h4;exact o.dis j k ts us p h1 h2 h3 h4
 dc:=o.dc.setS λ_ _ z=>nomatch z
def Ok.setOwn(o:Ok K B G H ps m C){i:Nat}{ts:List D}{xs:List V}{p:Addr}(A:H p=none)(r:Reps K (mask H ps) ts xs):Ok K B G (gG H p (.lst xs)) (p::ps) (m.set i (.own ts)) (C.set i (some (.ref p))):=by
 have L:mask (gG H p (.lst xs)) (p::ps)=mask H ps:=lY A;have w:p∉ps:=jE o.live A
 have N:∀{l:Nat}{x:List D},i≠l->m[l]?=some (.own x)->C[l]?≠some (some (.ref p)):=λ{l x} _ h z=>by
  obtain⟨q,_,c,f,_⟩:=o.own l x h;rw[z]at c;cases c;exact w f
 refine⟨o.base.trans (eX A),λq M=>aO _ (o.sub q M),λq M=>?_,by simpa using o.len,λj d h=>?_,λj x h=>?_,λj k x R q c f g n=>?_,?_⟩
 ·by_cases e:q=p
  ·subst e;rw[cW];exact .lst
  ·rw[cN e];rcases aY.mp M with z | z
   ·exact a9 z e
   ·exact o.live q z
 ·rw[L];by_cases e:i=j
  ·subst e;have t:i<m.length:=by simpa using(aE.mp h).1
   rw[bK t]at h;cases h
  ·rw[bH e]at h |-
   exact o.val j d h
 ·rw[L];by_cases e:i=j
  ·subst e;have t:i<m.length:=by simpa using(aE.mp h).1
   rw[bK t]at h;cases h;refine⟨p,xs,by rw[bK (by rw[<- o.len];exact t)],aS ..,?_,λz=>w (o.sub p z),cW,r⟩
   cases q:B p with
   |none=>rfl
   |some u=>rw[o.base p u q]at A;cases A
  ·rw[bH e]at h |-
   obtain⟨q,S,c,f,g,n,O,P⟩:=o.own j x h;refine⟨q,S,c,aO _ f,g,n,?_,P⟩;rw[cN (λz:q=p=>w (z▸f))];exact O
 ·by_cases F:i=j
  ·by_cases y:i=k
   ·exact F.symm.trans y
   ·subst F;have t:i<m.length:=by simpa using(aE.mp c).1
    rw[bK (by rw[<- o.len];exact t)]at g;cases g;rw[bH y]at f n;exact a9 n (N y f)
  ·by_cases y:i=k
   ·subst y;have t:i<m.length:=by simpa using(aE.mp f).1
    rw[bK (by rw[<- o.len];exact t)]at n;cases n;rw[bH F]at c g;exact a9 g (N F c)
   ·rw[bH F]at c g;rw[bH y]at f n;exact o.dis j k x R q c f g n
 ·exact(o.dc.setS (i:=i) (s:=.own ts) (v:=some (.ref p)) λ_ _ z=>nomatch z).to (λj hs Q h=>⟨h,Fo⟩) (λq T a b _=>⟨aO _ a,cN λz=>by rw[z,A]at b;cases b⟩) (λq T _ _ a b=>⟨a,b⟩) (by rw[L];exact L2.bR.refl _)
def Ok.write(o:Ok K B G H ps m C){i:Nat}{p:Addr}(w:m[i]?=some (.own ts))(f:C[i]?=some (some (.ref p)))(r:Reps K (mask H ps) us ys) :
  Ok K B G (gG H p (.lst ys)) ps (m.set i (.own us)) C:=by
 obtain⟨q,Y,M,N,O,P,Q,X⟩:=o.own i ts w;rw[f]at M;cases M;have x:mask (gG H p (.lst ys)) ps=mask H ps:=jU N;have t:i<m.length:=(aE.mp w).1;refine⟨λb u e=>?_,o.sub,λq R=>?_,by simpa using o.len,λj d h=>?_,λj F h=>?_,λj k vs F q n v y A=>?_,?_⟩
 ·have ne:b≠p:=λz=>by rw[z,O]at e;cases e
  rw[cN ne];exact o.base b u e
 ·by_cases e:q=p
  ·subst e;rw[cW];exact .lst
  ·rw[cN e];exact o.live q R
 ·rw[x];by_cases e:i=j
  ·subst e;rw[bK t]at h;cases h
  ·rw[bH e]at h;exact o.val j d h
 ·rw[x];by_cases e:i=j
  ·subst e;rw[bK t]at h;cases h;exact⟨p,ys,f,N,O,P,cW,r⟩
  ·rw[bH e]at h;obtain⟨q,vs,n,v,y,A,S,T⟩:=o.own j F h;refine⟨q,vs,n,v,y,A,?_,T⟩;rw[cN (λz:q=p=>e (o.dis i j ts F p w h f (z▸n)))];exact S
 ·have c:∀{l:Nat}{vs:List D},(m.set i (.own us))[l]?=some (.own vs)->∃g,m[l]?=some (.own g):=λ{l vs} h=>by
   by_cases e:i=l
   ·subst e;exact⟨ts,w⟩
   ·rw[bH e]at h;exact⟨vs,h⟩
  obtain⟨g,n⟩:=c n;obtain⟨L,v⟩:=c v;exact o.dis j k g L q n v y A
 ·exact(o.dc.setT (i:=i) (s:=.own us) λ_ _ z=>nomatch z).to (λj hs U h=>⟨h,Fo⟩) (λq W a b _=>⟨a,cN λz=>by rw[z,Q]at b;cases b⟩) (λq W _ _ a b=>⟨a,b⟩) (by rw[x];exact L2.bR.refl _)
def Ok.share(o:Ok K B G H ps m C){i:Nat}(x:m[i]?=some (.own ts)):∃u,Ok K B G H u (m.set i (.val (.list ts))) C/\bR (mask H ps) (mask H u):=by
 obtain⟨p,Y,L,W,X,N,M,O⟩:=o.own i ts x;have g:i<m.length:=(aE.mp x).1;have c:bR (mask H ps) (mask H (ps.filter λq=>decide (q≠p))):=lX λq n=>(cL.mp n).1;have y:p∉ps.filter λq=>decide (q≠p):=λz=>(b8 (cL.mp z).2) Fo;refine⟨ps.filter λq=>decide (q≠p),⟨o.base,λq n=>cL.mpr ⟨o.sub q n,a8 λz=>N (z▸n)⟩,λq n=>o.live q (cL.mp n).1,by simpa using o.len,λj d h=>?_,λj w h=>?_,λj k w S q r t A F=>?_,?_⟩,c⟩
 ·by_cases e:i=j
  ·subst e;rw[bK g]at h;cases h;exact⟨_,L,.list (lT.of (nA y M)) (O.same c)⟩
  ·rw[bH e]at h;obtain⟨v,r,t⟩:=o.val j d h;exact⟨v,r,t.same c⟩
 ·by_cases e:i=j
  ·subst e;rw[bK g]at h;cases h
  ·rw[bH e]at h;obtain⟨q,T,r,t,A,F,P,Q⟩:=o.own j w h;exact⟨q,T,r,cL.mpr ⟨t,a8 λz=>e (o.dis i j ts w p x h L (z▸r))⟩,A,F,P,Q.same c⟩
 ·have f:∀{l:Nat}{vs:List D},(m.set i (.val (.list ts)))[l]?=some (.own vs)->m[l]?=some (.own vs):=λ{l vs} h=>by
   by_cases e:i=l
   ·subst e;rw[bK g]at h;cases h
   ·rw[bH e]at h;exact h
  exact o.dis j k w S q (f r) (f t) A F
 ·exact(o.dc.setT (i:=i) (s:=.val (.list ts)) λ_ _ z=>nomatch z).to (λj hs R h=>⟨h,Fo⟩) (λq U a b _=>⟨cL.mpr ⟨a,a8 λz=>by rw[z,M]at b;cases b⟩,Fo⟩) (λq U _ _ a b=>⟨a,b⟩) c
abbrev ET:=List Sl->(D->Prop)->Prop
abbrev xV:=List Sl->(Bool->Prop)->Prop
abbrev AT:=List Sl->(List D->Prop)->Prop
def iK(X:Cx)(e:Expr)(t:ET):Prop:=∃b:TE,PE X e b/\∀B G H ps m C (Q:D->Prop)(a:VK),Ok X.K B G H ps m C->t m Q ->
 (∀d v E,bR H E->iN X.K (mask E ps) d v->Q d->a v E)->b C H a
def GR(X:Cx)(e:Expr)(t:xV):Prop:=∃c:TT,PT X e c/\∀B G H ps m C (Q:Bool->Prop)(a:Bool->Hp->Prop),Ok X.K B G H ps m C->t m Q ->
 (∀b E,bR H E->Q b->a b E)->c C H a
def Fz(X:Cx)(e:Expr)(t:xV):Prop:=∃c:TT,PW X e c/\∀B G H ps m C (Q:Bool->Prop)(a:Bool->Hp->Prop),Ok X.K B G H ps m C->t m Q ->
 (∀b E,bR H E->Q b->a b E)->c C H a
def wI(X:Cx)(d:List Expr)(t:AT):Prop:=∃c:TA,PA X d c/\∀B G H ps m C (Q:List D->Prop)(a:List V->Hp->Prop),Ok X.K B G H ps m C->t m Q ->
 (∀b vs E,bR H E->Reps X.K (mask E ps) b vs->Q b->a vs E)->c C H a
structure vJ where
 nx:List Sl->Prop
 rt:D->Prop
 bk:List Sl->Prop:=λ_=>False
 ct:List Sl->Prop:=λ_=>False
 ro:List D->Prop:=λ_=>False
 rp:List D->List D->Prop:=λ_ _=>False
 rq:D->List D->Prop:=λ_ _=>False
 xB:Hp->Prop:=λ_=>True
abbrev sW:=vJ->List Sl->Prop
structure J6(K:aM)(B:Hp)(G:List Addr)(H:Hp)(ps:List Addr)(DT:vJ)(DV:GX):Prop where
 nx:∀E eh dr bi,Ok K B G E eh dr bi->bR (mask H ps) (mask E eh)->DT.nx dr->DV.nx bi E
 bk:∀E eh dr bi,Ok K B G E eh dr bi->bR (mask H ps) (mask E eh)->DT.bk dr->DV.bk bi E
 ct:∀E eh dr bi,Ok K B G E eh dr bi->bR (mask H ps) (mask E eh)->DT.ct dr->DV.ct bi E
 rt:∀d v E,bR B E->iN K (mask E G) d v->DT.rt d->DV.rt v E
 ro:∀ts p xs E,bR B E->B p=none->p∉G->E p=some (.lst xs)->Reps K (mask E (p::G)) ts xs->DT.ro ts->DV.rt (.ref p) E
 rp:∀as bs r p q xs ys E,bR B E->B r=none->B p=none->B q=none->p≠q->E r=some (.tup [.ref p,.ref q])->E p=some (.lst xs)->E q=some (.lst ys)->Reps K (mask E (p::q::G)) as xs->Reps K (mask E (p::q::G)) bs ys->DT.rp as bs->DV.rt (.ref r) E
 rq:∀a ts r p x xs E,bR B E->B r=none->B p=none->E r=some (.tup [x,.ref p])->E p=some (.lst xs)->iN K (mask E (p::G)) a x->Reps K (mask E (p::G)) ts xs->DT.rq a ts->DV.rt (.ref r) E
 xb:DT.xB B
def J6.later(f:J6 K B G H ps DT DV)(e:bR (mask H ps) (mask E eh)):J6 K B G E eh DT DV:=
 ⟨λ_ _ _ _ o s q=>f.nx _ _ _ _ o (e.trans s) q,λ_ _ _ _ o s q=>f.bk _ _ _ _ o (e.trans s) q,λ_ _ _ _ o s q=>f.ct _ _ _ _ o (e.trans s) q,f.rt,f.ro,f.rp,f.rq,f.xb⟩
def wH(X:Cx)(st:Stmt)(t:sW):Prop:=∃c:TS,PS X st c/\∀B G H ps m C (a:vJ)(b:GX),Ok X.K B G H ps m C->t a m->J6 X.K B G H ps a b->c b C H
def sG(X:Cx)(st:List Stmt)(t:sW):Prop:=∃c:TS,AC X st c/\∀B G H ps m C (a:vJ)(b:GX),Ok X.K B G H ps m C->t a m->J6 X.K B G H ps a b->c b C H
def DI(X:Cx)(r:R2)(f:D->D->(D->Prop)->Prop):Prop:=∀H ps(a b:D)(x y:V)(Q:D->Prop)QV,(∀p∈ps,EV (H p))->iN X.K (mask H ps) a x->iN X.K (mask H ps) b y->f a b Q ->
 (∀d v E,bR H E->iN X.K (mask E ps) d v->Q d->QV v E)->r x y H QV
def uD(X:Cx)(r:List V->Hp->VK->Prop)(f:List D->(D->Prop)->Prop):Prop:=∀H ps(a:List D)(b:List V)(Q:D->Prop)QV,(∀p∈ps,EV (H p))->Reps X.K (mask H ps) a b->f a Q ->
 (∀d v E,bR H E->iN X.K (mask E ps) d v->Q d->QV v E)->r b H QV
section
variable{X:Cx}{a b e:Expr}{L:List Expr}{l s P:ET}{pos:Pos}
inductive WF(C:List Sl)(i:Nat)(Q:D->Prop):Prop
|mk (d:D) (h:C[i]?=some (.val d)) (k:Q d):WF C i Q
def Q2{C}{i:Nat}{Q:D->Prop}:WF C i Q↔∃d,C[i]?=some (.val d)/\Q d:=⟨λ⟨d,h,k⟩=>⟨d,h,k⟩,λ⟨d,h,k⟩=>⟨d,h,k⟩⟩
def zY(i:Nat):ET:=λC Q=>WF C i Q
def eC(d:D):ET:=λ_ Q=>Q d
def aH(i:Nat){x:Str}{pos}(g:X.N[i]?=some x:=by rfl)(j:Gq X.env.scope x:=by first | exact v7 Fo | exact r8 (v7 Fo) | exact r8 (r8 Fo))(hd:(x==("__debug__":Str))=false:=by decide)
  (c:(x==("__classdict__":Str))=false:=by decide):iK X (.Name x pos) (zY i):=
 ⟨_,S4 g j hd c,λB G H ps m C Q n o h k=>by
  obtain⟨d,e,q⟩:=h;obtain⟨v,f,r⟩:=o.val i d e;exact⟨v,f,k d v H (L2.bR.refl H) r q⟩⟩
def aK{pos}:iK X (.Constant (.int i) j pos) (eC (.int i)):=⟨_,yG,λ_ _ H _ _ _ _ _ _ h k=>k _ _ H (L2.bR.refl H) (.int i) h⟩
def nL{b pos}:iK X (.Constant (.bool b) j pos) (eC (.bool b)):=⟨_,Tl,λ_ _ H _ _ _ _ _ _ h k=>k _ _ H (L2.bR.refl H) (.bool b) h⟩
def pJ{pos}:iK X (.Constant .none j pos) (eC .none):=⟨_,Zq,λ_ _ H _ _ _ _ _ _ h k=>k _ _ H (L2.bR.refl H) .none h⟩
def eM{pos}:iK X (.Constant (.str x) j pos) (eC (.str x)):=⟨_,Zs,λ_ _ H _ _ _ _ _ _ h k=>k _ _ H (L2.bR.refl H) (.str x) h⟩
def Z5{x:Str}{i:Int}{pos}(c:Gl X x)(d:X.mg x=some (.int i t))(hd:(x==("__debug__":Str))=false:=by decide):iK X (.Name x pos) (eC (.int i)):=⟨_,NM (v:=.int i) c d ⟨t,Fo⟩ hd,λ_ _ H _ _ _ _ _ _ h k=>k _ _ H (L2.bR.refl H) (.int i) h⟩
def KB(f:D->D->(D->Prop)->Prop)(l s:ET):ET:=λC Q=>l C λx=>s C λy=>f x y Q
def AR{f:D->D->(D->Prop)->Prop}(t:DI X r f){j n:TE}
  (u:∀B G H ps m C (Q:D->Prop)(c:VK),Ok X.K B G H ps m C->l m Q->(∀d v E,bR H E->iN X.K (mask E ps) d v->Q d->c v E)->j C H c)
  (w:∀B G H ps m C (Q:D->Prop)(c:VK),Ok X.K B G H ps m C->s m Q->(∀d v E,bR H E->iN X.K (mask E ps) d v->Q d->c v E)->n C H c)
  (B:Hp) (G:List Addr) (H:Hp) (ps:List Addr) (m:List Sl) (C:L2.St) (Q:D->Prop) (c:VK) (o:Ok X.K B G H ps m C) (h:KB f l s m Q) (k:∀d v E,bR H E->iN X.K (mask E ps) d v->Q d->c v E):Gb r j n C H c:=by
 refine u B G H ps m C _ _ o h λp x I g M q1=>?_;refine w B G I ps m C _ _ (o.grow g) q1 λq y J i N A=>?_;exact t J ps p q x y Q c ((o.grow g).grow i).live (M.same (cE i)) N A λd v E O F z=>k d v E (g.trans (i.trans O)) F z
def cJ{f:D->D->(D->Prop)->Prop}(h:oU X (m4 op) r)(c:DI X r f)(d:iK X a l)(g:iK X b s):iK X (.BinOp a op b pos) (KB f l s):=by
 obtain⟨n,i,j⟩:=d;obtain⟨o,pb,k⟩:=g;exact⟨_,IL h i pb,AR c j k⟩
def lP{f:D->D->(D->Prop)->Prop}(i:oU X (e7 op) r)(c:DI X r f)(d:iK X a l)(g:iK X b s)(h:z4 op b=false:=by first | exact LC _ | rfl):iK X (.Compare a [op] [b] pos) (KB f l s):=by
 obtain⟨p,j,n⟩:=d;obtain⟨q,k,o⟩:=g;exact⟨_,YY i j k h,AR c n o⟩
def bD{f:D->D->(D->Prop)->Prop}(h:W5 X r)(c:DI X r f)(d:iK X a l)(g:iK X b s)(hs:GQ b:=by intro _ _;rfl):iK X (.Subscript a b pos) (KB f l s):=by
 obtain⟨n,i,j⟩:=d;obtain⟨o,pb,k⟩:=g;exact⟨_,D1 h i pb hs,AR c j k⟩
def Jz(l:ET):ET:=λC Q=>l C λx=>match x with | .int i=>Q (.int (-i)) | _=>False
def LY(c:iK X a l):iK X (.UnaryOp .USub a pos) (Jz l):=by
 obtain⟨q,f,j⟩:=c;refine⟨_,To aCo f,λB G H ps m C Q p o h k=>j B G H ps m C _ _ o h λd x I n g q1=>?_⟩
 cases g with
 |int i=>exact⟨i,Fo,k _ _ I n (.int _) q1⟩
 |_=>exact q1.elim
def J0:AT:=λ_ Q=>Q []
def pZ(t:ET)(r:AT):AT:=λC Q=>t C λx=>r C λc=>Q (x::c)
def aL:wI X [] J0:=⟨_,lE,λ_ _ H _ _ _ _ _ _ h k=>k _ _ H (L2.bR.refl H) .nil h⟩
def aA(g:iK X e P)(i:wI X L tr)(hs:cD (e::L) X.env=(false,eval e X.env)::cD L X.env:=by rfl):wI X (e::L) (pZ P tr):=by
 obtain⟨y,j,t⟩:=g;obtain⟨z,n,u⟩:=i;refine⟨_,jC j n hs,λB G H ps m C Q v o h k=>t B G H ps m C _ _ o h λd x I c q q1=>?_⟩;refine u B G I ps m C _ _ (o.grow c) q1 λw A J f r p=>?_;exact k _ _ J (c.trans f) (.cons (q.same (cE f)) r) p
def Hw(t:AT):ET:=λC Q=>t C λc=>c.length<=1000/\Q (.tuple c)
def Jy(t:AT):ET:=λC Q=>t C λc=>c.length<=1000/\Q (.list c)
def rV{ps:List Addr}{p:Addr}{c:List D}{f:List V}(live:∀q∈ps,EV (H q))(d:H p=none)(r:Reps K (mask H ps) c f):iN K (mask (gG H p (.tup f)) ps) (.tuple c) (.ref p):=
 .tuple (rN.of (nA (jE live d) cW)) (r.same (cE (eX d)))
def rW{ps:List Addr}{p:Addr}{c:List D}{f:List V}(live:∀q∈ps,EV (H q))(d:H p=none)(r:Reps K (mask H ps) c f):iN K (mask (gG H p (.lst f)) ps) (.list c) (.ref p):=
 .list (lT.of (nA (jE live d) cW)) (r.same (cE (eX d)))
def F7{n:Nat}(h:n<=1000):n<=bO:=iU (O6 h)
def eK(h:wI X L t):iK X (.Tuple L x1 pos) (Hw t):=by
 obtain⟨v,p,r⟩:=h;refine⟨_,S5 p,λB G H ps m C Q g o h k=>r B G H ps m C _ _ o h λi j I f d q1=>⟨F7 (by rw[<- d.length];exact q1.1),λq c=>?_⟩⟩;exact k _ _ _ (f.trans (eX c)) (rV (o.grow f).live c d) q1.2
def kG(h:wI X L t):iK X (.List L pos) (Jy t):=by
 obtain⟨v,p,r⟩:=h;refine⟨_,K5 p,λB G H ps m C Q g o h k=>r B G H ps m C _ _ o h λi j I f d q1=>⟨F7 (by rw[<- d.length];exact q1.1),λq c=>?_⟩⟩;exact k _ _ _ (f.trans (eX c)) (rW (o.grow f).live c d) q1.2
def nM(f:List D->(D->Prop)->Prop)(t:AT):ET:=λC Q=>t C λc=>f c Q
abbrev kQ:=List D->(D->Prop)->Prop
def cG(K:aM)(g:kQ):Sp:=λvs H Q _=>∃(ps:List Addr)(f:List D)(c:D->Prop),(∀p∈ps,EV (H p))/\Reps K (mask H ps) f vs/\g f c/\∀d v E,bR H E->iN K (mask E ps) d v->c d->Q v E
def Z7{k:Nat}{f:Addr}{pn}(F:dU X.prog X.w X.K X.mg X.base hW k f fd pn (cG X.K sp))(R:X.mg x=some (.ref f))(hk:iC X.K (.ref f)=true)(O:sQ X.K fd pn [])
  (S:Room k X.A) (j:wI X (e::L) t) (q:∀{l},PA X (e::L) l->PE X (.Call (.Name x p) (e::L) [] pos) (M4 (cG X.K sp) [] E0 l)):iK X (.Call (.Name x p) (e::L) [] pos) (nM sp t):=by
 obtain⟨v,n,z⟩:=j;refine⟨_,q n,λB G H ps m C Q g o h k=>z B G H ps m C _ _ o h λi N I c y q1=>?_⟩;show cG X.K sp (N++[]) I g E0;rw[fR];exact⟨ps,i,Q,(o.grow c).live,y,q1,λd v E M u r=>k d v E (c.trans M) u r⟩
def CO(t:ET):xV:=λC Q=>t C λx=>match x with | .bool b=>Q b | _=>False
def aCp(h:iK X e P)(pt:∀{t},PE X e t->PT X e (tB t)):GR X e (CO P):=by
 obtain⟨v,p,r⟩:=h;refine⟨_,pt p,λB G H ps m C Q i o h k=>r B G H ps m C _ _ o h λd x I g f q1=>?_⟩
 cases f with
 |bool c=>exact⟨c,Fo,k c I g q1⟩
 |_=>exact q1.elim
def dO{f:D->D->(D->Prop)->Prop}(q:oU X (e7 op) r)(i:DI X r f)(j:iK X a l)(n:iK X b s)(p:z4 op b=false:=by first | exact LC _ | rfl):GR X (.Compare a [op] [b] pos) (CO (KB f l s)):=by
 obtain⟨M,t,y⟩:=j;obtain⟨N,u,z⟩:=n;refine⟨_,FS q t u p,λB G H ps m C Q F o h k=>?_⟩;refine AR i y z B G H ps m C (λx=>match x with | .bool b=>Q b | _=>False) _ o h λd v E A w g=>?_
 cases w with
 |bool c=>exact⟨c,Fo,k c E A g⟩
 |_=>exact g.elim
def Hv(t:xV):xV:=λC Q=>t C λb=>Q (!b)
def Jo(t u:xV):xV:=λC Q=>t C λb=>if b=true then u C Q else Q false
def Hi(t u:xV):xV:=λC Q=>t C λb=>if b=true then Q true else u C Q
variable{M O:xV}{jM:List Expr}
def yB(h:GR X a M):GR X (.UnaryOp .Not a pos) (Hv M):=by
 obtain⟨v,p,r⟩:=h;exact⟨_,Zx p,λB G H ps m C Q f o h k=>r B G H ps m C _ _ o h λb E d c=>k _ E d c⟩
def qQ(h:Fz X e M):GR X e M:=by
 obtain⟨v,p,r⟩:=h;exact⟨_,p.pt,r⟩
def AL(h:GR X a M):Fz X (.BoolOp .And [a] pos) M:=by
 obtain⟨v,p,r⟩:=h;exact⟨_,YM p,r⟩
def rQ(h:GR X a M):Fz X (.BoolOp .Or [a] pos) M:=by
 obtain⟨v,p,r⟩:=h;exact⟨_,aDf p,r⟩
def FI(f:GR X a M)(g:Fz X (.BoolOp .And (b::jM) pos) O):Fz X (.BoolOp .And (a::b::jM) pos) (Jo M O):=by
 obtain⟨u,i,p⟩:=f;obtain⟨v,j,q⟩:=g;refine⟨_,Zz i j,λB G H ps m C Q t o h k=>p B G H ps m C _ _ o h λc I d q1=>?_⟩
 cases c with
 |true=>exact q B G I ps m C Q _ (o.grow d) q1 λb E r n=>k b E (d.trans r) n
 |false=>exact k _ I d q1
def oE(f:GR X a M)(g:Fz X (.BoolOp .Or (b::jM) pos) O):Fz X (.BoolOp .Or (a::b::jM) pos) (Hi M O):=by
 obtain⟨u,i,p⟩:=f;obtain⟨v,j,q⟩:=g;refine⟨_,So i j,λB G H ps m C Q t o h k=>p B G H ps m C _ _ o h λc I d q1=>?_⟩
 cases c with
 |true=>exact k _ I d q1
 |false=>exact q B G I ps m C Q _ (o.grow d) q1 λb E r n=>k b E (d.trans r) n
def Jq(l s:ET):ET:=λC Q=>l C λx=>match x with | .bool c=>if c=true then s C Q else Q (.bool false) | _=>False
def Nw(l s:ET):ET:=λC Q=>l C λx=>match x with | .bool c=>if c=true then Q (.bool true)else s C Q | _=>False
def LX(h:iK X a l):iK X (.BoolOp op [a] pos) l:=by
 obtain⟨v,p,r⟩:=h;exact⟨_,Zr p,r⟩
def LZ(g:iK X a l)(i:iK X (.BoolOp .And (b::jM) pos) s):iK X (.BoolOp .And (a::b::jM) pos) (Jq l s):=by
 obtain⟨z,j,t⟩:=g;obtain⟨A,n,u⟩:=i;refine⟨_,Zn j n,λB G H ps m C Q y o h k=>t B G H ps m C _ _ o h λd x I f r q1=>?_⟩
 cases r with
 |bool c=>
  refine⟨c,Fo,?_⟩
  cases c with
  |true=>exact u B G I ps m C Q _ (o.grow f) q1 λd v E w q p=>k d v E (f.trans w) q p
  |false=>exact k _ _ I f (.bool false) q1
 |_=>exact q1.elim
def L5(f g:D->D->(D->Prop)->Prop)(l s d:ET):ET:=λC Q=>l C λx=>s C λy=>f x y λz=>match z with | .bool c=>if c=true then d C λw=>g y w Q else Q (.bool false) | _=>False
end
end TL
namespace TL
open L2
variable{K:aM}{H L T U:Hp}{B:Hp}{O I:List Addr}{C:List Sl}{G:L2.St}
section
variable{X:Cx}{a b c e:Expr}{es:List Expr}{Y Z tc W:ET}{pos:Pos}
def L9{f g:D->D->(D->Prop)->Prop}(N:DI X r f)(n:DI X m g){u A E:TE}
  (P:∀B O H I C G (Q:D->Prop)(i:VK),Ok X.K B O H I C G->Y C Q->(∀d v L,bR H L->iN X.K (mask L I) d v->Q d->i v L)->u G H i)
  (R:∀B O H I C G (Q:D->Prop)(i:VK),Ok X.K B O H I C G->Z C Q->(∀d v L,bR H L->iN X.K (mask L I) d v->Q d->i v L)->A G H i)
  (S:∀B O H I C G (Q:D->Prop)(i:VK),Ok X.K B O H I C G->tc C Q->(∀d v L,bR H L->iN X.K (mask L I) d v->Q d->i v L)->E G H i)
  (B:Hp) (O:List Addr) (H:Hp) (I:List Addr) (C:List Sl) (G:L2.St) (Q:D->Prop) (i:VK) (o:Ok X.K B O H I C G) (h:L5 f g Y Z tc C Q) (k:∀d v L,bR H L->iN X.K (mask L I) d v->Q d->i v L):R0 r m u A E G H i:=by
 refine P B O H I C G _ _ o h λJ x T j r1 q1=>?_;refine R B O T I C G _ _ (o.grow j) q1 λs y U l t q2=>?_;refine N U I J s x y _ _ ((o.grow j).grow l).live (r1.same (cE l)) t q2 λd3 z H3 s3 r3 p=>?_
 cases r3 with
 |bool c=>
  refine⟨c,Fo,?_⟩
  cases c with
  |false=>exact k _ _ H3 (j.trans (l.trans s3)) (.bool false) p
  |true=>
   refine S B O H3 I C G _ _ (((o.grow j).grow l).grow s3) p λM w F q r4 q4=>?_;exact n F I s M y w Q i ((((o.grow j).grow l).grow s3).grow q).live ((t.same (cE s3)).same (cE q)) r4 q4 λd v L s' m q'=>k d v L (j.trans (l.trans (s3.trans (q.trans s')))) m q'
 |_=>exact p.elim
def HP{f g:D->D->(D->Prop)->Prop}(u:oU X (e7 op) r)(l:oU X (e7 op') i)(n:DI X r f)(j:DI X i g)(p:iK X a Y)(q:iK X b Z)(s:iK X c tc)
  (t:lastMarks [op,op'] [b,c]=false:=by with_unfolding_all rfl):GR X (.Compare a [op,op'] [b,c] pos) (CO (L5 f g Y Z tc)):=by
 obtain⟨N,w,A⟩:=p;obtain⟨P,y,E⟩:=q;obtain⟨R,z,F⟩:=s;refine⟨_,SR u l w y z t,λB O H I C G Q M o h k=>?_⟩;refine L9 n j A E F B O H I C G (λx=>match x with | .bool b=>Q b | _=>False) _ o h λd v L J i m=>?_
 cases i with
 |bool c=>exact⟨c,Fo,k c L J m⟩
 |_=>exact m.elim
abbrev OT:=List Sl->(Option Int->Prop)->Prop
def Gu(X:Cx)(e:Option Expr)(t:OT):Prop:=∃to:TO,PO X e to/\∀B O H I C G (Q:Option Int->Prop)(d:Option Int->Hp->Prop),Ok X.K B O H I C G->t C Q ->
 (∀i L,bR H L->Q i->d i L)->to G H d
def IW:OT:=λ_ Q=>Q none
def IV(t:ET):OT:=λG Q=>t G λx=>match x with | .int i=>Q (some i) | _=>False
def mX:Gu X none IW:=⟨_,YS,λ_ _ H _ _ _ _ _ _ h k=>k _ H (L2.bR.refl H) h⟩
def jT(h:iK X e W):Gu X (some e) (IV W):=by
 obtain⟨v,p,r⟩:=h;refine⟨_,YR p,λB O H I C G Q j o h k=>r B O H I C G _ _ o h λd x T g f q1=>?_⟩
 cases f with
 |int i=>exact⟨i,Fo,k _ T g q1⟩
 |_=>exact q1.elim
def My(X:Cx)(r:V->Option Int->Option Int->Hp->VK->Prop)(f:D->Option Int->Option Int->(D->Prop)->Prop):Prop:=∀H I(d:D)(x:V)(lo g:Option Int)(Q:D->Prop)QV,(∀p∈I,EV (H p))->iN X.K (mask H I) d x->f d lo g Q ->
 (∀d v L,bR H L->iN X.K (mask L I) d v->Q d->QV v L)->r x lo g H QV
def Gi(f:D->Option Int->Option Int->(D->Prop)->Prop)(t:ET)(g d:OT):ET:=λG Q=>t G λx=>g G λl=>d G λu=>f x l u Q
def jW{r:V->Option Int->Option Int->Hp->VK->Prop}{f:D->Option Int->Option Int->(D->Prop)->Prop}{lo}(q:WG X r)(m:My X r f)(n:iK X e W)(p:Gu X lo tl)(s:Gu X hi th) :
  iK X (.Subscript e (.Slice lo hi none p2) pos) (Gi f W tl th):=by
 obtain⟨R,t,re⟩:=n;obtain⟨S,w,M⟩:=p;obtain⟨vu,y,N⟩:=s;refine⟨_,S7 q t w y,λB O H I C G Q j o h k=>re B O H I C G _ _ o h λd x T g J q1=>?_⟩;refine M B O T I C G _ _ (o.grow g) q1 λl U i A=>?_;refine N B O U I C G _ _ ((o.grow g).grow i) A λu H3 s3 E=>?_;exact m H3 I d x l u Q j (((o.grow g).grow i).grow s3).live ((J.same (cE i)).same (cE s3)) E λd v L P F z=>k d v L (g.trans (i.trans (s3.trans P))) F z
variable{st:Stmt}{jM:List Stmt}{t u:sW}
def jD:sW:=λd G=>d.nx G
def gI(t u:sW):sW:=λd G=>t { d with nx:=u d } G
def fL:sG X [] jD:=⟨_,FV,λB O H I C G d g o h f=>f.nx H I C G o (L2.bR.refl _) h⟩
def aP(l:wH X st t)(m:sG X jM u):sG X (st::jM) (gI t u):=by
 obtain⟨x,p1,r⟩:=l;obtain⟨w,p,s⟩:=m;refine⟨_,BR p1 p,λB O H I C G g i o h f=>r B O H I C G { g with nx:=u g } { i with nx:=w i } o h ⟨λL j d k n v q=>?_,f.bk,f.ct,f.rt,f.ro,f.rp,f.rq,f.xb⟩⟩;exact s B O L j d k g i n q (f.later v)
def bC(d:wH X st t):sG X [st] t:=by
 obtain⟨g,p1,f⟩:=d;exact⟨_,FU p1,f⟩
def SA(i:Nat)(t:sW):sW:=λf G=>∃d,G[i]?=some (.own d)/\t f (G.set i (.val (.list d)))
def lW(i:Nat)(h:sG X sts t):sG X sts (SA i t):=by
 obtain⟨v,p,r⟩:=h;refine⟨_,p,λB O H I C G g j o h f=>?_⟩;obtain⟨m,e,h⟩:=h;obtain⟨d,k,l⟩:=o.share e;exact r B O H d _ G g j k h (f.later l)
def sT(W:ET):sW:=λd G=>W G d.rt
def cO(h:iK X e W):wH X (.Return (some e) pos) (sT W):=by
 obtain⟨v,p,r⟩:=h;refine⟨_,yF p,λB O H I C G k l o h f=>r B O H I C G _ _ o h λd x L j i g=>?_⟩;exact f.rt d x L (o.base.trans j) (i.same (lX o.sub)) g
def Ga(c:xV)(t u:sW):sW:=λd G=>c G λb=>if b=true then t d G else u d G
def gT{c a b tc}(m:GR X c tc)(k:sG X a t)(l:sG X b u):wH X (.If c a b pos) (Ga tc t u):=by
 obtain⟨y,q,v⟩:=m;obtain⟨w,n,r⟩:=k;obtain⟨x,p,s⟩:=l;refine⟨_,Ly q n p,λB O H I C G i j o h f=>v B O H I C G _ _ o h λd T g q1=>?_⟩
 cases d with
 |true=>exact r B O T I C G i j (o.grow g) q1 (f.later (cE g))
 |false=>exact s B O T I C G i j (o.grow g) q1 (f.later (cE g))
def FL(i:Nat)(W:ET):sW:=λf G=>W G λd=>f.nx (G.set i (.val d))
def R5{i:Nat}(h:iK X e W)(g:∀{v},PE X e v->PS X (.Assign [.Name x pos'] e pos) (wO v (kY i))):wH X (.Assign [.Name x pos'] e pos) (FL i W):=by
 obtain⟨v,p,r⟩:=h;refine⟨_,g p,λB O H I C G m n o h f=>r B O H I C G _ _ o h λd x L j l k=>?_⟩;exact f.nx L I _ _ ((o.grow j).set l) (cE j) k
def PH(i:Nat)(t:AT):sW:=λf G=>t G λd=>d.length<=1000/\f.nx (G.set i (.own d))
def R6{i:Nat}{t}(h:wI X es t)(d:∀{v},PE X (.List es p2) v->PS X (.Assign [.Name x pos'] (.List es p2) pos) (wO v (kY i))):wH X (.Assign [.Name x pos'] (.List es p2) pos) (PH i t):=by
 obtain⟨v,p,r⟩:=h;refine⟨_,d (K5 p),λB O H I C G l m o h f=>r B O H I C G _ _ o h λn s T k j q1=>⟨F7 (by rw[<- j.length];exact q1.1),λq g=>?_⟩⟩;exact f.nx _ (q::I) _ _ ((o.grow k).setOwn g j) ((cE k).trans (by rw[lY g];exact L2.bR.refl _)) q1.2
def YK(i:Nat)(W:ET):sW:=λg G=>∃f,G[i]?=some (.own f)/\W G λd=>f.length<=100000/\g.nx (G.set i (.own (f++[d])))
def mM{i:Nat}{e W}(P:PE X n (sS i))(y:iK X e W)(hs:cD [e] X.env=(false,eval e X.env)::cD [] X.env:=by rfl)
  (pb:∀{Y},PA X [e] Y->PS X (.Expr (.Call (.Attribute n "append" ap) [e] [] cp) pos) (RZ (Ft X.K "list" NH (sS i) Y))):wH X (.Expr (.Call (.Attribute n "append" ap) [e] [] cp) pos) (YK i W):=by
 obtain⟨v,p,r⟩:=y;refine⟨_,pb (jC p lE hs),λB O H I C G F J o h f=>?_⟩;obtain⟨s,e,h⟩:=h;obtain⟨q,j,k,w,M,N,l,m⟩:=o.own i s e;refine⟨.ref q,k,.inl ⟨Fo,j,lT.of l⟩,r B O H I C G _ _ o h λd x T g E q1=>?_⟩;refine⟨q,j,x,Fo,Fo,g _ _ l,?_,?_⟩
 ·rw[<- m.length];have:bO=2^24:=rfl;lia
 ·have A:=o.grow g;have z:Reps X.K (mask T I) (s++[d]) (j++[x]):=(m.same (cE g)).append (.cons E .nil);exact f.nx _ I _ G (A.write (ys:=j++[x]) e k z) ((cE g).trans (by rw[jU w];exact L2.bR.refl _)) q1.2
noncomputable def IB(x:Str):List D:=x.cps.toList.map λc=>.str ⟨#[c]⟩
noncomputable def N0:D->Option (List D)
|.list ts=>some ts
|.tuple ts=>some ts
|.str x=>some (IB x)
|_=>none
def oR(G:List Sl):Prop:=∀(i:Nat)(s:Sl),(∀d,s≠.val d)->s≠.un->G[i]?≠some s
def kP{G:List Sl}(h:oR G)(i:Nat)(d:D):oR (G.set i (.val d)):=λj s f k e=>by
 by_cases z:i=j
 ·subst z;have g:i<G.length:=by simpa using(aE.mp e).1
  rw[bK g]at e;exact f d (c5 e).symm
 ·rw[bH z]at e;exact h j s f k e
theorem oR.own{G}(h:oR G)(i:Nat)(d:List D):G[i]?≠some (.own d):=h i _ (λ_ z=>nomatch z) λz=>nomatch z
theorem oR.dic{G}(h:oR G)(i:Nat)(hs:List Int)(d:List (D×D)):G[i]?≠some (.dic hs d):=h i _ (λ_ z=>nomatch z) λz=>nomatch z
abbrev GT:=D->List Sl->(List Sl->Prop)->Prop
def KD(X:Cx)(k:Expr)(g:GT):Prop:=∃j:TG,PG X k j/\∀B O H I C G (d:D)(v:V)(Q:List Sl->Prop)(i:L2.St->Hp->Prop),Ok X.K B O H I C G->iN X.K (mask H I) d v->g d C Q ->
 (∀f h,Ok X.K B O H I f h->(oR C->oR f)->Q f->i h H)->j v G H i
def gN(i:Nat):GT:=λd G Q=>Q (G.set i (.val d))
def dJ{i:Nat}(h:PG X (.Name x p) (kY i)):KD X (.Name x p) (gN i):=
 ⟨_,h,λB O H I C G d v Q f o r h k=>k _ _ (o.set r) (λn=>kP n _ _) h⟩
def gP(i j:Nat):GT:=λd G Q=>∃a b,d=.tuple [a,b]/\Q ((G.set i (.val a)).set j (.val b))
def oA{i j:Nat}{t}(h:PG X t (ZX X.K 2 (vF (kY i) (vF (kY j) ZY)))):KD X t (gP i j):=
 ⟨_,h,λB O H I C G d v Q l o r h k=>by
  obtain⟨a,b,rfl,h⟩:=h
  cases r with
  |@tuple p xs _ hq r=>
   cases r with
   |cons f r=>
    cases r with
    |cons g r=>
     cases r;exact⟨_,_,Fo,bR.seqT bZ hq,Fo,_,_,Fo,_,_,Fo,Fo,k _ _ ((o.set f).set g) (λn=>kP (kP n _ _) _ _) h⟩⟩
structure aAm(K:aM)(Hs:Hp)(ts:List D)(J:It):Prop where
 stop:∀(i:Nat)H,bR Hs H->ts.length<=i->J.stop i H
 go:∀(i:Nat)H,bR Hs H->i<ts.length->J.go i H
 yld:∀(i:Nat)H I(y:V)L,(∀p∈I,EV (H p))->bR Hs (mask H I)->i<ts.length->J.yld i H y L->bR H L/\∃dx,ts[i]?=some dx/\iN K (mask L I) dx y
abbrev IT:=List Sl->(List D->Prop)->Prop
def KC(X:Cx)(g iter:Expr)(t:IT):Prop:=∃f:TI,PI X g iter f/\∀B O H I C G (Q:List D->Prop)(R:It->Hp->Prop),Ok X.K B O H I C G->t C Q ->
 (∀d J L,bR H L->aAm X.K (mask L I) d J->Q d->R J L)->f G H R
def Om(W:ET):IT:=λG Q=>W G λd=>∃f,N0 d=some f/\Q f
def YL(r:iN K Hs d x)(l:N0 d=some ts){R:It->Hp->Prop}(hs:bR Hs T)(h:∀J:It,aAm K Hs ts J->R J T) :
  (∃a,x=.ref a/\(∃f,lT K T a f)/\R (Jb K a) T)\/(∃a,x=.ref a/\(∃f,rN K T a f)/\R (I3 K a) T)\/∃z,x=.str z/\R (Gy z) T:=by
 cases r with
 |@list p f us q rs=>
  obtain rfl:us=ts:=c5 l;refine .inl ⟨p,Fo,⟨f,L2.bR.seq hs q⟩,h _ ⟨λi H e g=>⟨f,L2.bR.seq e q,by rw[<- rs.length];exact g⟩,λi H e g=>?_,λi H I y L _ e g j=>?_⟩⟩
  ·obtain⟨v,o,_⟩:=rs.get (aD g);exact⟨f,v,L2.bR.seq e q,o⟩
  ·obtain⟨rfl,j⟩:=j;obtain⟨m,n,k⟩:=rs.get' (j f (L2.bR.seq (e.trans bZ) q));exact⟨L2.bR.refl _,m,n,k.same e⟩
 |@tuple p f us q rs=>
  obtain rfl:us=ts:=c5 l;refine .inr (.inl ⟨p,Fo,⟨f,bR.seqT hs q⟩,h _ ⟨λi H e g=>⟨f,bR.seqT e q,by rw[<- rs.length];exact g⟩,λi H e g=>?_,λi H I y L _ e g j=>?_⟩⟩)
  ·obtain⟨v,o,_⟩:=rs.get (aD g);exact⟨f,v,bR.seqT e q,o⟩
  ·obtain⟨rfl,j⟩:=j;obtain⟨m,n,k⟩:=rs.get' (j f (bR.seqT (e.trans bZ) q));exact⟨L2.bR.refl _,m,n,k.same e⟩
 |str z=>
  obtain rfl:IB z=ts:=c5 l;have g:(IB z).length=z.cps.size:=by unfold IB;simp
  refine .inr (.inr ⟨z,Fo,h _ ⟨λi H _ e=>by rw[g]at e;exact e,λi H _ e=>by rw[g]at e;exact e,λi H I y L _ _ e j=>?_⟩⟩);obtain⟨rfl,c,k,rfl⟩:=j;refine⟨L2.bR.refl _,.str ⟨#[c]⟩,?_,.str _⟩;unfold IB;rw[aI];have:z.cps.toList[i]?=some c:=by simpa using k
  rw[this];rfl
 |_=>cases l
def eW(f:iK X e W):KC X tg e (Om W):=by
 obtain⟨p,i,re⟩:=f;refine⟨_,Zt i,λB O H I C G Q R o h k=>re B O H I C G _ _ o h λd x T m j q1=>?_⟩;obtain⟨n,g,q⟩:=q1;exact YL j g bZ λJ l=>k n J T m l q
noncomputable def eQ(n:Nat):List D:=(cR n).map λ(k:Nat)=>aQ (k:Int)
def Yo(t:AT):IT:=λG Q=>t G λd=>∃n:Int,d=[.int n]/\-(2^62)<=n/\n<2^62/\Q (eQ n.toNat)
def kN{e t}(m:wI X [e] t)(v:∀{Y},PA X [e] Y->PI X tg (.Call (.Name "range" p) [e] [] p') (Mh Y)):KC X tg (.Call (.Name "range" p) [e] [] p') (Yo t):=by
 obtain⟨E,s,x⟩:=m;refine⟨_,v s,λB O H I C G Q R o h k=>x B O H I C G _ _ o h λA F T z f q1=>?_⟩;obtain⟨n,rfl,j,l,q⟩:=q1
 cases f with
 |cons f w=>
  cases w;cases f;refine⟨n,Fo,j,l,k (eQ n.toNat) _ T z ?_ q⟩;have d:(eQ n.toNat).length=n.toNat:=by unfold eQ;simp
  refine⟨λi H _ e=>by rw[d]at e;exact e,λi H _ e=>by rw[d]at e;exact e,λi H I y L _ _ e r=>?_⟩;obtain⟨rfl,rfl⟩:=r;have g:(0:Int)+(i:Int)=(i:Int):=by lia
  rw[g];rw[d]at e;refine⟨L2.bR.refl _,.int i,?_,.int _⟩;unfold eQ;rw[aI,iI e];rfl
def YJ(j:IT)(g:GT)(Z:sW):sW:=λf G=>j G λi=>∃P:Nat->List Sl->Prop,P 0 G /\
 (∀(k:Nat)(x:D)d,i[k]?=some x->P k d->g x d λh=>Z { f with nx:=P (k+1),ct:=P (k+1),bk:=f.nx } h)/\∀d,P i.length d->f.nx d
def aC0{iter Z}(he:KC X tg iter ti)(hg:KD X tg g)(hb:sG X body Z)
  (pf:∀{wi R bv},PI X tg iter wi->PG X tg R->AC X body bv->PS X (.For tg iter body [] pos) (Ks wi R bv)):wH X (.For tg iter body [] pos) (YJ ti g Z):=by
 obtain⟨ve,pe,re⟩:=he;obtain⟨R,pg,rg⟩:=hg;obtain⟨vb,pb,rb⟩:=hb;refine⟨_,pf pe pg pb,λB O H I C G DT DV o h f=>re B O H I C G _ _ o h λE J T s1 rj q1=>?_⟩;obtain⟨P,h0,hs,hd⟩:=q1;refine⟨λi m n L=>m=E.length-i/\i<=E.length/\∃j d,Ok X.K B O L j d n/\bR (mask T I) (mask L j)/\P i d,⟨_,Fo,cI _,I,C,o.grow s1,L2.bR.refl _,h0⟩,?_⟩;rintro i m n L ⟨rfl,sk,j,d,o',N,p'⟩;have sH:bR (mask T I) L:=N.trans bZ;have f':J6 X.K B O L j DT DV:=f.later ((cE s1).trans N);by_cases q:i<E.length
 ·refine .inr ⟨rj.go i L sH q,λF U=>∃v p,Ok X.K B O U v p F/\bR (mask T I) (mask U v)/\P (i+1) p,λF U z=>⟨E.length-(i+1),Fl,Fo,q,z⟩,λy U S=>?_⟩;obtain⟨s2,dx,hx,rx⟩:=rj.yld i L j y U o'.live N q S;have f2:=f'.later (cE (ps:=j) s2);have x:bR (mask T I) (mask U j):=N.trans (cE s2);refine rg B O U j d n dx y _ _ (o'.grow s2) rx (hs i dx d hx p') λM xl o3 _ q3=>?_;exact rb B O U j M xl _ _ o3 q3 ⟨λQ l k r s A w=>⟨l,k,s,x.trans A,w⟩,λQ l k r s A w=>f2.nx Q l k r s A w,λQ l k r s A w=>⟨l,k,s,x.trans A,w⟩,f2.rt,f2.ro,f2.rp,f2.rq,f2.xb⟩
 ·obtain rfl:i=E.length:=by lia
  exact .inl ⟨rj.stop _ L sH (aN _),f'.nx L j d n o' (L2.bR.refl _) (hd d p')⟩
noncomputable def JY(G:List Sl):Option Nat->Sl
|none=>.un
|some j=>match G[j]? with | some (.val d)=>.val d | _=>.un
noncomputable def kF(d:List (Option Nat))(G:List Sl):List Sl:=d.map (JY G)
def QZ{G}(h:JY G q=.val d):∃j,q=some j/\G[j]?=some (.val d):=by
 cases q with
 |none=>cases h
 |some j=>
  refine⟨j,Fo,?_⟩;unfold JY at h;dsimp only at h;split at h
  ·next e=>cases h;exact e
  ·cases h
def Q0{G}(g:∀d,s≠.val d)(f:s≠.un):JY G q≠s:=λh=>by
 cases q with
 |none=>exact f h.symm
 |some j=>
  unfold JY at h;dsimp only at h;split at h
  ·exact g _ h.symm
  ·exact f h.symm
def qY(d:List (Option Nat))(G:List Sl):oR (kF d G):=λi s j g h=>by
 unfold kF at h;rw[aI]at h
 cases f:d[i]? with
 |none=>rw[f]at h;cases h
 |some q=>
  rw[f]at h;exact Q0 j g (c5 h)
def Ok.blk(o:Ok K B O H I C G)(fr:List (Option Nat)):Ok K B O H I (kF fr C) (xE fr G) where
 base:=o.base
 sub:=o.sub
 live:=o.live
 len:=by unfold kF xE;simp
 val:=λi d h=>by
  unfold kF at h;rw[aI]at h
  cases hf:fr[i]? with
  |none=>rw[hf]at h;cases h
  |some q=>
   rw[hf]at h;obtain⟨j,rfl,e⟩:=QZ (c5 h);obtain⟨v,h1,h2⟩:=o.val j d e;refine⟨v,?_,h2⟩;unfold xE;rw[aI,hf];simp[h1]
 own:=λi ts h=>a9 h ((qY fr C).own i ts)
 dis:=λi j ts us p h=>a9 h ((qY fr C).own i ts)
 dc:=λi hs kvs h=>a9 h ((qY fr C).dic i hs kvs)
def Ok.adopt(o:Ok K B O H I C G){p:Addr}{u}(f:H p=none)(w:U4 u=false:=by rfl):Ok K B O (gG H p u) (p::I) C G:=by
 have k:mask (gG H p u) (p::I)=mask H I:=lY f;refine⟨o.base.trans (eX f),λq l=>aO _ (o.sub q l),λq l=>?_,o.len,λi d h=>by rw[k];exact o.val i d h,λi y h=>?_,o.dis,o.dc.to (λj hs x h=>⟨h,Fo⟩) (λq E a b _=>⟨aO _ a,cN λz=>by rw[z,f]at b;cases b⟩) (λq E _ _ a b=>⟨a,b⟩) (by rw[k];exact L2.bR.refl _)⟩
 ·by_cases e:q=p
  ·subst e;rw[cW];exact⟨_,Fo,w⟩
  ·rw[cN e];rcases aY.mp l with z | z
   ·exact a9 z e
   ·exact o.live q z
 ·rw[k];obtain⟨q,A,m,n,r,s,g,v⟩:=o.own i y h;exact⟨q,A,m,aO _ n,r,s,by rw[cN λz=>by rw[z,f]at g;cases g];exact g,v⟩
def Ok.aside(o:Ok K B O H I C G){q:Addr}{u}(hp:q∈I)(hB:B q=none)(hn:oR C)(hu:U4 u=false:=by rfl):Ok K B O (gG H q u) I C G where
 base:=λb w e=>by
  rw[cN λz=>by rw[z,hB]at e;cases e];exact o.base b w e
 sub:=o.sub
 live:=λp td=>by
  by_cases e:p=q
  ·subst e;rw[cW];exact⟨_,Fo,hu⟩
  ·rw[cN e];exact o.live p td
 len:=o.len
 val:=λi d h=>by rw[jU hp];exact o.val i d h
 own:=λi ts h=>a9 h (hn.own i ts)
 dis:=λi j ts us p h=>a9 h (hn.own i ts)
 dc:=λi hs kvs h=>a9 h (hn.dic i hs kvs)
def GU(X:Cx)(d:List Expr)(t:xV):Prop:=∃g:TT,Q4 X d g/\∀B O H I C G (Q:Bool->Prop)(f:Bool->Hp->Prop),Ok X.K B O H I C G->t C Q ->
 (∀b L,bR H L->Q b->f b L)->g G H f
def CN:xV:=λ_ Q=>Q true
def iR:GU X [] CN:=⟨_,YU,λ_ _ H _ _ _ _ _ _ h k=>k _ H (L2.bR.refl H) h⟩
def tX{t}(h:GR X e t):GU X [e] t:=by
 obtain⟨v,p,r⟩:=h;exact⟨_,YT p,r⟩
def RC(j:List (Option Nat))(l:IT)(g:GT)(m:xV)(W:ET):ET:=λG Q=>l G λi=>i.length<=100000/\∃P:Nat->List Sl->List D->Prop,P 0 (kF j G) [] /\
 (∀(k:Nat)(x:D)d(h:List D),i[k]?=some x->P k d h->g x d λf=>m f λb=>if b=true then W f λy=>P (k+1) f (h++[y])else P (k+1) f h)/\∀d h,P i.length d h->Q (.list h)
def ZE{ti:IT}{g:GT}{tt:xV}{W:ET}{wi:TI}{gv:BP->TG}{vt:BP->TT}{ve:BP->TE}
  (ri:∀B O H I C G (Q:List D->Prop)(R:It->Hp->Prop),Ok X.K B O H I C G->ti C Q->(∀M J L,bR H L->aAm X.K (mask L I) M J->Q M->R J L)->wi G H R)
  (rg:∀(x:BP)B O H I C G(d:D)(v:V)(Q:List Sl->Prop)(s:L2.St->Hp->Prop),Ok X.K B O H I C G->iN X.K (mask H I) d v->g d C Q->(∀f r,Ok X.K B O H I f r->(oR C->oR f)->Q f->s r H)->gv x v G H s)
  (rt:∀(x:BP)B O H I C G(Q:Bool->Prop)(s:Bool->Hp->Prop),Ok X.K B O H I C G->tt C Q->(∀b L,bR H L->Q b->s b L)->vt x G H s)
  (re:∀(x:BP)B O H I C G(Q:D->Prop)s,Ok X.K B O H I C G->W C Q->(∀d v L,bR H L->iN X.K (mask L I) d v->Q d->s v L)->ve x G H s)
  (B:Hp) (O:List Addr) (H:Hp) (I:List Addr) (C:List Sl) (G:L2.St) (Q:D->Prop) (s:VK) (o:Ok X.K B O H I C G) (h:RC fr ti g tt W C Q) (k:∀d v L,bR H L->iN X.K (mask L I) d v->Q d->s v L):RY fr wi gv vt ve G H s:=by
 refine ri B O H I C G _ _ o h λM J T s1 rj q1=>?_;obtain⟨hz,P,h0,hs,hd⟩:=q1;intro x j l
 have N:B j=none:=by
  cases q:B j with
  |none=>rfl
  |some u=>rw[(o.grow s1).base j u q]at l;cases l
 have yp:j∉I:=jE (o.grow s1).live l
 refine⟨λi m r L=>m=M.length-i/\i<=M.length/\∃f A S,Ok X.K B O L (j::I) f r/\oR f/\L j=some (.lst S)/\A.length<=i/\Reps X.K (mask L (j::I)) A S/\bR (mask T I) (mask L (j::I))/\bR T L/\P i f A,
  ⟨_,Fo,cI _,kF fr C,[],[],((o.grow s1).blk fr).adopt l,qY fr C,cW,aN _,.nil,by rw[lY l];exact L2.bR.refl _,eX l,h0⟩,?_⟩
 rintro i m r L ⟨rfl,sk,f,A,S,o',n',ha,hl,hr,s',sF,p'⟩;have hL:bO=2^24:=rfl;by_cases E:i<M.length
 ·refine .inr ⟨rj.go i L (s'.trans bZ) E,λy U hy=>?_⟩;obtain⟨s2,dx,hx,rx⟩:=rj.yld i L (j::I) y U o'.live s' E hy;refine rg x B O U (j::I) f r dx y _ _ (o'.grow s2) rx (hs i dx f A hx p') λn xl o3 n3 q3=>?_;refine rt x B O U (j::I) n xl _ _ o3 q3 λb H4 s4 q4=>?_;have w:=s2.trans s4
  cases b with
  |false=>
   exact⟨M.length-(i+1),Fl,Fo,E,n,A,S,o3.grow s4,n3 n',w _ _ ha,Fl,hr.same (cE w),s'.trans (cE w),sF.trans w,q4⟩
  |true=>
   refine re x B O H4 (j::I) n xl _ _ (o3.grow s4) q4 λd v H5 s5 r5 q5=>?_;have F:=w.trans s5;have hm:mask (gG H5 j (.lst (S++[v]))) (j::I)=mask H5 (j::I):=jU (aS ..);refine⟨S,F _ _ ha,by rw[<- hr.length];lia,M.length-(i+1),Fl,Fo,E,n,A++[d],S++[v],((o3.grow s4).grow s5).aside (aS ..) N (n3 n'),n3 n',cW,by rw[bG,lA];lia,?_,?_,?_,q5⟩
   ·rw[hm];exact(hr.same (cE F)).append (.cons r5 .nil)
   ·rw[hm];exact s'.trans (cE F)
   ·intro b u e;have ne:b≠j:=λz=>by rw[z,l]at e;cases e
    rw[cN ne];exact(sF.trans F) b u e
 ·obtain rfl:i=M.length:=by lia
  refine .inl ⟨rj.stop _ L (s'.trans bZ) (aN _),k (.list A) _ L (s1.trans sF) (.list (lT.of (nA yp ha)) (hr.same (lX λp hp=>aO _ hp))) (hd f A p')⟩
def UU{iter W}(j:KC X tg iter ti)
  (f:∀b:BP,KD (blk X scope N' b) tg g/\GU (blk X scope N' b) ifs tt/\iK (blk X scope N' b) elt W) {M:(TE)->Prop}
  (fin:∀{h}{gv:BP->TG}{vt:BP->TT}{ve:BP->TE},PI X tg iter h->(∀b:BP,PG (blk X scope N' b) tg (gv b)/\Q4 (blk X scope N' b) ifs (vt b)/\PE (blk X scope N' b) elt (ve b))->M (RY fr h gv vt ve)) :
  ∃v:TE,M v/\∀B O H I C G (Q:D->Prop)(i:VK),Ok X.K B O H I C G->RC fr ti g tt W C Q ->
   (∀d v L,bR H L->iN X.K (mask L I) d v->Q d->i v L)->v G H i:=by
 obtain⟨h,k,l⟩:=j;refine⟨_,fin (gv:=λb=>d8 (f b).1) (vt:=λb=>d8 (f b).2.1) (ve:=λb=>d8 (f b).2.2) k λb=>⟨(c8 (f b).1).1,(c8 (f b).2.1).1,(c8 (f b).2.2).1⟩,?_⟩;exact ZE l (λb=>(c8 (f b).1).2) (λb=>(c8 (f b).2.1).2) λb=>(c8 (f b).2.2).2
def Rb{iter W}(j:KC X tg iter ti)
  (i:∀b:BP,KD (blk X scope N' b) tg g/\GU (blk X scope N' b) ifs tt/\iK (blk X scope N' b) elt W)
  (k:∀{wi}{d:BP->TG}{h:BP->TT}{f:BP->TE},PI X tg iter wi->(∀b:BP,PG (blk X scope N' b) tg (d b)/\Q4 (blk X scope N' b) ifs (h b)/\PE (blk X scope N' b) elt (f b))->PE X (.ListComp elt [⟨tg,iter,ifs,0⟩] scope pos) (RY fr wi d h f)) :
  iK X (.ListComp elt [⟨tg,iter,ifs,0⟩] scope pos) (RC fr ti g tt W):=UU j i k
def pD{i:Nat}{iter W}(q:KC X tg iter ti)
  (n:∀b:BP,KD (blk X scope N' b) tg g/\GU (blk X scope N' b) ifs tt/\iK (blk X scope N' b) elt W)
  (s:∀{wi}{j:BP->TG}{m:BP->TT}{l:BP->TE},PI X tg iter wi->(∀b:BP,PG (blk X scope N' b) tg (j b)/\Q4 (blk X scope N' b) ifs (m b)/\PE (blk X scope N' b) elt (l b)) ->
   PS X (.Assign [.Name x px] (.ListComp elt [⟨tg,iter,ifs,0⟩] scope pos) spos) (wO (RY fr wi j m l) (kY i))) :
  wH X (.Assign [.Name x px] (.ListComp elt [⟨tg,iter,ifs,0⟩] scope pos) spos) (FL i (RC fr ti g tt W)):=by
 obtain⟨v,p,r⟩:=UU (M:=λv=>PS X (.Assign [.Name x px] (.ListComp elt [⟨tg,iter,ifs,0⟩] scope pos) spos) (wO v (kY i))) (fr:=fr) q n s;refine⟨_,p,λB O H I C G z A o h f=>r B O H I C G _ _ o h λd x L k y w=>?_⟩;exact f.nx L I _ _ ((o.grow k).set y) (cE k) w
noncomputable def mL(N:List Str)(d:List D):List Sl:=d.map Sl.val++E7 (N.length-d.length) .un
def tU(live:∀p∈I,EV (H p))(r:Reps K (mask H I) ds vs):Ok K H I H I (mL N ds) (L2.qR N vs):=by
 have k:=r.length;refine⟨L2.bR.refl _,λ_ h=>h,live,?_,λi d h=>?_,λi o h=>?_,λi j o q p h=>?_,λi hs n h=>?_⟩
 ·unfold mL L2.qR;simp[k]
 ·unfold mL at h;by_cases f:i<ds.length
  ·rw[eB (by simpa using f),aI]at h
   cases hd:ds[i]? with
   |none=>rw[hd]at h;cases h
   |some g=>
    rw[hd]at h;cases h;obtain⟨v,l,m⟩:=r.get hd;refine⟨v,?_,m⟩;unfold L2.qR;rw[eB (by rw[aC,<- k];exact f),aI,l];rfl
  ·rw[eJ (by simpa using f),kK]at h;split at h<;>cases h
 ·unfold mL at h;by_cases f:i<ds.length
  ·rw[eB (by simpa using f),aI]at h
   cases hd:ds[i]? with
   |none=>rw[hd]at h;cases h
   |some g=>rw[hd]at h;cases h
  ·rw[eJ (by simpa using f),kK]at h;split at h<;>cases h
 ·unfold mL at h;by_cases f:i<ds.length
  ·rw[eB (by simpa using f),aI]at h
   cases hd:ds[i]? with
   |none=>rw[hd]at h;cases h
   |some g=>rw[hd]at h;cases h
  ·rw[eJ (by simpa using f),kK]at h;split at h<;>cases h
 ·unfold mL at h;by_cases f:i<ds.length
  ·rw[eB (by simpa using f),aI]at h
   cases hd:ds[i]? with
   |none=>rw[hd]at h;cases h
   |some g=>rw[hd]at h;cases h
  ·rw[eJ (by simpa using f),kK]at h;split at h<;>cases h
def lZ{mg:Str->Option Value}{st}{f:Addr}{N pn:List Str}{k:Nat}{n:kQ}(F:Q5 K x qual st f fd)(S:bX N pn (aZ st))
  (l:∀{j}{A:d1}{outer}{s:Shared}{H E},Room k (A.deeper (aq qual (aZ st) s.heap.objs.size f j))->N.Nodup->∀(i:List D)(Q:D->Prop),n i Q ->
   ∃t,sG (zZ hW P w K mg base N qual (aZ st) f j A outer s H E).nox (mJ st) t/\t { nx:=λ_=>Q .none,rt:=Q } (mL N i)) (len:∀i Q,n i Q->i.length=pn.length:=by intro i Q h;(repeat obtain⟨_,h⟩:=h)<;>subst_vars<;>rfl):dU P w K mg base hW (k+1) f fd pn (cG K n):=by
 refine F.ok S (λvs H Q E h=>?_) λj A outer s H vs Q E z h=>?_
 ·obtain⟨I,i,m,_,r,q,_⟩:=h;rw[<- r.length];exact len i m q
 ·obtain⟨I,i,m,live,r,q,k⟩:=h;obtain⟨t,⟨ts,p,rd⟩,h⟩:=l z S.nd i m q;refine⟨ts,p,rd H I H I _ _ _ _ (tU live r) h ⟨λL M y bi J o g=>?_,λ_ _ _ _ _ _ g=>g.elim,λ_ _ _ _ _ _ g=>g.elim,λd v L o R g=>k d v L o R g,λ_ _ _ _ _ _ _ _ _ g=>g.elim,λ_ _ _ _ _ _ _ _ _ _ _ _ _ _ _ _ _ _ g=>g.elim,λ_ _ _ _ _ _ _ _ _ _ _ _ _ _ g=>g.elim,i8⟩⟩;exact k _ _ L J.base .none g
end
end TL
namespace HT
section
variable{prog:cM}{w:c7}{A:d1}{E:Value->Shared->Prop}{s:Shared}
def getItem_tuple_all{t g:Addr}{a:Array Value}{lo}{Q:Value->Shared->Prop}(b:ue s.heap t a)(hs:s.heap.IsSliceOf g vl vu .none)(j:IsPart vl lo)(k:IsPart vu hi)
  (hw:sIx a.size 0 lo=0/\sIx a.size a.size hi=a.size) (h:Q (.ref t) s):wpAny (model prog w) A (bw (.ref t) (.ref g)) Q E s:=by
 obtain⟨os,f,e,i⟩:=id hs;have d:s.TypeIs (.ref g) "slice":=⟨os,f,e⟩;unfold bw
 try with_reducible refine h8 ?_
 first | refine aB (aG ?_) | skip
 refine aB (ut b.typeIs Fk ?_)
 refine aB (d7 (name:=c6 "__getitem__") b.typeIs k9
  (dL k9 b.typeIs sj ?_ (sv _ _)))
 show wpAny _ _ (ag (.ref t) >>= _) _ _ s;refine aB (tupleItemsOf_ b ?_);refine aB (al d ?_);rw[a7 Fk];refine aB (qU hs j k ?_)
 have c:(((sIx a.size 0 lo:Nat):Int)==0&&(1:Int)==1&&(sIx a.size a.size hi-sIx a.size 0 lo)==a.size)=true:=by
  rw[hw.1,hw.2];simp
 show wpAny _ _ (if(((sIx a.size 0 lo:Nat):Int)==0&&(1:Int)==1&&(sIx a.size a.size hi-sIx a.size 0 lo)==a.size)=true then _ else _) _ _ s;rw[a7 c];unfold Builtin.Tuple.tupleIsExact;refine aB (aB (al b.typeIs (aG ?_)));rw[a7 Fk]
 first
  |exact aB (n8 (aB (aG (aG ⟨_,Fo,aG h⟩))))
  |exact aB (n8 (aG ⟨_,Fo,aG h⟩))
  |exact aB (n8 (aB (aG ⟨_,Fo,aG h⟩)))
end
end HT
namespace L2
section
variable{X:Cx}
def Kk:V->Option Int->Option Int->Hp->VK->Prop:=λx lo a H Q=>∃z,x=.str z/\z.length<=bO/\Q (.str (Txt.slice z lo a)) H
def aC4:WG X Kk:=by
 intro b s o H x v r w lo a p Q I n hs m e h;obtain⟨z,rfl,g,q⟩:=h;obtain⟨t,rfl⟩:=n;refine⟨"str",_,PySem.F.slot_str_getitem.lookup,tx _ _ _,?_⟩
 have fin:∀lo a:Option Int,Q (.str (Txt.slice z lo a)) H->(Txt.slice z lo a).length<=bO/\∀(c:Tok)(k:Nat),EP X b o Q (.str (Txt.slice z lo a) c) { s with toks:=k }:=λlo a q=>
  ⟨bJ (Txt.slice_le z _ _) g,λc k=>⟨.str _,H,I.tok k,⟨c,Fo⟩,q⟩⟩
 cases m with
 |none=>
  cases e with
  |none=>exact af (l:=none) (u:=none) (st:=none) hs Fo (ce (fin none none q))
  |int j d=>exact af (l:=none) (u:=some (j,d)) (st:=none) hs Fo (ce (fin none (some j) q))
 |int i f=>
  cases e with
  |none=>exact af (l:=some (i,f)) (u:=none) (st:=none) hs Fo (ce (fin (some i) none q))
  |int j d=>exact af (l:=some (i,f)) (u:=some (j,d)) (st:=none) hs Fo (ce (fin (some i) (some j) q))
def Ma(K:aM):V->Option Int->Option Int->Hp->VK->Prop:=λx lo c H Q=>∃a b,x=.ref a/\rN K H a b /\
 ((HT.sIx b.length 0 lo=0/\HT.sIx b.length b.length c=b.length)->Q (.ref a) H)/\(¬(HT.sIx b.length 0 lo=0/\HT.sIx b.length b.length c=b.length)->∀p,H p=none->Q (.ref p) (gG H p (.tup (GG b lo c))))
def X8:WG X (Ma X.K):=by
 intro d s q H x v o p lo f n Q I l hs j k h;obtain⟨a,b,rfl,i,q1,m⟩:=h;by_cases hw:HT.sIx b.length 0 lo=0/\HT.sIx b.length b.length f=b.length
 ·cases l;obtain⟨e,r,g,t⟩:=I.tuple i;have c:e.toArray.size=b.length:=by rw[bI];exact r.length.symm
  exact⟨"tuple",_,PyProof.Rows.slot_tuple_getitem.lookup,g.typeIs,HT.getItem_tuple_all g hs j k (by rw[c];exact hw) ⟨.ref a,H,I,Fo,q1 hw⟩⟩
 ·exact aC3 d s q H (.ref a) v o p lo f n Q I l hs j k ⟨a,b,Fo,i,hw,m hw⟩
def SL(K:aM):V->Option Int->Option Int->Hp->VK->Prop:=λx lo a H Q=>Kj K x lo a H Q\/Ma K x lo a H Q\/Kk x lo a H Q
def mW:WG X (SL X.K):=X9.or (X8.or aC4)
def SN(K:aM):R2:=λx y H Q=>∃a b c d,x=.ref a/\y=.ref b/\rN K H a c/\rN K H b d/\c.length+d.length<=bO /\
 (c=[]->Q (.ref b) H)/\(c≠[]->d=[]->Q (.ref a) H)/\(c≠[]->d≠[]->∀p,H p=none->Q (.ref p) (gG H p (.tup (c++d))))
def TR:oU X (m4 .Add) (SN X.K):=by
 intro j s P H x y v u Q I w z h;obtain⟨a,b,A,O,rfl,rfl,p,q,F,q0,q1,L⟩:=h;by_cases f:A=[]
 ·cases w;cases z;obtain⟨g,M,p1,_⟩:=I.tuple p;obtain⟨i,R,J,_⟩:=I.tuple q;obtain⟨⟨B,C,o,N⟩,t,r,n,hd⟩:=id p1;obtain⟨⟨m,k,data2,l⟩,e,c,G,d⟩:=id J;simp only at r hd c d;subst r hd c d;have E:g=[]:=M.nil_iff.mpr f;exact dy ⟨_,t,Fo⟩ ⟨_,e,Fo⟩ fb io sK rJ (qL _ _) (tuple_addW0 a b g.toArray i.toArray n G C k N l (by simp[E])) ⟨t,e,⟨.ref b,H,I,Fo,q0 f⟩⟩
 ·exact Y0 j s P H (.ref a) (.ref b) v u Q I w z ⟨a,b,A,O,Fo,Fo,p,q,f,F,q1 f,L f⟩
def Lz(K:aM):R2:=λx y H Q=>∃l b a c,x=.ref l/\y=.ref b/\lT K H l a/\lT K H b c/\a.length+c.length<=bO/\∀p,H p=none->Q (.ref p) (gG H p (.lst (a++c)))
def FZ:oU X (m4 .Add) (Lz X.K):=by
 intro w s T H x y v u Q I N O h;obtain⟨l,b,R,S,rfl,rfl,G,J,t,q⟩:=h;cases N;cases O;obtain⟨c,z,⟨⟨B,C,m,P⟩,n,r,o,L,hd⟩,_⟩:=I.list G;obtain⟨a,A,⟨⟨k,g,data2,j⟩,M,f,d,p,e⟩,_⟩:=I.list J;simp only at o hd d e;subst o hd d e;have i:c.toArray.size+a.toArray.size<=bO:=by rw[bI,bI,<- z.length,<- A.length];exact t
 refine dy ⟨_,r,Fo⟩ ⟨_,f,Fo⟩ noFill_list_add seq_list_add PySem.F.slot_list_add PySem.F.entry_list_add (PySem.F.args_list_add_2 _ _) (list_addW l b c.toArray a.toArray n M C g P j i) ⟨r,f,?_⟩;have E:c.toArray++a.toArray=(c++a).toArray:=by simp
 rw[E];exact⟨.ref _,_,I.lnew (t':=s.toks) (z.append A) (by rw[bG];exact t),Fo,q _ I.fresh⟩
def NI(K:aM):R2:=λx y H Q=>(SM λi j=>.int (i+j)) x y H Q\/(∃i j,x=.str i/\y=.str j/\i.length+j.length<=bO/\Q (.str (i++j)) H)\/SN K x y H Q\/Lz K x y H Q
def cZ:oU X (m4 .Add) (NI X.K):=Zh.or (K7.or (TR.or FZ))
def NG:R2:=λx y H Q=>(rI J7 λi j=>.int (i*j)) x y H Q\/∃z n,x=.str z/\y=.int n/\z.length<=1000/\0<=n/\n<=1000/\Q (.str (Txt.mul z n)) H
def K6:oU X (m4 .Mult) (λx y H Q=>∃z n,x=.str z/\y=.int n/\z.length<=1000/\0<=n/\n<=1000/\Q (.str (Txt.mul z n)) H):=by
 intro c s o H x y v u Q I e f h;obtain⟨z,n,rfl,rfl,d,g,i,q⟩:=h;obtain⟨t,rfl⟩:=e;obtain⟨m,rfl⟩:=f;refine SB.mul ⟨by simp;lia,λa _=>?_,λ_ _=>?_⟩ λb k=>⟨.str _,H,I.tok k,⟨b,Fo⟩,q⟩
 ·have l:1<=n:=by lia
  have:(1000:Int)<=(2^63-1) / n:=by
   rw[Int.le_ediv_iff_mul_le Fl];lia
  lia
 ·have:z.length*n.toNat<=1000*1000:=fZ d Fl;unfold Builtin.Str.tooLong;have j:bO=2^24:=rfl;simp only[decide_eq_false_iff_not];lia
def fV:oU X (m4 .Mult) NG:=TN.or K6
def Ie:R2:=λx y H Q=>∃b,y=.bl b/\Q (.bl (decide (x=.bl b))) H
def FR:R2:=λx y H Q=>∃b,y=.bl b/\Q (.bl (!decide (x=.bl b))) H
def Mj{b:Bool}(r:iJ x v):plainIs v (.bool b)=true/\(v==u6 b)=decide (x=.bl b):=by
 cases x with
 |non=>cases r;exact⟨Fo,Fo⟩
 |bl c=>cases r;cases b<;>cases c<;>exact⟨Fo,Fo⟩
 |int _=>obtain⟨t,rfl⟩:=r;exact⟨Fo,Fo⟩
 |str _=>obtain⟨t,rfl⟩:=r;exact⟨Fo,Fo⟩
 |byt _=>obtain⟨t,rfl⟩:=r;exact⟨Fo,Fo⟩
 |flt _=>obtain⟨t,rfl⟩:=r;exact⟨Fo,Fo⟩
 |ref _=>cases r;exact⟨Fo,Fo⟩
 |ty _=>cases r;exact⟨Fo,Fo⟩
def PR:oU X (e7 .IsNot) FR:=by
 intro a s g H x y v u Q I e f h;obtain⟨b,rfl,q⟩:=h;cases f;obtain⟨c,d⟩:=Mj (b:=b) e;refine wpAny_isNot_plain c ?_;rw[d];exact⟨.bl _,H,I,Fo,q⟩
def Zk:oU X (e7 .Is) Ie:=by
 intro a s g H x y v u Q I e f h;obtain⟨b,rfl,q⟩:=h;cases f;obtain⟨c,d⟩:=Mj (b:=b) e;refine wpAny_is_plain c ?_;rw[d];exact⟨.bl _,H,I,Fo,q⟩
theorem M6:∀{a:List Str}{us},gM (a.map V.str) us->StrsAre us a
|[],_,r=>by rw[lV]at r;cases r;exact .nil
|y::a,us,r=>by
 rw[bE]at r
 cases r with
 |cons b c=>
  obtain⟨t,rfl⟩:=b;exact .cons y t (M6 c)
def ZA:W4 X "str.join" (λx c H Q=>∃z p a,x=.str z/\c=[.ref p]/\lT X.K H p (a.map V.str)/\(a.map (·.length)).sum+a.length*z.length<=16777216/\Q (.str (Txt.join z a)) H):=by
 intro b s o H x c v n Q I l r h;obtain⟨z,p,a,rfl,rfl,d,e,q⟩:=h;obtain⟨t,rfl⟩:=l;obtain⟨u,rfl,i⟩:=oC r;cases i;obtain⟨f,j,g,_⟩:=I.list d;exact PyProof.Rows.join_list g.isList (by simpa using M6 j) e λm k=>⟨.str _,H,I.tok k,⟨m,Fo⟩,q⟩
def KM(K:aM)(H:Hp):V->String->Prop
|.non,T=>T="NoneType"
|.bl _,T=>T="bool"
|.int _,T=>T="int"
|.str _,T=>T="str"
|.ref p,T=>(T="list"/\∃a,lT K H p a)\/(T="tuple"/\∃a,rN K H p a)\/(T="list"/\∃P,H p=some (.ext P)/\∀h:Heap,P h->∃o,h.get? p=some o/\o.cls=.type "list")
|_,_=>False
def ZO{E:Value->Shared->Prop}{Q:Value->Shared->Prop}{b:Bool}(I:eG X pins σ H s)(g:iJ x u)(ty:KM X.K H x T)
  (e:lG X.K (.type T) c=some b) (h:∀m,Q (.bool b) { s with toks:=m }):wpAny (model X.prog X.w) A (call (.builtin "isinstance") [u,c]) Q E s:=by
 cases x with
 |non=>cases (show T="NoneType" from ty);exact uS I g .non e h
 |bl y=>cases (show T="bool" from ty);exact uS I g (.bl y) e h
 |int i=>cases (show T="int" from ty);exact uS I g (.int i) e h
 |str y=>cases (show T="str" from ty);exact uS I g (.str y) e h
 |ref p=>
  cases g;rcases ty with⟨rfl,q,f⟩ | ⟨rfl,q,f⟩ | ⟨rfl,P,f,l⟩
  ·obtain⟨j,_,k,_⟩:=I.list f;obtain⟨o,n,d,a,_⟩:=k;exact fG qB I.kIn ⟨o,d,a⟩ e (λz=>nomatch z) h
  ·obtain⟨j,_,k,_⟩:=I.tuple f;obtain⟨o,d,a,_⟩:=k;exact fG MQ I.kIn ⟨o,d,a⟩ e (λz=>nomatch z) h
  ·obtain⟨o,d,a⟩:=l _ (I.hok p _ f).1;exact fG qB I.kIn ⟨o,d,a⟩ e (λz=>nomatch z) h
 |_=>exact j4 ty
end
end L2
namespace TL
open L2
variable{K:aM}{H M L O:Hp}{B:Hp}{N F:List Addr}{J:List Sl}{G:L2.St}
section
variable{X:Cx}{a b c e:Expr}{R:List Expr}{S P:ET}{pos p:Pos}
def fI(C:Int->Int->Prop)(g:Int->Int->Int):D->D->(D->Prop)->Prop
|.int i,.int j,Q=>C i j/\Q (.int (g i j))
|_,_,_=>False
def Ji(g:Int->Int->Int):D->D->(D->Prop)->Prop
|.int i,.int j,Q=>Q (.int (g i j))
|_,_,_=>False
def Jj(g:Int->Int->Bool):D->D->(D->Prop)->Prop
|.int i,.int j,Q=>Q (.bool (g i j))
|_,_,_=>False
def oY{C:Int->Int->Prop}{g:Int->Int->Int}:DI X (rI C λi j=>.int (g i j)) (fI C g):=by
 intro H F m n x y Q l live d f h k
 cases d with
 |int i=>
  cases f with
  |int j=>exact⟨i,j,Fo,Fo,h.1,k _ _ H (L2.bR.refl H) (.int _) h.2⟩
  |_=>exact h.elim
 |_=>exact h.elim
def vR{g:Int->Int->Int}:DI X (SM λi j=>.int (g i j)) (Ji g):=by
 intro H F m n x y Q l live d f h k
 cases d with
 |int i=>
  cases f with
  |int j=>exact⟨i,j,Fo,Fo,k _ _ H (L2.bR.refl H) (.int _) h⟩
  |_=>exact h.elim
 |_=>exact h.elim
def lF{g:Int->Int->Bool}:DI X (SM λi j=>.bl (g i j)) (Jj g):=by
 intro H F m n x y Q l live d f h k
 cases d with
 |int i=>
  cases f with
  |int j=>exact⟨i,j,Fo,Fo,k _ _ H (L2.bR.refl H) (.bool _) h⟩
  |_=>exact h.elim
 |_=>exact h.elim
def VP:D->D->(D->Prop)->Prop
|.int i,.int j,Q=>Q (.int (i+j))
|.str x,.str y,Q=>x.length+y.length<=100000/\Q (.str (x++y))
|.tuple x,.tuple y,Q=>x.length+y.length<=100000/\Q (.tuple (x++y))
|.list x,.list y,Q=>x.length+y.length<=100000/\Q (.list (x++y))
|_,_,_=>False
def xA{n:Nat}(h:n<=100000):n<=bO:=by have:bO=2^24:=rfl;lia
def gU:DI X (NI X.K) VP:=by
 intro H F r s x y Q q live o m h k
 cases o with
 |int i=>
  cases m with
  |int j=>exact .inl ⟨i,j,Fo,Fo,k _ _ H (L2.bR.refl H) (.int _) h⟩
  |_=>exact h.elim
 |str i=>
  cases m with
  |str j=>exact .inr (.inl ⟨i,j,Fo,Fo,xA h.1,k _ _ H (L2.bR.refl H) (.str _) h.2⟩)
  |_=>exact h.elim
 |tuple q1 d=>
  cases m with
  |tuple l f=>
   refine .inr (.inr (.inl ⟨_,_,_,_,Fo,Fo,bR.seqT bZ q1,bR.seqT bZ l,xA (by rw[<- d.length,<- f.length];exact h.1),λz=>?_,λz1 n=>?_,λz1 n p g=>?_⟩))
   ·subst z;cases d;exact k _ _ H (L2.bR.refl H) (.tuple l f) h.2
   ·subst n;cases f;have e:=h.2;rw[fR]at e;exact k _ _ H (L2.bR.refl H) (.tuple q1 d) e
   ·exact k _ _ _ (eX g) (rV live g (d.append f)) h.2
  |_=>exact h.elim
 |list q1 d=>
  cases m with
  |list l f=>
   exact .inr (.inr (.inr ⟨_,_,_,_,Fo,Fo,L2.bR.seq bZ q1,L2.bR.seq bZ l,xA (by rw[<- d.length,<- f.length];exact h.1),λp g=>k _ _ _ (eX g) (rW live g (d.append f)) h.2⟩))
  |_=>exact h.elim
 |_=>exact h.elim
def Hx:D->D->(D->Prop)->Prop
|.int i,.int j,Q=>J7 i j/\Q (.int (i*j))
|.str z,.int n,Q=>z.length<=1000/\0<=n/\n<=1000/\Q (.str (Txt.mul z n))
|_,_,_=>False
def lN:DI X NG Hx:=by
 intro H F l m x y Q g live f d h k
 cases f with
 |int i=>
  cases d with
  |int j=>exact .inl ⟨i,j,Fo,Fo,h.1,k _ _ H (L2.bR.refl H) (.int _) h.2⟩
  |_=>exact h.elim
 |str z=>
  cases d with
  |int n=>exact .inr ⟨z,n,Fo,Fo,h.1,h.2.1,h.2.2.1,k _ _ H (L2.bR.refl H) (.str _) h.2.2.2⟩
  |_=>exact h.elim
 |_=>exact h.elim
noncomputable def Fw:D->D->Option Bool
|.none,.none=>some true
|.bool x,.bool y=>some (decide (x=y))
|.int x,.int y=>some (decide (x=y))
|.str x,.str y=>some (decide (x=y))
|.str _,.none | .none,.str _=>some false
|_,_=>none
def Hh(x y:D)(Q:D->Prop):Prop:=match Fw x y with | some c=>Q (.bool c) | none=>False
def Hg(x y:D)(Q:D->Prop):Prop:=match Fw x y with | some c=>Q (.bool (!c)) | none=>False
def JR{x y:D}{u v:V}{c:Bool}(d:iN K H x u)(f:iN K H y v)(h:Fw x y=some c):Iq u v=true/\decide (u=v)=c:=by
 unfold Fw at h;split at h<;>cases h<;>cases d<;>cases f<;>exact⟨Fo,Fm⟩
def mO:DI X Jg Hh:=by
 intro H F d f x y Q m live j l h k;unfold Hh at h
 cases e:Fw d f with
 |none=>rw[e]at h;exact h.elim
 |some c=>
  rw[e]at h;obtain⟨g,i⟩:=JR j l e;refine⟨g,?_⟩;rw[i];exact k _ _ H (L2.bR.refl H) (.bool c) h
def LB:DI X Je Hg:=by
 intro H F d f x y Q m live j l h k;unfold Hg at h
 cases e:Fw d f with
 |none=>rw[e]at h;exact h.elim
 |some c=>
  rw[e]at h;obtain⟨g,i⟩:=JR j l e;refine⟨g,?_⟩;rw[i];exact k _ _ H (L2.bR.refl H) (.bool (!c)) h
noncomputable def rZ(b:Bool):D->Bool
|.bool c=>decide (c=b)
|_=>false
def Yi(x y:D)(Q:D->Prop):Prop:=match y with | .bool b=>Q (.bool (!rZ b x)) | _=>False
theorem Reps.atI{i:Int}(r:Reps K H ds vs)(h:atI ds i=some d):∃v,atI vs i=some v/\iN K H d v:=by
 unfold L2.atI at h |-
 rw[<- r.length]
 cases e:ZL ds.length i with
 |none=>rw[e]at h;cases h
 |some j=>
  rw[e]at h;exact r.get h
inductive GW(ts:List D)(i:Int)(Q:D->Prop):Prop
|mk (d:D) (h:atI ts i=some d) (k:Q d):GW ts i Q
def MM{i:Int}{Q:D->Prop}:GW ts i Q↔∃d,atI ts i=some d/\Q d:=⟨λ⟨d,h,k⟩=>⟨d,h,k⟩,λ⟨d,h,k⟩=>⟨d,h,k⟩⟩
def Gg(x y:D)(Q:D->Prop):Prop:=match x,y with
|.list ts,.int i=>GW ts i Q
|.tuple ts,.int i=>GW ts i Q
|.str z,.int i=>z.length<=100000/\∃c,atI z.cps.toList i=some c/\Q (.str ⟨#[c]⟩)
|_,_=>False
def cA:DI X (Jf X.K) Gg:=by
 intro H F g o x y Q n live l m h k
 cases m with
 |int i=>
  cases l with
  |list q s=>
   obtain⟨d,e,h⟩:=h;obtain⟨v,f,r⟩:=s.atI e;exact .inl ⟨_,_,i,v,Fo,Fo,L2.bR.seq bZ q,f,k _ _ H (L2.bR.refl H) r h⟩
  |tuple q s=>
   obtain⟨d,e,h⟩:=h;obtain⟨v,f,r⟩:=s.atI e;exact .inr (.inl ⟨_,_,i,v,Fo,Fo,bR.seqT bZ q,f,k _ _ H (L2.bR.refl H) r h⟩)
  |str z=>
   obtain⟨j,c,e,h⟩:=h;exact .inr (.inr ⟨z,i,c,Fo,Fo,xA j,e,k _ _ H (L2.bR.refl H) (.str _) h⟩)
  |_=>exact h.elim
 |_=>cases g<;>exact h.elim
noncomputable def kU{f:Type}(d:List f)(lo g:Option Int):List f:=(d.drop (HT.sIx d.length 0 lo)).take (HT.sIx d.length d.length g-HT.sIx d.length 0 lo)
def Ge(x:D)(lo d:Option Int)(Q:D->Prop):Prop:=match x with
|.list ts=>Q (.list (kU ts lo d))
|.tuple ts=>Q (.tuple (kU ts lo d))
|.str z=>z.length<=100000/\Q (.str (Txt.slice z lo d))
|_=>False
def Reps.cut(r:Reps K H ds vs)(lo d:Option Int):Reps K H (kU ds lo d) (GG vs lo d):=by
 unfold kU GG;rw[r.length];exact(r.drop _).take _
def wX:My X (SL X.K) Ge:=by
 intro H F d x lo g Q j live r h k
 cases r with
 |list q s=>exact .inl ⟨_,_,Fo,L2.bR.seq bZ q,λp f=>k _ _ _ (eX f) (rW live f (s.cut lo g)) h⟩
 |@tuple p xs ts q s=>
  refine .inr (.inl ⟨_,_,Fo,bR.seqT bZ q,λz=>?_,λ_ p f=>k _ _ _ (eX f) (rV live f (s.cut lo g)) h⟩)
  have e:kU ts lo g=ts:=by
   unfold kU;rw[s.length,z.1,z.2,MR,FC,<- s.length,dA]
  have i:Q (.tuple (kU ts lo g)):=h;rw[e]at i;exact k _ _ H (L2.bR.refl H) (.tuple q s) i
 |str z=>exact .inr (.inr ⟨z,Fo,xA h.1,k _ _ H (L2.bR.refl H) (.str _) h.2⟩)
 |_=>exact h.elim
def Nu(x y:D)(Q:D->Prop):Prop:=match x,y with
|.str z,.str y=>Q (.bool (Txt.contains y z))
|.str z,.list ts=>∃d:List Str,ts=d.map .str/\Q (.bool (decide (z∈d)))
|.str z,.tuple ts=>∃d:List Str,ts=d.map .str/\Q (.bool (decide (z∈d)))
|_,_=>False
theorem D0:∀{d:List Str}{vs},Reps K H (d.map aW) vs->vs=d.map V.str
|[],_,r=>by rw[lV]at r;cases r;rfl
|y::d,vs,r=>by
 rw[bE]at r
 cases r with
 |cons f g=>
  cases f;rw[bE,D0 g]
def Yj(x y:D)(Q:D->Prop):Prop:=match x,y with
|.str z,.list ts=>∃d:List Str,ts=d.map .str/\Q (.bool (!decide (z∈d)))
|.str z,.tuple ts=>∃d:List Str,ts=d.map .str/\Q (.bool (!decide (z∈d)))
|_,_=>False
def Kv{r:List V->Hp->VK->Prop}{f:List D->(D->Prop)->Prop}(n:uD X r f)(m:wI X (e::R) t)(s:∀{S},PA X (e::R) S->PE X (.Call g (e::R) [] pos) (R1 r S)):iK X (.Call g (e::R) [] pos) (nM f t):=by
 obtain⟨v,q,y⟩:=m;refine⟨_,s q,λB N H F J G Q j o h k=>y B N H F J G _ _ o h λl A L i x q1=>?_⟩;exact n L F l A Q j (o.grow i).live x q1 λd v M z w u=>k d v M (i.trans z) w u
def f1(f:D->(D->Prop)->Prop):List D->(D->Prop)->Prop
|[d],Q=>f d Q
|_,_=>False
def c1{r:List V->Hp->VK->Prop}{f:D->(D->Prop)->Prop}(h:∀H F(d:D)(x:V)(Q:D->Prop)g,(∀p∈F,EV (H p))->iN X.K (mask H F) d x->f d Q ->
  (∀d v M,bR H M->iN X.K (mask M F) d v->Q d->g v M)->r [x] H g):uD X r (f1 f):=by
 intro H F n o Q g live m i k
 cases m with
 |nil=>exact i.elim
 |cons j l=>
  cases l with
  |nil=>exact h H F _ _ Q g live j i k
  |cons _ _=>exact i.elim
def Hz(d:D)(Q:D->Prop):Prop:=match d with
|.list ts=>Q (.int ts.length)
|.tuple ts=>Q (.int ts.length)
|.str z=>z.length<=100000/\Q (.int z.length)
|_=>False
def bY:kO X (.builtin "len") (λf H Q=>(∃p d,f=[.ref p]/\(lT X.K H p d\/rN X.K H p d)/\Q (.int d.length) H)\/∃z,f=[.str z]/\z.length<=bO/\Q (.int z.length) H):=GL.or GK
def gQ:uD X (λg H Q=>(∃p f,g=[.ref p]/\(lT X.K H p f\/rN X.K H p f)/\Q (.int f.length) H)\/∃z,g=[.str z]/\z.length<=bO/\Q (.int z.length) H) (f1 Hz):=c1 λH F d x Q i live r h k=>by
 cases r with
 |list q s=>
  refine .inl ⟨_,_,Fo,.inl (L2.bR.seq bZ q),?_⟩;rw[<- s.length];exact k _ _ H (L2.bR.refl H) (.int _) h
 |tuple q s=>
  refine .inl ⟨_,_,Fo,.inr (bR.seqT bZ q),?_⟩;rw[<- s.length];exact k _ _ H (L2.bR.refl H) (.int _) h
 |str z=>exact .inr ⟨z,Fo,xA h.1,k _ _ H (L2.bR.refl H) (.int _) h.2⟩
 |_=>exact h.elim
def GD(d:D)(Q:D->Prop):Prop:=match d with
|.list ts=>Q (.tuple ts)
|.tuple ts=>Q (.tuple ts)
|_=>False
def pY:uD X (λi H Q=>∃p f,i=[.ref p]/\((lT X.K H p f/\∀l,H l=none->Q (.ref l) (gG H l (.tup f)))\/(rN X.K H p f/\Q (.ref p) H))) (f1 GD):=c1 λH F d x Q j live r h k=>by
 cases r with
 |list q s=>exact⟨_,_,Fo,.inl ⟨L2.bR.seq bZ q,λl g=>k _ _ _ (eX g) (rV live g s) h⟩⟩
 |tuple q s=>exact⟨_,_,Fo,.inr ⟨bR.seqT bZ q,k _ _ H (L2.bR.refl H) (.tuple q s) h⟩⟩
 |_=>exact h.elim
def Md(d:D)(Q:D->Prop):Prop:=match d with
|.list ts=>Q (.list ts)
|.tuple ts=>Q (.list ts)
|_=>False
def MC:uD X (λi H Q=>∃p g,i=[.ref p]/\(lT X.K H p g\/rN X.K H p g)/\∀l,H l=none->Q (.ref l) (gG H l (.lst g))) (f1 Md):=c1 λH F d x Q j live r h k=>by
 cases r with
 |list q s=>exact⟨_,_,Fo,.inl (L2.bR.seq bZ q),λl f=>k _ _ _ (eX f) (rW live f s) h⟩
 |tuple q s=>exact⟨_,_,Fo,.inr (bR.seqT bZ q),λl f=>k _ _ _ (eX f) (rW live f s) h⟩
 |_=>exact h.elim
theorem qX:∀{d:List Int}{vs},Reps K H (d.map aQ) vs->vs=d.map V.int
|[],_,r=>by rw[lV]at r;cases r;rfl
|y::d,vs,r=>by
 rw[bE]at r
 cases r with
 |cons f g=>
  cases f;rw[bE,qX g]
def Of(d:D)(Q:D->Prop):Prop:=∃bs:List Bool,d=.list (bs.map oM)/\Q (.bool (bs.all id))
def Oh(d:D)(Q:D->Prop):Prop:=∃ns:List Int,d=.list (ns.map aQ)/\ns≠[]/\∀m,m∈ns->(∀n∈ns,m<=n)->Q (.int m)
def f2(f:D->D->(D->Prop)->Prop):List D->(D->Prop)->Prop
|[d,d'],Q=>f d d' Q
|_,_=>False
def Me(x y:D)(Q:D->Prop):Prop:=match x,y with | .int i,.int j=>Q (.int (if j<i then j else i)) | _,_=>False
def Yy:uD X (λf H Q=>∃i j,f=[.int i,.int j]/\Q (.int (if j<i then j else i)) H) (f2 Me):=by
 intro H F q f Q o live n d k
 cases n with
 |nil=>exact d.elim
 |cons g h=>
  cases h with
  |nil=>exact d.elim
  |cons l m=>
   cases m with
   |cons _ _=>exact d.elim
   |nil=>
    cases g with
    |int i=>
     cases l with
     |int j=>exact⟨i,j,Fo,k _ _ H (L2.bR.refl H) (.int _) d⟩
     |_=>exact d.elim
    |_=>exact d.elim
noncomputable def Hb:D->String
|.none=>"NoneType"
|.bool _=>"bool"
|.int _=>"int"
|.str _=>"str"
|.list _=>"list"
|.tuple _=>"tuple"
|.dict []=>"list"
|.dict [(.none,_)]=>"list"
|.dict _=>"dict"
noncomputable def ZQ(T:String)(d:D):Bool:=(Hb d==T)||(T=="int"&&Hb d=="bool")
def F9{i:Int}(h:T∈["int","str","list","tuple","bool"]):ZQ T (.dict [(.int i,x)])=false:=by
 simp only[aY,dS,j5]at h;rcases h with rfl | rfl | rfl | rfl | rfl<;>rfl
def Ib(T:String)(d:D)(Q:D->Prop):Prop:=match d with | .dict ((.str _,_)::_)=>False | d=>Q (.bool (ZQ T d))
def ZP{Q:D->Prop}(h:∀x y r,d≠.dict ((.str x,y)::r))(q:Ib T d Q):Q (.bool (ZQ T d)):=by
 unfold Ib at q;split at q
 ·exact q.elim
 ·exact q
def Jx(T:String)(P:ET):ET:=λG Q=>P G λd=>Ib T d Q
def WI(K:aM)(T:String):Prop:=∀tn∈["NoneType","bool","int","str","list","tuple"],lG K (.type tn) (.type T)=some ((tn==T)||(T=="int"&&tn=="bool"))
def Ig(K:aM)(T:String):List V->Hp->VK->Prop:=λh H Q=>∃x b,h=[x,.ty T]/\((∃f,KM K H x f/\lG K (.type f) (.type T)=some b)\/(∃p C g,x=.ref p/\H p=some (.ext (JQ p C g))/\(∀d,g=some d->∃fs,H d=some (.xd fs))/\GP K C/\lG K (.ref C) (.type T)=some b))/\Q (.bl b) H
def LO{G}{H:Hp}{E:Value->Shared->Prop}{Q:Value->Shared->Prop}{p C:Addr}{c}{b:Bool}(I:eG X pins G H s)(n:H p=some (.ext (JQ p C dx)))(hd:∀d,dx=some d->∃fs,H d=some (.xd fs))(x:GP X.K C)
  (e:lG X.K (.ref C) c=some b) (h:∀r,Q (.bool b) { s with toks:=r }):wpAny (model X.prog X.w) A (call (.builtin "isinstance") [.ref p,c]) Q E s:=by
 refine fG (UZ x) I.kIn ?_ e (λz=>nomatch z) h;obtain⟨⟨o,vs,f,g,i,k⟩,_⟩:=I.hok p _ n;have j:WM o=true:=by unfold WM;rw[k]
 cases dx with
 |none=>exact⟨o,none,f,g,j,by rw[i];trivial⟩
 |some d=>
  obtain⟨fs,m⟩:=hd d Fo;obtain⟨u,⟨q,R,t,l,_⟩,_⟩:=I.hok d _ m;exact⟨o,some q,f,g,j,by rw[i];exact l⟩
def JX:kO X (.builtin "isinstance") (Ig X.K T):=by
 intro i s G H t o Q I r h;obtain⟨x,b,rfl,⟨m,k,hk⟩ | ⟨p,C,n,rfl,j,hd,l,hk⟩,q⟩:=h
 ·obtain⟨u,w,rfl,f,d⟩:=MZ r;cases d;exact ZO I f k hk λg=>⟨.bl b,H,I.tok g,Fo,q⟩
 ·obtain⟨u,w,rfl,f,d⟩:=MZ r;cases d;cases f;exact LO I j hd l hk λg=>⟨.bl b,H,I.tok g,Fo,q⟩
def VW(hk:WI X.K T)(w:iK X e P)
  (C:∀{v},PE X e v->PE X (.Call g1 [e,g2] [] pos) (R1 (Ig X.K T) (sL v (sL (tC (.ty T)) BD))))
  (l:T∈["int","str","list","tuple","bool"]:=by decide):iK X (.Call g1 [e,g2] [] pos) (Jx T P):=by
 obtain⟨v,E,re⟩:=w;refine⟨_,C E,λB N H F J G Q u o h k=>re B N H F J G _ _ o h λd x L m I q1=>?_⟩
 have fin:∀j,j∈["NoneType","bool","int","str","list","tuple"]->Hb d=j->KM X.K L x j->Ig X.K T [x,V.ty T] L u:=λj n t A=>by
  refine⟨x,_,Fo,.inl ⟨j,A,hk j n⟩,?_⟩;have q:Q (.bool (ZQ T d)):=ZP (λx y r z=>by subst z;have U:("dict":String)=j:=t;subst U;exact a9 n Fk) q1;unfold ZQ at q;rw[t]at q;exact k _ _ L m (.bool _) q
 cases I with
 |none=>exact fin "NoneType" Fm Fo Fo
 |bool b=>exact fin "bool" Fm Fo Fo
 |int i=>exact fin "int" Fm Fo Fo
 |str z=>exact fin "str" Fm Fo Fo
 |list q s=>exact fin "list" Fm Fo (.inl ⟨Fo,_,L2.bR.seq bZ q⟩)
 |tuple q s=>exact fin "tuple" Fm Fo (.inr (.inl ⟨Fo,_,bR.seqT bZ q⟩))
 |wild h=>exact fin "list" Fm Fo (.inr (.inr ⟨Fo,_,bZ _ _ h,λ_ ⟨_,_,e,_⟩=>⟨_,e,Fo⟩⟩))
 |tape h _=>exact fin "list" Fm Fo (.inr (.inr ⟨Fo,_,bZ _ _ h,λ_ ⟨_,_,_,_,_,_,_,e,_⟩=>⟨_,e,Fo⟩⟩))
 |exc x h=>
  refine⟨_,false,Fo,.inr ⟨_,_,_,Fo,bZ _ _ h,(λ_ z=>nomatch z),x.1,x.2 T l⟩,?_⟩;have f:Q (.bool (ZQ T (.dict _))):=q1;rw[F9 l]at f;exact k _ _ L m (.bool _) f
 |excA x h g=>
  refine⟨_,false,Fo,.inr ⟨_,_,_,Fo,bZ _ _ h,λ_ z=>by cases z;exact⟨_,bZ _ _ g⟩,x.1,x.2 T l⟩,?_⟩;have f:Q (.bool (ZQ T (.dict _))):=q1;rw[F9 l]at f;exact k _ _ L m (.bool _) f
 |excD x h g _=>
  refine⟨_,false,Fo,.inr ⟨_,_,_,Fo,bZ _ _ h,λ_ z=>by cases z;exact⟨_,bZ _ _ g⟩,x.1,x.2 T l⟩,?_⟩;have f:Q (.bool (ZQ T (.dict _))):=q1;rw[F9 l]at f;exact k _ _ L m (.bool _) f
 |dct _ _ _ _=>exact(show False from q1).elim
 |addr z=>exact(show False from q1).elim
 |ins _ _=>exact(show False from q1).elim
def V0(f:Str->List D->(D->Prop)->Prop)(P:ET)(t:AT):ET:=λG Q=>P G λd=>∃z,d=.str z/\t G λg=>f z g Q
def Qk(z:Str)(d:List D)(Q:D->Prop):Prop:=match d with | [.str y]=>Q (.int (Txt.find z y)) | _=>False
def Mc(z:Str)(f:List D)(Q:D->Prop):Prop:=match f with | [.list ts]=>∃d:List Str,ts=d.map aW/\(d.map (·.length)).sum+d.length*z.length<=16777216/\Q (.str (Txt.join z d)) | _=>False
def P4{f:Str->List D->(D->Prop)->Prop}{r:V->List V->Hp->VK->Prop}(u:iK X n P)(q:wI X (e::R) t)
  (s:∀H F(z:Str)(j:List D)(l:List V)(Q:D->Prop)i,Reps X.K (mask H F) j l->f z j Q->(∀d v M,bR H M->iN X.K (mask M F) d v->Q d->i v M)->r (.str z) l H i)
  (y:∀{v S},PE X n v->PA X (e::R) S->PE X (.Call g (e::R) [] pos) (Ft X.K "str" r v S)):iK X (.Call g (e::R) [] pos) (V0 f P t):=by
 obtain⟨v,A,re⟩:=u;obtain⟨va,w,W⟩:=q;refine⟨_,y A w,λB N H F J G Q i o h k=>re B N H F J G _ _ o h λd x L m T q1=>?_⟩;obtain⟨z,rfl,q1⟩:=q1;cases T;refine⟨Fo,W B N L F J G _ _ (o.grow m) q1 λj l O Z U E=>?_⟩;exact s O F z j l Q i U E λd v M Y I C=>k d v M (m.trans (Z.trans Y)) I C
def Z4(j:iK X n P)(i:wI X (e::R) t)
  (m:∀{v S},PE X n v->PA X (e::R) S->PE X (.Call (.Attribute n "join" ap) (e::R) [] pos) (Ft X.K "str" (λx g H Q=>∃z p d,x=.str z/\g=[.ref p]/\lT X.K H p (d.map V.str)/\(d.map (·.length)).sum+d.length*z.length<=16777216/\Q (.str (Txt.join z d)) H) v S)):iK X (.Call (.Attribute n "join" ap) (e::R) [] pos) (V0 Mc P t):=
 P4 j i (λH F z w g Q u r h k=>by
  cases r with
  |nil=>exact h.elim
  |cons f o=>
   cases o with
   |cons _ _=>cases f<;>exact h.elim
   |nil=>
    cases f with
    |list q s=>
     obtain⟨d,rfl,l,h⟩:=h;have e:=D0 s;subst e;exact⟨z,_,d,Fo,Fo,L2.bR.seq bZ q,l,k _ _ H (L2.bR.refl H) (.str _) h⟩
    |_=>exact h.elim) m
def YF(i j:Nat)(P:ET):sW:=λf G=>P G λd=>gP i j d G f.nx
def BF{i j:Nat}{g:TG}(n:iK X e P)(q:KD X tg (gP i j))(s:∀{v k},PE X e v->PG X tg k->PS X (.Assign [tg] e pos) (wO v k)):wH X (.Assign [tg] e pos) (YF i j P):=by
 obtain⟨v,t,re⟩:=n;obtain⟨k,pg,y⟩:=q;refine⟨_,s t pg,λB N H F J G A C o h f=>re B N H F J G _ _ o h λd x L l w q1=>?_⟩;exact y B N L F J G d x _ _ (o.grow l) w q1 λm z r _ u=>f.nx L F _ _ r (cE l) u
def iN.reads{k:List (Addr×Obj)}{s:Shared}{G:L2.St}(I:eG X k G H s){d:D}{x:V}{u:Value}(hd:d.hasDict=false)(r:iN X.K H d x)(l:iJ x u):∃f,Reads s.heap u d f:=by
 refine iN.rec (motive_1:=λd x _=>∀u,d.hasDict=false->iJ x u->∃f,Reads s.heap u d f) (motive_2:=λm C _=>∀v,iY m=false->gM C v->∃f,ReadsAll s.heap v m f)
  (λu _ r=>by cases r;exact⟨_,.none⟩) (λb u _ r=>by cases r;exact⟨_,.bool b⟩) (λi u _ r=>by obtain⟨t,rfl⟩:=r;exact⟨_,.int i t⟩) (λz u _ r=>by obtain⟨t,rfl⟩:=r;exact⟨_,.str z t⟩)
  (λq _ a u hd r=>?_) (λq _ a u hd r=>?_) ?_ ?_ ?_ ?_ ?_ ?_ ?_ ?_ (λv _ r=>by cases r;exact⟨_,.nil⟩) (λ{d m x C} _ _ a b v hd r=>?_) r u hd l
 ·cases r;obtain⟨A,l,⟨o,n,h,j,_,w⟩,_⟩:=I.list q;obtain⟨f,y⟩:=a _ hd l;exact⟨_,.list h j w (by simpa using y)⟩
 ·cases r;obtain⟨A,l,⟨o,h,j,n,w⟩,_⟩:=I.tuple q;obtain⟨f,y⟩:=a _ hd l;exact⟨_,.tuple h j w (by simpa using y)⟩
 case refine_11=>
  have g:(d.hasDict||iY m)=false:=hd;rw[OS]at g
  cases r with
  |cons E Q=>
   obtain⟨f,h⟩:=a _ g.1 E;obtain⟨bs,j⟩:=b _ g.2 Q;exact⟨_,.cons h j⟩
 all_goals intros;rename_i hd _;cases hd
def Qo(d:D)(Q:D->Prop):Prop:=d.showable=true/\d.hasDict=false/\d.depth<=60/\d.shown.length<=bO/\Q (.str d.shown)
end
end TL
namespace TL
open L2
noncomputable def Im(a:List (Str×u5)):Bool:=match a.filter (λy=>y.2==d4)with
|[]=>true
|[x]=>a.lookup x.1==some .cell
|_=>false
def Y2(h:Im names=true):uW names:=by
 unfold Im at h;split at h
 ·rename_i e;exact .inl e
 ·rename_i x e;have a:x∈names.filter (λy=>y.2==d4):=by rw[e];exact dH.mpr Fo
  have hk:x.2=.cell:=ey (cL.mp a).2;exact .inr ⟨x.1,by rw[e,<- hk],beq_iff_eq.mp h⟩
 ·cases h
noncomputable def qZ(a out:Scope)(c b:List Str)(d:List (Option Nat)):Bool:=
 decide (a.kind=.function)&&Im a.names&&a.names.all (λy=>decide (y.2≠.free)||decide (out.names.lookup y.1=some .cell))&&a.names.all (λy=>decide (y.2≠.local)||decide (a.names.lookup y.1=some .local))&&tY a.names out.names c b d
section
variable{X:Cx}{c iter j:Expr}{d:List Expr}{a:Scope}{pos:Pos}{f:List Str}{k:List (Option Nat)}{n:TI}{g:BP->TG}{m:BP->TT}{l:BP->TE}
def EB{out:Scope}(h:qZ a out Nx f k=true):a.kind=.function/\uW a.names/\(∀y∈a.names,y.2=.free->out.names.lookup y.1=some .cell)/\(∀y∈a.names,y.2=.local->a.names.lookup y.1=some .local)/\tY a.names out.names Nx f k=true:=by
 unfold qZ at h;simp only[dN,kL,uM,o0]at h;obtain⟨⟨⟨⟨i,o⟩,p⟩,q⟩,r⟩:=h;exact⟨i,Y2 o,λy b e=>(p y b).elim (λz=>a9 e z) id,λy b e=>(q y b).elim (λz=>a9 e z) id,r⟩
def S8(h:qZ a X.env.scope X.N f k=true)(e:X.calm=true)(t:PI X j iter n)
  (s:∀b:BP,PG (blk X a f b) j (g b)/\Q4 (blk X a f b) d (m b)/\PE (blk X a f b) c (l b)) (hs:∀x,j7 iter X.env x=pure x:=by intro _;rfl):PE X (.ListComp c [⟨j,iter,d,0⟩] a pos) (RY k n g m l):=by
 obtain⟨i,o,p,q,r⟩:=EB h;exact Tn e i o r p q t s hs
def nS{i:Nat}{r e:Pos}(h:qZ a X.env.scope X.N f k=true)(y:X.N.Nodup)(p:X.N[i]?=some x)(C:OI X.env.scope x)(o:X.calm=true)(B:PI X j iter n)
  (z:∀b:BP,PG (blk X a f b) j (g b)/\Q4 (blk X a f b) d (m b)/\PE (blk X a f b) c (l b))
  (q:jH (.ListComp c [⟨j,iter,d,0⟩] a pos) (some (.Name x r)) e.line X.env=pure true) (hs:∀x,j7 iter X.env x=pure x:=by intro _;rfl) (A:X.fn x=true\/X.env.scope.names.lookup x=some .local:=by first | exact .inl Fo | exact .inr Fo) :
  PS X (.Assign [.Name x r] (.ListComp c [⟨j,iter,d,0⟩] a pos) e) (wO (RY k n g m l) (kY i)):=by
 obtain⟨s,t,u,v,w⟩:=EB h;exact SV y p C o s t w u v B z q hs A
end
def Xw:d2 "min"=some (.builtin "min"):=by decide +kernel
def GN:d2 "max"=some (.builtin "max"):=by decide +kernel
def vG:d2 "isinstance"=some (.builtin "isinstance"):=by decide +kernel
def eZ:d2 "len"=some (.builtin "len"):=by decide +kernel
def Xx:d2 "set"=some (.type "set"):=by decide +kernel
def kH:d2 "tuple"=some (.type "tuple"):=by decide +kernel
def uT:d2 "list"=some (.type "list"):=by decide +kernel
def aAh:d2 "bool"=some (.type "bool"):=by decide +kernel
def wB:d2 "int"=some (.type "int"):=by decide +kernel
def P7(K:aM):WI K "tuple":=by
 intro a h;simp only[aY,dS,j5]at h;rcases h with rfl | rfl | rfl | rfl | rfl | rfl<;>first | rfl | (with_unfolding_all rfl) | decide +kernel
def U0(K:aM):WI K "bool":=by
 intro a h;simp only[aY,dS,j5]at h;rcases h with rfl | rfl | rfl | rfl | rfl | rfl<;>first | rfl | (with_unfolding_all rfl) | decide +kernel
def set_set{d:Type}(l:List d)(i:Nat)(a b:d):(l.set i a).set i b=l.set i b:=by
 apply gY;intro j;by_cases h:i=j
 ·subst h;by_cases c:i<l.length
  ·rw[bK (by simpa using c),bK c]
  ·rw[eP (by simpa using c),eP (by simpa using c)]
 ·rw[bH h,bH h,bH h]
def Lc{f:List D}{i:List Sl}{te:ET}{Q:D->Prop}(R:Nat->D->D->Prop)(w:f.length<=100000)
  (u:∀(k:Nat)(x:D)(q:D->Prop),f[k]?=some x->(∀y,R k x y->q y)->te (i.set 0 (.val x)) q)
  (t:∀m:List D,m.length=f.length->(∀(k:Nat)(x y:D),f[k]?=some x->m[k]?=some y->R k x y)->Q (.list m)) :
  f.length<=100000/\∃P:Nat->List Sl->List D->Prop,P 0 i [] /\
   (∀(k:Nat)(x:D)(a:List Sl)(c:List D),f[k]?=some x->P k a c->gN 0 x a λd=>CN d λb=>if b=true then te d λy=>P (k+1) d (c++[y])else P (k+1) d c)/\∀a c,P f.length a c->Q (.list c):=by
 refine⟨w,λk a c=>(∀x,a.set 0 (.val x)=i.set 0 (.val x))/\c.length=k/\∀(j:Nat)(x y:D),f[j]?=some x->c[j]?=some y->R j x y,⟨λ_=>rfl,Fo,λj x y _ h=>by simp at h⟩,λk x a c p h=>?_,λa c h=>t c h.2.1 h.2.2⟩;obtain⟨r,o,s⟩:=h;show te (a.set 0 (.val x)) _;rw[r x];refine u k x _ p λy v=>⟨λz=>set_set _ _ _ _,by simp[o],λj A B l g=>?_⟩;by_cases C:j<k
 ·rw[eB Fl]at g;exact s j A B l g
 ·rw[eJ Fl]at g
  have:j=k:=by
   by_cases e:j=k
   ·exact e
   ·have:j-c.length≠0:=by lia
    cases q:j-c.length with
    |zero=>exact a9 q this
    |succ n=>rw[q]at g;simp at g
  subst this;rw[p]at l;cases l;simp[o]at g;subst g;exact v
def aD9{d:List D}{l:List Sl}{te:ET}{Q:D->Prop}(f:D->D)(s:d.length<=100000)(r:∀(x:D)(q:D->Prop),x∈d->q (f x)->te (l.set 0 (.val x)) q)(p:Q (.list (d.map f))) :
  d.length<=100000/\∃P:Nat->List Sl->List D->Prop,P 0 l [] /\
   (∀(k:Nat)(x:D)a(g:List D),d[k]?=some x->P k a g->gN 0 x a λc=>CN c λb=>if b=true then te c λy=>P (k+1) c (g++[y])else P (k+1) c g)/\∀a g,P d.length a g->Q (.list g):=by
 refine Lc (λk x y=>y=f x) s (λk x q j h=>r x q (aU j) (h _ Fo)) λm o h=>?_
 have e:m=d.map f:=by
  apply gY;intro i;rw[aI]
  cases j:d[i]? with
  |none=>
   rw[eP (by rw[o];exact G5.mp j)];rfl
  |some x=>
   have n:i<m.length:=by rw[o];exact(aE.mp j).1
   have:=h i x m[i] j (aD n);rw[aD n,this];rfl
 rw[e];exact p
def ZF{c:List D}{i:List Sl}{tt:xV}{te:ET}{Q:D->Prop}(p:D->Bool)(f:D->D)(t:c.length<=100000)(o:∀(x:D)(q:Bool->Prop),x∈c->q (p x)->tt (i.set 0 (.val x)) q)
  (s:∀(x:D)(q:D->Prop),x∈c->q (f x)->te (i.set 0 (.val x)) q) (r:Q (.list ((c.filter p).map f))) :
  c.length<=100000/\∃P:Nat->List Sl->List D->Prop,P 0 i [] /\
   (∀(k:Nat)(x:D)(a:List Sl)(d:List D),c[k]?=some x->P k a d->gN 0 x a λg=>tt g λb=>if b=true then te g λy=>P (k+1) g (d++[y])else P (k+1) g d)/\∀a d,P c.length a d->Q (.list d):=by
 refine⟨t,λk a d=>(∀x,a.set 0 (.val x)=i.set 0 (.val x))/\d=((c.take k).filter p).map f,⟨λ_=>rfl,Fo⟩,λk x a d m h=>?_,λa d h=>?_⟩
 ·obtain⟨n,rfl⟩:=h;have l:x∈c:=aU m;show tt (a.set 0 (.val x)) _;rw[n x];refine o x _ l ?_;have e:c.take (k+1)=c.take k++[x]:=by rw[cS,m];rfl
  cases j:p x with
  |true=>
   rw[a7 rfl];refine s x _ l ⟨λz=>set_set _ _ _ _,?_⟩;rw[e,fC,bA];simp[j]
  |false=>
   rw[a6 Fk];refine⟨λz=>set_set _ _ _ _,?_⟩;rw[e,fC,bA];simp[j]
 ·obtain⟨_,rfl⟩:=h;rw[dA];exact r
section
variable{d:List (Option Nat)}{c:IT}{e:xV}{b:ET}{a:List Sl}{Q:D->Prop}{ts:List D}
abbrev uC(c:IT)(a:List Sl)(ts:List D):Prop:=∀R:List D->Prop,R ts->c a R
def jK(g:uC c a ts)(f:D->D)(j:ts.length<=100000)(i:∀(x:D)(q:D->Prop),x∈ts->q (f x)->b ((kF d a).set 0 (.val x)) q)(h:Q (.list (ts.map f))):RC d c (gN 0) CN b a Q:=
 g _ (aD9 (te:=b) (Q:=Q) f j i h)
def BZ(f:uC c a ts)(R:Nat->D->D->Prop)(j:ts.length<=100000)
  (i:∀(k:Nat)(x:D)(q:D->Prop),ts[k]?=some x->(∀y,R k x y->q y)->b ((kF d a).set 0 (.val x)) q)
  (h:∀g:List D,g.length=ts.length->(∀(k:Nat)(x y:D),ts[k]?=some x->g[k]?=some y->R k x y)->Q (.list g)):RC d c (gN 0) CN b a Q:=
 f _ (Lc (te:=b) (Q:=Q) R j i h)
def pG(g:uC c a ts)(p:D->Bool)(f:D->D)(k:ts.length<=100000)(h:∀(x:D)(q:Bool->Prop),x∈ts->q (p x)->e ((kF d a).set 0 (.val x)) q)
  (j:∀(x:D)(q:D->Prop),x∈ts->q (f x)->b ((kF d a).set 0 (.val x)) q) (i:Q (.list ((ts.filter p).map f))):RC d c (gN 0) e b a Q:=
 g _ (ZF (tt:=e) (te:=b) (Q:=Q) p f k h j i)
def JN{g:GT}{DT:vJ}(h:uC c a ts)(P:Nat->List Sl->Prop)(j:P 0 a)
  (hs:∀(k:Nat)(x:D)f,ts[k]?=some x->P k f->g x f λi=>tb { DT with nx:=P (k+1),ct:=P (k+1),bk:=DT.nx } i) (hd:∀f,P ts.length f->DT.nx f):YJ c g tb DT a:=h _ ⟨P,j,hs,hd⟩
end
def uV(x y:Str):(x++y).cps.toList=x.cps.toList++y.cps.toList:=by
 show(x.cps++y.cps).toList=_;simp
def K4(b:Array Nat)(a k:Nat):(cR k).filterMap (λm=>b[a+m]?)=(b.toList.drop a).take k:=by
 induction k with
 |zero=>simp
 |succ k c=>
  rw[uJ,MV,c,cS,jO];congr 1;simp only[gD,List.filterMap_nil];rw[eD];cases b[a+k]?<;>rfl
def OD(v:Option Int)(n d:Nat)(hd:d<=n):(match v with | none=>(d:Int) | some i=>max 0 (min (if i<0 then i+(n:Int)else i) (n:Int)))=((HT.sIx n d v:Nat):Int):=by
 cases v with
 |none=>rfl
 |some i=>
  have:=HT.clip_eq i n d;rw[<- this];dsimp only;split<;>lia
def V8(v:Option Int)(n:Nat):(match v with | none=>(0:Int) | some i=>max 0 (min (if i<0 then i+(n:Int)else i) (n:Int)))=((HT.sIx n 0 v:Nat):Int):=OD v n 0 (cI _)
def R7{a c b d:Int}(e:a=c)(f:b=d):tu a b 1=tu c d 1:=by rw[e,f]
def oG(z:Str)(lo c:Option Int):(Txt.slice z lo c).cps.toList=kU z.cps.toList lo c:=by
 have d:z.cps.toList.length=z.length:=by simp[bj]
 have j:=HT.sIx_le z.length 0 (cI _) lo;have l:=HT.sIx_le z.length z.length (aN _) c
 have i:ck lo c 1 z.length=(cR (HT.sIx z.length z.length c-HT.sIx z.length 0 lo)).map (λk=>HT.sIx z.length 0 lo+k):=by
  unfold ck;simp only[show(1:Int)>0 by decide,ak];refine(R7 (V8 lo z.length) (OD c z.length z.length (aN _))).trans ?_;unfold tu;simp only[show(1:Int)>0 by decide,ak]
  generalize HT.sIx z.length 0 lo=a
  generalize HT.sIx z.length z.length c=b
  have e:(if(a:Int)<(b:Int)then((b:Int)-a+1-1) / 1 else 0).toNat=b-a:=by split<;>lia
  rw[e];apply iH;intro k _;lia
 unfold Txt.slice kU;rw[d,i]
 generalize HT.sIx z.length 0 lo=a at *
 generalize HT.sIx z.length z.length c=b at *
 split
 ·next h=>
  simp only[ii,HI,fk,aC,fU]at h;have f:a=0:=by lia
  have g:b-a=z.cps.toList.length:=by rw[d];exact h
  rw[g,f,FC,dA]
 ·rw[RJ];exact K4 z.cps a (b-a)
def LK:∀a:List Str,(Txt.join ⟨#[]⟩ a).cps.toList=(a.map (·.cps.toList)).flatten:=by
 intro a;show(Builtin.Str.glued ⟨#[]⟩ a).cps.toList=_;rw[StrLaws.glued_eq_join]
 induction a with
 |nil=>rfl
 |cons x a b=>
  cases a with
  |nil=>simp[Str.join]
  |cons y r=>
   show(x++⟨#[]⟩++Str.join ⟨#[]⟩ (y::r)).cps.toList=_;rw[uV,uV,b];simp
def U9(x:Str)(c:Nat):Txt.contains x ⟨#[c]⟩=decide (c∈x.cps.toList):=StrLaws.found_one x c
section
variable{f:ET}{u t e:sW}{c:xV}{d:vJ}{a:List Sl}{i:Nat}
def cK(v:D)(h:∀q:D->Prop,q v->f a q)(k:u d (a.set i (.val v))):gI (FL i f) u d a:=h _ k
def hZ(R:D->Prop)(h:∀q:D->Prop,(∀v,R v->q v)->f a q)(k:∀v,R v->u d (a.set i (.val v))):gI (FL i f) u d a:=h _ k
def fW(R:Bool->Prop)(h:∀q:Bool->Prop,(∀b,R b->q b)->c a q)(k:R true->t { d with nx:=u d } a)(j:R false->e { d with nx:=u d } a):gI (Ga c t e) u d a:=by
 refine h _ λb g=>?_
 cases b with
 |true=>rw[a7 rfl];exact k g
 |false=>rw[a6 Fk];exact j g
def mY(R:Bool->Prop)(h:∀q:Bool->Prop,(∀b,R b->q b)->c a q)(k:R true->t d a)(j:R false->e d a):Ga c t e d a:=by
 refine h _ λb g=>?_
 cases b with
 |true=>rw[a7 rfl];exact k g
 |false=>rw[a6 Fk];exact j g
def hV{ts:List D}{g:GT}(h:uC ti a ts)(P:Nat->List Sl->Prop)(l:P 0 a)
  (hs:∀(k:Nat)(x:D)b,ts[k]?=some x->P k b->g x b λj=>tb { d with nx:=P (k+1),ct:=P (k+1),bk:=u d } j) (hd:∀b,P ts.length b->u d b):gI (YJ ti g tb) u d a:=
 JN (DT:={ d with nx:=u d }) h P l hs hd
def lJ{t:AT}(b:List D)(g:b.length<=1000)(h:∀q:List D->Prop,q b->t a q)(k:u d (a.set i (.own b))):gI (PH i t) u d a:=h _ ⟨g,k⟩
def YD{ts:List D}(v:D)(b:a[i]?=some (.own ts))(g:ts.length<=100000)(h:∀q:D->Prop,q v->f a q)(k:u d (a.set i (.own (ts++[v])))):gI (YK i f) u d a:=⟨ts,b,h _ ⟨g,k⟩⟩
def nZ{ts:List D}(v:D)(b:a[i]?=some (.own ts))(g:ts.length<=100000)(h:∀q:D->Prop,q v->f a q)(k:d.nx (a.set i (.own (ts++[v])))):YK i f d a:=⟨ts,b,h _ ⟨g,k⟩⟩
def mH(v:D)(h:∀q:D->Prop,q v->f a q)(k:d.nx (a.set i (.val v))):FL i f d a:=h _ k
end
mutual
theorem mZ:∀{d:D},d.canLay0=true->d.hasDict=false
|.none,_=>rfl
|.bool _,_=>rfl
|.int _,_=>rfl
|.str _,_=>rfl
|.list _,h=>noDictAll h
|.tuple _,h=>noDictAll h
|.dict _,h=>by cases h
theorem noDictAll:∀{a:List D},dP a=true->iY a=false
|[],_=>rfl
|d::a,h=>by
 have b:(d.canLay0&&dP a)=true:=h;rw[dN]at b;show(d.hasDict||iY a)=false;rw[mZ b.1,noDictAll b.2];rfl
end
section
variable{X:Cx}{b e:Expr}
def zF(K:aM)(ok:D->D->Prop)(f:D->D->Bool):R2:=λx y H Q=>∃a c,iN K H a x/\iN K H c y/\ok a c/\Q (.bl (f a c)) H
def La(ok:D->D->Prop)(f:D->D->Bool)(x y:D)(Q:D->Prop):Prop:=ok x y/\Q (.bool (f x y))
def vQ{ok:D->D->Prop}{f:D->D->Bool}:DI X (zF X.K ok f) (La ok f):=by
 intro H j a c x y Q i live d g h k;exact⟨a,c,d.same bZ,g.same bZ,h.1,k _ _ H (L2.bR.refl H) (.bool _) h.2⟩
def Jv(a c:D):Prop:=a.canLay0=true/\c.canLay0=true/\min a.depth c.depth<=60
def Zj{k:Nat}(g:Room k X.A):oU X (e7 .Eq) (zF X.K Jv dW):=by
 intro c s t H x y v u Q I l m h;obtain⟨o,p,i,j,⟨c1,a,r⟩,q⟩:=h;obtain⟨n,d⟩:=iN.reads I (mZ c1) i l;obtain⟨bs,f⟩:=iN.reads I (mZ a) j m;exact SeqAt.compareEq_reads d f c1 a (by have:=g.un;lia) ⟨.bl _,H,I,Fo,q⟩
def Zm{k:Nat}(g:Room k X.A):oU X (e7 .NotEq) (zF X.K Jv λx y=>!dW x y):=by
 intro c s t H x y v u Q I l m h;obtain⟨o,p,i,j,⟨c1,a,r⟩,q⟩:=h;obtain⟨n,d⟩:=iN.reads I (mZ c1) i l;obtain⟨bs,f⟩:=iN.reads I (mZ a) j m;exact SeqAt.compareNe_reads d f c1 a (by have:=g.un;lia) ⟨.bl _,H,I,Fo,q⟩
def vP(x y:D):Prop:=match y with
|.list ts=>dP ts=true/\x.canLay0=true/\min (dM ts) x.depth<=60
|.tuple ts=>dP ts=true/\x.canLay0=true/\min (dM ts) x.depth<=60
|_=>False
noncomputable def A1(x y:D):Bool:=match y with
|.list ts=>ts.any λz=>dW z x
|.tuple ts=>ts.any λz=>dW z x
|_=>false
def PX{k:Nat}(i:Room k X.A):oU X (e7 .In) (zF X.K vP A1):=by
 intro j s t H x y v u Q I o p h;obtain⟨l,c,m,n,a,q⟩:=h
 have hd:l.hasDict=false/\c.hasDict=false:=by
  cases c with
  |list d=>exact⟨mZ a.2.1,noDictAll a.1⟩
  |tuple d=>exact⟨mZ a.2.1,noDictAll a.1⟩
  |_=>exact a.elim
 obtain⟨r,f⟩:=iN.reads I hd.1 m o;obtain⟨bs,g⟩:=iN.reads I hd.2 n p
 cases c with
 |list d=>exact SeqAt.in_list_reads g f a.1 a.2.1 (by have:=i.un;have:=a.2.2;lia) ⟨.bl _,H,I,Fo,q⟩
 |tuple d=>exact SeqAt.in_tuple_reads g f a.1 a.2.1 (by have:=i.un;have:=a.2.2;lia) ⟨.bl _,H,I,Fo,q⟩
 |_=>exact a.elim
def lK{k:Nat}(i:Room k X.A):oU X (e7 .NotIn) (zF X.K vP λx y=>!A1 x y):=by
 intro j s t H x y v u Q I o p h;obtain⟨l,c,m,n,a,q⟩:=h
 have hd:l.hasDict=false/\c.hasDict=false:=by
  cases c with
  |list d=>exact⟨mZ a.2.1,noDictAll a.1⟩
  |tuple d=>exact⟨mZ a.2.1,noDictAll a.1⟩
  |_=>exact a.elim
 obtain⟨r,f⟩:=iN.reads I hd.1 m o;obtain⟨bs,g⟩:=iN.reads I hd.2 n p
 cases c with
 |list d=>exact SeqAt.notIn_list_reads g f a.1 a.2.1 (by have:=i.un;have:=a.2.2;lia) ⟨.bl _,H,I,Fo,q⟩
 |tuple d=>exact SeqAt.notIn_tuple_reads g f a.1 a.2.1 (by have:=i.un;have:=a.2.2;lia) ⟨.bl _,H,I,Fo,q⟩
 |_=>exact a.elim
def Ka(x y:D)(Q:D->Prop):Prop:=match x,y with
|.str z,.str y=>Q (.bool (Txt.contains y z))
|x,y=>vP x y/\Q (.bool (A1 x y))
def TQ{k:Nat}(a:Room k X.A):oU X (e7 .In) (λx y H Q=>(∃i j,x=.str i/\y=.str j/\Q (.bl (!(v6 j i 0 j.length 1).isEmpty)) H)\/zF X.K vP A1 x y H Q):=PV.or (PX a)
def Le:DI X (λx y H Q=>(∃i j,x=.str i/\y=.str j/\Q (.bl (!(v6 j i 0 j.length 1).isEmpty)) H)\/zF X.K vP A1 x y H Q) Ka:=by
 intro H l a c x y Q d live f g h k;have gen:vP a c/\Q (.bool (A1 a c))->_:=λh=>(.inr ⟨a,c,f.same bZ,g.same bZ,h.1,k _ _ H (L2.bR.refl H) (.bool _) h.2⟩:(∃i j,x=.str i/\y=.str j/\d (.bl (!(v6 j i 0 j.length 1).isEmpty)) H)\/zF X.K vP A1 x y H d)
 cases f with
 |str z=>
  cases g with
  |str w=>exact .inl ⟨z,w,Fo,Fo,k _ _ H (L2.bR.refl H) (.bool _) h⟩
  |_=>exact gen h
 |_=>exact gen h
noncomputable def pV:D->Bool
|.none=>true
|_=>false
def Nt(x y:D)(Q:D->Prop):Prop:=match y with | .bool b=>Q (.bool (rZ b x)) | .none=>Q (.bool (pV x)) | _=>False
def Z1(x y:D)(Q:D->Prop):Prop:=match y with | .bool b=>Q (.bool (!rZ b x)) | .none=>Q (.bool (!pV x)) | _=>False
def BV:oU X (e7 .Is) (λx y H Q=>Ie x y H Q\/(y=.non/\Q (.bl (decide (x=.non))) H)):=Zk.or Zl
def PU:oU X (e7 .IsNot) (λx y H Q=>FR x y H Q\/(y=.non/\Q (.bl (!decide (x=.non))) H)):=PR.or YZ
def IU:DI X (λx y H Q=>Ie x y H Q\/(y=.non/\Q (.bl (decide (x=.non))) H)) Nt:=by
 intro H i a g x y Q f live c d h k
 cases d with
 |bool b=>
  refine .inl ⟨b,Fo,?_⟩;have e:(decide (x=V.bl b))=rZ b a:=by cases c<;>simp[rZ]
  rw[e];exact k _ _ H (L2.bR.refl H) (.bool _) h
 |none=>
  refine .inr ⟨Fo,?_⟩;have e:(decide (x=V.non))=pV a:=by cases c<;>simp[pV]
  rw[e];exact k _ _ H (L2.bR.refl H) (.bool _) h
 |_=>exact h.elim
def T2:DI X (λx y H Q=>FR x y H Q\/(y=.non/\Q (.bl (!decide (x=.non))) H)) Z1:=by
 intro H i a g x y Q f live c d h k
 cases d with
 |bool b=>
  refine .inl ⟨b,Fo,?_⟩;have e:(!decide (x=V.bl b))=!rZ b a:=by cases c<;>simp[rZ]
  rw[e];exact k _ _ H (L2.bR.refl H) (.bool _) h
 |none=>
  refine .inr ⟨Fo,?_⟩;have e:(!decide (x=V.non))=!pV a:=by cases c<;>simp[pV]
  rw[e];exact k _ _ H (L2.bR.refl H) (.bool _) h
 |_=>exact h.elim
def Qm(x y:D)(Q:D->Prop):Prop:=match x,y with | .int i,.int j=>Q (.int (if j>i then j else i)) | _,_=>False
def Xz:uD X (λc H Q=>∃i j,c=[.int i,.int j]/\Q (.int (if j>i then j else i)) H) (f2 Qm):=by
 intro H o n c Q m live l a k
 cases l with
 |nil=>exact a.elim
 |cons d f=>
  cases f with
  |nil=>exact a.elim
  |cons g h=>
   cases h with
   |cons _ _=>exact a.elim
   |nil=>
    cases d with
    |int i=>
     cases g with
     |int j=>exact⟨i,j,Fo,k _ _ H (L2.bR.refl H) (.int _) a⟩
     |_=>exact a.elim
    |_=>exact a.elim
end
end TL
namespace L2
section
variable{X:Cx}{a:List (Addr×Obj)}{f:St}{H:Hp}{s:Shared}{d:Heap}
def eG.turnedL{t':Nat}{ch:List Addr}(I:eG X a f H s)(i:∀b∈ch,AD X a H b)(k:∀b o,b∉ch->s.heap.get? b=some o->d.get? b=some o):eG X a f H { s with heap:=d,toks:=t' }:=by
 have h:∀b u,H b=some u->b∉ch:=λb u e z=>by rw[(i b z).1]at e;cases e
 have x:X.env.locals∉ch:=λz=>(i _ z).2.1 Fo
 refine I.step (g':=s.gens) (d':=s.drawn) (ch:=ch) (λb y=>?_) (λb o _ _ g e _=>k b o g e) (λb o _ _ g e _=>⟨o.slots,k b o g e⟩) (λ_ _ _ _ n=>n)
  (λb o g e=>⟨o,k b o g e⟩) (λ_ _ e=>e) (λ_ _ _ e=>e) (λb E e=>⟨#[],by rw[e];simp⟩) (λm A=>?_) (λb u e=>?_) I.bare
 ·obtain⟨C,f1,f2,p,t,w⟩:=i b y;exact⟨p,f1,t,w⟩
 ·obtain⟨o,l,j,B,r⟩:=A;exact⟨o,l,j,k _ o x B,r⟩
 ·refine(I.hok b u e).stay (λc v g q=>k c v ?_ q) (λ_ q=>q) λ_ _ q=>q;rcases g with z | z
  ·rw[z];exact h b u e
  ·exact h c _ z
def eG.turnedNew{t':Nat}{ch:List Addr}{T:Addr}{o:HO}(I:eG X a f H s)(j:∀b∈ch,AD X a H b)(k:∀b u,b∉ch->s.heap.get? b=some u->d.get? b=some u)(p:s.heap.objs.size<=T)(new:jY X.prog X.w (gG H T o) d T o) :
  eG X a f (gG H T o) { s with heap:=d,toks:=t' }:=by
 have h:∀b u,H b=some u->b∉ch:=λb u e z=>by rw[(j b z).1]at e;cases e
 have C:X.env.locals∉ch:=λz=>(j _ z).2.1 Fo;have F:H T=none:=I.hok.fresh p;have ne:∀b u,H b=some u->(gG H T o) b=some u:=λb u e=>by rw[cN (iA e F)];exact e
 have l:∀b u,s.heap.get? b=some u->b≠T:=λb u e z=>by
  exact a9 (cX (bF e) p) (by rw[z];exact iT _)
 refine I.step (g':=s.gens) (d':=s.drawn) (ch:=ch) (λb i=>?_) (λb o _ _ g e _=>k b o g e) (λb o _ _ g e _=>⟨o.slots,k b o g e⟩) (λb u _ e n=>by rw[cN (l b u e)];exact n)
  (λb o g e=>⟨o,k b o g e⟩) (λb J e=>ne _ _ e) (λb u v e=>ne _ _ e) (λb L e=>⟨#[],by rw[ne _ _ e];simp⟩) (λm E=>?_) (λb u e=>?_) I.bare
 ·obtain⟨K,f1,f2,y,A,B⟩:=j b i;exact⟨y,f1,A,B⟩
 ·obtain⟨o,x,t,G,r⟩:=E;exact⟨o,x,t,k _ o C G,r⟩
 ·by_cases i:b=T
  ·subst i;rw[cW]at e;cases e;exact new
  ·rw[cN i]at e;refine(I.hok b u e).stay (λc v g q=>k c v ?_ q) (λc q=>ne _ _ q) (λc J q=>ne _ _ q) λc ob v q=>ne _ _ q;rcases g with z | z
   ·rw[z];exact h b u e
   ·exact h c _ z
end
end L2
namespace TL
open L2
noncomputable def XF(a bs:List D):List D:=(a.zip bs).map λp=>.tuple [p.1,p.2]
def RM(a bs:List D):(XF a bs).length=min a.length bs.length:=by unfold XF;simp
section
variable{g:List (Option Nat)}{j:IT}{i:ET}{e:List Sl}{Q:D->Prop}{ts:List D}
def yC{f:Type}(l:List f)(a b c d:f):(((l.set 0 a).set 1 b).set 0 c).set 1 d=(l.set 0 c).set 1 d:=by
 match l with
 |[]=>rfl
 |[_]=>rfl
 |_::_::_=>rfl
def NX(l:uC j e ts)(f:D->D)(t:ts.length<=100000)(p:∀x∈ts,∃a b,x=.tuple [a,b])(s:∀(a b:D)(q:D->Prop),.tuple [a,b]∈ts->q (f (.tuple [a,b]))->i (((kF g e).set 0 (.val a)).set 1 (.val b)) q)(r:Q (.list (ts.map f))):RC g j (gP 0 1) CN i e Q:=by
 refine l _ ⟨t,λk c d=>(∀x y,(c.set 0 (.val x)).set 1 (.val y)=((kF g e).set 0 (.val x)).set 1 (.val y))/\d=(ts.take k).map f,⟨λ_ _=>rfl,Fo⟩,λk x c d n h=>?_,λc d h=>?_⟩
 ·obtain⟨o,rfl⟩:=h;have m:x∈ts:=aU n;obtain⟨a,b,rfl⟩:=p x m;refine⟨a,b,Fo,?_⟩;show i ((c.set 0 (.val a)).set 1 (.val b)) _;rw[o a b];refine s a b _ m ⟨λx y=>yC _ _ _ _ _,?_⟩;rw[cS,n,bA];rfl
 ·obtain⟨_,rfl⟩:=h;rw[dA];exact r
end
end TL
namespace L2
open PySem.SeqAt
open AutoSeq1 (wpAny_loadPart')
def DB(l:Addr)(a:Array Value)(n:Nat)(v:Option Addr)(H:Array (Option Value))(x:Value)(e:Value->Bool)(j:Nat)(J:j<a.size)(r:e a[j]=true)(t:∀m (K:m<a.size),m<j->e a[m]=false) :
  Meets (m3.«tuple.index» ⟨[.ref l,x],[]⟩)
   (λA R s=>s.heap.get? l=some { cls:=.type "tuple",dict:=v,data:=.seq a n,slots:=H }/\(∀y,y∈a->EqAt A.in1 s y x (e y))/\R (.ok (.ret (.int j s.toks))) { s with toks:=s.toks+1 }):=by
 intro prog w A R s h;obtain⟨G,g,d,I,os⟩:=s;obtain⟨F,C,h⟩:=h;unfold m3.«tuple.index»;simp only[Std.Legacy.Range.forIn_eq_forIn_range']
 wp_walk using cf F
 have B:([:min a.size a.size]:Std.Legacy.Range).size=a.size:=by simp[Std.Legacy.Range.size]
 rw[B];show wpAny _ _ (qz (OO 0 a.size) (none,()) _) _ _ _;refine fg _ (λjM b u=>b=(none,())/\u=⟨G,g,d,I,os⟩/\∃k,jM=OO k (a.size-k)/\k<=j) _ (λi jM b u p=>?_) (λb u p=>?_) _ _ ⟨Fo,Fo,0,Fm,cI _⟩
 ·obtain⟨rfl,rfl,k,o,hk⟩:=p;have c:k<a.size:=by lia
  have z:a.size-k=(a.size-(k+1))+1:=by lia
  rw[z,XB]at o;obtain⟨rfl,rfl⟩:=List.cons.inj o;have E:a[i]?=some a[i]:=by simp[c]
  rw[E];refine aB (C _ (Array.getElem_mem c) prog w _ _ ?_);by_cases q:i=j
  ·subst q;rw[r,a7 rfl]
   wp_walk
   exact h
  ·have f:i<j:=by lia
   rw[t i c f,a6 Fk];exact aG ⟨Fo,Fo,i+1,Fo,f⟩
 ·obtain⟨_,_,k,o,hk⟩:=p;have:=e8 gC o;simp at this;lia
end L2
namespace TL
open L2 PySem.SeqAt
section
variable{X:Cx}{e:Expr}{a:List Expr}{b c:ET}{pos:Pos}
def K9(f:List D)(d:D)(j:Nat):Prop:=dP f=true/\d.canLay0=true/\min (dM f) d.depth<=60/\(∃t,f[j]?=some t/\dW t d=true)/\∀(m:Nat) t,m<j->f[m]?=some t->dW t d=false
def KZ(K:aM):V->List V->Hp->VK->Prop:=λx g H Q=>∃(y:V)(f:List D)(d:D)(j:Nat),g=[y]/\iN K H (.tuple f) x/\iN K H d y/\K9 f d j/\Q (.int j) H
def P2(P:X.A.units+200<u7):W4 X "tuple.index" (KZ X.K):=by
 intro G s σ H x xs v us Q I Z Y h;obtain⟨y,g,d,j,rfl,T,U,⟨c1,z,k,⟨t,E,N⟩,r⟩,q⟩:=h;obtain⟨u,rfl,W⟩:=Y.one;obtain⟨as,L⟩:=iN.reads I (show(gE g).hasDict=false from noDictAll c1) T Z;obtain⟨bs,M⟩:=iN.reads I (mZ z) U W
 cases L with
 |@tuple l o items n _ as' h3 h4 h5 h6=>
  have f:=je g items.toList _ c1 h6;have C:items.size=g.length:=by rw[<- f,aC,bQ]
  have O:j<g.length:=(aE.mp E).1;have B:j<items.size:=by lia
  have J:∀(m:Nat)(k:m<items.size),g[m]?=some (jd s.heap items[m]):=λm k=>by
   rw[<- f,aI];simp[k]
  obtain⟨oc,R,S,w⟩:=o;cases h4;cases h5;refine bu F.slot_tuple_index ⟨_,h3,Fo⟩ F.entry_tuple_index (F.args_tuple_index_2 _ _) (DB _ items _ R w u (λy=>dW (jd s.heap y) d) j B ?_ ?_) ⟨h3,tf h6 M c1 z (by have:=P;lia),?_⟩
  ·have:=J j B;rw[E]at this;rw[<- c5 this];exact N
  ·intro m p i;exact r m _ i (J m p)
  ·exact⟨.int j,H,I.tok _,⟨_,Fo⟩,q⟩
def wZ{k:Nat}(d:Room k X.A):W4 X "tuple.index" (KZ X.K):=P2 (by have:=d.un;lia)
def Zd(b:ET)(t:AT):ET:=λg Q=>b g λd=>∃f,d=.tuple f/\t g λh=>∃(x:D)(j:Nat),h=[x]/\K9 f x j/\Q (.int j)
def xH(y:iK X n b)(w:wI X (e::a) t)
  (A:∀{v c},PE X n v->PA X (e::a) c->PE X (.Call (.Attribute n "index" ap) (e::a) [] pos) (Ft X.K "tuple" (KZ X.K) v c)):iK X (.Call (.Attribute n "index" ap) (e::a) [] pos) (Zd b t):=by
 obtain⟨v,C,re⟩:=y;obtain⟨P,z,L⟩:=w;refine⟨_,A C z,λB g H i f r Q N o h k=>re B g H i f r _ _ o h λd x s l F q1=>?_⟩;obtain⟨M,rfl,q1⟩:=q1
 cases F with
 |@tuple p xs _ hq rs=>
  refine⟨.inr (.inl ⟨Fo,.inr ⟨_,bR.seqT bZ hq⟩⟩),L B g s i f r _ _ (o.grow l) q1 λO R u m G E=>?_⟩;obtain⟨d,j,rfl,hok,q⟩:=E
  cases G with
  |cons I J=>
   cases J;exact⟨_,M,d,j,Fo,(iN.tuple hq rs).same ((cE m).trans bZ),I.same bZ,hok,k _ _ u (l.trans m) (.int _) q⟩
end
section
variable{K:aM}{H a:Hp}{B:Hp}{g c:List Addr}{f:List Sl}{j:L2.St}
theorem Reps.snoc:∀{ts d xs},Reps K H (ts++[d]) xs->∃b y,xs=b++[y]/\Reps K H ts b/\iN K H d y
|[],d,_,r=>by
 rw[aAv]at r
 cases r with
 |cons e h=>cases h;exact⟨[],_,Fo,.nil,e⟩
|t::ts,d,_,r=>by
 rw[BB]at r
 cases r with
 |cons e h=>
  obtain⟨b,y,rfl,i,k⟩:=Reps.snoc h;exact⟨_::b,y,Fo,.cons e i,k⟩
noncomputable def without(H:Hp)(p:Addr):Hp:=λb=>if b=p then none else H b
def wL{p:Addr}:mask (without H p) c=mask H (p::c):=by
 funext b;unfold mask without;by_cases d:b=p
 ·simp[d]
 ·by_cases e:b∈c<;>simp[d,e]
def rP{p:Addr}(s:bR H a)(d:H p=none):bR H (without a p):=λb o e=>by
 unfold without;rw[a6 λz=>by rw[z,d]at e;cases e];exact s b o e
def zD{p:Addr}(d:H p=some u):gG (without H p) p u=H:=by
 funext b;by_cases h:b=p
 ·subst h;rw[cW,d]
 ·rw[cN h];unfold without;rw[a6 h]
def bR.free'(s:bR H a){p:Addr}(h:a p=none):H p=none:=by
 cases q:H p with
 |none=>rfl
 |some u=>rw[s p u q]at h;cases h
def Ok.takeOwn(o:Ok K B g H c f j){i:Nat}{p:Addr}(s:bR H a)(d:H p=none)(e:a p=some (.lst xs))(r:Reps K (mask a (p::c)) ts xs) :
  Ok K B g a (p::c) (f.set i (.own ts)) (j.set i (some (.ref p))):=by
 have h:=o.grow (rP s d);have b:without a p p=none:=by unfold without;rw[a7 rfl]
 have:=h.setOwn (i:=i) (ts:=ts) (xs:=xs) b (by rw[wL];exact r)
 rwa [zD e]at this
end
section
variable{X:Cx}{a b c e:Expr}{I:List Expr}{G C l:ET}{pos:Pos}
def aAg(i:Nat)(t:xV):xV:=λf Q=>∃d,f[i]?=some (.own d)/\t (f.set i (.val (.list d))) Q
def O3(i:Nat)(h:GR X e t):GR X e (aAg i t):=by
 obtain⟨v,p,r⟩:=h;refine⟨_,p,λB g H q m j Q n o h k=>?_⟩;obtain⟨u,e,h⟩:=h;obtain⟨d,f,s⟩:=o.share e;exact r B g H d _ j _ _ f h k
abbrev FT:=List Sl->(List D->Prop)->Prop
def OH(X:Cx)(e:Expr)(t:FT):Prop:=∃l:TE,PE X e l/\∀B p0 H ps dq σ (Q:List D->Prop)(f:VK),Ok X.K B p0 H ps dq σ->t dq Q ->
 (∀g p h d,bR H d->H p=none->d p=some (.lst h)->Reps X.K (mask d (p::ps)) g h->Q g->f (.ref p) d)->l σ H f
def Nz(t:FT):ET:=λf Q=>t f λd=>Q (.list d)
def rD(h:OH X e t):iK X e (Nz t):=by
 obtain⟨v,p,r⟩:=h;refine⟨_,p,λB m H n d w Q x o h k=>r B m H n d w _ _ o h λy p z f s g j u q=>k _ _ f s ?_ q⟩;exact .list (lT.of (nA (jE o.live g) j)) (u.same (lX λq i=>aO _ i))
def Kx(G C:ET):FT:=λf Q=>G f λx=>C f λy=>∃d bs,x=.list d/\y=.list bs/\d.length+bs.length<=100000/\Q (d++bs)
def Yl(w:iK X a G)(z:iK X b C):OH X (.BinOp a .Add b pos) (Kx G C):=by
 obtain⟨U,E,M⟩:=w;obtain⟨W,F,N⟩:=z;refine⟨_,IL FZ E F,λB j H m d s Q P o h k=>M B j H m d s _ _ o h λS x t i K q1=>?_⟩;refine N B j t m d s _ _ (o.grow i) q1 λT y O f L J=>?_;obtain⟨R,bs,rfl,rfl,A,q⟩:=J
 cases K with
 |list u n=>
  cases L with
  |list v r=>
   refine⟨_,_,_,_,Fo,Fo,L2.bR.seq ((cE f).trans bZ) u,L2.bR.seq bZ v,xA (by rw[<- n.length,<- r.length];exact A),λp g=>?_⟩;exact k _ p _ _ ((i.trans f).trans (eX g)) (bR.free' (i.trans f) g) cW (by rw[lY g];exact(n.same (cE f)).append r) q
def Rc(i:Nat)(C:ET):FT:=λf Q=>∃d,f[i]?=some (.own d)/\C f λy=>∃bs,y=.list bs/\d.length+bs.length<=100000/\Q (d++bs)
def Z0{i:Nat}(w:PE X n (sS i))(v:iK X b C):OH X (.BinOp n .Add b pos) (Rc i C):=by
 obtain⟨T,A,J⟩:=v;refine⟨_,IL FZ w A,λB z H E j L Q N o h k=>?_⟩;obtain⟨K,e,h⟩:=h;obtain⟨q,U,t,P,R,S,u,m⟩:=o.own i K e;refine⟨.ref q,t,J B z H E j L _ _ o h λO y M d F g=>?_⟩;obtain⟨bs,rfl,x,g⟩:=g
 cases F with
 |list s r=>
  refine⟨_,_,_,_,Fo,Fo,lT.of (d _ _ u),L2.bR.seq bZ s,xA (by rw[<- m.length,<- r.length];exact x),λp f=>?_⟩;exact k _ p _ _ (d.trans (eX f)) (bR.free' d f) cW (by rw[lY f];exact(m.same (cE d)).append r) g
def Gf(m:List (Option Nat))(n:IT)(g:GT)(o:xV)(l:ET):FT:=λj Q=>n j λi=>i.length<=100000/\∃P:Nat->List Sl->List D->Prop,P 0 (kF m j) [] /\
 (∀(k:Nat)(x:D)d(h:List D),i[k]?=some x->P k d h->g x d λf=>o f λb=>if b=true then l f λy=>P (k+1) f (h++[y])else P (k+1) f h)/\∀d h,P i.length d h->Q h
def Ob(Q:List D->Prop)(d:D):Prop:=match d with | .list ds=>Q ds | _=>False
def VO{l}{Q:List D->Prop}(h:RC fr ti g tt l σ (Ob Q)):Gf fr ti g tt l σ Q:=h
def UT{ti:IT}{g:GT}{tt:xV}{l:ET}{wi:TI}{gv:BP->TG}{vt:BP->TT}{ve:BP->TE}
  (ri:∀B t H r f w (Q:List D->Prop)(R:It->Hp->Prop),Ok X.K B t H r f w->ti f Q->(∀E J q,bR H q->aAm X.K (mask q r) E J->Q E->R J q)->wi w H R)
  (rg:∀(M:BP)B t H r f w(d:D)(v:V)(Q:List Sl->Prop)(F:L2.St->Hp->Prop),Ok X.K B t H r f w->iN X.K (mask H r) d v->g d f Q->(∀j A,Ok X.K B t H r j A->(oR f->oR j)->Q j->F A H)->gv M v w H F)
  (rt:∀(M:BP)B t H r f w(Q:Bool->Prop)(F:Bool->Hp->Prop),Ok X.K B t H r f w->tt f Q->(∀b q,bR H q->Q b->F b q)->vt M w H F)
  (re:∀(M:BP)B t H r f w(Q:D->Prop)F,Ok X.K B t H r f w->l f Q->(∀d v q,bR H q->iN X.K (mask q r) d v->Q d->F v q)->ve M w H F)
  (B:Hp) (t:List Addr) (H:Hp) (r:List Addr) (f:List Sl) (w:L2.St) (Q:List D->Prop) (F:VK) (o:Ok X.K B t H r f w) (h:Gf fr ti g tt l f Q) (k:∀E p xs q,bR H q->H p=none->q p=some (.lst xs)->Reps X.K (mask q (p::r)) E xs->Q E->F (.ref p) q):RY fr wi gv vt ve w H F:=by
 refine ri B t H r f w _ _ o h λE J H1 s1 rj q1=>?_;obtain⟨hz,P,h0,hs,hd⟩:=q1;intro M n s;have U:B n=none:=bR.free' (o.grow s1).base s
 refine⟨λi m A q=>m=E.length-i/\i<=E.length/\∃j N T,Ok X.K B t q (n::r) j A/\oR j/\q n=some (.lst T)/\N.length<=i/\Reps X.K (mask q (n::r)) N T/\bR (mask H1 r) (mask q (n::r))/\bR H1 q/\P i j N,
  ⟨_,Fo,cI _,kF fr f,[],[],((o.grow s1).blk fr).adopt s,qY fr f,cW,aN _,.nil,by rw[lY s];exact L2.bR.refl _,eX s,h0⟩,?_⟩
 rintro i m A q ⟨rfl,sk,j,N,T,o',n',ha,hl,Z,W,sF,p'⟩;have hL:bO=2^24:=rfl;by_cases O:i<E.length
 ·refine .inr ⟨rj.go i q (W.trans bZ) O,λy H2 hy=>?_⟩;obtain⟨s2,dx,hx,rx⟩:=rj.yld i q (n::r) y H2 o'.live W O hy;refine rg M B t H2 (n::r) j A dx y _ _ (o'.grow s2) rx (hs i dx j N hx p') λx Y o3 n3 q3=>?_;refine rt M B t H2 (n::r) x Y _ _ o3 q3 λb H4 s4 q4=>?_;have L:=s2.trans s4
  cases b with
  |false=>
   exact⟨E.length-(i+1),Fl,Fo,O,x,N,T,o3.grow s4,n3 n',L _ _ ha,Fl,Z.same (cE L),W.trans (cE L),sF.trans L,q4⟩
  |true=>
   refine re M B t H4 (n::r) x Y _ _ (o3.grow s4) q4 λd v H5 s5 r5 q5=>?_;have S:=L.trans s5;have hm:mask (gG H5 n (.lst (T++[v]))) (n::r)=mask H5 (n::r):=jU (aS ..);refine⟨T,S _ _ ha,by rw[<- Z.length];lia,E.length-(i+1),Fl,Fo,O,x,N++[d],T++[v],((o3.grow s4).grow s5).aside (aS ..) U (n3 n'),n3 n',cW,by rw[bG,lA];lia,?_,?_,?_,q5⟩
   ·rw[hm];exact(Z.same (cE S)).append (.cons r5 .nil)
   ·rw[hm];exact W.trans (cE S)
   ·intro b u e;have ne:b≠n:=λz=>by rw[z,s]at e;cases e
    rw[cN ne];exact(sF.trans S) b u e
 ·obtain rfl:i=E.length:=by lia
  exact .inl ⟨rj.stop _ q (W.trans bZ) (aN _),k N n T q (s1.trans sF) (bR.free' s1 s) ha Z (hd j N p')⟩
def ZG{iter l}(m:KC X tg iter ti)
  (d:∀b:BP,KD (blk X scope N' b) tg g/\GU (blk X scope N' b) ifs tt/\iK (blk X scope N' b) elt l) {M:(TE)->Prop}
  (fin:∀{h}{gv:BP->TG}{vt:BP->TT}{ve:BP->TE},PI X tg iter h->(∀b:BP,PG (blk X scope N' b) tg (gv b)/\Q4 (blk X scope N' b) ifs (vt b)/\PE (blk X scope N' b) elt (ve b))->M (RY fr h gv vt ve)) :
  ∃v:TE,M v/\∀B p0 H ps dq σ (Q:List D->Prop)(i:VK),Ok X.K B p0 H ps dq σ->Gf fr ti g tt l dq Q ->
   (∀j p k f,bR H f->H p=none->f p=some (.lst k)->Reps X.K (mask f (p::ps)) j k->Q j->i (.ref p) f)->v σ H i:=by
 obtain⟨h,n,o⟩:=m;refine⟨_,fin (gv:=λb=>d8 (d b).1) (vt:=λb=>d8 (d b).2.1) (ve:=λb=>d8 (d b).2.2) n λb=>⟨(c8 (d b).1).1,(c8 (d b).2.1).1,(c8 (d b).2.2).1⟩,?_⟩;exact UT o (λb=>(c8 (d b).1).2) (λb=>(c8 (d b).2.1).2) λb=>(c8 (d b).2.2).2
def Qj{iter l}(j:KC X tg iter ti)
  (i:∀b:BP,KD (blk X scope N' b) tg g/\GU (blk X scope N' b) ifs tt/\iK (blk X scope N' b) elt l)
  (k:∀{wi}{d:BP->TG}{h:BP->TT}{f:BP->TE},PI X tg iter wi->(∀b:BP,PG (blk X scope N' b) tg (d b)/\Q4 (blk X scope N' b) ifs (h b)/\PE (blk X scope N' b) elt (f b))->PE X (.ListComp elt [⟨tg,iter,ifs,0⟩] scope pos) (RY fr wi d h f)) :
  OH X (.ListComp elt [⟨tg,iter,ifs,0⟩] scope pos) (Gf fr ti g tt l):=ZG j i k
abbrev RD:=List D->(List D->Prop)->Prop
def kW(K:aM)(k:RD):Sp:=λvs H Q _=>∃(f:List Addr)(h:List D)(g:List D->Prop),(∀p∈f,EV (H p))/\Reps K (mask H f) h vs/\k h g /\
 ∀i p j d,bR H d->H p=none->d p=some (.lst j)->Reps K (mask d (p::f)) i j->g i->Q (.ref p) d
def Ky(f:RD)(t:AT):FT:=λg Q=>t g λd=>f d Q
def ZZ{k:Nat}{f:Addr}{pn}(F:dU X.prog X.w X.K X.mg X.base hW k f fd pn (kW X.K sp))(W:X.mg x=some (.ref f))(hk:iC X.K (.ref f)=true)(U:sQ X.K fd pn [])
  (Y:Room k X.A) (u:wI X (e::I) t) (L:∀{G},PA X (e::I) G->PE X (.Call (.Name x p) (e::I) [] pos) (M4 (kW X.K sp) [] E0 G)):OH X (.Call (.Name x p) (e::I) [] pos) (Ky sp t):=by
 obtain⟨v,J,N⟩:=u;refine⟨_,L J,λB E H j i T Q r o h k=>N B E H j i T _ _ o h λs S n d M q1=>?_⟩;show kW X.K sp (S++[]) n r E0;rw[fR];exact⟨j,s,Q,(o.grow d).live,M,q1,λR p g m P y z O q=>k R p g m (d.trans P) (bR.free' d y) z O q⟩
def Fv{K}{mg:Str->Option Value}{st}{f:Addr}{N pn:List Str}{k:Nat}{o:RD}(F:Q5 K x qual st f fd)(S:bX N pn (aZ st))
  (j:∀{i}{A:d1}{outer}{s:Shared}{H E},Room k (A.deeper (aq qual (aZ st) s.heap.objs.size f i))->N.Nodup->∀(g:List D)(Q:List D->Prop),o g Q ->
   ∃t,sG (zZ hW P w K mg base N qual (aZ st) f i A outer s H E).nox (mJ st) t/\t { nx:=λ_=>False,rt:=λ_=>False,ro:=Q } (mL N g)) (len:∀g Q,o g Q->g.length=pn.length:=by intro g Q h;(repeat obtain⟨_,h⟩:=h)<;>subst_vars<;>rfl):dU P w K mg base hW (k+1) f fd pn (kW K o):=by
 refine F.ok S (λvs H Q E h=>?_) λi A outer s H vs Q E z h=>?_
 ·obtain⟨n,g,m,_,r,q,_⟩:=h;rw[<- r.length];exact len g m q
 ·obtain⟨n,g,m,live,r,q,k⟩:=h;obtain⟨t,⟨u,p,J⟩,h⟩:=j z S.nd g m q;exact⟨u,p,J H n H n _ _ _ _ (tU live r) h ⟨λ_ _ _ _ _ _ d=>d.elim,λ_ _ _ _ _ _ d=>d.elim,λ_ _ _ _ _ _ d=>d.elim,λ_ _ _ _ _ d=>d.elim,λu p O v M y R B L d=>k u p O v M y B L d,λ_ _ _ _ _ _ _ _ _ _ _ _ _ _ _ _ _ _ d=>d.elim,λ_ _ _ _ _ _ _ _ _ _ _ _ _ _ d=>d.elim,i8⟩⟩
def SC(i:Nat)(t:FT):sW:=λf d=>t d λg=>f.nx (d.set i (.own g))
def O9{i:Nat}{t:FT}{v:TE}(r:∀B m H g d k (Q:List D->Prop)(y:VK),Ok X.K B m H g d k->t d Q ->
   (∀n p u j,bR H j->H p=none->j p=some (.lst u)->Reps X.K (mask j (p::g)) n u->Q n->y (.ref p) j)->v k H y)
  (B:Hp) (m:List Addr) (H:Hp) (g:List Addr) (d:List Sl) (k:L2.St) (w:vJ) (x:GX) (o:Ok X.K B m H g d k) (h:SC i t w d) (f:J6 X.K B m H g w x):wO v (kY i) x k H:=by
 refine r B m H g d k _ _ o h λn p u j s z A E q=>?_;exact f.nx j (p::g) _ _ (o.takeOwn s z A E) (by rw[<- wL];exact cE (rP s z)) q
def X2{i:Nat}(h:OH X e t)(d:∀{v},PE X e v->PS X (.Assign [.Name x pos'] e pos) (wO v (kY i))):wH X (.Assign [.Name x pos'] e pos) (SC i t):=by
 obtain⟨v,p,r⟩:=h;exact⟨_,d p,O9 r⟩
def Mb(t:FT):sW:=λd f=>t f d.ro
def AM(h:OH X e t):wH X (.Return (some e) pos) (Mb t):=by
 obtain⟨v,p,r⟩:=h;refine⟨_,yF p,λB k H m d x y A o h f=>r B k H m d x _ _ o h λu p w i s g j n q=>?_⟩;refine f.ro u p w i (o.base.trans s) (bR.free' o.base g) (λz=>jE o.live g (o.sub p z)) j (n.same (lX λq hq=>?_)) q;rcases aY.mp hq with rfl | hq
 ·exact aS ..
 ·exact aO _ (o.sub q hq)
def YH(i:Nat):sW:=λf g=>∃d,g[i]?=some (.own d)/\f.ro d
def uN{i:Nat}(s:PE X n (sS i)):wH X (.Return (some n) pos) (YH i):=by
 refine⟨_,yF s,λB x H y u A v w o h f=>?_⟩;obtain⟨d,e,h⟩:=h;obtain⟨q,t,g,j,k,m,p,r⟩:=o.own i d e;refine⟨.ref q,g,f.ro d q t H o.base k m p (r.same (lX λz hz=>?_)) h⟩;rcases aY.mp hz with rfl | hz
 ·exact j
 ·exact o.sub z hz
def R9(c:xV)(C:sW):sW:=λg h=>∃P:Nat->List Sl->Prop,(∃n,P n h)/\∀n d,P n d->c d λb=>if b=true then C { g with nx:=λf=>∃m,m<n/\P m f,ct:=λf=>∃m,m<n/\P m f,bk:=g.nx } d else g.nx d
def tE{c C}(hc:GR X c tc)(Z:sG X body C)(pw:∀{R Q},PT X c R->AC X body Q->PS X (.While c body [] pos) (RX R Q)):wH X (.While c body [] pos) (R9 tc C):=by
 obtain⟨R,pc,rc⟩:=hc;obtain⟨Q,pb,rb⟩:=Z;refine⟨_,pw pc pb,λB t H F S σ U W o h f=>?_⟩;obtain⟨P,⟨n0,Y⟩,hs⟩:=h;refine⟨λn k A=>∃g d,Ok X.K B t A g d k/\bR (mask H F) (mask A g)/\P n d,⟨n0,F,S,o,L2.bR.refl _,Y⟩,?_⟩;rintro n k A ⟨g,d,O,T,p'⟩;refine rc B t A g d k _ _ O (hs n d p') λb E J q1=>?_;have q:J6 X.K B t E g U W:=(f.later T).later (cE J);have w:bR (mask H F) (mask E g):=T.trans (cE J)
 cases b with
 |true=>
  rw[a7 rfl]at q1 |-
  refine⟨λy L=>∃m,m<n/\∃u p,Ok X.K B t L u p y/\bR (mask H F) (mask L u)/\P m p,λy L z=>z,?_⟩;exact rb B t E g d k _ _ (O.grow J) q1 ⟨λM j i r s x ⟨m,N,v⟩=>⟨m,N,j,i,s,w.trans x,v⟩,λM j i r s x v=>q.nx M j i r s x v,λM j i r s x ⟨m,N,v⟩=>⟨m,N,j,i,s,w.trans x,v⟩,q.rt,q.ro,q.rp,q.rq,q.xb⟩
 |false=>
  rw[a6 Fk]at q1 |-
  exact q.nx E g d k (O.grow J) (L2.bR.refl _) q1
def Kl(i:Nat)(g:GT):sW:=λj h=>∃f d,h[i]?=some (.own (f++[d]))/\g d (h.set i (.own f)) j.nx
def aCz{i:Nat}(U:PE X n (sS i))(v:KD X tg g)
  (A:∀{k},PG X tg k->PS X (.Assign [tg] (.Call (.Attribute n "pop" ap) [] [] cp) pos) (wO (Ip X.K "list" Ih (sS i)) k)):wH X (.Assign [tg] (.Call (.Attribute n "pop" ap) [] [] cp) pos) (Kl i g):=by
 obtain⟨k,pg,L⟩:=v;refine⟨_,A pg,λB z H j P N Q R o h f=>?_⟩;obtain⟨M,d,e,h⟩:=h;obtain⟨q,W,m,t,S,T,p,u⟩:=o.own i _ e;obtain⟨ys,y,rfl,F,J⟩:=u.snoc;refine⟨.ref q,m,.inl ⟨Fo,_,lT.of p⟩,q,ys++[y],y,Fo,Fo,p,Fm,?_⟩;rw[List.dropLast_concat];have x:=o.write (us:=M) (ys:=ys) e m F;have r:mask (gG H q (.lst ys)) j=mask H j:=jU t;refine L B z _ j _ N d y _ _ x (by rw[r];exact J) h λs O w _ E=>f.nx _ j _ _ w (by rw[r];exact L2.bR.refl _) E
def Hf(i j k:Nat):GT:=λd f Q=>∃a b c,d=.tuple [a,b,c]/\Q (((f.set i (.val a)).set j (.val b)).set k (.val c))
def rC{i j k:Nat}(h:PG X t (ZX X.K 3 (vF (kY i) (vF (kY j) (vF (kY k) ZY))))):KD X t (Hf i j k):=
 ⟨_,h,λB u H w q x d v Q s o r h k=>by
  obtain⟨a,b,c,rfl,h⟩:=h
  cases r with
  |@tuple p xs _ hq r=>
   cases r with
   |cons f r=>
    cases r with
    |cons g r=>
     cases r with
     |cons m r=>
      cases r;exact⟨_,_,Fo,bR.seqT bZ hq,Fo,_,_,Fo,_,_,Fo,_,_,Fo,Fo,k _ _ (((o.set f).set g).set m) (λn=>kP (kP (kP n _ _) _ _) _ _) h⟩⟩
def Mo(l:ET)(g:GT):sW:=λh f=>l f λd=>g d f h.nx
def M8(s:iK X e l)(t:KD X tg g)(w:∀{v j},PE X e v->PG X tg j->PS X (.Assign [tg] e pos) (wO v j)):wH X (.Assign [tg] e pos) (Mo l g):=by
 obtain⟨v,y,re⟩:=s;obtain⟨j,pg,E⟩:=t;refine⟨_,w y pg,λB n H k i q J K o h f=>re B n H k i q _ _ o h λd x m p A q1=>?_⟩;exact E B n m k i q d x _ _ (o.grow p) A q1 λr F u _ z=>f.nx m k _ _ u (cE p) z
def Ny(c:xV)(G C:ET):ET:=λd Q=>c d λb=>if b=true then G d Q else C d Q
def B9(w:GR X c tc)(t:iK X a G)(u:iK X b C):iK X (.IfExp c a b pos) (Ny tc G C):=by
 obtain⟨M,z,F⟩:=w;obtain⟨K,x,A⟩:=t;obtain⟨L,y,E⟩:=u;refine⟨_,S9 z x y,λB j H m f r Q J o h k=>F B j H m f r _ _ o h λd s g q1=>?_⟩
 cases d with
 |true=>
  rw[a7 rfl]at q1 |-
  exact A B j s m f r Q _ (o.grow g) q1 λd v i q p n=>k d v i (g.trans q) p n
 |false=>
  rw[a6 Fk]at q1 |-
  exact E B j s m f r Q _ (o.grow g) q1 λd v i q p n=>k d v i (g.trans q) p n
end
end TL
namespace L2
open PySem.SeqAt
open AutoSeq1 (wpAny_loadPart')
section
variable{X:Cx}{d:List (Addr×Obj)}{g:St}{H:Hp}{s:Shared}{p:Addr}
def eG.retold(I:eG X d g H s)(h:H p=some u)(nt:∀f,u≠.tup f)(k:∀o v,u≠.frz o v)(nb:∀j,u≠.tbl j)(t:∀a,u≠.own a)(new:jY X.prog X.w (gG H p u') s.heap p u'):eG X d g (gG H p u') s:=by
 have ne:∀b v,H b=some v->v≠u->gG H p u' b=some v:=λb v e r=>by
  rw[cN λz=>by rw[z,h]at e;exact r (c5 e).symm];exact e
 have fin:=I.step (h':=s.heap) (H':=gG H p u') (g':=s.gens) (t':=s.toks) (d':=s.drawn) (ch:=[]) (λb i=>by cases i) (λb o _ _ _ e _=>e) (λb o _ _ _ e _=>⟨o.slots,e⟩)
  (λb o _ e n=>by rw[cN λz=>by rw[z,h]at n;cases n];exact n) (λb o _ e=>⟨o,e⟩) (λb f e=>ne _ _ e (λz=>nt f z.symm)) (λb o v e=>ne _ _ e (λz=>k o v z.symm))
  (λb j e=>⟨#[],by rw[ne _ _ e (λz=>nb j z.symm)];simp⟩) (λm l=>l) (λb v e=>?_) I.bare
 ·exact fin
 ·by_cases i:b=p
  ·subst i;rw[cW]at e;cases e;exact new
  ·rw[cN i]at e;exact(I.hok b v e).stay (λc w _ q=>q) (λc q=>ne _ _ q λz=>t b z.symm) (λc f q=>ne _ _ q λz=>nt f z.symm) λc ob y q=>ne _ _ q λz=>k ob y z.symm
def IZ{p:Addr}:∀a b:Heap,TL.pE p a->(∀o,a.get? p=some o->b.get? p=some o)->TL.pE p b:=λa b ⟨c,n,e,r⟩ k=>⟨c,n,k _ e,r⟩
def eG.openNums(I:eG X d g H s)(h:H p=some (.ext (TL.pE p))):∃ns:List Int,ns.length<=1000/\(∀i∈ns,0<=i/\i<4096)/\eG X d g (gG H p (.lst (ns.map V.int))) s:=by
 obtain⟨⟨b,n,e,l,c⟩,_⟩:=I.hok p _ h
 have all:∀b:List Value,(∀v∈b,∃(i:Int)(t:Tok),v=.int i t/\0<=i/\i<4096)->∃ns:List Int,ns.length=b.length/\(∀i∈ns,0<=i/\i<4096)/\gM (ns.map V.int) b:=λb=>by
  induction b with
  |nil=>exactλ_=>⟨[],Fo,λi r=>by simp at r,.nil⟩
  |cons v b y=>
   intro c;obtain⟨i,t,rfl,m,q⟩:=c v (aS ..);obtain⟨ns,l,f,k⟩:=y λu x=>c u (aO _ x);refine⟨i::ns,by simp[l],λj hj=>?_,.cons ⟨t,Fo⟩ k⟩;rcases aY.mp hj with rfl | hj
   ·exact⟨m,q⟩
   ·exact f j hj
 obtain⟨ns,w,f,k⟩:=all b c;refine⟨ns,Fl,f,I.retold h (λC z=>by cases z) (λo v z=>by cases z) (λB z=>by cases z) (λa z=>by cases z) ⟨?_,b,n,k,e⟩⟩;rw[aC];have A:bO=2^24:=rfl;lia
def eG.closeNums{ns:List Int}(I:eG X d g H s)(h:H p=some (.lst (ns.map V.int)))(w:ns.length<=1000)(q:∀i∈ns,0<=i/\i<4096):eG X d g (gG H p (.ext (TL.pE p))) s:=by
 obtain⟨z,f,n,r,e⟩:=I.hok p _ h;have b:=r.length;rw[aC]at b
 have j:∀v∈f,∃(i:Int)(t:Tok),v=.int i t/\0<=i/\i<4096:=λv j=>by
  obtain⟨k,hk⟩:=bP j;have c:k<ns.length:=by rw[b];exact(aE.mp hk).1
  obtain⟨u,l,t,m⟩:=r.get (i:=k) (x:=.int ns[k]) (by rw[aI,aD c];rfl);rw[hk]at l;cases l;exact⟨_,t,m,q _ (fK c)⟩
 exact I.retold h (λA z=>by cases z) (λo v z=>by cases z) (λy z=>by cases z) (λa z=>by cases z) ⟨⟨f,n,e,Fl,j⟩,⟨_,e⟩,IZ⟩
def Mv(p:Addr)(t:TS):TS:=λD g H=>H p=some (.ext (TL.pE p))/\∀ns:List Int,ns.length<=1000->(∀i∈ns,0<=i/\i<4096) ->
 t { nx:=λc b=>∃a:List Int,b p=some (.lst (a.map V.int))/\a.length<=1000/\(∀i∈a,0<=i/\i<4096)/\D.nx c (gG b p (.ext (TL.pE p))),rt:=λv b=>∃a:List Int,b p=some (.lst (a.map V.int))/\a.length<=1000/\(∀i∈a,0<=i/\i<4096)/\D.rt v (gG b p (.ext (TL.pE p))) } g (gG H p (.lst (ns.map V.int)))
def SU(p:Addr)(h:AC X sts t):AC X sts (Mv p t):=by
 intro d s g H D I ⟨o,l⟩;obtain⟨ns,m,n,k⟩:=I.openNums o;refine jR (h d s g _ _ k (l ns m n)) λf x q=>?_
 cases f with
 |next=>
  obtain⟨a,j,b,w,e,c,i,q⟩:=q;exact⟨a,_,b.closeNums e c i,q⟩
 |ret u=>
  obtain⟨v,a,j,b,r,w,e,c,i,q⟩:=q;exact⟨v,a,_,b.closeNums e c i,r,q⟩
 |brk=>obtain⟨_,_,_,q⟩:=q;exact q.elim
 |cont=>obtain⟨_,_,_,q⟩:=q;exact q.elim
def TH(h:PE X e te):PE X e (λg H Q=>te g H λv a=>∃(p:Addr)(ns:List Int),v=.ref p/\a p=some (.lst (ns.map V.int))/\ns.length<=1000/\(∀i∈ns,0<=i/\i<4096)/\Q (.ref p) (gG a p (.ext (TL.pE p)))):=by
 intro d s g H Q I j;refine jR (h d s g H _ I j) λu l k=>?_;obtain⟨v,a,b,r,q⟩:=k;obtain⟨p,ns,rfl,e,c,f,q⟩:=q;exact⟨.ref p,_,b.closeNums e c f,r,q⟩
end
def LW(l:Addr)(c:Array Value)(n:Nat)(b:Addr)(a:Array Value)(p:Nat)(k:Option Addr)(q:Array (Option Value))(o:¬(!c.isEmpty&&u4 (c.size+a.size))=true)(e:c.size<=bO)(f:c.size+a.size<=bO+1) :
  Meets (m3.«list.extend» ⟨[.ref l,.ref b],[]⟩) (λ_ R s=>s.heap.get? l=some { cls:=.type "list",dict:=none,data:=.seq c n,slots:=#[] }/\s.heap.get? b=some { cls:=.type "list",dict:=k,data:=.seq a p,slots:=q }/\R (.ok (.ret d9)) { s with heap:=s.heap.update l (d0 λx=>x++a),toks:=s.toks }):=
 .of_wp λprog w A R s h=>by
  obtain⟨v,g,d,y,os⟩:=s;obtain⟨j,m,h⟩:=h;have f1:=AutoSeq1.idx_int;have f2:=AutoSeq1.sub_tuple_tuple;have r:=AutoSeq1.sub_list_list;have t:=AutoSeq1.sub_tuple_list;have u:=AutoSeq1.sub_list_tuple;have i:(c++a).size<=bO+1:=by rw[RK];exact f
  wp_walk using(aa j Fo (hz:=e) (_hz':=i)),cf j,cf m
  exact⟨_,Fo,h⟩
section
variable{X:Cx}
def L0(K:aM):V->List V->Hp->VK->Prop:=λx vs H Q=>∃l b a c,x=.ref l/\vs=[.ref b]/\H l=some (.lst a)/\lT K H b c/\a.length+c.length<=bO/\Q .non (gG H l (.lst (a++c)))
def F3:Iz X "list.extend" (L0 X.K):=by
 intro j s T H x vs v O Q I J G h;obtain⟨l,b,P,S,rfl,rfl,i,p,M,q⟩:=h;cases J;obtain⟨u,rfl,E⟩:=G.one;cases E;obtain⟨z,c,n,r,L,e⟩:=I.lstM i;obtain⟨a,k,⟨o,A,m,t,w,hd⟩,R⟩:=I.list p;have y:=k.length;have f:c.toArray.size+a.toArray.size<=bO:=by rw[bI,bI];lia
 have d:¬(!c.toArray.isEmpty&&u4 (c.toArray.size+a.toArray.size))=true:=by
  rw[T4 f,Bool.and_false];exact bN
 obtain⟨N,B,C,g⟩:=o;cases t;cases hd;refine bu F.slot_list_extend ⟨_,e,Fo⟩ F.entry_list_extend (F.args_list_extend_2 _ _) (LW l c.toArray n b a.toArray A B g d (by rw[bI];lia) Fl) ⟨e,m,?_⟩;refine⟨.non,_,I.lset (its':=c++a) i e Fm (r.append k) ?_,Fo,q⟩;rw[bG];lia
end
end L2
namespace TL
open L2
section
variable{X:Cx}{b e:Expr}{c a:ET}{pos:Pos}
def SD(i:Nat)(a:ET):sW:=λj h=>∃f,h[i]?=some (.own f)/\a h λd=>∃g,d=.list g/\f.length+g.length<=100000/\j.nx (h.set i (.own (f++g)))
def FJ{i:Nat}{e a}(P:PE X n (sS i))(A:iK X e a)(hs:cD [e] X.env=(false,eval e X.env)::cD [] X.env:=by rfl)
  (pb:∀{c},PA X [e] c->PS X (.Expr (.Call (.Attribute n "extend" ap) [e] [] cp) pos) (RZ (Ft X.K "list" (L0 X.K) (sS i) c))):wH X (.Expr (.Call (.Attribute n "extend" ap) [e] [] cp) pos) (SD i a):=by
 obtain⟨v,p,r⟩:=A;refine⟨_,pb (jC p lE hs),λB G H k l w L M o h f=>?_⟩;obtain⟨u,e,h⟩:=h;obtain⟨q,j,m,z,N,O,s,t⟩:=o.own i u e;refine⟨.ref q,m,.inl ⟨Fo,j,lT.of s⟩,r B G H k l w _ _ o h λd x y g I q1=>?_⟩;obtain⟨J,rfl,E,q1⟩:=q1;have F:=o.grow g
 cases I with
 |@list p2 zs _ hq rs=>
  refine⟨q,p2,j,zs,Fo,Fo,g _ _ s,L2.bR.seq bZ hq,xA (by rw[<- t.length,<- rs.length];exact E),?_⟩;have C:Reps X.K (mask y k) (u++J) (j++zs):=(t.same (cE g)).append rs;exact f.nx _ k _ w (F.write (ys:=j++zs) e m C) ((cE g).trans (by rw[jU z];exact L2.bR.refl _)) q1
def Ra(t:FT):ET:=λf Q=>t f λd=>∃ns:List Int,d=ns.map aQ/\ns.length<=1000/\(∀i∈ns,0<=i/\i<4096)/\Q (.dict [])
def Z2(h:OH X e t):iK X e (Ra t):=by
 obtain⟨v,p,r⟩:=h;refine⟨_,TH p,λB m H n f x Q A o h k=>r B m H n f x _ _ o h λC p E y s g l w q=>?_⟩;obtain⟨ns,rfl,i,j,q⟩:=q;have e:=qX w;subst e;refine⟨p,ns,Fo,l,i,j,k (.dict []) _ _ (λb u d=>?_) (.wild (nA (jE o.live g) cW)) q⟩;rw[cN λz=>by rw[z,g]at d;cases d];exact s b u d
def pI{K}{mg:Str->Option Value}{k:Nat}{f:Addr}{pn}:dU P w K mg base hW k f fd pn (cG K λ_ _=>False):=
 ⟨λvs H Q E ⟨_,_,_,_,_,h,_⟩=>h.elim,λA outer s H d g vs Q E _ _ _ _ ⟨_,_,_,_,_,h,_⟩=>h.elim⟩
def vV{K}{mg:Str->Option Value}{k:Nat}{f:Addr}{pn}{j g:kQ}(F:dU P w K mg base hW k f fd pn (cG K j))(h:∀d Q,g d Q->j d Q):dU P w K mg base hW k f fd pn (cG K g):=
 F.imp λvs H Q E ⟨p,d,i,l,m,n,o⟩=>⟨p,d,i,l,m,h d i n,o⟩
def Og(d:D)(Q:D->Prop):Prop:=∃ns:List Int,d=.list (ns.map aQ)/\ns≠[]/\∀m,m∈ns->(∀n∈ns,n<=m)->Q (.int m)
end
end TL
namespace L2
section
variable{X:Cx}
def qI(P:X.calm=true):kO X (.builtin "max") (λN H Q=>∃(p:Addr)(ns:List Int),N=[.ref p]/\lT X.K H p (ns.map V.int)/\ns≠[]/\∀m,m∈ns->(∀n∈ns,n<=m)->Q (.int m) H):=by
 intro J s σ H N us Q I r h;obtain⟨p,ns,rfl,T,k,q⟩:=h;obtain⟨u,rfl,W⟩:=oC r;cases W;obtain⟨a,M,L,Z⟩:=I.list T;have g:=M.length;rw[aC]at g;have F:0<ns.length:=List.length_pos_iff.mpr k
 have B:p≠s.heap.objs.size:=by
  obtain⟨o,C,_⟩:=L.isList;exact bS (bF C)
 have f:=L.isList
 have l:p<s.heap.objs.size:=by
  obtain⟨o,C,_⟩:=f;exact bF C
 have c:∀(i:Nat)(v:Value),a.toArray[i]?=some v->∃t,v=.int ((ns[i]?).getD 0) t:=λi v w=>by
  have G:a[i]?=some v:=by simpa using w
  have y:i<a.length:=(aE.mp G).1;have d:i<ns.length:=by lia
  obtain⟨w',E,O⟩:=M.get (i:=i) (x:=.int ns[i]) (by rw[aI,aD d];rfl);rw[G]at E;cases E;rw[aD d];exact O
 refine call_max_walk (v9 f ?_);refine⟨_,_,_,_,_,_,_,Fo,Walks.list (A:=X.A.in1) (I.ok.hd P) _ p B a.toArray,⟨⟨_,aV _ Fo,Fo,Fo⟩,f.push _⟩,λb d=>?_,by rw[bI];lia,CmpOf.ints_gt (λi=>(ns[i]?).getD 0) c,λv Y tk w hk=>?_⟩
 ·show b<(s.heap.push _).objs.size;rw[eV];have:b=s.heap.objs.size\/b=p:=by simpa using d
  rcases this with rfl | rfl
  ·exact fA _
  ·exact fB l
 ·obtain⟨t,rfl⟩:=c _ _ w;have d:=argBest_gt (λi=>(ns[i]?).getD 0) (a.toArray.size-1);have U:a.toArray.size=ns.length:=by rw[bI];lia
  have y:argBest (λi j=>decide ((ns[i]?).getD 0>(ns[j]?).getD 0)) (a.toArray.size-1)<ns.length:=by have:=d.1;lia
  refine⟨.int _,H,I.kept λb o e=>hk b o ?_ (aJ _ e),⟨t,Fo⟩,q _ ?_ λn S=>?_⟩
  ·intro z;have:b=s.heap.objs.size:=by simpa using z
   exact a9 (bF e) (by rw[this];exact iT _)
  ·rw[aD y];exact fK y
  ·obtain⟨j,R,rfl⟩:=OQ.mp S;have:=d.2 j Fl;rw[aD R]at this;exact this
def Qd(_ j:Int):Prop:=0<j/\j<2^200
def IP:oU X (m4 .FloorDiv) (rI Qd λi j=>.int (i / j)):=Gk λi j _ _ _ _ _ a q=>by
 have c:(0:Int)<j:=a.1;have d:j<2^200:=a.2;have b:j.natAbs<2^200:=by lia
 have e:j.natAbs.log2<200:=(Nat.log2_lt Fl).mpr b;exact floordiv_int Fl (by rw[G8 i Fl];exact q) (.inl (PyProof.noPylong_of_log2 Fl))
end
end L2
namespace TL
open L2
section
variable{X:Cx}{e:Expr}{pos:Pos}
theorem B3{K}:∀ns:List Int,Reps K H (ns.map aQ) (ns.map V.int)
|[]=>.nil
|n::ns=>.cons (.int n) (B3 ns)
theorem JK:∀ns:List Int,dP (ns.map aQ)=true
|[]=>rfl
|n::ns=>JK ns
def YI(i:Nat):sW:=λa b=>b[i]?=some (.val (.dict []))/\∀n:Int,0<=n->n<4096->a.rt (.int n)
def O4{k:Nat}(S:Room k X.A){i:Nat}{j:Nat}(t:PE X n1 (sS i))(Q:PE X (.Call (.Attribute n2 "pop" ap) [] [] cp) (Ip X.K "list" Ih (sS i))) :
  sG X [.If (.Compare n1 [.Eq] [.List [] p2] p1) [.Return (some (.Constant (.int 0) j p3)) p4] [] p5,.Return (some (.Call (.Attribute n2 "pop" ap) [] [] cp)) p6] (YI i):=by
 have pt:AC X _ _:=BR (Ly (pos:=p5) (FS (pos:=p1) (Zj S) t (K5 (pos:=p2) lE) Fo) (FU (yF (pos:=p4) (yG (i:=0) (j:=j) (pos:=p3)))) FV) (FU (yF (pos:=p6) Q));refine⟨λD E H=>∃p,Mv p _ D E H,λC s E H D I ⟨p,h⟩=>SU p pt C s E H D I h,λB Z H ps U E W N o h f=>?_⟩;obtain⟨e,h⟩:=h;obtain⟨v,L,r⟩:=o.val i _ e
 cases r with
 |@wild p hw=>
  have J:H p=some (.ext (pE p)):=bZ _ _ hw;refine⟨p,J,λns P G=>?_⟩;have Y:bO=2^24:=rfl;refine⟨.ref p,L,cI _,λm a=>⟨.list (ns.map aQ),.list [],?_,?_,⟨JK ns,Fo,by show min _ 1<=60;lia⟩,_,Fo,?_⟩⟩
  ·exact .list (lT.of ((cN λz=>by rw[<- z,cW]at a;cases a).trans cW)) (B3 ns)
  ·exact .list (lT.of cW) .nil
  have c:p≠m:=λz=>by rw[<- z,cW]at a;cases a
  have d:H m=none:=by rw[cN λz=>c z.symm]at a;exact a
  have fin:∀(u w M:HO)(n:Int),0<=n->n<4096->N.rt (.int n) (gG (gG (gG (gG H p u) m w) p M) p (.ext (pE p))):=λu w M n F t=>by
   refine f.rt (.int n) _ _ (λq x R=>?_) (.int n) (h n F t);have b:=o.base _ _ R;by_cases z:q=p
   ·rw[z,J]at b;rw[z,cW];exact b
   ·have T:q≠m:=λe=>by rw[e,d]at b;cases b
    rw[cN z,cN z,cN T,cN z];exact b
  have again:∀(u w:HO),gG (gG (gG H p u) m w) p u=gG (gG H p u) m w:=λu w=>by
   funext q;by_cases z:q=p
   ·rw[z,cW,cN c,cW]
   ·rw[cN z]
  cases ns with
  |nil=>
   show(if true=true then _ else _);rw[a7 rfl];refine⟨[],by rw[cN c,cW],P,G,?_⟩;have:=fin (.lst ([].map V.int)) (.lst []) (.lst ([].map V.int)) 0 Fk Fk;rw[again]at this;exact this
  |cons n ns=>
   show(if false=true then _ else _);rw[a6 Fk];have y:gG (gG H p (.lst ((n::ns).map V.int))) m (.lst []) p=some (.lst ((n::ns).map V.int)):=by rw[cN c,cW]
   have g:((n::ns).map V.int)[((n::ns).map V.int).length-1]?=some (.int ((n::ns).getLast Fm)):=by
    rw[aC,aI,aD Fm,List.getLast_eq_getElem];rfl
   obtain⟨F,t⟩:=G _ (XD (l:=n::ns) Fm);refine⟨.ref p,L,.inl ⟨Fo,_,lT.of y⟩,p,(n::ns).map V.int,_,Fo,Fo,y,g,(n::ns).dropLast,?_,?_,λi O=>G i (List.dropLast_subset _ O),fin _ _ _ _ F t⟩
   ·rw[cW,List.map_dropLast]
   ·rw[OR];lia
def V9:uD X (λf H Q=>∃(p:Addr)(ns:List Int),f=[.ref p]/\lT X.K H p (ns.map V.int)/\ns≠[]/\∀m,m∈ns->(∀n∈ns,n<=m)->Q (.int m) H) (f1 Og):=c1 λH i d x Q g live r h k=>by
 obtain⟨ns,rfl,a,h⟩:=h
 cases r with
 |list q s=>
  have e:=qX s;subst e;exact⟨_,ns,Fo,L2.bR.seq bZ q,a,λm b c=>k _ _ H (L2.bR.refl H) (.int _) (h m b c)⟩
end
def Ok.setUn{K}{dq:List Sl}{σ:L2.St}(o:Ok K B p0 H ps dq σ){i:Nat}:Ok K B p0 H ps (dq.set i .un) (σ.set i (some v)) where
 base:=o.base
 sub:=o.sub
 live:=o.live
 len:=by simpa using o.len
 val:=λj d' h=>by
  by_cases e:i=j
  ·subst e
   have hi:i<dq.length:=by
    have:=(aE.mp h).1;simpa using this
   rw[bK hi]at h;cases h
  ·rw[bH e]at h |-
   exact o.val j d' h
 own:=λj ts h=>by
  by_cases e:i=j
  ·subst e
   have hi:i<dq.length:=by
    have:=(aE.mp h).1;simpa using this
   rw[bK hi]at h;cases h
  ·rw[bH e]at h |-
   exact o.own j ts h
 dis:=λj k ts us p h1 h2 h3 h4=>by
  have ne:∀{l:Nat}{ts:List D},(dq.set i .un)[l]?=some (.own ts)->i≠l:=λ{l ts} h e=>by
   subst e
   have hi:i<dq.length:=by
    have:=(aE.mp h).1;simpa using this
   rw[bK hi]at h;cases h
  have e1:=ne h1;have e2:=ne h2;rw[bH e1]at h1 h3;rw[bH e2]at h2 h4;exact o.dis j k ts us p h1 h2 h3 h4
 dc:=o.dc.setS λ_ _ z=>nomatch z
section
variable{X:Cx}{e:Expr}{a:List Expr}{b c:ET}{pos:Pos}
abbrev Iw:=List Sl->(List D->List D->Prop)->Prop
def Ix(X:Cx)(e:Expr)(t:Iw):Prop:=∃c:TE,PE X e c/\∀B p0 H ps dq σ (Q:List D->List D->Prop)(f:VK),Ok X.K B p0 H ps dq σ->t dq Q ->
 (∀g bs r p q h i d,bR H d->H r=none->H p=none->H q=none->p≠q->d r=some (.tup [.ref p,.ref q])->d p=some (.lst h)->d q=some (.lst i)->Reps X.K (mask d (p::q::ps)) g h->Reps X.K (mask d (p::q::ps)) bs i->Q g bs->f (.ref r) d)->c σ H f
abbrev Gr:=List D->(List D->List D->Prop)->Prop
def uQ(K:aM)(l:Gr):Sp:=λvs H Q _=>∃(f:List Addr)(i:List D)(g:List D->List D->Prop),(∀p∈f,EV (H p))/\Reps K (mask H f) i vs/\l i g /\
 ∀h bs r p q j k d,bR H d->H r=none->H p=none->H q=none->p≠q->d r=some (.tup [.ref p,.ref q])->d p=some (.lst j)->d q=some (.lst k)->Reps K (mask d (p::q::f)) h j->Reps K (mask d (p::q::f)) bs k->g h bs->Q (.ref r) d
def Lw(f:Gr)(t:AT):Iw:=λg Q=>t g λd=>f d Q
def S0{k:Nat}{f:Addr}{pn}(F:dU X.prog X.w X.K X.mg X.base hW k f fd pn (uQ X.K sp))(Z:X.mg x=some (.ref f))(hk:iC X.K (.ref f)=true)(Y:sQ X.K fd pn [])
  (hr:Room k X.A) (M:wI X (e::a) t) (P:∀{b},PA X (e::a) b->PE X (.Call (.Name x p) (e::a) [] pos) (M4 (uQ X.K sp) [] E0 b)):Ix X (.Call (.Name x p) (e::a) [] pos) (Lw sp t):=by
 obtain⟨v,O,g⟩:=M;refine⟨_,P O,λB N H l j W Q s o h k=>g B N H l j W _ _ o h λy i n d R q1=>?_⟩;show uQ X.K sp (i++[]) n s E0;rw[fR];exact⟨l,y,Q,(o.grow d).live,R,q1,λu bs r p q i U m T z C E G I J L g S q=>k u bs r p _ i U m (d.trans T) (bR.free' d z) (bR.free' d C) (bR.free' d E) G I J L g S q⟩
def Np{K}{mg:Str->Option Value}{st}{f:Addr}{N pn:List Str}{k:Nat}{n:Gr}(F:Q5 K x qual st f fd)(S:bX N pn (aZ st))
  (j:∀{i}{A:d1}{outer}{s:Shared}{H E},Room k (A.deeper (aq qual (aZ st) s.heap.objs.size f i))->N.Nodup->∀(g:List D)(Q:List D->List D->Prop),n g Q ->
   ∃t,sG (zZ hW P w K mg base N qual (aZ st) f i A outer s H E).nox (mJ st) t/\t { nx:=λ_=>False,rt:=λ_=>False,rp:=Q } (mL N g)) (len:∀g Q,n g Q->g.length=pn.length:=by intro g Q h;(repeat obtain⟨_,h⟩:=h)<;>subst_vars<;>rfl):dU P w K mg base hW (k+1) f fd pn (uQ K n):=by
 refine F.ok S (λvs H Q E h=>?_) λi A outer s H vs Q E J h=>?_
 ·obtain⟨m,g,l,_,r,q,_⟩:=h;rw[<- r.length];exact len g l q
 ·obtain⟨m,g,l,live,r,q,k⟩:=h;obtain⟨t,⟨T,p,O⟩,h⟩:=j J S.nd g l q;exact⟨T,p,O H m H m _ _ _ _ (tU live r) h ⟨λ_ _ _ _ _ _ d=>d.elim,λ_ _ _ _ _ _ d=>d.elim,λ_ _ _ _ _ _ d=>d.elim,λ_ _ _ _ _ d=>d.elim,λ_ _ _ _ _ _ _ _ _ d=>d.elim,λu bs r p q U W o R v y z B C G I L M d=>k u bs r p q U W o R v y z B C G I L M d,λ_ _ _ _ _ _ _ _ _ _ _ _ _ _ d=>d.elim,i8⟩⟩
def Nv(t:Iw):ET:=λf Q=>t f λd bs=>Q (.tuple [.list d,.list bs])
def VU(h:Ix X e t):iK X e (Nv t):=by
 obtain⟨v,p,r⟩:=h;refine⟨_,p,λB y H d u F Q G o h k=>r B y H d u F _ _ o h λI bs r p q J K w E m g j x n i l A C q1=>?_⟩;have f:∀{z:Addr},H z=none->z∉d:=λs=>jE o.live s;have sub:∀z∈d,z∈p::q::d:=λz s=>aO _ (aO _ s);exact k _ _ w E (.tuple (rN.of (nA (f m) n)) (.cons (.list (lT.of (nA (f g) i)) (A.same (lX sub))) (.cons (.list (lT.of (nA (f j) l)) (C.same (lX sub))) .nil))) q1
end
end TL
namespace L2
open PySem.SeqAt
section
variable{X:Cx}
theorem tR(ns:List Int):∀k:Nat,preSum (λi=>(ns[i]?).getD 0) k=(ns.take k).sum
|0=>rfl
|k+1=>by
 show preSum _ k+(ns[k]?).getD 0=_;rw[tR ns k,cS,C6]
 cases ns[k]? with
 |none=>simp
 |some x=>simp
theorem DU:∀ns:List Int,(∀n∈ns,0<=n/\n<2^40)->0<=ns.sum/\ns.sum<=(ns.length:Int)*2^40
|[],_=>by simp
|n::ns,h=>by
 have b:=h n (aS ..);have c:=DU ns λx a=>h x (aO _ a);rw[iS,dB];constructor
 ·lia
 ·have:((ns.length+1:Nat):Int)*2^40=(ns.length:Int)*2^40+2^40:=by rw[fT,aNc];rfl
  lia
def DE(R:X.calm=true):kO X (.builtin "sum") (λO H Q=>∃(p:Addr)(ns:List Int),O=[.ref p]/\lT X.K H p (ns.map V.int)/\(∀n∈ns,0<=n/\n<2^40)/\ns.length<=1000/\Q (.int ns.sum) H):=by
 intro L s σ H O us Q I r h;obtain⟨p,ns,rfl,U,m,C,q⟩:=h;obtain⟨u,rfl,W⟩:=oC r;cases W;obtain⟨a,N,M,hz⟩:=I.list U;have g:=N.length;rw[aC]at g
 have E:p≠s.heap.objs.size:=by
  obtain⟨o,F,_⟩:=M.isList;exact bS (bF F)
 have c:=M.isList
 have l:p<s.heap.objs.size:=by
  obtain⟨o,F,_⟩:=c;exact bF F
 have w:∀(i:Nat)(v:Value),a.toArray[i]?=some v->∃t,v=.int ((ns[i]?).getD 0) t:=λi v P=>by
  have J:a[i]?=some v:=by simpa using P
  have hi:i<a.length:=(aE.mp J).1;have y:i<ns.length:=by lia
  obtain⟨w',B,G⟩:=N.get (i:=i) (x:=.int ns[i]) (by rw[aI,aD y];rfl);rw[J]at B;cases B;rw[aD y];exact G
 have d:∀k:Nat,0<=(ns.take k).sum/\(ns.take k).sum<2^63:=λk=>by
  have B:=DU (ns.take k) λn T=>m n (dZ T);have G:(ns.take k).length<=1000:=by rw[bB];lia
  have h3:((ns.take k).length:Int)*2^40<=1000*2^40:=Int.mul_le_mul_of_nonneg_right Fl Fk;lia
 refine call_sum_walk (v9 c ?_);refine⟨_,_,_,_,_,_,λi=>(ns[i]?).getD 0,Fo,Walks.list (A:=X.A.in1) (I.ok.hd R) _ p E a.toArray,⟨⟨_,aV _ Fo,Fo,Fo⟩,c.push _⟩,λb y=>?_,w,λj S=>?_,λZ tk Y hk=>?_⟩
 ·show b<(s.heap.push _).objs.size;rw[eV];have:b=s.heap.objs.size\/b=p:=by simpa using y
  rcases this with rfl | rfl
  ·exact fA _
  ·exact fB l
 ·rw[bI]at S;have f:j<ns.length:=by lia
  refine⟨?_,?_⟩
  ·have:=m ns[j] (fK f);show InLong ((ns[j]?).getD 0);rw[aD f];show -(2^63)<=ns[j]/\ns[j]<2^63;lia
  ·rw[tR];have:=d (j+1);show -(2^63)<=_/\_<2^63;lia
 ·refine⟨.int _,H,I.kept λb o e=>hk b o ?_ (aJ _ e),⟨Y,Fo⟩,?_⟩
  ·intro z;have:b=s.heap.objs.size:=by simpa using z
   exact a9 (bF e) (by rw[this];exact iT _)
  ·rw[tR,kR (by rw[bI];lia)];exact q
end
def CC(l:Addr)(a:Array Value) :
  Meets (m3.«enumerate.__new__» ⟨[.type "enumerate",.ref l],[]⟩) (λ_ R s=>s.heap.IsList l a /\
   R (.ok (.ret (.ref (s.heap.push { cls:=.type "list_iterator",data:=.fields #[.ref l,.int 0 0] }).objs.size)))
    { s with heap:=(s.heap.push { cls:=.type "list_iterator",data:=.fields #[.ref l,.int 0 0] }).push { cls:=.type "enumerate",data:=.fields #[.none,.bool false,.ref s.heap.objs.size,h9 0,.none,.none] } }):=
 .of_wp λprog w A R s h=>by
  obtain⟨i,g,d,j,os⟩:=s;obtain⟨f,h⟩:=h;have e:=sub_enumerate;have b:Heap.IsList (Shared.heap ⟨i,g,d,j,os⟩) l a:=f
  wp_walk
  refine wpAny_stack_any λst=>aG ?_;split
  ·rename_i c _ _ _ _ _;cases (c==j9 "enumerate")
   ·wp_walk using v9 b
    exact⟨_,Fo,h⟩
   ·wp_walk using v9 b
    exact⟨_,Fo,h⟩
  ·wp_walk using v9 b
   exact⟨_,Fo,h⟩
section
variable{P:cM}{w:c7}{A:d1}{E:Value->Shared->Prop}{s:Shared}
def AA{l:Addr}{Q:Value->Shared->Prop}(e:s.heap.IsList l items)
  (h:∀a,IsEnum a (s.heap.objs.size+1) s.heap.objs.size 0 .none->a.IsListIter s.heap.objs.size l 0->a.objs.size=s.heap.objs.size+2 ->
   (∀b o,s.heap.get? b=some o->a.get? b=some o)->Q (.ref (s.heap.objs.size+1)) { s with heap:=a }) :
  wpAny (model P w) A (call (.type "enumerate") [.ref l]) Q E s:=by
 refine callType_new F.called_enumerate Fk (F.typeCall_enumerate_1 _) (F.newCall_enumerate_1 _) (λobj=>F.args_object_init_2 obj _) F.entry_enumerate_new
  (CC l items) ⟨e,?_⟩
 have c:(s.heap.push { cls:=.type "list_iterator",data:=.fields #[.ref l,.int 0 0] }).objs.size=s.heap.objs.size+1:=eV ..;show _/\_;rw[c]
 have d:IsEnum ((s.heap.push { cls:=.type "list_iterator",data:=.fields #[.ref l,.int 0 0] }).push
   { cls:=.type "enumerate",data:=.fields #[.none,.bool false,.ref s.heap.objs.size,h9 0,.none,.none] }) (s.heap.objs.size+1) s.heap.objs.size 0 .none:=by
  have:=aV (s.heap.push { cls:=.type "list_iterator",data:=.fields #[.ref l,.int 0 0] })
   (o:={ cls:=.type "enumerate",data:=.fields #[.none,.bool false,.ref s.heap.objs.size,h9 0,.none,.none] }) Fo
  rw[c]at this;exact this
 exact⟨⟨_,d,Fo⟩,h _ d ⟨_,aJ _ (aV _ Fo),Fo,Fo⟩ (by rw[eV,c]) λb o x=>aJ _ (aJ _ x)⟩
end
noncomputable def Nb(K:aM)(a:Addr):It:=
 ⟨λi H=>∃b x,lT K H a b/\b[i]?=some x,
  λi H v c=>∃p x,H p=none/\v=.ref p/\c=gG H p (.tup [.int (i:Int),x])/\∀b,lT K H a b->b[i]?=some x,
  λi H=>∃b,lT K H a b/\b.length<=i⟩
def OZ{K}{x1:Nat}{e it l:Addr}(zz:e≠it) :
  CS P w K (.Tuple elts x1 pos) (Nb K l) [e,it] e (λi h=>(∃old,IsEnum h e it (i:Int) old)/\h.IsListIter it l i) where
 mem:=by simp
 obj:=λi h st b hb=>by
  obtain⟨⟨old,he⟩,ee⟩:=st;simp only[aY,dS,j5]at hb;rcases hb with rfl | rfl
  ·exact⟨_,he,λv q=>by cases q⟩
  ·obtain⟨o,e,c,d⟩:=ee;exact⟨o,e,λv z=>by rw[d]at z;cases z⟩
 keep:=λi h h' st k=>by
  obtain⟨⟨old,he⟩,ee⟩:=st;exact⟨⟨old,k e Fm _ he⟩,ee.at λo x=>k it Fm o x⟩
 item:=by
  intro X hP hw hK hc i pins s σ H E I hf st hg;subst hP hw hK;obtain⟨⟨old,he⟩,ee⟩:=st;obtain⟨xs,x,hq,hx⟩:=hg;obtain⟨fo,rv,p,hz⟩:=I.list hq;obtain⟨u,hu,ru⟩:=rv.get hx;refine wpAny_pyNext_enum_item he ee p.isList (x:=u) (by simpa using hu) zz λh' a1 a2 a3 a4 a5=>⟨_,Fo,?_⟩;refine wpAny_letOwnedTupleGo_enum (s:={ s with heap:=h',toks:=s.toks+1 }) a1 λh2 b1 sb=>?_;have vn:e<s.heap.objs.size:=bF he
  have kk:∀c o,c∉[e,it]->s.heap.get? c=some o->h2.get? c=some o:=λc o dn x=>by
   simp only[aY,dS,j5,Aa]at dn;exact sb.extBut _ _ dn.1 (a5 c o dn.1 dn.2 x)
  have hT:=sb.extBut _ _ (fM vn) a3;have I1:eG X pins σ (gG H s.heap.objs.size (.tup [.int (i:Int),x])) { s with heap:=h2,toks:=s.toks+1 }:=I.turnedNew (t':=s.toks+1) hf kk (aN _) ⟨(by show 2<=bO;decide),[.int i s.toks,u],.cons ⟨_,Fo⟩ (.cons ru .nil),⟨_,hT,Fo,_,Fo,Fo⟩⟩;refine⟨.ref s.heap.objs.size,_,I1,Fo,⟨_,x,I.hok.fresh (aN _),Fo,Fo,λys hy=>by rw[I.list_inj hy hq];exact hx⟩,?_,λc dn=>?_⟩
  ·exact⟨⟨_,by rw[fT];exact b1⟩,a2.at λo x=>sb.extBut _ _ (l6 zz) x⟩
  ·have im:c≠s.heap.objs.size:=by
    simp only[aY,dS,j5]at dn;rcases dn with rfl | rfl
    ·exact bS vn
    ·obtain⟨o,z,_⟩:=ee;exact bS (bF z)
   rw[cN im];exact(hf c dn).1
 done:=by
  intro X hP hw hK hc i pins s σ H E I hf st hg;subst hP hw hK;obtain⟨⟨old,he⟩,ee⟩:=st;obtain⟨xs,hq,hx⟩:=hg;obtain⟨fo,rv,p,hz⟩:=I.list hq;have hl:=rv.length;refine wpAny_pyNext_enum_end (I.ok.hd hc) he ee p.isList (by simp;lia) λh' eb=>⟨Fo,I.turnedL (t':=s.toks) hf λc o dn x=>?_⟩;simp only[aY,dS,j5,Aa]at dn;exact eb c o dn.2 x
 self:=λA i s Q E st h=>by
  obtain⟨⟨old,he⟩,_⟩:=st;exact ur he h
def CP:d2 "enumerate"=some (.type "enumerate"):=by decide +kernel
def Mf(K:aM)(b:TA):TI:=λd H R=>b d H λvs a=>∃l c,vs=[.ref l]/\lT K a l c/\R (Nb K l) a
section
variable{X:Cx}
def YV{C:Nat}(t:Gl X "enumerate")(u:X.mg "enumerate"=none)(o:PA X [a] ta)(hs:cD [a] X.env=[(false,eval a X.env)]:=by rfl) :
  PI X (.Tuple elts C tpos) (.Call (.Name "enumerate" p) [a] [] pos) (Mf X.K ta):=by
 intro d s F H R I h;refine Call_ (tV I t u CP (j0 (jR (o pos d s F H _ I h) λG b E=>?_) (by rw[hs];rfl) (by rfl)));obtain⟨vs,m,f,y,q1⟩:=E;obtain⟨l,J,rfl,v,q⟩:=q1
 cases y with
 |cons r z=>
  cases z;cases r;obtain⟨B,A,p1,x⟩:=f.list v;refine AA p1.isList λn j g w hk=>ur (s:={ b with heap:=n }) j ?_;refine⟨_,[b.heap.objs.size+1,b.heap.objs.size],_,_,m,Fo,f.kept (t':=b.toks) hk,OZ (e:=b.heap.objs.size+1) (it:=b.heap.objs.size) (l:=l) (Nat.succ_ne_self _),⟨⟨_,j⟩,g⟩,λc i=>?_,q⟩;simp only[aY,dS,j5]at i;have k:b.heap.objs.size<=c:=by rcases i with rfl | rfl<;>first | exact aN _ | exact aAt _ _
  exact f.fpOk k (f.hok.fresh k)
end
end L2
namespace TL
open L2 PySem.SeqAt
variable{K:aM}
def Hn(K:aM)(a:Addr)(c:List Str):Prop:=∃(o:Obj)(b:Array Value)(n:Nat),K.lookup a=some o/\o.cls=.type "tuple"/\o.dict=none/\o.data=.seq b n/\b.size<=bO/\gM (c.map V.str) b.toList
theorem BL:∀a:List Str,Reps K H (a.map aW) (a.map V.str)
|[]=>.nil
|y::a=>.cons (.str y) (BL a)
noncomputable def zP(a:List D):List D:=XF (eQ a.length) a
def rE(a:List D):(zP a).length=a.length:=by unfold zP;rw[RM];unfold eQ;simp
def yT{i:Nat}(h:as[i]?=some a):(zP as)[i]?=some (.tuple [.int (i:Int),a]):=by
 have b:=(aE.mp h).1;unfold zP XF eQ;rw[aI,(qO (z:=(aQ (i:Int),a))).mpr ⟨by rw[aI,iI b];rfl,h⟩];rfl
def Ym(t:AT):IT:=λc Q=>t c λb=>∃a,b=[.list a]/\Q (zP a)
section
variable{X:Cx}{a b e:Expr}{w:List Expr}{c C g:ET}{pos:Pos}
def N5{x:Str}{p:Addr}{d:List Str}{pos}(f:Gl X x)(i:X.mg x=some (.ref p))(hk:Hn X.K p d)(hd:(x==("__debug__":Str))=false:=by decide):iK X (.Name x pos) (eC (.tuple (d.map aW))):=
 ⟨_,NM (v:=.ref p) f i Fo hd,λ_ _ H _ _ _ _ _ _ h k=>k _ _ H (L2.bR.refl H) (.tuple (.inr hk) (BL d)) h⟩
def ZM{m:Nat}(v:wI X [a] t)(I:∀{c},PA X [a] c->PI X (.Tuple elts m tpos) (.Call (.Name "enumerate" p) [a] [] p') (Mf X.K c)):KC X (.Tuple elts m tpos) (.Call (.Name "enumerate" p) [a] [] p') (Ym t):=by
 obtain⟨U,E,L⟩:=v;refine⟨_,I E,λB A H F j O Q R o h k=>L B A H F j O _ _ o h λT W n M f q1=>?_⟩;obtain⟨S,rfl,q⟩:=q1
 cases f with
 |cons f J=>
  cases J
  cases f with
  |@list p1 us _ hq1 rs1=>
   have n1:=rs1.length;refine⟨p1,us,Fo,L2.bR.seq bZ hq1,k _ _ n M ⟨λi H e d=>?_,λi H e d=>?_,λi H G y P live e d z=>?_⟩ q⟩
   ·rw[rE]at d;exact⟨us,L2.bR.seq e hq1,Fl⟩
   ·rw[rE]at d;exact⟨us,us[i],L2.bR.seq e hq1,aD Fl⟩
   ·obtain⟨p,x,l,rfl,rfl,u⟩:=z;obtain⟨r,s,N⟩:=rs1.get' (u us (L2.bR.seq (e.trans bZ) hq1));exact⟨eX l,.tuple [.int (i:Int),r],yT s,rV live l (.cons (.int _) (.cons (N.same e) .nil))⟩
def Oi(d:D)(Q:D->Prop):Prop:=∃ns:List Int,d=.list (ns.map aQ)/\(∀n∈ns,0<=n/\n<2^40)/\ns.length<=1000/\Q (.int ns.sum)
def Qe:uD X (λi H Q=>∃(p:Addr)(ns:List Int),i=[.ref p]/\lT X.K H p (ns.map V.int)/\(∀n∈ns,0<=n/\n<2^40)/\ns.length<=1000/\Q (.int ns.sum) H) (f1 Oi):=c1 λH l d x Q j live r h k=>by
 obtain⟨ns,rfl,hs,f,h⟩:=h
 cases r with
 |list q s=>
  have e:=qX s;subst e;exact⟨_,ns,Fo,L2.bR.seq bZ q,hs,f,k _ _ H (L2.bR.refl H) (.int _) h⟩
def FP(K:aM):V->List V->Hp->VK->Prop:=λx h H Q=>∃(y:V)(f:List D)(d:D)(j:Nat),h=[y]/\iN K H (.list f) x/\iN K H d y/\K9 f d j/\j<1000000/\Q (.int j) H
def LE(U:X.A.units+200<u7):W4 X "list.index" (FP X.K):=by
 intro M s σ H x xs v us Q I rx rv h;obtain⟨y,i,d,j,rfl,Z,r2,⟨c1,E,p,⟨t,L,R⟩,z⟩,S,q⟩:=h;obtain⟨u,rfl,ru⟩:=rv.one;obtain⟨as,O⟩:=iN.reads I (show(KE i).hasDict=false from noDictAll c1) Z rx;obtain⟨bs,P⟩:=iN.reads I (mZ E) r2 ru
 cases O with
 |@list l o items n _ as' h3 h4 h5 h6=>
  have f:=je i items.toList _ c1 h6;have J:items.size=i.length:=by rw[<- f,aC,bQ]
  have T:j<i.length:=(aE.mp L).1;have G:j<items.size:=by lia
  have N:∀(m:Nat)(p:m<items.size),i[m]?=some (jd s.heap items[m]):=λm p=>by
   rw[<- f,aI];simp[p]
  obtain⟨oc,W,Y,B⟩:=o;cases h4;cases h5;refine bu F.slot_list_index ⟨_,h3,Fo⟩ F.entry_list_index (F.args_list_index_2 _ _) (list_indexAt _ items _ W B u (λy=>dW (jd s.heap y) d) j G Fl ?_ ?_) ⟨h3,tf h6 P c1 E (by have:=U;lia),?_⟩
  ·have:=N j G;rw[L]at this;rw[<- c5 this];exact R
  ·intro m r k;exact z m _ k (N m r)
  ·exact⟨.int j,H,I.tok _,⟨_,Fo⟩,q⟩
def D6{k:Nat}(d:Room k X.A):W4 X "list.index" (FP X.K):=LE (by have:=d.un;lia)
def GF(g:ET)(t:AT):ET:=λh Q=>g h λd=>∃f,d=.list f/\t h λi=>∃(x:D)(j:Nat),i=[x]/\K9 f x j/\j<1000000/\Q (.int j)
def EI(E:iK X n g)(z:wI X (e::w) t)
  (G:∀{v c},PE X n v->PA X (e::w) c->PE X (.Call (.Attribute n "index" ap) (e::w) [] pos) (Ft X.K "list" (FP X.K) v c)):iK X (.Call (.Attribute n "index" ap) (e::w) [] pos) (GF g t):=by
 obtain⟨v,I,re⟩:=E;obtain⟨U,F,P⟩:=z;refine⟨_,G I F,λB i H l f s Q S o h k=>re B i H l f s _ _ o h λd x u m L q1=>?_⟩;obtain⟨R,rfl,q1⟩:=q1
 cases L with
 |@list p xs _ hq rs=>
  refine⟨.inl ⟨Fo,_,L2.bR.seq bZ hq⟩,P B i u l f s _ _ (o.grow m) q1 λT W y r M J=>?_⟩;obtain⟨d,j,rfl,hok,A,q⟩:=J
  cases M with
  |cons N O=>
   cases O;exact⟨_,R,d,j,Fo,(iN.list hq rs).same ((cE r).trans bZ),N.same bZ,hok,A,k _ _ y (m.trans r) (.int _) q⟩
def Ju(f:List D)(d:D):Prop:=dP f=true/\d.canLay0=true/\min (dM f) d.depth<=60
def FQ(K:aM):V->List V->Hp->VK->Prop:=λx h H Q=>∃(y:V)(f:List D)(d:D),h=[y]/\iN K H (.list f) x/\iN K H d y/\Ju f d/\Q (.int ((f.countP λt=>dW t d:Nat):Int)) H
def LF(z:X.A.units+200<u7):W4 X "list.count" (FQ X.K):=by
 intro m s U H x T v S Q I N M h;obtain⟨y,j,d,rfl,G,J,⟨c1,k,P⟩,q⟩:=h;obtain⟨u,rfl,L⟩:=M.one;obtain⟨O,p⟩:=iN.reads I (show(KE j).hasDict=false from noDictAll c1) G N;obtain⟨bs,r⟩:=iN.reads I (mZ k) J L
 cases p with
 |@list l o items n _ as' h3 h4 h5 h6=>
  have f:=je j items.toList _ c1 h6;obtain⟨R,B,E,i⟩:=o;cases h4;cases h5;refine bu F.slot_list_count ⟨_,h3,Fo⟩ F.entry_list_count (F.args_list_count_2 _ _) (list_countAt _ items _ B i u (λy=>dW (jd s.heap y) d)) ⟨h3,tf h6 r c1 k (by have:=z;lia),?_⟩;refine⟨.int _,H,I.tok _,⟨_,Fo⟩,?_⟩
  have e:(items.toList.countP λy=>dW (jd s.heap y) d)=j.countP λt=>dW t d:=by
   rw[<- f,aAx];rfl
  rw[e];exact q
def P1{k:Nat}(d:Room k X.A):W4 X "list.count" (FQ X.K):=LF (by have:=d.un;lia)
def Z8(g:ET)(t:AT):ET:=λh Q=>g h λd=>∃f,d=.list f/\t h λi=>∃x:D,i=[x]/\Ju f x/\Q (.int ((f.countP λt=>dW t x:Nat):Int))
def QL(z:iK X n g)(y:wI X (e::w) t)
  (E:∀{v c},PE X n v->PA X (e::w) c->PE X (.Call (.Attribute n "count" ap) (e::w) [] pos) (Ft X.K "list" (FQ X.K) v c)):iK X (.Call (.Attribute n "count" ap) (e::w) [] pos) (Z8 g t):=by
 obtain⟨v,F,re⟩:=z;obtain⟨S,A,N⟩:=y;refine⟨_,E F A,λB i H j f r Q P o h k=>re B i H j f r _ _ o h λd x s l I q1=>?_⟩;obtain⟨O,rfl,q1⟩:=q1
 cases I with
 |@list p xs _ hq rs=>
  refine⟨.inl ⟨Fo,_,L2.bR.seq bZ hq⟩,N B i s j f r _ _ (o.grow l) q1 λR T u m J G=>?_⟩;obtain⟨d,rfl,hok,q⟩:=G
  cases J with
  |cons L M=>
   cases M;exact⟨_,O,d,Fo,(iN.list hq rs).same ((cE m).trans bZ),L.same bZ,hok,k _ _ u (l.trans m) (.int _) q⟩
def aAf(g:ET):xV:=λh Q=>g h λd=>∃f,d=.list f/\Q (!f.isEmpty)
def O2(h:iK X e g)(pt:∀{t},PE X e t->PT X e (λf H Q=>t f H λx j=>∃k,Ht X.K x j k/\Q k j)):GR X e (aAf g):=by
 obtain⟨v,p,r⟩:=h;refine⟨_,pt p,λB s H u i f Q A o h k=>r B s H u i f _ _ o h λd x m z y q1=>?_⟩;obtain⟨l,rfl,q⟩:=q1
 cases y with
 |@list p xs _ hq rs=>
  have n:=rs.length;refine⟨!xs.isEmpty,.inl ⟨xs,L2.bR.seq bZ hq,Fo⟩,?_⟩
  have:(!xs.isEmpty)=(!l.isEmpty):=by
   cases xs<;>cases l<;>first | rfl | (simp at n)
  rw[this];exact k _ m z q
def PF(c C:FT):sW:=λf d=>c d λh=>C d λbs=>f.rp h bs
def HW{c C}(J:OH X n c)(Z:OH X m C)(hs:cD [n,m] X.env=(false,eval n X.env)::cD [m] X.env:=by rfl)(N:cD [m] X.env=(false,eval m X.env)::cD [] X.env:=by rfl):wH X (.Return (some (.Tuple [n,m] x1 p2)) pos) (PF c C):=by
 obtain⟨va,pa,ra⟩:=J;obtain⟨vb,pb,rb⟩:=Z;refine⟨_,yF (S5 (jC pa (jC pb lE N) hs)),λB s H t k S DT DV o h f=>?_⟩;refine ra B s H t k S _ _ o h λW p U v y T x rs q1=>?_
 have o1:Ok X.K B s v (p::t) k S:=by
  have o2:=o.grow (rP y T);have J:without v p p=none:=by unfold without;rw[a7 rfl]
  have o3:=o2.adopt (u:=.lst U) J
  rwa [zD x]at o3
 refine rb B s v (p::t) k S _ _ o1 q1 λbs q ys E A M O R q2=>?_;refine⟨aF Fo,λr l=>?_⟩;have j:=A _ _ x;have L:p≠q:=λz=>by rw[z,M]at x;cases x
 have P:p≠r:=λz=>by rw[z,l]at j;cases j
 have Q:q≠r:=λz=>by rw[z,l]at O;cases O
 have Y:∀{z:Addr},H z=none->B z=none:=λhz=>bR.free' o.base hz;have live:∀z∈s,EV (H z):=λz hz=>o.live z (o.sub z hz)
 have m1:bR (mask v (p::t)) (mask (gG E r (.tup [.ref p,.ref q])) (p::q::s)):=λb u i=>by
  unfold mask at i |-
  by_cases d:b∈p::t
  ·rw[a7 d]at i;cases i
  ·rw[a6 d]at i;have F:=A _ _ i;have I:b≠r:=λz=>by rw[z,l]at F;cases F
   have G:b≠q:=λz=>by rw[z,M]at i;cases i
   rw[a6,cN I]
   ·exact F
   ·intro z;rcases aY.mp z with z | z
    ·exact d (z▸aS ..)
    ·rcases aY.mp z with z | z
     ·exact G z
     ·exact d (aO _ (o.sub b z))
 have m2:bR (mask E (q::p::t)) (mask (gG E r (.tup [.ref p,.ref q])) (p::q::s)):=(cE (eX l)).trans (lX λz hz=>by
  rcases aY.mp hz with rfl | hz
  ·exact aO _ (aS ..)
  ·rcases aY.mp hz with rfl | hz
   ·exact aS ..
   ·exact aO _ (aO _ (o.sub z hz)))
 exact f.rp W bs r p q U ys _ (o.base.trans (y.trans (A.trans (eX l)))) (bR.free' (o.base.trans (y.trans A)) l) (Y T) (bR.free' (o.base.trans y) M) L cW (by rw[cN P];exact j) (by rw[cN Q];exact O) (rs.same m1) (R.same m2) q2
end
end TL
namespace TL
def Xy:d2 "sum"=some (.builtin "sum"):=by decide +kernel
open L2
section
variable{d:List (Option Nat)}{j:IT}{g:xV}{i:ET}{c:List Sl}{Q:D->Prop}{ts:List D}
def US(o:uC j c ts)(p:D->Bool)(f:D->D)(A:ts.length<=100000)(u:∀x∈ts,∃a b,x=.tuple [a,b])
  (v:∀(a b:D)(q:Bool->Prop),.tuple [a,b]∈ts->q (p (.tuple [a,b]))->g (((kF d c).set 0 (.val a)).set 1 (.val b)) q)
  (z:∀(a b:D)(q:D->Prop),.tuple [a,b]∈ts->q (f (.tuple [a,b]))->i (((kF d c).set 0 (.val a)).set 1 (.val b)) q) (w:Q (.list ((ts.filter p).map f))):RC d j (gP 0 1) g i c Q:=by
 refine o _ ⟨A,λk l m=>(∀x y,(l.set 0 (.val x)).set 1 (.val y)=((kF d c).set 0 (.val x)).set 1 (.val y))/\m=((ts.take k).filter p).map f,⟨λ_ _=>rfl,Fo⟩,λk x l m s h=>?_,λl m h=>?_⟩
 ·obtain⟨t,rfl⟩:=h;have n:x∈ts:=aU s;obtain⟨a,b,rfl⟩:=u x n;refine⟨a,b,Fo,?_⟩;show g ((l.set 0 (.val a)).set 1 (.val b)) _;rw[t a b];refine v a b _ n ?_;have e:ts.take (k+1)=ts.take k++[.tuple [a,b]]:=by rw[cS,s];rfl
  cases r:p (.tuple [a,b])with
  |true=>
   rw[a7 rfl];refine z a b _ n ⟨λx y=>yC _ _ _ _ _,?_⟩;rw[e,fC,bA];simp[r]
  |false=>
   rw[a6 Fk];refine⟨λx y=>yC _ _ _ _ _,?_⟩;rw[e,fC,bA];simp[r]
 ·obtain⟨_,rfl⟩:=h;rw[dA];exact w
end
section
variable{X:Cx}
def Ms:wH X s (λ_ _=>False):=⟨λ_ _ _=>False,λ_ _ _ _ _ _ h=>h.elim,λ_ _ _ _ _ _ _ _ _ h _=>h.elim⟩
end
end TL
namespace L2
open PySem.Builtin
section
variable{X:Cx}{e:Expr}
def BK(r:Addr)(j:Int)(h:Heap):Prop:=∃t u v,IsRange h r 0 j 1 t u v
def pX:kO X (.type "range") (λc H Q=>∃j:Int,c=[.int j]/\∀r,H r=none->Q (.ref r) (gG H r (.ext (BK r j)))):=by
 intro a s l H c i Q I r h;obtain⟨j,rfl,q⟩:=h;obtain⟨u,rfl,d⟩:=oC r;obtain⟨t,rfl⟩:=d;refine call_range_1 ⟨.ref s.heap.objs.size,_,I.laid (t':=s.toks+1+1) (o:=.ext (BK s.heap.objs.size j)) (λb u e=>aJ _ e) (aN _) ?_,Fo,q _ (I.hok.fresh (aN _))⟩;exact⟨⟨_,_,_,aV _ Fo⟩,⟨_,aV _ Fo⟩,λf g ⟨t,u,v,z⟩ k=>⟨t,u,v,k _ z⟩⟩
theorem HK:∀(n a:Nat)(b:List Value),b.length=n->(∀(j:Nat) v,b[j]?=some v->∃t,v=.int ((a+j:Nat):Int) t)->gM ((OO a n).map λ(k:Nat)=>V.int (k:Int)) b
|0,_,b,hl,_=>by rw[hX.mp hl];exact .nil
|n+1,a,b,hl,h=>by
 match b,hl with
 |u::b,hl=>
  rw[XB,bE];obtain⟨t,d⟩:=h 0 u Fo;refine .cons ⟨t,by rw[d];rfl⟩ (HK n (a+1) b (by simpa using hl) λj v f=>?_);obtain⟨g,c⟩:=h (j+1) v (by simpa using f);exact⟨g,by rw[c];congr 2;lia⟩
theorem N1:∀{ns:List Int}{us},gM (ns.map V.int) us->IntsAre us ns
|[],_,r=>by rw[lV]at r;cases r;exact .nil
|n::ns,us,r=>by
 rw[bE]at r
 cases r with
 |cons a b=>
  obtain⟨t,rfl⟩:=a;exact .cons n t (N1 b)
theorem NR:∀{ns:List Int}{us},IntsAre us ns->gM (ns.map V.int) us
|_,_,.nil=>.nil
|_,_,.cons n t r=>.cons ⟨t,Fo⟩ (NR r)
end
end L2
namespace TL
open L2
section
theorem II{K}:∀l:List Nat,Reps K H (l.map λ(k:Nat)=>aQ (k:Int)) (l.map λ(k:Nat)=>V.int (k:Int))
|[]=>.nil
|k::l=>.cons (.int _) (II l)
theorem NE{K}:∀l:List Int,Reps K H (l.map aQ) (l.map V.int)
|[]=>.nil
|k::l=>.cons (.int _) (NE l)
def EN:d2 "sorted"=some (.builtin "sorted"):=by decide +kernel
def xL:d2 "range"=some (.type "range"):=by decide +kernel
end
section
variable{X:Cx}{e:Expr}{a:ET}{pos:Pos}
def X1{i:Nat}(b:X.N.Nodup)(f:X.N[i]?=some x)(g:OI X.env.scope x)(c:iK X e a)(hs:jH e (some (.Name x pos')) pos.line X.env=pure false:=by rfl)(d:X.fn x=true\/X.env.scope.names.lookup x=some .local:=by first | exact .inl Fo | exact .inr Fo | assumption) :
  wH X (.Assign [.Name x pos'] e pos) (FL i a):=R5 c λh=>yE b f g h hs d
end
noncomputable def vS(s:Stmt)(j:Nat):Stmt:=match s with
|.ClassDef _ _ _ b _ _ _ _ _ _ _=>b.getD j (.Pass ⟨0,0,0,0⟩)
|_=>.Pass ⟨0,0,0,0⟩
noncomputable def LQ(C:Addr)(ns:List Str)(a:List D):D:=.dict [(.str "obj",.tuple [.int (C:Nat),.list (ns.map aW),.list a])]
theorem HR:∀{b c:List Str},b.map aW=c.map aW->b=c
|[],[],_=>rfl
|[],_::_,h=>by cases h
|_::_,[],h=>by cases h
|x::b,y::c,h=>by
 rw[bE,bE]at h;injection h with a d
 injection a with a
 rw[a,HR d]
def NF{K}{H:Hp}{C:Addr}(r:iN K H (LQ C ns ds) v):∃(p b:Addr)(fs:List (Str×V)),v=.ref p/\H p=some (.ins C b fs)/\fs.map (·.1)=ns/\Reps K H ds (fs.map (·.2)):=by
 unfold LQ at r
 generalize a:(KF [(.str "obj",.tuple [.int (C:Nat),.list (ns.map aW),.list ds])])=d at r
 cases r with
 |@ins p C' b fs ds' h1 h2=>
  injection a with a
  injection a with a _
  injection a with _ a
  injection a with a
  injection a with c a
  injection a with e a
  injection a with f _
  injection c with c
  injection e with e
  injection f with f
  obtain rfl:C=C':=sV.inj c;subst f;exact⟨p,b,fs,Fo,h1,(HR e).symm,h2⟩
 |@dct p es ep kvs h1 h2 h3 h4=>
  injection a with a
  injection a with a _
  injection a with a _
  injection a with a
  exact a9 a Fj
 |addr z=>
  injection a with a
  injection a with a _
  injection a with a _
  injection a with a
  exact a9 a Fj
 |_=>cases a
theorem BY{K}:∀{fs:List (Str×V)}{ds},Reps K H ds (fs.map (·.2))->((fs.map (·.1)).zip ds).lookup f=some x->∃v,fs.lookup f=some v/\iN K H x v
|[],_,_,h=>by cases h
| (g,u)::fs,ds,r,h=>by
 cases r with
 |@cons t ts _ _ r1 r2=>
  show∃v,(match f==g with | true=>some u | false=>fs.lookup f)=some v/\_;have a:(match f==g with | true=>some t | false=>((fs.map (·.1)).zip ts).lookup f)=some x:=h
  cases b:f==g with
  |true=>
   rw[b]at a;cases a;exact⟨u,Fo,r1⟩
  |false=>
   rw[b]at a;exact BY r2 a
theorem zN:∀{fs:List (Str×V)},f∉fs.map (·.1)->fs.lookup f=none
|[],_=>rfl
| (g,u)::fs,h=>by
 have a:(f==g)=false:=beq_eq_false_iff_ne.mpr λz=>h (by rw[z];exact aS ..);show(match f==g with | true=>some u | false=>fs.lookup f)=none;rw[a];exact zN λz=>h (aO _ z)
section
variable{X:Cx}{o e:Expr}{g:List Expr}{c:ET}{pos b:Pos}
def Oe(K:aM)(f:Str)(c:ET):ET:=λh Q=>c h λd=>∃(C:Addr)(ns:List Str)(a:List D)(x:D),d=LQ C ns a/\RE K C/\nE K C f/\(ns.zip a).lookup f=some x/\Q x
def yS{K}(t:X.K=K)(A:iK X e c)(u:v4 e f X.env (eval e X.env)=eval e X.env:=by rfl):iK X (.Attribute e f pos) (Oe K f c):=by
 subst t;obtain⟨v,p,r⟩:=A;refine⟨_,Zo p u,λB G H I j M Q N o h k=>r B G H I j M _ _ o h λd x l L J q1=>?_⟩;obtain⟨C,ns,O,y,rfl,z,F,E,q⟩:=q1;obtain⟨a,m,fs,rfl,n,rfl,s⟩:=NF J;obtain⟨w,hw,i⟩:=BY s E;exact⟨a,C,m,fs,w,Fo,bZ _ _ n,z,F,hw,k _ _ l L i q⟩
def Zg(C:Addr)(m:Str)(i:kQ)(c:ET)(t:AT):ET:=λa Q=>c a λd=>∃(ns:List Str)(h:List D),d=LQ C ns h/\m∉ns/\t a λf=>i (d::f) Q
def xG{C:Addr}(G:iK X o c)(F:wI X (e::g) t)
  (L:∀{v ta},PE X o v->PA X (e::g) ta->PE X (.Call (.Attribute o m b) (e::g) [] pos) (Mu C m (cG X.K sp) [] E0 v ta)):iK X (.Call (.Attribute o m b) (e::g) [] pos) (Zg C m sp c t):=by
 obtain⟨v,M,re⟩:=G;obtain⟨Y,J,S⟩:=F;refine⟨_,L M J,λB n H i f q Q w o h k=>re B n H i f q _ _ o h λd x s j p q1=>?_⟩;obtain⟨ns,z,rfl,I,q1⟩:=q1;obtain⟨a,A,fs,rfl,E,rfl,W⟩:=NF p;refine⟨a,A,fs,Fo,bZ _ _ E,zN I,S B n s i f q _ _ (o.grow j) q1 λy U u l R O=>?_⟩;show cG X.K sp (.ref a::(U++[])) u w E0;rw[fR];exact⟨i,LQ C (fs.map (·.1)) z::y,Q,((o.grow j).grow l).live,.cons (p.same (cE l)) R,O,λd v r T P N=>k d v r (j.trans (l.trans T)) P N⟩
end
end TL
namespace L2
noncomputable instance decD:DecidableEq m7:=λ_ _=>Classical.propDecidable _
mutual
def hk:m7->Bool
|.none=>true
|.int _=>true
|.str x=>(aW x).canLay0
|.tuple xs=>hkAll xs
|.bool _=>false
|.list _=>false
|.dict _=>false
def hkAll:List m7->Bool
|[]=>true
|x::xs=>hk x&&hkAll xs
end
mutual
def mP(w:c7):m7->Int
|.none=>0xFCA86420
|.int i=>cz i
|.str x=>hashStr w x
|.tuple xs=>tj (g6 (hashDs w xs))
|.bool _=>0
|.list _=>0
|.dict _=>0
def hashDs(w:c7):List m7->List Int
|[]=>[]
|x::xs=>mP w x::hashDs w xs
end
mutual
def pH:m7->Nat
|.tuple xs=>hdrawsAll xs+1
|.none=>1
|.int _=>1
|.str _=>1
|.bool _=>1
|.list _=>1
|.dict _=>1
def hdrawsAll:List m7->Nat
|[]=>0
|x::xs=>pH x+hdrawsAll xs
end
section
variable{prog:cM}{w:c7}{A:d1}{E:Value->Shared->Prop}{s:Shared}
def K1{Q:Int->Shared->Prop}(h:Q 0xFCA86420 { s with toks:=s.toks+1 }):wpAny (model prog w) A (pyHash .none) Q E s:=by
 have a:s.TypeIs .none "NoneType":=rfl;unfold pyHash pyHashByItsType;refine aB (wpAny_cRoomFor_byValue Fo ?_);refine aB (v0 a lI.lookup ?_);show wpAny _ _ (if(some (ah "NoneType.__hash__")==some d9)=true then _ else _) Q E s;rw[a6 (by rw[beq_builtin_none];exact bN)];refine aB (v0 a lI.lookup ?_);show wpAny _ _ (fm .none "__hash__" _ >>= _) Q E s;refine aB (ci a lI (dL lI a PySem.F.entry_NoneType_hash (show wpAny _ _ (do ret (<- mkInt 0xFCA86420)) _ _ s from gb ?_) (PySem.F.args_NoneType_hash_1 _)));show wpAny _ _ (if(decide (-(2:Int)^63<=0xFCA86420)&&decide ((0xFCA86420:Int)<2^63))=true then _ else _) Q E _;rw[a7 Fk];exact aG h
def yZ(prog:cM)(w:c7)(A:d1)(s:Shared)(d:m7)(v:Value):Prop:=∀(a:Nat)E(Q:Int->Shared->Prop),Q (mP w d) { s with toks:=a+pH d }->wpAny (model prog w) A (pyHash v) Q E { s with toks:=a }
def VF{a:Addr}{o:Obj}{g:Array Value}{n:Nat}(C:A.units<u7)(t:s.heap.get? a=some o)(z:o.cls=.type "tuple")(hd:o.data=.seq g n)(B:Paired (yZ prog w A.in1 s) xs g.toList):yZ prog w A s (.tuple xs) (.ref a):=by
 intro j E Q h;have k:l5 { s with toks:=j } (.ref a) "tuple":=⟨o,t,z⟩;unfold pyHash
 first | unfold pyHashByItsType | skip
 refine aB (wpAny_cRoomFor_or (.inr C) ?_);refine aB (v0 k mQ.lookup ?_);show wpAny _ _ (if(some (ah "tuple.__hash__")==some d9)=true then _ else _) Q E _;rw[a6 (by rw[beq_builtin_none];exact bN)];refine aB (v0 k mQ.lookup ?_);show wpAny _ _ (fm (.ref a) "__hash__" _ >>= _) Q E _;refine aB (ci k mQ (dL mQ k PySem.F.entry_tuple_hash ?_ (PySem.F.args_tuple_hash_1 _)));show wpAny _ _ (ag (.ref a) >>= _) _ _ _;refine aB (wpAny_tupleItemsOf t hd ?_);refine aB ?_;rw[<- pU];refine fg _ (λjM (b:Array Int) r=>∃done left:List m7,xs=done++left/\Paired (yZ prog w A.in1 s) left jM/\b.toList=hashDs w done/\r={ s with toks:=j+hdrawsAll done }) _ ?_ ?_ _ _ ⟨[],xs,Fo,B,Fo,Fo⟩
 ·rintro x jM b r ⟨done,left,rfl,p,m,rfl⟩
  cases p with
  |@cons d _ left' _ h1 yi=>
   have u:∀f:List m7,hashDs w (f++[d])=hashDs w f++[mP w d]:=λf=>by
    induction f with
    |nil=>rfl
    |cons y f q=>show mP w y::hashDs w (f++[d])=_;rw[q];rfl
   have v:∀f:List m7,hdrawsAll (f++[d])=hdrawsAll f+pH d:=λf=>by
    induction f with
    |nil=>show pH d+0=0+pH d;lia
    |cons y f q=>show pH y+hdrawsAll (f++[d])=pH y+hdrawsAll f+pH d;rw[q];lia
   have fin:∃c e:List m7,done++d::left'=c++e/\Paired (yZ prog w A.in1 s) e jM/\(b.push (mP w d)).toList=hashDs w c/\({ s with toks:=j+hdrawsAll done+pH d }:Shared)={ s with toks:=j+hdrawsAll c }:=
    ⟨done++[d],left',Fm,yi,by rw[u,zC,m],by rw[v,J9]⟩
   refine aB (h1 _ _ _ ?_)
   first
    |exact aG fin
    |exact aB (aG (aG fin))
 ·rintro b r ⟨done,left,rfl,p,m,rfl⟩;cases p;rw[fR]at h;show wpAny _ _ (retInt (g6 b.toList)) _ _ _;rw[m];refine gb ?_;have i:Q (tj (g6 (hashDs w done))) { s with toks:=j+(hdrawsAll done+1) }:=h;show wpAny _ _ (if(decide (-(2:Int)^63<=g6 (hashDs w done))&&decide (g6 (hashDs w done)<2^63))=true then _ else _) Q E _;unfold tj at i;by_cases l:(decide (-(2:Int)^63<=g6 (hashDs w done))&&decide (g6 (hashDs w done)<2^63))=true
  ·rw[a7 l];rw[a7 l]at i;exact aG (by simpa[J9]using i)
  ·rw[a6 l];rw[a6 l]at i;exact aB (n8 (aG (by simpa[J9]using i)))
mutual
theorem B5(prog:cM)(w:c7)(s:Shared):∀(d:m7)(A:d1)(v:Value)as,Reads s.heap v d as->hk d=true->A.units+d.depth<u7->yZ prog w A s d v
|.none,A,_,_,r,_,_=>by cases r;exactλa E Q h=>K1 h
|.int i,A,_,_,r,_,_=>by cases r;exactλa E Q h=>wpAny_pyHash_int h
|.str x,A,_,_,r,_,_=>by cases r;exactλa E Q h=>wpAny_pyHash_str h
|.tuple xs,A,_,_,r,h,hu=>by
 cases r with
 |tuple b c e f=>
  have g:A.units+(dM xs+1)<u7:=hu;exact VF Fl b c e (hash_readsAll prog w s xs A.in1 _ _ f h (by show A.units+1+_<_;lia))
|.bool _,_,_,_,_,h,_=>by cases h
|.list _,_,_,_,_,h,_=>by cases h
|.dict _,_,_,_,_,h,_=>by cases h
theorem hash_readsAll(prog:cM)(w:c7)(s:Shared):∀(a:List m7)(A:d1)(vs:List Value)as,ReadsAll s.heap vs a as->hkAll a=true->A.units+dM a<u7->Paired (yZ prog w A s) a vs
|[],A,_,_,r,_,_=>by cases r;exact .nil
|x::a,A,_,_,r,h,hu=>by
 cases r with
 |cons d e=>
  have b:(hk x&&hkAll a)=true:=h;rw[dN]at b;have c:A.units+max x.depth (dM a)<u7:=hu;exact .cons (B5 prog w s x A _ _ d b.1 Fl) (hash_readsAll prog w s a A _ _ e b.2 Fl)
end
mutual
theorem vU:∀{d:m7},hk d=true->d.canLay0=true
|.none,_=>rfl
|.int _,_=>rfl
|.str _,h=>h
|.tuple _,h=>hk_layAll h
|.bool _,h=>by cases h
|.list _,h=>by cases h
|.dict _,h=>by cases h
theorem hk_layAll:∀{a:List m7},hkAll a=true->dP a=true
|[],_=>rfl
|x::a,h=>by
 have b:(hk x&&hkAll a)=true:=h;rw[dN]at b;show(x.canLay0&&dP a)=true;rw[vU b.1,hk_layAll b.2];rfl
end
mutual
theorem VC:∀{d e:m7},hk d=true->hk e=true->dW d e=true->d=e
|.none,.none,_,_,_=>rfl
|.none,.int _,_,_,h=>by cases h
|.none,.str _,_,_,h=>by cases h
|.none,.tuple _,_,_,h=>by cases h
|.int _,.none,_,_,h=>by cases h
|.int i,.int j,_,_,h=>by
 have a:decide (i=j)=true:=by simpa[dW]using h
 rw[b8 a]
|.int _,.str _,_,_,h=>by cases h
|.int _,.tuple _,_,_,h=>by cases h
|.str _,.none,_,_,h=>by cases h
|.str _,.int _,_,_,h=>by cases h
|.str x,.str y,_,_,h=>by
 have a:decide (x=y)=true:=by simpa[dW]using h
 rw[b8 a]
|.str _,.tuple _,_,_,h=>by cases h
|.tuple _,.none,_,_,h=>by cases h
|.tuple _,.int _,_,_,h=>by cases h
|.tuple _,.str _,_,_,h=>by cases h
|.tuple xs,.tuple ys,h1,h2,h=>by
 have a:wE xs ys=true:=by simpa[dW]using h
 rw[hk_eqvAll h1 h2 a]
|.bool _,_,h,_,_=>by cases h
|.list _,_,h,_,_=>by cases h
|.dict _,_,h,_,_=>by cases h
|_,.bool _,_,h,_=>by cases h
|_,.list _,_,h,_=>by cases h
|_,.dict _,_,h,_=>by cases h
theorem hk_eqvAll:∀{a b:List m7},hkAll a=true->hkAll b=true->wE a b=true->a=b
|[],[],_,_,_=>rfl
|[],_::_,_,_,h=>by cases h
|_::_,[],_,_,h=>by cases h
|x::a,y::b,h1,h2,h=>by
 have a1:(hk x&&hkAll a)=true:=h1;have a2:(hk y&&hkAll b)=true:=h2;rw[dN]at a1 a2;have c:(dW x y&&wE a b)=true:=by simpa[wE]using h
 rw[dN]at c;rw[VC a1.1 a2.1 c.1,hk_eqvAll a1.2 a2.2 c.2]
end
def QE(a:hk d=true)(b:hk e=true):dW d e=decide (d=e):=by
 by_cases h:d=e
 ·subst h;rw[SeqAt.eqv_refl d (vU a),a8 rfl]
 ·rw[c4 h]
  cases q:dW d e with
  |false=>rfl
  |true=>exact a9 (VC a b q) h
mutual
theorem zG(prog:cM)(w:c7)(s:Shared):∀(d:m7)A E(v:Value)as(n:Nat)(Q:Bool->Shared->Prop),Reads s.heap v d as->hk d=true->d.depth<=n->Q true s->wpAny (model prog w) A (iw n v) Q E s
|.none,A,E,_,_,n,Q,r,_,_,q=>by cases r;rw[dz n rfl];exact aG q
|.int i,A,E,_,_,n,Q,r,_,_,q=>by cases r;rw[dz n rfl];exact aG q
|.str x,A,E,_,_,n,Q,r,_,_,q=>by cases r;rw[dz n rfl];exact aG q
|.tuple xs,A,E,_,_,0,Q,r,_,hn,q=>by
 have:dM xs+1<=0:=hn;lia
|.tuple xs,A,E,_,_,n+1,Q,r,h,hn,q=>by
 cases r with
 |@tuple a o vs m _ _ h1 h2 h3 h4=>
  have g:s.TypeIs (.ref a) "tuple":=⟨o,h1,h2⟩;have k:dM xs+1<=n+1:=hn;unfold iw;refine aB (v0 g PySem.F.slot_tuple_eq.lookup ?_);show wpAny _ _ (isInstance (.ref a) (.type "tuple") >>= _) _ _ s;refine aB (y4 g isSubtype_tuple_tuple ?_);simp only[xU,eH,h7];refine aB (cx h1 h3 ?_);refine aB ?_;show wpAny _ _ (qz vs _ _) _ _ s;rw[<- pU];refine fg _ (λjM r f=>r.1=none/\f=s/\∀v∈jM,∀(Q:Bool->Shared->Prop),Q true s->wpAny (model prog w) A (iw n v) Q E s) _ ?_ ?_ _ _ ⟨Fo,Fo,λv l Q j=>quiet_readsAll prog w s xs A E _ _ n Q h4 h Fl v l j⟩
  ·rintro v jM r f ⟨c,rfl,b⟩;refine aB (b v aS _ ?_);simp only[xU,eH,h7];exact aG ⟨Fo,Fo,λu e=>b u (aO _ e)⟩
  ·rintro⟨r1,r2⟩ f ⟨c,rfl,_⟩;simp only at c;subst c;exact aG q
|.bool _,_,_,_,_,_,_,_,h,_,_=>by cases h
|.list _,_,_,_,_,_,_,_,h,_,_=>by cases h
|.dict _,_,_,_,_,_,_,_,h,_,_=>by cases h
theorem quiet_readsAll(prog:cM)(w:c7)(s:Shared):∀(a:List m7)A E(vs:List Value)as(n:Nat)(Q:Bool->Shared->Prop),ReadsAll s.heap vs a as->hkAll a=true->dM a<=n->∀v∈vs,Q true s->wpAny (model prog w) A (iw n v) Q E s
|[],A,E,_,_,n,Q,r,_,_,v,hv,_=>by cases r;cases hv
|x::a,A,E,_,_,n,Q,r,h,hn,v,hv,q=>by
 cases r with
 |cons d e=>
  have b:(hk x&&hkAll a)=true:=h;rw[dN]at b;have c:max x.depth (dM a)<=n:=hn;rcases aY.mp hv with rfl | hv
  ·exact zG prog w s x A E _ _ n Q d b.1 Fl q
  ·exact quiet_readsAll prog w s a A E _ _ n Q e b.2 Fl v hv q
end
mutual
theorem BN{h e:Heap}(a:∀(b:Addr)(o:Obj)(vs:Array Value)(n:Nat),h.get? b=some o->o.data=.seq vs n->e.get? b=some o):∀{d:m7}{v:Value}{c:List Addr},Reads h v d c->hk d=true->Reads e v d c
|.none,_,_,r,_=>by cases r;exact .none
|.int i,_,_,r,_=>by cases r;exact .int i _
|.str x,_,_,r,_=>by cases r;exact .str x _
|.tuple xs,_,_,r,hh=>by
 cases r with
 |tuple g j f k=>exact .tuple (a _ _ _ _ g f) j f (reads_stayAll a k hh)
|.bool _,_,_,_,hh=>by cases hh
|.list _,_,_,_,hh=>by cases hh
|.dict _,_,_,_,hh=>by cases hh
theorem reads_stayAll{h f:Heap}(c:∀(b:Addr)(o:Obj)(vs:Array Value)(n:Nat),h.get? b=some o->o.data=.seq vs n->f.get? b=some o):∀{d:List m7}{vs:List Value}{e:List Addr},ReadsAll h vs d e->hkAll d=true->ReadsAll f vs d e
|[],_,_,r,_=>by cases r;exact .nil
|x::d,_,_,r,hh=>by
 cases r with
 |cons g i=>
  have a:(hk x&&hkAll d)=true:=hh;rw[dN]at a;exact .cons (BN c g a.1) (reads_stayAll c i a.2)
end
end
def pW(prog:cM)(w:c7):HeapKind prog w m7 where
 is:=λh k a=>hk k=true/\k.depth<=8/\∃as,Reads h (.ref a) k as
 hash:=mP w
 draws:=pH
 room:=λA=>A.units+8<u7
 inj:=λ⟨h1,_,as,r1⟩ ⟨_,_,bs,r2⟩=>SeqAt.Reads.unique _ _ _ _ _ (vU h1) r1 r2
 keeps:=λ⟨h1,h2,as,r⟩ ho hd hs=>⟨h1,h2,as,BN (λb o vs n e ed=>(hs.2 b (λz=>by
  subst z;rw[ho]at e;cases e;rw[hd]at ed;cases ed)).trans e) r h1⟩
 pyHash:=λ{A E s k a Q} hu ⟨h1,h2,as,r⟩ h=>B5 prog w s k A _ _ r h1 Fl s.toks E Q h
 eqBool:=λ{A E s x y a b Q} hu ⟨h1,h2,as,r⟩ ⟨g1,g2,bs,r'⟩ h=>SeqAt.eqAt_reads x y A s _ _ _ _ r r' (vU h1) (vU g1) Fl prog w E Q (by rw[QE h1 g1];exact h)
 quiet:=λ{A E s k a Q} ⟨h1,h2,as,r⟩ h=>zG prog w s k A E _ _ 8 Q r h1 h2 h
section
variable{X:Cx}{a:List (Addr×Obj)}{b:St}{H:Hp}{s:Shared}
def eG.big(I:eG X a b H s):m8<s.heap.objs.size:=by
 have h:iP<s.heap.objs.size:=(I.mod.glob.keeps I.bk).lt;exact MS Fk h
end
def Go(i:Expr):Prop:=∀b a,fq i false b a=operate [b,a] (bw b a)
def XO{E:Value->Shared->Prop}{id}{Q:Value->Shared->Prop}
  (j:typeLookup (.type T) "__getitem__"=pure (some (.builtin id))) (hs:Go slice)
  (h:wpAny (model prog w) A (eval value env) (λo c=>wpAny (model prog w) A (eval slice env) (λi a=>a.TypeIs o T/\wpAny (model prog w) A (bw o i) Q E a) E c) E s) :
  wpAny (model prog w) A (eval (.Subscript value slice pos) env) Q E s:=by
 refine su (gO h (λo c e=>gO e (λi a b=>?_) λ_ _ x=>x) λ_ _ x=>x);obtain⟨g,b⟩:=b;unfold ip;refine aB ?_;rw[getitemInPython_of_ne g.not_modules];refine aB (v0 g j ?_)
 have fin:wpAny (model prog w) A (fq slice false o i) (λr d=>wpAny (model prog w) A (letTemporaryGo value o r >>= λ_=>pure r) Q E d) E a:=by
  rw[hs o i];exact wpAny_operating (gO b (λr d f=>aB (wpAny_letTemporaryGo (aG f))) λ_ _ x=>x)
 first
  |exact aG (aB fin)
  |exact aB (aG (aB fin))
  |exact aB fin
open TL
def jX(k:D):Prop:=hk k=true/\k.depth<=8
structure DK(K:aM)(w:c7)(H:Hp)(es:List (Int×Addr×V))(ks:List D):Prop where
 rep:Reps K H ks (es.map λe=>.ref e.2.1)
 nd:ks.Nodup
 ok:∀k∈ks,jX k
 hs:es.map (·.1)=ks.map (mP w)
theorem DK.same{K}(x:DK K w H es ks)(e:bR H H'):DK K w H' es ks:=⟨x.rep.same e,x.nd,x.ok,x.hs⟩
section
variable{X:Cx}{f:List (Addr×Obj)}{g:St}{H:Hp}{s:Shared}{p a:Addr}{c:List (Int×Addr×V)}{ks:List D}{k:D}
def yO(I:eG X f g H s)(r:iN X.K H k (.ref a))(ok:jX k):(pW X.prog X.w).is s.heap k a:=by
 obtain⟨b,h⟩:=iN.reads I (mZ (vU ok.1)) r (u:=.ref a) Fo;exact⟨ok.1,ok.2,b,h⟩
theorem NZ(I:eG X f g H s):∀{ks}{as:List Addr},Reps X.K H ks (as.map V.ref)->(∀k∈ks,jX k)->Paired (λk a=>(pW X.prog X.w).is s.heap k a) ks as
|[],[],_,_=>.nil
|[],_::_,r,_=>by cases r
|_::_,[],r,_=>by cases r
|k::ks,a::as,r,h=>by
 cases r with
 |cons d e=>exact .cons (yO I d (h k (aS ..))) (NZ I e λz b=>h z (aO _ b))
abbrev EX(c:List (Int×Addr×V))(ks:List D)(b:List (D×Addr×Value)):Prop:=b.map (·.1)=ks/\Paired (λ(e:Int×Addr×V) (x:D×Addr×Value)=>x.2.1=e.2.1/\iJ e.2.2 x.2.2) c b
theorem Kw(w:c7)(prog:cM):∀{c:List (Int×Addr×V)}{ks:List D}{ds},Paired MO c ds->c.map (·.1)=ks.map (mP w)->∃i,EX c ks i/\ds=i.map (sw (pW prog w))
|[],[],_,.nil,_=>⟨[],⟨Fo,.nil⟩,Fo⟩
|[],_::_,_,_,h=>by simp at h
|_::_,[],_,_,h=>by simp at h
|e::c,k::ks,_,.cons (b:=d) r t,h=>by
 rw[bE,bE]at h;injection h with j l
 obtain⟨i,⟨o,q⟩,u⟩:=Kw w prog t l;refine⟨(k,e.2.1,d.val)::i,⟨by rw[bE,o],.cons ⟨Fo,r.2.2⟩ q⟩,?_⟩;rw[bE,u];congr 1;obtain⟨m,n,v⟩:=r;show d=⟨mP w k,.ref e.2.1,d.val⟩;rw[<- j,<- m,<- n]
theorem N4:∀{c:List (Int×Addr×V)}{b:List (D×Addr×Value)},Paired (λ(e:Int×Addr×V) (x:D×Addr×Value)=>x.2.1=e.2.1/\iJ e.2.2 x.2.2) c b->b.map (λx=>x.2.1)=c.map λe=>e.2.1
|_,_,.nil=>rfl
|_,_,.cons r t=>by rw[bE,bE,r.1,N4 t]
def CV(H:Hp)(p:Addr)(c:List (Int×Addr×V)):Prop:=H p=some (nK p c)\/∃b,H p=some (sB p c b)
def CV.at(I:eG X f g H s)(h:CV H p c):OJ p c s.heap:=by
 rcases h with h | ⟨b,h⟩
 ·exact(I.hok p _ h).1
 ·obtain⟨⟨d,e,o,n,i,j,l,m⟩,_⟩:=I.hok p _ h;exact⟨d,e,o,n,b,i,j,l,m⟩
def CI(I:eG X f g H s)(h:CV H p c)(i:DK X.K X.w H c ks):(p==m8)=false/\c.length<=bO/\∃d,EX c ks d/\s.heap.DictOfH (pW X.prog X.w) p d:=by
 obtain⟨u,v,o,n,q,z,A,B,C⟩:=CV.at I h;obtain⟨d,b,m⟩:=Kw X.w X.prog C i.hs;refine⟨u,v,d,b,o,n,q,z,A,B,m,?_,by rw[b.1];exact i.nd⟩;have j:=NZ I (as:=c.map λe=>e.2.1) (by rw[bM];exact i.rep) i.ok;have l:=N4 b.2;rw[<- l,<- b.1]at j;clear l m b;intro x hx
 induction d with
 |nil=>cases hx
 |cons y F E=>
  rw[bE,bE]at j
  cases j with
  |cons r t=>
   rcases aY.mp hx with rfl | hx
   ·exact r
   ·exact E t hx
def VS{i:Nat}{e:Int×Addr×V}(ex:EX c ks xs)(nd:ks.Nodup)(b:ks[i]?=some k)(d:c[i]?=some e):∃u,fj xs k=some u/\iJ e.2.2 u.2:=by
 obtain⟨h,n⟩:=ex;have o:c.length=xs.length:=g8 n;have l:i<xs.length:=by rw[<- o];exact(aE.mp d).1
 have q:xs[i]?=some xs[i]:=aD l
 have m:xs[i].1=k:=by
  have:(xs.map (·.1))[i]?=some k:=by rw[h];exact b
  rw[aI,q]at this;exact c5 this
 refine⟨xs[i].2,atKey_of_get (by rw[h];exact nd) (i:=i) (by rw[q,<- m]),?_⟩;clear b nd h m
 induction n generalizing i with
 |nil=>simp at l
 |cons r t v=>
  cases i with
  |zero=>simp at d;subst d;exact r.2
  |succ j=>exact v (i:=j) (by simpa using d) (by simpa using o) (by simpa using l) (aD _)
def Sr(K:aM)(w:c7):R2:=λx y H Q=>∃(p:Addr)(c:List (Int×Addr×V))(ks:List D)(k:D)(i:Nat)(e:Int×Addr×V),x=.ref p/\CV H p c/\DK K w H c ks/\iN K H k y/\jX k/\ks[i]?=some k/\c[i]?=some e/\Q e.2.2 H
def AK(I:eG X f g H s)(h:CV H p c):s.TypeIs (.ref p) "dict":=by
 obtain⟨_,_,o,e,i,b,d,_⟩:=CV.at I h;exact⟨o,b,d.1⟩
def oH{K}(r:iN K H (.tuple xs) v):∃a,v=.ref a:=by cases r;exact⟨_,Fo⟩
end
section
variable{X:Cx}{o i:Expr}{pos:Pos}{c ty:TE}
def TF(hu:X.A.units+9<u7)(E:PE X o c)(C:PE X i ty)(hs:Go i):PE X (.Subscript o i pos) (λf H Q=>c f H λx l=>ty f l λy m=>(∃a,y=.ref a)/\Sr X.K X.w x y m Q):=by
 intro d s f H Q I h;refine XO PySem.F.slot_dict_getitem.lookup hs (jR (E d s f H _ I h) λu O ⟨x,l,r,M,q1⟩=>jR (C d O f l _ r q1) λG s2 U=>?_);obtain⟨y,m,g,N,⟨b,B⟩,p,W,ks,k,j,e,ex,q,n,L,ok,t,z,J⟩:=U;subst ex B;obtain rfl:u=c9 p:=M;obtain rfl:G=c9 b:=N;obtain⟨Y,Z,xs,S,T⟩:=CI g q n;obtain⟨v,P,R⟩:=VS S n.nd t z;exact⟨AK g q,wpAny_getItem_heap (show X.A.units+1+8<u7 by lia) (yO g L ok) T P ⟨_,m,g.tok _,R,J⟩⟩
def FO:List (Int×Addr×V)->List D->D->V->List (Int×Addr×V)
|e::es,k'::ks,k,v=>(if k'=k then(e.1,e.2.1,v)else e)::FO es ks k v
|_,_,_,_=>[]
def sU(w:c7)(b:List (Int×Addr×V))(ks:List D)(k:D)(a:Addr)(v:V):List (Int×Addr×V):=if k∈ks then FO b ks k v else b++[(mP w k,a,v)]
def zH(ks:List D)(k:D):List D:=if k∈ks then ks else ks++[k]
end
section
variable{w:c7}{prog:cM}{es:List (Int×Addr×V)}{ks:List D}{xs:List (D×Addr×Value)}{k:D}{a:Addr}{v:V}{u:Value}
theorem VZ:∀{es:List (Int×Addr×V)}{ks:List D}{xs:List (D×Addr×Value)},EX es ks xs->es.map (·.1)=ks.map (mP w)->Paired MO es (xs.map (sw (pW prog w)))
|[],_,_,⟨_,.nil⟩,_=>.nil
|e::es,[],x::xs,⟨h,_⟩,_=>by simp at h
|e::es,k::ks,x::xs,⟨h,.cons r t⟩,g=>by
 rw[bE]at h;injection h with d f
 rw[bE,bE]at g;injection g with b c
 refine .cons ⟨?_,?_,r.2⟩ (VZ ⟨f,t⟩ c)
 ·show mP w x.1=e.1;rw[d,b]
 ·show c9 x.2.1=c9 e.2.1;rw[r.1]
theorem SI:∀{es ks}{xs:List (D×Addr×Value)}(k:D),EX es ks xs->iJ v u->EX (FO es ks k v) ks (xs.map (putAt k u))
|[],ks,[],k,⟨h,.nil⟩,_=>⟨by rw[<- h];rfl,by cases ks<;>exact .nil⟩
|e::es,[],x::xs,k,⟨h,_⟩,_=>by simp at h
|e::es,k'::ks,x::xs,k,⟨h,.cons r t⟩,rv=>by
 rw[bE]at h;injection h with c d
 obtain⟨g,f⟩:=SI (es:=es) (ks:=ks) (xs:=xs) k ⟨d,t⟩ rv;unfold FO putAt;rw[bE];refine⟨?_,.cons ?_ ?_⟩
 ·rw[bE];congr 1;split<;>exact c
 ·by_cases b:k'=k
  ·rw[a7 b,a7 (c.trans b)];exact⟨r.1,rv⟩
  ·rw[a6 b,a6 (λz=>b (c.symm.trans z))];exact r
 ·exact f
def VQ(ex:EX es ks xs)(f:iJ v u):EX (sU w es ks k a v) (zH ks k) (storedH xs k a u):=by
 have c:(fj xs k).isSome=true↔k∈ks:=by
  rw[<- ex.1];unfold fj;rw[xW,zU,aR];exact⟨λ⟨x,d,e⟩=>⟨x,d,b8 e⟩,λ⟨x,d,e⟩=>⟨x,d,a8 e⟩⟩
 unfold sU zH storedH;by_cases b:k∈ks
 ·rw[a7 b,a7 b,a7 (c.mpr b)];exact SI k ex f
 ·rw[a6 b,a6 b,a6 (λz=>b (c.mp z))];refine⟨by rw[bA,ex.1];rfl,Paired.snoc ex.2 ⟨Fo,f⟩⟩
theorem BM:∀{es:List (Int×Addr×V)}{ks:List D}(k:D),es.length=ks.length->(FO es ks k v).map (·.1)=es.map (·.1)/\(FO es ks k v).map (λe=>e.2.1)=es.map (λe=>e.2.1)
|[],[],k,_=>⟨Fo,Fo⟩
|[],_::_,k,h=>by simp at h
|_::_,[],k,h=>by simp at h
|e::es,k'::ks,k,h=>by
 obtain⟨b,c⟩:=BM (es:=es) (ks:=ks) k (by simpa using h);unfold FO;refine⟨?_,?_⟩
 ·rw[bE,bE,b];congr 1;split<;>rfl
 ·rw[bE,bE,c];congr 1;split<;>rfl
def DK.len{K}(x:DK K w H es ks):es.length=ks.length:=by
 have:=e8 gC x.hs;simpa using this
def DK.put{K}(x:DK K w H es ks)(r:iN K H k (.ref a))(ok:jX k):DK K w H (sU w es ks k a v) (zH ks k):=by
 unfold sU zH;by_cases d:k∈ks
 ·rw[a7 d,a7 d];obtain⟨f,g⟩:=BM (v:=v) k x.len;refine⟨?_,x.nd,x.ok,f.trans x.hs⟩
  have e:(FO es ks k v).map (λe=>V.ref e.2.1)=es.map λe=>V.ref e.2.1:=by
   have:=e8 (E9 V.ref) g
   rwa [bM,bM]at this
  rw[e];exact x.rep
 ·rw[a6 d,a6 d];refine⟨by rw[bA];exact x.rep.append (.cons r .nil),?_,λz hz=>?_,by rw[bA,bA,x.hs];rfl⟩
  ·rw[rL];exact⟨x.nd,Fm,λc i b h=>by rw[dH.mp h];exactλz=>d (z▸i)⟩
  ·rcases eA.mp hz with hz | hz
   ·exact x.ok z hz
   ·rw[dH.mp hz];exact ok
def IK(h:es.length=ks.length):(sU w es ks k a v).length<=es.length+1:=by
 unfold sU;split
 ·have:=e8 gC (BM (v:=v) k h).1;simp at this;lia
 ·simp
end
section
variable{p:Addr}{c:List (Int×Addr×V)}{ks:List D}
def CH:∀d f:Heap,OJ p c d->(∀o,d.get? p=some o->f.get? p=some o)->OJ p c f:=λd f ⟨a,b,o,h,g,e,r⟩ k=>⟨a,b,o,h,g,k _ e,r⟩
def V5{a:Heap}(hd:(p==m8)=false)(k:c.length<=bO)(ex:EX c ks xs)(j:c.map (·.1)=ks.map (mP w))(d:a.DictOfH (pW P w) p xs):jY P w H' a p (nK p c):=by
 obtain⟨o,e,f,b,g,h,i,_⟩:=d;exact⟨⟨hd,k,o,e,f,b,g,h,by rw[i];exact VZ ex j⟩,⟨o,b⟩,CH⟩
end
section
variable{X:Cx}{o i c:Expr}{pos d:Pos}{f ty tv:TE}
def aC9(K:aM)(w:c7)(f ty tv:TE):TS:=λg e H=>tv e H λv h=>f e h λx j=>ty e j λy H3=>∃(p a:Addr)(b:List (Int×Addr×V))(ks:List D)(k:D),x=.ref p/\y=.ref a/\H3 p=some (nK p b)/\DK K w H3 b ks/\iN K H3 k (.ref a)/\jX k/\b.length<bO/\g.nx e (gG H3 p (nK p (sU w b ks k a v)))
def SX(hu:X.A.units+9<u7)(S:PE X o f)(R:PE X i ty)(U:PE X c tv)(hs:jH c (some (.Subscript o i d)) pos.line X.env=pure false) :
  PS X (.Assign [.Subscript o i d] c pos) (aC9 X.K X.w f ty tv):=by
 intro g s l H D' I h;refine jg (jR (U g s l H _ I h) λr s1 ⟨v,F,J,rv,q1⟩=>jR (S g s1 l F _ J q1) λu s2 ⟨x,G,L,rx,Y⟩=>jR (R g s2 l G _ L Y) λW s3 zq=>?_) hs;obtain⟨y,H3,m,ry,p,a,es,ks,k,ex,M,B,n,C,ok,hl,Z⟩:=zq;subst ex M;obtain rfl:u=c9 p:=rx;obtain rfl:W=c9 a:=ry;obtain⟨O,P,xs,E,x2⟩:=CI m (.inl B) n;refine ud (hsz:=by rw[<- g8 E.2];exact P) (show X.A.units+1+8<u7 by lia) (yO m C ok) x2 λN j t=>⟨l,_,?_,Z⟩;have T:∃q,N.get? p=some q:=let ⟨q,_,_,e,_⟩:=j;⟨q,e⟩
 have:=IK (w:=X.w) (k:=k) (a:=a) (v:=v) n.len;exact m.write (x:=p) (e:=p) (by rw[B];exact i8) (.inl Fo) (λb q Q z=>(t.2 b Q).trans z) T (V5 (ks:=zH ks k) O Fl (VQ E rv) (n.put C ok).hs j)
def aCw:TE:=λ_ H Q=>∀p,H p=none->Q (.ref p) (gG H p (nK p []))
def TB:PE X (.Dict [] [] pos) aCw:=λb s e H Q I h=>
 wpAny_Dict_empty ⟨.ref s.heap.objs.size,_,I.laid (a:=s.heap.objs.size) (o:=nK s.heap.objs.size []) (t':=s.toks) (λ_ _ q=>aJ _ q) (aN _)
  ⟨⟨beq_eq_false_iff_ne.mpr (l6 (bS I.big)),cI _,_,#[],0,aV _ Fo,⟨Fo,Fo,Fo⟩,Fo,.nil⟩,⟨_,aV _ Fo⟩,CH⟩,Fo,h _ (I.hok.fresh (aN _))⟩
end
end L2
namespace TL
open L2
def mB(w:c7)(a:List (D×D)):D:=Gp (a.map λb=>mP w b.1) a
def pR(w:c7)(a:List (D×D)):Sl:=.dic (a.map λb=>mP w b.1) a
def vN(kvs:List (D×D))(k v:D):List (D×D):=if k∈kvs.map (·.1)then kvs.map (λa=>if a.1=k then(a.1,v)else a)else kvs++[(k,v)]
def GV(k:D):Prop:=jX k/\∃a,k=.tuple a
section
variable{K:aM}{H B:Hp}{f c:List Addr}{a m:List Sl}{g:L2.St}{p:Addr}
def Ok.re(o:Ok K B f H c a g)(hl:m.length=a.length)(hv:∀(j:Nat)(d:D),m[j]?=some (.val d)->a[j]?=some (.val d))(ho:∀(j:Nat)(ts:List D),m[j]?=some (.own ts)->a[j]?=some (.own ts))(hd:qA K B f H c m g):Ok K B f H c m g where
 base:=o.base
 sub:=o.sub
 live:=o.live
 len:=hl.trans o.len
 val:=λj d h=>o.val j d (hv j d h)
 own:=λj ts h=>o.own j ts (ho j ts h)
 dis:=λi j ts us q h1 h2 h3 h4=>o.dis i j ts us q (ho i ts h1) (ho j us h2) h3 h4
 dc:=hd
def Ok.poke(o:Ok K B f H c a g){φ:Heap->Prop}(hp:p∈c)(hB:B p=none)(he:H p=some (.ext φ))(hn:∀(j:Nat)(hs:List Int)(kvs:List (D×D)),a[j]?≠some (.dic hs kvs))(hu:U4 u=false:=by rfl):Ok K B f (gG H p u) c a g where
 base:=λb w e=>by
  rw[cN λz=>by rw[z,hB]at e;cases e];exact o.base b w e
 sub:=o.sub
 live:=λq hq=>by
  by_cases e:q=p
  ·subst e;rw[cW];exact⟨_,Fo,hu⟩
  ·rw[cN e];exact o.live q hq
 len:=o.len
 val:=λi d h=>by rw[jU hp];exact o.val i d h
 own:=λi ts h=>by
  rw[jU hp];obtain⟨q,xs,h1,h2,h3,h4,h5,h6⟩:=o.own i ts h;exact⟨q,xs,h1,h2,h3,h4,by rw[cN λz=>by rw[z,he]at h5;cases h5];exact h5,h6⟩
 dis:=o.dis
 dc:=λi hs kvs h=>a9 h (hn i hs kvs)
def NB{i j:Nat}(hs:∀d,s≠.val d)(h:(a.set i s)[j]?=some (.val d)):i≠j/\a[j]?=some (.val d):=by
 by_cases e:i=j
 ·subst e;have b:i<a.length:=by simpa using(aE.mp h).1
  rw[bK b]at h;exact a9 (c5 h) (hs d)
 ·rw[bH e]at h;exact⟨e,h⟩
def wR{i j:Nat}(hs:∀b,s≠.own b)(h:(a.set i s)[j]?=some (.own b)):i≠j/\a[j]?=some (.own b):=by
 by_cases e:i=j
 ·subst e;have d:i<a.length:=by simpa using(aE.mp h).1
  rw[bK d]at h;exact a9 (c5 h) (hs b)
 ·rw[bH e]at h;exact⟨e,h⟩
structure MP(K:aM)(B:Hp)(f:List Addr)(H:Hp)(c:List Addr)(p:Addr)(es:List (Int×Addr×V))(hs:List Int)(kvs:List (D×D)):Prop where
 mem:p∈c
 new:B p=none
 out:p∉f
 obj:H p=some (nK p es)
 hsh:hs=es.map (·.1)
 nd:(kvs.map (·.1)).Nodup
 ks:Reps K (mask H c) (kvs.map (·.1)) (es.map λe=>.ref e.2.1)
 vs:Reps K (mask H c) (kvs.map (·.2)) (es.map λe=>e.2.2)
def Ok.toDic(o:Ok K B f H c a g){i:Nat}(n:g[i]?=some (some (.ref p)))(w:∀(j:Nat)(hs:List Int)(kvs:List (D×D)),i≠j->a[j]?≠some (.dic hs kvs))(x:MP K B f H c p es hs kvs):Ok K B f H c (a.set i (.dic hs kvs)) g:=by
 refine o.re Fm (λj d h=>(NB (by intro _ z;cases z) h).2) (λj y h=>(wR (by intro _ z;cases z) h).2) λj r s h=>?_;have v:i<a.length:=by rw[o.len];exact(aE.mp n).1
 have only:∀(l:Nat)(k:List Int)(b:List (D×D)),(a.set i (.dic hs kvs))[l]?=some (.dic k b)->i=l:=λl k b q=>by
  by_cases e:i=l
  ·exact e
  ·rw[bH e]at q;exact a9 q (w l k b e)
 obtain rfl:=only j r s h;rw[bK v]at h;injection h with h
 injection h with t u
 subst t u;exact⟨⟨p,es,n,x.mem,x.new,x.out,x.obj,x.hsh,x.nd,x.ks,x.vs⟩,λl k b q=>only l k b q⟩
def Ok.isDic(o:Ok K B f H c a g){i:Nat}(h:a[i]?=some (.dic hs kvs)):(∃(p:Addr)(k:List (Int×Addr×V)),g[i]?=some (some (.ref p))/\MP K B f H c p k hs kvs)/\∀(j:Nat)(b:List Int)(d:List (D×D)),i≠j->a[j]?≠some (.dic b d):=by
 obtain⟨⟨p,k,a1,a2,l,a4,n,q,r,s,t⟩,u⟩:=o.dc i hs kvs h;exact⟨⟨p,k,a1,a2,l,a4,n,q,r,s,t⟩,λj b d ne e=>ne (u j b d e)⟩
def Ok.forget(o:Ok K B f H c a g){i:Nat}(h:a[i]?=some (.dic hs b)):Ok K B f H c (a.set i .un) g/\∀(j:Nat)(hs:List Int)(b:List (D×D)),(a.set i .un)[j]?≠some (.dic hs b):=by
 have n:∀(j:Nat)(hs:List Int)(b:List (D×D)),(a.set i .un)[j]?≠some (.dic hs b):=λj k l e=>by
  obtain⟨ne,q⟩:=A4 (by intro _ _ z;cases z) e;exact(o.isDic h).2 j k l ne q
 exact⟨o.re Fm (λj d h=>(NB (by intro _ z;cases z) h).2) (λj r h=>(wR (by intro _ z;cases z) h).2) λj k l e=>a9 e (n j k l),n⟩
def Ok.newDic(o:Ok K B f H c a g){i:Nat}(h:i<a.length)(k:∀(j:Nat)(hs:List Int)(kvs:List (D×D)),a[j]?≠some (.dic hs kvs))(b:H p=none):Ok K B f (gG H p (nK p [])) (p::c) (a.set i (.dic [] [])) (g.set i (some (.ref p))):=by
 have l:=(o.adopt (u:=nK p []) b).setUn (i:=i) (v:=.ref p);have d:(g.set i (some (V.ref p)))[i]?=some (some (.ref p)):=bK (by rw[<- o.len];exact h)
 have n:=l.toDic (i:=i) (es:=[]) (hs:=[]) (kvs:=[]) d (λj hs kvs ne e=>by
  rw[bH ne]at e;exact k j hs kvs e) ⟨aS ..,bR.free' o.base b,λz=>jE o.live b (o.sub p z),cW,Fo,Fm,.nil,.nil⟩
 rwa [KG]at n
def Ok.shareD(o:Ok K B f H c a g){i:Nat}(O:a[i]?=some (.dic hs kvs)):∃(p:Addr)(t:List (Int×Addr×V)),g[i]?=some (some (.ref p))/\MP K B f H c p t hs kvs/\∀ep,Ok K B f (gG H p (sB p t ep)) (c.filter λq=>decide (q≠p)) (a.set i (.val (Gp hs kvs))) g/\bR (mask H c) (mask (gG H p (sB p t ep)) (c.filter λq=>decide (q≠p))):=by
 obtain⟨⟨p,t,y,x⟩,u⟩:=o.isDic O;refine⟨p,t,y,x,λep=>?_⟩;have E:i<a.length:=(aE.mp O).1;have F:p∉c.filter λq=>decide (q≠p):=λz=>(b8 (cL.mp z).2) Fo
 have n:bR (mask H c) (mask (gG H p (sB p t ep)) (c.filter λq=>decide (q≠p))):=λb v r=>by
  unfold mask at r |-
  by_cases s:b∈c
  ·rw[a7 s]at r;cases r
  ·rw[a6 s]at r;have l:b≠p:=λz=>s (z▸x.mem);rw[a6 λz=>s (cL.mp z).1,cN l];exact r
 refine⟨⟨λb v r=>?_,λq w=>cL.mpr ⟨o.sub q w,a8 λz=>x.out (z▸w)⟩,λq w=>?_,by simpa using o.len,λj d h=>?_,λj N h=>?_,λj k N Q q A C I J=>?_,λj G M h=>?_⟩,n⟩
 ·have l:b≠p:=λz=>by rw[z,x.new]at r;cases r
  rw[cN l];exact o.base b v r
 ·have l:q≠p:=b8 (cL.mp w).2;rw[cN l];exact o.live q (cL.mp w).1
 ·by_cases e:i=j
  ·subst e;rw[bK E]at h;cases h;refine⟨_,y,?_⟩;have:=iN.dct (K:=K) (ep:=ep) (nA F (cW (H:=H) (o:=sB p t ep))) x.nd (x.ks.same n) (x.vs.same n);rw[<- x.hsh]at this;exact this
  ·rw[bH e]at h;obtain⟨v,A,C⟩:=o.val j d h;exact⟨v,A,C.same n⟩
 ·obtain⟨_,h⟩:=wR (by intro _ z;cases z) h;obtain⟨q,R,A,C,I,J,L,P⟩:=o.own j N h;have l:q≠p:=λz=>by rw[z,x.obj]at L;cases L
  exact⟨q,R,A,cL.mpr ⟨C,a8 l⟩,I,J,by rw[cN l];exact L,P.same n⟩
 ·exact o.dis j k N Q q (wR (by intro _ z;cases z) A).2 (wR (by intro _ z;cases z) C).2 I J
 ·obtain⟨ne,h⟩:=A4 (by intro _ _ z;cases z) h;exact a9 h (u j G M ne)
end
section
variable{X:Cx}{a b e n:Expr}{g:List Expr}{m C l:ET}{pos:Pos}
def SE(i:Nat):sW:=λf d=>i<d.length/\(∀(j:Nat)(hs:List Int)(c:List (D×D)),d[j]?≠some (.dic hs c))/\f.nx (d.set i (.dic [] []))
def X4{i:Nat}(c:∀{v},PE X (.Dict [] [] p2) v->PS X (.Assign [.Name x pos'] (.Dict [] [] p2) pos) (wO v (kY i))):wH X (.Assign [.Name x pos'] (.Dict [] [] p2) pos) (SE i):=by
 refine⟨_,c TB,λB s H j k t q r o h f p d=>?_⟩;exact f.nx _ (p::j) _ _ (o.newDic h.1 h.2.1 d) (by rw[lY d];exact L2.bR.refl _) h.2.2
def pC{K}{g:List (Int×Addr×V)}{c:List (D×D)}(h:c.map (λd=>mP w d.1)=g.map (·.1))(nd:(c.map (·.1)).Nodup)(ok:∀d∈c,jX d.1)(r:Reps K H (c.map (·.1)) (g.map λe=>.ref e.2.1)):DK K w H g (c.map (·.1)):=
 ⟨r,nd,λk hk=>by obtain⟨d,f,rfl⟩:=aR.mp hk;exact ok d f,by rw[<- h,bM];rfl⟩
def HL{K}{a:Addr}:∀{g:List (Int×Addr×V)}{c:List (D×D)}(k:D),Reps K H (c.map (·.2)) (g.map λe=>e.2.2)->iN K H v x->Reps K H ((vN c k v).map (·.2)) ((sU w g (c.map (·.1)) k a x).map λe=>e.2.2):=by
 intro g c k r h;unfold vN sU;by_cases d:k∈c.map (·.1)
 ·rw[a7 d,a7 d];clear d
  induction c generalizing g with
  |nil=>cases g with
   |nil=>exact .nil
   |cons e g=>cases r
  |cons j c i=>cases g with
   |nil=>cases r
   |cons e g=>
    rw[bE,bE]at r
    cases r with
    |cons o p=>
     rw[bE,bE,bE];unfold FO;rw[bE];refine .cons ?_ (i p);by_cases f:j.1=k
     ·rw[a7 f,a7 f];exact h
     ·rw[a6 f,a6 f];exact o
 ·rw[a6 d,a6 d,bA,bA];exact r.append (.cons h .nil)
def pB(c:List (D×D))(k v:D):(vN c k v).map (·.1)=zH (c.map (·.1)) k:=by
 unfold vN zH;split
 ·rw[bM];apply iH;intro d _;show(if d.1=k then(d.1,v)else d).1=d.1;split<;>rfl
 ·rw[bA];rfl
def aC8(w:c7)(i:Nat)(l tv:ET):sW:=λf d=>∃c,d[i]?=some (pR w c)/\tv d λv=>l d λk=>GV k/\(∀kv∈c,jX kv.1)/\c.length<=100000/\f.nx (d.set i (pR w (vN c k v)))
def BG{i:Nat}{tv}(hu:X.A.units+9<u7)(hn:PE X n (sS i))(K:iK X e l)(hv:iK X value tv)(hs:jH value (some (.Subscript n e p2)) pos.line X.env=pure false:=by rfl) :
  wH X (.Assign [.Subscript n e p2] value pos) (aC8 X.w i l tv):=by
 obtain⟨vv,O,rv⟩:=hv;obtain⟨vk,pk,rk⟩:=K;refine⟨_,SX hu hn pk O hs,λB Y H ps J R DT DV o h f=>?_⟩;obtain⟨kvs,T,h⟩:=h;obtain⟨⟨p,g,t,x⟩,u⟩:=o.isDic T;refine rv B Y H ps J R _ _ o h λv y H1 Z r1 q1=>⟨.ref p,t,rk B Y H1 ps J R _ _ (o.grow Z) q1 λk z S s2 P q2=>?_⟩;obtain⟨⟨E,I,rfl⟩,hok,U,q⟩:=q2;obtain⟨a,rfl⟩:=oH P;have r:=Z.trans s2;have o2:=o.grow r;have L:=cE (ps:=ps) r;have M:=x.ks.same L;have Q:=x.vs.same L;have G:=r _ _ x.obj;have s:=pC (w:=X.w) x.hsh x.nd hok M
 have hl:g.length=kvs.length:=by
  have:=e8 gC x.hsh;simpa using this.symm
 have hL:bO=2^24:=rfl;have c:=s.put (v:=y) P E;refine⟨p,a,g,kvs.map (·.1),_,Fo,Fo,G,s.same bZ,P.same bZ,E,Fl,?_⟩;obtain⟨o3,F⟩:=o2.forget (i:=i) T;have o4:=o3.poke (u:=nK p (sU X.w g (kvs.map (·.1)) (.tuple I) a y)) x.mem x.new G F;have d:mask (gG S p (nK p (sU X.w g (kvs.map (·.1)) (.tuple I) a y))) ps=mask S ps:=jU x.mem
 have W:=o4.toDic (i:=i) (es:=sU X.w g (kvs.map (·.1)) (.tuple I) a y) (hs:=(vN kvs (.tuple I) v).map λkv=>mP X.w kv.1) (kvs:=vN kvs (.tuple I) v) t (λj hs N _=>F j hs N)
  ⟨x.mem,x.new,x.out,cW,?_,?_,?_,?_⟩
 ·rw[KG]at W;exact f.nx _ ps _ R W (by rw[d];exact L) q
 ·rw[c.hs,<- pB kvs _ v,bM];rfl
 ·rw[pB];exact c.nd
 ·rw[d,pB];exact c.rep
 ·rw[d];exact HL _ Q (r1.same (cE s2))
def Reps.two{K}{i:Nat}:∀{c:List (D×D)}{g:List (Int×Addr×V)}{f:D×D},Reps K H (c.map (·.2)) (g.map λe=>e.2.2)->c[i]?=some f->∃e,g[i]?=some e/\iN K H f.2 e.2.2:=by
 intro c g f r h;obtain⟨v,j,o⟩:=r.get (i:=i) (d:=f.2) (by rw[aI,h];rfl);rw[aI]at j;obtain⟨e,k,rfl⟩:=bU.mp j;exact⟨e,k,o⟩
def uO{K}{H:Hp}{f:List (D×D)}(r:iN K H (mB w f) v):∃(p:Addr)(g:List (Int×Addr×V))(k:Nat),v=.ref p/\H p=some (sB p g k)/\f.map (λo=>mP w o.1)=g.map (·.1)/\(f.map (·.1)).Nodup/\Reps K H (f.map (·.1)) (g.map λe=>.ref e.2.1)/\Reps K H (f.map (·.2)) (g.map λe=>e.2.2):=by
 unfold mB Gp at r
 generalize h:(KF ((.str "{}",.list ((f.map λo=>mP w o.1).map aQ))::f))=d at r
 cases r with
 |@dct p g k kws h1 h2 h3 h4=>
  injection h with h
  injection h with c j
  subst j;injection c with _ c
  injection c with c
  have e:=e8 (E9 λd:D=>match d with | .int i=>i | _=>0) c;simp only[bM,gh]at e;exact⟨p,g,k,Fo,h1,e,h2,h3,h4⟩
 |addr z=>
  injection h with h
  injection h with c j
  injection c with c _
  injection c with c
  exact a9 c Fj
 |ins _ _=>
  injection h with h
  injection h with c j
  injection c with c _
  injection c with c
  exact a9 c Fj
 |_=>cases h
def Kz(w:c7)(d k:D)(Q:D->Prop):Prop:=∃c,d=mB w c/\GV k/\(∀kv∈c,jX kv.1)/\∃v,(k,v)∈c/\Q v
def Z6(Z:X.A.units+9<u7)(U:iK X a m)(W:iK X b C)(hs:Go b:=by intro _ _;rfl):iK X (.Subscript a b pos) (KB (Kz X.w) m C):=by
 obtain⟨va,pa,ra⟩:=U;obtain⟨vb,pb,rb⟩:=W;refine⟨_,TF Z pa pb hs,λB t H u f G Q QV o h k=>ra B t H u f G _ _ o h λd x I E r1 q1=>?_⟩;refine rb B t I u f G _ _ (o.grow E) q1 λkd z J F y q2=>?_;obtain⟨r,rfl,⟨i,ys,rfl⟩,hok,v,Y,q⟩:=q2;obtain⟨c,rfl⟩:=oH y;obtain⟨p,g,N,rfl,O,P,R,S,T⟩:=uO (r1.same (cE F));obtain⟨j,s⟩:=bP Y;obtain⟨M,K,L⟩:=T.two s;exact⟨⟨c,Fo⟩,p,g,r.map (·.1),_,j,M,Fo,.inr ⟨N,bZ _ _ O⟩,(pC (w:=X.w) P R hok S).same bZ,y.same bZ,i,by rw[aI,s];rfl,K,k _ _ J (E.trans F) L q⟩
def PJ{y:TS}(p:AC X sts y):AC X sts (λA j H=>∃(a:Addr)(g:List (Int×Addr×V)),H a=some (nK a g)/\∀d,y A j (gG H a (sB a g d))):=by
 intro c s j H D I ⟨a,g,v,h⟩;obtain⟨⟨q,t,o,i,d,f,B,E,F⟩,_⟩:=I.hok a _ v;refine p c s j _ D ?_ (h d);exact I.write (x:=a) (e:=a) (h':=s.heap) (t':=s.toks) (by rw[v];exact i8) (.inl Fo) (λb u _ z=>z) ⟨o,f⟩ (show jY X.prog X.w _ _ _ (sB a g d)from⟨⟨q,t,o,i,f,B,E,F⟩,⟨o,f⟩,λq t ⟨a,b,o,i,e,r⟩ k=>⟨a,b,o,i,k _ e,r⟩⟩)
def YG(i:Nat)(t:sW):sW:=λf d=>∃hs c,d[i]?=some (.dic hs c)/\t f (d.set i (.val (Gp hs c)))
def qS(i:Nat)(h:sG X sts t):sG X sts (YG i t):=by
 obtain⟨v,p,r⟩:=h;refine⟨_,PJ p,λB w H A z y d j o h f=>?_⟩;obtain⟨hs,s,e,h⟩:=h;obtain⟨a,g,_,q,c⟩:=o.shareD e;refine⟨a,g,q.obj,λk=>?_⟩;obtain⟨u,x⟩:=c k;exact r B w _ _ _ y d j u h (f.later x)
end
end TL
namespace L2
open TL
noncomputable def LN(d:Addr)(i n a:Nat)(b c k v:Value):Array Value:=#[b,c,.ref d,.int i 0,.int n 0,.int a 0,k,v]
abbrev xO(h:Heap)(b d:Addr)(i n a:Nat)(c e k v:Value):Prop:=h.get? b=some { cls:=.type "dict_itemiterator",dict:=none,data:=.fields (LN d i n a c e k v),slots:=#[] }
def Jl(h:Heap)(c:Addr)(b d:Value):Prop:=(b=.none\/∃(a:Addr)(o:Obj),b=h9 a/\h.get? a=some o/\a≠c)/\∃f,d=.bool f
def Hq(h:Heap)(d:Addr)(b:Array x9)(a:Nat):Prop:=∃o,h.get? d=some o/\o.data=.dict b a
section
variable{prog:cM}{w:c7}{A:d1}{E:Value->Shared->Prop}{s:Shared}{c d:Addr}{i j:Nat}{g:Array x9}{l n k v:Value}
def MH{a:Addr}{Q:Option Obj->Shared->Prop}(e:s.heap.get? a=some o)(h:Q (some o) s):wpAny (model prog w) A (loadIfAlive a) Q E s:=by
 have b:Q (s.heap.get? a) s:=by rw[e];exact h
 exactλ_ _ _=>b
def LL{Q:Option Value->Shared->Prop}(q:xO s.heap c d i g.size j l n k v)(hg:Jl s.heap c l n)(hd:Hq s.heap d g j)(wb:i<g.size)
  (hQ:∀(I:Heap)(y0 y1 k' v':Value),xO I c d (i+1) g.size j y0 y1 k' v'->Jl I c y0 y1->(l=.none->y0=h9 s.heap.objs.size)->I.get? s.heap.objs.size=some { cls:=.type "tuple",data:=.seq #[g[i].key,g[i].val] }->I.objs.size=s.heap.objs.size+1 ->
   (∀b o,b≠c->s.heap.get? b=some o->I.get? b=some o)->Q (some (.ref s.heap.objs.size)) { s with heap:=I }):wpAny (model prog w) A (u3 (.ref c)) Q E s:=by
 obtain⟨H,G,F,J,os⟩:=s;obtain⟨od,M,L⟩:=hd;have y:l5 ⟨H,G,F,J,os⟩ (.ref c) "dict_itemiterator":=⟨_,q,Fo⟩;have N:i6 "dict_itemiterator"=true:=by decide
 unfold u3;refine aB (m9 (d7 (name:=c6 "__next__") y fS (dL fS y vC ?_ (uX _))));refine aB (aG (aB (aB ?_)))
 first | refine aB (q9 y (aG ?_)) | refine aB (y8 y (aG ?_))
 refine aB (o9 q Fo ?_);simp only[N,ak];show wpAny _ _ (if(c9 d==d9)=true then _ else _) _ _ _;rw[a6 (show¬((c9 d==d9)=true)from bN)];refine aB (aG (aB (m5 M L ?_)));rw[a6 Fm];refine aB (aG (aB (z9 M L ?_)));rw[a6 Fm];refine aG ?_;simp only[show¬((i:Int)<0)from by lia,h7,dY,bV wb];refine aB ?_
 first | refine aB (q9 y (aG ?_)) | refine aB (y8 y (aG ?_))
 refine aB (bx y ?_);show wpAny _ _ (bo (.ref c) 3 (h9 ((i:Int)+1)) >>= _) _ _ ⟨H,G,F,J,os⟩;refine aB (l4 q (by simp[LN]) λC K O=>?_)
 replace O:cU c H C:=O
 replace K:xO C c d (i+1) g.size j l n k v:=by
  have e:((i+1:Nat):Int)=(i:Int)+1:=by lia
  unfold xO LN;rw[e];simpa[h9,LN]using K
 have B:l5 ⟨C,G,F,J,os⟩ (.ref c) "dict_itemiterator":=⟨_,K,Fo⟩;refine aB (h8 (aB (bx B (aB (bx B ?_)))));show wpAny _ _ (ba (.ref c) 6 g[i].key g[i].val) _ _ ⟨C,G,F,J,os⟩;unfold ba;refine aB (ia ?_)
 generalize m:C.push { cls:=.type "tuple",data:=.seq #[g[i].key,g[i].val] }=H2
 have t:xO H2 c d (i+1) g.size j l n k v:=by rw[<- m];exact aJ _ K
 have z1:C.objs.size=H.objs.size:=O.1;have vp:c<H.objs.size:=bF q;have t2:H2.get? H.objs.size=some { cls:=.type "tuple",data:=.seq #[g[i].key,g[i].val] }:=by rw[<- m,<- z1];exact aV _ Fo
 have z2:H2.objs.size=H.objs.size+1:=by rw[<- m,eV,z1]
 have R:∀b o,b≠c->H.get? b=some o->H2.get? b=some o:=λb o h e=>by rw[<- m];exact aJ _ (O.extBut b o h e)
 have r:H.objs.size≠c:=fM vp;show wpAny _ _ (aw (.ref c) >>= _) _ _ ⟨H2,G,F,J,os⟩;rw[z1];clear m K O B z1;unfold aw;obtain⟨Bt,f,rfl⟩:=hg;rcases Bt with rfl | ⟨a,oa,rfl,ha,p⟩
 ·refine aB (aB (u0 t Fo (x:=.none) Fo (aG ?_)));simp only[ak];refine aB (u0 t Fo (x:=k) Fo (aB (u0 t Fo (x:=v) Fo ?_)));refine aB (l4 t (by simp[LN]) λH3 u s3=>?_)
  replace s3:cU c H2 H3:=s3
  replace u:xO H3 c d (i+1) g.size j .none (.bool f) g[i].key v:=u
  refine aB (l4 u (by simp[LN]) λW Y S=>?_)
  replace S:cU c H3 W:=S
  replace Y:xO W c d (i+1) g.size j .none (.bool f) g[i].key g[i].val:=Y
  refine aB (l4 Y (by simp[LN]) λX Z T=>?_)
  replace T:cU c W X:=T
  replace Z:xO X c d (i+1) g.size j (h9 H.objs.size) (.bool f) g[i].key g[i].val:=Z
  refine aB (l4 Z (by simp[LN]) λP e6 U=>?_)
  replace U:cU c X P:=U
  replace e6:xO P c d (i+1) g.size j (h9 H.objs.size) (.bool false) g[i].key g[i].val:=e6
  have up:∀b o,b≠c->H2.get? b=some o->P.get? b=some o:=λb o h e=>U.extBut b o h (T.extBut b o h (S.extBut b o h (s3.extBut b o h e)));exact aB (ft (aG (aG ⟨_,Fo,aG (hQ P _ _ _ _ e6 ⟨.inr ⟨_,_,Fo,up _ _ r t2,r⟩,_,Fo⟩ (λ_=>rfl) (up _ _ r t2) (by rw[U.1,T.1,S.1,s3.1,z2]) λb o h e=>up b o h (R b o h e))⟩)))
 ·have fin:∀H3:Heap,xO H3 c d (i+1) g.size j (h9 a) (.bool true) k v->cU c H2 H3->Q (some (.ref H.objs.size)) ⟨H3,G,F,J,os⟩:=λH3 u s3=>
   hQ H3 _ _ _ _ u ⟨.inr ⟨a,oa,Fo,s3.extBut _ _ p (R a oa p ha),p⟩,_,Fo⟩ (λz=>by cases z) (s3.extBut _ _ r t2) (by rw[s3.1,z2]) λb o h e=>s3.extBut b o h (R b o h e)
  refine aB (aB (u0 t Fo (x:=h9 a) Fo ?_));show wpAny _ _ (loadIfAlive ((a:Int).toNat) >>= _) _ _ _;rw[dY];refine aB (MH (R a oa p ha) ?_);simp only[Option.isNone_some,eH,h7];refine aB (u0 t Fo (x:=.bool f) Fo ?_)
  cases f with
  |true=>
   rw[a6 (show¬((u6 true != u6 true)=true)from bN)];refine aG ?_;simp only[eH,h7];exact aG (aG ⟨_,Fo,aG (fin H2 t (cU.refl _ _))⟩)
  |false=>
   rw[a7 (show(u6 false != u6 true)=true from Fo)];refine aB (l4 t (by simp[LN]) λH3 u s3=>?_);refine aG ?_;simp only[eH,h7];exact aG (aG ⟨_,Fo,aG (fin H3 u s3)⟩)
def P9{Q:Option Value->Shared->Prop}(t:A.handled=none)(e:xO s.heap c d i g.size j l n k v)(hd:Hq s.heap d g j)(q:g.size<=i)
  (u:∀r,C2 c s.heap r->Q none { s with heap:=r }):wpAny (model prog w) A (u3 (.ref c)) Q E s:=by
 obtain⟨x,o,h⟩:=hd;have f:s.TypeIs (.ref c) "dict_itemiterator":=⟨_,e,Fo⟩;have p:i6 "dict_itemiterator"=true:=by decide
 unfold u3;refine aB (m9 (d7 (name:=c6 "__next__") f fS (dL fS f vC ?_ (uX _))));refine aB (aG (aB (aB ?_)))
 first | refine aB (q9 f (aG ?_)) | refine aB (y8 f (aG ?_))
 refine aB (o9 e Fo ?_);simp only[p,ak];show wpAny _ _ (if(c9 d==d9)=true then _ else _) _ _ s;rw[a6 (show¬((c9 d==d9)=true)from bN)];refine aB (aG (aB (m5 o h ?_)));rw[a6 Fm];refine aB (aG (aB (z9 o h ?_)));rw[a6 Fm];refine aG ?_;simp only[show¬((i:Int)<0)from by lia,h7,dY,eY q];refine aB ?_
 first | refine aB (q9 f (aG ?_)) | refine aB (y8 f (aG ?_))
 show wpAny _ _ (bo (.ref c) 2 .none >>= _) _ _ s;refine aB (l3 e Fo (by simp[LN]) ?_);show wpAny _ _ (ez (.type "StopIteration") [] >>= _) _ _ _;refine aB ?_;simp only[ez,rm];refine aB (dI ?_ (by size_fits));refine aB (m:=o8 _ _) (cw (a:=d9) (by first | rfl | (simp only[o8];rfl)) ?_);refine dI ?_ (by size_fits);simp only[rr];refine aB (dk ?_)
 first | rw[show A.in1.handled=none from t] | rw[t]
 refine aB (aG (fu ?_));refine aB (y4 (T:="StopIteration") (b:=true) ⟨_,aV _ Fo,Fo⟩ cq ?_);exact aG (u _ (((cU.update ..).extBut.push _).push _))
def RS(v d:Addr)(h:Heap):Prop:=∃o,h.get? v=some o/\o.cls=.type "dict_items"/\o.data=.fields #[.ref d]
def LM{m:Addr}{Q:Value->Shared->Prop}(t:RS m d s.heap)(hd:Hq s.heap d g j)
  (r:Q (.ref s.heap.objs.size) { s with heap:=s.heap.push { cls:=.type "dict_itemiterator",data:=.fields (LN d 0 g.size j .none (.bool false) .none .none) } }):wpAny (model prog w) A (bg (.ref m)) Q E s:=by
 obtain⟨u,b,f,h⟩:=t;obtain⟨o,q,a⟩:=hd;have p:s.TypeIs (.ref m) "dict_items":=⟨u,b,f⟩;refine m6 p AG (dL AG p PySem.F.entry_dict_items_iter ?_ (PySem.F.args_dict_items_iter_1 _));unfold m3.«dict_items.__iter__»;refine aB (aG (aB ?_));unfold Builtin.Dict_items.dictOf;refine aB (u0 b h (x:=.ref d) Fo (aG (aB ?_)));unfold Builtin.Dict_items.newIterator;refine aB (m5 q a (aB (z9 q a ?_)));have e:i6 "dict_itemiterator"=true:=by decide
 simp only[e,ak]
 refine dI (aG ⟨_,Fo,"dict_itemiterator",_,⟨_,aV _ Fo,Fo⟩,fS.lookup,?_⟩)
  (by simp only[sizeOk,av,bI,bG,dB,C8,w6];lia)
 simpa[h9,LN,av]using r
end
section
variable{X:Cx}{a:List (Addr×Obj)}{b:St}{H:Hp}{s:Shared}
noncomputable def DP(v p:Addr):HO:=.ext (RS v p)
def UK:W4 X "dict.items" (λx g H Q=>g=[]/\∃(p:Addr)(c:List (Int×Addr×V)),x=.ref p/\CV H p c/\∀v,H v=none->Q (.ref v) (gG H v (DP v p))):=by
 intro a s b H x g v m Q I i r h;obtain⟨rfl,p,c,rfl,f,q⟩:=h;cases i;cases r;have d:=AK I f;obtain⟨hs,_⟩:=CV.at I f;refine dL E3 d PySem.F.entry_dict_items ?_ (PySem.F.args_dict_items_1 _);unfold m3.«dict.items»;refine aB ?_;unfold Builtin.Dict.noArgs;refine aB (jp d ?_);show wpAny _ _ (pure p) _ _ s;refine aG ?_;show wpAny _ _ (x8 p >>= _) _ _ s;unfold x8;rw[a6 (by rw[hs];exact bN)];refine aB (aG (aB (dI (aG ⟨_,Fo,?_⟩))));exact⟨.ref s.heap.objs.size,_,I.laid (t':=s.toks) (o:=DP s.heap.objs.size p) (λ_ _ e=>aJ _ e) (aN _) ⟨⟨_,aV _ Fo,Fo,Fo⟩,⟨_,aV _ Fo⟩,λj l ⟨o,e,r⟩ k=>⟨o,k _ e,r⟩⟩,Fo,q _ (I.hok.fresh (aN _))⟩
end
section
variable{X:Cx}{o:Expr}{to:TE}{b c:Pos}
def PP(r:PE X o to)(f:v4 o "items" X.env (eval o X.env)=eval o X.env:=by rfl)(g:(b.endLine==c.line)=true:=by rfl) :
  PE X (.Call (.Attribute o "items" b) [] [] c) (λj H Q=>to j H λx i=>∃(p:Addr)(l:List (Int×Addr×V)),x=.ref p/\CV i p l/\∀v,i v=none->Q (.ref v) (gG i v (DP v p))):=by
 intro d s j H Q I h;refine ix f g (jR (r d s j H _ I h) λv u w=>?_);obtain⟨x,i,k,t,p,l,ex,m,q1⟩:=w;subst ex;obtain rfl:v=c9 p:=t;obtain⟨_,_,ob,y,z,n,q,_⟩:=CV.at k m;exact⟨"dict","dict.items",E4,E3,PySem.F.type_dict_items,AK k m,λa e=>by cases e;exact⟨ob,n,q.2.1⟩,y9 Fo (ig (UK d u j i (.ref p) [] (.ref p) [] Q k Fo .nil ⟨Fo,p,l,Fo,m,q1⟩))⟩
end
section
theorem CD:∀{es ds}{j:Nat}{d},Paired MO es ds->ds[j]?=some d->∃e,es[j]?=some e/\MO e d
|_,_,_,_,.nil,h=>by simp at h
|_,_,0,_,.cons r t,h=>by simp at h;subst h;exact⟨_,Fo,r⟩
|_,_,j+1,d,.cons r t,h=>by
 obtain⟨e,a,b⟩:=CD (j:=j) (d:=d) t (by simpa using h);exact⟨e,by simpa using a,b⟩
end
def J2(h:Heap)(d:Addr)(b:Array x9)(a:Nat):Prop:=∃o,h.get? d=some o/\o.ExactDict/\o.data=.dict b a
section
variable{prog:cM}{w:c7}{A:d1}{E:Value->Shared->Prop}{s:Shared}
def JI{d:Addr}{b:Array x9}{g:Nat}{Q:Value->Shared->Prop}(hd:(d==m8)=false)(j:J2 s.heap d b g)
  (h:Q (.ref s.heap.objs.size) { s with heap:=s.heap.push { cls:=.type "dict_keyiterator",data:=.fields #[.ref d,.int 0 0,.int b.size 0,.int g 0] } }) :
  wpAny (model prog w) A (bg (.ref d)) Q E s:=by
 obtain⟨o,e,i,a⟩:=id j;have c:s.TypeIs (.ref d) "dict":=⟨o,e,i.1⟩;refine m6 c G0 (dL G0 c PySem.F.entry_dict_iter ?_ (PySem.F.args_dict_iter_1 _));unfold m3.«dict.__iter__»;refine aB ?_;unfold Builtin.Dict.dictSlotNone;refine aB (jp c ?_);show wpAny _ _ (pure (c9 d)) _ _ s;refine aG ?_;show wpAny _ _ (x8 d >>= _) _ _ s;unfold x8;rw[a6 (by rw[hd];exact bN)];refine aB (aG ?_);refine aB (m5 e a ?_);refine aB (z9 e a ?_);have f:b.size=b.size:=rfl;refine aB (dI (aG ⟨_,Fo,"dict_keyiterator",_,⟨_,aV _ Fo,Fo⟩,hU.lookup,?_⟩));simpa[h9,f]using h
def JB{e d:Addr}{i k:Nat}{b:Array x9}{Q:Option Value->Shared->Prop}(a:s.heap.IsKeyIter e d i b.size k)
  (r:J2 s.heap d b k) (g:i<b.size)
  (n:∀l,l.IsKeyIter e d (i+1) b.size k->cU e s.heap l->Q (some b[i].key) { s with heap:=l }) :
  wpAny (model prog w) A (u3 (.ref e)) Q E s:=by
 obtain⟨o,m,p,hd⟩:=id a;obtain⟨u,h,q,f⟩:=id r;unfold u3
 refine aB (m9 (d7 (name:=c6 "__next__") a.typeIs hU
  (dL hU a.typeIs vL ?_ (vD _))))
 refine aB (aG ?_);refine aB ?_;refine aB ?_
 first | refine aB (u1 a.typeIs (aG ?_)) | refine aB (z6 a.typeIs (aG ?_))
 refine aB (o9 m hd ?_);have j:i6 "dict_keyiterator"=false:=by decide
 simp only[j,eH,h7];show wpAny _ _ (if(c9 d==d9)=true then _ else _) _ _ s;rw[a6 (show¬((c9 d==d9)=true)from bN)];refine aB (aG ?_);refine aB (m5 h f ?_);have t:b.size=b.size:=rfl;rw[a6 Fm];refine aB (aG ?_);refine aB (z9 h f ?_);rw[a6 Fm];refine aG ?_;simp only[show¬((i:Int)<0)from by lia,h7,dY,bV g];refine aB ?_
 first | refine aB (u1 a.typeIs (aG ?_)) | refine aB (z6 a.typeIs (aG ?_))
 refine aB (jo a.typeIs ?_);show wpAny _ _ (bo (.ref e) 1 (h9 ((i:Int)+1)) >>= _) _ _ s;refine aB (l3 m hd Fm ?_)
 have c:(s.heap.update e (am (·.setIfInBounds 1 (h9 ((i:Int)+1))))).IsKeyIter e d (i+1) b.size k:=
  ⟨_,fD _ m (u2 (e9 hd _)),(bb ..).trans p,by rw[e9 hd];simp[h9]⟩
 refine aB (h8 ?_);refine aB (jo (s:={ s with heap:=s.heap.update e (am (·.setIfInBounds 1 (h9 ((i:Int)+1)))) }) c.typeIs ?_);show wpAny _ _ (pure b[i].key) _ _ _;exact aG (aG ⟨_,Fo,aG (n _ c (cU.update ..))⟩)
def N7{j d:Addr}{i l:Nat}{e:Array x9}{Q:Option Value->Shared->Prop}(t:A.handled=none)(c:s.heap.IsKeyIter j d i e.size l)
  (u:J2 s.heap d e l) (x:e.size<=i)
  (q:∀n,C2 j s.heap n->Q none { s with heap:=n }):wpAny (model prog w) A (u3 (.ref j)) Q E s:=by
 obtain⟨o,p,y,hd⟩:=id c;obtain⟨z,g,r,f⟩:=id u;unfold u3
 refine aB (m9 (d7 (name:=c6 "__next__") c.typeIs hU
  (dL hU c.typeIs vL ?_ (vD _))))
 refine aB (aG ?_);refine aB ?_;refine aB ?_
 first | refine aB (u1 c.typeIs (aG ?_)) | refine aB (z6 c.typeIs (aG ?_))
 refine aB (o9 p hd ?_);have h:i6 "dict_keyiterator"=false:=by decide
 simp only[h,eH,h7];show wpAny _ _ (if(c9 d==d9)=true then _ else _) _ _ s;rw[a6 (show¬((c9 d==d9)=true)from bN)];refine aB (aG ?_);refine aB (m5 g f ?_);have v:e.size=e.size:=rfl;rw[a6 Fm];refine aB (aG ?_);refine aB (z9 g f ?_);rw[a6 Fm];refine aG ?_;have k:e.size<=i:=x;simp only[show¬((i:Int)<0)from by lia,h7,dY,eY k];refine aB ?_
 first | refine aB (u1 c.typeIs (aG ?_)) | refine aB (z6 c.typeIs (aG ?_))
 show wpAny _ _ (bo (.ref j) 0 .none >>= _) _ _ s;refine aB (l3 p hd Fm ?_);show wpAny _ _ (ez (.type "StopIteration") [] >>= _) _ _ _;refine aB ?_;simp only[ez,rm];refine aB (dI ?_ (by size_fits));refine aB (m:=o8 _ _) (cw (a:=d9) (by first | rfl | (simp only[o8];rfl)) ?_);refine dI ?_ (by size_fits);simp only[rr];refine aB (dk ?_);rw[show A.in1.handled=none from t];refine aB (aG (fu ?_));refine aB (y4 (T:="StopIteration") (b:=true) ⟨_,aV _ Fo,Fo⟩ cq ?_);exact aG (q _ (((cU.update ..).extBut.push _).push _))
end
noncomputable def Nc(p:Addr)(a:List (Int×Addr×V))(b:Nat):It:=⟨λi H=>H p=some (sB p a b)/\i<a.length,λi H x c=>c=H/\∃e,a[i]?=some e/\x=.ref e.2.1,λi H=>H p=some (sB p a b)/\a.length<=i⟩
def O1{K}(p it:Addr)(es:List (Int×Addr×V))(ep:Nat):CS P w K tg (Nc p es ep) [it] it (λi h=>h.IsKeyIter it p i es.length ep) where
 mem:=by simp
 obj:=λi h st b hb=>by
  have e:b=it:=by simpa using hb
  subst e;obtain⟨o,e,c,d⟩:=st;exact⟨o,e,λv z=>by rw[d]at z;cases z⟩
 keep:=λi h h' st k=>by
  obtain⟨o,e,r⟩:=st;exact⟨o,k it Fm o e,r⟩
 item:=by
  intro X hP hw hK hc i pins s σ H E I hf st hg;subst hP hw hK;obtain⟨hp,hi⟩:=hg;obtain⟨⟨h1,h2,o,xs,h3,h4,h5,h6⟩,_⟩:=I.hok p _ hp;have hsz:es.length=xs.size:=by rw[<- bQ];exact g8 h6
  have sy:i<xs.size:=by lia
  obtain⟨f0,f1,f2,f3,f4,f5⟩:=hf it Fm;rw[hsz]at st;refine JB st ⟨o,h3,h4,h5⟩ sy λh' ei sb=>?_;have I1:eG X pins σ H { s with heap:=h' }:=I.turned (t':=s.toks) (λb o hb e=>(sb.2 b hb).trans e) f0 f1 f3 f4 f5;obtain⟨en,e1,e2⟩:=CD (j:=i) (d:=xs[i]) h6 (by simp[sy]);obtain⟨o',e,c,d⟩:=id ei;rw[<- hsz]at ei;rw[e2.2.1];exact⟨_,Fo,EH (s:={ s with heap:=h' }) e c d Fk ⟨.ref en.2.1,H,I1,Fo,⟨Fo,en,e1,Fo⟩,ei,λb hb=>(hf b hb).1⟩⟩
 done:=by
  intro X hP hw hK hc i pins s σ H E I hf st hg;subst hP hw hK;obtain⟨hp,hi⟩:=hg;obtain⟨⟨h1,h2,o,xs,h3,h4,h5,h6⟩,_⟩:=I.hok p _ hp;have hsz:es.length=xs.size:=by rw[<- bQ];exact g8 h6
  obtain⟨f0,f1,f2,f3,f4,f5⟩:=hf it Fm;rw[hsz]at st;exact N7 (I.ok.hd hc) st ⟨o,h3,h4,h5⟩ Fl λh' eb=>⟨Fo,I.turned (t':=s.toks) (λb o hb e=>eb b o hb e) f0 f1 f3 f4 f5⟩
 self:=λ_ _ _ _ _ st h=>se st h
section
variable{X:Cx}{a:Expr}
def Ol(e:TE):TI:=λf H R=>e f H λx b=>∃(p:Addr)(d:List (Int×Addr×V))(c:Nat),x=.ref p/\b p=some (sB p d c)/\R (Nc p d c) b
def YW(y:PE X l tl):PI X a l (Ol tl):=by
 intro c s E H R I h;refine jR (y c s E H _ I h) λv f C=>?_;obtain⟨x,j,d,A,q1⟩:=C;obtain⟨p,i,k,e,z,q⟩:=q1;subst e;obtain rfl:v=c9 p:=A;obtain⟨⟨m,F,o,B,n,r,t,u⟩,_⟩:=d.hok p _ z;have g:i.length=B.size:=by rw[<- bQ];exact g8 u
 refine JI m ⟨o,n,r,t⟩ ?_;refine⟨f.heap.objs.size,[f.heap.objs.size],_,_,j,Fo,d.kept (t':=f.toks) λb o e=>aJ _ e,O1 p _ i k,⟨_,aV _ Fo,Fo,by rw[g];rfl⟩,λb w=>?_,q⟩;have e:b=f.heap.objs.size:=by simpa using w
 subst e;exact d.fpOk (aN _) (d.hok.fresh (aN _))
end
end L2
namespace TL
open L2
section
variable{X:Cx}{e:Expr}{a:ET}
def Qp(w:c7)(a:ET):IT:=λc Q=>a c λd=>∃b,d=mB w b/\Q (b.map (·.1))
def ZN(A:iK X e a):KC X tg e (Qp X.w a):=by
 obtain⟨S,F,re⟩:=A;refine⟨_,YW F,λB E H G f K Q R o h k=>re B E H G f K _ _ o h λd x m J I q1=>?_⟩;obtain⟨b,rfl,q⟩:=q1;obtain⟨p,g,t,rfl,c,M,N,j,O⟩:=uO I;refine⟨p,g,t,Fo,bZ _ _ c,k (b.map (·.1)) _ m J ?_ q⟩;have P:(b.map (·.1)).length=g.length:=by rw[j.length,aC]
 refine⟨λi H e l=>⟨e _ _ c,Fl⟩,λi H e l=>⟨e _ _ c,Fl⟩,λi H qs y L _ e l C=>?_⟩;obtain⟨rfl,s,r,rfl⟩:=C;obtain⟨n,u,z⟩:=j.get' (i:=i) (v:=.ref s.2.1) (by rw[aI,r];rfl);exact⟨L2.bR.refl _,n,u,z.same e⟩
end
end TL
namespace L2
open TL
section
variable{prog:cM}{w:c7}{A:d1}{E:Value->Shared->Prop}{s:Shared}{d:Addr}{ep:Nat}{xs:Array x9}
def RQ(hh:A.handled=none)(I:Addr)(im:d≠I) :
  Walks prog w A I [I,d] [I] xs.size (λi v=>∃e,xs[i]?=some e/\v=e.key) (λi h=>h.IsKeyIter I d i xs.size ep/\J2 h d xs ep) where
 sub:=λb hb=>by simp at hb;simp[hb]
 frame:=λ_ _ _ st hk=>by
  obtain⟨⟨o,ho,r⟩,⟨p,hp,q⟩⟩:=st;exact⟨⟨o,hk I Fm o ho,r⟩,⟨p,hk d Fm p hp,q⟩⟩
 item:=λi s Q E hi st hQ=>by
  refine JB st.1 st.2 hi λh' gr sq=>?_;obtain⟨p,hp,q⟩:=st.2;exact hQ _ h' s.toks ⟨_,bV hi,Fo⟩ ⟨gr,⟨p,sq.extBut d p im hp,q⟩⟩ λb o hb e=>sq.extBut b o (λh=>hb (by simp[h])) e
 done:=λs Q E st hQ=>N7 hh st.1 st.2 (aN _) λh' vm=>hQ h' s.toks λb o hb e=>vm b o (λh=>hb (by simp[h])) e
 self:=λ_ _ _ _ st hQ=>se st.1 hQ
def CM{Q:Value->Shared->Prop}(hh:A.handled=none)(h0:(d==m8)=false)(hd:J2 s.heap d xs ep)(hn:xs.size<=bO)
  (hQ:∀(t:Heap)(L:Nat)(a:Array Value)(c:Nat),(∀b o,s.heap.get? b=some o->t.get? b=some o)->t.get? s.heap.objs.size=some { cls:=.type "list",dict:=none,data:=.seq a c,slots:=#[] }->a.toList=xs.toList.map (·.key)->Q (.ref s.heap.objs.size) { s with heap:=t,toks:=L }) :
  wpAny (model prog w) A (call (.type "list") [.ref d]) Q E s:=by
 have f:d<s.heap.objs.size:=let ⟨_,ho,_⟩:=hd;bF ho
 refine callType_codes (Q₁:=λobj k=>obj=.ref s.heap.objs.size/\k={ s with heap:=s.heap.push { cls:=.type "list",data:=.seq #[] } }) PySem.F.called_list (PySem.F.typeCall_list_1 _) PySem.F.entry_list_init (code_list_new _ ⟨Fo,Fo⟩) λobj k C=>?_;obtain⟨rfl,rfl⟩:=C
 generalize l:s.heap.push { cls:=.type "list",data:=.seq #[] }=G1
 have J:G1.get? s.heap.objs.size=some { cls:=.type "list",data:=.seq #[] }:=by rw[<- l];exact aV _ Fo
 have k1:∀b o,s.heap.get? b=some o->G1.get? b=some o:=λb o e=>by rw[<- l];exact aJ _ e
 have z1:G1.objs.size=s.heap.objs.size+1:=by rw[<- l,eV]
 generalize T:s.heap.objs.size=S at *
 refine⟨⟨_,J,Fo⟩,PySem.F.args_list_init_2 _ _,?_⟩;show wpAny _ _ (do let old <- di (.ref S);Builtin.List.listUpdate (.ref S) (λ_=>#[]);letGo old.toList.reverse;g9 (.ref S) (.ref d) .none) _ _ _;refine aB ?_;unfold di;refine aB (cx J Fo (aG ?_));show wpAny _ _ (fe S (λ_=>#[]) >>= λ_=>letGo (#[]:Array Value).toList.reverse >>= λ_=>g9 (.ref S) (.ref d) .none) _ _ _;refine aB (aa J Fo ?_);have n:=fD (d0 (λ_=>(#[]:Array Value))) J Fo
 generalize u:G1.update S (d0 (λ_=>(#[]:Array Value)))=G2 at n
 have k2:∀b o,b≠S->G1.get? b=some o->G2.get? b=some o:=λb o g e=>by rw[<- u];exact(iG _ _ (l6 g)).trans e
 have z2:G2.objs.size=S+1:=by rw[<- u,BC,z1]
 have p:J2 G2 d xs ep:=let ⟨o,h1,h2⟩:=hd;⟨o,k2 d o (bS f) (k1 d o h1),h2⟩
 refine aB (ft ?_);unfold g9;have z:l5 { s with heap:=G2 } (.ref d) "dict":=let ⟨o,h1,h2,_⟩:=p;⟨o,h1,h2.1⟩
 refine aB (al z ?_)
 have b1:cy (.ref S) (.ref d)=false:=by
  show(S==d)=false;exact beq_eq_false_iff_ne.mpr (fM f)
 have b2:(j9 "dict"==j9 "list")=false:=by decide
 have b3:(j9 "dict"==j9 "tuple")=false:=by decide
 simp only[b1,b2,b3,xT,eH,h7];refine aB (JI (s:={ s with heap:=G2 }) h0 p ?_);show wpAny _ _ _ _ _ { s with heap:=G2.push _ }
 generalize m:G2.push { cls:=.type "dict_keyiterator",data:=.fields #[.ref d,.int 0 0,.int xs.size 0,.int ep 0] }=G3
 have G:∀b o,G2.get? b=some o->G3.get? b=some o:=λb o e=>by rw[<- m];exact aJ _ e
 have M:G3.get? (S+1)=some { cls:=.type "dict_keyiterator",data:=.fields #[.ref d,.int 0 0,.int xs.size 0,.int ep 0] }:=by rw[<- m,<- z2];exact aV _ Fo
 have z3:G3.objs.size=S+2:=by rw[<- m,eV,z2]
 have U:l5 { s with heap:=G3 } (.ref d) "dict":=let ⟨o,h1,h2⟩:=z;⟨o,G _ _ h1,h2⟩
 have j:S+1≠S:=fM (fA _);have X:d≠S+1:=bS (fB f)
 have O:S∉[S+1,d]:=by
  simp only[aY,dS,j5,Aa];exact⟨l6 j,fM f⟩
 have H:∀(h:Heap)(c L:Nat),(∀b o,b≠S->G3.get? b=some o->h.get? b=some o)->h.get? S=some { cls:=.type "list",dict:=none,data:=.seq #[] c,slots:=#[] } ->
   z8 (model prog w) A.in1 (.builtin "list.extend.loop" ⟨[.ref S,.ref (S+1),.none],[]⟩) (wants (λr I=>r=d9/\Q (.ref S) I) E) { s with heap:=h,toks:=L }:=λh c L Y R=>by
  have W:=(RQ (prog:=prog) (w:=w) (A:=A.in1.in1) (d:=d) (xs:=xs) (ep:=ep) (by simp[hh]) (S+1) X).toS;have st:h.IsKeyIter (S+1) d 0 xs.size ep/\J2 h d xs ep:=⟨⟨_,Y _ _ j M,Fo,Fo⟩,let ⟨o,h1,h2⟩:=p;⟨o,Y d o (bS f) (G _ _ h1),h2⟩⟩;refine ng W hn S O .none xs.size 0 _ #[] c Fo (cI _) st R (ItemsOf.nil _) λs' a c' K N q=>⟨Fo,?_⟩;obtain⟨t,g',d',zk,Z⟩:=s';have eg:g'=s.gens:=K.gens;have ed:d'=s.drawn:=K.drawn;have eo:Z=s.os:=K.os;subst eg;subst ed;subst eo;refine hQ t zk a c' (λb o e=>?_) N ?_
  ·have g:b<S:=by rw[<- T];exact bF e
   refine K.heap b o ?_ (Y b o (bS g) (G b o (k2 b o (bS g) (k1 b o e))));simp only[aY,dS,j5,Aa];exact⟨bS g,bS (fB g)⟩
  ·apply gY;intro i;rw[aI,eD,eD];by_cases hi:i<xs.size
   ·have B:i<a.size:=by have:=q.1;lia
    obtain⟨x,hx,hv⟩:=q.2 i a[i] (bV B);rw[bV B,hx,hv];rfl
   ·rw[eY (by have:=q.1;lia),eY Fl];rfl
 refine aB (h8 (PySem.W.kdl_hint_dict U ?_));dsimp only;rw[z2];refine wpAny_ite_split (λ_=>?_) (λ_=>aG ⟨z5 pS _,H _ _ _ (λb o _ e=>e) (G _ _ n)⟩);have v:=G _ _ n;refine aB (n8 (aB ?_));show wpAny _ _ (fe S (·.push .none) >>= λ_=>fe S (·.pop)) _ _ _;refine aB (aa v Fo ?_);have y:=fD (d0 (·.push d9)) v Fo;refine aa (hz:=by seq_fits) y Fo ?_;have P:=fD (d0 (·.pop)) y Fo;exact aG ⟨z5 pS _,H _ _ _ (λb o g e=>(iG _ _ (l6 g)).trans ((iG _ _ (l6 g)).trans e)) P⟩
end
theorem EE:∀{b:List (Int×Addr×V)}{a:List x9},Paired MO b a->gM (b.map λe=>V.ref e.2.1) (a.map (·.key))
|_,_,.nil=>.nil
|_,_,.cons r t=>.cons (show _=_ from r.2.1) (EE t)
section
variable{X:Cx}
def oP(x:X.calm=true):kO X (.type "list") (λi H Q=>∃(p:Addr)(a:List (Int×Addr×V)),i=[.ref p]/\CV H p a/\∀l,H l=none->Q (.ref l) (gG H l (.lst (a.map λe=>.ref e.2.1)))):=by
 intro g s J H i G Q I r h;obtain⟨p,a,rfl,y,q⟩:=h;obtain⟨u,rfl,B⟩:=oC r;cases B;obtain⟨k,m,o,j,E,n,t,v,f⟩:=CV.at I y;have z:a.length=j.size:=by rw[<- bQ];exact g8 f
 refine CM (I.ok.hd x) k ⟨o,n,t,v⟩ Fl λF C d c A w b=>?_;refine⟨.ref _,_,I.laid (t':=C) (o:=.lst (a.map λe=>.ref e.2.1)) A (aN _) ?_,Fo,q _ (I.hok.fresh (aN _))⟩;exact⟨by rw[aC];exact m,d.toList,c,by rw[b];exact EE f,by simpa using w⟩
end
end L2
namespace TL
open L2
section
variable{X:Cx}{e:Expr}{a:ET}{pos:Pos}
def Zf(w:c7)(a:ET):ET:=λc Q=>a c λd=>∃b,d=mB w b/\Q (.list (b.map (·.1)))
def B8(r:iK X e a)(hs:cD [e] X.env=(false,eval e X.env)::cD [] X.env:=by rfl)
  (pc:∀{v},PA X [e] (sL v BD)->PE X (.Call g [e] [] pos) (R1 (λA H Q=>∃(p:Addr)(b:List (Int×Addr×V)),A=[.ref p]/\CV H p b/\∀l,H l=none->Q (.ref l) (gG H l (.lst (b.map λe=>.ref e.2.1)))) (sL v BD))) :
  iK X (.Call g [e] [] pos) (Zf X.w a):=by
 obtain⟨v,u,re⟩:=r;refine⟨_,pc (jC u lE hs),λB t H y c C Q F o h k=>re B t H y c C _ _ o h λd x E i z q1=>?_⟩;obtain⟨s,rfl,q⟩:=q1;obtain⟨p,b,j,rfl,m,G,I,n,J⟩:=uO z;exact⟨p,b,Fo,.inr ⟨j,bZ _ _ m⟩,λl f=>k _ _ _ (i.trans (eX f)) (rW (o.grow i).live f n) q⟩
end
end TL
namespace L2
open TL
noncomputable def Jn(lo:Int)(n:Nat):It:=⟨λi _=>i<n,λi H x a=>a=H/\x=.int (lo-i),λi _=>n<=i⟩
def O0{K}(it:Addr)(lo:Int)(n:Nat):CS P w K tg (Jn lo n) [it] it (λi h=>fh h it (lo+(i:Nat)*(-1)) ((n:Int)-(i:Nat)) (-1)) where
 mem:=by simp
 obj:=λi h st b hb=>by
  have e:b=it:=by simpa using hb
  subst e
  exact⟨_,st,λv z=>by
   have z':dm _=Data.cell v:=z;cases z'⟩
 keep:=λi h h' st k=>k it Fm _ st
 item:=by
  intro X hP hw hK hc i pins s σ H E I hf st hg;subst hP hw hK;obtain⟨f0,f1,f2,f3,f4,f5⟩:=hf it Fm;have W:=Walks.range (prog:=X.prog) (w:=X.w) (I.ok.hd hc) it lo (-1) n;refine W.item i s _ _ hg st λv h' tk hv ei kk=>?_;obtain⟨t,rfl⟩:=hv;have I1:eG X pins σ H { s with heap:=h',toks:=tk }:=I.turned (λb o hb e=>kk b o (by simpa using hb) e) f0 f1 f3 f4 f5;refine⟨_,Fo,EH (s:={ s with heap:=h',toks:=tk }) (n:="range_iterator") ei Fo Fo Fk ⟨.int (lo-i),H,I1,⟨t,?_⟩,⟨Fo,Fo⟩,ei,λb hb=>(hf b hb).1⟩⟩;have e:lo+(i:Int)*(-1)=lo-i:=by lia
  rw[e]
 done:=by
  intro X hP hw hK hc i pins s σ H E I hf st hg;subst hP hw hK;obtain⟨f0,f1,f2,f3,f4,f5⟩:=hf it Fm;exact jj (I.ok.hd hc) st (by have:n<=i:=hg;lia) λh' eb=>⟨Fo,I.turned (t':=s.toks) (λb o hb e=>eb b o hb e) f0 f1 f3 f4 f5⟩
 self:=λ_ _ _ _ _ st h=>ji st h
end L2
namespace TL
open L2
section
variable{X:Cx}{e:Expr}{pos:Pos}
def Ze(i:Nat)(c:ET):ET:=λb Q=>∃a,b[i]?=some (.own a)/\c b λx=>∃(k:Int)(d:D),x=.int k/\L2.atI a k=some d/\Q d
def VV{i:Nat}(t:PE X m (sS i))(r:iK X b tb)(hs:GQ b:=by intro _ _;rfl):iK X (.Subscript m b pos) (Ze i tb):=by
 obtain⟨M,pb,A⟩:=r;refine⟨_,D1 aX t pb hs,λB w H x c G Q I o h k=>?_⟩;obtain⟨E,e,h⟩:=h;obtain⟨q,F,l,J,K,L,n,p⟩:=o.own i E e;refine⟨.ref q,l,A B w H x c G _ _ o h λd y f a z q1=>?_⟩;obtain⟨j,g,rfl,s,q1⟩:=q1;cases z;obtain⟨v,u,C⟩:=(p.same (cE a)).atI s;exact .inl ⟨q,F,j,v,Fo,Fo,lT.of (a _ _ n),u,k g v f a C q1⟩
end
def CA{X:Cx}(hw:X.w=w)(e:X.A.units+9<u7)(c:iK X a ta)(d:iK X b tb)(hs:Go b:=by intro _ _;rfl):iK X (.Subscript a b pos) (KB (Kz w) ta tb):=by
 subst hw;exact Z6 e c d hs
section
variable{K:aM}{B n H:Hp}{l k:List Addr}{c:List Sl}{m:L2.St}
def Ok.less(o:Ok K B l H k c m)(hs:bR n B):Ok K n l H k c m where
 base:=hs.trans o.base
 sub:=o.sub
 live:=o.live
 len:=o.len
 val:=o.val
 own:=λi ts h=>let ⟨p,xs,h1,h2,h3,h4⟩:=o.own i ts h;⟨p,xs,h1,h2,bR.free' hs h3,h4⟩
 dis:=o.dis
 dc:=o.dc.to (λ_ _ _ h=>⟨h,Fo⟩) (λ_ _ a _ _=>⟨a,Fo⟩) (λ_ _ _ _ a b=>⟨bR.free' hs a,b⟩) (L2.bR.refl _)
def Ok.pokeI(o:Ok K B l H k c m){p C dx:Addr}{fs}(hp:p∈k)(hB:B p=none)(he:H p=some (.ins C dx fs))(hn:∀(j:Nat)(hs:List Int)(kvs:List (D×D)),c[j]?≠some (.dic hs kvs))(hu:U4 u=false:=by rfl):Ok K B l (gG H p u) k c m where
 base:=λb w e=>by
  rw[cN λz=>by rw[z,hB]at e;cases e];exact o.base b w e
 sub:=o.sub
 live:=λq hq=>by
  by_cases e:q=p
  ·subst e;rw[cW];exact⟨_,Fo,hu⟩
  ·rw[cN e];exact o.live q hq
 len:=o.len
 val:=λi d h=>by rw[jU hp];exact o.val i d h
 own:=λi ts h=>by
  rw[jU hp];obtain⟨q,xs,h1,h2,h3,h4,h5,h6⟩:=o.own i ts h;exact⟨q,xs,h1,h2,h3,h4,by rw[cN λz=>by rw[z,he]at h5;cases h5];exact h5,h6⟩
 dis:=o.dis
 dc:=λi hs kvs h=>a9 h (hn i hs kvs)
theorem BQ:∀{fs:List (Str×V)},f∉fs.map (·.1)->qF f y fs=fs++[(f,y)]
|[],_=>rfl
| (g,x)::r,h=>by
 have a:¬g=f:=λz=>h (by rw[<- z];exact aS ..);show(if g=f then(g,y)::r else(g,x)::qF f y r)=_;rw[a6 a,BQ λz=>h (aO _ z)]
 rfl
def HV(j:Nat)(hs:List Int)(a:List (D×D)):(mL N ds)[j]?≠some (.dic hs a):=λh=>by
 have hm:=aU h;unfold mL at hm;rcases eA.mp hm with hm | hm
 ·obtain⟨_,_,z⟩:=aR.mp hm;cases z
 ·have z:=(List.mem_replicate.mp hm).2;cases z
end
abbrev Gs:=List D->(List D->Prop)->Prop
def AX(C:Addr)(ns:List Str)(K:aM)(f:Gs):Sp:=λvs H Q _=>∃(x e:Addr)(jM:List V)(b:List Addr)(d:List D)(c:List D->Prop),vs=.ref x::jM/\x∈b/\H x=some (.ins C e [])/\(∀p∈b,EV (H p))/\Reps K (mask H b) d jM/\f d c /\
 ∀(a:List D)(fs:List (Str×V))H',bR (mask H [x]) H'->H' x=some (.ins C e fs)->fs.map (·.1)=ns->Reps K (mask H' b) a (fs.map (·.2))->c a->Q .non H'
abbrev NT:=(List (Str×D)->Prop)->List (Str×D)->List Sl->Prop
def Gv(X:Cx)(C:Addr)(st:List Stmt)(t:NT):Prop:=∃g:TS,AC X st g/\∀B p0 H ps dq σ (p f:Addr)(fs:List (Str×V))(c:List (Str×D))(Q:List (Str×D)->Prop)(e:GX),
 Ok X.K B p0 H ps dq σ->(∀(j:Nat)(hs:List Int)(d:List (D×D)),dq[j]?≠some (.dic hs d))->σ[0]?=some (some (.ref p))->p∈ps->B p=none->H p=some (.ins C f fs)->fs.map (·.1)=c.map (·.1)->Reps X.K (mask H ps) (c.map (·.2)) (fs.map (·.2))->t Q c dq ->
 (∀H'(b:List (Str×V))(a:List (Str×D)),bR B H'->H' p=some (.ins C f b)->b.map (·.1)=a.map (·.1)->Reps X.K (mask H' ps) (a.map (·.2)) (b.map (·.2))->Q a->e.nx σ H')->g e σ H
section
variable{X:Cx}{o e a:Expr}{i:List Expr}{j:ET}{pos g:Pos}{C:Addr}{jM:List Stmt}{r:NT}{f:Str}
def Ov:NT:=λQ b _=>Q b
def aD5:Gv X C [] Ov:=⟨_,FV,λ_ _ H _ _ _ _ _ fs b _ _ o _ _ _ _ c hk d h k=>k H fs b o.base c hk d h⟩
def Jt(f:Str)(j:ET)(r:NT):NT:=λQ b c=>j c λd=>b.length<=100/\f∉b.map (·.1)/\r Q (b++[(f,d)]) c
def wY(c:RE X.K C)(q:nE X.K C f)(M:PE X o (sS 0))(N:iK X a j)(J:Gv X C jM r)(hs:jH a (some (.Attribute o f g)) pos.line X.env=pure false:=by rfl) :
  Gv X C (.Assign [.Attribute o f g] a pos::jM) (Jt f j r):=by
 obtain⟨Y,pv,U⟩:=N;obtain⟨W,P,S⟩:=J;refine⟨_,BR (Zv M pv hs) P,λB E H m b F p l fs I Q G o A v s w z hk T h k=>?_⟩;refine U B E H m b F _ _ o h λd y t n R q1=>⟨.ref p,v,p,C,l,fs,Fo,n _ _ z,c,q,?_,?_⟩
 ·have:=e8 gC hk;rw[aC,aC]at this;have:=q1.1;lia
 ·have x:f∉fs.map (·.1):=by rw[hk];exact q1.2.1
  have O:=(o.grow n).pokeI (u:=.ins C l (qF f y fs)) s w (n _ _ z) A;have L:mask (gG t p (.ins C l (qF f y fs))) m=mask t m:=jU s;refine S B E _ m b F p l (qF f y fs) (I++[(f,d)]) Q G O A v s w cW ?_ ?_ q1.2.2 k
  ·rw[BQ x,bA,bA,hk];rfl
  ·rw[L,BQ x,bA,bA];exact(T.same (cE n)).append (.cons R .nil)
def Nr{K}{mg:Str->Option Value}{st}{f:Addr}{l:iV}{N pn:List Str}{k:Nat}{G:Gs}(F:Q5 K x qual st f l)(S:bX N pn (aZ st))
  (d:∀{c}{A:d1}{outer}{s:Shared}{H E},Room k (A.deeper (aq qual (aZ st) s.heap.objs.size f c))->N.Nodup->∀(z:D)(b:List D)(Q:List D->Prop),G b Q ->
   ∃t,Gv (zZ hW P w K mg base N qual (aZ st) f c A outer s H E).nox C (mJ st) t/\t (λl=>l.map (·.1)=ns/\Q (l.map (·.2))) [] (mL N (z::b))) (len:∀b Q,G b Q->b.length+1=pn.length:=by intro b Q h;(repeat obtain⟨_,h⟩:=h)<;>subst_vars<;>rfl):dU P w K mg base hW (k+1) f l pn (AX C ns K G):=by
 refine F.ok S (λvs H Q E h=>?_) λc A outer s H vs Q E R h=>?_
 ·obtain⟨x,I,jM,m,b,n,rfl,_,_,_,r,q,_⟩:=h;rw[dB,<- r.length];exact len b n q
 ·obtain⟨x,I,jM,m,b,n,rfl,T,O,live,r,q,k⟩:=h;obtain⟨t,⟨Z,p,W⟩,h⟩:=d R S.nd (.dict [(.str "@",.list [.int (x:Nat)])]) b n q;have U:Ok K H m H m (mL N (.dict [(.str "@",.list [.int (x:Nat)])]::b)) (L2.qR N (.ref x::jM)):=tU live (.cons (.addr []) r);refine⟨Z,p,W (mask H [x]) m H m _ _ x I [] [] _ _ (U.less bZ) HV Fo T (a7 (aS ..)) O Fo .nil h λL u M Y v y B J=>?_⟩;exact k _ u L Y v (y.trans J.1) B J.2
def Qz(C:Addr)(ns:List Str)(c:Gs)(t:AT):ET:=λd Q=>t d λb=>c b λfs=>Q (LQ C ns fs)
def Z3(R:wI X (e::i) t)(W:∀{ta},PA X (e::i) ta->PE X (.Call (.Name x p) (e::i) [] pos) (Mt C (AX C ns X.K sp) [] E0 ta)):iK X (.Call (.Name x p) (e::i) [] pos) (Qz C ns sp t):=by
 obtain⟨v,U,ra⟩:=R;refine⟨_,W U,λB T H n I σ Q QV o h k=>ra B T H n I σ _ _ o h λO M s L Z q1=>λx c F l y=>?_⟩;show AX C ns X.K sp (.ref x::(M++[])) _ _ E0;rw[fR];have live:=(o.grow L).live;have m:x∉n:=jE live F;have w:gG s c (.own x) x=none:=by rw[cN (l6 y)];exact F
 have S:mask (gG (gG s c (.own x)) x (.ins C c [])) (x::n)=mask (gG s c (.own x)) n:=lY w;refine⟨x,c,M,x::n,O,_,Fo,aS ..,cW,λq E=>?_,?_,q1,λP fs N s' G A rs Y=>⟨Fo,?_⟩⟩
 ·by_cases e:q=x
  ·subst e;rw[cW];exact⟨_,Fo,Fo⟩
  ·rw[cN e];rcases aY.mp E with z | z
   ·exact a9 z e
   ·by_cases J:q=c
    ·subst J;rw[cW];exact⟨_,Fo,Fo⟩
    ·rw[cN J];exact live q z
 ·rw[S];exact Z.same (cE (eX l))
 ·subst A;refine k _ _ N (L.trans λb u d=>s' b u ?_) (.ins (nA m G) (rs.same (lX λq E=>aO _ E))) Y;have nx:b≠x:=λz=>by rw[z,F]at d;cases d
  have nd:b≠c:=λz=>by rw[z,l]at d;cases d
  unfold mask;rw[a6 (by simpa using nx),cN nx,cN nd];exact d
end
section
variable{X:Cx}
def No(i j k l:Nat):GT:=λd f Q=>∃a b c e,d=.tuple [a,b,c,e]/\Q ((((f.set i (.val a)).set j (.val b)).set k (.val c)).set l (.val e))
def N2{i j k l:Nat}(h:PG X t (ZX X.K 4 (vF (kY i) (vF (kY j) (vF (kY k) (vF (kY l) ZY)))))):KD X t (No i j k l):=
 ⟨_,h,λB u H w q x d v Q s o r h k=>by
  obtain⟨a,b,c,e,rfl,h⟩:=h
  cases r with
  |@tuple p xs _ hq r=>
   cases r with
   |cons f r=>
    cases r with
    |cons g r=>
     cases r with
     |cons m r=>
      cases r with
      |cons re r=>
       cases r;exact⟨_,_,Fo,bR.seqT bZ hq,Fo,_,_,Fo,_,_,Fo,_,_,Fo,_,_,Fo,Fo,k _ _ ((((o.set f).set g).set m).set re) (λn=>kP (kP (kP (kP n _ _) _ _) _ _) _ _) h⟩⟩
end
end TL
namespace L2
open TL
noncomputable def Jm(K:aM)(l:Addr)(n:Nat):It:=
 ⟨λi H=>i<n/\∃a,lT K H l a/\a.length=n,λi H v b=>b=H/\∀a,lT K H l a->a[n-1-i]?=some v,λi _=>n<=i⟩
def RU{K}(it l:Addr)(n:Nat):CS P w K tg (Jm K l n) [it] it (λi h=>i<=n/\h.IsRevIter it l ((n:Int)-1-(i:Int))) where
 mem:=by simp
 obj:=λi h st b hb=>by
  have e:b=it:=by simpa using hb
  subst e;obtain⟨_,o,e,c,d⟩:=st;exact⟨o,e,λv z=>by rw[d]at z;cases z⟩
 keep:=λi h h' st k=>⟨st.1,st.2.at λo x=>k it Fm o x⟩
 item:=by
  intro X hP hw hK hc i pins s σ H E I hf st hg;subst hP hw hK;obtain⟨hi,xs,hq,hn⟩:=hg;obtain⟨sk,ee⟩:=st;obtain⟨fo,rv,p,hz⟩:=I.list hq;obtain⟨f0,f1,f2,f3,f4,f5⟩:=hf it Fm;have hx:xs[n-1-i]?=some (xs[n-1-i]' Fl):=aD Fl;obtain⟨u,hu,ru⟩:=rv.get hx;have e:(n:Int)-1-(i:Int)=((n-1-i:Nat):Int):=by lia
  rw[e]at ee;refine wpAny_pyNext_rev_item ee p.isList (x:=u) (by simpa using hu) λh' ei sb=>?_;have I1:eG X pins σ H { s with heap:=h' }:=I.turned (t':=s.toks) (λb o hb e=>(sb.2 b hb).trans e) f0 f1 f3 f4 f5;have e2:((n-1-i:Nat):Int)-1=(n:Int)-1-((i+1:Nat):Int):=by lia
  rw[e2]at ei;obtain⟨o',e',c',d'⟩:=id ei;exact⟨_,Fo,EH (s:={ s with heap:=h' }) e' c' d' Fk ⟨_,H,I1,ru,⟨Fo,λys hy=>by rw[I.list_inj hy hq];exact hx⟩,⟨Fl,ei⟩,λb hb=>(hf b hb).1⟩⟩
 done:=by
  intro X hP hw hK hc i pins s σ H E I hf st hg;subst hP hw hK;obtain⟨sk,ee⟩:=st;have hi:i=n:=aCl sk hg;subst hi;obtain⟨f0,f1,f2,f3,f4,f5⟩:=hf it Fm;have e:(i:Int)-1-(i:Int)=-1:=by lia
  rw[e]at ee;exact wpAny_pyNext_rev_end (I.ok.hd hc) ee λh' eb=>⟨Fo,I.turned (t':=s.toks) (λb o hb e=>eb b o hb e) f0 f1 f3 f4 f5⟩
 self:=λ_ _ _ _ _ st h=>sg st.2 h
def DG:d2 "reversed"=some (.type "reversed"):=by decide +kernel
def Mg(K:aM)(c:TA):TI:=λd H R=>c d H λvs a=>∃l b,vs=[.ref l]/\lT K a l b/\R (Jm K l b.length) a
section
variable{X:Cx}{c:Expr}
def Zu(v:Gl X "reversed")(x:X.mg "reversed"=none)(t:PA X [a] ta)(hs:cD [a] X.env=[(false,eval a X.env)]:=by rfl) :
  PI X c (.Call (.Name "reversed" p) [a] [] pos) (Mg X.K ta):=by
 intro g s E H R I h;refine Call_ (tV I v x DG (j0 (jR (t pos g s E H _ I h) λF d C=>?_) (by rw[hs];rfl) (by rfl)));obtain⟨vs,n,i,A,q1⟩:=C;obtain⟨l,m,rfl,y,q⟩:=q1
 cases A with
 |cons r B=>
  cases B;cases r;obtain⟨k,j,p1,z⟩:=i.list y;have w:=j.length;refine call_reversed_list p1.isList ?_;have f:(d.heap.push (revObj l ((k.toArray.size:Int)-1))).IsRevIter d.heap.objs.size l ((m.length:Int)-1-((0:Nat):Int)):=⟨_,aV _ Fo,Fo,by rw[w];simp[revObj]⟩;refine sg (s:={ d with heap:=_ }) f ?_;refine⟨d.heap.objs.size,[d.heap.objs.size],_,_,n,Fo,i.kept (t':=d.toks) λb o e=>aJ _ e,RU _ l m.length,⟨cI _,f⟩,λb u=>?_,q⟩;have e:b=d.heap.objs.size:=by simpa using u
  subst e;exact i.fpOk (aN _) (i.hok.fresh (aN _))
end
noncomputable def Na(p:Addr)(a:List (Int×Addr×V))(b:Nat):It:=⟨λi H=>H p=some (sB p a b)/\i<a.length,λi H x c=>∃q e,H q=none/\x=.ref q/\c=gG H q (.tup [.ref e.2.1,e.2.2])/\a[i]?=some e,λi H=>H p=some (sB p a b)/\a.length<=i⟩
def VJ{E:Value->Shared->Prop}{s:Shared}{z:Nat}{c d:Addr}{i n e:Nat}{u:Addr}{Q:Unit->Shared->Prop}(b:xO s.heap c d i n e (h9 u) x1 k v)
  (h:∀a,xO a c d i n e .none x1 k v->cU c s.heap a->Q () { s with heap:=a }):wpAny (model prog w) A (l9 (.Tuple elts z pos) (.ref c) (.ref u)) Q E s:=by
 unfold l9;refine aB (bz b ?_);show wpAny _ _ (if(["enumerate","zip","dict_itemiterator","dict_reverseitemiterator","odict_iterator","itertools.zip_longest","itertools.pairwise"].contains "dict_itemiterator"&&(LN d i n e (h9 u) x1 k v)[0]?==some (h9 u))=true then _ else _) Q E s;rw[a7 (by simp[LN])];refine aB (n8 ?_);show wpAny _ _ (bo (.ref c) 0 .none) Q E s;exact l4 b (by simp[LN]) λa f g=>h a f g
def KP{K}{z:Nat}(p it:Addr)(es:List (Int×Addr×V))(ep:Nat):CS P w K (.Tuple elts z pos) (Na p es ep) [it] it (λi h=>∃(f:Bool)(k v:Value),xO h it p i es.length ep .none (.bool f) k v) where
 mem:=by simp
 obj:=λi h st b hb=>by
  have e:b=it:=by simpa using hb
  subst e;obtain⟨f,k,v,e⟩:=st;exact⟨_,e,λv z=>by cases z⟩
 keep:=λi h h' st kk=>by
  obtain⟨f,k,v,e⟩:=st;exact⟨f,k,v,kk it Fm _ e⟩
 item:=by
  intro X hP hw hK hc i pins s σ H E I hf st hg;subst hP hw hK;obtain⟨hp,hi⟩:=hg;obtain⟨f,k,v,ee⟩:=st;obtain⟨⟨h1,h2,o,xs,h3,h4,h5,h6⟩,_⟩:=I.hok p _ hp;have hsz:es.length=xs.size:=by rw[<- bQ];exact g8 h6
  have sy:i<xs.size:=by lia
  rw[hsz]at ee;have vw:it<s.heap.objs.size:=bF ee;refine LL ee ⟨.inl Fo,_,Fo⟩ ⟨o,h3,h5⟩ sy λh' y0 y1 k' v' gr Bs hy ht hz Cb=>⟨_,Fo,?_⟩;obtain rfl:=hy Fo;obtain⟨_,f',rfl⟩:=Bs;refine VJ (s:={ s with heap:=h' }) gr λsx vr sb=>?_
  have kk:∀c o,c∉[it]->s.heap.get? c=some o->sx.get? c=some o:=λc o dn x=>by
   have wy:c≠it:=by simpa using dn
   exact sb.extBut _ _ wy (Cb c o wy x)
  obtain⟨en,e1,e2⟩:=CD (j:=i) (d:=xs[i]) h6 (by simp[sy]);have hT:=sb.extBut _ _ (fM vw) ht;have I1:eG X pins σ (gG H s.heap.objs.size (.tup [.ref en.2.1,en.2.2])) { s with heap:=sx }:=I.turnedNew (t':=s.toks) hf kk (aN _) ⟨(by show 2<=bO;decide),[xs[i].key,xs[i].val],.cons e2.2.1 (.cons e2.2.2 .nil),⟨_,hT,Fo,_,Fo,Fo⟩⟩;rw[<- hsz]at vr;refine⟨.ref s.heap.objs.size,_,I1,Fo,⟨_,en,I.hok.fresh (aN _),Fo,Fo,e1⟩,⟨f',k',v',vr⟩,λc dn=>?_⟩;have e:c=it:=by simpa using dn
  subst e;rw[cN (bS vw)];exact(hf c dn).1
 done:=by
  intro X hP hw hK hc i pins s σ H E I hf st hg;subst hP hw hK;obtain⟨hp,hi⟩:=hg;obtain⟨f,k,v,ee⟩:=st;obtain⟨⟨h1,h2,o,xs,h3,h4,h5,h6⟩,_⟩:=I.hok p _ hp;have hsz:es.length=xs.size:=by rw[<- bQ];exact g8 h6
  obtain⟨f0,f1,f2,f3,f4,f5⟩:=hf it Fm;rw[hsz]at ee;exact P9 (I.ok.hd hc) ee ⟨o,h3,h5⟩ Fl λh' eb=>⟨Fo,I.turned (t':=s.toks) (λb o hb e=>eb b o hb e) f0 f1 f3 f4 f5⟩
 self:=λ_ i _ _ _ st h=>by
  obtain⟨f,k,v,e⟩:=st;have hT:l5 _ (.ref it) "dict_itemiterator":=⟨_,e,Fo⟩;refine m6 hT vK (dL vK hT PySem.W.kcp_entry ?_ (PySem.F.args_dict_itemiterator_iter_1 _));show wpAny _ _ (ret (.ref it)) _ _ _;exact aG ⟨_,Fo,"dict_itemiterator",_,hT,fS.lookup,h⟩
section
variable{X:Cx}
def Ke(R:It->Hp->Prop):VK:=λy a=>∃(v p:Addr)(c:List (Int×Addr×V))(b:Nat),y=.ref v/\a v=some (DP v p)/\a p=some (sB p c b)/\R (Na p c b) a
def Jr(c:TE):TI:=λd H R=>c d H λx a=>∃(p:Addr)(b:List (Int×Addr×V)),x=.ref p/\CV a p b/\∀v,a v=none->Ke R (.ref v) (gG a v (DP v p))
def S2{z:Nat}{g k m:Pos}(C:PE X l tl)(a:v4 l "items" X.env (eval l X.env)=eval l X.env:=by rfl)(c:(k.endLine==m.line)=true:=by rfl) :
  PI X (.Tuple elts z g) (.Call (.Attribute l "items" k) [] [] m) (Jr tl):=by
 intro f s L H R I h;refine jR (PP C a c f s L H (Ke R) I h) λv i K=>?_;obtain⟨x,t,d,G,q1⟩:=K;obtain⟨r,p,n,u,rfl,F,E,q⟩:=q1;obtain rfl:v=c9 r:=G;obtain⟨⟨M,N,o,J,w,O,y,A⟩,_⟩:=d.hok p _ E;have j:n.length=J.size:=by rw[<- bQ];exact g8 A
 refine LM (d.hok r _ F).1 ⟨o,w,y⟩ ?_;refine⟨i.heap.objs.size,[i.heap.objs.size],_,_,t,Fo,d.kept (t':=i.toks) λb o e=>aJ _ e,KP p _ n u,⟨false,.none,.none,by rw[j];exact aV _ Fo⟩,λb B=>?_,q⟩;have e:b=i.heap.objs.size:=by simpa using B
 subst e;exact d.fpOk (aN _) (d.hok.fresh (aN _))
end
section
variable{prog:cM}{w:c7}{A:d1}{E:Value->Shared->Prop}{s:Shared}
def GM{d:Addr}{b:Array x9}{f:Nat}{Q:Value->Shared->Prop}(hd:(d==m8)=false)(k:J2 s.heap d b f)(i:(b.size:Int)<2^63)
  (h:Q (.int b.size (s.toks+1)) { s with toks:=s.toks+1+1 }):wpAny (model prog w) A (call (.builtin "len") [.ref d]) Q E s:=by
 obtain⟨o,c,j,a⟩:=k;have g:s.TypeIs (.ref d) "dict":=⟨o,c,j.1⟩
 have e:MeetsIn prog w (m3.«dict.__len__» ⟨[.ref d],[]⟩) (λ_ R s=>(∃o,s.heap.get? d=some o/\o.data=.dict b f)/\R (.ok (.ret (.int b.size s.toks))) { s with toks:=s.toks+1 }):=
  .of_wp λA R s ⟨⟨o,c,a⟩,h⟩=>by
   show wpAny _ _ (dictSize d >>= _) _ _ s;unfold dictSize;refine aB (aB (m5 c a (aG ?_)));show wpAny _ _ (Builtin.Dict.pendingCount d >>= _) _ _ s;refine aB (wpAny_pendingCount_other hd ?_);refine gb ?_;rw[AI];exact h
 refine ej PySem.kind_len PySem.plain_len PySem.entry_len (PySem.args_len1 _) ?_;unfold m3.«len»;refine aB (m:=oneArg "len" _) (aG ?_)
 refine aB (m:=callSpecial? (.ref d) (c6 "__len__")) (d7 (name:=c6 "__len__") g HD
  (call_meetsIn HD g PySem.F.entry_dict_len (PySem.F.args_dict_len_1 _) e ⟨⟨o,c,a⟩,?_⟩))
 show wpAny _ _ _ _ _ { s with toks:=s.toks+1 };refine aB (h8 (aG ?_));refine aB (ft ?_);show wpAny _ _ (if((b.size:Nat):Int)<0 then _ else _) _ _ _;rw[a6 Fl];show wpAny _ _ (if((b.size:Nat):Int)>=2^63 then _ else _) _ _ _;rw[a6 Fl];exact aB (wpAny_mkInt (aG ⟨_,Fo,h⟩))
end
section
variable{X:Cx}
def QW:kO X (.builtin "len") (λd H Q=>∃(p:Addr)(a:List (Int×Addr×V)),d=[.ref p]/\CV H p a/\Q (.int a.length) H):=by
 intro c s x H d w Q I r h;obtain⟨p,a,rfl,m,l⟩:=h;obtain⟨u,rfl,n⟩:=oC r;cases n;obtain⟨f,t,o,e,q,g,i,j,k⟩:=CV.at I m;have b:a.length=e.size:=by rw[<- bQ];exact g8 k
 have v:bO=2^24:=rfl;refine GM f ⟨o,g,i,j⟩ Fl ?_;rw[<- b];exact⟨.int _,H,I.tok _,⟨_,Fo⟩,l⟩
end
section
variable{X:Cx}{o i c:Expr}{pos d:Pos}{f ty tv:TE}
def aDa(K:aM)(w:c7)(f ty tv:TE):TS:=λg e H=>tv e H λv h=>f e h λx j=>ty e j λy H3=>∃(p a:Addr)(b:List (Int×Addr×V))(ks:List D)(k:D)(l:Nat),x=.ref p/\y=.ref a/\H3 p=some (sB p b l)/\DK K w H3 b ks/\iN K H3 k (.ref a)/\jX k/\b.length<bO/\g.nx e (gG H3 p (nK p (sU w b ks k a v)))
def SY(hu:X.A.units+9<u7)(T:PE X o f)(S:PE X i ty)(W:PE X c tv)(hs:jH c (some (.Subscript o i d)) pos.line X.env=pure false) :
  PS X (.Assign [.Subscript o i d] c pos) (aDa X.K X.w f ty tv):=by
 intro g s l H D' I h;refine jg (jR (W g s l H _ I h) λr s1 ⟨v,F,J,rv,q1⟩=>jR (T g s1 l F _ J q1) λu s2 ⟨x,G,L,rx,Z⟩=>jR (S g s2 l G _ L Z) λY s3 zq=>?_) hs;obtain⟨y,H3,m,ry,p,a,es,ks,k,M,ex,N,B,n,C,ok,hl,q3⟩:=zq;subst ex N;obtain rfl:u=c9 p:=rx;obtain rfl:Y=c9 a:=ry;obtain⟨P,Q,xs,E,x2⟩:=CI m (.inr ⟨M,B⟩) n;refine ud (hsz:=by rw[<- g8 E.2];exact Q) (show X.A.units+1+8<u7 by lia) (yO m C ok) x2 λO j t=>⟨l,_,?_,q3⟩;have U:∃q,O.get? p=some q:=let ⟨q,_,_,e,_⟩:=j;⟨q,e⟩
 have:=IK (w:=X.w) (k:=k) (a:=a) (v:=v) n.len;exact m.write (x:=p) (e:=p) (by rw[B];exact i8) (.inl Fo) (λb q R z=>(t.2 b R).trans z) U (V5 (ks:=zH ks k) P Fl (VQ E rv) (n.put C ok).hs j)
def SW{st}{A:TS}(p:PS X st A):PS X st (λB q H=>∃(a:Addr)(l:List (Int×Addr×V)),H a=some (nK a l)/\∀j,A B q (gG H a (sB a l j))):=by
 intro g s q H D I ⟨a,l,y,h⟩;obtain⟨⟨t,v,o,n,j,m,C,E,F⟩,_⟩:=I.hok a _ y;refine p g s q _ D ?_ (h j);exact I.write (x:=a) (e:=a) (h':=s.heap) (t':=s.toks) (by rw[y];exact i8) (.inl Fo) (λb u _ z=>z) ⟨o,m⟩ (show jY X.prog X.w _ _ _ (sB a l j)from⟨⟨t,v,o,n,m,C,E,F⟩,⟨o,m⟩,λt v ⟨a,b,o,n,e,r⟩ k=>⟨a,b,o,n,k _ e,r⟩⟩)
end
end L2
namespace TL
open L2
section
variable{K:aM}{H c:Hp}
def aC5{a:Addr}(e:∀b o,H b=some o->(∃d,o=HO.ext d)\/c b=some o)(h:lT K H a xs):lT K c a xs:=by
 rcases h with(h | ⟨o,h⟩) | h
 ·rcases e _ _ h with⟨_,z⟩ | z
  ·cases z
  ·exact .inl (.inl z)
 ·rcases e _ _ h with⟨_,z⟩ | z
  ·cases z
  ·exact .inl (.inr ⟨o,z⟩)
 ·exact .inr h
def YE{a:Addr}(e:∀b o,H b=some o->(∃d,o=HO.ext d)\/c b=some o)(h:rN K H a xs):rN K c a xs:=by
 rcases h with(h | ⟨o,h⟩) | h
 ·rcases e _ _ h with⟨_,z⟩ | z
  ·cases z
  ·exact .inl (.inl z)
 ·rcases e _ _ h with⟨_,z⟩ | z
  ·cases z
  ·exact .inl (.inr ⟨o,z⟩)
 ·exact .inr h
mutual
theorem iN.nd(e:∀b o,H b=some o->(∃a,o=HO.ext a)\/c b=some o):∀{d:D}{v:V},d.hasDict=false->iN K H d v->iN K c d v
|_,_,_,.none=>.none
|_,_,_,.bool b=>.bool b
|_,_,_,.int i=>.int i
|_,_,_,.str x=>.str x
|_,_,h,.list q r=>.list (aC5 e q) (Reps.nd e (by simpa only[fJ]using h) r)
|_,_,h,.tuple q r=>.tuple (YE e q) (Reps.nd e (by simpa only[fJ]using h) r)
|_,_,h,.wild _=>by simp[fJ]at h
|_,_,h,.exc _ _=>by simp[fJ]at h
|_,_,h,.excA _ _ _=>by simp[fJ]at h
|_,_,h,.excD _ _ _ _=>by simp[fJ]at h
|_,_,h,.tape _ _=>by simp[fJ]at h
|_,_,h,.dct _ _ _ _=>by simp[fJ]at h
|_,_,h,.addr _=>by simp[fJ]at h
|_,_,h,.ins _ _=>by simp[fJ]at h
theorem Reps.nd(e:∀b o,H b=some o->(∃d,o=HO.ext d)\/c b=some o):∀{a:List D}{vs:List V},iY a=false->Reps K H a vs->Reps K c a vs
|_,_,_,.nil=>.nil
|_,_,h,.cons r s=>by
 simp only[iY,OS]at h;exact .cons (iN.nd e h.1 r) (Reps.nd e h.2 s)
end
end
section
variable{X:Cx}{a b e n:Expr}{c:List Expr}{r l m:ET}{pos:Pos}
def Qq(t:AT):IT:=λg Q=>t g λf=>∃d,f=[.list d]/\Q d.reverse
def Yq(w:wI X [a] t)(F:∀{r},PA X [a] r->PI X tg (.Call (.Name "reversed" p) [a] [] p') (Mg X.K r)):KC X tg (.Call (.Name "reversed" p) [a] [] p') (Qq t):=by
 obtain⟨S,A,I⟩:=w;refine⟨_,F A,λB z H C g M Q R o h k=>I B z H C g M _ _ o h λP T j J f q1=>?_⟩;obtain⟨O,rfl,q⟩:=q1
 cases f with
 |cons f G=>
  cases G
  cases f with
  |@list p1 us _ hq1 rs1=>
   have n1:=rs1.length;refine⟨p1,us,Fo,L2.bR.seq bZ hq1,k _ _ j J ⟨λi H e d=>?_,λi H e d=>?_,λi H E y N live e d x=>?_⟩ q⟩
   ·rw[pP]at d;show us.length<=i;lia
   ·rw[pP]at d;exact⟨Fl,us,L2.bR.seq e hq1,Fo⟩
   ·obtain⟨rfl,v⟩:=x;obtain⟨s,u,L⟩:=rs1.get' (v us (L2.bR.seq (e.trans bZ) hq1));rw[pP]at d;refine⟨L2.bR.refl _,s,?_,L.same e⟩;rw[uZ d,n1];exact u
def Yn(w:c7)(l:ET):IT:=λh Q=>l h λd=>∃f,d=mB w f/\Q (f.map λg=>.tuple [g.1,g.2])
def U2{z:Nat}(T:iK X e l)(Z:∀{v},PE X e v->PI X (.Tuple elts z tpos) (.Call (.Attribute e "items" ap) [] [] cp) (Jr v)):KC X (.Tuple elts z tpos) (.Call (.Attribute e "items" ap) [] [] cp) (Yn X.w l):=by
 obtain⟨ve,Y,re⟩:=T;refine⟨_,Z Y,λB W H ps E σ Q R o h k=>re B W H ps E σ _ _ o h λd x H1 K r1 q1=>?_⟩;obtain⟨f,rfl,q⟩:=q1;obtain⟨p,c,F,rfl,u,O,h3,P,S⟩:=uO r1;have A:=bZ _ _ u;have live:=(o.grow K).live;refine⟨p,c,Fo,.inr ⟨F,A⟩,λL j=>⟨L,p,c,F,Fo,cW,(by rw[cN (iA A j)];exact A),k _ _ _ (K.trans (eX j)) ?_ q⟩⟩;have g:=cE (ps:=ps) (eX (o:=DP L p) j)
 have G:f.length=c.length:=by
  have:=e8 gC O;simpa using this
 refine⟨λi H e t=>⟨e _ _ (g _ _ u),by rw[aC]at t;lia⟩,λi H e t=>⟨e _ _ (g _ _ u),by rw[aC]at t;lia⟩,λi H qs y H' s e t U=>?_⟩;obtain⟨q,en,I,rfl,rfl,N⟩:=U;rw[aC]at t;have C:f[i]?=some f[i]:=aD t;have J:=g.trans e;obtain⟨x1,M,y2⟩:=(P.same J).get (i:=i) (d:=f[i].1) (by rw[aI,C];rfl);obtain⟨x2,z1,z2⟩:=(S.same J).get (i:=i) (d:=f[i].2) (by rw[aI,C];rfl);rw[aI,N]at M z1;cases M;cases z1;exact⟨eX I,_,by rw[aI,C];rfl,rV s I (.cons y2 (.cons z2 .nil))⟩
def Zc(i:Nat):ET:=λf Q=>∃hs d,f[i]?=some (.dic hs d)/\Q (.int (d.length:Nat))
def VX{i:Nat}(t:PE X (.Call g [n] [] pos) (R1 (λv H Q=>∃(p:Addr)(c:List (Int×Addr×V)),v=[.ref p]/\CV H p c/\Q (.int c.length) H) (sL (sS i) BD))):iK X (.Call g [n] [] pos) (Zc i):=by
 refine⟨_,t,λB z H A w C Q y o h k=>?_⟩;obtain⟨hs,f,j,q⟩:=h;obtain⟨⟨p,c,d,x⟩,u⟩:=o.isDic j
 have s:c.length=f.length:=by
  have:=x.vs.length;simpa using this.symm
 exact⟨.ref p,d,p,c,Fo,.inl x.obj,k _ _ H (L2.bR.refl H) (by rw[s];exact .int _) q⟩
def KU(w:c7)(i:Nat)(m tv:ET):sW:=λg f=>∃d,f[i]?=some (pR w d)/\tv (f.set i (.val (mB w d))) λv=>v.hasDict=false/\m (f.set i (.val (mB w d))) λk=>GV k/\(∀kv∈d,jX kv.1)/\d.length<=100000/\g.nx (f.set i (pR w (vN d k v)))
def wP{i:Nat}{tv}(hu:X.A.units+9<u7)(hn:PE X n (sS i))(R:iK X e m)(hv:iK X value tv)(hs:jH value (some (.Subscript n e p2)) pos.line X.env=pure false:=by rfl) :
  wH X (.Assign [.Subscript n e p2] value pos) (KU X.w i m tv):=by
 obtain⟨vv,Z,rv⟩:=hv;obtain⟨vk,pk,rk⟩:=R;refine⟨_,SW (SY hu hn pk Z hs),λB p0 H ps dq σ DT DV o h f=>?_⟩;obtain⟨kvs,Q,h⟩:=h;obtain⟨p,c,L,x,hsh⟩:=o.shareD Q;obtain⟨_,u⟩:=o.isDic Q;refine⟨p,c,x.obj,λP=>?_⟩;obtain⟨o1,s0⟩:=hsh P;refine rv B p0 _ _ _ σ _ _ o1 h λv y H1 s1 r1 q1=>⟨.ref p,L,?_⟩;obtain⟨T,q1⟩:=q1;refine rk B p0 H1 _ _ σ _ _ (o1.grow s1) q1 λk z d s2 r2 q2=>?_;obtain⟨⟨G,t,rfl⟩,hok,rf,q⟩:=q2;obtain⟨a,rfl⟩:=oH r2;have I:=s1.trans s2;have J:d p=some (sB p c P):=I _ _ cW
 -- the dict is the def's own again
 have s:∀b u,mask d (ps.filter λq=>decide (q≠p)) b=some u->(∃φ,u=HO.ext φ)\/mask (gG d p (nK p c)) ps b=some u:=λb u g=>by
  by_cases e:b=p
  ·subst e;have:=bZ _ _ g;rw[J]at this;cases this;exact .inl ⟨_,Fo⟩
  ·refine .inr ?_;unfold mask at g |-
   by_cases E:b∈ps
   ·rw[a7 (cL.mpr ⟨E,a8 e⟩)]at g;cases g
   ·rw[a6 λz=>E (cL.mp z).1]at g;rw[a6 E,cN e];exact g
 have sO:bR H (gG d p (nK p c)):=λb u g=>by
  by_cases e:b=p
  ·subst e;rw[cW,<- g];exact x.obj.symm
  ·rw[cN e];exact I _ _ (by rw[cN e];exact g)
 have o2:=o.grow sO;have S:=cE (ps:=ps) sO;have U:=x.ks.same S;have Ds:=x.vs.same S;have Y:gG d p (nK p c) p=some (nK p c):=cW;have N:=pC (w:=X.w) x.hsh x.nd hok U
 have hl:c.length=kvs.length:=by
  have:=e8 gC x.hsh;simpa using this.symm
 have hL:bO=2^24:=rfl;have Dl:iN X.K (mask (gG d p (nK p c)) ps) (.tuple t) (.ref a):=r2.nd s (mZ (vU G.1));have Dk:iN X.K (mask (gG d p (nK p c)) ps) v y:=(r1.same (cE s2)).nd s T;have C:=N.put (v:=y) Dl G;have O:DK X.K X.w d c (kvs.map (·.1)):=pC (w:=X.w) x.hsh x.nd hok ((x.ks.same s0).same ((cE I).trans bZ));refine⟨p,a,c,kvs.map (·.1),_,P,Fo,Fo,J,O,r2.same bZ,G,Fl,?_⟩
 have eU:gG d p (nK p (sU X.w c (kvs.map (·.1)) (.tuple t) a y))=gG (gG d p (nK p c)) p (nK p (sU X.w c (kvs.map (·.1)) (.tuple t) a y)):=by
  funext b;by_cases e:b=p
  ·subst e;rw[cW,cW]
  ·rw[cN e,cN e,cN e]
 rw[eU];obtain⟨o3,M⟩:=o2.forget (i:=i) Q;have o4:=o3.poke (u:=nK p (sU X.w c (kvs.map (·.1)) (.tuple t) a y)) x.mem x.new Y M;have F:mask (gG (gG d p (nK p c)) p (nK p (sU X.w c (kvs.map (·.1)) (.tuple t) a y))) ps=mask (gG d p (nK p c)) ps:=jU x.mem
 have o5:=o4.toDic (i:=i) (es:=sU X.w c (kvs.map (·.1)) (.tuple t) a y) (hs:=(vN kvs (.tuple t) v).map λkv=>mP X.w kv.1) (kvs:=vN kvs (.tuple t) v) L (λj hs W _=>M j hs W)
  ⟨x.mem,x.new,x.out,cW,?_,?_,?_,?_⟩
 ·rw[KG]at o5;exact f.nx _ ps _ σ o5 (by rw[F];exact S) q
 ·rw[C.hs,<- pB kvs _ v,bM];rfl
 ·rw[pB];exact C.nd
 ·rw[F,pB];exact C.rep
 ·rw[F];exact HL _ Ds Dk
end
structure J1 where
 p:Addr
 q:Addr
 ns:List Int
 b:Bool
noncomputable def Ps(T:J1)(n:Nat)(l:Int):HO:=.dK [(.inr "script",.ref T.q),(.inr "at",.int n),(.inr "left",.int l),(.inr "digits",.bl T.b)]
section
variable{K:aM}{H B:Hp}{d a:List Addr}{c:List Sl}{e:L2.St}{T:J1}{n:Nat}{p:Addr}
structure aO7(K:aM)(H:Hp)(a:List Addr)(T:J1)(n:Nat):Prop where
 obj:∃l,H T.p=some (Ps T n l)
 scr:lT K (mask H a) T.q (T.ns.map V.int)
 dig:T.b=true->0<T.ns.length
structure OkC(K:aM)(B:Hp)(d:List Addr)(H:Hp)(a:List Addr)(c:List Sl)(e:L2.St)(T:J1)(n:Nat):Prop where
 ok:Ok K B d H a c e
 mem:T.p∈d
 nb:B T.p=none
 tp:aO7 K H a T n
 bq:lT K (mask B d) T.q (T.ns.map V.int)
end
structure aCj where
 nx:Nat->List Sl->Prop
 rt:Nat->D->Prop
 bk:Nat->List Sl->Prop:=λ_ _=>False
 ct:Nat->List Sl->Prop:=λ_ _=>False
abbrev STC:=D->aCj->Nat->List Sl->Prop
section
variable{X:Cx}{a:List Expr}{pos:Pos}
def X3{i:Nat}(b:X.N.Nodup)(d:X.N[i]?=some x)(e:OI X.env.scope x)(h:wI X a t)(hs:jH (.List a p2) (some (.Name x pos')) pos.line X.env=pure false:=by rfl)(c:X.fn x=true\/X.env.scope.names.lookup x=some .local:=by first | exact .inl Fo | exact .inr Fo | assumption) :
  wH X (.Assign [.Name x pos'] (.List a p2) pos) (PH i t):=R6 h λh=>yE b d e h hs c
end
end TL
namespace L2
open AutoSeq1 (wpAny_loadPart')
section
variable{prog:cM}{w:c7}{A:d1}{E:Value->Shared->Prop}{s:Shared}
def JT{Q:List Value->Shared->Prop}{r:Addr}{a b c:Int}{n:Nat}(G:A.handled=none)(y:IsRange s.heap r a b c t u v)(m:z7 a b c=true)(H:f7 a b c=n)(x:n<=2^24)
  (B:∀j p d,(∀b o,s.heap.get? b=some o->j.get? b=some o)->ItemsOf (λi v=>∃t,v=.int (a+i*c) t) d n->Q d.toList { s with heap:=j,toks:=p }):wpAny (model prog w) A (uh (.ref r)) Q E s:=by
 unfold uh;refine aB (ic (l8 A8 ?_));rw[i9 A7 _];show wpAny _ A.in1 (uk [] >>= λl=>again (.builtin "list.__iadd__" ⟨[l,.ref r],[]⟩)) _ _ s;refine aB (dI ?_);refine aG ⟨z5 mR _,l8 E5 ?_⟩;rw[i9 mR _];have F:(s.heap.push { cls:=.type "list",data:=.seq ([]:List Value).toArray }).get? s.heap.objs.size=some { cls:=.type "list",data:=.seq #[] }:=aV _ Fo;show wpAny _ A.in1 (g9 (.ref s.heap.objs.size) (.ref r) (.ref s.heap.objs.size)) _ _ _
 refine gO (wpAny_extend_range (A:=A) (R:=λr z=>r=.ok (.ret (.ref s.heap.objs.size))/\∃j p d q,z={ s with heap:=j,toks:=p }/\(∀b o,b≠s.heap.objs.size->(s.heap.push { cls:=.type "list",data:=.seq ([]:List Value).toArray }).get? b=some o->j.get? b=some o)/\j.get? s.heap.objs.size=some { cls:=.type "list",dict:=none,data:=.seq d q,slots:=#[] }/\ItemsOf (λi v=>∃t,v=.int (a+i*c) t) d n)
  (s:={ s with heap:=s.heap.push { cls:=.type "list",data:=.seq ([]:List Value).toArray } }) G (aJ _ y) m H x s.heap.objs.size (.ref s.heap.objs.size) 0 F λj p d q hk k g=>⟨Fo,j,p,d,q,Fo,hk,k,g⟩) (λfin z h=>?_) (λe z h=>a9 h.1 Fm)
 cases fin with
 |done f=>
  obtain⟨e,j,p,d,q,rfl,hk,k,g⟩:=h;cases e
  (show wpAny _ A (load s.heap.objs.size >>= _) _ _ _;exact aB (bz k (aG (B j p d (λb o e=>hk b o (bS (bF e)) (aJ _ e)) g))))
 |again q=>
  exact⟨h.1,aj h.2 λr I y=>by
   obtain⟨rfl,j,p,d,C,rfl,hk,k,g⟩:=y
   (show wpAny _ A (load s.heap.objs.size >>= _) _ _ _;exact aB (bz k (aG (B j p d (λb o e=>hk b o (bS (bF e)) (aJ _ e)) g))))⟩
def zW(r:Addr)(a b c:Int)(t u v:Tok)(n:Nat)(f:z7 a b c=true)(C:f7 a b c=n)(k:n<=2^24) :
  Meets (m3.«tuple.__new__» ⟨[.type "tuple",.ref r],[]⟩)
   (λA R s=>A.handled=none/\IsRange s.heap r a b c t u v/\∀(j:Heap)(q:Nat)(d:Array Value),(∀b o,s.heap.get? b=some o->j.get? b=some o)->ItemsOf (λi v=>∃t,v=.int (a+i*c) t) d n ->
    R (.ok (.ret (.ref j.objs.size))) { s with heap:=j.push { cls:=.type "tuple",data:=.seq d },toks:=q }):=
 .of_wp λprog w A R s h=>by
  obtain⟨z,p,h⟩:=h;have x:=sub_tuple_self;have m:=init_tuple_lookup;have B:=madeHere_tuple;have y:s.TypeIs (.ref r) "range":=⟨_,p,Fo⟩;have l:A.in1.handled=none:=z
  wp_walk using cf p,al y,JT (A:=A.in1) l p f C k
  intro j q d hk g;show wpAny _ _ (i5 d.toList.toArray >>= λv=>ret v) _ _ _;unfold i5;refine aB (dI ?_ (show d.toList.toArray.size<=bO by simp only[Array.toArray_toList];rw[g.1,w6];lia));refine aG ⟨_,Fo,?_⟩;have e:d.toList.toArray=d:=by simp
  rw[e];exact h j q d hk g
end
section
variable{X:Cx}
def nB(y:X.calm=true):kO X (.type "tuple") (λn H Q=>∃(r:Addr)(j:Int),n=[.ref r]/\H r=some (.ext (BK r j))/\0<=j/\j<=100000/\∀p,H p=none->Q (.ref p) (gG H p (.tup ((cR j.toNat).map λ(k:Nat)=>V.int (k:Int))))):=by
 intro d s G H n M Q I r h;obtain⟨f,j,rfl,A,J,K,q⟩:=h;obtain⟨u,rfl,E⟩:=oC r;cases E;obtain⟨⟨t,u,v,x⟩,_,_⟩:jY X.prog X.w H s.heap f (.ext (BK f j)):=I.hok f _ A;have L:bO=2^24:=rfl;have z:f7 0 j 1=((j.toNat:Nat):Int):=by rw[rangeSize_one];split<;>lia
 refine callType_new PySem.F.called_tuple Fk (PySem.F.typeCall_tuple_1 _) (PySem.F.newCall_tuple_1 _) (λobj=>PySem.F.args_object_init_2 obj _) PySem.F.entry_tuple_new
  (zW f 0 j 1 t u v j.toNat (small_one Fk Fk Fl Fl) z Fl) ⟨I.ok.hd y,x,λg l a hk c=>⟨⟨_,aV _ Fo,Fo⟩,?_⟩⟩
 have m:eG X d G H { s with heap:=g,toks:=l }:=I.kept (t':=l) hk;refine⟨.ref g.objs.size,_,m.laid (t':=l) (o:=.tup ((cR j.toNat).map λ(k:Nat)=>V.int (k:Int))) (λb o e=>aJ _ e) (aN _) ?_,Fo,q _ (m.hok.fresh (aN _))⟩;refine⟨by rw[aC,fU];lia,a.toList,?_,by simpa using CT.new g a⟩;rw[List.range_eq_range'];refine HK j.toNat 0 a.toList (by rw[bQ];exact c.1) λi v C=>?_;obtain⟨t,B⟩:=c.2 i v (by simpa using C);exact⟨t,by rw[B];congr 1;lia⟩
end
end L2
namespace TL
open L2
section
variable{X:Cx}{a:Expr}
def QD(t:AT):ET:=λc Q=>t c λb=>∃n:Int,b=[.int n]/\0<=n/\n<=100000/\Q (.tuple (eQ n.toNat))
def A3(l:wI X [a] t)(v:∀{ta},PA X [a] ta->PE X (.Call (.Name "tuple" q1) [.Call (.Name "range" q2) [a] [] q3] [] q4) (R1 (λb H Q=>∃(r:Addr)(j:Int),b=[.ref r]/\H r=some (.ext (BK r j))/\0<=j/\j<=100000/\∀p,H p=none->Q (.ref p) (gG H p (.tup ((cR j.toNat).map λ(k:Nat)=>V.int (k:Int))))) (sL (R1 (λb H Q=>∃j:Int,b=[.int j]/\∀r,H r=none->Q (.ref r) (gG H r (.ext (BK r j)))) ta) BD))):iK X (.Call (.Name "tuple" q1) [.Call (.Name "range" q2) [a] [] q3] [] q4) (QD t):=by
 obtain⟨I,u,A⟩:=l;refine⟨_,v u,λB s H w c C Q F o h k=>A B s H w c C _ _ o h λG b E f x q1=>?_⟩;obtain⟨n,rfl,g,i,q⟩:=q1
 cases x with
 |cons y z=>
  cases z;cases y;refine⟨n,Fo,λr e=>⟨r,n,Fo,cW,g,i,λp d=>?_⟩⟩;have m:=(o.grow f).grow (eX (o:=.ext (BK r n)) e);exact k _ _ _ ((f.trans (eX e)).trans (eX d)) (rV m.live d (II _)) q
end
end TL
namespace L2
open TL
section
variable{X:Cx}{d:Expr}
def L6{lo:Int}(a:0<=lo)(b:lo<=100000):f7 lo 0 (-1)=lo/\z7 lo 0 (-1)=true:=by
 have e:f7 lo 0 (-1)=lo:=by
  unfold f7;simp only[show¬((-1:Int)>0) by decide,h7,Int.neg_neg,aMt];split<;>lia
 refine⟨e,?_⟩;unfold z7;rw[e];simp only[Builtin.Range.rangeFitsLong,dN,uM,o0,fk,show¬((-1:Int)>0) by decide,h7];lia
def VB(b:TA):TI:=λc H R=>b c H λvs a=>∃i:Int,vs=[.int i,.int 0,.int (-1)]/\0<=i/\i<=100000/\R (Jn i i.toNat) a
def S3(E:Gl X "range")(F:X.mg "range"=none)(B:PA X [a,b,c] ta)(hs:cD [a,b,c] X.env=[(false,eval a X.env),(false,eval b X.env),(false,eval c X.env)]:=by rfl)(k:cD [b,c] X.env=[(false,eval b X.env),(false,eval c X.env)]:=by rfl) :
  PI X d (.Call (.Name "range" p) [a,b,c] [] pos) (VB ta):=by
 intro g s v H R I h;refine Call_ (tV I E F boot_range (j0 (jR (B pos g s v H _ I h) λM j L=>?_) (by rw[hs,k]) (by rw[k];rfl)));obtain⟨vs,u,w,J,q1⟩:=L;obtain⟨i,e,z,A,q⟩:=q1;subst e
 cases J with
 |cons r l=>
  cases l with
  |cons G l=>
   cases l with
   |cons n l=>
    cases l;obtain⟨t,rfl⟩:=r;obtain⟨t',rfl⟩:=G;obtain⟨f,rfl⟩:=n;obtain⟨z1,K⟩:=L6 z A;refine call_range_3 Fk ?_ (.inl (ek Fl));refine ua (IsRange.new ..) K ?_;have m:eG X g v u { j with heap:=j.heap.push { cls:=.type "range",data:=.fields #[.int i t,.int 0 t',.int (-1) f] },toks:=j.toks }:=w.kept λb o e=>aJ _ e
    refine⟨(j.heap.push { cls:=.type "range",data:=.fields #[.int i t,.int 0 t',.int (-1) f] }).objs.size,[(j.heap.push { cls:=.type "range",data:=.fields #[.int i t,.int 0 t',.int (-1) f] }).objs.size],_,_,u,Fo,
     m.kept (t':=j.toks) λb o e=>aJ _ e,O0 _ i i.toNat,?_,λb C=>?_,q⟩
    ·have x:i+((0:Nat):Int)*(-1)=i:=by simp
     have y:((i.toNat:Nat):Int)-((0:Nat):Int)=f7 i 0 (-1):=by rw[z1];lia
     show fh _ _ (i+((0:Nat):Int)*(-1)) (((i.toNat:Nat):Int)-((0:Nat):Int)) (-1);rw[x,y];exact aV _ Fo
    ·have e:b=(j.heap.push { cls:=.type "range",data:=.fields #[.int i t,.int 0 t',.int (-1) f] }).objs.size:=by simpa using C
     subst e;exact m.fpOk (aN _) (m.hok.fresh (aN _))
end
end L2
namespace TL
open L2
section
variable{X:Cx}{e:Expr}
noncomputable def qH(i:Int):List D:=(cR i.toNat).map λ(k:Nat)=>aQ (i-(k:Int))
def ZU(t:AT):IT:=λb Q=>t b λa=>∃i:Int,a=[.int i,.int 0,.int (-1)]/\0<=i/\i<=100000/\Q (qH i)
def U3(v:wI X [a,b,c] t)(A:∀{ta},PA X [a,b,c] ta->PI X tg (.Call (.Name "range" p) [a,b,c] [] p') (VB ta)):KC X tg (.Call (.Name "range" p) [a,b,c] [] p') (ZU t):=by
 obtain⟨K,z,E⟩:=v;refine⟨_,A z,λB x H n m G Q R o h k=>E B x H n m G _ _ o h λJ L r F f q1=>?_⟩;obtain⟨i,rfl,s,u,q⟩:=q1
 cases f with
 |cons f g=>
  cases g with
  |cons g l=>
   cases l with
   |cons l C=>
    cases C;cases f;cases g;cases l;refine⟨i,Fo,s,u,k (qH i) _ r F ?_ q⟩;have d:(qH i).length=i.toNat:=by unfold qH;simp
    refine⟨λj H _ e=>by rw[d]at e;exact e,λj H _ e=>by rw[d]at e;exact e,λj H n y I _ _ e w=>?_⟩;obtain⟨rfl,rfl⟩:=w;refine⟨L2.bR.refl _,.int (i-j),?_,.int _⟩;rw[d]at e;unfold qH;rw[aI,iI e];rfl
end
section
variable{X:Cx}{e:Expr}{b:ET}{x:Str}{pos a:Pos}
def ss(i:Nat)(c:X.N.Nodup)(h:iK X e b)(f:X.N[i]?=some x:=by rfl)(g:OI X.env.scope x:=by first | exact v7 Fo | exact r8 Fo)(hs:jH e (some (.Name x a)) pos.line X.env=pure false:=by rfl)
  (d:X.fn x=true\/X.env.scope.names.lookup x=some .local:=by first | exact .inl Fo | exact .inr Fo):wH X (.Assign [.Name x a] e pos) (FL i b):=R5 (i:=i) h λh=>yE c f g h hs d
def pn(i:Nat)(c:X.N.Nodup)(f:X.N[i]?=some x:=by rfl)(g:OI X.env.scope x:=by first | exact v7 Fo | exact r8 Fo)(d:X.fn x=true\/X.env.scope.names.lookup x=some .local:=by first | exact .inl Fo | exact .inr Fo):PG X (.Name x pos) (kY i):=NL c f g d
def kT{N P:List Str}{c:Scope}(d:c.kind=.function:=by rfl)(f:c.isCoroutine=false:=by rfl)(g:c.isGenerator=false:=by rfl)(h:N.Nodup:=by decide +kernel)(i:N.take P.length=P:=by rfl)(j:∀x∈P,c.names.lookup x=some .local\/c.names.lookup x=some .cell:=by decide +kernel)(k:∀y∈c.names,y.2≠.free:=by decide +kernel):bX N P c:=⟨d,f,g,h,i,j,k⟩
end
end TL
namespace L2
inductive sI:List (Int×Value)->List Int->Prop where
|nil:sI [] []
|cons (k:Int) (t:Tok) {es:List (Int×Value)} {l:List Int}:sI es l->sI ((cz k,.int k t)::es) (k::l)
def sI.len{a:List (Int×Value)}{l:List Int}(h:sI a l):a.length=l.length:=by
 induction h with
 |nil=>rfl
 |cons k t _ b=>simp[b]
def sI.app{fs}(h:sI es l)(g:sI fs m):sI (es++fs) (l++m):=by
 induction h with
 |nil=>exact g
 |cons k t _ a=>exact .cons k t a
section
variable{prog:cM}{w:c7}
def sI.find{a:List (Int×Value)}{l:List Int}(h:sI a l)(k:Int):(a.findIdx? λe=>(jc prog w).is (k:Int) e.2)=l.findIdx? (·==k):=by
 induction h with
 |nil=>rfl
 |cons m t h b=>
  rw[RI,RI,b]
  have e:(jc prog w).is (k:Int) (.int m t)=(m==k):=by
   show Value.isInt (k:Int) (.int m t)=_;by_cases q:m=k
   ·subst q;rw[show(m==m)=true by simp];exact gu prog w (m:Int) t
   ·rw[show(m==k)=false by simpa using q,rM];intro z;obtain⟨u,z⟩:=iv z;injection z with z _
    exact q Fl
  rw[e]
end
section
def R4{h:Heap}{a:Addr}{o:Obj}{b:Nat}(c:h.get? a=some o)(hd:o.data=.set es b t) :
  (h.update a (iy es' t')).get? a=some { o with data:=.set es' (b+1) t' }:=by
 have:=fD (iy es' t') c (by rw[putSet_of es' t' hd];rfl);rw[putSet_of es' t' hd]at this;exact this
end
noncomputable def eO(w:c7):Bool:=w.params.followText "set-order"
section
variable{prog:cM}{w:c7}{A:d1}{E:Value->Shared->Prop}{s:Shared}
def IE(a:Value){Q₁:Value->Shared->Prop}(h:Q₁ (.ref s.heap.objs.size) { s with heap:=s.heap.push { cls:=.type "set",dict:=none,data:=.set #[] 0 (.fresh 0 0 (!eO w)) } }) :
  z8 (model prog w) A (.call (.builtin "set.__new__") ⟨[.type "set",a],[]⟩) (wants Q₁ E) s:=by
 refine fx ?_;show wpAny _ A.in1 (do ew "set.__new__" ⟨[.type "set",a],[]⟩;again (.builtin "set.__new__" ⟨[.type "set",a],[]⟩)) _ _ s;refine aB (cw (PySem.F.newCall_set_1 a) (aG ⟨z5 HF _,l8 PySem.F.entry_set_new ?_⟩));rw[i9 HF _];unfold m3.«set.__new__» Builtin.Frozenset.newClass;have z:=ik;obtain⟨b,g,d,c,os⟩:=s;dsimp only
 wp_walk
 refine y3 (aG ?_);dsimp only;simp only[newObj];exact aB (wpAny_alloc (aG (aG h)))
end
def fP:Slot "set_iterator" "__next__" "set_iterator.__next__":=
 Slot.of (owner:="set_iterator") (n:="__next__") (by rw[typeLookup_type,jk];kernel_rfl) Fj Fj Fj (.inl Fj) (by rw[isSubtype_type];kernel_rfl)
def mG:Slot "set_iterator" "__iter__" "set_iterator.__iter__":=
 Slot.of (owner:="set_iterator") (n:="__iter__") (by rw[typeLookup_type,jk];kernel_rfl) Fj Fj Fj (.inl Fj) (by rw[isSubtype_type];kernel_rfl)
def lM:entryFor table "set_iterator.__next__"=some m3.«set_iterator.__next__»:=entryFor_of_tree (by kernel_rfl)
def rF:entryFor table "set_iterator.__iter__"=some m3.«dict_keyiterator.__iter__»:=entryFor_alias (id':="dict_keyiterator.__iter__") (by kernel_rfl) (by first | rfl | decide +kernel) Fj (by kernel_rfl)
def tZ:entryFor table "set.__iter__"=some m3.«frozenset.__iter__»:=entryFor_alias (id':="frozenset.__iter__") (by kernel_rfl) Fo Fj (by kernel_rfl)
def mK(a:Value):argsOk "set_iterator.__next__" ⟨[a],[]⟩:=by unfold argsOk;kernel_rfl
def sN(a:Value):argsOk "set_iterator.__iter__" ⟨[a],[]⟩:=by unfold argsOk;kernel_rfl
noncomputable def vA(w:c7)(a:Addr)(c:Nat)(b:Array (Int×Value)):Array (Int×Value):=if eO w=true then pickOrder (w.params.setOrder a c) b else b
def CB{a:Type}{l:List a}{i:Nat}(h:i<l.length):iQ (l[i]::l.eraseIdx i) l:=by
 have e:l=l.take i++l[i]::l.drop (i+1):=by rw[<- G6 h,MT]
 rw[List.eraseIdx_eq_take_drop_succ]
 conv=>rhs;rw[e]
 exact List.perm_middle.symm
theorem NK{b:Type}(next:Nat->Nat):∀(n k:Nat)(left:List b)(out:Array b),left.length=n->iQ (ef next n k left out).toList (out.toList++left)
|0,k,left,out,h=>by
 have:left=[]:=hX.mp h;subst this;unfold ef;simp
|n+1,k,left,out,h=>by
 have a:next k%left.length<left.length:=WQ _ Fl;unfold ef;rw[aD a];dsimp only;refine(NK next n (k+1) _ _ (by rw[FB a];lia)).trans ?_;rw[zC,jZ];exact iQ.append_left _ (CB a)
def wW(w:c7)(a:Addr)(c:Nat)(b:Array (Int×Value)):iQ (vA w a c b).toList b.toList:=by
 unfold vA;split
 ·have:=NK (w.params.setOrder a c) b.size 0 b.toList #[] Fm;exact this
 ·exact .rfl
theorem EL:∀{a:List (Int×Value)}{l},sI a l->IntsAre (a.map (·.2)) l
|_,_,.nil=>.nil
|_,_,.cons k t r=>.cons (k:Int) t (EL r)
def EK(h:sI es l){fs}(p:iQ fs es):∃m:List Int,sI fs m/\iQ m l:=by
 induction p generalizing l with
 |nil=>cases h;exact⟨[],.nil,.rfl⟩
 |cons x p g=>cases h with
  |cons k t r=>
   obtain⟨m,a,b⟩:=g r;exact⟨k::m,.cons k t a,b.cons k⟩
 |swap x y p=>cases h with
  |cons k t r=>cases r with
   |cons j u r=>exact⟨_,.cons j u (.cons k t r),iQ.swap ..⟩
 |trans p q c d=>
  obtain⟨m,a,b⟩:=d h;obtain⟨n,e,f⟩:=c a;exact⟨n,e,f.trans b⟩
section
variable{prog:cM}{w:c7}{A:d1}{E:Value->Shared->Prop}{s:Shared}
def DA{n:Nat}{Q:Nat->Shared->Prop}(b:n≠0)(h:∀i d,i<n->Q i { s with drawn:=d }):wpAny (model prog w) A (choose rz n) Q E s:=by
 intro c p a;unfold choose;rw[Sem.wp_choose];exact⟨b,aG (A:=A) (M:=model prog w) (E:=E) (h _ _ (WQ _ (Nat.pos_of_ne_zero b))) c p a⟩
theorem CG{e:Type}:∀(n:Nat)(a:List e)(s:Shared)(Q:List e->Shared->Prop),a.length=n->(∀c d,iQ c a->Q c { s with drawn:=d })->wpAny (model prog w) A (drawOrder n a) Q E s
|0,a,s,Q,hx,h=>by
 have:a=[]:=hX.mp hx;subst this;exact aG (h [] s.drawn .rfl)
|n+1,[],s,Q,hx,h=>by cases hx
|n+1,x::a,s,Q,hx,h=>by
 unfold drawOrder;refine aB (DA Fm λi d b=>?_);rw[aD b];dsimp only;refine aB (CG n ((x::a).eraseIdx i) _ _ (by rw[FB b];lia) λc f g=>aG (h _ f ?_));exact(g.cons _).trans (CB b)
end
theorem eG.drawn(I:eG X pins σ H s)(d:Drawn):eG X pins σ H { s with drawn:=d }:=⟨I.ok,I.os,I.bare,I.base,I.loc,I.cell,I.free,I.freeC,I.pin,I.hok,I.len⟩
abbrev vH(l:List Nat):Prop:=l.Pairwise (·<·)
def Nf(a:Array Nat)(j r:Nat):Prop:=r<=a.size/\(∀i v,i<r->a[i]?=some v->v<j)/\∀i v,r<=i->a[i]?=some v->j<=v
def wT{d:Array Nat}(h:vH d.toList){i k a b:Nat}(c:i<k)(e:d[i]?=some a)(f:d[k]?=some b):a<b:=by
 rw[<- eD]at e f;obtain⟨g,rfl⟩:=aE.mp e;obtain⟨j,rfl⟩:=aE.mp f;exact List.pairwise_iff_getElem.mp h i k g j c
theorem CQ{c:Array Nat}(h:vH c.toList)(j:Nat):∀(fuel lo a:Nat),a-lo<=fuel->lo<=a->a<=c.size->(∀i v,i<lo->c[i]?=some v->v<j)->(∀i v,a<=i->c[i]?=some v->j<=v)->Nf c j (du c j fuel lo a)
|0,lo,a,h1,h2,h3,h4,h5=>by
 obtain rfl:lo=a:=by lia
 exact⟨h3,h4,h5⟩
|fuel+1,lo,a,h1,h2,h3,h4,h5=>by
 unfold du;by_cases d:lo<a
 ·rw[a7 d];dsimp only;have l:(lo+a) / 2<a:=by lia
  have f:lo<=(lo+a) / 2:=by lia
  generalize (lo+a) / 2=mid at l f
  have b:c[mid]?=some c[mid]:=bV Fl;rw[lB,b,zS];by_cases k:c[mid]<j
  ·rw[a7 k];refine CQ h j fuel (mid+1) a Fl Fl h3 (λi v g e=>?_) h5;rcases uH i mid with q | q
   ·have:=wT h q e b;lia
   ·obtain rfl:i=mid:=by lia
    rw[b]at e;cases e;exact k
  ·rw[a6 k];refine CQ h j fuel lo mid Fl f Fl h4 λi v g e=>?_;rcases uH mid i with q | q
   ·have:=wT h q b e;lia
   ·obtain rfl:i=mid:=by lia
    rw[b]at e;cases e;lia
 ·rw[a6 d];obtain rfl:lo=a:=by lia
  exact⟨h3,h4,h5⟩
def EU{a:Array Nat}(h:vH a.toList)(j:Nat):Nf a j (l7 a j):=
 CQ h j a.size 0 a.size Fl (cI _) (aN _) (λi v z=>a9 z (pM _)) λi v z e=>by
  have:=(DM.mp e).1;lia
noncomputable def qT(t:SetTable)(i:Nat):Nat:=if i=0 then 0 else t.place.getD (i-1) 0+1
def MF{t:SetTable}(h:vH t.place.toList){i:Nat}(g:i<=t.place.size):l7 t.place (qT t i)=i:=by
 obtain⟨f,d,e⟩:=EU h (qT t i)
 generalize l7 t.place (qT t i)=r at f d e
 rcases W9 r i with q | q | q
 ·have a:t.place[r]?=some t.place[r]:=bV Fl;have b:t.place[i-1]?=some t.place[i-1]:=bV Fl;have:=e r _ (aN _) a;unfold qT at this;rw[a6 Fl,lB,b,zS]at this;rcases uH r (i-1)with z | z
  ·have:=wT h z a b;lia
  ·have:r=i-1:=by lia
   subst this;lia
 ·exact q
 ·have a:t.place[i]?=some t.place[i]:=bV Fl;have:=d i _ q a;unfold qT at this;by_cases c:i=0
  ·rw[a7 c]at this;lia
  ·have b:t.place[i-1]?=some t.place[i-1]:=bV Fl;rw[a6 c,lB,b,zS]at this;have:=wT h (show i-1<i by lia) b a;lia
structure nF(led:Bool)(t:SetTable)(n:Nat):Prop where
 fits:t.fits n=true
 rise:vH t.place.toList
 dum:t.dummies=#[]
 led:t.led=led
theorem nF.size{led:Bool}{t:SetTable}{n:Nat}(g:nF led t n):t.place.size=n:=by
 have:=g.fits;unfold SetTable.fits at this;rw[dN]at this;simpa using this.1
def VG(j:Nat):SetTable.has #[] j=false:=rfl
theorem zI{t:SetTable}(hd:t.dummies=#[]){b:Nat->Int}{h:Int}(a:∀i,b i≠h):∀(fuel:Nat)(p:SetTable.Probe){m},p.dummy=none->dv t b h fuel p=some m->∃j,m=.empty j none/\t.slot j=.empty
|0,p,m,_,e=>by cases e
|fuel+1,p,m,hp,e=>by
 unfold dv at e
 cases hs:t.slot p.j with
 |empty=>
  rw[hs]at e;dsimp only at e;cases e;exact⟨_,by rw[hp],hs⟩
 |dummy=>
  unfold SetTable.slot at hs;rw[hd]at hs;dsimp only at hs;rw[VG]at hs;split at hs
  ·cases hs
  ·rw[a6 Fk]at hs;cases hs
 |live i=>
  rw[hs]at e;dsimp only at e;rw[a6 (by simpa using a i)]at e;refine zI hd a fuel _ ?_ e;unfold SetTable.advance;split
  ·exact hp
  ·exact hp
def LU{t:SetTable}(hd:t.dummies=#[]){h:Int}{j:Nat}{b:Bool}(e:t.freeSlot h=some (j,b)):t.slot j=.empty/\b=false:=by
 unfold SetTable.freeSlot at e
 cases a:t.probe (λ_=>h+1) h (t.probeStart h)with
 |none=>rw[a]at e;cases e
 |some m=>
  obtain⟨k,rfl,hk⟩:=zI hd (λ_=>by lia) _ _ Fo a;rw[a]at e;cases e;exact⟨hk,Fo⟩
def SO{t:SetTable}(h:vH t.place.toList)(hd:t.dummies=#[]){j:Nat}(hs:t.slot j=.empty):vH (t.put j).1.place.toList/\(t.put j).1.dummies=#[]/\(t.put j).1.led=t.led:=by
 unfold SetTable.put;dsimp only;refine⟨?_,by rw[hd];rfl,Fo⟩
 have q:t.place[l7 t.place j]?≠some j:=λz=>by
  unfold SetTable.slot at hs;dsimp only at hs;rw[z,a7 Fm]at hs;cases hs
 obtain⟨r,o,f⟩:=EU h j
 generalize l7 t.place j=p at q r o f
 rw[SetTable.toList_insertAt];have get:∀i v,t.place.toList[i]?=some v->t.place[i]?=some v:=λi v e=>by rw[<- eD];exact e
 refine List.pairwise_append.mpr ⟨h.sublist (rK ..),List.pairwise_cons.mpr ⟨λv u=>?_,h.sublist (List.drop_sublist ..)⟩,λa s b hb=>?_⟩
 ·obtain⟨i,c⟩:=bP u;rw[jO]at c;have g:=get _ _ c;have:=f _ _ Fl g;by_cases l:i=0
  ·subst l;have:v≠j:=λz=>q (by rw[<- z];exact g);lia
  ·have m:p<t.place.size:=by have:=(DM.mp g).1;lia
   have n:t.place[p]?=some t.place[p]:=bV m;have:=wT h (show p<p+i by lia) n g;have:=f _ _ (aN _) n;lia
 ·obtain⟨i,c⟩:=bP s
  have d:i<p:=by
   have:=(aE.mp c).1;rw[bB]at this;lia
  rw[HG d]at c;have w:=o _ _ d (get _ _ c);rcases aY.mp hb with rfl | hb
  ·exact w
  ·obtain⟨k,hk⟩:=bP hb;rw[jO]at hk;have:=f _ _ Fl (get _ _ hk);lia
def rS(t:SetTable)(n:Nat):nF t.led (t.standIn n) n:=⟨SetTable.standIn_fits t n,by show vH (Array.range n).toList;rw[Array.toList_range];exact sX,Fo,Fo⟩
def JF{led:Bool}{a:Array (Int×Value)}(g:nF led t a.size)(h:Int)(x:Value):nF led (layNew t a h x).2.1 (layNew t a h x).1.size:=by
 unfold layNew
 cases e:t.freeSlot h with
 |none=>
  dsimp only;have:=rS t (a.size+1);rw[g.led]at this;simpa using this
 |some q=>
  obtain⟨j,b⟩:=q;obtain⟨f,rfl⟩:=LU g.dum e;obtain⟨i,k,d⟩:=SO g.rise g.dum f;dsimp only
  generalize SetTable.insertAt a (t.put j).2 (h,x)=es1
  unfold SetTable.orStandIn;by_cases c:(t.put j).1.fits es1.size=true
  ·rw[a7 c];exact⟨c,i,k,d.trans g.led⟩
  ·rw[a6 c];have:=rS (t.put j).1 es1.size;rw[d,g.led]at this;exact this
def KW{led:Bool}{t:SetTable}(i:t.led=led)(c:Nat):nF led (cu t es c).2.1 (cu t es c).1.size:=by
 unfold cu
 cases e:t.relaid (es.map (·.1)) c with
 |none=>dsimp only;rw[<- i];exact rS t es.size
 |some q=>
  obtain⟨h,d⟩:=q;dsimp only
  have k:vH h.place.toList/\h.dummies=#[]/\h.led=t.led:=by
   unfold SetTable.relaid SetTable.laid at e
   cases m:SetTable.layClean (SetTable.sizeAbove c-1) (es.map (·.1))with
   |none=>rw[m]at e;cases e
   |some o=>
    rw[m]at e;cases e;refine⟨?_,Fo,Fo⟩;show vH (E9 _ (List.filterMap _ (cR _)))
    have:∀(f:Nat->Option Nat)(l:List Nat),((l.filterMap λj=>(f j).map (j,·)).map (·.1)).Sublist l:=λf l=>by
     induction l with
     |nil=>exact .slnil
     |cons a l n=>
      rw[gD]
      cases p:f a with
      |none=>exact n.cons a
      |some b=>exact n.cons₂ a
    exact sX.sublist (this (λj=>o.getD j none) _)
  by_cases g:(coversAll d es.size&&h.fits (d.filterMap (es[·]?)).size)=true
  ·rw[a7 g];rw[dN]at g;exact⟨g.2,k.1,k.2.1,k.2.2.trans i⟩
  ·rw[a6 g];rw[<- i];exact rS t es.size
section
variable{prog:cM}{w:c7}
def sI.elemsG(h:sI es l):ElemsOf (jc prog w) es:=by
 induction h with
 |nil=>intro e he;cases he
 |cons k t h a=>
  intro e he;rcases aY.mp he with rfl | he
  ·exact⟨⟨k,gu _ _ _ _,Fo⟩,Fo⟩
  ·exact a e he
end
def wC(h:Heap)(a:Addr)(l:List Int)(led:Bool):Prop:=∃o b c t,h.get? a=some o/\o.ExactSet/\o.data=.set b c t/\sI b.toList l/\nF led t b.size
def wC.at{h b:Heap}{a:Addr}{led:Bool}(x:wC h a l led)(k:∀o,h.get? a=some o->b.get? a=some o):wC b a l led:=by
 obtain⟨o,d,c,t,e,r⟩:=x;exact⟨o,d,c,t,k o e,r⟩
section
variable{prog:cM}{w:c7}{A:d1}{E:Value->Shared->Prop}{s:Shared}
def EG{g:Bool->Sem Unit}(n:∀(b:Bool)s1(q:Unit->Shared->Prop),q () s1->wpAny (model prog w) A (g b) q E s1){a:Addr}{o:Obj}{es c:Array (Int×Value)}{x:Nat}{t d:SetTable}{led v:Bool}{R:Option Bool->Shared->Prop}
  (r:s.heap.get? a=some o) (hex:o.ExactSet) (hd:o.data=.set es x t) (p:sI c.toList m1) (G:nF led d c.size) (z:c.size<=bO)
  (h:∀j m,cU a s.heap j->wC j a m led->m.Perm m1->R (some true) { s with heap:=j }) :
  wpAny (model prog w) A (do
   storeSet a c d
   if(!v&&d.tooFull)=true then do
     g (cu d c (y7 c.size)).2.2
     storeSet a (cu d c (y7 c.size)).1 (cu d c (y7 c.size)).2.1
     pure (some true)
    else pure (some true)) R E s:=by
 refine aB (uu r hd ?_ z);have i:=R4 (es':=c) (t':=d) r hd;have b1:=cU.update s.heap a (iy c d)
 cases H:(!v&&d.tooFull)with
 |true=>
  rw[a7 rfl];have f:=relayAll_perm d c (y7 c.size);have gd:=KW (es:=c) G.led (y7 c.size)
  generalize cu d c (y7 c.size)=L at f gd |-
  obtain⟨e,u,F⟩:=L;dsimp only at f gd |-
  obtain⟨B,k,C⟩:=EK p f
  have l:e.size<=bO:=by
   have:=f.length_eq;rw[bQ,bQ]at this;lia
  refine aB (n _ _ _ (aB (uu i Fo ?_ l)));have y:=R4 (es':=e) (t':=u) i Fo;exact aG (h _ B (b1.trans (cU.update _ a _)) ⟨_,e,_,u,y,hex,Fo,k,gd⟩ C)
 |false=>
  rw[a6 Fk];exact aG (h _ m1 b1 ⟨_,c,_,d,i,hex,Fo,p,G⟩ (.refl _))
def VI{a:Addr}{l:List Int}{led:Bool}{k:Int}{Q:Bool->Shared->Prop}(O:wC s.heap a l led)(hz:l.length<1000)
  (h:∀c b m,cU a s.heap c->wC c a m led->(k∈l->m=l)->(k∉l->m.Perm (l++[k]))->Q b { s with heap:=c }) :
  wpAny (model prog w) A (setAddHashed a (.int k u) (cz k)) Q E s:=by
 obtain⟨o,r,Z,t,I,hex,hd,H,g⟩:=id O;have M:r.size=l.length:=by rw[<- bQ];exact H.len
 have B:=H.elemsG (prog:=prog) (w:=w);have f:r.size<scanBound:=by rw[M];unfold scanBound;lia
 unfold setAddHashed setAddHashedIn;refine h8 (aB (j8 I hd g.fits ?_));dsimp only;rw[byScan_of (x:=.int k u) Fo f B,a7 rfl];unfold setAddByScan;refine aB (aB (n8 ?_));have X:=wpAny_setScan_of (A:=A) (E:=E) (s:=s) (adding:=true) (x:=.int k u) (gu prog w (k:Int) u) I hd g.fits B (Q:=λm n=>m=(match l.findIdx? (·==k)with | some j=>.found (0+j) | none=>.absent)/\n=s) (by rw[H.find];exact⟨Fo,Fo⟩);refine aB (gO X ?_ λ_ _ z=>z);rintro m n ⟨rfl,rfl⟩
 cases R:l.findIdx? (·==k)with
 |some j=>
  obtain⟨T,i,_⟩:=List.findIdx?_eq_some_iff_getElem.mp R
  have K:k∈l:=by
   have:l[j]=k:=by simpa using i
   rw[<- this];exact fK T
  have:=h n.heap false l (cU.refl a n.heap) O (λ_=>rfl) λz=>a9 K z;exact aG (aG this)
 |none=>
  have K:k∉l:=λz=>by
   have:=List.findIdx?_eq_none_iff.mp R k z;simp at this
  dsimp only;have p1:=layNew_perm t r (cz k) (.int k u);have G:=JF g (cz k) (.int k u)
  generalize layNew t r (cz k) (.int k u)=L at p1 G
  obtain⟨v,Y,wd,S⟩:=L;dsimp only at p1 G |-
  have J:sI (r.push (cz k,.int k u)).toList (l++[k]):=by
   rw[zC];exact H.app (.cons k u .nil)
  obtain⟨W,e,F⟩:=EK J p1
  have C:v.size=l.length+1:=by
   rw[<- bQ,e.len,F.length_eq,bG];rfl
  have d:v.size<=bO:=by rw[C,w6];lia
  have p:∀(b:Bool)N(q:Unit->Shared->Prop),q () N->wpAny (model prog w) A (match b with | true=>rule "set.scan.the-table-gave-way" | false=>pure ()) q E N:=λb N q P=>by
   cases b with
   |true=>exact n8 P
   |false=>exact aG P
  have done:∀c m,cU a n.heap c->wC c a m led->m.Perm W->Q true { n with heap:=c }:=λc m f y i=>h c true m f y (λz=>a9 z K) λ_=>i.trans F;refine aB (p S n _ ?_)
  cases U:Y.plain with
  |true=>
   rw[a7 rfl];refine aB ?_;rw[hashByValue_scannable 8 (x:=.int k u) rfl];refine aG ?_;rw[show plainKind (.int k u)=true from rfl];exact EG p I hex hd e G d λc m f y i=>aG (done c m f y i)
  |false=>
   rw[a6 Fk];refine aB (aG ?_);exact EG p I hex hd e G d λc m f y i=>aG (done c m f y i)
end
def Dd(m l:List Int):Prop:=m.Nodup/\m.length<=l.length/\∀z,z∈m↔z∈l
def Dd.add{m l g:List Int}{k:Int}(h:Dd m l)(f:k∈m->g=m)(c:k∉m->g.Perm (m++[k])):Dd g (l++[k]):=by
 obtain⟨i,o,d⟩:=h;by_cases hk:k∈m
 ·rw[f hk];refine⟨i,by rw[bG];lia,λz=>?_⟩;rw[d z,eA,dH];exact⟨.inl,λq=>q.elim id λe=>e▸(d k).mp hk⟩
 ·have p:=c hk;refine⟨p.nodup_iff.mpr (rL.mpr ⟨i,Fm,λa n b j=>?_⟩),by rw[p.length_eq,bG,bG];show _+1<=_+1;lia,λz=>?_⟩
  ·rw[dH]at j
   exactλe=>hk (by rw[<- j,<- e];exact n)
  ·rw[p.mem_iff,eA,eA,d z]
section
variable{prog:cM}{w:c7}{A:d1}
def QI{R:Result->Shared->Prop}{I f:Addr}(S:Addr)(g:S≠I)(M:S≠f)(n:f≠I)(U:A.handled=none){a:List Value}{ns:List Int}{led:Bool}(y:IntsAre a ns)(hz:ns.length<1000) :
  ∀(k i:Nat)(s:Shared),a.length-i=k->i<=a.length->s.heap.IsTupleIter I f i->s.heap.IsTuple f a.toArray->(∃m,wC s.heap S m led/\Dd m (ns.take i)) ->
   (∀d C,(∀b o,b≠S->b≠I->s.heap.get? b=some o->d.get? b=some o)->(∃m,wC d S m led/\Dd m ns)->R (.ok (.ret .none)) { s with heap:=d,toks:=C }) ->
   z8 (model prog w) A (.builtin "set.update.loop" ⟨[.ref S,.ref I],[]⟩) R s:=by
 have W:a.length=ns.length:=y.length;intro k
 induction k with
 |zero=>
  intro i s hk hi E G j L;obtain rfl:i=a.length:=by lia
  refine l8 bc ?_;rw[i9 t4 _];show wpAny _ A.in1 (u3 (.ref I) >>= _) _ _ s;refine aB ((Walks.tuple (prog:=prog) (w:=w) (A:=A.in1) U I f n a.toArray).done s _ _ (by rw[bI];exact⟨E,G⟩) λd C z=>?_);show wpAny _ A.in1 (ret d9) _ _ _;refine aG (L d C (λb o _ hb e=>z b o (by simpa using hb) e) ?_);rw[kR Fl]at j;obtain⟨m,hm,c⟩:=j;exact⟨m,hm.at λo e=>z S o (by simpa using g) e,c⟩
 |succ k ih=>
  intro i s hk hi E G j L;have r:i<a.length:=by lia
  refine l8 bc ?_;rw[i9 t4 _];show wpAny _ A.in1 (u3 (.ref I) >>= _) _ _ s;refine aB ((Walks.tuple (prog:=prog) (w:=w) (A:=A.in1) U I f n a.toArray).item i s _ _ (by rw[bI];exact r) ⟨E,G⟩ λv d C Z B z=>?_);have hv:a[i]?=some v:=by simpa using Z
  have N:i<ns.length:=by lia
  have P:ns[i]?=some ns[i]:=aD N;obtain⟨t,x⟩:=y.int_at i v hv;rw[dD,P]at x
  generalize ns[i]=m at P x
  replace x:v=.int m t:=x
  subst x;obtain⟨m0,j,c⟩:=j;have J:wC d S m0 led:=j.at λo e=>z S o (by simpa using g) e;show wpAny _ A.in1 (jb [i4 m t] (setAdd S (.int m t)) >>= _) _ _ _;refine aB (h8 ?_);unfold setAdd;refine h8 (aB ((jc prog w).pyHash (k:=m) (gu _ _ _ _) ?_));refine VI (s:={ s with heap:=d,toks:=C+1 }) J (by have:=c.2.1;rw[bB]at this;lia) λH _ m1 h l O u=>?_;have K:∃m,wC H S m led/\Dd m (ns.take (i+1)):=⟨m1,l,by rw[cS,P];exact c.add O u⟩;refine aG ⟨z5 t4 _,ih (i+1) _ Fl r (B.1.at λo e=>(h.2 I (l6 g)).trans e) (B.2.at λo e=>(h.2 f (l6 M)).trans e) K λX T Q Y=>?_⟩;exact L X T (λb o p q e=>Q b o p q ((h.2 b p).trans (z b o (by simpa using q) e))) Y
end
set_option maxHeartbeats 3200000 in
def GJ{A:d1}{E:Value->Shared->Prop}{s:Shared}{l:Addr}{a:List Value}{ns:List Int}{Q:Value->Shared->Prop}
  (O:A.handled=none) (P:s.heap.IsTuple l a.toArray) (y:IntsAre a ns) (U:ns.length<1000)
  (h:∀(c:Heap)(i:Nat),(∃m,wC c s.heap.objs.size m (!eO w)/\Dd m ns)->(∀b o,s.heap.get? b=some o->c.get? b=some o)->Q (.ref s.heap.objs.size) { s with heap:=c,toks:=i }) :
  wpAny (model prog w) A (call (.type "set") [.ref l]) Q E s:=by
 obtain⟨Z,Y,S⟩:=iO.mro;have T:=iO.made;have H:=iO.sub;refine gz (fx ?_);show wpAny _ _ (callAny (.type "set") _) _ _ _;refine aG ⟨Code.quiet_builtin _ Fj,l8 PySem.F.entry_type_call ?_⟩;rw[Around.under_plain (weight_type_call_type "set" [.ref l] []) rfl];have k1:=iO.notType;have k2:=iO.canCreate;have k3:=PySem.F.typeCall_set_1 (.ref l)
 repeat (any_goals (first | assumption | wp_step))
 refine aj (IE (.ref l) (E:=E) (Q₁:=λobj K=>∃led:Bool,led=!eO w/\obj=.ref s.heap.objs.size/\K={ s with heap:=s.heap.push { cls:=.type "set",dict:=none,data:=.set #[] 0 (.fresh 0 0 led) } }) ⟨_,Fo,Fo,Fo⟩) λr K x=>?_
 cases r with
 |error e=>exact x
 |ok fl=>
  cases fl with
  |ret obj=>
   obtain⟨led,n,rfl,rfl⟩:=x;have G:(s.heap.push { cls:=.type "set",dict:=none,data:=.set #[] 0 (.fresh 0 0 led) }).get? s.heap.objs.size=some { cls:=.type "set",dict:=none,data:=.set #[] 0 (.fresh 0 0 led) }:=aV _ Fo;have X:l5 { s with heap:=s.heap.push { cls:=.type "set",dict:=none,data:=.set #[] 0 (.fresh 0 0 led) } } (.ref s.heap.objs.size) "set":=⟨_,G,Fo⟩;have k4:=iO.init.lookup;have k5:=iO.init.bind (.ref s.heap.objs.size)
   repeat (any_goals (first | assumption | wp_step))
   refine aj (nc (R:=wants (λr L=>r=.none/\∃c i,L={ s with heap:=c,toks:=i }/\(∃m,wC c s.heap.objs.size m (!eO w)/\Dd m ns)/\(∀b o,s.heap.get? b=some o->c.get? b=some o)) E) iO.init.plain PySem.F.entry_set_init (check_set_init_1 X ?_)) λW L f=>?_
   ·obtain⟨⟨J,g,C,d⟩,p,j,nl,k⟩:=P;simp only at j k;subst j;subst k;have M:(s.heap.push { cls:=.type "set",dict:=none,data:=.set #[] 0 (.fresh 0 0 led) }).get? l=some { cls:=.type "tuple",dict:=g,data:=.seq a.toArray nl,slots:=d }:=aJ _ p;have k6:=PySem.F.sub_tuple_set;have k7:=PySem.F.sub_tuple_frozenset;have k8:(j9 "tuple"==j9 "dict")=false:=by decide
    have q:(s.heap.push { cls:=.type "set",dict:=none,data:=.set #[] 0 (.fresh 0 0 led) }).IsTuple l a.toArray:=⟨_,M,Fo,nl,Fo⟩;unfold m3.«set.__init__» noKeywords Builtin.Frozenset.updateFrom
    generalize v:bg=PI
    wp_walk
    subst v;refine uc q (aB (ic ?_));have I:l<s.heap.objs.size:=bF p;have N:A.in1.in1.handled=none:=by simp[O]
    refine QI (led:=led) s.heap.objs.size ?_ (fM I) ?_ N y U a.length 0 _ Fl (cI _) ?_ ?_ ?_ λc i B u=>?_
    ·show s.heap.objs.size≠(s.heap.push _).objs.size;rw[eV];exact bS (fA _)
    ·show l≠(s.heap.push _).objs.size;rw[eV];exact bS (fB I)
    ·exact⟨_,aV _ Fo,Fo,Fo⟩
    ·exact q.at λo e=>aJ _ e
    ·exact⟨[],⟨_,#[],0,_,aJ _ G,⟨Fo,Fo,Fo⟩,Fo,.nil,⟨Fo,.nil,Fo,Fo⟩⟩,⟨.nil,cI _,λz=>Iff.rfl⟩⟩
    ·show wpAny _ _ _ _ _ _;refine aG ?_;show wpAny _ _ (ret d9) _ _ _;refine aG ⟨Fo,c,i,Fo,n▸u,λb o e=>B b o (bS (bF e)) ?_ (aJ _ (aJ _ e))⟩;show b≠(s.heap.push _).objs.size;rw[eV];exact bS (fB (bF e))
   ·cases W with
    |error e=>exact f
    |ok t=>
     cases t with
     |ret r=>
      obtain⟨rfl,c,i,rfl,u,B⟩:=f
      repeat (any_goals (first | assumption | wp_step))
      exact h _ _ u B
     |_=>exact f.elim
  |_=>exact x.elim
section
variable{prog:cM}{w:c7}{A:d1}{E:Value->Shared->Prop}{s:Shared}
def IF{a:Addr}{o:Obj}{b:Array (Int×Value)}{f:Nat}{t:SetTable}{Q:Array (Int×Value)->Shared->Prop}(e:eO w=false->(!t.plain&&decide (b.size>1))=false)(G:nF (!eO w) t b.size)(g:s.heap.get? a=some o)(hd:o.data=.set b f t)
  (h:Q (vA w a f b) s):wpAny (model prog w) A (setWalk a) Q E s:=by
 unfold setWalk;refine aB (j8 g hd G.fits ?_);dsimp only;unfold gy;refine aB (aB (y3 (aG ?_)));unfold vA at h;show wpAny _ _ (if eO w=true then _ else _) _ _ _;by_cases d:eO w=true
 ·rw[a7 d]at h |-
  exact aB (y3 (aG h))
 ·have c:eO w=false:=by simpa using d
  rw[a6 d]at h |-
  show wpAny _ _ (if(!t.plain&&decide (b.size>1))=true then _ else _) _ _ _;rw[a6 (by rw[e c];decide)];refine aB ?_;show wpAny _ _ (if(!t.led&&decide (b.size>1))=true then _ else _) _ _ _;rw[G.led,c,a6 (show¬((!(!false)&&decide (b.size>1))=true)from bN)];exact aG (aG h)
noncomputable def oF(w:c7)(t:SetTable)(i:Nat):Nat:=if eO w=true then 0 else qT t i
def zE{a:Addr}{o:Obj}{b:Array (Int×Value)}{g i:Nat}{t:SetTable}{Q:Option (Value×Nat)->Shared->Prop}(f:eO w=false->(!t.plain&&decide (b.size>1))=false)(G:nF (!eO w) t b.size)(r:s.heap.get? a=some o)(hd:o.data=.set b g t)(z:i<=b.size)
  (h:Q (((vA w a g b)[i]?).map λe=>(e.2,oF w t (i+1))) s):wpAny (model prog w) A (um a (oF w t i) i g) Q E s:=by
 unfold um;refine aB (j8 r hd G.fits ?_);dsimp only;unfold gy;refine aB (aB (y3 (aG ?_)));show wpAny _ _ (if eO w=true then _ else _) _ _ _;by_cases c:eO w=true
 ·rw[a7 c];rw[a6 Fm];refine aB (IF f G r hd (aG ?_));have k:oF w t i=0:=by unfold oF;rw[a7 c]
  have l:oF w t (i+1)=0:=by unfold oF;rw[a7 c]
  rw[k];rw[l]at h;exact h
 ·have d:eO w=false:=by simpa using c
  rw[a6 c];show wpAny _ _ (if(!t.plain&&decide (b.size>1))=true then _ else _) _ _ _;rw[a6 (by rw[f d];decide)];refine aB ?_;show wpAny _ _ (if(!t.led&&!b.isEmpty)=true then _ else _) _ _ _;rw[G.led,d,a6 (show¬((!(!false)&&!b.isEmpty)=true)from bN)];refine aG (aG ?_);have k:oF w t i=qT t i:=by unfold oF;rw[a6 c]
  have l:oF w t (i+1)=qT t (i+1):=by unfold oF;rw[a6 c]
  have u:l7 t.place (qT t i)=i:=MF G.rise (by rw[G.size];exact z);have v:vA w a g b=b:=by unfold vA;rw[a6 c]
  rw[l,v]at h;rw[k];show Q (match b[l7 t.place (qT t i)]?,t.place[l7 t.place (qT t i)]? with | some (_,x),some j=>some (x,j+1) | _,_=>none) s;rw[u];by_cases p:i<b.size
  ·have m:b[i]?=some (b[i]' Fl):=bV Fl;have n:i<t.place.size:=by rw[G.size];exact p
   have q:t.place[i]?=some t.place[i]:=bV n;rw[m]at h |-
   rw[q]
   have y:qT t (i+1)=t.place[i]+1:=by
    unfold qT;rw[a6 (aAq _),Nat.add_sub_cancel,lB,q];rfl
   rw[y]at h;exact h
  ·have m:b[i]?=none:=eY Fl;rw[m]at h |-
   exact h
end
noncomputable def QK(w:c7)(S:Addr)(t:SetTable)(n:Nat)(a i:Nat):Array Value:=#[.int (oF w t i) 0,.int i 0,.ref S,.int n 0,.int a 0]
def CU(w:c7)(h:Heap)(I S:Addr)(t:SetTable)(n:Nat)(a i:Nat):Prop:=∃o,h.get? I=some o/\o.cls=.type "set_iterator"/\o.data=.fields (QK w S t n a i)
def sE(h:Heap)(S:Addr)(b:Array (Int×Value))(a:Nat)(t:SetTable):Prop:=∃o,h.get? S=some o/\o.ExactSet/\o.data=.set b a t
section
variable{prog:cM}{w:c7}{A:d1}{E:Value->Shared->Prop}{s:Shared}{I S:Addr}{t:SetTable}{d:Nat}{c:Array (Int×Value)}
def ID{i:Nat}{x:Int×Value}{Q:Option Value->Shared->Prop}(g:eO w=false->(!t.plain&&decide (c.size>1))=false)(G:nF (!eO w) t c.size)(h:CU w s.heap I S t c.size d i)(p:sE s.heap S c d t)(r:i<c.size)(u:(vA w S d c)[i]?=some x)
  (n:∀f,CU w f I S t c.size d (i+1)->cU I s.heap f->Q (some x.2) { s with heap:=f }):wpAny (model prog w) A (u3 (.ref I)) Q E s:=by
 obtain⟨o,e,l,hd⟩:=id h;obtain⟨v,b,hex,a⟩:=id p;have k:s.TypeIs (.ref I) "set_iterator":=⟨o,e,l⟩;have q:=G.fits;unfold u3;refine aB (m9 (d7 (name:=c6 "__next__") k fP (dL fP k lM ?_ (mK _))));show wpAny _ _ (qy (.ref I) >>= _) _ _ s;refine aB (o9 e hd ?_);show wpAny _ _ (gx S >>= _) _ _ s;refine aB (o6 b a q ?_);rw[a6 Fm];show wpAny _ _ (um S (oF w t i) i d >>= _) _ _ s;refine aB (zE g G b a (iU r) ?_);rw[u];show wpAny _ _ (bo (.ref I) 0 (h9 (oF w t (i+1))) >>= _) _ _ s;refine aB (l3 e hd (by simp[QK]) ?_);have j:=fD (am (·.setIfInBounds 0 (h9 (oF w t (i+1))))) e (u2 (e9 hd _));refine aB (l3 j (e9 hd _) (by simp[QK]) ?_);have m:=fD (am (·.setIfInBounds 1 (h9 ((i:Int)+1)))) j (u2 (e9 (e9 hd _) _));refine aG ⟨x.2,Fo,aG (n _ ?_ ((cU.update ..).trans (cU.update ..)))⟩
 exact⟨_,m,(bb ..).trans ((bb ..).trans l),by
  rw[e9 (e9 hd _)];rfl⟩
def KS{Q:Option Value->Shared->Prop}(l:A.handled=none)(g:eO w=false->(!t.plain&&decide (c.size>1))=false)(G:nF (!eO w) t c.size)(h:CU w s.heap I S t c.size d c.size)(p:sE s.heap S c d t)(u:(vA w S d c)[c.size]?=none)
  (n:∀j,C2 I s.heap j->Q none { s with heap:=j }):wpAny (model prog w) A (u3 (.ref I)) Q E s:=by
 obtain⟨o,i,q,hd⟩:=id h;obtain⟨v,f,hex,e⟩:=id p;have k:s.TypeIs (.ref I) "set_iterator":=⟨o,i,q⟩;have r:=G.fits;unfold u3;refine aB (m9 (d7 (name:=c6 "__next__") k fP (dL fP k lM ?_ (mK _))));show wpAny _ _ (qy (.ref I) >>= _) _ _ s;refine aB (o9 i hd ?_);show wpAny _ _ (gx S >>= _) _ _ s;refine aB (o6 f e r ?_);rw[a6 Fm];show wpAny _ _ (um S (oF w t c.size) c.size d >>= _) _ _ s;refine aB (zE g G f e (aN _) ?_);rw[u];show wpAny _ _ (bo (.ref I) 2 .none >>= _) _ _ s;refine aB (l3 i hd (by simp[QK]) ?_);show wpAny _ _ (ez (.type "StopIteration") [] >>= _) _ _ _;refine aB ?_;simp only[ez,rm];refine aB (dI ?_ (by size_fits));refine aB (m:=o8 _ _) (cw (a:=d9) (by first | rfl | (simp only[o8];rfl)) ?_);refine dI ?_ (by size_fits);simp only[rr];refine aB (dk ?_)
 first | rw[show A.in1.handled=none from l] | rw[l]
 refine aB (aG (fu ?_));refine aB (y4 (T:="StopIteration") (b:=true) ⟨_,aV _ Fo,Fo⟩ cq ?_);exact aG (n _ (((cU.update ..).extBut.push _).push _))
def IC{i:Nat}{Q:Value->Shared->Prop}(b:CU w s.heap I S t c.size d i)(h:Q (.ref I) s):wpAny (model prog w) A (bg (.ref I)) Q E s:=by
 obtain⟨o,f,e,hd⟩:=b;have a:s.TypeIs (.ref I) "set_iterator":=⟨o,f,e⟩;refine m6 a mG (dL mG a rF ?_ (sN _));show wpAny _ _ (ret (.ref I)) _ _ s;exact aG ⟨_,Fo,"set_iterator",_,a,fP.lookup,h⟩
def O7{Q:Value->Shared->Prop}(f:eO w=false->(!t.plain&&decide (c.size>1))=false)(G:nF (!eO w) t c.size)(l:sE s.heap S c d t)
  (h:Q (.ref s.heap.objs.size) { s with heap:=s.heap.push { cls:=.type "set_iterator",data:=.fields (QK w S t c.size d 0) } }):wpAny (model prog w) A (bg (.ref S)) Q E s:=by
 obtain⟨n,a,hex,b⟩:=id l;have i:s.TypeIs (.ref S) "set":=⟨n,a,hex.1⟩;have g:=G.fits;refine m6 i nO (dL nO i tZ ?_ (E6 _));show wpAny _ _ (o7 S >>= _) _ _ s;unfold o7;refine aB (aB (o6 a b g (aG ?_)));unfold setDrawn gy;refine aB (aB (j8 a b g ?_));refine aB (aB (y3 (aG (aG ?_))))
 have e:(!eO w&&(!t.plain&&decide (c.size>1)))=false:=by
  cases m:eO w with
  |true=>rfl
  |false=>rw[f m];rfl
 show wpAny _ _ (if(!eO w&&(!t.plain&&decide (c.size>1)))=true then _ else _) _ _ _;rw[a6 (by rw[e];decide)];refine aB (aG ?_);unfold setEpoch;refine aB (aB (j8 a b g (aG ?_)));have j:oF w t 0=0:=by unfold oF;split<;>rfl
 have k:Q (.ref s.heap.objs.size) { s with heap:=s.heap.push { cls:=.type "set_iterator",data:=.fields #[h9 0,h9 0,.ref S,h9 c.size,h9 d] } }:=by
  unfold QK at h;rw[j]at h;exact h
 exact aB (dI (aG ⟨_,Fo,"set_iterator",_,⟨_,aV _ Fo,Fo⟩,fP.lookup,k⟩))
end
section
variable{prog:cM}{w:c7}{A:d1}{E:Value->Shared->Prop}{s:Shared}{S:Addr}{t:SetTable}{ep:Nat}{a:Array (Int×Value)}
def OW(hh:A.handled=none)(I:Addr)(im:S≠I)(vj:eO w=false->(!t.plain&&decide (a.size>1))=false)(G:nF (!eO w) t a.size) :
  Walks prog w A I [I,S] [I] a.size (λi v=>∃x,(vA w S ep a)[i]?=some x/\v=x.2) (λi h=>CU w h I S t a.size ep i/\sE h S a ep t) where
 sub:=λb hb=>by simp at hb;simp[hb]
 frame:=λ_ _ _ st hk=>by
  obtain⟨⟨o,ho,r⟩,⟨p,hp,q⟩⟩:=st;exact⟨⟨o,hk I Fm o ho,r⟩,⟨p,hk S Fm p hp,q⟩⟩
 item:=λi s Q E hi st hQ=>by
  have hsz:(vA w S ep a).size=a.size:=by rw[<- bQ,(wW w S ep a).length_eq,bQ]
  have hx:(vA w S ep a)[i]?=some ((vA w S ep a)[i]' Fl):=bV Fl;refine ID vj G st.1 st.2 hi hx λh' gr sq=>?_;obtain⟨p,hp,q⟩:=st.2;exact hQ _ h' s.toks ⟨_,hx,Fo⟩ ⟨gr,⟨p,sq.extBut S p im hp,q⟩⟩ λb o hb e=>sq.extBut b o (λh=>hb (by simp[h])) e
 done:=λs Q E st hQ=>by
  have hsz:(vA w S ep a).size=a.size:=by rw[<- bQ,(wW w S ep a).length_eq,bQ]
  exact KS hh vj G st.1 st.2 (eY Fl) λh' vm=>hQ h' s.toks λb o hb e=>vm b o (λh=>hb (by simp[h])) e
 self:=λ_ _ _ _ st hQ=>IC st.1 hQ
end
section
variable{prog:cM}{w:c7}{A:d1}{E:Value->Shared->Prop}{s:Shared}
noncomputable def kI(S T:Addr)(n a i:Nat):Array Value:=#[.ref T,.int i 0,.ref S,.int n 0,.int a 0]
def WK(h:Heap)(I S T:Addr)(g:List Nat)(n a i:Nat):Prop:=(∃o,h.get? I=some o/\o.cls=.type "set_iterator"/\o.data=.fields (kI S T n a i))/\∃o c,h.get? T=some o/\o.data=.seq (g.map λ(p:Nat)=>i4 p 0).toArray c
variable{I S T:Addr}{t:SetTable}{ep:Nat}{f:Array (Int×Value)}{g:List Nat}
def QN{i p:Nat}{x:Int×Value}{Q:Option Value->Shared->Prop}(j:T≠I)(G:nF (!eO w) t f.size)(l:WK s.heap I S T g f.size ep i)(y:sE s.heap S f ep t)(B:g[i]?=some p)(C:f[p]?=some x)
  (v:∀h,WK h I S T g f.size ep (i+1)->cU I s.heap h->Q (some x.2) { s with heap:=h }):wpAny (model prog w) A (u3 (.ref I)) Q E s:=by
 obtain⟨⟨o,e,n,hd⟩,F,r,d,b⟩:=id l;obtain⟨H,c,hex,a⟩:=id y;have m:s.TypeIs (.ref I) "set_iterator":=⟨o,e,n⟩;have q:=G.fits;unfold u3;refine aB (m9 (d7 (name:=c6 "__next__") m fP (dL fP m lM ?_ (mK _))));show wpAny _ _ (qy (.ref I) >>= _) _ _ s;refine aB (o9 e hd ?_);show wpAny _ _ (gx S >>= _) _ _ s;refine aB (o6 c a q ?_);rw[a6 Fm];show wpAny _ _ (seqItems? (.ref T) >>= _) _ _ s;refine aB (cx d b ?_);dsimp only
 have z:(g.map λ(p:Nat)=>i4 p 0).toArray[((i:Int)).toNat]?=some (.int (p:Int) 0):=by
  rw[dY,MU,aI,B];rfl
 rw[z];dsimp only;unfold setNextDrawn;refine aB (aB (j8 c a q ?_));dsimp only;rw[a6 Fm];have k:f[((p:Int)).toNat]?=some x:=by rw[dY];exact C
 rw[k];refine aG ?_;refine aB (l3 e hd (by simp[kI]) ?_);have u:=fD (am (·.setIfInBounds 1 (h9 ((i:Int)+1)))) e (u2 (e9 hd _));refine aG ⟨x.2,Fo,aG (v _ ⟨⟨_,u,(bb ..).trans n,by rw[e9 hd];rfl⟩,F,r,?_,b⟩ (cU.update ..))⟩;exact(iG _ _ (l6 j)).trans d
def V3{Q:Option Value->Shared->Prop}(n:A.handled=none)(G:nF (!eO w) t f.size)(h:WK s.heap I S T g f.size ep f.size)(u:sE s.heap S f ep t)(z:g.length=f.size)
  (r:∀k,C2 I s.heap k->Q none { s with heap:=k }):wpAny (model prog w) A (u3 (.ref I)) Q E s:=by
 obtain⟨⟨o,c,v,hd⟩,F,B,j,e⟩:=id h;obtain⟨C,i,hex,d⟩:=id u;have l:s.TypeIs (.ref I) "set_iterator":=⟨o,c,v⟩;have x:=G.fits;unfold u3;refine aB (m9 (d7 (name:=c6 "__next__") l fP (dL fP l lM ?_ (mK _))));show wpAny _ _ (qy (.ref I) >>= _) _ _ s;refine aB (o9 c hd ?_);show wpAny _ _ (gx S >>= _) _ _ s;refine aB (o6 i d x ?_);rw[a6 Fm];show wpAny _ _ (seqItems? (.ref T) >>= _) _ _ s;refine aB (cx j e ?_);dsimp only
 have y:(g.map λ(p:Nat)=>i4 p 0).toArray[((f.size:Int)).toNat]?=none:=by
  rw[dY,MU,eP (by rw[aC,z];exact aN _)]
 rw[y];dsimp only;show wpAny _ _ (bo (.ref I) 0 (h9 0) >>= _) _ _ s;refine aB (l3 c hd (by simp[kI]) ?_);have q:=fD (am (·.setIfInBounds 0 (h9 0))) c (u2 (e9 hd _));refine aB (l3 q (e9 hd _) (by simp[kI]) ?_);show wpAny _ _ (ez (.type "StopIteration") [] >>= _) _ _ _;refine aB ?_;simp only[ez,rm];refine aB (dI ?_ (by size_fits));refine aB (m:=o8 _ _) (cw (a:=d9) (by first | rfl | (simp only[o8];rfl)) ?_);refine dI ?_ (by size_fits);simp only[rr];refine aB (dk ?_)
 first | rw[show A.in1.handled=none from n] | rw[n]
 refine aB (aG (fu ?_));refine aB (y4 (T:="StopIteration") (b:=true) ⟨_,aV _ Fo,Fo⟩ cq ?_);exact aG (r _ ((((cU.update ..).trans (cU.update ..)).extBut.push _).push _))
def QM{i n:Nat}{Q:Value->Shared->Prop}(b:WK s.heap I S T g n ep i)(h:Q (.ref I) s):wpAny (model prog w) A (bg (.ref I)) Q E s:=by
 obtain⟨⟨o,d,c,hd⟩,_⟩:=b;have a:s.TypeIs (.ref I) "set_iterator":=⟨o,d,c⟩;refine m6 a mG (dL mG a rF ?_ (sN _));show wpAny _ _ (ret (.ref I)) _ _ s;exact aG ⟨_,Fo,"set_iterator",_,a,fP.lookup,h⟩
def XH(hh:A.handled=none)(im:S≠I)(Ba:T≠I)(G:nF (!eO w) t f.size)(yt:iQ g (cR f.size)) :
  Walks prog w A I [I,S,T] [I] f.size (λi v=>∃p x,g[i]?=some p/\f[p]?=some x/\v=x.2) (λi h=>WK h I S T g f.size ep i/\sE h S f ep t) where
 sub:=λb hb=>by simp at hb;simp[hb]
 frame:=λ_ _ _ st hk=>by
  obtain⟨⟨⟨o,ho,r⟩,oT,cT,Ck,Bl⟩,⟨p,hp,q⟩⟩:=st;exact⟨⟨⟨o,hk I Fm o ho,r⟩,oT,cT,hk T Fm oT Ck,Bl⟩,⟨p,hk S Fm p hp,q⟩⟩
 item:=λi s Q E hi st hQ=>by
  have jm:g.length=f.size:=by rw[yt.length_eq,fU]
  have hp:g[i]?=some g[i]:=aD Fl;have wb:g[i]<f.size:=nQ.mp (yt.mem_iff.mp (fK Fl));have hx:f[g[i]]?=some (f[g[i]]' Fl):=bV Fl;refine QN Ba G st.1 st.2 hp hx λh' gr sq=>?_;obtain⟨p,td,q⟩:=st.2;exact hQ _ h' s.toks ⟨_,_,hp,hx,Fo⟩ ⟨gr,⟨p,sq.extBut S p im td,q⟩⟩ λb o hb e=>sq.extBut b o (λh=>hb (by simp[h])) e
 done:=λs Q E st hQ=>by
  have jm:g.length=f.size:=by rw[yt.length_eq,fU]
  exact V3 hh G st.1 st.2 jm λh' vm=>hQ h' s.toks λb o hb e=>vm b o (λh=>hb (by simp[h])) e
 self:=λ_ _ _ _ st hQ=>QM st.1 hQ
def O8{Q:Value->Shared->Prop}(G:nF (!eO w) t f.size)(o:sE s.heap S f ep t)(q:eO w=false)(j:t.plain=false)(u:f.size<=1000)(n:1<f.size)
  (h:∀g d,iQ g (cR f.size)->Q (.ref (s.heap.objs.size+1)) { s with heap:=(s.heap.push { cls:=.type "tuple",data:=.seq (g.map λ(p:Nat)=>i4 p 0).toArray }).push { cls:=.type "set_iterator",data:=.fields (kI S s.heap.objs.size f.size ep 0) },drawn:=d }):wpAny (model prog w) A (bg (.ref S)) Q E s:=by
 obtain⟨r,a,hex,b⟩:=id o;have l:s.TypeIs (.ref S) "set":=⟨r,a,hex.1⟩;have c:=G.fits;refine m6 l nO (dL nO l tZ ?_ (E6 _));show wpAny _ _ (o7 S >>= _) _ _ s;unfold o7;refine aB (aB (o6 a b c (aG ?_)));unfold setDrawn gy;refine aB (aB (j8 a b c ?_));refine aB (aB (y3 (aG (aG ?_))));have e:(!eO w&&(!t.plain&&decide (f.size>1)))=true:=by rw[q,j,a8 n];rfl
 show wpAny _ _ (if(!eO w&&(!t.plain&&decide (f.size>1)))=true then _ else _) _ _ _;rw[a7 e];refine aB (CG f.size (cR f.size) _ _ (fU ..) λg d m=>?_);have i:g.length=f.size:=by rw[m.length_eq,fU]
 refine aB (ia ?_ (by rw[aC,i,w6];lia));unfold setEpoch;refine aB (aB (j8 (aJ _ a) b c (aG ?_)));have k:=h g d m;unfold kI at k;have z:(s.heap.push { cls:=.type "tuple",data:=.seq (g.map λ(p:Nat)=>i4 p 0).toArray }).objs.size=s.heap.objs.size+1:=eV ..;refine aB (dI ?_);refine aG ⟨_,Fo,"set_iterator",_,⟨_,aV _ Fo,Fo⟩,fP.lookup,?_⟩;show Q (.ref (s.heap.push { cls:=.type "tuple",data:=.seq (g.map λ(p:Nat)=>i4 p 0).toArray }).objs.size) _;rw[z];exact k
end
section
variable{prog:cM}{w:c7}{A:d1}{E:Value->Shared->Prop}{s:Shared}{S:Addr}{t:SetTable}{f:Nat}{a:Array (Int×Value)}
def PN{c:Type}{xs:List c}:∀{b ns:List Nat},iQ b ns->iQ (b.filterMap λp=>xs[p]?) (ns.filterMap λp=>xs[p]?):=λh=>h.filterMap _
def GH{Q:List Value->Shared->Prop}(hh:A.handled=none)(G:nF (!eO w) t a.size)(hz:a.size<=1000)(hS:sE s.heap S a f t)
  (hQ:∀Z tk d vs,s.heap.objs.size<=Z.objs.size->(∀b o,s.heap.get? b=some o->Z.get? b=some o)->iQ vs (a.toList.map (·.2))->Q vs { s with heap:=Z,toks:=tk,drawn:=d }):wpAny (model prog w) A (uh (.ref S)) Q E s:=by
 obtain⟨M,gV,hex,u⟩:=id hS;have L:S<s.heap.objs.size:=bF gV;unfold uh;refine aB (ic (l8 A8 ?_));rw[i9 A7 _];show wpAny _ A.in1 (uk [] >>= λr=>again (.builtin "list.__iadd__" ⟨[r,.ref S],[]⟩)) _ _ s;refine aB (dI ?_);refine aG ⟨z5 mR _,l8 E5 ?_⟩;rw[i9 mR _]
 generalize hH:s.heap.push { cls:=.type "list",data:=.seq ([]:List Value).toArray }=H1
 have gL:H1.get? s.heap.objs.size=some { cls:=.type "list",data:=.seq ([]:List Value).toArray }:=by rw[<- hH];exact aV _ Fo
 have z1:H1.objs.size=s.heap.objs.size+1:=by rw[<- hH,eV]
 have k1:∀b o,s.heap.get? b=some o->H1.get? b=some o:=λb o e=>by rw[<- hH];exact aJ _ e
 have O:=k1 S M gV;have tS:l5 { s with heap:=H1 } (.ref S) "set":=⟨M,O,hex.1⟩;show wpAny _ A.in1 (g9 (.ref s.heap.objs.size) (.ref S) (.ref s.heap.objs.size)) _ _ _;unfold g9;refine aB (al tS ?_)
 have b1:cy (.ref s.heap.objs.size) (.ref S)=false:=by
  show(s.heap.objs.size==S)=false;exact beq_eq_false_iff_ne.mpr (fM L)
 have b2:(j9 "set"==j9 "list")=false:=by decide
 have b3:(j9 "set"==j9 "tuple")=false:=by decide
 simp only[b1,b2,b3,xT,eH,h7]
 have J:∀Q' E',(∀(B:Heap)(d:Drawn)(I:Addr)fp(P:Nat->Value->Prop)(St:Nat->Heap->Prop),(∀b o,H1.get? b=some o->B.get? b=some o)->H1.objs.size<=I->(∀b∈fp,b≠s.heap.objs.size)->Walks prog w A.in1 I fp [I] a.size P St->(∀y:Heap,(∀b o,b≠s.heap.objs.size->B.get? b=some o->y.get? b=some o)->St 0 y)->(∀g:Array Value,ItemsOf P g a.size->iQ g.toList (a.toList.map (·.2)))->Q' (.ref I) { s with heap:=B,drawn:=d })->wpAny (model prog w) A.in1 (bg (.ref S)) Q' E' { s with heap:=H1 }:=λQ' E' hq=>by
  have H:A.in1.handled=none:=by simp[hh]
  by_cases k:eO w=true\/t.plain=true\/a.size<=1
  ·have vj:eO w=false->(!t.plain&&decide (a.size>1))=false:=λj=>by
    rcases k with z | z
    ·rw[j]at z;cases z
    ·rcases z with z | z
     ·rw[z];rfl
     ·rw[c4 Fl];simp
   refine O7 vj G (s:={ s with heap:=H1 }) ⟨M,O,hex,u⟩ ?_;have C:S≠H1.objs.size:=by rw[z1];exact bS (fB L)
   refine hq _ s.drawn _ _ _ _ (λb o e=>aJ _ e) (aN _) (λb j=>?_) (OW (prog:=prog) (w:=w) (A:=A.in1) (ep:=f) H H1.objs.size C vj G) (λy v=>?_) λg h=>?_
   ·simp only[aY,dS,j5]at j;rcases j with rfl | rfl
    ·rw[z1];exact fM (fA _)
    ·exact bS L
   ·exact⟨⟨_,v _ _ (by rw[z1];exact fM (fA _)) (aV _ Fo),Fo,Fo⟩,⟨M,v _ _ (bS L) (aJ _ O),hex,u⟩⟩
   ·have hsz:(vA w S f a).size=a.size:=by rw[<- bQ,(wW w S f a).length_eq,bQ]
    have ea:g.toList=(vA w S f a).toList.map (·.2):=by
     apply gY;intro i;rw[aI,eD,eD];by_cases hi:i<a.size
     ·have m:i<g.size:=by have:=h.1;lia
      obtain⟨x,hx,hv⟩:=h.2 i g[i] (bV m);rw[bV m,hx,hv];rfl
     ·rw[eY (by have:=h.1;lia),eY Fl];rfl
    rw[ea];exact(wW w S f a).map _
  ·have j:eO w=false:=by
    cases j:eO w with
    |true=>exact a9 (.inl j) k
    |false=>rfl
   have h1:1<a.size:=by
    by_cases z:a.size<=1
    ·exact a9 (.inr (.inr z)) k
    ·lia
   have xg:t.plain=false:=by
    cases z:t.plain with
    |true=>exact a9 (.inr (.inl z)) k
    |false=>rfl
   refine O8 G (s:={ s with heap:=H1 }) ⟨M,O,hex,u⟩ j xg hz h1 λl d n=>?_;have z2:H1.objs.size≠H1.objs.size+1:=bS (fA _);have C:S≠H1.objs.size+1:=by rw[z1];exact bS (fB (fB L))
   have z3:(H1.push { cls:=.type "tuple",data:=.seq (l.map λ(p:Nat)=>i4 p 0).toArray }).objs.size=H1.objs.size+1:=eV ..;refine hq _ d _ [H1.objs.size+1,S,H1.objs.size] _ _ (λb o e=>aJ _ (aJ _ e)) (C5 _) (λb j=>?_) (XH (prog:=prog) (w:=w) (A:=A.in1) (ep:=f) (T:=H1.objs.size) H C z2 G n) (λy v=>?_) λg h=>?_
   ·simp only[aY,dS,j5]at j;rcases j with rfl | rfl | rfl
    ·rw[z1];exact fM (fB (fA _))
    ·exact bS L
    ·rw[z1];exact fM (fA _)
   ·have g1:((H1.push { cls:=.type "tuple",data:=.seq (l.map λ(p:Nat)=>i4 p 0).toArray }).push { cls:=.type "set_iterator",data:=.fields (kI S H1.objs.size a.size f 0) }).get? (H1.objs.size+1)=some { cls:=.type "set_iterator",data:=.fields (kI S H1.objs.size a.size f 0) }:=by rw[<- z3];exact aV _ Fo
    have g2:((H1.push { cls:=.type "tuple",data:=.seq (l.map λ(p:Nat)=>i4 p 0).toArray }).push { cls:=.type "set_iterator",data:=.fields (kI S H1.objs.size a.size f 0) }).get? H1.objs.size=some { cls:=.type "tuple",data:=.seq (l.map λ(p:Nat)=>i4 p 0).toArray }:=aJ _ (aV _ Fo);exact⟨⟨⟨_,v _ _ (by show H1.objs.size+1≠_;rw[z1];exact fM (fB (fA _))) g1,Fo,Fo⟩,_,_,v _ _ (by rw[z1];exact fM (fA _)) g2,Fo⟩,⟨M,v _ _ (bS L) (aJ _ (aJ _ O)),hex,u⟩⟩
   ·have jm:l.length=a.size:=by rw[n.length_eq,fU]
    have ea:g.toList=(l.filterMap λp=>a.toList[p]?).map (·.2):=by
     have e0:∀p∈l,p<a.size:=λp R=>by exact nQ.mp (n.mem_iff.mp R)
     have e1:(l.filterMap λp=>a.toList[p]?)=l.attach.map λp=>a[p.1]'(e0 p.1 p.2):=by
      clear h jm n z3
      induction l with
      |nil=>rfl
      |cons p l ih=>
       have R:=e0 p (aS ..);rw[gD,eD,bV R];dsimp only;rw[ih λq hq=>e0 q (aO _ hq),List.attach_cons,bE,bM]
       rfl
     rw[e1,bM];apply gY;intro i;rw[eD,aI];by_cases hi:i<a.size
     ·have m:i<g.size:=by have:=h.1;lia
      obtain⟨p,x,R,hx,hv⟩:=h.2 i g[i] (bV m);have K:i<l.length:=by lia
      have Cm:l[i]=p:=by rw[aD K]at R;exact c5 R
      rw[bV m,aD (by rw[RH];exact K),hv];simp only[WO,List.getElem_attach,Function.comp];subst Cm;rw[bV (e0 _ (fK K))]at hx;rw[c5 hx]
     ·rw[eY (by have:=h.1;lia),eP (by rw[RH];lia)];rfl
    rw[ea];have hr:(cR a.size).filterMap (λp=>a.toList[p]?)=a.toList:=by rw[<- bQ];exact List.filterMap_getElem?_range_length _
    have:=(PN (xs:=a.toList) n);rw[hr]at this;exact this.map _
 refine aB (J _ _ λB d I fp P St k2 hI vo W0 Dp yr=>?_);refine aB (h8 ?_);have N:l5 { s with heap:=B,drawn:=d } (.ref S) "set":=⟨M,k2 _ _ O,hex.1⟩;unfold Builtin.List.listLengthHint;refine aB (v0 N PySem.F.slot_set_len.lookup ?_);have yx:splitId "set.__len__"=some ("set","__len__"):=by decide +kernel
 dsimp only;rw[yx];dsimp only;refine aB (y4 (T:="set") (b:=true) N ik ?_);rw[a6 Fk];rw[a7 Fj];refine aB (al N ?_);refine aG ?_;rw[a7 Fj];refine aB (n8 (aB ?_));have U:=k2 _ _ gL;show wpAny _ A.in1 (fe s.heap.objs.size (·.push .none) >>= λ_=>fe s.heap.objs.size (·.pop)) _ _ _;refine aB (aa U Fo ?_);have X:=fD (d0 (·.push d9)) U Fo;refine aa X Fo ?_;have Y:=fD (d0 (·.pop)) X Fo
 generalize zu:(B.update s.heap.objs.size (d0 (·.push d9))).update s.heap.objs.size (d0 (·.pop))=y
 rw[zu]at Y
 have v:∀b o,b≠s.heap.objs.size->B.get? b=some o->y.get? b=some o:=λb o j e=>by
  rw[<- zu];exact(iG _ _ (l6 j)).trans ((iG _ _ (l6 j)).trans e)
 obtain⟨c0,An⟩:∃c,y.get? s.heap.objs.size=some { cls:=.type "list",dict:=none,data:=.seq #[] c,slots:=#[] }:=⟨_,Y⟩;have H:A.in1.handled=none:=by simp[hh]
 have Ax:s.heap.objs.size∉fp:=λz=>vo _ z Fo;have st:=Dp y v;have W:=W0.toS;refine aG ⟨z5 pS _,ng W (by rw[w6];lia) _ Ax _ a.size 0 _ _ _ Fo (cI _) st An (ItemsOf.nil _) λs' g c hm zv h=>?_⟩;obtain⟨Z,g',d',zk,Dj⟩:=s';have eg:g'=s.gens:=hm.gens;have ed:d'=d:=hm.drawn;have eo:Dj=s.os:=hm.os;subst eg;subst ed;subst eo;show wpAny _ A (load s.heap.objs.size >>= _) _ _ _;refine aB (bz zv (aG ?_));refine hQ Z zk d' _ (iU (bF zv)) (λb o e=>hm.heap b o ?_ (v b o (bS (bF e)) (k2 b o (k1 b o e)))) (yr g h);have lb:=bF e;simp only[aY,dS,j5,Aa];exact⟨bS lb,bS (cX (fB lb) (by rw[z1]at hI;exact hI))⟩
end
def QC(h:IntsAre us xs)(p:iQ vs us):∃c,IntsAre vs c/\iQ c xs:=by
 induction p generalizing xs with
 |nil=>exact⟨xs,h,.refl _⟩
 |cons a p m=>
  cases h with
  |cons k t h=>obtain⟨c,d,e⟩:=m h;exact⟨_,.cons k t d,e.cons _⟩
 |swap a b l=>
  cases h with
  |cons k t h=>cases h with
   |cons n o h=>exact⟨_,.cons n o (.cons k t h),.swap ..⟩
 |trans p q i j=>
  obtain⟨c,d,e⟩:=j h;obtain⟨ns,f,g⟩:=i d;exact⟨ns,f,g.trans e⟩
section
variable{prog:cM}{w:c7}{A:d1}{E:Value->Shared->Prop}{s:Shared}{S:Addr}{m:List Int}
def HZ{Q:Value->Shared->Prop}(K:A.handled=none)(I:wC s.heap S m (!eO w))(j:m.Nodup)(f:m.length<=60)
  (h:∀a n d (r:Addr) (out:Array Value) e,s.heap.objs.size<=r->(∀b o,s.heap.get? b=some o->a.get? b=some o)->a.get? r=some (f8 "list" out e)->(∃p,IntsAre out.toList p/\p.Pairwise (·<·)/\p.Perm m)->Q (.ref r) { s with heap:=a,toks:=n,drawn:=d }) :
  wpAny (model prog w) A (call (.builtin "sorted") [.ref S]) Q E s:=by
 obtain⟨o,G,O,t,L,hex,hd,q,g⟩:=I;have N:G.size<=60:=by rw[<- bQ,q.len];exact f
 refine ej kind_sorted plain_sorted entry_sorted (args_sorted1 _) ?_;unfold m3.«sorted»;refine aB (m:=checkCount "sorted" 1 1 _) (aG ?_);refine aB (GH (by simp[K]) g Fl ⟨o,L,hex,hd⟩ λa n d vs l y v=>?_);have M:vs.length<=60:=by rw[v.length_eq,aC,bQ];exact N
 obtain⟨ns,H,k⟩:=QC (EL q) v;refine aB (ir ?_ (by rw[w6];lia));have c:(a.push (f8 "list" vs.toArray 0)).get? a.objs.size=some (f8 "list" vs.toArray 0):=aV _ Fo;refine aB (h8 (dL slot_list_sort ⟨_,c,Fo⟩ entry_list_sort (list_sort_tree c H Fl λout B a1 a2 F=>⟨_,Fo,?_⟩) (args_list_sort _)));have C:=a2.trans k;have i:B.Pairwise (·<·):=(List.pairwise_and_iff.mpr ⟨F,C.nodup_iff.mpr j⟩).imp λh=>by have:=h.1;have:=h.2;lia
 obtain⟨e,J⟩:=sortedHeap_at (out:=out) c;refine aG ⟨_,Fo,h _ n d a.objs.size out e l (λb u x=>?_) J ⟨B,a1,i,C⟩⟩;have z:=bF (y b u x);rw[sortedHeap_old (bS z) (cX z (by rw[eV];exact C5 _))];exact aJ _ (y b u x)
end
noncomputable def Hr(w:c7)(q:Addr)(l:List Int):HO:=.ext λh=>∃m,wC h q m (!eO w)/\m.Nodup/\m.length<=60/\∀z,z∈m↔z∈l
noncomputable def Y4(l:List Int):List V:=l.map V.int
section
variable{X:Cx}
def L1(X:Cx):List V->Hp->VK->Prop:=λa H Q=>∃(p:Addr)(ns:List Int),a=[.ref p]/\rN X.K H p (Y4 ns)/\ns.length<=60/\∀q,H q=none->Q (.ref q) (gG H q (Hr X.w q ns))
def SK(X:Cx):List V->Hp->VK->Prop:=λb H Q=>∃(q:Addr)(l:List Int),b=[.ref q]/\H q=some (Hr X.w q l)/\∀(r:Addr)(a:List Int),H r=none->a.Pairwise (·<·)->(∀z,z∈a↔z∈l)->a.length<=60->Q (.ref r) (gG H r (.lst (Y4 a)))
def QS(g:X.calm=true):kO X (.type "set") (L1 X):=by
 intro d s K H J G Q I r h;obtain⟨p,ns,rfl,j,l,q⟩:=h;obtain⟨u,rfl,z⟩:=oC r;cases z;obtain⟨n,y,x,_⟩:=I.tuple j;refine GJ (I.ok.hd g) x (N1 y) Fl λe F f v=>?_;obtain⟨m,c,hd⟩:=f;obtain⟨o,B,A,t,i,jM⟩:=id c;refine⟨.ref _,_,I.laid v (aN _) (show jY X.prog X.w _ e _ (Hr X.w s.heap.objs.size ns)from⟨⟨m,c,hd.1,bJ hd.2.1 l,hd.2.2⟩,⟨o,i⟩,?_⟩),Fo,q _ (I.hok.fresh (aN _))⟩;rintro C E ⟨m,a,b⟩ k;exact⟨m,a.at k,b⟩
def MB(n:X.calm=true):kO X (.builtin "sorted") (SK X):=by
 intro j s K H J b Q I r h;obtain⟨p,l,rfl,y,q⟩:=h;obtain⟨u,rfl,B⟩:=oC r;cases B;obtain⟨⟨m,k,x,i,w⟩,_⟩:=I.hok p _ y;refine HZ (I.ok.hd n) k x i λF C d r out e g A t E=>?_;obtain⟨b,v,c,a⟩:=E;have f:b.length<=60:=by rw[a.length_eq];exact i
 refine⟨.ref r,_,eG.drawn (I.laid (t':=C) (o:=.lst (Y4 b)) A g ?_) d,Fo,q _ b (I.hok.fresh g) c (λz=>by rw[a.mem_iff];exact w z) f⟩;have G:bO=2^24:=rfl;exact⟨by unfold Y4;rw[aC];lia,out.toList,e,NR v,by simpa[f8]using t⟩
end
end L2
namespace TL
open L2
section
variable{X:Cx}{e:Expr}{a:ET}{pos:Pos}
def Yg(a:ET):ET:=λc Q=>a c λd=>∃ns:List Int,d=.tuple (ns.map aQ)/\ns.length<=60/\∀b:List Int,b.Pairwise (·<·)->(∀z,z∈b↔z∈ns)->b.length<=60->Q (.list (b.map aQ))
def VT(l:iK X e a)(hs:cD [e] X.env=(false,eval e X.env)::cD [] X.env:=by rfl)
  (pc:∀{v},PA X [e] (sL v BD)->PE X (.Call g1 [.Call g2 [e] [] p2] [] pos) (R1 (SK X) (sL (R1 (L1 X) (sL v BD)) BD))) :
  iK X (.Call g1 [.Call g2 [e] [] p2] [] pos) (Yg a):=by
 obtain⟨v,t,re⟩:=l;refine⟨_,pc (jC t lE hs),λB p H u b A Q E o h k=>re B p H u b A _ _ o h λd x C f y q1=>?_⟩;obtain⟨ns,rfl,n,q⟩:=q1
 cases y with
 |tuple m s=>
  have e:=qX s;subst e;refine⟨_,ns,Fo,bR.seqT bZ m,n,λw hw=>⟨w,_,Fo,cW,λr z c g i j=>k _ _ _ ((f.trans (eX hw)).trans (eX c)) ?_ (q z g i j)⟩⟩;exact rW ((o.grow (f.trans (eX hw)))).live c (NE _)
end
end TL
namespace L2
open TL
def VR(ex:EX es ks xs)(k:D):(fj xs k).isSome=decide (k∈ks):=by
 have b:=ex.1;by_cases hk:k∈ks
 ·rw[a8 hk];rw[<- b]at hk;obtain⟨x,a,e⟩:=aR.mp hk;unfold fj;rw[xW];exact zU.mpr ⟨x,a,by simpa using e⟩
 ·rw[c4 hk];unfold fj;rw[xW,rM];intro z;obtain⟨x,a,e⟩:=zU.mp z;exact hk (by rw[<- b];exact aR.mpr ⟨x,a,by simpa using e⟩)
def Kf(b:Bool)(K:aM)(w:c7):R2:=λx y H Q=>∃(p a:Addr)(c:List (Int×Addr×V))(ks:List D)(k:D),x=.ref a/\y=.ref p/\CV H p c/\DK K w H c ks/\iN K H k x/\jX k/\Q (.bl (if b=true then !decide (k∈ks)else decide (k∈ks))) H
section
variable{X:Cx}
def Zi(o:X.A.units+9<u7):oU X (e7 .In) (Kf false X.K X.w):=by
 intro b s t H x y v u Q I g i h;obtain⟨p,a,m,ks,k,rfl,rfl,e,c,f,ok,q⟩:=h;cases g;cases i;obtain⟨d,n,r,j,l⟩:=CI I e c;refine wpAny_in_heap (show X.A.units+1+8<u7 by lia) (yO I f ok) d l ?_;rw[VR j];exact⟨_,H,I.tok _,(show iJ (.bl _) (u6 _)from Fo),q⟩
end
end L2
namespace TL
open L2
section
variable{a:ET}
def Qf(c:Bool)(w:c7)(i:Nat)(a:ET):ET:=λd Q=>a d λk=>∃b,d[i]?=some (pR w b)/\GV k/\(∀kv∈b,jX kv.1)/\∀z:Bool,(z=true↔k∈b.map (·.1))->Q (.bool (if c=true then !z else z))
end
def XI{X:Cx}{i:Nat}{b:Bool}(A:oU X (e7 op) (Kf b X.K X.w))(y:PE X n (sS i))(c:iK X e tk)(v:z4 op n=false:=by first | exact LC _ | rfl):GR X (.Compare e [op] [n] pos) (CO (Qf b X.w i tk)):=by
 obtain⟨L,pk,F⟩:=c;refine⟨_,FS A pk y v,λB C H E j G Q I o h k=>F B C H E j G _ _ o h λJ z r m l q1=>?_⟩;obtain⟨g,t,⟨f,M,rfl⟩,hok,q⟩:=q1;obtain⟨⟨p,s,d,x⟩,u⟩:=(o.grow m).isDic t;obtain⟨a,rfl⟩:=oH l;exact⟨.ref p,d,p,a,s,g.map (·.1),_,Fo,Fo,.inl x.obj,(pC (w:=X.w) x.hsh x.nd hok x.ks).same bZ,l.same bZ,f,_,Fo,k _ r m (q _ (by rw[decide_eq_true_iff]))⟩
section
structure Gh(K:aM)(B:Hp)(p0:List Addr)(H0:Hp)(ps:List Addr)(H:Hp)(dq:List Sl)(σ:L2.St)(T:J1)(n i:Nat)(z:Addr):Prop where
 o:OkC K B p0 H ps dq σ T n
 r:∀l,OkC K B p0 (gG H z (.lst l)) ps (dq.set i .un) σ T n
 s:∀l,bR (mask H0 ps) (mask (gG H z (.lst l)) ps)
 nt:z≠T.p
 h:∃t x y zs,σ[i]?=some (some (.ref t))/\H t=some (.tup [x,y,.ref z])/\H z=some (.lst zs)/\zs.length<=100000
end
structure Fam where
 I:Type
 S:Type
 ad:I->List Addr
 tau:I->D
 At:I->aM->Hp->List Addr->S->Prop
 to:∀{T:I}{K:aM}{H H':Hp}{ps eh:List Addr}{n:S},At T K H ps n->(∀a∈ad T,H' a=H a)->bR (mask H ps) (mask H' eh)->At T K H' eh n
 liv:∀{T:I}{K:aM}{H:Hp}{ps:List Addr}{n:S},At T K H ps n->∀a∈ad T,EV (H a)
 inj:∀{T T':I},tau T=tau T'->T=T'
section
variable{F:Fam}
structure aMm(F:Fam) where
 nx:F.S->List Sl->Prop
 rt:F.S->D->Prop
 bk:F.S->List Sl->Prop:=λ_ _=>False
 ct:F.S->List Sl->Prop:=λ_ _=>False
 xB:Hp->List Addr->Prop:=λ_ _=>True
end
end TL
namespace L2
open TL
section
variable{X:Cx}{o e:Expr}{to f:TE}{c b:Pos}
def DF{A:d1}{E:Value->Shared->Prop}{s:Shared}{d a:Addr}{Q:Value->Shared->Prop}(l:A.units+9<u7)(g:(pW prog w).is s.heap k a)(hd:(d==m8)=false)(j:s.heap.DictOfH (pW prog w) d xs)
  (h:Q (((fj xs k).map (·.2)).getD .none) { s with toks:=s.toks+pH k }):wpAny (model prog w) A (call (.builtin "dict.get") [.ref d,.ref a]) Q E s:=by
 refine dL HE j.typeIs PySem.F.entry_dict_get ?_ (PySem.F.args_dict_get_2 _ _);show wpAny _ _ (dictGet d (.ref a) >>= _) _ _ s;refine aB (wpAny_dictGet_heap (show A.units+1+8<u7 by lia) g j ?_)
 cases i:fj xs k with
 |some p=>
  rw[i]at h;exact aG ⟨p.2,Fo,h⟩
 |none=>
  rw[i]at h;show wpAny _ _ (Builtin.Dict.missed d (.ref a) >>= _) _ _ _;exact aB (wpAny_missed_other hd (aG ⟨.none,Fo,h⟩))
def K0(X:Cx)(x y:V)(H:Hp)(Q:VK):Prop:=∃(p a:Addr)(d:List (Int×Addr×V))(ks:List D)(k:D),x=.ref p/\y=.ref a/\CV H p d/\DK X.K X.w H d ks/\iN X.K H k y/\jX k/\(k∉ks->Q .non H)/\∀(i:Nat)(e:Int×Addr×V),ks[i]?=some k->d[i]?=some e->Q e.2.2 H
def TD(hu:X.A.units+9<u7)(ho:PE X o to)(Z:PE X e f)(l:v4 o "get" X.env (eval o X.env)=eval o X.env:=by rfl)
  (t:((l0 b (cD [e] X.env)).all (λx=>!x.1)&&(backToKw b (rl [] X.env)).all (λx=>x.1.isSome)&&decide ([e].length+([]:List uf).length+(if([]:List uf).isEmpty then 0 else 1)<30))=true:=by rfl)
  (n:(c.endLine==b.line)=true:=by rfl) (hs:cD [e] X.env=(false,eval e X.env)::cD [] X.env:=by rfl) (d:(l0 b (cD [] X.env)).any (·.1)=false:=by rfl) :
  PE X (.Call (.Attribute o "get" c) [e] [] b) (λw H Q=>to w H λx z=>(∃p P,x=.ref p/\CV z p P)/\f w z λy q=>K0 X x y q Q):=by
 intro g s w H Q I h;refine jh l t n Fo (jR (ho g s w H _ I h) λv s1 O=>?_);obtain⟨x,z,E,r1,⟨p,P,ex,S⟩,q1⟩:=O;subst ex;obtain rfl:v=c9 p:=r1;obtain⟨_,_,ob,ds,ep,W,Y,_⟩:=CV.at E S;refine⟨"dict","dict.get",E4,HE,PySem.F.type_dict_get,AK E S,λa e=>by cases e;exact⟨ob,W,Y.2.1⟩,?_⟩;have R:=(jC Z lE hs) b g s1 w z (λC q=>match C with | [y]=>K0 X (.ref p) y q Q | _=>False) E q1;rw[hs]at R |-
 refine y9 (by show(false||(l0 b (cD [] X.env)).any (·.1))=false;rw[d]<;>rfl) (gg ?_);refine jR R λus s2 O=>?_;obtain⟨vs,q,B,N,M⟩:=O
 match vs,M,N with
 |[y],M,N=>
 obtain⟨p',a,j,ks,k,J,rfl,L,G,rk,ok,q0,q2⟩:=M;cases J;obtain⟨u,rfl,ru⟩:=oC N;cases ru;obtain⟨U,h2,C,T,x2⟩:=CI B L G;refine DF hu (yO B rk ok) U x2 ?_;by_cases m:k∈ks
 ·obtain⟨i,K⟩:=bP m
  have hl:i<j.length:=by
   have:=e8 gC G.hs;rw[aC,aC]at this;have:=(aE.mp K).1;lia
  have r:j[i]?=some j[i]:=aD hl;obtain⟨v,v1,v2⟩:=VS T G.nd K r;rw[v1];exact⟨_,q,B.tok _,v2,q2 i _ K r⟩
 ·have:=VR T k;rw[c4 m]at this;rw[show fj C k=none by cases h:fj C k with | none=>rfl | some _=>rw[h]at this;cases this];exact⟨.non,q,B.tok _,Fo,q0 m⟩
end
end L2
namespace TL
open L2
section
variable{X:Cx}{a b e:Expr}{f g:ET}{pos j:Pos}
def Yh(w:c7)(d k:D)(Q:D->Prop):Prop:=∃c,d=mB w c/\GV k/\(∀kv∈c,jX kv.1)/\(k∉c.map (·.1)->Q .none)/\∀v,(k,v)∈c->Q v
def Zb(w:c7)(f g:ET):ET:=λh Q=>f h λd=>(∃c,d=mB w c)/\g h λk=>Yh w d k Q
def VY(ha:iK X a f)(hb:iK X b g)(pc:∀{G I:TE},PE X a G->PE X b I->PE X (.Call (.Attribute a "get" j) [b] [] pos) (λn H Q=>G n H λx s=>(∃p v,x=.ref p/\CV s p v)/\I n s λy t=>K0 X x y t Q)):iK X (.Call (.Attribute a "get" j) [b] [] pos) (Zb X.w f g):=by
 obtain⟨G,pa,ra⟩:=ha;obtain⟨I,pb,rb⟩:=hb;refine⟨_,pc pa pb,λB L H ps r n Q QV o h k=>ra B L H ps r n _ _ o h λd x s E M q1=>?_⟩;obtain⟨⟨kvs,rfl⟩,q1⟩:=q1;obtain⟨p,v,T,rfl,h1,h2,h3,h4,h5⟩:=uO M;refine⟨⟨p,v,Fo,.inr ⟨T,bZ _ _ h1⟩⟩,rb B L s ps r n _ _ (o.grow E) q1 λkd y t F N q2=>?_⟩;obtain⟨m,e,⟨C,ys,rfl⟩,hok,q0,q⟩:=q2;obtain⟨p',z,u,P,U,W,Y,Z,g5⟩:=uO (e▸M);cases P;obtain⟨c,rfl⟩:=oH N;have A:=cE (ps:=ps) F;refine⟨p,c,z,m.map (·.1),_,Fo,Fo,.inr ⟨u,bZ _ _ (A _ _ U)⟩,((pC (w:=X.w) W Y hok (Z.same A))).same bZ,N.same bZ,C,λhn=>k _ _ t (E.trans F) .none (q0 hn),λi en K he=>?_⟩;rw[aI]at K;obtain⟨kv,l,R⟩:=bU.mp K;obtain⟨S,J,O⟩:=(g5.same A).two l;rw[he]at J;cases J;exact k _ _ t (E.trans F) O (q _ (by rw[<- R];exact aU l))
end
end TL
namespace L2
open AutoSeq1 (wpAny_loadPart')
namespace Rv
def owner:Manifest.owners.lookup (String.ofList ['d','e','s','r','e','v','e','r'].reverse)=some Manifest.sig_reversed:=by kernel_rfl
end Rv
end L2
namespace L2
noncomputable abbrev fO(x q:Str)(st:Stmt)(kV dc a:Value)(an:Option Addr)(cd ct:Value):iV:=nG x q (xJ st) (mJ st) (aZ st) .none kV dc a an cd ct
def Oo{c:Type}{P:List c->Prop}(h:∀a,P [a]):∀b:List c,b.length=1->P b
|[a],_=>h a
def Op{d:Type}{P:List d->Prop}(h:∀a b,P [a,b]):∀c:List d,c.length=2->P c
|[a,b],_=>h a b
def Oq{e:Type}{P:List e->Prop}(h:∀a b c,P [a,b,c]):∀d:List e,d.length=3->P d
|[a,b,c],_=>h a b c
def Os{f:Type}{P:List f->Prop}(h:∀a b c d,P [a,b,c,d]):∀e:List f,e.length=4->P e
|[a,b,c,d],_=>h a b c d
def Ot{g:Type}{P:List g->Prop}(h:∀a b c d e,P [a,b,c,d,e]):∀f:List g,f.length=5->P f
|[a,b,c,d,e],_=>h a b c d e
def Ou{i:Type}{P:List i->Prop}(h:∀a b c d e f,P [a,b,c,d,e,f]):∀g:List i,g.length=6->P g
|[a,b,c,d,e,f],_=>h a b c d e f
abbrev oJ(x q:Str)(st:Stmt)(b:List Str):Prop:=∀(kV dc c:Value)(an:Option Addr)(cd ct:Value)(a:List Value),a.length=b.length->bindArgs (fO x q st kV dc c an cd ct) ⟨a,[]⟩=pure (b.zip a)
structure Dg(K:aM)(x q:Str)(st:Stmt)(a:Addr)(f:iV)(ps:List Str):Prop where
 k:iC K (.ref a)=true
 F:Q5 K x q st a f
 d:sQ K f ps []
structure Df(K:aM)(mg:Str->Option Value)(x:Str)(st:Stmt)(a:Addr)(f:iV)(ps:List Str):Prop extends Dg K x x st a f ps where
 m:mg x=some (.ref a)
section
variable{K:aM}{h:Heap}{mg:Str->Option Value}{x q:Str}{st:Stmt}{i:List Str}{f:Addr}{j:Value}{m an:Option Addr}{n:Array (Option Value)}{kV dc g cd ct:Value}
def dg(b:oJ x q st i)(l:K.lookup f=some ⟨j,m,.func (fO x q st kV dc g an cd ct),n⟩)(c:pL K cd q=true)(k:iC K (.ref f)=true):Dg K x q st f (fO x q st kV dc g an cd ct) i:=⟨k,VM l c k,(VM l c k).binds b⟩
def df(X:K.In h)(G:h.Ns iP mg)(b:oJ x x st i)(a:PySem.W.nsIn K iP x=some (some (.ref f)))(l:K.lookup f=some ⟨j,m,.func (fO x x st kV dc g an cd ct),n⟩)(c:pL K cd x=true)(k:iC K (.ref f)=true):Df K mg x st f (fO x x st kV dc g an cd ct) i:=⟨dg b l c k,PySem.W.mg_of X G a⟩
def QY(h:∀kV dc g an cd ct a0,bindArgs (fO x q st kV dc g an cd ct) ⟨[a0],[]⟩=pure ([p0].zip [a0]):=by intros;rfl):oJ x q st [p0]:=λa b c d e f=>Oo (h a b c d e f)
def zR(h:∀kV dc g an cd ct a0 a1,bindArgs (fO x q st kV dc g an cd ct) ⟨[a0,a1],[]⟩=pure ([p0,p1].zip [a0,a1]):=by intros;rfl):oJ x q st [p0,p1]:=λa b c d e f=>Op (h a b c d e f)
def HA(h:∀kV dc g an cd ct a0 a1 a2,bindArgs (fO x q st kV dc g an cd ct) ⟨[a0,a1,a2],[]⟩=pure ([p0,p1,p2].zip [a0,a1,a2]):=by intros;rfl):oJ x q st [p0,p1,p2]:=λa b c d e f=>Oq (h a b c d e f)
def MD(h:∀kV dc g an cd ct a0 a1 a2 k,bindArgs (fO x q st kV dc g an cd ct) ⟨[a0,a1,a2,k],[]⟩=pure ([p0,p1,p2,p3].zip [a0,a1,a2,k]):=by intros;rfl):oJ x q st [p0,p1,p2,p3]:=λa b c d e f=>Os (h a b c d e f)
def Jk(h:∀kV dc g an cd ct a0 a1 a2 k a4,bindArgs (fO x q st kV dc g an cd ct) ⟨[a0,a1,a2,k,a4],[]⟩=pure ([p0,p1,p2,p3,p4].zip [a0,a1,a2,k,a4]):=by intros;rfl):oJ x q st [p0,p1,p2,p3,p4]:=λa b c d e f=>Ot (h a b c d e f)
def Oa(h:∀kV dc g an cd ct a0 a1 a2 k a4 l,bindArgs (fO x q st kV dc g an cd ct) ⟨[a0,a1,a2,k,a4,l],[]⟩=pure ([p0,p1,p2,p3,p4,p5].zip [a0,a1,a2,k,a4,l]):=by intros;rfl):oJ x q st [p0,p1,p2,p3,p4,p5]:=λa b c d e f=>Ou (h a b c d e f)
def na{C:Addr}{f}(h:fY K (.ref C) f=some none):nE K C f:=h
end
end L2
namespace TL
open L2
section
variable{X:Cx}{e:Expr}{c:List Expr}{o:ET}{x:Str}{pos j p:Pos}
def cd{k n:Nat}{f:Addr}{pn st}(F:dU X.prog X.w X.K X.mg X.base hW k f fd pn (cG X.K sp))(D:Df X.K X.mg x st f fd pn)(g:Room n X.A)(i:wI X (e::c) t)(hk:k<=n:=by decide)
  (q:Gl X x:=by rfl) (a:(x==("__debug__":Str))=false:=by decide) (l:cD (e::c) X.env=(false,eval e X.env)::cD c X.env:=by rfl) (b:(l0 pos (cD c X.env)).any (·.1)=false:=by rfl):iK X (.Call (.Name x p) (e::c) [] pos) (nM sp t):=Z7 F D.m D.k D.d (g.mono hk) i λh=>FW F (g.mono hk) q D.m D.k D.d .nil zJ h a l b
def cF{k n:Nat}{f:Addr}{pn st}(F:dU X.prog X.w X.K X.mg X.base hW k f fd pn (kW X.K sp))(D:Df X.K X.mg x st f fd pn)(g:Room n X.A)(i:wI X (e::c) t)(hk:k<=n:=by decide)
  (q:Gl X x:=by rfl) (a:(x==("__debug__":Str))=false:=by decide) (l:cD (e::c) X.env=(false,eval e X.env)::cD c X.env:=by rfl) (b:(l0 pos (cD c X.env)).any (·.1)=false:=by rfl):OH X (.Call (.Name x p) (e::c) [] pos) (Ky sp t):=ZZ F D.m D.k D.d (g.mono hk) i λh=>FW F (g.mono hk) q D.m D.k D.d .nil zJ h a l b
def cQ{k n:Nat}{f:Addr}{pn st}(F:dU X.prog X.w X.K X.mg X.base hW k f fd pn (uQ X.K sp))(D:Df X.K X.mg x st f fd pn)(g:Room n X.A)(i:wI X (e::c) t)(hk:k<=n:=by decide)
  (q:Gl X x:=by rfl) (a:(x==("__debug__":Str))=false:=by decide) (l:cD (e::c) X.env=(false,eval e X.env)::cD c X.env:=by rfl) (b:(l0 pos (cD c X.env)).any (·.1)=false:=by rfl):Ix X (.Call (.Name x p) (e::c) [] pos) (Lw sp t):=S0 F D.m D.k D.d (g.mono hk) i λh=>FW F (g.mono hk) q D.m D.k D.d .nil zJ h a l b
def sf{iter}(i:KC X tg iter ti)(k:KD X tg g)(f:sG X body tb)(l:PassesOwn (model X.prog X.w) X.A X.env X.xe:=by exact v8)(h:X.calm=true:=by rfl)(hs:∀x,j7 iter X.env x=pure x:=by intro _;rfl):wH X (.For tg iter body [] pos) (YJ ti g tb):=aC0 i k f λa b d=>Zw l h a b d hs
def el{iter o}(i:KC X tg iter ti)(d:∀b:BP,KD (blk X scope N' b) tg g/\GU (blk X scope N' b) ifs tt/\iK (blk X scope N' b) elt o)(h:qZ scope X.env.scope X.N N' fr=true:=by kernel_rfl)(f:X.calm=true:=by rfl)(hs:∀x,j7 iter X.env x=pure x:=by intro _;rfl):iK X (.ListComp elt [⟨tg,iter,ifs,0⟩] scope pos) (RC fr ti g tt o):=Rb i d λa b=>S8 h f a b hs
def fl{iter o}(i:KC X tg iter ti)(d:∀b:BP,KD (blk X scope N' b) tg g/\GU (blk X scope N' b) ifs tt/\iK (blk X scope N' b) elt o)(h:qZ scope X.env.scope X.N N' fr=true:=by kernel_rfl)(f:X.calm=true:=by rfl)(hs:∀x,j7 iter X.env x=pure x:=by intro _;rfl):OH X (.ListComp elt [⟨tg,iter,ifs,0⟩] scope pos) (Gf fr ti g tt o):=Qj i d λa b=>S8 h f a b hs
def cY{r:List V->Hp->VK->Prop}{f:List D->(D->Prop)->Prop}(k:uD X r f)(d:wI X (e::c) t)(g:kO X (.type T) r)(m:X.mg x=none)(q:d2 x=some (.type T))(l:Gl X x:=by rfl)(n:x≠"__name__":=by decide)(a:(x==("__debug__":Str))=false:=by decide)(i:cD (e::c) X.env=(false,eval e X.env)::cD c X.env:=by rfl)(b:(l0 pos (cD c X.env)).any (·.1)=false:=by rfl):iK X (.Call (.Name x p) (e::c) [] pos) (nM f t):=Kv k d λh=>gH g l m q h n a i b
def cB{r:List V->Hp->VK->Prop}{f:List D->(D->Prop)->Prop}(k:uD X r f)(d:wI X (e::c) t)(g:kO X (.builtin T) r)(m:X.mg x=none)(q:d2 x=some (.builtin T))(l:Gl X x:=by rfl)(n:x≠"__name__":=by decide)(a:(x==("__debug__":Str))=false:=by decide)(i:cD (e::c) X.env=(false,eval e X.env)::cD c X.env:=by rfl)(b:(l0 pos (cD c X.env)).any (·.1)=false:=by rfl):iK X (.Call (.Name x p) (e::c) [] pos) (nM f t):=Kv k d λh=>tT g l m q h n a i b
def so(i:Nat)(a:X.N.Nodup)(h:wI X c t)(d:X.N[i]?=some x:=by rfl)(f:OI X.env.scope x:=by first | exact v7 Fo | exact r8 Fo)(hs:jH (.List c p2) (some (.Name x j)) pos.line X.env=pure false:=by rfl)(b:X.fn x=true\/X.env.scope.names.lookup x=some .local:=by first | exact .inl Fo | exact .inr Fo):wH X (.Assign [.Name x j] (.List c p2) pos) (PH i t):=R6 (i:=i) h λh=>yE a d f h hs b
def sn(i:Nat)(a:X.N.Nodup)(d:X.N[i]?=some x:=by rfl)(f:OI X.env.scope x:=by first | exact v7 Fo | exact r8 Fo)(hs:jH (.Dict [] [] p2) (some (.Name x j)) pos.line X.env=pure false:=by rfl)(b:X.fn x=true\/X.env.scope.names.lookup x=some .local:=by first | exact .inl Fo | exact .inr Fo):wH X (.Assign [.Name x j] (.Dict [] [] p2) pos) (SE i):=X4 (i:=i) λh=>yE a d f h hs b
def sF(i:Nat)(a:X.N.Nodup)(h:OH X e t)(d:X.N[i]?=some x:=by rfl)(f:OI X.env.scope x:=by first | exact v7 Fo | exact r8 Fo)(hs:jH e (some (.Name x j)) pos.line X.env=pure false:=by rfl)(b:X.fn x=true\/X.env.scope.names.lookup x=some .local:=by first | exact .inl Fo | exact .inr Fo):wH X (.Assign [.Name x j] e pos) (SC i t):=X2 (i:=i) h λh=>yE a d f h hs b
noncomputable def Nn(l:List Str):Bool:=decide l.Nodup
def pk(i:Nat)(a:Nn X.N=true:=by kernel_rfl)(d:X.N[i]?=some x:=by rfl)(f:OI X.env.scope x:=by first | exact v7 Fo | exact r8 Fo)(b:X.fn x=true\/X.env.scope.names.lookup x=some .local:=by first | exact .inl Fo | exact .inr Fo):PG X (.Name x pos) (kY i):=NL (b8 a) d f b
def tv(h:iK X e o)(b:∀a,isTrue e X.env a=(do let v <- a;uo e.pos;jb [v] (truthy v)):=by intro _;rfl):GR X e (CO o):=aCp h λh=>Zy h b
end
end TL
namespace L2
def Kt(X:Cx):Prop:=∀e s,¬X.xe e s
section
variable{X:Cx}{a:List (Addr×Obj)}{b:St}{H:Hp}{s:Shared}
def YN(i:Kt X)(g:AC X body ts):PS X (.Try body (c::hs) [] [] pos) ts:=by
 intro a s b H D I h;refine wpAny_Try_except (gO (g a s b H D I h) (λf d q=>?_) λe d z=>a9 z (i e d))
 cases f with
 |next=>exact ax q
 |ret v=>exact q
 |brk=>exact q
 |cont=>exact q
end
end L2
namespace TL
open L2
section
variable{X:Cx}{pos:Pos}
def X0(h:sG X body t)(p:∀{a},AC X body a->PS X (.Try body (b::hs) [] [] pos) a):wH X (.Try body (b::hs) [] [] pos) t:=by
 obtain⟨a,p1,r⟩:=h;exact⟨a,p p1,r⟩
end
end TL
namespace L2
def aDe{X:Cx}:Kt X.nox:=λ_ _ h=>h
end L2
namespace TL
open L2
section
variable{X:Cx}{e b:Expr}{a:ET}
def Ql(x:D)(Q:D->Prop):Prop:=match x with | .bool b=>Q (.int (if b then 1 else 0)) | _=>False
def Qg(a:ET):ET:=λc Q=>a c λx=>Ql x Q
def sA(l:iK X e a)(n:∀{v},PA X [e] (sL v BD)->PE X (.Call (.Name "int" q1) [e] [] q2) (R1 (λg H Q=>(∃i,g=[.int i]/\Q (.int i) H)\/∃k,g=[.bl k]/\Q (.int (if k then 1 else 0)) H) (sL v BD)))(hs:cD [e] X.env=(false,eval e X.env)::cD [] X.env:=by rfl):iK X (.Call (.Name "int" q1) [e] [] q2) (Qg a):=by
 obtain⟨v,p,r⟩:=l;refine⟨_,n (jC p lE hs),λB m H q c u Q w o h k=>r B m H q c u _ _ o h λd x j t s f=>?_⟩
 cases s with
 |bool b=>exact .inr ⟨b,Fo,k _ _ j t (.int _) f⟩
 |_=>exact f.elim
end
end TL
namespace SS
structure GS(a0:Array jr)(g:Nat->Nat)(pd:Array (Nat×Nat×Nat))(st:SortSt):Prop where
 size:(bn st).size=a0.size
 get:∀p,p<a0.size->(bn st)[p]?=a0[g p]?
 rng:∀p,p<a0.size->g p<a0.size
 kind:kindOf st=oneType'
 fail:gq st=none
 pend:da st=pd
noncomputable def Hd(g:Nat->Nat)(i j:Nat):Nat->Nat:=λk=>if i<=k/\k<j then g (i+j-1-k)else g k
noncomputable def Hj(g:Nat->Nat)(b a:Nat):Nat->Nat:=λk=>if k=a then g b else if a<k/\k<=b then g (k-1)else g k
section
variable{prog:cM}{w:c7}{A:d1}{E:Value->Shared->Prop}{s:Shared}{a0:Array jr}{g:Nat->Nat}{d:Array (Nat×Nat×Nat)}{st:SortSt}
def WB(b:IntKeys a0){i:Nat}(c:i<a0.size):∃t q,a0[i]?=some (.int (K a0 i) t,q):=by
 obtain⟨n,t,f⟩:=b a0[i] Fm;have e:a0[i]?=some a0[i]:=gf _ i c;refine⟨t,a0[i].2,?_⟩;have a:a0[i]=(.int n t,a0[i].2):=Prod.ext f Fo;unfold K;rw[e,a]
 rfl
def GS.mirr(h:GS a0 g d st){i j:Nat}(hj:j<=a0.size):GS a0 (Hd g i j) d (setArr st (mirror (bn st) i j ((j-i) / 2))) where
 size:=(mirror_size _ _ _ _).trans h.size
 get:=λp hp=>by
  refine(getElem?_mirror_all (by rw[h.size];exact hj) p).trans ?_;unfold Hd;split
  ·exact h.get _ Fl
  ·exact h.get _ hp
 rng:=λp hp=>by
  unfold Hd;split
  ·exact h.rng _ Fl
  ·exact h.rng _ hp
 kind:=h.kind
 fail:=h.fail
 pend:=h.pend
def GS.bubb(h:GS a0 g d st){rz vd:Nat}(hs:rz<a0.size)(hd:vd<=rz):GS a0 (Hj g rz vd) d (setArr st (bubble (bn st) rz (rz-vd))) where
 size:=(bubble_size _ _ _).trans h.size
 get:=λp hp=>by
  refine(getElem?_bubble (by rw[h.size];exact hs) _ Fl p).trans ?_;rw[show rz-(rz-vd)=vd by lia];unfold Hj;split
  ·exact h.get _ hs
  ·split
   ·exact h.get _ Fl
   ·exact h.get _ hp
 rng:=λp hp=>by
  unfold Hj;split
  ·exact h.rng _ hs
  ·split
   ·exact h.rng _ Fl
   ·exact h.rng _ hp
 kind:=h.kind
 fail:=h.fail
 pend:=h.pend
def wK{p q:Nat}{Q:Option Bool->SortSt->Prop}(h:GS a0 g d st)(a:IntKeys a0)(b:p<a0.size)(c:q<a0.size)
  (k:Q (some (decide (K a0 (g p)<K a0 (g q)))) st):wpS (model prog w) A E s (ltAt' p q) Q st:=by
 obtain⟨t,x,e⟩:=WB a (h.rng p b);obtain⟨u,y,f⟩:=WB a (h.rng q c);exact wpS_ltAt h.kind ((h.get p b).trans e) ((h.get q c).trans f) k
noncomputable def Q1(lo a c:Nat):StateT SortSt Sem AscSt:=
 qz [a:c] ((none,a):AscSt) λ_ z=>do
  let x <- ltAt' (lo+z.snd) (lo+z.snd-1)
  match x with
  |some b=>if b=true then pure (ao (none,z.snd))else pure (g7 (none,z.snd+1))
  |_=>pure (ao (some none,z.snd))
noncomputable def DS(lo n a:Nat):StateT SortSt Sem (Option Nat):=do
 ar lo (lo+n)
 let z <- Q1 lo n a
 match z.fst with
 |some r=>pure r
 |none=>pure (some z.snd)
noncomputable def N8(lo n a:Nat):StateT SortSt Sem DescSt:=
 qz [n:a] ((none,n,0):DescSt) λ_ z=>do
  let x <- ltAt' (lo+z.snd.fst) (lo+z.snd.fst-1)
  match x with
  |some b=>
   if b=true then
    if z.snd.snd>0 then do
     ar (lo+z.snd.fst-(z.snd.snd+1)) (lo+z.snd.fst)
     pure (g7 (none,z.snd.fst+1,0))
    else pure (g7 (none,z.snd.fst+1,0))
   else do
    let x <- ltAt' (lo+z.snd.fst-1) (lo+z.snd.fst)
    match x with
    |some c=>
     if c=true then pure (ao (none,z.snd.fst,z.snd.snd))
     else pure (g7 (none,z.snd.fst+1,z.snd.snd+1))
    |_=>pure (ao (some none,z.snd.fst,z.snd.snd))
  |_=>pure (ao (some none,z.snd.fst,z.snd.snd))
noncomputable def IM(lo n a:Nat):StateT SortSt Sem (Option Nat):=do
 liftM (rule "list.sort.descending-run")
 let z <- N8 lo (n+1) a
 match z.fst with
 |some r=>pure r
 |none=>
  if z.snd.snd>0 then do
   ar (lo+z.snd.fst-(z.snd.snd+1)) (lo+z.snd.fst)
   DS lo z.snd.fst a
  else DS lo z.snd.fst a
def QO(lo a:Nat):countRun' lo a=(do
  let z <- Q1 lo 1 a
  match z.fst with
  |some r=>pure r
  |none=>
   if(z.snd==a)=true then pure (some z.snd)
   else if z.snd>1 then do
    let x <- ltAt' lo (lo+z.snd-1)
    match x with
    |some b=>if b=true then pure (some z.snd)else do
      ar lo (lo+z.snd)
      IM lo z.snd a
    |_=>pure none
   else IM lo z.snd a):=by
 have j:∀(n:Nat),DS lo n a=(do
   ar lo (lo+n)
   let z <- Q1 lo n a
   match z with
   | (some r,_)=>pure r
   | (none,m)=>pure (some m)):=λn=>by
  unfold DS;congr 1;funext _;congr 1;funext z;obtain⟨r,m⟩:=z;cases r<;>rfl
 rw[countRun'_eq];unfold IM;simp only[j];unfold Q1 N8;congr 1;funext z;obtain⟨r,n⟩:=z
 cases r with
 |some r=>rfl
 |none=>
  dsimp only;split
  ·rfl
  ·split
   ·congr 1;funext x
    cases x with
    |none=>rfl
    |some b=>
     dsimp only;split
     ·rfl
     ·congr 1;funext _;congr 1;funext _;congr 1;congr 1;funext y;obtain⟨e,h,i⟩:=y
      cases e with
      |some e=>rfl
      |none=>
       dsimp only;split
       ·congr 1;funext _;congr 1;funext _;congr 1;funext u;obtain⟨c,f⟩:=u;cases c<;>rfl
       ·congr 1;funext _;congr 1;funext u;obtain⟨c,f⟩:=u;cases c<;>rfl
   ·congr 1;funext _;congr 1;congr 1;funext y;obtain⟨e,h,i⟩:=y
    cases e with
    |some e=>rfl
    |none=>
     dsimp only;split
     ·congr 1;funext _;congr 1;funext _;congr 1;funext u;obtain⟨c,f⟩:=u;cases c<;>rfl
     ·congr 1;funext _;congr 1;funext u;obtain⟨c,f⟩:=u;cases c<;>rfl
end
section
variable{prog:cM}{w:c7}{A:d1}{E:Value->Shared->Prop}{s:Shared}{a0:Array jr}{g:Nat->Nat}{d:Array (Nat×Nat×Nat)}{st:SortSt}{lo n b:Nat}
def HJ{a:Nat}{Q:AscSt->SortSt->Prop}(i:IntKeys a0)(o:lo+b<=a0.size)(l:1<=a)(e:a<=b)(j:GS a0 g d st)
  (h:∀m,a<=m->m<=b->Q (none,m) st):wpS (model prog w) A E s (Q1 lo a b) Q st:=by
 unfold Q1;refine az (I:=λx c z=>z=st/\c=(none,x)) ?step ?fin ⟨Fo,Fo⟩
 case fin=>
  rintro c z ⟨rfl,rfl⟩;rw[show max a b=b by lia];exact h b e (aN _)
 case step=>
  rintro x c z f k ⟨rfl,rfl⟩;dsimp only;refine f9 (wK j i Fl Fl ?_)
  cases decide (K a0 (g (lo+x))<K a0 (g (lo+x-1)))with
  |true=>exact j6 (h x f Fl)
  |false=>exact j6 ⟨Fo,Fo⟩
def wJ{i j:Nat}{Q:Unit->SortSt->Prop}(h:Q () (setArr st (mirror (bn st) i j ((j-i) / 2)))):wpS (model prog w) A E s (ar i j) Q st:=by
 rw[reverseSlice'_eq];exact ie h
def OV{Q:DescSt->SortSt->Prop}(k:IntKeys a0)(q:lo+b<=a0.size)(p:1<=n)(j:n<=b)(l:GS a0 g d st)
  (h:∀m ne e f,GS a0 e d f->n<=m->m<=b->Q (none,m,ne) f):wpS (model prog w) A E s (N8 lo n b) Q st:=by
 unfold N8;refine az (I:=λx c z=>∃ne e,c=(none,x,ne)/\GS a0 e d z) ?step ?fin ⟨0,g,Fo,l⟩
 case fin=>
  rintro c z ⟨ne,e,rfl,a⟩;rw[show max n b=b by lia];exact h b ne e z a j (aN _)
 case step=>
  rintro x c z i o ⟨ne,e,rfl,a⟩;dsimp only;refine f9 (wK a k Fl Fl ?_)
  cases decide (K a0 (e (lo+x))<K a0 (e (lo+x-1)))with
  |true=>
   dsimp only;rw[a7 rfl];split
   ·exact f9 (wJ (j6 ⟨0,_,Fo,a.mirr Fl⟩))
   ·exact j6 ⟨0,_,Fo,a⟩
  |false=>
   dsimp only;rw[a6 Fk];refine f9 (wK a k Fl Fl ?_)
   cases decide (K a0 (e (lo+x-1))<K a0 (e (lo+x)))with
   |true=>exact j6 (h x ne e z a i Fl)
   |false=>exact j6 ⟨ne+1,e,Fo,a⟩
def DN{Q:Option Nat->SortSt->Prop}(k:IntKeys a0)(p:lo+b<=a0.size)(l:1<=n)(e:n<=b)(o:GS a0 g d st)
  (h:∀m f c,GS a0 f d c->1<=m->m<=b->Q (some m) c):wpS (model prog w) A E s (DS lo n b) Q st:=by
 unfold DS;refine f9 (wJ ?_);have a:=o.mirr (i:=lo) (j:=lo+n) Fl;exact f9 (HJ k p l e a λm r q=>j6 (h m _ _ a Fl q))
def DO{Q:Option Nat->SortSt->Prop}(f:IntKeys a0)(i:lo+b<=a0.size)(j:n+1<=b)(o:GS a0 g d st)
  (h:∀m k a,GS a0 k d a->1<=m->m<=b->Q (some m) a):wpS (model prog w) A E s (IM lo n b) Q st:=by
 unfold IM;refine f9 (wpS_lift (n8 ⟨Fo,?_⟩));refine f9 (OV f i Fl j o λm ne k a c p l=>?_);dsimp only;by_cases e:ne>0
 ·rw[a7 e];exact f9 (wJ (DN f i Fl l (c.mirr Fl) h))
 ·rw[a6 e];exact DN f i Fl l c h
def KL{Q:Option Nat->SortSt->Prop}(i:IntKeys a0)(j:lo+b<=a0.size)(p:1<=b)(a:GS a0 g d st)
  (h:∀m o f,GS a0 o d f->1<=m->m<=b->Q (some m) f):wpS (model prog w) A E s (countRun' lo b) Q st:=by
 rw[QO];refine f9 (HJ i j (aN 1) p a λm k l=>?_);dsimp only;by_cases e:m=b
 ·rw[a7 (by simpa using e)];exact j6 (h m g st a k l)
 ·rw[a6 (by simpa using e)];by_cases c:m>1
  ·rw[a7 c];refine f9 (wK a i Fl Fl ?_)
   cases decide (K a0 (g lo)<K a0 (g (lo+m-1)))with
   |true=>exact j6 (h m g st a k l)
   |false=>exact f9 (wJ (DO i j Fl (a.mirr Fl) h))
  ·rw[a6 c];exact DO i j Fl a h
def RP{ok:Nat}{Q:Bool->SortSt->Prop}(j:IntKeys a0)(u:lo+n<=a0.size)(hok:ok<=n)(t:1<=ok)(m:GS a0 g d st)
  (h:∀a i,GS a0 a d i->Q true i):wpS (model prog w) A E s (binarySort' lo n ok) Q st:=by
 rw[binarySort'_eq]
 refine f9 (sh (az (I:=λk c z=>c=(none,())/\∃a,GS a0 a d z)
  (Q:=λc z=>c=(none,())/\∃a,GS a0 a d z) ?step ?fin ⟨Fo,g,m⟩) ?post)
 case post=>
  rintro c z ⟨rfl,a,e⟩;exact j6 (h a z e)
 case fin=>exactλc z h=>h
 case step=>
  rintro k c z o p ⟨rfl,a,e⟩;refine f9 (sh (az (I:=λx c y=>y=z/\∃l r,c=(none,l,r)/\l<=r/\r<=k) (Q:=λc y=>y=z/\∃l r,c=(none,l,r)/\l<=k) ?istep ?ifin ⟨Fo,0,k,Fo,cI _,aN _⟩) ?ipost)
  case ifin=>
   rintro c y ⟨rfl,l,r,rfl,a1,a2⟩;exact⟨Fo,l,r,Fo,bJ a1 a2⟩
  case istep=>
   rintro x c y _ q ⟨rfl,l,r,rfl,a1,a2⟩;dsimp only;by_cases f:l>=r
   ·rw[a7 f];exact j6 ⟨Fo,l,r,Fo,bJ a1 a2⟩
   ·rw[a6 f];refine f9 (wK e j Fl Fl ?_)
    cases decide (K a0 (a (lo+k))<K a0 (a (lo+(l+r) / 2)))with
    |true=>exact j6 ⟨Fo,l,(l+r) / 2,Fo,Fl,Fl⟩
    |false=>exact j6 ⟨Fo,(l+r) / 2+1,r,Fo,Fl,Fl⟩
  case ipost=>
   rintro c y ⟨rfl,l,r,rfl,a2⟩;show wpS _ _ _ _ (do moveDown' (lo+k) (lo+l);pure (g7 (none,()))) _ _;rw[moveDown'_eq];exact f9 (ie (j6 ⟨Fo,_,e.bubb Fl Fl⟩))
end
end SS
namespace SS
structure MJ(n:Nat)(ky:Nat->Int)(J:List Nat):Prop where
 lt:∀i∈J,i<n
 len:J.length=n
noncomputable def fa(a0:Array jr)(i:Nat):jr:=(a0[i]?).getD (.none,.none)
section
variable{prog:cM}{w:c7}{A:d1}{E:Value->Shared->Prop}{s:Shared}{a0:Array jr}{g:Nat->Nat}{a:Array (Nat×Nat×Nat)}{st:SortSt}
def GS.list(h:GS a0 g a st):(bn st).toList=((cR a0.size).map g).map (fa a0):=by
 apply gY;intro q;rw[eD,bM,aI];by_cases b:q<a0.size
 ·rw[h.get q b,iI b];show _=some (fa a0 (g q));unfold fa;rw[gf a0 _ (h.rng q b)];rfl
 ·rw[eP (by simp;lia),eY (by rw[h.size];lia)];rfl
def XZ(hB:GS a0 g a st):MJ a0.size (K a0) ((cR a0.size).map g) where
 lt:=λi hi=>by
  obtain⟨p,hp,rfl⟩:=aR.mp hi;exact hB.rng p (nQ.mp hp)
 len:=by simp
def P3{n:Nat}(h:n<64)(b:2<=n):minRun' n n 0=n:=by
 obtain⟨f,rfl⟩:∃f,n=f+2:=⟨n-2,Fl⟩;rw[show f+2=(f+1)+1 by lia,minRun'_succ,a7 Fl]
def Jc(a0:Array jr)(st:SortSt):Prop:=∃g,GS a0 g #[(0,a0.size,0)] st
def GS.setP(h:GS a0 g a st)(q:Array (Nat×Nat×Nat)):GS a0 g q (tm st q):=⟨h.size,h.get,h.rng,h.kind,h.fail,Fo⟩
def RO{Q:Unit->SortSt->Prop}(l:IntKeys a0)(n:GS a0 (λp=>p) #[] st)(F:2<=a0.size)(i:a0.size<64)
  (h:∀d J,gq d=none->(bn d).toList=J.map (fa a0)->MJ a0.size (K a0) J->Q () d):wpS (model prog w) A E s sortRuns' Q st:=by
 have G:=P3 i F;rw[sortRuns'_eq];refine f9 (uv ?_);dsimp only;simp only[n.size]
 generalize minRun' a0.size a0.size 0=mn at G
 refine f9 (sh (az
  (I:=λx c z=>(x=0/\c=(none,0)/\GS a0 (λp=>p) #[] z)\/(1<=x/\c=(none,a0.size)/\Jc a0 z))
  (Q:=λc z=>c=(none,a0.size)/\Jc a0 z) ?step ?fin (.inl ⟨Fo,Fo,n⟩)) ?post)
 case fin=>
  rintro c z (⟨o,_,_⟩ | ⟨_,hc,j⟩)
  ·lia
  ·exact⟨hc,j⟩
 case step=>
  rintro x c z _ o (⟨rfl,rfl,hB'⟩ | ⟨x1,rfl,j⟩)
  ·dsimp only;rw[a6 Fl];simp only[MR,aMo]
   have next:∀(m:Nat)(f:Nat->Nat)(b:SortSt),GS a0 f #[] b->m=a0.size ->
     (1=0/\((none,m):Option Unit×Nat)=(none,0)/\GS a0 (λp=>p) #[] (tm b ((da b).push (0,m,0)))) \/
     (1<=1/\((none,m):Option Unit×Nat)=(none,a0.size)/\Jc a0 (tm b ((da b).push (0,m,0)))):=λm f b b1 e=>by
    have B:=b1.setP #[(0,m,0)];rw[show(da b).push (0,m,0)=#[(0,m,0)] by rw[b1.pend];rfl];subst e;exact .inr ⟨Fl,Fo,f,B⟩
   refine f9 (KL l Fl Fl hB' λm f b b1 r H=>?_);dsimp only;by_cases k:m<mn
   ·rw[a7 k];refine f9 (wpS_lift (n8 ⟨Fo,?_⟩));refine f9 (RP l Fl Fl r b1 λC q c1=>?_);simp only[xU,eH,h7];refine f9 (uv ?_);rw[show(da q).back?=none by rw[c1.pend];rfl];dsimp only;exact f9 (ie (j6 (next _ C q c1 Fl)))
   ·rw[a6 k];refine f9 (uv ?_);rw[show(da b).back?=none by rw[b1.pend];rfl];dsimp only;exact f9 (ie (j6 (next _ f b b1 Fl)))
  ·dsimp only;rw[a7 (aN _)];exact j6 ⟨Fo,j⟩
 case post=>
  rintro c z ⟨rfl,j⟩;dsimp only
  refine f9 (sh (az (I:=λx c y=>c=(none,())/\x=0/\y=z)
   (Q:=λc y=>c=(none,())/\gq y=none/\∃J,(bn y).toList=J.map (fa a0)/\MJ a0.size (K a0) J) ?_ ?_ ⟨Fo,Fo,Fo⟩) ?_)
  ·rintro x c y _ _ ⟨rfl,rfl,rfl⟩;refine f9 (uv ?_);obtain⟨g,b1⟩:=j;rw[a7 (by rw[b1.pend];exact aN 1)];exact j6 ⟨Fo,b1.fail,_,b1.list,XZ b1⟩
  ·rintro c y ⟨rfl,o,_⟩;lia
  ·rintro c y ⟨rfl,t,J,u,v⟩;exact j6 (h y J t u v)
end
end SS
set_option maxHeartbeats 4000000
namespace SS
section
variable{prog:cM}{w:c7}{A:d1}{E:Value->Shared->Prop}{s:Shared}{a kS f:Addr}{vs:List Value}{g:List Int}{P:PySem.Fin->Shared->Prop}{d:Shared->Prop}{lo:Nat}
structure Q3(d:Shared->Prop)(lo:Nat):Prop where
 up:∀(s':Shared)(x:Addr)h'(tk:Nat),d s'->lo<=x->cU x s'.heap h'->d { s' with heap:=h',toks:=tk }
 push:∀(s':Shared)(o:Obj),d s'->d { s' with heap:=s'.heap.push o }
def A6(prog:cM)(w:c7)(A:d1)(d:Shared->Prop)(lo:Nat)(f:Addr)(vs:List Value)(g:List Int):Prop:=∀(i:Nat)(v:Value)(k:Int)(c:Shared),vs[i]?=some v->g[i]?=some k->d c ->
 wpAny (model prog w) A (call (.ref f) [v]) (λu e=>∃t,u=.int k t/\d e/\∀b o,lo<=b->c.heap.get? b=some o->e.heap.get? b=some o) (λ_ _=>False) c
def RL{b:Array Value}(hk:IntsAre b.toList g)(l:g.length=vs.length):(b.zip vs.toArray).size=vs.length/\∀i,i<vs.length->K (b.zip vs.toArray) i=g.getD i 0/\(fa (b.zip vs.toArray) i).2=vs.getD i .none:=by
 have hs:b.size=vs.length:=by have:=hk.length;rw[bQ]at this;lia
 have k:(b.zip vs.toArray).size=vs.length:=by rw[Array.size_zip,hs,bI,Nat.min_self]
 refine⟨k,λi c=>?_⟩;obtain⟨t,h⟩:=hk.get i (g[i]' Fl) (aD Fl);rw[eD]at h;have j:vs.toArray[i]?=some vs[i]:=by simp[c]
 have e:(b.zip vs.toArray)[i]?=some (.int (g[i]' Fl) t,vs[i]):=by
  rw[Array.getElem?_zip_eq_some];exact⟨h,j⟩
 constructor
 ·unfold K;rw[e];show numOf (i4 (g[i]' Fl) t)=_;rw[dD,aD Fl];rfl
 ·unfold fa;rw[e,dD,aD c];rfl
def MJ.congr{n:Nat}{b c:Nat->Int}(h:MJ n b J)(e:∀i,i<n->b i=c i):MJ n c J:=⟨h.lt,h.len⟩
def M9{st:SortSt}{b:Array Value}{e l:Nat}{J:List Nat}(T:Q3 d lo)(F:d s)(ok:s.heap.get? kS=some (f8 "list" b e))(B:s.heap.get? a=some (f8 "list" #[] l))(o:kS≠a)(z:lo<=kS)(y:lo<=a)
  (p:b.size<=bO) (q:(bn st).toList.map (·.2)=J.map λi=>vs.getD i .none) (v:J.length<=bO) (u:gq st=none)
  (h:∀m t out c,d { s with heap:=m,toks:=t }->m.get? a=some (f8 "list" out c)->out.toList=(J.map λi=>vs.getD i .none)->P (.done (.ret .none)) { s with heap:=m,toks:=t }) :
  wpAny (model prog w) A (ksk_tail a false l (.ref kS) st) P E s:=by
 have r:=cU.update s.heap kS (d0 λ_=>(#[]:Array Value));have j:(s.heap.update kS (d0 λ_=>(#[]:Array Value))).get? a=some (f8 "list" #[] l):=(r.2 a o.symm).trans B;have C:=cU.update (s.heap.update kS (d0 λ_=>(#[]:Array Value))) a (d0 λ_=>(bn st).map (·.2));obtain⟨k,n⟩:∃k,((s.heap.update kS (d0 λ_=>(#[]:Array Value))).update a (d0 λ_=>(bn st).map (·.2))).get? a=some (f8 "list" ((bn st).map (·.2)) k):=⟨_,fy j λ_=>(bn st).map (·.2)⟩
 have x:((bn st).map (·.2)).size=J.length:=by
  have:=e8 gC q;simpa using this
 unfold ksk_tail
 try dsimp only
 refine aB (dj ok Fo ?_ p (cI _));refine aB (ft ?_);refine aB (seqEpoch_at j Fo ?_);refine aB (dj j Fo ?_ (cI _) (by simp only[eH,h7];rw[x];exact XA v));rw[u];simp only[bne_self_eq_false,eH,h7];exact aG (h _ _ _ k (T.up { s with heap:=s.heap.update kS (d0 λ_=>(#[]:Array Value)) } a _ s.toks (T.up s kS _ s.toks F z r) y C) n (by rw[Array.toList_map];exact q))
def aC2{b:Array Value}{e H:Nat}(T:Q3 d lo)(N:d s)(ok:s.heap.get? kS=some (f8 "list" b e))(M:s.heap.get? a=some (f8 "list" #[] H))(t:kS≠a)(L:lo<=kS)(I:lo<=a)
  (hk:IntsAre b.toList g) (S:g.length=vs.length) (p:vs.length<64)
  (h:∀k o out c J,d { s with heap:=k,toks:=o }->k.get? a=some (f8 "list" out c)->MJ vs.length (λi=>g.getD i 0) J->out.toList=(J.map λi=>vs.getD i .none)->P (.done (.ret .none)) { s with heap:=k,toks:=o }) :
  wpAny (model prog w) A (ksk_end a false vs.toArray H (.ref kS) b) P E s:=by
 obtain⟨n,u⟩:=RL (vs:=vs) hk S;have hs:b.size=vs.length:=by have:=hk.length;rw[bQ]at this;lia
 have x:(2:Nat)^24=bO:=rfl
 have v:∀J:List Nat,(∀i∈J,i<vs.length)->(J.map (fa (b.zip vs.toArray))).map (·.2)=J.map λi=>vs.getD i .none:=λJ y=>by
  rw[bM];exact iH λi r=>(u i (y i r)).2
 unfold ksk_end
 try dsimp only
 simp only[eH,h7];by_cases m:vs.toArray.size<2
 ·rw[a7 m,a7 m];refine aB (aG ?_);rw[StateT.run_pure];refine aB (aG ?_)
  try dsimp only
  rw[bI]at m
  have R:(b.zip vs.toArray).toList=(cR vs.length).map (fa (b.zip vs.toArray)):=by
   apply gY;intro q;rw[eD,aI];by_cases z:q<vs.length
   ·rw[iI z,gf _ q (by rw[n];exact z)];show _=some (fa _ q);unfold fa;rw[gf _ q (by rw[n];exact z)];rfl
   ·rw[eP (by simp;lia),eY (by rw[n];lia)];rfl
  have l:MJ vs.length (λi=>g.getD i 0) (cR vs.length):=⟨λi r=>nQ.mp r,Fm⟩
  exact M9 (st:=SortSt.mk' general' (b.zip vs.toArray) #[] 7 none) (J:=cR vs.length) T N ok M t L I (by rw[hs,<- x];lia) (by
   show(b.zip vs.toArray).toList.map (·.2)=_;rw[R];exact v _ l.lt) (by simp only[fU];rw[<- x];lia) Fo λk o out c C F G=>h k o out c _ C F l G
 ·rw[a6 m,a6 m];rw[bI]at m;rw[ksk_kind hk (by rw[hs];lia)];refine aB (aG ?_)
  refine aB (gO (RO (a0:=b.zip vs.toArray) (st:=SortSt.mk' oneType' (b.zip vs.toArray) #[] 7 none)
   (Q:=λ_ j=>gq j=none/\∃J,(bn j).toList=J.map (fa (b.zip vs.toArray))/\MJ (b.zip vs.toArray).size (K (b.zip vs.toArray)) J)
   (ksk_intKeys hk) ⟨Fo,λ_ _=>rfl,λ_ U=>U,Fo,Fo,Fo⟩ (by rw[n];lia) (by rw[n];exact p) λj J a1 a2 O=>⟨a1,J,a2,O⟩) ?_ λ_ _ e=>e)
  rintro⟨⟨⟩,j⟩ s' ⟨rfl,hf,J,y,l⟩
  try dsimp only
  rw[n]at l;have B:=l.congr λi r=>(u i r).1;exact M9 (J:=J) T N ok M t L I (by rw[hs,<- x];lia) (by rw[y];exact v J l.lt) (by rw[l.len,<- x];lia) hf λk o out c C F G=>h k o out c _ C F B G
def X6{y:Nat}(T:Q3 d lo)(t0:d s)(ok:s.heap.get? kS=some (f8 "list" #[] 0))(Y:s.heap.get? a=some (f8 "list" #[] y))(o:kS≠a)(B:lo<=kS)(K:lo<=a)
  (U:g.length=vs.length) (n:vs.length<64) (turn:A6 prog w A d lo f vs g)
  (h:∀b out c J,d b->b.heap.get? a=some (f8 "list" out c)->MJ vs.length (λi=>g.getD i 0) J->out.toList=(J.map λi=>vs.getD i .none)->P (.done (.ret .none)) b) :
  wpAny (model prog w) A (ksk_rest a (.ref f) false vs.toArray y (.ref kS)) P E s:=by
 have H:(2:Nat)^24=bO:=rfl;unfold ksk_rest;refine aB (n8 ?_)
 first
  |rw[List.forIn_toArray]
  | (rw[<- pU];simp only[List.toList_toArray])
  |rw[<- pU]
 refine aB (ksk_fold (λi b=>d b/\∃l e,b.heap.get? kS=some (f8 "list" l e)/\b.heap.get? a=some (f8 "list" #[] y)/\IntsAre l.toList (g.take i)) vs 0 s
  ⟨t0,#[],0,ok,Y,by simpa using IntsAre.nil⟩ ?step ?done)
 case step=>
  rintro j x b I ⟨G,l,e,t,C,hk⟩;simp only[aMo]at hk |-
  have hj:j<vs.length:=(aE.mp I).1;obtain⟨k,p⟩:∃k,g[j]?=some k:=⟨_,aD Fl⟩
  have hz:l.size<=vs.length:=by
   have Q:=hk.length;rw[bQ,bB]at Q;lia
  refine aB (m9 (gO (turn j x k b I p G) (λv r S=>?_) λ_ _ R=>R.elim));obtain⟨m,rfl,t3,keep⟩:=S
  try dsimp only
  have q:=keep kS _ B t;have F:=keep a _ K C;have L:=cU.update r.heap kS (d0 (·.push (.int k m)));obtain⟨u,z⟩:∃u,(r.heap.update kS (d0 (·.push (.int k m)))).get? kS=some (f8 "list" (l.push (.int k m)) u):=⟨_,fy q (·.push (.int k m))⟩;have O:g.take (j+1)=g.take j++[k]:=by rw[cS,p];simp
  have N:(l.push (i4 k m)).toList=l.toList++[i4 k m]:=by simp
  refine aB (dj q Fo ?_ (by rw[<- H];lia) (bJ (nX (Array.size_push ..)) (by rw[<- H];lia)));exact aG ⟨Fo,T.up _ kS _ _ t3 B L,l.push (.int k m),u,z,(L.2 a o.symm).trans F,by rw[N,O];exact ksk_snoc hk⟩
 case done=>
  rintro b ⟨G,l,e,t,C,hk⟩;have M:g.take (0+vs.length)=g:=kR Fl;rw[M]at hk
  try dsimp only
  refine aB (listItems_at t Fo ?_);exact aC2 T G t C o B K hk U n λh' tk out c J m X Z W=>h _ out c J m X Z W
def X5{n:Nat}(T:Q3 d lo)(u:d s)(k:s.heap.get? a=some (f8 "list" vs.toArray n))(l:lo<=a)(r:g.length=vs.length)(b:vs.length<64)(turn:A6 prog w A d lo f vs g)
  (h:∀m out c J,d m->m.heap.get? a=some (f8 "list" out c)->MJ vs.length (λi=>g.getD i 0) J->out.toList=(J.map λi=>vs.getD i .none)->P (.done (.ret .none)) m) :
  wpAny (model prog w) A (ksk_tree a (.ref f) false) P E s:=by
 have p:(2:Nat)^24=bO:=rfl;have q:a<s.heap.objs.size:=bF k;have t:=cU.update s.heap a (d0 λ_=>(#[]:Array Value));obtain⟨o,j⟩:∃o,(s.heap.update a (d0 λ_=>(#[]:Array Value))).get? a=some (f8 "list" #[] o):=⟨_,fy k λ_=>#[]⟩;have e:((s.heap.update a (d0 λ_=>(#[]:Array Value))).push (f8 "tuple" vs.toArray 0)).objs.size=s.heap.objs.size+1:=by rw[size_push',BC]
 unfold ksk_tree;refine aB (listItems_at k Fo ?_);refine aB (dj k Fo ?_ (by rw[bI,<- p];lia) (cI _));refine aB (seqEpoch_at j Fo ?_);refine aB (ia ?_ (by show vs.length<=_;rw[<- p];lia));refine aB (ir ?_ (cI _));refine h8 ?_
 exact X6 (s:={ s with heap:=((s.heap.update a (d0 λ_=>(#[]:Array Value))).push (f8 "tuple" vs.toArray 0)).push (f8 "list" #[] 0) }) (kS:=((s.heap.update a (d0 λ_=>(#[]:Array Value))).push (f8 "tuple" vs.toArray 0)).objs.size)
  T (T.push { s with heap:=(s.heap.update a (d0 λ_=>(#[]:Array Value))).push (f8 "tuple" vs.toArray 0) } _ (T.push { s with heap:=s.heap.update a (d0 λ_=>(#[]:Array Value)) } _ (T.up s a _ s.toks u l t)))
  (aV _ Fo) (aJ _ (aJ _ j)) (by rw[e];exact fM (fB q)) (by rw[e];exact bJ l (iU (fB q))) l r b turn h
def O5{l:Addr}{Q:Value->Shared->Prop}(T:Q3 d lo)(v:d s)(r:s.heap.IsList l vs.toArray)(j:lo<=s.heap.objs.size)(e:g.length=vs.length)(b:vs.length<64)(turn:A6 prog w A.in1.in1 d lo f vs g)
  (h:∀p D out c J,d p->s.heap.objs.size<=D->p.heap.get? D=some (f8 "list" out c)->MJ vs.length (λi=>g.getD i 0) J->out.toList=(J.map λi=>vs.getD i .none)->Q (.ref D) p) :
  wpAny (model prog w) A (call (.builtin "sorted") [.ref l] [(c6 "key",.ref f)]) Q E s:=by
 have q:(2:Nat)^24=bO:=rfl;refine call_function_entry_kw kind_sorted plain_sorted entry_sorted (ksk_s1 _ _) ?_;unfold m3.«sorted»;refine aB (m:=checkCount "sorted" 1 1 _) (aG ?_);refine aB (collect_list r ?_ (by rw[<- q];lia));refine aB (ir ?_ (by rw[<- q];lia))
 have n:((s.heap.push (f8 "list" #[] 0)).update s.heap.objs.size (d0 (·++vs.toArray))).objs.size=s.heap.objs.size+1:=by
  rw[BC,size_push']
 have k:(((s.heap.push (f8 "list" #[] 0)).update s.heap.objs.size (d0 (·++vs.toArray))).push (f8 "list" vs.toArray 0)).get? (s.heap.objs.size+1)=some (f8 "list" vs.toArray 0):=by
  rw[<- n];exact aV _ Fo
 show wpAny _ _ _ _ _ { s with heap:=((s.heap.push (f8 "list" #[] 0)).update s.heap.objs.size (d0 (·++vs.toArray))).push (f8 "list" vs.toArray 0) };rw[n];refine aB (h8 (wpAny_call_entry_kw slot_list_sort ⟨_,k,Fo⟩ entry_list_sort ?body (ksk_l1 _ _)))
 case body=>
  show wpAny (model prog w) A.in1.in1 (m3.«list.sort» ⟨[.ref (s.heap.objs.size+1)],[(c6 "key",.ref f)]⟩) _ _ _;rw[ksk_t1];have x:=T.push { s with heap:=(s.heap.push (f8 "list" #[] 0)).update s.heap.objs.size (d0 (·++vs.toArray)) } (f8 "list" vs.toArray 0) (T.up { s with heap:=s.heap.push (f8 "list" #[] 0) } s.heap.objs.size _ s.toks (T.push s (f8 "list" #[] 0) v) j (cU.update _ _ _));refine X5 (s:={ s with heap:=((s.heap.push (f8 "list" #[] 0)).update s.heap.objs.size (d0 (·++vs.toArray))).push (f8 "list" vs.toArray 0) }) T x k (XA j) e b turn λp out c J y o u t=>⟨_,Fo,?_⟩;exact aG ⟨_,Fo,h p _ out c J y (C5 _) o u t⟩
end
end SS
set_option maxHeartbeats 1000000
namespace L2
def MG{a b:Int}:∀(l:List Value),TriplesOk l->∀y,codeAmong p (l++[h9 a,h9 b,x])=some y->codeAmong p l=some y\/y=x:=by
 intro l h
 fun_induction TriplesOk l with
 |case1=>
  intro y e;have c:(if(a==p.line&&b==p.col)=true then some x else codeAmong p [])=some y:=e;split at c
  ·exact .inr (c5 c).symm
  ·cases c
 |case2 u t v w z r f=>
  intro y e;simp only[BB,codeAmong]at e |-
  split at e
  ·rename_i d;rw[a7 d];exact .inl e
  ·rename_i d;rw[a6 d];exact f h y e
 |case3=>exact h.elim
section
variable{X:Cx}{a:List (Addr×Obj)}{d:St}{H:Hp}{s:Shared}
structure Lam(X:Cx)(H:Hp)(h:Heap)(f c:Addr)(fd:iV):Prop where
 obj:h.get? f=some { cls:=.type "function",data:=.func fd }
 free:H f=none
 code:fd.code=.ref c
 trk:∃oc P,H c=some (.frz oc (.own P))/\WL oc
 nfr:f∉JM X.stack
def eG.builtinsAt(I:eG X a d H s){P:Addr}{qs}(e:s.heap.get? P=some { cls:=.none,data:=.fields qs }):s.heap.BuiltinsAt X.mg P/\iP≠P:=by
 obtain⟨k,o,b1,h,b,i,j,c⟩:=I.mod.bmod;have l:=I.mod.glob;obtain⟨p,n,m,f,g,_⟩:=l;refine⟨⟨k,o,b1,h,λz=>?_,λz=>?_,I.bk _ _ b,i,j,c⟩,λz=>?_⟩
 ·rw[z,f]at b;cases b;rw[g]at c;cases c
 ·have:=I.bk _ _ b;rw[z,e]at this;cases this;cases c
 ·have:=I.bk _ _ f;rw[z,e]at this;cases this;cases g
def UX{g:Scope}{c P:Addr}{Q:Value->Shared->Prop}{E:Value->Shared->Prop}{name}{S:Nat}(I:eG X a d H s)(hT:tabA=some P)(hc:X.env.code=.ref c)(C:WN X.base c P)(Z:∀x∈g.names,x.2=.free->∃c,X.env.cells.lookup x.1=some c)
  (h:∀H'(s':Shared)(f j:Addr)(cl:List (Str×Addr))(pm i:Value),eG X a d H' s'->(∀b u,H b=some u->H' b=some u)->Lam X H' s'.heap f j (PySem.W.kla_fn name qual params body g cl pm (.ref j) i)->(∀n c,cl.lookup n=some c->X.env.cells.lookup n=some c)->(∀n,(n,f6)∈g.names->∃c,cl.lookup n=some c)->Q (.ref f) s') :
  wpAny (model X.prog X.w) X.A (makeFunction name qual params (.expr body) g X.env [] [] [] pos S) Q E s:=by
 obtain⟨cl,M,K,L⟩:=vW Z;obtain⟨ps,J⟩:=I.env0.tab P hT;obtain⟨qs,U,T,e3⟩:=I.hok P _ J;obtain⟨G,Bu⟩:=I.builtinsAt U;have hg:=I.mod.glob.keeps I.bk;have C':=C.keeps I.bk
 have nofr:∀b,s.heap.objs.size<=b->b∉JM X.stack:=λb G z=>by
  rcases aY.mp (I.stkSub b z)with y | y
  ·rw[y]at G;exact a9 I.lt (WP.mpr G)
  ·exact I.nofs G y
 cases hm:codeAmong pos qs.toList with
 |none=>
  refine PySem.W.kla_makeFunction (mg:=X.mg) M I.ok.glob hg hc C' U T hm Bu G λj i m tk hx k B N R=>?_;obtain⟨c2,F,vs,t,q1,q2,q3,q4⟩:=N;cases q1;have q:H j=none:=I.hok.fresh k;have Y:H m.objs.size=none:=I.hok.fresh (bJ k (iU B));have cP:j≠P:=λz=>by rw[z,J]at q;cases q
  have kp:∀b o,b≠P->s.heap.get? b=some o->(m.push (AF name qual params body g cl ((X.mg "__name__").getD .none) j i)).get? b=some o:=λb o z e=>aJ _ (hx b o z e);have nP:∀b,H b=none->b≠P:=λb e z=>by rw[z,J]at e;cases e
  have l:∀b u,H b=some u->gG H j (.frz F (.own P)) b=some u:=λb u e=>by rw[cN (iA e q)];exact e
  have un:Un X.fs [] H (gG H j (.frz F (.own P))) s.heap (m.push (AF name qual params body g cl ((X.mg "__name__").getD .none) j i)):=
   ⟨λb o e n _ _=>kp b o (nP b n) e,λb o e n _ _=>⟨o.slots,kp b o (nP b n) e⟩,λb o e n _=>by rw[cN (bS (cX (bF e) k))];exact n,λb o e _=>by
    by_cases z:b=P
    ·exact⟨_,by rw[z];exact aJ _ R⟩
    ·exact⟨o,kp b o z e⟩,λb xs e=>l _ _ e,λb o u e=>l _ _ e,λb ps e=>⟨#[],by rw[l _ _ e];simp⟩⟩
  have hok:vI X.prog X.w (gG H j (.frz F (.own P))) (m.push (AF name qual params body g cl ((X.mg "__name__").getD .none) j i)):=λb u e=>by
   by_cases z:b=j
   ·subst z;rw[cW]at e;cases e;exact⟨aJ _ q2,_,aJ _ q2⟩
   ·rw[cN z]at e;by_cases z2:b=P
    ·subst z2;rw[J]at e;cases e;refine⟨_,aJ _ R,?_,λp x hp=>?_⟩
     ·rw[OU];exact TriplesOk_snoc _ _ _ _ T
     ·rw[OU]at hp;rcases MG _ T _ hp with hp | hp
      ·obtain⟨c3,o3,r1,r2,r3⟩:=e3 p x hp;exact⟨c3,o3,r1,l _ _ r2,r3⟩
      ·exact⟨j,F,hp,cW,vs,_,t,q3,q4⟩
    ·refine(I.hok b u e).stay (λy v hy r=>kp y v ?_ r) (λy r=>l _ _ r) (λy xs r=>l _ _ r) λy o v r=>l _ _ r;rcases hy with rfl | hy
     ·exact z2
     ·intro z3;rw[z3,J]at hy;cases hy
  refine h _ _ m.objs.size j cl _ i (I.un (t':=tk) un hok) l ⟨aV _ Fo,by rw[cN (fM B)];exact Y,Fo,⟨F,P,cW,vs,_,t,q3,q4⟩,nofr _ (bJ k (iU B))⟩ K L
 |some cv=>
  obtain⟨j,F,r1,r2,r3⟩:=e3 pos cv hm;subst r1;refine PySem.W.kla_makeFunctionHit (mg:=X.mg) M I.ok.glob hg hc C' U T hm G λi m tk hx O=>?_;exact h H _ m.objs.size j cl _ i (I.kept (t':=tk) λb o e=>aJ _ (hx b o e)) (λ_ _ e=>e) ⟨aV _ Fo,I.hok.fresh O,Fo,⟨F,P,r2,r3⟩,nofr _ O⟩ K L
end
def QX{A:d1}{R:Result->Shared->Prop}{s:Shared}{f c:Addr}{a:iV}{binds:List (Str×Value)}(i:A.depth<cr)(l:s.heap.NoLimit)
  (I:s.heap.get? f=some { cls:=.type "function",data:=.func a }) (u:a.scope.isCoroutine=false) (k:a.scope.isGenerator=false) (H:a.body=.expr body) (F:a.code=.ref c) (E:s.heap.get? c=some oc) (G:WL oc)
  (d:bindArgs a args=pure binds) (g:∀x∈a.scope.names,x.2≠.cell) (n:∀x∈binds,a.scope.names.lookup x.1=some .local) (hk:a.scope.kind=.function) (z:a.globals=iP) (p:a.builtins=ab)
  (h:∀(q:Str)(j:Heap),j.Ns s.heap.objs.size (λy=>binds.reverse.lookup y)->(∀b o,s.heap.get? b=some o->j.get? b=some o) ->
   wpAny (model prog w) (A.deeper (sJ q a.scope s.heap.objs.size f a.code a.closure)) (eval body (sJ q a.scope s.heap.objs.size f a.code a.closure)) (λv K=>R (.ok (.ret v)) K) (λ_ _=>False) { s with heap:=j,toks:=s.toks+binds.length }) :
  z8 (model prog w) A (.call (.ref f) args) R s:=by
 obtain⟨vs,q,t,hd,J⟩:=G;refine fx ?_;show wpAny _ A.in1 (callAny (.ref f) args) _ _ s;simp only[callAny];refine aB (bz I ?_);simp only[callFunction,u,k,H,F];refine aB (m:=field (.ref c) 1) (u0 E hd J (aB (aG ?_)));rw[d,z,p];refine aB (aG (aB (wpAny_newFunctionEnv g n (λj B C=>?_) hk)));have kp:∀b o,s.heap.get? b=some o->j.get? b=some o:=λb o e=>C.extBut b o (bS (bF e)) (aJ _ e);refine aB (wpAny_enterFrame (l.keeps kp) i (aG ⟨Fo,?_⟩));have:=h q j B kp;rw[F]at this;exact PySem.W.kla_codeExpr (gO this (λ_ _ r=>r) λ_ _ r=>r.elim)
noncomputable abbrev xC:Scope:={ kind:=.function,names:=[(c6 "entry",.local),(c6 "bottom",.free)],isGenerator:=false,isCoroutine:=false,more:=[] }
noncomputable def JG(X:Cx)(A':d1)(q:Str)(f:Addr)(cd:Value)(cl:List (Str×Addr))(s:Shared)(H:Hp):Cx where
 prog:=X.prog
 w:=X.w
 K:=X.K
 mg:=X.mg
 base:=X.base
 A:=A'.deeper (sJ q xC s.heap.objs.size f cd cl)
 N:=["entry","bottom"]
 s₀:=s
 H₀:=H
 env:=sJ q xC s.heap.objs.size f cd cl
 outer:=X.stack
 stack:=sJ q xC s.heap.objs.size f cd cl::X.stack
 ex:=[]
 fn:=λ_=>false
 calm:=true
 pn:=[]
 xe:=λ_ _=>False
def ZS{X:Cx}{A':d1}{q:Str}{f m:Addr}{cd}{cl:List (Str×Addr)}{s:Shared}{l:Heap}{tk:Nat}{b:Int}(I:eG X pins σ H s)(F:A'.frames=some X.stack)(E:A'.handled=none)
  (d:∀n c,cl.lookup n=some c->X.env.cells.lookup n=some c) (w:cl.lookup ("bottom":Str)=some m) (h:s.heap.IsCell m (some (.int b t))) (r:iJ x u)
  (B:l.Ns s.heap.objs.size (λy=>[((c6 "entry":Str),u)].reverse.lookup y)) (kp:∀b o,s.heap.get? b=some o->l.get? b=some o) :
  eG (JG X A' q f cd cl s H) [] [some x,some (.int b)] H { s with heap:=l,toks:=tk }:=by
 have a:=I.env0;have k:∀b:Addr,b∉(JG X A' q f cd cl s H).ex:=λb z=>a9 (show b∈([]:List Addr)from z) Fm
 have K:∀y:Str,xC.names.lookup y=some .cell\/xC.names.lookup y=some .free->y="bottom":=λy j=>by
  have e:xC.names.lookup y=if y==(c6 "entry")then some .local else if y==(c6 "bottom")then some .free else none:=by
   show nI y [(c6 "entry",NameKind.local),(c6 "bottom",f6)]=_;rw[gW,gW];cases (y==c6 "entry")<;>cases (y==c6 "bottom")<;>rfl
  rw[e]at j;split at j
  ·rcases j with z | z<;>cases z
  ·split at j
   ·rename_i z;exact ey z
   ·rcases j with z | z<;>cases z
 obtain⟨L,G,A⟩:=h;have g:l.IsCell m (some (.int b t)):=⟨L,kp _ _ G,A⟩
 refine⟨⟨a.mod,Fo,Fo,Fo,aN _,λy z c a1 a2=>I.ok.inj y z c (d y c a1) (d z c a2),λy j=>?_,λy c z=>(nomatch (show false=true from z)),λ_=>E,gc F,.inr ⟨Fo,Fo⟩,λb z=>a9 z (k b),a.bs,a.bsz,λb _ _=>k b,λb z=>a9 z (k b),a.funs,a.frf,a.tab⟩,
  rfl,a.bare,Un.kept kp,⟨_,B,λi y v a1 a2 M=>?_⟩,λy c a1=>?_,a.hok.fresh (aN _),λy c a1=>I.freeC y c (d y c a1),λp J=>a9 (show p∈([]:List (Addr×Obj))from J) Fm,a.hok.kept kp,Fo⟩
 ·have:=K y j;rw[this];exact⟨m,w⟩
 ·match i,a1,a2 with
  |0,a1,a2=>
   cases a1;cases a2;exact⟨u,r,.inl ⟨Fo,Fo⟩⟩
  |1,a1,a2=>
   cases a1;cases a2;exact⟨.int b t,⟨t,Fo⟩,.inr ⟨.inr Fo,m,w,g⟩⟩
  |i+2,a1,a2=>cases a1
 ·obtain⟨v,o,l,C⟩:=I.cell y c (d y c a1);exact⟨v,o,kp _ _ l,C⟩
def Un.butA{fs}{h c f:Heap}{a:Addr}(u:Un fs ex H H1 h c)(hs:cU a c f)(g:h.objs.size<=a):Un fs ex H H1 h f:=by
 have ne:∀b o,h.get? b=some o->b≠a:=λb o e=>bS (cX (bF e) g);refine⟨λb o e n c d=>(hs.2 b (ne b o e)).trans (u.keep b o e n c d),λb o e n c d=>?_,u.free,λb o e d=>?_,u.tups,u.frzs,u.tbls⟩
 ·obtain⟨j,z⟩:=u.slot b o e n c d;exact⟨j,(hs.2 b (ne b o e)).trans z⟩
 ·obtain⟨i,z⟩:=u.there b o e d;exact⟨i,(hs.2 b (ne b o e)).trans z⟩
def Un.new{fs}{h h1:Heap}{a:Addr}(u:Un fs ex H H1 h h1)(hn:H1 a=none)(ha:h.objs.size<=a):Un fs ex H (gG H1 a o) h h1 where
 keep:=u.keep
 slot:=u.slot
 free:=λb ob e n hx=>by rw[cN (bS (cX (bF e) ha))];exact u.free b ob e n hx
 there:=u.there
 tups:=λb xs e=>by have z:=u.tups b xs e;rw[cN (iA z hn)];exact z
 frzs:=λb ob v e=>by have z:=u.frzs b ob v e;rw[cN (iA z hn)];exact z
 tbls:=λb ps e=>by
  obtain⟨m,z⟩:=u.tbls b ps e;exact⟨m,by rw[cN (iA z hn)];exact z⟩
theorem vI.new{h}{a:Addr}(x:vI P w H h)(f:H a=none)(new:jY P w (gG H a o) h a o):vI P w (gG H a o) h:=λb u e=>by
 by_cases d:b=a
 ·subst d;rw[cW]at e;cases e;exact new
 ·rw[cN d]at e;have st:∀c v,H c=some v->gG H a o c=some v:=λc v q=>by rw[cN (iA q f)];exact q
  exact(x b u e).stay (λc v _ q=>q) (λc q=>st _ _ q) (λc g q=>st _ _ q) λc ob v q=>st _ _ q
noncomputable abbrev Mm(p:Pos):Arguments:={ posonlyargs:=[],args:=[{ arg:="entry",annotation:=none,pos:=p }],vararg:=none,kwonlyargs:=[],kw_defaults:=[],kwarg:=none,defaults:=[] }
def DJ(K:aM)(H:Hp)(b:Int)(x:V)(k:Int):Prop:=∃(q:Addr)(a c:V)(d:Addr)(top bot:Int),x=.ref q/\rN K H q [a,c,.ref d]/\rN K H d [.int top,.int bot]/\Hl b bot/\J7 top (b / bot)/\k=top*(b / bot)
def DJ.same{K}{H a:Hp}{b:Int}{k:Int}(h:DJ K H b x k)(s:∀c u,H c=some u->a c=some u):DJ K a b x k:=by
 obtain⟨q,j,l,d,top,bot,e,f,g,i⟩:=h;exact⟨q,j,l,d,top,bot,e,TL.bR.seqT s f,TL.bR.seqT s g,i⟩
section
variable{p1 a g l n B E F G q1 M O R:Pos}
def Zp{X:Cx}{q:Str}{f:Addr}{cd}{pins:List (Addr×Obj)}{b k:Int}(I:eG (JG X A' q f cd cl s H) [] [some x,some (.int b)] H s1)(h:DJ X.K H b x k) :
  wpAny (model X.prog X.w) (JG X A' q f cd cl s H).A (eval (.BinOp (.Subscript (.Subscript (.Name "entry" p1) (.Constant (.int 2) 0 a) g) (.Constant (.int 0) 0 l) n) .Mult (.BinOp (.Name "bottom" B) .FloorDiv (.Subscript (.Subscript (.Name "entry" E) (.Constant (.int 2) 0 F) G) (.Constant (.int 1) 0 q1) M) O) R) (JG X A' q f cd cl s H).env)
   (EP (JG X A' q f cd cl s H) [] [some x,some (.int b)] λv j=>v=.int k/\j=H) (λ_ _=>False) s1:=by
 have p:PE (JG X A' q f cd cl s H) (.BinOp (.Subscript (.Subscript (.Name "entry" p1) (.Constant (.int 2) 0 a) g) (.Constant (.int 0) 0 l) n) .Mult (.BinOp (.Name "bottom" B) .FloorDiv (.Subscript (.Subscript (.Name "entry" E) (.Constant (.int 2) 0 F) G) (.Constant (.int 1) 0 q1) M) O) R) _:=
  IL TN (D1 aX (D1 aX (pv 0) yG (by intro _ _;rfl)) yG (by intro _ _;rfl)) (IL lL (pv 1) (D1 aX (D1 aX (pv 0) yG (by intro _ _;rfl)) yG (by intro _ _;rfl)))
 obtain⟨i,r,t,d,top,bot,rfl,c,e,m,o,rfl⟩:=h;refine p [] s1 _ H _ I ?_;refine⟨_,Fo,.inr (.inl ⟨i,_,2,.ref d,Fo,Fo,c,Fo,.inr (.inl ⟨d,_,0,.int top,Fo,Fo,e,Fo,?_⟩)⟩)⟩;refine⟨_,Fo,_,Fo,.inr (.inl ⟨i,_,2,.ref d,Fo,Fo,c,Fo,.inr (.inl ⟨d,_,1,.int bot,Fo,Fo,e,Fo,?_⟩)⟩)⟩;exact⟨b,bot,Fo,Fo,m,top,b / bot,Fo,Fo,o,Fo,Fo⟩
def aCv(K:aM)(m:Nat)(o:TA):TE:=λj H Q=>o j H λvs e=>∃(p:Addr)(d:List V)(b:Int)(h:List Int),vs=[.ref p]/\lT K e p d/\d.length<64/\j[m]?=some (some (.int b))/\h.length=d.length/\(∀(i:Nat) x k,d[i]?=some x->h[i]?=some k->DJ K e b x k) /\
 ∀f,(∀c u,e c=some u->f c=some u)->∀(J:List Nat) r,SS.MJ d.length (λi=>h.getD i 0) J->f r=none->Q (.ref r) (gG f r (.lst (J.map λi=>d.getD i .non)))
def S6{X:Cx}{ib:Nat}{k:Nat}{c P:Addr}(hr:Room (k+3) X.A)(hT:tabA=some P)(hc:X.env.code=.ref c)(C:zA X.K c P=true)(Bv:X.N[ib]?=some "bottom")(hk:X.env.kindOf "bottom"=some .cell)
  (hg:Gl X "sorted") (hm:X.mg "sorted"=none) (hv:d2 "sorted"=some (.builtin "sorted")) (ha:PA X [e] ta)
  (he:l0 pos (cD [e] X.env)=(false,eval e X.env)::l0 pos (cD [] X.env):=by rfl)
  (jm:(l0 pos (cD [e] X.env)).any (·.1)=false:=by rfl) :
  PE X (.Call (.Name "sorted" np) [e] [⟨some (c6 "key"),.Lambda (Mm ap) (.BinOp (.Subscript (.Subscript (.Name "entry" p1) (.Constant (.int 2) 0 a) g) (.Constant (.int 0) 0 l) n) .Mult (.BinOp (.Name "bottom" B) .FloorDiv (.Subscript (.Subscript (.Name "entry" E) (.Constant (.int 2) 0 F) G) (.Constant (.int 1) 0 q1) M) O) R) xC lp,kp⟩] pos) (aCv X.K ib ta):=by
 intro pins s σ H Q I h;refine ae (tV I hg hm hv ?_ Fk Fk);refine callWith_kw (jR (ha pos pins s σ H _ I h) λus s1 zq=>?_) he jm;obtain⟨vs,H1,I1,r1,q1⟩:=zq;obtain⟨p,Z,b,kz,rfl,hS,xz,DC,Ce,yg,q⟩:=q1;obtain⟨u,rfl,ru⟩:=oC r1;cases ru
 have U:∀x∈xC.names,x.2=.free->∃c,X.env.cells.lookup x.1=some c:=λx hx hf=>by
  have Cv:x=(c6 "entry",NameKind.local)\/x=(c6 "bottom",f6):=by simpa using hx
  rcases Cv with rfl | rfl
  ·cases hf
  ·exact I.ok.has "bottom" (.inl hk)
 refine kws_cons (PySem.W.kla_eval Fo (UX I1 hT hc (PySem.W.codeHd_of_K I.mod.kin C) U λY s2 f c' cl pm Du r sH L zw wy=>kws_nil ?_));obtain⟨cb,zx⟩:=wy "bottom" (aO _ (aS ..));have Az:lT X.K Y p Z:=L2.bR.seq sH hS;obtain⟨fo,rv,jm,hz⟩:=r.list Az;have d:=rv.length;have hA:=r.ok.frames;have S:Room (k+1) X.A.in1.in1:=(Room.in1 (k:=k+2) hr).in1
 have nofr:∀b,s2.heap.objs.size<=b->b∉JM X.stack:=λb hb z=>by
  rcases aY.mp (r.stkSub b z)with y | y
  ·rw[y]at hb;exact a9 r.lt (WP.mpr hb)
  ·exact r.nofs hb y
 let Tp:Shared->Prop:=λs'=>s'.os=s2.os/\bh s'.gens/\Un (JM X.stack) [] Y Y s2.heap s'.heap/\vI X.prog X.w Y s'.heap
 have Dr:∀s',Tp s'->eG X pins σ Y s':=λs' t=>r.call' (ch:=[]) t.1 t.2.2.1 t.2.2.2 t.2.1 (λb z=>a9 z Fm)
 have T:SS.Q3 Tp s2.heap.objs.size:=by
  refine⟨λs' x h' tk t hx hs=>⟨t.1,t.2.1,t.2.2.1.butA hs hx,t.2.2.2.but (r.hok.fresh hx) hs⟩,λs' o t=>⟨t.1,t.2.1,t.2.2.1.trans (Un.kept λb u e=>aJ _ e),t.2.2.2.kept λb u e=>aJ _ e⟩⟩
 have t0:Tp s2:=⟨Fo,r.bare,Un.refl,r.hok⟩;have Da:f∉JM X.stack:=L.nfr
 have turn:SS.A6 X.prog X.w X.A.in1.in1 Tp s2.heap.objs.size f fo kz:=λi v k0 s' hv vx t=>by
  have I':=Dr s' t
  obtain⟨x,hx,rx⟩:∃x,Z[i]?=some x/\iJ x v:=by
   have hi:i<Z.length:=by rw[d];exact(aE.mp hv).1
   obtain⟨u,h1,h2⟩:=rv.get (aD hi);rw[hv]at h1;cases h1;exact⟨_,aD hi,h2⟩
  have Al:=(yg i x k0 hx vx).same sH;obtain⟨m,hn,hl⟩:=I'.loc;obtain⟨ub,Dm,lb⟩:=hl ib "bottom" (.int b) Bv DC (.inr (.inl hk));obtain⟨tb,rfl⟩:=Dm
  have cell:s'.heap.IsCell cb (some (.int b tb)):=by
   rcases lb with⟨z,_⟩ | ⟨_,c0,z1,z2⟩
   ·rw[hk]at z;cases z
   ·have:=zw _ _ zx;rw[this]at z1;cases z1;exact z2
  obtain⟨oc,P',w1,w2⟩:=L.trk;obtain⟨Dh,_⟩:=I'.hok c' _ w1;refine gz (QX S.depth I'.nolimit (t.2.2.1.keep f _ L.obj L.free Da Fm) Fo Fo Fo Fo Dh w2 (binds:=[(c6 "entry",v)]) Fo (λy hy=>?_) (λy hy=>?_) Fo Fo Fo λqn h1 rh kp=>?_)
  ·have wc:y=(c6 "entry",NameKind.local)\/y=(c6 "bottom",f6):=by simpa using hy
   rcases wc with rfl | rfl<;>simp
  ·rw[dH.mp hy];rfl
  ·have J:=ZS (q:=qn) (f:=f) (cd:=.ref c') (tk:=s'.toks+1) (A':=X.A.in1.in1) I' hA S.hd zw zx cell rx rh kp;refine gO (Zp (pins:=pins) J Al) (λu s3 hu=>?_) λ_ _ z=>z;obtain⟨v3,H3,J3,r3,rfl,rfl⟩:=hu;obtain⟨t3,rfl⟩:=r3;exact⟨t3,Fo,⟨J3.os.trans t.1,J3.bare,t.2.2.1.trans J3.base,J3.hok⟩,λb o hb e=>J3.base.keep b o e (r.hok.fresh hb) (nofr b hb) (by simp[JG])⟩
 show wpAny (model X.prog X.w) X.A (call (.builtin "sorted") [.ref p] [(c6 "key",.ref f)]) _ _ s2;refine SS.O5 T t0 jm.isList (aN _) (by rw[Ce,d]) (by rw[<- d];exact xz) turn λs' D out cc J t hD ho sb yq=>?_;have ya:Y D=none:=r.hok.fresh hD;rw[<- d]at sb;have hL:(2:Nat)^24=bO:=rfl
 have vals:gM (J.map λi=>Z.getD i .non) out.toList:=by
  rw[yq]
  have:∀J:List Nat,(∀i∈J,i<Z.length)->gM (J.map λi=>Z.getD i .non) (J.map λi=>fo.getD i .none):=by
   intro J hJ
   induction J with
   |nil=>exact .nil
   |cons j J ih=>
    refine .cons ?_ (ih λi hi=>hJ i (aO _ hi));have hj:=hJ j (aS ..);obtain⟨u,h1,h2⟩:=rv.get (aD hj);show iJ (Z.getD j .non) (fo.getD j .none);rw[dD,dD,h1,aD hj];exact h2
  exact this J sb.lt
 refine⟨.ref D,_,r.call' (ch:=[]) (s':=s') (H':=gG Y D (.lst (J.map λi=>Z.getD i .non))) t.1 (t.2.2.1.new ya hD) (t.2.2.2.new ya ⟨?_,out.toList,cc,vals,?_⟩) t.2.1 (λb z=>a9 z Fm),Fo,q Y sH J D sb ya⟩
 ·rw[aC,sb.len,<- hL];lia
 ·simpa[f8]using ho
end
end L2
namespace L2
def J5(K:aM)(cd:Value):Prop:=∃c P,cd=.ref c/\tabA=some P/\zA K c P=true
def Q5.okC{K}{mg:Str->Option Value}{st}{f:Addr}{c:iV}{N g:List Str}{k:Nat}{i:Sp}(F:Q5 K x qual st f c)(S:bX N g (aZ st))(len:∀vs H Q E,i vs H Q E->vs.length=g.length)
  (b:∀(a:Value),c.code=a->∀(A:d1)outer(s:Shared)H(vs:List V)Q E,Room k (A.deeper (aq qual (aZ st) s.heap.objs.size f a))->i vs H Q E ->
   ∃t,AC (zZ hW P w K mg base N qual (aZ st) f a A outer s H E).nox (mJ st) t/\t { nx:=λ_ j=>Q .non j,rt:=Q } (qR N vs) H):dU P w K mg base hW (k+1) f c g i:=by
 obtain⟨p,r,kV,l,u,an,a,ct,o,rfl,n,d⟩:=F.ex;refine Lb n d S len λA outer s H vs Q E m e=>?_;obtain⟨t,h,q⟩:=b a Fo A outer s H vs Q E m e;exact⟨t,h.nox,q⟩
end L2
namespace TL
open L2
def Nq{K}{mg:Str->Option Value}{st}{f:Addr}{g:iV}{N pn:List Str}{k:Nat}{l:RD}(L:J5 K g.code)(F:Q5 K x qual st f g)(S:bX N pn (aZ st))(len:∀c Q,l c Q->c.length=pn.length)
  (d:∀(b:Value),J5 K b->∀(A:d1)outer(s:Shared)H E,Room k (A.deeper (aq qual (aZ st) s.heap.objs.size f b))->∀(c:List D)(Q:List D->Prop),l c Q ->
   ∃t,sG (zZ hW P w K mg base N qual (aZ st) f b A outer s H E).nox (mJ st) t/\t { nx:=λ_=>False,rt:=λ_=>False,ro:=Q } (mL N c)):dU P w K mg base hW (k+1) f g pn (kW K l):=by
 refine F.okC S (λvs H Q E h=>?_) λb i A outer s H vs Q E u h=>?_
 ·obtain⟨j,c,e,_,r,q,_⟩:=h;rw[<- r.length];exact len c e q
 ·obtain⟨j,c,e,live,r,q,k⟩:=h;obtain⟨t,⟨m,p,y⟩,h⟩:=d b (i▸L) A outer s H E u c e q;exact⟨m,p,y H j H j _ _ _ _ (tU live r) h ⟨λ_ _ _ _ _ _ a=>a.elim,λ_ _ _ _ _ _ a=>a.elim,λ_ _ _ _ _ _ a=>a.elim,λ_ _ _ _ _ a=>a.elim,λm p C n B o G v z a=>k m p C n B o v z a,λ_ _ _ _ _ _ _ _ _ _ _ _ _ _ _ _ _ _ a=>a.elim,λ_ _ _ _ _ _ _ _ _ _ _ _ _ _ a=>a.elim,i8⟩⟩
def Hm(b:Int)(e:D)(k:Int):Prop:=∃(q st:D)(top bot:Int),e=.tuple [q,st,.tuple [.int top,.int bot]]/\Hl b bot/\J7 top (b / bot)/\k=top*(b / bot)
def Hm.rep{K}{b k:Int}(h:Hm b e k)(r:iN K H e x):DJ K H b x k:=by
 obtain⟨q,st,top,bot,rfl,d,f,g⟩:=h
 cases r with
 |tuple l a=>
  cases a with
  |cons n a=>
   cases a with
   |cons o a=>
    cases a with
    |cons i a=>
     cases a
     cases i with
     |tuple m c=>
      cases c with
      |cons j c=>
       cases c with
       |cons re c=>
        cases c;cases j;cases re;exact⟨_,_,_,_,top,bot,Fo,l,m,d,f,g⟩
theorem DJ.mask{K}{b k:Int}(h:DJ K (TL.mask H ps) b x k):DJ K H b x k:=h.same λ_ _ e=>bZ _ _ e
def Yk(g:Nat)(t:AT):FT:=λd Q=>t d λf=>∃(a:List D)(b:Int)(c:List Int),f=[.list a]/\a.length<64/\d[g]?=some (.val (.int b))/\c.length=a.length/\(∀(i:Nat) e k,a[i]?=some e->c[i]?=some k->Hm b e k) /\
 ∀J:List Nat,SS.MJ a.length (λi=>c.getD i 0) J->Q (J.map λi=>a.getD i .none)
def VN{X:Cx}{ib:Nat}{k:Nat}(g:Room (k+3) X.A)(L:J5 X.K er)(hc:X.env.code=er)(n:X.N[ib]?=some "bottom")(hk:X.env.kindOf "bottom"=some .cell)
  (hg:Gl X "sorted") (hm:X.mg "sorted"=none) (hv:d2 "sorted"=some (.builtin "sorted")) (ha:wI X [e] t)
  (he:l0 pos (cD [e] X.env)=(false,eval e X.env)::l0 pos (cD [] X.env):=by rfl)
  (y:(l0 pos (cD [e] X.env)).any (·.1)=false:=by rfl) :
  OH X (.Call (.Name "sorted" np) [e] [⟨some (c6 "key"),.Lambda (Mm ap) (.BinOp (.Subscript (.Subscript (.Name "entry" p1) (.Constant (.int 2) 0 p2) p3) (.Constant (.int 0) 0 p4) p5) .Mult (.BinOp (.Name "bottom" p6) .FloorDiv (.Subscript (.Subscript (.Name "entry" p7) (.Constant (.int 2) 0 p8) p9) (.Constant (.int 1) 0 q1) q2) q3) q4) xC lp,kp⟩] pos) (Yk ib t):=by
 obtain⟨c,P,rfl,Z,Y⟩:=L;obtain⟨ta,pa,ra⟩:=ha;refine⟨_,S6 g Z hc Y n hk hg hm hv pa he y,λB p0 H E M σ Q QV o h k=>ra B p0 H E M σ _ _ o h λds vs H1 s1 F q1=>?_⟩;obtain⟨l,b,kz,rfl,a,hb,s,f,q⟩:=q1;obtain⟨v,z,C⟩:=o.val ib _ hb;cases C
 cases F with
 |cons F r2=>
  cases r2
  cases F with
  |@list pp xv _ hs rs=>
   have w:=rs.length;refine⟨_,_,b,kz,Fo,L2.bR.seq bZ hs,by rw[<- w];exact a,z,by rw[s,w],λi x k0 hx p=>?_,λm T J r I g=>?_⟩
   ·obtain⟨d,hd,rd⟩:=rs.get' hx;exact DJ.mask ((f i d k0 hd p).rep rd)
   ·rw[<- w]at I;have S:bR H m:=s1.trans T;refine k _ r _ _ (S.trans (eX g)) (bR.free' S g) cW ?_ (q J I);rw[lY g];have G:Reps X.K (TL.mask m E) l _:=rs.same (cE T)
    have:∀J:List Nat,(∀i∈J,i<l.length)->Reps X.K (TL.mask m E) (J.map λi=>l.getD i .none) (J.map λi=>xv.getD i .non):=by
     intro J O
     induction J with
     |nil=>exact .nil
     |cons j J ih=>
      refine .cons ?_ (ih λi hi=>O i (aO _ hi));have R:=O j (aS ..);obtain⟨u,U,W⟩:=G.get (aD R);show iN _ _ (l.getD j .none) (xv.getD j .non);rw[dD,dD,U,aD R];exact W
    exact this J I.lt
end TL
namespace L2
noncomputable def Qs(K:aM)(cd:Value)(P:Addr):Bool:=match cd with | .ref c=>zA K c P | _=>false
def Yx{K cd}{P:Addr}(h:Qs K cd P=true)(e:tabA=some P):J5 K cd:=by
 cases cd with
 |ref c=>exact⟨c,P,Fo,e,h⟩
 |_=>cases h
def aCu{h:Heap}{c P:Addr}(C:WN h c P)(e:h.get? P=some { cls:=.none,data:=.fields #[] }):cn h P:=(C.tab e).isCodeTable
end L2
namespace K91
open L2 TL
noncomputable def top(i:Nat):Stmt:=PySem.Challenge.pw_leafjudge_k91_whole_least_of_grown_and_d.main.body.getD i (.Pass ⟨0,0,0,0⟩)
structure Txt(K:aM)(mg:Str->Option Value)(uw ux uy wf wg wh wj wk wl wm js jt ju jv jw jx jy jz ka kb kc ke kg kh xo ki kj kl km kq kr kt ku kx la lf lg lh li xp lj ll lm ln xq lq lr xr lu lx ly lz ma md me mf mh mi xt mj ml mm mo mq mr xu xw ms mu mv mw mx my mz fw:Addr)(wn wo wp wq wr wt wu wv ww wx nh ni nj nk nn nq nr nw ny nz oe og oh oi xy oj ol om on oo oq ot ou ow ox oy iz oz ph gj pi pj pq pr gk pu py gl pz qa qb qc qd qe qf qg qh qi gm qj qk ql qm qo qp gn gp qq qr qt qu qv qw qx vf:iV)(n9:Addr)(t_SIDES:Addr)(fz:Tok):Prop where
 x_RowSets:mg "RowSets"=some (.ref n9)
 C_RowSets:RE K n9
 K_RowSets:Mk K n9 uw
 n_RowSets_form:nE K n9 "form"
 n_RowSets_kept:nE K n9 "kept"
 n_RowSets_slip:nE K n9 "slip"
 n_RowSets_knot:nE K n9 "knot"
 n_RowSets_choices:nE K n9 "choices"
 M_1:aAp K n9 "leaf_of" ux
 M_2:aAp K n9 "partings" uy
 D_0:Dg K "__init__" "RowSets.__init__" (vS (top 26) 0) uw wn ["self","form","rows","prices"]
 D_1:Dg K "leaf_of" "RowSets.leaf_of" (vS (top 26) 1) ux wo ["self","numbers"]
 D_2:Dg K "partings" "RowSets.partings" (vS (top 26) 2) uy wp ["self","numbers"]
 D_3:Df K mg "counted" (top 5) wf wq ["form","rows"]
 D_4:Df K mg "first_answer" (top 6) wg wr ["form","rows"]
 D_5:Df K mg "doubt_of" (top 7) wh wt ["form","rows"]
 D_6:Df K mg "fraction" (top 8) wj wu ["top","bottom"]
 D_7:Df K mg "common_divisor" (top 9) wk wv ["one","other"]
 D_8:Df K mg "added" (top 10) wl ww ["one","other"]
 D_9:Df K mg "is_less" (top 11) wm wx ["one","other"]
 D_10:Df K mg "common_bottom" (top 12) js nh ["fractions"]
 D_11:Df K mg "questions_of" (top 15) jt ni ["form"]
 D_12:Df K mg "questions_on" (top 16) ju nj ["field"]
 D_13:Df K mg "choices_of" (top 17) jv nk ["form"]
 D_14:Df K mg "side_of" (top 18) jw nn ["form","question","stray","case"]
 D_15:Df K mg "field_asked" (top 19) jx nq ["form","question"]
 D_16:Df K mg "entries_to_yes" (top 20) jy nr ["question","stray","field"]
 D_17:Df K mg "values_held" (top 21) jz nw ["question","field"]
 D_18:Df K mg "parted" (top 22) ka ny ["form","question","stray","rows"]
 D_19:Df K mg "numbers_on" (top 23) kb nz ["side","sides"]
 D_20:Df K mg "is_proper" (top 24) kc oe ["sides","fewest"]
 D_21:Df K mg "sides_of_rows" (top 27) ke og ["form","choice","rows"]
 D_22:Df K mg "is_leaf" (top 29) kg oh ["tree"]
 D_23:Df K mg "on_side" (top 30) kh oi ["knot","side"]
 D_24:Df K mg "knots_in" (top 31) xo xy ["tree"]
 D_25:Df K mg "way_of" (top 32) ki oj ["form","tree","case"]
 D_26:Df K mg "sides_of_way" (top 33) kj ol ["form","tree","case"]
 D_27:Df K mg "answer_of" (top 34) kl om ["form","tree","case"]
 D_28:Df K mg "part_at" (top 35) km on ["tree","place"]
 D_29:Df K mg "cost_of" (top 38) kq oo ["form","tree","rows","prices"]
 D_30:Df K mg "least" (top 39) kr oq ["form","rows","deep","prices"]
 D_31:Df K mg "known_trees" (top 40) kt ot ["sets","numbers","deep"]
 D_32:Df K mg "sets_met" (top 41) ku ou ["sets","numbers","deep"]
 D_33:Df K mg "sides_of_all" (top 42) kx ow ["sets","level"]
 D_34:Df K mg "cheapest" (top 43) la ox ["sets","known","numbers","deep"]
 D_35:Df K mg "tree_for" (top 44) lf oy ["sets","known","numbers","deep"]
 D_36:Df K mg "ranked" (top 46) lg iz ["form","rows","least"]
 D_37:Df K mg "rows_at" (top 47) lh oz ["rows","numbers"]
 D_38:Df K mg "best" (top 48) li ph ["form","rows","least"]
 D_39:Df K mg "grown" (top 49) xp gj ["form","rows","deep","least"]
 D_40:Df K mg "first_leaf" (top 51) lj pi ["form","rows"]
 D_41:Df K mg "rows_on_sides" (top 52) ll pj ["form","knot","rows"]
 D_42:Df K mg "prices_at" (top 53) lm pq ["price"]
 D_43:Df K mg "least_pruning" (top 54) ln pr ["form","tree","rows","price"]
 D_44:Df K mg "least_with_cost" (top 55) xq gk ["form","tree","rows","prices"]
 D_45:Df K mg "steps" (top 56) lq pu ["form","tree","rows"]
 D_46:Df K mg "next_price" (top 57) lr py ["form","tree","rows"]
 D_47:Df K mg "slips_and_prices" (top 58) xr gl ["form","tree","rows"]
 D_48:Df K mg "_law_mix" (top 60) lu pz ["_law_cell","_law_k"]
 D_49:Df K mg "_law_cell_at" (top 61) lx qa ["_law_script","_law_k"]
 D_50:Df K mg "_law_drawn" (top 62) ly qb ["_law_cell","_law_many"]
 D_51:Df K mg "_law_names" (top 63) lz qc ["_law_drawn_here","_law_at","_law_many"]
 D_52:Df K mg "_law_form" (top 64) ma qd ["_law_script"]
 D_53:Df K mg "_law_case" (top 65) md qe ["_law_form_here","_law_bits"]
 D_54:Df K mg "_law_row" (top 66) me qf ["_law_form_here","_law_bits"]
 D_55:Df K mg "_law_rows" (top 67) mf qg ["_law_script","_law_form_here","_law_many"]
 D_56:Df K mg "_law_pop" (top 68) mh qh ["_law_numbers"]
 D_57:Df K mg "_law_asks" (top 69) mi qi ["_law_form_here","_law_number"]
 D_58:Df K mg "_law_tree" (top 70) xt gm ["_law_form_here","_law_numbers","_law_deep_here"]
 D_59:Df K mg "_law_side" (top 71) mj qj ["_law_form_here","_law_question","_law_stray","_law_case_here"]
 D_60:Df K mg "_law_said" (top 72) ml qk ["_law_form_here","_law_tree_here","_law_case_here"]
 D_61:Df K mg "_law_small" (top 73) mm ql ["_law_form_here"]
 D_62:Df K mg "_law_choose" (top 74) mo qm ["_law_form_here"]
 D_63:Df K mg "_law_first" (top 75) mq qo ["_law_form_here","_law_rows_here"]
 D_64:Df K mg "_law_cost" (top 76) mr qp ["_law_form_here","_law_tree_here","_law_rows_here","_law_prices"]
 D_65:Df K mg "_law_deep" (top 77) xu gn ["_law_tree_here"]
 D_66:Df K mg "_law_chosen" (top 78) xw gp ["_law_form_here","_law_tree_here"]
 D_67:Df K mg "_law_sides" (top 79) ms qq ["_law_form_here","_law_rows_here","_law_question","_law_stray","_law_numbers"]
 D_68:Df K mg "_law_leaf_cost" (top 80) mu qr ["_law_form_here","_law_rows_here","_law_numbers","_law_prices"]
 D_69:Df K mg "_law_at_least" (top 81) mv qt ["_law_form_here","_law_rows_here","_law_prices","_law_found","_law_numbers","_law_deep_here"]
 D_70:Df K mg "_law_entry_holds" (top 82) mw qu ["_law_form_here","_law_rows_here","_law_prices","_law_found","_law_key"]
 D_71:Df K mg "_law_table_holds" (top 83) mx qv ["_law_form_here","_law_rows_here","_law_prices","_law_table"]
 D_72:Df K mg "_law_told" (top 84) my qw ["_law_form_here","_law_rows_here","_law_deep_here","_law_prices"]
 D_73:Df K mg "_law_met" (top 85) mz qx ["_law_form_here","_law_rows_here","_law_deep_here"]
 D_law:Df K mg "law" (top 86) fw vf ["_law_script"]
 c_SIDES:mg "SIDES"=some (.ref t_SIDES)
 t_SIDES:Hn K t_SIDES ["yes","no"]
 c_MOST_SETS:mg "MOST_SETS"=some (.int 400 fz)
 L_36:J5 K iz.code
 b_ValueError:mg "ValueError"=none
 b_bool:mg "bool"=none
 b_enumerate:mg "enumerate"=none
 b_int:mg "int"=none
 b_isinstance:mg "isinstance"=none
 b_len:mg "len"=none
 b_list:mg "list"=none
 b_max:mg "max"=none
 b_min:mg "min"=none
 b_range:mg "range"=none
 b_reversed:mg "reversed"=none
 b_set:mg "set"=none
 b_sorted:mg "sorted"=none
 b_sum:mg "sum"=none
 b_tuple:mg "tuple"=none
noncomputable def kE:Str:="abcdefghijklmnopqrstuvwxyz"
noncomputable def Hc(c:Nat):Bool:=Txt.contains kE ⟨#[c]⟩
noncomputable def yJ(z:Str):Bool:=decide (1<=z.length)&&decide (z.length<=8)&&z.cps.toList.all Hc
noncomputable def nm:D->Bool
|.str z=>yJ z
|_=>false
noncomputable def Nh:D->Str
|.str z=>z
|_=>""
noncomputable def Nm(d:D)(lo a:Int):Bool:=match d with | .tuple ts=>decide (lo<=ts.length)&&decide ((ts.length:Int)<=a)&&ts.all nm&&decide ((ts.map Nh).Nodup) | _=>false
noncomputable def fld:D->Bool
|.tuple [n,vs]=>nm n&&Nm vs 2 5
|_=>false
noncomputable def fst:D->D
|.tuple (n::_)=>n
|_=>.none
def Mr:kQ:=λa Q=>∃c k:Int,a=[.int c,.int k]/\0<=k/\k<1000/\∀r:Int,0<=r->r<2147483647->Q (.int r)
def Wq:kQ:=λa Q=>∃(ns:List Int)(k:Int),a=[.list (ns.map aQ),.int k]/\ns.length<=63/\0<=k/\k<1000/\∀r:Int,Q (.int r)
def CY(n:Nat)(bs:List Int):Prop:=bs.length=n/\∀b∈bs,0<=b/\b<4096
def Wr:RD:=λa Q=>∃(c:Int)(n:Nat),a=[.int c,.int n]/\n<=100/\∀bs,CY n bs->Q (bs.map aQ)
def ML(n:Nat)(a:List Str):Prop:=a.length=n/\(∀y∈a,yJ y=true)/\a.Nodup
def Ws:kQ:=λb Q=>∃(bs:List Int)(n m k:Nat),b=[.list (bs.map aQ),.int k,.int m]/\CY n bs/\k+11<=n/\n<=100/\m<=8/\∀a,ML m a->Q (.tuple (a.map aW))
noncomputable def kI(f:Str×List Str):D:=.tuple [.str f.1,.tuple (f.2.map aW)]
noncomputable def dX(fs:List (Str×List Str))(an:List Str):D:=.tuple [.tuple (fs.map kI),.tuple (an.map aW)]
structure iF(fs:List (Str×List Str))(an:List Str):Prop where
 n1:1<=fs.length
 n5:fs.length<=5
 nd:ML fs.length (fs.map (·.1))
 vs:∀f∈fs,2<=f.2.length/\f.2.length<=5/\ML f.2.length f.2
 a2:2<=an.length
 a4:an.length<=4
 an:ML an.length an
 n4:fs.length<=4
structure WJ(fs:List (Str×List Str))(an:List Str):Prop where
 n1:1<=fs.length
 n5:fs.length<=5
 nd:ML fs.length (fs.map (·.1))
 vs:∀f∈fs,2<=f.2.length/\f.2.length<=5/\ML f.2.length f.2
 a2:2<=an.length
 a4:an.length<=4
 an:ML an.length an
def Wt:kQ:=λa Q=>∃ns:List Int,a=[.list (ns.map aQ)]/\ns.length<=63/\∀fs an,WJ fs an->Q (dX fs an)
def nC{c:Type}{xs:List c}{i:Int}(d:0<=i)(e:i<xs.length):∃a,a∈xs/\L2.atI xs i=some a/\xs[i.toNat]?=some a:=by
 have b:i.toNat<xs.length:=by lia
 refine⟨xs[i.toNat],fK b,?_,aD b⟩;have:=L2.fH (xs:=xs) (j:=i.toNat) (v:=xs[i.toNat]) (aD b)
 rwa [show((i.toNat:Nat):Int)=i by lia]at this
def jA{bs:List Int}{n:Nat}{i:Int}(d:CY n bs)(e:0<=i)(f:i<n):∃b,0<=b/\b<4096/\L2.atI (bs.map aQ) i=some (.int b):=by
 obtain⟨a,h,g,_⟩:=nC (xs:=bs.map aQ) (i:=i) e (by rw[aC,d.1];exact f);obtain⟨b,c,rfl⟩:=aR.mp h;exact⟨b,(d.2 b c).1,(d.2 b c).2,g⟩
def gZ(n:Nat):(eQ n).length=n:=by unfold eQ;simp
def iB{n k:Nat}(h:(eQ n)[k]?=some x):k<n/\x=.int k:=by
 unfold eQ at h;rw[aI]at h;by_cases hk:k<n
 ·rw[iI hk]at h;cases h;exact⟨hk,Fo⟩
 ·rw[eP (by simpa using hk)]at h;cases h
def nV{b:Type}(a:List b)(j:Nat):kU a none (some (j:Int))=a.take j:=by
 unfold kU;rw[HT.sIx_none,HT.sIx_nat,FC,MR];by_cases h:j<=a.length
 ·rw[pN h]
 ·rw[C0 Fl,dA,kR Fl]
def YP{b:Type}(a:List b)(i:Nat):kU a (some (i:Int)) none=a.drop i:=by
 unfold kU;rw[HT.sIx_none,HT.sIx_nat];by_cases h:i<=a.length
 ·rw[pN h,kR (by rw[gA];lia)]
 ·rw[C0 Fl,KJ (aN _),KJ Fl];simp
def Za{f:Type}(b:List f)(i j:Nat):kU b (some (i:Int)) (some (j:Int))=(b.drop i).take (j-i):=by
 unfold kU;rw[HT.sIx_nat,HT.sIx_nat];apply gY;intro k;rw[gR,gR,jO,jO];by_cases d:i<=b.length
 ·rw[pN d];by_cases e:j<=b.length
  ·rw[pN e]
  ·rw[C0 Fl];by_cases c:k<b.length-i
   ·rw[a7 c,a7 Fl]
   ·rw[a6 c];by_cases a:k<j-i
    ·rw[a7 a,eP Fl]
    ·rw[a6 a]
 ·rw[a6 Fl];by_cases a:k<j-i
  ·rw[a7 a,eP Fl]
  ·rw[a6 a]
def oB{c d:Type}(f:c->d)(b:List c)(lo a:Option Int):kU (b.map f) lo a=(kU b lo a).map f:=by
 unfold kU;rw[aC,rO,List.map_drop]
def T7{z:Str}(a:1<=z.cps.toList.length)(b:z.cps.toList.length<=8)(d:∀c∈z.cps.toList,c∈kE.cps.toList):yJ z=true:=by
 have e:z.length=z.cps.toList.length:=by simp[bj]
 unfold yJ;rw[e,a8 a,a8 b];simp only[HI,kL];intro c f;unfold Hc;rw[U9];exact a8 (d c f)
def NS{z:Str}(h:yJ z=true):1<=z.length/\z.length<=8/\∀c∈z.cps.toList,c∈kE.cps.toList:=by
 unfold yJ at h;simp only[dN,o0,kL]at h;refine⟨h.1.1,h.1.2,λc a=>?_⟩;have:=h.2 c a;unfold Hc at this;rw[U9]at this;exact b8 this
theorem nodup_range{g:Type}{n:Nat}(F:Nat->g)(inj:∀i j,i<n->j<n->F i=F j->i=j):((cR n).map F).Nodup:=by
 rw[List.Nodup,WS];have:(cR n).Nodup:=List.nodup_range;refine HH.imp_of_mem (λ{a b} d f c e=>?_) this;exact c (inj a b (by simpa using d) (by simpa using f) e)
def D5(F:Nat->Str)(h:∀i,i<8->yJ (F i)=true)(inj:∀i j,i<8->j<8->F i=F j->i=j):ML 8 ((cR 8).map F):=
 ⟨Fm,λy b=>by
  obtain⟨i,a,rfl⟩:=aR.mp b;exact h i (by simpa using a),nodup_range F inj⟩
def T5{a:List Str}(h:ML 8 a)(t:Nat){m:Nat}(d:m<=8):ML m ((a.drop t++a.take t).take m):=by
 have b:(a.drop t++a.take t).Perm a:=by
  have:(a.take t++a.drop t).Perm a:=by rw[MT]
  exact List.perm_append_comm.trans this
 refine⟨?_,λy c=>h.2.1 y (b.mem_iff.mp (dZ c)),(b.nodup_iff.mpr h.2.2).sublist (rK _ _)⟩;rw[bB,b.length_eq,h.1];lia
def LJ:kE.cps.toList.Nodup:=by decide +kernel
noncomputable def UH:List Str:=["say","ask","is","upto","yes","no","all","in"]
def Ow:ML 8 UH:=⟨Fo,Fj,Fj⟩
def Y5{a:List Nat}(nd:a.Nodup){i j:Nat}{c:Nat}(d:a[i]?=some c)(e:a[j]?=some c):i=j:=by
 obtain⟨a1,a2⟩:=aE.mp d;obtain⟨b1,b⟩:=aE.mp e;exact(BA nd).mp (a2.trans b.symm)
theorem IA:∀{ys},(∀y∈ys,∃c,c∈kE.cps.toList/\y=.str ⟨#[c]⟩)->∃a:List Nat,ys=a.map (λc=>aW ⟨#[c]⟩)/\∀c∈a,c∈kE.cps.toList
|[],_=>⟨[],Fo,λc h=>by simp at h⟩
|y::ys,h=>by
 obtain⟨c,e,rfl⟩:=h y (aS ..);obtain⟨a,rfl,b⟩:=IA (ys:=ys) λy f=>h y (aO _ f);refine⟨c::a,Fo,λd hd=>?_⟩;rcases aY.mp hd with rfl | hd
 ·exact e
 ·exact b d hd
def B1(a:List Nat):(Txt.join ⟨#[]⟩ (a.map λc=>⟨#[c]⟩)).cps.toList=a:=by
 rw[LK,bM]
 induction a with
 |nil=>rfl
 |cons c a b=>rw[bE,WV,b];rfl
def PM{xs:List Int}{lo hi:Int}(h:∀x∈xs,lo<=x/\x<=hi){i:Int}(d:0<=i)(e:i<xs.length):∃m:Int,lo<=m/\m<=hi/\L2.atI (xs.map aQ) i=some (.int m):=by
 obtain⟨a,g,f,_⟩:=nC (xs:=xs.map aQ) (i:=i) d (by rw[aC];exact e);obtain⟨b,c,rfl⟩:=aR.mp g;exact⟨b,(h b c).1,(h b c).2,f⟩
def WD{a:List Str}{k:Nat}(h:k<a.length):L2.atI (a.map aW) (k:Int)=some (.str a[k]):=L2.fH (by rw[aI,aD h];rfl)
noncomputable def WY(f:Str×List Str)(d:D):Bool:=match d with | .none=>true | .str z=>decide (z∈f.2) | _=>false
noncomputable def JJ(an:List Str)(d:D):Bool:=match d with | .str z=>decide (z∈an) | _=>false
structure Cd(d:D):Prop where
 lay:d.canLay0=true
 dep:d.depth<=60
structure Th(n m:Nat)(d:D):Prop where
 bulk:d.bulk<=n
 fit:d.leavesShort 110=true
 shw:d.showable=true
 nodict:d.hasDict=false
 depth:d.depth<=m
 lay:d.canLay0=true
theorem sZ{n m:Nat}:∀{ts:List D},(∀t∈ts,Th n m t)->C4 ts<=ts.length*(n+1)/\J8 110 ts=true/\ON ts=true/\iY ts=false/\dM ts<=m/\dP ts=true
|[],_=>⟨cI _,Fo,Fo,Fo,cI _,Fo⟩
|t::ts,h=>by
 have a:=h t (aS ..);obtain⟨b1,b,c,d,e,f⟩:=sZ (ts:=ts) λx g=>h x (aO _ g);refine⟨?_,?_,?_,?_,?_,?_⟩
 ·show t.bulk+1+C4 ts<=(ts.length+1)*(n+1);have:=a.bulk;rw[aM9,aM8];lia
 ·show(t.leavesShort 110&&J8 110 ts)=true;rw[a.fit,b];rfl
 ·show(t.showable&&ON ts)=true;rw[a.shw,c];rfl
 ·show(t.hasDict||iY ts)=false;rw[a.nodict,d];rfl
 ·show max t.depth (dM ts)<=m;exact Nat.max_le.mpr ⟨a.depth,e⟩
 ·show(t.canLay0&&dP ts)=true;rw[a.lay,f];rfl
def aCr(n m k:Nat){N M:Nat}{a:List D}(h:∀t∈a,Th n m t)(f:a.length<=k)(j:k*(n+1)<=N)(i:m+1<=M):Th N M (.tuple a):=by
 obtain⟨b1,b,c,d,g,e⟩:=sZ h;have:a.length*(n+1)<=k*(n+1):=wF _ f;exact⟨by show C4 a<=N;lia,b,c,d,by show dM a+1<=M;lia,e⟩
def M2{n m:Nat}:Th n m .none:=⟨cI _,Fo,Fo,Fo,cI _,Fo⟩
def HS{z:Str}(b:∀c∈z.cps.toList,c<1000):aCk z=true:=by
 unfold aCk;rw[<- Array.all_toList,kL];intro c a;have:=b c a;exact a8 Fl
def aCs{n m:Nat}{z:Str}(h:z.length<=n)(a:∀c∈z.cps.toList,c<1000):Th n m (.str z):=by
 refine⟨h,?_,Fo,Fo,cI _,HS a⟩;show(z.cps.toList.all λc=>decide (c<16^8))=true;rw[kL];intro c b;have:=a c b;exact a8 Fl
def P6{c:Nat}(h:c∈kE.cps.toList):c<128:=by
 have:∀c∈kE.cps.toList,c<128:=by decide +kernel
 exact this c h
def JA{y:Str}(h:yJ y=true):y.length<=8/\∀c∈y.cps.toList,c<128:=⟨(NS h).2.1,λc a=>P6 ((NS h).2.2 c a)⟩
def nY(h:yJ y=true){n m:Nat}(b:8<=n):Th n m (.str y):=aCs (bJ (JA h).1 b) λc a=>by have:=(JA h).2 c a;lia
def wM{a:List Str}(h:∀y∈a,yJ y=true){n m:Nat}(b:8<=n):∀t∈a.map aW,Th n m t:=λt c=>by
 obtain⟨y,d,rfl⟩:=aR.mp c;exact nY (h y d) b
def OG{n m:Nat}:∀t∈([]:List D),Th n m t:=λt h=>by simp at h
def xN{n m:Nat}(h:Th n m a)(hs:∀t∈ts,Th n m t):∀t∈a::ts,Th n m t:=λt ht=>by
 rcases aY.mp ht with rfl | ht
 ·exact h
 ·exact hs t ht
def aAj{n m:Nat}{a bs:List D}(h:∀t∈a,Th n m t)(hs:∀t∈bs,Th n m t):∀t∈a++bs,Th n m t:=λt b=>(eA.mp b).elim (h t) (hs t)
def OC{c:Type}(a:List c)(lo b:Option Int):(kU a lo b).length<=a.length:=by
 unfold kU;rw[bB,gA];lia
def Th.cd{n m:Nat}(h:Th n m d)(a:m<=60):Cd d:=⟨h.lay,bJ h.depth a⟩
section
variable{fs:List (Str×List Str)}{an:List Str}
def iF.name(F:iF fs an){f:Str×List Str}(h:f∈fs):yJ f.1=true:=F.nd.2.1 _ (aR.mpr ⟨f,h,Fo⟩)
def iF.vals(F:iF fs an){f:Str×List Str}(h:f∈fs):∀y∈f.2,yJ y=true:=(F.vs f h).2.2.2.1
end
def JP{Q:D->Prop}(a:vP x (.tuple ts))(b:Q (.bool (A1 x (.tuple ts)))):Ka x (.tuple ts) Q:=by
 cases x<;>exact⟨a,b⟩
def xM(d:D)(a:List Str):((a.map aW).any λz=>dW z d)=JJ a d:=by
 induction a with
 |nil=>cases d<;>rfl
 |cons y a b=>
  rw[bE,List.any_cons,b]
  cases d with
  |str z=>
   show((y==z)||decide (z∈a))=decide (z∈y::a);rw[mU];simp only[uM,fk,o0,aY];exact⟨λh=>h.imp jq id,λh=>h.imp jq id⟩
  |_=>rfl
def AS{ys:List Str}(h:∀y∈ys,yJ y=true)(hd:Cd d):vP d (.tuple (ys.map aW)):=by
 obtain⟨_,_,_,_,b,a⟩:=sZ (wM h (aN 8) (m:=0));exact⟨a,hd.lay,by have:=hd.dep;lia⟩
def K8{a:List Str}(h:∀y∈a,yJ y=true){d:D}(hd:Cd d):vP d (.tuple (a.map aW++[.none])):=by
 obtain⟨_,_,_,_,c,b⟩:=sZ (aAj (wM h (aN 8) (m:=0)) (xN M2 OG));exact⟨b,hd.lay,by have:=hd.dep;lia⟩
theorem A2:∀{a:List Str}{z}{m:Nat},m<a.idxOf z->a[m]?≠some z
|[],z,m,h=>by simp at h
|y::a,z,m,h=>by
 rw[List.idxOf_cons]at h;by_cases e:y=z
 ·subst e;simp at h
 ·have b:(y==z)=false:=by simpa using e
  rw[b]at h;simp only[cond_false]at h
  cases m with
  |zero=>simpa using e
  |succ m=>
   rw[KA];exact A2 Fl
def AO{d:ET}{c:List Sl}{i j:Nat}(h:∀q:D->Prop,q (.tuple [a,b])->d c q)(k:u DT ((c.set i (.val a)).set j (.val b))):gI (YF i j d) u DT c:=h _ ⟨a,b,Fo,k⟩
noncomputable def lO(fs:List (Str×List Str))(d:D):Bool:=match d with | .tuple ts=>decide (ts.length=fs.length)&&(fs.zip ts).all (λp=>WY p.1 p.2) | _=>false
def Wu:kQ:=λb Q=>∃(fs:List (Str×List Str))(an:List Str)(bs:List Int)(n:Nat),b=[dX fs an,.list (bs.map aQ)]/\iF fs an/\CY n bs/\8<=n/\∀a,lO fs (.tuple a)=true->Q (.tuple a)
def Wv:kQ:=λc Q=>∃(fs:List (Str×List Str))(an:List Str)(bs:List Int)(n:Nat),c=[dX fs an,.list (bs.map aQ)]/\iF fs an/\CY n bs/\8<=n/\∀b a,lO fs (.tuple b)=true->a∈an->Q (.tuple [.tuple b,.str a])
section
variable{fs:List (Str×List Str)}
def uB{a:List D}(h:lO fs (.tuple a)=true):a.length=fs.length/\∀(k:Nat) f c,fs[k]?=some f->a[k]?=some c->WY f c=true:=by
 unfold lO at h;simp only[dN,o0,kL]at h;refine⟨h.1,λk f c b d=>?_⟩;exact h.2 (f,c) (aU ((qO (z:=(f,c))).mpr ⟨b,d⟩))
def aAe{a:List D}(e:a.length=fs.length)(h:∀(k:Nat) f c,fs[k]?=some f->a[k]?=some c->WY f c=true):lO fs (.tuple a)=true:=by
 unfold lO;simp only[dN,o0,kL];refine⟨e,λp g=>?_⟩;obtain⟨k,hk⟩:=bP g;obtain⟨b,d⟩:=qO.mp hk;exact h k p.1 p.2 b d
end
noncomputable def dQ(r:List D×Str):D:=.tuple [.tuple r.1,.str r.2]
def WH(fs:List (Str×List Str))(an:List Str)(r:List D×Str):Prop:=lO fs (.tuple r.1)=true/\r.2∈an
def gF(fs:List (Str×List Str))(an:List Str)(a:List (List D×Str)):Prop:=∀r∈a,WH fs an r
def Ww:kQ:=λb Q=>∃(ns:List Int)(fs:List (Str×List Str))(an:List Str)(n:Nat),b=[.list (ns.map aQ),dX fs an,.int n]/\ns.length<=63/\iF fs an/\n<=60/\∀a,gF fs an a->a.length=n->Q (.list (a.map dQ))
noncomputable def Gc(f:Str×List Str)(k v:D):Bool:=match k,v with
|.str kk,.str z=>decide (z∈f.2)&&(decide (kk="is")||(decide (kk="upto")&&decide (f.2.idxOf z+1<f.2.length)))
|_,_=>false
noncomputable def He(n:D)(f:Str×List Str):Bool:=match n with | .str z=>decide (f.1=z) | _=>false
noncomputable def QA(fs:List (Str×List Str))(d:D):Bool:=match d with
|.tuple [k,n,v]=>fs.any λf=>He n f&&Gc f k v
|_=>false
noncomputable def D7(k:Str)(f:Str×List Str)(z:Str):D:=.tuple [.str k,.str f.1,.str z]
noncomputable def pQ(f:Str×List Str):List Str:=if f.2.length=2 then f.2.take 1 else f.2
noncomputable def BO(f:Str×List Str):List Str:=(f.2.drop 1).take (f.2.length-3)
noncomputable def IJ(f:Str×List Str):List D:=(pQ f).map (D7 "is" f)++(BO f).map (D7 "upto" f)
noncomputable def eN(fs:List (Str×List Str)):List D:=(fs.map IJ).flatten
def Vf:RD:=λa Q=>∃(fs:List (Str×List Str))(an:List Str),a=[dX fs an]/\iF fs an/\Q (eN fs)
def LR{a:List Str}{j:Nat}(h:a[j]?=some z):a.idxOf z<=j:=by
 by_cases q:a.idxOf z<=j
 ·exact q
 ·exact a9 h (A2 Fl)
def UM{f:Str×List Str}(h:z∈BO f):z∈f.2/\f.2.idxOf z+1<f.2.length:=by
 unfold BO at h;have b:z∈f.2:=OP (dZ h);refine⟨b,?_⟩;obtain⟨i,a⟩:=bP h;have c:=(aE.mp a).1;rw[bB,gA]at c;rw[gR,a7 Fl,jO]at a;have:=LR a;lia
def GA{fs}(a:f∈fs)(h:Gc f (.str k) (.str z)=true):QA fs (D7 k f z)=true:=by
 show(fs.any λg=>He (.str f.1) g&&Gc g (.str k) (.str z))=true;rw[sR];refine⟨f,a,?_⟩;show(decide (f.1=f.1)&&Gc f (.str k) (.str z))=true;rw[h,a8 rfl];rfl
def vY{fs}(h:d∈eN fs):∃f∈fs,(∃z∈f.2,d=D7 "is" f z)\/(∃z,z∈f.2/\f.2.idxOf z+1<f.2.length/\d=D7 "upto" f z):=by
 unfold eN at h;obtain⟨l,c,hd⟩:=XC.mp h;obtain⟨f,b,rfl⟩:=aR.mp c;refine⟨f,b,?_⟩;unfold IJ at hd;rcases eA.mp hd with q | q
 ·obtain⟨z,a,rfl⟩:=aR.mp q;refine .inl ⟨z,?_,Fo⟩;unfold pQ at a;split at a
  ·exact dZ a
  ·exact a
 ·obtain⟨z,a,rfl⟩:=aR.mp q;exact .inr ⟨z,(UM a).1,(UM a).2,Fo⟩
def L8{fs}(h:d∈eN fs):QA fs d=true:=by
 obtain⟨f,b,⟨z,a,rfl⟩ | ⟨z,a,c,rfl⟩⟩:=vY h
 ·refine GA b ?_;show(decide (z∈f.2)&&(decide (("is":Str)="is")||_))=true;rw[a8 a];rfl
 ·refine GA b ?_;show(decide (z∈f.2)&&(decide (("upto":Str)="is")||(decide (("upto":Str)="upto")&&decide (f.2.idxOf z+1<f.2.length))))=true;rw[a8 a,a8 c,a8 (rfl:("upto":Str)="upto")];simp
def Qv:yJ "is"=true:=by decide +kernel
def Y6:yJ "upto"=true:=by decide +kernel
def RW{fs}(F:iF fs an)(hk:yJ k=true){f:Str×List Str}(a:f∈fs)(b:z∈f.2):Th 27 1 (D7 k f z):=
 aCr 8 0 3 (xN (nY hk (aN _)) (xN (nY (F.name a) (aN _)) (xN (nY (F.vals a z b) (aN _)) OG))) Fn Fk Fk
def DR{fs}(F:iF fs an):∀d∈eN fs,Th 27 1 d:=λd h=>by
 obtain⟨f,b,⟨z,a,rfl⟩ | ⟨z,a,c,rfl⟩⟩:=vY h
 ·exact RW F Qv b a
 ·exact RW F Y6 b a
theorem iX{fs}(F:iF fs an):∀a:List (Str×List Str),(∀g∈a,g∈fs)->(eN a).length<=7*a.length
|[],_=>aN _
|g::a,h=>by
 have d:=iX F a λx b=>h x (aO _ b);obtain⟨_,e,_⟩:=F.vs g (h g (aS ..));show((IJ g::a.map IJ).flatten).length<=_;rw[WV,bG]
 have c:(IJ g).length<=7:=by
  unfold IJ pQ BO;rw[bG,aC,aC,bB,gA];split
  ·rw[bB];lia
  ·lia
 have:(eN a).length=((a.map IJ).flatten).length:=rfl;rw[dB];lia
def UL{l:List Str}{j:Nat}(b:j<l.length):((l.take (j+1)).drop 1).take (l.length-3)=((l.take j).drop 1).take (l.length-3)++(if 0<j/\j+2<l.length then[l[j]]else[]):=by
 have e:l.take (j+1)=l.take j++[l[j]]:=by rw[cS,aD b];rfl
 rw[e];have c:(l.take j).length=j:=by rw[bB];lia
 cases j with
 |zero=>simp
 |succ i=>
  rw[List.drop_append_of_le_length Fl,List.take_append];congr 1;have hd:((l.take (i+1)).drop 1).length=i:=by rw[gA,c];lia
  rw[hd];by_cases a:i+1+2<l.length
  ·rw[a7 ⟨Fl,a⟩];have:l.length-3-i=(l.length-4-i)+1:=by lia
   rw[this,List.take_succ_cons,List.take_nil]
  ·rw[a6 λh=>a h.2];have:l.length-3-i=0:=by lia
   rw[this];rfl
def UI{fs}(F:iF fs an){f g:Str×List Str}(h:f∈fs)(k:g∈fs)(e:g.1=f.1):g=f:=by
 obtain⟨i,d⟩:=bP h;obtain⟨j,a⟩:=bP k;have b:(fs.map (·.1))[i]?=some f.1:=by rw[aI,d];rfl
 have c:(fs.map (·.1))[j]?=some f.1:=by rw[aI,a,WO,e]
 obtain⟨l,m⟩:=aE.mp b;obtain⟨o,n⟩:=aE.mp c;have:i=j:=(WT l F.nd.2.2).mp (b.trans c.symm);subst this;rw[d]at a;exact(c5 a).symm
def uP{a:List Str}(e:∀y∈a,yJ y=true)(f:z∈a):K9 (a.map aW) (.str z) (a.idxOf z):=by
 have c:a.idxOf z<a.length:=gB.mpr f;obtain⟨_,_,_,_,i,g⟩:=sZ (wM e (aN 8) (m:=0));refine⟨g,(nY (e z f) (aN 8) (m:=0)).lay,Fl,⟨.str z,?_,?_⟩,λm t h b=>?_⟩
 ·rw[aI,aD c,jN c];rfl
 ·show(z==z)=true;simp
 ·rw[aI]at b
  cases d:a[m]? with
  |none=>rw[d]at b;cases b
  |some y=>
   rw[d]at b;cases b;show(y==z)=false
   have:y≠z:=λq=>by
    subst q;exact A2 h d
   simpa using this
inductive Tr | say (a:Str) | ask (k n v s:Str) (y m:Tr)
noncomputable def jG:Tr->D
|.say a=>.tuple [.str "say",.str a]
|.ask k n v s y m=>.tuple [.str "ask",.tuple [.str k,.str n,.str v],.str s,jG y,jG m]
noncomputable def Tr.dep:Tr->Nat
|.say _=>0
|.ask _ _ _ _ y m=>max y.dep m.dep+1
noncomputable def Tr.kn:Tr->Nat
|.say _=>0
|.ask _ _ _ _ y m=>y.kn+m.kn+1
noncomputable def Tr.nodes:Tr->Nat
|.say _=>1
|.ask _ _ _ _ y m=>y.nodes+m.nodes+1
def lQ(fs:List (Str×List Str))(an:List Str):Tr->Prop
|.say a=>a∈an
|.ask k n v s y m=>QA fs (.tuple [.str k,.str n,.str v])=true/\(s="yes"\/s="no")/\lQ fs an y/\lQ fs an m
def AZ{fs}{k n v:Str}(h:QA fs (.tuple [.str k,.str n,.str v])=true):∃f∈fs,f.1=n/\v∈f.2/\(k="is"\/(k="upto"/\f.2.idxOf v+1<f.2.length)):=by
 obtain⟨f,c,b⟩:=sR.mp (h:(fs.any λf=>He (.str n) f&&Gc f (.str k) (.str v))=true);rw[dN]at b;have a:(decide (v∈f.2)&&(decide (k="is")||(decide (k="upto")&&decide (f.2.idxOf v+1<f.2.length))))=true:=b.2;simp only[dN,uM,o0]at a;exact⟨f,c,b8 b.1,a.1,a.2⟩
def T6:yJ "yes"=true:=by decide +kernel
def Ld:yJ "no"=true:=by decide +kernel
theorem Tr.nodes_kn:∀t:Tr,t.nodes=2*t.kn+1
|.say _=>rfl
|.ask _ _ _ _ y m=>by
 show y.nodes+m.nodes+1=2*(y.kn+m.kn+1)+1;have:=nodes_kn y;have:=nodes_kn m;lia
theorem Tr.kn_dep:∀t:Tr,t.kn<2^t.dep
|.say _=>by show 0<2^0;decide
|.ask _ _ _ _ y m=>by
 have:=kn_dep y;have:=kn_dep m;show y.kn+m.kn+1<2^(max y.dep m.dep+1);have a:2^y.dep<=2^(max y.dep m.dep):=lR Fk (Nat.le_max_left ..);have b:2^m.dep<=2^(max y.dep m.dep):=lR Fk (Nat.le_max_right ..);rw[uF];lia
def Wx:kQ:=λa Q=>a=[.dict []]/\∀n:Int,0<=n->n<4096->Q (.int n)
def Wy:kQ:=λa Q=>∃(fs:List (Str×List Str))(an:List Str)(n:Int),a=[dX fs an,.int n]/\iF fs an/\0<=n/\∀k nm v,QA fs (.tuple [.str k,.str nm,.str v])=true->Q (.tuple [.str k,.str nm,.str v])
def Tr.nodes_pos(t:Tr):1<=t.nodes:=by rw[t.nodes_kn];lia
def qV{c:xV}(P:Nat->List Sl->Prop)(e:Nat)(f:P e σ)
  (hs:∀n a,P n a->∃b:Bool,(∀q:Bool->Prop,q b->c a q)/\(if b=true then tb { DT with nx:=λd=>∃m,m<n/\P m d,ct:=λd=>∃m,m<n/\P m d,bk:=u DT } a else u DT a)):gI (R9 c tb) u DT σ:=
 ⟨P,⟨e,f⟩,λn a g=>let ⟨_,h1,h2⟩:=hs n a g;h1 _ h2⟩
def ZH{e:Type}(b:List e):b=[]\/∃c w,b=c++[w]:=by
 induction b with
 |nil=>exact .inl Fo
 |cons a b d=>
  rcases d with rfl | ⟨c,w,rfl⟩
  ·exact .inr ⟨[],a,Fo⟩
  ·exact .inr ⟨a::c,w,Fo⟩
def YC{u:sW}{b:List Sl}{i:Nat}(a:List D)(d:D)(h:b[i]?=some (.own (a++[d])))(k:g d (b.set i (.own a)) (u DT)):gI (Kl i g) u DT b:=⟨a,d,h,k⟩
def aAc(a:List Str)(h:2<=a.length):kU a (some 1) (some (-2))=(a.drop 1).take (a.length-3):=by
 unfold kU
 have b:HT.sIx a.length 0 (some 1)=1:=by
  show(if(1:Int)<0 then((1:Int)+(a.length:Int)).toNat else min (1:Int).toNat a.length)=_;rw[a6 Fk];show min 1 a.length=1;lia
 have c:HT.sIx a.length a.length (some (-2))=a.length-2:=by
  show(if(-2:Int)<0 then((-2:Int)+(a.length:Int)).toNat else min (-2:Int).toNat a.length)=_;rw[a7 Fk];lia
 rw[b,c];congr 1
def aAb(a:List Str)(h:2<=a.length):kU a none (some 1)=a.take 1:=nV a 1
def Vg:RD:=λa Q=>∃f:Str×List Str,a=[kI f]/\2<=f.2.length/\f.2.length<=5/\Q (IJ f)
abbrev Rw:=List D×Str
noncomputable def rG(b:List Rw)(a:Str):Nat:=b.countP λr=>decide (r.2=a)
noncomputable def kB(an:List Str)(b:List Rw):List Int:=an.map λa=>(rG b a:Int)
noncomputable def YQ(ss a:List Rw):Nat:=(ss.map λr=>a.countP λo=>decide (o.2≠r.2)).sum
noncomputable def UR(a b:Nat):D:=.tuple [.int ((a / a.gcd b:Nat):Int),.int ((b / a.gcd b:Nat):Int)]
def xP(an:List Str)(c:List Rw)(a:Str):Prop:=∃k,an[k]?=some a/\(∀(j:Nat) b,an[j]?=some b->rG c b<=rG c a)/\∀(j:Nat) b,j<k->an[j]?=some b->rG c b<rG c a
def Kq:kQ:=λc Q=>∃a b:Nat,c=[.int a,.int b]/\0<b/\a<2^190/\b<2^190/\Q (UR a b)
def Pf:RD:=λb Q=>∃(fs:List (Str×List Str))(an:List Str)(a:List Rw),b=[dX fs an,.list (a.map dQ)]/\iF fs an/\gF fs an a/\a.length<=60/\Q ((kB an a).map aQ)
def Kr:kQ:=λc Q=>∃(fs:List (Str×List Str))(an:List Str)(b:List Rw),c=[dX fs an,.list (b.map dQ)]/\iF fs an/\gF fs an b/\b.length<=60/\∀a,xP an b a->Q (.str a)
def Pg:kQ:=λb Q=>∃(fs:List (Str×List Str))(an:List Str)(a:List Rw),b=[dX fs an,.list (a.map dQ)]/\iF fs an/\gF fs an a/\a.length<=60/\Q (UR (YQ a a) (max 1 a.length))
theorem K2:∀(ss a:List Rw),YQ ss a<=ss.length*a.length
|[],a=>by show 0<=_;lia
|s::ss,a=>by
 have:=K2 ss a;have b:a.countP (λo=>decide (o.2≠s.2))<=a.length:=MW;show a.countP (λo=>decide (o.2≠s.2))+YQ ss a<=(ss.length+1)*a.length;rw[aM9,aM8];lia
def Yz(b:List Rw)(a:Str):rG b a<=b.length:=MW
theorem JO{a:Type}[DecidableEq a]:∀(l:List a)(x:a),x∈l->∃k:Nat,l[k]?=some x/\∀j:Nat,j<k->l[j]?≠some x
|y::l,x,h=>by
 by_cases e:y=x
 ·exact⟨0,by rw[e];rfl,λj d=>by lia⟩
 ·obtain⟨k,b,c⟩:=JO l x ((aY.mp h).resolve_left λz=>e z.symm);refine⟨k+1,b,λj d=>?_⟩
  cases j with
  |zero=>exactλz=>e (c5 z)
  |succ j=>exact c j Fl
noncomputable def aNe(a:Str)(x:D):Bool:=match x with | .tuple [_,.str b]=>!decide (b=a) | _=>false
noncomputable def BJ(f:Str×List Str)(k v st:Str)(c:D):Str:=match c with
|.none=>st
|.str z=>if k="is" then(if z=v then "yes" else "no")else if f.2.idxOf z<=f.2.idxOf v then "yes" else "no"
|_=>""
noncomputable def fN(fs:List (Str×List Str))(k n v st:Str)(a:List D):Str:=match fs[(fs.map (·.1)).idxOf n]?,a[(fs.map (·.1)).idxOf n]? with
|some f,some c=>BJ f k v st c
|_,_=>""
def Mq:kQ:=λb Q=>∃(fs:List (Str×List Str))(an:List Str)(k n v st:Str)(a:List D),b=[dX fs an,.tuple [.str k,.str n,.str v],.str st,.tuple a]/\iF fs an/\QA fs (.tuple [.str k,.str n,.str v])=true/\(st="yes"\/st="no")/\lO fs (.tuple a)=true/\Q (.str (fN fs k n v st a))
def Xa:kQ:=Mq
noncomputable def nT(fs:List (Str×List Str))(k n v st:Str)(a:List (List D×Str))(w:Str)(x:D):Bool:=match x with
|.int i=>match L2.atI a i with | some r=>decide (fN fs k n v st r.1=w) | none=>false
|_=>false
noncomputable def iM(fs:List (Str×List Str))(k n v st:Str)(a:List (List D×Str))(w:Str):List D:=(eQ a.length).filter (nT fs k n v st a w)
def Vl:Gr:=λb Q=>∃(fs:List (Str×List Str))(an:List Str)(k n v st:Str)(a:List (List D×Str)),b=[dX fs an,.tuple [.str k,.str n,.str v],.str st,.list (a.map dQ)]/\iF fs an/\QA fs (.tuple [.str k,.str n,.str v])=true/\(st="yes"\/st="no")/\gF fs an a/\a.length<=60/\Q (iM fs k n v st a "yes") (iM fs k n v st a "no")
def NU{fs:List (Str×List Str)}(F:iF fs an){j:Nat}{f:Str×List Str}(h:fs[j]?=some f):(fs.map (·.1)).idxOf f.1=j:=by
 have d:f.1∈fs.map (·.1):=aR.mpr ⟨f,aU h,Fo⟩;have a:(fs.map (·.1)).idxOf f.1<(fs.map (·.1)).length:=gB.mpr d;have b:(fs.map (·.1))[(fs.map (·.1)).idxOf f.1]?=some f.1:=by rw[aD a,jN a]
 have c:(fs.map (·.1))[j]?=some f.1:=by rw[aI,h];rfl
 exact(WT a F.nd.2.2).mp (b.trans c.symm)
def tN{fs}(F:iF fs an){st}{j:Nat}{f:Str×List Str}(a:fs[j]?=some f)(b:cs[j]?=some c)(d:f.1=n):fN fs k n v st cs=BJ f k v st c:=by
 subst d;unfold fN;rw[NU F a,a,b]
noncomputable def Jd(fs:List (Str×List Str))(k n v st:Str)(x:D):D:=match x with | .tuple [.tuple cs,_]=>.str (fN fs k n v st cs) | _=>.none
def IQ{c:ET}{b:vJ}{a:List Sl}{i:Nat}{ts us:List D}(d:a[i]?=some (.own ts))(e:ts.length+us.length<=100000)(h:∀q:D->Prop,q (.list us)->c a q)(k:b.nx (a.set i (.own (ts++us)))):SD i c b a:=⟨ts,d,h _ ⟨us,Fo,e,k⟩⟩
def yI{fs st}{j:Nat}{r:List D×Str}(h:rs[j]?=some r):nT fs k n v st rs w (.int (j:Int))=decide (fN fs k n v st r.1=w):=by
 show(match L2.atI rs (j:Int)with | some r=>decide (fN fs k n v st r.1=w) | none=>false)=_;rw[L2.fH h]
noncomputable def B4(k v:Str)(f:Str×List Str):List Str:=if k="is" then[v]else f.2.take (f.2.idxOf v+1)
def Vk:kQ:=λa Q=>∃(k n v:Str)(f:Str×List Str),a=[.tuple [.str k,.str n,.str v],kI f]/\(∀y∈f.2,yJ y=true)/\v∈f.2/\f.2.length<=5/\Q (.tuple ((B4 k v f).map aW))
def QG{f:Str×List Str}{k v st z:Str}(d:z∈f.2):(if JJ (B4 k v f) (.str z)=true then("yes":Str)else "no")=BJ f k v st (.str z):=by
 show(if decide (z∈B4 k v f)=true then("yes":Str)else "no")=if k="is" then(if z=v then("yes":Str)else "no")else if f.2.idxOf z<=f.2.idxOf v then("yes":Str)else "no";unfold B4;by_cases hk:k="is"
 ·rw[a7 hk,a7 hk];by_cases e:z=v
  ·rw[a7 e,a7 (a8 (dH.mpr e))]
  ·rw[a6 e,a6 (λq=>e (dH.mp (b8 q)))]
 ·rw[a6 hk,a6 hk];have b:f.2.idxOf z<f.2.length:=gB.mpr d;by_cases e:f.2.idxOf z<=f.2.idxOf v
  ·rw[a7 e,a7];refine a8 (aU (i:=f.2.idxOf z) ?_);rw[gR,a7 Fl,aD b,jN b]
  ·rw[a6 e,a6];intro q;obtain⟨i,a⟩:=bP (b8 q);have c:=(aE.mp a).1;rw[bB]at c;rw[gR,a7 Fl]at a;have:=LR a;lia
def JL{f:Str×List Str}(a:v∈f.2)(h:y∈B4 k v f):y∈f.2:=by
 unfold B4 at h;split at h
 ·rw[dH.mp h];exact a
 ·exact dZ h
noncomputable def vE(k v st:Str)(f:Str×List Str):List D:=(B4 k v f).map aW++(if st="yes" then[uY]else[])
def Vj:kQ:=λa Q=>∃(k n v st:Str)(f:Str×List Str),a=[.tuple [.str k,.str n,.str v],.str st,kI f]/\(∀y∈f.2,yJ y=true)/\v∈f.2/\f.2.length<=5/\Q (.tuple (vE k v st f))
def Vi:kQ:=λa Q=>∃(fs:List (Str×List Str))(an:List Str)(k n v:Str)(f:Str×List Str)(j:Nat),a=[dX fs an,.tuple [.str k,.str n,.str v]]/\iF fs an/\fs[j]?=some f/\f.1=n/\Q (.int (j:Int))
def VE{f:Str×List Str}(h:f.2.length<=5):(B4 k v f).length<=5:=by
 unfold B4;split
 ·show 1<=5;decide
 ·rw[bB];lia
def U8{k v st:Str}(a:st="yes"\/st="no")(b:WY f c=true):(if A1 c (.tuple (vE k v st f))=true then("yes":Str)else "no")=BJ f k v st c:=by
 have e:A1 c (.tuple (vE k v st f))=(JJ (B4 k v f) c||((if st="yes" then[uY]else[]).any λz=>dW z c)):=by
  show((vE k v st f).any λz=>dW z c)=_;unfold vE;rw[List.any_append,xM]
 cases c with
 |none=>
  rw[e];rcases a with rfl | rfl<;>rfl
 |str z=>
  have g:z∈f.2:=b8 b
  have d:((if st="yes" then[uY]else[]).any λx=>dW x (.str z))=false:=by
   rcases a with rfl | rfl<;>rfl
  rw[e,d,xT];exact QG g
 |_=>cases b
def TV{st}{f:Str×List Str}(b:∀y∈f.2,yJ y=true)(c:v∈f.2)(hd:Cd d):vP d (.tuple (vE k v st f)):=by
 unfold vE;split
 ·exact K8 (λy a=>b y (JL c a)) hd
 ·rw[fR];exact AS (λy a=>b y (JL c a)) hd
noncomputable def Gm(w:Str)(x:D):Bool:=match x with | .tuple [_,.str s]=>decide (s=w) | _=>false
noncomputable def ZR(ss:List Str)(w:Str)(x:D):Bool:=match x with | .int i=>(match L2.atI ss i with | some s=>decide (s=w) | none=>false) | _=>false
noncomputable def Hk(ss:List Str)(x:D):D:=match x with | .int i=>(match L2.atI ss i with | some s=>.str s | none=>.none) | _=>.none
noncomputable def Hy(x:D):D:=match x with | .tuple [a,_]=>a | _=>x
def EJ(ss:List Str):zP (ss.map aW)=(eQ ss.length).map λx=>.tuple [x,Hk ss x]:=by
 apply gY;intro i
 cases h:ss[i]? with
 |none=>
  have b:=G5.mp h;rw[eP (by rw[rE,aC];exact b),eP (by rw[aC,gZ];exact b)]
 |some s=>
  have b:=(aE.mp h).1;rw[yT (a:=.str s) (by rw[aI,h];rfl),aI];unfold eQ;rw[aI,iI b];show _=some (gE [.int (i:Int),match L2.atI ss (i:Int)with | some s=>.str s | none=>.none]);rw[L2.fH h]
def JS(ss:List Str)(w:Str):((zP (ss.map aW)).filter (Gm w)).map Hy=(eQ ss.length).filter (ZR ss w):=by
 rw[EJ,uK,bM];have a:(Hy∘λx=>gE [x,Hk ss x])=id:=by funext x;rfl
 have b:(Gm w∘λx=>gE [x,Hk ss x])=ZR ss w:=by
  funext x
  cases x with
  |int i=>
   show Gm w (.tuple [.int i,(match L2.atI ss i with | some s=>aW s | none=>.none)])=(match L2.atI ss i with | some s=>decide (s=w) | none=>false);cases L2.atI ss i<;>rfl
  |_=>rfl
 rw[a,b,nH]
def Vm:RD:=λa Q=>∃(w:Str)(ss:List Str),a=[.str w,.list (ss.map aW)]/\ss.length<=60/\Q ((eQ ss.length).filter (ZR ss w))
def NA{fs st}{a:List (List D×Str)}(w:Str):(eQ (a.map λr=>fN fs k n v st r.1).length).filter (ZR (a.map λr=>fN fs k n v st r.1) w)=iM fs k n v st a w:=by
 unfold iM;rw[aC];apply jB;intro x e;obtain⟨j,d⟩:=bP e;obtain⟨b,rfl⟩:=iB d;have c:a[j]?=some a[j]:=aD b;rw[yI c];show(match L2.atI (a.map λr=>fN fs k n v st r.1) (j:Int)with | some s=>decide (s=w) | none=>false)=_;rw[L2.fH (v:=fN fs k n v st a[j].1) (by rw[aI,c];rfl)]
noncomputable def V7(b:List Rw)(x:D):D:=match x with | .str a=>.int ((rG b a:Nat):Int) | _=>.none
def KQ(b:List Rw)(a:Str):((b.map λr=>aW r.2).countP λt=>dW t (.str a))=rG b a:=by
 rw[aAx];unfold rG;congr 1
def UV:∀{ys:List Str},(∀y∈ys,yJ y=true)->dP (ys.map aW)=true/\dM (ys.map aW)<=0:=λh=>by
 obtain⟨_,_,_,_,a,b⟩:=sZ (wM h (aN 8) (m:=0));exact⟨b,a⟩
theorem JE:∀ns:List Int,dP (ns.map aQ)=true/\dM (ns.map aQ)=0
|[]=>⟨Fo,Fo⟩
|n::ns=>by
 have:=JE ns;refine⟨?_,?_⟩
 ·show(true&&dP (ns.map aQ))=true;rw[this.1];rfl
 ·show max 0 (dM (ns.map aQ))=0;rw[this.2];rfl
def PZ{ns:List Int}{m:Int}{j:Nat}(h:ns[j]?=some m)(b:∀i:Nat,i<j->ns[i]?≠some m):K9 (ns.map aQ) (.int m) j:=by
 obtain⟨c,d⟩:=JE ns;refine⟨c,Fo,by rw[d];lia,⟨.int m,by rw[aI,h];rfl,?_⟩,λi t f a=>?_⟩
 ·show(m==m)=true;simp
 ·rw[aI]at a
  cases e:ns[i]? with
  |none=>rw[e]at a;cases a
  |some n=>
   rw[e]at a;cases a;show(n==m)=false;have:n≠m:=λz=>b i f (by rw[e,z]);simpa using this
def Ph:kQ:=λc Q=>∃a b:Nat,c=[.int a,.int b]/\Q (.int ((a.gcd b:Nat):Int))
def XM{an:List Str}(k:an.Nodup)(g:Str->Int)(h:b∈an):(an.map λa=>if b=a then g a else 0).sum=g b:=by
 induction an with
 |nil=>simp at h
 |cons a an m=>
  rw[bE,iS];obtain⟨f,d⟩:=mT.mp k;by_cases e:b=a
  ·subst e
   have z:(an.map λa=>if b=a then g a else 0).sum=0:=by
    have:∀l:List Str,b∉l->(l.map λa=>if b=a then g a else 0).sum=0:=λl=>by
     induction l with
     |nil=>intro _;rfl
     |cons c l i=>
      intro j;rw[bE,iS,i λq=>j (aO _ q),a6 λ(q:b=c)=>j (by rw[q];exact aS ..)];rfl
    exact this an f
   rw[z,a7 rfl];lia
  ·rw[a6 e,m d ((aY.mp h).resolve_left e)];lia
def XN(an:List Str)(f g:Str->Int):(an.map λa=>f a+g a).sum=(an.map f).sum+(an.map g).sum:=by
 induction an with
 |nil=>rfl
 |cons a an b=>rw[bE,bE,bE,iS,iS,iS,b];lia
theorem HQ{an:List Str}(d:an.Nodup)(g:Str->Int):∀ss:List Rw,(∀r∈ss,r.2∈an)->(an.map λa=>(rG ss a:Int)*g a).sum=(ss.map λr=>g r.2).sum
|[],_=>by
 have:∀l:List Str,(l.map λa=>((rG [] a:Nat):Int)*g a).sum=0:=λl=>by
  induction l with
  |nil=>rfl
  |cons c l b=>
   rw[bE,iS,b];show((0:Nat):Int)*g c+0=0;simp
 exact this an
|r::ss,h=>by
 have i:=HQ d g ss λx f=>h x (aO _ f)
 have e:(λa=>((rG (r::ss) a:Nat):Int)*g a)=λa=>(if r.2=a then g a else 0)+(rG ss a:Int)*g a:=by
  funext a;unfold rG;rw[XE];by_cases q:r.2=a
  ·rw[a7 q,a7 (a8 q),fT,aNc];show _+1*g a=_;rw[aNb,Int.add_comm]
  ·rw[a6 q,a6 (by simpa using q),AI,Int.zero_add]
 rw[e,XN,XM d g (h r (aS ..)),i,bE,iS]
def PQ(b:List Rw)(a:Str):((b.countP λo=>decide (o.2≠a):Nat):Int)=(b.length:Int)-(rG b a:Int):=by
 unfold rG
 have:b.length=(b.countP λo=>decide (o.2=a))+(b.countP λo=>decide (o.2≠a)):=by
  rw[List.length_eq_countP_add_countP (λo:Rw=>decide (o.2=a))];congr 2;funext o;by_cases q:o.2=a<;>simp[q]
 lia
theorem UG:∀l:List Nat,((l.sum:Nat):Int)=(l.map λ(n:Nat)=>(n:Int)).sum
|[]=>rfl
|n::l=>by rw[iS,bE,iS,fT,UG l]
def YO{an:List Str}(e:an.Nodup){b:List Rw}(h:∀r∈b,r.2∈an):((kB an b).map λc=>c*((b.length:Int)-c)).sum=((YQ b b:Nat):Int):=by
 have d:=HQ e (λa=>(b.length:Int)-(rG b a:Int)) b h;unfold kB YQ;rw[bM,UG,bM];refine d.trans ?_;congr 1;apply iH;intro r _;exact(PQ b r.2).symm
noncomputable def Lx(n:Int)(x:D):D:=match x with | .int c=>.int (c*(n-c)) | _=>.none
noncomputable def X7(x:D):D:=match x with | .tuple [_,b]=>b | _=>x
noncomputable def Mi:Tr->Bool
|.say _=>true
|.ask _ _ _ _ _ _=>false
def Vp:kQ:=λa Q=>∃t:Tr,a=[jG t]/\Q (.bool (Mi t))
noncomputable def sY(fs:List (Str×List Str)):Tr->List D->List D
|.say _,_=>[]
|.ask k n v s y m,cs=>.tuple [.tuple [.str k,.str n,.str v],.str (fN fs k n v s cs)]::(if fN fs k n v s cs="yes" then sY fs y cs else sY fs m cs)
noncomputable def rT(fs:List (Str×List Str)):Tr->List D->List Str
|.say _,_=>[]
|.ask k n v s y m,cs=>fN fs k n v s cs::(if fN fs k n v s cs="yes" then rT fs y cs else rT fs m cs)
noncomputable def pK(fs:List (Str×List Str)):Tr->List D->Str
|.say a,_=>a
|.ask k n v s y m,cs=>if fN fs k n v s cs="yes" then pK fs y cs else pK fs m cs
noncomputable def sM:Tr->List Str->Option Tr
|t,[]=>some t
|.say _,_::_=>none
|.ask _ _ _ _ y m,s::r=>if s="yes" then sM y r else if s="no" then sM m r else none
def LD:¬("no":Str)="yes":=by decide +kernel
section
variable{fs:List (Str×List Str)}{an:List Str}
def AN(F:iF fs an){k n v st:Str}(q:QA fs (.tuple [.str k,.str n,.str v])=true)(i:st="yes"\/st="no")(l:lO fs (.tuple cs)=true):fN fs k n v st cs="yes"\/fN fs k n v st cs="no":=by
 obtain⟨f,o,g,r,hk⟩:=AZ q;obtain⟨j,h⟩:=bP o;obtain⟨m,e⟩:=uB l;have p:=(aE.mp h).1;have a:cs[j]?=some cs[j]:=aD Fl
 generalize cs[j]=c at a
 rw[tN F h a g];have hok:=e j f c h a
 cases c with
 |none=>exact i
 |str z=>
  show(if k="is" then(if z=v then("yes":Str)else "no")else if f.2.idxOf z<=f.2.idxOf v then("yes":Str)else "no")="yes"\/_;by_cases d:k="is"
  ·by_cases b:z=v
   ·exact .inl (by rw[a7 d,a7 b])
   ·exact .inr (by show(if k="is" then(if z=v then("yes":Str)else "no")else if f.2.idxOf z<=f.2.idxOf v then("yes":Str)else "no")="no";rw[a7 d,a6 b])
  ·by_cases b:f.2.idxOf z<=f.2.idxOf v
   ·exact .inl (by rw[a6 d,a7 b])
   ·exact .inr (by show(if k="is" then(if z=v then("yes":Str)else "no")else if f.2.idxOf z<=f.2.idxOf v then("yes":Str)else "no")="no";rw[a6 d,a6 b])
 |_=>cases hok
theorem xZ:∀(t:Tr)(a:List D),(sY fs t a).map X7=(rT fs t a).map aW
|.say _,_=>rfl
|.ask k n v s y m,a=>by
 show(aW (fN fs k n v s a))::(if fN fs k n v s a="yes" then sY fs y a else sY fs m a).map X7=.str (fN fs k n v s a)::(if fN fs k n v s a="yes" then rT fs y a else rT fs m a).map aW;congr 1;split
 ·exact xZ y a
 ·exact xZ m a
theorem yA:∀(t:Tr)(c:List D),∀x∈sY fs t c,∃a b,x=.tuple [a,b]
|.say _,_,x,h=>by cases h
|.ask k n v s y m,c,x,h=>by
 rcases aY.mp h with rfl | h
 ·exact⟨_,_,Fo⟩
 ·split at h
  ·exact yA y c x h
  ·exact yA m c x h
theorem FG:∀(t:Tr)(a:List D),(sY fs t a).length<=t.dep
|.say _,_=>aN _
|.ask k n v s y m,a=>by
 show(if fN fs k n v s a="yes" then sY fs y a else sY fs m a).length+1<=max y.dep m.dep+1;have b:=FG y a;have c:=FG m a;split<;>lia
theorem vO(F:iF fs an)(b:lO fs (.tuple cs)=true):∀t:Tr,lQ fs an t->sM t (rT fs t cs)=some (.say (pK fs t cs))
|.say a,_=>rfl
|.ask k n v s y m,ht=>by
 obtain⟨d,hs,f,c⟩:=ht;show(if fN fs k n v s cs="yes" then sM y _ else if fN fs k n v s cs="no" then sM m _ else none)=some (.say (if fN fs k n v s cs="yes" then pK fs y cs else pK fs m cs));rcases AN F d hs b with e | e
 ·rw[a7 e,a7 e,a7 e];exact vO F b y f
 ·have ne:¬fN fs k n v s cs="yes":=λz=>LD (e.symm.trans z);rw[a6 ne,a7 e,a6 ne,a6 ne];exact vO F b m c
theorem FX:∀{t p pl},sM t pl=some p->∀s∈pl,s="yes"\/s="no"
|t,p,[],h,x,hx=>by cases hx
|.say a,p,s::r,h,x,hx=>by cases h
|.ask k n v st y m,p,s::r,h,x,hx=>by
 have b:(if s="yes" then sM y r else if s="no" then sM m r else none)=some p:=h;by_cases c:s="yes"
 ·rw[a7 c]at b;rcases aY.mp hx with rfl | hx
  ·exact .inl c
  ·exact FX b x hx
 ·rw[a6 c]at b;by_cases d:s="no"
  ·rw[a7 d]at b;rcases aY.mp hx with rfl | hx
   ·exact .inr d
   ·exact FX b x hx
  ·rw[a6 d]at b;cases b
end
noncomputable def there(fs:List (Str×List Str))(t:Tr)(b:List (List D×Str))(a:List Str)(x:D):Bool:=match x with
|.int i=>(match L2.atI b i with | some r=>decide ((rT fs t r.1).take a.length=a) | none=>false)
|_=>false
def Vq:kQ:=λb Q=>∃(k n v s:Str)(y m:Tr)(a:Str),b=[jG (.ask k n v s y m),.str a]/\Q (jG (if a="yes" then y else m))
def Vs:RD:=λb Q=>∃(fs:List (Str×List Str))(an:List Str)(t:Tr)(a:List D),b=[dX fs an,jG t,.tuple a]/\iF fs an/\lQ fs an t/\lO fs (.tuple a)=true/\t.dep<=40/\Q (sY fs t a)
def Vt:kQ:=λb Q=>∃(fs:List (Str×List Str))(an:List Str)(t:Tr)(a:List D),b=[dX fs an,jG t,.tuple a]/\iF fs an/\lQ fs an t/\lO fs (.tuple a)=true/\t.dep<=40/\Q (.tuple ((rT fs t a).map aW))
def Vu:kQ:=λb Q=>∃(fs:List (Str×List Str))(an:List Str)(t:Tr)(a:List D),b=[dX fs an,jG t,.tuple a]/\iF fs an/\lQ fs an t/\lO fs (.tuple a)=true/\t.dep<=40/\Q (.str (pK fs t a))
def Vv:kQ:=λb Q=>∃(t p:Tr)(a:List Str),b=[jG t,.tuple (a.map aW)]/\sM t a=some p/\t.dep<=40/\Q (jG p)
def QJ{fs:List (Str×List Str)}(F:WJ fs an):iF (fs.take 2) an:=by
 have n1:=F.n1;have n5:=F.n5;refine⟨by rw[bB];lia,by rw[bB];lia,⟨by rw[aC],λy a=>?_,?_⟩,λf b=>F.vs f (dZ b),F.a2,F.a4,F.an,by rw[bB];lia⟩
 ·rw[rO]at a;exact F.nd.2.1 y (dZ a)
 ·rw[rO];exact F.nd.2.2.sublist (rK _ _)
def tL(n:Nat):kQ:=λa Q=>∃t:Tr,a=[jG t]/\t.kn<=600/\t.dep<n/\Q (.int t.kn)
def Vr:kQ:=tL 41
def UE{Q:D->Prop}(h:tL 0 ds Q):False:=by
 obtain⟨_,_,_,h,_⟩:=h;lia
noncomputable def eE(fs:List (Str×List Str))(t:Tr)(a:List (List D×Str)):Nat:=(a.filter λr=>!decide (pK fs t r.1=r.2)).length
noncomputable def iL(fs:List (Str×List Str))(k n v st:Str)(r:List D×Str):Bool:=decide (fN fs k n v st r.1="yes")
theorem tM{fs}(k n v s:Str)(y m:Tr):∀d:List (List D×Str),eE fs (.ask k n v s y m) d=eE fs y (d.filter (iL fs k n v s))+eE fs m (d.filter λr=>!iL fs k n v s r)
|[]=>rfl
|r::d=>by
 have c:=tM (fs:=fs) k n v s y m d;have e:pK fs (.ask k n v s y m) r.1=if fN fs k n v s r.1="yes" then pK fs y r.1 else pK fs m r.1:=rfl;unfold eE at c |-
 by_cases f:fN fs k n v s r.1="yes"
 ·have b:iL fs k n v s r=true:=a8 f;rw[cH (p:=iL fs k n v s),a7 b,cH (p:=λr=>!iL fs k n v s r),a6 (by rw[b];decide)];rw[a7 f]at e;by_cases a:pK fs y r.1=r.2
  ·rw[cH,a6 (by rw[e];simp[a]),cH (x:=r),a6 (by simp[a])];exact c
  ·rw[cH,a7 (by rw[e];simp[a]),cH (x:=r),a7 (by simp[a]),dB,dB,c];lia
 ·have b:iL fs k n v s r=false:=c4 f;rw[cH (p:=iL fs k n v s),a6 (by rw[b];decide),cH (p:=λr=>!iL fs k n v s r),a7 (by rw[b];rfl)];rw[a6 f]at e;by_cases a:pK fs m r.1=r.2
  ·rw[cH,a6 (by rw[e];simp[a]),cH (x:=r),a6 (by simp[a])];exact c
  ·rw[cH,a7 (by rw[e];simp[a]),cH (x:=r),a7 (by simp[a]),dB,dB,c];lia
def Vw:kQ:=λd Q=>∃(fs:List (Str×List Str))(an:List Str)(t:Tr)(c:List (List D×Str))(a b:Int),d=[dX fs an,jG t,.list (c.map dQ),.tuple [.int a,.int b]]/\iF fs an/\lQ fs an t/\t.dep<=40/\t.kn<=600/\gF fs an c/\c.length<=60/\0<=a/\a<=1000000000/\0<=b/\b<=1000000000/\Q (.int (a*(eE fs t c:Nat)+b*(t.kn:Nat)))
def gF.filt{fs}{a:List (List D×Str)}(h:gF fs an a)(p:List D×Str->Bool):gF fs an (a.filter p):=λr b=>h r (cL.mp b).1
def FA(fs:List (Str×List Str))(an:List Str)(fa:List (List D×Str)->Str):Prop:=∀a,gF fs an a->xP an a (fa a)
def xP.uniq(h:xP an rs a)(g:xP an rs b):a=b:=by
 obtain⟨i,d,k,l⟩:=h;obtain⟨j,c,e,f⟩:=g;have m:=k j b c;have n:=e i a d;rcases W9 i j with z | z | z
 ·have:=f i a z d;lia
 ·subst z;rw[d]at c;exact c5 c
 ·have:=l j b z c;lia
noncomputable def qW(a:List (List D×Str))(x:D):D:=match x with | .int i=>(match L2.atI a i with | some r=>dQ r | none=>.none) | _=>.none
def OF{a:List (List D×Str)}{i:Nat}(h:i<a.length):L2.atI (a++[r]) (i:Int)=L2.atI a (i:Int):=by
 rw[L2.fH (aD h),L2.fH (xs:=a++[r]) (v:=a[i]) (by rw[eB h];exact aD h)]
theorem AY(fs:List (Str×List Str))(k n v st w:Str):∀(m:Nat)(b:List (List D×Str)),b.length=m->(iM fs k n v st b w).map (qW b)=(b.filter λr=>decide (fN fs k n v st r.1=w)).map dQ
|0,b,h=>by rw[hX.mp h];rfl
|m+1,b,h=>by
 obtain⟨a,r,rfl⟩:∃a r,b=a++[r]:=⟨b.dropLast,b.getLast (λe=>by rw[e]at h;cases h),(C9 _).symm⟩;have q:a.length=m:=by rw[bG]at h;simpa using h
 have i:=AY fs k n v st w m a q;unfold iM at i |-
 have l:eQ (a++[r]).length=eQ a.length++[.int (a.length:Int)]:=by
  unfold eQ;rw[bG,lA,uJ,bA];rfl
 have c:L2.atI (a++[r]) (a.length:Int)=some r:=L2.fH (by rw[eJ (aN _),aMp];rfl)
 have o:(eQ a.length).filter (nT fs k n v st (a++[r]) w)=(eQ a.length).filter (nT fs k n v st a w):=jB λx f=>by
  obtain⟨j,d,rfl⟩:=aR.mp f;show(match L2.atI (a++[r]) (j:Int)with | some r=>decide (fN fs k n v st r.1=w) | none=>false)=match L2.atI a (j:Int)with | some r=>decide (fN fs k n v st r.1=w) | none=>false
  rw[OF (by simpa using d)]
 have p:((eQ a.length).filter (nT fs k n v st a w)).map (qW (a++[r]))=((eQ a.length).filter (nT fs k n v st a w)).map (qW a):=iH λx f=>by
  obtain⟨j,d,rfl⟩:=aR.mp (cL.mp f).1;show(match L2.atI (a++[r]) (j:Int)with | some r=>dQ r | none=>.none)=match L2.atI a (j:Int)with | some r=>dQ r | none=>.none
  rw[OF (by simpa using d)]
 have g:nT fs k n v st (a++[r]) w (.int (a.length:Int))=decide (fN fs k n v st r.1=w):=by
  show(match L2.atI (a++[r]) (a.length:Int)with | some r=>decide (fN fs k n v st r.1=w) | none=>false)=_;rw[c]
 have s:qW (a++[r]) (.int (a.length:Int))=dQ r:=by
  show(match L2.atI (a++[r]) (a.length:Int)with | some r=>dQ r | none=>.none)=_;rw[c]
 rw[l,fC,bA,o,p,i,fC,bA];congr 1;by_cases hs:fN fs k n v st r.1=w
 ·rw[cH,a7 (by rw[g];exact a8 hs),cH,a7 (a8 hs)];show[qW (a++[r]) (.int (a.length:Int))]=[dQ r];rw[s]
 ·rw[cH,a6 (by rw[g,c4 hs];decide),cH,a6 (by rw[c4 hs];decide)]
  rfl
def Xn:kQ:=λb Q=>∃(fs:List (Str×List Str))(k n v st w:Str)(a:List (List D×Str)),b=[.list (a.map dQ),.list (iM fs k n v st a w)]/\a.length<=60/\Q (.list ((a.filter λr=>decide (fN fs k n v st r.1=w)).map dQ))
def Xq:kQ:=λb Q=>∃(fs:List (Str×List Str))(an:List Str)(fa:List (List D×Str)->Str)(a:List (List D×Str)),b=[dX fs an,.list (a.map dQ)]/\iF fs an/\FA fs an fa/\gF fs an a/\a.length<=60/\Q (jG (.say (fa a)))
def Xr:kQ:=λb Q=>∃(fs:List (Str×List Str))(an:List Str)(k n v s:Str)(y m:Tr)(a:List (List D×Str)),b=[dX fs an,jG (.ask k n v s y m),.list (a.map dQ)]/\iF fs an/\QA fs (.tuple [.str k,.str n,.str v])=true/\(s="yes"\/s="no")/\gF fs an a/\a.length<=60/\Q (.list [.list ((a.filter (iL fs k n v s)).map dQ),.list ((a.filter λr=>!iL fs k n v s r).map dQ)])
def AV{fs}(F:iF fs an){k n v st:Str}(d:QA fs (.tuple [.str k,.str n,.str v])=true)(b:st="yes"\/st="no"){c:List (List D×Str)}(a:gF fs an c):(c.filter λr=>decide (fN fs k n v st r.1="no"))=c.filter λr=>!iL fs k n v st r:=jB λr f=>by
 unfold iL;rcases AN F d b (a r f).1 with e | e
 ·rw[e];decide +kernel
 ·rw[e];decide +kernel
def Od(a b c d e:D):kU [a,b,c,d,e] none (some 3)=[a,b,c]:=nV [a,b,c,d,e] 3
def B7{an:List Str}(h:0<an.length)(d:List (List D×Str)):∃a,xP an d a:=by
 have m:∀(l:List Str),0<l.length->∃k a,l[k]?=some a/\(∀(j:Nat) b,l[j]?=some b->rG d b<=rG d a)/\∀(j:Nat) b,j<k->l[j]?=some b->rG d b<rG d a:=λl=>by
  induction l with
  |nil=>intro h;exact a9 h Fk
  |cons x l o=>
   intro _
   cases l with
   |nil=>exact⟨0,x,Fo,λj b c=>by
     cases j with
     |zero=>cases c;exact aN _
     |succ j=>simp at c,λj b f _=>a9 f (pM _)⟩
   |cons y l=>
    obtain⟨k,a,g,e,i⟩:=o Fm;by_cases n:rG d a<=rG d x
    ·refine⟨0,x,Fo,λj b c=>?_,λj b f _=>a9 f (pM _)⟩
     cases j with
     |zero=>cases c;exact aN _
     |succ j=>exact bJ (e j b (by simpa using c)) n
    ·refine⟨k+1,a,by simpa using g,λj b c=>?_,λj b f c=>?_⟩
     ·cases j with
      |zero=>cases c;lia
      |succ j=>exact e j b (by simpa using c)
     ·cases j with
      |zero=>cases c;lia
      |succ j=>exact i j b Fl (by simpa using c)
 obtain⟨k,a,g,e,i⟩:=m an h;exact⟨a,k,g,e,i⟩
def Qh{fs}(F:iF fs an):∃fa,FA fs an fa:=
 ⟨λa=>(B7 (an:=an) (by have:=F.a2;lia) a).choose,λa _=>(B7 (an:=an) (by have:=F.a2;lia) a).choose_spec⟩
abbrev Fs:=List (Str×List Str)
abbrev Qn:=Str×Str×Str
abbrev Ch:=Qn×Str
noncomputable def qD(q:Qn):D:=.tuple [.str q.1,.str q.2.1,.str q.2.2]
noncomputable def tq(d:D):Qn:=match d with | .tuple [.str k,.str n,.str v]=>(k,n,v) | _=>("","","")
noncomputable def qs(fs:Fs):List Qn:=(eN fs).map tq
def oX(fs:Fs):(qs fs).map qD=eN fs:=by
 unfold qs;rw[bM]
 have:∀d∈eN fs,(qD∘tq) d=id d:=λd hd=>by
  obtain⟨f,b,⟨z,a,rfl⟩ | ⟨z,a,c,rfl⟩⟩:=vY hd<;>rfl
 rw[iH this,nH]
def yD{fs}{q:Qn}(h:q∈qs fs):QA fs (.tuple [.str q.1,.str q.2.1,.str q.2.2])=true:=by
 have:qD q∈(qs fs).map qD:=aR.mpr ⟨q,h,Fo⟩;rw[oX]at this;exact L8 this
noncomputable def HN(q:Qn):List Ch:=[(q,"yes"),(q,"no")]
noncomputable def jL(fs:Fs):List Ch:=(qs fs).flatMap HN
def yU{fs}{c:Ch}(h:c∈jL fs):c.1∈qs fs/\(c.2="yes"\/c.2="no"):=by
 obtain⟨q,b,a⟩:=A9.mp h;simp only[HN,aY,dS,j5]at a;rcases a with rfl | rfl
 ·exact⟨b,.inl Fo⟩
 ·exact⟨b,.inr Fo⟩
def oZ(fs:Fs):(jL fs).length=2*(eN fs).length:=by
 unfold jL qs
 generalize (eN fs)=l
 induction l with
 |nil=>rfl
 |cons x l a=>
  rw[bE,zT,bG,a];show 2+_=2*(l.length+1);lia
noncomputable def WX(fs:Fs)(c:Ch)(r:Rw):Bool:=iL fs c.1.1 c.1.2.1 c.1.2.2 c.2 r
noncomputable abbrev yR(fs:Fs)(c:Ch)(R:List Rw):List Rw:=R.filter (WX fs c)
noncomputable abbrev nR(fs:Fs)(c:Ch)(R:List Rw):List Rw:=R.filter λr=>!WX fs c r
noncomputable def W3(c:Ch):D:=.tuple [qD c.1,.str c.2]
def Vh:kQ:=λa Q=>∃(fs:Fs)(an:List Str),a=[dX fs an]/\iF fs an/\Q (.list ((jL fs).map W3))
noncomputable def WZ(a b:Nat):Nat×Nat:=(a / a.gcd b,b / a.gcd b)
noncomputable def C3(x:Nat×Nat):D:=.tuple [.int (x.1:Nat),.int (x.2:Nat)]
noncomputable def W2(R:List Rw):Nat×Nat:=WZ (YQ R R) (max 1 R.length)
noncomputable def Io(x y:Nat×Nat):Nat×Nat:=WZ (x.1*y.2+y.1*x.2) (x.2*y.2)
noncomputable def dC(fs:Fs)(R:List Rw)(c:Ch):Nat×Nat:=Io (W2 (yR fs c R)) (W2 (nR fs c R))
noncomputable def okC(fs:Fs)(R:List Rw)(m:Int)(c:Ch):Bool:=decide (m<=((yR fs c R).length:Int))&&decide (m<=((nR fs c R).length:Int))
noncomputable def vZ(fs:Fs)(R:List Rw)(m:Int):List Ch:=(jL fs).filter (okC fs R m)
noncomputable def L4(fs:Fs)(R:List Rw)(c:Ch):D:=.tuple [qD c.1,.str c.2,C3 (dC fs R c)]
noncomputable def wA(l:List (Nat×Nat)):Nat:=l.foldl (λc x=>c.lcm x.2) 1
noncomputable def Js(B:Nat)(x:Nat×Nat):Int:=(x.1:Int)*((B:Int) / (x.2:Int))
noncomputable def W1(fs:Fs)(R:List Rw)(m:Int):List (Nat×Nat):=(vZ fs R m).map (dC fs R)
noncomputable def P8(fs:Fs)(R:List Rw)(m:Int):List Int:=(W1 fs R m).map (Js (wA (W1 fs R m)))
noncomputable def CF(fs:Fs)(R:List Rw)(m:Int):List D:=(vZ fs R m).map (L4 fs R)
def Iv(fs:Fs)(R:List Rw)(m:Int)(J:List Nat):Prop:=SS.MJ (vZ fs R m).length (λi=>(P8 fs R m).getD i 0) J
noncomputable def Ic(fs:Fs)(R:List Rw)(m:Int)(J:List Nat):List D:=J.map λi=>(CF fs R m).getD i .none
def NV{a b:Nat}(h:0<b):0<(WZ a b).2:=Q7 (aFx h (AH a b)) (mS a h)
def UQ(a b:Nat):(WZ a b).1<=a/\(WZ a b).2<=b:=⟨pO _ _,pO _ _⟩
structure Sml(x:Nat×Nat)(a b:Nat):Prop where
 top:x.1<=a
 pos:0<x.2
 bot:x.2<=b
def xK{R:List Rw}(h:R.length<=60):Sml (W2 R) 3600 60:=by
 have a:=UQ (YQ R R) (max 1 R.length);have b:=K2 R R;have c:R.length*R.length<=60*60:=fZ h h;exact⟨by show(WZ _ _).1<=_;lia,NV Fl,by show(WZ _ _).2<=_;lia⟩
def M5{x y:Nat×Nat}(a:Sml x 3600 60)(b:Sml y 3600 60):x.1*y.2+y.1*x.2<=432000/\x.2*y.2<=3600/\0<x.2*y.2:=by
 have c:x.1*y.2<=3600*60:=fZ a.top b.bot;have d:y.1*x.2<=3600*60:=fZ b.top a.bot;have e:x.2*y.2<=60*60:=fZ a.bot b.bot;exact⟨Fl,Fl,Nat.mul_pos a.pos b.pos⟩
def R3(e:Sml x 3600 60)(f:Sml y 3600 60):Sml (Io x y) 432000 3600:=by
 obtain⟨b,c,d⟩:=M5 e f;have a:=UQ (x.1*y.2+y.1*x.2) (x.2*y.2);exact⟨bJ a.1 b,NV d,bJ a.2 c⟩
def L7{fs}{R:List Rw}(h:R.length<=60)(c:Ch):Sml (dC fs R c) 432000 3600:=
 R3 (xK (bJ (bW _ _) h)) (xK (bJ (bW _ _) h))
def U1(fs:Fs)(R:List Rw)(m:Int):(P8 fs R m).length=(vZ fs R m).length:=by unfold P8 W1;rw[aC,aC]
def uA(fs:Fs)(R:List Rw)(m:Int):(CF fs R m).length=(vZ fs R m).length:=by unfold CF;rw[aC]
def ZI{fs}{m:Int}{i:Nat}(h:i<(vZ fs R m).length):(P8 fs R m).getD i 0=Js (wA (W1 fs R m)) (dC fs R (vZ fs R m)[i]):=by
 unfold P8;rw[dD,aI];unfold W1;rw[aI,aD h];rfl
def N6{fs}{m:Int}{i:Nat}(h:i<(vZ fs R m).length):(CF fs R m).getD i .none=L4 fs R (vZ fs R m)[i]:=by
 unfold CF;rw[dD,aI,aD h];rfl
def Vn:kQ:=λb Q=>∃(u v:D)(a bs:List D)(m:Int),b=[.tuple [u,v],.int m]/\(u=.list a/\v=.list bs\/u=.tuple a/\v=.tuple bs)/\Q (.bool (decide (m<=(a.length:Int))&&decide (m<=(bs.length:Int))))
def Pi:kQ:=λa Q=>∃x y:Nat×Nat,a=[C3 x,C3 y]/\Sml x 3600 60/\Sml y 3600 60/\Q (C3 (Io x y))
def Ve:kQ:=λa Q=>∃l:List (Nat×Nat),a=[.list (l.map C3)]/\(∀x∈l,0<x.2/\x.2<=1000000)/\Q (.int (wA l:Nat))
def Xm:RD:=λb Q=>∃(fs:Fs)(an:List Str)(a:List Rw)(m:Int),b=[dX fs an,.list (a.map dQ),.int m]/\iF fs an/\gF fs an a/\a.length<=60/\∀J,Iv fs a m J->Q (Ic fs a m J)
def PB:∀(l:List Sl)(a b c x y z:Sl),((((((l.set 0 a).set 1 b).set 2 c).set 0 x).set 1 y).set 2 z)=((l.set 0 x).set 1 y).set 2 z
|[],_,_,_,_,_,_=>rfl
|[_],_,_,_,_,_,_=>rfl
|[_,_],_,_,_,_,_,_=>rfl
|_::_::_::_,_,_,_,_,_,_=>rfl
def ZD{i:ET}{Q:D->Prop}{ts:List D}(g:uC ti σ ts)(f:D->D)(r:ts.length<=100000)(n:∀x∈ts,∃a b c,x=.tuple [a,b,c])(p:∀(a b c:D)(q:D->Prop),.tuple [a,b,c]∈ts->q (f (.tuple [a,b,c]))->i ((((kF fr σ).set 0 (.val a)).set 1 (.val b)).set 2 (.val c)) q)(o:Q (.list (ts.map f))):RC fr ti (Hf 0 1 2) CN i σ Q:=by
 refine g _ ⟨r,λk d e=>(∀x y z,((d.set 0 (.val x)).set 1 (.val y)).set 2 (.val z)=(((kF fr σ).set 0 (.val x)).set 1 (.val y)).set 2 (.val z))/\e=(ts.take k).map f,⟨λ_ _ _=>rfl,Fo⟩,λk x d e l h=>?_,λd e h=>?_⟩
 ·obtain⟨m,rfl⟩:=h;have j:x∈ts:=aU l;obtain⟨a,b,c,rfl⟩:=n x j;refine⟨a,b,c,Fo,?_⟩;show i (((d.set 0 (.val a)).set 1 (.val b)).set 2 (.val c)) _;rw[m a b c];refine p a b c _ j ⟨λx y z=>PB _ _ _ _ _ _ _,?_⟩;rw[cS,l,bA];rfl
 ·obtain⟨_,rfl⟩:=h;rw[dA];exact o
noncomputable def Qt(x y:Nat×Nat):Bool:=decide (x.1*y.2<y.1*x.2)
noncomputable def Ko(fs:Fs)(R:List Rw):Option Ch->D
|some c=>L4 fs R c
|none=>.none
def Pj:kQ:=λa Q=>∃x y:Nat×Nat,a=[C3 x,C3 y]/\x.1<=1000000/\y.1<=1000000/\Q (.bool (Qt x y))
def Xo:kQ:=λb Q=>∃(fs:Fs)(an:List Str)(a:List Rw)(m:Int),b=[dX fs an,.list (a.map dQ),.int m]/\iF fs an/\gF fs an a/\a.length<=60/\∀o:Option Ch,(∀c,o=some c->c∈vZ fs a m)->Q (Ko fs a o)
def tK(b:Nat):kQ:=λc Q=>∃(fs:Fs)(an:List Str)(a:List Rw)(d:Nat)(m:Int),c=[dX fs an,.list (a.map dQ),.int d,.int m]/\iF fs an/\gF fs an a/\a.length<=60/\d<b/\∀t,lQ fs an t->t.dep<=d->Q (jG t)
def Xp:kQ:=tK 7
def UD{Q:D->Prop}(h:tK 0 ds Q):False:=by
 obtain⟨fs,an,f,d,m,e,F,a,b,c,h⟩:=h;lia
noncomputable abbrev G9:=C3
noncomputable def lw(fs:List (Str×List Str))(fa:List (List D×Str)->Str)(a b:Int):Tr->List (List D×Str)->Int×Tr
|.say x,rs=>(a*(eE fs (.say x) rs:Nat),.say x)
|.ask k n v s y m,rs=>
 if a*(eE fs (.say (fa rs)) rs:Nat)<=b+(lw fs fa a b y (rs.filter (iL fs k n v s))).1+(lw fs fa a b m (rs.filter λr=>!iL fs k n v s r)).1 then(a*(eE fs (.say (fa rs)) rs:Nat),.say (fa rs))
 else(b+(lw fs fa a b y (rs.filter (iL fs k n v s))).1+(lw fs fa a b m (rs.filter λr=>!iL fs k n v s r)).1,.ask k n v s (lw fs fa a b y (rs.filter (iL fs k n v s))).2 (lw fs fa a b m (rs.filter λr=>!iL fs k n v s r)).2)
theorem D8{fs}{fa:List (List D×Str)->Str}(d:FA fs an fa)(a b:Int):∀(t:Tr)(c:List (List D×Str)),lQ fs an t->gF fs an c->lQ fs an (lw fs fa a b t c).2/\(lw fs fa a b t c).2.dep<=t.dep
|.say z,c,h,_=>⟨h,aN _⟩
|.ask k n v s y m,c,h,hrs=>by
 obtain⟨g,hs,j,f⟩:=h;obtain⟨l,p⟩:=D8 d a b y (c.filter (iL fs k n v s)) j (hrs.filt _);obtain⟨o,q⟩:=D8 d a b m (c.filter λr=>!iL fs k n v s r) f (hrs.filt _);unfold lw;split
 ·obtain⟨i,e,_⟩:=d c hrs;exact⟨aU e,cI _⟩
 ·exact⟨⟨g,hs,l,o⟩,by show max _ _+1<=max y.dep m.dep+1;lia⟩
section
variable{fs:List (Str×List Str)}{fa:List (List D×Str)->Str}
def nU(a b:Int)(k n v s:Str)(y m:Tr)(c:List (List D×Str)):lw fs fa a b (.ask k n v s y m) c=if a*(eE fs (.say (fa c)) c:Nat)<=b+(lw fs fa a b y (c.filter (iL fs k n v s))).1+(lw fs fa a b m (c.filter λr=>!iL fs k n v s r)).1 then(a*(eE fs (.say (fa c)) c:Nat),.say (fa c))else(b+(lw fs fa a b y (c.filter (iL fs k n v s))).1+(lw fs fa a b m (c.filter λr=>!iL fs k n v s r)).1,.ask k n v s (lw fs fa a b y (c.filter (iL fs k n v s))).2 (lw fs fa a b m (c.filter λr=>!iL fs k n v s r)).2):=rfl
def CK(a b:Int)(k n v s:Str)(y m:Tr)(c:List (List D×Str)):a*(eE fs (.ask k n v s y m) c:Nat)+b*((Tr.ask k n v s y m).kn:Nat)=b+(a*(eE fs y (c.filter (iL fs k n v s)):Nat)+b*(y.kn:Nat))+(a*(eE fs m (c.filter λr=>!iL fs k n v s r):Nat)+b*(m.kn:Nat)):=by
 rw[tM];show a*((_+_:Nat):Int)+b*((y.kn+m.kn+1:Nat):Int)=_;rw[fT,fT,fT,kD,kD,kD];show _+(_+b*1)=_;rw[wG];lia
def CJ(a b:Int)(z:Str)(c:List (List D×Str)):a*(eE fs (.say z) c:Nat)+b*((Tr.say z).kn:Nat)=a*(eE fs (.say z) c:Nat):=by
 show _+b*0=_;rw[mF,pT]
theorem F5(a b:Int):∀(t:Tr)(c:List (List D×Str)),(lw fs fa a b t c).1=a*(eE fs (lw fs fa a b t c).2 c:Nat)+b*((lw fs fa a b t c).2.kn:Nat)
|.say z,c=>(CJ a b z c).symm
|.ask k n v s y m,c=>by
 have e:=F5 a b y (c.filter (iL fs k n v s));have d:=F5 a b m (c.filter λr=>!iL fs k n v s r);rw[nU];split
 ·exact(CJ a b _ c).symm
 ·show b+_+_=_;rw[CK,<- e,<- d]
theorem AW(a:Int){b d:Int}(h:b<=d):∀(t:Tr)(c:List (List D×Str)),(lw fs fa a b t c).1<=(lw fs fa a d t c).1
|.say z,c=>pA _
|.ask k n v s y m,c=>by
 have f:=AW a h y (c.filter (iL fs k n v s));have e:=AW a h m (c.filter λr=>!iL fs k n v s r);rw[nU,nU];split
 ·split
  ·exact pA _
  ·dsimp only;lia
 ·split
  ·dsimp only;lia
  ·dsimp only;lia
theorem F6(a:Int){b d:Int}(h:b<=d):∀(t:Tr)(c:List (List D×Str)),lw fs fa a d (lw fs fa a b t c).2 c=lw fs fa a d t c
|.say z,c=>rfl
|.ask k n v s y m,c=>by
 have f:=F6 a h y (c.filter (iL fs k n v s));have e:=F6 a h m (c.filter λr=>!iL fs k n v s r);have i:=AW (fs:=fs) (fa:=fa) a h y (c.filter (iL fs k n v s));have g:=AW (fs:=fs) (fa:=fa) a h m (c.filter λr=>!iL fs k n v s r);rw[nU a b];split
 ·rw[nU,a7 Fl];rfl
 ·show lw fs fa a d (.ask k n v s _ _) c=_;rw[nU,nU,f,e]
theorem BX(a b:Int){c:Int}(f:0<c):∀(t:Tr)(d:List (List D×Str)),lw fs fa (c*a) (c*b) t d=(c*(lw fs fa a b t d).1,(lw fs fa a b t d).2)
|.say z,d=>by
 show(c*a*_,_)=(c*(a*_),_);rw[fE];rfl
|.ask k n v s y m,d=>by
 have h:=BX a b f y (d.filter (iL fs k n v s));have g:=BX a b f m (d.filter λr=>!iL fs k n v s r);rw[nU,nU,h,g];dsimp only;rw[<- kD,<- kD,fE];by_cases e:a*(eE fs (.say (fa d)) d:Nat)<=b+(lw fs fa a b y (d.filter (iL fs k n v s))).1+(lw fs fa a b m (d.filter λr=>!iL fs k n v s r)).1
 ·rw[a7 e,a7 (iZ e Fl)]
 ·rw[a6 e,a6 (λz=>e (Int.le_of_mul_le_mul_left z f))]
def St(fs:List (Str×List Str))(fa:List (List D×Str)->Str)(a b:Int):Tr->List (List D×Str)->Prop
|.say _,_=>True
|.ask k n v s y m,rs=>b*((Tr.ask k n v s y m).kn:Nat)+a*(eE fs (.ask k n v s y m) rs:Nat)<a*(eE fs (.say (fa rs)) rs:Nat)/\St fs fa a b y (rs.filter (iL fs k n v s))/\St fs fa a b m (rs.filter λr=>!iL fs k n v s r)
theorem HX(a b:Int):∀(t:Tr)(c:List (List D×Str)),St fs fa a b (lw fs fa a b t c).2 c
|.say z,c=>trivial
|.ask k n v s y m,c=>by
 have e:=HX a b y (c.filter (iL fs k n v s));have d:=HX a b m (c.filter λr=>!iL fs k n v s r);have g:=F5 (fs:=fs) (fa:=fa) a b y (c.filter (iL fs k n v s));have f:=F5 (fs:=fs) (fa:=fa) a b m (c.filter λr=>!iL fs k n v s r);rw[nU];split
 ·trivial
 ·next sk=>
  refine⟨?_,e,d⟩;have:=CK (fs:=fs) a b k n v s (lw fs fa a b y (c.filter (iL fs k n v s))).2 (lw fs fa a b m (c.filter λr=>!iL fs k n v s r)).2 c;lia
theorem UP(a b:Int):∀(t:Tr)(c:List (List D×Str)),St fs fa a b t c->lw fs fa a b t c=(a*(eE fs t c:Nat)+b*(t.kn:Nat),t)
|.say z,c,_=>by rw[CJ];rfl
|.ask k n v s y m,c,h=>by
 obtain⟨j,d,f⟩:=h;have i:=UP a b y (c.filter (iL fs k n v s)) d;have g:=UP a b m (c.filter λr=>!iL fs k n v s r) f;have e:=CK (fs:=fs) a b k n v s y m c;rw[nU,i,g];dsimp only;rw[a6 Fl,e]
theorem JC(a b:Int):∀(t:Tr)(c:List (List D×Str)),(lw fs fa a b t c).2.kn<=t.kn/\((lw fs fa a b t c).2.kn=t.kn->(lw fs fa a b t c).2=t)
|.say z,c=>⟨aN _,λ_=>rfl⟩
|.ask k n v s y m,c=>by
 obtain⟨i,g⟩:=JC a b y (c.filter (iL fs k n v s));obtain⟨h,f⟩:=JC a b m (c.filter λr=>!iL fs k n v s r);have e:(Tr.ask k n v s y m).kn=y.kn+m.kn+1:=rfl;rw[nU,e];split
 ·exact⟨cI _,λz=>by
   have j:0=y.kn+m.kn+1:=z;lia⟩
 ·have d:(Tr.ask k n v s (lw fs fa a b y (c.filter (iL fs k n v s))).2 (lw fs fa a b m (c.filter λr=>!iL fs k n v s r)).2).kn=(lw fs fa a b y (c.filter (iL fs k n v s))).2.kn+(lw fs fa a b m (c.filter λr=>!iL fs k n v s r)).2.kn+1:=rfl;refine⟨by dsimp only;rw[d];lia,λz=>?_⟩;dsimp only at z |-
  rw[d]at z;rw[g Fl,f Fl]
noncomputable def zV(fs:List (Str×List Str))(fa:List (List D×Str)->Str):Tr->List (List D×Str)->List (Int×Nat)
|.say _,_=>[]
|.ask k n v s y m,rs=>((eE fs (.say (fa rs)) rs:Int)-(eE fs (.ask k n v s y m) rs:Nat),(Tr.ask k n v s y m).kn)::(zV fs fa y (rs.filter (iL fs k n v s))++zV fs fa m (rs.filter λr=>!iL fs k n v s r))
theorem vM(a b:Int):∀(t:Tr)(c:List (List D×Str)),St fs fa a b t c↔∀p∈zV fs fa t c,b*(p.2:Nat)<a*p.1
|.say z,c=>⟨λ_ p hp=>by simp[zV]at hp,λ_=>trivial⟩
|.ask k n v s y m,c=>by
 have g:=vM a b y (c.filter (iL fs k n v s));have f:=vM a b m (c.filter λr=>!iL fs k n v s r);have e:a*((eE fs (.say (fa c)) c:Int)-(eE fs (.ask k n v s y m) c:Nat))=a*(eE fs (.say (fa c)) c:Nat)-a*(eE fs (.ask k n v s y m) c:Nat):=Int.mul_sub _ _ _;constructor
 ·rintro⟨d,h1,h2⟩ p hp;rcases aY.mp hp with rfl | hp
  ·dsimp only;rw[e];lia
  ·rcases eA.mp hp with hp | hp
   ·exact g.mp h1 p hp
   ·exact f.mp h2 p hp
 ·intro h;have d:=h _ (aS ..);dsimp only at d;rw[e]at d;exact⟨Fl,g.mpr λp hp=>h p (aO _ (iW _ hp)),f.mpr λp hp=>h p (aO _ (eF _ hp))⟩
theorem tD:∀(t:Tr)(a:List (List D×Str)),∀p∈zV fs fa t a,p.1<=a.length/\0<p.2/\p.2<=t.kn
|.say z,a,p,hp=>by simp[zV]at hp
|.ask k n v s y m,a,p,hp=>by
 have e:(Tr.ask k n v s y m).kn=y.kn+m.kn+1:=rfl;rcases aY.mp hp with rfl | hp
 ·have c:eE fs (.say (fa a)) a<=a.length:=bW _ _;refine⟨?_,by rw[e];lia,aN _⟩;dsimp only;lia
 ·rcases eA.mp hp with hp | hp
  ·obtain⟨c,b,d⟩:=tD y _ p hp;have:=bW (iL fs k n v s) a;exact⟨Fl,b,Fl⟩
  ·obtain⟨c,b,d⟩:=tD m _ p hp;have:=bW (λr=>!iL fs k n v s r) a;exact⟨Fl,b,Fl⟩
end
section
variable{fs:List (Str×List Str)}{fa:List (List D×Str)->Str}
def Qi{a b c d e f:Nat}(hd:0<d)(g:a*d<=c*b)(h:c*f<=e*d):a*f<=e*b:=by
 refine Nat.le_of_mul_le_mul_right (c:=d) ?_ hd
 calc a*f*d=a*d*f:=by rw[oV,uG f d,<- oV]
  _<=c*b*f:=wF _ g
  _=c*f*b:=by rw[oV,uG b f,<- oV]
  _<=e*d*b:=wF _ h
  _=e*b*d:=by rw[oV,uG d b,<- oV]
noncomputable def oO(x p:Nat×Nat):Nat×Nat:=if p.1*x.2<x.1*p.2 then p else x
noncomputable def kM:Nat×Nat->List (Nat×Nat)->Nat×Nat
|x,[]=>x
|x,p::l=>kM (oO x p) l
theorem vT:∀(l:List (Nat×Nat))(x:Nat×Nat),kM x l=x\/kM x l∈l
|[],x=>.inl Fo
|p::l,x=>by
 show kM (oO x p) l=x\/_;rcases vT l (oO x p)with h | h
 ·rw[h];unfold oO;split
  ·next h2=>right;show kM (oO x p) l∈_;rw[h];unfold oO;rw[a7 h2];exact aS ..
  ·exact .inl Fo
 ·exact .inr (aO _ h)
theorem D9:∀(l:List (Nat×Nat))(x:Nat×Nat),0<x.2->(∀p∈l,0<p.2)->∀p,(p=x\/p∈l)->(kM x l).1*p.2<=p.1*(kM x l).2
|[],x,_,_,p,hp=>by
 rcases hp with rfl | hp
 ·exact aN _
 ·simp at hp
|e::l,x,hx,hl,p,hp=>by
 show(kM (oO x e) l).1*p.2<=p.1*(kM (oO x e) l).2;have j:=hl e (aS ..);have c:∀p∈l,0<p.2:=λp hp=>hl p (aO _ hp);have d:0<(oO x e).2:=by unfold oO;split<;>assumption
 have f:=D9 l (oO x e) d c;have i:=f (oO x e) (.inl Fo);have b:∀r:Nat×Nat,(oO x e).1*r.2<=r.1*(oO x e).2->(kM (oO x e) l).1*r.2<=r.1*(kM (oO x e) l).2:=λr g=>Qi d i g
 have a:(oO x e).1*x.2<=x.1*(oO x e).2/\(oO x e).1*e.2<=e.1*(oO x e).2:=by
  unfold oO;split
  ·next h=>exact⟨iU h,aN _⟩
  ·next h=>exact⟨aN _,WP.mp h⟩
 rcases hp with rfl | hp
 ·exact b _ a.1
 ·rcases aY.mp hp with rfl | hp
  ·exact b _ a.2
  ·exact f p (.inr hp)
noncomputable def lC(p:Int×Nat):Nat×Nat:=(p.1.toNat / p.1.toNat.gcd p.2,p.2 / p.1.toNat.gcd p.2)
def KY{p:Int×Nat}(j:0<p.1)(b:0<p.2):∃g:Nat,0<g/\p.1=((lC p).1*g:Nat)/\p.2=(lC p).2*g/\0<(lC p).1/\0<(lC p).2/\(lC p).1.gcd (lC p).2=1/\(lC p).1<=p.1.toNat/\(lC p).2<=p.2:=by
 obtain⟨a,e⟩:∃a:Nat,p.1=(a:Int):=⟨p.1.toNat,(xS Fl).symm⟩;have i:p.1.toNat=a:=by rw[e];rfl
 have d:0<a.gcd p.2:=mS _ b;have c:0<a:=by lia
 unfold lC;rw[i];dsimp only;have f:=WR (Nat.gcd_dvd_left a p.2);have h:=WR (AH a p.2);refine⟨a.gcd p.2,d,by rw[f];exact e,h.symm,Q7 (Nat.gcd_le_left _ c) d,Q7 (aAu _ b) d,?_,pO _ _,pO _ _⟩;exact Nat.gcd_div_gcd_div_gcd_of_pos_right b
noncomputable def U5:Tr->Bool
|.say _=>true
|.ask _ _ _ _ _ _=>false
noncomputable def fX(fs:List (Str×List Str))(fa:List (List D×Str)->Str)(t:Tr)(a:List (List D×Str)):Nat×Nat:=match(zV fs fa t a).map lC with
|[]=>(0,1)
|x::l=>kM x (x::l)
def Y7{a b:Int}(ha:0<a)(P:0<=b){t:Tr}{c:List (List D×Str)}(hs:St fs fa a b t c)(R:U5 t=false) :
  0<(fX fs fa t c).2/\(fX fs fa t c).2<=t.kn/\0<(fX fs fa t c).1/\(fX fs fa t c).1<=c.length/\(fX fs fa t c).1.gcd (fX fs fa t c).2=1/\b*((fX fs fa t c).2:Nat)<a*((fX fs fa t c).1:Nat) /\
  (∀i o:Int,0<i->o*((fX fs fa t c).2:Nat)<i*((fX fs fa t c).1:Nat)->St fs fa i o t c)/\¬St fs fa ((fX fs fa t c).2:Nat) ((fX fs fa t c).1:Nat) t c:=by
 have w:∀e∈zV fs fa t c,0<e.1/\0<e.2:=λe d=>by
  have Z:=(vM a b t c).mp hs e d;have M:=(tD t c e d).2.1;refine⟨?_,M⟩;have h3:0<=b*(e.2:Nat):=qN P Fl;have h4:0<a*e.1:=by lia
  by_cases E:0<e.1
  ·exact E
  ·have:=iZ (show e.1<=0 by lia) (show 0<=a by lia);rw[mF]at this;lia
 have B:∃e∈zV fs fa t c,fX fs fa t c=lC e:=by
  unfold fX
  cases G:zV fs fa t c with
  |nil=>
   cases t with
   |say z=>cases R
   |ask k n v s y m=>cases G
  |cons x l=>
   show∃e∈x::l,kM (lC x) ((x::l).map lC)=lC e;rcases vT ((x::l).map lC) (lC x)with h | h
   ·exact⟨x,aS ..,h⟩
   ·obtain⟨e,d,h⟩:=aR.mp h;exact⟨e,d,h.symm⟩
 have H:∀e∈zV fs fa t c,(fX fs fa t c).1*(lC e).2<=(lC e).1*(fX fs fa t c).2:=by
  unfold fX
  cases G:zV fs fa t c with
  |nil=>intro e d;simp at d
  |cons x l=>
   intro e d
   have pos:∀p∈(x::l).map lC,0<p.2:=λp I=>by
    obtain⟨e,d,rfl⟩:=aR.mp I;rw[<- G]at d;obtain⟨_,_,_,_,_,N,_⟩:=KY (w e d).1 (w e d).2;exact N
   exact D9 ((x::l).map lC) (lC x) (pos _ (aS ..)) pos (lC e) (.inr (aR.mpr ⟨e,d,Fo⟩))
 obtain⟨e,d,E⟩:=B;obtain⟨g,hg,K,L,p1,T,U,p4,p5⟩:=KY (w e d).1 (w e d).2;obtain⟨b1,W,X⟩:=tD t c e d;have A:=(vM a b t c).mp hs e d;rw[E];refine⟨T,Fl,p1,Fl,U,?_,λi o O C=>(vM i o t c).mpr λf F=>?_,λJ=>?_⟩
 ·rw[K,L,eI,eI,<- fE,<- fE]at A;exact G7 A Fl
 ·obtain⟨Y,Q,f1,f2,q1,q2,q3,q4,q5⟩:=KY (w f F).1 (w f F).2;have q:=H f F;rw[E]at q;rw[f1,f2,eI,eI,<- fE,<- fE];refine FD ?_ Fl
  generalize (lC f).1=u at *
  generalize (lC f).2=j at *
  generalize (lC e).1=r at *
  generalize (lC e).2=E2 at *
  -- o E2<i r,r j<=u E2:o j<i u
  have S:(r:Int)*j<=u*E2:=by exact_mod_cast q
  have s1:o*E2*j<i*r*j:=FD C Fl;have s2:i*((r:Int)*j)<=i*(u*E2):=iZ S Fl
  have s3:(o*j)*E2<(i*u)*E2:=by
   have t1:(o*j)*E2=o*E2*j:=by rw[fE,kC (j:Int),<- fE]
   have t2:i*r*j=i*((r:Int)*j):=fE _ _ _;have t3:(i*u)*E2=i*((u:Int)*E2):=fE _ _ _;lia
  exact G7 s3 Fl
 ·have C:=(vM _ _ t c).mp J e d;rw[K,L,eI,eI,<- fE,<- fE,kC ((lC e).1:Int) ((lC e).2:Int)]at C;exact Int.lt_irrefl _ C
def qG(a b:Int){c:Int}(e:0<c)(t:Tr)(d:List (List D×Str)):(lw fs fa (c*a) (c*b) t d).2=(lw fs fa a b t d).2:=by rw[BX a b e]
def Qu{p q p' q':Int}(c:0<q)(b:0<q')(h:p*q'<=p'*q)(t:Tr)(a:List (List D×Str)):(lw fs fa q' p' (lw fs fa q p t a).2 a).2=(lw fs fa q' p' t a).2:=by
 have d:=qG (fs:=fs) (fa:=fa) q p b t a;have e:=qG (fs:=fs) (fa:=fa) q' p' c t a;have f:=qG (fs:=fs) (fa:=fa) q' p' c (lw fs fa q p t a).2 a;have g:q*q'=q'*q:=kC _ _;rw[<- e,<- f,<- d,g];rw[F6 (q'*q) (by rw[kC q' p,kC q p'];exact h)]
end
section
variable{fs:List (Str×List Str)}{fa:List (List D×Str)->Str}
abbrev Fy:=(Nat×Nat)×Tr
noncomputable def Fu(x:Fy):D:=.tuple [.tuple [.int (x.1.1:Nat),.int (x.1.2:Nat)],jG x.2]
noncomputable def qE(fs:List (Str×List Str))(fa:List (List D×Str)->Str)(a:List (List D×Str)):Nat->Nat×Nat->Tr->List Fy
|0,x,t=>[(x,t)]
|n+1,x,t=>(x,t)::if U5 t=true then[]else qE fs fa a n (fX fs fa t a) (lw fs fa ((fX fs fa t a).2:Nat) ((fX fs fa t a).1:Nat) t a).2
noncomputable def rR(fs:List (Str×List Str))(fa:List (List D×Str)->Str)(T:Tr)(a:List (List D×Str)):List Fy:=qE fs fa a (lw fs fa 1 0 T a).2.kn (0,1) (lw fs fa 1 0 T a).2
structure OkS(fs:List (Str×List Str))(fa:List (List D×Str)->Str)(T:Tr)(rs:List (List D×Str))(x:Fy):Prop where
 WZ:x.1.1.gcd x.1.2=1
 q0:0<x.1.2
 q1:x.1.2<=12
 p1:x.1.1<=60
 tr:x.2=(lw fs fa (x.1.2:Nat) (x.1.1:Nat) T rs).2
structure LkS(fs:List (Str×List Str))(fa:List (List D×Str)->Str)(T:Tr)(rs:List (List D×Str))(x y:Fy):Prop where
 up:x.1.1*y.1.2<y.1.1*x.1.2
 kn:y.2.kn<x.2.kn
 tr:y.2=(lw fs fa (y.1.2:Nat) (y.1.1:Nat) x.2 rs).2
 cl:x.2=(lw fs fa ((y.1.2:Int)*10000000) ((y.1.1:Int)*10000000-(y.1.2:Int)) T rs).2
def Yp:∀{t:Tr},t.kn=0->U5 t=true
|.say _,_=>rfl
|.ask k n v s y m,h=>by
 have e:(Tr.ask k n v s y m).kn=y.kn+m.kn+1:=rfl;lia
def Y8{T:Tr}{a:List (List D×Str)}(hk:T.kn<=12)(B:a.length<=60){x:Fy}(ok:OkS fs fa T a x)(k:U5 x.2=false) :
  OkS fs fa T a (fX fs fa x.2 a,(lw fs fa ((fX fs fa x.2 a).2:Nat) ((fX fs fa x.2 a).1:Nat) x.2 a).2)/\LkS fs fa T a x (fX fs fa x.2 a,(lw fs fa ((fX fs fa x.2 a).2:Nat) ((fX fs fa x.2 a).1:Nat) x.2 a).2):=by
 obtain⟨⟨p,q⟩,t⟩:=x;obtain⟨WZ,q0,q1,p1,tr⟩:=ok;dsimp only at WZ q0 q1 p1 tr k |-
 have i:St fs fa (q:Nat) (p:Nat) t a:=by rw[tr];exact HX _ _ T a
 have s:t.kn<=12:=by
  have:=(JC (fs:=fs) (fa:=fa) (q:Nat) (p:Nat) T a).1;rw[<- tr]at this;lia
 obtain⟨n1,w,y,n4,n5,l,m,n⟩:=Y7 (fs:=fs) (fa:=fa) Fl Fl i k
 generalize A:fX fs fa t a=N at *
 obtain⟨p',q'⟩:=N;dsimp only at n1 w y n4 n5 l m n |-
 have up:p*q'<p'*q:=by
  have:(p:Int)*q'<p'*q:=by rw[kC (p':Int)];exact l
  exact_mod_cast this
 have b:∀f c:Int,0<c->(p:Int)*c<=f*q->(lw fs fa c f t a).2=(lw fs fa c f T a).2:=λf c g h=>by
  have:=Qu (fs:=fs) (fa:=fa) (p:=(p:Int)) (q:=(q:Int)) (p':=f) (q':=c) Fl g h T a;rw[<- tr]at this;exact this
 refine⟨⟨n5,n1,by dsimp only;lia,by dsimp only;lia,?_⟩,⟨up,?_,Fo,?_⟩⟩
 ·refine b p' q' Fl ?_;have:((p*q':Nat):Int)<((p'*q:Nat):Int):=by exact_mod_cast up
  rw[eI,eI]at this;lia
 ·obtain⟨C,v⟩:=JC (fs:=fs) (fa:=fa) (q':Nat) (p':Nat) t a;dsimp only;rcases uH (lw fs fa (q':Nat) (p':Nat) t a).2.kn t.kn with h | h
  ·exact h
  ·exact a9 (by
    have e:=v Fl;have:=HX (fs:=fs) (fa:=fa) (q':Nat) (p':Nat) t a;rw[e]at this;exact this) n
 ·dsimp only;have u:q*q'<=12*12:=fZ q1 Fl;have j:((p*q':Nat):Int)+1<=((p'*q:Nat):Int):=by lia
  have d:((q*q':Nat):Int)<=144:=by lia
  rw[eI]at d;rw[eI,eI]at j
  have o:(p:Int)*((q':Int)*10000000)<=((p':Int)*10000000-q')*q:=by
   rw[aNa,<- fE,fE (p':Int),kC (10000000:Int) (q:Int),<- fE,kC (q':Int) (q:Int)];lia
  rw[<- b _ _ Fl o,UP _ _ t a (m _ _ Fl ?_)]
  have g:((p':Int)*10000000-q')*q'=(p':Int)*q'*10000000-q'*q':=by
   rw[aNa,fE,kC (10000000:Int),<- fE]
  have r:(q':Int)*10000000*p'=(p':Int)*q'*10000000:=by
   rw[kC,<- fE]
  have z:(0:Int)<(q':Int)*q':=Int.mul_pos Fl Fl;rw[g,r];lia
end
def Wk:kQ:=λc Q=>∃a b:D,c=[.tuple [a,b]]/\Q (.tuple [b,a])
def tJ(d:Nat):kQ:=λe Q=>∃(fs:List (Str×List Str))(an:List Str)(fa:List (List D×Str)->Str)(t:Tr)(c:List (List D×Str))(a b:Int),e=[dX fs an,jG t,.list (c.map dQ),.tuple [.int a,.int b]]/\iF fs an/\FA fs an fa/\lQ fs an t/\t.dep<d/\gF fs an c/\c.length<=60/\0<=a/\a<=1000000000/\0<=b/\b<=1000000000/\Q (.tuple [.int (lw fs fa a b t c).1,jG (lw fs fa a b t c).2])
def Wm:kQ:=tJ 13
def UC{Q:D->Prop}(h:tJ 0 ds Q):False:=by
 obtain⟨_,_,_,_,_,_,_,_,_,_,_,h,_⟩:=h;lia
def Wl:kQ:=λd Q=>∃(fs:List (Str×List Str))(an:List Str)(fa:List (List D×Str)->Str)(t:Tr)(c:List (List D×Str))(a b:Int),d=[dX fs an,jG t,.list (c.map dQ),.tuple [.int b,.int a]]/\iF fs an/\FA fs an fa/\lQ fs an t/\t.dep<13/\gF fs an c/\c.length<=60/\0<=a/\a<=1000000000/\0<=b/\b<=1000000000/\Q (jG (lw fs fa a b t c).2)
section
variable{fs:List (Str×List Str)}{fa:List (List D×Str)->Str}
theorem BE:∀(t:Tr)(a:List (List D×Str)),(zV fs fa t a).length=t.kn
|.say _,_=>rfl
|.ask k n v s y m,a=>by
 show(_::_:List _).length=y.kn+m.kn+1;rw[dB,bG,BE y,BE m]
theorem zL:∀(l:List (Nat×Nat))(x p:Nat×Nat),kM x (l++[p])=oO (kM x l) p
|[],x,p=>rfl
|e::l,x,p=>zL l (oO x e) p
theorem yK(a b:Int):∀(t:Tr)(c:List (List D×Str)),(lw fs fa a b t c).2.dep<=t.dep
|.say z,c=>aN _
|.ask k n v s y m,c=>by
 have d:=yK a b y (c.filter (iL fs k n v s));have e:=yK a b m (c.filter λr=>!iL fs k n v s r);rw[nU];split
 ·exact cI _
 ·show max _ _+1<=max y.dep m.dep+1;lia
end
def tI(d:Nat):kQ:=λb Q=>∃(fs:List (Str×List Str))(an:List Str)(fa:List (List D×Str)->Str)(t:Tr)(a:List (List D×Str)),b=[dX fs an,jG t,.list (a.map dQ)]/\iF fs an/\FA fs an fa/\lQ fs an t/\t.dep<d/\t.dep<=40/\t.kn<=100/\gF fs an a/\a.length<=60/\(∀e∈zV fs fa t a,0<=e.1)/\Q (.tuple [.int (eE fs t a:Nat),.list ((zV fs fa t a).map λe=>G9 (lC e))])
def Wp:kQ:=tI 13
def UB{Q:D->Prop}(h:tI 0 ds Q):False:=by
 obtain⟨_,_,_,_,_,_,_,_,_,h,_⟩:=h;lia
def Wo:kQ:=λb Q=>∃(fs:List (Str×List Str))(an:List Str)(fa:List (List D×Str)->Str)(t:Tr)(a:List (List D×Str)),b=[dX fs an,jG t,.list (a.map dQ)]/\iF fs an/\FA fs an fa/\lQ fs an t/\t.dep<=12/\t.kn<=12/\U5 t=false/\gF fs an a/\a.length<=60/\(∀e∈zV fs fa t a,0<=e.1)/\Q (G9 (fX fs fa t a))
def Wn:RD:=λb Q=>∃(fs:List (Str×List Str))(an:List Str)(fa:List (List D×Str)->Str)(T:Tr)(a:List (List D×Str)),b=[dX fs an,jG T,.list (a.map dQ)]/\iF fs an/\FA fs an fa/\lQ fs an T/\T.dep<=12/\T.kn<=12/\gF fs an a/\a.length<=60/\Q ((rR fs fa T a).map Fu)
noncomputable def gJ(fs:Fs)(R:List Rw)(c:Ch):Bool:=!(yR fs c R).isEmpty&&!(nR fs c R).isEmpty
noncomputable def pF(fs:Fs)(fa:List Rw->Str)(a:Int)(R:List Rw):Int×Tr:=(a*(eE fs (.say (fa R)) R:Nat),.say (fa R))
noncomputable def oQ(b:Int)(c:Ch)(x y a:Int×Tr):Int×Tr:=if b+x.1+y.1<a.1 then(b+x.1+y.1,.ask c.1.1 c.1.2.1 c.1.2.2 c.2 x.2 y.2)else a
noncomputable def fF(fs:Fs)(fa:List Rw->Str)(a b:Int):Nat->List Rw->Int×Tr
|0,R=>pF fs fa a R
|d+1,R=>((jL fs).filter (gJ fs R)).foldl (λe c=>oQ b c (fF fs fa a b d (yR fs c R)) (fF fs fa a b d (nR fs c R)) e) (pF fs fa a R)
theorem B6{b a:Type}{P:a->Prop}{f:a->b->a}:∀{cs:List b}{x},P x->(∀c∈cs,∀y,P y->P (f y c))->P (cs.foldl f x)
|[],_,h,_=>h
|c::cs,x,h,k=>B6 (cs:=cs) (k c (aS ..) x h) λd hd=>k d (aO _ hd)
theorem GE{d:Type}{g:d->Int×Tr->Int×Tr}(b:∀c y,(g c y).1<=y.1):∀(a:List d)(x:Int×Tr),(a.foldl (λt c=>g c t) x).1<=x.1
|[],_=>pA _
|c::a,x=>uL (GE b a (g c x)) (b c x)
theorem N3{b:Type}{g:b->Int×Tr->Int×Tr}(d:∀c y,(g c y).1<=y.1){m:b->Int}(e:∀c y,(g c y).1<=m c):∀(a:List b)(x:Int×Tr)(c:b),c∈a->(a.foldl (λt c=>g c t) x).1<=m c
|c'::a,x,c,h=>by
 rcases aY.mp h with rfl | h
 ·exact uL (GE d a (g c x)) (e c x)
 ·exact N3 d e a (g c' x) c h
section
variable{fs:Fs}{fa:List Rw->Str}{a b:Int}
def M7(c:Ch)(x y t:Int×Tr):(oQ b c x y t).1<=t.1:=by
 unfold oQ;split
 ·rename_i h;exact Int.le_of_lt h
 ·exact pA _
def XQ(c:Ch)(x y t:Int×Tr):(oQ b c x y t).1<=b+x.1+y.1:=by
 unfold oQ;split
 ·exact pA _
 ·rename_i h;exact Int.not_lt.mp h
noncomputable abbrev cC(fs:Fs)(fa:List Rw->Str)(a b:Int)(d:Nat)(R:List Rw)(c:Ch):Int:=b+(fF fs fa a b d (yR fs c R)).1+(fF fs fa a b d (nR fs c R)).1
def uU(d:Nat)(R:List Rw):(fF fs fa a b d R).1<=(pF fs fa a R).1:=by
 cases d with
 |zero=>exact pA _
 |succ d=>exact GE (g:=λc t=>oQ b c (fF fs fa a b d (yR fs c R)) (fF fs fa a b d (nR fs c R)) t) (λc y=>M7 c _ _ y) _ _
def ME{d:Nat}(e:c∈jL fs)(f:gJ fs R c=true):(fF fs fa a b (d+1) R).1<=cC fs fa a b d R c:=
 N3 (g:=λc t=>oQ b c (fF fs fa a b d (yR fs c R)) (fF fs fa a b d (nR fs c R)) t) (m:=cC fs fa a b d R) (λc y=>M7 c _ _ y) (λc y=>XQ c _ _ y) _ _ c (cL.mpr ⟨e,f⟩)
def OE(d:Nat)(R:List Rw):(fF fs fa a b (d+1) R).1=(pF fs fa a R).1\/∃c∈jL fs,gJ fs R c=true/\(fF fs fa a b (d+1) R).1=cC fs fa a b d R c:=by
 refine B6 (P:=λt:Int×Tr=>t.1=(pF fs fa a R).1\/∃c∈jL fs,gJ fs R c=true/\t.1=cC fs fa a b d R c) (.inl Fo) λc g y h=>?_;obtain⟨e,f⟩:=cL.mp g;unfold oQ;split
 ·exact .inr ⟨c,e,f,Fo⟩
 ·exact h
theorem A5(e:0<=a)(f:0<=b):∀(d:Nat)(R:List Rw),0<=(fF fs fa a b d R).1
|0,R=>qN e (zB _)
|d+1,R=>by
 rcases OE (fs:=fs) (fa:=fa) (a:=a) (b:=b) d R with h | ⟨c,_,_,h⟩
 ·rw[h];exact qN e (zB _)
 ·rw[h];have g:=A5 e f d (yR fs c R);have i:=A5 e f d (nR fs c R);show 0<=b+_+_;lia
theorem yX:∀(d:Nat)(R:List Rw),(fF fs fa a b (d+1) R).1<=(fF fs fa a b d R).1
|0,R=>uU 1 R
|d+1,R=>by
 rcases OE (fs:=fs) (fa:=fa) (a:=a) (b:=b) d R with h | ⟨c,e,f,h⟩
 ·rw[h];exact uU _ R
 ·rw[h];refine uL (ME e f) ?_;have g:=yX d (yR fs c R);have i:=yX d (nR fs c R);show b+_+_<=b+_+_;lia
def TK(h:gJ fs R c=false):(yR fs c R=[]/\nR fs c R=R)\/(yR fs c R=R/\nR fs c R=[]):=by
 unfold gJ at h;rw[Bool.and_eq_false_iff]at h;rcases h with h | h
 ·have d:yR fs c R=[]:=by simpa using h
  refine .inl ⟨d,Q9.mpr λr e=>?_⟩;have:=KI.mp d r e;simpa using this
 ·have d:nR fs c R=[]:=by simpa using h
  refine .inr ⟨Q9.mpr λr e=>?_,d⟩;have:=KI.mp d r e;simpa using this
def WA(h:0<=a)(i:0<=b)(d:Nat)(R:List Rw)(j:c∈jL fs):(fF fs fa a b (d+1) R).1<=cC fs fa a b d R c:=by
 cases g:gJ fs R c with
 |true=>exact ME j g
 |false=>
  have k:=A5 (fs:=fs) (fa:=fa) h i d [];have l:=yX (fs:=fs) (fa:=fa) (a:=a) (b:=b) d R;unfold cC;rcases TK g with⟨e,f⟩ | ⟨e,f⟩
  ·rw[e,f];lia
  ·rw[e,f];lia
noncomputable def IN(R:List Rw)(z:Str):Nat:=(R.filter λr=>!decide (r.2=z)).length
def FY(R:List Rw)(z:Str):IN R z+rG R z=R.length:=by
 unfold IN rG
 induction R with
 |nil=>rfl
 |cons r R c=>
  rw[cH,XE,dB];by_cases e:r.2=z
  ·rw[a6 (by simp[e]),a7 (a8 e)];lia
  ·rw[a7 (by simp[e]),a6 (by simp[e]),dB];lia
def wQ(R:List Rw)(z:Str):eE fs (.say z) R=IN R z:=by
 unfold eE IN;congr 1;apply jB;intro r _;show(!decide (z=r.2))=!decide (r.2=z);congr 1;exact decide_eq_decide.mpr ⟨jq,jq⟩
def ZC{an:List Str}(g:xP an R (fa R))(f:0<=a):(pF fs fa a R).1∈an.map (λz=>a*(IN R z:Nat))/\∀m∈an.map (λz=>a*((IN R z:Nat):Int)),(pF fs fa a R).1<=m:=by
 obtain⟨k,c,d,_⟩:=g;have e:(pF fs fa a R).1=a*(IN R (fa R):Nat):=by show a*_=_;rw[wQ]
 refine⟨by rw[e];exact aR.mpr ⟨_,aU c,Fo⟩,λm i=>?_⟩;obtain⟨z,l,rfl⟩:=aR.mp i;obtain⟨j,h⟩:=bP l;have n:=d j z h;have o:=FY R z;have p:=FY R (fa R);rw[e];exact iZ Fl f
def Fx(fs:Fs)(an:List Str):Nat->Tr->Prop
|_,.say z=>z∈an
|0,.ask _ _ _ _ _ _=>False
|d+1,.ask k n v s y m=>(k,n,v)∈qs fs/\(s="yes"\/s="no")/\Fx fs an d y/\Fx fs an d m
theorem Fx.ok:∀{d:Nat}{t:Tr},Fx fs an d t->lQ fs an t/\t.dep<=d
|0,.say z,h=>⟨h,cI _⟩
|d+1,.say z,h=>⟨h,cI _⟩
|0,.ask _ _ _ _ _ _,h=>h.elim
|d+1,.ask k n v s y m,⟨h1,h2,h3,h4⟩=>by
 obtain⟨a1,a2⟩:=h3.ok;obtain⟨b1,c⟩:=h4.ok;refine⟨⟨yD h1,h2,a1,b1⟩,?_⟩;show max y.dep m.dep+1<=d+1;lia
theorem yW(f:FA fs an fa):∀(d:Nat)(R:List Rw),gF fs an R->Fx fs an d (fF fs fa a b d R).2/\(fF fs fa a b d R).1=a*(eE fs (fF fs fa a b d R).2 R:Nat)+b*((fF fs fa a b d R).2.kn:Nat)
|0,R,hR=>by
 obtain⟨k,g,_⟩:=f R hR;refine⟨aU g,?_⟩;show a*_=a*_+b*((0:Nat):Int);rw[show((0:Nat):Int)=0 from Fo,mF,pT];rfl
|d+1,R,hR=>by
 refine B6 (P:=λt:Int×Tr=>Fx fs an (d+1) t.2/\t.1=a*(eE fs t.2 R:Nat)+b*(t.2.kn:Nat)) ?_ λc j y m=>?_
 ·obtain⟨k,g,_⟩:=f R hR;refine⟨aU g,?_⟩;show a*_=a*_+b*((0:Nat):Int);rw[show((0:Nat):Int)=0 from Fo,mF,pT];rfl
 ·obtain⟨g,p⟩:=cL.mp j;obtain⟨l,hs⟩:=yU g;unfold oQ;split
  ·obtain⟨n,c1⟩:=yW f d (yR fs c R) (hR.filt _);obtain⟨o,h⟩:=yW f d (nR fs c R) (hR.filt _);refine⟨⟨l,hs,n,o⟩,?_⟩;have e:=tM (fs:=fs) c.1.1 c.1.2.1 c.1.2.2 c.2 (fF fs fa a b d (yR fs c R)).2 (fF fs fa a b d (nR fs c R)).2 R;have i:(Tr.ask c.1.1 c.1.2.1 c.1.2.2 c.2 (fF fs fa a b d (yR fs c R)).2 (fF fs fa a b d (nR fs c R)).2).kn=(fF fs fa a b d (yR fs c R)).2.kn+(fF fs fa a b d (nR fs c R)).2.kn+1:=rfl;show b+(fF fs fa a b d (yR fs c R)).1+(fF fs fa a b d (nR fs c R)).1=a*(eE fs (Tr.ask c.1.1 c.1.2.1 c.1.2.2 c.2 (fF fs fa a b d (yR fs c R)).2 (fF fs fa a b d (nR fs c R)).2) R:Nat)+b*((Tr.ask c.1.1 c.1.2.1 c.1.2.2 c.2 (fF fs fa a b d (yR fs c R)).2 (fF fs fa a b d (nR fs c R)).2).kn:Nat);rw[e,i,c1,h,fT,fT,fT,kD,kD,kD];show b+(a*((eE fs (fF fs fa a b d (yR fs c R)).2 (yR fs c R):Nat):Int)+_)+(a*((eE fs (fF fs fa a b d (nR fs c R)).2 (nR fs c R):Nat):Int)+_)=a*((eE fs (fF fs fa a b d (yR fs c R)).2 (yR fs c R):Nat):Int)+a*((eE fs (fF fs fa a b d (nR fs c R)).2 (nR fs c R):Nat):Int)+(_+_+b*((1:Nat):Int));rw[show((1:Nat):Int)=1 from Fo,wG];lia
  ·exact m
end
noncomputable def eS(ns:List Nat):D:=.tuple (ns.map λ(i:Nat)=>aQ (i:Int))
noncomputable def bL(a:List Rw)(ns:List Nat):List Rw:=ns.filterMap λi=>a[i]?
noncomputable def PY(fs:Fs)(a:List Rw)(c:Ch)(i:Nat):Bool:=match a[i]? with | some r=>WX fs c r | none=>false
noncomputable abbrev yN(fs:Fs)(a:List Rw)(c:Ch)(ns:List Nat):List Nat:=ns.filter (PY fs a c)
noncomputable abbrev nN(fs:Fs)(a:List Rw)(c:Ch)(ns:List Nat):List Nat:=ns.filter λi=>!PY fs a c i
abbrev nD(a:List Rw)(ns:List Nat):Prop:=ns.Sublist (cR a.length)
def nD.lt{a:List Rw}(h:nD a ns){i:Nat}(b:i∈ns):i<a.length:=nQ.mp (h.subset b)
def nD.len{a:List Rw}{ns:List Nat}(h:nD a ns):ns.length<=a.length:=by
 have:=h.length_le
 rwa [fU]at this
def nD.filt{ns:List Nat}(h:nD rs ns)(p:Nat->Bool):nD rs (ns.filter p):=List.filter_sublist.trans h
theorem FM{fs}{rs:List Rw}:∀{ns},(∀i∈ns,i<rs.length)->bL rs (yN fs rs c ns)=yR fs c (bL rs ns)/\bL rs (nN fs rs c ns)=nR fs c (bL rs ns)
|[],_=>⟨Fo,Fo⟩
|i::ns,h=>by
 have k:=h i (aS ..);obtain⟨d,e⟩:=FM (fs:=fs) (rs:=rs) (c:=c) (ns:=ns) λj m=>h j (aO _ m);have b:rs[i]?=some rs[i]:=aD k;have g:PY fs rs c i=WX fs c rs[i]:=by unfold PY;rw[b]
 have f:bL rs (i::ns)=rs[i]::bL rs ns:=by unfold bL;rw[gD,b]
 have a:∀l:List Nat,bL rs (i::l)=rs[i]::bL rs l:=λl=>by unfold bL;rw[gD,b]
 unfold yN nN yR nR at *;rw[f,cH,cH,cH,cH,g]
 cases WX fs c rs[i]with
 |true=>exact⟨by rw[a7 Fo,a7 Fo,a,d],by rw[a6 Fk,a6 Fk,e]⟩
 |false=>exact⟨by rw[a6 Fk,a6 Fk,d],by rw[a7 Fk,a7 Fk,a,e]⟩
theorem wS{rs:List Rw}:∀{ns:List Nat},(∀i∈ns,i<rs.length)->(bL rs ns).length=ns.length
|[],_=>rfl
|i::ns,h=>by
 have b:rs[i]?=some (rs[i]'(h i (aS ..))):=aD _;have a:=wS (rs:=rs) (ns:=ns) λj c=>h j (aO _ c);unfold bL at a |-
 rw[gD,b,dB,a];rfl
def SH(h:r∈bL rs ns):r∈rs:=by
 obtain⟨i,_,e⟩:=xX.mp h;exact aU e
def NC{fs}(h:gF fs an rs)(ns:List Nat):gF fs an (bL rs ns):=λr a=>h r (SH a)
def IH(a:List Rw):bL a (cR a.length)=a:=by
 unfold bL;apply gY;intro i
 have:∀n,n<=a.length->(cR n).filterMap (λi=>a[i]?)=a.take n:=λn=>by
  induction n with
  |zero=>intro _;simp
  |succ n b=>
   intro c;rw[uJ,MV,b Fl,cS];congr 1
 rw[this a.length (aN _),dA]
def AU:∀{a b},eS a=eS b->a=b:=λ{a b} h=>by
 have h:gE _=gE _:=h;injection h with h
 have:=e8 (E9 λd:D=>match d with | .int i=>i.toNat | _=>0) h;simpa only[bM,gh,dY,List.map_id']using this
noncomputable def mV(p:Int×Tr):D:=.tuple [.int p.1,jG p.2]
noncomputable def JH(ns:List Nat)(d:Nat):D:=.tuple [eS ns,.int (d:Nat)]
noncomputable def YA(fs:Fs)(a:List Rw)(c:Ch):D:=.list (a.map λr=>aW (fN fs c.1.1 c.1.2.1 c.1.2.2 c.2 r.1))
noncomputable def Gn(fs:Fs)(a:List Rw)(c:Ch):D:=.tuple [qD c.1,.str c.2,YA fs a c]
noncomputable def fQ:List Str:=["form","kept","slip","knot","choices"]
noncomputable def oN(C:Addr)(fs:Fs)(an:List Str)(c:List Rw)(a b:Int):D:=LQ C fQ [dX fs an,.list (c.map dQ),.int a,.int b,.list ((jL fs).map (Gn fs c))]
noncomputable def PK(fs:Fs)(a:List Rw)(ns:List Nat)(c:Ch):D:=.tuple [qD c.1,.str c.2,eS (yN fs a c ns),eS (nN fs a c ns)]
structure sP(fs:Fs)(an:List Str)(fa:List Rw->Str)(rs:List Rw)(a b:Int):Prop where
 F:iF fs an
 fa:FA fs an fa
 R:gF fs an rs
 l:rs.length<=60
 a0:0<=a
 a1:a<=1000000
 b0:0<=b
 b1:b<=1000000
def Vo:kQ:=λb Q=>∃(fs:Fs)(an:List Str)(c:Ch)(a:List Rw),b=[dX fs an,W3 c,.list (a.map dQ)]/\iF fs an/\c∈jL fs/\gF fs an a/\a.length<=60/\Q (YA fs a c)
def Pc:Gs:=λd Q=>∃(fs:Fs)(an:List Str)(c:List Rw)(a b:Int),d=[dX fs an,.list (c.map dQ),.tuple [.int a,.int b]]/\iF fs an/\gF fs an c/\c.length<=60/\Q [dX fs an,.list (c.map dQ),.int a,.int b,.list ((jL fs).map (Gn fs c))]
def Pd(w:c7)(C:Addr):kQ:=λd Q=>∃(fs:Fs)(an:List Str)(fa:List Rw->Str)(c:List Rw)(a b:Int)(ns:List Nat),d=[oN C fs an c a b,eS ns]/\sP fs an fa c a b/\nD c ns/\Q (mV (pF fs fa a (bL c ns)))
def Pe(w:c7)(C:Addr):kQ:=λd Q=>∃(fs:Fs)(an:List Str)(fa:List Rw->Str)(c:List Rw)(a b:Int)(ns:List Nat),d=[oN C fs an c a b,eS ns]/\sP fs an fa c a b/\nD c ns/\Q (.list (((jL fs).filter (gJ fs (bL c ns))).map (PK fs c ns)))
def Xl(w:c7)(C:Addr):kQ:=λf Q=>∃(fs:Fs)(an:List Str)(fa:List Rw->Str)(e:List Rw)(a b:Int)(c:List (D×D))(ns:List Nat)(d:Nat),f=[oN C fs an e a b,mB w c,eS ns,.int (d:Nat)]/\sP fs an fa e a b/\nD e ns/\(∀kv∈c,jX kv.1)/\(d=0\/(JH ns d,mV (fF fs fa a b d (bL e ns)))∈c)/\Q (mV (fF fs fa a b d (bL e ns)))
def Gz(fs:Fs)(fa:List Rw->Str)(e:List Rw)(a b:Int)(c:List (D×D))(d:Nat)(ns:List Nat):Prop:=d=0\/(JH ns d,mV (fF fs fa a b d (bL e ns)))∈c
def Xk(w:c7)(C:Addr):kQ:=λg Q=>∃(fs:Fs)(an:List Str)(fa:List Rw->Str)(f:List Rw)(a b:Int)(e:List (D×D))(ns:List Nat)(d:Nat),g=[oN C fs an f a b,mB w e,eS ns,.int ((d+1:Nat):Int)]/\sP fs an fa f a b/\nD f ns/\(∀kv∈e,jX kv.1)/\(∀c∈jL fs,gJ fs (bL f ns) c=true->Gz fs fa f a b e d (yN fs f c ns)/\Gz fs fa f a b e d (nN fs f c ns))/\Q (mV (fF fs fa a b (d+1) (bL f ns)))
def Xj(w:c7)(C:Addr):kQ:=λg Q=>∃(fs:Fs)(an:List Str)(fa:List Rw->Str)(d:List Rw)(a b:Int)(f:List (List Nat)),g=[oN C fs an d a b,.list (f.map eS)]/\sP fs an fa d a b/\f.length<=400/\(∀x∈f,nD d x)/\∀e:List (List Nat),e.Nodup->e.length<=2*(jL fs).length*f.length->(∀x∈e,nD d x/\x≠[]) ->
 (∀ns∈f,∀c∈jL fs,gJ fs (bL d ns) c=true->yN fs d c ns∈e/\nN fs d c ns∈e)->Q (.list (e.map eS))
noncomputable def kZ(x:List Nat×Nat):D:=JH x.1 x.2
def Nd(fs:Fs)(a:List Rw)(ks:List (List Nat×Nat)):Prop:=∀(i:Nat)(x:List Nat)(d:Nat),ks[i]?=some (x,d+2)->∀c∈jL fs,gJ fs (bL a x) c=true->(∃j,i<j/\ks[j]?=some (yN fs a c x,d+1))/\∃j,i<j/\ks[j]?=some (nN fs a c x,d+1)
def CW(fs:Fs)(a:List Rw)(ns:List Nat)(dp:Nat)(ks:List (List Nat×Nat)):Prop:=ks.Nodup/\ks.length<=400/\(∀x∈ks,nD a x.1/\1<=x.2/\x.2<=3/\x.1≠[])/\(0<dp->(ns,dp)∈ks)/\∀x d,(x,d+2)∈ks->∀c∈jL fs,gJ fs (bL a x) c=true->(yN fs a c x,d+1)∈ks/\(nN fs a c x,d+1)∈ks
noncomputable def Jp:D->D
|.tuple [.tuple k,.tuple (c::_)]=>.tuple (k++[c])
|_=>.none
noncomputable def xI(fs:Fs)(fa:List Rw->Str)(a b:Int)(c:List Rw)(x:List Nat×Nat):D:=.tuple [eS x.1,.int (x.2:Nat),.int (fF fs fa a b x.2 (bL c x.1)).1]
def tO{a:List Sl}{i:Nat}(c:i<a.length)(d:∀(j:Nat)(hs:List Int)(b:List (D×D)),a[j]?≠some (.dic hs b))(k:u DT (a.set i (pR w []))):gI (SE i) u DT a:=⟨c,d,k⟩
def yH{d tv:ET}{c:vJ}{b:List Sl}{i:Nat}{a:List (D×D)}(k v:D)(h:b[i]?=some (pR w a))(j:∀q:D->Prop,q v->tv (b.set i (.val (mB w a))) q)(hd:v.hasDict=false)(hk:∀q:D->Prop,q k->d (b.set i (.val (mB w a))) q)(e:GV k)(f:∀kv∈a,jX kv.1)(g:a.length<=100000)(l:c.nx (b.set i (pR w (vN a k v)))):KU w i d tv c b:=⟨a,h,j _ ⟨hd,hk _ ⟨e,f,g,l⟩⟩⟩
def PC{c tv:ET}{b:List Sl}{i:Nat}{a:List (D×D)}(k v:D)(h:b[i]?=some (pR w a))(g:∀q:D->Prop,q v->tv (b.set i (.val (mB w a))) q)(hd:v.hasDict=false)(hk:∀q:D->Prop,q k->c (b.set i (.val (mB w a))) q)(d:GV k)(e:∀kv∈a,jX kv.1)(f:a.length<=100000)(j:u DT (b.set i (pR w (vN a k v)))):gI (KU w i c tv) u DT b:=⟨a,h,g _ ⟨hd,hk _ ⟨d,e,f,j⟩⟩⟩
theorem xF:∀ns:List Nat,hkAll (ns.map λ(i:Nat)=>aQ (i:Int))=true/\dM (ns.map λ(i:Nat)=>aQ (i:Int))=0
|[]=>⟨Fo,Fo⟩
|n::ns=>by
 have:=xF ns;refine⟨?_,?_⟩
 ·show(true&&hkAll (ns.map λ(i:Nat)=>aQ (i:Int)))=true;rw[this.1];rfl
 ·show max 0 (dM (ns.map λ(i:Nat)=>aQ (i:Int)))=0;rw[this.2];rfl
def uR(ns:List Nat):GV (eS ns):=by
 obtain⟨a,b⟩:=xF ns;refine⟨⟨a,?_⟩,_,Fo⟩;show dM _+1<=8;rw[b];decide
def kX(ns:List Nat)(d:Nat):GV (JH ns d):=by
 obtain⟨a,b⟩:=xF ns;refine⟨⟨?_,?_⟩,_,Fo⟩
 ·show(hkAll (ns.map λ(i:Nat)=>aQ (i:Int))&&true)=true;rw[a];rfl
 ·show max (dM _+1) (max 0 0)+1<=8;rw[b];decide
def NY{d e:Nat}(h:JH xs d=JH ys e):xs=ys/\d=e:=by
 have h:gE _=gE _:=h;injection h with h
 injection h with b h
 injection h with a _
 injection a with a
 exact⟨AU b,sV.inj a⟩
theorem RV:∀t:Tr,(jG t).hasDict=false
|.say _=>rfl
|.ask k n v s y m=>by
 show(fJ (.str "ask")||(fJ (.tuple [.str k,.str n,.str v])||(fJ (.str s)||(fJ (jG y)||(fJ (jG m)||false)))))=false;rw[RV y,RV m];rfl
def aCn(p:Int×Tr):(mV p).hasDict=false:=by
 show(false||(fJ (jG p.2)||false))=false;rw[RV];rfl
def EA(a b c d e:D):(fQ.zip [a,b,c,d,e]).lookup ("form":Str)=some a/\(fQ.zip [a,b,c,d,e]).lookup ("kept":Str)=some b/\(fQ.zip [a,b,c,d,e]).lookup ("slip":Str)=some c/\(fQ.zip [a,b,c,d,e]).lookup ("knot":Str)=some d/\(fQ.zip [a,b,c,d,e]).lookup ("choices":Str)=some e:=by
 have n1:(("kept":Str)=="form")=false:=by decide +kernel
 have g:(("slip":Str)=="form")=false:=by decide +kernel
 have h:(("slip":Str)=="kept")=false:=by decide +kernel
 have n4:(("knot":Str)=="form")=false:=by decide +kernel
 have n5:(("knot":Str)=="kept")=false:=by decide +kernel
 have i:(("knot":Str)=="slip")=false:=by decide +kernel
 have j:(("choices":Str)=="form")=false:=by decide +kernel
 have k:(("choices":Str)=="kept")=false:=by decide +kernel
 have l:(("choices":Str)=="slip")=false:=by decide +kernel
 have f:(("choices":Str)=="knot")=false:=by decide +kernel
 unfold fQ;simp only[List.zip_cons_cons,gW,ii,n1,g,h,n4,n5,i,j,k,l,f,and_self]
theorem FN{rs:List Rw}:∀{ns:List Nat},(∀i∈ns,i<rs.length)->(ns.map λ(i:Nat)=>aQ (i:Int)).map (qW rs)=(bL rs ns).map dQ
|[],_=>rfl
|i::ns,h=>by
 have c:=h i (aS ..);have e:=FN (rs:=rs) (ns:=ns) λj d=>h j (aO _ d);have a:rs[i]?=some rs[i]:=aD c;have b:bL rs (i::ns)=rs[i]::bL rs ns:=by unfold bL;rw[gD,a]
 rw[bE,bE,e,b,bE];congr 1;show(match L2.atI rs (i:Int)with | some r=>dQ r | none=>uY)=_;rw[L2.fH a]
theorem R8{fs}{a:List Rw}{c:Ch}(F:iF fs an)(l:c∈jL fs)(k:gF fs an a):∀{ns:List Nat},(∀i∈ns,i<a.length) ->
 (ns.map λ(i:Nat)=>aQ (i:Int)).filter (nT fs c.1.1 c.1.2.1 c.1.2.2 c.2 a "yes")=(yN fs a c ns).map (λ(i:Nat)=>aQ (i:Int)) /\
 (ns.map λ(i:Nat)=>aQ (i:Int)).filter (nT fs c.1.1 c.1.2.1 c.1.2.2 c.2 a "no")=(nN fs a c ns).map (λ(i:Nat)=>aQ (i:Int))
|[],_=>⟨Fo,Fo⟩
|i::ns,h=>by
 have m:=h i (aS ..);obtain⟨o,p⟩:=R8 F l k (ns:=ns) λj s=>h j (aO _ s);have g:a[i]?=some a[i]:=aD m;have q:PY fs a c i=WX fs c a[i]:=by unfold PY;rw[g]
 obtain⟨t,hs⟩:=yU l;have f:=AN F (yD t) hs (k _ (fK m)).1
 have n:∀w,nT fs c.1.1 c.1.2.1 c.1.2.2 c.2 a w (.int (i:Int))=decide (fN fs c.1.1 c.1.2.1 c.1.2.2 c.2 a[i].1=w):=λw=>by
  show(match L2.atI a (i:Int)with | some r=>decide (fN fs c.1.1 c.1.2.1 c.1.2.2 c.2 r.1=w) | none=>false)=_;rw[L2.fH g]
 have u:WX fs c a[i]=decide (fN fs c.1.1 c.1.2.1 c.1.2.2 c.2 a[i].1="yes"):=rfl;unfold yN nN at *;rw[bE,cH,cH,cH,cH,q,u,n,n,o,p];rcases f with e | e
 ·rw[e];have b:decide (("yes":Str)="yes")=true:=by decide +kernel
  have d:decide (("yes":Str)="no")=false:=by decide +kernel
  rw[b,d];exact⟨Fo,Fo⟩
 ·rw[e];have b:decide (("no":Str)="yes")=false:=by decide +kernel
  have d:decide (("no":Str)="no")=true:=by decide +kernel
  rw[b,d];exact⟨Fo,Fo⟩
def BS{fs}{rs:List Rw}(h:∀i∈ns,i<rs.length):gJ fs (bL rs ns) c=(!(yN fs rs c ns).isEmpty&&!(nN fs rs c ns).isEmpty):=by
 obtain⟨d,e⟩:=FM (fs:=fs) (rs:=rs) (c:=c) h
 have b:∀l:List Nat,(∀i∈l,i<rs.length)->(bL rs l).isEmpty=l.isEmpty:=λl f=>by
  have:=wS f;rw[mU,AJ,AJ,this]
 unfold gJ;rw[<- d,<- e,b _ λi a=>h i (cL.mp a).1,b _ λi a=>h i (cL.mp a).1]
def ZB(c:xP an R z){m:Int}(e:m∈kB an R)(f:∀n∈kB an R,n<=m):m=(rG R z:Int):=by
 obtain⟨k,a,b,_⟩:=c;have h:=f _ (aR.mpr ⟨z,aU a,Fo⟩);obtain⟨y,g,rfl⟩:=aR.mp e;obtain⟨j,d⟩:=bP g;have i:=b j y d;lia
noncomputable def yP{a:Type}[DecidableEq a](b:List a)(x:a):List a:=if x∈b then b else b++[x]
def mI{a:Type}[DecidableEq a]{b:List a}{x y:a}:y∈yP b x↔y∈b\/y=x:=by
 unfold yP;split
 ·rename_i h;exact⟨.inl,λz=>z.elim id λe=>by rw[e];exact h⟩
 ·rw[eA,dH]
def U6{d:Type}[DecidableEq d]{c:List d}{x}(h:c.Nodup):(yP c x).Nodup:=by
 unfold yP;split
 ·exact h
 ·rename_i i;rw[rL];exact⟨h,Fm,λa f b g=>by rw[dH.mp g];exactλe=>i (e▸f)⟩
def GB{a:Type}[DecidableEq a](b:List a)(x:a):(yP b x).length<=b.length+1:=by
 unfold yP;split
 ·lia
 ·rw[bG];exact aN _
noncomputable def nJ{a:Type}(b:a->D)(c:List a):List (D×D):=c.map λy=>(b y,.bool true)
def wN{c:Type}(a:c->D)(b:List c):(nJ a b).map (·.1)=b.map a:=by
 unfold nJ;rw[bM];rfl
def wV{c:Type}[DecidableEq c]{a:c->D}(inj:∀x y,a x=a y->x=y)(b:List c)(x:c):vN (nJ a b) (a x) (.bool true)=nJ a (yP b x):=by
 have d:a x∈(nJ a b).map (·.1)↔x∈b:=by
  rw[wN,aR];exact⟨λ⟨y,f,e⟩=>inj y x e▸f,λh=>⟨x,h,Fo⟩⟩
 unfold vN yP;by_cases h:x∈b
 ·rw[a7 (d.mpr h),a7 h];unfold nJ;rw[bM];apply iH;intro y _;show(if a y=a x then(a y,oM true)else(a y,oM true))=_;split<;>rfl
 ·rw[a6 (λz=>h (d.mp z)),a6 h];unfold nJ;rw[bA];rfl
def KR{b:Type}{kf:b->D}(hk:∀x,jX (kf x))(c:List b):∀a∈nJ kf c,jX a.1:=λa h=>by
 obtain⟨y,_,rfl⟩:=aR.mp h;exact hk y
def xD(x y:List Nat×Nat)(h:kZ x=kZ y):x=y:=Prod.ext (NY h).1 (NY h).2
def ZT{b:Type}[DecidableEq b]{a:List b}{x:b}(h:x∉a):yP a x=a++[x]:=a6 h
def NJ{a:List (D×D)}(h:k∉a.map (·.1)):vN a k v=a++[(k,v)]:=a6 h
structure J4(fs:Fs)(rs:List Rw)(ns:List Nat)(dp k:Nat)(ks:List (List Nat×Nat))(lv:List (List Nat)):Prop where
 nd:ks.Nodup
 nl:lv.Nodup
 lo:∀x∈lv,nD rs x
 ko:∀x∈ks,nD rs x.1/\dp<x.2+k/\x.2<=dp/\1<=x.2
 z0:k=0->lv=[ns]/\ks=[]
 z1:0<k->(ns,dp)∈ks
 fed:∀(i:Nat)(x:List Nat)(d:Nat),ks[i]?=some (x,d+2)->∀c∈jL fs,gJ fs (bL rs x) c=true->((∃j,i<j/\ks[j]?=some (yN fs rs c x,d+1))\/(d+1+k=dp/\yN fs rs c x∈lv))/\((∃j,i<j/\ks[j]?=some (nN fs rs c x,d+1))\/(d+1+k=dp/\nN fs rs c x∈lv))
def J4.step{fs}{dp k:Nat}{g f:List (List Nat)}(m:J4 fs rs ns dp k ks g)(hk:k<dp)(nl:f.Nodup)(lo:∀x∈f,nD rs x)
  (hs:k+1<dp->∀x∈g,∀c∈jL fs,gJ fs (bL rs x) c=true->yN fs rs c x∈f/\nN fs rs c x∈f):J4 fs rs ns dp (k+1) (ks++g.map λx=>(x,dp-k)) f:=by
 have p:∀s,s∈g->∀i,i<ks.length->∃j,i<j/\(ks++g.map λx=>(x,dp-k))[j]?=some (s,dp-k):=λs hs i n=>by
  obtain⟨j,I⟩:=bP hs;refine⟨ks.length+j,Fl,?_⟩;rw[eJ Fl,aI,show ks.length+j-ks.length=j by lia,I];rfl
 refine⟨?_,nl,lo,λx hx=>?_,λz=>a9 z (aAq _),λ_=>?_,λi x d n c A C=>?_⟩
 ·rw[rL];refine⟨m.nd,?_,λa G b H=>?_⟩
  ·exact HH.map _ (λa b (h:a≠b) e=>h (e8 Prod.fst e)) m.nl
  ·obtain⟨y,_,rfl⟩:=aR.mp H;rintro rfl;have:=(m.ko _ G).2.1;dsimp only at this;lia
 ·rcases eA.mp hx with hx | hx
  ·obtain⟨o,l,E,F⟩:=m.ko x hx;exact⟨o,Fl,E,F⟩
  ·obtain⟨y,u,rfl⟩:=aR.mp hx;exact⟨m.lo y u,by dsimp only;lia,by dsimp only;lia,by dsimp only;lia⟩
 ·by_cases w:k=0
  ·obtain⟨q,v⟩:=m.z0 w;rw[q,v,w];exact dH.mpr Fo
  ·exact iW _ (m.z1 Fl)
 ·by_cases B:i<ks.length
  ·rw[eB B]at n;obtain⟨f1,f2⟩:=m.fed i x d n c A C
   have go:∀s,((∃j,i<j/\ks[j]?=some (s,d+1))\/(d+1+k=dp/\s∈g))->(∃j,i<j/\(ks++g.map λx=>(x,dp-k))[j]?=some (s,d+1))\/(d+1+(k+1)=dp/\s∈f):=λs h=>by
    rcases h with⟨j,o,l⟩ | ⟨o,l⟩
    ·exact .inl ⟨j,o,by rw[eB (aE.mp l).1];exact l⟩
    ·obtain⟨j,r,t⟩:=p s l i B;exact .inl ⟨j,r,by rw[t];congr 2;lia⟩
   exact⟨go _ f1,go _ f2⟩
  ·rw[eJ Fl,aI]at n;obtain⟨y,u,e⟩:=bU.mp n;injection e with q v
   subst q;obtain⟨r,t⟩:=hs Fl y (aU u) c A C;exact⟨.inr ⟨Fl,r⟩,.inr ⟨Fl,t⟩⟩
def J4.fin{fs}{dp:Nat}(m:J4 fs rs ns dp dp ks lv):Nd fs rs ks:=λi x d b c a e=>by
 obtain⟨f1,f2⟩:=m.fed i x d b c a e;exact⟨f1.elim id λh=>a9 h.1 Fl,f2.elim id λh=>a9 h.1 Fl⟩
def M3:("leaf_of":Str)∉fQ:=by decide +kernel
def M1:("partings":Str)∉fQ:=by decide +kernel
def _root_.L2.Room.u9{k:Nat}{A:d1}(r:Room k A):A.units+9<u7:=by have:=r.un;lia
def TU{c:ET}{b:vJ}{a:List Sl}{i:Nat}(R:D->Prop)(h:∀q:D->Prop,(∀v,R v->q v)->c a q)(k:∀v,R v->b.nx (a.set i (.val v))):FL i c b a:=h _ k
def Qr{fs}(F:iF fs an)(h:q∈qs fs):vP (qD q) (.list ((qs fs).map qD))/\A1 (qD q) (.list ((qs fs).map qD))=true:=by
 have a:qD q∈eN fs:=by rw[<- oX];exact aR.mpr ⟨q,h,Fo⟩
 have t:=DR F _ a;obtain⟨_,_,_,_,c,b⟩:=sZ (DR F);rw[oX];refine⟨⟨b,t.lay,Fl⟩,?_⟩;show((eN fs).any λz=>dW z (qD q))=true;rw[sR];exact⟨qD q,a,bf _ t.lay⟩
def Mn:∀y∈(["yes","no"]:List Str),yJ y=true:=by decide +kernel
def Ku(h:yJ z=true):Cd (.str z):=(nY h (n:=8) (m:=0) (aN _)).cd Fk
def U7{s:Str}(h:s="yes"\/s="no"):vP (.str s) (.tuple [.str "yes",.str "no"])/\A1 (.str s) (.tuple [.str "yes",.str "no"])=true:=by
 have a:s∈(["yes","no"]:List Str):=by rcases h with rfl | rfl<;>decide +kernel
 refine⟨AS Mn (Ku (Mn s a)),?_⟩;show(((["yes","no"]:List Str).map aW).any λy=>dW y (.str s))=true;rw[xM];exact a8 a
def IG{e:ET}{d:List Sl}{i j l:Nat}(h:∀q:D->Prop,q (.tuple [a,b,c])->e d q)(k:u DT (((d.set i (.val a)).set j (.val b)).set l (.val c))):gI (Mo e (Hf i j l)) u DT d:=h _ ⟨a,b,c,Fo,k⟩
noncomputable def KV(fs:Fs)(fa:List Rw->Str)(a b:Int)(c:List Rw)(ks:List (List Nat×Nat)):List (D×D):=ks.map λx=>(kZ x,aQ (fF fs fa a b x.2 (bL c x.1)).1)
theorem tW:∀ns:List Nat,dP (ns.map λ(i:Nat)=>aQ (i:Int))=true
|[]=>rfl
|i::ns=>by
 show(PyData.canLay0 (.int (i:Int))&&dP (ns.map λ(i:Nat)=>aQ (i:Int)))=true;rw[tW ns];rfl
def T3{y:List Nat}{n:Nat}(h:y≠[])(c:∀i∈y,i<n):∃d b:Nat,L2.atI (y.map λ(i:Nat)=>aQ (i:Int)) 0=some (.int (d:Nat))/\L2.atI (y.map λ(i:Nat)=>aQ (i:Int)) (-1)=some (.int (b:Nat))/\b<n:=by
 refine⟨y.head h,y.getLast h,?_,?_,c _ (XD h)⟩
 ·refine L2.fH (j:=0) ?_
  cases y with
  |nil=>exact a9 Fo h
  |cons a l=>rfl
 ·have e:=(C9 h).symm
  conv=>lhs;rw[e]
  rw[bA];exact L2.WE _ _
theorem B0:∀{l},(∀x∈l,x.canLay0=true)->dP l=true
|[],_=>rfl
|a::l,h=>by
 show(a.canLay0&&dP l)=true;rw[h a (aS ..),B0 λx b=>h x (aO _ b)];rfl
noncomputable def Gd(s:Str):Str:=if s="yes" then "no" else "yes"
def TM(s:Str):Gd s="yes"\/Gd s="no":=by
 unfold Gd;split
 ·exact .inr Fo
 ·exact .inl Fo
noncomputable def xY(f:Str×List Str)(k v st:Str)(c:D):Bool:=decide (BJ f k v st c="yes")
def qP(f:Str×List Str)(k v st:Str):xY f k v st .none=decide (st="yes"):=rfl
def FE(f:Str×List Str)(v st z:Str):xY f "is" v st (.str z)=decide (z=v):=by
 show decide ((if("is":Str)="is" then(if z=v then("yes":Str)else "no")else if f.2.idxOf z<=f.2.idxOf v then("yes":Str)else "no")="yes")=_;rw[a7 rfl];by_cases e:z=v
 ·rw[a7 e,a8 e];rfl
 ·rw[a6 e,c4 e];rfl
def RN(f:Str×List Str)(v st z:Str):xY f "upto" v st (.str z)=decide (f.2.idxOf z<=f.2.idxOf v):=by
 show decide ((if("upto":Str)="is" then(if z=v then("yes":Str)else "no")else if f.2.idxOf z<=f.2.idxOf v then("yes":Str)else "no")="yes")=_;rw[a6 Fk];by_cases e:f.2.idxOf z<=f.2.idxOf v
 ·rw[a7 e,a8 e];rfl
 ·rw[a6 e,c4 e];rfl
def NO{st:Str}(h:st="yes"\/st="no"):decide (st="yes")=(true ^^ decide (Gd st="yes")):=by
 rcases h with rfl | rfl<;>rfl
def Fp(f:Str×List Str)(k v st:Str):Prop:=∃b d a:Str,D7 b f d∈IJ f/\(a="yes"\/a="no")/\∃e:Bool,∀c,WY f c=true->xY f k v st c=(e ^^ xY f b d a c)
def Fp.turn{st}(h:Fp f k2 v2 sr)(b:Bool)(g:∀c,WY f c=true->xY f k v st c=(b ^^ xY f k2 v2 sr c)):Fp f k v st:=by
 obtain⟨m,n,a,i,j,e,l⟩:=h;exact⟨m,n,a,i,j,b ^^ e,λc d=>by rw[g c d,l c d,Bool.xor_assoc]⟩
def Fp.self{k v st:Str}(h:D7 k f v∈IJ f)(hs:st="yes"\/st="no"):Fp f k v st:=⟨k,v,st,h,hs,false,λc _=>(qC _).symm⟩
def LA{f:Str×List Str}(h:WY f c=true){P:D->Prop}(a:P .none)(b:∀z∈f.2,P (.str z)):P c:=by
 cases c with
 |none=>exact a
 |str z=>exact b z (b8 h)
 |_=>cases h
def LG{f:Str×List Str}{v st:Str}(d:f.2.Nodup)(a:v∈f.2)(hs:st="yes"\/st="no"):Fp f "is" v st:=by
 by_cases g:f.2.length=2
 ·obtain⟨n,vs⟩:=f;dsimp only at g d a
  match vs,g,d,a with
  |[x,y],_,d,a=>
   have h:D7 "is" (n,[x,y]) x∈IJ (n,[x,y]):=iW _ (aS ..);have b:x≠y:=λe=>(mT.mp d).1 (by rw[e];exact aS ..);simp only[aY,dS,j5]at a;rcases a with rfl | rfl
   ·exact .self h hs
   ·refine(Fp.self h (TM st)).turn true λc j=>LA (P:=λc=>xY _ _ _ _ c=(true ^^ xY _ _ _ _ c)) j ?_ λz i=>?_
    ·rw[qP,qP];exact NO hs
    ·rw[FE,FE];simp only[aY,dS,j5]at i;rcases i with rfl | rfl
     ·rw[c4 b,a8 rfl];rfl
     ·rw[a8 Fo,c4 λe=>b e.symm];rfl
 ·refine .self (iW _ (aR.mpr ⟨v,?_,Fo⟩)) hs;unfold pQ;rw[a6 g];exact a
def VA{a:List Str}(e:z∈a)(d:v∈a)(h:a.idxOf z=a.idxOf v):z=v:=by
 have b:=gB.mpr e;have c:=gB.mpr d;rw[<- jN b,<- jN c];congr 1
def aD6{f:Str×List Str}{v st:Str}(g:f.2.Nodup)(j:v∈f.2)(p:f.2.idxOf v+1<f.2.length)(hs:st="yes"\/st="no"):Fp f "upto" v st:=by
 by_cases n:f.2.idxOf v=0
 ·refine(LG g j hs).turn false λc d=>LA (P:=λc=>xY _ _ _ _ c=(false ^^ xY _ _ _ _ c)) d ?_ λz b=>?_
  ·rw[qP,qP,qC]
  ·rw[RN,FE,qC];refine decide_eq_decide.mpr ⟨λh=>VA b j Fl,λh=>by rw[h];exact aN _⟩
 ·by_cases o:f.2.idxOf v+2=f.2.length
  ·have k:f.2.length-1<f.2.length:=by lia
   have hw:f.2.idxOf f.2[f.2.length-1]=f.2.length-1:=g.idxOf_getElem _ k;have a:f.2[f.2.length-1]∈f.2:=fK k
   generalize f.2[f.2.length-1]=w at hw a
   refine(LG (v:=w) (st:=Gd st) g a (TM st)).turn true λc d=>LA (P:=λc=>xY _ _ _ _ c=(true ^^ xY _ _ _ _ c)) d ?_ λz b=>?_
   ·rw[qP,qP];exact NO hs
   ·rw[RN,FE];have m:=gB.mpr b;by_cases e:z=w
    ·rw[a8 e,c4 (by rw[e];lia)];rfl
    ·rw[c4 e,a8];rfl
     have:f.2.idxOf z≠f.2.length-1:=λq=>e (VA b a (q.trans hw.symm));lia
  ·refine .self (eF _ (aR.mpr ⟨v,?_,Fo⟩)) hs;have l:=gB.mpr j;refine aU (i:=f.2.idxOf v-1) ?_;unfold BO;rw[gR,a7 Fl,jO,show 1+(f.2.idxOf v-1)=f.2.idxOf v by lia,aD l,jN l]
def aD7{fs}(F:iF fs an){k n v st:Str}(z:QA fs (.tuple [.str k,.str n,.str v])=true)(hs:st="yes"\/st="no"):∃c∈jL fs,∃e:Bool,∀r:Rw,lO fs (.tuple r.1)=true->iL fs k n v st r=(e ^^ WX fs c r):=by
 obtain⟨f,g,rfl,p,hk⟩:=AZ z;have o:=(F.vs f g).2.2.2.2
 have u:Fp f k v st:=by
  rcases hk with rfl | ⟨rfl,w⟩
  ·exact LG o p hs
  ·exact aD6 o p w hs
 obtain⟨i,m,l,q,s,e,t⟩:=u;have y:(i,f.1,m)∈qs fs:=aR.mpr ⟨D7 i f m,XC.mpr ⟨_,aR.mpr ⟨f,g,Fo⟩,q⟩,Fo⟩;refine⟨((i,f.1,m),l),A9.mpr ⟨_,y,?_⟩,e,λr A=>?_⟩
 ·rcases s with rfl | rfl
  ·exact aS ..
  ·exact aO _ (aS ..)
 ·obtain⟨j,b⟩:=bP g;obtain⟨x,d⟩:=uB A;have h:j<r.1.length:=by rw[x];exact(aE.mp b).1
  have a:r.1[j]?=some r.1[j]:=aD h;have:=t _ (d j f _ b a);unfold WX iL;rw[tN F b a Fo,tN F b a rfl];exact this
theorem F0{fs}{fa:List Rw->Str}{a b:Int}(F:iF fs an)(f:FA fs an fa)(i:0<=a)(o:0<=b):∀(t:Tr)(d:Nat)(R:List Rw),lQ fs an t->t.dep<=d->gF fs an R->(fF fs fa a b d R).1<=a*(eE fs t R:Nat)+b*(t.kn:Nat)
|.say z,d,R,ht,_,hR=>by
 refine uL (uU d R) ?_;have:=(ZC (fs:=fs) (f R hR) i).2 _ (aR.mpr ⟨z,ht,Fo⟩);rw[wQ];show _<=a*_+b*((0:Nat):Int);rw[show((0:Nat):Int)=0 from Fo,mF,pT];exact this
|.ask k n v s y m,0,R,_,hd,_=>a9 (show max y.dep m.dep+1<=0 from hd) Fl
|.ask k n v s y m,d+1,R,⟨hq,hs,hy,hm⟩,hd,hR=>by
 have hd:max y.dep m.dep+1<=d+1:=hd;obtain⟨c,w,e,h⟩:=aD7 F hq hs;have A:=F0 F f i o y d (R.filter (iL fs k n v s)) hy Fl (hR.filt _);have B:=F0 F f i o m d (R.filter λr=>!iL fs k n v s r) hm Fl (hR.filt _);have u:=WA (fs:=fs) (fa:=fa) i o d R w
 have x:(fF fs fa a b (d+1) R).1<=b+(fF fs fa a b d (R.filter (iL fs k n v s))).1+(fF fs fa a b d (R.filter λr=>!iL fs k n v s r)).1:=by
  refine uL u ?_
  cases e with
  |false=>
   have j:R.filter (iL fs k n v s)=yR fs c R:=jB λr g=>by rw[h r (hR r g).1,qC]
   have l:(R.filter λr=>!iL fs k n v s r)=nR fs c R:=jB λr g=>by rw[h r (hR r g).1,qC]
   rw[j,l];exact pA _
  |true=>
   have j:R.filter (iL fs k n v s)=nR fs c R:=jB λr g=>by rw[h r (hR r g).1,aFu]
   have l:(R.filter λr=>!iL fs k n v s r)=yR fs c R:=jB λr g=>by rw[h r (hR r g).1,aFu,Bool.not_not]
   rw[j,l];unfold cC;lia
 have q:=tM (fs:=fs) k n v s y m R;have p:(Tr.ask k n v s y m).kn=y.kn+m.kn+1:=rfl;rw[q,p,fT,fT,fT,kD,kD,kD,show((1:Nat):Int)=1 from Fo,wG]
 generalize (fF fs fa a b (d+1) R).1=x0 at *
 generalize (fF fs fa a b d (R.filter (iL fs k n v s))).1=x1 at *
 generalize (fF fs fa a b d (R.filter λr=>!iL fs k n v s r)).1=x2 at *
 generalize a*((eE fs y (R.filter (iL fs k n v s)):Nat):Int)=x3 at *
 generalize a*((eE fs m (R.filter λr=>!iL fs k n v s r):Nat):Int)=x4 at *
 generalize b*((y.kn:Nat):Int)=x5 at *
 generalize b*((m.kn:Nat):Int)=x6 at *
 lia
def aAd{fs}(F:iF fs an):(jL fs).length<=100:=by
 have n5:=F.n5;have a:=iX F fs λg c=>c;have b:=oZ fs;lia
def Z9{dp k:Nat}(b:(qH ((dp:Nat):Int))[k]?=some x):k<dp/\x=.int ((dp-k:Nat):Int):=by
 unfold qH at b;rw[aI]at b;obtain⟨j,a,rfl⟩:=bU.mp b;have c:=(aE.mp a).1;rw[fU]at c;rw[iI c]at a;cases a;exact⟨Fl,by congr 1;lia⟩
def V4(dp:Nat):(qH ((dp:Nat):Int)).length=dp:=by unfold qH;rw[aC,fU];lia
def tH(d:Nat):kQ:=λa Q=>∃(fs:Fs)(an:List Str)(n:Nat),a=[dX fs an,.dict [],.int n]/\iF fs an/\n<d/\∀t,lQ fs an t->t.dep<=n->Q (jG t)
def Wz:kQ:=tH 4
def UA{Q:D->Prop}(h:tH 0 ds Q):False:=by
 obtain⟨_,_,_,_,_,h,_⟩:=h;lia
def Xd:kQ:=λa Q=>∃(fs:Fs)(an:List Str),a=[dX fs an]/\iF fs an/\Q (.list (eN fs))
def Xb:kQ:=λb Q=>∃(fs:Fs)(an:List Str)(t:Tr)(a:List D),b=[dX fs an,jG t,.tuple a]/\iF fs an/\lQ fs an t/\lO fs (.tuple a)=true/\Q (.str (pK fs t a))
def Xc:kQ:=λb Q=>∃(fs:Fs)(an:List Str),b=[dX fs an]/\WJ fs an/\∀a,iF a an->Q (dX a an)
def Xe:kQ:=Kr
def Xf:kQ:=λd Q=>∃(fs:Fs)(an:List Str)(t:Tr)(c:List Rw)(a b:Int),d=[dX fs an,jG t,.list (c.map dQ),.tuple [.int a,.int b]]/\iF fs an/\lQ fs an t/\t.kn<=100/\gF fs an c/\c.length<=60/\0<=a/\a<=1000000/\0<=b/\b<=1000000/\Q (.int (a*(eE fs t c:Nat)+b*(t.kn:Nat)))
def tG(n:Nat):kQ:=λa Q=>∃t:Tr,a=[jG t]/\t.dep<n/\n<=8/\Q (.int (t.dep:Nat))
def Xg:kQ:=tG 4
def T9{Q:D->Prop}(h:tG 0 ds Q):False:=by
 obtain⟨_,_,h,_⟩:=h;lia
def tF(n:Nat):kQ:=λa Q=>∃(fs:Fs)(an:List Str)(t:Tr)(d:Nat),a=[dX fs an,jG t]/\iF fs an/\Fx fs an d t/\d<n/\Q (.bool true)
def Xh:kQ:=tF 4
def T8{Q:D->Prop}(h:tF 0 ds Q):False:=by
 obtain⟨_,_,_,_,_,_,_,h,_⟩:=h;lia
def Xi:kQ:=λb Q=>∃(fs:Fs)(an:List Str)(a:List Rw)(c:Ch)(ns:List Nat),b=[dX fs an,.list (a.map dQ),qD c.1,.str c.2,eS ns]/\iF fs an/\gF fs an a/\a.length<=60/\c∈jL fs/\nD a ns/\Q (.tuple [eS (yN fs a c ns),eS (nN fs a c ns)])
def XP:kQ:=λd Q=>∃(fs:Fs)(an:List Str)(fa:List Rw->Str)(c:List Rw)(a b:Int)(ns:List Nat),d=[dX fs an,.list (c.map dQ),eS ns,.tuple [.int a,.int b]]/\sP fs an fa c a b/\nD c ns/\Q (.int (pF fs fa a (bL c ns)).1)
def XR(w:c7):kQ:=λe Q=>∃(fs:Fs)(an:List Str)(fa:List Rw->Str)(c:List Rw)(a b:Int)(ks:List (List Nat×Nat))(ns:List Nat)(d:Nat),e=[dX fs an,.list (c.map dQ),.tuple [.int a,.int b],mB w (KV fs fa a b c ks),eS ns,.int (d:Nat)]/\sP fs an fa c a b/\nD c ns/\ks.Nodup/\(d=0\/(ns,d)∈ks)/\Q (.int (fF fs fa a b d (bL c ns)).1)
def Ya(w:c7):kQ:=λd Q=>∃(fs:Fs)(an:List Str)(fa:List Rw->Str)(c:List Rw)(a b:Int)(ks:List (List Nat×Nat))(ns:List Nat)(dp:Nat)(x:List Nat×Nat),d=[dX fs an,.list (c.map dQ),.tuple [.int a,.int b],mB w (KV fs fa a b c ks),kZ x]/\sP fs an fa c a b/\CW fs c ns dp ks/\x∈ks/\Q (.bool true)
def Yb:kQ:=λd Q=>∃(fs:Fs)(an:List Str)(fa:List Rw->Str)(c:List Rw)(a b:Int)(ks:List (List Nat×Nat))(ns:List Nat)(dp:Nat),d=[dX fs an,.list (c.map dQ),.tuple [.int a,.int b],.list (ks.map (xI fs fa a b c))]/\sP fs an fa c a b/\c.length<=40/\CW fs c ns dp ks/\Q (.bool true)
noncomputable def MA(N:Nat):Nat->Nat
|0=>0
|k+1=>MA N k+N^k
def CL(N:Nat){k n:Nat}(h:k<=n):MA N k<=MA N n:=by
 induction n with
 |zero=>rw[Nat.le_zero.mp h];exact aN _
 |succ n a=>
  rcases uH n k with g | g
  ·rw[show k=n+1 by lia];exact aN _
  ·exact bJ (a g) (aAt ..)
def Mx(C:Addr)(d:List D)(P:Fs->(List Rw->Str)->List Rw->Int->Int->List Nat->Nat->Prop):Prop:=∃(fs:Fs)(an:List Str)(fa:List Rw->Str)(c:List Rw)(a b:Int)(ns:List Nat)(dp:Nat),d=[oN C fs an c a b,eS ns,.int (dp:Nat)]/\sP fs an fa c a b/\nD c ns/\ns≠[]/\dp<=3/\MA (2*(jL fs).length) dp<=400/\P fs fa c a b ns dp
def Vz(w:c7)(C:Addr):kQ:=λb Q=>Mx C b λfs _ a _ _ ns dp=>∀ks:List (List Nat×Nat),CW fs a ns dp ks->Nd fs a ks->Q (.list (ks.map kZ))
def Vy(w:c7)(C:Addr):kQ:=λd Q=>Mx C d λfs fa c a b ns dp=>∀ks:List (List Nat×Nat),CW fs c ns dp ks->Q (mB w (ks.map λx=>(kZ x,mV (fF fs fa a b x.2 (bL c x.1)))))
def Mz(d:List D)(P:Fs->(List Rw->Str)->List Rw->Int->Int->Nat->Prop):Prop:=∃(fs:Fs)(an:List Str)(fa:List Rw->Str)(c:List Rw)(a b:Int)(dp:Nat),d=[dX fs an,.list (c.map dQ),.int (dp:Nat),.tuple [.int a,.int b]]/\sP fs an fa c a b/\c≠[]/\dp<=3/\MA (2*(jL fs).length) dp<=400/\P fs fa c a b dp
noncomputable def Ii(fs:Fs)(fa:List Rw->Str)(c:List Rw)(a b:Int)(dp:Nat)(ks:List (List Nat×Nat)):D:=.tuple [jG (fF fs fa a b dp c).2,.int (fF fs fa a b dp c).1,.list (ks.map (xI fs fa a b c))]
def Vx(w:c7)(C:Addr):kQ:=λd Q=>Mz d λfs fa c a b dp=>∀ks:List (List Nat×Nat),CW fs c (cR c.length) dp ks->Q (Ii fs fa c a b dp ks)
def Yc:kQ:=λd Q=>Mz d λfs fa c a b dp=>∀ks:List (List Nat×Nat),CW fs c (cR c.length) dp ks->Q (.tuple [Ii fs fa c a b dp ks,.bool false])
def Yd:kQ:=λb Q=>∃(fs:Fs)(an:List Str)(a:List Rw)(dp:Nat),b=[dX fs an,.list (a.map dQ),.int (dp:Nat)]/\iF fs an/\gF fs an a/\a.length<=60/\dp<=3/\MA (2*(jL fs).length) dp<=400/\∀z:Nat,z<=400->Q (.int (z:Nat))
def Lv(fs:Fs)(b:List Rw)(i m:Nat)(a:List (List Nat)):Prop:=a.length<=2*(jL fs).length*i+m/\∀x∈a,nD b x
def Lv.put{fs}{i m:Nat}(L:Lv fs rs i m ls)(a:nD rs x):Lv fs rs i (m+1) (yP ls x):=
 ⟨by have:=GB ls x;have:=L.1;lia,λy b=>(mI.mp b).elim (L.2 y) (λe=>e▸a)⟩
def Lv.mono{fs}{i m n:Nat}(L:Lv fs rs i m ls)(h:m<=n):Lv fs rs i n ls:=⟨by have:=L.1;lia,L.2⟩
def BH:kQ:=λa Q=>∃ns:List Int,a=[.list (ns.map aQ)]/\ns.length<=63/\Q (.bool true)
def UF(a:List Nat):decide ((1:Int)<=((a.map λ(i:Nat)=>aQ (i:Int)).length:Int))=!a.isEmpty:=by
 cases a with
 |nil=>rfl
 |cons z a=>rw[aC];exact a8 (by simp only[dB];lia)
def WC(b:Bool):L2.atI [aW "no",.str "yes"] (if b then 1 else 0)=some (.str (if b then "yes" else "no")):=by cases b<;>rfl
def BW{f:Type}{a:List f}(nd:a.Nodup){i j:Nat}{c}(d:a[i]?=some c)(e:a[j]?=some c):i=j:=by
 obtain⟨a1,a2⟩:=aE.mp d;obtain⟨b1,b⟩:=aE.mp e;exact(BA nd).mp (a2.trans b.symm)
noncomputable def RB(a:List Tr):Nat:=(a.map λp=>p.nodes).sum
noncomputable def Fq(a:List Tr):Nat:=(a.map λp=>p.kn).sum
def FH(a bs:List Tr):RB (a++bs)=RB a+RB bs:=by unfold RB;rw[bA,C6]
def MY(a bs:List Tr):Fq (a++bs)=Fq a+Fq bs:=by unfold Fq;rw[bA,C6]
theorem MX:∀a:List Tr,a.length<=RB a
|[]=>aN _
|t::a=>by
 have:=MX a;have:=t.nodes_pos;show a.length+1<=t.nodes+RB a;lia
def HM{fs}(e:q∈qs fs){i:Nat}(a:[aW "yes",aW "no"][i]?=some x):∃st:Str,(HN q)[i]?=some (q,st)/\x=.str st/\(q,st)∈jL fs:=by
 have f:i<2:=(aE.mp a).1;have b:∀c∈HN q,c∈jL fs:=λc d=>A9.mpr ⟨q,e,d⟩;rcases(show i=0\/i=1 by lia)with rfl | rfl
 ·cases a;exact⟨"yes",Fo,Fo,b _ (aS ..)⟩
 ·cases a;exact⟨"no",Fo,Fo,b _ (aO _ (aS ..))⟩
def NW(a:List Nat):decide ((((a.map λ(i:Nat)=>aQ (i:Int)).length:Nat):Int)>0)=!a.isEmpty:=by
 cases a with
 |nil=>rfl
 |cons z a=>rw[aC];exact a8 (by simp only[dB];lia)
noncomputable def DZ(fs:Fs)(t:Tr)(x:D):Bool:=match x with | .tuple [.tuple cs,.str b]=>!decide (pK fs t cs=b) | _=>false
def DY(fs:Fs)(t:Tr)(a:List Rw):(((a.map dQ).filter (DZ fs t)).map id).length=eE fs t a:=by
 rw[nH,uK,aC];rfl
def JZ{b:Type}{l:List b}{f:b->D}{Q:D->Prop}(h:Q (.bool true))(d:∀x∈l,f x=.bool true:=by intro _ _;rfl):La vP (λx y=>!A1 x y) (.bool false) (.list (l.map f)) Q:=by
 have e:l.map f=l.map λ_=>oM true:=iH λx a=>d x a;rw[e]
 have c:A1 (.bool false) (.list (l.map λ_=>oM true))=false:=by
  show((l.map λ_=>oM true).any λy=>dW y (.bool false))=false;rw[List.any_map,WW];intro x _;exact bN
 refine⟨⟨B0 λx a=>by obtain⟨_,_,rfl⟩:=aR.mp a;rfl,Fo,bJ (CZ _ _) Fk⟩,?_⟩;show Q (.bool (!A1 _ _));rw[c];exact h
def ND:List Sl->Prop
|[]=>True
|s::l=>(∀hs a,s≠.dic hs a)/\ND l
def nv(hs:List Int)(a:List (D×D)):Sl.val d≠.dic hs a:=λz=>by cases z
def nu(hs:List Int)(a:List (D×D)):Sl.un≠.dic hs a:=λz=>by cases z
theorem DX{fs}{fa:List Rw->Str}(a:FA fs an fa)(b:gF fs an rs){d:Nat}:∀(n:Nat)(x:Nat×Nat)(t:Tr),lQ fs an t->t.dep<=d->(∀z∈qE fs fa rs n x t,lQ fs an z.2/\z.2.dep<=d)/\(qE fs fa rs n x t).length<=n+1
|0,x,t,h1,h2=>⟨λz hz=>by rw[dH.mp hz];exact⟨h1,h2⟩,aN _⟩
|n+1,x,t,h1,h2=>by
 have c:=DX a b n (fX fs fa t rs) (lw fs fa ((fX fs fa t rs).2:Nat) ((fX fs fa t rs).1:Nat) t rs).2 (D8 a _ _ t rs h1 b).1 (bJ (yK ..) h2);show(∀z∈(x,t)::(if U5 t=true then[]else _),_)/\((x,t)::(if U5 t=true then[]else _)).length<=_;split
 ·exact⟨λz hz=>by rw[dH.mp hz];exact⟨h1,h2⟩,by show 0+1<=_;lia⟩
 ·refine⟨λz hz=>?_,aAr c.2⟩;rcases aY.mp hz with rfl | hz
  ·exact⟨h1,h2⟩
  ·exact c.1 z hz
noncomputable def Kp:D->D
|.tuple [_,b]=>b
|d=>d
def Xv{l m:List Int}(c:l.Pairwise (·<·))(d:m.Pairwise (·<·))(h:∀z,z∈l↔z∈m):l=m:=
 iQ.eq_of_pairwise (le:=(·<·)) (λa b _ _ e f=>by lia) c d ((List.perm_ext_iff_of_nodup (c.imp λh=>aMs h) (d.imp λh=>aMs h)).mpr h)
noncomputable def Ia(a:Str)(x:D):Bool:=match x with | .tuple [_,.str b]=>decide (b=a) | _=>false
def VH(a:Str)(b:List Rw):(((b.map dQ).filter (Ia a)).map id).length=rG b a:=by
 rw[nH,uK,aC,<- List.countP_eq_length_filter];rfl
def LV{n k:Nat}{p:D->Bool}(hk:k<n)(e:p (.int (k:Nat))=true)(d:∀j:Nat,j<k->p (.int (j:Nat))=false):((eQ n).filter p)[0]?=some (.int (k:Nat)):=by
 rw[<- List.head?_eq_getElem?,List.head?_filter,List.find?_eq_some_iff_getElem];have a:(eQ n).length=n:=gZ n;refine⟨e,k,by rw[a];exact hk,?_,λj c=>?_⟩
 ·have:=(iB (aD (l:=eQ n) (i:=k) (by rw[a];exact hk))).2;exact this
 ·have b:j<(eQ n).length:=by rw[a];lia
  rw[(iB (aD (l:=eQ n) (i:=j) b)).2,d j c];rfl
noncomputable def Jh(a:List Int)(m:Int)(x:D):Bool:=match x with | .int i=>decide (a.getD i.toNat (m+1)=m) | _=>false
end K91
namespace K91
set_option maxHeartbeats 4000000
open PySem L2 TL
local macro_rules | `(tactic| walk_at "rd")=>`(tactic| simp only[Q2,MM,gI,FL,PH,YK,SA,sT,Ga,YF,jD,zY,eC,KB,Jz,Hw,Jy,nM,Gi,IW,IV,Jq,Nw,L5,V0,J0,pZ,CO,Hv,Jo,Hi,gP,fI,Ji,Jj,VP,Hx,Hh,Hg,Fw,Yi,Gg,Ge,Nu,Yj,f1,f2,Hz,GD,Md,Of,Oh,Me,Qk,Mc,Qo,mL,bE,lV,dB,C8,BB,aAv,E7,List.getElem?_cons_zero,KA,List.set_cons_zero,List.set_cons_succ,Option.some.injEq,Sl.val.injEq,Sl.own.injEq,exists_eq_left',exists_eq_left,aQ.injEq,oM.injEq,aW.injEq,gE.injEq,KE.injEq,and_true,true_and,eH,ak,h7,xU,Bool.not_false,↓reduceIte,Nat.reduceAdd,Nat.reduceSub,Nat.reduceLeDiff,Int.reduceNeg,reduceCtorEq])
def SZ:bX ["question","field"] ["question","field"] (aZ (top 21)):=kT
def Sy:bX ["form","question"] ["form","question"] (aZ (top 19)):=kT
def Sz:bX ["question","stray","field"] ["question","stray","field"] (aZ (top 20)):=kT
def Sx:bX ["form","question","stray","case","number"] ["form","question","stray","case"] (aZ (top 18)):=kT
def Tc:bX ["side","sides"] ["side","sides"] (aZ (top 23)):=kT
def Ta:bX ["form","question","stray","rows","sides"] ["form","question","stray","rows"] (aZ (top 22)):=kT
def Px:bX ["form","rows","told"] ["form","rows"] (aZ (top 5)):=kT
def Py:bX ["form","rows","counts"] ["form","rows"] (aZ (top 6)):=kT
def Qb:bX ["one","other","rest"] ["one","other"] (aZ (top 9)):=kT
def Qa:bX ["top","bottom","shared"] ["top","bottom"] (aZ (top 8)):=kT
def Pz:bX ["form","rows","many"] ["form","rows"] (aZ (top 7)):=kT
def Tt:bX ["rows","numbers"] ["rows","numbers"] (aZ (top 47)):=kT
def Tw:bX ["form","rows"] ["form","rows"] (aZ (top 51)):=kT
def Tx:bX ["form","knot","rows"] ["form","knot","rows"] (aZ (top 52)):=kT
def Sv:bX ["field","name","values","told_by_is","told_by_upto"] ["field"] (aZ (top 16)):=kT
def Su:bX ["form","questions","field"] ["form"] (aZ (top 15)):=kT
def Sw:bX ["form","choices","question"] ["form"] (aZ (top 17)):=kT
def Qc:bX ["one","other"] ["one","other"] (aZ (top 10)):=kT
def Ss:bX ["fractions","common","found"] ["fractions"] (aZ (top 12)):=kT
def Td:bX ["sides","fewest"] ["sides","fewest"] (aZ (top 24)):=kT
def Mp:bX ["form","rows","least","told","question","stray","sides","doubts","bottom"] ["form","rows","least"] (aZ (top 46)):=kT
def Pb:bX ["one","other"] ["one","other"] (aZ (top 11)):=kT
def Tu:bX ["form","rows","least","told"] ["form","rows","least"] (aZ (top 48)):=kT
def Tv:bX ["form","rows","deep","least","found","sides","parts"] ["form","rows","deep","least"] (aZ (top 49)):=kT
def Tf:bX ["tree"] ["tree"] (aZ (top 29)):=kT
def Tg:bX ["knot","side"] ["knot","side"] (aZ (top 30)):=kT
def Us:bX ["form","tree","case","way","part","side"] ["form","tree","case"] (aZ (top 32)):=kT
def Ut:bX ["form","tree","case"] ["form","tree","case"] (aZ (top 33)):=kT
def Uv:bX ["tree","place","part","side"] ["tree","place"] (aZ (top 35)):=kT
def Uu:bX ["form","tree","case"] ["form","tree","case"] (aZ (top 34)):=kT
def Ur:bX ["tree"] ["tree"] (aZ (top 31)):=kT
def Uw:bX ["form","tree","rows","prices","slips"] ["form","tree","rows","prices"] (aZ (top 38)):=kT
def Tz:bX ["price"] ["price"] (aZ (top 53)):=kT
def TC:bX ["form","tree","rows","price"] ["form","tree","rows","price"] (aZ (top 54)):=kT
def TZ:bX ["form","tree","rows","prices","leaf","leaf_cost","sides","yes","no","cost"] ["form","tree","rows","prices"] (aZ (top 55)):=kT
def Uc:bX ["form","tree","rows","sides","yes","no","slips","saved"] ["form","tree","rows"] (aZ (top 58)):=kT
def Ub:bX ["form","tree","rows","prices","lowest","price"] ["form","tree","rows"] (aZ (top 57)):=kT
def Ua:bX ["form","tree","rows","price","part","told"] ["form","tree","rows"] (aZ (top 56)):=kT
def Pw:bX ["self","numbers","told","question","stray","sides","yes","no"] ["self","numbers"] (aZ (vS (top 26) 2)):=kT
def Pu:bX ["self","form","rows","prices"] ["self","form","rows","prices"] (aZ (vS (top 26) 0)):=kT
def Pv:bX ["self","numbers","rows","slips"] ["self","numbers"] (aZ (vS (top 26) 1)):=kT
def Te:bX ["form","choice","rows"] ["form","choice","rows"] (aZ (top 27)):=kT
def Tq:bX ["sets","known","numbers","deep","told","question","stray","yes","no","one","other","cost"] ["sets","known","numbers","deep"] (aZ (top 43)):=kT
def Ts:bX ["sets","known","numbers","deep"] ["sets","known","numbers","deep"] (aZ (top 44)):=kT
def Va:bX ["sets","level","sides","numbers","question","stray","yes","no"] ["sets","level"] (aZ (top 42)):=kT
def Uz:bX ["sets","numbers","deep","met","level","left","found"] ["sets","numbers","deep"] (aZ (top 41)):=kT
def Uy:bX ["sets","numbers","deep","known","key"] ["sets","numbers","deep"] (aZ (top 40)):=kT
def Ux:bX ["form","rows","deep","prices","sets","known","top"] ["form","rows","deep","prices"] (aZ (top 39)):=kT
def Ud:bX ["_law_cell","_law_k","_law_turn"] ["_law_cell","_law_k"] (aZ (top 60)):=kT
def Ue:bX ["_law_script","_law_k","_law_seed"] ["_law_script","_law_k"] (aZ (top 61)):=kT
def Ug:bX ["_law_drawn_here","_law_at","_law_many","_law_letters","_law_word","_law_turn","_law_names_here","_law_place","_law_k","_law_sign"] ["_law_drawn_here","_law_at","_law_many"] (aZ (top 63)):=kT
def Uf:bX ["_law_cell","_law_many","_law_found","_law_left","_law_k"] ["_law_cell","_law_many"] (aZ (top 62)):=kT
def Uh:bX ["_law_script","_law_drawn_here","_law_names_here","_law_fields","_law_k","_law_bits"] ["_law_script"] (aZ (top 64)):=kT
def Ui:bX ["_law_form_here","_law_bits","_law_case_here","_law_k","_law_values"] ["_law_form_here","_law_bits"] (aZ (top 65)):=kT
def Uj:bX ["_law_form_here","_law_bits","_law_case_here","_law_number","_law_k"] ["_law_form_here","_law_bits"] (aZ (top 66)):=kT
def Up:bX ["_law_form_here","_law_question","_law_stray","_law_case_here","_law_kind","_law_name","_law_value","_law_k","_law_values"] ["_law_form_here","_law_question","_law_stray","_law_case_here"] (aZ (top 71)):=kT
def Uk:bX ["_law_script","_law_form_here","_law_many"] ["_law_script","_law_form_here","_law_many"] (aZ (top 67)):=kT
def Wb:bX ["_law_form_here","_law_found","_law_name","_law_values","_law_value","_law_k"] ["_law_form_here"] (aZ (top 74)):=kT
def Ul:bX ["_law_numbers"] ["_law_numbers"] (aZ (top 68)):=kT
def Um:bX ["_law_form_here","_law_number","_law_name","_law_values","_law_kind"] ["_law_form_here","_law_number"] (aZ (top 69)):=kT
def Uo:bX ["_law_form_here","_law_numbers","_law_deep_here","_law_number","_law_question","_law_yes"] ["_law_form_here","_law_numbers","_law_deep_here"] (aZ (top 70)):=kT
def Uq:bX ["_law_form_here","_law_tree_here","_law_case_here"] ["_law_form_here","_law_tree_here","_law_case_here"] (aZ (top 72)):=kT
def Wa:bX ["_law_form_here","_law_many","_law_field"] ["_law_form_here"] (aZ (top 73)):=kT
def We:bX ["_law_tree_here"] ["_law_tree_here"] (aZ (top 77)):=kT
def Wf:bX ["_law_form_here","_law_tree_here"] ["_law_form_here","_law_tree_here"] (aZ (top 78)):=kT
def Wc:bX ["_law_form_here","_law_rows_here","_law_counts"] ["_law_form_here","_law_rows_here"] (aZ (top 75)):=kT
def Wd:bX ["_law_form_here","_law_tree_here","_law_rows_here","_law_prices","_law_slips","_law_knots","_law_left","_law_part"] ["_law_form_here","_law_tree_here","_law_rows_here","_law_prices"] (aZ (top 76)):=kT
def Wg:bX ["_law_form_here","_law_rows_here","_law_question","_law_stray","_law_numbers","_law_ones","_law_others","_law_number"] ["_law_form_here","_law_rows_here","_law_question","_law_stray","_law_numbers"] (aZ (top 79)):=kT
def Wh:bX ["_law_form_here","_law_rows_here","_law_numbers","_law_prices","_law_some","_law_answer"] ["_law_form_here","_law_rows_here","_law_numbers","_law_prices"] (aZ (top 80)):=kT
def Wi:bX ["_law_form_here","_law_rows_here","_law_prices","_law_found","_law_numbers","_law_deep_here"] ["_law_form_here","_law_rows_here","_law_prices","_law_found","_law_numbers","_law_deep_here"] (aZ (top 81)):=kT
def Wj:bX ["_law_form_here","_law_rows_here","_law_prices","_law_found","_law_key","_law_numbers","_law_deep_here","_law_question","_law_stray","_law_ones","_law_others","_law_one","_law_other"] ["_law_form_here","_law_rows_here","_law_prices","_law_found","_law_key"] (aZ (top 82)):=kT
def Vb:bX ["_law_form_here","_law_rows_here","_law_prices","_law_table","_law_found","_law_numbers","_law_deep_here","_law_cost_here"] ["_law_form_here","_law_rows_here","_law_prices","_law_table"] (aZ (top 83)):=kT
def Vc:bX ["_law_form_here","_law_rows_here","_law_deep_here","_law_prices","_law_told_here","_law_many","e"] ["_law_form_here","_law_rows_here","_law_deep_here","_law_prices"] (aZ (top 84)):=kT
def Vd:bX ["_law_form_here","_law_rows_here","_law_deep_here","_law_level","_law_many","_law_down","_law_further","_law_numbers","_law_question","_law_stray","_law_ones","_law_others"] ["_law_form_here","_law_rows_here","_law_deep_here"] (aZ (top 85)):=kT
def aC7:bX ["_law_script","_law_form_here","_law_bits","_law_rows_here","_law_deep_here","_law_slip","_law_prices","_law_told_here","_law_many","_law_tree_here","_law_cost_here","_law_table","_law_others","_law_cell"] ["_law_script"] (aZ (top 86)):=kT
section
variable{P:cM}{w:c7}{K:aM}{mg:Str->Option Value}{base:Heap}{uw ux uy wf wg wh wj wk wl wm js jt ju jv jw jx jy jz ka kb kc ke kg kh G ki kj kl km kq kr kt ku kx la lf lg lh li I lj ll lm ln L lq lr N lu lx ly lz ma md me mf mh mi O mj ml mm mo mq mr X Y ms mu mv mw mx my mz fw:Addr}{wn wo wp wq wr wt wu wv ww wx nh ni nj nk nn nq nr nw ny nz oe og oh oi Z oj ol om on oo oq ot ou ow ox oy iz oz ph gj pi pj pq pr gk pu py gl pz qa qb qc qd qe qf qg qh qi gm qj qk ql qm qo qp gn gp qq qr qt qu qv qw qx B:iV}{A:Addr}{t_SIDES:Addr}{C:Tok}(T:Txt K mg uw ux uy wf wg wh wj wk wl wm js jt ju jv jw jx jy jz ka kb kc ke kg kh G ki kj kl km kq kr kt ku kx la lf lg lh li I lj ll lm ln L lq lr N lu lx ly lz ma md me mf mh mi O mj ml mm mo mq mr X Y ms mu mv mw mx my mz fw wn wo wp wq wr wt wu wv ww wx nh ni nj nk nn nq nr nw ny nz oe og oh oi Z oj ol om on oo oq ot ou ow ox oy iz oz ph gj pi pj pq pr gk pu py gl pz qa qb qc qd qe qf qg qh qi gm qj qk ql qm qo qp gn gp qq qr qt qu qv qw qx B A t_SIDES C)
include T
def Sg:dU P w K mg base hW 1 jz nw ["question","field"] (cG K Vk):=by
 refine lZ T.D_17.F SZ λj nd m Q h=>?_;obtain⟨k,n,v,f,rfl,g,l,o,h⟩:=h;refine⟨_,(aP (gT (dO jI mO (bD aX cA (aH 0) aK) eM)
 (bC (cO (eK (aA (bD aX cA (aH 0) aK) aL))))
 fL)
 (bC (cO (jW mW wX (bD aX cA (aH 1) aK) mX (jT (cJ cZ gU (xH (bD aX cA (aH 1) aK) (aA (bD aX cA (aH 0) aK) aL) (λh d=>kJ mE mD mC (wZ j) h d)) aK)))))),?_⟩
 show gI _ _ _ [.val (.tuple [.str k,.str n,.str v]),.val (kI f)];unfold B4 at h;refine fW (λb=>b=decide (k="is")) (λq i=>⟨_,Fo,_,Fo,i _ Fo⟩) (λc=>?_) λa=>?_
 ·rw[a7 (b8 c.symm)]at h;exact⟨_,Fo,_,Fo,aF Fo,h⟩
 ·try unfold jD
  dsimp only;rw[a6 (i7 a.symm)]at h;refine⟨_,Fo,_,Fo,_,Fo,_,Fo,_,Fo,_,Fo,_,Fo,_,_,Fo,uP g l,?_⟩;show Q (.tuple (kU (f.2.map aW) none (some ((f.2.idxOf v:Int)+1))));have e:((f.2.idxOf v:Nat):Int)+1=((f.2.idxOf v+1:Nat):Int):=rfl;rw[e,oB,nV];exact h
def Se:dU P w K mg base hW 1 jx nq ["form","question"] (cG K Vi):=by
 refine lZ T.D_15.F Sy λp nd s Q h=>?_;obtain⟨fs,an,k,n,v,i,j,rfl,F,c,a,h⟩:=h;refine⟨_,(bC (cO (EI (el (fr:=[none]) (N':=["field"]) (eW (bD aX cA (aH 0) aK)) (λb=>⟨(dJ (pk 0)),iR,(bD aX cA (aH 0) aK)⟩)) (aA (bD aX cA (aH 1) aK) aL) (λh l=>kJ bT EY EW (D6 p) h l)))),?_⟩;have n5:=F.n5;have m:=(aE.mp c).1;have g:(fs.map (·.1)).idxOf n=j:=by rw[<- a];exact NU F c
 have d:n∈fs.map (·.1):=aR.mpr ⟨i,aU c,a⟩;show GF _ _ _ Q;dsimp only[GF];refine jK (ts:=fs.map kI) (λR h=>⟨_,Fo,_,Fo,_,Fo,h⟩) fst (by rw[aC];lia) (λx q r o=>?_) ?_
 ·obtain⟨f,t,rfl⟩:=aR.mp r;exact⟨_,Fo,_,Fo,o⟩
 ·have e:(fs.map kI).map fst=(fs.map (·.1)).map aW:=by rw[bM,bM];rfl
  rw[e];have:=uP F.nd.2.1 d;rw[g]at this;exact⟨_,Fo,_,Fo,_,Fo,_,j,Fo,this,Fl,h⟩
def Sf:dU P w K mg base hW 2 jy nr ["question","stray","field"] (cG K Vj):=by
 refine lZ T.D_16.F Sz λd nd i Q h=>?_;obtain⟨k,n,v,st,f,rfl,c,g,a,h⟩:=h;refine⟨_,(bC (cO (cJ cZ gU (cd (Sg T) T.D_17 d (aA (aH 0) (aA (aH 2) aL))) (B9 (dO jI mO (aH 1) eM) (eK (aA pJ aL)) (eK aL))))),?_⟩;have b:=VE (k:=k) (v:=v) a;refine⟨_,Fo,_,Fo,k,n,v,f,Fo,c,g,a,_,Fo,?_⟩;unfold vE at h;show(if decide (st="yes")=true then _ else _);by_cases e:st="yes"
 ·rw[a7 (a8 e)];rw[a7 e]at h;exact⟨aF Fo,by rw[aC];show _+1<=_;lia,h⟩
 ·rw[a6 (by simpa using e)];rw[a6 e]at h;exact⟨aF Fo,by rw[aC];show _+0<=_;lia,h⟩
def T1:dU P w K mg base hW 3 jw nn ["form","question","stray","case"] (cG K Mq):=by
 refine lZ T.D_14.F Sx λt nd R Q h=>?_;obtain⟨fs,an,k,n,v,st,e,rfl,F,s,u,y,h⟩:=h;refine⟨_,(aP (ss 4 nd (cd (Se T) T.D_15 t (aA (aH 0) (aA (aH 1) aL))))
 (bC (cO (B9 (dO (TQ t) Le (bD aX cA (aH 3) (aH 4)) (cd (Sf T) T.D_16 t (aA (aH 1) (aA (aH 2) (aA (bD aX cA (bD aX cA (aH 0) aK) (aH 4)) aL))))) eM eM)))),?_⟩
 show gI _ _ _ [.val (dX fs an),.val (.tuple [.str k,.str n,.str v]),.val (.str st),.val (.tuple e),.un];obtain⟨H,p⟩:=uB y;obtain⟨d,a,f,i,M⟩:=AZ s;obtain⟨j,g⟩:=bP a;have J:=(aE.mp g).1;have b:e[j]?=some e[j]:=aD Fl
 generalize E:e[j]=c at b
 have l:L2.atI e (j:Int)=some c:=L2.fH b;have r:L2.atI (fs.map kI) (j:Int)=some (kI d):=L2.fH (by rw[aI,g];rfl);have hok:=p j d c g b;rw[tN F g b f]at h
 have o:Cd c:=by
  cases c with
  |none=>exact(M2 (n:=8) (m:=0)).cd Fk
  |str z=>exact(nY (F.vals a z (b8 hok)) (n:=8) (m:=0) (aN _)).cd Fk
  |_=>cases hok
 refine cK (.int (j:Int)) (λq s=>⟨_,Fo,_,Fo,fs,an,k,n,v,d,j,Fo,F,g,f,s⟩) ?_;refine⟨_,Fo,_,Fo,_,l,_,Fo,_,Fo,_,Fo,_,Fo,_,Fo,_,r,k,n,v,st,d,Fo,F.vals a,i,(F.vs d a).2.1,JP (TV (F.vals a) i o) ?_⟩;rw[<- U8 u hok]at h;show(if A1 c (.tuple (vE k v st d))=true then _ else _)
 cases x:A1 c (.tuple (vE k v st d))with
 |true=>rw[a7 rfl];rw[x,a7 rfl]at h;exact h
 |false=>rw[a6 Fk];rw[x,a6 Fk]at h;exact h
def Lg:dU P w K mg base hW 1 kb nz ["side","sides"] (kW K Vm):=by
 refine Fv T.D_19.F Tc λl nd j Q h=>?_;obtain⟨w,ss,rfl,k,h⟩:=h;refine⟨_,(bC (AM (fl (fr:=[none,none,some 0]) (N':=["number","found","side"]) (ZM (aA (aH 1) aL) (λh=>YV Fo T.b_enumerate h)) (λb=>⟨(oA (lD Fo (dR (pk 0) (dR (pk 1) jS)))),(tX (dO jI mO (aH 1) (aH 2))),(aH 0)⟩)))),?_⟩;rw[<- JS]at h;refine VO (US (ts:=zP (ss.map aW)) (λR h=>⟨_,Fo,_,Fo,h⟩) (Gm w) Hy (by rw[rE,aC];lia) (λx g=>?_) (λa b q f e=>?_) (λa b q f e=>?_) h)
 ·rw[EJ]at g;obtain⟨y,_,rfl⟩:=aR.mp g;exact⟨_,_,Fo⟩
 ·obtain⟨i,d⟩:=bP f;have c:=(aE.mp d).1;rw[rE,aC]at c;rw[yT (a:=.str ss[i]) (by rw[aI,aD c];rfl)]at d;cases d;exact⟨_,Fo,_,Fo,e⟩
 ·exact⟨_,Fo,e⟩
def T0:dU P w K mg base hW 4 ka ny ["form","question","stray","rows"] (uQ K Vl):=by
 refine Np T.D_18.F Ta λc nd p Q h=>?_;obtain⟨fs,an,k,n,v,st,f,rfl,F,m,g,hok,d,h⟩:=h;refine⟨_,(aP (pD (i:=4) (fr:=[none,some 0,some 1,some 2]) (N':=["row","form","question","stray"]) (eW (aH 3)) (λb=>⟨(dJ (pk 0)),iR,(cd (T1 T) T.D_14 c (aA (aH 1) (aA (aH 2) (aA (aH 3) (aA (bD aX cA (aH 0) aK) aL)))))⟩) (λl j=>nS (show qZ _ (aZ (top 22)) ["form","question","stray","rows","sides"] ["row","form","question","stray"] [none,some 0,some 1,some 2]=true from by decide +kernel) nd Fo (by first | exact v7 Fo | exact r8 Fo) Fo l j Fo))
 (bC (HW (cF (Lg T) T.D_19 c (aA eM (aA (aH 4) aL))) (cF (Lg T) T.D_19 c (aA eM (aA (aH 4) aL)))))),?_⟩
 show gI _ _ _ [.val (dX fs an),.val (.tuple [.str k,.str n,.str v]),.val (.str st),.val (.list (f.map dQ)),.un];have e:(f.map dQ).map (Jd fs k n v st)=(f.map λr=>fN fs k n v st r.1).map aW:=by rw[bM,bM];rfl
 refine cK (.list ((f.map λr=>fN fs k n v st r.1).map aW)) (λq a=>?_) ?_
 ·refine jK (ts:=f.map dQ) (λR h=>⟨_,Fo,_,Fo,h⟩) (Jd fs k n v st) (by rw[aC];lia) (λx q o a=>?_) ?_
  ·obtain⟨r,c,rfl⟩:=aR.mp o;exact⟨_,Fo,_,Fo,_,Fo,_,Fo,_,Fo,fs,an,k,n,v,st,r.1,Fo,F,m,g,(hok r c).1,a⟩
  ·rw[e];exact a
 rw[<- NA,<- NA]at h;exact⟨_,Fo,"yes",_,Fo,by rw[aC];exact d,_,Fo,"no",_,Fo,by rw[aC];exact d,h⟩
def Ij:dU P w K mg base hW 1 wf wq ["form","rows"] (kW K Pf):=by
 refine Fv T.D_3.F Px λf nd p Q h=>?_;obtain⟨fs,an,c,rfl,F,hok,l,h⟩:=h;refine⟨_,(aP (ss 2 nd (el (fr:=[none]) (N':=["row"]) (eW (aH 1)) (λb=>⟨(dJ (pk 0)),iR,(bD aX cA (aH 0) aK)⟩)))
 (bC (AM (fl (fr:=[none,some 2]) (N':=["answer","told"]) (eW (bD aX cA (aH 0) aK)) (λb=>⟨(dJ (pk 0)),iR,(QL (aH 1) (aA (aH 0) aL) (λh g=>kJ bT PySem.F.slot_list_count PySem.F.type_list_count (P1 f) h g))⟩))))),?_⟩
 show gI _ _ _ [.val (dX fs an),.val (.list (c.map dQ)),.un];have a4:=F.a4;refine cK (.list (c.map λr=>aW r.2)) (λq d=>?_) ?_
 ·refine jK (ts:=c.map dQ) (λR h=>⟨_,Fo,_,Fo,h⟩) X7 (by rw[aC];lia) (λx q i d=>?_) ?_
  ·obtain⟨r,f,rfl⟩:=aR.mp i;exact⟨_,Fo,_,Fo,d⟩
  ·rw[bM];exact d
 have k:=UV (ys:=c.map λr=>r.2) λy o=>by
  obtain⟨r,f,rfl⟩:=aR.mp o;exact F.an.2.1 _ (hok r f).2
 rw[bM]at k;refine VO (jK (ts:=an.map aW) (λR h=>⟨_,Fo,_,Fo,_,Fo,h⟩) (V7 c) (by rw[aC];lia) (λx q i d=>?_) ?_)
 ·obtain⟨a,g,rfl⟩:=aR.mp i;have j:=nY (F.an.2.1 a g) (n:=8) (m:=0) (aN _);refine⟨_,Fo,_,Fo,_,Fo,_,Fo,⟨k.1,j.lay,by have:=j.depth;lia⟩,?_⟩;rw[KQ];exact d
 ·show Q _
  have e:(an.map aW).map (V7 c)=(kB an c).map aQ:=by
   unfold kB;rw[bM,bM];rfl
  rw[e];exact h
def Ik:dU P w K mg base hW 2 wg wr ["form","rows"] (cG K Kr):=by
 refine lZ T.D_4.F Py λp nd y Q h=>?_;obtain⟨fs,an,a,rfl,F,hok,o,h⟩:=h;refine⟨_,(aP (ss 2 nd (rD (cF (Ij T) T.D_3 p (aA (aH 0) (aA (aH 1) aL)))))
 (bC (cO (bD aX cA (bD aX cA (aH 0) aK) (EI (aH 2) (aA (cB V9 (aA (aH 2) aL) (qI Fo) T.b_max GN) aL) (λh r=>kJ bT EY EW (D6 p) h r)))))),?_⟩
 show gI _ _ _ [.val (dX fs an),.val (.list (a.map dQ)),.un];have a2:=F.a2;refine cK (.list ((kB an a).map aQ)) (λq x=>⟨_,Fo,_,Fo,fs,an,a,Fo,F,hok,o,x⟩) ?_
 have n:kB an a≠[]:=λz=>by
  have:=e8 gC z;unfold kB at this;rw[aC]at this;simp at this;rw[this]at a2;simp at a2
 refine⟨_,Fo,_,Fo,_,Fo,_,Fo,_,Fo,_,Fo,n,λm v c=>?_⟩;obtain⟨j,l,g⟩:=JO (kB an a) m v;have u:=(aE.mp l).1;have s:(kB an a).length=an.length:=by unfold kB;rw[aC]
 have a4:=F.a4;have d:an[j]?=some an[j]:=aD Fl;have f:(kB an a)[j]?=some ((rG a an[j]:Nat):Int):=by unfold kB;rw[aI,d];rfl
 rw[l]at f;have E:m=((rG a an[j]:Nat):Int):=c5 f;refine⟨_,j,Fo,PZ l g,Fl,_,L2.fH (by rw[aI,d];rfl),h _ ⟨j,d,λi b k=>?_,λi b t k=>?_⟩⟩
 ·have:=c ((rG a b:Nat):Int) (aU (i:=i) (by unfold kB;rw[aI,k];rfl));lia
 ·have e:(kB an a)[i]?=some ((rG a b:Nat):Int):=by unfold kB;rw[aI,k];rfl
  have H:=c _ (aU e);have J:((rG a b:Nat):Int)≠m:=λz=>g i t (by rw[e,z]);lia
def Kc:dU P w K mg base hW 1 wk wv ["one","other"] (cG K Ph):=by
 refine lZ T.D_7.F Qb λo nd n Q h=>?_;obtain⟨a,b,rfl,h⟩:=h;refine⟨_,(aP (tE (dO oI lF (aH 1) aK)
 (aP (ss 2 nd (cJ gK oY (aH 0) (aH 1)))
 (aP (ss 0 nd (aH 1))
 (bC (ss 1 nd (aH 2))))) (λk j=>tP v8 k j))
 (bC (cO (aH 0)))),?_⟩
 show gI _ _ _ [.val (.int a),.val (.int b),.un];refine qV (λy l=>∃(x:Nat)(g:Sl),l=[.val (.int x),.val (.int y),g]/\x.gcd y=a.gcd b) b ⟨a,_,Fo,Fo⟩ λy m i=>?_;obtain⟨x,g,rfl,d⟩:=i;refine⟨decide (0<y),λq c=>⟨_,Fo,?_⟩,?_⟩
 ·show q (decide ((y:Int)>0));have:decide ((y:Int)>0)=decide (0<y):=by rw[ay];lia
  rw[this];exact c
 by_cases e:0<y
 ·rw[a7 (a8 e)];refine cK (.int ((x%y:Nat):Int)) (λq c=>⟨_,Fo,_,Fo,(show(0:Int)<(y:Int) by lia),?_⟩) ?_
  ·rw[<- Int.natCast_emod];exact c
  refine cK (.int y) (λq c=>⟨_,Fo,c⟩) ?_;refine mH (.int ((x%y:Nat):Int)) (λq c=>⟨_,Fo,c⟩) ⟨x%y,WQ _ e,y,_,Fo,?_⟩;rw[<- d,aMr x y,Nat.gcd_rec y x,aMr]
 ·rw[a6 (by simpa using e)];have f:y=0:=by lia
  subst f;rw[Nat.gcd_zero_right]at d;subst d;exact⟨_,Fo,h⟩
def Il:dU P w K mg base hW 2 wj wu ["top","bottom"] (cG K Kq):=by
 refine lZ T.D_6.F Qa λk nd l Q h=>?_;obtain⟨a,b,rfl,e,g,c,h⟩:=h;refine⟨_,(aP (ss 2 nd (cd (Kc T) T.D_7 k (aA (aH 0) (aA (aH 1) aL))))
 (bC (cO (eK (aA (cJ IP oY (aH 0) (aH 2)) (aA (cJ IP oY (aH 1) (aH 2)) aL)))))),?_⟩
 show gI _ _ _ [.val (.int a),.val (.int b),.un];refine cK (.int ((a.gcd b:Nat):Int)) (λq j=>⟨_,Fo,_,Fo,a,b,Fo,j⟩) ?_;have i:0<a.gcd b:=mS _ e;have d:a.gcd b<=b:=aAu _ e
 have hd:(0:Int)<((a.gcd b:Nat):Int)/\((a.gcd b:Nat):Int)<2^200:=⟨Fl,by
  have:(a.gcd b)<2^190:=qM d c;have f:(2^190:Nat)<=2^200:=lR Fk Fk
  exact_mod_cast cX this f⟩
 refine⟨_,Fo,_,Fo,hd,_,Fo,_,Fo,hd,aF Fo,?_⟩;show Q (.tuple [.int ((a:Int) / ((a.gcd b:Nat):Int)),.int ((b:Int) / ((a.gcd b:Nat):Int))]);rw[<- C1,<- C1];exact h
def Kb:dU P w K mg base hW 3 wh wt ["form","rows"] (cG K Pg):=by
 refine lZ T.D_5.F Pz λl nd H Q h=>?_;obtain⟨fs,an,d,rfl,F,hok,f,h⟩:=h;refine⟨_,(aP (ss 2 nd (cB gQ (aA (aH 1) aL) bY T.b_len eZ))
 (aP (gT (dO jI mO (aH 2) aK)
 (bC (cO (eK (aA aK (aA aK aL)))))
 fL)
 (bC (cO (cd (Il T) T.D_6 l (aA (cB Qe (aA (el (fr:=[none,some 2]) (N':=["count","many"]) (eW (rD (cF (Ij T) T.D_3 l (aA (aH 0) (aA (aH 1) aL))))) (λb=>⟨(dJ (pk 0)),iR,(cJ fV lN (aH 0) (cJ mN vR (aH 1) (aH 0)))⟩)) aL) (DE Fo) T.b_sum Xy) (aA (aH 2) aL))))))),?_⟩
 show gI _ _ _ [.val (dX fs an),.val (.list (d.map dQ)),.un];have a4:=F.a4;refine cK (.int (d.length:Int)) (λq k=>⟨_,Fo,?_⟩) ?_
 ·show q (.int ((d.map dQ).length:Int));rw[aC];exact k
 refine fW (λb=>b=decide ((d.length:Int)=0)) (λq k=>⟨_,Fo,k _ Fo⟩) (λt=>?_) λs=>?_
 ·have o:d.length=0:=by have:=b8 t.symm;lia
  have:d=[]:=hX.mp o;subst this
  have m:UR (YQ [] []) (max 1 ([]:List Rw).length)=.tuple [.int 0,.int 1]:=by
   show UR 0 1=_;unfold UR;rw[Nat.gcd_zero_left];rfl
  rw[m]at h;exact⟨aF Fo,h⟩
 ·try unfold jD
  dsimp only;have o:¬d.length=0:=λz=>by have:=i7 s.symm;lia
  have p:max 1 d.length=d.length:=by lia
  rw[p]at h;have y:=K2 d d;have v:d.length*d.length<=60*60:=fZ f f;have i:(kB an d).length=an.length:=by unfold kB;rw[aC]
  have j:∀c∈kB an d,0<=c/\c<=(d.length:Int):=λc g=>by
   unfold kB at g;obtain⟨a,_,rfl⟩:=aR.mp g;have:=Yz d a;lia
  show nM Kq _ _ Q;dsimp only[nM,pZ,J0];refine jK (ts:=(kB an d).map aQ) (λR h=>⟨_,Fo,_,Fo,fs,an,d,Fo,F,hok,f,_,Fo,h⟩) (Lx d.length) (by rw[aC,i];lia) (λx q E k=>?_) ?_
  ·obtain⟨c,g,rfl⟩:=aR.mp E;have:=j c g;exact⟨_,Fo,_,Fo,_,Fo,.inl ⟨Fl,Fl⟩,k⟩
  ·have e:((kB an d).map aQ).map (Lx d.length)=((kB an d).map λc=>c*((d.length:Int)-c)).map aQ:=by
    rw[bM,bM];rfl
   rw[e];refine⟨_,Fo,λn u=>?_,by rw[aC,i];lia,?_⟩
   ·obtain⟨c,g,rfl⟩:=aR.mp u;have:=j c g;have J:0<=c*((d.length:Int)-c):=qN Fl Fl;have M:c*((d.length:Int)-c)<=60*60:=Int.mul_le_mul Fl Fl Fl Fk;lia
   ·rw[YO F.an.2.2 λr l=>(hok r l).2];exact⟨_,Fo,_,_,Fo,Fl,qM (show YQ d d<=3600 by lia) Fk,qM (show d.length<=60 from f) Fk,h⟩
def TX:dU P w K mg base hW 1 lh oz ["rows","numbers"] (cG K Xn):=by
 refine lZ T.D_37.F Tt λf nd l Q h=>?_;obtain⟨fs,k,n,v,st,w,a,rfl,m,h⟩:=h;refine⟨_,(bC (cO (el (fr:=[none,some 0]) (N':=["number","rows"]) (eW (aH 1)) (λb=>⟨(dJ (pk 0)),iR,(bD aX cA (aH 1) (aH 0))⟩)))),?_⟩;show sT _ _ [.val (.list (a.map dQ)),.val (.list (iM fs k n v st a w))]
 have o:(iM fs k n v st a w).length<=60:=by
  unfold iM;have:=bW (nT fs k n v st a w) (eQ a.length);rw[gZ]at this;lia
 refine jK (ts:=iM fs k n v st a w) (λR h=>⟨_,Fo,_,Fo,h⟩) (qW a) Fl (λx q i e=>?_) ?_
 ·obtain⟨j,g,rfl⟩:=aR.mp (cL.mp i).1;have c:j<a.length:=by simpa using g
  have d:L2.atI (a.map dQ) (j:Int)=some (dQ a[j]):=L2.fH (by rw[aI,aD c];rfl)
  have f:qW a (.int (j:Int))=dQ a[j]:=by
   show(match L2.atI a (j:Int)with | some r=>dQ r | none=>.none)=_;rw[L2.fH (aD c)]
  rw[f]at e;exact⟨_,Fo,_,Fo,_,d,e⟩
 ·rw[AY fs k n v st w a.length a rfl];exact h
def Lk:dU P w K mg base hW 3 lj pi ["form","rows"] (cG K Xq):=by
 refine lZ T.D_40.F Tw λg nd i Q h=>?_;obtain⟨fs,an,fa,d,rfl,F,c,b,f,h⟩:=h;refine⟨_,(bC (cO (eK (aA eM (aA (cd (Ik T) T.D_4 g (aA (aH 0) (aA (aH 1) aL))) aL))))),?_⟩;show sT _ _ [.val (dX fs an),.val (.list (d.map dQ))]
 exact⟨_,Fo,_,Fo,fs,an,d,Fo,F,b,f,λa e=>by
  rw[e.uniq (c d b)];exact⟨Fn,h⟩⟩
def Ll:dU P w K mg base hW 5 ll pj ["form","knot","rows"] (cG K Xr):=by
 refine lZ T.D_41.F Tx λp nd H Q h=>?_;obtain⟨fs,an,k,n,v,s,y,m,c,rfl,F,o,hs,e,g,h⟩:=h;refine⟨_,(bC (cO (el (fr:=[none,some 2]) (N':=["numbers","rows"]) (eW (VU (cQ (T0 T) T.D_18 p (aA (aH 0) (aA (bD aX cA (aH 1) aK) (aA (bD aX cA (aH 1) aK) (aA (aH 2) aL))))))) (λb=>⟨(dJ (pk 0)),iR,(cd (TX T) T.D_37 p (aA (aH 1) (aA (aH 0) aL)))⟩)))),?_⟩;show sT _ _ [.val (dX fs an),.val (jG (.ask k n v s y m)),.val (.list (c.map dQ))];have J:(c.filter λr=>decide (fN fs k n v s r.1="yes"))=c.filter (iL fs k n v s):=rfl;refine BZ (ts:=[.list (iM fs k n v s c "yes"),.list (iM fs k n v s c "no")]) (λR h=>⟨_,Fo,_,Fo,_,Fo,_,Fo,_,Fo,_,Fo,fs,an,k,n,v,s,c,Fo,F,o,hs,e,g,_,Fo,h⟩) (λi _ y=>(i=0->y=.list ((c.filter (iL fs k n v s)).map dQ))/\(i=1->y=.list ((c.filter λr=>!iL fs k n v s r).map dQ))) Fn (λi x q j d=>?_) λE l f=>?_
 ·have M:i<2:=(aE.mp j).1;rcases(show i=0\/i=1 by lia)with rfl | rfl
  ·cases j;exact⟨_,Fo,_,Fo,fs,k,n,v,s,"yes",c,Fo,g,d _ ⟨λ_=>rfl,λz=>by cases z⟩⟩
  ·cases j;refine⟨_,Fo,_,Fo,fs,k,n,v,s,"no",c,Fo,g,?_⟩;rw[AV F o hs e];exact d _ ⟨(λz=>by cases z),λ_=>rfl⟩
 ·match E,l,f with
  |[a,b],_,f=>
   have t:=(f 0 _ a Fo Fo).1 Fo;have u:=(f 1 _ b Fo Fo).2 Fo;rw[t,u];exact h
def Qy:dU P w K mg base hW 1 ju nj ["field"] (kW K Vg):=by
 refine Fv T.D_12.F Sv λj nd g Q h=>?_;obtain⟨f,rfl,c,i,h⟩:=h;refine⟨_,(aP (ss 1 nd (bD aX cA (aH 0) aK))
 (aP (ss 2 nd (bD aX cA (aH 0) aK))
 (aP (ss 3 nd (B9 (dO jI mO (cB gQ (aA (aH 2) aL) bY T.b_len eZ) aK) (jW mW wX (aH 2) mX (jT aK)) (aH 2)))
 (aP (ss 4 nd (jW mW wX (aH 2) (jT aK) (jT (LY aK))))
 (bC (AM (Yl (el (fr:=[none,some 1]) (N':=["value","name"]) (eW (aH 3)) (λb=>⟨(dJ (pk 0)),iR,(eK (aA eM (aA (aH 1) (aA (aH 0) aL))))⟩)) (el (fr:=[none,some 1]) (N':=["value","name"]) (eW (aH 4)) (λb=>⟨(dJ (pk 0)),iR,(eK (aA eM (aA (aH 1) (aA (aH 0) aL))))⟩))))))))),?_⟩
 show gI _ _ _ [.val (kI f),.un,.un,.un,.un];refine cK (.str f.1) (λq a=>⟨_,Fo,_,Fo,a⟩) ?_;refine cK (.tuple (f.2.map aW)) (λq a=>⟨_,Fo,_,Fo,a⟩) ?_;refine cK (.tuple ((pQ f).map aW)) (λq a=>⟨_,Fo,?_⟩) ?_
 ·show(if decide (((f.2.map aW).length:Int)=2)=true then _ else _);unfold pQ at a;rw[aC];by_cases e:f.2.length=2
  ·rw[a7 (a8 Fl)];rw[a7 e]at a;refine⟨_,Fo,?_⟩;show q (.tuple (kU (f.2.map aW) none (some 1)));rw[oB,aAb _ c];exact a
  ·rw[a6 (by simpa using(by lia:¬(f.2.length:Int)=2))];rw[a6 e]at a;exact⟨_,Fo,a⟩
 refine cK (.tuple ((BO f).map aW)) (λq a=>⟨_,Fo,?_⟩) ?_
 ·show q (.tuple (kU (f.2.map aW) (some 1) (some (-2))));rw[oB,aAc _ c];exact a
 have l:(pQ f).length<=5:=by
  unfold pQ;split
  ·rw[bB];lia
  ·lia
 have k:(BO f).length<=5:=by
  unfold BO;rw[bB,gA];lia
 dsimp only[Mb,Kx];refine jK (ts:=(pQ f).map aW) (λR h=>⟨_,Fo,_,Fo,h⟩) (λx=>.tuple [.str "is",.str f.1,x]) (by rw[aC];lia) (λx q d a=>⟨_,Fo,_,Fo,aF Fo,a⟩) ?_;refine jK (ts:=(BO f).map aW) (λR h=>⟨_,Fo,_,Fo,h⟩) (λx=>.tuple [.str "upto",.str f.1,x]) (by rw[aC];lia) (λx q d a=>⟨_,Fo,_,Fo,aF Fo,a⟩) ?_;refine⟨_,_,Fo,Fo,by simp only[aC];lia,?_⟩;rw[bM,bM];exact h
def Qx:dU P w K mg base hW 2 jt ni ["form"] (kW K Vf):=by
 refine Fv T.D_11.F Su λs nd z Q h=>?_;obtain⟨fs,an,rfl,F,h⟩:=h;refine⟨_,(aP (so 1 nd aL)
 (aP (sf (eW (bD aX cA (aH 0) aK)) (dJ (pn 2 nd))
 (bC (FJ (i:=1) (pv 1) (rD (cF (Qy T) T.D_12 s (aA (aH 2) aL))) (pb:=λh=>jJ (kJ bT qK qJ F3 (pv 1) h)))))
 (bC (uN (pv 1))))),?_⟩
 show gI _ _ _ [.val (dX fs an),.un,.un];have n5:=F.n5;refine lJ [] Fk (λq c=>c) ?_
 refine hV (ts:=fs.map kI) (λR h=>⟨_,Fo,_,Fo,_,Fo,h⟩)
  (λk y=>∃d:Sl,y=[.val (dX fs an),.own (eN (fs.take k)),d]) ⟨_,Fo⟩ (λk x j l b=>?_) λj b=>?_
 ·obtain⟨d,rfl⟩:=b;rw[aI]at l;obtain⟨f,a,rfl⟩:=bU.mp l;have n:f∈fs:=aU a;obtain⟨u,v,t⟩:=F.vs f n;have m:=iX F (fs.take k) λg o=>dZ o;have p:(fs.take k).length<=5:=by rw[bB];lia
  have r:(IJ f).length<=10:=by
   unfold IJ pQ BO;rw[bG,aC,aC,bB,gA];split
   ·rw[bB];lia
   ·lia
  refine IQ (ts:=eN (fs.take k)) (us:=IJ f) Fo Fl (λq c=>⟨_,Fo,f,Fo,u,v,c⟩) ⟨.val (kI f),?_⟩
  have e:eN (fs.take (k+1))=eN (fs.take k)++IJ f:=by
   unfold eN;rw[cS,a,bA,Q8];show _++[IJ f].flatten=_;rw[KH]
  rw[e];rfl
 ·obtain⟨d,rfl⟩:=b;rw[aC,dA];exact⟨_,Fo,h⟩
def Lf:dU P w K mg base hW 3 jv nk ["form"] (cG K Vh):=by
 refine lZ T.D_13.F Sw λe nd z Q h=>?_;obtain⟨fs,an,rfl,F,h⟩:=h;refine⟨_,(aP (so 1 nd aL)
 (aP (sf (eW (rD (cF (Qx T) T.D_11 e (aA (aH 0) aL)))) (dJ (pn 2 nd))
 (bC (FJ (i:=1) (pv 1) (el (fr:=[none,some 2]) (N':=["stray","question"]) (eW (N5 Fo T.c_SIDES T.t_SIDES)) (λb=>⟨(dJ (pk 0)),iR,(eK (aA (aH 1) (aA (aH 0) aL)))⟩)) (pb:=λh=>jJ (kJ bT qK qJ F3 (pv 1) h)))))
 (lW 1 (bC (cO (aH 1)))))),?_⟩
 show gI _ _ _ [.val (dX fs an),.un,.un];have n5:=F.n5;have o:=iX F fs λg p=>p;have u:(qs fs).length=(eN fs).length:=by rw[<- oX,aC]
 refine lJ [] Fk (λq t=>t) ?_
 refine hV (ts:=(qs fs).map qD) (λR h=>⟨_,Fo,fs,an,Fo,F,_,Fo,by rw[<- oX];exact h⟩)
  (λk y=>∃m:Sl,y=[.val (dX fs an),.own ((((qs fs).take k).flatMap HN).map W3),m]) ⟨_,Fo⟩ (λk x n j c=>?_) λn c=>?_
 ·obtain⟨m,rfl⟩:=c;rw[aI]at j;obtain⟨q,d,rfl⟩:=bU.mp j
  have a:((((qs fs).take k).flatMap HN).map W3).length=2*((qs fs).take k).length:=by
   rw[aC]
   generalize (qs fs).take k=l
   induction l with
   |nil=>rfl
   |cons x l v=>rw[zT,bG,v,dB];show 2+_=_;lia
  have s:((qs fs).take k).length<=50:=by rw[bB];lia
  refine IQ (us:=[W3 (q,"yes"),W3 (q,"no")]) Fo (by rw[a];show _+2<=_;lia) (λr e=>?_) ⟨.val (qD q),?_⟩
  ·refine jK (ts:=[.str "yes",.str "no"]) (λR h=>⟨_,Fo,h⟩) (λx=>.tuple [qD q,x]) Fk (λx E j f=>⟨_,Fo,_,Fo,Fn,f⟩) e
  ·rw[cS,d];show _=[_,Sl.own (((((qs fs).take k)++[q]).flatMap HN).map W3),_];rw[List.flatMap_append,bA];rfl
 ·obtain⟨m,rfl⟩:=c;rw[aC,dA];exact⟨_,Fo,_,Fo,h⟩
def Oy:dU P w K mg base hW 3 wl ww ["one","other"] (cG K Pi):=by
 refine lZ T.D_8.F Qc λd nd f Q h=>?_;obtain⟨x,y,rfl,a,b,h⟩:=h;refine⟨_,(bC (cO (cd (Il T) T.D_6 d (aA (cJ cZ gU (cJ fV lN (bD aX cA (aH 0) aK) (bD aX cA (aH 1) aK)) (cJ fV lN (bD aX cA (aH 1) aK) (bD aX cA (aH 0) aK))) (aA (cJ fV lN (bD aX cA (aH 0) aK) (bD aX cA (aH 1) aK)) aL))))),?_⟩;show sT _ _ [.val (C3 x),.val (C3 y)];have j:=a.top;have k:=a.bot;have l:=b.top;have m:=b.bot;obtain⟨g,i,c⟩:=M5 a b;have big:(1000000000000:Nat)<2^190:=by decide +kernel
 have e:[aQ ((x.1:Int)*(y.2:Int)+(y.1:Int)*(x.2:Int)),.int ((x.2:Int)*(y.2:Int))]=[.int ((x.1*y.2+y.1*x.2:Nat):Int),.int ((x.2*y.2:Nat):Int)]:=by
  rw[fT,eI,eI,eI]
 refine⟨_,Fo,_,Fo,_,Fo,_,Fo,.inl ⟨Fl,Fl⟩,_,Fo,_,Fo,_,Fo,_,Fo,.inl ⟨Fl,Fl⟩,_,Fo,_,Fo,_,Fo,_,Fo,.inl ⟨Fl,Fl⟩,_,_,e,c,Fl,Fl,h⟩
def Qw:dU P w K mg base hW 2 js nh ["fractions"] (cG K Ve):=by
 refine lZ T.D_10.F Ss λo nd r Q h=>?_;obtain⟨l,rfl,n,h⟩:=h;refine⟨_,(aP (ss 1 nd aK)
 (aP (sf (eW (aH 0)) (dJ (pn 2 nd))
 (bC (ss 1 nd (cJ lL oY (cJ fV lN (aH 1) (bD aX cA (aH 2) aK)) (cd (Kc T) T.D_7 o (aA (aH 1) (aA (bD aX cA (aH 2) aK) aL)))))))
 (bC (cO (aH 1))))),?_⟩
 show gI _ _ _ [.val (.list (l.map C3)),.un,.un];refine cK (.int 1) (λq a=>a) ?_
 refine hV (ts:=l.map C3) (λR h=>⟨_,Fo,_,Fo,h⟩)
  (λk p=>∃c:Sl,p=[.val (.list (l.map C3)),.val (.int ((wA (l.take k):Nat):Int)),c]) ⟨_,Fo⟩ (λk x d e b=>?_) λd b=>?_
 ·obtain⟨c,rfl⟩:=b;rw[aI]at e;obtain⟨y,f,rfl⟩:=bU.mp e;obtain⟨g,t⟩:=n y (aU f);have s:(wA (l.take k)).gcd y.2<=y.2:=aFx g (AH _ _);have m:0<(wA (l.take k)).gcd y.2:=mS _ g
  have j:wA (l.take (k+1))=(wA (l.take k)).lcm y.2:=by
   unfold wA;rw[cS,f,WU];rfl
  refine mH (.int ((wA (l.take (k+1)):Nat):Int)) (λq a=>⟨_,Fo,_,Fo,_,Fo,.inr ⟨Fl,Fl⟩,_,Fo,_,Fo,_,Fo,_,_,Fo,⟨Fl,Fl⟩,?_⟩) ⟨_,Fo⟩;rw[j]at a
  have i:((wA (l.take k):Nat):Int)*(y.2:Int) / (((wA (l.take k)).gcd y.2:Nat):Int)=(((wA (l.take k)).lcm y.2:Nat):Int):=by
   rw[<- eI,<- C1];rfl
  rw[i];exact a
 ·obtain⟨c,rfl⟩:=b;rw[aC,dA];exact⟨_,Fo,h⟩
def Lh:dU P w K mg base hW 1 kc oe ["sides","fewest"] (cG K Vn):=by
 refine lZ T.D_20.F Td λg nd f Q h=>?_;obtain⟨u,v,a,bs,m,rfl,d,h⟩:=h;refine⟨_,(bC (cO (LZ (lP NP lF (cB gQ (aA (bD aX cA (aH 0) aK) aL) bY T.b_len eZ) (aH 1)) (LX (lP NP lF (cB gQ (aA (bD aX cA (aH 0) aK) aL) bY T.b_len eZ) (aH 1)))))),?_⟩;show sT _ _ [.val (.tuple [u,v]),.val (.int m)]
 have c:∀q:D->Prop,q (.bool (decide (m<=(a.length:Int))&&decide (m<=(bs.length:Int))))->(if decide (m<=(a.length:Int))=true then q (.bool (decide (m<=(bs.length:Int))))else q (.bool false)):=λq b=>by
  cases e:decide (m<=(a.length:Int))with
  |false=>rw[a6 Fk];rw[e]at b;exact b
  |true=>rw[a7 rfl];rw[e]at b;exact b
 have h:=c _ h;rcases d with⟨rfl,rfl⟩ | ⟨rfl,rfl⟩
 ·refine⟨_,Fo,_,Fo,_,Fo,?_⟩;show(if decide (m<=(a.length:Int))=true then _ else _);split at h
  ·next e=>rw[a7 e];exact⟨_,Fo,_,Fo,_,Fo,h⟩
  ·next e=>rw[a6 e];exact h
 ·refine⟨_,Fo,_,Fo,_,Fo,?_⟩;show(if decide (m<=(a.length:Int))=true then _ else _);split at h
  ·next e=>rw[a7 e];exact⟨_,Fo,_,Fo,_,Fo,h⟩
  ·next e=>rw[a6 e];exact h
def Ri:dU P w K mg base hW 6 lg iz ["form","rows","least"] (kW K Xm):=by
 refine Nq T.L_36 T.D_36.F Mp (λds Q h=>by obtain⟨fs,an,f,m,rfl,F,l,o,h⟩:=h;rfl) λer lc Ar outer s H E r ds Q h=>?_;obtain⟨fs,an,f,m,rfl,F,l,o,h⟩:=h;have nd:=Mp.nd;refine⟨_,(aP (so 3 nd aL)
 (aP (sf (eW (cd (Lf T) T.D_13 r (aA (aH 0) aL))) (oA (lD Fo (dR (pn 4 nd) (dR (pn 5 nd) jS))))
 (aP (ss 6 nd (VU (cQ (T0 T) T.D_18 r (aA (aH 0) (aA (aH 4) (aA (aH 5) (aA (aH 1) aL)))))))
 (bC (gT (tv (cd (Lh T) T.D_20 r (aA (aH 6) (aA (aH 2) aL))))
 (aP (pD (i:=7) (fr:=[none,some 0,some 1]) (N':=["numbers","form","rows"]) (eW (aH 6)) (λb=>⟨(dJ (pk 0)),iR,(cd (Kb T) T.D_5 r (aA (aH 1) (aA (cd (TX T) T.D_37 r (aA (aH 2) (aA (aH 0) aL))) aL)))⟩) (λu hY=>nS (show qZ _ (aZ (top 46)) ["form","rows","least","told","question","stray","sides","doubts","bottom"] ["numbers","form","rows"] [none,some 0,some 1]=true from by decide +kernel) nd Fo (by first | exact v7 Fo | exact r8 Fo) Fo u hY Fo))
 (bC (mM (i:=3) (pv 3) (eK (aA (aH 4) (aA (aH 5) (aA (cd (Oy T) T.D_8 r (aA (bD aX cA (aH 7) aK) (aA (bD aX cA (aH 7) aK) aL))) aL)))) (pb:=λh=>jJ (kJ bT dF dE iE (pv 3) h)))))
 fL))))
 (lW 3 (aP (ss 8 nd (cd (Qw T) T.D_10 r (aA (el (fr:=[none,none,none]) (N':=["question","stray","doubt"]) (eW (aH 3)) (λb=>⟨(rC (lD Fo (dR (pk 0) (dR (pk 1) (dR (pk 2) jS))))),iR,(aH 2)⟩)) aL)))
 (bC (AM (VN (k:=0) (ib:=8) (r.mono Fl) lc Fo Fo Fo Fo T.b_sorted EN (aA (aH 3) aL)))))))),?_⟩
 show gI _ _ _ [.val (dX fs an),.val (.list (f.map dQ)),.val (.int m),.un,.un,.un,.un,.un,.un]
 have ja:(vZ fs f m).length<=60:=by
  have h1:=iX F fs λg hg=>hg;have n4:=F.n4;have h2:=bW (okC fs f m) (jL fs);rw[oZ]at h2;show((jL fs).filter (okC fs f m)).length<=60;lia
 have Bk:(jL fs).length<=100:=by
  have h1:=iX F fs λg hg=>hg;have n5:=F.n5;rw[oZ];lia
 refine lJ [] Fk (λq M=>M) ?_
 refine hV (ts:=(jL fs).map W3) (λR h=>⟨_,Fo,fs,an,Fo,F,_,Fo,h⟩)
  (λk σ=>∃s4 s5 s6 s7:Sl,σ=[.val (dX fs an),.val (.list (f.map dQ)),.val (.int m),.own ((((jL fs).take k).filter (okC fs f m)).map (L4 fs f)),s4,s5,s6,s7,.un]) ⟨_,_,_,_,Fo⟩ (λk x bi p hP=>?_) λbi hP=>?_
 ·obtain⟨s4,s5,s6,s7,rfl⟩:=hP;rw[aI]at p;obtain⟨c,t,rfl⟩:=bU.mp p;have hc:=aU t;obtain⟨M,hs⟩:=yU hc;have n:=yD M
  have zd:(iM fs c.1.1 c.1.2.1 c.1.2.2 c.2 f "yes").length=(yR fs c f).length:=by
   have:=e8 gC (AY fs c.1.1 c.1.2.1 c.1.2.2 c.2 "yes" f.length f Fo);rw[aC,aC]at this;exact this
  have W:(iM fs c.1.1 c.1.2.1 c.1.2.2 c.2 f "no").length=(nR fs c f).length:=by
   have:=e8 gC (AY fs c.1.1 c.1.2.1 c.1.2.2 c.2 "no" f.length f Fo);rw[aC,aC,AV F n hs l]at this;exact this
  have et:((jL fs).take (k+1)).filter (okC fs f m)=((jL fs).take k).filter (okC fs f m)++(if okC fs f m c=true then[c]else[]):=by
   rw[cS,t,fC];congr 1;show List.filter _ [c]=_;rw[cH];rfl
  have Ek:((((jL fs).take k).filter (okC fs f m)).map (L4 fs f)).length<=100:=by
   rw[aC];exact bJ (bW _ _) (by rw[bB];lia)
  refine⟨qD c.1,.str c.2,Fo,?_⟩;dsimp only;refine cK (.tuple [.list (iM fs c.1.1 c.1.2.1 c.1.2.2 c.2 f "yes"),.list (iM fs c.1.1 c.1.2.1 c.1.2.2 c.2 f "no")]) (λq j=>⟨_,Fo,_,Fo,_,Fo,_,Fo,fs,an,c.1.1,c.1.2.1,c.1.2.2,c.2,f,Fo,F,n,hs,l,o,j⟩) ?_;refine mY (λb=>b=okC fs f m c) (λq j=>⟨_,Fo,_,Fo,_,_,_,_,m,Fo,.inl ⟨Fo,Fo⟩,?_⟩) (λhT=>?_) λhF=>?_
  ·refine j _ ?_;rw[zd,W];rfl
  ·refine cK (.list [C3 (W2 (yR fs c f)),C3 (W2 (nR fs c f))]) (λq j=>?_) ?_
   ·refine BZ (ts:=[.list (iM fs c.1.1 c.1.2.1 c.1.2.2 c.2 f "yes"),.list (iM fs c.1.1 c.1.2.1 c.1.2.2 c.2 f "no")]) (λR h=>⟨_,Fo,_,Fo,h⟩) (λi _ y=>(i=0->y=C3 (W2 (yR fs c f)))/\(i=1->y=C3 (W2 (nR fs c f)))) Fn (λi x q p S=>?_) λys uj hy=>?_
    ·have u:i<2:=(aE.mp p).1;rcases(show i=0\/i=1 by lia)with rfl | rfl
     ·cases p;exact⟨_,Fo,_,Fo,_,Fo,fs,c.1.1,c.1.2.1,c.1.2.2,c.2,"yes",f,Fo,o,fs,an,_,Fo,F,l.filt _,bJ (bW _ _) o,S _ ⟨λ_=>rfl,λz=>by cases z⟩⟩
     ·cases p;refine⟨_,Fo,_,Fo,_,Fo,fs,c.1.1,c.1.2.1,c.1.2.2,c.2,"no",f,Fo,o,?_⟩;rw[AV F n hs l];exact⟨fs,an,_,Fo,F,l.filt _,bJ (bW _ _) o,S _ ⟨(λz=>by cases z),λ_=>rfl⟩⟩
    ·match ys,uj,hy with
     |[a,b],_,hy=>
      have h0:=(hy 0 _ a Fo Fo).1 Fo;have h1:=(hy 1 _ b Fo Fo).2 Fo;rw[h0,h1];exact j
   ·have U:(yR fs c f).length<=60:=bJ (bW _ _) o;have v:(nR fs c f).length<=60:=bJ (bW _ _) o;refine nZ (L4 fs f c) Fo Fl (λq j=>⟨_,Fo,_,Fo,_,Fo,_,Fo,_,Fo,_,Fo,_,_,Fo,xK U,xK v,Fn,j⟩) ⟨.val (qD c.1),.val (.str c.2),.val (.tuple [.list (iM fs c.1.1 c.1.2.1 c.1.2.2 c.2 f "yes"),.list (iM fs c.1.1 c.1.2.1 c.1.2.2 c.2 f "no")]),.val (.list [C3 (W2 (yR fs c f)),C3 (W2 (nR fs c f))]),?_⟩;rw[et,a7 hT.symm,bA];rfl
  ·try unfold jD
   dsimp only;refine⟨.val (qD c.1),.val (.str c.2),.val (.tuple [.list (iM fs c.1.1 c.1.2.1 c.1.2.2 c.2 f "yes"),.list (iM fs c.1.1 c.1.2.1 c.1.2.2 c.2 f "no")]),s7,?_⟩;rw[et,a6 (by rw[<- hF];decide),fR];rfl
 ·obtain⟨s4,s5,s6,s7,rfl⟩:=hP;rw[aC,dA];refine⟨_,Fo,?_⟩;show gI _ _ _ [.val (dX fs an),.val (.list (f.map dQ)),.val (.int m),.val (.list (CF fs f m)),s4,s5,s6,s7,.un]
  have Bm:∀x∈W1 fs f m,0<x.2/\x.2<=1000000:=λx p=>by
   obtain⟨c,_,rfl⟩:=aR.mp p;have:=L7 (fs:=fs) o c;exact⟨this.pos,bJ this.bot Fk⟩
  refine cK (.int (wA (W1 fs f m):Nat)) (λq M=>?_) ?_
  ·dsimp only[nM,pZ,J0];refine ZD (ts:=CF fs f m) (λR h=>⟨_,Fo,_,Fo,h⟩) (λx=>match x with | .tuple [_,_,d]=>d | _=>.none) (by rw[uA];lia) (λx p=>?_) (λa b c q' hm n=>⟨_,Fo,n⟩) ?_
   ·obtain⟨c,_,rfl⟩:=aR.mp p;exact⟨_,_,_,Fo⟩
   ·have e:(CF fs f m).map (λx=>match x with | .tuple [_,_,d]=>d | _=>.none)=(W1 fs f m).map C3:=by
     unfold CF W1;rw[bM,bM];rfl
    rw[e];exact⟨_,Fo,Bm,M⟩
  ·refine⟨_,Fo,CF fs f m,(wA (W1 fs f m):Nat),P8 fs f m,Fo,by rw[uA];lia,Fo,by rw[uA,U1],λi e k he hk=>?_,λJ hJ=>?_⟩
   ·have u:i<(vZ fs f m).length:=by rw[<- uA];exact(aE.mp he).1
    have e1:=N6 (fs:=fs) (R:=f) (m:=m) u;rw[dD,he]at e1;have e2:=ZI (fs:=fs) (R:=f) (m:=m) u;rw[dD,hk]at e2;have sm:=L7 (fs:=fs) o (vZ fs f m)[i];have s1:=sm.top;have s2:=sm.pos;have s3:=sm.bot;exact⟨_,_,_,_,e1,⟨Fl,Fl⟩,.inl ⟨Fl,Fl⟩,e2⟩
   ·rw[uA]at hJ;exact h J hJ
def Km:dU P w K mg base hW 1 wm wx ["one","other"] (cG K Pj):=by
 refine lZ T.D_9.F Pb λb nd a Q h=>?_;obtain⟨x,y,rfl,c,d,h⟩:=h;refine⟨_,(bC (cO (lP zK lF (cJ fV lN (bD aX cA (aH 0) aK) (bD aX cA (aH 1) aK)) (cJ fV lN (bD aX cA (aH 1) aK) (bD aX cA (aH 0) aK))))),?_⟩;show sT _ _ [.val (C3 x),.val (C3 y)];refine⟨_,Fo,_,Fo,_,Fo,_,Fo,.inl ⟨Fl,Fl⟩,_,Fo,_,Fo,_,Fo,_,Fo,.inl ⟨Fl,Fl⟩,?_⟩;show Q (.bool (decide ((x.1:Int)*(y.2:Int)<(y.1:Int)*(x.2:Int))))
 have e:decide ((x.1:Int)*(y.2:Int)<(y.1:Int)*(x.2:Int))=decide (x.1*y.2<y.1*x.2):=by
  rw[ay,<- eI,<- eI];lia
 rw[e];exact h
def Rj:dU P w K mg base hW 7 li ph ["form","rows","least"] (cG K Xo):=by
 refine lZ T.D_38.F Tu λp nd x Q h=>?_;obtain⟨fs,an,a,m,rfl,F,g,k,h⟩:=h;refine⟨_,(aP (ss 3 nd (rD (cF (Ri T) T.D_36 p (aA (aH 0) (aA (aH 1) (aA (aH 2) aL))))))
 (aP (gT (qQ (FI (O2 (aH 3) (λh=>SQ h (λ_=>rfl))) (AL (tv (cd (Km T) T.D_9 p (aA (bD aX cA (bD aX cA (aH 3) aK) aK) (aA (cd (Kb T) T.D_5 p (aA (aH 0) (aA (aH 1) aL))) aL)))))))
 (bC (cO (bD aX cA (aH 3) aK)))
 fL)
 (bC (cO pJ)))),?_⟩
 show gI _ _ _ [.val (dX fs an),.val (.list (a.map dQ)),.val (.int m),.un];have o:∀c:Ch,(dC fs a c).1<=1000000:=λc=>bJ (L7 (fs:=fs) k c).top Fk;have n:(W2 a).1<=1000000:=bJ (xK k).top Fk
 have l:∀{i:Nat}{J:List Nat},Iv fs a m (i::J)->∃c,c∈vZ fs a m/\L2.atI (Ic fs a m (i::J)) 0=some (L4 fs a c):=λ{i J} e=>by
  have t:=e.lt i (aS ..);refine⟨_,fK t,L2.fH (j:=0) ?_⟩;show some ((CF fs a m).getD i .none)=_;rw[N6 t]
 refine hZ (λv=>∃J,Iv fs a m J/\v=.list (Ic fs a m J)) (λq f=>⟨_,Fo,_,Fo,_,Fo,fs,an,a,m,Fo,F,g,k,λJ e=>f _ ⟨J,e,Fo⟩⟩) ?_;rintro _ ⟨J,e,rfl⟩
 cases J with
 |nil=>
  refine fW (λb=>b=false) (λq f=>?_) (λs=>by cases s) λ_=>?_
  ·refine⟨_,Fo,[],Fo,?_⟩;show(if(false:Bool)=true then _ else q false);rw[a6 Fk];exact f _ Fo
  ·try unfold jD
   dsimp only;exact h none λc z=>by cases z
 |cons i J=>
  obtain⟨c,u,r⟩:=l e;refine fW (λb=>True) (λq f=>?_) (λs=>?_) λy=>?_
  ·refine⟨_,Fo,_,Fo,?_⟩;show(if(true:Bool)=true then _ else q false);rw[a7 rfl];exact⟨_,Fo,_,r,_,Fo,_,Fo,_,Fo,fs,an,a,Fo,F,g,k,_,_,Fo,o c,n,f _ trivial⟩
  ·exact⟨_,Fo,_,r,h (some c) λd z=>by cases z;exact u⟩
  ·try unfold jD
   dsimp only;exact h none λc z=>by cases z
def XX(E:Nat)
  (s:dU P w K mg base hW (8+E) I gj ["form","rows","deep","least"] (cG K (tK E))):dU P w K mg base hW (8+E+1) I gj ["form","rows","deep","least"] (cG K (tK (E+1))):=by
 refine lZ T.D_39.F Tv λz nd ds Q h=>?_;obtain⟨fs,an,g,d,m,rfl,F,f,l,hd,h⟩:=h;refine⟨_,(aP (ss 4 nd (B9 (dO oI lF (aH 2) aK) (cd (hk:=by lia) (Rj T) T.D_38 z (aA (aH 0) (aA (aH 1) (aA (aH 3) aL)))) pJ))
 (aP (gT (dO BV IU (aH 4) pJ)
 (bC (cO (eK (aA eM (aA (cd (hk:=by lia) (Ik T) T.D_4 z (aA (aH 0) (aA (aH 1) aL))) aL)))))
 fL)
 (aP (ss 5 nd (VU (cQ (hk:=by lia) (T0 T) T.D_18 z (aA (aH 0) (aA (bD aX cA (aH 4) aK) (aA (bD aX cA (aH 4) aK) (aA (aH 1) aL)))))))
 (aP (pD (i:=6) (fr:=[none,some 0,some 3,some 1,some 2]) (N':=["numbers","form","least","rows","deep"]) (eW (aH 5)) (λb=>⟨(dJ (pk 0)),iR,(cd (hk:=by lia) s T.D_39 z (aA (aH 1) (aA (cd (hk:=by lia) (TX T) T.D_37 z (aA (aH 3) (aA (aH 0) aL))) (aA (cJ mN vR (aH 4) aK) (aA (aH 2) aL)))))⟩) (λhi hY=>nS (show qZ _ (aZ (top 49)) ["form","rows","deep","least","found","sides","parts"] ["numbers","form","least","rows","deep"] [none,some 0,some 3,some 1,some 2]=true from by decide +kernel) nd Fo (by first | exact v7 Fo | exact r8 Fo) Fo hi hY Fo))
 (bC (cO (eK (aA eM (aA (bD aX cA (aH 4) aK) (aA (bD aX cA (aH 4) aK) (aA (bD aX cA (aH 6) aK) (aA (bD aX cA (aH 6) aK) aL)))))))))))),?_⟩
 show gI _ _ _ [.val (dX fs an),.val (.list (g.map dQ)),.val (.int d),.val (.int m),.un,.un,.un]
 cases d with
 |zero=>
  refine cK .none (λq j=>⟨_,Fo,j⟩) ?_;refine fW (λb=>b=true) (λq j=>⟨_,Fo,j _ Fo⟩) (λ_=>?_) λU=>by cases U
  exact⟨_,Fo,_,Fo,fs,an,g,Fo,F,f,l,λa ⟨k,S,_⟩=>⟨Fn,h (.say a) (aU S) (aN _)⟩⟩
 |succ e=>
  refine hZ (λv=>∃o:Option Ch,(∀c,o=some c->c∈vZ fs g m)/\v=Ko fs g o) (λq j=>⟨_,Fo,?_⟩) ?_
  ·show(if decide ((0:Int)<((e+1:Nat):Int))=true then _ else q .none);rw[a7 (a8 Fl)];exact⟨_,Fo,_,Fo,_,Fo,fs,an,g,m,Fo,F,f,l,λo W=>j _ ⟨o,W,Fo⟩⟩
  rintro _ ⟨o,W,rfl⟩
  cases o with
  |none=>
   refine fW (λb=>b=true) (λq j=>⟨_,Fo,j _ Fo⟩) (λ_=>?_) λU=>by cases U
   refine⟨_,Fo,_,Fo,fs,an,g,Fo,F,f,l,λa ⟨k,S,_⟩=>⟨Fn,h (.say a) (aU S) (cI _)⟩⟩
  |some c=>
   have hc:=(cL.mp (W c Fo)).1;obtain⟨j,hs⟩:=yU hc;have p:=yD j;refine fW (λb=>b=false) (λq j=>⟨_,Fo,j _ Fo⟩) (λhT=>by cases hT) λ_=>?_
   try unfold jD
   dsimp only;refine cK (.tuple [.list (iM fs c.1.1 c.1.2.1 c.1.2.2 c.2 g "yes"),.list (iM fs c.1.1 c.1.2.1 c.1.2.2 c.2 g "no")]) (λq r=>⟨_,Fo,_,Fo,_,Fo,_,Fo,_,Fo,_,Fo,fs,an,c.1.1,c.1.2.1,c.1.2.2,c.2,g,Fo,F,p,hs,f,l,r⟩) ?_;refine hZ (λv=>∃y n,(lQ fs an y/\y.dep<=e)/\(lQ fs an n/\n.dep<=e)/\v=.list [jG y,jG n]) (λq r=>?_) ?_
   ·have es:((e+1:Nat):Int)-1=((e:Nat):Int):=by lia
    refine BZ (ts:=[.list (iM fs c.1.1 c.1.2.1 c.1.2.2 c.2 g "yes"),.list (iM fs c.1.1 c.1.2.1 c.1.2.2 c.2 g "no")]) (λR h=>⟨_,Fo,_,Fo,h⟩) (λi _ y=>∃t,(lQ fs an t/\t.dep<=e)/\y=jG t) Fn (λi x q hx u=>?_) λys uj M=>?_
    ·have hi:i<2:=(aE.mp hx).1;rcases(show i=0\/i=1 by lia)with rfl | rfl
     ·cases hx;exact⟨_,Fo,_,Fo,_,Fo,fs,c.1.1,c.1.2.1,c.1.2.2,c.2,"yes",g,Fo,l,_,Fo,_,Fo,fs,an,_,e,m,by rw[<- es]<;>rfl,F,f.filt _,bJ (bW _ _) l,Fl,λt t1 t2=>u _ ⟨t,⟨t1,t2⟩,Fo⟩⟩
     ·cases hx;refine⟨_,Fo,_,Fo,_,Fo,fs,c.1.1,c.1.2.1,c.1.2.2,c.2,"no",g,Fo,l,?_⟩;rw[AV F p hs f];exact⟨_,Fo,_,Fo,fs,an,_,e,m,by rw[<- es]<;>rfl,F,f.filt _,bJ (bW _ _) l,Fl,λt t1 t2=>u _ ⟨t,⟨t1,t2⟩,Fo⟩⟩
    ·match ys,uj,M with
     |[a,b],_,M=>
      obtain⟨y,H,rfl⟩:=M 0 _ a Fo Fo;obtain⟨n,J,rfl⟩:=M 1 _ b Fo Fo;exact r _ ⟨y,n,H,J,Fo⟩
   ·rintro _ ⟨y,n,H,J,rfl⟩;refine⟨_,Fo,_,Fo,_,Fo,_,Fo,_,Fo,_,Fo,_,Fo,_,Fo,Fn,h (.ask c.1.1 c.1.2.1 c.1.2.2 c.2 y n) ⟨p,hs,H.1,J.1⟩ (by have:=H.2;have:=J.2;show max y.dep n.dep+1<=e+1;lia)⟩
def Rk:dU P w K mg base hW 15 I gj ["form","rows","deep","least"] (cG K Xp):=by
 have h:∀a:Nat,dU P w K mg base hW (8+a) I gj ["form","rows","deep","least"] (cG K (tK a)):=λa=>by
  induction a with
  |zero=>exact vV pI λc Q h=>UD h
  |succ a b=>exact XX T a b
 exact h 7
def D4:dU P w K mg base hW 1 kg oh ["tree"] (cG K Vp):=by
 refine lZ T.D_22.F Tf λc nd b Q h=>?_;obtain⟨t,rfl,h⟩:=h;refine⟨_,(bC (cO (lP jI mO (bD aX cA (aH 0) aK) eM))),?_⟩
 cases t with
 |say a=>exact⟨_,Fo,_,Fo,h⟩
 |ask k n v s y m=>exact⟨_,Fo,_,Fo,h⟩
def Li:dU P w K mg base hW 1 kh oi ["knot","side"] (cG K Vq):=by
 refine lZ T.D_23.F Tg λc nd b Q h=>?_;obtain⟨k,n,v,s,y,m,a,rfl,h⟩:=h;refine⟨_,(bC (cO (B9 (dO jI mO (aH 1) eM) (bD aX cA (aH 0) aK) (bD aX cA (aH 0) aK)))),?_⟩;show sT _ _ [.val (jG (.ask k n v s y m)),.val (.str a)];refine⟨_,Fo,?_⟩;show(if decide (a="yes")=true then _ else _);by_cases e:a="yes"
 ·rw[a7 (a8 e)];rw[a7 e]at h;exact⟨_,Fo,_,Fo,h⟩
 ·rw[a6 (by simpa using e)];rw[a6 e]at h;exact⟨_,Fo,_,Fo,h⟩
def Si:dU P w K mg base hW 4 ki oj ["form","tree","case"] (kW K Vs):=by
 refine Fv T.D_25.F Us λj nd U Q h=>?_;obtain⟨fs,an,t,b,rfl,F,J,f,hd,h⟩:=h;refine⟨_,(aP (so 3 nd aL)
 (aP (ss 4 nd (aH 1))
 (aP (tE (yB (tv (cd (D4 T) T.D_22 j (aA (aH 4) aL))))
 (aP (ss 5 nd (cd (T1 T) T.D_14 j (aA (aH 0) (aA (bD aX cA (aH 4) aK) (aA (bD aX cA (aH 4) aK) (aA (aH 2) aL))))))
 (aP (mM (i:=3) (pv 3) (eK (aA (bD aX cA (aH 4) aK) (aA (aH 5) aL))) (pb:=λh=>jJ (kJ bT dF dE iE (pv 3) h)))
 (bC (ss 4 nd (cd (Li T) T.D_23 j (aA (aH 4) (aA (aH 5) aL))))))) (λf x=>tP v8 f x))
 (bC (uN (pv 3)))))),?_⟩
 show gI _ _ _ [.val (dX fs an),.val (jG t),.val (.tuple b),.un,.un,.un];refine lJ [] Fk (λq c=>c) ?_;refine cK (jG t) (λq c=>⟨_,Fo,c⟩) ?_;refine qV (λn R=>∃(p:Tr)(done:List D)(l:Sl),R=[.val (dX fs an),.val (jG t),.val (.tuple b),.own done,.val (jG p),l]/\n=p.dep/\lQ fs an p/\done++sY fs p b=sY fs t b/\done.length+p.dep<=40) t.dep ⟨t,[],_,Fo,Fo,J,Fo,by show 0+t.dep<=40;lia⟩ λn S u=>?_;obtain⟨p,done,l,rfl,rfl,H,d,z⟩:=u;refine⟨!Mi p,λq c=>⟨_,Fo,p,Fo,c⟩,?_⟩
 cases p with
 |say a=>
  show(if false=true then _ else _);rw[a6 Fk];have e:sY fs (.say a) b=[]:=rfl;rw[e,fR]at d;subst d;exact⟨_,Fo,h⟩
 |ask k n v s y m=>
  show(if true=true then _ else _);rw[a7 rfl];obtain⟨c,hs,M,E⟩:=H;have o:(Tr.ask k n v s y m).dep=max y.dep m.dep+1:=rfl;rw[o]at z |-
  refine cK (.str (fN fs k n v s b)) (λq g=>⟨_,Fo,_,Fo,_,Fo,_,Fo,_,Fo,_,Fo,fs,an,k,n,v,s,b,Fo,F,c,hs,f,g⟩) ?_;refine YD (ts:=done) (.tuple [.tuple [.str k,.str n,.str v],.str (fN fs k n v s b)]) Fo Fl (λq c=>⟨_,Fo,_,Fo,_,Fo,aF Fo,c⟩) ?_;refine mH (jG (if fN fs k n v s b="yes" then y else m)) (λq c=>⟨_,Fo,_,Fo,k,n,v,s,y,m,_,Fo,c⟩) ?_
  have r:done++[.tuple [.tuple [.str k,.str n,.str v],.str (fN fs k n v s b)]]++(if fN fs k n v s b="yes" then sY fs y b else sY fs m b)=sY fs t b:=by
   rw[<- d,jZ];rfl
  refine⟨(if fN fs k n v s b="yes" then y else m).dep,?_,if fN fs k n v s b="yes" then y else m,_,_,Fo,Fo,?_,?_,?_⟩
  ·split<;>lia
  ·split
   ·exact M
   ·exact E
  ·rw[<- r];congr 1;split<;>rfl
  ·rw[bG,lA];split<;>lia
def Sj:dU P w K mg base hW 5 kj ol ["form","tree","case"] (cG K Vt):=by
 refine lZ T.D_26.F Ut λf nd i Q h=>?_;obtain⟨fs,an,t,c,rfl,F,g,d,hd,h⟩:=h;refine⟨_,(bC (cO (cY pY (aA (el (fr:=[none,none]) (N':=["question","side"]) (eW (rD (cF (Si T) T.D_25 f (aA (aH 0) (aA (aH 1) (aA (aH 2) aL)))))) (λb=>⟨(oA (lD Fo (dR (pk 0) (dR (pk 1) jS)))),iR,(aH 1)⟩)) aL) jF T.b_tuple kH))),?_⟩;show nM (f1 GD) _ _ Q;dsimp only[nM,pZ,J0];have j:=FG (fs:=fs) t c;refine NX (ts:=sY fs t c) (λR h=>⟨_,Fo,_,Fo,_,Fo,fs,an,t,c,Fo,F,g,d,hd,_,Fo,h⟩) X7 Fl (yA t c) (λa b q k e=>⟨_,Fo,e⟩) ?_;rw[xZ];exact h
def Sm:dU P w K mg base hW 2 km on ["tree","place"] (cG K Vv):=by
 refine lZ T.D_28.F Uv λz nd ds Q h=>?_;obtain⟨t,p,i,rfl,J,hd,h⟩:=h;refine⟨_,(aP (ss 2 nd (aH 0))
 (aP (sf (eW (aH 1)) (dJ (pn 3 nd))
 (aP (gT (qQ (oE (tv (cd (D4 T) T.D_22 z (aA (aH 2) aL))) (rQ (dO (lK z) vQ (aH 3) (N5 Fo T.c_SIDES T.t_SIDES)))))
 (bC Ms)
 fL)
 (bC (ss 2 nd (cd (Li T) T.D_23 z (aA (aH 2) (aA (aH 3) aL)))))))
 (bC (cO (aH 2))))),?_⟩
 show gI _ _ _ [.val (jG t),.val (.tuple (i.map aW)),.un,.un];have E:=FX J;refine cK (jG t) (λq l=>⟨_,Fo,l⟩) ?_
 refine hV (ts:=i.map aW) (λR h=>⟨_,Fo,_,Fo,h⟩)
  (λk σ=>∃(x:Tr)(s3:Sl),σ=[.val (jG t),.val (.tuple (i.map aW)),.val (jG x),s3]/\sM x (i.drop k)=some p) ⟨t,_,Fo,J⟩ (λk d H M o=>?_) λH o=>?_
 ·obtain⟨x,s3,rfl,f⟩:=o;rw[aI]at M;obtain⟨g,j,rfl⟩:=bU.mp M;have r:=(aE.mp j).1
  have U:i.drop k=g::i.drop (k+1):=by
   rw[G6 r];congr 1;exact(aE.mp j).2
  rw[U]at f;have hs:=E g (aU j)
  cases x with
  |say a=>cases f
  |ask S n v s y m=>
   have c:(if g="yes" then sM y (i.drop (k+1))else if g="no" then sM m (i.drop (k+1))else none)=some p:=f;refine fW (λb=>b=false) (λq l=>⟨_,Fo,.ask S n v s y m,Fo,?_⟩) (λW=>by cases W) λ_=>?_
   ·show(if false=true then _ else _);rw[a6 Fk]
    have u:yJ g=true:=by
     rcases hs with rfl | rfl
     ·exact T6
     ·exact Ld
    refine⟨_,Fo,AS (ys:=["yes","no"]) (λy hy=>?_) ((nY u (n:=8) (m:=0) (aN _)).cd Fk),l _ ?_⟩
    ·rcases aY.mp hy with rfl | hy
     ·exact T6
     ·rw[dH.mp hy];exact Ld
    ·have e:A1 (.str g) (.tuple ((["yes","no"]:List Str).map aW))=JJ ["yes","no"] (.str g):=xM _ _;show(!A1 (.str g) (.tuple ((["yes","no"]:List Str).map aW)))=false;rw[e]
     have:JJ ["yes","no"] (.str g)=true:=by
      refine a8 ?_;rcases hs with rfl | rfl<;>simp
     rw[this];rfl
   try unfold jD
   dsimp only;refine mH (jG (if g="yes" then y else m)) (λq l=>⟨_,Fo,_,Fo,S,n,v,s,y,m,g,Fo,l⟩) ⟨if g="yes" then y else m,_,Fo,?_⟩;rcases hs with rfl | rfl
   ·rw[a7 rfl]at c |-
    exact c
   ·rw[a6 LD,a7 rfl]at c;rw[a6 LD];exact c
 ·obtain⟨x,s3,rfl,f⟩:=o;rw[aC,List.drop_length]at f;have:x=p:=by cases x<;>exact c5 f
  subst this;exact⟨_,Fo,h⟩
def Sk:dU P w K mg base hW 6 kl om ["form","tree","case"] (cG K Vu):=by
 refine lZ T.D_27.F Uu λc nd e Q h=>?_;obtain⟨fs,an,t,a,rfl,F,d,b,hd,h⟩:=h;refine⟨_,(bC (cO (bD aX cA (cd (Sm T) T.D_28 c (aA (aH 1) (aA (cd (Sj T) T.D_26 c (aA (aH 0) (aA (aH 1) (aA (aH 2) aL)))) aL))) aK))),?_⟩;exact⟨_,Fo,_,Fo,_,Fo,_,Fo,fs,an,t,a,Fo,F,d,b,hd,t,.say (pK fs t a),rT fs t a,Fo,vO F b t d,hd,_,Fo,h⟩
def XY(d:Nat)
  (c:dU P w K mg base hW (1+d) G Z ["tree"] (cG K (tL d))):dU P w K mg base hW (1+d+1) G Z ["tree"] (cG K (tL (d+1))):=by
 refine lZ T.D_24.F Ur λf nd p Q h=>?_;obtain⟨t,rfl,hk,hd,h⟩:=h;refine⟨_,(aP (gT (tv (cd (hk:=by lia) (D4 T) T.D_22 f (aA (aH 0) aL)))
 (bC (cO aK))
 fL)
 (bC (cO (cJ cZ gU (cJ cZ gU aK (cd (hk:=by lia) c T.D_24 f (aA (bD aX cA (aH 0) aK) aL))) (cd (hk:=by lia) c T.D_24 f (aA (bD aX cA (aH 0) aK) aL)))))),?_⟩
 show gI _ _ _ [.val (jG t)]
 cases t with
 |say a=>exact fW (λb=>b=true) (λq e=>⟨_,Fo,.say a,Fo,e _ Fo⟩) (λ_=>h) λl=>by cases l
 |ask k n v s y m=>
  have i:(Tr.ask k n v s y m).dep=max y.dep m.dep+1:=rfl;have g:(Tr.ask k n v s y m).kn=y.kn+m.kn+1:=rfl;rw[i]at hd;rw[g]at hk;refine fW (λb=>b=false) (λq e=>⟨_,Fo,.ask k n v s y m,Fo,e _ Fo⟩) (λo=>by cases o) λ_=>?_
  try unfold jD
  dsimp only;refine⟨_,Fo,_,Fo,y,Fo,Fl,Fl,_,Fo,_,Fo,m,Fo,Fl,Fl,?_⟩
  have j:(1:Int)+(y.kn:Int)+(m.kn:Int)=(((Tr.ask k n v s y m).kn:Nat):Int):=by
   rw[g];lia
  show Q (.int (1+(y.kn:Int)+(m.kn:Int)));rw[j];exact h
def Lj:dU P w K mg base hW 42 G Z ["tree"] (cG K Vr):=by
 have h:∀a:Nat,dU P w K mg base hW (1+a) G Z ["tree"] (cG K (tL a)):=λa=>by
  induction a with
  |zero=>exact vV pI λc Q h=>UE h
  |succ a b=>exact XY T a b
 exact h 41
def IS:dU P w K mg base hW 43 kq oo ["form","tree","rows","prices"] (cG K Vw):=by
 refine lZ T.D_29.F Uw λd nd o Q h=>?_;obtain⟨fs,an,t,e,a,b,rfl,F,n,g,j,f,p,a0,a1,b0,b1,h⟩:=h;refine⟨_,(aP (pD (i:=4) (fr:=[none,some 0,some 1]) (N':=["row","form","tree"]) (eW (aH 2)) (λb=>⟨(dJ (pk 0)),(tX (dO BU LB (cd (Sk T) T.D_27 d (aA (aH 1) (aA (aH 2) (aA (bD aX cA (aH 0) aK) aL)))) (bD aX cA (aH 0) aK))),(aH 0)⟩) (λm l=>nS (show qZ _ (aZ (top 38)) ["form","tree","rows","prices","slips"] ["row","form","tree"] [none,some 0,some 1]=true from by decide +kernel) nd Fo (by first | exact v7 Fo | exact r8 Fo) Fo m l Fo))
 (bC (cO (cJ cZ gU (cJ fV lN (bD aX cA (aH 3) aK) (cB gQ (aA (aH 4) aL) bY T.b_len eZ)) (cJ fV lN (bD aX cA (aH 3) aK) (cd (Lj T) T.D_24 d (aA (aH 1) aL))))))),?_⟩
 show gI _ _ _ [.val (dX fs an),.val (jG t),.val (.list (e.map dQ)),.val (.tuple [.int a,.int b]),.un];refine cK (.list ((e.filter λr=>!decide (pK fs t r.1=r.2)).map dQ)) (λq c=>?_) ?_
 ·refine pG (ts:=e.map dQ) (λR h=>⟨_,Fo,_,Fo,h⟩) (λx=>match x with | .tuple [.tuple cs,.str w]=>!decide (pK fs t cs=w) | _=>false) id (by rw[aC];lia) (λx q k c=>?_) (λx q k c=>⟨_,Fo,c⟩) ?_
  ·obtain⟨r,d,rfl⟩:=aR.mp k;exact⟨_,Fo,_,Fo,_,Fo,_,Fo,fs,an,t,r.1,Fo,F,n,(f r d).1,g,_,Fo,_,Fo,c⟩
  ·rw[nH,uK];exact c
 refine⟨_,Fo,_,Fo,_,Fo,.inl ⟨Fl,Fl⟩,_,Fo,_,Fo,_,Fo,t,Fo,j,Fl,.inl ⟨Fl,Fl⟩,?_⟩;show Q (.int (a*((((e.filter λr=>!decide (pK fs t r.1=r.2)).map dQ).length:Nat):Int)+b*(t.kn:Nat)));rw[aC];exact h
def Rl:dU P w K mg base hW 1 lm pq ["price"] (cG K Wk):=by
 refine lZ T.D_42.F Tz λd nd c Q h=>?_;obtain⟨a,b,rfl,h⟩:=h;refine⟨_,(bC (cO (eK (aA (bD aX cA (aH 0) aK) (aA (bD aX cA (aH 0) aK) aL))))),?_⟩;show sT _ _ [.val (.tuple [a,b])];exact⟨_,Fo,_,Fo,_,Fo,_,Fo,Fn,h⟩
def XW(o:Nat)
  (g:dU P w K mg base hW (44+o) L gk ["form","tree","rows","prices"] (cG K (tJ o))):dU P w K mg base hW (44+o+1) L gk ["form","tree","rows","prices"] (cG K (tJ (o+1))):=by
 refine lZ T.D_44.F TZ λj nd ds Q h=>?_;obtain⟨fs,an,fa,t,c,a,b,rfl,F,f,E,hd,e,p,a0,a1,b0,b1,h⟩:=h;refine⟨_,(aP (gT (tv (cd (hk:=by lia) (D4 T) T.D_22 j (aA (aH 1) aL)))
 (bC (cO (eK (aA (cd (hk:=by lia) (IS T) T.D_29 j (aA (aH 0) (aA (aH 1) (aA (aH 2) (aA (aH 3) aL))))) (aA (aH 1) aL)))))
 fL)
 (aP (ss 4 nd (cd (hk:=by lia) (Lk T) T.D_40 j (aA (aH 0) (aA (aH 2) aL))))
 (aP (ss 5 nd (cd (hk:=by lia) (IS T) T.D_29 j (aA (aH 0) (aA (aH 4) (aA (aH 2) (aA (aH 3) aL))))))
 (aP (ss 6 nd (cd (hk:=by lia) (Ll T) T.D_41 j (aA (aH 0) (aA (aH 1) (aA (aH 2) aL)))))
 (aP (ss 7 nd (cd (hk:=by lia) g T.D_44 j (aA (aH 0) (aA (bD aX cA (aH 1) aK) (aA (bD aX cA (aH 6) aK) (aA (aH 3) aL))))))
 (aP (ss 8 nd (cd (hk:=by lia) g T.D_44 j (aA (aH 0) (aA (bD aX cA (aH 1) aK) (aA (bD aX cA (aH 6) aK) (aA (aH 3) aL))))))
 (aP (ss 9 nd (cJ cZ gU (cJ cZ gU (bD aX cA (aH 3) aK) (bD aX cA (aH 7) aK)) (bD aX cA (aH 8) aK)))
 (aP (gT (dO D2 lF (aH 5) (aH 9))
 (bC (cO (eK (aA (aH 5) (aA (aH 4) aL)))))
 fL)
 (bC (cO (eK (aA (aH 9) (aA (cJ cZ gU (jW mW wX (aH 1) mX (jT aK)) (eK (aA (bD aX cA (aH 7) aK) (aA (bD aX cA (aH 8) aK) aL)))) aL))))))))))))),?_⟩
 show gI _ _ _ [.val (dX fs an),.val (jG t),.val (.list (c.map dQ)),.val (.tuple [.int a,.int b]),.un,.un,.un,.un,.un,.un]
 have H:∀z:Str,a*(eE fs (.say z) c:Nat)+b*(((Tr.say z).kn:Nat):Int)=a*(eE fs (.say z) c:Nat):=λz=>by
  show _+b*0=_;rw[mF,pT]
 cases t with
 |say z=>
  refine fW (λb=>b=true) (λq l=>⟨_,Fo,.say z,Fo,l _ Fo⟩) (λ_=>?_) λM=>by cases M
  refine⟨_,Fo,_,Fo,_,Fo,_,Fo,fs,an,.say z,c,a,b,Fo,F,E,cI _,cI _,e,p,a0,a1,b0,b1,_,Fo,Fn,?_⟩;rw[H];exact h
 |ask k n v s y m=>
  have J:(Tr.ask k n v s y m).dep=max y.dep m.dep+1:=rfl;rw[J]at hd;obtain⟨l,hs,W,U⟩:=E;have l1:=bW (iL fs k n v s) c;have l2:=bW (λr=>!iL fs k n v s r) c
  have u:lQ fs an (.say (fa c)):=by
   obtain⟨i,S,_⟩:=f c e;exact aU S
  refine fW (λb=>b=false) (λq l=>⟨_,Fo,.ask k n v s y m,Fo,l _ Fo⟩) (λR=>by cases R) λ_=>?_
  try unfold jD
  dsimp only;refine cK (jG (.say (fa c))) (λq d=>⟨_,Fo,_,Fo,fs,an,fa,c,Fo,F,f,e,p,d⟩) ?_;refine cK (.int (a*(eE fs (.say (fa c)) c:Nat))) (λq d=>⟨_,Fo,_,Fo,_,Fo,_,Fo,fs,an,.say (fa c),c,a,b,Fo,F,u,cI _,cI _,e,p,a0,a1,b0,b1,by rw[H];exact d⟩) ?_;refine cK (.list [.list ((c.filter (iL fs k n v s)).map dQ),.list ((c.filter λr=>!iL fs k n v s r).map dQ)]) (λq d=>⟨_,Fo,_,Fo,_,Fo,fs,an,k,n,v,s,y,m,c,Fo,F,l,hs,e,p,d⟩) ?_;refine cK (.tuple [.int (lw fs fa a b y (c.filter (iL fs k n v s))).1,jG (lw fs fa a b y (c.filter (iL fs k n v s))).2]) (λq d=>⟨_,Fo,_,Fo,_,Fo,_,Fo,_,Fo,_,Fo,fs,an,fa,y,_,a,b,Fo,F,f,W,Fl,e.filt _,Fl,a0,a1,b0,b1,d⟩) ?_;refine cK (.tuple [.int (lw fs fa a b m (c.filter λr=>!iL fs k n v s r)).1,jG (lw fs fa a b m (c.filter λr=>!iL fs k n v s r)).2]) (λq d=>⟨_,Fo,_,Fo,_,Fo,_,Fo,_,Fo,_,Fo,fs,an,fa,m,_,a,b,Fo,F,f,U,Fl,e.filt _,Fl,a0,a1,b0,b1,d⟩) ?_;refine cK (.int (b+(lw fs fa a b y (c.filter (iL fs k n v s))).1+(lw fs fa a b m (c.filter λr=>!iL fs k n v s r)).1)) (λq d=>⟨_,Fo,_,Fo,_,Fo,_,Fo,_,Fo,_,Fo,d⟩) ?_;have el:lw fs fa a b (.ask k n v s y m) c=if a*(eE fs (.say (fa c)) c:Nat)<=b+(lw fs fa a b y (c.filter (iL fs k n v s))).1+(lw fs fa a b m (c.filter λr=>!iL fs k n v s r)).1 then(a*(eE fs (.say (fa c)) c:Nat),.say (fa c))else(b+(lw fs fa a b y (c.filter (iL fs k n v s))).1+(lw fs fa a b m (c.filter λr=>!iL fs k n v s r)).1,.ask k n v s (lw fs fa a b y (c.filter (iL fs k n v s))).2 (lw fs fa a b m (c.filter λr=>!iL fs k n v s r)).2):=rfl;rw[el]at h;refine fW (λz=>z=decide (a*(eE fs (.say (fa c)) c:Nat)<=b+(lw fs fa a b y (c.filter (iL fs k n v s))).1+(lw fs fa a b m (c.filter λr=>!iL fs k n v s r)).1)) (λq d=>⟨_,Fo,_,Fo,d _ Fo⟩) (λx=>?_) λx=>?_
  ·rw[a7 (b8 x.symm)]at h;exact⟨_,Fo,_,Fo,Fn,h⟩
  ·rw[a6 (i7 x.symm)]at h
   try unfold jD
   dsimp only;refine⟨_,Fo,_,Fo,_,Fo,_,Fo,_,Fo,_,Fo,Fn,?_⟩;show VP (.tuple (kU [aW "ask",.tuple [.str k,.str n,.str v],.str s,jG y,jG m] none (some 3))) _ _;rw[Od];exact⟨Fn,Fn,h⟩
def Rm:dU P w K mg base hW 57 L gk ["form","tree","rows","prices"] (cG K Wm):=by
 have h:∀a:Nat,dU P w K mg base hW (44+a) L gk ["form","tree","rows","prices"] (cG K (tJ a)):=λa=>by
  induction a with
  |zero=>exact vV pI λc Q h=>UC h
  |succ a b=>exact XW T a b
 exact h 13
def Lm:dU P w K mg base hW 58 ln pr ["form","tree","rows","price"] (cG K Wl):=by
 refine lZ T.D_43.F TC λe nd j Q h=>?_;obtain⟨fs,an,fa,t,f,a,b,rfl,F,c,i,hd,d,g,a0,a1,b0,b1,h⟩:=h;refine⟨_,(bC (cO (bD aX cA (cd (Rm T) T.D_44 e (aA (aH 0) (aA (aH 1) (aA (aH 2) (aA (cd (Rl T) T.D_42 e (aA (aH 3) aL)) aL))))) aK))),?_⟩;show sT _ _ [.val (dX fs an),.val (jG t),.val (.list (f.map dQ)),.val (.tuple [.int b,.int a])];exact⟨_,Fo,_,Fo,_,Fo,_,Fo,_,_,Fo,fs,an,fa,t,f,a,b,Fo,F,c,i,hd,d,g,a0,a1,b0,b1,_,Fo,h⟩
def XV(E:Nat)
  (l:dU P w K mg base hW (44+E) N gl ["form","tree","rows"] (cG K (tI E))):dU P w K mg base hW (44+E+1) N gl ["form","tree","rows"] (cG K (tI (E+1))):=by
 refine lZ T.D_47.F Uc λg nd ds Q h=>?_;obtain⟨fs,an,fa,t,a,rfl,F,f,M,hd,o,p,d,u,j,h⟩:=h;refine⟨_,(aP (gT (tv (cd (hk:=by lia) (D4 T) T.D_22 g (aA (aH 1) aL)))
 (bC (cO (eK (aA (cd (hk:=by lia) (IS T) T.D_29 g (aA (aH 0) (aA (aH 1) (aA (aH 2) (aA (eK (aA aK (aA aK aL))) aL))))) (aA (kG aL) aL)))))
 fL)
 (aP (ss 3 nd (cd (hk:=by lia) (Ll T) T.D_41 g (aA (aH 0) (aA (aH 1) (aA (aH 2) aL)))))
 (aP (ss 4 nd (cd (hk:=by lia) l T.D_47 g (aA (aH 0) (aA (bD aX cA (aH 1) aK) (aA (bD aX cA (aH 3) aK) aL)))))
 (aP (ss 5 nd (cd (hk:=by lia) l T.D_47 g (aA (aH 0) (aA (bD aX cA (aH 1) aK) (aA (bD aX cA (aH 3) aK) aL)))))
 (aP (ss 6 nd (cJ cZ gU (bD aX cA (aH 4) aK) (bD aX cA (aH 5) aK)))
 (aP (ss 7 nd (cJ mN vR (cd (hk:=by lia) (IS T) T.D_29 g (aA (aH 0) (aA (cd (hk:=by lia) (Lk T) T.D_40 g (aA (aH 0) (aA (aH 2) aL))) (aA (aH 2) (aA (eK (aA aK (aA aK aL))) aL))))) (aH 6)))
 (bC (cO (eK (aA (aH 6) (aA (cJ cZ gU (cJ cZ gU (kG (aA (cd (hk:=by lia) (Il T) T.D_6 g (aA (aH 7) (aA (cd (hk:=by lia) (Lj T) T.D_24 g (aA (aH 1) aL)) aL))) aL)) (bD aX cA (aH 4) aK)) (bD aX cA (aH 5) aK)) aL))))))))))),?_⟩
 show gI _ _ _ [.val (dX fs an),.val (jG t),.val (.list (a.map dQ)),.un,.un,.un,.un,.un];have one:∀z:Str,(1:Int)*(eE fs (.say z) a:Nat)+0*(((Tr.say z).kn:Nat):Int)=(eE fs (.say z) a:Nat):=λz=>by rw[aNb,Int.zero_mul,pT]
 cases t with
 |say z=>
  refine fW (λb=>b=true) (λq x=>⟨_,Fo,.say z,Fo,x _ Fo⟩) (λ_=>?_) λhF=>by cases hF
  refine⟨_,Fo,_,Fo,_,Fo,Fn,fs,an,.say z,a,1,0,Fo,F,M,cI _,cI _,d,u,Fk,Fk,Fk,Fk,Fn,Fn,?_⟩;rw[one];exact h
 |ask k n v s y m=>
  have W:(Tr.ask k n v s y m).dep=max y.dep m.dep+1:=rfl;have e2:(Tr.ask k n v s y m).kn=y.kn+m.kn+1:=rfl;have R:zV fs fa (.ask k n v s y m) a=((eE fs (.say (fa a)) a:Int)-(eE fs (.ask k n v s y m) a:Nat),(Tr.ask k n v s y m).kn)::(zV fs fa y (a.filter (iL fs k n v s))++zV fs fa m (a.filter λr=>!iL fs k n v s r)):=rfl;have EZ:=M;obtain⟨x,hs,hy,hm⟩:=M;have l1:=bW (iL fs k n v s) a;have l2:=bW (λr=>!iL fs k n v s r) a
  have H:lQ fs an (.say (fa a)):=by
   obtain⟨i,hi,_⟩:=f a d;exact aU hi
  rw[R]at j;have Ei:=p;have Ef:=o;rw[W]at hd o;rw[e2]at p;refine fW (λb=>b=false) (λq x=>⟨_,Fo,.ask k n v s y m,Fo,x _ Fo⟩) (λhT=>by cases hT) λ_=>?_
  try unfold jD
  dsimp only;refine cK (.list [.list ((a.filter (iL fs k n v s)).map dQ),.list ((a.filter λr=>!iL fs k n v s r).map dQ)]) (λq c=>⟨_,Fo,_,Fo,_,Fo,fs,an,k,n,v,s,y,m,a,Fo,F,x,hs,d,u,c⟩) ?_;refine cK (.tuple [.int (eE fs y (a.filter (iL fs k n v s)):Nat),.list ((zV fs fa y (a.filter (iL fs k n v s))).map λe=>G9 (lC e))]) (λq c=>⟨_,Fo,_,Fo,_,Fo,_,Fo,_,Fo,fs,an,fa,y,_,Fo,F,f,hy,Fl,Fl,Fl,d.filt _,Fl,λe J=>j e (aO _ (iW _ J)),c⟩) ?_;refine cK (.tuple [.int (eE fs m (a.filter λr=>!iL fs k n v s r):Nat),.list ((zV fs fa m (a.filter λr=>!iL fs k n v s r)).map λe=>G9 (lC e))]) (λq c=>⟨_,Fo,_,Fo,_,Fo,_,Fo,_,Fo,fs,an,fa,m,_,Fo,F,f,hm,Fl,Fl,Fl,d.filt _,Fl,λe J=>j e (aO _ (eF _ J)),c⟩) ?_;refine cK (.int (eE fs (.ask k n v s y m) a:Nat)) (λq c=>⟨_,Fo,_,Fo,_,Fo,_,Fo,by rw[tM]at c;exact c⟩) ?_;refine cK (.int ((eE fs (.say (fa a)) a:Int)-(eE fs (.ask k n v s y m) a:Nat))) (λq c=>⟨_,Fo,_,Fo,_,Fo,fs,an,fa,a,Fo,F,f,d,u,_,Fo,Fn,fs,an,.say (fa a),a,1,0,Fo,F,H,cI _,cI _,d,u,Fk,Fk,Fk,Fk,_,Fo,by rw[one];exact c⟩) ?_;have S:=j _ (aS ..);dsimp only at S;have lS:eE fs (.say (fa a)) a<=60:=bJ (bW _ _) u;have big:(1000000000000:Nat)<2^190:=by decide +kernel
  have ec:[aQ ((eE fs (.say (fa a)) a:Int)-(eE fs (.ask k n v s y m) a:Nat)),.int ((Tr.ask k n v s y m).kn:Nat)]=[.int (((eE fs (.say (fa a)) a:Int)-(eE fs (.ask k n v s y m) a:Nat)).toNat:Nat),.int ((Tr.ask k n v s y m).kn:Nat)]:=by rw[xS S]
  have U:=BE (fs:=fs) (fa:=fa) y (a.filter (iL fs k n v s));have s2:=BE (fs:=fs) (fa:=fa) m (a.filter λr=>!iL fs k n v s r);refine⟨_,Fo,_,Fo,_,Fo,.ask k n v s y m,Fo,Fl,Fl,_,_,ec,Fl,Fl,Fl,Fn,_,Fo,_,Fo,?_⟩;refine⟨by rw[aC,U];show 1+_<=_;lia,_,Fo,_,Fo,by rw[bG,aC,aC,U,s2];show 1+_+_<=_;lia,Fn,?_⟩;rw[R,bE,bA]at h;exact h
def Rp:dU P w K mg base hW 57 N gl ["form","tree","rows"] (cG K Wp):=by
 have h:∀a:Nat,dU P w K mg base hW (44+a) N gl ["form","tree","rows"] (cG K (tI a)):=λa=>by
  induction a with
  |zero=>exact vV pI λc Q h=>UB h
  |succ a b=>exact XV T a b
 exact h 13
def Ro:dU P w K mg base hW 58 lr py ["form","tree","rows"] (cG K Wo):=by
 refine lZ T.D_46.F Ub λW nd ds Q h=>?_;obtain⟨fs,an,fa,t,a,rfl,F,o,ht,hd,hk,hL,E,hl,H,h⟩:=h;refine⟨_,(aP (ss 3 nd (bD aX cA (cd (Rp T) T.D_47 W (aA (aH 0) (aA (aH 1) (aA (aH 2) aL)))) aK))
 (aP (ss 4 nd (bD aX cA (aH 3) aK))
 (aP (sf (eW (aH 3)) (dJ (pn 5 nd))
 (bC (gT (tv (cd (Km T) T.D_9 W (aA (aH 5) (aA (aH 4) aL))))
 (bC (ss 4 nd (aH 5)))
 fL)))
 (bC (cO (aH 4)))))),?_⟩
 show gI _ _ _ [.val (dX fs an),.val (jG t),.val (.list (a.map dQ)),.un,.un,.un]
 have f:∀p∈(zV fs fa t a).map lC,p.1<=60:=λp u=>by
  obtain⟨e,he,rfl⟩:=aR.mp u;have:=(tD t a e he).1;have h2:(lC e).1<=e.1.toNat:=pO _ _;lia
 have hn:∃x l,(zV fs fa t a).map lC=x::l/\fX fs fa t a=kM x (x::l):=by
  cases t with
  |say z=>cases hL
  |ask k n v s y m=>exact⟨_,_,Fo,Fo⟩
 have U:=BE (fs:=fs) (fa:=fa) t a;refine cK (.list (((zV fs fa t a).map lC).map G9)) (λq c=>⟨_,Fo,_,Fo,_,Fo,fs,an,fa,t,a,Fo,F,o,ht,Fl,Fl,Fl,E,hl,H,_,Fo,by rw[bM]at c;exact c⟩) ?_;obtain⟨x,l,e,en⟩:=hn;rw[en]at h;rw[e]at f |-
 have h0:L2.atI ((x::l).map G9) 0=some (G9 x):=L2.fH (j:=0) Fo;refine cK (G9 x) (λq c=>⟨_,Fo,_,h0,c⟩) ?_
 refine hV (ts:=(x::l).map G9) (λR h=>⟨_,Fo,_,Fo,h⟩)
  (λi σ=>∃M:Sl,σ=[.val (dX fs an),.val (jG t),.val (.list (a.map dQ)),.val (.list ((x::l).map G9)),.val (G9 (kM x ((x::l).take i))),M]) ⟨_,Fo⟩ (λi d S J g=>?_) λS g=>?_
 ·obtain⟨M,rfl⟩:=g;have r:i<(x::l).length:=by have:=(aE.mp J).1;rw[aC]at this;exact this
  have ex:d=G9 (x::l)[i]:=by rw[aI,aD r]at J;exact(c5 J).symm
  subst ex;have et:(x::l).take (i+1)=(x::l).take i++[(x::l)[i]]:=by rw[cS,aD r];rfl
  have hz:(kM x ((x::l).take i)).1<=60:=by
   rcases vT ((x::l).take i) x with z | z
   ·rw[z];exact f x (aS ..)
   ·exact f _ (dZ z)
  have u:=f _ (fK r);rw[et,zL]
  generalize (x::l)[i]=p at u
  generalize kM x ((x::l).take i)=z at hz
  refine mY (λb=>b=decide (p.1*z.2<z.1*p.2)) (λq c=>⟨_,Fo,_,Fo,p,z,Fo,Fl,Fl,c _ Fo⟩) (λhT=>?_) λhF=>?_
  ·refine mH (G9 p) (λq c=>⟨_,Fo,c⟩) ⟨.val (G9 p),?_⟩;unfold oO;rw[a7 (b8 hT.symm)]
   rfl
  ·try unfold jD
   dsimp only;refine⟨.val (G9 p),?_⟩;unfold oO;rw[a6 (i7 hF.symm)]
   rfl
 ·obtain⟨M,rfl⟩:=g;rw[aC,dA];exact⟨_,Fo,h⟩
def Rn:dU P w K mg base hW 59 lq pu ["form","tree","rows"] (kW K Wn):=by
 refine Fv T.D_45.F Ua λl nd ds Q h=>?_;obtain⟨fs,an,fa,U,a,rfl,F,d,E,hd,hk,f,k,h⟩:=h;refine⟨_,(aP (ss 3 nd (eK (aA aK (aA aK aL))))
 (aP (ss 4 nd (cd (Lm T) T.D_43 l (aA (aH 0) (aA (aH 1) (aA (aH 2) (aA (aH 3) aL))))))
 (aP (so 5 nd (aA (eK (aA (aH 3) (aA (aH 4) aL))) aL))
 (aP (tE (yB (tv (cd (D4 T) T.D_22 l (aA (aH 4) aL))))
 (aP (ss 3 nd (cd (Ro T) T.D_46 l (aA (aH 0) (aA (aH 4) (aA (aH 2) aL)))))
 (aP (ss 4 nd (cd (Lm T) T.D_43 l (aA (aH 0) (aA (aH 4) (aA (aH 2) (aA (aH 3) aL))))))
 (bC (mM (i:=5) (pv 5) (eK (aA (aH 3) (aA (aH 4) aL))) (pb:=λh=>jJ (kJ bT dF dE iE (pv 5) h)))))) (λS R=>tP v8 S R))
 (bC (uN (pv 5))))))),?_⟩
 show gI _ _ _ [.val (dX fs an),.val (jG U),.val (.list (a.map dQ)),.un,.un,.un];have o:=(D8 d 1 0 U a E f).1;have W:=yK (fs:=fs) (fa:=fa) 1 0 U a;have vx:=(JC (fs:=fs) (fa:=fa) 1 0 U a).1;have z:OkS fs fa U a ((0,1),(lw fs fa 1 0 U a).2):=⟨show Nat.gcd 0 1=1 by decide,show 0<1 by decide,show 1<=12 by decide,show 0<=60 by decide,Fo⟩;refine cK (G9 (0,1)) (λq c=>⟨Fn,c⟩) ?_;refine cK (jG (lw fs fa 1 0 U a).2) (λq c=>⟨_,Fo,_,Fo,_,Fo,_,Fo,fs,an,fa,U,a,1,0,Fo,F,d,E,Fl,f,k,Fk,Fk,Fk,Fk,c⟩) ?_;refine lJ [Fu ((0,1),(lw fs fa 1 0 U a).2)] Fn (λq c=>⟨_,Fo,_,Fo,Fn,c⟩) ?_;have J:rR fs fa U a=qE fs fa a (lw fs fa 1 0 U a).2.kn (0,1) (lw fs fa 1 0 U a).2:=rfl;rw[J]at h;refine qV (λn σ=>∃(pre:List Fy)(x:Nat×Nat)(p:Tr),σ=[.val (dX fs an),.val (jG U),.val (.list (a.map dQ)),.val (G9 x),.val (jG p),.own ((pre++[(x,p)]).map Fu)]/\pre++qE fs fa a n x p=qE fs fa a (lw fs fa 1 0 U a).2.kn (0,1) (lw fs fa 1 0 U a).2/\OkS fs fa U a (x,p)/\lQ fs an p/\p.dep<=12/\p.kn<=n/\p.kn<=12/\pre.length+n<=12) (lw fs fa 1 0 U a).2.kn ⟨[],(0,1),(lw fs fa 1 0 U a).2,Fo,Fo,z,o,Fl,aN _,Fl,by show 0+_<=12;lia⟩ λn bi M=>?_;obtain⟨pre,x,p,rfl,g,ok,r,t,xg,u,jm⟩:=M;refine⟨!U5 p,λq c=>⟨_,Fo,p,Fo,by cases p<;>exact c⟩,?_⟩
 cases b:U5 p with
 |true=>
  show(if false=true then _ else _);rw[a6 Fk]
  have e:qE fs fa a n x p=[(x,p)]:=by
   cases n with
   |zero=>rfl
   |succ n=>show(x,p)::(if U5 p=true then[]else _)=_;rw[a7 b]
  rw[e]at g;rw[<- g]at h;exact⟨_,Fo,h⟩
 |false=>
  show(if true=true then _ else _);rw[a7 rfl]
  obtain⟨n,rfl⟩:∃m,n=m+1:=⟨n-1,by
   cases n with
   |zero=>rw[Yp Fl]at b;cases b
   |succ n=>rfl⟩
  have e:qE fs fa a (n+1) x p=(x,p)::qE fs fa a n (fX fs fa p a) (lw fs fa ((fX fs fa p a).2:Nat) ((fX fs fa p a).1:Nat) p a).2:=by
   show(x,p)::(if U5 p=true then[]else _)=_;rw[a6 (by rw[b];decide)]
  obtain⟨j,lk⟩:=Y8 hk k ok b
  have v:St fs fa (x.2:Nat) (x.1:Nat) p a:=by
   have H:p=(lw fs fa (x.2:Nat) (x.1:Nat) U a).2:=ok.tr;rw[H];exact HX _ _ U a
  have Es:0<x.2:=ok.q0
  have y:∀e∈zV fs fa p a,0<=e.1:=λe he=>by
   have h1:=(vM _ _ p a).mp v e he;have h3:(0:Int)<=(x.1:Nat)*(e.2:Nat):=qN Fl Fl;by_cases hn:0<=e.1
   ·exact hn
   ·have:=iZ (show e.1<=0 by lia) (show(0:Int)<=(x.2:Nat) by lia);rw[mF]at this;lia
  have q1:(fX fs fa p a).2<=12:=j.q1;have p1:(fX fs fa p a).1<=60:=j.p1;have Eh:(lw fs fa ((fX fs fa p a).2:Nat) ((fX fs fa p a).1:Nat) p a).2.kn<p.kn:=lk.kn;have s:=(D8 d ((fX fs fa p a).2:Nat) ((fX fs fa p a).1:Nat) p a r f);refine cK (G9 (fX fs fa p a)) (λq c=>⟨_,Fo,_,Fo,_,Fo,fs,an,fa,p,a,Fo,F,d,r,t,u,b,f,k,y,c⟩) ?_;refine cK (jG (lw fs fa ((fX fs fa p a).2:Nat) ((fX fs fa p a).1:Nat) p a).2) (λq c=>⟨_,Fo,_,Fo,_,Fo,_,Fo,fs,an,fa,p,a,((fX fs fa p a).2:Nat),((fX fs fa p a).1:Nat),Fo,F,d,r,Fl,f,k,Fl,Fl,Fl,Fl,c⟩) ?_;refine nZ (ts:=(pre++[(x,p)]).map Fu) (Fu (fX fs fa p a,(lw fs fa ((fX fs fa p a).2:Nat) ((fX fs fa p a).1:Nat) p a).2)) Fo (by rw[aC,bG];show _+1<=_;lia) (λq c=>⟨_,Fo,_,Fo,Fn,c⟩) ?_;refine⟨n,fA _,pre++[(x,p)],fX fs fa p a,(lw fs fa ((fX fs fa p a).2:Nat) ((fX fs fa p a).1:Nat) p a).2,?_,?_,j,s.1,Fl,Fl,Fl,by rw[bG];show _+1+n<=12;lia⟩
  ·rw[bA (l₁:=pre++[(x,p)])];rfl
  ·rw[jZ,<- g,e];rfl
def Kd:dU P w K mg base hW 2 uy wp ["self","numbers"] (cG K (Pe w A)):=by
 refine lZ T.D_2.F Pw λhr nd ds Q h=>?_;obtain⟨fs,an,fa,d,a,b,ns,rfl,S,p,h⟩:=h;refine⟨_,(aP (so 2 nd aL)
 (aP (sf (eW (yS (K:=K) Fo (aH 0))) (rC (lD Fo (dR (pn 3 nd) (dR (pn 4 nd) (dR (pn 5 nd) jS)))))
 (aP (ss 6 nd (cY pY (aA (el (fr:=[none,some 5]) (N':=["number","sides"]) (eW (aH 1)) (λb=>⟨(dJ (pk 0)),(tX (dO jI mO (bD aX cA (aH 1) (aH 0)) eM)),(aH 0)⟩)) aL) jF T.b_tuple kH))
 (aP (ss 7 nd (cY pY (aA (el (fr:=[none,some 5]) (N':=["number","sides"]) (eW (aH 1)) (λb=>⟨(dJ (pk 0)),(tX (dO jI mO (bD aX cA (aH 1) (aH 0)) eM)),(aH 0)⟩)) aL) jF T.b_tuple kH))
 (bC (gT (tv (cd (Lh T) T.D_20 hr (aA (eK (aA (aH 6) (aA (aH 7) aL))) (aA aK aL))))
 (bC (mM (i:=2) (pv 2) (eK (aA (aH 3) (aA (aH 4) (aA (aH 6) (aA (aH 7) aL))))) (pb:=λh=>jJ (kJ bT dF dE iE (pv 2) h))))
 fL)))))
 (lW 2 (bC (cO (aH 2)))))),?_⟩
 show gI _ _ _ [.val (oN A fs an d a b),.val (eS ns),.un,.un,.un,.un,.un,.un];have m:∀i∈ns,i<d.length:=λi y=>p.lt y;have hl:=S.l;have yn:=p.len;have n5:=S.F.n5;have ja:=iX S.F fs λg hg=>hg;have zy:=oZ fs;refine lJ [] Fk (λq j=>j) ?_
 refine hV (ts:=(jL fs).map (Gn fs d)) (λR h=>⟨_,Fo,A,fQ,_,_,Fo,T.C_RowSets,T.n_RowSets_choices,(EA _ _ _ _ _).2.2.2.2,_,Fo,h⟩)
  (λk σ=>∃s3 E H J M:Sl,σ=[.val (oN A fs an d a b),.val (eS ns),.own ((((jL fs).take k).filter (gJ fs (bL d ns))).map (PK fs d ns)),s3,E,H,J,M]) ⟨_,_,_,_,_,Fo⟩ (λk x U f u=>?_) λU u=>?_
 ·obtain⟨s3,E,H,J,M,rfl⟩:=u;rw[aI]at f;obtain⟨c,o,rfl⟩:=bU.mp f;have hc:c∈jL fs:=aU o;obtain⟨w1,w2⟩:=R8 S.F hc S.R m
  have s:∀x∈ns.map (λ(i:Nat)=>aQ (i:Int)),∃(i:Nat)(r:Rw),x=.int (i:Int)/\d[i]?=some r:=λx f=>by
   obtain⟨i,y,rfl⟩:=aR.mp f;exact⟨i,_,Fo,aD (m i y)⟩
  refine⟨_,_,_,Fo,?_⟩;refine cK (eS (yN fs d c ns)) (λq j=>?_) ?_
  ·dsimp only[nM,pZ]
   refine pG (ts:=ns.map λ(i:Nat)=>aQ (i:Int)) (λR h=>⟨_,Fo,_,Fo,h⟩) (nT fs c.1.1 c.1.2.1 c.1.2.2 c.2 d "yes") id (by rw[aC];lia) (λx z f e=>by
    obtain⟨i,r,rfl,n⟩:=s x f;rw[yI n]at e;exact⟨_,Fo,_,Fo,_,L2.fH (v:=aW (fN fs c.1.1 c.1.2.1 c.1.2.2 c.2 r.1)) (by rw[aI,n];rfl),e⟩) (λx z f e=>⟨_,Fo,e⟩) ?_
   rw[w1,nH];exact j
  refine cK (eS (nN fs d c ns)) (λq j=>?_) ?_
  ·dsimp only[nM,pZ]
   refine pG (ts:=ns.map λ(i:Nat)=>aQ (i:Int)) (λR h=>⟨_,Fo,_,Fo,h⟩) (nT fs c.1.1 c.1.2.1 c.1.2.2 c.2 d "no") id (by rw[aC];lia) (λx z f e=>by
    obtain⟨i,r,rfl,n⟩:=s x f;rw[yI n]at e;exact⟨_,Fo,_,Fo,_,L2.fH (v:=aW (fN fs c.1.1 c.1.2.1 c.1.2.2 c.2 r.1)) (by rw[aI,n];rfl),e⟩) (λx z f e=>⟨_,Fo,e⟩) ?_
   rw[w2,nH];exact j
  have hp:=BS (fs:=fs) (c:=c) m
  have rf:((((jL fs).take k).filter (gJ fs (bL d ns))).map (PK fs d ns)).length<=100:=by
   have h1:=bW (gJ fs (bL d ns)) ((jL fs).take k);have h2:((jL fs).take k).length<=(jL fs).length:=by rw[bB];lia
   rw[aC];lia
  have W:(jL fs).take (k+1)=(jL fs).take k++[c]:=by rw[cS,o];rfl
  refine mY (λt=>t=gJ fs (bL d ns) c) (λq j=>⟨_,Fo,_,Fo,Fn,_,_,_,_,1,Fo,.inr ⟨Fo,Fo⟩,j _ (by rw[UF,UF];exact hp.symm)⟩) (λht=>?_) λhf=>?_
  ·refine nZ (PK fs d ns c) Fo Fl (λq j=>⟨_,Fo,_,Fo,_,Fo,_,Fo,Fn,j⟩) ⟨.val (qD c.1),.val (.str c.2),.val (YA fs d c),.val (eS (yN fs d c ns)),.val (eS (nN fs d c ns)),?_⟩;rw[W,fC,bA,cH,a7 ht.symm];rfl
  ·refine⟨.val (qD c.1),.val (.str c.2),.val (YA fs d c),.val (eS (yN fs d c ns)),.val (eS (nN fs d c ns)),?_⟩;rw[W,fC,bA,cH,a6 (by rw[<- hf];decide)];show _=[_,_,Sl.own (_++[]),_,_,_,_,_];rw[fR];rfl
 ·obtain⟨s3,E,H,J,M,rfl⟩:=u;rw[aC,dA];exact⟨_,Fo,_,Fo,h⟩
def Sh:dU P w K mg base hW 4 ke og ["form","choice","rows"] (cG K Vo):=by
 refine lZ T.D_21.F Te λj nd l Q h=>?_;obtain⟨fs,an,c,f,rfl,F,g,e,m,h⟩:=h;refine⟨_,(bC (cO (el (fr:=[none,some 0,some 1]) (N':=["row","form","choice"]) (eW (aH 2)) (λb=>⟨(dJ (pk 0)),iR,(cd (T1 T) T.D_14 j (aA (aH 1) (aA (bD aX cA (aH 2) aK) (aA (bD aX cA (aH 2) aK) (aA (bD aX cA (aH 0) aK) aL)))))⟩)))),?_⟩;show sT _ _ [.val (dX fs an),.val (W3 c),.val (.list (f.map dQ))];obtain⟨i,hs⟩:=yU g;refine jK (ts:=f.map dQ) (λR h=>⟨_,Fo,_,Fo,h⟩) (λx=>match x with | .tuple [.tuple cs,_]=>.str (fN fs c.1.1 c.1.2.1 c.1.2.2 c.2 cs) | _=>.none) (by rw[aC];lia) (λx n k a=>?_) ?_
 ·obtain⟨r,d,rfl⟩:=aR.mp k;exact⟨_,Fo,_,Fo,_,Fo,_,Fo,_,Fo,_,Fo,_,Fo,fs,an,c.1.1,c.1.2.1,c.1.2.2,c.2,r.1,Fo,F,yD i,hs,(e r d).1,a⟩
 ·rw[bM];exact h
def Ox:dU P w K mg base hW 5 uw wn ["self","form","rows","prices"] (AX A fQ K Pc):=by
 refine Nr T.D_0.F Pu λi nd r t Q h=>?_;obtain⟨fs,an,f,a,b,rfl,F,e,p,h⟩:=h;refine⟨_,(wY T.C_RowSets T.n_RowSets_form (pv 0) (aH 1)
 (wY T.C_RowSets T.n_RowSets_kept (pv 0) (cY MC (aA (aH 2) aL) sD T.b_list uT)
 (wY T.C_RowSets T.n_RowSets_slip (pv 0) (bD aX cA (aH 3) aK)
 (wY T.C_RowSets T.n_RowSets_knot (pv 0) (bD aX cA (aH 3) aK)
 (wY T.C_RowSets T.n_RowSets_choices (pv 0) (el (fr:=[none,some 1,some 2]) (N':=["choice","form","rows"]) (eW (cd (Lf T) T.D_13 i (aA (aH 1) aL))) (λb=>⟨(dJ (pk 0)),iR,(cJ cZ gU (aH 0) (eK (aA (cd (Sh T) T.D_21 i (aA (aH 1) (aA (aH 0) (aA (aH 2) aL)))) aL)))⟩))
 aD5))))),?_⟩
 show Jt _ _ _ _ _ [.val r,.val (dX fs an),.val (.list (f.map dQ)),.val (.tuple [.int a,.int b])];have n5:=F.n5;have m:=iX F fs λg o=>o;have l:=oZ fs;refine⟨_,Fo,Fn,(λz=>nomatch z),_,Fo,Fn,(show("kept":Str)∉(["form"]:List Str)from by decide +kernel),_,Fo,_,Fo,Fn,(show("slip":Str)∉(["form","kept"]:List Str)from by decide +kernel),_,Fo,_,Fo,Fn,(show("knot":Str)∉(["form","kept","slip"]:List Str)from by decide +kernel),?_⟩;refine jK (ts:=(jL fs).map W3) (λR h=>⟨_,Fo,fs,an,Fo,F,_,Fo,h⟩) (λx=>match x with | .tuple [.tuple [.str k,.str n,.str v],.str s]=>Gn fs f ((k,n,v),s) | _=>.none) (by rw[aC];lia) (λx u q d=>?_) ?_
 ·obtain⟨c,j,rfl⟩:=aR.mp q;exact⟨_,Fo,_,Fo,_,Fo,_,Fo,fs,an,c,f,Fo,F,j,e,p,Fn,Fn,d⟩
 ·rw[bM];exact⟨Fn,(show("choices":Str)∉(["form","kept","slip","knot"]:List Str)from by decide +kernel),Fo,h⟩
def Jw:dU P w K mg base hW 3 ux wo ["self","numbers"] (cG K (Pd w A)):=by
 refine lZ T.D_1.F Pv λu nd M Q h=>?_;obtain⟨fs,an,fa,c,a,b,ns,rfl,S,g,h⟩:=h;refine⟨_,(aP (pD (i:=2) (fr:=[none,some 0]) (N':=["number","self"]) (eW (aH 1)) (λb=>⟨(dJ (pk 0)),iR,(bD aX cA (yS (K:=K) Fo (aH 1)) (aH 0))⟩) (λf y=>nS (show qZ _ (aZ (vS (top 26) 1)) ["self","numbers","rows","slips"] ["number","self"] [none,some 0]=true from by decide +kernel) nd Fo (by first | exact v7 Fo | exact r8 Fo) Fo f y Fo))
 (aP (ss 3 nd (cJ mN vR (cB gQ (aA (aH 2) aL) bY T.b_len eZ) (cB V9 (aA (rD (cF (Ij T) T.D_3 u (aA (yS (K:=K) Fo (aH 0)) (aA (aH 2) aL)))) aL) (qI Fo) T.b_max GN)))
 (bC (cO (eK (aA (cJ fV lN (yS (K:=K) Fo (aH 0)) (aH 3)) (aA (eK (aA eM (aA (cd (Ik T) T.D_4 u (aA (yS (K:=K) Fo (aH 0)) (aA (aH 2) aL))) aL))) aL))))))),?_⟩
 show gI _ _ _ [.val (oN A fs an c a b),.val (eS ns),.un,.un];have d:∀i∈ns,i<c.length:=λi f=>g.lt f;have o:=NC S.R ns;have U:=S.l;have H:=g.len;have k:(bL c ns).length<=60:=by rw[wS d];lia
 refine cK (.list ((bL c ns).map dQ)) (λq n=>?_) ?_
 ·refine jK (ts:=ns.map λ(i:Nat)=>aQ (i:Int)) (λR h=>⟨_,Fo,_,Fo,h⟩) (qW c) (by rw[aC];lia) (λx q' p j=>?_) (by rw[FN d];exact n);obtain⟨i,f,rfl⟩:=aR.mp p;have s:c[i]?=some (c[i]'(d i f)):=aD (d i f);refine⟨_,Fo,A,fQ,_,_,Fo,T.C_RowSets,T.n_RowSets_kept,(EA _ _ _ _ _).2.1,_,Fo,_,L2.fH (v:=dQ (c[i]'(d i f))) (by rw[aI,s];rfl),?_⟩
  have e:qW c (.int (i:Int))=dQ (c[i]'(d i f)):=by
   show(match L2.atI c (i:Int)with | some r=>dQ r | none=>uY)=_;rw[L2.fH s]
  rw[e]at j;exact j
 have t:=S.fa _ o;have W:=FY (bL c ns) (fa (bL c ns));refine cK (.int (eE fs (.say (fa (bL c ns))) (bL c ns):Nat)) (λq n=>?_) ?_
 ·refine⟨_,Fo,_,Fo,A,fQ,_,_,Fo,T.C_RowSets,T.n_RowSets_form,(EA _ _ _ _ _).1,_,Fo,fs,an,bL c ns,Fo,S.F,o,k,kB an (bL c ns),Fo,?_,λm E p=>?_⟩
  ·intro z;have a2:=S.F.a2;have:=e8 gC z;unfold kB at this;rw[aC,C8]at this;lia
  ·rw[ZB t E p];show q (.int (((((bL c ns).map dQ).length:Nat):Int)-_));rw[wQ]at n;have e:((((bL c ns).map dQ).length:Nat):Int)-(rG (bL c ns) (fa (bL c ns)):Int)=((IN (bL c ns) (fa (bL c ns)):Nat):Int):=by rw[aC];lia
   rw[e];exact n
 have hs:=wQ (fs:=fs) (bL c ns) (fa (bL c ns));have a0:=S.a0;have a1:=S.a1;refine⟨_,Fo,A,fQ,_,_,Fo,T.C_RowSets,T.n_RowSets_slip,(EA _ _ _ _ _).2.2.1,_,Fo,.inl ⟨Fl,Fl⟩,_,Fo,A,fQ,_,_,Fo,T.C_RowSets,T.n_RowSets_form,(EA _ _ _ _ _).1,_,Fo,fs,an,bL c ns,Fo,S.F,o,k,λz J=>?_⟩;rw[J.uniq t];exact⟨Fn,Fn,h⟩
def TY:dU P w K mg base hW 4 lf oy ["sets","known","numbers","deep"] (cG K (Xl w A)):=by
 refine lZ T.D_35.F Ts λg nd k Q h=>?_;obtain⟨fs,an,fa,i,a,b,c,ns,d,rfl,S,f,hok,e,h⟩:=h;refine⟨_,(bC (cO (B9 (dO oI lF (aH 3) aK) (CA (w:=w) Fo g.u9 (aH 1) (eK (aA (aH 2) (aA (aH 3) aL)))) (xG (aH 0) (aA (aH 2) aL) (λh j=>AQ h T.C_RowSets T.M_1 (Jw (w:=w) T) (g.mono Fk) T.D_1.d .nil zJ j))))),?_⟩;show sT _ _ [.val (oN A fs an i a b),.val (mB w c),.val (eS ns),.val (.int (d:Nat))];refine⟨_,Fo,?_⟩;show(if decide ((0:Int)<((d:Nat):Int))=true then _ else _);by_cases hd:d=0
 ·subst hd;rw[a6 Fk];exact⟨_,Fo,fQ,_,Fo,M3,_,Fo,fs,an,fa,i,a,b,ns,Fo,S,f,h⟩
 ·rw[a7 (a8 Fl)];exact⟨_,Fo,_,Fo,_,Fo,Fn,c,Fo,kX ns d,hok,_,e.resolve_left hd,h⟩
def Rh:dU P w K mg base hW 5 la ox ["sets","known","numbers","deep"] (cG K (Xk w A)):=by
 refine lZ T.D_34.F Tq λE nd ds Q h=>?_;obtain⟨fs,an,fa,rs,a,b,f,ns,d,rfl,S,l,hok,M,h⟩:=h;refine⟨_,(aP (ss 4 nd (xG (aH 0) (aA (aH 2) aL) (λh J=>AQ h T.C_RowSets T.M_1 (Jw (w:=w) T) (E.mono Fk) T.D_1.d .nil zJ J)))
 (aP (sf (eW (xG (aH 0) (aA (aH 2) aL) (λh J=>AQ h T.C_RowSets T.M_2 (Kd (w:=w) T) (E.mono Fk) T.D_2.d .nil zJ J))) (N2 (lD Fo (dR (pn 5 nd) (dR (pn 6 nd) (dR (pn 7 nd) (dR (pn 8 nd) jS))))))
 (aP (ss 9 nd (cd (TY (w:=w) T) T.D_35 E (aA (aH 0) (aA (aH 1) (aA (aH 7) (aA (cJ mN vR (aH 3) aK) aL))))))
 (aP (ss 10 nd (cd (TY (w:=w) T) T.D_35 E (aA (aH 0) (aA (aH 1) (aA (aH 8) (aA (cJ mN vR (aH 3) aK) aL))))))
 (aP (ss 11 nd (cJ cZ gU (cJ cZ gU (yS (K:=K) Fo (aH 0)) (bD aX cA (aH 9) aK)) (bD aX cA (aH 10) aK)))
 (bC (gT (dO zK lF (aH 11) (bD aX cA (aH 4) aK))
 (bC (ss 4 nd (eK (aA (aH 11) (aA (eK (aA eM (aA (aH 5) (aA (aH 6) (aA (bD aX cA (aH 9) aK) (aA (bD aX cA (aH 10) aK) aL)))))) aL)))))
 fL))))))
 (bC (cO (aH 4))))),?_⟩
 show gI _ _ _ [.val (oN A fs an rs a b),.val (mB w f),.val (eS ns),.val (.int ((d+1:Nat):Int)),.un,.un,.un,.un,.un,.un,.un,.un];have U:∀i∈ns,i<rs.length:=λi hi=>l.lt hi;refine cK (mV (pF fs fa a (bL rs ns))) (λq m=>⟨_,Fo,fQ,_,Fo,M3,_,Fo,fs,an,fa,rs,a,b,ns,Fo,S,l,m⟩) ?_
 refine hV (ts:=((jL fs).filter (gJ fs (bL rs ns))).map (PK fs rs ns)) (λR h=>⟨_,Fo,fQ,_,Fo,M1,_,Fo,fs,an,fa,rs,a,b,ns,Fo,S,l,_,Fo,h⟩)
  (λk σ=>∃n o p r s g j:Sl,σ=[.val (oN A fs an rs a b),.val (mB w f),.val (eS ns),.val (.int ((d+1:Nat):Int)),.val (mV ((((jL fs).filter (gJ fs (bL rs ns))).take k).foldl (λe c=>oQ b c (fF fs fa a b d (yR fs c (bL rs ns))) (fF fs fa a b d (nR fs c (bL rs ns))) e) (pF fs fa a (bL rs ns)))),n,o,p,r,s,g,j]) ⟨_,_,_,_,_,_,_,Fo⟩ (λk x bi hx H=>?_) λbi H=>?_
 ·obtain⟨n,o,p,r,s,g,j,rfl⟩:=H;rw[aI]at hx;obtain⟨c,u,rfl⟩:=bU.mp hx;obtain⟨hc,hp⟩:=cL.mp (aU u);obtain⟨i1,i2⟩:=M c hc hp;obtain⟨e1,e2⟩:=FM (fs:=fs) (rs:=rs) (c:=c) U;have ed:(((d+1:Nat):Int)-1)=((d:Nat):Int):=by lia
  have z:∀x:D,[oN A fs an rs a b,mB w f,x,aQ (((d+1:Nat):Int)-1)]=[oN A fs an rs a b,mB w f,x,.int (d:Nat)]:=λx=>by rw[ed]
  have et:((jL fs).filter (gJ fs (bL rs ns))).take (k+1)=((jL fs).filter (gJ fs (bL rs ns))).take k++[c]:=by rw[cS,u];rfl
  have fin:∀v:Int×Tr,v=oQ b c (fF fs fa a b d (yR fs c (bL rs ns))) (fF fs fa a b d (nR fs c (bL rs ns))) ((((jL fs).filter (gJ fs (bL rs ns))).take k).foldl (λe c=>oQ b c (fF fs fa a b d (yR fs c (bL rs ns))) (fF fs fa a b d (nR fs c (bL rs ns))) e) (pF fs fa a (bL rs ns)))->∀n o p r s g j:Sl,∃t5 t6 t7 t8 t9 W Dq:Sl,[.val (oN A fs an rs a b),.val (mB w f),.val (eS ns),.val (.int ((d+1:Nat):Int)),.val (mV v),n,o,p,r,s,g,j]=[.val (oN A fs an rs a b),.val (mB w f),.val (eS ns),.val (.int ((d+1:Nat):Int)),.val (mV ((((jL fs).filter (gJ fs (bL rs ns))).take (k+1)).foldl (λe c=>oQ b c (fF fs fa a b d (yR fs c (bL rs ns))) (fF fs fa a b d (nR fs c (bL rs ns))) e) (pF fs fa a (bL rs ns)))),t5,t6,t7,t8,t9,W,Dq]:=λv hv n o p r s g j=>by
   refine⟨n,o,p,r,s,g,j,?_⟩;rw[et,WU,hv];rfl
  rw[<- e1,<- e2]at fin
  generalize hF:((((jL fs).filter (gJ fs (bL rs ns))).take k).foldl (λe c=>oQ b c (fF fs fa a b d (yR fs c (bL rs ns))) (fF fs fa a b d (nR fs c (bL rs ns))) e) (pF fs fa a (bL rs ns)))=e at fin |-
  refine⟨_,_,_,_,Fo,?_⟩;refine cK (mV (fF fs fa a b d (bL rs (yN fs rs c ns)))) (λq m=>⟨_,Fo,_,Fo,_,Fo,_,Fo,fs,an,fa,rs,a,b,f,yN fs rs c ns,d,z _,S,l.filt _,hok,i1,m⟩) ?_;refine cK (mV (fF fs fa a b d (bL rs (nN fs rs c ns)))) (λq m=>⟨_,Fo,_,Fo,_,Fo,_,Fo,fs,an,fa,rs,a,b,f,nN fs rs c ns,d,z _,S,l.filt _,hok,i2,m⟩) ?_
  generalize fF fs fa a b d (bL rs (yN fs rs c ns))=x at fin |-
  generalize fF fs fa a b d (bL rs (nN fs rs c ns))=y at fin |-
  refine cK (.int (b+x.1+y.1)) (λq m=>⟨_,Fo,A,fQ,_,_,Fo,T.C_RowSets,T.n_RowSets_knot,(EA _ _ _ _ _).2.2.2.1,_,Fo,_,Fo,_,Fo,_,Fo,m⟩) ?_;refine mY (λt=>t=decide (b+x.1+y.1<e.1)) (λq m=>⟨_,Fo,_,Fo,_,Fo,m _ Fo⟩) (λht=>?_) λhf=>?_
  ·refine mH (mV (b+x.1+y.1,.ask c.1.1 c.1.2.1 c.1.2.2 c.2 x.2 y.2)) (λq m=>⟨_,Fo,_,Fo,_,Fo,_,Fo,_,Fo,_,Fo,_,Fo,Fn,Fn,m⟩) ?_;refine fin (b+x.1+y.1,.ask c.1.1 c.1.2.1 c.1.2.2 c.2 x.2 y.2) ?_ _ _ _ _ _ _ _;unfold oQ;rw[a7 (b8 ht.symm)]
  ·refine fin e ?_ _ _ _ _ _ _ _;unfold oQ;rw[a6 (i7 hf.symm)]
 ·obtain⟨n,o,p,r,s,g,j,rfl⟩:=H;rw[aC,dA];exact⟨_,Fo,h⟩
def Rg:dU P w K mg base hW 3 kx ow ["sets","level"] (cG K (Xj w A)):=by
 refine lZ T.D_33.F Va λhr nd ds Q h=>?_;obtain⟨fs,an,fa,f,a,b,lv,rfl,S,gS,yj,h⟩:=h;refine⟨_,(aP (sn 2 nd)
 (aP (sf (eW (aH 1)) (dJ (pn 3 nd))
 (bC (sf (eW (xG (aH 0) (aA (aH 3) aL) (λh ha=>AQ h T.C_RowSets T.M_2 (Kd (w:=w) T) (hr.mono Fk) T.D_2.d .nil zJ ha))) (N2 (lD Fo (dR (pn 4 nd) (dR (pn 5 nd) (dR (pn 6 nd) (dR (pn 7 nd) jS))))))
 (aP (wP (i:=2) hr.u9 (pv 2) (aH 6) nL)
 (bC (wP (i:=2) hr.u9 (pv 2) (aH 7) nL))))))
 (qS 2 (bC (cO (B8 (aH 2) (pc:=λh=>gH (oP Fo) Fo T.b_list uT h))))))),?_⟩
 show gI _ _ _ [.val (oN A fs an f a b),.val (.list (lv.map eS)),.un,.un,.un,.un,.un,.un];have jn:∀o:List (List Nat),∀kv∈nJ eS o,jX kv.1:=λo=>KR (λx=>(uR x).1) o;have n5:=S.F.n5;have ja:=iX S.F fs λg hg=>hg;have zy:=oZ fs;have hN:(jL fs).length<=100:=by lia
 refine tO (w:=w) (show 2<8 by decide) (λj hs kvs J=>?_) ?_
 ·rcases j with _ | _ | _ | _ | _ | _ | _ | _ | j<;>simp at J
 refine hV (ts:=lv.map eS) (λR h=>⟨_,Fo,_,Fo,h⟩)
  (λk σ=>∃(o:List (List Nat))(s3 s4 s5 s6 s7:Sl),σ=[.val (oN A fs an f a b),.val (.list (lv.map eS)),pR w (nJ eS o),s3,s4,s5,s6,s7]/\o.Nodup/\o.length<=2*(jL fs).length*k/\(∀x∈o,nD f x/\x≠[])/\∀(j:Nat)(ns:List Nat),j<k->lv[j]?=some ns->∀c∈jL fs,gJ fs (bL f ns) c=true->yN fs f c ns∈o/\nN fs f c ns∈o)
  ⟨[],_,_,_,_,_,Fo,E8,Fm,(λx n=>by simp at n),λj ns J=>a9 J (pM _)⟩ (λk x bi n M=>?_) λbi M=>?_
 ·obtain⟨o,s3,s4,s5,s6,s7,rfl,jl,r,hok,p⟩:=M;rw[aI]at n;obtain⟨ns,xf,rfl⟩:=bU.mp n;have t:=yj ns (aU xf);have vz:k<lv.length:=(aE.mp xf).1;have jm:=bW (gJ fs (bL f ns)) (jL fs);have Ej:2*(jL fs).length*k<=2*100*400:=fZ (fZ (aN 2) hN) Fl
  refine JN (ts:=((jL fs).filter (gJ fs (bL f ns))).map (PK fs f ns)) (λR h=>⟨_,Fo,fQ,_,Fo,M1,_,Fo,fs,an,fa,f,a,b,ns,Fo,S,t,_,Fo,h⟩)
   (λi σ=>∃(u:List (List Nat))(s4 s5 s6 s7:Sl),σ=[.val (oN A fs an f a b),.val (.list (lv.map eS)),pR w (nJ eS u),.val (eS ns),s4,s5,s6,s7]/\u.Nodup/\u.length<=2*(jL fs).length*k+2*i/\(∀x∈u,nD f x/\x≠[])/\(∀x∈o,x∈u)/\∀(j:Nat)(c:Ch),j<i->((jL fs).filter (gJ fs (bL f ns)))[j]?=some c->yN fs f c ns∈u/\nN fs f c ns∈u)
   ⟨o,_,_,_,_,Fo,jl,r,hok,λx n=>n,λj c J=>a9 J (pM _)⟩ (λi x bi n M=>?_) λbi M=>?_
  ·obtain⟨u,s4,s5,s6,s7,rfl,ui,v,E,s,m⟩:=M;rw[aI]at n;obtain⟨c,W,rfl⟩:=bU.mp n;have vp:i<((jL fs).filter (gJ fs (bL f ns))).length:=(aE.mp W).1;have H:=(cL.mp (aU W)).2;rw[BS λi hi=>t.lt hi,dN]at H;have e1:=GB u (yN fs f c ns);have e2:=GB (yP u (yN fs f c ns)) (nN fs f c ns);have tl:∀l:List (List Nat),(nJ eS l).length=l.length:=λl=>by unfold nJ;rw[aC]
   refine⟨_,_,_,_,Fo,?_⟩;refine PC (w:=w) (eS (yN fs f c ns)) (.bool true) Fo (λq hq=>hq) Fo (λq hq=>⟨_,Fo,hq⟩) (uR _) (jn _) (by rw[tl];lia) ?_;rw[wV (λx y=>AU)];refine yH (w:=w) (eS (nN fs f c ns)) (.bool true) Fo (λq hq=>hq) Fo (λq hq=>⟨_,Fo,hq⟩) (uR _) (jn _) (by rw[tl];lia) ?_;rw[wV (λx y=>AU)];refine⟨yP (yP u (yN fs f c ns)) (nN fs f c ns),_,_,_,_,Fo,U6 (U6 ui),Fl,λx n=>?_,λx n=>mI.mpr (.inl (mI.mpr (.inl (s x n)))),λj c' J U=>?_⟩
   ·rcases mI.mp n with n | rfl
    ·rcases mI.mp n with n | rfl
     ·exact E x n
     ·exact⟨t.filt _,λe=>by rw[e]at H;cases H.1⟩
    ·exact⟨t.filt _,λe=>by rw[e]at H;cases H.2⟩
   ·by_cases Bw:j<i
    ·obtain⟨g1,g2⟩:=m j c' Bw U;exact⟨mI.mpr (.inl (mI.mpr (.inl g1))),mI.mpr (.inl (mI.mpr (.inl g2)))⟩
    ·have:j=i:=by lia
     subst this;rw[W]at U;cases U;exact⟨mI.mpr (.inl (mI.mpr (.inr Fo))),mI.mpr (.inr Fo)⟩
  ·obtain⟨u,s4,s5,s6,s7,rfl,ui,v,E,s,m⟩:=M;rw[aC]at v m;refine⟨u,_,_,_,_,_,Fo,ui,?_,E,λj De J z c hc hp=>?_⟩
   ·have:2*(jL fs).length*(k+1)=2*(jL fs).length*k+2*(jL fs).length:=aMq _ _;lia
   ·by_cases Bx:j<k
    ·obtain⟨g1,g2⟩:=p j De Bx z c hc hp;exact⟨s _ g1,s _ g2⟩
    ·have:j=k:=by lia
     subst this;rw[xf]at z;cases z;obtain⟨i,hi⟩:=bP (cL.mpr ⟨hc,hp⟩);exact m i c (aE.mp hi).1 hi
 ·obtain⟨o,s3,s4,s5,s6,s7,rfl,jl,r,hok,p⟩:=M;rw[aC]at r p;refine⟨_,_,Fo,_,Fo,nJ eS o,Fo,?_⟩;rw[wN];refine h o jl r hok λns t c hc hp=>?_;obtain⟨j,J⟩:=bP t;exact p j ns (aE.mp J).1 J c hc hp
def Rf:dU P w K mg base hW 4 ku ou ["sets","numbers","deep"] (cG K (Vz w A)):=by
 refine lZ T.D_32.F Uz λhr nd ds Q h=>?_;obtain⟨fs,an,fa,o,a,b,ns,dp,rfl,S,rh,im,wz,vi,h⟩:=h;refine⟨_,(aP (sn 3 nd)
 (aP (ss 4 nd (kG (aA (aH 1) aL)))
 (aP (sf (U3 (aA (aH 2) (aA aK (aA (LY aK) aL))) (λh=>S3 Fo T.b_range h)) (dJ (pn 5 nd))
 (aP (sf (eW (aH 4)) (dJ (pn 6 nd))
 (bC (wP (i:=3) hr.u9 (pv 3) (eK (aA (aH 6) (aA (aH 5) aL))) nL)))
 (aP (gT (dO oI lF (VX (i:=3) (tT QW Fo T.b_len eZ (jC (pv 3) lE))) (Z5 Fo T.c_MOST_SETS))
 (bC Ms)
 fL)
 (bC (ss 4 nd (B9 (dO oI lF (aH 5) aK) (cd (Rg (w:=w) T) T.D_33 hr (aA (aH 0) (aA (aH 4) aL))) (kG aL)))))))
 (qS 3 (bC (cO (B8 (aH 3) (pc:=λh=>gH (oP Fo) Fo T.b_list uT h)))))))),?_⟩
 show gI _ _ _ [.val (oN A fs an o a b),.val (eS ns),.val (.int (dp:Nat)),.un,.un,.un,.un];have jn:∀ks:List (List Nat×Nat),∀kv∈nJ kZ ks,jX kv.1:=λks=>KR (kf:=kZ) (λx=>(kX x.1 x.2).1) ks;have tl:∀l:List (List Nat×Nat),(nJ kZ l).length=l.length:=λl=>by unfold nJ;rw[aC]
 have n5:=S.F.n5;have ja:=iX S.F fs λg hg=>hg;have Ed:=oZ fs;have hN:(jL fs).length<=100:=by lia
 have cm:=λk=>CL (2*(jL fs).length) (k:=k) (n:=dp);refine tO (w:=w) (show 3<7 by decide) (λj hs kvs U=>?_) ?_
 ·rcases j with _ | _ | _ | _ | _ | _ | _ | j<;>simp at U
 refine cK (.list [eS ns]) (λq p=>⟨_,Fo,Fn,p⟩) ?_
 refine hV (ts:=qH ((dp:Nat):Int)) (λR h=>⟨_,Fo,((dp:Nat):Int),Fo,Fl,Fl,h⟩)
  (λk σ=>∃(ks:List (List Nat×Nat))(m:List (List Nat))(s5 u:Sl),σ=[.val (oN A fs an o a b),.val (eS ns),.val (.int (dp:Nat)),pR w (nJ kZ ks),.val (.list (m.map eS)),s5,u]/\J4 fs o ns dp k ks m/\m.length<=(2*(jL fs).length)^k/\ks.length<=MA (2*(jL fs).length) k/\(∀x∈ks,x.1≠[])/\∀x∈m,x≠[])
  ⟨[],[ns],_,_,Fo,⟨E8,Fm,(λx hx=>by rw[dH.mp hx];exact rh),(λx hx=>by simp at hx),λ_=>⟨Fo,Fo⟩,(λz=>a9 z Fl),(λi x d hi=>by simp at hi)⟩,(aN _),(aN _),(λx hx=>by simp at hx),λx hx=>by rw[dH.mp hx];exact im⟩ (λk x J hx E=>?_) λJ E=>?_
 ·obtain⟨ks,m,s5,u,rfl,M,s,r,H,ui⟩:=E;obtain⟨xc,rfl⟩:=Z9 hx
  have ym:∀y∈m,(y,dp-k)∉ks:=λy _ hm=>by
   have:=(M.ko _ hm).2.1;dsimp only at this;lia
  have vx:=cm (k+1) xc;have yh:MA (2*(jL fs).length) (k+1)=MA (2*(jL fs).length) k+(2*(jL fs).length)^k:=rfl
  refine hV (ts:=m.map eS) (λR h=>⟨_,Fo,_,Fo,h⟩)
   (λi σ=>∃u:Sl,σ=[.val (oN A fs an o a b),.val (eS ns),.val (.int (dp:Nat)),pR w (nJ kZ (ks++(m.take i).map λx=>(x,dp-k))),.val (.list (m.map eS)),.val (.int ((dp-k:Nat):Int)),u]) ⟨u,Fm⟩ (λi x J hx E=>?_) λJ E=>?_
  ·obtain⟨u,rfl⟩:=E;rw[aI]at hx;obtain⟨y,hy,rfl⟩:=bU.mp hx;have zb:=aU hy
   have yo:(y,dp-k)∉ks++(m.take i).map λx=>(x,dp-k):=λz=>by
    rcases eA.mp z with z | z
    ·exact ym y zb z
    ·obtain⟨y',wc,e⟩:=aR.mp z;injection e with e _
     subst e;obtain⟨j,U⟩:=bP wc;have xa:=(aE.mp U).1;rw[bB]at xa;rw[gR,a7 Fl]at U;have:=BW M.nl U hy;lia
   have sk:(ks++(m.take i).map λx=>(x,dp-k)).length<=400:=by rw[bG,aC,bB];lia
   refine yH (w:=w) (kZ (y,dp-k)) (.bool true) Fo (λq p=>p) Fo (λq p=>⟨_,Fo,_,Fo,Fn,p⟩) (kX _ _) (jn _) (by rw[tl];lia) ?_;rw[wV xD,ZT yo];refine⟨.val (eS y),?_⟩;rw[cS,hy];show _=[_,_,_,pR w (nJ kZ (ks++(m.take i++[y]).map λx=>(x,dp-k))),_,_,_];rw[bA,<- jZ];rfl
  ·obtain⟨u,rfl⟩:=E;rw[aC,dA];have Ca:(ks++m.map λx=>(x,dp-k)).length<=400:=by rw[bG,aC];lia
   refine fW (λt=>t=false) (λq p=>⟨_,_,Fo,?_⟩) (λhT=>by cases hT) λ_=>?_
   ·refine p _ (c4 ?_);rw[tl];lia
   try unfold jD
   dsimp only;have M0:∀f,f.Nodup->(∀x∈f,nD o x)->(k+1<dp->∀x∈m,∀c∈jL fs,gJ fs (bL o x) c=true->yN fs o c x∈f/\nN fs o c x∈f)->J4 fs o ns dp (k+1) (ks++m.map λx=>(x,dp-k)) f:=λf h1 h2 h3=>M.step xc h1 h2 h3;have W:(ks++m.map λx=>(x,dp-k)).length<=MA (2*(jL fs).length) (k+1):=by rw[bG,aC,yh];lia
   have yl:∀x∈ks++m.map λx=>(x,dp-k),x.1≠[]:=λx hx=>by
    rcases eA.mp hx with hx | hx
    ·exact H x hx
    ·obtain⟨y,hy,rfl⟩:=aR.mp hx;exact ui y hy
   refine TU (λv=>∃f:List (List Nat),v=.list (f.map eS)/\J4 fs o ns dp (k+1) (ks++m.map λx=>(x,dp-k)) f/\f.length<=(2*(jL fs).length)^(k+1)/\∀x∈f,x≠[]) (λq p=>⟨_,Fo,?_⟩) ?_
   ·show(if decide ((1:Int)<((dp-k:Nat):Int))=true then _ else _);by_cases hg:1<dp-k
    ·rw[a7 (a8 Fl)];refine⟨_,Fo,_,Fo,fs,an,fa,o,a,b,m,Fo,S,Fl,M.lo,λls g1 g2 g3 g4=>p _ ⟨ls,Fo,M0 ls g1 (λx hx=>(g3 x hx).1) λ_=>g4,?_,λx hx=>(g3 x hx).2⟩⟩;rw[uF,uG];exact bJ g2 (fZ (aN _) s)
    ·rw[a6 (λz=>by have:=b8 z;lia)];exact⟨Fn,p _ ⟨[],Fo,M0 [] E8 (λx hx=>by simp at hx) (λz=>a9 z Fl),cI _,λx hx=>by simp at hx⟩⟩
   ·rintro _ ⟨f,rfl,M',yi,yk⟩;exact⟨_,f,_,_,Fo,M',yi,W,yl,yk⟩
 ·obtain⟨ks,m,s5,u,rfl,M,s,r,H,ui⟩:=E;rw[V4]at M r;refine⟨_,_,Fo,_,Fo,nJ kZ ks,Fo,?_⟩;rw[wN];refine h ks ⟨M.nd,Fl,λx hx=>?_,M.z1,λx d hx c hc hp=>?_⟩ M.fin
  ·obtain⟨h1,h2,h3,h4⟩:=M.ko x hx;exact⟨h1,h4,Fl,H x hx⟩
  ·obtain⟨i,hi⟩:=bP hx;obtain⟨⟨j1,_,g1⟩,j2,_,g2⟩:=M.fin i x d hi c hc hp;exact⟨aU g1,aU g2⟩
def Re:dU P w K mg base hW 6 kt ot ["sets","numbers","deep"] (cG K (Vy w A)):=by
 refine lZ T.D_31.F Uy λhr nd ds Q h=>?_;obtain⟨fs,an,fa,f,a,b,ns,dp,rfl,S,rh,im,W,U,h⟩:=h;refine⟨_,(aP (sn 3 nd)
 (aP (sf (Yq (aA (cd (Rf (w:=w) T) T.D_32 hr (aA (aH 0) (aA (aH 1) (aA (aH 2) aL)))) aL) (λh=>Zu Fo T.b_reversed h)) (dJ (pn 4 nd))
 (bC (wP (i:=3) hr.u9 (pv 3) (aH 4) (cd (Rh (w:=w) T) T.D_34 hr (aA (aH 0) (aA (aH 3) (aA (bD aX cA (aH 4) aK) (aA (bD aX cA (aH 4) aK) aL))))))))
 (qS 3 (bC (cO (aH 3)))))),?_⟩
 show gI _ _ _ [.val (oN A fs an f a b),.val (eS ns),.val (.int (dp:Nat)),.un,.un];refine tO (w:=w) (show 3<5 by decide) (λj hs kvs o=>?_) ?_
 ·rcases j with _ | _ | _ | _ | _ | j<;>simp at o
 refine⟨_,Fo,_,Fo,_,Fo,fs,an,fa,f,a,b,ns,dp,Fo,S,rh,im,W,U,λks hG p=>⟨_,Fo,?_⟩⟩;obtain⟨jl,rf,hok,vq,R⟩:=id hG;rw[<- List.map_reverse];have Cp:ks.reverse.length=ks.length:=pP;have E:ks.reverse.Nodup:=List.pairwise_reverse.mpr (jl.imp λh=>l6 h)
 have H:∀l:List (List Nat×Nat),∀kv∈l.map (λx=>(kZ x,mV (fF fs fa a b x.2 (bL f x.1)))),jX kv.1:=λl kv wa=>by
  obtain⟨x,_,rfl⟩:=aR.mp wa;exact(kX x.1 x.2).1
 refine⟨λk σ=>∃s4:Sl,σ=[.val (oN A fs an f a b),.val (eS ns),.val (.int (dp:Nat)),pR w ((ks.reverse.take k).map (λx=>(kZ x,mV (fF fs fa a b x.2 (bL f x.1))))),s4],⟨_,Fo⟩,λk x bi n J=>?_,λbi J=>?_⟩
 ·obtain⟨s4,rfl⟩:=J;rw[aI]at n;obtain⟨⟨y,e⟩,g,rfl⟩:=bU.mp n;have vz:k<ks.length:=by have:=(aE.mp g).1;lia
  have zb:(y,e)∈ks:=lU.mp (aU g);obtain⟨Cy,yf,Eg,_⟩:=hok _ zb;obtain⟨d,rfl⟩:∃d,e=d+1:=⟨e-1,by dsimp only at yf;lia⟩;have Bz:ks[ks.length-1-k]?=some (y,d+1):=by rw[<- uZ vz];exact g
  have m:∀(j:Nat)(z:List Nat×Nat),ks.length-1-k<j->ks[j]?=some z->z∈ks.reverse.take k:=λj z o hz=>by
   have s:=(aE.mp hz).1
   have e2:ks.reverse[ks.length-1-j]?=some z:=by
    rw[uZ Fl,show ks.length-1-(ks.length-1-j)=j by lia];exact hz
   refine aU (i:=ks.length-1-j) ?_;rw[gR,a7 Fl];exact e2
  have r:∀c∈jL fs,gJ fs (bL f y) c=true->Gz fs fa f a b ((ks.reverse.take k).map (λx=>(kZ x,mV (fF fs fa a b x.2 (bL f x.1))))) d (yN fs f c y)/\Gz fs fa f a b ((ks.reverse.take k).map (λx=>(kZ x,mV (fF fs fa a b x.2 (bL f x.1))))) d (nN fs f c y):=λc M hp=>by
   cases d with
   |zero=>exact⟨.inl Fo,.inl Fo⟩
   |succ d=>
    obtain⟨⟨j1,g1,g2⟩,j2,g3,g4⟩:=p _ y d Bz c M hp;exact⟨.inr (aR.mpr ⟨_,m j1 _ g1 g2,Fo⟩),.inr (aR.mpr ⟨_,m j2 _ g3 g4,Fo⟩)⟩
  have t:kZ (y,d+1)∉((ks.reverse.take k).map (λx=>(kZ x,mV (fF fs fa a b x.2 (bL f x.1))))).map (·.1):=λz=>by
   rw[bM]at z;obtain⟨x,n,ex⟩:=aR.mp z;have:x=(y,d+1):=xD _ _ ex;subst this;obtain⟨j,o⟩:=bP n;have s:=(aE.mp o).1;rw[bB]at s;rw[gR,a7 Fl]at o;have:=BW E o g;lia
  have sk:((ks.reverse.take k).map (λx=>(kZ x,mV (fF fs fa a b x.2 (bL f x.1))))).length<=400:=by rw[aC,bB];lia
  refine yH (w:=w) (kZ (y,d+1)) (mV (fF fs fa a b (d+1) (bL f y))) Fo (λq hq=>⟨_,Fo,_,Fo,_,Fo,_,Fo,_,Fo,_,Fo,fs,an,fa,f,a,b,_,y,d,Fo,S,Cy,H _,r,hq⟩) (aCn _) (λq hq=>⟨_,Fo,hq⟩) (kX _ _) (H _) Fl ?_;rw[NJ t];refine⟨.val (kZ (y,d+1)),?_⟩;rw[cS,g];show _=[_,_,_,pR w ((ks.reverse.take k++[(y,d+1)]).map (λx=>(kZ x,mV (fF fs fa a b x.2 (bL f x.1))))),_];rw[bA];rfl
 ·obtain⟨s4,rfl⟩:=J;rw[aC,dA];exact⟨_,_,Fo,_,Fo,h ks.reverse ⟨E,Fl,λx n=>hok x (lU.mp n),λz=>lU.mpr (vq z),λx d n c M hp=>let ⟨u,v⟩:=R x d (lU.mp n) c M hp;⟨lU.mpr u,lU.mpr v⟩⟩⟩
def Sn:dU P w K mg base hW 9 kr oq ["form","rows","deep","prices"] (cG K (Vx w A)):=by
 refine lZ T.D_30.F Ux λE nd ds Q h=>?_;obtain⟨fs,an,fa,c,a,b,dp,rfl,S,t,r,p,h⟩:=h;refine⟨_,(aP (ss 4 nd (Z3 (aA (aH 0) (aA (aH 1) (aA (aH 3) aL))) (λh=>YX T.K_RowSets (Ox T) (E.mono Fk) Fo T.x_RowSets T.D_0.d .nil zJ h)))
 (aP (ss 5 nd (cd (Re (w:=w) T) T.D_31 E (aA (aH 4) (aA (A3 (aA (cB gQ (aA (aH 1) aL) bY T.b_len eZ) aL) (λh=>gH (nB Fo) Fo T.b_tuple kH (jC (gH pX Fo T.b_range xL h) lE))) (aA (aH 2) aL)))))
 (aP (ss 6 nd (cd (TY (w:=w) T) T.D_35 E (aA (aH 4) (aA (aH 5) (aA (A3 (aA (cB gQ (aA (aH 1) aL) bY T.b_len eZ) aL) (λh=>gH (nB Fo) Fo T.b_tuple kH (jC (gH pX Fo T.b_range xL h) lE))) (aA (aH 2) aL))))))
 (bC (cO (eK (aA (bD aX cA (aH 6) aK) (aA (bD aX cA (aH 6) aK) (aA (el (fr:=[none,none]) (N':=["key","found"]) (U2 (aH 5) (λh=>S2 h)) (λb=>⟨(oA (lD Fo (dR (pk 0) (dR (pk 1) jS)))),iR,(cJ cZ gU (aH 0) (eK (aA (bD aX cA (aH 1) aK) aL)))⟩)) aL))))))))),?_⟩
 show gI _ _ _ [.val (dX fs an),.val (.list (c.map dQ)),.val (.int (dp:Nat)),.val (.tuple [.int a,.int b]),.un,.un,.un];have hl:=S.l;have k:nD c (cR c.length):=aFy.refl _;have y:cR c.length≠[]:=λe=>t (hX.mp (by have:=e8 gC e;rw[fU]at this;exact this));have m:(0:Int)<=(((c.map dQ).length:Nat):Int):=zB _;have n:(((c.map dQ).length:Nat):Int)<=100000:=by rw[aC];lia
 have M:gE (eQ (((c.map dQ).length:Nat):Int).toNat)=eS (cR c.length):=by rw[dY,aC];rfl
 refine cK (oN A fs an c a b) (λq i=>⟨_,Fo,_,Fo,_,Fo,fs,an,c,a,b,Fo,S.F,S.R,S.l,i⟩) ?_;refine hZ (λv=>∃ks:List (List Nat×Nat),v=mB w (ks.map (λx=>(kZ x,mV (fF fs fa a b x.2 (bL c x.1)))))/\CW fs c (cR c.length) dp ks) (λq i=>⟨_,Fo,_,Fo,_,Fo,m,n,_,Fo,fs,an,fa,c,a,b,cR c.length,dp,by rw[M],S,k,y,r,p,λks h1=>i _ ⟨ks,Fo,h1⟩⟩) ?_;rintro _ ⟨ks,rfl,o⟩;have vz:=o.2.1;have s:=o.2.2.2.1
 have J:∀f∈ks.map (λx=>(kZ x,mV (fF fs fa a b x.2 (bL c x.1)))),jX f.1:=λf g=>by
  obtain⟨x,_,rfl⟩:=aR.mp g;exact(kX x.1 x.2).1
 have j:dp=0\/(JH (cR c.length) dp,mV (fF fs fa a b dp (bL c (cR c.length))))∈ks.map (λx=>(kZ x,mV (fF fs fa a b x.2 (bL c x.1)))):=by
  by_cases z:dp=0
  ·exact .inl z
  ·exact .inr (aR.mpr ⟨_,s Fl,Fo⟩)
 refine cK (mV (fF fs fa a b dp c)) (λq i=>⟨_,Fo,_,Fo,_,Fo,_,Fo,m,n,_,Fo,fs,an,fa,c,a,b,_,cR c.length,dp,by rw[M],S,k,J,j,by rw[IH];exact i⟩) ?_;refine⟨_,Fo,_,Fo,_,Fo,_,Fo,?_⟩;have eT:((ks.map (λx=>(kZ x,mV (fF fs fa a b x.2 (bL c x.1))))).map λf=>gE [f.1,f.2]).map Jp=ks.map (xI fs fa a b c):=by rw[bM,bM];rfl
 refine NX (ts:=(ks.map (λx=>(kZ x,mV (fF fs fa a b x.2 (bL c x.1))))).map λf=>.tuple [f.1,f.2]) (λR h=>⟨_,Fo,_,Fo,h⟩) Jp (by rw[aC,aC];lia) (λx H=>?_) (λu v q H i=>?_) ?_
 ·obtain⟨f,_,rfl⟩:=aR.mp H;exact⟨_,_,Fo⟩
 ·obtain⟨f,g,e⟩:=aR.mp H;obtain⟨x,_,rfl⟩:=aR.mp g;injection e with e
  injection e with U e
  injection e with W _
  subst U W;exact⟨_,Fo,_,Fo,_,Fo,Fn,Fn,i⟩
 ·rw[eT];exact⟨Fn,h ks o⟩
def Ln:dU P w K mg base hW 1 lu pz ["_law_cell","_law_k"] (cG K Mr):=by
 refine lZ T.D_48.F Ud λm nd i Q h=>?_;obtain⟨c,k,rfl,j,l,h⟩:=h;refine⟨_,(aP (ss 2 nd (cJ gK oY (cJ cZ gU (cJ cZ gU (cJ fV lN (cJ gK oY (aH 0) aK) aK) (cJ fV lN (aH 1) aK)) aK) aK))
 (bC (cO (cJ gK oY (cJ fV lN (cJ gK oY (cJ fV lN (aH 2) (aH 2)) aK) aK) aK)))),?_⟩
 walk_at "rd"
 have b1:=dG c (show(1000000007:Int)≠0 by decide);have b:=cV c (show(0:Int)<1000000007 by decide)
 generalize n:(c%1000000007*48271+k*7919+101)=x
 have d:=dG x (show(2147483647:Int)≠0 by decide);have e:=cV x (show(0:Int)<2147483647 by decide)
 generalize o:x%2147483647=y at *
 have f:=dG (y*y) (show(2147483629:Int)≠0 by decide);have g:=cV (y*y) (show(0:Int)<2147483629 by decide)
 generalize p:y*y%2147483629=z at *
 have a:(2:Int)^64=18446744073709551616:=by decide
 refine⟨Fk,.inl ⟨Fl,Fl⟩,.inl ⟨Fl,Fl⟩,Fk,.inl ⟨Fl,Fl⟩,Fk,.inl ⟨Fl,Fl⟩,Fk,h _ ?_ ?_⟩
 ·exact dG _ Fk
 ·exact cV _ Fk
def IR:dU P w K mg base hW 2 lx qa ["_law_script","_law_k"] (cG K Wq):=by
 refine lZ T.D_49.F Ue λm nd n Q h=>?_;obtain⟨ns,k,rfl,o,j,l,h⟩:=h;refine⟨_,(aP (gT (dO zK lF (aH 1) (cB gQ (aA (aH 0) aL) bY T.b_len eZ))
 (bC (cO (bD aX cA (aH 0) (aH 1))))
 fL)
 (aP (ss 2 nd aK)
 (aP (gT (dO oI lF (cB gQ (aA (aH 0) aL) bY T.b_len eZ) aK)
 (bC (ss 2 nd (bD aX cA (aH 0) (cJ gK oY (aH 1) (cB gQ (aA (aH 0) aL) bY T.b_len eZ)))))
 fL)
 (bC (cO (cJ cZ gU (cJ fV lN aK (cd (Ln T) T.D_48 m (aA (aH 2) (aA (aH 1) aL)))) aK)))))),?_⟩
 walk_at "rd"
 have fin:∀c:Int,Mr [.int c,.int k] λy=>Hx (.int 2) y λx=>VP x (.int 1) Q:=λc=>
  ⟨c,k,Fo,j,l,λr _ _=>⟨.inl ⟨Fk,Fk⟩,h _⟩⟩
 rw[aC];by_cases e:k<(ns.length:Int)
 ·rw[a7 (a8 e)];obtain⟨a,g,f,_⟩:=nC (xs:=ns.map aQ) (i:=k) j (by rw[aC];exact e);obtain⟨b,_,rfl⟩:=aR.mp g;exact⟨_,f,h b⟩
 ·rw[a6 (by simpa using e)];by_cases d:0<(ns.length:Int)
  ·rw[a7 (a8 d)];refine⟨d,?_⟩;obtain⟨a,g,f,_⟩:=nC (xs:=ns.map aQ) (i:=k%(ns.length:Int)) (dG _ Fl) (by rw[aC];exact cV _ d);obtain⟨b,_,rfl⟩:=aR.mp g;exact⟨_,f,fin b⟩
  ·rw[a6 (by simpa using d)];exact fin 0
def TW:dU P w K mg base hW 1 lz qc ["_law_drawn_here","_law_at","_law_many"] (cG K Ws):=by
 refine lZ T.D_51.F Ug λhr nd ds Q h=>?_;obtain⟨bs,n,m,k,rfl,hb,hk,hn,hm,h⟩:=h;refine⟨_,(aP (ss 3 nd eM)
 (aP (ss 4 nd (Z4 eM (aA (el (fr:=[none,some 3,some 0,some 1]) (N':=["_law_k","_law_letters","_law_drawn_here","_law_at"]) (kN (aA aK aL) (λh=>jP Fo T.b_range h)) (λb=>⟨(dJ (pk 0)),iR,(bD aX cA (aH 1) (cJ gK oY (bD aX cA (aH 2) (cJ cZ gU (cJ cZ gU (aH 3) aK) (aH 0))) aK))⟩)) aL) (λh ha=>kJ PySem.F.plainAttrs_str PySem.F.slot_str_join PySem.F.type_str_join ZA h ha)))
 (aP (ss 5 nd (cJ gK oY (cJ lL oY (bD aX cA (aH 0) (aH 1)) aK) aK))
 (aP (ss 6 nd (kG (aA eM (aA eM (aA eM (aA eM (aA eM (aA eM (aA eM (aA eM aL))))))))))
 (aP (gT (dO jI mO (cJ gK oY (bD aX cA (aH 0) (aH 1)) aK) aK)
 (bC (pD (i:=6) (fr:=[none,some 4]) (N':=["_law_k","_law_word"]) (kN (aA aK aL) (λh=>jP Fo T.b_range h)) (λb=>⟨(dJ (pk 0)),iR,(jW mW wX (aH 1) mX (jT (cJ cZ gU (aH 0) aK)))⟩) (λhi hY=>nS (show qZ _ (aZ (top 63)) ["_law_drawn_here","_law_at","_law_many","_law_letters","_law_word","_law_turn","_law_names_here","_law_place","_law_k","_law_sign"] ["_law_k","_law_word"] [none,some 4]=true from by decide +kernel) nd Fo (by first | exact v7 Fo | exact r8 Fo) Fo hi hY Fo)))
 fL)
 (aP (gT (dO jI mO (cJ gK oY (bD aX cA (aH 0) (aH 1)) aK) aK)
 (aP (ss 7 nd (cJ gK oY (bD aX cA (aH 0) (cJ cZ gU (aH 1) aK)) (cJ cZ gU (aH 5) aK)))
 (aP (so 6 nd aL)
 (aP (sf (kN (aA aK aL) (λh=>jP Fo T.b_range h)) (dJ (pn 8 nd))
 (aP (ss 9 nd (bD aX cA (aH 3) (cJ gK oY (cJ cZ gU (bD aX cA (aH 0) (cJ cZ gU (aH 1) aK)) (cJ fV lN aK (aH 8))) aK)))
 (bC (mM (i:=6) (pv 6) (cJ cZ gU (cJ cZ gU (jW mW wX (aH 4) mX (jT (aH 7))) (aH 9)) (jW mW wX (aH 4) (jT (cJ cZ gU (aH 7) aK)) (jT (cJ cZ gU (aH 5) aK)))) (pb:=λh=>jJ (kJ bT dF dE iE (pv 6) h))))))
 (lW 6 fL))))
 fL)
 (bC (cO (cY pY (aA (jW mW wX (cJ cZ gU (jW mW wX (aH 6) (jT (aH 5)) mX) (jW mW wX (aH 6) mX (jT (aH 5)))) mX (jT (aH 2))) aL) jF T.b_tuple kH))))))))),?_⟩
 show gI _ _ _ [.val (.list (bs.map aQ)),.val (.int k),.val (.int m),.un,.un,.un,.un,.un,.un,.un];obtain⟨b0,Dv,Dw,u⟩:=jA hb (i:=(k:Int)) Fl Fl;obtain⟨b9,ED,EM,Bd⟩:=jA hb (i:=(k:Int)+9) Fl Fl;obtain⟨s,Ao,Ap,yd⟩:=jA hb (i:=(k:Int)+10) Fl Fl;have Ac:(0:Int)<26:=by decide
 have p8:(0:Int)<8:=by decide
 have p3:(0:Int)<3:=by decide
 refine cK (.str kE) (λq g=>g) ?_;refine hZ (λd=>∃z:Str,d=.str z/\z.cps.toList.length=8/\∀c∈z.cps.toList,c∈kE.cps.toList) (λq g=>?_) ?_
 ·refine⟨_,Fo,?_⟩;refine BZ (ts:=eQ 8) (λR h=>⟨8,Fo,Fk,Fk,h⟩) (λ_ _ y=>∃c,c∈kE.cps.toList/\y=.str ⟨#[c]⟩) Fk (λj x q hx g=>?_) λys hl hy=>?_
  ·obtain⟨S,rfl⟩:=iB hx;obtain⟨b,h0,h1,Bh⟩:=jA hb (i:=(k:Int)+1+(j:Int)) Fl Fl;obtain⟨c,H,Bj,_⟩:=nC (xs:=kE.cps.toList) (i:=b%26) (dG _ Fk) (cV _ Fk);exact⟨_,Fo,_,Fo,_,Fo,_,Fo,_,Bh,Ac,Fk,c,Bj,g _ ⟨c,H,Fo⟩⟩
  ·obtain⟨o,rfl,ja⟩:=IA (ys:=ys) λy wc=>by
    obtain⟨j,S,rfl⟩:=OQ.mp wc;have By:j<(eQ 8).length:=by rw[<- hl];exact S
    exact hy j (eQ 8)[j] _ (aD By) (aD S)
   have v:o.length=8:=by rw[aC,gZ]at hl;exact hl
   refine⟨o.map λc=>⟨#[c]⟩,by rw[bM];rfl,?_,g _ ⟨_,Fo,?_,?_⟩⟩
   ·rw[aC,bM,v]
    have:(E9 ((λx:Str=>x.length)∘λc=>(⟨#[c]⟩:Str)) o).sum=o.length:=by
     clear v hl hy ja
     induction o with
     |nil=>rfl
     |cons a l ih=>rw[bE,iS,ih,dB];show 1+_=_;lia
    rw[this,v];decide
   ·rw[show(Txt.join (c6 "") (o.map λc=>⟨#[c]⟩)).cps.toList=o from B1 o];exact v
   ·rw[show(Txt.join (c6 "") (o.map λc=>⟨#[c]⟩)).cps.toList=o from B1 o];exact ja
 rintro _ ⟨z,rfl,Ex,W⟩
 have hz:z.length<=100000:=by
  have:z.length=z.cps.toList.length:=by simp[bj]
  lia
 generalize ht:b0 / 3%8=t
 have Ev:0<=t:=by rw[<- ht];exact dG _ Fk
 have Ew:t<8:=by rw[<- ht];exact cV _ Fk
 refine cK (.int t) (λq g=>⟨_,Fo,_,Fo,_,u,⟨Fk,Fk⟩,p8,by rw[ht];exact g⟩) ?_;refine cK (.list (UH.map aW)) (λq g=>⟨Fk,g⟩) ?_
 have r:∀(ys:List Str)σ,ML 8 ys->σ[6]?=some (.val (.list (ys.map aW)))->σ[5]?=some (.val (.int t))->σ[2]?=some (.val (.int m)) ->
   sT (nM (f1 GD) (pZ (Gi Ge (KB VP (Gi Ge (zY 6) (IV (zY 5)) IW) (Gi Ge (zY 6) IW (IV (zY 5)))) IW (IV (zY 2))) J0)) { nx:=λ_=>Q .none,rt:=Q } σ:=λys σ hy e6 e5 M=>by
  refine⟨_,e6,_,e5,_,e6,_,e5,?_,_,M,?_⟩
  ·rw[oB,oB,aC,aC];have:=hy.1;unfold kU;simp only[bB,gA];lia
  ·show Q (.tuple (kU (kU (ys.map aW) (some t) none++kU (ys.map aW) none (some t)) none (some (m:Int))));rw[oB,oB,<- bA,oB];have et:t=((t.toNat:Nat):Int):=by lia
   rw[et,YP,nV,nV];exact h _ (T5 hy _ hm)
 refine fW (λb=>b=decide (b0%3=0)) (λq g=>⟨_,Fo,_,Fo,_,u,p3,g _ Fo⟩) (λhT=>?_) λhF=>?_
 ·have E:b0%3=0:=b8 hT.symm;refine mH (.list (((cR 8).map λ(j:Nat)=>Txt.slice z none (some ((j:Int)+1))).map aW)) (λq g=>?_) ?_
  ·refine jK (ts:=eQ 8) (λR h=>⟨8,Fo,Fk,Fk,h⟩) (λx=>match x with | .int j=>.str (Txt.slice z none (some (j+1))) | _=>.none) Fk (λx q hx g=>?_) ?_
   ·obtain⟨j,S,rfl⟩:=aR.mp hx;exact⟨_,Fo,_,Fo,hz,g⟩
   ·unfold eQ;rw[bM];rw[bM]at g;exact g
  ·dsimp only;refine fW (λb=>b=false) (λq g=>⟨_,Fo,_,Fo,_,u,p3,g _ (by rw[E];rfl)⟩) (λhT=>by cases hT) λ_=>?_;refine r _ _ (D5 _ (λi hi=>?_) λi j hi S e=>?_) Fo Fo Fo
   ·have e:(Txt.slice z none (some ((i:Int)+1))).cps.toList=z.cps.toList.take (i+1):=by
     rw[oG];exact nV _ (i+1)
    refine T7 ?_ ?_ λc H=>?_
    ·rw[e,bB];lia
    ·rw[e,bB];lia
    ·rw[e]at H;exact W c (dZ H)
   ·have J:(Txt.slice z none (some ((i:Int)+1))).cps.toList=z.cps.toList.take (i+1):=by
     rw[oG];exact nV _ (i+1)
    have M:(Txt.slice z none (some ((j:Int)+1))).cps.toList=z.cps.toList.take (j+1):=by
     rw[oG];exact nV _ (j+1)
    rw[e]at J;have:=e8 gC (J.symm.trans M);rw[bB,bB]at this;lia
 ·have E:¬b0%3=0:=i7 hF.symm;unfold jD;dsimp only;refine fW (λb=>b=decide (b0%3=1)) (λq g=>⟨_,Fo,_,Fo,_,u,p3,g _ Fo⟩) (λhT=>?_) λhF=>?_
  ·generalize U:b9%(t+1)=pl
   have Ep:0<=pl:=by rw[<- U];exact dG _ Fl
   have Er:pl<t+1:=by rw[<- U];exact cV _ Fl
   refine cK (.int pl) (λq g=>⟨_,Fo,_,Fo,_,Bd,_,Fo,(show(0:Int)<t+1 by lia),by rw[U];exact g⟩) ?_;refine lJ [] Fk (λq g=>g) ?_
   have f:∀j:Nat,∃c,c∈kE.cps.toList/\atI kE.cps.toList ((s+5*(j:Int))%26)=some c/\kE.cps.toList[((s+5*(j:Int))%26).toNat]?=some c:=λj=>
    nC (dG _ Fk) (cV _ Fk)
   let F:Nat->Str:=λj=>Txt.slice z none (some pl)++⟨#[d8 (f j)]⟩++Txt.slice z (some (pl+1)) (some (t+1))
   have p:∀j,(F j).cps.toList=z.cps.toList.take pl.toNat++(d8 (f j)::(z.cps.toList.drop (pl.toNat+1)).take (t.toNat-pl.toNat)):=λj=>by
    show(Txt.slice z none (some pl)++⟨#[d8 (f j)]⟩++Txt.slice z (some (pl+1)) (some (t+1))).cps.toList=_;rw[uV,uV,oG,oG];have J:pl=((pl.toNat:Nat):Int):=by lia
    have M:pl+1=((pl.toNat+1:Nat):Int):=by lia
    have e3:t+1=((t.toNat+1:Nat):Int):=by lia
    rw[M,e3,Za]
    have e4:kU z.cps.toList none (some pl)=z.cps.toList.take pl.toNat:=by
     have:=nV z.cps.toList pl.toNat
     rwa [<- J]at this
    rw[e4];have e5:t.toNat+1-(pl.toNat+1)=t.toNat-pl.toNat:=by lia
    rw[e5];simp
   refine hV (ts:=eQ 8) (λR h=>⟨8,Fo,Fk,Fk,h⟩)
    (λj σ=>∃s8 s9:Sl,σ=[.val (.list (bs.map aQ)),.val (.int k),.val (.int m),.val (.str kE),.val (.str z),.val (.int t),.own (((cR j).map F).map aW),.val (.int pl),s8,s9]) ⟨_,_,Fo⟩ (λj x bi hx hP=>?_) λbi hP=>?_
   ·obtain⟨S,rfl⟩:=iB hx;obtain⟨s8,s9,rfl⟩:=hP;have H:=c8 (f j);refine cK (.str ⟨#[d8 (f j)]⟩) (λq g=>⟨_,Fo,_,Fo,_,Fo,_,yd,_,Fo,.inl ⟨Fk,Fk⟩,Ac,Fk,_,H.2.1,g⟩) ?_;refine nZ (ts:=((cR j).map F).map aW) (.str (F j)) Fo (by simp;lia) (λq g=>?_) ⟨.val (.int j),.val (.str ⟨#[d8 (f j)]⟩),?_⟩
    ·refine⟨_,Fo,_,Fo,hz,_,Fo,?_,_,Fo,_,Fo,_,Fo,hz,?_,g⟩
     ·have:=Txt.slice_le z none (some pl);show(Txt.slice z none (some pl)).length+1<=100000;have:z.length=z.cps.toList.length:=by simp[bj]
      lia
     ·have a1:=Txt.slice_le z none (some pl);have a2:=Txt.slice_le z (some (pl+1)) (some (t+1));have a3:z.length=z.cps.toList.length:=by simp[bj]
      show(Txt.slice z none (some pl)++⟨#[d8 (f j)]⟩).length+_<=100000
      have a4:(Txt.slice z none (some pl)++(⟨#[d8 (f j)]⟩:Str)).length=(Txt.slice z none (some pl)).length+1:=by
       show((Txt.slice z none (some pl)).cps++#[_]).size=_;rw[RK];rfl
      rw[a4];lia
    ·rw[uJ,bA,bA];rfl
   ·obtain⟨s8,s9,rfl⟩:=hP;rw[gZ];refine⟨_,Fo,?_⟩;refine r _ _ (D5 F (λi hi=>?_) λi j hi S e=>?_) Fo Fo Fo
    ·have H:=c8 (f i);refine T7 ?_ ?_ λc dn=>?_
     ·rw[p];simp only[bG,dB];lia
     ·rw[p];simp only[bG,bB,dB,gA];lia
     ·rw[p]at dn;rcases eA.mp dn with q | q
      ·exact W c (dZ q)
      ·rcases aY.mp q with q | q
       ·rw[q];exact H.1
       ·exact W c (OP (dZ q))
    ·have J:=p i;rw[e,p j]at J;have M:=List.append_cancel_left J;have e3:d8 (f j)=d8 (f i):=(List.cons.inj M).1;have q1:=(c8 (f i)).2.2;have q2:=(c8 (f j)).2.2;rw[e3]at q2;have e4:=Y5 LJ q1 q2;have:=dG (s+5*(i:Int)) (show(26:Int)≠0 by decide);have:=dG (s+5*(j:Int)) (show(26:Int)≠0 by decide);lia
  ·exact r _ _ Ow Fo Fo Fo
def D3:dU P w K mg base hW 2 ly qb ["_law_cell","_law_many"] (kW K Wr):=by
 refine Fv T.D_50.F Uf λt nd y Q h=>?_;obtain⟨c,n,rfl,E,h⟩:=h;refine⟨_,(aP (so 2 nd aL)
 (aP (ss 3 nd (cJ lL oY (aH 0) aK))
 (aP (sf (kN (aA (aH 1) aL) (λh=>jP Fo T.b_range h)) (dJ (pn 4 nd))
 (bC (gT (dO jI mO (cJ gK oY (aH 0) aK) aK)
 (aP (mM (i:=2) (pv 2) (cJ gK oY (aH 3) aK) (pb:=λh=>jJ (kJ bT dF dE iE (pv 2) h)))
 (bC (ss 3 nd (cJ lL oY (aH 3) aK))))
 (bC (mM (i:=2) (pv 2) (cJ gK oY (cJ lL oY (cd (Ln T) T.D_48 t (aA (cJ lL oY (aH 0) aK) (aA (aH 4) aL))) aK) aK) (pb:=λh=>jJ (kJ bT dF dE iE (pv 2) h)))))))
 (bC (uN (pv 2)))))),?_⟩
 walk_at "rd"
 refine⟨⟨Fk,Fk⟩,JN (ts:=eQ n) (λR h=>⟨_,Fo,(n:Int),Fo,Fl,Fl,by simpa using h⟩)
  (λk v=>∃(bs:List Int)(l:Int)(j:Sl),v=[.val (.int c),.val (.int n),.own (bs.map aQ),.val (.int l),j]/\CY k bs) ⟨[],_,_,Fo,Fo,λb s=>by simp at s⟩ (λk x m u f=>?_) λm f=>?_⟩
 ·obtain⟨hk,rfl⟩:=iB u;obtain⟨bs,l,j,rfl,a⟩:=f;have d:(bs.map aQ).length<=100000:=by rw[aC,a.1];lia
  have e:∀b:Int,0<=b->b<4096->CY (k+1) (bs++[b]):=λb p q=>⟨by rw[bG,a.1];rfl,λo g=>by
   rcases eA.mp g with z | z
   ·exact a.2 o z
   ·have:o=b:=by simpa using z
    subst this;exact⟨p,q⟩⟩
  show Ga _ _ _ _ [.val (.int c),.val (.int n),.own (bs.map aQ),.val (.int l),.val (.int k)]
  walk_at "rd"
  refine⟨Fk,?_⟩;split
  ·refine⟨Fk,d,⟨Fk,Fk⟩,⟨bs++[l%4096],_,_,by rw[bA];rfl,e _ (dG _ Fk) (cV _ Fk)⟩⟩
  ·refine⟨⟨Fk,Fk⟩,_,_,Fo,Fl,Fl,λr _ _=>?_⟩;exact⟨⟨Fk,Fk⟩,Fk,d,⟨bs++[r / 3%4096],_,_,by rw[bA];rfl,e _ (dG _ Fk) (cV _ Fk)⟩⟩
 ·obtain⟨bs,l,j,rfl,a⟩:=f;rw[gZ]at a;exact⟨_,Fo,h bs a⟩
def Rq:dU P w K mg base hW 3 ma qd ["_law_script"] (cG K Wt):=by
 refine lZ T.D_52.F Uh λg nd ds Q h=>?_;obtain⟨ns,rfl,S,h⟩:=h;refine⟨_,(aP (ss 1 nd (rD (cF (D3 T) T.D_50 g (aA (cd (IR T) T.D_49 g (aA (aH 0) (aA aK aL))) (aA aK aL)))))
 (aP (ss 2 nd (cd (TW T) T.D_51 g (aA (aH 1) (aA aK (aA (bD aX cA (kG (aA aK (aA aK (aA aK (aA aK (aA aK (aA aK (aA aK (aA aK aL))))))))) (cJ gK oY (bD aX cA (aH 1) aK) aK)) aL)))))
 (aP (so 3 nd aL)
 (aP (sf (kN (aA (cB gQ (aA (aH 2) aL) bY T.b_len eZ) aL) (λh=>jP Fo T.b_range h)) (dJ (pn 4 nd))
 (aP (ss 5 nd (rD (cF (D3 T) T.D_50 g (aA (cd (IR T) T.D_49 g (aA (aH 0) (aA (cJ cZ gU aK (aH 4)) aL))) (aA aK aL)))))
 (bC (mM (i:=3) (pv 3) (eK (aA (bD aX cA (aH 2) (aH 4)) (aA (cd (TW T) T.D_51 g (aA (aH 5) (aA aK (aA (bD aX cA (kG (aA aK (aA aK (aA aK (aA aK (aA aK (aA aK aL))))))) (cJ gK oY (bD aX cA (aH 5) aK) aK)) aL)))) aL))) (pb:=λh=>jJ (kJ bT dF dE iE (pv 3) h))))))
 (aP (ss 5 nd (rD (cF (D3 T) T.D_50 g (aA (cd (IR T) T.D_49 g (aA (aH 0) (aA aK aL))) (aA aK aL)))))
 (lW 3 (bC (cO (eK (aA (cY pY (aA (aH 3) aL) jF T.b_tuple kH) (aA (cd (TW T) T.D_51 g (aA (aH 5) (aA aK (aA (bD aX cA (kG (aA aK (aA aK (aA aK (aA aK aL))))) (cJ gK oY (bD aX cA (aH 5) aK) aK)) aL)))) aL))))))))))),?_⟩
 have p8:(0:Int)<8:=by decide
 have p6:(0:Int)<6:=by decide
 have p4:(0:Int)<4:=by decide
 show gI _ _ _ [.val (.list (ns.map aQ)),.un,.un,.un,.un,.un];refine hZ (λd=>∃bs,CY 20 bs/\d=.list (bs.map aQ)) (λq e=>⟨_,Fo,ns,0,Fo,S,Fk,Fk,λr=>⟨r,20,Fo,Fk,λbs j=>e _ ⟨bs,j,Fo⟩⟩⟩) ?_;rintro _ ⟨bs,j,rfl⟩;obtain⟨b0,o,p,J⟩:=jA j (i:=0) Fk Fk;obtain⟨m,El,Em,hm⟩:=PM (xs:=[1,2,2,3,3,3,4,5]) (lo:=1) (hi:=5) Fk (i:=b0%8) (dG _ Fk) (cV _ p8);refine hZ (λd=>∃c,ML m.toNat c/\d=.tuple (c.map aW)) (λq e=>?_) ?_
 ·refine⟨_,Fo,Fk,_,Fo,_,J,p8,_,hm,bs,20,m.toNat,1,?_,j,Fk,Fk,Fl,λc y=>e _ ⟨c,y,Fo⟩⟩;rw[show((m.toNat:Nat):Int)=m by lia];rfl
 rintro _ ⟨c,y,rfl⟩;have uj:c.length=m.toNat:=y.1;refine lJ [] Fk (λq e=>e) ?_
 refine hV (ts:=eQ c.length) (λR h=>⟨_,Fo,_,Fo,by rw[aC];lia,by rw[aC];lia,by simpa using h⟩)
  (λk σ=>∃(fs:List (Str×List Str))(s4 s5:Sl),σ=[.val (.list (ns.map aQ)),.val (.list (bs.map aQ)),.val (.tuple (c.map aW)),.own (fs.map kI),s4,s5]/\fs.map (·.1)=c.take k/\∀f∈fs,2<=f.2.length/\f.2.length<=5/\ML f.2.length f.2)
  ⟨[],_,_,Fo,Fm,λf M=>by simp at M⟩ (λk x bi hx H=>?_) λbi H=>?_
 ·obtain⟨hk,rfl⟩:=iB hx;obtain⟨fs,s4,s5,rfl,b,n⟩:=H
  have t:fs.length=k:=by
   have:=e8 gC b;rw[aC,bB]at this;lia
  refine hZ (λd=>∃bs,CY 12 bs/\d=.list (bs.map aQ)) (λq e=>⟨_,Fo,_,Fo,ns,1+(k:Int),Fo,S,Fl,Fl,λr=>⟨r,12,Fo,Fk,λbs j=>e _ ⟨bs,j,Fo⟩⟩⟩) ?_;rintro _ ⟨u,s,rfl⟩;obtain⟨E,o,p,l⟩:=jA s (i:=0) Fk Fk;obtain⟨v,W,Ct,U⟩:=PM (xs:=[2,2,3,3,4,5]) (lo:=2) (hi:=5) Fk (i:=E%6) (dG _ Fk) (cV _ p6);refine⟨fs.map kI,Fo,_,Fo,_,Fo,_,WD hk,_,Fo,Fk,_,Fo,_,l,p6,_,U,u,12,v.toNat,1,?_,s,Fk,Fk,Fl,λvs a=>?_⟩
  ·rw[show((v.toNat:Nat):Int)=v by lia];rfl
  ·refine⟨aF Fo,by rw[aC];lia,fs++[(c[k],vs)],.val (.int k),.val (.list (u.map aQ)),?_,?_,λf M=>?_⟩
   ·rw[bA];rfl
   ·rw[bA,b,cS,aD hk];rfl
   ·rcases eA.mp M with z | z
    ·exact n f z
    ·have:f=(c[k],vs):=by simpa using z
     subst this;have Cu:=a.1;refine⟨by show 2<=vs.length;lia,by show vs.length<=5;lia,?_⟩;show ML vs.length vs;rw[Cu];exact a
 ·obtain⟨fs,s4,s5,rfl,b,n⟩:=H;rw[gZ,dA]at b;have t:fs.length=c.length:=by rw[<- b,aC]
  refine hZ (λd=>∃bs,CY 12 bs/\d=.list (bs.map aQ)) (λq e=>⟨_,Fo,ns,6,Fo,S,Fk,Fk,λr=>⟨r,12,Fo,Fk,λbs j=>e _ ⟨bs,j,Fo⟩⟩⟩) ?_;rintro _ ⟨u,s,rfl⟩;obtain⟨E,o,p,l⟩:=jA s (i:=0) Fk Fk;obtain⟨v,W,Ct,U⟩:=PM (xs:=[2,2,3,4]) (lo:=2) (hi:=4) Fk (i:=E%4) (dG _ Fk) (cV _ p4);refine⟨_,Fo,_,Fo,_,Fo,Fk,_,Fo,_,l,p4,_,U,u,12,v.toNat,1,?_,s,Fk,Fk,Fl,λvs a=>⟨aF Fo,h fs vs ⟨Fl,Fl,?_,n,?_,?_,?_⟩⟩⟩
  ·rw[show((v.toNat:Nat):Int)=v by lia];rfl
  ·rw[b,t,uj];exact y
  ·have:=a.1;lia
  ·have:=a.1;lia
  ·have:=a.1;rw[this];exact a
def Rr:dU P w K mg base hW 1 md qe ["_law_form_here","_law_bits"] (cG K Wu):=by
 refine lZ T.D_53.F Ui λhr nd ds Q h=>?_;obtain⟨fs,an,bs,n,rfl,F,U,hn,h⟩:=h;refine⟨_,(aP (so 2 nd aL)
 (aP (sf (kN (aA (cB gQ (aA (bD aX cA (aH 0) aK) aL) bY T.b_len eZ) aL) (λh=>jP Fo T.b_range h)) (dJ (pn 3 nd))
 (aP (ss 4 nd (bD aX cA (bD aX cA (bD aX cA (aH 0) aK) (aH 3)) aK))
 (bC (gT (dO jI mO (cJ gK oY (bD aX cA (aH 1) (aH 3)) aK) aK)
 (bC (mM (i:=2) (pv 2) pJ (pb:=λh=>jJ (kJ bT dF dE iE (pv 2) h))))
 (bC (mM (i:=2) (pv 2) (bD aX cA (aH 4) (cJ gK oY (cJ lL oY (bD aX cA (aH 1) (aH 3)) aK) (cB gQ (aA (aH 4) aL) bY T.b_len eZ))) (pb:=λh=>jJ (kJ bT dF dE iE (pv 2) h))))))))
 (lW 2 (bC (cO (cY pY (aA (aH 2) aL) jF T.b_tuple kH)))))),?_⟩
 show gI _ _ _ [.val (dX fs an),.val (.list (bs.map aQ)),.un,.un,.un];have n5:=F.n5;refine lJ [] Fk (λq e=>e) ?_
 refine hV (ts:=eQ fs.length) (λR h=>⟨_,Fo,_,Fo,_,Fo,by rw[aC];lia,by rw[aC];lia,by simpa using h⟩)
  (λk σ=>∃(a:List D)(s3 M:Sl),σ=[.val (dX fs an),.val (.list (bs.map aQ)),.own a,s3,M]/\a.length=k/\∀(j:Nat) f c,fs[j]?=some f->a[j]?=some c->WY f c=true)
  ⟨[],_,_,Fo,Fo,λj f c _ s=>by simp at s⟩ (λk x S hx E=>?_) λS E=>?_
 ·obtain⟨hk,rfl⟩:=iB hx;obtain⟨a,s3,M,rfl,d,p⟩:=E;obtain⟨b,W,Ea,r⟩:=jA U (i:=(k:Int)) Fl Fl;have u:fs[k]?=some fs[k]:=aD hk;have J:fs[k]∈fs:=fK hk;obtain⟨v2,v5,oS⟩:=F.vs _ J;have H:L2.atI (fs.map kI) (k:Int)=some (kI fs[k]):=L2.fH (by rw[aI,u];rfl)
  have o:∀c:D,WY fs[k] c=true->∀(j:Nat) f v,fs[j]?=some f->(a++[c])[j]?=some v->WY f v=true:=λc s j f v y g=>by
   by_cases hj:j<a.length
   ·rw[eB hj]at g;exact p j f v y g
   ·rw[eJ Fl]at g
    have:j=k:=by
     cases q:j-a.length with
     |zero=>lia
     |succ m=>rw[q]at g;simp at g
    subst this;rw[u]at y;cases y;rw[d,aMp]at g;simp at g;rw[<- g];exact s
  refine cK (.tuple (fs[k].2.map aW)) (λq e=>⟨_,Fo,_,Fo,_,Fo,_,H,_,Fo,e⟩) ?_;refine mY (λb=>True) (λq e=>⟨_,Fo,_,Fo,_,r,(show(0:Int)<6 by decide),e _ trivial⟩) (λ_=>?_) λ_=>?_
  ·refine nZ (ts:=a) .none Fo Fl (λq e=>e) ⟨a++[.none],_,_,Fo,by rw[bG,d];rfl,o .none Fo⟩
  ·have l:(0:Int)<((fs[k].2.map aW).length:Int):=by rw[aC];lia
   obtain⟨c,s,t,_⟩:=nC (xs:=fs[k].2.map aW) (i:=b / 6%((fs[k].2.map aW).length:Int)) (dG _ Fl) (cV _ l);obtain⟨z,hz,rfl⟩:=aR.mp s;refine nZ (ts:=a) (.str z) Fo Fl (λq e=>⟨_,Fo,_,Fo,_,Fo,_,r,⟨Fk,Fk⟩,_,Fo,l,_,t,e⟩) ⟨a++[.str z],_,_,Fo,by rw[bG,d];rfl,o (.str z) (a8 hz)⟩
 ·obtain⟨a,s3,M,rfl,d,p⟩:=E;rw[gZ]at d;exact⟨_,Fo,_,Fo,h a (aAe d p)⟩
def Rs:dU P w K mg base hW 2 me qf ["_law_form_here","_law_bits"] (cG K Wv):=by
 refine lZ T.D_54.F Uj λhr nd ds Q h=>?_;obtain⟨fs,an,bs,n,rfl,F,hb,hn,h⟩:=h;refine⟨_,(aP (ss 2 nd (cd (Rr T) T.D_53 hr (aA (aH 0) (aA (aH 1) aL))))
 (aP (ss 3 nd (bD aX cA (aH 1) aK))
 (aP (gT (dO oI lF (cJ gK oY (bD aX cA (aH 1) aK) aK) aK)
 (aP (ss 3 nd (cJ gK oY (cJ lL oY (bD aX cA (aH 1) aK) aK) aK))
 (bC (sf (kN (aA (cB gQ (aA (aH 2) aL) bY T.b_len eZ) aL) (λh=>jP Fo T.b_range h)) (dJ (pn 4 nd))
 (bC (gT (dO PU T2 (bD aX cA (aH 2) (aH 4)) pJ)
 (bC (ss 3 nd (cJ cZ gU (aH 3) (cJ fV lN (xH (bD aX cA (bD aX cA (bD aX cA (aH 0) aK) (aH 4)) aK) (aA (bD aX cA (aH 2) (aH 4)) aL) (λh W=>kJ mE mD mC (wZ hr) h W)) (cJ cZ gU (aH 4) aK)))))
 fL)))))
 fL)
 (bC (cO (eK (aA (aH 2) (aA (bD aX cA (bD aX cA (aH 0) aK) (cJ gK oY (aH 3) (cB gQ (aA (bD aX cA (aH 0) aK) aL) bY T.b_len eZ))) aL)))))))),?_⟩
 show gI _ _ _ [.val (dX fs an),.val (.list (bs.map aQ)),.un,.un,.un];have n5:=F.n5;obtain⟨b6,Dx,Dy,Bc⟩:=jA hb (i:=6) Fk Fl;obtain⟨b7,Dz,EC,v⟩:=jA hb (i:=7) Fk Fl;refine hZ (λd=>∃c,lO fs (.tuple c)=true/\d=.tuple c) (λq f=>⟨_,Fo,_,Fo,fs,an,bs,n,Fo,F,hb,hn,λc M=>f _ ⟨c,M,Fo⟩⟩) ?_;rintro _ ⟨c,M,rfl⟩;obtain⟨ja,ye⟩:=uB M;refine cK (.int b6) (λq f=>⟨_,Fo,_,Bc,f⟩) ?_
 have g:∀(x:Int)s,s[0]?=some (.val (dX fs an))->s[2]?=some (.val (.tuple c))->s[3]?=some (.val (.int x)) ->
   sT (Hw (pZ (zY 2) (pZ (KB Gg (KB Gg (zY 0) (eC (.int 1))) (KB (fI (λ_ j=>0<j) λi j=>i%j) (zY 3) (nM (f1 Hz) (pZ (KB Gg (zY 0) (eC (.int 1))) J0)))) J0))) { nx:=λ_=>Q .none,rt:=Q } s:=λx s e0 u e3=>by
  have l:(0:Int)<((an.map aW).length:Int):=by rw[aC];have:=F.a2;lia
  obtain⟨a,W,Bb,_⟩:=nC (xs:=an.map aW) (i:=x%((an.map aW).length:Int)) (dG _ Fl) (cV _ l);obtain⟨y,hy,rfl⟩:=aR.mp W;exact⟨_,u,_,e0,_,Fo,_,e3,_,e0,_,Fo,l,_,Bb,aF Fo,h c y M hy⟩
 refine fW (λ_=>True) (λq f=>⟨_,Fo,_,v,(show(0:Int)<3 by decide),f _ trivial⟩) (λ_=>?_) λ_=>?_
 ·refine cK (.int (b7 / 3%2)) (λq f=>⟨_,Fo,_,v,⟨Fk,Fk⟩,(show(0:Int)<2 by decide),f⟩) ?_
  refine JN (ts:=eQ c.length) (λR h=>⟨_,Fo,_,Fo,Fl,Fl,by simpa using h⟩)
   (λk s=>∃(x:Int)(s4:Sl),s=[.val (dX fs an),.val (.list (bs.map aQ)),.val (.tuple c),.val (.int x),s4]) ⟨_,_,Fo⟩ (λk x bi hx U=>?_) λbi U=>?_
  ·obtain⟨hk,rfl⟩:=iB hx;obtain⟨x,s4,rfl⟩:=U;have r:k<fs.length:=by lia
   have o:L2.atI c (k:Int)=some c[k]:=L2.fH (aD hk);have E:L2.atI (fs.map kI) (k:Int)=some (kI fs[k]):=L2.fH (by rw[aI,aD r];rfl);have S:=ye k fs[k] c[k] (aD r) (aD hk);refine mY (λb=>b=!pV c[k]) (λq f=>⟨_,Fo,_,Fo,_,o,f _ Fo⟩) (λhT=>?_) λ_=>⟨_,_,Fo⟩
   cases e:c[k]with
   |str z=>
    rw[e]at S o;have hz:z∈fs[k].2:=b8 S;have p:fs[k]∈fs:=fK r;obtain⟨v2,v5,oS⟩:=F.vs _ p;have J:fs[k].2.idxOf z<fs[k].2.length:=gB.mpr hz;obtain⟨_,_,_,_,d5,d6⟩:=sZ (wM (F.vals p) (aN 8) (m:=0))
    have sy:K9 (fs[k].2.map aW) (.str z) (fs[k].2.idxOf z):=by
     refine⟨d6,(nY (F.vals p z hz) (aN 8) (m:=0)).lay,Fl,⟨.str z,?_,?_⟩,λm t hm H=>?_⟩
     ·rw[aI,aD J,jN J];rfl
     ·show(z==z)=true;simp
     ·rw[aI]at H
      cases u:fs[k].2[m]? with
      |none=>rw[u]at H;cases H
      |some y=>
       rw[u]at H;cases H;show(y==z)=false;have En:m<fs[k].2.length:=(aE.mp u).1
       have:y≠z:=λq=>by
        subst q;exact A2 hm u
       simpa using this
    refine mH (.int (x+(fs[k].2.idxOf z:Int)*((k:Int)+1))) (λq f=>⟨_,Fo,_,Fo,_,Fo,_,Fo,_,E,_,Fo,_,Fo,_,Fo,_,Fo,_,o,_,_,Fo,sy,_,Fo,.inr ⟨Fl,Fl⟩,f⟩) ⟨_,_,Fo⟩
   |none=>rw[e]at hT;cases hT
   |_=>rw[e]at S;cases S
  ·obtain⟨x,s4,rfl⟩:=U;exact g x _ Fo Fo Fo
 ·exact g b6 _ Fo Fo Fo
def Lp:dU P w K mg base hW 1 mj qj ["_law_form_here","_law_question","_law_stray","_law_case_here"] (cG K Xa):=by
 refine lZ T.D_59.F Up λhr nd ds Q h=>?_;obtain⟨fs,an,k,n,v,st,o,rfl,F,d,Eu,hc,h⟩:=h;refine⟨_,(aP (M8 (aH 1) (rC (lD Fo (dR (pn 4 nd) (dR (pn 5 nd) (dR (pn 6 nd) jS))))) (λhe hg=>tQ he hg))
 (aP (sf (kN (aA (cB gQ (aA (aH 3) aL) bY T.b_len eZ) aL) (λh=>jP Fo T.b_range h)) (dJ (pn 7 nd))
 (bC (gT (dO jI mO (bD aX cA (bD aX cA (bD aX cA (aH 0) aK) (aH 7)) aK) (aH 5))
 (aP (ss 8 nd (bD aX cA (bD aX cA (bD aX cA (aH 0) aK) (aH 7)) aK))
 (aP (gT (dO BV IU (bD aX cA (aH 3) (aH 7)) pJ)
 (bC (cO (aH 2)))
 fL)
 (aP (gT (dO jI mO (aH 4) eM)
 (bC (cO (bD aX cA (kG (aA eM (aA eM aL))) (sA (lP jI mO (bD aX cA (aH 3) (aH 7)) (aH 6)) (λh=>gH nW Fo T.b_int wB h)))))
 fL)
 (bC (cO (bD aX cA (kG (aA eM (aA eM aL))) (sA (lP D2 lF (xH (aH 8) (aA (bD aX cA (aH 3) (aH 7)) aL) (λh U=>kJ mE mD mC (wZ hr) h U)) (xH (aH 8) (aA (aH 6) aL) (λh U=>kJ mE mD mC (wZ hr) h U))) (λh=>gH nW Fo T.b_int wB h))))))))
 fL)))
 (bC (cO eM)))),?_⟩
 show gI _ _ _ [.val (dX fs an),.val (.tuple [.str k,.str n,.str v]),.val (.str st),.val (.tuple o),.un,.un,.un,.un,.un];obtain⟨W,ye⟩:=uB hc;have n5:=F.n5;obtain⟨f0,s,u,Cs,vx⟩:=AZ d;refine IG (a:=.str k) (b:=.str n) (c:=.str v) (λq d=>⟨_,Fo,d⟩) ?_
 refine hV (ts:=eQ o.length) (λR h=>⟨_,Fo,_,Fo,Fl,Fl,by simpa using h⟩)
  (λm σ=>∃s7 s8:Sl,σ=[.val (dX fs an),.val (.tuple [.str k,.str n,.str v]),.val (.str st),.val (.tuple o),.val (.str k),.val (.str n),.val (.str v),s7,s8]/\∀(j:Nat) f,j<m->fs[j]?=some f->f.1≠n) ⟨_,_,Fo,λj f E=>by lia⟩ (λm x bi hx S=>?_) λbi S=>?_
 ·obtain⟨hm,rfl⟩:=iB hx;obtain⟨s7,s8,rfl,H⟩:=S;have y:m<fs.length:=by lia
  have l:fs[m]?=some fs[m]:=aD y;have p:o[m]?=some o[m]:=aD hm;have t:L2.atI (fs.map kI) (m:Int)=some (kI fs[m]):=L2.fH (by rw[aI,l];rfl);have i:L2.atI o (m:Int)=some o[m]:=L2.fH p;have r:fs[m]∈fs:=fK y;have hok:=ye m _ _ l p;refine mY (λb=>b=decide (fs[m].1=n)) (λq d=>⟨_,Fo,_,Fo,_,Fo,_,t,_,Fo,_,Fo,d _ Fo⟩) (λhT=>?_) λhF=>?_
  ·have en:fs[m].1=n:=b8 hT.symm;rw[tN F l p en]at h;have Bo:fs[m]=f0:=UI F s r (en.trans u.symm)
   generalize dn:o[m]=c at i hok h
   refine cK (.tuple (fs[m].2.map aW)) (λq d=>⟨_,Fo,_,Fo,_,Fo,_,t,_,Fo,d⟩) ?_;refine fW (λb=>b=pV c) (λq d=>⟨_,Fo,_,Fo,_,i,d _ Fo⟩) (λM=>?_) λM=>?_
   ·cases c with
    |none=>exact⟨_,Fo,h⟩
    |_=>cases M
   ·try unfold jD
    dsimp only
    cases c with
    |none=>cases M
    |str z=>
     have hz:z∈fs[m].2:=b8 hok;have g:Q (.str (if k="is" then(if z=v then "yes" else "no")else if fs[m].2.idxOf z<=fs[m].2.idxOf v then "yes" else "no")):=h;refine fW (λb=>b=decide (k="is")) (λq d=>⟨_,Fo,d _ Fo⟩) (λJ=>?_) λJ=>?_
     ·rw[a7 (b8 J.symm)]at g;refine⟨Fn,_,Fo,_,Fo,_,i,_,Fo,_,WC (decide (z=v)),?_⟩;by_cases e:z=v
      ·rw[a7 e]at g;rw[a8 e];exact g
      ·rw[a6 e]at g;rw[c4 e];exact g
     ·try unfold jD
      dsimp only;rw[a6 (i7 J.symm)]at g;have i1:=uP (F.vals r) hz;have i2:=uP (F.vals r) (z:=v) (by rw[Bo];exact Cs);refine⟨Fn,_,Fo,_,Fo,_,Fo,_,Fo,_,i,_,_,Fo,i1,_,Fo,_,Fo,_,Fo,_,_,Fo,i2,_,WC (decide ((fs[m].2.idxOf z:Int)<=(fs[m].2.idxOf v:Int))),?_⟩;by_cases e:fs[m].2.idxOf z<=fs[m].2.idxOf v
      ·rw[a7 e]at g;rw[a8 Fl];exact g
      ·rw[a6 e]at g;rw[c4 Fl];exact g
    |_=>cases hok
  ·refine⟨_,_,Fo,λj f E hf=>?_⟩;by_cases z:j<m
   ·exact H j f z hf
   ·have:j=m:=by lia
    subst this;rw[l]at hf;cases hf;exact i7 hF.symm
 ·obtain⟨s7,s8,rfl,H⟩:=S;rw[gZ,W]at H;obtain⟨j,E⟩:=bP s;exact a9 u (H j f0 (aE.mp E).1 E)
def Rt:dU P w K mg base hW 3 mf qg ["_law_script","_law_form_here","_law_many"] (cG K Ww):=by
 refine lZ T.D_55.F Uk λd nd M Q h=>?_;obtain⟨ns,fs,an,n,rfl,u,F,S,h⟩:=h;refine⟨_,(bC (cO (el (fr:=[none,some 1,some 0]) (N':=["_law_k","_law_form_here","_law_script"]) (kN (aA (aH 2) aL) (λh=>jP Fo T.b_range h)) (λb=>⟨(dJ (pk 0)),iR,(cd (Rs T) T.D_54 d (aA (aH 1) (aA (rD (cF (D3 T) T.D_50 d (aA (cd (IR T) T.D_49 d (aA (aH 2) (aA (cJ cZ gU aK (aH 0)) aL))) (aA aK aL)))) aL)))⟩)))),?_⟩;refine BZ (ts:=eQ n) (λR h=>⟨_,Fo,_,Fo,Fl,Fl,by simpa using h⟩) (λ_ _ y=>∃r:List D×Str,WH fs an r/\y=dQ r) (by rw[gZ];lia) (λk x q hx v=>?_) λc e E=>?_
 ·obtain⟨hk,rfl⟩:=iB hx;refine⟨_,Fo,_,Fo,_,Fo,ns,7+(k:Int),Fo,u,Fl,Fl,λr=>⟨r,9,Fo,Fk,λbs s=>⟨fs,an,bs,9,Fo,F,s,Fk,λm a t p=>v _ ⟨(m,a),⟨t,p⟩,Fo⟩⟩⟩⟩
 ·rw[gZ]at e
  have all:∀c:List D,(∀y∈c,∃r:List D×Str,WH fs an r/\y=dQ r)->∃f:List (List D×Str),gF fs an f/\f.length=c.length/\c=f.map dQ:=λc=>by
   induction c with
   |nil=>exactλ_=>⟨[],λr d=>by simp at d,Fo,Fo⟩
   |cons y c J=>
    intro h;obtain⟨r,d,rfl⟩:=h y (aS ..);obtain⟨f,g,l,o⟩:=J λz H=>h z (aO _ H);refine⟨r::f,λx hx=>?_,by simp[l],by rw[o];rfl⟩;rcases aY.mp hx with rfl | hx
    ·exact d
    ·exact g x hx
  obtain⟨f,g,l,rfl⟩:=all c λy j=>by
   obtain⟨k,hk⟩:=bP j;have i:k<n:=by rw[<- e];exact(aE.mp hk).1
   exact E k _ y (aD (by rw[gZ];exact i)) hk
  exact h f g (by rw[<- e,aC])
def NQ:dU P w K mg base hW 1 mo qm ["_law_form_here"] (cG K Xd):=by
 refine lZ T.D_62.F Wb λhr nd ds Q h=>?_;obtain⟨fs,an,rfl,F,h⟩:=h;refine⟨_,(aP (so 1 nd aL)
 (aP (sf (eW (bD aX cA (aH 0) aK)) (oA (lD Fo (dR (pn 2 nd) (dR (pn 3 nd) jS))))
 (aP (sf (eW (jW mW wX (aH 3) mX (jT (bD aX cA (kG (aA (cB gQ (aA (aH 3) aL) bY T.b_len eZ) (aA aK aL))) (sA (lP jI mO (cB gQ (aA (aH 3) aL) bY T.b_len eZ) aK) (λh=>gH nW Fo T.b_int wB h)))))) (dJ (pn 4 nd))
 (bC (mM (i:=1) (pv 1) (eK (aA eM (aA (aH 2) (aA (aH 4) aL)))) (pb:=λh=>jJ (kJ bT dF dE iE (pv 1) h)))))
 (bC (sf (kN (aA (cB gQ (aA (aH 3) aL) bY T.b_len eZ) aL) (λh=>jP Fo T.b_range h)) (dJ (pn 5 nd))
 (bC (gT (HP zK zK lF lF aK (aH 5) (cJ mN vR (cB gQ (aA (aH 3) aL) bY T.b_len eZ) aK))
 (bC (mM (i:=1) (pv 1) (eK (aA eM (aA (aH 2) (aA (bD aX cA (aH 3) (aH 5)) aL)))) (pb:=λh=>jJ (kJ bT dF dE iE (pv 1) h))))
 fL))))))
 (lW 1 (bC (cO (aH 1)))))),?_⟩
 show gI _ _ _ [.val (dX fs an),.un,.un,.un,.un,.un];have n5:=F.n5;refine lJ [] Fk (λq l=>l) ?_
 refine hV (ts:=fs.map kI) (λR h=>⟨_,Fo,_,Fo,_,Fo,h⟩)
  (λk r=>∃E s3 c d:Sl,r=[.val (dX fs an),.own (eN (fs.take k)),E,s3,c,d]) ⟨_,_,_,_,Fo⟩ (λk x b o a=>?_) λb a=>?_
 ·obtain⟨E,s3,c,d,rfl⟩:=a;rw[aI]at o;obtain⟨f,p,rfl⟩:=bU.mp o;have W:f∈fs:=aU p;obtain⟨v2,v5,oS⟩:=F.vs f W;have U:=iX F (fs.take k) λg hg=>dZ hg;have vz:(fs.take k).length<=5:=by rw[bB];lia
  refine⟨_,_,Fo,?_⟩
  refine hV (ts:=(pQ f).map aW) (λR h=>?_)
   (λj r=>∃c:Sl,r=[.val (dX fs an),.own (eN (fs.take k)++((pQ f).take j).map (D7 "is" f)),.val (.str f.1),.val (.tuple (f.2.map aW)),c,d]) ⟨c,by rw[List.take_zero,lV,fR];rfl⟩ (λj x b o a=>?_) λb a=>?_
  ·have n:∃m:Nat,L2.atI [aQ ((f.2.map aW).length:Int),.int 1] (if decide (((f.2.map aW).length:Int)=2)then 1 else 0)=some (.int (m:Int))/\f.2.take m=pQ f:=by
    rw[aC];unfold pQ;by_cases H:f.2.length=2
    ·rw[a7 (a8 Fl),a7 H];exact⟨1,Fo,Fo⟩
    ·rw[a6 (by simpa using(by lia:¬(f.2.length:Int)=2)),a6 H];exact⟨f.2.length,Fo,dA⟩
   obtain⟨m,n,hm⟩:=n;refine⟨_,Fo,_,Fo,aF Fo,_,Fo,_,n,_,Fo,?_⟩;rw[oB,nV,hm];exact h
  ·obtain⟨c,rfl⟩:=a;rw[aI]at o;obtain⟨z,s,rfl⟩:=bU.mp o;have y:=(aE.mp s).1
   have:(pQ f).length<=5:=by
    unfold pQ;split
    ·rw[bB];lia
    ·lia
   refine nZ (ts:=eN (fs.take k)++((pQ f).take j).map (D7 "is" f)) (D7 "is" f z) Fo (by rw[bG,aC,bB];lia) (λq l=>⟨_,Fo,_,Fo,aF Fo,l⟩) ⟨.val (.str z),?_⟩;rw[cS,s,bA,jZ];rfl
  ·obtain⟨c,rfl⟩:=a;rw[aC,dA]
   have lS:(pQ f).length<=5:=by
    unfold pQ;split
    ·rw[bB];lia
    ·lia
   refine JN (ts:=eQ f.2.length) (λR h=>⟨_,Fo,_,Fo,by rw[aC];lia,by rw[aC];lia,by simpa using h⟩)
    (λj r=>∃d:Sl,r=[.val (dX fs an),.own (eN (fs.take k)++(pQ f).map (D7 "is" f)++(((f.2.take j).drop 1).take (f.2.length-3)).map (D7 "upto" f)),.val (.str f.1),.val (.tuple (f.2.map aW)),c,d]) ⟨d,Fm⟩ (λj x b o a=>?_) λb a=>?_
   ·obtain⟨y,rfl⟩:=iB o;obtain⟨d,rfl⟩:=a;have s:L2.atI (f.2.map aW) (j:Int)=some (.str f.2[j]):=L2.fH (by rw[aI,aD y];rfl);rw[UL y,bA];refine mY (λt=>t=decide (0<j/\j+2<f.2.length)) (λq l=>?_) (λS=>?_) λM=>?_
    ·refine⟨_,Fo,?_⟩;show(if decide ((0:Int)<(j:Int))=true then _ else _);by_cases J:0<j
     ·rw[a7 (a8 Fl)];refine⟨_,Fo,l _ ?_⟩;show decide ((j:Int)<((f.2.map aW).length:Int)-2)=_;rw[aC,ay];lia
     ·rw[a6 (by simpa using(by lia:j=0))];exact l _ (c4 λz=>J z.1).symm
    ·have v:0<j/\j+2<f.2.length:=b8 S.symm;rw[a7 v];refine nZ (ts:=eN (fs.take k)++(pQ f).map (D7 "is" f)++(((f.2.take j).drop 1).take (f.2.length-3)).map (D7 "upto" f)) (D7 "upto" f f.2[j]) Fo (by simp only[bG,aC,bB,gA];lia) (λq l=>⟨_,Fo,_,Fo,_,Fo,_,s,aF Fo,l⟩) ⟨.val (.int j),?_⟩;rw[<- jZ];rfl
    ·have u:¬(0<j/\j+2<f.2.length):=i7 M.symm;rw[a6 u];exact⟨.val (.int j),by rw[lV,fR];rfl⟩
   ·obtain⟨d,rfl⟩:=a;rw[gZ,dA];refine⟨.val (.str f.1),.val (.tuple (f.2.map aW)),c,d,?_⟩
    have e:eN (fs.take (k+1))=eN (fs.take k)++((pQ f).map (D7 "is" f)++(BO f).map (D7 "upto" f)):=by
     unfold eN;rw[cS,p,bA,Q8];show _++[IJ f].flatten=_;rw[KH];rfl
    rw[e,jZ];rfl
 ·obtain⟨E,s3,c,d,rfl⟩:=a;rw[aC,dA];exact⟨_,Fo,_,Fo,h⟩
def Lo:dU P w K mg base hW 1 mh qh ["_law_numbers"] (cG K Wx):=by
 refine lZ T.D_56.F Ul λa nd b Q h=>?_;obtain⟨rfl,h⟩:=h;refine⟨_,(O4 a (pv 0) (TJ bT HC HB UJ (pv 0))),?_⟩;exact⟨Fo,h⟩
def Ru:dU P w K mg base hW 1 mi qi ["_law_form_here","_law_number"] (cG K Wy):=by
 refine lZ T.D_57.F Um λhr nd U Q h=>?_;obtain⟨fs,an,n,rfl,F,hn,h⟩:=h;refine⟨_,(aP (BF (g:=λ_ _ _ _=>True) (bD aX cA (bD aX cA (aH 0) aK) (cJ gK oY (aH 1) (cB gQ (aA (bD aX cA (aH 0) aK) aL) bY T.b_len eZ))) (oA (lD Fo (dR (pn 2 nd) (dR (pn 3 nd) jS)))) (λH J=>tQ H J))
 (aP (ss 4 nd (bD aX cA (kG (aA eM (aA eM aL))) (cJ gK oY (cJ lL oY (aH 1) aK) aK)))
 (bC (cO (eK (aA (aH 4) (aA (aH 2) (aA (bD aX cA (aH 3) (cJ gK oY (cJ lL oY (aH 1) aK) (cJ mN vR (cB gQ (aA (aH 3) aL) bY T.b_len eZ) (sA (lP jI mO (aH 4) eM) (λh=>gH nW Fo T.b_int wB h))))) aL)))))))),?_⟩
 show gI _ _ _ [.val (dX fs an),.val (.int n),.un,.un,.un];have n1:=F.n1;have e:(0:Int)<((fs.map kI).length:Int):=by rw[aC];lia
 obtain⟨W,s,r,_⟩:=nC (xs:=fs.map kI) (i:=n%((fs.map kI).length:Int)) (dG _ Fl) (cV _ e);obtain⟨f,p,rfl⟩:=aR.mp s;obtain⟨v2,v5,R⟩:=F.vs f p;refine AO (a:=.str f.1) (b:=.tuple (f.2.map aW)) (λq x=>⟨_,Fo,_,Fo,_,Fo,_,Fo,_,Fo,e,_,r,x⟩) ?_;obtain⟨S,l,u,_⟩:=nC (xs:=[aW "is",.str "upto"]) (i:=n / 5%2) (dG _ Fk) (cV _ Fk);refine cK S (λq x=>⟨aF Fo,_,Fo,⟨Fk,Fk⟩,(show(0:Int)<2 by decide),_,u,x⟩) ?_;have hl:((f.2.map aW).length:Int)=(f.2.length:Int):=by rw[aC]
 have PM:∀m:Int,0<m->m<=(f.2.length:Int)->∃z,L2.atI (f.2.map aW) (n / 10%m)=some (.str z)/\∃j:Nat,f.2[j]?=some z/\(j:Int)<m:=λm E h1=>by
  have a0:0<=n / 10%m:=dG _ Fl;have a1:n / 10%m<m:=cV _ E;obtain⟨j,d⟩:∃j:Nat,n / 10%m=(j:Int):=⟨(n / 10%m).toNat,Fl⟩;rw[d]at a1 |-
  have k:j<f.2.length:=by lia
  exact⟨f.2[j],L2.fH (by rw[aI,aD k];rfl),j,aD k,a1⟩
 simp only[aY,dS,j5]at l;rcases l with rfl | rfl
 ·obtain⟨z,y,j,d,t⟩:=PM (((f.2.map aW).length:Int)-0) Fl Fl;have c:z∈f.2:=aU d;refine⟨_,Fo,_,Fo,_,Fo,_,Fo,⟨Fk,Fk⟩,_,Fo,_,Fo,?_⟩;have o:(if decide (("is":Str)="upto")then(1:Int)else 0)=0:=by rw[a6 Fj]
  show(0:Int)<((f.2.map aW).length:Int)-(if decide (("is":Str)="upto")then(1:Int)else 0)/\_;rw[o];refine⟨Fl,_,y,aF Fo,h "is" f.1 z (GA p ?_)⟩;show(decide (z∈f.2)&&(decide (("is":Str)="is")||_))=true;rw[a8 c];rfl
 ·obtain⟨z,y,j,d,t⟩:=PM (((f.2.map aW).length:Int)-1) Fl Fl;have c:z∈f.2:=aU d;have M:=LR d;refine⟨_,Fo,_,Fo,_,Fo,_,Fo,⟨Fk,Fk⟩,_,Fo,_,Fo,?_⟩;have o:(if decide (("upto":Str)="upto")then(1:Int)else 0)=1:=by rw[a7 (a8 Fo)]
  show(0:Int)<((f.2.map aW).length:Int)-(if decide (("upto":Str)="upto")then(1:Int)else 0)/\_;rw[o];refine⟨Fl,_,y,aF Fo,h "upto" f.1 z (GA p ?_)⟩;show(decide (z∈f.2)&&(decide (("upto":Str)="is")||(decide (("upto":Str)="upto")&&decide (f.2.idxOf z+1<f.2.length))))=true;have v:f.2.idxOf z+1<f.2.length:=by lia
  rw[a8 c,a8 v,a8 (rfl:("upto":Str)="upto")];simp
def XU(p:Nat)
  (c:dU P w K mg base hW (2+p) O gm ["_law_form_here","_law_numbers","_law_deep_here"] (cG K (tH p))):dU P w K mg base hW (2+p+1) O gm ["_law_form_here","_law_numbers","_law_deep_here"] (cG K (tH (p+1))):=by
 refine lZ T.D_58.F Uo λl nd ds Q h=>?_;obtain⟨fs,an,n,rfl,F,hn,h⟩:=h;refine⟨_,(aP (ss 3 nd (cd (hk:=by lia) (Lo T) T.D_56 l (aA (aH 1) aL)))
 (aP (gT (qQ (oE (dO jI mO (aH 2) aK) (rQ (dO jI mO (cJ gK oY (aH 3) aK) aK))))
 (bC (cO (eK (aA eM (aA (bD aX cA (bD aX cA (aH 0) aK) (cJ gK oY (cJ lL oY (aH 3) aK) (cB gQ (aA (bD aX cA (aH 0) aK) aL) bY T.b_len eZ))) aL)))))
 fL)
 (aP (ss 4 nd (cd (hk:=by lia) (Ru T) T.D_57 l (aA (aH 0) (aA (cd (hk:=by lia) (Lo T) T.D_56 l (aA (aH 1) aL)) aL))))
 (aP (ss 5 nd (cd (hk:=by lia) c T.D_58 l (aA (aH 0) (aA (aH 1) (aA (cJ mN vR (aH 2) aK) aL)))))
 (bC (cO (eK (aA eM (aA (aH 4) (aA (bD aX cA (kG (aA eM (aA eM aL))) (cJ gK oY (cJ lL oY (aH 3) aK) aK)) (aA (aH 5) (aA (cd (hk:=by lia) c T.D_58 l (aA (aH 0) (aA (aH 1) (aA (cJ mN vR (aH 2) aK) aL)))) aL)))))))))))),?_⟩
 show gI _ _ _ [.val (dX fs an),.val (.dict []),.val (.int n),.un,.un,.un];have a2:=F.a2;refine hZ (λd=>∃m:Int,d=.int m/\0<=m/\m<4096) (λq f=>⟨_,Fo,Fo,λm r g=>f _ ⟨m,Fo,r,g⟩⟩) ?_;rintro _ ⟨m,rfl,m0,m1⟩;refine fW (λb=>b=false->0<n) (λq f=>?_) (λ_=>?_) λS=>?_
 ·refine⟨_,Fo,?_⟩;show(if decide ((n:Int)=0)=true then _ else _);by_cases e:n=0
  ·rw[a7 (a8 Fl)];exact f _ λz=>by cases z
  ·rw[a6 (by simpa using e)];exact⟨_,Fo,(show(0:Int)<4 by decide),f _ λ_=>by lia⟩
 ·have M:(0:Int)<((an.map aW).length:Int):=by rw[aC];lia
  obtain⟨ad,y,x,_⟩:=nC (xs:=an.map aW) (i:=m / 4%((an.map aW).length:Int)) (dG _ Fl) (cV _ M);obtain⟨a,U,rfl⟩:=aR.mp y;exact⟨_,Fo,_,Fo,_,Fo,⟨Fk,Fk⟩,_,Fo,_,Fo,M,_,x,aF Fo,h (.say a) U (cI _)⟩
 have R:0<n:=S Fo
 try unfold jD
 dsimp only;refine hZ (λd=>∃k nm v:Str,d=.tuple [.str k,.str nm,.str v]/\QA fs (.tuple [.str k,.str nm,.str v])=true) (λq f=>⟨_,Fo,_,Fo,Fo,λj r g=>⟨fs,an,j,Fo,F,r,λk nm v hk=>f _ ⟨k,nm,v,Fo,hk⟩⟩⟩) ?_;rintro _ ⟨k,nm,v,rfl,hk⟩
 have H:[dX fs an,KF [],.int ((n:Int)-1)]=[dX fs an,.dict [],.int ((n-1:Nat):Int)]:=by
  have:(n:Int)-1=((n-1:Nat):Int):=by lia
  rw[this]
 refine hZ (λd=>∃t:Tr,d=jG t/\lQ fs an t/\t.dep<=n-1) (λq f=>⟨_,Fo,_,Fo,_,Fo,fs,an,n-1,H,F,Fl,λt g J=>f _ ⟨t,Fo,g,J⟩⟩) ?_;rintro _ ⟨t,rfl,W,yz⟩;obtain⟨sd,o,E,_⟩:=nC (xs:=[aW "yes",.str "no"]) (i:=m / 4%2) (dG _ Fk) (cV _ Fk)
 obtain⟨s,rfl,hs⟩:∃s:Str,sd=.str s/\(s="yes"\/s="no"):=by
  simp only[aY,dS,j5]at o;rcases o with rfl | rfl
  ·exact⟨_,Fo,.inl Fo⟩
  ·exact⟨_,Fo,.inr Fo⟩
 refine⟨_,Fo,aF Fo,_,Fo,⟨Fk,Fk⟩,(show(0:Int)<2 by decide),_,E,_,Fo,_,Fo,_,Fo,_,Fo,fs,an,n-1,H,F,Fl,λu g J=>⟨aF Fo,h (.ask k nm v s t u) ⟨hk,hs,W,g⟩ ?_⟩⟩;show max t.dep u.dep+1<=n;lia
def Rx:dU P w K mg base hW 6 O gm ["_law_form_here","_law_numbers","_law_deep_here"] (cG K Wz):=by
 have h:∀a:Nat,dU P w K mg base hW (2+a) O gm ["_law_form_here","_law_numbers","_law_deep_here"] (cG K (tH a)):=λa=>by
  induction a with
  |zero=>exact vV pI λc Q h=>UA h
  |succ a b=>exact XU T a b
 exact h 4
def Ry:dU P w K mg base hW 2 ml qk ["_law_form_here","_law_tree_here","_law_case_here"] (cG K Xb):=by
 refine lZ T.D_60.F Uq λp nd J Q h=>?_;obtain⟨fs,an,t,b,rfl,F,r,f,h⟩:=h;refine⟨_,(aP (tE (dO jI mO (cB gQ (aA (aH 1) aL) bY T.b_len eZ) aK)
 (bC (ss 1 nd (bD aX cA (aH 1) (cJ cZ gU aK (sA (lP jI mO (cd (Lp T) T.D_59 p (aA (aH 0) (aA (bD aX cA (aH 1) aK) (aA (bD aX cA (aH 1) aK) (aA (aH 2) aL))))) eM) (λh=>gH nW Fo T.b_int wB h)))))) (λf l=>tP v8 f l))
 (bC (cO (bD aX cA (aH 1) aK)))),?_⟩
 show gI _ _ _ [.val (dX fs an),.val (jG t),.val (.tuple b)];refine qV (λn E=>∃u:Tr,E=[.val (dX fs an),.val (jG u),.val (.tuple b)]/\n=u.kn/\lQ fs an u/\pK fs u b=pK fs t b) t.kn ⟨t,Fo,Fo,r,Fo⟩ λn H j=>?_;obtain⟨u,rfl,R,x,i⟩:=j
 cases u with
 |say a=>
  refine⟨false,(λq c=>⟨_,Fo,c⟩),?_⟩;rw[a6 Fk];rw[<- i]at h;exact⟨_,Fo,_,Fo,h⟩
 |ask k nm v s y m=>
  obtain⟨d,hs,z,o⟩:=x;refine⟨true,(λq c=>⟨_,Fo,c⟩),?_⟩;rw[a7 rfl];have M:(Tr.ask k nm v s y m).kn=y.kn+m.kn+1:=rfl;have g:pK fs (.ask k nm v s y m) b=if fN fs k nm v s b="yes" then pK fs y b else pK fs m b:=rfl;rcases AN F d hs f with e | e
  ·rw[a7 e]at g;refine mH (jG y) (λq c=>⟨_,Fo,_,Fo,_,Fo,_,Fo,_,Fo,_,Fo,_,Fo,fs,an,k,nm,v,s,b,Fo,F,d,hs,f,?_⟩) ⟨y.kn,Fl,y,Fo,Fo,z,g▸i⟩;rw[e];exact⟨_,Fo,c⟩
  ·rw[a6 (by rw[e];decide)]at g;refine mH (jG m) (λq c=>⟨_,Fo,_,Fo,_,Fo,_,Fo,_,Fo,_,Fo,_,Fo,fs,an,k,nm,v,s,b,Fo,F,d,hs,f,?_⟩) ⟨m.kn,Fl,m,Fo,Fo,o,g▸i⟩;rw[e];exact⟨_,Fo,c⟩
def Rz:dU P w K mg base hW 1 mm ql ["_law_form_here"] (cG K Xc):=by
 refine lZ T.D_61.F Wa λv nd t Q h=>?_;obtain⟨fs,an,rfl,F,h⟩:=h;refine⟨_,(aP (ss 1 nd aK)
 (aP (sf (eW (bD aX cA (aH 0) aK)) (dJ (pn 2 nd))
 (bC (ss 1 nd (cJ fV lN (aH 1) (cJ cZ gU (cB gQ (aA (bD aX cA (aH 2) aK) aL) bY T.b_len eZ) aK)))))
 (aP (gT (dO D2 lF (aH 1) aK)
 (bC (cO (aH 0)))
 fL)
 (bC (cO (eK (aA (jW mW wX (bD aX cA (aH 0) aK) mX (jT aK)) (aA (bD aX cA (aH 0) aK) aL)))))))),?_⟩
 show gI _ _ _ [.val (dX fs an),.un,.un];refine cK (.int ((1:Nat):Int)) (λq a=>a) ?_
 refine hV (ts:=fs.map kI) (λR h=>⟨_,Fo,_,Fo,_,Fo,h⟩)
  (λk s=>∃(z:Nat)(g:Sl),s=[.val (dX fs an),.val (.int (z:Nat)),g]/\3^k<=z/\z<=6^k) ⟨1,_,Fo,aN _,aN _⟩ (λk x i l d=>?_) λi d=>?_
 ·obtain⟨z,g,rfl,c,o⟩:=d;rw[aI]at l;obtain⟨f,j,rfl⟩:=bU.mp l;have hk:=(aE.mp j).1;have n5:=F.n5;obtain⟨E,H,_⟩:=F.vs f (aU j);have u:6^k<=6^5:=lR Fk Fl;have n:(6:Nat)^5=7776:=by decide
  have el:(((f.2.map aW).length:Nat):Int)=(f.2.length:Int):=by rw[aC]
  refine mH (.int ((z*(f.2.length+1):Nat):Int)) (λq a=>⟨_,Fo,_,Fo,_,Fo,.inl ⟨Fl,Fl⟩,?_⟩) ⟨z*(f.2.length+1),.val (kI f),Fo,?_,?_⟩
  ·show q (.int ((z:Int)*((((f.2.map aW).length:Nat):Int)+1)));rw[el,show((f.2.length:Int)+1)=((f.2.length+1:Nat):Int)from Fo,<- eI];exact a
  ·rw[uF];exact fZ c Fl
  ·rw[uF];exact fZ o Fl
 ·obtain⟨z,g,rfl,c,_⟩:=d;rw[aC]at c;refine fW (λb=>b=decide ((z:Int)<=100)) (λq a=>⟨_,Fo,a _ Fo⟩) (λp=>?_) λ_=>?_
  ·have y:(z:Int)<=100:=b8 p.symm;have n5:=F.n5;refine⟨_,Fo,h fs ⟨F.n1,F.n5,F.nd,F.vs,F.a2,F.a4,F.an,?_⟩⟩;refine aAs λr=>?_;have m:fs.length=5:=by lia
   rw[m]at c;have:(3:Nat)^5=243:=by decide
   lia
  ·try unfold jD
   dsimp only;refine⟨_,Fo,_,Fo,_,Fo,_,Fo,Fn,?_⟩;show Q (.tuple [.tuple (kU (fs.map kI) none (some 2)),.tuple (an.map aW)])
   have e:kU (fs.map kI) none (some 2)=(fs.take 2).map kI:=by
    have:=nV (fs.map kI) 2;rw[rO];exact this
   rw[e];exact h (fs.take 2) (QJ F)
def XT(d:Nat)
  (c:dU P w K mg base hW (1+d) X gn ["_law_tree_here"] (cG K (tG d))):dU P w K mg base hW (1+d+1) X gn ["_law_tree_here"] (cG K (tG (d+1))):=by
 refine lZ T.D_65.F We λg nd n Q h=>?_;obtain⟨t,rfl,hd,o,h⟩:=h;refine⟨_,(aP (gT (dO jI mO (cB gQ (aA (aH 0) aL) bY T.b_len eZ) aK)
 (bC (cO aK))
 fL)
 (bC (cO (cJ cZ gU aK (cB Xz (aA (cd (hk:=by lia) c T.D_65 g (aA (bD aX cA (aH 0) aK) aL)) (aA (cd (hk:=by lia) c T.D_65 g (aA (bD aX cA (aH 0) aK) aL)) aL)) (QU Fo) T.b_max GN))))),?_⟩
 cases t with
 |say a=>
  show gI _ _ _ [.val (jG (.say a))];refine fW (λb=>b=true) (λq f=>⟨_,Fo,f _ Fo⟩) (λ_=>?_) λj=>by cases j
  exact h
 |ask k nm v s y m=>
  show gI _ _ _ [.val (jG (.ask k nm v s y m))];have e:(Tr.ask k nm v s y m).dep=max y.dep m.dep+1:=rfl;refine fW (λb=>b=false) (λq f=>⟨_,Fo,f _ Fo⟩) (λl=>by cases l) λ_=>?_
  try unfold jD
  dsimp only;refine⟨_,Fo,_,Fo,y,Fo,Fl,Fl,_,Fo,_,Fo,m,Fo,Fl,Fl,?_⟩;show Q (.int (1+(if((m.dep:Nat):Int)>((y.dep:Nat):Int)then((m.dep:Nat):Int)else((y.dep:Nat):Int))));have i:(1+(if((m.dep:Nat):Int)>((y.dep:Nat):Int)then((m.dep:Nat):Int)else((y.dep:Nat):Int)))=(((Tr.ask k nm v s y m).dep:Nat):Int):=by rw[e];split<;>lia
  rw[i];exact h
def Sb:dU P w K mg base hW 5 X gn ["_law_tree_here"] (cG K Xg):=by
 have h:∀a:Nat,dU P w K mg base hW (1+a) X gn ["_law_tree_here"] (cG K (tG a)):=λa=>by
  induction a with
  |zero=>exact vV pI λc Q h=>T9 h
  |succ a b=>exact XT T a b
 exact h 4
def XS(i:Nat)
  (c:dU P w K mg base hW (2+i) Y gp ["_law_form_here","_law_tree_here"] (cG K (tF i))):dU P w K mg base hW (2+i+1) Y gp ["_law_form_here","_law_tree_here"] (cG K (tF (i+1))):=by
 refine lZ T.D_66.F Wf λf nd E Q h=>?_;obtain⟨fs,an,t,d,rfl,F,l,hd,h⟩:=h;refine⟨_,(aP (gT (dO jI mO (cB gQ (aA (aH 1) aL) bY T.b_len eZ) aK)
 (bC (cO (LZ (lP jI mO (bD aX cA (aH 1) aK) eM) (LX (lP (TQ f) Le (bD aX cA (aH 1) aK) (bD aX cA (aH 0) aK))))))
 fL)
 (aP (gT (qQ (oE (dO BU LB (bD aX cA (aH 1) aK) eM) (oE (dO (lK f) vQ (bD aX cA (aH 1) aK) (cd (hk:=by lia) (NQ T) T.D_62 f (aA (aH 0) aL))) (rQ (dO (lK f) vQ (bD aX cA (aH 1) aK) (kG (aA eM (aA eM aL))))))))
 (bC (cO nL))
 fL)
 (bC (cO (LZ (cd (hk:=by lia) c T.D_66 f (aA (aH 0) (aA (bD aX cA (aH 1) aK) aL))) (LX (cd (hk:=by lia) c T.D_66 f (aA (aH 0) (aA (bD aX cA (aH 1) aK) aL))))))))),?_⟩
 cases t with
 |say a=>
  show gI _ _ _ [.val (dX fs an),.val (jG (.say a))];refine fW (λb=>b=true) (λq g=>⟨_,Fo,g _ Fo⟩) (λ_=>?_) λo=>by cases o
  have a4:=F.a4;have n:a∈an:=by cases d<;>exact l
  refine⟨_,Fo,_,Fo,?_⟩;refine⟨_,Fo,_,Fo,_,Fo,_,Fo,JP (AS F.an.2.1 (Ku (F.an.2.1 a n))) ?_⟩
  have e:A1 (.str a) (.tuple (an.map aW))=true:=by
   show((an.map aW).any λy=>dW y (.str a))=true;rw[xM];exact a8 n
  rw[e];exact h
 |ask k nm v s y m=>
  obtain⟨d,rfl⟩:∃e,d=e+1:=by cases d with | zero=>exact l.elim | succ d=>exact⟨d,Fo⟩
  obtain⟨p,hs,u,r⟩:=l;show gI _ _ _ [.val (dX fs an),.val (jG (.ask k nm v s y m))];refine fW (λb=>b=false) (λq g=>⟨_,Fo,g _ Fo⟩) (λj=>by cases j) λ_=>?_
  try unfold jD
  dsimp only;refine fW (λb=>b=false) (λq g=>⟨_,Fo,_,Fo,_,Fo,_,Fo,_,Fo,fs,an,Fo,F,?_⟩) (λj=>by cases j) λ_=>?_
  ·obtain⟨x,z⟩:=Qr F p;rw[<- oX];refine⟨x,?_⟩;show(if(!A1 (qD (k,nm,v)) (.list ((qs fs).map qD)))=true then q true else _);rw[z,a6 Fk];refine⟨_,Fo,_,Fo,Fn,(show vP (.str s) (.list [.str "yes",.str "no"])from(U7 hs).1),?_⟩;show q (!A1 (.str s) (.tuple [.str "yes",.str "no"]));rw[(U7 hs).2];exact g _ Fo
  ·try unfold jD
   dsimp only;refine⟨_,Fo,_,Fo,_,Fo,fs,an,y,d,Fo,F,u,Fl,?_⟩;exact⟨_,Fo,_,Fo,_,Fo,fs,an,m,d,Fo,F,r,Fl,h⟩
def Sc:dU P w K mg base hW 6 Y gp ["_law_form_here","_law_tree_here"] (cG K Xh):=by
 have h:∀a:Nat,dU P w K mg base hW (2+a) Y gp ["_law_form_here","_law_tree_here"] (cG K (tF a)):=λa=>by
  induction a with
  |zero=>exact vV pI λc Q h=>T8 h
  |succ a b=>exact XS T a b
 exact h 4
def Sa:dU P w K mg base hW 1 mq qo ["_law_form_here","_law_rows_here"] (cG K Xe):=by
 refine lZ T.D_63.F Wc λH nd M Q h=>?_;obtain⟨fs,an,c,rfl,F,hok,J,h⟩:=h;refine⟨_,(aP (ss 2 nd (el (fr:=[none,some 1]) (N':=["_law_answer","_law_rows_here"]) (eW (bD aX cA (aH 0) aK)) (λb=>⟨(dJ (pk 0)),iR,(cB gQ (aA (el (fr:=[none,some 0]) (N':=["_law_row_here","_law_answer"]) (eW (aH 1)) (λb=>⟨(dJ (pk 0)),(tX (dO jI mO (bD aX cA (aH 0) aK) (aH 1))),(aH 0)⟩)) aL) bY T.b_len eZ)⟩)))
 (bC (cO (bD aX cA (bD aX cA (aH 0) aK) (bD aX cA (el (fr:=[none,some 2]) (N':=["_law_k","_law_counts"]) (kN (aA (cB gQ (aA (aH 2) aL) bY T.b_len eZ) aL) (λh=>jP Fo T.b_range h)) (λb=>⟨(dJ (pk 0)),(tX (dO jI mO (bD aX cA (aH 1) (aH 0)) (cB V9 (aA (aH 1) aL) (qI Fo) T.b_max GN))),(aH 0)⟩)) aK))))),?_⟩
 show gI _ _ _ [.val (dX fs an),.val (.list (c.map dQ)),.un];have a2:=F.a2;have a4:=F.a4;refine cK (.list ((kB an c).map aQ)) (λq f=>?_) ?_
 ·refine jK (ts:=an.map aW) (λR h=>⟨_,Fo,_,Fo,_,Fo,h⟩) (V7 c) (by rw[aC];lia) (λx q i f=>?_) ?_
  ·obtain⟨a,W,rfl⟩:=aR.mp i;have e:V7 c (.str a)=.int (((((c.map dQ).filter (Ia a)).map id).length:Nat):Int):=by rw[VH];rfl
   rw[e]at f;dsimp only[nM,pZ];refine pG (ts:=c.map dQ) (λR h=>⟨_,Fo,_,Fo,h⟩) (Ia a) id (by rw[aC];lia) (λx q i f=>?_) (λx q i f=>⟨_,Fo,f⟩) f;obtain⟨r,H,rfl⟩:=aR.mp i;exact⟨_,Fo,_,Fo,_,Fo,f⟩
  ·have e:(an.map aW).map (V7 c)=(kB an c).map aQ:=by unfold kB;rw[bM,bM];rfl
   rw[e];exact f
 have y:kB an c≠[]:=λz=>by
  have:=e8 gC z;unfold kB at this;rw[aC]at this;simp at this;rw[this]at a2;simp at a2
 obtain⟨a,k,g,s,n⟩:=B7 (show 0<an.length by lia) c;have u:=(aE.mp g).1;have t:(kB an c).length=an.length:=by unfold kB;rw[aC]
 have d:∀(j:Nat) b,an[j]?=some b->(kB an c)[j]?=some ((rG c b:Nat):Int):=λj b o=>by unfold kB;rw[aI,o];rfl
 have E:∀m:Int,m∈kB an c->(∀x∈kB an c,x<=m)->m=((rG c a:Nat):Int):=λm v i=>by
  have S:=i _ (aU (d k a g));obtain⟨b,o,rfl⟩:=aR.mp v;obtain⟨j,p⟩:=bP o;have U:=s j b p;lia
 refine⟨_,Fo,_,Fo,?_⟩;dsimp only[KB];refine pG (ts:=eQ an.length) (λR h=>⟨_,Fo,((((kB an c).map aQ).length:Nat):Int),Fo,by rw[aC];lia,by rw[aC];lia,?_⟩) (Jh (kB an c) ((rG c a:Nat):Int)) id (by rw[gZ];lia) (λx q i f=>?_) (λx q i f=>⟨_,Fo,f⟩) ?_
 ·rw[dY,aC,t];exact h
 ·obtain⟨j,p⟩:=bP i;obtain⟨l,rfl⟩:=iB p;have o:=d j an[j] (aD l);refine⟨_,Fo,_,Fo,_,L2.fH (by rw[aI,o];rfl),_,Fo,_,Fo,y,λm v i=>?_⟩;rw[E m v i]
  have e:Jh (kB an c) ((rG c a:Nat):Int) (.int (j:Nat))=decide (((rG c an[j]:Nat):Int)=((rG c a:Nat):Int)):=by
   show decide ((kB an c).getD ((j:Nat):Int).toNat _=_)=_;rw[dY,dD,o];rfl
  rw[e]at f;exact f
 ·rw[nH];refine⟨_,L2.fH (LV u ?_ λj p=>?_),_,L2.fH (by rw[aI,g];rfl),h a ⟨k,g,s,n⟩⟩
  ·refine a8 ?_;rw[dY,dD,d k a g];rfl
  ·refine c4 λz=>?_;have l:j<an.length:=by lia
   rw[dY,dD,d j _ (aD l)]at z;have:=n j _ p (aD l);have z':((rG c an[j]:Nat):Int)=((rG c a:Nat):Int):=z;lia
def Lq:dU P w K mg base hW 3 mr qp ["_law_form_here","_law_tree_here","_law_rows_here","_law_prices"] (cG K Xf):=by
 refine lZ T.D_64.F Wd λj nd ds Q h=>?_;obtain⟨fs,an,t,d,a,b,rfl,F,ht,hk,S,hl,a0,a1,b0,b1,h⟩:=h;refine⟨_,(aP (ss 4 nd (cB gQ (aA (el (fr:=[none,some 0,some 1]) (N':=["_law_row_here","_law_form_here","_law_tree_here"]) (eW (aH 2)) (λb=>⟨(dJ (pk 0)),(tX (dO BU LB (cd (Ry T) T.D_60 j (aA (aH 1) (aA (aH 2) (aA (bD aX cA (aH 0) aK) aL)))) (bD aX cA (aH 0) aK))),(aH 0)⟩)) aL) bY T.b_len eZ))
 (aP (ss 5 nd aK)
 (aP (so 6 nd (aA (aH 1) aL))
 (aP (tE (O3 6 (dO oI lF (cB gQ (aA (aH 6) aL) bY T.b_len eZ) aK))
 (aP (aCz (i:=6) (pv 6) (dJ (pn 7 nd)) (λhg=>tQ (TJ bT HC HB UJ (pv 6)) hg))
 (bC (gT (dO jI mO (cB gQ (aA (aH 7) aL) bY T.b_len eZ) aK)
 (aP (ss 5 nd (cJ cZ gU (aH 5) aK))
 (bC (sF 6 nd (Z0 (pv 6) (kG (aA (bD aX cA (aH 7) aK) (aA (bD aX cA (aH 7) aK) aL)))))))
 fL))) (λhc W=>tP v8 hc W))
 (bC (cO (cJ cZ gU (cJ fV lN (bD aX cA (aH 3) aK) (aH 4)) (cJ fV lN (bD aX cA (aH 3) aK) (aH 5))))))))),?_⟩
 show gI _ _ _ [.val (dX fs an),.val (jG t),.val (.list (d.map dQ)),.val (.tuple [.int a,.int b]),.un,.un,.un,.un];have xf:=t.nodes_kn;have lS:eE fs t d<=60:=bJ (bW _ _) hl;refine cK (.int ((eE fs t d:Nat):Int)) (λq c=>?_) ?_
 ·have H:(((((d.map dQ).filter (DZ fs t)).map id).length:Nat):Int)=((eE fs t d:Nat):Int):=by rw[DY]
  rw[<- H]at c;dsimp only[nM,pZ];refine pG (ts:=d.map dQ) (λR h=>⟨_,Fo,_,Fo,h⟩) (DZ fs t) id (by rw[aC];lia) (λx q o c=>?_) (λx q o c=>⟨_,Fo,c⟩) c;obtain⟨r,j,rfl⟩:=aR.mp o;exact⟨_,Fo,_,Fo,_,Fo,_,Fo,fs,an,t,r.1,Fo,F,ht,(S r j).1,_,Fo,_,Fo,c⟩
 refine cK (.int ((0:Nat):Int)) (λq c=>c) ?_;refine lJ [jG t] Fn (λq c=>⟨_,Fo,c⟩) ?_
 refine qV (λn σ=>∃(e:List Tr)(kn:Nat)(u:Sl),σ=[.val (dX fs an),.val (jG t),.val (.list (d.map dQ)),.val (.tuple [.int a,.int b]),.val (.int ((eE fs t d:Nat):Int)),.val (.int (kn:Nat)),.own (e.map jG),u]/\n=RB e/\n<=t.nodes/\kn+Fq e=t.kn) (RB [t])
  ⟨[t],0,_,Fo,Fo,by show t.nodes+0<=_;lia,by show 0+(t.kn+0)=_;lia⟩ λn bi M=>?_
 obtain⟨e,kn,u,rfl,hn,Eo,g⟩:=M;refine⟨decide (0<e.length),λq c=>⟨_,Fo,_,Fo,?_⟩,?_⟩
 ·show q (decide (((e.map jG).length:Int)>0));have:decide (((e.map jG).length:Int)>0)=decide (0<e.length):=by rw[aC,ay];lia
  rw[this];exact c
 rcases ZH e with rfl | ⟨f,p,rfl⟩
 ·rw[a6 Fk];have l:kn=t.kn:=by have:Fq ([]:List Tr)=0:=rfl;lia
  subst l;exact⟨_,Fo,_,Fo,_,Fo,.inl ⟨Fl,Fl⟩,_,Fo,_,Fo,_,Fo,.inl ⟨Fl,Fl⟩,h⟩
 ·rw[a7 (a8 Fm)];have w1:RB [p]=p.nodes:=AI _;have w2:Fq [p]=p.kn:=AI _;rw[FH,w1]at hn;rw[MY,w2]at g;have xj:=MX f;refine YC (f.map jG) (jG p) (by rw[bA];rfl) ?_;show Ga _ _ _ _ [.val (dX fs an),.val (jG t),.val (.list (d.map dQ)),.val (.tuple [.int a,.int b]),.val (.int ((eE fs t d:Nat):Int)),.val (.int (kn:Nat)),.own (f.map jG),.val (jG p)]
  cases p with
  |say z=>
   refine mY (λb=>b=false) (λq c=>⟨_,Fo,c _ Fo⟩) (λU=>by cases U) λ_=>?_;have:(Tr.say z).nodes=1:=rfl;have:(Tr.say z).kn=0:=rfl;exact⟨RB f,Fl,f,kn,_,Fo,Fo,Fl,Fl⟩
  |ask k nm v s y m=>
   have l:(Tr.ask k nm v s y m).nodes=y.nodes+m.nodes+1:=rfl;have e2:(Tr.ask k nm v s y m).kn=y.kn+m.kn+1:=rfl;have E:RB [y,m]=y.nodes+m.nodes:=by show y.nodes+(m.nodes+0)=_;lia
   have w4:Fq [y,m]=y.kn+m.kn:=by show y.kn+(m.kn+0)=_;lia
   refine mY (λb=>b=true) (λq c=>⟨_,Fo,c _ Fo⟩) (λ_=>?_) λJ=>by cases J
   refine cK (.int ((kn+1:Nat):Int)) (λq c=>⟨_,Fo,c⟩) ?_;refine⟨_,Fo,_,Fo,_,Fo,_,Fo,_,Fo,Fn,[jG y,jG m],Fo,by rw[aC];show f.length+2<=_;lia,?_⟩;refine⟨RB (f++[y,m]),by rw[FH,E];lia,f++[y,m],kn+1,_,by rw[bA];rfl,Fo,by rw[FH,E];lia,by rw[MY,w4];lia⟩
def Lr:dU P w K mg base hW 2 ms qq ["_law_form_here","_law_rows_here","_law_question","_law_stray","_law_numbers"] (cG K Xi):=by
 refine lZ T.D_67.F Wg λf nd U Q h=>?_;obtain⟨fs,an,a,c,ns,rfl,F,E,W,H,e,h⟩:=h;refine⟨_,(aP (so 5 nd aL)
 (aP (so 6 nd aL)
 (aP (sf (eW (aH 4)) (dJ (pn 7 nd))
 (bC (gT (dO jI mO (cd (Lp T) T.D_59 f (aA (aH 0) (aA (aH 2) (aA (aH 3) (aA (bD aX cA (bD aX cA (aH 1) (aH 7)) aK) aL))))) eM)
 (bC (mM (i:=5) (pv 5) (aH 7) (pb:=λh=>jJ (kJ bT dF dE iE (pv 5) h))))
 (bC (mM (i:=6) (pv 6) (aH 7) (pb:=λh=>jJ (kJ bT dF dE iE (pv 6) h)))))))
 (lW 6 (lW 5 (bC (cO (eK (aA (cY pY (aA (aH 5) aL) jF T.b_tuple kH) (aA (cY pY (aA (aH 6) aL) jF T.b_tuple kH) aL)))))))))),?_⟩
 show gI _ _ _ [.val (dX fs an),.val (.list (a.map dQ)),.val (qD c.1),.val (.str c.2),.val (eS ns),.un,.un,.un];have M:=e.len;obtain⟨n,o⟩:=yU H;refine lJ [] Fn (λq d=>d) ?_;refine lJ [] Fn (λq d=>d) ?_
 refine hV (ts:=ns.map λ(i:Nat)=>aQ (i:Int)) (λR h=>⟨_,Fo,_,Fo,h⟩)
  (λk S=>∃u:Sl,S=[.val (dX fs an),.val (.list (a.map dQ)),.val (qD c.1),.val (.str c.2),.val (eS ns),.own (((ns.take k).filter (PY fs a c)).map λ(i:Nat)=>aQ (i:Int)),.own (((ns.take k).filter λi=>!PY fs a c i).map λ(i:Nat)=>aQ (i:Int)),u]) ⟨_,Fo⟩ (λk x v y l=>?_) λv l=>?_
 ·obtain⟨u,rfl⟩:=l;rw[aI]at y;obtain⟨i,g,rfl⟩:=bU.mp y;have r:=e.lt (aU g);have J:=(aE.mp g).1;have f:a[i]?=some a[i]:=aD r;have s:PY fs a c i=WX fs c a[i]:=by unfold PY;rw[f]
  have t:=aU f
  have z:∀p:Nat->Bool,(((ns.take k).filter p).map λ(i:Nat)=>aQ (i:Int)).length<=60:=λp=>by
   rw[aC];refine bJ (bW _ _) ?_;rw[bB];lia
  refine mY (λb=>b=PY fs a c i) (λq d=>⟨_,Fo,_,Fo,_,Fo,_,Fo,_,Fo,dQ a[i],L2.fH (by rw[aI,f];rfl),.tuple a[i].1,Fo,fs,an,c.1.1,c.1.2.1,c.1.2.2,c.2,a[i].1,Fo,F,yD n,o,(E _ t).1,?_⟩) (λm=>?_) λj=>?_
  ·exact d _ (by rw[s];rfl)
  ·refine nZ (.int (i:Nat)) Fo (bJ (z _) Fn) (λq d=>⟨_,Fo,d⟩) ⟨.val (.int (i:Nat)),?_⟩;have m:=m.symm;rw[cS,g];show _=[_,_,_,_,_,Sl.own (((ns.take k++[i]).filter (PY fs a c)).map _),Sl.own (((ns.take k++[i]).filter _).map _),_];rw[fC,fC,bA,bA];simp[m]
  ·refine nZ (.int (i:Nat)) Fo (bJ (z _) Fn) (λq d=>⟨_,Fo,d⟩) ⟨.val (.int (i:Nat)),?_⟩;have j:=j.symm;rw[cS,g];show _=[_,_,_,_,_,Sl.own (((ns.take k++[i]).filter (PY fs a c)).map _),Sl.own (((ns.take k++[i]).filter _).map _),_];rw[fC,fC,bA,bA];simp[j]
 ·obtain⟨u,rfl⟩:=l;rw[aC,dA];exact⟨_,Fo,_,Fo,_,Fo,_,Fo,Fn,h⟩
def Ls:dU P w K mg base hW 2 mu qr ["_law_form_here","_law_rows_here","_law_numbers","_law_prices"] (cG K XP):=by
 refine lZ T.D_68.F Wh λn nd y Q h=>?_;obtain⟨fs,an,fa,c,a,b,ns,rfl,S,k,h⟩:=h;refine⟨_,(aP (pD (i:=4) (fr:=[none,some 1]) (N':=["_law_number","_law_rows_here"]) (eW (aH 2)) (λb=>⟨(dJ (pk 0)),iR,(bD aX cA (aH 1) (aH 0))⟩) (λg p=>nS (show qZ _ (aZ (top 80)) ["_law_form_here","_law_rows_here","_law_numbers","_law_prices","_law_some","_law_answer"] ["_law_number","_law_rows_here"] [none,some 1]=true from by decide +kernel) nd Fo (by first | exact v7 Fo | exact r8 Fo) Fo g p Fo))
 (aP (ss 5 nd (cd (Sa T) T.D_63 n (aA (aH 0) (aA (aH 4) aL))))
 (bC (cO (cJ fV lN (bD aX cA (aH 3) aK) (cB gQ (aA (el (fr:=[none,some 5]) (N':=["_law_row_here","_law_answer"]) (eW (aH 4)) (λb=>⟨(dJ (pk 0)),(tX (dO BU LB (bD aX cA (aH 0) aK) (aH 1))),(aH 0)⟩)) aL) bY T.b_len eZ)))))),?_⟩
 show gI _ _ _ [.val (dX fs an),.val (.list (c.map dQ)),.val (eS ns),.val (.tuple [.int a,.int b]),.un,.un];have f:∀i∈ns,i<c.length:=λi g=>k.lt g;have E:=S.l;have s:=k.len;have t:=wS f;have a0:=S.a0;have a1:=S.a1;refine cK (.list ((bL c ns).map dQ)) (λq d=>?_) ?_
 ·rw[<- FN f]at d;refine jK (ts:=ns.map λ(i:Nat)=>aQ (i:Int)) (λR h=>⟨_,Fo,_,Fo,h⟩) (qW c) (by rw[aC];lia) (λx q m d=>?_) d;obtain⟨i,g,rfl⟩:=aR.mp m;have j:=f i g;have e:qW c (.int (i:Nat))=dQ c[i]:=by unfold qW;dsimp only;rw[L2.fH (aD j)]
  rw[e]at d;exact⟨_,Fo,_,Fo,_,L2.fH (by rw[aI,aD j];rfl),d⟩
 have hok:=NC S.R ns;refine cK (.str (fa (bL c ns))) (λq d=>⟨_,Fo,_,Fo,fs,an,bL c ns,Fo,S.F,hok,Fl,λz v=>by rw[xP.uniq v (S.fa _ hok)];exact d⟩) ?_;have u:eE fs (.say (fa (bL c ns))) (bL c ns)<=60:=bJ (bW _ _) Fl;refine⟨_,Fo,_,Fo,?_⟩;dsimp only[nM,pZ];refine pG (ts:=(bL c ns).map dQ) (λR h=>⟨_,Fo,_,Fo,h⟩) (DZ fs (.say (fa (bL c ns)))) id (by rw[aC];lia) (λx q m d=>?_) (λx q m d=>⟨_,Fo,d⟩) ?_
 ·obtain⟨r,n,rfl⟩:=aR.mp m;refine⟨_,Fo,_,Fo,_,Fo,?_⟩;show q (!decide (r.2=fa (bL c ns)))
  have e:DZ fs (.say (fa (bL c ns))) (dQ r)=!decide (r.2=fa (bL c ns)):=by
   show(!decide (fa (bL c ns)=r.2))=_;rw[show decide (fa (bL c ns)=r.2)=decide (r.2=fa (bL c ns)) by rw[ay];exact eq_comm]
  rw[<- e];exact d
 ·have o:(((((bL c ns).map dQ).filter (DZ fs (.say (fa (bL c ns))))).map id).length:Nat)=eE fs (.say (fa (bL c ns))) (bL c ns):=DY ..;show J7 a _/\_;rw[o];exact⟨.inl ⟨Fl,Fl⟩,h⟩
def Lu:dU P w K mg base hW 3 mv qt ["_law_form_here","_law_rows_here","_law_prices","_law_found","_law_numbers","_law_deep_here"] (cG K (XR w)):=by
 refine lZ T.D_69.F Wi λk nd u Q h=>?_;obtain⟨fs,an,fa,c,a,b,ks,ns,d,rfl,S,i,s,f,h⟩:=h;refine⟨_,(aP (gT (dO jI mO (aH 5) aK)
 (bC (cO (cd (Ls T) T.D_68 k (aA (aH 0) (aA (aH 1) (aA (aH 4) (aA (aH 2) aL)))))))
 fL)
 (bC (cO (VY (aH 3) (eK (aA (aH 4) (aA (aH 5) aL))) (pc:=λn o=>TD k.u9 n o))))),?_⟩
 show gI _ _ _ [.val (dX fs an),.val (.list (c.map dQ)),.val (.tuple [.int a,.int b]),.val (mB w (KV fs fa a b c ks)),.val (eS ns),.val (.int (d:Nat))];by_cases hd:d=0
 ·subst hd;refine fW (λz=>z=true) (λq j=>⟨_,Fo,j _ Fo⟩) (λ_=>?_) λp=>by cases p
  exact⟨_,Fo,_,Fo,_,Fo,_,Fo,fs,an,fa,c,a,b,ns,Fo,S,i,h⟩
 ·refine fW (λz=>z=false) (λq j=>⟨_,Fo,j _ (c4 Fl)⟩) (λr=>by cases r) λ_=>?_
  try unfold jD
  dsimp only;have hk:=f.resolve_left hd;refine⟨_,Fo,⟨_,Fo⟩,_,Fo,_,Fo,Fn,KV fs fa a b c ks,Fo,kX ns d,(λy g=>?_),(λz=>?_),λv t=>?_⟩
  ·obtain⟨x,_,rfl⟩:=aR.mp g;exact(kX x.1 x.2).1
  ·exact a9 (aR.mpr ⟨_,aR.mpr ⟨_,hk,Fo⟩,Fo⟩) z
  ·obtain⟨x,_,e⟩:=aR.mp t;injection e with l m
   have:=xD x (ns,d) l;subst this;rw[<- m];exact h
def Sd:dU P w K mg base hW 4 mw qu ["_law_form_here","_law_rows_here","_law_prices","_law_found","_law_key"] (cG K (Ya w)):=by
 refine lZ T.D_70.F Wj λu nd ds Q h=>?_;obtain⟨fs,an,fa,f,a,b,ks,ns,dp,x,rfl,S,hG,s,h⟩:=h;refine⟨_,(aP (BF (g:=λ_ _ _ _=>True) (aH 4) (oA (lD Fo (dR (pn 5 nd) (dR (pn 6 nd) jS)))) (λhe hg=>tQ he hg))
 (aP (gT (dO oI lF (CA (w:=w) Fo u.u9 (aH 3) (aH 4)) (cd (Ls T) T.D_68 u (aA (aH 0) (aA (aH 1) (aA (aH 5) (aA (aH 2) aL))))))
 (bC (cO nL))
 fL)
 (aP (sf (eW (cd (NQ T) T.D_62 u (aA (aH 0) aL))) (dJ (pn 7 nd))
 (bC (sf (eW (kG (aA eM (aA eM aL)))) (dJ (pn 8 nd))
 (aP (BF (g:=λ_ _ _ _=>True) (cd (Lr T) T.D_67 u (aA (aH 0) (aA (aH 1) (aA (aH 7) (aA (aH 8) (aA (aH 5) aL)))))) (oA (lD Fo (dR (pn 9 nd) (dR (pn 10 nd) jS)))) (λhe hg=>tQ he hg))
 (bC (gT (qQ (FI (dO oI lF (cB gQ (aA (aH 9) aL) bY T.b_len eZ) aK) (AL (dO oI lF (cB gQ (aA (aH 10) aL) bY T.b_len eZ) aK))))
 (aP (ss 11 nd (cd (Lu (w:=w) T) T.D_69 u (aA (aH 0) (aA (aH 1) (aA (aH 2) (aA (aH 3) (aA (aH 9) (aA (cJ mN vR (aH 6) aK) aL))))))))
 (aP (ss 12 nd (cd (Lu (w:=w) T) T.D_69 u (aA (aH 0) (aA (aH 1) (aA (aH 2) (aA (aH 3) (aA (aH 10) (aA (cJ mN vR (aH 6) aK) aL))))))))
 (bC (gT (qQ (oE (dO BV IU (aH 11) pJ) (oE (dO BV IU (aH 12) pJ) (rQ (dO oI lF (CA (w:=w) Fo u.u9 (aH 3) (aH 4)) (cJ cZ gU (cJ cZ gU (bD aX cA (aH 2) aK) (aH 11)) (aH 12)))))))
 (bC (cO nL))
 fL))))
 fL))))))
 (bC (cO nL))))),?_⟩
 obtain⟨jl,rf,hok,vq,W⟩:=hG;obtain⟨y,e⟩:=x;obtain⟨p,yf,Bn,Cw⟩:=hok _ s;have rA:=s;dsimp only at p yf Bn Cw;obtain⟨d,rfl⟩:∃d,e=d+1:=⟨e-1,Fl⟩;have wb:∀i∈y,i<f.length:=λi hi=>p.lt hi
 have jn:∀kv∈KV fs fa a b f ks,jX kv.1:=λkv wa=>by
  obtain⟨x,_,rfl⟩:=aR.mp wa;exact(kX x.1 x.2).1
 have r:(JH y (d+1),aQ (fF fs fa a b (d+1) (bL f y)).1)∈KV fs fa a b f ks:=aR.mpr ⟨_,s,Fo⟩;show gI _ _ _ [.val (dX fs an),.val (.list (f.map dQ)),.val (.tuple [.int a,.int b]),.val (mB w (KV fs fa a b f ks)),.val (kZ (y,d+1)),.un,.un,.un,.un,.un,.un,.un,.un];refine AO (a:=eS y) (b:=.int ((d+1:Nat):Int)) (λq j=>⟨_,Fo,j⟩) ?_;have Eb:=uU (fs:=fs) (fa:=fa) (a:=a) (b:=b) (d+1) (bL f y);refine fW (λz=>z=false) (λq j=>⟨_,Fo,_,Fo,KV fs fa a b f ks,Fo,kX y (d+1),jn,_,r,?_⟩) (λJ=>by cases J) λ_=>?_
 ·exact⟨_,Fo,_,Fo,_,Fo,_,Fo,fs,an,fa,f,a,b,y,Fo,S,p,j _ (c4 Fl)⟩
 try unfold jD
 dsimp only
 refine hV (ts:=(qs fs).map qD) (λR h=>⟨_,Fo,fs,an,Fo,S.F,_,Fo,by rw[<- oX];exact h⟩)
  (λk σ=>∃s7 v E m n o:Sl,σ=[.val (dX fs an),.val (.list (f.map dQ)),.val (.tuple [.int a,.int b]),.val (mB w (KV fs fa a b f ks)),.val (kZ (y,d+1)),.val (eS y),.val (.int ((d+1:Nat):Int)),s7,v,E,m,n,o]) ⟨_,_,_,_,_,_,Fo⟩ (λk x H s t=>?_) λH t=>?_
 ·obtain⟨s7,v,E,m,n,o,rfl⟩:=t;rw[aI]at s;obtain⟨q0,xh,rfl⟩:=bU.mp s;have yu:=aU xh
  refine JN (ts:=[.str "yes",.str "no"]) (λR h=>⟨Fn,_,Fo,h⟩)
   (λi σ=>∃v E m n o:Sl,σ=[.val (dX fs an),.val (.list (f.map dQ)),.val (.tuple [.int a,.int b]),.val (mB w (KV fs fa a b f ks)),.val (kZ (y,d+1)),.val (eS y),.val (.int ((d+1:Nat):Int)),.val (qD q0),v,E,m,n,o]) ⟨_,_,_,_,_,Fo⟩ (λi x H s t=>?_) λH t=>?_
  ·obtain⟨v,E,m,n,o,rfl⟩:=t;obtain⟨st,_,rfl,M⟩:=HM yu s
   generalize U:(q0,st)=c at M
   have e1:q0=c.1:=by rw[<- U]
   have e2:st=c.2:=by rw[<- U]
   subst e1 e2;refine AO (a:=eS (yN fs f c y)) (b:=eS (nN fs f c y)) (λq j=>⟨_,Fo,_,Fo,_,Fo,_,Fo,_,Fo,fs,an,f,c,y,Fo,S.F,S.R,S.l,M,p,j⟩) ?_;have xg:=BS (fs:=fs) (c:=c) wb;refine mY (λz=>z=gJ fs (bL f y) c) (λq j=>⟨_,Fo,?_⟩) (λJ=>?_) λ_=>⟨_,_,_,_,_,Fo⟩
   ·have j:=j _ Fo;rw[xg]at j;show(if decide (((((yN fs f c y).map λ(i:Nat)=>aQ (i:Int)).length:Nat):Int)>0)=true then _ else q false);rw[NW];by_cases e:(!(yN fs f c y).isEmpty)=true
    ·rw[a7 e];rw[e,HI]at j;refine⟨_,Fo,?_⟩;show q (decide (((((nN fs f c y).map λ(i:Nat)=>aQ (i:Int)).length:Nat):Int)>0));rw[NW];exact j
    ·rw[a6 e];rw[rM.mpr e,aCm]at j;exact j
   ·have hp:=J.symm;have ed:(((d+1:Nat):Int)-1)=((d:Nat):Int):=by lia
    have hE:(d=0\/(yN fs f c y,d)∈ks)/\(d=0\/(nN fs f c y,d)∈ks):=by
     cases d with
     |zero=>exact⟨.inl Fo,.inl Fo⟩
     |succ d=>exact⟨.inr (W y d rA c M hp).1,.inr (W y d rA c M hp).2⟩
    obtain⟨ry,rn⟩:=FM (fs:=fs) (c:=c) wb;refine cK (.int (fF fs fa a b d (yR fs c (bL f y))).1) (λq j=>⟨_,Fo,_,Fo,_,Fo,_,Fo,_,Fo,_,Fo,fs,an,fa,f,a,b,ks,yN fs f c y,d,by rw[ed],S,p.filt _,jl,hE.1,by rw[ry];exact j⟩) ?_;refine cK (.int (fF fs fa a b d (nR fs c (bL f y))).1) (λq j=>⟨_,Fo,_,Fo,_,Fo,_,Fo,_,Fo,_,Fo,fs,an,fa,f,a,b,ks,nN fs f c y,d,by rw[ed],S,p.filt _,jl,hE.2,by rw[rn];exact j⟩) ?_;have Bf:=ME (fs:=fs) (fa:=fa) (a:=a) (b:=b) (d:=d) M hp;unfold cC at Bf;refine mY (λz=>z=false) (λq j=>⟨_,Fo,?_⟩) (λJ=>by cases J) λ_=>⟨_,_,_,_,_,Fo⟩;show(if false=true then q true else _);rw[a6 Fk];refine⟨_,Fo,?_⟩;show(if false=true then q true else _);rw[a6 Fk];exact⟨_,Fo,_,Fo,KV fs fa a b f ks,Fo,kX y (d+1),jn,_,r,_,Fo,_,Fo,_,Fo,_,Fo,j _ (c4 Fl)⟩
  ·obtain⟨v,E,m,n,o,rfl⟩:=t;exact⟨_,_,_,_,_,_,Fo⟩
 ·obtain⟨s7,v,E,m,n,o,rfl⟩:=t;exact h
def Ti:dU P w K mg base hW 5 mx qv ["_law_form_here","_law_rows_here","_law_prices","_law_table"] (cG K Yb):=by
 refine lZ T.D_71.F Vb λr nd ds Q h=>?_;obtain⟨fs,an,fa,c,a,b,ks,ns,dp,rfl,S,hl,hG,h⟩:=h;refine⟨_,(aP (sn 4 nd)
 (aP (sf (eW (aH 3)) (rC (lD Fo (dR (pn 5 nd) (dR (pn 6 nd) (dR (pn 7 nd) jS)))))
 (aP (gT (qQ (oE (XI (i:=4) (Zi r.u9) (pv 4) (eK (aA (aH 5) (aA (aH 6) aL)))) (oE (dO (Zm r) vQ (cY MC (aA (aH 5) aL) sD T.b_list uT) (VT (aH 5) (pc:=λh=>tT (MB Fo) Fo T.b_sorted EN (jC (gH (QS Fo) Fo T.b_set Xx h) lE)))) (oE (yB (HP D2 D2 lF lF aK (aH 6) aK)) (rQ (dO zK lF (aH 7) aK))))))
 (bC (cO nL))
 fL)
 (aP (gT (qQ (oE (dO jI mO (cB gQ (aA (aH 5) aL) bY T.b_len eZ) aK) (oE (dO zK lF (bD aX cA (aH 5) aK) aK) (rQ (dO NP lF (bD aX cA (aH 5) (LY aK)) (cB gQ (aA (aH 1) aL) bY T.b_len eZ))))))
 (bC (cO nL))
 fL)
 (bC (BG (i:=4) r.u9 (pv 4) (eK (aA (aH 5) (aA (aH 6) aL))) (aH 7))))))
 (qS 4 (bC (cO (lP (lK r) vQ nL (el (fr:=[none,some 0,some 1,some 2,some 4]) (N':=["_law_key","_law_form_here","_law_rows_here","_law_prices","_law_found"]) (ZN (aH 4)) (λb=>⟨(dJ (pk 0)),iR,(cd (Sd (w:=w) T) T.D_70 r (aA (aH 1) (aA (aH 2) (aA (aH 3) (aA (aH 4) (aA (aH 0) aL))))))⟩)))))))),?_⟩
 show gI _ _ _ [.val (dX fs an),.val (.list (c.map dQ)),.val (.tuple [.int a,.int b]),.val (.list (ks.map (xI fs fa a b c))),.un,.un,.un,.un];have H:=hG;obtain⟨jl,rf,hok,vq,ja⟩:=hG
 have s:∀l:List (List Nat×Nat),∀kv∈KV fs fa a b c l,jX kv.1:=λl kv wa=>by
  obtain⟨x,_,rfl⟩:=aR.mp wa;exact(kX x.1 x.2).1
 have t:∀l:List (List Nat×Nat),(KV fs fa a b c l).map (·.1)=l.map kZ:=λl=>by unfold KV;rw[bM];rfl
 refine tO (w:=w) (show 4<8 by decide) (λj hs kvs o=>?_) ?_
 ·rcases j with _ | _ | _ | _ | _ | _ | _ | _ | j<;>simp at o
 refine hV (ts:=ks.map (xI fs fa a b c)) (λR h=>⟨_,Fo,_,Fo,h⟩)
  (λk σ=>∃u v E:Sl,σ=[.val (dX fs an),.val (.list (c.map dQ)),.val (.tuple [.int a,.int b]),.val (.list (ks.map (xI fs fa a b c))),pR w (KV fs fa a b c (ks.take k)),u,v,E]) ⟨_,_,_,Fo⟩ (λk x bi n J=>?_) λbi J=>?_
 ·obtain⟨u,v,E,rfl⟩:=J;rw[aI]at n;obtain⟨⟨y,e⟩,f,rfl⟩:=bU.mp n;have vz:k<ks.length:=(aE.mp f).1;obtain⟨g,U,W,m⟩:=hok _ (aU f);dsimp only at g U W m;have uj:=g.len;have Ec:0<=(fF fs fa a b e (bL c y)).1:=A5 S.a0 S.b0 e _;have eL:eS y=gE ((y.map sV).map aQ):=by unfold eS;rw[bM];rfl
  have Co:(y.map sV).Pairwise (·<·):=WS.mpr ((sX.sublist g).imp λh=>Int.ofNat_lt.mpr h)
  have d:kZ (y,e)∉(KV fs fa a b c (ks.take k)).map (·.1):=λz=>by
   rw[t]at z;obtain⟨x,n,ex⟩:=aR.mp z;have:x=(y,e):=xD _ _ ex;subst this;obtain⟨j,o⟩:=bP n;have xa:=(aE.mp o).1;rw[bB]at xa;rw[gR,a7 Fl]at o;have:=BW jl o f;lia
  have Cc:(KV fs fa a b c (ks.take k)).length<=400:=by unfold KV;rw[aC,bB];lia
  refine⟨_,_,_,Fo,?_⟩;refine fW (λz=>z=false) (λq p=>⟨_,Fo,_,Fo,Fn,_,Fo,kX y e,s _,λz hz=>?_⟩) (λM=>by cases M) λ_=>?_
  ·cases z with
   |true=>exact a9 (hz.mp Fo) d
   |false=>
   rw[a6 Fk];refine⟨_,Fo,_,Fo,y.map sV,eL,by rw[aC];lia,λus hu hm xj=>?_⟩;have eu:=Xv hu Co hm;subst eu;refine⟨⟨tW y,by rw[bM];exact tW y,?_⟩,?_⟩
   ·refine bJ (Nat.min_le_left _ _) ?_;show dM (y.map λ(i:Nat)=>aQ (i:Int))+1<=60;rw[(xF y).2];decide
   ·have ev:dW (.list (y.map λ(i:Nat)=>aQ (i:Int))) (.list ((y.map sV).map aQ))=true:=by rw[bM];exact bf _ (tW y)
    show(if(!dW (.list (y.map λ(i:Nat)=>aQ (i:Int))) (.list ((y.map sV).map aQ)))=true then q true else _);rw[ev,a6 Fk];refine⟨_,Fo,?_⟩;show(if decide ((1:Int)<=((e:Nat):Int))=true then _ else _);rw[a7 (a8 (show(1:Int)<=((e:Nat):Int) by lia))];show(if(!decide (((e:Nat):Int)<=3))=true then q true else _);rw[a8 (show((e:Nat):Int)<=3 by lia),a6 Fk];exact⟨_,Fo,p _ (c4 (show¬(fF fs fa a b e (bL c y)).1<0 by lia))⟩
  try unfold jD
  dsimp only;refine fW (λz=>z=false) (λq p=>⟨_,Fo,?_⟩) (λM=>by cases M) λ_=>?_
  ·show(if decide (((((y.map λ(i:Nat)=>aQ (i:Int)).length:Nat):Int))=0)=true then q true else _);rw[a6 (λz=>m (hX.mp (by have:=b8 z;rw[aC]at this;lia)))];obtain⟨i0,il,g0,g1,vp⟩:=T3 m λi hi=>g.lt hi;refine⟨_,Fo,_,g0,?_⟩;show(if decide (((i0:Nat):Int)<0)=true then q true else _);rw[a6 (λz=>by have:=b8 z;lia)];refine⟨_,Fo,_,g1,_,Fo,?_⟩;exact p _ (c4 (by rw[aC];lia))
  try unfold jD
  dsimp only;refine⟨_,Fo,_,Fo,_,Fo,_,Fo,Fn,kX y e,s _,Fl,?_⟩;refine⟨.val (eS y),.val (.int (e:Nat)),.val (.int (fF fs fa a b e (bL c y)).1),?_⟩;rw[show gE [eS (y,e).1,aQ (((y,e).2:Nat):Int)]=kZ (y,e)from Fo,NJ d,cS,f];unfold KV;show _=[_,_,_,_,pR w ((ks.take k++[(y,e)]).map _),_,_,_];rw[bA];rfl
 ·obtain⟨u,v,E,rfl⟩:=J;rw[aC,dA];refine⟨_,_,Fo,?_⟩;show sT _ _ [.val (dX fs an),.val (.list (c.map dQ)),.val (.tuple [.int a,.int b]),.val (.list (ks.map (xI fs fa a b c))),.val (mB w (KV fs fa a b c ks)),u,v,E];dsimp only[sT,KB,eC];refine jK (ts:=ks.map kZ) (λR h=>⟨_,Fo,KV fs fa a b c ks,Fo,by rw[t];exact h⟩) (λ_=>.bool true) (by rw[aC];lia) (λx q n p=>?_) ?_
  ·obtain⟨z,hz,rfl⟩:=aR.mp n;exact⟨_,Fo,_,Fo,_,Fo,_,Fo,_,Fo,fs,an,fa,c,a,b,ks,ns,dp,z,Fo,S,H,hz,p⟩
  ·rw[bM];exact JZ h
def Tj:dU P w K mg base hW 10 my qw ["_law_form_here","_law_rows_here","_law_deep_here","_law_prices"] (cG K Yc):=by
 refine lZ T.D_72.F Vc λj nd k Q h=>?_;obtain⟨fs,an,fa,g,a,b,dp,rfl,S,e,d,c,h⟩:=h;refine⟨_,(aP (ss 4 nd pJ)
 (aP (ss 5 nd nL)
 (aP (X0 (bC (ss 4 nd (cd (Sn (w:=w) T) T.D_30 j (aA (aH 0) (aA (cY MC (aA (aH 1) aL) sD T.b_list uT) (aA (aH 2) (aA (aH 3) aL))))))) (λh=>YN aDe h))
 (bC (cO (eK (aA (aH 4) (aA (aH 5) aL)))))))),?_⟩
 show gI _ _ _ [.val (dX fs an),.val (.list (g.map dQ)),.val (.int (dp:Nat)),.val (.tuple [.int a,.int b]),.un,.un,.un];refine cK .none (λq f=>f) ?_;refine cK (.bool false) (λq f=>f) ?_;exact⟨_,Fo,_,Fo,_,Fo,_,Fo,fs,an,fa,g,a,b,dp,Fo,S,e,d,c,λks i=>⟨_,Fo,_,Fo,Fn,h ks i⟩⟩
def Tk:dU P w K mg base hW 3 mz qx ["_law_form_here","_law_rows_here","_law_deep_here"] (cG K Yd):=by
 refine lZ T.D_73.F Vd λhr nd ds Q h=>?_;obtain⟨fs,an,p,dp,rfl,F,hR,hl,wz,vi,h⟩:=h;refine⟨_,(aP (ss 3 nd (kG (aA (A3 (aA (cB gQ (aA (aH 1) aL) bY T.b_len eZ) aL) (λh=>gH (nB Fo) Fo T.b_tuple kH (jC (gH pX Fo T.b_range xL h) lE))) aL)))
 (aP (ss 4 nd aK)
 (aP (sf (kN (aA (aH 2) aL) (λh=>jP Fo T.b_range h)) (dJ (pn 5 nd))
 (aP (ss 4 nd (cJ cZ gU (aH 4) (cB gQ (aA (aH 3) aL) bY T.b_len eZ)))
 (aP (sn 6 nd)
 (aP (sf (eW (jW mW wX (aH 3) mX (jT (cJ fV lN (cB gQ (aA (aH 3) aL) bY T.b_len eZ) (sA (lP zK lF (aH 5) (cJ mN vR (aH 2) aK)) (λh=>gH nW Fo T.b_int wB h)))))) (dJ (pn 7 nd))
 (bC (sf (eW (cd (NQ T) T.D_62 hr (aA (aH 0) aL))) (dJ (pn 8 nd))
 (bC (sf (eW (kG (aA eM (aA eM aL)))) (dJ (pn 9 nd))
 (aP (BF (g:=λ_ _ _ _=>True) (cd (Lr T) T.D_67 hr (aA (aH 0) (aA (aH 1) (aA (aH 8) (aA (aH 9) (aA (aH 7) aL)))))) (oA (lD Fo (dR (pn 10 nd) (dR (pn 11 nd) jS)))) (λhe hg=>tQ he hg))
 (bC (gT (qQ (FI (dO oI lF (cB gQ (aA (aH 10) aL) bY T.b_len eZ) aK) (AL (dO oI lF (cB gQ (aA (aH 11) aL) bY T.b_len eZ) aK))))
 (aP (BG (i:=6) hr.u9 (pv 6) (aH 10) nL)
 (bC (BG (i:=6) hr.u9 (pv 6) (aH 11) nL)))
 fL))))))))
 (qS 6 (bC (ss 3 nd (B8 (aH 6) (pc:=λh=>gH (oP Fo) Fo T.b_list uT h)))))))))
 (bC (cO (aH 4)))))),?_⟩
 show gI _ _ _ [.val (dX fs an),.val (.list (p.map dQ)),.val (.int (dp:Nat)),.un,.un,.un,.un,.un,.un,.un,.un,.un];have Cp:(((p.map dQ).length:Nat):Int)=(p.length:Int):=by rw[aC]
 have en:gE (eQ (((p.map dQ).length:Nat):Int).toNat)=eS (cR p.length):=by rw[dY,aC];rfl
 have rh:nD p (cR p.length):=aFy.refl _;have hN:=aAd F;have Et:(jL fs).length=2*(qs fs).length:=by rw[oZ,<- oX,aC]
 have two:∀l:List Qn,(l.flatMap HN).length=2*l.length:=λl=>by
  induction l with
  |nil=>rfl
  |cons x l ih=>rw[zT,bG,ih];show 2+_=2*(l.length+1);lia
 have jn:∀f:List (List Nat),∀kv∈nJ eS f,jX kv.1:=λf=>KR (kf:=eS) (λx=>(uR x).1) f;have tl:∀l:List (List Nat),(nJ eS l).length=l.length:=λl=>by unfold nJ;rw[aC]
 have S:∀x y:List Nat,eS x=eS y->x=y:=λx y e=>AU e;refine cK (.list [eS (cR p.length)]) (λq E=>⟨_,Fo,_,Fo,Fl,Fl,Fn,by rw[en];exact E⟩) ?_;refine cK (.int ((0:Nat):Int)) (λq E=>E) ?_
 refine hV (ts:=eQ dp) (λR h=>⟨_,Fo,_,Fo,Fl,Fl,by simpa using h⟩)
  (λk σ=>∃(z:Nat)(o:List (List Nat))(s5 s6 J s r c d:Sl),σ=[.val (dX fs an),.val (.list (p.map dQ)),.val (.int (dp:Nat)),.val (.list (o.map eS)),.val (.int (z:Nat)),s5,s6,J,s,r,c,d]/\ND [s6,J,s,r,c,d]/\(∀x∈o,nD p x)/\z<=MA (2*(jL fs).length) k/\o.length<=(2*(jL fs).length)^k)
  ⟨0,[cR p.length],_,_,_,_,_,_,_,Fo,⟨nu,nu,nu,nu,nu,nu,trivial⟩,(λx v=>by rw[dH.mp v];exact rh),aN _,aN _⟩ (λk x u v t=>?_) λu t=>?_
 ·obtain⟨z,o,s5,s6,J,s,r,c,d,rfl,⟨n6,n7,M,H,m,n,_⟩,yj,hz,gS⟩:=t;obtain⟨xc,rfl⟩:=iB v;have vx:=CL (2*(jL fs).length) (show k+1<=dp from xc);have yh:MA (2*(jL fs).length) (k+1)=MA (2*(jL fs).length) k+(2*(jL fs).length)^k:=rfl;have eR:(((o.map eS).length:Nat):Int)=(o.length:Int):=by rw[aC]
  refine cK (.int ((z+o.length:Nat):Int)) (λq E=>⟨_,Fo,_,Fo,?_⟩) ?_
  ·show q (.int (((z:Nat):Int)+(((o.map eS).length:Nat):Int)));rw[eR];exact E
  refine tO (w:=w) (show 6<12 by decide) (λj hs kvs U=>?_) ?_
  ·rcases j with _ | _ | _ | _ | _ | _ | _ | _ | _ | _ | _ | _ | j<;>simp at U
   ·exact n6 _ _ U
   ·exact n7 _ _ U
   ·exact M _ _ U
   ·exact H _ _ U
   ·exact m _ _ U
   ·exact n _ _ U
  dsimp only[oW]
  have⟨n0,hn0,ecut⟩:∃n0:Nat,n0<=o.length/\kU (o.map eS) none (some ((((o.map eS).length:Nat):Int)*(if decide (((k:Nat):Int)<((dp:Nat):Int)-1)then 1 else 0)))=(o.take n0).map eS:=by
   rw[eR]
   cases decide (((k:Nat):Int)<((dp:Nat):Int)-1)with
   |true=>exact⟨o.length,aN _,by rw[a7 Fo,wG,nV,rO]⟩
   |false=>exact⟨0,cI _,by rw[a6 Fk,mF];exact nV (o.map eS) 0⟩
  refine hV (ts:=(o.take n0).map eS) (λR h=>⟨_,Fo,_,Fo,_,Fo,_,Fo,?_⟩)
   (λi σ=>∃(f:List (List Nat))(J s r c d:Sl),σ=[.val (dX fs an),.val (.list (p.map dQ)),.val (.int (dp:Nat)),.val (.list (o.map eS)),.val (.int ((z+o.length:Nat):Int)),.val (.int ((k:Nat):Int)),pR w (nJ eS f),J,s,r,c,d]/\ND [J,s,r,c,d]/\Lv fs p i 0 f) ⟨[],_,_,_,_,_,Fo,⟨n7,M,H,m,n,trivial⟩,cI _,λx v=>by simp at v⟩ (λi x u v t=>?_) λu t=>?_
  ·exact⟨.inl ⟨Fl,Fl⟩,_,Fo,by rw[ecut];exact h⟩
  ·obtain⟨f,J,s,r,c,d,rfl,⟨n7,M,H,m,n,_⟩,V⟩:=t;rw[aI]at v;obtain⟨y,rB,rfl⟩:=bU.mp v;have vp:=(aE.mp rB).1;rw[bB]at vp;have W:=yj y (dZ (aU rB));have Bg:2*(jL fs).length*i<=80000:=fZ (show 2*(jL fs).length<=200 by lia) (show i<=400 by lia);dsimp only[oW]
   refine JN (ts:=(qs fs).map qD) (λR h=>⟨_,Fo,fs,an,Fo,F,_,Fo,by rw[<- oX];exact h⟩)
    (λj σ=>∃(f:List (List Nat))(s r c d:Sl),σ=[.val (dX fs an),.val (.list (p.map dQ)),.val (.int (dp:Nat)),.val (.list (o.map eS)),.val (.int ((z+o.length:Nat):Int)),.val (.int ((k:Nat):Int)),pR w (nJ eS f),.val (eS y),s,r,c,d]/\ND [s,r,c,d]/\Lv fs p i (4*j) f) ⟨f,_,_,_,_,Fo,⟨M,H,m,n,trivial⟩,V⟩ (λj x u v t=>?_) λu t=>?_
   ·obtain⟨f,s,r,c,d,rfl,⟨M,H,m,n,_⟩,V⟩:=t;rw[aI]at v;obtain⟨q0,xh,rfl⟩:=bU.mp v;have yu:=aU xh;have xa:=(aE.mp xh).1;dsimp only[oW]
    refine JN (ts:=[.str "yes",.str "no"]) (λR h=>⟨Fn,_,Fo,h⟩)
     (λl σ=>∃(f:List (List Nat))(r c d:Sl),σ=[.val (dX fs an),.val (.list (p.map dQ)),.val (.int (dp:Nat)),.val (.list (o.map eS)),.val (.int ((z+o.length:Nat):Int)),.val (.int ((k:Nat):Int)),pR w (nJ eS f),.val (eS y),.val (qD q0),r,c,d]/\ND [r,c,d]/\Lv fs p i (4*j+2*l) f) ⟨f,_,_,_,Fo,⟨H,m,n,trivial⟩,V⟩ (λl x u v t=>?_) λu t=>?_
    ·obtain⟨f,r,c,d,rfl,_,V⟩:=t;have Cf:l<2:=(aE.mp v).1;obtain⟨st,xi,rfl,hc⟩:=HM yu v;refine AO (a:=eS (yN fs p (q0,st) y)) (b:=eS (nN fs p (q0,st) y)) (λq E=>⟨_,Fo,_,Fo,_,Fo,_,Fo,_,Fo,fs,an,p,(q0,st),y,Fo,F,hR,hl,hc,W,E⟩) ?_;dsimp only[oW];refine mY (λ_=>True) (λq E=>⟨_,Fo,?_⟩) (λ_=>?_) λ_=>⟨f,_,_,_,Fo,⟨nv,nv,nv,trivial⟩,V.mono Fl⟩
     ·show(if decide _=true then _ else q false);split
      ·exact⟨_,Fo,E _ trivial⟩
      ·exact E _ trivial
     ·have V1:=V.put (x:=yN fs p (q0,st) y) (W.filt _);have V2:=V1.put (x:=nN fs p (q0,st) y) (W.filt _);have g0:=V.1;have g1:=V1.1;refine⟨_,Fo,_,Fo,uR _,jn _,by rw[tl];lia,?_⟩;rw[wV S];refine⟨_,Fo,_,Fo,uR _,jn _,by rw[tl];lia,?_⟩;rw[wV S];exact⟨_,_,_,_,Fo,⟨nv,nv,nv,trivial⟩,V2⟩
    ·obtain⟨f,r,c,d,rfl,⟨H,m,n,_⟩,V⟩:=t;exact⟨f,_,r,c,d,Fo,⟨nv,H,m,n,trivial⟩,V⟩
   ·obtain⟨f,s,r,c,d,rfl,⟨M,H,m,n,_⟩,V⟩:=t;rw[aC]at V;refine⟨f,_,s,r,c,d,Fo,⟨nv,M,H,m,n,trivial⟩,?_,V.2⟩;rw[aMq];have:=V.1;lia
  ·obtain⟨f,J,s,r,c,d,rfl,⟨n7,M,H,m,n,_⟩,V⟩:=t;rw[aC,bB,pN hn0]at V;refine⟨_,_,Fo,?_⟩;refine mH (.list (f.map eS)) (λq E=>⟨_,Fo,nJ eS f,Fo,by rw[wN];exact E⟩) ?_;refine⟨z+o.length,f,_,_,J,s,r,c,d,Fo,⟨nv,n7,M,H,m,n,trivial⟩,V.2,by rw[yh];lia,?_⟩;rw[uF,uG];exact bJ V.1 (fZ (aN _) (bJ hn0 gS))
 ·obtain⟨z,o,s5,s6,J,s,r,c,d,rfl,_,_,hz,_⟩:=t;rw[gZ]at hz;exact⟨_,Fo,h _ (bJ hz vi)⟩
def aD1:dU P w K mg base hW 60 fw B ["_law_script"] (cG K BH):=by
 refine lZ T.D_law.F aC7 λl nd ds Q h=>?_;obtain⟨ns,rfl,hl,h⟩:=h;refine⟨_,(aP (ss 1 nd (cd (Rz T) T.D_61 l (aA (cd (Rq T) T.D_52 l (aA (aH 0) aL)) aL)))
 (aP (ss 2 nd (rD (cF (D3 T) T.D_50 l (aA (cd (IR T) T.D_49 l (aA (aH 0) (aA aK aL))) (aA aK aL)))))
 (aP (ss 3 nd (cd (Rt T) T.D_55 l (aA (aH 0) (aA (aH 1) (aA (cJ cZ gU aK (cJ gK oY (bD aX cA (aH 2) aK) aK)) aL)))))
 (aP (ss 4 nd (cB Yy (aA (cJ gK oY (bD aX cA (aH 2) aK) aK) (aA (cJ cZ gU aK (sA (lP D2 lF (cB gQ (aA (cd (NQ T) T.D_62 l (aA (aH 1) aL)) aL) bY T.b_len eZ) aK) (λh=>gH nW Fo T.b_int wB h))) aL)) (QT Fo) T.b_min Xw))
 (aP (ss 5 nd (bD aX cA (kG (aA aK (aA (cJ gK oY (bD aX cA (aH 2) aK) aK) (aA (cJ mN vR aK (bD aX cA (aH 2) aK)) aL)))) (cJ gK oY (bD aX cA (aH 2) aK) aK)))
 (aP (X1 (i:=6) nd Fo (by first | exact v7 Fo | exact r8 Fo) (eK (aA (aH 5) (aA (bD aX cA (kG (aA aK (aA aK (aA (cJ gK oY (bD aX cA (aH 2) aK) aK) (aA (cJ mN vR aK (bD aX cA (aH 2) aK)) aL))))) (cJ gK oY (bD aX cA (aH 2) aK) aK)) aL))))
 (aP (BF (g:=λ_ _ _ _=>True) (cd (Tj T) T.D_72 l (aA (aH 1) (aA (aH 3) (aA (aH 4) (aA (aH 6) aL))))) (oA (lD Fo (dR (pn 7 nd) (dR (pn 8 nd) jS)))) (λhe hg=>tQ he hg))
 (aP (gT (dO oI lF (cd (Tk T) T.D_73 l (aA (aH 1) (aA (aH 3) (aA (aH 4) aL)))) aK)
 (bC (cO (aH 8)))
 fL)
 (aP (gT (qQ (oE (dO BV IU (aH 7) pJ) (oE (yB (tv (VW (P7 _) (aH 7) (λh=>tT JX Fo T.b_isinstance vG (jC h (jC (NN Fo T.b_tuple kH Fo) lE)))))) (oE (dO BU LB (cB gQ (aA (aH 7) aL) bY T.b_len eZ) aK) (rQ (tv (VW (U0 _) (bD aX cA (aH 7) aK) (λh=>tT JX Fo T.b_isinstance vG (jC h (jC (NN Fo T.b_bool aAh Fo) lE))))))))))
 (bC (cO nL))
 fL)
 (aP (M8 (aH 7) (rC (lD Fo (dR (pn 9 nd) (dR (pn 10 nd) (dR (pn 11 nd) jS))))) (λhe hg=>tQ he hg))
 (aP (gT (qQ (oE (dO BU LB (aH 10) (cd (Lq T) T.D_64 l (aA (aH 1) (aA (aH 9) (aA (aH 3) (aA (aH 6) aL)))))) (oE (dO oI lF (cd (Sb T) T.D_65 l (aA (aH 9) aL)) (aH 4)) (rQ (yB (tv (cd (Sc T) T.D_66 l (aA (aH 1) (aA (aH 9) aL)))))))))
 (bC (cO nL))
 fL)
 (aP (gT (qQ (oE (yB (tv (cd (Ti T) T.D_71 l (aA (aH 1) (aA (aH 3) (aA (aH 6) (aA (aH 11) aL))))))) (rQ (dO BU LB (cd (IS T) T.D_29 l (aA (aH 1) (aA (aH 9) (aA (aH 3) (aA (aH 6) aL))))) (aH 10)))))
 (bC (cO nL))
 fL)
 (aP (gT (qQ (FI (dO oI lF (aH 4) aK) (AL (dO (lK l) vQ (eK (aA (A3 (aA (cB gQ (aA (aH 3) aL) bY T.b_len eZ) aL) (λh=>gH (nB Fo) Fo T.b_tuple kH (jC (gH pX Fo T.b_range xL h) lE))) (aA (aH 4) (aA (aH 10) aL)))) (aH 11)))))
 (bC (cO nL))
 fL)
 (aP (X3 (i:=12) nd Fo (by first | exact v7 Fo | exact r8 Fo) (aA (cd (Rk T) T.D_39 l (aA (aH 1) (aA (aH 3) (aA (aH 4) (aA aK aL))))) aL))
 (aP (FJ (i:=12) (pv 12) (el (fr:=[none]) (N':=["_law_step"]) (eW (rD (cF (Rn T) T.D_45 l (aA (aH 1) (aA (VV (pv 12) aK) (aA (aH 3) aL)))))) (λb=>⟨(dJ (pk 0)),iR,(bD aX cA (aH 0) aK)⟩)) (pb:=λh=>jJ (kJ bT qK qJ F3 (pv 12) h)))
 (aP (sf (eW (jW mW wX (aH 0) (jT aK) (jT aK))) (dJ (pn 13 nd))
 (bC (mM (i:=12) (pv 12) (cd (Rx T) T.D_58 l (aA (aH 1) (aA (Z2 (cF (D3 T) T.D_50 l (aA (aH 13) (aA aK aL)))) (aA (aH 4) aL)))) (pb:=λh=>jJ (kJ bT dF dE iE (pv 12) h)))))
 (lW 12 (bC (cO (lP (lK l) vQ nL (el (fr:=[none,some 10,some 1,some 3,some 6]) (N':=["_law_other","_law_cost_here","_law_form_here","_law_rows_here","_law_prices"]) (eW (aH 12)) (λb=>⟨(dJ (pk 0)),iR,(lP NP lF (cd (Lq T) T.D_64 l (aA (aH 2) (aA (aH 0) (aA (aH 3) (aA (aH 4) aL))))) (aH 1))⟩)))))))))))))))))))))),?_⟩
 show gI _ _ _ [.val (.list (ns.map aQ)),.un,.un,.un,.un,.un,.un,.un,.un,.un,.un,.un,.un,.un];have ff:¬(false=true):=bN;refine hZ (λd=>∃fs an,iF fs an/\d=dX fs an) (λq j=>⟨_,Fo,ns,Fo,hl,λgs an FF=>⟨gs,an,Fo,FF,λfs F=>j _ ⟨fs,an,F,Fo⟩⟩⟩) ?_;rintro _ ⟨fs,an,F,rfl⟩;refine hZ (λd=>∃bs,CY 24 bs/\d=.list (bs.map aQ)) (λq j=>⟨_,Fo,ns,6,Fo,hl,Fk,Fk,λr=>⟨r,24,Fo,Fk,λbs M=>j _ ⟨bs,M,Fo⟩⟩⟩) ?_;rintro _ ⟨bs,M,rfl⟩;obtain⟨W,Ey,Fd,Aq⟩:=jA M (i:=13) Fk Fk;obtain⟨n,Ez,Fe,As⟩:=jA M (i:=14) Fk Fk;obtain⟨zm,F1,Ff,zp⟩:=jA M (i:=15) Fk Fk;obtain⟨Ah,F2,Fg,Au⟩:=jA M (i:=16) Fk Fk;obtain⟨zn,Fa,Fh,zr⟩:=jA M (i:=17) Fk Fk;obtain⟨Ai,Fb,Fi,Av⟩:=jA M (i:=18) Fk Fk;refine hZ (λd=>∃f,gF fs an f/\2<=f.length/\f.length<=10/\d=.list (f.map dQ)) (λq j=>⟨_,Fo,_,Fo,_,Fo,_,Aq,(show(0:Int)<9 by decide),ns,fs,an,(2+W%9).toNat,?_,hl,F,Fl,λf g1 g2=>j _ ⟨f,g1,Fl,Fl,Fo⟩⟩) ?_
 ·rw[show(((2+W%9).toNat:Nat):Int)=2+W%9 by lia]
 rintro _ ⟨f,y,kA,Cn,rfl⟩;dsimp only[oW];have im:f≠[]:=λe=>by rw[e]at kA;exact a9 kA Fk
 refine hZ (λd=>∃dp:Nat,dp<=3/\MA (2*(jL fs).length) dp<=400/\d=.int (dp:Nat)) (λq j=>?_) ?_
 ·refine⟨_,Fo,_,As,(show(0:Int)<4 by decide),_,Fo,fs,an,Fo,F,?_⟩;have n4:=F.n4;have ja:=iX F fs λg hg=>hg;have zy:=oZ fs;have c2:∀k,k<=2->MA (2*(jL fs).length) k<=400:=λk hk=>bJ (CL _ hk) (show 0+1+(2*(jL fs).length)^1<=400 by rw[aM7];lia);show q (.int (if 2+(if decide (((eN fs).length:Int)<=4)then(1:Int)else 0)<n%4 then 2+(if decide (((eN fs).length:Int)<=4)then(1:Int)else 0)else n%4));by_cases e:n%4=3
  ·rw[e];by_cases e4:(eN fs).length<=4
   ·rw[a8 (show((eN fs).length:Int)<=4 by lia)];refine j _ ⟨3,Fn,?_,Fo⟩;show 0+1+(2*(jL fs).length)^1+(2*(jL fs).length)^2<=400;have:(2*(jL fs).length)^2<=16^2:=Nat.pow_le_pow_left Fl 2;rw[aM7];lia
   ·rw[c4 (show¬((eN fs).length:Int)<=4 by lia)];exact j _ ⟨2,Fn,c2 2 Fn,Fo⟩
  ·have key:∀z:Int,0<=z->(if 2+z<n%4 then 2+z else n%4)=n%4:=λz H=>a6 Fl;rw[key _ (by split<;>decide)];exact j _ ⟨(n%4).toNat,Fl,c2 _ Fl,by rw[xS Fl]⟩
 rintro _ ⟨dp,wz,vi,rfl⟩;refine hZ (λd=>∃a:Int,(0<=a/\a<=1000000)/\d=.int a) (λq j=>?_) ?_
 ·obtain⟨z,H,zc,_⟩:=nC (xs:=[aQ 1,.int (zm%10),.int (1000000-zm)]) (i:=Ah%3) (dG _ Fk) (cV _ Fk);refine⟨_,Fo,_,zp,(show(0:Int)<10 by decide),_,Fo,_,zp,Fn,_,Fo,_,Au,(show(0:Int)<3 by decide),z,zc,?_⟩;simp only[aY,dS,j5]at H;rcases H with rfl | rfl | rfl
  ·exact j _ ⟨_,⟨Fk,Fk⟩,Fo⟩
  ·exact j _ ⟨_,⟨Fl,Fl⟩,Fo⟩
  ·exact j _ ⟨_,⟨Fl,Fl⟩,Fo⟩
 rintro _ ⟨a,⟨a0,a1⟩,rfl⟩;dsimp only[oW];refine hZ (λd=>∃b:Int,(0<=b/\b<=1000000)/\d=.tuple [.int a,.int b]) (λq j=>?_) ?_
 ·obtain⟨z,H,zc,_⟩:=nC (xs:=[aQ 0,.int 1,.int (zn%10),.int (1000000-zn)]) (i:=Ai%4) (dG _ Fk) (cV _ Fk);refine⟨_,Fo,_,Fo,_,zr,(show(0:Int)<10 by decide),_,Fo,_,zr,Fn,_,Fo,_,Av,(show(0:Int)<4 by decide),z,zc,Fn,?_⟩;simp only[aY,dS,j5]at H;rcases H with rfl | rfl | rfl | rfl
  ·exact j _ ⟨_,⟨Fk,Fk⟩,Fo⟩
  ·exact j _ ⟨_,⟨Fk,Fk⟩,Fo⟩
  ·exact j _ ⟨_,⟨Fl,Fl⟩,Fo⟩
  ·exact j _ ⟨_,⟨Fl,Fl⟩,Fo⟩
 rintro _ ⟨b,⟨b0,b1⟩,rfl⟩;dsimp only[oW];obtain⟨fa,p⟩:=Qh F;have S:sP fs an fa f a b:=⟨F,p,y,Fl,a0,a1,b0,b1⟩;refine(show gI (YF _ _ _) _ _ _ from⟨_,Fo,_,Fo,_,Fo,_,Fo,fs,an,fa,f,a,b,dp,Fo,S,im,wz,vi,λks hG=>⟨_,_,Fo,?_⟩⟩);dsimp only[oW];refine fW (λz=>z=false) (λq j=>⟨_,Fo,_,Fo,_,Fo,fs,an,f,dp,Fo,F,y,Fl,wz,vi,λz H=>j _ (c4 Fl)⟩) (λo=>by cases o) λ_=>?_
 try unfold jD
 dsimp only;obtain⟨o,hC⟩:=yW (a:=a) (b:=b) p dp f y;obtain⟨za,yz⟩:=o.ok;have vq:=hG.2.2.2.1
 have tl:∀x∈ks.map (xI fs fa a b f),x.canLay0=true/\x.depth<=2:=λx E=>by
  obtain⟨z,_,rfl⟩:=aR.mp E;refine⟨?_,?_⟩
  ·show(dP (z.1.map λ(i:Nat)=>aQ (i:Int))&&(true&&(true&&true)))=true;rw[tW];rfl
  ·show max (dM (z.1.map λ(i:Nat)=>aQ (i:Int))+1) (max 0 (max 0 0))+1<=2;rw[(xF z.1).2];decide
 have U:0<dp->gE [eS (cR f.length),.int (dp:Nat),.int (fF fs fa a b dp f).1]∈ks.map (xI fs fa a b f):=λh0=>aR.mpr ⟨_,vq h0,by unfold xI;dsimp only;rw[IH]⟩;have yn:=λt h1 h2=>F0 (a:=a) (b:=b) F p a0 b0 t dp f h1 h2 y;unfold Ii
 generalize fF fs fa a b dp f=bt at *
 obtain⟨c,t⟩:=bt;dsimp only at o hC za yz U yn |-
 have k8:∀u:Tr,u.dep<=dp->u.kn<=7:=λu hu=>by
  have:=u.kn_dep;have:2^u.dep<=2^3:=lR Fk Fl;lia
 have xi:=k8 t yz;refine fW (λz=>z=false) (λq j=>⟨_,Fo,?_⟩) (λo=>by cases o) λ_=>?_
 ·change Hi (Hv (CO (Jx "tuple" (zY 7)))) _ _ q
  refine⟨_,Fo,Eq.mpr (a6 (t:=q true) (c:=(!ZQ "tuple" (.tuple [jG t,.int c,.list (ks.map (xI fs fa a b f))]))=true) ff) ⟨_,Fo,Eq.mpr (a6 (t:=q true) (c:=(!decide ((3:Int)=3))=true) ff) ⟨_,Fo,_,Fo,j _ Fo⟩⟩⟩
 try unfold jD
 dsimp only;refine IG (λq j=>⟨_,Fo,j⟩) ?_;dsimp only[oW];refine fW (λz=>z=false) (λq j=>⟨_,Fo,_,Fo,_,Fo,_,Fo,_,Fo,fs,an,t,f,a,b,Fo,F,za,Fl,y,Fl,a0,a1,b0,b1,?_⟩) (λo=>by cases o) λ_=>?_
 ·show(if(!decide (c=a*((eE fs t f:Nat):Int)+b*((t.kn:Nat):Int)))=true then q true else _);rw[a8 hC,a6 Fk];refine⟨_,Fo,t,Fo,Fl,Fl,_,Fo,?_⟩;show(if decide (((dp:Nat):Int)<((t.dep:Nat):Int))=true then q true else _);rw[c4 Fl,a6 ff];exact⟨_,Fo,_,Fo,fs,an,t,dp,Fo,F,o,Fl,j _ Fo⟩
 try unfold jD
 dsimp only;refine fW (λz=>z=false) (λq j=>⟨_,Fo,_,Fo,_,Fo,_,Fo,fs,an,fa,f,a,b,ks,cR f.length,dp,Fo,S,Fl,hG,?_⟩) (λo=>by cases o) λ_=>?_
 ·show(if(!true)=true then q true else _);rw[a6 Fk];refine⟨_,Fo,_,Fo,_,Fo,_,Fo,fs,an,t,f,a,b,Fo,F,za,Fl,Fl,y,Fl,a0,Fl,b0,Fl,_,Fo,j _ ?_⟩;show(!decide (a*((eE fs t f:Nat):Int)+b*((t.kn:Nat):Int)=c))=false;rw[<- hC,a8 rfl];rfl
 try unfold jD
 dsimp only;refine fW (λz=>z=false) (λq j=>⟨_,Fo,?_⟩) (λo=>by cases o) λ_=>?_
 ·show(if decide (((dp:Nat):Int)>0)=true then _ else q false);by_cases Ee:dp=0
  ·rw[a6 (λz=>by have:=b8 z;lia)];exact j _ Fo
  ·rw[a7 (a8 Fl)];have hm:=U Fl;have ht:=tl _ hm;have en:gE (eQ (((f.map dQ).length:Nat):Int).toNat)=eS (cR f.length):=by rw[dY,aC];rfl
   refine⟨_,Fo,(((f.map dQ).length:Nat):Int),Fo,Fl,by rw[aC];lia,_,Fo,_,Fo,Fn,_,Fo,?_⟩;rw[en];refine⟨⟨B0 λx E=>(tl x E).1,ht.1,bJ (CZ _ _) Fl⟩,?_⟩;have ev:A1 (.tuple [eS (cR f.length),.int (dp:Nat),.int c]) (.list (ks.map (xI fs fa a b f)))=true:=sR.mpr ⟨_,hm,bf _ ht.1⟩;show q (!A1 _ _);rw[ev];exact j _ Fo
 try unfold jD
 dsimp only;refine(show gI (PH _ _) _ _ _ from⟨_,Fo,_,Fo,_,Fo,fs,an,f,dp,1,Fo,F,y,Fl,Fl,λm g1 g2=>⟨Fn,?_⟩⟩);have g3:=k8 m g2;obtain⟨s1,s2⟩:=DX p y (d:=dp) (lw fs fa 1 0 m f).2.kn (0,1) (lw fs fa 1 0 m f).2 (D8 p _ _ m f g1 y).1 (bJ (yK ..) g2);have s3:(lw fs fa 1 0 m f).2.kn<=7:=k8 _ (bJ (yK ..) g2);refine(show gI (SD _ _) _ _ _ from⟨_,Fo,?_⟩);refine jK (ts:=(rR fs fa m f).map Fu) (λR h=>⟨_,Fo,_,Fo,0,jG m,Fo,Fo,_,Fo,fs,an,fa,m,f,Fo,F,p,g1,Fl,Fl,y,Fl,_,Fo,h⟩) Kp (by rw[aC];exact bJ s2 Fl) (λx q E j=>?_) ⟨_,Fo,?_,?_⟩
 ·obtain⟨z,_,rfl⟩:=aR.mp E;exact⟨_,Fo,_,Fo,j⟩
 ·rw[aC,aC];exact bJ (Nat.add_le_add_left s2 _) (by show 1+_<=_;lia)
 have eu:[jG m]++((rR fs fa m f).map Fu).map Kp=(m::(rR fs fa m f).map (·.2)).map jG:=by rw[bM,bE,bM];rfl
 rw[eu];dsimp only[oW]
 have oD:(m::(rR fs fa m f).map (·.2)).length<=10:=by
  show((rR fs fa m f).map (·.2)).length+1<=10;rw[aC];exact aAr (bJ s2 Fl)
 have s:∀u∈m::(rR fs fa m f).map (·.2),lQ fs an u/\u.dep<=dp:=λu hu=>by
  rcases aY.mp hu with rfl | hu
  ·exact⟨g1,g2⟩
  ·obtain⟨z,H,rfl⟩:=aR.mp hu;exact s1 z H
 generalize (m::(rR fs fa m f).map (·.2))=J at oD s
 refine hV (ts:=(kU ns (some 20) (some 32)).map aQ) (λR h=>⟨_,Fo,_,Fo,by rw[oB];exact h⟩)
  (λk σ=>∃(J:List Tr)(zf:Sl),σ=[.val (.list (ns.map aQ)),.val (dX fs an),.val (.list (bs.map aQ)),.val (.list (f.map dQ)),.val (.int (dp:Nat)),.val (.int a),.val (.tuple [.int a,.int b]),.val (.tuple [jG t,.int c,.list (ks.map (xI fs fa a b f))]),.val (.bool false),.val (jG t),.val (.int c),.val (.list (ks.map (xI fs fa a b f))),.own (J.map jG),zf]/\J.length<=10+k/\∀u∈J,lQ fs an u/\u.dep<=dp) ⟨J,_,Fo,oD,s⟩ (λk x bi E hP=>?_) λbi hP=>?_
 ·obtain⟨J,zf,rfl,xj,s⟩:=hP;rw[aI]at E;obtain⟨i,hi,rfl⟩:=bU.mp E;have hk:=(aE.mp hi).1;have ja:=OC ns (some 20) (some 32);refine⟨_,Fo,_,Fo,_,Fo,i,30,Fo,Fk,λcs hc=>⟨cs,Fo,by rw[hc.1];decide,hc.2,_,Fo,fs,an,dp,Fo,F,Fl,λu h1 h2=>⟨by rw[aC];lia,J++[u],.val (.int i),by rw[bA];rfl,by rw[bG];show _+1<=_;lia,λv hv=>?_⟩⟩⟩;rcases eA.mp hv with hv | hv
  ·exact s v hv
  ·rw[dH.mp hv];exact⟨h1,h2⟩
 ·obtain⟨J,zf,rfl,xj,s⟩:=hP;have ja:=OC ns (some 20) (some 32);rw[aC]at xj;refine⟨_,Fo,?_⟩;dsimp only[sT,KB,eC];refine jK (ts:=J.map jG) (λR h=>⟨_,Fo,_,Fo,h⟩) (λ_=>.bool true) (by rw[aC];lia) (λx q E j=>?_) ?_
  ·obtain⟨u,hu,rfl⟩:=aR.mp E;obtain⟨h1,h2⟩:=s u hu;have h3:=k8 u h2;refine⟨_,Fo,_,Fo,_,Fo,_,Fo,fs,an,u,f,a,b,Fo,F,h1,Fl,y,Fl,a0,a1,b0,b1,_,Fo,?_⟩;show q (.bool (decide (c<=a*((eE fs u f:Nat):Int)+b*((u.kn:Nat):Int))));rw[a8 (yn u h1 h2)];exact j
  ·rw[bM];exact JZ h
def Xu:dU P w K mg base hW 60 fw B ["_law_script"] (cG K BH):=aD1 T
def aFi{l:db}{fa:Addr}(a:mg "law"=some (.ref fa)):∃b:iV,(∀s(v:Value),BindsTo s b ⟨[v],[]⟩ [("_law_script",v)])/\∀base:Heap,K.In base->base.Ns iP mg->dU l.prog w K mg base hW 60 fa b ["_law_script"] (cG K BH):=by
 have e:=a.symm.trans T.D_law.m;cases e;refine⟨B,?_,λbase _ _=>Xu T⟩;obtain⟨_,_,_,_,_,_,_,_,_,e,_⟩:=T.D_law.F.ex;rw[e]
 exactλs v=>.of_eq Fo
omit T
def UY{t n:Nat}(l:K.lookup t=some ⟨.type "tuple",none,.seq #[.str "yes" k0,.str "no" k1] n,s⟩):Hn K t ["yes","no"]:=⟨_,_,_,l,Fo,Fo,Fo,(by show 2<=bO;decide),.cons ⟨_,Fo⟩ (.cons ⟨_,Fo⟩ (.nil))⟩
def UN:bR H (mask H []):=λb o e=>by
 unfold mask;rw[a6 Fm];exact e
theorem EF{K}:∀ns:List Int,Reps K H (ns.map aQ) (ns.map V.int)
|[]=>.nil
|n::ns=>.cons (.int n) (EF ns)
def aNd{l:db}{g:(Str->Option Value)->Heap->Prop}{b:c7->Heap->Prop}{d:DefRec}{K:Params->aM}(t:l.most=some 63)(c:d.params.defaults=[])
  (m:∀(w:c7)(h:Heap),b w h->(K w.params).In h) (j:∀(w:c7)(h:Heap),b w h->∀P,tabA=some P->h.get? P=some { cls:=.none,data:=.fields #[] }/\(K w.params).lookup P=none/\cn h P)
  (F:∀(w:c7)(mg:Str->Option Value)(fa:Addr)(h:Heap),(K w.params).In h->h.Ns iP mg->mg d.name=some (.ref fa) ->
   ∃e:iV,(∀s(u:Value),BindsTo s e ⟨[u],[]⟩ [("_law_script",u)])/\∀base:Heap,(K w.params).In base->base.Ns iP mg->dU l.prog w (K w.params) mg base hW 60 fa e ["_law_script"] (cG (K w.params) BH)) :
  W8 q loose g b l.row.toRowW d [] (λf vs=>ij f vs):=
 L2.XG (n:=63) (k:=60) (x:="_law_script") (CX:=λ_=>hW) (sp:=λw=>cG (K w.params) BH) t Fk c ⟨Fo,Fk,Fk,Fo⟩ m j F
  (λw H a ns o _ i=>⟨[],[.list (ns.map aQ)],λd=>d=.bool true,λp y=>by simp at y,.cons (.list (L2.bR.seq UN i) (EF ns)) .nil,⟨ns,Fo,o,Fo⟩,λd v E _ r q=>by subst q;cases r;rfl⟩) λ_ _ _ _ _ z=>z
end
end K91
open L2
namespace PySem.W.Fast
theorem mt:True:=⟨⟩
def tw7040824545525141025:=mt
def tw14607631206919812169:=mt
def tw16810711278882392796:=mt
def tw7143675038888911362:=mt
def tw17381743626353075027:=mt
def tw2745171575790246486:=mt
def tw7658041223392699105:=mt
def tw12488267227481883863:=mt
def tw14383220924901899632:=mt
def tw3628201889929756740:=mt
def tw12147245494372670559:=mt
def tw15394677580289832941:=mt
def tw17246339839618515114:=mt
def tw7090268364266935435:=mt
def tw15771324181380381997:=mt
def tw7125765094638607222:=mt
def tw7037129956501560721:=mt
def tw11594960193758655773:=mt
def tw17334841523994083860:=mt
def tw6141278728460592214:=mt
def tw10933663240620851350:=mt
def tw3886399412398679339:=mt
def tw2403460816383755425:=mt
def tw2027940545732687308:=mt
def tw7710110802762756995:=mt
def tw3732320483345958776:=mt
def tw7525088323418937631:=mt
def tw7782405699906779642:=mt
def tw16419983839262323457:=mt
def tw17505102725613681701:=mt
def tw8929657539503668633:=mt
def tw7180920624935900045:=mt
def tw15952758323650897255:=mt
def tw7299579584758693629:=mt
def tw14711549544448429312:=mt
def tw14876147469581759129:=mt
def tw5151814179415862737:=mt
def tw11153425617518328895:=mt
def tw924524668650678259:=mt
def tw9243729976572069048:=mt
def tw14168027481274710264:=mt
def tw5328165716464770463:=mt
def tw8658892051109373048:=mt
def tw14381756306847913464:=mt
def tw6675543628798182604:=mt
def tw9252346757486288426:=mt
def tw18313828267603059197:=mt
def tw18218092862238269382:=mt
def tw8601675586895742467:=mt
def tw5217000272664764304:=mt
def tw2874712872158926811:=mt
def tw14284585891787033469:=mt
def tw16652131550026994303:=mt
def tw17680657839488097172:=mt
def tw2942917457281321457:=mt
def tw13945559202801122547:=mt
def tw7105878874133549218:=mt
def tw9126735217795685633:=mt
def tw12590875328703149415:=mt
def tw9475295827935279716:=mt
def tw16125660615647785825:=mt
def tw7573480996337523878:=mt
def tw991643678176882713:=mt
def tw2090849694775403993:=mt
def tw9663916010253889732:=mt
def tw13661169908732562496:=mt
def tw4432314387762364738:=mt
def tw13117840580174758075:=mt
def tw16746795250098811499:=mt
def tw4982137107490196724:=mt
def tw120518547694212656:=mt
def tw13850787707215201150:=mt
def tw1777089420041449607:=mt
def tw13164920108944022652:=mt
def tw12042233936692325706:=mt
def tw18335176149164609689:=mt
def tw13692554091286184899:=mt
def tw17274441798996823167:=mt
def tw1764449669532844924:=mt
def tw7762858749434369547:=mt
def tw1657913845331533314:=mt
def tw1161858720449017963:=mt
def tw6726233848916671419:=mt
def tw589007771981794907:=mt
def tw13553997652128026337:=mt
def tw2485718824179428647:=mt
def tw18426161226864529618:=mt
def tw17632391615823917962:=mt
def tw6948310232930417662:=mt
def tw9206435206957532940:=mt
def tw12602901316191726017:=mt
def tw10689836061552312017:=mt
def tw6025853906929285525:=mt
def tw9802224888893251265:=mt
def tw7090964818519292050:=mt
def tw3089847598612105272:=mt
def tw3537506975814938107:=mt
def tw16860606814559573932:=mt
def tw17057706308547100427:=mt
def tw15423024566920440359:=mt
def tw9467342417128901366:=mt
def tw10259079790362447183:=mt
def tw7094949874354201893:=mt
def tw16720656429397095656:=mt
def tw4386271895966199436:=mt
def tw12644186706271566100:=mt
def tw372430333068280018:=mt
def tw8122038559695739506:=mt
def tw11971966845222761627:=mt
def tw5654592784559706316:=mt
def tw936438750235676237:=mt
def tw16200017407500793843:=mt
def tw15614693726676482462:=mt
def tw5099362654187333507:=mt
def tw590449996319783296:=mt
def tw15080854362963715301:=mt
def tw4846131093905489964:=mt
def tw17622268161527468792:=mt
def tw9207999858471914404:=mt
def tw16651881915792617447:=mt
def tw596735433221780013:=mt
def tw16230107602519273180:=mt
def tw5565926180396767105:=mt
def tw15980187646119701741:=mt
def tw10274217817948529653:=mt
def tw1037074897227539092:=mt
def tw9972811474364533476:=mt
def tw277855908599525392:=mt
def tw6925701280653972909:=mt
def tw6078919810737097121:=mt
def tw16546788213632119906:=mt
def tw2229585485907325694:=mt
def tw17212636759488086098:=mt
def tw8126392218489111513:=mt
def tw1129120585685921777:=mt
def tw4222729894669559698:=mt
def tw7341920305664638973:=mt
def tw12122710842998168078:=mt
def tw6633175033431282145:=mt
def tw13141514570121643191:=mt
def tw16649982659708661590:=mt
def tw7604278583723841208:=mt
def tw2614671734335097165:=mt
def tw13002699287286560968:=mt
def tw5023172011534600311:=mt
def tw7264552858041084745:=mt
def tw1655687637341836992:=mt
def tw3550728480058668915:=mt
def tw11562958156779247858:=mt
def tw18420892071374709182:=mt
def tw8957429512599197999:=mt
def tw9946763522618182397:=mt
def tw2946874432663802218:=mt
def tw17974283393981845870:=mt
def tw17549796660168061166:=mt
def tw7262373057919092911:=mt
def tw7731814481540495421:=mt
def tw17833723248031535746:=mt
def tw16260677757598014874:=mt
def tw12138148579545274387:=mt
def tw8150041866919584660:=mt
def tw9529002116630062835:=mt
def tw11780776016042146676:=mt
def tw10417899045377597988:=mt
def tw6095070759293029873:=mt
def tw7429437555827711348:=mt
def tw12006868273089478430:=mt
def tw10427610884742138494:=mt
def tw14534534133093778094:=mt
def tw15258567613246193137:=mt
def tw17132951773817231415:=mt
def tw15520609574978465412:=mt
def tw7112599255156187788:=mt
def tw12077749464596552950:=mt
def tw3241492788504784324:=mt
def tw18118574841741674065:=mt
def tw7711109623858012303:=mt
def tw15153455503724820492:=mt
def tw10682832270207632756:=mt
def tw7099789085171882057:=mt
def tw6078050769644787324:=mt
def tw17647048084916078348:=mt
def tw16361422369074795076:=mt
def tw17240038324611119602:=mt
def tw6336771295959036452:=mt
def tw10100948292443748173:=mt
def tw2499020386797696703:=mt
def tw11709955884972759481:=mt
def tw930679031751385845:=mt
def tw1255705237243802093:=mt
def tw17521748119032250118:=mt
def tw268037629020267087:=mt
def tw9317865085126289014:=mt
def tw10669557414274109811:=mt
def tw17642534039380702823:=mt
def tw12074628048263836797:=mt
def tw12745274029436258213:=mt
def tw8500227518128667090:=mt
def tw9479725585152986237:=mt
def tw4703780178835319157:=mt
def tw334093551939703786:=mt
def tw709518784119352728:=mt
def tw12668916657516950528:=mt
def tw11323050404945255228:=mt
def tw8679668670218829413:=mt
def tw14102701651430398242:=mt
def tw11199766399684805096:=mt
def tw889074627122901616:=mt
def tw6067147365746133648:=mt
def tw10098966636591647146:=mt
def tw2640499247642450722:=mt
def tw13904648802967207639:=mt
def tw16699021037300990701:=mt
def tw3384181299199078363:=mt
def tw3346071027477431314:=mt
def tw3836272467243105592:=mt
def tw712431892874189888:=mt
def tw3165156210600268631:=mt
def tw10911294784136798889:=mt
def tw3641983362393182886:=mt
def tw17942197773905474075:=mt
def tw16113436616122732024:=mt
def tw15229394250952647267:=mt
def tw15696319864405394370:=mt
def tw1131701080422334381:=mt
def tw16069574105580277333:=mt
def tw14718136962493232282:=mt
def tw7102603926025329395:=mt
def tw11109218303083292351:=mt
def tw3635226409857943136:=mt
def tw3985144001985360586:=mt
def tw9786393263625866339:=mt
def tw3264912896960314269:=mt
def tw128343519388324236:=mt
def tw13320575752640801828:=mt
def tw924855302413832118:=mt
def tw3104980068550402440:=mt
def tw5937863635414985586:=mt
def tw8432517154380653754:=mt
def tw4097258140278783595:=mt
def tw2532816014005893357:=mt
def tw11071808175132511568:=mt
def tw17336081358490355159:=mt
def tw9201821345180476484:=mt
def tw12617458943488305177:=mt
def tw636749287013961189:=mt
def tw10664225246683206012:=mt
def tw1409007573559910872:=mt
def tw14236158621023912078:=mt
def tw17572514762282885911:=mt
def tw13715990885056589794:=mt
def tw13011690212443617641:=mt
def tw17187887809450247648:=mt
def tw1551325664419355663:=mt
def tw6369380410761828632:=mt
def tw829194416665686297:=mt
def tw10774008890238812414:=mt
def tw668774875233711473:=mt
def tw6856825600059819395:=mt
def tw3331640066503131232:=mt
def tw4074913324575819944:=mt
def tw5438704463452538228:=mt
def tw2442322868252133204:=mt
def tw6648578523634192545:=mt
def tw8480408528613115607:=mt
def tw8547539875080019614:=mt
def tw17614452054027247824:=mt
def tw5792324928510300182:=mt
def tw908837885270391455:=mt
def tw5273228466622026685:=mt
def tw2530566815196690102:=mt
def tw7502447016461126780:=mt
def tw12957086123047918225:=mt
def tw5268484115166997537:=mt
def tw6749555349627329934:=mt
def tw4779546770466791939:=mt
def tw1192044309422448318:=mt
def tw13162771234503551714:=mt
def tw16792004058267978685:=mt
def tw9580221005392012778:=mt
def tw5831126501093409601:=mt
def tw18061603679588422047:=mt
def tw1844839313438241050:=mt
def tw3315291599895897847:=mt
def tw7014003841827918597:=mt
def tw10487114782760794705:=mt
def tw3533251812773863252:=mt
def tw8683776397245117288:=mt
def tw3829021883279880499:=mt
def tw502726066738606188:=mt
def tw8959092778835824350:=mt
def tw17469554541574196444:=mt
def tw3000105586607459090:=mt
def tw780365024499443334:=mt
def tw14279391158906743699:=mt
def tw12310409805017228166:=mt
def tw18025941942549805449:=mt
def tw14093260902811579313:=mt
def tw15956624132759957643:=mt
def tw15185908925889880798:=mt
def tw13776672889999084033:=mt
def tw5017718835002262708:=mt
def tw1301516920735544826:=mt
def tw8248467933175772398:=mt
def tw10108941257509891775:=mt
def tw1999763010406790422:=mt
def tw6148236830638823238:=mt
def tw7284504355642799001:=mt
def tw17083523909179620620:=mt
def tw6023317649917660467:=mt
def tw242111661592784604:=mt
def tw17106281516912934470:=mt
def tw12109046234973278669:=mt
def tw13689086569852104463:=mt
def tw7859032304419256440:=mt
def tw10645238330106350693:=mt
def tw9876010039204162481:=mt
def tw9544624413744671977:=mt
def tw3700850257870041058:=mt
def tw208552722253109495:=mt
def tw969174099412726458:=mt
def tw4626308910330888696:=mt
def tw2513839097055219788:=mt
def tw5745780069272740451:=mt
def tw9495961717016681428:=mt
def tw1653769777072423694:=mt
def tw7699450692939889177:=mt
def tw5986063814237887073:=mt
def tw6778069057491834600:=mt
def tw17559672153590258143:=mt
def tw4087083341109242604:=mt
def tw3772335106419122596:=mt
def tw5999236757080766421:=mt
def tw17077487792156583049:=mt
def tw5314183305675213257:=mt
def tw9359636235312338977:=mt
def tw1241886114440254763:=mt
def tw12671365933423529118:=mt
def tw5942789750393434475:=mt
def tw16855931114079062835:=mt
def tw14749112510198975111:=mt
def tw1805597789301759183:=mt
def tw12423404333745599932:=mt
def tw13147702297354680000:=mt
def tw5942881919002080045:=mt
def tw256849741852933793:=mt
def tw13612649388405866299:=mt
def tw8059244982652439020:=mt
def tw5392189265757248025:=mt
def tw6575026883517701378:=mt
def tw14048974496798923437:=mt
def tw15930001907327972311:=mt
def tw1770016107728134023:=mt
def tw1335460659865035267:=mt
def tw13403066935258936076:=mt
def tw16810718310467958065:=mt
def tw14097010723344671076:=mt
def tw1249150609507319442:=mt
def tw16341126574284246760:=mt
def tw7475952084208615156:=mt
def tw15848723385602398037:=mt
def tw18390441969313005627:=mt
def tw3288681874068707975:=mt
def tw8315456754648125934:=mt
def tw12214779445752370995:=mt
def tw14538264370629500833:=mt
def tw11808037299347763230:=mt
def tw17712213551228267551:=mt
def tw13540590334747321108:=mt
def tw11408471262740532981:=mt
def tw11150956632128884091:=mt
def tw9769169313133627221:=mt
def tw4051776689693360383:=mt
def tw12631572749246186500:=mt
def tw3942754099273203678:=mt
def tw9846451078549273302:=mt
def tw6594951056512584274:=mt
def tw18234588750344060738:=mt
def tw9713376434681327800:=mt
def tw2485474825661179378:=mt
def tw17537284948864857504:=mt
def tw2368741632742388843:=mt
def tw10571609759180568660:=mt
def tw11113579942656808314:=mt
def tw8221769238154891111:=mt
def tw8842388353951560669:=mt
def tw643056253573780423:=mt
def tw17681735494590082433:=mt
def tw15611977113950976115:=mt
def tw1769673476954963549:=mt
def tw7130856229046053141:=mt
def tw10376066851749201964:=mt
def tw12626805471632628954:=mt
def tw15701310213784134148:=mt
def tw16591974726953265116:=mt
def tw886241904681837809:=mt
def tw13431519004721563119:=mt
def tw15316118659447858345:=mt
def tw11385287175957086917:=mt
def tw16423813524067455992:=mt
def tw11482097932982996615:=mt
def tw7913188550443777283:=mt
def tw5999200830278213907:=mt
def tw15267246859736390640:=mt
def tw5109123727039587980:=mt
def tw4734754174662301283:=mt
def tw217549364863994122:=mt
def tw549573850012722126:=mt
def tw16618480939020266207:=mt
def tw9589043471315000468:=mt
def tw17782798670182764869:=mt
def tw17960105829538288643:=mt
def tw9303938798861304187:=mt
def tw18107951919024482200:=mt
def tw2339508419387803742:=mt
def tw102433854957216861:=mt
def tw17399815372489159386:=mt
def tw11066761956551080112:=mt
def tw3049176980170466423:=mt
def tw7870941788259915740:=mt
def tw11931029915469034026:=mt
def tw15008518440720146971:=mt
def tw2431350759835233275:=mt
def tw6491887319034631306:=mt
def tw15599758688466685282:=mt
def tw10029570339292113581:=mt
def tw4466149401356016556:=mt
def tw8441433377919142414:=mt
def tw2076110702738882386:=mt
def tw213572208261979453:=mt
def tw3962398077141082485:=mt
def tw13316222758243759096:=mt
def tw4188478264568905230:=mt
def tw2788989154994651956:=mt
def tw15419263935823473110:=mt
def tw13120325312233957965:=mt
def tw8049938118637739671:=mt
def tw12655972801535274988:=mt
def tw16876920839911202342:=mt
def tw14323040609551592693:=mt
def tw6556711077895888751:=mt
def tw2722968057874563485:=mt
def tw245890002366290924:=mt
def tw3247427541372064711:=mt
def tw219521601589392696:=mt
def tw18295813960420682002:=mt
def tw11214491960674538149:=mt
def tw12140733624641244997:=mt
def tw5829578659729150785:=mt
def tw11376886235846109307:=mt
def tw9915556083024643259:=mt
def tw8712195207517596076:=mt
def tw531211829656489260:=mt
def tw3448941598218497279:=mt
def tw16686478050422821772:=mt
def tw15293505205356336533:=mt
def tw13096449683415765235:=mt
def tw11493222398344688510:=mt
def tw18280110194423151099:=mt
def tw1556569945554752028:=mt
def tw632189715665121474:=mt
def tw3415186560943586497:=mt
def tw2626267106582111575:=mt
def tw15366849861939218456:=mt
def tw17814064141246827945:=mt
def tw14947290158393547319:=mt
def tw10076781361367422917:=mt
def tw8235515786234483317:=mt
def tw2252982890801589263:=mt
def tw14706672262910456458:=mt
def tw16667532270945845098:=mt
def tw7555419520706674238:=mt
def tw17473141823756237596:=mt
def tw302733573780332389:=mt
def tw15069427630567602484:=mt
def tw2805414829654882921:=mt
def tw9052863945055832169:=mt
def tw14048338779484007710:=mt
def tw9187291884424715110:=mt
def tw2404312661276236215:=mt
def tw3656846520801008996:=mt
def tw8740380037857024259:=mt
def tw13381060526922829897:=mt
def tw5817619178483248428:=mt
def tw4774987937615760697:=mt
def tw14833940932296981277:=mt
def tw1288508285067126295:=mt
def tw3879913596906878545:=mt
def tw17851096648412682309:=mt
end PySem.W.Fast
open PySem PySem.W PyProof.Rows
set_option maxRecDepth 100000 in
set_option maxHeartbeats 0 in
theorem PySem.Challenge.cw_leafjudge_k91_whole_least_of_grown_and_d_holds : PySem.Challenge.rw_leafjudge_k91_whole_least_of_grown_and_d.Holds := by
  w_on; o_law; k_head; (case hw => w_witness2)
  k_fill
  refine K91.aNd (l := PySem.Challenge.rw_leafjudge_k91_whole_least_of_grown_and_d) rfl rfl (λw h Y => PySem.W.km_in_of Y) (λw h Y P e => ?T) ?F
  case T =>
    cases e
    exact ⟨km_tabs_of Y 292 (aS ..), by kernel_rfl, L2.aCu (codeHd_of_K (c := 294) (P := 292) (km_in_of Y) (by kernel_rfl)) (km_tabs_of Y 292 (aS ..))⟩
  case F =>
    intro w mg fa h KX G Cg
    refine' K91.aFi ⟨mg_of KX G ?_,⟨?_, ?_, ?_, ?_⟩,⟨?_, ?_, ?_, ?_⟩,na ?_,na ?_,na ?_,na ?_,na ?_,⟨?_, ?_, ?_⟩,⟨?_, ?_, ?_⟩,dg MD ?_ ?_ ?_,dg zR ?_ ?_ ?_,dg zR ?_ ?_ ?_,df KX G zR ?_ ?_ ?_ ?_,df KX G zR ?_ ?_ ?_ ?_,df KX G zR ?_ ?_ ?_ ?_,df KX G zR ?_ ?_ ?_ ?_,df KX G zR ?_ ?_ ?_ ?_,df KX G zR ?_ ?_ ?_ ?_,df KX G zR ?_ ?_ ?_ ?_,df KX G QY ?_ ?_ ?_ ?_,df KX G QY ?_ ?_ ?_ ?_,df KX G QY ?_ ?_ ?_ ?_,df KX G QY ?_ ?_ ?_ ?_,df KX G MD ?_ ?_ ?_ ?_,df KX G zR ?_ ?_ ?_ ?_,df KX G HA ?_ ?_ ?_ ?_,df KX G zR ?_ ?_ ?_ ?_,df KX G MD ?_ ?_ ?_ ?_,df KX G zR ?_ ?_ ?_ ?_,df KX G zR ?_ ?_ ?_ ?_,df KX G HA ?_ ?_ ?_ ?_,df KX G QY ?_ ?_ ?_ ?_,df KX G zR ?_ ?_ ?_ ?_,df KX G QY ?_ ?_ ?_ ?_,df KX G HA ?_ ?_ ?_ ?_,df KX G HA ?_ ?_ ?_ ?_,df KX G HA ?_ ?_ ?_ ?_,df KX G zR ?_ ?_ ?_ ?_,df KX G MD ?_ ?_ ?_ ?_,df KX G MD ?_ ?_ ?_ ?_,df KX G HA ?_ ?_ ?_ ?_,df KX G HA ?_ ?_ ?_ ?_,df KX G zR ?_ ?_ ?_ ?_,df KX G MD ?_ ?_ ?_ ?_,df KX G MD ?_ ?_ ?_ ?_,df KX G HA ?_ ?_ ?_ ?_,df KX G zR ?_ ?_ ?_ ?_,df KX G HA ?_ ?_ ?_ ?_,df KX G MD ?_ ?_ ?_ ?_,df KX G zR ?_ ?_ ?_ ?_,df KX G HA ?_ ?_ ?_ ?_,df KX G QY ?_ ?_ ?_ ?_,df KX G MD ?_ ?_ ?_ ?_,df KX G MD ?_ ?_ ?_ ?_,df KX G HA ?_ ?_ ?_ ?_,df KX G HA ?_ ?_ ?_ ?_,df KX G HA ?_ ?_ ?_ ?_,df KX G zR ?_ ?_ ?_ ?_,df KX G zR ?_ ?_ ?_ ?_,df KX G zR ?_ ?_ ?_ ?_,df KX G HA ?_ ?_ ?_ ?_,df KX G QY ?_ ?_ ?_ ?_,df KX G zR ?_ ?_ ?_ ?_,df KX G zR ?_ ?_ ?_ ?_,df KX G HA ?_ ?_ ?_ ?_,df KX G QY ?_ ?_ ?_ ?_,df KX G zR ?_ ?_ ?_ ?_,df KX G HA ?_ ?_ ?_ ?_,df KX G MD ?_ ?_ ?_ ?_,df KX G HA ?_ ?_ ?_ ?_,df KX G QY ?_ ?_ ?_ ?_,df KX G QY ?_ ?_ ?_ ?_,df KX G zR ?_ ?_ ?_ ?_,df KX G MD ?_ ?_ ?_ ?_,df KX G QY ?_ ?_ ?_ ?_,df KX G zR ?_ ?_ ?_ ?_,df KX G Jk ?_ ?_ ?_ ?_,df KX G MD ?_ ?_ ?_ ?_,df KX G Oa ?_ ?_ ?_ ?_,df KX G Jk ?_ ?_ ?_ ?_,df KX G MD ?_ ?_ ?_ ?_,df KX G MD ?_ ?_ ?_ ?_,df KX G HA ?_ ?_ ?_ ?_,df KX G QY ?_ ?_ ?_ ?_,mg_of KX G ?_,K91.UY ?_,mg_of KX G ?_,Yx ?y_36 rfl,j3 KX G ?_,j3 KX G ?_,j3 KX G ?_,j3 KX G ?_,j3 KX G ?_,j3 KX G ?_,j3 KX G ?_,j3 KX G ?_,j3 KX G ?_,j3 KX G ?_,j3 KX G ?_,j3 KX G ?_,j3 KX G ?_,j3 KX G ?_,j3 KX G ?_⟩ Cg
    (case y_36 => kernel_rfl)
    all_goals try k_is

end