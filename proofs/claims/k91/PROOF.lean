import PyProof.Rows.All
import Wide.All
import OpenK.AllK
import Wide.FinOn
import Lean
import PyProof.EqAt
import PyProof.EqKinds
import PyProof.TupleCall
import PyProof.P3In
import PyProof.NeData
import PyProof.FitsReplace
import PyProof.StrBlockL
import PyProof.TupleKey
import PyProof.DictRoadsH
import KE.KItemsList
import PyProof.DictWalks
import KE.KDictList
import PyProof.Rows.Range3
import KE.KListMore
import KE.KRevIter
import KE.KPairComp
import PyProof.TupleOfSeq
import KE.KSortKey
import PyProof.Rows.SortRuns
import KE.KLam
import KE.KNestM
import PySem.Challenge.RW_leafjudge_k91_whole_least_of_grown_and_d
set_option Elab.async false
set_option linter.all false
set_option compiler.extract_closed false
set_option bootstrap.genMatcherCode false
set_option maxRecDepth 100000
noncomputable section
theorem zzz(h:True:=by rfl):True:=h
theorem zzy(h:True:=by decide):True:=h
theorem zzx(h:True:=by intro _;rfl):True:=h
theorem zzw(h:True:=by first | exact .inl Fc | exact .inr Fc | assumption):True:=h
theorem zzv(h:True:=by first | exact .inl Fc | exact .inr Fc):True:=h
theorem zzu(h:True:=by first | exact v7 Fc | exact r0 Fc):True:=h
theorem zzt(h:True:=by intros;rfl):True:=h
theorem zzs(h:True:=by intro _ _;rfl):True:=h
theorem zzr(h:True:=by decide +kernel):True:=h
theorem zzq(h:True:=by first | exact LK _ | rfl):True:=h
theorem zzp(h:True:=by kernel_rfl):True:=h
theorem zzo(h:True:=by with_unfolding_all rfl):True:=h
theorem zzn(h:True:=by first | exact v7 Fc | exact r0 (v7 Fc) | exact r0 (r0 Fc)):True:=h
theorem zzm(h:True:=by intro g Q h;(repeat obtain⟨_,h⟩:=h)<;>subst_vars<;>rfl):True:=h
def L2.tabA : Option PySem.Addr := some 292
theorem Ex{p:Prop}(h:autoParam (p) zzr._auto_1):p:=h
theorem Ey{p:Prop}(h:autoParam (p) zzy._auto_1):p:=h
theorem Ez{p:Prop}(h:p:=by lia):p:=h
theorem Fa{p:Prop}(h:p:=by simp):p:=h
theorem Fb{a b:Nat}(h:autoParam (Nat.ble a b=true) zzz._auto_1):a<=b:=Nat.le_of_ble_eq_true h
theorem Fc{α:Sort u}{a:α}:a=a:=rfl
open Option.some renaming inj->c5
open PySem.Str renaming ofString->c6,length->ck
open PySem renaming World->c7,Around->d0,bootBuiltins->d1,wpAny_callSpecial?_slot->d7,compareOp->d9,wpAny_holding->h7,rawInt->h8,mem_of_lookup->h9,foldedSetIterable->j6,wpAny_setState_of->j7,backTo->k9,wpAny_setField->l0,wpAny_setField_rec->l3,codeAny_builtin->l7,letOwnedTupleGo->l8,Builtin->l9,binaryOp->m3,wpAny_dictEntries->m4,wpAny_pyIter_slot->m5,PyData->m6,sysModules->m7,wpAny_attempt->m8,wpAny_rule->m9,wpAny_setEntries_of->o0,firstArgMember->o7,wpAny_fieldsOf->o8,wpAny_typeNameOfWhole_itemiter->o9,wpAny_field->t4,wpAny_typeNameOfWhole_keyiter->u0,pyNext->u3,NameKind->u5,cLine->u7,wpAny_passesOwn->u8,wpAny_specialOf->v0,attributeBase->v4,wpAny_pyIter_list->v9,wpAny_truthy_bool->w5,sizeLine_eq->w6,DictEntry->x9,wpAny_askSetting->y3,wpAny_isInstance->y4,wpAny_typeNameOf_itemiter->y8,behindInMarks->z4,plainId_quiet->z5,wpAny_typeNameOf_keyiter->z6,codeAny->z8,wpAny_dictEpoch->z9,wpAny_updateSeq->aa,builtinsNs->ab,wpAny_Call_Name_kw->ae,wpAny_getItem_str_slice->af,codeAny_mono->aj,wpAny_typeOf->al,sliceBounds->au,wpAny_execs_nil->ax,cellsFrom->bd,pyIter->bg,setField->bn,assignEach->bo,call_meets->br,getItem->bu,wpAny_isOneOf_itemiter->bw,wpAny_load->bx,post_val_or_str->bz,wpAny_loadPart'->ce,wpAny_callSpecialIfBoundUnlessNone?_slot->cg,isCodeTable->cn,isSubtype_stop->cq,recursionLimit->cr,relayAll->cu,wpAny_of_eq->cw,wpAny_seqItems->cx,hashInt->cz,wpAny_handled->dk,callerA->dv,concat_meets->dw,eqIsQuiet_byValue->dy,assign->em,checkBuiltinCall->ew,newExc->ez,noFill_tuple_add->fb,pushCells->fc,updateSeq->fe,wpAny_forIn_list->fg,IsRangeIter->fh,atKey->fj,callSpecialIfBoundUnlessNone?->fm,subscripted->fq,wpAny_letGo->ft,wpAny_throw->fu,Within->fv,codeAny_of_tree->fx,wpAny_ret_mkInt->gb,intKind_is->gu,newFunctionEnv->gw,setEntries->gx,setsByText->gy,wpAny_call->gz,wpAny_newTuple->ia,wpAny_runValue->ic,evalArgs_none->ig,call->ij,sub_set_self->ik,seq_tuple_add->io,wpAny_comprehension_free->iq,wpAny_newList->ir,eqIsQuiet->iw,wpAny_Call_method0_late->iy,holding->jb,intKind->jc,wpAny_Assign_Subscript->jg,wpAny_Call_method_late->jh,wpAny_pyIter_rangeiter->ji,wpAny_pyNext_range_end->jj,builtinLookup_eq_fast->jk,wpAny_isOneOf_keyiter->jn,wpAny_notOrdered_dict->jo,codeAny_call_builtin->mz,codeAny_extend_loopS->nc,fieldsOf->qx,keywordEach->rh,newTuple->rl,raiseNew->rm,wpAny_pyIter_keyiter->rz,wpAny_pyIter_revIter->se,entryOfKey->sw,reduceHash->tj,sliceRange->tu,typeIs_str->tx,wpAny_Name->tz,wpAny_pyIter_range->ua,wpAny_pyIter_tuple->uc,wpAny_setItem_heap->ud,Keyword->uf,collect->uh,newList->uk,setNext->um,standAt->uo,wpAny_assign_Name->uq,wpAny_pyIter_enum->ur,wpAny_sequenceKey->ut,wpAny_storeSet_of->uu
open PySem.Value renaming ref->c8,none->d8,int->i3,type->j8,bool->u6,builtin->ah,str->fi,float->gi,isInt_shape->iv
open PySem.Obj renaming mapSeq->c9,data_mapFields->e8,isFreed_of_fields->u2,mapFields->am,cls_mapFields->bb,putSet->iz
open Classical renaming choose_spec->d2,choose->u1
open PySem.NameKind renaming cell->d4,free->e9
open PySem.Builtin.Range renaming rangeSize->f6,small->z7
open PyProof.Rows renaming seqObj->f7,wpS_bind->f8,callWith_type1->i8,wpS_pure->j4,slot_tuple_getitem->j9,envOfC->aq,reverseSlice'->ar,wpS_forRange->az,AllBare->bh,arrOf->bj,pendingOf->da,listUpdate_at->dj,get?_update_seq->fy,failedOf->gq,wpS_modify->ie,subscriptTail->ip,subscriptTail_builtinR->jf,Keyed->jq,wpS_mono->sg,entry_tuple_getitem->si,Subscript_->su,args_tuple_getitem->sv,setPending->tm,IsTup->ue,wpS_get->uv
open PySem.Builtin.Tuple renaming tupleHashOf->f9,tupleExact->i4,tupleItemsOf->ag
open ForInStep renaming yield->g6,done->ao
open PySem.Paired renaming length->g7
open PySem.Builtin.List renaming listExtendWith->g8,listTooLong->u4,listSameRef->cy,listItems->di
open PySem.Builtin.Dict_items renaming ownsTuple->i5,ownedTupleFields->av,ownedTupleIsFree->aw,pairFromOwner->ba
open True renaming intro->i6
open PySem.Around renaming under_plainId->i7,under->ci,frames_deeper->gc
open PySem.W renaming mg_none_of->i9,OpenLaw->db
open False renaming elim->j0
open PySem.Shared renaming TypeIs->l4
open Ne renaming symm->l5
open PySem.SetTable renaming below->l6,grown->y7
open PySem.Builtin.Frozenset renaming sizeOf->o6
open PySem.Builtin.Slice renaming slicePlaces->q9,sliceAdjust->ai,sliceApplied->cf
open Or renaming inr->r0,inl->v7
open PyProof.Rows.F renaming plain_set_update_loop->r8,entry_set_update_loop->bc
open PySem.Builtin.Str renaming occurrences->v6,strSliceIndices->cj
open PySem.PassesOwn renaming never->v8
open PySem.Builtin.Dict renaming showsAll->x8
open PySem.Calls renaming callWith_builtin->y9,Name_function_global->dr,call_function_entry->ei,evalArgs_plain->gg
open PySem.SeqAt renaming eqv_refl->bf,readOf->jd,readsAll_map->je,items_eqAt->tf
open Sum renaming inl->de,inr->dh
open PySem.Data renaming fields->dm
open PySem.SetTable.below renaming go->dt
open PySem.SetTable.probe renaming go->du
open PySem.pickOrder renaming go->ee
open PyProof renaming noPylong_small->ek
open LawfulBEq renaming eq_of_beq->ey
open PySem.Code renaming isFrame->ge
open Function renaming comp_def->gh
open PySem.F renaming typeOf_object_class->iu
open Eq renaming symm->jp
open ForIn renaming forIn->qy
def a6:=@if_neg
def a7:=@if_pos
def a8:=@decide_eq_true
def a9:=@absurd
def b8:=@of_decide_eq_true
def c4:=@decide_eq_false
def e7:=@congrArg
def g9:=@if_false
def j3:=@or_false
def j5:=@of_decide_eq_false
def n9:=@decide_eq_true_eq
def ak:=@if_true
def ay:=@decide_eq_decide
def fk:=@beq_iff_eq
def gf:=@getElem?_pos
def ii:=@beq_self_eq_true
def tA:=@not_or
open PySem renaming wpAny_bind->aB,wpAny_pure->aG,sizeLine->bO,starEach->cD,Program->cN,wpAny_newObj_type->dG,wpAny_call_entry->dI,wpAny_mono->gO,mainGlobals->iR,FuncData->iW,swapsWith->jH
open List renaming length_map->aC,getElem?_eq_getElem->aD,getElem?_eq_some_iff->aE,getElem?_map->aI,mem_cons_of_mem->aO,mem_map->aR,mem_of_getElem?->aS,mem_cons_self->aU,mem_cons->aY,length_take->aZ,map_append->bB,map_cons->bE,length_append->bH,getElem?_set_ne->bI,size_toArray->bJ,getElem?_set_self->bK,map_map->bM,getElem?_of_mem->bP,length_filter_le->bW,filter_cons->cH,range->cK,mem_filter->cM,take_add_one->cU,getD_eq_getElem?_getD->cX,take_length->dA,length_cons->dB,mem_singleton->dF,not_mem_nil->dR,mem_of_mem_take->dY,mem_append->dZ,getElem?_append_left->eB,mem_append_right->eF,getElem?_append_right->eJ,getElem?_eq_none->eQ,filter_append->fD,getElem_mem->fK,length_range->fL,append_nil->fS,length_drop->gA,idxOf_lt_length_iff->gB,length->gC,filterMap_cons->gD,getElem?_take->gR,lookup_cons->gW,ext_getElem?->gY,length_eq_zero_iff->hZ,map_congr_left->iJ,getElem?_range->iK,Perm->iS,sum_cons->iU,mem_append_left->iX,filter_congr->jB,getElem_idxOf->jN,getElem?_drop->jO,append_assoc->jZ,getElem?_replicate->kK,all_eq_true->kL,take_of_length_le->kR,length_singleton->kZ,mem_reverse->lV,map_nil->lW,nodup_cons->mU,map_id->nH,lookup->nI,mem_range->nQ,set->oW,length_reverse->pP,getElem?_zip_eq_some->qP,take_sublist->rL,nodup_append->rM,map_take->rP,any_eq_true->sT,pairwise_lt_range->tD,range_succ->uO,filter_map->uP,getElem?_reverse->vE,mem_filterMap->yC,flatMap_cons->zY,find?_isSome->zZ,isEmpty_iff_length_eq_zero->AQ,mem_flatMap->BF,getElem_inj->BG,cons_append->BH,sum_append->DB,of_mem_zip->DD,length_nil->DE,dropLast_concat_getLast->DF,replicate->FC,nodup_nil->FD,map->FE,length_eraseIdx_of_lt->FG,drop_zero->FH,getElem?_eq_none_iff->G9,drop_eq_getElem_cons->HA,getElem?_take_of_lt->HK,Pairwise->HL,getElem?_cons_succ->KH,set_set->KO,flatten_singleton->KP,filter_eq_nil_iff->KQ,drop_eq_nil_of_le->KR,take_append_drop->M1,getElem?_toArray->M2,filterMap_append->M3,countP_le_length->M4,range'->OX,mem_of_mem_drop->OY,mem_iff_getElem->OZ,length_dropLast->O0,flatten_append->RG,filter_eq_self->RH,length_attach->RQ,findIdx?_cons->RS,filterMap_map->RT,pairwise_map->W4,getElem?_inj->W5,foldl_append->W6,flatten_cons->W7,any_eq_false->W8,range'_succ->XN,mem_flatten->XO,getLast_mem->XQ,countP_cons->XS,nil_append->aA8,forIn_cons->aA9,countP_map->aBa,Sublist->aGb
open Nat renaming le_of_ble_eq_true->aF,le_refl->aN,le_trans->bG,ne_of_lt->bS,zero_le->cI,lt_of_lt_of_le->cS,lt_succ_self->fA,lt_succ_of_lt->fB,ne_of_gt->fN,mul_le_mul->fZ,le_of_lt->iI,lt_irrefl->iV,pow_le_pow_right->lR,mod_lt->lT,gcd_pos_of_pos_right->mT,le_of_eq->nW,mul_assoc->oV,not_lt_zero->pM,min_eq_left->pN,div_le_self->pO,lt_of_le_of_lt->qN,min_le_right->sX,pow_succ->uK,mul_comm->uL,lt_or_ge->uM,lt_asymm->uN,mul_le_mul_right->wK,gcd_dvd_right->AN,add_zero->AO,min_eq_right->C5,le_succ->DA,add_assoc->KG,sub_zero->MY,lt_trans->MZ,div_pos->RF,add_lt_add_left->RP,not_lt->W2,div_mul_cancel->W3,lt_trichotomy->XL,le_succ_of_le->XM,succ_ne_zero->aA3,succ_le_succ->aA4,le_of_not_lt->aA5,le_add_right->aA6,gcd_le_right->aA7,le_antisymm->aCy,le_of_dvd->aGa,zero_add->aM2,succ_pos->aM3,sub_self->aM4,mul_succ->aM5,gcd_comm->aM6,pow_one->aNm,one_mul->aNn,add_mul->aNo
open PySem.Heap renaming get?_push_of_some->aJ,get?_push_size->aW,lt_size->bF,SameBut->cV,size_push->eV,get?_update_self->fE,get?_update_other->iH,size_update->BI,ExtBut->C7
open PySem.W renaming Frag->aM,kia_one->fH,findIn->fY,keepIn->iD,emptyDict->iE,instObj->jQ,kitOne->lG,InstAt->lH,fnOf->nG,looks_findIn->oI,codeIn->pL,kitx_list->qC,plainGet->rJ,envX->sL,lookIn->uJ,plainGet_of->vG,callWith_K->wI,methodObj->xW,hasDictIn->xX,codeHdIn->zF,takerIn->AK,kla_obj->AL,mroIn->DQ,isFn->G5,cellsFrom_some->G6,kitx_tuple->MX,plainOver->OU,kitx_dict->OV,handedIn->RE,makesIn->RN,notCls->WY,CodeHd->WZ,clsIn->XI,WalkO->XJ
open PySem.PyData renaming int->aP,str->aV,depthAll->dJ,canLayAll0->dO,eqv->dU,hasDict->fJ,tuple->gE,hasDictAll->iZ,bool->oJ,none->vD,eqvAll->wJ,bulkAll->C9,leavesShortAll->KF,list->KM,dict->KN,showableAll->OW,strOk->aCx
open Bool renaming false_ne_true->bN,and_eq_true->dM,false_eq_true->eH,eq_iff_iff->mV,false_xor->qE,eq_false_iff->rN,or_eq_true->uR,or_false->xY,not_true->xZ,true_and->HM,or_eq_false_iff->O1,false_and->aCz,true_xor->aF7
open Array renaming length_toList->bQ,getElem?_eq_getElem->bV,getElem?_toList->eD,getElem?_eq_none->eY,getD_eq_getD_getElem?->lA,forIn_toList->pV,toList_push->zH,getElem?_eq_some_iff->DR,toList_append->O2,append_assoc->RI,size_append->RU,toList->aF8
open PySem.F renaming plainAttrs_list->bT,type_list_append->dD,slot_list_append->dE,slot_dict_itemiterator_next->fT,slot_dict_keyiterator_next->hU,called_set->iQ,slot_NoneType_hash->lI,type_tuple_index->mD,slot_tuple_index->mE,plainAttrs_tuple->mF,slot_tuple_hash->mR,plain_list_iadd->mS,slot_set_iter->nO,plain_extend_loop->pT,type_list_extend->qK,slot_list_extend->qL,args_tuple_add_2->qM,entry_tuple_add->rK,slot_tuple_add->sM,args_dict_itemiterator_next_1->vC,entry_dict_itemiterator_next->vH,args_dict_keyiterator_next_1->vI,slot_dict_itemiterator_iter->vP,entry_dict_keyiterator_next->vQ,slot_dict_items_iter->AM,plain_proto_collect->BD,entry_proto_collect->BE,type_list_index->E5,slot_list_index->E6,slot_dict_items->E7,plainAttrs_dict->E8,entry_list_iadd->E9,args_set_iter_1->FB,slot_dict_iter->G7,type_list_pop->HF,slot_list_pop->HG,slot_dict_len->HH,slot_dict_get->HI,plain_set_new->HJ
open Option renaming map_eq_some_iff->bU,isSome_map->yB,getD_some->zX,bind_eq_some_iff->G8,getD_none->RO,map_some->W1
open Int renaming emod_lt_of_pos->dL,toNat_natCast->dX,emod_nonneg->eA,natCast_mul->eI,mul_assoc->fF,natCast_add->fU,mul_le_mul_of_nonneg_left->jA,mul_comm->kC,mul_add->kD,mul_zero->mG,le_refl->pA,toNat_of_nonneg->pQ,add_zero->pU,mul_nonneg->qO,ofNat->sY,le_trans->uQ,mul_one->wL,natCast_nonneg->zG,natCast_ediv->C6,mul_lt_mul_of_pos_right->FI,lt_of_mul_lt_mul_right->HB,fdiv_eq_ediv_of_nonneg->HC,ne_of_lt->aM7,ediv_one->aM8,sub_mul->aNp,one_mul->aNq,add_mul->aNr
section
open PySem PySem.Spec PyProof.Rows
namespace L2
abbrev BC:=Sum Int Str
noncomputable def Kx:BC->Value->Bool
|.inl k,v=>Value.isInt k v
|.inr x,v=>Value.isStrOf x v
noncomputable def Pb(w:c7):BC->Int
|.inl k=>cz k
|.inr x=>hashStr w x
def jV:∀{k v},Kx k v=true->(∃i t,k=de i/\v=i3 i t)\/(∃x t,k=dh x/\v=fi x t)
|.inl i,v,h=>by
 obtain⟨t,e⟩:=iv (k:=i) (v:=v) h;exact .inl ⟨i,t,Fc,e⟩
|.inr x,v,h=>by
 obtain⟨t,e⟩:=Value.isStrOf_shape (x:=x) (v:=v) h;exact .inr ⟨x,t,Fc,e⟩
def Yn(a b:Int):decide ((de a:BC)=de b)=(a==b):=by
 by_cases e:a=b
 ·subst e;simp
 ·have h:¬(de a:BC)=de b:=λq=>e (Sum.inl.inj q);rw[c4 h];exact(beq_eq_false_iff_ne.mpr e).symm
def Yq(a b:Str):decide ((dh a:BC)=dh b)=decide (a=b):=by
 by_cases e:a=b
 ·subst e;simp
 ·have h:¬(dh a:BC)=dh b:=λq=>e (Sum.inr.inj q);rw[c4 h,c4 e]
def Yo(a:Int)(b:Str):decide ((de a:BC)=dh b)=false:=c4 (λq=>nomatch q)
def Yp(a:Str)(b:Int):decide ((dh a:BC)=de b)=false:=c4 (λq=>nomatch q)
noncomputable def F8(prog:cN)(w:c7):PySem.KeyKind prog w BC where
 is:=Kx
 hash:=Pb w
 inj:=λv a b ha hb=>by
  rcases jV ha with⟨i,t,rfl,rfl⟩ | ⟨x,t,rfl,rfl⟩
  ·rcases jV hb with⟨j,u,rfl,e⟩ | ⟨y,u,rfl,e⟩
   ·injection e with e1 _;rw[e1]
   ·exact nomatch e
  ·rcases jV hb with⟨j,u,rfl,e⟩ | ⟨y,u,rfl,e⟩
   ·exact nomatch e
   ·injection e with e1 _;rw[e1]
 byValue:=λk v h=>by
  rcases jV h with⟨i,t,rfl,rfl⟩ | ⟨x,t,rfl,rfl⟩<;>rfl
 pyHash:=λhv h=>by
  rcases jV hv with⟨i,t,rfl,rfl⟩ | ⟨x,t,rfl,rfl⟩
  ·exact wpAny_pyHash_int h
  ·exact wpAny_pyHash_str h
 eqBool:=λhu hv h=>by
  rcases jV hu with⟨i,t,rfl,rfl⟩ | ⟨x,t,rfl,rfl⟩
  ·rcases jV hv with⟨j,u,rfl,rfl⟩ | ⟨y,u,rfl,rfl⟩
   ·rw[Yn]at h;exact wpAny_eqBool_int h
   ·rw[Yo]at h;exact SeqAt.EqAt.int_str i t y u _ _ _ _ h
  ·rcases jV hv with⟨j,u,rfl,rfl⟩ | ⟨y,u,rfl,rfl⟩
   ·rw[Yp]at h;exact SeqAt.EqAt.str_int x t j u _ _ _ _ h
   ·rw[Yq]at h;exact wpAny_eqBool_str h
 «strs»:=λk x t v h=>by
  rcases jV h with⟨i,u,rfl,e⟩ | ⟨y,u,rfl,e⟩
  ·exact nomatch e
  ·injection e with e1 _
   subst e1;cases v<;>rfl
inductive V where
 |non | bl (b:Bool) | int (i:Int) | str (x:Str) | byt (b:Array UInt8) | flt (b:UInt64) | ref (a:Addr) | ty (n:String)
 deriving DecidableEq
def iL:V->Value->Prop
|.non,u=>u=d8
|.bl b,u=>u=u6 b
|.int i,u=>∃t,u=i3 i t
|.str x,u=>∃t,u=fi x t
|.byt b,u=>∃t,u=Value.bytes b t
|.flt b,u=>∃t,u=gi b t
|.ref a,u=>u=c8 a
|.ty n,u=>u=j8 n
abbrev gM:List V->List Value->Prop:=Paired iL
theorem gM.length{b:List V}{a:List Value}(r:gM b a):b.length=a.length:=g7 r
theorem gM.get:∀{xs us}{i:Nat}{x},gM xs us->xs[i]?=some x->∃u,us[i]?=some u/\iL x u
|_,_,_,_,.nil,e=>by simp at e
|_,_,0,_,.cons r _,e=>by simp at e;subst e;exact⟨_,Fc,r⟩
|_,_,i+1,x,.cons _ t,e=>by
 obtain⟨u,a,b⟩:=gM.get (i:=i) (x:=x) t (by simpa using e);exact⟨u,by simpa using a,b⟩
theorem gM.append:∀{xs ys us ws},gM xs us->gM ys ws->gM (xs++ys) (us++ws)
|_,_,_,_,.nil,s=>s
|_,_,_,_,.cons r t,s=>.cons r (gM.append t s)
theorem gM.take:∀{a:List V}{us:List Value}(n:Nat),gM a us->gM (a.take n) (us.take n)
|_,_,0,_=>.nil
|_,_,_+1,.nil=>.nil
|_,_,n+1,.cons r t=>.cons r (gM.take n t)
theorem gM.drop:∀{b:List V}{a:List Value}(n:Nat),gM b a->gM (b.drop n) (a.drop n)
|_,_,0,r=>r
|_,_,_+1,.nil=>.nil
|_,_,n+1,.cons _ t=>gM.drop n t
def DN:Option V->Option Value->Prop
|some v,some u=>iL v u
|none,none=>True
|_,_=>False
noncomputable def KV{a:Type}:List (a×V)->List (a×Value)->Prop:=Paired λ(p:a×V) (q:a×Value)=>p.1=q.1/\iL p.2 q.2
noncomputable def kV:BC->V
|.inl i=>.int i
|.inr x=>.str x
inductive HO where
 /-- a list -/
 |lst (xs:List V)
 /-- a tuple (never changes) -/
 |tup (xs:List V)
 /-- a dict whose keys are ints and texts;one whose keys are tuples of ints and texts (the empty one is both) -/
 |dK (kvs:List (BC×V)) | dT (kvs:List (List BC×V))
 /-- a set of ints: fo members,fo size -/
 |set (S:Int->Bool) (n:Nat)
 /-- an instance of the class at C,fo dict at dx,fo attributes -/
 |ins (C dx:Addr) (fs:List (Str×V))
 /-- the dict of the instance at x -/
 |own (x:Addr)
 /-- the dict of an exception -/
 |xd (fs:List (Str×V))
 /-- a bound method,f of x -/
 |met (f x:Addr)
 /-- a range object lo,lo+1,.. below hi -/
 |rng (lo hi:Int)
 /-- a thing that is known to the object (the script;a dict while a loop walks it): read,never written while it is so -/
 |frz (o:Obj) (u:HO)
 /-- a code object's table -/
 |tbl (ps:Array Value)
 /-- any other thing,by what is true of fo one object (a def of Aa own: SetO a S n:=HO.ext λh=>..) -/
 |ext (φ:Heap->Prop)
abbrev Hp:=Addr->Option HO
noncomputable def gG(H:Hp)(a:Addr)(o:HO):Hp:=λb=>if b=a then some o else H b
def cW{a:Addr}:gG H a o a=some o:=by unfold gG;rw[a7 rfl]
def cO{a b:Addr}(h:b≠a):gG H a o b=H b:=by unfold gG;rw[a6 h]
def iB{H:Hp}{a b:Addr}{o:HO}(h:H a=some o)(c:H b=none):a≠b:=by
 intro e;subst e;rw[h]at c;cases c
section
variable(P:cN)(w:c7)
def C1(h:Heap)(a:Addr)(b:Array Value):Prop:=∃o,h.get? a=some o/\o.cls=.type "tuple"/\∃n,o.data=.seq b n/\o.dict=none
def C1.tup{h}{a:Addr}{items}(x:C1 h a items):ue h a items:=let ⟨o,e,c,n,d,_⟩:=x;⟨o,e,c,n,d⟩
theorem C1.lt{h:Heap}{a:Addr}(x:C1 h a items):a<h.objs.size:=x.tup.lt
def C1.new(h:Heap)(a:Array Value):C1 (h.push { cls:=.type "tuple",data:=.seq a }) h.objs.size a:=⟨_,aW _ Fc,Fc,_,Fc,Fc⟩
def WX(a:Obj):Prop:=∃(vs:Array Value)(q:Str)(t:Tok),a.data=.fields vs/\vs[1]?=some (.str q t)
def jY(H:Hp)(h:Heap)(a:Addr):HO->Prop
|.lst d=>d.length<=bO/\∃(b:List Value)(n:Nat),gM d b/\h.get? a=some { cls:=.type "list",data:=.seq b.toArray n }
|.tup d=>d.length<=bO/\∃b:List Value,gM d b/\C1 h a b.toArray
|.dK kvs=>kvs.length<=bO/\(a==m7)=false/\∃vs,KV kvs vs/\h.DictOf (F8 P w) a vs
|.dT kvs=>kvs.length<=bO/\(a==m7)=false/\∃d:List (List BC×Addr×Value),
  Paired (λ(p:List BC×V) (q:List BC×Addr×Value)=>p.1=q.1/\H q.2.1=some (.tup (p.1.map kV))/\iL p.2 q.2.2) kvs d /\
  ∃o i m,h.get? a=some o/\o.ExactDict/\o.data=.dict i m/\i.toList=d.map (sw (tupleKind (F8 P w)))/\(d.map (·.1)).Nodup
|.set S n=>h.SetOf (jc P w) a S n
|.ins C dx fs=>H dx=some (.own a)/\fs.length<=1000/\dx≠a/\h.get? a=some (jQ C dx) /\
  ∃e,h.Ns1 dx e/\(∀f,DN (fs.lookup f) (e f))/\fv e (fs.map (·.1))
|.own _=>∃o,h.get? a=some o
|.xd fs=>∃e,h.Ns1 a e/\∀f,DN (fs.lookup f) (e f)
|.rng lo hi=>∃t u v,h.get? a=some { cls:=.type "range",data:=.fields #[.int lo t,.int hi u,.int 1 v] }
|.frz o u=>h.get? a=some o/\jY H h a u
|.tbl _=>∃qs:Array Value,h.get? a=some { cls:=.none,data:=.fields qs }/\TriplesOk qs.toList/\∀(p:Pos)(c:Value),codeAmong p qs.toList=some c->∃g l,c=.ref g/\H g=some (.frz l (.own a))/\WX l
|.met f x=>h.get? a=some (xW (.ref f) (.ref x))
|.ext φ=>φ h/\(∃o,h.get? a=some o)/\∀j k:Heap,φ j->(∀o,j.get? a=some o->k.get? a=some o)->φ k
def vN(H:Hp)(h:Heap):Prop:=∀a o,H a=some o->jY P w H h a o
end
section
variable{P:cN}{w:c7}{H g:Hp}{h h':Heap}{a:Addr}{o:HO}
theorem jY.lt(x:jY P w H h a o):a<h.objs.size:=by
 cases o with
 |lst c=>obtain⟨_,_,_,_,e⟩:=x;exact bF e
 |tup c=>obtain⟨_,_,_,p⟩:=x;exact p.lt
 |dK b=>obtain⟨_,_,_,_,o,_,_,e,_⟩:=x;exact bF e
 |dT b=>obtain⟨_,_,_,_,o,_,_,e,_⟩:=x;exact bF e
 |set S n=>obtain⟨o,_,_,_,e,_⟩:=x;exact bF e
 |ins C d fs=>obtain⟨_,_,_,e,_⟩:=x;exact bF e
 |own y=>obtain⟨_,e⟩:=x;exact bF e
 |xd fs=>obtain⟨_,⟨_,_,_,e,_⟩,_⟩:=x;exact bF e
 |rng lo i=>obtain⟨_,_,_,e⟩:=x;exact bF e
 |frz ob u=>obtain⟨e,_⟩:=x;exact bF e
 |tbl j=>obtain⟨_,e,_⟩:=x;exact bF e
 |met f y=>exact bF (show h.get? a=some _ from x)
 |ext k=>obtain⟨_,⟨_,e⟩,_⟩:=x;exact bF e
theorem Paired.mapP{c d:Type}{F G:c->d->Prop}:∀{l₁ l₂},Paired F l₁ l₂->(∀a b,F a b->G a b)->Paired G l₁ l₂
|_,_,.nil,_=>.nil
|_,_,.cons r t,f=>.cons (f _ _ r) (Paired.mapP t f)
def jY.stay(x:jY P w H h a o)(k:∀b u,(b=a\/H b=some (.own a))->h.get? b=some u->h'.get? b=some u)
  (G:∀b,H b=some (.own a)->g b=some (.own a)) (I:∀b m,H b=some (.tup m)->g b=some (.tup m)) (F:∀b ob u,H b=some (.frz ob u)->g b=some (.frz ob u):=by exactλ_ _ _ q=>q):jY P w g h' a o:=by
 induction o with
 |lst m=>obtain⟨z,l,n,r,e⟩:=x;exact⟨z,l,n,r,k _ _ (.inl Fc) e⟩
 |tup m=>obtain⟨z,l,r,ob,e,c⟩:=x;exact⟨z,l,r,ob,k _ _ (.inl Fc) e,c⟩
 |dK s=>obtain⟨z,y,vs,r,ob,j,i,e,c⟩:=x;exact⟨z,y,vs,r,ob,j,i,k _ _ (.inl Fc) e,c⟩
 |dT s=>
  obtain⟨z,y,m,r,ob,j,i,e,c⟩:=x;exact⟨z,y,m,Paired.mapP r λp q z=>⟨z.1,I _ _ z.2.1,z.2.2⟩,ob,j,i,k _ _ (.inl Fc) e,c⟩
 |set S n=>obtain⟨ob,j,i,t,e,c⟩:=x;exact⟨ob,j,i,t,k _ _ (.inl Fc) e,c⟩
 |ins C K fs=>
  obtain⟨d,z,ne,e,A,⟨B,j,i,E,c⟩,r⟩:=x;exact⟨G _ d,z,ne,k _ _ (.inl Fc) e,A,⟨B,j,i,k _ _ (.inr d) E,c⟩,r⟩
 |own y=>obtain⟨ob,e⟩:=x;exact⟨ob,k _ _ (.inl Fc) e⟩
 |xd fs=>obtain⟨A,⟨B,j,i,e,c⟩,r⟩:=x;exact⟨A,⟨B,j,i,k _ _ (.inl Fc) e,c⟩,r⟩
 |rng lo L=>obtain⟨t,u,v,e⟩:=x;exact⟨t,u,v,k _ _ (.inl Fc) e⟩
 |frz ob u J=>obtain⟨e,q⟩:=x;exact⟨k _ _ (.inl Fc) e,J q⟩
 |tbl M=>
  obtain⟨qs,e,t,z⟩:=x;exact⟨qs,k a _ (.inl Fc) e,t,λp c q=>let ⟨c',oc,h1,h2,h3⟩:=z p c q;⟨c',oc,h1,F _ _ _ h2,h3⟩⟩
 |met f y=>
  have e:h.get? a=some (xW (.ref f) (.ref y)):=x;show h'.get? a=some (xW (.ref f) (.ref y));exact k a _ (.inl Fc) e
 |ext N=>obtain⟨p,⟨o,e⟩,st⟩:=x;exact⟨st _ _ p λo q=>k _ _ (.inl Fc) q,⟨o,k _ _ (.inl Fc) e⟩,st⟩
theorem vN.lt(x:vN P w H h)(e:H a=some o):a<h.objs.size:=(x a o e).lt
def vN.fresh(x:vN P w H h)(e:h.objs.size<=a):H a=none:=by
 cases q:H a with
 |none=>rfl
 |some u=>exact a9 (cS (x.lt q) e) (iV _)
def vN.kept(x:vN P w H h)(k:∀b u,h.get? b=some u->h'.get? b=some u):vN P w H h':=λa o e=>
 (x a o e).stay (λb u _ q=>k b u q) (λ_ q=>q) λ_ _ q=>q
def vN.laid(x:vN P w H h)(k:∀b u,h.get? b=some u->h'.get? b=some u)(i:h.objs.size<=a)(new:jY P w (gG H a o) h' a o):vN P w (gG H a o) h':=λb u e=>by
 have d:=x.fresh i;by_cases f:b=a
 ·subst f;rw[cW]at e;cases e;exact new
 ·rw[cO f]at e;exact(x b u e).stay (λc v _ q=>k c v q) (λc q=>by rw[cO (iB q d)];exact q) (λc j q=>by rw[cO (iB q d)];exact q) λc ob v q=>by rw[cO (iB q d)];exact q
end
def Rd(H:Hp)(a:Addr)(u:HO):Prop:=H a=some u\/∃o,H a=some (.frz o u)
def Rd.ok{h}{a:Addr}(r:Rd H a u)(x:vN P w H h):jY P w H h a u:=by
 rcases r with r | ⟨o,r⟩
 ·exact x a u r
 ·obtain⟨_,q⟩:=x a _ r;exact q
def Gi:Option HO->Prop
|some (.lst _)=>True
|some (.dK _)=>True
|some (.dT _)=>True
|some (.set _ _)=>True
|some (.ins _ _ _)=>True
|some (.ext _)=>True
|_=>False
section
variable{P:cN}{w:c7}{H:Hp}{h h':Heap}{x e:Addr}{a:HO}
def vN.write(ok:vN P w H h)(g:Gi (H x))(n:e=x\/H e=some (.own x))(k:∀b u,b≠e->h.get? b=some u->h'.get? b=some u)(m:∃u,h'.get? e=some u)
  (new:jY P w (gG H x a) h' x a):vN P w (gG H x a) h':=λb u q=>by
 have f:∀c y,H c=some (.own y)->c≠x:=λc y r z=>by subst z;rw[r]at g;exact g
 have i:∀c l,H c=some (.tup l)->c≠x:=λc l r z=>by subst z;rw[r]at g;exact g
 by_cases j:b=x
 ·subst j;rw[cW]at q;cases q;exact new
 ·rw[cO j]at q;by_cases d:b=e
  ·have o:H b=some (.own x):=by
    rcases n with z | z
    ·exact a9 (d.trans z) j
    ·rw[d];exact z
   rw[q]at o;cases o;obtain⟨v,p⟩:=m;exact⟨v,by rw[d];exact p⟩
  ·refine(ok b u q).stay (λc v hc r=>k c v ?_ r) (λc r=>by rw[cO (f c b r)];exact r) (λc l r=>by rw[cO (i c l r)];exact r) λc ob v r=>by rw[cO (λz=>by subst z;rw[r]at g;exact g)];exact r
   rcases hc with rfl | hc
   ·exact d
   ·rintro rfl;rcases n with z | z
    ·exact f c b hc z
    ·rw[hc]at z;cases z;exact j Fc
end
structure Un(fs ex:List Addr)(H H':Hp)(h h':Heap):Prop where
 keep:∀b o,h.get? b=some o->H b=none->b∉fs->b∉ex->h'.get? b=some o
 slot:∀b o,h.get? b=some o->H b=none->b∈fs->b∉ex->∃sl,h'.get? b=some { o with slots:=sl }
 free:∀b o,h.get? b=some o->H b=none->b∉ex->H' b=none
 there:∀b o,h.get? b=some o->b∉ex->∃o',h'.get? b=some o'
 tups:∀b xs,H b=some (.tup xs)->H' b=some (.tup xs)
 frzs:∀b o u,H b=some (.frz o u)->H' b=some (.frz o u)
 tbls:∀b ps,H b=some (.tbl ps)->∃more,H' b=some (.tbl (ps++more))
section
variable{fs ex:List Addr}{H f g:Hp}{h d i h':Heap}{a x e:Addr}{o:HO}
def Un.any(u:Un fs ex H f h d){b:Addr}(q:h.get? b=some ob)(n:H b=none)(j:b∉ex):∃k,d.get? b=some { ob with slots:=k }:=by
 by_cases c:b∈fs
 ·exact u.slot b ob q n c j
 ·exact⟨ob.slots,u.keep b ob q n c j⟩
def Un.trans(a:Un fs ex H f h d)(b:Un fs ex f g d i):Un fs ex H g h i where
 keep:=λc ob q n hc hx=>b.keep c ob (a.keep c ob q n hc hx) (a.free c ob q n hx) hc hx
 slot:=λc ob q n hc hx=>by
  obtain⟨sl,e1⟩:=a.slot c ob q n hc hx;obtain⟨zf,e2⟩:=b.slot c _ e1 (a.free c ob q n hx) hc hx;exact⟨zf,e2⟩
 free:=λc ob q n hx=>by
  obtain⟨o',e1⟩:=a.there c ob q hx;exact b.free c o' e1 (a.free c ob q n hx) hx
 there:=λc ob q hx=>by
  obtain⟨o',e1⟩:=a.there c ob q hx;exact b.there c o' e1 hx
 tups:=λc xs q=>b.tups c xs (a.tups c xs q)
 frzs:=λc ob xs q=>b.frzs c ob xs (a.frzs c ob xs q)
 tbls:=λc ps q=>by
  obtain⟨m1,e1⟩:=a.tbls c ps q;obtain⟨m2,e2⟩:=b.tbls c _ e1;exact⟨m1++m2,by rw[e2,RI]⟩
def Un.kept(k:∀b u,h.get? b=some u->h'.get? b=some u):Un fs ex H H h h':=
 ⟨λb ob q _ _ _=>k b ob q,λb ob q _ _ _=>⟨ob.slots,k b ob q⟩,λ_ _ _ n _=>n,λb ob q _=>⟨ob,k b ob q⟩,λ_ _ q=>q,λ_ _ _ q=>q,λ_ c q=>⟨#[],by rw[q];simp⟩⟩
def Un.refl:Un fs ex H H h h:=Un.kept λ_ _ q=>q
def Un.laid(k:∀b u,h.get? b=some u->h'.get? b=some u)(hp:h.objs.size<=a)(hn:H a=none):Un fs ex H (gG H a o) h h' where
 keep:=λb u q _ _ _=>k b u q
 slot:=λb u q _ _ _=>⟨u.slots,k b u q⟩
 free:=λb u q n _=>by rw[cO (bS (cS (bF q) hp))];exact n
 there:=λb u q _=>⟨u,k b u q⟩
 tups:=λb xs q=>by rw[cO (iB q hn)];exact q
 frzs:=λb u xs q=>by rw[cO (iB q hn)];exact q
 tbls:=λb ps q=>⟨#[],by rw[cO (iB q hn),q];simp⟩
def Un.write(j:Gi (H x))(t:e=x\/H e=some (.own x))(k:∀b u,b≠e->h.get? b=some u->h'.get? b=some u)(l:∃u,h'.get? e=some u):Un fs ex H (gG H x o) h h':=by
 have s:∀b,H b=none->b≠x:=λb n z=>by subst z;rw[n]at j;exact j
 have p:∀b,H b=none->b≠e:=λb n z=>by
  subst z;rcases t with r | r
  ·exact s b n r
  ·rw[n]at r;cases r
 have m:∀b u,H b=some u->¬Gi (some u)->b≠x:=λb u q nm z=>by subst z;rw[q]at j;exact nm j
 refine⟨λb u q n _ _=>k b u (p b n) q,λb u q n _ _=>⟨u.slots,k b u (p b n) q⟩,λb u q n _=>by rw[cO (s b n)];exact n,λb u q _=>?_,
  λb v q=>by rw[cO (m b _ q λz=>z)];exact q,λb u v q=>by rw[cO (m b _ q λz=>z)];exact q,λb w q=>⟨#[],by rw[cO (m b _ q λz=>z),q];simp⟩⟩
 by_cases c:b=e
 ·subst c;exact l
 ·exact⟨u,k b u c q⟩
end
noncomputable def trk(h:Heap)(H:Hp):List Addr:=(cK h.objs.size).filter λa=>(H a).isSome
noncomputable def GG(h:Heap)(H:Hp):Heap:=PySem.W.hideAll h (trk h H)
def QN(h:Heap)(H:Hp):(GG h H).objs.size=h.objs.size:=PySem.W.hideAll_size _ _
def VP{h:Heap}{b:Addr}(e:h.get? b=some o)(n:H b=none):(GG h H).get? b=some o:=
 PySem.W.hideAll_get _ e λa=>by
  have q:(H b).isSome=true:=(cM.mp a).2;rw[n]at q;simp at q
def ZE{h:Heap}{H:Hp}{b:Addr}(e:(GG h H).get? b=some o):h.get? b=some o/\H b=none:=by
 have a:h.get? b=some o:=PySem.W.of_hideAll (trk h H) e;refine⟨a,?_⟩
 cases q:H b with
 |none=>rfl
 |some x=>
  have c:b∈trk h H:=cM.mpr ⟨nQ.mpr (bF a),by simp[q]⟩;have z:(GG h H).get? b=none:=PySem.W.hideAll_none (trk h H) c;rw[z]at e;cases e
noncomputable def aAx(g h:Heap)(L:Addr):List (Addr×Obj):=(cK h.objs.size).filterMap λa=>if a=L\/(g.get? a).isSome=true then none else(h.get? a).map λo=>(a,o)
noncomputable def jM(g h:Heap)(L d:Addr):List (Addr×Obj):=(aAx g h L).filter λp=>decide (p.1≠d)
structure Mod(K:aM)(mg:Str->Option Value)(base:Heap):Prop where
 kin:K.In base
 glob:base.Ns iR mg
 blt:∃mb,base.Ns ab mb/\∀x:Str,x≠"__name__"->mb x=d1 x
 nolimit:base.NoLimit
 bmod:∃bm o,mg "__builtins__"=some (.ref bm)/\bm≠ab/\base.get? bm=some o/\o.cls=.type "module"/\o.dict=some ab/\o.data=.plain
set_option genInjectivity false in
structure Cx where
 prog:cN
 w:c7
 K:aM
 mg:Str->Option Value
 base:Heap
 A:d0
 N:List Str
 s₀:Shared
 H₀:Hp
 env:Env
 outer:List Env
 stack:List Env
 ex:List Addr
 fn:Str->Bool
 calm:Bool
 pn:List (Addr×Obj)
 xe:Value->Shared->Prop
noncomputable def JR(l:List Env):List Addr:=l.filterMap (·.frame)
noncomputable abbrev Cx.fs(X:Cx):List Addr:=JR X.outer
def Gb(a:Scope)(x:Str):Prop:=a.names.lookup x=some .local\/a.names.lookup x=some .cell\/a.names.lookup x=some .free
def OR(a:Scope)(x:Str):Prop:=a.names.lookup x=some .local\/a.names.lookup x=some .cell
def Nn(env:Env)(h:Heap)(m:Str->Option Value)(x:Str)(u:Value):Prop:=
 (env.kindOf x=some .local/\m x=some u)\/((env.kindOf x=some .cell\/env.kindOf x=some .free)/\∃c,env.cells.lookup x=some c/\h.IsCell c (some u))
def Tb(H:Hp):Prop:=∀P,tabA=some P->∃a,H P=some (.tbl a)
structure Cx.Ok(X:Cx):Prop where
 mod:Mod X.K X.mg X.base
 kind:X.env.scope.kind=.function
 glob:X.env.globals=iR
 blt:X.env.builtins=ab
 above:X.s₀.heap.objs.size<=X.env.locals
 inj:∀x y c,X.env.cells.lookup x=some c->X.env.cells.lookup y=some c->x=y
 has:∀x,(X.env.kindOf x=some .cell\/X.env.kindOf x=some .free)->∃c,X.env.cells.lookup x=some c
 cab:∀x c,X.fn x=true->X.env.cells.lookup x=some c->X.s₀.heap.objs.size<=c
 hd:X.calm=true->X.A.handled=none
 frames:X.A.frames=some X.stack
 stk:X.stack=X.outer\/(X.stack=X.env::X.outer/\X.env.frame=some X.env.locals)
 exf:∀b∈X.ex,b≠X.env.locals/\∀x c,X.env.cells.lookup x=some c->c≠b
 bs:∀b o,X.base.get? b=some o->X.s₀.heap.get? b=some o/\X.H₀ b=none
 bsz:X.base.objs.size<=X.s₀.heap.objs.size
 noex:∀b o,X.base.get? b=some o->b∉X.ex
 exfs:∀b∈X.ex,b∉X.fs
 funs:X.s₀.heap.FunFrames X.base X.outer
 frf:∀b∈X.fs,X.H₀ b=none
 tab:Tb X.H₀
structure eG(X:Cx)(pins:List (Addr×Obj))(σ:List (Option V))(H:Hp)(s:Shared):Prop where
 ok:X.Ok
 os:s.os=X.s₀.os
 bare:bh s.gens
 base:Un X.fs X.ex X.H₀ H X.s₀.heap s.heap
 loc:∃m,s.heap.Ns X.env.locals m/\∀(i:Nat)(x:Str)(v:V),X.N[i]?=some x->σ[i]?=some (some v)->Gb X.env.scope x->∃u,iL v u/\Nn X.env s.heap m x u
 cell:∀x c,X.env.cells.lookup x=some c->∃v,s.heap.IsCell c v
 free:H X.env.locals=none
 freeC:∀x c,X.env.cells.lookup x=some c->H c=none
 pin:∀p∈X.pn++pins,s.heap.get? p.1=some p.2/\H p.1=none/\p.1≠X.env.locals/\p.1∉X.fs/\∀v,p.2.data≠.cell v
 hok:vN X.prog X.w H s.heap
 len:σ.length=X.N.length
section
variable{X:Cx}{f:List (Addr×Obj)}{g:List (Option V)}{H H':Hp}{s:Shared}{h':Heap}
def Cx.Ok.nofr(ok:X.Ok){b:Addr}(e:X.base.get? b=some o):b∉X.fs:=λa=>by
 have:=(ok.funs.mem a).1;rw[e]at this;cases this
theorem eG.bs(I:eG X f g H s):∀b o,X.base.get? b=some o->s.heap.get? b=some o/\H b=none:=λb o e=>
 ⟨I.base.keep b o (I.ok.bs b o e).1 (I.ok.bs b o e).2 (I.ok.nofr e) (I.ok.noex b o e),I.base.free b o (I.ok.bs b o e).1 (I.ok.bs b o e).2 (I.ok.noex b o e)⟩
def eG.bk(I:eG X f g H s):∀b o,X.base.get? b=some o->s.heap.get? b=some o:=λb o e=>(I.bs b o e).1
theorem eG.mod(I:eG X f g H s):Mod X.K X.mg X.base:=I.ok.mod
def eG.kIn(I:eG X f g H s):X.K.In s.heap:=I.ok.mod.kin.keeps I.bk
theorem eG.nolimit(I:eG X f g H s):s.heap.NoLimit:=I.ok.mod.nolimit.keeps I.bk
theorem eG.lt(I:eG X f g H s):X.env.locals<s.heap.objs.size:=let ⟨_,hn,_⟩:=I.loc;hn.lt
def eG.sz(I:eG X f g H s):X.s₀.heap.objs.size<=s.heap.objs.size:=bG I.ok.above (iI I.lt)
def eG.nofs(I:eG X f g H s){a:Addr}(h:s.heap.objs.size<=a):a∉X.fs:=λb=>by
 obtain⟨_,o,c,_⟩:=I.ok.funs.mem b;exact a9 (cS (bF c) (bG I.sz h)) (iV _)
def eG.cne(I:eG X f g H s):∀x c,X.env.cells.lookup x=some c->c≠X.env.locals:=λx c e z=>by
 obtain⟨v,o,d,hd⟩:=I.cell x c e;obtain⟨m,⟨j,i,h,b,a,_⟩,_⟩:=I.loc;rw[z,b]at d;cases d;rw[a]at hd;cases hd
theorem eG.funs(I:eG X f g H s):s.heap.FunFrames X.base X.outer:=by
 have all:∀l,(∀b∈JR l,b∈X.fs)->X.s₀.heap.FunFrames X.base l->s.heap.FunFrames X.base l:=by
  intro l
  induction l with
  |nil=>intro _ _;trivial
  |cons env r m=>
   intro hs h;obtain⟨hk,⟨L,o,d,i,j,hd⟩,k⟩:=h;have a:L∈X.fs:=hs L (by unfold JR;rw[gD,d];exact aU);obtain⟨n,e⟩:=I.base.slot L o j (I.ok.frf L a) a λz=>I.ok.exfs L z a;exact⟨hk,⟨L,_,d,i,e,hd⟩,m (λb c=>hs b (by unfold JR;rw[gD,d];exact aO _ c)) k⟩
 exact all X.outer (λ_ c=>c) I.ok.funs
theorem eG.stack(I:eG X f g H s):s.heap.FunFrames X.base X.stack:=by
 rcases I.ok.stk with e | ⟨e,a⟩
 ·rw[e];exact I.funs
 ·rw[e];obtain⟨m,b,_⟩:=I.loc;refine .cons (by rw[I.ok.kind];decide) a b ?_ I.funs;exact Heap.get?_none_of_le (bG I.ok.bsz I.ok.above)
def eG.stkSub(I:eG X f g H s):∀b∈JR X.stack,b∈X.env.locals::X.fs:=λb a=>by
 rcases I.ok.stk with e | ⟨e,c⟩
 ·rw[e]at a;exact aO _ a
 ·rw[e]at a;unfold JR at a;rw[gD,c]at a;exact a
def eG.stkFree(I:eG X f g H s):∀b∈JR X.stack,H b=none:=λb hb=>by
 rcases aY.mp (I.stkSub b hb)with e | hb
 ·rw[e];exact I.free
 ·obtain⟨_,o,a,_⟩:=I.ok.funs.mem hb;exact I.base.free b o a (I.ok.frf b hb) λz=>I.ok.exfs b z hb
def eG.step{g':Array GenState}{t':Nat}{d':Drawn}{ch:List Addr}(I:eG X f g H s)
  (j:∀b∈ch,(b∈X.ex\/X.s₀.heap.objs.size<=b)/\b≠X.env.locals/\(∀x c,X.env.cells.lookup x=some c->c≠b)/\∀p∈X.pn++f,p.1≠b)
  (keep:∀b o,b≠X.env.locals->b∉X.fs->b∉ch->s.heap.get? b=some o->H b=none->h'.get? b=some o)
  (slot:∀b o,b≠X.env.locals->b∈X.fs->b∉ch->s.heap.get? b=some o->H b=none->∃M,h'.get? b=some { o with slots:=M }) (free:∀b o,b∉ch->s.heap.get? b=some o->H b=none->H' b=none)
  (there:∀b o,b∉ch->s.heap.get? b=some o->∃K,h'.get? b=some K)
  (tups:∀b B,H b=some (.tup B)->H' b=some (.tup B)) (frzs:∀b o u,H b=some (.frz o u)->H' b=some (.frz o u)) (tbls:∀b L,H b=some (.tbl L)->∃G,H' b=some (.tbl (L++G)))
  (ns:∀m,s.heap.Ns X.env.locals m->h'.Ns X.env.locals m) (hok:vN X.prog X.w H' h') (S:bh g') :
  eG X f g H' { s with heap:=h',gens:=g',drawn:=d',toks:=t' }:=by
 have J:∀b o,X.s₀.heap.get? b=some o->b≠X.env.locals:=λb o e=>bS (cS (bF e) I.ok.above)
 have A:∀b o,X.s₀.heap.get? b=some o->b∉X.ex->b∉ch:=λb o e a C=>by
  rcases(j b C).1 with z | z
  ·exact a z
  ·exact a9 (cS (bF e) z) (iV _)
 have h:∀x c,X.env.cells.lookup x=some c->∀v,s.heap.IsCell c v->h'.IsCell c v:=λx c e v ⟨o,E,hd⟩=>by
  have t:c∉ch:=λz=>(j c z).2.2.1 x c e Fc;by_cases O:c∈X.fs
  ·obtain⟨M,q⟩:=slot c o (I.cne x c e) O t E (I.freeC x c e);exact⟨_,q,hd⟩
  ·exact⟨o,keep c o (I.cne x c e) O t E (I.freeC x c e),hd⟩
 refine⟨I.ok,I.os,S,⟨λb o e n C a=>?_,λb o e n C a=>?_,λb o e n a=>?_,λb o e a=>?_,λb B e=>tups b B (I.base.tups b B e),λb o B e=>frzs b o B (I.base.frzs b o B e),λb L e=>?_⟩,?_,λx c e=>?_,?_,λx c e=>?_,λp P=>?_,hok,I.len⟩
 ·exact keep b o (J b o e) C (A b o e a) (I.base.keep b o e n C a) (I.base.free b o e n a)
 ·obtain⟨M,y⟩:=I.base.slot b o e n C a;obtain⟨N,F⟩:=slot b _ (J b o e) C (A b o e a) y (I.base.free b o e n a);exact⟨N,F⟩
 ·obtain⟨K,y⟩:=I.base.there b o e a;exact free b K (A b o e a) y (I.base.free b o e n a)
 ·obtain⟨K,y⟩:=I.base.there b o e a;exact there b K (A b o e a) y
 ·obtain⟨W,y⟩:=I.base.tbls b L e;obtain⟨Y,F⟩:=tbls b _ y;exact⟨W++Y,by rw[F,RI]⟩
 ·obtain⟨m,U,T⟩:=I.loc;refine⟨m,ns m U,λi x v y F R=>?_⟩;obtain⟨u,r,l⟩:=T i x v y F R;refine⟨u,r,?_⟩;rcases l with l | ⟨k,c,e,z⟩
  ·exact .inl l
  ·exact .inr ⟨k,c,e,h x c e _ z⟩
 ·obtain⟨v,z⟩:=I.cell x c e;exact⟨v,h x c e v z⟩
 ·obtain⟨m,⟨o,_,_,E,_⟩,_⟩:=I.loc;exact free _ o (λz=>(j _ z).2.1 Fc) E I.free
 ·obtain⟨v,o,E,hd⟩:=I.cell x c e;exact free c o (λz=>(j c z).2.2.1 x c e Fc) E (I.freeC x c e)
 ·obtain⟨e,n,ne,Q,d⟩:=I.pin p P;have t:p.1∉ch:=λz=>(j p.1 z).2.2.2 p P Fc;exact⟨keep p.1 p.2 ne Q t e n,free p.1 p.2 t e n,ne,Q,d⟩
def eG.un{t':Nat}(I:eG X f g H s)(u:Un X.fs [] H H' s.heap h')(hok:vN X.prog X.w H' h'):eG X f g H' { s with heap:=h',toks:=t' }:=by
 obtain⟨m,⟨o,q,p,i,r⟩,_⟩:=id I.loc;obtain⟨x,j⟩:=u.any i I.free Fa
 exact I.step (g':=s.gens) (d':=s.drawn) (ch:=[]) (λ_ z=>nomatch z) (λb o _ h _ e n=>u.keep b o e n h Fa) (λb o _ h _ e n=>u.slot b o e n h Fa) (λb o _ e n=>u.free b o e n Fa) (λb o _ e=>u.there b o e Fa) u.tups u.frzs u.tbls (λt k=>by
  obtain⟨v,d,c,a,l⟩:=k;rw[i]at a;cases a;exact⟨_,d,c,j,l⟩) hok I.bare
def eG.call{g':Array GenState}{t':Nat}{d':Drawn}{ch:List Addr}(I:eG X f g H s)(u:Un (JR X.stack) ch H H' s.heap h')(hok:vN X.prog X.w H' h')(t:bh g')
  (d:∀b∈ch,(b∈X.ex\/X.s₀.heap.objs.size<=b)/\b≠X.env.locals/\(∀x c,X.env.cells.lookup x=some c->c≠b)/\∀p∈X.pn++f,p.1≠b) :
  eG X f g H' { s with heap:=h',gens:=g',drawn:=d',toks:=t' }:=by
 obtain⟨m,⟨o,B,A,l,r⟩,_⟩:=id I.loc;obtain⟨F,k⟩:=u.any l I.free λz=>(d _ z).2.1 Fc
 exact I.step (ch:=ch) d (λb o k q a e n=>u.keep b o e n (λz=>(aY.mp (I.stkSub b z)).elim k q) a) (λb o _ _ a e n=>u.any e n a) (λb o a e n=>u.free b o e n a) (λb o a e=>u.there b o e a) u.tups u.frzs u.tbls (λC v=>by
  obtain⟨E,j,i,h,y⟩:=v;rw[l]at h;cases h;exact⟨_,j,i,k,y⟩) hok t
def eG.turned{t':Nat}{a:Addr}(I:eG X f g H s)(k:∀b o,b≠a->s.heap.get? b=some o->h'.get? b=some o)(C:H a=none)(i:a≠X.env.locals)
  (t:a∈X.ex\/X.s₀.heap.objs.size<=a) (w:∀x c,X.env.cells.lookup x=some c->c≠a) (y:∀p∈X.pn++f,p.1≠a):eG X f g H { s with heap:=h',toks:=t' }:=by
 have h:∀b u,H b=some u->b≠a:=λb u e z=>by rw[z,C]at e;cases e
 refine I.step (g':=s.gens) (d':=s.drawn) (ch:=[a]) (λb A=>?_) (λb o _ _ d e _=>k b o (λz=>d (by simp[z])) e) (λb o _ _ d e _=>⟨o.slots,k b o (λz=>d (by simp[z])) e⟩) (λ_ _ _ _ n=>n)
  (λb o d e=>⟨o,k b o (λz=>d (by simp[z])) e⟩) (λ_ _ e=>e) (λ_ _ _ e=>e) (λb F e=>⟨#[],by rw[e];simp⟩) (λm B=>?_) (λb u e=>?_) I.bare
 ·have e:b=a:=by simpa using A
  subst e;exact⟨t,i,w,y⟩
 ·obtain⟨o,l,j,E,r⟩:=B;exact⟨o,l,j,k _ o (l5 i) E,r⟩
 ·refine(I.hok b u e).stay (λc v d q=>k c v ?_ q) (λ_ q=>q) λ_ _ q=>q;rcases d with z | z
  ·rw[z];exact h b u e
  ·exact h c _ z
def eG.tok(I:eG X f g H s)(t:Nat):eG X f g H { s with toks:=t }:=I.un (h':=s.heap) (t':=t) Un.refl I.hok
theorem eG.kept{t':Nat}(I:eG X f g H s)(k:∀b u,s.heap.get? b=some u->h'.get? b=some u):eG X f g H { s with heap:=h',toks:=t' }:=I.un (Un.kept k) (I.hok.kept k)
theorem eG.laid{a:Addr}{t':Nat}(I:eG X f g H s)(k:∀b u,s.heap.get? b=some u->h'.get? b=some u)(c:s.heap.objs.size<=a)(new:jY X.prog X.w (gG H a o) h' a o) :
  eG X f g (gG H a o) { s with heap:=h',toks:=t' }:=I.un (Un.laid k c (I.hok.fresh c)) (I.hok.laid k c new)
theorem eG.write{x e:Addr}{t':Nat}(I:eG X f g H s)(d:Gi (H x))(c:e=x\/H e=some (.own x))(k:∀b u,b≠e->s.heap.get? b=some u->h'.get? b=some u)(a:∃u,h'.get? e=some u)
  (new:jY X.prog X.w (gG H x o) h' x o):eG X f g (gG H x o) { s with heap:=h',toks:=t' }:=I.un (Un.write d c k a) (I.hok.write d c k a new)
def eG.pins_of(I:eG X f g H s)(h:∀p∈pins',s.heap.get? p.1=some p.2/\H p.1=none/\p.1≠X.env.locals/\p.1∉X.fs/\∀v,p.2.data≠.cell v):eG X pins' g H s:=
 ⟨I.ok,I.os,I.bare,I.base,I.loc,I.cell,I.free,I.freeC,λp a=>(dZ.mp a).elim (λz=>I.pin p (iX _ z)) (h p),I.hok,I.len⟩
def JD{N:List Str}(e:N.Nodup){i j:Nat}(a:N[i]?=some x)(b:N[j]?=some x):i=j:=by
 obtain⟨h,c⟩:=aE.mp a;obtain⟨k,d⟩:=aE.mp b;exact(BG e).mp (c.trans d.symm)
def D1{E:Value->Shared->Prop}{i:Nat}{Q:Unit->Shared->Prop}(I:eG X f g H s)(hN:X.N.Nodup)(S:X.N[i]?=some x)(B:OR X.env.scope x)(r:iL v u)
  (h:∀s',eG X f (g.set i (some v)) H s'->(∃a,cV a s.heap s'.heap/\(a=X.env.locals\/X.env.cells.lookup x=some a))->Q () s') (hf:autoParam (X.fn x=true\/X.env.scope.names.lookup x=some .local) zzw._auto_1):wpAny M A (storeName X.env x u) Q E s:=by
 obtain⟨m,hn,hl⟩:=id I.loc;have R:(X.env.scope.kind==.class||(X.env.scope.kind==.module&&X.env.locals != X.env.globals))=false:=by rw[I.ok.kind];rfl
 have G:i<g.length:=by rw[I.len];exact(aE.mp S).1
 have cne:=I.cne
 have t:∀{a:Addr}{h':Heap},(∃o,s.heap.get? a=some o/\H a=none)->cV a s.heap h'->vN X.prog X.w H h':=λ{a h'} ha hs b ob e=>by
  obtain⟨_,_,C⟩:=ha;refine(I.hok b ob e).stay (λc Y hc q=>(hs.2 c ?_).trans q) (λ_ q=>q) λ_ _ q=>q;rintro rfl;rcases hc with rfl | hc
  ·rw[C]at e;cases e
  ·rw[C]at hc;cases hc
 rcases B with hk | hk
 ·refine wpAny_storeName_local hk hn (λh' yi hs=>?_) R;obtain⟨oL,_,_,Ca,_⟩:=id hn;refine h _ ⟨I.ok,I.os,I.bare,⟨λb o e n J B=>?_,λb o e n J B=>?_,I.base.free,λb o e B=>?_,I.base.tups,I.base.frzs,I.base.tbls⟩,⟨_,yi,λj y v' l F Z=>?_⟩,λy c e=>?_,I.free,I.freeC,λp hp=>?_,t ⟨oL,Ca,I.free⟩ hs,by simpa using I.len⟩ ⟨_,hs,.inl Fc⟩
  ·exact(hs.2 b (bS (cS (bF e) I.ok.above))).trans (I.base.keep b o e n J B)
  ·obtain⟨sl,l⟩:=I.base.slot b o e n J B;exact⟨sl,(hs.2 b (bS (cS (bF e) I.ok.above))).trans l⟩
  ·obtain⟨o',l⟩:=I.base.there b o e B;exact⟨o',(hs.2 b (bS (cS (bF e) I.ok.above))).trans l⟩
  ·by_cases L:j=i
   ·subst L;rw[S]at l;cases l;rw[bK G]at F;cases F;exact⟨u,r,.inl ⟨hk,Fa⟩⟩
   ·rw[bI (l5 L)]at F;obtain⟨u',r',q⟩:=hl j y v' l F Z;refine⟨u',r',?_⟩;rcases q with⟨k,e⟩ | ⟨k,c,e,z⟩
    ·refine .inl ⟨k,?_⟩;have:y≠x:=λe=>L (JD hN l (e▸S));simp[this,e]
    ·exact .inr ⟨k,c,e,z.sameBut hs (cne y c e)⟩
  ·obtain⟨Y,z⟩:=I.cell y c e;exact⟨Y,z.sameBut hs (cne y c e)⟩
  ·obtain⟨e,n,ne,nf,d⟩:=I.pin p hp;exact⟨(hs.2 p.1 ne).trans e,n,ne,nf,d⟩
 ·have K:X.fn x=true:=by
   rcases hf with z | z
   ·exact z
   ·rw[z]at hk;cases hk
  obtain⟨c,hc⟩:=I.ok.has x (.inl hk);obtain⟨Y,z⟩:=I.cell x c hc;refine wpAny_storeName_cell I.ok.kind hk hc z (λh' O hs=>?_);obtain⟨oc,T,U⟩:=id z;refine h { s with heap:=h' } ⟨I.ok,I.os,I.bare,⟨λb o e n J B=>?_,λb o e n J B=>?_,I.base.free,λb o e B=>?_,I.base.tups,I.base.frzs,I.base.tbls⟩,⟨m,hn.sameBut hs (l5 (cne x c hc)),λj y v' l F Z=>?_⟩,λy W e=>?_,I.free,I.freeC,λp hp=>?_,t ⟨oc,T,I.freeC x c hc⟩ hs,by simpa using I.len⟩ ⟨c,hs,.inr hc⟩
  ·exact(hs.2 b (bS (cS (bF e) (I.ok.cab x c K hc)))).trans (I.base.keep b o e n J B)
  ·obtain⟨sl,l⟩:=I.base.slot b o e n J B;exact⟨sl,(hs.2 b (bS (cS (bF e) (I.ok.cab x c K hc)))).trans l⟩
  ·obtain⟨o',l⟩:=I.base.there b o e B;exact⟨o',(hs.2 b (bS (cS (bF e) (I.ok.cab x c K hc)))).trans l⟩
  ·by_cases L:j=i
   ·subst L;rw[S]at l;cases l;rw[bK G]at F;cases F;exact⟨u,r,.inr ⟨.inl hk,c,hc,O⟩⟩
   ·rw[bI (l5 L)]at F;obtain⟨u',r',q⟩:=hl j y v' l F Z;refine⟨u',r',?_⟩;rcases q with q | ⟨k,W,e,z'⟩
    ·exact .inl q
    ·refine .inr ⟨k,W,e,z'.sameBut hs ?_⟩;rintro rfl;exact L (JD hN l (I.ok.inj _ _ _ e hc▸S))
  ·by_cases P:W=c
   ·subst P;exact⟨_,O⟩
   ·obtain⟨w2,z2⟩:=I.cell y W e;exact⟨w2,z2.sameBut hs P⟩
  ·obtain⟨e,n,ne,nf,d⟩:=I.pin p hp;refine⟨(hs.2 p.1 ?_).trans e,n,ne,nf,d⟩;intro q;rw[q,T]at e;have q':oc=p.2:=c5 e;exact d Y (by rw[<- q'];exact U)
def HZ{E:Value->Shared->Prop}{i:Nat}{Q:Unit->Shared->Prop}(I:eG X f g H s)(c:X.N.Nodup)(e:X.N[i]?=some x)(j:OR X.env.scope x)(r:iL v u)
  (h:∀a,eG X f (g.set i (some v)) H a->Q () a) (d:autoParam (X.fn x=true\/X.env.scope.names.lookup x=some .local) zzw._auto_1):wpAny M A (storeName X.env x u) Q E s:=
 D1 I c e j r (λa b _=>h a b) d
def eG.call'{s':Shared}(I:eG X f g H s)(h:s'.os=s.os)(u:Un (JR X.stack) ch H H' s.heap s'.heap)(hok:vN X.prog X.w H' s'.heap)(d:bh s'.gens)
  (a:∀b∈ch,(b∈X.ex\/X.s₀.heap.objs.size<=b)/\b≠X.env.locals/\(∀x c,X.env.cells.lookup x=some c->c≠b)/\∀p∈X.pn++f,p.1≠b):eG X f g H' s':=by
 obtain⟨h',g',d',t',i⟩:=s';have e:i=s.os:=h;subst e;exact I.call (g':=g') (t':=t') (d':=d') u hok d a
end
abbrev XK:=Value->Option Addr->Hp->Prop
abbrev St:=List (Option V)
abbrev VK:=V->Hp->Prop
abbrev TE:=St->Hp->VK->Prop
abbrev TT:=St->Hp->(Bool->Hp->Prop)->Prop
abbrev TA:=St->Hp->(List V->Hp->Prop)->Prop
structure G4 where
 nx:St->Hp->Prop
 rt:VK
 bk:St->Hp->Prop:=λ_ _=>False
 ct:St->Hp->Prop:=λ_ _=>False
abbrev TS:=G4->St->Hp->Prop
def EP(X:Cx)(a:List (Addr×Obj))(d:St)(Q:VK)(u:Value)(c:Shared):Prop:=∃v b,eG X a d b c/\iL v u/\Q v b
def TP(X:Cx)(a:List (Addr×Obj))(e:St)(Q:Bool->Hp->Prop)(b:Bool)(d:Shared):Prop:=∃c,eG X a e c d/\Q b c
def AP(X:Cx)(a:List (Addr×Obj))(e:St)(Q:List V->Hp->Prop)(d:List Value)(c:Shared):Prop:=∃vs b,eG X a e b c/\gM vs d/\Q vs b
def SP(X:Cx)(b:List (Addr×Obj))(D:G4)(f:Flow)(d:Shared):Prop:=
 match f with
 |.next=>∃a c,eG X b a c d/\D.nx a c
 |.brk=>∃a c,eG X b a c d/\D.bk a c
 |.cont=>∃a c,eG X b a c d/\D.ct a c
 |.ret u=>∃v a c,eG X b a c d/\iL v u/\D.rt v c
def PE(X:Cx)(e:Expr)(t:TE):Prop:=
 ∀a s b H Q,eG X a b H s->t b H Q->wpAny (model X.prog X.w) X.A (eval e X.env) (EP X a b Q) X.xe s
def PT(X:Cx)(e:Expr)(t:TT):Prop:=
 ∀pins s σ H(Q:Bool->Hp->Prop),eG X pins σ H s->t σ H Q->wpAny (model X.prog X.w) X.A (isTrue e X.env (eval e X.env)) (TP X pins σ Q) X.xe s
def PW(X:Cx)(e:Expr)(t:TT):Prop:=
 ∀(a:Sem Value)pins s σ H(Q:Bool->Hp->Prop),eG X pins σ H s->t σ H Q->wpAny (model X.prog X.w) X.A (isTrue e X.env a) (TP X pins σ Q) X.xe s
def PW.pt(h:PW X e t):PT X e t:=h _
def PA(X:Cx)(a:List Expr)(t:TA):Prop:=
 ∀(pos:Pos)pins s σ H(Q:List V->Hp->Prop),eG X pins σ H s->t σ H Q->wpAny (model X.prog X.w) X.A (spliced (k9 pos (cD a X.env))) (AP X pins σ Q) X.xe s
def PS(X:Cx)(st:Stmt)(t:TS):Prop:=
 ∀pins s σ H(D:G4),eG X pins σ H s->t D σ H->wpAny (model X.prog X.w) X.A (exec st X.env) (SP X pins D) X.xe s
def AH(X:Cx)(st:List Stmt)(t:TS):Prop:=
 ∀pins s σ H(D:G4),eG X pins σ H s->t D σ H->wpAny (model X.prog X.w) X.A (execs st X.env) (SP X pins D) X.xe s
def jR{d:Type}{t}{Q b:d->Shared->Prop}{M A}{E:Value->Shared->Prop}{s}(h:wpAny M A t Q E s)(c:∀a s,Q a s->b a s):wpAny M A t b E s:=gO h c λ_ _ x=>x
section
variable{X:Cx}
def sU(i:Nat):TE:=λa H Q=>∃v,a[i]?=some (some v)/\Q v H
def tC(v:V):TE:=λ_ H Q=>Q v H
def TJ{i:Nat}{x:Str}(g:X.N[i]?=some x)(o:Gb X.env.scope x)(hd:autoParam ((x==("__debug__":Str))=false) zzy._auto_1)(d:autoParam ((x==("__classdict__":Str))=false) zzy._auto_1):PE X (.Name x pos) (sU i):=by
 intro b s p H Q I h;obtain⟨v,e,h⟩:=h;obtain⟨m,n,j⟩:=I.loc;obtain⟨u,r,l⟩:=j i x v g e o;have fin:EP X b p Q u s:=⟨v,H,I,r,h⟩;rcases l with⟨hk,k⟩ | ⟨hk,c,f,a⟩
 ·exact tz (wpAny_loadName_local I.ok.kind hk n k fin) hd
 ·rcases hk with hk | hk
  ·exact tz (wpAny_loadName_cell I.ok.kind hk f a fin) hd
  ·exact tz (wpAny_loadName_free I.ok.kind hk f a fin d) hd
def yL:PE X (.Constant (.int i) j pos) (tC (.int i)):=λ_ _ _ H _ I h=>wpAny_Constant_int ⟨.int i,H,I.tok _,⟨_,Fc⟩,h⟩
def Ru:PE X (.Constant (.bool b) j pos) (tC (.bl b)):=λ_ _ _ H _ I h=>Constant_bool ⟨.bl b,H,I,Fc,h⟩
def aD2:PE X (.Constant .none j pos) (tC .non):=λ_ _ _ H _ I h=>Constant_none ⟨.non,H,I,Fc,h⟩
def aD0:PE X (.Constant (.str x) j pos) (tC (.str x)):=λ_ _ _ H _ I h=>Calls.Constant_str ⟨.str x,H,I.tok _,⟨_,Fc⟩,h⟩
def Gl(X:Cx)(x:Str):Prop:=X.env.kindOf x=some .globalImplicit
def GC{E:Value->Shared->Prop}{x:Str}{Q:Value->Shared->Prop}(I:eG X pins σ H s)(a:Gl X x)(b:X.mg x=some u)(h:Q u s)
  (hd:autoParam ((x==("__debug__":Str))=false) zzy._auto_1):wpAny (model X.prog X.w) X.A (eval (.Name x pos) X.env) Q E s:=
 dr I.ok.kind a (Calls.loadGlobal_global (by rw[I.ok.glob];exact I.mod.glob.keeps I.bk) b h) hd
def uA{E:Value->Shared->Prop}{x:Str}{Q:Value->Shared->Prop}(I:eG X pins σ H s)(c:Gl X x)(d:X.mg x=none)(f:d1 x=some u)(h:Q u s)
  (e:autoParam (x≠"__name__") zzy._auto_1) (hd:autoParam ((x==("__debug__":Str))=false) zzy._auto_1):wpAny (model X.prog X.w) X.A (eval (.Name x pos) X.env) Q E s:=by
 obtain⟨g,a,b⟩:=I.mod.blt;exact dr I.ok.kind c (Calls.loadGlobal_builtin (by rw[I.ok.glob];exact I.mod.glob.keeps I.bk) d (by rw[I.ok.blt];exact a.keeps I.bk) ((b x e).trans f) h) hd
def NU{x:Str}(a:Gl X x)(b:X.mg x=some u)(r:iL v u)(hd:autoParam ((x==("__debug__":Str))=false) zzy._auto_1):PE X (.Name x pos) (tC v):=
 λ_ _ _ H _ I h=>GC I a b ⟨v,H,I,r,h⟩ hd
def NV{x:Str}(a:Gl X x)(b:X.mg x=none)(d:d1 x=some u)(r:iL v u)(c:autoParam (x≠"__name__") zzy._auto_1)(hd:autoParam ((x==("__debug__":Str))=false) zzy._auto_1):PE X (.Name x pos) (tC v):=
 λ_ _ _ H _ I h=>uA I a b d ⟨v,H,I,r,h⟩ c hd
variable{a b:Expr}{k n:TE}{pos:Pos}
def tB(t:TE):TT:=λe H Q=>t e H λx d=>∃c,x=.bl c/\Q c d
def Zj{e:Expr}(h:PE X e t)(j:autoParam (∀c,isTrue e X.env c=(do let v <- c;uo e.pos;jb [v] (truthy v))) zzx._auto_1):PT X e (tB t):=by
 intro f s o H Q I hw;refine isTrue_plain (jR (h f s o H _ I hw) λv p m=>?_) (j _);obtain⟨x,g,i,l,q1⟩:=m;obtain⟨d,rfl,q⟩:=q1;cases l;exact w5 ⟨g,i,q⟩
variable{f g:TT}{jM:List Expr}
def Pm(t u:TT):TT:=λe H Q=>t e H λc d=>if c=true then u e d Q else Q false d
def Mw(t u:TT):TT:=λe H Q=>t e H λc d=>if c=true then Q true d else u e d Q
def Pq(t:TT):TT:=λe H Q=>t e H λc d=>Q (!c) d
def YY(i:PT X a f):PW X (.BoolOp .And [a] pos) f:=by
 intro m d s j H Q I h;refine isTrue_and (jR (i d s j H Q I h) λc l e=>?_)
 cases c with
 |true=>exact isTrue_and_nil e
 |false=>exact e
def Zl(i:PT X a f):PW X (.BoolOp .Or [a] pos) f:=by
 intro m d s j H Q I h;refine isTrue_or (jR (i d s j H Q I h) λc l e=>?_)
 cases c with
 |false=>exact isTrue_or_nil e
 |true=>exact e
def Zk(l:PT X a f)(m:PW X (.BoolOp .And (b::jM) pos) g):PW X (.BoolOp .And (a::b::jM) pos) (Pm f g):=by
 intro p d s j H Q I h;refine isTrue_and (jR (l d s j H _ I h) λc o q=>?_);obtain⟨e,i,q1⟩:=q
 cases c with
 |true=>exact m p d o j e Q i q1
 |false=>exact⟨e,i,q1⟩
def Rz(l:PT X a f)(m:PW X (.BoolOp .Or (b::jM) pos) g):PW X (.BoolOp .Or (a::b::jM) pos) (Mw f g):=by
 intro p d s j H Q I h;refine isTrue_or (jR (l d s j H _ I h) λc o q=>?_);obtain⟨e,i,q1⟩:=q
 cases c with
 |true=>exact⟨e,i,q1⟩
 |false=>exact m p d o j e Q i q1
def Zi(i:PT X a f):PT X (.UnaryOp .Not a pos) (Pq f):=by
 intro d s j H Q I h;exact isTrue_not (i d s j H (λc e=>Q (!c) e) I h)
def Xd(k n:TE):TE:=λe H Q=>k e H λx d=>∃c,x=.bl c/\if c=true then n e d Q else Q (.bl false) d
def aD1(h:PE X a t):PE X (.BoolOp op [a] pos) t:=λc s d H Q I hw=>BoolOp_one (h c s d H Q I hw)
def aD5(l:PE X a k)(m:PE X (.BoolOp .And (b::jM) pos) n):PE X (.BoolOp .And (a::b::jM) pos) (Xd k n):=by
 intro d s j H Q I h;refine BoolOp_and (jR (l d s j H _ I h) λv p q=>?_);obtain⟨x,e,i,o,q1⟩:=q;obtain⟨c,rfl,q1⟩:=q1;cases o;refine w5 ?_
 cases c with
 |true=>exact m d p j e Q i q1
 |false=>exact⟨.bl false,e,i,Fc,q1⟩
def Mx(t:TT)(k n:TE):TE:=λd H Q=>t d H λc e=>if c=true then k d e Q else n d e Q
def TR(q:PT X c f)(o:PE X a k)(p:PE X b n):PE X (.IfExp c a b pos) (Mx f k n):=by
 intro e s i H Q I h;refine wpAny_IfExp (jR (q e s i H _ I h) λd m r=>?_);obtain⟨j,l,q1⟩:=r
 cases d with
 |true=>exact o e m i j Q l q1
 |false=>exact p e m i j Q l q1
end
def lU(K:aM)(H:Hp)(a:Addr)(c:List V):Prop:=
 Rd H a (.lst c) \/
  ∃(o:Obj)(b:Array Value)(n:Nat),K.lookup a=some o/\o.cls=.type "list"/\o.dict=none/\o.data=.seq b n/\b.size<=bO/\gM c b.toList
def rO(K:aM)(H:Hp)(a:Addr)(c:List V):Prop:=
 Rd H a (.tup c) \/
  ∃(o:Obj)(b:Array Value)(n:Nat),K.lookup a=some o/\o.cls=.type "tuple"/\o.dict=none/\o.data=.seq b n/\b.size<=bO/\gM c b.toList
noncomputable def Np:Value->Option V
|.none=>some .non
|.bool b=>some (.bl b)
|.int i _=>some (.int i)
|.str x _=>some (.str x)
|.bytes b _=>some (.byt b)
|.float b _=>some (.flt b)
|.ref a=>some (.ref a)
|.type n=>some (.ty n)
|_=>none
def iL.abs(r:iL x u):Np u=some x:=by
 cases x with
 |non=>cases r;rfl
 |bl _=>cases r;rfl
 |int _=>obtain⟨t,rfl⟩:=r;rfl
 |str _=>obtain⟨t,rfl⟩:=r;rfl
 |byt _=>obtain⟨t,rfl⟩:=r;rfl
 |flt _=>obtain⟨t,rfl⟩:=r;rfl
 |ref _=>cases r;rfl
 |ty _=>cases r;rfl
theorem iL.inj(r:iL x u)(q:iL y u):x=y:=c5 (r.abs.symm.trans q.abs)
theorem gM.inj:∀{xs ys us},gM xs us->gM ys us->xs=ys
|_,_,_,.nil,.nil=>rfl
|_,_,_,.cons r t,.cons r' t'=>by rw[r.inj r',gM.inj t t']
section
variable{X:Cx}{b:List (Addr×Obj)}{g:St}{H:Hp}{s:Shared}{a:Addr}{f i:List V}
def lU.of{K}(h:H a=some (.lst f)):lU K H a f:=.inl (.inl h)
def rO.of{K}(h:H a=some (.tup f)):rO K H a f:=.inl (.inl h)
def eG.list(I:eG X b g H s)(h:lU X.K H a f):∃c:List Value,gM f c/\PlainL s.heap a c.toArray/\f.length<=bO:=by
 rcases h with h | ⟨o,c,n,hk,d,hd,hs,j,r⟩
 ·obtain⟨z,c,n,r,e⟩:=h.ok I.hok;exact⟨c,r,⟨_,n,e,Fc,Fc,Fc⟩,z⟩
 ·refine⟨c.toList,r,⟨o,n,I.kIn a o hk,d,hd,by simpa using hs⟩,?_⟩;have e:=r.length;simp only[bQ]at e;lia
def eG.tuple(I:eG X b g H s)(h:rO X.K H a f):∃c:List Value,gM f c/\ue s.heap a c.toArray/\f.length<=bO:=by
 rcases h with h | ⟨o,c,n,hk,d,_,hs,j,r⟩
 ·obtain⟨z,c,r,p⟩:=h.ok I.hok;exact⟨c,r,p.tup,z⟩
 ·refine⟨c.toList,r,⟨o,I.kIn a o hk,d,n,by simpa using hs⟩,?_⟩;have e:=r.length;simp only[bQ]at e;lia
def eG.tupleN(I:eG X b g H s)(h:rO X.K H a f):∃o,s.heap.get? a=some o/\o.cls=.type "tuple"/\o.dict=none:=by
 rcases h with h | ⟨o,j,n,hk,k,hd,_⟩
 ·obtain⟨z,j,r,⟨o,e,c,n,_,d⟩⟩:=h.ok I.hok;exact⟨o,e,c,d⟩
 ·exact⟨o,I.kIn a o hk,k,hd⟩
def eG.list_inj(I:eG X b g H s)(h:lU X.K H a f)(p:lU X.K H a i):f=i:=by
 obtain⟨j,r,⟨o,n,e,_,_,d⟩,_⟩:=I.list h;obtain⟨c,q,⟨u,t,l,_,_,k⟩,_⟩:=I.list p;rw[e]at l;cases l;rw[d]at k;injection k with m _
 have:j=c:=by simpa using e7 aF8 m
 subst this;exact r.inj q
def eG.tuple_inj(I:eG X b g H s)(h:rO X.K H a f)(p:rO X.K H a i):f=i:=by
 obtain⟨j,r,⟨o,e,_,n,d⟩,_⟩:=I.tuple h;obtain⟨c,q,⟨u,l,_,t,k⟩,_⟩:=I.tuple p;rw[e]at l;cases l;rw[d]at k;injection k with m _
 have:j=c:=by simpa using e7 aF8 m
 subst this;exact r.inj q
end
noncomputable abbrev Cx.wish(X:Cx)(E:Value->Shared->Prop):Cx:={ X with xe:=E }
noncomputable abbrev Cx.nox(X:Cx):Cx:=X.wish λ_ _=>False
theorem Cx.Ok.wish{X:Cx}(ok:X.Ok)(E:Value->Shared->Prop):(X.wish E).Ok:=
 ⟨ok.mod,ok.kind,ok.glob,ok.blt,ok.above,ok.inj,ok.has,ok.cab,ok.hd,ok.frames,ok.stk,ok.exf,ok.bs,ok.bsz,ok.noex,ok.exfs,ok.funs,ok.frf,ok.tab⟩
def Cx.Ok.unwish{X:Cx}{E:Value->Shared->Prop}(ok:(X.wish E).Ok):X.Ok:=
 ⟨ok.mod,ok.kind,ok.glob,ok.blt,ok.above,ok.inj,ok.has,ok.cab,ok.hd,ok.frames,ok.stk,ok.exf,ok.bs,ok.bsz,ok.noex,ok.exfs,ok.funs,ok.frf,ok.tab⟩
section
variable{X:Cx}{a:List (Addr×Obj)}{b:St}{H:Hp}{s:Shared}{E:Value->Shared->Prop}
theorem eG.wish(I:eG X a b H s)(E:Value->Shared->Prop):eG (X.wish E) a b H s:=⟨I.ok.wish E,I.os,I.bare,I.base,I.loc,I.cell,I.free,I.freeC,I.pin,I.hok,I.len⟩
theorem eG.unwish(I:eG (X.wish E) a b H s):eG X a b H s:=⟨I.ok.unwish,I.os,I.bare,I.base,I.loc,I.cell,I.free,I.freeC,I.pin,I.hok,I.len⟩
theorem SP.unwish{D}(h:SP (X.wish E) a D f s'):SP X a D f s':=by
 cases f with
 |next=>obtain⟨c,d,I,q⟩:=h;exact⟨c,d,I.unwish,q⟩
 |brk=>obtain⟨c,d,I,q⟩:=h;exact⟨c,d,I.unwish,q⟩
 |cont=>obtain⟨c,d,I,q⟩:=h;exact⟨c,d,I.unwish,q⟩
 |ret u=>obtain⟨v,c,d,I,r,q⟩:=h;exact⟨v,c,d,I.unwish,r,q⟩
theorem AH.nox{st}(h:AH X.nox st t):AH X st t:=λa s b H D I hw=>
 gO (h a s b H D (I.wish _) hw) (λ_ _ q=>q.unwish) λ_ _ z=>j0 z
end
section
variable{X:Cx}{st:Stmt}{jM:List Stmt}{t u:TS}{e:Expr}{g:TE}{pos:Pos}
def Xe:TS:=λD a H=>D.nx a H
def Pe(t u:TS):TS:=λD a H=>t { D with nx:=u D } a H
def FZ:AH X [] Xe:=λ_ _ a H _ I h=>ax ⟨a,H,I,h⟩
def BX(i:PS X st t)(j:AH X jM u):AH X (st::jM) (Pe t u):=by
 intro a s l H D I h;refine wpAny_execs_cons (jR (i a s l H { D with nx:=u D } I h) λf k q=>?_)
 cases f with
 |next=>
  obtain⟨b,c,d,q⟩:=q;exact j a k b c D d q
 |ret v=>exact q
 |brk=>exact q
 |cont=>exact q
def FY(b:PS X st t):AH X [st] t:=by
 intro a s c H D I h;refine wpAny_execs_cons (jR (b a s c H D I h) λf d q=>?_)
 cases f with
 |next=>exact ax q
 |ret v=>exact q
 |brk=>exact q
 |cont=>exact q
def eG.quiet(I:eG X pins σ H s):interactive X.env=false:=by simp[interactive,I.ok.kind]
def R9(g:TE):TS:=λD a H=>g a H λ_ b=>D.nx a b
def jJ(f:PE X e g)(hs:autoParam (jH e none pos.line X.env=pure false) zzz._auto_1):PS X (.Expr e pos) (R9 g):=by
 intro a s b H D I h;exact wpAny_Expr_any (jR (f a s b H _ I h) λv j ⟨x,c,d,i,q1⟩=>⟨b,c,d,q1⟩) I.quiet hs
def Pd(g:TE):TS:=λD a H=>g a H D.rt
def yK(f:PE X e g):PS X (.Return (some e) pos) (Pd g):=by
 intro a s b H D I h;exact wpAny_Return_some (jR (f a s b H _ I h) λv j ⟨x,c,d,i,q1⟩=>⟨x,b,c,d,i,q1⟩)
def Po(c:TT)(t u:TS):TS:=λD a H=>c a H λb d=>if b=true then t D a d else u D a d
def Lj(o:PT X c tc)(m:AH X a t)(n:AH X b u):PS X (.If c a b pos) (Po tc t u):=by
 intro f s i H D I h;refine wpAny_If (jR (o f s i H _ I h) λd l p=>?_);obtain⟨j,k,q1⟩:=p
 cases d with
 |true=>exact m f l i j D k q1
 |false=>exact n f l i j D k q1
end
abbrev TG:=V->St->Hp->(St->Hp->Prop)->Prop
abbrev Fw:=List V->St->Hp->(St->Hp->Prop)->Prop
def PG(X:Cx)(a:Expr)(t:TG):Prop:=
 ∀pins s σ H(v:V)(u:Value)(Q:St->Hp->Prop),eG X pins σ H s->iL v u->t v σ H Q ->
  wpAny (model X.prog X.w) X.A (em a X.env u) (λ_ d=>∃b c,eG X pins b c d/\Q b c) X.xe s
def Gg(X:Cx)(f:List Expr)(t:Fw):Prop:=
 ∀pins s(d:St)H(vs:List V)(c:List Value)(Q:St->Hp->Prop),eG X pins d H s->gM vs c->t vs d H Q ->
  wpAny (model X.prog X.w) X.A (assignInOrder ((bo f X.env).map (·.2)) c) (λ_ e=>∃a b,eG X pins a b e/\Q a b) X.xe s
section
variable{X:Cx}{pos:Pos}
def kX(i:Nat):TG:=λv a H Q=>Q (a.set i (some v)) H
def NS{i:Nat}(c:X.N.Nodup)(e:X.N[i]?=some x)(f:OR X.env.scope x)(d:autoParam (X.fn x=true\/X.env.scope.names.lookup x=some .local) zzw._auto_1):PG X (.Name x pos) (kX i):=by
 intro a s j H v u Q I r h;exact uq (HZ I c e f r (λg b=>⟨_,H,b,h⟩) d)
def F2:Fw:=λvs a H Q=>vs=[]/\Q a H
def vK(t:TG)(u:Fw):Fw:=λvs c H Q=>∃v r,vs=v::r/\t v c H λa b=>u r a b Q
def jS:Gg X [] F2:=by
 intro a s b H vs c Q I r h;obtain⟨e,h⟩:=h;subst e;cases r;exact assignInOrder_nil ⟨b,H,I,h⟩
def dQ(g:PG X e t)(i:Gg X es u)
  (hs:autoParam ((bo (e::es) X.env).map (·.2)=em e X.env::(bo es X.env).map (·.2)) zzz._auto_1):Gg X (e::es) (vK t u):=by
 intro a s m H vs n Q I r h;obtain⟨v,o,f,h⟩:=h;subst f
 cases r with
 |cons r j=>
  rw[hs];refine assignInOrder_cons (jR (g a s m H _ _ _ I r h) λ_ k l=>?_);obtain⟨b,c,d,q1⟩:=l;exact i a k b c _ _ Q d j q1
def Z9(K:aM)(n:Nat)(t:Fw):TG:=λv c H Q=>∃a b,v=.ref a/\rO K H a b/\b.length=n/\t b c H Q
def lC{k:Nat}{n:Nat}(m:X.calm=true)(h:Gg X es t)
  (q:autoParam ((bo es X.env).length=n) zzz._auto_1) (d:autoParam ((bo es X.env).findIdx? (·.1)=none) zzz._auto_1):PG X (.Tuple es k pos) (Z9 X.K n t):=by
 intro c s g H v u Q I r hw;obtain⟨a,A,j,w,p,hw⟩:=hw;subst j;cases r;obtain⟨z,f,x,B⟩:=I.tuple w;refine assign_Tuple_tuple (I.ok.hd m) x (by simp[q,<- p,f.length]) d λl y=>?_;have i:eG X c g H { s with heap:=l }:=I.kept (t':=s.toks) λb o e=>y b o (bS (bF e)) e;exact h c _ g H A _ Q i (by simpa using f) hw
def wT(c:TE)(g:TG):TS:=λD a H=>c a H λx b=>g x a b D.nx
def tW(i:PE X e te)(j:PG X tg g)(hs:autoParam (swapsWithSole [tg] e pos.line X.env=pure false) zzz._auto_1)(hw:autoParam (swappedStores [tg] e X.env=pure none) zzz._auto_1)
  (f:autoParam ((bo [tg] X.env).map (·.2)=[em tg X.env]) zzz._auto_1):PS X (.Assign [tg] e pos) (wT te g):=by
 intro a s b H D I h;refine wpAny_Assign_stores (jR (i a s b H _ I h) λv l m=>?_) hs hw;obtain⟨x,c,d,k,q1⟩:=m;rw[f];exact jR (j a l b c x v _ d k q1) λ_ n q=>q
def yJ{i:Nat}(f:X.N.Nodup)(k:X.N[i]?=some x)(l:OR X.env.scope x)(g:PE X e te)(hs:autoParam (jH e (some (.Name x pos')) pos.line X.env=pure false) zzz._auto_1)(j:autoParam (X.fn x=true\/X.env.scope.names.lookup x=some .local) zzw._auto_1) :
  PS X (.Assign [.Name x pos'] e pos) (wT te (kX i)):=by
 intro a s o H D I h;refine wpAny_Assign_Name (jR (g a s o H _ I h) λv p n=>?_) hs;obtain⟨y,b,c,m,q1⟩:=n;exact HZ c f k l m (λq d=>⟨_,b,d,q1⟩) j
end
section
variable{X:Cx}{pos:Pos}
def R7(c:TT)(h:TS):TS:=λD a H=>∃W:Nat->St->Hp->Prop,(∃m,W m a H)/\∀m a H,W m a H ->
 c a H λb f=>if b=true then∃N:St->Hp->Prop,(∀d e,N d e->∃g,g<m/\W g d e)/\h { D with nx:=N,ct:=N,bk:=D.nx } a f else D.nx a f
def tV(y:PassesOwn (model X.prog X.w) X.A X.env X.xe)(C:PT X c tc)(B:AH X body tb):PS X (.While c body [] pos) (R7 tc tb):=by
 intro a s O H D I h;obtain⟨W,⟨E,K⟩,turn⟩:=h;refine wpAny_While (codeAny_whileLoop (λn F=>∃g q,eG X a g q F/\W n g q) ?_ E ⟨O,H,I,K⟩);rintro n G ⟨e,r,z,L⟩;refine u8 y (jR (C a G e r _ z (turn n e r L)) λb J M=>?_);obtain⟨t,u,i⟩:=M
 cases b with
 |true=>
  obtain⟨N,x,i⟩:=i;rw[a7 rfl];refine u8 y (jR (B a J e t _ u i) λf s3 j=>?_)
  cases f with
  |next=>
   obtain⟨d,H3,k,o⟩:=j;obtain⟨m,l,p⟩:=x d H3 o;exact⟨m,l,d,H3,k,p⟩
  |cont=>
   obtain⟨d,H3,k,o⟩:=j;obtain⟨m,l,p⟩:=x d H3 o;exact⟨m,l,d,H3,k,p⟩
  |brk=>exact j
  |ret v=>exact j
 |false=>
  rw[a6 bN];exact ax ⟨e,t,u,i⟩
end
structure It where
 go:Nat->Hp->Prop
 yld:Nat->Hp->V->Hp->Prop
 stop:Nat->Hp->Prop
def AI(X:Cx)(a:List (Addr×Obj))(H:Hp)(b:Addr):Prop:=
 H b=none/\b≠X.env.locals/\b∉X.fs/\(b∈X.ex\/X.s₀.heap.objs.size<=b)/\(∀x c,X.env.cells.lookup x=some c->c≠b)/\∀p∈X.pn++a,p.1≠b
def eG.fpOk{s:Shared}{b:Addr}(I:eG X pins σ H s)(a:s.heap.objs.size<=b)(d:H' b=none):AI X pins H' b:=by
 refine⟨d,fN (cS I.lt a),I.nofs a,.inr (bG I.sz a),λx c e z=>?_,λp f z=>?_⟩
 ·obtain⟨v,q⟩:=I.cell x c e;exact a9 (cS q.lt (by rw[z];exact a)) (iV _)
 ·exact a9 (cS (bF (I.pin p f).1) (by rw[z];exact a)) (iV _)
structure C0(P:cN)(w:c7)(K:aM)(tg:Expr)(J:It)(fp:List Addr)(it:Addr)(tn:Nat->Heap->Prop):Prop where
 mem:it∈fp
 obj:∀i h,tn i h->∀b∈fp,∃o,h.get? b=some o/\∀v,o.data≠.cell v
 keep:∀i h h',tn i h->(∀b∈fp,∀o,h.get? b=some o->h'.get? b=some o)->tn i h'
 item:∀(X:Cx),X.prog=P->X.w=w->X.K=K->X.calm=true->∀(i:Nat)pins(s:Shared)σ H E,eG X pins σ H s->(∀b∈fp,AI X pins H b)->tn i s.heap->J.go i H ->
  wpAny (model P w) X.A (u3 (.ref it)) (λr s1=>∃u,r=some u /\
   wpAny (model P w) X.A (l8 tg (.ref it) u) (λ_ s2=>∃x H',eG X pins σ H' s2/\iL x u/\J.yld i H x H'/\tn (i+1) s2.heap/\∀b∈fp,H' b=none) E s1) E s
 done:∀(X:Cx),X.prog=P->X.w=w->X.K=K->X.calm=true->∀(i:Nat)pins(s:Shared)σ H E,eG X pins σ H s->(∀b∈fp,AI X pins H b)->tn i s.heap->J.stop i H ->
  wpAny (model P w) X.A (u3 (.ref it)) (λr s1=>r=none/\eG X pins σ H s1) E s
 self:∀A(i:Nat)(s:Shared)Q E,tn i s.heap->Q (.ref it) s->wpAny (model P w) A (bg (.ref it)) Q E s
abbrev TI:=St->Hp->(It->Hp->Prop)->Prop
def Ii(X:Cx)(a:List (Addr×Obj))(j:St)(i:Expr)(R:It->Hp->Prop)(d:Value)(g:Shared):Prop:=
 ∃(f:Addr)(e:List Addr)(h:Nat->Heap->Prop)(J:It)(c:Hp),d=.ref f/\eG X a j c g/\C0 X.prog X.w X.K i J e f h/\h 0 g.heap/\(∀b∈e,AI X a c b)/\R J c
def PI(X:Cx)(b iter:Expr)(c:TI):Prop:=
 ∀pins(s:Shared)σ H(R:It->Hp->Prop),eG X pins σ H s->c σ H R ->
  wpAny (model X.prog X.w) X.A (eval iter X.env) (λv a=>wpAny (model X.prog X.w) X.A (bg v) (Ii X pins σ b R) X.xe a) X.xe s
def EL{E:Value->Shared->Prop}{s:Shared}{b:Addr}{o:Obj}{Q:Unit->Shared->Prop}(e:s.heap.get? b=some o)(c:o.cls=.type n)(hd:o.data=.fields vs)
  (d:["enumerate","zip","dict_itemiterator","dict_reverseitemiterator","odict_iterator","itertools.zip_longest","itertools.pairwise"].contains n=false) (a:Q () s):wpAny M A (l8 tg (.ref b) u) Q E s:=by
 unfold l8
 cases tg<;>first
  |exact aG a
  | (cases u<;>first
    |exact aG a
    | (refine aB (bx e ?_)
       rw[c,hd];show wpAny M A (if(["enumerate","zip","dict_itemiterator","dict_reverseitemiterator","odict_iterator","itertools.zip_longest","itertools.pairwise"].contains n&&vs[0]?==some (h8 _))=true then _ else _) Q E s;rw[a6 (by intro h;rw[d,aCz]at h;cases h)];exact aG a))
noncomputable def Im(K:aM)(a:Addr):It:=
 ⟨λi H=>∃b x,lU K H a b/\b[i]?=some x,λi H x c=>c=H/\∀b,lU K H a b->b[i]?=some x,λi H=>∃b,lU K H a b/\b.length<=i⟩
noncomputable def Ik(K:aM)(a:Addr):It:=
 ⟨λi H=>∃b x,rO K H a b/\b[i]?=some x,λi H x c=>c=H/\∀b,rO K H a b->b[i]?=some x,λi H=>∃b,rO K H a b/\b.length<=i⟩
noncomputable def Il(lo:Int)(n:Nat):It:=⟨λi _=>i<n,λi H x a=>a=H/\x=.int (lo+i),λi _=>n<=i⟩
def O6{K}(a it:Addr):C0 P w K tg (Im K a) [it] it (λi h=>h.IsListIter it a i) where
 mem:=by simp
 obj:=λi h st b hb=>by
  have e:b=it:=by simpa using hb
  subst e;obtain⟨o,e,c,d⟩:=st;exact⟨o,e,λv z=>by rw[d]at z;cases z⟩
 keep:=λi h h' st k=>st.at λo e=>k it Fa o e
 item:=by
  intro X hP hw hK hc i pins s σ H E I hf st hg;subst hP hw hK;obtain⟨xs,x,hq,hx⟩:=hg;obtain⟨fo,rv,p,hz⟩:=I.list hq;obtain⟨u,hu,ru⟩:=rv.get hx;obtain⟨f0,f1,f2,f3,f4,f5⟩:=hf it Fa;refine wpAny_pyNext_list_item st p.isList (x:=u) (by simpa using hu) λh' eh sb=>?_;have I1:eG X pins σ H { s with heap:=h' }:=I.turned (t':=s.toks) (λb o hb e=>(sb.2 b hb).trans e) f0 f1 f3 f4 f5;obtain⟨o,e,c,d⟩:=id eh;exact⟨u,Fc,EL (s:={ s with heap:=h' }) e c d Ey ⟨x,H,I1,ru,⟨Fc,λys hy=>by rw[I.list_inj hy hq];exact hx⟩,eh,λb hb=>(hf b hb).1⟩⟩
 done:=by
  intro X hP hw hK hc i pins s σ H E I hf st hg;subst hP hw hK;obtain⟨xs,hq,hx⟩:=hg;obtain⟨fo,rv,p,hz⟩:=I.list hq;obtain⟨f0,f1,f2,f3,f4,f5⟩:=hf it Fa;have hl:=rv.length;exact wpAny_pyNext_list_end (I.ok.hd hc) st p.isList (by simp;lia) λh' eb=>⟨Fc,I.turned (t':=s.toks) (λb o hb e=>eb b o hb e) f0 f1 f3 f4 f5⟩
 self:=λ_ _ _ _ _ st h=>wpAny_pyIter_listiter st h
def KW{K}(a it:Addr):C0 P w K tg (Ik K a) [it] it (λi h=>h.IsTupleIter it a i) where
 mem:=by simp
 obj:=λi h st b hb=>by
  have e:b=it:=by simpa using hb
  subst e;obtain⟨o,e,c,d⟩:=st;exact⟨o,e,λv z=>by rw[d]at z;cases z⟩
 keep:=λi h h' st k=>st.at λo e=>k it Fa o e
 item:=by
  intro X hP hw hK hc i pins s σ H E I hf st hg;subst hP hw hK;obtain⟨xs,x,hq,hx⟩:=hg;obtain⟨fo,rv,p,hz⟩:=I.tuple hq;obtain⟨u,hu,ru⟩:=rv.get hx;obtain⟨f0,f1,f2,f3,f4,f5⟩:=hf it Fa;refine wpAny_pyNext_tuple_item st (show s.heap.IsTuple a fo.toArray from p) (x:=u) (by simpa using hu) λh' eh sb=>?_;have I1:eG X pins σ H { s with heap:=h' }:=I.turned (t':=s.toks) (λb o hb e=>(sb.2 b hb).trans e) f0 f1 f3 f4 f5;obtain⟨o,e,c,d⟩:=id eh;exact⟨u,Fc,EL (s:={ s with heap:=h' }) e c d Ey ⟨x,H,I1,ru,⟨Fc,λys hy=>by rw[I.tuple_inj hy hq];exact hx⟩,eh,λb hb=>(hf b hb).1⟩⟩
 done:=by
  intro X hP hw hK hc i pins s σ H E I hf st hg;subst hP hw hK;obtain⟨xs,hq,hx⟩:=hg;obtain⟨fo,rv,p,hz⟩:=I.tuple hq;obtain⟨f0,f1,f2,f3,f4,f5⟩:=hf it Fa;have hl:=rv.length;exact wpAny_pyNext_tuple_end (I.ok.hd hc) st (show s.heap.IsTuple a fo.toArray from p) (by simp;lia) λh' eb=>⟨Fc,I.turned (t':=s.toks) (λb o hb e=>eb b o hb e) f0 f1 f3 f4 f5⟩
 self:=λ_ _ _ _ _ st h=>wpAny_pyIter_tupleiter st h
def KY{K}(it:Addr)(lo:Int)(n:Nat):C0 P w K tg (Il lo n) [it] it (λi h=>fh h it (lo+(i:Nat)*1) ((n:Int)-(i:Nat)) 1) where
 mem:=by simp
 obj:=λi h st b hb=>by
  have e:b=it:=by simpa using hb
  subst e
  exact⟨_,st,λv z=>by
   have z':dm _=Data.cell v:=z;cases z'⟩
 keep:=λi h h' st k=>k it Fa _ st
 item:=by
  intro X hP hw hK hc i pins s σ H E I hf st hg;subst hP hw hK;obtain⟨f0,f1,f2,f3,f4,f5⟩:=hf it Fa;have W:=Walks.range (prog:=X.prog) (w:=X.w) (I.ok.hd hc) it lo 1 n;refine W.item i s _ _ hg st λv h' tk hv eh kk=>?_;obtain⟨t,rfl⟩:=hv;have I1:eG X pins σ H { s with heap:=h',toks:=tk }:=I.turned (λb o hb e=>kk b o (by simpa using hb) e) f0 f1 f3 f4 f5;refine⟨_,Fc,EL (s:={ s with heap:=h',toks:=tk }) (n:="range_iterator") eh Fc Fc Ey ⟨.int (lo+i),H,I1,⟨t,?_⟩,⟨Fc,Fc⟩,eh,λb hb=>(hf b hb).1⟩⟩;rw[wL]
 done:=by
  intro X hP hw hK hc i pins s σ H E I hf st hg;subst hP hw hK;obtain⟨f0,f1,f2,f3,f4,f5⟩:=hf it Fa;exact jj (I.ok.hd hc) st (by have:n<=i:=hg;lia) λh' eb=>⟨Fc,I.turned (t':=s.toks) (λb o hb e=>eb b o hb e) f0 f1 f3 f4 f5⟩
 self:=λ_ _ _ _ _ st h=>ji st h
section
variable{X:Cx}{c:Expr}
def SW{s:Shared}{R:It->Hp->Prop}{E:Value->Shared->Prop}{lo a:Int}{f:Nat}(I:eG X pins σ H s)(i:-(2^62)<=lo)(j:lo<2^62)(k:-(2^62)<=a)(l:a<2^62)
  (q:R (Il lo (a-lo).toNat) H):wpAny (model X.prog X.w) X.A (bg (.ref s.heap.objs.size)) (Ii X pins σ c R) E { s with heap:=s.heap.push { cls:=.type "range",data:=.fields #[.int lo t,.int a u,.int 1 v] },toks:=f }:=by
 refine ua (IsRange.new ..) (small_one i j k l) ?_;have d:eG X pins σ H { s with heap:=s.heap.push { cls:=.type "range",data:=.fields #[.int lo t,.int a u,.int 1 v] },toks:=f }:=I.kept λb o e=>aJ _ e
 refine⟨(s.heap.push { cls:=.type "range",data:=.fields #[.int lo t,.int a u,.int 1 v] }).objs.size,[(s.heap.push { cls:=.type "range",data:=.fields #[.int lo t,.int a u,.int 1 v] }).objs.size],_,_,H,Fc,
  d.kept (t':=f) λb o e=>aJ _ e,KY _ lo (a-lo).toNat,?_,λb m=>?_,q⟩
 ·have g:lo+((0:Nat):Int)*1=lo:=by simp
  have h:(((a-lo).toNat:Nat):Int)-((0:Nat):Int)=f6 lo a 1:=by rw[rangeSize_one];split<;>lia
  show fh _ _ (lo+((0:Nat):Int)*1) ((((a-lo).toNat:Nat):Int)-((0:Nat):Int)) 1;rw[g,h];exact aW _ Fc
 ·have e:b=(s.heap.push { cls:=.type "range",data:=.fields #[.int lo t,.int a u,.int 1 v] }).objs.size:=by simpa using m
  subst e;exact d.fpOk (aN _) (d.hok.fresh (aN _))
def Ku(b:TA):TI:=λd H R=>b d H λvs a=>∃j:Int,vs=[.int j]/\-(2^62)<=j/\j<2^62/\R (Il 0 j.toNat) a
def jP(g:Gl X "range")(i:X.mg "range"=none)(f:PA X [a] ta)(hs:autoParam (cD [a] X.env=[(false,eval a X.env)]) zzz._auto_1):PI X c (.Call (.Name "range" p) [a] [] pos) (Ku ta):=by
 intro b s o H R I h;refine Call_ (uA I g i boot_range (i8 (jR (f pos b s o H _ I h) λw v n=>?_) hs Fc));obtain⟨vs,u,d,l,q1⟩:=n;obtain⟨j,e,q1,k,q⟩:=q1;subst e
 cases l with
 |cons r m=>
  cases m;obtain⟨t,rfl⟩:=r;exact call_range_1 (SW d Ez Ez q1 k (by simpa using q))
def Kf(l:TI)(g:TG)(k:TS):TS:=λD a H=>l a H λJ h=>∃W:Nat->Nat->St->Hp->Prop,(∃m,W 0 m a h)/\∀i m a H,W i m a H ->
 (J.stop i H/\D.nx a H)\/(J.go i H/\∃N:St->Hp->Prop,(∀d b,N d b->∃f,f<m/\W (i+1) f d b)/\∀x b,J.yld i H x b->g x a b λe j=>k { D with nx:=N,ct:=N,bk:=D.nx } e j)
noncomputable def BZ(a:List Addr)(h:Heap):List (Addr×Obj):=a.filterMap λb=>(h.get? b).map λo=>(b,o)
def sA{h:Heap}{b:Addr}(a:b∈fp)(e:h.get? b=some o):(b,o)∈BZ fp h:=yC.mpr ⟨b,a,by rw[e];rfl⟩
def P8{h:Heap}{p:Addr×Obj}(f:p∈BZ fp h):p.1∈fp/\h.get? p.1=some p.2:=by
 obtain⟨b,d,e⟩:=yC.mp f
 cases q:h.get? b with
 |none=>rw[q]at e;cases e
 |some o=>
  rw[q]at e;have a:(b,o)=p:=c5 e;subst a;exact⟨d,q⟩
def eG.pinned{s:Shared}(I:eG X pins σ H s)(h:∀b∈fp,AI X pins H b)(i:∀b∈fp,∃o,s.heap.get? b=some o/\∀v,o.data≠.cell v):eG X (pins++BZ fp s.heap) σ H s:=
 I.pins_of λp j=>(dZ.mp j).elim (λz=>I.pin p (eF _ z)) λz=>by
  obtain⟨f,e⟩:=P8 z;obtain⟨g,f1,f2,_⟩:=h p.1 f;obtain⟨o,a,d⟩:=i p.1 f;rw[e]at a;cases a;exact⟨e,g,f1,f2,d⟩
def eG.unpinned(I:eG X (pins++pl) σ H s):eG X pins σ H s:=I.pins_of λp a=>I.pin p (eF _ (iX _ a))
def Zh{iter}(K:PassesOwn (model X.prog X.w) X.A X.env X.xe)(hc:X.calm=true)(hi:PI X c iter wi)(hg:PG X c g)(p:AH X body tb)
  (hs:autoParam (∀x,j6 iter X.env x=pure x) zzx._auto_1):PS X (.For c iter body [] pos) (Kf wi g tb):=by
 intro a s σ H D I h;refine wpAny_For (jR (hi a s σ H _ I h) λv s1 h1=>jR h1 λrB s2 h2=>?_) hs;obtain⟨it,F,tn,J,H2,e,I2,T,S,f2,W,⟨m0,w0⟩,turn⟩:=h2;subst e
 -- what stays true of the iterator's objects through the loop
 have q:∀{z:Hp},(∀b∈F,z b=none)->∀b∈F,AI X a z b:=λhn b p=>⟨hn b p,(f2 b p).2⟩;refine codeAny_forLoop_any (λn s'=>∃i t z,eG X a t z s'/\tn i s'.heap/\(∀b∈F,z b=none)/\W i n t z) ?_ m0 ⟨0,σ,H2,I2,S,λb p=>(f2 b p).1,w0⟩;rintro n s3 ⟨i,y,H3,Z,M,G,w3⟩;rcases turn i n y H3 w3 with⟨stop,qn⟩ | ⟨go,N,hN,step⟩
 ·refine u8 K (jR (T.done X Fc Fc Fc hc i a s3 y H3 X.xe Z (q G) M stop) λr s4 E=>?_);obtain⟨Q,I4⟩:=E;subst Q;exact ax ⟨y,H3,I4,qn⟩
 ·refine u8 K (jR (T.item X Fc Fc Fc hc i a s3 y H3 X.xe Z (q G) M go) λr s4 E=>?_);obtain⟨u,Q,h4⟩:=E;subst Q;refine u8 K (jR h4 λ_ s5 E=>?_);obtain⟨x,Y,I5,r5,y5,C,P⟩:=E;have O:=I5.pinned (q P) (T.obj _ _ C);refine u8 K (jR (hg _ s5 y Y x u _ O r5 (step x Y y5)) λ_ s6 E=>?_);obtain⟨U,H6,I6,q6⟩:=E;refine u8 K (jR (p _ s6 U H6 _ I6 q6) λf R B=>?_)
  have again:∀{j:St}{k:Hp},eG X (a++BZ F s5.heap) j k R->N j k->∃m,m<n/\∃i t z,eG X a t z R/\tn i R.heap/\(∀b∈F,z b=none)/\W i m t z:=λ{j k} l L=>by
   obtain⟨m',hm,w7⟩:=hN j k L;refine⟨m',hm,i+1,j,k,l.unpinned,T.keep _ _ _ C λb p o e=>(l.pin (b,o) (eF _ (eF _ (sA p e)))).1,λb p=>?_,w7⟩;obtain⟨o,e,d⟩:=T.obj _ _ C b p;exact(l.pin (b,o) (eF _ (eF _ (sA p e)))).2.1
  cases f with
  |next=>obtain⟨j,k,l,L⟩:=B;exact again l L
  |cont=>obtain⟨j,k,l,L⟩:=B;exact again l L
  |brk=>obtain⟨j,k,l,B⟩:=B;exact⟨j,k,l.unpinned,B⟩
  |ret v=>obtain⟨x7,j,k,l,r7,B⟩:=B;exact⟨x7,j,k,l.unpinned,r7,B⟩
end
abbrev R2:=V->V->Hp->VK->Prop
def oU(X:Cx)(f:Value->Value->Sem Value)(r:R2):Prop:=
 ∀pins s σ H(x y:V)(v u:Value)Q,eG X pins σ H s->iL x v->iL y u->r x y H Q ->
  wpAny (model X.prog X.w) X.A (f v u) (EP X pins σ Q) X.xe s
def Ic(X:Cx)(f:Value->Sem Value)(r:V->Hp->VK->Prop):Prop:=
 ∀pins s σ H(x:V)(v:Value)Q,eG X pins σ H s->iL x v->r x H Q ->
  wpAny (model X.prog X.w) X.A (f v) (EP X pins σ Q) X.xe s
def kO(X:Cx)(f:Value)(r:List V->Hp->VK->Prop):Prop:=
 ∀pins s σ H(b:List V)(a:List Value)Q,eG X pins σ H s->gM b a->r b H Q ->
  wpAny (model X.prog X.w) X.A (call f a) (EP X pins σ Q) X.xe s
def No(X:Cx)(r:V->Hp->(Bool->Hp->Prop)->Prop):Prop:=
 ∀pins s σ H(x:V)(v:Value)(Q:Bool->Hp->Prop),eG X pins σ H s->iL x v->r x H Q ->
  wpAny (model X.prog X.w) X.A (truthy v) (TP X pins σ Q) X.xe s
def Fn(r:R2)(d e:TE):TE:=λa H Q=>d a H λx b=>e a b λy c=>r x y c Q
def Mu(r:V->Hp->VK->Prop)(b:TE):TE:=λc H Q=>b c H λx a=>r x a Q
def rI(C:Int->Int->Prop)(g:Int->Int->V):R2:=λx y H Q=>∃i j,x=.int i/\y=.int j/\C i j/\Q (g i j) H
def S0(g:Int->Int->V):R2:=λx y H Q=>∃i j,x=.int i/\y=.int j/\Q (g i j) H
def rU(g:Int->V):V->Hp->VK->Prop:=λx H Q=>∃i,x=.int i/\Q (g i) H
section
variable{X:Cx}{a b:Expr}{c d:TE}{pos:Pos}
def Ha(o:PE X a c)(p:PE X b d){R:V->V->Hp->Prop}(I:eG X pins σ H s)
  (h:c σ H λx k=>d σ k λy e=>R x y e) {Q:Value->Shared->Prop} {f:Value->Value->Sem Value}
  (q:∀v u j x y e,eG X pins σ e j->iL x v->iL y u->R x y e->wpAny (model X.prog X.w) X.A (f v u) Q X.xe j) :
  wpAny (model X.prog X.w) X.A (eval a X.env) (λv g=>wpAny (model X.prog X.w) X.A (eval b X.env) (λu i=>wpAny (model X.prog X.w) X.A (f v u) Q X.xe i) X.xe g) X.xe s:=by
 refine jR (o pins s σ H _ I h) λv B l=>?_;obtain⟨x,k,m,t,q1⟩:=l;refine jR (p pins B σ k _ m q1) λu j l=>?_;obtain⟨y,e,n,z,r⟩:=l;exact q v u j x y e n t z r
def IQ(k:oU X (m3 op) r)(i:PE X a c)(j:PE X b d):PE X (.BinOp a op b pos) (Fn r c d):=by
 intro e s o H Q I h;exact wpAny_BinOp (Ha i j I h λv u n x y f g l m q=>k e n o f x y v u Q g l m q)
def Ry{r:V->Hp->VK->Prop}(k:Ic X (unaryOp op) r)(j:PE X a c):PE X (.UnaryOp op a pos) (Mu r c):=by
 intro e s f H Q I h;exact UnaryOp_ (jR (j e s f H _ I h) λv m ⟨x,g,i,l,q1⟩=>k e m f g x v Q i l q1)
def Fx{f:Value->Value->Sem Value}{C:Int->Int->Prop}{g:Int->Int->Int}
  (rule:∀(i j:Int)(t u:Tok)(s:Shared)Q E,C i j->Q (.int (g i j) s.toks) { s with toks:=s.toks+1 }->wpAny (model X.prog X.w) X.A (f (.int i t) (.int j u)) Q E s) :
  oU X f (rI C λi j=>.int (g i j)):=by
 intro e s o H x y v u Q I l m h;obtain⟨i,j,rfl,rfl,k,q⟩:=h;obtain⟨t,rfl⟩:=l;obtain⟨n,rfl⟩:=m;exact rule i j t n s _ _ k ⟨.int (g i j),H,I.tok _,⟨_,Fc⟩,q⟩
def Jr{f:Value->Value->Sem Value}{g:Int->Int->Int}
  (rule:∀(i j:Int)(t u:Tok)(s:Shared)Q E,Q (.int (g i j) s.toks) { s with toks:=s.toks+1 }->wpAny (model X.prog X.w) X.A (f (.int i t) (.int j u)) Q E s) :
  oU X f (S0 λi j=>.int (g i j)):=by
 intro e s n H x y v u Q I k l h;obtain⟨i,j,rfl,rfl,q⟩:=h;obtain⟨t,rfl⟩:=k;obtain⟨m,rfl⟩:=l;exact rule i j t m s _ _ ⟨.int (g i j),H,I.tok _,⟨_,Fc⟩,q⟩
def ZC{f:Value->Value->Sem Value}{g:Int->Int->Bool}
  (rule:∀(i j:Int)(t u:Tok)s Q E,Q (.bool (g i j)) s->wpAny (model X.prog X.w) X.A (f (.int i t) (.int j u)) Q E s) :
  oU X f (S0 λi j=>.bl (g i j)):=by
 intro e s n H x y v u Q I k l h;obtain⟨i,j,rfl,rfl,q⟩:=h;obtain⟨t,rfl⟩:=k;obtain⟨m,rfl⟩:=l;exact rule i j t m s _ _ ⟨.bl (g i j),H,I,Fc,q⟩
def Hd(i j:Int):Prop:=0<j/\j<1073741824
def KE(i j:Int):Prop:=(-(2^64)<i/\i<2^64)\/(-(2^64)<j/\j<2^64)
def KE.ok{i j:Int}(h:KE i j):IntMulOk i j:=by
 rcases h with⟨e,f⟩ | ⟨e,f⟩
 ·exact .of_left (intBits_le_64 e f)
 ·exact .of_right (intBits_le_64 e f)
def Yx:oU X (m3 .Add) (S0 λi j=>.int (i+j)):=Jr λ_ _ _ _ _ _ _ q=>add_int q
def mO:oU X (m3 .Sub) (S0 λi j=>.int (i-j)):=Jr λ_ _ _ _ _ _ _ q=>sub_int q
def T2:oU X (m3 .Mult) (rI KE λi j=>.int (i*j)):=Fx λ_ _ _ _ _ _ _ e q=>mul_int q e.ok
def lL:oU X (m3 .FloorDiv) (rI Hd λi j=>.int (i / j)):=Fx λi j _ _ _ _ _ e q=>by
 have f:(0:Int)<j:=e.1;have g:j<1073741824:=e.2;exact floordiv_int Ez (by rw[HC i Ez];exact q) (.inl (ek Ez))
def gK:oU X (m3 .Mod) (rI (λ_ j=>0<j) λi j=>.int (i%j)):=Fx λi j _ _ _ _ _ e q=>by
 have f:(0:Int)<j:=e;exact mod_int' Ez (by rw[Int.fmod_eq_emod_of_nonneg i Ez];exact q)
def Ms{f:Value->Sem Value}{g:Int->Int}
  (rule:∀(i:Int)(t:Tok)(s:Shared)Q E,Q (.int (g i) s.toks) { s with toks:=s.toks+1 }->wpAny (model X.prog X.w) X.A (f (.int i t)) Q E s) :
  Ic X f (rU λi=>.int (g i)):=by
 intro e s k H x v Q I j h;obtain⟨i,rfl,q⟩:=h;obtain⟨t,rfl⟩:=j;exact rule i t s _ _ ⟨.int (g i),H,I.tok _,⟨_,Fc⟩,q⟩
def aC1:Ic X (unaryOp .USub) (rU λi=>.int (-i)):=Ms λ_ _ _ _ _ q=>neg_int q
end
noncomputable def Hx:V->V->Bool
|.non,.non=>true | .non,.int _=>true | .int _,.non=>true | .non,.bl _=>true | .bl _,.non=>true | .non,.str _=>true | .str _,.non=>true
|.int _,.int _=>true | .bl _,.bl _=>true | .str _,.str _=>true | .byt _,.byt _=>true
|.int _,.str _=>true | .str _,.int _=>true | .bl _,.str _=>true | .str _,.bl _=>true
|_,_=>false
def Iu:R2:=λx y H Q=>Hx x y=true/\Q (.bl (decide (x=y))) H
def Iq:R2:=λx y H Q=>Hx x y=true/\Q (.bl (!decide (x=y))) H
def OH{i j:Int}:decide (V.int i=V.int j)=(i==j):=by
 rw[mV];simp
def WH{i j:Bool}:decide (V.bl i=V.bl j)=(i==j):=by
 rw[mV];simp
def OG:decide (V.str i=V.str j)=(i==j):=by
 rw[mV];simp
def OI{i j:Array UInt8}:decide (V.byt i=V.byt j)=(i.toList==j.toList):=by
 rw[mV];cases i;cases j;simp
section
variable{X:Cx}{a b c:Expr}{g l n:TE}{pos:Pos}
def gX{k d:Bool}(I:eG X pins σ H s)(q:Q (.bl k) H)(e:k=d):EP X pins σ Q (.bool d) s:=by
 subst e;exact⟨.bl k,H,I,Fc,q⟩
def jI:oU X (d9 .Eq) Iu:=by
 intro k s m H x y v u Q I f d h;obtain⟨hs,q⟩:=h
 cases x with
 |non=>
  cases f
  cases y with
  |non=>cases d;exact PySem.EqNone.eq_none_none (gX I q Fa)
  |bl j=>cases d;exact PySem.EqNone.eq_none_bool (gX I q Fa)
  |int j=>obtain⟨e,rfl⟩:=d;exact PySem.EqNone.eq_none_int (gX I q Fa)
  |str j=>obtain⟨e,rfl⟩:=d;exact PySem.EqNone.eq_none_str (gX I q Fa)
  |_=>exact a9 (show false=true from hs) bN
 |bl i=>
  cases f
  cases y with
  |non=>cases d;exact PySem.EqNone.eq_bool_none (gX I q Fa)
  |bl j=>cases d;exact eq_bool (gX I q WH)
  |str j=>obtain⟨e,rfl⟩:=d;exact PySem.EqMixed.eq_bool_str (gX I q Fa)
  |_=>exact a9 (show false=true from hs) bN
 |int i=>
  obtain⟨t,rfl⟩:=f
  cases y with
  |non=>cases d;exact PySem.EqNone.eq_int_none (gX I q Fa)
  |int j=>obtain⟨e,rfl⟩:=d;exact eq_int (gX I q OH)
  |str j=>obtain⟨e,rfl⟩:=d;exact PySem.EqMixed.eq_int_str (gX I q Fa)
  |_=>exact a9 (show false=true from hs) bN
 |str i=>
  obtain⟨t,rfl⟩:=f
  cases y with
  |non=>cases d;exact PySem.EqNone.eq_str_none (gX I q Fa)
  |bl j=>cases d;exact PySem.EqMixed.eq_str_bool (gX I q Fa)
  |int j=>obtain⟨e,rfl⟩:=d;exact PySem.EqMixed.eq_str_int (gX I q Fa)
  |str j=>obtain⟨e,rfl⟩:=d;exact eq_str (gX I q OG)
  |_=>exact a9 (show false=true from hs) bN
 |byt i=>
  obtain⟨t,rfl⟩:=f
  cases y with
  |byt j=>obtain⟨e,rfl⟩:=d;exact PySem.W.eq_bytes (gX I q OI)
  |_=>exact a9 (show false=true from hs) bN
 |_=>cases y<;>exact a9 (show false=true from hs) bN
def B0:oU X (d9 .NotEq) Iq:=by
 intro k s m H x y v u Q I f d h;obtain⟨hs,q⟩:=h
 cases x with
 |non=>
  cases f
  cases y with
  |non=>cases d;exact PySem.EqNone.ne_none_none (gX I q Fa)
  |bl j=>cases d;exact PySem.EqNone.ne_none_bool (gX I q Fa)
  |int j=>obtain⟨e,rfl⟩:=d;exact PySem.EqNone.ne_none_int (gX I q Fa)
  |str j=>obtain⟨e,rfl⟩:=d;exact PySem.EqNone.ne_none_str (gX I q Fa)
  |_=>exact a9 (show false=true from hs) bN
 |bl i=>
  cases f
  cases y with
  |non=>cases d;exact PySem.EqNone.ne_bool_none (gX I q Fa)
  |bl j=>cases d;exact ne_bool (gX I q (e7 not WH))
  |str j=>obtain⟨e,rfl⟩:=d;exact PySem.EqMixed.ne_bool_str (gX I q Fa)
  |_=>exact a9 (show false=true from hs) bN
 |int i=>
  obtain⟨t,rfl⟩:=f
  cases y with
  |non=>cases d;exact PySem.EqNone.ne_int_none (gX I q Fa)
  |int j=>obtain⟨e,rfl⟩:=d;exact ne_int (gX I q (e7 not OH))
  |str j=>obtain⟨e,rfl⟩:=d;exact PySem.EqMixed.ne_int_str (gX I q Fa)
  |_=>exact a9 (show false=true from hs) bN
 |str i=>
  obtain⟨t,rfl⟩:=f
  cases y with
  |non=>cases d;exact PySem.EqNone.ne_str_none (gX I q Fa)
  |bl j=>cases d;exact PySem.EqMixed.ne_str_bool (gX I q Fa)
  |int j=>obtain⟨e,rfl⟩:=d;exact PySem.EqMixed.ne_str_int (gX I q Fa)
  |str j=>obtain⟨e,rfl⟩:=d;exact ne_str (gX I q (e7 not OG))
  |_=>exact a9 (show false=true from hs) bN
 |byt i=>
  obtain⟨t,rfl⟩:=f
  cases y with
  |byt j=>obtain⟨e,rfl⟩:=d;exact PySem.W.ne_bytes (gX I q (e7 not OI))
  |_=>exact a9 (show false=true from hs) bN
 |_=>cases y<;>exact a9 (show false=true from hs) bN
def zP:oU X (d9 .Lt) (S0 λi j=>.bl (decide (i<j))):=ZC λ_ _ _ _ _ _ _ q=>lt_int q
def D7:oU X (d9 .LtE) (S0 λi j=>.bl (decide (i<=j))):=ZC λ_ _ _ _ _ _ _ q=>le_int q
def oG:oU X (d9 .Gt) (S0 λi j=>.bl (decide (j<i))):=ZC λ_ _ _ _ _ _ _ q=>gt_int q
def NX:oU X (d9 .GtE) (S0 λi j=>.bl (decide (j<=i))):=ZC λ_ _ _ _ _ _ _ q=>ge_int q
def P4:oU X (d9 .In) (λx y H Q=>∃i j,x=.str i/\y=.str j/\Q (.bl (!(v6 j i 0 j.length 1).isEmpty)) H):=by
 intro d s m H x y v u Q I e f h;obtain⟨i,j,rfl,rfl,q⟩:=h;obtain⟨t,rfl⟩:=e;obtain⟨k,rfl⟩:=f;exact in_str (gX I q Fc)
def Zy:oU X (d9 .Is) (λx y H Q=>y=.non/\Q (.bl (decide (x=.non))) H):=by
 intro d s i H x y v u Q I e f h;obtain⟨rfl,q⟩:=h;cases f;refine is_none_gen (gX I q ?_)
 cases x<;>first
  | (cases e;rfl)
  | (obtain⟨t,rfl⟩:=e;rfl)
def ZA:oU X (d9 .IsNot) (λx y H Q=>y=.non/\Q (.bl (!decide (x=.non))) H):=by
 intro d s i H x y v u Q I e f h;obtain⟨rfl,q⟩:=h;cases f;refine isnot_none_gen (gX I q ?_)
 cases x<;>first
  | (cases e;rfl)
  | (obtain⟨t,rfl⟩:=e;rfl)
def oU.or{f:Value->Value->Sem Value}{r e:R2}(h:oU X f r)(m:oU X f e):oU X f (λx y H Q=>r x y H Q\/e x y H Q):=by
 intro d s k H x y v u Q I i j q;rcases q with q | q
 ·exact h d s k H x y v u Q I i j q
 ·exact m d s k H x y v u Q I i j q
def LK(b:Expr)(h:autoParam (op≠.In) zzy._auto_1)(f:autoParam (op≠.NotIn) zzy._auto_1):z4 op b=false:=by
 have d:(op==CmpOp.In)=false:=by cases op<;>first | rfl | exact a9 Fc h
 have e:(op==CmpOp.NotIn)=false:=by cases op<;>first | rfl | exact a9 Fc f
 cases b<;>simp[z4,d,e]
def Y9(m:oU X (d9 op) r)(i:PE X a g)(j:PE X b l)(k:z4 op b=false):PE X (.Compare a [op] [b] pos) (Fn r g l):=by
 intro d s w H Q I h;exact wpAny_Compare1 (Ha i j I h λv u t x y e f o p q=>m d t w e x y v u Q f o p q) k
def Lz(t:TE):TT:=λe H Q=>t e H λx d=>∃k,x=.bl k/\Q k d
def FX(A:oU X (d9 op) r)(q:PE X a g)(t:PE X b l)(w:z4 op b=false):PT X (.Compare a [op] [b] pos) (Lz (Fn r g l)):=by
 intro d s f H Q I h
 refine wpAny_isTrue_Compare1 (jR (q d s f H _ I h) λv J ⟨x,i,m,E,q1⟩=>jR (t d J f i _ m q1) λu K ⟨y,j,o,F,B⟩=>
  jR (A d K f j x y v u _ o E F B) λc s3 ⟨z,H3,p,G,k,e,C⟩=>?_) w
 subst e;cases G;exact w5 ⟨H3,p,C⟩
def SA(r i:R2)(g l n:TE):TE:=λd H Q=>g d H λx e=>l d e λy f=>r x y f λz H3=>∃k,z=.bl k /\
 (if k=true then n d H3 λj h=>i y j h Q else Q (.bl false) H3)
def S4(O:oU X (d9 op) r)(j:oU X (d9 op') r')(K:PE X a g)(L:PE X b l)(M:PE X c n)
  (N:autoParam (lastMarks [op,op'] [b,c]=false) zzo._auto_1):PT X (.Compare a [op,op'] [b,c] pos) (Lz (SA r r' g l n)):=by
 intro f s i H Q I h
 refine isTrue_chain (jR (K f s i H _ I h) λv s1 ⟨x,q,B,U,q1⟩=>test_link (jR (L f s1 i q _ B q1) λu s2 ⟨y,t,C,p,R⟩=>
  jR (O f s2 i t x y v u _ C U p R) λd s3 ⟨z,H3,m,W,k,e,o⟩=>?_)) N
 subst e;cases W;refine w5 ?_
 cases k with
 |false=>
  obtain⟨k',G,P⟩:=o;cases G;exact ite_ff ⟨H3,m,P⟩
 |true=>
  refine ite_tt (test_last (jR (M f s3 i H3 _ m o) λw' s4 ⟨z',w,E,Y,S⟩=>jR (j f s4 i w y z' u w' _ E p Y S) λd' s5 zq=>?_));obtain⟨z2,A,F,Z,k2,J,T⟩:=zq;subst J;cases Z;exact w5 ⟨A,F,T⟩
def Gz(K:aM)(x:V)(H:Hp)(k:Bool):Prop:=
 match x with
 |.non=>k=false
 |.bl b=>k=b
 |.int i=>k=(i != 0)
 |.str y=>y.length<=bO/\k=((y.length:Int) != 0)
 |.byt y=>y.size<=bO/\k=((y.size:Int) != 0)
 |.ref p=>(∃e,lU K H p e/\k=!e.isEmpty)\/(∃e,rO K H p e/\k=!e.isEmpty)\/∃d,H p=some (.dK d)/\k=!d.isEmpty
 |_=>False
def LX{e:Type}{d:List (e×V)}{vs:List (e×Value)}(r:KV d vs):(!vs.isEmpty)=!d.isEmpty:=by
 cases r<;>rfl
def B9{e:List V}{d:List Value}(r:gM e d):(!d.toArray.isEmpty)=!e.isEmpty:=by
 cases r<;>simp
def yS:(bO:Nat)<2^63:=by rw[w6];decide
def aC3:No X (λx H Q=>∃k,Gz X.K x H k/\Q k H):=by
 intro E s L H x v Q I u h;obtain⟨k,e,q⟩:=h;have J:=yS;have hs:bO=16777216:=w6
 cases x with
 |non=>
  cases u;have d:k=false:=e;subst d;exact truthy_none ⟨H,I,q⟩
 |bl b=>
  cases u;have d:k=b:=e;subst d;exact w5 ⟨H,I,q⟩
 |int i=>
  obtain⟨t,rfl⟩:=u;have d:k=(i != 0):=e;subst d;exact PySem.P.truthy_int ⟨H,I,q⟩
 |str y=>
  obtain⟨t,rfl⟩:=u;obtain⟨G,d⟩:y.length<=bO/\k=((y.length:Int) != 0):=e;subst d;exact PySem.P.truthy_str Ez ⟨H,I.tok _,q⟩
 |byt y=>
  obtain⟨t,rfl⟩:=u;obtain⟨G,d⟩:y.size<=bO/\k=((y.size:Int) != 0):=e;subst d;exact PySem.W.truthy_bytes Ez ⟨H,I.tok _,q⟩
 |ref p=>
  cases u;have d:(∃o,lU X.K H p o/\k=!o.isEmpty)\/(∃o,rO X.K H p o/\k=!o.isEmpty)\/∃f,H p=some (.dK f)/\k=!f.isEmpty:=e;rcases d with⟨o,z,d⟩ | ⟨o,z,d⟩ | ⟨f,z,d⟩
  ·subst d;obtain⟨A,r,B,C⟩:=I.list z;have j:=r.length;exact wpAny_truthy_list B.isList (by simp only[bJ];lia) ⟨H,I.tok _,by rw[B9 r];exact q⟩
  ·subst d;obtain⟨A,r,B,C⟩:=I.tuple z;have j:=r.length;exact truthy_tuple B (by simp only[bJ];lia) ⟨H,I.tok _,by rw[B9 r];exact q⟩
  ·subst d;obtain⟨C,F,vs,r,m⟩:f.length<=bO/\(p==m7)=false/\∃vs,KV f vs/\s.heap.DictOf (F8 X.prog X.w) p vs:=I.hok p _ z;have j:f.length=vs.length:=g7 r;exact wpAny_truthy_dict F m Ez ⟨H,I.tok _,by rw[LX r];exact q⟩
 |_=>exact(show False from e).elim
def S3(o:PE X a g)(p:∀d,isTrue a X.env d=(do let v <- d;uo a.pos;jb [v] (truthy v))) :
  PT X a (λf H Q=>g f H λx i=>∃k,Gz X.K x i k/\Q k i):=by
 intro e s f H Q I h;exact isTrue_plain (jR (o e s f H _ I h) λv r ⟨x,j,m,q,q1⟩=>aC3 e r f j x v Q m q q1) (p _)
def LF:oU X (m3 .Add) (λx y H Q=>∃i j,x=.str i/\y=.str j/\i.length+j.length<=bO/\Q (.str (i++j)) H):=by
 intro d s p H x y v u Q I f k h;obtain⟨i,j,rfl,rfl,e,q⟩:=h;obtain⟨t,rfl⟩:=f;obtain⟨m,rfl⟩:=k;exact add_str (λm o=>⟨.str (i++j),H,I.tok _,⟨_,Fc⟩,q⟩) e
def oB(r:gM [x] us):∃u,us=[u]/\iL x u:=by
 cases r with
 |cons d e=>cases e;exact⟨_,Fc,d⟩
def M7(r:gM [x,y] us):∃u d,us=[u,d]/\iL x u/\iL y d:=by
 cases r with
 |cons e f=>
  cases f with
  |cons h i=>cases i;exact⟨_,_,Fc,e,h⟩
def Q3(m:X.calm=true):kO X (.builtin "max") (λf H Q=>∃i j,f=[.int i,.int j]/\Q (.int (if j>i then j else i)) H):=by
 intro e s y H f w Q I r h;obtain⟨i,j,rfl,q⟩:=h;obtain⟨u,x,rfl,⟨t,rfl⟩,⟨p,rfl⟩⟩:=M7 r;refine max_two_ints (I.ok.hd m) λo v k=>⟨_,H,I.kept k,?_,q⟩;by_cases d:j>i
 ·rw[a7 d,a7 d];exact⟨_,Fc⟩
 ·rw[a6 d,a6 d];exact⟨_,Fc⟩
def Q2(m:X.calm=true):kO X (.builtin "min") (λf H Q=>∃i j,f=[.int i,.int j]/\Q (.int (if j<i then j else i)) H):=by
 intro e s y H f w Q I r h;obtain⟨i,j,rfl,q⟩:=h;obtain⟨u,x,rfl,⟨t,rfl⟩,⟨p,rfl⟩⟩:=M7 r;refine min_two_ints (I.ok.hd m) λo v k=>⟨_,H,I.kept k,?_,q⟩;by_cases d:j<i
 ·rw[a7 d,a7 d];exact⟨_,Fc⟩
 ·rw[a6 d,a6 d];exact⟨_,Fc⟩
def nV:kO X (.type "int") (λd H Q=>(∃i,d=[.int i]/\Q (.int i) H)\/∃k,d=[.bl k]/\Q (.int (if k then 1 else 0)) H):=by
 intro e s m H d j Q I r h;rcases h with⟨i,rfl,q⟩ | ⟨k,rfl,q⟩
 ·obtain⟨u,rfl,t,rfl⟩:=oB r;exact call_int_int ⟨.int i,H,I,⟨_,Fc⟩,q⟩
 ·obtain⟨u,rfl,f⟩:=oB r;cases f;exact call_int_bool ⟨.int (if k then 1 else 0),H,I.tok _,⟨_,Fc⟩,q⟩
end
structure MS(h:Heap)(x dx C:Addr)(mA:Str->Option Value):Prop where
 obj:h.get? x=some (jQ C dx)
 ns:h.Ns1 dx mA
 ne:dx≠x
def QE{h:Heap}{c:Addr}{f:Str->Option Value}(n:h.Ns1 c f):∃g,h.get? c=some g/\∀name,uJ name g=some (f name):=by
 obtain⟨o,d,m,k,hd,hk,_,j⟩:=n;refine⟨o,k,λname=>?_⟩;have e:=j name;unfold nsFind findBy at e;rw[<- Array.find?_toList]at e;unfold uJ;rw[hd];dsimp only;split
 ·rename_i y q;rw[q]at e;exact e7 some e
 ·rename_i q;rw[q]at e
  have a:d.toList.any (·.refKey)=false:=by
   rw[W8];intro y l;obtain⟨z,t,b⟩:=hk y (Array.mem_toList_iff.mp l);simp[DictEntry.refKey,b]
  have i:¬d.toList.any (·.refKey)=true:=by rw[a];exact bN
  rw[a6 i];exact e7 some e
def MS.look{h}{x b C:Addr}{c:Str->Option Value}(I:MS h x b C c):∃a,lH h x (jQ C b) C (some a)/\∀name,uJ name a=some (c name):=
 let ⟨a,ho,hl⟩:=QE I.ns
 ⟨a,⟨I.obj,Fc,Fc,ho⟩,hl⟩
section
variable{prog:cN}{w:c7}{A:d0}{E:Value->Shared->Prop}{s:Shared}{K:aM}{x c C f:Addr}{e:Str->Option Value}{name:Str}{v:Value}
def Z8{a:Bool}{Q:Value->Shared->Prop}(X:K.In s.heap)(I:MS s.heap x c C e)(g:rJ K C name=true)(i:xX K C=true)
  (d:fY K (.ref C) name=some none) (k:e name=some v) (b:RE v=true) (h:Q v { s with toks:=s.toks+1 }) :
  wpAny (model prog w) A (getAttr (.ref x) name a) Q E s:=by
 obtain⟨l,J,j⟩:=I.look;exact PySem.W.get_value X J (vG g).1 (PySem.W.findObj_own i d Fc (by rw[j,k])) b h
def VW{Q:Value×List Value->Shared->Prop}(X:K.In s.heap)(I:MS s.heap x c C e)(a:rJ K C name=true)
  (b:fY K (.ref C) name=some (some (.ref f))) (g:G5 K (.ref f)=true) (i:e name=none) (h:Q (.ref f,[.ref x]) s) :
  wpAny (model prog w) A (getMethod (.ref x) name pl) Q E s:=by
 obtain⟨j,J,d⟩:=I.look;exact PySem.W.method_fn X J (vG a).1 (vG a).2 b (beq_iff_eq.mp g) (by show(uJ name j).map (·.isSome)=some false;rw[d,i];rfl) h
def YM{ns:List Str}{Q:Unit->Shared->Prop}(X:K.In s.heap)(I:MS s.heap x c C e)
  (hs:fY K (.ref C) "__setattr__"=some (some (.builtin "object.__setattr__"))) (t:OU K C=true) (z:AK K C name=some none) (q:xX K C=true)
  (hw:fv e ns) (u:ns.length<=bO)
  (h:∀i,MS i x c C (λy=>if y=name then some v else e y)->cV c s.heap i->Q () { s with heap:=i,toks:=s.toks+2 }) :
  wpAny (model prog w) A (setAttr (.ref x) name v) Q E s:=by
 obtain⟨H,J,F⟩:=I.look;refine PySem.W.set_plain X J hs (PySem.W.osa_open (s:={ s with toks:=s.toks+1 }) (r:=none) X J t z λb=>?_);obtain⟨cd,p,k⟩:=PySem.W.any_some q;have B:s.heap.get? x=some ⟨.ref C,some c,.plain,#[]⟩:=I.obj;refine aB (aG (aB (aB (wpAny_loadPart B (aB (PySem.W.Looks.here (s:={ s with toks:=s.toks+1 }) (PySem.W.looks_clsIn X p) ?_))))));rw[k];refine aG (a:=some c) (aB (aG (aB ?_)));refine wpAny_nsSet1 (s:={ s with toks:=s.toks+1 }) I.ns λi d g=>?_;obtain⟨G,o,n,m,l,j⟩:=d.count (PySem.Within.cons name v hw);refine aB (wpAny_lookBehind m (by rw[l];exact pastItsLine_dict (bG j (by rw[dB];lia))) ?_);exact aG (h _ ⟨(g.2 _ (l5 I.ne)).trans I.obj,d,I.ne⟩ g)
def UZ{R:Result->Shared->Prop}(X:K.In s.heap)(i:RN K C=true)
  (b:fY K (.ref C) "__init__"=some (some (.ref f))) (a:PySem.W.typeIn K (.ref f)=some (.type "function"))
  (h:z8 (model prog w) (A.under (.builtin "type.__call__" ⟨.ref C::vs,kw⟩)) (.call (.ref f) ⟨.ref (s.heap.objs.size+1)::vs,kw⟩) (PySem.W.InitBack (s.heap.objs.size+1) R)
   { s with heap:=(s.heap.push iE).push (jQ C s.heap.objs.size) }) :
  z8 (model prog w) A (.call (.ref C) ⟨vs,kw⟩) R s:=by
 obtain⟨j,g,d,t,os⟩:=s;exact PySem.W.make_core (PySem.W.makes_of X i) (oI X b) (λself=>PySem.W.bind_fn X self a) (.inl Fc) h
end
noncomputable def qG(f:Str)(v:V):List (Str×V)->List (Str×V)
|[]=>[(f,v)]
| (g,x)::r=>if g=f then(g,v)::r else(g,x)::qG f v r
theorem zR(f g:Str)(v:V):∀fs:List (Str×V),(qG f v fs).lookup g=if g=f then some v else fs.lookup g
|[]=>by
 show nI g [(f,v)]=_;by_cases h:g=f
 ·have a:(g==f)=true:=beq_iff_eq.mpr h;simp only[nI,a,a7 h]
 ·have a:(g==f)=false:=beq_eq_false_iff_ne.mpr h;simp only[nI,a,a6 h]
| (k,x)::r=>by
 have b:=zR f g v r;rw[show qG f v ((k,x)::r)=(if k=f then(k,v)::r else(k,x)::qG f v r)from rfl];by_cases hk:k=f
 ·rw[a7 hk];by_cases h:g=k
  ·have a:(g==k)=true:=beq_iff_eq.mpr h;simp only[nI,a,a7 (h.trans hk)]
  ·have a:(g==k)=false:=beq_eq_false_iff_ne.mpr h;simp only[nI,a,a6 (λe:g=f=>h (e.trans hk.symm))]
 ·rw[a6 hk];by_cases h:g=k
  ·have a:(g==k)=true:=beq_iff_eq.mpr h;simp only[nI,a,a6 (λe:g=f=>hk (h.symm.trans e))]
  ·have a:(g==k)=false:=beq_eq_false_iff_ne.mpr h;simp only[nI,a];exact b
theorem yT(f:Str)(v:V):∀fs:List (Str×V),f∈(qG f v fs).map (·.1)/\∀g,g∈fs.map (·.1)->g∈(qG f v fs).map (·.1)
|[]=>⟨by simp[qG],λg h=>by simp at h⟩
| (k,x)::r=>by
 obtain⟨a,b⟩:=yT f v r;rw[show qG f v ((k,x)::r)=(if k=f then(k,v)::r else(k,x)::qG f v r)from rfl];by_cases hk:k=f
 ·rw[a7 hk];subst hk;exact⟨Fa,λg h=>by simpa using h⟩
 ·rw[a6 hk];refine⟨?_,λg h=>?_⟩
  ·rw[bE];exact aO _ a
  ·rw[bE]at h |-
   rcases aY.mp h with e | e
   ·exact aY.mpr (.inl e)
   ·exact aO _ (b g e)
theorem zT(f:Str)(v:V):∀fs:List (Str×V),(qG f v fs).length<=fs.length+1
|[]=>by simp[qG]
| (k,x)::r=>by
 have a:=zT f v r;rw[show qG f v ((k,x)::r)=(if k=f then(k,v)::r else(k,x)::qG f v r)from rfl];by_cases hk:k=f
 ·rw[a7 hk,dB,dB];lia
 ·rw[a6 hk,dB,dB];lia
def DN.some_of(r:DN (some v) o):∃u,o=some u/\iL v u:=by
 cases o with
 |none=>exact(show False from r).elim
 |some u=>exact⟨u,Fc,r⟩
def DN.none_of(r:DN none o):o=none:=by
 cases o with
 |none=>rfl
 |some u=>exact(show False from r).elim
def QP(r:iL v u):RE u=true:=by
 cases v with
 |non=>cases (show u=d8 from r);rfl
 |bl b=>cases (show u=u6 b from r);rfl
 |int i=>obtain⟨t,e⟩:=(show∃t,u=i3 i t from r);cases e;rfl
 |str x=>obtain⟨t,e⟩:=(show∃t,u=fi x t from r);cases e;rfl
 |byt b=>obtain⟨t,e⟩:=(show∃t,u=Value.bytes b t from r);cases e;rfl
 |flt b=>obtain⟨t,e⟩:=(show∃t,u=gi b t from r);cases e;rfl
 |ref a=>cases (show u=c8 a from r);rfl
 |ty n=>cases (show u=j8 n from r);rfl
section
variable{P:cN}{w:c7}{H:Hp}{h:Heap}{a C b:Addr}{fs:List (Str×V)}
def A6(hok:vN P w H h)(e:H a=some (.ins C b fs)):∃c,MS h a b C c/\(∀f,DN (fs.lookup f) (c f))/\fv c (fs.map (·.1))/\fs.length<=1000/\H b=some (.own a):=by
 obtain⟨d,z,ne,ob,c,n,r,q⟩:=(show jY P w H h a (.ins C b fs)from hok a _ e);exact⟨c,⟨ob,n,ne⟩,r,q,z,d⟩
end
structure RM(K:aM)(C:Addr):Prop where
 pg:rJ K C Str.empty=true
 hd:xX K C=true
 po:OU K C=true
 sa:fY K (.ref C) "__setattr__"=some (some (.builtin "object.__setattr__"))
def RM.get{K}{C:Addr}(c:RM K C)(f:Str):rJ K C f=true:=c.pg
def nE(K:aM)(C:Addr)(f:Str):Prop:=fY K (.ref C) f=some none
def nE.taker{K}{C:Addr}(n:nE K C f):AK K C f=some none:=by
 unfold AK;rw[show fY K (.ref C) f=some none from n]
 rfl
structure aA2(K:aM)(C:Addr)(m:Str)(f:Addr):Prop where
 at_:fY K (.ref C) m=some (some (.ref f))
 fn:G5 K (.ref f)=true
 kp:iD K (.ref f)=true
section
variable{X:Cx}{d:List (Addr×Obj)}{i:St}{H:Hp}{s:Shared}{a C j:Addr}{fs:List (Str×V)}{f:Str}{v:V}{A:d0}{E:Value->Shared->Prop}
def L4{b:Bool}{Q:Value->Shared->Prop}(I:eG X d i H s)(e:H a=some (.ins C j fs))(c:RM X.K C)(n:nE X.K C f)(l:fs.lookup f=some v)
  (h:∀u k,eG X d i H k->iL v u->Q u k):wpAny (model X.prog X.w) A (getAttr (.ref a) f b) Q E s:=by
 obtain⟨p,O,r,_,_,_⟩:=A6 I.hok e;obtain⟨u,m,g⟩:=DN.some_of (v:=v) (o:=p f) (by rw[<- l];exact r f);exact Z8 I.kIn O (c.get f) c.hd n m (QP g) (h u _ (I.tok _) g)
def L3{g:Addr}{Q:Value×List Value->Shared->Prop}(I:eG X d i H s)(e:H a=some (.ins C j fs))(c:RM X.K C)(k:aA2 X.K C m g)(l:fs.lookup m=none)
  (h:Q (.ref g,[.ref a]) s):wpAny (model X.prog X.w) A (getMethod (.ref a) m pl) Q E s:=by
 obtain⟨n,O,r,_,_,_⟩:=A6 I.hok e;have b:n m=none:=DN.none_of (by rw[<- l];exact r m);exact VW I.kIn O (c.get m) k.at_ k.fn b h
def K3{Q:Unit->Shared->Prop}(I:eG X d i H s)(e:H a=some (.ins C j fs))(c:RM X.K C)(n:nE X.K C f)(N:fs.length<1000)(L:iL y u)
  (h:∀p,eG X d i (gG H a (.ins C j (qG f y fs))) p->Q () p):wpAny (model X.prog X.w) A (setAttr (.ref a) f u) Q E s:=by
 obtain⟨m,O,r,t,_,l⟩:=A6 I.hok e;have J:(fs.map (·.1)).length<=bO:=by rw[aC,w6];lia
 refine YM I.kIn O c.sa c.po n.taker c.hd t J λB k M=>h _ ?_;have hd:∃o,B.get? j=some o:=let ⟨o,_,_,e',_⟩:=k.ns;⟨o,e'⟩
 refine I.write (x:=a) (e:=j) (by rw[e];exact i6) (.inr l) (λb q F z=>(M.2 b F).trans z) hd ?_;refine⟨by rw[cO O.ne];exact l,?_,O.ne,k.obj,_,k.ns,λg=>?_,λg G=>?_⟩
 ·have:=zT f y fs;lia
 ·show DN ((qG f y fs).lookup g) (if g=f then some u else m g);rw[zR];by_cases q:g=f
  ·rw[a7 q,a7 q];exact L
  ·rw[a6 q,a6 q];exact r g
 ·by_cases q:g=f
  ·rw[q];exact(yT f y fs).1
  ·refine(yT f y fs).2 g (t g λz=>G ?_);show(if g=f then some u else m g)=none;rw[a6 q];exact z
def eG.made(I:eG X d i H s):eG X d i (gG (gG H s.heap.objs.size (.own (s.heap.objs.size+1))) (s.heap.objs.size+1) (.ins C s.heap.objs.size []))
  { s with heap:=(s.heap.push iE).push (jQ C s.heap.objs.size) }:=by
 have c:(s.heap.push iE).get? s.heap.objs.size=some iE:=aW s.heap Fc
 have h:((s.heap.push iE).push (jQ C s.heap.objs.size)).get? (s.heap.objs.size+1)=some (jQ C s.heap.objs.size):=by
  have:=aW (s.heap.push iE) (o:=jQ C s.heap.objs.size) Fc
  rwa [eV]at this
 have k:(s.heap.push iE).Ns s.heap.objs.size (λ_=>none):=⟨iE,#[],_,c,Fc,(λe l=>a9 l Fa),λ_=>rfl⟩;have g:=I.laid (a:=s.heap.objs.size) (o:=.own (s.heap.objs.size+1)) (h':=s.heap.push iE) (t':=s.toks) (λb u q=>aJ _ q) (aN _) ⟨_,c⟩;refine g.laid (a:=s.heap.objs.size+1) (o:=.ins C s.heap.objs.size []) (t':=s.toks) (λb u q=>aJ _ q) (nW (eV _ _)) ?_;have ne:s.heap.objs.size≠s.heap.objs.size+1:=bS (fA _);refine⟨by rw[cO ne,cW],cI _,ne,h,λ_=>none,(Heap.Ns1.of_empty k).at λo q=>aJ _ q,λ_=>i6,λy m=>a9 Fc m⟩
def aAv{f s}{Q:Value->Shared->Prop}(c:v4 e f env (eval e env)=eval e env)
  (h:wpAny (model prog w) A (eval e env) (λo b=>wpAny (model prog w) A (getAttr o f true) Q E b) E s):wpAny (model prog w) A (eval (.Attribute e f pos) env) Q E s:=
 Attribute_any_ h (by rw[arm_eval_Attribute,c])
end
def Pn(K:aM)(d:TE)(f:Str):TE:=λe H Q=>d e H λx b=>∃a C c fs v,x=.ref a/\b a=some (.ins C c fs)/\RM K C/\nE K C f/\fs.lookup f=some v/\Q v b
def Og(K:aM)(g tv:TE)(f:Str):TS:=λD b H=>tv b H λy e=>g b e λx c=>∃a C d fs,x=.ref a/\c a=some (.ins C d fs)/\RM K C/\nE K C f/\fs.length<1000 /\
 D.nx b (gG c a (.ins C d (qG f y fs)))
section
variable{X:Cx}{o e b:Expr}{f:Str}{pos d:Pos}{g tv:TE}
def aD4(t:PE X e g)(r:v4 e f X.env (eval e X.env)=eval e X.env):PE X (.Attribute e f pos) (Pn X.K g f):=by
 intro i s A H Q I h;refine aAv r (jR (t i s A H _ I h) λu E z=>?_);obtain⟨x,j,k,y,a,C,B,fs,v,ex,p,c,n,l,q⟩:=z;subst ex;obtain rfl:u=c8 a:=y;exact L4 k p c n l λG F m w=>⟨v,j,m,w,q⟩
def Zg(v:PE X o g)(w:PE X b tv)(hs:jH b (some (.Attribute o f d)) pos.line X.env=pure false):PS X (.Assign [.Attribute o f d] b pos) (Og X.K g tv f):=by
 intro i s j H D I h;refine plainObj_wpAny_Assign_Attribute (jR (w i s j H _ I h) λu F ⟨y,k,m,E,q⟩=>jR (v i F j k _ m q) λz M G=>?_) hs;obtain⟨x,J,p,B,a,C,L,fs,ex,t,c,n,l,A⟩:=G;subst ex;obtain rfl:z=c8 a:=B;exact K3 p t c n l E λs3 r=>⟨j,_,r,A⟩
end
section
variable{X:Cx}{d:List (Addr×Obj)}{f:St}{H:Hp}{s:Shared}{A:d0}{E:Value->Shared->Prop}{Q:Value->Shared->Prop}{c:Value}{b:Bool}
inductive AG(K:aM)(H:Hp):V->Value->Prop where
|non:AG K H .non (.type "NoneType")
|bl (x:Bool):AG K H (.bl x) (.type "bool")
|int (i:Int):AG K H (.int i) (.type "int")
|str (x:Str):AG K H (.str x) (.type "str")
|flt (x:UInt64):AG K H (.flt x) (.type "float")
|lst {a:Addr} {xs:List V} (e:H a=some (.lst xs)):AG K H (.ref a) (.type "list")
|frz {a:Addr} {o:Obj} {xs:List V} (e:H a=some (.frz o (.lst xs))):AG K H (.ref a) (.type "list")
|tup {a:Addr} {xs:List V} (e:H a=some (.tup xs)):AG K H (.ref a) (.type "tuple")
|dK {a:Addr} {kvs:List (BC×V)} (e:H a=some (.dK kvs)):AG K H (.ref a) (.type "dict")
|dT {a:Addr} {kvs:List (List BC×V)} (e:H a=some (.dT kvs)):AG K H (.ref a) (.type "dict")
|ins {a C dx:Addr} {fs:List (Str×V)} (e:H a=some (.ins C dx fs)) (cl:RM K C) (ha:fY K (.ref C) "__class__"=some (some (.builtin "object.__class__")))
  (hn:PySem.W.specialIn K (.builtin "object.__class__") "__get__"=some (some (.builtin "getset_descriptor.__get__"))) (xh:PySem.W.takesIn K (.builtin "object.__class__")=some true)
  (hm:DQ K C (.type "object")=some true):AG K H (.ref a) (.ref C)
def uX(I:eG X d f H s)(g:iL x u)(ty:AG X.K H x t)(e:lG X.K t c=some b)(h:∀v,Q (.bool b) { s with toks:=v }) :
  wpAny (model X.prog X.w) A (call (.builtin "isinstance") [u,c]) Q E s:=by
 cases ty with
 |non=>cases (show u=d8 from g);exact fH PySem.W.kitx_none I.kIn i6 e (λz=>nomatch z) h
 |bl y=>cases (show u=u6 y from g);exact fH PySem.W.kitx_bool I.kIn i6 e (λz=>nomatch z) h
 |int i=>obtain⟨t,q⟩:=(show∃t,u=i3 i t from g);cases q;exact fH PySem.W.kitx_int I.kIn i6 e (λz=>nomatch z) h
 |str y=>obtain⟨t,q⟩:=(show∃t,u=fi y t from g);cases q;exact fH PySem.W.kitx_str I.kIn i6 e (λz=>nomatch z) h
 |flt y=>obtain⟨t,q⟩:=(show∃t,u=gi y t from g);cases q;exact fH PySem.W.kitx_float I.kIn i6 e (λz=>nomatch z) h
 |@lst a k ea=>
  cases (show u=c8 a from g);obtain⟨_,_,n,_,j⟩:=(show jY X.prog X.w H s.heap a (.lst k)from I.hok a _ ea);exact fH qC I.kIn ⟨_,j,Fc⟩ e (λz=>nomatch z) h
 |@frz a ob k ea=>
  cases (show u=c8 a from g);obtain⟨_,_,_,n,_,j⟩:=(show jY X.prog X.w H s.heap a (.frz ob (.lst k))from I.hok a _ ea);exact fH qC I.kIn ⟨_,j,Fc⟩ e (λz=>nomatch z) h
 |@tup a k ea=>
  cases (show u=c8 a from g);obtain⟨_,_,_,p⟩:=(show jY X.prog X.w H s.heap a (.tup k)from I.hok a _ ea);obtain⟨o,j,l,_⟩:=p;exact fH MX I.kIn ⟨o,j,l⟩ e (λz=>nomatch z) h
 |@dK a kvs ea=>
  cases (show u=c8 a from g);obtain⟨_,_,vs,_,p⟩:=(show jY X.prog X.w H s.heap a (.dK kvs)from I.hok a _ ea);obtain⟨o,r,m,j,l,_⟩:=p;exact fH OV I.kIn ⟨o,j,l.1⟩ e (λz=>nomatch z) h
 |@dT a kvs ea=>
  cases (show u=c8 a from g);obtain⟨_,_,k,_,o,r,m,j,l,_⟩:=(show jY X.prog X.w H s.heap a (.dT kvs)from I.hok a _ ea);exact fH OV I.kIn ⟨o,j,l.1⟩ e (λz=>nomatch z) h
 |@ins a C dx fs ea cl ha hn xh hm=>
  cases (show u=c8 a from g);obtain⟨B,O,_⟩:=A6 I.hok ea;obtain⟨F,J,_⟩:=O.look;exact fH (PySem.W.kitx_own (cl.get _) cl.hd ha hn xh hm) I.kIn J e (λz=>nomatch z) h
end
structure Room(k:Nat)(A:d0):Prop where
 hd:A.handled=none
 dp:A.depth+3*k+5<cr
 un:A.units+16*k+200<u7
 gd:A.guards=some []
def Room.mono{j k:Nat}(r:Room k A)(h:j<=k):Room j A:=⟨r.hd,by have:=r.dp;lia,by have:=r.un;lia,r.gd⟩
theorem Room.deeper{k:Nat}{A:d0}(r:Room (k+1) A)(env:Env):Room k (A.deeper env):=
 ⟨r.hd,by have:=r.dp;show A.depth+1+3*k+5<_;lia,by have:=r.un;show A.units+3+16*k+200<_;lia,r.gd⟩
theorem Room.in1{k:Nat}{A:d0}(r:Room (k+1) A):Room k A.in1:=
 ⟨r.hd,by have:=r.dp;show A.depth+3*k+5<_;lia,by have:=r.un;show A.units+1+16*k+200<_;lia,r.gd⟩
def LQ{A:d0}{C:Addr}:(A.under (.builtin "type.__call__" ⟨.ref C::us,kw⟩)).depth=A.depth+1:=by
 first | rfl | simp[ci,Code.weight,Code.isCreation,Code.isGuard,Code.isCaller,Code.frames,ge,guardIds]
def LP{A:d0}{C:Addr}:(A.under (.builtin "type.__call__" ⟨.ref C::us,kw⟩)).units=A.units+1:=by
 first | rfl | simp[ci,Code.cUnits,Code.frames,ge]
def Room.make{k:Nat}{A:d0}(r:Room (k+1) A)(C:Addr)(b:List Value)(a:List (Str×Value)):Room k (A.under (.builtin "type.__call__" ⟨.ref C::b,a⟩)):=
 ⟨r.hd,by have:=r.dp;rw[LQ];lia,by have:=r.un;rw[LP];lia,by first | exact r.gd | (simp[ci,Code.isGuard,guardIds];exact r.gd)⟩
theorem Room.depth{k:Nat}{A:d0}(r:Room k A):A.depth<cr:=by have:=r.dp;lia
def BJ:TA:=λ_ H Q=>Q [] H
def sN(d:TE)(tr:TA):TA:=λa H Q=>d a H λx b=>tr a b λe c=>Q (x::e) c
section
variable{X:Cx}{e:Expr}{a:List Expr}{c:TE}{t:TA}{pos:Pos}
def lD:PA X [] BJ:=λ_ _ _ _ H Q I h=>Calls.spliced_nil ⟨[],H,I,.nil,h⟩
def jC(k:PE X e c)(l:PA X a t)(hs:autoParam (cD (e::a) X.env=(false,eval e X.env)::cD a X.env) zzz._auto_1):PA X (e::a) (sN c t):=by
 intro pos b s d H Q I h;rw[hs];show wpAny _ _ (spliced ((false,eval e X.env)::k9 pos (cD a X.env))) _ _ s;refine Calls.spliced_cons (jR (k b s d H _ I h) λu p r=>?_);obtain⟨x,f,i,n,q1⟩:=r;exact jR (l pos b p d f _ i q1) λw v ⟨q,g,j,o,m⟩=>⟨x::q,g,j,.cons n o,m⟩
def Pf(t:TA):TE:=λf H Q=>t f H λd b=>d.length<=bO/\∀p,b p=none->Q (.ref p) (gG b p (.tup d))
def Pp(t:TA):TE:=λf H Q=>t f H λd b=>d.length<=bO/\∀p,b p=none->Q (.ref p) (gG b p (.lst d))
def TK(h:PA X a t):PE X (.Tuple a x1 pos) (Pf t):=by
 intro d s n H Q I k;refine wpAny_Tuple_spliced (jR (h pos d s n H _ I k) λl f ⟨m,g,i,r,z,q⟩=>⟨by rw[<- r.length];exact z,?_⟩);have j:g f.heap.objs.size=none:=i.hok.fresh (aN _);refine⟨.ref f.heap.objs.size,gG g f.heap.objs.size (.tup m),i.laid (t':=f.toks) (λb u e=>aJ _ e) (aN _) ?_,Fc,q _ j⟩;exact⟨z,l,r,⟨_,aW _ Fc,Fc,_,Fc,Fc⟩⟩
def LD(h:PA X a t):PE X (.List a pos) (Pp t):=by
 intro d s n H Q I k;refine wpAny_List_spliced (jR (h pos d s n H _ I k) λl f ⟨m,g,i,r,z,q⟩=>⟨by rw[<- r.length];exact z,?_⟩);have j:g f.heap.objs.size=none:=i.hok.fresh (aN _);refine⟨.ref f.heap.objs.size,gG g f.heap.objs.size (.lst m),i.laid (t':=f.toks) (λb u e=>aJ _ e) (aN _) ?_,Fc,q _ j⟩;exact⟨z,l,0,r,aW _ Fc⟩
end
abbrev Sp:=List V->Hp->VK->XK->Prop
abbrev XH:=List Env->Hp->Shared->XK->Value->Shared->Prop
structure MU(P:cN)(w:c7)(K:aM)(mg:Str->Option Value)(base:Heap)(A:d0)(outer:List Env)(s:Shared)(H:Hp):Prop where
 frames:A.frames=some outer
 mod:Mod K mg base
 bs:∀b o,base.get? b=some o->s.heap.get? b=some o/\H b=none
 bsz:base.objs.size<=s.heap.objs.size
 funs:s.heap.FunFrames base outer
 frf:∀b∈JR outer,H b=none
 hok:vN P w H s.heap
 bare:bh s.gens
 tab:Tb H
def CE(outer:List Env)(P:cN)(w:c7)(H:Hp)(s:Shared)(Q:VK)(u:Value)(a:Shared):Prop:=
 ∃v b,a.os=s.os/\bh a.gens/\Un (JR outer) [] H b s.heap a.heap/\vN P w b a.heap/\iL v u/\Q v b
def CR(b:XH)(outer:List Env)(P:cN)(w:c7)(H:Hp)(s:Shared)(Q:VK)(E:XK)(r:Result)(a:Shared):Prop:=
 match r with
 |.ok (.ret u)=>CE outer P w H s Q u a
 |.ok _=>False
 |.error e=>b outer H s E e a
structure dS(P:cN)(w:c7)(K:aM)(mg:Str->Option Value)(base:Heap)(CX:XH)(k:Nat)(f:Addr)(fd:iW)(ps:List Str)(sp:Sp):Prop where
 len:∀vs H Q E,sp vs H Q E->vs.length=ps.length
 run:∀A outer s H(args:Args)(us:List Value)(vs:List V)Q E,Room k A->MU P w K mg base A outer s H->BindsTo s fd args (ps.zip us)->gM vs us->sp vs H Q E ->
  z8 (model P w) A (.call (.ref f) args) (CR CX outer P w H s Q E) s
def dS.imp{K}{mg:Str->Option Value}{k:Nat}{f:Addr}{c b:Sp}(F:dS P w K mg base CX k f fd ps c)
  (h:∀vs H Q E,b vs H Q E->c vs H Q E):dS P w K mg base CX k f fd ps b:=
 ⟨λvs H Q E q=>F.len vs H Q E (h _ _ _ _ q),λA outer s H a j vs Q E g e d i hs=>F.run A outer s H a j vs Q E g e d i (h _ _ _ _ hs)⟩
def MU.make{K}{mg:Str->Option Value}{A:d0}(e:MU P w K mg base A outer s H)(C:Addr)(b:List Value)(a:List (Str×Value)) :
  MU P w K mg base (A.under (.builtin "type.__call__" ⟨.ref C::b,a⟩)) outer s H:=⟨by first | exact e.frames | (simpa[ci,Code.envs,ge,pushEnvs]using e.frames),e.mod,e.bs,e.bsz,e.funs,e.frf,e.hok,e.bare,e.tab⟩
section
variable{X:Cx}{a:List (Addr×Obj)}{f:St}{H:Hp}{s c:Shared}
def eG.env0(I:eG X a f H s):MU X.prog X.w X.K X.mg X.base X.A X.stack s H:=
 ⟨I.ok.frames,I.ok.mod,I.bs,bG I.ok.bsz I.sz,I.stack,I.stkFree,I.hok,I.bare,λP e=>let ⟨ps,h⟩:=I.ok.tab P e;let ⟨m,h'⟩:=I.base.tbls P ps h;⟨_,h'⟩⟩
def eG.after(I:eG X a f H s)(h:CE X.stack X.prog X.w H s Q u c):EP X a f Q u c:=by
 obtain⟨v,i,os,bare,un,hok,r,q⟩:=h;obtain⟨j,g,d,t,e⟩:=c;obtain rfl:e=s.os:=os;exact⟨v,i,I.call (h':=j) (g':=g) (d':=d) (t':=t) (ch:=[]) un hok bare (λb z=>a9 z Fa),r,q⟩
end
def NB(c:Sp)(a:List V)(E:XK)(t:TA):TE:=λd H Q=>t d H λvs b=>c (vs++a) b Q E
def Lx(C:Addr)(m:Str)(g:Sp)(b:List V)(E:XK)(h:TE)(t:TA):TE:=λd H Q=>h d H λx c=>∃a f fs,x=.ref a/\c a=some (.ins C f fs)/\fs.lookup m=none /\
 t d c λvs e=>g (x::(vs++b)) e Q E
def Lw(C:Addr)(e:Sp)(c:List V)(E:XK)(t:TA):TE:=λf H Q=>t f H λvs b=>∀x a,b x=none->b a=none->a≠x ->
 e (.ref x::(vs++c)) (gG (gG b a (.own x)) x (.ins C a [])) (λv d=>v=.non/\Q (.ref x) d) E
def sS(K:aM)(d:iW)(c:List Str)(b:List Value):Prop:=
 ∀(s:Shared)(a:List Value),K.In s.heap->(a++b).length=c.length->BindsTo s d ⟨a,[]⟩ (c.zip (a++b))
def sS.all{K}{b:List Str}(h:∀a:List Value,a.length=b.length->bindArgs fd ⟨a,[]⟩=pure (b.zip a)):sS K fd b []:=λs a _ c=>by
 rw[fS]at c |-
 exact .of_eq (h a c)
def zD(a:XH)(X:Cx)(E:XK):Prop:=∀pins σ H s(e:Value)s',eG X pins σ H s->a X.stack H s E e s'->X.xe e s'
section
variable{X:Cx}{n:XH}{k:Nat}{f C:Addr}{y:iW}{i:List Str}{z:Sp}{b:List V}{g:List Value}{E:XK}{x m:Str}{p pos j:Pos}{e o:Expr}{d:List Expr}{B:TE}{t:TA}
def SR(F:dS X.prog X.w X.K X.mg X.base n k f y i z)(v:Room k X.A)(l:sS X.K y i g)(hd:gM b g)(G:zD n X E)
  (I:eG X pins σ H s) (r:gM vs us) (h:z (vs++b) H Q E):wpAny (model X.prog X.w) X.A (call (.ref f) us) (EP X pins σ Q) X.xe s:=by
 have c:gM (vs++b) (us++g):=r.append hd;have q:(us++g).length=i.length:=by rw[<- c.length];exact F.len _ _ _ _ h
 refine gz (aj (F.run X.A X.stack s H ⟨us,[]⟩ (us++g) (vs++b) Q E v I.env0 (l s us I.kIn q) c h) λr J a=>?_)
 cases r with
 |error e=>exact G pins σ H s e J I a
 |ok fl=>
  cases fl with
  |ret u=>exact I.after a
  |next=>exact j0 a
  |brk=>exact j0 a
  |cont=>exact j0 a
def F0(F:dS X.prog X.w X.K X.mg X.base n k f y i z)(N:Room k X.A)(L:Gl X x)(M:X.mg x=some (.ref f))(hk:iD X.K (.ref f)=true)(G:sS X.K y i g)(hd:gM b g)(O:zD n X E)
  (v:PA X (e::d) t) (c:autoParam ((x==("__debug__":Str))=false) zzy._auto_1) (J:autoParam (cD (e::d) X.env=(false,eval e X.env)::cD d X.env) zzz._auto_1) (l:autoParam ((k9 pos (cD d X.env)).any (·.1)=false) zzz._auto_1) :
  PE X (.Call (.Name x p) (e::d) [] pos) (NB z b E t):=by
 intro a s P H Q I h;refine ae (GC I L M ?_ c);refine wI (h₀:=X.base) I.ok.mod.kin hk (jR (v pos a s P H _ I h) λT S ⟨vs,R,u,r,q⟩=>⟨u.kIn,?_⟩) J l;exact SR F N G hd O u r q
def AX(U:PE X o B)(c:RM X.K C)(N:aA2 X.K C m f)(F:dS X.prog X.w X.K X.mg X.base n k f y i z)(Y:Room k X.A)(T:sS X.K y i g)(hd:gM b g)(hx:zD n X E)(S:PA X (e::d) t)
  (J:autoParam (cD (e::d) X.env=(false,eval e X.env)::cD d X.env) zzz._auto_1) (G:autoParam ((k9 pos (cD d X.env)).any (·.1)=false) zzz._auto_1)
  (Z:eval (.Call (.Attribute o m j) (e::d) [] pos) X.env=(do
   let ov <- eval o X.env
   uo j.atName
   let (f,first) <- jb [ov] (getMethod ov m pl)
   callWith pos f first (k9 pos (cD (e::d) X.env)) (backToKw pos (rh [] X.env))):=by rfl) :
  PE X (.Call (.Attribute o m j) (e::d) [] pos) (Lx C m z b E B t):=by
 intro v s O H Q I h;refine PySem.W.methodCall_KW (pl:=pl) (jR (U v s O H _ I h) λu s1 zq=>?_) Z;obtain⟨x,P,L,rx,a,dx,fs,ex,R,l,q⟩:=zq;subst ex;obtain rfl:u=c8 a:=rx;refine L3 L R c N l ?_;refine wI (first:=[.ref a]) (h₀:=X.base) I.ok.mod.kin N.kp (jR (S pos v s1 O P _ L q) λus s2 ⟨vs,H2,M,r,q2⟩=>⟨M.kIn,?_⟩) J G;exact SR (us:=.ref a::us) (vs:=.ref a::vs) F Y T hd hx M (.cons Fc r) q2
structure Mk(K:aM)(C f:Addr):Prop where
 makes:RN K C=true
 init:fY K (.ref C) "__init__"=some (some (.ref f))
 fn:G5 K (.ref f)=true
 kp:iD K (.ref C)=true
def SQ{H:Hp}{Q:VK}(M:Mk X.K C f)(F:dS X.prog X.w X.K X.mg X.base n k f y i z)(S:Room (k+1) X.A)(P:sS X.K y i g)(hd:gM b g)
  (T:zD n X E) (I:eG X pins σ H s) (r:gM vs us)
  (h:∀x l,H x=none->H l=none->l≠x->z (.ref x::(vs++b)) (gG (gG H l (.own x)) x (.ins C l [])) (λv L=>v=.non/\Q (.ref x) L) E) :
  wpAny (model X.prog X.w) X.A (call (.ref C) us) (EP X pins σ Q) X.xe s:=by
 have q:=h (s.heap.objs.size+1) s.heap.objs.size (I.hok.fresh (DA _)) (I.hok.fresh (aN _)) (bS (fA _));have c:=eG.made (C:=C) I;have G:gM (V.ref (s.heap.objs.size+1)::(vs++b)) (c8 (s.heap.objs.size+1)::(us++g)):=.cons Fc (r.append hd)
 have R:(c8 (s.heap.objs.size+1)::us++g).length=i.length:=by
  have e:=G.length;rw[F.len _ _ _ _ q]at e;exact e.symm
 refine gz (UZ (f:=f) I.kIn M.makes M.init (beq_iff_eq.mp M.fn) (aj (F.run _ X.stack _ _ ⟨c8 (s.heap.objs.size+1)::us,[]⟩ (c8 (s.heap.objs.size+1)::(us++g)) _ _ E (S.make C us [])
  (c.env0.make C us []) (P _ (c8 (s.heap.objs.size+1)::us) c.kIn R) G q) λr Y a=>?_))
 cases r with
 |error e=>exact T pins σ _ _ e Y c a
 |ok fl=>
  cases fl with
  |ret u=>
   obtain⟨v,J,N,W,O,U⟩:=c.after a;subst O;exact⟨W,⟨V.ref (s.heap.objs.size+1),J,N,Fc,U⟩⟩
  |next=>exact j0 a
  |brk=>exact j0 a
  |cont=>exact j0 a
def Y8(M:Mk X.K C f)(F:dS X.prog X.w X.K X.mg X.base n k f y i z)(O:Room (k+1) X.A)(L:Gl X x)(N:X.mg x=some (.ref C))(G:sS X.K y i g)(hd:gM b g)(P:zD n X E)
  (v:PA X (e::d) t) (c:autoParam ((x==("__debug__":Str))=false) zzy._auto_1) (J:autoParam (cD (e::d) X.env=(false,eval e X.env)::cD d X.env) zzz._auto_1) (l:autoParam ((k9 pos (cD d X.env)).any (·.1)=false) zzz._auto_1) :
  PE X (.Call (.Name x p) (e::d) [] pos) (Lw C z b E t):=by
 intro a s R H Q I h;refine ae (GC I L N ?_ c);refine wI (h₀:=X.base) I.ok.mod.kin M.kp (jR (v pos a s R H _ I h) λU T ⟨vs,S,u,r,q⟩=>⟨u.kIn,?_⟩) J l;exact SQ M F O G hd P u r q
end
structure bX(N P:List Str)(sc:Scope):Prop where
 kind:sc.kind=.function
 co:sc.isCoroutine=false
 gen:sc.isGenerator=false
 nd:N.Nodup
 pre:N.take P.length=P
 par:∀x∈P,sc.names.lookup x=some .local\/sc.names.lookup x=some .cell
 nofree:∀y∈sc.names,y.2≠.free
theorem EU{kindOf:Str->Option u5}:∀{binds}{m:Str->Option Value},(∀v,(x,v)∉binds)->bindL kindOf binds m x=m x
|[],_,_=>rfl
| (n,v)::r,m,h=>by
 unfold bindL;rw[EU λw hw=>h w (aO _ hw)];split
 ·have:x≠n:=by rintro rfl;exact h v aU
  simp[this]
 ·rfl
theorem EW{kindOf:Str->Option u5}:∀{binds}{m:Str->Option Value},(∀v,(x,v)∉binds)->bindC kindOf binds m x=m x
|[],_,_=>rfl
| (n,v)::r,m,h=>by
 unfold bindC;rw[EW λw hw=>h w (aO _ hw)];split
 ·rfl
 ·have:x≠n:=by rintro rfl;exact h v aU
  simp[this]
theorem EV{kindOf:Str->Option u5}:∀{P:List Str}{vs}{i:Nat}{m:Str->Option Value},P.Nodup->P[i]?=some x->vs[i]?=some v->kindOf x=some .local ->
 bindL kindOf (P.zip vs) m x=some v
|[],_,_,_,_,h,_,_=>by simp at h
|_::_,[],_,_,_,_,h,_=>by simp at h
|p::P,w::vs,0,m,nd,h1,h2,hk=>by
 simp at h1 h2;subst h1;subst h2;show bindL kindOf ((p,w)::P.zip vs) m p=_;unfold bindL;rw[EU λv a=>(mU.mp nd).1 (DD a).1,a7 hk];simp
|p::P,w::vs,i+1,m,nd,h1,h2,hk=>by
 show bindL kindOf ((p,w)::P.zip vs) m x=_;unfold bindL;exact EV (i:=i) (mU.mp nd).2 (by simpa using h1) (by simpa using h2) hk
theorem EY{kindOf:Str->Option u5}:∀{P:List Str}{vs}{i:Nat}{m:Str->Option Value},P.Nodup->P[i]?=some x->vs[i]?=some v->kindOf x≠some .local ->
 bindC kindOf (P.zip vs) m x=some v
|[],_,_,_,_,h,_,_=>by simp at h
|_::_,[],_,_,_,_,h,_=>by simp at h
|p::P,w::vs,0,m,nd,h1,h2,hk=>by
 simp at h1 h2;subst h1;subst h2;show bindC kindOf ((p,w)::P.zip vs) m p=_;unfold bindC;rw[EW λv a=>(mU.mp nd).1 (DD a).1,a6 hk];simp
|p::P,w::vs,i+1,m,nd,h1,h2,hk=>by
 show bindC kindOf ((p,w)::P.zip vs) m x=_;unfold bindC;exact EY (i:=i) (mU.mp nd).2 (by simpa using h1) (by simpa using h2) hk
noncomputable def qS(N:List Str)(vs:List V):St:=vs.map some++FC (N.length-vs.length) none
noncomputable def AE(CX:XH)(P:cN)(w:c7)(K:aM)(mg:Str->Option Value)(base:Heap)(N:List Str)(qual:Str)(scope:Scope)(f:Addr)(cd:Value)(A:d0)(outer:List Env)(s:Shared)(H:Hp)(E:XK):Cx where
 prog:=P
 w:=w
 K:=K
 mg:=mg
 base:=base
 A:=A.deeper (aq qual scope s.heap.objs.size f cd)
 N:=N
 s₀:=s
 H₀:=H
 env:=aq qual scope s.heap.objs.size f cd
 outer:=outer
 stack:=aq qual scope s.heap.objs.size f cd::outer
 ex:=[]
 calm:=true
 fn:=λ_=>true
 pn:=[]
 xe:=λe s'=>wpAny (model P w) (A.deeper (aq qual scope s.heap.objs.size f cd)) (leaving (aq qual scope s.heap.objs.size f cd) e) (λ_ zd=>CX outer H s E e zd) (λe' zd=>CX outer H s E e' zd) s'
def J1{a:Scope}{n:Nat}(h:a.names.lookup x=some .cell):∃c,(bd n a.names []).lookup x=some c:=by
 have q:=G6 a.names n [] (.inl h);exact Option.isSome_iff_exists.mp q
def QK{K}{mg:Str->Option Value}{N m:List Str}{d:Scope}{f:Addr}{cd}{A:d0}{s G:Shared}{vs:List V}
  (S:bX N m d) (hd:A.handled=none) (j:MU P w K mg base A outer s H) (O:vs.length=m.length) (r:gM vs us)
  (x:InCallC s s.heap.objs.size (bindL (aq qual d s.heap.objs.size f cd).kindOf (m.zip us) λ_=>none) (bd (s.heap.objs.size+1) d.names []) (bindC (aq qual d s.heap.objs.size f cd).kindOf (m.zip us) λ_=>none) G) :
  eG (AE CX P w K mg base N qual d f cd A outer s H E) [] (qS N vs) H G:=by
 have J:m.length<=N.length:=by have:=e7 gC S.pre;rw[aZ]at this;lia
 obtain⟨B,Q,rfl,hk⟩:=x.done;have l:∀b:Addr,b∉(AE CX P w K mg base N qual d f cd A outer s H E).ex:=λb z=>a9 (show b∈([]:List Addr)from z) Fa
 refine⟨⟨j.mod,S.kind,Fc,Fc,aN _,λy z c B g=>?_,λy hy=>?_,λy c _ h=>?_,λ_=>hd,gc j.frames,.inr ⟨Fc,Fc⟩,λb z=>a9 z (l b),j.bs,j.bsz,λb _ _=>l b,λb z=>a9 z (l b),j.funs,j.frf,j.tab⟩,
  rfl,j.bare,Un.kept hk,⟨_,x.toInCall.ns,λi y v B g M=>?_⟩,λy c h=>⟨_,x.cell y c h⟩,j.hok.fresh (aN _),λy c h=>?_,λp o=>a9 (show p∈([]:List (Addr×Obj))from o) Fa,j.hok.kept hk,?_⟩
 ·exact name_of_addr x.apart (h9 B) (h9 g)
 ·have hy:d.names.lookup y=some .cell\/d.names.lookup y=some .free:=hy;rcases hy with hy | hy
  ·exact J1 hy
  ·exact a9 Fc (S.nofree _ (h9 hy))
 ·exact iI (x.above y c (h9 h))
 ·have C:i<vs.length:=by
   unfold qS at g;by_cases C:i<vs.length
   ·exact C
   ·rw[eJ (by simpa using C)]at g;rw[kK]at g;split at g<;>cases g
  have I:vs[i]?=some v:=by
   unfold qS at g;rw[eB (by simpa using C),aI]at g
   cases e:vs[i]? with
   |none=>rw[e]at g;cases g
   |some a=>rw[e]at g;cases g;rfl
  obtain⟨u,F,L⟩:=r.get I
  have o:m[i]?=some y:=by
   rw[<- S.pre,HK Ez];exact B
  have t:m.Nodup:=by rw[<- S.pre];exact S.nd.sublist (rL _ _)
  refine⟨u,L,?_⟩;rcases S.par y (aS o)with k | k
  ·exact .inl ⟨k,EV t o F k⟩
  ·obtain⟨c,e⟩:=J1 (n:=s.heap.objs.size+1) k;refine .inr ⟨.inl k,c,e,?_⟩;have q:=x.cell y c e;rw[EY t o F (by show d.names.lookup y≠_;rw[k];decide)]at q;exact q
 ·exact j.hok.fresh (iI (x.above y c (h9 h)))
 ·unfold qS;show _=N.length;rw[bH,aC,List.length_replicate];lia
def Ko{K:aM}{mg:Str->Option Value}{k:Nat}{f:Addr}{name kV}
   {N j:List Str} {C:Sp} (Y:K.lookup f=some ⟨oc,od,.func (nG name qual params body scope dV kV sh pm an er ct),ul⟩) (l:pL K er qual=true) (S:bX N j scope)
  (len:∀vs H Q E,C vs H Q E->vs.length=j.length)
  (d:∀(A:d0)outer(s:Shared)H(vs:List V)Q E,Room k (A.deeper (aq qual scope s.heap.objs.size f er))->C vs H Q E ->
   ∃t,AH (AE CX P w K mg base N qual scope f er A outer s H E) body t/\t { nx:=λ_ c=>Q .non c,rt:=Q } (qS N vs) H) :
  dS P w K mg base CX (k+1) f (nG name qual params body scope dV kV sh pm an er ct) j C:=by
 refine⟨len,λA outer s H G Z vs Q E m h M r i=>?_⟩;have R:=len _ _ _ _ i;have F:K.In s.heap:=h.mod.kin.keeps λb o e=>(h.bs b o e).1;have p:s.heap.NoLimit:=h.mod.nolimit.keeps λb o e=>(h.bs b o e).1
 have g:∀y∈j.zip Z,scope.names.lookup y.1=some .local\/(scope.names.lookup y.1=some .cell/\((bd (s.heap.objs.size+1) scope.names []).lookup y.1).isSome=true):=λ⟨n,v⟩ X=>by
  rcases S.par n (DD X).1 with q | q
  ·exact .inl q
  ·exact .inr ⟨q,G6 _ _ _ (.inl q)⟩
 refine codeAny_call_function m.depth (F _ _ Y) Fc S.co S.gen Fc (PySem.W.codeRec_of F l) (M _ _ _ _ ?_);refine wpAny_newFunctionEnv_cells S.kind g λenv O L x=>?_;subst O;refine⟨p.keeps x.toInCall.keep,codeAny_func ?_⟩;obtain⟨t,U,T⟩:=d A outer s H vs Q E (m.deeper _) i;have I:eG (AE CX P w K mg base N qual scope f er A outer s H E) [] (qS N vs) H L:=QK S m.hd h R r x;refine gO (U [] L (qS N vs) H _ I T) (λfl B hs=>?_) λe B hs=>hs
 have fin:∀{a:St}{c:Hp}{v:V}{u:Value},eG (AE CX P w K mg base N qual scope f er A outer s H E) [] a c B->iL v u->Q v c->CE outer P w H s Q u B:=
  λ{a c v u} J z q=>⟨v,c,J.os,J.bare,J.base,J.hok,z,q⟩
 cases fl with
 |ret u=>
  obtain⟨v,a,c,J,z,q⟩:=hs;exact fin J z q
 |next=>
  obtain⟨a,c,J,q⟩:=hs;exact fin (v:=V.non) (u:=d8) J Fc q
 |brk=>
  obtain⟨_,_,_,q⟩:=hs;exact j0 q
 |cont=>
  obtain⟨_,_,_,q⟩:=hs;exact j0 q
section
variable{X:Cx}{x:Str}{p pos:Pos}{e:Expr}{a:List Expr}{t:TA}{id T:String}{r:List V->Hp->VK->Prop}
def SC(r:List V->Hp->VK->Prop)(t:TA):TE:=λc H Q=>t c H λvs b=>r vs b Q
def tY(k:kO X (.builtin id) r)(m:Gl X x)(n:X.mg x=none)(q:d1 x=some (.builtin id))(j:PA X (e::a) t)(o:autoParam (x≠"__name__") zzy._auto_1)(c:autoParam ((x==("__debug__":Str))=false) zzy._auto_1)
  (l:autoParam (cD (e::a) X.env=(false,eval e X.env)::cD a X.env) zzz._auto_1) (d:autoParam ((k9 pos (cD a X.env)).any (·.1)=false) zzz._auto_1):PE X (.Call (.Name x p) (e::a) [] pos) (SC r t):=by
 intro b s f H Q I h;refine ae (uA I m n q ?_ o c);exact PyProof.Rows.callWith_builtin1 (jR (j pos b s f H _ I h) λw v ⟨vs,g,i,u,q1⟩=>k b v f g vs w Q i u q1) l d
def gH(k:kO X (.type T) r)(m:Gl X x)(n:X.mg x=none)(q:d1 x=some (.type T))(j:PA X (e::a) t)(o:autoParam (x≠"__name__") zzy._auto_1)(c:autoParam ((x==("__debug__":Str))=false) zzy._auto_1)
  (l:autoParam (cD (e::a) X.env=(false,eval e X.env)::cD a X.env) zzz._auto_1) (d:autoParam ((k9 pos (cD a X.env)).any (·.1)=false) zzz._auto_1):PE X (.Call (.Name x p) (e::a) [] pos) (SC r t):=by
 intro b s f H Q I h;refine ae (uA I m n q ?_ o c);exact i8 (jR (j pos b s f H _ I h) λw v ⟨vs,g,i,u,q1⟩=>k b v f g vs w Q i u q1) l d
end
end L2
namespace HT
section
variable{prog:cN}{w:c7}{A:d0}{E:Value->Shared->Prop}{s:Shared}
def cat_tup{t b:Addr}{vs a:List Value}{Q:Value->Shared->Prop}(x:ue s.heap t vs.toArray)(v:ue s.heap b a.toArray)(o:vs≠[])
  (r:a=[]->Q (.ref t) s) (u:a≠[]->Q (.ref s.heap.objs.size) { s with heap:=s.heap.push { cls:=.type "tuple",data:=.seq (vs++a).toArray } })
  (j:vs.length+a.length<=bO):wpAny (model prog w) A (m3 .Add (.ref t) (.ref b)) Q E s:=by
 obtain⟨⟨cls,l,data,q⟩,i,m,n,hd⟩:=id x;obtain⟨⟨k,d,data2,h⟩,c,f,p,g⟩:=id v;simp only at m hd f g;subst m hd f g;have e:vs.toArray++a.toArray=(vs++a).toArray:=by simp
 by_cases hw:a=[]
 ·exact dw ⟨_,i,Fc⟩ ⟨_,c,Fc⟩ fb io sM rK (qM _ _)
   (tuple_addW1 t b vs.toArray a.toArray n p l d q h (by simpa using o) (by simp[hw])) ⟨i,c,r hw⟩
 ·refine dw ⟨_,i,Fc⟩ ⟨_,c,Fc⟩ fb io sM rK (qM _ _)
   (tuple_addW2 t b vs.toArray a.toArray n p l d q h (by simpa using o) (by simpa using hw) (by rw[bJ,bJ];exact j)) ⟨i,c,?_⟩
  rw[e];exact u hw
noncomputable def sIx(n d:Nat):Option Int->Nat
|none=>d
|some v=>if v<0 then(v+(n:Int)).toNat else min v.toNat n
def sIx_none(n d:Nat):sIx n d none=d:=rfl
def sIx_nat(n d k:Nat):sIx n d (some (k:Int))=min k n:=by
 show(if(k:Int)<0 then((k:Int)+(n:Int)).toNat else min (k:Int).toNat n)=min k n;rw[a6 Ez,dX]
def sIx_le(n d:Nat)(hd:d<=n)(o:Option Int):sIx n d o<=n:=by
 cases o with
 |none=>exact hd
 |some v=>
  show(if v<0 then(v+(n:Int)).toNat else min v.toNat n)<=n;by_cases a:v<0
  ·rw[a7 a];lia
  ·rw[a6 a];exact sX _ _
def clip_eq(v:Int)(n d:Nat):(if v<0 then max (v+(n:Int)) 0 else min v (n:Int))=((sIx n d (some v):Nat):Int):=by
 show(if v<0 then max (v+(n:Int)) 0 else min v (n:Int))=(((if v<0 then(v+(n:Int)).toNat else min v.toNat n):Nat):Int);by_cases a:v<0
 ·simp only[a7 a];lia
 ·simp only[a6 a];lia
def MQ(lo a:Option Int)(n:Nat):ai lo a 1 (n:Int)=(((sIx n 0 lo:Nat):Int),((sIx n n a:Nat):Int)):=by
 have b:¬((1:Int)<0):=by lia
 unfold ai;simp only[b,g9];refine Prod.ext ?_ ?_
 ·cases lo with
  |none=>rfl
  |some v=>exact clip_eq v n 0
 ·cases a with
  |none=>rfl
  |some v=>exact clip_eq v n n
def LB(i j:Nat):q9 (i:Int) (j:Int) 1=j-i:=by
 unfold q9;have a:(1:Int)>0:=by lia
 simp only[a,ak,aM8];split<;>lia
def BO{Q:Option Int->Shared->Prop}(p:IsPart v o)(h:Q o s):wpAny (model prog w) A (Builtin.Slice.slicePartIndex v) Q E s:=by
 cases p with
 |none=>exact slicePart_none h
 |int i t=>exact slicePart_int h
def qV{d:Addr}{lo}{n:Nat}{Q:Int×Int×Nat->Shared->Prop}(hs:s.heap.IsSliceOf d vl vu .none)(f:IsPart vl lo)(g:IsPart vu b)
  (h:Q (((sIx n 0 lo:Nat):Int),1,sIx n n b-sIx n 0 lo) s):wpAny (model prog w) A (cf (.ref d) (pure (n:Int))) Q E s:=by
 obtain⟨os,c,e,a⟩:=id hs;unfold cf Builtin.Slice.sliceFields;refine aB (aB (t4 c a (x:=vl) Fc (aB (t4 c a (x:=vu) Fc (aB (t4 c a (x:=.none) Fc (aG ?_)))))));refine aB (slicePart_none ?_);show wpAny _ _ (if((1:Int)==0)=true then _ else _) _ _ s;rw[a6 Ey];refine aB (BO f (aB (BO g (aB (aG ?_)))));show wpAny _ _ (match ai lo b 1 (n:Int)with | (lo,b)=>pure (lo,(1:Int),q9 lo b 1)) _ _ s;rw[MQ lo b n];show wpAny _ _ (pure (((sIx n 0 lo:Nat):Int),(1:Int),q9 ((sIx n 0 lo:Nat):Int) ((sIx n n b:Nat):Int) 1)) _ _ s;rw[LB];exact aG h
def TD(a:Array Value)(i k:Nat):((cK k).filterMap λ(m:Nat)=>a[((i:Int)+(m:Int)*1).toNat]?).toArray=((a.toList.drop i).take k).toArray:=by
 have e:(λ(m:Nat)=>a[((i:Int)+(m:Int)*1).toNat]?)=λm=>a[i+m]?:=by
  funext m;have:((i:Int)+(m:Int)*1).toNat=i+m:=by lia
  rw[this]
 rw[e];have:=pick_run a i k;rw[RT]at this;have b:((λx=>a[x]?)∘λx=>i+x)=λm=>a[i+m]?:=rfl;rw[b]at this;rw[this]
def getItem_tuple_cut{t i:Addr}{a:Array Value}{lo}{Q:Value->Shared->Prop}(c:ue s.heap t a)(hs:s.heap.IsSliceOf i vl vu .none)(l:IsPart vl lo)(n:IsPart vu hi)
  (hw:¬(sIx a.size 0 lo=0/\sIx a.size a.size hi=a.size))
  (h:Q (.ref s.heap.objs.size) { s with heap:=s.heap.push { cls:=.type "tuple",data:=.seq ((a.toList.drop (sIx a.size 0 lo)).take (sIx a.size a.size hi-sIx a.size 0 lo)).toArray } })
  (k:a.size<=bO):wpAny (model prog w) A (bu (.ref t) (.ref i)) Q E s:=by
 have b:sizeOk (.seq ((a.toList.drop (sIx a.size 0 lo)).take (sIx a.size a.size hi-sIx a.size 0 lo)).toArray):=by
  show((a.toList.drop (sIx a.size 0 lo)).take (sIx a.size a.size hi-sIx a.size 0 lo)).toArray.size<=bO;rw[bJ,aZ,gA,bQ];lia
 have o:sIx a.size a.size hi<=a.size:=sIx_le _ _ (aN _) hi;obtain⟨os,g,e,j⟩:=id hs;have d:s.TypeIs (.ref i) "slice":=⟨os,g,e⟩;unfold bu
 try with_reducible refine h7 ?_
 first | refine aB (aG ?_) | skip
 refine aB (ut c.typeIs Ey ?_)
 refine aB (d7 (name:=c6 "__getitem__") c.typeIs j9
  (dI j9 c.typeIs si ?_ (sv _ _)))
 show wpAny _ _ (ag (.ref t) >>= _) _ _ s;refine aB (tupleItemsOf_ c ?_);refine aB (al d ?_);rw[a7 Ey];refine aB (qV hs l n ?_)
 have f:¬((((sIx a.size 0 lo:Nat):Int)==0&&(1:Int)==1&&(sIx a.size a.size hi-sIx a.size 0 lo)==a.size)=true):=by
  intro q;rw[dM,dM]at q;have q1:((sIx a.size 0 lo:Nat):Int)=0:=ey q.1.1;have p:sIx a.size a.size hi-sIx a.size 0 lo=a.size:=ey q.2;exact hw ⟨Ez,Ez⟩
 show wpAny _ _ (if(((sIx a.size 0 lo:Nat):Int)==0&&(1:Int)==1&&(sIx a.size a.size hi-sIx a.size 0 lo)==a.size)=true then _ else _) _ _ s;rw[a6 f,TD]
 first
  |exact aB (m:=i4 _) (dG (aG ⟨_,Fc,aG h⟩) b)
  |exact aB (m:=i4 _) (dG (aB (aG (aG ⟨_,Fc,aG h⟩))) b)
  |exact aB (aB (m:=i4 _) (dG (aG (aG ⟨_,Fc,aG h⟩)) b))
  |exact aB (aB (m:=i4 _) (dG (aG ⟨_,Fc,aG h⟩) b))
end
end HT
namespace L2
abbrev TO:=St->Hp->(Option Int->Hp->Prop)->Prop
def PO(X:Cx)(e:Option Expr)(t:TO):Prop:=
 ∀pins s σ H(Q:Option Int->Hp->Prop),eG X pins σ H s->t σ H Q ->
  wpAny (model X.prog X.w) X.A (evalPart e X.env) (λu b=>∃o a,eG X pins σ a b/\IsPart u o/\Q o a) X.xe s
def XX:TO:=λ_ H Q=>Q none H
def Xf(t:TE):TO:=λb H Q=>t b H λx a=>∃i,x=.int i/\Q (some i) a
section
variable{X:Cx}{e:Expr}{d:TE}{lo c:Option Expr}{j g:TO}{pos f:Pos}
def Y3:PO X none XX:=by
 intro a s b H Q I h;rw[evalPart_none];exact aG ⟨none,H,I,.none,h⟩
def Y2(h:PE X e d):PO X (some e) (Xf d):=by
 intro a s n H Q I hw;rw[evalPart_some];refine jR (h a s n H _ I hw) λu o m=>?_;obtain⟨x,b,k,l,q1⟩:=m;obtain⟨i,rfl,q⟩:=q1;obtain⟨t,rfl⟩:=l;exact⟨some i,b,k,.int i t,q⟩
def WS(X:Cx)(r:V->Option Int->Option Int->Hp->VK->Prop):Prop:=
 ∀pins(s:Shared)σ H(x:V)(v b h:Value)(lo c:Option Int)(a:Addr)Q,eG X pins σ H s->iL x v->s.heap.IsSliceOf a b h .none->IsPart b lo->IsPart h c->r x lo c H Q ->
  ∃T id,typeLookup (.type T) "__getitem__"=pure (some (.builtin id))/\s.TypeIs v T/\wpAny (model X.prog X.w) X.A (bu v (.ref a)) (EP X pins σ Q) X.xe s
def WS.or{r k:V->Option Int->Option Int->Hp->VK->Prop}(h:WS X r)(t:WS X k):WS X (λx lo c H Q=>r x lo c H Q\/k x lo c H Q):=by
 intro a s p H x v n o lo c m Q I l hs b i q;rcases q with q | q
 ·exact h a s p H x v n o lo c m Q I l hs b i q
 ·exact t a s p H x v n o lo c m Q I l hs b i q
def Mv(r:V->Option Int->Option Int->Hp->VK->Prop)(d:TE)(j g:TO):TE:=λa H Q=>d a H λx b=>j a b λl h=>g a h λu H3=>r x l u H3 Q
def TN{r:V->Option Int->Option Int->Hp->VK->Prop}(J:WS X r)(E:PE X e d)(G:PO X lo j)(L:PO X c g):PE X (.Subscript e (.Slice lo c none f) pos) (Mv r d j g):=by
 intro a s i H Q I h;refine su (jR (E a s i H _ I h) λv S n=>?_);obtain⟨x,o,t,R,q1⟩:=n;refine wpAny_Slice (jR (G a S i o _ t q1) λk U ⟨l,p,y,M,O⟩=>jR (L a U i p _ y O) λm s3 n=>?_);obtain⟨u,H3,z,N,P⟩:=n;rw[evalPart_none];refine aG ?_;have B:eG X a i H3 { s3 with heap:=s3.heap.push { cls:=.type "slice",data:=.fields #[k,m,.none] } }:=z.kept (t':=s3.toks) λb ob q=>aJ _ q;obtain⟨T,id,C,K,F⟩:=J a { s3 with heap:=s3.heap.push { cls:=.type "slice",data:=.fields #[k,m,.none] } } i H3 x v k m l u s3.heap.objs.size Q B R (Heap.IsSliceOf.new ..) M N P;show wpAny (model X.prog X.w) X.A (ip e (.Slice lo c none f) v (.ref s3.heap.objs.size)) (EP X a i Q) X.xe { s3 with heap:=s3.heap.push { cls:=.type "slice",data:=.fields #[k,m,.none] } };exact tail_any (ops:=[.ref s3.heap.objs.size,v]) K C F (by with_unfolding_all rfl)
noncomputable def GK(a:List V)(lo c:Option Int):List V:=(a.drop (HT.sIx a.length 0 lo)).take (HT.sIx a.length a.length c-HT.sIx a.length 0 lo)
def zV(a:List V)(lo c:Option Int):(GK a lo c).length<=a.length:=by
 unfold GK;rw[aZ,gA];lia
def Of(K:aM):V->Option Int->Option Int->Hp->VK->Prop:=λx lo c H Q=>∃a b,x=.ref a/\rO K H a b /\
 ¬(HT.sIx b.length 0 lo=0/\HT.sIx b.length b.length c=b.length)/\∀p,H p=none->Q (.ref p) (gG H p (.tup (GK b lo c)))
def Zt:WS X (Of X.K):=by
 intro p s C H x v A B lo c z Q I y hs u w h;obtain⟨a,k,rfl,t,hw,q⟩:=h;cases y;obtain⟨l,r,m,n⟩:=I.tuple t;have i:l.toArray.size=k.length:=by rw[bJ];exact r.length.symm
 refine⟨"tuple",_,PyProof.Rows.slot_tuple_getitem.lookup,m.typeIs,?_⟩;refine HT.getItem_tuple_cut m hs u w (by rw[i];exact hw) ?_ (by rw[i];exact n);rw[i];refine⟨.ref s.heap.objs.size,_,I.laid (t':=s.toks) (o:=.tup (GK k lo c)) (λb ob q=>aJ _ q) (aN _) ?_,Fc,q _ (I.hok.fresh (aN _))⟩;exact⟨bG (zV k lo c) n,_,(r.drop (HT.sIx k.length 0 lo)).take (HT.sIx k.length k.length c-HT.sIx k.length 0 lo),C1.new _ _⟩
def To(K:aM):R2:=λx y H Q=>∃a b i h,x=.ref a/\y=.ref b/\rO K H a i/\rO K H b h/\i≠[]/\i.length+h.length<=bO /\
 (h=[]->Q (.ref a) H)/\(h≠[]->∀p,H p=none->Q (.ref p) (gG H p (.tup (i++h))))
def gM.nil_iff(r:gM xs us):us=[]↔xs=[]:=by
 cases r with
 |nil=>simp
 |cons _ _=>simp
def ZB:oU X (m3 .Add) (To X.K):=by
 intro n s J H x y v u Q I C E h;obtain⟨a,b,F,G,rfl,rfl,p,r,t,l,q1,B⟩:=h;cases C;cases E;obtain⟨A,k,p1,_⟩:=I.tuple p;obtain⟨m,i,f,_⟩:=I.tuple r;refine HT.cat_tup p1 f (λz=>t (k.nil_iff.mp z)) (λz=>⟨.ref a,H,I,Fc,q1 (i.nil_iff.mp z)⟩) (λz=>?_) (by rw[<- k.length,<- i.length];exact l);refine⟨.ref s.heap.objs.size,_,I.laid (t':=s.toks) (o:=.tup (F++G)) (λb ob q=>aJ _ q) (aN _) ?_,Fc,B (λw=>z (i.nil_iff.mpr w)) _ (I.hok.fresh (aN _))⟩;exact⟨by rw[bH];exact l,_,k.append i,C1.new _ _⟩
end
noncomputable def ZX(n:Nat)(i:Int):Option Nat:=if 0<=i then(if i<n then some i.toNat else none)else if -(n:Int)<=i then some (i+n).toNat else none
noncomputable def atI{b:Type}(a:List b)(i:Int):Option b:=(ZX a.length i).bind λj=>a[j]?
def ZW{n:Nat}{i:Int}{j:Nat}(h:ZX n i=some j):seqIndex? i n=some j/\j<n/\-(n:Int)<=i/\i<n:=by
 unfold ZX at h;by_cases b:0<=i
 ·rw[a7 b]at h;by_cases a:i<n
  ·rw[a7 a]at h;have e:i.toNat=j:=c5 h;exact⟨by rw[seqIndex_of b a,e],Ez,Ez,a⟩
  ·rw[a6 a]at h;cases h
 ·rw[a6 b]at h;by_cases a:-(n:Int)<=i
  ·rw[a7 a]at h;have e:(i+n).toNat=j:=c5 h;exact⟨by rw[seqIndex_neg Ez a,e],Ez,a,Ez⟩
  ·rw[a6 a]at h;cases h
def GU{g:Type}{a:List g}{i:Int}{v}(h:atI a i=some v):∃j,seqIndex? i a.length=some j/\a[j]?=some v/\j<a.length/\-(a.length:Int)<=i/\i<a.length:=by
 unfold atI at h
 cases e:ZX a.length i with
 |none=>rw[e]at h;cases h
 |some j=>
  rw[e]at h;obtain⟨b,c,d,f⟩:=ZW e;exact⟨j,b,h,c,d,f⟩
def fC{a:Type}{xs:List a}{j:Nat}{v:a}(h:xs[j]?=some v):atI xs (j:Int)=some v:=by
 have b:j<xs.length:=(aE.mp h).1
 have e:ZX xs.length (j:Int)=some j:=by
  unfold ZX;rw[a7 Ez,a7 Ez];simp
 unfold atI;rw[e];exact h
def WQ{b:Type}(a:List b)(v:b):atI (a++[v]) (-1)=some v:=by
 have c:(a++[v]).length=a.length+1:=by simp
 have e:ZX (a++[v]).length (-1)=some a.length:=by
  unfold ZX;rw[c,a6 Ey,a7 Ez];congr 1;lia
 unfold atI;rw[e];show(a++[v])[a.length]?=some v;simp
def GW(b:Expr):Prop:=∀o i,fq b false o i=operate [o,i] (bu o i)
def XG(X:Cx)(r:R2):Prop:=
 ∀(b a:Expr)pins s σ H(x y:V)(v u:Value)Q,eG X pins σ H s->iL x v->iL y u->r x y H Q ->
  fq a false v u=operate [v,u] (bu v u)->wpAny (model X.prog X.w) X.A (ip b a v u) (EP X pins σ Q) X.xe s
def XF(X:Cx)(id:String)(r:V->List V->Hp->VK->Prop):Prop:=
 ∀pins s σ H(x:V)(b:List V)(v:Value)(a:List Value)Q,eG X pins σ H s->iL x v->gM b a->r x b H Q ->
  wpAny (model X.prog X.w) X.A (call (.builtin id) (v::a)) (EP X pins σ Q) X.xe s
section
variable{X:Cx}{a b:Expr}{m A:TE}{pos:Pos}
def XG.or{r f:R2}(h:XG X r)(k:XG X f):XG X (λx y H Q=>r x y H Q\/f x y H Q):=by
 intro d c e s j H x y v u Q I g i q hs;rcases q with q | q
 ·exact h d c e s j H x y v u Q I g i q hs
 ·exact k d c e s j H x y v u Q I g i q hs
def D6(i:XG X r)(f:PE X a m)(g:PE X b A)(hs:GW b):PE X (.Subscript a b pos) (Fn r m A):=by
 intro c s n H Q I h;exact su (Ha f g I h λv u l x y d e j k q=>i a b c l n d x y v u Q e j k q (hs _ _))
def Jw(K:aM):R2:=λx y H Q=>∃p c i v,x=.ref p/\y=.int i/\lU K H p c/\atI c i=some v/\Q v H
def Jy(K:aM):R2:=λx y H Q=>∃p c i v,x=.ref p/\y=.int i/\rO K H p c/\atI c i=some v/\Q v H
def Jx:R2:=λx y H Q=>∃z i c,x=.str z/\y=.int i/\z.length<=bO/\atI z.cps.toList i=some c/\Q (.str ⟨#[c]⟩) H
def ZV:XG X (Jw X.K):=by
 intro n l c s C H x y v u Q I N O h hs;obtain⟨p,U,i,z,rfl,rfl,M,J,q⟩:=h;cases N;obtain⟨t,rfl⟩:=O;obtain⟨f,r,g,T⟩:=I.list M;obtain⟨j,d,E,R,F,G⟩:=GU J;obtain⟨w,o,k⟩:=r.get E;have L:=r.length;have S:=yS;have fin:EP X c C Q w s:=⟨z,H,I,k,q⟩;by_cases B:0<=i
 ·have e:i.toNat=j:=by
   rw[seqIndex_of B G]at d;exact c5 d
  exact item_listR g.isList B Ez (by rw[e];simpa using o) fin hs
 ·have e:(i+(f.toArray.size:Int)).toNat=j:=by
   rw[seqIndex_neg Ez F]at d;rw[bJ,<- L];exact c5 d
  exact jf (x:=w) g.isList.typeIs slot_list_getitem.lookup
   (wpAny_getItem_list_neg (Q:=λr P=>r=w/\EP X c C Q r P) g.isList Ez (by rw[bJ]<;>lia) Ez (by rw[e];simpa using o) ⟨Fc,fin⟩) hs
def Ym:XG X (Jy X.K):=by
 intro f e c s k H x y v u Q I G J h hs;obtain⟨p,S,i,z,rfl,rfl,E,B,q⟩:=h;cases G;obtain⟨t,rfl⟩:=J;obtain⟨F,r,g,R⟩:=I.tuple E;obtain⟨j,n,o,M,N,O⟩:=GU B;obtain⟨w,l,d⟩:=r.get o;have C:=r.length;have P:=yS;have fin:EP X c k Q w s:=⟨z,H,I,d,q⟩
 exact jf (x:=w) g.typeIs slot_tuple_getitem.lookup
  (getItem_tuple (j:=j) (Q:=λr L=>r=w/\EP X c k Q r L) g Ez Ez (by rw[bJ,<- C];exact n) (by simpa using l) ⟨Fc,fin⟩) hs
def Yl:XG X Jx:=by
 intro e d g s K H x y v u Q I B C h hs;obtain⟨z,i,c,rfl,rfl,G,r,q⟩:=h;obtain⟨t,rfl⟩:=B;obtain⟨J,rfl⟩:=C;obtain⟨j,f,n,E,o,p⟩:=GU r;have w:z.cps.toList.length=z.length:=by simp[ck]
 rw[w]at f o p;have F:=yS
 exact tail_any (tx s z t) slot_str_getitem.lookup (getItem_str (c:=c) (by
  have k:decide (i < -(2^63:Int))=false:=c4 Ez;have l:decide (i>=2^63)=false:=c4 Ez;rw[k,l,xY]) (by rw[f];simpa using n) ⟨.str ⟨#[c]⟩,H,I.tok _,⟨_,Fc⟩,q⟩) hs
def Ir(K:aM):R2:=λx y H Q=>Jw K x y H Q\/Jy K x y H Q\/Jx x y H Q
def aX:XG X (Ir X.K):=ZV.or (Ym.or Yl)
def FO(lo c:Option Int)(n:Nat):(au lo c none n).1=((HT.sIx n 0 lo:Nat):Int)/\(au lo c none n).2.1=((HT.sIx n n c:Nat):Int)/\(au lo c none n).2.2=1:=by
 refine⟨?_,?_,Fc⟩
 ·cases lo with
  |none=>simp[au,HT.sIx]
  |some i=>
   simp only[au,HT.sIx,RO,show(1:Int)>0 by decide,ak];by_cases h:i<0
   ·simp only[h,ak]<;>lia
   ·simp only[h,g9]<;>lia
 ·cases c with
  |none=>simp[au,HT.sIx]
  |some i=>
   simp only[au,HT.sIx,RO,show(1:Int)>0 by decide,ak];by_cases h:i<0
   ·simp only[h,ak]<;>lia
   ·simp only[h,g9]<;>lia
def DI(c:List Value)(lo d:Option Int):slicePick c.toArray lo d none=((c.drop (HT.sIx c.length 0 lo)).take (HT.sIx c.length c.length d-HT.sIx c.length 0 lo)).toArray:=by
 obtain⟨e,f,g⟩:=FO lo d c.toArray.size;unfold slicePick;rw[e,f,g];simp only[sliceRange_one,pick_run,bJ]<;>rfl
def Jz(K:aM):V->Option Int->Option Int->Hp->VK->Prop:=λx lo d H Q=>∃a c,x=.ref a/\lU K H a c/\∀p,H p=none->Q (.ref p) (gG H p (.lst (GK c lo d)))
def YK:WS X (Jz X.K):=by
 intro g s y H x v u w lo e t Q I p hs l n h;obtain⟨a,c,rfl,i,q⟩:=h;cases p;obtain⟨k,r,f,j⟩:=I.list i;have d:=r.length;refine⟨"list",_,slot_list_getitem.lookup,f.isList.typeIs,?_⟩;refine wpAny_getItem_list_slice f.isList hs l n .none Fa ?_ (by rw[bJ]<;>lia);rw[DI,<- d];refine⟨.ref s.heap.objs.size,_,I.laid (t':=s.toks) (o:=.lst (GK c lo e)) (λb ob q=>aJ _ q) (aN _) ?_,Fc,q _ (I.hok.fresh (aN _))⟩;exact⟨bG (zV c lo e) j,_,0,(r.drop (HT.sIx c.length 0 lo)).take (HT.sIx c.length c.length e-HT.sIx c.length 0 lo),aW _ Fc⟩
def GP:kO X (.builtin "len") (λj H Q=>∃p d,j=[.ref p]/\(lU X.K H p d\/rO X.K H p d)/\Q (.int d.length) H):=by
 intro i s t H j o Q I r h;obtain⟨p,d,rfl,hq,q⟩:=h;obtain⟨u,rfl,l⟩:=oB r;cases l;have n:=yS;rcases hq with hq | hq
 ·obtain⟨e,g,f,k⟩:=I.list hq;have c:=g.length;exact Calls.call_len_list f.isList (by simp only[bJ]<;>lia) ⟨.int d.length,H,I.tok _,⟨s.toks+1,by rw[bJ,c]⟩,q⟩
 ·obtain⟨e,g,f,k⟩:=I.tuple hq;have c:=g.length;exact len_tuple f (by simp only[bJ]<;>lia) ⟨.int d.length,H,I.tok _,⟨s.toks+1,by rw[bJ,c]⟩,q⟩
def GO:kO X (.builtin "len") (λd H Q=>∃z,d=[.str z]/\z.length<=bO/\Q (.int z.length) H):=by
 intro c s i H d g Q I r h;obtain⟨z,rfl,f,q⟩:=h;obtain⟨u,rfl,t,rfl⟩:=oB r;have e:=yS;exact len_str Ez ⟨.int z.length,H,I.tok _,⟨_,Fc⟩,q⟩
def kO.or{r e:List V->Hp->VK->Prop}(h:kO X f r)(k:kO X f e):kO X f (λd H Q=>r d H Q\/e d H Q):=by
 intro c s j H d i Q I g q;rcases q with q | q
 ·exact h c s j H d i Q I g q
 ·exact k c s j H d i Q I g q
def sG:kO X (.type "list") (λB H Q=>∃p i,B=[.ref p]/\(lU X.K H p i\/rO X.K H p i)/\∀l,H l=none->Q (.ref l) (gG H l (.lst i))):=by
 intro t s E H B F Q I r h;obtain⟨p,i,rfl,hq,q⟩:=h;obtain⟨u,rfl,C⟩:=oB r;cases C
 have fin:∀(c:List Value),gM i c->i.length<=bO->∀(d:Heap)(f:Nat),(∀b z,s.heap.get? b=some z->d.get? b=some z) ->
   d.get? s.heap.objs.size=some { cls:=.type "list",dict:=none,data:=.seq c.toArray f,slots:=#[] }->EP X t E Q (.ref s.heap.objs.size) { s with heap:=d }:=λc g k d f kp e=>
  ⟨.ref s.heap.objs.size,_,I.laid (t':=s.toks) kp (aN _) (show jY X.prog X.w _ d _ (.lst i)from⟨k,c,f,g,e⟩),Fc,q _ (I.hok.fresh (aN _))⟩
 rcases hq with hq | hq
 ·obtain⟨c,g,y,k⟩:=I.list hq;have j:=g.length;obtain⟨o,x,v,n,hd⟩:=y.isList;exact call_list_seq p (.inl Fc) x v hd (λd f kp e=>fin c g k d f kp e) (by simp only[bJ]<;>lia)
 ·obtain⟨c,g,y,k⟩:=I.tuple hq;have j:=g.length;obtain⟨o,x,v,n,hd⟩:=y;exact call_list_seq p (.inr Fc) x v hd (λd f kp e=>fin c g k d f kp e) (by simp only[bJ]<;>lia)
def jF:kO X (.type "tuple") (λx H Q=>∃p f,x=[.ref p]/\((lU X.K H p f/\∀l,H l=none->Q (.ref l) (gG H l (.tup f)))\/(rO X.K H p f/\Q (.ref p) H))):=by
 intro c s y H x C Q I r h;obtain⟨p,f,rfl,h⟩:=h;obtain⟨u,rfl,B⟩:=oB r;cases B;rcases h with⟨i,q⟩ | ⟨i,q⟩
 ·obtain⟨d,k,j,v⟩:=I.list i;have t:=k.length;refine call_tuple_list j.isList (λg kp=>?_) (by simp only[bJ]<;>lia);have n:eG X c y H { s with heap:=g }:=I.kept (t':=s.toks) kp
  have z:eG X c y (gG H g.objs.size (.tup f)) { s with heap:=g.push { cls:=.type "tuple",data:=.seq d.toArray } }:=
   n.laid (t':=s.toks) (λb o e=>aJ _ e) (aN _) (show jY X.prog X.w _ _ _ (.tup f)from⟨v,d,k,C1.new _ _⟩)
  exact⟨.ref g.objs.size,_,z,Fc,q _ (n.hok.fresh (aN _))⟩
 ·obtain⟨d,k,j,v⟩:=I.tuple i;exact call_tuple_same j ⟨.ref p,H,I,Fc,q⟩
def Gm(K:aM)(T:String)(x:V)(H:Hp):Prop:=match x with
|.str _=>T="str"
|.int _=>T="int"
|.ref p=>(T="list"/\∃d,lU K H p d)\/(T="tuple"/\((∃o,K.lookup p=some o/\o.cls=.type "tuple"/\o.dict=none)\/∃d,rO K H p d)) \/
  (T="dict"/\((∃c,H p=some (.dK c))\/∃c,H p=some (.dT c)))\/(T="set"/\∃S n,H p=some (.set S n))
|_=>False
def R3{s:Shared}(I:eG X pins σ H s)(r:iL x v)(ty:Gm X.K T x H) :
  s.TypeIs v T/\∀a,v=.ref a->∃ob,s.heap.get? a=some ob/\ob.dict=none:=by
 cases x with
 |str z=>
  obtain⟨t,rfl⟩:=r;cases (show T="str" from ty);exact⟨tx s z t,λ_ e=>nomatch e⟩
 |int i=>
  obtain⟨t,rfl⟩:=r;cases (show T="int" from ty);exact⟨typeIs_int s i t,λ_ e=>nomatch e⟩
 |ref p=>
  cases r;rcases ty with⟨rfl,l,g⟩ | ⟨rfl,⟨o,hk,f,hd⟩ | ⟨l,g⟩⟩ | ⟨rfl,hk⟩ | ⟨rfl,S,n,hk⟩
  ·obtain⟨k,_,j,_⟩:=I.list g;refine⟨j.isList.typeIs,λa e=>?_⟩;cases e;obtain⟨o,n,e,c,hd,_⟩:=j;exact⟨o,e,hd⟩
  ·refine⟨⟨o,I.kIn p o hk,f⟩,λa e=>?_⟩;cases e;exact⟨o,I.kIn _ o hk,hd⟩
  ·obtain⟨o,e,f,hd⟩:=I.tupleN g;refine⟨⟨o,e,f⟩,λa d=>?_⟩;cases d;exact⟨o,e,hd⟩
  ·have z:∃o,s.heap.get? p=some o/\o.ExactDict:=by
    rcases hk with⟨h,hk⟩ | ⟨h,hk⟩
    ·obtain⟨_,_,_,_,o,_,_,e,ex,_⟩:=I.hok p _ hk;exact⟨o,e,ex⟩
    ·obtain⟨_,_,_,_,o,_,_,e,ex,_⟩:=I.hok p _ hk;exact⟨o,e,ex⟩
   obtain⟨o,e,ex⟩:=z;refine⟨⟨o,e,ex.1⟩,λa d=>?_⟩;cases d;exact⟨o,e,ex.2.1⟩
  ·obtain⟨o,_,_,_,e,ex,_⟩:=I.hok p _ hk;refine⟨⟨o,e,ex.1⟩,λa d=>?_⟩;cases d;exact⟨o,e,ex.2.1⟩
 |_=>exact j0 ty
def Hz(K:aM)(T:String)(r:V->List V->Hp->VK->Prop)(to:TE):TE:=λd H Q=>to d H λx c=>Gm K T x c/\r x [] c Q
def Ff(K:aM)(T:String)(r:V->List V->Hp->VK->Prop)(to:TE)(t:TA):TE:=λd H Q=>to d H λx c=>Gm K T x c/\t d c λf e=>r x f e Q
variable{o e:Expr}{k:List Expr}{to:TE}{t:TA}{name:Str}{g d:Pos}{T id:String}{r:V->List V->Hp->VK->Prop}
def TY(B:PlainAttrs T)(slot:Slot T name id)(j:typeOf (.builtin id)=pure (.type "method_descriptor"))(y:XF X id r)(z:PE X o to)
  (f:autoParam (v4 o name X.env (eval o X.env)=eval o X.env) zzz._auto_1) (i:autoParam ((g.endLine==d.line)=true) zzz._auto_1):PE X (.Call (.Attribute o name g) [] [] d) (Hz X.K T r to):=by
 intro c s p H Q I h;refine iy f i (jR (z c s p H _ I h) λv C E=>?_);obtain⟨x,q,l,n,ty,q1⟩:=E;obtain⟨u,w⟩:=R3 l n ty;exact⟨T,id,B,slot,j,u,w,y9 Fc (ig (y c C p q x [] v [] Q l n .nil q1))⟩
def kJ(L:PlainAttrs T)(slot:Slot T name id)(n:typeOf (.builtin id)=pure (.type "method_descriptor"))(G:XF X id r)(J:PE X o to)(F:PA X (e::k) t)
  (i:autoParam (v4 o name X.env (eval o X.env)=eval o X.env) zzz._auto_1)
  (l:((k9 d (cD (e::k) X.env)).all (λx=>!x.1)&&(backToKw d (rh [] X.env)).all (λx=>x.1.isSome)
  &&decide ((e::k).length+([]:List uf).length+(if([]:List uf).isEmpty then 0 else 1)<30))=true:=by rfl)
  (j:autoParam ((g.endLine==d.line)=true) zzz._auto_1) (hs:autoParam (cD (e::k) X.env=(false,eval e X.env)::cD k X.env) zzz._auto_1) (f:autoParam ((k9 d (cD k X.env)).any (·.1)=false) zzz._auto_1) :
  PE X (.Call (.Attribute o name g) (e::k) [] d) (Ff X.K T r to t):=by
 intro c s p H Q I h;refine jh i l j Fc (jR (J c s p H _ I h) λv O S=>?_);obtain⟨x,y,q,w,ty,q1⟩:=S;obtain⟨C,E⟩:=R3 q w ty;refine⟨T,id,L,slot,n,C,E,?_⟩;have u:=F d c O p y _ q q1;rw[hs]at u |-
 refine y9 (by show(false||(k9 d (cD k X.env)).any (·.1))=false;rw[f]<;>rfl) (gg ?_);exact jR u λR P ⟨vs,z,B,N,M⟩=>G c P p z x vs v R Q B w N M
end
def Ij(X:Cx)(id:String)(r:V->List V->Hp->VK->Prop):Prop:=
 ∀pins s σ H(x:V)(b:List V)(v:Value)(a:List Value)Q,eG X pins σ H s->iL x v->gM b a->r x b H Q ->
  wpAny (model X.prog X.w) X.A (call (.builtin id) (v::a)) (EP X pins σ Q) X.xe s
def gM.one:∀{x us},gM [x] us->∃u,us=[u]/\iL x u
|_,_,.cons r .nil=>⟨_,Fc,r⟩
def gM.zero:∀{us},gM [] us->us=[]
|_,.nil=>rfl
theorem gM.dropLast{b:List V}{a:List Value}(h:gM b a):gM b.dropLast a.dropLast:=by
 induction h with
 |nil=>exact .nil
 |cons r t c=>
  cases t with
  |nil=>exact .nil
  |cons q d=>exact .cons r c
def MB{d:Type}(l:List d):l.eraseIdx (l.length-1)=l.dropLast:=by
 induction l with
 |nil=>rfl
 |cons a r c=>
  cases r with
  |nil=>rfl
  |cons b r=>
   have e:(a::b::r).length-1=((b::r).length-1)+1:=by
    have f:(a::b::r).length=r.length+2:=rfl;have g:(b::r).length=r.length+1:=rfl;lia
   rw[e,List.eraseIdx_cons_succ,c]
   all_goals rfl
section
variable{X:Cx}{a:List (Addr×Obj)}{c:St}{H:Hp}{s:Shared}{l:Addr}{d b:List V}
def eG.lset{g its':List Value}{n:Nat}{f:Array Value->Array Value}{p:Nat}(I:eG X a c H s)(h:H l=some (.lst d))
  (e:s.heap.get? l=some { cls:=.type "list",data:=.seq g.toArray n }) (j:f g.toArray=its'.toArray) (m:gM b its') (o:b.length<=bO) :
  eG X a c (gG H l (.lst b)) { s with heap:=s.heap.update l (c9 f),toks:=p }:=by
 have q:=PySem.IsL.update e f;rw[j]at q;refine I.write (x:=l) (e:=l) (by rw[h];exact trivial) (.inl Fc) (λr u i k=>(iH s.heap (c9 f) (l5 i)).trans k) ⟨_,q⟩ ?_;exact⟨o,its',_,m,q⟩
def eG.lnew{e:List Value}{t':Nat}(I:eG X a c H s)(f:gM b e)(g:b.length<=bO) :
  eG X a c (gG H s.heap.objs.size (.lst b)) { s with heap:=s.heap.push { cls:=.type "list",data:=.seq e.toArray },toks:=t' }:=
 I.laid (λ_ _ q=>aJ _ q) (aN _) ⟨g,e,0,f,aW _ Fc⟩
theorem eG.fresh(I:eG X a c H s):H s.heap.objs.size=none:=I.hok.fresh (aN _)
def eG.lstM(I:eG X a c H s)(g:H l=some (.lst d)):d.length<=bO/\∃(f:List Value)(n:Nat),gM d f/\d.length=f.length/\s.heap.get? l=some { cls:=.type "list",data:=.seq f.toArray n }:=by
 obtain⟨z,f,n,r,e⟩:=I.hok l _ g;exact⟨z,f,n,r,r.length,e⟩
def UE{n:Nat}(h:n<=bO):u4 n=false:=by
 unfold u4;exact c4 Ez
end
section
variable{X:Cx}
def NO:V->List V->Hp->VK->Prop:=λx vs H Q=>∃l a y,x=.ref l/\vs=[y]/\H l=some (.lst a)/\a.length<bO/\Q .non (gG H l (.lst (a++[y])))
def iF:Ij X "list.append" NO:=by
 intro c s o H x vs v k Q I g f h;obtain⟨l,m,y,rfl,rfl,b,j,q⟩:=h;cases g;obtain⟨u,rfl,d⟩:=f.one;obtain⟨z,a,n,r,i,e⟩:=I.lstM b;refine br F.slot_list_append ⟨_,e,Fc⟩ F.entry_list_append (F.args_list_append_2 _ _) (PySem.list_append l a.toArray n u (by rw[bJ];lia)) ⟨e,?_⟩;refine⟨.non,_,I.lset (its':=a++[u]) b e Fa (r.append (.cons d .nil)) ?_,Fc,q⟩;rw[bH,kZ];lia
def Hw:V->List V->Hp->VK->Prop:=λx vs H Q=>∃l a y,x=.ref l/\vs=[]/\H l=some (.lst a)/\a[a.length-1]?=some y/\Q y (gG H l (.lst a.dropLast))
def UU:Ij X "list.pop" Hw:=by
 intro f s w H x vs v p Q I o m h;obtain⟨l,t,y,rfl,rfl,d,j,q⟩:=h;cases o;have b:=m.zero;subst b;obtain⟨z,a,n,r,g,e⟩:=I.lstM d;obtain⟨u,i,k⟩:=r.get j
 have c:a.toArray[a.toArray.size-1]?=some u:=by
  show a.toArray[a.length-1]?=some u;rw[<- eD,<- g];exact i
 refine br F.slot_list_pop ⟨_,e,Fc⟩ F.entry_list_pop (F.args_list_pop_1 _) (MeetsSeq.list_pop_last l a.toArray n u c (by rw[bJ];lia)) ⟨e,?_⟩;refine⟨y,_,I.lset (its':=a.dropLast) d e ?_ r.dropLast ?_,k,q⟩
 ·show a.toArray.eraseIdxIfInBounds (a.toArray.size-1)=a.dropLast.toArray;rw[bJ,List.eraseIdxIfInBounds_toArray,MB]
 ·rw[O0];lia
end
end L2
namespace Att
open PySem.W PySem.Calls
def AC{h}:∀(ns:List Int)(vs:List Value),WellAll P h vs (ns.map WData.int)->IntsAre vs ns:=by
 intro ns
 induction ns with
 |nil=>
  intro vs w;rw[lW]at w;cases w;exact .nil
 |cons n ns c=>
  intro vs w;rw[bE]at w
  cases w with
  |cons a b=>
   cases a;exact .cons _ _ (c _ b)
def PP{l:OpenLaw}{n:Nat}(p:l.most=some n){h:Heap}{vals}
  (b:l.row.toRowW.claim.pre args=true) (i:WellAll P h vals args) :
  ∃a vs ns,vals=[c8 a]/\args=[WData.list (ns.map WData.int)]/\h.get? a=some { cls:=.type "list",data:=.seq vs.toArray }/\IntsAre vs ns/\ns.length<=n:=by
 have hsh:WShape.hasAll [] args [.list .int]=true:=(pre_splitW b).1;have j:l.pre.holds [] { args:=args }=true:=(pre_splitW b).2;obtain⟨d,r,rfl,k,m⟩:=hasAllW_cons hsh;obtain rfl:=hasAllW_nil m;obtain⟨w,rfl,o⟩:=hasW_list k;obtain⟨ns,rfl⟩:=items_int o
 have e:ns.length<=n:=by
  unfold OpenLaw.pre at j
  have f:(WTm.not (.lt (.lit (.int (n:Int))) (.len (.arg 0)))).holds [] { args:=[.list (ns.map .int)] }=true:=by
   have f:=(holds_andW j).1;rw[p]at f;exact f
  have g:=condW_of f (w_not (w_lt w_lit (w_len_list (w_arg Fc))));rw[aC]at g;refine aA5 λq=>?_;have t:(n:Int)<((ns.length:Nat):Int):=by lia
  first
   | (rw[a8 t]at g;exact a9 g Ey)
   | (simp at g;lia)
 cases i with
 |cons u v=>
  cases v
  cases u with
  |list s c=>exact⟨_,_,ns,Fc,Fc,s,AC ns _ c,e⟩
def PX(l:OpenLaw)(args:List WData):l.row.toRowW.claim.post args (.bool true) args=true:=
 postW_of (r:=l.row.toRowW) (X:=(true==true))
  (show WShape.has [] (.bool true) .bool=true by first | rfl | decide | simp[WShape.has,WShape.arms,WShape.armsAll])
  (show(WTm.eq .res (.lit (.bool true))).value [] { args:=args,res:=some (.bool true),after:=args }=some (.bool (true==true))from w_eq_bool (w_res Fc) w_lit) Fc
def attach_call{l:OpenLaw}{n:Nat}{v:(Str->Option Value)->Heap->Prop}{x:c7->Heap->Prop}{d:DefRec}
  (K:l.most=some n) (m:d.params.defaults=[])
  (call:∀(w:c7)(s₀ b:Shared)(mg t:Str->Option Value)(fa:Addr)(o:Obj)(u cd c:Value)(a:Addr)(vs:List Value)(ns:List Int),
   Ground q loose [] v w s₀ mg t b.heap->x w b.heap ->
   b.heap.get? fa=some o->o.data=.func (docDef d.name d.params d.body d.scope u cd c)->b.heap.CodeRec cd d.name->mg d.name=some (.ref fa) ->
   b.heap.get? a=some { cls:=.type "list",data:=.seq vs.toArray }->IntsAre vs ns->ns.length<=n->b.gens=#[] ->
   z8 (model l.prog w) dv (.call (.ref fa) ⟨[.ref a],[]⟩) (λr j=>r=.ok (.ret (.bool true))/\OldK b.heap j.heap/\j.os=b.os/\bh j.gens) b) :
  WalkO q loose v x l.row.toRowW d [] (λf vs=>ij f vs):=by
 intro w s₀ b mg t G Y fa o u cd c B kV L hd k z p H y vals O i A N s I;obtain rfl:B=.none:=Dflts.none z m;obtain rfl:kV=.none:=Dflts.noKw z;obtain⟨a,vs,ns,rfl,rfl,h,e,g⟩:=PP K i s;refine enter_call (aj (call w s₀ b mg t fa o u cd c a vs ns G Y L (fd_plain hd) k p h e g H) λr j M=>?_);obtain⟨rfl,C,E,F⟩:=M;exact⟨.inl ⟨.bool true,.bool true,[],Fc,λ_=>rfl,.bool true,PX l _,λ_=>⟨HL.nil,λ_ J=>(nomatch J)⟩⟩,C,E,F⟩
end Att
namespace L2
theorem DX:∀{vs}{ns:List Int},IntsAre vs ns->gM (ns.map V.int) vs
|_,_,.nil=>.nil
|_,_,.cons n t h=>.cons ⟨t,Fc⟩ (DX h)
def Hg(H:Hp):Prop:=∀b,H b=none\/(∃o c,H b=some (.frz o (.lst c)))\/(tabA=some b/\∃a,H b=some (.tbl a))
def U7{K:aM}{mg mb:Str->Option Value}{CX:XH}{k:Nat}{fa a:Addr}{x:Str}{sp:Sp}{f:Shared}{vs:List Value}{ns:List Int}
  (KX:K.In f.heap) (T:f.heap.Ns iR mg) (i:f.heap.Ns ab mb) (Az:∀x:Str,x≠"__name__"->mb x=d1 x) (S:f.heap.NoLimit) (hg:f.gens=#[])
  (O:f.heap.get? a=some { cls:=.type "list",data:=.seq vs.toArray }) (hi:IntsAre vs ns) (hl:ns.length<=bO) (hr:Room k dv)
  (Bc:∃Q o,mg "__builtins__"=some (.ref Q)/\Q≠ab/\f.heap.get? Q=some o/\o.cls=.type "module"/\o.dict=some ab/\o.data=.plain)
  (I:∀P,tabA=some P->f.heap.get? P=some { cls:=.none,data:=.fields #[] }/\K.lookup P=none/\cn f.heap P)
  (F:∀base:Heap,K.In base->base.Ns iR mg->dS P w K mg base CX k fa fd [x] sp) (J:∀s(u:Value),BindsTo s fd ⟨[u],[]⟩ [(x,u)])
  (yu:∀H:Hp,Hg H->lU K H a (ns.map V.int)->sp [.ref a] H (λv _=>v=.bl true) λ_ _ _=>False)
  (Y:∀H e y,CX [] H f (λ_ _ _=>False) e y->False) :
  z8 (model P w) dv (.call (.ref fa) ⟨[.ref a],[]⟩) (λr y=>r=.ok (.ret (.bool true))/\OldK f.heap y.heap/\y.os=f.os/\bh y.gens) f:=by
 have rv:=DX hi;have U:=hi.length
 have aT:∀P,tabA=some P->P≠a:=λP e z=>by
  have l:=(I P e).1;rw[z,O]at l;cases l
 have C:∀H:Hp,Hg H->lU K H a (ns.map V.int)->vN P w H f.heap->(∀b,H b≠none->b=a\/tabA=some b)->(H a≠none->K.lookup a=none)->Tb H ->
   z8 (model P w) dv (.call (.ref fa) ⟨[.ref a],[]⟩) (λr y=>r=.ok (.ret (.bool true))/\OldK f.heap y.heap/\y.os=f.os/\bh y.gens) f:=by
  intro H hO hS hok X hK Z;have j:∀{b:Addr}{o:Obj},f.heap.get? b=some o->H b=none->(GG f.heap H).get? b=some o:=λe n=>VP e n
  have Cw:∀{b:Addr}{o:Obj}{M:Array x9}{L:Nat},f.heap.get? b=some o->o.data=.dict M L->H b=none:=λ{b o M L} e d=>by
   cases q:H b with
   |none=>rfl
   |some u=>
    rcases X b (by rw[q];simp)with e' | e'
    ·subst e';rw[O]at e;cases e;have G:Data.seq vs.toArray _=Data.dict M L:=d;cases G
    ·rw[(I b e').1]at e;cases e;have G:dm #[]=Data.dict M L:=d;cases G
  have Cy:∀{b:Addr}{o:Obj},f.heap.get? b=some o->o.data=.plain->H b=none:=λ{b o} e d=>by
   cases q:H b with
   |none=>rfl
   |some u=>
    rcases X b (by rw[q];simp)with e' | e'
    ·subst e';rw[O]at e;cases e;have G:Data.seq vs.toArray _=Data.plain:=d;cases G
    ·rw[(I b e').1]at e;cases e;have G:dm #[]=Data.plain:=d;cases G
  have A:∀{b:Addr}{m:Str->Option Value},f.heap.Ns b m->(GG f.heap H).Ns b m:=λ{b m} ⟨o,M,L,e,d,r⟩=>⟨o,M,L,j e (Cw e d),d,r⟩
  have R:K.In (GG f.heap H):=λb o e=>j (KX b o e) (by
   cases q:H b with
   |none=>rfl
   |some u=>
    rcases X b (by rw[q];simp)with e' | e'
    ·subst e';rw[hK (by rw[q];simp)]at e;cases e
    ·rw[(I b e').2.1]at e;cases e)
  have hM:Mod K mg (GG f.heap H):=⟨R,A T,⟨mb,A i,Az⟩,let ⟨mc,l,N⟩:=S;⟨mc,A l,N⟩,let ⟨Q,o,b1,b2,b3,b4,b5,b6⟩:=Bc;⟨Q,o,b1,b2,j b3 (Cy b3 b6),b4,b5,b6⟩⟩;have e0:MU P w K mg (GG f.heap H) dv [] f H:=⟨Fc,hM,λb o e=>ZE e,nW (QN _ _),trivial,λb i=>a9 (show b∈([]:List Addr)from i) Fa,hok,.of_eq hg,Z⟩;refine aj ((F _ R (A T)).run dv [] f H ⟨[.ref a],[]⟩ [.ref a] [.ref a] _ _ hr e0 (J f (.ref a)) (.cons Fc .nil) (yu H hO hS)) λr y h=>?_
  cases r with
  |error e=>exact(Y H e y h).elim
  |ok fl=>
   cases fl with
   |next=>exact j0 h
   |brk=>exact j0 h
   |cont=>exact j0 h
   |ret u=>
    obtain⟨v,H',os,bare,un,E,r',q⟩:=h;have q':v=.bl true:=q;subst q';obtain rfl:u=u6 true:=r'
    have old:∀b o,f.heap.get? b=some o->y.heap.get? b=some o\/(cn f.heap b/\o={ cls:=.none,data:=.fields #[] }/\∃qs:Array Value,y.heap.get? b=some { cls:=.none,data:=.fields qs }):=λb o e=>by
     cases q:H b with
     |none=>exact .inl (un.keep b o e q (by intro z;exact a9 (show b∈([]:List Addr)from z) Fa) Fa)
     |some u=>
      rcases hO b with z | ⟨ob,xs,z⟩ | ⟨t,ps,z⟩
      ·rw[q]at z;cases z
      ·have z2:=un.frzs b ob _ z;obtain⟨e1,_⟩:=hok b _ z;obtain⟨W,_⟩:=E b _ z2;rw[e]at e1;cases e1;exact .inl W
      ·obtain⟨l,N,h3⟩:=I b t;obtain⟨m,z2⟩:=un.tbls b ps z;obtain⟨qs,W,_⟩:=E b _ z2;rw[e]at l;cases l;exact .inr ⟨h3,Fc,qs,W⟩
    refine⟨Fc,⟨λb o e=>?_,λb o e=>?_⟩,os,bare⟩
    ·rcases old b o e with l | ⟨l,rfl,qs,N⟩
     ·exact .inl l
     ·exact .inr (.inl ⟨l,Fc,#[],qs,Fc,by rw[N];simp⟩)
    ·rcases old b o e with l | ⟨l,rfl,qs,N⟩
     ·exact⟨_,l⟩
     ·exact⟨_,N⟩
 have dT:∀b,Decidable (tabA=some b):=λb=>inferInstance
 cases hk:K.lookup a with
 |some o=>
  have e:=KX a o hk;rw[O]at e;cases e;refine C (λb=>if tabA=some b then some (.tbl #[])else none) (λb=>?_) (.inr ⟨_,vs.toArray,_,hk,Fc,Fc,Fc,by rw[bJ,U];exact hl,by simpa using rv⟩) (λb u z=>?_) (λb z=>?_) (λz=>?_) λP e=>⟨#[],a7 e⟩
  ·by_cases i:tabA=some b
   ·exact .inr (.inr ⟨i,#[],a7 i⟩)
   ·exact .inl (a6 i)
  ·by_cases i:tabA=some b
   ·have B:=(a7 i).symm.trans z;cases B;exact⟨#[],(I b i).1,trivial,λp c q=>by cases q⟩
   ·have B:=(a6 i).symm.trans z;cases B
  ·by_cases i:tabA=some b
   ·exact .inr i
   ·exact a9 (a6 i) z
  ·exact a9 (a6 λe=>aT a e Fc) z
 |none=>
  refine C (λb=>if tabA=some b then some (.tbl #[])else if b=a then some (.frz { cls:=.type "list",data:=.seq vs.toArray } (.lst (ns.map V.int)))else none) (λb=>?_) (.inl (.inr ⟨{ cls:=.type "list",data:=.seq vs.toArray },(a6 λe=>aT a e Fc).trans (a7 Fc)⟩)) (λb u z=>?_) (λb z=>?_) (λ_=>hk) λP e=>⟨#[],a7 e⟩
  ·by_cases g:tabA=some b
   ·exact .inr (.inr ⟨g,#[],a7 g⟩)
   ·by_cases i:b=a
    ·exact .inr (.inl ⟨_,_,(a6 g).trans (a7 i)⟩)
    ·exact .inl ((a6 g).trans (a6 i))
  ·by_cases g:tabA=some b
   ·have B:=(a7 g).symm.trans z;cases B;exact⟨#[],(I b g).1,trivial,λp c q=>by cases q⟩
   ·by_cases i:b=a
    ·have B:=((a6 g).trans (a7 i)).symm.trans z;cases B;subst i;exact⟨O,by rw[aC];exact hl,vs,_,rv,O⟩
    ·have B:=((a6 g).trans (a6 i)).symm.trans z;cases B
  ·by_cases g:tabA=some b
   ·exact .inr g
   ·by_cases i:b=a
    ·exact .inl i
    ·exact a9 ((a6 g).trans (a6 i)) z
def XU{l:db}{n k:Nat}{I:(Str->Option Value)->Heap->Prop}{p:c7->Heap->Prop}{d:DefRec}{K:Params->aM}{CX:c7->XH}{sp:c7->Sp}
  (X:l.most=some n) (A:n<=bO) (y:d.params.defaults=[]) (Z:Room k dv)
  (Q:∀(w:c7)(h:Heap),p w h->(K w.params).In h) (O:∀(w:c7)(h:Heap),p w h->∀P,tabA=some P->h.get? P=some { cls:=.none,data:=.fields #[] }/\(K w.params).lookup P=none/\cn h P)
  (F:∀(w:c7)(mg:Str->Option Value)(fa:Addr)(h:Heap),(K w.params).In h->h.Ns iR mg->mg d.name=some (.ref fa) ->
   ∃r:iW,(∀s(u:Value),BindsTo s r ⟨[u],[]⟩ [(x,u)]) /\
    ∀base:Heap,(K w.params).In base->base.Ns iR mg->dS l.prog w (K w.params) mg base (CX w) k fa r [x] (sp w))
  (B:∀(w:c7)H(a:Addr)(ns:List Int),ns.length<=n->Hg H->lU (K w.params) H a (ns.map V.int)->sp w [.ref a] H (λv _=>v=.bl true) λ_ _ _=>False)
  (t:∀(w:c7)H s(e:Value)C,CX w [] H s (λ_ _ _=>False) e C->False) :
  XJ q loose I p l.row.toRowW d [] (λf vs=>ij f vs):=by
 refine Att.attach_call X y λw s₀ m mg mb fa o pm cd J a vs ns G Y ho hd S z j i c U=>?_;have E:=Q w _ Y;obtain⟨r,R,L⟩:=F w mg fa _ E G.T.g z;exact U7 E G.T.g G.T.b G.T.builtins G.T.nolimit U j i (bG c A) Z G.T.bmain (O w _ Y) L R (λH M N=>B w H a ns c M N) λH e C=>t w H m e C
noncomputable def xO(s:Stmt):Arguments:=match s with
|.FunctionDef _ a _ _ _ _ _ _ _ _=>a
|_=>{ posonlyargs:=[],args:=[],vararg:=none,kwonlyargs:=[],kw_defaults:=[],kwarg:=none,defaults:=[] }
noncomputable def mK(s:Stmt):List Stmt:=match s with
|.FunctionDef _ _ b _ _ _ _ _ _ _=>b
|_=>[]
noncomputable def bA(s:Stmt):Scope:=match s with
|.FunctionDef _ _ _ _ _ _ sc _ _ _=>sc
|_=>{ kind:=.function,names:=[],isGenerator:=false,isCoroutine:=false }
abbrev hX:XH:=λ_ _ _ _ _ _=>False
abbrev E0:XK:=λ_ _ _=>False
def zO:zD hX X E0:=λ_ _ _ _ _ _ _ h=>h.elim
structure RD(K:aM)(x qual:Str)(st:Stmt)(f:Addr)(fd:iW):Prop where
 ex:∃(oc:Value)(od:Option Addr)(kV sh pm:Value)(an:Option Addr)(er ct:Value)(ul:Array (Option Value)),
  fd=nG x qual (xO st) (mK st) (bA st) .none kV sh pm an er ct/\K.lookup f=some ⟨oc,od,.func fd,ul⟩/\pL K er qual=true
 kp:iD K (.ref f)=true
section
variable{P:cN}{w:c7}{K:aM}{mg:Str->Option Value}{base:Heap}
def RD.ok{st}{f:Addr}{N e:List Str}{k:Nat}{g:Sp}(F:RD K x qual st f fd)(S:bX N e (bA st))(len:∀vs H Q E,g vs H Q E->vs.length=e.length)
  (b:∀(a:Value)(A:d0)outer(s:Shared)H(vs:List V)Q E,Room k (A.deeper (aq qual (bA st) s.heap.objs.size f a))->g vs H Q E ->
   ∃t,AH (AE hX P w K mg base N qual (bA st) f a A outer s H E).nox (mK st) t/\t { nx:=λ_ i=>Q .non i,rt:=Q } (qS N vs) H):dS P w K mg base hX (k+1) f fd e g:=by
 obtain⟨o,p,kV,j,r,an,a,ct,n,rfl,m,c⟩:=F.ex;refine Ko m c S len λA outer s H vs Q E l d=>?_;obtain⟨t,h,q⟩:=b a A outer s H vs Q E l d;exact⟨t,h.nox,q⟩
def RD.binds{st}{f:Addr}{d:List Str}(F:RD K x qual st f fd)
  (h:∀(kV b c:Value)(an:Option Addr)(a ct:Value)(e:List Value),e.length=d.length->bindArgs (nG x qual (xO st) (mK st) (bA st) .none kV b c an a ct) ⟨e,[]⟩=pure (d.zip e)):sS K fd d []:=by
 obtain⟨k,l,kV,b,c,an,a,ct,i,rfl,j,g⟩:=F.ex;exact .all (h kV b c an a ct)
def VX{st}{f:Addr}{kV}(l:K.lookup f=some ⟨oc,od,.func (nG x qual (xO st) (mK st) (bA st) .none kV sh pm an er ct),ul⟩)
  (c:pL K er qual=true) (k:iD K (.ref f)=true):RD K x qual st f (nG x qual (xO st) (mK st) (bA st) .none kV sh pm an er ct):=⟨⟨oc,od,kV,sh,pm,an,er,ct,ul,Fc,l,c⟩,k⟩
end
def PH{n:Nat}(h:n<=1000):n<bO:=qN h Ey
section
variable{X:Cx}
def pv(i:Nat){x:Str}(b:autoParam (X.N[i]?=some x) zzz._auto_1)(c:autoParam (Gb X.env.scope x) zzn._auto_1)(hd:autoParam ((x==("__debug__":Str))=false) zzy._auto_1)
  (a:autoParam ((x==("__classdict__":Str))=false) zzy._auto_1):PE X (.Name x pos) (sU i):=TJ b c hd a
end
def bR(H a:Hp):Prop:=∀b o,H b=some o->a b=some o
def bR.refl(H:Hp):bR H H:=λ_ _ h=>h
def bR.trans(a:bR H H1)(b:bR H1 H2):bR H H2:=λc o h=>b c o (a c o h)
def bR.seq{K}{a:Addr}(e:bR H H')(h:lU K H a xs):lU K H' a xs:=by
 rcases h with(h | ⟨o,h⟩) | h
 ·exact .inl (.inl (e _ _ h))
 ·exact .inl (.inr ⟨o,e _ _ h⟩)
 ·exact .inr h
def Z7{E:Value->Shared->Prop}{Q:Unit->Shared->Prop}(a:Q () s) :
  wpAny M A (l8 tg it (.str z t)) Q E s:=by
 unfold l8
 cases tg<;>first
  |exact aG a
  | (cases it<;>exact aG a)
noncomputable def Gj(z:Str):It:=⟨λi _=>i<z.cps.size,λi H x a=>a=H/\∃c,z.cps[i]?=some c/\x=.str ⟨#[c]⟩,λi _=>z.cps.size<=i⟩
def O5{K}(it:Addr)(z:Str)(t:Tok)
  (W:∀A:d0,A.handled=none->Walks P w A it [it] [it] z.cps.size (SignAt z) (λi h=>h.IsStrIter it ty z t i))
  (S:∀A(i:Nat)(s:Shared)Q E,s.heap.IsStrIter it ty z t i->Q (.ref it) s->wpAny (model P w) A (bg (.ref it)) Q E s) :
  C0 P w K tg (Gj z) [it] it (λi h=>i<=z.cps.size/\h.IsStrIter it ty z t i) where
 mem:=by simp
 obj:=λi h st b hb=>by
  obtain rfl:b=it:=by simpa using hb
  obtain⟨_,o,e,c,d⟩:=st;exact⟨o,e,λv q=>by rw[d]at q;cases q⟩
 keep:=λi h h' st k=>by
  obtain⟨l,o,e,r⟩:=st;exact⟨l,o,k it Fa o e,r⟩
 item:=by
  intro X hP hw hK hc i pins s σ H E I hf st hg;subst hP hw hK;obtain⟨f0,f1,f2,f3,f4,f5⟩:=hf it Fa;refine(W X.A (I.ok.hd hc)).item i s _ _ hg st.2 λv h' tk hv eh kk=>?_;obtain⟨c,u,hx,rfl⟩:=hv;have I1:eG X pins σ H { s with heap:=h',toks:=tk }:=I.turned (λb o hb e=>kk b o (by simpa using hb) e) f0 f1 f3 f4 f5;exact⟨_,Fc,Z7 ⟨.str ⟨#[c]⟩,H,I1,⟨u,Fc⟩,⟨Fc,c,hx,Fc⟩,⟨hg,eh⟩,λb hb=>(hf b hb).1⟩⟩
 done:=by
  intro X hP hw hK hc i pins s σ H E I hf st hg;subst hP hw hK;obtain⟨f0,f1,f2,f3,f4,f5⟩:=hf it Fa;have e:i=z.cps.size:=aCy st.1 hg;subst e;exact(W X.A (I.ok.hd hc)).done s _ _ st.2 λh' tk kk=>⟨Fc,I.turned (λb o hb e=>kk b o (by simpa using hb) e) f0 f1 f3 f4 f5⟩
 self:=λA i s Q E st h=>S A i s Q E st.2 h
def Oz(K:aM)(d:TE):TI:=λe H R=>d e H λx b=>(∃a,x=.ref a/\(∃c,lU K b a c)/\R (Im K a) b)\/(∃a,x=.ref a/\(∃c,rO K b a c)/\R (Ik K a) b)\/∃z,x=.str z/\R (Gj z) b
def Ze{X:Cx}(B:PE X l tl):PI X tg l (Oz X.K tl):=by
 intro f s y H R I h;refine jR (B f s y H _ I h) λv c J=>?_;obtain⟨x,k,d,r,q1⟩:=J;rcases q1 with⟨a,rfl,⟨G,n⟩,q⟩ | ⟨a,rfl,⟨G,n⟩,q⟩ | ⟨z,rfl,q⟩
 ·cases r;obtain⟨j,F,p,C⟩:=d.list n;refine v9 p.isList ⟨c.heap.objs.size,[c.heap.objs.size],_,_,k,Fc,d.kept (t':=c.toks) λb o e=>aJ _ e,O6 a _,⟨_,aW _ Fc,Fc,Fc⟩,λb g=>?_,q⟩;obtain rfl:b=c.heap.objs.size:=by simpa using g
  exact d.fpOk (aN _) (d.hok.fresh (aN _))
 ·cases r;obtain⟨j,F,p,C⟩:=d.tuple n;refine uc (show c.heap.IsTuple a j.toArray from p) ⟨c.heap.objs.size,[c.heap.objs.size],_,_,k,Fc,d.kept (t':=c.toks) λb o e=>aJ _ e,KW a _,⟨_,aW _ Fc,Fc,Fc⟩,λb g=>?_,q⟩;obtain rfl:b=c.heap.objs.size:=by simpa using g
  exact d.fpOk (aN _) (d.hok.fresh (aN _))
 ·obtain⟨t,rfl⟩:=r
  have fin:∀(o:Obj)(ty:String),(∀A:d0,A.handled=none->Walks X.prog X.w A c.heap.objs.size [c.heap.objs.size] [c.heap.objs.size] z.cps.size (SignAt z) (λi h=>h.IsStrIter c.heap.objs.size ty z t i)) ->
    (∀A(i:Nat)(s:Shared)Q E,s.heap.IsStrIter c.heap.objs.size ty z t i->Q (.ref c.heap.objs.size) s->wpAny (model X.prog X.w) A (bg (.ref c.heap.objs.size)) Q E s) ->
    (c.heap.push o).IsStrIter c.heap.objs.size ty z t 0->Ii X f y tg R (.ref c.heap.objs.size) { c with heap:=c.heap.push o }:=λo ty W S st=>by
   refine⟨c.heap.objs.size,[c.heap.objs.size],_,Gj z,k,Fc,d.kept (t':=c.toks) λb o e=>aJ _ e,O5 _ z t W S,⟨cI _,st⟩,λb g=>?_,q⟩;obtain rfl:b=c.heap.objs.size:=by simpa using g
   exact d.fpOk (aN _) (d.hok.fresh (aN _))
  cases u:z.cps.all (·<128)
  ·exact wpAny_pyIter_wide u (fin _ "str_iterator" (λA m=>Walks.strWide m _ z t) (λ_ _ _ _ _ st h=>wpAny_pyIter_striter_wide st h) ⟨_,aW _ Fc,Fc,Fc⟩)
  ·exact wpAny_pyIter_ascii u (fin _ "str_ascii_iterator" (λA m=>Walks.strAscii m _ z t) (λ_ _ _ _ _ st h=>wpAny_pyIter_striter_ascii st h) ⟨_,aW _ Fc,Fc,Fc⟩)
set_option genInjectivity false in
structure BP where
 cl:List (Str×Addr)
 C:Addr
 s3:Shared
 H3:Hp
 ex:List Addr
 pn:List (Addr×Obj)
noncomputable def blk(X:Cx)(scope:Scope)(N':List Str)(b:BP):Cx where
 prog:=X.prog
 w:=X.w
 K:=X.K
 mg:=X.mg
 base:=X.base
 A:=X.A
 N:=N'
 s₀:=b.s3
 H₀:=b.H3
 env:=compEnvC scope b.cl b.C X.env
 outer:=X.stack
 stack:=X.stack
 ex:=b.ex
 fn:=λx=>scope.names.lookup x==some .cell
 calm:=X.calm
 pn:=b.pn
 xe:=λ_ _=>False
theorem wC{env:Env}:∀(f:List (Str×u5))(b:List (Str×Addr)),(∀x∈f,x.2=.free->∃c,env.cells.lookup x.1=some c) ->
 (∀n c,b.lookup n=some c->env.cells.lookup n=some c) ->
 ∃cl:List (Str×Addr),(qy f b (λx o=>match x with | (name,kind)=>if kind==.free then do let a <- cellOf env name;pure (g6 ((name,a)::o))else pure (g6 o)):Sem (List (Str×Addr)))=pure cl /\
  (∀n c,cl.lookup n=some c->env.cells.lookup n=some c)/\(∀n,((∃c,b.lookup n=some c)\/(n,e9)∈f)->∃c,cl.lookup n=some c)
|[],b,_,ha=>⟨b,Fc,ha,λn h=>h.elim id λz=>a9 z Fa⟩
| (n,k)::r,b,h,ha=>by
 by_cases hk:k=.free
 ·subst hk;obtain⟨c,p⟩:=h (n,.free) (aU ..) Fc
  obtain⟨cl,e,i,j⟩:=wC r ((n,c)::b) (λx l=>h x (aO _ l)) (λm d hm=>by
   rw[gW]at hm
   cases g:m==n with
   |true=>
    rw[g]at hm;obtain rfl:m=n:=by simpa using g
    cases hm;exact p
   |false=>rw[g]at hm;exact ha m d hm)
  refine⟨cl,?_,i,λm hm=>j m ?_⟩
  ·rw[aA9];have s:cellOf env n=pure c:=by unfold cellOf;rw[p]
   simp only[ii,ak,s];exact e
  ·rcases hm with⟨d,hd⟩ | hm
   ·left
    rw[gW]
    cases g:m==n with
    |true=>exact⟨c,Fc⟩
    |false=>exact⟨d,hd⟩
   ·rcases aY.mp hm with z | z
    ·left
     cases z;exact⟨c,by simp[gW]⟩
    ·exact .inr z
 ·obtain⟨cl,e,i,j⟩:=wC r b (λx l=>h x (aO _ l)) ha;refine⟨cl,?_,i,λm hm=>j m (hm.imp id λz=>?_)⟩
  ·rw[aA9];have q:(k==e9)=false:=by simpa using hk
   simp only[q,eH,g9];exact e
  ·rcases aY.mp z with z | z
   ·cases z;exact a9 Fc hk
   ·exact z
def wB{env:Env}{scope:Scope}(h:∀x∈scope.names,x.2=.free->∃c,env.cells.lookup x.1=some c) :
  ∃cl,closureFor scope env=pure cl/\(∀n c,cl.lookup n=some c->env.cells.lookup n=some c)/\∀n,(n,e9)∈scope.names->∃c,cl.lookup n=some c:=by
 obtain⟨cl,e,a,b⟩:=wC (env:=env) scope.names [] h (λn c z=>by simp at z);refine⟨cl,?_,a,λn z=>b n (.inr z)⟩;unfold closureFor;refine Eq.trans ?_ (e7 (λm=>m >>= λr=>(pure r:Sem (List (Str×Addr)))) e)
 rfl
theorem rZ{env:Env}:∀{names:List (Str×u5)},
 (names.map λ(n,k)=>if(k==e9&&env.scope.kind==.function&&env.kindOf n==some .cell)then(n,d4)else(n,k)).lookup x=some k ->
 ∃b,(x,b)∈names/\(b=k\/(b=.free/\k=.cell))
|[],h=>by simp at h
| (n,j)::r,h=>by
 rw[bE,gW]at h;dsimp only at h;by_cases c:(j==e9&&env.scope.kind==.function&&env.kindOf n==some .cell)=true
 ·rw[a7 c]at h;dsimp only at h
  cases a:x==n with
  |true=>
   rw[a]at h;obtain rfl:x=n:=by simpa using a
   cases h;have f:j=.free:=by simp only[dM,fk]at c;exact c.1.1
   exact⟨j,aU ..,.inr ⟨f,Fc⟩⟩
  |false=>
   rw[a]at h;obtain⟨b,d,e⟩:=rZ (names:=r) h;exact⟨b,aO _ d,e⟩
 ·rw[a6 c]at h;dsimp only at h
  cases a:x==n with
  |true=>
   rw[a]at h;obtain rfl:x=n:=by simpa using a
   cases h;exact⟨_,aU ..,.inl Fc⟩
  |false=>
   rw[a]at h;obtain⟨b,d,e⟩:=rZ (names:=r) h;exact⟨b,aO _ d,e⟩
theorem wZ{env:Env}:∀{names:List (Str×u5)},names.lookup x=some .free ->
 (names.map λ(n,k)=>if(k==e9&&env.scope.kind==.function&&env.kindOf n==some .cell)then(n,d4)else(n,k)).lookup x=some .cell \/
 (names.map λ(n,k)=>if(k==e9&&env.scope.kind==.function&&env.kindOf n==some .cell)then(n,d4)else(n,k)).lookup x=some .free
|[],h=>by simp at h
| (n,j)::r,h=>by
 rw[gW]at h;rw[bE,gW];dsimp only
 cases a:x==n with
 |true=>
  rw[a]at h;cases h;by_cases b:(e9==e9&&env.scope.kind==.function&&env.kindOf n==some .cell)=true
  ·rw[a7 b];dsimp only;rw[a];exact .inl Fc
  ·rw[a6 b];dsimp only;rw[a];exact .inr Fc
 |false=>
  rw[a]at h;have c:=wZ (env:=env) (names:=r) h;by_cases b:(j==e9&&env.scope.kind==.function&&env.kindOf n==some .cell)=true
  ·rw[a7 b];dsimp only;rw[a];exact c
  ·rw[a6 b];dsimp only;rw[a];exact c
noncomputable def uD(a outer:List (Str×u5))(b:List Str):List Str->List (Option Nat)->Bool
|[],[]=>true
|x::r,none::f=>uD a outer b r f
|x::r,some j::f=>(a.lookup x==some .free)&&(b[j]?==some x)&&(outer.lookup x==some .cell)&&uD a outer b r f
|_,_=>false
theorem yW{a outer:List (Str×u5)}:∀{N':List Str}{fr:List (Option Nat)},uD a outer Nx N' fr=true ->
 N'.length=fr.length/\∀(i:Nat)(x:Str)(j:Nat),N'[i]?=some x->fr[i]?=some (some j)->a.lookup x=some .free/\Nx[j]?=some x/\outer.lookup x=some .cell
|[],[],_=>⟨Fc,λi x j h=>by simp at h⟩
|x::r,none::f,h=>by
 obtain⟨d,e⟩:=yW (N':=r) (fr:=f) h;refine⟨by simp[d],λi y j c b=>?_⟩
 cases i with
 |zero=>simp at b
 |succ i=>exact e i y j (by simpa using c) (by simpa using b)
|x::r,some k::f,h=>by
 simp only[uD,dM,fk]at h;obtain⟨⟨⟨a1,a2⟩,g⟩,h⟩:=h;obtain⟨d,e⟩:=yW (N':=r) (fr:=f) h;refine⟨by simp[d],λi y j c b=>?_⟩
 cases i with
 |zero=>
  simp at c b;subst c;subst b;exact⟨a1,a2,g⟩
 |succ i=>exact e i y j (by simpa using c) (by simpa using b)
|[],_::_,h=>by simp[uD]at h
|_::_,[],h=>by simp[uD]at h
noncomputable def xJ(a:List (Option Nat))(b:St):St:=a.map λo=>o.bind λj=>(b[j]?).join
def vN.but{h}{a:Addr}(ok:vN P w H h)(n:H a=none)(d:cV a h h'):vN P w H h':=λb ob e=>by
 refine(ok b ob e).stay (λc u hc q=>(d.2 c ?_).trans q) (λ_ q=>q) λ_ _ q=>q;rintro rfl;rcases hc with rfl | hc
 ·rw[n]at e;cases e
 ·rw[n]at hc;cases hc
def RC(X:Cx)(a:List Expr)(b:TT):Prop:=
 ∀pins s σ H(Q:Bool->Hp->Prop),eG X pins σ H s->b σ H Q ->
  wpAny (model X.prog X.w) X.A (qy a true λc r=>if r=true then do let ok <- isTrue c X.env (eval c X.env);pure (g6 ok)else pure (g6 r)) (TP X pins σ Q) X.xe s
def XY:TT:=λ_ H Q=>Q true H
def Y5:RC X [] XY:=λ_ _ _ H _ I h=>wpAny_tests_nil ⟨H,I,h⟩
def Y4(h:PT X c tt):RC X [c] tt:=λa s b H Q I q=>wpAny_tests_one (h a s b H Q I q)
def R8(q:List (Option Nat))(t:TI)(g:BP->TG)(s:BP->TT)(r:BP->TE):TE:=λp H Q=>t p H λJ k=>∀(h:BP)(a:Addr),k a=none->∃W:Nat->Nat->St->Hp->Prop,
 (∃m,W 0 m (xJ q p) (gG k a (.lst [])))/\∀i m f d,W i m f d ->
  (J.stop i d/\Q (.ref a) d)\/(J.go i d/\∀x l,J.yld i d x l->g h x f l λc H3=>s h c H3 λb n=>
   if b=true then r h c n λy o=>∃j,o a=some (.lst j)/\j.length<bO/\∃e,e<m/\W (i+1) e c (gG o a (.lst (j++[y])))
   else∃e,e<m/\W (i+1) e c n)
theorem sE:∀{a:List (Str×u5)},a.filter (λy=>y.2==d4)=[]->∀(n:Nat)(b:List (Str×Addr))h,bd n a b=b/\fc h a=h
|[],_,_,_,_=>⟨Fc,Fc⟩
| (x,k)::r,e,n,b,h=>by
 rw[cH]at e
 cases hk:(k==d4)with
 |true=>dsimp only at e;rw[hk,a7 rfl]at e;cases e
 |false=>
  dsimp only at e;rw[hk,a6 bN]at e;unfold bd fc;rw[hk,a6 bN,a6 bN];exact sE e n b h
theorem zA{z:Str}:∀{a:List (Str×u5)},a.filter (λy=>y.2==d4)=[(z,.cell)]->∀(n:Nat)(b:List (Str×Addr))(h:Heap),bd n a b=(z,n)::b/\fc h a=h.push { cls:=.type "cell",data:=.cell none }
|[],e,_,_,_=>by cases e
| (x,k)::r,e,n,b,h=>by
 rw[cH]at e
 cases hk:(k==d4)with
 |true=>
  dsimp only at e;rw[hk,a7 rfl]at e;injection e with c d
  injection c with c _
  subst c;unfold bd fc;rw[hk,a7 Fc,a7 rfl];exact sE d (n+1) ((x,n)::b) _
 |false=>
  dsimp only at e;rw[hk,a6 bN]at e;unfold bd fc;rw[hk,a6 bN,a6 bN];exact zA e n b h
def vB(a:List (Str×u5)):Prop:=a.filter (λy=>y.2==d4)=[]\/∃z,a.filter (λy=>y.2==d4)=[(z,.cell)]/\a.lookup z=some .cell
structure aPs(names:List (Str×u5))(cl ug:List (Str×Addr))(h:Heap)(C:Addr):Prop where
 get:∀x c,ug.lookup x=some c->(C<c/\(x,d4)∈names/\h.IsCell c none)\/(cl.lookup x=some c/\(x,d4)∉names)
 old:∀x c,names.lookup x=some .free->cl.lookup x=some c->ug.lookup x=some c
 has:∀x,(x,d4)∈names->∃c,ug.lookup x=some c
 keep:∀x c,cl.lookup x=some c->∃c',ug.lookup x=some c'
 inj:∀x y c,ug.lookup x=some c->ug.lookup y=some c->C<c->x=y
def ZL{E:Value->Shared->Prop}{s:Shared}{d:Scope}{globals:Addr}{a:List (Str×Addr)}{Q:Env->Shared->Prop}(i:vB d.names)(j:∀x c,a.lookup x=some c->c<s.heap.objs.size)
  (B:∀r k,r.Ns s.heap.objs.size (λ_=>none)->(∀b o,s.heap.get? b=some o->r.get? b=some o)->aPs d.names a k r s.heap.objs.size->Q (newEnv d s.heap.objs.size globals k qual none .none (some outer) ab) { s with heap:=r }) :
  wpAny M A (gw d globals a [] qual none .none (some outer)) Q E s:=by
 simp only[gw,Option.isSome_some,ak];refine aB (wpAny_alloc ?_);refine aB (wpAny_layCells _ (λname kind u=>by cases v:kind==d4<;>simp[v]) _ _ _ _ ?_);have mem:∀x,(x,d4)∈d.names->(x,d4)∈d.names.filter (λy=>y.2==d4):=λx f=>cM.mpr ⟨f,Fc⟩;rcases i with i | ⟨z,i,m⟩
 ·rw[(sE i _ _ s.heap).1,(sE i 0 [] _).2]
  have C:∀x,(x,d4)∉d.names:=λx f=>by
   have:=mem x f;rw[i]at this;cases this
  exact aB (aG (aG (B _ _ (Heap.Ns.new s.heap (.type "dict")) (λb o e=>aJ _ e) ⟨λx c h=>.inr ⟨h,C x⟩,λx c _ h=>h,λx h=>a9 h (C x),λx c h=>⟨c,h⟩,λx y c h _ l=>a9 (j x c h) (uN l)⟩)))
 ·rw[(zA i _ _ s.heap).1,(zA i 0 [] _).2,show({ s with heap:=s.heap.push { cls:=.type "dict",data:=.dict #[] } }:Shared).heap.objs.size=s.heap.objs.size+1 from eV ..]
  have p:∀x,(x,d4)∈d.names->x=z:=λx f=>by
   have:=mem x f;rw[i]at this;exact e7 Prod.fst (dF.mp this)
  have w:∀x c,((z,s.heap.objs.size+1)::a).lookup x=some c->(x=z/\c=s.heap.objs.size+1)\/(x≠z/\a.lookup x=some c):=λx c h=>by
   rw[gW]at h
   cases t:x==z with
   |true=>rw[t]at h;cases h;exact .inl ⟨ey t,Fc⟩
   |false=>rw[t]at h;exact .inr ⟨ne_of_beq_false t,h⟩
  have q:∀x c,x≠z->a.lookup x=some c->((z,s.heap.objs.size+1)::a).lookup x=some c:=λx c f h=>by
   rw[gW,beq_eq_false_iff_ne.mpr f];exact h
  have g:((s.heap.push { cls:=.type "dict",data:=.dict #[] }).push { cls:=.type "cell",data:=.cell none }).get? (s.heap.objs.size+1)=some { cls:=.type "cell",data:=.cell none }:=by
   have:=aW (s.heap.push { cls:=.type "dict",data:=.dict #[] }) (o:={ cls:=.type "cell",data:=.cell none }) Fc
   rwa [eV]at this
  refine aB (aG (aG (B _ _ ((Heap.Ns.new s.heap (.type "dict")).keeps λb o e=>aJ _ e) (λb o e=>aJ _ (aJ _ e)) ⟨λx c h=>?_,λx c f h=>q x c (λe=>by rw[e,m]at f;cases f) h,λx f=>⟨s.heap.objs.size+1,by rw[p x f];simp⟩,λx c h=>?_,λx y c J K l=>?_⟩)))
  ·rcases w x c h with⟨rfl,rfl⟩ | ⟨n,h⟩
   ·exact .inl ⟨fA _,h9 m,_,g,Fc⟩
   ·exact .inr ⟨h,λf=>n (p x f)⟩
  ·by_cases e:x=z
   ·exact⟨s.heap.objs.size+1,by rw[e];simp⟩
   ·exact⟨c,q x c e h⟩
  ·rcases w x c J with⟨F,_⟩ | ⟨_,H⟩
   ·rcases w y c K with⟨G,_⟩ | ⟨_,I⟩
    ·exact F.trans G.symm
    ·exact a9 (j y c I) (uN l)
   ·exact a9 (j x c H) (uN l)
section
variable{X:Cx}
def QY{R:Result->Shared->Prop}{iter}(I:Nat->Shared->Prop)
  (turn:∀n s,I n s->wpAny (model prog w) A (u3 it) (λr a=>match r with
   |none=>R (.ok .next) a
   |some v=>wpAny (model prog w) A (l8 target it v) (λ_ u=>wpAny (model prog w) A (em target env v) (λ_ i=>
     wpAny (model prog w) A (qy t true λc r=>if r=true then do let ok <- isTrue c env (eval c env);pure (g6 ok)else pure (g6 r)) (λok b=>
      if ok=true then wpAny (model prog w) A (eval f env) (λx j=>wpAny (model prog w) A (call (.builtin "list.append") [acc,x]) (λ_ k=>∃m,m<n/\I m k) (λ_ _=>False) j) (λ_ _=>False) b
      else∃m,m<n/\I m b) (λ_ _=>False) i) (λ_ _=>False) u) (λ_ _=>False) a) (λ_ _=>False) s)
  (n:Nat) (h:I n s):z8 (model prog w) A (.compLoop (.ListComp f [⟨target,iter,t,0⟩] scope pos) 0 it acc env) R s:=by
 refine codeAny_loop Fc I (λn s B=>?_) n h;show wpAny _ A ((compTurn (.ListComp f [⟨target,iter,t,0⟩] scope pos) 0 it acc env).onRaise (λx=>do noteFrame x env;theTreesLotGoes x)) _ _ s;refine wpAny_noted ?_;rw[compTurn_list];have l:∀{E:Value->Shared->Prop}(e:Value)(s:Shared),False->E e s:=λ_ _ z=>z.elim;refine aB (wpAny_standAt (aB (gO (turn n s B) (λr a d=>?_) l)))
 cases r with
 |none=>exact aG d
 |some v=>
  refine aB (gO d (λ_ u y=>aB (gO y (λ_ i o=>aB (gO o (λok b g=>?_) l)) l)) l)
  cases ok with
  |false=>exact aG ⟨Fc,g⟩
  |true=>exact aB (aB (gO g (λx j p=>aB (gO p (λ_ k q=>aG (aG ⟨Fc,q⟩)) l)) l))
variable{f iter F:Expr}{t:List Expr}{scope:Scope}{pos:Pos}{B:List Str}{G:List (Option Nat)}{O:TI}{g:BP->TG}{M:BP->TT}{L:BP->TE}
def JI{H2:Hp}{s2:Shared}{it:Addr}{tn:Nat->Heap->Prop}{J:It}{Q:VK}{RR:Value->Addr->Result->Shared->Prop}{cl:List (Str×Addr)}{E:Value->Shared->Prop}
  (Y:X.calm=true) (vy:scope.kind=.function) (hz:vB scope.names) (Bl:uD scope.names X.env.scope.names X.N B G=true)
  (H:∀n c,cl.lookup n=some c->X.env.cells.lookup n=some c) (vh:∀n,(n,e9)∈scope.names->∃c,cl.lookup n=some c)
  (hY:∀b:BP,PG (blk X scope B b) F (g b)/\RC (blk X scope B b) t (M b)/\PE (blk X scope B b) f (L b))
  (I2:eG X pins σ H2 s2) (T:C0 X.prog X.w X.K F J fp it tn) (sr:tn 0 s2.heap) (f2:∀b∈fp,AI X pins H2 b)
  (q:∀(bp:BP)(P:Addr),H2 P=none->∃W:Nat->Nat->St->Hp->Prop,(∃m,W 0 m (xJ G σ) (gG H2 P (.lst [])))/\∀i m U S,W i m U S ->
   (J.stop i S/\Q (.ref P) S)\/(J.go i S/\∀x H2,J.yld i S x H2->g bp x U H2 λxj H3=>M bp xj H3 λb H4=>
    if b=true then L bp xj H4 λy H5=>∃ys,H5 P=some (.lst ys)/\ys.length<bO/\∃m',m'<m/\W (i+1) m' xj (gG H5 P (.lst (ys++[y])))
    else∃m',m'<m/\W (i+1) m' xj H4))
  (Au:∀P C s' HY m,eG X pins σ HY s'->AI X pins HY C->s'.heap.Ns C m->Q (.ref P) HY->RR (.ref P) C (.ok .next) s') :
  wpAny (model X.prog X.w) X.A (uk []) (λP zh=>wpAny (model X.prog X.w) X.A (gw scope X.env.globals cl [] X.env.qual none .none (some X.env)) (λvc zi=>
   z8 (model X.prog X.w) X.A (.compStart (.ListComp f [⟨F,iter,t,0⟩] scope pos) 0 (.ref it) P { vc with scope:=relabel scope X.env }) (RR P vc.locals) zi) E zh) E s2:=by
 obtain⟨Bk,Bj⟩:=yW Bl;have yb:H2 s2.heap.objs.size=none:=I2.hok.fresh (aN _);refine dG ?_ (by show 0<=bO;exact cI _)
 generalize yt:({ s2 with heap:=s2.heap.push { cls:=.type "list",dict:=none,data:=.seq ([]:List Value).toArray } }:Shared)=s3
 have s:eG X pins σ (gG H2 s2.heap.objs.size (.lst [])) s3:=by
  rw[<- yt];exact I2.laid (t':=s2.toks) (λb u e=>aJ _ e) (aN _) ⟨cI _,[],0,.nil,aW _ Fc⟩
 have vo:∀b∈fp,b<s3.heap.objs.size:=λb a=>by
  obtain⟨o,e,_⟩:=T.obj 0 _ sr b a;rw[<- yt];exact bF (aJ _ e)
 have Ab:tn 0 s3.heap:=T.keep 0 _ _ sr λb _ o e=>by rw[<- yt];exact aJ _ e
 have f3:∀b∈fp,AI X pins (gG H2 s2.heap.objs.size (.lst [])) b:=λb a=>⟨by
  obtain⟨o,e,_⟩:=T.obj 0 _ sr b a;rw[cO (bS (bF e))];exact(f2 b a).1,(f2 b a).2⟩
 refine ZL hz (λx c e=>by obtain⟨v,o,ho,_⟩:=s.cell x c (H x c e);exact bF ho) λwc I rf keep R=>?_
 generalize Aq:gG H2 s2.heap.objs.size (.lst [])=H3 at *
 generalize Dv:s2.heap.objs.size=ac at *
 generalize hC:s3.heap.objs.size=C at *
 obtain⟨W,⟨m0,w0⟩,turn⟩:=q ⟨I,C,s3,H3,fp,X.pn++pins⟩ ac yb;rw[Aq]at w0
 have Z:∀x c,X.env.cells.lookup x=some c->c<C:=λx c e=>by
  obtain⟨v,o,ho,_⟩:=s.cell x c e;rw[<- hC];exact bF ho
 have vg:∀b∈fp,b≠C:=λb a=>by exact bS (vo b a)
 have zr:X.env.locals<C:=by rw[<- hC];exact s.lt
 have yw:∀b∈JR X.stack,b≠C/\H3 b=none:=λb a=>⟨by
  rintro rfl;rcases aY.mp (s.stkSub b a)with z | z
  ·rw[z]at zr;exact a9 zr (iV _)
  ·exact s.nofs (by rw[hC];exact aN _) z,s.stkFree b a⟩
 have xw:∀x c,X.env.cells.lookup x=some c->c≠C:=λx c e z=>by
  obtain⟨v,o,ho,_⟩:=s.cell x c e;have:=bF ho;rw[z,hC]at this;exact a9 this (iV _)
 -- the block's context
 have Da:(blk X scope B ⟨I,C,s3,H3,fp,X.pn++pins⟩).Ok:=by
  refine⟨s.ok.mod,vy,s.ok.glob,s.ok.blt,nW hC,λx y c h1 h2=>by
   rcases R.get x c h1 with⟨l1,_⟩ | ⟨g1,_⟩<;>rcases R.get y c h2 with⟨l2,_⟩ | ⟨g2,_⟩
   ·exact R.inj x y c h1 h2 l1
   ·exact a9 (Z y _ (H y _ g2)) (uN l1)
   ·exact a9 (Z x _ (H x _ g1)) (uN l2)
   ·exact s.ok.inj x y c (H x c g1) (H y c g2),λx hx=>?_,λx c hf h=>by
   rcases R.get x c h with⟨l,_⟩ | ⟨_,n⟩
   ·exact bG (nW hC) (iI l)
   ·exact a9 (h9 (beq_iff_eq.mp hf)) n,λ_=>s.ok.hd Y,s.ok.frames,.inl Fc,
   λb a=>⟨vg b a,λx c h=>by
    rcases R.get x c h with⟨l,_⟩ | ⟨h,_⟩
    ·exact fN (MZ (vo b a) l)
    ·exact(f3 b a).2.2.2.2.1 x c (H x c h)⟩,λb o e=>s.bs b o e,?_,λb o e a=>?_,λb a hs=>?_,s.stack,λb a=>(yw b a).2,s.env0.tab⟩
  ·have uz:∀k,(relabel scope X.env).names.lookup x=some k->(k=.cell\/k=.free)->∃c,(I).lookup x=some c:=λk h hk=>by
    obtain⟨k0,h1,h2⟩:=rZ h;rcases(show k0=.cell\/k0=.free from h2.elim (λe=>by rw[e];exact hk) λe=>.inr e.1)with rfl | rfl
    ·exact R.has x h1
    ·obtain⟨c,hc⟩:=vh x h1;exact R.keep x c hc
   rcases hx with hx | hx
   ·exact uz _ hx (.inl Fc)
   ·exact uz _ hx (.inr Fc)
  ·exact bG s.ok.bsz (bG s.sz (aN _))
  ·rcases(f3 b a).2.2.2.1 with z | z
   ·exact s.ok.noex b o e z
   ·exact a9 (cS (bF (s.ok.bs b o e).1) z) (iV _)
  ·rcases aY.mp (s.stkSub b hs)with z | z
   ·exact(f3 b a).2.1 z
   ·exact(f3 b a).2.2.1 z
 have ya:H3 C=none:=s.hok.fresh (nW hC)
 have IY:eG (blk X scope B ⟨I,C,s3,H3,fp,X.pn++pins⟩) [] (xJ G σ) H3 { s3 with heap:=wc }:=by
  refine⟨Da,Fc,s.bare,Un.kept keep,⟨_,rf,λi x v h1 h2 _=>?_⟩,λx c e=>?_,ya,λx c e=>(by
   rcases R.get x c e with⟨l,_⟩ | ⟨e,_⟩
   ·exact s.hok.fresh (by rw[hC];exact iI l)
   ·exact s.freeC x c (H x c e)),λp hp=>?_,s.hok.kept keep,?_⟩
  ·have e:∃j,G[i]?=some (some j)/\σ[j]?=some (some v):=by
    unfold xJ at h2;rw[aI]at h2
    cases hf:G[i]? with
    |none=>rw[hf]at h2;cases h2
    |some o=>
     rw[hf]at h2
     cases o with
     |none=>cases h2
     |some j=>
      refine⟨j,Fc,?_⟩;have sx:(σ[j]?).join=some v:=by simpa using h2
      cases hj:σ[j]? with
      |none=>rw[hj]at sx;cases sx
      |some o=>rw[hj]at sx;rw[show o=some v from sx]
   obtain⟨j,e1,e2⟩:=e;obtain⟨a1,a2,a3⟩:=Bj i x j h1 e1;obtain⟨m,hn,hl⟩:=s.loc;obtain⟨u,r,l⟩:=hl j x v a2 e2 (.inr (.inl a3));refine⟨u,r,.inr ⟨wZ a1,?_⟩⟩;rcases l with⟨k,_⟩ | ⟨_,c,hc,o,ho,hd⟩
   ·have k':X.env.scope.names.lookup x=some .local:=k;rw[a3]at k';cases k'
   ·obtain⟨c',ej⟩:=vh x (h9 a1);have z:=H x c' ej;rw[hc]at z;cases z;exact⟨c,R.old x c a1 ej,o,keep c o ho,hd⟩
  ·rcases R.get x c e with⟨_,_,Bz⟩ | ⟨e,_⟩
   ·exact⟨none,Bz⟩
   ·obtain⟨v,o,ho,hd⟩:=s.cell x c (H x c e);exact⟨v,o,keep c o ho,hd⟩
  ·obtain⟨e,n,ne,nf,d⟩:=s.pin p (by have td:p∈(X.pn++pins)++[]:=hp;simpa using td);refine⟨keep _ _ e,n,?_,λz=>?_,d⟩
   ·have:=bF e;rw[hC]at this;exact bS this
   ·rcases aY.mp (s.stkSub p.1 z)with z | z
    ·exact ne z
    ·exact nf z
  ·unfold xJ;rw[aC];exact Bk.symm
 have tw:∀{S:Hp},(∀b∈fp,S b=none)->∀b∈fp,AI (blk X scope B ⟨I,C,s3,H3,fp,X.pn++pins⟩) [] S b:=λ{S} hn b a=>
  ⟨hn b a,vg b a,λz=>by
   rcases aY.mp (s.stkSub b z)with z | z
   ·exact(f3 b a).2.1 z
   ·exact(f3 b a).2.2.1 z,  .inl a,λx c e=>(by
   rcases R.get x c e with⟨l,_⟩ | ⟨e,_⟩
   ·exact fN (MZ (vo b a) l)
   ·exact(f3 b a).2.2.2.2.1 x c (H x c e)),λp hp=>(f3 b a).2.2.2.2.2 p (by have td:p∈(X.pn++pins)++[]:=hp;simpa using td)⟩
 obtain⟨hg,ht,he⟩:=hY ⟨I,C,s3,H3,fp,X.pn++pins⟩
 have loop:z8 (model X.prog X.w) X.A (.compLoop (.ListComp f [⟨F,iter,t,0⟩] scope pos) 0 (.ref it) (.ref ac) (compEnvC scope I C X.env)) (RR (.ref ac) C) { s3 with heap:=wc }:=by
  refine QY (λn s'=>∃i U S,eG (blk X scope B ⟨I,C,s3,H3,fp,X.pn++pins⟩) [] U S s'/\tn i s'.heap/\(∀b∈fp,S b=none)/\W i n U S) ?_ m0
   ⟨0,xJ G σ,H3,IY,T.keep 0 _ _ Ab λb _ o e=>keep b o e,λb a=>(f3 b a).1,w0⟩
  rintro n s4 ⟨i,xl,H4,I4,Ac,zn,w4⟩;rcases turn i n xl H4 w4 with⟨stop,qn⟩ | ⟨go,step⟩
  ·refine jR (T.done (blk X scope B ⟨I,C,s3,H3,fp,X.pn++pins⟩) Fc Fc Fc Y i [] s4 xl H4 _ I4 (tw zn) Ac stop) λr s5 zq=>?_;obtain⟨hr,I5⟩:=zq;subst hr;obtain⟨m,hn,_⟩:=I5.loc;have IX:eG X pins σ H4 s5:=s.call' I5.os I5.base I5.hok I5.bare λb a=>⟨(f3 b a).2.2.2.1,(f3 b a).2.1,(f3 b a).2.2.2.2.1,(f3 b a).2.2.2.2.2⟩;exact Au ac C s5 H4 m IX (s.fpOk (nW hC) I5.free) hn qn
  ·refine jR (T.item (blk X scope B ⟨I,C,s3,H3,fp,X.pn++pins⟩) Fc Fc Fc Y i [] s4 xl H4 (λ_ _=>False) I4 (tw zn) Ac go) λr s5 zq=>?_;obtain⟨u,hr,h5⟩:=zq;subst hr;refine jR h5 λ_ s6 zq=>?_;obtain⟨x,H6,I6,r6,y6,zg,Ak⟩:=zq;have Ae:=I6.pinned (tw Ak) (T.obj _ _ zg);refine jR (hg _ s6 xl H6 x u _ Ae r6 (step x H6 y6)) λ_ s7 zq=>?_;obtain⟨zk,H7,I7,q7⟩:=zq;refine jR (ht _ s7 zk H7 _ I7 q7) λok s8 zq=>?_;obtain⟨H8,I8,q8⟩:=zq
   have again:∀{s9:Shared}{xm:St}{H9:Hp}{m':Nat},eG (blk X scope B ⟨I,C,s3,H3,fp,X.pn++pins⟩) ([]++BZ fp s6.heap) xm H9 s9->m'<n->W (i+1) m' xm H9 ->
     ∃m,m<n/\∃i U S,eG (blk X scope B ⟨I,C,s3,H3,fp,X.pn++pins⟩) [] U S s9/\tn i s9.heap/\(∀b∈fp,S b=none)/\W i m U S:=λ{s9 xm H9 m'} I9 hm w9=>by
    refine⟨m',hm,i+1,xm,H9,I9.unpinned,T.keep _ _ _ zg λb a o e=>(I9.pin (b,o) (eF _ (eF _ (sA a e)))).1,λb a=>?_,w9⟩;obtain⟨o,e,d⟩:=T.obj _ _ zg b a;exact(I9.pin (b,o) (eF _ (eF _ (sA a e)))).2.1
   cases ok with
   |false=>
    obtain⟨m',hm,w8⟩:=q8;exact again I8 hm w8
   |true=>
    refine jR (he _ s8 zk H8 _ I8 q8) λy s9 zq=>?_;obtain⟨yv,H9,I9,r9,ys,Ct,hz,m',hm,w9⟩:=zq;refine jR (iF (X:=blk X scope B ⟨I,C,s3,H3,fp,X.pn++pins⟩) _ s9 zk H9 (.ref ac) [yv] (.ref ac) [y] (λ_ S=>S=gG H9 ac (.lst (ys++[yv]))) I9 Fc (.cons r9 .nil) ⟨ac,ys,yv,Fc,Fc,Ct,hz,Fc⟩) λ_ Ep zq=>?_;obtain⟨_,Do,Ad,_,Ai⟩:=zq;subst Ai;exact again Ad hm w9
 exact codeAny_compStart_list loop (T.self _ 0 _ _ _ (T.keep 0 _ _ Ab λb _ o e=>keep b o e) loop)
def Rx(j:X.calm=true)(a:scope.kind=.function)(hz:vB scope.names)(u:uD scope.names X.env.scope.names X.N B G=true)
  (l:∀y∈scope.names,y.2=.free->X.env.scope.names.lookup y.1=some .cell) (c:∀x∈scope.names,x.2=.local->scope.names.lookup x.1=some .local) (Z:PI X F iter O)
  (W:∀b:BP,PG (blk X scope B b) F (g b)/\RC (blk X scope B b) t (M b)/\PE (blk X scope B b) f (L b))
  (hs:autoParam (∀x,j6 iter X.env x=pure x) zzx._auto_1):PE X (.ListComp f [⟨F,iter,t,0⟩] scope pos) (R8 G O g M L):=by
 intro d s E H Q I h;obtain⟨cl,k,p,r⟩:=wB (env:=X.env) (scope:=scope) λy hy hk=>I.ok.has y.1 (.inl (l y hy hk));rw[eval_ListComp];refine iq (use:=none) Fc hs k a c (jR (Z d s E H _ I h) λv s1 S=>jR S λrB s2 U=>?_);obtain⟨it,fp,tn,J,H2,rfl,R,T,z,f2,q⟩:=U;refine JI (RR:=λi C=>compPost (model X.prog X.w) X.A X.xe none (EP X d E Q) i C) j a hz u p r W R T z f2 q λi C s' K m P n hn q'=>?_;exact⟨m,hn,λh' sb=>⟨.ref i,K,P.turned (t':=s'.toks) (λb o Y e=>(sb.2 b Y).trans e) n.1 n.2.1 n.2.2.2.1 n.2.2.2.2.1 n.2.2.2.2.2,Fc,q'⟩⟩
def S6{i:Nat}{x:Str}{E l:Pos}(hN:X.N.Nodup)(Z:X.N[i]?=some x)(hx:OR X.env.scope x)(p:X.calm=true)(c:scope.kind=.function)(hz:vB scope.names)(Y:uD scope.names X.env.scope.names X.N B G=true)
  (u:∀y∈scope.names,y.2=.free->X.env.scope.names.lookup y.1=some .cell) (k:∀x∈scope.names,x.2=.local->scope.names.lookup x.1=some .local) (hi:PI X F iter O)
  (hY:∀b:BP,PG (blk X scope B b) F (g b)/\RC (blk X scope B b) t (M b)/\PE (blk X scope B b) f (L b))
  (Cj:jH (.ListComp f [⟨F,iter,t,0⟩] scope pos) (some (.Name x E)) l.line X.env=pure true)
  (hs:autoParam (∀x,j6 iter X.env x=pure x) zzx._auto_1) (hf:autoParam (X.fn x=true\/X.env.scope.names.lookup x=some .local) zzw._auto_1) :
  PS X (.Assign [.Name x E] (.ListComp f [⟨F,iter,t,0⟩] scope pos) l) (wT (R8 G O g M L) (kX i)):=by
 intro d s σ H D I h;obtain⟨cl,r,K,P⟩:=wB (env:=X.env) (scope:=scope) λy hy hk=>I.ok.has y.1 (.inl (u y hy hk));rw[exec_Assign_Name_used _ _ _ _ Cj];refine aB (wpAny_standAt (aB ?_));show wpAny _ _ (do let _ <- comprehension (.ListComp f [⟨F,iter,t,0⟩] scope pos) scope X.env _ (uk []) false (eval iter X.env) (some (em (.Name x E) X.env))) _ _ s
 refine aB (gO (iq (use:=some (em (.Name x E) X.env)) (Q:=λ_ R=>SP X d D .next R) Fc hs r c k
  (jR (hi d s σ H _ I h) λv s1 h1=>jR h1 λrB s2 h2=>?_)) (λ_ R hq=>aG (aG hq)) λ_ _ e=>e)
 obtain⟨it,fp,tn,J,H2,rfl,I2,T,sr,f2,q⟩:=h2;refine JI (RR:=λj C=>compPost (model X.prog X.w) X.A X.xe (some (em (.Name x E) X.env)) (λ_ R=>SP X d D .next R) j C) (Q:=λx H1=>kX i x σ H1 D.nx) p c hz Y K P hY I2 T sr f2 q λj C R HY m I' n hn q'=>?_;show wpAny _ _ (em (.Name x E) X.env (.ref j)) _ _ _;refine uq (D1 I' hN Z hx (v:=.ref j) Fc (λDi S W=>?_) hf);obtain⟨a,sb,ha⟩:=W
 have U:C≠a:=by
  rcases ha with z | z
  ·rw[z];exact n.2.1
  ·exactλe=>n.2.2.2.2.1 x a z e.symm
 exact⟨m,hn.sameBut sb U,λh' Dj=>⟨_,HY,S.turned (t':=Di.toks) (λb o hb e=>(Dj.2 b hb).trans e) n.1 n.2.1 n.2.2.2.1 n.2.2.2.2.1 n.2.2.2.2.2,q'⟩⟩
end
section
variable{prog:cN}{w:c7}{A:d0}{E:Value->Shared->Prop}{h:Heap}{g:Array GenState}{d:Drawn}{t:Nat}{os:OsState}{a C:Addr}{f:Obj}{b:Option Obj}{K:aM}
structure GV(K:aM)(C:Addr):Prop where
 ga:fY K (.ref C) "__getattribute__"=some (some (.builtin "BaseException.__getattribute__"))
 gt:fY K (.ref C) "__getattr__"=some none
 cl:fY K (.ref C) "__class__"=some (some (.builtin "object.__class__"))
 ob:DQ K C (.type "object")=some true
 be:DQ K C (.type "BaseException")=some true
def Ib(K:aM)(C:Addr):Prop:=GV K C/\∀T∈["int","str","list","tuple","bool"],lG K (.ref C) (.type T)=some false
def Q0{Q:Unit->Shared->Prop}(X:K.In h)(c:GV K C)(I:lH h a f C b)(k:Q () ⟨h,g,d,t,os⟩):wpAny M A (ew "BaseException.__getattribute__" ⟨[.ref a,nameV],[]⟩) Q E ⟨h,g,d,t,os⟩:=by
 have hk:builtinKind "BaseException.__getattribute__"=some .slot:=by decide +kernel
 have e:splitId "BaseException.__getattribute__"=some ("BaseException","__getattribute__"):=by decide +kernel
 have l:=F.args_bexc_ga (.ref a) nameV;have i:=I.type (M:=M);have j:=PySem.W.looks_mroIn (M:=M) X c.be;simp only[ew,hk,e];refine aB ?_;unfold isInstance;refine aB (i.at (j.at ?_))
 repeat (first | exact k | wp_step)
def GM{Q:Fin->Shared->Prop}(X:K.In h)(c:GV K C)(I:lH h a f C b)(n:Q (.done (.ret (.ref C))) ⟨h,g,d,t,os⟩) :
  wpAny (model prog w) A (l9.«object.__getattribute__» ⟨[.ref a,.str "__class__" tk],[]⟩) Q E ⟨h,g,d,t,os⟩:=by
 have j:(⟨h,g,d,t,os⟩:Shared).TypeIs (.builtin "object.__class__") "getset_descriptor":=iu;have k:=iu;have l:=F.slot_gs_get.lookup;have m:=F.slot_gs_set.lookup;have e:=I.type (M:=model prog w);have i:=oI (M:=model prog w) X c.cl
 repeat (any_goals (first | assumption | with_reducible refine e.at ?_ | with_reducible refine i.at ?_ | wp_step))
 refine PySem.W.class_get (s:=⟨h,g,d,t,os⟩) X I c.ob ?_
 repeat (any_goals (first | assumption | wp_step))
def JZ{R:Result->Shared->Prop}(X:K.In h)(c:GV K C)(I:lH h a f C b)(e:R (.ok (.ret (.ref C))) ⟨h,g,d,t,os⟩) :
  z8 (model prog w) A (.call (.builtin "BaseException.__getattribute__") ⟨[.ref a,.str "__class__" tk],[]⟩) R ⟨h,g,d,t,os⟩:=
 mz F.excAttr_ValueError.ga.plain F.entry_bexc_ga (Q0 X c I (GM X c I e))
def QZ{Q:Value->Shared->Prop}(X:K.In h)(c:GV K C)(I:lH h a f C b)(n:Q (.ref C) ⟨h,g,d,t,os⟩):wpAny (model prog w) A (getAttrBy (.ref a) (.str "__class__" tk) false) Q E ⟨h,g,d,t,os⟩:=by
 have m:=F.excAttr_ValueError.ga.bind (.ref a);have i:(ah "BaseException.__getattribute__"==ah "object.__getattribute__")=false:=by decide +kernel
 have l:(onTheHeap (c8 C)&&ah "BaseException.__getattribute__"==ah "object.__getattribute__")=false:=by rw[i];rfl
 have j:=I.type (M:=model prog w);have k:=oI (M:=model prog w) X c.ga;have e:=oI (M:=model prog w) X c.gt
 repeat (any_goals (first | assumption | with_reducible refine j.at ?_ | with_reducible refine k.at ?_ | with_reducible refine e.at ?_ | wp_step))
 refine JZ X c I ?_
 repeat (any_goals (first | assumption | wp_step))
def J0{Q:Option Value->Shared->Prop}(X:K.In h)(c:GV K C)(I:lH h a f C b)(e:Q (some (.ref C)) ⟨h,g,d,t+1,os⟩):wpAny (model prog w) A (getAttr? (.ref a) "__class__") Q E ⟨h,g,d,t,os⟩:=by
 unfold getAttr? getAttrBy?
 repeat (any_goals (first | assumption | with_reducible apply QZ X c I | wp_step))
def VA(c:GV K C):PySem.W.KitX K (.ref a) (.ref C) (λh=>∃f b,lH h a f C b) where
 ty:=λ_ _ _ ⟨_,_,I⟩=>I.type
 it:=λ_ _ X _=>by
  obtain⟨cd,hc,_⟩:=G8.mp c.ob;unfold XI at hc;split at hc
  ·rename_i c' d' Ah zf ho;intro A' Q' E' s' k q;unfold isType loadHead;exact aB (wpAny_loadPart (k _ _ (X _ _ ho)) (aG q))
  ·cases hc
 ne:=λh tp dd fo n sl X Cm=>by
  obtain⟨cd,hc,_⟩:=G8.mp c.ob;refine rN.mpr λq=>?_;have e:C=tp:=Value.ref.inj (beq_iff_eq.mp q);subst e;unfold XI at hc;split at hc
  ·rename_i c' d' Ah zf ho;have z:=(X _ _ ho).symm.trans Cm;cases z
  ·cases hc
 ca:=λ{_ _ _ _ _ s} X ⟨_,_,I⟩ k=>by
  obtain⟨hh,g,d,t,os⟩:=s;exact J0 X c I k
end
structure aMv(k:Nat)(A:d0):Prop where
 dp:A.depth+3*k+5<cr
 un:A.units+16*k+200<u7
 gd:A.guards=some []
def Room.h{k:Nat}(r:Room k A):aMv k A:=⟨r.dp,r.un,r.gd⟩
end L2
namespace TL
open L2
abbrev D:=PySem.PyData
def pE(p:Addr)(h:Heap):Prop:=∃(a:List Value)(n:Nat),h.get? p=some { cls:=.type "list",data:=.seq a.toArray n }/\a.length<=1000/\∀v∈a,∃(i:Int)(t:Tok),v=.int i t/\0<=i/\i<4096
def JV(p C:Addr)(a:Option Addr)(h:Heap):Prop:=∃o vs,h.get? p=some o/\o.cls=.ref C/\o.dict=a/\o.data=.fields vs
def aC6(p q:Addr)(h:Heap):Prop:=∃(a b c:Int)(d e f:Tok)(n:Nat),h.get? p=some { cls:=.type "list",data:=.seq [c8 q,.int a d,.int b e,.int c f].toArray n }/\0<=a/\(c=0\/c=1)
def MV(e:Int×Addr×V)(x:x9):Prop:=x.hash=e.1/\x.key=.ref e.2.1/\iL e.2.2 x.val
def OS(p:Addr)(a:List (Int×Addr×V))(h:Heap):Prop:=(p==m7)=false/\a.length<=bO/\∃o b c,h.get? p=some o/\o.ExactDict/\o.data=.dict b c/\Paired MV a b.toList
noncomputable def nK(p:Addr)(a:List (Int×Addr×V)):HO:=.ext (OS p a)
def Yf(p:Addr)(a:List (Int×Addr×V))(c:Nat)(h:Heap):Prop:=(p==m7)=false/\a.length<=bO/\∃o b,h.get? p=some o/\o.ExactDict/\o.data=.dict b c/\Paired MV a b.toList
noncomputable def sD(p:Addr)(b:List (Int×Addr×V))(a:Nat):HO:=.ext (Yf p b a)
noncomputable def F1(hs:List Int)(a:List (D×D)):D:=.dict ((.str "{}",.list (hs.map aP))::a)
mutual
inductive iP(K:aM)(H:Hp):D->V->Prop
|none:iP K H .none .non
|bool (b:Bool):iP K H (.bool b) (.bl b)
|int (i:Int):iP K H (.int i) (.int i)
|str (x:Str):iP K H (.str x) (.str x)
|list {p:Addr} {xs:List V} {ts:List D}:lU K H p xs->Reps K H ts xs->iP K H (.list ts) (.ref p)
|tuple {p:Addr} {xs:List V} {ts:List D}:rO K H p xs->Reps K H ts xs->iP K H (.tuple ts) (.ref p)
|wild {p:Addr}:H p=some (.ext (pE p))->iP K H (.dict []) (.ref p)
|exc {p C:Addr}:Ib K C->H p=some (.ext (JV p C Option.none))->iP K H (.dict [(.int (C:Nat),.none)]) (.ref p)
|excA {p C dx:Addr} {n:Int}:Ib K C->H p=some (.ext (JV p C (some dx)))->H dx=some (.xd [("at",.int n)])->iP K H (.dict [(.int (C:Nat),.int n)]) (.ref p)
|excD {p C dx:Addr} {v:V} {cs:List D}:Ib K C->H p=some (.ext (JV p C (some dx)))->H dx=some (.xd [("case",v)])->iP K H (.tuple cs) v->iP K H (.dict [(.int (C:Nat),.tuple cs)]) (.ref p)
|tape {p q:Addr} {ns:List Int}:H p=some (.ext (aC6 p q))->lU K H q (ns.map V.int)->iP K H (.dict [(.none,.list (ns.map aP))]) (.ref p)
|dct {p:Addr} {es:List (Int×Addr×V)} {ep:Nat} {kvs:List (D×D)}:H p=some (sD p es ep)->(kvs.map (·.1)).Nodup->Reps K H (kvs.map (·.1)) (es.map λe=>.ref e.2.1)->Reps K H (kvs.map (·.2)) (es.map λe=>e.2.2)->iP K H (.dict ((.str "{}",.list ((es.map (·.1)).map aP))::kvs)) (.ref p)
|addr {p:Addr} (z:List D):iP K H (.dict [(.str "@",.list (.int (p:Nat)::z))]) (.ref p)
|ins {p C dx:Addr} {fs:List (Str×V)} {ds:List D}:H p=some (.ins C dx fs)->Reps K H ds (fs.map (·.2))->iP K H (.dict [(.str "obj",.tuple [.int (C:Nat),.list ((fs.map (·.1)).map aV),.list ds])]) (.ref p)
inductive Reps(K:aM)(H:Hp):List D->List V->Prop
|nil:Reps K H [] []
|cons {t:D} {ts:List D} {x:V} {xs:List V}:iP K H t x->Reps K H ts xs->Reps K H (t::ts) (x::xs)
end
variable{K:aM}{H E I J:Hp}
def bR.seqT{a:Addr}(e:bR H E)(h:rO K H a xs):rO K E a xs:=by
 rcases h with(h | ⟨o,h⟩) | h
 ·exact .inl (.inl (e _ _ h))
 ·exact .inl (.inr ⟨o,e _ _ h⟩)
 ·exact .inr h
def iP.same(e:bR H E){d:D}{v:V}(r:iP K H d v):iP K E d v:=
 iP.rec (motive_1:=λd v _=>iP K E d v) (motive_2:=λc vs _=>Reps K E c vs) .none .bool .int .str (λq _ a=>.list (L2.bR.seq e q) a) (λq _ a=>.tuple (bR.seqT e q) a) (λh=>.wild (e _ _ h)) (λx h=>.exc x (e _ _ h)) (λx h g=>.excA x (e _ _ h) (e _ _ g))
  (λx h g _ a=>.excD x (e _ _ h) (e _ _ g) a) (λh g=>.tape (e _ _ h) (L2.bR.seq e g)) (λh n _ _ a b=>.dct (e _ _ h) n a b) .addr (λh _ a=>.ins (e _ _ h) a) .nil (λ_ _ a b=>.cons a b) r
theorem Reps.same(e:bR H E){c:List D}:∀{vs:List V},Reps K H c vs->Reps K E c vs:=by
 induction c with
 |nil=>intro vs r;cases r;exact .nil
 |cons d c f=>
  intro vs r
  cases r with
  |cons a b=>exact .cons (a.same e) (f b)
theorem Reps.length:∀{a:List D}{vs:List V},Reps K H a vs->a.length=vs.length
|_,_,.nil=>rfl
|_,_,.cons _ s=>by simp[Reps.length s]
theorem Reps.get:∀{ds vs}{i:Nat}{d},Reps K H ds vs->ds[i]?=some d->∃v,vs[i]?=some v/\iP K H d v
|_,_,_,_,.nil,e=>by simp at e
|_,_,0,_,.cons r _,e=>by simp at e;subst e;exact⟨_,Fc,r⟩
|_,_,i+1,d,.cons _ s,e=>by
 obtain⟨v,a,b⟩:=Reps.get (i:=i) (d:=d) s (by simpa using e);exact⟨v,by simpa using a,b⟩
theorem Reps.get':∀{ds vs}{i:Nat}{v},Reps K H ds vs->vs[i]?=some v->∃d,ds[i]?=some d/\iP K H d v
|_,_,_,_,.nil,e=>by simp at e
|_,_,0,_,.cons r _,e=>by simp at e;subst e;exact⟨_,Fc,r⟩
|_,_,i+1,d,.cons _ s,e=>by
 obtain⟨v,a,b⟩:=Reps.get' (i:=i) (v:=d) s (by simpa using e);exact⟨v,by simpa using a,b⟩
theorem Reps.append:∀{ds es vs us},Reps K H ds vs->Reps K H es us->Reps K H (ds++es) (vs++us)
|_,_,_,_,.nil,s=>s
|_,_,_,_,.cons r t,s=>.cons r (Reps.append t s)
theorem Reps.take:∀{a:List D}{vs:List V}(n:Nat),Reps K H a vs->Reps K H (a.take n) (vs.take n)
|_,_,0,_=>.nil
|_,_,_+1,.nil=>.nil
|_,_,n+1,.cons r t=>.cons r (Reps.take n t)
theorem Reps.drop:∀{a:List D}{vs:List V}(n:Nat),Reps K H a vs->Reps K H (a.drop n) (vs.drop n)
|_,_,0,r=>r
|_,_,_+1,.nil=>.nil
|_,_,n+1,.cons _ t=>Reps.drop n t
noncomputable def mask(H:Hp)(a:List Addr):Hp:=λb=>if b∈a then none else H b
def cE(e:bR H E):bR (mask H ps) (mask E ps):=λb o h=>by
 unfold mask at h |-
 by_cases a:b∈ps
 ·rw[a7 a]at h;cases h
 ·rw[a6 a]at h |-;exact e b o h
def lY(h:∀p∈ef,p∈ps):bR (mask H ps) (mask H ef):=λb o e=>by
 unfold mask at e |-
 by_cases a:b∈ps
 ·rw[a7 a]at e;cases e
 ·rw[a6 a]at e;rw[a6 λz=>a (h b z)];exact e
def bZ:bR (mask H ps) H:=λb o e=>by
 unfold mask at e;by_cases a:b∈ps
 ·rw[a7 a]at e;cases e
 ·rw[a6 a]at e;exact e
def lZ{p:Addr}(h:H p=none):mask (gG H p o) (p::ps)=mask H ps:=by
 funext b;unfold mask;by_cases a:b=p
 ·subst a;rw[a7 (aU ..),h];by_cases z:b∈ps<;>simp[z]
 ·rw[cO a];by_cases z:b∈ps
  ·rw[a7 (aO _ z),a7 z]
  ·rw[a6 (λq=>(aY.mp q).elim a z),a6 z]
def jU{p:Addr}(h:p∈ps):mask (gG H p o) ps=mask H ps:=by
 funext b;unfold mask;by_cases a:b=p
 ·subst a;rw[a7 h,a7 h]
 ·rw[cO a]
def eX{p:Addr}(h:H p=none):bR H (gG H p o):=λb u q=>by rw[cO (iB q h)];exact q
def nB{p:Addr}(h:p∉ps)(e:H p=some o):mask H ps p=some o:=by
 unfold mask;rw[a6 h];exact e
noncomputable def VF:HO->Bool
|.tup _=>true
|.frz _ (.tup _)=>true
|_=>false
def E4(u:Option HO):Prop:=∃v,u=some v/\VF v=false
def E4.ne(h:E4 u):u≠none:=λz=>by obtain⟨v,e,_⟩:=h;rw[z]at e;cases e
theorem E4.lst{xs}:E4 (some (.lst xs)):=⟨_,Fc,Fc⟩
def jE{a:List Addr}{p:Addr}(live:∀q∈a,E4 (H q))(h:H p=none):p∉a:=λz=>(live p z).ne h
inductive Sl where
|un | val (d:D) | own (ts:List D) | dic (hs:List Int) (kvs:List (D×D))
def qB(K:aM)(B:Hp)(G:List Addr)(H:Hp)(f:List Addr)(m:List Sl)(C:L2.St):Prop:=∀(i:Nat)(hs:List Int)(a:List (D×D)),m[i]?=some (.dic hs a) ->
 (∃(p:Addr)(b:List (Int×Addr×V)),C[i]?=some (some (.ref p))/\p∈f/\B p=none/\p∉G/\H p=some (nK p b)/\hs=b.map (·.1)/\(a.map (·.1)).Nodup/\Reps K (mask H f) (a.map (·.1)) (b.map λe=>.ref e.2.1)/\Reps K (mask H f) (a.map (·.2)) (b.map λe=>e.2.2)) /\
 ∀(j:Nat)(c:List Int)(d:List (D×D)),m[j]?=some (.dic c d)->i=j
def qB.to{B g:Hp}(o:qB K B G H ps m C)(c:∀(i:Nat)(hs:List Int)(a:List (D×D)),dq[i]?=some (.dic hs a)->m[i]?=some (.dic hs a)/\bi[i]?=C[i]?)
  (F:∀(p:Addr)(f:Heap->Prop),p∈ps->H p=some (.ext f)->p∉G->p∈ef/\E p=H p) (z:∀(p:Addr)(f:Heap->Prop),p∈ps->H p=some (.ext f)->B p=none->p∉G->g p=none/\p∉p0') (k:bR (mask H ps) (mask E ef)):qB K g p0' E ef dq bi:=λi hs a h=>by
 obtain⟨x,y⟩:=c i hs a h;obtain⟨⟨p,w,a1,a2,l,a4,e,n,q,r,s⟩,u⟩:=o i hs a x;obtain⟨b1,t⟩:=F p _ a2 e a4;obtain⟨c1,v⟩:=z p _ a2 e l a4;exact⟨⟨p,w,y.trans a1,b1,c1,v,t.trans e,n,q,r.same k,s.same k⟩,λj b d A=>u j b d (c j b d A).1⟩
def BA{m:List Sl}{i j:Nat}(c:∀hs a,s≠.dic hs a)(h:(m.set i s)[j]?=some (.dic hs a)):i≠j/\m[j]?=some (.dic hs a):=by
 by_cases e:i=j
 ·subst e;have b:i<m.length:=by simpa using(aE.mp h).1
  rw[bK b]at h;exact a9 (c5 h) (c hs a)
 ·rw[bI e]at h;exact⟨e,h⟩
def qB.setS{m:List Sl}{C:L2.St}(o:qB K B G H ps m C){i:Nat}(d:∀hs c,s≠.dic hs c):qB K B G H ps (m.set i s) (C.set i v):=
 o.to (λj hs c h=>let ⟨e,h'⟩:=BA d h;⟨h',bI e⟩) (λp f a b _=>⟨a,Fc⟩) (λp f _ _ a b=>⟨a,b⟩) (L2.bR.refl _)
def qB.setT{m:List Sl}(o:qB K B G H ps m C){i:Nat}(d:∀hs c,s≠.dic hs c):qB K B G H ps (m.set i s) C:=
 o.to (λj hs c h=>⟨(BA d h).2,Fc⟩) (λp e a b _=>⟨a,Fc⟩) (λp e _ _ a b=>⟨a,b⟩) (L2.bR.refl _)
def qB.grow(o:qB K B G H ps m C)(e:bR H E):qB K B G E ps m C:=
 o.to (λj hs c h=>⟨h,Fc⟩) (λp d a b _=>⟨a,(e p _ b).trans b.symm⟩) (λp d _ _ a b=>⟨a,b⟩) (cE e)
structure Ok(K:aM)(B:Hp)(G:List Addr)(H:Hp)(ps:List Addr)(m:List Sl)(C:L2.St):Prop where
 base:bR B H
 sub:∀p∈G,p∈ps
 live:∀p∈ps,E4 (H p)
 len:m.length=C.length
 val:∀(i:Nat)(d:D),m[i]?=some (.val d)->∃v,C[i]?=some (some v)/\iP K (mask H ps) d v
 own:∀(i:Nat)(ts:List D),m[i]?=some (.own ts)->∃p xs,C[i]?=some (some (.ref p))/\p∈ps/\B p=none/\p∉G/\H p=some (.lst xs)/\Reps K (mask H ps) ts xs
 dis:∀(i j:Nat)(ts us:List D)(p:Addr),m[i]?=some (.own ts)->m[j]?=some (.own us)->C[i]?=some (some (.ref p))->C[j]?=some (some (.ref p))->i=j
 dc:qB K B G H ps m C
variable{B:Hp}{G ps:List Addr}{m:List Sl}{C:L2.St}
theorem Ok.grow(o:Ok K B G H ps m C)(e:bR H E):Ok K B G E ps m C where
 base:=o.base.trans e
 sub:=o.sub
 live:=λp hp=>let ⟨u,h1,h2⟩:=o.live p hp;⟨u,e p u h1,h2⟩
 len:=o.len
 val:=λi d h=>let ⟨v,h1,h2⟩:=o.val i d h;⟨v,h1,h2.same (cE e)⟩
 own:=λi ts h=>let ⟨p,xs,h1,h2,h3,h4,h5,h6⟩:=o.own i ts h;⟨p,xs,h1,h2,h3,h4,e _ _ h5,h6.same (cE e)⟩
 dis:=o.dis
 dc:=o.dc.grow e
theorem Ok.set(o:Ok K B G H ps m C){i:Nat}(r:iP K (mask H ps) d v):Ok K B G H ps (m.set i (.val d)) (C.set i (some v)) where
 base:=o.base
 sub:=o.sub
 live:=o.live
 len:=by simpa using o.len
 val:=λj d' h=>by
  by_cases e:i=j
  ·subst e
   have hi:i<m.length:=by
    have:=(aE.mp h).1;simpa using this
   rw[bK hi]at h;cases h;exact⟨v,by rw[bK (by rw[<- o.len];exact hi)],r⟩
  ·rw[bI e]at h |-
   exact o.val j d' h
 own:=λj ts h=>by
  by_cases e:i=j
  ·subst e
   have hi:i<m.length:=by
    have:=(aE.mp h).1;simpa using this
   rw[bK hi]at h;cases h
  ·rw[bI e]at h |-
   exact o.own j ts h
 dis:=λj k ts us p h1 h2 h3 h4=>by
  have ne:∀{l:Nat}{ts:List D},(m.set i (.val d))[l]?=some (.own ts)->i≠l:=λ{l ts} h e=>by
   subst e
   have hi:i<m.length:=by
    have:=(aE.mp h).1;simpa using this
   rw[bK hi]at h;cases h
  have e1:=ne h1;have e2:=ne h2;rw[bI e1]at h1 h3;rw[bI e2]at h2 h4;exact o.dis j k ts us p h1 h2 h3 h4
 dc:=o.dc.setS λ_ _ z=>nomatch z
def Ok.setOwn(o:Ok K B G H ps m C){i:Nat}{ts:List D}{xs:List V}{p:Addr}(A:H p=none)(r:Reps K (mask H ps) ts xs):Ok K B G (gG H p (.lst xs)) (p::ps) (m.set i (.own ts)) (C.set i (some (.ref p))):=by
 have L:mask (gG H p (.lst xs)) (p::ps)=mask H ps:=lZ A;have w:p∉ps:=jE o.live A
 have N:∀{l:Nat}{x:List D},i≠l->m[l]?=some (.own x)->C[l]?≠some (some (.ref p)):=λ{l x} _ h z=>by
  obtain⟨q,_,c,f,_⟩:=o.own l x h;rw[z]at c;cases c;exact w f
 refine⟨o.base.trans (eX A),λq M=>aO _ (o.sub q M),λq M=>?_,by simpa using o.len,λj d h=>?_,λj x h=>?_,λj k x R q c f g n=>?_,?_⟩
 ·by_cases e:q=p
  ·subst e;rw[cW];exact .lst
  ·rw[cO e];rcases aY.mp M with z | z
   ·exact a9 z e
   ·exact o.live q z
 ·rw[L];by_cases e:i=j
  ·subst e;have t:i<m.length:=by simpa using(aE.mp h).1
   rw[bK t]at h;cases h
  ·rw[bI e]at h |-
   exact o.val j d h
 ·rw[L];by_cases e:i=j
  ·subst e;have t:i<m.length:=by simpa using(aE.mp h).1
   rw[bK t]at h;cases h;refine⟨p,xs,by rw[bK (by rw[<- o.len];exact t)],aU ..,?_,λz=>w (o.sub p z),cW,r⟩
   cases q:B p with
   |none=>rfl
   |some u=>rw[o.base p u q]at A;cases A
  ·rw[bI e]at h |-
   obtain⟨q,S,c,f,g,n,O,P⟩:=o.own j x h;refine⟨q,S,c,aO _ f,g,n,?_,P⟩;rw[cO (λz:q=p=>w (z▸f))];exact O
 ·by_cases F:i=j
  ·by_cases y:i=k
   ·exact F.symm.trans y
   ·subst F;have t:i<m.length:=by simpa using(aE.mp c).1
    rw[bK (by rw[<- o.len];exact t)]at g;cases g;rw[bI y]at f n;exact a9 n (N y f)
  ·by_cases y:i=k
   ·subst y;have t:i<m.length:=by simpa using(aE.mp f).1
    rw[bK (by rw[<- o.len];exact t)]at n;cases n;rw[bI F]at c g;exact a9 g (N F c)
   ·rw[bI F]at c g;rw[bI y]at f n;exact o.dis j k x R q c f g n
 ·exact(o.dc.setS (i:=i) (s:=.own ts) (v:=some (.ref p)) λ_ _ z=>nomatch z).to (λj hs Q h=>⟨h,Fc⟩) (λq T a b _=>⟨aO _ a,cO λz=>by rw[z,A]at b;cases b⟩) (λq T _ _ a b=>⟨a,b⟩) (by rw[L];exact L2.bR.refl _)
def Ok.write(o:Ok K B G H ps m C){i:Nat}{p:Addr}(w:m[i]?=some (.own ts))(f:C[i]?=some (some (.ref p)))(r:Reps K (mask H ps) us ys) :
  Ok K B G (gG H p (.lst ys)) ps (m.set i (.own us)) C:=by
 obtain⟨q,Y,M,N,O,P,Q,X⟩:=o.own i ts w;rw[f]at M;cases M;have x:mask (gG H p (.lst ys)) ps=mask H ps:=jU N;have t:i<m.length:=(aE.mp w).1;refine⟨λb u e=>?_,o.sub,λq R=>?_,by simpa using o.len,λj d h=>?_,λj F h=>?_,λj k vs F q n v y A=>?_,?_⟩
 ·have ne:b≠p:=λz=>by rw[z,O]at e;cases e
  rw[cO ne];exact o.base b u e
 ·by_cases e:q=p
  ·subst e;rw[cW];exact .lst
  ·rw[cO e];exact o.live q R
 ·rw[x];by_cases e:i=j
  ·subst e;rw[bK t]at h;cases h
  ·rw[bI e]at h;exact o.val j d h
 ·rw[x];by_cases e:i=j
  ·subst e;rw[bK t]at h;cases h;exact⟨p,ys,f,N,O,P,cW,r⟩
  ·rw[bI e]at h;obtain⟨q,vs,n,v,y,A,S,T⟩:=o.own j F h;refine⟨q,vs,n,v,y,A,?_,T⟩;rw[cO (λz:q=p=>e (o.dis i j ts F p w h f (z▸n)))];exact S
 ·have c:∀{l:Nat}{vs:List D},(m.set i (.own us))[l]?=some (.own vs)->∃g,m[l]?=some (.own g):=λ{l vs} h=>by
   by_cases e:i=l
   ·subst e;exact⟨ts,w⟩
   ·rw[bI e]at h;exact⟨vs,h⟩
  obtain⟨g,n⟩:=c n;obtain⟨L,v⟩:=c v;exact o.dis j k g L q n v y A
 ·exact(o.dc.setT (i:=i) (s:=.own us) λ_ _ z=>nomatch z).to (λj hs U h=>⟨h,Fc⟩) (λq W a b _=>⟨a,cO λz=>by rw[z,Q]at b;cases b⟩) (λq W _ _ a b=>⟨a,b⟩) (by rw[x];exact L2.bR.refl _)
def Ok.share(o:Ok K B G H ps m C){i:Nat}(x:m[i]?=some (.own ts)):∃u,Ok K B G H u (m.set i (.val (.list ts))) C/\bR (mask H ps) (mask H u):=by
 obtain⟨p,Y,L,W,X,N,M,O⟩:=o.own i ts x;have g:i<m.length:=(aE.mp x).1;have c:bR (mask H ps) (mask H (ps.filter λq=>decide (q≠p))):=lY λq n=>(cM.mp n).1;have y:p∉ps.filter λq=>decide (q≠p):=λz=>(b8 (cM.mp z).2) Fc;refine⟨ps.filter λq=>decide (q≠p),⟨o.base,λq n=>cM.mpr ⟨o.sub q n,a8 λz=>N (z▸n)⟩,λq n=>o.live q (cM.mp n).1,by simpa using o.len,λj d h=>?_,λj w h=>?_,λj k w S q r t A F=>?_,?_⟩,c⟩
 ·by_cases e:i=j
  ·subst e;rw[bK g]at h;cases h;exact⟨_,L,.list (lU.of (nB y M)) (O.same c)⟩
  ·rw[bI e]at h;obtain⟨v,r,t⟩:=o.val j d h;exact⟨v,r,t.same c⟩
 ·by_cases e:i=j
  ·subst e;rw[bK g]at h;cases h
  ·rw[bI e]at h;obtain⟨q,T,r,t,A,F,P,Q⟩:=o.own j w h;exact⟨q,T,r,cM.mpr ⟨t,a8 λz=>e (o.dis i j ts w p x h L (z▸r))⟩,A,F,P,Q.same c⟩
 ·have f:∀{l:Nat}{vs:List D},(m.set i (.val (.list ts)))[l]?=some (.own vs)->m[l]?=some (.own vs):=λ{l vs} h=>by
   by_cases e:i=l
   ·subst e;rw[bK g]at h;cases h
   ·rw[bI e]at h;exact h
  exact o.dis j k w S q (f r) (f t) A F
 ·exact(o.dc.setT (i:=i) (s:=.val (.list ts)) λ_ _ z=>nomatch z).to (λj hs R h=>⟨h,Fc⟩) (λq U a b _=>⟨cM.mpr ⟨a,a8 λz=>by rw[z,M]at b;cases b⟩,Fc⟩) (λq U _ _ a b=>⟨a,b⟩) c
abbrev ET:=List Sl->(D->Prop)->Prop
abbrev yA:=List Sl->(Bool->Prop)->Prop
abbrev AT:=List Sl->(List D->Prop)->Prop
def iM(X:Cx)(e:Expr)(t:ET):Prop:=∃b:TE,PE X e b/\∀B G H ps m C (Q:D->Prop)(a:VK),Ok X.K B G H ps m C->t m Q ->
 (∀d v E,bR H E->iP X.K (mask E ps) d v->Q d->a v E)->b C H a
def GX(X:Cx)(e:Expr)(t:yA):Prop:=∃c:TT,PT X e c/\∀B G H ps m C (Q:Bool->Prop)(a:Bool->Hp->Prop),Ok X.K B G H ps m C->t m Q ->
 (∀b E,bR H E->Q b->a b E)->c C H a
def Fl(X:Cx)(e:Expr)(t:yA):Prop:=∃c:TT,PW X e c/\∀B G H ps m C (Q:Bool->Prop)(a:Bool->Hp->Prop),Ok X.K B G H ps m C->t m Q ->
 (∀b E,bR H E->Q b->a b E)->c C H a
def wN(X:Cx)(d:List Expr)(t:AT):Prop:=∃c:TA,PA X d c/\∀B G H ps m C (Q:List D->Prop)(a:List V->Hp->Prop),Ok X.K B G H ps m C->t m Q ->
 (∀b vs E,bR H E->Reps X.K (mask E ps) b vs->Q b->a vs E)->c C H a
set_option genInjectivity false in
structure vO where
 nx:List Sl->Prop
 rt:D->Prop
 bk:List Sl->Prop:=λ_=>False
 ct:List Sl->Prop:=λ_=>False
 ro:List D->Prop:=λ_=>False
 rp:List D->List D->Prop:=λ_ _=>False
 rq:D->List D->Prop:=λ_ _=>False
 xB:Hp->Prop:=λ_=>True
abbrev sZ:=vO->List Sl->Prop
structure KD(K:aM)(B:Hp)(G:List Addr)(H:Hp)(ps:List Addr)(DT:vO)(DV:G4):Prop where
 nx:∀E ef dq bi,Ok K B G E ef dq bi->bR (mask H ps) (mask E ef)->DT.nx dq->DV.nx bi E
 bk:∀E ef dq bi,Ok K B G E ef dq bi->bR (mask H ps) (mask E ef)->DT.bk dq->DV.bk bi E
 ct:∀E ef dq bi,Ok K B G E ef dq bi->bR (mask H ps) (mask E ef)->DT.ct dq->DV.ct bi E
 rt:∀d v E,bR B E->iP K (mask E G) d v->DT.rt d->DV.rt v E
 ro:∀ts p xs E,bR B E->B p=none->p∉G->E p=some (.lst xs)->Reps K (mask E (p::G)) ts xs->DT.ro ts->DV.rt (.ref p) E
 rp:∀as bs r p q xs ys E,bR B E->B r=none->B p=none->B q=none->p≠q->E r=some (.tup [.ref p,.ref q])->E p=some (.lst xs)->E q=some (.lst ys)->Reps K (mask E (p::q::G)) as xs->Reps K (mask E (p::q::G)) bs ys->DT.rp as bs->DV.rt (.ref r) E
 rq:∀a ts r p x xs E,bR B E->B r=none->B p=none->E r=some (.tup [x,.ref p])->E p=some (.lst xs)->iP K (mask E (p::G)) a x->Reps K (mask E (p::G)) ts xs->DT.rq a ts->DV.rt (.ref r) E
 xb:DT.xB B
def KD.later(f:KD K B G H ps DT DV)(e:bR (mask H ps) (mask E ef)):KD K B G E ef DT DV:=
 ⟨λ_ _ _ _ o s q=>f.nx _ _ _ _ o (e.trans s) q,λ_ _ _ _ o s q=>f.bk _ _ _ _ o (e.trans s) q,λ_ _ _ _ o s q=>f.ct _ _ _ _ o (e.trans s) q,f.rt,f.ro,f.rp,f.rq,f.xb⟩
def wM(X:Cx)(st:Stmt)(t:sZ):Prop:=∃c:TS,PS X st c/\∀B G H ps m C (a:vO)(b:G4),Ok X.K B G H ps m C->t a m->KD X.K B G H ps a b->c b C H
def sJ(X:Cx)(st:List Stmt)(t:sZ):Prop:=∃c:TS,AH X st c/\∀B G H ps m C (a:vO)(b:G4),Ok X.K B G H ps m C->t a m->KD X.K B G H ps a b->c b C H
def DO(X:Cx)(r:R2)(f:D->D->(D->Prop)->Prop):Prop:=∀H ps(a b:D)(x y:V)(Q:D->Prop)QV,(∀p∈ps,E4 (H p))->iP X.K (mask H ps) a x->iP X.K (mask H ps) b y->f a b Q ->
 (∀d v E,bR H E->iP X.K (mask E ps) d v->Q d->QV v E)->r x y H QV
def uI(X:Cx)(r:List V->Hp->VK->Prop)(f:List D->(D->Prop)->Prop):Prop:=∀H ps(a:List D)(b:List V)(Q:D->Prop)QV,(∀p∈ps,E4 (H p))->Reps X.K (mask H ps) a b->f a Q ->
 (∀d v E,bR H E->iP X.K (mask E ps) d v->Q d->QV v E)->r b H QV
section
variable{X:Cx}{a b e:Expr}{L:List Expr}{l s P:ET}{pos:Pos}
inductive WR(C:List Sl)(i:Nat)(Q:D->Prop):Prop
|mk (d:D) (h:C[i]?=some (.val d)) (k:Q d):WR C i Q
def RA{C}{i:Nat}{Q:D->Prop}:WR C i Q↔∃d,C[i]?=some (.val d)/\Q d:=⟨λ⟨d,h,k⟩=>⟨d,h,k⟩,λ⟨d,h,k⟩=>⟨d,h,k⟩⟩
def AD(i:Nat):ET:=λC Q=>WR C i Q
def eC(d:D):ET:=λ_ Q=>Q d
def aH(i:Nat){x:Str}{pos}(g:autoParam (X.N[i]?=some x) zzz._auto_1)(j:autoParam (Gb X.env.scope x) zzn._auto_1)(hd:autoParam ((x==("__debug__":Str))=false) zzy._auto_1)
  (c:autoParam ((x==("__classdict__":Str))=false) zzy._auto_1):iM X (.Name x pos) (AD i):=
 ⟨_,TJ g j hd c,λB G H ps m C Q n o h k=>by
  obtain⟨d,e,q⟩:=h;obtain⟨v,f,r⟩:=o.val i d e;exact⟨v,f,k d v H (L2.bR.refl H) r q⟩⟩
def aK{pos}:iM X (.Constant (.int i) j pos) (eC (.int i)):=⟨_,yL,λ_ _ H _ _ _ _ _ _ h k=>k _ _ H (L2.bR.refl H) (.int i) h⟩
def nL{b pos}:iM X (.Constant (.bool b) j pos) (eC (.bool b)):=⟨_,Ru,λ_ _ H _ _ _ _ _ _ h k=>k _ _ H (L2.bR.refl H) (.bool b) h⟩
def pJ{pos}:iM X (.Constant .none j pos) (eC .none):=⟨_,aD2,λ_ _ H _ _ _ _ _ _ h k=>k _ _ H (L2.bR.refl H) .none h⟩
def eN{pos}:iM X (.Constant (.str x) j pos) (eC (.str x)):=⟨_,aD0,λ_ _ H _ _ _ _ _ _ h k=>k _ _ H (L2.bR.refl H) (.str x) h⟩
def aAh{x:Str}{i:Int}{pos}(c:Gl X x)(d:X.mg x=some (.int i t))(hd:autoParam ((x==("__debug__":Str))=false) zzy._auto_1):iM X (.Name x pos) (eC (.int i)):=⟨_,NU (v:=.int i) c d ⟨t,Fc⟩ hd,λ_ _ H _ _ _ _ _ _ h k=>k _ _ H (L2.bR.refl H) (.int i) h⟩
def KI(f:D->D->(D->Prop)->Prop)(l s:ET):ET:=λC Q=>l C λx=>s C λy=>f x y Q
def AY{f:D->D->(D->Prop)->Prop}(t:DO X r f){j n:TE}
  (u:∀B G H ps m C (Q:D->Prop)(c:VK),Ok X.K B G H ps m C->l m Q->(∀d v E,bR H E->iP X.K (mask E ps) d v->Q d->c v E)->j C H c)
  (w:∀B G H ps m C (Q:D->Prop)(c:VK),Ok X.K B G H ps m C->s m Q->(∀d v E,bR H E->iP X.K (mask E ps) d v->Q d->c v E)->n C H c)
  (B:Hp) (G:List Addr) (H:Hp) (ps:List Addr) (m:List Sl) (C:L2.St) (Q:D->Prop) (c:VK) (o:Ok X.K B G H ps m C) (h:KI f l s m Q) (k:∀d v E,bR H E->iP X.K (mask E ps) d v->Q d->c v E):Fn r j n C H c:=by
 refine u B G H ps m C _ _ o h λp x I g M q1=>?_;refine w B G I ps m C _ _ (o.grow g) q1 λq y J i N A=>?_;exact t J ps p q x y Q c ((o.grow g).grow i).live (M.same (cE i)) N A λd v E O F z=>k d v E (g.trans (i.trans O)) F z
def cJ{f:D->D->(D->Prop)->Prop}(h:oU X (m3 op) r)(c:DO X r f)(d:iM X a l)(g:iM X b s):iM X (.BinOp a op b pos) (KI f l s):=by
 obtain⟨n,i,j⟩:=d;obtain⟨o,pb,k⟩:=g;exact⟨_,IQ h i pb,AY c j k⟩
def lP{f:D->D->(D->Prop)->Prop}(i:oU X (d9 op) r)(c:DO X r f)(d:iM X a l)(g:iM X b s)(h:autoParam (z4 op b=false) zzq._auto_1):iM X (.Compare a [op] [b] pos) (KI f l s):=by
 obtain⟨p,j,n⟩:=d;obtain⟨q,k,o⟩:=g;exact⟨_,Y9 i j k h,AY c n o⟩
def bD{f:D->D->(D->Prop)->Prop}(h:XG X r)(c:DO X r f)(d:iM X a l)(g:iM X b s)(hs:autoParam (GW b) zzs._auto_1):iM X (.Subscript a b pos) (KI f l s):=by
 obtain⟨n,i,j⟩:=d;obtain⟨o,pb,k⟩:=g;exact⟨_,D6 h i pb hs,AY c j k⟩
def Jg(l:ET):ET:=λC Q=>l C λx=>match x with | .int i=>Q (.int (-i)) | _=>False
def L9(c:iM X a l):iM X (.UnaryOp .USub a pos) (Jg l):=by
 obtain⟨q,f,j⟩:=c;refine⟨_,Ry aC1 f,λB G H ps m C Q p o h k=>j B G H ps m C _ _ o h λd x I n g q1=>?_⟩
 cases g with
 |int i=>exact⟨i,Fc,k _ _ I n (.int _) q1⟩
 |_=>exact q1.elim
def J7:AT:=λ_ Q=>Q []
def qA(t:ET)(r:AT):AT:=λC Q=>t C λx=>r C λc=>Q (x::c)
def aL:wN X [] J7:=⟨_,lD,λ_ _ H _ _ _ _ _ _ h k=>k _ _ H (L2.bR.refl H) .nil h⟩
def aA(g:iM X e P)(i:wN X L tr)(hs:autoParam (cD (e::L) X.env=(false,eval e X.env)::cD L X.env) zzz._auto_1):wN X (e::L) (qA P tr):=by
 obtain⟨y,j,t⟩:=g;obtain⟨z,n,u⟩:=i;refine⟨_,jC j n hs,λB G H ps m C Q v o h k=>t B G H ps m C _ _ o h λd x I c q q1=>?_⟩;refine u B G I ps m C _ _ (o.grow c) q1 λw A J f r p=>?_;exact k _ _ J (c.trans f) (.cons (q.same (cE f)) r) p
def Hc(t:AT):ET:=λC Q=>t C λc=>c.length<=1000/\Q (.tuple c)
def Jf(t:AT):ET:=λC Q=>t C λc=>c.length<=1000/\Q (.list c)
def rX{ps:List Addr}{p:Addr}{c:List D}{f:List V}(live:∀q∈ps,E4 (H q))(d:H p=none)(r:Reps K (mask H ps) c f):iP K (mask (gG H p (.tup f)) ps) (.tuple c) (.ref p):=
 .tuple (rO.of (nB (jE live d) cW)) (r.same (cE (eX d)))
def rY{ps:List Addr}{p:Addr}{c:List D}{f:List V}(live:∀q∈ps,E4 (H q))(d:H p=none)(r:Reps K (mask H ps) c f):iP K (mask (gG H p (.lst f)) ps) (.list c) (.ref p):=
 .list (lU.of (nB (jE live d) cW)) (r.same (cE (eX d)))
def GB{n:Nat}(h:n<=1000):n<=bO:=iI (PH h)
def eM(h:wN X L t):iM X (.Tuple L x1 pos) (Hc t):=by
 obtain⟨v,p,r⟩:=h;refine⟨_,TK p,λB G H ps m C Q g o h k=>r B G H ps m C _ _ o h λi j I f d q1=>⟨GB (by rw[<- d.length];exact q1.1),λq c=>?_⟩⟩;exact k _ _ _ (f.trans (eX c)) (rX (o.grow f).live c d) q1.2
def kF(h:wN X L t):iM X (.List L pos) (Jf t):=by
 obtain⟨v,p,r⟩:=h;refine⟨_,LD p,λB G H ps m C Q g o h k=>r B G H ps m C _ _ o h λi j I f d q1=>⟨GB (by rw[<- d.length];exact q1.1),λq c=>?_⟩⟩;exact k _ _ _ (f.trans (eX c)) (rY (o.grow f).live c d) q1.2
def nM(f:List D->(D->Prop)->Prop)(t:AT):ET:=λC Q=>t C λc=>f c Q
abbrev kQ:=List D->(D->Prop)->Prop
def cG(K:aM)(g:kQ):Sp:=λvs H Q _=>∃(ps:List Addr)(f:List D)(c:D->Prop),(∀p∈ps,E4 (H p))/\Reps K (mask H ps) f vs/\g f c/\∀d v E,bR H E->iP K (mask E ps) d v->c d->Q v E
def aAj{k:Nat}{f:Addr}{pn}(F:dS X.prog X.w X.K X.mg X.base hX k f fd pn (cG X.K sp))(R:X.mg x=some (.ref f))(hk:iD X.K (.ref f)=true)(O:sS X.K fd pn [])
  (S:Room k X.A) (j:wN X (e::L) t) (q:∀{l},PA X (e::L) l->PE X (.Call (.Name x p) (e::L) [] pos) (NB (cG X.K sp) [] E0 l)):iM X (.Call (.Name x p) (e::L) [] pos) (nM sp t):=by
 obtain⟨v,n,z⟩:=j;refine⟨_,q n,λB G H ps m C Q g o h k=>z B G H ps m C _ _ o h λi N I c y q1=>?_⟩;show cG X.K sp (N++[]) I g E0;rw[fS];exact⟨ps,i,Q,(o.grow c).live,y,q1,λd v E M u r=>k d v E (c.trans M) u r⟩
def CW(t:ET):yA:=λC Q=>t C λx=>match x with | .bool b=>Q b | _=>False
def aC2(h:iM X e P)(pt:∀{t},PE X e t->PT X e (tB t)):GX X e (CW P):=by
 obtain⟨v,p,r⟩:=h;refine⟨_,pt p,λB G H ps m C Q i o h k=>r B G H ps m C _ _ o h λd x I g f q1=>?_⟩
 cases f with
 |bool c=>exact⟨c,Fc,k c I g q1⟩
 |_=>exact q1.elim
def dN{f:D->D->(D->Prop)->Prop}(q:oU X (d9 op) r)(i:DO X r f)(j:iM X a l)(n:iM X b s)(p:autoParam (z4 op b=false) zzq._auto_1):GX X (.Compare a [op] [b] pos) (CW (KI f l s)):=by
 obtain⟨M,t,y⟩:=j;obtain⟨N,u,z⟩:=n;refine⟨_,FX q t u p,λB G H ps m C Q F o h k=>?_⟩;refine AY i y z B G H ps m C (λx=>match x with | .bool b=>Q b | _=>False) _ o h λd v E A w g=>?_
 cases w with
 |bool c=>exact⟨c,Fc,k c E A g⟩
 |_=>exact g.elim
def Hb(t:yA):yA:=λC Q=>t C λb=>Q (!b)
def Jb(t u:yA):yA:=λC Q=>t C λb=>if b=true then u C Q else Q false
def Gv(t u:yA):yA:=λC Q=>t C λb=>if b=true then Q true else u C Q
variable{M O:yA}{jM:List Expr}
def yG(h:GX X a M):GX X (.UnaryOp .Not a pos) (Hb M):=by
 obtain⟨v,p,r⟩:=h;exact⟨_,Zi p,λB G H ps m C Q f o h k=>r B G H ps m C _ _ o h λb E d c=>k _ E d c⟩
def qR(h:Fl X e M):GX X e M:=by
 obtain⟨v,p,r⟩:=h;exact⟨_,p.pt,r⟩
def AS(h:GX X a M):Fl X (.BoolOp .And [a] pos) M:=by
 obtain⟨v,p,r⟩:=h;exact⟨_,YY p,r⟩
def rS(h:GX X a M):Fl X (.BoolOp .Or [a] pos) M:=by
 obtain⟨v,p,r⟩:=h;exact⟨_,Zl p,r⟩
def FM(f:GX X a M)(g:Fl X (.BoolOp .And (b::jM) pos) O):Fl X (.BoolOp .And (a::b::jM) pos) (Jb M O):=by
 obtain⟨u,i,p⟩:=f;obtain⟨v,j,q⟩:=g;refine⟨_,Zk i j,λB G H ps m C Q t o h k=>p B G H ps m C _ _ o h λc I d q1=>?_⟩
 cases c with
 |true=>exact q B G I ps m C Q _ (o.grow d) q1 λb E r n=>k b E (d.trans r) n
 |false=>exact k _ I d q1
def oC(f:GX X a M)(g:Fl X (.BoolOp .Or (b::jM) pos) O):Fl X (.BoolOp .Or (a::b::jM) pos) (Gv M O):=by
 obtain⟨u,i,p⟩:=f;obtain⟨v,j,q⟩:=g;refine⟨_,Rz i j,λB G H ps m C Q t o h k=>p B G H ps m C _ _ o h λc I d q1=>?_⟩
 cases c with
 |true=>exact k _ I d q1
 |false=>exact q B G I ps m C Q _ (o.grow d) q1 λb E r n=>k b E (d.trans r) n
def Jd(l s:ET):ET:=λC Q=>l C λx=>match x with | .bool c=>if c=true then s C Q else Q (.bool false) | _=>False
def Ni(l s:ET):ET:=λC Q=>l C λx=>match x with | .bool c=>if c=true then Q (.bool true)else s C Q | _=>False
def L8(h:iM X a l):iM X (.BoolOp op [a] pos) l:=by
 obtain⟨v,p,r⟩:=h;exact⟨_,aD1 p,r⟩
def MA(g:iM X a l)(i:iM X (.BoolOp .And (b::jM) pos) s):iM X (.BoolOp .And (a::b::jM) pos) (Jd l s):=by
 obtain⟨z,j,t⟩:=g;obtain⟨A,n,u⟩:=i;refine⟨_,aD5 j n,λB G H ps m C Q y o h k=>t B G H ps m C _ _ o h λd x I f r q1=>?_⟩
 cases r with
 |bool c=>
  refine⟨c,Fc,?_⟩
  cases c with
  |true=>exact u B G I ps m C Q _ (o.grow f) q1 λd v E w q p=>k d v E (f.trans w) q p
  |false=>exact k _ _ I f (.bool false) q1
 |_=>exact q1.elim
def MD(f g:D->D->(D->Prop)->Prop)(l s d:ET):ET:=λC Q=>l C λx=>s C λy=>f x y λz=>match z with | .bool c=>if c=true then d C λw=>g y w Q else Q (.bool false) | _=>False
end
end TL
namespace TL
open L2
variable{K:aM}{H L T U:Hp}{B:Hp}{O I:List Addr}{C:List Sl}{G:L2.St}
section
variable{X:Cx}{a b c e:Expr}{es:List Expr}{Y Z tc W:ET}{pos:Pos}
def MH{f g:D->D->(D->Prop)->Prop}(N:DO X r f)(n:DO X m g){u A E:TE}
  (P:∀B O H I C G (Q:D->Prop)(i:VK),Ok X.K B O H I C G->Y C Q->(∀d v L,bR H L->iP X.K (mask L I) d v->Q d->i v L)->u G H i)
  (R:∀B O H I C G (Q:D->Prop)(i:VK),Ok X.K B O H I C G->Z C Q->(∀d v L,bR H L->iP X.K (mask L I) d v->Q d->i v L)->A G H i)
  (S:∀B O H I C G (Q:D->Prop)(i:VK),Ok X.K B O H I C G->tc C Q->(∀d v L,bR H L->iP X.K (mask L I) d v->Q d->i v L)->E G H i)
  (B:Hp) (O:List Addr) (H:Hp) (I:List Addr) (C:List Sl) (G:L2.St) (Q:D->Prop) (i:VK) (o:Ok X.K B O H I C G) (h:MD f g Y Z tc C Q) (k:∀d v L,bR H L->iP X.K (mask L I) d v->Q d->i v L):SA r m u A E G H i:=by
 refine P B O H I C G _ _ o h λJ x T j r1 q1=>?_;refine R B O T I C G _ _ (o.grow j) q1 λs y U l t q2=>?_;refine N U I J s x y _ _ ((o.grow j).grow l).live (r1.same (cE l)) t q2 λd3 z H3 s3 r3 p=>?_
 cases r3 with
 |bool c=>
  refine⟨c,Fc,?_⟩
  cases c with
  |false=>exact k _ _ H3 (j.trans (l.trans s3)) (.bool false) p
  |true=>
   refine S B O H3 I C G _ _ (((o.grow j).grow l).grow s3) p λM w F q r4 q4=>?_;exact n F I s M y w Q i ((((o.grow j).grow l).grow s3).grow q).live ((t.same (cE s3)).same (cE q)) r4 q4 λd v L s' m q'=>k d v L (j.trans (l.trans (s3.trans (q.trans s')))) m q'
 |_=>exact p.elim
def HU{f g:D->D->(D->Prop)->Prop}(u:oU X (d9 op) r)(l:oU X (d9 op') i)(n:DO X r f)(j:DO X i g)(p:iM X a Y)(q:iM X b Z)(s:iM X c tc)
  (t:autoParam (lastMarks [op,op'] [b,c]=false) zzo._auto_1):GX X (.Compare a [op,op'] [b,c] pos) (CW (MD f g Y Z tc)):=by
 obtain⟨N,w,A⟩:=p;obtain⟨P,y,E⟩:=q;obtain⟨R,z,F⟩:=s;refine⟨_,S4 u l w y z t,λB O H I C G Q M o h k=>?_⟩;refine MH n j A E F B O H I C G (λx=>match x with | .bool b=>Q b | _=>False) _ o h λd v L J i m=>?_
 cases i with
 |bool c=>exact⟨c,Fc,k c L J m⟩
 |_=>exact m.elim
abbrev OT:=List Sl->(Option Int->Prop)->Prop
def Ge(X:Cx)(e:Option Expr)(t:OT):Prop:=∃to:TO,PO X e to/\∀B O H I C G (Q:Option Int->Prop)(d:Option Int->Hp->Prop),Ok X.K B O H I C G->t C Q ->
 (∀i L,bR H L->Q i->d i L)->to G H d
def JB:OT:=λ_ Q=>Q none
def JA(t:ET):OT:=λG Q=>t G λx=>match x with | .int i=>Q (some i) | _=>False
def mY:Ge X none JB:=⟨_,Y3,λ_ _ H _ _ _ _ _ _ h k=>k _ H (L2.bR.refl H) h⟩
def jT(h:iM X e W):Ge X (some e) (JA W):=by
 obtain⟨v,p,r⟩:=h;refine⟨_,Y2 p,λB O H I C G Q j o h k=>r B O H I C G _ _ o h λd x T g f q1=>?_⟩
 cases f with
 |int i=>exact⟨i,Fc,k _ T g q1⟩
 |_=>exact q1.elim
def Ml(X:Cx)(r:V->Option Int->Option Int->Hp->VK->Prop)(f:D->Option Int->Option Int->(D->Prop)->Prop):Prop:=∀H I(d:D)(x:V)(lo g:Option Int)(Q:D->Prop)QV,(∀p∈I,E4 (H p))->iP X.K (mask H I) d x->f d lo g Q ->
 (∀d v L,bR H L->iP X.K (mask L I) d v->Q d->QV v L)->r x lo g H QV
def Fv(f:D->Option Int->Option Int->(D->Prop)->Prop)(t:ET)(g d:OT):ET:=λG Q=>t G λx=>g G λl=>d G λu=>f x l u Q
def jW{r:V->Option Int->Option Int->Hp->VK->Prop}{f:D->Option Int->Option Int->(D->Prop)->Prop}{lo}(q:WS X r)(m:Ml X r f)(n:iM X e W)(p:Ge X lo tl)(s:Ge X hi th) :
  iM X (.Subscript e (.Slice lo hi none p2) pos) (Fv f W tl th):=by
 obtain⟨R,t,re⟩:=n;obtain⟨S,w,M⟩:=p;obtain⟨vu,y,N⟩:=s;refine⟨_,TN q t w y,λB O H I C G Q j o h k=>re B O H I C G _ _ o h λd x T g J q1=>?_⟩;refine M B O T I C G _ _ (o.grow g) q1 λl U i A=>?_;refine N B O U I C G _ _ ((o.grow g).grow i) A λu H3 s3 E=>?_;exact m H3 I d x l u Q j (((o.grow g).grow i).grow s3).live ((J.same (cE i)).same (cE s3)) E λd v L P F z=>k d v L (g.trans (i.trans (s3.trans P))) F z
variable{st:Stmt}{jM:List Stmt}{t u:sZ}
def jD:sZ:=λd G=>d.nx G
def gI(t u:sZ):sZ:=λd G=>t { d with nx:=u d } G
def fM:sJ X [] jD:=⟨_,FZ,λB O H I C G d g o h f=>f.nx H I C G o (L2.bR.refl _) h⟩
def aQ(l:wM X st t)(m:sJ X jM u):sJ X (st::jM) (gI t u):=by
 obtain⟨x,p1,r⟩:=l;obtain⟨w,p,s⟩:=m;refine⟨_,BX p1 p,λB O H I C G g i o h f=>r B O H I C G { g with nx:=u g } { i with nx:=w i } o h ⟨λL j d k n v q=>?_,f.bk,f.ct,f.rt,f.ro,f.rp,f.rq,f.xb⟩⟩;exact s B O L j d k g i n q (f.later v)
def bC(d:wM X st t):sJ X [st] t:=by
 obtain⟨g,p1,f⟩:=d;exact⟨_,FY p1,f⟩
def SL(i:Nat)(t:sZ):sZ:=λf G=>∃d,G[i]?=some (.own d)/\t f (G.set i (.val (.list d)))
def lX(i:Nat)(h:sJ X sts t):sJ X sts (SL i t):=by
 obtain⟨v,p,r⟩:=h;refine⟨_,p,λB O H I C G g j o h f=>?_⟩;obtain⟨m,e,h⟩:=h;obtain⟨d,k,l⟩:=o.share e;exact r B O H d _ G g j k h (f.later l)
def sV(W:ET):sZ:=λd G=>W G d.rt
def cR(h:iM X e W):wM X (.Return (some e) pos) (sV W):=by
 obtain⟨v,p,r⟩:=h;refine⟨_,yK p,λB O H I C G k l o h f=>r B O H I C G _ _ o h λd x L j i g=>?_⟩;exact f.rt d x L (o.base.trans j) (i.same (lY o.sub)) g
def Fm(c:yA)(t u:sZ):sZ:=λd G=>c G λb=>if b=true then t d G else u d G
def gT{c a b tc}(m:GX X c tc)(k:sJ X a t)(l:sJ X b u):wM X (.If c a b pos) (Fm tc t u):=by
 obtain⟨y,q,v⟩:=m;obtain⟨w,n,r⟩:=k;obtain⟨x,p,s⟩:=l;refine⟨_,Lj q n p,λB O H I C G i j o h f=>v B O H I C G _ _ o h λd T g q1=>?_⟩
 cases d with
 |true=>exact r B O T I C G i j (o.grow g) q1 (f.later (cE g))
 |false=>exact s B O T I C G i j (o.grow g) q1 (f.later (cE g))
def FP(i:Nat)(W:ET):sZ:=λf G=>W G λd=>f.nx (G.set i (.val d))
def SG{i:Nat}(h:iM X e W)(g:∀{v},PE X e v->PS X (.Assign [.Name x pos'] e pos) (wT v (kX i))):wM X (.Assign [.Name x pos'] e pos) (FP i W):=by
 obtain⟨v,p,r⟩:=h;refine⟨_,g p,λB O H I C G m n o h f=>r B O H I C G _ _ o h λd x L j l k=>?_⟩;exact f.nx L I _ _ ((o.grow j).set l) (cE j) k
def PR(i:Nat)(t:AT):sZ:=λf G=>t G λd=>d.length<=1000/\f.nx (G.set i (.own d))
def SH{i:Nat}{t}(h:wN X es t)(d:∀{v},PE X (.List es p2) v->PS X (.Assign [.Name x pos'] (.List es p2) pos) (wT v (kX i))):wM X (.Assign [.Name x pos'] (.List es p2) pos) (PR i t):=by
 obtain⟨v,p,r⟩:=h;refine⟨_,d (LD p),λB O H I C G l m o h f=>r B O H I C G _ _ o h λn s T k j q1=>⟨GB (by rw[<- j.length];exact q1.1),λq g=>?_⟩⟩;exact f.nx _ (q::I) _ _ ((o.grow k).setOwn g j) ((cE k).trans (by rw[lZ g];exact L2.bR.refl _)) q1.2
def YW(i:Nat)(W:ET):sZ:=λg G=>∃f,G[i]?=some (.own f)/\W G λd=>f.length<=100000/\g.nx (G.set i (.own (f++[d])))
def mN{i:Nat}{e W}(P:PE X n (sU i))(y:iM X e W)(hs:autoParam (cD [e] X.env=(false,eval e X.env)::cD [] X.env) zzz._auto_1)
  (pb:∀{Y},PA X [e] Y->PS X (.Expr (.Call (.Attribute n "append" ap) [e] [] cp) pos) (R9 (Ff X.K "list" NO (sU i) Y))):wM X (.Expr (.Call (.Attribute n "append" ap) [e] [] cp) pos) (YW i W):=by
 obtain⟨v,p,r⟩:=y;refine⟨_,pb (jC p lD hs),λB O H I C G F J o h f=>?_⟩;obtain⟨s,e,h⟩:=h;obtain⟨q,j,k,w,M,N,l,m⟩:=o.own i s e;refine⟨.ref q,k,.inl ⟨Fc,j,lU.of l⟩,r B O H I C G _ _ o h λd x T g E q1=>?_⟩;refine⟨q,j,x,Fc,Fc,g _ _ l,?_,?_⟩
 ·rw[<- m.length];have:bO=2^24:=rfl;lia
 ·have A:=o.grow g;have z:Reps X.K (mask T I) (s++[d]) (j++[x]):=(m.same (cE g)).append (.cons E .nil);exact f.nx _ I _ G (A.write (ys:=j++[x]) e k z) ((cE g).trans (by rw[jU w];exact L2.bR.refl _)) q1.2
noncomputable def IF(x:Str):List D:=x.cps.toList.map λc=>.str ⟨#[c]⟩
noncomputable def N7:D->Option (List D)
|.list ts=>some ts
|.tuple ts=>some ts
|.str x=>some (IF x)
|_=>none
def oR(G:List Sl):Prop:=∀(i:Nat)(s:Sl),(∀d,s≠.val d)->s≠.un->G[i]?≠some s
def kP{G:List Sl}(h:oR G)(i:Nat)(d:D):oR (G.set i (.val d)):=λj s f k e=>by
 by_cases z:i=j
 ·subst z;have g:i<G.length:=by simpa using(aE.mp e).1
  rw[bK g]at e;exact f d (c5 e).symm
 ·rw[bI z]at e;exact h j s f k e
theorem oR.own{G}(h:oR G)(i:Nat)(d:List D):G[i]?≠some (.own d):=h i _ (λ_ z=>nomatch z) λz=>nomatch z
theorem oR.dic{G}(h:oR G)(i:Nat)(hs:List Int)(d:List (D×D)):G[i]?≠some (.dic hs d):=h i _ (λ_ z=>nomatch z) λz=>nomatch z
abbrev GT:=D->List Sl->(List Sl->Prop)->Prop
def KL(X:Cx)(k:Expr)(g:GT):Prop:=∃j:TG,PG X k j/\∀B O H I C G (d:D)(v:V)(Q:List Sl->Prop)(i:L2.St->Hp->Prop),Ok X.K B O H I C G->iP X.K (mask H I) d v->g d C Q ->
 (∀f h,Ok X.K B O H I f h->(oR C->oR f)->Q f->i h H)->j v G H i
def gN(i:Nat):GT:=λd G Q=>Q (G.set i (.val d))
def dH{i:Nat}(h:PG X (.Name x p) (kX i)):KL X (.Name x p) (gN i):=
 ⟨_,h,λB O H I C G d v Q f o r h k=>k _ _ (o.set r) (λn=>kP n _ _) h⟩
def gP(i j:Nat):GT:=λd G Q=>∃a b,d=.tuple [a,b]/\Q ((G.set i (.val a)).set j (.val b))
def nZ{i j:Nat}{t}(h:PG X t (Z9 X.K 2 (vK (kX i) (vK (kX j) F2)))):KL X t (gP i j):=
 ⟨_,h,λB O H I C G d v Q l o r h k=>by
  obtain⟨a,b,rfl,h⟩:=h
  cases r with
  |@tuple p xs _ hq r=>
   cases r with
   |cons f r=>
    cases r with
    |cons g r=>
     cases r;exact⟨_,_,Fc,bR.seqT bZ hq,Fc,_,_,Fc,_,_,Fc,Fc,k _ _ ((o.set f).set g) (λn=>kP (kP n _ _) _ _) h⟩⟩
structure aAz(K:aM)(Hs:Hp)(ts:List D)(J:It):Prop where
 stop:∀(i:Nat)H,bR Hs H->ts.length<=i->J.stop i H
 go:∀(i:Nat)H,bR Hs H->i<ts.length->J.go i H
 yld:∀(i:Nat)H I(y:V)L,(∀p∈I,E4 (H p))->bR Hs (mask H I)->i<ts.length->J.yld i H y L->bR H L/\∃dx,ts[i]?=some dx/\iP K (mask L I) dx y
abbrev IT:=List Sl->(List D->Prop)->Prop
def KJ(X:Cx)(g iter:Expr)(t:IT):Prop:=∃f:TI,PI X g iter f/\∀B O H I C G (Q:List D->Prop)(R:It->Hp->Prop),Ok X.K B O H I C G->t C Q ->
 (∀d J L,bR H L->aAz X.K (mask L I) d J->Q d->R J L)->f G H R
def Pa(W:ET):IT:=λG Q=>W G λd=>∃f,N7 d=some f/\Q f
def YX(r:iP K Hs d x)(l:N7 d=some ts){R:It->Hp->Prop}(hs:bR Hs T)(h:∀J:It,aAz K Hs ts J->R J T) :
  (∃a,x=.ref a/\(∃f,lU K T a f)/\R (Im K a) T)\/(∃a,x=.ref a/\(∃f,rO K T a f)/\R (Ik K a) T)\/∃z,x=.str z/\R (Gj z) T:=by
 cases r with
 |@list p f us q rs=>
  obtain rfl:us=ts:=c5 l;refine .inl ⟨p,Fc,⟨f,L2.bR.seq hs q⟩,h _ ⟨λi H e g=>⟨f,L2.bR.seq e q,by rw[<- rs.length];exact g⟩,λi H e g=>?_,λi H I y L _ e g j=>?_⟩⟩
  ·obtain⟨v,o,_⟩:=rs.get (aD g);exact⟨f,v,L2.bR.seq e q,o⟩
  ·obtain⟨rfl,j⟩:=j;obtain⟨m,n,k⟩:=rs.get' (j f (L2.bR.seq (e.trans bZ) q));exact⟨L2.bR.refl _,m,n,k.same e⟩
 |@tuple p f us q rs=>
  obtain rfl:us=ts:=c5 l;refine .inr (.inl ⟨p,Fc,⟨f,bR.seqT hs q⟩,h _ ⟨λi H e g=>⟨f,bR.seqT e q,by rw[<- rs.length];exact g⟩,λi H e g=>?_,λi H I y L _ e g j=>?_⟩⟩)
  ·obtain⟨v,o,_⟩:=rs.get (aD g);exact⟨f,v,bR.seqT e q,o⟩
  ·obtain⟨rfl,j⟩:=j;obtain⟨m,n,k⟩:=rs.get' (j f (bR.seqT (e.trans bZ) q));exact⟨L2.bR.refl _,m,n,k.same e⟩
 |str z=>
  obtain rfl:IF z=ts:=c5 l;have g:(IF z).length=z.cps.size:=by unfold IF;simp
  refine .inr (.inr ⟨z,Fc,h _ ⟨λi H _ e=>by rw[g]at e;exact e,λi H _ e=>by rw[g]at e;exact e,λi H I y L _ _ e j=>?_⟩⟩);obtain⟨rfl,c,k,rfl⟩:=j;refine⟨L2.bR.refl _,.str ⟨#[c]⟩,?_,.str _⟩;unfold IF;rw[aI];have:z.cps.toList[i]?=some c:=by simpa using k
  rw[this];rfl
 |_=>cases l
def eW(f:iM X e W):KJ X tg e (Pa W):=by
 obtain⟨p,i,re⟩:=f;refine⟨_,Ze i,λB O H I C G Q R o h k=>re B O H I C G _ _ o h λd x T m j q1=>?_⟩;obtain⟨n,g,q⟩:=q1;exact YX j g bZ λJ l=>k n J T m l q
noncomputable def eK(n:Nat):List D:=(cK n).map λ(k:Nat)=>aP (k:Int)
def Yi(t:AT):IT:=λG Q=>t G λd=>∃n:Int,d=[.int n]/\-(2^62)<=n/\n<2^62/\Q (eK n.toNat)
def kN{e t}(m:wN X [e] t)(v:∀{Y},PA X [e] Y->PI X tg (.Call (.Name "range" p) [e] [] p') (Ku Y)):KJ X tg (.Call (.Name "range" p) [e] [] p') (Yi t):=by
 obtain⟨E,s,x⟩:=m;refine⟨_,v s,λB O H I C G Q R o h k=>x B O H I C G _ _ o h λA F T z f q1=>?_⟩;obtain⟨n,rfl,j,l,q⟩:=q1
 cases f with
 |cons f w=>
  cases w;cases f;refine⟨n,Fc,j,l,k (eK n.toNat) _ T z ?_ q⟩;have d:(eK n.toNat).length=n.toNat:=by unfold eK;simp
  refine⟨λi H _ e=>by rw[d]at e;exact e,λi H _ e=>by rw[d]at e;exact e,λi H I y L _ _ e r=>?_⟩;obtain⟨rfl,rfl⟩:=r;have g:(0:Int)+(i:Int)=(i:Int):=by lia
  rw[g];rw[d]at e;refine⟨L2.bR.refl _,.int i,?_,.int _⟩;unfold eK;rw[aI,iK e];rfl
def YV(j:IT)(g:GT)(Z:sZ):sZ:=λf G=>j G λi=>∃P:Nat->List Sl->Prop,P 0 G /\
 (∀(k:Nat)(x:D)d,i[k]?=some x->P k d->g x d λh=>Z { f with nx:=P (k+1),ct:=P (k+1),bk:=f.nx } h)/\∀d,P i.length d->f.nx d
def Zv{iter Z}(he:KJ X tg iter ti)(hg:KL X tg g)(hb:sJ X body Z)
  (pf:∀{wi R bv},PI X tg iter wi->PG X tg R->AH X body bv->PS X (.For tg iter body [] pos) (Kf wi R bv)):wM X (.For tg iter body [] pos) (YV ti g Z):=by
 obtain⟨ve,pe,re⟩:=he;obtain⟨R,pg,rg⟩:=hg;obtain⟨vb,pb,rb⟩:=hb;refine⟨_,pf pe pg pb,λB O H I C G DT DV o h f=>re B O H I C G _ _ o h λE J T s1 rj q1=>?_⟩;obtain⟨P,h0,hs,hd⟩:=q1;refine⟨λi m n L=>m=E.length-i/\i<=E.length/\∃j d,Ok X.K B O L j d n/\bR (mask T I) (mask L j)/\P i d,⟨_,Fc,cI _,I,C,o.grow s1,L2.bR.refl _,h0⟩,?_⟩;rintro i m n L ⟨rfl,sk,j,d,o',N,p'⟩;have sH:bR (mask T I) L:=N.trans bZ;have f':KD X.K B O L j DT DV:=f.later ((cE s1).trans N);by_cases q:i<E.length
 ·refine .inr ⟨rj.go i L sH q,λF U=>∃v p,Ok X.K B O U v p F/\bR (mask T I) (mask U v)/\P (i+1) p,λF U z=>⟨E.length-(i+1),Ez,Fc,q,z⟩,λy U S=>?_⟩;obtain⟨s2,dx,hx,rx⟩:=rj.yld i L j y U o'.live N q S;have f2:=f'.later (cE (ps:=j) s2);have x:bR (mask T I) (mask U j):=N.trans (cE s2);refine rg B O U j d n dx y _ _ (o'.grow s2) rx (hs i dx d hx p') λM xk o3 _ q3=>?_;exact rb B O U j M xk _ _ o3 q3 ⟨λQ l k r s A w=>⟨l,k,s,x.trans A,w⟩,λQ l k r s A w=>f2.nx Q l k r s A w,λQ l k r s A w=>⟨l,k,s,x.trans A,w⟩,f2.rt,f2.ro,f2.rp,f2.rq,f2.xb⟩
 ·obtain rfl:i=E.length:=by lia
  exact .inl ⟨rj.stop _ L sH (aN _),f'.nx L j d n o' (L2.bR.refl _) (hd d p')⟩
noncomputable def J5(G:List Sl):Option Nat->Sl
|none=>.un
|some j=>match G[j]? with | some (.val d)=>.val d | _=>.un
noncomputable def kE(d:List (Option Nat))(G:List Sl):List Sl:=d.map (J5 G)
def Q7{G}(h:J5 G q=.val d):∃j,q=some j/\G[j]?=some (.val d):=by
 cases q with
 |none=>cases h
 |some j=>
  refine⟨j,Fc,?_⟩;unfold J5 at h;dsimp only at h;split at h
  ·next e=>cases h;exact e
  ·cases h
def Q8{G}(g:∀d,s≠.val d)(f:s≠.un):J5 G q≠s:=λh=>by
 cases q with
 |none=>exact f h.symm
 |some j=>
  unfold J5 at h;dsimp only at h;split at h
  ·exact g _ h.symm
  ·exact f h.symm
def qZ(d:List (Option Nat))(G:List Sl):oR (kE d G):=λi s j g h=>by
 unfold kE at h;rw[aI]at h
 cases f:d[i]? with
 |none=>rw[f]at h;cases h
 |some q=>
  rw[f]at h;exact Q8 j g (c5 h)
def Ok.blk(o:Ok K B O H I C G)(fr:List (Option Nat)):Ok K B O H I (kE fr C) (xJ fr G) where
 base:=o.base
 sub:=o.sub
 live:=o.live
 len:=by unfold kE xJ;simp
 val:=λi d h=>by
  unfold kE at h;rw[aI]at h
  cases hf:fr[i]? with
  |none=>rw[hf]at h;cases h
  |some q=>
   rw[hf]at h;obtain⟨j,rfl,e⟩:=Q7 (c5 h);obtain⟨v,h1,h2⟩:=o.val j d e;refine⟨v,?_,h2⟩;unfold xJ;rw[aI,hf];simp[h1]
 own:=λi ts h=>a9 h ((qZ fr C).own i ts)
 dis:=λi j ts us p h=>a9 h ((qZ fr C).own i ts)
 dc:=λi hs kvs h=>a9 h ((qZ fr C).dic i hs kvs)
def Ok.adopt(o:Ok K B O H I C G){p:Addr}{u}(f:H p=none)(w:autoParam (VF u=false) zzz._auto_1):Ok K B O (gG H p u) (p::I) C G:=by
 have k:mask (gG H p u) (p::I)=mask H I:=lZ f;refine⟨o.base.trans (eX f),λq l=>aO _ (o.sub q l),λq l=>?_,o.len,λi d h=>by rw[k];exact o.val i d h,λi y h=>?_,o.dis,o.dc.to (λj hs x h=>⟨h,Fc⟩) (λq E a b _=>⟨aO _ a,cO λz=>by rw[z,f]at b;cases b⟩) (λq E _ _ a b=>⟨a,b⟩) (by rw[k];exact L2.bR.refl _)⟩
 ·by_cases e:q=p
  ·subst e;rw[cW];exact⟨_,Fc,w⟩
  ·rw[cO e];rcases aY.mp l with z | z
   ·exact a9 z e
   ·exact o.live q z
 ·rw[k];obtain⟨q,A,m,n,r,s,g,v⟩:=o.own i y h;exact⟨q,A,m,aO _ n,r,s,by rw[cO λz=>by rw[z,f]at g;cases g];exact g,v⟩
def Ok.aside(o:Ok K B O H I C G){q:Addr}{u}(hp:q∈I)(hB:B q=none)(hn:oR C)(hu:autoParam (VF u=false) zzz._auto_1):Ok K B O (gG H q u) I C G where
 base:=λb w e=>by
  rw[cO λz=>by rw[z,hB]at e;cases e];exact o.base b w e
 sub:=o.sub
 live:=λp td=>by
  by_cases e:p=q
  ·subst e;rw[cW];exact⟨_,Fc,hu⟩
  ·rw[cO e];exact o.live p td
 len:=o.len
 val:=λi d h=>by rw[jU hp];exact o.val i d h
 own:=λi ts h=>a9 h (hn.own i ts)
 dis:=λi j ts us p h=>a9 h (hn.own i ts)
 dc:=λi hs kvs h=>a9 h (hn.dic i hs kvs)
def GY(X:Cx)(d:List Expr)(t:yA):Prop:=∃g:TT,RC X d g/\∀B O H I C G (Q:Bool->Prop)(f:Bool->Hp->Prop),Ok X.K B O H I C G->t C Q ->
 (∀b L,bR H L->Q b->f b L)->g G H f
def CV:yA:=λ_ Q=>Q true
def iT:GY X [] CV:=⟨_,Y5,λ_ _ H _ _ _ _ _ _ h k=>k _ H (L2.bR.refl H) h⟩
def uC{t}(h:GX X e t):GY X [e] t:=by
 obtain⟨v,p,r⟩:=h;exact⟨_,Y4 p,r⟩
def RK(j:List (Option Nat))(l:IT)(g:GT)(m:yA)(W:ET):ET:=λG Q=>l G λi=>i.length<=100000/\∃P:Nat->List Sl->List D->Prop,P 0 (kE j G) [] /\
 (∀(k:Nat)(x:D)d(h:List D),i[k]?=some x->P k d h->g x d λf=>m f λb=>if b=true then W f λy=>P (k+1) f (h++[y])else P (k+1) f h)/\∀d h,P i.length d h->Q (.list h)
def ZQ{ti:IT}{g:GT}{tt:yA}{W:ET}{wi:TI}{gv:BP->TG}{vt:BP->TT}{ve:BP->TE}
  (ri:∀B O H I C G (Q:List D->Prop)(R:It->Hp->Prop),Ok X.K B O H I C G->ti C Q->(∀M J L,bR H L->aAz X.K (mask L I) M J->Q M->R J L)->wi G H R)
  (rg:∀(x:BP)B O H I C G(d:D)(v:V)(Q:List Sl->Prop)(s:L2.St->Hp->Prop),Ok X.K B O H I C G->iP X.K (mask H I) d v->g d C Q->(∀f r,Ok X.K B O H I f r->(oR C->oR f)->Q f->s r H)->gv x v G H s)
  (rt:∀(x:BP)B O H I C G(Q:Bool->Prop)(s:Bool->Hp->Prop),Ok X.K B O H I C G->tt C Q->(∀b L,bR H L->Q b->s b L)->vt x G H s)
  (re:∀(x:BP)B O H I C G(Q:D->Prop)s,Ok X.K B O H I C G->W C Q->(∀d v L,bR H L->iP X.K (mask L I) d v->Q d->s v L)->ve x G H s)
  (B:Hp) (O:List Addr) (H:Hp) (I:List Addr) (C:List Sl) (G:L2.St) (Q:D->Prop) (s:VK) (o:Ok X.K B O H I C G) (h:RK fr ti g tt W C Q) (k:∀d v L,bR H L->iP X.K (mask L I) d v->Q d->s v L):R8 fr wi gv vt ve G H s:=by
 refine ri B O H I C G _ _ o h λM J T s1 rj q1=>?_;obtain⟨hz,P,h0,hs,hd⟩:=q1;intro x j l
 have N:B j=none:=by
  cases q:B j with
  |none=>rfl
  |some u=>rw[(o.grow s1).base j u q]at l;cases l
 have yn:j∉I:=jE (o.grow s1).live l
 refine⟨λi m r L=>m=M.length-i/\i<=M.length/\∃f A S,Ok X.K B O L (j::I) f r/\oR f/\L j=some (.lst S)/\A.length<=i/\Reps X.K (mask L (j::I)) A S/\bR (mask T I) (mask L (j::I))/\bR T L/\P i f A,
  ⟨_,Fc,cI _,kE fr C,[],[],((o.grow s1).blk fr).adopt l,qZ fr C,cW,aN _,.nil,by rw[lZ l];exact L2.bR.refl _,eX l,h0⟩,?_⟩
 rintro i m r L ⟨rfl,sk,f,A,S,o',n',ha,hl,hr,s',sF,p'⟩;have hL:bO=2^24:=rfl;by_cases E:i<M.length
 ·refine .inr ⟨rj.go i L (s'.trans bZ) E,λy U hy=>?_⟩;obtain⟨s2,dx,hx,rx⟩:=rj.yld i L (j::I) y U o'.live s' E hy;refine rg x B O U (j::I) f r dx y _ _ (o'.grow s2) rx (hs i dx f A hx p') λn xk o3 n3 q3=>?_;refine rt x B O U (j::I) n xk _ _ o3 q3 λb H4 s4 q4=>?_;have w:=s2.trans s4
  cases b with
  |false=>
   exact⟨M.length-(i+1),Ez,Fc,E,n,A,S,o3.grow s4,n3 n',w _ _ ha,Ez,hr.same (cE w),s'.trans (cE w),sF.trans w,q4⟩
  |true=>
   refine re x B O H4 (j::I) n xk _ _ (o3.grow s4) q4 λd v H5 s5 r5 q5=>?_;have F:=w.trans s5;have hm:mask (gG H5 j (.lst (S++[v]))) (j::I)=mask H5 (j::I):=jU (aU ..);refine⟨S,F _ _ ha,by rw[<- hr.length];lia,M.length-(i+1),Ez,Fc,E,n,A++[d],S++[v],((o3.grow s4).grow s5).aside (aU ..) N (n3 n'),n3 n',cW,by rw[bH,kZ];lia,?_,?_,?_,q5⟩
   ·rw[hm];exact(hr.same (cE F)).append (.cons r5 .nil)
   ·rw[hm];exact s'.trans (cE F)
   ·intro b u e;have ne:b≠j:=λz=>by rw[z,l]at e;cases e
    rw[cO ne];exact(sF.trans F) b u e
 ·obtain rfl:i=M.length:=by lia
  refine .inl ⟨rj.stop _ L (s'.trans bZ) (aN _),k (.list A) _ L (s1.trans sF) (.list (lU.of (nB yn ha)) (hr.same (lY λp hp=>aO _ hp))) (hd f A p')⟩
def U5{iter W}(j:KJ X tg iter ti)
  (f:∀b:BP,KL (blk X scope N' b) tg g/\GY (blk X scope N' b) ifs tt/\iM (blk X scope N' b) elt W) {M:(TE)->Prop}
  (fin:∀{h}{gv:BP->TG}{vt:BP->TT}{ve:BP->TE},PI X tg iter h->(∀b:BP,PG (blk X scope N' b) tg (gv b)/\RC (blk X scope N' b) ifs (vt b)/\PE (blk X scope N' b) elt (ve b))->M (R8 fr h gv vt ve)) :
  ∃v:TE,M v/\∀B O H I C G (Q:D->Prop)(i:VK),Ok X.K B O H I C G->RK fr ti g tt W C Q ->
   (∀d v L,bR H L->iP X.K (mask L I) d v->Q d->i v L)->v G H i:=by
 obtain⟨h,k,l⟩:=j;refine⟨_,fin (gv:=λb=>u1 (f b).1) (vt:=λb=>u1 (f b).2.1) (ve:=λb=>u1 (f b).2.2) k λb=>⟨(d2 (f b).1).1,(d2 (f b).2.1).1,(d2 (f b).2.2).1⟩,?_⟩;exact ZQ l (λb=>(d2 (f b).1).2) (λb=>(d2 (f b).2.1).2) λb=>(d2 (f b).2.2).2
def Px{iter W}(j:KJ X tg iter ti)
  (i:∀b:BP,KL (blk X scope N' b) tg g/\GY (blk X scope N' b) ifs tt/\iM (blk X scope N' b) elt W)
  (k:∀{wi}{d:BP->TG}{h:BP->TT}{f:BP->TE},PI X tg iter wi->(∀b:BP,PG (blk X scope N' b) tg (d b)/\RC (blk X scope N' b) ifs (h b)/\PE (blk X scope N' b) elt (f b))->PE X (.ListComp elt [⟨tg,iter,ifs,0⟩] scope pos) (R8 fr wi d h f)) :
  iM X (.ListComp elt [⟨tg,iter,ifs,0⟩] scope pos) (RK fr ti g tt W):=U5 j i k
def pD{i:Nat}{iter W}(q:KJ X tg iter ti)
  (n:∀b:BP,KL (blk X scope N' b) tg g/\GY (blk X scope N' b) ifs tt/\iM (blk X scope N' b) elt W)
  (s:∀{wi}{j:BP->TG}{m:BP->TT}{l:BP->TE},PI X tg iter wi->(∀b:BP,PG (blk X scope N' b) tg (j b)/\RC (blk X scope N' b) ifs (m b)/\PE (blk X scope N' b) elt (l b)) ->
   PS X (.Assign [.Name x px] (.ListComp elt [⟨tg,iter,ifs,0⟩] scope pos) spos) (wT (R8 fr wi j m l) (kX i))) :
  wM X (.Assign [.Name x px] (.ListComp elt [⟨tg,iter,ifs,0⟩] scope pos) spos) (FP i (RK fr ti g tt W)):=by
 obtain⟨v,p,r⟩:=U5 (M:=λv=>PS X (.Assign [.Name x px] (.ListComp elt [⟨tg,iter,ifs,0⟩] scope pos) spos) (wT v (kX i))) (fr:=fr) q n s;refine⟨_,p,λB O H I C G z A o h f=>r B O H I C G _ _ o h λd x L k y w=>?_⟩;exact f.nx L I _ _ ((o.grow k).set y) (cE k) w
noncomputable def mM(N:List Str)(d:List D):List Sl:=d.map Sl.val++FC (N.length-d.length) .un
def tZ(live:∀p∈I,E4 (H p))(r:Reps K (mask H I) ds vs):Ok K H I H I (mM N ds) (L2.qS N vs):=by
 have k:=r.length;refine⟨L2.bR.refl _,λ_ h=>h,live,?_,λi d h=>?_,λi o h=>?_,λi j o q p h=>?_,λi hs n h=>?_⟩
 ·unfold mM L2.qS;simp[k]
 ·unfold mM at h;by_cases f:i<ds.length
  ·rw[eB (by simpa using f),aI]at h
   cases hd:ds[i]? with
   |none=>rw[hd]at h;cases h
   |some g=>
    rw[hd]at h;cases h;obtain⟨v,l,m⟩:=r.get hd;refine⟨v,?_,m⟩;unfold L2.qS;rw[eB (by rw[aC,<- k];exact f),aI,l];rfl
  ·rw[eJ (by simpa using f),kK]at h;split at h<;>cases h
 ·unfold mM at h;by_cases f:i<ds.length
  ·rw[eB (by simpa using f),aI]at h
   cases hd:ds[i]? with
   |none=>rw[hd]at h;cases h
   |some g=>rw[hd]at h;cases h
  ·rw[eJ (by simpa using f),kK]at h;split at h<;>cases h
 ·unfold mM at h;by_cases f:i<ds.length
  ·rw[eB (by simpa using f),aI]at h
   cases hd:ds[i]? with
   |none=>rw[hd]at h;cases h
   |some g=>rw[hd]at h;cases h
  ·rw[eJ (by simpa using f),kK]at h;split at h<;>cases h
 ·unfold mM at h;by_cases f:i<ds.length
  ·rw[eB (by simpa using f),aI]at h
   cases hd:ds[i]? with
   |none=>rw[hd]at h;cases h
   |some g=>rw[hd]at h;cases h
  ·rw[eJ (by simpa using f),kK]at h;split at h<;>cases h
def mB{mg:Str->Option Value}{st}{f:Addr}{N pn:List Str}{k:Nat}{n:kQ}(F:RD K x qual st f fd)(S:bX N pn (bA st))
  (l:∀{j}{A:d0}{outer}{s:Shared}{H E},Room k (A.deeper (aq qual (bA st) s.heap.objs.size f j))->N.Nodup->∀(i:List D)(Q:D->Prop),n i Q ->
   ∃t,sJ (AE hX P w K mg base N qual (bA st) f j A outer s H E).nox (mK st) t/\t { nx:=λ_=>Q .none,rt:=Q } (mM N i)) (len:∀i Q,n i Q->i.length=pn.length:=by intro i Q h;(repeat obtain⟨_,h⟩:=h)<;>subst_vars<;>rfl):dS P w K mg base hX (k+1) f fd pn (cG K n):=by
 refine F.ok S (λvs H Q E h=>?_) λj A outer s H vs Q E z h=>?_
 ·obtain⟨I,i,m,_,r,q,_⟩:=h;rw[<- r.length];exact len i m q
 ·obtain⟨I,i,m,live,r,q,k⟩:=h;obtain⟨t,⟨ts,p,rd⟩,h⟩:=l z S.nd i m q;refine⟨ts,p,rd H I H I _ _ _ _ (tZ live r) h ⟨λL M y bi J o g=>?_,λ_ _ _ _ _ _ g=>g.elim,λ_ _ _ _ _ _ g=>g.elim,λd v L o R g=>k d v L o R g,λ_ _ _ _ _ _ _ _ _ g=>g.elim,λ_ _ _ _ _ _ _ _ _ _ _ _ _ _ _ _ _ _ g=>g.elim,λ_ _ _ _ _ _ _ _ _ _ _ _ _ _ g=>g.elim,i6⟩⟩;exact k _ _ L J.base .none g
end
end TL
namespace HT
section
variable{prog:cN}{w:c7}{A:d0}{E:Value->Shared->Prop}{s:Shared}
def getItem_tuple_all{t g:Addr}{a:Array Value}{lo}{Q:Value->Shared->Prop}(b:ue s.heap t a)(hs:s.heap.IsSliceOf g vl vu .none)(j:IsPart vl lo)(k:IsPart vu hi)
  (hw:sIx a.size 0 lo=0/\sIx a.size a.size hi=a.size) (h:Q (.ref t) s):wpAny (model prog w) A (bu (.ref t) (.ref g)) Q E s:=by
 obtain⟨os,f,e,i⟩:=id hs;have d:s.TypeIs (.ref g) "slice":=⟨os,f,e⟩;unfold bu
 try with_reducible refine h7 ?_
 first | refine aB (aG ?_) | skip
 refine aB (ut b.typeIs Ey ?_)
 refine aB (d7 (name:=c6 "__getitem__") b.typeIs j9
  (dI j9 b.typeIs si ?_ (sv _ _)))
 show wpAny _ _ (ag (.ref t) >>= _) _ _ s;refine aB (tupleItemsOf_ b ?_);refine aB (al d ?_);rw[a7 Ey];refine aB (qV hs j k ?_)
 have c:(((sIx a.size 0 lo:Nat):Int)==0&&(1:Int)==1&&(sIx a.size a.size hi-sIx a.size 0 lo)==a.size)=true:=by
  rw[hw.1,hw.2];simp
 show wpAny _ _ (if(((sIx a.size 0 lo:Nat):Int)==0&&(1:Int)==1&&(sIx a.size a.size hi-sIx a.size 0 lo)==a.size)=true then _ else _) _ _ s;rw[a7 c];unfold Builtin.Tuple.tupleIsExact;refine aB (aB (al b.typeIs (aG ?_)));rw[a7 Ey]
 first
  |exact aB (m9 (aB (aG (aG ⟨_,Fc,aG h⟩))))
  |exact aB (m9 (aG ⟨_,Fc,aG h⟩))
  |exact aB (m9 (aB (aG ⟨_,Fc,aG h⟩)))
end
end HT
namespace L2
section
variable{X:Cx}
def Ka:V->Option Int->Option Int->Hp->VK->Prop:=λx lo a H Q=>∃z,x=.str z/\z.length<=bO/\Q (.str (Txt.slice z lo a)) H
def Zs:WS X Ka:=by
 intro b s o H x v r w lo a p Q I n hs m e h;obtain⟨z,rfl,g,q⟩:=h;obtain⟨t,rfl⟩:=n;refine⟨"str",_,PySem.F.slot_str_getitem.lookup,tx _ _ _,?_⟩
 have fin:∀lo a:Option Int,Q (.str (Txt.slice z lo a)) H->(Txt.slice z lo a).length<=bO/\∀(c:Tok)(k:Nat),EP X b o Q (.str (Txt.slice z lo a) c) { s with toks:=k }:=λlo a q=>
  ⟨bG (Txt.slice_le z _ _) g,λc k=>⟨.str _,H,I.tok k,⟨c,Fc⟩,q⟩⟩
 cases m with
 |none=>
  cases e with
  |none=>exact af (l:=none) (u:=none) (st:=none) hs Fc (bz (fin none none q))
  |int j d=>exact af (l:=none) (u:=some (j,d)) (st:=none) hs Fc (bz (fin none (some j) q))
 |int i f=>
  cases e with
  |none=>exact af (l:=some (i,f)) (u:=none) (st:=none) hs Fc (bz (fin (some i) none q))
  |int j d=>exact af (l:=some (i,f)) (u:=some (j,d)) (st:=none) hs Fc (bz (fin (some i) (some j) q))
def Ln(K:aM):V->Option Int->Option Int->Hp->VK->Prop:=λx lo c H Q=>∃a b,x=.ref a/\rO K H a b /\
 ((HT.sIx b.length 0 lo=0/\HT.sIx b.length b.length c=b.length)->Q (.ref a) H)/\(¬(HT.sIx b.length 0 lo=0/\HT.sIx b.length b.length c=b.length)->∀p,H p=none->Q (.ref p) (gG H p (.tup (GK b lo c))))
def YJ:WS X (Ln X.K):=by
 intro d s q H x v o p lo f n Q I l hs j k h;obtain⟨a,b,rfl,i,q1,m⟩:=h;by_cases hw:HT.sIx b.length 0 lo=0/\HT.sIx b.length b.length f=b.length
 ·cases l;obtain⟨e,r,g,t⟩:=I.tuple i;have c:e.toArray.size=b.length:=by rw[bJ];exact r.length.symm
  exact⟨"tuple",_,PyProof.Rows.slot_tuple_getitem.lookup,g.typeIs,HT.getItem_tuple_all g hs j k (by rw[c];exact hw) ⟨.ref a,H,I,Fc,q1 hw⟩⟩
 ·exact Zt d s q H (.ref a) v o p lo f n Q I l hs j k ⟨a,b,Fc,i,hw,m hw⟩
def SY(K:aM):V->Option Int->Option Int->Hp->VK->Prop:=λx lo a H Q=>Jz K x lo a H Q\/Ln K x lo a H Q\/Ka x lo a H Q
def mX:WS X (SY X.K):=YK.or (YJ.or Zs)
def S1(K:aM):R2:=λx y H Q=>∃a b c d,x=.ref a/\y=.ref b/\rO K H a c/\rO K H b d/\c.length+d.length<=bO /\
 (c=[]->Q (.ref b) H)/\(c≠[]->d=[]->Q (.ref a) H)/\(c≠[]->d≠[]->∀p,H p=none->Q (.ref p) (gG H p (.tup (c++d))))
def T4:oU X (m3 .Add) (S1 X.K):=by
 intro j s P H x y v u Q I w z h;obtain⟨a,b,A,O,rfl,rfl,p,q,F,q0,q1,L⟩:=h;by_cases f:A=[]
 ·cases w;cases z;obtain⟨g,M,p1,_⟩:=I.tuple p;obtain⟨i,R,J,_⟩:=I.tuple q;obtain⟨⟨B,C,o,N⟩,t,r,n,hd⟩:=id p1;obtain⟨⟨m,k,data2,l⟩,e,c,G,d⟩:=id J;simp only at r hd c d;subst r hd c d;have E:g=[]:=M.nil_iff.mpr f;exact dw ⟨_,t,Fc⟩ ⟨_,e,Fc⟩ fb io sM rK (qM _ _) (tuple_addW0 a b g.toArray i.toArray n G C k N l (by simp[E])) ⟨t,e,⟨.ref b,H,I,Fc,q0 f⟩⟩
 ·exact ZB j s P H (.ref a) (.ref b) v u Q I w z ⟨a,b,A,O,Fc,Fc,p,q,f,F,q1 f,L f⟩
def Lk(K:aM):R2:=λx y H Q=>∃l b a c,x=.ref l/\y=.ref b/\lU K H l a/\lU K H b c/\a.length+c.length<=bO/\∀p,H p=none->Q (.ref p) (gG H p (.lst (a++c)))
def F5:oU X (m3 .Add) (Lk X.K):=by
 intro w s T H x y v u Q I N O h;obtain⟨l,b,R,S,rfl,rfl,G,J,t,q⟩:=h;cases N;cases O;obtain⟨c,z,⟨⟨B,C,m,P⟩,n,r,o,L,hd⟩,_⟩:=I.list G;obtain⟨a,A,⟨⟨k,g,data2,j⟩,M,f,d,p,e⟩,_⟩:=I.list J;simp only at o hd d e;subst o hd d e;have i:c.toArray.size+a.toArray.size<=bO:=by rw[bJ,bJ,<- z.length,<- A.length];exact t
 refine dw ⟨_,r,Fc⟩ ⟨_,f,Fc⟩ noFill_list_add seq_list_add PySem.F.slot_list_add PySem.F.entry_list_add (PySem.F.args_list_add_2 _ _) (list_addW l b c.toArray a.toArray n M C g P j i) ⟨r,f,?_⟩;have E:c.toArray++a.toArray=(c++a).toArray:=by simp
 rw[E];exact⟨.ref _,_,I.lnew (t':=s.toks) (z.append A) (by rw[bH];exact t),Fc,q _ I.fresh⟩
def NP(K:aM):R2:=λx y H Q=>(S0 λi j=>.int (i+j)) x y H Q\/(∃i j,x=.str i/\y=.str j/\i.length+j.length<=bO/\Q (.str (i++j)) H)\/S1 K x y H Q\/Lk K x y H Q
def cZ:oU X (m3 .Add) (NP X.K):=Yx.or (LF.or (T4.or F5))
def NN:R2:=λx y H Q=>(rI KE λi j=>.int (i*j)) x y H Q\/∃z n,x=.str z/\y=.int n/\z.length<=1000/\0<=n/\n<=1000/\Q (.str (Txt.mul z n)) H
def LE:oU X (m3 .Mult) (λx y H Q=>∃z n,x=.str z/\y=.int n/\z.length<=1000/\0<=n/\n<=1000/\Q (.str (Txt.mul z n)) H):=by
 intro c s o H x y v u Q I e f h;obtain⟨z,n,rfl,rfl,d,g,i,q⟩:=h;obtain⟨t,rfl⟩:=e;obtain⟨m,rfl⟩:=f;refine SB.mul ⟨by simp;lia,λa _=>?_,λ_ _=>?_⟩ λb k=>⟨.str _,H,I.tok k,⟨b,Fc⟩,q⟩
 ·have l:1<=n:=by lia
  have:(1000:Int)<=(2^63-1) / n:=by
   rw[Int.le_ediv_iff_mul_le Ez];lia
  lia
 ·have:z.length*n.toNat<=1000*1000:=fZ d Ez;unfold Builtin.Str.tooLong;have j:bO=2^24:=rfl;simp only[decide_eq_false_iff_not];lia
def fV:oU X (m3 .Mult) NN:=T2.or LE
def Hu:R2:=λx y H Q=>∃b,y=.bl b/\Q (.bl (decide (x=.bl b))) H
def FW:R2:=λx y H Q=>∃b,y=.bl b/\Q (.bl (!decide (x=.bl b))) H
def Kw{b:Bool}(r:iL x v):plainIs v (.bool b)=true/\(v==u6 b)=decide (x=.bl b):=by
 cases x with
 |non=>cases r;exact⟨Fc,Fc⟩
 |bl c=>cases r;cases b<;>cases c<;>exact⟨Fc,Fc⟩
 |int _=>obtain⟨t,rfl⟩:=r;exact⟨Fc,Fc⟩
 |str _=>obtain⟨t,rfl⟩:=r;exact⟨Fc,Fc⟩
 |byt _=>obtain⟨t,rfl⟩:=r;exact⟨Fc,Fc⟩
 |flt _=>obtain⟨t,rfl⟩:=r;exact⟨Fc,Fc⟩
 |ref _=>cases r;exact⟨Fc,Fc⟩
 |ty _=>cases r;exact⟨Fc,Fc⟩
def P2:oU X (d9 .IsNot) FW:=by
 intro a s g H x y v u Q I e f h;obtain⟨b,rfl,q⟩:=h;cases f;obtain⟨c,d⟩:=Kw (b:=b) e;refine wpAny_isNot_plain c ?_;rw[d];exact⟨.bl _,H,I,Fc,q⟩
def Zx:oU X (d9 .Is) Hu:=by
 intro a s g H x y v u Q I e f h;obtain⟨b,rfl,q⟩:=h;cases f;obtain⟨c,d⟩:=Kw (b:=b) e;refine wpAny_is_plain c ?_;rw[d];exact⟨.bl _,H,I,Fc,q⟩
theorem NE:∀{a:List Str}{us},gM (a.map V.str) us->StrsAre us a
|[],_,r=>by rw[lW]at r;cases r;exact .nil
|y::a,us,r=>by
 rw[bE]at r
 cases r with
 |cons b c=>
  obtain⟨t,rfl⟩:=b;exact .cons y t (NE c)
def ZM:XF X "str.join" (λx c H Q=>∃z p a,x=.str z/\c=[.ref p]/\lU X.K H p (a.map V.str)/\(a.map (·.length)).sum+a.length*z.length<=16777216/\Q (.str (Txt.join z a)) H):=by
 intro b s o H x c v n Q I l r h;obtain⟨z,p,a,rfl,rfl,d,e,q⟩:=h;obtain⟨t,rfl⟩:=l;obtain⟨u,rfl,i⟩:=oB r;cases i;obtain⟨f,j,g,_⟩:=I.list d;exact PyProof.Rows.join_list g.isList (by simpa using NE j) e λm k=>⟨.str _,H,I.tok k,⟨m,Fc⟩,q⟩
def KU(K:aM)(H:Hp):V->String->Prop
|.non,T=>T="NoneType"
|.bl _,T=>T="bool"
|.int _,T=>T="int"
|.str _,T=>T="str"
|.ref p,T=>(T="list"/\∃a,lU K H p a)\/(T="tuple"/\∃a,rO K H p a)\/(T="list"/\∃P,H p=some (.ext P)/\∀h:Heap,P h->∃o,h.get? p=some o/\o.cls=.type "list")
|_,_=>False
def Z0{E:Value->Shared->Prop}{Q:Value->Shared->Prop}{b:Bool}(I:eG X pins σ H s)(g:iL x u)(ty:KU X.K H x T)
  (e:lG X.K (.type T) c=some b) (h:∀m,Q (.bool b) { s with toks:=m }):wpAny (model X.prog X.w) A (call (.builtin "isinstance") [u,c]) Q E s:=by
 cases x with
 |non=>cases (show T="NoneType" from ty);exact uX I g .non e h
 |bl y=>cases (show T="bool" from ty);exact uX I g (.bl y) e h
 |int i=>cases (show T="int" from ty);exact uX I g (.int i) e h
 |str y=>cases (show T="str" from ty);exact uX I g (.str y) e h
 |ref p=>
  cases g;rcases ty with⟨rfl,q,f⟩ | ⟨rfl,q,f⟩ | ⟨rfl,P,f,l⟩
  ·obtain⟨j,_,k,_⟩:=I.list f;obtain⟨o,n,d,a,_⟩:=k;exact fH qC I.kIn ⟨o,d,a⟩ e (λz=>nomatch z) h
  ·obtain⟨j,_,k,_⟩:=I.tuple f;obtain⟨o,d,a,_⟩:=k;exact fH MX I.kIn ⟨o,d,a⟩ e (λz=>nomatch z) h
  ·obtain⟨o,d,a⟩:=l _ (I.hok p _ f).1;exact fH qC I.kIn ⟨o,d,a⟩ e (λz=>nomatch z) h
 |_=>exact j0 ty
end
end L2
namespace TL
open L2
variable{K:aM}{H M L O:Hp}{B:Hp}{N F:List Addr}{J:List Sl}{G:L2.St}
section
variable{X:Cx}{a b c e:Expr}{R:List Expr}{S P:ET}{pos p:Pos}
def fI(C:Int->Int->Prop)(g:Int->Int->Int):D->D->(D->Prop)->Prop
|.int i,.int j,Q=>C i j/\Q (.int (g i j))
|_,_,_=>False
def Iw(g:Int->Int->Int):D->D->(D->Prop)->Prop
|.int i,.int j,Q=>Q (.int (g i j))
|_,_,_=>False
def Ix(g:Int->Int->Bool):D->D->(D->Prop)->Prop
|.int i,.int j,Q=>Q (.bool (g i j))
|_,_,_=>False
def oY{C:Int->Int->Prop}{g:Int->Int->Int}:DO X (rI C λi j=>.int (g i j)) (fI C g):=by
 intro H F m n x y Q l live d f h k
 cases d with
 |int i=>
  cases f with
  |int j=>exact⟨i,j,Fc,Fc,h.1,k _ _ H (L2.bR.refl H) (.int _) h.2⟩
  |_=>exact h.elim
 |_=>exact h.elim
def vW{g:Int->Int->Int}:DO X (S0 λi j=>.int (g i j)) (Iw g):=by
 intro H F m n x y Q l live d f h k
 cases d with
 |int i=>
  cases f with
  |int j=>exact⟨i,j,Fc,Fc,k _ _ H (L2.bR.refl H) (.int _) h⟩
  |_=>exact h.elim
 |_=>exact h.elim
def lE{g:Int->Int->Bool}:DO X (S0 λi j=>.bl (g i j)) (Ix g):=by
 intro H F m n x y Q l live d f h k
 cases d with
 |int i=>
  cases f with
  |int j=>exact⟨i,j,Fc,Fc,k _ _ H (L2.bR.refl H) (.bool _) h⟩
  |_=>exact h.elim
 |_=>exact h.elim
def V0:D->D->(D->Prop)->Prop
|.int i,.int j,Q=>Q (.int (i+j))
|.str x,.str y,Q=>x.length+y.length<=100000/\Q (.str (x++y))
|.tuple x,.tuple y,Q=>x.length+y.length<=100000/\Q (.tuple (x++y))
|.list x,.list y,Q=>x.length+y.length<=100000/\Q (.list (x++y))
|_,_,_=>False
def xG{n:Nat}(h:n<=100000):n<=bO:=by have:bO=2^24:=rfl;lia
def gU:DO X (NP X.K) V0:=by
 intro H F r s x y Q q live o m h k
 cases o with
 |int i=>
  cases m with
  |int j=>exact .inl ⟨i,j,Fc,Fc,k _ _ H (L2.bR.refl H) (.int _) h⟩
  |_=>exact h.elim
 |str i=>
  cases m with
  |str j=>exact .inr (.inl ⟨i,j,Fc,Fc,xG h.1,k _ _ H (L2.bR.refl H) (.str _) h.2⟩)
  |_=>exact h.elim
 |tuple q1 d=>
  cases m with
  |tuple l f=>
   refine .inr (.inr (.inl ⟨_,_,_,_,Fc,Fc,bR.seqT bZ q1,bR.seqT bZ l,xG (by rw[<- d.length,<- f.length];exact h.1),λz=>?_,λz1 n=>?_,λz1 n p g=>?_⟩))
   ·subst z;cases d;exact k _ _ H (L2.bR.refl H) (.tuple l f) h.2
   ·subst n;cases f;have e:=h.2;rw[fS]at e;exact k _ _ H (L2.bR.refl H) (.tuple q1 d) e
   ·exact k _ _ _ (eX g) (rX live g (d.append f)) h.2
  |_=>exact h.elim
 |list q1 d=>
  cases m with
  |list l f=>
   exact .inr (.inr (.inr ⟨_,_,_,_,Fc,Fc,L2.bR.seq bZ q1,L2.bR.seq bZ l,xG (by rw[<- d.length,<- f.length];exact h.1),λp g=>k _ _ _ (eX g) (rY live g (d.append f)) h.2⟩))
  |_=>exact h.elim
 |_=>exact h.elim
def Ho:D->D->(D->Prop)->Prop
|.int i,.int j,Q=>KE i j/\Q (.int (i*j))
|.str z,.int n,Q=>z.length<=1000/\0<=n/\n<=1000/\Q (.str (Txt.mul z n))
|_,_,_=>False
def lN:DO X NN Ho:=by
 intro H F l m x y Q g live f d h k
 cases f with
 |int i=>
  cases d with
  |int j=>exact .inl ⟨i,j,Fc,Fc,h.1,k _ _ H (L2.bR.refl H) (.int _) h.2⟩
  |_=>exact h.elim
 |str z=>
  cases d with
  |int n=>exact .inr ⟨z,n,Fc,Fc,h.1,h.2.1,h.2.2.1,k _ _ H (L2.bR.refl H) (.str _) h.2.2.2⟩
  |_=>exact h.elim
 |_=>exact h.elim
noncomputable def Fi:D->D->Option Bool
|.none,.none=>some true
|.bool x,.bool y=>some (decide (x=y))
|.int x,.int y=>some (decide (x=y))
|.str x,.str y=>some (decide (x=y))
|.str _,.none | .none,.str _=>some false
|_,_=>none
def Gu(x y:D)(Q:D->Prop):Prop:=match Fi x y with | some c=>Q (.bool c) | none=>False
def Gs(x y:D)(Q:D->Prop):Prop:=match Fi x y with | some c=>Q (.bool (!c)) | none=>False
def JW{x y:D}{u v:V}{c:Bool}(d:iP K H x u)(f:iP K H y v)(h:Fi x y=some c):Hx u v=true/\decide (u=v)=c:=by
 unfold Fi at h;split at h<;>cases h<;>cases d<;>cases f<;>exact⟨Fc,Fa⟩
def mP:DO X Iu Gu:=by
 intro H F d f x y Q m live j l h k;unfold Gu at h
 cases e:Fi d f with
 |none=>rw[e]at h;exact h.elim
 |some c=>
  rw[e]at h;obtain⟨g,i⟩:=JW j l e;refine⟨g,?_⟩;rw[i];exact k _ _ H (L2.bR.refl H) (.bool c) h
def LJ:DO X Iq Gs:=by
 intro H F d f x y Q m live j l h k;unfold Gs at h
 cases e:Fi d f with
 |none=>rw[e]at h;exact h.elim
 |some c=>
  rw[e]at h;obtain⟨g,i⟩:=JW j l e;refine⟨g,?_⟩;rw[i];exact k _ _ H (L2.bR.refl H) (.bool (!c)) h
noncomputable def sB(b:Bool):D->Bool
|.bool c=>decide (c=b)
|_=>false
def Za(x y:D)(Q:D->Prop):Prop:=match y with | .bool b=>Q (.bool (!sB b x)) | _=>False
theorem Reps.atI{i:Int}(r:Reps K H ds vs)(h:atI ds i=some d):∃v,atI vs i=some v/\iP K H d v:=by
 unfold L2.atI at h |-
 rw[<- r.length]
 cases e:ZX ds.length i with
 |none=>rw[e]at h;cases h
 |some j=>
  rw[e]at h;exact r.get h
inductive G0(ts:List D)(i:Int)(Q:D->Prop):Prop
|mk (d:D) (h:atI ts i=some d) (k:Q d):G0 ts i Q
def MT{i:Int}{Q:D->Prop}:G0 ts i Q↔∃d,atI ts i=some d/\Q d:=⟨λ⟨d,h,k⟩=>⟨d,h,k⟩,λ⟨d,h,k⟩=>⟨d,h,k⟩⟩
def Fu(x y:D)(Q:D->Prop):Prop:=match x,y with
|.list ts,.int i=>G0 ts i Q
|.tuple ts,.int i=>G0 ts i Q
|.str z,.int i=>z.length<=100000/\∃c,atI z.cps.toList i=some c/\Q (.str ⟨#[c]⟩)
|_,_=>False
def cA:DO X (Ir X.K) Fu:=by
 intro H F g o x y Q n live l m h k
 cases m with
 |int i=>
  cases l with
  |list q s=>
   obtain⟨d,e,h⟩:=h;obtain⟨v,f,r⟩:=s.atI e;exact .inl ⟨_,_,i,v,Fc,Fc,L2.bR.seq bZ q,f,k _ _ H (L2.bR.refl H) r h⟩
  |tuple q s=>
   obtain⟨d,e,h⟩:=h;obtain⟨v,f,r⟩:=s.atI e;exact .inr (.inl ⟨_,_,i,v,Fc,Fc,bR.seqT bZ q,f,k _ _ H (L2.bR.refl H) r h⟩)
  |str z=>
   obtain⟨j,c,e,h⟩:=h;exact .inr (.inr ⟨z,i,c,Fc,Fc,xG j,e,k _ _ H (L2.bR.refl H) (.str _) h⟩)
  |_=>exact h.elim
 |_=>cases g<;>exact h.elim
noncomputable def lF{f:Type}(d:List f)(lo g:Option Int):List f:=(d.drop (HT.sIx d.length 0 lo)).take (HT.sIx d.length d.length g-HT.sIx d.length 0 lo)
def Fq(x:D)(lo d:Option Int)(Q:D->Prop):Prop:=match x with
|.list ts=>Q (.list (lF ts lo d))
|.tuple ts=>Q (.tuple (lF ts lo d))
|.str z=>z.length<=100000/\Q (.str (Txt.slice z lo d))
|_=>False
def Reps.cut(r:Reps K H ds vs)(lo d:Option Int):Reps K H (lF ds lo d) (GK vs lo d):=by
 unfold lF GK;rw[r.length];exact(r.drop _).take _
def xD:Ml X (SY X.K) Fq:=by
 intro H F d x lo g Q j live r h k
 cases r with
 |list q s=>exact .inl ⟨_,_,Fc,L2.bR.seq bZ q,λp f=>k _ _ _ (eX f) (rY live f (s.cut lo g)) h⟩
 |@tuple p xs ts q s=>
  refine .inr (.inl ⟨_,_,Fc,bR.seqT bZ q,λz=>?_,λ_ p f=>k _ _ _ (eX f) (rX live f (s.cut lo g)) h⟩)
  have e:lF ts lo g=ts:=by
   unfold lF;rw[s.length,z.1,z.2,MY,FH,<- s.length,dA]
  have i:Q (.tuple (lF ts lo g)):=h;rw[e]at i;exact k _ _ H (L2.bR.refl H) (.tuple q s) i
 |str z=>exact .inr (.inr ⟨z,Fc,xG h.1,k _ _ H (L2.bR.refl H) (.str _) h.2⟩)
 |_=>exact h.elim
def Ng(x y:D)(Q:D->Prop):Prop:=match x,y with
|.str z,.str y=>Q (.bool (Txt.contains y z))
|.str z,.list ts=>∃d:List Str,ts=d.map .str/\Q (.bool (decide (z∈d)))
|.str z,.tuple ts=>∃d:List Str,ts=d.map .str/\Q (.bool (decide (z∈d)))
|_,_=>False
theorem D5:∀{d:List Str}{vs},Reps K H (d.map aV) vs->vs=d.map V.str
|[],_,r=>by rw[lW]at r;cases r;rfl
|y::d,vs,r=>by
 rw[bE]at r
 cases r with
 |cons f g=>
  cases f;rw[bE,D5 g]
def Zb(x y:D)(Q:D->Prop):Prop:=match x,y with
|.str z,.list ts=>∃d:List Str,ts=d.map .str/\Q (.bool (!decide (z∈d)))
|.str z,.tuple ts=>∃d:List Str,ts=d.map .str/\Q (.bool (!decide (z∈d)))
|_,_=>False
def Ki{r:List V->Hp->VK->Prop}{f:List D->(D->Prop)->Prop}(n:uI X r f)(m:wN X (e::R) t)(s:∀{S},PA X (e::R) S->PE X (.Call g (e::R) [] pos) (SC r S)):iM X (.Call g (e::R) [] pos) (nM f t):=by
 obtain⟨v,q,y⟩:=m;refine⟨_,s q,λB N H F J G Q j o h k=>y B N H F J G _ _ o h λl A L i x q1=>?_⟩;exact n L F l A Q j (o.grow i).live x q1 λd v M z w u=>k d v M (i.trans z) w u
def f1(f:D->(D->Prop)->Prop):List D->(D->Prop)->Prop
|[d],Q=>f d Q
|_,_=>False
def c1{r:List V->Hp->VK->Prop}{f:D->(D->Prop)->Prop}(h:∀H F(d:D)(x:V)(Q:D->Prop)g,(∀p∈F,E4 (H p))->iP X.K (mask H F) d x->f d Q ->
  (∀d v M,bR H M->iP X.K (mask M F) d v->Q d->g v M)->r [x] H g):uI X r (f1 f):=by
 intro H F n o Q g live m i k
 cases m with
 |nil=>exact i.elim
 |cons j l=>
  cases l with
  |nil=>exact h H F _ _ Q g live j i k
  |cons _ _=>exact i.elim
def Hr(d:D)(Q:D->Prop):Prop:=match d with
|.list ts=>Q (.int ts.length)
|.tuple ts=>Q (.int ts.length)
|.str z=>z.length<=100000/\Q (.int z.length)
|_=>False
def bY:kO X (.builtin "len") (λf H Q=>(∃p d,f=[.ref p]/\(lU X.K H p d\/rO X.K H p d)/\Q (.int d.length) H)\/∃z,f=[.str z]/\z.length<=bO/\Q (.int z.length) H):=GP.or GO
def gQ:uI X (λg H Q=>(∃p f,g=[.ref p]/\(lU X.K H p f\/rO X.K H p f)/\Q (.int f.length) H)\/∃z,g=[.str z]/\z.length<=bO/\Q (.int z.length) H) (f1 Hr):=c1 λH F d x Q i live r h k=>by
 cases r with
 |list q s=>
  refine .inl ⟨_,_,Fc,.inl (L2.bR.seq bZ q),?_⟩;rw[<- s.length];exact k _ _ H (L2.bR.refl H) (.int _) h
 |tuple q s=>
  refine .inl ⟨_,_,Fc,.inr (bR.seqT bZ q),?_⟩;rw[<- s.length];exact k _ _ H (L2.bR.refl H) (.int _) h
 |str z=>exact .inr ⟨z,Fc,xG h.1,k _ _ H (L2.bR.refl H) (.int _) h.2⟩
 |_=>exact h.elim
def GH(d:D)(Q:D->Prop):Prop:=match d with
|.list ts=>Q (.tuple ts)
|.tuple ts=>Q (.tuple ts)
|_=>False
def pZ:uI X (λi H Q=>∃p f,i=[.ref p]/\((lU X.K H p f/\∀l,H l=none->Q (.ref l) (gG H l (.tup f)))\/(rO X.K H p f/\Q (.ref p) H))) (f1 GH):=c1 λH F d x Q j live r h k=>by
 cases r with
 |list q s=>exact⟨_,_,Fc,.inl ⟨L2.bR.seq bZ q,λl g=>k _ _ _ (eX g) (rX live g s) h⟩⟩
 |tuple q s=>exact⟨_,_,Fc,.inr ⟨bR.seqT bZ q,k _ _ H (L2.bR.refl H) (.tuple q s) h⟩⟩
 |_=>exact h.elim
def Kq(d:D)(Q:D->Prop):Prop:=match d with
|.list ts=>Q (.list ts)
|.tuple ts=>Q (.list ts)
|_=>False
def MK:uI X (λi H Q=>∃p g,i=[.ref p]/\(lU X.K H p g\/rO X.K H p g)/\∀l,H l=none->Q (.ref l) (gG H l (.lst g))) (f1 Kq):=c1 λH F d x Q j live r h k=>by
 cases r with
 |list q s=>exact⟨_,_,Fc,.inl (L2.bR.seq bZ q),λl f=>k _ _ _ (eX f) (rY live f s) h⟩
 |tuple q s=>exact⟨_,_,Fc,.inr (bR.seqT bZ q),λl f=>k _ _ _ (eX f) (rY live f s) h⟩
 |_=>exact h.elim
theorem qY:∀{d:List Int}{vs},Reps K H (d.map aP) vs->vs=d.map V.int
|[],_,r=>by rw[lW]at r;cases r;rfl
|y::d,vs,r=>by
 rw[bE]at r
 cases r with
 |cons f g=>
  cases f;rw[bE,qY g]
def Nu(d:D)(Q:D->Prop):Prop:=∃bs:List Bool,d=.list (bs.map oJ)/\Q (.bool (bs.all id))
def Ox(d:D)(Q:D->Prop):Prop:=∃ns:List Int,d=.list (ns.map aP)/\ns≠[]/\∀m,m∈ns->(∀n∈ns,m<=n)->Q (.int m)
def f2(f:D->D->(D->Prop)->Prop):List D->(D->Prop)->Prop
|[d,d'],Q=>f d d' Q
|_,_=>False
def Kr(x y:D)(Q:D->Prop):Prop:=match x,y with | .int i,.int j=>Q (.int (if j<i then j else i)) | _,_=>False
def Xx:uI X (λf H Q=>∃i j,f=[.int i,.int j]/\Q (.int (if j<i then j else i)) H) (f2 Kr):=by
 intro H F q f Q o live n d k
 cases n with
 |nil=>exact d.elim
 |cons g h=>
  cases h with
  |nil=>exact d.elim
  |cons l m=>
   cases m with
   |cons _ _=>exact d.elim
   |nil=>
    cases g with
    |int i=>
     cases l with
     |int j=>exact⟨i,j,Fc,k _ _ H (L2.bR.refl H) (.int _) d⟩
     |_=>exact d.elim
    |_=>exact d.elim
noncomputable def Gn:D->String
|.none=>"NoneType"
|.bool _=>"bool"
|.int _=>"int"
|.str _=>"str"
|.list _=>"list"
|.tuple _=>"tuple"
|.dict []=>"list"
|.dict [(.none,_)]=>"list"
|.dict _=>"dict"
noncomputable def Z2(T:String)(d:D):Bool:=(Gn d==T)||(T=="int"&&Gn d=="bool")
def GD{i:Int}(h:T∈["int","str","list","tuple","bool"]):Z2 T (.dict [(.int i,x)])=false:=by
 simp only[aY,dR,j3]at h;rcases h with rfl | rfl | rfl | rfl | rfl<;>rfl
def Hi(T:String)(d:D)(Q:D->Prop):Prop:=match d with | .dict ((.str _,_)::_)=>False | d=>Q (.bool (Z2 T d))
def Z1{Q:D->Prop}(h:∀x y r,d≠.dict ((.str x,y)::r))(q:Hi T d Q):Q (.bool (Z2 T d)):=by
 unfold Hi at q;split at q
 ·exact q.elim
 ·exact q
def Je(T:String)(P:ET):ET:=λG Q=>P G λd=>Hi T d Q
def WU(K:aM)(T:String):Prop:=∀tn∈["NoneType","bool","int","str","list","tuple"],lG K (.type tn) (.type T)=some ((tn==T)||(T=="int"&&tn=="bool"))
def Hv(K:aM)(T:String):List V->Hp->VK->Prop:=λh H Q=>∃x b,h=[x,.ty T]/\((∃f,KU K H x f/\lG K (.type f) (.type T)=some b)\/(∃p C g,x=.ref p/\H p=some (.ext (JV p C g))/\(∀d,g=some d->∃fs,H d=some (.xd fs))/\GV K C/\lG K (.ref C) (.type T)=some b))/\Q (.bl b) H
def LW{G}{H:Hp}{E:Value->Shared->Prop}{Q:Value->Shared->Prop}{p C:Addr}{c}{b:Bool}(I:eG X pins G H s)(n:H p=some (.ext (JV p C dx)))(hd:∀d,dx=some d->∃fs,H d=some (.xd fs))(x:GV X.K C)
  (e:lG X.K (.ref C) c=some b) (h:∀r,Q (.bool b) { s with toks:=r }):wpAny (model X.prog X.w) A (call (.builtin "isinstance") [.ref p,c]) Q E s:=by
 refine fH (VA x) I.kIn ?_ e (λz=>nomatch z) h;obtain⟨⟨o,vs,f,g,i,k⟩,_⟩:=I.hok p _ n;have j:WY o=true:=by unfold WY;rw[k]
 cases dx with
 |none=>exact⟨o,none,f,g,j,by rw[i];trivial⟩
 |some d=>
  obtain⟨fs,m⟩:=hd d Fc;obtain⟨u,⟨q,R,t,l,_⟩,_⟩:=I.hok d _ m;exact⟨o,some q,f,g,j,by rw[i];exact l⟩
def J2:kO X (.builtin "isinstance") (Hv X.K T):=by
 intro i s G H t o Q I r h;obtain⟨x,b,rfl,⟨m,k,hk⟩ | ⟨p,C,n,rfl,j,hd,l,hk⟩,q⟩:=h
 ·obtain⟨u,w,rfl,f,d⟩:=M7 r;cases d;exact Z0 I f k hk λg=>⟨.bl b,H,I.tok g,Fc,q⟩
 ·obtain⟨u,w,rfl,f,d⟩:=M7 r;cases d;cases f;exact LW I j hd l hk λg=>⟨.bl b,H,I.tok g,Fc,q⟩
def V9(hk:WU X.K T)(w:iM X e P)
  (C:∀{v},PE X e v->PE X (.Call g1 [e,g2] [] pos) (SC (Hv X.K T) (sN v (sN (tC (.ty T)) BJ))))
  (l:autoParam (T∈["int","str","list","tuple","bool"]) zzy._auto_1):iM X (.Call g1 [e,g2] [] pos) (Je T P):=by
 obtain⟨v,E,re⟩:=w;refine⟨_,C E,λB N H F J G Q u o h k=>re B N H F J G _ _ o h λd x L m I q1=>?_⟩
 have fin:∀j,j∈["NoneType","bool","int","str","list","tuple"]->Gn d=j->KU X.K L x j->Hv X.K T [x,V.ty T] L u:=λj n t A=>by
  refine⟨x,_,Fc,.inl ⟨j,A,hk j n⟩,?_⟩;have q:Q (.bool (Z2 T d)):=Z1 (λx y r z=>by subst z;have U:("dict":String)=j:=t;subst U;exact a9 n Ey) q1;unfold Z2 at q;rw[t]at q;exact k _ _ L m (.bool _) q
 cases I with
 |none=>exact fin "NoneType" Fa Fc Fc
 |bool b=>exact fin "bool" Fa Fc Fc
 |int i=>exact fin "int" Fa Fc Fc
 |str z=>exact fin "str" Fa Fc Fc
 |list q s=>exact fin "list" Fa Fc (.inl ⟨Fc,_,L2.bR.seq bZ q⟩)
 |tuple q s=>exact fin "tuple" Fa Fc (.inr (.inl ⟨Fc,_,bR.seqT bZ q⟩))
 |wild h=>exact fin "list" Fa Fc (.inr (.inr ⟨Fc,_,bZ _ _ h,λ_ ⟨_,_,e,_⟩=>⟨_,e,Fc⟩⟩))
 |tape h _=>exact fin "list" Fa Fc (.inr (.inr ⟨Fc,_,bZ _ _ h,λ_ ⟨_,_,_,_,_,_,_,e,_⟩=>⟨_,e,Fc⟩⟩))
 |exc x h=>
  refine⟨_,false,Fc,.inr ⟨_,_,_,Fc,bZ _ _ h,(λ_ z=>nomatch z),x.1,x.2 T l⟩,?_⟩;have f:Q (.bool (Z2 T (.dict _))):=q1;rw[GD l]at f;exact k _ _ L m (.bool _) f
 |excA x h g=>
  refine⟨_,false,Fc,.inr ⟨_,_,_,Fc,bZ _ _ h,λ_ z=>by cases z;exact⟨_,bZ _ _ g⟩,x.1,x.2 T l⟩,?_⟩;have f:Q (.bool (Z2 T (.dict _))):=q1;rw[GD l]at f;exact k _ _ L m (.bool _) f
 |excD x h g _=>
  refine⟨_,false,Fc,.inr ⟨_,_,_,Fc,bZ _ _ h,λ_ z=>by cases z;exact⟨_,bZ _ _ g⟩,x.1,x.2 T l⟩,?_⟩;have f:Q (.bool (Z2 T (.dict _))):=q1;rw[GD l]at f;exact k _ _ L m (.bool _) f
 |dct _ _ _ _=>exact(show False from q1).elim
 |addr z=>exact(show False from q1).elim
 |ins _ _=>exact(show False from q1).elim
def WD(f:Str->List D->(D->Prop)->Prop)(P:ET)(t:AT):ET:=λG Q=>P G λd=>∃z,d=.str z/\t G λg=>f z g Q
def Qy(z:Str)(d:List D)(Q:D->Prop):Prop:=match d with | [.str y]=>Q (.int (Txt.find z y)) | _=>False
def Kp(z:Str)(f:List D)(Q:D->Prop):Prop:=match f with | [.list ts]=>∃d:List Str,ts=d.map aV/\(d.map (·.length)).sum+d.length*z.length<=16777216/\Q (.str (Txt.join z d)) | _=>False
def QC{f:Str->List D->(D->Prop)->Prop}{r:V->List V->Hp->VK->Prop}(u:iM X n P)(q:wN X (e::R) t)
  (s:∀H F(z:Str)(j:List D)(l:List V)(Q:D->Prop)i,Reps X.K (mask H F) j l->f z j Q->(∀d v M,bR H M->iP X.K (mask M F) d v->Q d->i v M)->r (.str z) l H i)
  (y:∀{v S},PE X n v->PA X (e::R) S->PE X (.Call g (e::R) [] pos) (Ff X.K "str" r v S)):iM X (.Call g (e::R) [] pos) (WD f P t):=by
 obtain⟨v,A,re⟩:=u;obtain⟨va,w,W⟩:=q;refine⟨_,y A w,λB N H F J G Q i o h k=>re B N H F J G _ _ o h λd x L m T q1=>?_⟩;obtain⟨z,rfl,q1⟩:=q1;cases T;refine⟨Fc,W B N L F J G _ _ (o.grow m) q1 λj l O Z U E=>?_⟩;exact s O F z j l Q i U E λd v M Y I C=>k d v M (m.trans (Z.trans Y)) I C
def aAg(j:iM X n P)(i:wN X (e::R) t)
  (m:∀{v S},PE X n v->PA X (e::R) S->PE X (.Call (.Attribute n "join" ap) (e::R) [] pos) (Ff X.K "str" (λx g H Q=>∃z p d,x=.str z/\g=[.ref p]/\lU X.K H p (d.map V.str)/\(d.map (·.length)).sum+d.length*z.length<=16777216/\Q (.str (Txt.join z d)) H) v S)):iM X (.Call (.Attribute n "join" ap) (e::R) [] pos) (WD Kp P t):=
 QC j i (λH F z w g Q u r h k=>by
  cases r with
  |nil=>exact h.elim
  |cons f o=>
   cases o with
   |cons _ _=>cases f<;>exact h.elim
   |nil=>
    cases f with
    |list q s=>
     obtain⟨d,rfl,l,h⟩:=h;have e:=D5 s;subst e;exact⟨z,_,d,Fc,Fc,L2.bR.seq bZ q,l,k _ _ H (L2.bR.refl H) (.str _) h⟩
    |_=>exact h.elim) m
def YR(i j:Nat)(P:ET):sZ:=λf G=>P G λd=>gP i j d G f.nx
def BL{i j:Nat}{g:TG}(n:iM X e P)(q:KL X tg (gP i j))(s:∀{v k},PE X e v->PG X tg k->PS X (.Assign [tg] e pos) (wT v k)):wM X (.Assign [tg] e pos) (YR i j P):=by
 obtain⟨v,t,re⟩:=n;obtain⟨k,pg,y⟩:=q;refine⟨_,s t pg,λB N H F J G A C o h f=>re B N H F J G _ _ o h λd x L l w q1=>?_⟩;exact y B N L F J G d x _ _ (o.grow l) w q1 λm z r _ u=>f.nx L F _ _ r (cE l) u
def iP.reads{k:List (Addr×Obj)}{s:Shared}{G:L2.St}(I:eG X k G H s){d:D}{x:V}{u:Value}(hd:d.hasDict=false)(r:iP X.K H d x)(l:iL x u):∃f,Reads s.heap u d f:=by
 refine iP.rec (motive_1:=λd x _=>∀u,d.hasDict=false->iL x u->∃f,Reads s.heap u d f) (motive_2:=λm C _=>∀v,iZ m=false->gM C v->∃f,ReadsAll s.heap v m f)
  (λu _ r=>by cases r;exact⟨_,.none⟩) (λb u _ r=>by cases r;exact⟨_,.bool b⟩) (λi u _ r=>by obtain⟨t,rfl⟩:=r;exact⟨_,.int i t⟩) (λz u _ r=>by obtain⟨t,rfl⟩:=r;exact⟨_,.str z t⟩)
  (λq _ a u hd r=>?_) (λq _ a u hd r=>?_) ?_ ?_ ?_ ?_ ?_ ?_ ?_ ?_ (λv _ r=>by cases r;exact⟨_,.nil⟩) (λ{d m x C} _ _ a b v hd r=>?_) r u hd l
 ·cases r;obtain⟨A,l,⟨o,n,h,j,_,w⟩,_⟩:=I.list q;obtain⟨f,y⟩:=a _ hd l;exact⟨_,.list h j w (by simpa using y)⟩
 ·cases r;obtain⟨A,l,⟨o,h,j,n,w⟩,_⟩:=I.tuple q;obtain⟨f,y⟩:=a _ hd l;exact⟨_,.tuple h j w (by simpa using y)⟩
 case refine_11=>
  have g:(d.hasDict||iZ m)=false:=hd;rw[O1]at g
  cases r with
  |cons E Q=>
   obtain⟨f,h⟩:=a _ g.1 E;obtain⟨bs,j⟩:=b _ g.2 Q;exact⟨_,.cons h j⟩
 all_goals intros;rename_i hd _;cases hd
def Ra(d:D)(Q:D->Prop):Prop:=d.showable=true/\d.hasDict=false/\d.depth<=60/\d.shown.length<=bO/\Q (.str d.shown)
end
end TL
namespace TL
open L2
noncomputable def Hn(a:List (Str×u5)):Bool:=match a.filter (λy=>y.2==d4)with
|[]=>true
|[x]=>a.lookup x.1==some .cell
|_=>false
def ZD(h:Hn names=true):vB names:=by
 unfold Hn at h;split at h
 ·rename_i e;exact .inl e
 ·rename_i x e;have a:x∈names.filter (λy=>y.2==d4):=by rw[e];exact dF.mpr Fc
  have hk:x.2=.cell:=ey (cM.mp a).2;exact .inr ⟨x.1,by rw[e,<- hk],beq_iff_eq.mp h⟩
 ·cases h
noncomputable def rC(a out:Scope)(c b:List Str)(d:List (Option Nat)):Bool:=
 decide (a.kind=.function)&&Hn a.names&&a.names.all (λy=>decide (y.2≠.free)||decide (out.names.lookup y.1=some .cell))&&a.names.all (λy=>decide (y.2≠.local)||decide (a.names.lookup y.1=some .local))&&uD a.names out.names c b d
section
variable{X:Cx}{c iter j:Expr}{d:List Expr}{a:Scope}{pos:Pos}{f:List Str}{k:List (Option Nat)}{n:TI}{g:BP->TG}{m:BP->TT}{l:BP->TE}
def EH{out:Scope}(h:rC a out Nx f k=true):a.kind=.function/\vB a.names/\(∀y∈a.names,y.2=.free->out.names.lookup y.1=some .cell)/\(∀y∈a.names,y.2=.local->a.names.lookup y.1=some .local)/\uD a.names out.names Nx f k=true:=by
 unfold rC at h;simp only[dM,kL,uR,n9]at h;obtain⟨⟨⟨⟨i,o⟩,p⟩,q⟩,r⟩:=h;exact⟨i,ZD o,λy b e=>(p y b).elim (λz=>a9 e z) id,λy b e=>(q y b).elim (λz=>a9 e z) id,r⟩
def TQ(h:rC a X.env.scope X.N f k=true)(e:X.calm=true)(t:PI X j iter n)
  (s:∀b:BP,PG (blk X a f b) j (g b)/\RC (blk X a f b) d (m b)/\PE (blk X a f b) c (l b)) (hs:autoParam (∀x,j6 iter X.env x=pure x) zzx._auto_1):PE X (.ListComp c [⟨j,iter,d,0⟩] a pos) (R8 k n g m l):=by
 obtain⟨i,o,p,q,r⟩:=EH h;exact Rx e i o r p q t s hs
def nS{i:Nat}{r e:Pos}(h:rC a X.env.scope X.N f k=true)(y:X.N.Nodup)(p:X.N[i]?=some x)(C:OR X.env.scope x)(o:X.calm=true)(B:PI X j iter n)
  (z:∀b:BP,PG (blk X a f b) j (g b)/\RC (blk X a f b) d (m b)/\PE (blk X a f b) c (l b))
  (q:jH (.ListComp c [⟨j,iter,d,0⟩] a pos) (some (.Name x r)) e.line X.env=pure true) (hs:autoParam (∀x,j6 iter X.env x=pure x) zzx._auto_1) (A:autoParam (X.fn x=true\/X.env.scope.names.lookup x=some .local) zzv._auto_1) :
  PS X (.Assign [.Name x r] (.ListComp c [⟨j,iter,d,0⟩] a pos) e) (wT (R8 k n g m l) (kX i)):=by
 obtain⟨s,t,u,v,w⟩:=EH h;exact S6 y p C o s t w u v B z q hs A
end
def Xt:d1 "min"=some (.builtin "min"):=by decide +kernel
def GR:d1 "max"=some (.builtin "max"):=by decide +kernel
def vL:d1 "isinstance"=some (.builtin "isinstance"):=by decide +kernel
def eZ:d1 "len"=some (.builtin "len"):=by decide +kernel
def Xu:d1 "set"=some (.type "set"):=by decide +kernel
def kG:d1 "tuple"=some (.type "tuple"):=by decide +kernel
def uY:d1 "list"=some (.type "list"):=by decide +kernel
def aAt:d1 "bool"=some (.type "bool"):=by decide +kernel
def wG:d1 "int"=some (.type "int"):=by decide +kernel
def QG(K:aM):WU K "tuple":=by
 intro a h;simp only[aY,dR,j3]at h;rcases h with rfl | rfl | rfl | rfl | rfl | rfl<;>first | rfl | (with_unfolding_all rfl) | decide +kernel
def VB(K:aM):WU K "bool":=by
 intro a h;simp only[aY,dR,j3]at h;rcases h with rfl | rfl | rfl | rfl | rfl | rfl<;>first | rfl | (with_unfolding_all rfl) | decide +kernel
def set_set{d:Type}(l:List d)(i:Nat)(a b:d):(l.set i a).set i b=l.set i b:=by
 apply gY;intro j;by_cases h:i=j
 ·subst h;by_cases c:i<l.length
  ·rw[bK (by simpa using c),bK c]
  ·rw[eQ (by simpa using c),eQ (by simpa using c)]
 ·rw[bI h,bI h,bI h]
def Kz{f:List D}{i:List Sl}{te:ET}{Q:D->Prop}(R:Nat->D->D->Prop)(w:f.length<=100000)
  (u:∀(k:Nat)(x:D)(q:D->Prop),f[k]?=some x->(∀y,R k x y->q y)->te (i.set 0 (.val x)) q)
  (t:∀m:List D,m.length=f.length->(∀(k:Nat)(x y:D),f[k]?=some x->m[k]?=some y->R k x y)->Q (.list m)) :
  f.length<=100000/\∃P:Nat->List Sl->List D->Prop,P 0 i [] /\
   (∀(k:Nat)(x:D)(a:List Sl)(c:List D),f[k]?=some x->P k a c->gN 0 x a λd=>CV d λb=>if b=true then te d λy=>P (k+1) d (c++[y])else P (k+1) d c)/\∀a c,P f.length a c->Q (.list c):=by
 refine⟨w,λk a c=>(∀x,a.set 0 (.val x)=i.set 0 (.val x))/\c.length=k/\∀(j:Nat)(x y:D),f[j]?=some x->c[j]?=some y->R j x y,⟨λ_=>rfl,Fc,λj x y _ h=>by simp at h⟩,λk x a c p h=>?_,λa c h=>t c h.2.1 h.2.2⟩;obtain⟨r,o,s⟩:=h;show te (a.set 0 (.val x)) _;rw[r x];refine u k x _ p λy v=>⟨λz=>set_set _ _ _ _,by simp[o],λj A B l g=>?_⟩;by_cases C:j<k
 ·rw[eB Ez]at g;exact s j A B l g
 ·rw[eJ Ez]at g
  have:j=k:=by
   by_cases e:j=k
   ·exact e
   ·have:j-c.length≠0:=by lia
    cases q:j-c.length with
    |zero=>exact a9 q this
    |succ n=>rw[q]at g;simp at g
  subst this;rw[p]at l;cases l;simp[o]at g;subst g;exact v
def Ys{d:List D}{l:List Sl}{te:ET}{Q:D->Prop}(f:D->D)(s:d.length<=100000)(r:∀(x:D)(q:D->Prop),x∈d->q (f x)->te (l.set 0 (.val x)) q)(p:Q (.list (d.map f))) :
  d.length<=100000/\∃P:Nat->List Sl->List D->Prop,P 0 l [] /\
   (∀(k:Nat)(x:D)a(g:List D),d[k]?=some x->P k a g->gN 0 x a λc=>CV c λb=>if b=true then te c λy=>P (k+1) c (g++[y])else P (k+1) c g)/\∀a g,P d.length a g->Q (.list g):=by
 refine Kz (λk x y=>y=f x) s (λk x q j h=>r x q (aS j) (h _ Fc)) λm o h=>?_
 have e:m=d.map f:=by
  apply gY;intro i;rw[aI]
  cases j:d[i]? with
  |none=>
   rw[eQ (by rw[o];exact G9.mp j)];rfl
  |some x=>
   have n:i<m.length:=by rw[o];exact(aE.mp j).1
   have:=h i x m[i] j (aD n);rw[aD n,this];rfl
 rw[e];exact p
def ZR{c:List D}{i:List Sl}{tt:yA}{te:ET}{Q:D->Prop}(p:D->Bool)(f:D->D)(t:c.length<=100000)(o:∀(x:D)(q:Bool->Prop),x∈c->q (p x)->tt (i.set 0 (.val x)) q)
  (s:∀(x:D)(q:D->Prop),x∈c->q (f x)->te (i.set 0 (.val x)) q) (r:Q (.list ((c.filter p).map f))) :
  c.length<=100000/\∃P:Nat->List Sl->List D->Prop,P 0 i [] /\
   (∀(k:Nat)(x:D)(a:List Sl)(d:List D),c[k]?=some x->P k a d->gN 0 x a λg=>tt g λb=>if b=true then te g λy=>P (k+1) g (d++[y])else P (k+1) g d)/\∀a d,P c.length a d->Q (.list d):=by
 refine⟨t,λk a d=>(∀x,a.set 0 (.val x)=i.set 0 (.val x))/\d=((c.take k).filter p).map f,⟨λ_=>rfl,Fc⟩,λk x a d m h=>?_,λa d h=>?_⟩
 ·obtain⟨n,rfl⟩:=h;have l:x∈c:=aS m;show tt (a.set 0 (.val x)) _;rw[n x];refine o x _ l ?_;have e:c.take (k+1)=c.take k++[x]:=by rw[cU,m];rfl
  cases j:p x with
  |true=>
   rw[a7 rfl];refine s x _ l ⟨λz=>set_set _ _ _ _,?_⟩;rw[e,fD,bB];simp[j]
  |false=>
   rw[a6 Ey];refine⟨λz=>set_set _ _ _ _,?_⟩;rw[e,fD,bB];simp[j]
 ·obtain⟨_,rfl⟩:=h;rw[dA];exact r
section
variable{d:List (Option Nat)}{c:IT}{e:yA}{b:ET}{a:List Sl}{Q:D->Prop}{ts:List D}
abbrev uH(c:IT)(a:List Sl)(ts:List D):Prop:=∀R:List D->Prop,R ts->c a R
def jK(g:uH c a ts)(f:D->D)(j:ts.length<=100000)(i:∀(x:D)(q:D->Prop),x∈ts->q (f x)->b ((kE d a).set 0 (.val x)) q)(h:Q (.list (ts.map f))):RK d c (gN 0) CV b a Q:=
 g _ (Ys (te:=b) (Q:=Q) f j i h)
def B6(f:uH c a ts)(R:Nat->D->D->Prop)(j:ts.length<=100000)
  (i:∀(k:Nat)(x:D)(q:D->Prop),ts[k]?=some x->(∀y,R k x y->q y)->b ((kE d a).set 0 (.val x)) q)
  (h:∀g:List D,g.length=ts.length->(∀(k:Nat)(x y:D),ts[k]?=some x->g[k]?=some y->R k x y)->Q (.list g)):RK d c (gN 0) CV b a Q:=
 f _ (Kz (te:=b) (Q:=Q) R j i h)
def pG(g:uH c a ts)(p:D->Bool)(f:D->D)(k:ts.length<=100000)(h:∀(x:D)(q:Bool->Prop),x∈ts->q (p x)->e ((kE d a).set 0 (.val x)) q)
  (j:∀(x:D)(q:D->Prop),x∈ts->q (f x)->b ((kE d a).set 0 (.val x)) q) (i:Q (.list ((ts.filter p).map f))):RK d c (gN 0) e b a Q:=
 g _ (ZR (tt:=e) (te:=b) (Q:=Q) p f k h j i)
def JS{g:GT}{DT:vO}(h:uH c a ts)(P:Nat->List Sl->Prop)(j:P 0 a)
  (hs:∀(k:Nat)(x:D)f,ts[k]?=some x->P k f->g x f λi=>tb { DT with nx:=P (k+1),ct:=P (k+1),bk:=DT.nx } i) (hd:∀f,P ts.length f->DT.nx f):YV c g tb DT a:=h _ ⟨P,j,hs,hd⟩
end
def vA(x y:Str):(x++y).cps.toList=x.cps.toList++y.cps.toList:=by
 show(x.cps++y.cps).toList=_;simp
def LC(b:Array Nat)(a k:Nat):(cK k).filterMap (λm=>b[a+m]?)=(b.toList.drop a).take k:=by
 induction k with
 |zero=>simp
 |succ k c=>
  rw[uO,M3,c,cU,jO];congr 1;simp only[gD,List.filterMap_nil];rw[eD];cases b[a+k]?<;>rfl
def OL(v:Option Int)(n d:Nat)(hd:d<=n):(match v with | none=>(d:Int) | some i=>max 0 (min (if i<0 then i+(n:Int)else i) (n:Int)))=((HT.sIx n d v:Nat):Int):=by
 cases v with
 |none=>rfl
 |some i=>
  have:=HT.clip_eq i n d;rw[<- this];dsimp only;split<;>lia
def WK(v:Option Int)(n:Nat):(match v with | none=>(0:Int) | some i=>max 0 (min (if i<0 then i+(n:Int)else i) (n:Int)))=((HT.sIx n 0 v:Nat):Int):=OL v n 0 (cI _)
def SI{a c b d:Int}(e:a=c)(f:b=d):tu a b 1=tu c d 1:=by rw[e,f]
def tR(z:Str)(lo c:Option Int):(Txt.slice z lo c).cps.toList=lF z.cps.toList lo c:=by
 have d:z.cps.toList.length=z.length:=by simp[ck]
 have j:=HT.sIx_le z.length 0 (cI _) lo;have l:=HT.sIx_le z.length z.length (aN _) c
 have i:cj lo c 1 z.length=(cK (HT.sIx z.length z.length c-HT.sIx z.length 0 lo)).map (λk=>HT.sIx z.length 0 lo+k):=by
  unfold cj;simp only[show(1:Int)>0 by decide,ak];refine(SI (WK lo z.length) (OL c z.length z.length (aN _))).trans ?_;unfold tu;simp only[show(1:Int)>0 by decide,ak]
  generalize HT.sIx z.length 0 lo=a
  generalize HT.sIx z.length z.length c=b
  have e:(if(a:Int)<(b:Int)then((b:Int)-a+1-1) / 1 else 0).toNat=b-a:=by split<;>lia
  rw[e];apply iJ;intro k _;lia
 unfold Txt.slice lF;rw[d,i]
 generalize HT.sIx z.length 0 lo=a at *
 generalize HT.sIx z.length z.length c=b at *
 split
 ·next h=>
  simp only[ii,HM,fk,aC,fL]at h;have f:a=0:=by lia
  have g:b-a=z.cps.toList.length:=by rw[d];exact h
  rw[g,f,FH,dA]
 ·rw[RT];exact LC z.cps a (b-a)
def LS:∀a:List Str,(Txt.join ⟨#[]⟩ a).cps.toList=(a.map (·.cps.toList)).flatten:=by
 intro a;show(Builtin.Str.glued ⟨#[]⟩ a).cps.toList=_;rw[StrLaws.glued_eq_join]
 induction a with
 |nil=>rfl
 |cons x a b=>
  cases a with
  |nil=>simp[Str.join]
  |cons y r=>
   show(x++⟨#[]⟩++Str.join ⟨#[]⟩ (y::r)).cps.toList=_;rw[vA,vA,b];simp
def VL(x:Str)(c:Nat):Txt.contains x ⟨#[c]⟩=decide (c∈x.cps.toList):=StrLaws.found_one x c
section
variable{f:ET}{u t e:sZ}{c:yA}{d:vO}{a:List Sl}{i:Nat}
def cL(v:D)(h:∀q:D->Prop,q v->f a q)(k:u d (a.set i (.val v))):gI (FP i f) u d a:=h _ k
def iA(R:D->Prop)(h:∀q:D->Prop,(∀v,R v->q v)->f a q)(k:∀v,R v->u d (a.set i (.val v))):gI (FP i f) u d a:=h _ k
def fW(R:Bool->Prop)(h:∀q:Bool->Prop,(∀b,R b->q b)->c a q)(k:R true->t { d with nx:=u d } a)(j:R false->e { d with nx:=u d } a):gI (Fm c t e) u d a:=by
 refine h _ λb g=>?_
 cases b with
 |true=>rw[a7 rfl];exact k g
 |false=>rw[a6 Ey];exact j g
def mZ(R:Bool->Prop)(h:∀q:Bool->Prop,(∀b,R b->q b)->c a q)(k:R true->t d a)(j:R false->e d a):Fm c t e d a:=by
 refine h _ λb g=>?_
 cases b with
 |true=>rw[a7 rfl];exact k g
 |false=>rw[a6 Ey];exact j g
def hV{ts:List D}{g:GT}(h:uH ti a ts)(P:Nat->List Sl->Prop)(l:P 0 a)
  (hs:∀(k:Nat)(x:D)b,ts[k]?=some x->P k b->g x b λj=>tb { d with nx:=P (k+1),ct:=P (k+1),bk:=u d } j) (hd:∀b,P ts.length b->u d b):gI (YV ti g tb) u d a:=
 JS (DT:={ d with nx:=u d }) h P l hs hd
def lJ{t:AT}(b:List D)(g:b.length<=1000)(h:∀q:List D->Prop,q b->t a q)(k:u d (a.set i (.own b))):gI (PR i t) u d a:=h _ ⟨g,k⟩
def YO{ts:List D}(v:D)(b:a[i]?=some (.own ts))(g:ts.length<=100000)(h:∀q:D->Prop,q v->f a q)(k:u d (a.set i (.own (ts++[v])))):gI (YW i f) u d a:=⟨ts,b,h _ ⟨g,k⟩⟩
def nY{ts:List D}(v:D)(b:a[i]?=some (.own ts))(g:ts.length<=100000)(h:∀q:D->Prop,q v->f a q)(k:d.nx (a.set i (.own (ts++[v])))):YW i f d a:=⟨ts,b,h _ ⟨g,k⟩⟩
def mI(v:D)(h:∀q:D->Prop,q v->f a q)(k:d.nx (a.set i (.val v))):FP i f d a:=h _ k
end
mutual
theorem nA:∀{d:D},d.canLay0=true->d.hasDict=false
|.none,_=>rfl
|.bool _,_=>rfl
|.int _,_=>rfl
|.str _,_=>rfl
|.list _,h=>noDictAll h
|.tuple _,h=>noDictAll h
|.dict _,h=>by cases h
theorem noDictAll:∀{a:List D},dO a=true->iZ a=false
|[],_=>rfl
|d::a,h=>by
 have b:(d.canLay0&&dO a)=true:=h;rw[dM]at b;show(d.hasDict||iZ a)=false;rw[nA b.1,noDictAll b.2];rfl
end
section
variable{X:Cx}{b e:Expr}
def zK(K:aM)(ok:D->D->Prop)(f:D->D->Bool):R2:=λx y H Q=>∃a c,iP K H a x/\iP K H c y/\ok a c/\Q (.bl (f a c)) H
def Kn(ok:D->D->Prop)(f:D->D->Bool)(x y:D)(Q:D->Prop):Prop:=ok x y/\Q (.bool (f x y))
def vV{ok:D->D->Prop}{f:D->D->Bool}:DO X (zK X.K ok f) (Kn ok f):=by
 intro H j a c x y Q i live d g h k;exact⟨a,c,d.same bZ,g.same bZ,h.1,k _ _ H (L2.bR.refl H) (.bool _) h.2⟩
def Jl(a c:D):Prop:=a.canLay0=true/\c.canLay0=true/\min a.depth c.depth<=60
def Yz{k:Nat}(g:Room k X.A):oU X (d9 .Eq) (zK X.K Jl dU):=by
 intro c s t H x y v u Q I l m h;obtain⟨o,p,i,j,⟨c1,a,r⟩,q⟩:=h;obtain⟨n,d⟩:=iP.reads I (nA c1) i l;obtain⟨bs,f⟩:=iP.reads I (nA a) j m;exact SeqAt.compareEq_reads d f c1 a (by have:=g.un;lia) ⟨.bl _,H,I,Fc,q⟩
def Zz{k:Nat}(g:Room k X.A):oU X (d9 .NotEq) (zK X.K Jl λx y=>!dU x y):=by
 intro c s t H x y v u Q I l m h;obtain⟨o,p,i,j,⟨c1,a,r⟩,q⟩:=h;obtain⟨n,d⟩:=iP.reads I (nA c1) i l;obtain⟨bs,f⟩:=iP.reads I (nA a) j m;exact SeqAt.compareNe_reads d f c1 a (by have:=g.un;lia) ⟨.bl _,H,I,Fc,q⟩
def vU(x y:D):Prop:=match y with
|.list ts=>dO ts=true/\x.canLay0=true/\min (dJ ts) x.depth<=60
|.tuple ts=>dO ts=true/\x.canLay0=true/\min (dJ ts) x.depth<=60
|_=>False
noncomputable def A7(x y:D):Bool:=match y with
|.list ts=>ts.any λz=>dU z x
|.tuple ts=>ts.any λz=>dU z x
|_=>false
def P5{k:Nat}(i:Room k X.A):oU X (d9 .In) (zK X.K vU A7):=by
 intro j s t H x y v u Q I o p h;obtain⟨l,c,m,n,a,q⟩:=h
 have hd:l.hasDict=false/\c.hasDict=false:=by
  cases c with
  |list d=>exact⟨nA a.2.1,noDictAll a.1⟩
  |tuple d=>exact⟨nA a.2.1,noDictAll a.1⟩
  |_=>exact a.elim
 obtain⟨r,f⟩:=iP.reads I hd.1 m o;obtain⟨bs,g⟩:=iP.reads I hd.2 n p
 cases c with
 |list d=>exact SeqAt.in_list_reads g f a.1 a.2.1 (by have:=i.un;have:=a.2.2;lia) ⟨.bl _,H,I,Fc,q⟩
 |tuple d=>exact SeqAt.in_tuple_reads g f a.1 a.2.1 (by have:=i.un;have:=a.2.2;lia) ⟨.bl _,H,I,Fc,q⟩
 |_=>exact a.elim
def lK{k:Nat}(i:Room k X.A):oU X (d9 .NotIn) (zK X.K vU λx y=>!A7 x y):=by
 intro j s t H x y v u Q I o p h;obtain⟨l,c,m,n,a,q⟩:=h
 have hd:l.hasDict=false/\c.hasDict=false:=by
  cases c with
  |list d=>exact⟨nA a.2.1,noDictAll a.1⟩
  |tuple d=>exact⟨nA a.2.1,noDictAll a.1⟩
  |_=>exact a.elim
 obtain⟨r,f⟩:=iP.reads I hd.1 m o;obtain⟨bs,g⟩:=iP.reads I hd.2 n p
 cases c with
 |list d=>exact SeqAt.notIn_list_reads g f a.1 a.2.1 (by have:=i.un;have:=a.2.2;lia) ⟨.bl _,H,I,Fc,q⟩
 |tuple d=>exact SeqAt.notIn_tuple_reads g f a.1 a.2.1 (by have:=i.un;have:=a.2.2;lia) ⟨.bl _,H,I,Fc,q⟩
 |_=>exact a.elim
def Jh(x y:D)(Q:D->Prop):Prop:=match x,y with
|.str z,.str y=>Q (.bool (Txt.contains y z))
|x,y=>vU x y/\Q (.bool (A7 x y))
def T3{k:Nat}(a:Room k X.A):oU X (d9 .In) (λx y H Q=>(∃i j,x=.str i/\y=.str j/\Q (.bl (!(v6 j i 0 j.length 1).isEmpty)) H)\/zK X.K vU A7 x y H Q):=P4.or (P5 a)
def Lb:DO X (λx y H Q=>(∃i j,x=.str i/\y=.str j/\Q (.bl (!(v6 j i 0 j.length 1).isEmpty)) H)\/zK X.K vU A7 x y H Q) Jh:=by
 intro H l a c x y Q d live f g h k;have gen:vU a c/\Q (.bool (A7 a c))->_:=λh=>(.inr ⟨a,c,f.same bZ,g.same bZ,h.1,k _ _ H (L2.bR.refl H) (.bool _) h.2⟩:(∃i j,x=.str i/\y=.str j/\d (.bl (!(v6 j i 0 j.length 1).isEmpty)) H)\/zK X.K vU A7 x y H d)
 cases f with
 |str z=>
  cases g with
  |str w=>exact .inl ⟨z,w,Fc,Fc,k _ _ H (L2.bR.refl H) (.bool _) h⟩
  |_=>exact gen h
 |_=>exact gen h
noncomputable def pW:D->Bool
|.none=>true
|_=>false
def Nf(x y:D)(Q:D->Prop):Prop:=match y with | .bool b=>Q (.bool (sB b x)) | .none=>Q (.bool (pW x)) | _=>False
def aAd(x y:D)(Q:D->Prop):Prop:=match y with | .bool b=>Q (.bool (!sB b x)) | .none=>Q (.bool (!pW x)) | _=>False
def B1:oU X (d9 .Is) (λx y H Q=>Hu x y H Q\/(y=.non/\Q (.bl (decide (x=.non))) H)):=Zx.or Zy
def P3:oU X (d9 .IsNot) (λx y H Q=>FW x y H Q\/(y=.non/\Q (.bl (!decide (x=.non))) H)):=P2.or ZA
def I0:DO X (λx y H Q=>Hu x y H Q\/(y=.non/\Q (.bl (decide (x=.non))) H)) Nf:=by
 intro H i a g x y Q f live c d h k
 cases d with
 |bool b=>
  refine .inl ⟨b,Fc,?_⟩;have e:(decide (x=V.bl b))=sB b a:=by cases c<;>simp[sB]
  rw[e];exact k _ _ H (L2.bR.refl H) (.bool _) h
 |none=>
  refine .inr ⟨Fc,?_⟩;have e:(decide (x=V.non))=pW a:=by cases c<;>simp[pW]
  rw[e];exact k _ _ H (L2.bR.refl H) (.bool _) h
 |_=>exact h.elim
def UC:DO X (λx y H Q=>FW x y H Q\/(y=.non/\Q (.bl (!decide (x=.non))) H)) aAd:=by
 intro H i a g x y Q f live c d h k
 cases d with
 |bool b=>
  refine .inl ⟨b,Fc,?_⟩;have e:(!decide (x=V.bl b))=!sB b a:=by cases c<;>simp[sB]
  rw[e];exact k _ _ H (L2.bR.refl H) (.bool _) h
 |none=>
  refine .inr ⟨Fc,?_⟩;have e:(!decide (x=V.non))=!pW a:=by cases c<;>simp[pW]
  rw[e];exact k _ _ H (L2.bR.refl H) (.bool _) h
 |_=>exact h.elim
def QD(x y:D)(Q:D->Prop):Prop:=match x,y with | .int i,.int j=>Q (.int (if j>i then j else i)) | _,_=>False
def Xw:uI X (λc H Q=>∃i j,c=[.int i,.int j]/\Q (.int (if j>i then j else i)) H) (f2 QD):=by
 intro H o n c Q m live l a k
 cases l with
 |nil=>exact a.elim
 |cons d f=>
  cases f with
  |nil=>exact a.elim
  |cons g h=>
   cases h with
   |cons _ _=>exact a.elim
   |nil=>
    cases d with
    |int i=>
     cases g with
     |int j=>exact⟨i,j,Fc,k _ _ H (L2.bR.refl H) (.int _) a⟩
     |_=>exact a.elim
    |_=>exact a.elim
end
end TL
namespace L2
section
variable{X:Cx}{a:List (Addr×Obj)}{f:St}{H:Hp}{s:Shared}{d:Heap}
def eG.turnedL{t':Nat}{ch:List Addr}(I:eG X a f H s)(i:∀b∈ch,AI X a H b)(k:∀b o,b∉ch->s.heap.get? b=some o->d.get? b=some o):eG X a f H { s with heap:=d,toks:=t' }:=by
 have h:∀b u,H b=some u->b∉ch:=λb u e z=>by rw[(i b z).1]at e;cases e
 have x:X.env.locals∉ch:=λz=>(i _ z).2.1 Fc
 refine I.step (g':=s.gens) (d':=s.drawn) (ch:=ch) (λb y=>?_) (λb o _ _ g e _=>k b o g e) (λb o _ _ g e _=>⟨o.slots,k b o g e⟩) (λ_ _ _ _ n=>n)
  (λb o g e=>⟨o,k b o g e⟩) (λ_ _ e=>e) (λ_ _ _ e=>e) (λb E e=>⟨#[],by rw[e];simp⟩) (λm A=>?_) (λb u e=>?_) I.bare
 ·obtain⟨C,f1,f2,p,t,w⟩:=i b y;exact⟨p,f1,t,w⟩
 ·obtain⟨o,l,j,B,r⟩:=A;exact⟨o,l,j,k _ o x B,r⟩
 ·refine(I.hok b u e).stay (λc v g q=>k c v ?_ q) (λ_ q=>q) λ_ _ q=>q;rcases g with z | z
  ·rw[z];exact h b u e
  ·exact h c _ z
def eG.turnedNew{t':Nat}{ch:List Addr}{T:Addr}{o:HO}(I:eG X a f H s)(j:∀b∈ch,AI X a H b)(k:∀b u,b∉ch->s.heap.get? b=some u->d.get? b=some u)(p:s.heap.objs.size<=T)(new:jY X.prog X.w (gG H T o) d T o) :
  eG X a f (gG H T o) { s with heap:=d,toks:=t' }:=by
 have h:∀b u,H b=some u->b∉ch:=λb u e z=>by rw[(j b z).1]at e;cases e
 have C:X.env.locals∉ch:=λz=>(j _ z).2.1 Fc;have F:H T=none:=I.hok.fresh p;have ne:∀b u,H b=some u->(gG H T o) b=some u:=λb u e=>by rw[cO (iB e F)];exact e
 have l:∀b u,s.heap.get? b=some u->b≠T:=λb u e z=>by
  exact a9 (cS (bF e) p) (by rw[z];exact iV _)
 refine I.step (g':=s.gens) (d':=s.drawn) (ch:=ch) (λb i=>?_) (λb o _ _ g e _=>k b o g e) (λb o _ _ g e _=>⟨o.slots,k b o g e⟩) (λb u _ e n=>by rw[cO (l b u e)];exact n)
  (λb o g e=>⟨o,k b o g e⟩) (λb J e=>ne _ _ e) (λb u v e=>ne _ _ e) (λb L e=>⟨#[],by rw[ne _ _ e];simp⟩) (λm E=>?_) (λb u e=>?_) I.bare
 ·obtain⟨K,f1,f2,y,A,B⟩:=j b i;exact⟨y,f1,A,B⟩
 ·obtain⟨o,x,t,G,r⟩:=E;exact⟨o,x,t,k _ o C G,r⟩
 ·by_cases i:b=T
  ·subst i;rw[cW]at e;cases e;exact new
  ·rw[cO i]at e;refine(I.hok b u e).stay (λc v g q=>k c v ?_ q) (λc q=>ne _ _ q) (λc J q=>ne _ _ q) λc ob v q=>ne _ _ q;rcases g with z | z
   ·rw[z];exact h b u e
   ·exact h c _ z
end
end L2
namespace TL
open L2
noncomputable def XT(a bs:List D):List D:=(a.zip bs).map λp=>.tuple [p.1,p.2]
def RW(a bs:List D):(XT a bs).length=min a.length bs.length:=by unfold XT;simp
section
variable{g:List (Option Nat)}{j:IT}{i:ET}{e:List Sl}{Q:D->Prop}{ts:List D}
def yH{f:Type}(l:List f)(a b c d:f):(((l.set 0 a).set 1 b).set 0 c).set 1 d=(l.set 0 c).set 1 d:=by
 match l with
 |[]=>rfl
 |[_]=>rfl
 |_::_::_=>rfl
def N4(l:uH j e ts)(f:D->D)(t:ts.length<=100000)(p:∀x∈ts,∃a b,x=.tuple [a,b])(s:∀(a b:D)(q:D->Prop),.tuple [a,b]∈ts->q (f (.tuple [a,b]))->i (((kE g e).set 0 (.val a)).set 1 (.val b)) q)(r:Q (.list (ts.map f))):RK g j (gP 0 1) CV i e Q:=by
 refine l _ ⟨t,λk c d=>(∀x y,(c.set 0 (.val x)).set 1 (.val y)=((kE g e).set 0 (.val x)).set 1 (.val y))/\d=(ts.take k).map f,⟨λ_ _=>rfl,Fc⟩,λk x c d n h=>?_,λc d h=>?_⟩
 ·obtain⟨o,rfl⟩:=h;have m:x∈ts:=aS n;obtain⟨a,b,rfl⟩:=p x m;refine⟨a,b,Fc,?_⟩;show i ((c.set 0 (.val a)).set 1 (.val b)) _;rw[o a b];refine s a b _ m ⟨λx y=>yH _ _ _ _ _,?_⟩;rw[cU,n,bB];rfl
 ·obtain⟨_,rfl⟩:=h;rw[dA];exact r
end
end TL
namespace L2
open PySem.SeqAt
open AutoSeq1 (wpAny_loadPart')
def DH(l:Addr)(a:Array Value)(n:Nat)(v:Option Addr)(H:Array (Option Value))(x:Value)(e:Value->Bool)(j:Nat)(J:j<a.size)(r:e a[j]=true)(t:∀m (K:m<a.size),m<j->e a[m]=false) :
  Meets (l9.«tuple.index» ⟨[.ref l,x],[]⟩)
   (λA R s=>s.heap.get? l=some { cls:=.type "tuple",dict:=v,data:=.seq a n,slots:=H }/\(∀y,y∈a->EqAt A.in1 s y x (e y))/\R (.ok (.ret (.int j s.toks))) { s with toks:=s.toks+1 }):=by
 intro prog w A R s h;obtain⟨G,g,d,I,os⟩:=s;obtain⟨F,C,h⟩:=h;unfold l9.«tuple.index»;simp only[Std.Legacy.Range.forIn_eq_forIn_range']
 wp_walk using ce F
 have B:([:min a.size a.size]:Std.Legacy.Range).size=a.size:=by simp[Std.Legacy.Range.size]
 rw[B];show wpAny _ _ (qy (OX 0 a.size) (none,()) _) _ _ _;refine fg _ (λjM b u=>b=(none,())/\u=⟨G,g,d,I,os⟩/\∃k,jM=OX k (a.size-k)/\k<=j) _ (λi jM b u p=>?_) (λb u p=>?_) _ _ ⟨Fc,Fc,0,Fa,cI _⟩
 ·obtain⟨rfl,rfl,k,o,hk⟩:=p;have c:k<a.size:=by lia
  have z:a.size-k=(a.size-(k+1))+1:=by lia
  rw[z,XN]at o;obtain⟨rfl,rfl⟩:=List.cons.inj o;have E:a[i]?=some a[i]:=by simp[c]
  rw[E];refine aB (C _ (Array.getElem_mem c) prog w _ _ ?_);by_cases q:i=j
  ·subst q;rw[r,a7 rfl]
   wp_walk
   exact h
  ·have f:i<j:=by lia
   rw[t i c f,a6 Ey];exact aG ⟨Fc,Fc,i+1,Fc,f⟩
 ·obtain⟨_,_,k,o,hk⟩:=p;have:=e7 gC o;simp at this;lia
end L2
namespace TL
open L2 PySem.SeqAt
section
variable{X:Cx}{e:Expr}{a:List Expr}{b c:ET}{pos:Pos}
def LH(f:List D)(d:D)(j:Nat):Prop:=dO f=true/\d.canLay0=true/\min (dJ f) d.depth<=60/\(∃t,f[j]?=some t/\dU t d=true)/\∀(m:Nat) t,m<j->f[m]?=some t->dU t d=false
def K7(K:aM):V->List V->Hp->VK->Prop:=λx g H Q=>∃(y:V)(f:List D)(d:D)(j:Nat),g=[y]/\iP K H (.tuple f) x/\iP K H d y/\LH f d j/\Q (.int j) H
def QA(P:X.A.units+200<u7):XF X "tuple.index" (K7 X.K):=by
 intro G s σ H x xs v us Q I Z Y h;obtain⟨y,g,d,j,rfl,T,U,⟨c1,z,k,⟨t,E,N⟩,r⟩,q⟩:=h;obtain⟨u,rfl,W⟩:=Y.one;obtain⟨as,L⟩:=iP.reads I (show(gE g).hasDict=false from noDictAll c1) T Z;obtain⟨bs,M⟩:=iP.reads I (nA z) U W
 cases L with
 |@tuple l o items n _ as' h3 h4 h5 h6=>
  have f:=je g items.toList _ c1 h6;have C:items.size=g.length:=by rw[<- f,aC,bQ]
  have O:j<g.length:=(aE.mp E).1;have B:j<items.size:=by lia
  have J:∀(m:Nat)(k:m<items.size),g[m]?=some (jd s.heap items[m]):=λm k=>by
   rw[<- f,aI];simp[k]
  obtain⟨oc,R,S,w⟩:=o;cases h4;cases h5;refine br F.slot_tuple_index ⟨_,h3,Fc⟩ F.entry_tuple_index (F.args_tuple_index_2 _ _) (DH _ items _ R w u (λy=>dU (jd s.heap y) d) j B ?_ ?_) ⟨h3,tf h6 M c1 z (by have:=P;lia),?_⟩
  ·have:=J j B;rw[E]at this;rw[<- c5 this];exact N
  ·intro m p i;exact r m _ i (J m p)
  ·exact⟨.int j,H,I.tok _,⟨_,Fc⟩,q⟩
def xF{k:Nat}(d:Room k X.A):XF X "tuple.index" (K7 X.K):=QA (by have:=d.un;lia)
def Ya(b:ET)(t:AT):ET:=λg Q=>b g λd=>∃f,d=.tuple f/\t g λh=>∃(x:D)(j:Nat),h=[x]/\LH f x j/\Q (.int j)
def xM(y:iM X n b)(w:wN X (e::a) t)
  (A:∀{v c},PE X n v->PA X (e::a) c->PE X (.Call (.Attribute n "index" ap) (e::a) [] pos) (Ff X.K "tuple" (K7 X.K) v c)):iM X (.Call (.Attribute n "index" ap) (e::a) [] pos) (Ya b t):=by
 obtain⟨v,C,re⟩:=y;obtain⟨P,z,L⟩:=w;refine⟨_,A C z,λB g H i f r Q N o h k=>re B g H i f r _ _ o h λd x s l F q1=>?_⟩;obtain⟨M,rfl,q1⟩:=q1
 cases F with
 |@tuple p xs _ hq rs=>
  refine⟨.inr (.inl ⟨Fc,.inr ⟨_,bR.seqT bZ hq⟩⟩),L B g s i f r _ _ (o.grow l) q1 λO R u m G E=>?_⟩;obtain⟨d,j,rfl,hok,q⟩:=E
  cases G with
  |cons I J=>
   cases J;exact⟨_,M,d,j,Fc,(iP.tuple hq rs).same ((cE m).trans bZ),I.same bZ,hok,k _ _ u (l.trans m) (.int _) q⟩
end
section
variable{K:aM}{H a:Hp}{B:Hp}{g c:List Addr}{f:List Sl}{j:L2.St}
theorem Reps.snoc:∀{ts d xs},Reps K H (ts++[d]) xs->∃b y,xs=b++[y]/\Reps K H ts b/\iP K H d y
|[],d,_,r=>by
 rw[aA8]at r
 cases r with
 |cons e h=>cases h;exact⟨[],_,Fc,.nil,e⟩
|t::ts,d,_,r=>by
 rw[BH]at r
 cases r with
 |cons e h=>
  obtain⟨b,y,rfl,i,k⟩:=Reps.snoc h;exact⟨_::b,y,Fc,.cons e i,k⟩
noncomputable def without(H:Hp)(p:Addr):Hp:=λb=>if b=p then none else H b
def wQ{p:Addr}:mask (without H p) c=mask H (p::c):=by
 funext b;unfold mask without;by_cases d:b=p
 ·simp[d]
 ·by_cases e:b∈c<;>simp[d,e]
def rR{p:Addr}(s:bR H a)(d:H p=none):bR H (without a p):=λb o e=>by
 unfold without;rw[a6 λz=>by rw[z,d]at e;cases e];exact s b o e
def zI{p:Addr}(d:H p=some u):gG (without H p) p u=H:=by
 funext b;by_cases h:b=p
 ·subst h;rw[cW,d]
 ·rw[cO h];unfold without;rw[a6 h]
def bR.free'(s:bR H a){p:Addr}(h:a p=none):H p=none:=by
 cases q:H p with
 |none=>rfl
 |some u=>rw[s p u q]at h;cases h
def Ok.takeOwn(o:Ok K B g H c f j){i:Nat}{p:Addr}(s:bR H a)(d:H p=none)(e:a p=some (.lst xs))(r:Reps K (mask a (p::c)) ts xs) :
  Ok K B g a (p::c) (f.set i (.own ts)) (j.set i (some (.ref p))):=by
 have h:=o.grow (rR s d);have b:without a p p=none:=by unfold without;rw[a7 rfl]
 have:=h.setOwn (i:=i) (ts:=ts) (xs:=xs) b (by rw[wQ];exact r)
 rwa [zI e]at this
end
section
variable{X:Cx}{a b c e:Expr}{I:List Expr}{G C l:ET}{pos:Pos}
def aAs(i:Nat)(t:yA):yA:=λf Q=>∃d,f[i]?=some (.own d)/\t (f.set i (.val (.list d))) Q
def PC(i:Nat)(h:GX X e t):GX X e (aAs i t):=by
 obtain⟨v,p,r⟩:=h;refine⟨_,p,λB g H q m j Q n o h k=>?_⟩;obtain⟨u,e,h⟩:=h;obtain⟨d,f,s⟩:=o.share e;exact r B g H d _ j _ _ f h k
abbrev FT:=List Sl->(List D->Prop)->Prop
def OQ(X:Cx)(e:Expr)(t:FT):Prop:=∃l:TE,PE X e l/\∀B p0 H ps dn σ (Q:List D->Prop)(f:VK),Ok X.K B p0 H ps dn σ->t dn Q ->
 (∀g p h d,bR H d->H p=none->d p=some (.lst h)->Reps X.K (mask d (p::ps)) g h->Q g->f (.ref p) d)->l σ H f
def Nk(t:FT):ET:=λf Q=>t f λd=>Q (.list d)
def rE(h:OQ X e t):iM X e (Nk t):=by
 obtain⟨v,p,r⟩:=h;refine⟨_,p,λB m H n d w Q x o h k=>r B m H n d w _ _ o h λy p z f s g j u q=>k _ _ f s ?_ q⟩;exact .list (lU.of (nB (jE o.live g) j)) (u.same (lY λq i=>aO _ i))
def Kk(G C:ET):FT:=λf Q=>G f λx=>C f λy=>∃d bs,x=.list d/\y=.list bs/\d.length+bs.length<=100000/\Q (d++bs)
def Zd(w:iM X a G)(z:iM X b C):OQ X (.BinOp a .Add b pos) (Kk G C):=by
 obtain⟨U,E,M⟩:=w;obtain⟨W,F,N⟩:=z;refine⟨_,IQ F5 E F,λB j H m d s Q P o h k=>M B j H m d s _ _ o h λS x t i K q1=>?_⟩;refine N B j t m d s _ _ (o.grow i) q1 λT y O f L J=>?_;obtain⟨R,bs,rfl,rfl,A,q⟩:=J
 cases K with
 |list u n=>
  cases L with
  |list v r=>
   refine⟨_,_,_,_,Fc,Fc,L2.bR.seq ((cE f).trans bZ) u,L2.bR.seq bZ v,xG (by rw[<- n.length,<- r.length];exact A),λp g=>?_⟩;exact k _ p _ _ ((i.trans f).trans (eX g)) (bR.free' (i.trans f) g) cW (by rw[lZ g];exact(n.same (cE f)).append r) q
def Py(i:Nat)(C:ET):FT:=λf Q=>∃d,f[i]?=some (.own d)/\C f λy=>∃bs,y=.list bs/\d.length+bs.length<=100000/\Q (d++bs)
def aAc{i:Nat}(w:PE X n (sU i))(v:iM X b C):OQ X (.BinOp n .Add b pos) (Py i C):=by
 obtain⟨T,A,J⟩:=v;refine⟨_,IQ F5 w A,λB z H E j L Q N o h k=>?_⟩;obtain⟨K,e,h⟩:=h;obtain⟨q,U,t,P,R,S,u,m⟩:=o.own i K e;refine⟨.ref q,t,J B z H E j L _ _ o h λO y M d F g=>?_⟩;obtain⟨bs,rfl,x,g⟩:=g
 cases F with
 |list s r=>
  refine⟨_,_,_,_,Fc,Fc,lU.of (d _ _ u),L2.bR.seq bZ s,xG (by rw[<- m.length,<- r.length];exact x),λp f=>?_⟩;exact k _ p _ _ (d.trans (eX f)) (bR.free' d f) cW (by rw[lZ f];exact(m.same (cE d)).append r) g
def Ft(m:List (Option Nat))(n:IT)(g:GT)(o:yA)(l:ET):FT:=λj Q=>n j λi=>i.length<=100000/\∃P:Nat->List Sl->List D->Prop,P 0 (kE m j) [] /\
 (∀(k:Nat)(x:D)d(h:List D),i[k]?=some x->P k d h->g x d λf=>o f λb=>if b=true then l f λy=>P (k+1) f (h++[y])else P (k+1) f h)/\∀d h,P i.length d h->Q h
def Nm(Q:List D->Prop)(d:D):Prop:=match d with | .list ds=>Q ds | _=>False
def VZ{l}{Q:List D->Prop}(h:RK fr ti g tt l σ (Nm Q)):Ft fr ti g tt l σ Q:=h
def U4{ti:IT}{g:GT}{tt:yA}{l:ET}{wi:TI}{gv:BP->TG}{vt:BP->TT}{ve:BP->TE}
  (ri:∀B t H r f w (Q:List D->Prop)(R:It->Hp->Prop),Ok X.K B t H r f w->ti f Q->(∀E J q,bR H q->aAz X.K (mask q r) E J->Q E->R J q)->wi w H R)
  (rg:∀(M:BP)B t H r f w(d:D)(v:V)(Q:List Sl->Prop)(F:L2.St->Hp->Prop),Ok X.K B t H r f w->iP X.K (mask H r) d v->g d f Q->(∀j A,Ok X.K B t H r j A->(oR f->oR j)->Q j->F A H)->gv M v w H F)
  (rt:∀(M:BP)B t H r f w(Q:Bool->Prop)(F:Bool->Hp->Prop),Ok X.K B t H r f w->tt f Q->(∀b q,bR H q->Q b->F b q)->vt M w H F)
  (re:∀(M:BP)B t H r f w(Q:D->Prop)F,Ok X.K B t H r f w->l f Q->(∀d v q,bR H q->iP X.K (mask q r) d v->Q d->F v q)->ve M w H F)
  (B:Hp) (t:List Addr) (H:Hp) (r:List Addr) (f:List Sl) (w:L2.St) (Q:List D->Prop) (F:VK) (o:Ok X.K B t H r f w) (h:Ft fr ti g tt l f Q) (k:∀E p xs q,bR H q->H p=none->q p=some (.lst xs)->Reps X.K (mask q (p::r)) E xs->Q E->F (.ref p) q):R8 fr wi gv vt ve w H F:=by
 refine ri B t H r f w _ _ o h λE J H1 s1 rj q1=>?_;obtain⟨hz,P,h0,hs,hd⟩:=q1;intro M n s;have U:B n=none:=bR.free' (o.grow s1).base s
 refine⟨λi m A q=>m=E.length-i/\i<=E.length/\∃j N T,Ok X.K B t q (n::r) j A/\oR j/\q n=some (.lst T)/\N.length<=i/\Reps X.K (mask q (n::r)) N T/\bR (mask H1 r) (mask q (n::r))/\bR H1 q/\P i j N,
  ⟨_,Fc,cI _,kE fr f,[],[],((o.grow s1).blk fr).adopt s,qZ fr f,cW,aN _,.nil,by rw[lZ s];exact L2.bR.refl _,eX s,h0⟩,?_⟩
 rintro i m A q ⟨rfl,sk,j,N,T,o',n',ha,hl,Z,W,sF,p'⟩;have hL:bO=2^24:=rfl;by_cases O:i<E.length
 ·refine .inr ⟨rj.go i q (W.trans bZ) O,λy H2 hy=>?_⟩;obtain⟨s2,dx,hx,rx⟩:=rj.yld i q (n::r) y H2 o'.live W O hy;refine rg M B t H2 (n::r) j A dx y _ _ (o'.grow s2) rx (hs i dx j N hx p') λx Y o3 n3 q3=>?_;refine rt M B t H2 (n::r) x Y _ _ o3 q3 λb H4 s4 q4=>?_;have L:=s2.trans s4
  cases b with
  |false=>
   exact⟨E.length-(i+1),Ez,Fc,O,x,N,T,o3.grow s4,n3 n',L _ _ ha,Ez,Z.same (cE L),W.trans (cE L),sF.trans L,q4⟩
  |true=>
   refine re M B t H4 (n::r) x Y _ _ (o3.grow s4) q4 λd v H5 s5 r5 q5=>?_;have S:=L.trans s5;have hm:mask (gG H5 n (.lst (T++[v]))) (n::r)=mask H5 (n::r):=jU (aU ..);refine⟨T,S _ _ ha,by rw[<- Z.length];lia,E.length-(i+1),Ez,Fc,O,x,N++[d],T++[v],((o3.grow s4).grow s5).aside (aU ..) U (n3 n'),n3 n',cW,by rw[bH,kZ];lia,?_,?_,?_,q5⟩
   ·rw[hm];exact(Z.same (cE S)).append (.cons r5 .nil)
   ·rw[hm];exact W.trans (cE S)
   ·intro b u e;have ne:b≠n:=λz=>by rw[z,s]at e;cases e
    rw[cO ne];exact(sF.trans S) b u e
 ·obtain rfl:i=E.length:=by lia
  exact .inl ⟨rj.stop _ q (W.trans bZ) (aN _),k N n T q (s1.trans sF) (bR.free' s1 s) ha Z (hd j N p')⟩
def ZS{iter l}(m:KJ X tg iter ti)
  (d:∀b:BP,KL (blk X scope N' b) tg g/\GY (blk X scope N' b) ifs tt/\iM (blk X scope N' b) elt l) {M:(TE)->Prop}
  (fin:∀{h}{gv:BP->TG}{vt:BP->TT}{ve:BP->TE},PI X tg iter h->(∀b:BP,PG (blk X scope N' b) tg (gv b)/\RC (blk X scope N' b) ifs (vt b)/\PE (blk X scope N' b) elt (ve b))->M (R8 fr h gv vt ve)) :
  ∃v:TE,M v/\∀B p0 H ps dn σ (Q:List D->Prop)(i:VK),Ok X.K B p0 H ps dn σ->Ft fr ti g tt l dn Q ->
   (∀j p k f,bR H f->H p=none->f p=some (.lst k)->Reps X.K (mask f (p::ps)) j k->Q j->i (.ref p) f)->v σ H i:=by
 obtain⟨h,n,o⟩:=m;refine⟨_,fin (gv:=λb=>u1 (d b).1) (vt:=λb=>u1 (d b).2.1) (ve:=λb=>u1 (d b).2.2) n λb=>⟨(d2 (d b).1).1,(d2 (d b).2.1).1,(d2 (d b).2.2).1⟩,?_⟩;exact U4 o (λb=>(d2 (d b).1).2) (λb=>(d2 (d b).2.1).2) λb=>(d2 (d b).2.2).2
def Qx{iter l}(j:KJ X tg iter ti)
  (i:∀b:BP,KL (blk X scope N' b) tg g/\GY (blk X scope N' b) ifs tt/\iM (blk X scope N' b) elt l)
  (k:∀{wi}{d:BP->TG}{h:BP->TT}{f:BP->TE},PI X tg iter wi->(∀b:BP,PG (blk X scope N' b) tg (d b)/\RC (blk X scope N' b) ifs (h b)/\PE (blk X scope N' b) elt (f b))->PE X (.ListComp elt [⟨tg,iter,ifs,0⟩] scope pos) (R8 fr wi d h f)) :
  OQ X (.ListComp elt [⟨tg,iter,ifs,0⟩] scope pos) (Ft fr ti g tt l):=ZS j i k
abbrev RL:=List D->(List D->Prop)->Prop
def kU(K:aM)(k:RL):Sp:=λvs H Q _=>∃(f:List Addr)(h:List D)(g:List D->Prop),(∀p∈f,E4 (H p))/\Reps K (mask H f) h vs/\k h g /\
 ∀i p j d,bR H d->H p=none->d p=some (.lst j)->Reps K (mask d (p::f)) i j->g i->Q (.ref p) d
def Kl(f:RL)(t:AT):FT:=λg Q=>t g λd=>f d Q
def aAb{k:Nat}{f:Addr}{pn}(F:dS X.prog X.w X.K X.mg X.base hX k f fd pn (kU X.K sp))(W:X.mg x=some (.ref f))(hk:iD X.K (.ref f)=true)(U:sS X.K fd pn [])
  (Y:Room k X.A) (u:wN X (e::I) t) (L:∀{G},PA X (e::I) G->PE X (.Call (.Name x p) (e::I) [] pos) (NB (kU X.K sp) [] E0 G)):OQ X (.Call (.Name x p) (e::I) [] pos) (Kl sp t):=by
 obtain⟨v,J,N⟩:=u;refine⟨_,L J,λB E H j i T Q r o h k=>N B E H j i T _ _ o h λs S n d M q1=>?_⟩;show kU X.K sp (S++[]) n r E0;rw[fS];exact⟨j,s,Q,(o.grow d).live,M,q1,λR p g m P y z O q=>k R p g m (d.trans P) (bR.free' d y) z O q⟩
def Fh{K}{mg:Str->Option Value}{st}{f:Addr}{N pn:List Str}{k:Nat}{o:RL}(F:RD K x qual st f fd)(S:bX N pn (bA st))
  (j:∀{i}{A:d0}{outer}{s:Shared}{H E},Room k (A.deeper (aq qual (bA st) s.heap.objs.size f i))->N.Nodup->∀(g:List D)(Q:List D->Prop),o g Q ->
   ∃t,sJ (AE hX P w K mg base N qual (bA st) f i A outer s H E).nox (mK st) t/\t { nx:=λ_=>False,rt:=λ_=>False,ro:=Q } (mM N g)) (len:autoParam (∀g Q,o g Q->g.length=pn.length) zzm._auto_1):dS P w K mg base hX (k+1) f fd pn (kU K o):=by
 refine F.ok S (λvs H Q E h=>?_) λi A outer s H vs Q E z h=>?_
 ·obtain⟨n,g,m,_,r,q,_⟩:=h;rw[<- r.length];exact len g m q
 ·obtain⟨n,g,m,live,r,q,k⟩:=h;obtain⟨t,⟨u,p,J⟩,h⟩:=j z S.nd g m q;exact⟨u,p,J H n H n _ _ _ _ (tZ live r) h ⟨λ_ _ _ _ _ _ d=>d.elim,λ_ _ _ _ _ _ d=>d.elim,λ_ _ _ _ _ _ d=>d.elim,λ_ _ _ _ _ d=>d.elim,λu p O v M y R B L d=>k u p O v M y B L d,λ_ _ _ _ _ _ _ _ _ _ _ _ _ _ _ _ _ _ d=>d.elim,λ_ _ _ _ _ _ _ _ _ _ _ _ _ _ d=>d.elim,i6⟩⟩
def SM(i:Nat)(t:FT):sZ:=λf d=>t d λg=>f.nx (d.set i (.own g))
def PL{i:Nat}{t:FT}{v:TE}(r:∀B m H g d k (Q:List D->Prop)(y:VK),Ok X.K B m H g d k->t d Q ->
   (∀n p u j,bR H j->H p=none->j p=some (.lst u)->Reps X.K (mask j (p::g)) n u->Q n->y (.ref p) j)->v k H y)
  (B:Hp) (m:List Addr) (H:Hp) (g:List Addr) (d:List Sl) (k:L2.St) (w:vO) (x:G4) (o:Ok X.K B m H g d k) (h:SM i t w d) (f:KD X.K B m H g w x):wT v (kX i) x k H:=by
 refine r B m H g d k _ _ o h λn p u j s z A E q=>?_;exact f.nx j (p::g) _ _ (o.takeOwn s z A E) (by rw[<- wQ];exact cE (rR s z)) q
def YD{i:Nat}(h:OQ X e t)(d:∀{v},PE X e v->PS X (.Assign [.Name x pos'] e pos) (wT v (kX i))):wM X (.Assign [.Name x pos'] e pos) (SM i t):=by
 obtain⟨v,p,r⟩:=h;exact⟨_,d p,PL r⟩
def Lo(t:FT):sZ:=λd f=>t f d.ro
def AU(h:OQ X e t):wM X (.Return (some e) pos) (Lo t):=by
 obtain⟨v,p,r⟩:=h;refine⟨_,yK p,λB k H m d x y A o h f=>r B k H m d x _ _ o h λu p w i s g j n q=>?_⟩;refine f.ro u p w i (o.base.trans s) (bR.free' o.base g) (λz=>jE o.live g (o.sub p z)) j (n.same (lY λq hq=>?_)) q;rcases aY.mp hq with rfl | hq
 ·exact aU ..
 ·exact aO _ (o.sub q hq)
def YT(i:Nat):sZ:=λf g=>∃d,g[i]?=some (.own d)/\f.ro d
def uS{i:Nat}(s:PE X n (sU i)):wM X (.Return (some n) pos) (YT i):=by
 refine⟨_,yK s,λB x H y u A v w o h f=>?_⟩;obtain⟨d,e,h⟩:=h;obtain⟨q,t,g,j,k,m,p,r⟩:=o.own i d e;refine⟨.ref q,g,f.ro d q t H o.base k m p (r.same (lY λz hz=>?_)) h⟩;rcases aY.mp hz with rfl | hz
 ·exact j
 ·exact o.sub z hz
def SK(c:yA)(C:sZ):sZ:=λg h=>∃P:Nat->List Sl->Prop,(∃n,P n h)/\∀n d,P n d->c d λb=>if b=true then C { g with nx:=λf=>∃m,m<n/\P m f,ct:=λf=>∃m,m<n/\P m f,bk:=g.nx } d else g.nx d
def tI{c C}(hc:GX X c tc)(Z:sJ X body C)(pw:∀{R Q},PT X c R->AH X body Q->PS X (.While c body [] pos) (R7 R Q)):wM X (.While c body [] pos) (SK tc C):=by
 obtain⟨R,pc,rc⟩:=hc;obtain⟨Q,pb,rb⟩:=Z;refine⟨_,pw pc pb,λB t H F S σ U W o h f=>?_⟩;obtain⟨P,⟨n0,Y⟩,hs⟩:=h;refine⟨λn k A=>∃g d,Ok X.K B t A g d k/\bR (mask H F) (mask A g)/\P n d,⟨n0,F,S,o,L2.bR.refl _,Y⟩,?_⟩;rintro n k A ⟨g,d,O,T,p'⟩;refine rc B t A g d k _ _ O (hs n d p') λb E J q1=>?_;have q:KD X.K B t E g U W:=(f.later T).later (cE J);have w:bR (mask H F) (mask E g):=T.trans (cE J)
 cases b with
 |true=>
  rw[a7 rfl]at q1 |-
  refine⟨λy L=>∃m,m<n/\∃u p,Ok X.K B t L u p y/\bR (mask H F) (mask L u)/\P m p,λy L z=>z,?_⟩;exact rb B t E g d k _ _ (O.grow J) q1 ⟨λM j i r s x ⟨m,N,v⟩=>⟨m,N,j,i,s,w.trans x,v⟩,λM j i r s x v=>q.nx M j i r s x v,λM j i r s x ⟨m,N,v⟩=>⟨m,N,j,i,s,w.trans x,v⟩,q.rt,q.ro,q.rp,q.rq,q.xb⟩
 |false=>
  rw[a6 Ey]at q1 |-
  exact q.nx E g d k (O.grow J) (L2.bR.refl _) q1
def Kb(i:Nat)(g:GT):sZ:=λj h=>∃f d,h[i]?=some (.own (f++[d]))/\g d (h.set i (.own f)) j.nx
def Zw{i:Nat}(U:PE X n (sU i))(v:KL X tg g)
  (A:∀{k},PG X tg k->PS X (.Assign [tg] (.Call (.Attribute n "pop" ap) [] [] cp) pos) (wT (Hz X.K "list" Hw (sU i)) k)):wM X (.Assign [tg] (.Call (.Attribute n "pop" ap) [] [] cp) pos) (Kb i g):=by
 obtain⟨k,pg,L⟩:=v;refine⟨_,A pg,λB z H j P N Q R o h f=>?_⟩;obtain⟨M,d,e,h⟩:=h;obtain⟨q,W,m,t,S,T,p,u⟩:=o.own i _ e;obtain⟨ys,y,rfl,F,J⟩:=u.snoc;refine⟨.ref q,m,.inl ⟨Fc,_,lU.of p⟩,q,ys++[y],y,Fc,Fc,p,Fa,?_⟩;rw[List.dropLast_concat];have x:=o.write (us:=M) (ys:=ys) e m F;have r:mask (gG H q (.lst ys)) j=mask H j:=jU t;refine L B z _ j _ N d y _ _ x (by rw[r];exact J) h λs O w _ E=>f.nx _ j _ _ w (by rw[r];exact L2.bR.refl _) E
def Gr(i j k:Nat):GT:=λd f Q=>∃a b c,d=.tuple [a,b,c]/\Q (((f.set i (.val a)).set j (.val b)).set k (.val c))
def rD{i j k:Nat}(h:PG X t (Z9 X.K 3 (vK (kX i) (vK (kX j) (vK (kX k) F2))))):KL X t (Gr i j k):=
 ⟨_,h,λB u H w q x d v Q s o r h k=>by
  obtain⟨a,b,c,rfl,h⟩:=h
  cases r with
  |@tuple p xs _ hq r=>
   cases r with
   |cons f r=>
    cases r with
    |cons g r=>
     cases r with
     |cons m r=>
      cases r;exact⟨_,_,Fc,bR.seqT bZ hq,Fc,_,_,Fc,_,_,Fc,_,_,Fc,Fc,k _ _ (((o.set f).set g).set m) (λn=>kP (kP (kP n _ _) _ _) _ _) h⟩⟩
def Lp(l:ET)(g:GT):sZ:=λh f=>l f λd=>g d f h.nx
def NG(s:iM X e l)(t:KL X tg g)(w:∀{v j},PE X e v->PG X tg j->PS X (.Assign [tg] e pos) (wT v j)):wM X (.Assign [tg] e pos) (Lp l g):=by
 obtain⟨v,y,re⟩:=s;obtain⟨j,pg,E⟩:=t;refine⟨_,w y pg,λB n H k i q J K o h f=>re B n H k i q _ _ o h λd x m p A q1=>?_⟩;exact E B n m k i q d x _ _ (o.grow p) A q1 λr F u _ z=>f.nx m k _ _ u (cE p) z
def Nj(c:yA)(G C:ET):ET:=λd Q=>c d λb=>if b=true then G d Q else C d Q
def CH(w:GX X c tc)(t:iM X a G)(u:iM X b C):iM X (.IfExp c a b pos) (Nj tc G C):=by
 obtain⟨M,z,F⟩:=w;obtain⟨K,x,A⟩:=t;obtain⟨L,y,E⟩:=u;refine⟨_,TR z x y,λB j H m f r Q J o h k=>F B j H m f r _ _ o h λd s g q1=>?_⟩
 cases d with
 |true=>
  rw[a7 rfl]at q1 |-
  exact A B j s m f r Q _ (o.grow g) q1 λd v i q p n=>k d v i (g.trans q) p n
 |false=>
  rw[a6 Ey]at q1 |-
  exact E B j s m f r Q _ (o.grow g) q1 λd v i q p n=>k d v i (g.trans q) p n
end
end TL
namespace L2
open PySem.SeqAt
open AutoSeq1 (wpAny_loadPart')
section
variable{X:Cx}{d:List (Addr×Obj)}{g:St}{H:Hp}{s:Shared}{p:Addr}
def eG.retold(I:eG X d g H s)(h:H p=some u)(nt:∀f,u≠.tup f)(k:∀o v,u≠.frz o v)(nb:∀j,u≠.tbl j)(t:∀a,u≠.own a)(new:jY X.prog X.w (gG H p u') s.heap p u'):eG X d g (gG H p u') s:=by
 have ne:∀b v,H b=some v->v≠u->gG H p u' b=some v:=λb v e r=>by
  rw[cO λz=>by rw[z,h]at e;exact r (c5 e).symm];exact e
 have fin:=I.step (h':=s.heap) (H':=gG H p u') (g':=s.gens) (t':=s.toks) (d':=s.drawn) (ch:=[]) (λb i=>by cases i) (λb o _ _ _ e _=>e) (λb o _ _ _ e _=>⟨o.slots,e⟩)
  (λb o _ e n=>by rw[cO λz=>by rw[z,h]at n;cases n];exact n) (λb o _ e=>⟨o,e⟩) (λb f e=>ne _ _ e (λz=>nt f z.symm)) (λb o v e=>ne _ _ e (λz=>k o v z.symm))
  (λb j e=>⟨#[],by rw[ne _ _ e (λz=>nb j z.symm)];simp⟩) (λm l=>l) (λb v e=>?_) I.bare
 ·exact fin
 ·by_cases i:b=p
  ·subst i;rw[cW]at e;cases e;exact new
  ·rw[cO i]at e;exact(I.hok b v e).stay (λc w _ q=>q) (λc q=>ne _ _ q λz=>t b z.symm) (λc f q=>ne _ _ q λz=>nt f z.symm) λc ob y q=>ne _ _ q λz=>k ob y z.symm
def JC{p:Addr}:∀a b:Heap,TL.pE p a->(∀o,a.get? p=some o->b.get? p=some o)->TL.pE p b:=λa b ⟨c,n,e,r⟩ k=>⟨c,n,k _ e,r⟩
def eG.openNums(I:eG X d g H s)(h:H p=some (.ext (TL.pE p))):∃ns:List Int,ns.length<=1000/\(∀i∈ns,0<=i/\i<4096)/\eG X d g (gG H p (.lst (ns.map V.int))) s:=by
 obtain⟨⟨b,n,e,l,c⟩,_⟩:=I.hok p _ h
 have all:∀b:List Value,(∀v∈b,∃(i:Int)(t:Tok),v=.int i t/\0<=i/\i<4096)->∃ns:List Int,ns.length=b.length/\(∀i∈ns,0<=i/\i<4096)/\gM (ns.map V.int) b:=λb=>by
  induction b with
  |nil=>exactλ_=>⟨[],Fc,λi r=>by simp at r,.nil⟩
  |cons v b y=>
   intro c;obtain⟨i,t,rfl,m,q⟩:=c v (aU ..);obtain⟨ns,l,f,k⟩:=y λu x=>c u (aO _ x);refine⟨i::ns,by simp[l],λj hj=>?_,.cons ⟨t,Fc⟩ k⟩;rcases aY.mp hj with rfl | hj
   ·exact⟨m,q⟩
   ·exact f j hj
 obtain⟨ns,w,f,k⟩:=all b c;refine⟨ns,Ez,f,I.retold h (λC z=>by cases z) (λo v z=>by cases z) (λB z=>by cases z) (λa z=>by cases z) ⟨?_,b,n,k,e⟩⟩;rw[aC];have A:bO=2^24:=rfl;lia
def eG.closeNums{ns:List Int}(I:eG X d g H s)(h:H p=some (.lst (ns.map V.int)))(w:ns.length<=1000)(q:∀i∈ns,0<=i/\i<4096):eG X d g (gG H p (.ext (TL.pE p))) s:=by
 obtain⟨z,f,n,r,e⟩:=I.hok p _ h;have b:=r.length;rw[aC]at b
 have j:∀v∈f,∃(i:Int)(t:Tok),v=.int i t/\0<=i/\i<4096:=λv j=>by
  obtain⟨k,hk⟩:=bP j;have c:k<ns.length:=by rw[b];exact(aE.mp hk).1
  obtain⟨u,l,t,m⟩:=r.get (i:=k) (x:=.int ns[k]) (by rw[aI,aD c];rfl);rw[hk]at l;cases l;exact⟨_,t,m,q _ (fK c)⟩
 exact I.retold h (λA z=>by cases z) (λo v z=>by cases z) (λy z=>by cases z) (λa z=>by cases z) ⟨⟨f,n,e,Ez,j⟩,⟨_,e⟩,JC⟩
def Ly(p:Addr)(t:TS):TS:=λD g H=>H p=some (.ext (TL.pE p))/\∀ns:List Int,ns.length<=1000->(∀i∈ns,0<=i/\i<4096) ->
 t { nx:=λc b=>∃a:List Int,b p=some (.lst (a.map V.int))/\a.length<=1000/\(∀i∈a,0<=i/\i<4096)/\D.nx c (gG b p (.ext (TL.pE p))),rt:=λv b=>∃a:List Int,b p=some (.lst (a.map V.int))/\a.length<=1000/\(∀i∈a,0<=i/\i<4096)/\D.rt v (gG b p (.ext (TL.pE p))) } g (gG H p (.lst (ns.map V.int)))
def S5(p:Addr)(h:AH X sts t):AH X sts (Ly p t):=by
 intro d s g H D I ⟨o,l⟩;obtain⟨ns,m,n,k⟩:=I.openNums o;refine jR (h d s g _ _ k (l ns m n)) λf x q=>?_
 cases f with
 |next=>
  obtain⟨a,j,b,w,e,c,i,q⟩:=q;exact⟨a,_,b.closeNums e c i,q⟩
 |ret u=>
  obtain⟨v,a,j,b,r,w,e,c,i,q⟩:=q;exact⟨v,a,_,b.closeNums e c i,r,q⟩
 |brk=>obtain⟨_,_,_,q⟩:=q;exact q.elim
 |cont=>obtain⟨_,_,_,q⟩:=q;exact q.elim
def TX(h:PE X e te):PE X e (λg H Q=>te g H λv a=>∃(p:Addr)(ns:List Int),v=.ref p/\a p=some (.lst (ns.map V.int))/\ns.length<=1000/\(∀i∈ns,0<=i/\i<4096)/\Q (.ref p) (gG a p (.ext (TL.pE p)))):=by
 intro d s g H Q I j;refine jR (h d s g H _ I j) λu l k=>?_;obtain⟨v,a,b,r,q⟩:=k;obtain⟨p,ns,rfl,e,c,f,q⟩:=q;exact⟨.ref p,_,b.closeNums e c f,r,q⟩
end
def L7(l:Addr)(c:Array Value)(n:Nat)(b:Addr)(a:Array Value)(p:Nat)(k:Option Addr)(q:Array (Option Value))(o:¬(!c.isEmpty&&u4 (c.size+a.size))=true)(e:c.size<=bO)(f:c.size+a.size<=bO+1) :
  Meets (l9.«list.extend» ⟨[.ref l,.ref b],[]⟩) (λ_ R s=>s.heap.get? l=some { cls:=.type "list",dict:=none,data:=.seq c n,slots:=#[] }/\s.heap.get? b=some { cls:=.type "list",dict:=k,data:=.seq a p,slots:=q }/\R (.ok (.ret d8)) { s with heap:=s.heap.update l (c9 λx=>x++a),toks:=s.toks }):=
 .of_wp λprog w A R s h=>by
  obtain⟨v,g,d,y,os⟩:=s;obtain⟨j,m,h⟩:=h;have f1:=AutoSeq1.idx_int;have f2:=AutoSeq1.sub_tuple_tuple;have r:=AutoSeq1.sub_list_list;have t:=AutoSeq1.sub_tuple_list;have u:=AutoSeq1.sub_list_tuple;have i:(c++a).size<=bO+1:=by rw[RU];exact f
  wp_walk using(aa j Fc (hz:=e) (_hz':=i)),ce j,ce m
  exact⟨_,Fc,h⟩
section
variable{X:Cx}
def Ll(K:aM):V->List V->Hp->VK->Prop:=λx vs H Q=>∃l b a c,x=.ref l/\vs=[.ref b]/\H l=some (.lst a)/\lU K H b c/\a.length+c.length<=bO/\Q .non (gG H l (.lst (a++c)))
def F7:Ij X "list.extend" (Ll X.K):=by
 intro j s T H x vs v O Q I J G h;obtain⟨l,b,P,S,rfl,rfl,i,p,M,q⟩:=h;cases J;obtain⟨u,rfl,E⟩:=G.one;cases E;obtain⟨z,c,n,r,L,e⟩:=I.lstM i;obtain⟨a,k,⟨o,A,m,t,w,hd⟩,R⟩:=I.list p;have y:=k.length;have f:c.toArray.size+a.toArray.size<=bO:=by rw[bJ,bJ];lia
 have d:¬(!c.toArray.isEmpty&&u4 (c.toArray.size+a.toArray.size))=true:=by
  rw[UE f,Bool.and_false];exact bN
 obtain⟨N,B,C,g⟩:=o;cases t;cases hd;refine br F.slot_list_extend ⟨_,e,Fc⟩ F.entry_list_extend (F.args_list_extend_2 _ _) (L7 l c.toArray n b a.toArray A B g d (by rw[bJ];lia) Ez) ⟨e,m,?_⟩;refine⟨.non,_,I.lset (its':=c++a) i e Fa (r.append k) ?_,Fc,q⟩;rw[bH];lia
end
end L2
namespace TL
open L2
section
variable{X:Cx}{b e:Expr}{c a:ET}{pos:Pos}
def SN(i:Nat)(a:ET):sZ:=λj h=>∃f,h[i]?=some (.own f)/\a h λd=>∃g,d=.list g/\f.length+g.length<=100000/\j.nx (h.set i (.own (f++g)))
def FN{i:Nat}{e a}(P:PE X n (sU i))(A:iM X e a)(hs:autoParam (cD [e] X.env=(false,eval e X.env)::cD [] X.env) zzz._auto_1)
  (pb:∀{c},PA X [e] c->PS X (.Expr (.Call (.Attribute n "extend" ap) [e] [] cp) pos) (R9 (Ff X.K "list" (Ll X.K) (sU i) c))):wM X (.Expr (.Call (.Attribute n "extend" ap) [e] [] cp) pos) (SN i a):=by
 obtain⟨v,p,r⟩:=A;refine⟨_,pb (jC p lD hs),λB G H k l w L M o h f=>?_⟩;obtain⟨u,e,h⟩:=h;obtain⟨q,j,m,z,N,O,s,t⟩:=o.own i u e;refine⟨.ref q,m,.inl ⟨Fc,j,lU.of s⟩,r B G H k l w _ _ o h λd x y g I q1=>?_⟩;obtain⟨J,rfl,E,q1⟩:=q1;have F:=o.grow g
 cases I with
 |@list p2 zs _ hq rs=>
  refine⟨q,p2,j,zs,Fc,Fc,g _ _ s,L2.bR.seq bZ hq,xG (by rw[<- t.length,<- rs.length];exact E),?_⟩;have C:Reps X.K (mask y k) (u++J) (j++zs):=(t.same (cE g)).append rs;exact f.nx _ k _ w (F.write (ys:=j++zs) e m C) ((cE g).trans (by rw[jU z];exact L2.bR.refl _)) q1
def Pw(t:FT):ET:=λf Q=>t f λd=>∃ns:List Int,d=ns.map aP/\ns.length<=1000/\(∀i∈ns,0<=i/\i<4096)/\Q (.dict [])
def aAe(h:OQ X e t):iM X e (Pw t):=by
 obtain⟨v,p,r⟩:=h;refine⟨_,TX p,λB m H n f x Q A o h k=>r B m H n f x _ _ o h λC p E y s g l w q=>?_⟩;obtain⟨ns,rfl,i,j,q⟩:=q;have e:=qY w;subst e;refine⟨p,ns,Fc,l,i,j,k (.dict []) _ _ (λb u d=>?_) (.wild (nB (jE o.live g) cW)) q⟩;rw[cO λz=>by rw[z,g]at d;cases d];exact s b u d
def pI{K}{mg:Str->Option Value}{k:Nat}{f:Addr}{pn}:dS P w K mg base hX k f fd pn (cG K λ_ _=>False):=
 ⟨λvs H Q E ⟨_,_,_,_,_,h,_⟩=>h.elim,λA outer s H d g vs Q E _ _ _ _ ⟨_,_,_,_,_,h,_⟩=>h.elim⟩
def wA{K}{mg:Str->Option Value}{k:Nat}{f:Addr}{pn}{j g:kQ}(F:dS P w K mg base hX k f fd pn (cG K j))(h:∀d Q,g d Q->j d Q):dS P w K mg base hX k f fd pn (cG K g):=
 F.imp λvs H Q E ⟨p,d,i,l,m,n,o⟩=>⟨p,d,i,l,m,h d i n,o⟩
def Ow(d:D)(Q:D->Prop):Prop:=∃ns:List Int,d=.list (ns.map aP)/\ns≠[]/\∀m,m∈ns->(∀n∈ns,n<=m)->Q (.int m)
end
end TL
namespace L2
section
variable{X:Cx}
def qJ(P:X.calm=true):kO X (.builtin "max") (λN H Q=>∃(p:Addr)(ns:List Int),N=[.ref p]/\lU X.K H p (ns.map V.int)/\ns≠[]/\∀m,m∈ns->(∀n∈ns,n<=m)->Q (.int m) H):=by
 intro J s σ H N us Q I r h;obtain⟨p,ns,rfl,T,k,q⟩:=h;obtain⟨u,rfl,W⟩:=oB r;cases W;obtain⟨a,M,L,Z⟩:=I.list T;have g:=M.length;rw[aC]at g;have F:0<ns.length:=List.length_pos_iff.mpr k
 have B:p≠s.heap.objs.size:=by
  obtain⟨o,C,_⟩:=L.isList;exact bS (bF C)
 have f:=L.isList
 have l:p<s.heap.objs.size:=by
  obtain⟨o,C,_⟩:=f;exact bF C
 have c:∀(i:Nat)(v:Value),a.toArray[i]?=some v->∃t,v=.int ((ns[i]?).getD 0) t:=λi v w=>by
  have G:a[i]?=some v:=by simpa using w
  have y:i<a.length:=(aE.mp G).1;have d:i<ns.length:=by lia
  obtain⟨w',E,O⟩:=M.get (i:=i) (x:=.int ns[i]) (by rw[aI,aD d];rfl);rw[G]at E;cases E;rw[aD d];exact O
 refine call_max_walk (v9 f ?_);refine⟨_,_,_,_,_,_,_,Fc,Walks.list (A:=X.A.in1) (I.ok.hd P) _ p B a.toArray,⟨⟨_,aW _ Fc,Fc,Fc⟩,f.push _⟩,λb d=>?_,by rw[bJ];lia,CmpOf.ints_gt (λi=>(ns[i]?).getD 0) c,λv Y tk w hk=>?_⟩
 ·show b<(s.heap.push _).objs.size;rw[eV];have:b=s.heap.objs.size\/b=p:=by simpa using d
  rcases this with rfl | rfl
  ·exact fA _
  ·exact fB l
 ·obtain⟨t,rfl⟩:=c _ _ w;have d:=argBest_gt (λi=>(ns[i]?).getD 0) (a.toArray.size-1);have U:a.toArray.size=ns.length:=by rw[bJ];lia
  have y:argBest (λi j=>decide ((ns[i]?).getD 0>(ns[j]?).getD 0)) (a.toArray.size-1)<ns.length:=by have:=d.1;lia
  refine⟨.int _,H,I.kept λb o e=>hk b o ?_ (aJ _ e),⟨t,Fc⟩,q _ ?_ λn S=>?_⟩
  ·intro z;have:b=s.heap.objs.size:=by simpa using z
   exact a9 (bF e) (by rw[this];exact iV _)
  ·rw[aD y];exact fK y
  ·obtain⟨j,R,rfl⟩:=OZ.mp S;have:=d.2 j Ez;rw[aD R]at this;exact this
def Qa(_ j:Int):Prop:=0<j/\j<2^200
def IU:oU X (m3 .FloorDiv) (rI Qa λi j=>.int (i / j)):=Fx λi j _ _ _ _ _ a q=>by
 have c:(0:Int)<j:=a.1;have d:j<2^200:=a.2;have b:j.natAbs<2^200:=by lia
 have e:j.natAbs.log2<200:=(Nat.log2_lt Ez).mpr b;exact floordiv_int Ez (by rw[HC i Ez];exact q) (.inl (PyProof.noPylong_of_log2 Ez))
end
end L2
namespace TL
open L2
section
variable{X:Cx}{e:Expr}{pos:Pos}
theorem CA{K}:∀ns:List Int,Reps K H (ns.map aP) (ns.map V.int)
|[]=>.nil
|n::ns=>.cons (.int n) (CA ns)
theorem JP:∀ns:List Int,dO (ns.map aP)=true
|[]=>rfl
|n::ns=>JP ns
def YU(i:Nat):sZ:=λa b=>b[i]?=some (.val (.dict []))/\∀n:Int,0<=n->n<4096->a.rt (.int n)
def PD{k:Nat}(S:Room k X.A){i:Nat}{j:Nat}(t:PE X n1 (sU i))(Q:PE X (.Call (.Attribute n2 "pop" ap) [] [] cp) (Hz X.K "list" Hw (sU i))) :
  sJ X [.If (.Compare n1 [.Eq] [.List [] p2] p1) [.Return (some (.Constant (.int 0) j p3)) p4] [] p5,.Return (some (.Call (.Attribute n2 "pop" ap) [] [] cp)) p6] (YU i):=by
 have pt:AH X _ _:=BX (Lj (pos:=p5) (FX (pos:=p1) (Yz S) t (LD (pos:=p2) lD) Fc) (FY (yK (pos:=p4) (yL (i:=0) (j:=j) (pos:=p3)))) FZ) (FY (yK (pos:=p6) Q));refine⟨λD E H=>∃p,Ly p _ D E H,λC s E H D I ⟨p,h⟩=>S5 p pt C s E H D I h,λB Z H ps U E W N o h f=>?_⟩;obtain⟨e,h⟩:=h;obtain⟨v,L,r⟩:=o.val i _ e
 cases r with
 |@wild p hw=>
  have J:H p=some (.ext (pE p)):=bZ _ _ hw;refine⟨p,J,λns P G=>?_⟩;have Y:bO=2^24:=rfl;refine⟨.ref p,L,cI _,λm a=>⟨.list (ns.map aP),.list [],?_,?_,⟨JP ns,Fc,by show min _ 1<=60;lia⟩,_,Fc,?_⟩⟩
  ·exact .list (lU.of ((cO λz=>by rw[<- z,cW]at a;cases a).trans cW)) (CA ns)
  ·exact .list (lU.of cW) .nil
  have c:p≠m:=λz=>by rw[<- z,cW]at a;cases a
  have d:H m=none:=by rw[cO λz=>c z.symm]at a;exact a
  have fin:∀(u w M:HO)(n:Int),0<=n->n<4096->N.rt (.int n) (gG (gG (gG (gG H p u) m w) p M) p (.ext (pE p))):=λu w M n F t=>by
   refine f.rt (.int n) _ _ (λq x R=>?_) (.int n) (h n F t);have b:=o.base _ _ R;by_cases z:q=p
   ·rw[z,J]at b;rw[z,cW];exact b
   ·have T:q≠m:=λe=>by rw[e,d]at b;cases b
    rw[cO z,cO z,cO T,cO z];exact b
  have again:∀(u w:HO),gG (gG (gG H p u) m w) p u=gG (gG H p u) m w:=λu w=>by
   funext q;by_cases z:q=p
   ·rw[z,cW,cO c,cW]
   ·rw[cO z]
  cases ns with
  |nil=>
   show(if true=true then _ else _);rw[a7 rfl];refine⟨[],by rw[cO c,cW],P,G,?_⟩;have:=fin (.lst ([].map V.int)) (.lst []) (.lst ([].map V.int)) 0 Ey Ey;rw[again]at this;exact this
  |cons n ns=>
   show(if false=true then _ else _);rw[a6 Ey];have y:gG (gG H p (.lst ((n::ns).map V.int))) m (.lst []) p=some (.lst ((n::ns).map V.int)):=by rw[cO c,cW]
   have g:((n::ns).map V.int)[((n::ns).map V.int).length-1]?=some (.int ((n::ns).getLast Fa)):=by
    rw[aC,aI,aD Fa,List.getLast_eq_getElem];rfl
   obtain⟨F,t⟩:=G _ (XQ (l:=n::ns) Fa);refine⟨.ref p,L,.inl ⟨Fc,_,lU.of y⟩,p,(n::ns).map V.int,_,Fc,Fc,y,g,(n::ns).dropLast,?_,?_,λi O=>G i (List.dropLast_subset _ O),fin _ _ _ _ F t⟩
   ·rw[cW,List.map_dropLast]
   ·rw[O0];lia
def WL:uI X (λf H Q=>∃(p:Addr)(ns:List Int),f=[.ref p]/\lU X.K H p (ns.map V.int)/\ns≠[]/\∀m,m∈ns->(∀n∈ns,n<=m)->Q (.int m) H) (f1 Ow):=c1 λH i d x Q g live r h k=>by
 obtain⟨ns,rfl,a,h⟩:=h
 cases r with
 |list q s=>
  have e:=qY s;subst e;exact⟨_,ns,Fc,L2.bR.seq bZ q,a,λm b c=>k _ _ H (L2.bR.refl H) (.int _) (h m b c)⟩
end
def Ok.setUn{K}{dn:List Sl}{σ:L2.St}(o:Ok K B p0 H ps dn σ){i:Nat}:Ok K B p0 H ps (dn.set i .un) (σ.set i (some v)) where
 base:=o.base
 sub:=o.sub
 live:=o.live
 len:=by simpa using o.len
 val:=λj d' h=>by
  by_cases e:i=j
  ·subst e
   have hi:i<dn.length:=by
    have:=(aE.mp h).1;simpa using this
   rw[bK hi]at h;cases h
  ·rw[bI e]at h |-
   exact o.val j d' h
 own:=λj ts h=>by
  by_cases e:i=j
  ·subst e
   have hi:i<dn.length:=by
    have:=(aE.mp h).1;simpa using this
   rw[bK hi]at h;cases h
  ·rw[bI e]at h |-
   exact o.own j ts h
 dis:=λj k ts us p h1 h2 h3 h4=>by
  have ne:∀{l:Nat}{ts:List D},(dn.set i .un)[l]?=some (.own ts)->i≠l:=λ{l ts} h e=>by
   subst e
   have hi:i<dn.length:=by
    have:=(aE.mp h).1;simpa using this
   rw[bK hi]at h;cases h
  have e1:=ne h1;have e2:=ne h2;rw[bI e1]at h1 h3;rw[bI e2]at h2 h4;exact o.dis j k ts us p h1 h2 h3 h4
 dc:=o.dc.setS λ_ _ z=>nomatch z
section
variable{X:Cx}{e:Expr}{a:List Expr}{b c:ET}{pos:Pos}
abbrev Ig:=List Sl->(List D->List D->Prop)->Prop
def Ih(X:Cx)(e:Expr)(t:Ig):Prop:=∃c:TE,PE X e c/\∀B p0 H ps dn σ (Q:List D->List D->Prop)(f:VK),Ok X.K B p0 H ps dn σ->t dn Q ->
 (∀g bs r p q h i d,bR H d->H r=none->H p=none->H q=none->p≠q->d r=some (.tup [.ref p,.ref q])->d p=some (.lst h)->d q=some (.lst i)->Reps X.K (mask d (p::q::ps)) g h->Reps X.K (mask d (p::q::ps)) bs i->Q g bs->f (.ref r) d)->c σ H f
abbrev Gc:=List D->(List D->List D->Prop)->Prop
def uV(K:aM)(l:Gc):Sp:=λvs H Q _=>∃(f:List Addr)(i:List D)(g:List D->List D->Prop),(∀p∈f,E4 (H p))/\Reps K (mask H f) i vs/\l i g /\
 ∀h bs r p q j k d,bR H d->H r=none->H p=none->H q=none->p≠q->d r=some (.tup [.ref p,.ref q])->d p=some (.lst j)->d q=some (.lst k)->Reps K (mask d (p::q::f)) h j->Reps K (mask d (p::q::f)) bs k->g h bs->Q (.ref r) d
def Lh(f:Gc)(t:AT):Ig:=λg Q=>t g λd=>f d Q
def TB{k:Nat}{f:Addr}{pn}(F:dS X.prog X.w X.K X.mg X.base hX k f fd pn (uV X.K sp))(Z:X.mg x=some (.ref f))(hk:iD X.K (.ref f)=true)(Y:sS X.K fd pn [])
  (hr:Room k X.A) (M:wN X (e::a) t) (P:∀{b},PA X (e::a) b->PE X (.Call (.Name x p) (e::a) [] pos) (NB (uV X.K sp) [] E0 b)):Ih X (.Call (.Name x p) (e::a) [] pos) (Lh sp t):=by
 obtain⟨v,O,g⟩:=M;refine⟨_,P O,λB N H l j W Q s o h k=>g B N H l j W _ _ o h λy i n d R q1=>?_⟩;show uV X.K sp (i++[]) n s E0;rw[fS];exact⟨l,y,Q,(o.grow d).live,R,q1,λu bs r p q i U m T z C E G I J L g S q=>k u bs r p _ i U m (d.trans T) (bR.free' d z) (bR.free' d C) (bR.free' d E) G I J L g S q⟩
def Nb{K}{mg:Str->Option Value}{st}{f:Addr}{N pn:List Str}{k:Nat}{n:Gc}(F:RD K x qual st f fd)(S:bX N pn (bA st))
  (j:∀{i}{A:d0}{outer}{s:Shared}{H E},Room k (A.deeper (aq qual (bA st) s.heap.objs.size f i))->N.Nodup->∀(g:List D)(Q:List D->List D->Prop),n g Q ->
   ∃t,sJ (AE hX P w K mg base N qual (bA st) f i A outer s H E).nox (mK st) t/\t { nx:=λ_=>False,rt:=λ_=>False,rp:=Q } (mM N g)) (len:autoParam (∀g Q,n g Q->g.length=pn.length) zzm._auto_1):dS P w K mg base hX (k+1) f fd pn (uV K n):=by
 refine F.ok S (λvs H Q E h=>?_) λi A outer s H vs Q E J h=>?_
 ·obtain⟨m,g,l,_,r,q,_⟩:=h;rw[<- r.length];exact len g l q
 ·obtain⟨m,g,l,live,r,q,k⟩:=h;obtain⟨t,⟨T,p,O⟩,h⟩:=j J S.nd g l q;exact⟨T,p,O H m H m _ _ _ _ (tZ live r) h ⟨λ_ _ _ _ _ _ d=>d.elim,λ_ _ _ _ _ _ d=>d.elim,λ_ _ _ _ _ _ d=>d.elim,λ_ _ _ _ _ d=>d.elim,λ_ _ _ _ _ _ _ _ _ d=>d.elim,λu bs r p q U W o R v y z B C G I L M d=>k u bs r p q U W o R v y z B C G I L M d,λ_ _ _ _ _ _ _ _ _ _ _ _ _ _ d=>d.elim,i6⟩⟩
def Nh(t:Ig):ET:=λf Q=>t f λd bs=>Q (.tuple [.list d,.list bs])
def V7(h:Ih X e t):iM X e (Nh t):=by
 obtain⟨v,p,r⟩:=h;refine⟨_,p,λB y H d u F Q G o h k=>r B y H d u F _ _ o h λI bs r p q J K w E m g j x n i l A C q1=>?_⟩;have f:∀{z:Addr},H z=none->z∉d:=λs=>jE o.live s;have sub:∀z∈d,z∈p::q::d:=λz s=>aO _ (aO _ s);exact k _ _ w E (.tuple (rO.of (nB (f m) n)) (.cons (.list (lU.of (nB (f g) i)) (A.same (lY sub))) (.cons (.list (lU.of (nB (f j) l)) (C.same (lY sub))) .nil))) q1
end
end TL
namespace L2
open PySem.SeqAt
section
variable{X:Cx}
theorem tX(ns:List Int):∀k:Nat,preSum (λi=>(ns[i]?).getD 0) k=(ns.take k).sum
|0=>rfl
|k+1=>by
 show preSum _ k+(ns[k]?).getD 0=_;rw[tX ns k,cU,DB]
 cases ns[k]? with
 |none=>simp
 |some x=>simp
theorem D0:∀ns:List Int,(∀n∈ns,0<=n/\n<2^40)->0<=ns.sum/\ns.sum<=(ns.length:Int)*2^40
|[],_=>by simp
|n::ns,h=>by
 have b:=h n (aU ..);have c:=D0 ns λx a=>h x (aO _ a);rw[iU,dB];constructor
 ·lia
 ·have:((ns.length+1:Nat):Int)*2^40=(ns.length:Int)*2^40+2^40:=by rw[fU,aNr];rfl
  lia
def DJ(R:X.calm=true):kO X (.builtin "sum") (λO H Q=>∃(p:Addr)(ns:List Int),O=[.ref p]/\lU X.K H p (ns.map V.int)/\(∀n∈ns,0<=n/\n<2^40)/\ns.length<=1000/\Q (.int ns.sum) H):=by
 intro L s σ H O us Q I r h;obtain⟨p,ns,rfl,U,m,C,q⟩:=h;obtain⟨u,rfl,W⟩:=oB r;cases W;obtain⟨a,N,M,hz⟩:=I.list U;have g:=N.length;rw[aC]at g
 have E:p≠s.heap.objs.size:=by
  obtain⟨o,F,_⟩:=M.isList;exact bS (bF F)
 have c:=M.isList
 have l:p<s.heap.objs.size:=by
  obtain⟨o,F,_⟩:=c;exact bF F
 have w:∀(i:Nat)(v:Value),a.toArray[i]?=some v->∃t,v=.int ((ns[i]?).getD 0) t:=λi v P=>by
  have J:a[i]?=some v:=by simpa using P
  have hi:i<a.length:=(aE.mp J).1;have y:i<ns.length:=by lia
  obtain⟨w',B,G⟩:=N.get (i:=i) (x:=.int ns[i]) (by rw[aI,aD y];rfl);rw[J]at B;cases B;rw[aD y];exact G
 have d:∀k:Nat,0<=(ns.take k).sum/\(ns.take k).sum<2^63:=λk=>by
  have B:=D0 (ns.take k) λn T=>m n (dY T);have G:(ns.take k).length<=1000:=by rw[aZ];lia
  have h3:((ns.take k).length:Int)*2^40<=1000*2^40:=Int.mul_le_mul_of_nonneg_right Ez Ey;lia
 refine call_sum_walk (v9 c ?_);refine⟨_,_,_,_,_,_,λi=>(ns[i]?).getD 0,Fc,Walks.list (A:=X.A.in1) (I.ok.hd R) _ p E a.toArray,⟨⟨_,aW _ Fc,Fc,Fc⟩,c.push _⟩,λb y=>?_,w,λj S=>?_,λZ tk Y hk=>?_⟩
 ·show b<(s.heap.push _).objs.size;rw[eV];have:b=s.heap.objs.size\/b=p:=by simpa using y
  rcases this with rfl | rfl
  ·exact fA _
  ·exact fB l
 ·rw[bJ]at S;have f:j<ns.length:=by lia
  refine⟨?_,?_⟩
  ·have:=m ns[j] (fK f);show InLong ((ns[j]?).getD 0);rw[aD f];show -(2^63)<=ns[j]/\ns[j]<2^63;lia
  ·rw[tX];have:=d (j+1);show -(2^63)<=_/\_<2^63;lia
 ·refine⟨.int _,H,I.kept λb o e=>hk b o ?_ (aJ _ e),⟨Y,Fc⟩,?_⟩
  ·intro z;have:b=s.heap.objs.size:=by simpa using z
   exact a9 (bF e) (by rw[this];exact iV _)
  ·rw[tX,kR (by rw[bJ];lia)];exact q
end
def CK(l:Addr)(a:Array Value) :
  Meets (l9.«enumerate.__new__» ⟨[.type "enumerate",.ref l],[]⟩) (λ_ R s=>s.heap.IsList l a /\
   R (.ok (.ret (.ref (s.heap.push { cls:=.type "list_iterator",data:=.fields #[.ref l,.int 0 0] }).objs.size)))
    { s with heap:=(s.heap.push { cls:=.type "list_iterator",data:=.fields #[.ref l,.int 0 0] }).push { cls:=.type "enumerate",data:=.fields #[.none,.bool false,.ref s.heap.objs.size,h8 0,.none,.none] } }):=
 .of_wp λprog w A R s h=>by
  obtain⟨i,g,d,j,os⟩:=s;obtain⟨f,h⟩:=h;have e:=sub_enumerate;have b:Heap.IsList (Shared.heap ⟨i,g,d,j,os⟩) l a:=f
  wp_walk
  refine wpAny_stack_any λst=>aG ?_;split
  ·rename_i c _ _ _ _ _;cases (c==j8 "enumerate")
   ·wp_walk using v9 b
    exact⟨_,Fc,h⟩
   ·wp_walk using v9 b
    exact⟨_,Fc,h⟩
  ·wp_walk using v9 b
   exact⟨_,Fc,h⟩
section
variable{P:cN}{w:c7}{A:d0}{E:Value->Shared->Prop}{s:Shared}
def AF{l:Addr}{Q:Value->Shared->Prop}(e:s.heap.IsList l items)
  (h:∀a,IsEnum a (s.heap.objs.size+1) s.heap.objs.size 0 .none->a.IsListIter s.heap.objs.size l 0->a.objs.size=s.heap.objs.size+2 ->
   (∀b o,s.heap.get? b=some o->a.get? b=some o)->Q (.ref (s.heap.objs.size+1)) { s with heap:=a }) :
  wpAny (model P w) A (call (.type "enumerate") [.ref l]) Q E s:=by
 refine callType_new F.called_enumerate Ey (F.typeCall_enumerate_1 _) (F.newCall_enumerate_1 _) (λobj=>F.args_object_init_2 obj _) F.entry_enumerate_new
  (CK l items) ⟨e,?_⟩
 have c:(s.heap.push { cls:=.type "list_iterator",data:=.fields #[.ref l,.int 0 0] }).objs.size=s.heap.objs.size+1:=eV ..;show _/\_;rw[c]
 have d:IsEnum ((s.heap.push { cls:=.type "list_iterator",data:=.fields #[.ref l,.int 0 0] }).push
   { cls:=.type "enumerate",data:=.fields #[.none,.bool false,.ref s.heap.objs.size,h8 0,.none,.none] }) (s.heap.objs.size+1) s.heap.objs.size 0 .none:=by
  have:=aW (s.heap.push { cls:=.type "list_iterator",data:=.fields #[.ref l,.int 0 0] })
   (o:={ cls:=.type "enumerate",data:=.fields #[.none,.bool false,.ref s.heap.objs.size,h8 0,.none,.none] }) Fc
  rw[c]at this;exact this
 exact⟨⟨_,d,Fc⟩,h _ d ⟨_,aJ _ (aW _ Fc),Fc,Fc⟩ (by rw[eV,c]) λb o x=>aJ _ (aJ _ x)⟩
end
noncomputable def Mo(K:aM)(a:Addr):It:=
 ⟨λi H=>∃b x,lU K H a b/\b[i]?=some x,
  λi H v c=>∃p x,H p=none/\v=.ref p/\c=gG H p (.tup [.int (i:Int),x])/\∀b,lU K H a b->b[i]?=some x,
  λi H=>∃b,lU K H a b/\b.length<=i⟩
def O7{K}{x1:Nat}{e it l:Addr}(zy:e≠it) :
  C0 P w K (.Tuple elts x1 pos) (Mo K l) [e,it] e (λi h=>(∃old,IsEnum h e it (i:Int) old)/\h.IsListIter it l i) where
 mem:=by simp
 obj:=λi h st b hb=>by
  obtain⟨⟨old,he⟩,dz⟩:=st;simp only[aY,dR,j3]at hb;rcases hb with rfl | rfl
  ·exact⟨_,he,λv q=>by cases q⟩
  ·obtain⟨o,e,c,d⟩:=dz;exact⟨o,e,λv z=>by rw[d]at z;cases z⟩
 keep:=λi h h' st k=>by
  obtain⟨⟨old,he⟩,dz⟩:=st;exact⟨⟨old,k e Fa _ he⟩,dz.at λo x=>k it Fa o x⟩
 item:=by
  intro X hP hw hK hc i pins s σ H E I hf st hg;subst hP hw hK;obtain⟨⟨old,he⟩,dz⟩:=st;obtain⟨xs,x,hq,hx⟩:=hg;obtain⟨fo,rv,p,hz⟩:=I.list hq;obtain⟨u,hu,ru⟩:=rv.get hx;refine wpAny_pyNext_enum_item he dz p.isList (x:=u) (by simpa using hu) zy λh' a1 a2 a3 a4 a5=>⟨_,Fc,?_⟩;refine wpAny_letOwnedTupleGo_enum (s:={ s with heap:=h',toks:=s.toks+1 }) a1 λh2 b1 sb=>?_;have vn:e<s.heap.objs.size:=bF he
  have kk:∀c o,c∉[e,it]->s.heap.get? c=some o->h2.get? c=some o:=λc o ej x=>by
   simp only[aY,dR,j3,tA]at ej;exact sb.extBut _ _ ej.1 (a5 c o ej.1 ej.2 x)
  have hT:=sb.extBut _ _ (fN vn) a3;have I1:eG X pins σ (gG H s.heap.objs.size (.tup [.int (i:Int),x])) { s with heap:=h2,toks:=s.toks+1 }:=I.turnedNew (t':=s.toks+1) hf kk (aN _) ⟨(by show 2<=bO;decide),[.int i s.toks,u],.cons ⟨_,Fc⟩ (.cons ru .nil),⟨_,hT,Fc,_,Fc,Fc⟩⟩;refine⟨.ref s.heap.objs.size,_,I1,Fc,⟨_,x,I.hok.fresh (aN _),Fc,Fc,λys hy=>by rw[I.list_inj hy hq];exact hx⟩,?_,λc ej=>?_⟩
  ·exact⟨⟨_,by rw[fU];exact b1⟩,a2.at λo x=>sb.extBut _ _ (l5 zy) x⟩
  ·have im:c≠s.heap.objs.size:=by
    simp only[aY,dR,j3]at ej;rcases ej with rfl | rfl
    ·exact bS vn
    ·obtain⟨o,z,_⟩:=dz;exact bS (bF z)
   rw[cO im];exact(hf c ej).1
 done:=by
  intro X hP hw hK hc i pins s σ H E I hf st hg;subst hP hw hK;obtain⟨⟨old,he⟩,dz⟩:=st;obtain⟨xs,hq,hx⟩:=hg;obtain⟨fo,rv,p,hz⟩:=I.list hq;have hl:=rv.length;refine wpAny_pyNext_enum_end (I.ok.hd hc) he dz p.isList (by simp;lia) λh' eb=>⟨Fc,I.turnedL (t':=s.toks) hf λc o ej x=>?_⟩;simp only[aY,dR,j3,tA]at ej;exact eb c o ej.2 x
 self:=λA i s Q E st h=>by
  obtain⟨⟨old,he⟩,_⟩:=st;exact ur he h
def CY:d1 "enumerate"=some (.type "enumerate"):=by decide +kernel
def Ks(K:aM)(b:TA):TI:=λd H R=>b d H λvs a=>∃l c,vs=[.ref l]/\lU K a l c/\R (Mo K l) a
section
variable{X:Cx}
def Y6{C:Nat}(t:Gl X "enumerate")(u:X.mg "enumerate"=none)(o:PA X [a] ta)(hs:autoParam (cD [a] X.env=[(false,eval a X.env)]) zzz._auto_1) :
  PI X (.Tuple elts C tpos) (.Call (.Name "enumerate" p) [a] [] pos) (Ks X.K ta):=by
 intro d s F H R I h;refine Call_ (uA I t u CY (i8 (jR (o pos d s F H _ I h) λG b E=>?_) (by rw[hs];rfl) (by rfl)));obtain⟨vs,m,f,y,q1⟩:=E;obtain⟨l,J,rfl,v,q⟩:=q1
 cases y with
 |cons r z=>
  cases z;cases r;obtain⟨B,A,p1,x⟩:=f.list v;refine AF p1.isList λn j g w hk=>ur (s:={ b with heap:=n }) j ?_;refine⟨_,[b.heap.objs.size+1,b.heap.objs.size],_,_,m,Fc,f.kept (t':=b.toks) hk,O7 (e:=b.heap.objs.size+1) (it:=b.heap.objs.size) (l:=l) (Nat.succ_ne_self _),⟨⟨_,j⟩,g⟩,λc i=>?_,q⟩;simp only[aY,dR,j3]at i;have k:b.heap.objs.size<=c:=by rcases i with rfl | rfl<;>first | exact aN _ | exact aA6 _ _
  exact f.fpOk k (f.hok.fresh k)
end
end L2
namespace TL
open L2 PySem.SeqAt
variable{K:aM}
def Hf(K:aM)(a:Addr)(c:List Str):Prop:=∃(o:Obj)(b:Array Value)(n:Nat),K.lookup a=some o/\o.cls=.type "tuple"/\o.dict=none/\o.data=.seq b n/\b.size<=bO/\gM (c.map V.str) b.toList
theorem BS:∀a:List Str,Reps K H (a.map aV) (a.map V.str)
|[]=>.nil
|y::a=>.cons (.str y) (BS a)
noncomputable def zU(a:List D):List D:=XT (eK a.length) a
def rF(a:List D):(zU a).length=a.length:=by unfold zU;rw[RW];unfold eK;simp
def yY{i:Nat}(h:as[i]?=some a):(zU as)[i]?=some (.tuple [.int (i:Int),a]):=by
 have b:=(aE.mp h).1;unfold zU XT eK;rw[aI,(qP (z:=(aP (i:Int),a))).mpr ⟨by rw[aI,iK b];rfl,h⟩];rfl
def Yg(t:AT):IT:=λc Q=>t c λb=>∃a,b=[.list a]/\Q (zU a)
section
variable{X:Cx}{a b e:Expr}{w:List Expr}{c C g:ET}{pos:Pos}
def OC{x:Str}{p:Addr}{d:List Str}{pos}(f:Gl X x)(i:X.mg x=some (.ref p))(hk:Hf X.K p d)(hd:autoParam ((x==("__debug__":Str))=false) zzy._auto_1):iM X (.Name x pos) (eC (.tuple (d.map aV))):=
 ⟨_,NU (v:=.ref p) f i Fc hd,λ_ _ H _ _ _ _ _ _ h k=>k _ _ H (L2.bR.refl H) (.tuple (.inr hk) (BS d)) h⟩
def ZY{m:Nat}(v:wN X [a] t)(I:∀{c},PA X [a] c->PI X (.Tuple elts m tpos) (.Call (.Name "enumerate" p) [a] [] p') (Ks X.K c)):KJ X (.Tuple elts m tpos) (.Call (.Name "enumerate" p) [a] [] p') (Yg t):=by
 obtain⟨U,E,L⟩:=v;refine⟨_,I E,λB A H F j O Q R o h k=>L B A H F j O _ _ o h λT W n M f q1=>?_⟩;obtain⟨S,rfl,q⟩:=q1
 cases f with
 |cons f J=>
  cases J
  cases f with
  |@list p1 us _ hq1 rs1=>
   have n1:=rs1.length;refine⟨p1,us,Fc,L2.bR.seq bZ hq1,k _ _ n M ⟨λi H e d=>?_,λi H e d=>?_,λi H G y P live e d z=>?_⟩ q⟩
   ·rw[rF]at d;exact⟨us,L2.bR.seq e hq1,Ez⟩
   ·rw[rF]at d;exact⟨us,us[i],L2.bR.seq e hq1,aD Ez⟩
   ·obtain⟨p,x,l,rfl,rfl,u⟩:=z;obtain⟨r,s,N⟩:=rs1.get' (u us (L2.bR.seq (e.trans bZ) hq1));exact⟨eX l,.tuple [.int (i:Int),r],yY s,rX live l (.cons (.int _) (.cons (N.same e) .nil))⟩
def Oy(d:D)(Q:D->Prop):Prop:=∃ns:List Int,d=.list (ns.map aP)/\(∀n∈ns,0<=n/\n<2^40)/\ns.length<=1000/\Q (.int ns.sum)
def Pr:uI X (λi H Q=>∃(p:Addr)(ns:List Int),i=[.ref p]/\lU X.K H p (ns.map V.int)/\(∀n∈ns,0<=n/\n<2^40)/\ns.length<=1000/\Q (.int ns.sum) H) (f1 Oy):=c1 λH l d x Q j live r h k=>by
 obtain⟨ns,rfl,hs,f,h⟩:=h
 cases r with
 |list q s=>
  have e:=qY s;subst e;exact⟨_,ns,Fc,L2.bR.seq bZ q,hs,f,k _ _ H (L2.bR.refl H) (.int _) h⟩
def FU(K:aM):V->List V->Hp->VK->Prop:=λx h H Q=>∃(y:V)(f:List D)(d:D)(j:Nat),h=[y]/\iP K H (.list f) x/\iP K H d y/\LH f d j/\j<1000000/\Q (.int j) H
def LM(U:X.A.units+200<u7):XF X "list.index" (FU X.K):=by
 intro M s σ H x xs v us Q I rx rv h;obtain⟨y,i,d,j,rfl,Z,r2,⟨c1,E,p,⟨t,L,R⟩,z⟩,S,q⟩:=h;obtain⟨u,rfl,ru⟩:=rv.one;obtain⟨as,O⟩:=iP.reads I (show(KM i).hasDict=false from noDictAll c1) Z rx;obtain⟨bs,P⟩:=iP.reads I (nA E) r2 ru
 cases O with
 |@list l o items n _ as' h3 h4 h5 h6=>
  have f:=je i items.toList _ c1 h6;have J:items.size=i.length:=by rw[<- f,aC,bQ]
  have T:j<i.length:=(aE.mp L).1;have G:j<items.size:=by lia
  have N:∀(m:Nat)(p:m<items.size),i[m]?=some (jd s.heap items[m]):=λm p=>by
   rw[<- f,aI];simp[p]
  obtain⟨oc,W,Y,B⟩:=o;cases h4;cases h5;refine br F.slot_list_index ⟨_,h3,Fc⟩ F.entry_list_index (F.args_list_index_2 _ _) (list_indexAt _ items _ W B u (λy=>dU (jd s.heap y) d) j G Ez ?_ ?_) ⟨h3,tf h6 P c1 E (by have:=U;lia),?_⟩
  ·have:=N j G;rw[L]at this;rw[<- c5 this];exact R
  ·intro m r k;exact z m _ k (N m r)
  ·exact⟨.int j,H,I.tok _,⟨_,Fc⟩,q⟩
def EA{k:Nat}(d:Room k X.A):XF X "list.index" (FU X.K):=LM (by have:=d.un;lia)
def GJ(g:ET)(t:AT):ET:=λh Q=>g h λd=>∃f,d=.list f/\t h λi=>∃(x:D)(j:Nat),i=[x]/\LH f x j/\j<1000000/\Q (.int j)
def EN(E:iM X n g)(z:wN X (e::w) t)
  (G:∀{v c},PE X n v->PA X (e::w) c->PE X (.Call (.Attribute n "index" ap) (e::w) [] pos) (Ff X.K "list" (FU X.K) v c)):iM X (.Call (.Attribute n "index" ap) (e::w) [] pos) (GJ g t):=by
 obtain⟨v,I,re⟩:=E;obtain⟨U,F,P⟩:=z;refine⟨_,G I F,λB i H l f s Q S o h k=>re B i H l f s _ _ o h λd x u m L q1=>?_⟩;obtain⟨R,rfl,q1⟩:=q1
 cases L with
 |@list p xs _ hq rs=>
  refine⟨.inl ⟨Fc,_,L2.bR.seq bZ hq⟩,P B i u l f s _ _ (o.grow m) q1 λT W y r M J=>?_⟩;obtain⟨d,j,rfl,hok,A,q⟩:=J
  cases M with
  |cons N O=>
   cases O;exact⟨_,R,d,j,Fc,(iP.list hq rs).same ((cE r).trans bZ),N.same bZ,hok,A,k _ _ y (m.trans r) (.int _) q⟩
def Jk(f:List D)(d:D):Prop:=dO f=true/\d.canLay0=true/\min (dJ f) d.depth<=60
def FV(K:aM):V->List V->Hp->VK->Prop:=λx h H Q=>∃(y:V)(f:List D)(d:D),h=[y]/\iP K H (.list f) x/\iP K H d y/\Jk f d/\Q (.int ((f.countP λt=>dU t d:Nat):Int)) H
def LN(z:X.A.units+200<u7):XF X "list.count" (FV X.K):=by
 intro m s U H x T v S Q I N M h;obtain⟨y,j,d,rfl,G,J,⟨c1,k,P⟩,q⟩:=h;obtain⟨u,rfl,L⟩:=M.one;obtain⟨O,p⟩:=iP.reads I (show(KM j).hasDict=false from noDictAll c1) G N;obtain⟨bs,r⟩:=iP.reads I (nA k) J L
 cases p with
 |@list l o items n _ as' h3 h4 h5 h6=>
  have f:=je j items.toList _ c1 h6;obtain⟨R,B,E,i⟩:=o;cases h4;cases h5;refine br F.slot_list_count ⟨_,h3,Fc⟩ F.entry_list_count (F.args_list_count_2 _ _) (list_countAt _ items _ B i u (λy=>dU (jd s.heap y) d)) ⟨h3,tf h6 r c1 k (by have:=z;lia),?_⟩;refine⟨.int _,H,I.tok _,⟨_,Fc⟩,?_⟩
  have e:(items.toList.countP λy=>dU (jd s.heap y) d)=j.countP λt=>dU t d:=by
   rw[<- f,aBa];rfl
  rw[e];exact q
def P9{k:Nat}(d:Room k X.A):XF X "list.count" (FV X.K):=LN (by have:=d.un;lia)
def aAk(g:ET)(t:AT):ET:=λh Q=>g h λd=>∃f,d=.list f/\t h λi=>∃x:D,i=[x]/\Jk f x/\Q (.int ((f.countP λt=>dU t x:Nat):Int))
def QT(z:iM X n g)(y:wN X (e::w) t)
  (E:∀{v c},PE X n v->PA X (e::w) c->PE X (.Call (.Attribute n "count" ap) (e::w) [] pos) (Ff X.K "list" (FV X.K) v c)):iM X (.Call (.Attribute n "count" ap) (e::w) [] pos) (aAk g t):=by
 obtain⟨v,F,re⟩:=z;obtain⟨S,A,N⟩:=y;refine⟨_,E F A,λB i H j f r Q P o h k=>re B i H j f r _ _ o h λd x s l I q1=>?_⟩;obtain⟨O,rfl,q1⟩:=q1
 cases I with
 |@list p xs _ hq rs=>
  refine⟨.inl ⟨Fc,_,L2.bR.seq bZ hq⟩,N B i s j f r _ _ (o.grow l) q1 λR T u m J G=>?_⟩;obtain⟨d,rfl,hok,q⟩:=G
  cases J with
  |cons L M=>
   cases M;exact⟨_,O,d,Fc,(iP.list hq rs).same ((cE m).trans bZ),L.same bZ,hok,k _ _ u (l.trans m) (.int _) q⟩
def aAr(g:ET):yA:=λh Q=>g h λd=>∃f,d=.list f/\Q (!f.isEmpty)
def PB(h:iM X e g)(pt:∀{t},PE X e t->PT X e (λf H Q=>t f H λx j=>∃k,Gz X.K x j k/\Q k j)):GX X e (aAr g):=by
 obtain⟨v,p,r⟩:=h;refine⟨_,pt p,λB s H u i f Q A o h k=>r B s H u i f _ _ o h λd x m z y q1=>?_⟩;obtain⟨l,rfl,q⟩:=q1
 cases y with
 |@list p xs _ hq rs=>
  have n:=rs.length;refine⟨!xs.isEmpty,.inl ⟨xs,L2.bR.seq bZ hq,Fc⟩,?_⟩
  have:(!xs.isEmpty)=(!l.isEmpty):=by
   cases xs<;>cases l<;>first | rfl | (simp at n)
  rw[this];exact k _ m z q
def PQ(c C:FT):sZ:=λf d=>c d λh=>C d λbs=>f.rp h bs
def IB{c C}(J:OQ X n c)(Z:OQ X m C)(hs:autoParam (cD [n,m] X.env=(false,eval n X.env)::cD [m] X.env) zzz._auto_1)(N:autoParam (cD [m] X.env=(false,eval m X.env)::cD [] X.env) zzz._auto_1):wM X (.Return (some (.Tuple [n,m] x1 p2)) pos) (PQ c C):=by
 obtain⟨va,pa,ra⟩:=J;obtain⟨vb,pb,rb⟩:=Z;refine⟨_,yK (TK (jC pa (jC pb lD N) hs)),λB s H t k S DT DV o h f=>?_⟩;refine ra B s H t k S _ _ o h λW p U v y T x rs q1=>?_
 have o1:Ok X.K B s v (p::t) k S:=by
  have o2:=o.grow (rR y T);have J:without v p p=none:=by unfold without;rw[a7 rfl]
  have o3:=o2.adopt (u:=.lst U) J
  rwa [zI x]at o3
 refine rb B s v (p::t) k S _ _ o1 q1 λbs q ys E A M O R q2=>?_;refine⟨aF Fc,λr l=>?_⟩;have j:=A _ _ x;have L:p≠q:=λz=>by rw[z,M]at x;cases x
 have P:p≠r:=λz=>by rw[z,l]at j;cases j
 have Q:q≠r:=λz=>by rw[z,l]at O;cases O
 have Y:∀{z:Addr},H z=none->B z=none:=λhz=>bR.free' o.base hz;have live:∀z∈s,E4 (H z):=λz hz=>o.live z (o.sub z hz)
 have m1:bR (mask v (p::t)) (mask (gG E r (.tup [.ref p,.ref q])) (p::q::s)):=λb u i=>by
  unfold mask at i |-
  by_cases d:b∈p::t
  ·rw[a7 d]at i;cases i
  ·rw[a6 d]at i;have F:=A _ _ i;have I:b≠r:=λz=>by rw[z,l]at F;cases F
   have G:b≠q:=λz=>by rw[z,M]at i;cases i
   rw[a6,cO I]
   ·exact F
   ·intro z;rcases aY.mp z with z | z
    ·exact d (z▸aU ..)
    ·rcases aY.mp z with z | z
     ·exact G z
     ·exact d (aO _ (o.sub b z))
 have m2:bR (mask E (q::p::t)) (mask (gG E r (.tup [.ref p,.ref q])) (p::q::s)):=(cE (eX l)).trans (lY λz hz=>by
  rcases aY.mp hz with rfl | hz
  ·exact aO _ (aU ..)
  ·rcases aY.mp hz with rfl | hz
   ·exact aU ..
   ·exact aO _ (aO _ (o.sub z hz)))
 exact f.rp W bs r p q U ys _ (o.base.trans (y.trans (A.trans (eX l)))) (bR.free' (o.base.trans (y.trans A)) l) (Y T) (bR.free' (o.base.trans y) M) L cW (by rw[cO P];exact j) (by rw[cO Q];exact O) (rs.same m1) (R.same m2) q2
end
end TL
namespace TL
def Xv:d1 "sum"=some (.builtin "sum"):=by decide +kernel
open L2
section
variable{d:List (Option Nat)}{j:IT}{g:yA}{i:ET}{c:List Sl}{Q:D->Prop}{ts:List D}
def U3(o:uH j c ts)(p:D->Bool)(f:D->D)(A:ts.length<=100000)(u:∀x∈ts,∃a b,x=.tuple [a,b])
  (v:∀(a b:D)(q:Bool->Prop),.tuple [a,b]∈ts->q (p (.tuple [a,b]))->g (((kE d c).set 0 (.val a)).set 1 (.val b)) q)
  (z:∀(a b:D)(q:D->Prop),.tuple [a,b]∈ts->q (f (.tuple [a,b]))->i (((kE d c).set 0 (.val a)).set 1 (.val b)) q) (w:Q (.list ((ts.filter p).map f))):RK d j (gP 0 1) g i c Q:=by
 refine o _ ⟨A,λk l m=>(∀x y,(l.set 0 (.val x)).set 1 (.val y)=((kE d c).set 0 (.val x)).set 1 (.val y))/\m=((ts.take k).filter p).map f,⟨λ_ _=>rfl,Fc⟩,λk x l m s h=>?_,λl m h=>?_⟩
 ·obtain⟨t,rfl⟩:=h;have n:x∈ts:=aS s;obtain⟨a,b,rfl⟩:=u x n;refine⟨a,b,Fc,?_⟩;show g ((l.set 0 (.val a)).set 1 (.val b)) _;rw[t a b];refine v a b _ n ?_;have e:ts.take (k+1)=ts.take k++[.tuple [a,b]]:=by rw[cU,s];rfl
  cases r:p (.tuple [a,b])with
  |true=>
   rw[a7 rfl];refine z a b _ n ⟨λx y=>yH _ _ _ _ _,?_⟩;rw[e,fD,bB];simp[r]
  |false=>
   rw[a6 Ey];refine⟨λx y=>yH _ _ _ _ _,?_⟩;rw[e,fD,bB];simp[r]
 ·obtain⟨_,rfl⟩:=h;rw[dA];exact w
end
section
variable{X:Cx}
def Lu:wM X s (λ_ _=>False):=⟨λ_ _ _=>False,λ_ _ _ _ _ _ h=>h.elim,λ_ _ _ _ _ _ _ _ _ h _=>h.elim⟩
end
end TL
namespace L2
open PySem.Builtin
section
variable{X:Cx}{e:Expr}
def BR(r:Addr)(j:Int)(h:Heap):Prop:=∃t u v,IsRange h r 0 j 1 t u v
def pY:kO X (.type "range") (λc H Q=>∃j:Int,c=[.int j]/\∀r,H r=none->Q (.ref r) (gG H r (.ext (BR r j)))):=by
 intro a s l H c i Q I r h;obtain⟨j,rfl,q⟩:=h;obtain⟨u,rfl,d⟩:=oB r;obtain⟨t,rfl⟩:=d;refine call_range_1 ⟨.ref s.heap.objs.size,_,I.laid (t':=s.toks+1+1) (o:=.ext (BR s.heap.objs.size j)) (λb u e=>aJ _ e) (aN _) ?_,Fc,q _ (I.hok.fresh (aN _))⟩;exact⟨⟨_,_,_,aW _ Fc⟩,⟨_,aW _ Fc⟩,λf g ⟨t,u,v,z⟩ k=>⟨t,u,v,k _ z⟩⟩
theorem HP:∀(n a:Nat)(b:List Value),b.length=n->(∀(j:Nat) v,b[j]?=some v->∃t,v=.int ((a+j:Nat):Int) t)->gM ((OX a n).map λ(k:Nat)=>V.int (k:Int)) b
|0,_,b,hl,_=>by rw[hZ.mp hl];exact .nil
|n+1,a,b,hl,h=>by
 match b,hl with
 |u::b,hl=>
  rw[XN,bE];obtain⟨t,d⟩:=h 0 u Fc;refine .cons ⟨t,by rw[d];rfl⟩ (HP n (a+1) b (by simpa using hl) λj v f=>?_);obtain⟨g,c⟩:=h (j+1) v (by simpa using f);exact⟨g,by rw[c];congr 2;lia⟩
theorem N8:∀{ns:List Int}{us},gM (ns.map V.int) us->IntsAre us ns
|[],_,r=>by rw[lW]at r;cases r;exact .nil
|n::ns,us,r=>by
 rw[bE]at r
 cases r with
 |cons a b=>
  obtain⟨t,rfl⟩:=a;exact .cons n t (N8 b)
theorem NZ:∀{ns:List Int}{us},IntsAre us ns->gM (ns.map V.int) us
|_,_,.nil=>.nil
|_,_,.cons n t r=>.cons ⟨t,Fc⟩ (NZ r)
end
end L2
namespace TL
open L2
section
theorem IM{K}:∀l:List Nat,Reps K H (l.map λ(k:Nat)=>aP (k:Int)) (l.map λ(k:Nat)=>V.int (k:Int))
|[]=>.nil
|k::l=>.cons (.int _) (IM l)
theorem NL{K}:∀l:List Int,Reps K H (l.map aP) (l.map V.int)
|[]=>.nil
|k::l=>.cons (.int _) (NL l)
def ES:d1 "sorted"=some (.builtin "sorted"):=by decide +kernel
def xR:d1 "range"=some (.type "range"):=by decide +kernel
end
section
variable{X:Cx}{e:Expr}{a:ET}{pos:Pos}
def YC{i:Nat}(b:X.N.Nodup)(f:X.N[i]?=some x)(g:OR X.env.scope x)(c:iM X e a)(hs:autoParam (jH e (some (.Name x pos')) pos.line X.env=pure false) zzz._auto_1)(d:autoParam (X.fn x=true\/X.env.scope.names.lookup x=some .local) zzw._auto_1) :
  wM X (.Assign [.Name x pos'] e pos) (FP i a):=SG c λh=>yJ b f g h hs d
end
noncomputable def vX(s:Stmt)(j:Nat):Stmt:=match s with
|.ClassDef _ _ _ b _ _ _ _ _ _ _=>b.getD j (.Pass ⟨0,0,0,0⟩)
|_=>.Pass ⟨0,0,0,0⟩
noncomputable def LY(C:Addr)(ns:List Str)(a:List D):D:=.dict [(.str "obj",.tuple [.int (C:Nat),.list (ns.map aV),.list a])]
theorem HW:∀{b c:List Str},b.map aV=c.map aV->b=c
|[],[],_=>rfl
|[],_::_,h=>by cases h
|_::_,[],h=>by cases h
|x::b,y::c,h=>by
 rw[bE,bE]at h;injection h with a d
 injection a with a
 rw[a,HW d]
def NM{K}{H:Hp}{C:Addr}(r:iP K H (LY C ns ds) v):∃(p b:Addr)(fs:List (Str×V)),v=.ref p/\H p=some (.ins C b fs)/\fs.map (·.1)=ns/\Reps K H ds (fs.map (·.2)):=by
 unfold LY at r
 generalize a:(KN [(.str "obj",.tuple [.int (C:Nat),.list (ns.map aV),.list ds])])=d at r
 cases r with
 |@ins p C' b fs ds' h1 h2=>
  injection a with a
  injection a with a _
  injection a with _ a
  injection a with a
  injection a with c a
  injection a with e a
  injection a with f _
  injection c with c
  injection e with e
  injection f with f
  obtain rfl:C=C':=sY.inj c;subst f;exact⟨p,b,fs,Fc,h1,(HW e).symm,h2⟩
 |@dct p es ep kvs h1 h2 h3 h4=>
  injection a with a
  injection a with a _
  injection a with a _
  injection a with a
  exact a9 a Ex
 |addr z=>
  injection a with a
  injection a with a _
  injection a with a _
  injection a with a
  exact a9 a Ex
 |_=>cases a
theorem B5{K}:∀{fs:List (Str×V)}{ds},Reps K H ds (fs.map (·.2))->((fs.map (·.1)).zip ds).lookup f=some x->∃v,fs.lookup f=some v/\iP K H x v
|[],_,_,h=>by cases h
| (g,u)::fs,ds,r,h=>by
 cases r with
 |@cons t ts _ _ r1 r2=>
  show∃v,(match f==g with | true=>some u | false=>fs.lookup f)=some v/\_;have a:(match f==g with | true=>some t | false=>((fs.map (·.1)).zip ts).lookup f)=some x:=h
  cases b:f==g with
  |true=>
   rw[b]at a;cases a;exact⟨u,Fc,r1⟩
  |false=>
   rw[b]at a;exact B5 r2 a
theorem zS:∀{fs:List (Str×V)},f∉fs.map (·.1)->fs.lookup f=none
|[],_=>rfl
| (g,u)::fs,h=>by
 have a:(f==g)=false:=beq_eq_false_iff_ne.mpr λz=>h (by rw[z];exact aU ..);show(match f==g with | true=>some u | false=>fs.lookup f)=none;rw[a];exact zS λz=>h (aO _ z)
section
variable{X:Cx}{o e:Expr}{g:List Expr}{c:ET}{pos b:Pos}
def Nr(K:aM)(f:Str)(c:ET):ET:=λh Q=>c h λd=>∃(C:Addr)(ns:List Str)(a:List D)(x:D),d=LY C ns a/\RM K C/\nE K C f/\(ns.zip a).lookup f=some x/\Q x
def yX{K}(t:X.K=K)(A:iM X e c)(u:autoParam (v4 e f X.env (eval e X.env)=eval e X.env) zzz._auto_1):iM X (.Attribute e f pos) (Nr K f c):=by
 subst t;obtain⟨v,p,r⟩:=A;refine⟨_,aD4 p u,λB G H I j M Q N o h k=>r B G H I j M _ _ o h λd x l L J q1=>?_⟩;obtain⟨C,ns,O,y,rfl,z,F,E,q⟩:=q1;obtain⟨a,m,fs,rfl,n,rfl,s⟩:=NM J;obtain⟨w,hw,i⟩:=B5 s E;exact⟨a,C,m,fs,w,Fc,bZ _ _ n,z,F,hw,k _ _ l L i q⟩
def Yd(C:Addr)(m:Str)(i:kQ)(c:ET)(t:AT):ET:=λa Q=>c a λd=>∃(ns:List Str)(h:List D),d=LY C ns h/\m∉ns/\t a λf=>i (d::f) Q
def xL{C:Addr}(G:iM X o c)(F:wN X (e::g) t)
  (L:∀{v ta},PE X o v->PA X (e::g) ta->PE X (.Call (.Attribute o m b) (e::g) [] pos) (Lx C m (cG X.K sp) [] E0 v ta)):iM X (.Call (.Attribute o m b) (e::g) [] pos) (Yd C m sp c t):=by
 obtain⟨v,M,re⟩:=G;obtain⟨Y,J,S⟩:=F;refine⟨_,L M J,λB n H i f q Q w o h k=>re B n H i f q _ _ o h λd x s j p q1=>?_⟩;obtain⟨ns,z,rfl,I,q1⟩:=q1;obtain⟨a,A,fs,rfl,E,rfl,W⟩:=NM p;refine⟨a,A,fs,Fc,bZ _ _ E,zS I,S B n s i f q _ _ (o.grow j) q1 λy U u l R O=>?_⟩;show cG X.K sp (.ref a::(U++[])) u w E0;rw[fS];exact⟨i,LY C (fs.map (·.1)) z::y,Q,((o.grow j).grow l).live,.cons (p.same (cE l)) R,O,λd v r T P N=>k d v r (j.trans (l.trans T)) P N⟩
end
end TL
namespace L2
noncomputable instance decD:DecidableEq m6:=λ_ _=>Classical.propDecidable _
mutual
def hk:m6->Bool
|.none=>true
|.int _=>true
|.str x=>(aV x).canLay0
|.tuple xs=>hkAll xs
|.bool _=>false
|.list _=>false
|.dict _=>false
def hkAll:List m6->Bool
|[]=>true
|x::xs=>hk x&&hkAll xs
end
mutual
def mQ(w:c7):m6->Int
|.none=>0xFCA86420
|.int i=>cz i
|.str x=>hashStr w x
|.tuple xs=>tj (f9 (hashDs w xs))
|.bool _=>0
|.list _=>0
|.dict _=>0
def hashDs(w:c7):List m6->List Int
|[]=>[]
|x::xs=>mQ w x::hashDs w xs
end
mutual
def pH:m6->Nat
|.tuple xs=>hdrawsAll xs+1
|.none=>1
|.int _=>1
|.str _=>1
|.bool _=>1
|.list _=>1
|.dict _=>1
def hdrawsAll:List m6->Nat
|[]=>0
|x::xs=>pH x+hdrawsAll xs
end
section
variable{prog:cN}{w:c7}{A:d0}{E:Value->Shared->Prop}{s:Shared}
def K9{Q:Int->Shared->Prop}(h:Q 0xFCA86420 { s with toks:=s.toks+1 }):wpAny (model prog w) A (pyHash .none) Q E s:=by
 have a:s.TypeIs .none "NoneType":=rfl;unfold pyHash pyHashByItsType;refine aB (wpAny_cRoomFor_byValue Fc ?_);refine aB (v0 a lI.lookup ?_);show wpAny _ _ (if(some (ah "NoneType.__hash__")==some d8)=true then _ else _) Q E s;rw[a6 (by rw[beq_builtin_none];exact bN)];refine aB (v0 a lI.lookup ?_);show wpAny _ _ (fm .none "__hash__" _ >>= _) Q E s;refine aB (cg a lI (dI lI a PySem.F.entry_NoneType_hash (show wpAny _ _ (do ret (<- mkInt 0xFCA86420)) _ _ s from gb ?_) (PySem.F.args_NoneType_hash_1 _)));show wpAny _ _ (if(decide (-(2:Int)^63<=0xFCA86420)&&decide ((0xFCA86420:Int)<2^63))=true then _ else _) Q E _;rw[a7 Ey];exact aG h
def zE(prog:cN)(w:c7)(A:d0)(s:Shared)(d:m6)(v:Value):Prop:=∀(a:Nat)E(Q:Int->Shared->Prop),Q (mQ w d) { s with toks:=a+pH d }->wpAny (model prog w) A (pyHash v) Q E { s with toks:=a }
def VR{a:Addr}{o:Obj}{g:Array Value}{n:Nat}(C:A.units<u7)(t:s.heap.get? a=some o)(z:o.cls=.type "tuple")(hd:o.data=.seq g n)(B:Paired (zE prog w A.in1 s) xs g.toList):zE prog w A s (.tuple xs) (.ref a):=by
 intro j E Q h;have k:l4 { s with toks:=j } (.ref a) "tuple":=⟨o,t,z⟩;unfold pyHash
 first | unfold pyHashByItsType | skip
 refine aB (wpAny_cRoomFor_or (.inr C) ?_);refine aB (v0 k mR.lookup ?_);show wpAny _ _ (if(some (ah "tuple.__hash__")==some d8)=true then _ else _) Q E _;rw[a6 (by rw[beq_builtin_none];exact bN)];refine aB (v0 k mR.lookup ?_);show wpAny _ _ (fm (.ref a) "__hash__" _ >>= _) Q E _;refine aB (cg k mR (dI mR k PySem.F.entry_tuple_hash ?_ (PySem.F.args_tuple_hash_1 _)));show wpAny _ _ (ag (.ref a) >>= _) _ _ _;refine aB (wpAny_tupleItemsOf t hd ?_);refine aB ?_;rw[<- pV];refine fg _ (λjM (b:Array Int) r=>∃done left:List m6,xs=done++left/\Paired (zE prog w A.in1 s) left jM/\b.toList=hashDs w done/\r={ s with toks:=j+hdrawsAll done }) _ ?_ ?_ _ _ ⟨[],xs,Fc,B,Fc,Fc⟩
 ·rintro x jM b r ⟨done,left,rfl,p,m,rfl⟩
  cases p with
  |@cons d _ left' _ h1 yg=>
   have u:∀f:List m6,hashDs w (f++[d])=hashDs w f++[mQ w d]:=λf=>by
    induction f with
    |nil=>rfl
    |cons y f q=>show mQ w y::hashDs w (f++[d])=_;rw[q];rfl
   have v:∀f:List m6,hdrawsAll (f++[d])=hdrawsAll f+pH d:=λf=>by
    induction f with
    |nil=>show pH d+0=0+pH d;lia
    |cons y f q=>show pH y+hdrawsAll (f++[d])=pH y+hdrawsAll f+pH d;rw[q];lia
   have fin:∃c e:List m6,done++d::left'=c++e/\Paired (zE prog w A.in1 s) e jM/\(b.push (mQ w d)).toList=hashDs w c/\({ s with toks:=j+hdrawsAll done+pH d }:Shared)={ s with toks:=j+hdrawsAll c }:=
    ⟨done++[d],left',Fa,yg,by rw[u,zH,m],by rw[v,KG]⟩
   refine aB (h1 _ _ _ ?_)
   first
    |exact aG fin
    |exact aB (aG (aG fin))
 ·rintro b r ⟨done,left,rfl,p,m,rfl⟩;cases p;rw[fS]at h;show wpAny _ _ (retInt (f9 b.toList)) _ _ _;rw[m];refine gb ?_;have i:Q (tj (f9 (hashDs w done))) { s with toks:=j+(hdrawsAll done+1) }:=h;show wpAny _ _ (if(decide (-(2:Int)^63<=f9 (hashDs w done))&&decide (f9 (hashDs w done)<2^63))=true then _ else _) Q E _;unfold tj at i;by_cases l:(decide (-(2:Int)^63<=f9 (hashDs w done))&&decide (f9 (hashDs w done)<2^63))=true
  ·rw[a7 l];rw[a7 l]at i;exact aG (by simpa[KG]using i)
  ·rw[a6 l];rw[a6 l]at i;exact aB (m9 (aG (by simpa[KG]using i)))
mutual
theorem CC(prog:cN)(w:c7)(s:Shared):∀(d:m6)(A:d0)(v:Value)as,Reads s.heap v d as->hk d=true->A.units+d.depth<u7->zE prog w A s d v
|.none,A,_,_,r,_,_=>by cases r;exactλa E Q h=>K9 h
|.int i,A,_,_,r,_,_=>by cases r;exactλa E Q h=>wpAny_pyHash_int h
|.str x,A,_,_,r,_,_=>by cases r;exactλa E Q h=>wpAny_pyHash_str h
|.tuple xs,A,_,_,r,h,hu=>by
 cases r with
 |tuple b c e f=>
  have g:A.units+(dJ xs+1)<u7:=hu;exact VR Ez b c e (hash_readsAll prog w s xs A.in1 _ _ f h (by show A.units+1+_<_;lia))
|.bool _,_,_,_,_,h,_=>by cases h
|.list _,_,_,_,_,h,_=>by cases h
|.dict _,_,_,_,_,h,_=>by cases h
theorem hash_readsAll(prog:cN)(w:c7)(s:Shared):∀(a:List m6)(A:d0)(vs:List Value)as,ReadsAll s.heap vs a as->hkAll a=true->A.units+dJ a<u7->Paired (zE prog w A s) a vs
|[],A,_,_,r,_,_=>by cases r;exact .nil
|x::a,A,_,_,r,h,hu=>by
 cases r with
 |cons d e=>
  have b:(hk x&&hkAll a)=true:=h;rw[dM]at b;have c:A.units+max x.depth (dJ a)<u7:=hu;exact .cons (CC prog w s x A _ _ d b.1 Ez) (hash_readsAll prog w s a A _ _ e b.2 Ez)
end
mutual
theorem vZ:∀{d:m6},hk d=true->d.canLay0=true
|.none,_=>rfl
|.int _,_=>rfl
|.str _,h=>h
|.tuple _,h=>hk_layAll h
|.bool _,h=>by cases h
|.list _,h=>by cases h
|.dict _,h=>by cases h
theorem hk_layAll:∀{a:List m6},hkAll a=true->dO a=true
|[],_=>rfl
|x::a,h=>by
 have b:(hk x&&hkAll a)=true:=h;rw[dM]at b;show(x.canLay0&&dO a)=true;rw[vZ b.1,hk_layAll b.2];rfl
end
mutual
theorem VO:∀{d e:m6},hk d=true->hk e=true->dU d e=true->d=e
|.none,.none,_,_,_=>rfl
|.none,.int _,_,_,h=>by cases h
|.none,.str _,_,_,h=>by cases h
|.none,.tuple _,_,_,h=>by cases h
|.int _,.none,_,_,h=>by cases h
|.int i,.int j,_,_,h=>by
 have a:decide (i=j)=true:=by simpa[dU]using h
 rw[b8 a]
|.int _,.str _,_,_,h=>by cases h
|.int _,.tuple _,_,_,h=>by cases h
|.str _,.none,_,_,h=>by cases h
|.str _,.int _,_,_,h=>by cases h
|.str x,.str y,_,_,h=>by
 have a:decide (x=y)=true:=by simpa[dU]using h
 rw[b8 a]
|.str _,.tuple _,_,_,h=>by cases h
|.tuple _,.none,_,_,h=>by cases h
|.tuple _,.int _,_,_,h=>by cases h
|.tuple _,.str _,_,_,h=>by cases h
|.tuple xs,.tuple ys,h1,h2,h=>by
 have a:wJ xs ys=true:=by simpa[dU]using h
 rw[hk_eqvAll h1 h2 a]
|.bool _,_,h,_,_=>by cases h
|.list _,_,h,_,_=>by cases h
|.dict _,_,h,_,_=>by cases h
|_,.bool _,_,h,_=>by cases h
|_,.list _,_,h,_=>by cases h
|_,.dict _,_,h,_=>by cases h
theorem hk_eqvAll:∀{a b:List m6},hkAll a=true->hkAll b=true->wJ a b=true->a=b
|[],[],_,_,_=>rfl
|[],_::_,_,_,h=>by cases h
|_::_,[],_,_,h=>by cases h
|x::a,y::b,h1,h2,h=>by
 have a1:(hk x&&hkAll a)=true:=h1;have a2:(hk y&&hkAll b)=true:=h2;rw[dM]at a1 a2;have c:(dU x y&&wJ a b)=true:=by simpa[wJ]using h
 rw[dM]at c;rw[VO a1.1 a2.1 c.1,hk_eqvAll a1.2 a2.2 c.2]
end
def QM(a:hk d=true)(b:hk e=true):dU d e=decide (d=e):=by
 by_cases h:d=e
 ·subst h;rw[SeqAt.eqv_refl d (vZ a),a8 rfl]
 ·rw[c4 h]
  cases q:dU d e with
  |false=>rfl
  |true=>exact a9 (VO a b q) h
mutual
theorem zL(prog:cN)(w:c7)(s:Shared):∀(d:m6)A E(v:Value)as(n:Nat)(Q:Bool->Shared->Prop),Reads s.heap v d as->hk d=true->d.depth<=n->Q true s->wpAny (model prog w) A (iw n v) Q E s
|.none,A,E,_,_,n,Q,r,_,_,q=>by cases r;rw[dy n rfl];exact aG q
|.int i,A,E,_,_,n,Q,r,_,_,q=>by cases r;rw[dy n rfl];exact aG q
|.str x,A,E,_,_,n,Q,r,_,_,q=>by cases r;rw[dy n rfl];exact aG q
|.tuple xs,A,E,_,_,0,Q,r,_,hn,q=>by
 have:dJ xs+1<=0:=hn;lia
|.tuple xs,A,E,_,_,n+1,Q,r,h,hn,q=>by
 cases r with
 |@tuple a o vs m _ _ h1 h2 h3 h4=>
  have g:s.TypeIs (.ref a) "tuple":=⟨o,h1,h2⟩;have k:dJ xs+1<=n+1:=hn;unfold iw;refine aB (v0 g PySem.F.slot_tuple_eq.lookup ?_);show wpAny _ _ (isInstance (.ref a) (.type "tuple") >>= _) _ _ s;refine aB (y4 g isSubtype_tuple_tuple ?_);simp only[xZ,eH,g9];refine aB (cx h1 h3 ?_);refine aB ?_;show wpAny _ _ (qy vs _ _) _ _ s;rw[<- pV];refine fg _ (λjM r f=>r.1=none/\f=s/\∀v∈jM,∀(Q:Bool->Shared->Prop),Q true s->wpAny (model prog w) A (iw n v) Q E s) _ ?_ ?_ _ _ ⟨Fc,Fc,λv l Q j=>quiet_readsAll prog w s xs A E _ _ n Q h4 h Ez v l j⟩
  ·rintro v jM r f ⟨c,rfl,b⟩;refine aB (b v aU _ ?_);simp only[xZ,eH,g9];exact aG ⟨Fc,Fc,λu e=>b u (aO _ e)⟩
  ·rintro⟨r1,r2⟩ f ⟨c,rfl,_⟩;simp only at c;subst c;exact aG q
|.bool _,_,_,_,_,_,_,_,h,_,_=>by cases h
|.list _,_,_,_,_,_,_,_,h,_,_=>by cases h
|.dict _,_,_,_,_,_,_,_,h,_,_=>by cases h
theorem quiet_readsAll(prog:cN)(w:c7)(s:Shared):∀(a:List m6)A E(vs:List Value)as(n:Nat)(Q:Bool->Shared->Prop),ReadsAll s.heap vs a as->hkAll a=true->dJ a<=n->∀v∈vs,Q true s->wpAny (model prog w) A (iw n v) Q E s
|[],A,E,_,_,n,Q,r,_,_,v,hv,_=>by cases r;cases hv
|x::a,A,E,_,_,n,Q,r,h,hn,v,hv,q=>by
 cases r with
 |cons d e=>
  have b:(hk x&&hkAll a)=true:=h;rw[dM]at b;have c:max x.depth (dJ a)<=n:=hn;rcases aY.mp hv with rfl | hv
  ·exact zL prog w s x A E _ _ n Q d b.1 Ez q
  ·exact quiet_readsAll prog w s a A E _ _ n Q e b.2 Ez v hv q
end
mutual
theorem BU{h e:Heap}(a:∀(b:Addr)(o:Obj)(vs:Array Value)(n:Nat),h.get? b=some o->o.data=.seq vs n->e.get? b=some o):∀{d:m6}{v:Value}{c:List Addr},Reads h v d c->hk d=true->Reads e v d c
|.none,_,_,r,_=>by cases r;exact .none
|.int i,_,_,r,_=>by cases r;exact .int i _
|.str x,_,_,r,_=>by cases r;exact .str x _
|.tuple xs,_,_,r,hh=>by
 cases r with
 |tuple g j f k=>exact .tuple (a _ _ _ _ g f) j f (reads_stayAll a k hh)
|.bool _,_,_,_,hh=>by cases hh
|.list _,_,_,_,hh=>by cases hh
|.dict _,_,_,_,hh=>by cases hh
theorem reads_stayAll{h f:Heap}(c:∀(b:Addr)(o:Obj)(vs:Array Value)(n:Nat),h.get? b=some o->o.data=.seq vs n->f.get? b=some o):∀{d:List m6}{vs:List Value}{e:List Addr},ReadsAll h vs d e->hkAll d=true->ReadsAll f vs d e
|[],_,_,r,_=>by cases r;exact .nil
|x::d,_,_,r,hh=>by
 cases r with
 |cons g i=>
  have a:(hk x&&hkAll d)=true:=hh;rw[dM]at a;exact .cons (BU c g a.1) (reads_stayAll c i a.2)
end
end
def pX(prog:cN)(w:c7):HeapKind prog w m6 where
 is:=λh k a=>hk k=true/\k.depth<=8/\∃as,Reads h (.ref a) k as
 hash:=mQ w
 draws:=pH
 room:=λA=>A.units+8<u7
 inj:=λ⟨h1,_,as,r1⟩ ⟨_,_,bs,r2⟩=>SeqAt.Reads.unique _ _ _ _ _ (vZ h1) r1 r2
 keeps:=λ⟨h1,h2,as,r⟩ ho hd hs=>⟨h1,h2,as,BU (λb o vs n e ed=>(hs.2 b (λz=>by
  subst z;rw[ho]at e;cases e;rw[hd]at ed;cases ed)).trans e) r h1⟩
 pyHash:=λ{A E s k a Q} hu ⟨h1,h2,as,r⟩ h=>CC prog w s k A _ _ r h1 Ez s.toks E Q h
 eqBool:=λ{A E s x y a b Q} hu ⟨h1,h2,as,r⟩ ⟨g1,g2,bs,r'⟩ h=>SeqAt.eqAt_reads x y A s _ _ _ _ r r' (vZ h1) (vZ g1) Ez prog w E Q (by rw[QM h1 g1];exact h)
 quiet:=λ{A E s k a Q} ⟨h1,h2,as,r⟩ h=>zL prog w s k A E _ _ 8 Q r h1 h2 h
section
variable{X:Cx}{a:List (Addr×Obj)}{b:St}{H:Hp}{s:Shared}
def eG.big(I:eG X a b H s):m7<s.heap.objs.size:=by
 have h:iR<s.heap.objs.size:=(I.mod.glob.keeps I.bk).lt;exact MZ Ey h
end
def Ga(i:Expr):Prop:=∀b a,fq i false b a=operate [b,a] (bu b a)
def X1{E:Value->Shared->Prop}{id}{Q:Value->Shared->Prop}
  (j:typeLookup (.type T) "__getitem__"=pure (some (.builtin id))) (hs:Ga slice)
  (h:wpAny (model prog w) A (eval value env) (λo c=>wpAny (model prog w) A (eval slice env) (λi a=>a.TypeIs o T/\wpAny (model prog w) A (bu o i) Q E a) E c) E s) :
  wpAny (model prog w) A (eval (.Subscript value slice pos) env) Q E s:=by
 refine su (gO h (λo c e=>gO e (λi a b=>?_) λ_ _ x=>x) λ_ _ x=>x);obtain⟨g,b⟩:=b;unfold ip;refine aB ?_;rw[getitemInPython_of_ne g.not_modules];refine aB (v0 g j ?_)
 have fin:wpAny (model prog w) A (fq slice false o i) (λr d=>wpAny (model prog w) A (letTemporaryGo value o r >>= λ_=>pure r) Q E d) E a:=by
  rw[hs o i];exact wpAny_operating (gO b (λr d f=>aB (wpAny_letTemporaryGo (aG f))) λ_ _ x=>x)
 first
  |exact aG (aB fin)
  |exact aB (aG (aB fin))
  |exact aB fin
open TL
def jX(k:D):Prop:=hk k=true/\k.depth<=8
structure DK(K:aM)(w:c7)(H:Hp)(es:List (Int×Addr×V))(ks:List D):Prop where
 rep:Reps K H ks (es.map λe=>.ref e.2.1)
 nd:ks.Nodup
 ok:∀k∈ks,jX k
 hs:es.map (·.1)=ks.map (mQ w)
theorem DK.same{K}(x:DK K w H es ks)(e:bR H H'):DK K w H' es ks:=⟨x.rep.same e,x.nd,x.ok,x.hs⟩
section
variable{X:Cx}{f:List (Addr×Obj)}{g:St}{H:Hp}{s:Shared}{p a:Addr}{c:List (Int×Addr×V)}{ks:List D}{k:D}
def yU(I:eG X f g H s)(r:iP X.K H k (.ref a))(ok:jX k):(pX X.prog X.w).is s.heap k a:=by
 obtain⟨b,h⟩:=iP.reads I (nA (vZ ok.1)) r (u:=.ref a) Fc;exact⟨ok.1,ok.2,b,h⟩
theorem N6(I:eG X f g H s):∀{ks}{as:List Addr},Reps X.K H ks (as.map V.ref)->(∀k∈ks,jX k)->Paired (λk a=>(pX X.prog X.w).is s.heap k a) ks as
|[],[],_,_=>.nil
|[],_::_,r,_=>by cases r
|_::_,[],r,_=>by cases r
|k::ks,a::as,r,h=>by
 cases r with
 |cons d e=>exact .cons (yU I d (h k (aU ..))) (N6 I e λz b=>h z (aO _ b))
abbrev EX(c:List (Int×Addr×V))(ks:List D)(b:List (D×Addr×Value)):Prop:=b.map (·.1)=ks/\Paired (λ(e:Int×Addr×V) (x:D×Addr×Value)=>x.2.1=e.2.1/\iL e.2.2 x.2.2) c b
theorem Kj(w:c7)(prog:cN):∀{c:List (Int×Addr×V)}{ks:List D}{ds},Paired MV c ds->c.map (·.1)=ks.map (mQ w)->∃i,EX c ks i/\ds=i.map (sw (pX prog w))
|[],[],_,.nil,_=>⟨[],⟨Fc,.nil⟩,Fc⟩
|[],_::_,_,_,h=>by simp at h
|_::_,[],_,_,h=>by simp at h
|e::c,k::ks,_,.cons (b:=d) r t,h=>by
 rw[bE,bE]at h;injection h with j l
 obtain⟨i,⟨o,q⟩,u⟩:=Kj w prog t l;refine⟨(k,e.2.1,d.val)::i,⟨by rw[bE,o],.cons ⟨Fc,r.2.2⟩ q⟩,?_⟩;rw[bE,u];congr 1;obtain⟨m,n,v⟩:=r;show d=⟨mQ w k,.ref e.2.1,d.val⟩;rw[<- j,<- m,<- n]
theorem OB:∀{c:List (Int×Addr×V)}{b:List (D×Addr×Value)},Paired (λ(e:Int×Addr×V) (x:D×Addr×Value)=>x.2.1=e.2.1/\iL e.2.2 x.2.2) c b->b.map (λx=>x.2.1)=c.map λe=>e.2.1
|_,_,.nil=>rfl
|_,_,.cons r t=>by rw[bE,bE,r.1,OB t]
def C3(H:Hp)(p:Addr)(c:List (Int×Addr×V)):Prop:=H p=some (nK p c)\/∃b,H p=some (sD p c b)
def C3.at(I:eG X f g H s)(h:C3 H p c):OS p c s.heap:=by
 rcases h with h | ⟨b,h⟩
 ·exact(I.hok p _ h).1
 ·obtain⟨⟨d,e,o,n,i,j,l,m⟩,_⟩:=I.hok p _ h;exact⟨d,e,o,n,b,i,j,l,m⟩
def CP(I:eG X f g H s)(h:C3 H p c)(i:DK X.K X.w H c ks):(p==m7)=false/\c.length<=bO/\∃d,EX c ks d/\s.heap.DictOfH (pX X.prog X.w) p d:=by
 obtain⟨u,v,o,n,q,z,A,B,C⟩:=C3.at I h;obtain⟨d,b,m⟩:=Kj X.w X.prog C i.hs;refine⟨u,v,d,b,o,n,q,z,A,B,m,?_,by rw[b.1];exact i.nd⟩;have j:=N6 I (as:=c.map λe=>e.2.1) (by rw[bM];exact i.rep) i.ok;have l:=OB b.2;rw[<- l,<- b.1]at j;clear l m b;intro x hx
 induction d with
 |nil=>cases hx
 |cons y F E=>
  rw[bE,bE]at j
  cases j with
  |cons r t=>
   rcases aY.mp hx with rfl | hx
   ·exact r
   ·exact E t hx
def V5{i:Nat}{e:Int×Addr×V}(ex:EX c ks xs)(nd:ks.Nodup)(b:ks[i]?=some k)(d:c[i]?=some e):∃u,fj xs k=some u/\iL e.2.2 u.2:=by
 obtain⟨h,n⟩:=ex;have o:c.length=xs.length:=g7 n;have l:i<xs.length:=by rw[<- o];exact(aE.mp d).1
 have q:xs[i]?=some xs[i]:=aD l
 have m:xs[i].1=k:=by
  have:(xs.map (·.1))[i]?=some k:=by rw[h];exact b
  rw[aI,q]at this;exact c5 this
 refine⟨xs[i].2,atKey_of_get (by rw[h];exact nd) (i:=i) (by rw[q,<- m]),?_⟩;clear b nd h m
 induction n generalizing i with
 |nil=>simp at l
 |cons r t v=>
  cases i with
  |zero=>simp at d;subst d;exact r.2
  |succ j=>exact v (i:=j) (by simpa using d) (by simpa using o) (by simpa using l) (aD _)
def Tq(K:aM)(w:c7):R2:=λx y H Q=>∃(p:Addr)(c:List (Int×Addr×V))(ks:List D)(k:D)(i:Nat)(e:Int×Addr×V),x=.ref p/\C3 H p c/\DK K w H c ks/\iP K H k y/\jX k/\ks[i]?=some k/\c[i]?=some e/\Q e.2.2 H
def AR(I:eG X f g H s)(h:C3 H p c):s.TypeIs (.ref p) "dict":=by
 obtain⟨_,_,o,e,i,b,d,_⟩:=C3.at I h;exact⟨o,b,d.1⟩
def oF{K}(r:iP K H (.tuple xs) v):∃a,v=.ref a:=by cases r;exact⟨_,Fc⟩
end
section
variable{X:Cx}{o i:Expr}{pos:Pos}{c ty:TE}
def TW(hu:X.A.units+9<u7)(E:PE X o c)(C:PE X i ty)(hs:Ga i):PE X (.Subscript o i pos) (λf H Q=>c f H λx l=>ty f l λy m=>(∃a,y=.ref a)/\Tq X.K X.w x y m Q):=by
 intro d s f H Q I h;refine X1 PySem.F.slot_dict_getitem.lookup hs (jR (E d s f H _ I h) λu O ⟨x,l,r,M,q1⟩=>jR (C d O f l _ r q1) λG s2 U=>?_);obtain⟨y,m,g,N,⟨b,B⟩,p,W,ks,k,j,e,ex,q,n,L,ok,t,z,J⟩:=U;subst ex B;obtain rfl:u=c8 p:=M;obtain rfl:G=c8 b:=N;obtain⟨Y,Z,xs,S,T⟩:=CP g q n;obtain⟨v,P,R⟩:=V5 S n.nd t z;exact⟨AR g q,wpAny_getItem_heap (show X.A.units+1+8<u7 by lia) (yU g L ok) T P ⟨_,m,g.tok _,R,J⟩⟩
def FS:List (Int×Addr×V)->List D->D->V->List (Int×Addr×V)
|e::es,k'::ks,k,v=>(if k'=k then(e.1,e.2.1,v)else e)::FS es ks k v
|_,_,_,_=>[]
def sW(w:c7)(b:List (Int×Addr×V))(ks:List D)(k:D)(a:Addr)(v:V):List (Int×Addr×V):=if k∈ks then FS b ks k v else b++[(mQ w k,a,v)]
def zM(ks:List D)(k:D):List D:=if k∈ks then ks else ks++[k]
end
section
variable{w:c7}{prog:cN}{es:List (Int×Addr×V)}{ks:List D}{xs:List (D×Addr×Value)}{k:D}{a:Addr}{v:V}{u:Value}
theorem WC:∀{es:List (Int×Addr×V)}{ks:List D}{xs:List (D×Addr×Value)},EX es ks xs->es.map (·.1)=ks.map (mQ w)->Paired MV es (xs.map (sw (pX prog w)))
|[],_,_,⟨_,.nil⟩,_=>.nil
|e::es,[],x::xs,⟨h,_⟩,_=>by simp at h
|e::es,k::ks,x::xs,⟨h,.cons r t⟩,g=>by
 rw[bE]at h;injection h with d f
 rw[bE,bE]at g;injection g with b c
 refine .cons ⟨?_,?_,r.2⟩ (WC ⟨f,t⟩ c)
 ·show mQ w x.1=e.1;rw[d,b]
 ·show c8 x.2.1=c8 e.2.1;rw[r.1]
theorem SV:∀{es ks}{xs:List (D×Addr×Value)}(k:D),EX es ks xs->iL v u->EX (FS es ks k v) ks (xs.map (putAt k u))
|[],ks,[],k,⟨h,.nil⟩,_=>⟨by rw[<- h];rfl,by cases ks<;>exact .nil⟩
|e::es,[],x::xs,k,⟨h,_⟩,_=>by simp at h
|e::es,k'::ks,x::xs,k,⟨h,.cons r t⟩,rv=>by
 rw[bE]at h;injection h with c d
 obtain⟨g,f⟩:=SV (es:=es) (ks:=ks) (xs:=xs) k ⟨d,t⟩ rv;unfold FS putAt;rw[bE];refine⟨?_,.cons ?_ ?_⟩
 ·rw[bE];congr 1;split<;>exact c
 ·by_cases b:k'=k
  ·rw[a7 b,a7 (c.trans b)];exact⟨r.1,rv⟩
  ·rw[a6 b,a6 (λz=>b (c.symm.trans z))];exact r
 ·exact f
def V3(ex:EX es ks xs)(f:iL v u):EX (sW w es ks k a v) (zM ks k) (storedH xs k a u):=by
 have c:(fj xs k).isSome=true↔k∈ks:=by
  rw[<- ex.1];unfold fj;rw[yB,zZ,aR];exact⟨λ⟨x,d,e⟩=>⟨x,d,b8 e⟩,λ⟨x,d,e⟩=>⟨x,d,a8 e⟩⟩
 unfold sW zM storedH;by_cases b:k∈ks
 ·rw[a7 b,a7 b,a7 (c.mpr b)];exact SV k ex f
 ·rw[a6 b,a6 b,a6 (λz=>b (c.mp z))];refine⟨by rw[bB,ex.1];rfl,Paired.snoc ex.2 ⟨Fc,f⟩⟩
theorem BT:∀{es:List (Int×Addr×V)}{ks:List D}(k:D),es.length=ks.length->(FS es ks k v).map (·.1)=es.map (·.1)/\(FS es ks k v).map (λe=>e.2.1)=es.map (λe=>e.2.1)
|[],[],k,_=>⟨Fc,Fc⟩
|[],_::_,k,h=>by simp at h
|_::_,[],k,h=>by simp at h
|e::es,k'::ks,k,h=>by
 obtain⟨b,c⟩:=BT (es:=es) (ks:=ks) k (by simpa using h);unfold FS;refine⟨?_,?_⟩
 ·rw[bE,bE,b];congr 1;split<;>rfl
 ·rw[bE,bE,c];congr 1;split<;>rfl
def DK.len{K}(x:DK K w H es ks):es.length=ks.length:=by
 have:=e7 gC x.hs;simpa using this
def DK.put{K}(x:DK K w H es ks)(r:iP K H k (.ref a))(ok:jX k):DK K w H (sW w es ks k a v) (zM ks k):=by
 unfold sW zM;by_cases d:k∈ks
 ·rw[a7 d,a7 d];obtain⟨f,g⟩:=BT (v:=v) k x.len;refine⟨?_,x.nd,x.ok,f.trans x.hs⟩
  have e:(FS es ks k v).map (λe=>V.ref e.2.1)=es.map λe=>V.ref e.2.1:=by
   have:=e7 (FE V.ref) g
   rwa [bM,bM]at this
  rw[e];exact x.rep
 ·rw[a6 d,a6 d];refine⟨by rw[bB];exact x.rep.append (.cons r .nil),?_,λz hz=>?_,by rw[bB,bB,x.hs];rfl⟩
  ·rw[rM];exact⟨x.nd,Fa,λc i b h=>by rw[dF.mp h];exactλz=>d (z▸i)⟩
  ·rcases dZ.mp hz with hz | hz
   ·exact x.ok z hz
   ·rw[dF.mp hz];exact ok
def IP(h:es.length=ks.length):(sW w es ks k a v).length<=es.length+1:=by
 unfold sW;split
 ·have:=e7 gC (BT (v:=v) k h).1;simp at this;lia
 ·simp
end
section
variable{p:Addr}{c:List (Int×Addr×V)}{ks:List D}
def CO:∀d f:Heap,OS p c d->(∀o,d.get? p=some o->f.get? p=some o)->OS p c f:=λd f ⟨a,b,o,h,g,e,r⟩ k=>⟨a,b,o,h,g,k _ e,r⟩
def WG{a:Heap}(hd:(p==m7)=false)(k:c.length<=bO)(ex:EX c ks xs)(j:c.map (·.1)=ks.map (mQ w))(d:a.DictOfH (pX P w) p xs):jY P w H' a p (nK p c):=by
 obtain⟨o,e,f,b,g,h,i,_⟩:=d;exact⟨⟨hd,k,o,e,f,b,g,h,by rw[i];exact WC ex j⟩,⟨o,b⟩,CO⟩
end
section
variable{X:Cx}{o i c:Expr}{pos d:Pos}{f ty tv:TE}
def Zo(K:aM)(w:c7)(f ty tv:TE):TS:=λg e H=>tv e H λv h=>f e h λx j=>ty e j λy H3=>∃(p a:Addr)(b:List (Int×Addr×V))(ks:List D)(k:D),x=.ref p/\y=.ref a/\H3 p=some (nK p b)/\DK K w H3 b ks/\iP K H3 k (.ref a)/\jX k/\b.length<bO/\g.nx e (gG H3 p (nK p (sW w b ks k a v)))
def S8(hu:X.A.units+9<u7)(S:PE X o f)(R:PE X i ty)(U:PE X c tv)(hs:jH c (some (.Subscript o i d)) pos.line X.env=pure false) :
  PS X (.Assign [.Subscript o i d] c pos) (Zo X.K X.w f ty tv):=by
 intro g s l H D' I h;refine jg (jR (U g s l H _ I h) λr s1 ⟨v,F,J,rv,q1⟩=>jR (S g s1 l F _ J q1) λu s2 ⟨x,G,L,rx,Y⟩=>jR (R g s2 l G _ L Y) λW s3 zq=>?_) hs;obtain⟨y,H3,m,ry,p,a,es,ks,k,ex,M,B,n,C,ok,hl,Z⟩:=zq;subst ex M;obtain rfl:u=c8 p:=rx;obtain rfl:W=c8 a:=ry;obtain⟨O,P,xs,E,x2⟩:=CP m (.inl B) n;refine ud (hsz:=by rw[<- g7 E.2];exact P) (show X.A.units+1+8<u7 by lia) (yU m C ok) x2 λN j t=>⟨l,_,?_,Z⟩;have T:∃q,N.get? p=some q:=let ⟨q,_,_,e,_⟩:=j;⟨q,e⟩
 have:=IP (w:=X.w) (k:=k) (a:=a) (v:=v) n.len;exact m.write (x:=p) (e:=p) (by rw[B];exact i6) (.inl Fc) (λb q Q z=>(t.2 b Q).trans z) T (WG (ks:=zM ks k) O Ez (V3 E rv) (n.put C ok).hs j)
def aC9:TE:=λ_ H Q=>∀p,H p=none->Q (.ref p) (gG H p (nK p []))
def TU:PE X (.Dict [] [] pos) aC9:=λb s e H Q I h=>
 wpAny_Dict_empty ⟨.ref s.heap.objs.size,_,I.laid (a:=s.heap.objs.size) (o:=nK s.heap.objs.size []) (t':=s.toks) (λ_ _ q=>aJ _ q) (aN _)
  ⟨⟨beq_eq_false_iff_ne.mpr (l5 (bS I.big)),cI _,_,#[],0,aW _ Fc,⟨Fc,Fc,Fc⟩,Fc,.nil⟩,⟨_,aW _ Fc⟩,CO⟩,Fc,h _ (I.hok.fresh (aN _))⟩
end
end L2
namespace TL
open L2
def mC(w:c7)(a:List (D×D)):D:=F1 (a.map λb=>mQ w b.1) a
def pS(w:c7)(a:List (D×D)):Sl:=.dic (a.map λb=>mQ w b.1) a
def vS(kvs:List (D×D))(k v:D):List (D×D):=if k∈kvs.map (·.1)then kvs.map (λa=>if a.1=k then(a.1,v)else a)else kvs++[(k,v)]
def GZ(k:D):Prop:=jX k/\∃a,k=.tuple a
section
variable{K:aM}{H B:Hp}{f c:List Addr}{a m:List Sl}{g:L2.St}{p:Addr}
def Ok.re(o:Ok K B f H c a g)(hl:m.length=a.length)(hv:∀(j:Nat)(d:D),m[j]?=some (.val d)->a[j]?=some (.val d))(ho:∀(j:Nat)(ts:List D),m[j]?=some (.own ts)->a[j]?=some (.own ts))(hd:qB K B f H c m g):Ok K B f H c m g where
 base:=o.base
 sub:=o.sub
 live:=o.live
 len:=hl.trans o.len
 val:=λj d h=>o.val j d (hv j d h)
 own:=λj ts h=>o.own j ts (ho j ts h)
 dis:=λi j ts us q h1 h2 h3 h4=>o.dis i j ts us q (ho i ts h1) (ho j us h2) h3 h4
 dc:=hd
def Ok.poke(o:Ok K B f H c a g){φ:Heap->Prop}(hp:p∈c)(hB:B p=none)(he:H p=some (.ext φ))(hn:∀(j:Nat)(hs:List Int)(kvs:List (D×D)),a[j]?≠some (.dic hs kvs))(hu:autoParam (VF u=false) zzz._auto_1):Ok K B f (gG H p u) c a g where
 base:=λb w e=>by
  rw[cO λz=>by rw[z,hB]at e;cases e];exact o.base b w e
 sub:=o.sub
 live:=λq hq=>by
  by_cases e:q=p
  ·subst e;rw[cW];exact⟨_,Fc,hu⟩
  ·rw[cO e];exact o.live q hq
 len:=o.len
 val:=λi d h=>by rw[jU hp];exact o.val i d h
 own:=λi ts h=>by
  rw[jU hp];obtain⟨q,xs,h1,h2,h3,h4,h5,h6⟩:=o.own i ts h;exact⟨q,xs,h1,h2,h3,h4,by rw[cO λz=>by rw[z,he]at h5;cases h5];exact h5,h6⟩
 dis:=o.dis
 dc:=λi hs kvs h=>a9 h (hn i hs kvs)
def NJ{i j:Nat}(hs:∀d,s≠.val d)(h:(a.set i s)[j]?=some (.val d)):i≠j/\a[j]?=some (.val d):=by
 by_cases e:i=j
 ·subst e;have b:i<a.length:=by simpa using(aE.mp h).1
  rw[bK b]at h;exact a9 (c5 h) (hs d)
 ·rw[bI e]at h;exact⟨e,h⟩
def wW{i j:Nat}(hs:∀b,s≠.own b)(h:(a.set i s)[j]?=some (.own b)):i≠j/\a[j]?=some (.own b):=by
 by_cases e:i=j
 ·subst e;have d:i<a.length:=by simpa using(aE.mp h).1
  rw[bK d]at h;exact a9 (c5 h) (hs b)
 ·rw[bI e]at h;exact⟨e,h⟩
structure MW(K:aM)(B:Hp)(f:List Addr)(H:Hp)(c:List Addr)(p:Addr)(es:List (Int×Addr×V))(hs:List Int)(kvs:List (D×D)):Prop where
 mem:p∈c
 new:B p=none
 out:p∉f
 obj:H p=some (nK p es)
 hsh:hs=es.map (·.1)
 nd:(kvs.map (·.1)).Nodup
 ks:Reps K (mask H c) (kvs.map (·.1)) (es.map λe=>.ref e.2.1)
 vs:Reps K (mask H c) (kvs.map (·.2)) (es.map λe=>e.2.2)
def Ok.toDic(o:Ok K B f H c a g){i:Nat}(n:g[i]?=some (some (.ref p)))(w:∀(j:Nat)(hs:List Int)(kvs:List (D×D)),i≠j->a[j]?≠some (.dic hs kvs))(x:MW K B f H c p es hs kvs):Ok K B f H c (a.set i (.dic hs kvs)) g:=by
 refine o.re Fa (λj d h=>(NJ (by intro _ z;cases z) h).2) (λj y h=>(wW (by intro _ z;cases z) h).2) λj r s h=>?_;have v:i<a.length:=by rw[o.len];exact(aE.mp n).1
 have only:∀(l:Nat)(k:List Int)(b:List (D×D)),(a.set i (.dic hs kvs))[l]?=some (.dic k b)->i=l:=λl k b q=>by
  by_cases e:i=l
  ·exact e
  ·rw[bI e]at q;exact a9 q (w l k b e)
 obtain rfl:=only j r s h;rw[bK v]at h;injection h with h
 injection h with t u
 subst t u;exact⟨⟨p,es,n,x.mem,x.new,x.out,x.obj,x.hsh,x.nd,x.ks,x.vs⟩,λl k b q=>only l k b q⟩
def Ok.isDic(o:Ok K B f H c a g){i:Nat}(h:a[i]?=some (.dic hs kvs)):(∃(p:Addr)(k:List (Int×Addr×V)),g[i]?=some (some (.ref p))/\MW K B f H c p k hs kvs)/\∀(j:Nat)(b:List Int)(d:List (D×D)),i≠j->a[j]?≠some (.dic b d):=by
 obtain⟨⟨p,k,a1,a2,l,a4,n,q,r,s,t⟩,u⟩:=o.dc i hs kvs h;exact⟨⟨p,k,a1,a2,l,a4,n,q,r,s,t⟩,λj b d ne e=>ne (u j b d e)⟩
def Ok.forget(o:Ok K B f H c a g){i:Nat}(h:a[i]?=some (.dic hs b)):Ok K B f H c (a.set i .un) g/\∀(j:Nat)(hs:List Int)(b:List (D×D)),(a.set i .un)[j]?≠some (.dic hs b):=by
 have n:∀(j:Nat)(hs:List Int)(b:List (D×D)),(a.set i .un)[j]?≠some (.dic hs b):=λj k l e=>by
  obtain⟨ne,q⟩:=BA (by intro _ _ z;cases z) e;exact(o.isDic h).2 j k l ne q
 exact⟨o.re Fa (λj d h=>(NJ (by intro _ z;cases z) h).2) (λj r h=>(wW (by intro _ z;cases z) h).2) λj k l e=>a9 e (n j k l),n⟩
def Ok.newDic(o:Ok K B f H c a g){i:Nat}(h:i<a.length)(k:∀(j:Nat)(hs:List Int)(kvs:List (D×D)),a[j]?≠some (.dic hs kvs))(b:H p=none):Ok K B f (gG H p (nK p [])) (p::c) (a.set i (.dic [] [])) (g.set i (some (.ref p))):=by
 have l:=(o.adopt (u:=nK p []) b).setUn (i:=i) (v:=.ref p);have d:(g.set i (some (V.ref p)))[i]?=some (some (.ref p)):=bK (by rw[<- o.len];exact h)
 have n:=l.toDic (i:=i) (es:=[]) (hs:=[]) (kvs:=[]) d (λj hs kvs ne e=>by
  rw[bI ne]at e;exact k j hs kvs e) ⟨aU ..,bR.free' o.base b,λz=>jE o.live b (o.sub p z),cW,Fc,Fa,.nil,.nil⟩
 rwa [KO]at n
def Ok.shareD(o:Ok K B f H c a g){i:Nat}(O:a[i]?=some (.dic hs kvs)):∃(p:Addr)(t:List (Int×Addr×V)),g[i]?=some (some (.ref p))/\MW K B f H c p t hs kvs/\∀ep,Ok K B f (gG H p (sD p t ep)) (c.filter λq=>decide (q≠p)) (a.set i (.val (F1 hs kvs))) g/\bR (mask H c) (mask (gG H p (sD p t ep)) (c.filter λq=>decide (q≠p))):=by
 obtain⟨⟨p,t,y,x⟩,u⟩:=o.isDic O;refine⟨p,t,y,x,λep=>?_⟩;have E:i<a.length:=(aE.mp O).1;have F:p∉c.filter λq=>decide (q≠p):=λz=>(b8 (cM.mp z).2) Fc
 have n:bR (mask H c) (mask (gG H p (sD p t ep)) (c.filter λq=>decide (q≠p))):=λb v r=>by
  unfold mask at r |-
  by_cases s:b∈c
  ·rw[a7 s]at r;cases r
  ·rw[a6 s]at r;have l:b≠p:=λz=>s (z▸x.mem);rw[a6 λz=>s (cM.mp z).1,cO l];exact r
 refine⟨⟨λb v r=>?_,λq w=>cM.mpr ⟨o.sub q w,a8 λz=>x.out (z▸w)⟩,λq w=>?_,by simpa using o.len,λj d h=>?_,λj N h=>?_,λj k N Q q A C I J=>?_,λj G M h=>?_⟩,n⟩
 ·have l:b≠p:=λz=>by rw[z,x.new]at r;cases r
  rw[cO l];exact o.base b v r
 ·have l:q≠p:=b8 (cM.mp w).2;rw[cO l];exact o.live q (cM.mp w).1
 ·by_cases e:i=j
  ·subst e;rw[bK E]at h;cases h;refine⟨_,y,?_⟩;have:=iP.dct (K:=K) (ep:=ep) (nB F (cW (H:=H) (o:=sD p t ep))) x.nd (x.ks.same n) (x.vs.same n);rw[<- x.hsh]at this;exact this
  ·rw[bI e]at h;obtain⟨v,A,C⟩:=o.val j d h;exact⟨v,A,C.same n⟩
 ·obtain⟨_,h⟩:=wW (by intro _ z;cases z) h;obtain⟨q,R,A,C,I,J,L,P⟩:=o.own j N h;have l:q≠p:=λz=>by rw[z,x.obj]at L;cases L
  exact⟨q,R,A,cM.mpr ⟨C,a8 l⟩,I,J,by rw[cO l];exact L,P.same n⟩
 ·exact o.dis j k N Q q (wW (by intro _ z;cases z) A).2 (wW (by intro _ z;cases z) C).2 I J
 ·obtain⟨ne,h⟩:=BA (by intro _ _ z;cases z) h;exact a9 h (u j G M ne)
end
section
variable{X:Cx}{a b e n:Expr}{g:List Expr}{m C l:ET}{pos:Pos}
def SO(i:Nat):sZ:=λf d=>i<d.length/\(∀(j:Nat)(hs:List Int)(c:List (D×D)),d[j]?≠some (.dic hs c))/\f.nx (d.set i (.dic [] []))
def YF{i:Nat}(c:∀{v},PE X (.Dict [] [] p2) v->PS X (.Assign [.Name x pos'] (.Dict [] [] p2) pos) (wT v (kX i))):wM X (.Assign [.Name x pos'] (.Dict [] [] p2) pos) (SO i):=by
 refine⟨_,c TU,λB s H j k t q r o h f p d=>?_⟩;exact f.nx _ (p::j) _ _ (o.newDic h.1 h.2.1 d) (by rw[lZ d];exact L2.bR.refl _) h.2.2
def pC{K}{g:List (Int×Addr×V)}{c:List (D×D)}(h:c.map (λd=>mQ w d.1)=g.map (·.1))(nd:(c.map (·.1)).Nodup)(ok:∀d∈c,jX d.1)(r:Reps K H (c.map (·.1)) (g.map λe=>.ref e.2.1)):DK K w H g (c.map (·.1)):=
 ⟨r,nd,λk hk=>by obtain⟨d,f,rfl⟩:=aR.mp hk;exact ok d f,by rw[<- h,bM];rfl⟩
def HQ{K}{a:Addr}:∀{g:List (Int×Addr×V)}{c:List (D×D)}(k:D),Reps K H (c.map (·.2)) (g.map λe=>e.2.2)->iP K H v x->Reps K H ((vS c k v).map (·.2)) ((sW w g (c.map (·.1)) k a x).map λe=>e.2.2):=by
 intro g c k r h;unfold vS sW;by_cases d:k∈c.map (·.1)
 ·rw[a7 d,a7 d];clear d
  induction c generalizing g with
  |nil=>cases g with
   |nil=>exact .nil
   |cons e g=>cases r
  |cons j c i=>cases g with
   |nil=>cases r
   |cons e g=>
    rw[bE,bE]at r
    cases r with
    |cons o p=>
     rw[bE,bE,bE];unfold FS;rw[bE];refine .cons ?_ (i p);by_cases f:j.1=k
     ·rw[a7 f,a7 f];exact h
     ·rw[a6 f,a6 f];exact o
 ·rw[a6 d,a6 d,bB,bB];exact r.append (.cons h .nil)
def pB(c:List (D×D))(k v:D):(vS c k v).map (·.1)=zM (c.map (·.1)) k:=by
 unfold vS zM;split
 ·rw[bM];apply iJ;intro d _;show(if d.1=k then(d.1,v)else d).1=d.1;split<;>rfl
 ·rw[bB];rfl
def Zp(w:c7)(i:Nat)(l tv:ET):sZ:=λf d=>∃c,d[i]?=some (pS w c)/\tv d λv=>l d λk=>GZ k/\(∀kv∈c,jX kv.1)/\c.length<=100000/\f.nx (d.set i (pS w (vS c k v)))
def BM{i:Nat}{tv}(hu:X.A.units+9<u7)(hn:PE X n (sU i))(K:iM X e l)(hv:iM X value tv)(hs:autoParam (jH value (some (.Subscript n e p2)) pos.line X.env=pure false) zzz._auto_1) :
  wM X (.Assign [.Subscript n e p2] value pos) (Zp X.w i l tv):=by
 obtain⟨vv,O,rv⟩:=hv;obtain⟨vk,pk,rk⟩:=K;refine⟨_,S8 hu hn pk O hs,λB Y H ps J R DT DV o h f=>?_⟩;obtain⟨kvs,T,h⟩:=h;obtain⟨⟨p,g,t,x⟩,u⟩:=o.isDic T;refine rv B Y H ps J R _ _ o h λv y H1 Z r1 q1=>⟨.ref p,t,rk B Y H1 ps J R _ _ (o.grow Z) q1 λk z S s2 P q2=>?_⟩;obtain⟨⟨E,I,rfl⟩,hok,U,q⟩:=q2;obtain⟨a,rfl⟩:=oF P;have r:=Z.trans s2;have o2:=o.grow r;have L:=cE (ps:=ps) r;have M:=x.ks.same L;have Q:=x.vs.same L;have G:=r _ _ x.obj;have s:=pC (w:=X.w) x.hsh x.nd hok M
 have hl:g.length=kvs.length:=by
  have:=e7 gC x.hsh;simpa using this.symm
 have hL:bO=2^24:=rfl;have c:=s.put (v:=y) P E;refine⟨p,a,g,kvs.map (·.1),_,Fc,Fc,G,s.same bZ,P.same bZ,E,Ez,?_⟩;obtain⟨o3,F⟩:=o2.forget (i:=i) T;have o4:=o3.poke (u:=nK p (sW X.w g (kvs.map (·.1)) (.tuple I) a y)) x.mem x.new G F;have d:mask (gG S p (nK p (sW X.w g (kvs.map (·.1)) (.tuple I) a y))) ps=mask S ps:=jU x.mem
 have W:=o4.toDic (i:=i) (es:=sW X.w g (kvs.map (·.1)) (.tuple I) a y) (hs:=(vS kvs (.tuple I) v).map λkv=>mQ X.w kv.1) (kvs:=vS kvs (.tuple I) v) t (λj hs N _=>F j hs N)
  ⟨x.mem,x.new,x.out,cW,?_,?_,?_,?_⟩
 ·rw[KO]at W;exact f.nx _ ps _ R W (by rw[d];exact L) q
 ·rw[c.hs,<- pB kvs _ v,bM];rfl
 ·rw[pB];exact c.nd
 ·rw[d,pB];exact c.rep
 ·rw[d];exact HQ _ Q (r1.same (cE s2))
def Reps.two{K}{i:Nat}:∀{c:List (D×D)}{g:List (Int×Addr×V)}{f:D×D},Reps K H (c.map (·.2)) (g.map λe=>e.2.2)->c[i]?=some f->∃e,g[i]?=some e/\iP K H f.2 e.2.2:=by
 intro c g f r h;obtain⟨v,j,o⟩:=r.get (i:=i) (d:=f.2) (by rw[aI,h];rfl);rw[aI]at j;obtain⟨e,k,rfl⟩:=bU.mp j;exact⟨e,k,o⟩
def uT{K}{H:Hp}{f:List (D×D)}(r:iP K H (mC w f) v):∃(p:Addr)(g:List (Int×Addr×V))(k:Nat),v=.ref p/\H p=some (sD p g k)/\f.map (λo=>mQ w o.1)=g.map (·.1)/\(f.map (·.1)).Nodup/\Reps K H (f.map (·.1)) (g.map λe=>.ref e.2.1)/\Reps K H (f.map (·.2)) (g.map λe=>e.2.2):=by
 unfold mC F1 at r
 generalize h:(KN ((.str "{}",.list ((f.map λo=>mQ w o.1).map aP))::f))=d at r
 cases r with
 |@dct p g k kws h1 h2 h3 h4=>
  injection h with h
  injection h with c j
  subst j;injection c with _ c
  injection c with c
  have e:=e7 (FE λd:D=>match d with | .int i=>i | _=>0) c;simp only[bM,gh]at e;exact⟨p,g,k,Fc,h1,e,h2,h3,h4⟩
 |addr z=>
  injection h with h
  injection h with c j
  injection c with c _
  injection c with c
  exact a9 c Ex
 |ins _ _=>
  injection h with h
  injection h with c j
  injection c with c _
  injection c with c
  exact a9 c Ex
 |_=>cases h
def Km(w:c7)(d k:D)(Q:D->Prop):Prop:=∃c,d=mC w c/\GZ k/\(∀kv∈c,jX kv.1)/\∃v,(k,v)∈c/\Q v
def aAi(Z:X.A.units+9<u7)(U:iM X a m)(W:iM X b C)(hs:autoParam (Ga b) zzs._auto_1):iM X (.Subscript a b pos) (KI (Km X.w) m C):=by
 obtain⟨va,pa,ra⟩:=U;obtain⟨vb,pb,rb⟩:=W;refine⟨_,TW Z pa pb hs,λB t H u f G Q QV o h k=>ra B t H u f G _ _ o h λd x I E r1 q1=>?_⟩;refine rb B t I u f G _ _ (o.grow E) q1 λkd z J F y q2=>?_;obtain⟨r,rfl,⟨i,ys,rfl⟩,hok,v,Y,q⟩:=q2;obtain⟨c,rfl⟩:=oF y;obtain⟨p,g,N,rfl,O,P,R,S,T⟩:=uT (r1.same (cE F));obtain⟨j,s⟩:=bP Y;obtain⟨M,K,L⟩:=T.two s;exact⟨⟨c,Fc⟩,p,g,r.map (·.1),_,j,M,Fc,.inr ⟨N,bZ _ _ O⟩,(pC (w:=X.w) P R hok S).same bZ,y.same bZ,i,by rw[aI,s];rfl,K,k _ _ J (E.trans F) L q⟩
def PU{y:TS}(p:AH X sts y):AH X sts (λA j H=>∃(a:Addr)(g:List (Int×Addr×V)),H a=some (nK a g)/\∀d,y A j (gG H a (sD a g d))):=by
 intro c s j H D I ⟨a,g,v,h⟩;obtain⟨⟨q,t,o,i,d,f,B,E,F⟩,_⟩:=I.hok a _ v;refine p c s j _ D ?_ (h d);exact I.write (x:=a) (e:=a) (h':=s.heap) (t':=s.toks) (by rw[v];exact i6) (.inl Fc) (λb u _ z=>z) ⟨o,f⟩ (show jY X.prog X.w _ _ _ (sD a g d)from⟨⟨q,t,o,i,f,B,E,F⟩,⟨o,f⟩,λq t ⟨a,b,o,i,e,r⟩ k=>⟨a,b,o,i,k _ e,r⟩⟩)
def YS(i:Nat)(t:sZ):sZ:=λf d=>∃hs c,d[i]?=some (.dic hs c)/\t f (d.set i (.val (F1 hs c)))
def qT(i:Nat)(h:sJ X sts t):sJ X sts (YS i t):=by
 obtain⟨v,p,r⟩:=h;refine⟨_,PU p,λB w H A z y d j o h f=>?_⟩;obtain⟨hs,s,e,h⟩:=h;obtain⟨a,g,_,q,c⟩:=o.shareD e;refine⟨a,g,q.obj,λk=>?_⟩;obtain⟨u,x⟩:=c k;exact r B w _ _ _ y d j u h (f.later x)
end
end TL
namespace L2
open TL
noncomputable def LV(d:Addr)(i n a:Nat)(b c k v:Value):Array Value:=#[b,c,.ref d,.int i 0,.int n 0,.int a 0,k,v]
abbrev xU(h:Heap)(b d:Addr)(i n a:Nat)(c e k v:Value):Prop:=h.get? b=some { cls:=.type "dict_itemiterator",dict:=none,data:=.fields (LV d i n a c e k v),slots:=#[] }
def Iz(h:Heap)(c:Addr)(b d:Value):Prop:=(b=.none\/∃(a:Addr)(o:Obj),b=h8 a/\h.get? a=some o/\a≠c)/\∃f,d=.bool f
def Hh(h:Heap)(d:Addr)(b:Array x9)(a:Nat):Prop:=∃o,h.get? d=some o/\o.data=.dict b a
section
variable{prog:cN}{w:c7}{A:d0}{E:Value->Shared->Prop}{s:Shared}{c d:Addr}{i j:Nat}{g:Array x9}{l n k v:Value}
def MP{a:Addr}{Q:Option Obj->Shared->Prop}(e:s.heap.get? a=some o)(h:Q (some o) s):wpAny (model prog w) A (loadIfAlive a) Q E s:=by
 have b:Q (s.heap.get? a) s:=by rw[e];exact h
 exactλ_ _ _=>b
def LT{Q:Option Value->Shared->Prop}(q:xU s.heap c d i g.size j l n k v)(hg:Iz s.heap c l n)(hd:Hh s.heap d g j)(wb:i<g.size)
  (hQ:∀(I:Heap)(y0 y1 k' v':Value),xU I c d (i+1) g.size j y0 y1 k' v'->Iz I c y0 y1->(l=.none->y0=h8 s.heap.objs.size)->I.get? s.heap.objs.size=some { cls:=.type "tuple",data:=.seq #[g[i].key,g[i].val] }->I.objs.size=s.heap.objs.size+1 ->
   (∀b o,b≠c->s.heap.get? b=some o->I.get? b=some o)->Q (some (.ref s.heap.objs.size)) { s with heap:=I }):wpAny (model prog w) A (u3 (.ref c)) Q E s:=by
 obtain⟨H,G,F,J,os⟩:=s;obtain⟨od,M,L⟩:=hd;have y:l4 ⟨H,G,F,J,os⟩ (.ref c) "dict_itemiterator":=⟨_,q,Fc⟩;have N:i5 "dict_itemiterator"=true:=by decide
 unfold u3;refine aB (m8 (d7 (name:=c6 "__next__") y fT (dI fT y vH ?_ (vC _))));refine aB (aG (aB (aB ?_)))
 first | refine aB (o9 y (aG ?_)) | refine aB (y8 y (aG ?_))
 refine aB (o8 q Fc ?_);simp only[N,ak];show wpAny _ _ (if(c8 d==d8)=true then _ else _) _ _ _;rw[a6 (show¬((c8 d==d8)=true)from bN)];refine aB (aG (aB (m4 M L ?_)));rw[a6 Fa];refine aB (aG (aB (z9 M L ?_)));rw[a6 Fa];refine aG ?_;simp only[show¬((i:Int)<0)from by lia,g9,dX,bV wb];refine aB ?_
 first | refine aB (o9 y (aG ?_)) | refine aB (y8 y (aG ?_))
 refine aB (bw y ?_);show wpAny _ _ (bn (.ref c) 3 (h8 ((i:Int)+1)) >>= _) _ _ ⟨H,G,F,J,os⟩;refine aB (l3 q (by simp[LV]) λC K O=>?_)
 replace O:cV c H C:=O
 replace K:xU C c d (i+1) g.size j l n k v:=by
  have e:((i+1:Nat):Int)=(i:Int)+1:=by lia
  unfold xU LV;rw[e];simpa[h8,LV]using K
 have B:l4 ⟨C,G,F,J,os⟩ (.ref c) "dict_itemiterator":=⟨_,K,Fc⟩;refine aB (h7 (aB (bw B (aB (bw B ?_)))));show wpAny _ _ (ba (.ref c) 6 g[i].key g[i].val) _ _ ⟨C,G,F,J,os⟩;unfold ba;refine aB (ia ?_)
 generalize m:C.push { cls:=.type "tuple",data:=.seq #[g[i].key,g[i].val] }=H2
 have t:xU H2 c d (i+1) g.size j l n k v:=by rw[<- m];exact aJ _ K
 have z1:C.objs.size=H.objs.size:=O.1;have vp:c<H.objs.size:=bF q;have t2:H2.get? H.objs.size=some { cls:=.type "tuple",data:=.seq #[g[i].key,g[i].val] }:=by rw[<- m,<- z1];exact aW _ Fc
 have z2:H2.objs.size=H.objs.size+1:=by rw[<- m,eV,z1]
 have R:∀b o,b≠c->H.get? b=some o->H2.get? b=some o:=λb o h e=>by rw[<- m];exact aJ _ (O.extBut b o h e)
 have r:H.objs.size≠c:=fN vp;show wpAny _ _ (aw (.ref c) >>= _) _ _ ⟨H2,G,F,J,os⟩;rw[z1];clear m K O B z1;unfold aw;obtain⟨Bn,f,rfl⟩:=hg;rcases Bn with rfl | ⟨a,oa,rfl,ha,p⟩
 ·refine aB (aB (t4 t Fc (x:=.none) Fc (aG ?_)));simp only[ak];refine aB (t4 t Fc (x:=k) Fc (aB (t4 t Fc (x:=v) Fc ?_)));refine aB (l3 t (by simp[LV]) λH3 u s3=>?_)
  replace s3:cV c H2 H3:=s3
  replace u:xU H3 c d (i+1) g.size j .none (.bool f) g[i].key v:=u
  refine aB (l3 u (by simp[LV]) λW Y S=>?_)
  replace S:cV c H3 W:=S
  replace Y:xU W c d (i+1) g.size j .none (.bool f) g[i].key g[i].val:=Y
  refine aB (l3 Y (by simp[LV]) λX Z T=>?_)
  replace T:cV c W X:=T
  replace Z:xU X c d (i+1) g.size j (h8 H.objs.size) (.bool f) g[i].key g[i].val:=Z
  refine aB (l3 Z (by simp[LV]) λP e6 U=>?_)
  replace U:cV c X P:=U
  replace e6:xU P c d (i+1) g.size j (h8 H.objs.size) (.bool false) g[i].key g[i].val:=e6
  have up:∀b o,b≠c->H2.get? b=some o->P.get? b=some o:=λb o h e=>U.extBut b o h (T.extBut b o h (S.extBut b o h (s3.extBut b o h e)));exact aB (ft (aG (aG ⟨_,Fc,aG (hQ P _ _ _ _ e6 ⟨.inr ⟨_,_,Fc,up _ _ r t2,r⟩,_,Fc⟩ (λ_=>rfl) (up _ _ r t2) (by rw[U.1,T.1,S.1,s3.1,z2]) λb o h e=>up b o h (R b o h e))⟩)))
 ·have fin:∀H3:Heap,xU H3 c d (i+1) g.size j (h8 a) (.bool true) k v->cV c H2 H3->Q (some (.ref H.objs.size)) ⟨H3,G,F,J,os⟩:=λH3 u s3=>
   hQ H3 _ _ _ _ u ⟨.inr ⟨a,oa,Fc,s3.extBut _ _ p (R a oa p ha),p⟩,_,Fc⟩ (λz=>by cases z) (s3.extBut _ _ r t2) (by rw[s3.1,z2]) λb o h e=>s3.extBut b o h (R b o h e)
  refine aB (aB (t4 t Fc (x:=h8 a) Fc ?_));show wpAny _ _ (loadIfAlive ((a:Int).toNat) >>= _) _ _ _;rw[dX];refine aB (MP (R a oa p ha) ?_);simp only[Option.isNone_some,eH,g9];refine aB (t4 t Fc (x:=.bool f) Fc ?_)
  cases f with
  |true=>
   rw[a6 (show¬((u6 true != u6 true)=true)from bN)];refine aG ?_;simp only[eH,g9];exact aG (aG ⟨_,Fc,aG (fin H2 t (cV.refl _ _))⟩)
  |false=>
   rw[a7 (show(u6 false != u6 true)=true from Fc)];refine aB (l3 t (by simp[LV]) λH3 u s3=>?_);refine aG ?_;simp only[eH,g9];exact aG (aG ⟨_,Fc,aG (fin H3 u s3)⟩)
def QI{Q:Option Value->Shared->Prop}(t:A.handled=none)(e:xU s.heap c d i g.size j l n k v)(hd:Hh s.heap d g j)(q:g.size<=i)
  (u:∀r,C7 c s.heap r->Q none { s with heap:=r }):wpAny (model prog w) A (u3 (.ref c)) Q E s:=by
 obtain⟨x,o,h⟩:=hd;have f:s.TypeIs (.ref c) "dict_itemiterator":=⟨_,e,Fc⟩;have p:i5 "dict_itemiterator"=true:=by decide
 unfold u3;refine aB (m8 (d7 (name:=c6 "__next__") f fT (dI fT f vH ?_ (vC _))));refine aB (aG (aB (aB ?_)))
 first | refine aB (o9 f (aG ?_)) | refine aB (y8 f (aG ?_))
 refine aB (o8 e Fc ?_);simp only[p,ak];show wpAny _ _ (if(c8 d==d8)=true then _ else _) _ _ s;rw[a6 (show¬((c8 d==d8)=true)from bN)];refine aB (aG (aB (m4 o h ?_)));rw[a6 Fa];refine aB (aG (aB (z9 o h ?_)));rw[a6 Fa];refine aG ?_;simp only[show¬((i:Int)<0)from by lia,g9,dX,eY q];refine aB ?_
 first | refine aB (o9 f (aG ?_)) | refine aB (y8 f (aG ?_))
 show wpAny _ _ (bn (.ref c) 2 .none >>= _) _ _ s;refine aB (l0 e Fc (by simp[LV]) ?_);show wpAny _ _ (ez (.type "StopIteration") [] >>= _) _ _ _;refine aB ?_;simp only[ez,rl];refine aB (dG ?_ (by size_fits));refine aB (m:=o7 _ _) (cw (a:=d8) (by first | rfl | (simp only[o7];rfl)) ?_);refine dG ?_ (by size_fits);simp only[rm];refine aB (dk ?_)
 first | rw[show A.in1.handled=none from t] | rw[t]
 refine aB (aG (fu ?_));refine aB (y4 (T:="StopIteration") (b:=true) ⟨_,aW _ Fc,Fc⟩ cq ?_);exact aG (u _ (((cV.update ..).extBut.push _).push _))
def R1(v d:Addr)(h:Heap):Prop:=∃o,h.get? v=some o/\o.cls=.type "dict_items"/\o.data=.fields #[.ref d]
def LU{m:Addr}{Q:Value->Shared->Prop}(t:R1 m d s.heap)(hd:Hh s.heap d g j)
  (r:Q (.ref s.heap.objs.size) { s with heap:=s.heap.push { cls:=.type "dict_itemiterator",data:=.fields (LV d 0 g.size j .none (.bool false) .none .none) } }):wpAny (model prog w) A (bg (.ref m)) Q E s:=by
 obtain⟨u,b,f,h⟩:=t;obtain⟨o,q,a⟩:=hd;have p:s.TypeIs (.ref m) "dict_items":=⟨u,b,f⟩;refine m5 p AM (dI AM p PySem.F.entry_dict_items_iter ?_ (PySem.F.args_dict_items_iter_1 _));unfold l9.«dict_items.__iter__»;refine aB (aG (aB ?_));unfold Builtin.Dict_items.dictOf;refine aB (t4 b h (x:=.ref d) Fc (aG (aB ?_)));unfold Builtin.Dict_items.newIterator;refine aB (m4 q a (aB (z9 q a ?_)));have e:i5 "dict_itemiterator"=true:=by decide
 simp only[e,ak]
 refine dG (aG ⟨_,Fc,"dict_itemiterator",_,⟨_,aW _ Fc,Fc⟩,fT.lookup,?_⟩)
  (by simp only[sizeOk,av,bJ,bH,dB,DE,w6];lia)
 simpa[h8,LV,av]using r
end
section
variable{X:Cx}{a:List (Addr×Obj)}{b:St}{H:Hp}{s:Shared}
noncomputable def DW(v p:Addr):HO:=.ext (R1 v p)
def UV:XF X "dict.items" (λx g H Q=>g=[]/\∃(p:Addr)(c:List (Int×Addr×V)),x=.ref p/\C3 H p c/\∀v,H v=none->Q (.ref v) (gG H v (DW v p))):=by
 intro a s b H x g v m Q I i r h;obtain⟨rfl,p,c,rfl,f,q⟩:=h;cases i;cases r;have d:=AR I f;obtain⟨hs,_⟩:=C3.at I f;refine dI E7 d PySem.F.entry_dict_items ?_ (PySem.F.args_dict_items_1 _);unfold l9.«dict.items»;refine aB ?_;unfold Builtin.Dict.noArgs;refine aB (jo d ?_);show wpAny _ _ (pure p) _ _ s;refine aG ?_;show wpAny _ _ (x8 p >>= _) _ _ s;unfold x8;rw[a6 (by rw[hs];exact bN)];refine aB (aG (aB (dG (aG ⟨_,Fc,?_⟩))));exact⟨.ref s.heap.objs.size,_,I.laid (t':=s.toks) (o:=DW s.heap.objs.size p) (λ_ _ e=>aJ _ e) (aN _) ⟨⟨_,aW _ Fc,Fc,Fc⟩,⟨_,aW _ Fc⟩,λj l ⟨o,e,r⟩ k=>⟨o,k _ e,r⟩⟩,Fc,q _ (I.hok.fresh (aN _))⟩
end
section
variable{X:Cx}{o:Expr}{to:TE}{b c:Pos}
def P0(r:PE X o to)(f:autoParam (v4 o "items" X.env (eval o X.env)=eval o X.env) zzz._auto_1)(g:autoParam ((b.endLine==c.line)=true) zzz._auto_1) :
  PE X (.Call (.Attribute o "items" b) [] [] c) (λj H Q=>to j H λx i=>∃(p:Addr)(l:List (Int×Addr×V)),x=.ref p/\C3 i p l/\∀v,i v=none->Q (.ref v) (gG i v (DW v p))):=by
 intro d s j H Q I h;refine iy f g (jR (r d s j H _ I h) λv u w=>?_);obtain⟨x,i,k,t,p,l,ex,m,q1⟩:=w;subst ex;obtain rfl:v=c8 p:=t;obtain⟨_,_,ob,y,z,n,q,_⟩:=C3.at k m;exact⟨"dict","dict.items",E8,E7,PySem.F.type_dict_items,AR k m,λa e=>by cases e;exact⟨ob,n,q.2.1⟩,y9 Fc (ig (UV d u j i (.ref p) [] (.ref p) [] Q k Fc .nil ⟨Fc,p,l,Fc,m,q1⟩))⟩
end
section
theorem CL:∀{es ds}{j:Nat}{d},Paired MV es ds->ds[j]?=some d->∃e,es[j]?=some e/\MV e d
|_,_,_,_,.nil,h=>by simp at h
|_,_,0,_,.cons r t,h=>by simp at h;subst h;exact⟨_,Fc,r⟩
|_,_,j+1,d,.cons r t,h=>by
 obtain⟨e,a,b⟩:=CL (j:=j) (d:=d) t (by simpa using h);exact⟨e,by simpa using a,b⟩
end
def J9(h:Heap)(d:Addr)(b:Array x9)(a:Nat):Prop:=∃o,h.get? d=some o/\o.ExactDict/\o.data=.dict b a
section
variable{prog:cN}{w:c7}{A:d0}{E:Value->Shared->Prop}{s:Shared}
def JN{d:Addr}{b:Array x9}{g:Nat}{Q:Value->Shared->Prop}(hd:(d==m7)=false)(j:J9 s.heap d b g)
  (h:Q (.ref s.heap.objs.size) { s with heap:=s.heap.push { cls:=.type "dict_keyiterator",data:=.fields #[.ref d,.int 0 0,.int b.size 0,.int g 0] } }) :
  wpAny (model prog w) A (bg (.ref d)) Q E s:=by
 obtain⟨o,e,i,a⟩:=id j;have c:s.TypeIs (.ref d) "dict":=⟨o,e,i.1⟩;refine m5 c G7 (dI G7 c PySem.F.entry_dict_iter ?_ (PySem.F.args_dict_iter_1 _));unfold l9.«dict.__iter__»;refine aB ?_;unfold Builtin.Dict.dictSlotNone;refine aB (jo c ?_);show wpAny _ _ (pure (c8 d)) _ _ s;refine aG ?_;show wpAny _ _ (x8 d >>= _) _ _ s;unfold x8;rw[a6 (by rw[hd];exact bN)];refine aB (aG ?_);refine aB (m4 e a ?_);refine aB (z9 e a ?_);have f:b.size=b.size:=rfl;refine aB (dG (aG ⟨_,Fc,"dict_keyiterator",_,⟨_,aW _ Fc,Fc⟩,hU.lookup,?_⟩));simpa[h8,f]using h
def JF{e d:Addr}{i k:Nat}{b:Array x9}{Q:Option Value->Shared->Prop}(a:s.heap.IsKeyIter e d i b.size k)
  (r:J9 s.heap d b k) (g:i<b.size)
  (n:∀l,l.IsKeyIter e d (i+1) b.size k->cV e s.heap l->Q (some b[i].key) { s with heap:=l }) :
  wpAny (model prog w) A (u3 (.ref e)) Q E s:=by
 obtain⟨o,m,p,hd⟩:=id a;obtain⟨u,h,q,f⟩:=id r;unfold u3
 refine aB (m8 (d7 (name:=c6 "__next__") a.typeIs hU
  (dI hU a.typeIs vQ ?_ (vI _))))
 refine aB (aG ?_);refine aB ?_;refine aB ?_
 first | refine aB (u0 a.typeIs (aG ?_)) | refine aB (z6 a.typeIs (aG ?_))
 refine aB (o8 m hd ?_);have j:i5 "dict_keyiterator"=false:=by decide
 simp only[j,eH,g9];show wpAny _ _ (if(c8 d==d8)=true then _ else _) _ _ s;rw[a6 (show¬((c8 d==d8)=true)from bN)];refine aB (aG ?_);refine aB (m4 h f ?_);have t:b.size=b.size:=rfl;rw[a6 Fa];refine aB (aG ?_);refine aB (z9 h f ?_);rw[a6 Fa];refine aG ?_;simp only[show¬((i:Int)<0)from by lia,g9,dX,bV g];refine aB ?_
 first | refine aB (u0 a.typeIs (aG ?_)) | refine aB (z6 a.typeIs (aG ?_))
 refine aB (jn a.typeIs ?_);show wpAny _ _ (bn (.ref e) 1 (h8 ((i:Int)+1)) >>= _) _ _ s;refine aB (l0 m hd Fa ?_)
 have c:(s.heap.update e (am (·.setIfInBounds 1 (h8 ((i:Int)+1))))).IsKeyIter e d (i+1) b.size k:=
  ⟨_,fE _ m (u2 (e8 hd _)),(bb ..).trans p,by rw[e8 hd];simp[h8]⟩
 refine aB (h7 ?_);refine aB (jn (s:={ s with heap:=s.heap.update e (am (·.setIfInBounds 1 (h8 ((i:Int)+1)))) }) c.typeIs ?_);show wpAny _ _ (pure b[i].key) _ _ _;exact aG (aG ⟨_,Fc,aG (n _ c (cV.update ..))⟩)
def OE{j d:Addr}{i l:Nat}{e:Array x9}{Q:Option Value->Shared->Prop}(t:A.handled=none)(c:s.heap.IsKeyIter j d i e.size l)
  (u:J9 s.heap d e l) (x:e.size<=i)
  (q:∀n,C7 j s.heap n->Q none { s with heap:=n }):wpAny (model prog w) A (u3 (.ref j)) Q E s:=by
 obtain⟨o,p,y,hd⟩:=id c;obtain⟨z,g,r,f⟩:=id u;unfold u3
 refine aB (m8 (d7 (name:=c6 "__next__") c.typeIs hU
  (dI hU c.typeIs vQ ?_ (vI _))))
 refine aB (aG ?_);refine aB ?_;refine aB ?_
 first | refine aB (u0 c.typeIs (aG ?_)) | refine aB (z6 c.typeIs (aG ?_))
 refine aB (o8 p hd ?_);have h:i5 "dict_keyiterator"=false:=by decide
 simp only[h,eH,g9];show wpAny _ _ (if(c8 d==d8)=true then _ else _) _ _ s;rw[a6 (show¬((c8 d==d8)=true)from bN)];refine aB (aG ?_);refine aB (m4 g f ?_);have v:e.size=e.size:=rfl;rw[a6 Fa];refine aB (aG ?_);refine aB (z9 g f ?_);rw[a6 Fa];refine aG ?_;have k:e.size<=i:=x;simp only[show¬((i:Int)<0)from by lia,g9,dX,eY k];refine aB ?_
 first | refine aB (u0 c.typeIs (aG ?_)) | refine aB (z6 c.typeIs (aG ?_))
 show wpAny _ _ (bn (.ref j) 0 .none >>= _) _ _ s;refine aB (l0 p hd Fa ?_);show wpAny _ _ (ez (.type "StopIteration") [] >>= _) _ _ _;refine aB ?_;simp only[ez,rl];refine aB (dG ?_ (by size_fits));refine aB (m:=o7 _ _) (cw (a:=d8) (by first | rfl | (simp only[o7];rfl)) ?_);refine dG ?_ (by size_fits);simp only[rm];refine aB (dk ?_);rw[show A.in1.handled=none from t];refine aB (aG (fu ?_));refine aB (y4 (T:="StopIteration") (b:=true) ⟨_,aW _ Fc,Fc⟩ cq ?_);exact aG (q _ (((cV.update ..).extBut.push _).push _))
end
noncomputable def Mp(p:Addr)(a:List (Int×Addr×V))(b:Nat):It:=⟨λi H=>H p=some (sD p a b)/\i<a.length,λi H x c=>c=H/\∃e,a[i]?=some e/\x=.ref e.2.1,λi H=>H p=some (sD p a b)/\a.length<=i⟩
def O9{K}(p it:Addr)(es:List (Int×Addr×V))(ep:Nat):C0 P w K tg (Mp p es ep) [it] it (λi h=>h.IsKeyIter it p i es.length ep) where
 mem:=by simp
 obj:=λi h st b hb=>by
  have e:b=it:=by simpa using hb
  subst e;obtain⟨o,e,c,d⟩:=st;exact⟨o,e,λv z=>by rw[d]at z;cases z⟩
 keep:=λi h h' st k=>by
  obtain⟨o,e,r⟩:=st;exact⟨o,k it Fa o e,r⟩
 item:=by
  intro X hP hw hK hc i pins s σ H E I hf st hg;subst hP hw hK;obtain⟨hp,hi⟩:=hg;obtain⟨⟨h1,h2,o,xs,h3,h4,h5,h6⟩,_⟩:=I.hok p _ hp;have hsz:es.length=xs.size:=by rw[<- bQ];exact g7 h6
  have sy:i<xs.size:=by lia
  obtain⟨f0,f1,f2,f3,f4,f5⟩:=hf it Fa;rw[hsz]at st;refine JF st ⟨o,h3,h4,h5⟩ sy λh' eh sb=>?_;have I1:eG X pins σ H { s with heap:=h' }:=I.turned (t':=s.toks) (λb o hb e=>(sb.2 b hb).trans e) f0 f1 f3 f4 f5;obtain⟨en,e1,e2⟩:=CL (j:=i) (d:=xs[i]) h6 (by simp[sy]);obtain⟨o',e,c,d⟩:=id eh;rw[<- hsz]at eh;rw[e2.2.1];exact⟨_,Fc,EL (s:={ s with heap:=h' }) e c d Ey ⟨.ref en.2.1,H,I1,Fc,⟨Fc,en,e1,Fc⟩,eh,λb hb=>(hf b hb).1⟩⟩
 done:=by
  intro X hP hw hK hc i pins s σ H E I hf st hg;subst hP hw hK;obtain⟨hp,hi⟩:=hg;obtain⟨⟨h1,h2,o,xs,h3,h4,h5,h6⟩,_⟩:=I.hok p _ hp;have hsz:es.length=xs.size:=by rw[<- bQ];exact g7 h6
  obtain⟨f0,f1,f2,f3,f4,f5⟩:=hf it Fa;rw[hsz]at st;exact OE (I.ok.hd hc) st ⟨o,h3,h4,h5⟩ Ez λh' eb=>⟨Fc,I.turned (t':=s.toks) (λb o hb e=>eb b o hb e) f0 f1 f3 f4 f5⟩
 self:=λ_ _ _ _ _ st h=>rz st h
section
variable{X:Cx}{a:Expr}
def OK(e:TE):TI:=λf H R=>e f H λx b=>∃(p:Addr)(d:List (Int×Addr×V))(c:Nat),x=.ref p/\b p=some (sD p d c)/\R (Mp p d c) b
def Y7(y:PE X l tl):PI X a l (OK tl):=by
 intro c s E H R I h;refine jR (y c s E H _ I h) λv f C=>?_;obtain⟨x,j,d,A,q1⟩:=C;obtain⟨p,i,k,e,z,q⟩:=q1;subst e;obtain rfl:v=c8 p:=A;obtain⟨⟨m,F,o,B,n,r,t,u⟩,_⟩:=d.hok p _ z;have g:i.length=B.size:=by rw[<- bQ];exact g7 u
 refine JN m ⟨o,n,r,t⟩ ?_;refine⟨f.heap.objs.size,[f.heap.objs.size],_,_,j,Fc,d.kept (t':=f.toks) λb o e=>aJ _ e,O9 p _ i k,⟨_,aW _ Fc,Fc,by rw[g];rfl⟩,λb w=>?_,q⟩;have e:b=f.heap.objs.size:=by simpa using w
 subst e;exact d.fpOk (aN _) (d.hok.fresh (aN _))
end
end L2
namespace TL
open L2
section
variable{X:Cx}{e:Expr}{a:ET}
def Rb(w:c7)(a:ET):IT:=λc Q=>a c λd=>∃b,d=mC w b/\Q (b.map (·.1))
def ZZ(A:iM X e a):KJ X tg e (Rb X.w a):=by
 obtain⟨S,F,re⟩:=A;refine⟨_,Y7 F,λB E H G f K Q R o h k=>re B E H G f K _ _ o h λd x m J I q1=>?_⟩;obtain⟨b,rfl,q⟩:=q1;obtain⟨p,g,t,rfl,c,M,N,j,O⟩:=uT I;refine⟨p,g,t,Fc,bZ _ _ c,k (b.map (·.1)) _ m J ?_ q⟩;have P:(b.map (·.1)).length=g.length:=by rw[j.length,aC]
 refine⟨λi H e l=>⟨e _ _ c,Ez⟩,λi H e l=>⟨e _ _ c,Ez⟩,λi H qs y L _ e l C=>?_⟩;obtain⟨rfl,s,r,rfl⟩:=C;obtain⟨n,u,z⟩:=j.get' (i:=i) (v:=.ref s.2.1) (by rw[aI,r];rfl);exact⟨L2.bR.refl _,n,u,z.same e⟩
end
end TL
namespace L2
open TL
section
variable{prog:cN}{w:c7}{A:d0}{E:Value->Shared->Prop}{s:Shared}{d:Addr}{ep:Nat}{xs:Array x9}
def R0(hh:A.handled=none)(I:Addr)(im:d≠I) :
  Walks prog w A I [I,d] [I] xs.size (λi v=>∃e,xs[i]?=some e/\v=e.key) (λi h=>h.IsKeyIter I d i xs.size ep/\J9 h d xs ep) where
 sub:=λb hb=>by simp at hb;simp[hb]
 frame:=λ_ _ _ st hk=>by
  obtain⟨⟨o,ho,r⟩,⟨p,hp,q⟩⟩:=st;exact⟨⟨o,hk I Fa o ho,r⟩,⟨p,hk d Fa p hp,q⟩⟩
 item:=λi s Q E hi st hQ=>by
  refine JF st.1 st.2 hi λh' gr sq=>?_;obtain⟨p,hp,q⟩:=st.2;exact hQ _ h' s.toks ⟨_,bV hi,Fc⟩ ⟨gr,⟨p,sq.extBut d p im hp,q⟩⟩ λb o hb e=>sq.extBut b o (λh=>hb (by simp[h])) e
 done:=λs Q E st hQ=>OE hh st.1 st.2 (aN _) λh' vm=>hQ h' s.toks λb o hb e=>vm b o (λh=>hb (by simp[h])) e
 self:=λ_ _ _ _ st hQ=>rz st.1 hQ
def CU{Q:Value->Shared->Prop}(hh:A.handled=none)(h0:(d==m7)=false)(hd:J9 s.heap d xs ep)(hn:xs.size<=bO)
  (hQ:∀(t:Heap)(L:Nat)(a:Array Value)(c:Nat),(∀b o,s.heap.get? b=some o->t.get? b=some o)->t.get? s.heap.objs.size=some { cls:=.type "list",dict:=none,data:=.seq a c,slots:=#[] }->a.toList=xs.toList.map (·.key)->Q (.ref s.heap.objs.size) { s with heap:=t,toks:=L }) :
  wpAny (model prog w) A (call (.type "list") [.ref d]) Q E s:=by
 have f:d<s.heap.objs.size:=let ⟨_,ho,_⟩:=hd;bF ho
 refine callType_codes (Q₁:=λobj k=>obj=.ref s.heap.objs.size/\k={ s with heap:=s.heap.push { cls:=.type "list",data:=.seq #[] } }) PySem.F.called_list (PySem.F.typeCall_list_1 _) PySem.F.entry_list_init (code_list_new _ ⟨Fc,Fc⟩) λobj k C=>?_;obtain⟨rfl,rfl⟩:=C
 generalize l:s.heap.push { cls:=.type "list",data:=.seq #[] }=G1
 have J:G1.get? s.heap.objs.size=some { cls:=.type "list",data:=.seq #[] }:=by rw[<- l];exact aW _ Fc
 have k1:∀b o,s.heap.get? b=some o->G1.get? b=some o:=λb o e=>by rw[<- l];exact aJ _ e
 have z1:G1.objs.size=s.heap.objs.size+1:=by rw[<- l,eV]
 generalize T:s.heap.objs.size=S at *
 refine⟨⟨_,J,Fc⟩,PySem.F.args_list_init_2 _ _,?_⟩;show wpAny _ _ (do let old <- di (.ref S);Builtin.List.listUpdate (.ref S) (λ_=>#[]);letGo old.toList.reverse;g8 (.ref S) (.ref d) .none) _ _ _;refine aB ?_;unfold di;refine aB (cx J Fc (aG ?_));show wpAny _ _ (fe S (λ_=>#[]) >>= λ_=>letGo (#[]:Array Value).toList.reverse >>= λ_=>g8 (.ref S) (.ref d) .none) _ _ _;refine aB (aa J Fc ?_);have n:=fE (c9 (λ_=>(#[]:Array Value))) J Fc
 generalize u:G1.update S (c9 (λ_=>(#[]:Array Value)))=G2 at n
 have k2:∀b o,b≠S->G1.get? b=some o->G2.get? b=some o:=λb o g e=>by rw[<- u];exact(iH _ _ (l5 g)).trans e
 have z2:G2.objs.size=S+1:=by rw[<- u,BI,z1]
 have p:J9 G2 d xs ep:=let ⟨o,h1,h2⟩:=hd;⟨o,k2 d o (bS f) (k1 d o h1),h2⟩
 refine aB (ft ?_);unfold g8;have z:l4 { s with heap:=G2 } (.ref d) "dict":=let ⟨o,h1,h2,_⟩:=p;⟨o,h1,h2.1⟩
 refine aB (al z ?_)
 have b1:cy (.ref S) (.ref d)=false:=by
  show(S==d)=false;exact beq_eq_false_iff_ne.mpr (fN f)
 have b2:(j8 "dict"==j8 "list")=false:=by decide
 have b3:(j8 "dict"==j8 "tuple")=false:=by decide
 simp only[b1,b2,b3,xY,eH,g9];refine aB (JN (s:={ s with heap:=G2 }) h0 p ?_);show wpAny _ _ _ _ _ { s with heap:=G2.push _ }
 generalize m:G2.push { cls:=.type "dict_keyiterator",data:=.fields #[.ref d,.int 0 0,.int xs.size 0,.int ep 0] }=G3
 have G:∀b o,G2.get? b=some o->G3.get? b=some o:=λb o e=>by rw[<- m];exact aJ _ e
 have M:G3.get? (S+1)=some { cls:=.type "dict_keyiterator",data:=.fields #[.ref d,.int 0 0,.int xs.size 0,.int ep 0] }:=by rw[<- m,<- z2];exact aW _ Fc
 have z3:G3.objs.size=S+2:=by rw[<- m,eV,z2]
 have U:l4 { s with heap:=G3 } (.ref d) "dict":=let ⟨o,h1,h2⟩:=z;⟨o,G _ _ h1,h2⟩
 have j:S+1≠S:=fN (fA _);have X:d≠S+1:=bS (fB f)
 have O:S∉[S+1,d]:=by
  simp only[aY,dR,j3,tA];exact⟨l5 j,fN f⟩
 have H:∀(h:Heap)(c L:Nat),(∀b o,b≠S->G3.get? b=some o->h.get? b=some o)->h.get? S=some { cls:=.type "list",dict:=none,data:=.seq #[] c,slots:=#[] } ->
   z8 (model prog w) A.in1 (.builtin "list.extend.loop" ⟨[.ref S,.ref (S+1),.none],[]⟩) (wants (λr I=>r=d8/\Q (.ref S) I) E) { s with heap:=h,toks:=L }:=λh c L Y R=>by
  have W:=(R0 (prog:=prog) (w:=w) (A:=A.in1.in1) (d:=d) (xs:=xs) (ep:=ep) (by simp[hh]) (S+1) X).toS;have st:h.IsKeyIter (S+1) d 0 xs.size ep/\J9 h d xs ep:=⟨⟨_,Y _ _ j M,Fc,Fc⟩,let ⟨o,h1,h2⟩:=p;⟨o,Y d o (bS f) (G _ _ h1),h2⟩⟩;refine nc W hn S O .none xs.size 0 _ #[] c Fc (cI _) st R (ItemsOf.nil _) λs' a c' K N q=>⟨Fc,?_⟩;obtain⟨t,g',d',zj,Z⟩:=s';have eg:g'=s.gens:=K.gens;have ed:d'=s.drawn:=K.drawn;have eo:Z=s.os:=K.os;subst eg;subst ed;subst eo;refine hQ t zj a c' (λb o e=>?_) N ?_
  ·have g:b<S:=by rw[<- T];exact bF e
   refine K.heap b o ?_ (Y b o (bS g) (G b o (k2 b o (bS g) (k1 b o e))));simp only[aY,dR,j3,tA];exact⟨bS g,bS (fB g)⟩
  ·apply gY;intro i;rw[aI,eD,eD];by_cases hi:i<xs.size
   ·have B:i<a.size:=by have:=q.1;lia
    obtain⟨x,hx,hv⟩:=q.2 i a[i] (bV B);rw[bV B,hx,hv];rfl
   ·rw[eY (by have:=q.1;lia),eY Ez];rfl
 refine aB (h7 (PySem.W.kdl_hint_dict U ?_));dsimp only;rw[z2];refine wpAny_ite_split (λ_=>?_) (λ_=>aG ⟨z5 pT _,H _ _ _ (λb o _ e=>e) (G _ _ n)⟩);have v:=G _ _ n;refine aB (m9 (aB ?_));show wpAny _ _ (fe S (·.push .none) >>= λ_=>fe S (·.pop)) _ _ _;refine aB (aa v Fc ?_);have y:=fE (c9 (·.push d8)) v Fc;refine aa (hz:=by seq_fits) y Fc ?_;have P:=fE (c9 (·.pop)) y Fc;exact aG ⟨z5 pT _,H _ _ _ (λb o g e=>(iH _ _ (l5 g)).trans ((iH _ _ (l5 g)).trans e)) P⟩
end
theorem EI:∀{b:List (Int×Addr×V)}{a:List x9},Paired MV b a->gM (b.map λe=>V.ref e.2.1) (a.map (·.key))
|_,_,.nil=>.nil
|_,_,.cons r t=>.cons (show _=_ from r.2.1) (EI t)
section
variable{X:Cx}
def oO(x:X.calm=true):kO X (.type "list") (λi H Q=>∃(p:Addr)(a:List (Int×Addr×V)),i=[.ref p]/\C3 H p a/\∀l,H l=none->Q (.ref l) (gG H l (.lst (a.map λe=>.ref e.2.1)))):=by
 intro g s J H i G Q I r h;obtain⟨p,a,rfl,y,q⟩:=h;obtain⟨u,rfl,B⟩:=oB r;cases B;obtain⟨k,m,o,j,E,n,t,v,f⟩:=C3.at I y;have z:a.length=j.size:=by rw[<- bQ];exact g7 f
 refine CU (I.ok.hd x) k ⟨o,n,t,v⟩ Ez λF C d c A w b=>?_;refine⟨.ref _,_,I.laid (t':=C) (o:=.lst (a.map λe=>.ref e.2.1)) A (aN _) ?_,Fc,q _ (I.hok.fresh (aN _))⟩;exact⟨by rw[aC];exact m,d.toList,c,by rw[b];exact EI f,by simpa using w⟩
end
end L2
namespace TL
open L2
section
variable{X:Cx}{e:Expr}{a:ET}{pos:Pos}
def Yc(w:c7)(a:ET):ET:=λc Q=>a c λd=>∃b,d=mC w b/\Q (.list (b.map (·.1)))
def CG(r:iM X e a)(hs:autoParam (cD [e] X.env=(false,eval e X.env)::cD [] X.env) zzz._auto_1)
  (pc:∀{v},PA X [e] (sN v BJ)->PE X (.Call g [e] [] pos) (SC (λA H Q=>∃(p:Addr)(b:List (Int×Addr×V)),A=[.ref p]/\C3 H p b/\∀l,H l=none->Q (.ref l) (gG H l (.lst (b.map λe=>.ref e.2.1)))) (sN v BJ))) :
  iM X (.Call g [e] [] pos) (Yc X.w a):=by
 obtain⟨v,u,re⟩:=r;refine⟨_,pc (jC u lD hs),λB t H y c C Q F o h k=>re B t H y c C _ _ o h λd x E i z q1=>?_⟩;obtain⟨s,rfl,q⟩:=q1;obtain⟨p,b,j,rfl,m,G,I,n,J⟩:=uT z;exact⟨p,b,Fc,.inr ⟨j,bZ _ _ m⟩,λl f=>k _ _ _ (i.trans (eX f)) (rY (o.grow i).live f n) q⟩
end
end TL
namespace L2
open TL
noncomputable def Ja(lo:Int)(n:Nat):It:=⟨λi _=>i<n,λi H x a=>a=H/\x=.int (lo-i),λi _=>n<=i⟩
def O8{K}(it:Addr)(lo:Int)(n:Nat):C0 P w K tg (Ja lo n) [it] it (λi h=>fh h it (lo+(i:Nat)*(-1)) ((n:Int)-(i:Nat)) (-1)) where
 mem:=by simp
 obj:=λi h st b hb=>by
  have e:b=it:=by simpa using hb
  subst e
  exact⟨_,st,λv z=>by
   have z':dm _=Data.cell v:=z;cases z'⟩
 keep:=λi h h' st k=>k it Fa _ st
 item:=by
  intro X hP hw hK hc i pins s σ H E I hf st hg;subst hP hw hK;obtain⟨f0,f1,f2,f3,f4,f5⟩:=hf it Fa;have W:=Walks.range (prog:=X.prog) (w:=X.w) (I.ok.hd hc) it lo (-1) n;refine W.item i s _ _ hg st λv h' tk hv eh kk=>?_;obtain⟨t,rfl⟩:=hv;have I1:eG X pins σ H { s with heap:=h',toks:=tk }:=I.turned (λb o hb e=>kk b o (by simpa using hb) e) f0 f1 f3 f4 f5;refine⟨_,Fc,EL (s:={ s with heap:=h',toks:=tk }) (n:="range_iterator") eh Fc Fc Ey ⟨.int (lo-i),H,I1,⟨t,?_⟩,⟨Fc,Fc⟩,eh,λb hb=>(hf b hb).1⟩⟩;have e:lo+(i:Int)*(-1)=lo-i:=by lia
  rw[e]
 done:=by
  intro X hP hw hK hc i pins s σ H E I hf st hg;subst hP hw hK;obtain⟨f0,f1,f2,f3,f4,f5⟩:=hf it Fa;exact jj (I.ok.hd hc) st (by have:n<=i:=hg;lia) λh' eb=>⟨Fc,I.turned (t':=s.toks) (λb o hb e=>eb b o hb e) f0 f1 f3 f4 f5⟩
 self:=λ_ _ _ _ _ st h=>ji st h
end L2
namespace TL
open L2
section
variable{X:Cx}{e:Expr}{pos:Pos}
def Yb(i:Nat)(c:ET):ET:=λb Q=>∃a,b[i]?=some (.own a)/\c b λx=>∃(k:Int)(d:D),x=.int k/\L2.atI a k=some d/\Q d
def V8{i:Nat}(t:PE X m (sU i))(r:iM X b tb)(hs:autoParam (GW b) zzs._auto_1):iM X (.Subscript m b pos) (Yb i tb):=by
 obtain⟨M,pb,A⟩:=r;refine⟨_,D6 aX t pb hs,λB w H x c G Q I o h k=>?_⟩;obtain⟨E,e,h⟩:=h;obtain⟨q,F,l,J,K,L,n,p⟩:=o.own i E e;refine⟨.ref q,l,A B w H x c G _ _ o h λd y f a z q1=>?_⟩;obtain⟨j,g,rfl,s,q1⟩:=q1;cases z;obtain⟨v,u,C⟩:=(p.same (cE a)).atI s;exact .inl ⟨q,F,j,v,Fc,Fc,lU.of (a _ _ n),u,k g v f a C q1⟩
end
def CI{X:Cx}(hw:X.w=w)(e:X.A.units+9<u7)(c:iM X a ta)(d:iM X b tb)(hs:autoParam (Ga b) zzs._auto_1):iM X (.Subscript a b pos) (KI (Km w) ta tb):=by
 subst hw;exact aAi e c d hs
section
variable{K:aM}{B n H:Hp}{l k:List Addr}{c:List Sl}{m:L2.St}
def Ok.less(o:Ok K B l H k c m)(hs:bR n B):Ok K n l H k c m where
 base:=hs.trans o.base
 sub:=o.sub
 live:=o.live
 len:=o.len
 val:=o.val
 own:=λi ts h=>let ⟨p,xs,h1,h2,h3,h4⟩:=o.own i ts h;⟨p,xs,h1,h2,bR.free' hs h3,h4⟩
 dis:=o.dis
 dc:=o.dc.to (λ_ _ _ h=>⟨h,Fc⟩) (λ_ _ a _ _=>⟨a,Fc⟩) (λ_ _ _ _ a b=>⟨bR.free' hs a,b⟩) (L2.bR.refl _)
def Ok.pokeI(o:Ok K B l H k c m){p C dx:Addr}{fs}(hp:p∈k)(hB:B p=none)(he:H p=some (.ins C dx fs))(hn:∀(j:Nat)(hs:List Int)(kvs:List (D×D)),c[j]?≠some (.dic hs kvs))(hu:autoParam (VF u=false) zzz._auto_1):Ok K B l (gG H p u) k c m where
 base:=λb w e=>by
  rw[cO λz=>by rw[z,hB]at e;cases e];exact o.base b w e
 sub:=o.sub
 live:=λq hq=>by
  by_cases e:q=p
  ·subst e;rw[cW];exact⟨_,Fc,hu⟩
  ·rw[cO e];exact o.live q hq
 len:=o.len
 val:=λi d h=>by rw[jU hp];exact o.val i d h
 own:=λi ts h=>by
  rw[jU hp];obtain⟨q,xs,h1,h2,h3,h4,h5,h6⟩:=o.own i ts h;exact⟨q,xs,h1,h2,h3,h4,by rw[cO λz=>by rw[z,he]at h5;cases h5];exact h5,h6⟩
 dis:=o.dis
 dc:=λi hs kvs h=>a9 h (hn i hs kvs)
theorem BW:∀{fs:List (Str×V)},f∉fs.map (·.1)->qG f y fs=fs++[(f,y)]
|[],_=>rfl
| (g,x)::r,h=>by
 have a:¬g=f:=λz=>h (by rw[<- z];exact aU ..);show(if g=f then(g,y)::r else(g,x)::qG f y r)=_;rw[a6 a,BW λz=>h (aO _ z)]
 rfl
def IA(j:Nat)(hs:List Int)(a:List (D×D)):(mM N ds)[j]?≠some (.dic hs a):=λh=>by
 have hm:=aS h;unfold mM at hm;rcases dZ.mp hm with hm | hm
 ·obtain⟨_,_,z⟩:=aR.mp hm;cases z
 ·have z:=(List.mem_replicate.mp hm).2;cases z
end
abbrev Gd:=List D->(List D->Prop)->Prop
def A3(C:Addr)(ns:List Str)(K:aM)(f:Gd):Sp:=λvs H Q _=>∃(x e:Addr)(jM:List V)(b:List Addr)(d:List D)(c:List D->Prop),vs=.ref x::jM/\x∈b/\H x=some (.ins C e [])/\(∀p∈b,E4 (H p))/\Reps K (mask H b) d jM/\f d c /\
 ∀(a:List D)(fs:List (Str×V))H',bR (mask H [x]) H'->H' x=some (.ins C e fs)->fs.map (·.1)=ns->Reps K (mask H' b) a (fs.map (·.2))->c a->Q .non H'
abbrev NT:=(List (Str×D)->Prop)->List (Str×D)->List Sl->Prop
def Gf(X:Cx)(C:Addr)(st:List Stmt)(t:NT):Prop:=∃g:TS,AH X st g/\∀B p0 H ps dn σ (p f:Addr)(fs:List (Str×V))(c:List (Str×D))(Q:List (Str×D)->Prop)(e:G4),
 Ok X.K B p0 H ps dn σ->(∀(j:Nat)(hs:List Int)(d:List (D×D)),dn[j]?≠some (.dic hs d))->σ[0]?=some (some (.ref p))->p∈ps->B p=none->H p=some (.ins C f fs)->fs.map (·.1)=c.map (·.1)->Reps X.K (mask H ps) (c.map (·.2)) (fs.map (·.2))->t Q c dn ->
 (∀H'(b:List (Str×V))(a:List (Str×D)),bR B H'->H' p=some (.ins C f b)->b.map (·.1)=a.map (·.1)->Reps X.K (mask H' ps) (a.map (·.2)) (b.map (·.2))->Q a->e.nx σ H')->g e σ H
section
variable{X:Cx}{o e a:Expr}{i:List Expr}{j:ET}{pos g:Pos}{C:Addr}{jM:List Stmt}{r:NT}{f:Str}
def Ob:NT:=λQ b _=>Q b
def Yv:Gf X C [] Ob:=⟨_,FZ,λ_ _ H _ _ _ _ _ fs b _ _ o _ _ _ _ c hk d h k=>k H fs b o.base c hk d h⟩
def Jj(f:Str)(j:ET)(r:NT):NT:=λQ b c=>j c λd=>b.length<=100/\f∉b.map (·.1)/\r Q (b++[(f,d)]) c
def xE(c:RM X.K C)(q:nE X.K C f)(M:PE X o (sU 0))(N:iM X a j)(J:Gf X C jM r)(hs:autoParam (jH a (some (.Attribute o f g)) pos.line X.env=pure false) zzz._auto_1) :
  Gf X C (.Assign [.Attribute o f g] a pos::jM) (Jj f j r):=by
 obtain⟨Y,pv,U⟩:=N;obtain⟨W,P,S⟩:=J;refine⟨_,BX (Zg M pv hs) P,λB E H m b F p l fs I Q G o A v s w z hk T h k=>?_⟩;refine U B E H m b F _ _ o h λd y t n R q1=>⟨.ref p,v,p,C,l,fs,Fc,n _ _ z,c,q,?_,?_⟩
 ·have:=e7 gC hk;rw[aC,aC]at this;have:=q1.1;lia
 ·have x:f∉fs.map (·.1):=by rw[hk];exact q1.2.1
  have O:=(o.grow n).pokeI (u:=.ins C l (qG f y fs)) s w (n _ _ z) A;have L:mask (gG t p (.ins C l (qG f y fs))) m=mask t m:=jU s;refine S B E _ m b F p l (qG f y fs) (I++[(f,d)]) Q G O A v s w cW ?_ ?_ q1.2.2 k
  ·rw[BW x,bB,bB,hk];rfl
  ·rw[L,BW x,bB,bB];exact(T.same (cE n)).append (.cons R .nil)
def Nd{K}{mg:Str->Option Value}{st}{f:Addr}{l:iW}{N pn:List Str}{k:Nat}{G:Gd}(F:RD K x qual st f l)(S:bX N pn (bA st))
  (d:∀{c}{A:d0}{outer}{s:Shared}{H E},Room k (A.deeper (aq qual (bA st) s.heap.objs.size f c))->N.Nodup->∀(z:D)(b:List D)(Q:List D->Prop),G b Q ->
   ∃t,Gf (AE hX P w K mg base N qual (bA st) f c A outer s H E).nox C (mK st) t/\t (λl=>l.map (·.1)=ns/\Q (l.map (·.2))) [] (mM N (z::b))) (len:∀b Q,G b Q->b.length+1=pn.length:=by intro b Q h;(repeat obtain⟨_,h⟩:=h)<;>subst_vars<;>rfl):dS P w K mg base hX (k+1) f l pn (A3 C ns K G):=by
 refine F.ok S (λvs H Q E h=>?_) λc A outer s H vs Q E R h=>?_
 ·obtain⟨x,I,jM,m,b,n,rfl,_,_,_,r,q,_⟩:=h;rw[dB,<- r.length];exact len b n q
 ·obtain⟨x,I,jM,m,b,n,rfl,T,O,live,r,q,k⟩:=h;obtain⟨t,⟨Z,p,W⟩,h⟩:=d R S.nd (.dict [(.str "@",.list [.int (x:Nat)])]) b n q;have U:Ok K H m H m (mM N (.dict [(.str "@",.list [.int (x:Nat)])]::b)) (L2.qS N (.ref x::jM)):=tZ live (.cons (.addr []) r);refine⟨Z,p,W (mask H [x]) m H m _ _ x I [] [] _ _ (U.less bZ) IA Fc T (a7 (aU ..)) O Fc .nil h λL u M Y v y B J=>?_⟩;exact k _ u L Y v (y.trans J.1) B J.2
def Pu(C:Addr)(ns:List Str)(c:Gd)(t:AT):ET:=λd Q=>t d λb=>c b λfs=>Q (LY C ns fs)
def aAf(R:wN X (e::i) t)(W:∀{ta},PA X (e::i) ta->PE X (.Call (.Name x p) (e::i) [] pos) (Lw C (A3 C ns X.K sp) [] E0 ta)):iM X (.Call (.Name x p) (e::i) [] pos) (Pu C ns sp t):=by
 obtain⟨v,U,ra⟩:=R;refine⟨_,W U,λB T H n I σ Q QV o h k=>ra B T H n I σ _ _ o h λO M s L Z q1=>λx c F l y=>?_⟩;show A3 C ns X.K sp (.ref x::(M++[])) _ _ E0;rw[fS];have live:=(o.grow L).live;have m:x∉n:=jE live F;have w:gG s c (.own x) x=none:=by rw[cO (l5 y)];exact F
 have S:mask (gG (gG s c (.own x)) x (.ins C c [])) (x::n)=mask (gG s c (.own x)) n:=lZ w;refine⟨x,c,M,x::n,O,_,Fc,aU ..,cW,λq E=>?_,?_,q1,λP fs N s' G A rs Y=>⟨Fc,?_⟩⟩
 ·by_cases e:q=x
  ·subst e;rw[cW];exact⟨_,Fc,Fc⟩
  ·rw[cO e];rcases aY.mp E with z | z
   ·exact a9 z e
   ·by_cases J:q=c
    ·subst J;rw[cW];exact⟨_,Fc,Fc⟩
    ·rw[cO J];exact live q z
 ·rw[S];exact Z.same (cE (eX l))
 ·subst A;refine k _ _ N (L.trans λb u d=>s' b u ?_) (.ins (nB m G) (rs.same (lY λq E=>aO _ E))) Y;have nx:b≠x:=λz=>by rw[z,F]at d;cases d
  have nd:b≠c:=λz=>by rw[z,l]at d;cases d
  unfold mask;rw[a6 (by simpa using nx),cO nx,cO nd];exact d
end
section
variable{X:Cx}
def Na(i j k l:Nat):GT:=λd f Q=>∃a b c e,d=.tuple [a,b,c,e]/\Q ((((f.set i (.val a)).set j (.val b)).set k (.val c)).set l (.val e))
def N9{i j k l:Nat}(h:PG X t (Z9 X.K 4 (vK (kX i) (vK (kX j) (vK (kX k) (vK (kX l) F2)))))):KL X t (Na i j k l):=
 ⟨_,h,λB u H w q x d v Q s o r h k=>by
  obtain⟨a,b,c,e,rfl,h⟩:=h
  cases r with
  |@tuple p xs _ hq r=>
   cases r with
   |cons f r=>
    cases r with
    |cons g r=>
     cases r with
     |cons m r=>
      cases r with
      |cons re r=>
       cases r;exact⟨_,_,Fc,bR.seqT bZ hq,Fc,_,_,Fc,_,_,Fc,_,_,Fc,_,_,Fc,Fc,k _ _ ((((o.set f).set g).set m).set re) (λn=>kP (kP (kP (kP n _ _) _ _) _ _) _ _) h⟩⟩
end
end TL
namespace L2
open TL
noncomputable def I3(K:aM)(l:Addr)(n:Nat):It:=
 ⟨λi H=>i<n/\∃a,lU K H l a/\a.length=n,λi H v b=>b=H/\∀a,lU K H l a->a[n-1-i]?=some v,λi _=>n<=i⟩
def R4{K}(it l:Addr)(n:Nat):C0 P w K tg (I3 K l n) [it] it (λi h=>i<=n/\h.IsRevIter it l ((n:Int)-1-(i:Int))) where
 mem:=by simp
 obj:=λi h st b hb=>by
  have e:b=it:=by simpa using hb
  subst e;obtain⟨_,o,e,c,d⟩:=st;exact⟨o,e,λv z=>by rw[d]at z;cases z⟩
 keep:=λi h h' st k=>⟨st.1,st.2.at λo x=>k it Fa o x⟩
 item:=by
  intro X hP hw hK hc i pins s σ H E I hf st hg;subst hP hw hK;obtain⟨hi,xs,hq,hn⟩:=hg;obtain⟨sk,dz⟩:=st;obtain⟨fo,rv,p,hz⟩:=I.list hq;obtain⟨f0,f1,f2,f3,f4,f5⟩:=hf it Fa;have hx:xs[n-1-i]?=some (xs[n-1-i]' Ez):=aD Ez;obtain⟨u,hu,ru⟩:=rv.get hx;have e:(n:Int)-1-(i:Int)=((n-1-i:Nat):Int):=by lia
  rw[e]at dz;refine wpAny_pyNext_rev_item dz p.isList (x:=u) (by simpa using hu) λh' eh sb=>?_;have I1:eG X pins σ H { s with heap:=h' }:=I.turned (t':=s.toks) (λb o hb e=>(sb.2 b hb).trans e) f0 f1 f3 f4 f5;have e2:((n-1-i:Nat):Int)-1=(n:Int)-1-((i+1:Nat):Int):=by lia
  rw[e2]at eh;obtain⟨o',e',c',d'⟩:=id eh;exact⟨_,Fc,EL (s:={ s with heap:=h' }) e' c' d' Ey ⟨_,H,I1,ru,⟨Fc,λys hy=>by rw[I.list_inj hy hq];exact hx⟩,⟨Ez,eh⟩,λb hb=>(hf b hb).1⟩⟩
 done:=by
  intro X hP hw hK hc i pins s σ H E I hf st hg;subst hP hw hK;obtain⟨sk,dz⟩:=st;have hi:i=n:=aCy sk hg;subst hi;obtain⟨f0,f1,f2,f3,f4,f5⟩:=hf it Fa;have e:(i:Int)-1-(i:Int)=-1:=by lia
  rw[e]at dz;exact wpAny_pyNext_rev_end (I.ok.hd hc) dz λh' eb=>⟨Fc,I.turned (t':=s.toks) (λb o hb e=>eb b o hb e) f0 f1 f3 f4 f5⟩
 self:=λ_ _ _ _ _ st h=>se st.2 h
def DM:d1 "reversed"=some (.type "reversed"):=by decide +kernel
def Kt(K:aM)(c:TA):TI:=λd H R=>c d H λvs a=>∃l b,vs=[.ref l]/\lU K a l b/\R (I3 K l b.length) a
section
variable{X:Cx}{c:Expr}
def Zf(v:Gl X "reversed")(x:X.mg "reversed"=none)(t:PA X [a] ta)(hs:autoParam (cD [a] X.env=[(false,eval a X.env)]) zzz._auto_1) :
  PI X c (.Call (.Name "reversed" p) [a] [] pos) (Kt X.K ta):=by
 intro g s E H R I h;refine Call_ (uA I v x DM (i8 (jR (t pos g s E H _ I h) λF d C=>?_) (by rw[hs];rfl) (by rfl)));obtain⟨vs,n,i,A,q1⟩:=C;obtain⟨l,m,rfl,y,q⟩:=q1
 cases A with
 |cons r B=>
  cases B;cases r;obtain⟨k,j,p1,z⟩:=i.list y;have w:=j.length;refine call_reversed_list p1.isList ?_;have f:(d.heap.push (revObj l ((k.toArray.size:Int)-1))).IsRevIter d.heap.objs.size l ((m.length:Int)-1-((0:Nat):Int)):=⟨_,aW _ Fc,Fc,by rw[w];simp[revObj]⟩;refine se (s:={ d with heap:=_ }) f ?_;refine⟨d.heap.objs.size,[d.heap.objs.size],_,_,n,Fc,i.kept (t':=d.toks) λb o e=>aJ _ e,R4 _ l m.length,⟨cI _,f⟩,λb u=>?_,q⟩;have e:b=d.heap.objs.size:=by simpa using u
  subst e;exact i.fpOk (aN _) (i.hok.fresh (aN _))
end
noncomputable def Mn(p:Addr)(a:List (Int×Addr×V))(b:Nat):It:=⟨λi H=>H p=some (sD p a b)/\i<a.length,λi H x c=>∃q e,H q=none/\x=.ref q/\c=gG H q (.tup [.ref e.2.1,e.2.2])/\a[i]?=some e,λi H=>H p=some (sD p a b)/\a.length<=i⟩
def VV{E:Value->Shared->Prop}{s:Shared}{z:Nat}{c d:Addr}{i n e:Nat}{u:Addr}{Q:Unit->Shared->Prop}(b:xU s.heap c d i n e (h8 u) x1 k v)
  (h:∀a,xU a c d i n e .none x1 k v->cV c s.heap a->Q () { s with heap:=a }):wpAny (model prog w) A (l8 (.Tuple elts z pos) (.ref c) (.ref u)) Q E s:=by
 unfold l8;refine aB (bx b ?_);show wpAny _ _ (if(["enumerate","zip","dict_itemiterator","dict_reverseitemiterator","odict_iterator","itertools.zip_longest","itertools.pairwise"].contains "dict_itemiterator"&&(LV d i n e (h8 u) x1 k v)[0]?==some (h8 u))=true then _ else _) Q E s;rw[a7 (by simp[LV])];refine aB (m9 ?_);show wpAny _ _ (bn (.ref c) 0 .none) Q E s;exact l3 b (by simp[LV]) λa f g=>h a f g
def KZ{K}{z:Nat}(p it:Addr)(es:List (Int×Addr×V))(ep:Nat):C0 P w K (.Tuple elts z pos) (Mn p es ep) [it] it (λi h=>∃(f:Bool)(k v:Value),xU h it p i es.length ep .none (.bool f) k v) where
 mem:=by simp
 obj:=λi h st b hb=>by
  have e:b=it:=by simpa using hb
  subst e;obtain⟨f,k,v,e⟩:=st;exact⟨_,e,λv z=>by cases z⟩
 keep:=λi h h' st kk=>by
  obtain⟨f,k,v,e⟩:=st;exact⟨f,k,v,kk it Fa _ e⟩
 item:=by
  intro X hP hw hK hc i pins s σ H E I hf st hg;subst hP hw hK;obtain⟨hp,hi⟩:=hg;obtain⟨f,k,v,dz⟩:=st;obtain⟨⟨h1,h2,o,xs,h3,h4,h5,h6⟩,_⟩:=I.hok p _ hp;have hsz:es.length=xs.size:=by rw[<- bQ];exact g7 h6
  have sy:i<xs.size:=by lia
  rw[hsz]at dz;have vw:it<s.heap.objs.size:=bF dz;refine LT dz ⟨.inl Fc,_,Fc⟩ ⟨o,h3,h5⟩ sy λh' y0 y1 k' v' gr Bm hy ht hz Bu=>⟨_,Fc,?_⟩;obtain rfl:=hy Fc;obtain⟨_,f',rfl⟩:=Bm;refine VV (s:={ s with heap:=h' }) gr λsx vr sb=>?_
  have kk:∀c o,c∉[it]->s.heap.get? c=some o->sx.get? c=some o:=λc o ej x=>by
   have wx:c≠it:=by simpa using ej
   exact sb.extBut _ _ wx (Bu c o wx x)
  obtain⟨en,e1,e2⟩:=CL (j:=i) (d:=xs[i]) h6 (by simp[sy]);have hT:=sb.extBut _ _ (fN vw) ht;have I1:eG X pins σ (gG H s.heap.objs.size (.tup [.ref en.2.1,en.2.2])) { s with heap:=sx }:=I.turnedNew (t':=s.toks) hf kk (aN _) ⟨(by show 2<=bO;decide),[xs[i].key,xs[i].val],.cons e2.2.1 (.cons e2.2.2 .nil),⟨_,hT,Fc,_,Fc,Fc⟩⟩;rw[<- hsz]at vr;refine⟨.ref s.heap.objs.size,_,I1,Fc,⟨_,en,I.hok.fresh (aN _),Fc,Fc,e1⟩,⟨f',k',v',vr⟩,λc ej=>?_⟩;have e:c=it:=by simpa using ej
  subst e;rw[cO (bS vw)];exact(hf c ej).1
 done:=by
  intro X hP hw hK hc i pins s σ H E I hf st hg;subst hP hw hK;obtain⟨hp,hi⟩:=hg;obtain⟨f,k,v,dz⟩:=st;obtain⟨⟨h1,h2,o,xs,h3,h4,h5,h6⟩,_⟩:=I.hok p _ hp;have hsz:es.length=xs.size:=by rw[<- bQ];exact g7 h6
  obtain⟨f0,f1,f2,f3,f4,f5⟩:=hf it Fa;rw[hsz]at dz;exact QI (I.ok.hd hc) dz ⟨o,h3,h5⟩ Ez λh' eb=>⟨Fc,I.turned (t':=s.toks) (λb o hb e=>eb b o hb e) f0 f1 f3 f4 f5⟩
 self:=λ_ i _ _ _ st h=>by
  obtain⟨f,k,v,e⟩:=st;have hT:l4 _ (.ref it) "dict_itemiterator":=⟨_,e,Fc⟩;refine m5 hT vP (dI vP hT PySem.W.kcp_entry ?_ (PySem.F.args_dict_itemiterator_iter_1 _));show wpAny _ _ (ret (.ref it)) _ _ _;exact aG ⟨_,Fc,"dict_itemiterator",_,hT,fT.lookup,h⟩
section
variable{X:Cx}
def Jt(R:It->Hp->Prop):VK:=λy a=>∃(v p:Addr)(c:List (Int×Addr×V))(b:Nat),y=.ref v/\a v=some (DW v p)/\a p=some (sD p c b)/\R (Mn p c b) a
def Jo(c:TE):TI:=λd H R=>c d H λx a=>∃(p:Addr)(b:List (Int×Addr×V)),x=.ref p/\C3 a p b/\∀v,a v=none->Jt R (.ref v) (gG a v (DW v p))
def TF{z:Nat}{g k m:Pos}(C:PE X l tl)(a:autoParam (v4 l "items" X.env (eval l X.env)=eval l X.env) zzz._auto_1)(c:autoParam ((k.endLine==m.line)=true) zzz._auto_1) :
  PI X (.Tuple elts z g) (.Call (.Attribute l "items" k) [] [] m) (Jo tl):=by
 intro f s L H R I h;refine jR (P0 C a c f s L H (Jt R) I h) λv i K=>?_;obtain⟨x,t,d,G,q1⟩:=K;obtain⟨r,p,n,u,rfl,F,E,q⟩:=q1;obtain rfl:v=c8 r:=G;obtain⟨⟨M,N,o,J,w,O,y,A⟩,_⟩:=d.hok p _ E;have j:n.length=J.size:=by rw[<- bQ];exact g7 A
 refine LU (d.hok r _ F).1 ⟨o,w,y⟩ ?_;refine⟨i.heap.objs.size,[i.heap.objs.size],_,_,t,Fc,d.kept (t':=i.toks) λb o e=>aJ _ e,KZ p _ n u,⟨false,.none,.none,by rw[j];exact aW _ Fc⟩,λb B=>?_,q⟩;have e:b=i.heap.objs.size:=by simpa using B
 subst e;exact d.fpOk (aN _) (d.hok.fresh (aN _))
end
section
variable{prog:cN}{w:c7}{A:d0}{E:Value->Shared->Prop}{s:Shared}
def GQ{d:Addr}{b:Array x9}{f:Nat}{Q:Value->Shared->Prop}(hd:(d==m7)=false)(k:J9 s.heap d b f)(i:(b.size:Int)<2^63)
  (h:Q (.int b.size (s.toks+1)) { s with toks:=s.toks+1+1 }):wpAny (model prog w) A (call (.builtin "len") [.ref d]) Q E s:=by
 obtain⟨o,c,j,a⟩:=k;have g:s.TypeIs (.ref d) "dict":=⟨o,c,j.1⟩
 have e:MeetsIn prog w (l9.«dict.__len__» ⟨[.ref d],[]⟩) (λ_ R s=>(∃o,s.heap.get? d=some o/\o.data=.dict b f)/\R (.ok (.ret (.int b.size s.toks))) { s with toks:=s.toks+1 }):=
  .of_wp λA R s ⟨⟨o,c,a⟩,h⟩=>by
   show wpAny _ _ (dictSize d >>= _) _ _ s;unfold dictSize;refine aB (aB (m4 c a (aG ?_)));show wpAny _ _ (Builtin.Dict.pendingCount d >>= _) _ _ s;refine aB (wpAny_pendingCount_other hd ?_);refine gb ?_;rw[AO];exact h
 refine ei PySem.kind_len PySem.plain_len PySem.entry_len (PySem.args_len1 _) ?_;unfold l9.«len»;refine aB (m:=oneArg "len" _) (aG ?_)
 refine aB (m:=callSpecial? (.ref d) (c6 "__len__")) (d7 (name:=c6 "__len__") g HH
  (call_meetsIn HH g PySem.F.entry_dict_len (PySem.F.args_dict_len_1 _) e ⟨⟨o,c,a⟩,?_⟩))
 show wpAny _ _ _ _ _ { s with toks:=s.toks+1 };refine aB (h7 (aG ?_));refine aB (ft ?_);show wpAny _ _ (if((b.size:Nat):Int)<0 then _ else _) _ _ _;rw[a6 Ez];show wpAny _ _ (if((b.size:Nat):Int)>=2^63 then _ else _) _ _ _;rw[a6 Ez];exact aB (wpAny_mkInt (aG ⟨_,Fc,h⟩))
end
section
variable{X:Cx}
def Q4:kO X (.builtin "len") (λd H Q=>∃(p:Addr)(a:List (Int×Addr×V)),d=[.ref p]/\C3 H p a/\Q (.int a.length) H):=by
 intro c s x H d w Q I r h;obtain⟨p,a,rfl,m,l⟩:=h;obtain⟨u,rfl,n⟩:=oB r;cases n;obtain⟨f,t,o,e,q,g,i,j,k⟩:=C3.at I m;have b:a.length=e.size:=by rw[<- bQ];exact g7 k
 have v:bO=2^24:=rfl;refine GQ f ⟨o,g,i,j⟩ Ez ?_;rw[<- b];exact⟨.int _,H,I.tok _,⟨_,Fc⟩,l⟩
end
section
variable{X:Cx}{o i c:Expr}{pos d:Pos}{f ty tv:TE}
def Zn(K:aM)(w:c7)(f ty tv:TE):TS:=λg e H=>tv e H λv h=>f e h λx j=>ty e j λy H3=>∃(p a:Addr)(b:List (Int×Addr×V))(ks:List D)(k:D)(l:Nat),x=.ref p/\y=.ref a/\H3 p=some (sD p b l)/\DK K w H3 b ks/\iP K H3 k (.ref a)/\jX k/\b.length<bO/\g.nx e (gG H3 p (nK p (sW w b ks k a v)))
def S9(hu:X.A.units+9<u7)(T:PE X o f)(S:PE X i ty)(W:PE X c tv)(hs:jH c (some (.Subscript o i d)) pos.line X.env=pure false) :
  PS X (.Assign [.Subscript o i d] c pos) (Zn X.K X.w f ty tv):=by
 intro g s l H D' I h;refine jg (jR (W g s l H _ I h) λr s1 ⟨v,F,J,rv,q1⟩=>jR (T g s1 l F _ J q1) λu s2 ⟨x,G,L,rx,Z⟩=>jR (S g s2 l G _ L Z) λY s3 zq=>?_) hs;obtain⟨y,H3,m,ry,p,a,es,ks,k,M,ex,N,B,n,C,ok,hl,q3⟩:=zq;subst ex N;obtain rfl:u=c8 p:=rx;obtain rfl:Y=c8 a:=ry;obtain⟨P,Q,xs,E,x2⟩:=CP m (.inr ⟨M,B⟩) n;refine ud (hsz:=by rw[<- g7 E.2];exact Q) (show X.A.units+1+8<u7 by lia) (yU m C ok) x2 λO j t=>⟨l,_,?_,q3⟩;have U:∃q,O.get? p=some q:=let ⟨q,_,_,e,_⟩:=j;⟨q,e⟩
 have:=IP (w:=X.w) (k:=k) (a:=a) (v:=v) n.len;exact m.write (x:=p) (e:=p) (by rw[B];exact i6) (.inl Fc) (λb q R z=>(t.2 b R).trans z) U (WG (ks:=zM ks k) P Ez (V3 E rv) (n.put C ok).hs j)
def S7{st}{A:TS}(p:PS X st A):PS X st (λB q H=>∃(a:Addr)(l:List (Int×Addr×V)),H a=some (nK a l)/\∀j,A B q (gG H a (sD a l j))):=by
 intro g s q H D I ⟨a,l,y,h⟩;obtain⟨⟨t,v,o,n,j,m,C,E,F⟩,_⟩:=I.hok a _ y;refine p g s q _ D ?_ (h j);exact I.write (x:=a) (e:=a) (h':=s.heap) (t':=s.toks) (by rw[y];exact i6) (.inl Fc) (λb u _ z=>z) ⟨o,m⟩ (show jY X.prog X.w _ _ _ (sD a l j)from⟨⟨t,v,o,n,m,C,E,F⟩,⟨o,m⟩,λt v ⟨a,b,o,n,e,r⟩ k=>⟨a,b,o,n,k _ e,r⟩⟩)
end
end L2
namespace TL
open L2
section
variable{K:aM}{H c:Hp}
def Zr{a:Addr}(e:∀b o,H b=some o->(∃d,o=HO.ext d)\/c b=some o)(h:lU K H a xs):lU K c a xs:=by
 rcases h with(h | ⟨o,h⟩) | h
 ·rcases e _ _ h with⟨_,z⟩ | z
  ·cases z
  ·exact .inl (.inl z)
 ·rcases e _ _ h with⟨_,z⟩ | z
  ·cases z
  ·exact .inl (.inr ⟨o,z⟩)
 ·exact .inr h
def YQ{a:Addr}(e:∀b o,H b=some o->(∃d,o=HO.ext d)\/c b=some o)(h:rO K H a xs):rO K c a xs:=by
 rcases h with(h | ⟨o,h⟩) | h
 ·rcases e _ _ h with⟨_,z⟩ | z
  ·cases z
  ·exact .inl (.inl z)
 ·rcases e _ _ h with⟨_,z⟩ | z
  ·cases z
  ·exact .inl (.inr ⟨o,z⟩)
 ·exact .inr h
mutual
theorem iP.nd(e:∀b o,H b=some o->(∃a,o=HO.ext a)\/c b=some o):∀{d:D}{v:V},d.hasDict=false->iP K H d v->iP K c d v
|_,_,_,.none=>.none
|_,_,_,.bool b=>.bool b
|_,_,_,.int i=>.int i
|_,_,_,.str x=>.str x
|_,_,h,.list q r=>.list (Zr e q) (Reps.nd e (by simpa only[fJ]using h) r)
|_,_,h,.tuple q r=>.tuple (YQ e q) (Reps.nd e (by simpa only[fJ]using h) r)
|_,_,h,.wild _=>by simp[fJ]at h
|_,_,h,.exc _ _=>by simp[fJ]at h
|_,_,h,.excA _ _ _=>by simp[fJ]at h
|_,_,h,.excD _ _ _ _=>by simp[fJ]at h
|_,_,h,.tape _ _=>by simp[fJ]at h
|_,_,h,.dct _ _ _ _=>by simp[fJ]at h
|_,_,h,.addr _=>by simp[fJ]at h
|_,_,h,.ins _ _=>by simp[fJ]at h
theorem Reps.nd(e:∀b o,H b=some o->(∃d,o=HO.ext d)\/c b=some o):∀{a:List D}{vs:List V},iZ a=false->Reps K H a vs->Reps K c a vs
|_,_,_,.nil=>.nil
|_,_,h,.cons r s=>by
 simp only[iZ,O1]at h;exact .cons (iP.nd e h.1 r) (Reps.nd e h.2 s)
end
end
section
variable{X:Cx}{a b e n:Expr}{c:List Expr}{r l m:ET}{pos:Pos}
def Rc(t:AT):IT:=λg Q=>t g λf=>∃d,f=[.list d]/\Q d.reverse
def Yk(w:wN X [a] t)(F:∀{r},PA X [a] r->PI X tg (.Call (.Name "reversed" p) [a] [] p') (Kt X.K r)):KJ X tg (.Call (.Name "reversed" p) [a] [] p') (Rc t):=by
 obtain⟨S,A,I⟩:=w;refine⟨_,F A,λB z H C g M Q R o h k=>I B z H C g M _ _ o h λP T j J f q1=>?_⟩;obtain⟨O,rfl,q⟩:=q1
 cases f with
 |cons f G=>
  cases G
  cases f with
  |@list p1 us _ hq1 rs1=>
   have n1:=rs1.length;refine⟨p1,us,Fc,L2.bR.seq bZ hq1,k _ _ j J ⟨λi H e d=>?_,λi H e d=>?_,λi H E y N live e d x=>?_⟩ q⟩
   ·rw[pP]at d;show us.length<=i;lia
   ·rw[pP]at d;exact⟨Ez,us,L2.bR.seq e hq1,Fc⟩
   ·obtain⟨rfl,v⟩:=x;obtain⟨s,u,L⟩:=rs1.get' (v us (L2.bR.seq (e.trans bZ) hq1));rw[pP]at d;refine⟨L2.bR.refl _,s,?_,L.same e⟩;rw[vE d,n1];exact u
def Yh(w:c7)(l:ET):IT:=λh Q=>l h λd=>∃f,d=mC w f/\Q (f.map λg=>.tuple [g.1,g.2])
def VD{z:Nat}(T:iM X e l)(Z:∀{v},PE X e v->PI X (.Tuple elts z tpos) (.Call (.Attribute e "items" ap) [] [] cp) (Jo v)):KJ X (.Tuple elts z tpos) (.Call (.Attribute e "items" ap) [] [] cp) (Yh X.w l):=by
 obtain⟨ve,Y,re⟩:=T;refine⟨_,Z Y,λB W H ps E σ Q R o h k=>re B W H ps E σ _ _ o h λd x H1 K r1 q1=>?_⟩;obtain⟨f,rfl,q⟩:=q1;obtain⟨p,c,F,rfl,u,O,h3,P,S⟩:=uT r1;have A:=bZ _ _ u;have live:=(o.grow K).live;refine⟨p,c,Fc,.inr ⟨F,A⟩,λL j=>⟨L,p,c,F,Fc,cW,(by rw[cO (iB A j)];exact A),k _ _ _ (K.trans (eX j)) ?_ q⟩⟩;have g:=cE (ps:=ps) (eX (o:=DW L p) j)
 have G:f.length=c.length:=by
  have:=e7 gC O;simpa using this
 refine⟨λi H e t=>⟨e _ _ (g _ _ u),by rw[aC]at t;lia⟩,λi H e t=>⟨e _ _ (g _ _ u),by rw[aC]at t;lia⟩,λi H qs y H' s e t U=>?_⟩;obtain⟨q,en,I,rfl,rfl,N⟩:=U;rw[aC]at t;have C:f[i]?=some f[i]:=aD t;have J:=g.trans e;obtain⟨x1,M,y2⟩:=(P.same J).get (i:=i) (d:=f[i].1) (by rw[aI,C];rfl);obtain⟨x2,z1,z2⟩:=(S.same J).get (i:=i) (d:=f[i].2) (by rw[aI,C];rfl);rw[aI,N]at M z1;cases M;cases z1;exact⟨eX I,_,by rw[aI,C];rfl,rX s I (.cons y2 (.cons z2 .nil))⟩
def XR(i:Nat):ET:=λf Q=>∃hs d,f[i]?=some (.dic hs d)/\Q (.int (d.length:Nat))
def WA{i:Nat}(t:PE X (.Call g [n] [] pos) (SC (λv H Q=>∃(p:Addr)(c:List (Int×Addr×V)),v=[.ref p]/\C3 H p c/\Q (.int c.length) H) (sN (sU i) BJ))):iM X (.Call g [n] [] pos) (XR i):=by
 refine⟨_,t,λB z H A w C Q y o h k=>?_⟩;obtain⟨hs,f,j,q⟩:=h;obtain⟨⟨p,c,d,x⟩,u⟩:=o.isDic j
 have s:c.length=f.length:=by
  have:=x.vs.length;simpa using this.symm
 exact⟨.ref p,d,p,c,Fc,.inl x.obj,k _ _ H (L2.bR.refl H) (by rw[s];exact .int _) q⟩
def K4(w:c7)(i:Nat)(m tv:ET):sZ:=λg f=>∃d,f[i]?=some (pS w d)/\tv (f.set i (.val (mC w d))) λv=>v.hasDict=false/\m (f.set i (.val (mC w d))) λk=>GZ k/\(∀kv∈d,jX kv.1)/\d.length<=100000/\g.nx (f.set i (pS w (vS d k v)))
def wU{i:Nat}{tv}(hu:X.A.units+9<u7)(hn:PE X n (sU i))(R:iM X e m)(hv:iM X value tv)(hs:autoParam (jH value (some (.Subscript n e p2)) pos.line X.env=pure false) zzz._auto_1) :
  wM X (.Assign [.Subscript n e p2] value pos) (K4 X.w i m tv):=by
 obtain⟨vv,Z,rv⟩:=hv;obtain⟨vk,pk,rk⟩:=R;refine⟨_,S7 (S9 hu hn pk Z hs),λB p0 H ps dn σ DT DV o h f=>?_⟩;obtain⟨kvs,Q,h⟩:=h;obtain⟨p,c,L,x,hsh⟩:=o.shareD Q;obtain⟨_,u⟩:=o.isDic Q;refine⟨p,c,x.obj,λP=>?_⟩;obtain⟨o1,s0⟩:=hsh P;refine rv B p0 _ _ _ σ _ _ o1 h λv y H1 s1 r1 q1=>⟨.ref p,L,?_⟩;obtain⟨T,q1⟩:=q1;refine rk B p0 H1 _ _ σ _ _ (o1.grow s1) q1 λk z d s2 r2 q2=>?_;obtain⟨⟨G,t,rfl⟩,hok,qz,q⟩:=q2;obtain⟨a,rfl⟩:=oF r2;have I:=s1.trans s2;have J:d p=some (sD p c P):=I _ _ cW
 -- the dict is the def's own again
 have s:∀b u,mask d (ps.filter λq=>decide (q≠p)) b=some u->(∃φ,u=HO.ext φ)\/mask (gG d p (nK p c)) ps b=some u:=λb u g=>by
  by_cases e:b=p
  ·subst e;have:=bZ _ _ g;rw[J]at this;cases this;exact .inl ⟨_,Fc⟩
  ·refine .inr ?_;unfold mask at g |-
   by_cases E:b∈ps
   ·rw[a7 (cM.mpr ⟨E,a8 e⟩)]at g;cases g
   ·rw[a6 λz=>E (cM.mp z).1]at g;rw[a6 E,cO e];exact g
 have sO:bR H (gG d p (nK p c)):=λb u g=>by
  by_cases e:b=p
  ·subst e;rw[cW,<- g];exact x.obj.symm
  ·rw[cO e];exact I _ _ (by rw[cO e];exact g)
 have o2:=o.grow sO;have S:=cE (ps:=ps) sO;have U:=x.ks.same S;have Dn:=x.vs.same S;have Y:gG d p (nK p c) p=some (nK p c):=cW;have N:=pC (w:=X.w) x.hsh x.nd hok U
 have hl:c.length=kvs.length:=by
  have:=e7 gC x.hsh;simpa using this.symm
 have hL:bO=2^24:=rfl;have De:iP X.K (mask (gG d p (nK p c)) ps) (.tuple t) (.ref a):=r2.nd s (nA (vZ G.1));have Dc:iP X.K (mask (gG d p (nK p c)) ps) v y:=(r1.same (cE s2)).nd s T;have C:=N.put (v:=y) De G;have O:DK X.K X.w d c (kvs.map (·.1)):=pC (w:=X.w) x.hsh x.nd hok ((x.ks.same s0).same ((cE I).trans bZ));refine⟨p,a,c,kvs.map (·.1),_,P,Fc,Fc,J,O,r2.same bZ,G,Ez,?_⟩
 have eU:gG d p (nK p (sW X.w c (kvs.map (·.1)) (.tuple t) a y))=gG (gG d p (nK p c)) p (nK p (sW X.w c (kvs.map (·.1)) (.tuple t) a y)):=by
  funext b;by_cases e:b=p
  ·subst e;rw[cW,cW]
  ·rw[cO e,cO e,cO e]
 rw[eU];obtain⟨o3,M⟩:=o2.forget (i:=i) Q;have o4:=o3.poke (u:=nK p (sW X.w c (kvs.map (·.1)) (.tuple t) a y)) x.mem x.new Y M;have F:mask (gG (gG d p (nK p c)) p (nK p (sW X.w c (kvs.map (·.1)) (.tuple t) a y))) ps=mask (gG d p (nK p c)) ps:=jU x.mem
 have o5:=o4.toDic (i:=i) (es:=sW X.w c (kvs.map (·.1)) (.tuple t) a y) (hs:=(vS kvs (.tuple t) v).map λkv=>mQ X.w kv.1) (kvs:=vS kvs (.tuple t) v) L (λj hs W _=>M j hs W)
  ⟨x.mem,x.new,x.out,cW,?_,?_,?_,?_⟩
 ·rw[KO]at o5;exact f.nx _ ps _ σ o5 (by rw[F];exact S) q
 ·rw[C.hs,<- pB kvs _ v,bM];rfl
 ·rw[pB];exact C.nd
 ·rw[F,pB];exact C.rep
 ·rw[F];exact HQ _ Dn Dc
end
structure J8 where
 p:Addr
 q:Addr
 ns:List Int
 b:Bool
noncomputable def Pg(T:J8)(n:Nat)(l:Int):HO:=.dK [(.inr "script",.ref T.q),(.inr "at",.int n),(.inr "left",.int l),(.inr "digits",.bl T.b)]
section
variable{K:aM}{H B:Hp}{d a:List Addr}{c:List Sl}{e:L2.St}{T:J8}{n:Nat}{p:Addr}
structure aPn(K:aM)(H:Hp)(a:List Addr)(T:J8)(n:Nat):Prop where
 obj:∃l,H T.p=some (Pg T n l)
 scr:lU K (mask H a) T.q (T.ns.map V.int)
 dig:T.b=true->0<T.ns.length
structure OkC(K:aM)(B:Hp)(d:List Addr)(H:Hp)(a:List Addr)(c:List Sl)(e:L2.St)(T:J8)(n:Nat):Prop where
 ok:Ok K B d H a c e
 mem:T.p∈d
 nb:B T.p=none
 tp:aPn K H a T n
 bq:lU K (mask B d) T.q (T.ns.map V.int)
end
structure aCw where
 nx:Nat->List Sl->Prop
 rt:Nat->D->Prop
 bk:Nat->List Sl->Prop:=λ_ _=>False
 ct:Nat->List Sl->Prop:=λ_ _=>False
abbrev STC:=D->aCw->Nat->List Sl->Prop
section
variable{X:Cx}{a:List Expr}{pos:Pos}
def YE{i:Nat}(b:X.N.Nodup)(d:X.N[i]?=some x)(e:OR X.env.scope x)(h:wN X a t)(hs:autoParam (jH (.List a p2) (some (.Name x pos')) pos.line X.env=pure false) zzz._auto_1)(c:autoParam (X.fn x=true\/X.env.scope.names.lookup x=some .local) zzw._auto_1) :
  wM X (.Assign [.Name x pos'] (.List a p2) pos) (PR i t):=SH h λh=>yJ b d e h hs c
end
end TL
namespace L2
open AutoSeq1 (wpAny_loadPart')
section
variable{prog:cN}{w:c7}{A:d0}{E:Value->Shared->Prop}{s:Shared}
def JY{Q:List Value->Shared->Prop}{r:Addr}{a b c:Int}{n:Nat}(G:A.handled=none)(y:IsRange s.heap r a b c t u v)(m:z7 a b c=true)(H:f6 a b c=n)(x:n<=2^24)
  (B:∀j p d,(∀b o,s.heap.get? b=some o->j.get? b=some o)->ItemsOf (λi v=>∃t,v=.int (a+i*c) t) d n->Q d.toList { s with heap:=j,toks:=p }):wpAny (model prog w) A (uh (.ref r)) Q E s:=by
 unfold uh;refine aB (ic (l7 BE ?_));rw[i7 BD _];show wpAny _ A.in1 (uk [] >>= λl=>again (.builtin "list.__iadd__" ⟨[l,.ref r],[]⟩)) _ _ s;refine aB (dG ?_);refine aG ⟨z5 mS _,l7 E9 ?_⟩;rw[i7 mS _];have F:(s.heap.push { cls:=.type "list",data:=.seq ([]:List Value).toArray }).get? s.heap.objs.size=some { cls:=.type "list",data:=.seq #[] }:=aW _ Fc;show wpAny _ A.in1 (g8 (.ref s.heap.objs.size) (.ref r) (.ref s.heap.objs.size)) _ _ _
 refine gO (wpAny_extend_range (A:=A) (R:=λr z=>r=.ok (.ret (.ref s.heap.objs.size))/\∃j p d q,z={ s with heap:=j,toks:=p }/\(∀b o,b≠s.heap.objs.size->(s.heap.push { cls:=.type "list",data:=.seq ([]:List Value).toArray }).get? b=some o->j.get? b=some o)/\j.get? s.heap.objs.size=some { cls:=.type "list",dict:=none,data:=.seq d q,slots:=#[] }/\ItemsOf (λi v=>∃t,v=.int (a+i*c) t) d n)
  (s:={ s with heap:=s.heap.push { cls:=.type "list",data:=.seq ([]:List Value).toArray } }) G (aJ _ y) m H x s.heap.objs.size (.ref s.heap.objs.size) 0 F λj p d q hk k g=>⟨Fc,j,p,d,q,Fc,hk,k,g⟩) (λfin z h=>?_) (λe z h=>a9 h.1 Fa)
 cases fin with
 |done f=>
  obtain⟨e,j,p,d,q,rfl,hk,k,g⟩:=h;cases e
  (show wpAny _ A (load s.heap.objs.size >>= _) _ _ _;exact aB (bx k (aG (B j p d (λb o e=>hk b o (bS (bF e)) (aJ _ e)) g))))
 |again q=>
  exact⟨h.1,aj h.2 λr I y=>by
   obtain⟨rfl,j,p,d,C,rfl,hk,k,g⟩:=y
   (show wpAny _ A (load s.heap.objs.size >>= _) _ _ _;exact aB (bx k (aG (B j p d (λb o e=>hk b o (bS (bF e)) (aJ _ e)) g))))⟩
def AB(r:Addr)(a b c:Int)(t u v:Tok)(n:Nat)(f:z7 a b c=true)(C:f6 a b c=n)(k:n<=2^24) :
  Meets (l9.«tuple.__new__» ⟨[.type "tuple",.ref r],[]⟩)
   (λA R s=>A.handled=none/\IsRange s.heap r a b c t u v/\∀(j:Heap)(q:Nat)(d:Array Value),(∀b o,s.heap.get? b=some o->j.get? b=some o)->ItemsOf (λi v=>∃t,v=.int (a+i*c) t) d n ->
    R (.ok (.ret (.ref j.objs.size))) { s with heap:=j.push { cls:=.type "tuple",data:=.seq d },toks:=q }):=
 .of_wp λprog w A R s h=>by
  obtain⟨z,p,h⟩:=h;have x:=sub_tuple_self;have m:=init_tuple_lookup;have B:=madeHere_tuple;have y:s.TypeIs (.ref r) "range":=⟨_,p,Fc⟩;have l:A.in1.handled=none:=z
  wp_walk using ce p,al y,JY (A:=A.in1) l p f C k
  intro j q d hk g;show wpAny _ _ (i4 d.toList.toArray >>= λv=>ret v) _ _ _;unfold i4;refine aB (dG ?_ (show d.toList.toArray.size<=bO by simp only[Array.toArray_toList];rw[g.1,w6];lia));refine aG ⟨_,Fc,?_⟩;have e:d.toList.toArray=d:=by simp
  rw[e];exact h j q d hk g
end
section
variable{X:Cx}
def nC(y:X.calm=true):kO X (.type "tuple") (λn H Q=>∃(r:Addr)(j:Int),n=[.ref r]/\H r=some (.ext (BR r j))/\0<=j/\j<=100000/\∀p,H p=none->Q (.ref p) (gG H p (.tup ((cK j.toNat).map λ(k:Nat)=>V.int (k:Int))))):=by
 intro d s G H n M Q I r h;obtain⟨f,j,rfl,A,J,K,q⟩:=h;obtain⟨u,rfl,E⟩:=oB r;cases E;obtain⟨⟨t,u,v,x⟩,_,_⟩:jY X.prog X.w H s.heap f (.ext (BR f j)):=I.hok f _ A;have L:bO=2^24:=rfl;have z:f6 0 j 1=((j.toNat:Nat):Int):=by rw[rangeSize_one];split<;>lia
 refine callType_new PySem.F.called_tuple Ey (PySem.F.typeCall_tuple_1 _) (PySem.F.newCall_tuple_1 _) (λobj=>PySem.F.args_object_init_2 obj _) PySem.F.entry_tuple_new
  (AB f 0 j 1 t u v j.toNat (small_one Ey Ey Ez Ez) z Ez) ⟨I.ok.hd y,x,λg l a hk c=>⟨⟨_,aW _ Fc,Fc⟩,?_⟩⟩
 have m:eG X d G H { s with heap:=g,toks:=l }:=I.kept (t':=l) hk;refine⟨.ref g.objs.size,_,m.laid (t':=l) (o:=.tup ((cK j.toNat).map λ(k:Nat)=>V.int (k:Int))) (λb o e=>aJ _ e) (aN _) ?_,Fc,q _ (m.hok.fresh (aN _))⟩;refine⟨by rw[aC,fL];lia,a.toList,?_,by simpa using C1.new g a⟩;rw[List.range_eq_range'];refine HP j.toNat 0 a.toList (by rw[bQ];exact c.1) λi v C=>?_;obtain⟨t,B⟩:=c.2 i v (by simpa using C);exact⟨t,by rw[B];congr 1;lia⟩
end
end L2
namespace TL
open L2
section
variable{X:Cx}{a:Expr}
def Pv(t:AT):ET:=λc Q=>t c λb=>∃n:Int,b=[.int n]/\0<=n/\n<=100000/\Q (.tuple (eK n.toNat))
def A9(l:wN X [a] t)(v:∀{ta},PA X [a] ta->PE X (.Call (.Name "tuple" q1) [.Call (.Name "range" q2) [a] [] q3] [] q4) (SC (λb H Q=>∃(r:Addr)(j:Int),b=[.ref r]/\H r=some (.ext (BR r j))/\0<=j/\j<=100000/\∀p,H p=none->Q (.ref p) (gG H p (.tup ((cK j.toNat).map λ(k:Nat)=>V.int (k:Int))))) (sN (SC (λb H Q=>∃j:Int,b=[.int j]/\∀r,H r=none->Q (.ref r) (gG H r (.ext (BR r j)))) ta) BJ))):iM X (.Call (.Name "tuple" q1) [.Call (.Name "range" q2) [a] [] q3] [] q4) (Pv t):=by
 obtain⟨I,u,A⟩:=l;refine⟨_,v u,λB s H w c C Q F o h k=>A B s H w c C _ _ o h λG b E f x q1=>?_⟩;obtain⟨n,rfl,g,i,q⟩:=q1
 cases x with
 |cons y z=>
  cases z;cases y;refine⟨n,Fc,λr e=>⟨r,n,Fc,cW,g,i,λp d=>?_⟩⟩;have m:=(o.grow f).grow (eX (o:=.ext (BR r n)) e);exact k _ _ _ ((f.trans (eX e)).trans (eX d)) (rX m.live d (IM _)) q
end
end TL
namespace L2
open TL
section
variable{X:Cx}{d:Expr}
def ME{lo:Int}(a:0<=lo)(b:lo<=100000):f6 lo 0 (-1)=lo/\z7 lo 0 (-1)=true:=by
 have e:f6 lo 0 (-1)=lo:=by
  unfold f6;simp only[show¬((-1:Int)>0) by decide,g9,Int.neg_neg,aM8];split<;>lia
 refine⟨e,?_⟩;unfold z7;rw[e];simp only[Builtin.Range.rangeFitsLong,dM,uR,n9,fk,show¬((-1:Int)>0) by decide,g9];lia
def VN(b:TA):TI:=λc H R=>b c H λvs a=>∃i:Int,vs=[.int i,.int 0,.int (-1)]/\0<=i/\i<=100000/\R (Ja i i.toNat) a
def TH(E:Gl X "range")(F:X.mg "range"=none)(B:PA X [a,b,c] ta)(hs:autoParam (cD [a,b,c] X.env=[(false,eval a X.env),(false,eval b X.env),(false,eval c X.env)]) zzz._auto_1)(k:autoParam (cD [b,c] X.env=[(false,eval b X.env),(false,eval c X.env)]) zzz._auto_1) :
  PI X d (.Call (.Name "range" p) [a,b,c] [] pos) (VN ta):=by
 intro g s v H R I h;refine Call_ (uA I E F boot_range (i8 (jR (B pos g s v H _ I h) λM j L=>?_) (by rw[hs,k]) (by rw[k];rfl)));obtain⟨vs,u,w,J,q1⟩:=L;obtain⟨i,e,z,A,q⟩:=q1;subst e
 cases J with
 |cons r l=>
  cases l with
  |cons G l=>
   cases l with
   |cons n l=>
    cases l;obtain⟨t,rfl⟩:=r;obtain⟨t',rfl⟩:=G;obtain⟨f,rfl⟩:=n;obtain⟨z1,K⟩:=ME z A;refine call_range_3 Ey ?_ (.inl (ek Ez));refine ua (IsRange.new ..) K ?_;have m:eG X g v u { j with heap:=j.heap.push { cls:=.type "range",data:=.fields #[.int i t,.int 0 t',.int (-1) f] },toks:=j.toks }:=w.kept λb o e=>aJ _ e
    refine⟨(j.heap.push { cls:=.type "range",data:=.fields #[.int i t,.int 0 t',.int (-1) f] }).objs.size,[(j.heap.push { cls:=.type "range",data:=.fields #[.int i t,.int 0 t',.int (-1) f] }).objs.size],_,_,u,Fc,
     m.kept (t':=j.toks) λb o e=>aJ _ e,O8 _ i i.toNat,?_,λb C=>?_,q⟩
    ·have x:i+((0:Nat):Int)*(-1)=i:=by simp
     have y:((i.toNat:Nat):Int)-((0:Nat):Int)=f6 i 0 (-1):=by rw[z1];lia
     show fh _ _ (i+((0:Nat):Int)*(-1)) (((i.toNat:Nat):Int)-((0:Nat):Int)) (-1);rw[x,y];exact aW _ Fc
    ·have e:b=(j.heap.push { cls:=.type "range",data:=.fields #[.int i t,.int 0 t',.int (-1) f] }).objs.size:=by simpa using C
     subst e;exact m.fpOk (aN _) (m.hok.fresh (aN _))
end
end L2
namespace TL
open L2
section
variable{X:Cx}{e:Expr}
noncomputable def qI(i:Int):List D:=(cK i.toNat).map λ(k:Nat)=>aP (i-(k:Int))
def Z6(t:AT):IT:=λb Q=>t b λa=>∃i:Int,a=[.int i,.int 0,.int (-1)]/\0<=i/\i<=100000/\Q (qI i)
def VE(v:wN X [a,b,c] t)(A:∀{ta},PA X [a,b,c] ta->PI X tg (.Call (.Name "range" p) [a,b,c] [] p') (VN ta)):KJ X tg (.Call (.Name "range" p) [a,b,c] [] p') (Z6 t):=by
 obtain⟨K,z,E⟩:=v;refine⟨_,A z,λB x H n m G Q R o h k=>E B x H n m G _ _ o h λJ L r F f q1=>?_⟩;obtain⟨i,rfl,s,u,q⟩:=q1
 cases f with
 |cons f g=>
  cases g with
  |cons g l=>
   cases l with
   |cons l C=>
    cases C;cases f;cases g;cases l;refine⟨i,Fc,s,u,k (qI i) _ r F ?_ q⟩;have d:(qI i).length=i.toNat:=by unfold qI;simp
    refine⟨λj H _ e=>by rw[d]at e;exact e,λj H _ e=>by rw[d]at e;exact e,λj H n y I _ _ e w=>?_⟩;obtain⟨rfl,rfl⟩:=w;refine⟨L2.bR.refl _,.int (i-j),?_,.int _⟩;rw[d]at e;unfold qI;rw[aI,iK e];rfl
end
section
variable{X:Cx}{e:Expr}{b:ET}{x:Str}{pos a:Pos}
def ss(i:Nat)(c:X.N.Nodup)(h:iM X e b)(f:autoParam (X.N[i]?=some x) zzz._auto_1)(g:autoParam (OR X.env.scope x) zzu._auto_1)(hs:autoParam (jH e (some (.Name x a)) pos.line X.env=pure false) zzz._auto_1)
  (d:autoParam (X.fn x=true\/X.env.scope.names.lookup x=some .local) zzv._auto_1):wM X (.Assign [.Name x a] e pos) (FP i b):=SG (i:=i) h λh=>yJ c f g h hs d
def pn(i:Nat)(c:X.N.Nodup)(f:autoParam (X.N[i]?=some x) zzz._auto_1)(g:autoParam (OR X.env.scope x) zzu._auto_1)(d:autoParam (X.fn x=true\/X.env.scope.names.lookup x=some .local) zzv._auto_1):PG X (.Name x pos) (kX i):=NS c f g d
def kT{N P:List Str}{c:Scope}(d:autoParam (c.kind=.function) zzz._auto_1)(f:autoParam (c.isCoroutine=false) zzz._auto_1)(g:autoParam (c.isGenerator=false) zzz._auto_1)(h:autoParam (N.Nodup) zzr._auto_1)(i:autoParam (N.take P.length=P) zzz._auto_1)(j:autoParam (∀x∈P,c.names.lookup x=some .local\/c.names.lookup x=some .cell) zzr._auto_1)(k:autoParam (∀y∈c.names,y.2≠.free) zzr._auto_1):bX N P c:=⟨d,f,g,h,i,j,k⟩
end
end TL
namespace L2
inductive sK:List (Int×Value)->List Int->Prop where
|nil:sK [] []
|cons (k:Int) (t:Tok) {es:List (Int×Value)} {l:List Int}:sK es l->sK ((cz k,.int k t)::es) (k::l)
def sK.len{a:List (Int×Value)}{l:List Int}(h:sK a l):a.length=l.length:=by
 induction h with
 |nil=>rfl
 |cons k t _ b=>simp[b]
def sK.app{fs}(h:sK es l)(g:sK fs m):sK (es++fs) (l++m):=by
 induction h with
 |nil=>exact g
 |cons k t _ a=>exact .cons k t a
section
variable{prog:cN}{w:c7}
def sK.find{a:List (Int×Value)}{l:List Int}(h:sK a l)(k:Int):(a.findIdx? λe=>(jc prog w).is (k:Int) e.2)=l.findIdx? (·==k):=by
 induction h with
 |nil=>rfl
 |cons m t h b=>
  rw[RS,RS,b]
  have e:(jc prog w).is (k:Int) (.int m t)=(m==k):=by
   show Value.isInt (k:Int) (.int m t)=_;by_cases q:m=k
   ·subst q;rw[show(m==m)=true by simp];exact gu prog w (m:Int) t
   ·rw[show(m==k)=false by simpa using q,rN];intro z;obtain⟨u,z⟩:=iv z;injection z with z _
    exact q Ez
  rw[e]
end
section
def SF{h:Heap}{a:Addr}{o:Obj}{b:Nat}(c:h.get? a=some o)(hd:o.data=.set es b t) :
  (h.update a (iz es' t')).get? a=some { o with data:=.set es' (b+1) t' }:=by
 have:=fE (iz es' t') c (by rw[putSet_of es' t' hd];rfl);rw[putSet_of es' t' hd]at this;exact this
end
noncomputable def eP(w:c7):Bool:=w.params.followText "set-order"
section
variable{prog:cN}{w:c7}{A:d0}{E:Value->Shared->Prop}{s:Shared}
def II(a:Value){Q₁:Value->Shared->Prop}(h:Q₁ (.ref s.heap.objs.size) { s with heap:=s.heap.push { cls:=.type "set",dict:=none,data:=.set #[] 0 (.fresh 0 0 (!eP w)) } }) :
  z8 (model prog w) A (.call (.builtin "set.__new__") ⟨[.type "set",a],[]⟩) (wants Q₁ E) s:=by
 refine fx ?_;show wpAny _ A.in1 (do ew "set.__new__" ⟨[.type "set",a],[]⟩;again (.builtin "set.__new__" ⟨[.type "set",a],[]⟩)) _ _ s;refine aB (cw (PySem.F.newCall_set_1 a) (aG ⟨z5 HJ _,l7 PySem.F.entry_set_new ?_⟩));rw[i7 HJ _];unfold l9.«set.__new__» Builtin.Frozenset.newClass;have z:=ik;obtain⟨b,g,d,c,os⟩:=s;dsimp only
 wp_walk
 refine y3 (aG ?_);dsimp only;simp only[newObj];exact aB (wpAny_alloc (aG (aG h)))
end
def fQ:Slot "set_iterator" "__next__" "set_iterator.__next__":=
 Slot.of (owner:="set_iterator") (n:="__next__") (by rw[typeLookup_type,jk];kernel_rfl) Ex Ex Ex (.inl Ex) (by rw[isSubtype_type];kernel_rfl)
def mH:Slot "set_iterator" "__iter__" "set_iterator.__iter__":=
 Slot.of (owner:="set_iterator") (n:="__iter__") (by rw[typeLookup_type,jk];kernel_rfl) Ex Ex Ex (.inl Ex) (by rw[isSubtype_type];kernel_rfl)
def lM:entryFor table "set_iterator.__next__"=some l9.«set_iterator.__next__»:=entryFor_of_tree (by kernel_rfl)
def rG:entryFor table "set_iterator.__iter__"=some l9.«dict_keyiterator.__iter__»:=entryFor_alias (id':="dict_keyiterator.__iter__") (by kernel_rfl) (by first | rfl | decide +kernel) Ex (by kernel_rfl)
def uE:entryFor table "set.__iter__"=some l9.«frozenset.__iter__»:=entryFor_alias (id':="frozenset.__iter__") (by kernel_rfl) Fc Ex (by kernel_rfl)
def mL(a:Value):argsOk "set_iterator.__next__" ⟨[a],[]⟩:=by unfold argsOk;kernel_rfl
def sQ(a:Value):argsOk "set_iterator.__iter__" ⟨[a],[]⟩:=by unfold argsOk;kernel_rfl
noncomputable def vF(w:c7)(a:Addr)(c:Nat)(b:Array (Int×Value)):Array (Int×Value):=if eP w=true then pickOrder (w.params.setOrder a c) b else b
def CJ{a:Type}{l:List a}{i:Nat}(h:i<l.length):iS (l[i]::l.eraseIdx i) l:=by
 have e:l=l.take i++l[i]::l.drop (i+1):=by rw[<- HA h,M1]
 rw[List.eraseIdx_eq_take_drop_succ]
 conv=>rhs;rw[e]
 exact List.perm_middle.symm
theorem NR{b:Type}(next:Nat->Nat):∀(n k:Nat)(left:List b)(out:Array b),left.length=n->iS (ee next n k left out).toList (out.toList++left)
|0,k,left,out,h=>by
 have:left=[]:=hZ.mp h;subst this;unfold ee;simp
|n+1,k,left,out,h=>by
 have a:next k%left.length<left.length:=lT _ Ez;unfold ee;rw[aD a];dsimp only;refine(NR next n (k+1) _ _ (by rw[FG a];lia)).trans ?_;rw[zH,jZ];exact iS.append_left _ (CJ a)
def xC(w:c7)(a:Addr)(c:Nat)(b:Array (Int×Value)):iS (vF w a c b).toList b.toList:=by
 unfold vF;split
 ·have:=NR (w.params.setOrder a c) b.size 0 b.toList #[] Fa;exact this
 ·exact .rfl
theorem ER:∀{a:List (Int×Value)}{l},sK a l->IntsAre (a.map (·.2)) l
|_,_,.nil=>.nil
|_,_,.cons k t r=>.cons (k:Int) t (ER r)
def EQ(h:sK es l){fs}(p:iS fs es):∃m:List Int,sK fs m/\iS m l:=by
 induction p generalizing l with
 |nil=>cases h;exact⟨[],.nil,.rfl⟩
 |cons x p g=>cases h with
  |cons k t r=>
   obtain⟨m,a,b⟩:=g r;exact⟨k::m,.cons k t a,b.cons k⟩
 |swap x y p=>cases h with
  |cons k t r=>cases r with
   |cons j u r=>exact⟨_,.cons j u (.cons k t r),iS.swap ..⟩
 |trans p q c d=>
  obtain⟨m,a,b⟩:=d h;obtain⟨n,e,f⟩:=c a;exact⟨n,e,f.trans b⟩
section
variable{prog:cN}{w:c7}{A:d0}{E:Value->Shared->Prop}{s:Shared}
def DG{n:Nat}{Q:Nat->Shared->Prop}(b:n≠0)(h:∀i d,i<n->Q i { s with drawn:=d }):wpAny (model prog w) A (choose rr n) Q E s:=by
 intro c p a;unfold choose;rw[Sem.wp_choose];exact⟨b,aG (A:=A) (M:=model prog w) (E:=E) (h _ _ (lT _ (Nat.pos_of_ne_zero b))) c p a⟩
theorem CN{e:Type}:∀(n:Nat)(a:List e)(s:Shared)(Q:List e->Shared->Prop),a.length=n->(∀c d,iS c a->Q c { s with drawn:=d })->wpAny (model prog w) A (drawOrder n a) Q E s
|0,a,s,Q,hx,h=>by
 have:a=[]:=hZ.mp hx;subst this;exact aG (h [] s.drawn .rfl)
|n+1,[],s,Q,hx,h=>by cases hx
|n+1,x::a,s,Q,hx,h=>by
 unfold drawOrder;refine aB (DG Fa λi d b=>?_);rw[aD b];dsimp only;refine aB (CN n ((x::a).eraseIdx i) _ _ (by rw[FG b];lia) λc f g=>aG (h _ f ?_));exact(g.cons _).trans (CJ b)
end
theorem eG.drawn(I:eG X pins σ H s)(d:Drawn):eG X pins σ H { s with drawn:=d }:=⟨I.ok,I.os,I.bare,I.base,I.loc,I.cell,I.free,I.freeC,I.pin,I.hok,I.len⟩
abbrev vM(l:List Nat):Prop:=l.Pairwise (·<·)
def Mr(a:Array Nat)(j r:Nat):Prop:=r<=a.size/\(∀i v,i<r->a[i]?=some v->v<j)/\∀i v,r<=i->a[i]?=some v->j<=v
def wY{d:Array Nat}(h:vM d.toList){i k a b:Nat}(c:i<k)(e:d[i]?=some a)(f:d[k]?=some b):a<b:=by
 rw[<- eD]at e f;obtain⟨g,rfl⟩:=aE.mp e;obtain⟨j,rfl⟩:=aE.mp f;exact List.pairwise_iff_getElem.mp h i k g j c
theorem CZ{c:Array Nat}(h:vM c.toList)(j:Nat):∀(fuel lo a:Nat),a-lo<=fuel->lo<=a->a<=c.size->(∀i v,i<lo->c[i]?=some v->v<j)->(∀i v,a<=i->c[i]?=some v->j<=v)->Mr c j (dt c j fuel lo a)
|0,lo,a,h1,h2,h3,h4,h5=>by
 obtain rfl:lo=a:=by lia
 exact⟨h3,h4,h5⟩
|fuel+1,lo,a,h1,h2,h3,h4,h5=>by
 unfold dt;by_cases d:lo<a
 ·rw[a7 d];dsimp only;have l:(lo+a) / 2<a:=by lia
  have f:lo<=(lo+a) / 2:=by lia
  generalize (lo+a) / 2=mid at l f
  have b:c[mid]?=some c[mid]:=bV Ez;rw[lA,b,zX];by_cases k:c[mid]<j
  ·rw[a7 k];refine CZ h j fuel (mid+1) a Ez Ez h3 (λi v g e=>?_) h5;rcases uM i mid with q | q
   ·have:=wY h q e b;lia
   ·obtain rfl:i=mid:=by lia
    rw[b]at e;cases e;exact k
  ·rw[a6 k];refine CZ h j fuel lo mid Ez f Ez h4 λi v g e=>?_;rcases uM mid i with q | q
   ·have:=wY h q b e;lia
   ·obtain rfl:i=mid:=by lia
    rw[b]at e;cases e;lia
 ·rw[a6 d];obtain rfl:lo=a:=by lia
  exact⟨h3,h4,h5⟩
def E3{a:Array Nat}(h:vM a.toList)(j:Nat):Mr a j (l6 a j):=
 CZ h j a.size 0 a.size Ez (cI _) (aN _) (λi v z=>a9 z (pM _)) λi v z e=>by
  have:=(DR.mp e).1;lia
noncomputable def qU(t:SetTable)(i:Nat):Nat:=if i=0 then 0 else t.place.getD (i-1) 0+1
def MN{t:SetTable}(h:vM t.place.toList){i:Nat}(g:i<=t.place.size):l6 t.place (qU t i)=i:=by
 obtain⟨f,d,e⟩:=E3 h (qU t i)
 generalize l6 t.place (qU t i)=r at f d e
 rcases XL r i with q | q | q
 ·have a:t.place[r]?=some t.place[r]:=bV Ez;have b:t.place[i-1]?=some t.place[i-1]:=bV Ez;have:=e r _ (aN _) a;unfold qU at this;rw[a6 Ez,lA,b,zX]at this;rcases uM r (i-1)with z | z
  ·have:=wY h z a b;lia
  ·have:r=i-1:=by lia
   subst this;lia
 ·exact q
 ·have a:t.place[i]?=some t.place[i]:=bV Ez;have:=d i _ q a;unfold qU at this;by_cases c:i=0
  ·rw[a7 c]at this;lia
  ·have b:t.place[i-1]?=some t.place[i-1]:=bV Ez;rw[a6 c,lA,b,zX]at this;have:=wY h (show i-1<i by lia) b a;lia
structure nF(led:Bool)(t:SetTable)(n:Nat):Prop where
 fits:t.fits n=true
 rise:vM t.place.toList
 dum:t.dummies=#[]
 led:t.led=led
theorem nF.size{led:Bool}{t:SetTable}{n:Nat}(g:nF led t n):t.place.size=n:=by
 have:=g.fits;unfold SetTable.fits at this;rw[dM]at this;simpa using this.1
def VS(j:Nat):SetTable.has #[] j=false:=rfl
theorem zN{t:SetTable}(hd:t.dummies=#[]){b:Nat->Int}{h:Int}(a:∀i,b i≠h):∀(fuel:Nat)(p:SetTable.Probe){m},p.dummy=none->du t b h fuel p=some m->∃j,m=.empty j none/\t.slot j=.empty
|0,p,m,_,e=>by cases e
|fuel+1,p,m,hp,e=>by
 unfold du at e
 cases hs:t.slot p.j with
 |empty=>
  rw[hs]at e;dsimp only at e;cases e;exact⟨_,by rw[hp],hs⟩
 |dummy=>
  unfold SetTable.slot at hs;rw[hd]at hs;dsimp only at hs;rw[VS]at hs;split at hs
  ·cases hs
  ·rw[a6 Ey]at hs;cases hs
 |live i=>
  rw[hs]at e;dsimp only at e;rw[a6 (by simpa using a i)]at e;refine zN hd a fuel _ ?_ e;unfold SetTable.advance;split
  ·exact hp
  ·exact hp
def L5{t:SetTable}(hd:t.dummies=#[]){h:Int}{j:Nat}{b:Bool}(e:t.freeSlot h=some (j,b)):t.slot j=.empty/\b=false:=by
 unfold SetTable.freeSlot at e
 cases a:t.probe (λ_=>h+1) h (t.probeStart h)with
 |none=>rw[a]at e;cases e
 |some m=>
  obtain⟨k,rfl,hk⟩:=zN hd (λ_=>by lia) _ _ Fc a;rw[a]at e;cases e;exact⟨hk,Fc⟩
def S2{t:SetTable}(h:vM t.place.toList)(hd:t.dummies=#[]){j:Nat}(hs:t.slot j=.empty):vM (t.put j).1.place.toList/\(t.put j).1.dummies=#[]/\(t.put j).1.led=t.led:=by
 unfold SetTable.put;dsimp only;refine⟨?_,by rw[hd];rfl,Fc⟩
 have q:t.place[l6 t.place j]?≠some j:=λz=>by
  unfold SetTable.slot at hs;dsimp only at hs;rw[z,a7 Fa]at hs;cases hs
 obtain⟨r,o,f⟩:=E3 h j
 generalize l6 t.place j=p at q r o f
 rw[SetTable.toList_insertAt];have get:∀i v,t.place.toList[i]?=some v->t.place[i]?=some v:=λi v e=>by rw[<- eD];exact e
 refine List.pairwise_append.mpr ⟨h.sublist (rL ..),List.pairwise_cons.mpr ⟨λv u=>?_,h.sublist (List.drop_sublist ..)⟩,λa s b hb=>?_⟩
 ·obtain⟨i,c⟩:=bP u;rw[jO]at c;have g:=get _ _ c;have:=f _ _ Ez g;by_cases l:i=0
  ·subst l;have:v≠j:=λz=>q (by rw[<- z];exact g);lia
  ·have m:p<t.place.size:=by have:=(DR.mp g).1;lia
   have n:t.place[p]?=some t.place[p]:=bV m;have:=wY h (show p<p+i by lia) n g;have:=f _ _ (aN _) n;lia
 ·obtain⟨i,c⟩:=bP s
  have d:i<p:=by
   have:=(aE.mp c).1;rw[aZ]at this;lia
  rw[HK d]at c;have w:=o _ _ d (get _ _ c);rcases aY.mp hb with rfl | hb
  ·exact w
  ·obtain⟨k,hk⟩:=bP hb;rw[jO]at hk;have:=f _ _ Ez (get _ _ hk);lia
def rV(t:SetTable)(n:Nat):nF t.led (t.standIn n) n:=⟨SetTable.standIn_fits t n,by show vM (Array.range n).toList;rw[Array.toList_range];exact tD,Fc,Fc⟩
def JK{led:Bool}{a:Array (Int×Value)}(g:nF led t a.size)(h:Int)(x:Value):nF led (layNew t a h x).2.1 (layNew t a h x).1.size:=by
 unfold layNew
 cases e:t.freeSlot h with
 |none=>
  dsimp only;have:=rV t (a.size+1);rw[g.led]at this;simpa using this
 |some q=>
  obtain⟨j,b⟩:=q;obtain⟨f,rfl⟩:=L5 g.dum e;obtain⟨i,k,d⟩:=S2 g.rise g.dum f;dsimp only
  generalize SetTable.insertAt a (t.put j).2 (h,x)=es1
  unfold SetTable.orStandIn;by_cases c:(t.put j).1.fits es1.size=true
  ·rw[a7 c];exact⟨c,i,k,d.trans g.led⟩
  ·rw[a6 c];have:=rV (t.put j).1 es1.size;rw[d,g.led]at this;exact this
def K5{led:Bool}{t:SetTable}(i:t.led=led)(c:Nat):nF led (cu t es c).2.1 (cu t es c).1.size:=by
 unfold cu
 cases e:t.relaid (es.map (·.1)) c with
 |none=>dsimp only;rw[<- i];exact rV t es.size
 |some q=>
  obtain⟨h,d⟩:=q;dsimp only
  have k:vM h.place.toList/\h.dummies=#[]/\h.led=t.led:=by
   unfold SetTable.relaid SetTable.laid at e
   cases m:SetTable.layClean (SetTable.sizeAbove c-1) (es.map (·.1))with
   |none=>rw[m]at e;cases e
   |some o=>
    rw[m]at e;cases e;refine⟨?_,Fc,Fc⟩;show vM (FE _ (List.filterMap _ (cK _)))
    have:∀(f:Nat->Option Nat)(l:List Nat),((l.filterMap λj=>(f j).map (j,·)).map (·.1)).Sublist l:=λf l=>by
     induction l with
     |nil=>exact .slnil
     |cons a l n=>
      rw[gD]
      cases p:f a with
      |none=>exact n.cons a
      |some b=>exact n.cons₂ a
    exact tD.sublist (this (λj=>o.getD j none) _)
  by_cases g:(coversAll d es.size&&h.fits (d.filterMap (es[·]?)).size)=true
  ·rw[a7 g];rw[dM]at g;exact⟨g.2,k.1,k.2.1,k.2.2.trans i⟩
  ·rw[a6 g];rw[<- i];exact rV t es.size
section
variable{prog:cN}{w:c7}
def sK.elemsG(h:sK es l):ElemsOf (jc prog w) es:=by
 induction h with
 |nil=>intro e he;cases he
 |cons k t h a=>
  intro e he;rcases aY.mp he with rfl | he
  ·exact⟨⟨k,gu _ _ _ _,Fc⟩,Fc⟩
  ·exact a e he
end
def wH(h:Heap)(a:Addr)(l:List Int)(led:Bool):Prop:=∃o b c t,h.get? a=some o/\o.ExactSet/\o.data=.set b c t/\sK b.toList l/\nF led t b.size
def wH.at{h b:Heap}{a:Addr}{led:Bool}(x:wH h a l led)(k:∀o,h.get? a=some o->b.get? a=some o):wH b a l led:=by
 obtain⟨o,d,c,t,e,r⟩:=x;exact⟨o,d,c,t,k o e,r⟩
section
variable{prog:cN}{w:c7}{A:d0}{E:Value->Shared->Prop}{s:Shared}
def EK{g:Bool->Sem Unit}(n:∀(b:Bool)s1(q:Unit->Shared->Prop),q () s1->wpAny (model prog w) A (g b) q E s1){a:Addr}{o:Obj}{es c:Array (Int×Value)}{x:Nat}{t d:SetTable}{led v:Bool}{R:Option Bool->Shared->Prop}
  (r:s.heap.get? a=some o) (hex:o.ExactSet) (hd:o.data=.set es x t) (p:sK c.toList m1) (G:nF led d c.size) (z:c.size<=bO)
  (h:∀j m,cV a s.heap j->wH j a m led->m.Perm m1->R (some true) { s with heap:=j }) :
  wpAny (model prog w) A (do
   storeSet a c d
   if(!v&&d.tooFull)=true then do
     g (cu d c (y7 c.size)).2.2
     storeSet a (cu d c (y7 c.size)).1 (cu d c (y7 c.size)).2.1
     pure (some true)
    else pure (some true)) R E s:=by
 refine aB (uu r hd ?_ z);have i:=SF (es':=c) (t':=d) r hd;have b1:=cV.update s.heap a (iz c d)
 cases H:(!v&&d.tooFull)with
 |true=>
  rw[a7 rfl];have f:=relayAll_perm d c (y7 c.size);have gd:=K5 (es:=c) G.led (y7 c.size)
  generalize cu d c (y7 c.size)=L at f gd |-
  obtain⟨e,u,F⟩:=L;dsimp only at f gd |-
  obtain⟨B,k,C⟩:=EQ p f
  have l:e.size<=bO:=by
   have:=f.length_eq;rw[bQ,bQ]at this;lia
  refine aB (n _ _ _ (aB (uu i Fc ?_ l)));have y:=SF (es':=e) (t':=u) i Fc;exact aG (h _ B (b1.trans (cV.update _ a _)) ⟨_,e,_,u,y,hex,Fc,k,gd⟩ C)
 |false=>
  rw[a6 Ey];exact aG (h _ m1 b1 ⟨_,c,_,d,i,hex,Fc,p,G⟩ (.refl _))
def VU{a:Addr}{l:List Int}{led:Bool}{k:Int}{Q:Bool->Shared->Prop}(O:wH s.heap a l led)(hz:l.length<1000)
  (h:∀c b m,cV a s.heap c->wH c a m led->(k∈l->m=l)->(k∉l->m.Perm (l++[k]))->Q b { s with heap:=c }) :
  wpAny (model prog w) A (setAddHashed a (.int k u) (cz k)) Q E s:=by
 obtain⟨o,r,Z,t,I,hex,hd,H,g⟩:=id O;have M:r.size=l.length:=by rw[<- bQ];exact H.len
 have B:=H.elemsG (prog:=prog) (w:=w);have f:r.size<scanBound:=by rw[M];unfold scanBound;lia
 unfold setAddHashed setAddHashedIn;refine h7 (aB (j7 I hd g.fits ?_));dsimp only;rw[byScan_of (x:=.int k u) Fc f B,a7 rfl];unfold setAddByScan;refine aB (aB (m9 ?_));have X:=wpAny_setScan_of (A:=A) (E:=E) (s:=s) (adding:=true) (x:=.int k u) (gu prog w (k:Int) u) I hd g.fits B (Q:=λm n=>m=(match l.findIdx? (·==k)with | some j=>.found (0+j) | none=>.absent)/\n=s) (by rw[H.find];exact⟨Fc,Fc⟩);refine aB (gO X ?_ λ_ _ z=>z);rintro m n ⟨rfl,rfl⟩
 cases R:l.findIdx? (·==k)with
 |some j=>
  obtain⟨T,i,_⟩:=List.findIdx?_eq_some_iff_getElem.mp R
  have K:k∈l:=by
   have:l[j]=k:=by simpa using i
   rw[<- this];exact fK T
  have:=h n.heap false l (cV.refl a n.heap) O (λ_=>rfl) λz=>a9 K z;exact aG (aG this)
 |none=>
  have K:k∉l:=λz=>by
   have:=List.findIdx?_eq_none_iff.mp R k z;simp at this
  dsimp only;have p1:=layNew_perm t r (cz k) (.int k u);have G:=JK g (cz k) (.int k u)
  generalize layNew t r (cz k) (.int k u)=L at p1 G
  obtain⟨v,Y,wd,S⟩:=L;dsimp only at p1 G |-
  have J:sK (r.push (cz k,.int k u)).toList (l++[k]):=by
   rw[zH];exact H.app (.cons k u .nil)
  obtain⟨W,e,F⟩:=EQ J p1
  have C:v.size=l.length+1:=by
   rw[<- bQ,e.len,F.length_eq,bH];rfl
  have d:v.size<=bO:=by rw[C,w6];lia
  have p:∀(b:Bool)N(q:Unit->Shared->Prop),q () N->wpAny (model prog w) A (match b with | true=>rule "set.scan.the-table-gave-way" | false=>pure ()) q E N:=λb N q P=>by
   cases b with
   |true=>exact m9 P
   |false=>exact aG P
  have done:∀c m,cV a n.heap c->wH c a m led->m.Perm W->Q true { n with heap:=c }:=λc m f y i=>h c true m f y (λz=>a9 z K) λ_=>i.trans F;refine aB (p S n _ ?_)
  cases U:Y.plain with
  |true=>
   rw[a7 rfl];refine aB ?_;rw[hashByValue_scannable 8 (x:=.int k u) rfl];refine aG ?_;rw[show plainKind (.int k u)=true from rfl];exact EK p I hex hd e G d λc m f y i=>aG (done c m f y i)
  |false=>
   rw[a6 Ey];refine aB (aG ?_);exact EK p I hex hd e G d λc m f y i=>aG (done c m f y i)
end
def Dd(m l:List Int):Prop:=m.Nodup/\m.length<=l.length/\∀z,z∈m↔z∈l
def Dd.add{m l g:List Int}{k:Int}(h:Dd m l)(f:k∈m->g=m)(c:k∉m->g.Perm (m++[k])):Dd g (l++[k]):=by
 obtain⟨i,o,d⟩:=h;by_cases hk:k∈m
 ·rw[f hk];refine⟨i,by rw[bH];lia,λz=>?_⟩;rw[d z,dZ,dF];exact⟨.inl,λq=>q.elim id λe=>e▸(d k).mp hk⟩
 ·have p:=c hk;refine⟨p.nodup_iff.mpr (rM.mpr ⟨i,Fa,λa n b j=>?_⟩),by rw[p.length_eq,bH,bH];show _+1<=_+1;lia,λz=>?_⟩
  ·rw[dF]at j
   exactλe=>hk (by rw[<- j,<- e];exact n)
  ·rw[p.mem_iff,dZ,dZ,d z]
section
variable{prog:cN}{w:c7}{A:d0}
def QQ{R:Result->Shared->Prop}{I f:Addr}(S:Addr)(g:S≠I)(M:S≠f)(n:f≠I)(U:A.handled=none){a:List Value}{ns:List Int}{led:Bool}(y:IntsAre a ns)(hz:ns.length<1000) :
  ∀(k i:Nat)(s:Shared),a.length-i=k->i<=a.length->s.heap.IsTupleIter I f i->s.heap.IsTuple f a.toArray->(∃m,wH s.heap S m led/\Dd m (ns.take i)) ->
   (∀d C,(∀b o,b≠S->b≠I->s.heap.get? b=some o->d.get? b=some o)->(∃m,wH d S m led/\Dd m ns)->R (.ok (.ret .none)) { s with heap:=d,toks:=C }) ->
   z8 (model prog w) A (.builtin "set.update.loop" ⟨[.ref S,.ref I],[]⟩) R s:=by
 have W:a.length=ns.length:=y.length;intro k
 induction k with
 |zero=>
  intro i s hk hi E G j L;obtain rfl:i=a.length:=by lia
  refine l7 bc ?_;rw[i7 r8 _];show wpAny _ A.in1 (u3 (.ref I) >>= _) _ _ s;refine aB ((Walks.tuple (prog:=prog) (w:=w) (A:=A.in1) U I f n a.toArray).done s _ _ (by rw[bJ];exact⟨E,G⟩) λd C z=>?_);show wpAny _ A.in1 (ret d8) _ _ _;refine aG (L d C (λb o _ hb e=>z b o (by simpa using hb) e) ?_);rw[kR Ez]at j;obtain⟨m,hm,c⟩:=j;exact⟨m,hm.at λo e=>z S o (by simpa using g) e,c⟩
 |succ k ih=>
  intro i s hk hi E G j L;have r:i<a.length:=by lia
  refine l7 bc ?_;rw[i7 r8 _];show wpAny _ A.in1 (u3 (.ref I) >>= _) _ _ s;refine aB ((Walks.tuple (prog:=prog) (w:=w) (A:=A.in1) U I f n a.toArray).item i s _ _ (by rw[bJ];exact r) ⟨E,G⟩ λv d C Z B z=>?_);have hv:a[i]?=some v:=by simpa using Z
  have N:i<ns.length:=by lia
  have P:ns[i]?=some ns[i]:=aD N;obtain⟨t,x⟩:=y.int_at i v hv;rw[cX,P]at x
  generalize ns[i]=m at P x
  replace x:v=.int m t:=x
  subst x;obtain⟨m0,j,c⟩:=j;have J:wH d S m0 led:=j.at λo e=>z S o (by simpa using g) e;show wpAny _ A.in1 (jb [i3 m t] (setAdd S (.int m t)) >>= _) _ _ _;refine aB (h7 ?_);unfold setAdd;refine h7 (aB ((jc prog w).pyHash (k:=m) (gu _ _ _ _) ?_));refine VU (s:={ s with heap:=d,toks:=C+1 }) J (by have:=c.2.1;rw[aZ]at this;lia) λH _ m1 h l O u=>?_;have K:∃m,wH H S m led/\Dd m (ns.take (i+1)):=⟨m1,l,by rw[cU,P];exact c.add O u⟩;refine aG ⟨z5 r8 _,ih (i+1) _ Ez r (B.1.at λo e=>(h.2 I (l5 g)).trans e) (B.2.at λo e=>(h.2 f (l5 M)).trans e) K λX T Q Y=>?_⟩;exact L X T (λb o p q e=>Q b o p q ((h.2 b p).trans (z b o (by simpa using q) e))) Y
end
set_option maxHeartbeats 3200000 in
def GN{A:d0}{E:Value->Shared->Prop}{s:Shared}{l:Addr}{a:List Value}{ns:List Int}{Q:Value->Shared->Prop}
  (O:A.handled=none) (P:s.heap.IsTuple l a.toArray) (y:IntsAre a ns) (U:ns.length<1000)
  (h:∀(c:Heap)(i:Nat),(∃m,wH c s.heap.objs.size m (!eP w)/\Dd m ns)->(∀b o,s.heap.get? b=some o->c.get? b=some o)->Q (.ref s.heap.objs.size) { s with heap:=c,toks:=i }) :
  wpAny (model prog w) A (call (.type "set") [.ref l]) Q E s:=by
 obtain⟨Z,Y,S⟩:=iQ.mro;have T:=iQ.made;have H:=iQ.sub;refine gz (fx ?_);show wpAny _ _ (callAny (.type "set") _) _ _ _;refine aG ⟨Code.quiet_builtin _ Ex,l7 PySem.F.entry_type_call ?_⟩;rw[Around.under_plain (weight_type_call_type "set" [.ref l] []) rfl];have k1:=iQ.notType;have k2:=iQ.canCreate;have k3:=PySem.F.typeCall_set_1 (.ref l)
 repeat (any_goals (first | assumption | wp_step))
 refine aj (II (.ref l) (E:=E) (Q₁:=λobj K=>∃led:Bool,led=!eP w/\obj=.ref s.heap.objs.size/\K={ s with heap:=s.heap.push { cls:=.type "set",dict:=none,data:=.set #[] 0 (.fresh 0 0 led) } }) ⟨_,Fc,Fc,Fc⟩) λr K x=>?_
 cases r with
 |error e=>exact x
 |ok fl=>
  cases fl with
  |ret obj=>
   obtain⟨led,n,rfl,rfl⟩:=x;have G:(s.heap.push { cls:=.type "set",dict:=none,data:=.set #[] 0 (.fresh 0 0 led) }).get? s.heap.objs.size=some { cls:=.type "set",dict:=none,data:=.set #[] 0 (.fresh 0 0 led) }:=aW _ Fc;have X:l4 { s with heap:=s.heap.push { cls:=.type "set",dict:=none,data:=.set #[] 0 (.fresh 0 0 led) } } (.ref s.heap.objs.size) "set":=⟨_,G,Fc⟩;have k4:=iQ.init.lookup;have k5:=iQ.init.bind (.ref s.heap.objs.size)
   repeat (any_goals (first | assumption | wp_step))
   refine aj (mz (R:=wants (λr L=>r=.none/\∃c i,L={ s with heap:=c,toks:=i }/\(∃m,wH c s.heap.objs.size m (!eP w)/\Dd m ns)/\(∀b o,s.heap.get? b=some o->c.get? b=some o)) E) iQ.init.plain PySem.F.entry_set_init (check_set_init_1 X ?_)) λW L f=>?_
   ·obtain⟨⟨J,g,C,d⟩,p,j,nl,k⟩:=P;simp only at j k;subst j;subst k;have M:(s.heap.push { cls:=.type "set",dict:=none,data:=.set #[] 0 (.fresh 0 0 led) }).get? l=some { cls:=.type "tuple",dict:=g,data:=.seq a.toArray nl,slots:=d }:=aJ _ p;have k6:=PySem.F.sub_tuple_set;have k7:=PySem.F.sub_tuple_frozenset;have k8:(j8 "tuple"==j8 "dict")=false:=by decide
    have q:(s.heap.push { cls:=.type "set",dict:=none,data:=.set #[] 0 (.fresh 0 0 led) }).IsTuple l a.toArray:=⟨_,M,Fc,nl,Fc⟩;unfold l9.«set.__init__» noKeywords Builtin.Frozenset.updateFrom
    generalize v:bg=PI
    wp_walk
    subst v;refine uc q (aB (ic ?_));have I:l<s.heap.objs.size:=bF p;have N:A.in1.in1.handled=none:=by simp[O]
    refine QQ (led:=led) s.heap.objs.size ?_ (fN I) ?_ N y U a.length 0 _ Ez (cI _) ?_ ?_ ?_ λc i B u=>?_
    ·show s.heap.objs.size≠(s.heap.push _).objs.size;rw[eV];exact bS (fA _)
    ·show l≠(s.heap.push _).objs.size;rw[eV];exact bS (fB I)
    ·exact⟨_,aW _ Fc,Fc,Fc⟩
    ·exact q.at λo e=>aJ _ e
    ·exact⟨[],⟨_,#[],0,_,aJ _ G,⟨Fc,Fc,Fc⟩,Fc,.nil,⟨Fc,.nil,Fc,Fc⟩⟩,⟨.nil,cI _,λz=>Iff.rfl⟩⟩
    ·show wpAny _ _ _ _ _ _;refine aG ?_;show wpAny _ _ (ret d8) _ _ _;refine aG ⟨Fc,c,i,Fc,n▸u,λb o e=>B b o (bS (bF e)) ?_ (aJ _ (aJ _ e))⟩;show b≠(s.heap.push _).objs.size;rw[eV];exact bS (fB (bF e))
   ·cases W with
    |error e=>exact f
    |ok t=>
     cases t with
     |ret r=>
      obtain⟨rfl,c,i,rfl,u,B⟩:=f
      repeat (any_goals (first | assumption | wp_step))
      exact h _ _ u B
     |_=>exact f.elim
  |_=>exact x.elim
section
variable{prog:cN}{w:c7}{A:d0}{E:Value->Shared->Prop}{s:Shared}
def IJ{a:Addr}{o:Obj}{b:Array (Int×Value)}{f:Nat}{t:SetTable}{Q:Array (Int×Value)->Shared->Prop}(e:eP w=false->(!t.plain&&decide (b.size>1))=false)(G:nF (!eP w) t b.size)(g:s.heap.get? a=some o)(hd:o.data=.set b f t)
  (h:Q (vF w a f b) s):wpAny (model prog w) A (setWalk a) Q E s:=by
 unfold setWalk;refine aB (j7 g hd G.fits ?_);dsimp only;unfold gy;refine aB (aB (y3 (aG ?_)));unfold vF at h;show wpAny _ _ (if eP w=true then _ else _) _ _ _;by_cases d:eP w=true
 ·rw[a7 d]at h |-
  exact aB (y3 (aG h))
 ·have c:eP w=false:=by simpa using d
  rw[a6 d]at h |-
  show wpAny _ _ (if(!t.plain&&decide (b.size>1))=true then _ else _) _ _ _;rw[a6 (by rw[e c];decide)];refine aB ?_;show wpAny _ _ (if(!t.led&&decide (b.size>1))=true then _ else _) _ _ _;rw[G.led,c,a6 (show¬((!(!false)&&decide (b.size>1))=true)from bN)];exact aG (aG h)
noncomputable def oE(w:c7)(t:SetTable)(i:Nat):Nat:=if eP w=true then 0 else qU t i
def zJ{a:Addr}{o:Obj}{b:Array (Int×Value)}{g i:Nat}{t:SetTable}{Q:Option (Value×Nat)->Shared->Prop}(f:eP w=false->(!t.plain&&decide (b.size>1))=false)(G:nF (!eP w) t b.size)(r:s.heap.get? a=some o)(hd:o.data=.set b g t)(z:i<=b.size)
  (h:Q (((vF w a g b)[i]?).map λe=>(e.2,oE w t (i+1))) s):wpAny (model prog w) A (um a (oE w t i) i g) Q E s:=by
 unfold um;refine aB (j7 r hd G.fits ?_);dsimp only;unfold gy;refine aB (aB (y3 (aG ?_)));show wpAny _ _ (if eP w=true then _ else _) _ _ _;by_cases c:eP w=true
 ·rw[a7 c];rw[a6 Fa];refine aB (IJ f G r hd (aG ?_));have k:oE w t i=0:=by unfold oE;rw[a7 c]
  have l:oE w t (i+1)=0:=by unfold oE;rw[a7 c]
  rw[k];rw[l]at h;exact h
 ·have d:eP w=false:=by simpa using c
  rw[a6 c];show wpAny _ _ (if(!t.plain&&decide (b.size>1))=true then _ else _) _ _ _;rw[a6 (by rw[f d];decide)];refine aB ?_;show wpAny _ _ (if(!t.led&&!b.isEmpty)=true then _ else _) _ _ _;rw[G.led,d,a6 (show¬((!(!false)&&!b.isEmpty)=true)from bN)];refine aG (aG ?_);have k:oE w t i=qU t i:=by unfold oE;rw[a6 c]
  have l:oE w t (i+1)=qU t (i+1):=by unfold oE;rw[a6 c]
  have u:l6 t.place (qU t i)=i:=MN G.rise (by rw[G.size];exact z);have v:vF w a g b=b:=by unfold vF;rw[a6 c]
  rw[l,v]at h;rw[k];show Q (match b[l6 t.place (qU t i)]?,t.place[l6 t.place (qU t i)]? with | some (_,x),some j=>some (x,j+1) | _,_=>none) s;rw[u];by_cases p:i<b.size
  ·have m:b[i]?=some (b[i]' Ez):=bV Ez;have n:i<t.place.size:=by rw[G.size];exact p
   have q:t.place[i]?=some t.place[i]:=bV n;rw[m]at h |-
   rw[q]
   have y:qU t (i+1)=t.place[i]+1:=by
    unfold qU;rw[a6 (aA3 _),Nat.add_sub_cancel,lA,q];rfl
   rw[y]at h;exact h
  ·have m:b[i]?=none:=eY Ez;rw[m]at h |-
   exact h
end
noncomputable def QS(w:c7)(S:Addr)(t:SetTable)(n:Nat)(a i:Nat):Array Value:=#[.int (oE w t i) 0,.int i 0,.ref S,.int n 0,.int a 0]
def C2(w:c7)(h:Heap)(I S:Addr)(t:SetTable)(n:Nat)(a i:Nat):Prop:=∃o,h.get? I=some o/\o.cls=.type "set_iterator"/\o.data=.fields (QS w S t n a i)
def sI(h:Heap)(S:Addr)(b:Array (Int×Value))(a:Nat)(t:SetTable):Prop:=∃o,h.get? S=some o/\o.ExactSet/\o.data=.set b a t
section
variable{prog:cN}{w:c7}{A:d0}{E:Value->Shared->Prop}{s:Shared}{I S:Addr}{t:SetTable}{d:Nat}{c:Array (Int×Value)}
def IH{i:Nat}{x:Int×Value}{Q:Option Value->Shared->Prop}(g:eP w=false->(!t.plain&&decide (c.size>1))=false)(G:nF (!eP w) t c.size)(h:C2 w s.heap I S t c.size d i)(p:sI s.heap S c d t)(r:i<c.size)(u:(vF w S d c)[i]?=some x)
  (n:∀f,C2 w f I S t c.size d (i+1)->cV I s.heap f->Q (some x.2) { s with heap:=f }):wpAny (model prog w) A (u3 (.ref I)) Q E s:=by
 obtain⟨o,e,l,hd⟩:=id h;obtain⟨v,b,hex,a⟩:=id p;have k:s.TypeIs (.ref I) "set_iterator":=⟨o,e,l⟩;have q:=G.fits;unfold u3;refine aB (m8 (d7 (name:=c6 "__next__") k fQ (dI fQ k lM ?_ (mL _))));show wpAny _ _ (qx (.ref I) >>= _) _ _ s;refine aB (o8 e hd ?_);show wpAny _ _ (gx S >>= _) _ _ s;refine aB (o0 b a q ?_);rw[a6 Fa];show wpAny _ _ (um S (oE w t i) i d >>= _) _ _ s;refine aB (zJ g G b a (iI r) ?_);rw[u];show wpAny _ _ (bn (.ref I) 0 (h8 (oE w t (i+1))) >>= _) _ _ s;refine aB (l0 e hd (by simp[QS]) ?_);have j:=fE (am (·.setIfInBounds 0 (h8 (oE w t (i+1))))) e (u2 (e8 hd _));refine aB (l0 j (e8 hd _) (by simp[QS]) ?_);have m:=fE (am (·.setIfInBounds 1 (h8 ((i:Int)+1)))) j (u2 (e8 (e8 hd _) _));refine aG ⟨x.2,Fc,aG (n _ ?_ ((cV.update ..).trans (cV.update ..)))⟩
 exact⟨_,m,(bb ..).trans ((bb ..).trans l),by
  rw[e8 (e8 hd _)];rfl⟩
def K2{Q:Option Value->Shared->Prop}(l:A.handled=none)(g:eP w=false->(!t.plain&&decide (c.size>1))=false)(G:nF (!eP w) t c.size)(h:C2 w s.heap I S t c.size d c.size)(p:sI s.heap S c d t)(u:(vF w S d c)[c.size]?=none)
  (n:∀j,C7 I s.heap j->Q none { s with heap:=j }):wpAny (model prog w) A (u3 (.ref I)) Q E s:=by
 obtain⟨o,i,q,hd⟩:=id h;obtain⟨v,f,hex,e⟩:=id p;have k:s.TypeIs (.ref I) "set_iterator":=⟨o,i,q⟩;have r:=G.fits;unfold u3;refine aB (m8 (d7 (name:=c6 "__next__") k fQ (dI fQ k lM ?_ (mL _))));show wpAny _ _ (qx (.ref I) >>= _) _ _ s;refine aB (o8 i hd ?_);show wpAny _ _ (gx S >>= _) _ _ s;refine aB (o0 f e r ?_);rw[a6 Fa];show wpAny _ _ (um S (oE w t c.size) c.size d >>= _) _ _ s;refine aB (zJ g G f e (aN _) ?_);rw[u];show wpAny _ _ (bn (.ref I) 2 .none >>= _) _ _ s;refine aB (l0 i hd (by simp[QS]) ?_);show wpAny _ _ (ez (.type "StopIteration") [] >>= _) _ _ _;refine aB ?_;simp only[ez,rl];refine aB (dG ?_ (by size_fits));refine aB (m:=o7 _ _) (cw (a:=d8) (by first | rfl | (simp only[o7];rfl)) ?_);refine dG ?_ (by size_fits);simp only[rm];refine aB (dk ?_)
 first | rw[show A.in1.handled=none from l] | rw[l]
 refine aB (aG (fu ?_));refine aB (y4 (T:="StopIteration") (b:=true) ⟨_,aW _ Fc,Fc⟩ cq ?_);exact aG (n _ (((cV.update ..).extBut.push _).push _))
def IG{i:Nat}{Q:Value->Shared->Prop}(b:C2 w s.heap I S t c.size d i)(h:Q (.ref I) s):wpAny (model prog w) A (bg (.ref I)) Q E s:=by
 obtain⟨o,f,e,hd⟩:=b;have a:s.TypeIs (.ref I) "set_iterator":=⟨o,f,e⟩;refine m5 a mH (dI mH a rG ?_ (sQ _));show wpAny _ _ (ret (.ref I)) _ _ s;exact aG ⟨_,Fc,"set_iterator",_,a,fQ.lookup,h⟩
def PJ{Q:Value->Shared->Prop}(f:eP w=false->(!t.plain&&decide (c.size>1))=false)(G:nF (!eP w) t c.size)(l:sI s.heap S c d t)
  (h:Q (.ref s.heap.objs.size) { s with heap:=s.heap.push { cls:=.type "set_iterator",data:=.fields (QS w S t c.size d 0) } }):wpAny (model prog w) A (bg (.ref S)) Q E s:=by
 obtain⟨n,a,hex,b⟩:=id l;have i:s.TypeIs (.ref S) "set":=⟨n,a,hex.1⟩;have g:=G.fits;refine m5 i nO (dI nO i uE ?_ (FB _));show wpAny _ _ (o6 S >>= _) _ _ s;unfold o6;refine aB (aB (o0 a b g (aG ?_)));unfold setDrawn gy;refine aB (aB (j7 a b g ?_));refine aB (aB (y3 (aG (aG ?_))))
 have e:(!eP w&&(!t.plain&&decide (c.size>1)))=false:=by
  cases m:eP w with
  |true=>rfl
  |false=>rw[f m];rfl
 show wpAny _ _ (if(!eP w&&(!t.plain&&decide (c.size>1)))=true then _ else _) _ _ _;rw[a6 (by rw[e];decide)];refine aB (aG ?_);unfold setEpoch;refine aB (aB (j7 a b g (aG ?_)));have j:oE w t 0=0:=by unfold oE;split<;>rfl
 have k:Q (.ref s.heap.objs.size) { s with heap:=s.heap.push { cls:=.type "set_iterator",data:=.fields #[h8 0,h8 0,.ref S,h8 c.size,h8 d] } }:=by
  unfold QS at h;rw[j]at h;exact h
 exact aB (dG (aG ⟨_,Fc,"set_iterator",_,⟨_,aW _ Fc,Fc⟩,fQ.lookup,k⟩))
end
section
variable{prog:cN}{w:c7}{A:d0}{E:Value->Shared->Prop}{s:Shared}{S:Addr}{t:SetTable}{ep:Nat}{a:Array (Int×Value)}
def O4(hh:A.handled=none)(I:Addr)(im:S≠I)(vj:eP w=false->(!t.plain&&decide (a.size>1))=false)(G:nF (!eP w) t a.size) :
  Walks prog w A I [I,S] [I] a.size (λi v=>∃x,(vF w S ep a)[i]?=some x/\v=x.2) (λi h=>C2 w h I S t a.size ep i/\sI h S a ep t) where
 sub:=λb hb=>by simp at hb;simp[hb]
 frame:=λ_ _ _ st hk=>by
  obtain⟨⟨o,ho,r⟩,⟨p,hp,q⟩⟩:=st;exact⟨⟨o,hk I Fa o ho,r⟩,⟨p,hk S Fa p hp,q⟩⟩
 item:=λi s Q E hi st hQ=>by
  have hsz:(vF w S ep a).size=a.size:=by rw[<- bQ,(xC w S ep a).length_eq,bQ]
  have hx:(vF w S ep a)[i]?=some ((vF w S ep a)[i]' Ez):=bV Ez;refine IH vj G st.1 st.2 hi hx λh' gr sq=>?_;obtain⟨p,hp,q⟩:=st.2;exact hQ _ h' s.toks ⟨_,hx,Fc⟩ ⟨gr,⟨p,sq.extBut S p im hp,q⟩⟩ λb o hb e=>sq.extBut b o (λh=>hb (by simp[h])) e
 done:=λs Q E st hQ=>by
  have hsz:(vF w S ep a).size=a.size:=by rw[<- bQ,(xC w S ep a).length_eq,bQ]
  exact K2 hh vj G st.1 st.2 (eY Ez) λh' vm=>hQ h' s.toks λb o hb e=>vm b o (λh=>hb (by simp[h])) e
 self:=λ_ _ _ _ st hQ=>IG st.1 hQ
end
section
variable{prog:cN}{w:c7}{A:d0}{E:Value->Shared->Prop}{s:Shared}
noncomputable def kI(S T:Addr)(n a i:Nat):Array Value:=#[.ref T,.int i 0,.ref S,.int n 0,.int a 0]
def WW(h:Heap)(I S T:Addr)(g:List Nat)(n a i:Nat):Prop:=(∃o,h.get? I=some o/\o.cls=.type "set_iterator"/\o.data=.fields (kI S T n a i))/\∃o c,h.get? T=some o/\o.data=.seq (g.map λ(p:Nat)=>i3 p 0).toArray c
variable{I S T:Addr}{t:SetTable}{ep:Nat}{f:Array (Int×Value)}{g:List Nat}
def QW{i p:Nat}{x:Int×Value}{Q:Option Value->Shared->Prop}(j:T≠I)(G:nF (!eP w) t f.size)(l:WW s.heap I S T g f.size ep i)(y:sI s.heap S f ep t)(B:g[i]?=some p)(C:f[p]?=some x)
  (v:∀h,WW h I S T g f.size ep (i+1)->cV I s.heap h->Q (some x.2) { s with heap:=h }):wpAny (model prog w) A (u3 (.ref I)) Q E s:=by
 obtain⟨⟨o,e,n,hd⟩,F,r,d,b⟩:=id l;obtain⟨H,c,hex,a⟩:=id y;have m:s.TypeIs (.ref I) "set_iterator":=⟨o,e,n⟩;have q:=G.fits;unfold u3;refine aB (m8 (d7 (name:=c6 "__next__") m fQ (dI fQ m lM ?_ (mL _))));show wpAny _ _ (qx (.ref I) >>= _) _ _ s;refine aB (o8 e hd ?_);show wpAny _ _ (gx S >>= _) _ _ s;refine aB (o0 c a q ?_);rw[a6 Fa];show wpAny _ _ (seqItems? (.ref T) >>= _) _ _ s;refine aB (cx d b ?_);dsimp only
 have z:(g.map λ(p:Nat)=>i3 p 0).toArray[((i:Int)).toNat]?=some (.int (p:Int) 0):=by
  rw[dX,M2,aI,B];rfl
 rw[z];dsimp only;unfold setNextDrawn;refine aB (aB (j7 c a q ?_));dsimp only;rw[a6 Fa];have k:f[((p:Int)).toNat]?=some x:=by rw[dX];exact C
 rw[k];refine aG ?_;refine aB (l0 e hd (by simp[kI]) ?_);have u:=fE (am (·.setIfInBounds 1 (h8 ((i:Int)+1)))) e (u2 (e8 hd _));refine aG ⟨x.2,Fc,aG (v _ ⟨⟨_,u,(bb ..).trans n,by rw[e8 hd];rfl⟩,F,r,?_,b⟩ (cV.update ..))⟩;exact(iH _ _ (l5 j)).trans d
def WE{Q:Option Value->Shared->Prop}(n:A.handled=none)(G:nF (!eP w) t f.size)(h:WW s.heap I S T g f.size ep f.size)(u:sI s.heap S f ep t)(z:g.length=f.size)
  (r:∀k,C7 I s.heap k->Q none { s with heap:=k }):wpAny (model prog w) A (u3 (.ref I)) Q E s:=by
 obtain⟨⟨o,c,v,hd⟩,F,B,j,e⟩:=id h;obtain⟨C,i,hex,d⟩:=id u;have l:s.TypeIs (.ref I) "set_iterator":=⟨o,c,v⟩;have x:=G.fits;unfold u3;refine aB (m8 (d7 (name:=c6 "__next__") l fQ (dI fQ l lM ?_ (mL _))));show wpAny _ _ (qx (.ref I) >>= _) _ _ s;refine aB (o8 c hd ?_);show wpAny _ _ (gx S >>= _) _ _ s;refine aB (o0 i d x ?_);rw[a6 Fa];show wpAny _ _ (seqItems? (.ref T) >>= _) _ _ s;refine aB (cx j e ?_);dsimp only
 have y:(g.map λ(p:Nat)=>i3 p 0).toArray[((f.size:Int)).toNat]?=none:=by
  rw[dX,M2,eQ (by rw[aC,z];exact aN _)]
 rw[y];dsimp only;show wpAny _ _ (bn (.ref I) 0 (h8 0) >>= _) _ _ s;refine aB (l0 c hd (by simp[kI]) ?_);have q:=fE (am (·.setIfInBounds 0 (h8 0))) c (u2 (e8 hd _));refine aB (l0 q (e8 hd _) (by simp[kI]) ?_);show wpAny _ _ (ez (.type "StopIteration") [] >>= _) _ _ _;refine aB ?_;simp only[ez,rl];refine aB (dG ?_ (by size_fits));refine aB (m:=o7 _ _) (cw (a:=d8) (by first | rfl | (simp only[o7];rfl)) ?_);refine dG ?_ (by size_fits);simp only[rm];refine aB (dk ?_)
 first | rw[show A.in1.handled=none from n] | rw[n]
 refine aB (aG (fu ?_));refine aB (y4 (T:="StopIteration") (b:=true) ⟨_,aW _ Fc,Fc⟩ cq ?_);exact aG (r _ ((((cV.update ..).trans (cV.update ..)).extBut.push _).push _))
def QU{i n:Nat}{Q:Value->Shared->Prop}(b:WW s.heap I S T g n ep i)(h:Q (.ref I) s):wpAny (model prog w) A (bg (.ref I)) Q E s:=by
 obtain⟨⟨o,d,c,hd⟩,_⟩:=b;have a:s.TypeIs (.ref I) "set_iterator":=⟨o,d,c⟩;refine m5 a mH (dI mH a rG ?_ (sQ _));show wpAny _ _ (ret (.ref I)) _ _ s;exact aG ⟨_,Fc,"set_iterator",_,a,fQ.lookup,h⟩
def XV(hh:A.handled=none)(im:S≠I)(Aw:T≠I)(G:nF (!eP w) t f.size)(yq:iS g (cK f.size)) :
  Walks prog w A I [I,S,T] [I] f.size (λi v=>∃p x,g[i]?=some p/\f[p]?=some x/\v=x.2) (λi h=>WW h I S T g f.size ep i/\sI h S f ep t) where
 sub:=λb hb=>by simp at hb;simp[hb]
 frame:=λ_ _ _ st hk=>by
  obtain⟨⟨⟨o,ho,r⟩,oT,cT,Cb,Bf⟩,⟨p,hp,q⟩⟩:=st;exact⟨⟨⟨o,hk I Fa o ho,r⟩,oT,cT,hk T Fa oT Cb,Bf⟩,⟨p,hk S Fa p hp,q⟩⟩
 item:=λi s Q E hi st hQ=>by
  have ix:g.length=f.size:=by rw[yq.length_eq,fL]
  have hp:g[i]?=some g[i]:=aD Ez;have wb:g[i]<f.size:=nQ.mp (yq.mem_iff.mp (fK Ez));have hx:f[g[i]]?=some (f[g[i]]' Ez):=bV Ez;refine QW Aw G st.1 st.2 hp hx λh' gr sq=>?_;obtain⟨p,td,q⟩:=st.2;exact hQ _ h' s.toks ⟨_,_,hp,hx,Fc⟩ ⟨gr,⟨p,sq.extBut S p im td,q⟩⟩ λb o hb e=>sq.extBut b o (λh=>hb (by simp[h])) e
 done:=λs Q E st hQ=>by
  have ix:g.length=f.size:=by rw[yq.length_eq,fL]
  exact WE hh G st.1 st.2 ix λh' vm=>hQ h' s.toks λb o hb e=>vm b o (λh=>hb (by simp[h])) e
 self:=λ_ _ _ _ st hQ=>QU st.1 hQ
def PK{Q:Value->Shared->Prop}(G:nF (!eP w) t f.size)(o:sI s.heap S f ep t)(q:eP w=false)(j:t.plain=false)(u:f.size<=1000)(n:1<f.size)
  (h:∀g d,iS g (cK f.size)->Q (.ref (s.heap.objs.size+1)) { s with heap:=(s.heap.push { cls:=.type "tuple",data:=.seq (g.map λ(p:Nat)=>i3 p 0).toArray }).push { cls:=.type "set_iterator",data:=.fields (kI S s.heap.objs.size f.size ep 0) },drawn:=d }):wpAny (model prog w) A (bg (.ref S)) Q E s:=by
 obtain⟨r,a,hex,b⟩:=id o;have l:s.TypeIs (.ref S) "set":=⟨r,a,hex.1⟩;have c:=G.fits;refine m5 l nO (dI nO l uE ?_ (FB _));show wpAny _ _ (o6 S >>= _) _ _ s;unfold o6;refine aB (aB (o0 a b c (aG ?_)));unfold setDrawn gy;refine aB (aB (j7 a b c ?_));refine aB (aB (y3 (aG (aG ?_))));have e:(!eP w&&(!t.plain&&decide (f.size>1)))=true:=by rw[q,j,a8 n];rfl
 show wpAny _ _ (if(!eP w&&(!t.plain&&decide (f.size>1)))=true then _ else _) _ _ _;rw[a7 e];refine aB (CN f.size (cK f.size) _ _ (fL ..) λg d m=>?_);have i:g.length=f.size:=by rw[m.length_eq,fL]
 refine aB (ia ?_ (by rw[aC,i,w6];lia));unfold setEpoch;refine aB (aB (j7 (aJ _ a) b c (aG ?_)));have k:=h g d m;unfold kI at k;have z:(s.heap.push { cls:=.type "tuple",data:=.seq (g.map λ(p:Nat)=>i3 p 0).toArray }).objs.size=s.heap.objs.size+1:=eV ..;refine aB (dG ?_);refine aG ⟨_,Fc,"set_iterator",_,⟨_,aW _ Fc,Fc⟩,fQ.lookup,?_⟩;show Q (.ref (s.heap.push { cls:=.type "tuple",data:=.seq (g.map λ(p:Nat)=>i3 p 0).toArray }).objs.size) _;rw[z];exact k
end
section
variable{prog:cN}{w:c7}{A:d0}{E:Value->Shared->Prop}{s:Shared}{S:Addr}{t:SetTable}{f:Nat}{a:Array (Int×Value)}
def PZ{c:Type}{xs:List c}:∀{b ns:List Nat},iS b ns->iS (b.filterMap λp=>xs[p]?) (ns.filterMap λp=>xs[p]?):=λh=>h.filterMap _
def GL{Q:List Value->Shared->Prop}(hh:A.handled=none)(G:nF (!eP w) t a.size)(hz:a.size<=1000)(hS:sI s.heap S a f t)
  (hQ:∀Z tk d vs,s.heap.objs.size<=Z.objs.size->(∀b o,s.heap.get? b=some o->Z.get? b=some o)->iS vs (a.toList.map (·.2))->Q vs { s with heap:=Z,toks:=tk,drawn:=d }):wpAny (model prog w) A (uh (.ref S)) Q E s:=by
 obtain⟨M,gS,hex,u⟩:=id hS;have L:S<s.heap.objs.size:=bF gS;unfold uh;refine aB (ic (l7 BE ?_));rw[i7 BD _];show wpAny _ A.in1 (uk [] >>= λr=>again (.builtin "list.__iadd__" ⟨[r,.ref S],[]⟩)) _ _ s;refine aB (dG ?_);refine aG ⟨z5 mS _,l7 E9 ?_⟩;rw[i7 mS _]
 generalize hH:s.heap.push { cls:=.type "list",data:=.seq ([]:List Value).toArray }=H1
 have gL:H1.get? s.heap.objs.size=some { cls:=.type "list",data:=.seq ([]:List Value).toArray }:=by rw[<- hH];exact aW _ Fc
 have z1:H1.objs.size=s.heap.objs.size+1:=by rw[<- hH,eV]
 have k1:∀b o,s.heap.get? b=some o->H1.get? b=some o:=λb o e=>by rw[<- hH];exact aJ _ e
 have O:=k1 S M gS;have tS:l4 { s with heap:=H1 } (.ref S) "set":=⟨M,O,hex.1⟩;show wpAny _ A.in1 (g8 (.ref s.heap.objs.size) (.ref S) (.ref s.heap.objs.size)) _ _ _;unfold g8;refine aB (al tS ?_)
 have b1:cy (.ref s.heap.objs.size) (.ref S)=false:=by
  show(s.heap.objs.size==S)=false;exact beq_eq_false_iff_ne.mpr (fN L)
 have b2:(j8 "set"==j8 "list")=false:=by decide
 have b3:(j8 "set"==j8 "tuple")=false:=by decide
 simp only[b1,b2,b3,xY,eH,g9]
 have J:∀Q' E',(∀(B:Heap)(d:Drawn)(I:Addr)fp(P:Nat->Value->Prop)(St:Nat->Heap->Prop),(∀b o,H1.get? b=some o->B.get? b=some o)->H1.objs.size<=I->(∀b∈fp,b≠s.heap.objs.size)->Walks prog w A.in1 I fp [I] a.size P St->(∀y:Heap,(∀b o,b≠s.heap.objs.size->B.get? b=some o->y.get? b=some o)->St 0 y)->(∀g:Array Value,ItemsOf P g a.size->iS g.toList (a.toList.map (·.2)))->Q' (.ref I) { s with heap:=B,drawn:=d })->wpAny (model prog w) A.in1 (bg (.ref S)) Q' E' { s with heap:=H1 }:=λQ' E' hq=>by
  have H:A.in1.handled=none:=by simp[hh]
  by_cases k:eP w=true\/t.plain=true\/a.size<=1
  ·have vj:eP w=false->(!t.plain&&decide (a.size>1))=false:=λj=>by
    rcases k with z | z
    ·rw[j]at z;cases z
    ·rcases z with z | z
     ·rw[z];rfl
     ·rw[c4 Ez];simp
   refine PJ vj G (s:={ s with heap:=H1 }) ⟨M,O,hex,u⟩ ?_;have C:S≠H1.objs.size:=by rw[z1];exact bS (fB L)
   refine hq _ s.drawn _ _ _ _ (λb o e=>aJ _ e) (aN _) (λb j=>?_) (O4 (prog:=prog) (w:=w) (A:=A.in1) (ep:=f) H H1.objs.size C vj G) (λy v=>?_) λg h=>?_
   ·simp only[aY,dR,j3]at j;rcases j with rfl | rfl
    ·rw[z1];exact fN (fA _)
    ·exact bS L
   ·exact⟨⟨_,v _ _ (by rw[z1];exact fN (fA _)) (aW _ Fc),Fc,Fc⟩,⟨M,v _ _ (bS L) (aJ _ O),hex,u⟩⟩
   ·have hsz:(vF w S f a).size=a.size:=by rw[<- bQ,(xC w S f a).length_eq,bQ]
    have ea:g.toList=(vF w S f a).toList.map (·.2):=by
     apply gY;intro i;rw[aI,eD,eD];by_cases hi:i<a.size
     ·have m:i<g.size:=by have:=h.1;lia
      obtain⟨x,hx,hv⟩:=h.2 i g[i] (bV m);rw[bV m,hx,hv];rfl
     ·rw[eY (by have:=h.1;lia),eY Ez];rfl
    rw[ea];exact(xC w S f a).map _
  ·have j:eP w=false:=by
    cases j:eP w with
    |true=>exact a9 (.inl j) k
    |false=>rfl
   have h1:1<a.size:=by
    by_cases z:a.size<=1
    ·exact a9 (.inr (.inr z)) k
    ·lia
   have xf:t.plain=false:=by
    cases z:t.plain with
    |true=>exact a9 (.inr (.inl z)) k
    |false=>rfl
   refine PK G (s:={ s with heap:=H1 }) ⟨M,O,hex,u⟩ j xf hz h1 λl d n=>?_;have z2:H1.objs.size≠H1.objs.size+1:=bS (fA _);have C:S≠H1.objs.size+1:=by rw[z1];exact bS (fB (fB L))
   have z3:(H1.push { cls:=.type "tuple",data:=.seq (l.map λ(p:Nat)=>i3 p 0).toArray }).objs.size=H1.objs.size+1:=eV ..;refine hq _ d _ [H1.objs.size+1,S,H1.objs.size] _ _ (λb o e=>aJ _ (aJ _ e)) (DA _) (λb j=>?_) (XV (prog:=prog) (w:=w) (A:=A.in1) (ep:=f) (T:=H1.objs.size) H C z2 G n) (λy v=>?_) λg h=>?_
   ·simp only[aY,dR,j3]at j;rcases j with rfl | rfl | rfl
    ·rw[z1];exact fN (fB (fA _))
    ·exact bS L
    ·rw[z1];exact fN (fA _)
   ·have g1:((H1.push { cls:=.type "tuple",data:=.seq (l.map λ(p:Nat)=>i3 p 0).toArray }).push { cls:=.type "set_iterator",data:=.fields (kI S H1.objs.size a.size f 0) }).get? (H1.objs.size+1)=some { cls:=.type "set_iterator",data:=.fields (kI S H1.objs.size a.size f 0) }:=by rw[<- z3];exact aW _ Fc
    have g2:((H1.push { cls:=.type "tuple",data:=.seq (l.map λ(p:Nat)=>i3 p 0).toArray }).push { cls:=.type "set_iterator",data:=.fields (kI S H1.objs.size a.size f 0) }).get? H1.objs.size=some { cls:=.type "tuple",data:=.seq (l.map λ(p:Nat)=>i3 p 0).toArray }:=aJ _ (aW _ Fc);exact⟨⟨⟨_,v _ _ (by show H1.objs.size+1≠_;rw[z1];exact fN (fB (fA _))) g1,Fc,Fc⟩,_,_,v _ _ (by rw[z1];exact fN (fA _)) g2,Fc⟩,⟨M,v _ _ (bS L) (aJ _ (aJ _ O)),hex,u⟩⟩
   ·have ix:l.length=a.size:=by rw[n.length_eq,fL]
    have ea:g.toList=(l.filterMap λp=>a.toList[p]?).map (·.2):=by
     have e0:∀p∈l,p<a.size:=λp R=>by exact nQ.mp (n.mem_iff.mp R)
     have e1:(l.filterMap λp=>a.toList[p]?)=l.attach.map λp=>a[p.1]'(e0 p.1 p.2):=by
      clear h ix n z3
      induction l with
      |nil=>rfl
      |cons p l ih=>
       have R:=e0 p (aU ..);rw[gD,eD,bV R];dsimp only;rw[ih λq hq=>e0 q (aO _ hq),List.attach_cons,bE,bM]
       rfl
     rw[e1,bM];apply gY;intro i;rw[eD,aI];by_cases hi:i<a.size
     ·have m:i<g.size:=by have:=h.1;lia
      obtain⟨p,x,R,hx,hv⟩:=h.2 i g[i] (bV m);have K:i<l.length:=by lia
      have Ce:l[i]=p:=by rw[aD K]at R;exact c5 R
      rw[bV m,aD (by rw[RQ];exact K),hv];simp only[W1,List.getElem_attach,Function.comp];subst Ce;rw[bV (e0 _ (fK K))]at hx;rw[c5 hx]
     ·rw[eY (by have:=h.1;lia),eQ (by rw[RQ];lia)];rfl
    rw[ea];have hr:(cK a.size).filterMap (λp=>a.toList[p]?)=a.toList:=by rw[<- bQ];exact List.filterMap_getElem?_range_length _
    have:=(PZ (xs:=a.toList) n);rw[hr]at this;exact this.map _
 refine aB (J _ _ λB d I fp P St k2 hI vo W0 Dk yp=>?_);refine aB (h7 ?_);have N:l4 { s with heap:=B,drawn:=d } (.ref S) "set":=⟨M,k2 _ _ O,hex.1⟩;unfold Builtin.List.listLengthHint;refine aB (v0 N PySem.F.slot_set_len.lookup ?_);have yu:splitId "set.__len__"=some ("set","__len__"):=by decide +kernel
 dsimp only;rw[yu];dsimp only;refine aB (y4 (T:="set") (b:=true) N ik ?_);rw[a6 Ey];rw[a7 Ex];refine aB (al N ?_);refine aG ?_;rw[a7 Ex];refine aB (m9 (aB ?_));have U:=k2 _ _ gL;show wpAny _ A.in1 (fe s.heap.objs.size (·.push .none) >>= λ_=>fe s.heap.objs.size (·.pop)) _ _ _;refine aB (aa U Fc ?_);have X:=fE (c9 (·.push d8)) U Fc;refine aa X Fc ?_;have Y:=fE (c9 (·.pop)) X Fc
 generalize zt:(B.update s.heap.objs.size (c9 (·.push d8))).update s.heap.objs.size (c9 (·.pop))=y
 rw[zt]at Y
 have v:∀b o,b≠s.heap.objs.size->B.get? b=some o->y.get? b=some o:=λb o j e=>by
  rw[<- zt];exact(iH _ _ (l5 j)).trans ((iH _ _ (l5 j)).trans e)
 obtain⟨c0,Al⟩:∃c,y.get? s.heap.objs.size=some { cls:=.type "list",dict:=none,data:=.seq #[] c,slots:=#[] }:=⟨_,Y⟩;have H:A.in1.handled=none:=by simp[hh]
 have As:s.heap.objs.size∉fp:=λz=>vo _ z Fc;have st:=Dk y v;have W:=W0.toS;refine aG ⟨z5 pT _,nc W (by rw[w6];lia) _ As _ a.size 0 _ _ _ Fc (cI _) st Al (ItemsOf.nil _) λs' g c hm zu h=>?_⟩;obtain⟨Z,g',d',zj,Db⟩:=s';have eg:g'=s.gens:=hm.gens;have ed:d'=d:=hm.drawn;have eo:Db=s.os:=hm.os;subst eg;subst ed;subst eo;show wpAny _ A (load s.heap.objs.size >>= _) _ _ _;refine aB (bx zu (aG ?_));refine hQ Z zj d' _ (iI (bF zu)) (λb o e=>hm.heap b o ?_ (v b o (bS (bF e)) (k2 b o (k1 b o e)))) (yp g h);have lb:=bF e;simp only[aY,dR,j3,tA];exact⟨bS lb,bS (cS (fB lb) (by rw[z1]at hI;exact hI))⟩
end
def QL(h:IntsAre us xs)(p:iS vs us):∃c,IntsAre vs c/\iS c xs:=by
 induction p generalizing xs with
 |nil=>exact⟨xs,h,.refl _⟩
 |cons a p m=>
  cases h with
  |cons k t h=>obtain⟨c,d,e⟩:=m h;exact⟨_,.cons k t d,e.cons _⟩
 |swap a b l=>
  cases h with
  |cons k t h=>cases h with
   |cons n o h=>exact⟨_,.cons n o (.cons k t h),.swap ..⟩
 |trans p q i j=>
  obtain⟨c,d,e⟩:=j h;obtain⟨ns,f,g⟩:=i d;exact⟨ns,f,g.trans e⟩
section
variable{prog:cN}{w:c7}{A:d0}{E:Value->Shared->Prop}{s:Shared}{S:Addr}{m:List Int}
def ID{Q:Value->Shared->Prop}(K:A.handled=none)(I:wH s.heap S m (!eP w))(j:m.Nodup)(f:m.length<=60)
  (h:∀a n d (r:Addr) (out:Array Value) e,s.heap.objs.size<=r->(∀b o,s.heap.get? b=some o->a.get? b=some o)->a.get? r=some (f7 "list" out e)->(∃p,IntsAre out.toList p/\p.Pairwise (·<·)/\p.Perm m)->Q (.ref r) { s with heap:=a,toks:=n,drawn:=d }) :
  wpAny (model prog w) A (call (.builtin "sorted") [.ref S]) Q E s:=by
 obtain⟨o,G,O,t,L,hex,hd,q,g⟩:=I;have N:G.size<=60:=by rw[<- bQ,q.len];exact f
 refine ei kind_sorted plain_sorted entry_sorted (args_sorted1 _) ?_;unfold l9.«sorted»;refine aB (m:=checkCount "sorted" 1 1 _) (aG ?_);refine aB (GL (by simp[K]) g Ez ⟨o,L,hex,hd⟩ λa n d vs l y v=>?_);have M:vs.length<=60:=by rw[v.length_eq,aC,bQ];exact N
 obtain⟨ns,H,k⟩:=QL (ER q) v;refine aB (ir ?_ (by rw[w6];lia));have c:(a.push (f7 "list" vs.toArray 0)).get? a.objs.size=some (f7 "list" vs.toArray 0):=aW _ Fc;refine aB (h7 (dI slot_list_sort ⟨_,c,Fc⟩ entry_list_sort (list_sort_tree c H Ez λout B a1 a2 F=>⟨_,Fc,?_⟩) (args_list_sort _)));have C:=a2.trans k;have i:B.Pairwise (·<·):=(List.pairwise_and_iff.mpr ⟨F,C.nodup_iff.mpr j⟩).imp λh=>by have:=h.1;have:=h.2;lia
 obtain⟨e,J⟩:=sortedHeap_at (out:=out) c;refine aG ⟨_,Fc,h _ n d a.objs.size out e l (λb u x=>?_) J ⟨B,a1,i,C⟩⟩;have z:=bF (y b u x);rw[sortedHeap_old (bS z) (cS z (by rw[eV];exact DA _))];exact aJ _ (y b u x)
end
noncomputable def Gy(w:c7)(q:Addr)(l:List Int):HO:=.ext λh=>∃m,wH h q m (!eP w)/\m.Nodup/\m.length<=60/\∀z,z∈m↔z∈l
noncomputable def ZF(l:List Int):List V:=l.map V.int
section
variable{X:Cx}
def Lm(X:Cx):List V->Hp->VK->Prop:=λa H Q=>∃(p:Addr)(ns:List Int),a=[.ref p]/\rO X.K H p (ZF ns)/\ns.length<=60/\∀q,H q=none->Q (.ref q) (gG H q (Gy X.w q ns))
def SX(X:Cx):List V->Hp->VK->Prop:=λb H Q=>∃(q:Addr)(l:List Int),b=[.ref q]/\H q=some (Gy X.w q l)/\∀(r:Addr)(a:List Int),H r=none->a.Pairwise (·<·)->(∀z,z∈a↔z∈l)->a.length<=60->Q (.ref r) (gG H r (.lst (ZF a)))
def Q1(g:X.calm=true):kO X (.type "set") (Lm X):=by
 intro d s K H J G Q I r h;obtain⟨p,ns,rfl,j,l,q⟩:=h;obtain⟨u,rfl,z⟩:=oB r;cases z;obtain⟨n,y,x,_⟩:=I.tuple j;refine GN (I.ok.hd g) x (N8 y) Ez λe F f v=>?_;obtain⟨m,c,hd⟩:=f;obtain⟨o,B,A,t,i,jM⟩:=id c;refine⟨.ref _,_,I.laid v (aN _) (show jY X.prog X.w _ e _ (Gy X.w s.heap.objs.size ns)from⟨⟨m,c,hd.1,bG hd.2.1 l,hd.2.2⟩,⟨o,i⟩,?_⟩),Fc,q _ (I.hok.fresh (aN _))⟩;rintro C E ⟨m,a,b⟩ k;exact⟨m,a.at k,b⟩
def MJ(n:X.calm=true):kO X (.builtin "sorted") (SX X):=by
 intro j s K H J b Q I r h;obtain⟨p,l,rfl,y,q⟩:=h;obtain⟨u,rfl,B⟩:=oB r;cases B;obtain⟨⟨m,k,x,i,w⟩,_⟩:=I.hok p _ y;refine ID (I.ok.hd n) k x i λF C d r out e g A t E=>?_;obtain⟨b,v,c,a⟩:=E;have f:b.length<=60:=by rw[a.length_eq];exact i
 refine⟨.ref r,_,eG.drawn (I.laid (t':=C) (o:=.lst (ZF b)) A g ?_) d,Fc,q _ b (I.hok.fresh g) c (λz=>by rw[a.mem_iff];exact w z) f⟩;have G:bO=2^24:=rfl;exact⟨by unfold ZF;rw[aC];lia,out.toList,e,NZ v,by simpa[f7]using t⟩
end
end L2
namespace TL
open L2
section
variable{X:Cx}{e:Expr}{a:ET}{pos:Pos}
def Ye(a:ET):ET:=λc Q=>a c λd=>∃ns:List Int,d=.tuple (ns.map aP)/\ns.length<=60/\∀b:List Int,b.Pairwise (·<·)->(∀z,z∈b↔z∈ns)->b.length<=60->Q (.list (b.map aP))
def V6(l:iM X e a)(hs:autoParam (cD [e] X.env=(false,eval e X.env)::cD [] X.env) zzz._auto_1)
  (pc:∀{v},PA X [e] (sN v BJ)->PE X (.Call g1 [.Call g2 [e] [] p2] [] pos) (SC (SX X) (sN (SC (Lm X) (sN v BJ)) BJ))) :
  iM X (.Call g1 [.Call g2 [e] [] p2] [] pos) (Ye a):=by
 obtain⟨v,t,re⟩:=l;refine⟨_,pc (jC t lD hs),λB p H u b A Q E o h k=>re B p H u b A _ _ o h λd x C f y q1=>?_⟩;obtain⟨ns,rfl,n,q⟩:=q1
 cases y with
 |tuple m s=>
  have e:=qY s;subst e;refine⟨_,ns,Fc,bR.seqT bZ m,n,λw hw=>⟨w,_,Fc,cW,λr z c g i j=>k _ _ _ ((f.trans (eX hw)).trans (eX c)) ?_ (q z g i j)⟩⟩;exact rY ((o.grow (f.trans (eX hw)))).live c (NL _)
end
end TL
namespace L2
open TL
def V4(ex:EX es ks xs)(k:D):(fj xs k).isSome=decide (k∈ks):=by
 have b:=ex.1;by_cases hk:k∈ks
 ·rw[a8 hk];rw[<- b]at hk;obtain⟨x,a,e⟩:=aR.mp hk;unfold fj;rw[yB];exact zZ.mpr ⟨x,a,by simpa using e⟩
 ·rw[c4 hk];unfold fj;rw[yB,rN];intro z;obtain⟨x,a,e⟩:=zZ.mp z;exact hk (by rw[<- b];exact aR.mpr ⟨x,a,by simpa using e⟩)
def Jv(b:Bool)(K:aM)(w:c7):R2:=λx y H Q=>∃(p a:Addr)(c:List (Int×Addr×V))(ks:List D)(k:D),x=.ref a/\y=.ref p/\C3 H p c/\DK K w H c ks/\iP K H k x/\jX k/\Q (.bl (if b=true then !decide (k∈ks)else decide (k∈ks))) H
section
variable{X:Cx}
def Yy(o:X.A.units+9<u7):oU X (d9 .In) (Jv false X.K X.w):=by
 intro b s t H x y v u Q I g i h;obtain⟨p,a,m,ks,k,rfl,rfl,e,c,f,ok,q⟩:=h;cases g;cases i;obtain⟨d,n,r,j,l⟩:=CP I e c;refine wpAny_in_heap (show X.A.units+1+8<u7 by lia) (yU I f ok) d l ?_;rw[V4 j];exact⟨_,H,I.tok _,(show iL (.bl _) (u6 _)from Fc),q⟩
end
end L2
namespace TL
open L2
section
variable{a:ET}
def Ps(c:Bool)(w:c7)(i:Nat)(a:ET):ET:=λd Q=>a d λk=>∃b,d[i]?=some (pS w b)/\GZ k/\(∀kv∈b,jX kv.1)/\∀z:Bool,(z=true↔k∈b.map (·.1))->Q (.bool (if c=true then !z else z))
end
def XW{X:Cx}{i:Nat}{b:Bool}(A:oU X (d9 op) (Jv b X.K X.w))(y:PE X n (sU i))(c:iM X e tk)(v:autoParam (z4 op n=false) zzq._auto_1):GX X (.Compare e [op] [n] pos) (CW (Ps b X.w i tk)):=by
 obtain⟨L,pk,F⟩:=c;refine⟨_,FX A pk y v,λB C H E j G Q I o h k=>F B C H E j G _ _ o h λJ z r m l q1=>?_⟩;obtain⟨g,t,⟨f,M,rfl⟩,hok,q⟩:=q1;obtain⟨⟨p,s,d,x⟩,u⟩:=(o.grow m).isDic t;obtain⟨a,rfl⟩:=oF l;exact⟨.ref p,d,p,a,s,g.map (·.1),_,Fc,Fc,.inl x.obj,(pC (w:=X.w) x.hsh x.nd hok x.ks).same bZ,l.same bZ,f,_,Fc,k _ r m (q _ (by rw[decide_eq_true_iff]))⟩
section
structure Gh(K:aM)(B:Hp)(p0:List Addr)(H0:Hp)(ps:List Addr)(H:Hp)(dn:List Sl)(σ:L2.St)(T:J8)(n i:Nat)(z:Addr):Prop where
 o:OkC K B p0 H ps dn σ T n
 r:∀l,OkC K B p0 (gG H z (.lst l)) ps (dn.set i .un) σ T n
 s:∀l,bR (mask H0 ps) (mask (gG H z (.lst l)) ps)
 nt:z≠T.p
 h:∃t x y zs,σ[i]?=some (some (.ref t))/\H t=some (.tup [x,y,.ref z])/\H z=some (.lst zs)/\zs.length<=100000
end
set_option genInjectivity false in
structure Fam where
 I:Type
 S:Type
 ad:I->List Addr
 tau:I->D
 At:I->aM->Hp->List Addr->S->Prop
 to:∀{T:I}{K:aM}{H H':Hp}{ps ef:List Addr}{n:S},At T K H ps n->(∀a∈ad T,H' a=H a)->bR (mask H ps) (mask H' ef)->At T K H' ef n
 liv:∀{T:I}{K:aM}{H:Hp}{ps:List Addr}{n:S},At T K H ps n->∀a∈ad T,E4 (H a)
 inj:∀{T T':I},tau T=tau T'->T=T'
section
variable{F:Fam}
set_option genInjectivity false in
structure aM0(F:Fam) where
 nx:F.S->List Sl->Prop
 rt:F.S->D->Prop
 bk:F.S->List Sl->Prop:=λ_ _=>False
 ct:F.S->List Sl->Prop:=λ_ _=>False
 xB:Hp->List Addr->Prop:=λ_ _=>True
end
end TL
namespace L2
open TL
section
variable{X:Cx}{o e:Expr}{to f:TE}{c b:Pos}
def DL{A:d0}{E:Value->Shared->Prop}{s:Shared}{d a:Addr}{Q:Value->Shared->Prop}(l:A.units+9<u7)(g:(pX prog w).is s.heap k a)(hd:(d==m7)=false)(j:s.heap.DictOfH (pX prog w) d xs)
  (h:Q (((fj xs k).map (·.2)).getD .none) { s with toks:=s.toks+pH k }):wpAny (model prog w) A (call (.builtin "dict.get") [.ref d,.ref a]) Q E s:=by
 refine dI HI j.typeIs PySem.F.entry_dict_get ?_ (PySem.F.args_dict_get_2 _ _);show wpAny _ _ (dictGet d (.ref a) >>= _) _ _ s;refine aB (wpAny_dictGet_heap (show A.units+1+8<u7 by lia) g j ?_)
 cases i:fj xs k with
 |some p=>
  rw[i]at h;exact aG ⟨p.2,Fc,h⟩
 |none=>
  rw[i]at h;show wpAny _ _ (Builtin.Dict.missed d (.ref a) >>= _) _ _ _;exact aB (wpAny_missed_other hd (aG ⟨.none,Fc,h⟩))
def K8(X:Cx)(x y:V)(H:Hp)(Q:VK):Prop:=∃(p a:Addr)(d:List (Int×Addr×V))(ks:List D)(k:D),x=.ref p/\y=.ref a/\C3 H p d/\DK X.K X.w H d ks/\iP X.K H k y/\jX k/\(k∉ks->Q .non H)/\∀(i:Nat)(e:Int×Addr×V),ks[i]?=some k->d[i]?=some e->Q e.2.2 H
def TV(hu:X.A.units+9<u7)(ho:PE X o to)(Z:PE X e f)(l:autoParam (v4 o "get" X.env (eval o X.env)=eval o X.env) zzz._auto_1)
  (t:autoParam (((k9 b (cD [e] X.env)).all (λx=>!x.1)&&(backToKw b (rh [] X.env)).all (λx=>x.1.isSome)&&decide ([e].length+([]:List uf).length+(if([]:List uf).isEmpty then 0 else 1)<30))=true) zzz._auto_1)
  (n:autoParam ((c.endLine==b.line)=true) zzz._auto_1) (hs:autoParam (cD [e] X.env=(false,eval e X.env)::cD [] X.env) zzz._auto_1) (d:autoParam ((k9 b (cD [] X.env)).any (·.1)=false) zzz._auto_1) :
  PE X (.Call (.Attribute o "get" c) [e] [] b) (λw H Q=>to w H λx z=>(∃p P,x=.ref p/\C3 z p P)/\f w z λy q=>K8 X x y q Q):=by
 intro g s w H Q I h;refine jh l t n Fc (jR (ho g s w H _ I h) λv s1 O=>?_);obtain⟨x,z,E,r1,⟨p,P,ex,S⟩,q1⟩:=O;subst ex;obtain rfl:v=c8 p:=r1;obtain⟨_,_,ob,ds,ep,W,Y,_⟩:=C3.at E S;refine⟨"dict","dict.get",E8,HI,PySem.F.type_dict_get,AR E S,λa e=>by cases e;exact⟨ob,W,Y.2.1⟩,?_⟩;have R:=(jC Z lD hs) b g s1 w z (λC q=>match C with | [y]=>K8 X (.ref p) y q Q | _=>False) E q1;rw[hs]at R |-
 refine y9 (by show(false||(k9 b (cD [] X.env)).any (·.1))=false;rw[d]<;>rfl) (gg ?_);refine jR R λus s2 O=>?_;obtain⟨vs,q,B,N,M⟩:=O
 match vs,M,N with
 |[y],M,N=>
 obtain⟨p',a,j,ks,k,J,rfl,L,G,rk,ok,q0,q2⟩:=M;cases J;obtain⟨u,rfl,ru⟩:=oB N;cases ru;obtain⟨U,h2,C,T,x2⟩:=CP B L G;refine DL hu (yU B rk ok) U x2 ?_;by_cases m:k∈ks
 ·obtain⟨i,K⟩:=bP m
  have hl:i<j.length:=by
   have:=e7 gC G.hs;rw[aC,aC]at this;have:=(aE.mp K).1;lia
  have r:j[i]?=some j[i]:=aD hl;obtain⟨v,v1,v2⟩:=V5 T G.nd K r;rw[v1];exact⟨_,q,B.tok _,v2,q2 i _ K r⟩
 ·have:=V4 T k;rw[c4 m]at this;rw[show fj C k=none by cases h:fj C k with | none=>rfl | some _=>rw[h]at this;cases this];exact⟨.non,q,B.tok _,Fc,q0 m⟩
end
end L2
namespace TL
open L2
section
variable{X:Cx}{a b e:Expr}{f g:ET}{pos j:Pos}
def YP(w:c7)(d k:D)(Q:D->Prop):Prop:=∃c,d=mC w c/\GZ k/\(∀kv∈c,jX kv.1)/\(k∉c.map (·.1)->Q .none)/\∀v,(k,v)∈c->Q v
def XP(w:c7)(f g:ET):ET:=λh Q=>f h λd=>(∃c,d=mC w c)/\g h λk=>YP w d k Q
def WB(ha:iM X a f)(hb:iM X b g)(pc:∀{G I:TE},PE X a G->PE X b I->PE X (.Call (.Attribute a "get" j) [b] [] pos) (λn H Q=>G n H λx s=>(∃p v,x=.ref p/\C3 s p v)/\I n s λy t=>K8 X x y t Q)):iM X (.Call (.Attribute a "get" j) [b] [] pos) (XP X.w f g):=by
 obtain⟨G,pa,ra⟩:=ha;obtain⟨I,pb,rb⟩:=hb;refine⟨_,pc pa pb,λB L H ps r n Q QV o h k=>ra B L H ps r n _ _ o h λd x s E M q1=>?_⟩;obtain⟨⟨kvs,rfl⟩,q1⟩:=q1;obtain⟨p,v,T,rfl,h1,h2,h3,h4,h5⟩:=uT M;refine⟨⟨p,v,Fc,.inr ⟨T,bZ _ _ h1⟩⟩,rb B L s ps r n _ _ (o.grow E) q1 λkd y t F N q2=>?_⟩;obtain⟨m,e,⟨C,ys,rfl⟩,hok,q0,q⟩:=q2;obtain⟨p',z,u,P,U,W,Y,Z,g5⟩:=uT (e▸M);cases P;obtain⟨c,rfl⟩:=oF N;have A:=cE (ps:=ps) F;refine⟨p,c,z,m.map (·.1),_,Fc,Fc,.inr ⟨u,bZ _ _ (A _ _ U)⟩,((pC (w:=X.w) W Y hok (Z.same A))).same bZ,N.same bZ,C,λhn=>k _ _ t (E.trans F) .none (q0 hn),λi en K he=>?_⟩;rw[aI]at K;obtain⟨kv,l,R⟩:=bU.mp K;obtain⟨S,J,O⟩:=(g5.same A).two l;rw[he]at J;cases J;exact k _ _ t (E.trans F) O (q _ (by rw[<- R];exact aS l))
end
end TL
namespace L2
open AutoSeq1 (wpAny_loadPart')
namespace Rv
def owner:Manifest.owners.lookup (String.ofList ['d','e','s','r','e','v','e','r'].reverse)=some Manifest.sig_reversed:=by kernel_rfl
end Rv
end L2
namespace L2
noncomputable abbrev fO(x q:Str)(st:Stmt)(kV dc a:Value)(an:Option Addr)(cd ct:Value):iW:=nG x q (xO st) (mK st) (bA st) .none kV dc a an cd ct
def Pc{c:Type}{P:List c->Prop}(h:∀a,P [a]):∀b:List c,b.length=1->P b
|[a],_=>h a
def Nv{d:Type}{P:List d->Prop}(h:∀a b,P [a,b]):∀c:List d,c.length=2->P c
|[a,b],_=>h a b
def Nw{e:Type}{P:List e->Prop}(h:∀a b c,P [a,b,c]):∀d:List e,d.length=3->P d
|[a,b,c],_=>h a b c
def Ny{f:Type}{P:List f->Prop}(h:∀a b c d,P [a,b,c,d]):∀e:List f,e.length=4->P e
|[a,b,c,d],_=>h a b c d
def Nz{g:Type}{P:List g->Prop}(h:∀a b c d e,P [a,b,c,d,e]):∀f:List g,f.length=5->P f
|[a,b,c,d,e],_=>h a b c d e
def Oa{i:Type}{P:List i->Prop}(h:∀a b c d e f,P [a,b,c,d,e,f]):∀g:List i,g.length=6->P g
|[a,b,c,d,e,f],_=>h a b c d e f
abbrev oH(x q:Str)(st:Stmt)(b:List Str):Prop:=∀(kV dc c:Value)(an:Option Addr)(cd ct:Value)(a:List Value),a.length=b.length->bindArgs (fO x q st kV dc c an cd ct) ⟨a,[]⟩=pure (b.zip a)
structure Dg(K:aM)(x q:Str)(st:Stmt)(a:Addr)(f:iW)(ps:List Str):Prop where
 k:iD K (.ref a)=true
 F:RD K x q st a f
 d:sS K f ps []
structure Df(K:aM)(mg:Str->Option Value)(x:Str)(st:Stmt)(a:Addr)(f:iW)(ps:List Str):Prop extends Dg K x x st a f ps where
 m:mg x=some (.ref a)
section
variable{K:aM}{h:Heap}{mg:Str->Option Value}{x q:Str}{st:Stmt}{i:List Str}{f:Addr}{j:Value}{m an:Option Addr}{n:Array (Option Value)}{kV dc g cd ct:Value}
def dg(b:oH x q st i)(l:K.lookup f=some ⟨j,m,.func (fO x q st kV dc g an cd ct),n⟩)(c:pL K cd q=true)(k:iD K (.ref f)=true):Dg K x q st f (fO x q st kV dc g an cd ct) i:=⟨k,VX l c k,(VX l c k).binds b⟩
def df(X:K.In h)(G:h.Ns iR mg)(b:oH x x st i)(a:PySem.W.nsIn K iR x=some (some (.ref f)))(l:K.lookup f=some ⟨j,m,.func (fO x x st kV dc g an cd ct),n⟩)(c:pL K cd x=true)(k:iD K (.ref f)=true):Df K mg x st f (fO x x st kV dc g an cd ct) i:=⟨dg b l c k,PySem.W.mg_of X G a⟩
def Q6(h:autoParam (∀kV dc g an cd ct a0,bindArgs (fO x q st kV dc g an cd ct) ⟨[a0],[]⟩=pure ([p0].zip [a0])) zzt._auto_1):oH x q st [p0]:=λa b c d e f=>Pc (h a b c d e f)
def zW(h:autoParam (∀kV dc g an cd ct a0 a1,bindArgs (fO x q st kV dc g an cd ct) ⟨[a0,a1],[]⟩=pure ([p0,p1].zip [a0,a1])) zzt._auto_1):oH x q st [p0,p1]:=λa b c d e f=>Nv (h a b c d e f)
def HE(h:autoParam (∀kV dc g an cd ct a0 a1 a2,bindArgs (fO x q st kV dc g an cd ct) ⟨[a0,a1,a2],[]⟩=pure ([p0,p1,p2].zip [a0,a1,a2])) zzt._auto_1):oH x q st [p0,p1,p2]:=λa b c d e f=>Nw (h a b c d e f)
def ML(h:autoParam (∀kV dc g an cd ct a0 a1 a2 k,bindArgs (fO x q st kV dc g an cd ct) ⟨[a0,a1,a2,k],[]⟩=pure ([p0,p1,p2,p3].zip [a0,a1,a2,k])) zzt._auto_1):oH x q st [p0,p1,p2,p3]:=λa b c d e f=>Ny (h a b c d e f)
def Iy(h:autoParam (∀kV dc g an cd ct a0 a1 a2 k a4,bindArgs (fO x q st kV dc g an cd ct) ⟨[a0,a1,a2,k,a4],[]⟩=pure ([p0,p1,p2,p3,p4].zip [a0,a1,a2,k,a4])) zzt._auto_1):oH x q st [p0,p1,p2,p3,p4]:=λa b c d e f=>Nz (h a b c d e f)
def Nl(h:autoParam (∀kV dc g an cd ct a0 a1 a2 k a4 l,bindArgs (fO x q st kV dc g an cd ct) ⟨[a0,a1,a2,k,a4,l],[]⟩=pure ([p0,p1,p2,p3,p4,p5].zip [a0,a1,a2,k,a4,l])) zzt._auto_1):oH x q st [p0,p1,p2,p3,p4,p5]:=λa b c d e f=>Oa (h a b c d e f)
def na{C:Addr}{f}(h:fY K (.ref C) f=some none):nE K C f:=h
end
end L2
namespace TL
open L2
section
variable{X:Cx}{e:Expr}{c:List Expr}{o:ET}{x:Str}{pos j p:Pos}
def cd{k n:Nat}{f:Addr}{pn st}(F:dS X.prog X.w X.K X.mg X.base hX k f fd pn (cG X.K sp))(D:Df X.K X.mg x st f fd pn)(g:Room n X.A)(i:wN X (e::c) t)(hk:autoParam (k<=n) zzy._auto_1)
  (q:autoParam (Gl X x) zzz._auto_1) (a:autoParam ((x==("__debug__":Str))=false) zzy._auto_1) (l:autoParam (cD (e::c) X.env=(false,eval e X.env)::cD c X.env) zzz._auto_1) (b:autoParam ((k9 pos (cD c X.env)).any (·.1)=false) zzz._auto_1):iM X (.Call (.Name x p) (e::c) [] pos) (nM sp t):=aAj F D.m D.k D.d (g.mono hk) i λh=>F0 F (g.mono hk) q D.m D.k D.d .nil zO h a l b
def cF{k n:Nat}{f:Addr}{pn st}(F:dS X.prog X.w X.K X.mg X.base hX k f fd pn (kU X.K sp))(D:Df X.K X.mg x st f fd pn)(g:Room n X.A)(i:wN X (e::c) t)(hk:autoParam (k<=n) zzy._auto_1)
  (q:autoParam (Gl X x) zzz._auto_1) (a:autoParam ((x==("__debug__":Str))=false) zzy._auto_1) (l:autoParam (cD (e::c) X.env=(false,eval e X.env)::cD c X.env) zzz._auto_1) (b:autoParam ((k9 pos (cD c X.env)).any (·.1)=false) zzz._auto_1):OQ X (.Call (.Name x p) (e::c) [] pos) (Kl sp t):=aAb F D.m D.k D.d (g.mono hk) i λh=>F0 F (g.mono hk) q D.m D.k D.d .nil zO h a l b
def cQ{k n:Nat}{f:Addr}{pn st}(F:dS X.prog X.w X.K X.mg X.base hX k f fd pn (uV X.K sp))(D:Df X.K X.mg x st f fd pn)(g:Room n X.A)(i:wN X (e::c) t)(hk:autoParam (k<=n) zzy._auto_1)
  (q:autoParam (Gl X x) zzz._auto_1) (a:autoParam ((x==("__debug__":Str))=false) zzy._auto_1) (l:autoParam (cD (e::c) X.env=(false,eval e X.env)::cD c X.env) zzz._auto_1) (b:autoParam ((k9 pos (cD c X.env)).any (·.1)=false) zzz._auto_1):Ih X (.Call (.Name x p) (e::c) [] pos) (Lh sp t):=TB F D.m D.k D.d (g.mono hk) i λh=>F0 F (g.mono hk) q D.m D.k D.d .nil zO h a l b
def sf{iter}(i:KJ X tg iter ti)(k:KL X tg g)(f:sJ X body tb)(l:PassesOwn (model X.prog X.w) X.A X.env X.xe:=by exact v8)(h:autoParam (X.calm=true) zzz._auto_1)(hs:autoParam (∀x,j6 iter X.env x=pure x) zzx._auto_1):wM X (.For tg iter body [] pos) (YV ti g tb):=Zv i k f λa b d=>Zh l h a b d hs
def el{iter o}(i:KJ X tg iter ti)(d:∀b:BP,KL (blk X scope N' b) tg g/\GY (blk X scope N' b) ifs tt/\iM (blk X scope N' b) elt o)(h:autoParam (rC scope X.env.scope X.N N' fr=true) zzp._auto_1)(f:autoParam (X.calm=true) zzz._auto_1)(hs:autoParam (∀x,j6 iter X.env x=pure x) zzx._auto_1):iM X (.ListComp elt [⟨tg,iter,ifs,0⟩] scope pos) (RK fr ti g tt o):=Px i d λa b=>TQ h f a b hs
def fl{iter o}(i:KJ X tg iter ti)(d:∀b:BP,KL (blk X scope N' b) tg g/\GY (blk X scope N' b) ifs tt/\iM (blk X scope N' b) elt o)(h:autoParam (rC scope X.env.scope X.N N' fr=true) zzp._auto_1)(f:autoParam (X.calm=true) zzz._auto_1)(hs:autoParam (∀x,j6 iter X.env x=pure x) zzx._auto_1):OQ X (.ListComp elt [⟨tg,iter,ifs,0⟩] scope pos) (Ft fr ti g tt o):=Qx i d λa b=>TQ h f a b hs
def cY{r:List V->Hp->VK->Prop}{f:List D->(D->Prop)->Prop}(k:uI X r f)(d:wN X (e::c) t)(g:kO X (.type T) r)(m:X.mg x=none)(q:d1 x=some (.type T))(l:autoParam (Gl X x) zzz._auto_1)(n:autoParam (x≠"__name__") zzy._auto_1)(a:autoParam ((x==("__debug__":Str))=false) zzy._auto_1)(i:autoParam (cD (e::c) X.env=(false,eval e X.env)::cD c X.env) zzz._auto_1)(b:autoParam ((k9 pos (cD c X.env)).any (·.1)=false) zzz._auto_1):iM X (.Call (.Name x p) (e::c) [] pos) (nM f t):=Ki k d λh=>gH g l m q h n a i b
def cB{r:List V->Hp->VK->Prop}{f:List D->(D->Prop)->Prop}(k:uI X r f)(d:wN X (e::c) t)(g:kO X (.builtin T) r)(m:X.mg x=none)(q:d1 x=some (.builtin T))(l:autoParam (Gl X x) zzz._auto_1)(n:autoParam (x≠"__name__") zzy._auto_1)(a:autoParam ((x==("__debug__":Str))=false) zzy._auto_1)(i:autoParam (cD (e::c) X.env=(false,eval e X.env)::cD c X.env) zzz._auto_1)(b:autoParam ((k9 pos (cD c X.env)).any (·.1)=false) zzz._auto_1):iM X (.Call (.Name x p) (e::c) [] pos) (nM f t):=Ki k d λh=>tY g l m q h n a i b
def so(i:Nat)(a:X.N.Nodup)(h:wN X c t)(d:autoParam (X.N[i]?=some x) zzz._auto_1)(f:autoParam (OR X.env.scope x) zzu._auto_1)(hs:autoParam (jH (.List c p2) (some (.Name x j)) pos.line X.env=pure false) zzz._auto_1)(b:autoParam (X.fn x=true\/X.env.scope.names.lookup x=some .local) zzv._auto_1):wM X (.Assign [.Name x j] (.List c p2) pos) (PR i t):=SH (i:=i) h λh=>yJ a d f h hs b
def sn(i:Nat)(a:X.N.Nodup)(d:autoParam (X.N[i]?=some x) zzz._auto_1)(f:autoParam (OR X.env.scope x) zzu._auto_1)(hs:autoParam (jH (.Dict [] [] p2) (some (.Name x j)) pos.line X.env=pure false) zzz._auto_1)(b:autoParam (X.fn x=true\/X.env.scope.names.lookup x=some .local) zzv._auto_1):wM X (.Assign [.Name x j] (.Dict [] [] p2) pos) (SO i):=YF (i:=i) λh=>yJ a d f h hs b
def sF(i:Nat)(a:X.N.Nodup)(h:OQ X e t)(d:autoParam (X.N[i]?=some x) zzz._auto_1)(f:autoParam (OR X.env.scope x) zzu._auto_1)(hs:autoParam (jH e (some (.Name x j)) pos.line X.env=pure false) zzz._auto_1)(b:autoParam (X.fn x=true\/X.env.scope.names.lookup x=some .local) zzv._auto_1):wM X (.Assign [.Name x j] e pos) (SM i t):=YD (i:=i) h λh=>yJ a d f h hs b
noncomputable def Mz(l:List Str):Bool:=decide l.Nodup
def pk(i:Nat)(a:autoParam (Mz X.N=true) zzp._auto_1)(d:autoParam (X.N[i]?=some x) zzz._auto_1)(f:autoParam (OR X.env.scope x) zzu._auto_1)(b:autoParam (X.fn x=true\/X.env.scope.names.lookup x=some .local) zzv._auto_1):PG X (.Name x pos) (kX i):=NS (b8 a) d f b
def tv(h:iM X e o)(b:autoParam (∀a,isTrue e X.env a=(do let v <- a;uo e.pos;jb [v] (truthy v))) zzx._auto_1):GX X e (CW o):=aC2 h λh=>Zj h b
end
end TL
namespace L2
def Kg(X:Cx):Prop:=∀e s,¬X.xe e s
section
variable{X:Cx}{a:List (Addr×Obj)}{b:St}{H:Hp}{s:Shared}
def YZ(i:Kg X)(g:AH X body ts):PS X (.Try body (c::hs) [] [] pos) ts:=by
 intro a s b H D I h;refine wpAny_Try_except (gO (g a s b H D I h) (λf d q=>?_) λe d z=>a9 z (i e d))
 cases f with
 |next=>exact ax q
 |ret v=>exact q
 |brk=>exact q
 |cont=>exact q
end
end L2
namespace TL
open L2
section
variable{X:Cx}{pos:Pos}
def YB(h:sJ X body t)(p:∀{a},AH X body a->PS X (.Try body (b::hs) [] [] pos) a):wM X (.Try body (b::hs) [] [] pos) t:=by
 obtain⟨a,p1,r⟩:=h;exact⟨a,p p1,r⟩
end
end TL
namespace L2
def Zm{X:Cx}:Kg X.nox:=λ_ _ h=>h
end L2
namespace TL
open L2
section
variable{X:Cx}{e b:Expr}{a:ET}
def Qz(x:D)(Q:D->Prop):Prop:=match x with | .bool b=>Q (.int (if b then 1 else 0)) | _=>False
def Pt(a:ET):ET:=λc Q=>a c λx=>Qz x Q
def sC(l:iM X e a)(n:∀{v},PA X [e] (sN v BJ)->PE X (.Call (.Name "int" q1) [e] [] q2) (SC (λg H Q=>(∃i,g=[.int i]/\Q (.int i) H)\/∃k,g=[.bl k]/\Q (.int (if k then 1 else 0)) H) (sN v BJ)))(hs:autoParam (cD [e] X.env=(false,eval e X.env)::cD [] X.env) zzz._auto_1):iM X (.Call (.Name "int" q1) [e] [] q2) (Pt a):=by
 obtain⟨v,p,r⟩:=l;refine⟨_,n (jC p lD hs),λB m H q c u Q w o h k=>r B m H q c u _ _ o h λd x j t s f=>?_⟩
 cases s with
 |bool b=>exact .inr ⟨b,Fc,k _ _ j t (.int _) f⟩
 |_=>exact f.elim
end
end TL
namespace SS
structure GS(a0:Array jq)(g:Nat->Nat)(pd:Array (Nat×Nat×Nat))(st:SortSt):Prop where
 size:(bj st).size=a0.size
 get:∀p,p<a0.size->(bj st)[p]?=a0[g p]?
 rng:∀p,p<a0.size->g p<a0.size
 kind:kindOf st=oneType'
 fail:gq st=none
 pend:da st=pd
noncomputable def Gp(g:Nat->Nat)(i j:Nat):Nat->Nat:=λk=>if i<=k/\k<j then g (i+j-1-k)else g k
noncomputable def Gw(g:Nat->Nat)(b a:Nat):Nat->Nat:=λk=>if k=a then g b else if a<k/\k<=b then g (k-1)else g k
section
variable{prog:cN}{w:c7}{A:d0}{E:Value->Shared->Prop}{s:Shared}{a0:Array jq}{g:Nat->Nat}{d:Array (Nat×Nat×Nat)}{st:SortSt}
def WN(b:IntKeys a0){i:Nat}(c:i<a0.size):∃t q,a0[i]?=some (.int (K a0 i) t,q):=by
 obtain⟨n,t,f⟩:=b a0[i] Fa;have e:a0[i]?=some a0[i]:=gf _ i c;refine⟨t,a0[i].2,?_⟩;have a:a0[i]=(.int n t,a0[i].2):=Prod.ext f Fc;unfold K;rw[e,a]
 rfl
def GS.mirr(h:GS a0 g d st){i j:Nat}(hj:j<=a0.size):GS a0 (Gp g i j) d (setArr st (mirror (bj st) i j ((j-i) / 2))) where
 size:=(mirror_size _ _ _ _).trans h.size
 get:=λp hp=>by
  refine(getElem?_mirror_all (by rw[h.size];exact hj) p).trans ?_;unfold Gp;split
  ·exact h.get _ Ez
  ·exact h.get _ hp
 rng:=λp hp=>by
  unfold Gp;split
  ·exact h.rng _ Ez
  ·exact h.rng _ hp
 kind:=h.kind
 fail:=h.fail
 pend:=h.pend
def GS.bubb(h:GS a0 g d st){rr vd:Nat}(hs:rr<a0.size)(hd:vd<=rr):GS a0 (Gw g rr vd) d (setArr st (bubble (bj st) rr (rr-vd))) where
 size:=(bubble_size _ _ _).trans h.size
 get:=λp hp=>by
  refine(getElem?_bubble (by rw[h.size];exact hs) _ Ez p).trans ?_;rw[show rr-(rr-vd)=vd by lia];unfold Gw;split
  ·exact h.get _ hs
  ·split
   ·exact h.get _ Ez
   ·exact h.get _ hp
 rng:=λp hp=>by
  unfold Gw;split
  ·exact h.rng _ hs
  ·split
   ·exact h.rng _ Ez
   ·exact h.rng _ hp
 kind:=h.kind
 fail:=h.fail
 pend:=h.pend
def wP{p q:Nat}{Q:Option Bool->SortSt->Prop}(h:GS a0 g d st)(a:IntKeys a0)(b:p<a0.size)(c:q<a0.size)
  (k:Q (some (decide (K a0 (g p)<K a0 (g q)))) st):wpS (model prog w) A E s (ltAt' p q) Q st:=by
 obtain⟨t,x,e⟩:=WN a (h.rng p b);obtain⟨u,y,f⟩:=WN a (h.rng q c);exact wpS_ltAt h.kind ((h.get p b).trans e) ((h.get q c).trans f) k
noncomputable def Q9(lo a c:Nat):StateT SortSt Sem AscSt:=
 qy [a:c] ((none,a):AscSt) λ_ z=>do
  let x <- ltAt' (lo+z.snd) (lo+z.snd-1)
  match x with
  |some b=>if b=true then pure (ao (none,z.snd))else pure (g6 (none,z.snd+1))
  |_=>pure (ao (some none,z.snd))
noncomputable def DZ(lo n a:Nat):StateT SortSt Sem (Option Nat):=do
 ar lo (lo+n)
 let z <- Q9 lo n a
 match z.fst with
 |some r=>pure r
 |none=>pure (some z.snd)
noncomputable def OF(lo n a:Nat):StateT SortSt Sem DescSt:=
 qy [n:a] ((none,n,0):DescSt) λ_ z=>do
  let x <- ltAt' (lo+z.snd.fst) (lo+z.snd.fst-1)
  match x with
  |some b=>
   if b=true then
    if z.snd.snd>0 then do
     ar (lo+z.snd.fst-(z.snd.snd+1)) (lo+z.snd.fst)
     pure (g6 (none,z.snd.fst+1,0))
    else pure (g6 (none,z.snd.fst+1,0))
   else do
    let x <- ltAt' (lo+z.snd.fst-1) (lo+z.snd.fst)
    match x with
    |some c=>
     if c=true then pure (ao (none,z.snd.fst,z.snd.snd))
     else pure (g6 (none,z.snd.fst+1,z.snd.snd+1))
    |_=>pure (ao (some none,z.snd.fst,z.snd.snd))
  |_=>pure (ao (some none,z.snd.fst,z.snd.snd))
noncomputable def IR(lo n a:Nat):StateT SortSt Sem (Option Nat):=do
 liftM (rule "list.sort.descending-run")
 let z <- OF lo (n+1) a
 match z.fst with
 |some r=>pure r
 |none=>
  if z.snd.snd>0 then do
   ar (lo+z.snd.fst-(z.snd.snd+1)) (lo+z.snd.fst)
   DZ lo z.snd.fst a
  else DZ lo z.snd.fst a
def QX(lo a:Nat):countRun' lo a=(do
  let z <- Q9 lo 1 a
  match z.fst with
  |some r=>pure r
  |none=>
   if(z.snd==a)=true then pure (some z.snd)
   else if z.snd>1 then do
    let x <- ltAt' lo (lo+z.snd-1)
    match x with
    |some b=>if b=true then pure (some z.snd)else do
      ar lo (lo+z.snd)
      IR lo z.snd a
    |_=>pure none
   else IR lo z.snd a):=by
 have j:∀(n:Nat),DZ lo n a=(do
   ar lo (lo+n)
   let z <- Q9 lo n a
   match z with
   | (some r,_)=>pure r
   | (none,m)=>pure (some m)):=λn=>by
  unfold DZ;congr 1;funext _;congr 1;funext z;obtain⟨r,m⟩:=z;cases r<;>rfl
 rw[countRun'_eq];unfold IR;simp only[j];unfold Q9 OF;congr 1;funext z;obtain⟨r,n⟩:=z
 cases r with
 |some r=>rfl
 |none=>
  dsimp only;split
  ·rfl
  ·split
   ·congr 1;funext x
    cases x with
    |none=>rfl
    |some b=>
     dsimp only;split
     ·rfl
     ·congr 1;funext _;congr 1;funext _;congr 1;congr 1;funext y;obtain⟨e,h,i⟩:=y
      cases e with
      |some e=>rfl
      |none=>
       dsimp only;split
       ·congr 1;funext _;congr 1;funext _;congr 1;funext u;obtain⟨c,f⟩:=u;cases c<;>rfl
       ·congr 1;funext _;congr 1;funext u;obtain⟨c,f⟩:=u;cases c<;>rfl
   ·congr 1;funext _;congr 1;congr 1;funext y;obtain⟨e,h,i⟩:=y
    cases e with
    |some e=>rfl
    |none=>
     dsimp only;split
     ·congr 1;funext _;congr 1;funext _;congr 1;funext u;obtain⟨c,f⟩:=u;cases c<;>rfl
     ·congr 1;funext _;congr 1;funext u;obtain⟨c,f⟩:=u;cases c<;>rfl
end
section
variable{prog:cN}{w:c7}{A:d0}{E:Value->Shared->Prop}{s:Shared}{a0:Array jq}{g:Nat->Nat}{d:Array (Nat×Nat×Nat)}{st:SortSt}{lo n b:Nat}
def HN{a:Nat}{Q:AscSt->SortSt->Prop}(i:IntKeys a0)(o:lo+b<=a0.size)(l:1<=a)(e:a<=b)(j:GS a0 g d st)
  (h:∀m,a<=m->m<=b->Q (none,m) st):wpS (model prog w) A E s (Q9 lo a b) Q st:=by
 unfold Q9;refine az (I:=λx c z=>z=st/\c=(none,x)) ?step ?fin ⟨Fc,Fc⟩
 case fin=>
  rintro c z ⟨rfl,rfl⟩;rw[show max a b=b by lia];exact h b e (aN _)
 case step=>
  rintro x c z f k ⟨rfl,rfl⟩;dsimp only;refine f8 (wP j i Ez Ez ?_)
  cases decide (K a0 (g (lo+x))<K a0 (g (lo+x-1)))with
  |true=>exact j4 (h x f Ez)
  |false=>exact j4 ⟨Fc,Fc⟩
def wO{i j:Nat}{Q:Unit->SortSt->Prop}(h:Q () (setArr st (mirror (bj st) i j ((j-i) / 2)))):wpS (model prog w) A E s (ar i j) Q st:=by
 rw[reverseSlice'_eq];exact ie h
def O3{Q:DescSt->SortSt->Prop}(k:IntKeys a0)(q:lo+b<=a0.size)(p:1<=n)(j:n<=b)(l:GS a0 g d st)
  (h:∀m ne e f,GS a0 e d f->n<=m->m<=b->Q (none,m,ne) f):wpS (model prog w) A E s (OF lo n b) Q st:=by
 unfold OF;refine az (I:=λx c z=>∃ne e,c=(none,x,ne)/\GS a0 e d z) ?step ?fin ⟨0,g,Fc,l⟩
 case fin=>
  rintro c z ⟨ne,e,rfl,a⟩;rw[show max n b=b by lia];exact h b ne e z a j (aN _)
 case step=>
  rintro x c z i o ⟨ne,e,rfl,a⟩;dsimp only;refine f8 (wP a k Ez Ez ?_)
  cases decide (K a0 (e (lo+x))<K a0 (e (lo+x-1)))with
  |true=>
   dsimp only;rw[a7 rfl];split
   ·exact f8 (wO (j4 ⟨0,_,Fc,a.mirr Ez⟩))
   ·exact j4 ⟨0,_,Fc,a⟩
  |false=>
   dsimp only;rw[a6 Ey];refine f8 (wP a k Ez Ez ?_)
   cases decide (K a0 (e (lo+x-1))<K a0 (e (lo+x)))with
   |true=>exact j4 (h x ne e z a i Ez)
   |false=>exact j4 ⟨ne+1,e,Fc,a⟩
def DS{Q:Option Nat->SortSt->Prop}(k:IntKeys a0)(p:lo+b<=a0.size)(l:1<=n)(e:n<=b)(o:GS a0 g d st)
  (h:∀m f c,GS a0 f d c->1<=m->m<=b->Q (some m) c):wpS (model prog w) A E s (DZ lo n b) Q st:=by
 unfold DZ;refine f8 (wO ?_);have a:=o.mirr (i:=lo) (j:=lo+n) Ez;exact f8 (HN k p l e a λm r q=>j4 (h m _ _ a Ez q))
def DU{Q:Option Nat->SortSt->Prop}(f:IntKeys a0)(i:lo+b<=a0.size)(j:n+1<=b)(o:GS a0 g d st)
  (h:∀m k a,GS a0 k d a->1<=m->m<=b->Q (some m) a):wpS (model prog w) A E s (IR lo n b) Q st:=by
 unfold IR;refine f8 (wpS_lift (m9 ⟨Fc,?_⟩));refine f8 (O3 f i Ez j o λm ne k a c p l=>?_);dsimp only;by_cases e:ne>0
 ·rw[a7 e];exact f8 (wO (DS f i Ez l (c.mirr Ez) h))
 ·rw[a6 e];exact DS f i Ez l c h
def KS{Q:Option Nat->SortSt->Prop}(i:IntKeys a0)(j:lo+b<=a0.size)(p:1<=b)(a:GS a0 g d st)
  (h:∀m o f,GS a0 o d f->1<=m->m<=b->Q (some m) f):wpS (model prog w) A E s (countRun' lo b) Q st:=by
 rw[QX];refine f8 (HN i j (aN 1) p a λm k l=>?_);dsimp only;by_cases e:m=b
 ·rw[a7 (by simpa using e)];exact j4 (h m g st a k l)
 ·rw[a6 (by simpa using e)];by_cases c:m>1
  ·rw[a7 c];refine f8 (wP a i Ez Ez ?_)
   cases decide (K a0 (g lo)<K a0 (g (lo+m-1)))with
   |true=>exact j4 (h m g st a k l)
   |false=>exact f8 (wO (DU i j Ez (a.mirr Ez) h))
  ·rw[a6 c];exact DU i j Ez a h
def RZ{ok:Nat}{Q:Bool->SortSt->Prop}(j:IntKeys a0)(u:lo+n<=a0.size)(hok:ok<=n)(t:1<=ok)(m:GS a0 g d st)
  (h:∀a i,GS a0 a d i->Q true i):wpS (model prog w) A E s (binarySort' lo n ok) Q st:=by
 rw[binarySort'_eq]
 refine f8 (sg (az (I:=λk c z=>c=(none,())/\∃a,GS a0 a d z)
  (Q:=λc z=>c=(none,())/\∃a,GS a0 a d z) ?step ?fin ⟨Fc,g,m⟩) ?post)
 case post=>
  rintro c z ⟨rfl,a,e⟩;exact j4 (h a z e)
 case fin=>exactλc z h=>h
 case step=>
  rintro k c z o p ⟨rfl,a,e⟩;refine f8 (sg (az (I:=λx c y=>y=z/\∃l r,c=(none,l,r)/\l<=r/\r<=k) (Q:=λc y=>y=z/\∃l r,c=(none,l,r)/\l<=k) ?istep ?ifin ⟨Fc,0,k,Fc,cI _,aN _⟩) ?ipost)
  case ifin=>
   rintro c y ⟨rfl,l,r,rfl,a1,a2⟩;exact⟨Fc,l,r,Fc,bG a1 a2⟩
  case istep=>
   rintro x c y _ q ⟨rfl,l,r,rfl,a1,a2⟩;dsimp only;by_cases f:l>=r
   ·rw[a7 f];exact j4 ⟨Fc,l,r,Fc,bG a1 a2⟩
   ·rw[a6 f];refine f8 (wP e j Ez Ez ?_)
    cases decide (K a0 (a (lo+k))<K a0 (a (lo+(l+r) / 2)))with
    |true=>exact j4 ⟨Fc,l,(l+r) / 2,Fc,Ez,Ez⟩
    |false=>exact j4 ⟨Fc,(l+r) / 2+1,r,Fc,Ez,Ez⟩
  case ipost=>
   rintro c y ⟨rfl,l,r,rfl,a2⟩;show wpS _ _ _ _ (do moveDown' (lo+k) (lo+l);pure (g6 (none,()))) _ _;rw[moveDown'_eq];exact f8 (ie (j4 ⟨Fc,_,e.bubb Ez Ez⟩))
end
end SS
namespace SS
structure MR(n:Nat)(ky:Nat->Int)(J:List Nat):Prop where
 lt:∀i∈J,i<n
 len:J.length=n
noncomputable def fa(a0:Array jq)(i:Nat):jq:=(a0[i]?).getD (.none,.none)
section
variable{prog:cN}{w:c7}{A:d0}{E:Value->Shared->Prop}{s:Shared}{a0:Array jq}{g:Nat->Nat}{a:Array (Nat×Nat×Nat)}{st:SortSt}
def GS.list(h:GS a0 g a st):(bj st).toList=((cK a0.size).map g).map (fa a0):=by
 apply gY;intro q;rw[eD,bM,aI];by_cases b:q<a0.size
 ·rw[h.get q b,iK b];show _=some (fa a0 (g q));unfold fa;rw[gf a0 _ (h.rng q b)];rfl
 ·rw[eQ (by simp;lia),eY (by rw[h.size];lia)];rfl
def YA(hB:GS a0 g a st):MR a0.size (K a0) ((cK a0.size).map g) where
 lt:=λi hi=>by
  obtain⟨p,hp,rfl⟩:=aR.mp hi;exact hB.rng p (nQ.mp hp)
 len:=by simp
def QB{n:Nat}(h:n<64)(b:2<=n):minRun' n n 0=n:=by
 obtain⟨f,rfl⟩:∃f,n=f+2:=⟨n-2,Ez⟩;rw[show f+2=(f+1)+1 by lia,minRun'_succ,a7 Ez]
def Io(a0:Array jq)(st:SortSt):Prop:=∃g,GS a0 g #[(0,a0.size,0)] st
def GS.setP(h:GS a0 g a st)(q:Array (Nat×Nat×Nat)):GS a0 g q (tm st q):=⟨h.size,h.get,h.rng,h.kind,h.fail,Fc⟩
def RY{Q:Unit->SortSt->Prop}(l:IntKeys a0)(n:GS a0 (λp=>p) #[] st)(F:2<=a0.size)(i:a0.size<64)
  (h:∀d J,gq d=none->(bj d).toList=J.map (fa a0)->MR a0.size (K a0) J->Q () d):wpS (model prog w) A E s sortRuns' Q st:=by
 have G:=QB i F;rw[sortRuns'_eq];refine f8 (uv ?_);dsimp only;simp only[n.size]
 generalize minRun' a0.size a0.size 0=mn at G
 refine f8 (sg (az
  (I:=λx c z=>(x=0/\c=(none,0)/\GS a0 (λp=>p) #[] z)\/(1<=x/\c=(none,a0.size)/\Io a0 z))
  (Q:=λc z=>c=(none,a0.size)/\Io a0 z) ?step ?fin (.inl ⟨Fc,Fc,n⟩)) ?post)
 case fin=>
  rintro c z (⟨o,_,_⟩ | ⟨_,hc,j⟩)
  ·lia
  ·exact⟨hc,j⟩
 case step=>
  rintro x c z _ o (⟨rfl,rfl,hB'⟩ | ⟨x1,rfl,j⟩)
  ·dsimp only;rw[a6 Ez];simp only[MY,aM2]
   have next:∀(m:Nat)(f:Nat->Nat)(b:SortSt),GS a0 f #[] b->m=a0.size ->
     (1=0/\((none,m):Option Unit×Nat)=(none,0)/\GS a0 (λp=>p) #[] (tm b ((da b).push (0,m,0)))) \/
     (1<=1/\((none,m):Option Unit×Nat)=(none,a0.size)/\Io a0 (tm b ((da b).push (0,m,0)))):=λm f b b1 e=>by
    have B:=b1.setP #[(0,m,0)];rw[show(da b).push (0,m,0)=#[(0,m,0)] by rw[b1.pend];rfl];subst e;exact .inr ⟨Ez,Fc,f,B⟩
   refine f8 (KS l Ez Ez hB' λm f b b1 r H=>?_);dsimp only;by_cases k:m<mn
   ·rw[a7 k];refine f8 (wpS_lift (m9 ⟨Fc,?_⟩));refine f8 (RZ l Ez Ez r b1 λC q c1=>?_);simp only[xZ,eH,g9];refine f8 (uv ?_);rw[show(da q).back?=none by rw[c1.pend];rfl];dsimp only;exact f8 (ie (j4 (next _ C q c1 Ez)))
   ·rw[a6 k];refine f8 (uv ?_);rw[show(da b).back?=none by rw[b1.pend];rfl];dsimp only;exact f8 (ie (j4 (next _ f b b1 Ez)))
  ·dsimp only;rw[a7 (aN _)];exact j4 ⟨Fc,j⟩
 case post=>
  rintro c z ⟨rfl,j⟩;dsimp only
  refine f8 (sg (az (I:=λx c y=>c=(none,())/\x=0/\y=z)
   (Q:=λc y=>c=(none,())/\gq y=none/\∃J,(bj y).toList=J.map (fa a0)/\MR a0.size (K a0) J) ?_ ?_ ⟨Fc,Fc,Fc⟩) ?_)
  ·rintro x c y _ _ ⟨rfl,rfl,rfl⟩;refine f8 (uv ?_);obtain⟨g,b1⟩:=j;rw[a7 (by rw[b1.pend];exact aN 1)];exact j4 ⟨Fc,b1.fail,_,b1.list,YA b1⟩
  ·rintro c y ⟨rfl,o,_⟩;lia
  ·rintro c y ⟨rfl,t,J,u,v⟩;exact j4 (h y J t u v)
end
end SS
set_option maxHeartbeats 4000000
namespace SS
section
variable{prog:cN}{w:c7}{A:d0}{E:Value->Shared->Prop}{s:Shared}{a kS f:Addr}{vs:List Value}{g:List Int}{P:PySem.Fin->Shared->Prop}{d:Shared->Prop}{lo:Nat}
structure RB(d:Shared->Prop)(lo:Nat):Prop where
 up:∀(s':Shared)(x:Addr)h'(tk:Nat),d s'->lo<=x->cV x s'.heap h'->d { s' with heap:=h',toks:=tk }
 push:∀(s':Shared)(o:Obj),d s'->d { s' with heap:=s'.heap.push o }
def BC(prog:cN)(w:c7)(A:d0)(d:Shared->Prop)(lo:Nat)(f:Addr)(vs:List Value)(g:List Int):Prop:=∀(i:Nat)(v:Value)(k:Int)(c:Shared),vs[i]?=some v->g[i]?=some k->d c ->
 wpAny (model prog w) A (call (.ref f) [v]) (λu e=>∃t,u=.int k t/\d e/\∀b o,lo<=b->c.heap.get? b=some o->e.heap.get? b=some o) (λ_ _=>False) c
def RV{b:Array Value}(hk:IntsAre b.toList g)(l:g.length=vs.length):(b.zip vs.toArray).size=vs.length/\∀i,i<vs.length->K (b.zip vs.toArray) i=g.getD i 0/\(fa (b.zip vs.toArray) i).2=vs.getD i .none:=by
 have hs:b.size=vs.length:=by have:=hk.length;rw[bQ]at this;lia
 have k:(b.zip vs.toArray).size=vs.length:=by rw[Array.size_zip,hs,bJ,Nat.min_self]
 refine⟨k,λi c=>?_⟩;obtain⟨t,h⟩:=hk.get i (g[i]' Ez) (aD Ez);rw[eD]at h;have j:vs.toArray[i]?=some vs[i]:=by simp[c]
 have e:(b.zip vs.toArray)[i]?=some (.int (g[i]' Ez) t,vs[i]):=by
  rw[Array.getElem?_zip_eq_some];exact⟨h,j⟩
 constructor
 ·unfold K;rw[e];show numOf (i3 (g[i]' Ez) t)=_;rw[cX,aD Ez];rfl
 ·unfold fa;rw[e,cX,aD c];rfl
def MR.congr{n:Nat}{b c:Nat->Int}(h:MR n b J)(e:∀i,i<n->b i=c i):MR n c J:=⟨h.lt,h.len⟩
def NH{st:SortSt}{b:Array Value}{e l:Nat}{J:List Nat}(T:RB d lo)(F:d s)(ok:s.heap.get? kS=some (f7 "list" b e))(B:s.heap.get? a=some (f7 "list" #[] l))(o:kS≠a)(z:lo<=kS)(y:lo<=a)
  (p:b.size<=bO) (q:(bj st).toList.map (·.2)=J.map λi=>vs.getD i .none) (v:J.length<=bO) (u:gq st=none)
  (h:∀m t out c,d { s with heap:=m,toks:=t }->m.get? a=some (f7 "list" out c)->out.toList=(J.map λi=>vs.getD i .none)->P (.done (.ret .none)) { s with heap:=m,toks:=t }) :
  wpAny (model prog w) A (ksk_tail a false l (.ref kS) st) P E s:=by
 have r:=cV.update s.heap kS (c9 λ_=>(#[]:Array Value));have j:(s.heap.update kS (c9 λ_=>(#[]:Array Value))).get? a=some (f7 "list" #[] l):=(r.2 a o.symm).trans B;have C:=cV.update (s.heap.update kS (c9 λ_=>(#[]:Array Value))) a (c9 λ_=>(bj st).map (·.2));obtain⟨k,n⟩:∃k,((s.heap.update kS (c9 λ_=>(#[]:Array Value))).update a (c9 λ_=>(bj st).map (·.2))).get? a=some (f7 "list" ((bj st).map (·.2)) k):=⟨_,fy j λ_=>(bj st).map (·.2)⟩
 have x:((bj st).map (·.2)).size=J.length:=by
  have:=e7 gC q;simpa using this
 unfold ksk_tail
 try dsimp only
 refine aB (dj ok Fc ?_ p (cI _));refine aB (ft ?_);refine aB (seqEpoch_at j Fc ?_);refine aB (dj j Fc ?_ (cI _) (by simp only[eH,g9];rw[x];exact XM v));rw[u];simp only[bne_self_eq_false,eH,g9];exact aG (h _ _ _ k (T.up { s with heap:=s.heap.update kS (c9 λ_=>(#[]:Array Value)) } a _ s.toks (T.up s kS _ s.toks F z r) y C) n (by rw[Array.toList_map];exact q))
def Zu{b:Array Value}{e H:Nat}(T:RB d lo)(N:d s)(ok:s.heap.get? kS=some (f7 "list" b e))(M:s.heap.get? a=some (f7 "list" #[] H))(t:kS≠a)(L:lo<=kS)(I:lo<=a)
  (hk:IntsAre b.toList g) (S:g.length=vs.length) (p:vs.length<64)
  (h:∀k o out c J,d { s with heap:=k,toks:=o }->k.get? a=some (f7 "list" out c)->MR vs.length (λi=>g.getD i 0) J->out.toList=(J.map λi=>vs.getD i .none)->P (.done (.ret .none)) { s with heap:=k,toks:=o }) :
  wpAny (model prog w) A (ksk_end a false vs.toArray H (.ref kS) b) P E s:=by
 obtain⟨n,u⟩:=RV (vs:=vs) hk S;have hs:b.size=vs.length:=by have:=hk.length;rw[bQ]at this;lia
 have x:(2:Nat)^24=bO:=rfl
 have v:∀J:List Nat,(∀i∈J,i<vs.length)->(J.map (fa (b.zip vs.toArray))).map (·.2)=J.map λi=>vs.getD i .none:=λJ y=>by
  rw[bM];exact iJ λi r=>(u i (y i r)).2
 unfold ksk_end
 try dsimp only
 simp only[eH,g9];by_cases m:vs.toArray.size<2
 ·rw[a7 m,a7 m];refine aB (aG ?_);rw[StateT.run_pure];refine aB (aG ?_)
  try dsimp only
  rw[bJ]at m
  have R:(b.zip vs.toArray).toList=(cK vs.length).map (fa (b.zip vs.toArray)):=by
   apply gY;intro q;rw[eD,aI];by_cases z:q<vs.length
   ·rw[iK z,gf _ q (by rw[n];exact z)];show _=some (fa _ q);unfold fa;rw[gf _ q (by rw[n];exact z)];rfl
   ·rw[eQ (by simp;lia),eY (by rw[n];lia)];rfl
  have l:MR vs.length (λi=>g.getD i 0) (cK vs.length):=⟨λi r=>nQ.mp r,Fa⟩
  exact NH (st:=SortSt.mk' general' (b.zip vs.toArray) #[] 7 none) (J:=cK vs.length) T N ok M t L I (by rw[hs,<- x];lia) (by
   show(b.zip vs.toArray).toList.map (·.2)=_;rw[R];exact v _ l.lt) (by simp only[fL];rw[<- x];lia) Fc λk o out c C F G=>h k o out c _ C F l G
 ·rw[a6 m,a6 m];rw[bJ]at m;rw[ksk_kind hk (by rw[hs];lia)];refine aB (aG ?_)
  refine aB (gO (RY (a0:=b.zip vs.toArray) (st:=SortSt.mk' oneType' (b.zip vs.toArray) #[] 7 none)
   (Q:=λ_ j=>gq j=none/\∃J,(bj j).toList=J.map (fa (b.zip vs.toArray))/\MR (b.zip vs.toArray).size (K (b.zip vs.toArray)) J)
   (ksk_intKeys hk) ⟨Fc,λ_ _=>rfl,λ_ U=>U,Fc,Fc,Fc⟩ (by rw[n];lia) (by rw[n];exact p) λj J a1 a2 O=>⟨a1,J,a2,O⟩) ?_ λ_ _ e=>e)
  rintro⟨⟨⟩,j⟩ s' ⟨rfl,hf,J,y,l⟩
  try dsimp only
  rw[n]at l;have B:=l.congr λi r=>(u i r).1;exact NH (J:=J) T N ok M t L I (by rw[hs,<- x];lia) (by rw[y];exact v J l.lt) (by rw[l.len,<- x];lia) hf λk o out c C F G=>h k o out c _ C F B G
def YH{y:Nat}(T:RB d lo)(t0:d s)(ok:s.heap.get? kS=some (f7 "list" #[] 0))(Y:s.heap.get? a=some (f7 "list" #[] y))(o:kS≠a)(B:lo<=kS)(K:lo<=a)
  (U:g.length=vs.length) (n:vs.length<64) (turn:BC prog w A d lo f vs g)
  (h:∀b out c J,d b->b.heap.get? a=some (f7 "list" out c)->MR vs.length (λi=>g.getD i 0) J->out.toList=(J.map λi=>vs.getD i .none)->P (.done (.ret .none)) b) :
  wpAny (model prog w) A (ksk_rest a (.ref f) false vs.toArray y (.ref kS)) P E s:=by
 have H:(2:Nat)^24=bO:=rfl;unfold ksk_rest;refine aB (m9 ?_)
 first
  |rw[List.forIn_toArray]
  | (rw[<- pV];simp only[List.toList_toArray])
  |rw[<- pV]
 refine aB (ksk_fold (λi b=>d b/\∃l e,b.heap.get? kS=some (f7 "list" l e)/\b.heap.get? a=some (f7 "list" #[] y)/\IntsAre l.toList (g.take i)) vs 0 s
  ⟨t0,#[],0,ok,Y,by simpa using IntsAre.nil⟩ ?step ?done)
 case step=>
  rintro j x b I ⟨G,l,e,t,C,hk⟩;simp only[aM2]at hk |-
  have hj:j<vs.length:=(aE.mp I).1;obtain⟨k,p⟩:∃k,g[j]?=some k:=⟨_,aD Ez⟩
  have hz:l.size<=vs.length:=by
   have Q:=hk.length;rw[bQ,aZ]at Q;lia
  refine aB (m8 (gO (turn j x k b I p G) (λv r S=>?_) λ_ _ R=>R.elim));obtain⟨m,rfl,t3,keep⟩:=S
  try dsimp only
  have q:=keep kS _ B t;have F:=keep a _ K C;have L:=cV.update r.heap kS (c9 (·.push (.int k m)));obtain⟨u,z⟩:∃u,(r.heap.update kS (c9 (·.push (.int k m)))).get? kS=some (f7 "list" (l.push (.int k m)) u):=⟨_,fy q (·.push (.int k m))⟩;have O:g.take (j+1)=g.take j++[k]:=by rw[cU,p];simp
  have N:(l.push (i3 k m)).toList=l.toList++[i3 k m]:=by simp
  refine aB (dj q Fc ?_ (by rw[<- H];lia) (bG (nW (Array.size_push ..)) (by rw[<- H];lia)));exact aG ⟨Fc,T.up _ kS _ _ t3 B L,l.push (.int k m),u,z,(L.2 a o.symm).trans F,by rw[N,O];exact ksk_snoc hk⟩
 case done=>
  rintro b ⟨G,l,e,t,C,hk⟩;have M:g.take (0+vs.length)=g:=kR Ez;rw[M]at hk
  try dsimp only
  refine aB (listItems_at t Fc ?_);exact Zu T G t C o B K hk U n λh' tk out c J m X Z W=>h _ out c J m X Z W
def YG{n:Nat}(T:RB d lo)(u:d s)(k:s.heap.get? a=some (f7 "list" vs.toArray n))(l:lo<=a)(r:g.length=vs.length)(b:vs.length<64)(turn:BC prog w A d lo f vs g)
  (h:∀m out c J,d m->m.heap.get? a=some (f7 "list" out c)->MR vs.length (λi=>g.getD i 0) J->out.toList=(J.map λi=>vs.getD i .none)->P (.done (.ret .none)) m) :
  wpAny (model prog w) A (ksk_tree a (.ref f) false) P E s:=by
 have p:(2:Nat)^24=bO:=rfl;have q:a<s.heap.objs.size:=bF k;have t:=cV.update s.heap a (c9 λ_=>(#[]:Array Value));obtain⟨o,j⟩:∃o,(s.heap.update a (c9 λ_=>(#[]:Array Value))).get? a=some (f7 "list" #[] o):=⟨_,fy k λ_=>#[]⟩;have e:((s.heap.update a (c9 λ_=>(#[]:Array Value))).push (f7 "tuple" vs.toArray 0)).objs.size=s.heap.objs.size+1:=by rw[size_push',BI]
 unfold ksk_tree;refine aB (listItems_at k Fc ?_);refine aB (dj k Fc ?_ (by rw[bJ,<- p];lia) (cI _));refine aB (seqEpoch_at j Fc ?_);refine aB (ia ?_ (by show vs.length<=_;rw[<- p];lia));refine aB (ir ?_ (cI _));refine h7 ?_
 exact YH (s:={ s with heap:=((s.heap.update a (c9 λ_=>(#[]:Array Value))).push (f7 "tuple" vs.toArray 0)).push (f7 "list" #[] 0) }) (kS:=((s.heap.update a (c9 λ_=>(#[]:Array Value))).push (f7 "tuple" vs.toArray 0)).objs.size)
  T (T.push { s with heap:=(s.heap.update a (c9 λ_=>(#[]:Array Value))).push (f7 "tuple" vs.toArray 0) } _ (T.push { s with heap:=s.heap.update a (c9 λ_=>(#[]:Array Value)) } _ (T.up s a _ s.toks u l t)))
  (aW _ Fc) (aJ _ (aJ _ j)) (by rw[e];exact fN (fB q)) (by rw[e];exact bG l (iI (fB q))) l r b turn h
def PF{l:Addr}{Q:Value->Shared->Prop}(T:RB d lo)(v:d s)(r:s.heap.IsList l vs.toArray)(j:lo<=s.heap.objs.size)(e:g.length=vs.length)(b:vs.length<64)(turn:BC prog w A.in1.in1 d lo f vs g)
  (h:∀p D out c J,d p->s.heap.objs.size<=D->p.heap.get? D=some (f7 "list" out c)->MR vs.length (λi=>g.getD i 0) J->out.toList=(J.map λi=>vs.getD i .none)->Q (.ref D) p) :
  wpAny (model prog w) A (call (.builtin "sorted") [.ref l] [(c6 "key",.ref f)]) Q E s:=by
 have q:(2:Nat)^24=bO:=rfl;refine call_function_entry_kw kind_sorted plain_sorted entry_sorted (ksk_s1 _ _) ?_;unfold l9.«sorted»;refine aB (m:=checkCount "sorted" 1 1 _) (aG ?_);refine aB (collect_list r ?_ (by rw[<- q];lia));refine aB (ir ?_ (by rw[<- q];lia))
 have n:((s.heap.push (f7 "list" #[] 0)).update s.heap.objs.size (c9 (·++vs.toArray))).objs.size=s.heap.objs.size+1:=by
  rw[BI,size_push']
 have k:(((s.heap.push (f7 "list" #[] 0)).update s.heap.objs.size (c9 (·++vs.toArray))).push (f7 "list" vs.toArray 0)).get? (s.heap.objs.size+1)=some (f7 "list" vs.toArray 0):=by
  rw[<- n];exact aW _ Fc
 show wpAny _ _ _ _ _ { s with heap:=((s.heap.push (f7 "list" #[] 0)).update s.heap.objs.size (c9 (·++vs.toArray))).push (f7 "list" vs.toArray 0) };rw[n];refine aB (h7 (wpAny_call_entry_kw slot_list_sort ⟨_,k,Fc⟩ entry_list_sort ?body (ksk_l1 _ _)))
 case body=>
  show wpAny (model prog w) A.in1.in1 (l9.«list.sort» ⟨[.ref (s.heap.objs.size+1)],[(c6 "key",.ref f)]⟩) _ _ _;rw[ksk_t1];have x:=T.push { s with heap:=(s.heap.push (f7 "list" #[] 0)).update s.heap.objs.size (c9 (·++vs.toArray)) } (f7 "list" vs.toArray 0) (T.up { s with heap:=s.heap.push (f7 "list" #[] 0) } s.heap.objs.size _ s.toks (T.push s (f7 "list" #[] 0) v) j (cV.update _ _ _));refine YG (s:={ s with heap:=((s.heap.push (f7 "list" #[] 0)).update s.heap.objs.size (c9 (·++vs.toArray))).push (f7 "list" vs.toArray 0) }) T x k (XM j) e b turn λp out c J y o u t=>⟨_,Fc,?_⟩;exact aG ⟨_,Fc,h p _ out c J y (DA _) o u t⟩
end
end SS
set_option maxHeartbeats 1000000
namespace L2
def MO{a b:Int}:∀(l:List Value),TriplesOk l->∀y,codeAmong p (l++[h8 a,h8 b,x])=some y->codeAmong p l=some y\/y=x:=by
 intro l h
 fun_induction TriplesOk l with
 |case1=>
  intro y e;have c:(if(a==p.line&&b==p.col)=true then some x else codeAmong p [])=some y:=e;split at c
  ·exact .inr (c5 c).symm
  ·cases c
 |case2 u t v w z r f=>
  intro y e;simp only[BH,codeAmong]at e |-
  split at e
  ·rename_i d;rw[a7 d];exact .inl e
  ·rename_i d;rw[a6 d];exact f h y e
 |case3=>exact h.elim
section
variable{X:Cx}{a:List (Addr×Obj)}{d:St}{H:Hp}{s:Shared}
structure Lam(X:Cx)(H:Hp)(h:Heap)(f c:Addr)(fd:iW):Prop where
 obj:h.get? f=some { cls:=.type "function",data:=.func fd }
 free:H f=none
 code:fd.code=.ref c
 trk:∃oc P,H c=some (.frz oc (.own P))/\WX oc
 nfr:f∉JR X.stack
def eG.builtinsAt(I:eG X a d H s){P:Addr}{qs}(e:s.heap.get? P=some { cls:=.none,data:=.fields qs }):s.heap.BuiltinsAt X.mg P/\iR≠P:=by
 obtain⟨k,o,b1,h,b,i,j,c⟩:=I.mod.bmod;have l:=I.mod.glob;obtain⟨p,n,m,f,g,_⟩:=l;refine⟨⟨k,o,b1,h,λz=>?_,λz=>?_,I.bk _ _ b,i,j,c⟩,λz=>?_⟩
 ·rw[z,f]at b;cases b;rw[g]at c;cases c
 ·have:=I.bk _ _ b;rw[z,e]at this;cases this;cases c
 ·have:=I.bk _ _ f;rw[z,e]at this;cases this;cases g
def U8{g:Scope}{c P:Addr}{Q:Value->Shared->Prop}{E:Value->Shared->Prop}{name}{S:Nat}(I:eG X a d H s)(hT:tabA=some P)(hc:X.env.code=.ref c)(C:WZ X.base c P)(Z:∀x∈g.names,x.2=.free->∃c,X.env.cells.lookup x.1=some c)
  (h:∀H'(s':Shared)(f j:Addr)(cl:List (Str×Addr))(pm i:Value),eG X a d H' s'->(∀b u,H b=some u->H' b=some u)->Lam X H' s'.heap f j (PySem.W.kla_fn name qual params body g cl pm (.ref j) i)->(∀n c,cl.lookup n=some c->X.env.cells.lookup n=some c)->(∀n,(n,e9)∈g.names->∃c,cl.lookup n=some c)->Q (.ref f) s') :
  wpAny (model X.prog X.w) X.A (makeFunction name qual params (.expr body) g X.env [] [] [] pos S) Q E s:=by
 obtain⟨cl,M,K,L⟩:=wB Z;obtain⟨ps,J⟩:=I.env0.tab P hT;obtain⟨qs,U,T,e3⟩:=I.hok P _ J;obtain⟨G,Bo⟩:=I.builtinsAt U;have hg:=I.mod.glob.keeps I.bk;have C':=C.keeps I.bk
 have nofr:∀b,s.heap.objs.size<=b->b∉JR X.stack:=λb G z=>by
  rcases aY.mp (I.stkSub b z)with y | y
  ·rw[y]at G;exact a9 I.lt (W2.mpr G)
  ·exact I.nofs G y
 cases hm:codeAmong pos qs.toList with
 |none=>
  refine PySem.W.kla_makeFunction (mg:=X.mg) M I.ok.glob hg hc C' U T hm Bo G λj i m tk hx k B N R=>?_;obtain⟨c2,F,vs,t,q1,q2,q3,q4⟩:=N;cases q1;have q:H j=none:=I.hok.fresh k;have Y:H m.objs.size=none:=I.hok.fresh (bG k (iI B));have cP:j≠P:=λz=>by rw[z,J]at q;cases q
  have kp:∀b o,b≠P->s.heap.get? b=some o->(m.push (AL name qual params body g cl ((X.mg "__name__").getD .none) j i)).get? b=some o:=λb o z e=>aJ _ (hx b o z e);have nP:∀b,H b=none->b≠P:=λb e z=>by rw[z,J]at e;cases e
  have l:∀b u,H b=some u->gG H j (.frz F (.own P)) b=some u:=λb u e=>by rw[cO (iB e q)];exact e
  have un:Un X.fs [] H (gG H j (.frz F (.own P))) s.heap (m.push (AL name qual params body g cl ((X.mg "__name__").getD .none) j i)):=
   ⟨λb o e n _ _=>kp b o (nP b n) e,λb o e n _ _=>⟨o.slots,kp b o (nP b n) e⟩,λb o e n _=>by rw[cO (bS (cS (bF e) k))];exact n,λb o e _=>by
    by_cases z:b=P
    ·exact⟨_,by rw[z];exact aJ _ R⟩
    ·exact⟨o,kp b o z e⟩,λb xs e=>l _ _ e,λb o u e=>l _ _ e,λb ps e=>⟨#[],by rw[l _ _ e];simp⟩⟩
  have hok:vN X.prog X.w (gG H j (.frz F (.own P))) (m.push (AL name qual params body g cl ((X.mg "__name__").getD .none) j i)):=λb u e=>by
   by_cases z:b=j
   ·subst z;rw[cW]at e;cases e;exact⟨aJ _ q2,_,aJ _ q2⟩
   ·rw[cO z]at e;by_cases z2:b=P
    ·subst z2;rw[J]at e;cases e;refine⟨_,aJ _ R,?_,λp x hp=>?_⟩
     ·rw[O2];exact TriplesOk_snoc _ _ _ _ T
     ·rw[O2]at hp;rcases MO _ T _ hp with hp | hp
      ·obtain⟨c3,o3,r1,r2,r3⟩:=e3 p x hp;exact⟨c3,o3,r1,l _ _ r2,r3⟩
      ·exact⟨j,F,hp,cW,vs,_,t,q3,q4⟩
    ·refine(I.hok b u e).stay (λy v hy r=>kp y v ?_ r) (λy r=>l _ _ r) (λy xs r=>l _ _ r) λy o v r=>l _ _ r;rcases hy with rfl | hy
     ·exact z2
     ·intro z3;rw[z3,J]at hy;cases hy
  refine h _ _ m.objs.size j cl _ i (I.un (t':=tk) un hok) l ⟨aW _ Fc,by rw[cO (fN B)];exact Y,Fc,⟨F,P,cW,vs,_,t,q3,q4⟩,nofr _ (bG k (iI B))⟩ K L
 |some cv=>
  obtain⟨j,F,r1,r2,r3⟩:=e3 pos cv hm;subst r1;refine PySem.W.kla_makeFunctionHit (mg:=X.mg) M I.ok.glob hg hc C' U T hm G λi m tk hx O=>?_;exact h H _ m.objs.size j cl _ i (I.kept (t':=tk) λb o e=>aJ _ (hx b o e)) (λ_ _ e=>e) ⟨aW _ Fc,I.hok.fresh O,Fc,⟨F,P,r2,r3⟩,nofr _ O⟩ K L
end
def Q5{A:d0}{R:Result->Shared->Prop}{s:Shared}{f c:Addr}{a:iW}{binds:List (Str×Value)}(i:A.depth<cr)(l:s.heap.NoLimit)
  (I:s.heap.get? f=some { cls:=.type "function",data:=.func a }) (u:a.scope.isCoroutine=false) (k:a.scope.isGenerator=false) (H:a.body=.expr body) (F:a.code=.ref c) (E:s.heap.get? c=some oc) (G:WX oc)
  (d:bindArgs a args=pure binds) (g:∀x∈a.scope.names,x.2≠.cell) (n:∀x∈binds,a.scope.names.lookup x.1=some .local) (hk:a.scope.kind=.function) (z:a.globals=iR) (p:a.builtins=ab)
  (h:∀(q:Str)(j:Heap),j.Ns s.heap.objs.size (λy=>binds.reverse.lookup y)->(∀b o,s.heap.get? b=some o->j.get? b=some o) ->
   wpAny (model prog w) (A.deeper (sL q a.scope s.heap.objs.size f a.code a.closure)) (eval body (sL q a.scope s.heap.objs.size f a.code a.closure)) (λv K=>R (.ok (.ret v)) K) (λ_ _=>False) { s with heap:=j,toks:=s.toks+binds.length }) :
  z8 (model prog w) A (.call (.ref f) args) R s:=by
 obtain⟨vs,q,t,hd,J⟩:=G;refine fx ?_;show wpAny _ A.in1 (callAny (.ref f) args) _ _ s;simp only[callAny];refine aB (bx I ?_);simp only[callFunction,u,k,H,F];refine aB (m:=field (.ref c) 1) (t4 E hd J (aB (aG ?_)));rw[d,z,p];refine aB (aG (aB (wpAny_newFunctionEnv g n (λj B C=>?_) hk)));have kp:∀b o,s.heap.get? b=some o->j.get? b=some o:=λb o e=>C.extBut b o (bS (bF e)) (aJ _ e);refine aB (wpAny_enterFrame (l.keeps kp) i (aG ⟨Fc,?_⟩));have:=h q j B kp;rw[F]at this;exact PySem.W.kla_codeExpr (gO this (λ_ _ r=>r) λ_ _ r=>r.elim)
noncomputable abbrev xH:Scope:={ kind:=.function,names:=[(c6 "entry",.local),(c6 "bottom",.free)],isGenerator:=false,isCoroutine:=false,more:=[] }
noncomputable def JL(X:Cx)(A':d0)(q:Str)(f:Addr)(cd:Value)(cl:List (Str×Addr))(s:Shared)(H:Hp):Cx where
 prog:=X.prog
 w:=X.w
 K:=X.K
 mg:=X.mg
 base:=X.base
 A:=A'.deeper (sL q xH s.heap.objs.size f cd cl)
 N:=["entry","bottom"]
 s₀:=s
 H₀:=H
 env:=sL q xH s.heap.objs.size f cd cl
 outer:=X.stack
 stack:=sL q xH s.heap.objs.size f cd cl::X.stack
 ex:=[]
 fn:=λ_=>false
 calm:=true
 pn:=[]
 xe:=λ_ _=>False
def Z4{X:Cx}{A':d0}{q:Str}{f m:Addr}{cd}{cl:List (Str×Addr)}{s:Shared}{l:Heap}{tk:Nat}{b:Int}(I:eG X pins σ H s)(F:A'.frames=some X.stack)(E:A'.handled=none)
  (d:∀n c,cl.lookup n=some c->X.env.cells.lookup n=some c) (w:cl.lookup ("bottom":Str)=some m) (h:s.heap.IsCell m (some (.int b t))) (r:iL x u)
  (B:l.Ns s.heap.objs.size (λy=>[((c6 "entry":Str),u)].reverse.lookup y)) (kp:∀b o,s.heap.get? b=some o->l.get? b=some o) :
  eG (JL X A' q f cd cl s H) [] [some x,some (.int b)] H { s with heap:=l,toks:=tk }:=by
 have a:=I.env0;have k:∀b:Addr,b∉(JL X A' q f cd cl s H).ex:=λb z=>a9 (show b∈([]:List Addr)from z) Fa
 have K:∀y:Str,xH.names.lookup y=some .cell\/xH.names.lookup y=some .free->y="bottom":=λy j=>by
  have e:xH.names.lookup y=if y==(c6 "entry")then some .local else if y==(c6 "bottom")then some .free else none:=by
   show nI y [(c6 "entry",NameKind.local),(c6 "bottom",e9)]=_;rw[gW,gW];cases (y==c6 "entry")<;>cases (y==c6 "bottom")<;>rfl
  rw[e]at j;split at j
  ·rcases j with z | z<;>cases z
  ·split at j
   ·rename_i z;exact ey z
   ·rcases j with z | z<;>cases z
 obtain⟨L,G,A⟩:=h;have g:l.IsCell m (some (.int b t)):=⟨L,kp _ _ G,A⟩
 refine⟨⟨a.mod,Fc,Fc,Fc,aN _,λy z c a1 a2=>I.ok.inj y z c (d y c a1) (d z c a2),λy j=>?_,λy c z=>(nomatch (show false=true from z)),λ_=>E,gc F,.inr ⟨Fc,Fc⟩,λb z=>a9 z (k b),a.bs,a.bsz,λb _ _=>k b,λb z=>a9 z (k b),a.funs,a.frf,a.tab⟩,
  rfl,a.bare,Un.kept kp,⟨_,B,λi y v a1 a2 M=>?_⟩,λy c a1=>?_,a.hok.fresh (aN _),λy c a1=>I.freeC y c (d y c a1),λp J=>a9 (show p∈([]:List (Addr×Obj))from J) Fa,a.hok.kept kp,Fc⟩
 ·have:=K y j;rw[this];exact⟨m,w⟩
 ·match i,a1,a2 with
  |0,a1,a2=>
   cases a1;cases a2;exact⟨u,r,.inl ⟨Fc,Fc⟩⟩
  |1,a1,a2=>
   cases a1;cases a2;exact⟨.int b t,⟨t,Fc⟩,.inr ⟨.inr Fc,m,w,g⟩⟩
  |i+2,a1,a2=>cases a1
 ·obtain⟨v,o,l,C⟩:=I.cell y c (d y c a1);exact⟨v,o,kp _ _ l,C⟩
def Un.butA{fs}{h c f:Heap}{a:Addr}(u:Un fs ex H H1 h c)(hs:cV a c f)(g:h.objs.size<=a):Un fs ex H H1 h f:=by
 have ne:∀b o,h.get? b=some o->b≠a:=λb o e=>bS (cS (bF e) g);refine⟨λb o e n c d=>(hs.2 b (ne b o e)).trans (u.keep b o e n c d),λb o e n c d=>?_,u.free,λb o e d=>?_,u.tups,u.frzs,u.tbls⟩
 ·obtain⟨j,z⟩:=u.slot b o e n c d;exact⟨j,(hs.2 b (ne b o e)).trans z⟩
 ·obtain⟨i,z⟩:=u.there b o e d;exact⟨i,(hs.2 b (ne b o e)).trans z⟩
def Un.new{fs}{h h1:Heap}{a:Addr}(u:Un fs ex H H1 h h1)(hn:H1 a=none)(ha:h.objs.size<=a):Un fs ex H (gG H1 a o) h h1 where
 keep:=u.keep
 slot:=u.slot
 free:=λb ob e n hx=>by rw[cO (bS (cS (bF e) ha))];exact u.free b ob e n hx
 there:=u.there
 tups:=λb xs e=>by have z:=u.tups b xs e;rw[cO (iB z hn)];exact z
 frzs:=λb ob v e=>by have z:=u.frzs b ob v e;rw[cO (iB z hn)];exact z
 tbls:=λb ps e=>by
  obtain⟨m,z⟩:=u.tbls b ps e;exact⟨m,by rw[cO (iB z hn)];exact z⟩
theorem vN.new{h}{a:Addr}(x:vN P w H h)(f:H a=none)(new:jY P w (gG H a o) h a o):vN P w (gG H a o) h:=λb u e=>by
 by_cases d:b=a
 ·subst d;rw[cW]at e;cases e;exact new
 ·rw[cO d]at e;have st:∀c v,H c=some v->gG H a o c=some v:=λc v q=>by rw[cO (iB q f)];exact q
  exact(x b u e).stay (λc v _ q=>q) (λc q=>st _ _ q) (λc g q=>st _ _ q) λc ob v q=>st _ _ q
noncomputable abbrev Ky(p:Pos):Arguments:={ posonlyargs:=[],args:=[{ arg:="entry",annotation:=none,pos:=p }],vararg:=none,kwonlyargs:=[],kw_defaults:=[],kwarg:=none,defaults:=[] }
def DP(K:aM)(H:Hp)(b:Int)(x:V)(k:Int):Prop:=∃(q:Addr)(a c:V)(d:Addr)(top bot:Int),x=.ref q/\rO K H q [a,c,.ref d]/\rO K H d [.int top,.int bot]/\Hd b bot/\KE top (b / bot)/\k=top*(b / bot)
def DP.same{K}{H a:Hp}{b:Int}{k:Int}(h:DP K H b x k)(s:∀c u,H c=some u->a c=some u):DP K a b x k:=by
 obtain⟨q,j,l,d,top,bot,e,f,g,i⟩:=h;exact⟨q,j,l,d,top,bot,e,TL.bR.seqT s f,TL.bR.seqT s g,i⟩
section
variable{p1 a g l n B E F G q1 M O R:Pos}
def aD3{X:Cx}{q:Str}{f:Addr}{cd}{pins:List (Addr×Obj)}{b k:Int}(I:eG (JL X A' q f cd cl s H) [] [some x,some (.int b)] H s1)(h:DP X.K H b x k) :
  wpAny (model X.prog X.w) (JL X A' q f cd cl s H).A (eval (.BinOp (.Subscript (.Subscript (.Name "entry" p1) (.Constant (.int 2) 0 a) g) (.Constant (.int 0) 0 l) n) .Mult (.BinOp (.Name "bottom" B) .FloorDiv (.Subscript (.Subscript (.Name "entry" E) (.Constant (.int 2) 0 F) G) (.Constant (.int 1) 0 q1) M) O) R) (JL X A' q f cd cl s H).env)
   (EP (JL X A' q f cd cl s H) [] [some x,some (.int b)] λv j=>v=.int k/\j=H) (λ_ _=>False) s1:=by
 have p:PE (JL X A' q f cd cl s H) (.BinOp (.Subscript (.Subscript (.Name "entry" p1) (.Constant (.int 2) 0 a) g) (.Constant (.int 0) 0 l) n) .Mult (.BinOp (.Name "bottom" B) .FloorDiv (.Subscript (.Subscript (.Name "entry" E) (.Constant (.int 2) 0 F) G) (.Constant (.int 1) 0 q1) M) O) R) _:=
  IQ T2 (D6 aX (D6 aX (pv 0) yL (by intro _ _;rfl)) yL (by intro _ _;rfl)) (IQ lL (pv 1) (D6 aX (D6 aX (pv 0) yL (by intro _ _;rfl)) yL (by intro _ _;rfl)))
 obtain⟨i,r,t,d,top,bot,rfl,c,e,m,o,rfl⟩:=h;refine p [] s1 _ H _ I ?_;refine⟨_,Fc,.inr (.inl ⟨i,_,2,.ref d,Fc,Fc,c,Fc,.inr (.inl ⟨d,_,0,.int top,Fc,Fc,e,Fc,?_⟩)⟩)⟩;refine⟨_,Fc,_,Fc,.inr (.inl ⟨i,_,2,.ref d,Fc,Fc,c,Fc,.inr (.inl ⟨d,_,1,.int bot,Fc,Fc,e,Fc,?_⟩)⟩)⟩;exact⟨b,bot,Fc,Fc,m,top,b / bot,Fc,Fc,o,Fc,Fc⟩
def aC8(K:aM)(m:Nat)(o:TA):TE:=λj H Q=>o j H λvs e=>∃(p:Addr)(d:List V)(b:Int)(h:List Int),vs=[.ref p]/\lU K e p d/\d.length<64/\j[m]?=some (some (.int b))/\h.length=d.length/\(∀(i:Nat) x k,d[i]?=some x->h[i]?=some k->DP K e b x k) /\
 ∀f,(∀c u,e c=some u->f c=some u)->∀(J:List Nat) r,SS.MR d.length (λi=>h.getD i 0) J->f r=none->Q (.ref r) (gG f r (.lst (J.map λi=>d.getD i .non)))
def TM{X:Cx}{ib:Nat}{k:Nat}{c P:Addr}(hr:Room (k+3) X.A)(hT:tabA=some P)(hc:X.env.code=.ref c)(C:zF X.K c P=true)(Bp:X.N[ib]?=some "bottom")(hk:X.env.kindOf "bottom"=some .cell)
  (hg:Gl X "sorted") (hm:X.mg "sorted"=none) (hv:d1 "sorted"=some (.builtin "sorted")) (ha:PA X [e] ta)
  (he:autoParam (k9 pos (cD [e] X.env)=(false,eval e X.env)::k9 pos (cD [] X.env)) zzz._auto_1)
  (ix:autoParam ((k9 pos (cD [e] X.env)).any (·.1)=false) zzz._auto_1) :
  PE X (.Call (.Name "sorted" np) [e] [⟨some (c6 "key"),.Lambda (Ky ap) (.BinOp (.Subscript (.Subscript (.Name "entry" p1) (.Constant (.int 2) 0 a) g) (.Constant (.int 0) 0 l) n) .Mult (.BinOp (.Name "bottom" B) .FloorDiv (.Subscript (.Subscript (.Name "entry" E) (.Constant (.int 2) 0 F) G) (.Constant (.int 1) 0 q1) M) O) R) xH lp,kp⟩] pos) (aC8 X.K ib ta):=by
 intro pins s σ H Q I h;refine ae (uA I hg hm hv ?_ Ey Ey);refine callWith_kw (jR (ha pos pins s σ H _ I h) λus s1 zq=>?_) he ix;obtain⟨vs,H1,I1,r1,q1⟩:=zq;obtain⟨p,Z,b,kz,rfl,hS,xy,Cu,Bw,ye,q⟩:=q1;obtain⟨u,rfl,ru⟩:=oB r1;cases ru
 have U:∀x∈xH.names,x.2=.free->∃c,X.env.cells.lookup x.1=some c:=λx hx hf=>by
  have Cq:x=(c6 "entry",NameKind.local)\/x=(c6 "bottom",e9):=by simpa using hx
  rcases Cq with rfl | rfl
  ·cases hf
  ·exact I.ok.has "bottom" (.inl hk)
 refine kws_cons (PySem.W.kla_eval Fc (U8 I1 hT hc (PySem.W.codeHd_of_K I.mod.kin C) U λY s2 f c' cl pm Dp r sH L zv wx=>kws_nil ?_));obtain⟨cb,zw⟩:=wx "bottom" (aO _ (aU ..));have Av:lU X.K Y p Z:=L2.bR.seq sH hS;obtain⟨fo,rv,ix,hz⟩:=r.list Av;have d:=rv.length;have hA:=r.ok.frames;have S:Room (k+1) X.A.in1.in1:=(Room.in1 (k:=k+2) hr).in1
 have nofr:∀b,s2.heap.objs.size<=b->b∉JR X.stack:=λb hb z=>by
  rcases aY.mp (r.stkSub b z)with y | y
  ·rw[y]at hb;exact a9 r.lt (W2.mpr hb)
  ·exact r.nofs hb y
 let Tp:Shared->Prop:=λs'=>s'.os=s2.os/\bh s'.gens/\Un (JR X.stack) [] Y Y s2.heap s'.heap/\vN X.prog X.w Y s'.heap
 have Dm:∀s',Tp s'->eG X pins σ Y s':=λs' t=>r.call' (ch:=[]) t.1 t.2.2.1 t.2.2.2 t.2.1 (λb z=>a9 z Fa)
 have T:SS.RB Tp s2.heap.objs.size:=by
  refine⟨λs' x h' tk t hx hs=>⟨t.1,t.2.1,t.2.2.1.butA hs hx,t.2.2.2.but (r.hok.fresh hx) hs⟩,λs' o t=>⟨t.1,t.2.1,t.2.2.1.trans (Un.kept λb u e=>aJ _ e),t.2.2.2.kept λb u e=>aJ _ e⟩⟩
 have t0:Tp s2:=⟨Fc,r.bare,Un.refl,r.hok⟩;have Cv:f∉JR X.stack:=L.nfr
 have turn:SS.BC X.prog X.w X.A.in1.in1 Tp s2.heap.objs.size f fo kz:=λi v k0 s' hv vx t=>by
  have I':=Dm s' t
  obtain⟨x,hx,rx⟩:∃x,Z[i]?=some x/\iL x v:=by
   have hi:i<Z.length:=by rw[d];exact(aE.mp hv).1
   obtain⟨u,h1,h2⟩:=rv.get (aD hi);rw[hv]at h1;cases h1;exact⟨_,aD hi,h2⟩
  have Aj:=(ye i x k0 hx vx).same sH;obtain⟨m,hn,hl⟩:=I'.loc;obtain⟨ub,Dh,lb⟩:=hl ib "bottom" (.int b) Bp Cu (.inr (.inl hk));obtain⟨tb,rfl⟩:=Dh
  have cell:s'.heap.IsCell cb (some (.int b tb)):=by
   rcases lb with⟨z,_⟩ | ⟨_,c0,z1,z2⟩
   ·rw[hk]at z;cases z
   ·have:=zv _ _ zw;rw[this]at z1;cases z1;exact z2
  obtain⟨oc,P',w1,w2⟩:=L.trk;obtain⟨DC,_⟩:=I'.hok c' _ w1;refine gz (Q5 S.depth I'.nolimit (t.2.2.1.keep f _ L.obj L.free Cv Fa) Fc Fc Fc Fc DC w2 (binds:=[(c6 "entry",v)]) Fc (λy hy=>?_) (λy hy=>?_) Fc Fc Fc λqn h1 rf kp=>?_)
  ·have yz:y=(c6 "entry",NameKind.local)\/y=(c6 "bottom",e9):=by simpa using hy
   rcases yz with rfl | rfl<;>simp
  ·rw[dF.mp hy];rfl
  ·have J:=Z4 (q:=qn) (f:=f) (cd:=.ref c') (tk:=s'.toks+1) (A':=X.A.in1.in1) I' hA S.hd zv zw cell rx rf kp;refine gO (aD3 (pins:=pins) J Aj) (λu s3 hu=>?_) λ_ _ z=>z;obtain⟨v3,H3,J3,r3,rfl,rfl⟩:=hu;obtain⟨t3,rfl⟩:=r3;exact⟨t3,Fc,⟨J3.os.trans t.1,J3.bare,t.2.2.1.trans J3.base,J3.hok⟩,λb o hb e=>J3.base.keep b o e (r.hok.fresh hb) (nofr b hb) (by simp[JL])⟩
 show wpAny (model X.prog X.w) X.A (call (.builtin "sorted") [.ref p] [(c6 "key",.ref f)]) _ _ s2;refine SS.PF T t0 ix.isList (aN _) (by rw[Bw,d]) (by rw[<- d];exact xy) turn λs' D out cc J t hD ho sb yo=>?_;have xz:Y D=none:=r.hok.fresh hD;rw[<- d]at sb;have hL:(2:Nat)^24=bO:=rfl
 have vals:gM (J.map λi=>Z.getD i .non) out.toList:=by
  rw[yo]
  have:∀J:List Nat,(∀i∈J,i<Z.length)->gM (J.map λi=>Z.getD i .non) (J.map λi=>fo.getD i .none):=by
   intro J hJ
   induction J with
   |nil=>exact .nil
   |cons j J ih=>
    refine .cons ?_ (ih λi hi=>hJ i (aO _ hi));have hj:=hJ j (aU ..);obtain⟨u,h1,h2⟩:=rv.get (aD hj);show iL (Z.getD j .non) (fo.getD j .none);rw[cX,cX,h1,aD hj];exact h2
  exact this J sb.lt
 refine⟨.ref D,_,r.call' (ch:=[]) (s':=s') (H':=gG Y D (.lst (J.map λi=>Z.getD i .non))) t.1 (t.2.2.1.new xz hD) (t.2.2.2.new xz ⟨?_,out.toList,cc,vals,?_⟩) t.2.1 (λb z=>a9 z Fa),Fc,q Y sH J D sb xz⟩
 ·rw[aC,sb.len,<- hL];lia
 ·simpa[f7]using ho
end
end L2
namespace L2
def KC(K:aM)(cd:Value):Prop:=∃c P,cd=.ref c/\tabA=some P/\zF K c P=true
def RD.okC{K}{mg:Str->Option Value}{st}{f:Addr}{c:iW}{N g:List Str}{k:Nat}{i:Sp}(F:RD K x qual st f c)(S:bX N g (bA st))(len:∀vs H Q E,i vs H Q E->vs.length=g.length)
  (b:∀(a:Value),c.code=a->∀(A:d0)outer(s:Shared)H(vs:List V)Q E,Room k (A.deeper (aq qual (bA st) s.heap.objs.size f a))->i vs H Q E ->
   ∃t,AH (AE hX P w K mg base N qual (bA st) f a A outer s H E).nox (mK st) t/\t { nx:=λ_ j=>Q .non j,rt:=Q } (qS N vs) H):dS P w K mg base hX (k+1) f c g i:=by
 obtain⟨p,r,kV,l,u,an,a,ct,o,rfl,n,d⟩:=F.ex;refine Ko n d S len λA outer s H vs Q E m e=>?_;obtain⟨t,h,q⟩:=b a Fc A outer s H vs Q E m e;exact⟨t,h.nox,q⟩
end L2
namespace TL
open L2
def Nc{K}{mg:Str->Option Value}{st}{f:Addr}{g:iW}{N pn:List Str}{k:Nat}{l:RL}(L:KC K g.code)(F:RD K x qual st f g)(S:bX N pn (bA st))(len:∀c Q,l c Q->c.length=pn.length)
  (d:∀(b:Value),KC K b->∀(A:d0)outer(s:Shared)H E,Room k (A.deeper (aq qual (bA st) s.heap.objs.size f b))->∀(c:List D)(Q:List D->Prop),l c Q ->
   ∃t,sJ (AE hX P w K mg base N qual (bA st) f b A outer s H E).nox (mK st) t/\t { nx:=λ_=>False,rt:=λ_=>False,ro:=Q } (mM N c)):dS P w K mg base hX (k+1) f g pn (kU K l):=by
 refine F.okC S (λvs H Q E h=>?_) λb i A outer s H vs Q E u h=>?_
 ·obtain⟨j,c,e,_,r,q,_⟩:=h;rw[<- r.length];exact len c e q
 ·obtain⟨j,c,e,live,r,q,k⟩:=h;obtain⟨t,⟨m,p,y⟩,h⟩:=d b (i▸L) A outer s H E u c e q;exact⟨m,p,y H j H j _ _ _ _ (tZ live r) h ⟨λ_ _ _ _ _ _ a=>a.elim,λ_ _ _ _ _ _ a=>a.elim,λ_ _ _ _ _ _ a=>a.elim,λ_ _ _ _ _ a=>a.elim,λm p C n B o G v z a=>k m p C n B o v z a,λ_ _ _ _ _ _ _ _ _ _ _ _ _ _ _ _ _ _ a=>a.elim,λ_ _ _ _ _ _ _ _ _ _ _ _ _ _ a=>a.elim,i6⟩⟩
def He(b:Int)(e:D)(k:Int):Prop:=∃(q st:D)(top bot:Int),e=.tuple [q,st,.tuple [.int top,.int bot]]/\Hd b bot/\KE top (b / bot)/\k=top*(b / bot)
def He.rep{K}{b k:Int}(h:He b e k)(r:iP K H e x):DP K H b x k:=by
 obtain⟨q,st,top,bot,rfl,d,f,g⟩:=h
 cases r with
 |tuple l a=>
  cases a with
  |cons n a=>
   cases a with
   |cons o a=>
    cases a with
    |cons i a=>
     cases a
     cases i with
     |tuple m c=>
      cases c with
      |cons j c=>
       cases c with
       |cons re c=>
        cases c;cases j;cases re;exact⟨_,_,_,_,top,bot,Fc,l,m,d,f,g⟩
theorem DP.mask{K}{b k:Int}(h:DP K (TL.mask H ps) b x k):DP K H b x k:=h.same λ_ _ e=>bZ _ _ e
def Zc(g:Nat)(t:AT):FT:=λd Q=>t d λf=>∃(a:List D)(b:Int)(c:List Int),f=[.list a]/\a.length<64/\d[g]?=some (.val (.int b))/\c.length=a.length/\(∀(i:Nat) e k,a[i]?=some e->c[i]?=some k->He b e k) /\
 ∀J:List Nat,SS.MR a.length (λi=>c.getD i 0) J->Q (J.map λi=>a.getD i .none)
def VY{X:Cx}{ib:Nat}{k:Nat}(g:Room (k+3) X.A)(L:KC X.K er)(hc:X.env.code=er)(n:X.N[ib]?=some "bottom")(hk:X.env.kindOf "bottom"=some .cell)
  (hg:Gl X "sorted") (hm:X.mg "sorted"=none) (hv:d1 "sorted"=some (.builtin "sorted")) (ha:wN X [e] t)
  (he:autoParam (k9 pos (cD [e] X.env)=(false,eval e X.env)::k9 pos (cD [] X.env)) zzz._auto_1)
  (y:autoParam ((k9 pos (cD [e] X.env)).any (·.1)=false) zzz._auto_1) :
  OQ X (.Call (.Name "sorted" np) [e] [⟨some (c6 "key"),.Lambda (Ky ap) (.BinOp (.Subscript (.Subscript (.Name "entry" p1) (.Constant (.int 2) 0 p2) p3) (.Constant (.int 0) 0 p4) p5) .Mult (.BinOp (.Name "bottom" p6) .FloorDiv (.Subscript (.Subscript (.Name "entry" p7) (.Constant (.int 2) 0 p8) p9) (.Constant (.int 1) 0 q1) q2) q3) q4) xH lp,kp⟩] pos) (Zc ib t):=by
 obtain⟨c,P,rfl,Z,Y⟩:=L;obtain⟨ta,pa,ra⟩:=ha;refine⟨_,TM g Z hc Y n hk hg hm hv pa he y,λB p0 H E M σ Q QV o h k=>ra B p0 H E M σ _ _ o h λds vs H1 s1 F q1=>?_⟩;obtain⟨l,b,kz,rfl,a,hb,s,f,q⟩:=q1;obtain⟨v,z,C⟩:=o.val ib _ hb;cases C
 cases F with
 |cons F r2=>
  cases r2
  cases F with
  |@list pp xv _ hs rs=>
   have w:=rs.length;refine⟨_,_,b,kz,Fc,L2.bR.seq bZ hs,by rw[<- w];exact a,z,by rw[s,w],λi x k0 hx p=>?_,λm T J r I g=>?_⟩
   ·obtain⟨d,hd,rd⟩:=rs.get' hx;exact DP.mask ((f i d k0 hd p).rep rd)
   ·rw[<- w]at I;have S:bR H m:=s1.trans T;refine k _ r _ _ (S.trans (eX g)) (bR.free' S g) cW ?_ (q J I);rw[lZ g];have G:Reps X.K (TL.mask m E) l _:=rs.same (cE T)
    have:∀J:List Nat,(∀i∈J,i<l.length)->Reps X.K (TL.mask m E) (J.map λi=>l.getD i .none) (J.map λi=>xv.getD i .non):=by
     intro J O
     induction J with
     |nil=>exact .nil
     |cons j J ih=>
      refine .cons ?_ (ih λi hi=>O i (aO _ hi));have R:=O j (aU ..);obtain⟨u,U,W⟩:=G.get (aD R);show iP _ _ (l.getD j .none) (xv.getD j .non);rw[cX,cX,U,aD R];exact W
    exact this J I.lt
end TL
namespace L2
noncomputable def Qc(K:aM)(cd:Value)(P:Addr):Bool:=match cd with | .ref c=>zF K c P | _=>false
def Yr{K cd}{P:Addr}(h:Qc K cd P=true)(e:tabA=some P):KC K cd:=by
 cases cd with
 |ref c=>exact⟨c,P,Fc,e,h⟩
 |_=>cases h
def aC7{h:Heap}{c P:Addr}(C:WZ h c P)(e:h.get? P=some { cls:=.none,data:=.fields #[] }):cn h P:=(C.tab e).isCodeTable
end L2
namespace K91
open L2 TL
noncomputable def top(i:Nat):Stmt:=PySem.Challenge.pw_leafjudge_k91_whole_least_of_grown_and_d.main.body.getD i (.Pass ⟨0,0,0,0⟩)
structure Txt(K:aM)(mg:Str->Option Value)(uw ux uy we wf wg wh wj wk wl jr js jt ju jv jw jx jy jz ka kb kc ke kg xn kh ki kj kl km kq kr kt ku kx la lf lg lh xo li lj ll lm xp ln lq xq lr lu lx ly lz ma md me mf mh xr mi mj ml mm mo mq xt xu mr ms mu mv mw mx my fw:Addr)(wm wn wo wp wq wr wt wu wv ww ng nh ni nj nk nn nq nr nw ny nz oe og oh xx oi oj ol om on oo oq ot ou ow ox ja oy oz gj ph pi pj pq gk pr pu gl py pz qa qb qc qd qe qf qg qh gm qi qj qk ql qm qo gn gp qp qq qr qt qu qv qw vf:iW)(n8:Addr)(t_SIDES:Addr)(fz:Tok):Prop where
 x_RowSets:mg "RowSets"=some (.ref n8)
 C_RowSets:RM K n8
 K_RowSets:Mk K n8 uw
 n_RowSets_form:nE K n8 "form"
 n_RowSets_kept:nE K n8 "kept"
 n_RowSets_slip:nE K n8 "slip"
 n_RowSets_knot:nE K n8 "knot"
 n_RowSets_choices:nE K n8 "choices"
 M_1:aA2 K n8 "leaf_of" ux
 M_2:aA2 K n8 "partings" uy
 D_0:Dg K "__init__" "RowSets.__init__" (vX (top 26) 0) uw wm ["self","form","rows","prices"]
 D_1:Dg K "leaf_of" "RowSets.leaf_of" (vX (top 26) 1) ux wn ["self","numbers"]
 D_2:Dg K "partings" "RowSets.partings" (vX (top 26) 2) uy wo ["self","numbers"]
 D_3:Df K mg "counted" (top 5) we wp ["form","rows"]
 D_4:Df K mg "first_answer" (top 6) wf wq ["form","rows"]
 D_5:Df K mg "doubt_of" (top 7) wg wr ["form","rows"]
 D_6:Df K mg "fraction" (top 8) wh wt ["top","bottom"]
 D_7:Df K mg "common_divisor" (top 9) wj wu ["one","other"]
 D_8:Df K mg "added" (top 10) wk wv ["one","other"]
 D_9:Df K mg "is_less" (top 11) wl ww ["one","other"]
 D_10:Df K mg "common_bottom" (top 12) jr ng ["fractions"]
 D_11:Df K mg "questions_of" (top 15) js nh ["form"]
 D_12:Df K mg "questions_on" (top 16) jt ni ["field"]
 D_13:Df K mg "choices_of" (top 17) ju nj ["form"]
 D_14:Df K mg "side_of" (top 18) jv nk ["form","question","stray","case"]
 D_15:Df K mg "field_asked" (top 19) jw nn ["form","question"]
 D_16:Df K mg "entries_to_yes" (top 20) jx nq ["question","stray","field"]
 D_17:Df K mg "values_held" (top 21) jy nr ["question","field"]
 D_18:Df K mg "parted" (top 22) jz nw ["form","question","stray","rows"]
 D_19:Df K mg "numbers_on" (top 23) ka ny ["side","sides"]
 D_20:Df K mg "is_proper" (top 24) kb nz ["sides","fewest"]
 D_21:Df K mg "sides_of_rows" (top 27) kc oe ["form","choice","rows"]
 D_22:Df K mg "is_leaf" (top 29) ke og ["tree"]
 D_23:Df K mg "on_side" (top 30) kg oh ["knot","side"]
 D_24:Df K mg "knots_in" (top 31) xn xx ["tree"]
 D_25:Df K mg "way_of" (top 32) kh oi ["form","tree","case"]
 D_26:Df K mg "sides_of_way" (top 33) ki oj ["form","tree","case"]
 D_27:Df K mg "answer_of" (top 34) kj ol ["form","tree","case"]
 D_28:Df K mg "part_at" (top 35) kl om ["tree","place"]
 D_29:Df K mg "cost_of" (top 38) km on ["form","tree","rows","prices"]
 D_30:Df K mg "least" (top 39) kq oo ["form","rows","deep","prices"]
 D_31:Df K mg "known_trees" (top 40) kr oq ["sets","numbers","deep"]
 D_32:Df K mg "sets_met" (top 41) kt ot ["sets","numbers","deep"]
 D_33:Df K mg "sides_of_all" (top 42) ku ou ["sets","level"]
 D_34:Df K mg "cheapest" (top 43) kx ow ["sets","known","numbers","deep"]
 D_35:Df K mg "tree_for" (top 44) la ox ["sets","known","numbers","deep"]
 D_36:Df K mg "ranked" (top 46) lf ja ["form","rows","least"]
 D_37:Df K mg "rows_at" (top 47) lg oy ["rows","numbers"]
 D_38:Df K mg "best" (top 48) lh oz ["form","rows","least"]
 D_39:Df K mg "grown" (top 49) xo gj ["form","rows","deep","least"]
 D_40:Df K mg "first_leaf" (top 51) li ph ["form","rows"]
 D_41:Df K mg "rows_on_sides" (top 52) lj pi ["form","knot","rows"]
 D_42:Df K mg "prices_at" (top 53) ll pj ["price"]
 D_43:Df K mg "least_pruning" (top 54) lm pq ["form","tree","rows","price"]
 D_44:Df K mg "least_with_cost" (top 55) xp gk ["form","tree","rows","prices"]
 D_45:Df K mg "steps" (top 56) ln pr ["form","tree","rows"]
 D_46:Df K mg "next_price" (top 57) lq pu ["form","tree","rows"]
 D_47:Df K mg "slips_and_prices" (top 58) xq gl ["form","tree","rows"]
 D_48:Df K mg "_law_mix" (top 60) lr py ["_law_cell","_law_k"]
 D_49:Df K mg "_law_cell_at" (top 61) lu pz ["_law_script","_law_k"]
 D_50:Df K mg "_law_drawn" (top 62) lx qa ["_law_cell","_law_many"]
 D_51:Df K mg "_law_names" (top 63) ly qb ["_law_drawn_here","_law_at","_law_many"]
 D_52:Df K mg "_law_form" (top 64) lz qc ["_law_script"]
 D_53:Df K mg "_law_case" (top 65) ma qd ["_law_form_here","_law_bits"]
 D_54:Df K mg "_law_row" (top 66) md qe ["_law_form_here","_law_bits"]
 D_55:Df K mg "_law_rows" (top 67) me qf ["_law_script","_law_form_here","_law_many"]
 D_56:Df K mg "_law_pop" (top 68) mf qg ["_law_numbers"]
 D_57:Df K mg "_law_asks" (top 69) mh qh ["_law_form_here","_law_number"]
 D_58:Df K mg "_law_tree" (top 70) xr gm ["_law_form_here","_law_numbers","_law_deep_here"]
 D_59:Df K mg "_law_side" (top 71) mi qi ["_law_form_here","_law_question","_law_stray","_law_case_here"]
 D_60:Df K mg "_law_said" (top 72) mj qj ["_law_form_here","_law_tree_here","_law_case_here"]
 D_61:Df K mg "_law_small" (top 73) ml qk ["_law_form_here"]
 D_62:Df K mg "_law_choose" (top 74) mm ql ["_law_form_here"]
 D_63:Df K mg "_law_first" (top 75) mo qm ["_law_form_here","_law_rows_here"]
 D_64:Df K mg "_law_cost" (top 76) mq qo ["_law_form_here","_law_tree_here","_law_rows_here","_law_prices"]
 D_65:Df K mg "_law_deep" (top 77) xt gn ["_law_tree_here"]
 D_66:Df K mg "_law_chosen" (top 78) xu gp ["_law_form_here","_law_tree_here"]
 D_67:Df K mg "_law_sides" (top 79) mr qp ["_law_form_here","_law_rows_here","_law_question","_law_stray","_law_numbers"]
 D_68:Df K mg "_law_leaf_cost" (top 80) ms qq ["_law_form_here","_law_rows_here","_law_numbers","_law_prices"]
 D_69:Df K mg "_law_at_least" (top 81) mu qr ["_law_form_here","_law_rows_here","_law_prices","_law_found","_law_numbers","_law_deep_here"]
 D_70:Df K mg "_law_entry_holds" (top 82) mv qt ["_law_form_here","_law_rows_here","_law_prices","_law_found","_law_key"]
 D_71:Df K mg "_law_table_holds" (top 83) mw qu ["_law_form_here","_law_rows_here","_law_prices","_law_table"]
 D_72:Df K mg "_law_told" (top 84) mx qv ["_law_form_here","_law_rows_here","_law_deep_here","_law_prices"]
 D_73:Df K mg "_law_met" (top 85) my qw ["_law_form_here","_law_rows_here","_law_deep_here"]
 D_law:Df K mg "law" (top 86) fw vf ["_law_script"]
 c_SIDES:mg "SIDES"=some (.ref t_SIDES)
 t_SIDES:Hf K t_SIDES ["yes","no"]
 c_MOST_SETS:mg "MOST_SETS"=some (.int 400 fz)
 L_36:KC K ja.code
 b_ValueError:mg "ValueError"=none
 b_bool:mg "bool"=none
 b_enumerate:mg "enumerate"=none
 b_int:mg "int"=none
 b_isinstance:mg "isinstance"=none
 b_len:mg "len"=none
 b_list:mg "list"=none
 b_max:mg "max"=none
 b_min:mg "min"=none
 b_range:mg "range"=none
 b_reversed:mg "reversed"=none
 b_set:mg "set"=none
 b_sorted:mg "sorted"=none
 b_sum:mg "sum"=none
 b_tuple:mg "tuple"=none
noncomputable def hW:Str:="abcdefghijklmnopqrstuvwxyz"
noncomputable def Go(c:Nat):Bool:=Txt.contains hW ⟨#[c]⟩
noncomputable def yP(z:Str):Bool:=decide (1<=z.length)&&decide (z.length<=8)&&z.cps.toList.all Go
noncomputable def nm:D->Bool
|.str z=>yP z
|_=>false
noncomputable def Mt:D->Str
|.str z=>z
|_=>""
noncomputable def My(d:D)(lo a:Int):Bool:=match d with | .tuple ts=>decide (lo<=ts.length)&&decide ((ts.length:Int)<=a)&&ts.all nm&&decide ((ts.map Mt).Nodup) | _=>false
noncomputable def fld:D->Bool
|.tuple [n,vs]=>nm n&&My vs 2 5
|_=>false
noncomputable def fst:D->D
|.tuple (n::_)=>n
|_=>.none
def Ls:kQ:=λa Q=>∃c k:Int,a=[.int c,.int k]/\0<=k/\k<1000/\∀r:Int,0<=r->r<2147483647->Q (.int r)
def Xj:kQ:=λa Q=>∃(ns:List Int)(k:Int),a=[.list (ns.map aP),.int k]/\ns.length<=63/\0<=k/\k<1000/\∀r:Int,Q (.int r)
def AJ(n:Nat)(bs:List Int):Prop:=bs.length=n/\∀b∈bs,0<=b/\b<4096
def Xk:RL:=λa Q=>∃(c:Int)(n:Nat),a=[.int c,.int n]/\n<=100/\∀bs,AJ n bs->Q (bs.map aP)
def KA(n:Nat)(a:List Str):Prop:=a.length=n/\(∀y∈a,yP y=true)/\a.Nodup
def Xl:kQ:=λb Q=>∃(bs:List Int)(n m k:Nat),b=[.list (bs.map aP),.int k,.int m]/\AJ n bs/\k+11<=n/\n<=100/\m<=8/\∀a,KA m a->Q (.tuple (a.map aV))
noncomputable def kI(f:Str×List Str):D:=.tuple [.str f.1,.tuple (f.2.map aV)]
noncomputable def dW(fs:List (Str×List Str))(an:List Str):D:=.tuple [.tuple (fs.map kI),.tuple (an.map aV)]
structure iG(fs:List (Str×List Str))(an:List Str):Prop where
 n1:1<=fs.length
 n5:fs.length<=5
 nd:KA fs.length (fs.map (·.1))
 vs:∀f∈fs,2<=f.2.length/\f.2.length<=5/\KA f.2.length f.2
 a2:2<=an.length
 a4:an.length<=4
 an:KA an.length an
 n4:fs.length<=4
structure WV(fs:List (Str×List Str))(an:List Str):Prop where
 n1:1<=fs.length
 n5:fs.length<=5
 nd:KA fs.length (fs.map (·.1))
 vs:∀f∈fs,2<=f.2.length/\f.2.length<=5/\KA f.2.length f.2
 a2:2<=an.length
 a4:an.length<=4
 an:KA an.length an
def Xm:kQ:=λa Q=>∃ns:List Int,a=[.list (ns.map aP)]/\ns.length<=63/\∀fs an,WV fs an->Q (dW fs an)
def oP{c:Type}{xs:List c}{i:Int}(d:0<=i)(e:i<xs.length):∃a,a∈xs/\L2.atI xs i=some a/\xs[i.toNat]?=some a:=by
 have b:i.toNat<xs.length:=by lia
 refine⟨xs[i.toNat],fK b,?_,aD b⟩;have:=L2.fC (xs:=xs) (j:=i.toNat) (v:=xs[i.toNat]) (aD b)
 rwa [show((i.toNat:Nat):Int)=i by lia]at this
def kH{bs:List Int}{n:Nat}{i:Int}(d:AJ n bs)(e:0<=i)(f:i<n):∃b,0<=b/\b<4096/\L2.atI (bs.map aP) i=some (.int b):=by
 obtain⟨a,h,g,_⟩:=oP (xs:=bs.map aP) (i:=i) e (by rw[aC,d.1];exact f);obtain⟨b,c,rfl⟩:=aR.mp h;exact⟨b,(d.2 b c).1,(d.2 b c).2,g⟩
def gZ(n:Nat):(eK n).length=n:=by unfold eK;simp
def iC{n k:Nat}(h:(eK n)[k]?=some x):k<n/\x=.int k:=by
 unfold eK at h;rw[aI]at h;by_cases hk:k<n
 ·rw[iK hk]at h;cases h;exact⟨hk,Fc⟩
 ·rw[eQ (by simpa using hk)]at h;cases h
def oN{b:Type}(a:List b)(j:Nat):lF a none (some (j:Int))=a.take j:=by
 unfold lF;rw[HT.sIx_none,HT.sIx_nat,FH,MY];by_cases h:j<=a.length
 ·rw[pN h]
 ·rw[C5 Ez,dA,kR Ez]
def WI{b:Type}(a:List b)(i:Nat):lF a (some (i:Int)) none=a.drop i:=by
 unfold lF;rw[HT.sIx_none,HT.sIx_nat];by_cases h:i<=a.length
 ·rw[pN h,kR (by rw[gA];lia)]
 ·rw[C5 Ez,KR (aN _),KR Ez];simp
def Xz{f:Type}(b:List f)(i j:Nat):lF b (some (i:Int)) (some (j:Int))=(b.drop i).take (j-i):=by
 unfold lF;rw[HT.sIx_nat,HT.sIx_nat];apply gY;intro k;rw[gR,gR,jO,jO];by_cases d:i<=b.length
 ·rw[pN d];by_cases e:j<=b.length
  ·rw[pN e]
  ·rw[C5 Ez];by_cases c:k<b.length-i
   ·rw[a7 c,a7 Ez]
   ·rw[a6 c];by_cases a:k<j-i
    ·rw[a7 a,eQ Ez]
    ·rw[a6 a]
 ·rw[a6 Ez];by_cases a:k<j-i
  ·rw[a7 a,eQ Ez]
  ·rw[a6 a]
def oA{c d:Type}(f:c->d)(b:List c)(lo a:Option Int):lF (b.map f) lo a=(lF b lo a).map f:=by
 unfold lF;rw[aC,rP,List.map_drop]
def UI{z:Str}(a:1<=z.cps.toList.length)(b:z.cps.toList.length<=8)(d:∀c∈z.cps.toList,c∈hW.cps.toList):yP z=true:=by
 have e:z.length=z.cps.toList.length:=by simp[ck]
 unfold yP;rw[e,a8 a,a8 b];simp only[HM,kL];intro c f;unfold Go;rw[VL];exact a8 (d c f)
def N0{z:Str}(h:yP z=true):1<=z.length/\z.length<=8/\∀c∈z.cps.toList,c∈hW.cps.toList:=by
 unfold yP at h;simp only[dM,n9,kL]at h;refine⟨h.1.1,h.1.2,λc a=>?_⟩;have:=h.2 c a;unfold Go at this;rw[VL]at this;exact b8 this
theorem nodup_range{g:Type}{n:Nat}(F:Nat->g)(inj:∀i j,i<n->j<n->F i=F j->i=j):((cK n).map F).Nodup:=by
 rw[List.Nodup,W4];have:(cK n).Nodup:=List.nodup_range;refine HL.imp_of_mem (λ{a b} d f c e=>?_) this;exact c (inj a b (by simpa using d) (by simpa using f) e)
def UF{a:List Str}(h:KA 8 a)(t:Nat){m:Nat}(d:m<=8):KA m ((a.drop t++a.take t).take m):=by
 have b:(a.drop t++a.take t).Perm a:=by
  have:(a.take t++a.drop t).Perm a:=by rw[M1]
  exact List.perm_append_comm.trans this
 refine⟨?_,λy c=>h.2.1 y (b.mem_iff.mp (dY c)),(b.nodup_iff.mpr h.2.2).sublist (rL _ _)⟩;rw[aZ,b.length_eq,h.1];lia
def LR:hW.cps.toList.Nodup:=by decide +kernel
def JH:hW.cps.toList.length=26:=by decide +kernel
noncomputable def US:List Str:=["say","ask","is","upto","yes","no","all","in"]
def Oc:KA 8 US:=⟨Fc,Ex,Ex⟩
def ZG{a:List Nat}(nd:a.Nodup){i j:Nat}{c:Nat}(d:a[i]?=some c)(e:a[j]?=some c):i=j:=by
 obtain⟨a1,a2⟩:=aE.mp d;obtain⟨b1,b⟩:=aE.mp e;exact(BG nd).mp (a2.trans b.symm)
theorem IE:∀{ys},(∀y∈ys,∃c,c∈hW.cps.toList/\y=.str ⟨#[c]⟩)->∃a:List Nat,ys=a.map (λc=>aV ⟨#[c]⟩)/\∀c∈a,c∈hW.cps.toList
|[],_=>⟨[],Fc,λc h=>by simp at h⟩
|y::ys,h=>by
 obtain⟨c,e,rfl⟩:=h y (aU ..);obtain⟨a,rfl,b⟩:=IE (ys:=ys) λy f=>h y (aO _ f);refine⟨c::a,Fc,λd hd=>?_⟩;rcases aY.mp hd with rfl | hd
 ·exact e
 ·exact b d hd
def B8(a:List Nat):(Txt.join ⟨#[]⟩ (a.map λc=>⟨#[c]⟩)).cps.toList=a:=by
 rw[LS,bM]
 induction a with
 |nil=>rfl
 |cons c a b=>rw[bE,W7,b];rfl
def PY{xs:List Int}{lo hi:Int}(h:∀x∈xs,lo<=x/\x<=hi){i:Int}(d:0<=i)(e:i<xs.length):∃m:Int,lo<=m/\m<=hi/\L2.atI (xs.map aP) i=some (.int m):=by
 obtain⟨a,g,f,_⟩:=oP (xs:=xs.map aP) (i:=i) d (by rw[aC];exact e);obtain⟨b,c,rfl⟩:=aR.mp g;exact⟨b,(h b c).1,(h b c).2,f⟩
def WP{a:List Str}{k:Nat}(h:k<a.length):L2.atI (a.map aV) (k:Int)=some (.str a[k]):=L2.fC (by rw[aI,aD h];rfl)
noncomputable def XA(f:Str×List Str)(d:D):Bool:=match d with | .none=>true | .str z=>decide (z∈f.2) | _=>false
noncomputable def JO(an:List Str)(d:D):Bool:=match d with | .str z=>decide (z∈an) | _=>false
structure Cd(d:D):Prop where
 lay:d.canLay0=true
 dep:d.depth<=60
structure Th(n m:Nat)(d:D):Prop where
 bulk:d.bulk<=n
 fit:d.leavesShort 110=true
 shw:d.showable=true
 nodict:d.hasDict=false
 depth:d.depth<=m
 lay:d.canLay0=true
theorem tG{n m:Nat}:∀{ts:List D},(∀t∈ts,Th n m t)->C9 ts<=ts.length*(n+1)/\KF 110 ts=true/\OW ts=true/\iZ ts=false/\dJ ts<=m/\dO ts=true
|[],_=>⟨cI _,Fc,Fc,Fc,cI _,Fc⟩
|t::ts,h=>by
 have a:=h t (aU ..);obtain⟨b1,b,c,d,e,f⟩:=tG (ts:=ts) λx g=>h x (aO _ g);refine⟨?_,?_,?_,?_,?_,?_⟩
 ·show t.bulk+1+C9 ts<=(ts.length+1)*(n+1);have:=a.bulk;rw[aNo,aNn];lia
 ·show(t.leavesShort 110&&KF 110 ts)=true;rw[a.fit,b];rfl
 ·show(t.showable&&OW ts)=true;rw[a.shw,c];rfl
 ·show(t.hasDict||iZ ts)=false;rw[a.nodict,d];rfl
 ·show max t.depth (dJ ts)<=m;exact Nat.max_le.mpr ⟨a.depth,e⟩
 ·show(t.canLay0&&dO ts)=true;rw[a.lay,f];rfl
def aC4(n m k:Nat){N M:Nat}{a:List D}(h:∀t∈a,Th n m t)(f:a.length<=k)(j:k*(n+1)<=N)(i:m+1<=M):Th N M (.tuple a):=by
 obtain⟨b1,b,c,d,g,e⟩:=tG h;have:a.length*(n+1)<=k*(n+1):=wK _ f;exact⟨by show C9 a<=N;lia,b,c,d,by show dJ a+1<=M;lia,e⟩
def M9{n m:Nat}:Th n m .none:=⟨cI _,Fc,Fc,Fc,cI _,Fc⟩
def HX{z:Str}(b:∀c∈z.cps.toList,c<1000):aCx z=true:=by
 unfold aCx;rw[<- Array.all_toList,kL];intro c a;have:=b c a;exact a8 Ez
def aC5{n m:Nat}{z:Str}(h:z.length<=n)(a:∀c∈z.cps.toList,c<1000):Th n m (.str z):=by
 refine⟨h,?_,Fc,Fc,cI _,HX a⟩;show(z.cps.toList.all λc=>decide (c<16^8))=true;rw[kL];intro c b;have:=a c b;exact a8 Ez
def QF{c:Nat}(h:c∈hW.cps.toList):c<128:=by
 have:∀c∈hW.cps.toList,c<128:=by decide +kernel
 exact this c h
def JE{y:Str}(h:yP y=true):y.length<=8/\∀c∈y.cps.toList,c<128:=⟨(N0 h).2.1,λc a=>QF ((N0 h).2.2 c a)⟩
def nX(h:yP y=true){n m:Nat}(b:8<=n):Th n m (.str y):=aC5 (bG (JE h).1 b) λc a=>by have:=(JE h).2 c a;lia
def wR{a:List Str}(h:∀y∈a,yP y=true){n m:Nat}(b:8<=n):∀t∈a.map aV,Th n m t:=λt c=>by
 obtain⟨y,d,rfl⟩:=aR.mp c;exact nX (h y d) b
def OP{n m:Nat}:∀t∈([]:List D),Th n m t:=λt h=>by simp at h
def xT{n m:Nat}(h:Th n m a)(hs:∀t∈ts,Th n m t):∀t∈a::ts,Th n m t:=λt ht=>by
 rcases aY.mp ht with rfl | ht
 ·exact h
 ·exact hs t ht
def aAw{n m:Nat}{a bs:List D}(h:∀t∈a,Th n m t)(hs:∀t∈bs,Th n m t):∀t∈a++bs,Th n m t:=λt b=>(dZ.mp b).elim (h t) (hs t)
def OJ{c:Type}(a:List c)(lo b:Option Int):(lF a lo b).length<=a.length:=by
 unfold lF;rw[aZ,gA];lia
def Th.cd{n m:Nat}(h:Th n m d)(a:m<=60):Cd d:=⟨h.lay,bG h.depth a⟩
section
variable{fs:List (Str×List Str)}{an:List Str}
def iG.name(F:iG fs an){f:Str×List Str}(h:f∈fs):yP f.1=true:=F.nd.2.1 _ (aR.mpr ⟨f,h,Fc⟩)
def iG.vals(F:iG fs an){f:Str×List Str}(h:f∈fs):∀y∈f.2,yP y=true:=(F.vs f h).2.2.2.1
end
def JU{Q:D->Prop}(a:vU x (.tuple ts))(b:Q (.bool (A7 x (.tuple ts)))):Jh x (.tuple ts) Q:=by
 cases x<;>exact⟨a,b⟩
def xS(d:D)(a:List Str):((a.map aV).any λz=>dU z d)=JO a d:=by
 induction a with
 |nil=>cases d<;>rfl
 |cons y a b=>
  rw[bE,List.any_cons,b]
  cases d with
  |str z=>
   show((y==z)||decide (z∈a))=decide (z∈y::a);rw[mV];simp only[uR,fk,n9,aY];exact⟨λh=>h.imp jp id,λh=>h.imp jp id⟩
  |_=>rfl
def AZ{ys:List Str}(h:∀y∈ys,yP y=true)(hd:Cd d):vU d (.tuple (ys.map aV)):=by
 obtain⟨_,_,_,_,b,a⟩:=tG (wR h (aN 8) (m:=0));exact⟨a,hd.lay,by have:=hd.dep;lia⟩
def LG{a:List Str}(h:∀y∈a,yP y=true){d:D}(hd:Cd d):vU d (.tuple (a.map aV++[.none])):=by
 obtain⟨_,_,_,_,c,b⟩:=tG (aAw (wR h (aN 8) (m:=0)) (xT M9 OP));exact⟨b,hd.lay,by have:=hd.dep;lia⟩
theorem A8:∀{a:List Str}{z}{m:Nat},m<a.idxOf z->a[m]?≠some z
|[],z,m,h=>by simp at h
|y::a,z,m,h=>by
 rw[List.idxOf_cons]at h;by_cases e:y=z
 ·subst e;simp at h
 ·have b:(y==z)=false:=by simpa using e
  rw[b]at h;simp only[cond_false]at h
  cases m with
  |zero=>simpa using e
  |succ m=>
   rw[KH];exact A8 Ez
def AW{d:ET}{c:List Sl}{i j:Nat}(h:∀q:D->Prop,q (.tuple [a,b])->d c q)(k:u DT ((c.set i (.val a)).set j (.val b))):gI (YR i j d) u DT c:=h _ ⟨a,b,Fc,k⟩
noncomputable def lO(fs:List (Str×List Str))(d:D):Bool:=match d with | .tuple ts=>decide (ts.length=fs.length)&&(fs.zip ts).all (λp=>XA p.1 p.2) | _=>false
def Xn:kQ:=λb Q=>∃(fs:List (Str×List Str))(an:List Str)(bs:List Int)(n:Nat),b=[dW fs an,.list (bs.map aP)]/\iG fs an/\AJ n bs/\8<=n/\∀a,lO fs (.tuple a)=true->Q (.tuple a)
def Xo:kQ:=λc Q=>∃(fs:List (Str×List Str))(an:List Str)(bs:List Int)(n:Nat),c=[dW fs an,.list (bs.map aP)]/\iG fs an/\AJ n bs/\8<=n/\∀b a,lO fs (.tuple b)=true->a∈an->Q (.tuple [.tuple b,.str a])
section
variable{fs:List (Str×List Str)}
def uG{a:List D}(h:lO fs (.tuple a)=true):a.length=fs.length/\∀(k:Nat) f c,fs[k]?=some f->a[k]?=some c->XA f c=true:=by
 unfold lO at h;simp only[dM,n9,kL]at h;refine⟨h.1,λk f c b d=>?_⟩;exact h.2 (f,c) (aS ((qP (z:=(f,c))).mpr ⟨b,d⟩))
def aAq{a:List D}(e:a.length=fs.length)(h:∀(k:Nat) f c,fs[k]?=some f->a[k]?=some c->XA f c=true):lO fs (.tuple a)=true:=by
 unfold lO;simp only[dM,n9,kL];refine⟨e,λp g=>?_⟩;obtain⟨k,hk⟩:=bP g;obtain⟨b,d⟩:=qP.mp hk;exact h k p.1 p.2 b d
end
noncomputable def dP(r:List D×Str):D:=.tuple [.tuple r.1,.str r.2]
def WT(fs:List (Str×List Str))(an:List Str)(r:List D×Str):Prop:=lO fs (.tuple r.1)=true/\r.2∈an
def gF(fs:List (Str×List Str))(an:List Str)(a:List (List D×Str)):Prop:=∀r∈a,WT fs an r
def Xp:kQ:=λb Q=>∃(ns:List Int)(fs:List (Str×List Str))(an:List Str)(n:Nat),b=[.list (ns.map aP),dW fs an,.int n]/\ns.length<=63/\iG fs an/\n<=60/\∀a,gF fs an a->a.length=n->Q (.list (a.map dP))
noncomputable def Fo(f:Str×List Str)(k v:D):Bool:=match k,v with
|.str kk,.str z=>decide (z∈f.2)&&(decide (kk="is")||(decide (kk="upto")&&decide (f.2.idxOf z+1<f.2.length)))
|_,_=>false
noncomputable def Gq(n:D)(f:Str×List Str):Bool:=match n with | .str z=>decide (f.1=z) | _=>false
noncomputable def QJ(fs:List (Str×List Str))(d:D):Bool:=match d with
|.tuple [k,n,v]=>fs.any λf=>Gq n f&&Fo f k v
|_=>false
noncomputable def EB(k:Str)(f:Str×List Str)(z:Str):D:=.tuple [.str k,.str f.1,.str z]
noncomputable def pR(f:Str×List Str):List Str:=if f.2.length=2 then f.2.take 1 else f.2
noncomputable def BV(f:Str×List Str):List Str:=(f.2.drop 1).take (f.2.length-3)
noncomputable def IN(f:Str×List Str):List D:=(pR f).map (EB "is" f)++(BV f).map (EB "upto" f)
noncomputable def eO(fs:List (Str×List Str)):List D:=(fs.map IN).flatten
def Wd:RL:=λa Q=>∃(fs:List (Str×List Str))(an:List Str),a=[dW fs an]/\iG fs an/\Q (eO fs)
def LZ{a:List Str}{j:Nat}(h:a[j]?=some z):a.idxOf z<=j:=by
 by_cases q:a.idxOf z<=j
 ·exact q
 ·exact a9 h (A8 Ez)
def UX{f:Str×List Str}(h:z∈BV f):z∈f.2/\f.2.idxOf z+1<f.2.length:=by
 unfold BV at h;have b:z∈f.2:=OY (dY h);refine⟨b,?_⟩;obtain⟨i,a⟩:=bP h;have c:=(aE.mp a).1;rw[aZ,gA]at c;rw[gR,a7 Ez,jO]at a;have:=LZ a;lia
def GE{fs}(a:f∈fs)(h:Fo f (.str k) (.str z)=true):QJ fs (EB k f z)=true:=by
 show(fs.any λg=>Gq (.str f.1) g&&Fo g (.str k) (.str z))=true;rw[sT];refine⟨f,a,?_⟩;show(decide (f.1=f.1)&&Fo f (.str k) (.str z))=true;rw[h,a8 rfl];rfl
def wD{fs}(h:d∈eO fs):∃f∈fs,(∃z∈f.2,d=EB "is" f z)\/(∃z,z∈f.2/\f.2.idxOf z+1<f.2.length/\d=EB "upto" f z):=by
 unfold eO at h;obtain⟨l,c,hd⟩:=XO.mp h;obtain⟨f,b,rfl⟩:=aR.mp c;refine⟨f,b,?_⟩;unfold IN at hd;rcases dZ.mp hd with q | q
 ·obtain⟨z,a,rfl⟩:=aR.mp q;refine .inl ⟨z,?_,Fc⟩;unfold pR at a;split at a
  ·exact dY a
  ·exact a
 ·obtain⟨z,a,rfl⟩:=aR.mp q;exact .inr ⟨z,(UX a).1,(UX a).2,Fc⟩
def MG{fs}(h:d∈eO fs):QJ fs d=true:=by
 obtain⟨f,b,⟨z,a,rfl⟩ | ⟨z,a,c,rfl⟩⟩:=wD h
 ·refine GE b ?_;show(decide (z∈f.2)&&(decide (("is":Str)="is")||_))=true;rw[a8 a];rfl
 ·refine GE b ?_;show(decide (z∈f.2)&&(decide (("upto":Str)="is")||(decide (("upto":Str)="upto")&&decide (f.2.idxOf z+1<f.2.length))))=true;rw[a8 a,a8 c,a8 (rfl:("upto":Str)="upto")];simp
def Qf:yP "is"=true:=by decide +kernel
def ZI:yP "upto"=true:=by decide +kernel
def R6{fs}(F:iG fs an)(hk:yP k=true){f:Str×List Str}(a:f∈fs)(b:z∈f.2):Th 27 1 (EB k f z):=
 aC4 8 0 3 (xT (nX hk (aN _)) (xT (nX (F.name a) (aN _)) (xT (nX (F.vals a z b) (aN _)) OP))) Fb Ey Ey
def DY{fs}(F:iG fs an):∀d∈eO fs,Th 27 1 d:=λd h=>by
 obtain⟨f,b,⟨z,a,rfl⟩ | ⟨z,a,c,rfl⟩⟩:=wD h
 ·exact R6 F Qf b a
 ·exact R6 F ZI b a
theorem iY{fs}(F:iG fs an):∀a:List (Str×List Str),(∀g∈a,g∈fs)->(eO a).length<=7*a.length
|[],_=>aN _
|g::a,h=>by
 have d:=iY F a λx b=>h x (aO _ b);obtain⟨_,e,_⟩:=F.vs g (h g (aU ..));show((IN g::a.map IN).flatten).length<=_;rw[W7,bH]
 have c:(IN g).length<=7:=by
  unfold IN pR BV;rw[bH,aC,aC,aZ,gA];split
  ·rw[aZ];lia
  ·lia
 have:(eO a).length=((a.map IN).flatten).length:=rfl;rw[dB];lia
def UW{l:List Str}{j:Nat}(b:j<l.length):((l.take (j+1)).drop 1).take (l.length-3)=((l.take j).drop 1).take (l.length-3)++(if 0<j/\j+2<l.length then[l[j]]else[]):=by
 have e:l.take (j+1)=l.take j++[l[j]]:=by rw[cU,aD b];rfl
 rw[e];have c:(l.take j).length=j:=by rw[aZ];lia
 cases j with
 |zero=>simp
 |succ i=>
  rw[List.drop_append_of_le_length Ez,List.take_append];congr 1;have hd:((l.take (i+1)).drop 1).length=i:=by rw[gA,c];lia
  rw[hd];by_cases a:i+1+2<l.length
  ·rw[a7 ⟨Ez,a⟩];have:l.length-3-i=(l.length-4-i)+1:=by lia
   rw[this,List.take_succ_cons,List.take_nil]
  ·rw[a6 λh=>a h.2];have:l.length-3-i=0:=by lia
   rw[this];rfl
def UT{fs}(F:iG fs an){f g:Str×List Str}(h:f∈fs)(k:g∈fs)(e:g.1=f.1):g=f:=by
 obtain⟨i,d⟩:=bP h;obtain⟨j,a⟩:=bP k;have b:(fs.map (·.1))[i]?=some f.1:=by rw[aI,d];rfl
 have c:(fs.map (·.1))[j]?=some f.1:=by rw[aI,a,W1,e]
 obtain⟨l,m⟩:=aE.mp b;obtain⟨o,n⟩:=aE.mp c;have:i=j:=(W5 l F.nd.2.2).mp (b.trans c.symm);subst this;rw[d]at a;exact(c5 a).symm
def uU{a:List Str}(e:∀y∈a,yP y=true)(f:z∈a):LH (a.map aV) (.str z) (a.idxOf z):=by
 have c:a.idxOf z<a.length:=gB.mpr f;obtain⟨_,_,_,_,i,g⟩:=tG (wR e (aN 8) (m:=0));refine⟨g,(nX (e z f) (aN 8) (m:=0)).lay,Ez,⟨.str z,?_,?_⟩,λm t h b=>?_⟩
 ·rw[aI,aD c,jN c];rfl
 ·show(z==z)=true;simp
 ·rw[aI]at b
  cases d:a[m]? with
  |none=>rw[d]at b;cases b
  |some y=>
   rw[d]at b;cases b;show(y==z)=false
   have:y≠z:=λq=>by
    subst q;exact A8 h d
   simpa using this
inductive Tr | say (a:Str) | ask (k n v s:Str) (y m:Tr)
noncomputable def jG:Tr->D
|.say a=>.tuple [.str "say",.str a]
|.ask k n v s y m=>.tuple [.str "ask",.tuple [.str k,.str n,.str v],.str s,jG y,jG m]
noncomputable def Tr.dep:Tr->Nat
|.say _=>0
|.ask _ _ _ _ y m=>max y.dep m.dep+1
noncomputable def Tr.kn:Tr->Nat
|.say _=>0
|.ask _ _ _ _ y m=>y.kn+m.kn+1
noncomputable def Tr.nodes:Tr->Nat
|.say _=>1
|.ask _ _ _ _ y m=>y.nodes+m.nodes+1
def lQ(fs:List (Str×List Str))(an:List Str):Tr->Prop
|.say a=>a∈an
|.ask k n v s y m=>QJ fs (.tuple [.str k,.str n,.str v])=true/\(s="yes"\/s="no")/\lQ fs an y/\lQ fs an m
def A5{fs}{k n v:Str}(h:QJ fs (.tuple [.str k,.str n,.str v])=true):∃f∈fs,f.1=n/\v∈f.2/\(k="is"\/(k="upto"/\f.2.idxOf v+1<f.2.length)):=by
 obtain⟨f,c,b⟩:=sT.mp (h:(fs.any λf=>Gq (.str n) f&&Fo f (.str k) (.str v))=true);rw[dM]at b;have a:(decide (v∈f.2)&&(decide (k="is")||(decide (k="upto")&&decide (f.2.idxOf v+1<f.2.length))))=true:=b.2;simp only[dM,uR,n9]at a;exact⟨f,c,b8 b.1,a.1,a.2⟩
def UH:yP "yes"=true:=by decide +kernel
def La:yP "no"=true:=by decide +kernel
theorem Tr.nodes_kn:∀t:Tr,t.nodes=2*t.kn+1
|.say _=>rfl
|.ask _ _ _ _ y m=>by
 show y.nodes+m.nodes+1=2*(y.kn+m.kn+1)+1;have:=nodes_kn y;have:=nodes_kn m;lia
theorem Tr.kn_dep:∀t:Tr,t.kn<2^t.dep
|.say _=>by show 0<2^0;decide
|.ask _ _ _ _ y m=>by
 have:=kn_dep y;have:=kn_dep m;show y.kn+m.kn+1<2^(max y.dep m.dep+1);have a:2^y.dep<=2^(max y.dep m.dep):=lR Ey (Nat.le_max_left ..);have b:2^m.dep<=2^(max y.dep m.dep):=lR Ey (Nat.le_max_right ..);rw[uK];lia
def Wl:kQ:=λa Q=>a=[.dict []]/\∀n:Int,0<=n->n<4096->Q (.int n)
def Wm:kQ:=λa Q=>∃(fs:List (Str×List Str))(an:List Str)(n:Int),a=[dW fs an,.int n]/\iG fs an/\0<=n/\∀k nm v,QJ fs (.tuple [.str k,.str nm,.str v])=true->Q (.tuple [.str k,.str nm,.str v])
def Tr.nodes_pos(t:Tr):1<=t.nodes:=by rw[t.nodes_kn];lia
def qW{c:yA}(P:Nat->List Sl->Prop)(e:Nat)(f:P e σ)
  (hs:∀n a,P n a->∃b:Bool,(∀q:Bool->Prop,q b->c a q)/\(if b=true then tb { DT with nx:=λd=>∃m,m<n/\P m d,ct:=λd=>∃m,m<n/\P m d,bk:=u DT } a else u DT a)):gI (SK c tb) u DT σ:=
 ⟨P,⟨e,f⟩,λn a g=>let ⟨_,h1,h2⟩:=hs n a g;h1 _ h2⟩
def ZT{e:Type}(b:List e):b=[]\/∃c w,b=c++[w]:=by
 induction b with
 |nil=>exact .inl Fc
 |cons a b d=>
  rcases d with rfl | ⟨c,w,rfl⟩
  ·exact .inr ⟨[],a,Fc⟩
  ·exact .inr ⟨a::c,w,Fc⟩
def YN{u:sZ}{b:List Sl}{i:Nat}(a:List D)(d:D)(h:b[i]?=some (.own (a++[d])))(k:g d (b.set i (.own a)) (u DT)):gI (Kb i g) u DT b:=⟨a,d,h,k⟩
def aAo(a:List Str)(h:2<=a.length):lF a (some 1) (some (-2))=(a.drop 1).take (a.length-3):=by
 unfold lF
 have b:HT.sIx a.length 0 (some 1)=1:=by
  show(if(1:Int)<0 then((1:Int)+(a.length:Int)).toNat else min (1:Int).toNat a.length)=_;rw[a6 Ey];show min 1 a.length=1;lia
 have c:HT.sIx a.length a.length (some (-2))=a.length-2:=by
  show(if(-2:Int)<0 then((-2:Int)+(a.length:Int)).toNat else min (-2:Int).toNat a.length)=_;rw[a7 Ey];lia
 rw[b,c];congr 1
def aAn(a:List Str)(h:2<=a.length):lF a none (some 1)=a.take 1:=oN a 1
def We:RL:=λa Q=>∃f:Str×List Str,a=[kI f]/\2<=f.2.length/\f.2.length<=5/\Q (IN f)
abbrev Rw:=List D×Str
noncomputable def rH(b:List Rw)(a:Str):Nat:=b.countP λr=>decide (r.2=a)
noncomputable def kB(an:List Str)(b:List Rw):List Int:=an.map λa=>(rH b a:Int)
noncomputable def Y1(ss a:List Rw):Nat:=(ss.map λr=>a.countP λo=>decide (o.2≠r.2)).sum
noncomputable def U2(a b:Nat):D:=.tuple [.int ((a / a.gcd b:Nat):Int),.int ((b / a.gcd b:Nat):Int)]
def xV(an:List Str)(c:List Rw)(a:Str):Prop:=∃k,an[k]?=some a/\(∀(j:Nat) b,an[j]?=some b->rH c b<=rH c a)/\∀(j:Nat) b,j<k->an[j]?=some b->rH c b<rH c a
def Ke:kQ:=λc Q=>∃a b:Nat,c=[.int a,.int b]/\0<b/\a<2^190/\b<2^190/\Q (U2 a b)
def Ph:RL:=λb Q=>∃(fs:List (Str×List Str))(an:List Str)(a:List Rw),b=[dW fs an,.list (a.map dP)]/\iG fs an/\gF fs an a/\a.length<=60/\Q ((kB an a).map aP)
def Kc:kQ:=λc Q=>∃(fs:List (Str×List Str))(an:List Str)(b:List Rw),c=[dW fs an,.list (b.map dP)]/\iG fs an/\gF fs an b/\b.length<=60/\∀a,xV an b a->Q (.str a)
def Pi:kQ:=λb Q=>∃(fs:List (Str×List Str))(an:List Str)(a:List Rw),b=[dW fs an,.list (a.map dP)]/\iG fs an/\gF fs an a/\a.length<=60/\Q (U2 (Y1 a a) (max 1 a.length))
theorem LA:∀(ss a:List Rw),Y1 ss a<=ss.length*a.length
|[],a=>by show 0<=_;lia
|s::ss,a=>by
 have:=LA ss a;have b:a.countP (λo=>decide (o.2≠s.2))<=a.length:=M4;show a.countP (λo=>decide (o.2≠s.2))+Y1 ss a<=(ss.length+1)*a.length;rw[aNo,aNn];lia
def Xy(b:List Rw)(a:Str):rH b a<=b.length:=M4
theorem JT{a:Type}[DecidableEq a]:∀(l:List a)(x:a),x∈l->∃k:Nat,l[k]?=some x/\∀j:Nat,j<k->l[j]?≠some x
|y::l,x,h=>by
 by_cases e:y=x
 ·exact⟨0,by rw[e];rfl,λj d=>by lia⟩
 ·obtain⟨k,b,c⟩:=JT l x ((aY.mp h).resolve_left λz=>e z.symm);refine⟨k+1,b,λj d=>?_⟩
  cases j with
  |zero=>exactλz=>e (c5 z)
  |succ j=>exact c j Ez
noncomputable def aNt(a:Str)(x:D):Bool:=match x with | .tuple [_,.str b]=>!decide (b=a) | _=>false
noncomputable def BQ(f:Str×List Str)(k v st:Str)(c:D):Str:=match c with
|.none=>st
|.str z=>if k="is" then(if z=v then "yes" else "no")else if f.2.idxOf z<=f.2.idxOf v then "yes" else "no"
|_=>""
noncomputable def fP(fs:List (Str×List Str))(k n v st:Str)(a:List D):Str:=match fs[(fs.map (·.1)).idxOf n]?,a[(fs.map (·.1)).idxOf n]? with
|some f,some c=>BQ f k v st c
|_,_=>""
def Lr:kQ:=λb Q=>∃(fs:List (Str×List Str))(an:List Str)(k n v st:Str)(a:List D),b=[dW fs an,.tuple [.str k,.str n,.str v],.str st,.tuple a]/\iG fs an/\QJ fs (.tuple [.str k,.str n,.str v])=true/\(st="yes"\/st="no")/\lO fs (.tuple a)=true/\Q (.str (fP fs k n v st a))
def Wo:kQ:=Lr
noncomputable def nT(fs:List (Str×List Str))(k n v st:Str)(a:List (List D×Str))(w:Str)(x:D):Bool:=match x with
|.int i=>match L2.atI a i with | some r=>decide (fP fs k n v st r.1=w) | none=>false
|_=>false
noncomputable def iO(fs:List (Str×List Str))(k n v st:Str)(a:List (List D×Str))(w:Str):List D:=(eK a.length).filter (nT fs k n v st a w)
def Wj:Gc:=λb Q=>∃(fs:List (Str×List Str))(an:List Str)(k n v st:Str)(a:List (List D×Str)),b=[dW fs an,.tuple [.str k,.str n,.str v],.str st,.list (a.map dP)]/\iG fs an/\QJ fs (.tuple [.str k,.str n,.str v])=true/\(st="yes"\/st="no")/\gF fs an a/\a.length<=60/\Q (iO fs k n v st a "yes") (iO fs k n v st a "no")
def N1{fs:List (Str×List Str)}(F:iG fs an){j:Nat}{f:Str×List Str}(h:fs[j]?=some f):(fs.map (·.1)).idxOf f.1=j:=by
 have d:f.1∈fs.map (·.1):=aR.mpr ⟨f,aS h,Fc⟩;have a:(fs.map (·.1)).idxOf f.1<(fs.map (·.1)).length:=gB.mpr d;have b:(fs.map (·.1))[(fs.map (·.1)).idxOf f.1]?=some f.1:=by rw[aD a,jN a]
 have c:(fs.map (·.1))[j]?=some f.1:=by rw[aI,h];rfl
 exact(W5 a F.nd.2.2).mp (b.trans c.symm)
def tT{fs}(F:iG fs an){st}{j:Nat}{f:Str×List Str}(a:fs[j]?=some f)(b:cs[j]?=some c)(d:f.1=n):fP fs k n v st cs=BQ f k v st c:=by
 subst d;unfold fP;rw[N1 F a,a,b]
noncomputable def Ip(fs:List (Str×List Str))(k n v st:Str)(x:D):D:=match x with | .tuple [.tuple cs,_]=>.str (fP fs k n v st cs) | _=>.none
def IV{c:ET}{b:vO}{a:List Sl}{i:Nat}{ts us:List D}(d:a[i]?=some (.own ts))(e:ts.length+us.length<=100000)(h:∀q:D->Prop,q (.list us)->c a q)(k:b.nx (a.set i (.own (ts++us)))):SN i c b a:=⟨ts,d,h _ ⟨us,Fc,e,k⟩⟩
def yO{fs st}{j:Nat}{r:List D×Str}(h:rs[j]?=some r):nT fs k n v st rs w (.int (j:Int))=decide (fP fs k n v st r.1=w):=by
 show(match L2.atI rs (j:Int)with | some r=>decide (fP fs k n v st r.1=w) | none=>false)=_;rw[L2.fC h]
noncomputable def CB(k v:Str)(f:Str×List Str):List Str:=if k="is" then[v]else f.2.take (f.2.idxOf v+1)
def Wi:kQ:=λa Q=>∃(k n v:Str)(f:Str×List Str),a=[.tuple [.str k,.str n,.str v],kI f]/\(∀y∈f.2,yP y=true)/\v∈f.2/\f.2.length<=5/\Q (.tuple ((CB k v f).map aV))
def QO{f:Str×List Str}{k v st z:Str}(d:z∈f.2):(if JO (CB k v f) (.str z)=true then("yes":Str)else "no")=BQ f k v st (.str z):=by
 show(if decide (z∈CB k v f)=true then("yes":Str)else "no")=if k="is" then(if z=v then("yes":Str)else "no")else if f.2.idxOf z<=f.2.idxOf v then("yes":Str)else "no";unfold CB;by_cases hk:k="is"
 ·rw[a7 hk,a7 hk];by_cases e:z=v
  ·rw[a7 e,a7 (a8 (dF.mpr e))]
  ·rw[a6 e,a6 (λq=>e (dF.mp (b8 q)))]
 ·rw[a6 hk,a6 hk];have b:f.2.idxOf z<f.2.length:=gB.mpr d;by_cases e:f.2.idxOf z<=f.2.idxOf v
  ·rw[a7 e,a7];refine a8 (aS (i:=f.2.idxOf z) ?_);rw[gR,a7 Ez,aD b,jN b]
  ·rw[a6 e,a6];intro q;obtain⟨i,a⟩:=bP (b8 q);have c:=(aE.mp a).1;rw[aZ]at c;rw[gR,a7 Ez]at a;have:=LZ a;lia
def JQ{f:Str×List Str}(a:v∈f.2)(h:y∈CB k v f):y∈f.2:=by
 unfold CB at h;split at h
 ·rw[dF.mp h];exact a
 ·exact dY h
noncomputable def vJ(k v st:Str)(f:Str×List Str):List D:=(CB k v f).map aV++(if st="yes" then[vD]else[])
def Wh:kQ:=λa Q=>∃(k n v st:Str)(f:Str×List Str),a=[.tuple [.str k,.str n,.str v],.str st,kI f]/\(∀y∈f.2,yP y=true)/\v∈f.2/\f.2.length<=5/\Q (.tuple (vJ k v st f))
def Wg:kQ:=λa Q=>∃(fs:List (Str×List Str))(an:List Str)(k n v:Str)(f:Str×List Str)(j:Nat),a=[dW fs an,.tuple [.str k,.str n,.str v]]/\iG fs an/\fs[j]?=some f/\f.1=n/\Q (.int (j:Int))
def VQ{f:Str×List Str}(h:f.2.length<=5):(CB k v f).length<=5:=by
 unfold CB;split
 ·show 1<=5;decide
 ·rw[aZ];lia
def VJ{k v st:Str}(a:st="yes"\/st="no")(b:XA f c=true):(if A7 c (.tuple (vJ k v st f))=true then("yes":Str)else "no")=BQ f k v st c:=by
 have e:A7 c (.tuple (vJ k v st f))=(JO (CB k v f) c||((if st="yes" then[vD]else[]).any λz=>dU z c)):=by
  show((vJ k v st f).any λz=>dU z c)=_;unfold vJ;rw[List.any_append,xS]
 cases c with
 |none=>
  rw[e];rcases a with rfl | rfl<;>rfl
 |str z=>
  have g:z∈f.2:=b8 b
  have d:((if st="yes" then[vD]else[]).any λx=>dU x (.str z))=false:=by
   rcases a with rfl | rfl<;>rfl
  rw[e,d,xY];exact QO g
 |_=>cases b
def T6{st}{f:Str×List Str}(b:∀y∈f.2,yP y=true)(c:v∈f.2)(hd:Cd d):vU d (.tuple (vJ k v st f)):=by
 unfold vJ;split
 ·exact LG (λy a=>b y (JQ c a)) hd
 ·rw[fS];exact AZ (λy a=>b y (JQ c a)) hd
noncomputable def Fy(w:Str)(x:D):Bool:=match x with | .tuple [_,.str s]=>decide (s=w) | _=>false
noncomputable def Z3(ss:List Str)(w:Str)(x:D):Bool:=match x with | .int i=>(match L2.atI ss i with | some s=>decide (s=w) | none=>false) | _=>false
noncomputable def Gx(ss:List Str)(x:D):D:=match x with | .int i=>(match L2.atI ss i with | some s=>.str s | none=>.none) | _=>.none
noncomputable def Hq(x:D):D:=match x with | .tuple [a,_]=>a | _=>x
def EO(ss:List Str):zU (ss.map aV)=(eK ss.length).map λx=>.tuple [x,Gx ss x]:=by
 apply gY;intro i
 cases h:ss[i]? with
 |none=>
  have b:=G9.mp h;rw[eQ (by rw[rF,aC];exact b),eQ (by rw[aC,gZ];exact b)]
 |some s=>
  have b:=(aE.mp h).1;rw[yY (a:=.str s) (by rw[aI,h];rfl),aI];unfold eK;rw[aI,iK b];show _=some (gE [.int (i:Int),match L2.atI ss (i:Int)with | some s=>.str s | none=>.none]);rw[L2.fC h]
def JX(ss:List Str)(w:Str):((zU (ss.map aV)).filter (Fy w)).map Hq=(eK ss.length).filter (Z3 ss w):=by
 rw[EO,uP,bM];have a:(Hq∘λx=>gE [x,Gx ss x])=id:=by funext x;rfl
 have b:(Fy w∘λx=>gE [x,Gx ss x])=Z3 ss w:=by
  funext x
  cases x with
  |int i=>
   show Fy w (.tuple [.int i,(match L2.atI ss i with | some s=>aV s | none=>.none)])=(match L2.atI ss i with | some s=>decide (s=w) | none=>false);cases L2.atI ss i<;>rfl
  |_=>rfl
 rw[a,b,nH]
def Wk:RL:=λa Q=>∃(w:Str)(ss:List Str),a=[.str w,.list (ss.map aV)]/\ss.length<=60/\Q ((eK ss.length).filter (Z3 ss w))
def NI{fs st}{a:List (List D×Str)}(w:Str):(eK (a.map λr=>fP fs k n v st r.1).length).filter (Z3 (a.map λr=>fP fs k n v st r.1) w)=iO fs k n v st a w:=by
 unfold iO;rw[aC];apply jB;intro x e;obtain⟨j,d⟩:=bP e;obtain⟨b,rfl⟩:=iC d;have c:a[j]?=some a[j]:=aD b;rw[yO c];show(match L2.atI (a.map λr=>fP fs k n v st r.1) (j:Int)with | some s=>decide (s=w) | none=>false)=_;rw[L2.fC (v:=fP fs k n v st a[j].1) (by rw[aI,c];rfl)]
noncomputable def WJ(b:List Rw)(x:D):D:=match x with | .str a=>.int ((rH b a:Nat):Int) | _=>.none
def K0(b:List Rw)(a:Str):((b.map λr=>aV r.2).countP λt=>dU t (.str a))=rH b a:=by
 rw[aBa];unfold rH;congr 1
def U6:∀{ys:List Str},(∀y∈ys,yP y=true)->dO (ys.map aV)=true/\dJ (ys.map aV)<=0:=λh=>by
 obtain⟨_,_,_,_,a,b⟩:=tG (wR h (aN 8) (m:=0));exact⟨b,a⟩
theorem JJ:∀ns:List Int,dO (ns.map aP)=true/\dJ (ns.map aP)=0
|[]=>⟨Fc,Fc⟩
|n::ns=>by
 have:=JJ ns;refine⟨?_,?_⟩
 ·show(true&&dO (ns.map aP))=true;rw[this.1];rfl
 ·show max 0 (dJ (ns.map aP))=0;rw[this.2];rfl
def P7{ns:List Int}{m:Int}{j:Nat}(h:ns[j]?=some m)(b:∀i:Nat,i<j->ns[i]?≠some m):LH (ns.map aP) (.int m) j:=by
 obtain⟨c,d⟩:=JJ ns;refine⟨c,Fc,by rw[d];lia,⟨.int m,by rw[aI,h];rfl,?_⟩,λi t f a=>?_⟩
 ·show(m==m)=true;simp
 ·rw[aI]at a
  cases e:ns[i]? with
  |none=>rw[e]at a;cases a
  |some n=>
   rw[e]at a;cases a;show(n==m)=false;have:n≠m:=λz=>b i f (by rw[e,z]);simpa using this
def Pj:kQ:=λc Q=>∃a b:Nat,c=[.int a,.int b]/\Q (.int ((a.gcd b:Nat):Int))
def XZ{an:List Str}(k:an.Nodup)(g:Str->Int)(h:b∈an):(an.map λa=>if b=a then g a else 0).sum=g b:=by
 induction an with
 |nil=>simp at h
 |cons a an m=>
  rw[bE,iU];obtain⟨f,d⟩:=mU.mp k;by_cases e:b=a
  ·subst e
   have z:(an.map λa=>if b=a then g a else 0).sum=0:=by
    have:∀l:List Str,b∉l->(l.map λa=>if b=a then g a else 0).sum=0:=λl=>by
     induction l with
     |nil=>intro _;rfl
     |cons c l i=>
      intro j;rw[bE,iU,i λq=>j (aO _ q),a6 λ(q:b=c)=>j (by rw[q];exact aU ..)];rfl
    exact this an f
   rw[z,a7 rfl];lia
  ·rw[a6 e,m d ((aY.mp h).resolve_left e)];lia
def X0(an:List Str)(f g:Str->Int):(an.map λa=>f a+g a).sum=(an.map f).sum+(an.map g).sum:=by
 induction an with
 |nil=>rfl
 |cons a an b=>rw[bE,bE,bE,iU,iU,iU,b];lia
theorem HV{an:List Str}(d:an.Nodup)(g:Str->Int):∀ss:List Rw,(∀r∈ss,r.2∈an)->(an.map λa=>(rH ss a:Int)*g a).sum=(ss.map λr=>g r.2).sum
|[],_=>by
 have:∀l:List Str,(l.map λa=>((rH [] a:Nat):Int)*g a).sum=0:=λl=>by
  induction l with
  |nil=>rfl
  |cons c l b=>
   rw[bE,iU,b];show((0:Nat):Int)*g c+0=0;simp
 exact this an
|r::ss,h=>by
 have i:=HV d g ss λx f=>h x (aO _ f)
 have e:(λa=>((rH (r::ss) a:Nat):Int)*g a)=λa=>(if r.2=a then g a else 0)+(rH ss a:Int)*g a:=by
  funext a;unfold rH;rw[XS];by_cases q:r.2=a
  ·rw[a7 q,a7 (a8 q),fU,aNr];show _+1*g a=_;rw[aNq,Int.add_comm]
  ·rw[a6 q,a6 (by simpa using q),AO,Int.zero_add]
 rw[e,X0,XZ d g (h r (aU ..)),i,bE,iU]
def P1(b:List Rw)(a:Str):((b.countP λo=>decide (o.2≠a):Nat):Int)=(b.length:Int)-(rH b a:Int):=by
 unfold rH
 have:b.length=(b.countP λo=>decide (o.2=a))+(b.countP λo=>decide (o.2≠a)):=by
  rw[List.length_eq_countP_add_countP (λo:Rw=>decide (o.2=a))];congr 2;funext o;by_cases q:o.2=a<;>simp[q]
 lia
theorem UR:∀l:List Nat,((l.sum:Nat):Int)=(l.map λ(n:Nat)=>(n:Int)).sum
|[]=>rfl
|n::l=>by rw[iU,bE,iU,fU,UR l]
def Y0{an:List Str}(e:an.Nodup){b:List Rw}(h:∀r∈b,r.2∈an):((kB an b).map λc=>c*((b.length:Int)-c)).sum=((Y1 b b:Nat):Int):=by
 have d:=HV e (λa=>(b.length:Int)-(rH b a:Int)) b h;unfold kB Y1;rw[bM,UR,bM];refine d.trans ?_;congr 1;apply iJ;intro r _;exact(P1 b r.2).symm
noncomputable def Li(n:Int)(x:D):D:=match x with | .int c=>.int (c*(n-c)) | _=>.none
noncomputable def YI(x:D):D:=match x with | .tuple [_,b]=>b | _=>x
noncomputable def Kv:Tr->Bool
|.say _=>true
|.ask _ _ _ _ _ _=>false
def Vf:kQ:=λa Q=>∃t:Tr,a=[jG t]/\Q (.bool (Kv t))
noncomputable def tF(fs:List (Str×List Str)):Tr->List D->List D
|.say _,_=>[]
|.ask k n v s y m,cs=>.tuple [.tuple [.str k,.str n,.str v],.str (fP fs k n v s cs)]::(if fP fs k n v s cs="yes" then tF fs y cs else tF fs m cs)
noncomputable def rW(fs:List (Str×List Str)):Tr->List D->List Str
|.say _,_=>[]
|.ask k n v s y m,cs=>fP fs k n v s cs::(if fP fs k n v s cs="yes" then rW fs y cs else rW fs m cs)
noncomputable def pK(fs:List (Str×List Str)):Tr->List D->Str
|.say a,_=>a
|.ask k n v s y m,cs=>if fP fs k n v s cs="yes" then pK fs y cs else pK fs m cs
noncomputable def sP:Tr->List Str->Option Tr
|t,[]=>some t
|.say _,_::_=>none
|.ask _ _ _ _ y m,s::r=>if s="yes" then sP y r else if s="no" then sP m r else none
def LL:¬("no":Str)="yes":=by decide +kernel
section
variable{fs:List (Str×List Str)}{an:List Str}
def AV(F:iG fs an){k n v st:Str}(q:QJ fs (.tuple [.str k,.str n,.str v])=true)(i:st="yes"\/st="no")(l:lO fs (.tuple cs)=true):fP fs k n v st cs="yes"\/fP fs k n v st cs="no":=by
 obtain⟨f,o,g,r,hk⟩:=A5 q;obtain⟨j,h⟩:=bP o;obtain⟨m,e⟩:=uG l;have p:=(aE.mp h).1;have a:cs[j]?=some cs[j]:=aD Ez
 generalize cs[j]=c at a
 rw[tT F h a g];have hok:=e j f c h a
 cases c with
 |none=>exact i
 |str z=>
  show(if k="is" then(if z=v then("yes":Str)else "no")else if f.2.idxOf z<=f.2.idxOf v then("yes":Str)else "no")="yes"\/_;by_cases d:k="is"
  ·by_cases b:z=v
   ·exact .inl (by rw[a7 d,a7 b])
   ·exact .inr (by show(if k="is" then(if z=v then("yes":Str)else "no")else if f.2.idxOf z<=f.2.idxOf v then("yes":Str)else "no")="no";rw[a7 d,a6 b])
  ·by_cases b:f.2.idxOf z<=f.2.idxOf v
   ·exact .inl (by rw[a6 d,a7 b])
   ·exact .inr (by show(if k="is" then(if z=v then("yes":Str)else "no")else if f.2.idxOf z<=f.2.idxOf v then("yes":Str)else "no")="no";rw[a6 d,a6 b])
 |_=>cases hok
theorem yE:∀(t:Tr)(a:List D),(tF fs t a).map YI=(rW fs t a).map aV
|.say _,_=>rfl
|.ask k n v s y m,a=>by
 show(aV (fP fs k n v s a))::(if fP fs k n v s a="yes" then tF fs y a else tF fs m a).map YI=.str (fP fs k n v s a)::(if fP fs k n v s a="yes" then rW fs y a else rW fs m a).map aV;congr 1;split
 ·exact yE y a
 ·exact yE m a
theorem yF:∀(t:Tr)(c:List D),∀x∈tF fs t c,∃a b,x=.tuple [a,b]
|.say _,_,x,h=>by cases h
|.ask k n v s y m,c,x,h=>by
 rcases aY.mp h with rfl | h
 ·exact⟨_,_,Fc⟩
 ·split at h
  ·exact yF y c x h
  ·exact yF m c x h
theorem FK:∀(t:Tr)(a:List D),(tF fs t a).length<=t.dep
|.say _,_=>aN _
|.ask k n v s y m,a=>by
 show(if fP fs k n v s a="yes" then tF fs y a else tF fs m a).length+1<=max y.dep m.dep+1;have b:=FK y a;have c:=FK m a;split<;>lia
theorem vT(F:iG fs an)(b:lO fs (.tuple cs)=true):∀t:Tr,lQ fs an t->sP t (rW fs t cs)=some (.say (pK fs t cs))
|.say a,_=>rfl
|.ask k n v s y m,ht=>by
 obtain⟨d,hs,f,c⟩:=ht;show(if fP fs k n v s cs="yes" then sP y _ else if fP fs k n v s cs="no" then sP m _ else none)=some (.say (if fP fs k n v s cs="yes" then pK fs y cs else pK fs m cs));rcases AV F d hs b with e | e
 ·rw[a7 e,a7 e,a7 e];exact vT F b y f
 ·have ne:¬fP fs k n v s cs="yes":=λz=>LL (e.symm.trans z);rw[a6 ne,a7 e,a6 ne,a6 ne];exact vT F b m c
theorem F3:∀{t p pl},sP t pl=some p->∀s∈pl,s="yes"\/s="no"
|t,p,[],h,x,hx=>by cases hx
|.say a,p,s::r,h,x,hx=>by cases h
|.ask k n v st y m,p,s::r,h,x,hx=>by
 have b:(if s="yes" then sP y r else if s="no" then sP m r else none)=some p:=h;by_cases c:s="yes"
 ·rw[a7 c]at b;rcases aY.mp hx with rfl | hx
  ·exact .inl c
  ·exact F3 b x hx
 ·rw[a6 c]at b;by_cases d:s="no"
  ·rw[a7 d]at b;rcases aY.mp hx with rfl | hx
   ·exact .inr d
   ·exact F3 b x hx
  ·rw[a6 d]at b;cases b
end
noncomputable def there(fs:List (Str×List Str))(t:Tr)(b:List (List D×Str))(a:List Str)(x:D):Bool:=match x with
|.int i=>(match L2.atI b i with | some r=>decide ((rW fs t r.1).take a.length=a) | none=>false)
|_=>false
def Vg:kQ:=λb Q=>∃(k n v s:Str)(y m:Tr)(a:Str),b=[jG (.ask k n v s y m),.str a]/\Q (jG (if a="yes" then y else m))
def Vi:RL:=λb Q=>∃(fs:List (Str×List Str))(an:List Str)(t:Tr)(a:List D),b=[dW fs an,jG t,.tuple a]/\iG fs an/\lQ fs an t/\lO fs (.tuple a)=true/\t.dep<=40/\Q (tF fs t a)
def Vj:kQ:=λb Q=>∃(fs:List (Str×List Str))(an:List Str)(t:Tr)(a:List D),b=[dW fs an,jG t,.tuple a]/\iG fs an/\lQ fs an t/\lO fs (.tuple a)=true/\t.dep<=40/\Q (.tuple ((rW fs t a).map aV))
def Vk:kQ:=λb Q=>∃(fs:List (Str×List Str))(an:List Str)(t:Tr)(a:List D),b=[dW fs an,jG t,.tuple a]/\iG fs an/\lQ fs an t/\lO fs (.tuple a)=true/\t.dep<=40/\Q (.str (pK fs t a))
def Vl:kQ:=λb Q=>∃(t p:Tr)(a:List Str),b=[jG t,.tuple (a.map aV)]/\sP t a=some p/\t.dep<=40/\Q (jG p)
def QR{fs:List (Str×List Str)}(F:WV fs an):iG (fs.take 2) an:=by
 have n1:=F.n1;have n5:=F.n5;refine⟨by rw[aZ];lia,by rw[aZ];lia,⟨by rw[aC],λy a=>?_,?_⟩,λf b=>F.vs f (dY b),F.a2,F.a4,F.an,by rw[aZ];lia⟩
 ·rw[rP]at a;exact F.nd.2.1 y (dY a)
 ·rw[rP];exact F.nd.2.2.sublist (rL _ _)
def tP(n:Nat):kQ:=λa Q=>∃t:Tr,a=[jG t]/\t.kn<=600/\t.dep<n/\Q (.int t.kn)
def Vh:kQ:=tP 41
def UP{Q:D->Prop}(h:tP 0 ds Q):False:=by
 obtain⟨_,_,_,h,_⟩:=h;lia
noncomputable def eE(fs:List (Str×List Str))(t:Tr)(a:List (List D×Str)):Nat:=(a.filter λr=>!decide (pK fs t r.1=r.2)).length
noncomputable def iN(fs:List (Str×List Str))(k n v st:Str)(r:List D×Str):Bool:=decide (fP fs k n v st r.1="yes")
theorem tQ{fs}(k n v s:Str)(y m:Tr):∀d:List (List D×Str),eE fs (.ask k n v s y m) d=eE fs y (d.filter (iN fs k n v s))+eE fs m (d.filter λr=>!iN fs k n v s r)
|[]=>rfl
|r::d=>by
 have c:=tQ (fs:=fs) k n v s y m d;have e:pK fs (.ask k n v s y m) r.1=if fP fs k n v s r.1="yes" then pK fs y r.1 else pK fs m r.1:=rfl;unfold eE at c |-
 by_cases f:fP fs k n v s r.1="yes"
 ·have b:iN fs k n v s r=true:=a8 f;rw[cH (p:=iN fs k n v s),a7 b,cH (p:=λr=>!iN fs k n v s r),a6 (by rw[b];decide)];rw[a7 f]at e;by_cases a:pK fs y r.1=r.2
  ·rw[cH,a6 (by rw[e];simp[a]),cH (x:=r),a6 (by simp[a])];exact c
  ·rw[cH,a7 (by rw[e];simp[a]),cH (x:=r),a7 (by simp[a]),dB,dB,c];lia
 ·have b:iN fs k n v s r=false:=c4 f;rw[cH (p:=iN fs k n v s),a6 (by rw[b];decide),cH (p:=λr=>!iN fs k n v s r),a7 (by rw[b];rfl)];rw[a6 f]at e;by_cases a:pK fs m r.1=r.2
  ·rw[cH,a6 (by rw[e];simp[a]),cH (x:=r),a6 (by simp[a])];exact c
  ·rw[cH,a7 (by rw[e];simp[a]),cH (x:=r),a7 (by simp[a]),dB,dB,c];lia
def Vm:kQ:=λd Q=>∃(fs:List (Str×List Str))(an:List Str)(t:Tr)(c:List (List D×Str))(a b:Int),d=[dW fs an,jG t,.list (c.map dP),.tuple [.int a,.int b]]/\iG fs an/\lQ fs an t/\t.dep<=40/\t.kn<=600/\gF fs an c/\c.length<=60/\0<=a/\a<=1000000000/\0<=b/\b<=1000000000/\Q (.int (a*(eE fs t c:Nat)+b*(t.kn:Nat)))
def gF.filt{fs}{a:List (List D×Str)}(h:gF fs an a)(p:List D×Str->Bool):gF fs an (a.filter p):=λr b=>h r (cM.mp b).1
def FA(fs:List (Str×List Str))(an:List Str)(fa:List (List D×Str)->Str):Prop:=∀a,gF fs an a->xV an a (fa a)
def xV.uniq(h:xV an rs a)(g:xV an rs b):a=b:=by
 obtain⟨i,d,k,l⟩:=h;obtain⟨j,c,e,f⟩:=g;have m:=k j b c;have n:=e i a d;rcases XL i j with z | z | z
 ·have:=f i a z d;lia
 ·subst z;rw[d]at c;exact c5 c
 ·have:=l j b z c;lia
noncomputable def qX(a:List (List D×Str))(x:D):D:=match x with | .int i=>(match L2.atI a i with | some r=>dP r | none=>.none) | _=>.none
def OO{a:List (List D×Str)}{i:Nat}(h:i<a.length):L2.atI (a++[r]) (i:Int)=L2.atI a (i:Int):=by
 rw[L2.fC (aD h),L2.fC (xs:=a++[r]) (v:=a[i]) (by rw[eB h];exact aD h)]
theorem A4(fs:List (Str×List Str))(k n v st w:Str):∀(m:Nat)(b:List (List D×Str)),b.length=m->(iO fs k n v st b w).map (qX b)=(b.filter λr=>decide (fP fs k n v st r.1=w)).map dP
|0,b,h=>by rw[hZ.mp h];rfl
|m+1,b,h=>by
 obtain⟨a,r,rfl⟩:∃a r,b=a++[r]:=⟨b.dropLast,b.getLast (λe=>by rw[e]at h;cases h),(DF _).symm⟩;have q:a.length=m:=by rw[bH]at h;simpa using h
 have i:=A4 fs k n v st w m a q;unfold iO at i |-
 have l:eK (a++[r]).length=eK a.length++[.int (a.length:Int)]:=by
  unfold eK;rw[bH,kZ,uO,bB];rfl
 have c:L2.atI (a++[r]) (a.length:Int)=some r:=L2.fC (by rw[eJ (aN _),aM4];rfl)
 have o:(eK a.length).filter (nT fs k n v st (a++[r]) w)=(eK a.length).filter (nT fs k n v st a w):=jB λx f=>by
  obtain⟨j,d,rfl⟩:=aR.mp f;show(match L2.atI (a++[r]) (j:Int)with | some r=>decide (fP fs k n v st r.1=w) | none=>false)=match L2.atI a (j:Int)with | some r=>decide (fP fs k n v st r.1=w) | none=>false
  rw[OO (by simpa using d)]
 have p:((eK a.length).filter (nT fs k n v st a w)).map (qX (a++[r]))=((eK a.length).filter (nT fs k n v st a w)).map (qX a):=iJ λx f=>by
  obtain⟨j,d,rfl⟩:=aR.mp (cM.mp f).1;show(match L2.atI (a++[r]) (j:Int)with | some r=>dP r | none=>.none)=match L2.atI a (j:Int)with | some r=>dP r | none=>.none
  rw[OO (by simpa using d)]
 have g:nT fs k n v st (a++[r]) w (.int (a.length:Int))=decide (fP fs k n v st r.1=w):=by
  show(match L2.atI (a++[r]) (a.length:Int)with | some r=>decide (fP fs k n v st r.1=w) | none=>false)=_;rw[c]
 have s:qX (a++[r]) (.int (a.length:Int))=dP r:=by
  show(match L2.atI (a++[r]) (a.length:Int)with | some r=>dP r | none=>.none)=_;rw[c]
 rw[l,fD,bB,o,p,i,fD,bB];congr 1;by_cases hs:fP fs k n v st r.1=w
 ·rw[cH,a7 (by rw[g];exact a8 hs),cH,a7 (a8 hs)];show[qX (a++[r]) (.int (a.length:Int))]=[dP r];rw[s]
 ·rw[cH,a6 (by rw[g,c4 hs];decide),cH,a6 (by rw[c4 hs];decide)]
  rfl
def Vu:kQ:=λb Q=>∃(fs:List (Str×List Str))(k n v st w:Str)(a:List (List D×Str)),b=[.list (a.map dP),.list (iO fs k n v st a w)]/\a.length<=60/\Q (.list ((a.filter λr=>decide (fP fs k n v st r.1=w)).map dP))
def Vx:kQ:=λb Q=>∃(fs:List (Str×List Str))(an:List Str)(fa:List (List D×Str)->Str)(a:List (List D×Str)),b=[dW fs an,.list (a.map dP)]/\iG fs an/\FA fs an fa/\gF fs an a/\a.length<=60/\Q (jG (.say (fa a)))
def Vy:kQ:=λb Q=>∃(fs:List (Str×List Str))(an:List Str)(k n v s:Str)(y m:Tr)(a:List (List D×Str)),b=[dW fs an,jG (.ask k n v s y m),.list (a.map dP)]/\iG fs an/\QJ fs (.tuple [.str k,.str n,.str v])=true/\(s="yes"\/s="no")/\gF fs an a/\a.length<=60/\Q (.list [.list ((a.filter (iN fs k n v s)).map dP),.list ((a.filter λr=>!iN fs k n v s r).map dP)])
def A1{fs}(F:iG fs an){k n v st:Str}(d:QJ fs (.tuple [.str k,.str n,.str v])=true)(b:st="yes"\/st="no"){c:List (List D×Str)}(a:gF fs an c):(c.filter λr=>decide (fP fs k n v st r.1="no"))=c.filter λr=>!iN fs k n v st r:=jB λr f=>by
 unfold iN;rcases AV F d b (a r f).1 with e | e
 ·rw[e];decide +kernel
 ·rw[e];decide +kernel
def Nq(a b c d e:D):lF [a,b,c,d,e] none (some 3)=[a,b,c]:=oN [a,b,c,d,e] 3
def CF{an:List Str}(h:0<an.length)(d:List (List D×Str)):∃a,xV an d a:=by
 have m:∀(l:List Str),0<l.length->∃k a,l[k]?=some a/\(∀(j:Nat) b,l[j]?=some b->rH d b<=rH d a)/\∀(j:Nat) b,j<k->l[j]?=some b->rH d b<rH d a:=λl=>by
  induction l with
  |nil=>intro h;exact a9 h Ey
  |cons x l o=>
   intro _
   cases l with
   |nil=>exact⟨0,x,Fc,λj b c=>by
     cases j with
     |zero=>cases c;exact aN _
     |succ j=>simp at c,λj b f _=>a9 f (pM _)⟩
   |cons y l=>
    obtain⟨k,a,g,e,i⟩:=o Fa;by_cases n:rH d a<=rH d x
    ·refine⟨0,x,Fc,λj b c=>?_,λj b f _=>a9 f (pM _)⟩
     cases j with
     |zero=>cases c;exact aN _
     |succ j=>exact bG (e j b (by simpa using c)) n
    ·refine⟨k+1,a,by simpa using g,λj b c=>?_,λj b f c=>?_⟩
     ·cases j with
      |zero=>cases c;lia
      |succ j=>exact e j b (by simpa using c)
     ·cases j with
      |zero=>cases c;lia
      |succ j=>exact i j b Ez (by simpa using c)
 obtain⟨k,a,g,e,i⟩:=m an h;exact⟨a,k,g,e,i⟩
def Pz{fs}(F:iG fs an):∃fa,FA fs an fa:=
 ⟨λa=>(CF (an:=an) (by have:=F.a2;lia) a).choose,λa _=>(CF (an:=an) (by have:=F.a2;lia) a).choose_spec⟩
abbrev Fs:=List (Str×List Str)
abbrev Qn:=Str×Str×Str
abbrev Ch:=Qn×Str
noncomputable def qD(q:Qn):D:=.tuple [.str q.1,.str q.2.1,.str q.2.2]
noncomputable def tq(d:D):Qn:=match d with | .tuple [.str k,.str n,.str v]=>(k,n,v) | _=>("","","")
noncomputable def qs(fs:Fs):List Qn:=(eO fs).map tq
def oX(fs:Fs):(qs fs).map qD=eO fs:=by
 unfold qs;rw[bM]
 have:∀d∈eO fs,(qD∘tq) d=id d:=λd hd=>by
  obtain⟨f,b,⟨z,a,rfl⟩ | ⟨z,a,c,rfl⟩⟩:=wD hd<;>rfl
 rw[iJ this,nH]
def yI{fs}{q:Qn}(h:q∈qs fs):QJ fs (.tuple [.str q.1,.str q.2.1,.str q.2.2])=true:=by
 have:qD q∈(qs fs).map qD:=aR.mpr ⟨q,h,Fc⟩;rw[oX]at this;exact MG this
noncomputable def HS(q:Qn):List Ch:=[(q,"yes"),(q,"no")]
noncomputable def jL(fs:Fs):List Ch:=(qs fs).flatMap HS
def yZ{fs}{c:Ch}(h:c∈jL fs):c.1∈qs fs/\(c.2="yes"\/c.2="no"):=by
 obtain⟨q,b,a⟩:=BF.mp h;simp only[HS,aY,dR,j3]at a;rcases a with rfl | rfl
 ·exact⟨b,.inl Fc⟩
 ·exact⟨b,.inr Fc⟩
def oZ(fs:Fs):(jL fs).length=2*(eO fs).length:=by
 unfold jL qs
 generalize (eO fs)=l
 induction l with
 |nil=>rfl
 |cons x l a=>
  rw[bE,zY,bH,a];show 2+_=2*(l.length+1);lia
noncomputable def W9(fs:Fs)(c:Ch)(r:Rw):Bool:=iN fs c.1.1 c.1.2.1 c.1.2.2 c.2 r
noncomputable abbrev yR(fs:Fs)(c:Ch)(R:List Rw):List Rw:=R.filter (W9 fs c)
noncomputable abbrev nR(fs:Fs)(c:Ch)(R:List Rw):List Rw:=R.filter λr=>!W9 fs c r
noncomputable def XE(c:Ch):D:=.tuple [qD c.1,.str c.2]
def Wf:kQ:=λa Q=>∃(fs:Fs)(an:List Str),a=[dW fs an]/\iG fs an/\Q (.list ((jL fs).map XE))
noncomputable def XB(a b:Nat):Nat×Nat:=(a / a.gcd b,b / a.gcd b)
noncomputable def C8(x:Nat×Nat):D:=.tuple [.int (x.1:Nat),.int (x.2:Nat)]
noncomputable def XD(R:List Rw):Nat×Nat:=XB (Y1 R R) (max 1 R.length)
noncomputable def Hy(x y:Nat×Nat):Nat×Nat:=XB (x.1*y.2+y.1*x.2) (x.2*y.2)
noncomputable def dC(fs:Fs)(R:List Rw)(c:Ch):Nat×Nat:=Hy (XD (yR fs c R)) (XD (nR fs c R))
noncomputable def okC(fs:Fs)(R:List Rw)(m:Int)(c:Ch):Bool:=decide (m<=((yR fs c R).length:Int))&&decide (m<=((nR fs c R).length:Int))
noncomputable def wE(fs:Fs)(R:List Rw)(m:Int):List Ch:=(jL fs).filter (okC fs R m)
noncomputable def MC(fs:Fs)(R:List Rw)(c:Ch):D:=.tuple [qD c.1,.str c.2,C8 (dC fs R c)]
noncomputable def wF(l:List (Nat×Nat)):Nat:=l.foldl (λc x=>c.lcm x.2) 1
noncomputable def Ji(B:Nat)(x:Nat×Nat):Int:=(x.1:Int)*((B:Int) / (x.2:Int))
noncomputable def XC(fs:Fs)(R:List Rw)(m:Int):List (Nat×Nat):=(wE fs R m).map (dC fs R)
noncomputable def QH(fs:Fs)(R:List Rw)(m:Int):List Int:=(XC fs R m).map (Ji (wF (XC fs R m)))
noncomputable def CM(fs:Fs)(R:List Rw)(m:Int):List D:=(wE fs R m).map (MC fs R)
def Ie(fs:Fs)(R:List Rw)(m:Int)(J:List Nat):Prop:=SS.MR (wE fs R m).length (λi=>(QH fs R m).getD i 0) J
noncomputable def Ia(fs:Fs)(R:List Rw)(m:Int)(J:List Nat):List D:=J.map λi=>(CM fs R m).getD i .none
def N2{a b:Nat}(h:0<b):0<(XB a b).2:=RF (aGa h (AN a b)) (mT a h)
def U1(a b:Nat):(XB a b).1<=a/\(XB a b).2<=b:=⟨pO _ _,pO _ _⟩
structure Sml(x:Nat×Nat)(a b:Nat):Prop where
 top:x.1<=a
 pos:0<x.2
 bot:x.2<=b
def xP{R:List Rw}(h:R.length<=60):Sml (XD R) 3600 60:=by
 have a:=U1 (Y1 R R) (max 1 R.length);have b:=LA R R;have c:R.length*R.length<=60*60:=fZ h h;exact⟨by show(XB _ _).1<=_;lia,N2 Ez,by show(XB _ _).2<=_;lia⟩
def NC{x y:Nat×Nat}(a:Sml x 3600 60)(b:Sml y 3600 60):x.1*y.2+y.1*x.2<=432000/\x.2*y.2<=3600/\0<x.2*y.2:=by
 have c:x.1*y.2<=3600*60:=fZ a.top b.bot;have d:y.1*x.2<=3600*60:=fZ b.top a.bot;have e:x.2*y.2<=60*60:=fZ a.bot b.bot;exact⟨Ez,Ez,Nat.mul_pos a.pos b.pos⟩
def SD(e:Sml x 3600 60)(f:Sml y 3600 60):Sml (Hy x y) 432000 3600:=by
 obtain⟨b,c,d⟩:=NC e f;have a:=U1 (x.1*y.2+y.1*x.2) (x.2*y.2);exact⟨bG a.1 b,N2 d,bG a.2 c⟩
def MF{fs}{R:List Rw}(h:R.length<=60)(c:Ch):Sml (dC fs R c) 432000 3600:=
 SD (xP (bG (bW _ _) h)) (xP (bG (bW _ _) h))
def VC(fs:Fs)(R:List Rw)(m:Int):(QH fs R m).length=(wE fs R m).length:=by unfold QH XC;rw[aC,aC]
def uF(fs:Fs)(R:List Rw)(m:Int):(CM fs R m).length=(wE fs R m).length:=by unfold CM;rw[aC]
def ZU{fs}{m:Int}{i:Nat}(h:i<(wE fs R m).length):(QH fs R m).getD i 0=Ji (wF (XC fs R m)) (dC fs R (wE fs R m)[i]):=by
 unfold QH;rw[cX,aI];unfold XC;rw[aI,aD h];rfl
def OD{fs}{m:Int}{i:Nat}(h:i<(wE fs R m).length):(CM fs R m).getD i .none=MC fs R (wE fs R m)[i]:=by
 unfold CM;rw[cX,aI,aD h];rfl
def Vd:kQ:=λb Q=>∃(u v:D)(a bs:List D)(m:Int),b=[.tuple [u,v],.int m]/\(u=.list a/\v=.list bs\/u=.tuple a/\v=.tuple bs)/\Q (.bool (decide (m<=(a.length:Int))&&decide (m<=(bs.length:Int))))
def Pk:kQ:=λa Q=>∃x y:Nat×Nat,a=[C8 x,C8 y]/\Sml x 3600 60/\Sml y 3600 60/\Q (C8 (Hy x y))
def Wc:kQ:=λa Q=>∃l:List (Nat×Nat),a=[.list (l.map C8)]/\(∀x∈l,0<x.2/\x.2<=1000000)/\Q (.int (wF l:Nat))
def Vt:RL:=λb Q=>∃(fs:Fs)(an:List Str)(a:List Rw)(m:Int),b=[dW fs an,.list (a.map dP),.int m]/\iG fs an/\gF fs an a/\a.length<=60/\∀J,Ie fs a m J->Q (Ia fs a m J)
def PM:∀(l:List Sl)(a b c x y z:Sl),((((((l.set 0 a).set 1 b).set 2 c).set 0 x).set 1 y).set 2 z)=((l.set 0 x).set 1 y).set 2 z
|[],_,_,_,_,_,_=>rfl
|[_],_,_,_,_,_,_=>rfl
|[_,_],_,_,_,_,_,_=>rfl
|_::_::_::_,_,_,_,_,_,_=>rfl
def ZP{i:ET}{Q:D->Prop}{ts:List D}(g:uH ti σ ts)(f:D->D)(r:ts.length<=100000)(n:∀x∈ts,∃a b c,x=.tuple [a,b,c])(p:∀(a b c:D)(q:D->Prop),.tuple [a,b,c]∈ts->q (f (.tuple [a,b,c]))->i ((((kE fr σ).set 0 (.val a)).set 1 (.val b)).set 2 (.val c)) q)(o:Q (.list (ts.map f))):RK fr ti (Gr 0 1 2) CV i σ Q:=by
 refine g _ ⟨r,λk d e=>(∀x y z,((d.set 0 (.val x)).set 1 (.val y)).set 2 (.val z)=(((kE fr σ).set 0 (.val x)).set 1 (.val y)).set 2 (.val z))/\e=(ts.take k).map f,⟨λ_ _ _=>rfl,Fc⟩,λk x d e l h=>?_,λd e h=>?_⟩
 ·obtain⟨m,rfl⟩:=h;have j:x∈ts:=aS l;obtain⟨a,b,c,rfl⟩:=n x j;refine⟨a,b,c,Fc,?_⟩;show i (((d.set 0 (.val a)).set 1 (.val b)).set 2 (.val c)) _;rw[m a b c];refine p a b c _ j ⟨λx y z=>PM _ _ _ _ _ _ _,?_⟩;rw[cU,l,bB];rfl
 ·obtain⟨_,rfl⟩:=h;rw[dA];exact o
noncomputable def Qd(x y:Nat×Nat):Bool:=decide (x.1*y.2<y.1*x.2)
noncomputable def Js(fs:Fs)(R:List Rw):Option Ch->D
|some c=>MC fs R c
|none=>.none
def Pl:kQ:=λa Q=>∃x y:Nat×Nat,a=[C8 x,C8 y]/\x.1<=1000000/\y.1<=1000000/\Q (.bool (Qd x y))
def Vv:kQ:=λb Q=>∃(fs:Fs)(an:List Str)(a:List Rw)(m:Int),b=[dW fs an,.list (a.map dP),.int m]/\iG fs an/\gF fs an a/\a.length<=60/\∀o:Option Ch,(∀c,o=some c->c∈wE fs a m)->Q (Js fs a o)
def tO(b:Nat):kQ:=λc Q=>∃(fs:Fs)(an:List Str)(a:List Rw)(d:Nat)(m:Int),c=[dW fs an,.list (a.map dP),.int d,.int m]/\iG fs an/\gF fs an a/\a.length<=60/\d<b/\∀t,lQ fs an t->t.dep<=d->Q (jG t)
def Vw:kQ:=tO 7
def UO{Q:D->Prop}(h:tO 0 ds Q):False:=by
 obtain⟨fs,an,f,d,m,e,F,a,b,c,h⟩:=h;lia
noncomputable abbrev HD:=C8
noncomputable def lw(fs:List (Str×List Str))(fa:List (List D×Str)->Str)(a b:Int):Tr->List (List D×Str)->Int×Tr
|.say x,rs=>(a*(eE fs (.say x) rs:Nat),.say x)
|.ask k n v s y m,rs=>
 if a*(eE fs (.say (fa rs)) rs:Nat)<=b+(lw fs fa a b y (rs.filter (iN fs k n v s))).1+(lw fs fa a b m (rs.filter λr=>!iN fs k n v s r)).1 then(a*(eE fs (.say (fa rs)) rs:Nat),.say (fa rs))
 else(b+(lw fs fa a b y (rs.filter (iN fs k n v s))).1+(lw fs fa a b m (rs.filter λr=>!iN fs k n v s r)).1,.ask k n v s (lw fs fa a b y (rs.filter (iN fs k n v s))).2 (lw fs fa a b m (rs.filter λr=>!iN fs k n v s r)).2)
theorem EE{fs}{fa:List (List D×Str)->Str}(d:FA fs an fa)(a b:Int):∀(t:Tr)(c:List (List D×Str)),lQ fs an t->gF fs an c->lQ fs an (lw fs fa a b t c).2/\(lw fs fa a b t c).2.dep<=t.dep
|.say z,c,h,_=>⟨h,aN _⟩
|.ask k n v s y m,c,h,hrs=>by
 obtain⟨g,hs,j,f⟩:=h;obtain⟨l,p⟩:=EE d a b y (c.filter (iN fs k n v s)) j (hrs.filt _);obtain⟨o,q⟩:=EE d a b m (c.filter λr=>!iN fs k n v s r) f (hrs.filt _);unfold lw;split
 ·obtain⟨i,e,_⟩:=d c hrs;exact⟨aS e,cI _⟩
 ·exact⟨⟨g,hs,l,o⟩,by show max _ _+1<=max y.dep m.dep+1;lia⟩
section
variable{fs:List (Str×List Str)}{fa:List (List D×Str)->Str}
def nU(a b:Int)(k n v s:Str)(y m:Tr)(c:List (List D×Str)):lw fs fa a b (.ask k n v s y m) c=if a*(eE fs (.say (fa c)) c:Nat)<=b+(lw fs fa a b y (c.filter (iN fs k n v s))).1+(lw fs fa a b m (c.filter λr=>!iN fs k n v s r)).1 then(a*(eE fs (.say (fa c)) c:Nat),.say (fa c))else(b+(lw fs fa a b y (c.filter (iN fs k n v s))).1+(lw fs fa a b m (c.filter λr=>!iN fs k n v s r)).1,.ask k n v s (lw fs fa a b y (c.filter (iN fs k n v s))).2 (lw fs fa a b m (c.filter λr=>!iN fs k n v s r)).2):=rfl
def CS(a b:Int)(k n v s:Str)(y m:Tr)(c:List (List D×Str)):a*(eE fs (.ask k n v s y m) c:Nat)+b*((Tr.ask k n v s y m).kn:Nat)=b+(a*(eE fs y (c.filter (iN fs k n v s)):Nat)+b*(y.kn:Nat))+(a*(eE fs m (c.filter λr=>!iN fs k n v s r):Nat)+b*(m.kn:Nat)):=by
 rw[tQ];show a*((_+_:Nat):Int)+b*((y.kn+m.kn+1:Nat):Int)=_;rw[fU,fU,fU,kD,kD,kD];show _+(_+b*1)=_;rw[wL];lia
def CQ(a b:Int)(z:Str)(c:List (List D×Str)):a*(eE fs (.say z) c:Nat)+b*((Tr.say z).kn:Nat)=a*(eE fs (.say z) c:Nat):=by
 show _+b*0=_;rw[mG,pU]
theorem F9(a b:Int):∀(t:Tr)(c:List (List D×Str)),(lw fs fa a b t c).1=a*(eE fs (lw fs fa a b t c).2 c:Nat)+b*((lw fs fa a b t c).2.kn:Nat)
|.say z,c=>(CQ a b z c).symm
|.ask k n v s y m,c=>by
 have e:=F9 a b y (c.filter (iN fs k n v s));have d:=F9 a b m (c.filter λr=>!iN fs k n v s r);rw[nU];split
 ·exact(CQ a b _ c).symm
 ·show b+_+_=_;rw[CS,<- e,<- d]
theorem A2(a:Int){b d:Int}(h:b<=d):∀(t:Tr)(c:List (List D×Str)),(lw fs fa a b t c).1<=(lw fs fa a d t c).1
|.say z,c=>pA _
|.ask k n v s y m,c=>by
 have f:=A2 a h y (c.filter (iN fs k n v s));have e:=A2 a h m (c.filter λr=>!iN fs k n v s r);rw[nU,nU];split
 ·split
  ·exact pA _
  ·dsimp only;lia
 ·split
  ·dsimp only;lia
  ·dsimp only;lia
theorem GA(a:Int){b d:Int}(h:b<=d):∀(t:Tr)(c:List (List D×Str)),lw fs fa a d (lw fs fa a b t c).2 c=lw fs fa a d t c
|.say z,c=>rfl
|.ask k n v s y m,c=>by
 have f:=GA a h y (c.filter (iN fs k n v s));have e:=GA a h m (c.filter λr=>!iN fs k n v s r);have i:=A2 (fs:=fs) (fa:=fa) a h y (c.filter (iN fs k n v s));have g:=A2 (fs:=fs) (fa:=fa) a h m (c.filter λr=>!iN fs k n v s r);rw[nU a b];split
 ·rw[nU,a7 Ez];rfl
 ·show lw fs fa a d (.ask k n v s _ _) c=_;rw[nU,nU,f,e]
theorem B4(a b:Int){c:Int}(f:0<c):∀(t:Tr)(d:List (List D×Str)),lw fs fa (c*a) (c*b) t d=(c*(lw fs fa a b t d).1,(lw fs fa a b t d).2)
|.say z,d=>by
 show(c*a*_,_)=(c*(a*_),_);rw[fF];rfl
|.ask k n v s y m,d=>by
 have h:=B4 a b f y (d.filter (iN fs k n v s));have g:=B4 a b f m (d.filter λr=>!iN fs k n v s r);rw[nU,nU,h,g];dsimp only;rw[<- kD,<- kD,fF];by_cases e:a*(eE fs (.say (fa d)) d:Nat)<=b+(lw fs fa a b y (d.filter (iN fs k n v s))).1+(lw fs fa a b m (d.filter λr=>!iN fs k n v s r)).1
 ·rw[a7 e,a7 (jA e Ez)]
 ·rw[a6 e,a6 (λz=>e (Int.le_of_mul_le_mul_left z f))]
def St(fs:List (Str×List Str))(fa:List (List D×Str)->Str)(a b:Int):Tr->List (List D×Str)->Prop
|.say _,_=>True
|.ask k n v s y m,rs=>b*((Tr.ask k n v s y m).kn:Nat)+a*(eE fs (.ask k n v s y m) rs:Nat)<a*(eE fs (.say (fa rs)) rs:Nat)/\St fs fa a b y (rs.filter (iN fs k n v s))/\St fs fa a b m (rs.filter λr=>!iN fs k n v s r)
theorem IC(a b:Int):∀(t:Tr)(c:List (List D×Str)),St fs fa a b (lw fs fa a b t c).2 c
|.say z,c=>trivial
|.ask k n v s y m,c=>by
 have e:=IC a b y (c.filter (iN fs k n v s));have d:=IC a b m (c.filter λr=>!iN fs k n v s r);have g:=F9 (fs:=fs) (fa:=fa) a b y (c.filter (iN fs k n v s));have f:=F9 (fs:=fs) (fa:=fa) a b m (c.filter λr=>!iN fs k n v s r);rw[nU];split
 ·trivial
 ·next sk=>
  refine⟨?_,e,d⟩;have:=CS (fs:=fs) a b k n v s (lw fs fa a b y (c.filter (iN fs k n v s))).2 (lw fs fa a b m (c.filter λr=>!iN fs k n v s r)).2 c;lia
theorem U0(a b:Int):∀(t:Tr)(c:List (List D×Str)),St fs fa a b t c->lw fs fa a b t c=(a*(eE fs t c:Nat)+b*(t.kn:Nat),t)
|.say z,c,_=>by rw[CQ];rfl
|.ask k n v s y m,c,h=>by
 obtain⟨j,d,f⟩:=h;have i:=U0 a b y (c.filter (iN fs k n v s)) d;have g:=U0 a b m (c.filter λr=>!iN fs k n v s r) f;have e:=CS (fs:=fs) a b k n v s y m c;rw[nU,i,g];dsimp only;rw[a6 Ez,e]
theorem JG(a b:Int):∀(t:Tr)(c:List (List D×Str)),(lw fs fa a b t c).2.kn<=t.kn/\((lw fs fa a b t c).2.kn=t.kn->(lw fs fa a b t c).2=t)
|.say z,c=>⟨aN _,λ_=>rfl⟩
|.ask k n v s y m,c=>by
 obtain⟨i,g⟩:=JG a b y (c.filter (iN fs k n v s));obtain⟨h,f⟩:=JG a b m (c.filter λr=>!iN fs k n v s r);have e:(Tr.ask k n v s y m).kn=y.kn+m.kn+1:=rfl;rw[nU,e];split
 ·exact⟨cI _,λz=>by
   have j:0=y.kn+m.kn+1:=z;lia⟩
 ·have d:(Tr.ask k n v s (lw fs fa a b y (c.filter (iN fs k n v s))).2 (lw fs fa a b m (c.filter λr=>!iN fs k n v s r)).2).kn=(lw fs fa a b y (c.filter (iN fs k n v s))).2.kn+(lw fs fa a b m (c.filter λr=>!iN fs k n v s r)).2.kn+1:=rfl;refine⟨by dsimp only;rw[d];lia,λz=>?_⟩;dsimp only at z |-
  rw[d]at z;rw[g Ez,f Ez]
noncomputable def AA(fs:List (Str×List Str))(fa:List (List D×Str)->Str):Tr->List (List D×Str)->List (Int×Nat)
|.say _,_=>[]
|.ask k n v s y m,rs=>((eE fs (.say (fa rs)) rs:Int)-(eE fs (.ask k n v s y m) rs:Nat),(Tr.ask k n v s y m).kn)::(AA fs fa y (rs.filter (iN fs k n v s))++AA fs fa m (rs.filter λr=>!iN fs k n v s r))
theorem vR(a b:Int):∀(t:Tr)(c:List (List D×Str)),St fs fa a b t c↔∀p∈AA fs fa t c,b*(p.2:Nat)<a*p.1
|.say z,c=>⟨λ_ p hp=>by simp[AA]at hp,λ_=>trivial⟩
|.ask k n v s y m,c=>by
 have g:=vR a b y (c.filter (iN fs k n v s));have f:=vR a b m (c.filter λr=>!iN fs k n v s r);have e:a*((eE fs (.say (fa c)) c:Int)-(eE fs (.ask k n v s y m) c:Nat))=a*(eE fs (.say (fa c)) c:Nat)-a*(eE fs (.ask k n v s y m) c:Nat):=Int.mul_sub _ _ _;constructor
 ·rintro⟨d,h1,h2⟩ p hp;rcases aY.mp hp with rfl | hp
  ·dsimp only;rw[e];lia
  ·rcases dZ.mp hp with hp | hp
   ·exact g.mp h1 p hp
   ·exact f.mp h2 p hp
 ·intro h;have d:=h _ (aU ..);dsimp only at d;rw[e]at d;exact⟨Ez,g.mpr λp hp=>h p (aO _ (iX _ hp)),f.mpr λp hp=>h p (aO _ (eF _ hp))⟩
theorem tH:∀(t:Tr)(a:List (List D×Str)),∀p∈AA fs fa t a,p.1<=a.length/\0<p.2/\p.2<=t.kn
|.say z,a,p,hp=>by simp[AA]at hp
|.ask k n v s y m,a,p,hp=>by
 have e:(Tr.ask k n v s y m).kn=y.kn+m.kn+1:=rfl;rcases aY.mp hp with rfl | hp
 ·have c:eE fs (.say (fa a)) a<=a.length:=bW _ _;refine⟨?_,by rw[e];lia,aN _⟩;dsimp only;lia
 ·rcases dZ.mp hp with hp | hp
  ·obtain⟨c,b,d⟩:=tH y _ p hp;have:=bW (iN fs k n v s) a;exact⟨Ez,b,Ez⟩
  ·obtain⟨c,b,d⟩:=tH m _ p hp;have:=bW (λr=>!iN fs k n v s r) a;exact⟨Ez,b,Ez⟩
end
section
variable{fs:List (Str×List Str)}{fa:List (List D×Str)->Str}
def Qw{a b c d e f:Nat}(hd:0<d)(g:a*d<=c*b)(h:c*f<=e*d):a*f<=e*b:=by
 refine Nat.le_of_mul_le_mul_right (c:=d) ?_ hd
 calc a*f*d=a*d*f:=by rw[oV,uL f d,<- oV]
  _<=c*b*f:=wK _ g
  _=c*f*b:=by rw[oV,uL b f,<- oV]
  _<=e*d*b:=wK _ h
  _=e*b*d:=by rw[oV,uL d b,<- oV]
noncomputable def oM(x p:Nat×Nat):Nat×Nat:=if p.1*x.2<x.1*p.2 then p else x
noncomputable def kM:Nat×Nat->List (Nat×Nat)->Nat×Nat
|x,[]=>x
|x,p::l=>kM (oM x p) l
theorem vY:∀(l:List (Nat×Nat))(x:Nat×Nat),kM x l=x\/kM x l∈l
|[],x=>.inl Fc
|p::l,x=>by
 show kM (oM x p) l=x\/_;rcases vY l (oM x p)with h | h
 ·rw[h];unfold oM;split
  ·next h2=>right;show kM (oM x p) l∈_;rw[h];unfold oM;rw[a7 h2];exact aU ..
  ·exact .inl Fc
 ·exact .inr (aO _ h)
theorem EF:∀(l:List (Nat×Nat))(x:Nat×Nat),0<x.2->(∀p∈l,0<p.2)->∀p,(p=x\/p∈l)->(kM x l).1*p.2<=p.1*(kM x l).2
|[],x,_,_,p,hp=>by
 rcases hp with rfl | hp
 ·exact aN _
 ·simp at hp
|e::l,x,hx,hl,p,hp=>by
 show(kM (oM x e) l).1*p.2<=p.1*(kM (oM x e) l).2;have j:=hl e (aU ..);have c:∀p∈l,0<p.2:=λp hp=>hl p (aO _ hp);have d:0<(oM x e).2:=by unfold oM;split<;>assumption
 have f:=EF l (oM x e) d c;have i:=f (oM x e) (.inl Fc);have b:∀r:Nat×Nat,(oM x e).1*r.2<=r.1*(oM x e).2->(kM (oM x e) l).1*r.2<=r.1*(kM (oM x e) l).2:=λr g=>Qw d i g
 have a:(oM x e).1*x.2<=x.1*(oM x e).2/\(oM x e).1*e.2<=e.1*(oM x e).2:=by
  unfold oM;split
  ·next h=>exact⟨iI h,aN _⟩
  ·next h=>exact⟨aN _,W2.mp h⟩
 rcases hp with rfl | hp
 ·exact b _ a.1
 ·rcases aY.mp hp with rfl | hp
  ·exact b _ a.2
  ·exact f p (.inr hp)
noncomputable def lB(p:Int×Nat):Nat×Nat:=(p.1.toNat / p.1.toNat.gcd p.2,p.2 / p.1.toNat.gcd p.2)
def K6{p:Int×Nat}(j:0<p.1)(b:0<p.2):∃g:Nat,0<g/\p.1=((lB p).1*g:Nat)/\p.2=(lB p).2*g/\0<(lB p).1/\0<(lB p).2/\(lB p).1.gcd (lB p).2=1/\(lB p).1<=p.1.toNat/\(lB p).2<=p.2:=by
 obtain⟨a,e⟩:∃a:Nat,p.1=(a:Int):=⟨p.1.toNat,(pQ Ez).symm⟩;have i:p.1.toNat=a:=by rw[e];rfl
 have d:0<a.gcd p.2:=mT _ b;have c:0<a:=by lia
 unfold lB;rw[i];dsimp only;have f:=W3 (Nat.gcd_dvd_left a p.2);have h:=W3 (AN a p.2);refine⟨a.gcd p.2,d,by rw[f];exact e,h.symm,RF (Nat.gcd_le_left _ c) d,RF (aA7 _ b) d,?_,pO _ _,pO _ _⟩;exact Nat.gcd_div_gcd_div_gcd_of_pos_right b
noncomputable def VG:Tr->Bool
|.say _=>true
|.ask _ _ _ _ _ _=>false
noncomputable def fX(fs:List (Str×List Str))(fa:List (List D×Str)->Str)(t:Tr)(a:List (List D×Str)):Nat×Nat:=match(AA fs fa t a).map lB with
|[]=>(0,1)
|x::l=>kM x (x::l)
def ZJ{a b:Int}(ha:0<a)(P:0<=b){t:Tr}{c:List (List D×Str)}(hs:St fs fa a b t c)(R:VG t=false) :
  0<(fX fs fa t c).2/\(fX fs fa t c).2<=t.kn/\0<(fX fs fa t c).1/\(fX fs fa t c).1<=c.length/\(fX fs fa t c).1.gcd (fX fs fa t c).2=1/\b*((fX fs fa t c).2:Nat)<a*((fX fs fa t c).1:Nat) /\
  (∀i o:Int,0<i->o*((fX fs fa t c).2:Nat)<i*((fX fs fa t c).1:Nat)->St fs fa i o t c)/\¬St fs fa ((fX fs fa t c).2:Nat) ((fX fs fa t c).1:Nat) t c:=by
 have w:∀e∈AA fs fa t c,0<e.1/\0<e.2:=λe d=>by
  have Z:=(vR a b t c).mp hs e d;have M:=(tH t c e d).2.1;refine⟨?_,M⟩;have h3:0<=b*(e.2:Nat):=qO P Ez;have h4:0<a*e.1:=by lia
  by_cases E:0<e.1
  ·exact E
  ·have:=jA (show e.1<=0 by lia) (show 0<=a by lia);rw[mG]at this;lia
 have B:∃e∈AA fs fa t c,fX fs fa t c=lB e:=by
  unfold fX
  cases G:AA fs fa t c with
  |nil=>
   cases t with
   |say z=>cases R
   |ask k n v s y m=>cases G
  |cons x l=>
   show∃e∈x::l,kM (lB x) ((x::l).map lB)=lB e;rcases vY ((x::l).map lB) (lB x)with h | h
   ·exact⟨x,aU ..,h⟩
   ·obtain⟨e,d,h⟩:=aR.mp h;exact⟨e,d,h.symm⟩
 have H:∀e∈AA fs fa t c,(fX fs fa t c).1*(lB e).2<=(lB e).1*(fX fs fa t c).2:=by
  unfold fX
  cases G:AA fs fa t c with
  |nil=>intro e d;simp at d
  |cons x l=>
   intro e d
   have pos:∀p∈(x::l).map lB,0<p.2:=λp I=>by
    obtain⟨e,d,rfl⟩:=aR.mp I;rw[<- G]at d;obtain⟨_,_,_,_,_,N,_⟩:=K6 (w e d).1 (w e d).2;exact N
   exact EF ((x::l).map lB) (lB x) (pos _ (aU ..)) pos (lB e) (.inr (aR.mpr ⟨e,d,Fc⟩))
 obtain⟨e,d,E⟩:=B;obtain⟨g,hg,K,L,p1,T,U,p4,p5⟩:=K6 (w e d).1 (w e d).2;obtain⟨b1,W,X⟩:=tH t c e d;have A:=(vR a b t c).mp hs e d;rw[E];refine⟨T,Ez,p1,Ez,U,?_,λi o O C=>(vR i o t c).mpr λf F=>?_,λJ=>?_⟩
 ·rw[K,L,eI,eI,<- fF,<- fF]at A;exact HB A Ez
 ·obtain⟨Y,Q,f1,f2,q1,q2,q3,q4,q5⟩:=K6 (w f F).1 (w f F).2;have q:=H f F;rw[E]at q;rw[f1,f2,eI,eI,<- fF,<- fF];refine FI ?_ Ez
  generalize (lB f).1=u at *
  generalize (lB f).2=j at *
  generalize (lB e).1=r at *
  generalize (lB e).2=E2 at *
  -- o E2<i r,r j<=u E2:o j<i u
  have S:(r:Int)*j<=u*E2:=by exact_mod_cast q
  have s1:o*E2*j<i*r*j:=FI C Ez;have s2:i*((r:Int)*j)<=i*(u*E2):=jA S Ez
  have s3:(o*j)*E2<(i*u)*E2:=by
   have t1:(o*j)*E2=o*E2*j:=by rw[fF,kC (j:Int),<- fF]
   have t2:i*r*j=i*((r:Int)*j):=fF _ _ _;have t3:(i*u)*E2=i*((u:Int)*E2):=fF _ _ _;lia
  exact HB s3 Ez
 ·have C:=(vR _ _ t c).mp J e d;rw[K,L,eI,eI,<- fF,<- fF,kC ((lB e).1:Int) ((lB e).2:Int)]at C;exact Int.lt_irrefl _ C
def qH(a b:Int){c:Int}(e:0<c)(t:Tr)(d:List (List D×Str)):(lw fs fa (c*a) (c*b) t d).2=(lw fs fa a b t d).2:=by rw[B4 a b e]
def Qe{p q p' q':Int}(c:0<q)(b:0<q')(h:p*q'<=p'*q)(t:Tr)(a:List (List D×Str)):(lw fs fa q' p' (lw fs fa q p t a).2 a).2=(lw fs fa q' p' t a).2:=by
 have d:=qH (fs:=fs) (fa:=fa) q p b t a;have e:=qH (fs:=fs) (fa:=fa) q' p' c t a;have f:=qH (fs:=fs) (fa:=fa) q' p' c (lw fs fa q p t a).2 a;have g:q*q'=q'*q:=kC _ _;rw[<- e,<- f,<- d,g];rw[GA (q'*q) (by rw[kC q' p,kC q p'];exact h)]
end
section
variable{fs:List (Str×List Str)}{fa:List (List D×Str)->Str}
abbrev Fk:=(Nat×Nat)×Tr
noncomputable def Fg(x:Fk):D:=.tuple [.tuple [.int (x.1.1:Nat),.int (x.1.2:Nat)],jG x.2]
noncomputable def qF(fs:List (Str×List Str))(fa:List (List D×Str)->Str)(a:List (List D×Str)):Nat->Nat×Nat->Tr->List Fk
|0,x,t=>[(x,t)]
|n+1,x,t=>(x,t)::if VG t=true then[]else qF fs fa a n (fX fs fa t a) (lw fs fa ((fX fs fa t a).2:Nat) ((fX fs fa t a).1:Nat) t a).2
noncomputable def rT(fs:List (Str×List Str))(fa:List (List D×Str)->Str)(T:Tr)(a:List (List D×Str)):List Fk:=qF fs fa a (lw fs fa 1 0 T a).2.kn (0,1) (lw fs fa 1 0 T a).2
structure OkS(fs:List (Str×List Str))(fa:List (List D×Str)->Str)(T:Tr)(rs:List (List D×Str))(x:Fk):Prop where
 XB:x.1.1.gcd x.1.2=1
 q0:0<x.1.2
 q1:x.1.2<=12
 p1:x.1.1<=60
 tr:x.2=(lw fs fa (x.1.2:Nat) (x.1.1:Nat) T rs).2
structure LkS(fs:List (Str×List Str))(fa:List (List D×Str)->Str)(T:Tr)(rs:List (List D×Str))(x y:Fk):Prop where
 up:x.1.1*y.1.2<y.1.1*x.1.2
 kn:y.2.kn<x.2.kn
 tr:y.2=(lw fs fa (y.1.2:Nat) (y.1.1:Nat) x.2 rs).2
 cl:x.2=(lw fs fa ((y.1.2:Int)*10000000) ((y.1.1:Int)*10000000-(y.1.2:Int)) T rs).2
def Yj:∀{t:Tr},t.kn=0->VG t=true
|.say _,_=>rfl
|.ask k n v s y m,h=>by
 have e:(Tr.ask k n v s y m).kn=y.kn+m.kn+1:=rfl;lia
def ZK{T:Tr}{a:List (List D×Str)}(hk:T.kn<=12)(B:a.length<=60){x:Fk}(ok:OkS fs fa T a x)(k:VG x.2=false) :
  OkS fs fa T a (fX fs fa x.2 a,(lw fs fa ((fX fs fa x.2 a).2:Nat) ((fX fs fa x.2 a).1:Nat) x.2 a).2)/\LkS fs fa T a x (fX fs fa x.2 a,(lw fs fa ((fX fs fa x.2 a).2:Nat) ((fX fs fa x.2 a).1:Nat) x.2 a).2):=by
 obtain⟨⟨p,q⟩,t⟩:=x;obtain⟨XB,q0,q1,p1,tr⟩:=ok;dsimp only at XB q0 q1 p1 tr k |-
 have i:St fs fa (q:Nat) (p:Nat) t a:=by rw[tr];exact IC _ _ T a
 have s:t.kn<=12:=by
  have:=(JG (fs:=fs) (fa:=fa) (q:Nat) (p:Nat) T a).1;rw[<- tr]at this;lia
 obtain⟨n1,w,y,n4,n5,l,m,n⟩:=ZJ (fs:=fs) (fa:=fa) Ez Ez i k
 generalize A:fX fs fa t a=N at *
 obtain⟨p',q'⟩:=N;dsimp only at n1 w y n4 n5 l m n |-
 have up:p*q'<p'*q:=by
  have:(p:Int)*q'<p'*q:=by rw[kC (p':Int)];exact l
  exact_mod_cast this
 have b:∀f c:Int,0<c->(p:Int)*c<=f*q->(lw fs fa c f t a).2=(lw fs fa c f T a).2:=λf c g h=>by
  have:=Qe (fs:=fs) (fa:=fa) (p:=(p:Int)) (q:=(q:Int)) (p':=f) (q':=c) Ez g h T a;rw[<- tr]at this;exact this
 refine⟨⟨n5,n1,by dsimp only;lia,by dsimp only;lia,?_⟩,⟨up,?_,Fc,?_⟩⟩
 ·refine b p' q' Ez ?_;have:((p*q':Nat):Int)<((p'*q:Nat):Int):=by exact_mod_cast up
  rw[eI,eI]at this;lia
 ·obtain⟨C,v⟩:=JG (fs:=fs) (fa:=fa) (q':Nat) (p':Nat) t a;dsimp only;rcases uM (lw fs fa (q':Nat) (p':Nat) t a).2.kn t.kn with h | h
  ·exact h
  ·exact a9 (by
    have e:=v Ez;have:=IC (fs:=fs) (fa:=fa) (q':Nat) (p':Nat) t a;rw[e]at this;exact this) n
 ·dsimp only;have u:q*q'<=12*12:=fZ q1 Ez;have j:((p*q':Nat):Int)+1<=((p'*q:Nat):Int):=by lia
  have d:((q*q':Nat):Int)<=144:=by lia
  rw[eI]at d;rw[eI,eI]at j
  have o:(p:Int)*((q':Int)*10000000)<=((p':Int)*10000000-q')*q:=by
   rw[aNp,<- fF,fF (p':Int),kC (10000000:Int) (q:Int),<- fF,kC (q':Int) (q:Int)];lia
  rw[<- b _ _ Ez o,U0 _ _ t a (m _ _ Ez ?_)]
  have g:((p':Int)*10000000-q')*q'=(p':Int)*q'*10000000-q'*q':=by
   rw[aNp,fF,kC (10000000:Int),<- fF]
  have r:(q':Int)*10000000*p'=(p':Int)*q'*10000000:=by
   rw[kC,<- fF]
  have z:(0:Int)<(q':Int)*q':=Int.mul_pos Ez Ez;rw[g,r];lia
end
def Vz:kQ:=λc Q=>∃a b:D,c=[.tuple [a,b]]/\Q (.tuple [b,a])
def tN(d:Nat):kQ:=λe Q=>∃(fs:List (Str×List Str))(an:List Str)(fa:List (List D×Str)->Str)(t:Tr)(c:List (List D×Str))(a b:Int),e=[dW fs an,jG t,.list (c.map dP),.tuple [.int a,.int b]]/\iG fs an/\FA fs an fa/\lQ fs an t/\t.dep<d/\gF fs an c/\c.length<=60/\0<=a/\a<=1000000000/\0<=b/\b<=1000000000/\Q (.tuple [.int (lw fs fa a b t c).1,jG (lw fs fa a b t c).2])
def Wb:kQ:=tN 13
def UN{Q:D->Prop}(h:tN 0 ds Q):False:=by
 obtain⟨_,_,_,_,_,_,_,_,_,_,_,h,_⟩:=h;lia
def Wa:kQ:=λd Q=>∃(fs:List (Str×List Str))(an:List Str)(fa:List (List D×Str)->Str)(t:Tr)(c:List (List D×Str))(a b:Int),d=[dW fs an,jG t,.list (c.map dP),.tuple [.int b,.int a]]/\iG fs an/\FA fs an fa/\lQ fs an t/\t.dep<13/\gF fs an c/\c.length<=60/\0<=a/\a<=1000000000/\0<=b/\b<=1000000000/\Q (jG (lw fs fa a b t c).2)
section
variable{fs:List (Str×List Str)}{fa:List (List D×Str)->Str}
theorem BK:∀(t:Tr)(a:List (List D×Str)),(AA fs fa t a).length=t.kn
|.say _,_=>rfl
|.ask k n v s y m,a=>by
 show(_::_:List _).length=y.kn+m.kn+1;rw[dB,bH,BK y,BK m]
theorem zQ:∀(l:List (Nat×Nat))(x p:Nat×Nat),kM x (l++[p])=oM (kM x l) p
|[],x,p=>rfl
|e::l,x,p=>zQ l (oM x e) p
theorem yQ(a b:Int):∀(t:Tr)(c:List (List D×Str)),(lw fs fa a b t c).2.dep<=t.dep
|.say z,c=>aN _
|.ask k n v s y m,c=>by
 have d:=yQ a b y (c.filter (iN fs k n v s));have e:=yQ a b m (c.filter λr=>!iN fs k n v s r);rw[nU];split
 ·exact cI _
 ·show max _ _+1<=max y.dep m.dep+1;lia
end
def tM(d:Nat):kQ:=λb Q=>∃(fs:List (Str×List Str))(an:List Str)(fa:List (List D×Str)->Str)(t:Tr)(a:List (List D×Str)),b=[dW fs an,jG t,.list (a.map dP)]/\iG fs an/\FA fs an fa/\lQ fs an t/\t.dep<d/\t.dep<=40/\t.kn<=100/\gF fs an a/\a.length<=60/\(∀e∈AA fs fa t a,0<=e.1)/\Q (.tuple [.int (eE fs t a:Nat),.list ((AA fs fa t a).map λe=>HD (lB e))])
def Xi:kQ:=tM 13
def UM{Q:D->Prop}(h:tM 0 ds Q):False:=by
 obtain⟨_,_,_,_,_,_,_,_,_,h,_⟩:=h;lia
def Xh:kQ:=λb Q=>∃(fs:List (Str×List Str))(an:List Str)(fa:List (List D×Str)->Str)(t:Tr)(a:List (List D×Str)),b=[dW fs an,jG t,.list (a.map dP)]/\iG fs an/\FA fs an fa/\lQ fs an t/\t.dep<=12/\t.kn<=12/\VG t=false/\gF fs an a/\a.length<=60/\(∀e∈AA fs fa t a,0<=e.1)/\Q (HD (fX fs fa t a))
def Xg:RL:=λb Q=>∃(fs:List (Str×List Str))(an:List Str)(fa:List (List D×Str)->Str)(T:Tr)(a:List (List D×Str)),b=[dW fs an,jG T,.list (a.map dP)]/\iG fs an/\FA fs an fa/\lQ fs an T/\T.dep<=12/\T.kn<=12/\gF fs an a/\a.length<=60/\Q ((rT fs fa T a).map Fg)
noncomputable def gJ(fs:Fs)(R:List Rw)(c:Ch):Bool:=!(yR fs c R).isEmpty&&!(nR fs c R).isEmpty
noncomputable def pF(fs:Fs)(fa:List Rw->Str)(a:Int)(R:List Rw):Int×Tr:=(a*(eE fs (.say (fa R)) R:Nat),.say (fa R))
noncomputable def oQ(b:Int)(c:Ch)(x y a:Int×Tr):Int×Tr:=if b+x.1+y.1<a.1 then(b+x.1+y.1,.ask c.1.1 c.1.2.1 c.1.2.2 c.2 x.2 y.2)else a
noncomputable def fG(fs:Fs)(fa:List Rw->Str)(a b:Int):Nat->List Rw->Int×Tr
|0,R=>pF fs fa a R
|d+1,R=>((jL fs).filter (gJ fs R)).foldl (λe c=>oQ b c (fG fs fa a b d (yR fs c R)) (fG fs fa a b d (nR fs c R)) e) (pF fs fa a R)
theorem CD{b a:Type}{P:a->Prop}{f:a->b->a}:∀{cs:List b}{x},P x->(∀c∈cs,∀y,P y->P (f y c))->P (cs.foldl f x)
|[],_,h,_=>h
|c::cs,x,h,k=>CD (cs:=cs) (k c (aU ..) x h) λd hd=>k d (aO _ hd)
theorem GI{d:Type}{g:d->Int×Tr->Int×Tr}(b:∀c y,(g c y).1<=y.1):∀(a:List d)(x:Int×Tr),(a.foldl (λt c=>g c t) x).1<=x.1
|[],_=>pA _
|c::a,x=>uQ (GI b a (g c x)) (b c x)
theorem OA{b:Type}{g:b->Int×Tr->Int×Tr}(d:∀c y,(g c y).1<=y.1){m:b->Int}(e:∀c y,(g c y).1<=m c):∀(a:List b)(x:Int×Tr)(c:b),c∈a->(a.foldl (λt c=>g c t) x).1<=m c
|c'::a,x,c,h=>by
 rcases aY.mp h with rfl | h
 ·exact uQ (GI d a (g c x)) (e c x)
 ·exact OA d e a (g c' x) c h
section
variable{fs:Fs}{fa:List Rw->Str}{a b:Int}
def NF(c:Ch)(x y t:Int×Tr):(oQ b c x y t).1<=t.1:=by
 unfold oQ;split
 ·rename_i h;exact Int.le_of_lt h
 ·exact pA _
def X2(c:Ch)(x y t:Int×Tr):(oQ b c x y t).1<=b+x.1+y.1:=by
 unfold oQ;split
 ·exact pA _
 ·rename_i h;exact Int.not_lt.mp h
noncomputable abbrev cC(fs:Fs)(fa:List Rw->Str)(a b:Int)(d:Nat)(R:List Rw)(c:Ch):Int:=b+(fG fs fa a b d (yR fs c R)).1+(fG fs fa a b d (nR fs c R)).1
def uZ(d:Nat)(R:List Rw):(fG fs fa a b d R).1<=(pF fs fa a R).1:=by
 cases d with
 |zero=>exact pA _
 |succ d=>exact GI (g:=λc t=>oQ b c (fG fs fa a b d (yR fs c R)) (fG fs fa a b d (nR fs c R)) t) (λc y=>NF c _ _ y) _ _
def MM{d:Nat}(e:c∈jL fs)(f:gJ fs R c=true):(fG fs fa a b (d+1) R).1<=cC fs fa a b d R c:=
 OA (g:=λc t=>oQ b c (fG fs fa a b d (yR fs c R)) (fG fs fa a b d (nR fs c R)) t) (m:=cC fs fa a b d R) (λc y=>NF c _ _ y) (λc y=>X2 c _ _ y) _ _ c (cM.mpr ⟨e,f⟩)
def ON(d:Nat)(R:List Rw):(fG fs fa a b (d+1) R).1=(pF fs fa a R).1\/∃c∈jL fs,gJ fs R c=true/\(fG fs fa a b (d+1) R).1=cC fs fa a b d R c:=by
 refine CD (P:=λt:Int×Tr=>t.1=(pF fs fa a R).1\/∃c∈jL fs,gJ fs R c=true/\t.1=cC fs fa a b d R c) (.inl Fc) λc g y h=>?_;obtain⟨e,f⟩:=cM.mp g;unfold oQ;split
 ·exact .inr ⟨c,e,f,Fc⟩
 ·exact h
theorem BB(e:0<=a)(f:0<=b):∀(d:Nat)(R:List Rw),0<=(fG fs fa a b d R).1
|0,R=>qO e (zG _)
|d+1,R=>by
 rcases ON (fs:=fs) (fa:=fa) (a:=a) (b:=b) d R with h | ⟨c,_,_,h⟩
 ·rw[h];exact qO e (zG _)
 ·rw[h];have g:=BB e f d (yR fs c R);have i:=BB e f d (nR fs c R);show 0<=b+_+_;lia
theorem zC:∀(d:Nat)(R:List Rw),(fG fs fa a b (d+1) R).1<=(fG fs fa a b d R).1
|0,R=>uZ 1 R
|d+1,R=>by
 rcases ON (fs:=fs) (fa:=fa) (a:=a) (b:=b) d R with h | ⟨c,e,f,h⟩
 ·rw[h];exact uZ _ R
 ·rw[h];refine uQ (MM e f) ?_;have g:=zC d (yR fs c R);have i:=zC d (nR fs c R);show b+_+_<=b+_+_;lia
def T0(h:gJ fs R c=false):(yR fs c R=[]/\nR fs c R=R)\/(yR fs c R=R/\nR fs c R=[]):=by
 unfold gJ at h;rw[Bool.and_eq_false_iff]at h;rcases h with h | h
 ·have d:yR fs c R=[]:=by simpa using h
  refine .inl ⟨d,RH.mpr λr e=>?_⟩;have:=KQ.mp d r e;simpa using this
 ·have d:nR fs c R=[]:=by simpa using h
  refine .inr ⟨RH.mpr λr e=>?_,d⟩;have:=KQ.mp d r e;simpa using this
def WM(h:0<=a)(i:0<=b)(d:Nat)(R:List Rw)(j:c∈jL fs):(fG fs fa a b (d+1) R).1<=cC fs fa a b d R c:=by
 cases g:gJ fs R c with
 |true=>exact MM j g
 |false=>
  have k:=BB (fs:=fs) (fa:=fa) h i d [];have l:=zC (fs:=fs) (fa:=fa) (a:=a) (b:=b) d R;unfold cC;rcases T0 g with⟨e,f⟩ | ⟨e,f⟩
  ·rw[e,f];lia
  ·rw[e,f];lia
noncomputable def IS(R:List Rw)(z:Str):Nat:=(R.filter λr=>!decide (r.2=z)).length
def F4(R:List Rw)(z:Str):IS R z+rH R z=R.length:=by
 unfold IS rH
 induction R with
 |nil=>rfl
 |cons r R c=>
  rw[cH,XS,dB];by_cases e:r.2=z
  ·rw[a6 (by simp[e]),a7 (a8 e)];lia
  ·rw[a7 (by simp[e]),a6 (by simp[e]),dB];lia
def wV(R:List Rw)(z:Str):eE fs (.say z) R=IS R z:=by
 unfold eE IS;congr 1;apply jB;intro r _;show(!decide (z=r.2))=!decide (r.2=z);congr 1;exact decide_eq_decide.mpr ⟨jp,jp⟩
def ZO{an:List Str}(g:xV an R (fa R))(f:0<=a):(pF fs fa a R).1∈an.map (λz=>a*(IS R z:Nat))/\∀m∈an.map (λz=>a*((IS R z:Nat):Int)),(pF fs fa a R).1<=m:=by
 obtain⟨k,c,d,_⟩:=g;have e:(pF fs fa a R).1=a*(IS R (fa R):Nat):=by show a*_=_;rw[wV]
 refine⟨by rw[e];exact aR.mpr ⟨_,aS c,Fc⟩,λm i=>?_⟩;obtain⟨z,l,rfl⟩:=aR.mp i;obtain⟨j,h⟩:=bP l;have n:=d j z h;have o:=F4 R z;have p:=F4 R (fa R);rw[e];exact jA Ez f
def Fj(fs:Fs)(an:List Str):Nat->Tr->Prop
|_,.say z=>z∈an
|0,.ask _ _ _ _ _ _=>False
|d+1,.ask k n v s y m=>(k,n,v)∈qs fs/\(s="yes"\/s="no")/\Fj fs an d y/\Fj fs an d m
theorem Fj.ok:∀{d:Nat}{t:Tr},Fj fs an d t->lQ fs an t/\t.dep<=d
|0,.say z,h=>⟨h,cI _⟩
|d+1,.say z,h=>⟨h,cI _⟩
|0,.ask _ _ _ _ _ _,h=>h.elim
|d+1,.ask k n v s y m,⟨h1,h2,h3,h4⟩=>by
 obtain⟨a1,a2⟩:=h3.ok;obtain⟨b1,c⟩:=h4.ok;refine⟨⟨yI h1,h2,a1,b1⟩,?_⟩;show max y.dep m.dep+1<=d+1;lia
theorem zB(f:FA fs an fa):∀(d:Nat)(R:List Rw),gF fs an R->Fj fs an d (fG fs fa a b d R).2/\(fG fs fa a b d R).1=a*(eE fs (fG fs fa a b d R).2 R:Nat)+b*((fG fs fa a b d R).2.kn:Nat)
|0,R,hR=>by
 obtain⟨k,g,_⟩:=f R hR;refine⟨aS g,?_⟩;show a*_=a*_+b*((0:Nat):Int);rw[show((0:Nat):Int)=0 from Fc,mG,pU];rfl
|d+1,R,hR=>by
 refine CD (P:=λt:Int×Tr=>Fj fs an (d+1) t.2/\t.1=a*(eE fs t.2 R:Nat)+b*(t.2.kn:Nat)) ?_ λc j y m=>?_
 ·obtain⟨k,g,_⟩:=f R hR;refine⟨aS g,?_⟩;show a*_=a*_+b*((0:Nat):Int);rw[show((0:Nat):Int)=0 from Fc,mG,pU];rfl
 ·obtain⟨g,p⟩:=cM.mp j;obtain⟨l,hs⟩:=yZ g;unfold oQ;split
  ·obtain⟨n,c1⟩:=zB f d (yR fs c R) (hR.filt _);obtain⟨o,h⟩:=zB f d (nR fs c R) (hR.filt _);refine⟨⟨l,hs,n,o⟩,?_⟩;have e:=tQ (fs:=fs) c.1.1 c.1.2.1 c.1.2.2 c.2 (fG fs fa a b d (yR fs c R)).2 (fG fs fa a b d (nR fs c R)).2 R;have i:(Tr.ask c.1.1 c.1.2.1 c.1.2.2 c.2 (fG fs fa a b d (yR fs c R)).2 (fG fs fa a b d (nR fs c R)).2).kn=(fG fs fa a b d (yR fs c R)).2.kn+(fG fs fa a b d (nR fs c R)).2.kn+1:=rfl;show b+(fG fs fa a b d (yR fs c R)).1+(fG fs fa a b d (nR fs c R)).1=a*(eE fs (Tr.ask c.1.1 c.1.2.1 c.1.2.2 c.2 (fG fs fa a b d (yR fs c R)).2 (fG fs fa a b d (nR fs c R)).2) R:Nat)+b*((Tr.ask c.1.1 c.1.2.1 c.1.2.2 c.2 (fG fs fa a b d (yR fs c R)).2 (fG fs fa a b d (nR fs c R)).2).kn:Nat);rw[e,i,c1,h,fU,fU,fU,kD,kD,kD];show b+(a*((eE fs (fG fs fa a b d (yR fs c R)).2 (yR fs c R):Nat):Int)+_)+(a*((eE fs (fG fs fa a b d (nR fs c R)).2 (nR fs c R):Nat):Int)+_)=a*((eE fs (fG fs fa a b d (yR fs c R)).2 (yR fs c R):Nat):Int)+a*((eE fs (fG fs fa a b d (nR fs c R)).2 (nR fs c R):Nat):Int)+(_+_+b*((1:Nat):Int));rw[show((1:Nat):Int)=1 from Fc,wL];lia
  ·exact m
end
noncomputable def eS(ns:List Nat):D:=.tuple (ns.map λ(i:Nat)=>aP (i:Int))
noncomputable def bL(a:List Rw)(ns:List Nat):List Rw:=ns.filterMap λi=>a[i]?
noncomputable def P6(fs:Fs)(a:List Rw)(c:Ch)(i:Nat):Bool:=match a[i]? with | some r=>W9 fs c r | none=>false
noncomputable abbrev yN(fs:Fs)(a:List Rw)(c:Ch)(ns:List Nat):List Nat:=ns.filter (P6 fs a c)
noncomputable abbrev nN(fs:Fs)(a:List Rw)(c:Ch)(ns:List Nat):List Nat:=ns.filter λi=>!P6 fs a c i
abbrev nD(a:List Rw)(ns:List Nat):Prop:=ns.Sublist (cK a.length)
def nD.lt{a:List Rw}(h:nD a ns){i:Nat}(b:i∈ns):i<a.length:=nQ.mp (h.subset b)
def nD.len{a:List Rw}{ns:List Nat}(h:nD a ns):ns.length<=a.length:=by
 have:=h.length_le
 rwa [fL]at this
def nD.filt{ns:List Nat}(h:nD rs ns)(p:Nat->Bool):nD rs (ns.filter p):=List.filter_sublist.trans h
theorem FQ{fs}{rs:List Rw}:∀{ns},(∀i∈ns,i<rs.length)->bL rs (yN fs rs c ns)=yR fs c (bL rs ns)/\bL rs (nN fs rs c ns)=nR fs c (bL rs ns)
|[],_=>⟨Fc,Fc⟩
|i::ns,h=>by
 have k:=h i (aU ..);obtain⟨d,e⟩:=FQ (fs:=fs) (rs:=rs) (c:=c) (ns:=ns) λj m=>h j (aO _ m);have b:rs[i]?=some rs[i]:=aD k;have g:P6 fs rs c i=W9 fs c rs[i]:=by unfold P6;rw[b]
 have f:bL rs (i::ns)=rs[i]::bL rs ns:=by unfold bL;rw[gD,b]
 have a:∀l:List Nat,bL rs (i::l)=rs[i]::bL rs l:=λl=>by unfold bL;rw[gD,b]
 unfold yN nN yR nR at *;rw[f,cH,cH,cH,cH,g]
 cases W9 fs c rs[i]with
 |true=>exact⟨by rw[a7 Fc,a7 Fc,a,d],by rw[a6 Ey,a6 Ey,e]⟩
 |false=>exact⟨by rw[a6 Ey,a6 Ey,d],by rw[a7 Ey,a7 Ey,a,e]⟩
theorem wX{rs:List Rw}:∀{ns:List Nat},(∀i∈ns,i<rs.length)->(bL rs ns).length=ns.length
|[],_=>rfl
|i::ns,h=>by
 have b:rs[i]?=some (rs[i]'(h i (aU ..))):=aD _;have a:=wX (rs:=rs) (ns:=ns) λj c=>h j (aO _ c);unfold bL at a |-
 rw[gD,b,dB,a];rfl
def SU(h:r∈bL rs ns):r∈rs:=by
 obtain⟨i,_,e⟩:=yC.mp h;exact aS e
def NK{fs}(h:gF fs an rs)(ns:List Nat):gF fs an (bL rs ns):=λr a=>h r (SU a)
def IL(a:List Rw):bL a (cK a.length)=a:=by
 unfold bL;apply gY;intro i
 have:∀n,n<=a.length->(cK n).filterMap (λi=>a[i]?)=a.take n:=λn=>by
  induction n with
  |zero=>intro _;simp
  |succ n b=>
   intro c;rw[uO,M3,b Ez,cU];congr 1
 rw[this a.length (aN _),dA]
def A0:∀{a b},eS a=eS b->a=b:=λ{a b} h=>by
 have h:gE _=gE _:=h;injection h with h
 have:=e7 (FE λd:D=>match d with | .int i=>i.toNat | _=>0) h;simpa only[bM,gh,dX,List.map_id']using this
noncomputable def mW(p:Int×Tr):D:=.tuple [.int p.1,jG p.2]
noncomputable def JM(ns:List Nat)(d:Nat):D:=.tuple [eS ns,.int (d:Nat)]
noncomputable def YL(fs:Fs)(a:List Rw)(c:Ch):D:=.list (a.map λr=>aV (fP fs c.1.1 c.1.2.1 c.1.2.2 c.2 r.1))
noncomputable def Fz(fs:Fs)(a:List Rw)(c:Ch):D:=.tuple [qD c.1,.str c.2,YL fs a c]
noncomputable def fR:List Str:=["form","kept","slip","knot","choices"]
noncomputable def oK(C:Addr)(fs:Fs)(an:List Str)(c:List Rw)(a b:Int):D:=LY C fR [dW fs an,.list (c.map dP),.int a,.int b,.list ((jL fs).map (Fz fs c))]
noncomputable def PV(fs:Fs)(a:List Rw)(ns:List Nat)(c:Ch):D:=.tuple [qD c.1,.str c.2,eS (yN fs a c ns),eS (nN fs a c ns)]
structure sR(fs:Fs)(an:List Str)(fa:List Rw->Str)(rs:List Rw)(a b:Int):Prop where
 F:iG fs an
 fa:FA fs an fa
 R:gF fs an rs
 l:rs.length<=60
 a0:0<=a
 a1:a<=1000000
 b0:0<=b
 b1:b<=1000000
def Ve:kQ:=λb Q=>∃(fs:Fs)(an:List Str)(c:Ch)(a:List Rw),b=[dW fs an,XE c,.list (a.map dP)]/\iG fs an/\c∈jL fs/\gF fs an a/\a.length<=60/\Q (YL fs a c)
def Ot:Gd:=λd Q=>∃(fs:Fs)(an:List Str)(c:List Rw)(a b:Int),d=[dW fs an,.list (c.map dP),.tuple [.int a,.int b]]/\iG fs an/\gF fs an c/\c.length<=60/\Q [dW fs an,.list (c.map dP),.int a,.int b,.list ((jL fs).map (Fz fs c))]
def Ou(w:c7)(C:Addr):kQ:=λd Q=>∃(fs:Fs)(an:List Str)(fa:List Rw->Str)(c:List Rw)(a b:Int)(ns:List Nat),d=[oK C fs an c a b,eS ns]/\sR fs an fa c a b/\nD c ns/\Q (mW (pF fs fa a (bL c ns)))
def Ov(w:c7)(C:Addr):kQ:=λd Q=>∃(fs:Fs)(an:List Str)(fa:List Rw->Str)(c:List Rw)(a b:Int)(ns:List Nat),d=[oK C fs an c a b,eS ns]/\sR fs an fa c a b/\nD c ns/\Q (.list (((jL fs).filter (gJ fs (bL c ns))).map (PV fs c ns)))
def Vs(w:c7)(C:Addr):kQ:=λf Q=>∃(fs:Fs)(an:List Str)(fa:List Rw->Str)(e:List Rw)(a b:Int)(c:List (D×D))(ns:List Nat)(d:Nat),f=[oK C fs an e a b,mC w c,eS ns,.int (d:Nat)]/\sR fs an fa e a b/\nD e ns/\(∀kv∈c,jX kv.1)/\(d=0\/(JM ns d,mW (fG fs fa a b d (bL e ns)))∈c)/\Q (mW (fG fs fa a b d (bL e ns)))
def Gk(fs:Fs)(fa:List Rw->Str)(e:List Rw)(a b:Int)(c:List (D×D))(d:Nat)(ns:List Nat):Prop:=d=0\/(JM ns d,mW (fG fs fa a b d (bL e ns)))∈c
def Vr(w:c7)(C:Addr):kQ:=λg Q=>∃(fs:Fs)(an:List Str)(fa:List Rw->Str)(f:List Rw)(a b:Int)(e:List (D×D))(ns:List Nat)(d:Nat),g=[oK C fs an f a b,mC w e,eS ns,.int ((d+1:Nat):Int)]/\sR fs an fa f a b/\nD f ns/\(∀kv∈e,jX kv.1)/\(∀c∈jL fs,gJ fs (bL f ns) c=true->Gk fs fa f a b e d (yN fs f c ns)/\Gk fs fa f a b e d (nN fs f c ns))/\Q (mW (fG fs fa a b (d+1) (bL f ns)))
def Vq(w:c7)(C:Addr):kQ:=λg Q=>∃(fs:Fs)(an:List Str)(fa:List Rw->Str)(d:List Rw)(a b:Int)(f:List (List Nat)),g=[oK C fs an d a b,.list (f.map eS)]/\sR fs an fa d a b/\f.length<=400/\(∀x∈f,nD d x)/\∀e:List (List Nat),e.Nodup->e.length<=2*(jL fs).length*f.length->(∀x∈e,nD d x/\x≠[]) ->
 (∀ns∈f,∀c∈jL fs,gJ fs (bL d ns) c=true->yN fs d c ns∈e/\nN fs d c ns∈e)->Q (.list (e.map eS))
noncomputable def kY(x:List Nat×Nat):D:=JM x.1 x.2
def Mq(fs:Fs)(a:List Rw)(ks:List (List Nat×Nat)):Prop:=∀(i:Nat)(x:List Nat)(d:Nat),ks[i]?=some (x,d+2)->∀c∈jL fs,gJ fs (bL a x) c=true->(∃j,i<j/\ks[j]?=some (yN fs a c x,d+1))/\∃j,i<j/\ks[j]?=some (nN fs a c x,d+1)
def C4(fs:Fs)(a:List Rw)(ns:List Nat)(dp:Nat)(ks:List (List Nat×Nat)):Prop:=ks.Nodup/\ks.length<=400/\(∀x∈ks,nD a x.1/\1<=x.2/\x.2<=3/\x.1≠[])/\(0<dp->(ns,dp)∈ks)/\∀x d,(x,d+2)∈ks->∀c∈jL fs,gJ fs (bL a x) c=true->(yN fs a c x,d+1)∈ks/\(nN fs a c x,d+1)∈ks
noncomputable def Jc:D->D
|.tuple [.tuple k,.tuple (c::_)]=>.tuple (k++[c])
|_=>.none
noncomputable def xN(fs:Fs)(fa:List Rw->Str)(a b:Int)(c:List Rw)(x:List Nat×Nat):D:=.tuple [eS x.1,.int (x.2:Nat),.int (fG fs fa a b x.2 (bL c x.1)).1]
def tU{a:List Sl}{i:Nat}(c:i<a.length)(d:∀(j:Nat)(hs:List Int)(b:List (D×D)),a[j]?≠some (.dic hs b))(k:u DT (a.set i (pS w []))):gI (SO i) u DT a:=⟨c,d,k⟩
def yM{d tv:ET}{c:vO}{b:List Sl}{i:Nat}{a:List (D×D)}(k v:D)(h:b[i]?=some (pS w a))(j:∀q:D->Prop,q v->tv (b.set i (.val (mC w a))) q)(hd:v.hasDict=false)(hk:∀q:D->Prop,q k->d (b.set i (.val (mC w a))) q)(e:GZ k)(f:∀kv∈a,jX kv.1)(g:a.length<=100000)(l:c.nx (b.set i (pS w (vS a k v)))):K4 w i d tv c b:=⟨a,h,j _ ⟨hd,hk _ ⟨e,f,g,l⟩⟩⟩
def PN{c tv:ET}{b:List Sl}{i:Nat}{a:List (D×D)}(k v:D)(h:b[i]?=some (pS w a))(g:∀q:D->Prop,q v->tv (b.set i (.val (mC w a))) q)(hd:v.hasDict=false)(hk:∀q:D->Prop,q k->c (b.set i (.val (mC w a))) q)(d:GZ k)(e:∀kv∈a,jX kv.1)(f:a.length<=100000)(j:u DT (b.set i (pS w (vS a k v)))):gI (K4 w i c tv) u DT b:=⟨a,h,g _ ⟨hd,hk _ ⟨d,e,f,j⟩⟩⟩
theorem xK:∀ns:List Nat,hkAll (ns.map λ(i:Nat)=>aP (i:Int))=true/\dJ (ns.map λ(i:Nat)=>aP (i:Int))=0
|[]=>⟨Fc,Fc⟩
|n::ns=>by
 have:=xK ns;refine⟨?_,?_⟩
 ·show(true&&hkAll (ns.map λ(i:Nat)=>aP (i:Int)))=true;rw[this.1];rfl
 ·show max 0 (dJ (ns.map λ(i:Nat)=>aP (i:Int)))=0;rw[this.2];rfl
def uW(ns:List Nat):GZ (eS ns):=by
 obtain⟨a,b⟩:=xK ns;refine⟨⟨a,?_⟩,_,Fc⟩;show dJ _+1<=8;rw[b];decide
def kW(ns:List Nat)(d:Nat):GZ (JM ns d):=by
 obtain⟨a,b⟩:=xK ns;refine⟨⟨?_,?_⟩,_,Fc⟩
 ·show(hkAll (ns.map λ(i:Nat)=>aP (i:Int))&&true)=true;rw[a];rfl
 ·show max (dJ _+1) (max 0 0)+1<=8;rw[b];decide
def N5{d e:Nat}(h:JM xs d=JM ys e):xs=ys/\d=e:=by
 have h:gE _=gE _:=h;injection h with h
 injection h with b h
 injection h with a _
 injection a with a
 exact⟨A0 b,sY.inj a⟩
theorem R5:∀t:Tr,(jG t).hasDict=false
|.say _=>rfl
|.ask k n v s y m=>by
 show(fJ (.str "ask")||(fJ (.tuple [.str k,.str n,.str v])||(fJ (.str s)||(fJ (jG y)||(fJ (jG m)||false)))))=false;rw[R5 y,R5 m];rfl
def aC0(p:Int×Tr):(mW p).hasDict=false:=by
 show(false||(fJ (jG p.2)||false))=false;rw[R5];rfl
def EG(a b c d e:D):(fR.zip [a,b,c,d,e]).lookup ("form":Str)=some a/\(fR.zip [a,b,c,d,e]).lookup ("kept":Str)=some b/\(fR.zip [a,b,c,d,e]).lookup ("slip":Str)=some c/\(fR.zip [a,b,c,d,e]).lookup ("knot":Str)=some d/\(fR.zip [a,b,c,d,e]).lookup ("choices":Str)=some e:=by
 have n1:(("kept":Str)=="form")=false:=by decide +kernel
 have g:(("slip":Str)=="form")=false:=by decide +kernel
 have h:(("slip":Str)=="kept")=false:=by decide +kernel
 have n4:(("knot":Str)=="form")=false:=by decide +kernel
 have n5:(("knot":Str)=="kept")=false:=by decide +kernel
 have i:(("knot":Str)=="slip")=false:=by decide +kernel
 have j:(("choices":Str)=="form")=false:=by decide +kernel
 have k:(("choices":Str)=="kept")=false:=by decide +kernel
 have l:(("choices":Str)=="slip")=false:=by decide +kernel
 have f:(("choices":Str)=="knot")=false:=by decide +kernel
 unfold fR;simp only[List.zip_cons_cons,gW,ii,n1,g,h,n4,n5,i,j,k,l,f,and_self]
theorem FR{rs:List Rw}:∀{ns:List Nat},(∀i∈ns,i<rs.length)->(ns.map λ(i:Nat)=>aP (i:Int)).map (qX rs)=(bL rs ns).map dP
|[],_=>rfl
|i::ns,h=>by
 have c:=h i (aU ..);have e:=FR (rs:=rs) (ns:=ns) λj d=>h j (aO _ d);have a:rs[i]?=some rs[i]:=aD c;have b:bL rs (i::ns)=rs[i]::bL rs ns:=by unfold bL;rw[gD,a]
 rw[bE,bE,e,b,bE];congr 1;show(match L2.atI rs (i:Int)with | some r=>dP r | none=>vD)=_;rw[L2.fC a]
theorem SJ{fs}{a:List Rw}{c:Ch}(F:iG fs an)(l:c∈jL fs)(k:gF fs an a):∀{ns:List Nat},(∀i∈ns,i<a.length) ->
 (ns.map λ(i:Nat)=>aP (i:Int)).filter (nT fs c.1.1 c.1.2.1 c.1.2.2 c.2 a "yes")=(yN fs a c ns).map (λ(i:Nat)=>aP (i:Int)) /\
 (ns.map λ(i:Nat)=>aP (i:Int)).filter (nT fs c.1.1 c.1.2.1 c.1.2.2 c.2 a "no")=(nN fs a c ns).map (λ(i:Nat)=>aP (i:Int))
|[],_=>⟨Fc,Fc⟩
|i::ns,h=>by
 have m:=h i (aU ..);obtain⟨o,p⟩:=SJ F l k (ns:=ns) λj s=>h j (aO _ s);have g:a[i]?=some a[i]:=aD m;have q:P6 fs a c i=W9 fs c a[i]:=by unfold P6;rw[g]
 obtain⟨t,hs⟩:=yZ l;have f:=AV F (yI t) hs (k _ (fK m)).1
 have n:∀w,nT fs c.1.1 c.1.2.1 c.1.2.2 c.2 a w (.int (i:Int))=decide (fP fs c.1.1 c.1.2.1 c.1.2.2 c.2 a[i].1=w):=λw=>by
  show(match L2.atI a (i:Int)with | some r=>decide (fP fs c.1.1 c.1.2.1 c.1.2.2 c.2 r.1=w) | none=>false)=_;rw[L2.fC g]
 have u:W9 fs c a[i]=decide (fP fs c.1.1 c.1.2.1 c.1.2.2 c.2 a[i].1="yes"):=rfl;unfold yN nN at *;rw[bE,cH,cH,cH,cH,q,u,n,n,o,p];rcases f with e | e
 ·rw[e];have b:decide (("yes":Str)="yes")=true:=by decide +kernel
  have d:decide (("yes":Str)="no")=false:=by decide +kernel
  rw[b,d];exact⟨Fc,Fc⟩
 ·rw[e];have b:decide (("no":Str)="yes")=false:=by decide +kernel
  have d:decide (("no":Str)="no")=true:=by decide +kernel
  rw[b,d];exact⟨Fc,Fc⟩
def BY{fs}{rs:List Rw}(h:∀i∈ns,i<rs.length):gJ fs (bL rs ns) c=(!(yN fs rs c ns).isEmpty&&!(nN fs rs c ns).isEmpty):=by
 obtain⟨d,e⟩:=FQ (fs:=fs) (rs:=rs) (c:=c) h
 have b:∀l:List Nat,(∀i∈l,i<rs.length)->(bL rs l).isEmpty=l.isEmpty:=λl f=>by
  have:=wX f;rw[mV,AQ,AQ,this]
 unfold gJ;rw[<- d,<- e,b _ λi a=>h i (cM.mp a).1,b _ λi a=>h i (cM.mp a).1]
def ZN(c:xV an R z){m:Int}(e:m∈kB an R)(f:∀n∈kB an R,n<=m):m=(rH R z:Int):=by
 obtain⟨k,a,b,_⟩:=c;have h:=f _ (aR.mpr ⟨z,aS a,Fc⟩);obtain⟨y,g,rfl⟩:=aR.mp e;obtain⟨j,d⟩:=bP g;have i:=b j y d;lia
noncomputable def yV{a:Type}[DecidableEq a](b:List a)(x:a):List a:=if x∈b then b else b++[x]
def mJ{a:Type}[DecidableEq a]{b:List a}{x y:a}:y∈yV b x↔y∈b\/y=x:=by
 unfold yV;split
 ·rename_i h;exact⟨.inl,λz=>z.elim id λe=>by rw[e];exact h⟩
 ·rw[dZ,dF]
def VH{d:Type}[DecidableEq d]{c:List d}{x}(h:c.Nodup):(yV c x).Nodup:=by
 unfold yV;split
 ·exact h
 ·rename_i i;rw[rM];exact⟨h,Fa,λa f b g=>by rw[dF.mp g];exactλe=>i (e▸f)⟩
def GF{a:Type}[DecidableEq a](b:List a)(x:a):(yV b x).length<=b.length+1:=by
 unfold yV;split
 ·lia
 ·rw[bH];exact aN _
noncomputable def nJ{a:Type}(b:a->D)(c:List a):List (D×D):=c.map λy=>(b y,.bool true)
def wS{c:Type}(a:c->D)(b:List c):(nJ a b).map (·.1)=b.map a:=by
 unfold nJ;rw[bM];rfl
def xA{c:Type}[DecidableEq c]{a:c->D}(inj:∀x y,a x=a y->x=y)(b:List c)(x:c):vS (nJ a b) (a x) (.bool true)=nJ a (yV b x):=by
 have d:a x∈(nJ a b).map (·.1)↔x∈b:=by
  rw[wS,aR];exact⟨λ⟨y,f,e⟩=>inj y x e▸f,λh=>⟨x,h,Fc⟩⟩
 unfold vS yV;by_cases h:x∈b
 ·rw[a7 (d.mpr h),a7 h];unfold nJ;rw[bM];apply iJ;intro y _;show(if a y=a x then(a y,oJ true)else(a y,oJ true))=_;split<;>rfl
 ·rw[a6 (λz=>h (d.mp z)),a6 h];unfold nJ;rw[bB];rfl
def K1{b:Type}{kf:b->D}(hk:∀x,jX (kf x))(c:List b):∀a∈nJ kf c,jX a.1:=λa h=>by
 obtain⟨y,_,rfl⟩:=aR.mp h;exact hk y
def xI(x y:List Nat×Nat)(h:kY x=kY y):x=y:=Prod.ext (N5 h).1 (N5 h).2
def Z5{b:Type}[DecidableEq b]{a:List b}{x:b}(h:x∉a):yV a x=a++[x]:=a6 h
def NQ{a:List (D×D)}(h:k∉a.map (·.1)):vS a k v=a++[(k,v)]:=a6 h
structure KB(fs:Fs)(rs:List Rw)(ns:List Nat)(dp k:Nat)(ks:List (List Nat×Nat))(lv:List (List Nat)):Prop where
 nd:ks.Nodup
 nl:lv.Nodup
 lo:∀x∈lv,nD rs x
 ko:∀x∈ks,nD rs x.1/\dp<x.2+k/\x.2<=dp/\1<=x.2
 z0:k=0->lv=[ns]/\ks=[]
 z1:0<k->(ns,dp)∈ks
 fed:∀(i:Nat)(x:List Nat)(d:Nat),ks[i]?=some (x,d+2)->∀c∈jL fs,gJ fs (bL rs x) c=true->((∃j,i<j/\ks[j]?=some (yN fs rs c x,d+1))\/(d+1+k=dp/\yN fs rs c x∈lv))/\((∃j,i<j/\ks[j]?=some (nN fs rs c x,d+1))\/(d+1+k=dp/\nN fs rs c x∈lv))
def KB.step{fs}{dp k:Nat}{g f:List (List Nat)}(m:KB fs rs ns dp k ks g)(hk:k<dp)(nl:f.Nodup)(lo:∀x∈f,nD rs x)
  (hs:k+1<dp->∀x∈g,∀c∈jL fs,gJ fs (bL rs x) c=true->yN fs rs c x∈f/\nN fs rs c x∈f):KB fs rs ns dp (k+1) (ks++g.map λx=>(x,dp-k)) f:=by
 have p:∀s,s∈g->∀i,i<ks.length->∃j,i<j/\(ks++g.map λx=>(x,dp-k))[j]?=some (s,dp-k):=λs hs i n=>by
  obtain⟨j,I⟩:=bP hs;refine⟨ks.length+j,Ez,?_⟩;rw[eJ Ez,aI,show ks.length+j-ks.length=j by lia,I];rfl
 refine⟨?_,nl,lo,λx hx=>?_,λz=>a9 z (aA3 _),λ_=>?_,λi x d n c A C=>?_⟩
 ·rw[rM];refine⟨m.nd,?_,λa G b H=>?_⟩
  ·exact HL.map _ (λa b (h:a≠b) e=>h (e7 Prod.fst e)) m.nl
  ·obtain⟨y,_,rfl⟩:=aR.mp H;rintro rfl;have:=(m.ko _ G).2.1;dsimp only at this;lia
 ·rcases dZ.mp hx with hx | hx
  ·obtain⟨o,l,E,F⟩:=m.ko x hx;exact⟨o,Ez,E,F⟩
  ·obtain⟨y,u,rfl⟩:=aR.mp hx;exact⟨m.lo y u,by dsimp only;lia,by dsimp only;lia,by dsimp only;lia⟩
 ·by_cases w:k=0
  ·obtain⟨q,v⟩:=m.z0 w;rw[q,v,w];exact dF.mpr Fc
  ·exact iX _ (m.z1 Ez)
 ·by_cases B:i<ks.length
  ·rw[eB B]at n;obtain⟨f1,f2⟩:=m.fed i x d n c A C
   have go:∀s,((∃j,i<j/\ks[j]?=some (s,d+1))\/(d+1+k=dp/\s∈g))->(∃j,i<j/\(ks++g.map λx=>(x,dp-k))[j]?=some (s,d+1))\/(d+1+(k+1)=dp/\s∈f):=λs h=>by
    rcases h with⟨j,o,l⟩ | ⟨o,l⟩
    ·exact .inl ⟨j,o,by rw[eB (aE.mp l).1];exact l⟩
    ·obtain⟨j,r,t⟩:=p s l i B;exact .inl ⟨j,r,by rw[t];congr 2;lia⟩
   exact⟨go _ f1,go _ f2⟩
  ·rw[eJ Ez,aI]at n;obtain⟨y,u,e⟩:=bU.mp n;injection e with q v
   subst q;obtain⟨r,t⟩:=hs Ez y (aS u) c A C;exact⟨.inr ⟨Ez,r⟩,.inr ⟨Ez,t⟩⟩
def KB.fin{fs}{dp:Nat}(m:KB fs rs ns dp dp ks lv):Mq fs rs ks:=λi x d b c a e=>by
 obtain⟨f1,f2⟩:=m.fed i x d b c a e;exact⟨f1.elim id λh=>a9 h.1 Ez,f2.elim id λh=>a9 h.1 Ez⟩
def NA:("leaf_of":Str)∉fR:=by decide +kernel
def M8:("partings":Str)∉fR:=by decide +kernel
def _root_.L2.Room.u9{k:Nat}{A:d0}(r:Room k A):A.units+9<u7:=by have:=r.un;lia
def T5{c:ET}{b:vO}{a:List Sl}{i:Nat}(R:D->Prop)(h:∀q:D->Prop,(∀v,R v->q v)->c a q)(k:∀v,R v->b.nx (a.set i (.val v))):FP i c b a:=h _ k
def Re{fs}(F:iG fs an)(h:q∈qs fs):vU (qD q) (.list ((qs fs).map qD))/\A7 (qD q) (.list ((qs fs).map qD))=true:=by
 have a:qD q∈eO fs:=by rw[<- oX];exact aR.mpr ⟨q,h,Fc⟩
 have t:=DY F _ a;obtain⟨_,_,_,_,c,b⟩:=tG (DY F);rw[oX];refine⟨⟨b,t.lay,Ez⟩,?_⟩;show((eO fs).any λz=>dU z (qD q))=true;rw[sT];exact⟨qD q,a,bf _ t.lay⟩
def L0:∀y∈(["yes","no"]:List Str),yP y=true:=by decide +kernel
def Kh(h:yP z=true):Cd (.str z):=(nX h (n:=8) (m:=0) (aN _)).cd Ey
def VI{s:Str}(h:s="yes"\/s="no"):vU (.str s) (.tuple [.str "yes",.str "no"])/\A7 (.str s) (.tuple [.str "yes",.str "no"])=true:=by
 have a:s∈(["yes","no"]:List Str):=by rcases h with rfl | rfl<;>decide +kernel
 refine⟨AZ L0 (Kh (L0 s a)),?_⟩;show(((["yes","no"]:List Str).map aV).any λy=>dU y (.str s))=true;rw[xS];exact a8 a
def IK{e:ET}{d:List Sl}{i j l:Nat}(h:∀q:D->Prop,q (.tuple [a,b,c])->e d q)(k:u DT (((d.set i (.val a)).set j (.val b)).set l (.val c))):gI (Lp e (Gr i j l)) u DT d:=h _ ⟨a,b,c,Fc,k⟩
noncomputable def KV(fs:Fs)(fa:List Rw->Str)(a b:Int)(c:List Rw)(ks:List (List Nat×Nat)):List (D×D):=ks.map λx=>(kY x,aP (fG fs fa a b x.2 (bL c x.1)).1)
theorem uB:∀ns:List Nat,dO (ns.map λ(i:Nat)=>aP (i:Int))=true
|[]=>rfl
|i::ns=>by
 show(PyData.canLay0 (.int (i:Int))&&dO (ns.map λ(i:Nat)=>aP (i:Int)))=true;rw[uB ns];rfl
def UD{y:List Nat}{n:Nat}(h:y≠[])(c:∀i∈y,i<n):∃d b:Nat,L2.atI (y.map λ(i:Nat)=>aP (i:Int)) 0=some (.int (d:Nat))/\L2.atI (y.map λ(i:Nat)=>aP (i:Int)) (-1)=some (.int (b:Nat))/\b<n:=by
 refine⟨y.head h,y.getLast h,?_,?_,c _ (XQ h)⟩
 ·refine L2.fC (j:=0) ?_
  cases y with
  |nil=>exact a9 Fc h
  |cons a l=>rfl
 ·have e:=(DF h).symm
  conv=>lhs;rw[e]
  rw[bB];exact L2.WQ _ _
theorem B7:∀{l},(∀x∈l,x.canLay0=true)->dO l=true
|[],_=>rfl
|a::l,h=>by
 show(a.canLay0&&dO l)=true;rw[h a (aU ..),B7 λx b=>h x (aO _ b)];rfl
noncomputable def Fp(s:Str):Str:=if s="yes" then "no" else "yes"
def T1(s:Str):Fp s="yes"\/Fp s="no":=by
 unfold Fp;split
 ·exact .inr Fc
 ·exact .inl Fc
noncomputable def yD(f:Str×List Str)(k v st:Str)(c:D):Bool:=decide (BQ f k v st c="yes")
def qQ(f:Str×List Str)(k v st:Str):yD f k v st .none=decide (st="yes"):=rfl
def FJ(f:Str×List Str)(v st z:Str):yD f "is" v st (.str z)=decide (z=v):=by
 show decide ((if("is":Str)="is" then(if z=v then("yes":Str)else "no")else if f.2.idxOf z<=f.2.idxOf v then("yes":Str)else "no")="yes")=_;rw[a7 rfl];by_cases e:z=v
 ·rw[a7 e,a8 e];rfl
 ·rw[a6 e,c4 e];rfl
def RX(f:Str×List Str)(v st z:Str):yD f "upto" v st (.str z)=decide (f.2.idxOf z<=f.2.idxOf v):=by
 show decide ((if("upto":Str)="is" then(if z=v then("yes":Str)else "no")else if f.2.idxOf z<=f.2.idxOf v then("yes":Str)else "no")="yes")=_;rw[a6 Ey];by_cases e:f.2.idxOf z<=f.2.idxOf v
 ·rw[a7 e,a8 e];rfl
 ·rw[a6 e,c4 e];rfl
def NW{st:Str}(h:st="yes"\/st="no"):decide (st="yes")=(true ^^ decide (Fp st="yes")):=by
 rcases h with rfl | rfl<;>rfl
def Fd(f:Str×List Str)(k v st:Str):Prop:=∃b d a:Str,EB b f d∈IN f/\(a="yes"\/a="no")/\∃e:Bool,∀c,XA f c=true->yD f k v st c=(e ^^ yD f b d a c)
def Fd.turn{st}(h:Fd f k2 v2 sr)(b:Bool)(g:∀c,XA f c=true->yD f k v st c=(b ^^ yD f k2 v2 sr c)):Fd f k v st:=by
 obtain⟨m,n,a,i,j,e,l⟩:=h;exact⟨m,n,a,i,j,b ^^ e,λc d=>by rw[g c d,l c d,Bool.xor_assoc]⟩
def Fd.self{k v st:Str}(h:EB k f v∈IN f)(hs:st="yes"\/st="no"):Fd f k v st:=⟨k,v,st,h,hs,false,λc _=>(qE _).symm⟩
def LI{f:Str×List Str}(h:XA f c=true){P:D->Prop}(a:P .none)(b:∀z∈f.2,P (.str z)):P c:=by
 cases c with
 |none=>exact a
 |str z=>exact b z (b8 h)
 |_=>cases h
def LO{f:Str×List Str}{v st:Str}(d:f.2.Nodup)(a:v∈f.2)(hs:st="yes"\/st="no"):Fd f "is" v st:=by
 by_cases g:f.2.length=2
 ·obtain⟨n,vs⟩:=f;dsimp only at g d a
  match vs,g,d,a with
  |[x,y],_,d,a=>
   have h:EB "is" (n,[x,y]) x∈IN (n,[x,y]):=iX _ (aU ..);have b:x≠y:=λe=>(mU.mp d).1 (by rw[e];exact aU ..);simp only[aY,dR,j3]at a;rcases a with rfl | rfl
   ·exact .self h hs
   ·refine(Fd.self h (T1 st)).turn true λc j=>LI (P:=λc=>yD _ _ _ _ c=(true ^^ yD _ _ _ _ c)) j ?_ λz i=>?_
    ·rw[qQ,qQ];exact NW hs
    ·rw[FJ,FJ];simp only[aY,dR,j3]at i;rcases i with rfl | rfl
     ·rw[c4 b,a8 rfl];rfl
     ·rw[a8 Fc,c4 λe=>b e.symm];rfl
 ·refine .self (iX _ (aR.mpr ⟨v,?_,Fc⟩)) hs;unfold pR;rw[a6 g];exact a
def VM{a:List Str}(e:z∈a)(d:v∈a)(h:a.idxOf z=a.idxOf v):z=v:=by
 have b:=gB.mpr e;have c:=gB.mpr d;rw[<- jN b,<- jN c];congr 1
def Yu{f:Str×List Str}{v st:Str}(g:f.2.Nodup)(j:v∈f.2)(p:f.2.idxOf v+1<f.2.length)(hs:st="yes"\/st="no"):Fd f "upto" v st:=by
 by_cases n:f.2.idxOf v=0
 ·refine(LO g j hs).turn false λc d=>LI (P:=λc=>yD _ _ _ _ c=(false ^^ yD _ _ _ _ c)) d ?_ λz b=>?_
  ·rw[qQ,qQ,qE]
  ·rw[RX,FJ,qE];refine decide_eq_decide.mpr ⟨λh=>VM b j Ez,λh=>by rw[h];exact aN _⟩
 ·by_cases o:f.2.idxOf v+2=f.2.length
  ·have k:f.2.length-1<f.2.length:=by lia
   have hw:f.2.idxOf f.2[f.2.length-1]=f.2.length-1:=g.idxOf_getElem _ k;have a:f.2[f.2.length-1]∈f.2:=fK k
   generalize f.2[f.2.length-1]=w at hw a
   refine(LO (v:=w) (st:=Fp st) g a (T1 st)).turn true λc d=>LI (P:=λc=>yD _ _ _ _ c=(true ^^ yD _ _ _ _ c)) d ?_ λz b=>?_
   ·rw[qQ,qQ];exact NW hs
   ·rw[RX,FJ];have m:=gB.mpr b;by_cases e:z=w
    ·rw[a8 e,c4 (by rw[e];lia)];rfl
    ·rw[c4 e,a8];rfl
     have:f.2.idxOf z≠f.2.length-1:=λq=>e (VM b a (q.trans hw.symm));lia
  ·refine .self (eF _ (aR.mpr ⟨v,?_,Fc⟩)) hs;have l:=gB.mpr j;refine aS (i:=f.2.idxOf v-1) ?_;unfold BV;rw[gR,a7 Ez,jO,show 1+(f.2.idxOf v-1)=f.2.idxOf v by lia,aD l,jN l]
def Yt{fs}(F:iG fs an){k n v st:Str}(z:QJ fs (.tuple [.str k,.str n,.str v])=true)(hs:st="yes"\/st="no"):∃c∈jL fs,∃e:Bool,∀r:Rw,lO fs (.tuple r.1)=true->iN fs k n v st r=(e ^^ W9 fs c r):=by
 obtain⟨f,g,rfl,p,hk⟩:=A5 z;have o:=(F.vs f g).2.2.2.2
 have u:Fd f k v st:=by
  rcases hk with rfl | ⟨rfl,w⟩
  ·exact LO o p hs
  ·exact Yu o p w hs
 obtain⟨i,m,l,q,s,e,t⟩:=u;have y:(i,f.1,m)∈qs fs:=aR.mpr ⟨EB i f m,XO.mpr ⟨_,aR.mpr ⟨f,g,Fc⟩,q⟩,Fc⟩;refine⟨((i,f.1,m),l),BF.mpr ⟨_,y,?_⟩,e,λr A=>?_⟩
 ·rcases s with rfl | rfl
  ·exact aU ..
  ·exact aO _ (aU ..)
 ·obtain⟨j,b⟩:=bP g;obtain⟨x,d⟩:=uG A;have h:j<r.1.length:=by rw[x];exact(aE.mp b).1
  have a:r.1[j]?=some r.1[j]:=aD h;have:=t _ (d j f _ b a);unfold W9 iN;rw[tT F b a Fc,tT F b a rfl];exact this
theorem F6{fs}{fa:List Rw->Str}{a b:Int}(F:iG fs an)(f:FA fs an fa)(i:0<=a)(o:0<=b):∀(t:Tr)(d:Nat)(R:List Rw),lQ fs an t->t.dep<=d->gF fs an R->(fG fs fa a b d R).1<=a*(eE fs t R:Nat)+b*(t.kn:Nat)
|.say z,d,R,ht,_,hR=>by
 refine uQ (uZ d R) ?_;have:=(ZO (fs:=fs) (f R hR) i).2 _ (aR.mpr ⟨z,ht,Fc⟩);rw[wV];show _<=a*_+b*((0:Nat):Int);rw[show((0:Nat):Int)=0 from Fc,mG,pU];exact this
|.ask k n v s y m,0,R,_,hd,_=>a9 (show max y.dep m.dep+1<=0 from hd) Ez
|.ask k n v s y m,d+1,R,⟨hq,hs,hy,hm⟩,hd,hR=>by
 have hd:max y.dep m.dep+1<=d+1:=hd;obtain⟨c,w,e,h⟩:=Yt F hq hs;have A:=F6 F f i o y d (R.filter (iN fs k n v s)) hy Ez (hR.filt _);have B:=F6 F f i o m d (R.filter λr=>!iN fs k n v s r) hm Ez (hR.filt _);have u:=WM (fs:=fs) (fa:=fa) i o d R w
 have x:(fG fs fa a b (d+1) R).1<=b+(fG fs fa a b d (R.filter (iN fs k n v s))).1+(fG fs fa a b d (R.filter λr=>!iN fs k n v s r)).1:=by
  refine uQ u ?_
  cases e with
  |false=>
   have j:R.filter (iN fs k n v s)=yR fs c R:=jB λr g=>by rw[h r (hR r g).1,qE]
   have l:(R.filter λr=>!iN fs k n v s r)=nR fs c R:=jB λr g=>by rw[h r (hR r g).1,qE]
   rw[j,l];exact pA _
  |true=>
   have j:R.filter (iN fs k n v s)=nR fs c R:=jB λr g=>by rw[h r (hR r g).1,aF7]
   have l:(R.filter λr=>!iN fs k n v s r)=yR fs c R:=jB λr g=>by rw[h r (hR r g).1,aF7,Bool.not_not]
   rw[j,l];unfold cC;lia
 have q:=tQ (fs:=fs) k n v s y m R;have p:(Tr.ask k n v s y m).kn=y.kn+m.kn+1:=rfl;rw[q,p,fU,fU,fU,kD,kD,kD,show((1:Nat):Int)=1 from Fc,wL]
 generalize (fG fs fa a b (d+1) R).1=x0 at *
 generalize (fG fs fa a b d (R.filter (iN fs k n v s))).1=x1 at *
 generalize (fG fs fa a b d (R.filter λr=>!iN fs k n v s r)).1=x2 at *
 generalize a*((eE fs y (R.filter (iN fs k n v s)):Nat):Int)=x3 at *
 generalize a*((eE fs m (R.filter λr=>!iN fs k n v s r):Nat):Int)=x4 at *
 generalize b*((y.kn:Nat):Int)=x5 at *
 generalize b*((m.kn:Nat):Int)=x6 at *
 lia
def aAp{fs}(F:iG fs an):(jL fs).length<=100:=by
 have n5:=F.n5;have a:=iY F fs λg c=>c;have b:=oZ fs;lia
def aAl{dp k:Nat}(b:(qI ((dp:Nat):Int))[k]?=some x):k<dp/\x=.int ((dp-k:Nat):Int):=by
 unfold qI at b;rw[aI]at b;obtain⟨j,a,rfl⟩:=bU.mp b;have c:=(aE.mp a).1;rw[fL]at c;rw[iK c]at a;cases a;exact⟨Ez,by congr 1;lia⟩
def WF(dp:Nat):(qI ((dp:Nat):Int)).length=dp:=by unfold qI;rw[aC,fL];lia
def tL(d:Nat):kQ:=λa Q=>∃(fs:Fs)(an:List Str)(n:Nat),a=[dW fs an,.dict [],.int n]/\iG fs an/\n<d/\∀t,lQ fs an t->t.dep<=n->Q (jG t)
def Wn:kQ:=tL 4
def UL{Q:D->Prop}(h:tL 0 ds Q):False:=by
 obtain⟨_,_,_,_,_,h,_⟩:=h;lia
def Wr:kQ:=λa Q=>∃(fs:Fs)(an:List Str),a=[dW fs an]/\iG fs an/\Q (.list (eO fs))
def Wp:kQ:=λb Q=>∃(fs:Fs)(an:List Str)(t:Tr)(a:List D),b=[dW fs an,jG t,.tuple a]/\iG fs an/\lQ fs an t/\lO fs (.tuple a)=true/\Q (.str (pK fs t a))
def Wq:kQ:=λb Q=>∃(fs:Fs)(an:List Str),b=[dW fs an]/\WV fs an/\∀a,iG a an->Q (dW a an)
def Ws:kQ:=Kc
def Wt:kQ:=λd Q=>∃(fs:Fs)(an:List Str)(t:Tr)(c:List Rw)(a b:Int),d=[dW fs an,jG t,.list (c.map dP),.tuple [.int a,.int b]]/\iG fs an/\lQ fs an t/\t.kn<=100/\gF fs an c/\c.length<=60/\0<=a/\a<=1000000/\0<=b/\b<=1000000/\Q (.int (a*(eE fs t c:Nat)+b*(t.kn:Nat)))
def tK(n:Nat):kQ:=λa Q=>∃t:Tr,a=[jG t]/\t.dep<n/\n<=8/\Q (.int (t.dep:Nat))
def Wu:kQ:=tK 4
def UK{Q:D->Prop}(h:tK 0 ds Q):False:=by
 obtain⟨_,_,h,_⟩:=h;lia
def tJ(n:Nat):kQ:=λa Q=>∃(fs:Fs)(an:List Str)(t:Tr)(d:Nat),a=[dW fs an,jG t]/\iG fs an/\Fj fs an d t/\d<n/\Q (.bool true)
def Wv:kQ:=tJ 4
def UJ{Q:D->Prop}(h:tJ 0 ds Q):False:=by
 obtain⟨_,_,_,_,_,_,_,h,_⟩:=h;lia
def Ww:kQ:=λb Q=>∃(fs:Fs)(an:List Str)(a:List Rw)(c:Ch)(ns:List Nat),b=[dW fs an,.list (a.map dP),qD c.1,.str c.2,eS ns]/\iG fs an/\gF fs an a/\a.length<=60/\c∈jL fs/\nD a ns/\Q (.tuple [eS (yN fs a c ns),eS (nN fs a c ns)])
def Wx:kQ:=λd Q=>∃(fs:Fs)(an:List Str)(fa:List Rw->Str)(c:List Rw)(a b:Int)(ns:List Nat),d=[dW fs an,.list (c.map dP),eS ns,.tuple [.int a,.int b]]/\sR fs an fa c a b/\nD c ns/\Q (.int (pF fs fa a (bL c ns)).1)
def Wy(w:c7):kQ:=λe Q=>∃(fs:Fs)(an:List Str)(fa:List Rw->Str)(c:List Rw)(a b:Int)(ks:List (List Nat×Nat))(ns:List Nat)(d:Nat),e=[dW fs an,.list (c.map dP),.tuple [.int a,.int b],mC w (KV fs fa a b c ks),eS ns,.int (d:Nat)]/\sR fs an fa c a b/\nD c ns/\ks.Nodup/\(d=0\/(ns,d)∈ks)/\Q (.int (fG fs fa a b d (bL c ns)).1)
def Wz(w:c7):kQ:=λd Q=>∃(fs:Fs)(an:List Str)(fa:List Rw->Str)(c:List Rw)(a b:Int)(ks:List (List Nat×Nat))(ns:List Nat)(dp:Nat)(x:List Nat×Nat),d=[dW fs an,.list (c.map dP),.tuple [.int a,.int b],mC w (KV fs fa a b c ks),kY x]/\sR fs an fa c a b/\C4 fs c ns dp ks/\x∈ks/\Q (.bool true)
def Xa:kQ:=λd Q=>∃(fs:Fs)(an:List Str)(fa:List Rw->Str)(c:List Rw)(a b:Int)(ks:List (List Nat×Nat))(ns:List Nat)(dp:Nat),d=[dW fs an,.list (c.map dP),.tuple [.int a,.int b],.list (ks.map (xN fs fa a b c))]/\sR fs an fa c a b/\c.length<=40/\C4 fs c ns dp ks/\Q (.bool true)
noncomputable def MI(N:Nat):Nat->Nat
|0=>0
|k+1=>MI N k+N^k
def CT(N:Nat){k n:Nat}(h:k<=n):MI N k<=MI N n:=by
 induction n with
 |zero=>rw[Nat.le_zero.mp h];exact aN _
 |succ n a=>
  rcases uM n k with g | g
  ·rw[show k=n+1 by lia];exact aN _
  ·exact bG (a g) (aA6 ..)
def Mj(C:Addr)(d:List D)(P:Fs->(List Rw->Str)->List Rw->Int->Int->List Nat->Nat->Prop):Prop:=∃(fs:Fs)(an:List Str)(fa:List Rw->Str)(c:List Rw)(a b:Int)(ns:List Nat)(dp:Nat),d=[oK C fs an c a b,eS ns,.int (dp:Nat)]/\sR fs an fa c a b/\nD c ns/\ns≠[]/\dp<=3/\MI (2*(jL fs).length) dp<=400/\P fs fa c a b ns dp
def Vp(w:c7)(C:Addr):kQ:=λb Q=>Mj C b λfs _ a _ _ ns dp=>∀ks:List (List Nat×Nat),C4 fs a ns dp ks->Mq fs a ks->Q (.list (ks.map kY))
def Vo(w:c7)(C:Addr):kQ:=λd Q=>Mj C d λfs fa c a b ns dp=>∀ks:List (List Nat×Nat),C4 fs c ns dp ks->Q (mC w (ks.map λx=>(kY x,mW (fG fs fa a b x.2 (bL c x.1)))))
def Mm(d:List D)(P:Fs->(List Rw->Str)->List Rw->Int->Int->Nat->Prop):Prop:=∃(fs:Fs)(an:List Str)(fa:List Rw->Str)(c:List Rw)(a b:Int)(dp:Nat),d=[dW fs an,.list (c.map dP),.int (dp:Nat),.tuple [.int a,.int b]]/\sR fs an fa c a b/\c≠[]/\dp<=3/\MI (2*(jL fs).length) dp<=400/\P fs fa c a b dp
noncomputable def Hj(fs:Fs)(fa:List Rw->Str)(c:List Rw)(a b:Int)(dp:Nat)(ks:List (List Nat×Nat)):D:=.tuple [jG (fG fs fa a b dp c).2,.int (fG fs fa a b dp c).1,.list (ks.map (xN fs fa a b c))]
def Vn(w:c7)(C:Addr):kQ:=λd Q=>Mm d λfs fa c a b dp=>∀ks:List (List Nat×Nat),C4 fs c (cK c.length) dp ks->Q (Hj fs fa c a b dp ks)
def Xb:kQ:=λd Q=>Mm d λfs fa c a b dp=>∀ks:List (List Nat×Nat),C4 fs c (cK c.length) dp ks->Q (.tuple [Hj fs fa c a b dp ks,.bool false])
def Xc:kQ:=λb Q=>∃(fs:Fs)(an:List Str)(a:List Rw)(dp:Nat),b=[dW fs an,.list (a.map dP),.int (dp:Nat)]/\iG fs an/\gF fs an a/\a.length<=60/\dp<=3/\MI (2*(jL fs).length) dp<=400/\∀z:Nat,z<=400->Q (.int (z:Nat))
def Lv(fs:Fs)(b:List Rw)(i m:Nat)(a:List (List Nat)):Prop:=a.length<=2*(jL fs).length*i+m/\∀x∈a,nD b x
def Lv.put{fs}{i m:Nat}(L:Lv fs rs i m ls)(a:nD rs x):Lv fs rs i (m+1) (yV ls x):=
 ⟨by have:=GF ls x;have:=L.1;lia,λy b=>(mJ.mp b).elim (L.2 y) (λe=>e▸a)⟩
def Lv.mono{fs}{i m n:Nat}(L:Lv fs rs i m ls)(h:m<=n):Lv fs rs i n ls:=⟨by have:=L.1;lia,L.2⟩
def BN:kQ:=λa Q=>∃ns:List Int,a=[.list (ns.map aP)]/\ns.length<=63/\Q (.bool true)
def UQ(a:List Nat):decide ((1:Int)<=((a.map λ(i:Nat)=>aP (i:Int)).length:Int))=!a.isEmpty:=by
 cases a with
 |nil=>rfl
 |cons z a=>rw[aC];exact a8 (by simp only[dB];lia)
def WO(b:Bool):L2.atI [aV "no",.str "yes"] (if b then 1 else 0)=some (.str (if b then "yes" else "no")):=by cases b<;>rfl
def B2{f:Type}{a:List f}(nd:a.Nodup){i j:Nat}{c}(d:a[i]?=some c)(e:a[j]?=some c):i=j:=by
 obtain⟨a1,a2⟩:=aE.mp d;obtain⟨b1,b⟩:=aE.mp e;exact(BG nd).mp (a2.trans b.symm)
noncomputable def RJ(a:List Tr):Nat:=(a.map λp=>p.nodes).sum
noncomputable def Fe(a:List Tr):Nat:=(a.map λp=>p.kn).sum
def FL(a bs:List Tr):RJ (a++bs)=RJ a+RJ bs:=by unfold RJ;rw[bB,DB]
def M6(a bs:List Tr):Fe (a++bs)=Fe a+Fe bs:=by unfold Fe;rw[bB,DB]
theorem M5:∀a:List Tr,a.length<=RJ a
|[]=>aN _
|t::a=>by
 have:=M5 a;have:=t.nodes_pos;show a.length+1<=t.nodes+RJ a;lia
def HR{fs}(e:q∈qs fs){i:Nat}(a:[aV "yes",aV "no"][i]?=some x):∃st:Str,(HS q)[i]?=some (q,st)/\x=.str st/\(q,st)∈jL fs:=by
 have f:i<2:=(aE.mp a).1;have b:∀c∈HS q,c∈jL fs:=λc d=>BF.mpr ⟨q,e,d⟩;rcases(show i=0\/i=1 by lia)with rfl | rfl
 ·cases a;exact⟨"yes",Fc,Fc,b _ (aU ..)⟩
 ·cases a;exact⟨"no",Fc,Fc,b _ (aO _ (aU ..))⟩
def N3(a:List Nat):decide ((((a.map λ(i:Nat)=>aP (i:Int)).length:Nat):Int)>0)=!a.isEmpty:=by
 cases a with
 |nil=>rfl
 |cons z a=>rw[aC];exact a8 (by simp only[dB];lia)
noncomputable def D4(fs:Fs)(t:Tr)(x:D):Bool:=match x with | .tuple [.tuple cs,.str b]=>!decide (pK fs t cs=b) | _=>false
def D3(fs:Fs)(t:Tr)(a:List Rw):(((a.map dP).filter (D4 fs t)).map id).length=eE fs t a:=by
 rw[nH,uP,aC];rfl
def J6{b:Type}{l:List b}{f:b->D}{Q:D->Prop}(h:Q (.bool true))(d:autoParam (∀x∈l,f x=.bool true) zzs._auto_1):Kn vU (λx y=>!A7 x y) (.bool false) (.list (l.map f)) Q:=by
 have e:l.map f=l.map λ_=>oJ true:=iJ λx a=>d x a;rw[e]
 have c:A7 (.bool false) (.list (l.map λ_=>oJ true))=false:=by
  show((l.map λ_=>oJ true).any λy=>dU y (.bool false))=false;rw[List.any_map,W8];intro x _;exact bN
 refine⟨⟨B7 λx a=>by obtain⟨_,_,rfl⟩:=aR.mp a;rfl,Fc,bG (sX _ _) Ey⟩,?_⟩;show Q (.bool (!A7 _ _));rw[c];exact h
def ND:List Sl->Prop
|[]=>True
|s::l=>(∀hs a,s≠.dic hs a)/\ND l
def nv(hs:List Int)(a:List (D×D)):Sl.val d≠.dic hs a:=λz=>by cases z
def nu(hs:List Int)(a:List (D×D)):Sl.un≠.dic hs a:=λz=>by cases z
theorem D2{fs}{fa:List Rw->Str}(a:FA fs an fa)(b:gF fs an rs){d:Nat}:∀(n:Nat)(x:Nat×Nat)(t:Tr),lQ fs an t->t.dep<=d->(∀z∈qF fs fa rs n x t,lQ fs an z.2/\z.2.dep<=d)/\(qF fs fa rs n x t).length<=n+1
|0,x,t,h1,h2=>⟨λz hz=>by rw[dF.mp hz];exact⟨h1,h2⟩,aN _⟩
|n+1,x,t,h1,h2=>by
 have c:=D2 a b n (fX fs fa t rs) (lw fs fa ((fX fs fa t rs).2:Nat) ((fX fs fa t rs).1:Nat) t rs).2 (EE a _ _ t rs h1 b).1 (bG (yQ ..) h2);show(∀z∈(x,t)::(if VG t=true then[]else _),_)/\((x,t)::(if VG t=true then[]else _)).length<=_;split
 ·exact⟨λz hz=>by rw[dF.mp hz];exact⟨h1,h2⟩,by show 0+1<=_;lia⟩
 ·refine⟨λz hz=>?_,aA4 c.2⟩;rcases aY.mp hz with rfl | hz
  ·exact⟨h1,h2⟩
  ·exact c.1 z hz
noncomputable def Kd:D->D
|.tuple [_,b]=>b
|d=>d
def Xr{l m:List Int}(c:l.Pairwise (·<·))(d:m.Pairwise (·<·))(h:∀z,z∈l↔z∈m):l=m:=
 iS.eq_of_pairwise (le:=(·<·)) (λa b _ _ e f=>by lia) c d ((List.perm_ext_iff_of_nodup (c.imp λh=>aM7 h) (d.imp λh=>aM7 h)).mpr h)
noncomputable def Ht(a:Str)(x:D):Bool:=match x with | .tuple [_,.str b]=>decide (b=a) | _=>false
def VT(a:Str)(b:List Rw):(((b.map dP).filter (Ht a)).map id).length=rH b a:=by
 rw[nH,uP,aC,<- List.countP_eq_length_filter];rfl
def L6{n k:Nat}{p:D->Bool}(hk:k<n)(e:p (.int (k:Nat))=true)(d:∀j:Nat,j<k->p (.int (j:Nat))=false):((eK n).filter p)[0]?=some (.int (k:Nat)):=by
 rw[<- List.head?_eq_getElem?,List.head?_filter,List.find?_eq_some_iff_getElem];have a:(eK n).length=n:=gZ n;refine⟨e,k,by rw[a];exact hk,?_,λj c=>?_⟩
 ·have:=(iC (aD (l:=eK n) (i:=k) (by rw[a];exact hk))).2;exact this
 ·have b:j<(eK n).length:=by rw[a];lia
  rw[(iC (aD (l:=eK n) (i:=j) b)).2,d j c];rfl
noncomputable def Iv(a:List Int)(m:Int)(x:D):Bool:=match x with | .int i=>decide (a.getD i.toNat (m+1)=m) | _=>false
def B3{n:Nat}(F:Nat->Str)(h:∀i,i<n->yP (F i)=true)(inj:∀i j,i<n->j<n->F i=F j->i=j):KA n ((cK n).map F):=
 ⟨Fa,λy b=>by
  obtain⟨i,a,rfl⟩:=aR.mp b;exact h i (by simpa using a),nodup_range F inj⟩
@[irreducible] def J4(i:Nat):Nat:=hW.cps.toList.getD i 0
def xQ{i:Nat}(h:i<26):hW.cps.toList[i]?=some (J4 i):=by
 have a:i<hW.cps.toList.length:=by rw[JH];exact h
 unfold J4;rw[cX,aD a];rfl
def OM{i:Nat}(h:i<26):J4 i∈hW.cps.toList:=aS (xQ h)
noncomputable def tE(z:Str)(t k c:Nat):Str:=Txt.slice z none (some (t:Int))++⟨#[c]⟩++Txt.slice z (some ((t:Int)+1)) (some ((k:Int)+1))
def rQ(z:Str)(t k c:Nat):(tE z t k c).cps.toList=z.cps.toList.take t++(c::(z.cps.toList.drop (t+1)).take (k-t)):=by
 unfold tE;rw[vA,vA,tR,tR];have a:(t:Int)+1=((t+1:Nat):Int):=rfl;have b:(k:Int)+1=((k+1:Nat):Int):=rfl;rw[a,b,Xz,oN,Nat.add_sub_add_right];simp
def ZH{z:Str}(g:z.cps.toList.length=8)(a:∀c∈z.cps.toList,c∈hW.cps.toList):KA 8 ((cK 8).map λj:Nat=>Txt.slice z none (some ((j:Int)+1))):=by
 have e:∀j:Nat,(Txt.slice z none (some ((j:Int)+1))).cps.toList=z.cps.toList.take (j+1):=λj=>by
  rw[tR];exact oN _ (j+1)
 refine B3 _ (λi f=>?_) λi j f k h=>?_
 ·refine UI ?_ ?_ λc d=>?_
  ·rw[e,aZ];lia
  ·rw[e,aZ];lia
  ·rw[e]at d;exact a c (dY d)
 ·have b:=e i;rw[h,e j]at b;have:=e7 gC b;rw[aZ,aZ]at this;lia
def UG{z:Str}(m:z.cps.toList.length=8)(a:∀c∈z.cps.toList,c∈hW.cps.toList){k t s:Nat}(hk:k<8)(p:t<=k):KA 8 ((cK 8).map λj:Nat=>tE z t k (J4 ((s+5*j)%26))):=by
 refine B3 _ (λi l=>?_) λi j l o h=>?_
 ·have e:=rQ z t k (J4 ((s+5*i)%26));refine UI ?_ ?_ λc hc=>?_
  ·rw[e,bH,dB];lia
  ·rw[e,bH,dB,aZ,aZ,gA];lia
  ·rw[e]at hc;rcases dZ.mp hc with hc | hc
   ·exact a c (dY hc)
   ·rcases aY.mp hc with rfl | hc
    ·exact OM (lT _ Ey)
    ·exact a c (OY (dY hc))
 ·have b:=rQ z t k (J4 ((s+5*i)%26));have g:tE z t k (J4 ((s+5*i)%26))=tE z t k (J4 ((s+5*j)%26)):=h;rw[g,rQ]at b;have f:J4 ((s+5*j)%26)=J4 ((s+5*i)%26):=(List.cons.inj (List.append_cancel_left b)).1;have n:=xQ (i:=(s+5*i)%26) (lT _ Ey);have d:=xQ (i:=(s+5*j)%26) (lT _ Ey);rw[f]at d;have:=ZG LR n d;lia
def SE{z:Str}(a:z.cps.toList.length=8):z.length<=100000:=by
 have:z.length=z.cps.toList.length:=by simp[ck]
 lia
def KT{z:Str}(a:z.cps.toList.length=8)(t k c:Nat):(Txt.slice z none (some (t:Int))).length+1<=100000/\(Txt.slice z none (some (t:Int))++(⟨#[c]⟩:Str)).length+(Txt.slice z (some ((t:Int)+1)) (some ((k:Int)+1))).length<=100000:=by
 have a1:=Txt.slice_le z none (some (t:Int));have a2:=Txt.slice_le z (some ((t:Int)+1)) (some ((k:Int)+1));have b:z.length=z.cps.toList.length:=by simp[ck]
 have a4:(Txt.slice z none (some (t:Int))++(⟨#[c]⟩:Str)).length=(Txt.slice z none (some (t:Int))).length+1:=by
  show((Txt.slice z none (some (t:Int))).cps++#[_]).size=_;rw[RU];rfl
 rw[a4];lia
def aAu{bs:List Int}{n:Nat}(c:AJ n bs)(i:Nat)(h:i<n):∃b:Nat,L2.atI (bs.map aP) (i:Int)=some (.int (b:Int)):=by
 obtain⟨b,a,_,e⟩:=kH c (i:=(i:Int)) Ez Ez;exact⟨b.toNat,by rw[e,pQ a]⟩
def Qb{ys:List D}(g:ys.length=(eK 8).length)(o:∀(k:Nat)(x y:D),(eK 8)[k]?=some x->ys[k]?=some y->∃c,c∈hW.cps.toList/\y=.str ⟨#[c]⟩){q:D->Prop}(p:∀d,(∃z:Str,d=.str z/\z.cps.toList.length=8/\∀c∈z.cps.toList,c∈hW.cps.toList)->q d):∃h:List Str,ys=h.map aV/\(h.map (·.length)).sum+h.length*(c6 "").length<=16777216/\q (.str (Txt.join (c6 "") h)):=by
 obtain⟨b,rfl,f⟩:=IE (ys:=ys) λy m=>by
  obtain⟨j,n,rfl⟩:=OZ.mp m;have i:j<(eK 8).length:=by rw[<- g];exact n
  exact o j (eK 8)[j] _ (aD i) (aD n)
 have e:b.length=8:=by rw[aC,gZ]at g;exact g
 refine⟨b.map λc=>⟨#[c]⟩,by rw[bM];rfl,?_,p _ ⟨_,Fc,?_,?_⟩⟩
 ·rw[aC,bM,e]
  have:(FE ((λx:Str=>x.length)∘λc=>(⟨#[c]⟩:Str)) b).sum=b.length:=by
   clear e g o f
   induction b with
   |nil=>rfl
   |cons a l r=>rw[bE,iU,r,dB];show 1+_=_;lia
  rw[this,e];decide
 ·rw[show(Txt.join (c6 "") (b.map λc=>⟨#[c]⟩)).cps.toList=b from B8 b];exact e
 ·rw[show(Txt.join (c6 "") (b.map λc=>⟨#[c]⟩)).cps.toList=b from B8 b];exact f
def Nt(b j:Nat):((b:Int)+5*(j:Int))%26=(((b+5*j)%26:Nat):Int):=by lia
def Xs(b:Nat):∃c,c∈hW.cps.toList/\L2.atI hW.cps.toList ((b:Int)%26)=some c:=by
 have h:b%26<26:=lT _ Ey;exact⟨_,OM h,by rw[show(b:Int)%26=((b%26:Nat):Int)from rfl];exact L2.fC (xQ h)⟩
end K91
namespace K91
set_option maxHeartbeats 4000000
open PySem L2 TL
def Sr:bX ["question","field"] ["question","field"] (bA (top 21)):=kT
def So:bX ["form","question"] ["form","question"] (bA (top 19)):=kT
def Sq:bX ["question","stray","field"] ["question","stray","field"] (bA (top 20)):=kT
def Sn:bX ["form","question","stray","case","number"] ["form","question","stray","case"] (bA (top 18)):=kT
def Su:bX ["side","sides"] ["side","sides"] (bA (top 23)):=kT
def Ss:bX ["form","question","stray","rows","sides"] ["form","question","stray","rows"] (bA (top 22)):=kT
def Ol:bX ["form","rows","told"] ["form","rows"] (bA (top 5)):=kT
def Om:bX ["form","rows","counts"] ["form","rows"] (bA (top 6)):=kT
def Op:bX ["one","other","rest"] ["one","other"] (bA (top 9)):=kT
def Oo:bX ["top","bottom","shared"] ["top","bottom"] (bA (top 8)):=kT
def On:bX ["form","rows","many"] ["form","rows"] (bA (top 7)):=kT
def Tn:bX ["rows","numbers"] ["rows","numbers"] (bA (top 47)):=kT
def Uv:bX ["form","rows"] ["form","rows"] (bA (top 51)):=kT
def Uw:bX ["form","knot","rows"] ["form","knot","rows"] (bA (top 52)):=kT
def Sk:bX ["field","name","values","told_by_is","told_by_upto"] ["field"] (bA (top 16)):=kT
def Sj:bX ["form","questions","field"] ["form"] (bA (top 15)):=kT
def Sm:bX ["form","choices","question"] ["form"] (bA (top 17)):=kT
def Oq:bX ["one","other"] ["one","other"] (bA (top 10)):=kT
def Ts:bX ["fractions","common","found"] ["fractions"] (bA (top 12)):=kT
def Sv:bX ["sides","fewest"] ["sides","fewest"] (bA (top 24)):=kT
def Lq:bX ["form","rows","least","told","question","stray","sides","doubts","bottom"] ["form","rows","least"] (bA (top 46)):=kT
def Os:bX ["one","other"] ["one","other"] (bA (top 11)):=kT
def Ut:bX ["form","rows","least","told"] ["form","rows","least"] (bA (top 48)):=kT
def Uu:bX ["form","rows","deep","least","found","sides","parts"] ["form","rows","deep","least"] (bA (top 49)):=kT
def Sx:bX ["tree"] ["tree"] (bA (top 29)):=kT
def Sy:bX ["knot","side"] ["knot","side"] (bA (top 30)):=kT
def SZ:bX ["form","tree","case","way","part","side"] ["form","tree","case"] (bA (top 32)):=kT
def Ta:bX ["form","tree","case"] ["form","tree","case"] (bA (top 33)):=kT
def Td:bX ["tree","place","part","side"] ["tree","place"] (bA (top 35)):=kT
def Tc:bX ["form","tree","case"] ["form","tree","case"] (bA (top 34)):=kT
def Sz:bX ["tree"] ["tree"] (bA (top 31)):=kT
def Te:bX ["form","tree","rows","prices","slips"] ["form","tree","rows","prices"] (bA (top 38)):=kT
def Ux:bX ["price"] ["price"] (bA (top 53)):=kT
def Uy:bX ["form","tree","rows","price"] ["form","tree","rows","price"] (bA (top 54)):=kT
def Uz:bX ["form","tree","rows","prices","leaf","leaf_cost","sides","yes","no","cost"] ["form","tree","rows","prices"] (bA (top 55)):=kT
def Vc:bX ["form","tree","rows","sides","yes","no","slips","saved"] ["form","tree","rows"] (bA (top 58)):=kT
def Vb:bX ["form","tree","rows","prices","lowest","price"] ["form","tree","rows"] (bA (top 57)):=kT
def Va:bX ["form","tree","rows","price","part","told"] ["form","tree","rows"] (bA (top 56)):=kT
def Oj:bX ["self","numbers","told","question","stray","sides","yes","no"] ["self","numbers"] (bA (vX (top 26) 2)):=kT
def Oh:bX ["self","form","rows","prices"] ["self","form","rows","prices"] (bA (vX (top 26) 0)):=kT
def Oi:bX ["self","numbers","rows","slips"] ["self","numbers"] (bA (vX (top 26) 1)):=kT
def Sw:bX ["form","choice","rows"] ["form","choice","rows"] (bA (top 27)):=kT
def Tk:bX ["sets","known","numbers","deep","told","question","stray","yes","no","one","other","cost"] ["sets","known","numbers","deep"] (bA (top 43)):=kT
def Tl:bX ["sets","known","numbers","deep"] ["sets","known","numbers","deep"] (bA (top 44)):=kT
def Tj:bX ["sets","level","sides","numbers","question","stray","yes","no"] ["sets","level"] (bA (top 42)):=kT
def Ti:bX ["sets","numbers","deep","met","level","left","found"] ["sets","numbers","deep"] (bA (top 41)):=kT
def Tg:bX ["sets","numbers","deep","known","key"] ["sets","numbers","deep"] (bA (top 40)):=kT
def Tf:bX ["form","rows","deep","prices","sets","known","top"] ["form","rows","deep","prices"] (bA (top 39)):=kT
def Tt:bX ["_law_cell","_law_k","_law_turn"] ["_law_cell","_law_k"] (bA (top 60)):=kT
def Tu:bX ["_law_script","_law_k","_law_seed"] ["_law_script","_law_k"] (bA (top 61)):=kT
def Tw:bX ["_law_drawn_here","_law_at","_law_many","_law_letters","_law_word","_law_turn","_law_names_here","_law_place","_law_k","_law_sign"] ["_law_drawn_here","_law_at","_law_many"] (bA (top 63)):=kT
def Tv:bX ["_law_cell","_law_many","_law_found","_law_left","_law_k"] ["_law_cell","_law_many"] (bA (top 62)):=kT
def Tx:bX ["_law_script","_law_drawn_here","_law_names_here","_law_fields","_law_k","_law_bits"] ["_law_script"] (bA (top 64)):=kT
def Tz:bX ["_law_form_here","_law_bits","_law_case_here","_law_k","_law_values"] ["_law_form_here","_law_bits"] (bA (top 65)):=kT
def TC:bX ["_law_form_here","_law_bits","_law_case_here","_law_number","_law_k"] ["_law_form_here","_law_bits"] (bA (top 66)):=kT
def Ud:bX ["_law_form_here","_law_question","_law_stray","_law_case_here","_law_kind","_law_name","_law_value","_law_k","_law_values"] ["_law_form_here","_law_question","_law_stray","_law_case_here"] (bA (top 71)):=kT
def TZ:bX ["_law_script","_law_form_here","_law_many"] ["_law_script","_law_form_here","_law_many"] (bA (top 67)):=kT
def Ug:bX ["_law_form_here","_law_found","_law_name","_law_values","_law_value","_law_k"] ["_law_form_here"] (bA (top 74)):=kT
def Ua:bX ["_law_numbers"] ["_law_numbers"] (bA (top 68)):=kT
def Ub:bX ["_law_form_here","_law_number","_law_name","_law_values","_law_kind"] ["_law_form_here","_law_number"] (bA (top 69)):=kT
def Uc:bX ["_law_form_here","_law_numbers","_law_deep_here","_law_number","_law_question","_law_yes"] ["_law_form_here","_law_numbers","_law_deep_here"] (bA (top 70)):=kT
def Ue:bX ["_law_form_here","_law_tree_here","_law_case_here"] ["_law_form_here","_law_tree_here","_law_case_here"] (bA (top 72)):=kT
def Uf:bX ["_law_form_here","_law_many","_law_field"] ["_law_form_here"] (bA (top 73)):=kT
def Uj:bX ["_law_tree_here"] ["_law_tree_here"] (bA (top 77)):=kT
def Uk:bX ["_law_form_here","_law_tree_here"] ["_law_form_here","_law_tree_here"] (bA (top 78)):=kT
def Uh:bX ["_law_form_here","_law_rows_here","_law_counts"] ["_law_form_here","_law_rows_here"] (bA (top 75)):=kT
def Ui:bX ["_law_form_here","_law_tree_here","_law_rows_here","_law_prices","_law_slips","_law_knots","_law_left","_law_part"] ["_law_form_here","_law_tree_here","_law_rows_here","_law_prices"] (bA (top 76)):=kT
def Ul:bX ["_law_form_here","_law_rows_here","_law_question","_law_stray","_law_numbers","_law_ones","_law_others","_law_number"] ["_law_form_here","_law_rows_here","_law_question","_law_stray","_law_numbers"] (bA (top 79)):=kT
def Um:bX ["_law_form_here","_law_rows_here","_law_numbers","_law_prices","_law_some","_law_answer"] ["_law_form_here","_law_rows_here","_law_numbers","_law_prices"] (bA (top 80)):=kT
def Uo:bX ["_law_form_here","_law_rows_here","_law_prices","_law_found","_law_numbers","_law_deep_here"] ["_law_form_here","_law_rows_here","_law_prices","_law_found","_law_numbers","_law_deep_here"] (bA (top 81)):=kT
def Up:bX ["_law_form_here","_law_rows_here","_law_prices","_law_found","_law_key","_law_numbers","_law_deep_here","_law_question","_law_stray","_law_ones","_law_others","_law_one","_law_other"] ["_law_form_here","_law_rows_here","_law_prices","_law_found","_law_key"] (bA (top 82)):=kT
def Uq:bX ["_law_form_here","_law_rows_here","_law_prices","_law_table","_law_found","_law_numbers","_law_deep_here","_law_cost_here"] ["_law_form_here","_law_rows_here","_law_prices","_law_table"] (bA (top 83)):=kT
def Ur:bX ["_law_form_here","_law_rows_here","_law_deep_here","_law_prices","_law_told_here","_law_many","e"] ["_law_form_here","_law_rows_here","_law_deep_here","_law_prices"] (bA (top 84)):=kT
def Us:bX ["_law_form_here","_law_rows_here","_law_deep_here","_law_level","_law_many","_law_down","_law_further","_law_numbers","_law_question","_law_stray","_law_ones","_law_others"] ["_law_form_here","_law_rows_here","_law_deep_here"] (bA (top 85)):=kT
def Zq:bX ["_law_script","_law_form_here","_law_bits","_law_rows_here","_law_deep_here","_law_slip","_law_prices","_law_told_here","_law_many","_law_tree_here","_law_cost_here","_law_table","_law_others","_law_cell"] ["_law_script"] (bA (top 86)):=kT
section
variable{P:cN}{w:c7}{K:aM}{mg:Str->Option Value}{base:Heap}{uw ux uy we wf wg wh wj wk wl jr js jt ju jv jw jx jy jz ka kb kc ke kg G kh ki kj kl km kq kr kt ku kx la lf lg lh I li lj ll lm L ln lq N lr lu lx ly lz ma md me mf mh O mi mj ml mm mo mq X Y mr ms mu mv mw mx my fw:Addr}{wm wn wo wp wq wr wt wu wv ww ng nh ni nj nk nn nq nr nw ny nz oe og oh Z oi oj ol om on oo oq ot ou ow ox ja oy oz gj ph pi pj pq gk pr pu gl py pz qa qb qc qd qe qf qg qh gm qi qj qk ql qm qo gn gp qp qq qr qt qu qv qw B:iW}{A:Addr}{t_SIDES:Addr}{C:Tok}(T:Txt K mg uw ux uy we wf wg wh wj wk wl jr js jt ju jv jw jx jy jz ka kb kc ke kg G kh ki kj kl km kq kr kt ku kx la lf lg lh I li lj ll lm L ln lq N lr lu lx ly lz ma md me mf mh O mi mj ml mm mo mq X Y mr ms mu mv mw mx my fw wm wn wo wp wq wr wt wu wv ww ng nh ni nj nk nn nq nr nw ny nz oe og oh Z oi oj ol om on oo oq ot ou ow ox ja oy oz gj ph pi pj pq gk pr pu gl py pz qa qb qc qd qe qf qg qh gm qi qj qk ql qm qo gn gp qp qq qr qt qu qv qw B A t_SIDES C)
include T
def Ql:dS P w K mg base hX 1 jy nr ["question","field"] (cG K Wi):=by
 refine mB T.D_17.F Sr λj nd m Q h=>?_;obtain⟨k,n,v,f,rfl,g,l,o,h⟩:=h;refine⟨_,(aQ (gT (dN jI mP (bD aX cA (aH 0) aK) eN)
 (bC (cR (eM (aA (bD aX cA (aH 0) aK) aL))))
 fM)
 (bC (cR (jW mX xD (bD aX cA (aH 1) aK) mY (jT (cJ cZ gU (xM (bD aX cA (aH 1) aK) (aA (bD aX cA (aH 0) aK) aL) (λh d=>kJ mF mE mD (xF j) h d)) aK)))))),?_⟩
 show gI _ _ _ [.val (.tuple [.str k,.str n,.str v]),.val (kI f)];unfold CB at h;refine fW (λb=>b=decide (k="is")) (λq i=>⟨_,Fc,_,Fc,i _ Fc⟩) (λc=>?_) λa=>?_
 ·rw[a7 (b8 c.symm)]at h;exact⟨_,Fc,_,Fc,aF Fc,h⟩
 ·try unfold jD
  dsimp only;rw[a6 (j5 a.symm)]at h;refine⟨_,Fc,_,Fc,_,Fc,_,Fc,_,Fc,_,Fc,_,Fc,_,_,Fc,uU g l,?_⟩;show Q (.tuple (lF (f.2.map aV) none (some ((f.2.idxOf v:Int)+1))));have e:((f.2.idxOf v:Nat):Int)+1=((f.2.idxOf v+1:Nat):Int):=rfl;rw[e,oA,oN];exact h
def Qj:dS P w K mg base hX 1 jw nn ["form","question"] (cG K Wg):=by
 refine mB T.D_15.F So λp nd s Q h=>?_;obtain⟨fs,an,k,n,v,i,j,rfl,F,c,a,h⟩:=h;refine⟨_,(bC (cR (EN (el (fr:=[none]) (N':=["field"]) (eW (bD aX cA (aH 0) aK)) (λb=>⟨(dH (pk 0)),iT,(bD aX cA (aH 0) aK)⟩)) (aA (bD aX cA (aH 1) aK) aL) (λh l=>kJ bT E6 E5 (EA p) h l)))),?_⟩;have n5:=F.n5;have m:=(aE.mp c).1;have g:(fs.map (·.1)).idxOf n=j:=by rw[<- a];exact N1 F c
 have d:n∈fs.map (·.1):=aR.mpr ⟨i,aS c,a⟩;show GJ _ _ _ Q;dsimp only[GJ];refine jK (ts:=fs.map kI) (λR h=>⟨_,Fc,_,Fc,_,Fc,h⟩) fst (by rw[aC];lia) (λx q r o=>?_) ?_
 ·obtain⟨f,t,rfl⟩:=aR.mp r;exact⟨_,Fc,_,Fc,o⟩
 ·have e:(fs.map kI).map fst=(fs.map (·.1)).map aV:=by rw[bM,bM];rfl
  rw[e];have:=uU F.nd.2.1 d;rw[g]at this;exact⟨_,Fc,_,Fc,_,Fc,_,j,Fc,this,Ez,h⟩
def Qk:dS P w K mg base hX 2 jx nq ["question","stray","field"] (cG K Wh):=by
 refine mB T.D_16.F Sq λd nd i Q h=>?_;obtain⟨k,n,v,st,f,rfl,c,g,a,h⟩:=h;refine⟨_,(bC (cR (cJ cZ gU (cd (Ql T) T.D_17 d (aA (aH 0) (aA (aH 2) aL))) (CH (dN jI mP (aH 1) eN) (eM (aA pJ aL)) (eM aL))))),?_⟩;have b:=VQ (k:=k) (v:=v) a;refine⟨_,Fc,_,Fc,k,n,v,f,Fc,c,g,a,_,Fc,?_⟩;unfold vJ at h;show(if decide (st="yes")=true then _ else _);by_cases e:st="yes"
 ·rw[a7 (a8 e)];rw[a7 e]at h;exact⟨aF Fc,by rw[aC];show _+1<=_;lia,h⟩
 ·rw[a6 (by simpa using e)];rw[a6 e]at h;exact⟨aF Fc,by rw[aC];show _+0<=_;lia,h⟩
def UB:dS P w K mg base hX 3 jv nk ["form","question","stray","case"] (cG K Lr):=by
 refine mB T.D_14.F Sn λt nd R Q h=>?_;obtain⟨fs,an,k,n,v,st,e,rfl,F,s,u,y,h⟩:=h;refine⟨_,(aQ (ss 4 nd (cd (Qj T) T.D_15 t (aA (aH 0) (aA (aH 1) aL))))
 (bC (cR (CH (dN (T3 t) Lb (bD aX cA (aH 3) (aH 4)) (cd (Qk T) T.D_16 t (aA (aH 1) (aA (aH 2) (aA (bD aX cA (bD aX cA (aH 0) aK) (aH 4)) aL))))) eN eN)))),?_⟩
 show gI _ _ _ [.val (dW fs an),.val (.tuple [.str k,.str n,.str v]),.val (.str st),.val (.tuple e),.un];obtain⟨H,p⟩:=uG y;obtain⟨d,a,f,i,M⟩:=A5 s;obtain⟨j,g⟩:=bP a;have J:=(aE.mp g).1;have b:e[j]?=some e[j]:=aD Ez
 generalize E:e[j]=c at b
 have l:L2.atI e (j:Int)=some c:=L2.fC b;have r:L2.atI (fs.map kI) (j:Int)=some (kI d):=L2.fC (by rw[aI,g];rfl);have hok:=p j d c g b;rw[tT F g b f]at h
 have o:Cd c:=by
  cases c with
  |none=>exact(M9 (n:=8) (m:=0)).cd Ey
  |str z=>exact(nX (F.vals a z (b8 hok)) (n:=8) (m:=0) (aN _)).cd Ey
  |_=>cases hok
 refine cL (.int (j:Int)) (λq s=>⟨_,Fc,_,Fc,fs,an,k,n,v,d,j,Fc,F,g,f,s⟩) ?_;refine⟨_,Fc,_,Fc,_,l,_,Fc,_,Fc,_,Fc,_,Fc,_,Fc,_,r,k,n,v,st,d,Fc,F.vals a,i,(F.vs d a).2.1,JU (T6 (F.vals a) i o) ?_⟩;rw[<- VJ u hok]at h;show(if A7 c (.tuple (vJ k v st d))=true then _ else _)
 cases x:A7 c (.tuple (vJ k v st d))with
 |true=>rw[a7 rfl];rw[x,a7 rfl]at h;exact h
 |false=>rw[a6 Ey];rw[x,a6 Ey]at h;exact h
def Ma:dS P w K mg base hX 1 ka ny ["side","sides"] (kU K Wk):=by
 refine Fh T.D_19.F Su λl nd j Q h=>?_;obtain⟨w,ss,rfl,k,h⟩:=h;refine⟨_,(bC (AU (fl (fr:=[none,none,some 0]) (N':=["number","found","side"]) (ZY (aA (aH 1) aL) (λh=>Y6 Fc T.b_enumerate h)) (λb=>⟨(nZ (lC Fc (dQ (pk 0) (dQ (pk 1) jS)))),(uC (dN jI mP (aH 1) (aH 2))),(aH 0)⟩)))),?_⟩;rw[<- JX]at h;refine VZ (U3 (ts:=zU (ss.map aV)) (λR h=>⟨_,Fc,_,Fc,h⟩) (Fy w) Hq (by rw[rF,aC];lia) (λx g=>?_) (λa b q f e=>?_) (λa b q f e=>?_) h)
 ·rw[EO]at g;obtain⟨y,_,rfl⟩:=aR.mp g;exact⟨_,_,Fc⟩
 ·obtain⟨i,d⟩:=bP f;have c:=(aE.mp d).1;rw[rF,aC]at c;rw[yY (a:=.str ss[i]) (by rw[aI,aD c];rfl)]at d;cases d;exact⟨_,Fc,_,Fc,e⟩
 ·exact⟨_,Fc,e⟩
def UA:dS P w K mg base hX 4 jz nw ["form","question","stray","rows"] (uV K Wj):=by
 refine Nb T.D_18.F Ss λc nd p Q h=>?_;obtain⟨fs,an,k,n,v,st,f,rfl,F,m,g,hok,d,h⟩:=h;refine⟨_,(aQ (pD (i:=4) (fr:=[none,some 0,some 1,some 2]) (N':=["row","form","question","stray"]) (eW (aH 3)) (λb=>⟨(dH (pk 0)),iT,(cd (UB T) T.D_14 c (aA (aH 1) (aA (aH 2) (aA (aH 3) (aA (bD aX cA (aH 0) aK) aL)))))⟩) (λl j=>nS (show rC _ (bA (top 22)) ["form","question","stray","rows","sides"] ["row","form","question","stray"] [none,some 0,some 1,some 2]=true from by decide +kernel) nd Fc (by first | exact v7 Fc | exact r0 Fc) Fc l j Fc))
 (bC (IB (cF (Ma T) T.D_19 c (aA eN (aA (aH 4) aL))) (cF (Ma T) T.D_19 c (aA eN (aA (aH 4) aL)))))),?_⟩
 show gI _ _ _ [.val (dW fs an),.val (.tuple [.str k,.str n,.str v]),.val (.str st),.val (.list (f.map dP)),.un];have e:(f.map dP).map (Ip fs k n v st)=(f.map λr=>fP fs k n v st r.1).map aV:=by rw[bM,bM];rfl
 refine cL (.list ((f.map λr=>fP fs k n v st r.1).map aV)) (λq a=>?_) ?_
 ·refine jK (ts:=f.map dP) (λR h=>⟨_,Fc,_,Fc,h⟩) (Ip fs k n v st) (by rw[aC];lia) (λx q o a=>?_) ?_
  ·obtain⟨r,c,rfl⟩:=aR.mp o;exact⟨_,Fc,_,Fc,_,Fc,_,Fc,_,Fc,fs,an,k,n,v,st,r.1,Fc,F,m,g,(hok r c).1,a⟩
  ·rw[e];exact a
 rw[<- NI,<- NI]at h;exact⟨_,Fc,"yes",_,Fc,by rw[aC];exact d,_,Fc,"no",_,Fc,by rw[aC];exact d,h⟩
def Hk:dS P w K mg base hX 1 we wp ["form","rows"] (kU K Ph):=by
 refine Fh T.D_3.F Ol λf nd p Q h=>?_;obtain⟨fs,an,c,rfl,F,hok,l,h⟩:=h;refine⟨_,(aQ (ss 2 nd (el (fr:=[none]) (N':=["row"]) (eW (aH 1)) (λb=>⟨(dH (pk 0)),iT,(bD aX cA (aH 0) aK)⟩)))
 (bC (AU (fl (fr:=[none,some 2]) (N':=["answer","told"]) (eW (bD aX cA (aH 0) aK)) (λb=>⟨(dH (pk 0)),iT,(QT (aH 1) (aA (aH 0) aL) (λh g=>kJ bT PySem.F.slot_list_count PySem.F.type_list_count (P9 f) h g))⟩))))),?_⟩
 show gI _ _ _ [.val (dW fs an),.val (.list (c.map dP)),.un];have a4:=F.a4;refine cL (.list (c.map λr=>aV r.2)) (λq d=>?_) ?_
 ·refine jK (ts:=c.map dP) (λR h=>⟨_,Fc,_,Fc,h⟩) YI (by rw[aC];lia) (λx q i d=>?_) ?_
  ·obtain⟨r,f,rfl⟩:=aR.mp i;exact⟨_,Fc,_,Fc,d⟩
  ·rw[bM];exact d
 have k:=U6 (ys:=c.map λr=>r.2) λy o=>by
  obtain⟨r,f,rfl⟩:=aR.mp o;exact F.an.2.1 _ (hok r f).2
 rw[bM]at k;refine VZ (jK (ts:=an.map aV) (λR h=>⟨_,Fc,_,Fc,_,Fc,h⟩) (WJ c) (by rw[aC];lia) (λx q i d=>?_) ?_)
 ·obtain⟨a,g,rfl⟩:=aR.mp i;have j:=nX (F.an.2.1 a g) (n:=8) (m:=0) (aN _);refine⟨_,Fc,_,Fc,_,Fc,_,Fc,⟨k.1,j.lay,by have:=j.depth;lia⟩,?_⟩;rw[K0];exact d
 ·show Q _
  have e:(an.map aV).map (WJ c)=(kB an c).map aP:=by
   unfold kB;rw[bM,bM];rfl
  rw[e];exact h
def Hl:dS P w K mg base hX 2 wf wq ["form","rows"] (cG K Kc):=by
 refine mB T.D_4.F Om λp nd y Q h=>?_;obtain⟨fs,an,a,rfl,F,hok,o,h⟩:=h;refine⟨_,(aQ (ss 2 nd (rE (cF (Hk T) T.D_3 p (aA (aH 0) (aA (aH 1) aL)))))
 (bC (cR (bD aX cA (bD aX cA (aH 0) aK) (EN (aH 2) (aA (cB WL (aA (aH 2) aL) (qJ Fc) T.b_max GR) aL) (λh r=>kJ bT E6 E5 (EA p) h r)))))),?_⟩
 show gI _ _ _ [.val (dW fs an),.val (.list (a.map dP)),.un];have a2:=F.a2;refine cL (.list ((kB an a).map aP)) (λq x=>⟨_,Fc,_,Fc,fs,an,a,Fc,F,hok,o,x⟩) ?_
 have n:kB an a≠[]:=λz=>by
  have:=e7 gC z;unfold kB at this;rw[aC]at this;simp at this;rw[this]at a2;simp at a2
 refine⟨_,Fc,_,Fc,_,Fc,_,Fc,_,Fc,_,Fc,n,λm v c=>?_⟩;obtain⟨j,l,g⟩:=JT (kB an a) m v;have u:=(aE.mp l).1;have s:(kB an a).length=an.length:=by unfold kB;rw[aC]
 have a4:=F.a4;have d:an[j]?=some an[j]:=aD Ez;have f:(kB an a)[j]?=some ((rH a an[j]:Nat):Int):=by unfold kB;rw[aI,d];rfl
 rw[l]at f;have E:m=((rH a an[j]:Nat):Int):=c5 f;refine⟨_,j,Fc,P7 l g,Ez,_,L2.fC (by rw[aI,d];rfl),h _ ⟨j,d,λi b k=>?_,λi b t k=>?_⟩⟩
 ·have:=c ((rH a b:Nat):Int) (aS (i:=i) (by unfold kB;rw[aI,k];rfl));lia
 ·have e:(kB an a)[i]?=some ((rH a b:Nat):Int):=by unfold kB;rw[aI,k];rfl
  have H:=c _ (aS e);have J:((rH a b:Nat):Int)≠m:=λz=>g i t (by rw[e,z]);lia
def Jp:dS P w K mg base hX 1 wj wu ["one","other"] (cG K Pj):=by
 refine mB T.D_7.F Op λo nd n Q h=>?_;obtain⟨a,b,rfl,h⟩:=h;refine⟨_,(aQ (tI (dN oG lE (aH 1) aK)
 (aQ (ss 2 nd (cJ gK oY (aH 0) (aH 1)))
 (aQ (ss 0 nd (aH 1))
 (bC (ss 1 nd (aH 2))))) (λk j=>tV v8 k j))
 (bC (cR (aH 0)))),?_⟩
 show gI _ _ _ [.val (.int a),.val (.int b),.un];refine qW (λy l=>∃(x:Nat)(g:Sl),l=[.val (.int x),.val (.int y),g]/\x.gcd y=a.gcd b) b ⟨a,_,Fc,Fc⟩ λy m i=>?_;obtain⟨x,g,rfl,d⟩:=i;refine⟨decide (0<y),λq c=>⟨_,Fc,?_⟩,?_⟩
 ·show q (decide ((y:Int)>0));have:decide ((y:Int)>0)=decide (0<y):=by rw[ay];lia
  rw[this];exact c
 by_cases e:0<y
 ·rw[a7 (a8 e)];refine cL (.int ((x%y:Nat):Int)) (λq c=>⟨_,Fc,_,Fc,(show(0:Int)<(y:Int) by lia),?_⟩) ?_
  ·rw[<- Int.natCast_emod];exact c
  refine cL (.int y) (λq c=>⟨_,Fc,c⟩) ?_;refine mI (.int ((x%y:Nat):Int)) (λq c=>⟨_,Fc,c⟩) ⟨x%y,lT _ e,y,_,Fc,?_⟩;rw[<- d,aM6 x y,Nat.gcd_rec y x,aM6]
 ·rw[a6 (by simpa using e)];have f:y=0:=by lia
  subst f;rw[Nat.gcd_zero_right]at d;subst d;exact⟨_,Fc,h⟩
def Hm:dS P w K mg base hX 2 wh wt ["top","bottom"] (cG K Ke):=by
 refine mB T.D_6.F Oo λk nd l Q h=>?_;obtain⟨a,b,rfl,e,g,c,h⟩:=h;refine⟨_,(aQ (ss 2 nd (cd (Jp T) T.D_7 k (aA (aH 0) (aA (aH 1) aL))))
 (bC (cR (eM (aA (cJ IU oY (aH 0) (aH 2)) (aA (cJ IU oY (aH 1) (aH 2)) aL)))))),?_⟩
 show gI _ _ _ [.val (.int a),.val (.int b),.un];refine cL (.int ((a.gcd b:Nat):Int)) (λq j=>⟨_,Fc,_,Fc,a,b,Fc,j⟩) ?_;have i:0<a.gcd b:=mT _ e;have d:a.gcd b<=b:=aA7 _ e
 have hd:(0:Int)<((a.gcd b:Nat):Int)/\((a.gcd b:Nat):Int)<2^200:=⟨Ez,by
  have:(a.gcd b)<2^190:=qN d c;have f:(2^190:Nat)<=2^200:=lR Ey Ey
  exact_mod_cast cS this f⟩
 refine⟨_,Fc,_,Fc,hd,_,Fc,_,Fc,hd,aF Fc,?_⟩;show Q (.tuple [.int ((a:Int) / ((a.gcd b:Nat):Int)),.int ((b:Int) / ((a.gcd b:Nat):Int))]);rw[<- C6,<- C6];exact h
def Ju:dS P w K mg base hX 3 wg wr ["form","rows"] (cG K Pi):=by
 refine mB T.D_5.F On λl nd H Q h=>?_;obtain⟨fs,an,d,rfl,F,hok,f,h⟩:=h;refine⟨_,(aQ (ss 2 nd (cB gQ (aA (aH 1) aL) bY T.b_len eZ))
 (aQ (gT (dN jI mP (aH 2) aK)
 (bC (cR (eM (aA aK (aA aK aL)))))
 fM)
 (bC (cR (cd (Hm T) T.D_6 l (aA (cB Pr (aA (el (fr:=[none,some 2]) (N':=["count","many"]) (eW (rE (cF (Hk T) T.D_3 l (aA (aH 0) (aA (aH 1) aL))))) (λb=>⟨(dH (pk 0)),iT,(cJ fV lN (aH 0) (cJ mO vW (aH 1) (aH 0)))⟩)) aL) (DJ Fc) T.b_sum Xv) (aA (aH 2) aL))))))),?_⟩
 show gI _ _ _ [.val (dW fs an),.val (.list (d.map dP)),.un];have a4:=F.a4;refine cL (.int (d.length:Int)) (λq k=>⟨_,Fc,?_⟩) ?_
 ·show q (.int ((d.map dP).length:Int));rw[aC];exact k
 refine fW (λb=>b=decide ((d.length:Int)=0)) (λq k=>⟨_,Fc,k _ Fc⟩) (λt=>?_) λs=>?_
 ·have o:d.length=0:=by have:=b8 t.symm;lia
  have:d=[]:=hZ.mp o;subst this
  have m:U2 (Y1 [] []) (max 1 ([]:List Rw).length)=.tuple [.int 0,.int 1]:=by
   show U2 0 1=_;unfold U2;rw[Nat.gcd_zero_left];rfl
  rw[m]at h;exact⟨aF Fc,h⟩
 ·try unfold jD
  dsimp only;have o:¬d.length=0:=λz=>by have:=j5 s.symm;lia
  have p:max 1 d.length=d.length:=by lia
  rw[p]at h;have y:=LA d d;have v:d.length*d.length<=60*60:=fZ f f;have i:(kB an d).length=an.length:=by unfold kB;rw[aC]
  have j:∀c∈kB an d,0<=c/\c<=(d.length:Int):=λc g=>by
   unfold kB at g;obtain⟨a,_,rfl⟩:=aR.mp g;have:=Xy d a;lia
  show nM Ke _ _ Q;dsimp only[nM,qA,J7];refine jK (ts:=(kB an d).map aP) (λR h=>⟨_,Fc,_,Fc,fs,an,d,Fc,F,hok,f,_,Fc,h⟩) (Li d.length) (by rw[aC,i];lia) (λx q E k=>?_) ?_
  ·obtain⟨c,g,rfl⟩:=aR.mp E;have:=j c g;exact⟨_,Fc,_,Fc,_,Fc,.inl ⟨Ez,Ez⟩,k⟩
  ·have e:((kB an d).map aP).map (Li d.length)=((kB an d).map λc=>c*((d.length:Int)-c)).map aP:=by
    rw[bM,bM];rfl
   rw[e];refine⟨_,Fc,λn u=>?_,by rw[aC,i];lia,?_⟩
   ·obtain⟨c,g,rfl⟩:=aR.mp u;have:=j c g;have J:0<=c*((d.length:Int)-c):=qO Ez Ez;have M:c*((d.length:Int)-c)<=60*60:=Int.mul_le_mul Ez Ez Ez Ey;lia
   ·rw[Y0 F.an.2.2 λr l=>(hok r l).2];exact⟨_,Fc,_,_,Fc,Ez,qN (show Y1 d d<=3600 by lia) Ey,qN (show d.length<=60 from f) Ey,h⟩
def T8:dS P w K mg base hX 1 lg oy ["rows","numbers"] (cG K Vu):=by
 refine mB T.D_37.F Tn λf nd l Q h=>?_;obtain⟨fs,k,n,v,st,w,a,rfl,m,h⟩:=h;refine⟨_,(bC (cR (el (fr:=[none,some 0]) (N':=["number","rows"]) (eW (aH 1)) (λb=>⟨(dH (pk 0)),iT,(bD aX cA (aH 1) (aH 0))⟩)))),?_⟩;show sV _ _ [.val (.list (a.map dP)),.val (.list (iO fs k n v st a w))]
 have o:(iO fs k n v st a w).length<=60:=by
  unfold iO;have:=bW (nT fs k n v st a w) (eK a.length);rw[gZ]at this;lia
 refine jK (ts:=iO fs k n v st a w) (λR h=>⟨_,Fc,_,Fc,h⟩) (qX a) Ez (λx q i e=>?_) ?_
 ·obtain⟨j,g,rfl⟩:=aR.mp (cM.mp i).1;have c:j<a.length:=by simpa using g
  have d:L2.atI (a.map dP) (j:Int)=some (dP a[j]):=L2.fC (by rw[aI,aD c];rfl)
  have f:qX a (.int (j:Int))=dP a[j]:=by
   show(match L2.atI a (j:Int)with | some r=>dP r | none=>.none)=_;rw[L2.fC (aD c)]
  rw[f]at e;exact⟨_,Fc,_,Fc,_,d,e⟩
 ·rw[A4 fs k n v st w a.length a rfl];exact h
def Me:dS P w K mg base hX 3 li ph ["form","rows"] (cG K Vx):=by
 refine mB T.D_40.F Uv λg nd i Q h=>?_;obtain⟨fs,an,fa,d,rfl,F,c,b,f,h⟩:=h;refine⟨_,(bC (cR (eM (aA eN (aA (cd (Hl T) T.D_4 g (aA (aH 0) (aA (aH 1) aL))) aL))))),?_⟩;show sV _ _ [.val (dW fs an),.val (.list (d.map dP))]
 exact⟨_,Fc,_,Fc,fs,an,d,Fc,F,b,f,λa e=>by
  rw[e.uniq (c d b)];exact⟨Fb,h⟩⟩
def Mf:dS P w K mg base hX 5 lj pi ["form","knot","rows"] (cG K Vy):=by
 refine mB T.D_41.F Uw λp nd H Q h=>?_;obtain⟨fs,an,k,n,v,s,y,m,c,rfl,F,o,hs,e,g,h⟩:=h;refine⟨_,(bC (cR (el (fr:=[none,some 2]) (N':=["numbers","rows"]) (eW (V7 (cQ (UA T) T.D_18 p (aA (aH 0) (aA (bD aX cA (aH 1) aK) (aA (bD aX cA (aH 1) aK) (aA (aH 2) aL))))))) (λb=>⟨(dH (pk 0)),iT,(cd (T8 T) T.D_37 p (aA (aH 1) (aA (aH 0) aL)))⟩)))),?_⟩;show sV _ _ [.val (dW fs an),.val (jG (.ask k n v s y m)),.val (.list (c.map dP))];have J:(c.filter λr=>decide (fP fs k n v s r.1="yes"))=c.filter (iN fs k n v s):=rfl;refine B6 (ts:=[.list (iO fs k n v s c "yes"),.list (iO fs k n v s c "no")]) (λR h=>⟨_,Fc,_,Fc,_,Fc,_,Fc,_,Fc,_,Fc,fs,an,k,n,v,s,c,Fc,F,o,hs,e,g,_,Fc,h⟩) (λi _ y=>(i=0->y=.list ((c.filter (iN fs k n v s)).map dP))/\(i=1->y=.list ((c.filter λr=>!iN fs k n v s r).map dP))) Fb (λi x q j d=>?_) λE l f=>?_
 ·have M:i<2:=(aE.mp j).1;rcases(show i=0\/i=1 by lia)with rfl | rfl
  ·cases j;exact⟨_,Fc,_,Fc,fs,k,n,v,s,"yes",c,Fc,g,d _ ⟨λ_=>rfl,λz=>by cases z⟩⟩
  ·cases j;refine⟨_,Fc,_,Fc,fs,k,n,v,s,"no",c,Fc,g,?_⟩;rw[A1 F o hs e];exact d _ ⟨(λz=>by cases z),λ_=>rfl⟩
 ·match E,l,f with
  |[a,b],_,f=>
   have t:=(f 0 _ a Fc Fc).1 Fc;have u:=(f 1 _ b Fc Fc).2 Fc;rw[t,u];exact h
def Qi:dS P w K mg base hX 1 jt ni ["field"] (kU K We):=by
 refine Fh T.D_12.F Sk λj nd g Q h=>?_;obtain⟨f,rfl,c,i,h⟩:=h;refine⟨_,(aQ (ss 1 nd (bD aX cA (aH 0) aK))
 (aQ (ss 2 nd (bD aX cA (aH 0) aK))
 (aQ (ss 3 nd (CH (dN jI mP (cB gQ (aA (aH 2) aL) bY T.b_len eZ) aK) (jW mX xD (aH 2) mY (jT aK)) (aH 2)))
 (aQ (ss 4 nd (jW mX xD (aH 2) (jT aK) (jT (L9 aK))))
 (bC (AU (Zd (el (fr:=[none,some 1]) (N':=["value","name"]) (eW (aH 3)) (λb=>⟨(dH (pk 0)),iT,(eM (aA eN (aA (aH 1) (aA (aH 0) aL))))⟩)) (el (fr:=[none,some 1]) (N':=["value","name"]) (eW (aH 4)) (λb=>⟨(dH (pk 0)),iT,(eM (aA eN (aA (aH 1) (aA (aH 0) aL))))⟩))))))))),?_⟩
 show gI _ _ _ [.val (kI f),.un,.un,.un,.un];refine cL (.str f.1) (λq a=>⟨_,Fc,_,Fc,a⟩) ?_;refine cL (.tuple (f.2.map aV)) (λq a=>⟨_,Fc,_,Fc,a⟩) ?_;refine cL (.tuple ((pR f).map aV)) (λq a=>⟨_,Fc,?_⟩) ?_
 ·show(if decide (((f.2.map aV).length:Int)=2)=true then _ else _);unfold pR at a;rw[aC];by_cases e:f.2.length=2
  ·rw[a7 (a8 Ez)];rw[a7 e]at a;refine⟨_,Fc,?_⟩;show q (.tuple (lF (f.2.map aV) none (some 1)));rw[oA,aAn _ c];exact a
  ·rw[a6 (by simpa using(by lia:¬(f.2.length:Int)=2))];rw[a6 e]at a;exact⟨_,Fc,a⟩
 refine cL (.tuple ((BV f).map aV)) (λq a=>⟨_,Fc,?_⟩) ?_
 ·show q (.tuple (lF (f.2.map aV) (some 1) (some (-2))));rw[oA,aAo _ c];exact a
 have l:(pR f).length<=5:=by
  unfold pR;split
  ·rw[aZ];lia
  ·lia
 have k:(BV f).length<=5:=by
  unfold BV;rw[aZ,gA];lia
 dsimp only[Lo,Kk];refine jK (ts:=(pR f).map aV) (λR h=>⟨_,Fc,_,Fc,h⟩) (λx=>.tuple [.str "is",.str f.1,x]) (by rw[aC];lia) (λx q d a=>⟨_,Fc,_,Fc,aF Fc,a⟩) ?_;refine jK (ts:=(BV f).map aV) (λR h=>⟨_,Fc,_,Fc,h⟩) (λx=>.tuple [.str "upto",.str f.1,x]) (by rw[aC];lia) (λx q d a=>⟨_,Fc,_,Fc,aF Fc,a⟩) ?_;refine⟨_,_,Fc,Fc,by simp only[aC];lia,?_⟩;rw[bM,bM];exact h
def Qh:dS P w K mg base hX 2 js nh ["form"] (kU K Wd):=by
 refine Fh T.D_11.F Sj λs nd z Q h=>?_;obtain⟨fs,an,rfl,F,h⟩:=h;refine⟨_,(aQ (so 1 nd aL)
 (aQ (sf (eW (bD aX cA (aH 0) aK)) (dH (pn 2 nd))
 (bC (FN (i:=1) (pv 1) (rE (cF (Qi T) T.D_12 s (aA (aH 2) aL))) (pb:=λh=>jJ (kJ bT qL qK F7 (pv 1) h)))))
 (bC (uS (pv 1))))),?_⟩
 show gI _ _ _ [.val (dW fs an),.un,.un];have n5:=F.n5;refine lJ [] Ey (λq c=>c) ?_
 refine hV (ts:=fs.map kI) (λR h=>⟨_,Fc,_,Fc,_,Fc,h⟩)
  (λk y=>∃d:Sl,y=[.val (dW fs an),.own (eO (fs.take k)),d]) ⟨_,Fc⟩ (λk x j l b=>?_) λj b=>?_
 ·obtain⟨d,rfl⟩:=b;rw[aI]at l;obtain⟨f,a,rfl⟩:=bU.mp l;have n:f∈fs:=aS a;obtain⟨u,v,t⟩:=F.vs f n;have m:=iY F (fs.take k) λg o=>dY o;have p:(fs.take k).length<=5:=by rw[aZ];lia
  have r:(IN f).length<=10:=by
   unfold IN pR BV;rw[bH,aC,aC,aZ,gA];split
   ·rw[aZ];lia
   ·lia
  refine IV (ts:=eO (fs.take k)) (us:=IN f) Fc Ez (λq c=>⟨_,Fc,f,Fc,u,v,c⟩) ⟨.val (kI f),?_⟩
  have e:eO (fs.take (k+1))=eO (fs.take k)++IN f:=by
   unfold eO;rw[cU,a,bB,RG];show _++[IN f].flatten=_;rw[KP]
  rw[e];rfl
 ·obtain⟨d,rfl⟩:=b;rw[aC,dA];exact⟨_,Fc,h⟩
def L1:dS P w K mg base hX 3 ju nj ["form"] (cG K Wf):=by
 refine mB T.D_13.F Sm λe nd z Q h=>?_;obtain⟨fs,an,rfl,F,h⟩:=h;refine⟨_,(aQ (so 1 nd aL)
 (aQ (sf (eW (rE (cF (Qh T) T.D_11 e (aA (aH 0) aL)))) (dH (pn 2 nd))
 (bC (FN (i:=1) (pv 1) (el (fr:=[none,some 2]) (N':=["stray","question"]) (eW (OC Fc T.c_SIDES T.t_SIDES)) (λb=>⟨(dH (pk 0)),iT,(eM (aA (aH 1) (aA (aH 0) aL)))⟩)) (pb:=λh=>jJ (kJ bT qL qK F7 (pv 1) h)))))
 (lX 1 (bC (cR (aH 1)))))),?_⟩
 show gI _ _ _ [.val (dW fs an),.un,.un];have n5:=F.n5;have o:=iY F fs λg p=>p;have u:(qs fs).length=(eO fs).length:=by rw[<- oX,aC]
 refine lJ [] Ey (λq t=>t) ?_
 refine hV (ts:=(qs fs).map qD) (λR h=>⟨_,Fc,fs,an,Fc,F,_,Fc,by rw[<- oX];exact h⟩)
  (λk y=>∃m:Sl,y=[.val (dW fs an),.own ((((qs fs).take k).flatMap HS).map XE),m]) ⟨_,Fc⟩ (λk x n j c=>?_) λn c=>?_
 ·obtain⟨m,rfl⟩:=c;rw[aI]at j;obtain⟨q,d,rfl⟩:=bU.mp j
  have a:((((qs fs).take k).flatMap HS).map XE).length=2*((qs fs).take k).length:=by
   rw[aC]
   generalize (qs fs).take k=l
   induction l with
   |nil=>rfl
   |cons x l v=>rw[zY,bH,v,dB];show 2+_=_;lia
  have s:((qs fs).take k).length<=50:=by rw[aZ];lia
  refine IV (us:=[XE (q,"yes"),XE (q,"no")]) Fc (by rw[a];show _+2<=_;lia) (λr e=>?_) ⟨.val (qD q),?_⟩
  ·refine jK (ts:=[.str "yes",.str "no"]) (λR h=>⟨_,Fc,h⟩) (λx=>.tuple [qD q,x]) Ey (λx E j f=>⟨_,Fc,_,Fc,Fb,f⟩) e
  ·rw[cU,d];show _=[_,Sl.own (((((qs fs).take k)++[q]).flatMap HS).map XE),_];rw[List.flatMap_append,bB];rfl
 ·obtain⟨m,rfl⟩:=c;rw[aC,dA];exact⟨_,Fc,_,Fc,h⟩
def Oe:dS P w K mg base hX 3 wk wv ["one","other"] (cG K Pk):=by
 refine mB T.D_8.F Oq λd nd f Q h=>?_;obtain⟨x,y,rfl,a,b,h⟩:=h;refine⟨_,(bC (cR (cd (Hm T) T.D_6 d (aA (cJ cZ gU (cJ fV lN (bD aX cA (aH 0) aK) (bD aX cA (aH 1) aK)) (cJ fV lN (bD aX cA (aH 1) aK) (bD aX cA (aH 0) aK))) (aA (cJ fV lN (bD aX cA (aH 0) aK) (bD aX cA (aH 1) aK)) aL))))),?_⟩;show sV _ _ [.val (C8 x),.val (C8 y)];have j:=a.top;have k:=a.bot;have l:=b.top;have m:=b.bot;obtain⟨g,i,c⟩:=NC a b;have big:(1000000000000:Nat)<2^190:=by decide +kernel
 have e:[aP ((x.1:Int)*(y.2:Int)+(y.1:Int)*(x.2:Int)),.int ((x.2:Int)*(y.2:Int))]=[.int ((x.1*y.2+y.1*x.2:Nat):Int),.int ((x.2*y.2:Nat):Int)]:=by
  rw[fU,eI,eI,eI]
 refine⟨_,Fc,_,Fc,_,Fc,_,Fc,.inl ⟨Ez,Ez⟩,_,Fc,_,Fc,_,Fc,_,Fc,.inl ⟨Ez,Ez⟩,_,Fc,_,Fc,_,Fc,_,Fc,.inl ⟨Ez,Ez⟩,_,_,e,c,Ez,Ez,h⟩
def Qg:dS P w K mg base hX 2 jr ng ["fractions"] (cG K Wc):=by
 refine mB T.D_10.F Ts λo nd r Q h=>?_;obtain⟨l,rfl,n,h⟩:=h;refine⟨_,(aQ (ss 1 nd aK)
 (aQ (sf (eW (aH 0)) (dH (pn 2 nd))
 (bC (ss 1 nd (cJ lL oY (cJ fV lN (aH 1) (bD aX cA (aH 2) aK)) (cd (Jp T) T.D_7 o (aA (aH 1) (aA (bD aX cA (aH 2) aK) aL)))))))
 (bC (cR (aH 1))))),?_⟩
 show gI _ _ _ [.val (.list (l.map C8)),.un,.un];refine cL (.int 1) (λq a=>a) ?_
 refine hV (ts:=l.map C8) (λR h=>⟨_,Fc,_,Fc,h⟩)
  (λk p=>∃c:Sl,p=[.val (.list (l.map C8)),.val (.int ((wF (l.take k):Nat):Int)),c]) ⟨_,Fc⟩ (λk x d e b=>?_) λd b=>?_
 ·obtain⟨c,rfl⟩:=b;rw[aI]at e;obtain⟨y,f,rfl⟩:=bU.mp e;obtain⟨g,t⟩:=n y (aS f);have s:(wF (l.take k)).gcd y.2<=y.2:=aGa g (AN _ _);have m:0<(wF (l.take k)).gcd y.2:=mT _ g
  have j:wF (l.take (k+1))=(wF (l.take k)).lcm y.2:=by
   unfold wF;rw[cU,f,W6];rfl
  refine mI (.int ((wF (l.take (k+1)):Nat):Int)) (λq a=>⟨_,Fc,_,Fc,_,Fc,.inr ⟨Ez,Ez⟩,_,Fc,_,Fc,_,Fc,_,_,Fc,⟨Ez,Ez⟩,?_⟩) ⟨_,Fc⟩;rw[j]at a
  have i:((wF (l.take k):Nat):Int)*(y.2:Int) / (((wF (l.take k)).gcd y.2:Nat):Int)=(((wF (l.take k)).lcm y.2:Nat):Int):=by
   rw[<- eI,<- C6];rfl
  rw[i];exact a
 ·obtain⟨c,rfl⟩:=b;rw[aC,dA];exact⟨_,Fc,h⟩
def Mb:dS P w K mg base hX 1 kb nz ["sides","fewest"] (cG K Vd):=by
 refine mB T.D_20.F Sv λg nd f Q h=>?_;obtain⟨u,v,a,bs,m,rfl,d,h⟩:=h;refine⟨_,(bC (cR (MA (lP NX lE (cB gQ (aA (bD aX cA (aH 0) aK) aL) bY T.b_len eZ) (aH 1)) (L8 (lP NX lE (cB gQ (aA (bD aX cA (aH 0) aK) aL) bY T.b_len eZ) (aH 1)))))),?_⟩;show sV _ _ [.val (.tuple [u,v]),.val (.int m)]
 have c:∀q:D->Prop,q (.bool (decide (m<=(a.length:Int))&&decide (m<=(bs.length:Int))))->(if decide (m<=(a.length:Int))=true then q (.bool (decide (m<=(bs.length:Int))))else q (.bool false)):=λq b=>by
  cases e:decide (m<=(a.length:Int))with
  |false=>rw[a6 Ey];rw[e]at b;exact b
  |true=>rw[a7 rfl];rw[e]at b;exact b
 have h:=c _ h;rcases d with⟨rfl,rfl⟩ | ⟨rfl,rfl⟩
 ·refine⟨_,Fc,_,Fc,_,Fc,?_⟩;show(if decide (m<=(a.length:Int))=true then _ else _);split at h
  ·next e=>rw[a7 e];exact⟨_,Fc,_,Fc,_,Fc,h⟩
  ·next e=>rw[a6 e];exact h
 ·refine⟨_,Fc,_,Fc,_,Fc,?_⟩;show(if decide (m<=(a.length:Int))=true then _ else _);split at h
  ·next e=>rw[a7 e];exact⟨_,Fc,_,Fc,_,Fc,h⟩
  ·next e=>rw[a6 e];exact h
def Sb:dS P w K mg base hX 6 lf ja ["form","rows","least"] (kU K Vt):=by
 refine Nc T.L_36 T.D_36.F Lq (λds Q h=>by obtain⟨fs,an,f,m,rfl,F,l,o,h⟩:=h;rfl) λer lc Ar outer s H E r ds Q h=>?_;obtain⟨fs,an,f,m,rfl,F,l,o,h⟩:=h;have nd:=Lq.nd;refine⟨_,(aQ (so 3 nd aL)
 (aQ (sf (eW (cd (L1 T) T.D_13 r (aA (aH 0) aL))) (nZ (lC Fc (dQ (pn 4 nd) (dQ (pn 5 nd) jS))))
 (aQ (ss 6 nd (V7 (cQ (UA T) T.D_18 r (aA (aH 0) (aA (aH 4) (aA (aH 5) (aA (aH 1) aL)))))))
 (bC (gT (tv (cd (Mb T) T.D_20 r (aA (aH 6) (aA (aH 2) aL))))
 (aQ (pD (i:=7) (fr:=[none,some 0,some 1]) (N':=["numbers","form","rows"]) (eW (aH 6)) (λb=>⟨(dH (pk 0)),iT,(cd (Ju T) T.D_5 r (aA (aH 1) (aA (cd (T8 T) T.D_37 r (aA (aH 2) (aA (aH 0) aL))) aL)))⟩) (λu hY=>nS (show rC _ (bA (top 46)) ["form","rows","least","told","question","stray","sides","doubts","bottom"] ["numbers","form","rows"] [none,some 0,some 1]=true from by decide +kernel) nd Fc (by first | exact v7 Fc | exact r0 Fc) Fc u hY Fc))
 (bC (mN (i:=3) (pv 3) (eM (aA (aH 4) (aA (aH 5) (aA (cd (Oe T) T.D_8 r (aA (bD aX cA (aH 7) aK) (aA (bD aX cA (aH 7) aK) aL))) aL)))) (pb:=λh=>jJ (kJ bT dE dD iF (pv 3) h)))))
 fM))))
 (lX 3 (aQ (ss 8 nd (cd (Qg T) T.D_10 r (aA (el (fr:=[none,none,none]) (N':=["question","stray","doubt"]) (eW (aH 3)) (λb=>⟨(rD (lC Fc (dQ (pk 0) (dQ (pk 1) (dQ (pk 2) jS))))),iT,(aH 2)⟩)) aL)))
 (bC (AU (VY (k:=0) (ib:=8) (r.mono Ez) lc Fc Fc Fc Fc T.b_sorted ES (aA (aH 3) aL)))))))),?_⟩
 show gI _ _ _ [.val (dW fs an),.val (.list (f.map dP)),.val (.int m),.un,.un,.un,.un,.un,.un]
 have sj:(wE fs f m).length<=60:=by
  have h1:=iY F fs λg hg=>hg;have n4:=F.n4;have h2:=bW (okC fs f m) (jL fs);rw[oZ]at h2;show((jL fs).filter (okC fs f m)).length<=60;lia
 have Be:(jL fs).length<=100:=by
  have h1:=iY F fs λg hg=>hg;have n5:=F.n5;rw[oZ];lia
 refine lJ [] Ey (λq M=>M) ?_
 refine hV (ts:=(jL fs).map XE) (λR h=>⟨_,Fc,fs,an,Fc,F,_,Fc,h⟩)
  (λk σ=>∃s4 s5 s6 s7:Sl,σ=[.val (dW fs an),.val (.list (f.map dP)),.val (.int m),.own ((((jL fs).take k).filter (okC fs f m)).map (MC fs f)),s4,s5,s6,s7,.un]) ⟨_,_,_,_,Fc⟩ (λk x bi p hP=>?_) λbi hP=>?_
 ·obtain⟨s4,s5,s6,s7,rfl⟩:=hP;rw[aI]at p;obtain⟨c,t,rfl⟩:=bU.mp p;have hc:=aS t;obtain⟨M,hs⟩:=yZ hc;have n:=yI M
  have zc:(iO fs c.1.1 c.1.2.1 c.1.2.2 c.2 f "yes").length=(yR fs c f).length:=by
   have:=e7 gC (A4 fs c.1.1 c.1.2.1 c.1.2.2 c.2 "yes" f.length f Fc);rw[aC,aC]at this;exact this
  have W:(iO fs c.1.1 c.1.2.1 c.1.2.2 c.2 f "no").length=(nR fs c f).length:=by
   have:=e7 gC (A4 fs c.1.1 c.1.2.1 c.1.2.2 c.2 "no" f.length f Fc);rw[aC,aC,A1 F n hs l]at this;exact this
  have et:((jL fs).take (k+1)).filter (okC fs f m)=((jL fs).take k).filter (okC fs f m)++(if okC fs f m c=true then[c]else[]):=by
   rw[cU,t,fD];congr 1;show List.filter _ [c]=_;rw[cH];rfl
  have Eb:((((jL fs).take k).filter (okC fs f m)).map (MC fs f)).length<=100:=by
   rw[aC];exact bG (bW _ _) (by rw[aZ];lia)
  refine⟨qD c.1,.str c.2,Fc,?_⟩;dsimp only;refine cL (.tuple [.list (iO fs c.1.1 c.1.2.1 c.1.2.2 c.2 f "yes"),.list (iO fs c.1.1 c.1.2.1 c.1.2.2 c.2 f "no")]) (λq j=>⟨_,Fc,_,Fc,_,Fc,_,Fc,fs,an,c.1.1,c.1.2.1,c.1.2.2,c.2,f,Fc,F,n,hs,l,o,j⟩) ?_;refine mZ (λb=>b=okC fs f m c) (λq j=>⟨_,Fc,_,Fc,_,_,_,_,m,Fc,.inl ⟨Fc,Fc⟩,?_⟩) (λhT=>?_) λhF=>?_
  ·refine j _ ?_;rw[zc,W];rfl
  ·refine cL (.list [C8 (XD (yR fs c f)),C8 (XD (nR fs c f))]) (λq j=>?_) ?_
   ·refine B6 (ts:=[.list (iO fs c.1.1 c.1.2.1 c.1.2.2 c.2 f "yes"),.list (iO fs c.1.1 c.1.2.1 c.1.2.2 c.2 f "no")]) (λR h=>⟨_,Fc,_,Fc,h⟩) (λi _ y=>(i=0->y=C8 (XD (yR fs c f)))/\(i=1->y=C8 (XD (nR fs c f)))) Fb (λi x q p S=>?_) λys uj hy=>?_
    ·have u:i<2:=(aE.mp p).1;rcases(show i=0\/i=1 by lia)with rfl | rfl
     ·cases p;exact⟨_,Fc,_,Fc,_,Fc,fs,c.1.1,c.1.2.1,c.1.2.2,c.2,"yes",f,Fc,o,fs,an,_,Fc,F,l.filt _,bG (bW _ _) o,S _ ⟨λ_=>rfl,λz=>by cases z⟩⟩
     ·cases p;refine⟨_,Fc,_,Fc,_,Fc,fs,c.1.1,c.1.2.1,c.1.2.2,c.2,"no",f,Fc,o,?_⟩;rw[A1 F n hs l];exact⟨fs,an,_,Fc,F,l.filt _,bG (bW _ _) o,S _ ⟨(λz=>by cases z),λ_=>rfl⟩⟩
    ·match ys,uj,hy with
     |[a,b],_,hy=>
      have h0:=(hy 0 _ a Fc Fc).1 Fc;have h1:=(hy 1 _ b Fc Fc).2 Fc;rw[h0,h1];exact j
   ·have U:(yR fs c f).length<=60:=bG (bW _ _) o;have v:(nR fs c f).length<=60:=bG (bW _ _) o;refine nY (MC fs f c) Fc Ez (λq j=>⟨_,Fc,_,Fc,_,Fc,_,Fc,_,Fc,_,Fc,_,_,Fc,xP U,xP v,Fb,j⟩) ⟨.val (qD c.1),.val (.str c.2),.val (.tuple [.list (iO fs c.1.1 c.1.2.1 c.1.2.2 c.2 f "yes"),.list (iO fs c.1.1 c.1.2.1 c.1.2.2 c.2 f "no")]),.val (.list [C8 (XD (yR fs c f)),C8 (XD (nR fs c f))]),?_⟩;rw[et,a7 hT.symm,bB];rfl
  ·try unfold jD
   dsimp only;refine⟨.val (qD c.1),.val (.str c.2),.val (.tuple [.list (iO fs c.1.1 c.1.2.1 c.1.2.2 c.2 f "yes"),.list (iO fs c.1.1 c.1.2.1 c.1.2.2 c.2 f "no")]),s7,?_⟩;rw[et,a6 (by rw[<- hF];decide),fS];rfl
 ·obtain⟨s4,s5,s6,s7,rfl⟩:=hP;rw[aC,dA];refine⟨_,Fc,?_⟩;show gI _ _ _ [.val (dW fs an),.val (.list (f.map dP)),.val (.int m),.val (.list (CM fs f m)),s4,s5,s6,s7,.un]
  have Bg:∀x∈XC fs f m,0<x.2/\x.2<=1000000:=λx p=>by
   obtain⟨c,_,rfl⟩:=aR.mp p;have:=MF (fs:=fs) o c;exact⟨this.pos,bG this.bot Ey⟩
  refine cL (.int (wF (XC fs f m):Nat)) (λq M=>?_) ?_
  ·dsimp only[nM,qA,J7];refine ZP (ts:=CM fs f m) (λR h=>⟨_,Fc,_,Fc,h⟩) (λx=>match x with | .tuple [_,_,d]=>d | _=>.none) (by rw[uF];lia) (λx p=>?_) (λa b c q' hm n=>⟨_,Fc,n⟩) ?_
   ·obtain⟨c,_,rfl⟩:=aR.mp p;exact⟨_,_,_,Fc⟩
   ·have e:(CM fs f m).map (λx=>match x with | .tuple [_,_,d]=>d | _=>.none)=(XC fs f m).map C8:=by
     unfold CM XC;rw[bM,bM];rfl
    rw[e];exact⟨_,Fc,Bg,M⟩
  ·refine⟨_,Fc,CM fs f m,(wF (XC fs f m):Nat),QH fs f m,Fc,by rw[uF];lia,Fc,by rw[uF,VC],λi e k he hk=>?_,λJ hJ=>?_⟩
   ·have u:i<(wE fs f m).length:=by rw[<- uF];exact(aE.mp he).1
    have e1:=OD (fs:=fs) (R:=f) (m:=m) u;rw[cX,he]at e1;have e2:=ZU (fs:=fs) (R:=f) (m:=m) u;rw[cX,hk]at e2;have sm:=MF (fs:=fs) o (wE fs f m)[i];have s1:=sm.top;have s2:=sm.pos;have s3:=sm.bot;exact⟨_,_,_,_,e1,⟨Ez,Ez⟩,.inl ⟨Ez,Ez⟩,e2⟩
   ·rw[uF]at hJ;exact h J hJ
def Jq:dS P w K mg base hX 1 wl ww ["one","other"] (cG K Pl):=by
 refine mB T.D_9.F Os λb nd a Q h=>?_;obtain⟨x,y,rfl,c,d,h⟩:=h;refine⟨_,(bC (cR (lP zP lE (cJ fV lN (bD aX cA (aH 0) aK) (bD aX cA (aH 1) aK)) (cJ fV lN (bD aX cA (aH 1) aK) (bD aX cA (aH 0) aK))))),?_⟩;show sV _ _ [.val (C8 x),.val (C8 y)];refine⟨_,Fc,_,Fc,_,Fc,_,Fc,.inl ⟨Ez,Ez⟩,_,Fc,_,Fc,_,Fc,_,Fc,.inl ⟨Ez,Ez⟩,?_⟩;show Q (.bool (decide ((x.1:Int)*(y.2:Int)<(y.1:Int)*(x.2:Int))))
 have e:decide ((x.1:Int)*(y.2:Int)<(y.1:Int)*(x.2:Int))=decide (x.1*y.2<y.1*x.2):=by
  rw[ay,<- eI,<- eI];lia
 rw[e];exact h
def Sc:dS P w K mg base hX 7 lh oz ["form","rows","least"] (cG K Vv):=by
 refine mB T.D_38.F Ut λp nd x Q h=>?_;obtain⟨fs,an,a,m,rfl,F,g,k,h⟩:=h;refine⟨_,(aQ (ss 3 nd (rE (cF (Sb T) T.D_36 p (aA (aH 0) (aA (aH 1) (aA (aH 2) aL))))))
 (aQ (gT (qR (FM (PB (aH 3) (λh=>S3 h (λ_=>rfl))) (AS (tv (cd (Jq T) T.D_9 p (aA (bD aX cA (bD aX cA (aH 3) aK) aK) (aA (cd (Ju T) T.D_5 p (aA (aH 0) (aA (aH 1) aL))) aL)))))))
 (bC (cR (bD aX cA (aH 3) aK)))
 fM)
 (bC (cR pJ)))),?_⟩
 show gI _ _ _ [.val (dW fs an),.val (.list (a.map dP)),.val (.int m),.un];have o:∀c:Ch,(dC fs a c).1<=1000000:=λc=>bG (MF (fs:=fs) k c).top Ey;have n:(XD a).1<=1000000:=bG (xP k).top Ey
 have l:∀{i:Nat}{J:List Nat},Ie fs a m (i::J)->∃c,c∈wE fs a m/\L2.atI (Ia fs a m (i::J)) 0=some (MC fs a c):=λ{i J} e=>by
  have t:=e.lt i (aU ..);refine⟨_,fK t,L2.fC (j:=0) ?_⟩;show some ((CM fs a m).getD i .none)=_;rw[OD t]
 refine iA (λv=>∃J,Ie fs a m J/\v=.list (Ia fs a m J)) (λq f=>⟨_,Fc,_,Fc,_,Fc,fs,an,a,m,Fc,F,g,k,λJ e=>f _ ⟨J,e,Fc⟩⟩) ?_;rintro _ ⟨J,e,rfl⟩
 cases J with
 |nil=>
  refine fW (λb=>b=false) (λq f=>?_) (λs=>by cases s) λ_=>?_
  ·refine⟨_,Fc,[],Fc,?_⟩;show(if(false:Bool)=true then _ else q false);rw[a6 Ey];exact f _ Fc
  ·try unfold jD
   dsimp only;exact h none λc z=>by cases z
 |cons i J=>
  obtain⟨c,u,r⟩:=l e;refine fW (λb=>True) (λq f=>?_) (λs=>?_) λy=>?_
  ·refine⟨_,Fc,_,Fc,?_⟩;show(if(true:Bool)=true then _ else q false);rw[a7 rfl];exact⟨_,Fc,_,r,_,Fc,_,Fc,_,Fc,fs,an,a,Fc,F,g,k,_,_,Fc,o c,n,f _ trivial⟩
  ·exact⟨_,Fc,_,r,h (some c) λd z=>by cases z;exact u⟩
  ·try unfold jD
   dsimp only;exact h none λc z=>by cases z
def X8(E:Nat)
  (s:dS P w K mg base hX (8+E) I gj ["form","rows","deep","least"] (cG K (tO E))):dS P w K mg base hX (8+E+1) I gj ["form","rows","deep","least"] (cG K (tO (E+1))):=by
 refine mB T.D_39.F Uu λz nd ds Q h=>?_;obtain⟨fs,an,g,d,m,rfl,F,f,l,hd,h⟩:=h;refine⟨_,(aQ (ss 4 nd (CH (dN oG lE (aH 2) aK) (cd (hk:=by lia) (Sc T) T.D_38 z (aA (aH 0) (aA (aH 1) (aA (aH 3) aL)))) pJ))
 (aQ (gT (dN B1 I0 (aH 4) pJ)
 (bC (cR (eM (aA eN (aA (cd (hk:=by lia) (Hl T) T.D_4 z (aA (aH 0) (aA (aH 1) aL))) aL)))))
 fM)
 (aQ (ss 5 nd (V7 (cQ (hk:=by lia) (UA T) T.D_18 z (aA (aH 0) (aA (bD aX cA (aH 4) aK) (aA (bD aX cA (aH 4) aK) (aA (aH 1) aL)))))))
 (aQ (pD (i:=6) (fr:=[none,some 0,some 3,some 1,some 2]) (N':=["numbers","form","least","rows","deep"]) (eW (aH 5)) (λb=>⟨(dH (pk 0)),iT,(cd (hk:=by lia) s T.D_39 z (aA (aH 1) (aA (cd (hk:=by lia) (T8 T) T.D_37 z (aA (aH 3) (aA (aH 0) aL))) (aA (cJ mO vW (aH 4) aK) (aA (aH 2) aL)))))⟩) (λhi hY=>nS (show rC _ (bA (top 49)) ["form","rows","deep","least","found","sides","parts"] ["numbers","form","least","rows","deep"] [none,some 0,some 3,some 1,some 2]=true from by decide +kernel) nd Fc (by first | exact v7 Fc | exact r0 Fc) Fc hi hY Fc))
 (bC (cR (eM (aA eN (aA (bD aX cA (aH 4) aK) (aA (bD aX cA (aH 4) aK) (aA (bD aX cA (aH 6) aK) (aA (bD aX cA (aH 6) aK) aL)))))))))))),?_⟩
 show gI _ _ _ [.val (dW fs an),.val (.list (g.map dP)),.val (.int d),.val (.int m),.un,.un,.un]
 cases d with
 |zero=>
  refine cL .none (λq j=>⟨_,Fc,j⟩) ?_;refine fW (λb=>b=true) (λq j=>⟨_,Fc,j _ Fc⟩) (λ_=>?_) λU=>by cases U
  exact⟨_,Fc,_,Fc,fs,an,g,Fc,F,f,l,λa ⟨k,S,_⟩=>⟨Fb,h (.say a) (aS S) (aN _)⟩⟩
 |succ e=>
  refine iA (λv=>∃o:Option Ch,(∀c,o=some c->c∈wE fs g m)/\v=Js fs g o) (λq j=>⟨_,Fc,?_⟩) ?_
  ·show(if decide ((0:Int)<((e+1:Nat):Int))=true then _ else q .none);rw[a7 (a8 Ez)];exact⟨_,Fc,_,Fc,_,Fc,fs,an,g,m,Fc,F,f,l,λo W=>j _ ⟨o,W,Fc⟩⟩
  rintro _ ⟨o,W,rfl⟩
  cases o with
  |none=>
   refine fW (λb=>b=true) (λq j=>⟨_,Fc,j _ Fc⟩) (λ_=>?_) λU=>by cases U
   refine⟨_,Fc,_,Fc,fs,an,g,Fc,F,f,l,λa ⟨k,S,_⟩=>⟨Fb,h (.say a) (aS S) (cI _)⟩⟩
  |some c=>
   have hc:=(cM.mp (W c Fc)).1;obtain⟨j,hs⟩:=yZ hc;have p:=yI j;refine fW (λb=>b=false) (λq j=>⟨_,Fc,j _ Fc⟩) (λhT=>by cases hT) λ_=>?_
   try unfold jD
   dsimp only;refine cL (.tuple [.list (iO fs c.1.1 c.1.2.1 c.1.2.2 c.2 g "yes"),.list (iO fs c.1.1 c.1.2.1 c.1.2.2 c.2 g "no")]) (λq r=>⟨_,Fc,_,Fc,_,Fc,_,Fc,_,Fc,_,Fc,fs,an,c.1.1,c.1.2.1,c.1.2.2,c.2,g,Fc,F,p,hs,f,l,r⟩) ?_;refine iA (λv=>∃y n,(lQ fs an y/\y.dep<=e)/\(lQ fs an n/\n.dep<=e)/\v=.list [jG y,jG n]) (λq r=>?_) ?_
   ·have es:((e+1:Nat):Int)-1=((e:Nat):Int):=by lia
    refine B6 (ts:=[.list (iO fs c.1.1 c.1.2.1 c.1.2.2 c.2 g "yes"),.list (iO fs c.1.1 c.1.2.1 c.1.2.2 c.2 g "no")]) (λR h=>⟨_,Fc,_,Fc,h⟩) (λi _ y=>∃t,(lQ fs an t/\t.dep<=e)/\y=jG t) Fb (λi x q hx u=>?_) λys uj M=>?_
    ·have hi:i<2:=(aE.mp hx).1;rcases(show i=0\/i=1 by lia)with rfl | rfl
     ·cases hx;exact⟨_,Fc,_,Fc,_,Fc,fs,c.1.1,c.1.2.1,c.1.2.2,c.2,"yes",g,Fc,l,_,Fc,_,Fc,fs,an,_,e,m,by rw[<- es]<;>rfl,F,f.filt _,bG (bW _ _) l,Ez,λt t1 t2=>u _ ⟨t,⟨t1,t2⟩,Fc⟩⟩
     ·cases hx;refine⟨_,Fc,_,Fc,_,Fc,fs,c.1.1,c.1.2.1,c.1.2.2,c.2,"no",g,Fc,l,?_⟩;rw[A1 F p hs f];exact⟨_,Fc,_,Fc,fs,an,_,e,m,by rw[<- es]<;>rfl,F,f.filt _,bG (bW _ _) l,Ez,λt t1 t2=>u _ ⟨t,⟨t1,t2⟩,Fc⟩⟩
    ·match ys,uj,M with
     |[a,b],_,M=>
      obtain⟨y,H,rfl⟩:=M 0 _ a Fc Fc;obtain⟨n,J,rfl⟩:=M 1 _ b Fc Fc;exact r _ ⟨y,n,H,J,Fc⟩
   ·rintro _ ⟨y,n,H,J,rfl⟩;refine⟨_,Fc,_,Fc,_,Fc,_,Fc,_,Fc,_,Fc,_,Fc,_,Fc,Fb,h (.ask c.1.1 c.1.2.1 c.1.2.2 c.2 y n) ⟨p,hs,H.1,J.1⟩ (by have:=H.2;have:=J.2;show max y.dep n.dep+1<=e+1;lia)⟩
def Sd:dS P w K mg base hX 15 I gj ["form","rows","deep","least"] (cG K Vw):=by
 have h:∀a:Nat,dS P w K mg base hX (8+a) I gj ["form","rows","deep","least"] (cG K (tO a)):=λa=>by
  induction a with
  |zero=>exact wA pI λc Q h=>UO h
  |succ a b=>exact X8 T a b
 exact h 7
def D9:dS P w K mg base hX 1 ke og ["tree"] (cG K Vf):=by
 refine mB T.D_22.F Sx λc nd b Q h=>?_;obtain⟨t,rfl,h⟩:=h;refine⟨_,(bC (cR (lP jI mP (bD aX cA (aH 0) aK) eN))),?_⟩
 cases t with
 |say a=>exact⟨_,Fc,_,Fc,h⟩
 |ask k n v s y m=>exact⟨_,Fc,_,Fc,h⟩
def Mc:dS P w K mg base hX 1 kg oh ["knot","side"] (cG K Vg):=by
 refine mB T.D_23.F Sy λc nd b Q h=>?_;obtain⟨k,n,v,s,y,m,a,rfl,h⟩:=h;refine⟨_,(bC (cR (CH (dN jI mP (aH 1) eN) (bD aX cA (aH 0) aK) (bD aX cA (aH 0) aK)))),?_⟩;show sV _ _ [.val (jG (.ask k n v s y m)),.val (.str a)];refine⟨_,Fc,?_⟩;show(if decide (a="yes")=true then _ else _);by_cases e:a="yes"
 ·rw[a7 (a8 e)];rw[a7 e]at h;exact⟨_,Fc,_,Fc,h⟩
 ·rw[a6 (by simpa using e)];rw[a6 e]at h;exact⟨_,Fc,_,Fc,h⟩
def Qo:dS P w K mg base hX 4 kh oi ["form","tree","case"] (kU K Vi):=by
 refine Fh T.D_25.F SZ λj nd U Q h=>?_;obtain⟨fs,an,t,b,rfl,F,J,f,hd,h⟩:=h;refine⟨_,(aQ (so 3 nd aL)
 (aQ (ss 4 nd (aH 1))
 (aQ (tI (yG (tv (cd (D9 T) T.D_22 j (aA (aH 4) aL))))
 (aQ (ss 5 nd (cd (UB T) T.D_14 j (aA (aH 0) (aA (bD aX cA (aH 4) aK) (aA (bD aX cA (aH 4) aK) (aA (aH 2) aL))))))
 (aQ (mN (i:=3) (pv 3) (eM (aA (bD aX cA (aH 4) aK) (aA (aH 5) aL))) (pb:=λh=>jJ (kJ bT dE dD iF (pv 3) h)))
 (bC (ss 4 nd (cd (Mc T) T.D_23 j (aA (aH 4) (aA (aH 5) aL))))))) (λf x=>tV v8 f x))
 (bC (uS (pv 3)))))),?_⟩
 show gI _ _ _ [.val (dW fs an),.val (jG t),.val (.tuple b),.un,.un,.un];refine lJ [] Ey (λq c=>c) ?_;refine cL (jG t) (λq c=>⟨_,Fc,c⟩) ?_;refine qW (λn R=>∃(p:Tr)(done:List D)(l:Sl),R=[.val (dW fs an),.val (jG t),.val (.tuple b),.own done,.val (jG p),l]/\n=p.dep/\lQ fs an p/\done++tF fs p b=tF fs t b/\done.length+p.dep<=40) t.dep ⟨t,[],_,Fc,Fc,J,Fc,by show 0+t.dep<=40;lia⟩ λn S u=>?_;obtain⟨p,done,l,rfl,rfl,H,d,z⟩:=u;refine⟨!Kv p,λq c=>⟨_,Fc,p,Fc,c⟩,?_⟩
 cases p with
 |say a=>
  show(if false=true then _ else _);rw[a6 Ey];have e:tF fs (.say a) b=[]:=rfl;rw[e,fS]at d;subst d;exact⟨_,Fc,h⟩
 |ask k n v s y m=>
  show(if true=true then _ else _);rw[a7 rfl];obtain⟨c,hs,M,E⟩:=H;have o:(Tr.ask k n v s y m).dep=max y.dep m.dep+1:=rfl;rw[o]at z |-
  refine cL (.str (fP fs k n v s b)) (λq g=>⟨_,Fc,_,Fc,_,Fc,_,Fc,_,Fc,_,Fc,fs,an,k,n,v,s,b,Fc,F,c,hs,f,g⟩) ?_;refine YO (ts:=done) (.tuple [.tuple [.str k,.str n,.str v],.str (fP fs k n v s b)]) Fc Ez (λq c=>⟨_,Fc,_,Fc,_,Fc,aF Fc,c⟩) ?_;refine mI (jG (if fP fs k n v s b="yes" then y else m)) (λq c=>⟨_,Fc,_,Fc,k,n,v,s,y,m,_,Fc,c⟩) ?_
  have r:done++[.tuple [.tuple [.str k,.str n,.str v],.str (fP fs k n v s b)]]++(if fP fs k n v s b="yes" then tF fs y b else tF fs m b)=tF fs t b:=by
   rw[<- d,jZ];rfl
  refine⟨(if fP fs k n v s b="yes" then y else m).dep,?_,if fP fs k n v s b="yes" then y else m,_,_,Fc,Fc,?_,?_,?_⟩
  ·split<;>lia
  ·split
   ·exact M
   ·exact E
  ·rw[<- r];congr 1;split<;>rfl
  ·rw[bH,kZ];split<;>lia
def Qp:dS P w K mg base hX 5 ki oj ["form","tree","case"] (cG K Vj):=by
 refine mB T.D_26.F Ta λf nd i Q h=>?_;obtain⟨fs,an,t,c,rfl,F,g,d,hd,h⟩:=h;refine⟨_,(bC (cR (cY pZ (aA (el (fr:=[none,none]) (N':=["question","side"]) (eW (rE (cF (Qo T) T.D_25 f (aA (aH 0) (aA (aH 1) (aA (aH 2) aL)))))) (λb=>⟨(nZ (lC Fc (dQ (pk 0) (dQ (pk 1) jS)))),iT,(aH 1)⟩)) aL) jF T.b_tuple kG))),?_⟩;show nM (f1 GH) _ _ Q;dsimp only[nM,qA,J7];have j:=FK (fs:=fs) t c;refine N4 (ts:=tF fs t c) (λR h=>⟨_,Fc,_,Fc,_,Fc,fs,an,t,c,Fc,F,g,d,hd,_,Fc,h⟩) YI Ez (yF t c) (λa b q k e=>⟨_,Fc,e⟩) ?_;rw[yE];exact h
def Qr:dS P w K mg base hX 2 kl om ["tree","place"] (cG K Vl):=by
 refine mB T.D_28.F Td λz nd ds Q h=>?_;obtain⟨t,p,i,rfl,J,hd,h⟩:=h;refine⟨_,(aQ (ss 2 nd (aH 0))
 (aQ (sf (eW (aH 1)) (dH (pn 3 nd))
 (aQ (gT (qR (oC (tv (cd (D9 T) T.D_22 z (aA (aH 2) aL))) (rS (dN (lK z) vV (aH 3) (OC Fc T.c_SIDES T.t_SIDES)))))
 (bC Lu)
 fM)
 (bC (ss 2 nd (cd (Mc T) T.D_23 z (aA (aH 2) (aA (aH 3) aL)))))))
 (bC (cR (aH 2))))),?_⟩
 show gI _ _ _ [.val (jG t),.val (.tuple (i.map aV)),.un,.un];have E:=F3 J;refine cL (jG t) (λq l=>⟨_,Fc,l⟩) ?_
 refine hV (ts:=i.map aV) (λR h=>⟨_,Fc,_,Fc,h⟩)
  (λk σ=>∃(x:Tr)(s3:Sl),σ=[.val (jG t),.val (.tuple (i.map aV)),.val (jG x),s3]/\sP x (i.drop k)=some p) ⟨t,_,Fc,J⟩ (λk d H M o=>?_) λH o=>?_
 ·obtain⟨x,s3,rfl,f⟩:=o;rw[aI]at M;obtain⟨g,j,rfl⟩:=bU.mp M;have r:=(aE.mp j).1
  have U:i.drop k=g::i.drop (k+1):=by
   rw[HA r];congr 1;exact(aE.mp j).2
  rw[U]at f;have hs:=E g (aS j)
  cases x with
  |say a=>cases f
  |ask S n v s y m=>
   have c:(if g="yes" then sP y (i.drop (k+1))else if g="no" then sP m (i.drop (k+1))else none)=some p:=f;refine fW (λb=>b=false) (λq l=>⟨_,Fc,.ask S n v s y m,Fc,?_⟩) (λW=>by cases W) λ_=>?_
   ·show(if false=true then _ else _);rw[a6 Ey]
    have u:yP g=true:=by
     rcases hs with rfl | rfl
     ·exact UH
     ·exact La
    refine⟨_,Fc,AZ (ys:=["yes","no"]) (λy hy=>?_) ((nX u (n:=8) (m:=0) (aN _)).cd Ey),l _ ?_⟩
    ·rcases aY.mp hy with rfl | hy
     ·exact UH
     ·rw[dF.mp hy];exact La
    ·have e:A7 (.str g) (.tuple ((["yes","no"]:List Str).map aV))=JO ["yes","no"] (.str g):=xS _ _;show(!A7 (.str g) (.tuple ((["yes","no"]:List Str).map aV)))=false;rw[e]
     have:JO ["yes","no"] (.str g)=true:=by
      refine a8 ?_;rcases hs with rfl | rfl<;>simp
     rw[this];rfl
   try unfold jD
   dsimp only;refine mI (jG (if g="yes" then y else m)) (λq l=>⟨_,Fc,_,Fc,S,n,v,s,y,m,g,Fc,l⟩) ⟨if g="yes" then y else m,_,Fc,?_⟩;rcases hs with rfl | rfl
   ·rw[a7 rfl]at c |-
    exact c
   ·rw[a6 LL,a7 rfl]at c;rw[a6 LL];exact c
 ·obtain⟨x,s3,rfl,f⟩:=o;rw[aC,List.drop_length]at f;have:x=p:=by cases x<;>exact c5 f
  subst this;exact⟨_,Fc,h⟩
def Qq:dS P w K mg base hX 6 kj ol ["form","tree","case"] (cG K Vk):=by
 refine mB T.D_27.F Tc λc nd e Q h=>?_;obtain⟨fs,an,t,a,rfl,F,d,b,hd,h⟩:=h;refine⟨_,(bC (cR (bD aX cA (cd (Qr T) T.D_28 c (aA (aH 1) (aA (cd (Qp T) T.D_26 c (aA (aH 0) (aA (aH 1) (aA (aH 2) aL)))) aL))) aK))),?_⟩;exact⟨_,Fc,_,Fc,_,Fc,_,Fc,fs,an,t,a,Fc,F,d,b,hd,t,.say (pK fs t a),rW fs t a,Fc,vT F b t d,hd,_,Fc,h⟩
def X9(d:Nat)
  (c:dS P w K mg base hX (1+d) G Z ["tree"] (cG K (tP d))):dS P w K mg base hX (1+d+1) G Z ["tree"] (cG K (tP (d+1))):=by
 refine mB T.D_24.F Sz λf nd p Q h=>?_;obtain⟨t,rfl,hk,hd,h⟩:=h;refine⟨_,(aQ (gT (tv (cd (hk:=by lia) (D9 T) T.D_22 f (aA (aH 0) aL)))
 (bC (cR aK))
 fM)
 (bC (cR (cJ cZ gU (cJ cZ gU aK (cd (hk:=by lia) c T.D_24 f (aA (bD aX cA (aH 0) aK) aL))) (cd (hk:=by lia) c T.D_24 f (aA (bD aX cA (aH 0) aK) aL)))))),?_⟩
 show gI _ _ _ [.val (jG t)]
 cases t with
 |say a=>exact fW (λb=>b=true) (λq e=>⟨_,Fc,.say a,Fc,e _ Fc⟩) (λ_=>h) λl=>by cases l
 |ask k n v s y m=>
  have i:(Tr.ask k n v s y m).dep=max y.dep m.dep+1:=rfl;have g:(Tr.ask k n v s y m).kn=y.kn+m.kn+1:=rfl;rw[i]at hd;rw[g]at hk;refine fW (λb=>b=false) (λq e=>⟨_,Fc,.ask k n v s y m,Fc,e _ Fc⟩) (λo=>by cases o) λ_=>?_
  try unfold jD
  dsimp only;refine⟨_,Fc,_,Fc,y,Fc,Ez,Ez,_,Fc,_,Fc,m,Fc,Ez,Ez,?_⟩
  have j:(1:Int)+(y.kn:Int)+(m.kn:Int)=(((Tr.ask k n v s y m).kn:Nat):Int):=by
   rw[g];lia
  show Q (.int (1+(y.kn:Int)+(m.kn:Int)));rw[j];exact h
def Md:dS P w K mg base hX 42 G Z ["tree"] (cG K Vh):=by
 have h:∀a:Nat,dS P w K mg base hX (1+a) G Z ["tree"] (cG K (tP a)):=λa=>by
  induction a with
  |zero=>exact wA pI λc Q h=>UP h
  |succ a b=>exact X9 T a b
 exact h 41
def IZ:dS P w K mg base hX 43 km on ["form","tree","rows","prices"] (cG K Vm):=by
 refine mB T.D_29.F Te λd nd o Q h=>?_;obtain⟨fs,an,t,e,a,b,rfl,F,n,g,j,f,p,a0,a1,b0,b1,h⟩:=h;refine⟨_,(aQ (pD (i:=4) (fr:=[none,some 0,some 1]) (N':=["row","form","tree"]) (eW (aH 2)) (λb=>⟨(dH (pk 0)),(uC (dN B0 LJ (cd (Qq T) T.D_27 d (aA (aH 1) (aA (aH 2) (aA (bD aX cA (aH 0) aK) aL)))) (bD aX cA (aH 0) aK))),(aH 0)⟩) (λm l=>nS (show rC _ (bA (top 38)) ["form","tree","rows","prices","slips"] ["row","form","tree"] [none,some 0,some 1]=true from by decide +kernel) nd Fc (by first | exact v7 Fc | exact r0 Fc) Fc m l Fc))
 (bC (cR (cJ cZ gU (cJ fV lN (bD aX cA (aH 3) aK) (cB gQ (aA (aH 4) aL) bY T.b_len eZ)) (cJ fV lN (bD aX cA (aH 3) aK) (cd (Md T) T.D_24 d (aA (aH 1) aL))))))),?_⟩
 show gI _ _ _ [.val (dW fs an),.val (jG t),.val (.list (e.map dP)),.val (.tuple [.int a,.int b]),.un];refine cL (.list ((e.filter λr=>!decide (pK fs t r.1=r.2)).map dP)) (λq c=>?_) ?_
 ·refine pG (ts:=e.map dP) (λR h=>⟨_,Fc,_,Fc,h⟩) (λx=>match x with | .tuple [.tuple cs,.str w]=>!decide (pK fs t cs=w) | _=>false) id (by rw[aC];lia) (λx q k c=>?_) (λx q k c=>⟨_,Fc,c⟩) ?_
  ·obtain⟨r,d,rfl⟩:=aR.mp k;exact⟨_,Fc,_,Fc,_,Fc,_,Fc,fs,an,t,r.1,Fc,F,n,(f r d).1,g,_,Fc,_,Fc,c⟩
  ·rw[nH,uP];exact c
 refine⟨_,Fc,_,Fc,_,Fc,.inl ⟨Ez,Ez⟩,_,Fc,_,Fc,_,Fc,t,Fc,j,Ez,.inl ⟨Ez,Ez⟩,?_⟩;show Q (.int (a*((((e.filter λr=>!decide (pK fs t r.1=r.2)).map dP).length:Nat):Int)+b*(t.kn:Nat)));rw[aC];exact h
def Se:dS P w K mg base hX 1 ll pj ["price"] (cG K Vz):=by
 refine mB T.D_42.F Ux λd nd c Q h=>?_;obtain⟨a,b,rfl,h⟩:=h;refine⟨_,(bC (cR (eM (aA (bD aX cA (aH 0) aK) (aA (bD aX cA (aH 0) aK) aL))))),?_⟩;show sV _ _ [.val (.tuple [a,b])];exact⟨_,Fc,_,Fc,_,Fc,_,Fc,Fb,h⟩
def X7(o:Nat)
  (g:dS P w K mg base hX (44+o) L gk ["form","tree","rows","prices"] (cG K (tN o))):dS P w K mg base hX (44+o+1) L gk ["form","tree","rows","prices"] (cG K (tN (o+1))):=by
 refine mB T.D_44.F Uz λj nd ds Q h=>?_;obtain⟨fs,an,fa,t,c,a,b,rfl,F,f,E,hd,e,p,a0,a1,b0,b1,h⟩:=h;refine⟨_,(aQ (gT (tv (cd (hk:=by lia) (D9 T) T.D_22 j (aA (aH 1) aL)))
 (bC (cR (eM (aA (cd (hk:=by lia) (IZ T) T.D_29 j (aA (aH 0) (aA (aH 1) (aA (aH 2) (aA (aH 3) aL))))) (aA (aH 1) aL)))))
 fM)
 (aQ (ss 4 nd (cd (hk:=by lia) (Me T) T.D_40 j (aA (aH 0) (aA (aH 2) aL))))
 (aQ (ss 5 nd (cd (hk:=by lia) (IZ T) T.D_29 j (aA (aH 0) (aA (aH 4) (aA (aH 2) (aA (aH 3) aL))))))
 (aQ (ss 6 nd (cd (hk:=by lia) (Mf T) T.D_41 j (aA (aH 0) (aA (aH 1) (aA (aH 2) aL)))))
 (aQ (ss 7 nd (cd (hk:=by lia) g T.D_44 j (aA (aH 0) (aA (bD aX cA (aH 1) aK) (aA (bD aX cA (aH 6) aK) (aA (aH 3) aL))))))
 (aQ (ss 8 nd (cd (hk:=by lia) g T.D_44 j (aA (aH 0) (aA (bD aX cA (aH 1) aK) (aA (bD aX cA (aH 6) aK) (aA (aH 3) aL))))))
 (aQ (ss 9 nd (cJ cZ gU (cJ cZ gU (bD aX cA (aH 3) aK) (bD aX cA (aH 7) aK)) (bD aX cA (aH 8) aK)))
 (aQ (gT (dN D7 lE (aH 5) (aH 9))
 (bC (cR (eM (aA (aH 5) (aA (aH 4) aL)))))
 fM)
 (bC (cR (eM (aA (aH 9) (aA (cJ cZ gU (jW mX xD (aH 1) mY (jT aK)) (eM (aA (bD aX cA (aH 7) aK) (aA (bD aX cA (aH 8) aK) aL)))) aL))))))))))))),?_⟩
 show gI _ _ _ [.val (dW fs an),.val (jG t),.val (.list (c.map dP)),.val (.tuple [.int a,.int b]),.un,.un,.un,.un,.un,.un]
 have H:∀z:Str,a*(eE fs (.say z) c:Nat)+b*(((Tr.say z).kn:Nat):Int)=a*(eE fs (.say z) c:Nat):=λz=>by
  show _+b*0=_;rw[mG,pU]
 cases t with
 |say z=>
  refine fW (λb=>b=true) (λq l=>⟨_,Fc,.say z,Fc,l _ Fc⟩) (λ_=>?_) λM=>by cases M
  refine⟨_,Fc,_,Fc,_,Fc,_,Fc,fs,an,.say z,c,a,b,Fc,F,E,cI _,cI _,e,p,a0,a1,b0,b1,_,Fc,Fb,?_⟩;rw[H];exact h
 |ask k n v s y m=>
  have J:(Tr.ask k n v s y m).dep=max y.dep m.dep+1:=rfl;rw[J]at hd;obtain⟨l,hs,W,U⟩:=E;have l1:=bW (iN fs k n v s) c;have l2:=bW (λr=>!iN fs k n v s r) c
  have u:lQ fs an (.say (fa c)):=by
   obtain⟨i,S,_⟩:=f c e;exact aS S
  refine fW (λb=>b=false) (λq l=>⟨_,Fc,.ask k n v s y m,Fc,l _ Fc⟩) (λR=>by cases R) λ_=>?_
  try unfold jD
  dsimp only;refine cL (jG (.say (fa c))) (λq d=>⟨_,Fc,_,Fc,fs,an,fa,c,Fc,F,f,e,p,d⟩) ?_;refine cL (.int (a*(eE fs (.say (fa c)) c:Nat))) (λq d=>⟨_,Fc,_,Fc,_,Fc,_,Fc,fs,an,.say (fa c),c,a,b,Fc,F,u,cI _,cI _,e,p,a0,a1,b0,b1,by rw[H];exact d⟩) ?_;refine cL (.list [.list ((c.filter (iN fs k n v s)).map dP),.list ((c.filter λr=>!iN fs k n v s r).map dP)]) (λq d=>⟨_,Fc,_,Fc,_,Fc,fs,an,k,n,v,s,y,m,c,Fc,F,l,hs,e,p,d⟩) ?_;refine cL (.tuple [.int (lw fs fa a b y (c.filter (iN fs k n v s))).1,jG (lw fs fa a b y (c.filter (iN fs k n v s))).2]) (λq d=>⟨_,Fc,_,Fc,_,Fc,_,Fc,_,Fc,_,Fc,fs,an,fa,y,_,a,b,Fc,F,f,W,Ez,e.filt _,Ez,a0,a1,b0,b1,d⟩) ?_;refine cL (.tuple [.int (lw fs fa a b m (c.filter λr=>!iN fs k n v s r)).1,jG (lw fs fa a b m (c.filter λr=>!iN fs k n v s r)).2]) (λq d=>⟨_,Fc,_,Fc,_,Fc,_,Fc,_,Fc,_,Fc,fs,an,fa,m,_,a,b,Fc,F,f,U,Ez,e.filt _,Ez,a0,a1,b0,b1,d⟩) ?_;refine cL (.int (b+(lw fs fa a b y (c.filter (iN fs k n v s))).1+(lw fs fa a b m (c.filter λr=>!iN fs k n v s r)).1)) (λq d=>⟨_,Fc,_,Fc,_,Fc,_,Fc,_,Fc,_,Fc,d⟩) ?_;have el:lw fs fa a b (.ask k n v s y m) c=if a*(eE fs (.say (fa c)) c:Nat)<=b+(lw fs fa a b y (c.filter (iN fs k n v s))).1+(lw fs fa a b m (c.filter λr=>!iN fs k n v s r)).1 then(a*(eE fs (.say (fa c)) c:Nat),.say (fa c))else(b+(lw fs fa a b y (c.filter (iN fs k n v s))).1+(lw fs fa a b m (c.filter λr=>!iN fs k n v s r)).1,.ask k n v s (lw fs fa a b y (c.filter (iN fs k n v s))).2 (lw fs fa a b m (c.filter λr=>!iN fs k n v s r)).2):=rfl;rw[el]at h;refine fW (λz=>z=decide (a*(eE fs (.say (fa c)) c:Nat)<=b+(lw fs fa a b y (c.filter (iN fs k n v s))).1+(lw fs fa a b m (c.filter λr=>!iN fs k n v s r)).1)) (λq d=>⟨_,Fc,_,Fc,d _ Fc⟩) (λx=>?_) λx=>?_
  ·rw[a7 (b8 x.symm)]at h;exact⟨_,Fc,_,Fc,Fb,h⟩
  ·rw[a6 (j5 x.symm)]at h
   try unfold jD
   dsimp only;refine⟨_,Fc,_,Fc,_,Fc,_,Fc,_,Fc,_,Fc,Fb,?_⟩;show V0 (.tuple (lF [aV "ask",.tuple [.str k,.str n,.str v],.str s,jG y,jG m] none (some 3))) _ _;rw[Nq];exact⟨Fb,Fb,h⟩
def Sf:dS P w K mg base hX 57 L gk ["form","tree","rows","prices"] (cG K Wb):=by
 have h:∀a:Nat,dS P w K mg base hX (44+a) L gk ["form","tree","rows","prices"] (cG K (tN a)):=λa=>by
  induction a with
  |zero=>exact wA pI λc Q h=>UN h
  |succ a b=>exact X7 T a b
 exact h 13
def Mg:dS P w K mg base hX 58 lm pq ["form","tree","rows","price"] (cG K Wa):=by
 refine mB T.D_43.F Uy λe nd j Q h=>?_;obtain⟨fs,an,fa,t,f,a,b,rfl,F,c,i,hd,d,g,a0,a1,b0,b1,h⟩:=h;refine⟨_,(bC (cR (bD aX cA (cd (Sf T) T.D_44 e (aA (aH 0) (aA (aH 1) (aA (aH 2) (aA (cd (Se T) T.D_42 e (aA (aH 3) aL)) aL))))) aK))),?_⟩;show sV _ _ [.val (dW fs an),.val (jG t),.val (.list (f.map dP)),.val (.tuple [.int b,.int a])];exact⟨_,Fc,_,Fc,_,Fc,_,Fc,_,_,Fc,fs,an,fa,t,f,a,b,Fc,F,c,i,hd,d,g,a0,a1,b0,b1,_,Fc,h⟩
def X6(E:Nat)
  (l:dS P w K mg base hX (44+E) N gl ["form","tree","rows"] (cG K (tM E))):dS P w K mg base hX (44+E+1) N gl ["form","tree","rows"] (cG K (tM (E+1))):=by
 refine mB T.D_47.F Vc λg nd ds Q h=>?_;obtain⟨fs,an,fa,t,a,rfl,F,f,M,hd,o,p,d,u,j,h⟩:=h;refine⟨_,(aQ (gT (tv (cd (hk:=by lia) (D9 T) T.D_22 g (aA (aH 1) aL)))
 (bC (cR (eM (aA (cd (hk:=by lia) (IZ T) T.D_29 g (aA (aH 0) (aA (aH 1) (aA (aH 2) (aA (eM (aA aK (aA aK aL))) aL))))) (aA (kF aL) aL)))))
 fM)
 (aQ (ss 3 nd (cd (hk:=by lia) (Mf T) T.D_41 g (aA (aH 0) (aA (aH 1) (aA (aH 2) aL)))))
 (aQ (ss 4 nd (cd (hk:=by lia) l T.D_47 g (aA (aH 0) (aA (bD aX cA (aH 1) aK) (aA (bD aX cA (aH 3) aK) aL)))))
 (aQ (ss 5 nd (cd (hk:=by lia) l T.D_47 g (aA (aH 0) (aA (bD aX cA (aH 1) aK) (aA (bD aX cA (aH 3) aK) aL)))))
 (aQ (ss 6 nd (cJ cZ gU (bD aX cA (aH 4) aK) (bD aX cA (aH 5) aK)))
 (aQ (ss 7 nd (cJ mO vW (cd (hk:=by lia) (IZ T) T.D_29 g (aA (aH 0) (aA (cd (hk:=by lia) (Me T) T.D_40 g (aA (aH 0) (aA (aH 2) aL))) (aA (aH 2) (aA (eM (aA aK (aA aK aL))) aL))))) (aH 6)))
 (bC (cR (eM (aA (aH 6) (aA (cJ cZ gU (cJ cZ gU (kF (aA (cd (hk:=by lia) (Hm T) T.D_6 g (aA (aH 7) (aA (cd (hk:=by lia) (Md T) T.D_24 g (aA (aH 1) aL)) aL))) aL)) (bD aX cA (aH 4) aK)) (bD aX cA (aH 5) aK)) aL))))))))))),?_⟩
 show gI _ _ _ [.val (dW fs an),.val (jG t),.val (.list (a.map dP)),.un,.un,.un,.un,.un];have one:∀z:Str,(1:Int)*(eE fs (.say z) a:Nat)+0*(((Tr.say z).kn:Nat):Int)=(eE fs (.say z) a:Nat):=λz=>by rw[aNq,Int.zero_mul,pU]
 cases t with
 |say z=>
  refine fW (λb=>b=true) (λq x=>⟨_,Fc,.say z,Fc,x _ Fc⟩) (λ_=>?_) λhF=>by cases hF
  refine⟨_,Fc,_,Fc,_,Fc,Fb,fs,an,.say z,a,1,0,Fc,F,M,cI _,cI _,d,u,Ey,Ey,Ey,Ey,Fb,Fb,?_⟩;rw[one];exact h
 |ask k n v s y m=>
  have W:(Tr.ask k n v s y m).dep=max y.dep m.dep+1:=rfl;have e2:(Tr.ask k n v s y m).kn=y.kn+m.kn+1:=rfl;have R:AA fs fa (.ask k n v s y m) a=((eE fs (.say (fa a)) a:Int)-(eE fs (.ask k n v s y m) a:Nat),(Tr.ask k n v s y m).kn)::(AA fs fa y (a.filter (iN fs k n v s))++AA fs fa m (a.filter λr=>!iN fs k n v s r)):=rfl;have Du:=M;obtain⟨x,hs,hy,hm⟩:=M;have l1:=bW (iN fs k n v s) a;have l2:=bW (λr=>!iN fs k n v s r) a
  have H:lQ fs an (.say (fa a)):=by
   obtain⟨i,hi,_⟩:=f a d;exact aS hi
  rw[R]at j;have E1:=p;have ED:=o;rw[W]at hd o;rw[e2]at p;refine fW (λb=>b=false) (λq x=>⟨_,Fc,.ask k n v s y m,Fc,x _ Fc⟩) (λhT=>by cases hT) λ_=>?_
  try unfold jD
  dsimp only;refine cL (.list [.list ((a.filter (iN fs k n v s)).map dP),.list ((a.filter λr=>!iN fs k n v s r).map dP)]) (λq c=>⟨_,Fc,_,Fc,_,Fc,fs,an,k,n,v,s,y,m,a,Fc,F,x,hs,d,u,c⟩) ?_;refine cL (.tuple [.int (eE fs y (a.filter (iN fs k n v s)):Nat),.list ((AA fs fa y (a.filter (iN fs k n v s))).map λe=>HD (lB e))]) (λq c=>⟨_,Fc,_,Fc,_,Fc,_,Fc,_,Fc,fs,an,fa,y,_,Fc,F,f,hy,Ez,Ez,Ez,d.filt _,Ez,λe J=>j e (aO _ (iX _ J)),c⟩) ?_;refine cL (.tuple [.int (eE fs m (a.filter λr=>!iN fs k n v s r):Nat),.list ((AA fs fa m (a.filter λr=>!iN fs k n v s r)).map λe=>HD (lB e))]) (λq c=>⟨_,Fc,_,Fc,_,Fc,_,Fc,_,Fc,fs,an,fa,m,_,Fc,F,f,hm,Ez,Ez,Ez,d.filt _,Ez,λe J=>j e (aO _ (eF _ J)),c⟩) ?_;refine cL (.int (eE fs (.ask k n v s y m) a:Nat)) (λq c=>⟨_,Fc,_,Fc,_,Fc,_,Fc,by rw[tQ]at c;exact c⟩) ?_;refine cL (.int ((eE fs (.say (fa a)) a:Int)-(eE fs (.ask k n v s y m) a:Nat))) (λq c=>⟨_,Fc,_,Fc,_,Fc,fs,an,fa,a,Fc,F,f,d,u,_,Fc,Fb,fs,an,.say (fa a),a,1,0,Fc,F,H,cI _,cI _,d,u,Ey,Ey,Ey,Ey,_,Fc,by rw[one];exact c⟩) ?_;have S:=j _ (aU ..);dsimp only at S;have kA:eE fs (.say (fa a)) a<=60:=bG (bW _ _) u;have big:(1000000000000:Nat)<2^190:=by decide +kernel
  have ec:[aP ((eE fs (.say (fa a)) a:Int)-(eE fs (.ask k n v s y m) a:Nat)),.int ((Tr.ask k n v s y m).kn:Nat)]=[.int (((eE fs (.say (fa a)) a:Int)-(eE fs (.ask k n v s y m) a:Nat)).toNat:Nat),.int ((Tr.ask k n v s y m).kn:Nat)]:=by rw[pQ S]
  have U:=BK (fs:=fs) (fa:=fa) y (a.filter (iN fs k n v s));have s2:=BK (fs:=fs) (fa:=fa) m (a.filter λr=>!iN fs k n v s r);refine⟨_,Fc,_,Fc,_,Fc,.ask k n v s y m,Fc,Ez,Ez,_,_,ec,Ez,Ez,Ez,Fb,_,Fc,_,Fc,?_⟩;refine⟨by rw[aC,U];show 1+_<=_;lia,_,Fc,_,Fc,by rw[bH,aC,aC,U,s2];show 1+_+_<=_;lia,Fb,?_⟩;rw[R,bE,bB]at h;exact h
def Si:dS P w K mg base hX 57 N gl ["form","tree","rows"] (cG K Xi):=by
 have h:∀a:Nat,dS P w K mg base hX (44+a) N gl ["form","tree","rows"] (cG K (tM a)):=λa=>by
  induction a with
  |zero=>exact wA pI λc Q h=>UM h
  |succ a b=>exact X6 T a b
 exact h 13
def Sh:dS P w K mg base hX 58 lq pu ["form","tree","rows"] (cG K Xh):=by
 refine mB T.D_46.F Vb λW nd ds Q h=>?_;obtain⟨fs,an,fa,t,a,rfl,F,o,ht,hd,hk,hL,E,hl,H,h⟩:=h;refine⟨_,(aQ (ss 3 nd (bD aX cA (cd (Si T) T.D_47 W (aA (aH 0) (aA (aH 1) (aA (aH 2) aL)))) aK))
 (aQ (ss 4 nd (bD aX cA (aH 3) aK))
 (aQ (sf (eW (aH 3)) (dH (pn 5 nd))
 (bC (gT (tv (cd (Jq T) T.D_9 W (aA (aH 5) (aA (aH 4) aL))))
 (bC (ss 4 nd (aH 5)))
 fM)))
 (bC (cR (aH 4)))))),?_⟩
 show gI _ _ _ [.val (dW fs an),.val (jG t),.val (.list (a.map dP)),.un,.un,.un]
 have f:∀p∈(AA fs fa t a).map lB,p.1<=60:=λp u=>by
  obtain⟨e,he,rfl⟩:=aR.mp u;have:=(tH t a e he).1;have h2:(lB e).1<=e.1.toNat:=pO _ _;lia
 have hn:∃x l,(AA fs fa t a).map lB=x::l/\fX fs fa t a=kM x (x::l):=by
  cases t with
  |say z=>cases hL
  |ask k n v s y m=>exact⟨_,_,Fc,Fc⟩
 have U:=BK (fs:=fs) (fa:=fa) t a;refine cL (.list (((AA fs fa t a).map lB).map HD)) (λq c=>⟨_,Fc,_,Fc,_,Fc,fs,an,fa,t,a,Fc,F,o,ht,Ez,Ez,Ez,E,hl,H,_,Fc,by rw[bM]at c;exact c⟩) ?_;obtain⟨x,l,e,en⟩:=hn;rw[en]at h;rw[e]at f |-
 have h0:L2.atI ((x::l).map HD) 0=some (HD x):=L2.fC (j:=0) Fc;refine cL (HD x) (λq c=>⟨_,Fc,_,h0,c⟩) ?_
 refine hV (ts:=(x::l).map HD) (λR h=>⟨_,Fc,_,Fc,h⟩)
  (λi σ=>∃M:Sl,σ=[.val (dW fs an),.val (jG t),.val (.list (a.map dP)),.val (.list ((x::l).map HD)),.val (HD (kM x ((x::l).take i))),M]) ⟨_,Fc⟩ (λi d S J g=>?_) λS g=>?_
 ·obtain⟨M,rfl⟩:=g;have r:i<(x::l).length:=by have:=(aE.mp J).1;rw[aC]at this;exact this
  have ex:d=HD (x::l)[i]:=by rw[aI,aD r]at J;exact(c5 J).symm
  subst ex;have et:(x::l).take (i+1)=(x::l).take i++[(x::l)[i]]:=by rw[cU,aD r];rfl
  have hz:(kM x ((x::l).take i)).1<=60:=by
   rcases vY ((x::l).take i) x with z | z
   ·rw[z];exact f x (aU ..)
   ·exact f _ (dY z)
  have u:=f _ (fK r);rw[et,zQ]
  generalize (x::l)[i]=p at u
  generalize kM x ((x::l).take i)=z at hz
  refine mZ (λb=>b=decide (p.1*z.2<z.1*p.2)) (λq c=>⟨_,Fc,_,Fc,p,z,Fc,Ez,Ez,c _ Fc⟩) (λhT=>?_) λhF=>?_
  ·refine mI (HD p) (λq c=>⟨_,Fc,c⟩) ⟨.val (HD p),?_⟩;unfold oM;rw[a7 (b8 hT.symm)]
   rfl
  ·try unfold jD
   dsimp only;refine⟨.val (HD p),?_⟩;unfold oM;rw[a6 (j5 hF.symm)]
   rfl
 ·obtain⟨M,rfl⟩:=g;rw[aC,dA];exact⟨_,Fc,h⟩
def Sg:dS P w K mg base hX 59 ln pr ["form","tree","rows"] (kU K Xg):=by
 refine Fh T.D_45.F Va λl nd ds Q h=>?_;obtain⟨fs,an,fa,U,a,rfl,F,d,E,hd,hk,f,k,h⟩:=h;refine⟨_,(aQ (ss 3 nd (eM (aA aK (aA aK aL))))
 (aQ (ss 4 nd (cd (Mg T) T.D_43 l (aA (aH 0) (aA (aH 1) (aA (aH 2) (aA (aH 3) aL))))))
 (aQ (so 5 nd (aA (eM (aA (aH 3) (aA (aH 4) aL))) aL))
 (aQ (tI (yG (tv (cd (D9 T) T.D_22 l (aA (aH 4) aL))))
 (aQ (ss 3 nd (cd (Sh T) T.D_46 l (aA (aH 0) (aA (aH 4) (aA (aH 2) aL)))))
 (aQ (ss 4 nd (cd (Mg T) T.D_43 l (aA (aH 0) (aA (aH 4) (aA (aH 2) (aA (aH 3) aL))))))
 (bC (mN (i:=5) (pv 5) (eM (aA (aH 3) (aA (aH 4) aL))) (pb:=λh=>jJ (kJ bT dE dD iF (pv 5) h)))))) (λS R=>tV v8 S R))
 (bC (uS (pv 5))))))),?_⟩
 show gI _ _ _ [.val (dW fs an),.val (jG U),.val (.list (a.map dP)),.un,.un,.un];have o:=(EE d 1 0 U a E f).1;have W:=yQ (fs:=fs) (fa:=fa) 1 0 U a;have vx:=(JG (fs:=fs) (fa:=fa) 1 0 U a).1;have z:OkS fs fa U a ((0,1),(lw fs fa 1 0 U a).2):=⟨show Nat.gcd 0 1=1 by decide,show 0<1 by decide,show 1<=12 by decide,show 0<=60 by decide,Fc⟩;refine cL (HD (0,1)) (λq c=>⟨Fb,c⟩) ?_;refine cL (jG (lw fs fa 1 0 U a).2) (λq c=>⟨_,Fc,_,Fc,_,Fc,_,Fc,fs,an,fa,U,a,1,0,Fc,F,d,E,Ez,f,k,Ey,Ey,Ey,Ey,c⟩) ?_;refine lJ [Fg ((0,1),(lw fs fa 1 0 U a).2)] Fb (λq c=>⟨_,Fc,_,Fc,Fb,c⟩) ?_;have J:rT fs fa U a=qF fs fa a (lw fs fa 1 0 U a).2.kn (0,1) (lw fs fa 1 0 U a).2:=rfl;rw[J]at h;refine qW (λn σ=>∃(pre:List Fk)(x:Nat×Nat)(p:Tr),σ=[.val (dW fs an),.val (jG U),.val (.list (a.map dP)),.val (HD x),.val (jG p),.own ((pre++[(x,p)]).map Fg)]/\pre++qF fs fa a n x p=qF fs fa a (lw fs fa 1 0 U a).2.kn (0,1) (lw fs fa 1 0 U a).2/\OkS fs fa U a (x,p)/\lQ fs an p/\p.dep<=12/\p.kn<=n/\p.kn<=12/\pre.length+n<=12) (lw fs fa 1 0 U a).2.kn ⟨[],(0,1),(lw fs fa 1 0 U a).2,Fc,Fc,z,o,Ez,aN _,Ez,by show 0+_<=12;lia⟩ λn bi M=>?_;obtain⟨pre,x,p,rfl,g,ok,r,t,xf,u,ix⟩:=M;refine⟨!VG p,λq c=>⟨_,Fc,p,Fc,by cases p<;>exact c⟩,?_⟩
 cases b:VG p with
 |true=>
  show(if false=true then _ else _);rw[a6 Ey]
  have e:qF fs fa a n x p=[(x,p)]:=by
   cases n with
   |zero=>rfl
   |succ n=>show(x,p)::(if VG p=true then[]else _)=_;rw[a7 b]
  rw[e]at g;rw[<- g]at h;exact⟨_,Fc,h⟩
 |false=>
  show(if true=true then _ else _);rw[a7 rfl]
  obtain⟨n,rfl⟩:∃m,n=m+1:=⟨n-1,by
   cases n with
   |zero=>rw[Yj Ez]at b;cases b
   |succ n=>rfl⟩
  have e:qF fs fa a (n+1) x p=(x,p)::qF fs fa a n (fX fs fa p a) (lw fs fa ((fX fs fa p a).2:Nat) ((fX fs fa p a).1:Nat) p a).2:=by
   show(x,p)::(if VG p=true then[]else _)=_;rw[a6 (by rw[b];decide)]
  obtain⟨j,lk⟩:=ZK hk k ok b
  have v:St fs fa (x.2:Nat) (x.1:Nat) p a:=by
   have H:p=(lw fs fa (x.2:Nat) (x.1:Nat) U a).2:=ok.tr;rw[H];exact IC _ _ U a
  have Eg:0<x.2:=ok.q0
  have y:∀e∈AA fs fa p a,0<=e.1:=λe he=>by
   have h1:=(vR _ _ p a).mp v e he;have h3:(0:Int)<=(x.1:Nat)*(e.2:Nat):=qO Ez Ez;by_cases hn:0<=e.1
   ·exact hn
   ·have:=jA (show e.1<=0 by lia) (show(0:Int)<=(x.2:Nat) by lia);rw[mG]at this;lia
  have q1:(fX fs fa p a).2<=12:=j.q1;have p1:(fX fs fa p a).1<=60:=j.p1;have EZ:(lw fs fa ((fX fs fa p a).2:Nat) ((fX fs fa p a).1:Nat) p a).2.kn<p.kn:=lk.kn;have s:=(EE d ((fX fs fa p a).2:Nat) ((fX fs fa p a).1:Nat) p a r f);refine cL (HD (fX fs fa p a)) (λq c=>⟨_,Fc,_,Fc,_,Fc,fs,an,fa,p,a,Fc,F,d,r,t,u,b,f,k,y,c⟩) ?_;refine cL (jG (lw fs fa ((fX fs fa p a).2:Nat) ((fX fs fa p a).1:Nat) p a).2) (λq c=>⟨_,Fc,_,Fc,_,Fc,_,Fc,fs,an,fa,p,a,((fX fs fa p a).2:Nat),((fX fs fa p a).1:Nat),Fc,F,d,r,Ez,f,k,Ez,Ez,Ez,Ez,c⟩) ?_;refine nY (ts:=(pre++[(x,p)]).map Fg) (Fg (fX fs fa p a,(lw fs fa ((fX fs fa p a).2:Nat) ((fX fs fa p a).1:Nat) p a).2)) Fc (by rw[aC,bH];show _+1<=_;lia) (λq c=>⟨_,Fc,_,Fc,Fb,c⟩) ?_;refine⟨n,fA _,pre++[(x,p)],fX fs fa p a,(lw fs fa ((fX fs fa p a).2:Nat) ((fX fs fa p a).1:Nat) p a).2,?_,?_,j,s.1,Ez,Ez,Ez,by rw[bH];show _+1+n<=12;lia⟩
  ·rw[bB (l₁:=pre++[(x,p)])];rfl
  ·rw[jZ,<- g,e];rfl
def Jn:dS P w K mg base hX 2 uy wo ["self","numbers"] (cG K (Ov w A)):=by
 refine mB T.D_2.F Oj λhr nd ds Q h=>?_;obtain⟨fs,an,fa,d,a,b,ns,rfl,S,p,h⟩:=h;refine⟨_,(aQ (so 2 nd aL)
 (aQ (sf (eW (yX (K:=K) Fc (aH 0))) (rD (lC Fc (dQ (pn 3 nd) (dQ (pn 4 nd) (dQ (pn 5 nd) jS)))))
 (aQ (ss 6 nd (cY pZ (aA (el (fr:=[none,some 5]) (N':=["number","sides"]) (eW (aH 1)) (λb=>⟨(dH (pk 0)),(uC (dN jI mP (bD aX cA (aH 1) (aH 0)) eN)),(aH 0)⟩)) aL) jF T.b_tuple kG))
 (aQ (ss 7 nd (cY pZ (aA (el (fr:=[none,some 5]) (N':=["number","sides"]) (eW (aH 1)) (λb=>⟨(dH (pk 0)),(uC (dN jI mP (bD aX cA (aH 1) (aH 0)) eN)),(aH 0)⟩)) aL) jF T.b_tuple kG))
 (bC (gT (tv (cd (Mb T) T.D_20 hr (aA (eM (aA (aH 6) (aA (aH 7) aL))) (aA aK aL))))
 (bC (mN (i:=2) (pv 2) (eM (aA (aH 3) (aA (aH 4) (aA (aH 6) (aA (aH 7) aL))))) (pb:=λh=>jJ (kJ bT dE dD iF (pv 2) h))))
 fM)))))
 (lX 2 (bC (cR (aH 2)))))),?_⟩
 show gI _ _ _ [.val (oK A fs an d a b),.val (eS ns),.un,.un,.un,.un,.un,.un];have m:∀i∈ns,i<d.length:=λi y=>p.lt y;have hl:=S.l;have yl:=p.len;have n5:=S.F.n5;have sj:=iY S.F fs λg hg=>hg;have zx:=oZ fs;refine lJ [] Ey (λq j=>j) ?_
 refine hV (ts:=(jL fs).map (Fz fs d)) (λR h=>⟨_,Fc,A,fR,_,_,Fc,T.C_RowSets,T.n_RowSets_choices,(EG _ _ _ _ _).2.2.2.2,_,Fc,h⟩)
  (λk σ=>∃s3 E H J M:Sl,σ=[.val (oK A fs an d a b),.val (eS ns),.own ((((jL fs).take k).filter (gJ fs (bL d ns))).map (PV fs d ns)),s3,E,H,J,M]) ⟨_,_,_,_,_,Fc⟩ (λk x U f u=>?_) λU u=>?_
 ·obtain⟨s3,E,H,J,M,rfl⟩:=u;rw[aI]at f;obtain⟨c,o,rfl⟩:=bU.mp f;have hc:c∈jL fs:=aS o;obtain⟨w1,w2⟩:=SJ S.F hc S.R m
  have s:∀x∈ns.map (λ(i:Nat)=>aP (i:Int)),∃(i:Nat)(r:Rw),x=.int (i:Int)/\d[i]?=some r:=λx f=>by
   obtain⟨i,y,rfl⟩:=aR.mp f;exact⟨i,_,Fc,aD (m i y)⟩
  refine⟨_,_,_,Fc,?_⟩;refine cL (eS (yN fs d c ns)) (λq j=>?_) ?_
  ·dsimp only[nM,qA]
   refine pG (ts:=ns.map λ(i:Nat)=>aP (i:Int)) (λR h=>⟨_,Fc,_,Fc,h⟩) (nT fs c.1.1 c.1.2.1 c.1.2.2 c.2 d "yes") id (by rw[aC];lia) (λx z f e=>by
    obtain⟨i,r,rfl,n⟩:=s x f;rw[yO n]at e;exact⟨_,Fc,_,Fc,_,L2.fC (v:=aV (fP fs c.1.1 c.1.2.1 c.1.2.2 c.2 r.1)) (by rw[aI,n];rfl),e⟩) (λx z f e=>⟨_,Fc,e⟩) ?_
   rw[w1,nH];exact j
  refine cL (eS (nN fs d c ns)) (λq j=>?_) ?_
  ·dsimp only[nM,qA]
   refine pG (ts:=ns.map λ(i:Nat)=>aP (i:Int)) (λR h=>⟨_,Fc,_,Fc,h⟩) (nT fs c.1.1 c.1.2.1 c.1.2.2 c.2 d "no") id (by rw[aC];lia) (λx z f e=>by
    obtain⟨i,r,rfl,n⟩:=s x f;rw[yO n]at e;exact⟨_,Fc,_,Fc,_,L2.fC (v:=aV (fP fs c.1.1 c.1.2.1 c.1.2.2 c.2 r.1)) (by rw[aI,n];rfl),e⟩) (λx z f e=>⟨_,Fc,e⟩) ?_
   rw[w2,nH];exact j
  have hp:=BY (fs:=fs) (c:=c) m
  have qz:((((jL fs).take k).filter (gJ fs (bL d ns))).map (PV fs d ns)).length<=100:=by
   have h1:=bW (gJ fs (bL d ns)) ((jL fs).take k);have h2:((jL fs).take k).length<=(jL fs).length:=by rw[aZ];lia
   rw[aC];lia
  have W:(jL fs).take (k+1)=(jL fs).take k++[c]:=by rw[cU,o];rfl
  refine mZ (λt=>t=gJ fs (bL d ns) c) (λq j=>⟨_,Fc,_,Fc,Fb,_,_,_,_,1,Fc,.inr ⟨Fc,Fc⟩,j _ (by rw[UQ,UQ];exact hp.symm)⟩) (λht=>?_) λhf=>?_
  ·refine nY (PV fs d ns c) Fc Ez (λq j=>⟨_,Fc,_,Fc,_,Fc,_,Fc,Fb,j⟩) ⟨.val (qD c.1),.val (.str c.2),.val (YL fs d c),.val (eS (yN fs d c ns)),.val (eS (nN fs d c ns)),?_⟩;rw[W,fD,bB,cH,a7 ht.symm];rfl
  ·refine⟨.val (qD c.1),.val (.str c.2),.val (YL fs d c),.val (eS (yN fs d c ns)),.val (eS (nN fs d c ns)),?_⟩;rw[W,fD,bB,cH,a6 (by rw[<- hf];decide)];show _=[_,_,Sl.own (_++[]),_,_,_,_,_];rw[fS];rfl
 ·obtain⟨s3,E,H,J,M,rfl⟩:=u;rw[aC,dA];exact⟨_,Fc,_,Fc,h⟩
def Qm:dS P w K mg base hX 4 kc oe ["form","choice","rows"] (cG K Ve):=by
 refine mB T.D_21.F Sw λj nd l Q h=>?_;obtain⟨fs,an,c,f,rfl,F,g,e,m,h⟩:=h;refine⟨_,(bC (cR (el (fr:=[none,some 0,some 1]) (N':=["row","form","choice"]) (eW (aH 2)) (λb=>⟨(dH (pk 0)),iT,(cd (UB T) T.D_14 j (aA (aH 1) (aA (bD aX cA (aH 2) aK) (aA (bD aX cA (aH 2) aK) (aA (bD aX cA (aH 0) aK) aL)))))⟩)))),?_⟩;show sV _ _ [.val (dW fs an),.val (XE c),.val (.list (f.map dP))];obtain⟨i,hs⟩:=yZ g;refine jK (ts:=f.map dP) (λR h=>⟨_,Fc,_,Fc,h⟩) (λx=>match x with | .tuple [.tuple cs,_]=>.str (fP fs c.1.1 c.1.2.1 c.1.2.2 c.2 cs) | _=>.none) (by rw[aC];lia) (λx n k a=>?_) ?_
 ·obtain⟨r,d,rfl⟩:=aR.mp k;exact⟨_,Fc,_,Fc,_,Fc,_,Fc,_,Fc,_,Fc,_,Fc,fs,an,c.1.1,c.1.2.1,c.1.2.2,c.2,r.1,Fc,F,yI i,hs,(e r d).1,a⟩
 ·rw[bM];exact h
def Od:dS P w K mg base hX 5 uw wm ["self","form","rows","prices"] (A3 A fR K Ot):=by
 refine Nd T.D_0.F Oh λi nd r t Q h=>?_;obtain⟨fs,an,f,a,b,rfl,F,e,p,h⟩:=h;refine⟨_,(xE T.C_RowSets T.n_RowSets_form (pv 0) (aH 1)
 (xE T.C_RowSets T.n_RowSets_kept (pv 0) (cY MK (aA (aH 2) aL) sG T.b_list uY)
 (xE T.C_RowSets T.n_RowSets_slip (pv 0) (bD aX cA (aH 3) aK)
 (xE T.C_RowSets T.n_RowSets_knot (pv 0) (bD aX cA (aH 3) aK)
 (xE T.C_RowSets T.n_RowSets_choices (pv 0) (el (fr:=[none,some 1,some 2]) (N':=["choice","form","rows"]) (eW (cd (L1 T) T.D_13 i (aA (aH 1) aL))) (λb=>⟨(dH (pk 0)),iT,(cJ cZ gU (aH 0) (eM (aA (cd (Qm T) T.D_21 i (aA (aH 1) (aA (aH 0) (aA (aH 2) aL)))) aL)))⟩))
 Yv))))),?_⟩
 show Jj _ _ _ _ _ [.val r,.val (dW fs an),.val (.list (f.map dP)),.val (.tuple [.int a,.int b])];have n5:=F.n5;have m:=iY F fs λg o=>o;have l:=oZ fs;refine⟨_,Fc,Fb,(λz=>nomatch z),_,Fc,Fb,(show("kept":Str)∉(["form"]:List Str)from by decide +kernel),_,Fc,_,Fc,Fb,(show("slip":Str)∉(["form","kept"]:List Str)from by decide +kernel),_,Fc,_,Fc,Fb,(show("knot":Str)∉(["form","kept","slip"]:List Str)from by decide +kernel),?_⟩;refine jK (ts:=(jL fs).map XE) (λR h=>⟨_,Fc,fs,an,Fc,F,_,Fc,h⟩) (λx=>match x with | .tuple [.tuple [.str k,.str n,.str v],.str s]=>Fz fs f ((k,n,v),s) | _=>.none) (by rw[aC];lia) (λx u q d=>?_) ?_
 ·obtain⟨c,j,rfl⟩:=aR.mp q;exact⟨_,Fc,_,Fc,_,Fc,_,Fc,fs,an,c,f,Fc,F,j,e,p,Fb,Fb,d⟩
 ·rw[bM];exact⟨Fb,(show("choices":Str)∉(["form","kept","slip","knot"]:List Str)from by decide +kernel),Fc,h⟩
def Jm:dS P w K mg base hX 3 ux wn ["self","numbers"] (cG K (Ou w A)):=by
 refine mB T.D_1.F Oi λu nd M Q h=>?_;obtain⟨fs,an,fa,c,a,b,ns,rfl,S,g,h⟩:=h;refine⟨_,(aQ (pD (i:=2) (fr:=[none,some 0]) (N':=["number","self"]) (eW (aH 1)) (λb=>⟨(dH (pk 0)),iT,(bD aX cA (yX (K:=K) Fc (aH 1)) (aH 0))⟩) (λf y=>nS (show rC _ (bA (vX (top 26) 1)) ["self","numbers","rows","slips"] ["number","self"] [none,some 0]=true from by decide +kernel) nd Fc (by first | exact v7 Fc | exact r0 Fc) Fc f y Fc))
 (aQ (ss 3 nd (cJ mO vW (cB gQ (aA (aH 2) aL) bY T.b_len eZ) (cB WL (aA (rE (cF (Hk T) T.D_3 u (aA (yX (K:=K) Fc (aH 0)) (aA (aH 2) aL)))) aL) (qJ Fc) T.b_max GR)))
 (bC (cR (eM (aA (cJ fV lN (yX (K:=K) Fc (aH 0)) (aH 3)) (aA (eM (aA eN (aA (cd (Hl T) T.D_4 u (aA (yX (K:=K) Fc (aH 0)) (aA (aH 2) aL))) aL))) aL))))))),?_⟩
 show gI _ _ _ [.val (oK A fs an c a b),.val (eS ns),.un,.un];have d:∀i∈ns,i<c.length:=λi f=>g.lt f;have o:=NK S.R ns;have U:=S.l;have H:=g.len;have k:(bL c ns).length<=60:=by rw[wX d];lia
 refine cL (.list ((bL c ns).map dP)) (λq n=>?_) ?_
 ·refine jK (ts:=ns.map λ(i:Nat)=>aP (i:Int)) (λR h=>⟨_,Fc,_,Fc,h⟩) (qX c) (by rw[aC];lia) (λx q' p j=>?_) (by rw[FR d];exact n);obtain⟨i,f,rfl⟩:=aR.mp p;have s:c[i]?=some (c[i]'(d i f)):=aD (d i f);refine⟨_,Fc,A,fR,_,_,Fc,T.C_RowSets,T.n_RowSets_kept,(EG _ _ _ _ _).2.1,_,Fc,_,L2.fC (v:=dP (c[i]'(d i f))) (by rw[aI,s];rfl),?_⟩
  have e:qX c (.int (i:Int))=dP (c[i]'(d i f)):=by
   show(match L2.atI c (i:Int)with | some r=>dP r | none=>vD)=_;rw[L2.fC s]
  rw[e]at j;exact j
 have t:=S.fa _ o;have W:=F4 (bL c ns) (fa (bL c ns));refine cL (.int (eE fs (.say (fa (bL c ns))) (bL c ns):Nat)) (λq n=>?_) ?_
 ·refine⟨_,Fc,_,Fc,A,fR,_,_,Fc,T.C_RowSets,T.n_RowSets_form,(EG _ _ _ _ _).1,_,Fc,fs,an,bL c ns,Fc,S.F,o,k,kB an (bL c ns),Fc,?_,λm E p=>?_⟩
  ·intro z;have a2:=S.F.a2;have:=e7 gC z;unfold kB at this;rw[aC,DE]at this;lia
  ·rw[ZN t E p];show q (.int (((((bL c ns).map dP).length:Nat):Int)-_));rw[wV]at n;have e:((((bL c ns).map dP).length:Nat):Int)-(rH (bL c ns) (fa (bL c ns)):Int)=((IS (bL c ns) (fa (bL c ns)):Nat):Int):=by rw[aC];lia
   rw[e];exact n
 have hs:=wV (fs:=fs) (bL c ns) (fa (bL c ns));have a0:=S.a0;have a1:=S.a1;refine⟨_,Fc,A,fR,_,_,Fc,T.C_RowSets,T.n_RowSets_slip,(EG _ _ _ _ _).2.2.1,_,Fc,.inl ⟨Ez,Ez⟩,_,Fc,A,fR,_,_,Fc,T.C_RowSets,T.n_RowSets_form,(EG _ _ _ _ _).1,_,Fc,fs,an,bL c ns,Fc,S.F,o,k,λz J=>?_⟩;rw[J.uniq t];exact⟨Fb,Fb,h⟩
def T9:dS P w K mg base hX 4 la ox ["sets","known","numbers","deep"] (cG K (Vs w A)):=by
 refine mB T.D_35.F Tl λg nd k Q h=>?_;obtain⟨fs,an,fa,i,a,b,c,ns,d,rfl,S,f,hok,e,h⟩:=h;refine⟨_,(bC (cR (CH (dN oG lE (aH 3) aK) (CI (w:=w) Fc g.u9 (aH 1) (eM (aA (aH 2) (aA (aH 3) aL)))) (xL (aH 0) (aA (aH 2) aL) (λh j=>AX h T.C_RowSets T.M_1 (Jm (w:=w) T) (g.mono Ey) T.D_1.d .nil zO j))))),?_⟩;show sV _ _ [.val (oK A fs an i a b),.val (mC w c),.val (eS ns),.val (.int (d:Nat))];refine⟨_,Fc,?_⟩;show(if decide ((0:Int)<((d:Nat):Int))=true then _ else _);by_cases hd:d=0
 ·subst hd;rw[a6 Ey];exact⟨_,Fc,fR,_,Fc,NA,_,Fc,fs,an,fa,i,a,b,ns,Fc,S,f,h⟩
 ·rw[a7 (a8 Ez)];exact⟨_,Fc,_,Fc,_,Fc,Fb,c,Fc,kW ns d,hok,_,e.resolve_left hd,h⟩
def Sa:dS P w K mg base hX 5 kx ow ["sets","known","numbers","deep"] (cG K (Vr w A)):=by
 refine mB T.D_34.F Tk λE nd ds Q h=>?_;obtain⟨fs,an,fa,rs,a,b,f,ns,d,rfl,S,l,hok,M,h⟩:=h;refine⟨_,(aQ (ss 4 nd (xL (aH 0) (aA (aH 2) aL) (λh J=>AX h T.C_RowSets T.M_1 (Jm (w:=w) T) (E.mono Ey) T.D_1.d .nil zO J)))
 (aQ (sf (eW (xL (aH 0) (aA (aH 2) aL) (λh J=>AX h T.C_RowSets T.M_2 (Jn (w:=w) T) (E.mono Ey) T.D_2.d .nil zO J))) (N9 (lC Fc (dQ (pn 5 nd) (dQ (pn 6 nd) (dQ (pn 7 nd) (dQ (pn 8 nd) jS))))))
 (aQ (ss 9 nd (cd (T9 (w:=w) T) T.D_35 E (aA (aH 0) (aA (aH 1) (aA (aH 7) (aA (cJ mO vW (aH 3) aK) aL))))))
 (aQ (ss 10 nd (cd (T9 (w:=w) T) T.D_35 E (aA (aH 0) (aA (aH 1) (aA (aH 8) (aA (cJ mO vW (aH 3) aK) aL))))))
 (aQ (ss 11 nd (cJ cZ gU (cJ cZ gU (yX (K:=K) Fc (aH 0)) (bD aX cA (aH 9) aK)) (bD aX cA (aH 10) aK)))
 (bC (gT (dN zP lE (aH 11) (bD aX cA (aH 4) aK))
 (bC (ss 4 nd (eM (aA (aH 11) (aA (eM (aA eN (aA (aH 5) (aA (aH 6) (aA (bD aX cA (aH 9) aK) (aA (bD aX cA (aH 10) aK) aL)))))) aL)))))
 fM))))))
 (bC (cR (aH 4))))),?_⟩
 show gI _ _ _ [.val (oK A fs an rs a b),.val (mC w f),.val (eS ns),.val (.int ((d+1:Nat):Int)),.un,.un,.un,.un,.un,.un,.un,.un];have U:∀i∈ns,i<rs.length:=λi hi=>l.lt hi;refine cL (mW (pF fs fa a (bL rs ns))) (λq m=>⟨_,Fc,fR,_,Fc,NA,_,Fc,fs,an,fa,rs,a,b,ns,Fc,S,l,m⟩) ?_
 refine hV (ts:=((jL fs).filter (gJ fs (bL rs ns))).map (PV fs rs ns)) (λR h=>⟨_,Fc,fR,_,Fc,M8,_,Fc,fs,an,fa,rs,a,b,ns,Fc,S,l,_,Fc,h⟩)
  (λk σ=>∃n o p r s g j:Sl,σ=[.val (oK A fs an rs a b),.val (mC w f),.val (eS ns),.val (.int ((d+1:Nat):Int)),.val (mW ((((jL fs).filter (gJ fs (bL rs ns))).take k).foldl (λe c=>oQ b c (fG fs fa a b d (yR fs c (bL rs ns))) (fG fs fa a b d (nR fs c (bL rs ns))) e) (pF fs fa a (bL rs ns)))),n,o,p,r,s,g,j]) ⟨_,_,_,_,_,_,_,Fc⟩ (λk x bi hx H=>?_) λbi H=>?_
 ·obtain⟨n,o,p,r,s,g,j,rfl⟩:=H;rw[aI]at hx;obtain⟨c,u,rfl⟩:=bU.mp hx;obtain⟨hc,hp⟩:=cM.mp (aS u);obtain⟨i1,i2⟩:=M c hc hp;obtain⟨e1,e2⟩:=FQ (fs:=fs) (rs:=rs) (c:=c) U;have ed:(((d+1:Nat):Int)-1)=((d:Nat):Int):=by lia
  have z:∀x:D,[oK A fs an rs a b,mC w f,x,aP (((d+1:Nat):Int)-1)]=[oK A fs an rs a b,mC w f,x,.int (d:Nat)]:=λx=>by rw[ed]
  have et:((jL fs).filter (gJ fs (bL rs ns))).take (k+1)=((jL fs).filter (gJ fs (bL rs ns))).take k++[c]:=by rw[cU,u];rfl
  have fin:∀v:Int×Tr,v=oQ b c (fG fs fa a b d (yR fs c (bL rs ns))) (fG fs fa a b d (nR fs c (bL rs ns))) ((((jL fs).filter (gJ fs (bL rs ns))).take k).foldl (λe c=>oQ b c (fG fs fa a b d (yR fs c (bL rs ns))) (fG fs fa a b d (nR fs c (bL rs ns))) e) (pF fs fa a (bL rs ns)))->∀n o p r s g j:Sl,∃t5 t6 t7 t8 t9 W Dl:Sl,[.val (oK A fs an rs a b),.val (mC w f),.val (eS ns),.val (.int ((d+1:Nat):Int)),.val (mW v),n,o,p,r,s,g,j]=[.val (oK A fs an rs a b),.val (mC w f),.val (eS ns),.val (.int ((d+1:Nat):Int)),.val (mW ((((jL fs).filter (gJ fs (bL rs ns))).take (k+1)).foldl (λe c=>oQ b c (fG fs fa a b d (yR fs c (bL rs ns))) (fG fs fa a b d (nR fs c (bL rs ns))) e) (pF fs fa a (bL rs ns)))),t5,t6,t7,t8,t9,W,Dl]:=λv hv n o p r s g j=>by
   refine⟨n,o,p,r,s,g,j,?_⟩;rw[et,W6,hv];rfl
  rw[<- e1,<- e2]at fin
  generalize hF:((((jL fs).filter (gJ fs (bL rs ns))).take k).foldl (λe c=>oQ b c (fG fs fa a b d (yR fs c (bL rs ns))) (fG fs fa a b d (nR fs c (bL rs ns))) e) (pF fs fa a (bL rs ns)))=e at fin |-
  refine⟨_,_,_,_,Fc,?_⟩;refine cL (mW (fG fs fa a b d (bL rs (yN fs rs c ns)))) (λq m=>⟨_,Fc,_,Fc,_,Fc,_,Fc,fs,an,fa,rs,a,b,f,yN fs rs c ns,d,z _,S,l.filt _,hok,i1,m⟩) ?_;refine cL (mW (fG fs fa a b d (bL rs (nN fs rs c ns)))) (λq m=>⟨_,Fc,_,Fc,_,Fc,_,Fc,fs,an,fa,rs,a,b,f,nN fs rs c ns,d,z _,S,l.filt _,hok,i2,m⟩) ?_
  generalize fG fs fa a b d (bL rs (yN fs rs c ns))=x at fin |-
  generalize fG fs fa a b d (bL rs (nN fs rs c ns))=y at fin |-
  refine cL (.int (b+x.1+y.1)) (λq m=>⟨_,Fc,A,fR,_,_,Fc,T.C_RowSets,T.n_RowSets_knot,(EG _ _ _ _ _).2.2.2.1,_,Fc,_,Fc,_,Fc,_,Fc,m⟩) ?_;refine mZ (λt=>t=decide (b+x.1+y.1<e.1)) (λq m=>⟨_,Fc,_,Fc,_,Fc,m _ Fc⟩) (λht=>?_) λhf=>?_
  ·refine mI (mW (b+x.1+y.1,.ask c.1.1 c.1.2.1 c.1.2.2 c.2 x.2 y.2)) (λq m=>⟨_,Fc,_,Fc,_,Fc,_,Fc,_,Fc,_,Fc,_,Fc,Fb,Fb,m⟩) ?_;refine fin (b+x.1+y.1,.ask c.1.1 c.1.2.1 c.1.2.2 c.2 x.2 y.2) ?_ _ _ _ _ _ _ _;unfold oQ;rw[a7 (b8 ht.symm)]
  ·refine fin e ?_ _ _ _ _ _ _ _;unfold oQ;rw[a6 (j5 hf.symm)]
 ·obtain⟨n,o,p,r,s,g,j,rfl⟩:=H;rw[aC,dA];exact⟨_,Fc,h⟩
def Qv:dS P w K mg base hX 3 ku ou ["sets","level"] (cG K (Vq w A)):=by
 refine mB T.D_33.F Tj λhr nd ds Q h=>?_;obtain⟨fs,an,fa,f,a,b,lv,rfl,S,eR,yh,h⟩:=h;refine⟨_,(aQ (sn 2 nd)
 (aQ (sf (eW (aH 1)) (dH (pn 3 nd))
 (bC (sf (eW (xL (aH 0) (aA (aH 3) aL) (λh ha=>AX h T.C_RowSets T.M_2 (Jn (w:=w) T) (hr.mono Ey) T.D_2.d .nil zO ha))) (N9 (lC Fc (dQ (pn 4 nd) (dQ (pn 5 nd) (dQ (pn 6 nd) (dQ (pn 7 nd) jS))))))
 (aQ (wU (i:=2) hr.u9 (pv 2) (aH 6) nL)
 (bC (wU (i:=2) hr.u9 (pv 2) (aH 7) nL))))))
 (qT 2 (bC (cR (CG (aH 2) (pc:=λh=>gH (oO Fc) Fc T.b_list uY h))))))),?_⟩
 show gI _ _ _ [.val (oK A fs an f a b),.val (.list (lv.map eS)),.un,.un,.un,.un,.un,.un];have jm:∀o:List (List Nat),∀kv∈nJ eS o,jX kv.1:=λo=>K1 (λx=>(uW x).1) o;have n5:=S.F.n5;have sj:=iY S.F fs λg hg=>hg;have zx:=oZ fs;have hN:(jL fs).length<=100:=by lia
 refine tU (w:=w) (show 2<8 by decide) (λj hs kvs J=>?_) ?_
 ·rcases j with _ | _ | _ | _ | _ | _ | _ | _ | j<;>simp at J
 refine hV (ts:=lv.map eS) (λR h=>⟨_,Fc,_,Fc,h⟩)
  (λk σ=>∃(o:List (List Nat))(s3 s4 s5 s6 s7:Sl),σ=[.val (oK A fs an f a b),.val (.list (lv.map eS)),pS w (nJ eS o),s3,s4,s5,s6,s7]/\o.Nodup/\o.length<=2*(jL fs).length*k/\(∀x∈o,nD f x/\x≠[])/\∀(j:Nat)(ns:List Nat),j<k->lv[j]?=some ns->∀c∈jL fs,gJ fs (bL f ns) c=true->yN fs f c ns∈o/\nN fs f c ns∈o)
  ⟨[],_,_,_,_,_,Fc,FD,Fa,(λx n=>by simp at n),λj ns J=>a9 J (pM _)⟩ (λk x bi n M=>?_) λbi M=>?_
 ·obtain⟨o,s3,s4,s5,s6,s7,rfl,jl,r,hok,p⟩:=M;rw[aI]at n;obtain⟨ns,xc,rfl⟩:=bU.mp n;have t:=yh ns (aS xc);have vz:k<lv.length:=(aE.mp xc).1;have ix:=bW (gJ fs (bL f ns)) (jL fs);have Ea:2*(jL fs).length*k<=2*100*400:=fZ (fZ (aN 2) hN) Ez
  refine JS (ts:=((jL fs).filter (gJ fs (bL f ns))).map (PV fs f ns)) (λR h=>⟨_,Fc,fR,_,Fc,M8,_,Fc,fs,an,fa,f,a,b,ns,Fc,S,t,_,Fc,h⟩)
   (λi σ=>∃(u:List (List Nat))(s4 s5 s6 s7:Sl),σ=[.val (oK A fs an f a b),.val (.list (lv.map eS)),pS w (nJ eS u),.val (eS ns),s4,s5,s6,s7]/\u.Nodup/\u.length<=2*(jL fs).length*k+2*i/\(∀x∈u,nD f x/\x≠[])/\(∀x∈o,x∈u)/\∀(j:Nat)(c:Ch),j<i->((jL fs).filter (gJ fs (bL f ns)))[j]?=some c->yN fs f c ns∈u/\nN fs f c ns∈u)
   ⟨o,_,_,_,_,Fc,jl,r,hok,λx n=>n,λj c J=>a9 J (pM _)⟩ (λi x bi n M=>?_) λbi M=>?_
  ·obtain⟨u,s4,s5,s6,s7,rfl,ui,v,E,s,m⟩:=M;rw[aI]at n;obtain⟨c,W,rfl⟩:=bU.mp n;have vp:i<((jL fs).filter (gJ fs (bL f ns))).length:=(aE.mp W).1;have H:=(cM.mp (aS W)).2;rw[BY λi hi=>t.lt hi,dM]at H;have e1:=GF u (yN fs f c ns);have e2:=GF (yV u (yN fs f c ns)) (nN fs f c ns);have tl:∀l:List (List Nat),(nJ eS l).length=l.length:=λl=>by unfold nJ;rw[aC]
   refine⟨_,_,_,_,Fc,?_⟩;refine PN (w:=w) (eS (yN fs f c ns)) (.bool true) Fc (λq hq=>hq) Fc (λq hq=>⟨_,Fc,hq⟩) (uW _) (jm _) (by rw[tl];lia) ?_;rw[xA (λx y=>A0)];refine yM (w:=w) (eS (nN fs f c ns)) (.bool true) Fc (λq hq=>hq) Fc (λq hq=>⟨_,Fc,hq⟩) (uW _) (jm _) (by rw[tl];lia) ?_;rw[xA (λx y=>A0)];refine⟨yV (yV u (yN fs f c ns)) (nN fs f c ns),_,_,_,_,Fc,VH (VH ui),Ez,λx n=>?_,λx n=>mJ.mpr (.inl (mJ.mpr (.inl (s x n)))),λj c' J U=>?_⟩
   ·rcases mJ.mp n with n | rfl
    ·rcases mJ.mp n with n | rfl
     ·exact E x n
     ·exact⟨t.filt _,λe=>by rw[e]at H;cases H.1⟩
    ·exact⟨t.filt _,λe=>by rw[e]at H;cases H.2⟩
   ·by_cases Bq:j<i
    ·obtain⟨g1,g2⟩:=m j c' Bq U;exact⟨mJ.mpr (.inl (mJ.mpr (.inl g1))),mJ.mpr (.inl (mJ.mpr (.inl g2)))⟩
    ·have:j=i:=by lia
     subst this;rw[W]at U;cases U;exact⟨mJ.mpr (.inl (mJ.mpr (.inr Fc))),mJ.mpr (.inr Fc)⟩
  ·obtain⟨u,s4,s5,s6,s7,rfl,ui,v,E,s,m⟩:=M;rw[aC]at v m;refine⟨u,_,_,_,_,_,Fc,ui,?_,E,λj Cz J z c hc hp=>?_⟩
   ·have:2*(jL fs).length*(k+1)=2*(jL fs).length*k+2*(jL fs).length:=aM5 _ _;lia
   ·by_cases Br:j<k
    ·obtain⟨g1,g2⟩:=p j Cz Br z c hc hp;exact⟨s _ g1,s _ g2⟩
    ·have:j=k:=by lia
     subst this;rw[xc]at z;cases z;obtain⟨i,hi⟩:=bP (cM.mpr ⟨hc,hp⟩);exact m i c (aE.mp hi).1 hi
 ·obtain⟨o,s3,s4,s5,s6,s7,rfl,jl,r,hok,p⟩:=M;rw[aC]at r p;refine⟨_,_,Fc,_,Fc,nJ eS o,Fc,?_⟩;rw[wS];refine h o jl r hok λns t c hc hp=>?_;obtain⟨j,J⟩:=bP t;exact p j ns (aE.mp J).1 J c hc hp
def Qu:dS P w K mg base hX 4 kt ot ["sets","numbers","deep"] (cG K (Vp w A)):=by
 refine mB T.D_32.F Ti λhr nd ds Q h=>?_;obtain⟨fs,an,fa,o,a,b,ns,dp,rfl,S,rf,im,wy,vi,h⟩:=h;refine⟨_,(aQ (sn 3 nd)
 (aQ (ss 4 nd (kF (aA (aH 1) aL)))
 (aQ (sf (VE (aA (aH 2) (aA aK (aA (L9 aK) aL))) (λh=>TH Fc T.b_range h)) (dH (pn 5 nd))
 (aQ (sf (eW (aH 4)) (dH (pn 6 nd))
 (bC (wU (i:=3) hr.u9 (pv 3) (eM (aA (aH 6) (aA (aH 5) aL))) nL)))
 (aQ (gT (dN oG lE (WA (i:=3) (tY Q4 Fc T.b_len eZ (jC (pv 3) lD))) (aAh Fc T.c_MOST_SETS))
 (bC Lu)
 fM)
 (bC (ss 4 nd (CH (dN oG lE (aH 5) aK) (cd (Qv (w:=w) T) T.D_33 hr (aA (aH 0) (aA (aH 4) aL))) (kF aL)))))))
 (qT 3 (bC (cR (CG (aH 3) (pc:=λh=>gH (oO Fc) Fc T.b_list uY h)))))))),?_⟩
 show gI _ _ _ [.val (oK A fs an o a b),.val (eS ns),.val (.int (dp:Nat)),.un,.un,.un,.un];have jm:∀ks:List (List Nat×Nat),∀kv∈nJ kY ks,jX kv.1:=λks=>K1 (kf:=kY) (λx=>(kW x.1 x.2).1) ks;have tl:∀l:List (List Nat×Nat),(nJ kY l).length=l.length:=λl=>by unfold nJ;rw[aC]
 have n5:=S.F.n5;have sj:=iY S.F fs λg hg=>hg;have Dz:=oZ fs;have hN:(jL fs).length<=100:=by lia
 have cm:=λk=>CT (2*(jL fs).length) (k:=k) (n:=dp);refine tU (w:=w) (show 3<7 by decide) (λj hs kvs U=>?_) ?_
 ·rcases j with _ | _ | _ | _ | _ | _ | _ | j<;>simp at U
 refine cL (.list [eS ns]) (λq p=>⟨_,Fc,Fb,p⟩) ?_
 refine hV (ts:=qI ((dp:Nat):Int)) (λR h=>⟨_,Fc,((dp:Nat):Int),Fc,Ez,Ez,h⟩)
  (λk σ=>∃(ks:List (List Nat×Nat))(m:List (List Nat))(s5 u:Sl),σ=[.val (oK A fs an o a b),.val (eS ns),.val (.int (dp:Nat)),pS w (nJ kY ks),.val (.list (m.map eS)),s5,u]/\KB fs o ns dp k ks m/\m.length<=(2*(jL fs).length)^k/\ks.length<=MI (2*(jL fs).length) k/\(∀x∈ks,x.1≠[])/\∀x∈m,x≠[])
  ⟨[],[ns],_,_,Fc,⟨FD,Fa,(λx hx=>by rw[dF.mp hx];exact rf),(λx hx=>by simp at hx),λ_=>⟨Fc,Fc⟩,(λz=>a9 z Ez),(λi x d hi=>by simp at hi)⟩,(aN _),(aN _),(λx hx=>by simp at hx),λx hx=>by rw[dF.mp hx];exact im⟩ (λk x J hx E=>?_) λJ E=>?_
 ·obtain⟨ks,m,s5,u,rfl,M,s,r,H,ui⟩:=E;obtain⟨xa,rfl⟩:=aAl hx
  have yk:∀y∈m,(y,dp-k)∉ks:=λy _ hm=>by
   have:=(M.ko _ hm).2.1;dsimp only at this;lia
  have vx:=cm (k+1) xa;have yf:MI (2*(jL fs).length) (k+1)=MI (2*(jL fs).length) k+(2*(jL fs).length)^k:=rfl
  refine hV (ts:=m.map eS) (λR h=>⟨_,Fc,_,Fc,h⟩)
   (λi σ=>∃u:Sl,σ=[.val (oK A fs an o a b),.val (eS ns),.val (.int (dp:Nat)),pS w (nJ kY (ks++(m.take i).map λx=>(x,dp-k))),.val (.list (m.map eS)),.val (.int ((dp-k:Nat):Int)),u]) ⟨u,Fa⟩ (λi x J hx E=>?_) λJ E=>?_
  ·obtain⟨u,rfl⟩:=E;rw[aI]at hx;obtain⟨y,hy,rfl⟩:=bU.mp hx;have za:=aS hy
   have ym:(y,dp-k)∉ks++(m.take i).map λx=>(x,dp-k):=λz=>by
    rcases dZ.mp z with z | z
    ·exact yk y za z
    ·obtain⟨y',yz,e⟩:=aR.mp z;injection e with e _
     subst e;obtain⟨j,U⟩:=bP yz;have wz:=(aE.mp U).1;rw[aZ]at wz;rw[gR,a7 Ez]at U;have:=B2 M.nl U hy;lia
   have sk:(ks++(m.take i).map λx=>(x,dp-k)).length<=400:=by rw[bH,aC,aZ];lia
   refine yM (w:=w) (kY (y,dp-k)) (.bool true) Fc (λq p=>p) Fc (λq p=>⟨_,Fc,_,Fc,Fb,p⟩) (kW _ _) (jm _) (by rw[tl];lia) ?_;rw[xA xI,Z5 ym];refine⟨.val (eS y),?_⟩;rw[cU,hy];show _=[_,_,_,pS w (nJ kY (ks++(m.take i++[y]).map λx=>(x,dp-k))),_,_,_];rw[bB,<- jZ];rfl
  ·obtain⟨u,rfl⟩:=E;rw[aC,dA];have Bt:(ks++m.map λx=>(x,dp-k)).length<=400:=by rw[bH,aC];lia
   refine fW (λt=>t=false) (λq p=>⟨_,_,Fc,?_⟩) (λhT=>by cases hT) λ_=>?_
   ·refine p _ (c4 ?_);rw[tl];lia
   try unfold jD
   dsimp only;have M0:∀f,f.Nodup->(∀x∈f,nD o x)->(k+1<dp->∀x∈m,∀c∈jL fs,gJ fs (bL o x) c=true->yN fs o c x∈f/\nN fs o c x∈f)->KB fs o ns dp (k+1) (ks++m.map λx=>(x,dp-k)) f:=λf h1 h2 h3=>M.step xa h1 h2 h3;have W:(ks++m.map λx=>(x,dp-k)).length<=MI (2*(jL fs).length) (k+1):=by rw[bH,aC,yf];lia
   have yj:∀x∈ks++m.map λx=>(x,dp-k),x.1≠[]:=λx hx=>by
    rcases dZ.mp hx with hx | hx
    ·exact H x hx
    ·obtain⟨y,hy,rfl⟩:=aR.mp hx;exact ui y hy
   refine T5 (λv=>∃f:List (List Nat),v=.list (f.map eS)/\KB fs o ns dp (k+1) (ks++m.map λx=>(x,dp-k)) f/\f.length<=(2*(jL fs).length)^(k+1)/\∀x∈f,x≠[]) (λq p=>⟨_,Fc,?_⟩) ?_
   ·show(if decide ((1:Int)<((dp-k:Nat):Int))=true then _ else _);by_cases hg:1<dp-k
    ·rw[a7 (a8 Ez)];refine⟨_,Fc,_,Fc,fs,an,fa,o,a,b,m,Fc,S,Ez,M.lo,λls g1 g2 g3 g4=>p _ ⟨ls,Fc,M0 ls g1 (λx hx=>(g3 x hx).1) λ_=>g4,?_,λx hx=>(g3 x hx).2⟩⟩;rw[uK,uL];exact bG g2 (fZ (aN _) s)
    ·rw[a6 (λz=>by have:=b8 z;lia)];exact⟨Fb,p _ ⟨[],Fc,M0 [] FD (λx hx=>by simp at hx) (λz=>a9 z Ez),cI _,λx hx=>by simp at hx⟩⟩
   ·rintro _ ⟨f,rfl,M',yg,yi⟩;exact⟨_,f,_,_,Fc,M',yg,W,yj,yi⟩
 ·obtain⟨ks,m,s5,u,rfl,M,s,r,H,ui⟩:=E;rw[WF]at M r;refine⟨_,_,Fc,_,Fc,nJ kY ks,Fc,?_⟩;rw[wS];refine h ks ⟨M.nd,Ez,λx hx=>?_,M.z1,λx d hx c hc hp=>?_⟩ M.fin
  ·obtain⟨h1,h2,h3,h4⟩:=M.ko x hx;exact⟨h1,h4,Ez,H x hx⟩
  ·obtain⟨i,hi⟩:=bP hx;obtain⟨⟨j1,_,g1⟩,j2,_,g2⟩:=M.fin i x d hi c hc hp;exact⟨aS g1,aS g2⟩
def Qt:dS P w K mg base hX 6 kr oq ["sets","numbers","deep"] (cG K (Vo w A)):=by
 refine mB T.D_31.F Tg λhr nd ds Q h=>?_;obtain⟨fs,an,fa,f,a,b,ns,dp,rfl,S,rf,im,W,U,h⟩:=h;refine⟨_,(aQ (sn 3 nd)
 (aQ (sf (Yk (aA (cd (Qu (w:=w) T) T.D_32 hr (aA (aH 0) (aA (aH 1) (aA (aH 2) aL)))) aL) (λh=>Zf Fc T.b_reversed h)) (dH (pn 4 nd))
 (bC (wU (i:=3) hr.u9 (pv 3) (aH 4) (cd (Sa (w:=w) T) T.D_34 hr (aA (aH 0) (aA (aH 3) (aA (bD aX cA (aH 4) aK) (aA (bD aX cA (aH 4) aK) aL))))))))
 (qT 3 (bC (cR (aH 3)))))),?_⟩
 show gI _ _ _ [.val (oK A fs an f a b),.val (eS ns),.val (.int (dp:Nat)),.un,.un];refine tU (w:=w) (show 3<5 by decide) (λj hs kvs o=>?_) ?_
 ·rcases j with _ | _ | _ | _ | _ | j<;>simp at o
 refine⟨_,Fc,_,Fc,_,Fc,fs,an,fa,f,a,b,ns,dp,Fc,S,rf,im,W,U,λks hG p=>⟨_,Fc,?_⟩⟩;obtain⟨jl,qz,hok,vq,R⟩:=id hG;rw[<- List.map_reverse];have Ci:ks.reverse.length=ks.length:=pP;have E:ks.reverse.Nodup:=List.pairwise_reverse.mpr (jl.imp λh=>l5 h)
 have H:∀l:List (List Nat×Nat),∀kv∈l.map (λx=>(kY x,mW (fG fs fa a b x.2 (bL f x.1)))),jX kv.1:=λl kv wa=>by
  obtain⟨x,_,rfl⟩:=aR.mp wa;exact(kW x.1 x.2).1
 refine⟨λk σ=>∃s4:Sl,σ=[.val (oK A fs an f a b),.val (eS ns),.val (.int (dp:Nat)),pS w ((ks.reverse.take k).map (λx=>(kY x,mW (fG fs fa a b x.2 (bL f x.1))))),s4],⟨_,Fc⟩,λk x bi n J=>?_,λbi J=>?_⟩
 ·obtain⟨s4,rfl⟩:=J;rw[aI]at n;obtain⟨⟨y,e⟩,g,rfl⟩:=bU.mp n;have vz:k<ks.length:=by have:=(aE.mp g).1;lia
  have za:(y,e)∈ks:=lV.mp (aS g);obtain⟨Cs,yd,EM,_⟩:=hok _ za;obtain⟨d,rfl⟩:∃d,e=d+1:=⟨e-1,by dsimp only at yd;lia⟩;have Bs:ks[ks.length-1-k]?=some (y,d+1):=by rw[<- vE vz];exact g
  have m:∀(j:Nat)(z:List Nat×Nat),ks.length-1-k<j->ks[j]?=some z->z∈ks.reverse.take k:=λj z o hz=>by
   have s:=(aE.mp hz).1
   have e2:ks.reverse[ks.length-1-j]?=some z:=by
    rw[vE Ez,show ks.length-1-(ks.length-1-j)=j by lia];exact hz
   refine aS (i:=ks.length-1-j) ?_;rw[gR,a7 Ez];exact e2
  have r:∀c∈jL fs,gJ fs (bL f y) c=true->Gk fs fa f a b ((ks.reverse.take k).map (λx=>(kY x,mW (fG fs fa a b x.2 (bL f x.1))))) d (yN fs f c y)/\Gk fs fa f a b ((ks.reverse.take k).map (λx=>(kY x,mW (fG fs fa a b x.2 (bL f x.1))))) d (nN fs f c y):=λc M hp=>by
   cases d with
   |zero=>exact⟨.inl Fc,.inl Fc⟩
   |succ d=>
    obtain⟨⟨j1,g1,g2⟩,j2,g3,g4⟩:=p _ y d Bs c M hp;exact⟨.inr (aR.mpr ⟨_,m j1 _ g1 g2,Fc⟩),.inr (aR.mpr ⟨_,m j2 _ g3 g4,Fc⟩)⟩
  have t:kY (y,d+1)∉((ks.reverse.take k).map (λx=>(kY x,mW (fG fs fa a b x.2 (bL f x.1))))).map (·.1):=λz=>by
   rw[bM]at z;obtain⟨x,n,ex⟩:=aR.mp z;have:x=(y,d+1):=xI _ _ ex;subst this;obtain⟨j,o⟩:=bP n;have s:=(aE.mp o).1;rw[aZ]at s;rw[gR,a7 Ez]at o;have:=B2 E o g;lia
  have sk:((ks.reverse.take k).map (λx=>(kY x,mW (fG fs fa a b x.2 (bL f x.1))))).length<=400:=by rw[aC,aZ];lia
  refine yM (w:=w) (kY (y,d+1)) (mW (fG fs fa a b (d+1) (bL f y))) Fc (λq hq=>⟨_,Fc,_,Fc,_,Fc,_,Fc,_,Fc,_,Fc,fs,an,fa,f,a,b,_,y,d,Fc,S,Cs,H _,r,hq⟩) (aC0 _) (λq hq=>⟨_,Fc,hq⟩) (kW _ _) (H _) Ez ?_;rw[NQ t];refine⟨.val (kY (y,d+1)),?_⟩;rw[cU,g];show _=[_,_,_,pS w ((ks.reverse.take k++[(y,d+1)]).map (λx=>(kY x,mW (fG fs fa a b x.2 (bL f x.1))))),_];rw[bB];rfl
 ·obtain⟨s4,rfl⟩:=J;rw[aC,dA];exact⟨_,_,Fc,_,Fc,h ks.reverse ⟨E,Ez,λx n=>hok x (lV.mp n),λz=>lV.mpr (vq z),λx d n c M hp=>let ⟨u,v⟩:=R x d (lV.mp n) c M hp;⟨lV.mpr u,lV.mpr v⟩⟩⟩
def Qs:dS P w K mg base hX 9 kq oo ["form","rows","deep","prices"] (cG K (Vn w A)):=by
 refine mB T.D_30.F Tf λE nd ds Q h=>?_;obtain⟨fs,an,fa,c,a,b,dp,rfl,S,t,r,p,h⟩:=h;refine⟨_,(aQ (ss 4 nd (aAf (aA (aH 0) (aA (aH 1) (aA (aH 3) aL))) (λh=>Y8 T.K_RowSets (Od T) (E.mono Ey) Fc T.x_RowSets T.D_0.d .nil zO h)))
 (aQ (ss 5 nd (cd (Qt (w:=w) T) T.D_31 E (aA (aH 4) (aA (A9 (aA (cB gQ (aA (aH 1) aL) bY T.b_len eZ) aL) (λh=>gH (nC Fc) Fc T.b_tuple kG (jC (gH pY Fc T.b_range xR h) lD))) (aA (aH 2) aL)))))
 (aQ (ss 6 nd (cd (T9 (w:=w) T) T.D_35 E (aA (aH 4) (aA (aH 5) (aA (A9 (aA (cB gQ (aA (aH 1) aL) bY T.b_len eZ) aL) (λh=>gH (nC Fc) Fc T.b_tuple kG (jC (gH pY Fc T.b_range xR h) lD))) (aA (aH 2) aL))))))
 (bC (cR (eM (aA (bD aX cA (aH 6) aK) (aA (bD aX cA (aH 6) aK) (aA (el (fr:=[none,none]) (N':=["key","found"]) (VD (aH 5) (λh=>TF h)) (λb=>⟨(nZ (lC Fc (dQ (pk 0) (dQ (pk 1) jS)))),iT,(cJ cZ gU (aH 0) (eM (aA (bD aX cA (aH 1) aK) aL)))⟩)) aL))))))))),?_⟩
 show gI _ _ _ [.val (dW fs an),.val (.list (c.map dP)),.val (.int (dp:Nat)),.val (.tuple [.int a,.int b]),.un,.un,.un];have hl:=S.l;have k:nD c (cK c.length):=aGb.refl _;have y:cK c.length≠[]:=λe=>t (hZ.mp (by have:=e7 gC e;rw[fL]at this;exact this));have m:(0:Int)<=(((c.map dP).length:Nat):Int):=zG _;have n:(((c.map dP).length:Nat):Int)<=100000:=by rw[aC];lia
 have M:gE (eK (((c.map dP).length:Nat):Int).toNat)=eS (cK c.length):=by rw[dX,aC];rfl
 refine cL (oK A fs an c a b) (λq i=>⟨_,Fc,_,Fc,_,Fc,fs,an,c,a,b,Fc,S.F,S.R,S.l,i⟩) ?_;refine iA (λv=>∃ks:List (List Nat×Nat),v=mC w (ks.map (λx=>(kY x,mW (fG fs fa a b x.2 (bL c x.1)))))/\C4 fs c (cK c.length) dp ks) (λq i=>⟨_,Fc,_,Fc,_,Fc,m,n,_,Fc,fs,an,fa,c,a,b,cK c.length,dp,by rw[M],S,k,y,r,p,λks h1=>i _ ⟨ks,Fc,h1⟩⟩) ?_;rintro _ ⟨ks,rfl,o⟩;have vz:=o.2.1;have s:=o.2.2.2.1
 have J:∀f∈ks.map (λx=>(kY x,mW (fG fs fa a b x.2 (bL c x.1)))),jX f.1:=λf g=>by
  obtain⟨x,_,rfl⟩:=aR.mp g;exact(kW x.1 x.2).1
 have j:dp=0\/(JM (cK c.length) dp,mW (fG fs fa a b dp (bL c (cK c.length))))∈ks.map (λx=>(kY x,mW (fG fs fa a b x.2 (bL c x.1)))):=by
  by_cases z:dp=0
  ·exact .inl z
  ·exact .inr (aR.mpr ⟨_,s Ez,Fc⟩)
 refine cL (mW (fG fs fa a b dp c)) (λq i=>⟨_,Fc,_,Fc,_,Fc,_,Fc,m,n,_,Fc,fs,an,fa,c,a,b,_,cK c.length,dp,by rw[M],S,k,J,j,by rw[IL];exact i⟩) ?_;refine⟨_,Fc,_,Fc,_,Fc,_,Fc,?_⟩;have eT:((ks.map (λx=>(kY x,mW (fG fs fa a b x.2 (bL c x.1))))).map λf=>gE [f.1,f.2]).map Jc=ks.map (xN fs fa a b c):=by rw[bM,bM];rfl
 refine N4 (ts:=(ks.map (λx=>(kY x,mW (fG fs fa a b x.2 (bL c x.1))))).map λf=>.tuple [f.1,f.2]) (λR h=>⟨_,Fc,_,Fc,h⟩) Jc (by rw[aC,aC];lia) (λx H=>?_) (λu v q H i=>?_) ?_
 ·obtain⟨f,_,rfl⟩:=aR.mp H;exact⟨_,_,Fc⟩
 ·obtain⟨f,g,e⟩:=aR.mp H;obtain⟨x,_,rfl⟩:=aR.mp g;injection e with e
  injection e with U e
  injection e with W _
  subst U W;exact⟨_,Fc,_,Fc,_,Fc,Fb,Fb,i⟩
 ·rw[eT];exact⟨Fb,h ks o⟩
def Mh:dS P w K mg base hX 1 lr py ["_law_cell","_law_k"] (cG K Ls):=by
 refine mB T.D_48.F Tt λm nd i Q h=>?_;obtain⟨c,k,rfl,j,l,h⟩:=h;refine⟨_,(aQ (ss 2 nd (cJ gK oY (cJ cZ gU (cJ cZ gU (cJ fV lN (cJ gK oY (aH 0) aK) aK) (cJ fV lN (aH 1) aK)) aK) aK))
 (bC (cR (cJ gK oY (cJ fV lN (cJ gK oY (cJ fV lN (aH 2) (aH 2)) aK) aK) aK)))),?_⟩
 simp only[gI,FP,KI,AD,mM,List.map_cons,List.map_nil,List.length_cons,List.length_nil,Nat.reduceAdd,Nat.reduceSub,List.replicate,List.cons_append,List.nil_append,eC,fI,Ho,V0,sV,List.set_cons_succ,List.set_cons_zero,RA,List.getElem?_cons_succ,List.getElem?_cons_zero,Option.some.injEq,Sl.val.injEq,exists_eq_left']
 have b1:=eA c (show(1000000007:Int)≠0 by decide);have b:=dL c (show(0:Int)<1000000007 by decide)
 generalize n:(c%1000000007*48271+k*7919+101)=x
 have d:=eA x (show(2147483647:Int)≠0 by decide);have e:=dL x (show(0:Int)<2147483647 by decide)
 generalize o:x%2147483647=y at *
 have f:=eA (y*y) (show(2147483629:Int)≠0 by decide);have g:=dL (y*y) (show(0:Int)<2147483629 by decide)
 generalize p:y*y%2147483629=z at *
 have a:(2:Int)^64=18446744073709551616:=by decide
 refine⟨Ey,.inl ⟨Ez,Ez⟩,.inl ⟨Ez,Ez⟩,Ey,.inl ⟨Ez,Ez⟩,Ey,.inl ⟨Ez,Ez⟩,Ey,h _ ?_ ?_⟩
 ·exact eA _ Ey
 ·exact dL _ Ey
def IW:dS P w K mg base hX 2 lu pz ["_law_script","_law_k"] (cG K Xj):=by
 refine mB T.D_49.F Tu λm nd n Q h=>?_;obtain⟨ns,k,rfl,o,j,l,h⟩:=h;refine⟨_,(aQ (gT (dN zP lE (aH 1) (cB gQ (aA (aH 0) aL) bY T.b_len eZ))
 (bC (cR (bD aX cA (aH 0) (aH 1))))
 fM)
 (aQ (ss 2 nd aK)
 (aQ (gT (dN oG lE (cB gQ (aA (aH 0) aL) bY T.b_len eZ) aK)
 (bC (ss 2 nd (bD aX cA (aH 0) (cJ gK oY (aH 1) (cB gQ (aA (aH 0) aL) bY T.b_len eZ)))))
 fM)
 (bC (cR (cJ cZ gU (cJ fV lN aK (cd (Mh T) T.D_48 m (aA (aH 2) (aA (aH 1) aL)))) aK)))))),?_⟩
 simp only[gI,Fm,CW,KI,AD,mM,List.map_cons,List.map_nil,List.length_cons,List.length_nil,Nat.reduceAdd,Nat.reduceSub,List.replicate,List.cons_append,List.nil_append,nM,qA,J7,f1,Hr,Ix,sV,Fu,MT,RA,List.getElem?_cons_succ,List.getElem?_cons_zero,Option.some.injEq,Sl.val.injEq,exists_eq_left',jD,FP,eC,List.set_cons_succ,List.set_cons_zero,fI,Ho,V0]
 have fin:∀c:Int,Ls [.int c,.int k] λy=>Ho (.int 2) y λx=>V0 x (.int 1) Q:=λc=>
  ⟨c,k,Fc,j,l,λr _ _=>⟨.inl ⟨Ey,Ey⟩,h _⟩⟩
 rw[aC];by_cases e:k<(ns.length:Int)
 ·rw[a7 (a8 e)];obtain⟨a,g,f,_⟩:=oP (xs:=ns.map aP) (i:=k) j (by rw[aC];exact e);obtain⟨b,_,rfl⟩:=aR.mp g;exact⟨_,f,h b⟩
 ·rw[a6 (by simpa using e)];by_cases d:0<(ns.length:Int)
  ·rw[a7 (a8 d)];refine⟨d,?_⟩;obtain⟨a,g,f,_⟩:=oP (xs:=ns.map aP) (i:=k%(ns.length:Int)) (eA _ Ez) (by rw[aC];exact dL _ d);obtain⟨b,_,rfl⟩:=aR.mp g;exact⟨_,f,fin b⟩
  ·rw[a6 (by simpa using d)];exact fin 0
def T7:dS P w K mg base hX 1 ly qb ["_law_drawn_here","_law_at","_law_many"] (cG K Xl):=by
 refine mB T.D_51.F Tw λhr nd ds Q h=>?_;obtain⟨bs,n,m,k,rfl,hb,hk,hn,hm,h⟩:=h;refine⟨_,(aQ (ss 3 nd eN)
 (aQ (ss 4 nd (aAg eN (aA (el (fr:=[none,some 3,some 0,some 1]) (N':=["_law_k","_law_letters","_law_drawn_here","_law_at"]) (kN (aA aK aL) (λh=>jP Fc T.b_range h)) (λb=>⟨(dH (pk 0)),iT,(bD aX cA (aH 1) (cJ gK oY (bD aX cA (aH 2) (cJ cZ gU (cJ cZ gU (aH 3) aK) (aH 0))) aK))⟩)) aL) (λh ha=>kJ PySem.F.plainAttrs_str PySem.F.slot_str_join PySem.F.type_str_join ZM h ha)))
 (aQ (ss 5 nd (cJ gK oY (cJ lL oY (bD aX cA (aH 0) (aH 1)) aK) aK))
 (aQ (ss 6 nd (kF (aA eN (aA eN (aA eN (aA eN (aA eN (aA eN (aA eN (aA eN aL))))))))))
 (aQ (gT (dN jI mP (cJ gK oY (bD aX cA (aH 0) (aH 1)) aK) aK)
 (bC (pD (i:=6) (fr:=[none,some 4]) (N':=["_law_k","_law_word"]) (kN (aA aK aL) (λh=>jP Fc T.b_range h)) (λb=>⟨(dH (pk 0)),iT,(jW mX xD (aH 1) mY (jT (cJ cZ gU (aH 0) aK)))⟩) (λhi hY=>nS (show rC _ (bA (top 63)) ["_law_drawn_here","_law_at","_law_many","_law_letters","_law_word","_law_turn","_law_names_here","_law_place","_law_k","_law_sign"] ["_law_k","_law_word"] [none,some 4]=true from by decide +kernel) nd Fc (by first | exact v7 Fc | exact r0 Fc) Fc hi hY Fc)))
 fM)
 (aQ (gT (dN jI mP (cJ gK oY (bD aX cA (aH 0) (aH 1)) aK) aK)
 (aQ (ss 7 nd (cJ gK oY (bD aX cA (aH 0) (cJ cZ gU (aH 1) aK)) (cJ cZ gU (aH 5) aK)))
 (aQ (so 6 nd aL)
 (aQ (sf (kN (aA aK aL) (λh=>jP Fc T.b_range h)) (dH (pn 8 nd))
 (aQ (ss 9 nd (bD aX cA (aH 3) (cJ gK oY (cJ cZ gU (bD aX cA (aH 0) (cJ cZ gU (aH 1) aK)) (cJ fV lN aK (aH 8))) aK)))
 (bC (mN (i:=6) (pv 6) (cJ cZ gU (cJ cZ gU (jW mX xD (aH 4) mY (jT (aH 7))) (aH 9)) (jW mX xD (aH 4) (jT (cJ cZ gU (aH 7) aK)) (jT (cJ cZ gU (aH 5) aK)))) (pb:=λh=>jJ (kJ bT dE dD iF (pv 6) h))))))
 (lX 6 fM))))
 fM)
 (bC (cR (cY pZ (aA (jW mX xD (cJ cZ gU (jW mX xD (aH 6) (jT (aH 5)) mY) (jW mX xD (aH 6) mY (jT (aH 5)))) mY (jT (aH 2))) aL) jF T.b_tuple kG))))))))),?_⟩
 show gI _ _ _ [.val (.list (bs.map aP)),.val (.int k),.val (.int m),.un,.un,.un,.un,.un,.un,.un];have o:∀i,i<11->∃b:Nat,L2.atI (bs.map aP) (((k+i:Nat)):Int)=some (.int (b:Int)):=λi hi=>aAu hb (k+i) (cS (RP hi k) hk);obtain⟨b0,f⟩:=o 0 Ey
 replace f:L2.atI (bs.map aP) (k:Int)=some (.int (b0:Int)):=f
 have S:(0:Int)<26:=by decide
 have p8:(0:Int)<8:=by decide
 have p3:(0:Int)<3:=by decide
 refine cL (.str hW) (λq a=>a) ?_;refine iA (λd=>∃z:Str,d=.str z/\z.cps.toList.length=8/\∀c∈z.cps.toList,c∈hW.cps.toList) (λq a=>⟨_,Fc,?_⟩) ?_
 ·refine B6 (ts:=eK 8) (λR h=>⟨8,Fc,Ey,Ey,h⟩) (λ_ _ y=>∃c,c∈hW.cps.toList/\y=.str ⟨#[c]⟩) Ey (λj x q J a=>?_) λE hl hy=>Qb hl hy a;obtain⟨W,rfl⟩:=iC J;obtain⟨b,u⟩:=o (1+j) (cS (RP W 1) Ey)
  replace u:L2.atI (bs.map aP) ((k:Int)+1+(j:Int))=some (.int (b:Int)):=by rw[Int.add_assoc];exact u
  obtain⟨c,hc,Bd⟩:=Xs b;exact⟨_,Fc,_,Fc,_,Fc,_,Fc,_,u,S,Ey,c,Bd,a _ ⟨c,hc,Fc⟩⟩
 rintro _ ⟨z,rfl,p,M⟩;have hz:=SE p;obtain⟨t,ht,Ck⟩:∃t:Nat,((b0:Int) / 3%8)=(t:Int)/\t<8:=⟨b0 / 3%8,Fc,lT _ Ey⟩;refine cL (.int (t:Int)) (λq a=>⟨_,Fc,_,Fc,_,f,⟨Ey,Ey⟩,p8,by rw[ht];exact a⟩) ?_;refine cL (.list (US.map aV)) (λq a=>⟨Ey,a⟩) ?_
 have l:∀(E:List Str)v,KA 8 E->v[6]?=some (.val (.list (E.map aV)))->v[5]?=some (.val (.int (t:Int)))->v[2]?=some (.val (.int m)) ->
   sV (nM (f1 GH) (qA (Fv Fq (KI V0 (Fv Fq (AD 6) (JA (AD 5)) JB) (Fv Fq (AD 6) JB (JA (AD 5)))) JB (JA (AD 2))) J7)) { nx:=λ_=>Q .none,rt:=Q } v:=λE v hy e6 e5 e2=>by
  refine⟨_,e6,_,e5,_,e6,_,e5,?_,_,e2,?_⟩
  ·rw[oA,oA,aC,aC,WI,oN,gA,aZ,hy.1];exact bG (Nat.add_le_add (Nat.sub_le _ _) (sX _ _)) Ey
  ·show Q (.tuple (lF (lF (E.map aV) (some (t:Int)) none++lF (E.map aV) none (some (t:Int))) none (some (m:Int))));rw[oA,oA,<- bB,oA,WI,oN,oN];exact h _ (UF hy _ hm)
 refine fW (λb=>b=decide ((b0:Int)%3=0)) (λq a=>⟨_,Fc,_,Fc,_,f,p3,a _ Fc⟩) (λU=>?_) λhF=>?_
 ·have H:(b0:Int)%3=0:=b8 U.symm;refine mI (.list (((cK 8).map λ(j:Nat)=>Txt.slice z none (some ((j:Int)+1))).map aV)) (λq a=>?_) ?_
  ·refine jK (ts:=eK 8) (λR h=>⟨8,Fc,Ey,Ey,h⟩) (λx=>match x with | .int j=>.str (Txt.slice z none (some (j+1))) | _=>.none) Ey (λx q J a=>?_) ?_
   ·obtain⟨j,W,rfl⟩:=aR.mp J;exact⟨_,Fc,_,Fc,hz,a⟩
   ·unfold eK;rw[bM];rw[bM]at a;exact a
  ·dsimp only;refine fW (λb=>b=false) (λq a=>⟨_,Fc,_,Fc,_,f,p3,a _ (by rw[H];rfl)⟩) (λU=>by cases U) λ_=>?_;exact l _ _ (ZH p M) Fc Fc Fc
 ·try unfold jD
  dsimp only;refine fW (λb=>b=decide ((b0:Int)%3=1)) (λq a=>⟨_,Fc,_,Fc,_,f,p3,a _ Fc⟩) (λU=>?_) λhF=>?_
  ·obtain⟨b9,s⟩:=o 9 Ey
   replace s:L2.atI (bs.map aP) ((k:Int)+9)=some (.int (b9:Int)):=s
   obtain⟨e,g⟩:=o 10 Ey
   replace g:L2.atI (bs.map aP) ((k:Int)+10)=some (.int (e:Int)):=g
   obtain⟨r,ix,Cc⟩:∃r:Nat,(b9:Int)%((t:Int)+1)=(r:Int)/\r<=t:=⟨b9%(t+1),Fc,Nat.le_of_lt_succ (lT _ (aM3 _))⟩;refine cL (.int (r:Int)) (λq a=>⟨_,Fc,_,Fc,_,s,_,Fc,(show(0:Int)<((t+1:Nat):Int)from Int.natCast_pos.mpr (aM3 _)),by rw[ix];exact a⟩) ?_;refine lJ [] Ey (λq a=>a) ?_
   refine hV (ts:=eK 8) (λR h=>⟨8,Fc,Ey,Ey,h⟩)
    (λj v=>∃s8 s9:Sl,v=[.val (.list (bs.map aP)),.val (.int k),.val (.int m),.val (.str hW),.val (.str z),.val (.int (t:Int)),.own (((cK j).map λj=>tE z r t (J4 ((e+5*j)%26))).map aV),.val (.int (r:Int)),s8,s9]) ⟨_,_,Fc⟩ (λj x bi J hP=>?_) λbi hP=>?_
   ·obtain⟨W,rfl⟩:=iC J;obtain⟨s8,s9,rfl⟩:=hP;have hc:L2.atI hW.cps.toList (((e:Int)+5*(j:Int))%26)=some (J4 ((e+5*j)%26)):=by rw[Nt];exact L2.fC (xQ (lT _ Ey))
    obtain⟨w1,w2⟩:=KT p r t (J4 ((e+5*j)%26));refine cL (.str ⟨#[J4 ((e+5*j)%26)]⟩) (λq a=>⟨_,Fc,_,Fc,_,Fc,_,g,_,Fc,.inl ⟨Ey,Ey⟩,S,Ey,_,hc,a⟩) ?_;refine nY (ts:=((cK j).map λj=>tE z r t (J4 ((e+5*j)%26))).map aV) (.str (tE z r t (J4 ((e+5*j)%26)))) Fc (by rw[aC,aC,fL];exact bG (iI W) Ey) (λq a=>⟨_,Fc,_,Fc,hz,_,Fc,w1,_,Fc,_,Fc,_,Fc,hz,w2,a⟩) ⟨.val (.int j),.val (.str ⟨#[J4 ((e+5*j)%26)]⟩),?_⟩;rw[uO,bB,bB];rfl
   ·obtain⟨s8,s9,rfl⟩:=hP;rw[gZ];exact⟨_,Fc,l _ _ (UG p M Ck Cc) Fc Fc Fc⟩
  ·exact l _ _ Oc Fc Fc Fc
def D8:dS P w K mg base hX 2 lx qa ["_law_cell","_law_many"] (kU K Xk):=by
 refine Fh T.D_50.F Tv λt nd y Q h=>?_;obtain⟨c,n,rfl,E,h⟩:=h;refine⟨_,(aQ (so 2 nd aL)
 (aQ (ss 3 nd (cJ lL oY (aH 0) aK))
 (aQ (sf (kN (aA (aH 1) aL) (λh=>jP Fc T.b_range h)) (dH (pn 4 nd))
 (bC (gT (dN jI mP (cJ gK oY (aH 0) aK) aK)
 (aQ (mN (i:=2) (pv 2) (cJ gK oY (aH 3) aK) (pb:=λh=>jJ (kJ bT dE dD iF (pv 2) h)))
 (bC (ss 3 nd (cJ lL oY (aH 3) aK))))
 (bC (mN (i:=2) (pv 2) (cJ gK oY (cJ lL oY (cd (Mh T) T.D_48 t (aA (cJ lL oY (aH 0) aK) (aA (aH 4) aL))) aK) aK) (pb:=λh=>jJ (kJ bT dE dD iF (pv 2) h)))))))
 (bC (uS (pv 2)))))),?_⟩
 simp only[gI,PR,J7,List.length_nil,Nat.reduceLeDiff,FP,KI,AD,mM,List.map_cons,List.map_nil,List.length_cons,Nat.reduceAdd,Nat.reduceSub,List.replicate,List.cons_append,List.nil_append,List.set_cons_succ,List.set_cons_zero,eC,fI,RA,List.getElem?_cons_zero,Option.some.injEq,Sl.val.injEq,exists_eq_left',true_and]
 refine⟨⟨Ey,Ey⟩,JS (ts:=eK n) (λR h=>⟨_,Fc,(n:Int),Fc,Ez,Ez,by simpa using h⟩)
  (λk v=>∃(bs:List Int)(l:Int)(j:Sl),v=[.val (.int c),.val (.int n),.own (bs.map aP),.val (.int l),j]/\AJ k bs) ⟨[],_,_,Fc,Fc,λb s=>by simp at s⟩ (λk x m u f=>?_) λm f=>?_⟩
 ·obtain⟨hk,rfl⟩:=iC u;obtain⟨bs,l,j,rfl,a⟩:=f;have d:(bs.map aP).length<=100000:=by rw[aC,a.1];lia
  have e:∀b:Int,0<=b->b<4096->AJ (k+1) (bs++[b]):=λb p q=>⟨by rw[bH,a.1];rfl,λo g=>by
   rcases dZ.mp g with z | z
   ·exact a.2 o z
   ·have:o=b:=by simpa using z
    subst this;exact⟨p,q⟩⟩
  show Fm _ _ _ _ [.val (.int c),.val (.int n),.own (bs.map aP),.val (.int l),.val (.int k)]
  simp only[Fm,CW,KI,AD,eC,fI,Gu,Fi,gI,YW,List.getElem?_cons_succ,List.getElem?_cons_zero,Option.some.injEq,Sl.own.injEq,FP,List.set_cons_succ,List.set_cons_zero,RA,Sl.val.injEq,exists_eq_left',nM,qA,J7]
  refine⟨Ey,?_⟩;split
  ·refine⟨Ey,d,⟨Ey,Ey⟩,⟨bs++[l%4096],_,_,by rw[bB];rfl,e _ (eA _ Ey) (dL _ Ey)⟩⟩
  ·refine⟨⟨Ey,Ey⟩,_,_,Fc,Ez,Ez,λr _ _=>?_⟩;exact⟨⟨Ey,Ey⟩,Ey,d,⟨bs++[r / 3%4096],_,_,by rw[bB];rfl,e _ (eA _ Ey) (dL _ Ey)⟩⟩
 ·obtain⟨bs,l,j,rfl,a⟩:=f;rw[gZ]at a;exact⟨_,Fc,h bs a⟩
def Rf:dS P w K mg base hX 3 lz qc ["_law_script"] (cG K Xm):=by
 refine mB T.D_52.F Tx λg nd ds Q h=>?_;obtain⟨ns,rfl,S,h⟩:=h;refine⟨_,(aQ (ss 1 nd (rE (cF (D8 T) T.D_50 g (aA (cd (IW T) T.D_49 g (aA (aH 0) (aA aK aL))) (aA aK aL)))))
 (aQ (ss 2 nd (cd (T7 T) T.D_51 g (aA (aH 1) (aA aK (aA (bD aX cA (kF (aA aK (aA aK (aA aK (aA aK (aA aK (aA aK (aA aK (aA aK aL))))))))) (cJ gK oY (bD aX cA (aH 1) aK) aK)) aL)))))
 (aQ (so 3 nd aL)
 (aQ (sf (kN (aA (cB gQ (aA (aH 2) aL) bY T.b_len eZ) aL) (λh=>jP Fc T.b_range h)) (dH (pn 4 nd))
 (aQ (ss 5 nd (rE (cF (D8 T) T.D_50 g (aA (cd (IW T) T.D_49 g (aA (aH 0) (aA (cJ cZ gU aK (aH 4)) aL))) (aA aK aL)))))
 (bC (mN (i:=3) (pv 3) (eM (aA (bD aX cA (aH 2) (aH 4)) (aA (cd (T7 T) T.D_51 g (aA (aH 5) (aA aK (aA (bD aX cA (kF (aA aK (aA aK (aA aK (aA aK (aA aK (aA aK aL))))))) (cJ gK oY (bD aX cA (aH 5) aK) aK)) aL)))) aL))) (pb:=λh=>jJ (kJ bT dE dD iF (pv 3) h))))))
 (aQ (ss 5 nd (rE (cF (D8 T) T.D_50 g (aA (cd (IW T) T.D_49 g (aA (aH 0) (aA aK aL))) (aA aK aL)))))
 (lX 3 (bC (cR (eM (aA (cY pZ (aA (aH 3) aL) jF T.b_tuple kG) (aA (cd (T7 T) T.D_51 g (aA (aH 5) (aA aK (aA (bD aX cA (kF (aA aK (aA aK (aA aK (aA aK aL))))) (cJ gK oY (bD aX cA (aH 5) aK) aK)) aL)))) aL))))))))))),?_⟩
 have p8:(0:Int)<8:=by decide
 have p6:(0:Int)<6:=by decide
 have p4:(0:Int)<4:=by decide
 show gI _ _ _ [.val (.list (ns.map aP)),.un,.un,.un,.un,.un];refine iA (λd=>∃bs,AJ 20 bs/\d=.list (bs.map aP)) (λq e=>⟨_,Fc,ns,0,Fc,S,Ey,Ey,λr=>⟨r,20,Fc,Ey,λbs j=>e _ ⟨bs,j,Fc⟩⟩⟩) ?_;rintro _ ⟨bs,j,rfl⟩;obtain⟨b0,o,p,J⟩:=kH j (i:=0) Ey Ey;obtain⟨m,Ec,Ed,hm⟩:=PY (xs:=[1,2,2,3,3,3,4,5]) (lo:=1) (hi:=5) Ey (i:=b0%8) (eA _ Ey) (dL _ p8);refine iA (λd=>∃c,KA m.toNat c/\d=.tuple (c.map aV)) (λq e=>?_) ?_
 ·refine⟨_,Fc,Ey,_,Fc,_,J,p8,_,hm,bs,20,m.toNat,1,?_,j,Ey,Ey,Ez,λc y=>e _ ⟨c,y,Fc⟩⟩;rw[show((m.toNat:Nat):Int)=m by lia];rfl
 rintro _ ⟨c,y,rfl⟩;have uj:c.length=m.toNat:=y.1;refine lJ [] Ey (λq e=>e) ?_
 refine hV (ts:=eK c.length) (λR h=>⟨_,Fc,_,Fc,by rw[aC];lia,by rw[aC];lia,by simpa using h⟩)
  (λk σ=>∃(fs:List (Str×List Str))(s4 s5:Sl),σ=[.val (.list (ns.map aP)),.val (.list (bs.map aP)),.val (.tuple (c.map aV)),.own (fs.map kI),s4,s5]/\fs.map (·.1)=c.take k/\∀f∈fs,2<=f.2.length/\f.2.length<=5/\KA f.2.length f.2)
  ⟨[],_,_,Fc,Fa,λf M=>by simp at M⟩ (λk x bi hx H=>?_) λbi H=>?_
 ·obtain⟨hk,rfl⟩:=iC hx;obtain⟨fs,s4,s5,rfl,b,n⟩:=H
  have t:fs.length=k:=by
   have:=e7 gC b;rw[aC,aZ]at this;lia
  refine iA (λd=>∃bs,AJ 12 bs/\d=.list (bs.map aP)) (λq e=>⟨_,Fc,_,Fc,ns,1+(k:Int),Fc,S,Ez,Ez,λr=>⟨r,12,Fc,Ey,λbs j=>e _ ⟨bs,j,Fc⟩⟩⟩) ?_;rintro _ ⟨u,s,rfl⟩;obtain⟨E,o,p,l⟩:=kH s (i:=0) Ey Ey;obtain⟨v,W,Co,U⟩:=PY (xs:=[2,2,3,3,4,5]) (lo:=2) (hi:=5) Ey (i:=E%6) (eA _ Ey) (dL _ p6);refine⟨fs.map kI,Fc,_,Fc,_,Fc,_,WP hk,_,Fc,Ey,_,Fc,_,l,p6,_,U,u,12,v.toNat,1,?_,s,Ey,Ey,Ez,λvs a=>?_⟩
  ·rw[show((v.toNat:Nat):Int)=v by lia];rfl
  ·refine⟨aF Fc,by rw[aC];lia,fs++[(c[k],vs)],.val (.int k),.val (.list (u.map aP)),?_,?_,λf M=>?_⟩
   ·rw[bB];rfl
   ·rw[bB,b,cU,aD hk];rfl
   ·rcases dZ.mp M with z | z
    ·exact n f z
    ·have:f=(c[k],vs):=by simpa using z
     subst this;have Cp:=a.1;refine⟨by show 2<=vs.length;lia,by show vs.length<=5;lia,?_⟩;show KA vs.length vs;rw[Cp];exact a
 ·obtain⟨fs,s4,s5,rfl,b,n⟩:=H;rw[gZ,dA]at b;have t:fs.length=c.length:=by rw[<- b,aC]
  refine iA (λd=>∃bs,AJ 12 bs/\d=.list (bs.map aP)) (λq e=>⟨_,Fc,ns,6,Fc,S,Ey,Ey,λr=>⟨r,12,Fc,Ey,λbs j=>e _ ⟨bs,j,Fc⟩⟩⟩) ?_;rintro _ ⟨u,s,rfl⟩;obtain⟨E,o,p,l⟩:=kH s (i:=0) Ey Ey;obtain⟨v,W,Co,U⟩:=PY (xs:=[2,2,3,4]) (lo:=2) (hi:=4) Ey (i:=E%4) (eA _ Ey) (dL _ p4);refine⟨_,Fc,_,Fc,_,Fc,Ey,_,Fc,_,l,p4,_,U,u,12,v.toNat,1,?_,s,Ey,Ey,Ez,λvs a=>⟨aF Fc,h fs vs ⟨Ez,Ez,?_,n,?_,?_,?_⟩⟩⟩
  ·rw[show((v.toNat:Nat):Int)=v by lia];rfl
  ·rw[b,t,uj];exact y
  ·have:=a.1;lia
  ·have:=a.1;lia
  ·have:=a.1;rw[this];exact a
def Rg:dS P w K mg base hX 1 ma qd ["_law_form_here","_law_bits"] (cG K Xn):=by
 refine mB T.D_53.F Tz λhr nd ds Q h=>?_;obtain⟨fs,an,bs,n,rfl,F,U,hn,h⟩:=h;refine⟨_,(aQ (so 2 nd aL)
 (aQ (sf (kN (aA (cB gQ (aA (bD aX cA (aH 0) aK) aL) bY T.b_len eZ) aL) (λh=>jP Fc T.b_range h)) (dH (pn 3 nd))
 (aQ (ss 4 nd (bD aX cA (bD aX cA (bD aX cA (aH 0) aK) (aH 3)) aK))
 (bC (gT (dN jI mP (cJ gK oY (bD aX cA (aH 1) (aH 3)) aK) aK)
 (bC (mN (i:=2) (pv 2) pJ (pb:=λh=>jJ (kJ bT dE dD iF (pv 2) h))))
 (bC (mN (i:=2) (pv 2) (bD aX cA (aH 4) (cJ gK oY (cJ lL oY (bD aX cA (aH 1) (aH 3)) aK) (cB gQ (aA (aH 4) aL) bY T.b_len eZ))) (pb:=λh=>jJ (kJ bT dE dD iF (pv 2) h))))))))
 (lX 2 (bC (cR (cY pZ (aA (aH 2) aL) jF T.b_tuple kG)))))),?_⟩
 show gI _ _ _ [.val (dW fs an),.val (.list (bs.map aP)),.un,.un,.un];have n5:=F.n5;refine lJ [] Ey (λq e=>e) ?_
 refine hV (ts:=eK fs.length) (λR h=>⟨_,Fc,_,Fc,_,Fc,by rw[aC];lia,by rw[aC];lia,by simpa using h⟩)
  (λk σ=>∃(a:List D)(s3 M:Sl),σ=[.val (dW fs an),.val (.list (bs.map aP)),.own a,s3,M]/\a.length=k/\∀(j:Nat) f c,fs[j]?=some f->a[j]?=some c->XA f c=true)
  ⟨[],_,_,Fc,Fc,λj f c _ s=>by simp at s⟩ (λk x S hx E=>?_) λS E=>?_
 ·obtain⟨hk,rfl⟩:=iC hx;obtain⟨a,s3,M,rfl,d,p⟩:=E;obtain⟨b,W,Dw,r⟩:=kH U (i:=(k:Int)) Ez Ez;have u:fs[k]?=some fs[k]:=aD hk;have J:fs[k]∈fs:=fK hk;obtain⟨v2,v5,oD⟩:=F.vs _ J;have H:L2.atI (fs.map kI) (k:Int)=some (kI fs[k]):=L2.fC (by rw[aI,u];rfl)
  have o:∀c:D,XA fs[k] c=true->∀(j:Nat) f v,fs[j]?=some f->(a++[c])[j]?=some v->XA f v=true:=λc s j f v y g=>by
   by_cases hj:j<a.length
   ·rw[eB hj]at g;exact p j f v y g
   ·rw[eJ Ez]at g
    have:j=k:=by
     cases q:j-a.length with
     |zero=>lia
     |succ m=>rw[q]at g;simp at g
    subst this;rw[u]at y;cases y;rw[d,aM4]at g;simp at g;rw[<- g];exact s
  refine cL (.tuple (fs[k].2.map aV)) (λq e=>⟨_,Fc,_,Fc,_,Fc,_,H,_,Fc,e⟩) ?_;refine mZ (λb=>True) (λq e=>⟨_,Fc,_,Fc,_,r,(show(0:Int)<6 by decide),e _ trivial⟩) (λ_=>?_) λ_=>?_
  ·refine nY (ts:=a) .none Fc Ez (λq e=>e) ⟨a++[.none],_,_,Fc,by rw[bH,d];rfl,o .none Fc⟩
  ·have l:(0:Int)<((fs[k].2.map aV).length:Int):=by rw[aC];lia
   obtain⟨c,s,t,_⟩:=oP (xs:=fs[k].2.map aV) (i:=b / 6%((fs[k].2.map aV).length:Int)) (eA _ Ez) (dL _ l);obtain⟨z,hz,rfl⟩:=aR.mp s;refine nY (ts:=a) (.str z) Fc Ez (λq e=>⟨_,Fc,_,Fc,_,Fc,_,r,⟨Ey,Ey⟩,_,Fc,l,_,t,e⟩) ⟨a++[.str z],_,_,Fc,by rw[bH,d];rfl,o (.str z) (a8 hz)⟩
 ·obtain⟨a,s3,M,rfl,d,p⟩:=E;rw[gZ]at d;exact⟨_,Fc,_,Fc,h a (aAq d p)⟩
def Rh:dS P w K mg base hX 2 md qe ["_law_form_here","_law_bits"] (cG K Xo):=by
 refine mB T.D_54.F TC λhr nd ds Q h=>?_;obtain⟨fs,an,bs,n,rfl,F,hb,hn,h⟩:=h;refine⟨_,(aQ (ss 2 nd (cd (Rg T) T.D_53 hr (aA (aH 0) (aA (aH 1) aL))))
 (aQ (ss 3 nd (bD aX cA (aH 1) aK))
 (aQ (gT (dN oG lE (cJ gK oY (bD aX cA (aH 1) aK) aK) aK)
 (aQ (ss 3 nd (cJ gK oY (cJ lL oY (bD aX cA (aH 1) aK) aK) aK))
 (bC (sf (kN (aA (cB gQ (aA (aH 2) aL) bY T.b_len eZ) aL) (λh=>jP Fc T.b_range h)) (dH (pn 4 nd))
 (bC (gT (dN P3 UC (bD aX cA (aH 2) (aH 4)) pJ)
 (bC (ss 3 nd (cJ cZ gU (aH 3) (cJ fV lN (xM (bD aX cA (bD aX cA (bD aX cA (aH 0) aK) (aH 4)) aK) (aA (bD aX cA (aH 2) (aH 4)) aL) (λh W=>kJ mF mE mD (xF hr) h W)) (cJ cZ gU (aH 4) aK)))))
 fM)))))
 fM)
 (bC (cR (eM (aA (aH 2) (aA (bD aX cA (bD aX cA (aH 0) aK) (cJ gK oY (aH 3) (cB gQ (aA (bD aX cA (aH 0) aK) aL) bY T.b_len eZ))) aL)))))))),?_⟩
 show gI _ _ _ [.val (dW fs an),.val (.list (bs.map aP)),.un,.un,.un];have n5:=F.n5;obtain⟨b6,Dq,Dr,Ay⟩:=kH hb (i:=6) Ey Ez;obtain⟨b7,Ds,Dt,v⟩:=kH hb (i:=7) Ey Ez;refine iA (λd=>∃c,lO fs (.tuple c)=true/\d=.tuple c) (λq f=>⟨_,Fc,_,Fc,fs,an,bs,n,Fc,F,hb,hn,λc M=>f _ ⟨c,M,Fc⟩⟩) ?_;rintro _ ⟨c,M,rfl⟩;obtain⟨sj,yc⟩:=uG M;refine cL (.int b6) (λq f=>⟨_,Fc,_,Ay,f⟩) ?_
 have g:∀(x:Int)s,s[0]?=some (.val (dW fs an))->s[2]?=some (.val (.tuple c))->s[3]?=some (.val (.int x)) ->
   sV (Hc (qA (AD 2) (qA (KI Fu (KI Fu (AD 0) (eC (.int 1))) (KI (fI (λ_ j=>0<j) λi j=>i%j) (AD 3) (nM (f1 Hr) (qA (KI Fu (AD 0) (eC (.int 1))) J7)))) J7))) { nx:=λ_=>Q .none,rt:=Q } s:=λx s e0 u e3=>by
  have l:(0:Int)<((an.map aV).length:Int):=by rw[aC];have:=F.a2;lia
  obtain⟨a,W,Ax,_⟩:=oP (xs:=an.map aV) (i:=x%((an.map aV).length:Int)) (eA _ Ez) (dL _ l);obtain⟨y,hy,rfl⟩:=aR.mp W;exact⟨_,u,_,e0,_,Fc,_,e3,_,e0,_,Fc,l,_,Ax,aF Fc,h c y M hy⟩
 refine fW (λ_=>True) (λq f=>⟨_,Fc,_,v,(show(0:Int)<3 by decide),f _ trivial⟩) (λ_=>?_) λ_=>?_
 ·refine cL (.int (b7 / 3%2)) (λq f=>⟨_,Fc,_,v,⟨Ey,Ey⟩,(show(0:Int)<2 by decide),f⟩) ?_
  refine JS (ts:=eK c.length) (λR h=>⟨_,Fc,_,Fc,Ez,Ez,by simpa using h⟩)
   (λk s=>∃(x:Int)(s4:Sl),s=[.val (dW fs an),.val (.list (bs.map aP)),.val (.tuple c),.val (.int x),s4]) ⟨_,_,Fc⟩ (λk x bi hx U=>?_) λbi U=>?_
  ·obtain⟨hk,rfl⟩:=iC hx;obtain⟨x,s4,rfl⟩:=U;have r:k<fs.length:=by lia
   have o:L2.atI c (k:Int)=some c[k]:=L2.fC (aD hk);have E:L2.atI (fs.map kI) (k:Int)=some (kI fs[k]):=L2.fC (by rw[aI,aD r];rfl);have S:=yc k fs[k] c[k] (aD r) (aD hk);refine mZ (λb=>b=!pW c[k]) (λq f=>⟨_,Fc,_,Fc,_,o,f _ Fc⟩) (λhT=>?_) λ_=>⟨_,_,Fc⟩
   cases e:c[k]with
   |str z=>
    rw[e]at S o;have hz:z∈fs[k].2:=b8 S;have p:fs[k]∈fs:=fK r;obtain⟨v2,v5,oD⟩:=F.vs _ p;have J:fs[k].2.idxOf z<fs[k].2.length:=gB.mpr hz;obtain⟨_,_,_,_,d5,d6⟩:=tG (wR (F.vals p) (aN 8) (m:=0))
    have sy:LH (fs[k].2.map aV) (.str z) (fs[k].2.idxOf z):=by
     refine⟨d6,(nX (F.vals p z hz) (aN 8) (m:=0)).lay,Ez,⟨.str z,?_,?_⟩,λm t hm H=>?_⟩
     ·rw[aI,aD J,jN J];rfl
     ·show(z==z)=true;simp
     ·rw[aI]at H
      cases u:fs[k].2[m]? with
      |none=>rw[u]at H;cases H
      |some y=>
       rw[u]at H;cases H;show(y==z)=false;have Ee:m<fs[k].2.length:=(aE.mp u).1
       have:y≠z:=λq=>by
        subst q;exact A8 hm u
       simpa using this
    refine mI (.int (x+(fs[k].2.idxOf z:Int)*((k:Int)+1))) (λq f=>⟨_,Fc,_,Fc,_,Fc,_,Fc,_,E,_,Fc,_,Fc,_,Fc,_,Fc,_,o,_,_,Fc,sy,_,Fc,.inr ⟨Ez,Ez⟩,f⟩) ⟨_,_,Fc⟩
   |none=>rw[e]at hT;cases hT
   |_=>rw[e]at S;cases S
  ·obtain⟨x,s4,rfl⟩:=U;exact g x _ Fc Fc Fc
 ·exact g b6 _ Fc Fc Fc
def Lc:dS P w K mg base hX 1 mi qi ["_law_form_here","_law_question","_law_stray","_law_case_here"] (cG K Wo):=by
 refine mB T.D_59.F Ud λhr nd ds Q h=>?_;obtain⟨fs,an,k,n,v,st,o,rfl,F,d,Ei,hc,h⟩:=h;refine⟨_,(aQ (NG (aH 1) (rD (lC Fc (dQ (pn 4 nd) (dQ (pn 5 nd) (dQ (pn 6 nd) jS))))) (λhe hg=>tW he hg))
 (aQ (sf (kN (aA (cB gQ (aA (aH 3) aL) bY T.b_len eZ) aL) (λh=>jP Fc T.b_range h)) (dH (pn 7 nd))
 (bC (gT (dN jI mP (bD aX cA (bD aX cA (bD aX cA (aH 0) aK) (aH 7)) aK) (aH 5))
 (aQ (ss 8 nd (bD aX cA (bD aX cA (bD aX cA (aH 0) aK) (aH 7)) aK))
 (aQ (gT (dN B1 I0 (bD aX cA (aH 3) (aH 7)) pJ)
 (bC (cR (aH 2)))
 fM)
 (aQ (gT (dN jI mP (aH 4) eN)
 (bC (cR (bD aX cA (kF (aA eN (aA eN aL))) (sC (lP jI mP (bD aX cA (aH 3) (aH 7)) (aH 6)) (λh=>gH nV Fc T.b_int wG h)))))
 fM)
 (bC (cR (bD aX cA (kF (aA eN (aA eN aL))) (sC (lP D7 lE (xM (aH 8) (aA (bD aX cA (aH 3) (aH 7)) aL) (λh U=>kJ mF mE mD (xF hr) h U)) (xM (aH 8) (aA (aH 6) aL) (λh U=>kJ mF mE mD (xF hr) h U))) (λh=>gH nV Fc T.b_int wG h))))))))
 fM)))
 (bC (cR eN)))),?_⟩
 show gI _ _ _ [.val (dW fs an),.val (.tuple [.str k,.str n,.str v]),.val (.str st),.val (.tuple o),.un,.un,.un,.un,.un];obtain⟨W,yc⟩:=uG hc;have n5:=F.n5;obtain⟨f0,s,u,Cn,vx⟩:=A5 d;refine IK (a:=.str k) (b:=.str n) (c:=.str v) (λq d=>⟨_,Fc,d⟩) ?_
 refine hV (ts:=eK o.length) (λR h=>⟨_,Fc,_,Fc,Ez,Ez,by simpa using h⟩)
  (λm σ=>∃s7 s8:Sl,σ=[.val (dW fs an),.val (.tuple [.str k,.str n,.str v]),.val (.str st),.val (.tuple o),.val (.str k),.val (.str n),.val (.str v),s7,s8]/\∀(j:Nat) f,j<m->fs[j]?=some f->f.1≠n) ⟨_,_,Fc,λj f E=>by lia⟩ (λm x bi hx S=>?_) λbi S=>?_
 ·obtain⟨hm,rfl⟩:=iC hx;obtain⟨s7,s8,rfl,H⟩:=S;have y:m<fs.length:=by lia
  have l:fs[m]?=some fs[m]:=aD y;have p:o[m]?=some o[m]:=aD hm;have t:L2.atI (fs.map kI) (m:Int)=some (kI fs[m]):=L2.fC (by rw[aI,l];rfl);have i:L2.atI o (m:Int)=some o[m]:=L2.fC p;have r:fs[m]∈fs:=fK y;have hok:=yc m _ _ l p;refine mZ (λb=>b=decide (fs[m].1=n)) (λq d=>⟨_,Fc,_,Fc,_,Fc,_,t,_,Fc,_,Fc,d _ Fc⟩) (λhT=>?_) λhF=>?_
  ·have en:fs[m].1=n:=b8 hT.symm;rw[tT F l p en]at h;have Bi:fs[m]=f0:=UT F s r (en.trans u.symm)
   generalize ej:o[m]=c at i hok h
   refine cL (.tuple (fs[m].2.map aV)) (λq d=>⟨_,Fc,_,Fc,_,Fc,_,t,_,Fc,d⟩) ?_;refine fW (λb=>b=pW c) (λq d=>⟨_,Fc,_,Fc,_,i,d _ Fc⟩) (λM=>?_) λM=>?_
   ·cases c with
    |none=>exact⟨_,Fc,h⟩
    |_=>cases M
   ·try unfold jD
    dsimp only
    cases c with
    |none=>cases M
    |str z=>
     have hz:z∈fs[m].2:=b8 hok;have g:Q (.str (if k="is" then(if z=v then "yes" else "no")else if fs[m].2.idxOf z<=fs[m].2.idxOf v then "yes" else "no")):=h;refine fW (λb=>b=decide (k="is")) (λq d=>⟨_,Fc,d _ Fc⟩) (λJ=>?_) λJ=>?_
     ·rw[a7 (b8 J.symm)]at g;refine⟨Fb,_,Fc,_,Fc,_,i,_,Fc,_,WO (decide (z=v)),?_⟩;by_cases e:z=v
      ·rw[a7 e]at g;rw[a8 e];exact g
      ·rw[a6 e]at g;rw[c4 e];exact g
     ·try unfold jD
      dsimp only;rw[a6 (j5 J.symm)]at g;have i1:=uU (F.vals r) hz;have i2:=uU (F.vals r) (z:=v) (by rw[Bi];exact Cn);refine⟨Fb,_,Fc,_,Fc,_,Fc,_,Fc,_,i,_,_,Fc,i1,_,Fc,_,Fc,_,Fc,_,_,Fc,i2,_,WO (decide ((fs[m].2.idxOf z:Int)<=(fs[m].2.idxOf v:Int))),?_⟩;by_cases e:fs[m].2.idxOf z<=fs[m].2.idxOf v
      ·rw[a7 e]at g;rw[a8 Ez];exact g
      ·rw[a6 e]at g;rw[c4 Ez];exact g
    |_=>cases hok
  ·refine⟨_,_,Fc,λj f E hf=>?_⟩;by_cases z:j<m
   ·exact H j f z hf
   ·have:j=m:=by lia
    subst this;rw[l]at hf;cases hf;exact j5 hF.symm
 ·obtain⟨s7,s8,rfl,H⟩:=S;rw[gZ,W]at H;obtain⟨j,E⟩:=bP s;exact a9 u (H j f0 (aE.mp E).1 E)
def Ri:dS P w K mg base hX 3 me qf ["_law_script","_law_form_here","_law_many"] (cG K Xp):=by
 refine mB T.D_55.F TZ λd nd M Q h=>?_;obtain⟨ns,fs,an,n,rfl,u,F,S,h⟩:=h;refine⟨_,(bC (cR (el (fr:=[none,some 1,some 0]) (N':=["_law_k","_law_form_here","_law_script"]) (kN (aA (aH 2) aL) (λh=>jP Fc T.b_range h)) (λb=>⟨(dH (pk 0)),iT,(cd (Rh T) T.D_54 d (aA (aH 1) (aA (rE (cF (D8 T) T.D_50 d (aA (cd (IW T) T.D_49 d (aA (aH 2) (aA (cJ cZ gU aK (aH 0)) aL))) (aA aK aL)))) aL)))⟩)))),?_⟩;refine B6 (ts:=eK n) (λR h=>⟨_,Fc,_,Fc,Ez,Ez,by simpa using h⟩) (λ_ _ y=>∃r:List D×Str,WT fs an r/\y=dP r) (by rw[gZ];lia) (λk x q hx v=>?_) λc e E=>?_
 ·obtain⟨hk,rfl⟩:=iC hx;refine⟨_,Fc,_,Fc,_,Fc,ns,7+(k:Int),Fc,u,Ez,Ez,λr=>⟨r,9,Fc,Ey,λbs s=>⟨fs,an,bs,9,Fc,F,s,Ey,λm a t p=>v _ ⟨(m,a),⟨t,p⟩,Fc⟩⟩⟩⟩
 ·rw[gZ]at e
  have all:∀c:List D,(∀y∈c,∃r:List D×Str,WT fs an r/\y=dP r)->∃f:List (List D×Str),gF fs an f/\f.length=c.length/\c=f.map dP:=λc=>by
   induction c with
   |nil=>exactλ_=>⟨[],λr d=>by simp at d,Fc,Fc⟩
   |cons y c J=>
    intro h;obtain⟨r,d,rfl⟩:=h y (aU ..);obtain⟨f,g,l,o⟩:=J λz H=>h z (aO _ H);refine⟨r::f,λx hx=>?_,by simp[l],by rw[o];rfl⟩;rcases aY.mp hx with rfl | hx
    ·exact d
    ·exact g x hx
  obtain⟨f,g,l,rfl⟩:=all c λy j=>by
   obtain⟨k,hk⟩:=bP j;have i:k<n:=by rw[<- e];exact(aE.mp hk).1
   exact E k _ y (aD (by rw[gZ];exact i)) hk
  exact h f g (by rw[<- e,aC])
def NY:dS P w K mg base hX 1 mm ql ["_law_form_here"] (cG K Wr):=by
 refine mB T.D_62.F Ug λhr nd ds Q h=>?_;obtain⟨fs,an,rfl,F,h⟩:=h;refine⟨_,(aQ (so 1 nd aL)
 (aQ (sf (eW (bD aX cA (aH 0) aK)) (nZ (lC Fc (dQ (pn 2 nd) (dQ (pn 3 nd) jS))))
 (aQ (sf (eW (jW mX xD (aH 3) mY (jT (bD aX cA (kF (aA (cB gQ (aA (aH 3) aL) bY T.b_len eZ) (aA aK aL))) (sC (lP jI mP (cB gQ (aA (aH 3) aL) bY T.b_len eZ) aK) (λh=>gH nV Fc T.b_int wG h)))))) (dH (pn 4 nd))
 (bC (mN (i:=1) (pv 1) (eM (aA eN (aA (aH 2) (aA (aH 4) aL)))) (pb:=λh=>jJ (kJ bT dE dD iF (pv 1) h)))))
 (bC (sf (kN (aA (cB gQ (aA (aH 3) aL) bY T.b_len eZ) aL) (λh=>jP Fc T.b_range h)) (dH (pn 5 nd))
 (bC (gT (HU zP zP lE lE aK (aH 5) (cJ mO vW (cB gQ (aA (aH 3) aL) bY T.b_len eZ) aK))
 (bC (mN (i:=1) (pv 1) (eM (aA eN (aA (aH 2) (aA (bD aX cA (aH 3) (aH 5)) aL)))) (pb:=λh=>jJ (kJ bT dE dD iF (pv 1) h))))
 fM))))))
 (lX 1 (bC (cR (aH 1)))))),?_⟩
 show gI _ _ _ [.val (dW fs an),.un,.un,.un,.un,.un];have n5:=F.n5;refine lJ [] Ey (λq l=>l) ?_
 refine hV (ts:=fs.map kI) (λR h=>⟨_,Fc,_,Fc,_,Fc,h⟩)
  (λk r=>∃E s3 c d:Sl,r=[.val (dW fs an),.own (eO (fs.take k)),E,s3,c,d]) ⟨_,_,_,_,Fc⟩ (λk x b o a=>?_) λb a=>?_
 ·obtain⟨E,s3,c,d,rfl⟩:=a;rw[aI]at o;obtain⟨f,p,rfl⟩:=bU.mp o;have W:f∈fs:=aS p;obtain⟨v2,v5,oD⟩:=F.vs f W;have U:=iY F (fs.take k) λg hg=>dY hg;have vz:(fs.take k).length<=5:=by rw[aZ];lia
  refine⟨_,_,Fc,?_⟩
  refine hV (ts:=(pR f).map aV) (λR h=>?_)
   (λj r=>∃c:Sl,r=[.val (dW fs an),.own (eO (fs.take k)++((pR f).take j).map (EB "is" f)),.val (.str f.1),.val (.tuple (f.2.map aV)),c,d]) ⟨c,by rw[List.take_zero,lW,fS];rfl⟩ (λj x b o a=>?_) λb a=>?_
  ·have n:∃m:Nat,L2.atI [aP ((f.2.map aV).length:Int),.int 1] (if decide (((f.2.map aV).length:Int)=2)then 1 else 0)=some (.int (m:Int))/\f.2.take m=pR f:=by
    rw[aC];unfold pR;by_cases H:f.2.length=2
    ·rw[a7 (a8 Ez),a7 H];exact⟨1,Fc,Fc⟩
    ·rw[a6 (by simpa using(by lia:¬(f.2.length:Int)=2)),a6 H];exact⟨f.2.length,Fc,dA⟩
   obtain⟨m,n,hm⟩:=n;refine⟨_,Fc,_,Fc,aF Fc,_,Fc,_,n,_,Fc,?_⟩;rw[oA,oN,hm];exact h
  ·obtain⟨c,rfl⟩:=a;rw[aI]at o;obtain⟨z,s,rfl⟩:=bU.mp o;have y:=(aE.mp s).1
   have:(pR f).length<=5:=by
    unfold pR;split
    ·rw[aZ];lia
    ·lia
   refine nY (ts:=eO (fs.take k)++((pR f).take j).map (EB "is" f)) (EB "is" f z) Fc (by rw[bH,aC,aZ];lia) (λq l=>⟨_,Fc,_,Fc,aF Fc,l⟩) ⟨.val (.str z),?_⟩;rw[cU,s,bB,jZ];rfl
  ·obtain⟨c,rfl⟩:=a;rw[aC,dA]
   have kA:(pR f).length<=5:=by
    unfold pR;split
    ·rw[aZ];lia
    ·lia
   refine JS (ts:=eK f.2.length) (λR h=>⟨_,Fc,_,Fc,by rw[aC];lia,by rw[aC];lia,by simpa using h⟩)
    (λj r=>∃d:Sl,r=[.val (dW fs an),.own (eO (fs.take k)++(pR f).map (EB "is" f)++(((f.2.take j).drop 1).take (f.2.length-3)).map (EB "upto" f)),.val (.str f.1),.val (.tuple (f.2.map aV)),c,d]) ⟨d,Fa⟩ (λj x b o a=>?_) λb a=>?_
   ·obtain⟨y,rfl⟩:=iC o;obtain⟨d,rfl⟩:=a;have s:L2.atI (f.2.map aV) (j:Int)=some (.str f.2[j]):=L2.fC (by rw[aI,aD y];rfl);rw[UW y,bB];refine mZ (λt=>t=decide (0<j/\j+2<f.2.length)) (λq l=>?_) (λS=>?_) λM=>?_
    ·refine⟨_,Fc,?_⟩;show(if decide ((0:Int)<(j:Int))=true then _ else _);by_cases J:0<j
     ·rw[a7 (a8 Ez)];refine⟨_,Fc,l _ ?_⟩;show decide ((j:Int)<((f.2.map aV).length:Int)-2)=_;rw[aC,ay];lia
     ·rw[a6 (by simpa using(by lia:j=0))];exact l _ (c4 λz=>J z.1).symm
    ·have v:0<j/\j+2<f.2.length:=b8 S.symm;rw[a7 v];refine nY (ts:=eO (fs.take k)++(pR f).map (EB "is" f)++(((f.2.take j).drop 1).take (f.2.length-3)).map (EB "upto" f)) (EB "upto" f f.2[j]) Fc (by simp only[bH,aC,aZ,gA];lia) (λq l=>⟨_,Fc,_,Fc,_,Fc,_,s,aF Fc,l⟩) ⟨.val (.int j),?_⟩;rw[<- jZ];rfl
    ·have u:¬(0<j/\j+2<f.2.length):=j5 M.symm;rw[a6 u];exact⟨.val (.int j),by rw[lW,fS];rfl⟩
   ·obtain⟨d,rfl⟩:=a;rw[gZ,dA];refine⟨.val (.str f.1),.val (.tuple (f.2.map aV)),c,d,?_⟩
    have e:eO (fs.take (k+1))=eO (fs.take k)++((pR f).map (EB "is" f)++(BV f).map (EB "upto" f)):=by
     unfold eO;rw[cU,p,bB,RG];show _++[IN f].flatten=_;rw[KP];rfl
    rw[e,jZ];rfl
 ·obtain⟨E,s3,c,d,rfl⟩:=a;rw[aC,dA];exact⟨_,Fc,_,Fc,h⟩
def Mi:dS P w K mg base hX 1 mf qg ["_law_numbers"] (cG K Wl):=by
 refine mB T.D_56.F Ua λa nd b Q h=>?_;obtain⟨rfl,h⟩:=h;refine⟨_,(PD a (pv 0) (TY bT HG HF UU (pv 0))),?_⟩;exact⟨Fc,h⟩
def Rj:dS P w K mg base hX 1 mh qh ["_law_form_here","_law_number"] (cG K Wm):=by
 refine mB T.D_57.F Ub λhr nd U Q h=>?_;obtain⟨fs,an,n,rfl,F,hn,h⟩:=h;refine⟨_,(aQ (BL (g:=λ_ _ _ _=>True) (bD aX cA (bD aX cA (aH 0) aK) (cJ gK oY (aH 1) (cB gQ (aA (bD aX cA (aH 0) aK) aL) bY T.b_len eZ))) (nZ (lC Fc (dQ (pn 2 nd) (dQ (pn 3 nd) jS)))) (λH J=>tW H J))
 (aQ (ss 4 nd (bD aX cA (kF (aA eN (aA eN aL))) (cJ gK oY (cJ lL oY (aH 1) aK) aK)))
 (bC (cR (eM (aA (aH 4) (aA (aH 2) (aA (bD aX cA (aH 3) (cJ gK oY (cJ lL oY (aH 1) aK) (cJ mO vW (cB gQ (aA (aH 3) aL) bY T.b_len eZ) (sC (lP jI mP (aH 4) eN) (λh=>gH nV Fc T.b_int wG h))))) aL)))))))),?_⟩
 show gI _ _ _ [.val (dW fs an),.val (.int n),.un,.un,.un];have n1:=F.n1;have e:(0:Int)<((fs.map kI).length:Int):=by rw[aC];lia
 obtain⟨W,s,r,_⟩:=oP (xs:=fs.map kI) (i:=n%((fs.map kI).length:Int)) (eA _ Ez) (dL _ e);obtain⟨f,p,rfl⟩:=aR.mp s;obtain⟨v2,v5,R⟩:=F.vs f p;refine AW (a:=.str f.1) (b:=.tuple (f.2.map aV)) (λq x=>⟨_,Fc,_,Fc,_,Fc,_,Fc,_,Fc,e,_,r,x⟩) ?_;obtain⟨S,l,u,_⟩:=oP (xs:=[aV "is",.str "upto"]) (i:=n / 5%2) (eA _ Ey) (dL _ Ey);refine cL S (λq x=>⟨aF Fc,_,Fc,⟨Ey,Ey⟩,(show(0:Int)<2 by decide),_,u,x⟩) ?_;have hl:((f.2.map aV).length:Int)=(f.2.length:Int):=by rw[aC]
 have PY:∀m:Int,0<m->m<=(f.2.length:Int)->∃z,L2.atI (f.2.map aV) (n / 10%m)=some (.str z)/\∃j:Nat,f.2[j]?=some z/\(j:Int)<m:=λm E h1=>by
  have a0:0<=n / 10%m:=eA _ Ez;have a1:n / 10%m<m:=dL _ E;obtain⟨j,d⟩:∃j:Nat,n / 10%m=(j:Int):=⟨(n / 10%m).toNat,Ez⟩;rw[d]at a1 |-
  have k:j<f.2.length:=by lia
  exact⟨f.2[j],L2.fC (by rw[aI,aD k];rfl),j,aD k,a1⟩
 simp only[aY,dR,j3]at l;rcases l with rfl | rfl
 ·obtain⟨z,y,j,d,t⟩:=PY (((f.2.map aV).length:Int)-0) Ez Ez;have c:z∈f.2:=aS d;refine⟨_,Fc,_,Fc,_,Fc,_,Fc,⟨Ey,Ey⟩,_,Fc,_,Fc,?_⟩;have o:(if decide (("is":Str)="upto")then(1:Int)else 0)=0:=by rw[a6 Ex]
  show(0:Int)<((f.2.map aV).length:Int)-(if decide (("is":Str)="upto")then(1:Int)else 0)/\_;rw[o];refine⟨Ez,_,y,aF Fc,h "is" f.1 z (GE p ?_)⟩;show(decide (z∈f.2)&&(decide (("is":Str)="is")||_))=true;rw[a8 c];rfl
 ·obtain⟨z,y,j,d,t⟩:=PY (((f.2.map aV).length:Int)-1) Ez Ez;have c:z∈f.2:=aS d;have M:=LZ d;refine⟨_,Fc,_,Fc,_,Fc,_,Fc,⟨Ey,Ey⟩,_,Fc,_,Fc,?_⟩;have o:(if decide (("upto":Str)="upto")then(1:Int)else 0)=1:=by rw[a7 (a8 Fc)]
  show(0:Int)<((f.2.map aV).length:Int)-(if decide (("upto":Str)="upto")then(1:Int)else 0)/\_;rw[o];refine⟨Ez,_,y,aF Fc,h "upto" f.1 z (GE p ?_)⟩;show(decide (z∈f.2)&&(decide (("upto":Str)="is")||(decide (("upto":Str)="upto")&&decide (f.2.idxOf z+1<f.2.length))))=true;have v:f.2.idxOf z+1<f.2.length:=by lia
  rw[a8 c,a8 v,a8 (rfl:("upto":Str)="upto")];simp
def X5(p:Nat)
  (c:dS P w K mg base hX (2+p) O gm ["_law_form_here","_law_numbers","_law_deep_here"] (cG K (tL p))):dS P w K mg base hX (2+p+1) O gm ["_law_form_here","_law_numbers","_law_deep_here"] (cG K (tL (p+1))):=by
 refine mB T.D_58.F Uc λl nd ds Q h=>?_;obtain⟨fs,an,n,rfl,F,hn,h⟩:=h;refine⟨_,(aQ (ss 3 nd (cd (hk:=by lia) (Mi T) T.D_56 l (aA (aH 1) aL)))
 (aQ (gT (qR (oC (dN jI mP (aH 2) aK) (rS (dN jI mP (cJ gK oY (aH 3) aK) aK))))
 (bC (cR (eM (aA eN (aA (bD aX cA (bD aX cA (aH 0) aK) (cJ gK oY (cJ lL oY (aH 3) aK) (cB gQ (aA (bD aX cA (aH 0) aK) aL) bY T.b_len eZ))) aL)))))
 fM)
 (aQ (ss 4 nd (cd (hk:=by lia) (Rj T) T.D_57 l (aA (aH 0) (aA (cd (hk:=by lia) (Mi T) T.D_56 l (aA (aH 1) aL)) aL))))
 (aQ (ss 5 nd (cd (hk:=by lia) c T.D_58 l (aA (aH 0) (aA (aH 1) (aA (cJ mO vW (aH 2) aK) aL)))))
 (bC (cR (eM (aA eN (aA (aH 4) (aA (bD aX cA (kF (aA eN (aA eN aL))) (cJ gK oY (cJ lL oY (aH 3) aK) aK)) (aA (aH 5) (aA (cd (hk:=by lia) c T.D_58 l (aA (aH 0) (aA (aH 1) (aA (cJ mO vW (aH 2) aK) aL)))) aL)))))))))))),?_⟩
 show gI _ _ _ [.val (dW fs an),.val (.dict []),.val (.int n),.un,.un,.un];have a2:=F.a2;refine iA (λd=>∃m:Int,d=.int m/\0<=m/\m<4096) (λq f=>⟨_,Fc,Fc,λm r g=>f _ ⟨m,Fc,r,g⟩⟩) ?_;rintro _ ⟨m,rfl,m0,m1⟩;refine fW (λb=>b=false->0<n) (λq f=>?_) (λ_=>?_) λS=>?_
 ·refine⟨_,Fc,?_⟩;show(if decide ((n:Int)=0)=true then _ else _);by_cases e:n=0
  ·rw[a7 (a8 Ez)];exact f _ λz=>by cases z
  ·rw[a6 (by simpa using e)];exact⟨_,Fc,(show(0:Int)<4 by decide),f _ λ_=>by lia⟩
 ·have M:(0:Int)<((an.map aV).length:Int):=by rw[aC];lia
  obtain⟨ad,y,x,_⟩:=oP (xs:=an.map aV) (i:=m / 4%((an.map aV).length:Int)) (eA _ Ez) (dL _ M);obtain⟨a,U,rfl⟩:=aR.mp y;exact⟨_,Fc,_,Fc,_,Fc,⟨Ey,Ey⟩,_,Fc,_,Fc,M,_,x,aF Fc,h (.say a) U (cI _)⟩
 have R:0<n:=S Fc
 try unfold jD
 dsimp only;refine iA (λd=>∃k nm v:Str,d=.tuple [.str k,.str nm,.str v]/\QJ fs (.tuple [.str k,.str nm,.str v])=true) (λq f=>⟨_,Fc,_,Fc,Fc,λj r g=>⟨fs,an,j,Fc,F,r,λk nm v hk=>f _ ⟨k,nm,v,Fc,hk⟩⟩⟩) ?_;rintro _ ⟨k,nm,v,rfl,hk⟩
 have H:[dW fs an,KN [],.int ((n:Int)-1)]=[dW fs an,.dict [],.int ((n-1:Nat):Int)]:=by
  have:(n:Int)-1=((n-1:Nat):Int):=by lia
  rw[this]
 refine iA (λd=>∃t:Tr,d=jG t/\lQ fs an t/\t.dep<=n-1) (λq f=>⟨_,Fc,_,Fc,_,Fc,fs,an,n-1,H,F,Ez,λt g J=>f _ ⟨t,Fc,g,J⟩⟩) ?_;rintro _ ⟨t,rfl,W,yx⟩;obtain⟨sd,o,E,_⟩:=oP (xs:=[aV "yes",.str "no"]) (i:=m / 4%2) (eA _ Ey) (dL _ Ey)
 obtain⟨s,rfl,hs⟩:∃s:Str,sd=.str s/\(s="yes"\/s="no"):=by
  simp only[aY,dR,j3]at o;rcases o with rfl | rfl
  ·exact⟨_,Fc,.inl Fc⟩
  ·exact⟨_,Fc,.inr Fc⟩
 refine⟨_,Fc,aF Fc,_,Fc,⟨Ey,Ey⟩,(show(0:Int)<2 by decide),_,E,_,Fc,_,Fc,_,Fc,_,Fc,fs,an,n-1,H,F,Ez,λu g J=>⟨aF Fc,h (.ask k nm v s t u) ⟨hk,hs,W,g⟩ ?_⟩⟩;show max t.dep u.dep+1<=n;lia
def Rk:dS P w K mg base hX 6 O gm ["_law_form_here","_law_numbers","_law_deep_here"] (cG K Wn):=by
 have h:∀a:Nat,dS P w K mg base hX (2+a) O gm ["_law_form_here","_law_numbers","_law_deep_here"] (cG K (tL a)):=λa=>by
  induction a with
  |zero=>exact wA pI λc Q h=>UL h
  |succ a b=>exact X5 T a b
 exact h 4
def Rl:dS P w K mg base hX 2 mj qj ["_law_form_here","_law_tree_here","_law_case_here"] (cG K Wp):=by
 refine mB T.D_60.F Ue λp nd J Q h=>?_;obtain⟨fs,an,t,b,rfl,F,r,f,h⟩:=h;refine⟨_,(aQ (tI (dN jI mP (cB gQ (aA (aH 1) aL) bY T.b_len eZ) aK)
 (bC (ss 1 nd (bD aX cA (aH 1) (cJ cZ gU aK (sC (lP jI mP (cd (Lc T) T.D_59 p (aA (aH 0) (aA (bD aX cA (aH 1) aK) (aA (bD aX cA (aH 1) aK) (aA (aH 2) aL))))) eN) (λh=>gH nV Fc T.b_int wG h)))))) (λf l=>tV v8 f l))
 (bC (cR (bD aX cA (aH 1) aK)))),?_⟩
 show gI _ _ _ [.val (dW fs an),.val (jG t),.val (.tuple b)];refine qW (λn E=>∃u:Tr,E=[.val (dW fs an),.val (jG u),.val (.tuple b)]/\n=u.kn/\lQ fs an u/\pK fs u b=pK fs t b) t.kn ⟨t,Fc,Fc,r,Fc⟩ λn H j=>?_;obtain⟨u,rfl,R,x,i⟩:=j
 cases u with
 |say a=>
  refine⟨false,(λq c=>⟨_,Fc,c⟩),?_⟩;rw[a6 Ey];rw[<- i]at h;exact⟨_,Fc,_,Fc,h⟩
 |ask k nm v s y m=>
  obtain⟨d,hs,z,o⟩:=x;refine⟨true,(λq c=>⟨_,Fc,c⟩),?_⟩;rw[a7 rfl];have M:(Tr.ask k nm v s y m).kn=y.kn+m.kn+1:=rfl;have g:pK fs (.ask k nm v s y m) b=if fP fs k nm v s b="yes" then pK fs y b else pK fs m b:=rfl;rcases AV F d hs f with e | e
  ·rw[a7 e]at g;refine mI (jG y) (λq c=>⟨_,Fc,_,Fc,_,Fc,_,Fc,_,Fc,_,Fc,_,Fc,fs,an,k,nm,v,s,b,Fc,F,d,hs,f,?_⟩) ⟨y.kn,Ez,y,Fc,Fc,z,g▸i⟩;rw[e];exact⟨_,Fc,c⟩
  ·rw[a6 (by rw[e];decide)]at g;refine mI (jG m) (λq c=>⟨_,Fc,_,Fc,_,Fc,_,Fc,_,Fc,_,Fc,_,Fc,fs,an,k,nm,v,s,b,Fc,F,d,hs,f,?_⟩) ⟨m.kn,Ez,m,Fc,Fc,o,g▸i⟩;rw[e];exact⟨_,Fc,c⟩
def Rm:dS P w K mg base hX 1 ml qk ["_law_form_here"] (cG K Wq):=by
 refine mB T.D_61.F Uf λv nd t Q h=>?_;obtain⟨fs,an,rfl,F,h⟩:=h;refine⟨_,(aQ (ss 1 nd aK)
 (aQ (sf (eW (bD aX cA (aH 0) aK)) (dH (pn 2 nd))
 (bC (ss 1 nd (cJ fV lN (aH 1) (cJ cZ gU (cB gQ (aA (bD aX cA (aH 2) aK) aL) bY T.b_len eZ) aK)))))
 (aQ (gT (dN D7 lE (aH 1) aK)
 (bC (cR (aH 0)))
 fM)
 (bC (cR (eM (aA (jW mX xD (bD aX cA (aH 0) aK) mY (jT aK)) (aA (bD aX cA (aH 0) aK) aL)))))))),?_⟩
 show gI _ _ _ [.val (dW fs an),.un,.un];refine cL (.int ((1:Nat):Int)) (λq a=>a) ?_
 refine hV (ts:=fs.map kI) (λR h=>⟨_,Fc,_,Fc,_,Fc,h⟩)
  (λk s=>∃(z:Nat)(g:Sl),s=[.val (dW fs an),.val (.int (z:Nat)),g]/\3^k<=z/\z<=6^k) ⟨1,_,Fc,aN _,aN _⟩ (λk x i l d=>?_) λi d=>?_
 ·obtain⟨z,g,rfl,c,o⟩:=d;rw[aI]at l;obtain⟨f,j,rfl⟩:=bU.mp l;have hk:=(aE.mp j).1;have n5:=F.n5;obtain⟨E,H,_⟩:=F.vs f (aS j);have u:6^k<=6^5:=lR Ey Ez;have n:(6:Nat)^5=7776:=by decide
  have el:(((f.2.map aV).length:Nat):Int)=(f.2.length:Int):=by rw[aC]
  refine mI (.int ((z*(f.2.length+1):Nat):Int)) (λq a=>⟨_,Fc,_,Fc,_,Fc,.inl ⟨Ez,Ez⟩,?_⟩) ⟨z*(f.2.length+1),.val (kI f),Fc,?_,?_⟩
  ·show q (.int ((z:Int)*((((f.2.map aV).length:Nat):Int)+1)));rw[el,show((f.2.length:Int)+1)=((f.2.length+1:Nat):Int)from Fc,<- eI];exact a
  ·rw[uK];exact fZ c Ez
  ·rw[uK];exact fZ o Ez
 ·obtain⟨z,g,rfl,c,_⟩:=d;rw[aC]at c;refine fW (λb=>b=decide ((z:Int)<=100)) (λq a=>⟨_,Fc,a _ Fc⟩) (λp=>?_) λ_=>?_
  ·have y:(z:Int)<=100:=b8 p.symm;have n5:=F.n5;refine⟨_,Fc,h fs ⟨F.n1,F.n5,F.nd,F.vs,F.a2,F.a4,F.an,?_⟩⟩;refine aA5 λr=>?_;have m:fs.length=5:=by lia
   rw[m]at c;have:(3:Nat)^5=243:=by decide
   lia
  ·try unfold jD
   dsimp only;refine⟨_,Fc,_,Fc,_,Fc,_,Fc,Fb,?_⟩;show Q (.tuple [.tuple (lF (fs.map kI) none (some 2)),.tuple (an.map aV)])
   have e:lF (fs.map kI) none (some 2)=(fs.take 2).map kI:=by
    have:=oN (fs.map kI) 2;rw[rP];exact this
   rw[e];exact h (fs.take 2) (QR F)
def X4(d:Nat)
  (c:dS P w K mg base hX (1+d) X gn ["_law_tree_here"] (cG K (tK d))):dS P w K mg base hX (1+d+1) X gn ["_law_tree_here"] (cG K (tK (d+1))):=by
 refine mB T.D_65.F Uj λg nd n Q h=>?_;obtain⟨t,rfl,hd,o,h⟩:=h;refine⟨_,(aQ (gT (dN jI mP (cB gQ (aA (aH 0) aL) bY T.b_len eZ) aK)
 (bC (cR aK))
 fM)
 (bC (cR (cJ cZ gU aK (cB Xw (aA (cd (hk:=by lia) c T.D_65 g (aA (bD aX cA (aH 0) aK) aL)) (aA (cd (hk:=by lia) c T.D_65 g (aA (bD aX cA (aH 0) aK) aL)) aL)) (Q3 Fc) T.b_max GR))))),?_⟩
 cases t with
 |say a=>
  show gI _ _ _ [.val (jG (.say a))];refine fW (λb=>b=true) (λq f=>⟨_,Fc,f _ Fc⟩) (λ_=>?_) λj=>by cases j
  exact h
 |ask k nm v s y m=>
  show gI _ _ _ [.val (jG (.ask k nm v s y m))];have e:(Tr.ask k nm v s y m).dep=max y.dep m.dep+1:=rfl;refine fW (λb=>b=false) (λq f=>⟨_,Fc,f _ Fc⟩) (λl=>by cases l) λ_=>?_
  try unfold jD
  dsimp only;refine⟨_,Fc,_,Fc,y,Fc,Ez,Ez,_,Fc,_,Fc,m,Fc,Ez,Ez,?_⟩;show Q (.int (1+(if((m.dep:Nat):Int)>((y.dep:Nat):Int)then((m.dep:Nat):Int)else((y.dep:Nat):Int))));have i:(1+(if((m.dep:Nat):Int)>((y.dep:Nat):Int)then((m.dep:Nat):Int)else((y.dep:Nat):Int)))=(((Tr.ask k nm v s y m).dep:Nat):Int):=by rw[e];split<;>lia
  rw[i];exact h
def Ro:dS P w K mg base hX 5 X gn ["_law_tree_here"] (cG K Wu):=by
 have h:∀a:Nat,dS P w K mg base hX (1+a) X gn ["_law_tree_here"] (cG K (tK a)):=λa=>by
  induction a with
  |zero=>exact wA pI λc Q h=>UK h
  |succ a b=>exact X4 T a b
 exact h 4
def X3(i:Nat)
  (c:dS P w K mg base hX (2+i) Y gp ["_law_form_here","_law_tree_here"] (cG K (tJ i))):dS P w K mg base hX (2+i+1) Y gp ["_law_form_here","_law_tree_here"] (cG K (tJ (i+1))):=by
 refine mB T.D_66.F Uk λf nd E Q h=>?_;obtain⟨fs,an,t,d,rfl,F,l,hd,h⟩:=h;refine⟨_,(aQ (gT (dN jI mP (cB gQ (aA (aH 1) aL) bY T.b_len eZ) aK)
 (bC (cR (MA (lP jI mP (bD aX cA (aH 1) aK) eN) (L8 (lP (T3 f) Lb (bD aX cA (aH 1) aK) (bD aX cA (aH 0) aK))))))
 fM)
 (aQ (gT (qR (oC (dN B0 LJ (bD aX cA (aH 1) aK) eN) (oC (dN (lK f) vV (bD aX cA (aH 1) aK) (cd (hk:=by lia) (NY T) T.D_62 f (aA (aH 0) aL))) (rS (dN (lK f) vV (bD aX cA (aH 1) aK) (kF (aA eN (aA eN aL))))))))
 (bC (cR nL))
 fM)
 (bC (cR (MA (cd (hk:=by lia) c T.D_66 f (aA (aH 0) (aA (bD aX cA (aH 1) aK) aL))) (L8 (cd (hk:=by lia) c T.D_66 f (aA (aH 0) (aA (bD aX cA (aH 1) aK) aL))))))))),?_⟩
 cases t with
 |say a=>
  show gI _ _ _ [.val (dW fs an),.val (jG (.say a))];refine fW (λb=>b=true) (λq g=>⟨_,Fc,g _ Fc⟩) (λ_=>?_) λo=>by cases o
  have a4:=F.a4;have n:a∈an:=by cases d<;>exact l
  refine⟨_,Fc,_,Fc,?_⟩;refine⟨_,Fc,_,Fc,_,Fc,_,Fc,JU (AZ F.an.2.1 (Kh (F.an.2.1 a n))) ?_⟩
  have e:A7 (.str a) (.tuple (an.map aV))=true:=by
   show((an.map aV).any λy=>dU y (.str a))=true;rw[xS];exact a8 n
  rw[e];exact h
 |ask k nm v s y m=>
  obtain⟨d,rfl⟩:∃e,d=e+1:=by cases d with | zero=>exact l.elim | succ d=>exact⟨d,Fc⟩
  obtain⟨p,hs,u,r⟩:=l;show gI _ _ _ [.val (dW fs an),.val (jG (.ask k nm v s y m))];refine fW (λb=>b=false) (λq g=>⟨_,Fc,g _ Fc⟩) (λj=>by cases j) λ_=>?_
  try unfold jD
  dsimp only;refine fW (λb=>b=false) (λq g=>⟨_,Fc,_,Fc,_,Fc,_,Fc,_,Fc,fs,an,Fc,F,?_⟩) (λj=>by cases j) λ_=>?_
  ·obtain⟨x,z⟩:=Re F p;rw[<- oX];refine⟨x,?_⟩;show(if(!A7 (qD (k,nm,v)) (.list ((qs fs).map qD)))=true then q true else _);rw[z,a6 Ey];refine⟨_,Fc,_,Fc,Fb,(show vU (.str s) (.list [.str "yes",.str "no"])from(VI hs).1),?_⟩;show q (!A7 (.str s) (.tuple [.str "yes",.str "no"]));rw[(VI hs).2];exact g _ Fc
  ·try unfold jD
   dsimp only;refine⟨_,Fc,_,Fc,_,Fc,fs,an,y,d,Fc,F,u,Ez,?_⟩;exact⟨_,Fc,_,Fc,_,Fc,fs,an,m,d,Fc,F,r,Ez,h⟩
def Rp:dS P w K mg base hX 6 Y gp ["_law_form_here","_law_tree_here"] (cG K Wv):=by
 have h:∀a:Nat,dS P w K mg base hX (2+a) Y gp ["_law_form_here","_law_tree_here"] (cG K (tJ a)):=λa=>by
  induction a with
  |zero=>exact wA pI λc Q h=>UJ h
  |succ a b=>exact X3 T a b
 exact h 4
def Rn:dS P w K mg base hX 1 mo qm ["_law_form_here","_law_rows_here"] (cG K Ws):=by
 refine mB T.D_63.F Uh λH nd M Q h=>?_;obtain⟨fs,an,c,rfl,F,hok,J,h⟩:=h;refine⟨_,(aQ (ss 2 nd (el (fr:=[none,some 1]) (N':=["_law_answer","_law_rows_here"]) (eW (bD aX cA (aH 0) aK)) (λb=>⟨(dH (pk 0)),iT,(cB gQ (aA (el (fr:=[none,some 0]) (N':=["_law_row_here","_law_answer"]) (eW (aH 1)) (λb=>⟨(dH (pk 0)),(uC (dN jI mP (bD aX cA (aH 0) aK) (aH 1))),(aH 0)⟩)) aL) bY T.b_len eZ)⟩)))
 (bC (cR (bD aX cA (bD aX cA (aH 0) aK) (bD aX cA (el (fr:=[none,some 2]) (N':=["_law_k","_law_counts"]) (kN (aA (cB gQ (aA (aH 2) aL) bY T.b_len eZ) aL) (λh=>jP Fc T.b_range h)) (λb=>⟨(dH (pk 0)),(uC (dN jI mP (bD aX cA (aH 1) (aH 0)) (cB WL (aA (aH 1) aL) (qJ Fc) T.b_max GR))),(aH 0)⟩)) aK))))),?_⟩
 show gI _ _ _ [.val (dW fs an),.val (.list (c.map dP)),.un];have a2:=F.a2;have a4:=F.a4;refine cL (.list ((kB an c).map aP)) (λq f=>?_) ?_
 ·refine jK (ts:=an.map aV) (λR h=>⟨_,Fc,_,Fc,_,Fc,h⟩) (WJ c) (by rw[aC];lia) (λx q i f=>?_) ?_
  ·obtain⟨a,W,rfl⟩:=aR.mp i;have e:WJ c (.str a)=.int (((((c.map dP).filter (Ht a)).map id).length:Nat):Int):=by rw[VT];rfl
   rw[e]at f;dsimp only[nM,qA];refine pG (ts:=c.map dP) (λR h=>⟨_,Fc,_,Fc,h⟩) (Ht a) id (by rw[aC];lia) (λx q i f=>?_) (λx q i f=>⟨_,Fc,f⟩) f;obtain⟨r,H,rfl⟩:=aR.mp i;exact⟨_,Fc,_,Fc,_,Fc,f⟩
  ·have e:(an.map aV).map (WJ c)=(kB an c).map aP:=by unfold kB;rw[bM,bM];rfl
   rw[e];exact f
 have y:kB an c≠[]:=λz=>by
  have:=e7 gC z;unfold kB at this;rw[aC]at this;simp at this;rw[this]at a2;simp at a2
 obtain⟨a,k,g,s,n⟩:=CF (show 0<an.length by lia) c;have u:=(aE.mp g).1;have t:(kB an c).length=an.length:=by unfold kB;rw[aC]
 have d:∀(j:Nat) b,an[j]?=some b->(kB an c)[j]?=some ((rH c b:Nat):Int):=λj b o=>by unfold kB;rw[aI,o];rfl
 have E:∀m:Int,m∈kB an c->(∀x∈kB an c,x<=m)->m=((rH c a:Nat):Int):=λm v i=>by
  have S:=i _ (aS (d k a g));obtain⟨b,o,rfl⟩:=aR.mp v;obtain⟨j,p⟩:=bP o;have U:=s j b p;lia
 refine⟨_,Fc,_,Fc,?_⟩;dsimp only[KI];refine pG (ts:=eK an.length) (λR h=>⟨_,Fc,((((kB an c).map aP).length:Nat):Int),Fc,by rw[aC];lia,by rw[aC];lia,?_⟩) (Iv (kB an c) ((rH c a:Nat):Int)) id (by rw[gZ];lia) (λx q i f=>?_) (λx q i f=>⟨_,Fc,f⟩) ?_
 ·rw[dX,aC,t];exact h
 ·obtain⟨j,p⟩:=bP i;obtain⟨l,rfl⟩:=iC p;have o:=d j an[j] (aD l);refine⟨_,Fc,_,Fc,_,L2.fC (by rw[aI,o];rfl),_,Fc,_,Fc,y,λm v i=>?_⟩;rw[E m v i]
  have e:Iv (kB an c) ((rH c a:Nat):Int) (.int (j:Nat))=decide (((rH c an[j]:Nat):Int)=((rH c a:Nat):Int)):=by
   show decide ((kB an c).getD ((j:Nat):Int).toNat _=_)=_;rw[dX,cX,o];rfl
  rw[e]at f;exact f
 ·rw[nH];refine⟨_,L2.fC (L6 u ?_ λj p=>?_),_,L2.fC (by rw[aI,g];rfl),h a ⟨k,g,s,n⟩⟩
  ·refine a8 ?_;rw[dX,cX,d k a g];rfl
  ·refine c4 λz=>?_;have l:j<an.length:=by lia
   rw[dX,cX,d j _ (aD l)]at z;have:=n j _ p (aD l);have z':((rH c an[j]:Nat):Int)=((rH c a:Nat):Int):=z;lia
def Ld:dS P w K mg base hX 3 mq qo ["_law_form_here","_law_tree_here","_law_rows_here","_law_prices"] (cG K Wt):=by
 refine mB T.D_64.F Ui λj nd ds Q h=>?_;obtain⟨fs,an,t,d,a,b,rfl,F,ht,hk,S,hl,a0,a1,b0,b1,h⟩:=h;refine⟨_,(aQ (ss 4 nd (cB gQ (aA (el (fr:=[none,some 0,some 1]) (N':=["_law_row_here","_law_form_here","_law_tree_here"]) (eW (aH 2)) (λb=>⟨(dH (pk 0)),(uC (dN B0 LJ (cd (Rl T) T.D_60 j (aA (aH 1) (aA (aH 2) (aA (bD aX cA (aH 0) aK) aL)))) (bD aX cA (aH 0) aK))),(aH 0)⟩)) aL) bY T.b_len eZ))
 (aQ (ss 5 nd aK)
 (aQ (so 6 nd (aA (aH 1) aL))
 (aQ (tI (PC 6 (dN oG lE (cB gQ (aA (aH 6) aL) bY T.b_len eZ) aK))
 (aQ (Zw (i:=6) (pv 6) (dH (pn 7 nd)) (λhg=>tW (TY bT HG HF UU (pv 6)) hg))
 (bC (gT (dN jI mP (cB gQ (aA (aH 7) aL) bY T.b_len eZ) aK)
 (aQ (ss 5 nd (cJ cZ gU (aH 5) aK))
 (bC (sF 6 nd (aAc (pv 6) (kF (aA (bD aX cA (aH 7) aK) (aA (bD aX cA (aH 7) aK) aL)))))))
 fM))) (λhc W=>tV v8 hc W))
 (bC (cR (cJ cZ gU (cJ fV lN (bD aX cA (aH 3) aK) (aH 4)) (cJ fV lN (bD aX cA (aH 3) aK) (aH 5))))))))),?_⟩
 show gI _ _ _ [.val (dW fs an),.val (jG t),.val (.list (d.map dP)),.val (.tuple [.int a,.int b]),.un,.un,.un,.un];have xc:=t.nodes_kn;have kA:eE fs t d<=60:=bG (bW _ _) hl;refine cL (.int ((eE fs t d:Nat):Int)) (λq c=>?_) ?_
 ·have H:(((((d.map dP).filter (D4 fs t)).map id).length:Nat):Int)=((eE fs t d:Nat):Int):=by rw[D3]
  rw[<- H]at c;dsimp only[nM,qA];refine pG (ts:=d.map dP) (λR h=>⟨_,Fc,_,Fc,h⟩) (D4 fs t) id (by rw[aC];lia) (λx q o c=>?_) (λx q o c=>⟨_,Fc,c⟩) c;obtain⟨r,j,rfl⟩:=aR.mp o;exact⟨_,Fc,_,Fc,_,Fc,_,Fc,fs,an,t,r.1,Fc,F,ht,(S r j).1,_,Fc,_,Fc,c⟩
 refine cL (.int ((0:Nat):Int)) (λq c=>c) ?_;refine lJ [jG t] Fb (λq c=>⟨_,Fc,c⟩) ?_
 refine qW (λn σ=>∃(e:List Tr)(kn:Nat)(u:Sl),σ=[.val (dW fs an),.val (jG t),.val (.list (d.map dP)),.val (.tuple [.int a,.int b]),.val (.int ((eE fs t d:Nat):Int)),.val (.int (kn:Nat)),.own (e.map jG),u]/\n=RJ e/\n<=t.nodes/\kn+Fe e=t.kn) (RJ [t])
  ⟨[t],0,_,Fc,Fc,by show t.nodes+0<=_;lia,by show 0+(t.kn+0)=_;lia⟩ λn bi M=>?_
 obtain⟨e,kn,u,rfl,hn,Ef,g⟩:=M;refine⟨decide (0<e.length),λq c=>⟨_,Fc,_,Fc,?_⟩,?_⟩
 ·show q (decide (((e.map jG).length:Int)>0));have:decide (((e.map jG).length:Int)>0)=decide (0<e.length):=by rw[aC,ay];lia
  rw[this];exact c
 rcases ZT e with rfl | ⟨f,p,rfl⟩
 ·rw[a6 Ey];have l:kn=t.kn:=by have:Fe ([]:List Tr)=0:=rfl;lia
  subst l;exact⟨_,Fc,_,Fc,_,Fc,.inl ⟨Ez,Ez⟩,_,Fc,_,Fc,_,Fc,.inl ⟨Ez,Ez⟩,h⟩
 ·rw[a7 (a8 Fa)];have w1:RJ [p]=p.nodes:=AO _;have w2:Fe [p]=p.kn:=AO _;rw[FL,w1]at hn;rw[M6,w2]at g;have xi:=M5 f;refine YN (f.map jG) (jG p) (by rw[bB];rfl) ?_;show Fm _ _ _ _ [.val (dW fs an),.val (jG t),.val (.list (d.map dP)),.val (.tuple [.int a,.int b]),.val (.int ((eE fs t d:Nat):Int)),.val (.int (kn:Nat)),.own (f.map jG),.val (jG p)]
  cases p with
  |say z=>
   refine mZ (λb=>b=false) (λq c=>⟨_,Fc,c _ Fc⟩) (λU=>by cases U) λ_=>?_;have:(Tr.say z).nodes=1:=rfl;have:(Tr.say z).kn=0:=rfl;exact⟨RJ f,Ez,f,kn,_,Fc,Fc,Ez,Ez⟩
  |ask k nm v s y m=>
   have l:(Tr.ask k nm v s y m).nodes=y.nodes+m.nodes+1:=rfl;have e2:(Tr.ask k nm v s y m).kn=y.kn+m.kn+1:=rfl;have E:RJ [y,m]=y.nodes+m.nodes:=by show y.nodes+(m.nodes+0)=_;lia
   have w4:Fe [y,m]=y.kn+m.kn:=by show y.kn+(m.kn+0)=_;lia
   refine mZ (λb=>b=true) (λq c=>⟨_,Fc,c _ Fc⟩) (λ_=>?_) λJ=>by cases J
   refine cL (.int ((kn+1:Nat):Int)) (λq c=>⟨_,Fc,c⟩) ?_;refine⟨_,Fc,_,Fc,_,Fc,_,Fc,_,Fc,Fb,[jG y,jG m],Fc,by rw[aC];show f.length+2<=_;lia,?_⟩;refine⟨RJ (f++[y,m]),by rw[FL,E];lia,f++[y,m],kn+1,_,by rw[bB];rfl,Fc,by rw[FL,E];lia,by rw[M6,w4];lia⟩
def Le:dS P w K mg base hX 2 mr qp ["_law_form_here","_law_rows_here","_law_question","_law_stray","_law_numbers"] (cG K Ww):=by
 refine mB T.D_67.F Ul λf nd U Q h=>?_;obtain⟨fs,an,a,c,ns,rfl,F,E,W,H,e,h⟩:=h;refine⟨_,(aQ (so 5 nd aL)
 (aQ (so 6 nd aL)
 (aQ (sf (eW (aH 4)) (dH (pn 7 nd))
 (bC (gT (dN jI mP (cd (Lc T) T.D_59 f (aA (aH 0) (aA (aH 2) (aA (aH 3) (aA (bD aX cA (bD aX cA (aH 1) (aH 7)) aK) aL))))) eN)
 (bC (mN (i:=5) (pv 5) (aH 7) (pb:=λh=>jJ (kJ bT dE dD iF (pv 5) h))))
 (bC (mN (i:=6) (pv 6) (aH 7) (pb:=λh=>jJ (kJ bT dE dD iF (pv 6) h)))))))
 (lX 6 (lX 5 (bC (cR (eM (aA (cY pZ (aA (aH 5) aL) jF T.b_tuple kG) (aA (cY pZ (aA (aH 6) aL) jF T.b_tuple kG) aL)))))))))),?_⟩
 show gI _ _ _ [.val (dW fs an),.val (.list (a.map dP)),.val (qD c.1),.val (.str c.2),.val (eS ns),.un,.un,.un];have M:=e.len;obtain⟨n,o⟩:=yZ H;refine lJ [] Fb (λq d=>d) ?_;refine lJ [] Fb (λq d=>d) ?_
 refine hV (ts:=ns.map λ(i:Nat)=>aP (i:Int)) (λR h=>⟨_,Fc,_,Fc,h⟩)
  (λk S=>∃u:Sl,S=[.val (dW fs an),.val (.list (a.map dP)),.val (qD c.1),.val (.str c.2),.val (eS ns),.own (((ns.take k).filter (P6 fs a c)).map λ(i:Nat)=>aP (i:Int)),.own (((ns.take k).filter λi=>!P6 fs a c i).map λ(i:Nat)=>aP (i:Int)),u]) ⟨_,Fc⟩ (λk x v y l=>?_) λv l=>?_
 ·obtain⟨u,rfl⟩:=l;rw[aI]at y;obtain⟨i,g,rfl⟩:=bU.mp y;have r:=e.lt (aS g);have J:=(aE.mp g).1;have f:a[i]?=some a[i]:=aD r;have s:P6 fs a c i=W9 fs c a[i]:=by unfold P6;rw[f]
  have t:=aS f
  have z:∀p:Nat->Bool,(((ns.take k).filter p).map λ(i:Nat)=>aP (i:Int)).length<=60:=λp=>by
   rw[aC];refine bG (bW _ _) ?_;rw[aZ];lia
  refine mZ (λb=>b=P6 fs a c i) (λq d=>⟨_,Fc,_,Fc,_,Fc,_,Fc,_,Fc,dP a[i],L2.fC (by rw[aI,f];rfl),.tuple a[i].1,Fc,fs,an,c.1.1,c.1.2.1,c.1.2.2,c.2,a[i].1,Fc,F,yI n,o,(E _ t).1,?_⟩) (λm=>?_) λj=>?_
  ·exact d _ (by rw[s];rfl)
  ·refine nY (.int (i:Nat)) Fc (bG (z _) Fb) (λq d=>⟨_,Fc,d⟩) ⟨.val (.int (i:Nat)),?_⟩;have m:=m.symm;rw[cU,g];show _=[_,_,_,_,_,Sl.own (((ns.take k++[i]).filter (P6 fs a c)).map _),Sl.own (((ns.take k++[i]).filter _).map _),_];rw[fD,fD,bB,bB];simp[m]
  ·refine nY (.int (i:Nat)) Fc (bG (z _) Fb) (λq d=>⟨_,Fc,d⟩) ⟨.val (.int (i:Nat)),?_⟩;have j:=j.symm;rw[cU,g];show _=[_,_,_,_,_,Sl.own (((ns.take k++[i]).filter (P6 fs a c)).map _),Sl.own (((ns.take k++[i]).filter _).map _),_];rw[fD,fD,bB,bB];simp[j]
 ·obtain⟨u,rfl⟩:=l;rw[aC,dA];exact⟨_,Fc,_,Fc,_,Fc,_,Fc,Fb,h⟩
def Lf:dS P w K mg base hX 2 ms qq ["_law_form_here","_law_rows_here","_law_numbers","_law_prices"] (cG K Wx):=by
 refine mB T.D_68.F Um λn nd y Q h=>?_;obtain⟨fs,an,fa,c,a,b,ns,rfl,S,k,h⟩:=h;refine⟨_,(aQ (pD (i:=4) (fr:=[none,some 1]) (N':=["_law_number","_law_rows_here"]) (eW (aH 2)) (λb=>⟨(dH (pk 0)),iT,(bD aX cA (aH 1) (aH 0))⟩) (λg p=>nS (show rC _ (bA (top 80)) ["_law_form_here","_law_rows_here","_law_numbers","_law_prices","_law_some","_law_answer"] ["_law_number","_law_rows_here"] [none,some 1]=true from by decide +kernel) nd Fc (by first | exact v7 Fc | exact r0 Fc) Fc g p Fc))
 (aQ (ss 5 nd (cd (Rn T) T.D_63 n (aA (aH 0) (aA (aH 4) aL))))
 (bC (cR (cJ fV lN (bD aX cA (aH 3) aK) (cB gQ (aA (el (fr:=[none,some 5]) (N':=["_law_row_here","_law_answer"]) (eW (aH 4)) (λb=>⟨(dH (pk 0)),(uC (dN B0 LJ (bD aX cA (aH 0) aK) (aH 1))),(aH 0)⟩)) aL) bY T.b_len eZ)))))),?_⟩
 show gI _ _ _ [.val (dW fs an),.val (.list (c.map dP)),.val (eS ns),.val (.tuple [.int a,.int b]),.un,.un];have f:∀i∈ns,i<c.length:=λi g=>k.lt g;have E:=S.l;have s:=k.len;have t:=wX f;have a0:=S.a0;have a1:=S.a1;refine cL (.list ((bL c ns).map dP)) (λq d=>?_) ?_
 ·rw[<- FR f]at d;refine jK (ts:=ns.map λ(i:Nat)=>aP (i:Int)) (λR h=>⟨_,Fc,_,Fc,h⟩) (qX c) (by rw[aC];lia) (λx q m d=>?_) d;obtain⟨i,g,rfl⟩:=aR.mp m;have j:=f i g;have e:qX c (.int (i:Nat))=dP c[i]:=by unfold qX;dsimp only;rw[L2.fC (aD j)]
  rw[e]at d;exact⟨_,Fc,_,Fc,_,L2.fC (by rw[aI,aD j];rfl),d⟩
 have hok:=NK S.R ns;refine cL (.str (fa (bL c ns))) (λq d=>⟨_,Fc,_,Fc,fs,an,bL c ns,Fc,S.F,hok,Ez,λz v=>by rw[xV.uniq v (S.fa _ hok)];exact d⟩) ?_;have u:eE fs (.say (fa (bL c ns))) (bL c ns)<=60:=bG (bW _ _) Ez;refine⟨_,Fc,_,Fc,?_⟩;dsimp only[nM,qA];refine pG (ts:=(bL c ns).map dP) (λR h=>⟨_,Fc,_,Fc,h⟩) (D4 fs (.say (fa (bL c ns)))) id (by rw[aC];lia) (λx q m d=>?_) (λx q m d=>⟨_,Fc,d⟩) ?_
 ·obtain⟨r,n,rfl⟩:=aR.mp m;refine⟨_,Fc,_,Fc,_,Fc,?_⟩;show q (!decide (r.2=fa (bL c ns)))
  have e:D4 fs (.say (fa (bL c ns))) (dP r)=!decide (r.2=fa (bL c ns)):=by
   show(!decide (fa (bL c ns)=r.2))=_;rw[show decide (fa (bL c ns)=r.2)=decide (r.2=fa (bL c ns)) by rw[ay];exact eq_comm]
  rw[<- e];exact d
 ·have o:(((((bL c ns).map dP).filter (D4 fs (.say (fa (bL c ns))))).map id).length:Nat)=eE fs (.say (fa (bL c ns))) (bL c ns):=D3 ..;show KE a _/\_;rw[o];exact⟨.inl ⟨Ez,Ez⟩,h⟩
def Lg:dS P w K mg base hX 3 mu qr ["_law_form_here","_law_rows_here","_law_prices","_law_found","_law_numbers","_law_deep_here"] (cG K (Wy w)):=by
 refine mB T.D_69.F Uo λk nd u Q h=>?_;obtain⟨fs,an,fa,c,a,b,ks,ns,d,rfl,S,i,s,f,h⟩:=h;refine⟨_,(aQ (gT (dN jI mP (aH 5) aK)
 (bC (cR (cd (Lf T) T.D_68 k (aA (aH 0) (aA (aH 1) (aA (aH 4) (aA (aH 2) aL)))))))
 fM)
 (bC (cR (WB (aH 3) (eM (aA (aH 4) (aA (aH 5) aL))) (pc:=λn o=>TV k.u9 n o))))),?_⟩
 show gI _ _ _ [.val (dW fs an),.val (.list (c.map dP)),.val (.tuple [.int a,.int b]),.val (mC w (KV fs fa a b c ks)),.val (eS ns),.val (.int (d:Nat))];by_cases hd:d=0
 ·subst hd;refine fW (λz=>z=true) (λq j=>⟨_,Fc,j _ Fc⟩) (λ_=>?_) λp=>by cases p
  exact⟨_,Fc,_,Fc,_,Fc,_,Fc,fs,an,fa,c,a,b,ns,Fc,S,i,h⟩
 ·refine fW (λz=>z=false) (λq j=>⟨_,Fc,j _ (c4 Ez)⟩) (λr=>by cases r) λ_=>?_
  try unfold jD
  dsimp only;have hk:=f.resolve_left hd;refine⟨_,Fc,⟨_,Fc⟩,_,Fc,_,Fc,Fb,KV fs fa a b c ks,Fc,kW ns d,(λy g=>?_),(λz=>?_),λv t=>?_⟩
  ·obtain⟨x,_,rfl⟩:=aR.mp g;exact(kW x.1 x.2).1
  ·exact a9 (aR.mpr ⟨_,aR.mpr ⟨_,hk,Fc⟩,Fc⟩) z
  ·obtain⟨x,_,e⟩:=aR.mp t;injection e with l m
   have:=xI x (ns,d) l;subst this;rw[<- m];exact h
def Rq:dS P w K mg base hX 4 mv qt ["_law_form_here","_law_rows_here","_law_prices","_law_found","_law_key"] (cG K (Wz w)):=by
 refine mB T.D_70.F Up λu nd ds Q h=>?_;obtain⟨fs,an,fa,f,a,b,ks,ns,dp,x,rfl,S,hG,s,h⟩:=h;refine⟨_,(aQ (BL (g:=λ_ _ _ _=>True) (aH 4) (nZ (lC Fc (dQ (pn 5 nd) (dQ (pn 6 nd) jS)))) (λhe hg=>tW he hg))
 (aQ (gT (dN oG lE (CI (w:=w) Fc u.u9 (aH 3) (aH 4)) (cd (Lf T) T.D_68 u (aA (aH 0) (aA (aH 1) (aA (aH 5) (aA (aH 2) aL))))))
 (bC (cR nL))
 fM)
 (aQ (sf (eW (cd (NY T) T.D_62 u (aA (aH 0) aL))) (dH (pn 7 nd))
 (bC (sf (eW (kF (aA eN (aA eN aL)))) (dH (pn 8 nd))
 (aQ (BL (g:=λ_ _ _ _=>True) (cd (Le T) T.D_67 u (aA (aH 0) (aA (aH 1) (aA (aH 7) (aA (aH 8) (aA (aH 5) aL)))))) (nZ (lC Fc (dQ (pn 9 nd) (dQ (pn 10 nd) jS)))) (λhe hg=>tW he hg))
 (bC (gT (qR (FM (dN oG lE (cB gQ (aA (aH 9) aL) bY T.b_len eZ) aK) (AS (dN oG lE (cB gQ (aA (aH 10) aL) bY T.b_len eZ) aK))))
 (aQ (ss 11 nd (cd (Lg (w:=w) T) T.D_69 u (aA (aH 0) (aA (aH 1) (aA (aH 2) (aA (aH 3) (aA (aH 9) (aA (cJ mO vW (aH 6) aK) aL))))))))
 (aQ (ss 12 nd (cd (Lg (w:=w) T) T.D_69 u (aA (aH 0) (aA (aH 1) (aA (aH 2) (aA (aH 3) (aA (aH 10) (aA (cJ mO vW (aH 6) aK) aL))))))))
 (bC (gT (qR (oC (dN B1 I0 (aH 11) pJ) (oC (dN B1 I0 (aH 12) pJ) (rS (dN oG lE (CI (w:=w) Fc u.u9 (aH 3) (aH 4)) (cJ cZ gU (cJ cZ gU (bD aX cA (aH 2) aK) (aH 11)) (aH 12)))))))
 (bC (cR nL))
 fM))))
 fM))))))
 (bC (cR nL))))),?_⟩
 obtain⟨jl,qz,hok,vq,W⟩:=hG;obtain⟨y,e⟩:=x;obtain⟨p,yd,Bh,Cr⟩:=hok _ s;have oS:=s;dsimp only at p yd Bh Cr;obtain⟨d,rfl⟩:∃d,e=d+1:=⟨e-1,Ez⟩;have wb:∀i∈y,i<f.length:=λi hi=>p.lt hi
 have jm:∀kv∈KV fs fa a b f ks,jX kv.1:=λkv wa=>by
  obtain⟨x,_,rfl⟩:=aR.mp wa;exact(kW x.1 x.2).1
 have r:(JM y (d+1),aP (fG fs fa a b (d+1) (bL f y)).1)∈KV fs fa a b f ks:=aR.mpr ⟨_,s,Fc⟩;show gI _ _ _ [.val (dW fs an),.val (.list (f.map dP)),.val (.tuple [.int a,.int b]),.val (mC w (KV fs fa a b f ks)),.val (kY (y,d+1)),.un,.un,.un,.un,.un,.un,.un,.un];refine AW (a:=eS y) (b:=.int ((d+1:Nat):Int)) (λq j=>⟨_,Fc,j⟩) ?_;have Dx:=uZ (fs:=fs) (fa:=fa) (a:=a) (b:=b) (d+1) (bL f y);refine fW (λz=>z=false) (λq j=>⟨_,Fc,_,Fc,KV fs fa a b f ks,Fc,kW y (d+1),jm,_,r,?_⟩) (λJ=>by cases J) λ_=>?_
 ·exact⟨_,Fc,_,Fc,_,Fc,_,Fc,fs,an,fa,f,a,b,y,Fc,S,p,j _ (c4 Ez)⟩
 try unfold jD
 dsimp only
 refine hV (ts:=(qs fs).map qD) (λR h=>⟨_,Fc,fs,an,Fc,S.F,_,Fc,by rw[<- oX];exact h⟩)
  (λk σ=>∃s7 v E m n o:Sl,σ=[.val (dW fs an),.val (.list (f.map dP)),.val (.tuple [.int a,.int b]),.val (mC w (KV fs fa a b f ks)),.val (kY (y,d+1)),.val (eS y),.val (.int ((d+1:Nat):Int)),s7,v,E,m,n,o]) ⟨_,_,_,_,_,_,Fc⟩ (λk x H s t=>?_) λH t=>?_
 ·obtain⟨s7,v,E,m,n,o,rfl⟩:=t;rw[aI]at s;obtain⟨q0,xg,rfl⟩:=bU.mp s;have yr:=aS xg
  refine JS (ts:=[.str "yes",.str "no"]) (λR h=>⟨Fb,_,Fc,h⟩)
   (λi σ=>∃v E m n o:Sl,σ=[.val (dW fs an),.val (.list (f.map dP)),.val (.tuple [.int a,.int b]),.val (mC w (KV fs fa a b f ks)),.val (kY (y,d+1)),.val (eS y),.val (.int ((d+1:Nat):Int)),.val (qD q0),v,E,m,n,o]) ⟨_,_,_,_,_,Fc⟩ (λi x H s t=>?_) λH t=>?_
  ·obtain⟨v,E,m,n,o,rfl⟩:=t;obtain⟨st,_,rfl,M⟩:=HR yr s
   generalize U:(q0,st)=c at M
   have e1:q0=c.1:=by rw[<- U]
   have e2:st=c.2:=by rw[<- U]
   subst e1 e2;refine AW (a:=eS (yN fs f c y)) (b:=eS (nN fs f c y)) (λq j=>⟨_,Fc,_,Fc,_,Fc,_,Fc,_,Fc,fs,an,f,c,y,Fc,S.F,S.R,S.l,M,p,j⟩) ?_;have xf:=BY (fs:=fs) (c:=c) wb;refine mZ (λz=>z=gJ fs (bL f y) c) (λq j=>⟨_,Fc,?_⟩) (λJ=>?_) λ_=>⟨_,_,_,_,_,Fc⟩
   ·have j:=j _ Fc;rw[xf]at j;show(if decide (((((yN fs f c y).map λ(i:Nat)=>aP (i:Int)).length:Nat):Int)>0)=true then _ else q false);rw[N3];by_cases e:(!(yN fs f c y).isEmpty)=true
    ·rw[a7 e];rw[e,HM]at j;refine⟨_,Fc,?_⟩;show q (decide (((((nN fs f c y).map λ(i:Nat)=>aP (i:Int)).length:Nat):Int)>0));rw[N3];exact j
    ·rw[a6 e];rw[rN.mpr e,aCz]at j;exact j
   ·have hp:=J.symm;have ed:(((d+1:Nat):Int)-1)=((d:Nat):Int):=by lia
    have gV:(d=0\/(yN fs f c y,d)∈ks)/\(d=0\/(nN fs f c y,d)∈ks):=by
     cases d with
     |zero=>exact⟨.inl Fc,.inl Fc⟩
     |succ d=>exact⟨.inr (W y d oS c M hp).1,.inr (W y d oS c M hp).2⟩
    obtain⟨ry,rn⟩:=FQ (fs:=fs) (c:=c) wb;refine cL (.int (fG fs fa a b d (yR fs c (bL f y))).1) (λq j=>⟨_,Fc,_,Fc,_,Fc,_,Fc,_,Fc,_,Fc,fs,an,fa,f,a,b,ks,yN fs f c y,d,by rw[ed],S,p.filt _,jl,gV.1,by rw[ry];exact j⟩) ?_;refine cL (.int (fG fs fa a b d (nR fs c (bL f y))).1) (λq j=>⟨_,Fc,_,Fc,_,Fc,_,Fc,_,Fc,_,Fc,fs,an,fa,f,a,b,ks,nN fs f c y,d,by rw[ed],S,p.filt _,jl,gV.2,by rw[rn];exact j⟩) ?_;have Ba:=MM (fs:=fs) (fa:=fa) (a:=a) (b:=b) (d:=d) M hp;unfold cC at Ba;refine mZ (λz=>z=false) (λq j=>⟨_,Fc,?_⟩) (λJ=>by cases J) λ_=>⟨_,_,_,_,_,Fc⟩;show(if false=true then q true else _);rw[a6 Ey];refine⟨_,Fc,?_⟩;show(if false=true then q true else _);rw[a6 Ey];exact⟨_,Fc,_,Fc,KV fs fa a b f ks,Fc,kW y (d+1),jm,_,r,_,Fc,_,Fc,_,Fc,_,Fc,j _ (c4 Ez)⟩
  ·obtain⟨v,E,m,n,o,rfl⟩:=t;exact⟨_,_,_,_,_,_,Fc⟩
 ·obtain⟨s7,v,E,m,n,o,rfl⟩:=t;exact h
def Rr:dS P w K mg base hX 5 mw qu ["_law_form_here","_law_rows_here","_law_prices","_law_table"] (cG K Xa):=by
 refine mB T.D_71.F Uq λr nd ds Q h=>?_;obtain⟨fs,an,fa,c,a,b,ks,ns,dp,rfl,S,hl,hG,h⟩:=h;refine⟨_,(aQ (sn 4 nd)
 (aQ (sf (eW (aH 3)) (rD (lC Fc (dQ (pn 5 nd) (dQ (pn 6 nd) (dQ (pn 7 nd) jS)))))
 (aQ (gT (qR (oC (XW (i:=4) (Yy r.u9) (pv 4) (eM (aA (aH 5) (aA (aH 6) aL)))) (oC (dN (Zz r) vV (cY MK (aA (aH 5) aL) sG T.b_list uY) (V6 (aH 5) (pc:=λh=>tY (MJ Fc) Fc T.b_sorted ES (jC (gH (Q1 Fc) Fc T.b_set Xu h) lD)))) (oC (yG (HU D7 D7 lE lE aK (aH 6) aK)) (rS (dN zP lE (aH 7) aK))))))
 (bC (cR nL))
 fM)
 (aQ (gT (qR (oC (dN jI mP (cB gQ (aA (aH 5) aL) bY T.b_len eZ) aK) (oC (dN zP lE (bD aX cA (aH 5) aK) aK) (rS (dN NX lE (bD aX cA (aH 5) (L9 aK)) (cB gQ (aA (aH 1) aL) bY T.b_len eZ))))))
 (bC (cR nL))
 fM)
 (bC (BM (i:=4) r.u9 (pv 4) (eM (aA (aH 5) (aA (aH 6) aL))) (aH 7))))))
 (qT 4 (bC (cR (lP (lK r) vV nL (el (fr:=[none,some 0,some 1,some 2,some 4]) (N':=["_law_key","_law_form_here","_law_rows_here","_law_prices","_law_found"]) (ZZ (aH 4)) (λb=>⟨(dH (pk 0)),iT,(cd (Rq (w:=w) T) T.D_70 r (aA (aH 1) (aA (aH 2) (aA (aH 3) (aA (aH 4) (aA (aH 0) aL))))))⟩)))))))),?_⟩
 show gI _ _ _ [.val (dW fs an),.val (.list (c.map dP)),.val (.tuple [.int a,.int b]),.val (.list (ks.map (xN fs fa a b c))),.un,.un,.un,.un];have H:=hG;obtain⟨jl,qz,hok,vq,sj⟩:=hG
 have s:∀l:List (List Nat×Nat),∀kv∈KV fs fa a b c l,jX kv.1:=λl kv wa=>by
  obtain⟨x,_,rfl⟩:=aR.mp wa;exact(kW x.1 x.2).1
 have t:∀l:List (List Nat×Nat),(KV fs fa a b c l).map (·.1)=l.map kY:=λl=>by unfold KV;rw[bM];rfl
 refine tU (w:=w) (show 4<8 by decide) (λj hs kvs o=>?_) ?_
 ·rcases j with _ | _ | _ | _ | _ | _ | _ | _ | j<;>simp at o
 refine hV (ts:=ks.map (xN fs fa a b c)) (λR h=>⟨_,Fc,_,Fc,h⟩)
  (λk σ=>∃u v E:Sl,σ=[.val (dW fs an),.val (.list (c.map dP)),.val (.tuple [.int a,.int b]),.val (.list (ks.map (xN fs fa a b c))),pS w (KV fs fa a b c (ks.take k)),u,v,E]) ⟨_,_,_,Fc⟩ (λk x bi n J=>?_) λbi J=>?_
 ·obtain⟨u,v,E,rfl⟩:=J;rw[aI]at n;obtain⟨⟨y,e⟩,f,rfl⟩:=bU.mp n;have vz:k<ks.length:=(aE.mp f).1;obtain⟨g,U,W,m⟩:=hok _ (aS f);dsimp only at g U W m;have uj:=g.len;have Dy:0<=(fG fs fa a b e (bL c y)).1:=BB S.a0 S.b0 e _;have eL:eS y=gE ((y.map sY).map aP):=by unfold eS;rw[bM];rfl
  have Cg:(y.map sY).Pairwise (·<·):=W4.mpr ((tD.sublist g).imp λh=>Int.ofNat_lt.mpr h)
  have d:kY (y,e)∉(KV fs fa a b c (ks.take k)).map (·.1):=λz=>by
   rw[t]at z;obtain⟨x,n,ex⟩:=aR.mp z;have:x=(y,e):=xI _ _ ex;subst this;obtain⟨j,o⟩:=bP n;have wz:=(aE.mp o).1;rw[aZ]at wz;rw[gR,a7 Ez]at o;have:=B2 jl o f;lia
  have Bv:(KV fs fa a b c (ks.take k)).length<=400:=by unfold KV;rw[aC,aZ];lia
  refine⟨_,_,_,Fc,?_⟩;refine fW (λz=>z=false) (λq p=>⟨_,Fc,_,Fc,Fb,_,Fc,kW y e,s _,λz hz=>?_⟩) (λM=>by cases M) λ_=>?_
  ·cases z with
   |true=>exact a9 (hz.mp Fc) d
   |false=>
   rw[a6 Ey];refine⟨_,Fc,_,Fc,y.map sY,eL,by rw[aC];lia,λus hu hm xi=>?_⟩;have eu:=Xr hu Cg hm;subst eu;refine⟨⟨uB y,by rw[bM];exact uB y,?_⟩,?_⟩
   ·refine bG (Nat.min_le_left _ _) ?_;show dJ (y.map λ(i:Nat)=>aP (i:Int))+1<=60;rw[(xK y).2];decide
   ·have ev:dU (.list (y.map λ(i:Nat)=>aP (i:Int))) (.list ((y.map sY).map aP))=true:=by rw[bM];exact bf _ (uB y)
    show(if(!dU (.list (y.map λ(i:Nat)=>aP (i:Int))) (.list ((y.map sY).map aP)))=true then q true else _);rw[ev,a6 Ey];refine⟨_,Fc,?_⟩;show(if decide ((1:Int)<=((e:Nat):Int))=true then _ else _);rw[a7 (a8 (show(1:Int)<=((e:Nat):Int) by lia))];show(if(!decide (((e:Nat):Int)<=3))=true then q true else _);rw[a8 (show((e:Nat):Int)<=3 by lia),a6 Ey];exact⟨_,Fc,p _ (c4 (show¬(fG fs fa a b e (bL c y)).1<0 by lia))⟩
  try unfold jD
  dsimp only;refine fW (λz=>z=false) (λq p=>⟨_,Fc,?_⟩) (λM=>by cases M) λ_=>?_
  ·show(if decide (((((y.map λ(i:Nat)=>aP (i:Int)).length:Nat):Int))=0)=true then q true else _);rw[a6 (λz=>m (hZ.mp (by have:=b8 z;rw[aC]at this;lia)))];obtain⟨i0,il,g0,g1,vp⟩:=UD m λi hi=>g.lt hi;refine⟨_,Fc,_,g0,?_⟩;show(if decide (((i0:Nat):Int)<0)=true then q true else _);rw[a6 (λz=>by have:=b8 z;lia)];refine⟨_,Fc,_,g1,_,Fc,?_⟩;exact p _ (c4 (by rw[aC];lia))
  try unfold jD
  dsimp only;refine⟨_,Fc,_,Fc,_,Fc,_,Fc,Fb,kW y e,s _,Ez,?_⟩;refine⟨.val (eS y),.val (.int (e:Nat)),.val (.int (fG fs fa a b e (bL c y)).1),?_⟩;rw[show gE [eS (y,e).1,aP (((y,e).2:Nat):Int)]=kY (y,e)from Fc,NQ d,cU,f];unfold KV;show _=[_,_,_,_,pS w ((ks.take k++[(y,e)]).map _),_,_,_];rw[bB];rfl
 ·obtain⟨u,v,E,rfl⟩:=J;rw[aC,dA];refine⟨_,_,Fc,?_⟩;show sV _ _ [.val (dW fs an),.val (.list (c.map dP)),.val (.tuple [.int a,.int b]),.val (.list (ks.map (xN fs fa a b c))),.val (mC w (KV fs fa a b c ks)),u,v,E];dsimp only[sV,KI,eC];refine jK (ts:=ks.map kY) (λR h=>⟨_,Fc,KV fs fa a b c ks,Fc,by rw[t];exact h⟩) (λ_=>.bool true) (by rw[aC];lia) (λx q n p=>?_) ?_
  ·obtain⟨z,hz,rfl⟩:=aR.mp n;exact⟨_,Fc,_,Fc,_,Fc,_,Fc,_,Fc,fs,an,fa,c,a,b,ks,ns,dp,z,Fc,S,H,hz,p⟩
  ·rw[bM];exact J6 h
def Rs:dS P w K mg base hX 10 mx qv ["_law_form_here","_law_rows_here","_law_deep_here","_law_prices"] (cG K Xb):=by
 refine mB T.D_72.F Ur λj nd k Q h=>?_;obtain⟨fs,an,fa,g,a,b,dp,rfl,S,e,d,c,h⟩:=h;refine⟨_,(aQ (ss 4 nd pJ)
 (aQ (ss 5 nd nL)
 (aQ (YB (bC (ss 4 nd (cd (Qs (w:=w) T) T.D_30 j (aA (aH 0) (aA (cY MK (aA (aH 1) aL) sG T.b_list uY) (aA (aH 2) (aA (aH 3) aL))))))) (λh=>YZ Zm h))
 (bC (cR (eM (aA (aH 4) (aA (aH 5) aL)))))))),?_⟩
 show gI _ _ _ [.val (dW fs an),.val (.list (g.map dP)),.val (.int (dp:Nat)),.val (.tuple [.int a,.int b]),.un,.un,.un];refine cL .none (λq f=>f) ?_;refine cL (.bool false) (λq f=>f) ?_;exact⟨_,Fc,_,Fc,_,Fc,_,Fc,fs,an,fa,g,a,b,dp,Fc,S,e,d,c,λks i=>⟨_,Fc,_,Fc,Fb,h ks i⟩⟩
def Rt:dS P w K mg base hX 3 my qw ["_law_form_here","_law_rows_here","_law_deep_here"] (cG K Xc):=by
 refine mB T.D_73.F Us λhr nd ds Q h=>?_;obtain⟨fs,an,p,dp,rfl,F,hR,hl,wy,vi,h⟩:=h;refine⟨_,(aQ (ss 3 nd (kF (aA (A9 (aA (cB gQ (aA (aH 1) aL) bY T.b_len eZ) aL) (λh=>gH (nC Fc) Fc T.b_tuple kG (jC (gH pY Fc T.b_range xR h) lD))) aL)))
 (aQ (ss 4 nd aK)
 (aQ (sf (kN (aA (aH 2) aL) (λh=>jP Fc T.b_range h)) (dH (pn 5 nd))
 (aQ (ss 4 nd (cJ cZ gU (aH 4) (cB gQ (aA (aH 3) aL) bY T.b_len eZ)))
 (aQ (sn 6 nd)
 (aQ (sf (eW (jW mX xD (aH 3) mY (jT (cJ fV lN (cB gQ (aA (aH 3) aL) bY T.b_len eZ) (sC (lP zP lE (aH 5) (cJ mO vW (aH 2) aK)) (λh=>gH nV Fc T.b_int wG h)))))) (dH (pn 7 nd))
 (bC (sf (eW (cd (NY T) T.D_62 hr (aA (aH 0) aL))) (dH (pn 8 nd))
 (bC (sf (eW (kF (aA eN (aA eN aL)))) (dH (pn 9 nd))
 (aQ (BL (g:=λ_ _ _ _=>True) (cd (Le T) T.D_67 hr (aA (aH 0) (aA (aH 1) (aA (aH 8) (aA (aH 9) (aA (aH 7) aL)))))) (nZ (lC Fc (dQ (pn 10 nd) (dQ (pn 11 nd) jS)))) (λhe hg=>tW he hg))
 (bC (gT (qR (FM (dN oG lE (cB gQ (aA (aH 10) aL) bY T.b_len eZ) aK) (AS (dN oG lE (cB gQ (aA (aH 11) aL) bY T.b_len eZ) aK))))
 (aQ (BM (i:=6) hr.u9 (pv 6) (aH 10) nL)
 (bC (BM (i:=6) hr.u9 (pv 6) (aH 11) nL)))
 fM))))))))
 (qT 6 (bC (ss 3 nd (CG (aH 6) (pc:=λh=>gH (oO Fc) Fc T.b_list uY h)))))))))
 (bC (cR (aH 4)))))),?_⟩
 show gI _ _ _ [.val (dW fs an),.val (.list (p.map dP)),.val (.int (dp:Nat)),.un,.un,.un,.un,.un,.un,.un,.un,.un];have Ci:(((p.map dP).length:Nat):Int)=(p.length:Int):=by rw[aC]
 have en:gE (eK (((p.map dP).length:Nat):Int).toNat)=eS (cK p.length):=by rw[dX,aC];rfl
 have rf:nD p (cK p.length):=aGb.refl _;have hN:=aAp F;have Eh:(jL fs).length=2*(qs fs).length:=by rw[oZ,<- oX,aC]
 have two:∀l:List Qn,(l.flatMap HS).length=2*l.length:=λl=>by
  induction l with
  |nil=>rfl
  |cons x l ih=>rw[zY,bH,ih];show 2+_=2*(l.length+1);lia
 have jm:∀f:List (List Nat),∀kv∈nJ eS f,jX kv.1:=λf=>K1 (kf:=eS) (λx=>(uW x).1) f;have tl:∀l:List (List Nat),(nJ eS l).length=l.length:=λl=>by unfold nJ;rw[aC]
 have S:∀x y:List Nat,eS x=eS y->x=y:=λx y e=>A0 e;refine cL (.list [eS (cK p.length)]) (λq E=>⟨_,Fc,_,Fc,Ez,Ez,Fb,by rw[en];exact E⟩) ?_;refine cL (.int ((0:Nat):Int)) (λq E=>E) ?_
 refine hV (ts:=eK dp) (λR h=>⟨_,Fc,_,Fc,Ez,Ez,by simpa using h⟩)
  (λk σ=>∃(z:Nat)(o:List (List Nat))(s5 s6 J s r c d:Sl),σ=[.val (dW fs an),.val (.list (p.map dP)),.val (.int (dp:Nat)),.val (.list (o.map eS)),.val (.int (z:Nat)),s5,s6,J,s,r,c,d]/\ND [s6,J,s,r,c,d]/\(∀x∈o,nD p x)/\z<=MI (2*(jL fs).length) k/\o.length<=(2*(jL fs).length)^k)
  ⟨0,[cK p.length],_,_,_,_,_,_,_,Fc,⟨nu,nu,nu,nu,nu,nu,trivial⟩,(λx v=>by rw[dF.mp v];exact rf),aN _,aN _⟩ (λk x u v t=>?_) λu t=>?_
 ·obtain⟨z,o,s5,s6,J,s,r,c,d,rfl,⟨n6,n7,M,H,m,n,_⟩,yh,hz,eR⟩:=t;obtain⟨xa,rfl⟩:=iC v;have vx:=CT (2*(jL fs).length) (show k+1<=dp from xa);have yf:MI (2*(jL fs).length) (k+1)=MI (2*(jL fs).length) k+(2*(jL fs).length)^k:=rfl;have zz:(((o.map eS).length:Nat):Int)=(o.length:Int):=by rw[aC]
  refine cL (.int ((z+o.length:Nat):Int)) (λq E=>⟨_,Fc,_,Fc,?_⟩) ?_
  ·show q (.int (((z:Nat):Int)+(((o.map eS).length:Nat):Int)));rw[zz];exact E
  refine tU (w:=w) (show 6<12 by decide) (λj hs kvs U=>?_) ?_
  ·rcases j with _ | _ | _ | _ | _ | _ | _ | _ | _ | _ | _ | _ | j<;>simp at U
   ·exact n6 _ _ U
   ·exact n7 _ _ U
   ·exact M _ _ U
   ·exact H _ _ U
   ·exact m _ _ U
   ·exact n _ _ U
  dsimp only[oW]
  have⟨n0,hn0,ecut⟩:∃n0:Nat,n0<=o.length/\lF (o.map eS) none (some ((((o.map eS).length:Nat):Int)*(if decide (((k:Nat):Int)<((dp:Nat):Int)-1)then 1 else 0)))=(o.take n0).map eS:=by
   rw[zz]
   cases decide (((k:Nat):Int)<((dp:Nat):Int)-1)with
   |true=>exact⟨o.length,aN _,by rw[a7 Fc,wL,oN,rP]⟩
   |false=>exact⟨0,cI _,by rw[a6 Ey,mG];exact oN (o.map eS) 0⟩
  refine hV (ts:=(o.take n0).map eS) (λR h=>⟨_,Fc,_,Fc,_,Fc,_,Fc,?_⟩)
   (λi σ=>∃(f:List (List Nat))(J s r c d:Sl),σ=[.val (dW fs an),.val (.list (p.map dP)),.val (.int (dp:Nat)),.val (.list (o.map eS)),.val (.int ((z+o.length:Nat):Int)),.val (.int ((k:Nat):Int)),pS w (nJ eS f),J,s,r,c,d]/\ND [J,s,r,c,d]/\Lv fs p i 0 f) ⟨[],_,_,_,_,_,Fc,⟨n7,M,H,m,n,trivial⟩,cI _,λx v=>by simp at v⟩ (λi x u v t=>?_) λu t=>?_
  ·exact⟨.inl ⟨Ez,Ez⟩,_,Fc,by rw[ecut];exact h⟩
  ·obtain⟨f,J,s,r,c,d,rfl,⟨n7,M,H,m,n,_⟩,V⟩:=t;rw[aI]at v;obtain⟨y,rA,rfl⟩:=bU.mp v;have vp:=(aE.mp rA).1;rw[aZ]at vp;have W:=yh y (dY (aS rA));have Bb:2*(jL fs).length*i<=80000:=fZ (show 2*(jL fs).length<=200 by lia) (show i<=400 by lia);dsimp only[oW]
   refine JS (ts:=(qs fs).map qD) (λR h=>⟨_,Fc,fs,an,Fc,F,_,Fc,by rw[<- oX];exact h⟩)
    (λj σ=>∃(f:List (List Nat))(s r c d:Sl),σ=[.val (dW fs an),.val (.list (p.map dP)),.val (.int (dp:Nat)),.val (.list (o.map eS)),.val (.int ((z+o.length:Nat):Int)),.val (.int ((k:Nat):Int)),pS w (nJ eS f),.val (eS y),s,r,c,d]/\ND [s,r,c,d]/\Lv fs p i (4*j) f) ⟨f,_,_,_,_,Fc,⟨M,H,m,n,trivial⟩,V⟩ (λj x u v t=>?_) λu t=>?_
   ·obtain⟨f,s,r,c,d,rfl,⟨M,H,m,n,_⟩,V⟩:=t;rw[aI]at v;obtain⟨q0,xg,rfl⟩:=bU.mp v;have yr:=aS xg;have wz:=(aE.mp xg).1;dsimp only[oW]
    refine JS (ts:=[.str "yes",.str "no"]) (λR h=>⟨Fb,_,Fc,h⟩)
     (λl σ=>∃(f:List (List Nat))(r c d:Sl),σ=[.val (dW fs an),.val (.list (p.map dP)),.val (.int (dp:Nat)),.val (.list (o.map eS)),.val (.int ((z+o.length:Nat):Int)),.val (.int ((k:Nat):Int)),pS w (nJ eS f),.val (eS y),.val (qD q0),r,c,d]/\ND [r,c,d]/\Lv fs p i (4*j+2*l) f) ⟨f,_,_,_,Fc,⟨H,m,n,trivial⟩,V⟩ (λl x u v t=>?_) λu t=>?_
    ·obtain⟨f,r,c,d,rfl,_,V⟩:=t;have Bx:l<2:=(aE.mp v).1;obtain⟨st,xh,rfl,hc⟩:=HR yr v;refine AW (a:=eS (yN fs p (q0,st) y)) (b:=eS (nN fs p (q0,st) y)) (λq E=>⟨_,Fc,_,Fc,_,Fc,_,Fc,_,Fc,fs,an,p,(q0,st),y,Fc,F,hR,hl,hc,W,E⟩) ?_;dsimp only[oW];refine mZ (λ_=>True) (λq E=>⟨_,Fc,?_⟩) (λ_=>?_) λ_=>⟨f,_,_,_,Fc,⟨nv,nv,nv,trivial⟩,V.mono Ez⟩
     ·show(if decide _=true then _ else q false);split
      ·exact⟨_,Fc,E _ trivial⟩
      ·exact E _ trivial
     ·have V1:=V.put (x:=yN fs p (q0,st) y) (W.filt _);have V2:=V1.put (x:=nN fs p (q0,st) y) (W.filt _);have g0:=V.1;have g1:=V1.1;refine⟨_,Fc,_,Fc,uW _,jm _,by rw[tl];lia,?_⟩;rw[xA S];refine⟨_,Fc,_,Fc,uW _,jm _,by rw[tl];lia,?_⟩;rw[xA S];exact⟨_,_,_,_,Fc,⟨nv,nv,nv,trivial⟩,V2⟩
    ·obtain⟨f,r,c,d,rfl,⟨H,m,n,_⟩,V⟩:=t;exact⟨f,_,r,c,d,Fc,⟨nv,H,m,n,trivial⟩,V⟩
   ·obtain⟨f,s,r,c,d,rfl,⟨M,H,m,n,_⟩,V⟩:=t;rw[aC]at V;refine⟨f,_,s,r,c,d,Fc,⟨nv,M,H,m,n,trivial⟩,?_,V.2⟩;rw[aM5];have:=V.1;lia
  ·obtain⟨f,J,s,r,c,d,rfl,⟨n7,M,H,m,n,_⟩,V⟩:=t;rw[aC,aZ,pN hn0]at V;refine⟨_,_,Fc,?_⟩;refine mI (.list (f.map eS)) (λq E=>⟨_,Fc,nJ eS f,Fc,by rw[wS];exact E⟩) ?_;refine⟨z+o.length,f,_,_,J,s,r,c,d,Fc,⟨nv,n7,M,H,m,n,trivial⟩,V.2,by rw[yf];lia,?_⟩;rw[uK,uL];exact bG V.1 (fZ (aN _) (bG hn0 eR))
 ·obtain⟨z,o,s5,s6,J,s,r,c,d,rfl,_,_,hz,_⟩:=t;rw[gZ]at hz;exact⟨_,Fc,h _ (bG hz vi)⟩
def Yw:dS P w K mg base hX 60 fw B ["_law_script"] (cG K BN):=by
 refine mB T.D_law.F Zq λl nd ds Q h=>?_;obtain⟨ns,rfl,hl,h⟩:=h;refine⟨_,(aQ (ss 1 nd (cd (Rm T) T.D_61 l (aA (cd (Rf T) T.D_52 l (aA (aH 0) aL)) aL)))
 (aQ (ss 2 nd (rE (cF (D8 T) T.D_50 l (aA (cd (IW T) T.D_49 l (aA (aH 0) (aA aK aL))) (aA aK aL)))))
 (aQ (ss 3 nd (cd (Ri T) T.D_55 l (aA (aH 0) (aA (aH 1) (aA (cJ cZ gU aK (cJ gK oY (bD aX cA (aH 2) aK) aK)) aL)))))
 (aQ (ss 4 nd (cB Xx (aA (cJ gK oY (bD aX cA (aH 2) aK) aK) (aA (cJ cZ gU aK (sC (lP D7 lE (cB gQ (aA (cd (NY T) T.D_62 l (aA (aH 1) aL)) aL) bY T.b_len eZ) aK) (λh=>gH nV Fc T.b_int wG h))) aL)) (Q2 Fc) T.b_min Xt))
 (aQ (ss 5 nd (bD aX cA (kF (aA aK (aA (cJ gK oY (bD aX cA (aH 2) aK) aK) (aA (cJ mO vW aK (bD aX cA (aH 2) aK)) aL)))) (cJ gK oY (bD aX cA (aH 2) aK) aK)))
 (aQ (YC (i:=6) nd Fc (by first | exact v7 Fc | exact r0 Fc) (eM (aA (aH 5) (aA (bD aX cA (kF (aA aK (aA aK (aA (cJ gK oY (bD aX cA (aH 2) aK) aK) (aA (cJ mO vW aK (bD aX cA (aH 2) aK)) aL))))) (cJ gK oY (bD aX cA (aH 2) aK) aK)) aL))))
 (aQ (BL (g:=λ_ _ _ _=>True) (cd (Rs T) T.D_72 l (aA (aH 1) (aA (aH 3) (aA (aH 4) (aA (aH 6) aL))))) (nZ (lC Fc (dQ (pn 7 nd) (dQ (pn 8 nd) jS)))) (λhe hg=>tW he hg))
 (aQ (gT (dN oG lE (cd (Rt T) T.D_73 l (aA (aH 1) (aA (aH 3) (aA (aH 4) aL)))) aK)
 (bC (cR (aH 8)))
 fM)
 (aQ (gT (qR (oC (dN B1 I0 (aH 7) pJ) (oC (yG (tv (V9 (QG _) (aH 7) (λh=>tY J2 Fc T.b_isinstance vL (jC h (jC (NV Fc T.b_tuple kG Fc) lD)))))) (oC (dN B0 LJ (cB gQ (aA (aH 7) aL) bY T.b_len eZ) aK) (rS (tv (V9 (VB _) (bD aX cA (aH 7) aK) (λh=>tY J2 Fc T.b_isinstance vL (jC h (jC (NV Fc T.b_bool aAt Fc) lD))))))))))
 (bC (cR nL))
 fM)
 (aQ (NG (aH 7) (rD (lC Fc (dQ (pn 9 nd) (dQ (pn 10 nd) (dQ (pn 11 nd) jS))))) (λhe hg=>tW he hg))
 (aQ (gT (qR (oC (dN B0 LJ (aH 10) (cd (Ld T) T.D_64 l (aA (aH 1) (aA (aH 9) (aA (aH 3) (aA (aH 6) aL)))))) (oC (dN oG lE (cd (Ro T) T.D_65 l (aA (aH 9) aL)) (aH 4)) (rS (yG (tv (cd (Rp T) T.D_66 l (aA (aH 1) (aA (aH 9) aL)))))))))
 (bC (cR nL))
 fM)
 (aQ (gT (qR (oC (yG (tv (cd (Rr T) T.D_71 l (aA (aH 1) (aA (aH 3) (aA (aH 6) (aA (aH 11) aL))))))) (rS (dN B0 LJ (cd (IZ T) T.D_29 l (aA (aH 1) (aA (aH 9) (aA (aH 3) (aA (aH 6) aL))))) (aH 10)))))
 (bC (cR nL))
 fM)
 (aQ (gT (qR (FM (dN oG lE (aH 4) aK) (AS (dN (lK l) vV (eM (aA (A9 (aA (cB gQ (aA (aH 3) aL) bY T.b_len eZ) aL) (λh=>gH (nC Fc) Fc T.b_tuple kG (jC (gH pY Fc T.b_range xR h) lD))) (aA (aH 4) (aA (aH 10) aL)))) (aH 11)))))
 (bC (cR nL))
 fM)
 (aQ (YE (i:=12) nd Fc (by first | exact v7 Fc | exact r0 Fc) (aA (cd (Sd T) T.D_39 l (aA (aH 1) (aA (aH 3) (aA (aH 4) (aA aK aL))))) aL))
 (aQ (FN (i:=12) (pv 12) (el (fr:=[none]) (N':=["_law_step"]) (eW (rE (cF (Sg T) T.D_45 l (aA (aH 1) (aA (V8 (pv 12) aK) (aA (aH 3) aL)))))) (λb=>⟨(dH (pk 0)),iT,(bD aX cA (aH 0) aK)⟩)) (pb:=λh=>jJ (kJ bT qL qK F7 (pv 12) h)))
 (aQ (sf (eW (jW mX xD (aH 0) (jT aK) (jT aK))) (dH (pn 13 nd))
 (bC (mN (i:=12) (pv 12) (cd (Rk T) T.D_58 l (aA (aH 1) (aA (aAe (cF (D8 T) T.D_50 l (aA (aH 13) (aA aK aL)))) (aA (aH 4) aL)))) (pb:=λh=>jJ (kJ bT dE dD iF (pv 12) h)))))
 (lX 12 (bC (cR (lP (lK l) vV nL (el (fr:=[none,some 10,some 1,some 3,some 6]) (N':=["_law_other","_law_cost_here","_law_form_here","_law_rows_here","_law_prices"]) (eW (aH 12)) (λb=>⟨(dH (pk 0)),iT,(lP NX lE (cd (Ld T) T.D_64 l (aA (aH 2) (aA (aH 0) (aA (aH 3) (aA (aH 4) aL))))) (aH 1))⟩)))))))))))))))))))))),?_⟩
 show gI _ _ _ [.val (.list (ns.map aP)),.un,.un,.un,.un,.un,.un,.un,.un,.un,.un,.un,.un,.un];have ff:¬(false=true):=bN;refine iA (λd=>∃fs an,iG fs an/\d=dW fs an) (λq j=>⟨_,Fc,ns,Fc,hl,λgs an FF=>⟨gs,an,Fc,FF,λfs F=>j _ ⟨fs,an,F,Fc⟩⟩⟩) ?_;rintro _ ⟨fs,an,F,rfl⟩;refine iA (λd=>∃bs,AJ 24 bs/\d=.list (bs.map aP)) (λq j=>⟨_,Fc,ns,6,Fc,hl,Ey,Ey,λr=>⟨r,24,Fc,Ey,λbs M=>j _ ⟨bs,M,Fc⟩⟩⟩) ?_;rintro _ ⟨bs,M,rfl⟩;obtain⟨W,Ej,Er,Am⟩:=kH M (i:=13) Ey Ey;obtain⟨n,Ek,Es,An⟩:=kH M (i:=14) Ey Ey;obtain⟨zl,El,Et,zo⟩:=kH M (i:=15) Ey Ey;obtain⟨Af,Em,Eu,Ao⟩:=kH M (i:=16) Ey Ey;obtain⟨zm,En,Ev,zp⟩:=kH M (i:=17) Ey Ey;obtain⟨Ag,Eo,Ew,Ap⟩:=kH M (i:=18) Ey Ey;refine iA (λd=>∃f,gF fs an f/\2<=f.length/\f.length<=10/\d=.list (f.map dP)) (λq j=>⟨_,Fc,_,Fc,_,Fc,_,Am,(show(0:Int)<9 by decide),ns,fs,an,(2+W%9).toNat,?_,hl,F,Ez,λf g1 g2=>j _ ⟨f,g1,Ez,Ez,Fc⟩⟩) ?_
 ·rw[show(((2+W%9).toNat:Nat):Int)=2+W%9 by lia]
 rintro _ ⟨f,y,hE,Cf,rfl⟩;dsimp only[oW];have im:f≠[]:=λe=>by rw[e]at hE;exact a9 hE Ey
 refine iA (λd=>∃dp:Nat,dp<=3/\MI (2*(jL fs).length) dp<=400/\d=.int (dp:Nat)) (λq j=>?_) ?_
 ·refine⟨_,Fc,_,An,(show(0:Int)<4 by decide),_,Fc,fs,an,Fc,F,?_⟩;have n4:=F.n4;have sj:=iY F fs λg hg=>hg;have zx:=oZ fs;have c2:∀k,k<=2->MI (2*(jL fs).length) k<=400:=λk hk=>bG (CT _ hk) (show 0+1+(2*(jL fs).length)^1<=400 by rw[aNm];lia);show q (.int (if 2+(if decide (((eO fs).length:Int)<=4)then(1:Int)else 0)<n%4 then 2+(if decide (((eO fs).length:Int)<=4)then(1:Int)else 0)else n%4));by_cases e:n%4=3
  ·rw[e];by_cases e4:(eO fs).length<=4
   ·rw[a8 (show((eO fs).length:Int)<=4 by lia)];refine j _ ⟨3,Fb,?_,Fc⟩;show 0+1+(2*(jL fs).length)^1+(2*(jL fs).length)^2<=400;have:(2*(jL fs).length)^2<=16^2:=Nat.pow_le_pow_left Ez 2;rw[aNm];lia
   ·rw[c4 (show¬((eO fs).length:Int)<=4 by lia)];exact j _ ⟨2,Fb,c2 2 Fb,Fc⟩
  ·have key:∀z:Int,0<=z->(if 2+z<n%4 then 2+z else n%4)=n%4:=λz H=>a6 Ez;rw[key _ (by split<;>decide)];exact j _ ⟨(n%4).toNat,Ez,c2 _ Ez,by rw[pQ Ez]⟩
 rintro _ ⟨dp,wy,vi,rfl⟩;refine iA (λd=>∃a:Int,(0<=a/\a<=1000000)/\d=.int a) (λq j=>?_) ?_
 ·obtain⟨z,H,zb,_⟩:=oP (xs:=[aP 1,.int (zl%10),.int (1000000-zl)]) (i:=Af%3) (eA _ Ey) (dL _ Ey);refine⟨_,Fc,_,zo,(show(0:Int)<10 by decide),_,Fc,_,zo,Fb,_,Fc,_,Ao,(show(0:Int)<3 by decide),z,zb,?_⟩;simp only[aY,dR,j3]at H;rcases H with rfl | rfl | rfl
  ·exact j _ ⟨_,⟨Ey,Ey⟩,Fc⟩
  ·exact j _ ⟨_,⟨Ez,Ez⟩,Fc⟩
  ·exact j _ ⟨_,⟨Ez,Ez⟩,Fc⟩
 rintro _ ⟨a,⟨a0,a1⟩,rfl⟩;dsimp only[oW];refine iA (λd=>∃b:Int,(0<=b/\b<=1000000)/\d=.tuple [.int a,.int b]) (λq j=>?_) ?_
 ·obtain⟨z,H,zb,_⟩:=oP (xs:=[aP 0,.int 1,.int (zm%10),.int (1000000-zm)]) (i:=Ag%4) (eA _ Ey) (dL _ Ey);refine⟨_,Fc,_,Fc,_,zp,(show(0:Int)<10 by decide),_,Fc,_,zp,Fb,_,Fc,_,Ap,(show(0:Int)<4 by decide),z,zb,Fb,?_⟩;simp only[aY,dR,j3]at H;rcases H with rfl | rfl | rfl | rfl
  ·exact j _ ⟨_,⟨Ey,Ey⟩,Fc⟩
  ·exact j _ ⟨_,⟨Ey,Ey⟩,Fc⟩
  ·exact j _ ⟨_,⟨Ez,Ez⟩,Fc⟩
  ·exact j _ ⟨_,⟨Ez,Ez⟩,Fc⟩
 rintro _ ⟨b,⟨b0,b1⟩,rfl⟩;dsimp only[oW];obtain⟨fa,p⟩:=Pz F;have S:sR fs an fa f a b:=⟨F,p,y,Ez,a0,a1,b0,b1⟩;refine(show gI (YR _ _ _) _ _ _ from⟨_,Fc,_,Fc,_,Fc,_,Fc,fs,an,fa,f,a,b,dp,Fc,S,im,wy,vi,λks hG=>⟨_,_,Fc,?_⟩⟩);dsimp only[oW];refine fW (λz=>z=false) (λq j=>⟨_,Fc,_,Fc,_,Fc,fs,an,f,dp,Fc,F,y,Ez,wy,vi,λz H=>j _ (c4 Ez)⟩) (λo=>by cases o) λ_=>?_
 try unfold jD
 dsimp only;obtain⟨o,hC⟩:=zB (a:=a) (b:=b) p dp f y;obtain⟨yy,yx⟩:=o.ok;have vq:=hG.2.2.2.1
 have tl:∀x∈ks.map (xN fs fa a b f),x.canLay0=true/\x.depth<=2:=λx E=>by
  obtain⟨z,_,rfl⟩:=aR.mp E;refine⟨?_,?_⟩
  ·show(dO (z.1.map λ(i:Nat)=>aP (i:Int))&&(true&&(true&&true)))=true;rw[uB];rfl
  ·show max (dJ (z.1.map λ(i:Nat)=>aP (i:Int))+1) (max 0 (max 0 0))+1<=2;rw[(xK z.1).2];decide
 have U:0<dp->gE [eS (cK f.length),.int (dp:Nat),.int (fG fs fa a b dp f).1]∈ks.map (xN fs fa a b f):=λh0=>aR.mpr ⟨_,vq h0,by unfold xN;dsimp only;rw[IL]⟩;have yl:=λt h1 h2=>F6 (a:=a) (b:=b) F p a0 b0 t dp f h1 h2 y;unfold Hj
 generalize fG fs fa a b dp f=bt at *
 obtain⟨c,t⟩:=bt;dsimp only at o hC yy yx U yl |-
 have k8:∀u:Tr,u.dep<=dp->u.kn<=7:=λu hu=>by
  have:=u.kn_dep;have:2^u.dep<=2^3:=lR Ey Ez;lia
 have xh:=k8 t yx;refine fW (λz=>z=false) (λq j=>⟨_,Fc,?_⟩) (λo=>by cases o) λ_=>?_
 ·change Gv (Hb (CW (Je "tuple" (AD 7)))) _ _ q
  refine⟨_,Fc,Eq.mpr (a6 (t:=q true) (c:=(!Z2 "tuple" (.tuple [jG t,.int c,.list (ks.map (xN fs fa a b f))]))=true) ff) ⟨_,Fc,Eq.mpr (a6 (t:=q true) (c:=(!decide ((3:Int)=3))=true) ff) ⟨_,Fc,_,Fc,j _ Fc⟩⟩⟩
 try unfold jD
 dsimp only;refine IK (λq j=>⟨_,Fc,j⟩) ?_;dsimp only[oW];refine fW (λz=>z=false) (λq j=>⟨_,Fc,_,Fc,_,Fc,_,Fc,_,Fc,fs,an,t,f,a,b,Fc,F,yy,Ez,y,Ez,a0,a1,b0,b1,?_⟩) (λo=>by cases o) λ_=>?_
 ·show(if(!decide (c=a*((eE fs t f:Nat):Int)+b*((t.kn:Nat):Int)))=true then q true else _);rw[a8 hC,a6 Ey];refine⟨_,Fc,t,Fc,Ez,Ez,_,Fc,?_⟩;show(if decide (((dp:Nat):Int)<((t.dep:Nat):Int))=true then q true else _);rw[c4 Ez,a6 ff];exact⟨_,Fc,_,Fc,fs,an,t,dp,Fc,F,o,Ez,j _ Fc⟩
 try unfold jD
 dsimp only;refine fW (λz=>z=false) (λq j=>⟨_,Fc,_,Fc,_,Fc,_,Fc,fs,an,fa,f,a,b,ks,cK f.length,dp,Fc,S,Ez,hG,?_⟩) (λo=>by cases o) λ_=>?_
 ·show(if(!true)=true then q true else _);rw[a6 Ey];refine⟨_,Fc,_,Fc,_,Fc,_,Fc,fs,an,t,f,a,b,Fc,F,yy,Ez,Ez,y,Ez,a0,Ez,b0,Ez,_,Fc,j _ ?_⟩;show(!decide (a*((eE fs t f:Nat):Int)+b*((t.kn:Nat):Int)=c))=false;rw[<- hC,a8 rfl];rfl
 try unfold jD
 dsimp only;refine fW (λz=>z=false) (λq j=>⟨_,Fc,?_⟩) (λo=>by cases o) λ_=>?_
 ·show(if decide (((dp:Nat):Int)>0)=true then _ else q false);by_cases EC:dp=0
  ·rw[a6 (λz=>by have:=b8 z;lia)];exact j _ Fc
  ·rw[a7 (a8 Ez)];have hm:=U Ez;have ht:=tl _ hm;have en:gE (eK (((f.map dP).length:Nat):Int).toNat)=eS (cK f.length):=by rw[dX,aC];rfl
   refine⟨_,Fc,(((f.map dP).length:Nat):Int),Fc,Ez,by rw[aC];lia,_,Fc,_,Fc,Fb,_,Fc,?_⟩;rw[en];refine⟨⟨B7 λx E=>(tl x E).1,ht.1,bG (sX _ _) Ez⟩,?_⟩;have ev:A7 (.tuple [eS (cK f.length),.int (dp:Nat),.int c]) (.list (ks.map (xN fs fa a b f)))=true:=sT.mpr ⟨_,hm,bf _ ht.1⟩;show q (!A7 _ _);rw[ev];exact j _ Fc
 try unfold jD
 dsimp only;refine(show gI (PR _ _) _ _ _ from⟨_,Fc,_,Fc,_,Fc,fs,an,f,dp,1,Fc,F,y,Ez,Ez,λm g1 g2=>⟨Fb,?_⟩⟩);have g3:=k8 m g2;obtain⟨s1,s2⟩:=D2 p y (d:=dp) (lw fs fa 1 0 m f).2.kn (0,1) (lw fs fa 1 0 m f).2 (EE p _ _ m f g1 y).1 (bG (yQ ..) g2);have s3:(lw fs fa 1 0 m f).2.kn<=7:=k8 _ (bG (yQ ..) g2);refine(show gI (SN _ _) _ _ _ from⟨_,Fc,?_⟩);refine jK (ts:=(rT fs fa m f).map Fg) (λR h=>⟨_,Fc,_,Fc,0,jG m,Fc,Fc,_,Fc,fs,an,fa,m,f,Fc,F,p,g1,Ez,Ez,y,Ez,_,Fc,h⟩) Kd (by rw[aC];exact bG s2 Ez) (λx q E j=>?_) ⟨_,Fc,?_,?_⟩
 ·obtain⟨z,_,rfl⟩:=aR.mp E;exact⟨_,Fc,_,Fc,j⟩
 ·rw[aC,aC];exact bG (Nat.add_le_add_left s2 _) (by show 1+_<=_;lia)
 have eu:[jG m]++((rT fs fa m f).map Fg).map Kd=(m::(rT fs fa m f).map (·.2)).map jG:=by rw[bM,bE,bM];rfl
 rw[eu];dsimp only[oW]
 have lS:(m::(rT fs fa m f).map (·.2)).length<=10:=by
  show((rT fs fa m f).map (·.2)).length+1<=10;rw[aC];exact aA4 (bG s2 Ez)
 have s:∀u∈m::(rT fs fa m f).map (·.2),lQ fs an u/\u.dep<=dp:=λu hu=>by
  rcases aY.mp hu with rfl | hu
  ·exact⟨g1,g2⟩
  ·obtain⟨z,H,rfl⟩:=aR.mp hu;exact s1 z H
 generalize (m::(rT fs fa m f).map (·.2))=J at lS s
 refine hV (ts:=(lF ns (some 20) (some 32)).map aP) (λR h=>⟨_,Fc,_,Fc,by rw[oA];exact h⟩)
  (λk σ=>∃(J:List Tr)(ze:Sl),σ=[.val (.list (ns.map aP)),.val (dW fs an),.val (.list (bs.map aP)),.val (.list (f.map dP)),.val (.int (dp:Nat)),.val (.int a),.val (.tuple [.int a,.int b]),.val (.tuple [jG t,.int c,.list (ks.map (xN fs fa a b f))]),.val (.bool false),.val (jG t),.val (.int c),.val (.list (ks.map (xN fs fa a b f))),.own (J.map jG),ze]/\J.length<=10+k/\∀u∈J,lQ fs an u/\u.dep<=dp) ⟨J,_,Fc,lS,s⟩ (λk x bi E hP=>?_) λbi hP=>?_
 ·obtain⟨J,ze,rfl,xi,s⟩:=hP;rw[aI]at E;obtain⟨i,hi,rfl⟩:=bU.mp E;have hk:=(aE.mp hi).1;have sj:=OJ ns (some 20) (some 32);refine⟨_,Fc,_,Fc,_,Fc,i,30,Fc,Ey,λcs hc=>⟨cs,Fc,by rw[hc.1];decide,hc.2,_,Fc,fs,an,dp,Fc,F,Ez,λu h1 h2=>⟨by rw[aC];lia,J++[u],.val (.int i),by rw[bB];rfl,by rw[bH];show _+1<=_;lia,λv hv=>?_⟩⟩⟩;rcases dZ.mp hv with hv | hv
  ·exact s v hv
  ·rw[dF.mp hv];exact⟨h1,h2⟩
 ·obtain⟨J,ze,rfl,xi,s⟩:=hP;have sj:=OJ ns (some 20) (some 32);rw[aC]at xi;refine⟨_,Fc,?_⟩;dsimp only[sV,KI,eC];refine jK (ts:=J.map jG) (λR h=>⟨_,Fc,_,Fc,h⟩) (λ_=>.bool true) (by rw[aC];lia) (λx q E j=>?_) ?_
  ·obtain⟨u,hu,rfl⟩:=aR.mp E;obtain⟨h1,h2⟩:=s u hu;have h3:=k8 u h2;refine⟨_,Fc,_,Fc,_,Fc,_,Fc,fs,an,u,f,a,b,Fc,F,h1,Ez,y,Ez,a0,a1,b0,b1,_,Fc,?_⟩;show q (.bool (decide (c<=a*((eE fs u f:Nat):Int)+b*((u.kn:Nat):Int))));rw[a8 (yl u h1 h2)];exact j
  ·rw[bM];exact J6 h
def Xq:dS P w K mg base hX 60 fw B ["_law_script"] (cG K BN):=Yw T
def aFv{l:db}{fa:Addr}(a:mg "law"=some (.ref fa)):∃b:iW,(∀s(v:Value),BindsTo s b ⟨[v],[]⟩ [("_law_script",v)])/\∀base:Heap,K.In base->base.Ns iR mg->dS l.prog w K mg base hX 60 fa b ["_law_script"] (cG K BN):=by
 have e:=a.symm.trans T.D_law.m;cases e;refine⟨B,?_,λbase _ _=>Xq T⟩;obtain⟨_,_,_,_,_,_,_,_,_,e,_⟩:=T.D_law.F.ex;rw[e]
 exactλs v=>.of_eq Fc
omit T
def U9{t n:Nat}(l:K.lookup t=some ⟨.type "tuple",none,.seq #[.str "yes" k0,.str "no" k1] n,s⟩):Hf K t ["yes","no"]:=⟨_,_,_,l,Fc,Fc,Fc,(by show 2<=bO;decide),.cons ⟨_,Fc⟩ (.cons ⟨_,Fc⟩ (.nil))⟩
def UY:bR H (mask H []):=λb o e=>by
 unfold mask;rw[a6 Fa];exact e
theorem EJ{K}:∀ns:List Int,Reps K H (ns.map aP) (ns.map V.int)
|[]=>.nil
|n::ns=>.cons (.int n) (EJ ns)
def aNs{l:db}{g:(Str->Option Value)->Heap->Prop}{b:c7->Heap->Prop}{d:DefRec}{K:Params->aM}(t:l.most=some 63)(c:d.params.defaults=[])
  (m:∀(w:c7)(h:Heap),b w h->(K w.params).In h) (j:∀(w:c7)(h:Heap),b w h->∀P,tabA=some P->h.get? P=some { cls:=.none,data:=.fields #[] }/\(K w.params).lookup P=none/\cn h P)
  (F:∀(w:c7)(mg:Str->Option Value)(fa:Addr)(h:Heap),(K w.params).In h->h.Ns iR mg->mg d.name=some (.ref fa) ->
   ∃e:iW,(∀s(u:Value),BindsTo s e ⟨[u],[]⟩ [("_law_script",u)])/\∀base:Heap,(K w.params).In base->base.Ns iR mg->dS l.prog w (K w.params) mg base hX 60 fa e ["_law_script"] (cG (K w.params) BN)) :
  XJ q loose g b l.row.toRowW d [] (λf vs=>ij f vs):=
 L2.XU (n:=63) (k:=60) (x:="_law_script") (CX:=λ_=>hX) (sp:=λw=>cG (K w.params) BN) t Ey c ⟨Fc,Ey,Ey,Fc⟩ m j F
  (λw H a ns o _ i=>⟨[],[.list (ns.map aP)],λd=>d=.bool true,λp y=>by simp at y,.cons (.list (L2.bR.seq UY i) (EJ ns)) .nil,⟨ns,Fc,o,Fc⟩,λd v E _ r q=>by subst q;cases r;rfl⟩) λ_ _ _ _ _ z=>z
end
end K91
open L2
namespace PySem.W.Fast
theorem mt:True:=⟨⟩
def tw7040824545525141025:=mt
def tw14607631206919812169:=mt
def tw16810711278882392796:=mt
def tw7143675038888911362:=mt
def tw17381743626353075027:=mt
def tw2745171575790246486:=mt
def tw7658041223392699105:=mt
def tw12488267227481883863:=mt
def tw14383220924901899632:=mt
def tw3628201889929756740:=mt
def tw12147245494372670559:=mt
def tw15394677580289832941:=mt
def tw17246339839618515114:=mt
def tw7090268364266935435:=mt
def tw15771324181380381997:=mt
def tw7125765094638607222:=mt
def tw7037129956501560721:=mt
def tw11594960193758655773:=mt
def tw17334841523994083860:=mt
def tw6141278728460592214:=mt
def tw10933663240620851350:=mt
def tw3886399412398679339:=mt
def tw2403460816383755425:=mt
def tw2027940545732687308:=mt
def tw7710110802762756995:=mt
def tw3732320483345958776:=mt
def tw7525088323418937631:=mt
def tw7782405699906779642:=mt
def tw16419983839262323457:=mt
def tw17505102725613681701:=mt
def tw8929657539503668633:=mt
def tw7180920624935900045:=mt
def tw15952758323650897255:=mt
def tw7299579584758693629:=mt
def tw14711549544448429312:=mt
def tw14876147469581759129:=mt
def tw5151814179415862737:=mt
def tw11153425617518328895:=mt
def tw924524668650678259:=mt
def tw9243729976572069048:=mt
def tw14168027481274710264:=mt
def tw5328165716464770463:=mt
def tw8658892051109373048:=mt
def tw14381756306847913464:=mt
def tw6675543628798182604:=mt
def tw9252346757486288426:=mt
def tw18313828267603059197:=mt
def tw18218092862238269382:=mt
def tw8601675586895742467:=mt
def tw5217000272664764304:=mt
def tw2874712872158926811:=mt
def tw14284585891787033469:=mt
def tw16652131550026994303:=mt
def tw17680657839488097172:=mt
def tw2942917457281321457:=mt
def tw13945559202801122547:=mt
def tw7105878874133549218:=mt
def tw9126735217795685633:=mt
def tw12590875328703149415:=mt
def tw9475295827935279716:=mt
def tw16125660615647785825:=mt
def tw7573480996337523878:=mt
def tw991643678176882713:=mt
def tw2090849694775403993:=mt
def tw9663916010253889732:=mt
def tw13661169908732562496:=mt
def tw4432314387762364738:=mt
def tw13117840580174758075:=mt
def tw16746795250098811499:=mt
def tw4982137107490196724:=mt
def tw120518547694212656:=mt
def tw13850787707215201150:=mt
def tw1777089420041449607:=mt
def tw13164920108944022652:=mt
def tw12042233936692325706:=mt
def tw18335176149164609689:=mt
def tw13692554091286184899:=mt
def tw17274441798996823167:=mt
def tw1764449669532844924:=mt
def tw7762858749434369547:=mt
def tw1657913845331533314:=mt
def tw1161858720449017963:=mt
def tw6726233848916671419:=mt
def tw589007771981794907:=mt
def tw13553997652128026337:=mt
def tw2485718824179428647:=mt
def tw18426161226864529618:=mt
def tw17632391615823917962:=mt
def tw6948310232930417662:=mt
def tw9206435206957532940:=mt
def tw12602901316191726017:=mt
def tw10689836061552312017:=mt
def tw6025853906929285525:=mt
def tw9802224888893251265:=mt
def tw7090964818519292050:=mt
def tw3089847598612105272:=mt
def tw3537506975814938107:=mt
def tw16860606814559573932:=mt
def tw17057706308547100427:=mt
def tw15423024566920440359:=mt
def tw9467342417128901366:=mt
def tw10259079790362447183:=mt
def tw7094949874354201893:=mt
def tw16720656429397095656:=mt
def tw4386271895966199436:=mt
def tw12644186706271566100:=mt
def tw372430333068280018:=mt
def tw8122038559695739506:=mt
def tw11971966845222761627:=mt
def tw5654592784559706316:=mt
def tw936438750235676237:=mt
def tw16200017407500793843:=mt
def tw15614693726676482462:=mt
def tw5099362654187333507:=mt
def tw590449996319783296:=mt
def tw15080854362963715301:=mt
def tw4846131093905489964:=mt
def tw17622268161527468792:=mt
def tw9207999858471914404:=mt
def tw16651881915792617447:=mt
def tw596735433221780013:=mt
def tw16230107602519273180:=mt
def tw5565926180396767105:=mt
def tw15980187646119701741:=mt
def tw10274217817948529653:=mt
def tw1037074897227539092:=mt
def tw9972811474364533476:=mt
def tw277855908599525392:=mt
def tw6925701280653972909:=mt
def tw6078919810737097121:=mt
def tw16546788213632119906:=mt
def tw2229585485907325694:=mt
def tw17212636759488086098:=mt
def tw8126392218489111513:=mt
def tw1129120585685921777:=mt
def tw4222729894669559698:=mt
def tw7341920305664638973:=mt
def tw12122710842998168078:=mt
def tw6633175033431282145:=mt
def tw13141514570121643191:=mt
def tw16649982659708661590:=mt
def tw7604278583723841208:=mt
def tw2614671734335097165:=mt
def tw13002699287286560968:=mt
def tw5023172011534600311:=mt
def tw7264552858041084745:=mt
def tw1655687637341836992:=mt
def tw3550728480058668915:=mt
def tw11562958156779247858:=mt
def tw18420892071374709182:=mt
def tw8957429512599197999:=mt
def tw9946763522618182397:=mt
def tw2946874432663802218:=mt
def tw17974283393981845870:=mt
def tw17549796660168061166:=mt
def tw7262373057919092911:=mt
def tw7731814481540495421:=mt
def tw17833723248031535746:=mt
def tw16260677757598014874:=mt
def tw12138148579545274387:=mt
def tw8150041866919584660:=mt
def tw9529002116630062835:=mt
def tw11780776016042146676:=mt
def tw10417899045377597988:=mt
def tw6095070759293029873:=mt
def tw7429437555827711348:=mt
def tw12006868273089478430:=mt
def tw10427610884742138494:=mt
def tw14534534133093778094:=mt
def tw15258567613246193137:=mt
def tw17132951773817231415:=mt
def tw15520609574978465412:=mt
def tw7112599255156187788:=mt
def tw12077749464596552950:=mt
def tw3241492788504784324:=mt
def tw18118574841741674065:=mt
def tw7711109623858012303:=mt
def tw15153455503724820492:=mt
def tw10682832270207632756:=mt
def tw7099789085171882057:=mt
def tw6078050769644787324:=mt
def tw17647048084916078348:=mt
def tw16361422369074795076:=mt
def tw17240038324611119602:=mt
def tw6336771295959036452:=mt
def tw10100948292443748173:=mt
def tw2499020386797696703:=mt
def tw11709955884972759481:=mt
def tw930679031751385845:=mt
def tw1255705237243802093:=mt
def tw17521748119032250118:=mt
def tw268037629020267087:=mt
def tw9317865085126289014:=mt
def tw10669557414274109811:=mt
def tw17642534039380702823:=mt
def tw12074628048263836797:=mt
def tw12745274029436258213:=mt
def tw8500227518128667090:=mt
def tw9479725585152986237:=mt
def tw4703780178835319157:=mt
def tw334093551939703786:=mt
def tw709518784119352728:=mt
def tw12668916657516950528:=mt
def tw11323050404945255228:=mt
def tw8679668670218829413:=mt
def tw14102701651430398242:=mt
def tw11199766399684805096:=mt
def tw889074627122901616:=mt
def tw6067147365746133648:=mt
def tw10098966636591647146:=mt
def tw2640499247642450722:=mt
def tw13904648802967207639:=mt
def tw16699021037300990701:=mt
def tw3384181299199078363:=mt
def tw3346071027477431314:=mt
def tw3836272467243105592:=mt
def tw712431892874189888:=mt
def tw3165156210600268631:=mt
def tw10911294784136798889:=mt
def tw3641983362393182886:=mt
def tw17942197773905474075:=mt
def tw16113436616122732024:=mt
def tw15229394250952647267:=mt
def tw15696319864405394370:=mt
def tw1131701080422334381:=mt
def tw16069574105580277333:=mt
def tw14718136962493232282:=mt
def tw7102603926025329395:=mt
def tw11109218303083292351:=mt
def tw3635226409857943136:=mt
def tw3985144001985360586:=mt
def tw9786393263625866339:=mt
def tw3264912896960314269:=mt
def tw128343519388324236:=mt
def tw13320575752640801828:=mt
def tw924855302413832118:=mt
def tw3104980068550402440:=mt
def tw5937863635414985586:=mt
def tw8432517154380653754:=mt
def tw4097258140278783595:=mt
def tw2532816014005893357:=mt
def tw11071808175132511568:=mt
def tw17336081358490355159:=mt
def tw9201821345180476484:=mt
def tw12617458943488305177:=mt
def tw636749287013961189:=mt
def tw10664225246683206012:=mt
def tw1409007573559910872:=mt
def tw14236158621023912078:=mt
def tw17572514762282885911:=mt
def tw13715990885056589794:=mt
def tw13011690212443617641:=mt
def tw17187887809450247648:=mt
def tw1551325664419355663:=mt
def tw6369380410761828632:=mt
def tw829194416665686297:=mt
def tw10774008890238812414:=mt
def tw668774875233711473:=mt
def tw6856825600059819395:=mt
def tw3331640066503131232:=mt
def tw4074913324575819944:=mt
def tw5438704463452538228:=mt
def tw2442322868252133204:=mt
def tw6648578523634192545:=mt
def tw8480408528613115607:=mt
def tw8547539875080019614:=mt
def tw17614452054027247824:=mt
def tw5792324928510300182:=mt
def tw908837885270391455:=mt
def tw5273228466622026685:=mt
def tw2530566815196690102:=mt
def tw7502447016461126780:=mt
def tw12957086123047918225:=mt
def tw5268484115166997537:=mt
def tw6749555349627329934:=mt
def tw4779546770466791939:=mt
def tw1192044309422448318:=mt
def tw13162771234503551714:=mt
def tw16792004058267978685:=mt
def tw9580221005392012778:=mt
def tw5831126501093409601:=mt
def tw18061603679588422047:=mt
def tw1844839313438241050:=mt
def tw3315291599895897847:=mt
def tw7014003841827918597:=mt
def tw10487114782760794705:=mt
def tw3533251812773863252:=mt
def tw8683776397245117288:=mt
def tw3829021883279880499:=mt
def tw502726066738606188:=mt
def tw8959092778835824350:=mt
def tw17469554541574196444:=mt
def tw3000105586607459090:=mt
def tw780365024499443334:=mt
def tw14279391158906743699:=mt
def tw12310409805017228166:=mt
def tw18025941942549805449:=mt
def tw14093260902811579313:=mt
def tw15956624132759957643:=mt
def tw15185908925889880798:=mt
def tw13776672889999084033:=mt
def tw5017718835002262708:=mt
def tw1301516920735544826:=mt
def tw8248467933175772398:=mt
def tw10108941257509891775:=mt
def tw1999763010406790422:=mt
def tw6148236830638823238:=mt
def tw7284504355642799001:=mt
def tw17083523909179620620:=mt
def tw6023317649917660467:=mt
def tw242111661592784604:=mt
def tw17106281516912934470:=mt
def tw12109046234973278669:=mt
def tw13689086569852104463:=mt
def tw7859032304419256440:=mt
def tw10645238330106350693:=mt
def tw9876010039204162481:=mt
def tw9544624413744671977:=mt
def tw3700850257870041058:=mt
def tw208552722253109495:=mt
def tw969174099412726458:=mt
def tw4626308910330888696:=mt
def tw2513839097055219788:=mt
def tw5745780069272740451:=mt
def tw9495961717016681428:=mt
def tw1653769777072423694:=mt
def tw7699450692939889177:=mt
def tw5986063814237887073:=mt
def tw6778069057491834600:=mt
def tw17559672153590258143:=mt
def tw4087083341109242604:=mt
def tw3772335106419122596:=mt
def tw5999236757080766421:=mt
def tw17077487792156583049:=mt
def tw5314183305675213257:=mt
def tw9359636235312338977:=mt
def tw1241886114440254763:=mt
def tw12671365933423529118:=mt
def tw5942789750393434475:=mt
def tw16855931114079062835:=mt
def tw14749112510198975111:=mt
def tw1805597789301759183:=mt
def tw12423404333745599932:=mt
def tw13147702297354680000:=mt
def tw5942881919002080045:=mt
def tw256849741852933793:=mt
def tw13612649388405866299:=mt
def tw8059244982652439020:=mt
def tw5392189265757248025:=mt
def tw6575026883517701378:=mt
def tw14048974496798923437:=mt
def tw15930001907327972311:=mt
def tw1770016107728134023:=mt
def tw1335460659865035267:=mt
def tw13403066935258936076:=mt
def tw16810718310467958065:=mt
def tw14097010723344671076:=mt
def tw1249150609507319442:=mt
def tw16341126574284246760:=mt
def tw7475952084208615156:=mt
def tw15848723385602398037:=mt
def tw18390441969313005627:=mt
def tw3288681874068707975:=mt
def tw8315456754648125934:=mt
def tw12214779445752370995:=mt
def tw14538264370629500833:=mt
def tw11808037299347763230:=mt
def tw17712213551228267551:=mt
def tw13540590334747321108:=mt
def tw11408471262740532981:=mt
def tw11150956632128884091:=mt
def tw9769169313133627221:=mt
def tw4051776689693360383:=mt
def tw12631572749246186500:=mt
def tw3942754099273203678:=mt
def tw9846451078549273302:=mt
def tw6594951056512584274:=mt
def tw18234588750344060738:=mt
def tw9713376434681327800:=mt
def tw2485474825661179378:=mt
def tw17537284948864857504:=mt
def tw2368741632742388843:=mt
def tw10571609759180568660:=mt
def tw11113579942656808314:=mt
def tw8221769238154891111:=mt
def tw8842388353951560669:=mt
def tw643056253573780423:=mt
def tw17681735494590082433:=mt
def tw15611977113950976115:=mt
def tw1769673476954963549:=mt
def tw7130856229046053141:=mt
def tw10376066851749201964:=mt
def tw12626805471632628954:=mt
def tw15701310213784134148:=mt
def tw16591974726953265116:=mt
def tw886241904681837809:=mt
def tw13431519004721563119:=mt
def tw15316118659447858345:=mt
def tw11385287175957086917:=mt
def tw16423813524067455992:=mt
def tw11482097932982996615:=mt
def tw7913188550443777283:=mt
def tw5999200830278213907:=mt
def tw15267246859736390640:=mt
def tw5109123727039587980:=mt
def tw4734754174662301283:=mt
def tw217549364863994122:=mt
def tw549573850012722126:=mt
def tw16618480939020266207:=mt
def tw9589043471315000468:=mt
def tw17782798670182764869:=mt
def tw17960105829538288643:=mt
def tw9303938798861304187:=mt
def tw18107951919024482200:=mt
def tw2339508419387803742:=mt
def tw102433854957216861:=mt
def tw17399815372489159386:=mt
def tw11066761956551080112:=mt
def tw3049176980170466423:=mt
def tw7870941788259915740:=mt
def tw11931029915469034026:=mt
def tw15008518440720146971:=mt
def tw2431350759835233275:=mt
def tw6491887319034631306:=mt
def tw15599758688466685282:=mt
def tw10029570339292113581:=mt
def tw4466149401356016556:=mt
def tw8441433377919142414:=mt
def tw2076110702738882386:=mt
def tw213572208261979453:=mt
def tw3962398077141082485:=mt
def tw13316222758243759096:=mt
def tw4188478264568905230:=mt
def tw2788989154994651956:=mt
def tw15419263935823473110:=mt
def tw13120325312233957965:=mt
def tw8049938118637739671:=mt
def tw12655972801535274988:=mt
def tw16876920839911202342:=mt
def tw14323040609551592693:=mt
def tw6556711077895888751:=mt
def tw2722968057874563485:=mt
def tw245890002366290924:=mt
def tw3247427541372064711:=mt
def tw219521601589392696:=mt
def tw18295813960420682002:=mt
def tw11214491960674538149:=mt
def tw12140733624641244997:=mt
def tw5829578659729150785:=mt
def tw11376886235846109307:=mt
def tw9915556083024643259:=mt
def tw8712195207517596076:=mt
def tw531211829656489260:=mt
def tw3448941598218497279:=mt
def tw16686478050422821772:=mt
def tw15293505205356336533:=mt
def tw13096449683415765235:=mt
def tw11493222398344688510:=mt
def tw18280110194423151099:=mt
def tw1556569945554752028:=mt
def tw632189715665121474:=mt
def tw3415186560943586497:=mt
def tw2626267106582111575:=mt
def tw15366849861939218456:=mt
def tw17814064141246827945:=mt
def tw14947290158393547319:=mt
def tw10076781361367422917:=mt
def tw8235515786234483317:=mt
def tw2252982890801589263:=mt
def tw14706672262910456458:=mt
def tw16667532270945845098:=mt
def tw7555419520706674238:=mt
def tw17473141823756237596:=mt
def tw302733573780332389:=mt
def tw15069427630567602484:=mt
def tw2805414829654882921:=mt
def tw9052863945055832169:=mt
def tw14048338779484007710:=mt
def tw9187291884424715110:=mt
def tw2404312661276236215:=mt
def tw3656846520801008996:=mt
def tw8740380037857024259:=mt
def tw13381060526922829897:=mt
def tw5817619178483248428:=mt
def tw4774987937615760697:=mt
def tw14833940932296981277:=mt
def tw1288508285067126295:=mt
def tw3879913596906878545:=mt
def tw17851096648412682309:=mt
end PySem.W.Fast
open PySem PySem.W PyProof.Rows
set_option maxRecDepth 100000 in
set_option maxHeartbeats 0 in
theorem PySem.Challenge.cw_leafjudge_k91_whole_least_of_grown_and_d_holds : PySem.Challenge.rw_leafjudge_k91_whole_least_of_grown_and_d.Holds := by
  w_on; o_law; k_head; (case hw => w_witness2)
  k_fill
  refine K91.aNs (l := PySem.Challenge.rw_leafjudge_k91_whole_least_of_grown_and_d) rfl rfl (λw h Y => PySem.W.km_in_of Y) (λw h Y P e => ?T) ?F
  case T =>
    cases e
    exact ⟨km_tabs_of Y 292 (aU ..), by kernel_rfl, L2.aC7 (codeHd_of_K (c := 294) (P := 292) (km_in_of Y) (by kernel_rfl)) (km_tabs_of Y 292 (aU ..))⟩
  case F =>
    intro w mg fa h KX G By
    refine' K91.aFv ⟨mg_of KX G ?_,⟨?_, ?_, ?_, ?_⟩,⟨?_, ?_, ?_, ?_⟩,na ?_,na ?_,na ?_,na ?_,na ?_,⟨?_, ?_, ?_⟩,⟨?_, ?_, ?_⟩,dg ML ?_ ?_ ?_,dg zW ?_ ?_ ?_,dg zW ?_ ?_ ?_,df KX G zW ?_ ?_ ?_ ?_,df KX G zW ?_ ?_ ?_ ?_,df KX G zW ?_ ?_ ?_ ?_,df KX G zW ?_ ?_ ?_ ?_,df KX G zW ?_ ?_ ?_ ?_,df KX G zW ?_ ?_ ?_ ?_,df KX G zW ?_ ?_ ?_ ?_,df KX G Q6 ?_ ?_ ?_ ?_,df KX G Q6 ?_ ?_ ?_ ?_,df KX G Q6 ?_ ?_ ?_ ?_,df KX G Q6 ?_ ?_ ?_ ?_,df KX G ML ?_ ?_ ?_ ?_,df KX G zW ?_ ?_ ?_ ?_,df KX G HE ?_ ?_ ?_ ?_,df KX G zW ?_ ?_ ?_ ?_,df KX G ML ?_ ?_ ?_ ?_,df KX G zW ?_ ?_ ?_ ?_,df KX G zW ?_ ?_ ?_ ?_,df KX G HE ?_ ?_ ?_ ?_,df KX G Q6 ?_ ?_ ?_ ?_,df KX G zW ?_ ?_ ?_ ?_,df KX G Q6 ?_ ?_ ?_ ?_,df KX G HE ?_ ?_ ?_ ?_,df KX G HE ?_ ?_ ?_ ?_,df KX G HE ?_ ?_ ?_ ?_,df KX G zW ?_ ?_ ?_ ?_,df KX G ML ?_ ?_ ?_ ?_,df KX G ML ?_ ?_ ?_ ?_,df KX G HE ?_ ?_ ?_ ?_,df KX G HE ?_ ?_ ?_ ?_,df KX G zW ?_ ?_ ?_ ?_,df KX G ML ?_ ?_ ?_ ?_,df KX G ML ?_ ?_ ?_ ?_,df KX G HE ?_ ?_ ?_ ?_,df KX G zW ?_ ?_ ?_ ?_,df KX G HE ?_ ?_ ?_ ?_,df KX G ML ?_ ?_ ?_ ?_,df KX G zW ?_ ?_ ?_ ?_,df KX G HE ?_ ?_ ?_ ?_,df KX G Q6 ?_ ?_ ?_ ?_,df KX G ML ?_ ?_ ?_ ?_,df KX G ML ?_ ?_ ?_ ?_,df KX G HE ?_ ?_ ?_ ?_,df KX G HE ?_ ?_ ?_ ?_,df KX G HE ?_ ?_ ?_ ?_,df KX G zW ?_ ?_ ?_ ?_,df KX G zW ?_ ?_ ?_ ?_,df KX G zW ?_ ?_ ?_ ?_,df KX G HE ?_ ?_ ?_ ?_,df KX G Q6 ?_ ?_ ?_ ?_,df KX G zW ?_ ?_ ?_ ?_,df KX G zW ?_ ?_ ?_ ?_,df KX G HE ?_ ?_ ?_ ?_,df KX G Q6 ?_ ?_ ?_ ?_,df KX G zW ?_ ?_ ?_ ?_,df KX G HE ?_ ?_ ?_ ?_,df KX G ML ?_ ?_ ?_ ?_,df KX G HE ?_ ?_ ?_ ?_,df KX G Q6 ?_ ?_ ?_ ?_,df KX G Q6 ?_ ?_ ?_ ?_,df KX G zW ?_ ?_ ?_ ?_,df KX G ML ?_ ?_ ?_ ?_,df KX G Q6 ?_ ?_ ?_ ?_,df KX G zW ?_ ?_ ?_ ?_,df KX G Iy ?_ ?_ ?_ ?_,df KX G ML ?_ ?_ ?_ ?_,df KX G Nl ?_ ?_ ?_ ?_,df KX G Iy ?_ ?_ ?_ ?_,df KX G ML ?_ ?_ ?_ ?_,df KX G ML ?_ ?_ ?_ ?_,df KX G HE ?_ ?_ ?_ ?_,df KX G Q6 ?_ ?_ ?_ ?_,mg_of KX G ?_,K91.U9 ?_,mg_of KX G ?_,Yr ?y_36 rfl,i9 KX G ?_,i9 KX G ?_,i9 KX G ?_,i9 KX G ?_,i9 KX G ?_,i9 KX G ?_,i9 KX G ?_,i9 KX G ?_,i9 KX G ?_,i9 KX G ?_,i9 KX G ?_,i9 KX G ?_,i9 KX G ?_,i9 KX G ?_,i9 KX G ?_⟩ By
    (case y_36 => kernel_rfl)
    all_goals try k_is

end