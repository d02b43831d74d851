import PyProof.Rows.All
import Wide.All
import OpenK.AllK
import Wide.FinOn
import Lean
import PyProof.EqAt
import PyProof.EqKinds
import PyProof.TupleCall
import PyProof.P3In
import PyProof.NeData
import PyProof.FitsReplace
import PyProof.StrBlockL
import PyProof.TupleKey
import PyProof.DictRoadsH
import KE.KItemsList
import PyProof.DictWalks
import KE.KDictList
import PyProof.Rows.Range3
import KE.KListMore
import KE.KRevIter
import KE.KPairComp
import PyProof.TupleOfSeq
import PyProof.NsDelKeeps
import KE.KTryMore
import PySem.Challenge.RW_leafjudge_k38_too_many_sets
set_option Elab.async false
set_option linter.all false
set_option compiler.extract_closed false
set_option maxRecDepth 100000
noncomputable section
def L2.tabA : Option PySem.Addr := none
open PySem.Value renaming ref->e8,none->g9,type->p6,bool->z4,builtin->cj,int->js,str->jt,float->qr
open Option.some renaming inj->e9
open Classical renaming choose_spec->f8,byContradiction->j0,choose->l9
open PySem renaming World->g7,bootBuiltins->i0,compareOp->i3,Around->i5,PyData->j4,foldedSetIterable->j8,sysModules->l3,wpAny_callSpecial?_slot->l4,mem_of_lookup->l5,cLine->m4,binaryOp->m9,wpAny_field->p7,wpAny_holding->r8,rawInt->u0,wpAny_setField_rec->u4,DictEntry->u8,letOwnedTupleGo->v3,ofAClassStatement->v4,wpAny_dictEntries->v6,wpAny_truthy_bool->v7,behindInMarks->v9,backTo->w6,wpAny_typeNameOfWhole_itemiter->x6,wpAny_typeNameOfWhole_keyiter->y3,NameKind->y9,wpAny_passesOwn->z6,wpAny_specialOf->z7,codeAny_mono->aj,wpAny_forIn_list->ak,wpAny_typeNameOf_itemiter->am,attributeBase->bb,wpAny_typeNameOf_keyiter->bc,wpAny_dictEpoch->bg,wpAny_Call_Name_kw->br,hashByValue->bu,sizeLine_eq->bw,wpAny_getItem_str_slice->bz,wpAny_pyIter_list->cx,wpAny_setField->cz,wpAny_setState_of->da,builtinsNs->dw,codeAny->dz,atKey->eh,sliceBounds->ez,codeAny_builtin->fg,wpAny_execs_nil->fh,Builtin->fi,wpAny_typeOf->fk,cellsFrom->ft,pyNext->fw,getItem->gb,assignEach->ie,wpAny_Assign_Subscript->ii,wpAny_isOneOf_itemiter->ij,wpAny_rule->ik,post_val_or_str->il,wpAny_loadPart'->im,wpAny_updateSeq->io,wpAny_callSpecialIfBoundUnlessNone?_slot->iy,firstArgMember->jg,wpAny_fieldsOf->jk,wpAny_seqItems->jl,plainId_quiet->jy,setSearchFrom->jz,wpAny_attempt->ke,call_meets->ki,wpAny_setItem_heap->lc,callerA->lq,concat_meets->lr,eqIsQuiet_byValue->lu,leaving->lz,setField->me,valueAt->mf,wpAny_pyIter_slot->mh,assign->mr,noFill_tuple_add->nq,noteFrame->nr,pushCells->nu,pyIter->nv,tupleKind->og,wpAny_execs_cons->oh,wpAny_isInstance->oi,IsRangeIter->ol,callSpecialIfBoundUnlessNone?->on,isCodeTable->ot,subscripted->ou,Within->oy,wpAny_ret_mkInt->qe,newFunctionEnv->tf,recursionLimit->tu,wpAny_call->ua,wpAny_load->ub,call->uq,seq_tuple_add->wl,wpAny_comprehension_free->wn,PassesOwn->wp,eqIsQuiet->wq,holding->xx,wpAny_Call_method_late->ym,wpAny_pyIter_rangeiter->yn,wpAny_pyNext_range_end->yo,wpAny_isOneOf_keyiter->za,wpAny_notOrdered_dict->zb,codeAny_call_builtin->Ak,keywordEach->Ci,wpAny_letGo->Co,wpAny_pyIter_keyiter->Cp,wpAny_pyIter_revIter->Cq,entryOfKey->Ds,reduceHash->Ey,sliceRange->Ez,tupleKind_room_in1->Fa,typeIs_str->Fb,wpAny_Name->Fc,wpAny_getItem_heap->Fd,wpAny_pyIter_range->Fe,Keyword->Fg,searchCouldBeSeen->Fy,storedH->Ga,wpAny_Assign_Name->Gc,wpAny_assign_Name->Gd,wpAny_sequenceKey->Ge,wpAny_storeSet_of->Gf
open PySem.NameKind renaming cell->h8,free->m6
open True renaming intro->i8
open PySem.Paired renaming length->i9,snoc->qi
open PySem.Builtin.Range renaming rangeSize->j3,small->bd
open PySem.Builtin.Tuple renaming tupleHashOf->j5,tupleExact->l6,tupleItemsOf->cb
open PySem.SetTable renaming bits->j6,below->j7,insertAt->q9,toList_insertAt->t3,turns->u6,runEnd->w5,leap->bi,Probe->dh,grown->di,sizeAbove->dj,slot->lh,layClean->qq
open False renaming elim->j9
open PySem.Builtin renaming bitNot->l0,bitAnd->ao,bitOr->gx
open PySem.Builtin.Dict_items renaming ownsTuple->l7,ownedTupleFields->fb,ownedTupleIsFree->fc,pairFromOwner->fm
open Ne renaming symm->l8
open PyProof.Rows renaming callWith_type1->o6,envOfC->o7,slot_tuple_getitem->p9,AllBare->fz,subscriptTail->wm,subscriptTail_builtinR->yl,entry_tuple_getitem->Cs,Subscript_->Do,args_tuple_getitem->Dp,boot_range->Dq,IsTup->Ff
open PySem.SetTable.layClean renaming free->t0
open PySem.W renaming mg_none_of->t4,OpenLaw->jo
open PySem.Str renaming ofString->u5,length->jf
open PySem.Obj renaming mapFields->u7,data_mapFields->aq,mapSeq->fe,isFreed_of_fields->gu,putSet->je,cls_mapFields->yq
open PySem.Builtin.List renaming listExtendWith->v8,listTooLong->y7,listItems->jw
open PySem.Builtin.Slice renaming slicePlaces->x8,sliceAdjust->ck,sliceApplied->ip
open PyProof.Rows.F renaming plain_set_update_loop->x9,entry_set_update_loop->fq
open Or renaming inr->y8,inl->ag
open PySem.Builtin.Str renaming occurrences->z9,strSliceIndices->ja
open ForInStep renaming yield->aa
open PySem.Shared renaming TypeIs->ae
open PySem.Builtin.Dict renaming showsAll->ai
open PySem.SeqAt renaming eqv_refl->ba,readOf->yg,readsAll_map->yh,items_eqAt->Eu
open PySem.Around renaming under_plainId->ci,under->iz
open PySem.SetTable.probe renaming go->cq
open PySem.PassesOwn renaming never->fo,leaving->ib
open PySem.Calls renaming callWith_builtin->fx,evalArgs_plain->gq,Name_function_global->lj
open PySem.Walks renaming list->iq
open Sum renaming inl->jq,inr->jr
open PySem.Data renaming fields->kh
open PySem.SetTable.below renaming go->lm
open PySem.EntryCells renaming newEntry->mo
open PyProof renaming noPylong_small->mq
open Eq renaming mpr->oj,symm->zc
open PySem.Code renaming isFrame->qh
open Function renaming comp_def->qp
open Prod renaming ext->ud
open PySem.F renaming typeOf_object_class->wo
open LawfulBEq renaming eq_of_beq->wr
open ForIn renaming forIn->Fi
def b8:=@if_neg
def b9:=@if_pos
def d7:=@decide_eq_true
def d8:=@absurd
def e7:=@of_decide_eq_true
def f9:=@decide_eq_false
def i4:=@decide_eq_true_iff
def i6:=@congrArg
def k9:=@decide_eq_true_eq
def p8:=@if_false
def af:=@or_false
def bf:=@decide_eq_decide
def ef:=@if_true
def gp:=@of_decide_eq_false
def om:=@beq_iff_eq
def ue:=@beq_self_eq_true
open PySem renaming wpAny_bind->aA,wpAny_pure->aF,sizeLine->bM,starEach->bS,Program->bX,wpAny_newObj_type->eD,mainGlobals->eW,wpAny_call_entry->fA,wpAny_mono->fV,swapsWith->gX,FuncData->kF
open List renaming length_map->aB,getElem?_eq_some_iff->aD,getElem?_eq_getElem->aG,getElem?_map->aH,mem_of_getElem?->aN,mem_cons_of_mem->aO,mem_map->aQ,mem_cons_self->aS,getElem?_set_ne->aU,getElem?_set_self->aV,range->aZ,length_take->bA,length_append->bC,map_cons->bD,mem_cons->bE,map_map->bH,getElem?_of_mem->bK,mem_filter->bN,size_toArray->bO,mem_singleton->bR,map_append->bV,filter_cons->cD,length_cons->cH,getElem?_append_right->cN,getElem?_append_left->cQ,take_add_one->cV,take_length->dE,mem_range->dF,mem_append->dH,length_range->dN,append_nil->dP,mem_append_right->eJ,not_mem_nil->eO,pairwise_map->eP,mem_of_mem_take->fB,length_drop->fF,filterMap_cons->fH,getElem?_take->fN,getElem?_eq_none->gB,mem_append_left->gM,length->gO,getElem_mem->gQ,pairwise_lt_range->gY,ext_getElem?->gZ,length_filter_le->iF,lookup_cons->iK,filter_append->iL,all_eq_true->iM,append_assoc->iT,map_congr_left->iW,getElem?_range->iX,map_id->jA,Pairwise->jB,getElem?_drop->jE,nodup_cons->jR,nodup_append->jT,idxOf_lt_length_iff->jX,filter_sublist->kE,getElem?_replicate->kH,take_of_length_le->kZ,map_nil->lA,filter_congr->lQ,perm_ext_iff_of_nodup->lU,nodup_nil->lV,mem_reverse->lY,find?_cons->mS,mem_filterMap->mT,getElem_idxOf->mU,length_eq_zero_iff->nK,length_singleton->oF,any_eq_true->oG,lookup->oQ,length_reverse->pQ,replicate->qK,getElem?_take_of_lt->rH,getElem?_cons_succ->sX,length_nil->uN,filter_nil->uO,getElem?_reverse->vR,mem_iff_getElem->wN,map->wO,any_cons->yL,take_sublist->zX,set_set->zY,flatMap_cons->zZ,find?_isSome->AA,Sublist->AB,isEmpty_iff_length_eq_zero->AU,nodup_range->BB,getElem_inj->BC,Perm->BD,of_mem_zip->DH,forIn_cons->DI,filter_map->DJ,getD_eq_getElem?_getD->FR,drop_zero->FS,Nodup->FU,getElem?_zip_eq_some->HG,length_erase_of_mem->HM,length_pos_of_mem->KO,flatten_singleton->KP,filter_eq_nil_iff->KQ,drop_eq_nil_of_le->KR,take_append_drop->NH,filterMap_append->NI,range'->P4,mem_of_mem_drop->P5,mem_erase_of_ne->P6,forall_mem_cons->P7,flatten_append->SG,flatMap_append->SH,filter_eq_self->SI,filterMap_map->SS,flatten_cons->XW,range'_succ->X4,range_succ->aBz,countP_map->aB0,sum_cons->aG1,map_take->aG2,all_cons->aG3
open Nat renaming le_of_ble_eq_true->aE,le_refl->aL,ne_of_lt->bZ,lt_of_lt_of_le->cK,zero_le->cL,le_trans->dG,lt_irrefl->eX,lt_succ_of_lt->hV,lt_succ_self->iN,not_lt_zero->jS,ne_of_gt->jU,mod_lt->lD,mul_le_mul->lX,le_of_eq->nU,pow_le_pow_right->oW,le_of_lt->pW,lt_trichotomy->rG,lt_asymm->uM,lt_of_le_of_lt->zL,sub_self->AR,pow_succ->AS,min_le_right->DA,le_of_not_lt->DB,add_assoc->KI,lt_trans->NF,add_zero->NG,mul_le_mul_right->SF,le_of_lt_succ->X3,min_eq_right->aBy,min_eq_left->aDs,le_antisymm->aDt,succ_pos->aMi,sub_zero->aMj,mul_succ->aMk,lt_or_ge->aMl,one_mul->aM6
open PySem.W renaming Frag->aI,mroIn->cG,kitOne->cP,findIn->eI,kia_one->eL,nsIn->fT,typeIn->fY,keepIn->fZ,clsIn->gA,emptyDict->gW,instObj->jJ,mg_of->jQ,kitMeta->kW,exmOne->lN,InstAt->lO,fnOf->nI,looks_findIn->oE,codeIn->pO,callWith_K->pP,kitx_list->qJ,plainGet->rC,nsOkIn->uH,notCls->uI,lookIn->uJ,kitCls->uK,kitAny->uL,plainGet_of->vW,methodObj->yJ,hasDictIn->yK,takerIn->AO,Looks->D4,isFn->HC,cellsFrom_some->HD,kitx_tuple->ND,isNs_of_in->NE,plainOver->P0,kitx_dict->P1,handedIn->SE,makesIn->SO,WalkO->X2
open PySem.Heap renaming get?_push_of_some->aK,get?_push_size->aW,lt_size->bG,SameBut->eG,get?_update_other->eQ,size_push->fP,get?_update_self->iG,get?_none_of_le->oR,Ns->XX,size_update->X5,ExtBut->aMr
open PySem.PyData renaming int->aM,str->aY,depthAll->cA,eqv->cO,canLayAll0->dD,tuple->eM,hasDict->eN,hasDictAll->iR,bool->mR,eqvAll->qR,none->vO,dict->vP,bulkAll->vQ,leavesShortAll->KH,showableAll->P2,strOk->aDq,depth->aDr,list->aG0
open Bool renaming false_ne_true->aX,and_eq_true->bU,false_eq_true->fQ,eq_iff_iff->iB,or_eq_true->uP,true_and->yM,false_and->FV,or_false->HN,or_eq_false_iff->P8,eq_false_iff->XY,not_true->aG4,true_or->aHa
open Array renaming length_toList->bB,getElem?_toList->cU,getElem?_eq_getElem->cZ,getElem?_eq_some_iff->dU,getD_eq_getD_getElem?->lI,getElem?_eq_none->nM,getElem?_setIfInBounds_ne->nV,forIn_toList->pX,mem_toList_iff->vZ,getElem?_replicate->HI,find?_toList->SK,size_append->SU,all_toList->XZ,toList->aG5
open Option renaming map_eq_some_iff->bL,isSome_map->qQ,isSome_iff_exists->FQ,bind_eq_some_iff->HF,isSome_some->P3,getD_some->SQ,getD_none->SR
open Int renaming toNat_natCast->cW,toNat_of_nonneg->hX,toNat->hZ,natCast_nonneg->iO,ofNat->jD,emod_lt_of_pos->nL,emod_nonneg->pR,natCast_add->vS,le_refl->DL,mul_nonneg->HH,ne_of_lt->NJ,mul_add->SJ,natCast_pow->aDu,ofNat_lt->aMm,mul_zero->aMn,le_trans->aMo,ediv_one->aMp,add_zero->aMq,one_mul->aM7,mul_one->aM8
open PySem.F renaming plainAttrs_list->eA,slot_dict_itemiterator_next->eY,slot_dict_keyiterator_next->gF,called_set->iD,type_list_append->iH,slot_list_append->iI,slot_tuple_hash->kC,slot_NoneType_hash->lP,type_tuple_index->mE,slot_tuple_index->mF,plainAttrs_tuple->mG,args_tuple_add_2->qP,entry_tuple_add->rD,slot_tuple_add->sM,args_dict_itemiterator_next_1->vN,entry_dict_itemiterator_next->vX,args_dict_keyiterator_next_1->vY,slot_dict_itemiterator_iter->wL,entry_dict_keyiterator_next->wM,slot_dict_items_iter->AQ,slot_dict_getitem->DF,plain_extend_loop->DG,type_list_extend->D5,slot_list_extend->D6,type_list_index->FL,slot_list_index->FM,slot_dict_items->FN,plain_list_iadd->FO,plainAttrs_dict->FP,slot_dict_iter->HE,slot_dict_len->HK,slot_dict_get->HL
section
open PySem PySem.Spec PyProof.Rows
namespace L2
abbrev pS:=Sum Int Str
noncomputable def E4:pS->Value->Bool
|.inl k,v=>Value.isInt k v
|.inr x,v=>Value.isStrOf x v
noncomputable def aOj(w:g7):pS->Int
|.inl k=>hashInt k
|.inr x=>hashStr w x
def jN:∀{k v},E4 k v=true->(∃i t,k=jq i/\v=js i t)\/(∃x t,k=jr x/\v=jt x t)
|.inl i,v,h=>by
 obtain⟨t,e⟩:=Value.isInt_shape (k:=i) (v:=v) h;exact .inl ⟨i,t,rfl,e⟩
|.inr x,v,h=>by
 obtain⟨t,e⟩:=Value.isStrOf_shape (x:=x) (v:=v) h;exact .inr ⟨x,t,rfl,e⟩
def RF(i:Int)(t:Tok):E4 (.inl i) (.int i t)=true:=by simp[E4,Value.isInt]
def RD(x:Str)(t:Tok):E4 (.inr x) (.str x t)=true:=by simp[E4,Value.isStrOf]
def aFs(a b:Int):decide ((jq a:pS)=jq b)=(a==b):=by
 by_cases e:a=b
 ·subst e;simp
 ·have h:¬(jq a:pS)=jq b:=λq=>e (Sum.inl.inj q);rw[f9 h];exact(beq_eq_false_iff_ne.mpr e).symm
def aFo(a b:Str):decide ((jr a:pS)=jr b)=decide (a=b):=by
 by_cases e:a=b
 ·subst e;simp
 ·have h:¬(jr a:pS)=jr b:=λq=>e (Sum.inr.inj q);rw[f9 h,f9 e]
def aFr(a:Int)(b:Str):decide ((jq a:pS)=jr b)=false:=f9 (λq=>nomatch q)
def aFp(a:Str)(b:Int):decide ((jr a:pS)=jq b)=false:=f9 (λq=>nomatch q)
noncomputable def kJ(prog:bX)(w:g7):PySem.KeyKind prog w pS where
 is:=E4
 hash:=aOj w
 inj:=λv a b ha hb=>by
  rcases jN ha with⟨i,t,rfl,rfl⟩ | ⟨x,t,rfl,rfl⟩
  ·rcases jN hb with⟨j,u,rfl,e⟩ | ⟨y,u,rfl,e⟩
   ·injection e with e1 _;rw[e1]
   ·exact nomatch e
  ·rcases jN hb with⟨j,u,rfl,e⟩ | ⟨y,u,rfl,e⟩
   ·exact nomatch e
   ·injection e with e1 _;rw[e1]
 byValue:=λk v h=>by
  rcases jN h with⟨i,t,rfl,rfl⟩ | ⟨x,t,rfl,rfl⟩<;>rfl
 pyHash:=λhv h=>by
  rcases jN hv with⟨i,t,rfl,rfl⟩ | ⟨x,t,rfl,rfl⟩
  ·exact wpAny_pyHash_int h
  ·exact wpAny_pyHash_str h
 eqBool:=λhu hv h=>by
  rcases jN hu with⟨i,t,rfl,rfl⟩ | ⟨x,t,rfl,rfl⟩
  ·rcases jN hv with⟨j,u,rfl,rfl⟩ | ⟨y,u,rfl,rfl⟩
   ·rw[aFs]at h;exact wpAny_eqBool_int h
   ·rw[aFr]at h;exact SeqAt.EqAt.int_str i t y u _ _ _ _ h
  ·rcases jN hv with⟨j,u,rfl,rfl⟩ | ⟨y,u,rfl,rfl⟩
   ·rw[aFp]at h;exact SeqAt.EqAt.str_int x t j u _ _ _ _ h
   ·rw[aFo]at h;exact wpAny_eqBool_str h
 «strs»:=λk x t v h=>by
  rcases jN h with⟨i,u,rfl,e⟩ | ⟨y,u,rfl,e⟩
  ·exact nomatch e
  ·injection e with e1 _
   subst e1;cases v<;>rfl
def JD(prog:bX)(w:g7)(i:Int)(t:Tok):(kJ prog w).is (.inl i) (.int i t)=true:=RF i t
def JC(prog:bX)(w:g7)(x:Str)(t:Tok):(kJ prog w).is (.inr x) (.str x t)=true:=RD x t
inductive V where
 |non | bl (b:Bool) | int (i:Int) | str (x:Str) | byt (b:Array UInt8) | flt (b:UInt64) | ref (a:Addr) | ty (n:String)
 deriving DecidableEq
def fX:V->Value->Prop
|.non,u=>u=g9
|.bl b,u=>u=z4 b
|.int i,u=>∃t,u=js i t
|.str x,u=>∃t,u=jt x t
|.byt b,u=>∃t,u=Value.bytes b t
|.flt b,u=>∃t,u=qr b t
|.ref a,u=>u=e8 a
|.ty n,u=>u=p6 n
abbrev gE:List V->List Value->Prop:=Paired fX
theorem gE.length{xs:List V}{us:List Value}(r:gE xs us):xs.length=us.length:=i9 r
theorem gE.get:∀{xs us}{i:Nat}{x},gE xs us->xs[i]?=some x->∃u,us[i]?=some u/\fX x u
|_,_,_,_,.nil,e=>by simp at e
|_,_,0,_,.cons r _,e=>by simp at e;subst e;exact⟨_,rfl,r⟩
|_,_,i+1,x,.cons _ t,e=>by
 obtain⟨u,h1,h2⟩:=gE.get (i:=i) (x:=x) t (by simpa using e);exact⟨u,by simpa using h1,h2⟩
theorem gE.append:∀{xs ys us ws},gE xs us->gE ys ws->gE (xs++ys) (us++ws)
|_,_,_,_,.nil,s=>s
|_,_,_,_,.cons r t,s=>.cons r (gE.append t s)
theorem gE.take:∀{xs:List V}{us:List Value}(n:Nat),gE xs us->gE (xs.take n) (us.take n)
|_,_,0,_=>.nil
|_,_,_+1,.nil=>.nil
|_,_,n+1,.cons r t=>.cons r (gE.take n t)
theorem gE.drop:∀{xs:List V}{us:List Value}(n:Nat),gE xs us->gE (xs.drop n) (us.drop n)
|_,_,0,r=>r
|_,_,_+1,.nil=>.nil
|_,_,n+1,.cons _ t=>gE.drop n t
def vV:Option V->Option Value->Prop
|some v,some u=>fX v u
|none,none=>True
|_,_=>False
noncomputable def KV{κ:Type}:List (κ×V)->List (κ×Value)->Prop:=Paired λ(p:κ×V) (q:κ×Value)=>p.1=q.1/\fX p.2 q.2
noncomputable def kV:pS->V
|.inl i=>.int i
|.inr x=>.str x
inductive HO where
 /-- a list -/
 |lst (xs:List V)
 /-- a tuple (never changes) -/
 |tup (xs:List V)
 /-- a dict whose ly are ints and texts;one whose ly are tuples of ints and texts (the empty one is both) -/
 |dK (kvs:List (pS×V)) | dT (kvs:List (List pS×V))
 /-- a set of ints: its members,its size -/
 |set (S:Int->Bool) (n:Nat)
 /-- an instance of the class at C,its dict at dx,its attributes -/
 |ins (C dx:Addr) (fs:List (Str×V))
 /-- the dict of the instance at x -/
 |own (x:Addr)
 /-- the dict of an exception -/
 |xd (fs:List (Str×V))
 /-- a bound method,f of x -/
 |met (f x:Addr)
 /-- a range object lo,lo+1,.. below hi -/
 |rng (lo hi:Int)
 /-- a thing that is known to the object (the script;a dict while a loop walks it): read,never written while it is so -/
 |frz (o:Obj) (u:HO)
 /-- a code object's table -/
 |tbl (ps:Array Value)
 /-- any other thing,by what is true of its one object (a def of Qq own: SetO a S n:=HO.ext λh=>..) -/
 |ext (φ:Heap->Prop)
abbrev Hp:=Addr->Option HO
noncomputable def fM(H:Hp)(a:Addr)(o:HO):Hp:=λb=>if b=a then some o else H b
def cM{H}{a:Addr}{o}:fM H a o a=some o:=by unfold fM;rw[b9 rfl]
def cI{H}{a b:Addr}{o}(h:b≠a):fM H a o b=H b:=by unfold fM;rw[b8 h]
def aK1{H:Hp}{a b:Addr}{o u:HO}(h:H a=some o)(h':H b=some u)(d:o≠u):a≠b:=by
 intro e;subst e;rw[h]at h';exact d (e9 h')
def fL{H:Hp}{a b:Addr}{o:HO}(h:H a=some o)(h':H b=none):a≠b:=by
 intro e;subst e;rw[h]at h';cases h'
section
variable(P:bX)(w:g7)
def CY(h:Heap)(a:Addr)(items:Array Value):Prop:=∃o,h.get? a=some o/\o.cls=.type "tuple"/\∃n,o.data=.seq items n/\o.dict=none
def CY.tup{h}{a:Addr}{items}(x:CY h a items):Ff h a items:=let ⟨o,e,c,n,d,_⟩:=x;⟨o,e,c,n,d⟩
theorem CY.lt{h:Heap}{a:Addr}{items}(x:CY h a items):a<h.objs.size:=x.tup.lt
def CY.new(h:Heap)(items:Array Value):CY (h.push { cls:=.type "tuple",data:=.seq items }) h.objs.size items:=⟨_,aW _ rfl,rfl,_,rfl,rfl⟩
def aMh(oc:Obj):Prop:=∃(vs:Array Value)(q:Str)(t:Tok),oc.data=.fields vs/\vs[1]?=some (.str q t)
def iE(H:Hp)(h:Heap)(a:Addr):HO->Prop
|.lst xs=>xs.length<=bM/\∃(its:List Value)(n:Nat),gE xs its/\h.get? a=some { cls:=.type "list",data:=.seq its.toArray n }
|.tup xs=>xs.length<=bM/\∃its:List Value,gE xs its/\CY h a its.toArray
|.dK kvs=>kvs.length<=bM/\(a==l3)=false/\∃vs,KV kvs vs/\h.DictOf (kJ P w) a vs
|.dT kvs=>kvs.length<=bM/\(a==l3)=false/\∃xs:List (List pS×Addr×Value),
  Paired (λ(p:List pS×V) (q:List pS×Addr×Value)=>p.1=q.1/\H q.2.1=some (.tup (p.1.map kV))/\fX p.2 q.2.2) kvs xs /\
  ∃o es ep,h.get? a=some o/\o.ExactDict/\o.data=.dict es ep/\es.toList=xs.map (Ds (og (kJ P w)))/\(xs.map (·.1)).Nodup
|.set S n=>h.SetOf (intKind P w) a S n
|.ins C dx fs=>H dx=some (.own a)/\fs.length<=1000/\dx≠a/\h.get? a=some (jJ C dx) /\
  ∃mA,h.Ns1 dx mA/\(∀f,vV (fs.lookup f) (mA f))/\oy mA (fs.map (·.1))
|.own _=>∃o,h.get? a=some o
|.xd fs=>∃mA,h.Ns1 a mA/\∀f,vV (fs.lookup f) (mA f)
|.rng lo hi=>∃t u v,h.get? a=some { cls:=.type "range",data:=.fields #[.int lo t,.int hi u,.int 1 v] }
|.frz o u=>h.get? a=some o/\iE H h a u
|.tbl _=>∃qs:Array Value,h.get? a=some { cls:=.none,data:=.fields qs }/\TriplesOk qs.toList/\∀(p:Pos)(c:Value),codeAmong p qs.toList=some c->∃c' oc,c=.ref c'/\H c'=some (.frz oc (.own a))/\aMh oc
|.met f x=>h.get? a=some (yJ (.ref f) (.ref x))
|.ext φ=>φ h/\(∃o,h.get? a=some o)/\∀h1 h2:Heap,φ h1->(∀o,h1.get? a=some o->h2.get? a=some o)->φ h2
def rF(H:Hp)(h:Heap):Prop:=∀a o,H a=some o->iE P w H h a o
end
section
variable{P:bX}{w:g7}{H H':Hp}{h h':Heap}{a:Addr}{o:HO}
theorem iE.lt(x:iE P w H h a o):a<h.objs.size:=by
 cases o with
 |lst xs=>obtain⟨_,_,_,_,e⟩:=x;exact bG e
 |tup xs=>obtain⟨_,_,_,p⟩:=x;exact p.lt
 |dK kvs=>obtain⟨_,_,_,_,o,_,_,e,_⟩:=x;exact bG e
 |dT kvs=>obtain⟨_,_,_,_,o,_,_,e,_⟩:=x;exact bG e
 |set S n=>obtain⟨o,_,_,_,e,_⟩:=x;exact bG e
 |ins C dx fs=>obtain⟨_,_,_,e,_⟩:=x;exact bG e
 |own y=>obtain⟨_,e⟩:=x;exact bG e
 |xd fs=>obtain⟨_,⟨_,_,_,e,_⟩,_⟩:=x;exact bG e
 |rng lo hi=>obtain⟨_,_,_,e⟩:=x;exact bG e
 |frz ob u=>obtain⟨e,_⟩:=x;exact bG e
 |tbl ps=>obtain⟨_,e,_⟩:=x;exact bG e
 |met f y=>exact bG (show h.get? a=some _ from x)
 |ext φ=>obtain⟨_,⟨_,e⟩,_⟩:=x;exact bG e
theorem Paired.mapP{α β:Type}{F G:α->β->Prop}:∀{l₁ l₂},Paired F l₁ l₂->(∀a b,F a b->G a b)->Paired G l₁ l₂
|_,_,.nil,_=>.nil
|_,_,.cons r t,f=>.cons (f _ _ r) (Paired.mapP t f)
def iE.stay(x:iE P w H h a o)(k:∀b u,(b=a\/H b=some (.own a))->h.get? b=some u->h'.get? b=some u)
  (ho:∀b,H b=some (.own a)->H' b=some (.own a)) (ht:∀b xs,H b=some (.tup xs)->H' b=some (.tup xs)) (hf:∀b ob u,H b=some (.frz ob u)->H' b=some (.frz ob u):=by exactλ_ _ _ q=>q):iE P w H' h' a o:=by
 induction o with
 |lst xs=>obtain⟨z,its,n,r,e⟩:=x;exact⟨z,its,n,r,k _ _ (.inl rfl) e⟩
 |tup xs=>obtain⟨z,its,r,ob,e,c⟩:=x;exact⟨z,its,r,ob,k _ _ (.inl rfl) e,c⟩
 |dK kvs=>obtain⟨z,y,vs,r,ob,es,ep,e,c⟩:=x;exact⟨z,y,vs,r,ob,es,ep,k _ _ (.inl rfl) e,c⟩
 |dT kvs=>
  obtain⟨z,y,xs,r,ob,es,ep,e,c⟩:=x;exact⟨z,y,xs,Paired.mapP r λp q z=>⟨z.1,ht _ _ z.2.1,z.2.2⟩,ob,es,ep,k _ _ (.inl rfl) e,c⟩
 |set S n=>obtain⟨ob,es,ep,t,e,c⟩:=x;exact⟨ob,es,ep,t,k _ _ (.inl rfl) e,c⟩
 |ins C dx fs=>
  obtain⟨d,z,ne,e,mA,⟨od,es,ep,e2,c⟩,r⟩:=x;exact⟨ho _ d,z,ne,k _ _ (.inl rfl) e,mA,⟨od,es,ep,k _ _ (.inr d) e2,c⟩,r⟩
 |own y=>obtain⟨ob,e⟩:=x;exact⟨ob,k _ _ (.inl rfl) e⟩
 |xd fs=>obtain⟨mA,⟨od,es,ep,e,c⟩,r⟩:=x;exact⟨mA,⟨od,es,ep,k _ _ (.inl rfl) e,c⟩,r⟩
 |rng lo hi=>obtain⟨t,u,v,e⟩:=x;exact⟨t,u,v,k _ _ (.inl rfl) e⟩
 |frz ob u ih=>obtain⟨e,q⟩:=x;exact⟨k _ _ (.inl rfl) e,ih q⟩
 |tbl ps=>
  obtain⟨qs,e,t,z⟩:=x;exact⟨qs,k a _ (.inl rfl) e,t,λp c q=>let ⟨c',oc,h1,h2,h3⟩:=z p c q;⟨c',oc,h1,hf _ _ _ h2,h3⟩⟩
 |met f y=>
  have e:h.get? a=some (yJ (.ref f) (.ref y)):=x;show h'.get? a=some (yJ (.ref f) (.ref y));exact k a _ (.inl rfl) e
 |ext φ=>obtain⟨p,⟨o,e⟩,st⟩:=x;exact⟨st _ _ p λo q=>k _ _ (.inl rfl) q,⟨o,k _ _ (.inl rfl) e⟩,st⟩
theorem rF.lt(x:rF P w H h)(e:H a=some o):a<h.objs.size:=(x a o e).lt
def rF.fresh(x:rF P w H h)(e:h.objs.size<=a):H a=none:=by
 cases q:H a with
 |none=>rfl
 |some u=>exact d8 (cK (x.lt q) e) (eX _)
def rF.kept(x:rF P w H h)(k:∀b u,h.get? b=some u->h'.get? b=some u):rF P w H h':=λa o e=>
 (x a o e).stay (λb u _ q=>k b u q) (λ_ q=>q) λ_ _ q=>q
def rF.laid(x:rF P w H h)(k:∀b u,h.get? b=some u->h'.get? b=some u)(hp:h.objs.size<=a)(new:iE P w (fM H a o) h' a o):rF P w (fM H a o) h':=λb u e=>by
 have hn:=x.fresh hp;by_cases hb:b=a
 ·subst hb;rw[cM]at e;cases e;exact new
 ·rw[cI hb]at e;exact(x b u e).stay (λc v _ q=>k c v q) (λc q=>by rw[cI (fL q hn)];exact q) (λc xs q=>by rw[cI (fL q hn)];exact q) λc ob v q=>by rw[cI (fL q hn)];exact q
end
def Rd(H:Hp)(a:Addr)(u:HO):Prop:=H a=some u\/∃o,H a=some (.frz o u)
def Rd.ok{P w H h}{a:Addr}{u}(r:Rd H a u)(x:rF P w H h):iE P w H h a u:=by
 rcases r with r | ⟨o,r⟩
 ·exact x a u r
 ·obtain⟨_,q⟩:=x a _ r;exact q
def Mut:Option HO->Prop
|some (.lst _)=>True
|some (.dK _)=>True
|some (.dT _)=>True
|some (.set _ _)=>True
|some (.ins _ _ _)=>True
|some (.ext _)=>True
|_=>False
section
variable{P:bX}{w:g7}{H:Hp}{h h':Heap}{x e:Addr}{o':HO}
def rF.write(ok:rF P w H h)(mu:Mut (H x))(he:e=x\/H e=some (.own x))(k:∀b u,b≠e->h.get? b=some u->h'.get? b=some u)(Fm:∃u,h'.get? e=some u)
  (new:iE P w (fM H x o') h' x o'):rF P w (fM H x o') h':=λb u q=>by
 have Iw:∀c y,H c=some (.own y)->c≠x:=λc y r z=>by subst z;rw[r]at mu;exact mu
 have Nt:∀c xs,H c=some (.tup xs)->c≠x:=λc xs r z=>by subst z;rw[r]at mu;exact mu
 by_cases hb:b=x
 ·subst hb;rw[cM]at q;cases q;exact new
 ·rw[cI hb]at q;by_cases xj:b=e
  ·have q':H b=some (.own x):=by
    rcases he with z | z
    ·exact d8 (xj.trans z) hb
    ·rw[xj];exact z
   rw[q]at q';cases q';obtain⟨v,hv⟩:=Fm;exact⟨v,by rw[xj];exact hv⟩
  ·refine(ok b u q).stay (λc v hc r=>k c v ?_ r) (λc r=>by rw[cI (Iw c b r)];exact r) (λc xs r=>by rw[cI (Nt c xs r)];exact r) λc ob v r=>by rw[cI (λz=>by subst z;rw[r]at mu;exact mu)];exact r
   rcases hc with rfl | hc
   ·exact xj
   ·rintro rfl;rcases he with z | z
    ·exact Iw c b hc z
    ·rw[hc]at z;cases z;exact hb rfl
end
structure Un(fs ex:List Addr)(H H':Hp)(h h':Heap):Prop where
 keep:∀b o,h.get? b=some o->H b=none->b∉fs->b∉ex->h'.get? b=some o
 slot:∀b o,h.get? b=some o->H b=none->b∈fs->b∉ex->∃sl,h'.get? b=some { o with slots:=sl }
 free:∀b o,h.get? b=some o->H b=none->b∉ex->H' b=none
 there:∀b o,h.get? b=some o->b∉ex->∃o',h'.get? b=some o'
 tups:∀b xs,H b=some (.tup xs)->H' b=some (.tup xs)
 frzs:∀b o u,H b=some (.frz o u)->H' b=some (.frz o u)
 tbls:∀b ps,H b=some (.tbl ps)->∃more,H' b=some (.tbl (ps++more))
section
variable{fs ex:List Addr}{H H1:Hp}{h h1 h':Heap}{a x e:Addr}{o:HO}
def Un.any(u:Un fs ex H H1 h h1){b:Addr}{ob}(q:h.get? b=some ob)(n:H b=none)(hx:b∉ex):∃sl,h1.get? b=some { ob with slots:=sl }:=by
 by_cases hb:b∈fs
 ·exact u.slot b ob q n hb hx
 ·exact⟨ob.slots,u.keep b ob q n hb hx⟩
def Un.kept(k:∀b u,h.get? b=some u->h'.get? b=some u):Un fs ex H H h h':=
 ⟨λb ob q _ _ _=>k b ob q,λb ob q _ _ _=>⟨ob.slots,k b ob q⟩,λ_ _ _ n _=>n,λb ob q _=>⟨ob,k b ob q⟩,λ_ _ q=>q,λ_ _ _ q=>q,λ_ ps q=>⟨#[],by rw[q];simp⟩⟩
def Un.refl:Un fs ex H H h h:=Un.kept λ_ _ q=>q
def Un.laid(k:∀b u,h.get? b=some u->h'.get? b=some u)(hp:h.objs.size<=a)(hn:H a=none):Un fs ex H (fM H a o) h h' where
 keep:=λb u q _ _ _=>k b u q
 slot:=λb u q _ _ _=>⟨u.slots,k b u q⟩
 free:=λb u q n _=>by rw[cI (bZ (cK (bG q) hp))];exact n
 there:=λb u q _=>⟨u,k b u q⟩
 tups:=λb xs q=>by rw[cI (fL q hn)];exact q
 frzs:=λb u xs q=>by rw[cI (fL q hn)];exact q
 tbls:=λb ps q=>⟨#[],by rw[cI (fL q hn),q];simp⟩
def Un.write(mu:Mut (H x))(he:e=x\/H e=some (.own x))(k:∀b u,b≠e->h.get? b=some u->h'.get? b=some u)(Fm:∃u,h'.get? e=some u):Un fs ex H (fM H x o) h h':=by
 have hx:∀b,H b=none->b≠x:=λb n z=>by subst z;rw[n]at mu;exact mu
 have hb:∀b,H b=none->b≠e:=λb n z=>by
  subst z;rcases he with r | r
  ·exact hx b n r
  ·rw[n]at r;cases r
 have hm:∀b u,H b=some u->¬Mut (some u)->b≠x:=λb u q nm z=>by subst z;rw[q]at mu;exact nm mu
 refine⟨λb u q n _ _=>k b u (hb b n) q,λb u q n _ _=>⟨u.slots,k b u (hb b n) q⟩,λb u q n _=>by rw[cI (hx b n)];exact n,λb u q _=>?_,
  λb xs q=>by rw[cI (hm b _ q λz=>z)];exact q,λb u xs q=>by rw[cI (hm b _ q λz=>z)];exact q,λb ps q=>⟨#[],by rw[cI (hm b _ q λz=>z),q];simp⟩⟩
 by_cases xj:b=e
 ·subst xj;exact Fm
 ·exact⟨u,k b u xj q⟩
end
noncomputable def trk(h:Heap)(H:Hp):List Addr:=(aZ h.objs.size).filter λa=>(H a).isSome
noncomputable def GN(h:Heap)(H:Hp):Heap:=PySem.W.hideAll h (trk h H)
def RM(h:Heap)(H:Hp):(GN h H).objs.size=h.objs.size:=PySem.W.hideAll_size _ _
def WG{h:Heap}{H}{b:Addr}{o}(e:h.get? b=some o)(n:H b=none):(GN h H).get? b=some o:=
 PySem.W.hideAll_get _ e λhm=>by
  have q:(H b).isSome=true:=(bN.mp hm).2;rw[n]at q;simp at q
def ZT{h:Heap}{H:Hp}{b:Addr}{o}(e:(GN h H).get? b=some o):h.get? b=some o/\H b=none:=by
 have e':h.get? b=some o:=PySem.W.of_hideAll (trk h H) e;refine⟨e',?_⟩
 cases q:H b with
 |none=>rfl
 |some x=>
  have hm:b∈trk h H:=bN.mpr ⟨dF.mpr (bG e'),by simp[q]⟩;have z:(GN h H).get? b=none:=PySem.W.hideAll_none (trk h H) hm;rw[z]at e;cases e
noncomputable def aBq(g h:Heap)(L:Addr):List (Addr×Obj):=(aZ h.objs.size).filterMap λa=>if a=L\/(g.get? a).isSome=true then none else(h.get? a).map λo=>(a,o)
noncomputable def fK(g h:Heap)(L d:Addr):List (Addr×Obj):=(aBq g h L).filter λp=>decide (p.1≠d)
structure Mod(K:aI)(mg:Str->Option Value)(base:Heap):Prop where
 kin:K.In base
 glob:base.Ns eW mg
 blt:∃mb,base.Ns dw mb/\∀x:Str,x≠"__name__"->mb x=i0 x
 nolimit:base.NoLimit
 bmod:∃bm o,mg "__builtins__"=some (.ref bm)/\bm≠dw/\base.get? bm=some o/\o.cls=.type "module"/\o.dict=some dw/\o.data=.plain
structure Cx where
 prog:bX
 w:g7
 K:aI
 mg:Str->Option Value
 base:Heap
 A:i5
 N:List Str
 s₀:Shared
 H₀:Hp
 env:Env
 outer:List Env
 stack:List Env
 ex:List Addr
 fn:Str->Bool
 calm:Bool
 pn:List (Addr×Obj)
 xe:Value->Shared->Prop
noncomputable def sR(l:List Env):List Addr:=l.filterMap (·.frame)
noncomputable abbrev Cx.fs(X:Cx):List Addr:=sR X.outer
def Vis(sc:Scope)(x:Str):Prop:=sc.names.lookup x=some .local\/sc.names.lookup x=some .cell\/sc.names.lookup x=some .free
def SA(sc:Scope)(x:Str):Prop:=sc.names.lookup x=some .local\/sc.names.lookup x=some .cell
def aPh(env:Env)(h:Heap)(m:Str->Option Value)(x:Str)(u:Value):Prop:=
 (env.kindOf x=some .local/\m x=some u)\/((env.kindOf x=some .cell\/env.kindOf x=some .free)/\∃c,env.cells.lookup x=some c/\h.IsCell c (some u))
def Tb(H:Hp):Prop:=∀P,tabA=some P->∃ps,H P=some (.tbl ps)
structure Cx.Ok(X:Cx):Prop where
 mod:Mod X.K X.mg X.base
 kind:X.env.scope.kind=.function
 glob:X.env.globals=eW
 blt:X.env.builtins=dw
 above:X.s₀.heap.objs.size<=X.env.locals
 inj:∀x y c,X.env.cells.lookup x=some c->X.env.cells.lookup y=some c->x=y
 has:∀x,(X.env.kindOf x=some .cell\/X.env.kindOf x=some .free)->∃c,X.env.cells.lookup x=some c
 cab:∀x c,X.fn x=true->X.env.cells.lookup x=some c->X.s₀.heap.objs.size<=c
 hd:X.calm=true->X.A.handled=none
 frames:X.A.frames=some X.stack
 stk:X.stack=X.outer\/(X.stack=X.env::X.outer/\X.env.frame=some X.env.locals)
 exf:∀b∈X.ex,b≠X.env.locals/\∀x c,X.env.cells.lookup x=some c->c≠b
 bs:∀b o,X.base.get? b=some o->X.s₀.heap.get? b=some o/\X.H₀ b=none
 bsz:X.base.objs.size<=X.s₀.heap.objs.size
 noex:∀b o,X.base.get? b=some o->b∉X.ex
 exfs:∀b∈X.ex,b∉X.fs
 funs:X.s₀.heap.FunFrames X.base X.outer
 frf:∀b∈X.fs,X.H₀ b=none
 tab:Tb X.H₀
structure dS(X:Cx)(b7:List (Addr×Obj))(σ:List (Option V))(H:Hp)(s:Shared):Prop where
 ok:X.Ok
 os:s.os=X.s₀.os
 bare:fz s.gens
 base:Un X.fs X.ex X.H₀ H X.s₀.heap s.heap
 loc:∃m,s.heap.Ns X.env.locals m/\∀(i:Nat)(x:Str)(v:V),X.N[i]?=some x->σ[i]?=some (some v)->Vis X.env.scope x->∃u,fX v u/\aPh X.env s.heap m x u
 cell:∀x c,X.env.cells.lookup x=some c->∃v,s.heap.IsCell c v
 free:H X.env.locals=none
 freeC:∀x c,X.env.cells.lookup x=some c->H c=none
 pin:∀p∈X.pn++b7,s.heap.get? p.1=some p.2/\H p.1=none/\p.1≠X.env.locals/\p.1∉X.fs/\∀v,p.2.data≠.cell v
 hok:rF X.prog X.w H s.heap
 len:σ.length=X.N.length
section
variable{X:Cx}{b7:List (Addr×Obj)}{σ:List (Option V)}{H H':Hp}{s:Shared}{h':Heap}
def Cx.Ok.nofr(ok:X.Ok){b:Addr}{o}(e:X.base.get? b=some o):b∉X.fs:=λhb=>by
 have:=(ok.funs.mem hb).1;rw[e]at this;cases this
theorem dS.bs(I:dS X b7 σ H s):∀b o,X.base.get? b=some o->s.heap.get? b=some o/\H b=none:=λb o e=>
 ⟨I.base.keep b o (I.ok.bs b o e).1 (I.ok.bs b o e).2 (I.ok.nofr e) (I.ok.noex b o e),I.base.free b o (I.ok.bs b o e).1 (I.ok.bs b o e).2 (I.ok.noex b o e)⟩
def dS.bk(I:dS X b7 σ H s):∀b o,X.base.get? b=some o->s.heap.get? b=some o:=λb o e=>(I.bs b o e).1
theorem dS.mod(I:dS X b7 σ H s):Mod X.K X.mg X.base:=I.ok.mod
def dS.kIn(I:dS X b7 σ H s):X.K.In s.heap:=I.ok.mod.kin.keeps I.bk
theorem dS.lt(I:dS X b7 σ H s):X.env.locals<s.heap.objs.size:=let ⟨_,hn,_⟩:=I.loc;hn.lt
def dS.sz(I:dS X b7 σ H s):X.s₀.heap.objs.size<=s.heap.objs.size:=dG I.ok.above (pW I.lt)
def dS.nofs(I:dS X b7 σ H s){a:Addr}(h:s.heap.objs.size<=a):a∉X.fs:=λhb=>by
 obtain⟨_,o,ho,_⟩:=I.ok.funs.mem hb;exact d8 (cK (bG ho) (dG I.sz h)) (eX _)
def dS.cne(I:dS X b7 σ H s):∀x c,X.env.cells.lookup x=some c->c≠X.env.locals:=λx c e z=>by
 obtain⟨v,o,ho,hd⟩:=I.cell x c e;obtain⟨m,⟨o',es,ep,xu,Cw,_⟩,_⟩:=I.loc;rw[z,xu]at ho;cases ho;rw[Cw]at hd;cases hd
theorem dS.funs(I:dS X b7 σ H s):s.heap.FunFrames X.base X.outer:=by
 have all:∀l,(∀b∈sR l,b∈X.fs)->X.s₀.heap.FunFrames X.base l->s.heap.FunFrames X.base l:=by
  intro l
  induction l with
  |nil=>intro _ _;trivial
  |cons env r ih=>
   intro hs hl;obtain⟨hk,⟨L,o,hf,hn,ho,hd⟩,hr⟩:=hl;have hL:L∈X.fs:=hs L (by unfold sR;rw[fH,hf];exact aS);obtain⟨sl,e⟩:=I.base.slot L o ho (I.ok.frf L hL) hL λz=>I.ok.exfs L z hL;exact⟨hk,⟨L,_,hf,hn,e,hd⟩,ih (λb hb=>hs b (by unfold sR;rw[fH,hf];exact aO _ hb)) hr⟩
 exact all X.outer (λ_ hb=>hb) I.ok.funs
theorem dS.stack(I:dS X b7 σ H s):s.heap.FunFrames X.base X.stack:=by
 rcases I.ok.stk with e | ⟨e,hf⟩
 ·rw[e];exact I.funs
 ·rw[e];obtain⟨m,hn,_⟩:=I.loc;refine .cons (by rw[I.ok.kind];decide) hf hn ?_ I.funs;exact oR (dG I.ok.bsz I.ok.above)
def dS.stkSub(I:dS X b7 σ H s):∀b∈sR X.stack,b∈X.env.locals::X.fs:=λb hb=>by
 rcases I.ok.stk with e | ⟨e,hf⟩
 ·rw[e]at hb;exact aO _ hb
 ·rw[e]at hb;unfold sR at hb;rw[fH,hf]at hb;exact hb
def dS.stkFree(I:dS X b7 σ H s):∀b∈sR X.stack,H b=none:=λb hb=>by
 rcases bE.mp (I.stkSub b hb)with e | hb
 ·rw[e];exact I.free
 ·obtain⟨_,o,ho,_⟩:=I.ok.funs.mem hb;exact I.base.free b o ho (I.ok.frf b hb) λz=>I.ok.exfs b z hb
def dS.step{g':Array GenState}{t':Nat}{d':Drawn}{ch:List Addr}(I:dS X b7 σ H s)
  (jm:∀b∈ch,(b∈X.ex\/X.s₀.heap.objs.size<=b)/\b≠X.env.locals/\(∀x c,X.env.cells.lookup x=some c->c≠b)/\∀p∈X.pn++b7,p.1≠b)
  (keep:∀b o,b≠X.env.locals->b∉X.fs->b∉ch->s.heap.get? b=some o->H b=none->h'.get? b=some o)
  (slot:∀b o,b≠X.env.locals->b∈X.fs->b∉ch->s.heap.get? b=some o->H b=none->∃sl,h'.get? b=some { o with slots:=sl }) (free:∀b o,b∉ch->s.heap.get? b=some o->H b=none->H' b=none)
  (there:∀b o,b∉ch->s.heap.get? b=some o->∃o',h'.get? b=some o')
  (tups:∀b xs,H b=some (.tup xs)->H' b=some (.tup xs)) (frzs:∀b o u,H b=some (.frz o u)->H' b=some (.frz o u)) (tbls:∀b ps,H b=some (.tbl ps)->∃more,H' b=some (.tbl (ps++more)))
  (ns:∀m,s.heap.Ns X.env.locals m->h'.Ns X.env.locals m) (hok:rF X.prog X.w H' h') (hg:fz g') :
  dS X b7 σ H' { s with heap:=h',gens:=g',drawn:=d',toks:=t' }:=by
 have Ql:∀b o,X.s₀.heap.get? b=some o->b≠X.env.locals:=λb o e=>bZ (cK (bG e) I.ok.above)
 have Kp:∀b o,X.s₀.heap.get? b=some o->b∉X.ex->b∉ch:=λb o e hx hb=>by
  rcases(jm b hb).1 with z | z
  ·exact hx z
  ·exact d8 (cK (bG e) z) (eX _)
 have Cr:∀x c,X.env.cells.lookup x=some c->∀v,s.heap.IsCell c v->h'.IsCell c v:=λx c e v ⟨o,ho,hd⟩=>by
  have Iq:c∉ch:=λz=>(jm c z).2.2.1 x c e rfl;by_cases hc:c∈X.fs
  ·obtain⟨sl,q⟩:=slot c o (I.cne x c e) hc Iq ho (I.freeC x c e);exact⟨_,q,hd⟩
  ·exact⟨o,keep c o (I.cne x c e) hc Iq ho (I.freeC x c e),hd⟩
 refine⟨I.ok,I.os,hg,⟨λb o e n hb hx=>?_,λb o e n hb hx=>?_,λb o e n hx=>?_,λb o e hx=>?_,λb xs e=>tups b xs (I.base.tups b xs e),λb o xs e=>frzs b o xs (I.base.frzs b o xs e),λb ps e=>?_⟩,?_,λx c e=>?_,?_,λx c e=>?_,λp hp=>?_,hok,I.len⟩
 ·exact keep b o (Ql b o e) hb (Kp b o e hx) (I.base.keep b o e n hb hx) (I.base.free b o e n hx)
 ·obtain⟨sl,e1⟩:=I.base.slot b o e n hb hx;obtain⟨Ny,e2⟩:=slot b _ (Ql b o e) hb (Kp b o e hx) e1 (I.base.free b o e n hx);exact⟨Ny,e2⟩
 ·obtain⟨o',e1⟩:=I.base.there b o e hx;exact free b o' (Kp b o e hx) e1 (I.base.free b o e n hx)
 ·obtain⟨o',e1⟩:=I.base.there b o e hx;exact there b o' (Kp b o e hx) e1
 ·obtain⟨m1,e1⟩:=I.base.tbls b ps e;obtain⟨m2,e2⟩:=tbls b _ e1;exact⟨m1++m2,by rw[e2,Array.append_assoc]⟩
 ·obtain⟨m,hn,hl⟩:=I.loc;refine⟨m,ns m hn,λi x v e1 e2 e3=>?_⟩;obtain⟨u,r,l⟩:=hl i x v e1 e2 e3;refine⟨u,r,?_⟩;rcases l with l | ⟨k,c,e,z⟩
  ·exact .inl l
  ·exact .inr ⟨k,c,e,Cr x c e _ z⟩
 ·obtain⟨v,z⟩:=I.cell x c e;exact⟨v,Cr x c e v z⟩
 ·obtain⟨m,⟨o,_,_,ho,_⟩,_⟩:=I.loc;exact free _ o (λz=>(jm _ z).2.1 rfl) ho I.free
 ·obtain⟨v,o,ho,hd⟩:=I.cell x c e;exact free c o (λz=>(jm c z).2.2.1 x c e rfl) ho (I.freeC x c e)
 ·obtain⟨e,n,ne,nf,d⟩:=I.pin p hp;have Iq:p.1∉ch:=λz=>(jm p.1 z).2.2.2 p hp rfl;exact⟨keep p.1 p.2 ne nf Iq e n,free p.1 p.2 Iq e n,ne,nf,d⟩
def dS.un{t':Nat}(I:dS X b7 σ H s)(u:Un X.fs [] H H' s.heap h')(hok:rF X.prog X.w H' h'):dS X b7 σ H' { s with heap:=h',toks:=t' }:=by
 obtain⟨m,⟨o,es,ep,ho,r⟩,_⟩:=id I.loc;obtain⟨sl,hL⟩:=u.any ho I.free (by simp)
 exact I.step (g':=s.gens) (d':=s.drawn) (ch:=[]) (λ_ z=>nomatch z) (λb o _ hb _ e n=>u.keep b o e n hb (by simp)) (λb o _ hb _ e n=>u.slot b o e n hb (by simp)) (λb o _ e n=>u.free b o e n (by simp)) (λb o _ e=>u.there b o e (by simp)) u.tups u.frzs u.tbls (λm' hm=>by
  obtain⟨o',es',Gu,xu,r'⟩:=hm;rw[ho]at xu;cases xu;exact⟨_,es',Gu,hL,r'⟩) hok I.bare
def dS.call{g':Array GenState}{t':Nat}{d':Drawn}{ch:List Addr}(I:dS X b7 σ H s)(u:Un (sR X.stack) ch H H' s.heap h')(hok:rF X.prog X.w H' h')(hg:fz g')
  (jm:∀b∈ch,(b∈X.ex\/X.s₀.heap.objs.size<=b)/\b≠X.env.locals/\(∀x c,X.env.cells.lookup x=some c->c≠b)/\∀p∈X.pn++b7,p.1≠b) :
  dS X b7 σ H' { s with heap:=h',gens:=g',drawn:=d',toks:=t' }:=by
 obtain⟨m,⟨o,es,ep,ho,r⟩,_⟩:=id I.loc;obtain⟨sl,hL⟩:=u.any ho I.free λz=>(jm _ z).2.1 rfl
 exact I.step (ch:=ch) jm (λb o hL hb hc e n=>u.keep b o e n (λz=>(bE.mp (I.stkSub b z)).elim hL hb) hc) (λb o _ _ hc e n=>u.any e n hc) (λb o hc e n=>u.free b o e n hc) (λb o hc e=>u.there b o e hc) u.tups u.frzs u.tbls (λm' hm=>by
  obtain⟨o',es',Gu,xu,r'⟩:=hm;rw[ho]at xu;cases xu;exact⟨_,es',Gu,hL,r'⟩) hok hg
def dS.turned{t':Nat}{it:Addr}(I:dS X b7 σ H s)(k:∀b o,b≠it->s.heap.get? b=some o->h'.get? b=some o)(hn:H it=none)(hL:it≠X.env.locals)
  (h1:it∈X.ex\/X.s₀.heap.objs.size<=it) (h2:∀x c,X.env.cells.lookup x=some c->c≠it) (h3:∀p∈X.pn++b7,p.1≠it):dS X b7 σ H { s with heap:=h',toks:=t' }:=by
 have Iu:∀b u,H b=some u->b≠it:=λb u e z=>by rw[z,hn]at e;cases e
 refine I.step (g':=s.gens) (d':=s.drawn) (ch:=[it]) (λb hb=>?_) (λb o _ _ hc e _=>k b o (λz=>hc (by simp[z])) e) (λb o _ _ hc e _=>⟨o.slots,k b o (λz=>hc (by simp[z])) e⟩) (λ_ _ _ _ n=>n)
  (λb o hc e=>⟨o,k b o (λz=>hc (by simp[z])) e⟩) (λ_ _ e=>e) (λ_ _ _ e=>e) (λb ps e=>⟨#[],by rw[e];simp⟩) (λm hm=>?_) (λb u e=>?_) I.bare
 ·have e:b=it:=by simpa using hb
  subst e;exact⟨h1,hL,h2,h3⟩
 ·obtain⟨o,es,ep,ho,r⟩:=hm;exact⟨o,es,ep,k _ o (l8 hL) ho,r⟩
 ·refine(I.hok b u e).stay (λc v hc q=>k c v ?_ q) (λ_ q=>q) λ_ _ q=>q;rcases hc with z | z
  ·rw[z];exact Iu b u e
  ·exact Iu c _ z
def dS.tok(I:dS X b7 σ H s)(t:Nat):dS X b7 σ H { s with toks:=t }:=I.un (h':=s.heap) (t':=t) Un.refl I.hok
theorem dS.kept{t':Nat}(I:dS X b7 σ H s)(k:∀b u,s.heap.get? b=some u->h'.get? b=some u):dS X b7 σ H { s with heap:=h',toks:=t' }:=I.un (Un.kept k) (I.hok.kept k)
theorem dS.laid{a:Addr}{o}{t':Nat}(I:dS X b7 σ H s)(k:∀b u,s.heap.get? b=some u->h'.get? b=some u)(hp:s.heap.objs.size<=a)(new:iE X.prog X.w (fM H a o) h' a o) :
  dS X b7 σ (fM H a o) { s with heap:=h',toks:=t' }:=I.un (Un.laid k hp (I.hok.fresh hp)) (I.hok.laid k hp new)
theorem dS.write{x e:Addr}{o}{t':Nat}(I:dS X b7 σ H s)(mu:Mut (H x))(he:e=x\/H e=some (.own x))(k:∀b u,b≠e->s.heap.get? b=some u->h'.get? b=some u)(Fm:∃u,h'.get? e=some u)
  (new:iE X.prog X.w (fM H x o) h' x o):dS X b7 σ (fM H x o) { s with heap:=h',toks:=t' }:=I.un (Un.write mu he k Fm) (I.hok.write mu he k Fm new)
def dS.pins_of{pins'}(I:dS X b7 σ H s)(h:∀p∈pins',s.heap.get? p.1=some p.2/\H p.1=none/\p.1≠X.env.locals/\p.1∉X.fs/\∀v,p.2.data≠.cell v):dS X pins' σ H s:=
 ⟨I.ok,I.os,I.bare,I.base,I.loc,I.cell,I.free,I.freeC,λp hp=>(dH.mp hp).elim (λz=>I.pin p (gM _ z)) (h p),I.hok,I.len⟩
def B2{N:List Str}(hN:N.Nodup){i j:Nat}{x}(a:N[i]?=some x)(b:N[j]?=some x):i=j:=by
 obtain⟨h1,e1⟩:=aD.mp a;obtain⟨h2,e2⟩:=aD.mp b;exact(BC hN).mp (e1.trans e2.symm)
def EF{M A}{E:Value->Shared->Prop}{i:Nat}{x v u}{Q:Unit->Shared->Prop}(I:dS X b7 σ H s)(hN:X.N.Nodup)(hi:X.N[i]?=some x)(hx:SA X.env.scope x)(r:fX v u)
  (h:∀s',dS X b7 (σ.set i (some v)) H s'->(∃a,eG a s.heap s'.heap/\(a=X.env.locals\/X.env.cells.lookup x=some a))->Q () s') (hf:X.fn x=true\/X.env.scope.names.lookup x=some .local:=by first | exact .inl rfl | exact .inr rfl | assumption):wpAny M A (storeName X.env x u) Q E s:=by
 obtain⟨m,hn,hl⟩:=id I.loc;have Dw:(X.env.scope.kind==.class||(X.env.scope.kind==.module&&X.env.locals != X.env.globals))=false:=by rw[I.ok.kind];rfl
 have Bw:i<σ.length:=by rw[I.len];exact(aD.mp hi).1
 have cne:=I.cne
 have uo:∀{a:Addr}{h':Heap},(∃o,s.heap.get? a=some o/\H a=none)->eG a s.heap h'->rF X.prog X.w H h':=λ{a h'} ha hs b ob e=>by
  obtain⟨_,_,iu⟩:=ha;refine(I.hok b ob e).stay (λc w' hc q=>(hs.2 c ?_).trans q) (λ_ q=>q) λ_ _ q=>q;rintro rfl;rcases hc with rfl | hc
  ·rw[iu]at e;cases e
  ·rw[iu]at hc;cases hc
 rcases hx with hk | hk
 ·refine wpAny_storeName_local hk hn (λh' hn' hs=>?_) Dw;obtain⟨oL,_,_,Uv,_⟩:=id hn;refine h _ ⟨I.ok,I.os,I.bare,⟨λb o e n hb hx=>?_,λb o e n hb hx=>?_,I.base.free,λb o e hx=>?_,I.base.tups,I.base.frzs,I.base.tbls⟩,⟨_,hn',λj y v' e1 e2 e3=>?_⟩,λy c e=>?_,I.free,I.freeC,λp hp=>?_,uo ⟨oL,Uv,I.free⟩ hs,by simpa using I.len⟩ ⟨_,hs,.inl rfl⟩
  ·exact(hs.2 b (bZ (cK (bG e) I.ok.above))).trans (I.base.keep b o e n hb hx)
  ·obtain⟨sl,e1⟩:=I.base.slot b o e n hb hx;exact⟨sl,(hs.2 b (bZ (cK (bG e) I.ok.above))).trans e1⟩
  ·obtain⟨o',e1⟩:=I.base.there b o e hx;exact⟨o',(hs.2 b (bZ (cK (bG e) I.ok.above))).trans e1⟩
  ·by_cases hj:j=i
   ·subst hj;rw[hi]at e1;cases e1;rw[aV Bw]at e2;cases e2;exact⟨u,r,.inl ⟨hk,by simp⟩⟩
   ·rw[aU (l8 hj)]at e2;obtain⟨u',r',q⟩:=hl j y v' e1 e2 e3;refine⟨u',r',?_⟩;rcases q with⟨k,e⟩ | ⟨k,c,e,z⟩
    ·refine .inl ⟨k,?_⟩;have:y≠x:=λe=>hj (B2 hN e1 (e▸hi));simp[this,e]
    ·exact .inr ⟨k,c,e,z.sameBut hs (cne y c e)⟩
  ·obtain⟨w',z⟩:=I.cell y c e;exact⟨w',z.sameBut hs (cne y c e)⟩
  ·obtain⟨e,n,ne,nf,d⟩:=I.pin p hp;exact⟨(hs.2 p.1 ne).trans e,n,ne,nf,d⟩
 ·have se:X.fn x=true:=by
   rcases hf with z | z
   ·exact z
   ·rw[z]at hk;cases hk
  obtain⟨c,hc⟩:=I.ok.has x (.inl hk);obtain⟨w',z⟩:=I.cell x c hc;refine wpAny_storeName_cell I.ok.kind hk hc z (λh' hc' hs=>?_);obtain⟨oc,Pm,Mo⟩:=id z;refine h { s with heap:=h' } ⟨I.ok,I.os,I.bare,⟨λb o e n hb hx=>?_,λb o e n hb hx=>?_,I.base.free,λb o e hx=>?_,I.base.tups,I.base.frzs,I.base.tbls⟩,⟨m,hn.sameBut hs (l8 (cne x c hc)),λj y v' e1 e2 e3=>?_⟩,λy c' e=>?_,I.free,I.freeC,λp hp=>?_,uo ⟨oc,Pm,I.freeC x c hc⟩ hs,by simpa using I.len⟩ ⟨c,hs,.inr hc⟩
  ·exact(hs.2 b (bZ (cK (bG e) (I.ok.cab x c se hc)))).trans (I.base.keep b o e n hb hx)
  ·obtain⟨sl,e1⟩:=I.base.slot b o e n hb hx;exact⟨sl,(hs.2 b (bZ (cK (bG e) (I.ok.cab x c se hc)))).trans e1⟩
  ·obtain⟨o',e1⟩:=I.base.there b o e hx;exact⟨o',(hs.2 b (bZ (cK (bG e) (I.ok.cab x c se hc)))).trans e1⟩
  ·by_cases hj:j=i
   ·subst hj;rw[hi]at e1;cases e1;rw[aV Bw]at e2;cases e2;exact⟨u,r,.inr ⟨.inl hk,c,hc,hc'⟩⟩
   ·rw[aU (l8 hj)]at e2;obtain⟨u',r',q⟩:=hl j y v' e1 e2 e3;refine⟨u',r',?_⟩;rcases q with q | ⟨k,c',e,z'⟩
    ·exact .inl q
    ·refine .inr ⟨k,c',e,z'.sameBut hs ?_⟩;rintro rfl;exact hj (B2 hN e1 (I.ok.inj _ _ _ e hc▸hi))
  ·by_cases He:c'=c
   ·subst He;exact⟨_,hc'⟩
   ·obtain⟨w2,z2⟩:=I.cell y c' e;exact⟨w2,z2.sameBut hs He⟩
  ·obtain⟨e,n,ne,nf,d⟩:=I.pin p hp;refine⟨(hs.2 p.1 ?_).trans e,n,ne,nf,d⟩;intro q;rw[q,Pm]at e;have q':oc=p.2:=e9 e;exact d w' (by rw[<- q'];exact Mo)
def BF{M A}{E:Value->Shared->Prop}{i:Nat}{x v u}{Q:Unit->Shared->Prop}(I:dS X b7 σ H s)(hN:X.N.Nodup)(hi:X.N[i]?=some x)(hx:SA X.env.scope x)(r:fX v u)
  (h:∀s',dS X b7 (σ.set i (some v)) H s'->Q () s') (hf:X.fn x=true\/X.env.scope.names.lookup x=some .local:=by first | exact .inl rfl | exact .inr rfl | assumption):wpAny M A (storeName X.env x u) Q E s:=
 EF I hN hi hx r (λs' I' _=>h s' I') hf
def dS.call'{s':Shared}{ch}(I:dS X b7 σ H s)(ho:s'.os=s.os)(u:Un (sR X.stack) ch H H' s.heap s'.heap)(hok:rF X.prog X.w H' s'.heap)(hg:fz s'.gens)
  (jm:∀b∈ch,(b∈X.ex\/X.s₀.heap.objs.size<=b)/\b≠X.env.locals/\(∀x c,X.env.cells.lookup x=some c->c≠b)/\∀p∈X.pn++b7,p.1≠b):dS X b7 σ H' s':=by
 obtain⟨h',g',d',t',o'⟩:=s';have e:o'=s.os:=ho;subst e;exact I.call (g':=g') (t':=t') (d':=d') u hok hg jm
end
abbrev XK:=Value->Option Addr->Hp->Prop
abbrev St:=List (Option V)
abbrev VK:=V->Hp->Prop
abbrev TE:=St->Hp->VK->Prop
abbrev TT:=St->Hp->(Bool->Hp->Prop)->Prop
abbrev TA:=St->Hp->(List V->Hp->Prop)->Prop
structure C9 where
 nx:St->Hp->Prop
 rt:VK
 bk:St->Hp->Prop:=λ_ _=>False
 ct:St->Hp->Prop:=λ_ _=>False
abbrev TS:=C9->St->Hp->Prop
def EP(X:Cx)(b7:List (Addr×Obj))(σ:St)(Q:VK)(u:Value)(s':Shared):Prop:=∃v H',dS X b7 σ H' s'/\fX v u/\Q v H'
def TP(X:Cx)(b7:List (Addr×Obj))(σ:St)(Q:Bool->Hp->Prop)(b:Bool)(s':Shared):Prop:=∃H',dS X b7 σ H' s'/\Q b H'
def AP(X:Cx)(b7:List (Addr×Obj))(σ:St)(Q:List V->Hp->Prop)(us:List Value)(s':Shared):Prop:=∃vs H',dS X b7 σ H' s'/\gE vs us/\Q vs H'
def SP(X:Cx)(b7:List (Addr×Obj))(D:C9)(f:Flow)(s':Shared):Prop:=
 match f with
 |.next=>∃g6 H',dS X b7 g6 H' s'/\D.nx g6 H'
 |.brk=>∃g6 H',dS X b7 g6 H' s'/\D.bk g6 H'
 |.cont=>∃g6 H',dS X b7 g6 H' s'/\D.ct g6 H'
 |.ret u=>∃v g6 H',dS X b7 g6 H' s'/\fX v u/\D.rt v H'
def PE(X:Cx)(e:Expr)(t:TE):Prop:=
 ∀b7 s σ H Q,dS X b7 σ H s->t σ H Q->wpAny (model X.prog X.w) X.A (eval e X.env) (EP X b7 σ Q) X.xe s
def PT(X:Cx)(e:Expr)(t:TT):Prop:=
 ∀b7 s σ H(Q:Bool->Hp->Prop),dS X b7 σ H s->t σ H Q->wpAny (model X.prog X.w) X.A (isTrue e X.env (eval e X.env)) (TP X b7 σ Q) X.xe s
def PW(X:Cx)(e:Expr)(t:TT):Prop:=
 ∀(lb:Sem Value)b7 s σ H(Q:Bool->Hp->Prop),dS X b7 σ H s->t σ H Q->wpAny (model X.prog X.w) X.A (isTrue e X.env lb) (TP X b7 σ Q) X.xe s
def PW.pt{X e t}(h:PW X e t):PT X e t:=h _
def PA(X:Cx)(es:List Expr)(t:TA):Prop:=
 ∀(pos:Pos)b7 s σ H(Q:List V->Hp->Prop),dS X b7 σ H s->t σ H Q->wpAny (model X.prog X.w) X.A (spliced (w6 pos (bS es X.env))) (AP X b7 σ Q) X.xe s
def PS(X:Cx)(st:Stmt)(t:TS):Prop:=
 ∀b7 s σ H(D:C9),dS X b7 σ H s->t D σ H->wpAny (model X.prog X.w) X.A (exec st X.env) (SP X b7 D) X.xe s
def zI(X:Cx)(st:List Stmt)(t:TS):Prop:=
 ∀b7 s σ H(D:C9),dS X b7 σ H s->t D σ H->wpAny (model X.prog X.w) X.A (execs st X.env) (SP X b7 D) X.xe s
def iZ{α:Type}{t}{Q Q':α->Shared->Prop}{M A}{E:Value->Shared->Prop}{s}(h:wpAny M A t Q E s)(hQ:∀a s,Q a s->Q' a s):wpAny M A t Q' E s:=fV h hQ λ_ _ x=>x
section
variable{X:Cx}
def pU(i:Nat):TE:=λσ H Q=>∃v,σ[i]?=some (some v)/\Q v H
def tC(v:V):TE:=λ_ H Q=>Q v H
def UJ{i:Nat}{x:Str}{pos}(hN:X.N[i]?=some x)(hv:Vis X.env.scope x)(hd:(x==("__debug__":Str))=false:=by decide)(my:(x==("__classdict__":Str))=false:=by decide):PE X (.Name x pos) (pU i):=by
 intro b7 s σ H Q I h;obtain⟨v,e,h⟩:=h;obtain⟨m,hn,hl⟩:=I.loc;obtain⟨u,r,l⟩:=hl i x v hN e hv;have fin:EP X b7 σ Q u s:=⟨v,H,I,r,h⟩;rcases l with⟨hk,hm⟩ | ⟨hk,c,hc,Cv⟩
 ·exact Fc (wpAny_loadName_local I.ok.kind hk hn hm fin) hd
 ·rcases hk with hk | hk
  ·exact Fc (wpAny_loadName_cell I.ok.kind hk hc Cv fin) hd
  ·exact Fc (wpAny_loadName_free I.ok.kind hk hc Cv fin my) hd
def LQ{i j pos}:PE X (.Constant (.int i) j pos) (tC (.int i)):=λ_ _ _ H _ I h=>wpAny_Constant_int ⟨.int i,H,I.tok _,⟨_,rfl⟩,h⟩
def aJz{b j pos}:PE X (.Constant (.bool b) j pos) (tC (.bl b)):=λ_ _ _ H _ I h=>Constant_bool ⟨.bl b,H,I,rfl,h⟩
def aEy{j pos}:PE X (.Constant .none j pos) (tC .non):=λ_ _ _ H _ I h=>Constant_none ⟨.non,H,I,rfl,h⟩
def pD{x j pos}:PE X (.Constant (.str x) j pos) (tC (.str x)):=λ_ _ _ H _ I h=>Calls.Constant_str ⟨.str x,H,I.tok _,⟨_,rfl⟩,h⟩
def Gl(X:Cx)(x:Str):Prop:=X.env.kindOf x=some .globalImplicit
def vB{E:Value->Shared->Prop}{b7 s σ H}{x:Str}{u pos}{Q:Value->Shared->Prop}(I:dS X b7 σ H s)(hg:Gl X x)(hm:X.mg x=some u)(h:Q u s)
  (hd:(x==("__debug__":Str))=false:=by decide):wpAny (model X.prog X.w) X.A (eval (.Name x pos) X.env) Q E s:=
 lj I.ok.kind hg (Calls.loadGlobal_global (by rw[I.ok.glob];exact I.mod.glob.keeps I.bk) hm h) hd
def wX{E:Value->Shared->Prop}{b7 s σ H}{x:Str}{u pos}{Q:Value->Shared->Prop}(I:dS X b7 σ H s)(hg:Gl X x)(hm:X.mg x=none)(hv:i0 x=some u)(h:Q u s)
  (hn:x≠"__name__":=by decide) (hd:(x==("__debug__":Str))=false:=by decide):wpAny (model X.prog X.w) X.A (eval (.Name x pos) X.env) Q E s:=by
 obtain⟨mb,h1,h2⟩:=I.mod.blt;exact lj I.ok.kind hg (Calls.loadGlobal_builtin (by rw[I.ok.glob];exact I.mod.glob.keeps I.bk) hm (by rw[I.ok.blt];exact h1.keeps I.bk) ((h2 x hn).trans hv) h) hd
def oV{x:Str}{v u pos}(hg:Gl X x)(hm:X.mg x=some u)(r:fX v u)(hd:(x==("__debug__":Str))=false:=by decide):PE X (.Name x pos) (tC v):=
 λ_ _ _ H _ I h=>vB I hg hm ⟨v,H,I,r,h⟩ hd
def uV{x:Str}{v u pos}(hg:Gl X x)(hm:X.mg x=none)(hv:i0 x=some u)(r:fX v u)(hn:x≠"__name__":=by decide)(hd:(x==("__debug__":Str))=false:=by decide):PE X (.Name x pos) (tC v):=
 λ_ _ _ H _ I h=>wX I hg hm hv ⟨v,H,I,r,h⟩ hn hd
variable{a b:Expr}{ta tb:TE}{pos:Pos}
def tB(t:TE):TT:=λσ H Q=>t σ H λx H1=>∃c,x=.bl c/\Q c H1
def UA{e:Expr}{t}(h:PE X e t)(he:∀lb,isTrue e X.env lb=(do let v <- lb;standAt e.pos;xx [v] (truthy v)):=by intro _;rfl):PT X e (tB t):=by
 intro b7 s σ H Q I hw;refine isTrue_plain (iZ (h b7 s σ H _ I hw) λv s1 zq=>?_) (he _);obtain⟨x,H1,I1,r1,q1⟩:=zq;obtain⟨d,rfl,q⟩:=q1;cases r1;exact v7 ⟨H1,I1,q⟩
variable{tA wu:TT}{fK:List Expr}
def aNi(t u:TT):TT:=λσ H Q=>t σ H λc H1=>if c=true then u σ H1 Q else Q false H1
def tOr(t u:TT):TT:=λσ H Q=>t σ H λc H1=>if c=true then Q true H1 else u σ H1 Q
def aNe(t:TT):TT:=λσ H Q=>t σ H λc H1=>Q (!c) H1
def N8(ha:PT X a tA):PW X (.BoolOp .And [a] pos) tA:=by
 intro wh b7 s σ H Q I h;refine isTrue_and (iZ (ha b7 s σ H Q I h) λc s1 e=>?_)
 cases c with
 |true=>exact isTrue_and_nil e
 |false=>exact e
def aEs(ha:PT X a tA):PW X (.BoolOp .Or [a] pos) tA:=by
 intro wh b7 s σ H Q I h;refine isTrue_or (iZ (ha b7 s σ H Q I h) λc s1 e=>?_)
 cases c with
 |false=>exact isTrue_or_nil e
 |true=>exact e
def T9(ha:PT X a tA)(hb:PW X (.BoolOp .And (b::fK) pos) wu):PW X (.BoolOp .And (a::b::fK) pos) (aNi tA wu):=by
 intro wh b7 s σ H Q I h;refine isTrue_and (iZ (ha b7 s σ H _ I h) λc s1 zq=>?_);obtain⟨H1,I1,q1⟩:=zq
 cases c with
 |true=>exact hb wh b7 s1 σ H1 Q I1 q1
 |false=>exact⟨H1,I1,q1⟩
def aJs(ha:PT X a tA)(hb:PW X (.BoolOp .Or (b::fK) pos) wu):PW X (.BoolOp .Or (a::b::fK) pos) (tOr tA wu):=by
 intro wh b7 s σ H Q I h;refine isTrue_or (iZ (ha b7 s σ H _ I h) λc s1 zq=>?_);obtain⟨H1,I1,q1⟩:=zq
 cases c with
 |true=>exact⟨H1,I1,q1⟩
 |false=>exact hb wh b7 s1 σ H1 Q I1 q1
def aEt(ha:PT X a tA):PT X (.UnaryOp .Not a pos) (aNe tA):=by
 intro b7 s σ H Q I h;exact isTrue_not (ha b7 s σ H (λc H1=>Q (!c) H1) I h)
def aHh(ta tb:TE):TE:=λσ H Q=>ta σ H λx H1=>∃c,x=.bl c/\if c=true then tb σ H1 Q else Q (.bl false) H1
def aNd(ta tb:TE):TE:=λσ H Q=>ta σ H λx H1=>∃c,x=.bl c/\if c=true then Q (.bl true) H1 else tb σ H1 Q
def aHe(ta:TE):TE:=λσ H Q=>ta σ H λx H1=>∃c,x=.bl c/\Q (.bl (!c)) H1
def aEw{op t}(h:PE X a t):PE X (.BoolOp op [a] pos) t:=λb7 s σ H Q I hw=>BoolOp_one (h b7 s σ H Q I hw)
def aE0(ha:PE X a ta)(hb:PE X (.BoolOp .And (b::fK) pos) tb):PE X (.BoolOp .And (a::b::fK) pos) (aHh ta tb):=by
 intro b7 s σ H Q I h;refine BoolOp_and (iZ (ha b7 s σ H _ I h) λv s1 zq=>?_);obtain⟨x,H1,I1,r1,q1⟩:=zq;obtain⟨c,rfl,q1⟩:=q1;cases r1;refine v7 ?_
 cases c with
 |true=>exact hb b7 s1 σ H1 Q I1 q1
 |false=>exact⟨.bl false,H1,I1,rfl,q1⟩
def aJx(ha:PE X a ta)(hb:PE X (.BoolOp .Or (b::fK) pos) tb):PE X (.BoolOp .Or (a::b::fK) pos) (aNd ta tb):=by
 intro b7 s σ H Q I h;refine BoolOp_or (iZ (ha b7 s σ H _ I h) λv s1 zq=>?_);obtain⟨x,H1,I1,r1,q1⟩:=zq;obtain⟨c,rfl,q1⟩:=q1;cases r1;refine v7 ?_
 cases c with
 |false=>exact hb b7 s1 σ H1 Q I1 q1
 |true=>exact⟨.bl true,H1,I1,rfl,q1⟩
def aEx(ha:PE X a ta):PE X (.UnaryOp .Not a pos) (aHe ta):=by
 intro b7 s σ H Q I h;refine UnaryOp_ (iZ (ha b7 s σ H _ I h) λv s1 zq=>?_);obtain⟨x,H1,I1,r1,q1⟩:=zq;obtain⟨c,rfl,q1⟩:=q1;cases r1;exact not_of (v7 ⟨.bl (!c),H1,I1,rfl,q1⟩)
def tIf(t:TT)(ta tb:TE):TE:=λσ H Q=>t σ H λc H1=>if c=true then ta σ H1 Q else tb σ H1 Q
def UM{c}(hc:PT X c tA)(ha:PE X a ta)(hb:PE X b tb):PE X (.IfExp c a b pos) (tIf tA ta tb):=by
 intro b7 s σ H Q I h;refine wpAny_IfExp (iZ (hc b7 s σ H _ I h) λd s1 zq=>?_);obtain⟨H1,I1,q1⟩:=zq
 cases d with
 |true=>exact ha b7 s1 σ H1 Q I1 q1
 |false=>exact hb b7 s1 σ H1 Q I1 q1
end
def mN(K:aI)(H:Hp)(a:Addr)(xs:List V):Prop:=
 Rd H a (.lst xs) \/
  ∃(o:Obj)(its:Array Value)(n:Nat),K.lookup a=some o/\o.cls=.type "list"/\o.dict=none/\o.data=.seq its n/\its.size<=bM/\gE xs its.toList
def vL(K:aI)(H:Hp)(a:Addr)(xs:List V):Prop:=
 Rd H a (.tup xs) \/
  ∃(o:Obj)(its:Array Value)(n:Nat),K.lookup a=some o/\o.cls=.type "tuple"/\o.dict=none/\o.data=.seq its n/\its.size<=bM/\gE xs its.toList
noncomputable def aO9:Value->Option V
|.none=>some .non
|.bool b=>some (.bl b)
|.int i _=>some (.int i)
|.str x _=>some (.str x)
|.bytes b _=>some (.byt b)
|.float b _=>some (.flt b)
|.ref a=>some (.ref a)
|.type n=>some (.ty n)
|_=>none
def fX.abs{x u}(r:fX x u):aO9 u=some x:=by
 cases x with
 |non=>cases r;rfl
 |bl _=>cases r;rfl
 |int _=>obtain⟨t,rfl⟩:=r;rfl
 |str _=>obtain⟨t,rfl⟩:=r;rfl
 |byt _=>obtain⟨t,rfl⟩:=r;rfl
 |flt _=>obtain⟨t,rfl⟩:=r;rfl
 |ref _=>cases r;rfl
 |ty _=>cases r;rfl
theorem fX.inj{x y u}(r:fX x u)(q:fX y u):x=y:=e9 (r.abs.symm.trans q.abs)
theorem gE.inj:∀{xs ys us},gE xs us->gE ys us->xs=ys
|_,_,_,.nil,.nil=>rfl
|_,_,_,.cons r t,.cons r' t'=>by rw[r.inj r',gE.inj t t']
section
variable{X:Cx}{b7:List (Addr×Obj)}{σ:St}{H:Hp}{s:Shared}{a:Addr}{xs ys:List V}
def mN.of{K}(h:H a=some (.lst xs)):mN K H a xs:=.inl (.inl h)
def vL.of{K}(h:H a=some (.tup xs)):vL K H a xs:=.inl (.inl h)
def dS.list(I:dS X b7 σ H s)(h:mN X.K H a xs):∃its:List Value,gE xs its/\PlainL s.heap a its.toArray/\xs.length<=bM:=by
 rcases h with h | ⟨o,its,n,hk,hc,hd,hs,hz,r⟩
 ·obtain⟨z,its,n,r,e⟩:=h.ok I.hok;exact⟨its,r,⟨_,n,e,rfl,rfl,rfl⟩,z⟩
 ·refine⟨its.toList,r,⟨o,n,I.kIn a o hk,hc,hd,by simpa using hs⟩,?_⟩;have e:=r.length;simp only[bB]at e;omega
def dS.tuple(I:dS X b7 σ H s)(h:vL X.K H a xs):∃its:List Value,gE xs its/\Ff s.heap a its.toArray/\xs.length<=bM:=by
 rcases h with h | ⟨o,its,n,hk,hc,_,hs,hz,r⟩
 ·obtain⟨z,its,r,p⟩:=h.ok I.hok;exact⟨its,r,p.tup,z⟩
 ·refine⟨its.toList,r,⟨o,I.kIn a o hk,hc,n,by simpa using hs⟩,?_⟩;have e:=r.length;simp only[bB]at e;omega
def dS.tupleN(I:dS X b7 σ H s)(h:vL X.K H a xs):∃o,s.heap.get? a=some o/\o.cls=.type "tuple"/\o.dict=none:=by
 rcases h with h | ⟨o,its,n,hk,hc,hd,_⟩
 ·obtain⟨z,its,r,⟨o,e,c,n,_,d⟩⟩:=h.ok I.hok;exact⟨o,e,c,d⟩
 ·exact⟨o,I.kIn a o hk,hc,hd⟩
def dS.list_inj(I:dS X b7 σ H s)(h:mN X.K H a xs)(h':mN X.K H a ys):xs=ys:=by
 obtain⟨its,r,⟨o,n,e,_,_,d⟩,_⟩:=I.list h;obtain⟨its',r',⟨o',n',e',_,_,d'⟩,_⟩:=I.list h';rw[e]at e';cases e';rw[d]at d';injection d' with d1 _
 have:its=its':=by simpa using i6 aG5 d1
 subst this;exact r.inj r'
def dS.tuple_inj(I:dS X b7 σ H s)(h:vL X.K H a xs)(h':vL X.K H a ys):xs=ys:=by
 obtain⟨its,r,⟨o,e,_,n,d⟩,_⟩:=I.tuple h;obtain⟨its',r',⟨o',e',_,n',d'⟩,_⟩:=I.tuple h';rw[e]at e';cases e';rw[d]at d';injection d' with d1 _
 have:its=its':=by simpa using i6 aG5 d1
 subst this;exact r.inj r'
end
noncomputable abbrev Cx.wish(X:Cx)(E:Value->Shared->Prop):Cx:={ X with xe:=E }
noncomputable abbrev Cx.nox(X:Cx):Cx:=X.wish λ_ _=>False
theorem Cx.Ok.wish{X:Cx}(ok:X.Ok)(E:Value->Shared->Prop):(X.wish E).Ok:=
 ⟨ok.mod,ok.kind,ok.glob,ok.blt,ok.above,ok.inj,ok.has,ok.cab,ok.hd,ok.frames,ok.stk,ok.exf,ok.bs,ok.bsz,ok.noex,ok.exfs,ok.funs,ok.frf,ok.tab⟩
def Cx.Ok.unwish{X:Cx}{E:Value->Shared->Prop}(ok:(X.wish E).Ok):X.Ok:=
 ⟨ok.mod,ok.kind,ok.glob,ok.blt,ok.above,ok.inj,ok.has,ok.cab,ok.hd,ok.frames,ok.stk,ok.exf,ok.bs,ok.bsz,ok.noex,ok.exfs,ok.funs,ok.frf,ok.tab⟩
section
variable{X:Cx}{b7:List (Addr×Obj)}{σ:St}{H:Hp}{s:Shared}{E:Value->Shared->Prop}
theorem dS.wish(I:dS X b7 σ H s)(E:Value->Shared->Prop):dS (X.wish E) b7 σ H s:=⟨I.ok.wish E,I.os,I.bare,I.base,I.loc,I.cell,I.free,I.freeC,I.pin,I.hok,I.len⟩
theorem dS.unwish(I:dS (X.wish E) b7 σ H s):dS X b7 σ H s:=⟨I.ok.unwish,I.os,I.bare,I.base,I.loc,I.cell,I.free,I.freeC,I.pin,I.hok,I.len⟩
theorem SP.unwish{D f s'}(h:SP (X.wish E) b7 D f s'):SP X b7 D f s':=by
 cases f with
 |next=>obtain⟨g6,H',I,q⟩:=h;exact⟨g6,H',I.unwish,q⟩
 |brk=>obtain⟨g6,H',I,q⟩:=h;exact⟨g6,H',I.unwish,q⟩
 |cont=>obtain⟨g6,H',I,q⟩:=h;exact⟨g6,H',I.unwish,q⟩
 |ret u=>obtain⟨v,g6,H',I,r,q⟩:=h;exact⟨v,g6,H',I.unwish,r,q⟩
theorem zI.nox{st t}(h:zI X.nox st t):zI X st t:=λb7 s σ H D I hw=>
 fV (h b7 s σ H D (I.wish _) hw) (λ_ _ q=>q.unwish) λ_ _ z=>j9 z
end
section
variable{X:Cx}{st:Stmt}{fK:List Stmt}{t u:TS}{e:Expr}{te:TE}{pos:Pos}
def aHf:TS:=λD σ H=>D.nx σ H
def aNb(t u:TS):TS:=λD σ H=>t { D with nx:=u D } σ H
def F9:zI X [] aHf:=λ_ _ σ H _ I h=>fh ⟨σ,H,I,h⟩
def tO(h1:PS X st t)(h2:zI X fK u):zI X (st::fK) (aNb t u):=by
 intro b7 s σ H D I h;refine oh (iZ (h1 b7 s σ H { D with nx:=u D } I h) λf s1 q=>?_)
 cases f with
 |next=>
  obtain⟨g6,H',I',q⟩:=q;exact h2 b7 s1 g6 H' D I' q
 |ret v=>exact q
 |brk=>exact q
 |cont=>exact q
def F8(h1:PS X st t):zI X [st] t:=by
 intro b7 s σ H D I h;refine oh (iZ (h1 b7 s σ H D I h) λf s1 q=>?_)
 cases f with
 |next=>exact fh q
 |ret v=>exact q
 |brk=>exact q
 |cont=>exact q
def dS.quiet{b7 σ H s}(I:dS X b7 σ H s):interactive X.env=false:=by simp[interactive,I.ok.kind]
def S8(te:TE):TS:=λD σ H=>te σ H λ_ H1=>D.nx σ H1
def qA(he:PE X e te)(hs:gX e none pos.line X.env=pure false:=by rfl):PS X (.Expr e pos) (S8 te):=by
 intro b7 s σ H D I h;exact wpAny_Expr_any (iZ (he b7 s σ H _ I h) λv s1 ⟨x,H1,I1,r1,q1⟩=>⟨σ,H1,I1,q1⟩) I.quiet hs
def aNc(te:TE):TS:=λD σ H=>te σ H D.rt
def BU(he:PE X e te):PS X (.Return (some e) pos) (aNc te):=by
 intro b7 s σ H D I h;exact wpAny_Return_some (iZ (he b7 s σ H _ I h) λv s1 ⟨x,H1,I1,r1,q1⟩=>⟨x,σ,H1,I1,r1,q1⟩)
def aNg(c:TT)(t u:TS):TS:=λD σ H=>c σ H λb H1=>if b=true then t D σ H1 else u D σ H1
def aCp{c a b tc}(hc:PT X c tc)(ha:zI X a t)(hb:zI X b u):PS X (.If c a b pos) (aNg tc t u):=by
 intro b7 s σ H D I h;refine wpAny_If (iZ (hc b7 s σ H _ I h) λd s1 zq=>?_);obtain⟨H1,I1,q1⟩:=zq
 cases d with
 |true=>exact ha b7 s1 σ H1 D I1 q1
 |false=>exact hb b7 s1 σ H1 D I1 q1
def S7:TS:=λ_ _ _=>False
def QN{sts}:zI X sts S7:=λ_ _ _ _ _ _ h=>h.elim
end
abbrev TG:=V->St->Hp->(St->Hp->Prop)->Prop
abbrev TGs:=List V->St->Hp->(St->Hp->Prop)->Prop
def PG(X:Cx)(jj:Expr)(t:TG):Prop:=
 ∀b7 s σ H(v:V)(u:Value)(Q:St->Hp->Prop),dS X b7 σ H s->fX v u->t v σ H Q ->
  wpAny (model X.prog X.w) X.A (mr jj X.env u) (λ_ s'=>∃g6 H',dS X b7 g6 H' s'/\Q g6 H') X.xe s
def PGs(X:Cx)(ts:List Expr)(t:TGs):Prop:=
 ∀b7 s(σ:St)H(vs:List V)(us:List Value)(Q:St->Hp->Prop),dS X b7 σ H s->gE vs us->t vs σ H Q ->
  wpAny (model X.prog X.w) X.A (assignInOrder ((ie ts X.env).map (·.2)) us) (λ_ s'=>∃g6 H',dS X b7 g6 H' s'/\Q g6 H') X.xe s
section
variable{X:Cx}{pos:Pos}
def kG(i:Nat):TG:=λv σ H Q=>Q (σ.set i (some v)) H
def OC{i:Nat}{x}(hN:X.N.Nodup)(hi:X.N[i]?=some x)(hx:SA X.env.scope x)(hf:X.fn x=true\/X.env.scope.names.lookup x=some .local:=by first | exact .inl rfl | exact .inr rfl | assumption):PG X (.Name x pos) (kG i):=by
 intro b7 s σ H v u Q I r h;exact Gd (BF I hN hi hx r (λs' I'=>⟨_,H,I',h⟩) hf)
def aAs:TGs:=λvs σ H Q=>vs=[]/\Q σ H
def wG(t:TG)(u:TGs):TGs:=λvs σ H Q=>∃v r,vs=v::r/\t v σ H λg6 H'=>u r g6 H' Q
def lE:PGs X [] aAs:=by
 intro b7 s σ H vs us Q I r h;obtain⟨e,h⟩:=h;subst e;cases r;exact assignInOrder_nil ⟨σ,H,I,h⟩
def dO{e es t u}(h1:PG X e t)(h2:PGs X es u)
  (hs:(ie (e::es) X.env).map (·.2)=mr e X.env::(ie es X.env).map (·.2):=by rfl):PGs X (e::es) (wG t u):=by
 intro b7 s σ H vs us Q I r h;obtain⟨v,vr,e1,h⟩:=h;subst e1
 cases r with
 |cons r rr=>
  rw[hs];refine assignInOrder_cons (iZ (h1 b7 s σ H _ _ _ I r h) λ_ s1 zq=>?_);obtain⟨Gg,H1,I1,q1⟩:=zq;exact h2 b7 s1 Gg H1 _ _ Q I1 rr q1
def aAr(K:aI)(n:Nat)(t:TGs):TG:=λv σ H Q=>∃a xs,v=.ref a/\vL K H a xs/\xs.length=n/\t xs σ H Q
def mZ{es}{k:Nat}{t}{n:Nat}(hc:X.calm=true)(h:PGs X es t)
  (hn:(ie es X.env).length=n:=by rfl) (jx:(ie es X.env).findIdx? (·.1)=none:=by rfl):PG X (.Tuple es k pos) (aAr X.K n t):=by
 intro b7 s σ H v u Q I r hw;obtain⟨a,xs,e1,hq,hl,hw⟩:=hw;subst e1;cases r;obtain⟨its,rv,ht,hz⟩:=I.tuple hq;refine assign_Tuple_tuple (I.ok.hd hc) ht (by simp[hn,<- hl,rv.length]) jx λh' hx=>?_;have I1:dS X b7 σ H { s with heap:=h' }:=I.kept (t':=s.toks) λb o e=>hx b o (bZ (bG e)) e;exact h b7 _ σ H xs _ Q I1 (by simpa using rv) hw
def wS(te:TE)(g:TG):TS:=λD σ H=>te σ H λx H1=>g x σ H1 D.nx
def BW{tg e te g}(he:PE X e te)(hg:PG X tg g)(hs:swapsWithSole [tg] e pos.line X.env=pure false:=by rfl)(hw:swappedStores [tg] e X.env=pure none:=by rfl)
  (h1:(ie [tg] X.env).map (·.2)=[mr tg X.env]:=by rfl):PS X (.Assign [tg] e pos) (wS te g):=by
 intro b7 s σ H D I h;refine wpAny_Assign_stores (iZ (he b7 s σ H _ I h) λv s1 zq=>?_) hs hw;obtain⟨x,H1,I1,r1,q1⟩:=zq;rw[h1];exact iZ (hg b7 s1 σ H1 x v _ I1 r1 q1) λ_ s2 q=>q
def tP{i:Nat}{x e te o9}(hN:X.N.Nodup)(hi:X.N[i]?=some x)(hx:SA X.env.scope x)(he:PE X e te)(hs:gX e (some (.Name x o9)) pos.line X.env=pure false:=by rfl)(hf:X.fn x=true\/X.env.scope.names.lookup x=some .local:=by first | exact .inl rfl | exact .inr rfl | assumption) :
  PS X (.Assign [.Name x o9] e pos) (wS te (kG i)):=by
 intro b7 s σ H D I h;refine Gc (iZ (he b7 s σ H _ I h) λv s1 zq=>?_) hs;obtain⟨y,H1,I1,r1,q1⟩:=zq;exact BF I1 hN hi hx r1 (λs2 I2=>⟨_,H1,I2,q1⟩) hf
end
section
variable{X:Cx}{pos:Pos}
def S3(c:TT)(tb:TS):TS:=λD σ H=>∃W:Nat->St->Hp->Prop,(∃m,W m σ H)/\∀m σ H,W m σ H ->
 c σ H λb H1=>if b=true then∃N:St->Hp->Prop,(∀g6 H',N g6 H'->∃m',m'<m/\W m' g6 H')/\tb { D with nx:=N,ct:=N,bk:=D.nx } σ H1 else D.nx σ H1
def IP{c body tc tb}(hp:wp (model X.prog X.w) X.A X.env X.xe)(hc:PT X c tc)(hb:zI X body tb):PS X (.While c body [] pos) (S3 tc tb):=by
 intro b7 s σ H D I h;obtain⟨W,⟨m0,w0⟩,tz⟩:=h;refine wpAny_While (codeAny_whileLoop (λn s'=>∃g6 H',dS X b7 g6 H' s'/\W n g6 H') ?_ m0 ⟨σ,H,I,w0⟩);rintro n s1 ⟨Gg,H1,I1,w1⟩;refine z6 hp (iZ (hc b7 s1 Gg H1 _ I1 (tz n Gg H1 w1)) λb s2 zq=>?_);obtain⟨H2,I2,q2⟩:=zq
 cases b with
 |true=>
  obtain⟨N,hN,q2⟩:=q2;rw[b9 rfl];refine z6 hp (iZ (hb b7 s2 Gg H2 _ I2 q2) λf s3 q3=>?_)
  cases f with
  |next=>
   obtain⟨kg,H3,I3,n3⟩:=q3;obtain⟨m',hm,w3⟩:=hN kg H3 n3;exact⟨m',hm,kg,H3,I3,w3⟩
  |cont=>
   obtain⟨kg,H3,I3,n3⟩:=q3;obtain⟨m',hm,w3⟩:=hN kg H3 n3;exact⟨m',hm,kg,H3,I3,w3⟩
  |brk=>exact q3
  |ret v=>exact q3
 |false=>
  rw[b8 aX];exact fh ⟨Gg,H2,I2,q2⟩
end
structure It where
 go:Nat->Hp->Prop
 yld:Nat->Hp->V->Hp->Prop
 stop:Nat->Hp->Prop
def C5(X:Cx)(b7:List (Addr×Obj))(H:Hp)(b:Addr):Prop:=
 H b=none/\b≠X.env.locals/\b∉X.fs/\(b∈X.ex\/X.s₀.heap.objs.size<=b)/\(∀x c,X.env.cells.lookup x=some c->c≠b)/\∀p∈X.pn++b7,p.1≠b
def dS.fpOk{X b7 σ H H'}{s:Shared}{b:Addr}(I:dS X b7 σ H s)(hb:s.heap.objs.size<=b)(hn:H' b=none):C5 X b7 H' b:=by
 refine⟨hn,jU (cK I.lt hb),I.nofs hb,.inr (dG I.sz hb),λx c e z=>?_,λp hp z=>?_⟩
 ·obtain⟨v,q⟩:=I.cell x c e;exact d8 (cK q.lt (by rw[z];exact hb)) (eX _)
 ·exact d8 (cK (bG (I.pin p hp).1) (by rw[z];exact hb)) (eX _)
structure D2(P:bX)(w:g7)(K:aI)(tg:Expr)(J:It)(fp:List Addr)(it:Addr)(tn:Nat->Heap->Prop):Prop where
 mem:it∈fp
 obj:∀i h,tn i h->∀b∈fp,∃o,h.get? b=some o/\∀v,o.data≠.cell v
 keep:∀i h h',tn i h->(∀b∈fp,∀o,h.get? b=some o->h'.get? b=some o)->tn i h'
 item:∀(X:Cx),X.prog=P->X.w=w->X.K=K->X.calm=true->∀(i:Nat)b7(s:Shared)σ H E,dS X b7 σ H s->(∀b∈fp,C5 X b7 H b)->tn i s.heap->J.go i H ->
  wpAny (model P w) X.A (fw (.ref it)) (λr s1=>∃u,r=some u /\
   wpAny (model P w) X.A (v3 tg (.ref it) u) (λ_ s2=>∃x H',dS X b7 σ H' s2/\fX x u/\J.yld i H x H'/\tn (i+1) s2.heap/\∀b∈fp,H' b=none) E s1) E s
 done:∀(X:Cx),X.prog=P->X.w=w->X.K=K->X.calm=true->∀(i:Nat)b7(s:Shared)σ H E,dS X b7 σ H s->(∀b∈fp,C5 X b7 H b)->tn i s.heap->J.stop i H ->
  wpAny (model P w) X.A (fw (.ref it)) (λr s1=>r=none/\dS X b7 σ H s1) E s
 self:∀A(i:Nat)(s:Shared)Q E,tn i s.heap->Q (.ref it) s->wpAny (model P w) A (nv (.ref it)) Q E s
abbrev TI:=St->Hp->(It->Hp->Prop)->Prop
def PIE(X:Cx)(b7:List (Addr×Obj))(σ:St)(tg:Expr)(R:It->Hp->Prop)(Ko:Value)(s2:Shared):Prop:=
 ∃(it:Addr)(fp:List Addr)(tn:Nat->Heap->Prop)(J:It)(H':Hp),Ko=.ref it/\dS X b7 σ H' s2/\D2 X.prog X.w X.K tg J fp it tn/\tn 0 s2.heap/\(∀b∈fp,C5 X b7 H' b)/\R J H'
def PI(X:Cx)(tg iter:Expr)(wi:TI):Prop:=
 ∀b7(s:Shared)σ H(R:It->Hp->Prop),dS X b7 σ H s->wi σ H R ->
  wpAny (model X.prog X.w) X.A (eval iter X.env) (λv s1=>wpAny (model X.prog X.w) X.A (nv v) (PIE X b7 σ tg R) X.xe s1) X.xe s
def E8{M A}{E:Value->Shared->Prop}{s:Shared}{tg}{it:Addr}{u}{o:Obj}{n vs}{Q:Unit->Shared->Prop}(ho:s.heap.get? it=some o)(hc:o.cls=.type n)(hd:o.data=.fields vs)
  (hn:["enumerate","zip","dict_itemiterator","dict_reverseitemiterator","odict_iterator","itertools.zip_longest","itertools.pairwise"].contains n=false) (hQ:Q () s):wpAny M A (v3 tg (.ref it) u) Q E s:=by
 unfold v3
 cases tg<;>first
  |exact aF hQ
  | (cases u<;>first
    |exact aF hQ
    | (refine aA (ub ho ?_)
       rw[hc,hd];show wpAny M A (if(["enumerate","zip","dict_itemiterator","dict_reverseitemiterator","odict_iterator","itertools.zip_longest","itertools.pairwise"].contains n&&vs[0]?==some (u0 _))=true then _ else _) Q E s;rw[b8 (by intro h;rw[hn,FV]at h;cases h)];exact aF hQ))
noncomputable def Itl(K:aI)(a:Addr):It:=
 ⟨λi H=>∃xs x,mN K H a xs/\xs[i]?=some x,λi H x H'=>H'=H/\∀xs,mN K H a xs->xs[i]?=some x,λi H=>∃xs,mN K H a xs/\xs.length<=i⟩
noncomputable def Itt(K:aI)(a:Addr):It:=
 ⟨λi H=>∃xs x,vL K H a xs/\xs[i]?=some x,λi H x H'=>H'=H/\∀xs,vL K H a xs->xs[i]?=some x,λi H=>∃xs,vL K H a xs/\xs.length<=i⟩
noncomputable def Itr(lo:Int)(n:Nat):It:=⟨λi _=>i<n,λi H x H'=>H'=H/\x=.int (lo+i),λi _=>n<=i⟩
def QA{P w K tg}(a it:Addr):D2 P w K tg (Itl K a) [it] it (λi h=>h.IsListIter it a i) where
 mem:=by simp
 obj:=λi h st b hb=>by
  have e:b=it:=by simpa using hb
  subst e;obtain⟨o,e,c,d⟩:=st;exact⟨o,e,λv z=>by rw[d]at z;cases z⟩
 keep:=λi h h' st k=>st.at λo e=>k it (by simp) o e
 item:=by
  intro X hP hw hK hc i b7 s σ H E I hf st hg;subst hP hw hK;obtain⟨xs,x,hq,hx⟩:=hg;obtain⟨its,rv,p,hz⟩:=I.list hq;obtain⟨u,hu,ru⟩:=rv.get hx;obtain⟨f0,f1,f2,f3,f4,f5⟩:=hf it (by simp);refine wpAny_pyNext_list_item st p.isList (x:=u) (by simpa using hu) λh' kc sb=>?_;have I1:dS X b7 σ H { s with heap:=h' }:=I.turned (t':=s.toks) (λb o hb e=>(sb.2 b hb).trans e) f0 f1 f3 f4 f5;obtain⟨o,e,c,d⟩:=id kc;exact⟨u,rfl,E8 (s:={ s with heap:=h' }) e c d (by decide) ⟨x,H,I1,ru,⟨rfl,λys hy=>by rw[I.list_inj hy hq];exact hx⟩,kc,λb hb=>(hf b hb).1⟩⟩
 done:=by
  intro X hP hw hK hc i b7 s σ H E I hf st hg;subst hP hw hK;obtain⟨xs,hq,hx⟩:=hg;obtain⟨its,rv,p,hz⟩:=I.list hq;obtain⟨f0,f1,f2,f3,f4,f5⟩:=hf it (by simp);have hl:=rv.length;exact wpAny_pyNext_list_end (I.ok.hd hc) st p.isList (by simp;omega) λh' eb=>⟨rfl,I.turned (t':=s.toks) (λb o hb e=>eb b o hb e) f0 f1 f3 f4 f5⟩
 self:=λ_ _ _ _ _ st h=>wpAny_pyIter_listiter st h
def KY{P w K tg}(a it:Addr):D2 P w K tg (Itt K a) [it] it (λi h=>h.IsTupleIter it a i) where
 mem:=by simp
 obj:=λi h st b hb=>by
  have e:b=it:=by simpa using hb
  subst e;obtain⟨o,e,c,d⟩:=st;exact⟨o,e,λv z=>by rw[d]at z;cases z⟩
 keep:=λi h h' st k=>st.at λo e=>k it (by simp) o e
 item:=by
  intro X hP hw hK hc i b7 s σ H E I hf st hg;subst hP hw hK;obtain⟨xs,x,hq,hx⟩:=hg;obtain⟨its,rv,p,hz⟩:=I.tuple hq;obtain⟨u,hu,ru⟩:=rv.get hx;obtain⟨f0,f1,f2,f3,f4,f5⟩:=hf it (by simp);refine wpAny_pyNext_tuple_item st (show s.heap.IsTuple a its.toArray from p) (x:=u) (by simpa using hu) λh' kc sb=>?_;have I1:dS X b7 σ H { s with heap:=h' }:=I.turned (t':=s.toks) (λb o hb e=>(sb.2 b hb).trans e) f0 f1 f3 f4 f5;obtain⟨o,e,c,d⟩:=id kc;exact⟨u,rfl,E8 (s:={ s with heap:=h' }) e c d (by decide) ⟨x,H,I1,ru,⟨rfl,λys hy=>by rw[I.tuple_inj hy hq];exact hx⟩,kc,λb hb=>(hf b hb).1⟩⟩
 done:=by
  intro X hP hw hK hc i b7 s σ H E I hf st hg;subst hP hw hK;obtain⟨xs,hq,hx⟩:=hg;obtain⟨its,rv,p,hz⟩:=I.tuple hq;obtain⟨f0,f1,f2,f3,f4,f5⟩:=hf it (by simp);have hl:=rv.length;exact wpAny_pyNext_tuple_end (I.ok.hd hc) st (show s.heap.IsTuple a its.toArray from p) (by simp;omega) λh' eb=>⟨rfl,I.turned (t':=s.toks) (λb o hb e=>eb b o hb e) f0 f1 f3 f4 f5⟩
 self:=λ_ _ _ _ _ st h=>wpAny_pyIter_tupleiter st h
def KZ{P w K tg}(it:Addr)(lo:Int)(n:Nat):D2 P w K tg (Itr lo n) [it] it (λi h=>ol h it (lo+(i:Nat)*1) ((n:Int)-(i:Nat)) 1) where
 mem:=by simp
 obj:=λi h st b hb=>by
  have e:b=it:=by simpa using hb
  subst e
  exact⟨_,st,λv z=>by
   have z':kh _=Data.cell v:=z;cases z'⟩
 keep:=λi h h' st k=>k it (by simp) _ st
 item:=by
  intro X hP hw hK hc i b7 s σ H E I hf st hg;subst hP hw hK;obtain⟨f0,f1,f2,f3,f4,f5⟩:=hf it (by simp);have W:=Walks.range (prog:=X.prog) (w:=X.w) (I.ok.hd hc) it lo 1 n;refine W.item i s _ _ hg st λv h' tk hv kc kk=>?_;obtain⟨t,rfl⟩:=hv;have I1:dS X b7 σ H { s with heap:=h',toks:=tk }:=I.turned (λb o hb e=>kk b o (by simpa using hb) e) f0 f1 f3 f4 f5;refine⟨_,rfl,E8 (s:={ s with heap:=h',toks:=tk }) (n:="range_iterator") kc rfl rfl (by decide) ⟨.int (lo+i),H,I1,⟨t,?_⟩,⟨rfl,rfl⟩,kc,λb hb=>(hf b hb).1⟩⟩;rw[aM8]
 done:=by
  intro X hP hw hK hc i b7 s σ H E I hf st hg;subst hP hw hK;obtain⟨f0,f1,f2,f3,f4,f5⟩:=hf it (by simp);exact yo (I.ok.hd hc) st (by have:n<=i:=hg;omega) λh' eb=>⟨rfl,I.turned (t':=s.toks) (λb o hb e=>eb b o hb e) f0 f1 f3 f4 f5⟩
 self:=λ_ _ _ _ _ st h=>yn st h
section
variable{X:Cx}{tg:Expr}
def IM{b7 σ H}{s:Shared}{R:It->Hp->Prop}{E:Value->Shared->Prop}{lo hi:Int}{t u v}{tk:Nat}(I:dS X b7 σ H s)(h1:-(2^62)<=lo)(h2:lo<2^62)(h3:-(2^62)<=hi)(h4:hi<2^62)
  (q:R (Itr lo (hi-lo).toNat) H):wpAny (model X.prog X.w) X.A (nv (.ref s.heap.objs.size)) (PIE X b7 σ tg R) E { s with heap:=s.heap.push { cls:=.type "range",data:=.fields #[.int lo t,.int hi u,.int 1 v] },toks:=tk }:=by
 refine Fe (IsRange.new ..) (small_one h1 h2 h3 h4) ?_;have I1:dS X b7 σ H { s with heap:=s.heap.push { cls:=.type "range",data:=.fields #[.int lo t,.int hi u,.int 1 v] },toks:=tk }:=I.kept λb o e=>aK _ e
 refine⟨(s.heap.push { cls:=.type "range",data:=.fields #[.int lo t,.int hi u,.int 1 v] }).objs.size,[(s.heap.push { cls:=.type "range",data:=.fields #[.int lo t,.int hi u,.int 1 v] }).objs.size],_,_,H,rfl,
  I1.kept (t':=tk) λb o e=>aK _ e,KZ _ lo (hi-lo).toNat,?_,λb hb=>?_,q⟩
 ·have e1:lo+((0:Nat):Int)*1=lo:=by simp
  have e2:(((hi-lo).toNat:Nat):Int)-((0:Nat):Int)=j3 lo hi 1:=by rw[rangeSize_one];split<;>omega
  show ol _ _ (lo+((0:Nat):Int)*1) ((((hi-lo).toNat:Nat):Int)-((0:Nat):Int)) 1;rw[e1,e2];exact aW _ rfl
 ·have e:b=(s.heap.push { cls:=.type "range",data:=.fields #[.int lo t,.int hi u,.int 1 v] }).objs.size:=by simpa using hb
  subst e;exact I1.fpOk (aL _) (I1.hok.fresh (aL _))
def aC3(ta:TA):TI:=λσ H R=>ta σ H λvs H1=>∃j:Int,vs=[.int j]/\-(2^62)<=j/\j<2^62/\R (Itr 0 j.toNat) H1
def aC2(ta:TA):TI:=λσ H R=>ta σ H λvs H1=>∃i j:Int,vs=[.int i,.int j]/\(-(2^62)<=i/\i<2^62/\-(2^62)<=j/\j<2^62)/\R (Itr i (j-i).toNat) H1
def mP{a ta p pos}(hg:Gl X "range")(hm:X.mg "range"=none)(ha:PA X [a] ta)(hs:bS [a] X.env=[(false,eval a X.env)]:=by rfl):PI X tg (.Call (.Name "range" p) [a] [] pos) (aC3 ta):=by
 intro b7 s σ H R I h;refine Call_ (wX I hg hm Dq (o6 (iZ (ha pos b7 s σ H _ I h) λus s1 zq=>?_) hs rfl));obtain⟨vs,H1,I1,r1,q1⟩:=zq;obtain⟨j,e,q1,q2,q⟩:=q1;subst e
 cases r1 with
 |cons r rr=>
  cases rr;obtain⟨t,rfl⟩:=r;exact call_range_1 (IM I1 (by omega) (by omega) q1 q2 (by simpa using q))
def QS{a b ta p pos}(hg:Gl X "range")(hm:X.mg "range"=none)(ha:PA X [a,b] ta)(hs:bS [a,b] X.env=[(false,eval a X.env),(false,eval b X.env)]:=by rfl)(yx:bS [b] X.env=[(false,eval b X.env)]:=by rfl) :
  PI X tg (.Call (.Name "range" p) [a,b] [] pos) (aC2 ta):=by
 intro b7 s σ H R I h;refine Call_ (wX I hg hm Dq (o6 (iZ (ha pos b7 s σ H _ I h) λus s1 zq=>?_) (by rw[hs,yx]) (by rw[yx];rfl)));obtain⟨vs,H1,I1,r1,q1⟩:=zq;obtain⟨i,j,e,⟨q1,q2,q3,q4⟩,q⟩:=q1;subst e
 cases r1 with
 |cons r rr=>
  cases rr with
  |cons r' rr=>
   cases rr;obtain⟨t,rfl⟩:=r;obtain⟨t',rfl⟩:=r';exact call_range_2 (IM I1 q1 q2 q3 q4 q)
def YF(wi:TI)(g:TG)(tb:TS):TS:=λD σ H=>wi σ H λJ H1=>∃W:Nat->Nat->St->Hp->Prop,(∃m,W 0 m σ H1)/\∀i m σ H,W i m σ H ->
 (J.stop i H/\D.nx σ H)\/(J.go i H/\∃N:St->Hp->Prop,(∀g6 H',N g6 H'->∃m',m'<m/\W (i+1) m' g6 H')/\∀x H',J.yld i H x H'->g x σ H' λz8 H2=>tb { D with nx:=N,ct:=N,bk:=D.nx } z8 H2)
noncomputable def BY(fp:List Addr)(h:Heap):List (Addr×Obj):=fp.filterMap λb=>(h.get? b).map λo=>(b,o)
def rV{fp}{h:Heap}{b:Addr}{o}(hb:b∈fp)(e:h.get? b=some o):(b,o)∈BY fp h:=mT.mpr ⟨b,hb,by rw[e];rfl⟩
def Q2{fp}{h:Heap}{p:Addr×Obj}(hp:p∈BY fp h):p.1∈fp/\h.get? p.1=some p.2:=by
 obtain⟨b,hb,e⟩:=mT.mp hp
 cases q:h.get? b with
 |none=>rw[q]at e;cases e
 |some o=>
  rw[q]at e;have e':(b,o)=p:=e9 e;subst e';exact⟨hb,q⟩
def dS.pinned{b7 σ H}{s:Shared}{fp}(I:dS X b7 σ H s)(hf:∀b∈fp,C5 X b7 H b)(ho:∀b∈fp,∃o,s.heap.get? b=some o/\∀v,o.data≠.cell v):dS X (b7++BY fp s.heap) σ H s:=
 I.pins_of λp hp=>(dH.mp hp).elim (λz=>I.pin p (eJ _ z)) λz=>by
  obtain⟨hb,e⟩:=Q2 z;obtain⟨f0,f1,f2,_⟩:=hf p.1 hb;obtain⟨o,e',d⟩:=ho p.1 hb;rw[e]at e';cases e';exact⟨e,f0,f1,f2,d⟩
def dS.unpinned{b7 pl σ H s}(I:dS X (b7++pl) σ H s):dS X b7 σ H s:=I.pins_of λp hp=>I.pin p (eJ _ (gM _ hp))
def BV{iter body wi g tb pos}(hp:wp (model X.prog X.w) X.A X.env X.xe)(hc:X.calm=true)(hi:PI X tg iter wi)(hg:PG X tg g)(hb:zI X body tb)
  (hs:∀x,j8 iter X.env x=pure x:=by intro _;rfl):PS X (.For tg iter body [] pos) (YF wi g tb):=by
 intro b7 s σ H D I h;refine wpAny_For (iZ (hi b7 s σ H _ I h) λv s1 h1=>iZ h1 λKo s2 h2=>?_) hs;obtain⟨it,fp,tn,J,H2,e,I2,T,yk,f2,W,⟨m0,w0⟩,tz⟩:=h2;subst e
 -- what stays true of the iterator's objects through the loop
 have tx:∀{H':Hp},(∀b∈fp,H' b=none)->∀b∈fp,C5 X b7 H' b:=λhn b hb=>⟨hn b hb,(f2 b hb).2⟩;refine codeAny_forLoop_any (λn s'=>∃i g6 H',dS X b7 g6 H' s'/\tn i s'.heap/\(∀b∈fp,H' b=none)/\W i n g6 H') ?_ m0 ⟨0,σ,H2,I2,yk,λb hb=>(f2 b hb).1,w0⟩;rintro n s3 ⟨i,kg,H3,I3,Jc,Of,w3⟩;rcases tz i n kg H3 w3 with⟨stop,qn⟩ | ⟨go,N,hN,step⟩
 ·refine z6 hp (iZ (T.done X rfl rfl rfl hc i b7 s3 kg H3 X.xe I3 (tx Of) Jc stop) λr s4 zq=>?_);obtain⟨hr,I4⟩:=zq;subst hr;exact fh ⟨kg,H3,I4,qn⟩
 ·refine z6 hp (iZ (T.item X rfl rfl rfl hc i b7 s3 kg H3 X.xe I3 (tx Of) Jc go) λr s4 zq=>?_);obtain⟨u,hr,h4⟩:=zq;subst hr;refine z6 hp (iZ h4 λ_ s5 zq=>?_);obtain⟨x,H5,I5,r5,y5,Nz,Rn⟩:=zq;have Qz:=I5.pinned (tx Rn) (T.obj _ _ Nz);refine z6 hp (iZ (hg _ s5 kg H5 x u _ Qz r5 (step x H5 y5)) λ_ s6 zq=>?_);obtain⟨Ww,H6,I6,q6⟩:=zq;refine z6 hp (iZ (hb _ s6 Ww H6 _ I6 q6) λf s7 q7=>?_)
  have again:∀{uc:St}{H7:Hp},dS X (b7++BY fp s5.heap) uc H7 s7->N uc H7->∃m,m<n/\∃i g6 H',dS X b7 g6 H' s7/\tn i s7.heap/\(∀b∈fp,H' b=none)/\W i m g6 H':=λ{uc H7} I7 n7=>by
   obtain⟨m',hm,w7⟩:=hN uc H7 n7;refine⟨m',hm,i+1,uc,H7,I7.unpinned,T.keep _ _ _ Nz λb hb o e=>(I7.pin (b,o) (eJ _ (eJ _ (rV hb e)))).1,λb hb=>?_,w7⟩;obtain⟨o,e,d⟩:=T.obj _ _ Nz b hb;exact(I7.pin (b,o) (eJ _ (eJ _ (rV hb e)))).2.1
  cases f with
  |next=>obtain⟨uc,H7,I7,n7⟩:=q7;exact again I7 n7
  |cont=>obtain⟨uc,H7,I7,n7⟩:=q7;exact again I7 n7
  |brk=>obtain⟨uc,H7,I7,q7⟩:=q7;exact⟨uc,H7,I7.unpinned,q7⟩
  |ret v=>obtain⟨x7,uc,H7,I7,r7,q7⟩:=q7;exact⟨x7,uc,H7,I7.unpinned,r7,q7⟩
end
abbrev R2:=V->V->Hp->VK->Prop
def nP(X:Cx)(f:Value->Value->Sem Value)(r:R2):Prop:=
 ∀b7 s σ H(x y:V)(v u:Value)Q,dS X b7 σ H s->fX x v->fX y u->r x y H Q ->
  wpAny (model X.prog X.w) X.A (f v u) (EP X b7 σ Q) X.xe s
def UnR(X:Cx)(f:Value->Sem Value)(r:V->Hp->VK->Prop):Prop:=
 ∀b7 s σ H(x:V)(v:Value)Q,dS X b7 σ H s->fX x v->r x H Q ->
  wpAny (model X.prog X.w) X.A (f v) (EP X b7 σ Q) X.xe s
def kB(X:Cx)(f:Value)(r:List V->Hp->VK->Prop):Prop:=
 ∀b7 s σ H(xs:List V)(us:List Value)Q,dS X b7 σ H s->gE xs us->r xs H Q ->
  wpAny (model X.prog X.w) X.A (call f us) (EP X b7 σ Q) X.xe s
def tOp(r:R2)(ta tb:TE):TE:=λσ H Q=>ta σ H λx H1=>tb σ H1 λy H2=>r x y H2 Q
def tUn(r:V->Hp->VK->Prop)(ta:TE):TE:=λσ H Q=>ta σ H λx H1=>r x H1 Q
def rI(C:Int->Int->Prop)(g:Int->Int->V):R2:=λx y H Q=>∃i j,x=.int i/\y=.int j/\C i j/\Q (g i j) H
def QM(g:Int->Int->V):R2:=λx y H Q=>∃i j,x=.int i/\y=.int j/\Q (g i j) H
def rU(g:Int->V):V->Hp->VK->Prop:=λx H Q=>∃i,x=.int i/\Q (g i) H
section
variable{X:Cx}{a b:Expr}{ta tb:TE}{pos:Pos}
def aGl(ha:PE X a ta)(hb:PE X b tb){b7 s σ H}{R:V->V->Hp->Prop}(I:dS X b7 σ H s)
  (h:ta σ H λx H1=>tb σ H1 λy H2=>R x y H2) {Q:Value->Shared->Prop} {f:Value->Value->Sem Value}
  (hf:∀v u s2 x y H2,dS X b7 σ H2 s2->fX x v->fX y u->R x y H2->wpAny (model X.prog X.w) X.A (f v u) Q X.xe s2) :
  wpAny (model X.prog X.w) X.A (eval a X.env) (λv s₁=>wpAny (model X.prog X.w) X.A (eval b X.env) (λu la=>wpAny (model X.prog X.w) X.A (f v u) Q X.xe la) X.xe s₁) X.xe s:=by
 refine iZ (ha b7 s σ H _ I h) λv s1 zq=>?_;obtain⟨x,H1,I1,r1,q1⟩:=zq;refine iZ (hb b7 s1 σ H1 _ I1 q1) λu s2 zq=>?_;obtain⟨y,H2,I2,r2,q2⟩:=zq;exact hf v u s2 x y H2 I2 r1 r2 q2
def UL{op r}(ho:nP X (m9 op) r)(ha:PE X a ta)(hb:PE X b tb):PE X (.BinOp a op b pos) (tOp r ta tb):=by
 intro b7 s σ H Q I h;exact wpAny_BinOp (aGl ha hb I h λv u s2 x y H2 I2 rx ry q=>ho b7 s2 σ H2 x y v u Q I2 rx ry q)
def aJw{op}{r:V->Hp->VK->Prop}(ho:UnR X (unaryOp op) r)(ha:PE X a ta):PE X (.UnaryOp op a pos) (tUn r ta):=by
 intro b7 s σ H Q I h;exact UnaryOp_ (iZ (ha b7 s σ H _ I h) λv s1 ⟨x,H1,I1,r1,q1⟩=>ho b7 s1 σ H1 x v Q I1 r1 q1)
def opI{f:Value->Value->Sem Value}{C:Int->Int->Prop}{g:Int->Int->Int}
  (rule:∀(i j:Int)(t u:Tok)(s:Shared)Q E,C i j->Q (.int (g i j) s.toks) { s with toks:=s.toks+1 }->wpAny (model X.prog X.w) X.A (f (.int i t) (.int j u)) Q E s) :
  nP X f (rI C λi j=>.int (g i j)):=by
 intro b7 s σ H x y v u Q I rx ry h;obtain⟨i,j,rfl,rfl,hc,q⟩:=h;obtain⟨t,rfl⟩:=rx;obtain⟨t',rfl⟩:=ry;exact rule i j t t' s _ _ hc ⟨.int (g i j),H,I.tok _,⟨_,rfl⟩,q⟩
def ZO{f:Value->Value->Sem Value}{g:Int->Int->Int}
  (rule:∀(i j:Int)(t u:Tok)(s:Shared)Q E,Q (.int (g i j) s.toks) { s with toks:=s.toks+1 }->wpAny (model X.prog X.w) X.A (f (.int i t) (.int j u)) Q E s) :
  nP X f (QM λi j=>.int (g i j)):=by
 intro b7 s σ H x y v u Q I rx ry h;obtain⟨i,j,rfl,rfl,q⟩:=h;obtain⟨t,rfl⟩:=rx;obtain⟨t',rfl⟩:=ry;exact rule i j t t' s _ _ ⟨.int (g i j),H,I.tok _,⟨_,rfl⟩,q⟩
def ZP{f:Value->Value->Sem Value}{g:Int->Int->Bool}
  (rule:∀(i j:Int)(t u:Tok)s Q E,Q (.bool (g i j)) s->wpAny (model X.prog X.w) X.A (f (.int i t) (.int j u)) Q E s) :
  nP X f (QM λi j=>.bl (g i j)):=by
 intro b7 s σ H x y v u Q I rx ry h;obtain⟨i,j,rfl,rfl,q⟩:=h;obtain⟨t,rfl⟩:=rx;obtain⟨t',rfl⟩:=ry;exact rule i j t t' s _ _ ⟨.bl (g i j),H,I,rfl,q⟩
def aPk(i j:Int):Prop:=0<j/\j<1073741824
def aBx(i j:Int):Prop:=0<=j/\j<=1000000/\i.natAbs<2^64
def SD(i j:Int):Prop:=(-(2^64)<i/\i<2^64)\/(-(2^64)<j/\j<2^64)
def SD.ok{i j:Int}(h:SD i j):IntMulOk i j:=by
 rcases h with⟨h1,h2⟩ | ⟨h1,h2⟩
 ·exact .of_left (intBits_le_64 h1 h2)
 ·exact .of_right (intBits_le_64 h1 h2)
def aE5:nP X (m9 .Add) (QM λi j=>.int (i+j)):=ZO λ_ _ _ _ _ _ _ q=>add_int q
def mK:nP X (m9 .Sub) (QM λi j=>.int (i-j)):=ZO λ_ _ _ _ _ _ _ q=>sub_int q
def aE2:nP X (m9 .Mult) (rI SD λi j=>.int (i*j)):=opI λ_ _ _ _ _ _ _ hc q=>mul_int q hc.ok
def xS:nP X (m9 .FloorDiv) (rI aPk λi j=>.int (i / j)):=opI λi j _ _ _ _ _ hc q=>by
 have h1:(0:Int)<j:=hc.1;have h2:j<1073741824:=hc.2;exact floordiv_int (by omega) (by rw[Int.fdiv_eq_ediv_of_nonneg i (by omega)];exact q) (.inl (mq (by omega)))
def lW:nP X (m9 .Mod) (rI (λ_ j=>0<j) λi j=>.int (i%j)):=opI λi j _ _ _ _ _ hc q=>by
 have h1:(0:Int)<j:=hc;exact mod_int' (by omega) (by rw[Int.fmod_eq_emod_of_nonneg i (by omega)];exact q)
def UU:nP X (m9 .Pow) (rI aBx λi j=>.int (i^j.toNat)):=opI λ_ _ _ _ _ _ _ hc q=>pow_int_small hc.1 hc.2.1 hc.2.2 q
def UT:nP X (m9 .LShift) (rI aBx λi j=>.int (i*2^j.toNat)):=opI λ_ _ _ _ _ _ _ hc q=>lshift_int_small hc.1 hc.2.1 hc.2.2 q
def UZ:nP X (m9 .BitAnd) (QM λi j=>.int (ao i j)):=ZO λ_ _ _ _ _ _ _ q=>and_int q
def aJ0:nP X (m9 .BitOr) (QM λi j=>.int (gx i j)):=ZO λ_ _ _ _ _ _ _ q=>or_int q
def unI{f:Value->Sem Value}{g:Int->Int}
  (rule:∀(i:Int)(t:Tok)(s:Shared)Q E,Q (.int (g i) s.toks) { s with toks:=s.toks+1 }->wpAny (model X.prog X.w) X.A (f (.int i t)) Q E s) :
  UnR X f (rU λi=>.int (g i)):=by
 intro b7 s σ H x v Q I rx h;obtain⟨i,rfl,q⟩:=h;obtain⟨t,rfl⟩:=rx;exact rule i t s _ _ ⟨.int (g i),H,I.tok _,⟨_,rfl⟩,q⟩
def aDx:UnR X (unaryOp .USub) (rU λi=>.int (-i)):=unI λ_ _ _ _ _ q=>neg_int q
end
noncomputable def aEc:V->V->Bool
|.non,.non=>true | .non,.int _=>true | .int _,.non=>true | .non,.bl _=>true | .bl _,.non=>true | .non,.str _=>true | .str _,.non=>true
|.int _,.int _=>true | .bl _,.bl _=>true | .str _,.str _=>true | .byt _,.byt _=>true
|.int _,.str _=>true | .str _,.int _=>true | .bl _,.str _=>true | .str _,.bl _=>true
|_,_=>false
def rEq:R2:=λx y H Q=>aEc x y=true/\Q (.bl (decide (x=y))) H
def rNe:R2:=λx y H Q=>aEc x y=true/\Q (.bl (!decide (x=y))) H
def PH{i j:Int}:decide (V.int i=V.int j)=(i==j):=by
 rw[iB];simp
def W3{i j:Bool}:decide (V.bl i=V.bl j)=(i==j):=by
 rw[iB];simp
def PF{i j}:decide (V.str i=V.str j)=(i==j):=by
 rw[iB];simp
def PJ{i j:Array UInt8}:decide (V.byt i=V.byt j)=(i.toList==j.toList):=by
 rw[iB];cases i;cases j;simp
section
variable{X:Cx}{a b c:Expr}{ta tb tc:TE}{pos:Pos}
def fU{b7 σ H s Q}{k k':Bool}(I:dS X b7 σ H s)(q:Q (.bl k) H)(e:k=k'):EP X b7 σ Q (.bool k') s:=by
 subst e;exact⟨.bl k,H,I,rfl,q⟩
def kP:nP X (i3 .Eq) rEq:=by
 intro b7 s σ H x y v u Q I rx ry h;obtain⟨hs,q⟩:=h
 cases x with
 |non=>
  cases rx
  cases y with
  |non=>cases ry;exact PySem.EqNone.eq_none_none (fU I q (by simp))
  |bl j=>cases ry;exact PySem.EqNone.eq_none_bool (fU I q (by simp))
  |int j=>obtain⟨t',rfl⟩:=ry;exact PySem.EqNone.eq_none_int (fU I q (by simp))
  |str j=>obtain⟨t',rfl⟩:=ry;exact PySem.EqNone.eq_none_str (fU I q (by simp))
  |_=>exact d8 (show false=true from hs) aX
 |bl i=>
  cases rx
  cases y with
  |non=>cases ry;exact PySem.EqNone.eq_bool_none (fU I q (by simp))
  |bl j=>cases ry;exact eq_bool (fU I q W3)
  |str j=>obtain⟨t',rfl⟩:=ry;exact PySem.EqMixed.eq_bool_str (fU I q (by simp))
  |_=>exact d8 (show false=true from hs) aX
 |int i=>
  obtain⟨t,rfl⟩:=rx
  cases y with
  |non=>cases ry;exact PySem.EqNone.eq_int_none (fU I q (by simp))
  |int j=>obtain⟨t',rfl⟩:=ry;exact eq_int (fU I q PH)
  |str j=>obtain⟨t',rfl⟩:=ry;exact PySem.EqMixed.eq_int_str (fU I q (by simp))
  |_=>exact d8 (show false=true from hs) aX
 |str i=>
  obtain⟨t,rfl⟩:=rx
  cases y with
  |non=>cases ry;exact PySem.EqNone.eq_str_none (fU I q (by simp))
  |bl j=>cases ry;exact PySem.EqMixed.eq_str_bool (fU I q (by simp))
  |int j=>obtain⟨t',rfl⟩:=ry;exact PySem.EqMixed.eq_str_int (fU I q (by simp))
  |str j=>obtain⟨t',rfl⟩:=ry;exact eq_str (fU I q PF)
  |_=>exact d8 (show false=true from hs) aX
 |byt i=>
  obtain⟨t,rfl⟩:=rx
  cases y with
  |byt j=>obtain⟨t',rfl⟩:=ry;exact PySem.W.eq_bytes (fU I q PJ)
  |_=>exact d8 (show false=true from hs) aX
 |_=>cases y<;>exact d8 (show false=true from hs) aX
def IS:nP X (i3 .NotEq) rNe:=by
 intro b7 s σ H x y v u Q I rx ry h;obtain⟨hs,q⟩:=h
 cases x with
 |non=>
  cases rx
  cases y with
  |non=>cases ry;exact PySem.EqNone.ne_none_none (fU I q (by simp))
  |bl j=>cases ry;exact PySem.EqNone.ne_none_bool (fU I q (by simp))
  |int j=>obtain⟨t',rfl⟩:=ry;exact PySem.EqNone.ne_none_int (fU I q (by simp))
  |str j=>obtain⟨t',rfl⟩:=ry;exact PySem.EqNone.ne_none_str (fU I q (by simp))
  |_=>exact d8 (show false=true from hs) aX
 |bl i=>
  cases rx
  cases y with
  |non=>cases ry;exact PySem.EqNone.ne_bool_none (fU I q (by simp))
  |bl j=>cases ry;exact ne_bool (fU I q (i6 not W3))
  |str j=>obtain⟨t',rfl⟩:=ry;exact PySem.EqMixed.ne_bool_str (fU I q (by simp))
  |_=>exact d8 (show false=true from hs) aX
 |int i=>
  obtain⟨t,rfl⟩:=rx
  cases y with
  |non=>cases ry;exact PySem.EqNone.ne_int_none (fU I q (by simp))
  |int j=>obtain⟨t',rfl⟩:=ry;exact ne_int (fU I q (i6 not PH))
  |str j=>obtain⟨t',rfl⟩:=ry;exact PySem.EqMixed.ne_int_str (fU I q (by simp))
  |_=>exact d8 (show false=true from hs) aX
 |str i=>
  obtain⟨t,rfl⟩:=rx
  cases y with
  |non=>cases ry;exact PySem.EqNone.ne_str_none (fU I q (by simp))
  |bl j=>cases ry;exact PySem.EqMixed.ne_str_bool (fU I q (by simp))
  |int j=>obtain⟨t',rfl⟩:=ry;exact PySem.EqMixed.ne_str_int (fU I q (by simp))
  |str j=>obtain⟨t',rfl⟩:=ry;exact ne_str (fU I q (i6 not PF))
  |_=>exact d8 (show false=true from hs) aX
 |byt i=>
  obtain⟨t,rfl⟩:=rx
  cases y with
  |byt j=>obtain⟨t',rfl⟩:=ry;exact PySem.W.ne_bytes (fU I q (i6 not PJ))
  |_=>exact d8 (show false=true from hs) aX
 |_=>cases y<;>exact d8 (show false=true from hs) aX
def BZ:nP X (i3 .Lt) (QM λi j=>.bl (decide (i<j))):=ZP λ_ _ _ _ _ _ _ q=>lt_int q
def OI:nP X (i3 .LtE) (QM λi j=>.bl (decide (i<=j))):=ZP λ_ _ _ _ _ _ _ q=>le_int q
def pE:nP X (i3 .Gt) (QM λi j=>.bl (decide (j<i))):=ZP λ_ _ _ _ _ _ _ q=>gt_int q
def UW:nP X (i3 .GtE) (QM λi j=>.bl (decide (j<=i))):=ZP λ_ _ _ _ _ _ _ q=>ge_int q
def QX:nP X (i3 .In) (λx y H Q=>∃i j,x=.str i/\y=.str j/\Q (.bl (!(z9 j i 0 j.length 1).isEmpty)) H):=by
 intro b7 s σ H x y v u Q I rx ry h;obtain⟨i,j,rfl,rfl,q⟩:=h;obtain⟨t,rfl⟩:=rx;obtain⟨t',rfl⟩:=ry;exact in_str (fU I q rfl)
def aE3:nP X (i3 .Is) (λx y H Q=>y=.non/\Q (.bl (decide (x=.non))) H):=by
 intro b7 s σ H x y v u Q I rx ry h;obtain⟨rfl,q⟩:=h;cases ry;refine is_none_gen (fU I q ?_)
 cases x<;>first
  | (cases rx;rfl)
  | (obtain⟨t,rfl⟩:=rx;rfl)
def ZM:nP X (i3 .IsNot) (λx y H Q=>y=.non/\Q (.bl (!decide (x=.non))) H):=by
 intro b7 s σ H x y v u Q I rx ry h;obtain⟨rfl,q⟩:=h;cases ry;refine isnot_none_gen (fU I q ?_)
 cases x<;>first
  | (cases rx;rfl)
  | (obtain⟨t,rfl⟩:=rx;rfl)
def nP.or{f:Value->Value->Sem Value}{r r':R2}(h:nP X f r)(h':nP X f r'):nP X f (λx y H Q=>r x y H Q\/r' x y H Q):=by
 intro b7 s σ H x y v u Q I rx ry q;rcases q with q | q
 ·exact h b7 s σ H x y v u Q I rx ry q
 ·exact h' b7 s σ H x y v u Q I rx ry q
def B1(b:Expr){op}(h:op≠.In:=by decide)(h2:op≠.NotIn:=by decide):v9 op b=false:=by
 have e1:(op==CmpOp.In)=false:=by cases op<;>first | rfl | exact d8 rfl h
 have e2:(op==CmpOp.NotIn)=false:=by cases op<;>first | rfl | exact d8 rfl h2
 cases b<;>simp[v9,e1,e2]
def OE{op r}(ho:nP X (i3 op) r)(ha:PE X a ta)(hb:PE X b tb)(hm:v9 op b=false):PE X (.Compare a [op] [b] pos) (tOp r ta tb):=by
 intro b7 s σ H Q I h;exact wpAny_Compare1 (aGl ha hb I h λv u s2 x y H2 I2 rx ry q=>ho b7 s2 σ H2 x y v u Q I2 rx ry q) hm
def aHc(t:TE):TT:=λσ H Q=>t σ H λx H'=>∃k,x=.bl k/\Q k H'
def F7{op r}(ho:nP X (i3 op) r)(ha:PE X a ta)(hb:PE X b tb)(hm:v9 op b=false):PT X (.Compare a [op] [b] pos) (aHc (tOp r ta tb)):=by
 intro b7 s σ H Q I h
 refine wpAny_isTrue_Compare1 (iZ (ha b7 s σ H _ I h) λv s1 ⟨x,H1,I1,r1,q1⟩=>iZ (hb b7 s1 σ H1 _ I1 q1) λu s2 ⟨y,H2,I2,r2,q2⟩=>
  iZ (ho b7 s2 σ H2 x y v u _ I2 r1 r2 q2) λc s3 ⟨z,H3,I3,r3,k,e,q3⟩=>?_) hm
 subst e;cases r3;exact v7 ⟨H3,I3,q3⟩
def S9(r r':R2)(ta tb tc:TE):TE:=λσ H Q=>ta σ H λx H1=>tb σ H1 λy H2=>r x y H2 λz H3=>∃k,z=.bl k /\
 (if k=true then tc σ H3 λw' H4=>r' y w' H4 Q else Q (.bl false) H3)
def UR{op op' r r'}(ho:nP X (i3 op) r)(xu:nP X (i3 op') r')(ha:PE X a ta)(hb:PE X b tb)(hc:PE X c tc)
  (hm:lastMarks [op,op'] [b,c]=false:=by with_unfolding_all rfl):PE X (.Compare a [op,op'] [b,c] pos) (S9 r r' ta tb tc):=by
 intro b7 s σ H Q I h
 refine Compare_chain (iZ (ha b7 s σ H _ I h) λv s1 ⟨x,H1,I1,r1,q1⟩=>chain_link (iZ (hb b7 s1 σ H1 _ I1 q1) λu s2 ⟨y,H2,I2,r2,q2⟩=>
  iZ (ho b7 s2 σ H2 x y v u _ I2 r1 r2 q2) λd s3 ⟨z,H3,I3,r3,k,e,q3⟩=>?_)) hm
 subst e;cases r3;refine v7 ?_
 cases k with
 |false=>exact ite_ff ⟨.bl false,H3,I3,rfl,q3⟩
 |true=>exact ite_tt (chain_last (iZ (hc b7 s3 σ H3 _ I3 q3) λw' s4 ⟨z',H4,I4,r4,q4⟩=>xu b7 s4 σ H4 y z' u w' Q I4 r2 r4 q4))
def B7:(bM:Nat)<2^63:=by rw[bw];decide
def LS:nP X (m9 .Add) (λx y H Q=>∃i j,x=.str i/\y=.str j/\i.length+j.length<=bM/\Q (.str (i++j)) H):=by
 intro b7 s σ H x y v u Q I rx ry h;obtain⟨i,j,rfl,rfl,hz,q⟩:=h;obtain⟨t,rfl⟩:=rx;obtain⟨t',rfl⟩:=ry;exact add_str (λt' tk=>⟨.str (i++j),H,I.tok _,⟨_,rfl⟩,q⟩) hz
def nX{x us}(r:gE [x] us):∃u,us=[u]/\fX x u:=by
 cases r with
 |cons r1 r2=>cases r2;exact⟨_,rfl,r1⟩
def NL{x y us}(r:gE [x,y] us):∃u w',us=[u,w']/\fX x u/\fX y w':=by
 cases r with
 |cons r1 r2=>
  cases r2 with
  |cons r3 r4=>cases r4;exact⟨_,_,rfl,r1,r3⟩
def R3:kB X (.type "int") (λxs H Q=>(∃i,xs=[.int i]/\Q (.int i) H)\/∃k,xs=[.bl k]/\Q (.int (if k then 1 else 0)) H):=by
 intro b7 s σ H xs us Q I r h;rcases h with⟨i,rfl,q⟩ | ⟨k,rfl,q⟩
 ·obtain⟨u,rfl,t,rfl⟩:=nX r;exact call_int_int ⟨.int i,H,I,⟨_,rfl⟩,q⟩
 ·obtain⟨u,rfl,r1⟩:=nX r;cases r1;exact call_int_bool ⟨.int (if k then 1 else 0),H,I.tok _,⟨_,rfl⟩,q⟩
end
structure M4(h:Heap)(x dx C:Addr)(mA:Str->Option Value):Prop where
 obj:h.get? x=some (jJ C dx)
 ns:h.Ns1 dx mA
 ne:dx≠x
def RA{h:Heap}{dx:Addr}{mA:Str->Option Value}(n:h.Ns1 dx mA):∃od,h.get? dx=some od/\∀name,uJ name od=some (mA name):=by
 obtain⟨o,es,ep,ho,hd,hk,_,hm⟩:=n;refine⟨o,ho,λname=>?_⟩;have e:=hm name;unfold nsFind findBy at e;rw[<- SK]at e;unfold uJ;rw[hd];dsimp only;split
 ·rename_i y q;rw[q]at e;exact i6 some e
 ·rename_i q;rw[q]at e
  have a:es.toList.any (·.refKey)=false:=by
   rw[List.any_eq_false];intro y hy;obtain⟨z,t,sg⟩:=hk y (vZ.mp hy);simp[DictEntry.refKey,sg]
  have a':¬es.toList.any (·.refKey)=true:=by rw[a];exact aX
  rw[b8 a'];exact i6 some e
def M4.look{h}{x dx C:Addr}{mA:Str->Option Value}(I:M4 h x dx C mA):∃od,lO h x (jJ C dx) C (some od)/\∀name,uJ name od=some (mA name):=
 let ⟨od,ho,hl⟩:=RA I.ns
 ⟨od,⟨I.obj,rfl,rfl,ho⟩,hl⟩
section
variable{prog:bX}{w:g7}{A:i5}{E:Value->Shared->Prop}{s:Shared}{K:aI}{x dx C f:Addr}{mA:Str->Option Value}{name:Str}{v:Value}
def aAq{La:Bool}{Q:Value->Shared->Prop}(X:K.In s.heap)(I:M4 s.heap x dx C mA)(hg:rC K C name=true)(hh:yK K C=true)
  (ha:eI K (.ref C) name=some none) (hv:mA name=some v) (Vj:SE v=true) (h:Q v { s with toks:=s.toks+1 }) :
  wpAny (model prog w) A (getAttr (.ref x) name La) Q E s:=by
 obtain⟨od,J,hl⟩:=I.look;exact PySem.W.get_value X J (vW hg).1 (PySem.W.findObj_own hh ha rfl (by rw[hl,hv])) Vj h
def WM{pl}{Q:Value×List Value->Shared->Prop}(X:K.In s.heap)(I:M4 s.heap x dx C mA)(hg:rC K C name=true)
  (hf:eI K (.ref C) name=some (some (.ref f))) (ht:HC K (.ref f)=true) (hv:mA name=none) (h:Q (.ref f,[.ref x]) s) :
  wpAny (model prog w) A (getMethod (.ref x) name pl) Q E s:=by
 obtain⟨od,J,hl⟩:=I.look;exact PySem.W.method_fn X J (vW hg).1 (vW hg).2 hf (beq_iff_eq.mp ht) (by show(uJ name od).map (·.isSome)=some false;rw[hl,hv];rfl) h
def YW{ns:List Str}{Q:Unit->Shared->Prop}(X:K.In s.heap)(I:M4 s.heap x dx C mA)
  (hs:eI K (.ref C) "__setattr__"=some (some (.builtin "object.__setattr__"))) (hp:P0 K C=true) (ht:AO K C name=some none) (hh:yK K C=true)
  (hw:oy mA ns) (hsz:ns.length<=bM)
  (h:∀h',M4 h' x dx C (λy=>if y=name then some v else mA y)->eG dx s.heap h'->Q () { s with heap:=h',toks:=s.toks+2 }) :
  wpAny (model prog w) A (setAttr (.ref x) name v) Q E s:=by
 obtain⟨od,J,hl⟩:=I.look;refine PySem.W.set_plain X J hs (PySem.W.osa_open (s:={ s with toks:=s.toks+1 }) (r:=none) X J hp ht λb=>?_);obtain⟨cd,hc,Cw⟩:=PySem.W.any_some hh;have hx:s.heap.get? x=some ⟨.ref C,some dx,.plain,#[]⟩:=I.obj;refine aA (aF (aA (aA (wpAny_loadPart hx (aA (D4.here (s:={ s with toks:=s.toks+1 }) (PySem.W.looks_clsIn X hc) ?_))))));rw[Cw];refine aF (a:=some dx) (aA (aF (aA ?_)));refine wpAny_nsSet1 (s:={ s with toks:=s.toks+1 }) I.ns λh' Dd yx=>?_;obtain⟨oD,Xc,Xb,Uu,Sx,Sw⟩:=Dd.count (PySem.Within.cons name v hw);refine aA (wpAny_lookBehind Uu (by rw[Sx];exact pastItsLine_dict (dG Sw (by rw[cH];omega))) ?_);exact aF (h _ ⟨(yx.2 _ (l8 I.ne)).trans I.obj,Dd,I.ne⟩ yx)
def VN{R:Result->Shared->Prop}{vs kw}(X:K.In s.heap)(hm:SO K C=true)
  (hi:eI K (.ref C) "__init__"=some (some (.ref f))) (hf:fY K (.ref f)=some (.type "function"))
  (h:dz (model prog w) (A.under (.builtin "type.__call__" ⟨.ref C::vs,kw⟩)) (.call (.ref f) ⟨.ref (s.heap.objs.size+1)::vs,kw⟩) (PySem.W.InitBack (s.heap.objs.size+1) R)
   { s with heap:=(s.heap.push gW).push (jJ C s.heap.objs.size) }) :
  dz (model prog w) A (.call (.ref C) ⟨vs,kw⟩) R s:=by
 obtain⟨hh,g,d,t,os⟩:=s;exact PySem.W.make_core (PySem.W.makes_of X hm) (oE X hi) (λself=>PySem.W.bind_fn X self hf) (.inl rfl) h
end
noncomputable def qM(f:Str)(v:V):List (Str×V)->List (Str×V)
|[]=>[(f,v)]
| (g,x)::r=>if g=f then(g,v)::r else(g,x)::qM f v r
theorem zO(f g:Str)(v:V):∀fs:List (Str×V),(qM f v fs).lookup g=if g=f then some v else fs.lookup g
|[]=>by
 show oQ g [(f,v)]=_;by_cases h:g=f
 ·have hb:(g==f)=true:=beq_iff_eq.mpr h;simp only[oQ,hb,b9 h]
 ·have hb:(g==f)=false:=beq_eq_false_iff_ne.mpr h;simp only[oQ,hb,b8 h]
| (k,x)::r=>by
 have ih:=zO f g v r;rw[show qM f v ((k,x)::r)=(if k=f then(k,v)::r else(k,x)::qM f v r)from rfl];by_cases hk:k=f
 ·rw[b9 hk];by_cases h:g=k
  ·have hb:(g==k)=true:=beq_iff_eq.mpr h;simp only[oQ,hb,b9 (h.trans hk)]
  ·have hb:(g==k)=false:=beq_eq_false_iff_ne.mpr h;simp only[oQ,hb,b8 (λe:g=f=>h (e.trans hk.symm))]
 ·rw[b8 hk];by_cases h:g=k
  ·have hb:(g==k)=true:=beq_iff_eq.mpr h;simp only[oQ,hb,b8 (λe:g=f=>hk (h.symm.trans e))]
  ·have hb:(g==k)=false:=beq_eq_false_iff_ne.mpr h;simp only[oQ,hb];exact ih
theorem zB(f:Str)(v:V):∀fs:List (Str×V),f∈(qM f v fs).map (·.1)/\∀g,g∈fs.map (·.1)->g∈(qM f v fs).map (·.1)
|[]=>⟨by simp[qM],λg h=>by simp at h⟩
| (k,x)::r=>by
 obtain⟨i1,i2⟩:=zB f v r;rw[show qM f v ((k,x)::r)=(if k=f then(k,v)::r else(k,x)::qM f v r)from rfl];by_cases hk:k=f
 ·rw[b9 hk];subst hk;exact⟨by simp,λg h=>by simpa using h⟩
 ·rw[b8 hk];refine⟨?_,λg h=>?_⟩
  ·rw[bD];exact aO _ i1
  ·rw[bD]at h |-
   rcases bE.mp h with e | e
   ·exact bE.mpr (.inl e)
   ·exact aO _ (i2 g e)
theorem zS(f:Str)(v:V):∀fs:List (Str×V),(qM f v fs).length<=fs.length+1
|[]=>by simp[qM]
| (k,x)::r=>by
 have ih:=zS f v r;rw[show qM f v ((k,x)::r)=(if k=f then(k,v)::r else(k,x)::qM f v r)from rfl];by_cases hk:k=f
 ·rw[b9 hk,cH,cH];omega
 ·rw[b8 hk,cH,cH];omega
def vV.some_of{v o}(r:vV (some v) o):∃u,o=some u/\fX v u:=by
 cases o with
 |none=>exact(show False from r).elim
 |some u=>exact⟨u,rfl,r⟩
def vV.none_of{o}(r:vV none o):o=none:=by
 cases o with
 |none=>rfl
 |some u=>exact(show False from r).elim
def RO{v u}(r:fX v u):SE u=true:=by
 cases v with
 |non=>cases (show u=g9 from r);rfl
 |bl b=>cases (show u=z4 b from r);rfl
 |int i=>obtain⟨t,e⟩:=(show∃t,u=js i t from r);cases e;rfl
 |str x=>obtain⟨t,e⟩:=(show∃t,u=jt x t from r);cases e;rfl
 |byt b=>obtain⟨t,e⟩:=(show∃t,u=Value.bytes b t from r);cases e;rfl
 |flt b=>obtain⟨t,e⟩:=(show∃t,u=qr b t from r);cases e;rfl
 |ref a=>cases (show u=e8 a from r);rfl
 |ty n=>cases (show u=p6 n from r);rfl
section
variable{P:bX}{w:g7}{H:Hp}{h:Heap}{a C dx:Addr}{fs:List (Str×V)}
def A4(hok:rF P w H h)(e:H a=some (.ins C dx fs)):∃mA,M4 h a dx C mA/\(∀f,vV (fs.lookup f) (mA f))/\oy mA (fs.map (·.1))/\fs.length<=1000/\H dx=some (.own a):=by
 obtain⟨d,z,ne,ob,mA,n,r,q⟩:=(show iE P w H h a (.ins C dx fs)from hok a _ e);exact⟨mA,⟨ob,n,ne⟩,r,q,z,d⟩
end
structure SN(K:aI)(C:Addr):Prop where
 pg:rC K C Str.empty=true
 hd:yK K C=true
 po:P0 K C=true
 sa:eI K (.ref C) "__setattr__"=some (some (.builtin "object.__setattr__"))
def SN.get{K}{C:Addr}(c:SN K C)(f:Str):rC K C f=true:=c.pg
def nG(K:aI)(C:Addr)(f:Str):Prop:=eI K (.ref C) f=some none
def nG.taker{K}{C:Addr}{f}(n:nG K C f):AO K C f=some none:=by
 unfold AO;rw[show eI K (.ref C) f=some none from n]
 rfl
structure aBv(K:aI)(C:Addr)(m:Str)(f:Addr):Prop where
 at_:eI K (.ref C) m=some (some (.ref f))
 fn:HC K (.ref f)=true
 kp:fZ K (.ref f)=true
section
variable{X:Cx}{b7:List (Addr×Obj)}{σ:St}{H:Hp}{s:Shared}{a C dx:Addr}{fs:List (Str×V)}{f:Str}{v:V}{A:i5}{E:Value->Shared->Prop}
def ME{b:Bool}{Q:Value->Shared->Prop}(I:dS X b7 σ H s)(e:H a=some (.ins C dx fs))(c:SN X.K C)(n:nG X.K C f)(l:fs.lookup f=some v)
  (h:∀u s',dS X b7 σ H s'->fX v u->Q u s'):wpAny (model X.prog X.w) A (getAttr (.ref a) f b) Q E s:=by
 obtain⟨mA,O,r,_,_,_⟩:=A4 I.hok e;obtain⟨u,hu,ru⟩:=vV.some_of (v:=v) (o:=mA f) (by rw[<- l];exact r f);exact aAq I.kIn O (c.get f) c.hd n hu (RO ru) (h u _ (I.tok _) ru)
def MD{m}{g:Addr}{pl}{Q:Value×List Value->Shared->Prop}(I:dS X b7 σ H s)(e:H a=some (.ins C dx fs))(c:SN X.K C)(k:aBv X.K C m g)(l:fs.lookup m=none)
  (h:Q (.ref g,[.ref a]) s):wpAny (model X.prog X.w) A (getMethod (.ref a) m pl) Q E s:=by
 obtain⟨mA,O,r,_,_,_⟩:=A4 I.hok e;have hn:mA m=none:=vV.none_of (by rw[<- l];exact r m);exact WM I.kIn O (c.get m) k.at_ k.fn hn h
def K8{y u}{Q:Unit->Shared->Prop}(I:dS X b7 σ H s)(e:H a=some (.ins C dx fs))(c:SN X.K C)(n:nG X.K C f)(hl:fs.length<1000)(ry:fX y u)
  (h:∀s',dS X b7 σ (fM H a (.ins C dx (qM f y fs))) s'->Q () s'):wpAny (model X.prog X.w) A (setAttr (.ref a) f u) Q E s:=by
 obtain⟨mA,O,r,wi,_,ho⟩:=A4 I.hok e;have hz:(fs.map (·.1)).length<=bM:=by rw[aB,bw];omega
 refine YW I.kIn O c.sa c.po n.taker c.hd wi hz λh' O' sb=>h _ ?_;have hd:∃o,h'.get? dx=some o:=let ⟨o,_,_,e',_⟩:=O'.ns;⟨o,e'⟩
 refine I.write (x:=a) (e:=dx) (by rw[e];exact i8) (.inr ho) (λb q hb z=>(sb.2 b hb).trans z) hd ?_;refine⟨by rw[cI O.ne];exact ho,?_,O.ne,O'.obj,_,O'.ns,λg=>?_,λg hg=>?_⟩
 ·have:=zS f y fs;omega
 ·show vV ((qM f y fs).lookup g) (if g=f then some u else mA g);rw[zO];by_cases q:g=f
  ·rw[b9 q,b9 q];exact ry
  ·rw[b8 q,b8 q];exact r g
 ·by_cases q:g=f
  ·rw[q];exact(zB f y fs).1
  ·refine(zB f y fs).2 g (wi g λz=>hg ?_);show(if g=f then some u else mA g)=none;rw[b8 q];exact z
def dS.made(I:dS X b7 σ H s):dS X b7 σ (fM (fM H s.heap.objs.size (.own (s.heap.objs.size+1))) (s.heap.objs.size+1) (.ins C s.heap.objs.size []))
  { s with heap:=(s.heap.push gW).push (jJ C s.heap.objs.size) }:=by
 have e1:(s.heap.push gW).get? s.heap.objs.size=some gW:=aW s.heap rfl
 have e2:((s.heap.push gW).push (jJ C s.heap.objs.size)).get? (s.heap.objs.size+1)=some (jJ C s.heap.objs.size):=by
  have:=aW (s.heap.push gW) (o:=jJ C s.heap.objs.size) rfl
  rwa [fP]at this
 have e3:(s.heap.push gW).Ns s.heap.objs.size (λ_=>none):=⟨gW,#[],_,e1,rfl,(λe he=>d8 he (by simp)),λ_=>rfl⟩;have I1:=I.laid (a:=s.heap.objs.size) (o:=.own (s.heap.objs.size+1)) (h':=s.heap.push gW) (t':=s.toks) (λb u q=>aK _ q) (aL _) ⟨_,e1⟩;refine I1.laid (a:=s.heap.objs.size+1) (o:=.ins C s.heap.objs.size []) (t':=s.toks) (λb u q=>aK _ q) (nU (fP _ _)) ?_;have ne:s.heap.objs.size≠s.heap.objs.size+1:=bZ (iN _);refine⟨by rw[cI ne,cM],cL _,ne,e2,λ_=>none,(Heap.Ns1.of_empty e3).at λo q=>aK _ q,λ_=>i8,λy hy=>d8 rfl hy⟩
def aBo{prog w env e f pos s}{Q:Value->Shared->Prop}(hb:bb e f env (eval e env)=eval e env)
  (h:wpAny (model prog w) A (eval e env) (λo s₁=>wpAny (model prog w) A (getAttr o f true) Q E s₁) E s):wpAny (model prog w) A (eval (.Attribute e f pos) env) Q E s:=
 Attribute_any_ h (by rw[arm_eval_Attribute,hb])
end
def aNh(K:aI)(ta:TE)(f:Str):TE:=λσ H Q=>ta σ H λx H1=>∃a C dx fs v,x=.ref a/\H1 a=some (.ins C dx fs)/\SN K C/\nG K C f/\fs.lookup f=some v/\Q v H1
def aN6(K:aI)(ta tv:TE)(f:Str):TS:=λD σ H=>tv σ H λy H1=>ta σ H1 λx H2=>∃a C dx fs,x=.ref a/\H2 a=some (.ins C dx fs)/\SN K C/\nG K C f/\fs.length<1000 /\
 D.nx σ (fM H2 a (.ins C dx (qM f y fs)))
section
variable{X:Cx}{o e value:Expr}{f:Str}{pos o9:Pos}{ta tv:TE}
def aEz(he:PE X e ta)(hb:bb e f X.env (eval e X.env)=eval e X.env):PE X (.Attribute e f pos) (aNh X.K ta f):=by
 intro b7 s σ H Q I h;refine aBo hb (iZ (he b7 s σ H _ I h) λu s1 zq=>?_);obtain⟨x,H1,I1,rx,a,C,dx,fs,v,ex,ea,c,n,l,q⟩:=zq;subst ex;obtain rfl:u=e8 a:=rx;exact ME I1 ea c n l λu' s2 I2 ru=>⟨v,H1,I2,ru,q⟩
def aEu(ha:PE X o ta)(hv:PE X value tv)(hs:gX value (some (.Attribute o f o9)) pos.line X.env=pure false):PS X (.Assign [.Attribute o f o9] value pos) (aN6 X.K ta tv f):=by
 intro b7 s σ H D I h;refine plainObj_wpAny_Assign_Attribute (iZ (hv b7 s σ H _ I h) λu s1 ⟨y,H1,I1,ry,q⟩=>iZ (ha b7 s1 σ H1 _ I1 q) λov s2 zq=>?_) hs;obtain⟨x,H2,I2,rx,a,C,dx,fs,ex,ea,c,n,l,q2⟩:=zq;subst ex;obtain rfl:ov=e8 a:=rx;exact K8 I2 ea c n l ry λs3 I3=>⟨σ,_,I3,q2⟩
end
section
variable{X:Cx}{b7:List (Addr×Obj)}{σ:St}{H:Hp}{s:Shared}{A:i5}{E:Value->Shared->Prop}{Q:Value->Shared->Prop}{c:Value}{b:Bool}
inductive AL(K:aI)(H:Hp):V->Value->Prop where
|non:AL K H .non (.type "NoneType")
|bl (x:Bool):AL K H (.bl x) (.type "bool")
|int (i:Int):AL K H (.int i) (.type "int")
|str (x:Str):AL K H (.str x) (.type "str")
|flt (x:UInt64):AL K H (.flt x) (.type "float")
|lst {a:Addr} {xs:List V} (e:H a=some (.lst xs)):AL K H (.ref a) (.type "list")
|frz {a:Addr} {o:Obj} {xs:List V} (e:H a=some (.frz o (.lst xs))):AL K H (.ref a) (.type "list")
|tup {a:Addr} {xs:List V} (e:H a=some (.tup xs)):AL K H (.ref a) (.type "tuple")
|dK {a:Addr} {kvs:List (pS×V)} (e:H a=some (.dK kvs)):AL K H (.ref a) (.type "dict")
|dT {a:Addr} {kvs:List (List pS×V)} (e:H a=some (.dT kvs)):AL K H (.ref a) (.type "dict")
|ins {a C dx:Addr} {fs:List (Str×V)} (e:H a=some (.ins C dx fs)) (cl:SN K C) (ha:eI K (.ref C) "__class__"=some (some (.builtin "object.__class__")))
  (hn:PySem.W.specialIn K (.builtin "object.__class__") "__get__"=some (some (.builtin "getset_descriptor.__get__"))) (Ca:PySem.W.takesIn K (.builtin "object.__class__")=some true)
  (hm:cG K C (.type "object")=some true):AL K H (.ref a) (.ref C)
def vD{x u t}(I:dS X b7 σ H s)(rx:fX x u)(ty:AL X.K H x t)(e:cP X.K t c=some b)(h:∀tk,Q (.bool b) { s with toks:=tk }) :
  wpAny (model X.prog X.w) A (call (.builtin "isinstance") [u,c]) Q E s:=by
 cases ty with
 |non=>cases (show u=g9 from rx);exact eL PySem.W.kitx_none I.kIn i8 e (λz=>nomatch z) h
 |bl y=>cases (show u=z4 y from rx);exact eL PySem.W.kitx_bool I.kIn i8 e (λz=>nomatch z) h
 |int i=>obtain⟨t,q⟩:=(show∃t,u=js i t from rx);cases q;exact eL PySem.W.kitx_int I.kIn i8 e (λz=>nomatch z) h
 |str y=>obtain⟨t,q⟩:=(show∃t,u=jt y t from rx);cases q;exact eL PySem.W.kitx_str I.kIn i8 e (λz=>nomatch z) h
 |flt y=>obtain⟨t,q⟩:=(show∃t,u=qr y t from rx);cases q;exact eL PySem.W.kitx_float I.kIn i8 e (λz=>nomatch z) h
 |@lst a xs ea=>
  cases (show u=e8 a from rx);obtain⟨_,_,n,_,h1⟩:=(show iE X.prog X.w H s.heap a (.lst xs)from I.hok a _ ea);exact eL qJ I.kIn ⟨_,h1,rfl⟩ e (λz=>nomatch z) h
 |@frz a ob xs ea=>
  cases (show u=e8 a from rx);obtain⟨_,_,_,n,_,h1⟩:=(show iE X.prog X.w H s.heap a (.frz ob (.lst xs))from I.hok a _ ea);exact eL qJ I.kIn ⟨_,h1,rfl⟩ e (λz=>nomatch z) h
 |@tup a xs ea=>
  cases (show u=e8 a from rx);obtain⟨_,_,_,p⟩:=(show iE X.prog X.w H s.heap a (.tup xs)from I.hok a _ ea);obtain⟨o,h1,h2,_⟩:=p;exact eL ND I.kIn ⟨o,h1,h2⟩ e (λz=>nomatch z) h
 |@dK a kvs ea=>
  cases (show u=e8 a from rx);obtain⟨_,_,vs,_,p⟩:=(show iE X.prog X.w H s.heap a (.dK kvs)from I.hok a _ ea);obtain⟨o,es,ep,h1,h2,_⟩:=p;exact eL P1 I.kIn ⟨o,h1,h2.1⟩ e (λz=>nomatch z) h
 |@dT a kvs ea=>
  cases (show u=e8 a from rx);obtain⟨_,_,xs,_,o,es,ep,h1,h2,_⟩:=(show iE X.prog X.w H s.heap a (.dT kvs)from I.hok a _ ea);exact eL P1 I.kIn ⟨o,h1,h2.1⟩ e (λz=>nomatch z) h
 |@ins a C dx fs ea cl ha hn Ca hm=>
  cases (show u=e8 a from rx);obtain⟨mA,O,_⟩:=A4 I.hok ea;obtain⟨od,J,_⟩:=O.look;exact eL (PySem.W.kitx_own (cl.get _) cl.hd ha hn Ca hm) I.kIn J e (λz=>nomatch z) h
end
structure Room(k:Nat)(A:i5):Prop where
 hd:A.handled=none
 dp:A.depth+3*k+5<tu
 un:A.units+16*k+200<m4
 gd:A.guards=some []
def Room.mono{j k:Nat}{A}(r:Room k A)(h:j<=k):Room j A:=⟨r.hd,by have:=r.dp;omega,by have:=r.un;omega,r.gd⟩
theorem Room.deeper{k:Nat}{A:i5}(r:Room (k+1) A)(env:Env):Room k (A.deeper env):=
 ⟨r.hd,by have:=r.dp;show A.depth+1+3*k+5<_;omega,by have:=r.un;show A.units+3+16*k+200<_;omega,r.gd⟩
def LZ{A:i5}{C:Addr}{us kw}:(A.under (.builtin "type.__call__" ⟨.ref C::us,kw⟩)).depth=A.depth+1:=by
 first | rfl | simp[iz,Code.weight,Code.isCreation,Code.isGuard,Code.isCaller,Code.frames,qh,guardIds]
def LY{A:i5}{C:Addr}{us kw}:(A.under (.builtin "type.__call__" ⟨.ref C::us,kw⟩)).units=A.units+1:=by
 first | rfl | simp[iz,Code.cUnits,Code.frames,qh]
def Room.make{k:Nat}{A:i5}(r:Room (k+1) A)(C:Addr)(us:List Value)(kw:List (Str×Value)):Room k (A.under (.builtin "type.__call__" ⟨.ref C::us,kw⟩)):=
 ⟨r.hd,by have:=r.dp;rw[LZ];omega,by have:=r.un;rw[LY];omega,by first | exact r.gd | (simp[iz,Code.isGuard,guardIds];exact r.gd)⟩
theorem Room.depth{k:Nat}{A:i5}(r:Room k A):A.depth<tu:=by have:=r.dp;omega
def xJ:TA:=λ_ H Q=>Q [] H
def nY(ta:TE)(tr:TA):TA:=λσ H Q=>ta σ H λx H1=>tr σ H1 λxs H2=>Q (x::xs) H2
section
variable{X:Cx}{e:Expr}{es:List Expr}{te:TE}{t:TA}{pos:Pos}
def hU:PA X [] xJ:=λ_ _ _ _ H Q I h=>Calls.spliced_nil ⟨[],H,I,.nil,h⟩
def dY(ha:PE X e te)(hr:PA X es t)(hs:bS (e::es) X.env=(false,eval e X.env)::bS es X.env:=by rfl):PA X (e::es) (nY te t):=by
 intro pos b7 s σ H Q I h;rw[hs];show wpAny _ _ (spliced ((false,eval e X.env)::w6 pos (bS es X.env))) _ _ s;refine Calls.spliced_cons (iZ (ha b7 s σ H _ I h) λu s1 zq=>?_);obtain⟨x,H1,I1,r1,q1⟩:=zq;exact iZ (hr pos b7 s1 σ H1 _ I1 q1) λus s2 ⟨xs,H2,I2,r2,q2⟩=>⟨x::xs,H2,I2,.cons r1 r2,q2⟩
def aHb(t:TA):TE:=λσ H Q=>t σ H λxs H1=>xs.length<=bM/\∀p,H1 p=none->Q (.ref p) (fM H1 p (.tup xs))
def aNf(t:TA):TE:=λσ H Q=>t σ H λxs H1=>xs.length<=bM/\∀p,H1 p=none->Q (.ref p) (fM H1 p (.lst xs))
def LN{x1}(h:PA X es t):PE X (.Tuple es x1 pos) (aHb t):=by
 intro b7 s σ H Q I hq;refine wpAny_Tuple_spliced (iZ (h pos b7 s σ H _ I hq) λus s1 ⟨xs,H1,I1,r,z,q⟩=>⟨by rw[<- r.length];exact z,?_⟩);have hf:H1 s1.heap.objs.size=none:=I1.hok.fresh (aL _);refine⟨.ref s1.heap.objs.size,fM H1 s1.heap.objs.size (.tup xs),I1.laid (t':=s1.toks) (λb u e=>aK _ e) (aL _) ?_,rfl,q _ hf⟩;exact⟨z,us,r,⟨_,aW _ rfl,rfl,_,rfl,rfl⟩⟩
def LO(h:PA X es t):PE X (.List es pos) (aNf t):=by
 intro b7 s σ H Q I hq;refine wpAny_List_spliced (iZ (h pos b7 s σ H _ I hq) λus s1 ⟨xs,H1,I1,r,z,q⟩=>⟨by rw[<- r.length];exact z,?_⟩);have hf:H1 s1.heap.objs.size=none:=I1.hok.fresh (aL _);refine⟨.ref s1.heap.objs.size,fM H1 s1.heap.objs.size (.lst xs),I1.laid (t':=s1.toks) (λb u e=>aK _ e) (aL _) ?_,rfl,q _ hf⟩;exact⟨z,us,0,r,aW _ rfl⟩
end
abbrev Sp:=List V->Hp->VK->XK->Prop
abbrev XV:=List Env->Hp->Shared->XK->Value->Shared->Prop
structure M7(P:bX)(w:g7)(K:aI)(mg:Str->Option Value)(base:Heap)(A:i5)(outer:List Env)(s:Shared)(H:Hp):Prop where
 frames:A.frames=some outer
 mod:Mod K mg base
 bs:∀b o,base.get? b=some o->s.heap.get? b=some o/\H b=none
 bsz:base.objs.size<=s.heap.objs.size
 funs:s.heap.FunFrames base outer
 frf:∀b∈sR outer,H b=none
 hok:rF P w H s.heap
 bare:fz s.gens
 tab:Tb H
def CE(outer:List Env)(P:bX)(w:g7)(H:Hp)(s:Shared)(Q:VK)(u:Value)(s':Shared):Prop:=
 ∃v H',s'.os=s.os/\fz s'.gens/\Un (sR outer) [] H H' s.heap s'.heap/\rF P w H' s'.heap/\fX v u/\Q v H'
def CR(CX:XV)(outer:List Env)(P:bX)(w:g7)(H:Hp)(s:Shared)(Q:VK)(E:XK)(r:Result)(s':Shared):Prop:=
 match r with
 |.ok (.ret u)=>CE outer P w H s Q u s'
 |.ok _=>False
 |.error e=>CX outer H s E e s'
structure eK(P:bX)(w:g7)(K:aI)(mg:Str->Option Value)(base:Heap)(CX:XV)(k:Nat)(f:Addr)(fd:kF)(ps:List Str)(sp:Sp):Prop where
 len:∀vs H Q E,sp vs H Q E->vs.length=ps.length
 run:∀A outer s H(args:Args)(us:List Value)(vs:List V)Q E,Room k A->M7 P w K mg base A outer s H->BindsTo s fd args (ps.zip us)->gE vs us->sp vs H Q E ->
  dz (model P w) A (.call (.ref f) args) (CR CX outer P w H s Q E) s
def eK.imp{P w K}{mg:Str->Option Value}{base CX}{k:Nat}{f:Addr}{fd ps}{sp Jb:Sp}(F:eK P w K mg base CX k f fd ps sp)
  (h:∀vs H Q E,Jb vs H Q E->sp vs H Q E):eK P w K mg base CX k f fd ps Jb:=
 ⟨λvs H Q E q=>F.len vs H Q E (h _ _ _ _ q),λA outer s H args us vs Q E hr he hb hv hs=>F.run A outer s H args us vs Q E hr he hb hv (h _ _ _ _ hs)⟩
def M7.make{P w K}{mg:Str->Option Value}{base}{A:i5}{outer s H}(e:M7 P w K mg base A outer s H)(C:Addr)(us:List Value)(kw:List (Str×Value)) :
  M7 P w K mg base (A.under (.builtin "type.__call__" ⟨.ref C::us,kw⟩)) outer s H:=⟨by first | exact e.frames | (simpa[iz,Code.envs,qh,pushEnvs]using e.frames),e.mod,e.bs,e.bsz,e.funs,e.frf,e.hok,e.bare,e.tab⟩
section
variable{X:Cx}{b7:List (Addr×Obj)}{σ:St}{H:Hp}{s s':Shared}
def dS.env0(I:dS X b7 σ H s):M7 X.prog X.w X.K X.mg X.base X.A X.stack s H:=
 ⟨I.ok.frames,I.ok.mod,I.bs,dG I.ok.bsz I.sz,I.stack,I.stkFree,I.hok,I.bare,λP e=>let ⟨ps,h⟩:=I.ok.tab P e;let ⟨m,h'⟩:=I.base.tbls P ps h;⟨_,h'⟩⟩
def dS.after{Q u}(I:dS X b7 σ H s)(h:CE X.stack X.prog X.w H s Q u s'):EP X b7 σ Q u s':=by
 obtain⟨v,H',os,bare,un,hok,r,q⟩:=h;obtain⟨hh,g,d,t,Nv⟩:=s';obtain rfl:Nv=s.os:=os;exact⟨v,H',I.call (h':=hh) (g':=g) (d':=d) (t':=t) (ch:=[]) un hok bare (λb z=>d8 z (by simp)),r,q⟩
end
def EB(sp:Sp)(mx:List V)(E:XK)(t:TA):TE:=λσ H Q=>t σ H λvs H1=>sp (vs++mx) H1 Q E
def aB4(C:Addr)(m:Str)(sp:Sp)(mx:List V)(E:XK)(ta:TE)(t:TA):TE:=λσ H Q=>ta σ H λx H1=>∃a dx fs,x=.ref a/\H1 a=some (.ins C dx fs)/\fs.lookup m=none /\
 t σ H1 λvs H2=>sp (x::(vs++mx)) H2 Q E
def aB5(C:Addr)(sp:Sp)(mx:List V)(E:XK)(t:TA):TE:=λσ H Q=>t σ H λvs H1=>∀x dx,H1 x=none->H1 dx=none->dx≠x ->
 sp (.ref x::(vs++mx)) (fM (fM H1 dx (.own x)) x (.ins C dx [])) (λv H2=>v=.non/\Q (.ref x) H2) E
def rB(K:aI)(fd:kF)(ps:List Str)(ds:List Value):Prop:=
 ∀(s:Shared)(us:List Value),K.In s.heap->(us++ds).length=ps.length->BindsTo s fd ⟨us,[]⟩ (ps.zip (us++ds))
def rB.all{K fd}{ps:List Str}(h:∀us:List Value,us.length=ps.length->bindArgs fd ⟨us,[]⟩=pure (ps.zip us)):rB K fd ps []:=λs us _ hl=>by
 rw[dP]at hl |-
 exact .of_eq (h us hl)
def xG(CX:XV)(X:Cx)(E:XK):Prop:=∀b7 σ H s(e:Value)s',dS X b7 σ H s->CX X.stack H s E e s'->X.xe e s'
section
variable{X:Cx}{CX:XV}{k:Nat}{f C:Addr}{fd:kF}{ps:List Str}{sp:Sp}{mx:List V}{ds:List Value}{E:XK}{x m:Str}{p pos ic:Pos}{e o:Expr}{es:List Expr}{ta:TE}{t:TA}
def T0{b7 σ H s Q us vs}(F:eK X.prog X.w X.K X.mg X.base CX k f fd ps sp)(hr:Room k X.A)(hb:rB X.K fd ps ds)(hd:gE mx ds)(hx:xG CX X E)
  (I:dS X b7 σ H s) (r:gE vs us) (h:sp (vs++mx) H Q E):wpAny (model X.prog X.w) X.A (call (.ref f) us) (EP X b7 σ Q) X.xe s:=by
 have r2:gE (vs++mx) (us++ds):=r.append hd;have hl:(us++ds).length=ps.length:=by rw[<- r2.length];exact F.len _ _ _ _ h
 refine ua (aj (F.run X.A X.stack s H ⟨us,[]⟩ (us++ds) (vs++mx) Q E hr I.env0 (hb s us I.kIn hl) r2 h) λr s' hq=>?_)
 cases r with
 |error e=>exact hx b7 σ H s e s' I hq
 |ok fl=>
  cases fl with
  |ret u=>exact I.after hq
  |next=>exact j9 hq
  |brk=>exact j9 hq
  |cont=>exact j9 hq
def uU(F:eK X.prog X.w X.K X.mg X.base CX k f fd ps sp)(hr:Room k X.A)(hg:Gl X x)(hm:X.mg x=some (.ref f))(hk:fZ X.K (.ref f)=true)(hb:rB X.K fd ps ds)(hd:gE mx ds)(hx:xG CX X E)
  (ha:PA X (e::es) t) (lw:(x==("__debug__":Str))=false:=by decide) (he:bS (e::es) X.env=(false,eval e X.env)::bS es X.env:=by rfl) (gy:(w6 pos (bS es X.env)).any (·.1)=false:=by rfl) :
  PE X (.Call (.Name x p) (e::es) [] pos) (EB sp mx E t):=by
 intro b7 s σ H Q I h;refine br (vB I hg hm ?_ lw);refine pP (h₀:=X.base) I.ok.mod.kin hk (iZ (ha pos b7 s σ H _ I h) λus s1 ⟨vs,H1,I1,r,q⟩=>⟨I1.kIn,?_⟩) he gy;exact T0 F hr hb hd hx I1 r q
def rR{pl}(he:PE X o ta)(c:SN X.K C)(hm:aBv X.K C m f)(F:eK X.prog X.w X.K X.mg X.base CX k f fd ps sp)(hr:Room k X.A)(hb:rB X.K fd ps ds)(hd:gE mx ds)(hx:xG CX X E)(ha:PA X (e::es) t)
  (jx:bS (e::es) X.env=(false,eval e X.env)::bS es X.env:=by rfl) (gy:(w6 pos (bS es X.env)).any (·.1)=false:=by rfl)
  (ht:eval (.Call (.Attribute o m ic) (e::es) [] pos) X.env=(do
   let ov <- eval o X.env
   standAt ic.atName
   let (f,first) <- xx [ov] (getMethod ov m pl)
   callWith pos f first (w6 pos (bS (e::es) X.env)) (backToKw pos (Ci [] X.env))):=by rfl) :
  PE X (.Call (.Attribute o m ic) (e::es) [] pos) (aB4 C m sp mx E ta t):=by
 intro b7 s σ H Q I h;refine PySem.W.methodCall_KW (pl:=pl) (iZ (he b7 s σ H _ I h) λu s1 zq=>?_) ht;obtain⟨x,H1,I1,rx,a,dx,fs,ex,ea,l,q⟩:=zq;subst ex;obtain rfl:u=e8 a:=rx;refine MD I1 ea c hm l ?_;refine pP (first:=[.ref a]) (h₀:=X.base) I.ok.mod.kin hm.kp (iZ (ha pos b7 s1 σ H1 _ I1 q) λus s2 ⟨vs,H2,I2,r,q2⟩=>⟨I2.kIn,?_⟩) jx gy;exact T0 (us:=.ref a::us) (vs:=.ref a::vs) F hr hb hd hx I2 (.cons rfl r) q2
structure Mk(K:aI)(C f:Addr):Prop where
 makes:SO K C=true
 init:eI K (.ref C) "__init__"=some (some (.ref f))
 fn:HC K (.ref f)=true
 kp:fZ K (.ref C)=true
def TY{b7 σ}{H:Hp}{s}{Q:VK}{us vs}(M:Mk X.K C f)(F:eK X.prog X.w X.K X.mg X.base CX k f fd ps sp)(hr:Room (k+1) X.A)(hb:rB X.K fd ps ds)(hd:gE mx ds)
  (hx:xG CX X E) (I:dS X b7 σ H s) (r:gE vs us)
  (h:∀x dx,H x=none->H dx=none->dx≠x->sp (.ref x::(vs++mx)) (fM (fM H dx (.own x)) x (.ins C dx [])) (λv H2=>v=.non/\Q (.ref x) H2) E) :
  wpAny (model X.prog X.w) X.A (call (.ref C) us) (EP X b7 σ Q) X.xe s:=by
 have hq:=h (s.heap.objs.size+1) s.heap.objs.size (I.hok.fresh (Nat.le_succ _)) (I.hok.fresh (aL _)) (bZ (iN _));have I2:=dS.made (C:=C) I;have r2:gE (V.ref (s.heap.objs.size+1)::(vs++mx)) (e8 (s.heap.objs.size+1)::(us++ds)):=.cons rfl (r.append hd)
 have hl:(e8 (s.heap.objs.size+1)::us++ds).length=ps.length:=by
  have e:=r2.length;rw[F.len _ _ _ _ hq]at e;exact e.symm
 refine ua (VN (f:=f) I.kIn M.makes M.init (beq_iff_eq.mp M.fn) (aj (F.run _ X.stack _ _ ⟨e8 (s.heap.objs.size+1)::us,[]⟩ (e8 (s.heap.objs.size+1)::(us++ds)) _ _ E (hr.make C us [])
  (I2.env0.make C us []) (hb _ (e8 (s.heap.objs.size+1)::us) I2.kIn hl) r2 hq) λr s' fu=>?_))
 cases r with
 |error e=>exact hx b7 σ _ _ e s' I2 fu
 |ok fl=>
  cases fl with
  |ret u=>
   obtain⟨v,H',I3,rv,ev,q3⟩:=I2.after fu;subst ev;exact⟨rv,⟨V.ref (s.heap.objs.size+1),H',I3,rfl,q3⟩⟩
  |next=>exact j9 fu
  |brk=>exact j9 fu
  |cont=>exact j9 fu
def GA(M:Mk X.K C f)(F:eK X.prog X.w X.K X.mg X.base CX k f fd ps sp)(hr:Room (k+1) X.A)(hg:Gl X x)(hm:X.mg x=some (.ref C))(hb:rB X.K fd ps ds)(hd:gE mx ds)(hx:xG CX X E)
  (ha:PA X (e::es) t) (lw:(x==("__debug__":Str))=false:=by decide) (he:bS (e::es) X.env=(false,eval e X.env)::bS es X.env:=by rfl) (gy:(w6 pos (bS es X.env)).any (·.1)=false:=by rfl) :
  PE X (.Call (.Name x p) (e::es) [] pos) (aB5 C sp mx E t):=by
 intro b7 s σ H Q I h;refine br (vB I hg hm ?_ lw);refine pP (h₀:=X.base) I.ok.mod.kin M.kp (iZ (ha pos b7 s σ H _ I h) λus s1 ⟨vs,H1,I1,r,q⟩=>⟨I1.kIn,?_⟩) he gy;exact TY M F hr hb hd hx I1 r q
end
structure cR(N P:List Str)(sc:Scope):Prop where
 kind:sc.kind=.function
 co:sc.isCoroutine=false
 gen:sc.isGenerator=false
 nd:N.Nodup
 pre:N.take P.length=P
 par:∀x∈P,sc.names.lookup x=some .local\/sc.names.lookup x=some .cell
 nofree:∀y∈sc.names,y.2≠.free
theorem FF{kindOf:Str->Option y9}{x}:∀{binds}{m:Str->Option Value},(∀v,(x,v)∉binds)->bindL kindOf binds m x=m x
|[],_,_=>rfl
| (n,v)::r,m,h=>by
 unfold bindL;rw[FF λw hw=>h w (aO _ hw)];split
 ·have:x≠n:=by rintro rfl;exact h v aS
  simp[this]
 ·rfl
theorem FH{kindOf:Str->Option y9}{x}:∀{binds}{m:Str->Option Value},(∀v,(x,v)∉binds)->bindC kindOf binds m x=m x
|[],_,_=>rfl
| (n,v)::r,m,h=>by
 unfold bindC;rw[FH λw hw=>h w (aO _ hw)];split
 ·rfl
 ·have:x≠n:=by rintro rfl;exact h v aS
  simp[this]
theorem FG{kindOf:Str->Option y9}{x v}:∀{P:List Str}{vs}{i:Nat}{m:Str->Option Value},P.Nodup->P[i]?=some x->vs[i]?=some v->kindOf x=some .local ->
 bindL kindOf (P.zip vs) m x=some v
|[],_,_,_,_,h,_,_=>by simp at h
|_::_,[],_,_,_,_,h,_=>by simp at h
|p::P,w::vs,0,m,nd,h1,h2,hk=>by
 simp at h1 h2;subst h1;subst h2;show bindL kindOf ((p,w)::P.zip vs) m p=_;unfold bindL;rw[FF λv hv=>(jR.mp nd).1 (DH hv).1,b9 hk];simp
|p::P,w::vs,i+1,m,nd,h1,h2,hk=>by
 show bindL kindOf ((p,w)::P.zip vs) m x=_;unfold bindL;exact FG (i:=i) (jR.mp nd).2 (by simpa using h1) (by simpa using h2) hk
theorem FI{kindOf:Str->Option y9}{x v}:∀{P:List Str}{vs}{i:Nat}{m:Str->Option Value},P.Nodup->P[i]?=some x->vs[i]?=some v->kindOf x≠some .local ->
 bindC kindOf (P.zip vs) m x=some v
|[],_,_,_,_,h,_,_=>by simp at h
|_::_,[],_,_,_,_,h,_=>by simp at h
|p::P,w::vs,0,m,nd,h1,h2,hk=>by
 simp at h1 h2;subst h1;subst h2;show bindC kindOf ((p,w)::P.zip vs) m p=_;unfold bindC;rw[FH λv hv=>(jR.mp nd).1 (DH hv).1,b8 hk];simp
|p::P,w::vs,i+1,m,nd,h1,h2,hk=>by
 show bindC kindOf ((p,w)::P.zip vs) m x=_;unfold bindC;exact FI (i:=i) (jR.mp nd).2 (by simpa using h1) (by simpa using h2) hk
noncomputable def pY(N:List Str)(vs:List V):St:=vs.map some++qK (N.length-vs.length) none
noncomputable def uC(CX:XV)(P:bX)(w:g7)(K:aI)(mg:Str->Option Value)(base:Heap)(N:List Str)(qual:Str)(scope:Scope)(f:Addr)(cd:Value)(A:i5)(outer:List Env)(s:Shared)(H:Hp)(E:XK):Cx where
 prog:=P
 w:=w
 K:=K
 mg:=mg
 base:=base
 A:=A.deeper (o7 qual scope s.heap.objs.size f cd)
 N:=N
 s₀:=s
 H₀:=H
 env:=o7 qual scope s.heap.objs.size f cd
 outer:=outer
 stack:=o7 qual scope s.heap.objs.size f cd::outer
 ex:=[]
 calm:=true
 fn:=λ_=>true
 pn:=[]
 xe:=λe s'=>wpAny (model P w) (A.deeper (o7 qual scope s.heap.objs.size f cd)) (lz (o7 qual scope s.heap.objs.size f cd) e) (λ_ wk=>CX outer H s E e wk) (λe' wk=>CX outer H s E e' wk) s'
def J3{sc:Scope}{n:Nat}{x}(h:sc.names.lookup x=some .cell):∃c,(ft n sc.names []).lookup x=some c:=by
 have q:=HD sc.names n [] (.inl h);exact FQ.mp q
def RJ{CX P w K}{mg:Str->Option Value}{base}{N ps:List Str}{qual}{scope:Scope}{f:Addr}{cd}{A:i5}{outer}{s s1:Shared}{H E us}{vs:List V}
  (S:cR N ps scope) (hd:A.handled=none) (e0:M7 P w K mg base A outer s H) (hl:vs.length=ps.length) (r:gE vs us)
  (x:InCallC s s.heap.objs.size (bindL (o7 qual scope s.heap.objs.size f cd).kindOf (ps.zip us) λ_=>none) (ft (s.heap.objs.size+1) scope.names []) (bindC (o7 qual scope s.heap.objs.size f cd).kindOf (ps.zip us) λ_=>none) s1) :
  dS (uC CX P w K mg base N qual scope f cd A outer s H E) [] (pY N vs) H s1:=by
 have gy:ps.length<=N.length:=by have:=i6 gO S.pre;rw[bA]at this;omega
 obtain⟨h1,tk,rfl,hk⟩:=x.done;have Iv:∀b:Addr,b∉(uC CX P w K mg base N qual scope f cd A outer s H E).ex:=λb z=>d8 (show b∈([]:List Addr)from z) (by simp)
 refine⟨⟨e0.mod,S.kind,rfl,rfl,aL _,λy z c h1 h2=>?_,λy hy=>?_,λy c _ h=>?_,λ_=>hd,Around.frames_deeper e0.frames,.inr ⟨rfl,rfl⟩,λb z=>d8 z (Iv b),e0.bs,e0.bsz,λb _ _=>Iv b,λb z=>d8 z (Iv b),e0.funs,e0.frf,e0.tab⟩,
  rfl,e0.bare,Un.kept hk,⟨_,x.toInCall.ns,λi y v h1 h2 h3=>?_⟩,λy c h=>⟨_,x.cell y c h⟩,e0.hok.fresh (aL _),λy c h=>?_,λp hp=>d8 (show p∈([]:List (Addr×Obj))from hp) (by simp),e0.hok.kept hk,?_⟩
 ·exact name_of_addr x.apart (l5 h1) (l5 h2)
 ·have hy:scope.names.lookup y=some .cell\/scope.names.lookup y=some .free:=hy;rcases hy with hy | hy
  ·exact J3 hy
  ·exact d8 rfl (S.nofree _ (l5 hy))
 ·exact pW (x.above y c (l5 h))
 ·have hi:i<vs.length:=by
   unfold pY at h2;by_cases hi:i<vs.length
   ·exact hi
   ·rw[cN (by simpa using hi)]at h2;rw[kH]at h2;split at h2<;>cases h2
  have ha:vs[i]?=some v:=by
   unfold pY at h2;rw[cQ (by simpa using hi),aH]at h2
   cases e:vs[i]? with
   |none=>rw[e]at h2;cases h2
   |some a=>rw[e]at h2;cases h2;rfl
  obtain⟨u,hu,rv⟩:=r.get ha
  have hp:ps[i]?=some y:=by
   rw[<- S.pre,rH (by omega)];exact h1
  have Qk:ps.Nodup:=by rw[<- S.pre];exact S.nd.sublist (zX _ _)
  refine⟨u,rv,?_⟩;rcases S.par y (aN hp)with k | k
  ·exact .inl ⟨k,FG Qk hp hu k⟩
  ·obtain⟨c,e⟩:=J3 (n:=s.heap.objs.size+1) k;refine .inr ⟨.inl k,c,e,?_⟩;have q:=x.cell y c e;rw[FI Qk hp hu (by show scope.names.lookup y≠_;rw[k];decide)]at q;exact q
 ·exact e0.hok.fresh (pW (x.above y c (l5 h)))
 ·unfold pY;show _=N.length;rw[bC,aB,List.length_replicate];omega
def aC5{CX P w}{K:aI}{mg:Str->Option Value}{base}{k:Nat}{f:Addr}{name qual params body scope dV kV mw pm cr ct oc an od}
  {qa} {N ps:List Str} {sp:Sp} (lk:K.lookup f=some ⟨oc,od,.func (nI name qual params body scope dV kV mw pm an cr ct),qa⟩) (my:pO K cr qual=true) (S:cR N ps scope)
  (len:∀vs H Q E,sp vs H Q E->vs.length=ps.length)
  (dy:∀(A:i5)outer(s:Shared)H(vs:List V)Q E,Room k (A.deeper (o7 qual scope s.heap.objs.size f cr))->sp vs H Q E ->
   ∃t,zI (uC CX P w K mg base N qual scope f cr A outer s H E) body t/\t { nx:=λ_ H'=>Q .non H',rt:=Q } (pY N vs) H) :
  eK P w K mg base CX (k+1) f (nI name qual params body scope dV kV mw pm an cr ct) ps sp:=by
 refine⟨len,λA outer s H args us vs Q E hr e0 hb r Di=>?_⟩;have hl:=len _ _ _ _ Di;have KX:K.In s.heap:=e0.mod.kin.keeps λb o e=>(e0.bs b o e).1;have Vx:s.heap.NoLimit:=e0.mod.nolimit.keeps λb o e=>(e0.bs b o e).1
 have iw:∀y∈ps.zip us,scope.names.lookup y.1=some .local\/(scope.names.lookup y.1=some .cell/\((ft (s.heap.objs.size+1) scope.names []).lookup y.1).isSome=true):=λ⟨n,v⟩ hy=>by
  rcases S.par n (DH hy).1 with q | q
  ·exact .inl q
  ·exact .inr ⟨q,HD _ _ _ (.inl q)⟩
 refine codeAny_call_function hr.depth (KX _ _ lk) rfl S.co S.gen rfl (PySem.W.codeRec_of KX my) (hb _ _ _ _ ?_);refine wpAny_newFunctionEnv_cells S.kind iw λenv he s1 x=>?_;subst he;refine⟨Vx.keeps x.toInCall.keep,codeAny_func ?_⟩;obtain⟨t,ht,hq⟩:=dy A outer s H vs Q E (hr.deeper _) Di;have I:dS (uC CX P w K mg base N qual scope f cr A outer s H E) [] (pY N vs) H s1:=RJ S hr.hd e0 hl r x;refine fV (ht [] s1 (pY N vs) H _ I hq) (λfl s' hs=>?_) λe s' hs=>hs
 have fin:∀{g6:St}{H':Hp}{v:V}{u:Value},dS (uC CX P w K mg base N qual scope f cr A outer s H E) [] g6 H' s'->fX v u->Q v H'->CE outer P w H s Q u s':=
  λ{g6 H' v u} J rv q=>⟨v,H',J.os,J.bare,J.base,J.hok,rv,q⟩
 cases fl with
 |ret u=>
  obtain⟨v,g6,H',J,rv,q⟩:=hs;exact fin J rv q
 |next=>
  obtain⟨g6,H',J,q⟩:=hs;exact fin (v:=V.non) (u:=g9) J rfl q
 |brk=>
  obtain⟨_,_,_,q⟩:=hs;exact j9 q
 |cont=>
  obtain⟨_,_,_,q⟩:=hs;exact j9 q
section
variable{X:Cx}{x:Str}{p pos:Pos}{e:Expr}{es:List Expr}{t:TA}{id T:String}{r:List V->Hp->VK->Prop}
def NN(r:List V->Hp->VK->Prop)(t:TA):TE:=λσ H Q=>t σ H λvs H1=>r vs H1 Q
def jL(hc:kB X (.builtin id) r)(hg:Gl X x)(hm:X.mg x=none)(hv:i0 x=some (.builtin id))(ha:PA X (e::es) t)(hn:x≠"__name__":=by decide)(lw:(x==("__debug__":Str))=false:=by decide)
  (he:bS (e::es) X.env=(false,eval e X.env)::bS es X.env:=by rfl) (gy:(w6 pos (bS es X.env)).any (·.1)=false:=by rfl):PE X (.Call (.Name x p) (e::es) [] pos) (NN r t):=by
 intro b7 s σ H Q I h;refine br (wX I hg hm hv ?_ hn lw);exact PyProof.Rows.callWith_builtin1 (iZ (ha pos b7 s σ H _ I h) λus s1 ⟨vs,H1,I1,r1,q1⟩=>hc b7 s1 σ H1 vs us Q I1 r1 q1) he gy
def iP(hc:kB X (.type T) r)(hg:Gl X x)(hm:X.mg x=none)(hv:i0 x=some (.type T))(ha:PA X (e::es) t)(hn:x≠"__name__":=by decide)(lw:(x==("__debug__":Str))=false:=by decide)
  (he:bS (e::es) X.env=(false,eval e X.env)::bS es X.env:=by rfl) (gy:(w6 pos (bS es X.env)).any (·.1)=false:=by rfl):PE X (.Call (.Name x p) (e::es) [] pos) (NN r t):=by
 intro b7 s σ H Q I h;refine br (wX I hg hm hv ?_ hn lw);exact o6 (iZ (ha pos b7 s σ H _ I h) λus s1 ⟨vs,H1,I1,r1,q1⟩=>hc b7 s1 σ H1 vs us Q I1 r1 q1) he gy
end
end L2
namespace HT
section
variable{prog:bX}{w:g7}{A:i5}{E:Value->Shared->Prop}{s:Shared}
def cat_tup{t b:Addr}{vs ws:List Value}{Q:Value->Shared->Prop}(ht:Ff s.heap t vs.toArray)(hb:Ff s.heap b ws.toArray)(hv:vs≠[])
  (h1:ws=[]->Q (.ref t) s) (h2:ws≠[]->Q (.ref s.heap.objs.size) { s with heap:=s.heap.push { cls:=.type "tuple",data:=.seq (vs++ws).toArray } })
  (hsz:vs.length+ws.length<=bM):wpAny (model prog w) A (m9 .Add (.ref t) (.ref b)) Q E s:=by
 obtain⟨⟨cls,dd,data,sl⟩,ho,hc,n,hd⟩:=id ht;obtain⟨⟨Gq,Fh,data2,yj⟩,yw,rz,n2,uz⟩:=id hb;simp only at hc hd rz uz;subst hc hd rz uz;have e:vs.toArray++ws.toArray=(vs++ws).toArray:=by simp
 by_cases hw:ws=[]
 ·exact lr ⟨_,ho,rfl⟩ ⟨_,yw,rfl⟩ nq wl sM rD (qP _ _)
   (tuple_addW1 t b vs.toArray ws.toArray n n2 dd Fh sl yj (by simpa using hv) (by simp[hw])) ⟨ho,yw,h1 hw⟩
 ·refine lr ⟨_,ho,rfl⟩ ⟨_,yw,rfl⟩ nq wl sM rD (qP _ _)
   (tuple_addW2 t b vs.toArray ws.toArray n n2 dd Fh sl yj (by simpa using hv) (by simpa using hw) (by rw[bO,bO];exact hsz)) ⟨ho,yw,?_⟩
  rw[e];exact h2 hw
noncomputable def sIx(n d:Nat):Option Int->Nat
|none=>d
|some v=>if v<0 then(v+(n:Int)).toNat else min v.toNat n
def sIx_none(n d:Nat):sIx n d none=d:=rfl
def sIx_nat(n d k:Nat):sIx n d (some (k:Int))=min k n:=by
 show(if(k:Int)<0 then((k:Int)+(n:Int)).toNat else min (k:Int).toNat n)=min k n;rw[b8 (by omega),cW]
def sIx_le(n d:Nat)(hd:d<=n)(o:Option Int):sIx n d o<=n:=by
 cases o with
 |none=>exact hd
 |some v=>
  show(if v<0 then(v+(n:Int)).toNat else min v.toNat n)<=n;by_cases hv:v<0
  ·rw[b9 hv];omega
  ·rw[b8 hv];exact DA _ _
def clip_eq(v:Int)(n d:Nat):(if v<0 then max (v+(n:Int)) 0 else min v (n:Int))=((sIx n d (some v):Nat):Int):=by
 show(if v<0 then max (v+(n:Int)) 0 else min v (n:Int))=(((if v<0 then(v+(n:Int)).toNat else min v.toNat n):Nat):Int);by_cases hv:v<0
 ·simp only[b9 hv];omega
 ·simp only[b8 hv];omega
def M2(lo hi:Option Int)(n:Nat):ck lo hi 1 (n:Int)=(((sIx n 0 lo:Nat):Int),((sIx n n hi:Nat):Int)):=by
 have h1:¬((1:Int)<0):=by omega
 unfold ck;simp only[h1,p8];refine ud ?_ ?_
 ·cases lo with
  |none=>rfl
  |some v=>exact clip_eq v n 0
 ·cases hi with
  |none=>rfl
  |some v=>exact clip_eq v n n
def LL(i j:Nat):x8 (i:Int) (j:Int) 1=j-i:=by
 unfold x8;have h1:(1:Int)>0:=by omega
 simp only[h1,ef,aMp];split<;>omega
def BK{v o}{Q:Option Int->Shared->Prop}(p:IsPart v o)(h:Q o s):wpAny (model prog w) A (Builtin.Slice.slicePartIndex v) Q E s:=by
 cases p with
 |none=>exact slicePart_none h
 |int i t=>exact slicePart_int h
def qS{sl:Addr}{vl vu lo hi}{n:Nat}{Q:Int×Int×Nat->Shared->Prop}(hs:s.heap.IsSliceOf sl vl vu .none)(pl:IsPart vl lo)(pu:IsPart vu hi)
  (h:Q (((sIx n 0 lo:Nat):Int),1,sIx n n hi-sIx n 0 lo) s):wpAny (model prog w) A (ip (.ref sl) (pure (n:Int))) Q E s:=by
 obtain⟨os,By,xn,Hh⟩:=id hs;unfold ip Builtin.Slice.sliceFields;refine aA (aA (p7 By Hh (x:=vl) rfl (aA (p7 By Hh (x:=vu) rfl (aA (p7 By Hh (x:=.none) rfl (aF ?_)))))));refine aA (slicePart_none ?_);show wpAny _ _ (if((1:Int)==0)=true then _ else _) _ _ s;rw[b8 (by decide)];refine aA (BK pl (aA (BK pu (aA (aF ?_)))));show wpAny _ _ (match ck lo hi 1 (n:Int)with | (lo,hi)=>pure (lo,(1:Int),x8 lo hi 1)) _ _ s;rw[M2 lo hi n];show wpAny _ _ (pure (((sIx n 0 lo:Nat):Int),(1:Int),x8 ((sIx n 0 lo:Nat):Int) ((sIx n n hi:Nat):Int) 1)) _ _ s;rw[LL];exact aF h
def UG(xs:Array Value)(i k:Nat):((aZ k).filterMap λ(m:Nat)=>xs[((i:Int)+(m:Int)*1).toNat]?).toArray=((xs.toList.drop i).take k).toArray:=by
 have e:(λ(m:Nat)=>xs[((i:Int)+(m:Int)*1).toNat]?)=λm=>xs[i+m]?:=by
  funext m;have:((i:Int)+(m:Int)*1).toNat=i+m:=by omega
  rw[this]
 rw[e];have:=pick_run xs i k;rw[SS]at this;have e2:((λx=>xs[x]?)∘λx=>i+x)=λm=>xs[i+m]?:=rfl;rw[e2]at this;rw[this]
def getItem_tuple_cut{t sl:Addr}{items:Array Value}{vl vu lo hi}{Q:Value->Shared->Prop}(ht:Ff s.heap t items)(hs:s.heap.IsSliceOf sl vl vu .none)(pl:IsPart vl lo)(pu:IsPart vu hi)
  (hw:¬(sIx items.size 0 lo=0/\sIx items.size items.size hi=items.size))
  (h:Q (.ref s.heap.objs.size) { s with heap:=s.heap.push { cls:=.type "tuple",data:=.seq ((items.toList.drop (sIx items.size 0 lo)).take (sIx items.size items.size hi-sIx items.size 0 lo)).toArray } })
  (hsz:items.size<=bM):wpAny (model prog w) A (gb (.ref t) (.ref sl)) Q E s:=by
 have ul:sizeOk (.seq ((items.toList.drop (sIx items.size 0 lo)).take (sIx items.size items.size hi-sIx items.size 0 lo)).toArray):=by
  show((items.toList.drop (sIx items.size 0 lo)).take (sIx items.size items.size hi-sIx items.size 0 lo)).toArray.size<=bM;rw[bO,bA,fF,bB];omega
 have hj:sIx items.size items.size hi<=items.size:=sIx_le _ _ (aL _) hi;obtain⟨os,By,xn,Hh⟩:=id hs;have Lk:s.TypeIs (.ref sl) "slice":=⟨os,By,xn⟩;unfold gb
 try with_reducible refine r8 ?_
 first | refine aA (aF ?_) | skip
 refine aA (Ge ht.typeIs (by decide) ?_)
 refine aA (l4 (name:=u5 "__getitem__") ht.typeIs p9
  (fA p9 ht.typeIs Cs ?_ (Dp _ _)))
 show wpAny _ _ (cb (.ref t) >>= _) _ _ s;refine aA (tupleItemsOf_ ht ?_);refine aA (fk Lk ?_);rw[b9 (by decide)];refine aA (qS hs pl pu ?_)
 have qm:¬((((sIx items.size 0 lo:Nat):Int)==0&&(1:Int)==1&&(sIx items.size items.size hi-sIx items.size 0 lo)==items.size)=true):=by
  intro q;rw[bU,bU]at q;have q1:((sIx items.size 0 lo:Nat):Int)=0:=wr q.1.1;have q2:sIx items.size items.size hi-sIx items.size 0 lo=items.size:=wr q.2;exact hw ⟨by omega,by omega⟩
 show wpAny _ _ (if(((sIx items.size 0 lo:Nat):Int)==0&&(1:Int)==1&&(sIx items.size items.size hi-sIx items.size 0 lo)==items.size)=true then _ else _) _ _ s;rw[b8 qm,UG]
 first
  |exact aA (m:=l6 _) (eD (aF ⟨_,rfl,aF h⟩) ul)
  |exact aA (m:=l6 _) (eD (aA (aF (aF ⟨_,rfl,aF h⟩))) ul)
  |exact aA (aA (m:=l6 _) (eD (aF (aF ⟨_,rfl,aF h⟩)) ul))
  |exact aA (aA (m:=l6 _) (eD (aF ⟨_,rfl,aF h⟩) ul))
end
end HT
namespace L2
abbrev TO:=St->Hp->(Option Int->Hp->Prop)->Prop
def PO(X:Cx)(e:Option Expr)(t:TO):Prop:=
 ∀b7 s σ H(Q:Option Int->Hp->Prop),dS X b7 σ H s->t σ H Q ->
  wpAny (model X.prog X.w) X.A (evalPart e X.env) (λu s'=>∃o H',dS X b7 σ H' s'/\IsPart u o/\Q o H') X.xe s
def YE:TO:=λ_ H Q=>Q none H
def aHd(t:TE):TO:=λσ H Q=>t σ H λx H1=>∃i,x=.int i/\Q (some i) H1
section
variable{X:Cx}{e:Expr}{te:TE}{lo hi:Option Expr}{tl th:TO}{pos p2:Pos}
def ZG:PO X none YE:=by
 intro b7 s σ H Q I h;rw[evalPart_none];exact aF ⟨none,H,I,.none,h⟩
def ZF(h:PE X e te):PO X (some e) (aHd te):=by
 intro b7 s σ H Q I hw;rw[evalPart_some];refine iZ (h b7 s σ H _ I hw) λu s1 zq=>?_;obtain⟨x,H1,I1,r1,q1⟩:=zq;obtain⟨i,rfl,q⟩:=q1;obtain⟨t,rfl⟩:=r1;exact⟨some i,H1,I1,.int i t,q⟩
def XN(X:Cx)(r:V->Option Int->Option Int->Hp->VK->Prop):Prop:=
 ∀b7(s:Shared)σ H(x:V)(v vl vu:Value)(lo hi:Option Int)(sl:Addr)Q,dS X b7 σ H s->fX x v->s.heap.IsSliceOf sl vl vu .none->IsPart vl lo->IsPart vu hi->r x lo hi H Q ->
  ∃T id,typeLookup (.type T) "__getitem__"=pure (some (.builtin id))/\s.TypeIs v T/\wpAny (model X.prog X.w) X.A (gb v (.ref sl)) (EP X b7 σ Q) X.xe s
def XN.or{r r':V->Option Int->Option Int->Hp->VK->Prop}(h:XN X r)(h':XN X r'):XN X (λx lo hi H Q=>r x lo hi H Q\/r' x lo hi H Q):=by
 intro b7 s σ H x v vl vu lo hi sl Q I rx hs pl pu q;rcases q with q | q
 ·exact h b7 s σ H x v vl vu lo hi sl Q I rx hs pl pu q
 ·exact h' b7 s σ H x v vl vu lo hi sl Q I rx hs pl pu q
def tSl(r:V->Option Int->Option Int->Hp->VK->Prop)(te:TE)(tl th:TO):TE:=λσ H Q=>te σ H λx H1=>tl σ H1 λl H2=>th σ H2 λu H3=>r x l u H3 Q
def UK{r:V->Option Int->Option Int->Hp->VK->Prop}(hr:XN X r)(he:PE X e te)(hl:PO X lo tl)(hu:PO X hi th):PE X (.Subscript e (.Slice lo hi none p2) pos) (tSl r te tl th):=by
 intro b7 s σ H Q I h;refine Do (iZ (he b7 s σ H _ I h) λv s1 zq=>?_);obtain⟨x,H1,I1,r1,q1⟩:=zq;refine wpAny_Slice (iZ (hl b7 s1 σ H1 _ I1 q1) λvl s2 ⟨l,H2,I2,pl,q2⟩=>iZ (hu b7 s2 σ H2 _ I2 q2) λvu s3 zq=>?_);obtain⟨u,H3,I3,pu,q3⟩:=zq;rw[evalPart_none];refine aF ?_;have I4:dS X b7 σ H3 { s3 with heap:=s3.heap.push { cls:=.type "slice",data:=.fields #[vl,vu,.none] } }:=I3.kept (t':=s3.toks) λb ob q=>aK _ q;obtain⟨T,id,hT,ht,hg⟩:=hr b7 { s3 with heap:=s3.heap.push { cls:=.type "slice",data:=.fields #[vl,vu,.none] } } σ H3 x v vl vu l u s3.heap.objs.size Q I4 r1 (Heap.IsSliceOf.new ..) pl pu q3;show wpAny (model X.prog X.w) X.A (wm e (.Slice lo hi none p2) v (.ref s3.heap.objs.size)) (EP X b7 σ Q) X.xe { s3 with heap:=s3.heap.push { cls:=.type "slice",data:=.fields #[vl,vu,.none] } };exact tail_any (ops:=[.ref s3.heap.objs.size,v]) ht hT hg (by with_unfolding_all rfl)
noncomputable def GW(xs:List V)(lo hi:Option Int):List V:=(xs.drop (HT.sIx xs.length 0 lo)).take (HT.sIx xs.length xs.length hi-HT.sIx xs.length 0 lo)
def zT(xs:List V)(lo hi:Option Int):(GW xs lo hi).length<=xs.length:=by
 unfold GW;rw[bA,fF];omega
def aN7(K:aI):V->Option Int->Option Int->Hp->VK->Prop:=λx lo hi H Q=>∃a xs,x=.ref a/\vL K H a xs /\
 ¬(HT.sIx xs.length 0 lo=0/\HT.sIx xs.length xs.length hi=xs.length)/\∀p,H p=none->Q (.ref p) (fM H p (.tup (GW xs lo hi)))
def aD9:XN X (aN7 X.K):=by
 intro b7 s σ H x v vl vu lo hi sl Q I rx hs pl pu h;obtain⟨a,xs,rfl,hx,hw,q⟩:=h;cases rx;obtain⟨its,r,ht,hz⟩:=I.tuple hx;have o8:its.toArray.size=xs.length:=by rw[bO];exact r.length.symm
 refine⟨"tuple",_,PyProof.Rows.slot_tuple_getitem.lookup,ht.typeIs,?_⟩;refine HT.getItem_tuple_cut ht hs pl pu (by rw[o8];exact hw) ?_ (by rw[o8];exact hz);rw[o8];refine⟨.ref s.heap.objs.size,_,I.laid (t':=s.toks) (o:=.tup (GW xs lo hi)) (λb ob q=>aK _ q) (aL _) ?_,rfl,q _ (I.hok.fresh (aL _))⟩;exact⟨dG (zT xs lo hi) hz,_,(r.drop (HT.sIx xs.length 0 lo)).take (HT.sIx xs.length xs.length hi-HT.sIx xs.length 0 lo),CY.new _ _⟩
def aJp(K:aI):R2:=λx y H Q=>∃a b xs ys,x=.ref a/\y=.ref b/\vL K H a xs/\vL K H b ys/\xs≠[]/\xs.length+ys.length<=bM /\
 (ys=[]->Q (.ref a) H)/\(ys≠[]->∀p,H p=none->Q (.ref p) (fM H p (.tup (xs++ys))))
def gE.nil_iff{xs us}(r:gE xs us):us=[]↔xs=[]:=by
 cases r with
 |nil=>simp
 |cons _ _=>simp
def ZN:nP X (m9 .Add) (aJp X.K):=by
 intro b7 s σ H x y v u Q I rx ry h;obtain⟨a,b,xs,ys,rfl,rfl,ha,hb,hx,hz,q1,q2⟩:=h;cases rx;cases ry;obtain⟨its,r1,p1,_⟩:=I.tuple ha;obtain⟨ju,r2,p2,_⟩:=I.tuple hb;refine HT.cat_tup p1 p2 (λz=>hx (r1.nil_iff.mp z)) (λz=>⟨.ref a,H,I,rfl,q1 (r2.nil_iff.mp z)⟩) (λz=>?_) (by rw[<- r1.length,<- r2.length];exact hz);refine⟨.ref s.heap.objs.size,_,I.laid (t':=s.toks) (o:=.tup (xs++ys)) (λb ob q=>aK _ q) (aL _) ?_,rfl,q2 (λw=>z (r2.nil_iff.mpr w)) _ (I.hok.fresh (aL _))⟩;exact⟨by rw[bC];exact hz,_,r1.append r2,CY.new _ _⟩
end
noncomputable def ixN(n:Nat)(i:Int):Option Nat:=if 0<=i then(if i<n then some i.toNat else none)else if -(n:Int)<=i then some (i+n).toNat else none
noncomputable def atI{α:Type}(xs:List α)(i:Int):Option α:=(ixN xs.length i).bind λj=>xs[j]?
def aAf{n:Nat}{i:Int}{j:Nat}(h:ixN n i=some j):seqIndex? i n=some j/\j<n/\-(n:Int)<=i/\i<n:=by
 unfold ixN at h;by_cases h0:0<=i
 ·rw[b9 h0]at h;by_cases h1:i<n
  ·rw[b9 h1]at h;have e:i.toNat=j:=e9 h;exact⟨by rw[seqIndex_of h0 h1,e],by omega,by omega,h1⟩
  ·rw[b8 h1]at h;cases h
 ·rw[b8 h0]at h;by_cases h1:-(n:Int)<=i
  ·rw[b9 h1]at h;have e:(i+n).toNat=j:=e9 h;exact⟨by rw[seqIndex_neg (by omega) h1,e],by omega,h1,by omega⟩
  ·rw[b8 h1]at h;cases h
def G7{α:Type}{xs:List α}{i:Int}{v}(h:atI xs i=some v):∃j,seqIndex? i xs.length=some j/\xs[j]?=some v/\j<xs.length/\-(xs.length:Int)<=i/\i<xs.length:=by
 unfold atI at h
 cases e:ixN xs.length i with
 |none=>rw[e]at h;cases h
 |some j=>
  rw[e]at h;obtain⟨h1,h2,h3,h4⟩:=aAf e;exact⟨j,h1,h,h2,h3,h4⟩
def gU{α:Type}{xs:List α}{j:Nat}{v:α}(h:xs[j]?=some v):atI xs (j:Int)=some v:=by
 have hj:j<xs.length:=(aD.mp h).1
 have e:ixN xs.length (j:Int)=some j:=by
  unfold ixN;rw[b9 (by omega),b9 (by omega)];simp
 unfold atI;rw[e];exact h
def yH(b:Expr):Prop:=∀o i,ou b false o i=operate [o,i] (gb o i)
def XT(X:Cx)(r:R2):Prop:=
 ∀(value slice:Expr)b7 s σ H(x y:V)(v u:Value)Q,dS X b7 σ H s->fX x v->fX y u->r x y H Q ->
  ou slice false v u=operate [v,u] (gb v u)->wpAny (model X.prog X.w) X.A (wm value slice v u) (EP X b7 σ Q) X.xe s
def MtR(X:Cx)(id:String)(r:V->List V->Hp->VK->Prop):Prop:=
 ∀b7 s σ H(x:V)(xs:List V)(v:Value)(us:List Value)Q,dS X b7 σ H s->fX x v->gE xs us->r x xs H Q ->
  wpAny (model X.prog X.w) X.A (call (.builtin id) (v::us)) (EP X b7 σ Q) X.xe s
section
variable{X:Cx}{a b:Expr}{ta tb:TE}{pos:Pos}
def XT.or{r r':R2}(h:XT X r)(h':XT X r'):XT X (λx y H Q=>r x y H Q\/r' x y H Q):=by
 intro value slice b7 s σ H x y v u Q I rx ry q hs;rcases q with q | q
 ·exact h value slice b7 s σ H x y v u Q I rx ry q hs
 ·exact h' value slice b7 s σ H x y v u Q I rx ry q hs
def OD{r}(hr:XT X r)(ha:PE X a ta)(hb:PE X b tb)(hs:yH b):PE X (.Subscript a b pos) (tOp r ta tb):=by
 intro b7 s σ H Q I h;exact Do (aGl ha hb I h λv u s2 x y H2 I2 rx ry q=>hr a b b7 s2 σ H2 x y v u Q I2 rx ry q (hs _ _))
def aJl(K:aI):R2:=λx y H Q=>∃p xs i v,x=.ref p/\y=.int i/\mN K H p xs/\atI xs i=some v/\Q v H
def aJj(K:aI):R2:=λx y H Q=>∃p xs i v,x=.ref p/\y=.int i/\vL K H p xs/\atI xs i=some v/\Q v H
def aJk:R2:=λx y H Q=>∃z i c,x=.str z/\y=.int i/\z.length<=bM/\atI z.cps.toList i=some c/\Q (.str ⟨#[c]⟩) H
def aAe:XT X (aJl X.K):=by
 intro value slice b7 s σ H x y v u Q I rx ry h hs;obtain⟨p,xs,i,z,rfl,rfl,hq,he,q⟩:=h;cases rx;obtain⟨t,rfl⟩:=ry;obtain⟨its,r,pl,hz⟩:=I.list hq;obtain⟨j,h1,h2,h3,h4,h5⟩:=G7 he;obtain⟨w,ew,ny⟩:=r.get h2;have hl:=r.length;have hn:=B7;have fin:EP X b7 σ Q w s:=⟨z,H,I,ny,q⟩;by_cases h0:0<=i
 ·have hj:i.toNat=j:=by
   rw[seqIndex_of h0 h5]at h1;exact e9 h1
  exact item_listR pl.isList h0 (by omega) (by rw[hj];simpa using ew) fin hs
 ·have hj:(i+(its.toArray.size:Int)).toNat=j:=by
   rw[seqIndex_neg (by omega) h4]at h1;rw[bO,<- hl];exact e9 h1
  exact yl (x:=w) pl.isList.typeIs slot_list_getitem.lookup
   (wpAny_getItem_list_neg (Q:=λr s'=>r=w/\EP X b7 σ Q r s') pl.isList (by omega) (by rw[bO]<;>omega) (by omega) (by rw[hj];simpa using ew) ⟨rfl,fin⟩) hs
def aFt:XT X (aJj X.K):=by
 intro value slice b7 s σ H x y v u Q I rx ry h hs;obtain⟨p,xs,i,z,rfl,rfl,hq,he,q⟩:=h;cases rx;obtain⟨t,rfl⟩:=ry;obtain⟨its,r,pl,hz⟩:=I.tuple hq;obtain⟨j,h1,h2,h3,h4,h5⟩:=G7 he;obtain⟨w,ew,ny⟩:=r.get h2;have hl:=r.length;have hn:=B7;have fin:EP X b7 σ Q w s:=⟨z,H,I,ny,q⟩
 exact yl (x:=w) pl.typeIs slot_tuple_getitem.lookup
  (getItem_tuple (j:=j) (Q:=λr s'=>r=w/\EP X b7 σ Q r s') pl (by omega) (by omega) (by rw[bO,<- hl];exact h1) (by simpa using ew) ⟨rfl,fin⟩) hs
def aFu:XT X aJk:=by
 intro value slice b7 s σ H x y v u Q I rx ry h hs;obtain⟨z,i,c,rfl,rfl,hz,he,q⟩:=h;obtain⟨t,rfl⟩:=rx;obtain⟨t',rfl⟩:=ry;obtain⟨j,h1,h2,h3,h4,h5⟩:=G7 he;have hl:z.cps.toList.length=z.length:=by simp[jf]
 rw[hl]at h1 h4 h5;have hn:=B7
 exact tail_any (Fb s z t) slot_str_getitem.lookup (getItem_str (c:=c) (by
  have e1:decide (i < -(2^63:Int))=false:=f9 (by omega);have e2:decide (i>=2^63)=false:=f9 (by omega);rw[e1,e2,HN]) (by rw[h1];simpa using h2) ⟨.str ⟨#[c]⟩,H,I.tok _,⟨_,rfl⟩,q⟩) hs
def rIx(K:aI):R2:=λx y H Q=>aJl K x y H Q\/aJj K x y H Q\/aJk x y H Q
def bY:XT X (rIx X.K):=aAe.or (aFt.or aFu)
def FZ(lo hi:Option Int)(n:Nat):(ez lo hi none n).1=((HT.sIx n 0 lo:Nat):Int)/\(ez lo hi none n).2.1=((HT.sIx n n hi:Nat):Int)/\(ez lo hi none n).2.2=1:=by
 refine⟨?_,?_,rfl⟩
 ·cases lo with
  |none=>simp[ez,HT.sIx]
  |some i=>
   simp only[ez,HT.sIx,SR,show(1:Int)>0 by decide,ef];by_cases h:i<0
   ·simp only[h,ef]<;>omega
   ·simp only[h,p8]<;>omega
 ·cases hi with
  |none=>simp[ez,HT.sIx]
  |some i=>
   simp only[ez,HT.sIx,SR,show(1:Int)>0 by decide,ef];by_cases h:i<0
   ·simp only[h,ef]<;>omega
   ·simp only[h,p8]<;>omega
def DN(its:List Value)(lo hi:Option Int):slicePick its.toArray lo hi none=((its.drop (HT.sIx its.length 0 lo)).take (HT.sIx its.length its.length hi-HT.sIx its.length 0 lo)).toArray:=by
 obtain⟨h1,h2,h3⟩:=FZ lo hi its.toArray.size;unfold slicePick;rw[h1,h2,h3];simp only[sliceRange_one,pick_run,bO]<;>rfl
def aJi(K:aI):V->Option Int->Option Int->Hp->VK->Prop:=λx lo hi H Q=>∃a xs,x=.ref a/\mN K H a xs/\∀p,H p=none->Q (.ref p) (fM H p (.lst (GW xs lo hi)))
def YT:XN X (aJi X.K):=by
 intro b7 s σ H x v vl vu lo hi sl Q I rx hs pl pu h;obtain⟨a,xs,rfl,hx,q⟩:=h;cases rx;obtain⟨its,r,ht,hz⟩:=I.list hx;have o8:=r.length;refine⟨"list",_,slot_list_getitem.lookup,ht.isList.typeIs,?_⟩;refine wpAny_getItem_list_slice ht.isList hs pl pu .none (by simp) ?_ (by rw[bO]<;>omega);rw[DN,<- o8];refine⟨.ref s.heap.objs.size,_,I.laid (t':=s.toks) (o:=.lst (GW xs lo hi)) (λb ob q=>aK _ q) (aL _) ?_,rfl,q _ (I.hok.fresh (aL _))⟩;exact⟨dG (zT xs lo hi) hz,_,0,(r.drop (HT.sIx xs.length 0 lo)).take (HT.sIx xs.length xs.length hi-HT.sIx xs.length 0 lo),aW _ rfl⟩
def G4:kB X (.builtin "len") (λxs H Q=>∃p ys,xs=[.ref p]/\(mN X.K H p ys\/vL X.K H p ys)/\Q (.int ys.length) H):=by
 intro b7 s σ H xs us Q I r h;obtain⟨p,ys,rfl,hq,q⟩:=h;obtain⟨u,rfl,rx⟩:=nX r;cases rx;have hn:=B7;rcases hq with hq | hq
 ·obtain⟨its,r',pl,hz⟩:=I.list hq;have o8:=r'.length;exact Calls.call_len_list pl.isList (by simp only[bO]<;>omega) ⟨.int ys.length,H,I.tok _,⟨s.toks+1,by rw[bO,o8]⟩,q⟩
 ·obtain⟨its,r',pl,hz⟩:=I.tuple hq;have o8:=r'.length;exact len_tuple pl (by simp only[bO]<;>omega) ⟨.int ys.length,H,I.tok _,⟨s.toks+1,by rw[bO,o8]⟩,q⟩
def G0:kB X (.builtin "len") (λxs H Q=>∃z,xs=[.str z]/\z.length<=bM/\Q (.int z.length) H):=by
 intro b7 s σ H xs us Q I r h;obtain⟨z,rfl,hz,q⟩:=h;obtain⟨u,rfl,t,rfl⟩:=nX r;have hn:=B7;exact len_str (by omega) ⟨.int z.length,H,I.tok _,⟨_,rfl⟩,q⟩
def kB.or{f}{r r':List V->Hp->VK->Prop}(h:kB X f r)(h':kB X f r'):kB X f (λxs H Q=>r xs H Q\/r' xs H Q):=by
 intro b7 s σ H xs us Q I rs q;rcases q with q | q
 ·exact h b7 s σ H xs us Q I rs q
 ·exact h' b7 s σ H xs us Q I rs q
def sK:kB X (.type "list") (λxs H Q=>∃p ys,xs=[.ref p]/\(mN X.K H p ys\/vL X.K H p ys)/\∀l,H l=none->Q (.ref l) (fM H l (.lst ys))):=by
 intro b7 s σ H xs us Q I r h;obtain⟨p,ys,rfl,hq,q⟩:=h;obtain⟨u,rfl,rx⟩:=nX r;cases rx
 have fin:∀(its:List Value),gE ys its->ys.length<=bM->∀(h':Heap)(c':Nat),(∀b o',s.heap.get? b=some o'->h'.get? b=some o') ->
   h'.get? s.heap.objs.size=some { cls:=.type "list",dict:=none,data:=.seq its.toArray c',slots:=#[] }->EP X b7 σ Q (.ref s.heap.objs.size) { s with heap:=h' }:=λits r' hz h' c' kp e=>
  ⟨.ref s.heap.objs.size,_,I.laid (t':=s.toks) kp (aL _) (show iE X.prog X.w _ h' _ (.lst ys)from⟨hz,its,c',r',e⟩),rfl,q _ (I.hok.fresh (aL _))⟩
 rcases hq with hq | hq
 ·obtain⟨its,r',pl,hz⟩:=I.list hq;have o8:=r'.length;obtain⟨o,ho,hc,n,hd⟩:=pl.isList;exact call_list_seq p (.inl rfl) ho hc hd (λh' c' kp e=>fin its r' hz h' c' kp e) (by simp only[bO]<;>omega)
 ·obtain⟨its,r',pl,hz⟩:=I.tuple hq;have o8:=r'.length;obtain⟨o,ho,hc,n,hd⟩:=pl;exact call_list_seq p (.inr rfl) ho hc hd (λh' c' kp e=>fin its r' hz h' c' kp e) (by simp only[bO]<;>omega)
def kY:kB X (.type "tuple") (λxs H Q=>∃p ys,xs=[.ref p]/\((mN X.K H p ys/\∀l,H l=none->Q (.ref l) (fM H l (.tup ys)))\/(vL X.K H p ys/\Q (.ref p) H))):=by
 intro b7 s σ H xs us Q I r h;obtain⟨p,ys,rfl,h⟩:=h;obtain⟨u,rfl,rx⟩:=nX r;cases rx;rcases h with⟨hq,q⟩ | ⟨hq,q⟩
 ·obtain⟨its,r',pl,hz⟩:=I.list hq;have o8:=r'.length;refine call_tuple_list pl.isList (λh' kp=>?_) (by simp only[bO]<;>omega);have I1:dS X b7 σ H { s with heap:=h' }:=I.kept (t':=s.toks) kp
  have I2:dS X b7 σ (fM H h'.objs.size (.tup ys)) { s with heap:=h'.push { cls:=.type "tuple",data:=.seq its.toArray } }:=
   I1.laid (t':=s.toks) (λb o e=>aK _ e) (aL _) (show iE X.prog X.w _ _ _ (.tup ys)from⟨hz,its,r',CY.new _ _⟩)
  exact⟨.ref h'.objs.size,_,I2,rfl,q _ (I1.hok.fresh (aL _))⟩
 ·obtain⟨its,r',pl,hz⟩:=I.tuple hq;exact call_tuple_same pl ⟨.ref p,H,I,rfl,q⟩
def tyV(K:aI)(T:String)(x:V)(H:Hp):Prop:=match x with
|.str _=>T="str"
|.int _=>T="int"
|.ref p=>(T="list"/\∃xs,mN K H p xs)\/(T="tuple"/\((∃o,K.lookup p=some o/\o.cls=.type "tuple"/\o.dict=none)\/∃xs,vL K H p xs)) \/
  (T="dict"/\((∃kvs,H p=some (.dK kvs))\/∃kvs,H p=some (.dT kvs)))\/(T="set"/\∃S n,H p=some (.set S n))
|_=>False
def aDy{b7 σ H}{s:Shared}{T x v}(I:dS X b7 σ H s)(r:fX x v)(ty:tyV X.K T x H) :
  s.TypeIs v T/\∀a,v=.ref a->∃ob,s.heap.get? a=some ob/\ob.dict=none:=by
 cases x with
 |str z=>
  obtain⟨t,rfl⟩:=r;cases (show T="str" from ty);exact⟨Fb s z t,λ_ e=>nomatch e⟩
 |int i=>
  obtain⟨t,rfl⟩:=r;cases (show T="int" from ty);exact⟨typeIs_int s i t,λ_ e=>nomatch e⟩
 |ref p=>
  cases r;rcases ty with⟨rfl,xs,hq⟩ | ⟨rfl,⟨o,hk,hc,hd⟩ | ⟨xs,hq⟩⟩ | ⟨rfl,hk⟩ | ⟨rfl,S,n,hk⟩
  ·obtain⟨its,_,pl,_⟩:=I.list hq;refine⟨pl.isList.typeIs,λa e=>?_⟩;cases e;obtain⟨o,n,e,c,hd,_⟩:=pl;exact⟨o,e,hd⟩
  ·refine⟨⟨o,I.kIn p o hk,hc⟩,λa e=>?_⟩;cases e;exact⟨o,I.kIn _ o hk,hd⟩
  ·obtain⟨o,e,hc,hd⟩:=I.tupleN hq;refine⟨⟨o,e,hc⟩,λa e2=>?_⟩;cases e2;exact⟨o,e,hd⟩
  ·have z:∃o,s.heap.get? p=some o/\o.ExactDict:=by
    rcases hk with⟨kvs,hk⟩ | ⟨kvs,hk⟩
    ·obtain⟨_,_,_,_,o,_,_,e,ex,_⟩:=I.hok p _ hk;exact⟨o,e,ex⟩
    ·obtain⟨_,_,_,_,o,_,_,e,ex,_⟩:=I.hok p _ hk;exact⟨o,e,ex⟩
   obtain⟨o,e,ex⟩:=z;refine⟨⟨o,e,ex.1⟩,λa e2=>?_⟩;cases e2;exact⟨o,e,ex.2.1⟩
  ·obtain⟨o,_,_,_,e,ex,_⟩:=I.hok p _ hk;refine⟨⟨o,e,ex.1⟩,λa e2=>?_⟩;cases e2;exact⟨o,e,ex.2.1⟩
 |_=>exact j9 ty
def tBM(K:aI)(T:String)(r:V->List V->Hp->VK->Prop)(to:TE)(t:TA):TE:=λσ H Q=>to σ H λx H1=>tyV K T x H1/\t σ H1 λxs H2=>r x xs H2 Q
variable{o e:Expr}{es:List Expr}{to:TE}{t:TA}{name:Str}{ic cu:Pos}{T id:String}{r:V->List V->Hp->VK->Prop}
def oN(pa:PlainAttrs T)(slot:Slot T name id)(Vi:typeOf (.builtin id)=pure (.type "method_descriptor"))(hm:MtR X id r)(ho:PE X o to)(ha:PA X (e::es) t)
  (kq:bb o name X.env (eval o X.env)=eval o X.env:=by rfl)
  (Dz:((w6 cu (bS (e::es) X.env)).all (λx=>!x.1)&&(backToKw cu (Ci [] X.env)).all (λx=>x.1.isSome)
  &&decide ((e::es).length+([]:List Fg).length+(if([]:List Fg).isEmpty then 0 else 1)<30))=true:=by rfl)
  (kr:(ic.endLine==cu.line)=true:=by rfl) (hs:bS (e::es) X.env=(false,eval e X.env)::bS es X.env:=by rfl) (si:(w6 cu (bS es X.env)).any (·.1)=false:=by rfl) :
  PE X (.Call (.Attribute o name ic) (e::es) [] cu) (tBM X.K T r to t):=by
 intro b7 s σ H Q I h;refine ym kq Dz kr rfl (iZ (ho b7 s σ H _ I h) λv s1 zq=>?_);obtain⟨x,H1,I1,r1,ty,q1⟩:=zq;obtain⟨h1,h2⟩:=aDy I1 r1 ty;refine⟨T,id,pa,slot,Vi,h1,h2,?_⟩;have hA:=ha cu b7 s1 σ H1 _ I1 q1;rw[hs]at hA |-
 refine fx (by show(false||(w6 cu (bS es X.env)).any (·.1))=false;rw[si]<;>rfl) (gq ?_);exact iZ hA λus s2 ⟨vs,H2,I2,r2,q2⟩=>hm b7 s2 σ H2 x vs v us Q I2 r1 r2 q2
end
def MtM(X:Cx)(id:String)(r:V->List V->Hp->VK->Prop):Prop:=
 ∀b7 s σ H(x:V)(xs:List V)(v:Value)(us:List Value)Q,dS X b7 σ H s->fX x v->gE xs us->r x xs H Q ->
  wpAny (model X.prog X.w) X.A (call (.builtin id) (v::us)) (EP X b7 σ Q) X.xe s
def gE.one:∀{x us},gE [x] us->∃u,us=[u]/\fX x u
|_,_,.cons r .nil=>⟨_,rfl,r⟩
section
variable{X:Cx}{b7:List (Addr×Obj)}{σ:St}{H:Hp}{s:Shared}{l:Addr}{xs ys:List V}
def dS.lset{its its':List Value}{n:Nat}{f:Array Value->Array Value}{t':Nat}(I:dS X b7 σ H s)(hH:H l=some (.lst xs))
  (e:s.heap.get? l=some { cls:=.type "list",data:=.seq its.toArray n }) (hf:f its.toArray=its'.toArray) (hv:gE ys its') (hz:ys.length<=bM) :
  dS X b7 σ (fM H l (.lst ys)) { s with heap:=s.heap.update l (fe f),toks:=t' }:=by
 have q:=PySem.IsL.update e f;rw[hf]at q;refine I.write (x:=l) (e:=l) (by rw[hH];exact trivial) (.inl rfl) (λb' u hb hu=>(eQ s.heap (fe f) (l8 hb)).trans hu) ⟨_,q⟩ ?_;exact⟨hz,its',_,hv,q⟩
def dS.lnew{its:List Value}{t':Nat}(I:dS X b7 σ H s)(hv:gE ys its)(hz:ys.length<=bM) :
  dS X b7 σ (fM H s.heap.objs.size (.lst ys)) { s with heap:=s.heap.push { cls:=.type "list",data:=.seq its.toArray },toks:=t' }:=
 I.laid (λ_ _ q=>aK _ q) (aL _) ⟨hz,its,0,hv,aW _ rfl⟩
theorem dS.fresh(I:dS X b7 σ H s):H s.heap.objs.size=none:=I.hok.fresh (aL _)
def dS.lstM(I:dS X b7 σ H s)(hH:H l=some (.lst xs)):xs.length<=bM/\∃(its:List Value)(n:Nat),gE xs its/\xs.length=its.length/\s.heap.get? l=some { cls:=.type "list",data:=.seq its.toArray n }:=by
 obtain⟨z,its,n,r,e⟩:=I.hok l _ hH;exact⟨z,its,n,r,r.length,e⟩
def U6{n:Nat}(h:n<=bM):y7 n=false:=by
 unfold y7;exact f9 (by omega)
end
section
variable{X:Cx}
def N6:V->List V->Hp->VK->Prop:=λx vs H Q=>∃l xs y,x=.ref l/\vs=[y]/\H l=some (.lst xs)/\xs.length<bM/\Q .non (fM H l (.lst (xs++[y])))
def nS:MtM X "list.append" N6:=by
 intro b7 s σ H x vs v us Q I rx rv h;obtain⟨l,xs,y,rfl,rfl,hH,hz,q⟩:=h;cases rx;obtain⟨u,rfl,ru⟩:=rv.one;obtain⟨z,its,n,r,hl,e⟩:=I.lstM hH;refine ki F.slot_list_append ⟨_,e,rfl⟩ F.entry_list_append (F.args_list_append_2 _ _) (PySem.list_append l its.toArray n u (by rw[bO];omega)) ⟨e,?_⟩;refine⟨.non,_,I.lset (its':=its++[u]) hH e (by simp) (r.append (.cons ru .nil)) ?_,rfl,q⟩;rw[bC,oF];omega
end
end L2
namespace Att
open PySem.W PySem.Calls
def AJ{P h}:∀(ns:List Int)(vs:List Value),WellAll P h vs (ns.map WData.int)->IntsAre vs ns:=by
 intro ns
 induction ns with
 |nil=>
  intro vs w;rw[lA]at w;cases w;exact .nil
 |cons n ns ih=>
  intro vs w;rw[bD]at w
  cases w with
  |cons a b=>
   cases a;exact .cons _ _ (ih _ b)
def QJ{l:OpenLaw}{n:Nat}(hn:l.most=some n){P}{h:Heap}{args vals}
  (pp:l.row.toRowW.claim.pre args=true) (Nf:WellAll P h vals args) :
  ∃a vs ns,vals=[e8 a]/\args=[WData.list (ns.map WData.int)]/\h.get? a=some { cls:=.type "list",data:=.seq vs.toArray }/\IntsAre vs ns/\ns.length<=n:=by
 have hsh:WShape.hasAll [] args [.list .int]=true:=(pre_splitW pp).1;have hc:l.pre.holds [] { args:=args }=true:=(pre_splitW pp).2;obtain⟨d,r,rfl,h1,h2⟩:=hasAllW_cons hsh;obtain rfl:=hasAllW_nil h2;obtain⟨xs,rfl,h3⟩:=hasW_list h1;obtain⟨ns,rfl⟩:=items_int h3
 have o8:ns.length<=n:=by
  unfold OpenLaw.pre at hc
  have h4:(WTm.not (.lt (.lit (.int (n:Int))) (.len (.arg 0)))).holds [] { args:=[.list (ns.map .int)] }=true:=by
   have h4:=(holds_andW hc).1;rw[hn]at h4;exact h4
  have h5:=condW_of h4 (w_not (w_lt w_lit (w_len_list (w_arg rfl))));rw[aB]at h5;refine DB λq=>?_;have q':(n:Int)<((ns.length:Nat):Int):=by omega
  first
   | (rw[d7 q']at h5;exact d8 h5 (by decide))
   | (simp at h5;omega)
 cases Nf with
 |cons w1 w2=>
  cases w2
  cases w1 with
  |list ho bj=>exact⟨_,_,ns,rfl,rfl,ho,AJ ns _ bj,o8⟩
def QP(l:OpenLaw)(args:List WData):l.row.toRowW.claim.post args (.bool true) args=true:=
 postW_of (r:=l.row.toRowW) (X:=(true==true))
  (show WShape.has [] (.bool true) .bool=true by first | rfl | decide | simp[WShape.has,WShape.arms,WShape.armsAll])
  (show(WTm.eq .res (.lit (.bool true))).value [] { args:=args,res:=some (.bool true),after:=args }=some (.bool (true==true))from w_eq_bool (w_res rfl) w_lit) rfl
def attach_call{l:OpenLaw}{n:Nat}{q loose}{XP:(Str->Option Value)->Heap->Prop}{YP:g7->Heap->Prop}{d:DefRec}
  (hn:l.most=some n) (Hg:d.params.defaults=[])
  (call:∀(w:g7)(s₀ s₁:Shared)(mg mb:Str->Option Value)(fa:Addr)(o:Obj)(pm cd mw:Value)(a:Addr)(vs:List Value)(ns:List Int),
   Ground q loose [] XP w s₀ mg mb s₁.heap->YP w s₁.heap ->
   s₁.heap.get? fa=some o->o.data=.func (docDef d.name d.params d.body d.scope pm cd mw)->s₁.heap.CodeRec cd d.name->mg d.name=some (.ref fa) ->
   s₁.heap.get? a=some { cls:=.type "list",data:=.seq vs.toArray }->IntsAre vs ns->ns.length<=n->s₁.gens=#[] ->
   dz (model l.prog w) lq (.call (.ref fa) ⟨[.ref a],[]⟩) (λr s'=>r=.ok (.ret (.bool true))/\OldK s₁.heap s'.heap/\s'.os=s₁.os/\fz s'.gens) s₁) :
  WalkO q loose XP YP l.row.toRowW d [] (λf vs=>uq f vs):=by
 intro w s₀ s₁ mg mb G Y fa o pm cd mw dV kV ho hd my hD Hx hg args vals as pp Ug Xt Nf Pj;obtain rfl:dV=.none:=Dflts.none hD Hg;obtain rfl:kV=.none:=Dflts.noKw hD;obtain⟨a,vs,ns,rfl,rfl,Eh,xp,o8⟩:=QJ hn pp Nf;refine enter_call (aj (call w s₀ s₁ mg mb fa o pm cd mw a vs ns G Y ho (fd_plain hd) my Hx Eh xp o8 hg) λr s' hq=>?_);obtain⟨rfl,h2,h3,h4⟩:=hq;exact⟨.inl ⟨.bool true,.bool true,[],rfl,λ_=>rfl,.bool true,QP l _,λ_=>⟨jB.nil,λ_ hm=>(nomatch hm)⟩⟩,h2,h3,h4⟩
end Att
namespace L2
theorem D9:∀{vs}{ns:List Int},IntsAre vs ns->gE (ns.map V.int) vs
|_,_,.nil=>.nil
|_,_,.cons n t h=>.cons ⟨t,rfl⟩ (D9 h)
def aGx(H:Hp):Prop:=∀b,H b=none\/(∃o xs,H b=some (.frz o (.lst xs)))\/(tabA=some b/\∃ps,H b=some (.tbl ps))
def VU{P w}{K:aI}{mg mb:Str->Option Value}{CX:XV}{k:Nat}{fa a:Addr}{fd}{x:Str}{sp:Sp}{s₁:Shared}{vs:List Value}{ns:List Int}
  (KX:K.In s₁.heap) (cg:s₁.heap.Ns eW mg) (hb:s₁.heap.Ns dw mb) (Sr:∀x:Str,x≠"__name__"->mb x=i0 x) (Mi:s₁.heap.NoLimit) (hg:s₁.gens=#[])
  (ha:s₁.heap.get? a=some { cls:=.type "list",data:=.seq vs.toArray }) (hi:IntsAre vs ns) (hl:ns.length<=bM) (hr:Room k lq)
  (Ss:∃bm o,mg "__builtins__"=some (.ref bm)/\bm≠dw/\s₁.heap.get? bm=some o/\o.cls=.type "module"/\o.dict=some dw/\o.data=.plain)
  (hT:∀P,tabA=some P->s₁.heap.get? P=some { cls:=.none,data:=.fields #[] }/\K.lookup P=none/\ot s₁.heap P)
  (F:∀base:Heap,K.In base->base.Ns eW mg->eK P w K mg base CX k fa fd [x] sp) (Hd:∀s(u:Value),BindsTo s fd ⟨[u],[]⟩ [(x,u)])
  (Di:∀H:Hp,aGx H->mN K H a (ns.map V.int)->sp [.ref a] H (λv _=>v=.bl true) λ_ _ _=>False)
  (Lc:∀H e s',CX [] H s₁ (λ_ _ _=>False) e s'->False) :
  dz (model P w) lq (.call (.ref fa) ⟨[.ref a],[]⟩) (λr s'=>r=.ok (.ret (.bool true))/\OldK s₁.heap s'.heap/\s'.os=s₁.os/\fz s'.gens) s₁:=by
 have rv:=D9 hi;have No:=hi.length
 have aT:∀P,tabA=some P->P≠a:=λP e z=>by
  have h1:=(hT P e).1;rw[z,ha]at h1;cases h1
 have Gr:∀H:Hp,aGx H->mN K H a (ns.map V.int)->rF P w H s₁.heap->(∀b,H b≠none->b=a\/tabA=some b)->(H a≠none->K.lookup a=none)->Tb H ->
   dz (model P w) lq (.call (.ref fa) ⟨[.ref a],[]⟩) (λr s'=>r=.ok (.ret (.bool true))/\OldK s₁.heap s'.heap/\s'.os=s₁.os/\fz s'.gens) s₁:=by
  intro H hO hS hok hA hK Sn;have mv:∀{b:Addr}{o:Obj},s₁.heap.get? b=some o->H b=none->(GN s₁.heap H).get? b=some o:=λe n=>WG e n
  have Iv:∀{b:Addr}{o:Obj}{es:Array u8}{ep:Nat},s₁.heap.get? b=some o->o.data=.dict es ep->H b=none:=λ{b o es ep} e d=>by
   cases q:H b with
   |none=>rfl
   |some u=>
    rcases hA b (by rw[q];simp)with e' | e'
    ·subst e';rw[ha]at e;cases e;have d':Data.seq vs.toArray _=Data.dict es ep:=d;cases d'
    ·rw[(hT b e').1]at e;cases e;have d':kh #[]=Data.dict es ep:=d;cases d'
  have Wb:∀{b:Addr}{o:Obj},s₁.heap.get? b=some o->o.data=.plain->H b=none:=λ{b o} e d=>by
   cases q:H b with
   |none=>rfl
   |some u=>
    rcases hA b (by rw[q];simp)with e' | e'
    ·subst e';rw[ha]at e;cases e;have d':Data.seq vs.toArray _=Data.plain:=d;cases d'
    ·rw[(hT b e').1]at e;cases e;have d':kh #[]=Data.plain:=d;cases d'
  have Kq:∀{b:Addr}{m:Str->Option Value},s₁.heap.Ns b m->(GN s₁.heap H).Ns b m:=λ{b m} ⟨o,es,ep,e,d,r⟩=>⟨o,es,ep,mv e (Iv e d),d,r⟩
  have Om:K.In (GN s₁.heap H):=λb o e=>mv (KX b o e) (by
   cases q:H b with
   |none=>rfl
   |some u=>
    rcases hA b (by rw[q];simp)with e' | e'
    ·subst e';rw[hK (by rw[q];simp)]at e;cases e
    ·rw[(hT b e').2.1]at e;cases e)
  have hM:Mod K mg (GN s₁.heap H):=⟨Om,Kq cg,⟨mb,Kq hb,Sr⟩,let ⟨mc,h1,h2⟩:=Mi;⟨mc,Kq h1,h2⟩,let ⟨bm,o,b1,b2,b3,b4,b5,b6⟩:=Ss;⟨bm,o,b1,b2,mv b3 (Wb b3 b6),b4,b5,b6⟩⟩;have e0:M7 P w K mg (GN s₁.heap H) lq [] s₁ H:=⟨rfl,hM,λb o e=>ZT e,nU (RM _ _),trivial,λb hb=>d8 (show b∈([]:List Addr)from hb) (by simp),hok,.of_eq hg,Sn⟩;refine aj ((F _ Om (Kq cg)).run lq [] s₁ H ⟨[.ref a],[]⟩ [.ref a] [.ref a] _ _ hr e0 (Hd s₁ (.ref a)) (.cons rfl .nil) (Di H hO hS)) λr s' h=>?_
  cases r with
  |error e=>exact(Lc H e s' h).elim
  |ok fl=>
   cases fl with
   |next=>exact j9 h
   |brk=>exact j9 h
   |cont=>exact j9 h
   |ret u=>
    obtain⟨v,H',os,bare,un,xw,r',q⟩:=h;have q':v=.bl true:=q;subst q';obtain rfl:u=z4 true:=r'
    have old:∀b o,s₁.heap.get? b=some o->s'.heap.get? b=some o\/(ot s₁.heap b/\o={ cls:=.none,data:=.fields #[] }/\∃qs:Array Value,s'.heap.get? b=some { cls:=.none,data:=.fields qs }):=λb o e=>by
     cases q:H b with
     |none=>exact .inl (un.keep b o e q (by intro z;exact d8 (show b∈([]:List Addr)from z) (by simp)) (by simp))
     |some u=>
      rcases hO b with z | ⟨ob,xs,z⟩ | ⟨t,ps,z⟩
      ·rw[q]at z;cases z
      ·have z2:=un.frzs b ob _ z;obtain⟨e1,_⟩:=hok b _ z;obtain⟨e2,_⟩:=xw b _ z2;rw[e]at e1;cases e1;exact .inl e2
      ·obtain⟨h1,h2,h3⟩:=hT b t;obtain⟨m,z2⟩:=un.tbls b ps z;obtain⟨qs,e2,_⟩:=xw b _ z2;rw[e]at h1;cases h1;exact .inr ⟨h3,rfl,qs,e2⟩
    refine⟨rfl,⟨λb o e=>?_,λb o e=>?_⟩,os,bare⟩
    ·rcases old b o e with h1 | ⟨h1,rfl,qs,h2⟩
     ·exact .inl h1
     ·exact .inr (.inl ⟨h1,rfl,#[],qs,rfl,by rw[h2];simp⟩)
    ·rcases old b o e with h1 | ⟨h1,rfl,qs,h2⟩
     ·exact⟨_,h1⟩
     ·exact⟨_,h2⟩
 have dT:∀b,Decidable (tabA=some b):=λb=>inferInstance
 cases hk:K.lookup a with
 |some o=>
  have e:=KX a o hk;rw[ha]at e;cases e;refine Gr (λb=>if tabA=some b then some (.tbl #[])else none) (λb=>?_) (.inr ⟨_,vs.toArray,_,hk,rfl,rfl,rfl,by rw[bO,No];exact hl,by simpa using rv⟩) (λb u z=>?_) (λb z=>?_) (λz=>?_) λP e=>⟨#[],b9 e⟩
  ·by_cases hb:tabA=some b
   ·exact .inr (.inr ⟨hb,#[],b9 hb⟩)
   ·exact .inl (b8 hb)
  ·by_cases hb:tabA=some b
   ·have z':=(b9 hb).symm.trans z;cases z';exact⟨#[],(hT b hb).1,trivial,λp c q=>by cases q⟩
   ·have z':=(b8 hb).symm.trans z;cases z'
  ·by_cases hb:tabA=some b
   ·exact .inr hb
   ·exact d8 (b8 hb) z
  ·exact d8 (b8 λe=>aT a e rfl) z
 |none=>
  refine Gr (λb=>if tabA=some b then some (.tbl #[])else if b=a then some (.frz { cls:=.type "list",data:=.seq vs.toArray } (.lst (ns.map V.int)))else none) (λb=>?_) (.inl (.inr ⟨{ cls:=.type "list",data:=.seq vs.toArray },(b8 λe=>aT a e rfl).trans (b9 rfl)⟩)) (λb u z=>?_) (λb z=>?_) (λ_=>hk) λP e=>⟨#[],b9 e⟩
  ·by_cases li:tabA=some b
   ·exact .inr (.inr ⟨li,#[],b9 li⟩)
   ·by_cases hb:b=a
    ·exact .inr (.inl ⟨_,_,(b8 li).trans (b9 hb)⟩)
    ·exact .inl ((b8 li).trans (b8 hb))
  ·by_cases li:tabA=some b
   ·have z':=(b9 li).symm.trans z;cases z';exact⟨#[],(hT b li).1,trivial,λp c q=>by cases q⟩
   ·by_cases hb:b=a
    ·have z':=((b8 li).trans (b9 hb)).symm.trans z;cases z';subst hb;exact⟨ha,by rw[aB];exact hl,vs,_,rv,ha⟩
    ·have z':=((b8 li).trans (b8 hb)).symm.trans z;cases z'
  ·by_cases li:tabA=some b
   ·exact .inr li
   ·by_cases hb:b=a
    ·exact .inl hb
    ·exact d8 ((b8 li).trans (b8 hb)) z
def X6{l:jo}{n k:Nat}{q loose}{XP:(Str->Option Value)->Heap->Prop}{YP:g7->Heap->Prop}{d:DefRec}{K:Params->aI}{CX:g7->XV}{sp:g7->Sp}{x}
  (hn:l.most=some n) (Dd:n<=bM) (Hg:d.params.defaults=[]) (hr:Room k lq)
  (hY:∀(w:g7)(h:Heap),YP w h->(K w.params).In h) (hT:∀(w:g7)(h:Heap),YP w h->∀P,tabA=some P->h.get? P=some { cls:=.none,data:=.fields #[] }/\(K w.params).lookup P=none/\ot h P)
  (F:∀(w:g7)(mg:Str->Option Value)(fa:Addr)(h:Heap),(K w.params).In h->h.Ns eW mg->mg d.name=some (.ref fa) ->
   ∃fd:kF,(∀s(u:Value),BindsTo s fd ⟨[u],[]⟩ [(x,u)]) /\
    ∀base:Heap,(K w.params).In base->base.Ns eW mg->eK l.prog w (K w.params) mg base (CX w) k fa fd [x] (sp w))
  (Di:∀(w:g7)H(a:Addr)(ns:List Int),ns.length<=n->aGx H->mN (K w.params) H a (ns.map V.int)->sp w [.ref a] H (λv _=>v=.bl true) λ_ _ _=>False)
  (Lc:∀(w:g7)H s(e:Value)s',CX w [] H s (λ_ _ _=>False) e s'->False) :
  X2 q loose XP YP l.row.toRowW d [] (λf vs=>uq f vs):=by
 refine Att.attach_call hn Hg λw s₀ s₁ mg mb fa o pm cd mw a vs ns G Y ho hd my Hx Eh xp o8 hg=>?_;have KX:=hY w _ Y;obtain⟨fd,hb,hF⟩:=F w mg fa _ KX G.T.g Hx;exact VU KX G.T.g G.T.b G.T.builtins G.T.nolimit hg Eh xp (dG o8 Dd) hr G.T.bmain (hT w _ Y) hF hb (λH hO hS=>Di w H a ns o8 hO hS) λH e s'=>Lc w H s₁ e s'
noncomputable def yC(s:Stmt):Arguments:=match s with
|.FunctionDef _ a _ _ _ _ _ _ _ _=>a
|_=>{ posonlyargs:=[],args:=[],vararg:=none,kwonlyargs:=[],kw_defaults:=[],kwarg:=none,defaults:=[] }
noncomputable def mJ(s:Stmt):List Stmt:=match s with
|.FunctionDef _ _ b _ _ _ _ _ _ _=>b
|_=>[]
noncomputable def bQ(s:Stmt):Scope:=match s with
|.FunctionDef _ _ _ _ _ _ sc _ _ _=>sc
|_=>{ kind:=.function,names:=[],isGenerator:=false,isCoroutine:=false }
abbrev jW:XV:=λ_ _ _ _ _ _=>False
abbrev E0:XK:=λ_ _ _=>False
def qB{X}:xG jW X E0:=λ_ _ _ _ _ _ _ h=>h.elim
structure SM(K:aI)(x qual:Str)(st:Stmt)(f:Addr)(fd:kF):Prop where
 ex:∃(oc:Value)(od:Option Addr)(kV mw pm:Value)(an:Option Addr)(cr ct:Value)(qa:Array (Option Value)),
  fd=nI x qual (yC st) (mJ st) (bQ st) .none kV mw pm an cr ct/\K.lookup f=some ⟨oc,od,.func fd,qa⟩/\pO K cr qual=true
 kp:fZ K (.ref f)=true
section
variable{P:bX}{w:g7}{K:aI}{mg:Str->Option Value}{base:Heap}
def SM.ok{x qual st}{f:Addr}{fd}{N ps:List Str}{k:Nat}{sp:Sp}(F:SM K x qual st f fd)(S:cR N ps (bQ st))(len:∀vs H Q E,sp vs H Q E->vs.length=ps.length)
  (dy:∀(cr:Value)(A:i5)outer(s:Shared)H(vs:List V)Q E,Room k (A.deeper (o7 qual (bQ st) s.heap.objs.size f cr))->sp vs H Q E ->
   ∃t,zI (uC jW P w K mg base N qual (bQ st) f cr A outer s H E).nox (mJ st) t/\t { nx:=λ_ H'=>Q .non H',rt:=Q } (pY N vs) H):eK P w K mg base jW (k+1) f fd ps sp:=by
 obtain⟨oc,od,kV,mw,pm,an,cr,ct,qa,rfl,lk,my⟩:=F.ex;refine aC5 lk my S len λA outer s H vs Q E hr Di=>?_;obtain⟨t,h,q⟩:=dy cr A outer s H vs Q E hr Di;exact⟨t,h.nox,q⟩
def SM.binds{x qual st}{f:Addr}{fd}{ps:List Str}(F:SM K x qual st f fd)
  (h:∀(kV mw pm:Value)(an:Option Addr)(cr ct:Value)(us:List Value),us.length=ps.length->bindArgs (nI x qual (yC st) (mJ st) (bQ st) .none kV mw pm an cr ct) ⟨us,[]⟩=pure (ps.zip us)):rB K fd ps []:=by
 obtain⟨oc,od,kV,mw,pm,an,cr,ct,qa,rfl,lk,my⟩:=F.ex;exact .all (h kV mw pm an cr ct)
def WN{x qual st}{f:Addr}{oc od an qa kV mw pm cr ct}(l:K.lookup f=some ⟨oc,od,.func (nI x qual (yC st) (mJ st) (bQ st) .none kV mw pm an cr ct),qa⟩)
  (c:pO K cr qual=true) (k:fZ K (.ref f)=true):SM K x qual st f (nI x qual (yC st) (mJ st) (bQ st) .none kV mw pm an cr ct):=⟨⟨oc,od,kV,mw,pm,an,cr,ct,qa,rfl,l,c⟩,k⟩
end
def QG{n:Nat}(h:n<=1000):n<bM:=zL h (by decide)
section
variable{X:Cx}
def pv(i:Nat){x:Str}{pos}(hN:X.N[i]?=some x:=by rfl)(hv:Vis X.env.scope x:=by first | exact ag rfl | exact y8 (ag rfl) | exact y8 (y8 rfl))(hd:(x==("__debug__":Str))=false:=by decide)
  (my:(x==("__classdict__":Str))=false:=by decide):PE X (.Name x pos) (pU i):=UJ hN hv hd my
end
def bJ(H H':Hp):Prop:=∀b o,H b=some o->H' b=some o
def bJ.refl(H:Hp):bJ H H:=λ_ _ h=>h
def bJ.trans{H H1 H2}(a:bJ H H1)(b:bJ H1 H2):bJ H H2:=λc o h=>b c o (a c o h)
def bJ.seq{K H H'}{a:Addr}{xs}(e:bJ H H')(h:mN K H a xs):mN K H' a xs:=by
 rcases h with(h | ⟨o,h⟩) | h
 ·exact .inl (.inl (e _ _ h))
 ·exact .inl (.inr ⟨o,e _ _ h⟩)
 ·exact .inr h
def aAp{M A}{E:Value->Shared->Prop}{s tg it z t}{Q:Unit->Shared->Prop}(hQ:Q () s) :
  wpAny M A (v3 tg it (.str z t)) Q E s:=by
 unfold v3
 cases tg<;>first
  |exact aF hQ
  | (cases it<;>exact aF hQ)
noncomputable def Its(z:Str):It:=⟨λi _=>i<z.cps.size,λi H x H'=>H'=H/\∃c,z.cps[i]?=some c/\x=.str ⟨#[c]⟩,λi _=>z.cps.size<=i⟩
def P9{P w K tg ty}(it:Addr)(z:Str)(t:Tok)
  (W:∀A:i5,A.handled=none->Walks P w A it [it] [it] z.cps.size (SignAt z) (λi h=>h.IsStrIter it ty z t i))
  (S:∀A(i:Nat)(s:Shared)Q E,s.heap.IsStrIter it ty z t i->Q (.ref it) s->wpAny (model P w) A (nv (.ref it)) Q E s) :
  D2 P w K tg (Its z) [it] it (λi h=>i<=z.cps.size/\h.IsStrIter it ty z t i) where
 mem:=by simp
 obj:=λi h st b hb=>by
  obtain rfl:b=it:=by simpa using hb
  obtain⟨_,o,e,c,d⟩:=st;exact⟨o,e,λv q=>by rw[d]at q;cases q⟩
 keep:=λi h h' st k=>by
  obtain⟨l,o,e,r⟩:=st;exact⟨l,o,k it (by simp) o e,r⟩
 item:=by
  intro X hP hw hK hc i b7 s σ H E I hf st hg;subst hP hw hK;obtain⟨f0,f1,f2,f3,f4,f5⟩:=hf it (by simp);refine(W X.A (I.ok.hd hc)).item i s _ _ hg st.2 λv h' tk hv kc kk=>?_;obtain⟨c,u,hx,rfl⟩:=hv;have I1:dS X b7 σ H { s with heap:=h',toks:=tk }:=I.turned (λb o hb e=>kk b o (by simpa using hb) e) f0 f1 f3 f4 f5;exact⟨_,rfl,aAp ⟨.str ⟨#[c]⟩,H,I1,⟨u,rfl⟩,⟨rfl,c,hx,rfl⟩,⟨hg,kc⟩,λb hb=>(hf b hb).1⟩⟩
 done:=by
  intro X hP hw hK hc i b7 s σ H E I hf st hg;subst hP hw hK;obtain⟨f0,f1,f2,f3,f4,f5⟩:=hf it (by simp);have e:i=z.cps.size:=aDt st.1 hg;subst e;exact(W X.A (I.ok.hd hc)).done s _ _ st.2 λh' tk kk=>⟨rfl,I.turned (λb o hb e=>kk b o (by simpa using hb) e) f0 f1 f3 f4 f5⟩
 self:=λA i s Q E st h=>S A i s Q E st.2 h
def aOr(K:aI)(tl:TE):TI:=λσ H R=>tl σ H λx H1=>(∃a,x=.ref a/\(∃xs,mN K H1 a xs)/\R (Itl K a) H1)\/(∃a,x=.ref a/\(∃xs,vL K H1 a xs)/\R (Itt K a) H1)\/∃z,x=.str z/\R (Its z) H1
def aEv{X:Cx}{tg l tl}(hl:PE X l tl):PI X tg l (aOr X.K tl):=by
 intro b7 s σ H R I h;refine iZ (hl b7 s σ H _ I h) λv s1 zq=>?_;obtain⟨x,H1,I1,r1,q1⟩:=zq;rcases q1 with⟨a,rfl,⟨xs,hq⟩,q⟩ | ⟨a,rfl,⟨xs,hq⟩,q⟩ | ⟨z,rfl,q⟩
 ·cases r1;obtain⟨its,rv,p,hz⟩:=I1.list hq;refine cx p.isList ⟨s1.heap.objs.size,[s1.heap.objs.size],_,_,H1,rfl,I1.kept (t':=s1.toks) λb o e=>aK _ e,QA a _,⟨_,aW _ rfl,rfl,rfl⟩,λb hb=>?_,q⟩;obtain rfl:b=s1.heap.objs.size:=by simpa using hb
  exact I1.fpOk (aL _) (I1.hok.fresh (aL _))
 ·cases r1;obtain⟨its,rv,p,hz⟩:=I1.tuple hq;refine wpAny_pyIter_tuple (show s1.heap.IsTuple a its.toArray from p) ⟨s1.heap.objs.size,[s1.heap.objs.size],_,_,H1,rfl,I1.kept (t':=s1.toks) λb o e=>aK _ e,KY a _,⟨_,aW _ rfl,rfl,rfl⟩,λb hb=>?_,q⟩;obtain rfl:b=s1.heap.objs.size:=by simpa using hb
  exact I1.fpOk (aL _) (I1.hok.fresh (aL _))
 ·obtain⟨t,rfl⟩:=r1
  have fin:∀(o:Obj)(ty:String),(∀A:i5,A.handled=none->Walks X.prog X.w A s1.heap.objs.size [s1.heap.objs.size] [s1.heap.objs.size] z.cps.size (SignAt z) (λi h=>h.IsStrIter s1.heap.objs.size ty z t i)) ->
    (∀A(i:Nat)(s:Shared)Q E,s.heap.IsStrIter s1.heap.objs.size ty z t i->Q (.ref s1.heap.objs.size) s->wpAny (model X.prog X.w) A (nv (.ref s1.heap.objs.size)) Q E s) ->
    (s1.heap.push o).IsStrIter s1.heap.objs.size ty z t 0->PIE X b7 σ tg R (.ref s1.heap.objs.size) { s1 with heap:=s1.heap.push o }:=λo ty W S st=>by
   refine⟨s1.heap.objs.size,[s1.heap.objs.size],_,Its z,H1,rfl,I1.kept (t':=s1.toks) λb o e=>aK _ e,P9 _ z t W S,⟨cL _,st⟩,λb hb=>?_,q⟩;obtain rfl:b=s1.heap.objs.size:=by simpa using hb
   exact I1.fpOk (aL _) (I1.hok.fresh (aL _))
  cases ha:z.cps.all (·<128)
  ·exact wpAny_pyIter_wide ha (fin _ "str_iterator" (λA hA=>Walks.strWide hA _ z t) (λ_ _ _ _ _ st h=>wpAny_pyIter_striter_wide st h) ⟨_,aW _ rfl,rfl,rfl⟩)
  ·exact wpAny_pyIter_ascii ha (fin _ "str_ascii_iterator" (λA hA=>Walks.strAscii hA _ z t) (λ_ _ _ _ _ st h=>wpAny_pyIter_striter_ascii st h) ⟨_,aW _ rfl,rfl,rfl⟩)
structure BP where
 cl:List (Str×Addr)
 C:Addr
 s3:Shared
 H3:Hp
 ex:List Addr
 pn:List (Addr×Obj)
noncomputable def blk(X:Cx)(scope:Scope)(N':List Str)(b:BP):Cx where
 prog:=X.prog
 w:=X.w
 K:=X.K
 mg:=X.mg
 base:=X.base
 A:=X.A
 N:=N'
 s₀:=b.s3
 H₀:=b.H3
 env:=compEnvC scope b.cl b.C X.env
 outer:=X.stack
 stack:=X.stack
 ex:=b.ex
 fn:=λx=>scope.names.lookup x==some .cell
 calm:=X.calm
 pn:=b.pn
 xe:=λ_ _=>False
theorem xE{env:Env}:∀(names:List (Str×y9))(acc:List (Str×Addr)),(∀x∈names,x.2=.free->∃c,env.cells.lookup x.1=some c) ->
 (∀n c,acc.lookup n=some c->env.cells.lookup n=some c) ->
 ∃cl:List (Str×Addr),(Fi names acc (λx cs=>match x with | (name,kind)=>if kind==.free then do let a <- cellOf env name;pure (aa ((name,a)::cs))else pure (aa cs)):Sem (List (Str×Addr)))=pure cl /\
  (∀n c,cl.lookup n=some c->env.cells.lookup n=some c)/\(∀n,((∃c,acc.lookup n=some c)\/(n,m6)∈names)->∃c,cl.lookup n=some c)
|[],acc,_,ha=>⟨acc,rfl,ha,λn h=>h.elim id λz=>d8 z (by simp)⟩
| (n,k)::r,acc,h,ha=>by
 by_cases hk:k=.free
 ·subst hk;obtain⟨c,hc⟩:=h (n,.free) (aS ..) rfl
  obtain⟨cl,e,h1,h2⟩:=xE r ((n,c)::acc) (λx hx=>h x (aO _ hx)) (λm d hm=>by
   rw[iK]at hm
   cases hb:m==n with
   |true=>
    rw[hb]at hm;obtain rfl:m=n:=by simpa using hb
    cases hm;exact hc
   |false=>rw[hb]at hm;exact ha m d hm)
  refine⟨cl,?_,h1,λm hm=>h2 m ?_⟩
  ·rw[DI];have ec:cellOf env n=pure c:=by unfold cellOf;rw[hc]
   simp only[ue,ef,ec];exact e
  ·rcases hm with⟨d,hd⟩ | hm
   ·left
    rw[iK]
    cases hb:m==n with
    |true=>exact⟨c,rfl⟩
    |false=>exact⟨d,hd⟩
   ·rcases bE.mp hm with z | z
    ·left
     cases z;exact⟨c,by simp[iK]⟩
    ·exact .inr z
 ·obtain⟨cl,e,h1,h2⟩:=xE r acc (λx hx=>h x (aO _ hx)) ha;refine⟨cl,?_,h1,λm hm=>h2 m (hm.imp id λz=>?_)⟩
  ·rw[DI];have eb:(k==m6)=false:=by simpa using hk
   simp only[eb,fQ,p8];exact e
  ·rcases bE.mp z with z | z
   ·cases z;exact d8 rfl hk
   ·exact z
def CM{env:Env}{scope:Scope}(h:∀x∈scope.names,x.2=.free->∃c,env.cells.lookup x.1=some c) :
  ∃cl,closureFor scope env=pure cl/\(∀n c,cl.lookup n=some c->env.cells.lookup n=some c)/\∀n,(n,m6)∈scope.names->∃c,cl.lookup n=some c:=by
 obtain⟨cl,e,h1,h2⟩:=xE (env:=env) scope.names [] h (λn c z=>by simp at z);refine⟨cl,?_,h1,λn z=>h2 n (.inr z)⟩;unfold closureFor;refine Eq.trans ?_ (i6 (λm=>m >>= λr=>(pure r:Sem (List (Str×Addr)))) e)
 rfl
theorem rP{env:Env}{x k}:∀{names:List (Str×y9)},
 (names.map λ(n,k)=>if(k==m6&&env.scope.kind==.function&&env.kindOf n==some .cell)then(n,h8)else(n,k)).lookup x=some k ->
 ∃k0,(x,k0)∈names/\(k0=k\/(k0=.free/\k=.cell))
|[],h=>by simp at h
| (n,j)::r,h=>by
 rw[bD,iK]at h;dsimp only at h;by_cases hc:(j==m6&&env.scope.kind==.function&&env.kindOf n==some .cell)=true
 ·rw[b9 hc]at h;dsimp only at h
  cases hb:x==n with
  |true=>
   rw[hb]at h;obtain rfl:x=n:=by simpa using hb
   cases h;have hj:j=.free:=by simp only[bU,om]at hc;exact hc.1.1
   exact⟨j,aS ..,.inr ⟨hj,rfl⟩⟩
  |false=>
   rw[hb]at h;obtain⟨k0,h1,h2⟩:=rP (names:=r) h;exact⟨k0,aO _ h1,h2⟩
 ·rw[b8 hc]at h;dsimp only at h
  cases hb:x==n with
  |true=>
   rw[hb]at h;obtain rfl:x=n:=by simpa using hb
   cases h;exact⟨_,aS ..,.inl rfl⟩
  |false=>
   rw[hb]at h;obtain⟨k0,h1,h2⟩:=rP (names:=r) h;exact⟨k0,aO _ h1,h2⟩
theorem xO{env:Env}{x}:∀{names:List (Str×y9)},names.lookup x=some .free ->
 (names.map λ(n,k)=>if(k==m6&&env.scope.kind==.function&&env.kindOf n==some .cell)then(n,h8)else(n,k)).lookup x=some .cell \/
 (names.map λ(n,k)=>if(k==m6&&env.scope.kind==.function&&env.kindOf n==some .cell)then(n,h8)else(n,k)).lookup x=some .free
|[],h=>by simp at h
| (n,j)::r,h=>by
 rw[iK]at h;rw[bD,iK];dsimp only
 cases hb:x==n with
 |true=>
  rw[hb]at h;cases h;by_cases hc:(m6==m6&&env.scope.kind==.function&&env.kindOf n==some .cell)=true
  ·rw[b9 hc];dsimp only;rw[hb];exact .inl rfl
  ·rw[b8 hc];dsimp only;rw[hb];exact .inr rfl
 |false=>
  rw[hb]at h;have ih:=xO (env:=env) (names:=r) h;by_cases hc:(j==m6&&env.scope.kind==.function&&env.kindOf n==some .cell)=true
  ·rw[b9 hc];dsimp only;rw[hb];exact ih
  ·rw[b8 hc];dsimp only;rw[hb];exact ih
noncomputable def tZ(names outer:List (Str×y9))(Nx:List Str):List Str->List (Option Nat)->Bool
|[],[]=>true
|x::r,none::f=>tZ names outer Nx r f
|x::r,some j::f=>(names.lookup x==some .free)&&(Nx[j]?==some x)&&(outer.lookup x==some .cell)&&tZ names outer Nx r f
|_,_=>false
theorem zC{names outer:List (Str×y9)}{Nx}:∀{N':List Str}{fr:List (Option Nat)},tZ names outer Nx N' fr=true ->
 N'.length=fr.length/\∀(i:Nat)(x:Str)(j:Nat),N'[i]?=some x->fr[i]?=some (some j)->names.lookup x=some .free/\Nx[j]?=some x/\outer.lookup x=some .cell
|[],[],_=>⟨rfl,λi x j h=>by simp at h⟩
|x::r,none::f,h=>by
 obtain⟨h1,h2⟩:=zC (N':=r) (fr:=f) h;refine⟨by simp[h1],λi y j e1 e2=>?_⟩
 cases i with
 |zero=>simp at e2
 |succ i=>exact h2 i y j (by simpa using e1) (by simpa using e2)
|x::r,some k::f,h=>by
 simp only[tZ,bU,om]at h;obtain⟨⟨⟨a1,a2⟩,a3⟩,h⟩:=h;obtain⟨h1,h2⟩:=zC (N':=r) (fr:=f) h;refine⟨by simp[h1],λi y j e1 e2=>?_⟩
 cases i with
 |zero=>
  simp at e1 e2;subst e1;subst e2;exact⟨a1,a2,a3⟩
 |succ i=>exact h2 i y j (by simpa using e1) (by simpa using e2)
|[],_::_,h=>by simp[tZ]at h
|_::_,[],h=>by simp[tZ]at h
noncomputable def wF(fr:List (Option Nat))(σ:St):St:=fr.map λo=>o.bind λj=>(σ[j]?).join
def M3(X:Cx)(cw:List Expr)(tt:TT):Prop:=
 ∀b7 s σ H(Q:Bool->Hp->Prop),dS X b7 σ H s->tt σ H Q ->
  wpAny (model X.prog X.w) X.A (Fi cw true λc r=>if r=true then do let ok <- isTrue c X.env (eval c X.env);pure (aa ok)else pure (aa r)) (TP X b7 σ Q) X.xe s
def YG:TT:=λ_ H Q=>Q true H
def ZI{X}:M3 X [] YG:=λ_ _ _ H _ I h=>wpAny_tests_nil ⟨H,I,h⟩
def ZH{X c tt}(h:PT X c tt):M3 X [c] tt:=λb7 s σ H Q I q=>wpAny_tests_one (h b7 s σ H Q I q)
def NM(fr:List (Option Nat))(wi:TI)(g:BP->TG)(tt:BP->TT)(te:BP->TE):TE:=λσ H Q=>wi σ H λJ H1=>∀(bp:BP)(acc:Addr),H1 acc=none->∃W:Nat->Nat->St->Hp->Prop,
 (∃m,W 0 m (wF fr σ) (fM H1 acc (.lst [])))/\∀i m g6 H',W i m g6 H' ->
  (J.stop i H'/\Q (.ref acc) H')\/(J.go i H'/\∀x H2,J.yld i H' x H2->g bp x g6 H2 λz8 H3=>tt bp z8 H3 λb H4=>
   if b=true then te bp z8 H4 λy H5=>∃ys,H5 acc=some (.lst ys)/\ys.length<bM/\∃m',m'<m/\W (i+1) m' z8 (fM H5 acc (.lst (ys++[y])))
   else∃m',m'<m/\W (i+1) m' z8 H4)
theorem sJ:∀{names:List (Str×y9)},names.filter (λy=>y.2==h8)=[]->∀(n:Nat)(acc:List (Str×Addr))h,ft n names acc=acc/\nu h names=h
|[],_,_,_,_=>⟨rfl,rfl⟩
| (x,k)::r,e,n,acc,h=>by
 rw[cD]at e
 cases hk:(k==h8)with
 |true=>dsimp only at e;rw[hk,b9 rfl]at e;cases e
 |false=>
  dsimp only at e;rw[hk,b8 aX]at e;unfold ft nu;rw[hk,b8 aX,b8 aX];exact sJ e n acc h
theorem zF{z:Str}:∀{names:List (Str×y9)},names.filter (λy=>y.2==h8)=[(z,.cell)]->∀(n:Nat)(acc:List (Str×Addr))(h:Heap),ft n names acc=(z,n)::acc/\nu h names=h.push { cls:=.type "cell",data:=.cell none }
|[],e,_,_,_=>by cases e
| (x,k)::r,e,n,acc,h=>by
 rw[cD]at e
 cases hk:(k==h8)with
 |true=>
  dsimp only at e;rw[hk,b9 rfl]at e;injection e with e1 e2
  injection e1 with e1 _
  subst e1;unfold ft nu;rw[hk,b9 rfl,b9 rfl];exact sJ e2 (n+1) ((x,n)::acc) _
 |false=>
  dsimp only at e;rw[hk,b8 aX]at e;unfold ft nu;rw[hk,b8 aX,b8 aX];exact zF e n acc h
def vM(names:List (Str×y9)):Prop:=names.filter (λy=>y.2==h8)=[]\/∃z,names.filter (λy=>y.2==h8)=[(z,.cell)]/\names.lookup z=some .cell
structure aPf(names:List (Str×y9))(cl kl:List (Str×Addr))(h:Heap)(C:Addr):Prop where
 get:∀x c,kl.lookup x=some c->(C<c/\(x,h8)∈names/\h.IsCell c none)\/(cl.lookup x=some c/\(x,h8)∉names)
 old:∀x c,names.lookup x=some .free->cl.lookup x=some c->kl.lookup x=some c
 has:∀x,(x,h8)∈names->∃c,kl.lookup x=some c
 keep:∀x c,cl.lookup x=some c->∃c',kl.lookup x=some c'
 inj:∀x y c,kl.lookup x=some c->kl.lookup y=some c->C<c->x=y
def ZX{M A}{E:Value->Shared->Prop}{s:Shared}{scope:Scope}{globals:Addr}{closure:List (Str×Addr)}{qual outer}{Q:Env->Shared->Prop}(hz:vM scope.names)(bo:∀x c,closure.lookup x=some c->c<s.heap.objs.size)
  (hQ:∀h' kl,h'.Ns s.heap.objs.size (λ_=>none)->(∀b o,s.heap.get? b=some o->h'.get? b=some o)->aPf scope.names closure kl h' s.heap.objs.size->Q (newEnv scope s.heap.objs.size globals kl qual none .none (some outer) dw) { s with heap:=h' }) :
  wpAny M A (tf scope globals closure [] qual none .none (some outer)) Q E s:=by
 simp only[tf,P3,ef];refine aA (wpAny_alloc ?_);refine aA (wpAny_layCells _ (λname kind cells=>by cases Tx:kind==h8<;>simp[Tx]) _ _ _ _ ?_);have mem:∀x,(x,h8)∈scope.names->(x,h8)∈scope.names.filter (λy=>y.2==h8):=λx hx=>bN.mpr ⟨hx,rfl⟩;rcases hz with hz | ⟨z,hz,yy⟩
 ·rw[(sJ hz _ _ s.heap).1,(sJ hz 0 [] _).2]
  have no:∀x,(x,h8)∉scope.names:=λx hx=>by
   have:=mem x hx;rw[hz]at this;cases this
  exact aA (aF (aF (hQ _ _ (XX.new s.heap (.type "dict")) (λb o e=>aK _ e) ⟨λx c h=>.inr ⟨h,no x⟩,λx c _ h=>h,λx h=>d8 h (no x),λx c h=>⟨c,h⟩,λx y c h _ l=>d8 (bo x c h) (uM l)⟩)))
 ·rw[(zF hz _ _ s.heap).1,(zF hz 0 [] _).2,show({ s with heap:=s.heap.push { cls:=.type "dict",data:=.dict #[] } }:Shared).heap.objs.size=s.heap.objs.size+1 from fP ..]
  have Qf:∀x,(x,h8)∈scope.names->x=z:=λx hx=>by
   have:=mem x hx;rw[hz]at this;exact i6 Prod.fst (bR.mp this)
  have lk:∀x c,((z,s.heap.objs.size+1)::closure).lookup x=some c->(x=z/\c=s.heap.objs.size+1)\/(x≠z/\closure.lookup x=some c):=λx c h=>by
   rw[iK]at h
   cases hb:x==z with
   |true=>rw[hb]at h;cases h;exact .inl ⟨wr hb,rfl⟩
   |false=>rw[hb]at h;exact .inr ⟨ne_of_beq_false hb,h⟩
  have Qi:∀x c,x≠z->closure.lookup x=some c->((z,s.heap.objs.size+1)::closure).lookup x=some c:=λx c hx h=>by
   rw[iK,beq_eq_false_iff_ne.mpr hx];exact h
  have g:((s.heap.push { cls:=.type "dict",data:=.dict #[] }).push { cls:=.type "cell",data:=.cell none }).get? (s.heap.objs.size+1)=some { cls:=.type "cell",data:=.cell none }:=by
   have:=aW (s.heap.push { cls:=.type "dict",data:=.dict #[] }) (o:={ cls:=.type "cell",data:=.cell none }) rfl
   rwa [fP]at this
  refine aA (aF (aF (hQ _ _ ((XX.new s.heap (.type "dict")).keeps λb o e=>aK _ e) (λb o e=>aK _ (aK _ e)) ⟨λx c h=>?_,λx c hx h=>Qi x c (λe=>by rw[e,yy]at hx;cases hx) h,λx hx=>⟨s.heap.objs.size+1,by rw[Qf x hx];simp⟩,λx c h=>?_,λx y c h1 h2 l=>?_⟩)))
  ·rcases lk x c h with⟨rfl,rfl⟩ | ⟨n,h⟩
   ·exact .inl ⟨iN _,l5 yy,_,g,rfl⟩
   ·exact .inr ⟨h,λhx=>n (Qf x hx)⟩
  ·by_cases e:x=z
   ·exact⟨s.heap.objs.size+1,by rw[e];simp⟩
   ·exact⟨c,Qi x c e h⟩
  ·rcases lk x c h1 with⟨e1,_⟩ | ⟨_,g1⟩
   ·rcases lk y c h2 with⟨e2,_⟩ | ⟨_,g2⟩
    ·exact e1.trans e2.symm
    ·exact d8 (bo y c g2) (uM l)
   ·exact d8 (bo x c g1) (uM l)
section
variable{X:Cx}
def RY{prog w A}{R:Result->Shared->Prop}{s az jj iter cw scope pos it acc env}(I:Nat->Shared->Prop)
  (tz:∀n s,I n s->wpAny (model prog w) A (fw it) (λr s₁=>match r with
   |none=>R (.ok .next) s₁
   |some v=>wpAny (model prog w) A (v3 jj it v) (λ_ s1=>wpAny (model prog w) A (mr jj env v) (λ_ la=>
     wpAny (model prog w) A (Fi cw true λc r=>if r=true then do let ok <- isTrue c env (eval c env);pure (aa ok)else pure (aa r)) (λok qd=>
      if ok=true then wpAny (model prog w) A (eval az env) (λx Ck=>wpAny (model prog w) A (call (.builtin "list.append") [acc,x]) (λ_ Jd=>∃m,m<n/\I m Jd) (λ_ _=>False) Ck) (λ_ _=>False) qd
      else∃m,m<n/\I m qd) (λ_ _=>False) la) (λ_ _=>False) s1) (λ_ _=>False) s₁) (λ_ _=>False) s)
  (n:Nat) (h:I n s):dz (model prog w) A (.compLoop (.ListComp az [⟨jj,iter,cw,0⟩] scope pos) 0 it acc env) R s:=by
 refine codeAny_loop rfl I (λn s hI=>?_) n h;show wpAny _ A ((compTurn (.ListComp az [⟨jj,iter,cw,0⟩] scope pos) 0 it acc env).onRaise (λx=>do nr x env;theTreesLotGoes x)) _ _ s;refine wpAny_noted ?_;rw[compTurn_list];have no:∀{E:Value->Shared->Prop}(e:Value)(s:Shared),False->E e s:=λ_ _ z=>z.elim;refine aA (wpAny_standAt (aA (fV (tz n s hI) (λr s₁ nk=>?_) no)))
 cases r with
 |none=>exact aF nk
 |some v=>
  refine aA (fV nk (λ_ s1 h1=>aA (fV h1 (λ_ la xz=>aA (fV xz (λok qd Cg=>?_) no)) no)) no)
  cases ok with
  |false=>exact aF ⟨rfl,Cg⟩
  |true=>exact aA (aA (fV Cg (λx Ck Nj=>aA (fV Nj (λ_ Jd Nk=>aF (aF ⟨rfl,Nk⟩)) no)) no))
variable{az iter tg:Expr}{cw:List Expr}{scope:Scope}{pos:Pos}{N':List Str}{fr:List (Option Nat)}{wi:TI}{g:BP->TG}{tt:BP->TT}{te:BP->TE}
def JG{b7 σ}{H2:Hp}{s2:Shared}{it:Addr}{fp}{tn:Nat->Heap->Prop}{J:It}{Q:VK}{RR:Value->Addr->Result->Shared->Prop}{cl:List (Str×Addr)}{E:Value->Shared->Prop}
  (gh:X.calm=true) (iw:scope.kind=.function) (hz:vM scope.names) (EZ:tZ scope.names X.env.scope.names X.N N' fr=true)
  (ir:∀n c,cl.lookup n=some c->X.env.cells.lookup n=some c) (ux:∀n,(n,m6)∈scope.names->∃c,cl.lookup n=some c)
  (hY:∀b:BP,PG (blk X scope N' b) tg (g b)/\M3 (blk X scope N' b) cw (tt b)/\PE (blk X scope N' b) az (te b))
  (I2:dS X b7 σ H2 s2) (T:D2 X.prog X.w X.K tg J fp it tn) (yk:tn 0 s2.heap) (f2:∀b∈fp,C5 X b7 H2 b)
  (q:∀(bp:BP)(acc:Addr),H2 acc=none->∃W:Nat->Nat->St->Hp->Prop,(∃m,W 0 m (wF fr σ) (fM H2 acc (.lst [])))/\∀i m g6 H',W i m g6 H' ->
   (J.stop i H'/\Q (.ref acc) H')\/(J.go i H'/\∀x H2,J.yld i H' x H2->g bp x g6 H2 λz8 H3=>tt bp z8 H3 λb H4=>
    if b=true then te bp z8 H4 λy H5=>∃ys,H5 acc=some (.lst ys)/\ys.length<bM/\∃m',m'<m/\W (i+1) m' z8 (fM H5 acc (.lst (ys++[y])))
    else∃m',m'<m/\W (i+1) m' z8 H4))
  (Sh:∀acc C s' HY m,dS X b7 σ HY s'->C5 X b7 HY C->s'.heap.Ns C m->Q (.ref acc) HY->RR (.ref acc) C (.ok .next) s') :
  wpAny (model X.prog X.w) X.A (newList []) (λacc qd=>wpAny (model X.prog X.w) X.A (tf scope X.env.globals cl [] X.env.qual none .none (some X.env)) (λGp Ck=>
   dz (model X.prog X.w) X.A (.compStart (.ListComp az [⟨tg,iter,cw,0⟩] scope pos) 0 (.ref it) acc { Gp with scope:=relabel scope X.env }) (RR acc Gp.locals) Ck) E qd) E s2:=by
 obtain⟨Da,Tf⟩:=zC EZ;have y4:H2 s2.heap.objs.size=none:=I2.hok.fresh (aL _);refine eD ?_ (by show 0<=bM;exact cL _)
 generalize Mz:({ s2 with heap:=s2.heap.push { cls:=.type "list",dict:=none,data:=.seq ([]:List Value).toArray } }:Shared)=s3
 have I3:dS X b7 σ (fM H2 s2.heap.objs.size (.lst [])) s3:=by
  rw[<- Mz];exact I2.laid (t':=s2.toks) (λb u e=>aK _ e) (aL _) ⟨cL _,[],0,.nil,aW _ rfl⟩
 have Lx:∀b∈fp,b<s3.heap.objs.size:=λb hb=>by
  obtain⟨o,e,_⟩:=T.obj 0 _ yk b hb;rw[<- Mz];exact bG (aK _ e)
 have Jc:tn 0 s3.heap:=T.keep 0 _ _ yk λb _ o e=>by rw[<- Mz];exact aK _ e
 have f3:∀b∈fp,C5 X b7 (fM H2 s2.heap.objs.size (.lst [])) b:=λb hb=>⟨by
  obtain⟨o,e,_⟩:=T.obj 0 _ yk b hb;rw[cI (bZ (bG e))];exact(f2 b hb).1,(f2 b hb).2⟩
 refine ZX hz (λx c e=>by obtain⟨v,o,ho,_⟩:=I3.cell x c (ir x c e);exact bG ho) λnk kl cg keep xt=>?_
 generalize Sb:fM H2 s2.heap.objs.size (.lst [])=H3 at *
 generalize Xf:s2.heap.objs.size=ac at *
 generalize hC:s3.heap.objs.size=C at *
 obtain⟨W,⟨m0,w0⟩,tz⟩:=q ⟨kl,C,s3,H3,fp,X.pn++b7⟩ ac y4;rw[Sb]at w0
 have wz:∀x c,X.env.cells.lookup x=some c->c<C:=λx c e=>by
  obtain⟨v,o,ho,_⟩:=I3.cell x c e;rw[<- hC];exact bG ho
 have Gx:∀b∈fp,b≠C:=λb hb=>by exact bZ (Lx b hb)
 have Oi:X.env.locals<C:=by rw[<- hC];exact I3.lt
 have Er:∀b∈sR X.stack,b≠C/\H3 b=none:=λb hb=>⟨by
  rintro rfl;rcases bE.mp (I3.stkSub b hb)with z | z
  ·rw[z]at Oi;exact d8 Oi (eX _)
  ·exact I3.nofs (by rw[hC];exact aL _) z,I3.stkFree b hb⟩
 have Kv:∀x c,X.env.cells.lookup x=some c->c≠C:=λx c e z=>by
  obtain⟨v,o,ho,_⟩:=I3.cell x c e;have:=bG ho;rw[z,hC]at this;exact d8 this (eX _)
 -- the block's context
 have We:(blk X scope N' ⟨kl,C,s3,H3,fp,X.pn++b7⟩).Ok:=by
  refine⟨I3.ok.mod,iw,I3.ok.glob,I3.ok.blt,nU hC,λx y c h1 h2=>by
   rcases xt.get x c h1 with⟨l1,_⟩ | ⟨g1,_⟩<;>rcases xt.get y c h2 with⟨l2,_⟩ | ⟨g2,_⟩
   ·exact xt.inj x y c h1 h2 l1
   ·exact d8 (wz y _ (ir y _ g2)) (uM l1)
   ·exact d8 (wz x _ (ir x _ g1)) (uM l2)
   ·exact I3.ok.inj x y c (ir x c g1) (ir y c g2),λx hx=>?_,λx c hf h=>by
   rcases xt.get x c h with⟨l,_⟩ | ⟨_,n⟩
   ·exact dG (nU hC) (pW l)
   ·exact d8 (l5 (beq_iff_eq.mp hf)) n,λ_=>I3.ok.hd gh,I3.ok.frames,.inl rfl,
   λb hb=>⟨Gx b hb,λx c h=>by
    rcases xt.get x c h with⟨l,_⟩ | ⟨h,_⟩
    ·exact jU (NF (Lx b hb) l)
    ·exact(f3 b hb).2.2.2.2.1 x c (ir x c h)⟩,λb o e=>I3.bs b o e,?_,λb o e hb=>?_,λb hb hs=>?_,I3.stack,λb hb=>(Er b hb).2,I3.env0.tab⟩
  ·have gf:∀k,(relabel scope X.env).names.lookup x=some k->(k=.cell\/k=.free)->∃c,(kl).lookup x=some c:=λk h hk=>by
    obtain⟨k0,h1,h2⟩:=rP h;rcases(show k0=.cell\/k0=.free from h2.elim (λe=>by rw[e];exact hk) λe=>.inr e.1)with rfl | rfl
    ·exact xt.has x h1
    ·obtain⟨c,hc⟩:=ux x h1;exact xt.keep x c hc
   rcases hx with hx | hx
   ·exact gf _ hx (.inl rfl)
   ·exact gf _ hx (.inr rfl)
  ·exact dG I3.ok.bsz (dG I3.sz (aL _))
  ·rcases(f3 b hb).2.2.2.1 with z | z
   ·exact I3.ok.noex b o e z
   ·exact d8 (cK (bG (I3.ok.bs b o e).1) z) (eX _)
  ·rcases bE.mp (I3.stkSub b hs)with z | z
   ·exact(f3 b hb).2.1 z
   ·exact(f3 b hb).2.2.1 z
 have Lf:H3 C=none:=I3.hok.fresh (nU hC)
 have IY:dS (blk X scope N' ⟨kl,C,s3,H3,fp,X.pn++b7⟩) [] (wF fr σ) H3 { s3 with heap:=nk }:=by
  refine⟨We,rfl,I3.bare,Un.kept keep,⟨_,cg,λi x v h1 h2 _=>?_⟩,λx c e=>?_,Lf,λx c e=>(by
   rcases xt.get x c e with⟨l,_⟩ | ⟨e,_⟩
   ·exact I3.hok.fresh (by rw[hC];exact pW l)
   ·exact I3.freeC x c (ir x c e)),λp hp=>?_,I3.hok.kept keep,?_⟩
  ·have e:∃j,fr[i]?=some (some j)/\σ[j]?=some (some v):=by
    unfold wF at h2;rw[aH]at h2
    cases hf:fr[i]? with
    |none=>rw[hf]at h2;cases h2
    |some o=>
     rw[hf]at h2
     cases o with
     |none=>cases h2
     |some j=>
      refine⟨j,rfl,?_⟩;have uw:(σ[j]?).join=some v:=by simpa using h2
      cases hj:σ[j]? with
      |none=>rw[hj]at uw;cases uw
      |some o=>rw[hj]at uw;rw[show o=some v from uw]
   obtain⟨j,e1,e2⟩:=e;obtain⟨a1,a2,a3⟩:=Tf i x j h1 e1;obtain⟨m,hn,hl⟩:=I3.loc;obtain⟨u,r,l⟩:=hl j x v a2 e2 (.inr (.inl a3));refine⟨u,r,.inr ⟨xO a1,?_⟩⟩;rcases l with⟨k,_⟩ | ⟨_,c,hc,o,ho,hd⟩
   ·have k':X.env.scope.names.lookup x=some .local:=k;rw[a3]at k';cases k'
   ·obtain⟨c',hc'⟩:=ux x (l5 a1);have z:=ir x c' hc';rw[hc]at z;cases z;exact⟨c,xt.old x c a1 hc',o,keep c o ho,hd⟩
  ·rcases xt.get x c e with⟨_,_,Ur⟩ | ⟨e,_⟩
   ·exact⟨none,Ur⟩
   ·obtain⟨v,o,ho,hd⟩:=I3.cell x c (ir x c e);exact⟨v,o,keep c o ho,hd⟩
  ·obtain⟨e,n,ne,nf,d⟩:=I3.pin p (by have Ic:p∈(X.pn++b7)++[]:=hp;simpa using Ic);refine⟨keep _ _ e,n,?_,λz=>?_,d⟩
   ·have:=bG e;rw[hC]at this;exact bZ this
   ·rcases bE.mp (I3.stkSub p.1 z)with z | z
    ·exact ne z
    ·exact nf z
  ·unfold wF;rw[aB];exact Da.symm
 have tx:∀{H':Hp},(∀b∈fp,H' b=none)->∀b∈fp,C5 (blk X scope N' ⟨kl,C,s3,H3,fp,X.pn++b7⟩) [] H' b:=λ{H'} hn b hb=>
  ⟨hn b hb,Gx b hb,λz=>by
   rcases bE.mp (I3.stkSub b z)with z | z
   ·exact(f3 b hb).2.1 z
   ·exact(f3 b hb).2.2.1 z,  .inl hb,λx c e=>(by
   rcases xt.get x c e with⟨l,_⟩ | ⟨e,_⟩
   ·exact jU (NF (Lx b hb) l)
   ·exact(f3 b hb).2.2.2.2.1 x c (ir x c e)),λp hp=>(f3 b hb).2.2.2.2.2 p (by have Ic:p∈(X.pn++b7)++[]:=hp;simpa using Ic)⟩
 obtain⟨hg,ht,he⟩:=hY ⟨kl,C,s3,H3,fp,X.pn++b7⟩
 have loop:dz (model X.prog X.w) X.A (.compLoop (.ListComp az [⟨tg,iter,cw,0⟩] scope pos) 0 (.ref it) (.ref ac) (compEnvC scope kl C X.env)) (RR (.ref ac) C) { s3 with heap:=nk }:=by
  refine RY (λn s'=>∃i g6 H',dS (blk X scope N' ⟨kl,C,s3,H3,fp,X.pn++b7⟩) [] g6 H' s'/\tn i s'.heap/\(∀b∈fp,H' b=none)/\W i n g6 H') ?_ m0
   ⟨0,wF fr σ,H3,IY,T.keep 0 _ _ Jc λb _ o e=>keep b o e,λb hb=>(f3 b hb).1,w0⟩
  rintro n s4 ⟨i,qo,H4,I4,Qv,Og,w4⟩;rcases tz i n qo H4 w4 with⟨stop,qn⟩ | ⟨go,step⟩
  ·refine iZ (T.done (blk X scope N' ⟨kl,C,s3,H3,fp,X.pn++b7⟩) rfl rfl rfl gh i [] s4 qo H4 _ I4 (tx Og) Qv stop) λr s5 zq=>?_;obtain⟨hr,I5⟩:=zq;subst hr;obtain⟨m,hn,_⟩:=I5.loc;have IX:dS X b7 σ H4 s5:=I3.call' I5.os I5.base I5.hok I5.bare λb hb=>⟨(f3 b hb).2.2.2.1,(f3 b hb).2.1,(f3 b hb).2.2.2.2.1,(f3 b hb).2.2.2.2.2⟩;exact Sh ac C s5 H4 m IX (I3.fpOk (nU hC) I5.free) hn qn
  ·refine iZ (T.item (blk X scope N' ⟨kl,C,s3,H3,fp,X.pn++b7⟩) rfl rfl rfl gh i [] s4 qo H4 (λ_ _=>False) I4 (tx Og) Qv go) λr s5 zq=>?_;obtain⟨u,hr,h5⟩:=zq;subst hr;refine iZ h5 λ_ s6 zq=>?_;obtain⟨x,H6,I6,r6,y6,OK,Ro⟩:=zq;have Ra:=I6.pinned (tx Ro) (T.obj _ _ OK);refine iZ (hg _ s6 qo H6 x u _ Ra r6 (step x H6 y6)) λ_ s7 zq=>?_;obtain⟨uc,H7,I7,q7⟩:=zq;refine iZ (ht _ s7 uc H7 _ I7 q7) λok s8 zq=>?_;obtain⟨H8,I8,q8⟩:=zq
   have again:∀{s9:Shared}{Ku:St}{H9:Hp}{m':Nat},dS (blk X scope N' ⟨kl,C,s3,H3,fp,X.pn++b7⟩) ([]++BY fp s6.heap) Ku H9 s9->m'<n->W (i+1) m' Ku H9 ->
     ∃m,m<n/\∃i g6 H',dS (blk X scope N' ⟨kl,C,s3,H3,fp,X.pn++b7⟩) [] g6 H' s9/\tn i s9.heap/\(∀b∈fp,H' b=none)/\W i m g6 H':=λ{s9 Ku H9 m'} I9 hm w9=>by
    refine⟨m',hm,i+1,Ku,H9,I9.unpinned,T.keep _ _ _ OK λb hb o e=>(I9.pin (b,o) (eJ _ (eJ _ (rV hb e)))).1,λb hb=>?_,w9⟩;obtain⟨o,e,d⟩:=T.obj _ _ OK b hb;exact(I9.pin (b,o) (eJ _ (eJ _ (rV hb e)))).2.1
   cases ok with
   |false=>
    obtain⟨m',hm,w8⟩:=q8;exact again I8 hm w8
   |true=>
    refine iZ (he _ s8 uc H8 _ I8 q8) λy s9 zq=>?_;obtain⟨yv,H9,I9,r9,ys,vm,hz,m',hm,w9⟩:=zq;refine iZ (nS (X:=blk X scope N' ⟨kl,C,s3,H3,fp,X.pn++b7⟩) _ s9 uc H9 (.ref ac) [yv] (.ref ac) [y] (λ_ H'=>H'=fM H9 ac (.lst (ys++[yv]))) I9 rfl (.cons r9 .nil) ⟨ac,ys,yv,rfl,rfl,vm,hz,rfl⟩) λ_ Dn zq=>?_;obtain⟨_,Wx,Qx,_,Rk⟩:=zq;subst Rk;exact again Qx hm w9
 exact codeAny_compStart_list loop (T.self _ 0 _ _ _ (T.keep 0 _ _ Jc λb _ o e=>keep b o e) loop)
def aJy(gh:X.calm=true)(iw:scope.kind=.function)(hz:vM scope.names)(EZ:tZ scope.names X.env.scope.names X.N N' fr=true)
  (iu:∀y∈scope.names,y.2=.free->X.env.scope.names.lookup y.1=some .cell) (sh:∀x∈scope.names,x.2=.local->scope.names.lookup x.1=some .local) (hi:PI X tg iter wi)
  (hY:∀b:BP,PG (blk X scope N' b) tg (g b)/\M3 (blk X scope N' b) cw (tt b)/\PE (blk X scope N' b) az (te b))
  (hs:∀x,j8 iter X.env x=pure x:=by intro _;rfl):PE X (.ListComp az [⟨tg,iter,cw,0⟩] scope pos) (NM fr wi g tt te):=by
 intro b7 s σ H Q I h;obtain⟨cl,xm,ir,ux⟩:=CM (env:=X.env) (scope:=scope) λy hy hk=>I.ok.has y.1 (.inl (iu y hy hk));rw[eval_ListComp];refine wn (use:=none) rfl hs xm iw sh (iZ (hi b7 s σ H _ I h) λv s1 h1=>iZ h1 λKo s2 h2=>?_);obtain⟨it,fp,tn,J,H2,rfl,I2,T,yk,f2,q⟩:=h2;refine JG (RR:=λacc C=>compPost (model X.prog X.w) X.A X.xe none (EP X b7 σ Q) acc C) gh iw hz EZ ir ux hY I2 T yk f2 q λacc C s' HY m I' f' hn q'=>?_;exact⟨m,hn,λh' sb=>⟨.ref acc,HY,I'.turned (t':=s'.toks) (λb o hb e=>(sb.2 b hb).trans e) f'.1 f'.2.1 f'.2.2.2.1 f'.2.2.2.2.1 f'.2.2.2.2.2,rfl,q'⟩⟩
def UB{i:Nat}{x:Str}{px nz:Pos}(hN:X.N.Nodup)(Bv:X.N[i]?=some x)(hx:SA X.env.scope x)(gh:X.calm=true)(iw:scope.kind=.function)(hz:vM scope.names)(EZ:tZ scope.names X.env.scope.names X.N N' fr=true)
  (iu:∀y∈scope.names,y.2=.free->X.env.scope.names.lookup y.1=some .cell) (sh:∀x∈scope.names,x.2=.local->scope.names.lookup x.1=some .local) (hi:PI X tg iter wi)
  (hY:∀b:BP,PG (blk X scope N' b) tg (g b)/\M3 (blk X scope N' b) cw (tt b)/\PE (blk X scope N' b) az (te b))
  (Nb:gX (.ListComp az [⟨tg,iter,cw,0⟩] scope pos) (some (.Name x px)) nz.line X.env=pure true)
  (hs:∀x,j8 iter X.env x=pure x:=by intro _;rfl) (hf:X.fn x=true\/X.env.scope.names.lookup x=some .local:=by first | exact .inl rfl | exact .inr rfl | assumption) :
  PS X (.Assign [.Name x px] (.ListComp az [⟨tg,iter,cw,0⟩] scope pos) nz) (wS (NM fr wi g tt te) (kG i)):=by
 intro b7 s σ H D I h;obtain⟨cl,xm,ir,ux⟩:=CM (env:=X.env) (scope:=scope) λy hy hk=>I.ok.has y.1 (.inl (iu y hy hk));rw[exec_Assign_Name_used _ _ _ _ Nb];refine aA (wpAny_standAt (aA ?_));show wpAny _ _ (do let _ <- comprehension (.ListComp az [⟨tg,iter,cw,0⟩] scope pos) scope X.env _ (newList []) false (eval iter X.env) (some (mr (.Name x px) X.env))) _ _ s
 refine aA (fV (wn (use:=some (mr (.Name x px) X.env)) (Q:=λ_ s'=>SP X b7 D .next s') rfl hs xm iw sh
  (iZ (hi b7 s σ H _ I h) λv s1 h1=>iZ h1 λKo s2 h2=>?_)) (λ_ s' hq=>aF (aF hq)) λ_ _ e=>e)
 obtain⟨it,fp,tn,J,H2,rfl,I2,T,yk,f2,q⟩:=h2;refine JG (RR:=λacc C=>compPost (model X.prog X.w) X.A X.xe (some (mr (.Name x px) X.env)) (λ_ s'=>SP X b7 D .next s') acc C) (Q:=λx H1=>kG i x σ H1 D.nx) gh iw hz EZ ir ux hY I2 T yk f2 q λacc C s' HY m I' f' hn q'=>?_;show wpAny _ _ (mr (.Name x px) X.env (.ref acc)) _ _ _;refine Gd (EF I' hN Bv hx (v:=.ref acc) rfl (λWl Qy jm=>?_) hf);obtain⟨a,sb,ha⟩:=jm
 have Ry:C≠a:=by
  rcases ha with z | z
  ·rw[z];exact f'.2.1
  ·exactλe=>f'.2.2.2.2.1 x a z e.symm
 exact⟨m,hn.sameBut sb Ry,λh' Wm=>⟨_,HY,Qy.turned (t':=Wl.toks) (λb o hb e=>(Wm.2 b hb).trans e) f'.1 f'.2.1 f'.2.2.2.1 f'.2.2.2.2.1 f'.2.2.2.2.2,q'⟩⟩
end
section
variable{prog:bX}{w:g7}{A:i5}{E:Value->Shared->Prop}{h:Heap}{g:Array GenState}{d:Drawn}{t:Nat}{os:OsState}{a C:Addr}{ox:Obj}{od:Option Obj}{K:aI}
structure CW(K:aI)(C:Addr):Prop where
 ga:eI K (.ref C) "__getattribute__"=some (some (.builtin "BaseException.__getattribute__"))
 gt:eI K (.ref C) "__getattr__"=some none
 cl:eI K (.ref C) "__class__"=some (some (.builtin "object.__class__"))
 ob:cG K C (.type "object")=some true
 be:cG K C (.type "BaseException")=some true
def XOk(K:aI)(C:Addr):Prop:=CW K C/\∀T∈["int","str","list","tuple","bool"],cP K (.ref C) (.type T)=some false
def R0{M nameV}{Q:Unit->Shared->Prop}(X:K.In h)(c:CW K C)(I:lO h a ox C od)(hq:Q () ⟨h,g,d,t,os⟩):wpAny M A (checkBuiltinCall "BaseException.__getattribute__" ⟨[.ref a,nameV],[]⟩) Q E ⟨h,g,d,t,os⟩:=by
 have hk:builtinKind "BaseException.__getattribute__"=some .slot:=by decide +kernel
 have Ep:splitId "BaseException.__getattribute__"=some ("BaseException","__getattribute__"):=by decide +kernel
 have ha:=F.args_bexc_ga (.ref a) nameV;have L0:=I.type (M:=M);have L1:=PySem.W.looks_mroIn (M:=M) X c.be;simp only[checkBuiltinCall,hk,Ep];refine aA ?_;unfold isInstance;refine aA (L0.at (L1.at ?_))
 repeat (first | exact hq | wp_step)
def GX{tk}{Q:Fin->Shared->Prop}(X:K.In h)(c:CW K C)(I:lO h a ox C od)(hq:Q (.done (.ret (.ref C))) ⟨h,g,d,t,os⟩) :
  wpAny (model prog w) A (fi.«object.__getattribute__» ⟨[.ref a,.str "__class__" tk],[]⟩) Q E ⟨h,g,d,t,os⟩:=by
 have Xe:(⟨h,g,d,t,os⟩:Shared).TypeIs (.builtin "object.__class__") "getset_descriptor":=wo;have f5:=wo;have f6:=F.slot_gs_get.lookup;have f7:=F.slot_gs_set.lookup;have L0:=I.type (M:=model prog w);have L1:=oE (M:=model prog w) X c.cl
 repeat (any_goals (first | assumption | with_reducible refine L0.at ?_ | with_reducible refine L1.at ?_ | wp_step))
 refine PySem.W.class_get (s:=⟨h,g,d,t,os⟩) X I c.ob ?_
 repeat (any_goals (first | assumption | wp_step))
def J1{tk}{R:Result->Shared->Prop}(X:K.In h)(c:CW K C)(I:lO h a ox C od)(hq:R (.ok (.ret (.ref C))) ⟨h,g,d,t,os⟩) :
  dz (model prog w) A (.call (.builtin "BaseException.__getattribute__") ⟨[.ref a,.str "__class__" tk],[]⟩) R ⟨h,g,d,t,os⟩:=
 Ak F.excAttr_ValueError.ga.plain F.entry_bexc_ga (R0 X c I (GX X c I hq))
def RZ{tk}{Q:Value->Shared->Prop}(X:K.In h)(c:CW K C)(I:lO h a ox C od)(hq:Q (.ref C) ⟨h,g,d,t,os⟩):wpAny (model prog w) A (getAttrBy (.ref a) (.str "__class__" tk) false) Q E ⟨h,g,d,t,os⟩:=by
 have f3:=F.excAttr_ValueError.ga.bind (.ref a);have Vl:(cj "BaseException.__getattribute__"==cj "object.__getattribute__")=false:=by decide +kernel
 have Xw:(onTheHeap (e8 C)&&cj "BaseException.__getattribute__"==cj "object.__getattribute__")=false:=by rw[Vl];rfl
 have L0:=I.type (M:=model prog w);have L1:=oE (M:=model prog w) X c.ga;have Rb:=oE (M:=model prog w) X c.gt
 repeat (any_goals (first | assumption | with_reducible refine L0.at ?_ | with_reducible refine L1.at ?_ | with_reducible refine Rb.at ?_ | wp_step))
 refine J1 X c I ?_
 repeat (any_goals (first | assumption | wp_step))
def J2{Q:Option Value->Shared->Prop}(X:K.In h)(c:CW K C)(I:lO h a ox C od)(hq:Q (some (.ref C)) ⟨h,g,d,t+1,os⟩):wpAny (model prog w) A (getAttr? (.ref a) "__class__") Q E ⟨h,g,d,t,os⟩:=by
 unfold getAttr? getAttrBy?
 repeat (any_goals (first | assumption | with_reducible apply RZ X c I | wp_step))
def JK(c:CW K C):PySem.W.KitX K (.ref a) (.ref C) (λh=>∃ox od,lO h a ox C od) where
 ty:=λ_ _ _ ⟨_,_,I⟩=>I.type
 it:=λ_ _ X _=>by
  obtain⟨cd,hc,_⟩:=HF.mp c.ob;unfold gA at hc;split at hc
  ·rename_i c' d' Rh Ny ho;intro A' Q' E' s' k q;unfold isType loadHead;exact aA (wpAny_loadPart (k _ _ (X _ _ ho)) (aF q))
  ·cases hc
 ne:=λh tp dd its n sl X Nc=>by
  obtain⟨cd,hc,_⟩:=HF.mp c.ob;refine XY.mpr λq=>?_;have e:C=tp:=Value.ref.inj (beq_iff_eq.mp q);subst e;unfold gA at hc;split at hc
  ·rename_i c' d' Rh Ny ho;have z:=(X _ _ ho).symm.trans Nc;cases z
  ·cases hc
 ca:=λ{_ _ _ _ _ s} X ⟨_,_,I⟩ k=>by
  obtain⟨hh,g,d,t,os⟩:=s;exact J2 X c I k
end
structure aL7(k:Nat)(A:i5):Prop where
 dp:A.depth+3*k+5<tu
 un:A.units+16*k+200<m4
 gd:A.guards=some []
def Room.h{k:Nat}{A}(r:Room k A):aL7 k A:=⟨r.dp,r.un,r.gd⟩
end L2
namespace TL
open L2
abbrev D:=PySem.PyData
def aFe(p:Addr)(h:Heap):Prop:=∃(its:List Value)(n:Nat),h.get? p=some { cls:=.type "list",data:=.seq its.toArray n }/\its.length<=1000/\∀v∈its,∃(i:Int)(t:Tok),v=.int i t/\0<=i/\i<4096
def qG(p C:Addr)(dx:Option Addr)(h:Heap):Prop:=∃o vs,h.get? p=some o/\o.cls=.ref C/\o.dict=dx/\o.data=.fields vs
def aD5(p q:Addr)(h:Heap):Prop:=∃(a b c:Int)(ta tb tc:Tok)(n:Nat),h.get? p=some { cls:=.type "list",data:=.seq [e8 q,.int a ta,.int b tb,.int c tc].toArray n }/\0<=a/\(c=0\/c=1)
def M8(e:Int×Addr×V)(x:u8):Prop:=x.hash=e.1/\x.key=.ref e.2.1/\fX e.2.2 x.val
def PX(p:Addr)(es:List (Int×Addr×V))(h:Heap):Prop:=(p==l3)=false/\es.length<=bM/\∃o xs ep,h.get? p=some o/\o.ExactDict/\o.data=.dict xs ep/\Paired M8 es xs.toList
noncomputable def kM(p:Addr)(es:List (Int×Addr×V)):HO:=.ext (PX p es)
def aGz(p:Addr)(es:List (Int×Addr×V))(ep:Nat)(h:Heap):Prop:=(p==l3)=false/\es.length<=bM/\∃o xs,h.get? p=some o/\o.ExactDict/\o.data=.dict xs ep/\Paired M8 es xs.toList
noncomputable def sI(p:Addr)(es:List (Int×Addr×V))(ep:Nat):HO:=.ext (aGz p es ep)
noncomputable def aBc(hs:List Int)(kvs:List (D×D)):D:=.dict ((.str "{}",.list (hs.map aM))::kvs)
mutual
inductive fW(K:aI)(H:Hp):D->V->Prop
|none:fW K H .none .non
|bool (b:Bool):fW K H (.bool b) (.bl b)
|int (i:Int):fW K H (.int i) (.int i)
|str (x:Str):fW K H (.str x) (.str x)
|list {p:Addr} {xs:List V} {ts:List D}:mN K H p xs->Reps K H ts xs->fW K H (.list ts) (.ref p)
|tuple {p:Addr} {xs:List V} {ts:List D}:vL K H p xs->Reps K H ts xs->fW K H (.tuple ts) (.ref p)
|wild {p:Addr}:H p=some (.ext (aFe p))->fW K H (.dict []) (.ref p)
|exc {p C:Addr}:XOk K C->H p=some (.ext (qG p C Option.none))->fW K H (.dict [(.int (C:Nat),.none)]) (.ref p)
|excA {p C dx:Addr} {n:Int}:XOk K C->H p=some (.ext (qG p C (some dx)))->H dx=some (.xd [("at",.int n)])->fW K H (.dict [(.int (C:Nat),.int n)]) (.ref p)
|excD {p C dx:Addr} {v:V} {cs:List D}:XOk K C->H p=some (.ext (qG p C (some dx)))->H dx=some (.xd [("case",v)])->fW K H (.tuple cs) v->fW K H (.dict [(.int (C:Nat),.tuple cs)]) (.ref p)
|tape {p q:Addr} {ns:List Int}:H p=some (.ext (aD5 p q))->mN K H q (ns.map V.int)->fW K H (.dict [(.none,.list (ns.map aM))]) (.ref p)
|dct {p:Addr} {es:List (Int×Addr×V)} {ep:Nat} {kvs:List (D×D)}:H p=some (sI p es ep)->(kvs.map (·.1)).Nodup->Reps K H (kvs.map (·.1)) (es.map λe=>.ref e.2.1)->Reps K H (kvs.map (·.2)) (es.map λe=>e.2.2)->fW K H (.dict ((.str "{}",.list ((es.map (·.1)).map aM))::kvs)) (.ref p)
|addr {p:Addr} (z:List D):fW K H (.dict [(.str "@",.list (.int (p:Nat)::z))]) (.ref p)
|ins {p C dx:Addr} {fs:List (Str×V)} {ds:List D}:H p=some (.ins C dx fs)->Reps K H ds (fs.map (·.2))->fW K H (.dict [(.str "obj",.tuple [.int (C:Nat),.list ((fs.map (·.1)).map aY),.list ds])]) (.ref p)
inductive Reps(K:aI)(H:Hp):List D->List V->Prop
|nil:Reps K H [] []
|cons {t:D} {ts:List D} {x:V} {xs:List V}:fW K H t x->Reps K H ts xs->Reps K H (t::ts) (x::xs)
end
variable{K:aI}{H H' H1 H2:Hp}
def bJ.seqT{a:Addr}{xs}(e:bJ H H')(h:vL K H a xs):vL K H' a xs:=by
 rcases h with(h | ⟨o,h⟩) | h
 ·exact .inl (.inl (e _ _ h))
 ·exact .inl (.inr ⟨o,e _ _ h⟩)
 ·exact .inr h
def fW.same(e:bJ H H'){d:D}{v:V}(r:fW K H d v):fW K H' d v:=
 fW.rec (motive_1:=λd v _=>fW K H' d v) (motive_2:=λds vs _=>Reps K H' ds vs) .none .bool .int .str (λq _ a=>.list (L2.bJ.seq e q) a) (λq _ a=>.tuple (bJ.seqT e q) a) (λh=>.wild (e _ _ h)) (λx h=>.exc x (e _ _ h)) (λx h g=>.excA x (e _ _ h) (e _ _ g))
  (λx h g _ a=>.excD x (e _ _ h) (e _ _ g) a) (λh g=>.tape (e _ _ h) (L2.bJ.seq e g)) (λh n _ _ a b=>.dct (e _ _ h) n a b) .addr (λh _ a=>.ins (e _ _ h) a) .nil (λ_ _ a b=>.cons a b) r
theorem Reps.same(e:bJ H H'){ds:List D}:∀{vs:List V},Reps K H ds vs->Reps K H' ds vs:=by
 induction ds with
 |nil=>intro vs r;cases r;exact .nil
 |cons d ds ih=>
  intro vs r
  cases r with
  |cons a b=>exact .cons (a.same e) (ih b)
theorem Reps.length:∀{ds:List D}{vs:List V},Reps K H ds vs->ds.length=vs.length
|_,_,.nil=>rfl
|_,_,.cons _ s=>by simp[Reps.length s]
theorem Reps.get:∀{ds vs}{i:Nat}{d},Reps K H ds vs->ds[i]?=some d->∃v,vs[i]?=some v/\fW K H d v
|_,_,_,_,.nil,e=>by simp at e
|_,_,0,_,.cons r _,e=>by simp at e;subst e;exact⟨_,rfl,r⟩
|_,_,i+1,d,.cons _ s,e=>by
 obtain⟨v,h1,h2⟩:=Reps.get (i:=i) (d:=d) s (by simpa using e);exact⟨v,by simpa using h1,h2⟩
theorem Reps.get':∀{ds vs}{i:Nat}{v},Reps K H ds vs->vs[i]?=some v->∃d,ds[i]?=some d/\fW K H d v
|_,_,_,_,.nil,e=>by simp at e
|_,_,0,_,.cons r _,e=>by simp at e;subst e;exact⟨_,rfl,r⟩
|_,_,i+1,d,.cons _ s,e=>by
 obtain⟨v,h1,h2⟩:=Reps.get' (i:=i) (v:=d) s (by simpa using e);exact⟨v,by simpa using h1,h2⟩
theorem Reps.append:∀{ds es vs us},Reps K H ds vs->Reps K H es us->Reps K H (ds++es) (vs++us)
|_,_,_,_,.nil,s=>s
|_,_,_,_,.cons r t,s=>.cons r (Reps.append t s)
theorem Reps.take:∀{ds:List D}{vs:List V}(n:Nat),Reps K H ds vs->Reps K H (ds.take n) (vs.take n)
|_,_,0,_=>.nil
|_,_,_+1,.nil=>.nil
|_,_,n+1,.cons r t=>.cons r (Reps.take n t)
theorem Reps.drop:∀{ds:List D}{vs:List V}(n:Nat),Reps K H ds vs->Reps K H (ds.drop n) (vs.drop n)
|_,_,0,r=>r
|_,_,_+1,.nil=>.nil
|_,_,n+1,.cons _ t=>Reps.drop n t
noncomputable def mask(H:Hp)(ps:List Addr):Hp:=λb=>if b∈ps then none else H b
def bT{ps}(e:bJ H H'):bJ (mask H ps) (mask H' ps):=λb o h=>by
 unfold mask at h |-
 by_cases hb:b∈ps
 ·rw[b9 hb]at h;cases h
 ·rw[b8 hb]at h |-;exact e b o h
def kQ{ps m3}(h:∀p∈m3,p∈ps):bJ (mask H ps) (mask H m3):=λb o e=>by
 unfold mask at e |-
 by_cases hb:b∈ps
 ·rw[b9 hb]at e;cases e
 ·rw[b8 hb]at e;rw[b8 λz=>hb (h b z)];exact e
def bP{ps}:bJ (mask H ps) H:=λb o e=>by
 unfold mask at e;by_cases hb:b∈ps
 ·rw[b9 hb]at e;cases e
 ·rw[b8 hb]at e;exact e
def lL{ps}{p:Addr}{o}(h:H p=none):mask (fM H p o) (p::ps)=mask H ps:=by
 funext b;unfold mask;by_cases hb:b=p
 ·subst hb;rw[b9 (aS ..),h];by_cases z:b∈ps<;>simp[z]
 ·rw[cI hb];by_cases z:b∈ps
  ·rw[b9 (aO _ z),b9 z]
  ·rw[b8 (λq=>(bE.mp q).elim hb z),b8 z]
def iA{ps}{p:Addr}{o}(h:p∈ps):mask (fM H p o) ps=mask H ps:=by
 funext b;unfold mask;by_cases hb:b=p
 ·subst hb;rw[b9 h,b9 h]
 ·rw[cI hb]
def dL{p:Addr}{o}(h:H p=none):bJ H (fM H p o):=λb u q=>by rw[cI (fL q h)];exact q
def kK{ps}{p:Addr}{o}(h:p∉ps)(e:H p=some o):mask H ps p=some o:=by
 unfold mask;rw[b8 h];exact e
noncomputable def MB:HO->Bool
|.tup _=>true
|.frz _ (.tup _)=>true
|_=>false
def C1(u:Option HO):Prop:=∃v,u=some v/\MB v=false
def C1.ne{u}(h:C1 u):u≠none:=λz=>by obtain⟨v,e,_⟩:=h;rw[z]at e;cases e
theorem C1.lst{xs}:C1 (some (.lst xs)):=⟨_,rfl,rfl⟩
def fE{ps:List Addr}{p:Addr}(live:∀q∈ps,C1 (H q))(h:H p=none):p∉ps:=λz=>(live p z).ne h
inductive Sl where
|un | val (d:D) | own (ts:List D) | dic (hs:List Int) (kvs:List (D×D))
def qI(K:aI)(B:Hp)(p0:List Addr)(H:Hp)(ps:List Addr)(σT:List Sl)(σ:L2.St):Prop:=∀(i:Nat)(hs:List Int)(kvs:List (D×D)),σT[i]?=some (.dic hs kvs) ->
 (∃(p:Addr)(es:List (Int×Addr×V)),σ[i]?=some (some (.ref p))/\p∈ps/\B p=none/\p∉p0/\H p=some (kM p es)/\hs=es.map (·.1)/\(kvs.map (·.1)).Nodup/\Reps K (mask H ps) (kvs.map (·.1)) (es.map λe=>.ref e.2.1)/\Reps K (mask H ps) (kvs.map (·.2)) (es.map λe=>e.2.2)) /\
 ∀(j:Nat)(fy:List Int)(ky:List (D×D)),σT[j]?=some (.dic fy ky)->i=j
def qI.to{B B':Hp}{p0 p0' ps m3 σT g8 σ g6}(o:qI K B p0 H ps σT σ)(jc:∀(i:Nat)(hs:List Int)(kvs:List (D×D)),g8[i]?=some (.dic hs kvs)->σT[i]?=some (.dic hs kvs)/\g6[i]?=σ[i]?)
  (hp:∀(p:Addr)(φ:Heap->Prop),p∈ps->H p=some (.ext φ)->p∉p0->p∈m3/\H' p=H p) (hB:∀(p:Addr)(φ:Heap->Prop),p∈ps->H p=some (.ext φ)->B p=none->p∉p0->B' p=none/\p∉p0') (hm:bJ (mask H ps) (mask H' m3)):qI K B' p0' H' m3 g8 g6:=λi hs kvs h=>by
 obtain⟨h1,h2⟩:=jc i hs kvs h;obtain⟨⟨p,es,a1,a2,a3,a4,a5,a6,a7,a8,a9⟩,u⟩:=o i hs kvs h1;obtain⟨b1,b2⟩:=hp p _ a2 a5 a4;obtain⟨c1,c2⟩:=hB p _ a2 a5 a3 a4;exact⟨⟨p,es,h2.trans a1,b1,c1,c2,b2.trans a5,a6,a7,a8.same hm,a9.same hm⟩,λj fy ky hj=>u j fy ky (jc j fy ky hj).1⟩
def A7{σT:List Sl}{i j:Nat}{s hs kvs}(hn:∀hs kvs,s≠.dic hs kvs)(h:(σT.set i s)[j]?=some (.dic hs kvs)):i≠j/\σT[j]?=some (.dic hs kvs):=by
 by_cases e:i=j
 ·subst e;have hi:i<σT.length:=by simpa using(aD.mp h).1
  rw[aV hi]at h;exact d8 (e9 h) (hn hs kvs)
 ·rw[aU e]at h;exact⟨e,h⟩
def qI.setS{B p0 ps}{σT:List Sl}{σ:L2.St}(o:qI K B p0 H ps σT σ){i:Nat}{s v}(hn:∀hs kvs,s≠.dic hs kvs):qI K B p0 H ps (σT.set i s) (σ.set i v):=
 o.to (λj hs kvs h=>let ⟨e,h'⟩:=A7 hn h;⟨h',aU e⟩) (λp φ a b _=>⟨a,rfl⟩) (λp φ _ _ a b=>⟨a,b⟩) (L2.bJ.refl _)
def qI.setT{B p0 ps}{σT:List Sl}{σ}(o:qI K B p0 H ps σT σ){i:Nat}{s}(hn:∀hs kvs,s≠.dic hs kvs):qI K B p0 H ps (σT.set i s) σ:=
 o.to (λj hs kvs h=>⟨(A7 hn h).2,rfl⟩) (λp φ a b _=>⟨a,rfl⟩) (λp φ _ _ a b=>⟨a,b⟩) (L2.bJ.refl _)
def qI.grow{B p0 ps σT σ}(o:qI K B p0 H ps σT σ)(e:bJ H H'):qI K B p0 H' ps σT σ:=
 o.to (λj hs kvs h=>⟨h,rfl⟩) (λp φ a b _=>⟨a,(e p _ b).trans b.symm⟩) (λp φ _ _ a b=>⟨a,b⟩) (bT e)
structure Ok(K:aI)(B:Hp)(p0:List Addr)(H:Hp)(ps:List Addr)(σT:List Sl)(σ:L2.St):Prop where
 base:bJ B H
 sub:∀p∈p0,p∈ps
 live:∀p∈ps,C1 (H p)
 len:σT.length=σ.length
 val:∀(i:Nat)(d:D),σT[i]?=some (.val d)->∃v,σ[i]?=some (some v)/\fW K (mask H ps) d v
 own:∀(i:Nat)(ts:List D),σT[i]?=some (.own ts)->∃p xs,σ[i]?=some (some (.ref p))/\p∈ps/\B p=none/\p∉p0/\H p=some (.lst xs)/\Reps K (mask H ps) ts xs
 dis:∀(i j:Nat)(ts us:List D)(p:Addr),σT[i]?=some (.own ts)->σT[j]?=some (.own us)->σ[i]?=some (some (.ref p))->σ[j]?=some (some (.ref p))->i=j
 dc:qI K B p0 H ps σT σ
variable{B:Hp}{p0 ps:List Addr}{σT:List Sl}{σ:L2.St}
theorem Ok.grow(o:Ok K B p0 H ps σT σ)(e:bJ H H'):Ok K B p0 H' ps σT σ where
 base:=o.base.trans e
 sub:=o.sub
 live:=λp hp=>let ⟨u,h1,h2⟩:=o.live p hp;⟨u,e p u h1,h2⟩
 len:=o.len
 val:=λi d h=>let ⟨v,h1,h2⟩:=o.val i d h;⟨v,h1,h2.same (bT e)⟩
 own:=λi ts h=>let ⟨p,xs,h1,h2,h3,h4,h5,h6⟩:=o.own i ts h;⟨p,xs,h1,h2,h3,h4,e _ _ h5,h6.same (bT e)⟩
 dis:=o.dis
 dc:=o.dc.grow e
theorem Ok.set(o:Ok K B p0 H ps σT σ){i:Nat}{d v}(r:fW K (mask H ps) d v):Ok K B p0 H ps (σT.set i (.val d)) (σ.set i (some v)) where
 base:=o.base
 sub:=o.sub
 live:=o.live
 len:=by simpa using o.len
 val:=λj d' h=>by
  by_cases e:i=j
  ·subst e
   have hi:i<σT.length:=by
    have:=(aD.mp h).1;simpa using this
   rw[aV hi]at h;cases h;exact⟨v,by rw[aV (by rw[<- o.len];exact hi)],r⟩
  ·rw[aU e]at h |-
   exact o.val j d' h
 own:=λj ts h=>by
  by_cases e:i=j
  ·subst e
   have hi:i<σT.length:=by
    have:=(aD.mp h).1;simpa using this
   rw[aV hi]at h;cases h
  ·rw[aU e]at h |-
   exact o.own j ts h
 dis:=λj k ts us p h1 h2 h3 h4=>by
  have ne:∀{l:Nat}{ts:List D},(σT.set i (.val d))[l]?=some (.own ts)->i≠l:=λ{l ts} h e=>by
   subst e
   have hi:i<σT.length:=by
    have:=(aD.mp h).1;simpa using this
   rw[aV hi]at h;cases h
  have e1:=ne h1;have e2:=ne h2;rw[aU e1]at h1 h3;rw[aU e2]at h2 h4;exact o.dis j k ts us p h1 h2 h3 h4
 dc:=o.dc.setS λ_ _ z=>nomatch z
def Ok.setOwn(o:Ok K B p0 H ps σT σ){i:Nat}{ts:List D}{xs:List V}{p:Addr}(hp:H p=none)(r:Reps K (mask H ps) ts xs):Ok K B p0 (fM H p (.lst xs)) (p::ps) (σT.set i (.own ts)) (σ.set i (some (.ref p))):=by
 have hm:mask (fM H p (.lst xs)) (p::ps)=mask H ps:=lL hp;have Mu:p∉ps:=fE o.live hp
 have hn:∀{l:Nat}{us:List D},i≠l->σT[l]?=some (.own us)->σ[l]?≠some (some (.ref p)):=λ{l us} _ h z=>by
  obtain⟨q,_,h1,h2,_⟩:=o.own l us h;rw[z]at h1;cases h1;exact Mu h2
 refine⟨o.base.trans (dL hp),λq hq=>aO _ (o.sub q hq),λq hq=>?_,by simpa using o.len,λj d h=>?_,λj us h=>?_,λj k us ws q h1 h2 h3 h4=>?_,?_⟩
 ·by_cases e:q=p
  ·subst e;rw[cM];exact .lst
  ·rw[cI e];rcases bE.mp hq with z | z
   ·exact d8 z e
   ·exact o.live q z
 ·rw[hm];by_cases e:i=j
  ·subst e;have hi:i<σT.length:=by simpa using(aD.mp h).1
   rw[aV hi]at h;cases h
  ·rw[aU e]at h |-
   exact o.val j d h
 ·rw[hm];by_cases e:i=j
  ·subst e;have hi:i<σT.length:=by simpa using(aD.mp h).1
   rw[aV hi]at h;cases h;refine⟨p,xs,by rw[aV (by rw[<- o.len];exact hi)],aS ..,?_,λz=>Mu (o.sub p z),cM,r⟩
   cases q:B p with
   |none=>rfl
   |some u=>rw[o.base p u q]at hp;cases hp
  ·rw[aU e]at h |-
   obtain⟨q,ys,h1,h2,h3,h4,h5,h6⟩:=o.own j us h;refine⟨q,ys,h1,aO _ h2,h3,h4,?_,h6⟩;rw[cI (λz:q=p=>Mu (z▸h2))];exact h5
 ·by_cases e1:i=j
  ·by_cases e2:i=k
   ·exact e1.symm.trans e2
   ·subst e1;have hi:i<σT.length:=by simpa using(aD.mp h1).1
    rw[aV (by rw[<- o.len];exact hi)]at h3;cases h3;rw[aU e2]at h2 h4;exact d8 h4 (hn e2 h2)
  ·by_cases e2:i=k
   ·subst e2;have hi:i<σT.length:=by simpa using(aD.mp h2).1
    rw[aV (by rw[<- o.len];exact hi)]at h4;cases h4;rw[aU e1]at h1 h3;exact d8 h3 (hn e1 h1)
   ·rw[aU e1]at h1 h3;rw[aU e2]at h2 h4;exact o.dis j k us ws q h1 h2 h3 h4
 ·exact(o.dc.setS (i:=i) (s:=.own ts) (v:=some (.ref p)) λ_ _ z=>nomatch z).to (λj hs kvs h=>⟨h,rfl⟩) (λq φ a b _=>⟨aO _ a,cI λz=>by rw[z,hp]at b;cases b⟩) (λq φ _ _ a b=>⟨a,b⟩) (by rw[hm];exact L2.bJ.refl _)
def Ok.write(o:Ok K B p0 H ps σT σ){i:Nat}{ts us ys}{p:Addr}(hi:σT[i]?=some (.own ts))(jc:σ[i]?=some (some (.ref p)))(r:Reps K (mask H ps) us ys) :
  Ok K B p0 (fM H p (.lst ys)) ps (σT.set i (.own us)) σ:=by
 obtain⟨q,zs,h1,h2,h3,h4,h5,h6⟩:=o.own i ts hi;rw[jc]at h1;cases h1;have hm:mask (fM H p (.lst ys)) ps=mask H ps:=iA h2;have uh:i<σT.length:=(aD.mp hi).1;refine⟨λb u e=>?_,o.sub,λq hq=>?_,by simpa using o.len,λj d h=>?_,λj ws h=>?_,λj k vs ws q k1 k2 k3 k4=>?_,?_⟩
 ·have ne:b≠p:=λz=>by rw[z,h3]at e;cases e
  rw[cI ne];exact o.base b u e
 ·by_cases e:q=p
  ·subst e;rw[cM];exact .lst
  ·rw[cI e];exact o.live q hq
 ·rw[hm];by_cases e:i=j
  ·subst e;rw[aV uh]at h;cases h
  ·rw[aU e]at h;exact o.val j d h
 ·rw[hm];by_cases e:i=j
  ·subst e;rw[aV uh]at h;cases h;exact⟨p,ys,jc,h2,h3,h4,cM,r⟩
  ·rw[aU e]at h;obtain⟨q,vs,k1,k2,k3,k4,k5,k6⟩:=o.own j ws h;refine⟨q,vs,k1,k2,k3,k4,?_,k6⟩;rw[cI (λz:q=p=>e (o.dis i j ts ws p hi h jc (z▸k1)))];exact k5
 ·have gf:∀{l:Nat}{vs:List D},(σT.set i (.own us))[l]?=some (.own vs)->∃Oa,σT[l]?=some (.own Oa):=λ{l vs} h=>by
   by_cases e:i=l
   ·subst e;exact⟨ts,hi⟩
   ·rw[aU e]at h;exact⟨vs,h⟩
  obtain⟨Oa,k1⟩:=gf k1;obtain⟨Wu,k2⟩:=gf k2;exact o.dis j k Oa Wu q k1 k2 k3 k4
 ·exact(o.dc.setT (i:=i) (s:=.own us) λ_ _ z=>nomatch z).to (λj hs kvs h=>⟨h,rfl⟩) (λq φ a b _=>⟨a,cI λz=>by rw[z,h5]at b;cases b⟩) (λq φ _ _ a b=>⟨a,b⟩) (by rw[hm];exact L2.bJ.refl _)
def Ok.share(o:Ok K B p0 H ps σT σ){i:Nat}{ts}(hi:σT[i]?=some (.own ts)):∃m3,Ok K B p0 H m3 (σT.set i (.val (.list ts))) σ/\bJ (mask H ps) (mask H m3):=by
 obtain⟨p,xs,h1,h2,h3,h4,h5,h6⟩:=o.own i ts hi;have uh:i<σT.length:=(aD.mp hi).1;have fj:bJ (mask H ps) (mask H (ps.filter λq=>decide (q≠p))):=kQ λq hq=>(bN.mp hq).1;have Mt:p∉ps.filter λq=>decide (q≠p):=λz=>(e7 (bN.mp z).2) rfl;refine⟨ps.filter λq=>decide (q≠p),⟨o.base,λq hq=>bN.mpr ⟨o.sub q hq,d7 λz=>h4 (z▸hq)⟩,λq hq=>o.live q (bN.mp hq).1,by simpa using o.len,λj d h=>?_,λj us h=>?_,λj k us ws q k1 k2 k3 k4=>?_,?_⟩,fj⟩
 ·by_cases e:i=j
  ·subst e;rw[aV uh]at h;cases h;exact⟨_,h1,.list (mN.of (kK Mt h5)) (h6.same fj)⟩
  ·rw[aU e]at h;obtain⟨v,k1,k2⟩:=o.val j d h;exact⟨v,k1,k2.same fj⟩
 ·by_cases e:i=j
  ·subst e;rw[aV uh]at h;cases h
  ·rw[aU e]at h;obtain⟨q,ys,k1,k2,k3,k4,k5,k6⟩:=o.own j us h;exact⟨q,ys,k1,bN.mpr ⟨k2,d7 λz=>e (o.dis i j ts us p hi h h1 (z▸k1))⟩,k3,k4,k5,k6.same fj⟩
 ·have gf:∀{l:Nat}{vs:List D},(σT.set i (.val (.list ts)))[l]?=some (.own vs)->σT[l]?=some (.own vs):=λ{l vs} h=>by
   by_cases e:i=l
   ·subst e;rw[aV uh]at h;cases h
   ·rw[aU e]at h;exact h
  exact o.dis j k us ws q (gf k1) (gf k2) k3 k4
 ·exact(o.dc.setT (i:=i) (s:=.val (.list ts)) λ_ _ z=>nomatch z).to (λj hs kvs h=>⟨h,rfl⟩) (λq φ a b _=>⟨bN.mpr ⟨a,d7 λz=>by rw[z,h5]at b;cases b⟩,rfl⟩) (λq φ _ _ a b=>⟨a,b⟩) fj
abbrev ET:=List Sl->(D->Prop)->Prop
abbrev yP:=List Sl->(Bool->Prop)->Prop
abbrev AT:=List Sl->(List D->Prop)->Prop
def gG(X:Cx)(e:Expr)(t:ET):Prop:=∃te:TE,PE X e te/\∀B p0 H ps σT σ (Q:D->Prop)(QV:VK),Ok X.K B p0 H ps σT σ->t σT Q ->
 (∀d v H',bJ H H'->fW X.K (mask H' ps) d v->Q d->QV v H')->te σ H QV
def KM(X:Cx)(e:Expr)(t:yP):Prop:=∃tt:TT,PT X e tt/\∀B p0 H ps σT σ (Q:Bool->Prop)(QV:Bool->Hp->Prop),Ok X.K B p0 H ps σT σ->t σT Q ->
 (∀b H',bJ H H'->Q b->QV b H')->tt σ H QV
def PWt(X:Cx)(e:Expr)(t:yP):Prop:=∃tt:TT,PW X e tt/\∀B p0 H ps σT σ (Q:Bool->Prop)(QV:Bool->Hp->Prop),Ok X.K B p0 H ps σT σ->t σT Q ->
 (∀b H',bJ H H'->Q b->QV b H')->tt σ H QV
def yQ(X:Cx)(es:List Expr)(t:AT):Prop:=∃ta:TA,PA X es ta/\∀B p0 H ps σT σ (Q:List D->Prop)(QV:List V->Hp->Prop),Ok X.K B p0 H ps σT σ->t σT Q ->
 (∀ds vs H',bJ H H'->Reps X.K (mask H' ps) ds vs->Q ds->QV vs H')->ta σ H QV
structure uG where
 nx:List Sl->Prop
 rt:D->Prop
 bk:List Sl->Prop:=λ_=>False
 ct:List Sl->Prop:=λ_=>False
 ro:List D->Prop:=λ_=>False
 rp:List D->List D->Prop:=λ_ _=>False
 rq:D->List D->Prop:=λ_ _=>False
 xB:Hp->Prop:=λ_=>True
abbrev rE:=uG->List Sl->Prop
structure KG(K:aI)(B:Hp)(p0:List Addr)(H:Hp)(ps:List Addr)(DT:uG)(DV:C9):Prop where
 nx:∀H' m3 g8 g6,Ok K B p0 H' m3 g8 g6->bJ (mask H ps) (mask H' m3)->DT.nx g8->DV.nx g6 H'
 bk:∀H' m3 g8 g6,Ok K B p0 H' m3 g8 g6->bJ (mask H ps) (mask H' m3)->DT.bk g8->DV.bk g6 H'
 ct:∀H' m3 g8 g6,Ok K B p0 H' m3 g8 g6->bJ (mask H ps) (mask H' m3)->DT.ct g8->DV.ct g6 H'
 rt:∀d v H',bJ B H'->fW K (mask H' p0) d v->DT.rt d->DV.rt v H'
 ro:∀ts p xs H',bJ B H'->B p=none->p∉p0->H' p=some (.lst xs)->Reps K (mask H' (p::p0)) ts xs->DT.ro ts->DV.rt (.ref p) H'
 rp:∀as bs r p q xs ys H',bJ B H'->B r=none->B p=none->B q=none->p≠q->H' r=some (.tup [.ref p,.ref q])->H' p=some (.lst xs)->H' q=some (.lst ys)->Reps K (mask H' (p::q::p0)) as xs->Reps K (mask H' (p::q::p0)) bs ys->DT.rp as bs->DV.rt (.ref r) H'
 rq:∀a ts r p x xs H',bJ B H'->B r=none->B p=none->H' r=some (.tup [x,.ref p])->H' p=some (.lst xs)->fW K (mask H' (p::p0)) a x->Reps K (mask H' (p::p0)) ts xs->DT.rq a ts->DV.rt (.ref r) H'
 xb:DT.xB B
def KG.later{DT DV m3}(f:KG K B p0 H ps DT DV)(e:bJ (mask H ps) (mask H' m3)):KG K B p0 H' m3 DT DV:=
 ⟨λ_ _ _ _ o s q=>f.nx _ _ _ _ o (e.trans s) q,λ_ _ _ _ o s q=>f.bk _ _ _ _ o (e.trans s) q,λ_ _ _ _ o s q=>f.ct _ _ _ _ o (e.trans s) q,f.rt,f.ro,f.rp,f.rq,f.xb⟩
def sT(X:Cx)(st:Stmt)(t:rE):Prop:=∃ts:TS,PS X st ts/\∀B p0 H ps σT σ (DT:uG)(DV:C9),Ok X.K B p0 H ps σT σ->t DT σT->KG X.K B p0 H ps DT DV->ts DV σ H
def rA(X:Cx)(st:List Stmt)(t:rE):Prop:=∃ts:TS,zI X st ts/\∀B p0 H ps σT σ (DT:uG)(DV:C9),Ok X.K B p0 H ps σT σ->t DT σT->KG X.K B p0 H ps DT DV->ts DV σ H
def zW(X:Cx)(r:R2)(f:D->D->(D->Prop)->Prop):Prop:=∀H ps(d1 d2:D)(x y:V)(Q:D->Prop)QV,(∀p∈ps,C1 (H p))->fW X.K (mask H ps) d1 x->fW X.K (mask H ps) d2 y->f d1 d2 Q ->
 (∀d v H',bJ H H'->fW X.K (mask H' ps) d v->Q d->QV v H')->r x y H QV
def sV(X:Cx)(r:List V->Hp->VK->Prop)(f:List D->(D->Prop)->Prop):Prop:=∀H ps(ds:List D)(xs:List V)(Q:D->Prop)QV,(∀p∈ps,C1 (H p))->Reps X.K (mask H ps) ds xs->f ds Q ->
 (∀d v H',bJ H H'->fW X.K (mask H' ps) d v->Q d->QV v H')->r xs H QV
section
variable{X:Cx}{a b e:Expr}{es:List Expr}{ta tb te:ET}{pos:Pos}
inductive aDm(σ:List Sl)(i:Nat)(Q:D->Prop):Prop
|mk (d:D) (h:σ[i]?=some (.val d)) (k:Q d):aDm σ i Q
def aA8(i:Nat):ET:=λσ Q=>aDm σ i Q
def eC(d:D):ET:=λ_ Q=>Q d
def aJ(i:Nat){x:Str}{pos}(hN:X.N[i]?=some x:=by rfl)(hv:Vis X.env.scope x:=by first | exact ag rfl | exact y8 (ag rfl) | exact y8 (y8 rfl))(hd:(x==("__debug__":Str))=false:=by decide)
  (my:(x==("__classdict__":Str))=false:=by decide):gG X (.Name x pos) (aA8 i):=
 ⟨_,UJ hN hv hd my,λB p0 H ps σT σ Q QV o h k=>by
  obtain⟨d,e,q⟩:=h;obtain⟨v,e1,r⟩:=o.val i d e;exact⟨v,e1,k d v H (L2.bJ.refl H) r q⟩⟩
def aP{i j pos}:gG X (.Constant (.int i) j pos) (eC (.int i)):=⟨_,LQ,λ_ _ H _ _ _ _ _ _ h k=>k _ _ H (L2.bJ.refl H) (.int i) h⟩
def kR{b j pos}:gG X (.Constant (.bool b) j pos) (eC (.bool b)):=⟨_,aJz,λ_ _ H _ _ _ _ _ _ h k=>k _ _ H (L2.bJ.refl H) (.bool b) h⟩
def uB{j pos}:gG X (.Constant .none j pos) (eC .none):=⟨_,aEy,λ_ _ H _ _ _ _ _ _ h k=>k _ _ H (L2.bJ.refl H) .none h⟩
def gT{x j pos}:gG X (.Constant (.str x) j pos) (eC (.str x)):=⟨_,pD,λ_ _ H _ _ _ _ _ _ h k=>k _ _ H (L2.bJ.refl H) (.str x) h⟩
def GR{x:Str}{i:Int}{t pos}(hg:Gl X x)(hm:X.mg x=some (.int i t))(hd:(x==("__debug__":Str))=false:=by decide):gG X (.Name x pos) (eC (.int i)):=⟨_,oV (v:=.int i) hg hm ⟨t,rfl⟩ hd,λ_ _ H _ _ _ _ _ _ h k=>k _ _ H (L2.bJ.refl H) (.int i) h⟩
def eOp(f:D->D->(D->Prop)->Prop)(ta tb:ET):ET:=λσ Q=>ta σ λx=>tb σ λy=>f x y Q
def A1{r}{f:D->D->(D->Prop)->Prop}(h2:zW X r f){va vb:TE}
  (ha:∀B p0 H ps σT σ (Q:D->Prop)(QV:VK),Ok X.K B p0 H ps σT σ->ta σT Q->(∀d v H',bJ H H'->fW X.K (mask H' ps) d v->Q d->QV v H')->va σ H QV)
  (hb:∀B p0 H ps σT σ (Q:D->Prop)(QV:VK),Ok X.K B p0 H ps σT σ->tb σT Q->(∀d v H',bJ H H'->fW X.K (mask H' ps) d v->Q d->QV v H')->vb σ H QV)
  (B:Hp) (p0:List Addr) (H:Hp) (ps:List Addr) (σT:List Sl) (σ:L2.St) (Q:D->Prop) (QV:VK) (o:Ok X.K B p0 H ps σT σ) (h:eOp f ta tb σT Q) (k:∀d v H',bJ H H'->fW X.K (mask H' ps) d v->Q d->QV v H'):tOp r va vb σ H QV:=by
 refine ha B p0 H ps σT σ _ _ o h λd1 x H1 s1 r1 q1=>?_;refine hb B p0 H1 ps σT σ _ _ (o.grow s1) q1 λd2 y H2 s2 r2 q2=>?_;exact h2 H2 ps d1 d2 x y Q QV ((o.grow s1).grow s2).live (r1.same (bT s2)) r2 q2 λd v H' s' r' q'=>k d v H' (s1.trans (s2.trans s')) r' q'
def dB{op r}{f:D->D->(D->Prop)->Prop}(ho:nP X (m9 op) r)(h2:zW X r f)(ha:gG X a ta)(hb:gG X b tb):gG X (.BinOp a op b pos) (eOp f ta tb):=by
 obtain⟨va,pa,ra⟩:=ha;obtain⟨vb,pb,rb⟩:=hb;exact⟨_,UL ho pa pb,A1 h2 ra rb⟩
def nT{op r}{f:D->D->(D->Prop)->Prop}(ho:nP X (i3 op) r)(h2:zW X r f)(ha:gG X a ta)(hb:gG X b tb)(hm:v9 op b=false:=by first | exact B1 _ | rfl):gG X (.Compare a [op] [b] pos) (eOp f ta tb):=by
 obtain⟨va,pa,ra⟩:=ha;obtain⟨vb,pb,rb⟩:=hb;exact⟨_,OE ho pa pb hm,A1 h2 ra rb⟩
def cS{r}{f:D->D->(D->Prop)->Prop}(ho:XT X r)(h2:zW X r f)(ha:gG X a ta)(hb:gG X b tb)(hs:yH b:=by intro _ _;rfl):gG X (.Subscript a b pos) (eOp f ta tb):=by
 obtain⟨va,pa,ra⟩:=ha;obtain⟨vb,pb,rb⟩:=hb;exact⟨_,OD ho pa pb hs,A1 h2 ra rb⟩
def aO0(ta:ET):ET:=λσ Q=>ta σ λx=>match x with | .int i=>Q (.int (-i)) | _=>False
def ML(ha:gG X a ta):gG X (.UnaryOp .USub a pos) (aO0 ta):=by
 obtain⟨va,pa,ra⟩:=ha;refine⟨_,aJw aDx pa,λB p0 H ps σT σ Q QV o h k=>ra B p0 H ps σT σ _ _ o h λd x H1 s1 r1 q1=>?_⟩
 cases r1 with
 |int i=>exact⟨i,rfl,k _ _ H1 s1 (.int _) q1⟩
 |_=>exact q1.elim
def XJ:AT:=λ_ Q=>Q []
def yG(t:ET)(r:AT):AT:=λσ Q=>t σ λx=>r σ λxs=>Q (x::xs)
def aR:yQ X [] XJ:=⟨_,hU,λ_ _ H _ _ _ _ _ _ h k=>k _ _ H (L2.bJ.refl H) .nil h⟩
def aC{tr}(ha:gG X e te)(hr:yQ X es tr)(hs:bS (e::es) X.env=(false,eval e X.env)::bS es X.env:=by rfl):yQ X (e::es) (yG te tr):=by
 obtain⟨va,pa,ra⟩:=ha;obtain⟨vr,pr,rr⟩:=hr;refine⟨_,dY pa pr hs,λB p0 H ps σT σ Q QV o h k=>ra B p0 H ps σT σ _ _ o h λd x H1 s1 r1 q1=>?_⟩;refine rr B p0 H1 ps σT σ _ _ (o.grow s1) q1 λds xs H2 s2 r2 q2=>?_;exact k _ _ H2 (s1.trans s2) (.cons (r1.same (bT s2)) r2) q2
def aOz(t:AT):ET:=λσ Q=>t σ λds=>ds.length<=1000/\Q (.tuple ds)
def aO1(t:AT):ET:=λσ Q=>t σ λds=>ds.length<=1000/\Q (.list ds)
def rN{ps:List Addr}{p:Addr}{ds:List D}{xs:List V}(live:∀q∈ps,C1 (H q))(hp:H p=none)(r:Reps K (mask H ps) ds xs):fW K (mask (fM H p (.tup xs)) ps) (.tuple ds) (.ref p):=
 .tuple (vL.of (kK (fE live hp) cM)) (r.same (bT (dL hp)))
def rO{ps:List Addr}{p:Addr}{ds:List D}{xs:List V}(live:∀q∈ps,C1 (H q))(hp:H p=none)(r:Reps K (mask H ps) ds xs):fW K (mask (fM H p (.lst xs)) ps) (.list ds) (.ref p):=
 .list (mN.of (kK (fE live hp) cM)) (r.same (bT (dL hp)))
def rX{n:Nat}(h:n<=1000):n<=bM:=pW (QG h)
def eB{x1 t}(h:yQ X es t):gG X (.Tuple es x1 pos) (aOz t):=by
 obtain⟨v,p,r⟩:=h;refine⟨_,LN p,λB p0 H ps σT σ Q QV o h k=>r B p0 H ps σT σ _ _ o h λds xs H1 s1 r1 q1=>⟨rX (by rw[<- r1.length];exact q1.1),λq hq=>?_⟩⟩;exact k _ _ _ (s1.trans (dL hq)) (rN (o.grow s1).live hq r1) q1.2
def pJ{t}(h:yQ X es t):gG X (.List es pos) (aO1 t):=by
 obtain⟨v,p,r⟩:=h;refine⟨_,LO p,λB p0 H ps σT σ Q QV o h k=>r B p0 H ps σT σ _ _ o h λds xs H1 s1 r1 q1=>⟨rX (by rw[<- r1.length];exact q1.1),λq hq=>?_⟩⟩;exact k _ _ _ (s1.trans (dL hq)) (rO (o.grow s1).live hq r1) q1.2
def oP(f:List D->(D->Prop)->Prop)(t:AT):ET:=λσ Q=>t σ λds=>f ds Q
abbrev oK:=List D->(D->Prop)->Prop
def dM(K:aI)(sp:oK):Sp:=λvs H Q _=>∃(ps:List Addr)(ds:List D)(QD:D->Prop),(∀p∈ps,C1 (H p))/\Reps K (mask H ps) ds vs/\sp ds QD/\∀d v H',bJ H H'->fW K (mask H' ps) d v->QD d->Q v H'
def aA1{k:Nat}{f:Addr}{fd pn sp x p t}(F:eK X.prog X.w X.K X.mg X.base jW k f fd pn (dM X.K sp))(hm:X.mg x=some (.ref f))(hk:fZ X.K (.ref f)=true)(hb:rB X.K fd pn [])
  (hr:Room k X.A) (ha:yQ X (e::es) t) (pc:∀{ta},PA X (e::es) ta->PE X (.Call (.Name x p) (e::es) [] pos) (EB (dM X.K sp) [] E0 ta)):gG X (.Call (.Name x p) (e::es) [] pos) (oP sp t):=by
 obtain⟨v,pa,ra⟩:=ha;refine⟨_,pc pa,λB p0 H ps σT σ Q QV o h k=>ra B p0 H ps σT σ _ _ o h λds xs H1 s1 r1 q1=>?_⟩;show dM X.K sp (xs++[]) H1 QV E0;rw[dP];exact⟨ps,ds,Q,(o.grow s1).live,r1,q1,λd v H' s' r' q'=>k d v H' (s1.trans s') r' q'⟩
def FE(t:ET):yP:=λσ Q=>t σ λx=>match x with | .bool b=>Q b | _=>False
def aDz(h:gG X e te)(pt:∀{t},PE X e t->PT X e (tB t)):KM X e (FE te):=by
 obtain⟨v,p,r⟩:=h;refine⟨_,pt p,λB p0 H ps σT σ Q QV o h k=>r B p0 H ps σT σ _ _ o h λd x H1 s1 r1 q1=>?_⟩
 cases r1 with
 |bool c=>exact⟨c,rfl,k c H1 s1 q1⟩
 |_=>exact q1.elim
def dR{op r}{f:D->D->(D->Prop)->Prop}(ho:nP X (i3 op) r)(h2:zW X r f)(ha:gG X a ta)(hb:gG X b tb)(hm:v9 op b=false:=by first | exact B1 _ | rfl):KM X (.Compare a [op] [b] pos) (FE (eOp f ta tb)):=by
 obtain⟨va,pa,ra⟩:=ha;obtain⟨vb,pb,rb⟩:=hb;refine⟨_,F7 ho pa pb hm,λB p0 H ps σT σ Q QV o h k=>?_⟩;refine A1 h2 ra rb B p0 H ps σT σ (λx=>match x with | .bool b=>Q b | _=>False) _ o h λd v H' s' r' q'=>?_
 cases r' with
 |bool c=>exact⟨c,rfl,k c H' s' q'⟩
 |_=>exact q'.elim
def aGg(t:yP):yP:=λσ Q=>t σ λb=>Q (!b)
def aO8(t u:yP):yP:=λσ Q=>t σ λb=>if b=true then u σ Q else Q false
def cOr(t u:yP):yP:=λσ Q=>t σ λb=>if b=true then Q true else u σ Q
variable{tA wu:yP}{fK:List Expr}
def rK(h:KM X a tA):KM X (.UnaryOp .Not a pos) (aGg tA):=by
 obtain⟨v,p,r⟩:=h;exact⟨_,aEt p,λB p0 H ps σT σ Q QV o h k=>r B p0 H ps σT σ _ _ o h λb H' s' q'=>k _ H' s' q'⟩
def wA(h:PWt X e tA):KM X e tA:=by
 obtain⟨v,p,r⟩:=h;exact⟨_,p.pt,r⟩
def FW(h:KM X a tA):PWt X (.BoolOp .And [a] pos) tA:=by
 obtain⟨v,p,r⟩:=h;exact⟨_,N8 p,r⟩
def wR(h:KM X a tA):PWt X (.BoolOp .Or [a] pos) tA:=by
 obtain⟨v,p,r⟩:=h;exact⟨_,aEs p,r⟩
def BE(ha:KM X a tA)(hb:PWt X (.BoolOp .And (b::fK) pos) wu):PWt X (.BoolOp .And (a::b::fK) pos) (aO8 tA wu):=by
 obtain⟨va,pa,ra⟩:=ha;obtain⟨vb,pb,rb⟩:=hb;refine⟨_,T9 pa pb,λB p0 H ps σT σ Q QV o h k=>ra B p0 H ps σT σ _ _ o h λc H1 s1 q1=>?_⟩
 cases c with
 |true=>exact rb B p0 H1 ps σT σ Q _ (o.grow s1) q1 λb H' s' q'=>k b H' (s1.trans s') q'
 |false=>exact k _ H1 s1 q1
def wB(ha:KM X a tA)(hb:PWt X (.BoolOp .Or (b::fK) pos) wu):PWt X (.BoolOp .Or (a::b::fK) pos) (cOr tA wu):=by
 obtain⟨va,pa,ra⟩:=ha;obtain⟨vb,pb,rb⟩:=hb;refine⟨_,aJs pa pb,λB p0 H ps σT σ Q QV o h k=>ra B p0 H ps σT σ _ _ o h λc H1 s1 q1=>?_⟩
 cases c with
 |true=>exact k _ H1 s1 q1
 |false=>exact rb B p0 H1 ps σT σ Q _ (o.grow s1) q1 λb H' s' q'=>k b H' (s1.trans s') q'
def aO4(ta tb:ET):ET:=λσ Q=>ta σ λx=>match x with | .bool c=>if c=true then tb σ Q else Q (.bool false) | _=>False
def eOr(ta tb:ET):ET:=λσ Q=>ta σ λx=>match x with | .bool c=>if c=true then Q (.bool true)else tb σ Q | _=>False
def sE{op}(h:gG X a ta):gG X (.BoolOp op [a] pos) ta:=by
 obtain⟨v,p,r⟩:=h;exact⟨_,aEw p,r⟩
def sG(ha:gG X a ta)(hb:gG X (.BoolOp .And (b::fK) pos) tb):gG X (.BoolOp .And (a::b::fK) pos) (aO4 ta tb):=by
 obtain⟨va,pa,ra⟩:=ha;obtain⟨vb,pb,rb⟩:=hb;refine⟨_,aE0 pa pb,λB p0 H ps σT σ Q QV o h k=>ra B p0 H ps σT σ _ _ o h λd x H1 s1 r1 q1=>?_⟩
 cases r1 with
 |bool c=>
  refine⟨c,rfl,?_⟩
  cases c with
  |true=>exact rb B p0 H1 ps σT σ Q _ (o.grow s1) q1 λd v H' s' r' q'=>k d v H' (s1.trans s') r' q'
  |false=>exact k _ _ H1 s1 (.bool false) q1
 |_=>exact q1.elim
def aLk(ha:gG X a ta)(hb:gG X (.BoolOp .Or (b::fK) pos) tb):gG X (.BoolOp .Or (a::b::fK) pos) (eOr ta tb):=by
 obtain⟨va,pa,ra⟩:=ha;obtain⟨vb,pb,rb⟩:=hb;refine⟨_,aJx pa pb,λB p0 H ps σT σ Q QV o h k=>ra B p0 H ps σT σ _ _ o h λd x H1 s1 r1 q1=>?_⟩
 cases r1 with
 |bool c=>
  refine⟨c,rfl,?_⟩
  cases c with
  |false=>exact rb B p0 H1 ps σT σ Q _ (o.grow s1) q1 λd v H' s' r' q'=>k d v H' (s1.trans s') r' q'
  |true=>exact k _ _ H1 s1 (.bool true) q1
 |_=>exact q1.elim
def WY(f g:D->D->(D->Prop)->Prop)(ta tb tc:ET):ET:=λσ Q=>ta σ λx=>tb σ λy=>f x y λz=>match z with | .bool c=>if c=true then tc σ λw=>g y w Q else Q (.bool false) | _=>False
end
end TL
namespace TL
open L2
variable{K:aI}{H H' H1 H2:Hp}{B:Hp}{p0 ps:List Addr}{σT:List Sl}{σ:L2.St}
section
variable{X:Cx}{a b c e:Expr}{es:List Expr}{ta tb tc te:ET}{pos:Pos}
def MT{r r'}{f g:D->D->(D->Prop)->Prop}(h2:zW X r f)(uw:zW X r' g){va vb vc:TE}
  (ha:∀B p0 H ps σT σ (Q:D->Prop)(QV:VK),Ok X.K B p0 H ps σT σ->ta σT Q->(∀d v H',bJ H H'->fW X.K (mask H' ps) d v->Q d->QV v H')->va σ H QV)
  (hb:∀B p0 H ps σT σ (Q:D->Prop)(QV:VK),Ok X.K B p0 H ps σT σ->tb σT Q->(∀d v H',bJ H H'->fW X.K (mask H' ps) d v->Q d->QV v H')->vb σ H QV)
  (hc:∀B p0 H ps σT σ (Q:D->Prop)(QV:VK),Ok X.K B p0 H ps σT σ->tc σT Q->(∀d v H',bJ H H'->fW X.K (mask H' ps) d v->Q d->QV v H')->vc σ H QV)
  (B:Hp) (p0:List Addr) (H:Hp) (ps:List Addr) (σT:List Sl) (σ:L2.St) (Q:D->Prop) (QV:VK) (o:Ok X.K B p0 H ps σT σ) (h:WY f g ta tb tc σT Q) (k:∀d v H',bJ H H'->fW X.K (mask H' ps) d v->Q d->QV v H'):S9 r r' va vb vc σ H QV:=by
 refine ha B p0 H ps σT σ _ _ o h λd1 x H1 s1 r1 q1=>?_;refine hb B p0 H1 ps σT σ _ _ (o.grow s1) q1 λd2 y H2 s2 r2 q2=>?_;refine h2 H2 ps d1 d2 x y _ _ ((o.grow s1).grow s2).live (r1.same (bT s2)) r2 q2 λd3 z H3 s3 r3 q3=>?_
 cases r3 with
 |bool c=>
  refine⟨c,rfl,?_⟩
  cases c with
  |false=>exact k _ _ H3 (s1.trans (s2.trans s3)) (.bool false) q3
  |true=>
   refine hc B p0 H3 ps σT σ _ _ (((o.grow s1).grow s2).grow s3) q3 λd4 w H4 s4 r4 q4=>?_;exact uw H4 ps d2 d4 y w Q QV ((((o.grow s1).grow s2).grow s3).grow s4).live ((r2.same (bT s3)).same (bT s4)) r4 q4 λd v H' s' r' q'=>k d v H' (s1.trans (s2.trans (s3.trans (s4.trans s')))) r' q'
 |_=>exact q3.elim
def JU{op op' r r'}{f g:D->D->(D->Prop)->Prop}(ho:nP X (i3 op) r)(xu:nP X (i3 op') r')(h2:zW X r f)(uw:zW X r' g)(ha:gG X a ta)(hb:gG X b tb)(hc:gG X c tc)
  (hm:lastMarks [op,op'] [b,c]=false:=by with_unfolding_all rfl):gG X (.Compare a [op,op'] [b,c] pos) (WY f g ta tb tc):=by
 obtain⟨va,pa,ra⟩:=ha;obtain⟨vb,pb,rb⟩:=hb;obtain⟨vc,pc,rc⟩:=hc;exact⟨_,UR ho xu pa pb pc hm,MT h2 uw ra rb rc⟩
abbrev OT:=List Sl->(Option Int->Prop)->Prop
def POt(X:Cx)(e:Option Expr)(t:OT):Prop:=∃to:TO,PO X e to/\∀B p0 H ps σT σ (Q:Option Int->Prop)(QV:Option Int->Hp->Prop),Ok X.K B p0 H ps σT σ->t σT Q ->
 (∀i H',bJ H H'->Q i->QV i H')->to σ H QV
def aKz:OT:=λ_ Q=>Q none
def aKy(t:ET):OT:=λσ Q=>t σ λx=>match x with | .int i=>Q (some i) | _=>False
def mH:POt X none aKz:=⟨_,ZG,λ_ _ H _ _ _ _ _ _ h k=>k _ H (L2.bJ.refl H) h⟩
def lF(h:gG X e te):POt X (some e) (aKy te):=by
 obtain⟨v,p,r⟩:=h;refine⟨_,ZF p,λB p0 H ps σT σ Q QV o h k=>r B p0 H ps σT σ _ _ o h λd x H1 s1 r1 q1=>?_⟩
 cases r1 with
 |int i=>exact⟨i,rfl,k _ H1 s1 q1⟩
 |_=>exact q1.elim
def SlT(X:Cx)(r:V->Option Int->Option Int->Hp->VK->Prop)(f:D->Option Int->Option Int->(D->Prop)->Prop):Prop:=∀H ps(d:D)(x:V)(lo hi:Option Int)(Q:D->Prop)QV,(∀p∈ps,C1 (H p))->fW X.K (mask H ps) d x->f d lo hi Q ->
 (∀d v H',bJ H H'->fW X.K (mask H' ps) d v->Q d->QV v H')->r x lo hi H QV
def eSl(f:D->Option Int->Option Int->(D->Prop)->Prop)(t:ET)(tl th:OT):ET:=λσ Q=>t σ λx=>tl σ λl=>th σ λu=>f x l u Q
def jY{r:V->Option Int->Option Int->Hp->VK->Prop}{f:D->Option Int->Option Int->(D->Prop)->Prop}{lo hi tl th p2}(hr:XN X r)(h2:SlT X r f)(he:gG X e te)(hl:POt X lo tl)(hu:POt X hi th) :
  gG X (.Subscript e (.Slice lo hi none p2) pos) (eSl f te tl th):=by
 obtain⟨ve,pe,re⟩:=he;obtain⟨vl,pl,rl⟩:=hl;obtain⟨vu,pu,ru⟩:=hu;refine⟨_,UK hr pe pl pu,λB p0 H ps σT σ Q QV o h k=>re B p0 H ps σT σ _ _ o h λd x H1 s1 r1 q1=>?_⟩;refine rl B p0 H1 ps σT σ _ _ (o.grow s1) q1 λl H2 s2 q2=>?_;refine ru B p0 H2 ps σT σ _ _ ((o.grow s1).grow s2) q2 λu H3 s3 q3=>?_;exact h2 H3 ps d x l u Q QV (((o.grow s1).grow s2).grow s3).live ((r1.same (bT s2)).same (bT s3)) q3 λd v H' s' r' q'=>k d v H' (s1.trans (s2.trans (s3.trans s'))) r' q'
variable{st:Stmt}{fK:List Stmt}{t u:rE}
def lZ:rE:=λDT σ=>DT.nx σ
def iY(t u:rE):rE:=λDT σ=>t { DT with nx:=u DT } σ
def gD:rA X [] lZ:=⟨_,F9,λB p0 H ps σT σ DT DV o h f=>f.nx H ps σT σ o (L2.bJ.refl _) h⟩
def bI(h1:sT X st t)(h2:rA X fK u):rA X (st::fK) (iY t u):=by
 obtain⟨v1,p1,r1⟩:=h1;obtain⟨v2,p2,r2⟩:=h2;refine⟨_,tO p1 p2,λB p0 H ps σT σ DT DV o h f=>r1 B p0 H ps σT σ { DT with nx:=u DT } { DV with nx:=v2 DV } o h ⟨λH' m3 g8 g6 o' s' q'=>?_,f.bk,f.ct,f.rt,f.ro,f.rp,f.rq,f.xb⟩⟩;exact r2 B p0 H' m3 g8 g6 DT DV o' q' (f.later s')
def bW(h1:sT X st t):rA X [st] t:=by
 obtain⟨v1,p1,r1⟩:=h1;exact⟨_,F8 p1,r1⟩
def aEg(i:Nat)(t:rE):rE:=λDT σ=>∃ts,σ[i]?=some (.own ts)/\t DT (σ.set i (.val (.list ts)))
def tG{sts}(i:Nat)(h:rA X sts t):rA X sts (aEg i t):=by
 obtain⟨v,p,r⟩:=h;refine⟨_,p,λB p0 H ps σT σ DT DV o h f=>?_⟩;obtain⟨ts,e,h⟩:=h;obtain⟨m3,o',s'⟩:=o.share e;exact r B p0 H m3 _ σ DT DV o' h (f.later s')
def LB(te:ET):rE:=λDT σ=>te σ DT.rt
def dC(h:gG X e te):sT X (.Return (some e) pos) (LB te):=by
 obtain⟨v,p,r⟩:=h;refine⟨_,BU p,λB p0 H ps σT σ DT DV o h f=>r B p0 H ps σT σ _ _ o h λd x H' s' r' q'=>?_⟩;exact f.rt d x H' (o.base.trans s') (r'.same (kQ o.sub)) q'
def sIf(c:yP)(t u:rE):rE:=λDT σ=>c σ λb=>if b=true then t DT σ else u DT σ
def iS{c a b tc}(hc:KM X c tc)(ha:rA X a t)(hb:rA X b u):sT X (.If c a b pos) (sIf tc t u):=by
 obtain⟨vc,pc,rc⟩:=hc;obtain⟨va,pa,ra⟩:=ha;obtain⟨vb,pb,rb⟩:=hb;refine⟨_,aCp pc pa pb,λB p0 H ps σT σ DT DV o h f=>rc B p0 H ps σT σ _ _ o h λd H1 s1 q1=>?_⟩
 cases d with
 |true=>exact ra B p0 H1 ps σT σ DT DV (o.grow s1) q1 (f.later (bT s1))
 |false=>exact rb B p0 H1 ps σT σ DT DV (o.grow s1) q1 (f.later (bT s1))
def AE(i:Nat)(te:ET):rE:=λDT σ=>te σ λd=>DT.nx (σ.set i (.val d))
def TD{i:Nat}{x o9}(h:gG X e te)(m3:∀{v},PE X e v->PS X (.Assign [.Name x o9] e pos) (wS v (kG i))):sT X (.Assign [.Name x o9] e pos) (AE i te):=by
 obtain⟨v,p,r⟩:=h;refine⟨_,m3 p,λB p0 H ps σT σ DT DV o h f=>r B p0 H ps σT σ _ _ o h λd x H' s' r' q'=>?_⟩;exact f.nx H' ps _ _ ((o.grow s').set r') (bT s') q'
def aEh(i:Nat)(t:AT):rE:=λDT σ=>t σ λds=>ds.length<=1000/\DT.nx (σ.set i (.own ds))
def aD8{i:Nat}{x o9 p2 t}(h:yQ X es t)(m3:∀{v},PE X (.List es p2) v->PS X (.Assign [.Name x o9] (.List es p2) pos) (wS v (kG i))):sT X (.Assign [.Name x o9] (.List es p2) pos) (aEh i t):=by
 obtain⟨v,p,r⟩:=h;refine⟨_,m3 (LO p),λB p0 H ps σT σ DT DV o h f=>r B p0 H ps σT σ _ _ o h λds xs H1 s1 r1 q1=>⟨rX (by rw[<- r1.length];exact q1.1),λq hq=>?_⟩⟩;exact f.nx _ (q::ps) _ _ ((o.grow s1).setOwn hq r1) ((bT s1).trans (by rw[lL hq];exact L2.bJ.refl _)) q1.2
def aJf(i:Nat)(te:ET):rE:=λDT σ=>∃ts,σ[i]?=some (.own ts)/\te σ λd=>ts.length<=100000/\DT.nx (σ.set i (.own (ts++[d])))
def yS{i:Nat}{n e te ap cp}(hn:PE X n (pU i))(he:gG X e te)(hs:bS [e] X.env=(false,eval e X.env)::bS [] X.env:=by rfl)
  (pb:∀{ta},PA X [e] ta->PS X (.Expr (.Call (.Attribute n "append" ap) [e] [] cp) pos) (S8 (tBM X.K "list" N6 (pU i) ta))):sT X (.Expr (.Call (.Attribute n "append" ap) [e] [] cp) pos) (aJf i te):=by
 obtain⟨v,p,r⟩:=he;refine⟨_,pb (dY p hU hs),λB p0 H ps σT σ DT DV o h f=>?_⟩;obtain⟨ts,e,h⟩:=h;obtain⟨q,xs,h1,h2,h3,h4,h5,h6⟩:=o.own i ts e;refine⟨.ref q,h1,.inl ⟨rfl,xs,mN.of h5⟩,r B p0 H ps σT σ _ _ o h λd x H1 s1 r1 q1=>?_⟩;refine⟨q,xs,x,rfl,rfl,s1 _ _ h5,?_,?_⟩
 ·rw[<- h6.length];have:bM=2^24:=rfl;omega
 ·have o1:=o.grow s1;have hr:Reps X.K (mask H1 ps) (ts++[d]) (xs++[x]):=(h6.same (bT s1)).append (.cons r1 .nil);exact f.nx _ ps _ σ (o1.write (ys:=xs++[x]) e h1 hr) ((bT s1).trans (by rw[iA h2];exact L2.bJ.refl _)) q1.2
noncomputable def IE(x:Str):List D:=x.cps.toList.map λc=>.str ⟨#[c]⟩
noncomputable def OZ:D->Option (List D)
|.list ts=>some ts
|.tuple ts=>some ts
|.str x=>some (IE x)
|_=>none
def mQ(σ:List Sl):Prop:=∀(i:Nat)(s:Sl),(∀d,s≠.val d)->s≠.un->σ[i]?≠some s
def kX{σ:List Sl}(h:mQ σ)(i:Nat)(d:D):mQ (σ.set i (.val d)):=λj s hv hu e=>by
 by_cases z:i=j
 ·subst z;have hi:i<σ.length:=by simpa using(aD.mp e).1
  rw[aV hi]at e;exact hv d (e9 e).symm
 ·rw[aU z]at e;exact h j s hv hu e
theorem mQ.own{σ}(h:mQ σ)(i:Nat)(ts:List D):σ[i]?≠some (.own ts):=h i _ (λ_ z=>nomatch z) λz=>nomatch z
theorem mQ.dic{σ}(h:mQ σ)(i:Nat)(hs:List Int)(kvs:List (D×D)):σ[i]?≠some (.dic hs kvs):=h i _ (λ_ z=>nomatch z) λz=>nomatch z
abbrev GT:=D->List Sl->(List Sl->Prop)->Prop
def FK(X:Cx)(tg:Expr)(g:GT):Prop:=∃gv:TG,PG X tg gv/\∀B p0 H ps σT σ (d:D)(v:V)(Q:List Sl->Prop)(QV:L2.St->Hp->Prop),Ok X.K B p0 H ps σT σ->fW X.K (mask H ps) d v->g d σT Q ->
 (∀g8 g6,Ok X.K B p0 H ps g8 g6->(mQ σT->mQ g8)->Q g8->QV g6 H)->gv v σ H QV
def gN(i:Nat):GT:=λd σ Q=>Q (σ.set i (.val d))
def dZ{i:Nat}{x p}(h:PG X (.Name x p) (kG i)):FK X (.Name x p) (gN i):=
 ⟨_,h,λB p0 H ps σT σ d v Q QV o r h k=>k _ _ (o.set r) (λn=>kX n _ _) h⟩
def gP(i j:Nat):GT:=λd σ Q=>∃a b,d=.tuple [a,b]/\Q ((σ.set i (.val a)).set j (.val b))
def rZ{i j:Nat}{t}(h:PG X t (aAr X.K 2 (wG (kG i) (wG (kG j) aAs)))):FK X t (gP i j):=
 ⟨_,h,λB p0 H ps σT σ d v Q QV o r h k=>by
  obtain⟨a,b,rfl,h⟩:=h
  cases r with
  |@tuple p xs _ hq r=>
   cases r with
   |cons ra r=>
    cases r with
    |cons rb r=>
     cases r;exact⟨_,_,rfl,bJ.seqT bP hq,rfl,_,_,rfl,_,_,rfl,rfl,k _ _ ((o.set ra).set rb) (λn=>kX (kX n _ _) _ _) h⟩⟩
structure XO(K:aI)(Hs:Hp)(ts:List D)(J:It):Prop where
 stop:∀(i:Nat)H,bJ Hs H->ts.length<=i->J.stop i H
 go:∀(i:Nat)H,bJ Hs H->i<ts.length->J.go i H
 yld:∀(i:Nat)H ps(y:V)H',(∀p∈ps,C1 (H p))->bJ Hs (mask H ps)->i<ts.length->J.yld i H y H'->bJ H H'/\∃dx,ts[i]?=some dx/\fW K (mask H' ps) dx y
abbrev IT:=List Sl->(List D->Prop)->Prop
def D3(X:Cx)(tg iter:Expr)(t:IT):Prop:=∃wi:TI,PI X tg iter wi/\∀B p0 H ps σT σ (Q:List D->Prop)(R:It->Hp->Prop),Ok X.K B p0 H ps σT σ->t σT Q ->
 (∀ts J H',bJ H H'->XO X.K (mask H' ps) ts J->Q ts->R J H')->wi σ H R
def aOp(te:ET):IT:=λσ Q=>te σ λd=>∃ts,OZ d=some ts/\Q ts
def Y3{x d ts Hs}(r:fW K Hs d x)(hi:OZ d=some ts){R:It->Hp->Prop}(hs:bJ Hs H1)(h:∀J:It,XO K Hs ts J->R J H1) :
  (∃a,x=.ref a/\(∃xs,mN K H1 a xs)/\R (Itl K a) H1)\/(∃a,x=.ref a/\(∃xs,vL K H1 a xs)/\R (Itt K a) H1)\/∃z,x=.str z/\R (Its z) H1:=by
 cases r with
 |@list p xs us q rs=>
  obtain rfl:us=ts:=e9 hi;refine .inl ⟨p,rfl,⟨xs,L2.bJ.seq hs q⟩,h _ ⟨λi H e hl=>⟨xs,L2.bJ.seq e q,by rw[<- rs.length];exact hl⟩,λi H e hl=>?_,λi H ps y H' _ e hl hy=>?_⟩⟩
  ·obtain⟨v,hv,_⟩:=rs.get (aG hl);exact⟨xs,v,L2.bJ.seq e q,hv⟩
  ·obtain⟨rfl,hy⟩:=hy;obtain⟨dx,h1,h2⟩:=rs.get' (hy xs (L2.bJ.seq (e.trans bP) q));exact⟨L2.bJ.refl _,dx,h1,h2.same e⟩
 |@tuple p xs us q rs=>
  obtain rfl:us=ts:=e9 hi;refine .inr (.inl ⟨p,rfl,⟨xs,bJ.seqT hs q⟩,h _ ⟨λi H e hl=>⟨xs,bJ.seqT e q,by rw[<- rs.length];exact hl⟩,λi H e hl=>?_,λi H ps y H' _ e hl hy=>?_⟩⟩)
  ·obtain⟨v,hv,_⟩:=rs.get (aG hl);exact⟨xs,v,bJ.seqT e q,hv⟩
  ·obtain⟨rfl,hy⟩:=hy;obtain⟨dx,h1,h2⟩:=rs.get' (hy xs (bJ.seqT (e.trans bP) q));exact⟨L2.bJ.refl _,dx,h1,h2.same e⟩
 |str z=>
  obtain rfl:IE z=ts:=e9 hi;have hl:(IE z).length=z.cps.size:=by unfold IE;simp
  refine .inr (.inr ⟨z,rfl,h _ ⟨λi H _ e=>by rw[hl]at e;exact e,λi H _ e=>by rw[hl]at e;exact e,λi H ps y H' _ _ e hy=>?_⟩⟩);obtain⟨rfl,c,h2,rfl⟩:=hy;refine⟨L2.bJ.refl _,.str ⟨#[c]⟩,?_,.str _⟩;unfold IE;rw[aH];have:z.cps.toList[i]?=some c:=by simpa using h2
  rw[this];rfl
 |_=>cases hi
def fJ{tg}(he:gG X e te):D3 X tg e (aOp te):=by
 obtain⟨ve,pe,re⟩:=he;refine⟨_,aEv pe,λB p0 H ps σT σ Q R o h k=>re B p0 H ps σT σ _ _ o h λd x H1 s1 r1 q1=>?_⟩;obtain⟨ts,hi,q⟩:=q1;exact Y3 r1 hi bP λJ rj=>k ts J H1 s1 rj q
noncomputable def gL(n:Nat):List D:=(aZ n).map λ(k:Nat)=>aM (k:Int)
def aFx(t:AT):IT:=λσ Q=>t σ λds=>∃n:Int,ds=[.int n]/\-(2^62)<=n/\n<2^62/\Q (gL n.toNat)
def nZ{tg e t p p'}(ha:yQ X [e] t)(pr:∀{ta},PA X [e] ta->PI X tg (.Call (.Name "range" p) [e] [] p') (aC3 ta)):D3 X tg (.Call (.Name "range" p) [e] [] p') (aFx t):=by
 obtain⟨va,pa,ra⟩:=ha;refine⟨_,pr pa,λB p0 H ps σT σ Q R o h k=>ra B p0 H ps σT σ _ _ o h λds xs H1 s1 r1 q1=>?_⟩;obtain⟨n,rfl,h1,h2,q⟩:=q1
 cases r1 with
 |cons r1 r2=>
  cases r2;cases r1;refine⟨n,rfl,h1,h2,k (gL n.toNat) _ H1 s1 ?_ q⟩;have hl:(gL n.toNat).length=n.toNat:=by unfold gL;simp
  refine⟨λi H _ e=>by rw[hl]at e;exact e,λi H _ e=>by rw[hl]at e;exact e,λi H ps y H' _ _ e hy=>?_⟩;obtain⟨rfl,rfl⟩:=hy;have ei:(0:Int)+(i:Int)=(i:Int):=by omega
  rw[ei];rw[hl]at e;refine⟨L2.bJ.refl _,.int i,?_,.int _⟩;unfold gL;rw[aH,iX e];rfl
def Y2(ti:IT)(g:GT)(tb:rE):rE:=λDT σ=>ti σ λts=>∃P:Nat->List Sl->Prop,P 0 σ /\
 (∀(k:Nat)(x:D)g6,ts[k]?=some x->P k g6->g x g6 λz8=>tb { DT with nx:=P (k+1),ct:=P (k+1),bk:=DT.nx } z8)/\∀g6,P ts.length g6->DT.nx g6
def K6{tg iter body g tb ti}(he:D3 X tg iter ti)(hg:FK X tg g)(hb:rA X body tb)
  (pf:∀{wi gv bv},PI X tg iter wi->PG X tg gv->zI X body bv->PS X (.For tg iter body [] pos) (YF wi gv bv)):sT X (.For tg iter body [] pos) (Y2 ti g tb):=by
 obtain⟨ve,pe,re⟩:=he;obtain⟨gv,pg,rg⟩:=hg;obtain⟨vb,pb,rb⟩:=hb;refine⟨_,pf pe pg pb,λB p0 H ps σT σ DT DV o h f=>re B p0 H ps σT σ _ _ o h λts J H1 s1 rj q1=>?_⟩;obtain⟨P,h0,hs,hd⟩:=q1;refine⟨λi m g6 H'=>m=ts.length-i/\i<=ts.length/\∃m3 g8,Ok X.K B p0 H' m3 g8 g6/\bJ (mask H1 ps) (mask H' m3)/\P i g8,⟨_,rfl,cL _,ps,σT,o.grow s1,L2.bJ.refl _,h0⟩,?_⟩;rintro i m g6 H' ⟨rfl,vi,m3,g8,o',s',p'⟩;have sH:bJ (mask H1 ps) H':=s'.trans bP;have f':KG X.K B p0 H' m3 DT DV:=f.later ((bT s1).trans s');by_cases bo:i<ts.length
 ·refine .inr ⟨rj.go i H' sH bo,λz8 H2=>∃Dm qg,Ok X.K B p0 H2 Dm qg z8/\bJ (mask H1 ps) (mask H2 Dm)/\P (i+1) qg,λz8 H2 z=>⟨ts.length-(i+1),by omega,rfl,bo,z⟩,λy H2 pq=>?_⟩;obtain⟨s2,dx,hx,rx⟩:=rj.yld i H' m3 y H2 o'.live s' bo pq;have f2:=f'.later (bT (ps:=m3) s2);have wk:bJ (mask H1 ps) (mask H2 m3):=s'.trans (bT s2);refine rg B p0 H2 m3 g8 g6 dx y _ _ (o'.grow s2) rx (hs i dx g8 hx p') λgk kg o3 _ q3=>?_;exact rb B p0 H2 m3 gk kg _ _ o3 q3 ⟨λH4 qb gm qo o4 s4 q4=>⟨qb,gm,o4,wk.trans s4,q4⟩,λH4 qb gm qo o4 s4 q4=>f2.nx H4 qb gm qo o4 s4 q4,λH4 qb gm qo o4 s4 q4=>⟨qb,gm,o4,wk.trans s4,q4⟩,f2.rt,f2.ro,f2.rp,f2.rq,f2.xb⟩
 ·obtain rfl:i=ts.length:=by omega
  exact .inl ⟨rj.stop _ H' sH (aL _),f'.nx H' m3 g8 g6 o' (L2.bJ.refl _) (hd g8 p')⟩
noncomputable def J9(σ:List Sl):Option Nat->Sl
|none=>.un
|some j=>match σ[j]? with | some (.val d)=>.val d | _=>.un
noncomputable def jF(fr:List (Option Nat))(σ:List Sl):List Sl:=fr.map (J9 σ)
def R5{σ q d}(h:J9 σ q=.val d):∃j,q=some j/\σ[j]?=some (.val d):=by
 cases q with
 |none=>cases h
 |some j=>
  refine⟨j,rfl,?_⟩;unfold J9 at h;dsimp only at h;split at h
  ·next e=>cases h;exact e
  ·cases h
def R6{σ q s}(hv:∀d,s≠.val d)(hu:s≠.un):J9 σ q≠s:=λh=>by
 cases q with
 |none=>exact hu h.symm
 |some j=>
  unfold J9 at h;dsimp only at h;split at h
  ·exact hv _ h.symm
  ·exact hu h.symm
def oZ(fr:List (Option Nat))(σ:List Sl):mQ (jF fr σ):=λi s hv hu h=>by
 unfold jF at h;rw[aH]at h
 cases hf:fr[i]? with
 |none=>rw[hf]at h;cases h
 |some q=>
  rw[hf]at h;exact R6 hv hu (e9 h)
def Ok.blk(o:Ok K B p0 H ps σT σ)(fr:List (Option Nat)):Ok K B p0 H ps (jF fr σT) (wF fr σ) where
 base:=o.base
 sub:=o.sub
 live:=o.live
 len:=by unfold jF wF;simp
 val:=λi d h=>by
  unfold jF at h;rw[aH]at h
  cases hf:fr[i]? with
  |none=>rw[hf]at h;cases h
  |some q=>
   rw[hf]at h;obtain⟨j,rfl,e⟩:=R5 (e9 h);obtain⟨v,h1,h2⟩:=o.val j d e;refine⟨v,?_,h2⟩;unfold wF;rw[aH,hf];simp[h1]
 own:=λi ts h=>d8 h ((oZ fr σT).own i ts)
 dis:=λi j ts us p h=>d8 h ((oZ fr σT).own i ts)
 dc:=λi hs kvs h=>d8 h ((oZ fr σT).dic i hs kvs)
def Ok.adopt(o:Ok K B p0 H ps σT σ){p:Addr}{u}(hp:H p=none)(hu:MB u=false:=by rfl):Ok K B p0 (fM H p u) (p::ps) σT σ:=by
 have hm:mask (fM H p u) (p::ps)=mask H ps:=lL hp;refine⟨o.base.trans (dL hp),λq hq=>aO _ (o.sub q hq),λq hq=>?_,o.len,λi d h=>by rw[hm];exact o.val i d h,λi ts h=>?_,o.dis,o.dc.to (λj hs kvs h=>⟨h,rfl⟩) (λq φ a b _=>⟨aO _ a,cI λz=>by rw[z,hp]at b;cases b⟩) (λq φ _ _ a b=>⟨a,b⟩) (by rw[hm];exact L2.bJ.refl _)⟩
 ·by_cases e:q=p
  ·subst e;rw[cM];exact⟨_,rfl,hu⟩
  ·rw[cI e];rcases bE.mp hq with z | z
   ·exact d8 z e
   ·exact o.live q z
 ·rw[hm];obtain⟨q,xs,h1,h2,h3,h4,h5,h6⟩:=o.own i ts h;exact⟨q,xs,h1,aO _ h2,h3,h4,by rw[cI λz=>by rw[z,hp]at h5;cases h5];exact h5,h6⟩
def Ok.aside(o:Ok K B p0 H ps σT σ){q:Addr}{u}(hp:q∈ps)(hB:B q=none)(hn:mQ σT)(hu:MB u=false:=by rfl):Ok K B p0 (fM H q u) ps σT σ where
 base:=λb w e=>by
  rw[cI λz=>by rw[z,hB]at e;cases e];exact o.base b w e
 sub:=o.sub
 live:=λp Ic=>by
  by_cases e:p=q
  ·subst e;rw[cM];exact⟨_,rfl,hu⟩
  ·rw[cI e];exact o.live p Ic
 len:=o.len
 val:=λi d h=>by rw[iA hp];exact o.val i d h
 own:=λi ts h=>d8 h (hn.own i ts)
 dis:=λi j ts us p h=>d8 h (hn.own i ts)
 dc:=λi hs kvs h=>d8 h (hn.dic i hs kvs)
def AN(X:Cx)(cw:List Expr)(t:yP):Prop:=∃tt:TT,M3 X cw tt/\∀B p0 H ps σT σ (Q:Bool->Prop)(QV:Bool->Hp->Prop),Ok X.K B p0 H ps σT σ->t σT Q ->
 (∀b H',bJ H H'->Q b->QV b H')->tt σ H QV
def uF:yP:=λ_ Q=>Q true
def jG:AN X [] uF:=⟨_,ZI,λ_ _ H _ _ _ _ _ _ h k=>k _ H (L2.bJ.refl H) h⟩
def GL{t}(h:KM X e t):AN X [e] t:=by
 obtain⟨v,p,r⟩:=h;exact⟨_,ZH p,r⟩
def WX(fr:List (Option Nat))(ti:IT)(g:GT)(tt:yP)(te:ET):ET:=λσ Q=>ti σ λts=>ts.length<=100000/\∃P:Nat->List Sl->List D->Prop,P 0 (jF fr σ) [] /\
 (∀(k:Nat)(x:D)g6(ds:List D),ts[k]?=some x->P k g6 ds->g x g6 λz8=>tt z8 λb=>if b=true then te z8 λy=>P (k+1) z8 (ds++[y])else P (k+1) z8 ds)/\∀g6 ds,P ts.length g6 ds->Q (.list ds)
def Z6{fr}{ti:IT}{g:GT}{tt:yP}{te:ET}{wi:TI}{gv:BP->TG}{vt:BP->TT}{ve:BP->TE}
  (ri:∀B p0 H ps σT σ (Q:List D->Prop)(R:It->Hp->Prop),Ok X.K B p0 H ps σT σ->ti σT Q->(∀ts J H',bJ H H'->XO X.K (mask H' ps) ts J->Q ts->R J H')->wi σ H R)
  (rg:∀(bp:BP)B p0 H ps σT σ(d:D)(v:V)(Q:List Sl->Prop)(QV:L2.St->Hp->Prop),Ok X.K B p0 H ps σT σ->fW X.K (mask H ps) d v->g d σT Q->(∀g8 g6,Ok X.K B p0 H ps g8 g6->(mQ σT->mQ g8)->Q g8->QV g6 H)->gv bp v σ H QV)
  (rt:∀(bp:BP)B p0 H ps σT σ(Q:Bool->Prop)(QV:Bool->Hp->Prop),Ok X.K B p0 H ps σT σ->tt σT Q->(∀b H',bJ H H'->Q b->QV b H')->vt bp σ H QV)
  (re:∀(bp:BP)B p0 H ps σT σ(Q:D->Prop)QV,Ok X.K B p0 H ps σT σ->te σT Q->(∀d v H',bJ H H'->fW X.K (mask H' ps) d v->Q d->QV v H')->ve bp σ H QV)
  (B:Hp) (p0:List Addr) (H:Hp) (ps:List Addr) (σT:List Sl) (σ:L2.St) (Q:D->Prop) (QV:VK) (o:Ok X.K B p0 H ps σT σ) (h:WX fr ti g tt te σT Q) (k:∀d v H',bJ H H'->fW X.K (mask H' ps) d v->Q d->QV v H'):NM fr wi gv vt ve σ H QV:=by
 refine ri B p0 H ps σT σ _ _ o h λts J H1 s1 rj q1=>?_;obtain⟨hz,P,h0,hs,hd⟩:=q1;intro bp acc y4
 have pd:B acc=none:=by
  cases q:B acc with
  |none=>rfl
  |some u=>rw[(o.grow s1).base acc u q]at y4;cases y4
 have Ef:acc∉ps:=fE (o.grow s1).live y4
 refine⟨λi m g6 H'=>m=ts.length-i/\i<=ts.length/\∃g8 ds ys,Ok X.K B p0 H' (acc::ps) g8 g6/\mQ g8/\H' acc=some (.lst ys)/\ds.length<=i/\Reps X.K (mask H' (acc::ps)) ds ys/\bJ (mask H1 ps) (mask H' (acc::ps))/\bJ H1 H'/\P i g8 ds,
  ⟨_,rfl,cL _,jF fr σT,[],[],((o.grow s1).blk fr).adopt y4,oZ fr σT,cM,aL _,.nil,by rw[lL y4];exact L2.bJ.refl _,dL y4,h0⟩,?_⟩
 rintro i m g6 H' ⟨rfl,vi,g8,ds,ys,o',n',ha,hl,hr,s',sF,p'⟩;have hL:bM=2^24:=rfl;by_cases bo:i<ts.length
 ·refine .inr ⟨rj.go i H' (s'.trans bP) bo,λy H2 hy=>?_⟩;obtain⟨s2,dx,hx,rx⟩:=rj.yld i H' (acc::ps) y H2 o'.live s' bo hy;refine rg bp B p0 H2 (acc::ps) g8 g6 dx y _ _ (o'.grow s2) rx (hs i dx g8 ds hx p') λgk kg o3 n3 q3=>?_;refine rt bp B p0 H2 (acc::ps) gk kg _ _ o3 q3 λb H4 s4 q4=>?_;have tw:=s2.trans s4
  cases b with
  |false=>
   exact⟨ts.length-(i+1),by omega,rfl,bo,gk,ds,ys,o3.grow s4,n3 n',tw _ _ ha,by omega,hr.same (bT tw),s'.trans (bT tw),sF.trans tw,q4⟩
  |true=>
   refine re bp B p0 H4 (acc::ps) gk kg _ _ (o3.grow s4) q4 λd v H5 s5 r5 q5=>?_;have Cj:=tw.trans s5;have hm:mask (fM H5 acc (.lst (ys++[v]))) (acc::ps)=mask H5 (acc::ps):=iA (aS ..);refine⟨ys,Cj _ _ ha,by rw[<- hr.length];omega,ts.length-(i+1),by omega,rfl,bo,gk,ds++[d],ys++[v],((o3.grow s4).grow s5).aside (aS ..) pd (n3 n'),n3 n',cM,by rw[bC,oF];omega,?_,?_,?_,q5⟩
   ·rw[hm];exact(hr.same (bT Cj)).append (.cons r5 .nil)
   ·rw[hm];exact s'.trans (bT Cj)
   ·intro b u e;have ne:b≠acc:=λz=>by rw[z,y4]at e;cases e
    rw[cI ne];exact(sF.trans Cj) b u e
 ·obtain rfl:i=ts.length:=by omega
  refine .inl ⟨rj.stop _ H' (s'.trans bP) (aL _),k (.list ds) _ H' (s1.trans sF) (.list (mN.of (kK Ef ha)) (hr.same (kQ λp hp=>aO _ hp))) (hd g8 ds p')⟩
def VS{az iter tg cw scope fr N' ti g tt te}(hi:D3 X tg iter ti)
  (hY:∀b:BP,FK (blk X scope N' b) tg g/\AN (blk X scope N' b) cw tt/\gG (blk X scope N' b) az te) {M:(TE)->Prop}
  (fin:∀{wi}{gv:BP->TG}{vt:BP->TT}{ve:BP->TE},PI X tg iter wi->(∀b:BP,PG (blk X scope N' b) tg (gv b)/\M3 (blk X scope N' b) cw (vt b)/\PE (blk X scope N' b) az (ve b))->M (NM fr wi gv vt ve)) :
  ∃v:TE,M v/\∀B p0 H ps σT σ (Q:D->Prop)(QV:VK),Ok X.K B p0 H ps σT σ->WX fr ti g tt te σT Q ->
   (∀d v H',bJ H H'->fW X.K (mask H' ps) d v->Q d->QV v H')->v σ H QV:=by
 obtain⟨wi,pi,ri⟩:=hi;refine⟨_,fin (gv:=λb=>l9 (hY b).1) (vt:=λb=>l9 (hY b).2.1) (ve:=λb=>l9 (hY b).2.2) pi λb=>⟨(f8 (hY b).1).1,(f8 (hY b).2.1).1,(f8 (hY b).2.2).1⟩,?_⟩;exact Z6 ri (λb=>(f8 (hY b).1).2) (λb=>(f8 (hY b).2.1).2) λb=>(f8 (hY b).2.2).2
def aLl{az iter tg cw scope fr N' ti g tt te}(hi:D3 X tg iter ti)
  (hY:∀b:BP,FK (blk X scope N' b) tg g/\AN (blk X scope N' b) cw tt/\gG (blk X scope N' b) az te)
  (pl:∀{wi}{gv:BP->TG}{vt:BP->TT}{ve:BP->TE},PI X tg iter wi->(∀b:BP,PG (blk X scope N' b) tg (gv b)/\M3 (blk X scope N' b) cw (vt b)/\PE (blk X scope N' b) az (ve b))->PE X (.ListComp az [⟨tg,iter,cw,0⟩] scope pos) (NM fr wi gv vt ve)) :
  gG X (.ListComp az [⟨tg,iter,cw,0⟩] scope pos) (WX fr ti g tt te):=VS hi hY pl
def BG{i:Nat}{x px nz az iter tg cw scope fr N' ti g tt te}(hi:D3 X tg iter ti)
  (hY:∀b:BP,FK (blk X scope N' b) tg g/\AN (blk X scope N' b) cw tt/\gG (blk X scope N' b) az te)
  (pl:∀{wi}{gv:BP->TG}{vt:BP->TT}{ve:BP->TE},PI X tg iter wi->(∀b:BP,PG (blk X scope N' b) tg (gv b)/\M3 (blk X scope N' b) cw (vt b)/\PE (blk X scope N' b) az (ve b)) ->
   PS X (.Assign [.Name x px] (.ListComp az [⟨tg,iter,cw,0⟩] scope pos) nz) (wS (NM fr wi gv vt ve) (kG i))) :
  sT X (.Assign [.Name x px] (.ListComp az [⟨tg,iter,cw,0⟩] scope pos) nz) (AE i (WX fr ti g tt te)):=by
 obtain⟨v,p,r⟩:=VS (M:=λv=>PS X (.Assign [.Name x px] (.ListComp az [⟨tg,iter,cw,0⟩] scope pos) nz) (wS v (kG i))) (fr:=fr) hi hY pl;refine⟨_,p,λB p0 H ps σT σ DT DV o h f=>r B p0 H ps σT σ _ _ o h λd x H' s' r' q'=>?_⟩;exact f.nx H' ps _ _ ((o.grow s').set r') (bT s') q'
noncomputable def lK(N:List Str)(ds:List D):List Sl:=ds.map Sl.val++qK (N.length-ds.length) .un
def qU{N ds vs}(live:∀p∈ps,C1 (H p))(r:Reps K (mask H ps) ds vs):Ok K H ps H ps (lK N ds) (L2.pY N vs):=by
 have hl:=r.length;refine⟨L2.bJ.refl _,λ_ h=>h,live,?_,λi d h=>?_,λi ts h=>?_,λi j ts us p h=>?_,λi hs kvs h=>?_⟩
 ·unfold lK L2.pY;simp[hl]
 ·unfold lK at h;by_cases hi:i<ds.length
  ·rw[cQ (by simpa using hi),aH]at h
   cases hd:ds[i]? with
   |none=>rw[hd]at h;cases h
   |some d'=>
    rw[hd]at h;cases h;obtain⟨v,h1,h2⟩:=r.get hd;refine⟨v,?_,h2⟩;unfold L2.pY;rw[cQ (by rw[aB,<- hl];exact hi),aH,h1];rfl
  ·rw[cN (by simpa using hi),kH]at h;split at h<;>cases h
 ·unfold lK at h;by_cases hi:i<ds.length
  ·rw[cQ (by simpa using hi),aH]at h
   cases hd:ds[i]? with
   |none=>rw[hd]at h;cases h
   |some d'=>rw[hd]at h;cases h
  ·rw[cN (by simpa using hi),kH]at h;split at h<;>cases h
 ·unfold lK at h;by_cases hi:i<ds.length
  ·rw[cQ (by simpa using hi),aH]at h
   cases hd:ds[i]? with
   |none=>rw[hd]at h;cases h
   |some d'=>rw[hd]at h;cases h
  ·rw[cN (by simpa using hi),kH]at h;split at h<;>cases h
 ·unfold lK at h;by_cases hi:i<ds.length
  ·rw[cQ (by simpa using hi),aH]at h
   cases hd:ds[i]? with
   |none=>rw[hd]at h;cases h
   |some d'=>rw[hd]at h;cases h
  ·rw[cN (by simpa using hi),kH]at h;split at h<;>cases h
def tE{P w}{mg:Str->Option Value}{base x qual st}{f:Addr}{fd}{N pn:List Str}{k:Nat}{sp:oK}(F:SM K x qual st f fd)(S:cR N pn (bQ st))
  (dy:∀{cr}{A:i5}{outer}{s:Shared}{H E},Room k (A.deeper (o7 qual (bQ st) s.heap.objs.size f cr))->N.Nodup->∀(ds:List D)(Q:D->Prop),sp ds Q ->
   ∃t,rA (uC jW P w K mg base N qual (bQ st) f cr A outer s H E).nox (mJ st) t/\t { nx:=λ_=>Q .none,rt:=Q } (lK N ds)) (len:∀ds Q,sp ds Q->ds.length=pn.length:=by intro ds Q h;(repeat obtain⟨_,h⟩:=h)<;>subst_vars<;>rfl):eK P w K mg base jW (k+1) f fd pn (dM K sp):=by
 refine F.ok S (λvs H Q E h=>?_) λcr A outer s H vs Q E hr h=>?_
 ·obtain⟨ps,ds,QD,_,r,q,_⟩:=h;rw[<- r.length];exact len ds QD q
 ·obtain⟨ps,ds,QD,live,r,q,k⟩:=h;obtain⟨t,⟨ts,p,rd⟩,h⟩:=dy hr S.nd ds QD q;refine⟨ts,p,rd H ps H ps _ _ _ _ (qU live r) h ⟨λH' m3 g8 g6 o' s' q'=>?_,λ_ _ _ _ _ _ q'=>q'.elim,λ_ _ _ _ _ _ q'=>q'.elim,λd v H' s' r' q'=>k d v H' s' r' q',λ_ _ _ _ _ _ _ _ _ q'=>q'.elim,λ_ _ _ _ _ _ _ _ _ _ _ _ _ _ _ _ _ _ q'=>q'.elim,λ_ _ _ _ _ _ _ _ _ _ _ _ _ _ q'=>q'.elim,i8⟩⟩;exact k _ _ H' o'.base .none q'
end
end TL
namespace HT
section
variable{prog:bX}{w:g7}{A:i5}{E:Value->Shared->Prop}{s:Shared}
def getItem_tuple_all{t sl:Addr}{items:Array Value}{vl vu lo hi}{Q:Value->Shared->Prop}(ht:Ff s.heap t items)(hs:s.heap.IsSliceOf sl vl vu .none)(pl:IsPart vl lo)(pu:IsPart vu hi)
  (hw:sIx items.size 0 lo=0/\sIx items.size items.size hi=items.size) (h:Q (.ref t) s):wpAny (model prog w) A (gb (.ref t) (.ref sl)) Q E s:=by
 obtain⟨os,By,xn,Hh⟩:=id hs;have Lk:s.TypeIs (.ref sl) "slice":=⟨os,By,xn⟩;unfold gb
 try with_reducible refine r8 ?_
 first | refine aA (aF ?_) | skip
 refine aA (Ge ht.typeIs (by decide) ?_)
 refine aA (l4 (name:=u5 "__getitem__") ht.typeIs p9
  (fA p9 ht.typeIs Cs ?_ (Dp _ _)))
 show wpAny _ _ (cb (.ref t) >>= _) _ _ s;refine aA (tupleItemsOf_ ht ?_);refine aA (fk Lk ?_);rw[b9 (by decide)];refine aA (qS hs pl pu ?_)
 have Ni:(((sIx items.size 0 lo:Nat):Int)==0&&(1:Int)==1&&(sIx items.size items.size hi-sIx items.size 0 lo)==items.size)=true:=by
  rw[hw.1,hw.2];simp
 show wpAny _ _ (if(((sIx items.size 0 lo:Nat):Int)==0&&(1:Int)==1&&(sIx items.size items.size hi-sIx items.size 0 lo)==items.size)=true then _ else _) _ _ s;rw[b9 Ni];unfold Builtin.Tuple.tupleIsExact;refine aA (aA (fk ht.typeIs (aF ?_)));rw[b9 (by decide)]
 first
  |exact aA (ik (aA (aF (aF ⟨_,rfl,aF h⟩))))
  |exact aA (ik (aF ⟨_,rfl,aF h⟩))
  |exact aA (ik (aA (aF ⟨_,rfl,aF h⟩)))
end
end HT
namespace L2
section
variable{X:Cx}
def aJh:V->Option Int->Option Int->Hp->VK->Prop:=λx lo hi H Q=>∃z,x=.str z/\z.length<=bM/\Q (.str (Txt.slice z lo hi)) H
def aEa:XN X aJh:=by
 intro b7 s σ H x v vl vu lo hi sl Q I rx hs pl pu h;obtain⟨z,rfl,hz,q⟩:=h;obtain⟨t,rfl⟩:=rx;refine⟨"str",_,PySem.F.slot_str_getitem.lookup,Fb _ _ _,?_⟩
 have fin:∀lo hi:Option Int,Q (.str (Txt.slice z lo hi)) H->(Txt.slice z lo hi).length<=bM/\∀(t':Tok)(k:Nat),EP X b7 σ Q (.str (Txt.slice z lo hi) t') { s with toks:=k }:=λlo hi q=>
  ⟨dG (Txt.slice_le z _ _) hz,λt' k=>⟨.str _,H,I.tok k,⟨t',rfl⟩,q⟩⟩
 cases pl with
 |none=>
  cases pu with
  |none=>exact bz (l:=none) (u:=none) (st:=none) hs rfl (il (fin none none q))
  |int j uj=>exact bz (l:=none) (u:=some (j,uj)) (st:=none) hs rfl (il (fin none (some j) q))
 |int i ui=>
  cases pu with
  |none=>exact bz (l:=some (i,ui)) (u:=none) (st:=none) hs rfl (il (fin (some i) none q))
  |int j uj=>exact bz (l:=some (i,ui)) (u:=some (j,uj)) (st:=none) hs rfl (il (fin (some i) (some j) q))
def aCk(K:aI):V->Option Int->Option Int->Hp->VK->Prop:=λx lo hi H Q=>∃a xs,x=.ref a/\vL K H a xs /\
 ((HT.sIx xs.length 0 lo=0/\HT.sIx xs.length xs.length hi=xs.length)->Q (.ref a) H)/\(¬(HT.sIx xs.length 0 lo=0/\HT.sIx xs.length xs.length hi=xs.length)->∀p,H p=none->Q (.ref p) (fM H p (.tup (GW xs lo hi))))
def YS:XN X (aCk X.K):=by
 intro b7 s σ H x v vl vu lo hi sl Q I rx hs pl pu h;obtain⟨a,xs,rfl,hx,q1,q2⟩:=h;by_cases hw:HT.sIx xs.length 0 lo=0/\HT.sIx xs.length xs.length hi=xs.length
 ·cases rx;obtain⟨its,r,ht,hz⟩:=I.tuple hx;have o8:its.toArray.size=xs.length:=by rw[bO];exact r.length.symm
  exact⟨"tuple",_,PyProof.Rows.slot_tuple_getitem.lookup,ht.typeIs,HT.getItem_tuple_all ht hs pl pu (by rw[o8];exact hw) ⟨.ref a,H,I,rfl,q1 hw⟩⟩
 ·exact aD9 b7 s σ H (.ref a) v vl vu lo hi sl Q I rx hs pl pu ⟨a,xs,rfl,hx,hw,q2 hw⟩
def T7(K:aI):V->Option Int->Option Int->Hp->VK->Prop:=λx lo hi H Q=>aJi K x lo hi H Q\/aCk K x lo hi H Q\/aJh x lo hi H Q
def nQ:XN X (T7 X.K):=YT.or (YS.or aEa)
def T8(K:aI):R2:=λx y H Q=>∃a b xs ys,x=.ref a/\y=.ref b/\vL K H a xs/\vL K H b ys/\xs.length+ys.length<=bM /\
 (xs=[]->Q (.ref b) H)/\(xs≠[]->ys=[]->Q (.ref a) H)/\(xs≠[]->ys≠[]->∀p,H p=none->Q (.ref p) (fM H p (.tup (xs++ys))))
def UY:nP X (m9 .Add) (T8 X.K):=by
 intro b7 s σ H x y v u Q I rx ry h;obtain⟨a,b,xs,ys,rfl,rfl,ha,hb,hz,q0,q1,q2⟩:=h;by_cases hx:xs=[]
 ·cases rx;cases ry;obtain⟨its,r1,p1,_⟩:=I.tuple ha;obtain⟨ju,r2,p2,_⟩:=I.tuple hb;obtain⟨⟨cls,dd,data,sl⟩,ho,hc,n,hd⟩:=id p1;obtain⟨⟨Gq,Fh,data2,yj⟩,yw,rz,n2,uz⟩:=id p2;simp only at hc hd rz uz;subst hc hd rz uz;have he:its=[]:=r1.nil_iff.mpr hx;exact lr ⟨_,ho,rfl⟩ ⟨_,yw,rfl⟩ nq wl sM rD (qP _ _) (tuple_addW0 a b its.toArray ju.toArray n n2 dd Fh sl yj (by simp[he])) ⟨ho,yw,⟨.ref b,H,I,rfl,q0 hx⟩⟩
 ·exact ZN b7 s σ H (.ref a) (.ref b) v u Q I rx ry ⟨a,b,xs,ys,rfl,rfl,ha,hb,hx,hz,q1 hx,q2 hx⟩
def aCo(K:aI):R2:=λx y H Q=>∃l b xs zs,x=.ref l/\y=.ref b/\mN K H l xs/\mN K H b zs/\xs.length+zs.length<=bM/\∀p,H p=none->Q (.ref p) (fM H p (.lst (xs++zs)))
def OJ:nP X (m9 .Add) (aCo X.K):=by
 intro b7 s σ H x y v u Q I rx ry h;obtain⟨l,b,xs,zs,rfl,rfl,ha,hb,hz,q⟩:=h;cases rx;cases ry;obtain⟨its,r1,⟨⟨cls,dd,data,sl⟩,n,ho,hc,nc,hd⟩,_⟩:=I.list ha;obtain⟨ju,r2,⟨⟨Gq,Fh,data2,yj⟩,n2,yw,rz,Sz,uz⟩,_⟩:=I.list hb;simp only at hc hd rz uz;subst hc hd rz uz;have Im:its.toArray.size+ju.toArray.size<=bM:=by rw[bO,bO,<- r1.length,<- r2.length];exact hz
 refine lr ⟨_,ho,rfl⟩ ⟨_,yw,rfl⟩ noFill_list_add seq_list_add PySem.F.slot_list_add PySem.F.entry_list_add (PySem.F.args_list_add_2 _ _) (list_addW l b its.toArray ju.toArray n n2 dd Fh sl yj Im) ⟨ho,yw,?_⟩;have ea:its.toArray++ju.toArray=(its++ju).toArray:=by simp
 rw[ea];exact⟨.ref _,_,I.lnew (t':=s.toks) (r1.append r2) (by rw[bC];exact hz),rfl,q _ I.fresh⟩
def N7(K:aI):R2:=λx y H Q=>(QM λi j=>.int (i+j)) x y H Q\/(∃i j,x=.str i/\y=.str j/\i.length+j.length<=bM/\Q (.str (i++j)) H)\/T8 K x y H Q\/aCo K x y H Q
def cX:nP X (m9 .Add) (N7 X.K):=aE5.or (LS.or (UY.or OJ))
def N5:R2:=λx y H Q=>(rI SD λi j=>.int (i*j)) x y H Q\/∃z n,x=.str z/\y=.int n/\z.length<=1000/\0<=n/\n<=1000/\Q (.str (Txt.mul z n)) H
def LR:nP X (m9 .Mult) (λx y H Q=>∃z n,x=.str z/\y=.int n/\z.length<=1000/\0<=n/\n<=1000/\Q (.str (Txt.mul z n)) H):=by
 intro b7 s σ H x y v u Q I rx ry h;obtain⟨z,n,rfl,rfl,hz,h0,h1,q⟩:=h;obtain⟨t,rfl⟩:=rx;obtain⟨t',rfl⟩:=ry;refine SB.mul ⟨by simp;omega,λa _=>?_,λ_ _=>?_⟩ λGb k=>⟨.str _,H,I.tok k,⟨Gb,rfl⟩,q⟩
 ·have hn:1<=n:=by omega
  have:(1000:Int)<=(2^63-1) / n:=by
   rw[Int.le_ediv_iff_mul_le (by omega)];omega
  omega
 ·have:z.length*n.toNat<=1000*1000:=lX hz (by omega);unfold Builtin.Str.tooLong;have hL:bM=2^24:=rfl;simp only[decide_eq_false_iff_not];omega
def jI:nP X (m9 .Mult) N5:=aE2.or LR
def sL(hc:X.calm=true):kB X (.builtin "all") (λxs H Q=>∃(p:Addr)(bs:List Bool),xs=[.ref p]/\mN X.K H p (bs.map V.bl)/\Q (.bl (bs.all id)) H):=by
 intro b7 s σ H xs us Q I r h;obtain⟨p,bs,rfl,hq,q⟩:=h;obtain⟨u,rfl,rx⟩:=nX r;cases rx;obtain⟨its,rv,pl,hz⟩:=I.list hq
 have al:p≠s.heap.objs.size:=by
  obtain⟨o,ho,_⟩:=pl.isList;exact bZ (bG ho)
 have yu:=pl.isList;refine call_all_walk (cx yu ?_);refine⟨_,_,_,_,_,_,λi=>(bs[i]?).getD true,rfl,iq (A:=X.A.in1) (I.ok.hd hc) _ p al its.toArray,⟨⟨_,aW _ rfl,rfl,rfl⟩,yu.push _⟩,λi v s' Q' E' hP fu=>?_,λh' tk hk=>?_⟩
 ·have hv:its[i]?=some v:=by simpa using hP
  have o8:=rv.length;have hi:i<its.length:=(aD.mp hv).1;have hb:i<bs.length:=by rw[aB]at o8;omega
  obtain⟨w',h1,h2⟩:=rv.get (i:=i) (x:=.bl bs[i]) (by rw[aH,aG hb];rfl);rw[hv]at h1;cases h1;cases h2;refine v7 ?_;dsimp only at fu;rw[aG hb]at fu;exact fu
 ·have e:(aZ its.toArray.size).all (λi=>(bs[i]?).getD true)=bs.all id:=by
   have o8:=rv.length;rw[aB]at o8;rw[bO,<- o8];rw[iB,iM,iM];constructor
   ·intro h b hb;obtain⟨i,hi,rfl⟩:=wN.mp hb;have:=h i (dF.mpr hi);rw[aG hi]at this;exact this
   ·intro h i hi;have yt:=dF.mp hi;rw[aG yt];exact h _ (gQ yt)
  rw[e];have I1:dS X b7 σ H { s with heap:=s.heap.push { cls:=.type "list_iterator",data:=.fields #[.ref p,.int 0 0] } }:=I.kept (t':=s.toks) λb o e=>aK _ e;refine⟨.bl _,H,I.kept λb o e=>hk b o ?_ (aK _ e),rfl,q⟩;intro z;have:b=s.heap.objs.size:=by simpa using z
  exact d8 (bG e) (by rw[this];exact eX _)
def aEr:R2:=λx y H Q=>∃b,y=.bl b/\Q (.bl (decide (x=.bl b))) H
def F5:R2:=λx y H Q=>∃b,y=.bl b/\Q (.bl (!decide (x=.bl b))) H
def aC1{x v}{b:Bool}(r:fX x v):plainIs v (.bool b)=true/\(v==z4 b)=decide (x=.bl b):=by
 cases x with
 |non=>cases r;exact⟨rfl,rfl⟩
 |bl c=>cases r;cases b<;>cases c<;>exact⟨rfl,rfl⟩
 |int _=>obtain⟨t,rfl⟩:=r;exact⟨rfl,rfl⟩
 |str _=>obtain⟨t,rfl⟩:=r;exact⟨rfl,rfl⟩
 |byt _=>obtain⟨t,rfl⟩:=r;exact⟨rfl,rfl⟩
 |flt _=>obtain⟨t,rfl⟩:=r;exact⟨rfl,rfl⟩
 |ref _=>cases r;exact⟨rfl,rfl⟩
 |ty _=>cases r;exact⟨rfl,rfl⟩
def QU:nP X (i3 .IsNot) F5:=by
 intro b7 s σ H x y v u Q I rx ry h;obtain⟨b,rfl,q⟩:=h;cases ry;obtain⟨h1,h2⟩:=aC1 (b:=b) rx;refine wpAny_isNot_plain h1 ?_;rw[h2];exact⟨.bl _,H,I,rfl,q⟩
def aE4:nP X (i3 .Is) aEr:=by
 intro b7 s σ H x y v u Q I rx ry h;obtain⟨b,rfl,q⟩:=h;cases ry;obtain⟨h1,h2⟩:=aC1 (b:=b) rx;refine wpAny_is_plain h1 ?_;rw[h2];exact⟨.bl _,H,I,rfl,q⟩
theorem NP:∀{ys:List Str}{us},gE (ys.map V.str) us->StrsAre us ys
|[],_,r=>by rw[lA]at r;cases r;exact .nil
|y::ys,us,r=>by
 rw[bD]at r
 cases r with
 |cons r1 r2=>
  obtain⟨t,rfl⟩:=r1;exact .cons y t (NP r2)
def ZY:MtR X "str.join" (λx xs H Q=>∃z p ys,x=.str z/\xs=[.ref p]/\mN X.K H p (ys.map V.str)/\(ys.map (·.length)).sum+ys.length*z.length<=16777216/\Q (.str (Txt.join z ys)) H):=by
 intro b7 s σ H x xs v us Q I rx r h;obtain⟨z,p,ys,rfl,rfl,hq,hz,q⟩:=h;obtain⟨t,rfl⟩:=rx;obtain⟨u,rfl,ru⟩:=nX r;cases ru;obtain⟨its,rv,pl,_⟩:=I.list hq;exact PyProof.Rows.join_list pl.isList (by simpa using NP rv) hz λt' k=>⟨.str _,H,I.tok k,⟨t',rfl⟩,q⟩
def KW(K:aI)(H:Hp):V->String->Prop
|.non,T=>T="NoneType"
|.bl _,T=>T="bool"
|.int _,T=>T="int"
|.str _,T=>T="str"
|.ref p,T=>(T="list"/\∃xs,mN K H p xs)\/(T="tuple"/\∃xs,vL K H p xs)\/(T="list"/\∃P,H p=some (.ext P)/\∀h:Heap,P h->∃o,h.get? p=some o/\o.cls=.type "list")
|_,_=>False
def aAh{b7 σ H s A}{E:Value->Shared->Prop}{Q:Value->Shared->Prop}{x u c T}{b:Bool}(I:dS X b7 σ H s)(rx:fX x u)(ty:KW X.K H x T)
  (e:cP X.K (.type T) c=some b) (h:∀tk,Q (.bool b) { s with toks:=tk }):wpAny (model X.prog X.w) A (call (.builtin "isinstance") [u,c]) Q E s:=by
 cases x with
 |non=>cases (show T="NoneType" from ty);exact vD I rx .non e h
 |bl y=>cases (show T="bool" from ty);exact vD I rx (.bl y) e h
 |int i=>cases (show T="int" from ty);exact vD I rx (.int i) e h
 |str y=>cases (show T="str" from ty);exact vD I rx (.str y) e h
 |ref p=>
  cases rx;rcases ty with⟨rfl,xs,hq⟩ | ⟨rfl,xs,hq⟩ | ⟨rfl,P,hq,hP⟩
  ·obtain⟨its,_,pl,_⟩:=I.list hq;obtain⟨o,n,ho,hc,_⟩:=pl;exact eL qJ I.kIn ⟨o,ho,hc⟩ e (λz=>nomatch z) h
  ·obtain⟨its,_,pl,_⟩:=I.tuple hq;obtain⟨o,ho,hc,_⟩:=pl;exact eL ND I.kIn ⟨o,ho,hc⟩ e (λz=>nomatch z) h
  ·obtain⟨o,ho,hc⟩:=hP _ (I.hok p _ hq).1;exact eL qJ I.kIn ⟨o,ho,hc⟩ e (λz=>nomatch z) h
 |_=>exact j9 ty
end
end L2
namespace TL
open L2
variable{K:aI}{H H' H1:Hp}{B:Hp}{p0 ps:List Addr}{σT:List Sl}{σ:L2.St}
section
variable{X:Cx}{a b c e:Expr}{es:List Expr}{ta te:ET}{pos p:Pos}
def fI(C:Int->Int->Prop)(g:Int->Int->Int):D->D->(D->Prop)->Prop
|.int i,.int j,Q=>C i j/\Q (.int (g i j))
|_,_,_=>False
def fI0(g:Int->Int->Int):D->D->(D->Prop)->Prop
|.int i,.int j,Q=>Q (.int (g i j))
|_,_,_=>False
def fB0(g:Int->Int->Bool):D->D->(D->Prop)->Prop
|.int i,.int j,Q=>Q (.bool (g i j))
|_,_,_=>False
def AF{C:Int->Int->Prop}{g:Int->Int->Int}:zW X (rI C λi j=>.int (g i j)) (fI C g):=by
 intro H ps d1 d2 x y Q QV live r1 r2 h k
 cases r1 with
 |int i=>
  cases r2 with
  |int j=>exact⟨i,j,rfl,rfl,h.1,k _ _ H (L2.bJ.refl H) (.int _) h.2⟩
  |_=>exact h.elim
 |_=>exact h.elim
def sZ{g:Int->Int->Int}:zW X (QM λi j=>.int (g i j)) (fI0 g):=by
 intro H ps d1 d2 x y Q QV live r1 r2 h k
 cases r1 with
 |int i=>
  cases r2 with
  |int j=>exact⟨i,j,rfl,rfl,k _ _ H (L2.bJ.refl H) (.int _) h⟩
  |_=>exact h.elim
 |_=>exact h.elim
def nA{g:Int->Int->Bool}:zW X (QM λi j=>.bl (g i j)) (fB0 g):=by
 intro H ps d1 d2 x y Q QV live r1 r2 h k
 cases r1 with
 |int i=>
  cases r2 with
  |int j=>exact⟨i,j,rfl,rfl,k _ _ H (L2.bJ.refl H) (.bool _) h⟩
  |_=>exact h.elim
 |_=>exact h.elim
def aOy:D->D->(D->Prop)->Prop
|.int i,.int j,Q=>Q (.int (i+j))
|.str x,.str y,Q=>x.length+y.length<=100000/\Q (.str (x++y))
|.tuple x,.tuple y,Q=>x.length+y.length<=100000/\Q (.tuple (x++y))
|.list x,.list y,Q=>x.length+y.length<=100000/\Q (.list (x++y))
|_,_,_=>False
def zQ{n:Nat}(h:n<=100000):n<=bM:=by have:bM=2^24:=rfl;omega
def gR:zW X (N7 X.K) aOy:=by
 intro H ps d1 d2 x y Q QV live r1 r2 h k
 cases r1 with
 |int i=>
  cases r2 with
  |int j=>exact .inl ⟨i,j,rfl,rfl,k _ _ H (L2.bJ.refl H) (.int _) h⟩
  |_=>exact h.elim
 |str i=>
  cases r2 with
  |str j=>exact .inr (.inl ⟨i,j,rfl,rfl,zQ h.1,k _ _ H (L2.bJ.refl H) (.str _) h.2⟩)
  |_=>exact h.elim
 |tuple q1 s1=>
  cases r2 with
  |tuple q2 s2=>
   refine .inr (.inr (.inl ⟨_,_,_,_,rfl,rfl,bJ.seqT bP q1,bJ.seqT bP q2,zQ (by rw[<- s1.length,<- s2.length];exact h.1),λz=>?_,λz1 z2=>?_,λz1 z2 p hp=>?_⟩))
   ·subst z;cases s1;exact k _ _ H (L2.bJ.refl H) (.tuple q2 s2) h.2
   ·subst z2;cases s2;have e:=h.2;rw[dP]at e;exact k _ _ H (L2.bJ.refl H) (.tuple q1 s1) e
   ·exact k _ _ _ (dL hp) (rN live hp (s1.append s2)) h.2
  |_=>exact h.elim
 |list q1 s1=>
  cases r2 with
  |list q2 s2=>
   exact .inr (.inr (.inr ⟨_,_,_,_,rfl,rfl,L2.bJ.seq bP q1,L2.bJ.seq bP q2,zQ (by rw[<- s1.length,<- s2.length];exact h.1),λp hp=>k _ _ _ (dL hp) (rO live hp (s1.append s2)) h.2⟩))
  |_=>exact h.elim
 |_=>exact h.elim
def aOx:D->D->(D->Prop)->Prop
|.int i,.int j,Q=>SD i j/\Q (.int (i*j))
|.str z,.int n,Q=>z.length<=1000/\0<=n/\n<=1000/\Q (.str (Txt.mul z n))
|_,_,_=>False
def sQ:zW X N5 aOx:=by
 intro H ps d1 d2 x y Q QV live r1 r2 h k
 cases r1 with
 |int i=>
  cases r2 with
  |int j=>exact .inl ⟨i,j,rfl,rfl,h.1,k _ _ H (L2.bJ.refl H) (.int _) h.2⟩
  |_=>exact h.elim
 |str z=>
  cases r2 with
  |int n=>exact .inr ⟨z,n,rfl,rfl,h.1,h.2.1,h.2.2.1,k _ _ H (L2.bJ.refl H) (.str _) h.2.2.2⟩
  |_=>exact h.elim
 |_=>exact h.elim
noncomputable def eqF:D->D->Option Bool
|.none,.none=>some true
|.bool x,.bool y=>some (decide (x=y))
|.int x,.int y=>some (decide (x=y))
|.str x,.str y=>some (decide (x=y))
|.str _,.none | .none,.str _=>some false
|_,_=>none
def fEq(x y:D)(Q:D->Prop):Prop:=match eqF x y with | some c=>Q (.bool c) | none=>False
def fNe(x y:D)(Q:D->Prop):Prop:=match eqF x y with | some c=>Q (.bool (!c)) | none=>False
def JV{x y:D}{u v:V}{c:Bool}(r1:fW K H x u)(r2:fW K H y v)(h:eqF x y=some c):aEc u v=true/\decide (u=v)=c:=by
 unfold eqF at h;split at h<;>cases h<;>cases r1<;>cases r2<;>exact⟨rfl,by simp⟩
def oH:zW X rEq fEq:=by
 intro H ps d1 d2 x y Q QV live r1 r2 h k;unfold fEq at h
 cases e:eqF d1 d2 with
 |none=>rw[e]at h;exact h.elim
 |some c=>
  rw[e]at h;obtain⟨h1,h2⟩:=JV r1 r2 e;refine⟨h1,?_⟩;rw[h2];exact k _ _ H (L2.bJ.refl H) (.bool c) h
def U3:zW X rNe fNe:=by
 intro H ps d1 d2 x y Q QV live r1 r2 h k;unfold fNe at h
 cases e:eqF d1 d2 with
 |none=>rw[e]at h;exact h.elim
 |some c=>
  rw[e]at h;obtain⟨h1,h2⟩:=JV r1 r2 e;refine⟨h1,?_⟩;rw[h2];exact k _ _ H (L2.bJ.refl H) (.bool (!c)) h
noncomputable def vE(b:Bool):D->Bool
|.bool c=>decide (c=b)
|_=>false
theorem Reps.atI{ds vs}{i:Int}{d}(r:Reps K H ds vs)(h:atI ds i=some d):∃v,atI vs i=some v/\fW K H d v:=by
 unfold L2.atI at h |-
 rw[<- r.length]
 cases e:ixN ds.length i with
 |none=>rw[e]at h;cases h
 |some j=>
  rw[e]at h;exact r.get h
inductive M6(ts:List D)(i:Int)(Q:D->Prop):Prop
|mk (d:D) (h:atI ts i=some d) (k:Q d):M6 ts i Q
def fIx(x y:D)(Q:D->Prop):Prop:=match x,y with
|.list ts,.int i=>M6 ts i Q
|.tuple ts,.int i=>M6 ts i Q
|.str z,.int i=>z.length<=100000/\∃c,atI z.cps.toList i=some c/\Q (.str ⟨#[c]⟩)
|_,_=>False
def eF:zW X (rIx X.K) fIx:=by
 intro H ps d1 d2 x y Q QV live r1 r2 h k
 cases r2 with
 |int i=>
  cases r1 with
  |list q s=>
   obtain⟨d,e,h⟩:=h;obtain⟨v,e',r⟩:=s.atI e;exact .inl ⟨_,_,i,v,rfl,rfl,L2.bJ.seq bP q,e',k _ _ H (L2.bJ.refl H) r h⟩
  |tuple q s=>
   obtain⟨d,e,h⟩:=h;obtain⟨v,e',r⟩:=s.atI e;exact .inr (.inl ⟨_,_,i,v,rfl,rfl,bJ.seqT bP q,e',k _ _ H (L2.bJ.refl H) r h⟩)
  |str z=>
   obtain⟨hz,c,e,h⟩:=h;exact .inr (.inr ⟨z,i,c,rfl,rfl,zQ hz,e,k _ _ H (L2.bJ.refl H) (.str _) h⟩)
  |_=>exact h.elim
 |_=>cases d1<;>exact h.elim
noncomputable def mL{α:Type}(xs:List α)(lo hi:Option Int):List α:=(xs.drop (HT.sIx xs.length 0 lo)).take (HT.sIx xs.length xs.length hi-HT.sIx xs.length 0 lo)
def fSl(x:D)(lo hi:Option Int)(Q:D->Prop):Prop:=match x with
|.list ts=>Q (.list (mL ts lo hi))
|.tuple ts=>Q (.tuple (mL ts lo hi))
|.str z=>z.length<=100000/\Q (.str (Txt.slice z lo hi))
|_=>False
def Reps.cut{ds vs}(r:Reps K H ds vs)(lo hi:Option Int):Reps K H (mL ds lo hi) (GW vs lo hi):=by
 unfold mL GW;rw[r.length];exact(r.drop _).take _
def yX:SlT X (T7 X.K) fSl:=by
 intro H ps d x lo hi Q QV live r h k
 cases r with
 |list q s=>exact .inl ⟨_,_,rfl,L2.bJ.seq bP q,λp hp=>k _ _ _ (dL hp) (rO live hp (s.cut lo hi)) h⟩
 |@tuple p xs ts q s=>
  refine .inr (.inl ⟨_,_,rfl,bJ.seqT bP q,λz=>?_,λ_ p hp=>k _ _ _ (dL hp) (rN live hp (s.cut lo hi)) h⟩)
  have e:mL ts lo hi=ts:=by
   unfold mL;rw[s.length,z.1,z.2,aMj,FS,<- s.length,dE]
  have h':Q (.tuple (mL ts lo hi)):=h;rw[e]at h';exact k _ _ H (L2.bJ.refl H) (.tuple q s) h'
 |str z=>exact .inr (.inr ⟨z,rfl,zQ h.1,k _ _ H (L2.bJ.refl H) (.str _) h.2⟩)
 |_=>exact h.elim
theorem EJ:∀{ys:List Str}{vs},Reps K H (ys.map aY) vs->vs=ys.map V.str
|[],_,r=>by rw[lA]at r;cases r;rfl
|y::ys,vs,r=>by
 rw[bD]at r
 cases r with
 |cons r1 r2=>
  cases r1;rw[bD,EJ r2]
def aDc{r:List V->Hp->VK->Prop}{f:List D->(D->Prop)->Prop}{t g}(hf:sV X r f)(ha:yQ X (e::es) t)(pc:∀{ta},PA X (e::es) ta->PE X (.Call g (e::es) [] pos) (NN r ta)):gG X (.Call g (e::es) [] pos) (oP f t):=by
 obtain⟨v,pa,ra⟩:=ha;refine⟨_,pc pa,λB p0 H ps σT σ Q QV o h k=>ra B p0 H ps σT σ _ _ o h λds xs H1 s1 r1 q1=>?_⟩;exact hf H1 ps ds xs Q QV (o.grow s1).live r1 q1 λd v H' s' r' q'=>k d v H' (s1.trans s') r' q'
def f1(f:D->(D->Prop)->Prop):List D->(D->Prop)->Prop
|[d],Q=>f d Q
|_,_=>False
def c1{r:List V->Hp->VK->Prop}{f:D->(D->Prop)->Prop}(h:∀H ps(d:D)(x:V)(Q:D->Prop)QV,(∀p∈ps,C1 (H p))->fW X.K (mask H ps) d x->f d Q ->
  (∀d v H',bJ H H'->fW X.K (mask H' ps) d v->Q d->QV v H')->r [x] H QV):sV X r (f1 f):=by
 intro H ps ds xs Q QV live rs hf k
 cases rs with
 |nil=>exact hf.elim
 |cons r1 r2=>
  cases r2 with
  |nil=>exact h H ps _ _ Q QV live r1 hf k
  |cons _ _=>exact hf.elim
def aLb(d:D)(Q:D->Prop):Prop:=match d with
|.list ts=>Q (.int ts.length)
|.tuple ts=>Q (.int ts.length)
|.str z=>z.length<=100000/\Q (.int z.length)
|_=>False
def dA:kB X (.builtin "len") (λxs H Q=>(∃p ys,xs=[.ref p]/\(mN X.K H p ys\/vL X.K H p ys)/\Q (.int ys.length) H)\/∃z,xs=[.str z]/\z.length<=bM/\Q (.int z.length) H):=G4.or G0
def jO:sV X (λxs H Q=>(∃p ys,xs=[.ref p]/\(mN X.K H p ys\/vL X.K H p ys)/\Q (.int ys.length) H)\/∃z,xs=[.str z]/\z.length<=bM/\Q (.int z.length) H) (f1 aLb):=c1 λH ps d x Q QV live r h k=>by
 cases r with
 |list q s=>
  refine .inl ⟨_,_,rfl,.inl (L2.bJ.seq bP q),?_⟩;rw[<- s.length];exact k _ _ H (L2.bJ.refl H) (.int _) h
 |tuple q s=>
  refine .inl ⟨_,_,rfl,.inr (bJ.seqT bP q),?_⟩;rw[<- s.length];exact k _ _ H (L2.bJ.refl H) (.int _) h
 |str z=>exact .inr ⟨z,rfl,zQ h.1,k _ _ H (L2.bJ.refl H) (.int _) h.2⟩
 |_=>exact h.elim
def MF(d:D)(Q:D->Prop):Prop:=match d with
|.list ts=>Q (.tuple ts)
|.tuple ts=>Q (.tuple ts)
|_=>False
def vI:sV X (λxs H Q=>∃p ys,xs=[.ref p]/\((mN X.K H p ys/\∀l,H l=none->Q (.ref l) (fM H l (.tup ys)))\/(vL X.K H p ys/\Q (.ref p) H))) (f1 MF):=c1 λH ps d x Q QV live r h k=>by
 cases r with
 |list q s=>exact⟨_,_,rfl,.inl ⟨L2.bJ.seq bP q,λl hl=>k _ _ _ (dL hl) (rN live hl s) h⟩⟩
 |tuple q s=>exact⟨_,_,rfl,.inr ⟨bJ.seqT bP q,k _ _ H (L2.bJ.refl H) (.tuple q s) h⟩⟩
 |_=>exact h.elim
def aC4(d:D)(Q:D->Prop):Prop:=match d with
|.list ts=>Q (.list ts)
|.tuple ts=>Q (.list ts)
|_=>False
def MV:sV X (λxs H Q=>∃p ys,xs=[.ref p]/\(mN X.K H p ys\/vL X.K H p ys)/\∀l,H l=none->Q (.ref l) (fM H l (.lst ys))) (f1 aC4):=c1 λH ps d x Q QV live r h k=>by
 cases r with
 |list q s=>exact⟨_,_,rfl,.inl (L2.bJ.seq bP q),λl hl=>k _ _ _ (dL hl) (rO live hl s) h⟩
 |tuple q s=>exact⟨_,_,rfl,.inr (bJ.seqT bP q),λl hl=>k _ _ _ (dL hl) (rO live hl s) h⟩
 |_=>exact h.elim
theorem IL:∀{ys:List Bool}{vs},Reps K H (ys.map mR) vs->vs=ys.map V.bl
|[],_,r=>by rw[lA]at r;cases r;rfl
|y::ys,vs,r=>by
 rw[bD]at r
 cases r with
 |cons r1 r2=>
  cases r1;rw[bD,IL r2]
theorem uS:∀{ys:List Int}{vs},Reps K H (ys.map aM) vs->vs=ys.map V.int
|[],_,r=>by rw[lA]at r;cases r;rfl
|y::ys,vs,r=>by
 rw[bD]at r
 cases r with
 |cons r1 r2=>
  cases r1;rw[bD,uS r2]
def aOu(d:D)(Q:D->Prop):Prop:=∃bs:List Bool,d=.list (bs.map mR)/\Q (.bool (bs.all id))
def XB:sV X (λxs H Q=>∃(p:Addr)(bs:List Bool),xs=[.ref p]/\mN X.K H p (bs.map V.bl)/\Q (.bl (bs.all id)) H) (f1 aOu):=c1 λH ps d x Q QV live r h k=>by
 obtain⟨bs,rfl,h⟩:=h
 cases r with
 |list q s=>
  have e:=IL s;subst e;exact⟨_,bs,rfl,L2.bJ.seq bP q,k _ _ H (L2.bJ.refl H) (.bool _) h⟩
noncomputable def tyD:D->String
|.none=>"NoneType"
|.bool _=>"bool"
|.int _=>"int"
|.str _=>"str"
|.list _=>"list"
|.tuple _=>"tuple"
|.dict []=>"list"
|.dict [(.none,_)]=>"list"
|.dict _=>"dict"
noncomputable def RI(T:String)(d:D):Bool:=(tyD d==T)||(T=="int"&&tyD d=="bool")
def GH{T}{i:Int}{x}(h:T∈["int","str","list","tuple","bool"]):RI T (.dict [(.int i,x)])=false:=by
 simp only[bE,eO,af]at h;rcases h with rfl | rfl | rfl | rfl | rfl<;>rfl
def V5(T:String)(d:D)(Q:D->Prop):Prop:=match d with | .dict ((.str _,_)::_)=>False | d=>Q (.bool (RI T d))
def aAi{T d}{Q:D->Prop}(h:∀x y r,d≠.dict ((.str x,y)::r))(q:V5 T d Q):Q (.bool (RI T d)):=by
 unfold V5 at q;split at q
 ·exact q.elim
 ·exact q
def aO2(T:String)(te:ET):ET:=λσ Q=>te σ λd=>V5 T d Q
def PU(K:aI)(T:String):Prop:=∀tn∈["NoneType","bool","int","str","list","tuple"],cP K (.type tn) (.type T)=some ((tn==T)||(T=="int"&&tn=="bool"))
def aEq(K:aI)(T:String):List V->Hp->VK->Prop:=λxs H Q=>∃x b,xs=[x,.ty T]/\((∃Tn,KW K H x Tn/\cP K (.type Tn) (.type T)=some b)\/(∃p C dx,x=.ref p/\H p=some (.ext (qG p C dx))/\(∀d,dx=some d->∃fs,H d=some (.xd fs))/\CW K C/\cP K (.ref C) (.type T)=some b))/\Q (.bl b) H
def B9{b7 s σ}{H:Hp}{A}{E:Value->Shared->Prop}{Q:Value->Shared->Prop}{p C:Addr}{dx c}{b:Bool}(I:dS X b7 σ H s)(hp:H p=some (.ext (qG p C dx)))(hd:∀d,dx=some d->∃fs,H d=some (.xd fs))(x:CW X.K C)
  (e:cP X.K (.ref C) c=some b) (h:∀tk,Q (.bool b) { s with toks:=tk }):wpAny (model X.prog X.w) A (call (.builtin "isinstance") [.ref p,c]) Q E s:=by
 refine eL (JK x) I.kIn ?_ e (λz=>nomatch z) h;obtain⟨⟨o,vs,h1,h2,h3,h4⟩,_⟩:=I.hok p _ hp;have hn:uI o=true:=by unfold uI;rw[h4]
 cases dx with
 |none=>exact⟨o,none,h1,h2,hn,by rw[h3];trivial⟩
 |some d=>
  obtain⟨fs,hf⟩:=hd d rfl;obtain⟨mA,⟨od,es,ep,he,_⟩,_⟩:=I.hok d _ hf;exact⟨o,some od,h1,h2,hn,by rw[h3];exact he⟩
def uE{T}:kB X (.builtin "isinstance") (aEq X.K T):=by
 intro b7 s σ H xs us Q I r h;obtain⟨x,b,rfl,⟨Tn,ht,hk⟩ | ⟨p,C,dx,rfl,hp,hd,hx,hk⟩,q⟩:=h
 ·obtain⟨u,w,rfl,ru,ny⟩:=NL r;cases ny;exact aAh I ru ht hk λtk=>⟨.bl b,H,I.tok tk,rfl,q⟩
 ·obtain⟨u,w,rfl,ru,ny⟩:=NL r;cases ny;cases ru;exact B9 I hp hd hx hk λtk=>⟨.bl b,H,I.tok tk,rfl,q⟩
def CF{T g1 g2}(hk:PU X.K T)(he:gG X e te)
  (pc:∀{v},PE X e v->PE X (.Call g1 [e,g2] [] pos) (NN (aEq X.K T) (nY v (nY (tC (.ty T)) xJ))))
  (hT:T∈["int","str","list","tuple","bool"]:=by decide):gG X (.Call g1 [e,g2] [] pos) (aO2 T te):=by
 obtain⟨v,pe,re⟩:=he;refine⟨_,pc pe,λB p0 H ps σT σ Q QV o h k=>re B p0 H ps σT σ _ _ o h λd x H1 s1 r1 q1=>?_⟩
 have fin:∀tn,tn∈["NoneType","bool","int","str","list","tuple"]->tyD d=tn->KW X.K H1 x tn->aEq X.K T [x,V.ty T] H1 QV:=λtn hm ht hn=>by
  refine⟨x,_,rfl,.inl ⟨tn,hn,hk tn hm⟩,?_⟩;have q:Q (.bool (RI T d)):=aAi (λx y r z=>by subst z;have z2:("dict":String)=tn:=ht;subst z2;exact d8 hm (by decide)) q1;unfold RI at q;rw[ht]at q;exact k _ _ H1 s1 (.bool _) q
 cases r1 with
 |none=>exact fin "NoneType" (by simp) rfl rfl
 |bool b=>exact fin "bool" (by simp) rfl rfl
 |int i=>exact fin "int" (by simp) rfl rfl
 |str z=>exact fin "str" (by simp) rfl rfl
 |list q s=>exact fin "list" (by simp) rfl (.inl ⟨rfl,_,L2.bJ.seq bP q⟩)
 |tuple q s=>exact fin "tuple" (by simp) rfl (.inr (.inl ⟨rfl,_,bJ.seqT bP q⟩))
 |wild h=>exact fin "list" (by simp) rfl (.inr (.inr ⟨rfl,_,bP _ _ h,λ_ ⟨_,_,e,_⟩=>⟨_,e,rfl⟩⟩))
 |tape h _=>exact fin "list" (by simp) rfl (.inr (.inr ⟨rfl,_,bP _ _ h,λ_ ⟨_,_,_,_,_,_,_,e,_⟩=>⟨_,e,rfl⟩⟩))
 |exc x h=>
  refine⟨_,false,rfl,.inr ⟨_,_,_,rfl,bP _ _ h,(λ_ z=>nomatch z),x.1,x.2 T hT⟩,?_⟩;have q2:Q (.bool (RI T (.dict _))):=q1;rw[GH hT]at q2;exact k _ _ H1 s1 (.bool _) q2
 |excA x h g=>
  refine⟨_,false,rfl,.inr ⟨_,_,_,rfl,bP _ _ h,λ_ z=>by cases z;exact⟨_,bP _ _ g⟩,x.1,x.2 T hT⟩,?_⟩;have q2:Q (.bool (RI T (.dict _))):=q1;rw[GH hT]at q2;exact k _ _ H1 s1 (.bool _) q2
 |excD x h g _=>
  refine⟨_,false,rfl,.inr ⟨_,_,_,rfl,bP _ _ h,λ_ z=>by cases z;exact⟨_,bP _ _ g⟩,x.1,x.2 T hT⟩,?_⟩;have q2:Q (.bool (RI T (.dict _))):=q1;rw[GH hT]at q2;exact k _ _ H1 s1 (.bool _) q2
 |dct _ _ _ _=>exact(show False from q1).elim
 |addr z=>exact(show False from q1).elim
 |ins _ _=>exact(show False from q1).elim
def aLc(z:Str)(ds:List D)(Q:D->Prop):Prop:=match ds with | [.list ts]=>∃ys:List Str,ts=ys.map aY/\(ys.map (·.length)).sum+ys.length*z.length<=16777216/\Q (.str (Txt.join z ys)) | _=>False
def aJc(i j:Nat)(te:ET):rE:=λDT σ=>te σ λd=>gP i j d σ DT.nx
def K5{i j:Nat}{tg}{g:TG}(he:gG X e te)(hg:FK X tg (gP i j))(pa:∀{v gv},PE X e v->PG X tg gv->PS X (.Assign [tg] e pos) (wS v gv)):sT X (.Assign [tg] e pos) (aJc i j te):=by
 obtain⟨v,pe,re⟩:=he;obtain⟨gv,pg,rg⟩:=hg;refine⟨_,pa pe pg,λB p0 H ps σT σ DT DV o h f=>re B p0 H ps σT σ _ _ o h λd x H1 s1 r1 q1=>?_⟩;exact rg B p0 H1 ps σT σ d x _ _ (o.grow s1) r1 q1 λg8 g6 o' _ q'=>f.nx H1 ps _ _ o' (bT s1) q'
def fW.reads{b7:List (Addr×Obj)}{s:Shared}{σ:L2.St}(I:dS X b7 σ H s){d:D}{x:V}{u:Value}(hd:d.hasDict=false)(r:fW X.K H d x)(rv:fX x u):∃as,Reads s.heap u d as:=by
 refine fW.rec (motive_1:=λd x _=>∀u,d.hasDict=false->fX x u->∃as,Reads s.heap u d as) (motive_2:=λds xs _=>∀us,iR ds=false->gE xs us->∃as,ReadsAll s.heap us ds as)
  (λu _ r=>by cases r;exact⟨_,.none⟩) (λb u _ r=>by cases r;exact⟨_,.bool b⟩) (λi u _ r=>by obtain⟨t,rfl⟩:=r;exact⟨_,.int i t⟩) (λz u _ r=>by obtain⟨t,rfl⟩:=r;exact⟨_,.str z t⟩)
  (λq _ a u hd r=>?_) (λq _ a u hd r=>?_) ?_ ?_ ?_ ?_ ?_ ?_ ?_ ?_ (λus _ r=>by cases r;exact⟨_,.nil⟩) (λ{d ds x xs} _ _ a b us hd r=>?_) r u hd rv
 ·cases r;obtain⟨its,rv,⟨o,n,h1,h2,_,h3⟩,_⟩:=I.list q;obtain⟨as,h4⟩:=a _ hd rv;exact⟨_,.list h1 h2 h3 (by simpa using h4)⟩
 ·cases r;obtain⟨its,rv,⟨o,h1,h2,n,h3⟩,_⟩:=I.tuple q;obtain⟨as,h4⟩:=a _ hd rv;exact⟨_,.tuple h1 h2 h3 (by simpa using h4)⟩
 case refine_11=>
  have Cw:(d.hasDict||iR ds)=false:=hd;rw[P8]at Cw
  cases r with
  |cons v1 v2=>
   obtain⟨as,h1⟩:=a _ Cw.1 v1;obtain⟨bs,h2⟩:=b _ Cw.2 v2;exact⟨_,.cons h1 h2⟩
 all_goals intros;rename_i hd _;cases hd
end
end TL
namespace TL
open L2
noncomputable def aE6(names:List (Str×y9)):Bool:=match names.filter (λy=>y.2==h8)with
|[]=>true
|[x]=>names.lookup x.1==some .cell
|_=>false
def ZR{names}(h:aE6 names=true):vM names:=by
 unfold aE6 at h;split at h
 ·rename_i e;exact .inl e
 ·rename_i x e;have hx:x∈names.filter (λy=>y.2==h8):=by rw[e];exact bR.mpr rfl
  have hk:x.2=.cell:=wr (bN.mp hx).2;exact .inr ⟨x.1,by rw[e,<- hk],beq_iff_eq.mp h⟩
 ·cases h
noncomputable def wE(sc out:Scope)(Nx N':List Str)(fr:List (Option Nat)):Bool:=
 decide (sc.kind=.function)&&aE6 sc.names&&sc.names.all (λy=>decide (y.2≠.free)||decide (out.names.lookup y.1=some .cell))&&sc.names.all (λy=>decide (y.2≠.local)||decide (sc.names.lookup y.1=some .local))&&tZ sc.names out.names Nx N' fr
section
variable{X:Cx}{az iter tg:Expr}{cw:List Expr}{scope:Scope}{pos:Pos}{N':List Str}{fr:List (Option Nat)}{wi:TI}{g:BP->TG}{tt:BP->TT}{te:BP->TE}
def EW{out:Scope}{Nx}(h:wE scope out Nx N' fr=true):scope.kind=.function/\vM scope.names/\(∀y∈scope.names,y.2=.free->out.names.lookup y.1=some .cell)/\(∀y∈scope.names,y.2=.local->scope.names.lookup y.1=some .local)/\tZ scope.names out.names Nx N' fr=true:=by
 unfold wE at h;simp only[bU,iM,uP,k9]at h;obtain⟨⟨⟨⟨h1,h2⟩,h3⟩,h4⟩,h5⟩:=h;exact⟨h1,ZR h2,λy hy e=>(h3 y hy).elim (λz=>d8 e z) id,λy hy e=>(h4 y hy).elim (λz=>d8 e z) id,h5⟩
def LP(h:wE scope X.env.scope X.N N' fr=true)(gh:X.calm=true)(hi:PI X tg iter wi)
  (hY:∀b:BP,PG (blk X scope N' b) tg (g b)/\M3 (blk X scope N' b) cw (tt b)/\PE (blk X scope N' b) az (te b)) (hs:∀x,j8 iter X.env x=pure x:=by intro _;rfl):PE X (.ListComp az [⟨tg,iter,cw,0⟩] scope pos) (NM fr wi g tt te):=by
 obtain⟨h1,h2,h3,h4,h5⟩:=EW h;exact aJy gh h1 h2 h5 h3 h4 hi hY hs
def yU{i:Nat}{x}{px nz:Pos}(h:wE scope X.env.scope X.N N' fr=true)(hN:X.N.Nodup)(Bv:X.N[i]?=some x)(hx:SA X.env.scope x)(gh:X.calm=true)(hi:PI X tg iter wi)
  (hY:∀b:BP,PG (blk X scope N' b) tg (g b)/\M3 (blk X scope N' b) cw (tt b)/\PE (blk X scope N' b) az (te b))
  (Nb:gX (.ListComp az [⟨tg,iter,cw,0⟩] scope pos) (some (.Name x px)) nz.line X.env=pure true) (hs:∀x,j8 iter X.env x=pure x:=by intro _;rfl) (hf:X.fn x=true\/X.env.scope.names.lookup x=some .local:=by first | exact .inl rfl | exact .inr rfl) :
  PS X (.Assign [.Name x px] (.ListComp az [⟨tg,iter,cw,0⟩] scope pos) nz) (wS (NM fr wi g tt te) (kG i)):=by
 obtain⟨h1,h2,h3,h4,h5⟩:=EW h;exact UB hN Bv hx gh h1 h2 h5 h3 h4 hi hY Nb hs hf
end
def MY:i0 "all"=some (.builtin "all"):=by decide +kernel
def XG:i0 "max"=some (.builtin "max"):=by decide +kernel
def iU:i0 "isinstance"=some (.builtin "isinstance"):=by decide +kernel
def fR:i0 "len"=some (.builtin "len"):=by decide +kernel
def aGk:i0 "set"=some (.type "set"):=by decide +kernel
def jZ:i0 "tuple"=some (.type "tuple"):=by decide +kernel
def yE:i0 "list"=some (.type "list"):=by decide +kernel
def aBl:i0 "bool"=some (.type "bool"):=by decide +kernel
def XH:i0 "int"=some (.type "int"):=by decide +kernel
def yZ(K:aI):PU K "tuple":=by
 intro tn h;simp only[bE,eO,af]at h;rcases h with rfl | rfl | rfl | rfl | rfl | rfl<;>first | rfl | (with_unfolding_all rfl) | decide +kernel
def V2(K:aI):PU K "bool":=by
 intro tn h;simp only[bE,eO,af]at h;rcases h with rfl | rfl | rfl | rfl | rfl | rfl<;>first | rfl | (with_unfolding_all rfl) | decide +kernel
def aAc(K:aI):PU K "int":=by
 intro tn h;simp only[bE,eO,af]at h;rcases h with rfl | rfl | rfl | rfl | rfl | rfl<;>first | rfl | (with_unfolding_all rfl) | decide +kernel
def set_set{α:Type}(l:List α)(i:Nat)(a b:α):(l.set i a).set i b=l.set i b:=by
 apply gZ;intro j;by_cases h:i=j
 ·subst h;by_cases hl:i<l.length
  ·rw[aV (by simpa using hl),aV hl]
  ·rw[gB (by simpa using hl),gB (by simpa using hl)]
 ·rw[aU h,aU h,aU h]
def aCz{ts:List D}{yp:List Sl}{te:ET}{Q:D->Prop}(R:Nat->D->D->Prop)(hz:ts.length<=100000)
  (ht:∀(k:Nat)(x:D)(q:D->Prop),ts[k]?=some x->(∀y,R k x y->q y)->te (yp.set 0 (.val x)) q)
  (hq:∀ys:List D,ys.length=ts.length->(∀(k:Nat)(x y:D),ts[k]?=some x->ys[k]?=some y->R k x y)->Q (.list ys)) :
  ts.length<=100000/\∃P:Nat->List Sl->List D->Prop,P 0 yp [] /\
   (∀(k:Nat)(x:D)(g6:List Sl)(ds:List D),ts[k]?=some x->P k g6 ds->gN 0 x g6 λz8=>uF z8 λb=>if b=true then te z8 λy=>P (k+1) z8 (ds++[y])else P (k+1) z8 ds)/\∀g6 ds,P ts.length g6 ds->Q (.list ds):=by
 refine⟨hz,λk g6 ds=>(∀x,g6.set 0 (.val x)=yp.set 0 (.val x))/\ds.length=k/\∀(j:Nat)(x y:D),ts[j]?=some x->ds[j]?=some y->R j x y,⟨λ_=>rfl,rfl,λj x y _ h=>by simp at h⟩,λk x g6 ds hx h=>?_,λg6 ds h=>hq ds h.2.1 h.2.2⟩;obtain⟨h1,h2,h3⟩:=h;show te (g6.set 0 (.val x)) _;rw[h1 x];refine ht k x _ hx λy hy=>⟨λz=>set_set _ _ _ _,by simp[h2],λj x' y' e1 e2=>?_⟩;by_cases hj:j<k
 ·rw[cQ (by omega)]at e2;exact h3 j x' y' e1 e2
 ·rw[cN (by omega)]at e2
  have:j=k:=by
   by_cases e:j=k
   ·exact e
   ·have:j-ds.length≠0:=by omega
    cases q:j-ds.length with
    |zero=>exact d8 q this
    |succ n=>rw[q]at e2;simp at e2
  subst this;rw[hx]at e1;cases e1;simp[h2]at e2;subst e2;exact hy
def aFj{ts:List D}{yp:List Sl}{te:ET}{Q:D->Prop}(f:D->D)(hz:ts.length<=100000)(ht:∀(x:D)(q:D->Prop),x∈ts->q (f x)->te (yp.set 0 (.val x)) q)(hq:Q (.list (ts.map f))) :
  ts.length<=100000/\∃P:Nat->List Sl->List D->Prop,P 0 yp [] /\
   (∀(k:Nat)(x:D)g6(ds:List D),ts[k]?=some x->P k g6 ds->gN 0 x g6 λz8=>uF z8 λb=>if b=true then te z8 λy=>P (k+1) z8 (ds++[y])else P (k+1) z8 ds)/\∀g6 ds,P ts.length g6 ds->Q (.list ds):=by
 refine aCz (λk x y=>y=f x) hz (λk x q hx h=>ht x q (aN hx) (h _ rfl)) λys hl h=>?_
 have e:ys=ts.map f:=by
  apply gZ;intro i;rw[aH]
  cases hx:ts[i]? with
  |none=>
   rw[gB (by rw[hl];exact List.getElem?_eq_none_iff.mp hx)];rfl
  |some x=>
   have hi:i<ys.length:=by rw[hl];exact(aD.mp hx).1
   have:=h i x ys[i] hx (aG hi);rw[aG hi,this];rfl
 rw[e];exact hq
def Z7{ts:List D}{yp:List Sl}{tt:yP}{te:ET}{Q:D->Prop}(p:D->Bool)(f:D->D)(hz:ts.length<=100000)(hp:∀(x:D)(q:Bool->Prop),x∈ts->q (p x)->tt (yp.set 0 (.val x)) q)
  (ht:∀(x:D)(q:D->Prop),x∈ts->q (f x)->te (yp.set 0 (.val x)) q) (hq:Q (.list ((ts.filter p).map f))) :
  ts.length<=100000/\∃P:Nat->List Sl->List D->Prop,P 0 yp [] /\
   (∀(k:Nat)(x:D)(g6:List Sl)(ds:List D),ts[k]?=some x->P k g6 ds->gN 0 x g6 λz8=>tt z8 λb=>if b=true then te z8 λy=>P (k+1) z8 (ds++[y])else P (k+1) z8 ds)/\∀g6 ds,P ts.length g6 ds->Q (.list ds):=by
 refine⟨hz,λk g6 ds=>(∀x,g6.set 0 (.val x)=yp.set 0 (.val x))/\ds=((ts.take k).filter p).map f,⟨λ_=>rfl,rfl⟩,λk x g6 ds hx h=>?_,λg6 ds h=>?_⟩
 ·obtain⟨h1,rfl⟩:=h;have hm:x∈ts:=aN hx;show tt (g6.set 0 (.val x)) _;rw[h1 x];refine hp x _ hm ?_;have e:ts.take (k+1)=ts.take k++[x]:=by rw[cV,hx];rfl
  cases hb:p x with
  |true=>
   rw[b9 rfl];refine ht x _ hm ⟨λz=>set_set _ _ _ _,?_⟩;rw[e,iL,bV];simp[hb]
  |false=>
   rw[b8 (by decide)];refine⟨λz=>set_set _ _ _ _,?_⟩;rw[e,iL,bV];simp[hb]
 ·obtain⟨_,rfl⟩:=h;rw[dE];exact hq
section
variable{fr:List (Option Nat)}{ti:IT}{tt:yP}{te:ET}{σ:List Sl}{Q:D->Prop}{ts:List D}
abbrev qO(ti:IT)(σ:List Sl)(ts:List D):Prop:=∀R:List D->Prop,R ts->ti σ R
def jV(nj:qO ti σ ts)(f:D->D)(hz:ts.length<=100000)(ht:∀(x:D)(q:D->Prop),x∈ts->q (f x)->te ((jF fr σ).set 0 (.val x)) q)(hq:Q (.list (ts.map f))):WX fr ti (gN 0) uF te σ Q:=
 nj _ (aFj (te:=te) (Q:=Q) f hz ht hq)
def VP(nj:qO ti σ ts)(R:Nat->D->D->Prop)(hz:ts.length<=100000)
  (ht:∀(k:Nat)(x:D)(q:D->Prop),ts[k]?=some x->(∀y,R k x y->q y)->te ((jF fr σ).set 0 (.val x)) q)
  (hq:∀ys:List D,ys.length=ts.length->(∀(k:Nat)(x y:D),ts[k]?=some x->ys[k]?=some y->R k x y)->Q (.list ys)):WX fr ti (gN 0) uF te σ Q:=
 nj _ (aCz (te:=te) (Q:=Q) R hz ht hq)
def xY(nj:qO ti σ ts)(p:D->Bool)(f:D->D)(hz:ts.length<=100000)(hp:∀(x:D)(q:Bool->Prop),x∈ts->q (p x)->tt ((jF fr σ).set 0 (.val x)) q)
  (ht:∀(x:D)(q:D->Prop),x∈ts->q (f x)->te ((jF fr σ).set 0 (.val x)) q) (hq:Q (.list ((ts.filter p).map f))):WX fr ti (gN 0) tt te σ Q:=
 nj _ (Z7 (tt:=tt) (te:=te) (Q:=Q) p f hz hp ht hq)
def WO{g:GT}{tb}{DT:uG}(nj:qO ti σ ts)(P:Nat->List Sl->Prop)(h0:P 0 σ)
  (hs:∀(k:Nat)(x:D)g6,ts[k]?=some x->P k g6->g x g6 λz8=>tb { DT with nx:=P (k+1),ct:=P (k+1),bk:=DT.nx } z8) (hd:∀g6,P ts.length g6->DT.nx g6):Y2 ti g tb DT σ:=nj _ ⟨P,h0,hs,hd⟩
end
def vK(x y:Str):(x++y).cps.toList=x.cps.toList++y.cps.toList:=by
 show(x.cps++y.cps).toList=_;simp
def LM(xs:Array Nat)(a k:Nat):(aZ k).filterMap (λm=>xs[a+m]?)=(xs.toList.drop a).take k:=by
 induction k with
 |zero=>simp
 |succ k ih=>
  rw[aBz,NI,ih,cV,jE];congr 1;simp only[fH,List.filterMap_nil];rw[cU];cases xs[a+k]?<;>rfl
def PM(v:Option Int)(n d:Nat)(hd:d<=n):(match v with | none=>(d:Int) | some i=>max 0 (min (if i<0 then i+(n:Int)else i) (n:Int)))=((HT.sIx n d v:Nat):Int):=by
 cases v with
 |none=>rfl
 |some i=>
  have:=HT.clip_eq i n d;rw[<- this];dsimp only;split<;>omega
def W9(v:Option Int)(n:Nat):(match v with | none=>(0:Int) | some i=>max 0 (min (if i<0 then i+(n:Int)else i) (n:Int)))=((HT.sIx n 0 v:Nat):Int):=PM v n 0 (cL _)
def TJ{a a' b b':Int}(h1:a=a')(h2:b=b'):Ez a b 1=Ez a' b' 1:=by rw[h1,h2]
def tM(z:Str)(lo hi:Option Int):(Txt.slice z lo hi).cps.toList=mL z.cps.toList lo hi:=by
 have hn:z.cps.toList.length=z.length:=by simp[jf]
 have ha:=HT.sIx_le z.length 0 (cL _) lo;have hb:=HT.sIx_le z.length z.length (aL _) hi
 have hI:ja lo hi 1 z.length=(aZ (HT.sIx z.length z.length hi-HT.sIx z.length 0 lo)).map (λk=>HT.sIx z.length 0 lo+k):=by
  unfold ja;simp only[show(1:Int)>0 by decide,ef];refine(TJ (W9 lo z.length) (PM hi z.length z.length (aL _))).trans ?_;unfold Ez;simp only[show(1:Int)>0 by decide,ef]
  generalize HT.sIx z.length 0 lo=a
  generalize HT.sIx z.length z.length hi=b
  have ec:(if(a:Int)<(b:Int)then((b:Int)-a+1-1) / 1 else 0).toNat=b-a:=by split<;>omega
  rw[ec];apply iW;intro k _;omega
 unfold Txt.slice mL;rw[hn,hI]
 generalize HT.sIx z.length 0 lo=a at *
 generalize HT.sIx z.length z.length hi=b at *
 split
 ·next h=>
  simp only[ue,yM,om,aB,dN]at h;have h1:a=0:=by omega
  have h2:b-a=z.cps.toList.length:=by rw[hn];exact h
  rw[h2,h1,FS,dE]
 ·rw[SS];exact LM z.cps a (b-a)
def L7:∀ys:List Str,(Txt.join ⟨#[]⟩ ys).cps.toList=(ys.map (·.cps.toList)).flatten:=by
 intro ys;show(Builtin.Str.glued ⟨#[]⟩ ys).cps.toList=_;rw[StrLaws.glued_eq_join]
 induction ys with
 |nil=>rfl
 |cons x ys ih=>
  cases ys with
  |nil=>simp[Str.join]
  |cons y r=>
   show(x++⟨#[]⟩++Str.join ⟨#[]⟩ (y::r)).cps.toList=_;rw[vK,vK,ih];simp
def WB(x:Str)(c:Nat):Txt.contains x ⟨#[c]⟩=decide (c∈x.cps.toList):=StrLaws.found_one x c
section
variable{te:ET}{u t e:rE}{c:yP}{DT:uG}{σ:List Sl}{i:Nat}
def dI(v:D)(h:∀q:D->Prop,q v->te σ q)(k:u DT (σ.set i (.val v))):iY (AE i te) u DT σ:=h _ k
def tN(R:D->Prop)(h:∀q:D->Prop,(∀v,R v->q v)->te σ q)(k:∀v,R v->u DT (σ.set i (.val v))):iY (AE i te) u DT σ:=h _ k
def gK(R:Bool->Prop)(h:∀q:Bool->Prop,(∀b,R b->q b)->c σ q)(k1:R true->t { DT with nx:=u DT } σ)(k0:R false->e { DT with nx:=u DT } σ):iY (sIf c t e) u DT σ:=by
 refine h _ λb hb=>?_
 cases b with
 |true=>rw[b9 rfl];exact k1 hb
 |false=>rw[b8 (by decide)];exact k0 hb
def pF(R:Bool->Prop)(h:∀q:Bool->Prop,(∀b,R b->q b)->c σ q)(k1:R true->t DT σ)(k0:R false->e DT σ):sIf c t e DT σ:=by
 refine h _ λb hb=>?_
 cases b with
 |true=>rw[b9 rfl];exact k1 hb
 |false=>rw[b8 (by decide)];exact k0 hb
def jK{ti}{ts:List D}{g:GT}{tb}(nj:qO ti σ ts)(P:Nat->List Sl->Prop)(h0:P 0 σ)
  (hs:∀(k:Nat)(x:D)g6,ts[k]?=some x->P k g6->g x g6 λz8=>tb { DT with nx:=P (k+1),ct:=P (k+1),bk:=u DT } z8) (hd:∀g6,P ts.length g6->u DT g6):iY (Y2 ti g tb) u DT σ:=
 WO (DT:={ DT with nx:=u DT }) nj P h0 hs hd
def pZ{t:AT}(ds:List D)(hz:ds.length<=1000)(h:∀q:List D->Prop,q ds->t σ q)(k:u DT (σ.set i (.own ds))):iY (aEh i t) u DT σ:=h _ ⟨hz,k⟩
def uX{ts:List D}(v:D)(ho:σ[i]?=some (.own ts))(hz:ts.length<=100000)(h:∀q:D->Prop,q v->te σ q)(k:DT.nx (σ.set i (.own (ts++[v])))):aJf i te DT σ:=⟨ts,ho,h _ ⟨hz,k⟩⟩
def qC(v:D)(h:∀q:D->Prop,q v->te σ q)(k:DT.nx (σ.set i (.val v))):AE i te DT σ:=h _ k
end
mutual
theorem nB:∀{d:D},d.canLay0=true->d.hasDict=false
|.none,_=>rfl
|.bool _,_=>rfl
|.int _,_=>rfl
|.str _,_=>rfl
|.list _,h=>noDictAll h
|.tuple _,h=>noDictAll h
|.dict _,h=>by cases h
theorem noDictAll:∀{ds:List D},dD ds=true->iR ds=false
|[],_=>rfl
|d::ds,h=>by
 have h':(d.canLay0&&dD ds)=true:=h;rw[bU]at h';show(d.hasDict||iR ds)=false;rw[nB h'.1,noDictAll h'.2];rfl
end
section
variable{X:Cx}{b e:Expr}
def zM(K:aI)(ok:D->D->Prop)(f:D->D->Bool):R2:=λx y H Q=>∃d1 d2,fW K H d1 x/\fW K H d2 y/\ok d1 d2/\Q (.bl (f d1 d2)) H
def aLj(ok:D->D->Prop)(f:D->D->Bool)(x y:D)(Q:D->Prop):Prop:=ok x y/\Q (.bool (f x y))
def rT{ok:D->D->Prop}{f:D->D->Bool}:zW X (zM X.K ok f) (aLj ok f):=by
 intro H ps d1 d2 x y Q QV live r1 r2 h k;exact⟨d1,d2,r1.same bP,r2.same bP,h.1,k _ _ H (L2.bJ.refl H) (.bool _) h.2⟩
def aKw(d1 d2:D):Prop:=d1.canLay0=true/\d2.canLay0=true/\min d1.depth d2.depth<=60
def UX{k:Nat}(hr:Room k X.A):nP X (i3 .Eq) (zM X.K aKw cO):=by
 intro b7 s σ H x y v u Q I rx ry h;obtain⟨d1,d2,r1,r2,⟨c1,c2,hm⟩,q⟩:=h;obtain⟨as,h1⟩:=fW.reads I (nB c1) r1 rx;obtain⟨bs,h2⟩:=fW.reads I (nB c2) r2 ry;exact SeqAt.compareEq_reads h1 h2 c1 c2 (by have:=hr.un;omega) ⟨.bl _,H,I,rfl,q⟩
def GB{k:Nat}(hr:Room k X.A):nP X (i3 .NotEq) (zM X.K aKw λx y=>!cO x y):=by
 intro b7 s σ H x y v u Q I rx ry h;obtain⟨d1,d2,r1,r2,⟨c1,c2,hm⟩,q⟩:=h;obtain⟨as,h1⟩:=fW.reads I (nB c1) r1 rx;obtain⟨bs,h2⟩:=fW.reads I (nB c2) r2 ry;exact SeqAt.compareNe_reads h1 h2 c1 c2 (by have:=hr.un;omega) ⟨.bl _,H,I,rfl,q⟩
def yW(x y:D):Prop:=match y with
|.list ts=>dD ts=true/\x.canLay0=true/\min (cA ts) x.depth<=60
|.tuple ts=>dD ts=true/\x.canLay0=true/\min (cA ts) x.depth<=60
|_=>False
noncomputable def DD(x y:D):Bool:=match y with
|.list ts=>ts.any λz=>cO z x
|.tuple ts=>ts.any λz=>cO z x
|_=>false
def QY{k:Nat}(hr:Room k X.A):nP X (i3 .In) (zM X.K yW DD):=by
 intro b7 s σ H x y v u Q I rx ry h;obtain⟨d1,d2,r1,r2,ho,q⟩:=h
 have hd:d1.hasDict=false/\d2.hasDict=false:=by
  cases d2 with
  |list ts=>exact⟨nB ho.2.1,noDictAll ho.1⟩
  |tuple ts=>exact⟨nB ho.2.1,noDictAll ho.1⟩
  |_=>exact ho.elim
 obtain⟨as,h1⟩:=fW.reads I hd.1 r1 rx;obtain⟨bs,h2⟩:=fW.reads I hd.2 r2 ry
 cases d2 with
 |list ts=>exact SeqAt.in_list_reads h2 h1 ho.1 ho.2.1 (by have:=hr.un;have:=ho.2.2;omega) ⟨.bl _,H,I,rfl,q⟩
 |tuple ts=>exact SeqAt.in_tuple_reads h2 h1 ho.1 ho.2.1 (by have:=hr.un;have:=ho.2.2;omega) ⟨.bl _,H,I,rfl,q⟩
 |_=>exact ho.elim
def rS{k:Nat}(hr:Room k X.A):nP X (i3 .NotIn) (zM X.K yW λx y=>!DD x y):=by
 intro b7 s σ H x y v u Q I rx ry h;obtain⟨d1,d2,r1,r2,ho,q⟩:=h
 have hd:d1.hasDict=false/\d2.hasDict=false:=by
  cases d2 with
  |list ts=>exact⟨nB ho.2.1,noDictAll ho.1⟩
  |tuple ts=>exact⟨nB ho.2.1,noDictAll ho.1⟩
  |_=>exact ho.elim
 obtain⟨as,h1⟩:=fW.reads I hd.1 r1 rx;obtain⟨bs,h2⟩:=fW.reads I hd.2 r2 ry
 cases d2 with
 |list ts=>exact SeqAt.notIn_list_reads h2 h1 ho.1 ho.2.1 (by have:=hr.un;have:=ho.2.2;omega) ⟨.bl _,H,I,rfl,q⟩
 |tuple ts=>exact SeqAt.notIn_tuple_reads h2 h1 ho.1 ho.2.1 (by have:=hr.un;have:=ho.2.2;omega) ⟨.bl _,H,I,rfl,q⟩
 |_=>exact ho.elim
def aLi(x y:D)(Q:D->Prop):Prop:=match x,y with
|.str z,.str y=>Q (.bool (Txt.contains y z))
|x,y=>yW x y/\Q (.bool (DD x y))
def GC{k:Nat}(hr:Room k X.A):nP X (i3 .In) (λx y H Q=>(∃i j,x=.str i/\y=.str j/\Q (.bl (!(z9 j i 0 j.length 1).isEmpty)) H)\/zM X.K yW DD x y H Q):=QX.or (QY hr)
def OL:zW X (λx y H Q=>(∃i j,x=.str i/\y=.str j/\Q (.bl (!(z9 j i 0 j.length 1).isEmpty)) H)\/zM X.K yW DD x y H Q) aLi:=by
 intro H ps d1 d2 x y Q QV live r1 r2 h k;have gen:yW d1 d2/\Q (.bool (DD d1 d2))->_:=λh=>(.inr ⟨d1,d2,r1.same bP,r2.same bP,h.1,k _ _ H (L2.bJ.refl H) (.bool _) h.2⟩:(∃i j,x=.str i/\y=.str j/\QV (.bl (!(z9 j i 0 j.length 1).isEmpty)) H)\/zM X.K yW DD x y H QV)
 cases r1 with
 |str z=>
  cases r2 with
  |str w=>exact .inl ⟨z,w,rfl,rfl,k _ _ H (L2.bJ.refl H) (.bool _) h⟩
  |_=>exact gen h
 |_=>exact gen h
noncomputable def qF:D->Bool
|.none=>true
|_=>false
def fIs(x y:D)(Q:D->Prop):Prop:=match y with | .bool b=>Q (.bool (vE b x)) | .none=>Q (.bool (qF x)) | _=>False
def aAv(x y:D)(Q:D->Prop):Prop:=match y with | .bool b=>Q (.bool (!vE b x)) | .none=>Q (.bool (!qF x)) | _=>False
def UV:nP X (i3 .Is) (λx y H Q=>aEr x y H Q\/(y=.non/\Q (.bl (decide (x=.non))) H)):=aE4.or aE3
def QW:nP X (i3 .IsNot) (λx y H Q=>F5 x y H Q\/(y=.non/\Q (.bl (!decide (x=.non))) H)):=QU.or ZM
def aCx:zW X (λx y H Q=>aEr x y H Q\/(y=.non/\Q (.bl (decide (x=.non))) H)) fIs:=by
 intro H ps d1 d2 x y Q QV live r1 r2 h k
 cases r2 with
 |bool b=>
  refine .inl ⟨b,rfl,?_⟩;have e:(decide (x=V.bl b))=vE b d1:=by cases r1<;>simp[vE]
  rw[e];exact k _ _ H (L2.bJ.refl H) (.bool _) h
 |none=>
  refine .inr ⟨rfl,?_⟩;have e:(decide (x=V.non))=qF d1:=by cases r1<;>simp[qF]
  rw[e];exact k _ _ H (L2.bJ.refl H) (.bool _) h
 |_=>exact h.elim
def U4:zW X (λx y H Q=>F5 x y H Q\/(y=.non/\Q (.bl (!decide (x=.non))) H)) aAv:=by
 intro H ps d1 d2 x y Q QV live r1 r2 h k
 cases r2 with
 |bool b=>
  refine .inl ⟨b,rfl,?_⟩;have e:(!decide (x=V.bl b))=!vE b d1:=by cases r1<;>simp[vE]
  rw[e];exact k _ _ H (L2.bJ.refl H) (.bool _) h
 |none=>
  refine .inr ⟨rfl,?_⟩;have e:(!decide (x=V.non))=!qF d1:=by cases r1<;>simp[qF]
  rw[e];exact k _ _ H (L2.bJ.refl H) (.bool _) h
 |_=>exact h.elim
end
end TL
namespace L2
section
variable{X:Cx}{b7:List (Addr×Obj)}{σ:St}{H:Hp}{s:Shared}{h':Heap}
def dS.turnedNew{t':Nat}{ch:List Addr}{T:Addr}{o:HO}(I:dS X b7 σ H s)(hf:∀b∈ch,C5 X b7 H b)(k:∀b u,b∉ch->s.heap.get? b=some u->h'.get? b=some u)(hp:s.heap.objs.size<=T)(new:iE X.prog X.w (fM H T o) h' T o) :
  dS X b7 σ (fM H T o) { s with heap:=h',toks:=t' }:=by
 have Iu:∀b u,H b=some u->b∉ch:=λb u e z=>by rw[(hf b z).1]at e;cases e
 have hL:X.env.locals∉ch:=λz=>(hf _ z).2.1 rfl;have hn:H T=none:=I.hok.fresh hp;have ne:∀b u,H b=some u->(fM H T o) b=some u:=λb u e=>by rw[cI (fL e hn)];exact e
 have Wa:∀b u,s.heap.get? b=some u->b≠T:=λb u e z=>by
  exact d8 (cK (bG e) hp) (by rw[z];exact eX _)
 refine I.step (g':=s.gens) (d':=s.drawn) (ch:=ch) (λb hb=>?_) (λb o _ _ hc e _=>k b o hc e) (λb o _ _ hc e _=>⟨o.slots,k b o hc e⟩) (λb u _ e n=>by rw[cI (Wa b u e)];exact n)
  (λb o hc e=>⟨o,k b o hc e⟩) (λb xs e=>ne _ _ e) (λb u v e=>ne _ _ e) (λb ps e=>⟨#[],by rw[ne _ _ e];simp⟩) (λm hm=>?_) (λb u e=>?_) I.bare
 ·obtain⟨f0,f1,f2,f3,f4,f5⟩:=hf b hb;exact⟨f3,f1,f4,f5⟩
 ·obtain⟨o,es,ep,ho,r⟩:=hm;exact⟨o,es,ep,k _ o hL ho,r⟩
 ·by_cases hb:b=T
  ·subst hb;rw[cM]at e;cases e;exact new
  ·rw[cI hb]at e;refine(I.hok b u e).stay (λc v hc q=>k c v ?_ q) (λc q=>ne _ _ q) (λc xs q=>ne _ _ q) λc ob v q=>ne _ _ q;rcases hc with z | z
   ·rw[z];exact Iu b u e
   ·exact Iu c _ z
end
end L2
namespace TL
open L2
section
variable{fr:List (Option Nat)}{ti:IT}{te:ET}{σ:List Sl}{Q:D->Prop}{ts:List D}
def EH{α:Type}(l:List α)(a b c d:α):(((l.set 0 a).set 1 b).set 0 c).set 1 d=(l.set 0 c).set 1 d:=by
 match l with
 |[]=>rfl
 |[_]=>rfl
 |_::_::_=>rfl
def Z4(nj:qO ti σ ts)(f:D->D)(hz:ts.length<=100000)(hp:∀x∈ts,∃a b,x=.tuple [a,b])(ht:∀(a b:D)(q:D->Prop),.tuple [a,b]∈ts->q (f (.tuple [a,b]))->te (((jF fr σ).set 0 (.val a)).set 1 (.val b)) q)(hq:Q (.list (ts.map f))):WX fr ti (gP 0 1) uF te σ Q:=by
 refine nj _ ⟨hz,λk g6 ds=>(∀x y,(g6.set 0 (.val x)).set 1 (.val y)=((jF fr σ).set 0 (.val x)).set 1 (.val y))/\ds=(ts.take k).map f,⟨λ_ _=>rfl,rfl⟩,λk x g6 ds hx h=>?_,λg6 ds h=>?_⟩
 ·obtain⟨h1,rfl⟩:=h;have hm:x∈ts:=aN hx;obtain⟨a,b,rfl⟩:=hp x hm;refine⟨a,b,rfl,?_⟩;show te ((g6.set 0 (.val a)).set 1 (.val b)) _;rw[h1 a b];refine ht a b _ hm ⟨λx y=>EH _ _ _ _ _,?_⟩;rw[cV,hx,bV];rfl
 ·obtain⟨_,rfl⟩:=h;rw[dE];exact hq
end
end TL
namespace L2
open PySem.SeqAt
open AutoSeq1 (wpAny_loadPart')
def DM(l:Addr)(items:Array Value)(n:Nat)(dd:Option Addr)(sl:Array (Option Value))(x:Value)(e:Value->Bool)(j:Nat)(hj:j<items.size)(cf:e items[j]=true)(qm:∀m (hm:m<items.size),m<j->e items[m]=false) :
  Meets (fi.«tuple.index» ⟨[.ref l,x],[]⟩)
   (λA R s=>s.heap.get? l=some { cls:=.type "tuple",dict:=dd,data:=.seq items n,slots:=sl }/\(∀y,y∈items->EqAt A.in1 s y x (e y))/\R (.ok (.ret (.int j s.toks))) { s with toks:=s.toks+1 }):=by
 intro prog w A R s h;obtain⟨hp,g,d,tk,os⟩:=s;obtain⟨hl,he,h⟩:=h;unfold fi.«tuple.index»;simp only[Std.Legacy.Range.forIn_eq_forIn_range']
 wp_walk using im hl
 have hN:([:min items.size items.size]:Std.Legacy.Range).size=items.size:=by simp[Std.Legacy.Range.size]
 rw[hN];show wpAny _ _ (Fi (P4 0 items.size) (none,()) _) _ _ _;refine ak _ (λfK b s'=>b=(none,())/\s'=⟨hp,g,d,tk,os⟩/\∃k,fK=P4 k (items.size-k)/\k<=j) _ (λi fK b s' h1=>?_) (λb s' h1=>?_) _ _ ⟨rfl,rfl,0,by simp,cL _⟩
 ·obtain⟨rfl,rfl,k,hr,hk⟩:=h1;have Mf:k<items.size:=by omega
  have e1:items.size-k=(items.size-(k+1))+1:=by omega
  rw[e1,X4]at hr;obtain⟨rfl,rfl⟩:=List.cons.inj hr;have hi:items[i]?=some items[i]:=by simp[Mf]
  rw[hi];refine aA (he _ (Array.getElem_mem Mf) prog w _ _ ?_);by_cases Kd:i=j
  ·subst Kd;rw[cf,b9 rfl]
   wp_walk
   exact h
  ·have bo:i<j:=by omega
   rw[qm i Mf bo,b8 (by decide)];exact aF ⟨rfl,rfl,i+1,rfl,bo⟩
 ·obtain⟨_,_,k,hr,hk⟩:=h1;have:=i6 gO hr;simp at this;omega
end L2
namespace TL
open L2 PySem.SeqAt
section
variable{X:Cx}{e:Expr}{es:List Expr}{te ta:ET}{pos:Pos}
def Q1(ts:List D)(d:D)(j:Nat):Prop:=dD ts=true/\d.canLay0=true/\min (cA ts) d.depth<=60/\(∃t,ts[j]?=some t/\cO t d=true)/\∀(m:Nat) t,m<j->ts[m]?=some t->cO t d=false
def LF(K:aI):V->List V->Hp->VK->Prop:=λx xs H Q=>∃(y:V)(ts:List D)(d:D)(j:Nat),xs=[y]/\fW K H (.tuple ts) x/\fW K H d y/\Q1 ts d j/\Q (.int j) H
def Q7(hu:X.A.units+200<m4):MtR X "tuple.index" (LF X.K):=by
 intro b7 s σ H x xs v us Q I rx rv h;obtain⟨y,ts,d,j,rfl,r1,r2,⟨c1,c2,hm,⟨t,ht,he⟩,qm⟩,q⟩:=h;obtain⟨u,rfl,ru⟩:=rv.one;obtain⟨as,h1⟩:=fW.reads I (show(eM ts).hasDict=false from noDictAll c1) r1 rx;obtain⟨bs,h2⟩:=fW.reads I (nB c2) r2 ru
 cases h1 with
 |@tuple l o items n _ as' h3 h4 h5 h6=>
  have nh:=yh ts items.toList _ c1 h6;have o8:items.size=ts.length:=by rw[<- nh,aB,bB]
  have pj:j<ts.length:=(aD.mp ht).1;have hj:j<items.size:=by omega
  have rd:∀(m:Nat)(hm:m<items.size),ts[m]?=some (yg s.heap items[m]):=λm hm=>by
   rw[<- nh,aH];simp[hm]
  obtain⟨oc,od,Nu,qa⟩:=o;cases h4;cases h5;refine ki F.slot_tuple_index ⟨_,h3,rfl⟩ F.entry_tuple_index (F.args_tuple_index_2 _ _) (DM _ items _ od qa u (λy=>cO (yg s.heap y) d) j hj ?_ ?_) ⟨h3,Eu h6 h2 c1 c2 (by have:=hu;omega),?_⟩
  ·have:=rd j hj;rw[ht]at this;rw[<- e9 this];exact he
  ·intro m Hu bo;exact qm m _ bo (rd m Hu)
  ·exact⟨.int j,H,I.tok _,⟨_,rfl⟩,q⟩
def xW{k:Nat}(hr:Room k X.A):MtR X "tuple.index" (LF X.K):=Q7 (by have:=hr.un;omega)
def aGa(te:ET)(t:AT):ET:=λσ Q=>te σ λd=>∃ts,d=.tuple ts/\t σ λds=>∃(x:D)(j:Nat),ds=[x]/\Q1 ts x j/\Q (.int j)
def yA{n ap t}(hn:gG X n te)(ha:yQ X (e::es) t)
  (pc:∀{v ta},PE X n v->PA X (e::es) ta->PE X (.Call (.Attribute n "index" ap) (e::es) [] pos) (tBM X.K "tuple" (LF X.K) v ta)):gG X (.Call (.Attribute n "index" ap) (e::es) [] pos) (aGa te t):=by
 obtain⟨v,pe,re⟩:=hn;obtain⟨va,pa,ra⟩:=ha;refine⟨_,pc pe pa,λB p0 H ps σT σ Q QV o h k=>re B p0 H ps σT σ _ _ o h λd x H1 s1 r1 q1=>?_⟩;obtain⟨ts,rfl,q1⟩:=q1
 cases r1 with
 |@tuple p xs _ hq rs=>
  refine⟨.inr (.inl ⟨rfl,.inr ⟨_,bJ.seqT bP hq⟩⟩),ra B p0 H1 ps σT σ _ _ (o.grow s1) q1 λds ys H2 s2 r2 q2=>?_⟩;obtain⟨d,j,rfl,hok,q⟩:=q2
  cases r2 with
  |cons r3 r4=>
   cases r4;exact⟨_,ts,d,j,rfl,(fW.tuple hq rs).same ((bT s2).trans bP),r3.same bP,hok,k _ _ H2 (s1.trans s2) (.int _) q⟩
end
section
variable{K:aI}{H H':Hp}
noncomputable def aC7:D->Bool
|.none=>true
|.bool _=>true
|.int _=>true
|.str _=>true
|_=>false
def fW.flat{d v}(r:fW K H d v)(h:aC7 d=true):fW K H' d v:=by
 cases r with
 |none=>exact .none
 |bool b=>exact .bool b
 |int i=>exact .int i
 |str x=>exact .str x
 |_=>cases h
noncomputable def without(H:Hp)(p:Addr):Hp:=λb=>if b=p then none else H b
def bJ.free'(s:bJ H H'){p:Addr}(h:H' p=none):H p=none:=by
 cases q:H p with
 |none=>rfl
 |some u=>rw[s p u q]at h;cases h
end
section
variable{X:Cx}{a b c e:Expr}{es:List Expr}{ta tb te:ET}{pos:Pos}
def aBb(i:Nat)(t:ET):ET:=λσ Q=>∃ts,σ[i]?=some (.own ts)/\t (σ.set i (.val (.list ts))) λd=>aC7 d=true/\Q d
def RU(i:Nat)(h:gG X e te):gG X e (aBb i te):=by
 obtain⟨v,p,r⟩:=h;refine⟨_,p,λB p0 H ps σT σ Q QV o h k=>?_⟩;obtain⟨ts,e,h⟩:=h;obtain⟨m3,o',s'⟩:=o.share e;exact r B p0 H m3 _ σ _ _ o' h λd x H1 s1 r1 q1=>k d x H1 s1 (r1.flat q1.1) q1.2
abbrev FT:=List Sl->(List D->Prop)->Prop
def PFt(X:Cx)(e:Expr)(t:FT):Prop:=∃te:TE,PE X e te/\∀B p0 H ps σT σ (Q:List D->Prop)(QV:VK),Ok X.K B p0 H ps σT σ->t σT Q ->
 (∀ts p xs H',bJ H H'->H p=none->H' p=some (.lst xs)->Reps X.K (mask H' (p::ps)) ts xs->Q ts->QV (.ref p) H')->te σ H QV
def eFr(t:FT):ET:=λσ Q=>t σ λts=>Q (.list ts)
def O9{t}(h:PFt X e t):gG X e (eFr t):=by
 obtain⟨v,p,r⟩:=h;refine⟨_,p,λB p0 H ps σT σ Q QV o h k=>r B p0 H ps σT σ _ _ o h λts p xs H' s hp hx rs q=>k _ _ H' s ?_ q⟩;exact .list (mN.of (kK (fE o.live hp) hx)) (rs.same (kQ λq hq=>aO _ hq))
def aDa(ta tb:ET):FT:=λσ Q=>ta σ λx=>tb σ λy=>∃as bs,x=.list as/\y=.list bs/\as.length+bs.length<=100000/\Q (as++bs)
def aFz(ha:gG X a ta)(hb:gG X b tb):PFt X (.BinOp a .Add b pos) (aDa ta tb):=by
 obtain⟨va,pa,ra⟩:=ha;obtain⟨vb,pb,rb⟩:=hb;refine⟨_,UL OJ pa pb,λB p0 H ps σT σ Q QV o h k=>ra B p0 H ps σT σ _ _ o h λd1 x H1 s1 r1 q1=>?_⟩;refine rb B p0 H1 ps σT σ _ _ (o.grow s1) q1 λd2 y H2 s2 r2 q2=>?_;obtain⟨as,bs,rfl,rfl,hz,q⟩:=q2
 cases r1 with
 |list h1 t1=>
  cases r2 with
  |list h2 t2=>
   refine⟨_,_,_,_,rfl,rfl,L2.bJ.seq ((bT s2).trans bP) h1,L2.bJ.seq bP h2,zQ (by rw[<- t1.length,<- t2.length];exact hz),λp hp=>?_⟩;exact k _ p _ _ ((s1.trans s2).trans (dL hp)) (bJ.free' (s1.trans s2) hp) cM (by rw[lL hp];exact(t1.same (bT s2)).append t2) q
def fLc(fr:List (Option Nat))(ti:IT)(g:GT)(tt:yP)(te:ET):FT:=λσ Q=>ti σ λts=>ts.length<=100000/\∃P:Nat->List Sl->List D->Prop,P 0 (jF fr σ) [] /\
 (∀(k:Nat)(x:D)g6(ds:List D),ts[k]?=some x->P k g6 ds->g x g6 λz8=>tt z8 λb=>if b=true then te z8 λy=>P (k+1) z8 (ds++[y])else P (k+1) z8 ds)/\∀g6 ds,P ts.length g6 ds->Q ds
def asL(Q:List D->Prop)(d:D):Prop:=match d with | .list ds=>Q ds | _=>False
def aF0{fr ti g tt te σ}{Q:List D->Prop}(h:WX fr ti g tt te σ (asL Q)):fLc fr ti g tt te σ Q:=h
def VR{fr}{ti:IT}{g:GT}{tt:yP}{te:ET}{wi:TI}{gv:BP->TG}{vt:BP->TT}{ve:BP->TE}
  (ri:∀B p0 H ps σT σ (Q:List D->Prop)(R:It->Hp->Prop),Ok X.K B p0 H ps σT σ->ti σT Q->(∀ts J H',bJ H H'->XO X.K (mask H' ps) ts J->Q ts->R J H')->wi σ H R)
  (rg:∀(bp:BP)B p0 H ps σT σ(d:D)(v:V)(Q:List Sl->Prop)(QV:L2.St->Hp->Prop),Ok X.K B p0 H ps σT σ->fW X.K (mask H ps) d v->g d σT Q->(∀g8 g6,Ok X.K B p0 H ps g8 g6->(mQ σT->mQ g8)->Q g8->QV g6 H)->gv bp v σ H QV)
  (rt:∀(bp:BP)B p0 H ps σT σ(Q:Bool->Prop)(QV:Bool->Hp->Prop),Ok X.K B p0 H ps σT σ->tt σT Q->(∀b H',bJ H H'->Q b->QV b H')->vt bp σ H QV)
  (re:∀(bp:BP)B p0 H ps σT σ(Q:D->Prop)QV,Ok X.K B p0 H ps σT σ->te σT Q->(∀d v H',bJ H H'->fW X.K (mask H' ps) d v->Q d->QV v H')->ve bp σ H QV)
  (B:Hp) (p0:List Addr) (H:Hp) (ps:List Addr) (σT:List Sl) (σ:L2.St) (Q:List D->Prop) (QV:VK) (o:Ok X.K B p0 H ps σT σ) (h:fLc fr ti g tt te σT Q) (k:∀ts p xs H',bJ H H'->H p=none->H' p=some (.lst xs)->Reps X.K (mask H' (p::ps)) ts xs->Q ts->QV (.ref p) H'):NM fr wi gv vt ve σ H QV:=by
 refine ri B p0 H ps σT σ _ _ o h λts J H1 s1 rj q1=>?_;obtain⟨hz,P,h0,hs,hd⟩:=q1;intro bp acc y4;have pd:B acc=none:=bJ.free' (o.grow s1).base y4
 refine⟨λi m g6 H'=>m=ts.length-i/\i<=ts.length/\∃g8 ds ys,Ok X.K B p0 H' (acc::ps) g8 g6/\mQ g8/\H' acc=some (.lst ys)/\ds.length<=i/\Reps X.K (mask H' (acc::ps)) ds ys/\bJ (mask H1 ps) (mask H' (acc::ps))/\bJ H1 H'/\P i g8 ds,
  ⟨_,rfl,cL _,jF fr σT,[],[],((o.grow s1).blk fr).adopt y4,oZ fr σT,cM,aL _,.nil,by rw[lL y4];exact L2.bJ.refl _,dL y4,h0⟩,?_⟩
 rintro i m g6 H' ⟨rfl,vi,g8,ds,ys,o',n',ha,hl,hr,s',sF,p'⟩;have hL:bM=2^24:=rfl;by_cases bo:i<ts.length
 ·refine .inr ⟨rj.go i H' (s'.trans bP) bo,λy H2 hy=>?_⟩;obtain⟨s2,dx,hx,rx⟩:=rj.yld i H' (acc::ps) y H2 o'.live s' bo hy;refine rg bp B p0 H2 (acc::ps) g8 g6 dx y _ _ (o'.grow s2) rx (hs i dx g8 ds hx p') λgk kg o3 n3 q3=>?_;refine rt bp B p0 H2 (acc::ps) gk kg _ _ o3 q3 λb H4 s4 q4=>?_;have tw:=s2.trans s4
  cases b with
  |false=>
   exact⟨ts.length-(i+1),by omega,rfl,bo,gk,ds,ys,o3.grow s4,n3 n',tw _ _ ha,by omega,hr.same (bT tw),s'.trans (bT tw),sF.trans tw,q4⟩
  |true=>
   refine re bp B p0 H4 (acc::ps) gk kg _ _ (o3.grow s4) q4 λd v H5 s5 r5 q5=>?_;have Cj:=tw.trans s5;have hm:mask (fM H5 acc (.lst (ys++[v]))) (acc::ps)=mask H5 (acc::ps):=iA (aS ..);refine⟨ys,Cj _ _ ha,by rw[<- hr.length];omega,ts.length-(i+1),by omega,rfl,bo,gk,ds++[d],ys++[v],((o3.grow s4).grow s5).aside (aS ..) pd (n3 n'),n3 n',cM,by rw[bC,oF];omega,?_,?_,?_,q5⟩
   ·rw[hm];exact(hr.same (bT Cj)).append (.cons r5 .nil)
   ·rw[hm];exact s'.trans (bT Cj)
   ·intro b u e;have ne:b≠acc:=λz=>by rw[z,y4]at e;cases e
    rw[cI ne];exact(sF.trans Cj) b u e
 ·obtain rfl:i=ts.length:=by omega
  exact .inl ⟨rj.stop _ H' (s'.trans bP) (aL _),k ds acc ys H' (s1.trans sF) (bJ.free' s1 y4) ha hr (hd g8 ds p')⟩
def Z8{az iter tg cw scope fr N' ti g tt te}(hi:D3 X tg iter ti)
  (hY:∀b:BP,FK (blk X scope N' b) tg g/\AN (blk X scope N' b) cw tt/\gG (blk X scope N' b) az te) {M:(TE)->Prop}
  (fin:∀{wi}{gv:BP->TG}{vt:BP->TT}{ve:BP->TE},PI X tg iter wi->(∀b:BP,PG (blk X scope N' b) tg (gv b)/\M3 (blk X scope N' b) cw (vt b)/\PE (blk X scope N' b) az (ve b))->M (NM fr wi gv vt ve)) :
  ∃v:TE,M v/\∀B p0 H ps σT σ (Q:List D->Prop)(QV:VK),Ok X.K B p0 H ps σT σ->fLc fr ti g tt te σT Q ->
   (∀ts p xs H',bJ H H'->H p=none->H' p=some (.lst xs)->Reps X.K (mask H' (p::ps)) ts xs->Q ts->QV (.ref p) H')->v σ H QV:=by
 obtain⟨wi,pi,ri⟩:=hi;refine⟨_,fin (gv:=λb=>l9 (hY b).1) (vt:=λb=>l9 (hY b).2.1) (ve:=λb=>l9 (hY b).2.2) pi λb=>⟨(f8 (hY b).1).1,(f8 (hY b).2.1).1,(f8 (hY b).2.2).1⟩,?_⟩;exact VR ri (λb=>(f8 (hY b).1).2) (λb=>(f8 (hY b).2.1).2) λb=>(f8 (hY b).2.2).2
def aLe{az iter tg cw scope fr N' ti g tt te}(hi:D3 X tg iter ti)
  (hY:∀b:BP,FK (blk X scope N' b) tg g/\AN (blk X scope N' b) cw tt/\gG (blk X scope N' b) az te)
  (pl:∀{wi}{gv:BP->TG}{vt:BP->TT}{ve:BP->TE},PI X tg iter wi->(∀b:BP,PG (blk X scope N' b) tg (gv b)/\M3 (blk X scope N' b) cw (vt b)/\PE (blk X scope N' b) az (ve b))->PE X (.ListComp az [⟨tg,iter,cw,0⟩] scope pos) (NM fr wi gv vt ve)) :
  PFt X (.ListComp az [⟨tg,iter,cw,0⟩] scope pos) (fLc fr ti g tt te):=Z8 hi hY pl
abbrev SpF:=List D->(List D->Prop)->Prop
def qE(K:aI)(sp:SpF):Sp:=λvs H Q _=>∃(ps:List Addr)(ds:List D)(QD:List D->Prop),(∀p∈ps,C1 (H p))/\Reps K (mask H ps) ds vs/\sp ds QD /\
 ∀ts p xs H',bJ H H'->H p=none->H' p=some (.lst xs)->Reps K (mask H' (p::ps)) ts xs->QD ts->Q (.ref p) H'
def aC9(sp:SpF)(t:AT):FT:=λσ Q=>t σ λds=>sp ds Q
def aAt{k:Nat}{f:Addr}{fd pn sp x p t}(F:eK X.prog X.w X.K X.mg X.base jW k f fd pn (qE X.K sp))(hm:X.mg x=some (.ref f))(hk:fZ X.K (.ref f)=true)(hb:rB X.K fd pn [])
  (hr:Room k X.A) (ha:yQ X (e::es) t) (pc:∀{ta},PA X (e::es) ta->PE X (.Call (.Name x p) (e::es) [] pos) (EB (qE X.K sp) [] E0 ta)):PFt X (.Call (.Name x p) (e::es) [] pos) (aC9 sp t):=by
 obtain⟨v,pa,ra⟩:=ha;refine⟨_,pc pa,λB p0 H ps σT σ Q QV o h k=>ra B p0 H ps σT σ _ _ o h λds xs H1 s1 r1 q1=>?_⟩;show qE X.K sp (xs++[]) H1 QV E0;rw[dP];exact⟨ps,ds,Q,(o.grow s1).live,r1,q1,λts p Wv H' s' hp hx rs q=>k ts p Wv H' (s1.trans s') (bJ.free' s1 hp) hx rs q⟩
def fnF{P w K}{mg:Str->Option Value}{base x qual st}{f:Addr}{fd}{N pn:List Str}{k:Nat}{sp:SpF}(F:SM K x qual st f fd)(S:cR N pn (bQ st))
  (dy:∀{cr}{A:i5}{outer}{s:Shared}{H E},Room k (A.deeper (o7 qual (bQ st) s.heap.objs.size f cr))->N.Nodup->∀(ds:List D)(Q:List D->Prop),sp ds Q ->
   ∃t,rA (uC jW P w K mg base N qual (bQ st) f cr A outer s H E).nox (mJ st) t/\t { nx:=λ_=>False,rt:=λ_=>False,ro:=Q } (lK N ds)) (len:∀ds Q,sp ds Q->ds.length=pn.length:=by intro ds Q h;(repeat obtain⟨_,h⟩:=h)<;>subst_vars<;>rfl):eK P w K mg base jW (k+1) f fd pn (qE K sp):=by
 refine F.ok S (λvs H Q E h=>?_) λcr A outer s H vs Q E hr h=>?_
 ·obtain⟨ps,ds,QD,_,r,q,_⟩:=h;rw[<- r.length];exact len ds QD q
 ·obtain⟨ps,ds,QD,live,r,q,k⟩:=h;obtain⟨t,⟨ts,p,rd⟩,h⟩:=dy hr S.nd ds QD q;exact⟨ts,p,rd H ps H ps _ _ _ _ (qU live r) h ⟨λ_ _ _ _ _ _ q'=>q'.elim,λ_ _ _ _ _ _ q'=>q'.elim,λ_ _ _ _ _ _ q'=>q'.elim,λ_ _ _ _ _ q'=>q'.elim,λts p xs H' s' hB hp hx rs q'=>k ts p xs H' s' hB hx rs q',λ_ _ _ _ _ _ _ _ _ _ _ _ _ _ _ _ _ _ q'=>q'.elim,λ_ _ _ _ _ _ _ _ _ _ _ _ _ _ q'=>q'.elim,i8⟩⟩
def aCh(t:FT):rE:=λDT σ=>t σ DT.ro
def NU{t}(h:PFt X e t):sT X (.Return (some e) pos) (aCh t):=by
 obtain⟨v,p,r⟩:=h;refine⟨_,BU p,λB p0 H ps σT σ DT DV o h f=>r B p0 H ps σT σ _ _ o h λts p xs H' s hp hx rs q=>?_⟩;refine f.ro ts p xs H' (o.base.trans s) (bJ.free' o.base hp) (λz=>fE o.live hp (o.sub p z)) hx (rs.same (kQ λq hq=>?_)) q;rcases bE.mp hq with rfl | hq
 ·exact aS ..
 ·exact aO _ (o.sub q hq)
def Y1(i:Nat):rE:=λDT σ=>∃ts,σ[i]?=some (.own ts)/\DT.ro ts
def QE{i:Nat}{n}(hn:PE X n (pU i)):sT X (.Return (some n) pos) (Y1 i):=by
 refine⟨_,BU hn,λB p0 H ps σT σ DT DV o h f=>?_⟩;obtain⟨ts,e,h⟩:=h;obtain⟨q,xs,h1,h2,h3,h4,h5,h6⟩:=o.own i ts e;refine⟨.ref q,h1,f.ro ts q xs H o.base h3 h4 h5 (h6.same (kQ λz hz=>?_)) h⟩;rcases bE.mp hz with rfl | hz
 ·exact h2
 ·exact o.sub z hz
def TU(c:yP)(tb:rE):rE:=λDT σ=>∃P:Nat->List Sl->Prop,(∃n,P n σ)/\∀n g6,P n g6->c g6 λb=>if b=true then tb { DT with nx:=λz8=>∃m,m<n/\P m z8,ct:=λz8=>∃m,m<n/\P m z8,bk:=DT.nx } g6 else DT.nx g6
def IA{c body tc tb}(hc:KM X c tc)(hb:rA X body tb)(pw:∀{vc vb},PT X c vc->zI X body vb->PS X (.While c body [] pos) (S3 vc vb)):sT X (.While c body [] pos) (TU tc tb):=by
 obtain⟨vc,pc,rc⟩:=hc;obtain⟨vb,pb,rb⟩:=hb;refine⟨_,pw pc pb,λB p0 H ps σT σ DT DV o h f=>?_⟩;obtain⟨P,⟨n0,h0⟩,hs⟩:=h;refine⟨λn g6 H'=>∃m3 g8,Ok X.K B p0 H' m3 g8 g6/\bJ (mask H ps) (mask H' m3)/\P n g8,⟨n0,ps,σT,o,L2.bJ.refl _,h0⟩,?_⟩;rintro n g6 H' ⟨m3,g8,o',s',p'⟩;refine rc B p0 H' m3 g8 g6 _ _ o' (hs n g8 p') λb H1 s1 q1=>?_;have f':KG X.K B p0 H1 m3 DT DV:=(f.later s').later (bT s1);have wk:bJ (mask H ps) (mask H1 m3):=s'.trans (bT s1)
 cases b with
 |true=>
  rw[b9 rfl]at q1 |-
  refine⟨λz8 H2=>∃m,m<n/\∃Dm qg,Ok X.K B p0 H2 Dm qg z8/\bJ (mask H ps) (mask H2 Dm)/\P m qg,λz8 H2 z=>z,?_⟩;exact rb B p0 H1 m3 g8 g6 _ _ (o'.grow s1) q1 ⟨λH4 qb gm qo o4 s4 ⟨m,hm,q4⟩=>⟨m,hm,qb,gm,o4,wk.trans s4,q4⟩,λH4 qb gm qo o4 s4 q4=>f'.nx H4 qb gm qo o4 s4 q4,λH4 qb gm qo o4 s4 ⟨m,hm,q4⟩=>⟨m,hm,qb,gm,o4,wk.trans s4,q4⟩,f'.rt,f'.ro,f'.rp,f'.rq,f'.xb⟩
 |false=>
  rw[b8 (by decide)]at q1 |-
  exact f'.nx H1 m3 g8 g6 (o'.grow s1) (L2.bJ.refl _) q1
def gP3(i j k:Nat):GT:=λd σ Q=>∃a b c,d=.tuple [a,b,c]/\Q (((σ.set i (.val a)).set j (.val b)).set k (.val c))
def vF{i j k:Nat}{t}(h:PG X t (aAr X.K 3 (wG (kG i) (wG (kG j) (wG (kG k) aAs))))):FK X t (gP3 i j k):=
 ⟨_,h,λB p0 H ps σT σ d v Q QV o r h k=>by
  obtain⟨a,b,c,rfl,h⟩:=h
  cases r with
  |@tuple p xs _ hq r=>
   cases r with
   |cons ra r=>
    cases r with
    |cons rb r=>
     cases r with
     |cons rc r=>
      cases r;exact⟨_,_,rfl,bJ.seqT bP hq,rfl,_,_,rfl,_,_,rfl,_,_,rfl,rfl,k _ _ (((o.set ra).set rb).set rc) (λn=>kX (kX (kX n _ _) _ _) _ _) h⟩⟩
def TV(te:ET)(g:GT):rE:=λDT σ=>te σ λd=>g d σ DT.nx
def NR{tg g}(he:gG X e te)(hg:FK X tg g)(pa:∀{v gv},PE X e v->PG X tg gv->PS X (.Assign [tg] e pos) (wS v gv)):sT X (.Assign [tg] e pos) (TV te g):=by
 obtain⟨v,pe,re⟩:=he;obtain⟨gv,pg,rg⟩:=hg;refine⟨_,pa pe pg,λB p0 H ps σT σ DT DV o h f=>re B p0 H ps σT σ _ _ o h λd x H1 s1 r1 q1=>?_⟩;exact rg B p0 H1 ps σT σ d x _ _ (o.grow s1) r1 q1 λg8 g6 o' _ q'=>f.nx H1 ps _ _ o' (bT s1) q'
def eIf(c:yP)(ta tb:ET):ET:=λσ Q=>c σ λb=>if b=true then ta σ Q else tb σ Q
def wH{tc}(hc:KM X c tc)(ha:gG X a ta)(hb:gG X b tb):gG X (.IfExp c a b pos) (eIf tc ta tb):=by
 obtain⟨vc,pc,rc⟩:=hc;obtain⟨va,pa,ra⟩:=ha;obtain⟨vb,pb,rb⟩:=hb;refine⟨_,UM pc pa pb,λB p0 H ps σT σ Q QV o h k=>rc B p0 H ps σT σ _ _ o h λd H1 s1 q1=>?_⟩
 cases d with
 |true=>
  rw[b9 rfl]at q1 |-
  exact ra B p0 H1 ps σT σ Q _ (o.grow s1) q1 λd v H' s' r' q'=>k d v H' (s1.trans s') r' q'
 |false=>
  rw[b8 (by decide)]at q1 |-
  exact rb B p0 H1 ps σT σ Q _ (o.grow s1) q1 λd v H' s' r' q'=>k d v H' (s1.trans s') r' q'
end
end TL
namespace L2
open PySem.SeqAt
open AutoSeq1 (wpAny_loadPart')
def MJ(l:Addr)(items:Array Value)(n:Nat)(b:Addr)(ku:Array Value)(n2:Nat)(dd:Option Addr)(sl:Array (Option Value))(Dv:¬(!items.isEmpty&&y7 (items.size+ku.size))=true)(ug:items.size<=bM)(yx:items.size+ku.size<=bM+1) :
  Meets (fi.«list.extend» ⟨[.ref l,.ref b],[]⟩) (λ_ R s=>s.heap.get? l=some { cls:=.type "list",dict:=none,data:=.seq items n,slots:=#[] }/\s.heap.get? b=some { cls:=.type "list",dict:=dd,data:=.seq ku n2,slots:=sl }/\R (.ok (.ret g9)) { s with heap:=s.heap.update l (fe λx=>x++ku),toks:=s.toks }):=
 .of_wp λprog w A R s h=>by
  obtain⟨hp,g,d,tk,os⟩:=s;obtain⟨hl,hb,h⟩:=h;have f1:=AutoSeq1.idx_int;have f2:=AutoSeq1.sub_tuple_tuple;have f3:=AutoSeq1.sub_list_list;have f4:=AutoSeq1.sub_tuple_list;have f5:=AutoSeq1.sub_list_tuple;have Im:(items++ku).size<=bM+1:=by rw[SU];exact yx
  wp_walk using(io hl rfl (hz:=ug) (_hz':=Im)),im hl,im hb
  exact⟨_,rfl,h⟩
section
variable{X:Cx}
def aCn(K:aI):V->List V->Hp->VK->Prop:=λx vs H Q=>∃l b xs zs,x=.ref l/\vs=[.ref b]/\H l=some (.lst xs)/\mN K H b zs/\xs.length+zs.length<=bM/\Q .non (fM H l (.lst (xs++zs)))
def OQ:MtM X "list.extend" (aCn X.K):=by
 intro b7 s σ H x vs v us Q I rx rv h;obtain⟨l,b,xs,zs,rfl,rfl,hH,hB,hz,q⟩:=h;cases rx;obtain⟨u,rfl,ru⟩:=rv.one;cases ru;obtain⟨z,its,n,r,hl,e⟩:=I.lstM hH;obtain⟨ju,r2,⟨o,n2,e2,hc,Lr,hd⟩,z2⟩:=I.list hB;have Xo:=r2.length;have hsz:its.toArray.size+ju.toArray.size<=bM:=by rw[bO,bO];omega
 have Hr:¬(!its.toArray.isEmpty&&y7 (its.toArray.size+ju.toArray.size))=true:=by
  rw[U6 hsz,Bool.and_false];exact aX
 obtain⟨oc,od,Nu,qa⟩:=o;cases hc;cases hd;refine ki F.slot_list_extend ⟨_,e,rfl⟩ F.entry_list_extend (F.args_list_extend_2 _ _) (MJ l its.toArray n b ju.toArray n2 od qa Hr (by rw[bO];omega) (by omega)) ⟨e,e2,?_⟩;refine⟨.non,_,I.lset (its':=its++ju) hH e (by simp) (r.append r2) ?_,rfl,q⟩;rw[bC];omega
end
end L2
namespace TL
open L2
section
variable{X:Cx}{e:Expr}{ta te:ET}{pos:Pos}
def aCi(i:Nat)(te:ET):rE:=λDT σ=>∃ts,σ[i]?=some (.own ts)/\te σ λd=>∃us,d=.list us/\ts.length+us.length<=100000/\DT.nx (σ.set i (.own (ts++us)))
def NV{i:Nat}{n e te ap cp}(hn:PE X n (pU i))(he:gG X e te)(hs:bS [e] X.env=(false,eval e X.env)::bS [] X.env:=by rfl)
  (pb:∀{ta},PA X [e] ta->PS X (.Expr (.Call (.Attribute n "extend" ap) [e] [] cp) pos) (S8 (tBM X.K "list" (aCn X.K) (pU i) ta))):sT X (.Expr (.Call (.Attribute n "extend" ap) [e] [] cp) pos) (aCi i te):=by
 obtain⟨v,p,r⟩:=he;refine⟨_,pb (dY p hU hs),λB p0 H ps σT σ DT DV o h f=>?_⟩;obtain⟨ts,e,h⟩:=h;obtain⟨q,xs,h1,h2,h3,h4,h5,h6⟩:=o.own i ts e;refine⟨.ref q,h1,.inl ⟨rfl,xs,mN.of h5⟩,r B p0 H ps σT σ _ _ o h λd x H1 s1 r1 q1=>?_⟩;obtain⟨us,rfl,hz,q1⟩:=q1;have o1:=o.grow s1
 cases r1 with
 |@list p2 zs _ hq rs=>
  refine⟨q,p2,xs,zs,rfl,rfl,s1 _ _ h5,L2.bJ.seq bP hq,zQ (by rw[<- h6.length,<- rs.length];exact hz),?_⟩;have hr:Reps X.K (mask H1 ps) (ts++us) (xs++zs):=(h6.same (bT s1)).append rs;exact f.nx _ ps _ σ (o1.write (ys:=xs++zs) e h1 hr) ((bT s1).trans (by rw[iA h2];exact L2.bJ.refl _)) q1
def CD{P w K}{mg:Str->Option Value}{base}{k:Nat}{f:Addr}{fd pn}:eK P w K mg base jW k f fd pn (dM K λ_ _=>False):=
 ⟨λvs H Q E ⟨_,_,_,_,_,h,_⟩=>h.elim,λA outer s H args us vs Q E _ _ _ _ ⟨_,_,_,_,_,h,_⟩=>h.elim⟩
def MH{P w K}{mg:Str->Option Value}{base}{k:Nat}{f:Addr}{fd pn}{sp Jb:oK}(F:eK P w K mg base jW k f fd pn (dM K sp))(h:∀ds Q,Jb ds Q->sp ds Q):eK P w K mg base jW k f fd pn (dM K Jb):=
 F.imp λvs H Q E ⟨ps,ds,QD,h1,h2,h3,h4⟩=>⟨ps,ds,QD,h1,h2,h ds QD h3,h4⟩
def aOt(d:D)(Q:D->Prop):Prop:=∃ns:List Int,d=.list (ns.map aM)/\ns≠[]/\∀m,m∈ns->(∀n∈ns,n<=m)->Q (.int m)
end
end TL
namespace L2
section
variable{X:Cx}
def wI(hc:X.calm=true):kB X (.builtin "max") (λxs H Q=>∃(p:Addr)(ns:List Int),xs=[.ref p]/\mN X.K H p (ns.map V.int)/\ns≠[]/\∀m,m∈ns->(∀n∈ns,n<=m)->Q (.int m) H):=by
 intro b7 s σ H xs us Q I r h;obtain⟨p,ns,rfl,hq,Mm,q⟩:=h;obtain⟨u,rfl,rx⟩:=nX r;cases rx;obtain⟨its,rv,pl,hz⟩:=I.list hq;have o8:=rv.length;rw[aB]at o8;have Ie:0<ns.length:=List.length_pos_iff.mpr Mm
 have al:p≠s.heap.objs.size:=by
  obtain⟨o,ho,_⟩:=pl.isList;exact bZ (bG ho)
 have yu:=pl.isList
 have Ek:p<s.heap.objs.size:=by
  obtain⟨o,ho,_⟩:=yu;exact bG ho
 have Cc:∀(i:Nat)(v:Value),its.toArray[i]?=some v->∃t,v=.int ((ns[i]?).getD 0) t:=λi v hP=>by
  have hv:its[i]?=some v:=by simpa using hP
  have hi:i<its.length:=(aD.mp hv).1;have hb:i<ns.length:=by omega
  obtain⟨w',h1,h2⟩:=rv.get (i:=i) (x:=.int ns[i]) (by rw[aH,aG hb];rfl);rw[hv]at h1;cases h1;rw[aG hb];exact h2
 refine call_max_walk (cx yu ?_);refine⟨_,_,_,_,_,_,_,rfl,iq (A:=X.A.in1) (I.ok.hd hc) _ p al its.toArray,⟨⟨_,aW _ rfl,rfl,rfl⟩,yu.push _⟩,λb hb=>?_,by rw[bO];omega,CmpOf.ints_gt (λi=>(ns[i]?).getD 0) Cc,λv h' tk hP hk=>?_⟩
 ·show b<(s.heap.push _).objs.size;rw[fP];have:b=s.heap.objs.size\/b=p:=by simpa using hb
  rcases this with rfl | rfl
  ·exact iN _
  ·exact hV Ek
 ·obtain⟨t,rfl⟩:=Cc _ _ hP;have hb:=argBest_gt (λi=>(ns[i]?).getD 0) (its.toArray.size-1);have hsz:its.toArray.size=ns.length:=by rw[bO];omega
  have hi:argBest (λi j=>decide ((ns[i]?).getD 0>(ns[j]?).getD 0)) (its.toArray.size-1)<ns.length:=by have:=hb.1;omega
  refine⟨.int _,H,I.kept λb o e=>hk b o ?_ (aK _ e),⟨t,rfl⟩,q _ ?_ λn hn=>?_⟩
  ·intro z;have:b=s.heap.objs.size:=by simpa using z
   exact d8 (bG e) (by rw[this];exact eX _)
  ·rw[aG hi];exact gQ hi
  ·obtain⟨j,hj,rfl⟩:=wN.mp hn;have:=hb.2 j (by omega);rw[aG hj]at this;exact this
end
end L2
namespace TL
open L2
section
variable{X:Cx}{e:Expr}
def aDg:sV X (λxs H Q=>∃(p:Addr)(ns:List Int),xs=[.ref p]/\mN X.K H p (ns.map V.int)/\ns≠[]/\∀m,m∈ns->(∀n∈ns,n<=m)->Q (.int m) H) (f1 aOt):=c1 λH ps d x Q QV live r h k=>by
 obtain⟨ns,rfl,al,h⟩:=h
 cases r with
 |list q s=>
  have e:=uS s;subst e;exact⟨_,ns,rfl,L2.bJ.seq bP q,al,λm hm hn=>k _ _ H (L2.bJ.refl H) (.int _) (h m hm hn)⟩
end
def Ok.setUn{K B H p0 ps}{σT:List Sl}{σ:L2.St}(o:Ok K B p0 H ps σT σ){i:Nat}{v}:Ok K B p0 H ps (σT.set i .un) (σ.set i (some v)) where
 base:=o.base
 sub:=o.sub
 live:=o.live
 len:=by simpa using o.len
 val:=λj d' h=>by
  by_cases e:i=j
  ·subst e
   have hi:i<σT.length:=by
    have:=(aD.mp h).1;simpa using this
   rw[aV hi]at h;cases h
  ·rw[aU e]at h |-
   exact o.val j d' h
 own:=λj ts h=>by
  by_cases e:i=j
  ·subst e
   have hi:i<σT.length:=by
    have:=(aD.mp h).1;simpa using this
   rw[aV hi]at h;cases h
  ·rw[aU e]at h |-
   exact o.own j ts h
 dis:=λj k ts us p h1 h2 h3 h4=>by
  have ne:∀{l:Nat}{ts:List D},(σT.set i .un)[l]?=some (.own ts)->i≠l:=λ{l ts} h e=>by
   subst e
   have hi:i<σT.length:=by
    have:=(aD.mp h).1;simpa using this
   rw[aV hi]at h;cases h
  have e1:=ne h1;have e2:=ne h2;rw[aU e1]at h1 h3;rw[aU e2]at h2 h4;exact o.dis j k ts us p h1 h2 h3 h4
 dc:=o.dc.setS λ_ _ z=>nomatch z
end TL
namespace L2
open PySem.SeqAt
section
variable{X:Cx}
theorem tR(ns:List Int):∀k:Nat,preSum (λi=>(ns[i]?).getD 0) k=(ns.take k).sum
|0=>rfl
|k+1=>by
 show preSum _ k+(ns[k]?).getD 0=_;rw[tR ns k,cV,List.sum_append]
 cases ns[k]? with
 |none=>simp
 |some x=>simp
theorem EE:∀ns:List Int,(∀n∈ns,0<=n/\n<2^40)->0<=ns.sum/\ns.sum<=(ns.length:Int)*2^40
|[],_=>by simp
|n::ns,h=>by
 have h1:=h n (aS ..);have h2:=EE ns λx hx=>h x (aO _ hx);rw[aG1,cH];constructor
 ·omega
 ·have:((ns.length+1:Nat):Int)*2^40=(ns.length:Int)*2^40+2^40:=by rw[vS,Int.add_mul];rfl
  omega
def DW(hc:X.calm=true):kB X (.builtin "sum") (λxs H Q=>∃(p:Addr)(ns:List Int),xs=[.ref p]/\mN X.K H p (ns.map V.int)/\(∀n∈ns,0<=n/\n<2^40)/\ns.length<=1000/\Q (.int ns.sum) H):=by
 intro b7 s σ H xs us Q I r h;obtain⟨p,ns,rfl,hq,Pu,Pi,q⟩:=h;obtain⟨u,rfl,rx⟩:=nX r;cases rx;obtain⟨its,rv,pl,hz⟩:=I.list hq;have o8:=rv.length;rw[aB]at o8
 have al:p≠s.heap.objs.size:=by
  obtain⟨o,ho,_⟩:=pl.isList;exact bZ (bG ho)
 have yu:=pl.isList
 have Ek:p<s.heap.objs.size:=by
  obtain⟨o,ho,_⟩:=yu;exact bG ho
 have Cc:∀(i:Nat)(v:Value),its.toArray[i]?=some v->∃t,v=.int ((ns[i]?).getD 0) t:=λi v hP=>by
  have hv:its[i]?=some v:=by simpa using hP
  have hi:i<its.length:=(aD.mp hv).1;have hb:i<ns.length:=by omega
  obtain⟨w',h1,h2⟩:=rv.get (i:=i) (x:=.int ns[i]) (by rw[aH,aG hb];rfl);rw[hv]at h1;cases h1;rw[aG hb];exact h2
 have small:∀k:Nat,0<=(ns.take k).sum/\(ns.take k).sum<2^63:=λk=>by
  have h1:=EE (ns.take k) λn hn=>Pu n (fB hn);have h2:(ns.take k).length<=1000:=by rw[bA];omega
  have h3:((ns.take k).length:Int)*2^40<=1000*2^40:=Int.mul_le_mul_of_nonneg_right (by omega) (by decide);omega
 refine call_sum_walk (cx yu ?_);refine⟨_,_,_,_,_,_,λi=>(ns[i]?).getD 0,rfl,iq (A:=X.A.in1) (I.ok.hd hc) _ p al its.toArray,⟨⟨_,aW _ rfl,rfl,rfl⟩,yu.push _⟩,λb hb=>?_,Cc,λj hj=>?_,λh' tk t' hk=>?_⟩
 ·show b<(s.heap.push _).objs.size;rw[fP];have:b=s.heap.objs.size\/b=p:=by simpa using hb
  rcases this with rfl | rfl
  ·exact iN _
  ·exact hV Ek
 ·rw[bO]at hj;have Mc:j<ns.length:=by omega
  refine⟨?_,?_⟩
  ·have:=Pu ns[j] (gQ Mc);show InLong ((ns[j]?).getD 0);rw[aG Mc];show -(2^63)<=ns[j]/\ns[j]<2^63;omega
  ·rw[tR];have:=small (j+1);show -(2^63)<=_/\_<2^63;omega
 ·refine⟨.int _,H,I.kept λb o e=>hk b o ?_ (aK _ e),⟨t',rfl⟩,?_⟩
  ·intro z;have:b=s.heap.objs.size:=by simpa using z
   exact d8 (bG e) (by rw[this];exact eX _)
  ·rw[tR,kZ (by rw[bO];omega)];exact q
end
end L2
namespace TL
open L2 PySem.SeqAt
variable{K:aI}
def aGy(K:aI)(a:Addr)(ys:List Str):Prop:=∃(o:Obj)(its:Array Value)(n:Nat),K.lookup a=some o/\o.cls=.type "tuple"/\o.dict=none/\o.data=.seq its n/\its.size<=bM/\gE (ys.map V.str) its.toList
theorem BQ{H}:∀ys:List Str,Reps K H (ys.map aY) (ys.map V.str)
|[]=>.nil
|y::ys=>.cons (.str y) (BQ ys)
section
variable{X:Cx}{e:Expr}{es:List Expr}{ta te:ET}{pos:Pos}
def aAz{x:Str}{p:Addr}{ys:List Str}{pos}(hg:Gl X x)(hm:X.mg x=some (.ref p))(hk:aGy X.K p ys)(hd:(x==("__debug__":Str))=false:=by decide):gG X (.Name x pos) (eC (.tuple (ys.map aY))):=
 ⟨_,oV (v:=.ref p) hg hm rfl hd,λ_ _ H _ _ _ _ _ _ h k=>k _ _ H (L2.bJ.refl H) (.tuple (.inr hk) (BQ ys)) h⟩
def aOs(d:D)(Q:D->Prop):Prop:=∃ns:List Int,d=.list (ns.map aM)/\(∀n∈ns,0<=n/\n<2^40)/\ns.length<=1000/\Q (.int ns.sum)
def aLz:sV X (λxs H Q=>∃(p:Addr)(ns:List Int),xs=[.ref p]/\mN X.K H p (ns.map V.int)/\(∀n∈ns,0<=n/\n<2^40)/\ns.length<=1000/\Q (.int ns.sum) H) (f1 aOs):=c1 λH ps d x Q QV live r h k=>by
 obtain⟨ns,rfl,hs,hl,h⟩:=h
 cases r with
 |list q s=>
  have e:=uS s;subst e;exact⟨_,ns,rfl,L2.bJ.seq bP q,hs,hl,k _ _ H (L2.bJ.refl H) (.int _) h⟩
def F3(K:aI):V->List V->Hp->VK->Prop:=λx xs H Q=>∃(y:V)(ts:List D)(d:D)(j:Nat),xs=[y]/\fW K H (.list ts) x/\fW K H d y/\Q1 ts d j/\j<1000000/\Q (.int j) H
def LW(hu:X.A.units+200<m4):MtR X "list.index" (F3 X.K):=by
 intro b7 s σ H x xs v us Q I rx rv h;obtain⟨y,ts,d,j,rfl,r1,r2,⟨c1,c2,hm,⟨t,ht,he⟩,qm⟩,Xm,q⟩:=h;obtain⟨u,rfl,ru⟩:=rv.one;obtain⟨as,h1⟩:=fW.reads I (show(aG0 ts).hasDict=false from noDictAll c1) r1 rx;obtain⟨bs,h2⟩:=fW.reads I (nB c2) r2 ru
 cases h1 with
 |@list l o items n _ as' h3 h4 h5 h6=>
  have nh:=yh ts items.toList _ c1 h6;have o8:items.size=ts.length:=by rw[<- nh,aB,bB]
  have pj:j<ts.length:=(aD.mp ht).1;have hj:j<items.size:=by omega
  have rd:∀(m:Nat)(hm:m<items.size),ts[m]?=some (yg s.heap items[m]):=λm hm=>by
   rw[<- nh,aH];simp[hm]
  obtain⟨oc,od,Nu,qa⟩:=o;cases h4;cases h5;refine ki F.slot_list_index ⟨_,h3,rfl⟩ F.entry_list_index (F.args_list_index_2 _ _) (list_indexAt _ items _ od qa u (λy=>cO (yg s.heap y) d) j hj (by omega) ?_ ?_) ⟨h3,Eu h6 h2 c1 c2 (by have:=hu;omega),?_⟩
  ·have:=rd j hj;rw[ht]at this;rw[<- e9 this];exact he
  ·intro m Hu bo;exact qm m _ bo (rd m Hu)
  ·exact⟨.int j,H,I.tok _,⟨_,rfl⟩,q⟩
def ES{k:Nat}(hr:Room k X.A):MtR X "list.index" (F3 X.K):=LW (by have:=hr.un;omega)
def GU(te:ET)(t:AT):ET:=λσ Q=>te σ λd=>∃ts,d=.list ts/\t σ λds=>∃(x:D)(j:Nat),ds=[x]/\Q1 ts x j/\j<1000000/\Q (.int j)
def FC{n ap t}(hn:gG X n te)(ha:yQ X (e::es) t)
  (pc:∀{v ta},PE X n v->PA X (e::es) ta->PE X (.Call (.Attribute n "index" ap) (e::es) [] pos) (tBM X.K "list" (F3 X.K) v ta)):gG X (.Call (.Attribute n "index" ap) (e::es) [] pos) (GU te t):=by
 obtain⟨v,pe,re⟩:=hn;obtain⟨va,pa,ra⟩:=ha;refine⟨_,pc pe pa,λB p0 H ps σT σ Q QV o h k=>re B p0 H ps σT σ _ _ o h λd x H1 s1 r1 q1=>?_⟩;obtain⟨ts,rfl,q1⟩:=q1
 cases r1 with
 |@list p xs _ hq rs=>
  refine⟨.inl ⟨rfl,_,L2.bJ.seq bP hq⟩,ra B p0 H1 ps σT σ _ _ (o.grow s1) q1 λds ys H2 s2 r2 q2=>?_⟩;obtain⟨d,j,rfl,hok,hj,q⟩:=q2
  cases r2 with
  |cons r3 r4=>
   cases r4;exact⟨_,ts,d,j,rfl,(fW.list hq rs).same ((bT s2).trans bP),r3.same bP,hok,hj,k _ _ H2 (s1.trans s2) (.int _) q⟩
def aKx(ts:List D)(d:D):Prop:=dD ts=true/\d.canLay0=true/\min (cA ts) d.depth<=60
def F4(K:aI):V->List V->Hp->VK->Prop:=λx xs H Q=>∃(y:V)(ts:List D)(d:D),xs=[y]/\fW K H (.list ts) x/\fW K H d y/\aKx ts d/\Q (.int ((ts.countP λt=>cO t d:Nat):Int)) H
def LX(hu:X.A.units+200<m4):MtR X "list.count" (F4 X.K):=by
 intro b7 s σ H x xs v us Q I rx rv h;obtain⟨y,ts,d,rfl,r1,r2,⟨c1,c2,hm⟩,q⟩:=h;obtain⟨u,rfl,ru⟩:=rv.one;obtain⟨as,h1⟩:=fW.reads I (show(aG0 ts).hasDict=false from noDictAll c1) r1 rx;obtain⟨bs,h2⟩:=fW.reads I (nB c2) r2 ru
 cases h1 with
 |@list l o items n _ as' h3 h4 h5 h6=>
  have nh:=yh ts items.toList _ c1 h6;obtain⟨oc,od,Nu,qa⟩:=o;cases h4;cases h5;refine ki F.slot_list_count ⟨_,h3,rfl⟩ F.entry_list_count (F.args_list_count_2 _ _) (list_countAt _ items _ od qa u (λy=>cO (yg s.heap y) d)) ⟨h3,Eu h6 h2 c1 c2 (by have:=hu;omega),?_⟩;refine⟨.int _,H,I.tok _,⟨_,rfl⟩,?_⟩
  have e:(items.toList.countP λy=>cO (yg s.heap y) d)=ts.countP λt=>cO t d:=by
   rw[<- nh,aB0];rfl
  rw[e];exact q
def Q6{k:Nat}(hr:Room k X.A):MtR X "list.count" (F4 X.K):=LX (by have:=hr.un;omega)
def aBa(te:ET)(t:AT):ET:=λσ Q=>te σ λd=>∃ts,d=.list ts/\t σ λds=>∃x:D,ds=[x]/\aKx ts x/\Q (.int ((ts.countP λt=>cO t x:Nat):Int))
def RT{n ap t}(hn:gG X n te)(ha:yQ X (e::es) t)
  (pc:∀{v ta},PE X n v->PA X (e::es) ta->PE X (.Call (.Attribute n "count" ap) (e::es) [] pos) (tBM X.K "list" (F4 X.K) v ta)):gG X (.Call (.Attribute n "count" ap) (e::es) [] pos) (aBa te t):=by
 obtain⟨v,pe,re⟩:=hn;obtain⟨va,pa,ra⟩:=ha;refine⟨_,pc pe pa,λB p0 H ps σT σ Q QV o h k=>re B p0 H ps σT σ _ _ o h λd x H1 s1 r1 q1=>?_⟩;obtain⟨ts,rfl,q1⟩:=q1
 cases r1 with
 |@list p xs _ hq rs=>
  refine⟨.inl ⟨rfl,_,L2.bJ.seq bP hq⟩,ra B p0 H1 ps σT σ _ _ (o.grow s1) q1 λds ys H2 s2 r2 q2=>?_⟩;obtain⟨d,rfl,hok,q⟩:=q2
  cases r2 with
  |cons r3 r4=>
   cases r4;exact⟨_,ts,d,rfl,(fW.list hq rs).same ((bT s2).trans bP),r3.same bP,hok,k _ _ H2 (s1.trans s2) (.int _) q⟩
end
end TL
namespace TL
def aGj:i0 "sum"=some (.builtin "sum"):=by decide +kernel
open L2
section
variable{X:Cx}
def IB{s}:sT X s (λ_ _=>False):=⟨λ_ _ _=>False,λ_ _ _ _ _ _ h=>h.elim,λ_ _ _ _ _ _ _ _ _ h _=>h.elim⟩
end
end TL
namespace L2
open PySem.Builtin
section
variable{X:Cx}{e:Expr}
def BO(r:Addr)(j:Int)(h:Heap):Prop:=∃t u v,IsRange h r 0 j 1 t u v
def qH:kB X (.type "range") (λxs H Q=>∃j:Int,xs=[.int j]/\∀r,H r=none->Q (.ref r) (fM H r (.ext (BO r j)))):=by
 intro b7 s σ H xs us Q I r h;obtain⟨j,rfl,q⟩:=h;obtain⟨u,rfl,ru⟩:=nX r;obtain⟨t,rfl⟩:=ru;refine call_range_1 ⟨.ref s.heap.objs.size,_,I.laid (t':=s.toks+1+1) (o:=.ext (BO s.heap.objs.size j)) (λb u e=>aK _ e) (aL _) ?_,rfl,q _ (I.hok.fresh (aL _))⟩;exact⟨⟨_,_,_,aW _ rfl⟩,⟨_,aW _ rfl⟩,λh1 h2 ⟨t,u,v,z⟩ k=>⟨t,u,v,k _ z⟩⟩
theorem HP:∀(n a:Nat)(us:List Value),us.length=n->(∀(j:Nat) v,us[j]?=some v->∃t,v=.int ((a+j:Nat):Int) t)->gE ((P4 a n).map λ(k:Nat)=>V.int (k:Int)) us
|0,_,us,hl,_=>by rw[nK.mp hl];exact .nil
|n+1,a,us,hl,h=>by
 match us,hl with
 |u::us,hl=>
  rw[X4,bD];obtain⟨t,ht⟩:=h 0 u rfl;refine .cons ⟨t,by rw[ht];rfl⟩ (HP n (a+1) us (by simpa using hl) λj v hv=>?_);obtain⟨t',Vf⟩:=h (j+1) v (by simpa using hv);exact⟨t',by rw[Vf];congr 2;omega⟩
end
end L2
namespace TL
open L2
section
theorem IK{K H}:∀l:List Nat,Reps K H (l.map λ(k:Nat)=>aM (k:Int)) (l.map λ(k:Nat)=>V.int (k:Int))
|[]=>.nil
|k::l=>.cons (.int _) (IK l)
def yD:i0 "range"=some (.type "range"):=by decide +kernel
end
section
variable{X:Cx}{e:Expr}{es:List Expr}{te:ET}{pos:Pos}
inductive aBw:List Expr->List Str->Prop
|nil:aBw [] []
|cons {z:Str} {x1:Nat} {p:Pos} {es:List Expr} {zs:List Str}:aBw es zs->aBw (.Constant (.str z) x1 p::es) (z::zs)
def R8{es:List Expr}{zs:List Str}(h:aBw es zs):yQ X es (λ_ Q=>Q (zs.map aY)):=by
 induction h with
 |nil=>exact aR
 |cons _ ih=>exact aC gT ih
def NS{i:Nat}{x o9}(hN:X.N.Nodup)(hi:X.N[i]?=some x)(hx:SA X.env.scope x)(he:gG X e te)(hs:gX e (some (.Name x o9)) pos.line X.env=pure false:=by rfl)(hf:X.fn x=true\/X.env.scope.names.lookup x=some .local:=by first | exact .inl rfl | exact .inr rfl | assumption) :
  sT X (.Assign [.Name x o9] e pos) (AE i te):=TD he λh=>tP hN hi hx h hs hf
end
noncomputable def wV(s:Stmt)(j:Nat):Stmt:=match s with
|.ClassDef _ _ _ b _ _ _ _ _ _ _=>b.getD j (.Pass ⟨0,0,0,0⟩)
|_=>.Pass ⟨0,0,0,0⟩
noncomputable def MC(C:Addr)(ns:List Str)(ds:List D):D:=.dict [(.str "obj",.tuple [.int (C:Nat),.list (ns.map aY),.list ds])]
theorem HW:∀{xs ys:List Str},xs.map aY=ys.map aY->xs=ys
|[],[],_=>rfl
|[],_::_,h=>by cases h
|_::_,[],h=>by cases h
|x::xs,y::ys,h=>by
 rw[bD,bD]at h;injection h with h1 h2
 injection h1 with h1
 rw[h1,HW h2]
def N2{K}{H:Hp}{C:Addr}{ns ds v}(r:fW K H (MC C ns ds) v):∃(p dx:Addr)(fs:List (Str×V)),v=.ref p/\H p=some (.ins C dx fs)/\fs.map (·.1)=ns/\Reps K H ds (fs.map (·.2)):=by
 unfold MC at r
 generalize hg:(vP [(.str "obj",.tuple [.int (C:Nat),.list (ns.map aY),.list ds])])=d at r
 cases r with
 |@ins p C' dx fs ds' h1 h2=>
  injection hg with hg
  injection hg with hg _
  injection hg with _ hg
  injection hg with hg
  injection hg with g1 hg
  injection hg with g2 hg
  injection hg with g3 _
  injection g1 with g1
  injection g2 with g2
  injection g3 with g3
  obtain rfl:C=C':=jD.inj g1;subst g3;exact⟨p,dx,fs,rfl,h1,(HW g2).symm,h2⟩
 |@dct p es ep kvs h1 h2 h3 h4=>
  injection hg with hg
  injection hg with hg _
  injection hg with hg _
  injection hg with hg
  exact d8 hg (by decide +kernel)
 |addr z=>
  injection hg with hg
  injection hg with hg _
  injection hg with hg _
  injection hg with hg
  exact d8 hg (by decide +kernel)
 |_=>cases hg
theorem B6{K H f x}:∀{fs:List (Str×V)}{ds},Reps K H ds (fs.map (·.2))->((fs.map (·.1)).zip ds).lookup f=some x->∃v,fs.lookup f=some v/\fW K H x v
|[],_,_,h=>by cases h
| (g,u)::fs,ds,r,h=>by
 cases r with
 |@cons t ts _ _ r1 r2=>
  show∃v,(match f==g with | true=>some u | false=>fs.lookup f)=some v/\_;have h':(match f==g with | true=>some t | false=>((fs.map (·.1)).zip ts).lookup f)=some x:=h
  cases hb:f==g with
  |true=>
   rw[hb]at h';cases h';exact⟨u,rfl,r1⟩
  |false=>
   rw[hb]at h';exact B6 r2 h'
theorem zP{f}:∀{fs:List (Str×V)},f∉fs.map (·.1)->fs.lookup f=none
|[],_=>rfl
| (g,u)::fs,h=>by
 have hg:(f==g)=false:=beq_eq_false_iff_ne.mpr λz=>h (by rw[z];exact aS ..);show(match f==g with | true=>some u | false=>fs.lookup f)=none;rw[hg];exact zP λz=>h (aO _ z)
section
variable{X:Cx}{o e:Expr}{es:List Expr}{te:ET}{pos ic:Pos}
def aO3(K:aI)(f:Str)(te:ET):ET:=λσ Q=>te σ λd=>∃(C:Addr)(ns:List Str)(ds:List D)(x:D),d=MC C ns ds/\SN K C/\nG K C f/\(ns.zip ds).lookup f=some x/\Q x
def xA{K f}(hK:X.K=K)(he:gG X e te)(hb:bb e f X.env (eval e X.env)=eval e X.env:=by rfl):gG X (.Attribute e f pos) (aO3 K f te):=by
 subst hK;obtain⟨v,p,r⟩:=he;refine⟨_,aEz p hb,λB p0 H ps σT σ Q QV o h k=>r B p0 H ps σT σ _ _ o h λd x H1 s1 r1 q1=>?_⟩;obtain⟨C,ns,ds,y,rfl,hc,hn,hl,q⟩:=q1;obtain⟨a,dx,fs,rfl,h1,rfl,h2⟩:=N2 r1;obtain⟨w,hw,ny⟩:=B6 h2 hl;exact⟨a,C,dx,fs,w,rfl,bP _ _ h1,hc,hn,hw,k _ _ H1 s1 ny q⟩
def aF6(C:Addr)(m:Str)(sp:oK)(te:ET)(t:AT):ET:=λσ Q=>te σ λd=>∃(ns:List Str)(ds:List D),d=MC C ns ds/\m∉ns/\t σ λas=>sp (d::as) Q
def pI{C:Addr}{m sp t}(he:gG X o te)(ha:yQ X (e::es) t)
  (pc:∀{v ta},PE X o v->PA X (e::es) ta->PE X (.Call (.Attribute o m ic) (e::es) [] pos) (aB4 C m (dM X.K sp) [] E0 v ta)):gG X (.Call (.Attribute o m ic) (e::es) [] pos) (aF6 C m sp te t):=by
 obtain⟨v,pe,re⟩:=he;obtain⟨va,pa,ra⟩:=ha;refine⟨_,pc pe pa,λB p0 H ps σT σ Q QV o h k=>re B p0 H ps σT σ _ _ o h λd x H1 s1 r1 q1=>?_⟩;obtain⟨ns,ds,rfl,hm,q1⟩:=q1;obtain⟨a,dx,fs,rfl,h1,rfl,h2⟩:=N2 r1;refine⟨a,dx,fs,rfl,bP _ _ h1,zP hm,ra B p0 H1 ps σT σ _ _ (o.grow s1) q1 λas xs H2 s2 r2 q2=>?_⟩;show dM X.K sp (.ref a::(xs++[])) H2 QV E0;rw[dP];exact⟨ps,MC C (fs.map (·.1)) ds::as,Q,((o.grow s1).grow s2).live,.cons (r1.same (bT s2)) r2,q2,λd v H' s' r' q'=>k d v H' (s1.trans (s2.trans s')) r' q'⟩
end
end TL
namespace L2
noncomputable instance decD:DecidableEq j4:=λ_ _=>Classical.propDecidable _
mutual
def hk:j4->Bool
|.none=>true
|.int _=>true
|.str x=>(aY x).canLay0
|.tuple xs=>hkAll xs
|.bool _=>false
|.list _=>false
|.dict _=>false
def hkAll:List j4->Bool
|[]=>true
|x::xs=>hk x&&hkAll xs
end
mutual
def dW(w:g7):j4->Int
|.none=>0xFCA86420
|.int i=>hashInt i
|.str x=>hashStr w x
|.tuple xs=>Ey (j5 (hashDs w xs))
|.bool _=>0
|.list _=>0
|.dict _=>0
def hashDs(w:g7):List j4->List Int
|[]=>[]
|x::xs=>dW w x::hashDs w xs
end
mutual
def oI:j4->Nat
|.tuple xs=>hdrawsAll xs+1
|.none=>1
|.int _=>1
|.str _=>1
|.bool _=>1
|.list _=>1
|.dict _=>1
def hdrawsAll:List j4->Nat
|[]=>0
|x::xs=>oI x+hdrawsAll xs
end
section
variable{prog:bX}{w:g7}{A:i5}{E:Value->Shared->Prop}{s:Shared}
def LJ{Q:Int->Shared->Prop}(h:Q 0xFCA86420 { s with toks:=s.toks+1 }):wpAny (model prog w) A (pyHash .none) Q E s:=by
 have hT:s.TypeIs .none "NoneType":=rfl;unfold pyHash pyHashByItsType;refine aA (wpAny_cRoomFor_byValue rfl ?_);refine aA (z7 hT lP.lookup ?_);show wpAny _ _ (if(some (cj "NoneType.__hash__")==some g9)=true then _ else _) Q E s;rw[b8 (by rw[beq_builtin_none];exact aX)];refine aA (z7 hT lP.lookup ?_);show wpAny _ _ (on .none "__hash__" _ >>= _) Q E s;refine aA (iy hT lP (fA lP hT PySem.F.entry_NoneType_hash (show wpAny _ _ (do ret (<- mkInt 0xFCA86420)) _ _ s from qe ?_) (PySem.F.args_NoneType_hash_1 _)));show wpAny _ _ (if(decide (-(2:Int)^63<=0xFCA86420)&&decide ((0xFCA86420:Int)<2^63))=true then _ else _) Q E _;rw[b9 (by decide)];exact aF h
def zK(prog:bX)(w:g7)(A:i5)(s:Shared)(d:j4)(v:Value):Prop:=∀(tk:Nat)E(Q:Int->Shared->Prop),Q (dW w d) { s with toks:=tk+oI d }->wpAny (model prog w) A (pyHash v) Q E { s with toks:=tk }
def WI{xs}{a:Addr}{o:Obj}{items:Array Value}{n:Nat}(hu:A.units<m4)(ho:s.heap.get? a=some o)(hc:o.cls=.type "tuple")(hd:o.data=.seq items n)(hi:Paired (zK prog w A.in1 s) xs items.toList):zK prog w A s (.tuple xs) (.ref a):=by
 intro tk E Q h;have hT:ae { s with toks:=tk } (.ref a) "tuple":=⟨o,ho,hc⟩;unfold pyHash
 first | unfold pyHashByItsType | skip
 refine aA (wpAny_cRoomFor_or (.inr hu) ?_);refine aA (z7 hT kC.lookup ?_);show wpAny _ _ (if(some (cj "tuple.__hash__")==some g9)=true then _ else _) Q E _;rw[b8 (by rw[beq_builtin_none];exact aX)];refine aA (z7 hT kC.lookup ?_);show wpAny _ _ (on (.ref a) "__hash__" _ >>= _) Q E _;refine aA (iy hT kC (fA kC hT PySem.F.entry_tuple_hash ?_ (PySem.F.args_tuple_hash_1 _)));show wpAny _ _ (cb (.ref a) >>= _) _ _ _;refine aA (wpAny_tupleItemsOf ho hd ?_);refine aA ?_;rw[<- pX];refine ak _ (λfK (b:Array Int) s'=>∃done left:List j4,xs=done++left/\Paired (zK prog w A.in1 s) left fK/\b.toList=hashDs w done/\s'={ s with toks:=tk+hdrawsAll done }) _ ?_ ?_ _ _ ⟨[],xs,rfl,hi,rfl,rfl⟩
 ·rintro x fK b s' ⟨done,left,rfl,hl,hb,rfl⟩
  cases hl with
  |@cons d _ left' _ h1 vh=>
   have e1:∀ys:List j4,hashDs w (ys++[d])=hashDs w ys++[dW w d]:=λys=>by
    induction ys with
    |nil=>rfl
    |cons y ys ih=>show dW w y::hashDs w (ys++[d])=_;rw[ih];rfl
   have e2:∀ys:List j4,hdrawsAll (ys++[d])=hdrawsAll ys+oI d:=λys=>by
    induction ys with
    |nil=>show oI d+0=0+oI d;omega
    |cons y ys ih=>show oI y+hdrawsAll (ys++[d])=oI y+hdrawsAll ys+oI d;rw[ih];omega
   have fin:∃xc yd:List j4,done++d::left'=xc++yd/\Paired (zK prog w A.in1 s) yd fK/\(b.push (dW w d)).toList=hashDs w xc/\({ s with toks:=tk+hdrawsAll done+oI d }:Shared)={ s with toks:=tk+hdrawsAll xc }:=
    ⟨done++[d],left',by simp,vh,by rw[e1,Array.toList_push,hb],by rw[e2,KI]⟩
   refine aA (h1 _ _ _ ?_)
   first
    |exact aF fin
    |exact aA (aF (aF fin))
 ·rintro b s' ⟨done,left,rfl,hl,hb,rfl⟩;cases hl;rw[dP]at h;show wpAny _ _ (retInt (j5 b.toList)) _ _ _;rw[hb];refine qe ?_;have h':Q (Ey (j5 (hashDs w done))) { s with toks:=tk+(hdrawsAll done+1) }:=h;show wpAny _ _ (if(decide (-(2:Int)^63<=j5 (hashDs w done))&&decide (j5 (hashDs w done)<2^63))=true then _ else _) Q E _;unfold Ey at h';by_cases hr:(decide (-(2:Int)^63<=j5 (hashDs w done))&&decide (j5 (hashDs w done)<2^63))=true
  ·rw[b9 hr];rw[b9 hr]at h';exact aF (by simpa[KI]using h')
  ·rw[b8 hr];rw[b8 hr]at h';exact aA (ik (aF (by simpa[KI]using h')))
mutual
theorem CB(prog:bX)(w:g7)(s:Shared):∀(d:j4)(A:i5)(v:Value)as,Reads s.heap v d as->hk d=true->A.units+d.depth<m4->zK prog w A s d v
|.none,A,_,_,r,_,_=>by cases r;exactλtk E Q h=>LJ h
|.int i,A,_,_,r,_,_=>by cases r;exactλtk E Q h=>wpAny_pyHash_int h
|.str x,A,_,_,r,_,_=>by cases r;exactλtk E Q h=>wpAny_pyHash_str h
|.tuple xs,A,_,_,r,h,hu=>by
 cases r with
 |tuple h1 h2 h3 h4=>
  have Cb:A.units+(cA xs+1)<m4:=hu;exact WI (by omega) h1 h2 h3 (hash_readsAll prog w s xs A.in1 _ _ h4 h (by show A.units+1+_<_;omega))
|.bool _,_,_,_,_,h,_=>by cases h
|.list _,_,_,_,_,h,_=>by cases h
|.dict _,_,_,_,_,h,_=>by cases h
theorem hash_readsAll(prog:bX)(w:g7)(s:Shared):∀(xs:List j4)(A:i5)(vs:List Value)as,ReadsAll s.heap vs xs as->hkAll xs=true->A.units+cA xs<m4->Paired (zK prog w A s) xs vs
|[],A,_,_,r,_,_=>by cases r;exact .nil
|x::xs,A,_,_,r,h,hu=>by
 cases r with
 |cons r1 r2=>
  have h':(hk x&&hkAll xs)=true:=h;rw[bU]at h';have Cb:A.units+max x.depth (cA xs)<m4:=hu;exact .cons (CB prog w s x A _ _ r1 h'.1 (by omega)) (hash_readsAll prog w s xs A _ _ r2 h'.2 (by omega))
end
mutual
theorem wZ:∀{d:j4},hk d=true->d.canLay0=true
|.none,_=>rfl
|.int _,_=>rfl
|.str _,h=>h
|.tuple _,h=>hk_layAll h
|.bool _,h=>by cases h
|.list _,h=>by cases h
|.dict _,h=>by cases h
theorem hk_layAll:∀{xs:List j4},hkAll xs=true->dD xs=true
|[],_=>rfl
|x::xs,h=>by
 have h':(hk x&&hkAll xs)=true:=h;rw[bU]at h';show(x.canLay0&&dD xs)=true;rw[wZ h'.1,hk_layAll h'.2];rfl
end
mutual
theorem WF:∀{d e:j4},hk d=true->hk e=true->cO d e=true->d=e
|.none,.none,_,_,_=>rfl
|.none,.int _,_,_,h=>by cases h
|.none,.str _,_,_,h=>by cases h
|.none,.tuple _,_,_,h=>by cases h
|.int _,.none,_,_,h=>by cases h
|.int i,.int j,_,_,h=>by
 have h':decide (i=j)=true:=by simpa[cO]using h
 rw[e7 h']
|.int _,.str _,_,_,h=>by cases h
|.int _,.tuple _,_,_,h=>by cases h
|.str _,.none,_,_,h=>by cases h
|.str _,.int _,_,_,h=>by cases h
|.str x,.str y,_,_,h=>by
 have h':decide (x=y)=true:=by simpa[cO]using h
 rw[e7 h']
|.str _,.tuple _,_,_,h=>by cases h
|.tuple _,.none,_,_,h=>by cases h
|.tuple _,.int _,_,_,h=>by cases h
|.tuple _,.str _,_,_,h=>by cases h
|.tuple xs,.tuple ys,h1,h2,h=>by
 have h':qR xs ys=true:=by simpa[cO]using h
 rw[hk_eqvAll h1 h2 h']
|.bool _,_,h,_,_=>by cases h
|.list _,_,h,_,_=>by cases h
|.dict _,_,h,_,_=>by cases h
|_,.bool _,_,h,_=>by cases h
|_,.list _,_,h,_=>by cases h
|_,.dict _,_,h,_=>by cases h
theorem hk_eqvAll:∀{xs ys:List j4},hkAll xs=true->hkAll ys=true->qR xs ys=true->xs=ys
|[],[],_,_,_=>rfl
|[],_::_,_,_,h=>by cases h
|_::_,[],_,_,h=>by cases h
|x::xs,y::ys,h1,h2,h=>by
 have a1:(hk x&&hkAll xs)=true:=h1;have a2:(hk y&&hkAll ys)=true:=h2;rw[bU]at a1 a2;have h':(cO x y&&qR xs ys)=true:=by simpa[qR]using h
 rw[bU]at h';rw[WF a1.1 a2.1 h'.1,hk_eqvAll a1.2 a2.2 h'.2]
end
def RL{d e}(h1:hk d=true)(h2:hk e=true):cO d e=decide (d=e):=by
 by_cases h:d=e
 ·subst h;rw[SeqAt.eqv_refl d (wZ h1),d7 rfl]
 ·rw[f9 h]
  cases q:cO d e with
  |false=>rfl
  |true=>exact d8 (WF h1 h2 q) h
mutual
theorem zN(prog:bX)(w:g7)(s:Shared):∀(d:j4)A E(v:Value)as(n:Nat)(Q:Bool->Shared->Prop),Reads s.heap v d as->hk d=true->d.depth<=n->Q true s->wpAny (model prog w) A (wq n v) Q E s
|.none,A,E,_,_,n,Q,r,_,_,q=>by cases r;rw[lu n rfl];exact aF q
|.int i,A,E,_,_,n,Q,r,_,_,q=>by cases r;rw[lu n rfl];exact aF q
|.str x,A,E,_,_,n,Q,r,_,_,q=>by cases r;rw[lu n rfl];exact aF q
|.tuple xs,A,E,_,_,0,Q,r,_,hn,q=>by
 have:cA xs+1<=0:=hn;omega
|.tuple xs,A,E,_,_,n+1,Q,r,h,hn,q=>by
 cases r with
 |@tuple a o vs m _ _ h1 h2 h3 h4=>
  have hT:s.TypeIs (.ref a) "tuple":=⟨o,h1,h2⟩;have hn':cA xs+1<=n+1:=hn;unfold wq;refine aA (z7 hT PySem.F.slot_tuple_eq.lookup ?_);show wpAny _ _ (isInstance (.ref a) (.type "tuple") >>= _) _ _ s;refine aA (oi hT isSubtype_tuple_tuple ?_);simp only[aG4,fQ,p8];refine aA (jl h1 h3 ?_);refine aA ?_;show wpAny _ _ (Fi vs _ _) _ _ s;rw[<- pX];refine ak _ (λfK r s'=>r.1=none/\s'=s/\∀v∈fK,∀(Q:Bool->Shared->Prop),Q true s->wpAny (model prog w) A (wq n v) Q E s) _ ?_ ?_ _ _ ⟨rfl,rfl,λv hv Q hQ=>quiet_readsAll prog w s xs A E _ _ n Q h4 h (by omega) v hv hQ⟩
  ·rintro v fK r s' ⟨hr,rfl,bj⟩;refine aA (bj v aS _ ?_);simp only[aG4,fQ,p8];exact aF ⟨rfl,rfl,λu Cb=>bj u (aO _ Cb)⟩
  ·rintro⟨r1,r2⟩ s' ⟨hr,rfl,_⟩;simp only at hr;subst hr;exact aF q
|.bool _,_,_,_,_,_,_,_,h,_,_=>by cases h
|.list _,_,_,_,_,_,_,_,h,_,_=>by cases h
|.dict _,_,_,_,_,_,_,_,h,_,_=>by cases h
theorem quiet_readsAll(prog:bX)(w:g7)(s:Shared):∀(xs:List j4)A E(vs:List Value)as(n:Nat)(Q:Bool->Shared->Prop),ReadsAll s.heap vs xs as->hkAll xs=true->cA xs<=n->∀v∈vs,Q true s->wpAny (model prog w) A (wq n v) Q E s
|[],A,E,_,_,n,Q,r,_,_,v,hv,_=>by cases r;cases hv
|x::xs,A,E,_,_,n,Q,r,h,hn,v,hv,q=>by
 cases r with
 |cons r1 r2=>
  have h':(hk x&&hkAll xs)=true:=h;rw[bU]at h';have hn':max x.depth (cA xs)<=n:=hn;rcases bE.mp hv with rfl | hv
  ·exact zN prog w s x A E _ _ n Q r1 h'.1 (by omega) q
  ·exact quiet_readsAll prog w s xs A E _ _ n Q r2 h'.2 (by omega) v hv q
end
mutual
theorem pC{h h':Heap}(gw:∀(b:Addr)(o:Obj)(vs:Array Value)(n:Nat),h.get? b=some o->o.data=.seq vs n->h'.get? b=some o):∀{d:j4}{v:Value}{as:List Addr},Reads h v d as->hk d=true->Reads h' v d as
|.none,_,_,r,_=>by cases r;exact .none
|.int i,_,_,r,_=>by cases r;exact .int i _
|.str x,_,_,r,_=>by cases r;exact .str x _
|.tuple xs,_,_,r,hh=>by
 cases r with
 |tuple h1 h2 h3 h4=>exact .tuple (gw _ _ _ _ h1 h3) h2 h3 (reads_stayAll gw h4 hh)
|.bool _,_,_,_,hh=>by cases hh
|.list _,_,_,_,hh=>by cases hh
|.dict _,_,_,_,hh=>by cases hh
theorem reads_stayAll{h h':Heap}(gw:∀(b:Addr)(o:Obj)(vs:Array Value)(n:Nat),h.get? b=some o->o.data=.seq vs n->h'.get? b=some o):∀{xs:List j4}{vs:List Value}{as:List Addr},ReadsAll h vs xs as->hkAll xs=true->ReadsAll h' vs xs as
|[],_,_,r,_=>by cases r;exact .nil
|x::xs,_,_,r,hh=>by
 cases r with
 |cons r1 r2=>
  have Ma:(hk x&&hkAll xs)=true:=hh;rw[bU]at Ma;exact .cons (pC gw r1 Ma.1) (reads_stayAll gw r2 Ma.2)
end
end
def eV(prog:bX)(w:g7):HeapKind prog w j4 where
 is:=λh k a=>hk k=true/\k.depth<=8/\∃as,Reads h (.ref a) k as
 hash:=dW w
 draws:=oI
 room:=λA=>A.units+8<m4
 inj:=λ⟨h1,_,as,r1⟩ ⟨_,_,bs,r2⟩=>SeqAt.Reads.unique _ _ _ _ _ (wZ h1) r1 r2
 keeps:=λ⟨h1,h2,as,r⟩ ho hd hs=>⟨h1,h2,as,pC (λb o vs n e ed=>(hs.2 b (λz=>by
  subst z;rw[ho]at e;cases e;rw[hd]at ed;cases ed)).trans e) r h1⟩
 pyHash:=λ{A E s k a Q} hu ⟨h1,h2,as,r⟩ h=>CB prog w s k A _ _ r h1 (by omega) s.toks E Q h
 eqBool:=λ{A E s x y a b Q} hu ⟨h1,h2,as,r⟩ ⟨g1,g2,bs,r'⟩ h=>SeqAt.eqAt_reads x y A s _ _ _ _ r r' (wZ h1) (wZ g1) (by omega) prog w E Q (by rw[RL h1 g1];exact h)
 quiet:=λ{A E s k a Q} ⟨h1,h2,as,r⟩ h=>zN prog w s k A E _ _ 8 Q r h1 h2 h
section
variable{κ:Type}[DecidableEq κ]
noncomputable def wP(kvs:List (κ×V))(k:κ):Option V:=(kvs.find? λkv=>decide (kv.1=k)).map (·.2)
noncomputable def pV(kvs:List (κ×V))(k:κ)(v:V):List (κ×V):=
 if(kvs.any λkv=>decide (kv.1=k))=true then kvs.map (λkv=>if kv.1=k then(kv.1,v)else kv)else kvs++[(k,v)]
def pB{p:κ×V}{r k}(e:p.1=k):wP (p::r) k=some p.2:=by simp[wP,mS,e]
def mV{p:κ×V}{r k}(e:¬p.1=k):wP (p::r) k=wP r k:=by simp[wP,mS,e]
theorem HR(k:κ):∀kvs:List (κ×V),(kvs.any λkv=>decide (kv.1=k))=(wP kvs k).isSome
|[]=>rfl
|p::r=>by
 rw[yL];by_cases e:p.1=k
 ·simp only[pB e,d7 e,aHa,P3]
 ·rw[mV e,f9 e,Bool.false_or];exact HR k r
def tV(kvs:List (κ×V))(k:κ)(v:V):(pV kvs k v).length<=kvs.length+1:=by
 unfold pV;split
 ·rw[aB];omega
 ·rw[bC,cH,uN];omega
def vV.isSome_eq{o:Option V}{u:Option Value}(r:vV o u):o.isSome=u.isSome:=by
 cases o with
 |none=>cases u with
  |none=>rfl
  |some _=>exact(show False from r).elim
 |some _=>cases u with
  |none=>exact(show False from r).elim
  |some _=>rfl
def KV.val{kvs vs}(r:KV kvs vs)(k:κ):vV (wP kvs k) (mf vs k):=by
 unfold KV at r
 induction r with
 |nil=>exact i8
 |@cons p q ps qs h t ih=>
  obtain⟨h1,h2⟩:=h;by_cases e:p.1=k
  ·have e':q.1=k:=h1.symm.trans e;have b:mf (q::qs) k=some q.2:=by simp[mf,mS,e']
   rw[pB e,b];exact h2
  ·have e':¬q.1=k:=λz=>e (h1.trans z);have b:mf (q::qs) k=mf qs k:=by simp[mf,mS,e']
   rw[mV e,b];exact ih
theorem KV.any{kvs:List (κ×V)}{vs:List (κ×Value)}(r:KV kvs vs)(k:κ):(kvs.any λkv=>decide (kv.1=k))=vs.any λkv=>decide (kv.1=k):=by
 unfold KV at r
 induction r with
 |nil=>rfl
 |cons h t ih=>rw[yL,yL,ih,h.1]
def KV.repl{kvs:List (κ×V)}{vs:List (κ×Value)}(r:KV kvs vs)(k:κ){y u}(ry:fX y u) :
  KV (kvs.map λkv=>if kv.1=k then(kv.1,y)else kv) (vs.map λkv=>if kv.1=k then(kv.1,u)else kv):=by
 unfold KV at r |-
 induction r with
 |nil=>exact .nil
 |@cons p q ps qs h t ih=>
  rw[bD,bD];refine .cons ?_ ih;obtain⟨h1,h2⟩:=h;by_cases e:p.1=k
  ·rw[b9 e,b9 (h1.symm.trans e)];exact⟨h1,ry⟩
  ·rw[b8 e,b8 (λz=>e (h1.trans z))];exact⟨h1,h2⟩
def KV.put{kvs vs}(r:KV kvs vs)(k:κ){y u}(ry:fX y u):KV (pV kvs k y) (stored vs k u):=by
 unfold pV stored;rw[r.any k];by_cases e:(vs.any λkv=>decide (kv.1=k))=true
 ·rw[b9 e,b9 e];exact r.repl k ry
 ·rw[b8 e,b8 e];exact qi r ⟨rfl,ry⟩
theorem KV.length{kvs:List (κ×V)}{vs:List (κ×Value)}(r:KV kvs vs):kvs.length=vs.length:=i9 r
end
def OY{P w k u}(r:fX (kV k) u):(kJ P w).is k u=true:=by
 cases k with
 |inl i=>obtain⟨t,e⟩:=(show∃t,u=js i t from r);subst e;exact JD P w i t
 |inr x=>obtain⟨t,e⟩:=(show∃t,u=jt x t from r);subst e;exact JC P w x t
theorem E5{P w}:∀{ks:List pS}{us},gE (ks.map kV) us->ItemsAre (kJ P w) ks us
|[],_,r=>by rw[lA]at r;cases r;exact .nil
|k::ks,_,r=>by
 rw[bD]at r
 cases r with
 |cons h t=>exact .cons (OY h) (E5 t)
abbrev KT(H:Hp):List (List pS×V)->List (List pS×Addr×Value)->Prop:=Paired λp q=>p.1=q.1/\H q.2.1=some (.tup (p.1.map kV))/\fX p.2 q.2.2
def KT.val{H kvs xs}(r:KT H kvs xs)(k:List pS):vV (wP kvs k) ((eh xs k).map (·.2)):=by
 induction r with
 |nil=>exact i8
 |@cons p q ps qs h t ih=>
  obtain⟨h1,_,h2⟩:=h;by_cases e:p.1=k
  ·have e':q.1=k:=h1.symm.trans e;have b:eh (q::qs) k=some q.2:=by simp[eh,mS,e']
   rw[pB e,b];exact h2
  ·have e':¬q.1=k:=λz=>e (h1.trans z);have b:eh (q::qs) k=eh qs k:=by simp[eh,mS,e']
   rw[mV e,b];exact ih
def KT.repl{H}{kvs:List (List pS×V)}{xs:List (List pS×Addr×Value)}(r:KT H kvs xs)(k:List pS){y u}(ry:fX y u) :
  KT H (kvs.map λkv=>if kv.1=k then(kv.1,y)else kv) (xs.map (putAt k u)):=by
 induction r with
 |nil=>exact .nil
 |@cons p q ps qs h t ih=>
  rw[bD,bD];refine .cons ?_ ih;obtain⟨h1,h2,h3⟩:=h;unfold putAt;by_cases e:p.1=k
  ·rw[b9 e,b9 (h1.symm.trans e)];exact⟨h1,h2,ry⟩
  ·rw[b8 e,b8 (λz=>e (h1.trans z))];exact⟨h1,h2,h3⟩
def KT.put{H kvs xs}(r:KT H kvs xs)(k:List pS){b:Addr}{y u}(hb:H b=some (.tup (k.map kV)))(ry:fX y u) :
  KT H (pV kvs k y) (Ga xs k b u):=by
 have e:(kvs.any λkv=>decide (kv.1=k))=(eh xs k).isSome:=by
  rw[HR,(r.val k).isSome_eq,qQ]
 unfold pV Ga;rw[e];by_cases q:(eh xs k).isSome=true
 ·rw[b9 q,b9 q];exact r.repl k ry
 ·rw[b8 q,b8 q];exact qi r ⟨rfl,hb,ry⟩
def KT.keeps{H H':Hp}{kvs xs}(r:KT H kvs xs)(ht:∀b ys,H b=some (.tup ys)->H' b=some (.tup ys)):KT H' kvs xs:=
 Paired.mapP r λ_ _ z=>⟨z.1,ht _ _ z.2.1,z.2.2⟩
section
variable{P:bX}{w:g7}{H:Hp}{h:Heap}{a:Addr}
def aCj{u}(ok:rF P w H h)(e:Rd H a u):iE P w H h a u:=e.ok ok
def W0{kvs:List (pS×V)}(ok:rF P w H h)(e:Rd H a (.dK kvs)):kvs.length<=bM/\(a==l3)=false/\∃vs,KV kvs vs/\h.DictOf (kJ P w) a vs:=
 show iE P w H h a (.dK kvs)from aCj ok e
def aDe{kvs:List (pS×V)}(ok:rF P w H h)(e:H a=some (.dK kvs)):kvs.length<=bM/\(a==l3)=false/\∃vs,KV kvs vs/\h.DictOf (kJ P w) a vs:=W0 ok (.inl e)
def L5{ks:List pS}(ok:rF P w H h)(e:H a=some (.tup (ks.map kV))):(og (kJ P w)).is h ks a:=by
 obtain⟨_,its,r,o,h1,h2,n,h3,_⟩:=(show iE P w H h a (.tup (ks.map kV))from ok a _ e);exact⟨o,its.toArray,n,h1,h2,h3,by simpa using E5 r⟩
def WZ{kvs:List (List pS×V)}(ok:rF P w H h)(e:Rd H a (.dT kvs)):kvs.length<=bM/\(a==l3)=false /\
  ∃xs,KT H kvs xs/\h.DictOfH (og (kJ P w)) a xs:=by
 obtain⟨z,y,xs,r,o,es,ep,h1,h2,h3,h4,h5⟩:=(show iE P w H h a (.dT kvs)from aCj ok e);refine⟨z,y,xs,r,o,es,ep,h1,h2,h3,h4,λx hx=>?_,h5⟩
 have all:∀{l:List (List pS×V)}{m:List (List pS×Addr×Value)},KT H l m->∀x∈m,(og (kJ P w)).is h x.1 x.2.1:=by
  intro l m q
  induction q with
  |nil=>intro x hx;exact nomatch hx
  |@cons p q ps qs hq t ih=>
   intro x hx;rcases bE.mp hx with e | hx
   ·subst e;exact L5 ok (by rw[<- hq.1];exact hq.2.1)
   ·exact ih x hx
 exact all r x hx
def aLt{kvs:List (List pS×V)}(ok:rF P w H h)(e:H a=some (.dT kvs)):kvs.length<=bM/\(a==l3)=false /\
  ∃xs,KT H kvs xs/\h.DictOfH (og (kJ P w)) a xs:=WZ ok (.inl e)
end
def HB(H:Hp)(a:Addr)(y:V)(r:Option V):Prop:=
 (∃kvs k,Rd H a (.dK kvs)/\y=kV k/\r=wP kvs k)\/∃kvs k b,Rd H a (.dT kvs)/\y=.ref b/\H b=some (.tup (k.map kV))/\r=wP kvs k
def SC(H:Hp)(a:Addr)(y v:V)(H':Hp):Prop:=
 (∃kvs k,H a=some (.dK kvs)/\y=kV k/\kvs.length<bM/\H'=fM H a (.dK (pV kvs k v))) \/
 ∃kvs k b,H a=some (.dT kvs)/\y=.ref b/\H b=some (.tup (k.map kV))/\kvs.length<bM/\H'=fM H a (.dT (pV kvs k v))
theorem HB.k{H}{a:Addr}{kvs k}(e:H a=some (.dK kvs)):HB H a (kV k) (wP kvs k):=.inl ⟨kvs,k,.inl e,rfl,rfl⟩
theorem SC.k{H}{a:Addr}{kvs:List (pS×V)}{k v}(e:H a=some (.dK kvs))(hl:kvs.length<bM):SC H a (kV k) v (fM H a (.dK (pV kvs k v))):=.inl ⟨kvs,k,e,rfl,hl,rfl⟩
section
variable{X:Cx}{b7:List (Addr×Obj)}{σ:St}{H:Hp}{s:Shared}{a:Addr}{y v:V}{u r:Value}{o:Option V}{A:i5}{E:Value->Shared->Prop}
def dS.big(I:dS X b7 σ H s):l3<s.heap.objs.size:=by
 have h:eW<s.heap.objs.size:=(I.mod.glob.keeps I.bk).lt;exact NF (by decide) h
def RW{Q:Value->Shared->Prop}(hu:A.units+1<m4)(I:dS X b7 σ H s)(g:HB H a y (some v))(ry:fX y u)(h:∀w' s',dS X b7 σ H s'->fX v w'->Q w' s') :
  wpAny (model X.prog X.w) A (gb (.ref a) u) Q E s:=by
 rcases g with⟨kvs,k,e,ey,l⟩ | ⟨kvs,k,b,e,ey,eb,l⟩
 ·subst ey;obtain⟨z,hd,vs,qc,dd⟩:=W0 I.hok e;obtain⟨w',hw,ny⟩:=vV.some_of (v:=v) (o:=mf vs k) (by rw[l];exact qc.val k);exact wpAny_getItem_of (OY ry) dd.mapOf hw (h w' _ (I.tok _) ny)
 ·subst ey;cases (show u=e8 b from ry);obtain⟨z,hd,xs,qc,dd⟩:=WZ I.hok e;obtain⟨w',hw,ny⟩:=vV.some_of (v:=v) (o:=(eh xs k).map (·.2)) (by rw[l];exact qc.val k);obtain⟨p,hp,Fp⟩:=bL.mp hw;refine Fd (Fa hu) (L5 I.hok eb) dd hp ?_;rw[Fp];exact h w' _ (I.tok _) ny
def GV{h':Heap}{t':Nat}{ob}(I:dS X b7 σ H s)(mu:Mut (H a))(hs:eG a s.heap h')(he:∃q,h'.get? a=some q)(new:iE X.prog X.w (fM H a ob) h' a ob) :
  dS X b7 σ (fM H a ob) { s with heap:=h',toks:=t' }:=
 I.write (x:=a) (e:=a) mu (.inl rfl) (λb q hb z=>(hs.2 b hb).trans z) he new
def W1{P w H'}{h':Heap}{kvs:List (pS×V)}{vs}(z:kvs.length<=bM)(hd:(a==l3)=false)(qc:KV kvs vs)(dd:h'.DictOf (kJ P w) a vs) :
  iE P w H' h' a (.dK kvs):=⟨z,hd,vs,qc,dd⟩
def RV{H'}{Q:Unit->Shared->Prop}(hu:A.units+1<m4)(I:dS X b7 σ H s)(g:SC H a y v H')(ry:fX y u)(rv:fX v r)(h:∀s',dS X b7 σ H' s'->Q () s') :
  wpAny (model X.prog X.w) A (setItem (.ref a) u r) Q E s:=by
 rcases g with⟨kvs,k,e,ey,l,eH⟩ | ⟨kvs,k,b,e,ey,eb,l,eH⟩
 ·subst ey eH;obtain⟨z,hd,vs,qc,dd⟩:=aDe I.hok e;have hz:vs.length<=bM:=by rw[<- qc.length];exact z
  have hl:(pV kvs k v).length<=bM:=by have:=tV kvs k v;omega
  refine wpAny_setItem_pairs (hsz:=hz) (OY ry) dd λh' qj hs=>h _ ?_;have he:∃q,h'.get? a=some q:=let ⟨q,_,_,hq,_⟩:=qj;⟨q,hq⟩
  exact GV I (by rw[e];exact i8) hs he (W1 hl hd (qc.put k rv) qj)
 ·subst ey eH;cases (show u=e8 b from ry);obtain⟨z,hd,xs,qc,dd⟩:=aLt I.hok e;have hz:xs.length<=bM:=by rw[<- i9 qc];exact z
  have hl:(pV kvs k v).length<=bM:=by have:=tV kvs k v;omega
  refine lc (hsz:=hz) (Fa hu) (L5 I.hok eb) dd λh' qj hs=>h _ ?_;obtain⟨q,es,ep,hq,h2,h3,h4,_,h5⟩:=qj;refine GV I (by rw[e];exact i8) hs ⟨q,hq⟩ ⟨hl,hd,_,(qc.put k eb rv).keeps λc ys ec=>?_,q,es,ep,hq,h2,h3,h4,h5⟩;rw[cI (aK1 ec e (λz=>nomatch z))];exact ec
end
def R9(i:Expr):Prop:=∀ov iv,ou i false ov iv=operate [ov,iv] (gb ov iv)
def NO{prog w A}{E:Value->Shared->Prop}{s env value slice pos T id}{Q:Value->Shared->Prop}
  (hl:typeLookup (.type T) "__getitem__"=pure (some (.builtin id))) (hs:R9 slice)
  (h:wpAny (model prog w) A (eval value env) (λo s₁=>wpAny (model prog w) A (eval slice env) (λi la=>la.TypeIs o T/\wpAny (model prog w) A (gb o i) Q E la) E s₁) E s) :
  wpAny (model prog w) A (eval (.Subscript value slice pos) env) Q E s:=by
 refine Do (fV h (λo s₁ nk=>fV nk (λi la xz=>?_) λ_ _ x=>x) λ_ _ x=>x);obtain⟨hT,xz⟩:=xz;unfold wm;refine aA ?_;rw[getitemInPython_of_ne hT.not_modules];refine aA (z7 hT hl ?_)
 have fin:wpAny (model prog w) A (ou slice false o i) (λr qd=>wpAny (model prog w) A (letTemporaryGo value o r >>= λ_=>pure r) Q E qd) E la:=by
  rw[hs o i];exact wpAny_operating (fV xz (λr qd Cg=>aA (wpAny_letTemporaryGo (aF Cg))) λ_ _ x=>x)
 first
  |exact aF (aA fin)
  |exact aA (aF (aA fin))
  |exact aA fin
def JZ{X b7 σ H}{s:Shared}{a:Addr}{y o}(I:dS X b7 σ H s)(g:HB H a y o):s.TypeIs (.ref a) "dict":=by
 rcases g with⟨kvs,k,e,_,_⟩ | ⟨kvs,k,b,e,_,_,_⟩
 ·obtain⟨_,_,vs,_,dd⟩:=W0 I.hok e;exact dd.typeIs
 ·obtain⟨_,_,xs,_,dd⟩:=WZ I.hok e;exact dd.typeIs
def aHg(td ty:TE):TE:=λσ H Q=>td σ H λx H1=>ty σ H1 λy H2=>∃a v,x=.ref a/\HB H2 a y (some v)/\Q v H2
def aJe(td ty tv:TE):TS:=λD σ H=>tv σ H λv H1=>td σ H1 λx H2=>ty σ H2 λy H3=>∃a H4,x=.ref a/\SC H3 a y v H4/\D.nx σ H4
section
variable{X:Cx}{o i value:Expr}{pos o9:Pos}{td ty tv:TE}
def A0(hu:X.A.units+1<m4)(ho:PE X o td)(hi:PE X i ty)(hs:R9 i):PE X (.Subscript o i pos) (aHg td ty):=by
 intro b7 s σ H Q I h;refine NO DF.lookup hs (iZ (ho b7 s σ H _ I h) λu s1 ⟨x,H1,I1,rx,q1⟩=>iZ (hi b7 s1 σ H1 _ I1 q1) λiv s2 zq=>?_);obtain⟨y,H2,I2,ry,a,v,ex,g,q2⟩:=zq;subst ex;obtain rfl:u=e8 a:=rx;exact⟨JZ I2 g,RW hu I2 g ry λw' s3 I3 ny=>⟨v,H2,I3,ny,q2⟩⟩
def OA(hu:X.A.units+1<m4)(ho:PE X o td)(hi:PE X i ty)(hv:PE X value tv)(hs:gX value (some (.Subscript o i o9)) pos.line X.env=pure false) :
  PS X (.Assign [.Subscript o i o9] value pos) (aJe td ty tv):=by
 intro b7 s σ H D I h;refine ii (iZ (hv b7 s σ H _ I h) λr s1 ⟨v,H1,I1,rv,q1⟩=>iZ (ho b7 s1 σ H1 _ I1 q1) λu s2 ⟨x,H2,I2,rx,q2⟩=>iZ (hi b7 s2 σ H2 _ I2 q2) λiv s3 zq=>?_) hs;obtain⟨y,H3,I3,ry,a,H4,ex,g,q3⟩:=zq;subst ex;obtain rfl:u=e8 a:=rx;exact RV hu I3 g ry rv λs4 I4=>⟨σ,H4,I4,q3⟩
end
def W2{P w H}(h:Heap)(hb:l3<h.objs.size):iE P w H (h.push { cls:=.type "dict",data:=.dict #[] }) h.objs.size (.dK []):=
 ⟨cL _,beq_eq_false_iff_ne.mpr (l8 (bZ hb)),[],.nil,Heap.DictOf.new h⟩
def K4:List (TE×TE)->St->Hp->(List (V×V)->Hp->Prop)->Prop
|[],_,H,Q=>Q [] H
| (tk,tv)::r,σ,H,Q=>tk σ H λx H1=>tv σ H1 λy H2=>K4 r σ H2 λps H3=>Q ((x,y)::ps) H3
abbrev VV:List (V×V)->List (Value×Value)->Prop:=Paired λp q=>fX p.1 q.1/\fX p.2 q.2
def PPs(X:Cx)(pos:Pos)(ly:List (Option Expr))(values:List Expr)(Cn:List (TE×TE)):Prop:=
 ∀b7 s σ H(Q:List (V×V)->Hp->Prop),dS X b7 σ H s->K4 Cn σ H Q ->
  wpAny (model X.prog X.w) X.A (evalPairs (pairTrees ly values X.env pos)) (λvs s'=>∃ps H',dS X b7 σ H' s'/\VV ps vs/\Q ps H') X.xe s
def OB{X pos}:PPs X pos [] [] []:=λb7 s σ H Q I h=>pairTrees_nil_walk ⟨[],H,I,.nil,h⟩
def tT{X pos k v ks vs tk tv Cn}(hk:PE X k tk)(hv:PE X v tv)(hr:PPs X pos ks vs Cn) :
  PPs X pos (some k::ks) (v::vs) ((tk,tv)::Cn):=λb7 s σ H Q I h=>
 pairTrees_cons_walk (iZ (hk b7 s σ H _ I h) λu s1 ⟨x,H1,I1,rx,q1⟩=>iZ (hv b7 s1 σ H1 _ I1 q1) λw2 s2 ⟨y,H2,I2,ry,q2⟩=>
  iZ (hr b7 s2 σ H2 _ I2 q2) λws s3 ⟨ps,H3,I3,qc,q3⟩=>⟨(x,y)::ps,H3,I3,.cons ⟨rx,ry⟩ qc,q3⟩)
noncomputable def wW(kvs more:List (pS×V)):List (pS×V):=more.foldl (λacc kv=>pV acc kv.1 kv.2) kvs
def KV.merge:∀{more rs kvs vs},KV more rs->KV kvs vs->KV (wW kvs more) (merged vs rs):=by
 intro more rs kvs vs r;unfold KV at r
 induction r generalizing kvs vs with
 |nil=>intro q;exact q
 |@cons p q ps qs h t ih=>
  intro r0
  have e:KV (pV kvs p.1 p.2) (stored vs q.1 q.2):=by
   have:=r0.put p.1 h.2;rw[<- h.1];exact this
  exact ih e
theorem wD:∀(more kvs:List (pS×V)),(wW kvs more).length<=kvs.length+more.length
|[],kvs=>by show kvs.length<=kvs.length+0;omega
|p::r,kvs=>by
 have h1:=wD r (pV kvs p.1 p.2);have h2:=tV kvs p.1 p.2;show(wW (pV kvs p.1 p.2) r).length<=_;rw[cH];omega
theorem CO{P w}:∀{kvs:List (pS×V)}{ws},VV (kvs.map λkv=>(kV kv.1,kv.2)) ws->∃rs,Carries (kJ P w) ws rs/\KV kvs rs
|[],_,r=>by rw[lA]at r;cases r;exact⟨[],i8,.nil⟩
|p::kvs,_,r=>by
 rw[bD]at r
 cases r with
 |@cons a b as bs h t=>
  obtain⟨rs,c,q⟩:=CO (P:=P) (w:=w) t;obtain⟨b1,b2⟩:=b;exact⟨(p.1,b2)::rs,⟨OY h.1,rfl,c⟩,.cons ⟨rfl,h.2⟩ q⟩
def aB6(Cn:List (TE×TE)):TE:=λσ H Q=>∀p,H p=none->K4 Cn σ (fM H p (.dK [])) λps H2=>H2 p=some (.dK [])/\∃kvs:List (pS×V),ps=kvs.map (λkv=>(kV kv.1,kv.2))/\kvs.length<=15/\Q (.ref p) (fM H2 p (.dK (wW [] kvs)))
def ZK{X pos}{ly:List (Option Expr)}{values:List Expr}{Cn}(h:PPs X pos ly values Cn)(bj:ly.all (·.isSome)=true)(hl:ly.length=values.length)(h0:ly≠[])
  (Rq:ly.length<=15):PE X (.Dict ly values pos) (aB6 Cn):=by
 intro b7 s σ H Q I q;have hn:=I.hok.fresh (aL s.heap.objs.size);have I1:=I.laid (a:=s.heap.objs.size) (o:=.dK []) (h':=s.heap.push { cls:=.type "dict",data:=.dict #[] }) (t':=s.toks) (λ_ _ q=>aK _ q) (aL _) (W2 s.heap I.big);refine wpAny_Dict_walk (knd:=kJ X.prog X.w) bj hl h0 Rq (iZ (h b7 _ σ _ _ I1 (q _ hn)) λws s2 zq=>?_);obtain⟨ps,H2,I2,qc,e,kvs,ep,lk,q2⟩:=zq;subst ep;obtain⟨rs,c,rk⟩:=CO (P:=X.prog) (w:=X.w) qc;obtain⟨z,hd,Xy,r0,dd⟩:=aDe I2.hok e;cases r0;refine⟨rs,c,dd,λh' qj hs=>⟨.ref s.heap.objs.size,_,?_,rfl,q2⟩⟩
 have hz:(wW [] kvs).length<=bM:=by
  have h1:=wD kvs [];rw[uN]at h1;rw[bw];omega
 have he:∃q,h'.get? s.heap.objs.size=some q:=let ⟨q,_,_,hq,_⟩:=qj;⟨q,hq⟩
 exact GV I2 (by rw[e];exact i8) hs he (W1 hz hd (rk.merge .nil) qj)
open TL
def iV(k:D):Prop:=hk k=true/\k.depth<=8
structure DK(K:aI)(w:g7)(H:Hp)(es:List (Int×Addr×V))(ks:List D):Prop where
 rep:Reps K H ks (es.map λe=>.ref e.2.1)
 nd:ks.Nodup
 ok:∀k∈ks,iV k
 hs:es.map (·.1)=ks.map (dW w)
theorem DK.same{K w H H' es ks}(x:DK K w H es ks)(e:bJ H H'):DK K w H' es ks:=⟨x.rep.same e,x.nd,x.ok,x.hs⟩
section
variable{X:Cx}{b7:List (Addr×Obj)}{σ:St}{H:Hp}{s:Shared}{p a:Addr}{es:List (Int×Addr×V)}{ks:List D}{k:D}
def wY(I:dS X b7 σ H s)(r:fW X.K H k (.ref a))(ok:iV k):(eV X.prog X.w).is s.heap k a:=by
 obtain⟨as,h⟩:=fW.reads I (nB (wZ ok.1)) r (u:=.ref a) rfl;exact⟨ok.1,ok.2,as,h⟩
theorem GG(I:dS X b7 σ H s):∀{ks}{as:List Addr},Reps X.K H ks (as.map V.ref)->(∀k∈ks,iV k)->Paired (λk a=>(eV X.prog X.w).is s.heap k a) ks as
|[],[],_,_=>.nil
|[],_::_,r,_=>by cases r
|_::_,[],r,_=>by cases r
|k::ks,a::as,r,h=>by
 cases r with
 |cons r1 r2=>exact .cons (wY I r1 (h k (aS ..))) (GG I r2 λz hz=>h z (aO _ hz))
abbrev EX(es:List (Int×Addr×V))(ks:List D)(xs:List (D×Addr×Value)):Prop:=xs.map (·.1)=ks/\Paired (λ(e:Int×Addr×V) (x:D×Addr×Value)=>x.2.1=e.2.1/\fX e.2.2 x.2.2) es xs
theorem aDb(w:g7)(prog:bX):∀{es:List (Int×Addr×V)}{ks:List D}{ds},Paired M8 es ds->es.map (·.1)=ks.map (dW w)->∃xs,EX es ks xs/\ds=xs.map (Ds (eV prog w))
|[],[],_,.nil,_=>⟨[],⟨rfl,.nil⟩,rfl⟩
|[],_::_,_,_,h=>by simp at h
|_::_,[],_,_,h=>by simp at h
|e::es,k::ks,_,.cons (b:=d) r t,h=>by
 rw[bD,bD]at h;injection h with h1 h2
 obtain⟨xs,⟨x1,x2⟩,x3⟩:=aDb w prog t h2;refine⟨(k,e.2.1,d.val)::xs,⟨by rw[bD,x1],.cons ⟨rfl,r.2.2⟩ x2⟩,?_⟩;rw[bD,x3];congr 1;obtain⟨r1,r2,r3⟩:=r;show d=⟨dW w k,.ref e.2.1,d.val⟩;rw[<- h1,<- r1,<- r2]
theorem O8:∀{es:List (Int×Addr×V)}{xs:List (D×Addr×Value)},Paired (λ(e:Int×Addr×V) (x:D×Addr×Value)=>x.2.1=e.2.1/\fX e.2.2 x.2.2) es xs->xs.map (λx=>x.2.1)=es.map λe=>e.2.1
|_,_,.nil=>rfl
|_,_,.cons r t=>by rw[bD,bD,r.1,O8 t]
def C3(H:Hp)(p:Addr)(es:List (Int×Addr×V)):Prop:=H p=some (kM p es)\/∃ep,H p=some (sI p es ep)
def C3.at(I:dS X b7 σ H s)(h:C3 H p es):PX p es s.heap:=by
 rcases h with h | ⟨ep,h⟩
 ·exact(I.hok p _ h).1
 ·obtain⟨⟨h1,h2,o,xs,h3,h4,h5,h6⟩,_⟩:=I.hok p _ h;exact⟨h1,h2,o,xs,ep,h3,h4,h5,h6⟩
def zD(I:dS X b7 σ H s)(h:C3 H p es)(dk:DK X.K X.w H es ks):(p==l3)=false/\es.length<=bM/\∃xs,EX es ks xs/\s.heap.DictOfH (eV X.prog X.w) p xs:=by
 obtain⟨h1,h2,o,ds,ep,h3,h4,h5,h6⟩:=C3.at I h;obtain⟨xs,x1,x2⟩:=aDb X.w X.prog h6 dk.hs;refine⟨h1,h2,xs,x1,o,ds,ep,h3,h4,h5,x2,?_,by rw[x1.1];exact dk.nd⟩;have ka:=GG I (as:=es.map λe=>e.2.1) (by rw[bH];exact dk.rep) dk.ok;have hm:=O8 x1.2;rw[<- hm,<- x1.1]at ka;clear hm x2 x1;intro x hx
 induction xs with
 |nil=>cases hx
 |cons y ys ih=>
  rw[bD,bD]at ka
  cases ka with
  |cons r t=>
   rcases bE.mp hx with rfl | hx
   ·exact r
   ·exact ih t hx
def WR{xs}{i:Nat}{e:Int×Addr×V}(ex:EX es ks xs)(nd:ks.Nodup)(gw:ks[i]?=some k)(he:es[i]?=some e):∃u,eh xs k=some u/\fX e.2.2 u.2:=by
 obtain⟨h1,h2⟩:=ex;have hl:es.length=xs.length:=i9 h2;have hi:i<xs.length:=by rw[<- hl];exact(aD.mp he).1
 have hx:xs[i]?=some xs[i]:=aG hi
 have e1:xs[i].1=k:=by
  have:(xs.map (·.1))[i]?=some k:=by rw[h1];exact gw
  rw[aH,hx]at this;exact e9 this
 refine⟨xs[i].2,atKey_of_get (by rw[h1];exact nd) (i:=i) (by rw[hx,<- e1]),?_⟩;clear gw nd h1 e1
 induction h2 generalizing i with
 |nil=>simp at hi
 |cons r t ih=>
  cases i with
  |zero=>simp at he;subst he;exact r.2
  |succ j=>exact ih (i:=j) (by simpa using he) (by simpa using hl) (by simpa using hi) (aG _)
def aJo(K:aI)(w:g7):R2:=λx y H Q=>∃(p:Addr)(es:List (Int×Addr×V))(ks:List D)(k:D)(i:Nat)(e:Int×Addr×V),x=.ref p/\C3 H p es/\DK K w H es ks/\fW K H k y/\iV k/\ks[i]?=some k/\es[i]?=some e/\Q e.2.2 H
def AW(I:dS X b7 σ H s)(h:C3 H p es):s.TypeIs (.ref p) "dict":=by
 obtain⟨_,_,o,ds,ep,h3,h4,_⟩:=C3.at I h;exact⟨o,h3,h4.1⟩
def mO{K xs v}(r:fW K H (.tuple xs) v):∃a,v=.ref a:=by cases r;exact⟨_,rfl⟩
end
section
variable{X:Cx}{o i:Expr}{pos:Pos}{td ty:TE}
def UQ(hu:X.A.units+9<m4)(ho:PE X o td)(hi:PE X i ty)(hs:R9 i):PE X (.Subscript o i pos) (λσ H Q=>td σ H λx H1=>ty σ H1 λy H2=>(∃a,y=.ref a)/\aJo X.K X.w x y H2 Q):=by
 intro b7 s σ H Q I h;refine NO DF.lookup hs (iZ (ho b7 s σ H _ I h) λu s1 ⟨x,H1,I1,rx,q1⟩=>iZ (hi b7 s1 σ H1 _ I1 q1) λiv s2 zq=>?_);obtain⟨y,H2,I2,ry,⟨b,ey⟩,p,es,ks,k,j,e,ex,hp,dk,rk,ok,e1,e2,q2⟩:=zq;subst ex ey;obtain rfl:u=e8 p:=rx;obtain rfl:iv=e8 b:=ry;obtain⟨h1,h2,xs,x1,x2⟩:=zD I2 hp dk;obtain⟨v,v1,v2⟩:=WR x1 dk.nd e1 e2;exact⟨AW I2 hp,Fd (show X.A.units+1+8<m4 by omega) (wY I2 rk ok) x2 v1 ⟨_,H2,I2.tok _,v2,q2⟩⟩
def F2:List (Int×Addr×V)->List D->D->V->List (Int×Addr×V)
|e::es,k'::ks,k,v=>(if k'=k then(e.1,e.2.1,v)else e)::F2 es ks k v
|_,_,_,_=>[]
def oU(w:g7)(es:List (Int×Addr×V))(ks:List D)(k:D)(a:Addr)(v:V):List (Int×Addr×V):=if k∈ks then F2 es ks k v else es++[(dW w k,a,v)]
def xQ(ks:List D)(k:D):List D:=if k∈ks then ks else ks++[k]
end
section
variable{w:g7}{prog:bX}{es:List (Int×Addr×V)}{ks:List D}{xs:List (D×Addr×Value)}{k:D}{a:Addr}{v:V}{u:Value}
theorem WV:∀{es:List (Int×Addr×V)}{ks:List D}{xs:List (D×Addr×Value)},EX es ks xs->es.map (·.1)=ks.map (dW w)->Paired M8 es (xs.map (Ds (eV prog w)))
|[],_,_,⟨_,.nil⟩,_=>.nil
|e::es,[],x::xs,⟨h,_⟩,_=>by simp at h
|e::es,k::ks,x::xs,⟨h,.cons r t⟩,g=>by
 rw[bD]at h;injection h with h1 h2
 rw[bD,bD]at g;injection g with g1 g2
 refine .cons ⟨?_,?_,r.2⟩ (WV ⟨h2,t⟩ g2)
 ·show dW w x.1=e.1;rw[h1,g1]
 ·show e8 x.2.1=e8 e.2.1;rw[r.1]
theorem T5:∀{es ks}{xs:List (D×Addr×Value)}(k:D),EX es ks xs->fX v u->EX (F2 es ks k v) ks (xs.map (putAt k u))
|[],ks,[],k,⟨h,.nil⟩,_=>⟨by rw[<- h];rfl,by cases ks<;>exact .nil⟩
|e::es,[],x::xs,k,⟨h,_⟩,_=>by simp at h
|e::es,k'::ks,x::xs,k,⟨h,.cons r t⟩,rv=>by
 rw[bD]at h;injection h with h1 h2
 obtain⟨i1,i2⟩:=T5 (es:=es) (ks:=ks) (xs:=xs) k ⟨h2,t⟩ rv;unfold F2 putAt;rw[bD];refine⟨?_,.cons ?_ ?_⟩
 ·rw[bD];congr 1;split<;>exact h1
 ·by_cases e1:k'=k
  ·rw[b9 e1,b9 (h1.trans e1)];exact⟨r.1,rv⟩
  ·rw[b8 e1,b8 (λz=>e1 (h1.symm.trans z))];exact r
 ·exact i2
def MK(ex:EX es ks xs)(rv:fX v u):EX (oU w es ks k a v) (xQ ks k) (Ga xs k a u):=by
 have gw:(eh xs k).isSome=true↔k∈ks:=by
  rw[<- ex.1];unfold eh;rw[qQ,AA,aQ];exact⟨λ⟨x,h1,h2⟩=>⟨x,h1,e7 h2⟩,λ⟨x,h1,h2⟩=>⟨x,h1,d7 h2⟩⟩
 unfold oU xQ Ga;by_cases hm:k∈ks
 ·rw[b9 hm,b9 hm,b9 (gw.mpr hm)];exact T5 k ex rv
 ·rw[b8 hm,b8 hm,b8 (λz=>hm (gw.mp z))];refine⟨by rw[bV,ex.1];rfl,qi ex.2 ⟨rfl,rv⟩⟩
theorem BR:∀{es:List (Int×Addr×V)}{ks:List D}(k:D),es.length=ks.length->(F2 es ks k v).map (·.1)=es.map (·.1)/\(F2 es ks k v).map (λe=>e.2.1)=es.map (λe=>e.2.1)
|[],[],k,_=>⟨rfl,rfl⟩
|[],_::_,k,h=>by simp at h
|_::_,[],k,h=>by simp at h
|e::es,k'::ks,k,h=>by
 obtain⟨i1,i2⟩:=BR (es:=es) (ks:=ks) k (by simpa using h);unfold F2;refine⟨?_,?_⟩
 ·rw[bD,bD,i1];congr 1;split<;>rfl
 ·rw[bD,bD,i2];congr 1;split<;>rfl
def DK.len{K H}(x:DK K w H es ks):es.length=ks.length:=by
 have:=i6 gO x.hs;simpa using this
def DK.put{K H}(x:DK K w H es ks)(r:fW K H k (.ref a))(ok:iV k):DK K w H (oU w es ks k a v) (xQ ks k):=by
 unfold oU xQ;by_cases hm:k∈ks
 ·rw[b9 hm,b9 hm];obtain⟨h1,h2⟩:=BR (v:=v) k x.len;refine⟨?_,x.nd,x.ok,h1.trans x.hs⟩
  have e:(F2 es ks k v).map (λe=>V.ref e.2.1)=es.map λe=>V.ref e.2.1:=by
   have:=i6 (wO V.ref) h2
   rwa [bH,bH]at this
  rw[e];exact x.rep
 ·rw[b8 hm,b8 hm];refine⟨by rw[bV];exact x.rep.append (.cons r .nil),?_,λz hz=>?_,by rw[bV,bV,x.hs];rfl⟩
  ·rw[jT];exact⟨x.nd,by simp,λc hc b hb=>by rw[bR.mp hb];exactλz=>hm (z▸hc)⟩
  ·rcases dH.mp hz with hz | hz
   ·exact x.ok z hz
   ·rw[bR.mp hz];exact ok
def BT(h:es.length=ks.length):(oU w es ks k a v).length<=es.length+1:=by
 unfold oU;split
 ·have:=i6 gO (BR (v:=v) k h).1;simp at this;omega
 ·simp
end
section
variable{p:Addr}{es:List (Int×Addr×V)}{ks:List D}
def xD:∀h1 h2:Heap,PX p es h1->(∀o,h1.get? p=some o->h2.get? p=some o)->PX p es h2:=λh1 h2 ⟨a,b,o,xs,ep,e,r⟩ k=>⟨a,b,o,xs,ep,k _ e,r⟩
def MP{P w H'}{h':Heap}{xs}(hd:(p==l3)=false)(hl:es.length<=bM)(ex:EX es ks xs)(hh:es.map (·.1)=ks.map (dW w))(dd:h'.DictOfH (eV P w) p xs):iE P w H' h' p (kM p es):=by
 obtain⟨o,ds,ep,h1,h2,h3,h4,_⟩:=dd;exact⟨⟨hd,hl,o,ds,ep,h1,h2,h3,by rw[h4];exact WV ex hh⟩,⟨o,h1⟩,xD⟩
end
section
variable{X:Cx}{o i value:Expr}{pos o9:Pos}{td ty tv:TE}
def aEk(K:aI)(w:g7)(td ty tv:TE):TS:=λD' σ H=>tv σ H λv H1=>td σ H1 λx H2=>ty σ H2 λy H3=>∃(p a:Addr)(es:List (Int×Addr×V))(ks:List D)(k:D),x=.ref p/\y=.ref a/\H3 p=some (kM p es)/\DK K w H3 es ks/\fW K H3 k (.ref a)/\iV k/\es.length<bM/\D'.nx σ (fM H3 p (kM p (oU w es ks k a v)))
def UE(hu:X.A.units+9<m4)(ho:PE X o td)(hi:PE X i ty)(hv:PE X value tv)(hs:gX value (some (.Subscript o i o9)) pos.line X.env=pure false) :
  PS X (.Assign [.Subscript o i o9] value pos) (aEk X.K X.w td ty tv):=by
 intro b7 s σ H D' I h;refine ii (iZ (hv b7 s σ H _ I h) λr s1 ⟨v,H1,I1,rv,q1⟩=>iZ (ho b7 s1 σ H1 _ I1 q1) λu s2 ⟨x,H2,I2,rx,q2⟩=>iZ (hi b7 s2 σ H2 _ I2 q2) λiv s3 zq=>?_) hs;obtain⟨y,H3,I3,ry,p,a,es,ks,k,ex,ey,hp,dk,rk,ok,hl,q3⟩:=zq;subst ex ey;obtain rfl:u=e8 p:=rx;obtain rfl:iv=e8 a:=ry;obtain⟨h1,h2,xs,x1,x2⟩:=zD I3 (.inl hp) dk;refine lc (hsz:=by rw[<- i9 x1.2];exact h2) (show X.A.units+1+8<m4 by omega) (wY I3 rk ok) x2 λh' qj fy=>⟨σ,_,?_,q3⟩;have hq:∃q,h'.get? p=some q:=let ⟨q,_,_,e,_⟩:=qj;⟨q,e⟩
 have:=BT (w:=X.w) (k:=k) (a:=a) (v:=v) dk.len;exact I3.write (x:=p) (e:=p) (by rw[hp];exact i8) (.inl rfl) (λb q hb z=>(fy.2 b hb).trans z) hq (MP (ks:=xQ ks k) h1 (by omega) (MK x1 rv) (dk.put rk ok).hs qj)
def aD7:TE:=λ_ H Q=>∀p,H p=none->Q (.ref p) (fM H p (kM p []))
def UN:PE X (.Dict [] [] pos) aD7:=λb7 s σ H Q I h=>
 wpAny_Dict_empty ⟨.ref s.heap.objs.size,_,I.laid (a:=s.heap.objs.size) (o:=kM s.heap.objs.size []) (t':=s.toks) (λ_ _ q=>aK _ q) (aL _)
  ⟨⟨beq_eq_false_iff_ne.mpr (l8 (bZ I.big)),cL _,_,#[],0,aW _ rfl,⟨rfl,rfl,rfl⟩,rfl,.nil⟩,⟨_,aW _ rfl⟩,xD⟩,rfl,h _ (I.hok.fresh (aL _))⟩
end
end L2
namespace TL
open L2
def mD(w:g7)(kvs:List (D×D)):D:=aBc (kvs.map λkv=>dW w kv.1) kvs
def oA(w:g7)(kvs:List (D×D)):Sl:=.dic (kvs.map λkv=>dW w kv.1) kvs
def sY(kvs:List (D×D))(k v:D):List (D×D):=if k∈kvs.map (·.1)then kvs.map (λkv=>if kv.1=k then(kv.1,v)else kv)else kvs++[(k,v)]
def xH(k:D):Prop:=iV k/\∃xs,k=.tuple xs
section
variable{K:aI}{H B:Hp}{p0 ps:List Addr}{σT g8:List Sl}{σ:L2.St}{p:Addr}
def Ok.re(o:Ok K B p0 H ps σT σ)(hl:g8.length=σT.length)(hv:∀(j:Nat)(d:D),g8[j]?=some (.val d)->σT[j]?=some (.val d))(ho:∀(j:Nat)(ts:List D),g8[j]?=some (.own ts)->σT[j]?=some (.own ts))(hd:qI K B p0 H ps g8 σ):Ok K B p0 H ps g8 σ where
 base:=o.base
 sub:=o.sub
 live:=o.live
 len:=hl.trans o.len
 val:=λj d h=>o.val j d (hv j d h)
 own:=λj ts h=>o.own j ts (ho j ts h)
 dis:=λi j ts us q h1 h2 h3 h4=>o.dis i j ts us q (ho i ts h1) (ho j us h2) h3 h4
 dc:=hd
def Ok.poke(o:Ok K B p0 H ps σT σ){φ:Heap->Prop}{u}(hp:p∈ps)(hB:B p=none)(he:H p=some (.ext φ))(hn:∀(j:Nat)(hs:List Int)(kvs:List (D×D)),σT[j]?≠some (.dic hs kvs))(hu:MB u=false:=by rfl):Ok K B p0 (fM H p u) ps σT σ where
 base:=λb w e=>by
  rw[cI λz=>by rw[z,hB]at e;cases e];exact o.base b w e
 sub:=o.sub
 live:=λq hq=>by
  by_cases e:q=p
  ·subst e;rw[cM];exact⟨_,rfl,hu⟩
  ·rw[cI e];exact o.live q hq
 len:=o.len
 val:=λi d h=>by rw[iA hp];exact o.val i d h
 own:=λi ts h=>by
  rw[iA hp];obtain⟨q,xs,h1,h2,h3,h4,h5,h6⟩:=o.own i ts h;exact⟨q,xs,h1,h2,h3,h4,by rw[cI λz=>by rw[z,he]at h5;cases h5];exact h5,h6⟩
 dis:=o.dis
 dc:=λi hs kvs h=>d8 h (hn i hs kvs)
def NX{i j:Nat}{s d}(hs:∀d,s≠.val d)(h:(σT.set i s)[j]?=some (.val d)):i≠j/\σT[j]?=some (.val d):=by
 by_cases e:i=j
 ·subst e;have hi:i<σT.length:=by simpa using(aD.mp h).1
  rw[aV hi]at h;exact d8 (e9 h) (hs d)
 ·rw[aU e]at h;exact⟨e,h⟩
def xM{i j:Nat}{s ts}(hs:∀ts,s≠.own ts)(h:(σT.set i s)[j]?=some (.own ts)):i≠j/\σT[j]?=some (.own ts):=by
 by_cases e:i=j
 ·subst e;have hi:i<σT.length:=by simpa using(aD.mp h).1
  rw[aV hi]at h;exact d8 (e9 h) (hs ts)
 ·rw[aU e]at h;exact⟨e,h⟩
structure NA(K:aI)(B:Hp)(p0:List Addr)(H:Hp)(ps:List Addr)(p:Addr)(es:List (Int×Addr×V))(hs:List Int)(kvs:List (D×D)):Prop where
 mem:p∈ps
 new:B p=none
 out:p∉p0
 obj:H p=some (kM p es)
 hsh:hs=es.map (·.1)
 nd:(kvs.map (·.1)).Nodup
 ks:Reps K (mask H ps) (kvs.map (·.1)) (es.map λe=>.ref e.2.1)
 vs:Reps K (mask H ps) (kvs.map (·.2)) (es.map λe=>e.2.2)
def Ok.toDic(o:Ok K B p0 H ps σT σ){i:Nat}{es hs kvs}(jc:σ[i]?=some (some (.ref p)))(hn:∀(j:Nat)(hs:List Int)(kvs:List (D×D)),i≠j->σT[j]?≠some (.dic hs kvs))(x:NA K B p0 H ps p es hs kvs):Ok K B p0 H ps (σT.set i (.dic hs kvs)) σ:=by
 refine o.re (by simp) (λj d h=>(NX (by intro _ z;cases z) h).2) (λj ts h=>(xM (by intro _ z;cases z) h).2) λj fy ky h=>?_;have hi:i<σT.length:=by rw[o.len];exact(aD.mp jc).1
 have only:∀(l:Nat)(xy:List Int)(py:List (D×D)),(σT.set i (.dic hs kvs))[l]?=some (.dic xy py)->i=l:=λl xy py hl=>by
  by_cases e:i=l
  ·exact e
  ·rw[aU e]at hl;exact d8 hl (hn l xy py e)
 obtain rfl:=only j fy ky h;rw[aV hi]at h;injection h with h
 injection h with h1 h2
 subst h1 h2;exact⟨⟨p,es,jc,x.mem,x.new,x.out,x.obj,x.hsh,x.nd,x.ks,x.vs⟩,λl xy py hl=>only l xy py hl⟩
def Ok.isDic(o:Ok K B p0 H ps σT σ){i:Nat}{hs kvs}(h:σT[i]?=some (.dic hs kvs)):(∃(p:Addr)(es:List (Int×Addr×V)),σ[i]?=some (some (.ref p))/\NA K B p0 H ps p es hs kvs)/\∀(j:Nat)(fy:List Int)(ky:List (D×D)),i≠j->σT[j]?≠some (.dic fy ky):=by
 obtain⟨⟨p,es,a1,a2,a3,a4,a5,a6,a7,a8,a9⟩,u⟩:=o.dc i hs kvs h;exact⟨⟨p,es,a1,a2,a3,a4,a5,a6,a7,a8,a9⟩,λj fy ky ne e=>ne (u j fy ky e)⟩
def Ok.forget(o:Ok K B p0 H ps σT σ){i:Nat}{hs kvs}(h:σT[i]?=some (.dic hs kvs)):Ok K B p0 H ps (σT.set i .un) σ/\∀(j:Nat)(hs:List Int)(kvs:List (D×D)),(σT.set i .un)[j]?≠some (.dic hs kvs):=by
 have no:∀(j:Nat)(hs:List Int)(kvs:List (D×D)),(σT.set i .un)[j]?≠some (.dic hs kvs):=λj fy ky e=>by
  obtain⟨ne,e'⟩:=A7 (by intro _ _ z;cases z) e;exact(o.isDic h).2 j fy ky ne e'
 exact⟨o.re (by simp) (λj d h=>(NX (by intro _ z;cases z) h).2) (λj ts h=>(xM (by intro _ z;cases z) h).2) λj fy ky e=>d8 e (no j fy ky),no⟩
def Ok.newDic(o:Ok K B p0 H ps σT σ){i:Nat}(hi:i<σT.length)(hn:∀(j:Nat)(hs:List Int)(kvs:List (D×D)),σT[j]?≠some (.dic hs kvs))(hp:H p=none):Ok K B p0 (fM H p (kM p [])) (p::ps) (σT.set i (.dic [] [])) (σ.set i (some (.ref p))):=by
 have o1:=(o.adopt (u:=kM p []) hp).setUn (i:=i) (v:=.ref p);have jc:(σ.set i (some (V.ref p)))[i]?=some (some (.ref p)):=aV (by rw[<- o.len];exact hi)
 have o2:=o1.toDic (i:=i) (es:=[]) (hs:=[]) (kvs:=[]) jc (λj hs kvs ne e=>by
  rw[aU ne]at e;exact hn j hs kvs e) ⟨aS ..,bJ.free' o.base hp,λz=>fE o.live hp (o.sub p z),cM,rfl,by simp,.nil,.nil⟩
 rwa [zY]at o2
def Ok.shareD(o:Ok K B p0 H ps σT σ){i:Nat}{hs kvs}(hi:σT[i]?=some (.dic hs kvs)):∃(p:Addr)(es:List (Int×Addr×V)),σ[i]?=some (some (.ref p))/\NA K B p0 H ps p es hs kvs/\∀ep,Ok K B p0 (fM H p (sI p es ep)) (ps.filter λq=>decide (q≠p)) (σT.set i (.val (aBc hs kvs))) σ/\bJ (mask H ps) (mask (fM H p (sI p es ep)) (ps.filter λq=>decide (q≠p))):=by
 obtain⟨⟨p,es,jc,x⟩,u⟩:=o.isDic hi;refine⟨p,es,jc,x,λep=>?_⟩;have uh:i<σT.length:=(aD.mp hi).1;have Mt:p∉ps.filter λq=>decide (q≠p):=λz=>(e7 (bN.mp z).2) rfl
 have fj:bJ (mask H ps) (mask (fM H p (sI p es ep)) (ps.filter λq=>decide (q≠p))):=λb v hb=>by
  unfold mask at hb |-
  by_cases Cu:b∈ps
  ·rw[b9 Cu]at hb;cases hb
  ·rw[b8 Cu]at hb;have al:b≠p:=λz=>Cu (z▸x.mem);rw[b8 λz=>Cu (bN.mp z).1,cI al];exact hb
 refine⟨⟨λb v hb=>?_,λq hq=>bN.mpr ⟨o.sub q hq,d7 λz=>x.out (z▸hq)⟩,λq hq=>?_,by simpa using o.len,λj d h=>?_,λj us h=>?_,λj k us ws q k1 k2 k3 k4=>?_,λj fy ky h=>?_⟩,fj⟩
 ·have al:b≠p:=λz=>by rw[z,x.new]at hb;cases hb
  rw[cI al];exact o.base b v hb
 ·have al:q≠p:=e7 (bN.mp hq).2;rw[cI al];exact o.live q (bN.mp hq).1
 ·by_cases e:i=j
  ·subst e;rw[aV uh]at h;cases h;refine⟨_,jc,?_⟩;have:=fW.dct (K:=K) (ep:=ep) (kK Mt (cM (H:=H) (o:=sI p es ep))) x.nd (x.ks.same fj) (x.vs.same fj);rw[<- x.hsh]at this;exact this
  ·rw[aU e]at h;obtain⟨v,k1,k2⟩:=o.val j d h;exact⟨v,k1,k2.same fj⟩
 ·obtain⟨_,h⟩:=xM (by intro _ z;cases z) h;obtain⟨q,ys,k1,k2,k3,k4,k5,k6⟩:=o.own j us h;have al:q≠p:=λz=>by rw[z,x.obj]at k5;cases k5
  exact⟨q,ys,k1,bN.mpr ⟨k2,d7 al⟩,k3,k4,by rw[cI al];exact k5,k6.same fj⟩
 ·exact o.dis j k us ws q (xM (by intro _ z;cases z) k1).2 (xM (by intro _ z;cases z) k2).2 k3 k4
 ·obtain⟨ne,h⟩:=A7 (by intro _ _ z;cases z) h;exact d8 h (u j fy ky ne)
end
section
variable{X:Cx}{a b e n:Expr}{es:List Expr}{ta tb tk:ET}{pos:Pos}
def TX(i:Nat):rE:=λDT σ=>i<σ.length/\(∀(j:Nat)(hs:List Int)(kvs:List (D×D)),σ[j]?≠some (.dic hs kvs))/\DT.nx (σ.set i (.dic [] []))
def YR{i:Nat}{x o9 p2}(m3:∀{v},PE X (.Dict [] [] p2) v->PS X (.Assign [.Name x o9] (.Dict [] [] p2) pos) (wS v (kG i))):sT X (.Assign [.Name x o9] (.Dict [] [] p2) pos) (TX i):=by
 refine⟨_,m3 UN,λB p0 H ps σT σ DT DV o h f p hp=>?_⟩;exact f.nx _ (p::ps) _ _ (o.newDic h.1 h.2.1 hp) (by rw[lL hp];exact L2.bJ.refl _) h.2.2
def pA{K w H}{es:List (Int×Addr×V)}{kvs:List (D×D)}(hh:kvs.map (λkv=>dW w kv.1)=es.map (·.1))(nd:(kvs.map (·.1)).Nodup)(ok:∀kv∈kvs,iV kv.1)(r:Reps K H (kvs.map (·.1)) (es.map λe=>.ref e.2.1)):DK K w H es (kvs.map (·.1)):=
 ⟨r,nd,λk hk=>by obtain⟨kv,h1,rfl⟩:=aQ.mp hk;exact ok kv h1,by rw[<- hh,bH];rfl⟩
def HQ{K w H v x}{a:Addr}:∀{es:List (Int×Addr×V)}{kvs:List (D×D)}(k:D),Reps K H (kvs.map (·.2)) (es.map λe=>e.2.2)->fW K H v x->Reps K H ((sY kvs k v).map (·.2)) ((oU w es (kvs.map (·.1)) k a x).map λe=>e.2.2):=by
 intro es kvs k r rv;unfold sY oU;by_cases hm:k∈kvs.map (·.1)
 ·rw[b9 hm,b9 hm];clear hm
  induction kvs generalizing es with
  |nil=>cases es with
   |nil=>exact .nil
   |cons e es=>cases r
  |cons kv kvs ih=>cases es with
   |nil=>cases r
   |cons e es=>
    rw[bD,bD]at r
    cases r with
    |cons r1 r2=>
     rw[bD,bD,bD];unfold F2;rw[bD];refine .cons ?_ (ih r2);by_cases e1:kv.1=k
     ·rw[b9 e1,b9 e1];exact rv
     ·rw[b8 e1,b8 e1];exact r1
 ·rw[b8 hm,b8 hm,bV,bV];exact r.append (.cons rv .nil)
def oY(kvs:List (D×D))(k v:D):(sY kvs k v).map (·.1)=xQ (kvs.map (·.1)) k:=by
 unfold sY xQ;split
 ·rw[bH];apply iW;intro kv _;show(if kv.1=k then(kv.1,v)else kv).1=kv.1;split<;>rfl
 ·rw[bV];rfl
def aEj(w:g7)(i:Nat)(tk tv:ET):rE:=λDT σ=>∃kvs,σ[i]?=some (oA w kvs)/\tv σ λv=>tk σ λk=>xH k/\(∀kv∈kvs,iV kv.1)/\kvs.length<=100000/\DT.nx (σ.set i (oA w (sY kvs k v)))
def IC{i:Nat}{p2 value tv}(hu:X.A.units+9<m4)(hn:PE X n (pU i))(gw:gG X e tk)(hv:gG X value tv)(hs:gX value (some (.Subscript n e p2)) pos.line X.env=pure false:=by rfl) :
  sT X (.Assign [.Subscript n e p2] value pos) (aEj X.w i tk tv):=by
 obtain⟨vv,Iz,rv⟩:=hv;obtain⟨vk,pk,rk⟩:=gw;refine⟨_,UE hu hn pk Iz hs,λB p0 H ps σT σ DT DV o h f=>?_⟩;obtain⟨kvs,hi,h⟩:=h;obtain⟨⟨p,es,jc,x⟩,u⟩:=o.isDic hi;refine rv B p0 H ps σT σ _ _ o h λv y H1 s1 r1 q1=>⟨.ref p,jc,rk B p0 H1 ps σT σ _ _ (o.grow s1) q1 λk z H2 s2 r2 q2=>?_⟩;obtain⟨⟨jh,ys,rfl⟩,hok,o8,q⟩:=q2;obtain⟨a,rfl⟩:=mO r2;have yi:=s1.trans s2;have o2:=o.grow yi;have hm:=bT (ps:=ps) yi;have Nm:=x.ks.same hm;have Ob:=x.vs.same hm;have Kr:=yi _ _ x.obj;have Jm:=pA (w:=X.w) x.hsh x.nd hok Nm
 have hl:es.length=kvs.length:=by
  have:=i6 gO x.hsh;simpa using this.symm
 have hL:bM=2^24:=rfl;have xa:=Jm.put (v:=y) r2 jh;refine⟨p,a,es,kvs.map (·.1),_,rfl,rfl,Kr,Jm.same bP,r2.same bP,jh,by omega,?_⟩;obtain⟨o3,Dk⟩:=o2.forget (i:=i) hi;have o4:=o3.poke (u:=kM p (oU X.w es (kvs.map (·.1)) (.tuple ys) a y)) x.mem x.new Kr Dk;have vj:mask (fM H2 p (kM p (oU X.w es (kvs.map (·.1)) (.tuple ys) a y))) ps=mask H2 ps:=iA x.mem
 have o5:=o4.toDic (i:=i) (es:=oU X.w es (kvs.map (·.1)) (.tuple ys) a y) (hs:=(sY kvs (.tuple ys) v).map λkv=>dW X.w kv.1) (kvs:=sY kvs (.tuple ys) v) jc (λj hs ky _=>Dk j hs ky)
  ⟨x.mem,x.new,x.out,cM,?_,?_,?_,?_⟩
 ·rw[zY]at o5;exact f.nx _ ps _ σ o5 (by rw[vj];exact hm) q
 ·rw[xa.hs,<- oY kvs _ v,bH];rfl
 ·rw[oY];exact xa.nd
 ·rw[vj,oY];exact xa.rep
 ·rw[vj];exact HQ _ Ob (r1.same (bT s2))
def Reps.two{K H}{i:Nat}:∀{kvs:List (D×D)}{es:List (Int×Addr×V)}{kv:D×D},Reps K H (kvs.map (·.2)) (es.map λe=>e.2.2)->kvs[i]?=some kv->∃e,es[i]?=some e/\fW K H kv.2 e.2.2:=by
 intro kvs es kv r h;obtain⟨v,h1,h2⟩:=r.get (i:=i) (d:=kv.2) (by rw[aH,h];rfl);rw[aH]at h1;obtain⟨e,e1,rfl⟩:=bL.mp h1;exact⟨e,e1,h2⟩
def uT{K}{H:Hp}{w}{kvs:List (D×D)}{v}(r:fW K H (mD w kvs) v):∃(p:Addr)(es:List (Int×Addr×V))(ep:Nat),v=.ref p/\H p=some (sI p es ep)/\kvs.map (λkv=>dW w kv.1)=es.map (·.1)/\(kvs.map (·.1)).Nodup/\Reps K H (kvs.map (·.1)) (es.map λe=>.ref e.2.1)/\Reps K H (kvs.map (·.2)) (es.map λe=>e.2.2):=by
 unfold mD aBc at r
 generalize hg:(vP ((.str "{}",.list ((kvs.map λkv=>dW w kv.1).map aM))::kvs))=d at r
 cases r with
 |@dct p es ep ky h1 h2 h3 h4=>
  injection hg with hg
  injection hg with ph Kc
  subst Kc;injection ph with _ ph
  injection ph with ph
  have e:=i6 (wO λd:D=>match d with | .int i=>i | _=>0) ph;simp only[bH,qp]at e;exact⟨p,es,ep,rfl,h1,e,h2,h3,h4⟩
 |addr z=>
  injection hg with hg
  injection hg with ph Kc
  injection ph with ph _
  injection ph with ph
  exact d8 ph (by decide +kernel)
 |ins _ _=>
  injection hg with hg
  injection hg with ph Kc
  injection ph with ph _
  injection ph with ph
  exact d8 ph (by decide +kernel)
 |_=>cases hg
def aC8(w:g7)(d k:D)(Q:D->Prop):Prop:=∃kvs,d=mD w kvs/\xH k/\(∀kv∈kvs,iV kv.1)/\∃v,(k,v)∈kvs/\Q v
def aA0(hu:X.A.units+9<m4)(ha:gG X a ta)(hb:gG X b tb)(hs:R9 b:=by intro _ _;rfl):gG X (.Subscript a b pos) (eOp (aC8 X.w) ta tb):=by
 obtain⟨va,pa,ra⟩:=ha;obtain⟨vb,pb,rb⟩:=hb;refine⟨_,UQ hu pa pb hs,λB p0 H ps σT σ Q QV o h k=>ra B p0 H ps σT σ _ _ o h λd x H1 s1 r1 q1=>?_⟩;refine rb B p0 H1 ps σT σ _ _ (o.grow s1) q1 λkd z H2 s2 r2 q2=>?_;obtain⟨kvs,rfl,⟨jh,ys,rfl⟩,hok,v,hm,q⟩:=q2;obtain⟨c,rfl⟩:=mO r2;obtain⟨p,es,ep,rfl,h1,h2,h3,h4,h5⟩:=uT (r1.same (bT s2));obtain⟨j,hj⟩:=bK hm;obtain⟨en,e1,e2⟩:=h5.two hj;exact⟨⟨c,rfl⟩,p,es,kvs.map (·.1),_,j,en,rfl,.inr ⟨ep,bP _ _ h1⟩,(pA (w:=X.w) h2 h3 hok h4).same bP,r2.same bP,jh,by rw[aH,hj];rfl,e1,k _ _ H2 (s1.trans s2) e2 q⟩
def QO{sts}{ts:TS}(p:zI X sts ts):zI X sts (λDV σ H=>∃(a:Addr)(es:List (Int×Addr×V)),H a=some (kM a es)/\∀ep,ts DV σ (fM H a (sI a es ep))):=by
 intro b7 s σ H D I ⟨a,es,ha,h⟩;obtain⟨⟨h1,h2,o,xs,ep,h3,h4,h5,h6⟩,_⟩:=I.hok a _ ha;refine p b7 s σ _ D ?_ (h ep);exact I.write (x:=a) (e:=a) (h':=s.heap) (t':=s.toks) (by rw[ha];exact i8) (.inl rfl) (λb u _ z=>z) ⟨o,h3⟩ (show iE X.prog X.w _ _ _ (sI a es ep)from⟨⟨h1,h2,o,xs,h3,h4,h5,h6⟩,⟨o,h3⟩,λh1 h2 ⟨a,b,o,xs,e,r⟩ k=>⟨a,b,o,xs,k _ e,r⟩⟩)
def Y0(i:Nat)(t:rE):rE:=λDT σ=>∃hs kvs,σ[i]?=some (.dic hs kvs)/\t DT (σ.set i (.val (aBc hs kvs)))
def oX{sts t}(i:Nat)(h:rA X sts t):rA X sts (Y0 i t):=by
 obtain⟨v,p,r⟩:=h;refine⟨_,QO p,λB p0 H ps σT σ DT DV o h f=>?_⟩;obtain⟨hs,kvs,e,h⟩:=h;obtain⟨a,es,_,ha,fy⟩:=o.shareD e;refine⟨a,es,ha.obj,λep=>?_⟩;obtain⟨o',s'⟩:=fy ep;exact r B p0 _ _ _ σ DT DV o' h (f.later s')
end
end TL
namespace L2
open TL
noncomputable def MA(d:Addr)(i n ep:Nat)(x0 x1 k v:Value):Array Value:=#[x0,x1,.ref d,.int i 0,.int n 0,.int ep 0,k,v]
abbrev yI(h:Heap)(it d:Addr)(i n ep:Nat)(x0 x1 k v:Value):Prop:=h.get? it=some { cls:=.type "dict_itemiterator",dict:=none,data:=.fields (MA d i n ep x0 x1 k v),slots:=#[] }
def aMe(h:Heap)(it:Addr)(x0 x1:Value):Prop:=(x0=.none\/∃(a:Addr)(o:Obj),x0=u0 a/\h.get? a=some o/\a≠it)/\∃f,x1=.bool f
def aGs(h:Heap)(d:Addr)(xs:Array u8)(ep:Nat):Prop:=∃o,h.get? d=some o/\o.data=.dict xs ep
section
variable{prog:bX}{w:g7}{A:i5}{E:Value->Shared->Prop}{s:Shared}{it d:Addr}{i ep:Nat}{xs:Array u8}{x0 x1 k v:Value}
def MZ{a:Addr}{o}{Q:Option Obj->Shared->Prop}(ho:s.heap.get? a=some o)(h:Q (some o) s):wpAny (model prog w) A (loadIfAlive a) Q E s:=by
 have h':Q (s.heap.get? a) s:=by rw[ho];exact h
 exactλ_ _ _=>h'
def L8{Q:Option Value->Shared->Prop}(cf:yI s.heap it d i xs.size ep x0 x1 k v)(hg:aMe s.heap it x0 x1)(hd:aGs s.heap d xs ep)(bo:i<xs.size)
  (hQ:∀(h':Heap)(y0 y1 k' v':Value),yI h' it d (i+1) xs.size ep y0 y1 k' v'->aMe h' it y0 y1->(x0=.none->y0=u0 s.heap.objs.size)->h'.get? s.heap.objs.size=some { cls:=.type "tuple",data:=.seq #[xs[i].key,xs[i].val] }->h'.objs.size=s.heap.objs.size+1 ->
   (∀b o,b≠it->s.heap.get? b=some o->h'.get? b=some o)->Q (some (.ref s.heap.objs.size)) { s with heap:=h' }):wpAny (model prog w) A (fw (.ref it)) Q E s:=by
 obtain⟨H,gs,dr,tk,os⟩:=s;obtain⟨od,xv,nc⟩:=hd;have hT:ae ⟨H,gs,dr,tk,os⟩ (.ref it) "dict_itemiterator":=⟨_,cf,rfl⟩;have yf:l7 "dict_itemiterator"=true:=by decide
 unfold fw;refine aA (ke (l4 (name:=u5 "__next__") hT eY (fA eY hT vX ?_ (vN _))));refine aA (aF (aA (aA ?_)))
 first | refine aA (x6 hT (aF ?_)) | refine aA (am hT (aF ?_))
 refine aA (jk cf rfl ?_);simp only[yf,ef];show wpAny _ _ (if(e8 d==g9)=true then _ else _) _ _ _;rw[b8 (show¬((e8 d==g9)=true)from aX)];refine aA (aF (aA (v6 xv nc ?_)));rw[b8 (by simp)];refine aA (aF (aA (bg xv nc ?_)));rw[b8 (by simp)];refine aF ?_;simp only[show¬((i:Int)<0)from by omega,p8,cW,cZ bo];refine aA ?_
 first | refine aA (x6 hT (aF ?_)) | refine aA (am hT (aF ?_))
 refine aA (ij hT ?_);show wpAny _ _ (me (.ref it) 3 (u0 ((i:Int)+1)) >>= _) _ _ ⟨H,gs,dr,tk,os⟩;refine aA (u4 cf (by simp[MA]) λH1 e1 s1=>?_)
 replace s1:eG it H H1:=s1
 replace e1:yI H1 it d (i+1) xs.size ep x0 x1 k v:=by
  have e:((i+1:Nat):Int)=(i:Int)+1:=by omega
  unfold yI MA;rw[e];simpa[u0,MA]using e1
 have Hb:ae ⟨H1,gs,dr,tk,os⟩ (.ref it) "dict_itemiterator":=⟨_,e1,rfl⟩;refine aA (r8 (aA (ij Hb (aA (ij Hb ?_)))));show wpAny _ _ (fm (.ref it) 6 xs[i].key xs[i].val) _ _ ⟨H1,gs,dr,tk,os⟩;unfold fm;refine aA (wpAny_newTuple ?_)
 generalize Gy:H1.push { cls:=.type "tuple",data:=.seq #[xs[i].key,xs[i].val] }=H2
 have e2:yI H2 it d (i+1) xs.size ep x0 x1 k v:=by rw[<- Gy];exact aK _ e1
 have z1:H1.objs.size=H.objs.size:=s1.1;have uh:it<H.objs.size:=bG cf;have t2:H2.get? H.objs.size=some { cls:=.type "tuple",data:=.seq #[xs[i].key,xs[i].val] }:=by rw[<- Gy,<- z1];exact aW _ rfl
 have z2:H2.objs.size=H.objs.size+1:=by rw[<- Gy,fP,z1]
 have k2:∀b o,b≠it->H.get? b=some o->H2.get? b=some o:=λb o hb e=>by rw[<- Gy];exact aK _ (s1.extBut b o hb e)
 have al:H.objs.size≠it:=jU uh;show wpAny _ _ (fc (.ref it) >>= _) _ _ ⟨H2,gs,dr,tk,os⟩;rw[z1];clear Gy e1 s1 Hb z1;unfold fc;obtain⟨Tl,f,rfl⟩:=hg;rcases Tl with rfl | ⟨a,oa,rfl,ha,Jz⟩
 ·refine aA (aA (p7 e2 rfl (x:=.none) rfl (aF ?_)));simp only[ef];refine aA (p7 e2 rfl (x:=k) rfl (aA (p7 e2 rfl (x:=v) rfl ?_)));refine aA (u4 e2 (by simp[MA]) λH3 e3 s3=>?_)
  replace s3:eG it H2 H3:=s3
  replace e3:yI H3 it d (i+1) xs.size ep .none (.bool f) xs[i].key v:=e3
  refine aA (u4 e3 (by simp[MA]) λH4 e4 s4=>?_)
  replace s4:eG it H3 H4:=s4
  replace e4:yI H4 it d (i+1) xs.size ep .none (.bool f) xs[i].key xs[i].val:=e4
  refine aA (u4 e4 (by simp[MA]) λH5 e5 s5=>?_)
  replace s5:eG it H4 H5:=s5
  replace e5:yI H5 it d (i+1) xs.size ep (u0 H.objs.size) (.bool f) xs[i].key xs[i].val:=e5
  refine aA (u4 e5 (by simp[MA]) λH6 e6 s6=>?_)
  replace s6:eG it H5 H6:=s6
  replace e6:yI H6 it d (i+1) xs.size ep (u0 H.objs.size) (.bool false) xs[i].key xs[i].val:=e6
  have up:∀b o,b≠it->H2.get? b=some o->H6.get? b=some o:=λb o hb e=>s6.extBut b o hb (s5.extBut b o hb (s4.extBut b o hb (s3.extBut b o hb e)));exact aA (Co (aF (aF ⟨_,rfl,aF (hQ H6 _ _ _ _ e6 ⟨.inr ⟨_,_,rfl,up _ _ al t2,al⟩,_,rfl⟩ (λ_=>rfl) (up _ _ al t2) (by rw[s6.1,s5.1,s4.1,s3.1,z2]) λb o hb e=>up b o hb (k2 b o hb e))⟩)))
 ·have fin:∀H3:Heap,yI H3 it d (i+1) xs.size ep (u0 a) (.bool true) k v->eG it H2 H3->Q (some (.ref H.objs.size)) ⟨H3,gs,dr,tk,os⟩:=λH3 e3 s3=>
   hQ H3 _ _ _ _ e3 ⟨.inr ⟨a,oa,rfl,s3.extBut _ _ Jz (k2 a oa Jz ha),Jz⟩,_,rfl⟩ (λz=>by cases z) (s3.extBut _ _ al t2) (by rw[s3.1,z2]) λb o hb e=>s3.extBut b o hb (k2 b o hb e)
  refine aA (aA (p7 e2 rfl (x:=u0 a) rfl ?_));show wpAny _ _ (loadIfAlive ((a:Int).toNat) >>= _) _ _ _;rw[cW];refine aA (MZ (k2 a oa Jz ha) ?_);simp only[Option.isNone_some,fQ,p8];refine aA (p7 e2 rfl (x:=.bool f) rfl ?_)
  cases f with
  |true=>
   rw[b8 (show¬((z4 true != z4 true)=true)from aX)];refine aF ?_;simp only[fQ,p8];exact aF (aF ⟨_,rfl,aF (fin H2 e2 (eG.refl _ _))⟩)
  |false=>
   rw[b9 (show(z4 false != z4 true)=true from rfl)];refine aA (u4 e2 (by simp[MA]) λH3 e3 s3=>?_);refine aF ?_;simp only[fQ,p8];exact aF (aF ⟨_,rfl,aF (fin H3 e3 s3)⟩)
def RG{Q:Option Value->Shared->Prop}(hh:A.handled=none)(cf:yI s.heap it d i xs.size ep x0 x1 k v)(hd:aGs s.heap d xs ep)(Lz:xs.size<=i)
  (hQ:∀h',aMr it s.heap h'->Q none { s with heap:=h' }):wpAny (model prog w) A (fw (.ref it)) Q E s:=by
 obtain⟨od,xv,nc⟩:=hd;have hT:s.TypeIs (.ref it) "dict_itemiterator":=⟨_,cf,rfl⟩;have yf:l7 "dict_itemiterator"=true:=by decide
 unfold fw;refine aA (ke (l4 (name:=u5 "__next__") hT eY (fA eY hT vX ?_ (vN _))));refine aA (aF (aA (aA ?_)))
 first | refine aA (x6 hT (aF ?_)) | refine aA (am hT (aF ?_))
 refine aA (jk cf rfl ?_);simp only[yf,ef];show wpAny _ _ (if(e8 d==g9)=true then _ else _) _ _ s;rw[b8 (show¬((e8 d==g9)=true)from aX)];refine aA (aF (aA (v6 xv nc ?_)));rw[b8 (by simp)];refine aA (aF (aA (bg xv nc ?_)));rw[b8 (by simp)];refine aF ?_;simp only[show¬((i:Int)<0)from by omega,p8,cW,nM Lz];refine aA ?_
 first | refine aA (x6 hT (aF ?_)) | refine aA (am hT (aF ?_))
 show wpAny _ _ (me (.ref it) 2 .none >>= _) _ _ s;refine aA (cz cf rfl (by simp[MA]) ?_);show wpAny _ _ (newExc (.type "StopIteration") [] >>= _) _ _ _;refine aA ?_;simp only[newExc,newTuple];refine aA (eD ?_ (by size_fits));refine aA (m:=jg _ _) (wpAny_of_eq (a:=g9) (by first | rfl | (simp only[jg];rfl)) ?_);refine eD ?_ (by size_fits);simp only[raiseNew];refine aA (wpAny_handled ?_)
 first | rw[show A.in1.handled=none from hh] | rw[hh]
 refine aA (aF (wpAny_throw ?_));refine aA (oi (T:="StopIteration") (b:=true) ⟨_,aW _ rfl,rfl⟩ isSubtype_stop ?_);exact aF (hQ _ (((eG.update ..).extBut.push _).push _))
def SX(v d:Addr)(h:Heap):Prop:=∃o,h.get? v=some o/\o.cls=.type "dict_items"/\o.data=.fields #[.ref d]
def L9{vw:Addr}{Q:Value->Shared->Prop}(hv:SX vw d s.heap)(hd:aGs s.heap d xs ep)
  (hQ:Q (.ref s.heap.objs.size) { s with heap:=s.heap.push { cls:=.type "dict_itemiterator",data:=.fields (MA d 0 xs.size ep .none (.bool false) .none .none) } }):wpAny (model prog w) A (nv (.ref vw)) Q E s:=by
 obtain⟨ov,Po,uy,Tc⟩:=hv;obtain⟨o,ho,mz⟩:=hd;have hT:s.TypeIs (.ref vw) "dict_items":=⟨ov,Po,uy⟩;refine mh hT AQ (fA AQ hT PySem.F.entry_dict_items_iter ?_ (PySem.F.args_dict_items_iter_1 _));unfold fi.«dict_items.__iter__»;refine aA (aF (aA ?_));unfold Builtin.Dict_items.dictOf;refine aA (p7 Po Tc (x:=.ref d) rfl (aF (aA ?_)));unfold Builtin.Dict_items.newIterator;refine aA (v6 ho mz (aA (bg ho mz ?_)));have yf:l7 "dict_itemiterator"=true:=by decide
 simp only[yf,ef]
 refine eD (aF ⟨_,rfl,"dict_itemiterator",_,⟨_,aW _ rfl,rfl⟩,eY.lookup,?_⟩)
  (by simp only[sizeOk,fb,bO,bC,cH,uN,bw];omega)
 simpa[u0,MA,fb]using hQ
end
section
variable{X:Cx}{b7:List (Addr×Obj)}{σ:St}{H:Hp}{s:Shared}
noncomputable def D7(v p:Addr):HO:=.ext (SX v p)
def VC:MtR X "dict.items" (λx xs H Q=>xs=[]/\∃(p:Addr)(es:List (Int×Addr×V)),x=.ref p/\C3 H p es/\∀v,H v=none->Q (.ref v) (fM H v (D7 v p))):=by
 intro b7 s σ H x xs v us Q I rx r h;obtain⟨rfl,p,es,rfl,hp,q⟩:=h;cases rx;cases r;have hT:=AW I hp;obtain⟨hs,_⟩:=C3.at I hp;refine fA FN hT PySem.F.entry_dict_items ?_ (PySem.F.args_dict_items_1 _);unfold fi.«dict.items»;refine aA ?_;unfold Builtin.Dict.noArgs;refine aA (zb hT ?_);show wpAny _ _ (pure p) _ _ s;refine aF ?_;show wpAny _ _ (ai p >>= _) _ _ s;unfold ai;rw[b8 (by rw[hs];exact aX)];refine aA (aF (aA (eD (aF ⟨_,rfl,?_⟩))));exact⟨.ref s.heap.objs.size,_,I.laid (t':=s.toks) (o:=D7 s.heap.objs.size p) (λ_ _ e=>aK _ e) (aL _) ⟨⟨_,aW _ rfl,rfl,rfl⟩,⟨_,aW _ rfl⟩,λh1 h2 ⟨o,e,r⟩ k=>⟨o,k _ e,r⟩⟩,rfl,q _ (I.hok.fresh (aL _))⟩
end
section
variable{X:Cx}{o:Expr}{to:TE}{ic cu:Pos}
def QT(ho:PE X o to)(kq:bb o "items" X.env (eval o X.env)=eval o X.env:=by rfl)(kr:(ic.endLine==cu.line)=true:=by rfl) :
  PE X (.Call (.Attribute o "items" ic) [] [] cu) (λσ H Q=>to σ H λx H1=>∃(p:Addr)(es:List (Int×Addr×V)),x=.ref p/\C3 H1 p es/\∀v,H1 v=none->Q (.ref v) (fM H1 v (D7 v p))):=by
 intro b7 s σ H Q I h;refine wpAny_Call_method0_late kq kr (iZ (ho b7 s σ H _ I h) λv s1 zq=>?_);obtain⟨x,H1,I1,r1,p,es,ex,hp,q1⟩:=zq;subst ex;obtain rfl:v=e8 p:=r1;obtain⟨_,_,ob,ds,ep,h3,h4,_⟩:=C3.at I1 hp;exact⟨"dict","dict.items",FP,FN,PySem.F.type_dict_items,AW I1 hp,λa e=>by cases e;exact⟨ob,h3,h4.2.1⟩,fx rfl (PySem.evalArgs_none (VC b7 s1 σ H1 (.ref p) [] (.ref p) [] Q I1 rfl .nil ⟨rfl,p,es,rfl,hp,q1⟩))⟩
end
section
theorem CH:∀{es ds}{j:Nat}{d},Paired M8 es ds->ds[j]?=some d->∃e,es[j]?=some e/\M8 e d
|_,_,_,_,.nil,h=>by simp at h
|_,_,0,_,.cons r t,h=>by simp at h;subst h;exact⟨_,rfl,r⟩
|_,_,j+1,d,.cons r t,h=>by
 obtain⟨e,h1,h2⟩:=CH (j:=j) (d:=d) t (by simpa using h);exact⟨e,by simpa using h1,h2⟩
end
def KD(h:Heap)(d:Addr)(es:Array u8)(ep:Nat):Prop:=∃o,h.get? d=some o/\o.ExactDict/\o.data=.dict es ep
section
variable{prog:bX}{w:g7}{A:i5}{E:Value->Shared->Prop}{s:Shared}
def JL{d:Addr}{es:Array u8}{ep:Nat}{Q:Value->Shared->Prop}(hd:(d==l3)=false)(hm:KD s.heap d es ep)
  (hQ:Q (.ref s.heap.objs.size) { s with heap:=s.heap.push { cls:=.type "dict_keyiterator",data:=.fields #[.ref d,.int 0 0,.int es.size 0,.int ep 0] } }) :
  wpAny (model prog w) A (nv (.ref d)) Q E s:=by
 obtain⟨o,ho,hc,mz⟩:=id hm;have hT:s.TypeIs (.ref d) "dict":=⟨o,ho,hc.1⟩;refine mh hT HE (fA HE hT PySem.F.entry_dict_iter ?_ (PySem.F.args_dict_iter_1 _));unfold fi.«dict.__iter__»;refine aA ?_;unfold Builtin.Dict.dictSlotNone;refine aA (zb hT ?_);show wpAny _ _ (pure (e8 d)) _ _ s;refine aF ?_;show wpAny _ _ (ai d >>= _) _ _ s;unfold ai;rw[b8 (by rw[hd];exact aX)];refine aA (aF ?_);refine aA (v6 ho mz ?_);refine aA (bg ho mz ?_);have hsz:es.size=es.size:=rfl;refine aA (eD (aF ⟨_,rfl,"dict_keyiterator",_,⟨_,aW _ rfl,rfl⟩,gF.lookup,?_⟩));simpa[u0,hsz]using hQ
def I0{it d:Addr}{i ep:Nat}{es:Array u8}{Q:Option Value->Shared->Prop}(cf:s.heap.IsKeyIter it d i es.size ep)
  (hm:KD s.heap d es ep) (Ht:i<es.size)
  (hQ:∀h',h'.IsKeyIter it d (i+1) es.size ep->eG it s.heap h'->Q (some es[i].key) { s with heap:=h' }) :
  wpAny (model prog w) A (fw (.ref it)) Q E s:=by
 obtain⟨o,ho,hc,hd⟩:=id cf;obtain⟨od,xv,my,nc⟩:=id hm;unfold fw
 refine aA (ke (l4 (name:=u5 "__next__") cf.typeIs gF
  (fA gF cf.typeIs wM ?_ (vY _))))
 refine aA (aF ?_);refine aA ?_;refine aA ?_
 first | refine aA (y3 cf.typeIs (aF ?_)) | refine aA (bc cf.typeIs (aF ?_))
 refine aA (jk ho hd ?_);have Ej:l7 "dict_keyiterator"=false:=by decide
 simp only[Ej,fQ,p8];show wpAny _ _ (if(e8 d==g9)=true then _ else _) _ _ s;rw[b8 (show¬((e8 d==g9)=true)from aX)];refine aA (aF ?_);refine aA (v6 xv nc ?_);have hsz:es.size=es.size:=rfl;rw[b8 (by simp)];refine aA (aF ?_);refine aA (bg xv nc ?_);rw[b8 (by simp)];refine aF ?_;simp only[show¬((i:Int)<0)from by omega,p8,cW,cZ Ht];refine aA ?_
 first | refine aA (y3 cf.typeIs (aF ?_)) | refine aA (bc cf.typeIs (aF ?_))
 refine aA (za cf.typeIs ?_);show wpAny _ _ (me (.ref it) 1 (u0 ((i:Int)+1)) >>= _) _ _ s;refine aA (cz ho hd (by simp) ?_)
 have vg:(s.heap.update it (u7 (·.setIfInBounds 1 (u0 ((i:Int)+1))))).IsKeyIter it d (i+1) es.size ep:=
  ⟨_,iG _ ho (gu (aq hd _)),(yq ..).trans hc,by rw[aq hd];simp[u0]⟩
 refine aA (r8 ?_);refine aA (za (s:={ s with heap:=s.heap.update it (u7 (·.setIfInBounds 1 (u0 ((i:Int)+1)))) }) vg.typeIs ?_);show wpAny _ _ (pure es[i].key) _ _ _;exact aF (aF ⟨_,rfl,aF (hQ _ vg (eG.update ..))⟩)
def PB{it d:Addr}{i ep:Nat}{es:Array u8}{Q:Option Value->Shared->Prop}(hh:A.handled=none)(cf:s.heap.IsKeyIter it d i es.size ep)
  (hm:KD s.heap d es ep) (hx:es.size<=i)
  (hQ:∀h',aMr it s.heap h'->Q none { s with heap:=h' }):wpAny (model prog w) A (fw (.ref it)) Q E s:=by
 obtain⟨o,ho,hc,hd⟩:=id cf;obtain⟨od,xv,my,nc⟩:=id hm;unfold fw
 refine aA (ke (l4 (name:=u5 "__next__") cf.typeIs gF
  (fA gF cf.typeIs wM ?_ (vY _))))
 refine aA (aF ?_);refine aA ?_;refine aA ?_
 first | refine aA (y3 cf.typeIs (aF ?_)) | refine aA (bc cf.typeIs (aF ?_))
 refine aA (jk ho hd ?_);have Ej:l7 "dict_keyiterator"=false:=by decide
 simp only[Ej,fQ,p8];show wpAny _ _ (if(e8 d==g9)=true then _ else _) _ _ s;rw[b8 (show¬((e8 d==g9)=true)from aX)];refine aA (aF ?_);refine aA (v6 xv nc ?_);have hsz:es.size=es.size:=rfl;rw[b8 (by simp)];refine aA (aF ?_);refine aA (bg xv nc ?_);rw[b8 (by simp)];refine aF ?_;have Lz:es.size<=i:=hx;simp only[show¬((i:Int)<0)from by omega,p8,cW,nM Lz];refine aA ?_
 first | refine aA (y3 cf.typeIs (aF ?_)) | refine aA (bc cf.typeIs (aF ?_))
 show wpAny _ _ (me (.ref it) 0 .none >>= _) _ _ s;refine aA (cz ho hd (by simp) ?_);show wpAny _ _ (newExc (.type "StopIteration") [] >>= _) _ _ _;refine aA ?_;simp only[newExc,newTuple];refine aA (eD ?_ (by size_fits));refine aA (m:=jg _ _) (wpAny_of_eq (a:=g9) (by first | rfl | (simp only[jg];rfl)) ?_);refine eD ?_ (by size_fits);simp only[raiseNew];refine aA (wpAny_handled ?_);rw[show A.in1.handled=none from hh];refine aA (aF (wpAny_throw ?_));refine aA (oi (T:="StopIteration") (b:=true) ⟨_,aW _ rfl,rfl⟩ isSubtype_stop ?_);exact aF (hQ _ (((eG.update ..).extBut.push _).push _))
end
noncomputable def Itd(p:Addr)(es:List (Int×Addr×V))(ep:Nat):It:=⟨λi H=>H p=some (sI p es ep)/\i<es.length,λi H x H'=>H'=H/\∃e,es[i]?=some e/\x=.ref e.2.1,λi H=>H p=some (sI p es ep)/\es.length<=i⟩
def QC{P w K tg}(p it:Addr)(es:List (Int×Addr×V))(ep:Nat):D2 P w K tg (Itd p es ep) [it] it (λi h=>h.IsKeyIter it p i es.length ep) where
 mem:=by simp
 obj:=λi h st b hb=>by
  have e:b=it:=by simpa using hb
  subst e;obtain⟨o,e,c,d⟩:=st;exact⟨o,e,λv z=>by rw[d]at z;cases z⟩
 keep:=λi h h' st k=>by
  obtain⟨o,e,r⟩:=st;exact⟨o,k it (by simp) o e,r⟩
 item:=by
  intro X hP hw hK hc i b7 s σ H E I hf st hg;subst hP hw hK;obtain⟨hp,hi⟩:=hg;obtain⟨⟨h1,h2,o,xs,h3,h4,h5,h6⟩,_⟩:=I.hok p _ hp;have hsz:es.length=xs.size:=by rw[<- bB];exact i9 h6
  have Bv:i<xs.size:=by omega
  obtain⟨f0,f1,f2,f3,f4,f5⟩:=hf it (by simp);rw[hsz]at st;refine I0 st ⟨o,h3,h4,h5⟩ Bv λh' kc sb=>?_;have I1:dS X b7 σ H { s with heap:=h' }:=I.turned (t':=s.toks) (λb o hb e=>(sb.2 b hb).trans e) f0 f1 f3 f4 f5;obtain⟨en,e1,e2⟩:=CH (j:=i) (d:=xs[i]) h6 (by simp[Bv]);obtain⟨o',e,c,d⟩:=id kc;rw[<- hsz]at kc;rw[e2.2.1];exact⟨_,rfl,E8 (s:={ s with heap:=h' }) e c d (by decide) ⟨.ref en.2.1,H,I1,rfl,⟨rfl,en,e1,rfl⟩,kc,λb hb=>(hf b hb).1⟩⟩
 done:=by
  intro X hP hw hK hc i b7 s σ H E I hf st hg;subst hP hw hK;obtain⟨hp,hi⟩:=hg;obtain⟨⟨h1,h2,o,xs,h3,h4,h5,h6⟩,_⟩:=I.hok p _ hp;have hsz:es.length=xs.size:=by rw[<- bB];exact i9 h6
  obtain⟨f0,f1,f2,f3,f4,f5⟩:=hf it (by simp);rw[hsz]at st;exact PB (I.ok.hd hc) st ⟨o,h3,h4,h5⟩ (by omega) λh' eb=>⟨rfl,I.turned (t':=s.toks) (λb o hb e=>eb b o hb e) f0 f1 f3 f4 f5⟩
 self:=λ_ _ _ _ _ st h=>Cp st h
section
variable{X:Cx}{tg:Expr}
def aOq(tl:TE):TI:=λσ H R=>tl σ H λx H1=>∃(p:Addr)(es:List (Int×Addr×V))(ep:Nat),x=.ref p/\H1 p=some (sI p es ep)/\R (Itd p es ep) H1
def ZJ{l tl}(hl:PE X l tl):PI X tg l (aOq tl):=by
 intro b7 s σ H R I h;refine iZ (hl b7 s σ H _ I h) λv s1 zq=>?_;obtain⟨x,H1,I1,r1,q1⟩:=zq;obtain⟨p,es,ep,e,hp,q⟩:=q1;subst e;obtain rfl:v=e8 p:=r1;obtain⟨⟨h1,h2,o,xs,h3,h4,h5,h6⟩,_⟩:=I1.hok p _ hp;have hsz:es.length=xs.size:=by rw[<- bB];exact i9 h6
 refine JL h1 ⟨o,h3,h4,h5⟩ ?_;refine⟨s1.heap.objs.size,[s1.heap.objs.size],_,_,H1,rfl,I1.kept (t':=s1.toks) λb o e=>aK _ e,QC p _ es ep,⟨_,aW _ rfl,rfl,by rw[hsz];rfl⟩,λb hb=>?_,q⟩;have e:b=s1.heap.objs.size:=by simpa using hb
 subst e;exact I1.fpOk (aL _) (I1.hok.fresh (aL _))
end
end L2
namespace TL
open L2
section
variable{X:Cx}{e:Expr}{te:ET}
def aK5(w:g7)(te:ET):IT:=λσ Q=>te σ λd=>∃kvs,d=mD w kvs/\Q (kvs.map (·.1))
def aAg{tg}(he:gG X e te):D3 X tg e (aK5 X.w te):=by
 obtain⟨ve,pe,re⟩:=he;refine⟨_,ZJ pe,λB p0 H ps σT σ Q R o h k=>re B p0 H ps σT σ _ _ o h λd x H1 s1 r1 q1=>?_⟩;obtain⟨kvs,rfl,q⟩:=q1;obtain⟨p,es,ep,rfl,h1,h2,h3,h4,h5⟩:=uT r1;refine⟨p,es,ep,rfl,bP _ _ h1,k (kvs.map (·.1)) _ H1 s1 ?_ q⟩;have hl:(kvs.map (·.1)).length=es.length:=by rw[h4.length,aB]
 refine⟨λi H e hi=>⟨e _ _ h1,by omega⟩,λi H e hi=>⟨e _ _ h1,by omega⟩,λi H qs y H' _ e hi hy=>?_⟩;obtain⟨rfl,en,e1,rfl⟩:=hy;obtain⟨dx,g1,g2⟩:=h4.get' (i:=i) (v:=.ref en.2.1) (by rw[aH,e1];rfl);exact⟨L2.bJ.refl _,dx,g1,g2.same e⟩
end
end TL
namespace L2
open TL
section
variable{prog:bX}{w:g7}{A:i5}{E:Value->Shared->Prop}{s:Shared}{d:Addr}{ep:Nat}{xs:Array u8}
def SW(hh:A.handled=none)(I:Addr)(al:d≠I) :
  Walks prog w A I [I,d] [I] xs.size (λi v=>∃e,xs[i]?=some e/\v=e.key) (λi h=>h.IsKeyIter I d i xs.size ep/\KD h d xs ep) where
 sub:=λb hb=>by simp at hb;simp[hb]
 frame:=λ_ _ _ st hk=>by
  obtain⟨⟨o,ho,r⟩,⟨p,hp,q⟩⟩:=st;exact⟨⟨o,hk I (by simp) o ho,r⟩,⟨p,hk d (by simp) p hp,q⟩⟩
 item:=λi s Q E hi st hQ=>by
  refine I0 st.1 st.2 hi λh' vg fy=>?_;obtain⟨p,hp,q⟩:=st.2;exact hQ _ h' s.toks ⟨_,cZ hi,rfl⟩ ⟨vg,⟨p,fy.extBut d p al hp,q⟩⟩ λb o hb e=>fy.extBut b o (λh=>hb (by simp[h])) e
 done:=λs Q E st hQ=>PB hh st.1 st.2 (aL _) λh' vf=>hQ h' s.toks λb o hb e=>vf b o (λh=>hb (by simp[h])) e
 self:=λ_ _ _ _ st hQ=>Cp st.1 hQ
def CP{Q:Value->Shared->Prop}(hh:A.handled=none)(h0:(d==l3)=false)(hd:KD s.heap d xs ep)(hn:xs.size<=bM)
  (hQ:∀(h':Heap)(tk:Nat)(acc:Array Value)(c:Nat),(∀b o,s.heap.get? b=some o->h'.get? b=some o)->h'.get? s.heap.objs.size=some { cls:=.type "list",dict:=none,data:=.seq acc c,slots:=#[] }->acc.toList=xs.toList.map (·.key)->Q (.ref s.heap.objs.size) { s with heap:=h',toks:=tk }) :
  wpAny (model prog w) A (call (.type "list") [.ref d]) Q E s:=by
 have Cy:d<s.heap.objs.size:=let ⟨_,ho,_⟩:=hd;bG ho
 refine callType_codes (Q₁:=λobj s₁=>obj=.ref s.heap.objs.size/\s₁={ s with heap:=s.heap.push { cls:=.type "list",data:=.seq #[] } }) PySem.F.called_list (PySem.F.typeCall_list_1 _) PySem.F.entry_list_init (code_list_new _ ⟨rfl,rfl⟩) λobj s₁ nk=>?_;obtain⟨rfl,rfl⟩:=nk
 generalize Ld:s.heap.push { cls:=.type "list",data:=.seq #[] }=G1
 have hS:G1.get? s.heap.objs.size=some { cls:=.type "list",data:=.seq #[] }:=by rw[<- Ld];exact aW _ rfl
 have k1:∀b o,s.heap.get? b=some o->G1.get? b=some o:=λb o e=>by rw[<- Ld];exact aK _ e
 have z1:G1.objs.size=s.heap.objs.size+1:=by rw[<- Ld,fP]
 generalize Sk:s.heap.objs.size=S at *
 refine⟨⟨_,hS,rfl⟩,PySem.F.args_list_init_2 _ _,?_⟩;show wpAny _ _ (do let old <- jw (.ref S);Builtin.List.listUpdate (.ref S) (λ_=>#[]);letGo old.toList.reverse;v8 (.ref S) (.ref d) .none) _ _ _;refine aA ?_;unfold jw;refine aA (jl hS rfl (aF ?_));show wpAny _ _ (updateSeq S (λ_=>#[]) >>= λ_=>letGo (#[]:Array Value).toList.reverse >>= λ_=>v8 (.ref S) (.ref d) .none) _ _ _;refine aA (io hS rfl ?_);have Ha:=iG (fe (λ_=>(#[]:Array Value))) hS rfl
 generalize Ol:G1.update S (fe (λ_=>(#[]:Array Value)))=G2 at Ha
 have k2:∀b o,b≠S->G1.get? b=some o->G2.get? b=some o:=λb o hb e=>by rw[<- Ol];exact(eQ _ _ (l8 hb)).trans e
 have z2:G2.objs.size=S+1:=by rw[<- Ol,X5,z1]
 have uz:KD G2 d xs ep:=let ⟨o,h1,h2⟩:=hd;⟨o,k2 d o (bZ Cy) (k1 d o h1),h2⟩
 refine aA (Co ?_);unfold v8;have Op:ae { s with heap:=G2 } (.ref d) "dict":=let ⟨o,h1,h2,_⟩:=uz;⟨o,h1,h2.1⟩
 refine aA (fk Op ?_)
 have b1:Builtin.List.listSameRef (.ref S) (.ref d)=false:=by
  show(S==d)=false;exact beq_eq_false_iff_ne.mpr (jU Cy)
 have b2:(p6 "dict"==p6 "list")=false:=by decide
 have b3:(p6 "dict"==p6 "tuple")=false:=by decide
 simp only[b1,b2,b3,HN,fQ,p8];refine aA (JL (s:={ s with heap:=G2 }) h0 uz ?_);show wpAny _ _ _ _ _ { s with heap:=G2.push _ }
 generalize Le:G2.push { cls:=.type "dict_keyiterator",data:=.fields #[.ref d,.int 0 0,.int xs.size 0,.int ep 0] }=G3
 have k3:∀b o,G2.get? b=some o->G3.get? b=some o:=λb o e=>by rw[<- Le];exact aK _ e
 have Sc:G3.get? (S+1)=some { cls:=.type "dict_keyiterator",data:=.fields #[.ref d,.int 0 0,.int xs.size 0,.int ep 0] }:=by rw[<- Le,<- z2];exact aW _ rfl
 have z3:G3.objs.size=S+2:=by rw[<- Le,fP,z2]
 have Sm:ae { s with heap:=G3 } (.ref d) "dict":=let ⟨o,h1,h2⟩:=Op;⟨o,k3 _ _ h1,h2⟩
 have Ir:S+1≠S:=jU (iN _);have Sy:d≠S+1:=bZ (hV Cy)
 have Sf:S∉[S+1,d]:=by
  simp only[bE,eO,af,not_or];exact⟨l8 Ir,jU Cy⟩
 have key:∀(h:Heap)(c tk:Nat),(∀b o,b≠S->G3.get? b=some o->h.get? b=some o)->h.get? S=some { cls:=.type "list",dict:=none,data:=.seq #[] c,slots:=#[] } ->
   dz (model prog w) A.in1 (.builtin "list.extend.loop" ⟨[.ref S,.ref (S+1),.none],[]⟩) (wants (λr la=>r=g9/\Q (.ref S) la) E) { s with heap:=h,toks:=tk }:=λh c tk kk Sj=>by
  have W:=(SW (prog:=prog) (w:=w) (A:=A.in1.in1) (d:=d) (xs:=xs) (ep:=ep) (by simp[hh]) (S+1) Sy).toS;have st:h.IsKeyIter (S+1) d 0 xs.size ep/\KD h d xs ep:=⟨⟨_,kk _ _ Ir Sc,rfl,rfl⟩,let ⟨o,h1,h2⟩:=uz;⟨o,kk d o (bZ Cy) (k3 _ _ h1),h2⟩⟩;refine codeAny_extend_loopS W hn S Sf .none xs.size 0 _ #[] c rfl (cL _) st Sj (ItemsOf.nil _) λs' acc c' hm Se cf=>⟨rfl,?_⟩;obtain⟨h',g',d',Wp,Nv⟩:=s';have eg:g'=s.gens:=hm.gens;have ed:d'=s.drawn:=hm.drawn;have eo:Nv=s.os:=hm.os;subst eg;subst ed;subst eo;refine hQ h' Wp acc c' (λb o e=>?_) Se ?_
  ·have hb:b<S:=by rw[<- Sk];exact bG e
   refine hm.heap b o ?_ (kk b o (bZ hb) (k3 b o (k2 b o (bZ hb) (k1 b o e))));simp only[bE,eO,af,not_or];exact⟨bZ hb,bZ (hV hb)⟩
  ·apply gZ;intro i;rw[aH,cU,cU];by_cases hi:i<xs.size
   ·have Pe:i<acc.size:=by have:=cf.1;omega
    obtain⟨x,hx,hv⟩:=cf.2 i acc[i] (cZ Pe);rw[cZ Pe,hx,hv];rfl
   ·rw[nM (by have:=cf.1;omega),nM (by omega)];rfl
 refine aA (r8 (PySem.W.kdl_hint_dict Sm ?_));dsimp only;rw[z2];refine wpAny_ite_split (λ_=>?_) (λ_=>aF ⟨jy DG _,key _ _ _ (λb o _ e=>e) (k3 _ _ Ha)⟩);have On:=k3 _ _ Ha;refine aA (ik (aA ?_));show wpAny _ _ (updateSeq S (·.push .none) >>= λ_=>updateSeq S (·.pop)) _ _ _;refine aA (io On rfl ?_);have Oo:=iG (fe (·.push g9)) On rfl;refine io (hz:=by seq_fits) Oo rfl ?_;have Si:=iG (fe (·.pop)) Oo rfl;exact aF ⟨jy DG _,key _ _ _ (λb o hb e=>(eQ _ _ (l8 hb)).trans ((eQ _ _ (l8 hb)).trans e)) Si⟩
end
theorem EY:∀{es:List (Int×Addr×V)}{ds:List u8},Paired M8 es ds->gE (es.map λe=>V.ref e.2.1) (ds.map (·.key))
|_,_,.nil=>.nil
|_,_,.cons r t=>.cons (show _=_ from r.2.1) (EY t)
section
variable{X:Cx}
def sS(hc:X.calm=true):kB X (.type "list") (λxs H Q=>∃(p:Addr)(es:List (Int×Addr×V)),xs=[.ref p]/\C3 H p es/\∀l,H l=none->Q (.ref l) (fM H l (.lst (es.map λe=>.ref e.2.1)))):=by
 intro b7 s σ H xs us Q I r h;obtain⟨p,es,rfl,hp,q⟩:=h;obtain⟨u,rfl,rx⟩:=nX r;cases rx;obtain⟨h1,h2,o,ds,ep,h3,h4,h5,h6⟩:=C3.at I hp;have hsz:es.length=ds.size:=by rw[<- bB];exact i9 h6
 refine CP (I.ok.hd hc) h1 ⟨o,h3,h4,h5⟩ (by omega) λh' tk acc c kk hS y4=>?_;refine⟨.ref _,_,I.laid (t':=tk) (o:=.lst (es.map λe=>.ref e.2.1)) kk (aL _) ?_,rfl,q _ (I.hok.fresh (aL _))⟩;exact⟨by rw[aB];exact h2,acc.toList,c,by rw[y4];exact EY h6,by simpa using hS⟩
end
end L2
namespace TL
open L2
section
variable{X:Cx}{e:Expr}{te:ET}{pos:Pos}
def aF7(w:g7)(te:ET):ET:=λσ Q=>te σ λd=>∃kvs,d=mD w kvs/\Q (.list (kvs.map (·.1)))
def JR{g}(he:gG X e te)(hs:bS [e] X.env=(false,eval e X.env)::bS [] X.env:=by rfl)
  (pc:∀{v},PA X [e] (nY v xJ)->PE X (.Call g [e] [] pos) (NN (λxs H Q=>∃(p:Addr)(es:List (Int×Addr×V)),xs=[.ref p]/\C3 H p es/\∀l,H l=none->Q (.ref l) (fM H l (.lst (es.map λe=>.ref e.2.1)))) (nY v xJ))) :
  gG X (.Call g [e] [] pos) (aF7 X.w te):=by
 obtain⟨v,pe,re⟩:=he;refine⟨_,pc (dY pe hU hs),λB p0 H ps σT σ Q QV o h k=>re B p0 H ps σT σ _ _ o h λd x H1 s1 r1 q1=>?_⟩;obtain⟨kvs,rfl,q⟩:=q1;obtain⟨p,es,ep,rfl,h1,h2,h3,h4,h5⟩:=uT r1;exact⟨p,es,rfl,.inr ⟨ep,bP _ _ h1⟩,λl hl=>k _ _ _ (s1.trans (dL hl)) (rO (o.grow s1).live hl h4) q⟩
end
end TL
namespace L2
open TL
noncomputable def aMc(lo:Int)(n:Nat):It:=⟨λi _=>i<n,λi H x H'=>H'=H/\x=.int (lo-i),λi _=>n<=i⟩
def QB{P w K tg}(it:Addr)(lo:Int)(n:Nat):D2 P w K tg (aMc lo n) [it] it (λi h=>ol h it (lo+(i:Nat)*(-1)) ((n:Int)-(i:Nat)) (-1)) where
 mem:=by simp
 obj:=λi h st b hb=>by
  have e:b=it:=by simpa using hb
  subst e
  exact⟨_,st,λv z=>by
   have z':kh _=Data.cell v:=z;cases z'⟩
 keep:=λi h h' st k=>k it (by simp) _ st
 item:=by
  intro X hP hw hK hc i b7 s σ H E I hf st hg;subst hP hw hK;obtain⟨f0,f1,f2,f3,f4,f5⟩:=hf it (by simp);have W:=Walks.range (prog:=X.prog) (w:=X.w) (I.ok.hd hc) it lo (-1) n;refine W.item i s _ _ hg st λv h' tk hv kc kk=>?_;obtain⟨t,rfl⟩:=hv;have I1:dS X b7 σ H { s with heap:=h',toks:=tk }:=I.turned (λb o hb e=>kk b o (by simpa using hb) e) f0 f1 f3 f4 f5;refine⟨_,rfl,E8 (s:={ s with heap:=h',toks:=tk }) (n:="range_iterator") kc rfl rfl (by decide) ⟨.int (lo-i),H,I1,⟨t,?_⟩,⟨rfl,rfl⟩,kc,λb hb=>(hf b hb).1⟩⟩;have e:lo+(i:Int)*(-1)=lo-i:=by omega
  rw[e]
 done:=by
  intro X hP hw hK hc i b7 s σ H E I hf st hg;subst hP hw hK;obtain⟨f0,f1,f2,f3,f4,f5⟩:=hf it (by simp);exact yo (I.ok.hd hc) st (by have:n<=i:=hg;omega) λh' eb=>⟨rfl,I.turned (t':=s.toks) (λb o hb e=>eb b o hb e) f0 f1 f3 f4 f5⟩
 self:=λ_ _ _ _ _ st h=>yn st h
end L2
namespace TL
open L2
section
variable{X:Cx}{e:Expr}{pos:Pos}
def aF8(i:Nat)(tb:ET):ET:=λσ Q=>∃ts,σ[i]?=some (.own ts)/\tb σ λx=>∃(k:Int)(d:D),x=.int k/\L2.atI ts k=some d/\Q d
def JS{i:Nat}{m b tb}(hn:PE X m (pU i))(hb:gG X b tb)(hs:yH b:=by intro _ _;rfl):gG X (.Subscript m b pos) (aF8 i tb):=by
 obtain⟨vb,pb,rb⟩:=hb;refine⟨_,OD bY hn pb hs,λB p0 H ps σT σ Q QV o h k=>?_⟩;obtain⟨ts,e,h⟩:=h;obtain⟨q,xs,h1,h2,h3,h4,h5,h6⟩:=o.own i ts e;refine⟨.ref q,h1,rb B p0 H ps σT σ _ _ o h λd y H1 s1 r1 q1=>?_⟩;obtain⟨j,d',rfl,hj,q1⟩:=q1;cases r1;obtain⟨v,hv,rv⟩:=(h6.same (bT s1)).atI hj;exact .inl ⟨q,xs,j,v,rfl,rfl,mN.of (s1 _ _ h5),hv,k d' v H1 s1 rv q1⟩
end
def JT{X:Cx}{a b pos ta tb w}(hw:X.w=w)(hu:X.A.units+9<m4)(ha:gG X a ta)(hb:gG X b tb)(hs:R9 b:=by intro _ _;rfl):gG X (.Subscript a b pos) (eOp (aC8 w) ta tb):=by
 subst hw;exact aA0 hu ha hb hs
section
variable{K:aI}{B B' H:Hp}{p0 ps:List Addr}{σT:List Sl}{σ:L2.St}
def Ok.less(o:Ok K B p0 H ps σT σ)(hs:bJ B' B):Ok K B' p0 H ps σT σ where
 base:=hs.trans o.base
 sub:=o.sub
 live:=o.live
 len:=o.len
 val:=o.val
 own:=λi ts h=>let ⟨p,xs,h1,h2,h3,h4⟩:=o.own i ts h;⟨p,xs,h1,h2,bJ.free' hs h3,h4⟩
 dis:=o.dis
 dc:=o.dc.to (λ_ _ _ h=>⟨h,rfl⟩) (λ_ _ a _ _=>⟨a,rfl⟩) (λ_ _ _ _ a b=>⟨bJ.free' hs a,b⟩) (L2.bJ.refl _)
def Ok.pokeI(o:Ok K B p0 H ps σT σ){p C dx:Addr}{fs u}(hp:p∈ps)(hB:B p=none)(he:H p=some (.ins C dx fs))(hn:∀(j:Nat)(hs:List Int)(kvs:List (D×D)),σT[j]?≠some (.dic hs kvs))(hu:MB u=false:=by rfl):Ok K B p0 (fM H p u) ps σT σ where
 base:=λb w e=>by
  rw[cI λz=>by rw[z,hB]at e;cases e];exact o.base b w e
 sub:=o.sub
 live:=λq hq=>by
  by_cases e:q=p
  ·subst e;rw[cM];exact⟨_,rfl,hu⟩
  ·rw[cI e];exact o.live q hq
 len:=o.len
 val:=λi d h=>by rw[iA hp];exact o.val i d h
 own:=λi ts h=>by
  rw[iA hp];obtain⟨q,xs,h1,h2,h3,h4,h5,h6⟩:=o.own i ts h;exact⟨q,xs,h1,h2,h3,h4,by rw[cI λz=>by rw[z,he]at h5;cases h5];exact h5,h6⟩
 dis:=o.dis
 dc:=λi hs kvs h=>d8 h (hn i hs kvs)
theorem BS{f y}:∀{fs:List (Str×V)},f∉fs.map (·.1)->qM f y fs=fs++[(f,y)]
|[],_=>rfl
| (g,x)::r,h=>by
 have hg:¬g=f:=λz=>h (by rw[<- z];exact aS ..);show(if g=f then(g,y)::r else(g,x)::qM f y r)=_;rw[b8 hg,BS λz=>h (aO _ z)]
 rfl
def HZ{N ds}(j:Nat)(hs:List Int)(kvs:List (D×D)):(lK N ds)[j]?≠some (.dic hs kvs):=λh=>by
 have hm:=aN h;unfold lK at hm;rcases dH.mp hm with hm | hm
 ·obtain⟨_,_,z⟩:=aQ.mp hm;cases z
 ·have z:=(List.mem_replicate.mp hm).2;cases z
end
abbrev SpI:=List D->(List D->Prop)->Prop
def A3(C:Addr)(ns:List Str)(K:aI)(sp:SpI):Sp:=λvs H Q _=>∃(x dx:Addr)(fK:List V)(ps:List Addr)(ds:List D)(QD:List D->Prop),vs=.ref x::fK/\x∈ps/\H x=some (.ins C dx [])/\(∀p∈ps,C1 (H p))/\Reps K (mask H ps) ds fK/\sp ds QD /\
 ∀(Kx:List D)(fs:List (Str×V))H',bJ (mask H [x]) H'->H' x=some (.ins C dx fs)->fs.map (·.1)=ns->Reps K (mask H' ps) Kx (fs.map (·.2))->QD Kx->Q .non H'
abbrev NT:=(List (Str×D)->Prop)->List (Str×D)->List Sl->Prop
def PNt(X:Cx)(C:Addr)(st:List Stmt)(t:NT):Prop:=∃ts:TS,zI X st ts/\∀B p0 H ps σT σ (p dx:Addr)(fs:List (Str×V))(fd:List (Str×D))(Q:List (Str×D)->Prop)(DV:C9),
 Ok X.K B p0 H ps σT σ->(∀(j:Nat)(hs:List Int)(kvs:List (D×D)),σT[j]?≠some (.dic hs kvs))->σ[0]?=some (some (.ref p))->p∈ps->B p=none->H p=some (.ins C dx fs)->fs.map (·.1)=fd.map (·.1)->Reps X.K (mask H ps) (fd.map (·.2)) (fs.map (·.2))->t Q fd σT ->
 (∀H'(Gw:List (Str×V))(Jx:List (Str×D)),bJ B H'->H' p=some (.ins C dx Gw)->Gw.map (·.1)=Jx.map (·.1)->Reps X.K (mask H' ps) (Jx.map (·.2)) (Gw.map (·.2))->Q Jx->DV.nx σ H')->ts DV σ H
section
variable{X:Cx}{o e value:Expr}{es:List Expr}{te:ET}{pos o9:Pos}{C:Addr}{fK:List Stmt}{r:NT}{f:Str}
def aOd:NT:=λQ fd _=>Q fd
def aFf:PNt X C [] aOd:=⟨_,F9,λ_ _ H _ _ _ _ _ fs fd _ _ o _ _ _ _ hi hk rs h k=>k H fs fd o.base hi hk rs h⟩
def aK2(f:Str)(te:ET)(r:NT):NT:=λQ fd σ=>te σ λd=>fd.length<=100/\f∉fd.map (·.1)/\r Q (fd++[(f,d)]) σ
def xU(c:SN X.K C)(Up:nG X.K C f)(ho:PE X o (pU 0))(hv:gG X value te)(h2:PNt X C fK r)(hs:gX value (some (.Attribute o f o9)) pos.line X.env=pure false:=by rfl) :
  PNt X C (.Assign [.Attribute o f o9] value pos::fK) (aK2 f te r):=by
 obtain⟨vv,pv,rv⟩:=hv;obtain⟨v2,p2,r2⟩:=h2;refine⟨_,tO (aEu ho pv hs) p2,λB p0 H ps σT σ p dx fs fd Q DV o hn h0 hp hB hi hk rs h k=>?_⟩;refine rv B p0 H ps σT σ _ _ o h λd y H1 s1 r1 q1=>⟨.ref p,h0,p,C,dx,fs,rfl,s1 _ _ hi,c,Up,?_,?_⟩
 ·have:=i6 gO hk;rw[aB,aB]at this;have:=q1.1;omega
 ·have hf:f∉fs.map (·.1):=by rw[hk];exact q1.2.1
  have o2:=(o.grow s1).pokeI (u:=.ins C dx (qM f y fs)) hp hB (s1 _ _ hi) hn;have hm:mask (fM H1 p (.ins C dx (qM f y fs))) ps=mask H1 ps:=iA hp;refine r2 B p0 _ ps σT σ p dx (qM f y fs) (fd++[(f,d)]) Q DV o2 hn h0 hp hB cM ?_ ?_ q1.2.2 k
  ·rw[BS hf,bV,bV,hk];rfl
  ·rw[hm,BS hf,bV,bV];exact(rs.same (bT s1)).append (.cons r1 .nil)
def fnI{P w K}{mg:Str->Option Value}{base x qual st}{f:Addr}{fd:kF}{N pn:List Str}{k:Nat}{sp:SpI}{ns}(F:SM K x qual st f fd)(S:cR N pn (bQ st))
  (dy:∀{cr}{A:i5}{outer}{s:Shared}{H E},Room k (A.deeper (o7 qual (bQ st) s.heap.objs.size f cr))->N.Nodup->∀(z:D)(ds:List D)(Q:List D->Prop),sp ds Q ->
   ∃t,PNt (uC jW P w K mg base N qual (bQ st) f cr A outer s H E).nox C (mJ st) t/\t (λfd=>fd.map (·.1)=ns/\Q (fd.map (·.2))) [] (lK N (z::ds))) (len:∀ds Q,sp ds Q->ds.length+1=pn.length:=by intro ds Q h;(repeat obtain⟨_,h⟩:=h)<;>subst_vars<;>rfl):eK P w K mg base jW (k+1) f fd pn (A3 C ns K sp):=by
 refine F.ok S (λvs H Q E h=>?_) λcr A outer s H vs Q E hr h=>?_
 ·obtain⟨x,dx,fK,ps,ds,QD,rfl,_,_,_,r,q,_⟩:=h;rw[cH,<- r.length];exact len ds QD q
 ·obtain⟨x,dx,fK,ps,ds,QD,rfl,hx,hi,live,r,q,k⟩:=h;obtain⟨t,⟨ts,p,rd⟩,h⟩:=dy hr S.nd (.dict [(.str "@",.list [.int (x:Nat)])]) ds QD q;have o0:Ok K H ps H ps (lK N (.dict [(.str "@",.list [.int (x:Nat)])]::ds)) (L2.pY N (.ref x::fK)):=qU live (.cons (.addr []) r);refine⟨ts,p,rd (mask H [x]) ps H ps _ _ x dx [] [] _ _ (o0.less bP) HZ rfl hx (b9 (aS ..)) hi rfl .nil h λH' Gw Jx s' yt gw Wk q'=>?_⟩;exact k _ Gw H' s' yt (gw.trans q'.1) Wk q'.2
def aLq(C:Addr)(ns:List Str)(sp:SpI)(t:AT):ET:=λσ Q=>t σ λds=>sp ds λfs=>Q (MC C ns fs)
def GQ{ns sp x p t}(ha:yQ X (e::es) t)(pc:∀{ta},PA X (e::es) ta->PE X (.Call (.Name x p) (e::es) [] pos) (aB5 C (A3 C ns X.K sp) [] E0 ta)):gG X (.Call (.Name x p) (e::es) [] pos) (aLq C ns sp t):=by
 obtain⟨v,pa,ra⟩:=ha;refine⟨_,pc pa,λB p0 H ps σT σ Q QV o h k=>ra B p0 H ps σT σ _ _ o h λds xs H1 s1 r1 q1=>λx dx hx Fl al=>?_⟩;show A3 C ns X.K sp (.ref x::(xs++[])) _ _ E0;rw[dP];have live:=(o.grow s1).live;have Nh:x∉ps:=fE live hx;have Rr:fM H1 dx (.own x) x=none:=by rw[cI (l8 al)];exact hx
 have hm:mask (fM (fM H1 dx (.own x)) x (.ins C dx [])) (x::ps)=mask (fM H1 dx (.own x)) ps:=lL Rr;refine⟨x,dx,xs,x::ps,ds,_,rfl,aS ..,cM,λq hq=>?_,?_,q1,λKx fs H' s' Et cg rs qf=>⟨rfl,?_⟩⟩
 ·by_cases e:q=x
  ·subst e;rw[cM];exact⟨_,rfl,rfl⟩
  ·rw[cI e];rcases bE.mp hq with z | z
   ·exact d8 z e
   ·by_cases e2:q=dx
    ·subst e2;rw[cM];exact⟨_,rfl,rfl⟩
    ·rw[cI e2];exact live q z
 ·rw[hm];exact r1.same (bT (dL Fl))
 ·subst cg;refine k _ _ H' (s1.trans λb u eb=>s' b u ?_) (.ins (kK Nh Et) (rs.same (kQ λq hq=>aO _ hq))) qf;have nx:b≠x:=λz=>by rw[z,hx]at eb;cases eb
  have nd:b≠dx:=λz=>by rw[z,Fl]at eb;cases eb
  unfold mask;rw[b8 (by simpa using nx),cI nx,cI nd];exact eb
end
section
variable{X:Cx}
def gP4(i j k l:Nat):GT:=λd σ Q=>∃a b c e,d=.tuple [a,b,c,e]/\Q ((((σ.set i (.val a)).set j (.val b)).set k (.val c)).set l (.val e))
def GO{i j k l:Nat}{t}(h:PG X t (aAr X.K 4 (wG (kG i) (wG (kG j) (wG (kG k) (wG (kG l) aAs)))))):FK X t (gP4 i j k l):=
 ⟨_,h,λB p0 H ps σT σ d v Q QV o r h k=>by
  obtain⟨a,b,c,e,rfl,h⟩:=h
  cases r with
  |@tuple p xs _ hq r=>
   cases r with
   |cons ra r=>
    cases r with
    |cons rb r=>
     cases r with
     |cons rc r=>
      cases r with
      |cons re r=>
       cases r;exact⟨_,_,rfl,bJ.seqT bP hq,rfl,_,_,rfl,_,_,rfl,_,_,rfl,_,_,rfl,rfl,k _ _ ((((o.set ra).set rb).set rc).set re) (λn=>kX (kX (kX (kX n _ _) _ _) _ _) _ _) h⟩⟩
end
end TL
namespace L2
open TL
noncomputable def aMd(K:aI)(l:Addr)(n:Nat):It:=
 ⟨λi H=>i<n/\∃xs,mN K H l xs/\xs.length=n,λi H v H'=>H'=H/\∀xs,mN K H l xs->xs[n-1-i]?=some v,λi _=>n<=i⟩
def SY{P w K tg}(it l:Addr)(n:Nat):D2 P w K tg (aMd K l n) [it] it (λi h=>i<=n/\h.IsRevIter it l ((n:Int)-1-(i:Int))) where
 mem:=by simp
 obj:=λi h st b hb=>by
  have e:b=it:=by simpa using hb
  subst e;obtain⟨_,o,e,c,d⟩:=st;exact⟨o,e,λv z=>by rw[d]at z;cases z⟩
 keep:=λi h h' st k=>⟨st.1,st.2.at λo x=>k it (by simp) o x⟩
 item:=by
  intro X hP hw hK hc i b7 s σ H E I hf st hg;subst hP hw hK;obtain⟨hi,xs,hq,hn⟩:=hg;obtain⟨vi,cf⟩:=st;obtain⟨its,rv,p,hz⟩:=I.list hq;obtain⟨f0,f1,f2,f3,f4,f5⟩:=hf it (by simp);have hx:xs[n-1-i]?=some (xs[n-1-i]'(by omega)):=aG (by omega);obtain⟨u,hu,ru⟩:=rv.get hx;have e:(n:Int)-1-(i:Int)=((n-1-i:Nat):Int):=by omega
  rw[e]at cf;refine wpAny_pyNext_rev_item cf p.isList (x:=u) (by simpa using hu) λh' kc sb=>?_;have I1:dS X b7 σ H { s with heap:=h' }:=I.turned (t':=s.toks) (λb o hb e=>(sb.2 b hb).trans e) f0 f1 f3 f4 f5;have e2:((n-1-i:Nat):Int)-1=(n:Int)-1-((i+1:Nat):Int):=by omega
  rw[e2]at kc;obtain⟨o',e',c',d'⟩:=id kc;exact⟨_,rfl,E8 (s:={ s with heap:=h' }) e' c' d' (by decide) ⟨_,H,I1,ru,⟨rfl,λys hy=>by rw[I.list_inj hy hq];exact hx⟩,⟨by omega,kc⟩,λb hb=>(hf b hb).1⟩⟩
 done:=by
  intro X hP hw hK hc i b7 s σ H E I hf st hg;subst hP hw hK;obtain⟨vi,cf⟩:=st;have hi:i=n:=aDt vi hg;subst hi;obtain⟨f0,f1,f2,f3,f4,f5⟩:=hf it (by simp);have e:(i:Int)-1-(i:Int)=-1:=by omega
  rw[e]at cf;exact wpAny_pyNext_rev_end (I.ok.hd hc) cf λh' eb=>⟨rfl,I.turned (t':=s.toks) (λb o hb e=>eb b o hb e) f0 f1 f3 f4 f5⟩
 self:=λ_ _ _ _ _ st h=>Cq st.2 h
def D0:i0 "reversed"=some (.type "reversed"):=by decide +kernel
def WD(K:aI)(ta:TA):TI:=λσ H R=>ta σ H λvs H1=>∃l xs,vs=[.ref l]/\mN K H1 l xs/\R (aMd K l xs.length) H1
section
variable{X:Cx}{tg:Expr}
def UH{a ta p pos}(hg:Gl X "reversed")(hm:X.mg "reversed"=none)(ha:PA X [a] ta)(hs:bS [a] X.env=[(false,eval a X.env)]:=by rfl) :
  PI X tg (.Call (.Name "reversed" p) [a] [] pos) (WD X.K ta):=by
 intro b7 s σ H R I h;refine Call_ (wX I hg hm D0 (o6 (iZ (ha pos b7 s σ H _ I h) λus s1 zq=>?_) (by rw[hs];rfl) (by rfl)));obtain⟨vs,H1,I1,r1,q1⟩:=zq;obtain⟨l,xs,rfl,hq,q⟩:=q1
 cases r1 with
 |cons r rr=>
  cases rr;cases r;obtain⟨Wt,Nw,p1,Dj⟩:=I1.list hq;have hl:=Nw.length;refine call_reversed_list p1.isList ?_;have cf:(s1.heap.push (revObj l ((Wt.toArray.size:Int)-1))).IsRevIter s1.heap.objs.size l ((xs.length:Int)-1-((0:Nat):Int)):=⟨_,aW _ rfl,rfl,by rw[hl];simp[revObj]⟩;refine Cq (s:={ s1 with heap:=_ }) cf ?_;refine⟨s1.heap.objs.size,[s1.heap.objs.size],_,_,H1,rfl,I1.kept (t':=s1.toks) λb o e=>aK _ e,SY _ l xs.length,⟨cL _,cf⟩,λb hb=>?_,q⟩;have e:b=s1.heap.objs.size:=by simpa using hb
  subst e;exact I1.fpOk (aL _) (I1.hok.fresh (aL _))
end
noncomputable def Itm(p:Addr)(es:List (Int×Addr×V))(ep:Nat):It:=⟨λi H=>H p=some (sI p es ep)/\i<es.length,λi H x H'=>∃q e,H q=none/\x=.ref q/\H'=fM H q (.tup [.ref e.2.1,e.2.2])/\es[i]?=some e,λi H=>H p=some (sI p es ep)/\es.length<=i⟩
def WL{prog w A}{E:Value->Shared->Prop}{s:Shared}{elts}{z:Nat}{pos}{it d:Addr}{i n ep:Nat}{x1 k v}{u:Addr}{Q:Unit->Shared->Prop}(cf:yI s.heap it d i n ep (u0 u) x1 k v)
  (hQ:∀h',yI h' it d i n ep .none x1 k v->eG it s.heap h'->Q () { s with heap:=h' }):wpAny (model prog w) A (v3 (.Tuple elts z pos) (.ref it) (.ref u)) Q E s:=by
 unfold v3;refine aA (ub cf ?_);show wpAny _ _ (if(["enumerate","zip","dict_itemiterator","dict_reverseitemiterator","odict_iterator","itertools.zip_longest","itertools.pairwise"].contains "dict_itemiterator"&&(MA d i n ep (u0 u) x1 k v)[0]?==some (u0 u))=true then _ else _) Q E s;rw[b9 (by simp[MA])];refine aA (ik ?_);show wpAny _ _ (me (.ref it) 0 .none) Q E s;exact u4 cf (by simp[MA]) λh' vf fy=>hQ h' vf fy
def K0{P w K elts}{z:Nat}{pos}(p it:Addr)(es:List (Int×Addr×V))(ep:Nat):D2 P w K (.Tuple elts z pos) (Itm p es ep) [it] it (λi h=>∃(f:Bool)(k v:Value),yI h it p i es.length ep .none (.bool f) k v) where
 mem:=by simp
 obj:=λi h st b hb=>by
  have e:b=it:=by simpa using hb
  subst e;obtain⟨f,k,v,e⟩:=st;exact⟨_,e,λv z=>by cases z⟩
 keep:=λi h h' st kk=>by
  obtain⟨f,k,v,e⟩:=st;exact⟨f,k,v,kk it (by simp) _ e⟩
 item:=by
  intro X hP hw hK hc i b7 s σ H E I hf st hg;subst hP hw hK;obtain⟨hp,hi⟩:=hg;obtain⟨f,k,v,cf⟩:=st;obtain⟨⟨h1,h2,o,xs,h3,h4,h5,h6⟩,_⟩:=I.hok p _ hp;have hsz:es.length=xs.size:=by rw[<- bB];exact i9 h6
  have Bv:i<xs.size:=by omega
  rw[hsz]at cf;have Hm:it<s.heap.objs.size:=bG cf;refine L8 cf ⟨.inl rfl,_,rfl⟩ ⟨o,h3,h5⟩ Bv λh' y0 y1 k' v' vg Tk hy ht hz Uc=>⟨_,rfl,?_⟩;obtain rfl:=hy rfl;obtain⟨_,f',rfl⟩:=Tk;refine WL (s:={ s with heap:=h' }) vg λuw Hl sb=>?_
  have kk:∀c o,c∉[it]->s.heap.get? c=some o->uw.get? c=some o:=λc o hc' x=>by
   have rz:c≠it:=by simpa using hc'
   exact sb.extBut _ _ rz (Uc c o rz x)
  obtain⟨en,e1,e2⟩:=CH (j:=i) (d:=xs[i]) h6 (by simp[Bv]);have hT:=sb.extBut _ _ (jU Hm) ht;have I1:dS X b7 σ (fM H s.heap.objs.size (.tup [.ref en.2.1,en.2.2])) { s with heap:=uw }:=I.turnedNew (t':=s.toks) hf kk (aL _) ⟨(by show 2<=bM;decide),[xs[i].key,xs[i].val],.cons e2.2.1 (.cons e2.2.2 .nil),⟨_,hT,rfl,_,rfl,rfl⟩⟩;rw[<- hsz]at Hl;refine⟨.ref s.heap.objs.size,_,I1,rfl,⟨_,en,I.hok.fresh (aL _),rfl,rfl,e1⟩,⟨f',k',v',Hl⟩,λc hc'=>?_⟩;have e:c=it:=by simpa using hc'
  subst e;rw[cI (bZ Hm)];exact(hf c hc').1
 done:=by
  intro X hP hw hK hc i b7 s σ H E I hf st hg;subst hP hw hK;obtain⟨hp,hi⟩:=hg;obtain⟨f,k,v,cf⟩:=st;obtain⟨⟨h1,h2,o,xs,h3,h4,h5,h6⟩,_⟩:=I.hok p _ hp;have hsz:es.length=xs.size:=by rw[<- bB];exact i9 h6
  obtain⟨f0,f1,f2,f3,f4,f5⟩:=hf it (by simp);rw[hsz]at cf;exact RG (I.ok.hd hc) cf ⟨o,h3,h5⟩ (by omega) λh' eb=>⟨rfl,I.turned (t':=s.toks) (λb o hb e=>eb b o hb e) f0 f1 f3 f4 f5⟩
 self:=λ_ i _ _ _ st h=>by
  obtain⟨f,k,v,e⟩:=st;have hT:ae _ (.ref it) "dict_itemiterator":=⟨_,e,rfl⟩;refine mh hT wL (fA wL hT PySem.W.kcp_entry ?_ (PySem.F.args_dict_itemiterator_iter_1 _));show wpAny _ _ (ret (.ref it)) _ _ _;exact aF ⟨_,rfl,"dict_itemiterator",_,hT,eY.lookup,h⟩
section
variable{X:Cx}
def aJr(R:It->Hp->Prop):VK:=λy H2=>∃(v p:Addr)(es:List (Int×Addr×V))(ep:Nat),y=.ref v/\H2 v=some (D7 v p)/\H2 p=some (sI p es ep)/\R (Itm p es ep) H2
def aK6(tl:TE):TI:=λσ H R=>tl σ H λx H1=>∃(p:Addr)(es:List (Int×Addr×V)),x=.ref p/\C3 H1 p es/\∀v,H1 v=none->aJr R (.ref v) (fM H1 v (D7 v p))
def UI{l tl elts}{z:Nat}{Cm ap cp:Pos}(hl:PE X l tl)(kq:bb l "items" X.env (eval l X.env)=eval l X.env:=by rfl)(kr:(ap.endLine==cp.line)=true:=by rfl) :
  PI X (.Tuple elts z Cm) (.Call (.Attribute l "items" ap) [] [] cp) (aK6 tl):=by
 intro b7 s σ H R I h;refine iZ (QT hl kq kr b7 s σ H (aJr R) I h) λv s1 zq=>?_;obtain⟨x,H1,I1,r1,q1⟩:=zq;obtain⟨vw,p,es,ep,rfl,hv,hp,q⟩:=q1;obtain rfl:v=e8 vw:=r1;obtain⟨⟨h1,h2,o,xs,h3,h4,h5,h6⟩,_⟩:=I1.hok p _ hp;have hsz:es.length=xs.size:=by rw[<- bB];exact i9 h6
 refine L9 (I1.hok vw _ hv).1 ⟨o,h3,h5⟩ ?_;refine⟨s1.heap.objs.size,[s1.heap.objs.size],_,_,H1,rfl,I1.kept (t':=s1.toks) λb o e=>aK _ e,K0 p _ es ep,⟨false,.none,.none,by rw[hsz];exact aW _ rfl⟩,λb hb=>?_,q⟩;have e:b=s1.heap.objs.size:=by simpa using hb
 subst e;exact I1.fpOk (aL _) (I1.hok.fresh (aL _))
end
section
variable{prog:bX}{w:g7}{A:i5}{E:Value->Shared->Prop}{s:Shared}
def G5{d:Addr}{xs:Array u8}{ep:Nat}{Q:Value->Shared->Prop}(hd:(d==l3)=false)(hm:KD s.heap d xs ep)(Tg:(xs.size:Int)<2^63)
  (h:Q (.int xs.size (s.toks+1)) { s with toks:=s.toks+1+1 }):wpAny (model prog w) A (call (.builtin "len") [.ref d]) Q E s:=by
 obtain⟨o,ho,hc,mz⟩:=hm;have hT:s.TypeIs (.ref d) "dict":=⟨o,ho,hc.1⟩
 have Ed:MeetsIn prog w (fi.«dict.__len__» ⟨[.ref d],[]⟩) (λ_ R s=>(∃o,s.heap.get? d=some o/\o.data=.dict xs ep)/\R (.ok (.ret (.int xs.size s.toks))) { s with toks:=s.toks+1 }):=
  .of_wp λA R s ⟨⟨o,ho,mz⟩,h⟩=>by
   show wpAny _ _ (dictSize d >>= _) _ _ s;unfold dictSize;refine aA (aA (v6 ho mz (aF ?_)));show wpAny _ _ (Builtin.Dict.pendingCount d >>= _) _ _ s;refine aA (wpAny_pendingCount_other hd ?_);refine qe ?_;rw[NG];exact h
 refine Calls.call_function_entry PySem.kind_len PySem.plain_len PySem.entry_len (PySem.args_len1 _) ?_;unfold fi.«len»;refine aA (m:=oneArg "len" _) (aF ?_)
 refine aA (m:=callSpecial? (.ref d) (u5 "__len__")) (l4 (name:=u5 "__len__") hT HK
  (call_meetsIn HK hT PySem.F.entry_dict_len (PySem.F.args_dict_len_1 _) Ed ⟨⟨o,ho,mz⟩,?_⟩))
 show wpAny _ _ _ _ _ { s with toks:=s.toks+1 };refine aA (r8 (aF ?_));refine aA (Co ?_);show wpAny _ _ (if((xs.size:Nat):Int)<0 then _ else _) _ _ _;rw[b8 (by omega)];show wpAny _ _ (if((xs.size:Nat):Int)>=2^63 then _ else _) _ _ _;rw[b8 (by omega)];exact aA (wpAny_mkInt (aF ⟨_,rfl,h⟩))
end
section
variable{X:Cx}
def vH:kB X (.builtin "len") (λxs H Q=>∃(p:Addr)(es:List (Int×Addr×V)),xs=[.ref p]/\C3 H p es/\Q (.int es.length) H):=by
 intro b7 s σ H xs us Q I r h;obtain⟨p,es,rfl,hp,hQ⟩:=h;obtain⟨u,rfl,rx⟩:=nX r;cases rx;obtain⟨h1,h2,o,ds,ep,h3,h4,h5,h6⟩:=C3.at I hp;have hsz:es.length=ds.size:=by rw[<- bB];exact i9 h6
 have hL:bM=2^24:=rfl;refine G5 h1 ⟨o,h3,h4,h5⟩ (by omega) ?_;rw[<- hsz];exact⟨.int _,H,I.tok _,⟨_,rfl⟩,hQ⟩
end
section
variable{X:Cx}{o i value:Expr}{pos o9:Pos}{td ty tv:TE}
def aEl(K:aI)(w:g7)(td ty tv:TE):TS:=λD' σ H=>tv σ H λv H1=>td σ H1 λx H2=>ty σ H2 λy H3=>∃(p a:Addr)(es:List (Int×Addr×V))(ks:List D)(k:D)(ep:Nat),x=.ref p/\y=.ref a/\H3 p=some (sI p es ep)/\DK K w H3 es ks/\fW K H3 k (.ref a)/\iV k/\es.length<bM/\D'.nx σ (fM H3 p (kM p (oU w es ks k a v)))
def UF(hu:X.A.units+9<m4)(ho:PE X o td)(hi:PE X i ty)(hv:PE X value tv)(hs:gX value (some (.Subscript o i o9)) pos.line X.env=pure false) :
  PS X (.Assign [.Subscript o i o9] value pos) (aEl X.K X.w td ty tv):=by
 intro b7 s σ H D' I h;refine ii (iZ (hv b7 s σ H _ I h) λr s1 ⟨v,H1,I1,rv,q1⟩=>iZ (ho b7 s1 σ H1 _ I1 q1) λu s2 ⟨x,H2,I2,rx,q2⟩=>iZ (hi b7 s2 σ H2 _ I2 q2) λiv s3 zq=>?_) hs;obtain⟨y,H3,I3,ry,p,a,es,ks,k,ep,ex,ey,hp,dk,rk,ok,hl,q3⟩:=zq;subst ex ey;obtain rfl:u=e8 p:=rx;obtain rfl:iv=e8 a:=ry;obtain⟨h1,h2,xs,x1,x2⟩:=zD I3 (.inr ⟨ep,hp⟩) dk;refine lc (hsz:=by rw[<- i9 x1.2];exact h2) (show X.A.units+1+8<m4 by omega) (wY I3 rk ok) x2 λh' qj fy=>⟨σ,_,?_,q3⟩;have hq:∃q,h'.get? p=some q:=let ⟨q,_,_,e,_⟩:=qj;⟨q,e⟩
 have:=BT (w:=X.w) (k:=k) (a:=a) (v:=v) dk.len;exact I3.write (x:=p) (e:=p) (by rw[hp];exact i8) (.inl rfl) (λb q hb z=>(fy.2 b hb).trans z) hq (MP (ks:=xQ ks k) h1 (by omega) (MK x1 rv) (dk.put rk ok).hs qj)
def UD{st}{ts:TS}(p:PS X st ts):PS X st (λDV σ H=>∃(a:Addr)(es:List (Int×Addr×V)),H a=some (kM a es)/\∀ep,ts DV σ (fM H a (sI a es ep))):=by
 intro b7 s σ H D I ⟨a,es,ha,h⟩;obtain⟨⟨h1,h2,o,xs,ep,h3,h4,h5,h6⟩,_⟩:=I.hok a _ ha;refine p b7 s σ _ D ?_ (h ep);exact I.write (x:=a) (e:=a) (h':=s.heap) (t':=s.toks) (by rw[ha];exact i8) (.inl rfl) (λb u _ z=>z) ⟨o,h3⟩ (show iE X.prog X.w _ _ _ (sI a es ep)from⟨⟨h1,h2,o,xs,h3,h4,h5,h6⟩,⟨o,h3⟩,λh1 h2 ⟨a,b,o,xs,e,r⟩ k=>⟨a,b,o,xs,k _ e,r⟩⟩)
end
end L2
namespace TL
open L2
section
variable{K:aI}{H H':Hp}
def aEb{a:Addr}{xs}(e:∀b o,H b=some o->(∃φ,o=HO.ext φ)\/H' b=some o)(h:mN K H a xs):mN K H' a xs:=by
 rcases h with(h | ⟨o,h⟩) | h
 ·rcases e _ _ h with⟨_,z⟩ | z
  ·cases z
  ·exact .inl (.inl z)
 ·rcases e _ _ h with⟨_,z⟩ | z
  ·cases z
  ·exact .inl (.inr ⟨o,z⟩)
 ·exact .inr h
def YY{a:Addr}{xs}(e:∀b o,H b=some o->(∃φ,o=HO.ext φ)\/H' b=some o)(h:vL K H a xs):vL K H' a xs:=by
 rcases h with(h | ⟨o,h⟩) | h
 ·rcases e _ _ h with⟨_,z⟩ | z
  ·cases z
  ·exact .inl (.inl z)
 ·rcases e _ _ h with⟨_,z⟩ | z
  ·cases z
  ·exact .inl (.inr ⟨o,z⟩)
 ·exact .inr h
mutual
theorem fW.nd(e:∀b o,H b=some o->(∃φ,o=HO.ext φ)\/H' b=some o):∀{d:D}{v:V},d.hasDict=false->fW K H d v->fW K H' d v
|_,_,_,.none=>.none
|_,_,_,.bool b=>.bool b
|_,_,_,.int i=>.int i
|_,_,_,.str x=>.str x
|_,_,h,.list q r=>.list (aEb e q) (Reps.nd e (by simpa only[eN]using h) r)
|_,_,h,.tuple q r=>.tuple (YY e q) (Reps.nd e (by simpa only[eN]using h) r)
|_,_,h,.wild _=>by simp[eN]at h
|_,_,h,.exc _ _=>by simp[eN]at h
|_,_,h,.excA _ _ _=>by simp[eN]at h
|_,_,h,.excD _ _ _ _=>by simp[eN]at h
|_,_,h,.tape _ _=>by simp[eN]at h
|_,_,h,.dct _ _ _ _=>by simp[eN]at h
|_,_,h,.addr _=>by simp[eN]at h
|_,_,h,.ins _ _=>by simp[eN]at h
theorem Reps.nd(e:∀b o,H b=some o->(∃φ,o=HO.ext φ)\/H' b=some o):∀{ds:List D}{vs:List V},iR ds=false->Reps K H ds vs->Reps K H' ds vs
|_,_,_,.nil=>.nil
|_,_,h,.cons r s=>by
 simp only[iR,P8]at h;exact .cons (fW.nd e h.1 r) (Reps.nd e h.2 s)
end
end
section
variable{X:Cx}{a b e n:Expr}{es:List Expr}{ta te tk:ET}{pos:Pos}
def aK4(t:AT):IT:=λσ Q=>t σ λds=>∃as,ds=[.list as]/\Q as.reverse
def aFw{tg t p p'}(ha:yQ X [a] t)(pz:∀{ta},PA X [a] ta->PI X tg (.Call (.Name "reversed" p) [a] [] p') (WD X.K ta)):D3 X tg (.Call (.Name "reversed" p) [a] [] p') (aK4 t):=by
 obtain⟨va,pa,ra⟩:=ha;refine⟨_,pz pa,λB p0 H ps σT σ Q R o h k=>ra B p0 H ps σT σ _ _ o h λds xs H1 s1 r1 q1=>?_⟩;obtain⟨as,rfl,q⟩:=q1
 cases r1 with
 |cons r1 r2=>
  cases r2
  cases r1 with
  |@list p1 us _ hq1 rs1=>
   have n1:=rs1.length;refine⟨p1,us,rfl,L2.bJ.seq bP hq1,k _ _ H1 s1 ⟨λi H e hl=>?_,λi H e hl=>?_,λi H m3 y H' live e hl hy=>?_⟩ q⟩
   ·rw[pQ]at hl;show us.length<=i;omega
   ·rw[pQ]at hl;exact⟨by omega,us,L2.bJ.seq e hq1,rfl⟩
   ·obtain⟨rfl,h1⟩:=hy;obtain⟨d1,g1,t1⟩:=rs1.get' (h1 us (L2.bJ.seq (e.trans bP) hq1));rw[pQ]at hl;refine⟨L2.bJ.refl _,d1,?_,t1.same e⟩;rw[vR hl,n1];exact g1
def aFy(w:g7)(te:ET):IT:=λσ Q=>te σ λd=>∃kvs,d=mD w kvs/\Q (kvs.map λkv=>.tuple [kv.1,kv.2])
def V4{elts}{z:Nat}{Cm ap cp}(he:gG X e te)(pz:∀{v},PE X e v->PI X (.Tuple elts z Cm) (.Call (.Attribute e "items" ap) [] [] cp) (aK6 v)):D3 X (.Tuple elts z Cm) (.Call (.Attribute e "items" ap) [] [] cp) (aFy X.w te):=by
 obtain⟨ve,pe,re⟩:=he;refine⟨_,pz pe,λB p0 H ps σT σ Q R o h k=>re B p0 H ps σT σ _ _ o h λd x H1 s1 r1 q1=>?_⟩;obtain⟨kvs,rfl,q⟩:=q1;obtain⟨p,es,ep,rfl,h1,h2,h3,h4,h5⟩:=uT r1;have hp:=bP _ _ h1;have live:=(o.grow s1).live;refine⟨p,es,rfl,.inr ⟨ep,hp⟩,λvw Nd=>⟨vw,p,es,ep,rfl,cM,(by rw[cI (fL hp Nd)];exact hp),k _ _ _ (s1.trans (dL Nd)) ?_ q⟩⟩;have Hy:=bT (ps:=ps) (dL (o:=D7 vw p) Nd)
 have o8:kvs.length=es.length:=by
  have:=i6 gO h2;simpa using this
 refine⟨λi H e hi=>⟨e _ _ (Hy _ _ h1),by rw[aB]at hi;omega⟩,λi H e hi=>⟨e _ _ (Hy _ _ h1),by rw[aB]at hi;omega⟩,λi H qs y H' Ip e hi hy=>?_⟩;obtain⟨q,en,hq,rfl,rfl,e1⟩:=hy;rw[aB]at hi;have k1:kvs[i]?=some kvs[i]:=aG hi;have ms:=Hy.trans e;obtain⟨x1,y1,y2⟩:=(h4.same ms).get (i:=i) (d:=kvs[i].1) (by rw[aH,k1];rfl);obtain⟨x2,z1,z2⟩:=(h5.same ms).get (i:=i) (d:=kvs[i].2) (by rw[aH,k1];rfl);rw[aH,e1]at y1 z1;cases y1;cases z1;exact⟨dL hq,_,by rw[aH,k1];rfl,rN Ip hq (.cons y2 (.cons z2 .nil))⟩
def aGb(i:Nat):ET:=λσ Q=>∃hs kvs,σ[i]?=some (.dic hs kvs)/\Q (.int (kvs.length:Nat))
def yB{i:Nat}{g}(pc:PE X (.Call g [n] [] pos) (NN (λxs H Q=>∃(p:Addr)(es:List (Int×Addr×V)),xs=[.ref p]/\C3 H p es/\Q (.int es.length) H) (nY (pU i) xJ))):gG X (.Call g [n] [] pos) (aGb i):=by
 refine⟨_,pc,λB p0 H ps σT σ Q QV o h k=>?_⟩;obtain⟨hs,kvs,hi,q⟩:=h;obtain⟨⟨p,es,jc,x⟩,u⟩:=o.isDic hi
 have hl:es.length=kvs.length:=by
  have:=x.vs.length;simpa using this.symm
 exact⟨.ref p,jc,p,es,rfl,.inl x.obj,k _ _ H (L2.bJ.refl H) (by rw[hl];exact .int _) q⟩
def LC(w:g7)(i:Nat)(tk tv:ET):rE:=λDT σ=>∃kvs,σ[i]?=some (oA w kvs)/\tv (σ.set i (.val (mD w kvs))) λv=>v.hasDict=false/\tk (σ.set i (.val (mD w kvs))) λk=>xH k/\(∀kv∈kvs,iV kv.1)/\kvs.length<=100000/\DT.nx (σ.set i (oA w (sY kvs k v)))
def tH{i:Nat}{p2 value tv}(hu:X.A.units+9<m4)(hn:PE X n (pU i))(gw:gG X e tk)(hv:gG X value tv)(hs:gX value (some (.Subscript n e p2)) pos.line X.env=pure false:=by rfl) :
  sT X (.Assign [.Subscript n e p2] value pos) (LC X.w i tk tv):=by
 obtain⟨vv,Iz,rv⟩:=hv;obtain⟨vk,pk,rk⟩:=gw;refine⟨_,UD (UF hu hn pk Iz hs),λB p0 H ps σT σ DT DV o h f=>?_⟩;obtain⟨kvs,hi,h⟩:=h;obtain⟨p,es,jc,x,hsh⟩:=o.shareD hi;obtain⟨_,u⟩:=o.isDic hi;refine⟨p,es,x.obj,λep=>?_⟩;obtain⟨o1,s0⟩:=hsh ep;refine rv B p0 _ _ _ σ _ _ o1 h λv y H1 s1 r1 q1=>⟨.ref p,jc,?_⟩;obtain⟨Vk,q1⟩:=q1;refine rk B p0 H1 _ _ σ _ _ (o1.grow s1) q1 λk z H2 s2 r2 q2=>?_;obtain⟨⟨jh,ys,rfl⟩,hok,o8,q⟩:=q2;obtain⟨a,rfl⟩:=mO r2;have yi:=s1.trans s2;have Fp:H2 p=some (sI p es ep):=yi _ _ cM
 -- the dict is the def's own again
 have gf:∀b u,mask H2 (ps.filter λq=>decide (q≠p)) b=some u->(∃φ,u=HO.ext φ)\/mask (fM H2 p (kM p es)) ps b=some u:=λb u hb=>by
  by_cases e:b=p
  ·subst e;have:=bP _ _ hb;rw[Fp]at this;cases this;exact .inl ⟨_,rfl⟩
  ·refine .inr ?_;unfold mask at hb |-
   by_cases Cu:b∈ps
   ·rw[b9 (bN.mpr ⟨Cu,d7 e⟩)]at hb;cases hb
   ·rw[b8 λz=>Cu (bN.mp z).1]at hb;rw[b8 Cu,cI e];exact hb
 have sO:bJ H (fM H2 p (kM p es)):=λb u hb=>by
  by_cases e:b=p
  ·subst e;rw[cM,<- hb];exact x.obj.symm
  ·rw[cI e];exact yi _ _ (by rw[cI e];exact hb)
 have o2:=o.grow sO;have hm:=bT (ps:=ps) sO;have Nm:=x.ks.same hm;have Ob:=x.vs.same hm;have Kr:fM H2 p (kM p es) p=some (kM p es):=cM;have Jm:=pA (w:=X.w) x.hsh x.nd hok Nm
 have hl:es.length=kvs.length:=by
  have:=i6 gO x.hsh;simpa using this.symm
 have hL:bM=2^24:=rfl;have Wi:fW X.K (mask (fM H2 p (kM p es)) ps) (.tuple ys) (.ref a):=r2.nd gf (nB (wZ jh.1));have Kt:fW X.K (mask (fM H2 p (kM p es)) ps) v y:=(r1.same (bT s2)).nd gf Vk;have xa:=Jm.put (v:=y) Wi jh;have Ri:DK X.K X.w H2 es (kvs.map (·.1)):=pA (w:=X.w) x.hsh x.nd hok ((x.ks.same s0).same ((bT yi).trans bP));refine⟨p,a,es,kvs.map (·.1),_,ep,rfl,rfl,Fp,Ri,r2.same bP,jh,by omega,?_⟩
 have eU:fM H2 p (kM p (oU X.w es (kvs.map (·.1)) (.tuple ys) a y))=fM (fM H2 p (kM p es)) p (kM p (oU X.w es (kvs.map (·.1)) (.tuple ys) a y)):=by
  funext b;by_cases e:b=p
  ·subst e;rw[cM,cM]
  ·rw[cI e,cI e,cI e]
 rw[eU];obtain⟨o3,Dk⟩:=o2.forget (i:=i) hi;have o4:=o3.poke (u:=kM p (oU X.w es (kvs.map (·.1)) (.tuple ys) a y)) x.mem x.new Kr Dk;have vj:mask (fM (fM H2 p (kM p es)) p (kM p (oU X.w es (kvs.map (·.1)) (.tuple ys) a y))) ps=mask (fM H2 p (kM p es)) ps:=iA x.mem
 have o5:=o4.toDic (i:=i) (es:=oU X.w es (kvs.map (·.1)) (.tuple ys) a y) (hs:=(sY kvs (.tuple ys) v).map λkv=>dW X.w kv.1) (kvs:=sY kvs (.tuple ys) v) jc (λj hs ky _=>Dk j hs ky)
  ⟨x.mem,x.new,x.out,cM,?_,?_,?_,?_⟩
 ·rw[zY]at o5;exact f.nx _ ps _ σ o5 (by rw[vj];exact hm) q
 ·rw[xa.hs,<- oY kvs _ v,bH];rfl
 ·rw[oY];exact xa.nd
 ·rw[vj,oY];exact xa.rep
 ·rw[vj];exact HQ _ Ob Kt
end
structure mM where
 p:Addr
 q:Addr
 ns:List Int
 b:Bool
noncomputable def HV(T:mM)(n:Nat)(l:Int):HO:=.dK [(.inr "script",.ref T.q),(.inr "at",.int n),(.inr "left",.int l),(.inr "digits",.bl T.b)]
noncomputable def qL(T:mM):D:=.dict [(.str "@",.list [.int (T.p:Nat),.int (T.q:Nat),.bool T.b,.list (T.ns.map aM)])]
def aEp{K H}(T:mM):fW K H (qL T) (.ref T.p):=.addr _
def LD{K H}{T:mM}{v}(r:fW K H (qL T) v):v=.ref T.p:=by
 unfold qL at r
 generalize hg:(vP [(.str "@",.list [.int (T.p:Nat),.int (T.q:Nat),.bool T.b,.list (T.ns.map aM)])])=d at r
 cases r with
 |@addr p z=>
  injection hg with hg
  injection hg with hg _
  injection hg with _ hg
  injection hg with hg
  injection hg with hg _
  injection hg with hg
  rw[jD.inj hg]
 |dct=>
  injection hg with hg
  injection hg with hg _
  injection hg with hg _
  injection hg with hg
  exact d8 hg (by decide +kernel)
 |_=>cases hg
section
variable{K:aI}{H H' H1 H2 B:Hp}{p0 ps:List Addr}{σT:List Sl}{σ:L2.St}{T:mM}{n n':Nat}{p:Addr}
def jP(p:Addr)(H H':Hp):Prop:=∀a o,a≠p->H a=some o->H' a=some o
def jP.of(s:bJ H H'):jP p H H':=λa o _ e=>s a o e
def jP.refl:jP p H H:=λ_ _ _ e=>e
def jP.trans(s:jP p H H1)(t:jP p H1 H2):jP p H H2:=λa o n e=>t a o n (s a o n e)
theorem jP.mask(hp:p∈ps)(s:jP p H H'):bJ (mask H ps) (mask H' ps):=λa o e=>by
 unfold TL.mask at e |-
 by_cases ha:a∈ps
 ·rw[b9 ha]at e;cases e
 ·rw[b8 ha]at e |-
  exact s a o (λz=>ha (z▸hp)) e
structure qZ(K:aI)(H:Hp)(ps:List Addr)(T:mM)(n:Nat):Prop where
 obj:∃l,H T.p=some (HV T n l)
 scr:mN K (mask H ps) T.q (T.ns.map V.int)
 dig:T.b=true->0<T.ns.length
def qZ.grow(t:qZ K H ps T n)(s:bJ H H'):qZ K H' ps T n:=⟨let ⟨l,e⟩:=t.obj;⟨l,s _ _ e⟩,L2.bJ.seq (bT s) t.scr,t.dig⟩
structure oC(K:aI)(B:Hp)(p0:List Addr)(H:Hp)(ps:List Addr)(σT:List Sl)(σ:L2.St)(T:mM)(n:Nat):Prop where
 ok:Ok K B p0 H ps σT σ
 mem:T.p∈p0
 nb:B T.p=none
 tp:qZ K H ps T n
 bq:mN K (mask B p0) T.q (T.ns.map V.int)
def oC.mem'(o:oC K B p0 H ps σT σ T n):T.p∈ps:=o.ok.sub _ o.mem
theorem oC.grow(o:oC K B p0 H ps σT σ T n)(s:bJ H H'):oC K B p0 H' ps σT σ T n:=⟨o.ok.grow s,o.mem,o.nb,o.tp.grow s,o.bq⟩
def Ok.growX(o:Ok K B p0 H ps σT σ)(hp:p∈p0)(hB:B p=none)(s:jP p H H')(hl:C1 (H' p)):Ok K B p0 H' ps σT σ where
 base:=λa u e=>s a u (λz=>by rw[z,hB]at e;cases e) (o.base a u e)
 sub:=o.sub
 live:=λq hq=>by
  by_cases e:q=p
  ·subst e;exact hl
  ·obtain⟨u,h1,h2⟩:=o.live q hq;exact⟨u,s q u e h1,h2⟩
 len:=o.len
 val:=λi d h=>let ⟨v,h1,h2⟩:=o.val i d h;⟨v,h1,h2.same (s.mask (o.sub p hp))⟩
 own:=λi ts h=>let ⟨q,xs,h1,h2,h3,h4,h5,h6⟩:=o.own i ts h;⟨q,xs,h1,h2,h3,h4,s q _ (λz=>h4 (z▸hp)) h5,h6.same (s.mask (o.sub p hp))⟩
 dis:=o.dis
 dc:=o.dc.to (λj hs kvs h=>⟨h,rfl⟩) (λq φ a b c=>⟨a,(s q _ (λz=>c (z▸hp)) b).trans b.symm⟩) (λq φ _ _ a b=>⟨a,b⟩) (s.mask (o.sub p hp))
theorem oC.growX(o:oC K B p0 H ps σT σ T n)(s:jP T.p H H')(t:qZ K H' ps T n'):oC K B p0 H' ps σT σ T n':=
 ⟨o.ok.growX o.mem o.nb s (by obtain⟨l,e⟩:=t.obj;rw[e];exact⟨_,rfl,rfl⟩),o.mem,o.nb,t,o.bq⟩
theorem oC.set(o:oC K B p0 H ps σT σ T n){i:Nat}{d v}(r:fW K (mask H ps) d v):oC K B p0 H ps (σT.set i (.val d)) (σ.set i (some v)) T n:=⟨o.ok.set r,o.mem,o.nb,o.tp,o.bq⟩
end
abbrev EC:=D->Nat->List Sl->(Nat->D->Prop)->Prop
abbrev AC:=D->Nat->List Sl->(Nat->List D->Prop)->Prop
abbrev TC:=D->Nat->List Sl->(Nat->Bool->Prop)->Prop
def sU(X:Cx)(e:Expr)(t:EC):Prop:=∃te:TE,PE X e te/\∀B p0 H ps σT σ (T:mM)(n:Nat)(Q:Nat->D->Prop)(QV:VK),oC X.K B p0 H ps σT σ T n->t (qL T) n σT Q ->
 (∀n' d v H',jP T.p H H'->qZ X.K H' ps T n'->fW X.K (mask H' ps) d v->Q n' d->QV v H')->te σ H QV
def XS(X:Cx)(es:List Expr)(t:AC):Prop:=∃ta:TA,PA X es ta/\∀B p0 H ps σT σ (T:mM)(n:Nat)(Q:Nat->List D->Prop)(QV:List V->Hp->Prop),oC X.K B p0 H ps σT σ T n->t (qL T) n σT Q ->
 (∀n' ds vs H',jP T.p H H'->qZ X.K H' ps T n'->Reps X.K (mask H' ps) ds vs->Q n' ds->QV vs H')->ta σ H QV
def PTc(X:Cx)(e:Expr)(t:TC):Prop:=∃tt:TT,PT X e tt/\∀B p0 H ps σT σ (T:mM)(n:Nat)(Q:Nat->Bool->Prop)(QV:Bool->Hp->Prop),oC X.K B p0 H ps σT σ T n->t (qL T) n σT Q ->
 (∀n' b H',jP T.p H H'->qZ X.K H' ps T n'->Q n' b->QV b H')->tt σ H QV
def PWc(X:Cx)(e:Expr)(t:TC):Prop:=∃tt:TT,PW X e tt/\∀B p0 H ps σT σ (T:mM)(n:Nat)(Q:Nat->Bool->Prop)(QV:Bool->Hp->Prop),oC X.K B p0 H ps σT σ T n->t (qL T) n σT Q ->
 (∀n' b H',jP T.p H H'->qZ X.K H' ps T n'->Q n' b->QV b H')->tt σ H QV
section
variable{X:Cx}{a b e:Expr}{es:List Expr}{ta tb te:EC}{pos:Pos}
def cE(t:ET):EC:=λ_ n σ Q=>t σ (Q n)
def fG{t}(h:gG X e t):sU X e (cE t):=by
 obtain⟨v,p,r⟩:=h;exact⟨v,p,λB p0 H ps σT σ T n Q QV o h k=>r B p0 H ps σT σ (Q n) QV o.ok h λd v H' s rr q=>k n d v H' (.of s) (o.tp.grow s) rr q⟩
def cT(t:yP):TC:=λ_ n σ Q=>t σ (Q n)
def YA{t}(h:KM X e t):PTc X e (cT t):=by
 obtain⟨v,p,r⟩:=h;exact⟨v,p,λB p0 H ps σT σ T n Q QV o h k=>r B p0 H ps σT σ (Q n) QV o.ok h λb H' s q=>k n b H' (.of s) (o.tp.grow s) q⟩
def cOp(f:D->D->(D->Prop)->Prop)(ta tb:EC):EC:=λτ n σ Q=>ta τ n σ λn1 x=>tb τ n1 σ λn2 y=>f x y (Q n2)
def xR{r}{f:D->D->(D->Prop)->Prop}(h2:zW X r f){va vb:TE}
  (ha:∀B p0 H ps σT σ (T:mM)(n:Nat)(Q:Nat->D->Prop)(QV:VK),oC X.K B p0 H ps σT σ T n->ta (qL T) n σT Q->(∀n' d v H',jP T.p H H'->qZ X.K H' ps T n'->fW X.K (mask H' ps) d v->Q n' d->QV v H')->va σ H QV)
  (hb:∀B p0 H ps σT σ (T:mM)(n:Nat)(Q:Nat->D->Prop)(QV:VK),oC X.K B p0 H ps σT σ T n->tb (qL T) n σT Q->(∀n' d v H',jP T.p H H'->qZ X.K H' ps T n'->fW X.K (mask H' ps) d v->Q n' d->QV v H')->vb σ H QV)
  (B:Hp) (p0:List Addr) (H:Hp) (ps:List Addr) (σT:List Sl) (σ:L2.St) (T:mM) (n:Nat) (Q:Nat->D->Prop) (QV:VK) (o:oC X.K B p0 H ps σT σ T n) (h:cOp f ta tb (qL T) n σT Q) (k:∀n' d v H',jP T.p H H'->qZ X.K H' ps T n'->fW X.K (mask H' ps) d v->Q n' d->QV v H'):tOp r va vb σ H QV:=by
 refine ha B p0 H ps σT σ T n _ _ o h λn1 d1 x H1 s1 t1 r1 q1=>?_;have o1:=o.growX s1 t1;refine hb B p0 H1 ps σT σ T n1 _ _ o1 q1 λn2 d2 y H2 s2 t2 r2 q2=>?_;have o2:=o1.growX s2 t2;exact h2 H2 ps d1 d2 x y (Q n2) QV o2.ok.live (r1.same (s2.mask o.mem')) r2 q2 λd v H' s' r' q'=>k n2 d v H' ((s1.trans s2).trans (.of s')) (t2.grow s') r' q'
def CJ{op r}{f:D->D->(D->Prop)->Prop}(ho:nP X (m9 op) r)(h2:zW X r f)(ha:sU X a ta)(hb:sU X b tb):sU X (.BinOp a op b pos) (cOp f ta tb):=by
 obtain⟨va,pa,ra⟩:=ha;obtain⟨vb,pb,rb⟩:=hb;exact⟨_,UL ho pa pb,xR h2 ra rb⟩
def aF5{op r}{f:D->D->(D->Prop)->Prop}(ho:nP X (i3 op) r)(h2:zW X r f)(ha:sU X a ta)(hb:sU X b tb)(hm:v9 op b=false:=by first | exact B1 _ | rfl):sU X (.Compare a [op] [b] pos) (cOp f ta tb):=by
 obtain⟨va,pa,ra⟩:=ha;obtain⟨vb,pb,rb⟩:=hb;exact⟨_,OE ho pa pb hm,xR h2 ra rb⟩
def PC{r}{f:D->D->(D->Prop)->Prop}(ho:XT X r)(h2:zW X r f)(ha:sU X a ta)(hb:sU X b tb)(hs:yH b:=by intro _ _;rfl):sU X (.Subscript a b pos) (cOp f ta tb):=by
 obtain⟨va,pa,ra⟩:=ha;obtain⟨vb,pb,rb⟩:=hb;exact⟨_,OD ho pa pb hs,xR h2 ra rb⟩
def aGh(i:Nat)(tb:EC):EC:=λτ n σ Q=>∃ts,σ[i]?=some (.own ts)/\tb τ n σ λn1 y=>∃(j:Int)(d:D),y=.int j/\atI ts j=some d/\Q n1 d
def aO6:AC:=λ_ n _ Q=>Q n []
def aDk(t:EC)(r:AC):AC:=λτ n σ Q=>t τ n σ λn1 x=>r τ n1 σ λn2 xs=>Q n2 (x::xs)
def fS:XS X [] aO6:=⟨_,hU,λ_ _ H _ _ _ _ _ _ _ o h k=>k _ _ _ H .refl o.tp .nil h⟩
def cJ{tr}(ha:sU X e te)(hr:XS X es tr)(hs:bS (e::es) X.env=(false,eval e X.env)::bS es X.env:=by rfl):XS X (e::es) (aDk te tr):=by
 obtain⟨va,pa,ra⟩:=ha;obtain⟨vr,pr,rr⟩:=hr;refine⟨_,dY pa pr hs,λB p0 H ps σT σ T n Q QV o h k=>ra B p0 H ps σT σ T n _ _ o h λn1 d x H1 s1 t1 r1 q1=>?_⟩;refine rr B p0 H1 ps σT σ T n1 _ _ (o.growX s1 t1) q1 λn2 ds xs H2 s2 t2 r2 q2=>?_;exact k _ _ _ H2 (s1.trans s2) t2 (.cons (r1.same (s2.mask o.mem')) r2) q2
def aL1(t:AC):EC:=λτ n σ Q=>t τ n σ λn1 ds=>ds.length<=1000/\Q n1 (.tuple ds)
def aO7(t:AC):EC:=λτ n σ Q=>t τ n σ λn1 ds=>ds.length<=1000/\Q n1 (.list ds)
def MN{x1 t}(h:XS X es t):sU X (.Tuple es x1 pos) (aL1 t):=by
 obtain⟨v,p,r⟩:=h;refine⟨_,LN p,λB p0 H ps σT σ T n Q QV o h k=>r B p0 H ps σT σ T n _ _ o h λn1 ds xs H1 s1 t1 r1 q1=>⟨rX (by rw[<- r1.length];exact q1.1),λq hq=>?_⟩⟩;exact k _ _ _ _ (s1.trans (.of (dL hq))) (t1.grow (dL hq)) (rN (o.growX s1 t1).ok.live hq r1) q1.2
def aF4{t}(h:XS X es t):sU X (.List es pos) (aO7 t):=by
 obtain⟨v,p,r⟩:=h;refine⟨_,LO p,λB p0 H ps σT σ T n Q QV o h k=>r B p0 H ps σT σ T n _ _ o h λn1 ds xs H1 s1 t1 r1 q1=>⟨rX (by rw[<- r1.length];exact q1.1),λq hq=>?_⟩⟩;exact k _ _ _ _ (s1.trans (.of (dL hq))) (t1.grow (dL hq)) (rO (o.growX s1 t1).ok.live hq r1) q1.2
def XD(f:List D->(D->Prop)->Prop)(t:AC):EC:=λτ n σ Q=>t τ n σ λn1 ds=>f ds (Q n1)
def aLn{r:List V->Hp->VK->Prop}{f:List D->(D->Prop)->Prop}{t g}(hf:sV X r f)(ha:XS X (e::es) t)(pc:∀{ta},PA X (e::es) ta->PE X (.Call g (e::es) [] pos) (NN r ta)):sU X (.Call g (e::es) [] pos) (XD f t):=by
 obtain⟨v,pa,ra⟩:=ha;refine⟨_,pc pa,λB p0 H ps σT σ T n Q QV o h k=>ra B p0 H ps σT σ T n _ _ o h λn1 ds xs H1 s1 t1 r1 q1=>?_⟩;exact hf H1 ps ds xs (Q n1) QV (o.growX s1 t1).ok.live r1 q1 λd v H' s' r' q'=>k n1 d v H' (s1.trans (.of s')) (t1.grow s') r' q'
abbrev SpC:=D->Nat->List D->(Nat->D->Prop)->Prop
def nD(K:aI)(sp:SpC):Sp:=λvs H Q _=>∃(ps:List Addr)(T:mM)(n:Nat)(ds:List D)(QD:Nat->D->Prop),(∀p∈ps,C1 (H p))/\T.p∈ps/\qZ K H ps T n/\Reps K (mask H ps) (qL T::ds) vs/\sp (qL T) n ds QD /\
 ∀n' d v H',jP T.p H H'->qZ K H' ps T n'->fW K (mask H' ps) d v->QD n' d->Q v H'
def aDj(sp:SpC)(t:AC):EC:=λτ n σ Q=>t τ n σ λn1 ds=>∃es,ds=τ::es/\sp τ n1 es Q
def aA7{k:Nat}{f:Addr}{fd pn sp x p t}(F:eK X.prog X.w X.K X.mg X.base jW k f fd pn (nD X.K sp))(hm:X.mg x=some (.ref f))(hk:fZ X.K (.ref f)=true)(hb:rB X.K fd pn [])
  (hr:Room k X.A) (ha:XS X (e::es) t) (pc:∀{ta},PA X (e::es) ta->PE X (.Call (.Name x p) (e::es) [] pos) (EB (nD X.K sp) [] E0 ta)):sU X (.Call (.Name x p) (e::es) [] pos) (aDj sp t):=by
 obtain⟨v,pa,ra⟩:=ha;refine⟨_,pc pa,λB p0 H ps σT σ T n Q QV o h k=>ra B p0 H ps σT σ T n _ _ o h λn1 ds xs H1 s1 t1 r1 q1=>?_⟩;obtain⟨es',rfl,q1⟩:=q1;show nD X.K sp (xs++[]) H1 QV E0;rw[dP];exact⟨ps,T,n1,es',Q,(o.growX s1 t1).ok.live,o.mem',t1,r1,q1,λn' d v H' s' t' r' q'=>k n' d v H' (s1.trans s') t' r' q'⟩
def aDi(f:Str->List D->(D->Prop)->Prop)(te:ET)(t:AC):EC:=λτ n σ Q=>te σ λd=>∃z,d=.str z/\t τ n σ λn1 ds=>f z ds (Q n1)
def MQ{f:Str->List D->(D->Prop)->Prop}{r:V->List V->Hp->VK->Prop}{g m te t}(hn:gG X m te)(ha:XS X (e::es) t)
  (hf:∀H ps(z:Str)(ds:List D)(xs:List V)(Q:D->Prop)QV,Reps X.K (mask H ps) ds xs->f z ds Q->(∀d v H',bJ H H'->fW X.K (mask H' ps) d v->Q d->QV v H')->r (.str z) xs H QV)
  (pc:∀{v ta},PE X m v->PA X (e::es) ta->PE X (.Call g (e::es) [] pos) (tBM X.K "str" r v ta)):sU X (.Call g (e::es) [] pos) (aDi f te t):=by
 obtain⟨v,pe,re⟩:=hn;obtain⟨va,pa,ra⟩:=ha;refine⟨_,pc pe pa,λB p0 H ps σT σ T n Q QV o h k=>re B p0 H ps σT σ _ _ o.ok h λd x H1 s1 r1 q1=>?_⟩;obtain⟨z,rfl,q1⟩:=q1;cases r1;refine⟨rfl,ra B p0 H1 ps σT σ T n _ _ (o.grow s1) q1 λn1 ds xs H2 s2 t2 r2 q2=>?_⟩;exact hf H2 ps z ds xs (Q n1) QV r2 q2 λd v H' s' r' q'=>k n1 d v H' (((jP.of s1).trans s2).trans (.of s')) (t2.grow s') r' q'
def aA2{n ap te t}(hn:gG X n te)(ha:XS X (e::es) t)
  (pc:∀{v ta},PE X n v->PA X (e::es) ta->PE X (.Call (.Attribute n "join" ap) (e::es) [] pos) (tBM X.K "str" (λx xs H Q=>∃z p ys,x=.str z/\xs=[.ref p]/\mN X.K H p (ys.map V.str)/\(ys.map (·.length)).sum+ys.length*z.length<=16777216/\Q (.str (Txt.join z ys)) H) v ta)):sU X (.Call (.Attribute n "join" ap) (e::es) [] pos) (aDi aLc te t):=
 MQ hn ha (λH ps z ds xs Q QV r h k=>by
  cases r with
  |nil=>exact h.elim
  |cons r1 r2=>
   cases r2 with
   |cons _ _=>cases r1<;>exact h.elim
   |nil=>
    cases r1 with
    |list q s=>
     obtain⟨ys,rfl,hz,h⟩:=h;have e:=EJ s;subst e;exact⟨z,_,ys,rfl,rfl,L2.bJ.seq bP q,hz,k _ _ H (L2.bJ.refl H) (.str _) h⟩
    |_=>exact h.elim) pc
def aL0(t:EC):TC:=λτ n σ Q=>t τ n σ λn1 x=>match x with | .bool b=>Q n1 b | _=>False
def S2{op r}{f:D->D->(D->Prop)->Prop}(ho:nP X (i3 op) r)(h2:zW X r f)(ha:sU X a ta)(hb:sU X b tb)(hm:v9 op b=false:=by first | exact B1 _ | rfl):PTc X (.Compare a [op] [b] pos) (aL0 (cOp f ta tb)):=by
 obtain⟨va,pa,ra⟩:=ha;obtain⟨vb,pb,rb⟩:=hb;refine⟨_,F7 ho pa pb hm,λB p0 H ps σT σ T n Q QV o h k=>?_⟩;refine xR h2 ra rb B p0 H ps σT σ T n (λn1 x=>match x with | .bool b=>Q n1 b | _=>False) _ o h λn' d v H' s' t' r' q'=>?_
 cases r' with
 |bool c=>exact⟨c,rfl,k n' c H' s' t' q'⟩
 |_=>exact q'.elim
variable{tA wu:TC}{fK:List Expr}
def aL5(t u:TC):TC:=λτ n σ Q=>t τ n σ λn1 b=>if b=true then u τ n1 σ Q else Q n1 false
def aB3(h:PWc X e tA):PTc X e tA:=by
 obtain⟨v,p,r⟩:=h;exact⟨_,p.pt,r⟩
def NK(h:PTc X a tA):PWc X (.BoolOp .And [a] pos) tA:=by
 obtain⟨v,p,r⟩:=h;exact⟨_,N8 p,r⟩
def SV(ha:PTc X a tA)(hb:PWc X (.BoolOp .And (b::fK) pos) wu):PWc X (.BoolOp .And (a::b::fK) pos) (aL5 tA wu):=by
 obtain⟨va,pa,ra⟩:=ha;obtain⟨vb,pb,rb⟩:=hb;refine⟨_,T9 pa pb,λB p0 H ps σT σ T n Q QV o h k=>ra B p0 H ps σT σ T n _ _ o h λn1 c H1 s1 t1 q1=>?_⟩
 cases c with
 |true=>exact rb B p0 H1 ps σT σ T n1 Q _ (o.growX s1 t1) q1 λn' b H' s' t' q'=>k n' b H' (s1.trans s') t' q'
 |false=>exact k _ _ H1 s1 t1 q1
end
section
variable{K:aI}{H B:Hp}{p0 ps:List Addr}{σT:List Sl}{σ:L2.St}{T:mM}{n:Nat}{p:Addr}
def oC.ne(o:oC K B p0 H ps σT σ T n)(hp:H p=none):T.p≠p:=λz=>by
 obtain⟨l,e⟩:=o.tp.obj;rw[z,hp]at e;cases e
theorem oC.adopt(o:oC K B p0 H ps σT σ T n){u}(hp:H p=none)(hu:MB u=false:=by rfl):oC K B p0 (fM H p u) (p::ps) σT σ T n:=
 ⟨o.ok.adopt hp hu,o.mem,o.nb,⟨let ⟨l,e⟩:=o.tp.obj;⟨l,by rw[cI (o.ne hp)];exact e⟩,by rw[lL hp];exact o.tp.scr,o.tp.dig⟩,o.bq⟩
theorem oC.aside(o:oC K B p0 H ps σT σ T n){q:Addr}{u}(hq:q∈ps)(hB:B q=none)(hn:mQ σT)(ne:T.p≠q)(hu:MB u=false:=by rfl):oC K B p0 (fM H q u) ps σT σ T n:=
 ⟨o.ok.aside hq hB hn hu,o.mem,o.nb,⟨let ⟨l,e⟩:=o.tp.obj;⟨l,by rw[cI ne];exact e⟩,by rw[iA hq];exact o.tp.scr,o.tp.dig⟩,o.bq⟩
theorem oC.blk(o:oC K B p0 H ps σT σ T n)(fr:List (Option Nat)):oC K B p0 H ps (jF fr σT) (wF fr σ) T n:=⟨o.ok.blk fr,o.mem,o.nb,o.tp,o.bq⟩
def oC.with(o:oC K B p0 H ps σT σ T n){g8 g6}(o':Ok K B p0 H ps g8 g6):oC K B p0 H ps g8 g6 T n:=⟨o',o.mem,o.nb,o.tp,o.bq⟩
end
section
variable{X:Cx}{b e:Expr}{te:EC}{pos:Pos}
def cLc(fr:List (Option Nat))(ti:IT)(g:GT)(te:EC):EC:=λτ n σ Q=>ti σ λts=>ts.length<=100000/\∃P:Nat->Nat->List Sl->List D->Prop,P 0 n (jF fr σ) [] /\
 (∀(k m:Nat)(x:D)g6(ds:List D),ts[k]?=some x->P k m g6 ds->g x g6 λz8=>te τ m z8 λm' y=>P (k+1) m' z8 (ds++[y]))/\∀m g6 ds,P ts.length m g6 ds->Q m (.list ds)
def VQ{fr}{ti:IT}{g:GT}{te:EC}{wi:TI}{gv:BP->TG}{vt:BP->TT}{ve:BP->TE}
  (ri:∀B p0 H ps σT σ (Q:List D->Prop)(R:It->Hp->Prop),Ok X.K B p0 H ps σT σ->ti σT Q->(∀ts J H',bJ H H'->XO X.K (mask H' ps) ts J->Q ts->R J H')->wi σ H R)
  (rg:∀(bp:BP)B p0 H ps σT σ(d:D)(v:V)(Q:List Sl->Prop)(QV:L2.St->Hp->Prop),Ok X.K B p0 H ps σT σ->fW X.K (mask H ps) d v->g d σT Q->(∀g8 g6,Ok X.K B p0 H ps g8 g6->(mQ σT->mQ g8)->Q g8->QV g6 H)->gv bp v σ H QV)
  (rt:∀(bp:BP)B p0 H ps σT σ(Q:Bool->Prop)(QV:Bool->Hp->Prop),Ok X.K B p0 H ps σT σ->uF σT Q->(∀b H',bJ H H'->Q b->QV b H')->vt bp σ H QV)
  (re:∀(bp:BP)B p0 H ps σT σ(T:mM)(n:Nat)(Q:Nat->D->Prop)QV,oC X.K B p0 H ps σT σ T n->te (qL T) n σT Q->(∀n' d v H',jP T.p H H'->qZ X.K H' ps T n'->fW X.K (mask H' ps) d v->Q n' d->QV v H')->ve bp σ H QV)
  (B:Hp) (p0:List Addr) (H:Hp) (ps:List Addr) (σT:List Sl) (σ:L2.St) (T:mM) (n:Nat) (Q:Nat->D->Prop) (QV:VK) (o:oC X.K B p0 H ps σT σ T n) (h:cLc fr ti g te (qL T) n σT Q) (k:∀n' d v H',jP T.p H H'->qZ X.K H' ps T n'->fW X.K (mask H' ps) d v->Q n' d->QV v H'):NM fr wi gv vt ve σ H QV:=by
 refine ri B p0 H ps σT σ _ _ o.ok h λts J H1 s1 rj q1=>?_;obtain⟨hz,P,h0,hs,hd⟩:=q1;intro bp acc y4;have o1:=o.grow s1;have pd:B acc=none:=bJ.free' o1.ok.base y4;have Ef:acc∉ps:=fE o1.ok.live y4;have al:=o1.ne y4
 refine⟨λi m g6 H'=>m=ts.length-i/\i<=ts.length/\∃c g8 ds ys,oC X.K B p0 H' (acc::ps) g8 g6 T c/\mQ g8/\H' acc=some (.lst ys)/\ds.length<=i/\Reps X.K (mask H' (acc::ps)) ds ys/\bJ (mask H1 ps) (mask H' (acc::ps))/\jP T.p H1 H'/\P i c g8 ds,
  ⟨_,rfl,cL _,n,jF fr σT,[],[],(o1.blk fr).adopt y4,oZ fr σT,cM,aL _,.nil,by rw[lL y4];exact L2.bJ.refl _,.of (dL y4),h0⟩,?_⟩
 rintro i m g6 H' ⟨rfl,vi,c,g8,ds,ys,o',n',ha,hl,hr,s',sF,p'⟩;have hL:bM=2^24:=rfl;by_cases bo:i<ts.length
 ·refine .inr ⟨rj.go i H' (s'.trans bP) bo,λy H2 hy=>?_⟩;obtain⟨s2,dx,hx,rx⟩:=rj.yld i H' (acc::ps) y H2 o'.ok.live s' bo hy;have o2:=o'.grow s2;refine rg bp B p0 H2 (acc::ps) g8 g6 dx y _ _ o2.ok rx (hs i c dx g8 ds hx p') λgk kg o3 n3 q3=>?_;refine rt bp B p0 H2 (acc::ps) gk kg (λb=>b=true) _ o3 rfl λb H4 s4 q4=>?_;subst q4;have o4:=(o2.with o3).grow s4;have tw:=s2.trans s4;refine re bp B p0 H4 (acc::ps) gk kg T c _ _ o4 q3 λc5 d v H5 s5 t5 r5 q5=>?_;have o5:=o4.growX s5 t5;have m5:bJ (mask H' (acc::ps)) (mask H5 (acc::ps)):=(bT tw).trans (s5.mask o4.mem');have hm:mask (fM H5 acc (.lst (ys++[v]))) (acc::ps)=mask H5 (acc::ps):=iA (aS ..);refine⟨ys,s5 _ _ (λz=>al z.symm) (tw _ _ ha),by rw[<- hr.length];omega,ts.length-(i+1),by omega,rfl,bo,c5,gk,ds++[d],ys++[v],o5.aside (aS ..) pd (n3 n') al,n3 n',cM,by rw[bC,oF];omega,?_,?_,?_,q5⟩
  ·rw[hm];exact(hr.same m5).append (.cons r5 .nil)
  ·rw[hm];exact s'.trans m5
  ·intro b u nb e;have ne:b≠acc:=λz=>by rw[z,y4]at e;cases e
   rw[cI ne];exact s5 b u nb (tw b u (sF b u nb e))
 ·obtain rfl:i=ts.length:=by omega
  exact .inl ⟨rj.stop _ H' (s'.trans bP) (aL _),k c (.list ds) _ H' ((jP.of s1).trans sF) ⟨o'.tp.obj,L2.bJ.seq (kQ λp hp=>aO _ hp) o'.tp.scr,o'.tp.dig⟩ (.list (mN.of (kK Ef ha)) (hr.same (kQ λp hp=>aO _ hp))) (hd c g8 ds p')⟩
def Z5{az iter tg scope fr N' ti g te}(hi:D3 X tg iter ti)
  (hY:∀b:BP,FK (blk X scope N' b) tg g/\AN (blk X scope N' b) [] uF/\sU (blk X scope N' b) az te) {M:(TE)->Prop}
  (fin:∀{wi}{gv:BP->TG}{vt:BP->TT}{ve:BP->TE},PI X tg iter wi->(∀b:BP,PG (blk X scope N' b) tg (gv b)/\M3 (blk X scope N' b) [] (vt b)/\PE (blk X scope N' b) az (ve b))->M (NM fr wi gv vt ve)) :
  ∃v:TE,M v/\∀B p0 H ps σT σ (T:mM)(n:Nat)(Q:Nat->D->Prop)(QV:VK),oC X.K B p0 H ps σT σ T n->cLc fr ti g te (qL T) n σT Q ->
   (∀n' d v H',jP T.p H H'->qZ X.K H' ps T n'->fW X.K (mask H' ps) d v->Q n' d->QV v H')->v σ H QV:=by
 obtain⟨wi,pi,ri⟩:=hi;refine⟨_,fin (gv:=λb=>l9 (hY b).1) (vt:=λb=>l9 (hY b).2.1) (ve:=λb=>l9 (hY b).2.2) pi λb=>⟨(f8 (hY b).1).1,(f8 (hY b).2.1).1,(f8 (hY b).2.2).1⟩,?_⟩;exact VQ ri (λb=>(f8 (hY b).1).2) (λb=>(f8 (hY b).2.1).2) λb=>(f8 (hY b).2.2).2
def aLm{az iter tg scope fr N' ti g te}(hi:D3 X tg iter ti)
  (hY:∀b:BP,FK (blk X scope N' b) tg g/\AN (blk X scope N' b) [] uF/\sU (blk X scope N' b) az te)
  (pl:∀{wi}{gv:BP->TG}{vt:BP->TT}{ve:BP->TE},PI X tg iter wi->(∀b:BP,PG (blk X scope N' b) tg (gv b)/\M3 (blk X scope N' b) [] (vt b)/\PE (blk X scope N' b) az (ve b))->PE X (.ListComp az [⟨tg,iter,[],0⟩] scope pos) (NM fr wi gv vt ve)) :
  sU X (.ListComp az [⟨tg,iter,[],0⟩] scope pos) (cLc fr ti g te):=Z5 hi hY pl
end
structure C8 where
 nx:Nat->List Sl->Prop
 rt:Nat->D->Prop
 bk:Nat->List Sl->Prop:=λ_ _=>False
 ct:Nat->List Sl->Prop:=λ_ _=>False
abbrev DE:=D->C8->Nat->List Sl->Prop
structure C6(K:aI)(B:Hp)(p0:List Addr)(H:Hp)(ps:List Addr)(T:mM)(DC:C8)(DV:C9):Prop where
 nx:∀H' m3 g8 g6 n',oC K B p0 H' m3 g8 g6 T n'->bJ (mask H ps) (mask H' m3)->DC.nx n' g8->DV.nx g6 H'
 bk:∀H' m3 g8 g6 n',oC K B p0 H' m3 g8 g6 T n'->bJ (mask H ps) (mask H' m3)->DC.bk n' g8->DV.bk g6 H'
 ct:∀H' m3 g8 g6 n',oC K B p0 H' m3 g8 g6 T n'->bJ (mask H ps) (mask H' m3)->DC.ct n' g8->DV.ct g6 H'
 rt:∀n' d v H',bJ B H'->qZ K H' p0 T n'->fW K (mask H' p0) d v->DC.rt n' d->DV.rt v H'
def XQ(X:Cx)(st:Stmt)(t:DE):Prop:=∃ts:TS,PS X st ts/\∀B p0 H ps σT σ (T:mM)(n:Nat)(DC:C8)(DV:C9),oC X.K B p0 H ps σT σ T n->t (qL T) DC n σT->C6 X.K B p0 H ps T DC DV->ts DV σ H
def AM(X:Cx)(st:List Stmt)(t:DE):Prop:=∃ts:TS,zI X st ts/\∀B p0 H ps σT σ (T:mM)(n:Nat)(DC:C8)(DV:C9),oC X.K B p0 H ps σT σ T n->t (qL T) DC n σT->C6 X.K B p0 H ps T DC DV->ts DV σ H
section
variable{K:aI}{H H' B:Hp}{p0 ps:List Addr}{σT:List Sl}{σ:L2.St}{T:mM}{n:Nat}
def C6.later{DC DV m3}(f:C6 K B p0 H ps T DC DV)(e:bJ (mask H ps) (mask H' m3)):C6 K B p0 H' m3 T DC DV:=
 ⟨λ_ _ _ _ _ o s q=>f.nx _ _ _ _ _ o (e.trans s) q,λ_ _ _ _ _ o s q=>f.bk _ _ _ _ _ o (e.trans s) q,λ_ _ _ _ _ o s q=>f.ct _ _ _ _ _ o (e.trans s) q,f.rt⟩
def oC.up(o:oC K B p0 H ps σT σ T n){l:Int}(hl:H T.p=some (HV T n l)):Ok K (fM B T.p (HV T n l)) p0 H ps σT σ where
 base:=λa u e=>by
  by_cases z:a=T.p
  ·subst z;rw[cM]at e;cases e;exact hl
  ·rw[cI z]at e;exact o.ok.base a u e
 sub:=o.ok.sub
 live:=o.ok.live
 len:=o.ok.len
 val:=o.ok.val
 own:=λi ts h=>let ⟨q,xs,h1,h2,h3,h4,h5,h6⟩:=o.ok.own i ts h;⟨q,xs,h1,h2,by rw[cI (λz:q=T.p=>h4 (z▸o.mem))];exact h3,h4,h5,h6⟩
 dis:=o.ok.dis
 dc:=o.ok.dc.to (λj hs kvs h=>⟨h,rfl⟩) (λq φ a b _=>⟨a,rfl⟩) (λq φ _ _ a b=>⟨by rw[cI (λz:q=T.p=>b (z▸o.mem))];exact a,b⟩) (L2.bJ.refl _)
def oC.down(o:oC K B p0 H ps σT σ T n){l:Int}{m3 g8 g6}(o':Ok K (fM B T.p (HV T n l)) p0 H' m3 g8 g6)(s:bJ (mask H ps) (mask H' m3)):oC K B p0 H' m3 g8 g6 T n where
 ok:=⟨(dL o.nb).trans o'.base,o'.sub,o'.live,o'.len,o'.val,λi ts h=>let ⟨q,xs,h1,h2,h3,h4,h5,h6⟩:=o'.own i ts h;⟨q,xs,h1,h2,bJ.free' (dL o.nb) h3,h4,h5,h6⟩,o'.dis,o'.dc.to (λj hs kvs h=>⟨h,rfl⟩) (λq φ a b _=>⟨a,rfl⟩) (λq φ _ _ a b=>⟨bJ.free' (dL o.nb) a,b⟩) (L2.bJ.refl _)⟩
 mem:=o.mem
 nb:=o.nb
 tp:=⟨⟨l,o'.base _ _ cM⟩,L2.bJ.seq s o.tp.scr,o.tp.dig⟩
 bq:=o.bq
def aAu{DC:C8}{DV}(o:oC K B p0 H ps σT σ T n){l:Int}(f:C6 K B p0 H ps T DC DV):KG K (fM B T.p (HV T n l)) p0 H ps { nx:=DC.nx n,rt:=DC.rt n,bk:=DC.bk n,ct:=DC.ct n } DV:=
 ⟨λH' m3 g8 g6 o' s' q'=>f.nx H' m3 g8 g6 n (o.down o' s') s' q',λH' m3 g8 g6 o' s' q'=>f.bk H' m3 g8 g6 n (o.down o' s') s' q',λH' m3 g8 g6 o' s' q'=>f.ct H' m3 g8 g6 n (o.down o' s') s' q',
  λd v H' s' r' q'=>f.rt n d v H' ((dL o.nb).trans s') ⟨⟨l,s' _ _ cM⟩,L2.bJ.seq (bT ((dL o.nb).trans s')) o.bq,o.tp.dig⟩ r' q',
  λ_ _ _ _ _ _ _ _ _ q'=>q'.elim,λ_ _ _ _ _ _ _ _ _ _ _ _ _ _ _ _ _ _ q'=>q'.elim,λ_ _ _ _ _ _ _ _ _ _ _ _ _ _ q'=>q'.elim,i8⟩
end
section
variable{X:Cx}{a b c e:Expr}{es:List Expr}{te:EC}{pos:Pos}{st:Stmt}{fK:List Stmt}{t u:DE}
def sP(t:rE):DE:=λ_ DC n σ=>t { nx:=DC.nx n,rt:=DC.rt n,bk:=DC.bk n,ct:=DC.ct n } σ
def oS{t}(h:sT X st t):XQ X st (sP t):=by
 obtain⟨ts,p,r⟩:=h;refine⟨ts,p,λB p0 H ps σT σ T n DC DV o h f=>?_⟩;obtain⟨l,hl⟩:=o.tp.obj;exact r _ p0 H ps σT σ _ DV (o.up hl) h (aAu o f)
def CQ:DE:=λ_ DC n σ=>DC.nx n σ
def pL(t u:DE):DE:=λτ DC n σ=>t τ { DC with nx:=u τ DC } n σ
def BM:AM X [] CQ:=⟨_,F9,λB p0 H ps σT σ T n DC DV o h f=>f.nx H ps σT σ n o (L2.bJ.refl _) h⟩
def dQ(h1:XQ X st t)(h2:AM X fK u):AM X (st::fK) (pL t u):=by
 obtain⟨v1,p1,r1⟩:=h1;obtain⟨v2,p2,r2⟩:=h2;refine⟨_,tO p1 p2,λB p0 H ps σT σ T n DC DV o h f=>r1 B p0 H ps σT σ T n { DC with nx:=u (qL T) DC } { DV with nx:=v2 DV } o h ⟨λH' m3 g8 g6 n' o' s' q'=>?_,f.bk,f.ct,f.rt⟩⟩;exact r2 B p0 H' m3 g8 g6 T n' DC DV o' q' (f.later s')
def mY(h1:XQ X st t):AM X [st] t:=by
 obtain⟨v1,p1,r1⟩:=h1;exact⟨_,F8 p1,r1⟩
def aGf(i:Nat)(t:DE):DE:=λτ DC n σ=>∃ts,σ[i]?=some (.own ts)/\t τ DC n (σ.set i (.val (.list ts)))
def TQ{sts}(i:Nat)(h:AM X sts t):AM X sts (aGf i t):=by
 obtain⟨v,p,r⟩:=h;refine⟨_,p,λB p0 H ps σT σ T n DC DV o h f=>?_⟩;obtain⟨ts,e,h⟩:=h;obtain⟨m3,o',s'⟩:=o.ok.share e;exact r B p0 H m3 _ σ T n DC DV ⟨o',o.mem,o.nb,⟨o.tp.obj,L2.bJ.seq s' o.tp.scr,o.tp.dig⟩,o.bq⟩ h (f.later s')
def aL2(te:EC):DE:=λτ DC n σ=>te τ n σ DC.rt
def TR(h:sU X e te):XQ X (.Return (some e) pos) (aL2 te):=by
 obtain⟨v,p,r⟩:=h;refine⟨_,BU p,λB p0 H ps σT σ T n DC DV o h f=>r B p0 H ps σT σ T n _ _ o h λn' d x H' s' t' r' q'=>?_⟩;have o':=o.growX s' t';exact f.rt n' d x H' o'.ok.base ⟨t'.obj,L2.bJ.seq (bT o'.ok.base) o.bq,t'.dig⟩ (r'.same (kQ o.ok.sub)) q'
def cIf(c:TC)(t u:DE):DE:=λτ DC n σ=>c τ n σ λn1 b=>if b=true then t τ DC n1 σ else u τ DC n1 σ
def IH{c a b tc}(hc:PTc X c tc)(ha:AM X a t)(hb:AM X b u):XQ X (.If c a b pos) (cIf tc t u):=by
 obtain⟨vc,pc,rc⟩:=hc;obtain⟨va,pa,ra⟩:=ha;obtain⟨vb,pb,rb⟩:=hb;refine⟨_,aCp pc pa pb,λB p0 H ps σT σ T n DC DV o h f=>rc B p0 H ps σT σ T n _ _ o h λn1 d H1 s1 t1 q1=>?_⟩;have o1:=o.growX s1 t1;have f1:=f.later (s1.mask o.mem')
 cases d with
 |true=>exact ra B p0 H1 ps σT σ T n1 DC DV o1 q1 f1
 |false=>exact rb B p0 H1 ps σT σ T n1 DC DV o1 q1 f1
def MW(i:Nat)(te:EC):DE:=λτ DC n σ=>te τ n σ λn1 d=>DC.nx n1 (σ.set i (.val d))
def aEd{i:Nat}{x o9}(h:sU X e te)(m3:∀{v},PE X e v->PS X (.Assign [.Name x o9] e pos) (wS v (kG i))):XQ X (.Assign [.Name x o9] e pos) (MW i te):=by
 obtain⟨v,p,r⟩:=h;refine⟨_,m3 p,λB p0 H ps σT σ T n DC DV o h f=>r B p0 H ps σT σ T n _ _ o h λn' d x H' s' t' r' q'=>?_⟩;exact f.nx H' ps _ _ n' ((o.growX s' t').set r') (s'.mask o.mem') q'
def aBi(ti:IT)(g:GT)(tb:DE):DE:=λτ DC n σ=>ti σ λts=>∃P:Nat->Nat->List Sl->Prop,P 0 n σ /\
 (∀(k m:Nat)(x:D)g6,ts[k]?=some x->P k m g6->g x g6 λz8=>tb τ { DC with nx:=P (k+1),ct:=P (k+1),bk:=DC.nx } m z8)/\∀m g6,P ts.length m g6->DC.nx m g6
def aEf{tg iter body g tb ti}(he:D3 X tg iter ti)(hg:FK X tg g)(hb:AM X body tb)
  (pf:∀{wi gv bv},PI X tg iter wi->PG X tg gv->zI X body bv->PS X (.For tg iter body [] pos) (YF wi gv bv)):XQ X (.For tg iter body [] pos) (aBi ti g tb):=by
 obtain⟨ve,pe,re⟩:=he;obtain⟨gv,pg,rg⟩:=hg;obtain⟨vb,pb,rb⟩:=hb;refine⟨_,pf pe pg pb,λB p0 H ps σT σ T n DC DV o h f=>re B p0 H ps σT σ _ _ o.ok h λts J H1 s1 rj q1=>?_⟩;obtain⟨P,h0,hs,hd⟩:=q1;refine⟨λi m g6 H'=>m=ts.length-i/\i<=ts.length/\∃c m3 g8,oC X.K B p0 H' m3 g8 g6 T c/\bJ (mask H1 ps) (mask H' m3)/\P i c g8,⟨_,rfl,cL _,n,ps,σT,o.grow s1,L2.bJ.refl _,h0⟩,?_⟩;rintro i m g6 H' ⟨rfl,vi,c,m3,g8,o',s',p'⟩;have sH:bJ (mask H1 ps) H':=s'.trans bP;have f':C6 X.K B p0 H' m3 T DC DV:=f.later ((bT s1).trans s');by_cases bo:i<ts.length
 ·refine .inr ⟨rj.go i H' sH bo,λz8 H2=>∃c2 Dm qg,oC X.K B p0 H2 Dm qg z8 T c2/\bJ (mask H1 ps) (mask H2 Dm)/\P (i+1) c2 qg,λz8 H2 z=>⟨ts.length-(i+1),by omega,rfl,bo,z⟩,λy H2 pq=>?_⟩;obtain⟨s2,dx,hx,rx⟩:=rj.yld i H' m3 y H2 o'.ok.live s' bo pq;have f2:=f'.later (bT (ps:=m3) s2);have wk:bJ (mask H1 ps) (mask H2 m3):=s'.trans (bT s2);have o2:=o'.grow s2;refine rg B p0 H2 m3 g8 g6 dx y _ _ o2.ok rx (hs i c dx g8 hx p') λgk kg o3 _ q3=>?_;exact rb B p0 H2 m3 gk kg T c _ _ (o2.with o3) q3 ⟨λH4 qb gm qo c4 o4 s4 q4=>⟨c4,qb,gm,o4,wk.trans s4,q4⟩,λH4 qb gm qo c4 o4 s4 q4=>f2.nx H4 qb gm qo c4 o4 s4 q4,λH4 qb gm qo c4 o4 s4 q4=>⟨c4,qb,gm,o4,wk.trans s4,q4⟩,f2.rt⟩
 ·obtain rfl:i=ts.length:=by omega
  exact .inl ⟨rj.stop _ H' sH (aL _),f'.nx H' m3 g8 g6 c o' (L2.bJ.refl _) (hd c g8 p')⟩
def WW{i:Nat}{m b tb}(hn:PE X m (pU i))(hb:sU X b tb)(hs:yH b:=by intro _ _;rfl):sU X (.Subscript m b pos) (aGh i tb):=by
 obtain⟨vb,pb,rb⟩:=hb;refine⟨_,OD bY hn pb hs,λB p0 H ps σT σ T n Q QV o h k=>?_⟩;obtain⟨ts,e,h⟩:=h;obtain⟨q,xs,h1,h2,h3,h4,h5,h6⟩:=o.ok.own i ts e;refine⟨.ref q,h1,rb B p0 H ps σT σ T n _ _ o h λn1 d y H1 s1 t1 r1 q1=>?_⟩;obtain⟨j,d',rfl,hj,q1⟩:=q1;have ne:q≠T.p:=λz=>h4 (z▸o.mem);cases r1;obtain⟨v,hv,rv⟩:=h6.atI hj;exact .inl ⟨q,xs,j,v,rfl,rfl,mN.of (s1 _ _ ne h5),hv,k n1 d' v H1 s1 t1 (rv.same (s1.mask o.mem')) q1⟩
def fnC{P w}{mg:Str->Option Value}{base K x qual st}{f:Addr}{fd}{N pn:List Str}{k:Nat}{sp:SpC}(F:SM K x qual st f fd)(S:cR N pn (bQ st))
  (dy:∀{cr}{A:i5}{outer}{s:Shared}{H E},Room k (A.deeper (o7 qual (bQ st) s.heap.objs.size f cr))->N.Nodup->∀(Tp:mM)(n:Nat)(ds:List D)(Q:Nat->D->Prop),(Tp.b=true->0<Tp.ns.length)->sp (qL Tp) n ds Q ->
   ∃t,AM (uC jW P w K mg base N qual (bQ st) f cr A outer s H E).nox (mJ st) t/\t (qL Tp) { nx:=λn _=>Q n .none,rt:=Q } n (lK N (qL Tp::ds))) (len:∀τ n ds Q,sp τ n ds Q->ds.length+1=pn.length:=by intro τ n ds Q h;(repeat obtain⟨_,h⟩:=h)<;>subst_vars<;>rfl):eK P w K mg base jW (k+1) f fd pn (nD K sp):=by
 refine F.ok S (λvs H Q E h=>?_) λcr A outer s H vs Q E hr h=>?_
 ·obtain⟨ps,T,n,ds,QD,_,_,_,r,q,_⟩:=h;rw[<- r.length];exact len _ _ ds QD q
 ·obtain⟨ps,T,n,ds,QD,live,hp,tp,r,q,k⟩:=h;obtain⟨t,⟨ts,p,rd⟩,h⟩:=dy hr S.nd T n ds QD tp.dig q;have o:=qU (N:=N) live r
  have qm:∀(i:Nat)(us:List D),(lK N (qL T::ds))[i]?≠some (.own us):=λi us e=>by
   obtain⟨q,_,_,_,hB,_,hH,_⟩:=o.own i us e;rw[hB]at hH;cases hH
  have sW:bJ (without H T.p) H:=λa u e=>by
   unfold without at e;split at e
   ·cases e
   ·exact e
  have hx:∀{H':Hp},bJ (without H T.p) H'->jP T.p H H':=λs a u ne e=>s a u (by unfold without;rw[b8 ne];exact e)
  have o2:Ok K (without H T.p) ps H ps (lK N (qL T::ds)) (L2.pY N vs):=⟨sW,o.sub,o.live,o.len,o.val,λi us e=>d8 e (qm i us),o.dis,λi hs kvs e=>by
   obtain⟨⟨q,es,_,_,hB,_,hH,_⟩,_⟩:=o.dc i hs kvs e;rw[hB]at hH;cases hH⟩
  have hm:mask (without H T.p) ps=mask H ps:=by
   funext a;unfold mask without;by_cases z:a∈ps
   ·rw[b9 z,b9 z]
   ·rw[b8 z,b8 z,b8 (λe:a=T.p=>z (e▸hp))]
  have o3:oC K (without H T.p) ps H ps (lK N (qL T::ds)) (L2.pY N vs) T n:=⟨o2,hp,by unfold without;rw[b9 rfl],tp,by rw[hm];exact tp.scr⟩;refine⟨ts,p,rd _ ps H ps _ _ T n _ _ o3 h ⟨λH' m3 g8 g6 n' o' s' q'=>?_,λ_ _ _ _ _ _ _ q'=>q'.elim,λ_ _ _ _ _ _ _ q'=>q'.elim,λn' d v H' s' t' r' q'=>k n' d v H' (hx s') t' r' q'⟩⟩;exact k n' _ _ H' (hx o'.ok.base) ⟨o'.tp.obj,L2.bJ.seq (kQ o'.ok.sub) o'.tp.scr,o'.tp.dig⟩ .none q'
end
noncomputable def kS:pS:=.inr "script"
noncomputable def kA:pS:=.inr "at"
noncomputable def kL:pS:=.inr "left"
noncomputable def kD:pS:=.inr "digits"
def kSA:¬kS=kA:=by decide +kernel
def kSL:¬kS=kL:=by decide +kernel
def kSD:¬kS=kD:=by decide +kernel
def kAL:¬kA=kL:=by decide +kernel
def kAD:¬kA=kD:=by decide +kernel
def kLD:¬kL=kD:=by decide +kernel
noncomputable def rL(T:mM)(n:Nat)(l:Int):List (pS×V):=[(kS,.ref T.q),(kA,.int n),(kL,.int l),(kD,.bl T.b)]
section
variable{T:mM}{n:Nat}{l:Int}
def aK7:wP (rL T n l) kS=some (.ref T.q):=pB rfl
def aLa:wP (rL T n l) kA=some (.int n):=by
 unfold rL;rw[mV kSA];exact pB rfl
def aK8:wP (rL T n l) kL=some (.int l):=by
 unfold rL;rw[mV kSL,mV kAL];exact pB rfl
def aK9:wP (rL T n l) kD=some (.bl T.b):=by
 unfold rL;rw[mV kSD,mV kAD,mV kLD];exact pB rfl
def aJu(m:Nat):pV (rL T n l) kA (.int m)=rL T m l:=by
 unfold pV rL;have h1:=kSA;have h2:¬kL=kA:=λz=>kAL z.symm;have h3:¬kD=kA:=λz=>kAD z.symm;simp[h1,h2,h3]
def aJt(m:Int):pV (rL T n l) kL (.int m)=rL T n m:=by
 unfold pV rL;have h1:=kSL;have h2:=kAL;have h3:¬kD=kL:=λz=>kLD z.symm;simp[h1,h2,h3]
end
theorem xN{K H}:∀ns:List Int,Reps K H (ns.map aM) (ns.map V.int)
|[]=>.nil
|i::ns=>.cons (.int i) (xN ns)
noncomputable def aNv(τ:D):D:=match τ with | .dict [(_,.list [_,_,_,l])]=>l | _=>.none
noncomputable def aO5(τ:D):D:=match τ with | .dict [(_,.list [_,_,b,_])]=>b | _=>.none
section
variable{X:Cx}{pos:Pos}{m:Expr}{i:Nat}{kj:Nat}
def xV{z}{j:Nat}{p}:R9 (.Constant (.str z) j p):=λ_ _=>rfl
def aBh(i:Nat)(Q':D->Nat->(Nat->D->Prop)->Prop):EC:=λτ n σ Q=>σ[i]?=some (.val τ)/\Q' τ n Q
def uQ{K B p0 H ps σT σ}{T:mM}{n:Nat}(o:oC K B p0 H ps σT σ T n)(h:σT[i]?=some (.val (qL T))):σ[i]?=some (some (.ref T.p)):=by
 obtain⟨v,h1,h2⟩:=o.ok.val i _ h;rw[h1,LD h2]
def aA3{k:Nat}{p2}(hr:Room k X.A)(hn:PE X m (pU i)):sU X (.Subscript m (.Constant (.str "script") kj p2) pos) (aBh i λτ n Q=>Q n (aNv τ)):=by
 refine⟨_,A0 (by have:=hr.un;omega) hn pD xV,λB p0 H ps σT σ T n Q QV o h k=>?_⟩;obtain⟨l,hl⟩:=o.tp.obj;exact⟨_,uQ o h.1,T.p,_,rfl,by rw[<- aK7];exact HB.k (k:=kS) hl,k n _ _ H .refl o.tp (.list o.tp.scr (xN _)) h.2⟩
def aA6{k:Nat}{p2}(hr:Room k X.A)(hn:PE X m (pU i)):sU X (.Subscript m (.Constant (.str "at") kj p2) pos) (aBh i λτ n Q=>Q n (.int n)):=by
 refine⟨_,A0 (by have:=hr.un;omega) hn pD xV,λB p0 H ps σT σ T n Q QV o h k=>?_⟩;obtain⟨l,hl⟩:=o.tp.obj;exact⟨_,uQ o h.1,T.p,_,rfl,by rw[<- aLa];exact HB.k (k:=kA) hl,k n _ _ H .refl o.tp (.int _) h.2⟩
def aA4{k:Nat}{p2}(hr:Room k X.A)(hn:PE X m (pU i)):sU X (.Subscript m (.Constant (.str "left") kj p2) pos) (aBh i λτ n Q=>∀l:Int,Q n (.int l)):=by
 refine⟨_,A0 (by have:=hr.un;omega) hn pD xV,λB p0 H ps σT σ T n Q QV o h k=>?_⟩;obtain⟨l,hl⟩:=o.tp.obj;exact⟨_,uQ o h.1,T.p,_,rfl,by rw[<- aK8];exact HB.k (k:=kL) hl,k n _ _ H .refl o.tp (.int _) (h.2 l)⟩
def aA5{k:Nat}{p2}(hr:Room k X.A)(hn:PE X m (pU i)):sU X (.Subscript m (.Constant (.str "digits") kj p2) pos) (aBh i λτ n Q=>Q n (aO5 τ)):=by
 refine⟨_,A0 (by have:=hr.un;omega) hn pD xV,λB p0 H ps σT σ T n Q QV o h k=>?_⟩;obtain⟨l,hl⟩:=o.tp.obj;exact⟨_,uQ o h.1,T.p,_,rfl,by rw[<- aK9];exact HB.k (k:=kD) hl,k n _ _ H .refl o.tp (.bool _) h.2⟩
def aD3{e te}(h:sU X e te)(pt:∀{t},PE X e t->PT X e (tB t)):PTc X e (aL0 te):=by
 obtain⟨v,p,r⟩:=h;refine⟨_,pt p,λB p0 H ps σT σ T n Q QV o h k=>r B p0 H ps σT σ T n _ _ o h λn1 d x H1 s1 t1 r1 q1=>?_⟩
 cases r1 with
 |bool c=>exact⟨c,rfl,k n1 c H1 s1 t1 q1⟩
 |_=>exact q1.elim
def jP.put{H}{p:Addr}{u}:jP p H (fM H p u):=λa o ne e=>by rw[cI ne];exact e
def aDh(i:Nat)(te:EC):DE:=λτ DC n σ=>te τ n σ λn1 d=>d=.int ((n1:Int)+1)/\σ[i]?=some (.val τ)/\DC.nx (n1+1) σ
def YZ{k:Nat}{p2 p3 value te}(hr:Room k X.A)(hn:PE X m (pU i))(hv:sU X value te)(hs:gX value (some (.Subscript m (.Constant (.str "at") kj p2) p3)) pos.line X.env=pure false:=by rfl) :
  XQ X (.Assign [.Subscript m (.Constant (.str "at") kj p2) p3] value pos) (aDh i te):=by
 obtain⟨v,p,r⟩:=hv;refine⟨_,OA (by have:=hr.un;omega) hn pD p hs,λB p0 H ps σT σ T n DC DV o h f=>r B p0 H ps σT σ T n _ _ o h λn1 d x H1 s1 t1 r1 q1=>?_⟩;obtain⟨rfl,hi,q1⟩:=q1;cases r1;have o1:=o.growX s1 t1;obtain⟨l,hl⟩:=t1.obj;refine⟨_,uQ o1 hi,T.p,_,rfl,SC.k (k:=kA) (v:=.int (n1+1:Nat)) hl (by show 4<bM;decide),?_⟩;show DV.nx σ (fM H1 T.p (.dK (pV (rL T n1 l) kA (.int (n1+1:Nat)))));rw[aJu];have t2:qZ X.K (fM H1 T.p (HV T (n1+1) l)) ps T (n1+1):=⟨⟨l,cM⟩,by rw[iA o.mem'];exact t1.scr,t1.dig⟩;exact f.nx _ ps σT σ (n1+1) (o1.growX .put t2) ((s1.trans .put).mask o.mem') q1
def XC(i:Nat)(te:EC):DE:=λτ DC n σ=>te τ n σ λn1 d=>(∃l:Int,d=.int l)/\σ[i]?=some (.val τ)/\DC.nx n1 σ
def NZ{k:Nat}{p2 p3 value te}(hr:Room k X.A)(hn:PE X m (pU i))(hv:sU X value te)(hs:gX value (some (.Subscript m (.Constant (.str "left") kj p2) p3)) pos.line X.env=pure false:=by rfl) :
  XQ X (.Assign [.Subscript m (.Constant (.str "left") kj p2) p3] value pos) (XC i te):=by
 obtain⟨v,p,r⟩:=hv;refine⟨_,OA (by have:=hr.un;omega) hn pD p hs,λB p0 H ps σT σ T n DC DV o h f=>r B p0 H ps σT σ T n _ _ o h λn1 d x H1 s1 t1 r1 q1=>?_⟩;obtain⟨⟨l',rfl⟩,hi,q1⟩:=q1;cases r1;have o1:=o.growX s1 t1;obtain⟨l,hl⟩:=t1.obj;refine⟨_,uQ o1 hi,T.p,_,rfl,SC.k (k:=kL) (v:=.int l') hl (by show 4<bM;decide),?_⟩;show DV.nx σ (fM H1 T.p (.dK (pV (rL T n1 l) kL (.int l'))));rw[aJt];have t2:qZ X.K (fM H1 T.p (HV T n1 l')) ps T n1:=⟨⟨l',cM⟩,by rw[iA o.mem'];exact t1.scr,t1.dig⟩;exact f.nx _ ps σT σ n1 (o1.growX .put t2) ((s1.trans .put).mask o.mem') q1
end
def NW(K:aI):Sp:=λvs H Q _=>∃(ps:List Addr)(ns:List Int)(v:V),(∀p∈ps,C1 (H p))/\vs=[v]/\fW K (mask H ps) (.list (ns.map aM)) v /\
 ∀(T:mM) H',T.ns=ns->bJ H H'->H T.p=none->H' T.p=some (HV T 0 0)->mN K (mask H' ps) T.q (T.ns.map V.int)->(T.b=true->0<T.ns.length)->Q (.ref T.p) H'
abbrev Z3(K:aI)(_:oK):Sp:=NW K
def aCg(i:Nat)(te:ET)(u:DE):rE:=λDT σ=>te σ λd=>∃ns:List Int,d=.list (ns.map aM)/\∀T:mM,T.ns=ns->(T.b=true->0<T.ns.length)->u (qL T) { nx:=λ_ _=>False,rt:=λ_ d=>DT.rt d } 0 (σ.set i (.val (qL T)))
def TK{K H ps}{q:Addr}{xs}(h:mN K (mask H ps) q xs):(q∉ps/\Rd H q (.lst xs))\/∀H',mN K H' q xs:=by
 rcases h with h | h
 ·refine .inl ⟨λz=>?_,?_⟩
  ·rcases h with h | ⟨u,h⟩
   ·unfold mask at h;rw[b9 z]at h;cases h
   ·unfold mask at h;rw[b9 z]at h;cases h
  ·rcases h with h | ⟨u,h⟩
   ·exact .inl (bP _ _ h)
   ·exact .inr ⟨u,bP _ _ h⟩
 ·exact .inr λ_=>.inr h
def YN{X:Cx}{i k:Nat}{f:Addr}{fd pn x y p px pos cp e te fK u}(F:eK X.prog X.w X.K X.mg X.base jW k f fd pn (NW X.K))
  (he:gG X e te) (hs:bS [e] X.env=(false,eval e X.env)::bS [] X.env) (pc:∀{ta},PA X [e] ta->PS X (.Assign [.Name y px] (.Call (.Name x p) [e] [] cp) pos) (wS (EB (NW X.K) [] E0 ta) (kG i))) (hu:AM X fK u) :
  rA X (.Assign [.Name y px] (.Call (.Name x p) [e] [] cp) pos::fK) (aCg i te u):=by
 obtain⟨ve,pe,re⟩:=he;obtain⟨vu,pu,ru⟩:=hu;refine⟨_,tO (pc (dY pe hU hs)) pu,λB p0 H ps σT σ DT DV o h f=>?_⟩;refine re B p0 H ps σT σ _ _ o h λd v H1 s1 r1 q1=>?_;obtain⟨ns,rfl,q1⟩:=q1;have o1:=o.grow s1;refine⟨ps,ns,v,o1.live,rfl,r1,λT H2 cg s2 hp hH hq hd=>?_⟩;subst cg;have o2:=o1.grow s2;have hB:B T.p=none:=bJ.free' (o.base.trans s1) hp;have Xs:T.p∉ps:=fE o1.live hp
 have hm:bJ (mask H1 ps) (mask H2 (T.p::ps)):=λa u e=>by
  unfold mask at e |-
  by_cases ha:a∈ps
  ·rw[b9 ha]at e;cases e
  ·rw[b8 ha]at e;have ne:a≠T.p:=λz=>by rw[z,hp]at e;cases e
   rw[b8 λz=>(bE.mp z).elim ne ha];exact s2 a u e
 have Va:(T.q∉T.p::ps/\Rd H2 T.q (.lst (T.ns.map V.int)))\/∀H',mN X.K H' T.q (T.ns.map V.int):=by
  rcases TK hq with⟨n1,h⟩ | h
  ·refine .inl ⟨λz=>?_,h⟩;rcases bE.mp z with z | z
   ·rw[z]at h;rcases h with h | ⟨u,h⟩
    ·rw[hH]at h;cases h
    ·rw[hH]at h;cases h
   ·exact n1 z
  ·exact .inr h
 have sB:bJ B (λa=>if a∈T.p::ps then B a else H2 a):=λa u e=>by
  by_cases ha:a∈T.p::ps
  ·show(if a∈T.p::ps then B a else H2 a)=_;rw[b9 ha];exact e
  ·show(if a∈T.p::ps then B a else H2 a)=_;rw[b8 ha];exact o2.base a u e
 have Qs:bJ (λa=>if a∈T.p::ps then B a else H2 a) H2:=λa u e=>by
  have e':(if a∈T.p::ps then B a else H2 a)=some u:=e;by_cases ha:a∈T.p::ps
  ·rw[b9 ha]at e';exact o2.base a u e'
  ·rw[b8 ha]at e';exact e'
 generalize Oh:(λa=>if a∈T.p::ps then B a else H2 a:Hp)=B' at sB Qs
 have Lb:∀a,a∈T.p::ps->B' a=B a:=λa ha=>by rw[<- Oh];exact b9 ha
 have Rx:∀a,a∉T.p::ps->B' a=H2 a:=λa ha=>by rw[<- Oh];exact b8 ha
 have oB:Ok X.K B' (T.p::p0) H2 (T.p::ps) σT σ:=by
  refine⟨Qs,λq hq=>?_,λq hq=>?_,o.len,λj d h=>?_,λj ts h=>?_,o.dis,o1.dc.to (λj hs kvs h=>⟨h,rfl⟩) (λq φ a b _=>⟨aO _ a,(s2 _ _ b).trans b.symm⟩) (λq φ a b c d=>⟨(Lb q (aO _ a)).trans c,λz=>by
   rcases bE.mp z with z | z
   ·rw[z,hp]at b;cases b
   ·exact d z⟩) hm⟩
  ·rcases bE.mp hq with z | z
   ·exact z▸aS ..
   ·exact aO _ (o.sub q z)
  ·rcases bE.mp hq with z | z
   ·rw[z,hH];exact⟨_,rfl,rfl⟩
   ·exact o2.live q z
  ·obtain⟨v,h1,h2⟩:=o1.val j d h;exact⟨v,h1,h2.same hm⟩
  ·obtain⟨q,xs,h1,h2,h3,h4,h5,h6⟩:=o1.own j ts h;refine⟨q,xs,h1,aO _ h2,(Lb q (aO _ h2)).trans h3,λz=>?_,s2 _ _ h5,h6.same hm⟩;rcases bE.mp z with z | z
   ·rw[z,hp]at h5;cases h5
   ·exact h4 z
 have sq:∀{H':Hp}{m3:List Addr},(∀a,a∈m3->a∈T.p::ps)->(∀a,a∉T.p::ps->H' a=H2 a)->mN X.K (mask H' m3) T.q (T.ns.map V.int):=λ{H' m3} h1 h2=>by
  rcases Va with⟨n1,h⟩ | h
  ·have e:mask H' m3 T.q=H2 T.q:=by
    unfold mask;rw[b8 λz=>n1 (h1 _ z),h2 _ n1]
   rcases h with h | ⟨u,h⟩
   ·exact .inl (.inl (e.trans h))
   ·exact .inl (.inr ⟨u,e.trans h⟩)
  ·exact h _
 have Su:mN X.K (mask B' (T.p::p0)) T.q (T.ns.map V.int):=sq (λa ha=>by
  rcases bE.mp ha with z | z
  ·exact z▸aS ..
  ·exact aO _ (o.sub a z)) Rx
 have Vd:mN X.K (mask H2 (T.p::ps)) T.q (T.ns.map V.int):=sq (λ_ z=>z) λ_ _=>rfl;refine ru B' (T.p::p0) H2 (T.p::ps) _ _ T 0 _ DV ⟨oB.set (aEp T),aS ..,(Lb _ (aS ..)).trans hB,⟨⟨0,hH⟩,Vd,hd⟩,Su⟩ (q1 T rfl hd) ⟨λ_ _ _ _ _ _ _ q'=>q'.elim,λ_ _ _ _ _ _ _ q'=>q'.elim,λ_ _ _ _ _ _ _ q'=>q'.elim,λn' d v H' s' t' r' q'=>?_⟩;exact f.rt d v H' (sB.trans s') (r'.same (kQ λq hq=>aO _ hq)) q'
def Q8(T:mM):wW [] (rL T 0 0)=rL T 0 0:=by
 have h1:=kSA;have h2:=kSL;have h3:=kSD;have h4:=kAL;have h5:=kAD;have h6:=kLD;unfold wW rL;simp[pV,h1,h2,h3,h4,h5,h6]
def aLf{P w}{mg:Str->Option Value}{base K}{x qual:Str}{st}{f:Addr}{fd}{n1 n2:Str}{k:Nat}(F:SM K x qual st f fd)(S:cR [n1,n2] [n1] (bQ st))
  (dy:∀(cr:Value)(A:i5)outer(s:Shared)H E,Room k (A.deeper (o7 qual (bQ st) s.heap.objs.size f cr)) ->
   ∃(Fz:Stmt)(e2:Expr)(pos:Pos)(te:ET),mJ st=[Fz,.Return (some e2) pos]/\sT (uC jW P w K mg base [n1,n2] qual (bQ st) f cr A outer s H E).nox Fz (AE 1 te) /\
    PE (uC jW P w K mg base [n1,n2] qual (bQ st) f cr A outer s H E).nox e2 (aB6 [(tC (.str "script"),pU 0),(tC (.str "at"),tC (.int 0)),(tC (.str "left"),tC (.int 0)),(tC (.str "digits"),pU 1)]) /\
    ∀(ns:List Int)(Q:D->Prop),(∀b:Bool,(b=true->0<ns.length)->Q (.bool b))->te [.val (.list (ns.map aM)),.un] Q):eK P w K mg base jW (k+1) f fd [n1] (NW K):=by
 refine F.ok S (λvs H Q E h=>?_) λcr A outer s H vs Q E hr h=>?_
 ·obtain⟨ps,ns,v,_,rfl,_⟩:=h
  rfl
 ·obtain⟨ps,ns,v,live,rfl,r,k⟩:=h;obtain⟨Fz,e2,pos,te,hb,⟨t1,p1,r1⟩,p2,ht⟩:=dy cr A outer s H E hr;rw[hb];refine⟨_,tO p1 (F8 (BU p2)),?_⟩;have o:=qU (N:=[n1,n2]) (ds:=[.list (ns.map aM)]) live (.cons r .nil);refine r1 H ps H ps _ _ { nx:=λg8=>∃b:Bool,(b=true->0<ns.length)/\g8=[.val (.list (ns.map aM)),.val (.bool b)],rt:=λ_=>False } _ o (ht ns _ λb hb=>⟨b,hb,rfl⟩) ⟨λH' m3 g8 g6 o' s' q'=>?_,λ_ _ _ _ _ _ q'=>q'.elim,λ_ _ _ _ _ _ q'=>q'.elim,λ_ _ _ _ _ q'=>q'.elim,λ_ _ _ _ _ _ _ _ _ q'=>q'.elim,λ_ _ _ _ _ _ _ _ _ _ _ _ _ _ _ _ _ _ q'=>q'.elim,λ_ _ _ _ _ _ _ _ _ _ _ _ _ _ q'=>q'.elim,i8⟩;obtain⟨b,hb,rfl⟩:=q';obtain⟨v0,e0,r0⟩:=o'.val 0 _ rfl;obtain⟨v1,e1,r1⟩:=o'.val 1 _ rfl;cases r1;intro p hp;refine⟨v0,e0,.bl b,e1,cM,?_⟩
  cases r0 with
  |@list q xs _ hq rs=>
   have e:=uS rs;subst e;refine⟨rL ⟨p,q,ns,b⟩ 0 0,rfl,(by show 4<=15;decide),?_⟩;rw[Q8];have Pp:H p=none:=bJ.free' o'.base hp;refine k ⟨p,q,ns,b⟩ _ rfl (λa u e=>?_) Pp cM ?_ hb
   ·have ne:a≠p:=λz=>by rw[z,Pp]at e;cases e
    rw[cI ne,cI ne];exact o'.base a u e
   ·refine L2.bJ.seq (λa u e=>?_) hq;unfold mask at e |-
    by_cases ha:a∈m3
    ·rw[b9 ha]at e;cases e
    ·rw[b8 ha]at e;have ne:a≠p:=λz=>by rw[z,hp]at e;cases e
     rw[b8 λz=>ha (o'.sub a z),cI ne,cI ne];exact e
section
variable{t:rE}{u:DE}{τ:D}{DC:C8}{n:Nat}{σ:List Sl}{i:Nat}{te:EC}
def kN(h:iY t (λ_=>u τ DC n) { nx:=λ_=>True,rt:=DC.rt n,bk:=DC.bk n,ct:=DC.ct n } σ):pL (sP t) u τ DC n σ:=h
def PL(v:D)(h:∀q:Nat->D->Prop,q n v->te τ n σ q)(k:u τ DC n (σ.set i (.val v))):pL (MW i te) u τ DC n σ:=h (λn1 d=>u τ DC n1 (σ.set i (.val d))) k
def jC(R:Nat->D->Prop)(h:∀q:Nat->D->Prop,(∀m v,R m v->q m v)->te τ n σ q)(k:∀m v,R m v->u τ DC m (σ.set i (.val v))):pL (MW i te) u τ DC n σ:=h _ k
def aBe(R:Nat->D->Prop)(h:∀q:Nat->D->Prop,(∀m v,R m v->q m v)->te τ n σ q)(k:∀m v,R m v->DC.nx m (σ.set i (.val v))):MW i te τ DC n σ:=h _ k
def W7{c:TC}{t e:DE}(b:Bool)(h:∀q:Nat->Bool->Prop,q n b->c τ n σ q)(k1:b=true->t τ { DC with nx:=u τ DC } n σ)(k0:b=false->e τ { DC with nx:=u τ DC } n σ):pL (cIf c t e) u τ DC n σ:=by
 refine h _ ?_
 cases b with
 |true=>rw[b9 rfl];exact k1 rfl
 |false=>rw[b8 (by decide)];exact k0 rfl
def aGd{c:TC}{t e:DE}(R:Nat->Bool->Prop)(h:∀q:Nat->Bool->Prop,(∀m b,R m b->q m b)->c τ n σ q)(k1:∀m,R m true->t τ { DC with nx:=u τ DC } m σ)(k0:∀m,R m false->e τ { DC with nx:=u τ DC } m σ):pL (cIf c t e) u τ DC n σ:=by
 refine h _ λm b hb=>?_
 cases b with
 |true=>rw[b9 rfl];exact k1 m hb
 |false=>rw[b8 (by decide)];exact k0 m hb
def W6{c:TC}(jc:σ[i]?=some (.val τ))(b:Bool)(h:∀q:Nat->Bool->Prop,q n b->c τ n σ q)(hp:∀q:Nat->D->Prop,(∀l:Int,q n (.int l))->te τ n σ q)(k:u τ DC n σ):pL (cIf c (XC i te) CQ) u τ DC n σ:=by
 refine W7 b h (λ_=>?_) λ_=>k;exact hp _ λl=>⟨⟨l,rfl⟩,jc,k⟩
def W5{c:TC}(C:Prop)(R:Nat->Prop)(Rv:D->Prop)(h:∀q:Nat->Bool->Prop,(∀m b,R m->(b=true->C)->q m b)->c τ n σ q)(d0:D)(h0:σ[i]?=some (.val d0))(r0:Rv d0)(S:Nat->Prop)(hS:∀m,R m->S m)(hp:∀m,R m->C->∀q:Nat->D->Prop,(∀m' d,S m'->Rv d->q m' d)->te τ m σ q)(k:∀m d,S m->Rv d->u τ DC m (σ.set i (.val d))):pL (cIf c (MW i te) CQ) u τ DC n σ:=by
 refine h _ λm b hb hC=>?_
 cases b with
 |true=>rw[b9 rfl];exact hp m hb (hC rfl) _ λm' d hm hd=>k m' d hm hd
 |false=>
  rw[b8 (by decide)]
  have e:σ.set i (.val d0)=σ:=by
   apply gZ;intro j;by_cases hj:i=j
   ·subst hj;rw[aV (aD.mp h0).1,h0]
   ·rw[aU hj]
  have:=k m d0 (hS m hb) r0;rw[e]at this;exact this
def RX{c:TC}{tp:ET}(C:Prop)(S:Nat->Prop)(Rv:D->Prop)(h:∀q:Nat->Bool->Prop,(∀m b,S m->(b=true->C)->q m b)->c τ n σ q)(d0:D)(h0:σ[i]?=some (.val d0))(r0:Rv d0)(hp:C->∀q:D->Prop,(∀d,Rv d->q d)->tp σ q)(k:∀m d,S m->Rv d->u τ DC m (σ.set i (.val d))):pL (cIf c (sP (AE i tp)) CQ) u τ DC n σ:=by
 refine h _ λm b hm hb=>?_
 cases b with
 |true=>rw[b9 rfl];exact hp (hb rfl) _ λd hd=>k m d hm hd
 |false=>
  rw[b8 (by decide)]
  have e:σ.set i (.val d0)=σ:=by
   apply gZ;intro j;by_cases hj:i=j
   ·subst hj;rw[aV (aD.mp h0).1,h0]
   ·rw[aU hj]
  have:=k m d0 hm r0;rw[e]at this;exact this
def aLx{ti}{ts:List D}{g:GT}{tb}(nj:qO ti σ ts)(P:Nat->Nat->List Sl->Prop)(h0:P 0 n σ)
  (hs:∀(k m:Nat)(x:D)g6,ts[k]?=some x->P k m g6->g x g6 λz8=>tb τ { DC with nx:=P (k+1),ct:=P (k+1),bk:=DC.nx } m z8) (hd:∀m g6,P ts.length m g6->DC.nx m g6):aBi ti g tb τ DC n σ:=nj _ ⟨P,h0,hs,hd⟩
def W8{ti}{ts:List D}{g:GT}{tb}(nj:qO ti σ ts)(P:Nat->Nat->List Sl->Prop)(h0:P 0 n σ)
  (hs:∀(k m:Nat)(x:D)g6,ts[k]?=some x->P k m g6->g x g6 λz8=>tb τ { DC with nx:=P (k+1),ct:=P (k+1),bk:=u τ DC } m z8) (hd:∀m g6,P ts.length m g6->u τ DC m g6):pL (aBi ti g tb) u τ DC n σ:=
 aLx (DC:={ DC with nx:=u τ DC }) nj P h0 hs hd
def XA{fr ti}{ts:List D}{Q:Nat->D->Prop}(nj:qO ti σ ts)(R:Nat->D->D->Prop)(C:Nat)(hz:ts.length<=100000)
  (ht:∀(k m:Nat)(x:D)(q:Nat->D->Prop),ts[k]?=some x->m<=n+C*k->(∀m' y,m'<=m+C->R k x y->q m' y)->te τ m ((jF fr σ).set 0 (.val x)) q)
  (hq:∀(m:Nat)(ys:List D),m<=n+C*ts.length->ys.length=ts.length->(∀(k:Nat)(x y:D),ts[k]?=some x->ys[k]?=some y->R k x y)->Q m (.list ys)):cLc fr ti (gN 0) te τ n σ Q:=by
 refine nj _ ⟨hz,λk m g6 ds=>(∀x,g6.set 0 (.val x)=(jF fr σ).set 0 (.val x))/\m<=n+C*k/\ds.length=k/\∀(j:Nat)(x y:D),ts[j]?=some x->ds[j]?=some y->R j x y,⟨λ_=>rfl,by omega,rfl,λj x y _ h=>by simp at h⟩,λk m x g6 ds hx h=>?_,λm g6 ds h=>hq m ds h.2.1 h.2.2.1 h.2.2.2⟩;obtain⟨h1,h2,h3,h4⟩:=h;show te τ m (g6.set 0 (.val x)) _;rw[h1 x];refine ht k m x _ hx h2 λm' y hm hy=>⟨λz=>set_set _ _ _ _,?_,by simp[h3],λj x' y' e1 e2=>?_⟩
 ·rw[aMk];omega
 ·by_cases hj:j<k
  ·rw[cQ (by omega)]at e2;exact h4 j x' y' e1 e2
  ·rw[cN (by omega)]at e2
   have:j=k:=by
    by_cases e:j=k
    ·exact e
    ·have:j-ds.length≠0:=by omega
     cases q:j-ds.length with
     |zero=>exact d8 q this
     |succ n=>rw[q]at e2;simp at e2
   subst this;rw[hx]at e1;cases e1;simp[h3]at e2;subst e2;exact hy
end
section
variable{X:Cx}
noncomputable def mC(i:Int)(n:Nat):List D:=(aZ n).map λk:Nat=>aM (i+(k:Int))
def aAm(t:AT):IT:=λσ Q=>t σ λds=>∃i j:Int,ds=[.int i,.int j]/\(-(2^62)<=i/\i<2^62/\-(2^62)<=j/\j<2^62)/\Q (mC i (j-i).toNat)
def RH{tg a b t p p'}(ha:yQ X [a,b] t)(pr:∀{ta},PA X [a,b] ta->PI X tg (.Call (.Name "range" p) [a,b] [] p') (aC2 ta)):D3 X tg (.Call (.Name "range" p) [a,b] [] p') (aAm t):=by
 obtain⟨va,pa,ra⟩:=ha;refine⟨_,pr pa,λB p0 H ps σT σ Q R o h k=>ra B p0 H ps σT σ _ _ o h λds xs H1 s1 r1 q1=>?_⟩;obtain⟨i,j,rfl,hb,q⟩:=q1
 cases r1 with
 |cons r1 r2=>
  cases r2 with
  |cons r2 r3=>
   cases r3;cases r1;cases r2;refine⟨i,j,rfl,hb,k (mC i (j-i).toNat) _ H1 s1 ?_ q⟩;have hl:(mC i (j-i).toNat).length=(j-i).toNat:=by unfold mC;simp
   refine⟨λi H _ e=>by rw[hl]at e;exact e,λi H _ e=>by rw[hl]at e;exact e,λm H ps y H' _ _ e hy=>?_⟩;obtain⟨rfl,rfl⟩:=hy;rw[hl]at e;refine⟨L2.bJ.refl _,.int (i+m),?_,.int _⟩;unfold mC;rw[aH,iX e];rfl
end
end TL
namespace L2
open AutoSeq1 (wpAny_loadPart')
section
variable{prog:bX}{w:g7}{A:i5}{E:Value->Shared->Prop}{s:Shared}
def J0{Q:List Value->Shared->Prop}{r:Addr}{a b c:Int}{t u v}{n:Nat}(hh:A.handled=none)(hr:IsRange s.heap r a b c t u v)(sj:bd a b c=true)(hn:j3 a b c=n)(o8:n<=2^24)
  (hQ:∀h' tk acc,(∀b o,s.heap.get? b=some o->h'.get? b=some o)->ItemsOf (λi v=>∃t,v=.int (a+i*c) t) acc n->Q acc.toList { s with heap:=h',toks:=tk }):wpAny (model prog w) A (collect (.ref r)) Q E s:=by
 unfold collect;refine aA (wpAny_runValue (fg PySem.F.entry_proto_collect ?_));rw[ci PySem.F.plain_proto_collect _];show wpAny _ A.in1 (newList [] >>= λl=>again (.builtin "list.__iadd__" ⟨[l,.ref r],[]⟩)) _ _ s;refine aA (eD ?_);refine aF ⟨jy FO _,fg PySem.F.entry_list_iadd ?_⟩;rw[ci FO _];have hS:(s.heap.push { cls:=.type "list",data:=.seq ([]:List Value).toArray }).get? s.heap.objs.size=some { cls:=.type "list",data:=.seq #[] }:=aW _ rfl;show wpAny _ A.in1 (v8 (.ref s.heap.objs.size) (.ref r) (.ref s.heap.objs.size)) _ _ _
 refine fV (wpAny_extend_range (A:=A) (R:=λr s'=>r=.ok (.ret (.ref s.heap.objs.size))/\∃h' tk acc c',s'={ s with heap:=h',toks:=tk }/\(∀b o,b≠s.heap.objs.size->(s.heap.push { cls:=.type "list",data:=.seq ([]:List Value).toArray }).get? b=some o->h'.get? b=some o)/\h'.get? s.heap.objs.size=some { cls:=.type "list",dict:=none,data:=.seq acc c',slots:=#[] }/\ItemsOf (λi v=>∃t,v=.int (a+i*c) t) acc n)
  (s:={ s with heap:=s.heap.push { cls:=.type "list",data:=.seq ([]:List Value).toArray } }) hh (aK _ hr) sj hn o8 s.heap.objs.size (.ref s.heap.objs.size) 0 hS λh' tk acc c' hk Gz y4=>⟨rfl,h',tk,acc,c',rfl,hk,Gz,y4⟩) (λfin s' h=>?_) (λe s' h=>d8 h.1 (by simp))
 cases fin with
 |done f=>
  obtain⟨e,h',tk,acc,c',rfl,hk,Gz,y4⟩:=h;cases e
  (show wpAny _ A (load s.heap.objs.size >>= _) _ _ _;exact aA (ub Gz (aF (hQ h' tk acc (λb o e=>hk b o (bZ (bG e)) (aK _ e)) y4))))
 |again c'=>
  exact⟨h.1,aj h.2 λr wk hr=>by
   obtain⟨rfl,h',tk,acc,Wy,rfl,hk,Gz,y4⟩:=hr
   (show wpAny _ A (load s.heap.objs.size >>= _) _ _ _;exact aA (ub Gz (aF (hQ h' tk acc (λb o e=>hk b o (bZ (bG e)) (aK _ e)) y4))))⟩
def AI(r:Addr)(a b c:Int)(t u v:Tok)(n:Nat)(sj:bd a b c=true)(hn:j3 a b c=n)(o8:n<=2^24) :
  Meets (fi.«tuple.__new__» ⟨[.type "tuple",.ref r],[]⟩)
   (λA R s=>A.handled=none/\IsRange s.heap r a b c t u v/\∀(h':Heap)(tk:Nat)(acc:Array Value),(∀b o,s.heap.get? b=some o->h'.get? b=some o)->ItemsOf (λi v=>∃t,v=.int (a+i*c) t) acc n ->
    R (.ok (.ret (.ref h'.objs.size))) { s with heap:=h'.push { cls:=.type "tuple",data:=.seq acc },toks:=tk }):=
 .of_wp λprog w A R s h=>by
  obtain⟨hh,hr,h⟩:=h;have fj:=sub_tuple_self;have Pf:=init_tuple_lookup;have Xr:=madeHere_tuple;have hT:s.TypeIs (.ref r) "range":=⟨_,hr,rfl⟩;have To:A.in1.handled=none:=hh
  wp_walk using im hr,fk hT,J0 (A:=A.in1) To hr sj hn o8
  intro h' tk acc hk y4;show wpAny _ _ (l6 acc.toList.toArray >>= λv=>ret v) _ _ _;unfold l6;refine aA (eD ?_ (show acc.toList.toArray.size<=bM by simp only[Array.toArray_toList];rw[y4.1,bw];omega));refine aF ⟨_,rfl,?_⟩;have e:acc.toList.toArray=acc:=by simp
  rw[e];exact h h' tk acc hk y4
end
section
variable{X:Cx}
def nF(hc:X.calm=true):kB X (.type "tuple") (λxs H Q=>∃(r:Addr)(j:Int),xs=[.ref r]/\H r=some (.ext (BO r j))/\0<=j/\j<=100000/\∀p,H p=none->Q (.ref p) (fM H p (.tup ((aZ j.toNat).map λ(k:Nat)=>V.int (k:Int))))):=by
 intro b7 s σ H xs us Q I r h;obtain⟨r',j,rfl,hr,h0,h1,q⟩:=h;obtain⟨u,rfl,ru⟩:=nX r;cases ru;obtain⟨⟨t,u,v,hR⟩,_,_⟩:iE X.prog X.w H s.heap r' (.ext (BO r' j)):=I.hok r' _ hr;have hL:bM=2^24:=rfl;have hn:j3 0 j 1=((j.toNat:Nat):Int):=by rw[rangeSize_one];split<;>omega
 refine callType_new PySem.F.called_tuple (by decide) (PySem.F.typeCall_tuple_1 _) (PySem.F.newCall_tuple_1 _) (λobj=>PySem.F.args_object_init_2 obj _) PySem.F.entry_tuple_new
  (AI r' 0 j 1 t u v j.toNat (small_one (by decide) (by decide) (by omega) (by omega)) hn (by omega)) ⟨I.ok.hd hc,hR,λh' tk acc hk cf=>⟨⟨_,aW _ rfl,rfl⟩,?_⟩⟩
 have I1:dS X b7 σ H { s with heap:=h',toks:=tk }:=I.kept (t':=tk) hk;refine⟨.ref h'.objs.size,_,I1.laid (t':=tk) (o:=.tup ((aZ j.toNat).map λ(k:Nat)=>V.int (k:Int))) (λb o e=>aK _ e) (aL _) ?_,rfl,q _ (I1.hok.fresh (aL _))⟩;refine⟨by rw[aB,dN];omega,acc.toList,?_,by simpa using CY.new h' acc⟩;rw[List.range_eq_range'];refine HP j.toNat 0 acc.toList (by rw[bB];exact cf.1) λi v hv=>?_;obtain⟨t,ht⟩:=cf.2 i v (by simpa using hv);exact⟨t,by rw[ht];congr 1;omega⟩
end
end L2
namespace TL
open L2
section
variable{X:Cx}{a:Expr}
def aLo(t:AT):ET:=λσ Q=>t σ λds=>∃n:Int,ds=[.int n]/\0<=n/\n<=100000/\Q (.tuple (gL n.toNat))
def A6{t q1 q2 q3 q4}(ha:yQ X [a] t)(pc:∀{ta},PA X [a] ta->PE X (.Call (.Name "tuple" q1) [.Call (.Name "range" q2) [a] [] q3] [] q4) (NN (λxs H Q=>∃(r:Addr)(j:Int),xs=[.ref r]/\H r=some (.ext (BO r j))/\0<=j/\j<=100000/\∀p,H p=none->Q (.ref p) (fM H p (.tup ((aZ j.toNat).map λ(k:Nat)=>V.int (k:Int))))) (nY (NN (λxs H Q=>∃j:Int,xs=[.int j]/\∀r,H r=none->Q (.ref r) (fM H r (.ext (BO r j)))) ta) xJ))):gG X (.Call (.Name "tuple" q1) [.Call (.Name "range" q2) [a] [] q3] [] q4) (aLo t):=by
 obtain⟨va,pa,ra⟩:=ha;refine⟨_,pc pa,λB p0 H ps σT σ Q QV o h k=>ra B p0 H ps σT σ _ _ o h λds xs H1 s1 r1 q1=>?_⟩;obtain⟨n,rfl,h0,h1,q⟩:=q1
 cases r1 with
 |cons r2 r3=>
  cases r3;cases r2;refine⟨n,rfl,λr hr=>⟨r,n,rfl,cM,h0,h1,λp hp=>?_⟩⟩;have o1:=(o.grow s1).grow (dL (o:=.ext (BO r n)) hr);exact k _ _ _ ((s1.trans (dL hr)).trans (dL hp)) (rN o1.live hp (IK _)) q
end
end TL
namespace L2
open TL
section
variable{X:Cx}{tg:Expr}
def MO{lo:Int}(h1:0<=lo)(h2:lo<=100000):j3 lo 0 (-1)=lo/\bd lo 0 (-1)=true:=by
 have e:j3 lo 0 (-1)=lo:=by
  unfold j3;simp only[show¬((-1:Int)>0) by decide,p8,Int.neg_neg,aMp];split<;>omega
 refine⟨e,?_⟩;unfold bd;rw[e];simp only[Builtin.Range.rangeFitsLong,bU,uP,k9,om,show¬((-1:Int)>0) by decide,p8];omega
def WE(ta:TA):TI:=λσ H R=>ta σ H λvs H1=>∃i:Int,vs=[.int i,.int 0,.int (-1)]/\0<=i/\i<=100000/\R (aMc i i.toNat) H1
def IQ{a b c ta p pos}(hg:Gl X "range")(hm:X.mg "range"=none)(ha:PA X [a,b,c] ta)(hs:bS [a,b,c] X.env=[(false,eval a X.env),(false,eval b X.env),(false,eval c X.env)]:=by rfl)(yx:bS [b,c] X.env=[(false,eval b X.env),(false,eval c X.env)]:=by rfl) :
  PI X tg (.Call (.Name "range" p) [a,b,c] [] pos) (WE ta):=by
 intro b7 s σ H R I h;refine Call_ (wX I hg hm Dq (o6 (iZ (ha pos b7 s σ H _ I h) λus s1 zq=>?_) (by rw[hs,yx]) (by rw[yx];rfl)));obtain⟨vs,H1,I1,r1,q1⟩:=zq;obtain⟨i,e,g1,g2,q⟩:=q1;subst e
 cases r1 with
 |cons r rr=>
  cases rr with
  |cons r' rr=>
   cases rr with
   |cons Wh rr=>
    cases rr;obtain⟨t,rfl⟩:=r;obtain⟨t',rfl⟩:=r';obtain⟨Gb,rfl⟩:=Wh;obtain⟨z1,z2⟩:=MO g1 g2;refine call_range_3 (by decide) ?_ (.inl (mq (by omega)));refine Fe (IsRange.new ..) z2 ?_;have I2:dS X b7 σ H1 { s1 with heap:=s1.heap.push { cls:=.type "range",data:=.fields #[.int i t,.int 0 t',.int (-1) Gb] },toks:=s1.toks }:=I1.kept λb o e=>aK _ e
    refine⟨(s1.heap.push { cls:=.type "range",data:=.fields #[.int i t,.int 0 t',.int (-1) Gb] }).objs.size,[(s1.heap.push { cls:=.type "range",data:=.fields #[.int i t,.int 0 t',.int (-1) Gb] }).objs.size],_,_,H1,rfl,
     I2.kept (t':=s1.toks) λb o e=>aK _ e,QB _ i i.toNat,?_,λb hb=>?_,q⟩
    ·have e1:i+((0:Nat):Int)*(-1)=i:=by simp
     have e2:((i.toNat:Nat):Int)-((0:Nat):Int)=j3 i 0 (-1):=by rw[z1];omega
     show ol _ _ (i+((0:Nat):Int)*(-1)) (((i.toNat:Nat):Int)-((0:Nat):Int)) (-1);rw[e1,e2];exact aW _ rfl
    ·have e:b=(s1.heap.push { cls:=.type "range",data:=.fields #[.int i t,.int 0 t',.int (-1) Gb] }).objs.size:=by simpa using hb
     subst e;exact I2.fpOk (aL _) (I2.hok.fresh (aL _))
end
end L2
namespace TL
open L2
section
variable{X:Cx}{e:Expr}
noncomputable def pK(i:Int):List D:=(aZ i.toNat).map λ(k:Nat)=>aM (i-(k:Int))
def aAn(t:AT):IT:=λσ Q=>t σ λds=>∃i:Int,ds=[.int i,.int 0,.int (-1)]/\0<=i/\i<=100000/\Q (pK i)
def JM{tg a b c t p p'}(ha:yQ X [a,b,c] t)(pr:∀{ta},PA X [a,b,c] ta->PI X tg (.Call (.Name "range" p) [a,b,c] [] p') (WE ta)):D3 X tg (.Call (.Name "range" p) [a,b,c] [] p') (aAn t):=by
 obtain⟨va,pa,ra⟩:=ha;refine⟨_,pr pa,λB p0 H ps σT σ Q R o h k=>ra B p0 H ps σT σ _ _ o h λds xs H1 s1 r1 q1=>?_⟩;obtain⟨i,rfl,g1,g2,q⟩:=q1
 cases r1 with
 |cons r1 r2=>
  cases r2 with
  |cons r2 r3=>
   cases r3 with
   |cons r3 r4=>
    cases r4;cases r1;cases r2;cases r3;refine⟨i,rfl,g1,g2,k (pK i) _ H1 s1 ?_ q⟩;have hl:(pK i).length=i.toNat:=by unfold pK;simp
    refine⟨λj H _ e=>by rw[hl]at e;exact e,λj H _ e=>by rw[hl]at e;exact e,λj H ps y H' _ _ e hy=>?_⟩;obtain⟨rfl,rfl⟩:=hy;refine⟨L2.bJ.refl _,.int (i-j),?_,.int _⟩;rw[hl]at e;unfold pK;rw[aH,iX e];rfl
end
section
variable{X:Cx}{e:Expr}{te:ET}{x:Str}{pos o9:Pos}
def ss(i:Nat)(hN:X.N.Nodup)(h:gG X e te)(hi:X.N[i]?=some x:=by rfl)(hx:SA X.env.scope x:=by first | exact ag rfl | exact y8 rfl)(hs:gX e (some (.Name x o9)) pos.line X.env=pure false:=by rfl)
  (hf:X.fn x=true\/X.env.scope.names.lookup x=some .local:=by first | exact .inl rfl | exact .inr rfl):sT X (.Assign [.Name x o9] e pos) (AE i te):=TD (i:=i) h λh=>tP hN hi hx h hs hf
def pn(i:Nat)(hN:X.N.Nodup)(hi:X.N[i]?=some x:=by rfl)(hx:SA X.env.scope x:=by first | exact ag rfl | exact y8 rfl)(hf:X.fn x=true\/X.env.scope.names.lookup x=some .local:=by first | exact .inl rfl | exact .inr rfl):PG X (.Name x pos) (kG i):=OC hN hi hx hf
def pH{N P:List Str}{sc:Scope}(h1:sc.kind=.function:=by rfl)(h2:sc.isCoroutine=false:=by rfl)(h3:sc.isGenerator=false:=by rfl)(h4:N.Nodup:=by decide +kernel)(h5:N.take P.length=P:=by rfl)(h6:∀x∈P,sc.names.lookup x=some .local\/sc.names.lookup x=some .cell:=by decide +kernel)(h7:∀y∈sc.names,y.2≠.free:=by decide +kernel):cR N P sc:=⟨h1,h2,h3,h4,h5,h6,h7⟩
end
end TL
namespace L2
section
def stored{h:Heap}{a:Addr}{o:Obj}{es es'}{ep:Nat}{t t'}(ho:h.get? a=some o)(hd:o.data=.set es ep t) :
  (h.update a (je es' t')).get? a=some { o with data:=.set es' (ep+1) t' }:=by
 have:=iG (je es' t') ho (by rw[putSet_of es' t' hd];rfl);rw[putSet_of es' t' hd]at this;exact this
end
abbrev wJ(l:List Nat):Prop:=l.Pairwise (·<·)
def Cut(xs:Array Nat)(j r:Nat):Prop:=r<=xs.size/\(∀i v,i<r->xs[i]?=some v->v<j)/\∀i v,r<=i->xs[i]?=some v->j<=v
def AZ{xs:Array Nat}(h:wJ xs.toList){i k a b:Nat}(Ts:i<k)(ha:xs[i]?=some a)(hb:xs[k]?=some b):a<b:=by
 rw[<- cU]at ha hb;obtain⟨h1,rfl⟩:=aD.mp ha;obtain⟨h2,rfl⟩:=aD.mp hb;exact List.pairwise_iff_getElem.mp h i k h1 h2 Ts
theorem CT{xs:Array Nat}(h:wJ xs.toList)(j:Nat):∀(fuel lo hi:Nat),hi-lo<=fuel->lo<=hi->hi<=xs.size->(∀i v,i<lo->xs[i]?=some v->v<j)->(∀i v,hi<=i->xs[i]?=some v->j<=v)->Cut xs j (lm xs j fuel lo hi)
|0,lo,hi,h1,h2,h3,h4,h5=>by
 obtain rfl:lo=hi:=by omega
 exact⟨h3,h4,h5⟩
|fuel+1,lo,hi,h1,h2,h3,h4,h5=>by
 unfold lm;by_cases bo:lo<hi
 ·rw[b9 bo];dsimp only;have hm:(lo+hi) / 2<hi:=by omega
  have Kg:lo<=(lo+hi) / 2:=by omega
  generalize (lo+hi) / 2=mid at hm Kg
  have Ed:xs[mid]?=some xs[mid]:=cZ (by omega);rw[lI,Ed,SQ];by_cases hv:xs[mid]<j
  ·rw[b9 hv];refine CT h j fuel (mid+1) hi (by omega) (by omega) h3 (λi v yt e=>?_) h5;rcases aMl i mid with q | q
   ·have:=AZ h q e Ed;omega
   ·obtain rfl:i=mid:=by omega
    rw[Ed]at e;cases e;exact hv
  ·rw[b8 hv];refine CT h j fuel lo mid (by omega) Kg (by omega) h4 λi v yt e=>?_;rcases aMl mid i with q | q
   ·have:=AZ h q Ed e;omega
   ·obtain rfl:i=mid:=by omega
    rw[Ed]at e;cases e;omega
 ·rw[b8 bo];obtain rfl:lo=hi:=by omega
  exact⟨h3,h4,h5⟩
def zH{xs:Array Nat}(h:wJ xs.toList)(j:Nat):Cut xs j (j7 xs j):=
 CT h j xs.size 0 xs.size (by omega) (cL _) (aL _) (λi v z=>d8 z (jS _)) λi v z e=>by
  have:=(dU.mp e).1;omega
def WJ(j:Nat):SetTable.has #[] j=false:=rfl
def IN{t:SetTable}(h:wJ t.place.toList)(hd:t.dummies=#[]){j:Nat}(hs:t.slot j=.empty):wJ (t.put j).1.place.toList/\(t.put j).1.dummies=#[]/\(t.put j).1.led=t.led:=by
 unfold SetTable.put;dsimp only;refine⟨?_,by rw[hd];rfl,rfl⟩
 have hn:t.place[j7 t.place j]?≠some j:=λz=>by
  unfold lh at hs;dsimp only at hs;rw[z,b9 (by simp)]at hs;cases hs
 obtain⟨h1,h2,h3⟩:=zH h j
 generalize j7 t.place j=p at hn h1 h2 h3
 rw[t3];have get:∀i v,t.place.toList[i]?=some v->t.place[i]?=some v:=λi v e=>by rw[<- cU];exact e
 refine List.pairwise_append.mpr ⟨h.sublist (zX ..),List.pairwise_cons.mpr ⟨λv hv=>?_,h.sublist (List.drop_sublist ..)⟩,λa ha b hb=>?_⟩
 ·obtain⟨i,hi⟩:=bK hv;rw[jE]at hi;have g:=get _ _ hi;have:=h3 _ _ (by omega) g;by_cases Tq:i=0
  ·subst Tq;have:v≠j:=λz=>hn (by rw[<- z];exact g);omega
  ·have gy:p<t.place.size:=by have:=(dU.mp g).1;omega
   have e0:t.place[p]?=some t.place[p]:=cZ gy;have:=AZ h (show p<p+i by omega) e0 g;have:=h3 _ _ (aL _) e0;omega
 ·obtain⟨i,hi⟩:=bK ha
  have Pg:i<p:=by
   have:=(aD.mp hi).1;rw[bA]at this;omega
  rw[rH Pg]at hi;have l1:=h2 _ _ Pg (get _ _ hi);rcases bE.mp hb with rfl | hb
  ·exact l1
  ·obtain⟨k,hk⟩:=bK hb;rw[jE]at hk;have:=h3 _ _ (by omega) (get _ _ hk);omega
section
noncomputable def oJ(S T:Addr)(n ep i:Nat):Array Value:=#[.ref T,.int i 0,.ref S,.int n 0,.int ep 0]
end
open TL
def WQ{es ks xs}(ex:EX es ks xs)(k:D):(eh xs k).isSome=decide (k∈ks):=by
 have h1:=ex.1;by_cases hk:k∈ks
 ·rw[d7 hk];rw[<- h1]at hk;obtain⟨x,hx,e⟩:=aQ.mp hk;unfold eh;rw[qQ];exact AA.mpr ⟨x,hx,by simpa using e⟩
 ·rw[f9 hk];unfold eh;rw[qQ,XY];intro z;obtain⟨x,hx,e⟩:=AA.mp z;exact hk (by rw[<- h1];exact aQ.mpr ⟨x,hx,by simpa using e⟩)
def aJn(Fx:Bool)(K:aI)(w:g7):R2:=λx y H Q=>∃(p a:Addr)(es:List (Int×Addr×V))(ks:List D)(k:D),x=.ref a/\y=.ref p/\C3 H p es/\DK K w H es ks/\fW K H k x/\iV k/\Q (.bl (if Fx=true then !decide (k∈ks)else decide (k∈ks))) H
section
variable{X:Cx}
def QZ(hu:X.A.units+9<m4):nP X (i3 .NotIn) (aJn true X.K X.w):=by
 intro b7 s σ H x y v u Q I rx ry h;obtain⟨p,a,es,ks,k,rfl,rfl,hp,dk,rk,ok,q⟩:=h;cases rx;cases ry;obtain⟨h1,h2,xs,x1,x2⟩:=zD I hp dk;refine wpAny_notIn_heap (show X.A.units+1+8<m4 by omega) (wY I rk ok) h1 x2 ?_;rw[WQ x1];exact⟨_,H,I.tok _,(show fX (.bl _) (z4 _)from rfl),q⟩
end
end L2
namespace TL
open L2
section
variable{tk:ET}
def aLs(Fx:Bool)(w:g7)(i:Nat)(tk:ET):ET:=λσ Q=>tk σ λk=>∃kvs,σ[i]?=some (oA w kvs)/\xH k/\(∀kv∈kvs,iV kv.1)/\∀z:Bool,(z=true↔k∈kvs.map (·.1))->Q (.bool (if Fx=true then !z else z))
end
def X7{X:Cx}{e n tk pos}{i:Nat}{op}{Fx:Bool}(ho:nP X (i3 op) (aJn Fx X.K X.w))(hn:PE X n (pU i))(gw:gG X e tk)(hm:v9 op n=false:=by first | exact B1 _ | rfl):KM X (.Compare e [op] [n] pos) (FE (aLs Fx X.w i tk)):=by
 obtain⟨vk,pk,rk⟩:=gw;refine⟨_,F7 ho pk hn hm,λB p0 H ps σT σ Q QV o h k=>rk B p0 H ps σT σ _ _ o h λkd z H1 s1 r1 q1=>?_⟩;obtain⟨kvs,hi,⟨jh,ys,rfl⟩,hok,q⟩:=q1;obtain⟨⟨p,es,jc,x⟩,u⟩:=(o.grow s1).isDic hi;obtain⟨a,rfl⟩:=mO r1;exact⟨.ref p,jc,p,a,es,kvs.map (·.1),_,rfl,rfl,.inl x.obj,(pA (w:=X.w) x.hsh x.nd hok x.ks).same bP,r1.same bP,jh,_,rfl,k _ H1 s1 (q _ (by rw[i4]))⟩
section
structure Gh(K:aI)(B:Hp)(p0:List Addr)(H0:Hp)(ps:List Addr)(H:Hp)(σT:List Sl)(σ:L2.St)(T:mM)(n i:Nat)(z:Addr):Prop where
 o:oC K B p0 H ps σT σ T n
 r:∀l,oC K B p0 (fM H z (.lst l)) ps (σT.set i .un) σ T n
 s:∀l,bJ (mask H0 ps) (mask (fM H z (.lst l)) ps)
 nt:z≠T.p
 h:∃t x y zs,σ[i]?=some (some (.ref t))/\H t=some (.tup [x,y,.ref z])/\H z=some (.lst zs)/\zs.length<=100000
end
structure Fam where
 I:Type
 S:Type
 ad:I->List Addr
 tau:I->D
 At:I->aI->Hp->List Addr->S->Prop
 to:∀{T:I}{K:aI}{H H':Hp}{ps m3:List Addr}{n:S},At T K H ps n->(∀a∈ad T,H' a=H a)->bJ (mask H ps) (mask H' m3)->At T K H' m3 n
 liv:∀{T:I}{K:aI}{H:Hp}{ps:List Addr}{n:S},At T K H ps n->∀a∈ad T,C1 (H a)
 inj:∀{T T':I},tau T=tau T'->T=T'
section
variable{F:Fam}
structure aMg(F:Fam) where
 nx:F.S->List Sl->Prop
 rt:F.S->D->Prop
 bk:F.S->List Sl->Prop:=λ_ _=>False
 ct:F.S->List Sl->Prop:=λ_ _=>False
 xB:Hp->List Addr->Prop:=λ_ _=>True
end
end TL
namespace L2
noncomputable def G9(mask:Nat)(p:dh):dh:=if p.more>0 then{ p with j:=p.j+1,more:=p.more-1 }else
 { p with j:=(bi mask p.i p.perturb).1,more:=w5 mask (bi mask p.i p.perturb).1-(bi mask p.i p.perturb).1,i:=(bi mask p.i p.perturb).1,perturb:=(bi mask p.i p.perturb).2 }
def XI(t:SetTable)(p:dh):t.advance p=G9 t.mask p:=by
 unfold SetTable.advance G9;split<;>rfl
noncomputable def rd(mask:Nat)(h:Int):Nat->dh
|0=>{ j:=j6 h%(mask+1),more:=w5 mask (j6 h%(mask+1))-j6 h%(mask+1),i:=j6 h%(mask+1),perturb:=j6 h,dummy:=none }
|n+1=>G9 mask (rd mask h n)
noncomputable def lp(mask:Nat)(h:Int):Nat->Nat×Nat
|0=>(j6 h%(mask+1),j6 h)
|n+1=>bi mask (lp mask h n).1 (lp mask h n).2
noncomputable def rl(mask i:Nat):Nat:=w5 mask i-i
noncomputable def ix(mask:Nat)(h:Int):Nat->Nat
|0=>0
|n+1=>ix mask h n+rl mask (lp mask h n).1+1
def aJg(mask i:Nat):rl mask i<=9:=by
 unfold rl w5;split<;>omega
theorem LE(mask:Nat)(h:Int)(n:Nat):∀r,r<=(rd mask h n).more->rd mask h (n+r)={ rd mask h n with j:=(rd mask h n).j+r,more:=(rd mask h n).more-r }
|0,_=>rfl
|r+1,hr=>by
 show G9 mask (rd mask h (n+r))=_;rw[LE mask h n r (by omega)];unfold G9;rw[b9 (show(rd mask h n).more-r>0 by omega)]
 rfl
theorem N4(mask:Nat)(h:Int):∀k,rd mask h (ix mask h k)={ j:=(lp mask h k).1,more:=rl mask (lp mask h k).1,i:=(lp mask h k).1,perturb:=(lp mask h k).2,dummy:=none }
|0=>rfl
|k+1=>by
 have ih:=N4 mask h k;have e:=LE mask h (ix mask h k) (rl mask (lp mask h k).1) (by rw[ih];exact aL _);show G9 mask (rd mask h (ix mask h k+rl mask (lp mask h k).1))=_;rw[e,ih];unfold G9;rw[b8 (show¬(rl mask (lp mask h k).1-rl mask (lp mask h k).1>0) by omega)]
 rfl
def Y9(mask:Nat)(h:Int)(k r:Nat)(hr:r<=rl mask (lp mask h k).1):(rd mask h (ix mask h k+r)).j=(lp mask h k).1+r:=by
 rw[LE mask h _ r (by rw[N4];exact hr),N4]
theorem T6(mask:Nat)(h:Int):∀n,(rd mask h n).dummy=none
|0=>rfl
|n+1=>by
 show(G9 mask _).dummy=none;unfold G9;split<;>exact T6 mask h n
theorem aC0(mask:Nat)(h:Int):∀k,ix mask h k<=10*k
|0=>aL _
|k+1=>by
 have:=aC0 mask h k;have:=aJg mask (lp mask h k).1;show ix mask h k+rl mask (lp mask h k).1+1<=_;omega
noncomputable def DU(mask:Nat):Nat->Nat->Nat
|0,i=>i
|n+1,i=>DU mask n ((i*5+1)%(mask+1))
theorem uA(mask:Nat):∀a b i,DU mask (a+b) i=DU mask b (DU mask a i)
|0,b,i=>by rw[Nat.zero_add];rfl
|a+1,b,i=>by
 rw[show a+1+b=a+b+1 by omega];exact uA mask a b _
noncomputable def aE1(mask:Nat):Nat->Nat->List Nat
|0,_=>[]
|n+1,i=>i::aE1 mask n ((i*5+1)%(mask+1))
theorem OH(mask:Nat):∀n i j,j∈aE1 mask n i->∃m,m<n/\DU mask m i=j
|0,i,j,h=>by cases h
|n+1,i,j,h=>by
 rcases bE.mp h with rfl | h
 ·exact⟨0,by omega,rfl⟩
 ·obtain⟨m,hm,e⟩:=OH mask n _ j h;exact⟨m+1,by omega,e⟩
noncomputable def tU:List Nat:=[7,31,127,511]
def ZL:∀m∈tU,(∀j∈aZ (m+1),(aE1 m (m+1) 0).contains j=true)/\DU m (m+1) 0=0:=by decide +kernel
def WP{mask:Nat}(hm:mask∈tU){s j:Nat}(hs:s<=mask)(hj:j<=mask):∃m,m<=mask/\DU mask m s=j:=by
 obtain⟨h1,h2⟩:=ZL mask hm;have get:∀x,x<=mask->∃b,b<mask+1/\DU mask b 0=x:=λx hx=>OH mask _ _ _ (by simpa using h1 x (dF.mpr (by omega)));obtain⟨a,ha,rfl⟩:=get s hs;obtain⟨b,hb,rfl⟩:=get j hj;by_cases Du:a<=b
 ·exact⟨b-a,by omega,by rw[<- uA,show a+(b-a)=b by omega]⟩
 ·refine⟨mask+1-a+b,by omega,?_⟩;rw[<- uA,show a+(mask+1-a+b)=mask+1+b by omega,uA,h2]
theorem VO(mask:Nat)(h:Int):∀k,(lp mask h k).2=j6 h / 32^k
|0=>by rw[Nat.pow_zero,Nat.div_one];rfl
|k+1=>by
 show(lp mask h k).2 / 32=_;rw[VO mask h k,Nat.div_div_eq_div_mul,AS]
def aBm(h:Int):j6 h<2^64:=by
 unfold j6;have:=nL h (show(0:Int)<2^64 by decide);have:=pR h (show(2^64:Int)≠0 by decide);omega
def Z2(mask:Nat)(h:Int):∀m,(lp mask h (13+m)).1=DU mask m (lp mask h 13).1:=by
 have z:∀k,13<=k->(lp mask h k).2=0:=λk hk=>by
  rw[VO];refine Nat.div_eq_of_lt (cK (aBm h) ?_);exact dG (show 2^64<=32^13 by decide) (oW (by decide) hk)
 have st:∀k,13<=k->(lp mask h (k+1)).1=((lp mask h k).1*5+1)%(mask+1):=λk hk=>by
  show((lp mask h k).1*5+1+(lp mask h k).2 / 32)%(mask+1)=_;rw[z k hk]
 intro m
 induction m with
 |zero=>rfl
 |succ m ih=>
  rw[uA mask m 1];show(lp mask h (13+m+1)).1=(DU mask m _*5+1)%(mask+1);rw[st _ (by omega),ih]
def aCy(mask:Nat)(h:Int):∀k,(lp mask h k).1<=mask
|0=>X3 (lD _ (aMi _))
|k+1=>X3 (lD _ (aMi _))
def IJ{mask:Nat}(hm:mask∈tU)(h:Int){j:Nat}(hj:j<=mask):∃k,k<mask+15/\(lp mask h k).1=j:=by
 obtain⟨m,h1,h2⟩:=WP hm (aCy mask h 13) hj;exact⟨13+m,by omega,(Z2 mask h m).trans h2⟩
def QK{mask:Nat}(hm:mask∈tU)(h:Int){j:Nat}(hj:j<=mask):∃n,n<10*(mask+15)/\(rd mask h n).j=j:=by
 obtain⟨k,h1,h2⟩:=IJ hm h hj;refine⟨ix mask h k,zL (aC0 mask h k) (by omega),?_⟩;rw[N4];exact h2
def uR{t:SetTable}(h:wJ t.place.toList){i j:Nat}(e:t.place[i]?=some j):t.slot j=.live i:=by
 obtain⟨h1,h2,h3⟩:=zH h j
 have:j7 t.place j=i:=by
  generalize j7 t.place j=r at h1 h2 h3
  rcases rG r i with q | q | q
  ·have hr:r<t.place.size:=by have:=(dU.mp e).1;omega
   have e1:t.place[r]?=some t.place[r]:=cZ hr;have:=h3 r _ (aL _) e1;have:=AZ h q e1 e;omega
  ·exact q
  ·have:=h2 i _ q e;omega
 unfold lh;dsimp only;rw[this,e,b9 (by simp)]
def xL{t:SetTable}(h:wJ t.place.toList)(hd:t.dummies=#[])(j:Nat):(∃i,t.slot j=.live i/\t.place[i]?=some j)\/(t.slot j=.empty/\j∉t.place.toList):=by
 by_cases hj:j∈t.place.toList
 ·obtain⟨i,hi⟩:=bK hj;rw[cU]at hi;exact .inl ⟨i,uR h hi,hi⟩
 ·refine .inr ⟨?_,hj⟩;unfold lh;dsimp only;rw[hd,WJ,b8,b8 (by decide)];intro z;refine hj ?_;have z':t.place[j7 t.place j]?=some j:=by simpa using z
  rw[<- cU]at z';exact aN z'
theorem uY{α:Type}[DecidableEq α]:∀{ls ms:List α},ls.Nodup->(∀x∈ls,x∈ms)->ls.length<=ms.length
|[],ms,_,_=>cL _
|a::l,ms,hn,h=>by
 have ha:=h a (aS ..);have:=uY (ls:=l) (ms:=ms.erase a) (jR.mp hn).2 λx hx=>(P6 (λe:x=a=>(jR.mp hn).1 (e▸hx))).mpr (h x (aO _ hx));rw[HM ha]at this;have hp:=KO ha;rw[cH];omega
def MG{ps:List Nat}{mask:Nat}(h:ps.length<=mask):∃j,j<=mask/\j∉ps:=by
 refine j0 λhn=>?_;have:=uY (ls:=aZ (mask+1)) (ms:=ps) BB λx hx=>j0 λz=>hn ⟨x,by have:=dF.mp hx;omega,z⟩;rw[dN]at this;omega
theorem O2{t:SetTable}(hr:wJ t.place.toList)(hd:t.dummies=#[])(hA:Nat->Int)(h:Int):∀(fuel n e:Nat),n<=e->e<n+fuel->t.slot (rd t.mask h e).j=.empty ->
 ∃m,n<=m/\m<=e/\(∀k,n<=k->k<m->∃i,t.slot (rd t.mask h k).j=.live i/\hA i≠h) /\
  ((cq t hA h fuel (rd t.mask h n)=some (.empty (rd t.mask h m).j none)/\t.slot (rd t.mask h m).j=.empty) \/
   ∃i,cq t hA h fuel (rd t.mask h n)=some (.candidate (rd t.mask h m).j i (rd t.mask h (m+1)))/\t.slot (rd t.mask h m).j=.live i/\hA i=h/\m+1<=e)
|0,n,e,h1,h2,_=>by omega
|fuel+1,n,e,h1,h2,he=>by
 unfold cq;rcases xL hr hd (rd t.mask h n).j with⟨i,hi,_⟩ | ⟨hi,_⟩
 ·have ne:n≠e:=λz=>by rw[z,he]at hi;cases hi
  rw[hi];dsimp only;by_cases hh:hA i=h
  ·rw[b9 (by simpa using hh),XI];exact⟨n,aL _,h1,λk a b=>by omega,.inr ⟨i,rfl,hi,hh,by omega⟩⟩
  ·rw[b8 (by simpa using hh),XI];obtain⟨m,g1,g2,g3,g4⟩:=O2 hr hd hA h fuel (n+1) e (by omega) (by omega) he;refine⟨m,by omega,g2,λk a b=>?_,g4⟩;by_cases hk:k=n
   ·rw[hk];exact⟨i,hi,hh⟩
   ·exact g3 k (by omega) b
 ·rw[hi];dsimp only;rw[T6];exact⟨n,aL _,h1,λk a b=>by omega,.inl ⟨rfl,hi⟩⟩
def Pth(mask:Nat)(occ:Nat->Prop)(h:Int)(p:Nat):Prop:=∃n,(rd mask h n).j=p/\∀m,m<n->occ (rd mask h m).j
def Pth.more{mask:Nat}{o o':Nat->Prop}{h:Int}{p:Nat}(x:Pth mask o h p)(k:∀j,o j->o' j):Pth mask o' h p:=
 let ⟨n,a,b⟩:=x;⟨n,a,λm hm=>k _ (b m hm)⟩
structure SL(led:Bool)(t:SetTable)(es:List (Int×Value)):Prop where
 msk:t.mask∈tU
 dum:t.dummies=#[]
 rise:wJ t.place.toList
 size:t.place.size=es.length
 room:es.length*5<t.mask*3
 led:t.led=led
 path:∀(i:Nat)(e:Int×Value)(p:Nat),es[i]?=some e->t.place[i]?=some p->Pth t.mask (·∈t.place.toList) e.1 p
def SL.new(led:Bool):SL led (.fresh 0 0 led) []:=⟨(by decide:(7:Nat)∈tU),rfl,.nil,rfl,(by decide:0*5<7*3),rfl,λi e p h=>by simp at h⟩
theorem SL.fill{led:Bool}{t:SetTable}{es:List (Int×Value)}(b:SL led t es):t.fill=es.length:=by
 unfold SetTable.fill;rw[b.dum,b.size];rfl
def vA:∀m∈tU,m%2=1/\7<=m/\m<=511:=by decide
theorem SL.fits{led:Bool}{t:SetTable}{es:Array (Int×Value)}(b:SL led t es.toList):t.fits es.size=true:=by
 unfold SetTable.fits;have:=b.size;have hr:=b.room;have:=vA _ b.msk;rw[bB]at *;rw[b.fill,bU];refine⟨by simpa using b.size.trans (bB ..),?_⟩;rw[k9,bB];omega
def Occ(ow:Array (Option Nat))(j:Nat):Prop:=∃q,ow[j]?=some (some q)
def aEn{mask i:Nat}(h:i<=mask):w5 mask i+1-i=rl mask i+1/\i+rl mask i<=mask:=by
 unfold rl w5;split<;>omega
theorem E9{mask:Nat}{ow:Array (Option Nat)}(hz:ow.size=mask+1)(h:Int):∀(fuel k e:Nat),k<=e->e<k+fuel->ow[(lp mask h e).1]?=some none->(∀m,m<ix mask h k->Occ ow (rd mask h m).j) ->
 ∃n,t0 mask ow fuel (lp mask h k).1 (lp mask h k).2=some (rd mask h n).j/\ow[(rd mask h n).j]?=some none/\∀m,m<n->Occ ow (rd mask h m).j
|0,k,e,h1,h2,_,_=>by omega
|fuel+1,k,e,h1,h2,he,hm=>by
 obtain⟨e1,e2⟩:=aEn (aCy mask h k)
 have val:∀r,r<=rl mask (lp mask h k).1->(ow[(lp mask h k).1+r]?=some none/\(ow.getD ((lp mask h k).1+r) (some 0)).isNone=true)\/(Occ ow ((lp mask h k).1+r)/\(ow.getD ((lp mask h k).1+r) (some 0)).isNone=false):=λr hr=>by
  have hb:(lp mask h k).1+r<ow.size:=by omega
  have hg:ow[(lp mask h k).1+r]?=some ow[(lp mask h k).1+r]:=cZ hb;rw[lI,hg,SQ]
  cases hv:ow[(lp mask h k).1+r]with
  |none=>exact .inl ⟨rfl,rfl⟩
  |some q=>exact .inr ⟨⟨q,by rw[hg,hv]⟩,rfl⟩
 unfold t0
 cases hf:(aZ (w5 mask (lp mask h k).1+1-(lp mask h k).1)).find? λr=>(ow.getD ((lp mask h k).1+r) (some 0)).isNone with
 |some r=>
  obtain⟨g1,g2,g3⟩:=List.find?_range_eq_some.mp hf;have hr:r<=rl mask (lp mask h k).1:=by have:=dF.mp g2;omega
  refine⟨ix mask h k+r,by rw[Y9 mask h k r hr],?_,λm Pk=>?_⟩
  ·rw[Y9 mask h k r hr];rcases val r hr with⟨v,_⟩ | ⟨_,v⟩
   ·exact v
   ·rw[v]at g1;cases g1
  ·by_cases hk:m<ix mask h k
   ·exact hm m hk
   ·have em:m=ix mask h k+(m-ix mask h k):=by omega
    rw[em,Y9 mask h k _ (by omega)];rcases val (m-ix mask h k) (by omega)with⟨_,v⟩ | ⟨v,_⟩
    ·have:=g3 (m-ix mask h k) (by omega);rw[v]at this;cases this
    ·exact v
 |none=>
  have g:=List.find?_range_eq_none.mp hf
  have occ:∀r,r<=rl mask (lp mask h k).1->Occ ow ((lp mask h k).1+r):=λr hr=>by
   rcases val r hr with⟨_,v⟩ | ⟨v,_⟩
   ·have:=g r (by omega);rw[v]at this;cases this
   ·exact v
  have ne:k≠e:=λz=>by
   subst z;obtain⟨q,hq⟩:=occ 0 (cL _);rw[NG,he]at hq;cases hq
  dsimp only;refine E9 hz h fuel (k+1) e (by omega) (by omega) he λm Pk=>?_;have Uo:m<ix mask h k+rl mask (lp mask h k).1+1:=Pk;by_cases hk:m<ix mask h k
  ·exact hm m hk
  ·have em:m=ix mask h k+(m-ix mask h k):=by omega
   rw[em,Y9 mask h k _ (by omega)];exact occ _ (by omega)
structure OwI(mask:Nat)(hs:List Int)(ow:Array (Option Nat))(k:Nat):Prop where
 size:ow.size=mask+1
 at_:∀j q:Nat,ow[j]?=some (some q)->q<k/\∃h,hs[q]?=some h/\Pth mask (Occ ow) h j
 all:∀q:Nat,q<k->∃j:Nat,ow[j]?=some (some q)
 inj:∀j j' q:Nat,ow[j]?=some (some q)->ow[j']?=some (some q)->j=j'
def OwI.free{mask k:Nat}{hs ow}(o:OwI mask hs ow k)(hk:k<=mask):∃j,j<=mask/\ow[j]?=some none:=by
 refine j0 λhn=>?_
 have ex:∀j,j<=mask->ow[j]?=some (some ((ow[j]?.getD none).getD 0)):=λj hj=>by
  have Tt:j<ow.size:=by have:=o.size;omega
  have hg:ow[j]?=some ow[j]:=cZ Tt
  cases hv:ow[j]with
  |none=>exact d8 ⟨j,hj,by rw[hg,hv]⟩ hn
  |some q=>rw[hg,hv];rfl
 have:=uY (ls:=(aZ (mask+1)).map λj=>(ow[j]?.getD none).getD 0) (ms:=aZ k) (eP.mpr (jB.imp_of_mem (λ{a b} ha hb Du=>λz=>?_) gY)) λx hx=>?_
 ·rw[aB,dN,dN]at this;omega
 ·have h1:=ex a (by have:=dF.mp ha;omega);have h2:=ex b (by have:=dF.mp hb;omega);rw[z]at h1;have:=o.inj a b _ h1 h2;omega
 ·obtain⟨j,hj,rfl⟩:=aQ.mp hx;exact dF.mpr (o.at_ j _ (ex j (by have:=dF.mp hj;omega))).1
def OwI.put{mask k:Nat}{hs}{ow:Array (Option Nat)}(o:OwI mask hs ow k){h:Int}{n:Nat}(hh:hs[k]?=some h)(hf:ow[(rd mask h n).j]?=some none)(hp:∀m,m<n->Occ ow (rd mask h m).j):OwI mask hs (ow.setIfInBounds (rd mask h n).j (some k)) (k+1):=by
 generalize hJ:(rd mask h n).j=J at hf
 have hb:J<ow.size:=(dU.mp hf).1;have g1:(ow.setIfInBounds J (some k))[J]?=some (some k):=by rw[Array.getElem?_setIfInBounds_self_of_lt hb]
 have g2:∀j,j≠J->(ow.setIfInBounds J (some k))[j]?=ow[j]?:=λj hj=>nV (l8 hj);have up:∀j,Occ ow j->Occ (ow.setIfInBounds J (some k)) j:=λj ⟨q,hq⟩=>⟨q,by rw[g2 j λz=>by rw[z,hf]at hq;cases hq];exact hq⟩;refine⟨by rw[Array.size_setIfInBounds];exact o.size,λj q hq=>?_,λq hq=>?_,λj j' q h1 h2=>?_⟩
 ·by_cases z:j=J
  ·subst z;rw[g1]at hq;cases hq;exact⟨by omega,h,hh,n,hJ,λm hm=>up _ (hp m hm)⟩
  ·rw[g2 j z]at hq;obtain⟨a,h',b,c⟩:=o.at_ j q hq;exact⟨by omega,h',b,c.more up⟩
 ·by_cases z:q=k
  ·exact⟨J,by rw[z];exact g1⟩
  ·obtain⟨j,hj⟩:=o.all q (by omega);exact⟨j,by rw[g2 j λz=>by rw[z,hf]at hj;cases hj];exact hj⟩
 ·have Fw:∀i,i≠J->(ow.setIfInBounds J (some k))[i]?=some (some q)->q<k:=λi hi e=>by rw[g2 i hi]at e;exact(o.at_ i q e).1
  by_cases z:j=J
  ·by_cases z':j'=J
   ·rw[z,z']
   ·have:=Fw j' z' h2;rw[z,g1]at h1;cases h1;omega
  ·by_cases z':j'=J
   ·have:=Fw j z h1;rw[z',g1]at h2;cases h2;omega
   ·rw[g2 j z]at h1;rw[g2 j' z']at h2;exact o.inj j j' q h1 h2
theorem CN{mask:Nat}(hm:mask∈tU){hs:List Int}(hn:hs.length<=mask):∀(l pre:List Int)(ow:Array (Option Nat)),hs=pre++l->OwI mask hs ow pre.length ->
 ∃Ks,l.foldl (λacc h=>do
  let (owner,k) <- acc
  let j <- t0 mask owner (u6 mask) (j6 h%(mask+1)) (j6 h)
  pure (owner.setIfInBounds j (some k),k+1)) (some (ow,pre.length))=some (Ks,hs.length)/\OwI mask hs Ks hs.length
|[],pre,ow,e,o=>⟨ow,by rw[e,dP];rfl,by rw[show hs.length=pre.length by rw[e,dP]];exact o⟩
|h::l,pre,ow,e,o=>by
 have hl:pre.length<hs.length:=by rw[e,bC,cH];omega
 obtain⟨j,hj,hf⟩:=o.free (by omega);obtain⟨k,hk,rfl⟩:=IJ hm h hj;obtain⟨n,g1,g2,g3⟩:=E9 o.size h (u6 mask) 0 k (cL _) (by unfold u6;omega) hf λm z=>d8 z (jS _);have hh:hs[pre.length]?=some h:=by rw[e,cN (aL _),AR];rfl
 obtain⟨Ks,a,b⟩:=CN hm hn l (pre++[h]) _ (by rw[e];simp) (by rw[bC];exact o.put hh g2 g3);refine⟨Ks,?_,b⟩;rw[List.foldl_cons];rw[bC]at a
 have:(do
  let (owner,k) <- some (ow,pre.length)
  let j <- t0 mask owner (u6 mask) (j6 h%(mask+1)) (j6 h)
  pure (owner.setIfInBounds j (some k),k+1))=some (ow.setIfInBounds (rd mask h n).j (some pre.length),pre.length+1):=by
  show(t0 mask ow (u6 mask) (lp mask h 0).1 (lp mask h 0).2 >>= _)=_;rw[g1];rfl
 rw[this];exact a
theorem MI{α β:Type}(f:α->Option β):∀(l:List α),(∀q∈l,(f q).isSome=true)->∀r:Nat,(l.filterMap f)[r]?=l[r]?.bind f
|[],_,r=>by simp
|a::l,h,r=>by
 obtain⟨b,hb⟩:=FQ.mp (h a (aS ..));rw[List.filterMap_cons_some hb]
 cases r with
 |zero=>exact hb.symm
 |succ r=>exact MI f l (λq hq=>h q (aO _ hq)) r
def QL{led:Bool}{t:SetTable}{es:Array (Int×Value)}{wanted mask:Nat}(hw:dj wanted-1=mask)(hm:mask∈tU)(hn:es.size*5<mask*3)(hl:t.led=led) :
  ∃t' kz,t.relaid (es.map (·.1)) wanted=some (t',kz)/\(kz.filterMap (es[·]?)).size=es.size/\SL led t' (kz.filterMap (es[·]?)).toList/\(kz.filterMap (es[·]?)).toList.Perm es.toList:=by
 have o8:(es.map (·.1)).toList.length=es.size:=by simp
 have h7:=vA _ hm
 obtain⟨ow,h1,o⟩:=CN hm (hs:=(es.map (·.1)).toList) (by omega) (es.map (·.1)).toList [] (Array.replicate (mask+1) none) rfl ⟨by simp,λj q e=>by
  rw[HI]at e;split at e<;>simp at e,λq hq=>d8 hq (jS _),λj j' q e=>by
  rw[HI]at e;split at e<;>simp at e⟩
 rw[o8]at h1 o
 have hc:qq mask (es.map (·.1))=some ow:=by
  unfold qq;rw[<- Array.foldl_toList];exact i6 (Option.map (·.1)) h1
 let live:=(aZ (mask+1)).filterMap λj=>(ow.getD j none).map (j,·)
 have mm:∀j q,(j,q)∈live↔ow[j]?=some (some q):=λj q=>by
  constructor
  ·intro hx;obtain⟨i,hi,e⟩:=mT.mp hx;rw[lI]at e
   cases hv:ow[i]? with
   |none=>rw[hv]at e;cases e
   |some v=>
    rw[hv]at e
    cases v with
    |none=>cases e
    |some v=>cases e;exact hv
  ·intro hx;refine mT.mpr ⟨j,dF.mpr ?_,?_⟩
   ·have:=(dU.mp hx).1;have:=o.size;omega
   ·rw[lI,hx];rfl
 have Qj:live.Pairwise λa b=>a.1<b.1:=List.pairwise_filterMap.mpr (jB.imp (λ{a b} Du x hx y hy=>by
  obtain⟨_,_,rfl⟩:=bL.mp hx;obtain⟨_,_,rfl⟩:=bL.mp hy;exact Du) gY)
 have Wf:(live.map (·.2)).Nodup:=eP.mpr (jB.imp_of_mem (λ{a b} ha hb Du z=>by
  have e1:=(mm a.1 a.2).mp ha;have e2:=(mm b.1 b.2).mp hb;rw[z]at e1;have:=o.inj _ _ _ e1 e2;omega) Qj)
 have Iy:∀q,q∈live.map (·.2)↔q<es.size:=λq=>by
  constructor
  ·intro hq;obtain⟨x,hx,rfl⟩:=aQ.mp hq;exact(o.at_ x.1 x.2 ((mm x.1 x.2).mp hx)).1
  ·intro hq;obtain⟨j,hj⟩:=o.all q hq;exact aQ.mpr ⟨(j,q),(mm j q).mpr hj,rfl⟩
 have Dl:(live.map (·.2)).Perm (aZ es.size):=(lU Wf BB).mpr λq=>by rw[Iy,dF]
 have Ja:∀q∈live.map (·.2),((λi=>es[i]?) q).isSome=true:=λq hq=>by
  have fu:=(Iy q).mp hq;rw[show(λi=>es[i]?) q=some es[q]from cZ fu];rfl
 have e2:((live.map (·.2)).toArray.filterMap (es[·]?)).toList=(live.map (·.2)).filterMap (es[·]?):=by simp
 have uk:((live.map (·.2)).filterMap (es[·]?)).Perm es.toList:=by
  refine(Dl.filterMap _).trans (BD.of_eq ?_);refine gZ λi=>?_;rw[MI _ _ λq hq=>by have fu:=dF.mp hq;rw[show es[q]?=some es[q]from cZ fu];rfl];by_cases hi:i<es.size
  ·rw[iX hi,cU];rfl
  ·rw[gB (by rw[dN];omega),gB (by rw[bB];omega)];rfl
 have hsz:((live.map (·.2)).toArray.filterMap (es[·]?)).size=es.size:=by
  rw[<- bB,e2,uk.length_eq,bB]
 have Uh:live.length=es.size:=by
  have:=Dl.length_eq;rw[aB,dN]at this;exact this
 refine⟨_,(live.map (·.2)).toArray,by unfold SetTable.relaid SetTable.laid;rw[hw,hc];rfl,hsz,?_,by rw[e2];exact uk⟩;rw[e2];refine⟨hm,rfl,?_,?_,?_,hl,λi e p he hp=>?_⟩
 ·show wJ (live.map (·.1));exact eP.mpr Qj
 ·show(live.map (·.1)).toArray.size=_;rw[bO,aB,Uh,uk.length_eq,bB]
 ·rw[uk.length_eq,bB];exact hn
 ·rw[MI _ _ Ja,aH]at he
  replace hp:(live.map (·.1)).toArray[i]?=some p:=hp
  rw[List.getElem?_toArray]at hp;rw[aH]at hp;obtain⟨x,hx,rfl⟩:=bL.mp hp;rw[hx]at he
  replace he:es[x.2]?=some e:=he
  obtain⟨_,h',a,b⟩:=o.at_ x.1 x.2 ((mm x.1 x.2).mp (aN hx))
  have:h'=e.1:=by
   rw[cU,Array.getElem?_map,he]at a;exact(e9 a).symm
  subst this;refine b.more λj zq=>?_;obtain⟨q,hq⟩:=zq;show j∈(live.map (·.1)).toArray.toList;rw[List.toList_toArray];exact aQ.mpr ⟨(j,q),(mm j q).mpr hq,rfl⟩
mutual
theorem uD(prog:bX)(w:g7)(s:Shared):∀(d:j4)A E(v:Value)as(n:Nat)(Q:Bool->Shared->Prop),Reads s.heap v d as->hk d=true->d.depth<=n->Q false s->wpAny (model prog w) A (v4 n v) Q E s
|.none,A,E,_,_,n,Q,r,_,_,q=>by cases r;unfold v4;exact aF q
|.int i,A,E,_,_,n,Q,r,_,_,q=>by cases r;unfold v4;exact aF q
|.str x,A,E,_,_,n,Q,r,_,_,q=>by cases r;unfold v4;exact aF q
|.tuple xs,A,E,_,_,0,Q,r,_,hn,q=>by
 have:cA xs+1<=0:=hn;omega
|.tuple xs,A,E,_,_,n+1,Q,r,h,hn,q=>by
 cases r with
 |@tuple a o vs m _ _ h1 h2 h3 h4=>
  have hT:s.TypeIs (.ref a) "tuple":=⟨o,h1,h2⟩;have hn':cA xs+1<=n+1:=hn;unfold v4;refine aA (fk hT ?_);dsimp only;rw[b9 (show("tuple"=="tuple")=true from rfl)];refine aA (aF ?_);rw[b8 (show¬((!true)=true) by decide)];refine aA (jl h1 h3 ?_);dsimp only;refine aA ?_;rw[<- pX];refine ak _ (λfK r s'=>r.1=none/\s'=s/\∀v∈fK,∀(Q:Bool->Shared->Prop),Q false s->wpAny (model prog w) A (v4 n v) Q E s) _ ?_ ?_ _ _ ⟨rfl,rfl,λv hv Q hQ=>class_readsAll prog w s xs A E _ _ n Q h4 h (by omega) v hv hQ⟩
  ·rintro v fK r s' ⟨hr,rfl,bj⟩;refine aA (bj v aS _ ?_);simp only[fQ,p8];exact aF ⟨rfl,rfl,λu Cb=>bj u (aO _ Cb)⟩
  ·rintro⟨r1,r2⟩ s' ⟨hr,rfl,_⟩;simp only at hr;subst hr;exact aF q
|.bool _,_,_,_,_,_,_,_,h,_,_=>by cases h
|.list _,_,_,_,_,_,_,_,h,_,_=>by cases h
|.dict _,_,_,_,_,_,_,_,h,_,_=>by cases h
theorem class_readsAll(prog:bX)(w:g7)(s:Shared):∀(xs:List j4)A E(vs:List Value)as(n:Nat)(Q:Bool->Shared->Prop),ReadsAll s.heap vs xs as->hkAll xs=true->cA xs<=n->∀v∈vs,Q false s->wpAny (model prog w) A (v4 n v) Q E s
|[],A,E,_,_,n,Q,r,_,_,v,hv,_=>by cases r;cases hv
|x::xs,A,E,_,_,n,Q,r,h,hn,v,hv,q=>by
 cases r with
 |cons r1 r2=>
  have h':(hk x&&hkAll xs)=true:=h;rw[bU]at h';have hn':max x.depth (cA xs)<=n:=hn;rcases bE.mp hv with rfl | hv
  ·exact uD prog w s x A E _ _ n Q r1 h'.1 (by omega) q
  ·exact class_readsAll prog w s xs A E _ _ n Q r2 h'.2 (by omega) v hv q
end
mutual
theorem zU(prog:bX)(w:g7)(s:Shared):∀(d:j4)A E(v:Value)as(n:Nat)(Q:Bool->Shared->Prop),Reads s.heap v d as->hk d=true->(∀b,Q b s)->wpAny (model prog w) A (bu n v) Q E s
|.none,A,E,_,_,n,Q,r,_,q=>by cases r;unfold bu;exact aF (q _)
|.int i,A,E,_,_,n,Q,r,_,q=>by cases r;unfold bu;exact aF (q _)
|.str x,A,E,_,_,n,Q,r,_,q=>by cases r;unfold bu;exact aF (q _)
|.tuple xs,A,E,_,_,0,Q,r,_,q=>by
 cases r with
 |@tuple a o vs m _ _ h1 h2 h3 h4=>unfold bu;exact aF (q _)
|.tuple xs,A,E,_,_,n+1,Q,r,h,q=>by
 cases r with
 |@tuple a o vs m _ _ h1 h2 h3 h4=>
  have hT:s.TypeIs (.ref a) "tuple":=⟨o,h1,h2⟩;unfold bu;refine aA (z7 hT kC.lookup ?_);dsimp only;refine aA (jl h1 h3 ?_);show wpAny _ _ (Fi vs _ _ >>= _) _ _ s;refine aA ?_;rw[<- pX];refine ak _ (λfK r s'=>s'=s/\∀v∈fK,∀(Q:Bool->Shared->Prop),(∀b,Q b s)->wpAny (model prog w) A (bu n v) Q E s) _ ?_ ?_ _ _ ⟨rfl,λv hv Q hQ=>byval_readsAll prog w s xs A E _ _ n Q h4 h v hv hQ⟩
  ·rintro v fK r s' ⟨rfl,bj⟩;refine aA (bj v aS _ λb=>?_)
   cases b with
   |true=>exact aF ⟨rfl,λu Cb=>bj u (aO _ Cb)⟩
   |false=>exact aF (aF (q _))
  ·rintro⟨r1,r2⟩ s' ⟨rfl,_⟩
   cases r1 with
   |none=>exact aF (q _)
   |some b=>exact aF (q _)
|.bool _,_,_,_,_,_,_,_,h,_=>by cases h
|.list _,_,_,_,_,_,_,_,h,_=>by cases h
|.dict _,_,_,_,_,_,_,_,h,_=>by cases h
theorem byval_readsAll(prog:bX)(w:g7)(s:Shared):∀(xs:List j4)A E(vs:List Value)as(n:Nat)(Q:Bool->Shared->Prop),ReadsAll s.heap vs xs as->hkAll xs=true->∀v∈vs,(∀b,Q b s)->wpAny (model prog w) A (bu n v) Q E s
|[],A,E,_,_,n,Q,r,_,v,hv,_=>by cases r;cases hv
|x::xs,A,E,_,_,n,Q,r,h,v,hv,q=>by
 cases r with
 |cons r1 r2=>
  have h':(hk x&&hkAll xs)=true:=h;rw[bU]at h';rcases bE.mp hv with rfl | hv
  ·exact zU prog w s x A E _ _ n Q r1 h'.1 q
  ·exact byval_readsAll prog w s xs A E _ _ n Q r2 h'.2 v hv q
end
def PV(prog:bX)(w:g7)(h:Heap)(es:List (Int×Value))(ks:List j4):Prop:=es.length=ks.length/\∀(i:Nat)(e:Int×Value),es[i]?=some e->∃k b,ks[i]?=some k/\e=(dW w k,.ref b)/\(eV prog w).is h k b
section
variable{prog:bX}{w:g7}{A:i5}{E:Value->Shared->Prop}{s:Shared}
def HS{b:Addr}{k}(hx:(eV prog w).is s.heap k b):∀(ys:List Value)(Q:Bool->Shared->Prop),(∀y∈ys,∃c b',y=.ref b'/\(eV prog w).is s.heap c b')->Q false s->wpAny (model prog w) A (Fy (.ref b) ys) Q E s:=by
 intro ys Q hy q;unfold Fy;refine aA ?_;refine ak _ (λfK r s'=>r.1=none/\s'=s/\∀y∈fK,∃c b',y=.ref b'/\(eV prog w).is s.heap c b') _ ?_ ?_ _ _ ⟨rfl,rfl,hy⟩
 ·rintro v fK r s' ⟨hr,rfl,bj⟩;obtain⟨c,b',rfl,hc⟩:=bj v aS;have fin:∀u∈fK,∃c b',u=.ref b'/\(eV prog w).is s'.heap c b':=λu Cb=>bj u (aO _ Cb);dsimp only;by_cases hb:(b==b')=true
  ·rw[hb];exact aF ⟨rfl,rfl,fin⟩
  ·have Ct:(b==b')=false:=by simpa using hb
   rw[Ct,b8 (show¬((false||(carriedByValue (e8 b)&&carriedByValue (e8 b')))=true)from aX)];refine aA ((eV prog w).quiet hx ?_);rw[b8 (show¬((!true)=true) by decide)];refine aA ((eV prog w).quiet hc ?_);rw[b8 (show¬((!true)=true) by decide)];obtain⟨x1,x2,as,x3⟩:=hx;obtain⟨c1,c2,cs,c3⟩:=hc;refine aA (uD prog w s' k A E _ _ 8 _ x3 x1 x2 ?_);rw[b8 aX];refine aA (uD prog w s' c A E _ _ 8 _ c3 c1 c2 ?_);rw[b8 aX];exact aF ⟨rfl,rfl,fin⟩
 ·rintro⟨r1,r2⟩ s' ⟨hr,rfl,_⟩;simp only at hr;subst hr;exact aF q
end
section
variable{prog:bX}{w:g7}{A:i5}{E:Value->Shared->Prop}{s:Shared}
def PV.mem{h es ks}(x:PV prog w h es ks){i:Nat}{k}(hi:ks[i]?=some k):∃b,es[i]?=some (dW w k,.ref b)/\(eV prog w).is h k b:=by
 have hl:i<es.length:=by rw[x.1];exact(aD.mp hi).1
 have he:es[i]?=some es[i]:=aG hl;obtain⟨k',b,g1,g2,g3⟩:=x.2 i _ he;rw[hi]at g1;cases g1;exact⟨b,by rw[he,g2],g3⟩
def LA{a:Addr}{o:Obj}{es:Array (Int×Value)}{ep:Nat}{t:SetTable}{led:Bool}{ks kx}{bx:Addr}{Q:SetFound->Shared->Prop}(hu:A.units+8<m4)(ho:s.heap.get? a=some o)(hd:o.data=.set es ep t)(hT:SL led t es.toList)(hE:PV prog w s.heap es.toList ks)(hx:(eV prog w).is s.heap kx bx)
  (h1:kx∈ks->Q (.there none) s) (h2:kx∉ks->∀m,t.slot (rd t.mask (dW w kx) m).j=.empty->(∀k,k<m->(rd t.mask (dW w kx) k).j∈t.place.toList)->Q (.free (rd t.mask (dW w kx) m).j false) s) :
  ∀(fuel n e:Nat)(st:Option dh),st.getD (t.probeStart (dW w kx))=rd t.mask (dW w kx) n->n<=e->e<10*(t.mask+15)->e<n+fuel->t.slot (rd t.mask (dW w kx) e).j=.empty->(∀k,k<n->∃i:Nat,t.place[i]?=some (rd t.mask (dW w kx) k).j/\ks[i]?≠some kx) ->
   wpAny (model prog w) A (jz a (.ref bx) (dW w kx) true fuel st) Q E s:=by
 have Mp:=vA _ hT.msk;intro fuel
 induction fuel with
 |zero=>intro n e st _ _ _ _ _ _;omega
 |succ fuel ih=>
  intro n e st jx al Ls yr Bt pp;unfold jz;refine aA (da ho hd hT.fits ?_);dsimp only;rw[show t.gaveWay=false by unfold SetTable.gaveWay;simp;omega,b8 aX];obtain⟨m,g1,g2,g3,g4⟩:=O2 hT.rise hT.dum (λi=>(es[i]?.map (·.1)).getD 0) (dW w kx) (10*u6 t.mask) n e al (by unfold u6;omega) Bt
  have ext:∀(M:SetTable.Met),cq t (λi=>(es[i]?.map (·.1)).getD 0) (dW w kx) (10*u6 t.mask) (rd t.mask (dW w kx) n)=some M->∀hA:Nat->Int,(∀i:Nat,hA i=(es[i]?.map (·.1)).getD 0)->t.probe hA (dW w kx) (st.getD (t.probeStart (dW w kx)))=some M:=λM hM hA hh=>by
   rw[jx,show hA=λi=>(es[i]?.map (·.1)).getD 0 from funext hh];exact hM
  have Ex:∀k,k<m->∃i:Nat,t.place[i]?=some (rd t.mask (dW w kx) k).j/\ks[i]?≠some kx:=λk hk=>by
   by_cases Ub:k<n
   ·exact pp k Ub
   ·obtain⟨i,a1,a2⟩:=g3 k (by omega) hk;rcases xL hT.rise hT.dum (rd t.mask (dW w kx) k).j with⟨i',b1,b2⟩ | ⟨b1,_⟩
    ·rw[a1]at b1;cases b1;refine⟨i,b2,λz=>?_⟩;obtain⟨b,c1,_⟩:=hE.mem z;rw[cU]at c1;apply a2;show(es[i]?.map (·.1)).getD 0=_;rw[c1];rfl
    ·rw[a1]at b1;cases b1
  rcases g4 with⟨c1,c2⟩ | ⟨i,c1,c2,c3,c4⟩
  ·rw[ext _ c1]
   ·dsimp only;refine aF (h2 (λjb=>?_) m c2 λk hk=>?_)
    ·obtain⟨i,hi⟩:=bK jb;obtain⟨b,q1,_⟩:=hE.mem hi;have hl:i<t.place.size:=by rw[hT.size];exact(aD.mp q1).1
     have hp:t.place[i]?=some t.place[i]:=cZ hl;obtain⟨n',r1,r2⟩:=hT.path i _ _ q1 hp;dsimp only at r1 r2
     have Qe:(rd t.mask (dW w kx) n').j∈t.place.toList:=by
      rw[r1];exact Array.getElem_mem_toList ..
     have ye:(rd t.mask (dW w kx) m).j∉t.place.toList:=λz=>by
      obtain⟨q,hq⟩:=bK z;rw[cU]at hq;rw[uR hT.rise hq]at c2;cases c2
     rcases rG n' m with z | z | z
     ·obtain⟨i',p1,p2⟩:=Ex n' z;rw[r1]at p1
      have:i'=i:=by
       have u1:=uR hT.rise p1;rw[uR hT.rise hp]at u1;cases u1;rfl
      rw[this]at p2;exact p2 hi
     ·rw[z]at Qe;exact ye Qe
     ·exact ye (r2 m z)
    ·obtain⟨i,p1,_⟩:=Ex k hk;rw[<- cU]at p1;exact aN p1
   ·exactλi=>rfl
  ·rw[ext _ c1]
   ·dsimp only
    have Pq:t.place[i]?=some (rd t.mask (dW w kx) m).j:=by
     rcases xL hT.rise hT.dum (rd t.mask (dW w kx) m).j with⟨i',b1,b2⟩ | ⟨b1,_⟩
     ·rw[c2]at b1;cases b1;exact b2
     ·rw[c2]at b1;cases b1
    have uh:i<es.toList.length:=by rw[<- hT.size];exact(dU.mp Pq).1
    obtain⟨k,b,q1,q2,q3⟩:=hE.2 i _ (aG uh);have Oz:es[i]?=some (dW w k,.ref b):=by rw[<- cU,aG uh,q2]
    have fK:wpAny (model prog w) A (do
      let some (_,y):=es[i]? | unsupported "internal:set-entry"
      let equal <- xx [y] (eqBool y (.ref bx))
      let (es',_,t') <- setState a
      if true&&equal then return .there none
      let some same:=t'.sameMemory t.moves t.mask | unsupported "set.changed-during-lookup:is-the-new-block-at-the-old-address"
      let still <- match(if same then t'.slot (rd t.mask (dW w kx) m).j else .empty)with
       |.live i'=>match es'[i']? with
        |some (_,y')=>do pure (if <- isSame y' y then some i' else none)
        |none=>pure none
       |_=>pure none
      match still with
      |none=>rule "set.search.anew";jz a (.ref bx) (dW w kx) true fuel none
      |some i'=>if equal then return .there (some i')else jz a (.ref bx) (dW w kx) true fuel (some (rd t.mask (dW w kx) (m+1)))) Q E s:=by
     rw[Oz];dsimp only;refine aA (r8 ((eV prog w).eqBool hu q3 hx ?_));refine aA (da ho hd hT.fits ?_);dsimp only;by_cases hk:k=kx
     ·rw[d7 hk];subst hk;exact aF (h1 (aN q1))
     ·rw[f9 hk,b8 (by decide)];rw[show t.sameMemory t.moves t.mask=some true by unfold SetTable.sameMemory;simp];dsimp only;rw[b9 rfl,c2];dsimp only;rw[Oz];dsimp only;refine aA (wpAny_isSame_ref_self (aA (aF ?_)));rw[b9 rfl];dsimp only;rw[b8 aX];refine ih (m+1) e (some _) rfl c4 Ls (by omega) Bt λk' gw=>?_;by_cases z:k'=m
      ·rw[z];exact⟨i,Pq,λy=>hk (by rw[q1]at y;exact e9 y)⟩
      ·exact Ex k' (by omega)
    cases hl:t.led with
    |true=>rw[b8 (show¬((!true)=true) by decide)];exact fK
    |false=>
     rw[b9 (show(!false)=true from rfl)];refine aA (HS hx _ _ (λy hy=>?_) ?_)
     ·obtain⟨e',vf,rfl⟩:=aQ.mp hy
      have Oy:e'∈es.toList:=by
       have:=vZ.mp vf;exact vZ.mpr (Array.mem_of_mem_filter this)
      obtain⟨r,hr⟩:=bK Oy;obtain⟨k',b',_,u2,u3⟩:=hE.2 r _ hr;exact⟨k',b',by rw[u2],u3⟩
     ·rw[b8 aX];exact fK
   ·exactλi=>rfl
end
section
variable{prog:bX}{w:g7}{A:i5}{E:Value->Shared->Prop}{s:Shared}
inductive KF(prog:bX)(w:g7)(h:Heap):List (Int×Value)->List j4->Prop
|nil:KF prog w h [] []
|cons {k:j4} {b:Addr} {es:List (Int×Value)} {ks:List j4} (r:(eV prog w).is h k b) (t:KF prog w h es ks):KF prog w h ((dW w k,.ref b)::es) (k::ks)
def KF.len{h}{es:List (Int×Value)}{ks:List j4}(x:KF prog w h es ks):es.length=ks.length:=by
 induction x with
 |nil=>rfl
 |cons _ _ ih=>exact i6 (·+1) ih
def KF.ents{h es ks}(x:KF prog w h es ks):PV prog w h es ks:=by
 refine⟨x.len,?_⟩
 induction x with
 |nil=>intro i e he;simp at he
 |@cons k b es ks r t ih=>
  intro i e he
  cases i with
  |zero=>cases he;exact⟨k,b,rfl,rfl,r⟩
  |succ i=>exact ih i e he
def KF.snoc{h es ks k}{b:Addr}(x:KF prog w h es ks)(r:(eV prog w).is h k b):KF prog w h (es++[(dW w k,.ref b)]) (ks++[k]):=by
 induction x with
 |nil=>exact .cons r .nil
 |cons r' _ ih=>exact .cons r' ih
def KF.perm{h}{es es':List (Int×Value)}(p:es.Perm es'):∀{ks},KF prog w h es ks->∃Ev,KF prog w h es' Ev/\Ev.Perm ks:=by
 induction p with
 |nil=>intro ks x;exact⟨ks,x,.refl _⟩
 |cons a _ ih=>
  intro ks x
  cases x with
  |cons r t=>
   obtain⟨Ev,a1,a2⟩:=ih t;exact⟨_,.cons r a1,a2.cons _⟩
 |swap a b l=>
  intro ks x
  cases x with
  |cons r t=>
   cases t with
   |cons r' t'=>exact⟨_,.cons r' (.cons r t'),.swap ..⟩
 |trans _ _ Vt Vu=>
  intro ks x;obtain⟨k1,a1,a2⟩:=Vt x;obtain⟨k2,b1,b2⟩:=Vu a1;exact⟨k2,b1,b2.trans a2⟩
def E3{h h':Heap}{a b:Addr}{o:Obj}{es}{ep:Nat}{t k}(ho:h.get? a=some o)(hd:o.data=.set es ep t)(hs:eG a h h')(x:(eV prog w).is h k b):(eV prog w).is h' k b:=by
 obtain⟨h1,h2,as,r⟩:=x
 exact⟨h1,h2,as,pC (λb o' vs n e ed=>(hs.2 b (λz=>by
  subst z;rw[ho]at e;cases e;rw[hd]at ed;cases ed)).trans e) r h1⟩
def KF.stays{h h' es ks}(x:KF prog w h es ks)(k:∀c b,(eV prog w).is h c b->(eV prog w).is h' c b):KF prog w h' es ks:=by
 induction x with
 |nil=>exact .nil
 |cons r _ ih=>exact .cons (k _ _ r) ih
def C2(prog:bX)(w:g7)(h:Heap)(a:Addr)(ks:List j4)(led:Bool):Prop:=∃o es ep t,h.get? a=some o/\o.ExactSet/\o.data=.set es ep t/\SL led t es.toList/\KF prog w h es.toList ks
def aAk{α β:Type}{l:List α}{m:List β}{x a y b}{p i:Nat}(h1:p<=l.length)(h2:l.length=m.length)(ha:(l.take p++x::l.drop p)[i]?=some a)(hb:(m.take p++y::m.drop p)[i]?=some b):(a=x/\b=y)\/∃r:Nat,l[r]?=some a/\m[r]?=some b:=by
 have e1:(l.take p).length=p:=by rw[bA];omega
 have e2:(m.take p).length=p:=by rw[bA];omega
 rcases rG i p with z | z | z
 ·rw[cQ (by omega),rH z]at ha hb;exact .inr ⟨i,ha,hb⟩
 ·rw[cN (by omega)]at ha hb;rw[e1,z,AR]at ha;rw[e2,z,AR]at hb;cases ha;cases hb;exact .inl ⟨rfl,rfl⟩
 ·rw[cN (by omega)]at ha hb;obtain⟨q,hq⟩:∃q,i-p=q+1:=⟨i-p-1,by omega⟩;rw[e1,hq,sX,jE]at ha;rw[e2,hq,sX,jE]at hb;exact .inr ⟨_,ha,hb⟩
def tX{α:Type}(l:List α)(p:Nat)(x:α):(l.take p++x::l.drop p).Perm (l++[x]):=by
 refine List.perm_middle.trans ?_;rw[NH];exact List.perm_append_singleton x l |>.symm
def ZA{led:Bool}{t:SetTable}{es:Array (Int×Value)}{h:Int}{x}{m:Nat}{pl:Bool}(T:SL led t es.toList)(hs:t.slot (rd t.mask h m).j=.empty)(hp:∀k,k<m->(rd t.mask h k).j∈t.place.toList)(hr:(es.size+1)*5<t.mask*3) :
  SL led { (t.put (rd t.mask h m).j).1 with plain:=pl } (q9 es (t.put (rd t.mask h m).j).2 (h,x)).toList:=by
 obtain⟨r1,r2,r3⟩:=IN T.rise T.dum hs;have hb:=(zH T.rise (rd t.mask h m).j).1;have e1:(q9 es (t.put (rd t.mask h m).j).2 (h,x)).toList=es.toList.take (j7 t.place (rd t.mask h m).j)++(h,x)::es.toList.drop (j7 t.place (rd t.mask h m).j):=t3 ..;have e2:(t.put (rd t.mask h m).j).1.place.toList=t.place.toList.take (j7 t.place (rd t.mask h m).j)++(rd t.mask h m).j::t.place.toList.drop (j7 t.place (rd t.mask h m).j):=t3 ..;have hz:t.place.size=es.size:=T.size.trans (bB ..);have sn:∀{α:Type}(xs:Array α)(y:α),(xs.toList++[y]).length=xs.size+1:=λxs y=>by rw[bC,bB];rfl
 have l1:=(tX es.toList (j7 t.place (rd t.mask h m).j) (h,x)).length_eq.trans (sn _ _);have l2:=(tX t.place.toList (j7 t.place (rd t.mask h m).j) (rd t.mask h m).j).length_eq.trans (sn _ _);refine⟨T.msk,r2,r1,?_,?_,r3.trans T.led,λi e p he Kk=>?_⟩
 ·rw[e1,l1];show(t.put _).1.place.size=_;rw[<- bB,e2,l2,hz]
 ·rw[e1,l1];exact hr
 ·rw[e1]at he
  replace Kk:(t.put (rd t.mask h m).j).1.place[i]?=some p:=Kk
  rw[<- cU,e2]at Kk
  have up:∀j,j∈t.place.toList->j∈(t.put (rd t.mask h m).j).1.place.toList:=λj hj=>by
   rw[e2,(tX _ _ _).mem_iff];exact gM _ hj
  rcases aAk (by rw[bB];omega) (by rw[bB,bB];exact hz.symm) he Kk with⟨rfl,rfl⟩ | ⟨r,q1,q2⟩
  ·exact⟨m,rfl,λk hk=>up _ (hp k hk)⟩
  ·rw[cU]at q2;exact(T.path r _ _ q1 q2).more up
def RP:∀m∈tU,∀n∈aZ 305,n*5<m*3->m*3<=(n+1)*5->dj (di (n+1))-1∈tU/\(n+1)*5<(dj (di (n+1))-1)*3/\dj (di (n+1))<=512:=by decide +kernel
def EN{t:SetTable}{b:Bool}(h:t.plain=b):t={ t with plain:=b }:=by subst h;rfl
def VZ{a bx:Addr}{ks:List j4}{kx}{led:Bool}{Q:Bool->Shared->Prop}(hu:A.units+8<m4)(hS:C2 prog w s.heap a ks led)(hx:(eV prog w).is s.heap kx bx)(hz:ks.length<300)
  (h:∀h' b Ev,eG a s.heap h'->C2 prog w h' a Ev led->(kx∈ks->Ev=ks)->(kx∉ks->Ev.Perm (ks++[kx]))->Q b { s with heap:=h' }) :
  wpAny (model prog w) A (setAddHashed a (.ref bx) (dW w kx)) Q E s:=by
 obtain⟨o,es,ep,t,ho,hex,hd,hT,hE⟩:=id hS;have hsz:es.size=ks.length:=by rw[<- bB];exact hE.len
 have Mp:=vA _ hT.msk;have Dh:=hT.room;rw[bB]at Dh;unfold setAddHashed setAddHashedIn;refine r8 (aA (da ho hd hT.fits ?_));dsimp only;rw[show byScan (.ref bx) es=false from rfl,b8 aX];obtain⟨j,hj,Tv⟩:=MG (ps:=t.place.toList) (mask:=t.mask) (by rw[bB,hT.size,bB];omega);obtain⟨e,he,rfl⟩:=QK hT.msk (dW w kx) hj
 have Bt:t.slot (rd t.mask (dW w kx) e).j=.empty:=by
  rcases xL hT.rise hT.dum (rd t.mask (dW w kx) e).j with⟨i,_,q⟩ | ⟨q,_⟩
  ·rw[<- cU]at q;exact d8 (aN q) Tv
  ·exact q
 refine aA ?_;unfold setSearch;refine LA hu ho hd hT hE.ents hx (λjb=>?_) (λHz m hm pp=>?_) 100000 0 e none rfl (cL _) he (by omega) Bt λk hk=>d8 hk (jS _)
 ·exact aF (h s.heap false ks (eG.refl a s.heap) hS (λ_=>rfl) λz=>d8 jb z)
 ·dsimp only;refine aA (da ho hd hT.fits ?_);dsimp only
  have fin:∀(t1:SetTable)(pl:Bool),t1={ (t.put (rd t.mask (dW w kx) m).j).1 with plain:=pl }->wpAny (model prog w) A (do
    storeSet a (q9 es (t.put (rd t.mask (dW w kx) m).j).2 (dW w kx,.ref bx)) t1
    if(!false&&t1.tooFull)=true then do
     setRelay a (di (es.size+1))
     pure true
    else pure true) Q E s:=λt1 pl Ih=>by
   obtain⟨r1,r2,r3⟩:=IN hT.rise hT.dum hm
   have e1:(q9 es (t.put (rd t.mask (dW w kx) m).j).2 (dW w kx,.ref bx)).toList.Perm (es.toList++[(dW w kx,.ref bx)]):=by
    rw[show(q9 es (t.put (rd t.mask (dW w kx) m).j).2 (dW w kx,.ref bx)).toList=_ from t3 ..];exact tX ..
   have e2:(t.put (rd t.mask (dW w kx) m).j).1.place.toList.Perm (t.place.toList++[(rd t.mask (dW w kx) m).j]):=by
    rw[show(t.put (rd t.mask (dW w kx) m).j).1.place.toList=_ from t3 ..];exact tX ..
   have put:=λhr=>ZA (x:=.ref bx) (pl:=pl) hT hm pp hr;rw[<- Ih]at put
   have Bz:(q9 es (t.put (rd t.mask (dW w kx) m).j).2 (dW w kx,.ref bx)).size=es.size+1:=by
    rw[<- bB,e1.length_eq,bC,bB];rfl
   have Pr:(t.put (rd t.mask (dW w kx) m).j).1.place.size=es.size+1:=by
    rw[<- bB,e2.length_eq,bC,bB,hT.size,bB];rfl
   have xo:t1.fill=es.size+1:=by
    rw[Ih];show(t.put _).1.place.size+(t.put _).1.dummies.size=_;rw[Pr,r2];rfl
   have Kh:t1.mask=t.mask:=by rw[Ih];rfl
   have Mh:t1.led=led:=by rw[Ih];exact r3.trans hT.led
   have Hj:t1.fits (es.size+1)=true:=by
    unfold SetTable.fits;rw[xo,Kh,bU];exact⟨by rw[Ih];simpa using Pr,by rw[k9];omega⟩
   generalize q9 es (t.put (rd t.mask (dW w kx) m).j).2 (dW w kx,.ref bx)=es1 at e1 put Bz |-
   have Hc:es1.size<=bM:=by rw[Bz,bw];omega
   refine aA (Gf ho hd ?_ Hc);have g1:=stored (es':=es1) (t':=t1) ho hd;have b1:=eG.update s.heap a (je es1 t1);have Fz:=λc b=>E3 (prog:=prog) (w:=w) (k:=c) (b:=b) ho hd b1;obtain⟨k1,Oj,p1⟩:=((hE.stays Fz).snoc (Fz _ _ hx)).perm e1.symm;by_cases hf:(!false&&t1.tooFull)=true
   ·rw[b9 hf]
    have Tj:t.mask*3<=(es.size+1)*5:=by
     have:t1.tooFull=true:=hf;unfold SetTable.tooFull at this;rw[xo,Kh]at this;exact e7 this
    obtain⟨w1,w2,w3⟩:=RP _ hT.msk es.size (dF.mpr (by omega)) Dh Tj;obtain⟨t2,kz,q1,q2,q3,q4⟩:=QL (t:=t1) (es:=es1) (wanted:=di (es.size+1)) rfl w1 (by rw[Bz];exact w2) Mh;unfold setRelay;refine aA (aA (da g1 rfl (by rw[Bz];exact Hj) ?_));dsimp only;rw[b8 (by rw[bw];omega),q1];refine aA ?_;show wpAny _ _ (if((kz.filterMap (es1[·]?)).size != es1.size)=true then _ else _) _ _ _;rw[b8 (by simp[q2])];refine aF ?_;dsimp only
    generalize Kc:kz.filterMap (es1[·]?)=Dt at q2 q3 q4
    refine Gf g1 rfl ?_ (by rw[q2];exact Hc);have g2:=stored (es':=Dt) (t':=t2) g1 rfl;have b2:=eG.update (s.heap.update a (je es1 t1)) a (je Dt t2);have yk:=λc b=>E3 (prog:=prog) (w:=w) (k:=c) (b:=b) g1 rfl b2;obtain⟨k2,Rz,p2⟩:=(Oj.stays yk).perm q4.symm;exact aF (h _ true k2 (b1.trans b2) ⟨_,Dt,_,t2,g2,hex,rfl,q3,Rz⟩ (λz=>d8 z Hz) λ_=>p2.trans p1)
   ·rw[b8 hf]
    have Us:(es.size+1)*5<t.mask*3:=by
     have:¬t1.tooFull=true:=hf;unfold SetTable.tooFull at this;rw[xo,Kh,k9]at this;omega
    exact aF (h _ true k1 b1 ⟨_,es1,_,t1,g1,hex,rfl,put Us,Oj⟩ (λz=>d8 z Hz) λ_=>p1)
  obtain⟨x1,x2,as,x3⟩:=id hx
  cases gy:(t.put (rd t.mask (dW w kx) m).j).1.plain with
  |true=>
   rw[b9 rfl];refine aA (zU prog w s kx A E _ _ 8 _ x3 x1 λb=>?_)
   cases b with
   |true=>exact fin _ true ((b9 rfl).trans (EN gy))
   |false=>exact fin _ false rfl
  |false=>
   rw[b8 aX];refine aA (aF ?_);exact fin _ false ((b9 rfl).trans (EN gy))
end
open TL
def DdK(m l:List j4):Prop:=m.Nodup/\m.length<=l.length/\(∀z,z∈m↔z∈l)/\(m.length=l.length↔l.Nodup)
def DdK.add{m l m1:List j4}{k}(h:DdK m l)(jb:k∈m->m1=m)(kt:k∉m->m1.Perm (m++[k])):DdK m1 (l++[k]):=by
 obtain⟨h1,h2,h3,h4⟩:=h;have hl:(l++[k]).length=l.length+1:=by rw[bC];rfl
 by_cases hk:k∈m
 ·rw[jb hk];refine⟨h1,by omega,λz=>?_,⟨λe=>by omega,λnd=>?_⟩⟩
  ·rw[h3 z,dH,bR];exact⟨.inl,λq=>q.elim id λe=>e▸(h3 k).mp hk⟩
  ·exact d8 rfl ((jT.mp nd).2.2 k ((h3 k).mp hk) k (bR.mpr rfl))
 ·have p:=kt hk;have gw:k∉l:=λz=>hk ((h3 k).mpr z)
  have sn:∀{x:List j4},k∉x->(x.Nodup↔(x++[k]).Nodup):=λ{x} hx=>by
   rw[jT];refine⟨λq=>⟨q,by simp,λa ha b hb e=>?_⟩,λq=>q.1⟩;rw[bR]at hb;exact hx (by rw[<- hb,<- e];exact ha)
  have hm:m1.length=m.length+1:=by rw[p.length_eq,bC];rfl
  refine⟨p.nodup_iff.mpr ((sn hk).mp h1),by omega,λz=>?_,?_⟩
  ·rw[p.mem_iff,dH,dH,h3 z]
  ·rw[<- sn gw,<- h4];omega
def M5(prog:bX)(w:g7)(h:Heap)(its:List Value)(ks:List j4):Prop:=Paired (λ(v:Value) (k:j4)=>∃b,v=.ref b/\(eV prog w).is h k b) its ks
theorem OF{α β:Type}{R:α->β->Prop}:∀{l m},Paired R l m->∀{i:Nat}{a},l[i]?=some a->∃b,m[i]?=some b/\R a b
|_,_,.nil,i,a,h=>by simp at h
|_,_,.cons r t,0,a,h=>by cases h;exact⟨_,rfl,r⟩
|_,_,.cons r t,i+1,a,h=>OF t (i:=i) h
section
variable{prog:bX}{w:g7}{A:i5}
def aFq{h h':Heap}{k}{b:Addr}(kk:∀c o,h.get? c=some o->h'.get? c=some o)(x:(eV prog w).is h k b):(eV prog w).is h' k b:=
 let ⟨h1,h2,as,r⟩:=x;⟨h1,h2,as,pC (λc o _ _ e _=>kk c o e) r h1⟩
def C2.at{h h':Heap}{a:Addr}{ks}{led:Bool}(x:C2 prog w h a ks led)(k:∀o,h.get? a=some o->h'.get? a=some o)(kk:∀c b,(eV prog w).is h c b->(eV prog w).is h' c b):C2 prog w h' a ks led:=by
 obtain⟨o,es,ep,t,ho,h1,h2,h3,h4⟩:=x;exact⟨o,es,ep,t,k o ho,h1,h2,h3,h4.stays kk⟩
def O0{h h':Heap}{I S ax b:Addr}{n:Nat}{k}(hi:h.IsListIter I ax n)(kk:∀c o,¬c∈[I]->h.get? c=some o->h'.get? c=some o)(x:(eV prog w).is h k b):(eV prog w).is h' k b:=by
 obtain⟨h1,h2,as,r⟩:=x;refine⟨h1,h2,as,pC (λc o vs m e ed=>kk c o (λz=>?_) e) r h1⟩;rw[bR]at z;subst z;obtain⟨o',a1,a2,a3⟩:=hi;rw[a1]at e;cases e;rw[a3]at ed;cases ed
def RC{R:Result->Shared->Prop}{I ax:Addr}(S:Addr)(Lh:S≠I)(Ha:S≠ax)(Os:ax≠I)(hh:A.handled=none)(hu:A.units+9<m4){its:List Value}{ks:List j4}{led:Bool}{h0:Heap}(vm:M5 prog w h0 its ks)(hb:ks.length<300) :
  ∀(k i:Nat)(s:Shared),its.length-i=k->i<=its.length->s.heap.IsListIter I ax i->s.heap.IsList ax its.toArray->(∀b o,h0.get? b=some o->s.heap.get? b=some o)->(∀b o,h0.get? b=some o->b≠S/\b≠I)->(∃m,C2 prog w s.heap S m led/\DdK m (ks.take i)) ->
   (∀h' tk,(∀b o,b≠S->b≠I->s.heap.get? b=some o->h'.get? b=some o)->(∃m,C2 prog w h' S m led/\DdK m ks)->R (.ok (.ret .none)) { s with heap:=h',toks:=tk }) ->
   dz (model prog w) A (.builtin "set.update.loop" ⟨[.ref S,.ref I],[]⟩) R s:=by
 have o8:its.length=ks.length:=i9 vm;intro k
 induction k with
 |zero=>
  intro i s hk hi h1 h2 Ki al h3 hR;obtain rfl:i=its.length:=by omega
  refine fg fq ?_;rw[ci x9 _];show wpAny _ A.in1 (fw (.ref I) >>= _) _ _ s;refine aA ((iq (prog:=prog) (w:=w) (A:=A.in1) hh I ax Os its.toArray).done s _ _ (by rw[bO];exact⟨h1,h2⟩) λh' tk kk=>?_);show wpAny _ A.in1 (ret g9) _ _ _;refine aF (hR h' tk (λb o _ hb e=>kk b o (by simpa using hb) e) ?_);rw[kZ (by omega)]at h3;obtain⟨m,hm,nc⟩:=h3;exact⟨m,hm.at (λo e=>kk S o (by simpa using Lh) e) λc b=>O0 (S:=S) h1 λc o hc e=>kk c o (by simpa using hc) e,nc⟩
 |succ k ih=>
  intro i s hk hi h1 h2 Ki al h3 hR;have bo:i<its.length:=by omega
  refine fg fq ?_;rw[ci x9 _];show wpAny _ A.in1 (fw (.ref I) >>= _) _ _ s;refine aA ((iq (prog:=prog) (w:=w) (A:=A.in1) hh I ax Os its.toArray).item i s _ _ (by rw[bO];exact bo) ⟨h1,h2⟩ λv h' tk hP kc kk=>?_);have hv:its[i]?=some v:=by simpa using hP
  obtain⟨kx,Ue,bx,rfl,Ft⟩:=OF vm hv;have Qp:∀b o,h0.get? b=some o->h'.get? b=some o:=λb o e=>kk b o (by simpa using(al b o e).2) (Ki b o e);have hx:=aFq Qp Ft;obtain⟨m0,h3,nc⟩:=h3;have Rs:C2 prog w h' S m0 led:=h3.at (λo e=>kk S o (by simpa using Lh) e) λc b=>O0 (S:=S) h1 λc o hc e=>kk c o (by simpa using hc) e;show wpAny _ A.in1 (xx [e8 bx] (setAdd S (.ref bx)) >>= _) _ _ _;refine aA (r8 ?_);unfold setAdd;have Py:A.in1.units+8<m4:=by show A.units+1+8<_;omega
  refine r8 (aA ((eV prog w).pyHash Py hx ?_));refine VZ (s:={ s with heap:=h',toks:=tk+oI kx }) Py Rs hx (by have:=nc.2.1;rw[bA]at this;omega) λuw _ m1 Kl Li jb kt=>?_;have Ru:∃m,C2 prog w uw S m led/\DdK m (ks.take (i+1)):=⟨m1,Li,by rw[cV,Ue];exact nc.add jb kt⟩;refine aF ⟨jy x9 _,ih (i+1) _ (by omega) bo (kc.1.at λo e=>(Kl.2 I (l8 Lh)).trans e) (kc.2.at λo e=>(Kl.2 ax (l8 Ha)).trans e) (λb o e=>(Kl.2 b (al b o e).1).trans (Qp b o e)) al Ru λh4 Wq Vv h5=>?_⟩;exact hR h4 Wq (λb o Ot Ou e=>Vv b o Ot Ou ((Kl.2 b Ot).trans (kk b o (by simpa using Ou) e))) h5
end
section
variable{X:Cx}
set_option maxHeartbeats 3200000 in
def DX{prog w}{A:i5}{E:Value->Shared->Prop}{s:Shared}{l:Addr}{its:List Value}{ks:List j4}{Q:Value->Shared->Prop}
  (hh:A.handled=none) (hl:s.heap.IsList l its.toArray) (hu:A.units+20<m4) (vm:M5 prog w s.heap its ks) (hb:ks.length<300)
  (h:∀(h':Heap)(tk:Nat),(∃m led,C2 prog w h' s.heap.objs.size m led/\DdK m ks)->(∀b o,s.heap.get? b=some o->h'.get? b=some o)->Q (.ref s.heap.objs.size) { s with heap:=h',toks:=tk }) :
  wpAny (model prog w) A (call (.type "set") [.ref l]) Q E s:=by
 obtain⟨c0,Xx,Bx⟩:=iD.mro;have Kh:=iD.made;have Vc:=iD.sub;refine ua (codeAny_of_tree ?_);show wpAny _ _ (callAny (.type "set") _) _ _ _;refine aF ⟨Code.quiet_builtin _ (by decide +kernel),fg PySem.F.entry_type_call ?_⟩;rw[Around.under_plain (weight_type_call_type "set" [.ref l] []) rfl];have k1:=iD.notType;have k2:=iD.canCreate;have k3:=PySem.F.typeCall_set_1 (.ref l)
 repeat (any_goals (first | assumption | wp_step))
 refine aj (code_set_new_1 (.ref l) (E:=E) (Q₁:=λobj s1=>∃led:Bool,obj=.ref s.heap.objs.size/\s1={ s with heap:=s.heap.push { cls:=.type "set",dict:=none,data:=.set #[] 0 (.fresh 0 0 led) } }) λled=>⟨led,rfl,rfl⟩) λr s1 hr=>?_
 cases r with
 |error e=>exact hr
 |ok fl=>
  cases fl with
  |ret obj=>
   obtain⟨led,rfl,rfl⟩:=hr;have gS:(s.heap.push { cls:=.type "set",dict:=none,data:=.set #[] 0 (.fresh 0 0 led) }).get? s.heap.objs.size=some { cls:=.type "set",dict:=none,data:=.set #[] 0 (.fresh 0 0 led) }:=aW _ rfl;have tS:ae { s with heap:=s.heap.push { cls:=.type "set",dict:=none,data:=.set #[] 0 (.fresh 0 0 led) } } (.ref s.heap.objs.size) "set":=⟨_,gS,rfl⟩;have k4:=iD.init.lookup;have k5:=iD.init.bind (.ref s.heap.objs.size)
   repeat (any_goals (first | assumption | wp_step))
   refine aj (Ak (R:=wants (λr s2=>r=.none/\∃h' tk,s2={ s with heap:=h',toks:=tk }/\(∃m led,C2 prog w h' s.heap.objs.size m led/\DdK m ks)/\(∀b o,s.heap.get? b=some o->h'.get? b=some o)) E) iD.init.plain PySem.F.entry_set_init (check_set_init_1 tS ?_)) λr2 s2 Mv=>?_
   ·obtain⟨⟨Wd,Ix,Qm,Ew⟩,Pn,gc,nl,Cy⟩:=hl;simp only at gc Cy;subst gc;subst Cy;have gl:(s.heap.push { cls:=.type "set",dict:=none,data:=.set #[] 0 (.fresh 0 0 led) }).get? l=some { cls:=.type "list",dict:=Ix,data:=.seq its.toArray nl,slots:=Ew }:=aK _ Pn;have k6:=PySem.F.sub_list_set;have k7:=PySem.F.sub_list_frozenset;have k8:(p6 "list"==p6 "dict")=false:=by decide
    have Qw:(s.heap.push { cls:=.type "set",dict:=none,data:=.set #[] 0 (.fresh 0 0 led) }).IsList l its.toArray:=⟨_,gl,rfl,nl,rfl⟩;unfold fi.«set.__init__» noKeywords Builtin.Frozenset.updateFrom
    generalize Sg:nv=PI
    wp_walk
    subst Sg;refine cx Qw (aA (wpAny_runValue ?_));have lS:l<s.heap.objs.size:=bG Pn;have h3:A.in1.in1.handled=none:=by simp[hh]
    refine RC (led:=led) s.heap.objs.size ?_ (jU lS) ?_ h3 (by show A.units+1+1+9<_;omega) vm hb its.length 0 _ (by omega) (cL _) ?_ ?_ ?_ ?_ ?_ λh' tk kk hD=>?_
    ·show s.heap.objs.size≠(s.heap.push _).objs.size;rw[fP];exact bZ (iN _)
    ·show l≠(s.heap.push _).objs.size;rw[fP];exact bZ (hV lS)
    ·exact⟨_,aW _ rfl,rfl,rfl⟩
    ·exact Qw.at λo e=>aK _ e
    ·exactλb o e=>aK _ (aK _ e)
    ·refineλb o e=>⟨bZ (bG e),?_⟩
     show b≠(s.heap.push _).objs.size;rw[fP];exact bZ (hV (bG e))
    ·exact⟨[],⟨_,#[],0,_,aK _ gS,⟨rfl,rfl,rfl⟩,rfl,SL.new led,.nil⟩,.nil,cL _,(λz=>Iff.rfl),⟨λ_=>.nil,λ_=>rfl⟩⟩
    ·show wpAny _ _ _ _ _ _;refine aF ?_;show wpAny _ _ (ret g9) _ _ _;refine aF ⟨rfl,h',tk,rfl,(let ⟨m,h1,h2⟩:=hD;⟨m,led,h1,h2⟩),λb o e=>kk b o (bZ (bG e)) ?_ (aK _ (aK _ e))⟩;show b≠(s.heap.push _).objs.size;rw[fP];exact bZ (hV (bG e))
   ·cases r2 with
    |error e=>exact Mv
    |ok Rm=>
     cases Rm with
     |ret r=>
      obtain⟨rfl,h',tk,rfl,hD,kk⟩:=Mv
      repeat (any_goals (first | assumption | wp_step))
      exact h _ _ hD kk
     |_=>exact Mv.elim
  |_=>exact hr.elim
noncomputable def aBt(q:Addr)(n:Nat):HO:=.ext λh=>∃o es ep t,h.get? q=some o/\o.ExactSet/\o.data=.set es ep t/\t.fits es.size=true/\es.size=n/\n<300
def aCl(X:Cx)(xs:List V)(H:Hp)(Q:VK):Prop:=∃(p:Addr)(ks:List D)(as:List Addr),xs=[.ref p]/\mN X.K H p (as.map V.ref)/\Reps X.K H ks (as.map V.ref)/\(∀k∈ks,iV k)/\ks.length<300/\∀(q:Addr)(n:Nat),H q=none->(n=ks.length↔ks.Nodup)->n<=ks.length->Q (.ref q) (fM H q (aBt q n))
def Y7{as:List Addr}:∀{its},gE (as.map V.ref) its->its=as.map e8:=by
 induction as with
 |nil=>intro its h;cases h;rfl
 |cons a as ih=>
  intro its h
  cases h with
  |cons r t=>
   cases r;rw[ih t];rfl
theorem OW{prog w h}:∀{ks}{as:List Addr},Paired (λk a=>(eV prog w).is h k a) ks as->M5 prog w h (as.map e8) ks
|_,_,.nil=>.nil
|_,_,.cons r t=>.cons ⟨_,rfl,r⟩ (OW t)
def GZ(hc:X.calm=true)(hu:X.A.units+20<m4):kB X (.type "set") (aCl X):=by
 intro b7 s σ H xs us Q I r h;obtain⟨p,ks,as,rfl,hq,hr,hk,hz,q⟩:=h;obtain⟨u,rfl,rx⟩:=nX r;cases rx;obtain⟨its,rv,pl,_⟩:=I.list hq;have e:=Y7 rv;subst e;refine DX (I.ok.hd hc) pl.isList hu (OW (GG I hr hk)) hz λh' tk hD kk=>?_;obtain⟨m,led,hS,hd⟩:=hD;obtain⟨o,es,ep,t,ho,hex,nc,hT,hE⟩:=hS;refine⟨.ref _,_,I.laid kk (aL _) (show iE X.prog X.w _ h' _ (aBt s.heap.objs.size m.length)from⟨⟨o,es,ep,t,ho,hex,nc,hT.fits,by rw[<- bB];exact hE.len,zL hd.2.1 hz⟩,⟨o,ho⟩,?_⟩),rfl,q _ m.length (I.hok.fresh (aL _)) hd.2.2.2 hd.2.1⟩;rintro h1 h2 ⟨o,es,ep,t,ho,fK⟩ k;exact⟨o,es,ep,t,k o ho,fK⟩
def DY:kB X (.builtin "len") (λxs H Q=>∃(q:Addr)(n:Nat),xs=[.ref q]/\H q=some (aBt q n)/\Q (.int n) H):=by
 intro b7 s σ H xs us Q I r h;obtain⟨q,n,rfl,hq,hQ⟩:=h;obtain⟨u,rfl,rx⟩:=nX r;cases rx;obtain⟨⟨o,es,ep,t,ho,hex,hd,hf,hn,Rt⟩,_⟩:=I.hok q _ hq;subst hn;refine call_len_set ho hex hd hf ?_ ⟨.int _,H,I.tok _,⟨_,rfl⟩,hQ⟩;omega
end
end L2
namespace TL
open L2
section
variable{X:Cx}{e:Expr}{te:ET}{pos:Pos}
theorem EL{K H}:∀{ks vs},Reps K H ks vs->(∀k∈ks,∃xs,k=.tuple xs)->∃as:List Addr,vs=as.map V.ref
|_,_,.nil,_=>⟨[],rfl⟩
|_,_,.cons r t,h=>by
 obtain⟨as,rfl⟩:=EL t λk hk=>h k (aO _ hk);obtain⟨xs,rfl⟩:=h _ (aS ..)
 cases r with
 |tuple q _=>exact⟨_::as,rfl⟩
def JX(te:ET):ET:=λσ Q=>te σ λd=>∃ks:List D,d=.list ks/\(∀k∈ks,xH k)/\ks.length<300/\∀n:Nat,(n=ks.length↔ks.Nodup)->n<=ks.length->Q (.int n)
def MM{g1 g2 p2}(he:gG X e te)(hs:bS [e] X.env=(false,eval e X.env)::bS [] X.env:=by rfl)
  (pc:∀{v},PA X [e] (nY v xJ)->PE X (.Call g1 [.Call g2 [e] [] p2] [] pos) (NN (λxs H Q=>∃(q:Addr)(n:Nat),xs=[.ref q]/\H q=some (aBt q n)/\Q (.int n) H) (nY (NN (aCl X) (nY v xJ)) xJ))) :
  gG X (.Call g1 [.Call g2 [e] [] p2] [] pos) (JX te):=by
 obtain⟨v,pe,re⟩:=he;refine⟨_,pc (dY pe hU hs),λB p0 H ps σT σ Q QV o h k=>re B p0 H ps σT σ _ _ o h λd x H1 s1 r1 q1=>?_⟩;obtain⟨ks,rfl,hk,hz,q⟩:=q1
 cases r1 with
 |list hq s=>
  obtain⟨as,rfl⟩:=EL s λk gw=>(hk k gw).2;exact⟨_,ks,as,rfl,L2.bJ.seq bP hq,s.same bP,λk gw=>(hk k gw).1,hz,λw n hw h1 h2=>⟨w,_,rfl,cM,k _ _ _ (s1.trans (dL hw)) (.int _) (q n h1 h2)⟩⟩
end
end TL
namespace L2
open TL
section
variable{X:Cx}{o e:Expr}{to te:TE}{ic cu:Pos}
def DZ{prog w}{A:i5}{E:Value->Shared->Prop}{s:Shared}{d a:Addr}{k xs}{Q:Value->Shared->Prop}(hu:A.units+9<m4)(sg:(eV prog w).is s.heap k a)(hd:(d==l3)=false)(hm:s.heap.DictOfH (eV prog w) d xs)
  (h:Q (((eh xs k).map (·.2)).getD .none) { s with toks:=s.toks+oI k }):wpAny (model prog w) A (call (.builtin "dict.get") [.ref d,.ref a]) Q E s:=by
 refine fA HL hm.typeIs PySem.F.entry_dict_get ?_ (PySem.F.args_dict_get_2 _ _);show wpAny _ _ (dictGet d (.ref a) >>= _) _ _ s;refine aA (wpAny_dictGet_heap (show A.units+1+8<m4 by omega) sg hm ?_)
 cases hf:eh xs k with
 |some p=>
  rw[hf]at h;exact aF ⟨p.2,rfl,h⟩
 |none=>
  rw[hf]at h;show wpAny _ _ (Builtin.Dict.missed d (.ref a) >>= _) _ _ _;exact aA (wpAny_missed_other hd (aF ⟨.none,rfl,h⟩))
def LG(X:Cx)(x y:V)(H:Hp)(Q:VK):Prop:=∃(p a:Addr)(es:List (Int×Addr×V))(ks:List D)(k:D),x=.ref p/\y=.ref a/\C3 H p es/\DK X.K X.w H es ks/\fW X.K H k y/\iV k/\(k∉ks->Q .non H)/\∀(i:Nat)(e:Int×Addr×V),ks[i]?=some k->es[i]?=some e->Q e.2.2 H
def UP(hu:X.A.units+9<m4)(ho:PE X o to)(he:PE X e te)(kq:bb o "get" X.env (eval o X.env)=eval o X.env:=by rfl)
  (Dz:((w6 cu (bS [e] X.env)).all (λx=>!x.1)&&(backToKw cu (Ci [] X.env)).all (λx=>x.1.isSome)&&decide ([e].length+([]:List Fg).length+(if([]:List Fg).isEmpty then 0 else 1)<30))=true:=by rfl)
  (kr:(ic.endLine==cu.line)=true:=by rfl) (hs:bS [e] X.env=(false,eval e X.env)::bS [] X.env:=by rfl) (si:(w6 cu (bS [] X.env)).any (·.1)=false:=by rfl) :
  PE X (.Call (.Attribute o "get" ic) [e] [] cu) (λσ H Q=>to σ H λx H1=>(∃p es,x=.ref p/\C3 H1 p es)/\te σ H1 λy H2=>LG X x y H2 Q):=by
 intro b7 s σ H Q I h;refine ym kq Dz kr rfl (iZ (ho b7 s σ H _ I h) λv s1 zq=>?_);obtain⟨x,H1,I1,r1,⟨p,es,ex,hp⟩,q1⟩:=zq;subst ex;obtain rfl:v=e8 p:=r1;obtain⟨_,_,ob,ds,ep,h3,h4,_⟩:=C3.at I1 hp;refine⟨"dict","dict.get",FP,HL,PySem.F.type_dict_get,AW I1 hp,λa e=>by cases e;exact⟨ob,h3,h4.2.1⟩,?_⟩;have hA:=(dY he hU hs) cu b7 s1 σ H1 (λxs H2=>match xs with | [y]=>LG X (.ref p) y H2 Q | _=>False) I1 q1;rw[hs]at hA |-
 refine fx (by show(false||(w6 cu (bS [] X.env)).any (·.1))=false;rw[si]<;>rfl) (gq ?_);refine iZ hA λus s2 zq=>?_;obtain⟨vs,H2,I2,r2,q3⟩:=zq
 match vs,q3,r2 with
 |[y],q3,r2=>
 obtain⟨p',a,Dt,ks,k,Rl,rfl,Fp,dk,rk,ok,q0,q2⟩:=q3;cases Rl;obtain⟨u,rfl,ru⟩:=nX r2;cases ru;obtain⟨h1,h2,xs,x1,x2⟩:=zD I2 Fp dk;refine DZ hu (wY I2 rk ok) h1 x2 ?_;by_cases gw:k∈ks
 ·obtain⟨i,hi⟩:=bK gw
  have hl:i<Dt.length:=by
   have:=i6 gO dk.hs;rw[aB,aB]at this;have:=(aD.mp hi).1;omega
  have vf:Dt[i]?=some Dt[i]:=aG hl;obtain⟨v,v1,v2⟩:=WR x1 dk.nd hi vf;rw[v1];exact⟨_,H2,I2.tok _,v2,q2 i _ hi vf⟩
 ·have:=WQ x1 k;rw[f9 gw]at this;rw[show eh xs k=none by cases h:eh xs k with | none=>rfl | some _=>rw[h]at this;cases this];exact⟨.non,H2,I2.tok _,rfl,q0 gw⟩
end
end L2
namespace TL
open L2
section
variable{X:Cx}{a b e:Expr}{ta tb:ET}{pos ap:Pos}
def aF1(w:g7)(d k:D)(Q:D->Prop):Prop:=∃kvs,d=mD w kvs/\xH k/\(∀kv∈kvs,iV kv.1)/\(k∉kvs.map (·.1)->Q .none)/\∀v,(k,v)∈kvs->Q v
def aGc(w:g7)(ta tb:ET):ET:=λσ Q=>ta σ λd=>(∃kvs,d=mD w kvs)/\tb σ λk=>aF1 w d k Q
def WT(ha:gG X a ta)(hb:gG X b tb)(pc:∀{va vb:TE},PE X a va->PE X b vb->PE X (.Call (.Attribute a "get" ap) [b] [] pos) (λσ H Q=>va σ H λx H1=>(∃p es,x=.ref p/\C3 H1 p es)/\vb σ H1 λy H2=>LG X x y H2 Q)):gG X (.Call (.Attribute a "get" ap) [b] [] pos) (aGc X.w ta tb):=by
 obtain⟨va,pa,ra⟩:=ha;obtain⟨vb,pb,rb⟩:=hb;refine⟨_,pc pa pb,λB p0 H ps σT σ Q QV o h k=>ra B p0 H ps σT σ _ _ o h λd x H1 s1 r1 q1=>?_⟩;obtain⟨⟨kvs,rfl⟩,q1⟩:=q1;obtain⟨p,es,ep,rfl,h1,h2,h3,h4,h5⟩:=uT r1;refine⟨⟨p,es,rfl,.inr ⟨ep,bP _ _ h1⟩⟩,rb B p0 H1 ps σT σ _ _ (o.grow s1) q1 λkd y H2 s2 r2 q2=>?_⟩;obtain⟨Nn,e,⟨jh,ys,rfl⟩,hok,q0,q⟩:=q2;obtain⟨p',es',Gu,ee,g1,g2,g3,g4,g5⟩:=uT (e▸r1);cases ee;obtain⟨c,rfl⟩:=mO r2;have hm:=bT (ps:=ps) s2;refine⟨p,c,es',Nn.map (·.1),_,rfl,rfl,.inr ⟨Gu,bP _ _ (hm _ _ g1)⟩,((pA (w:=X.w) g2 g3 hok (g4.same hm))).same bP,r2.same bP,jh,λhn=>k _ _ H2 (s1.trans s2) .none (q0 hn),λi en hi he=>?_⟩;rw[aH]at hi;obtain⟨kv,Db,ek⟩:=bL.mp hi;obtain⟨Xa,e1,e2⟩:=(g5.same hm).two Db;rw[he]at e1;cases e1;exact k _ _ H2 (s1.trans s2) e2 (q _ (by rw[<- ek];exact aN Db))
end
end TL
namespace L2
open AutoSeq1 (wpAny_loadPart')
namespace Rv
def owner:Manifest.owners.lookup (String.ofList ['d','e','s','r','e','v','e','r'].reverse)=some Manifest.sig_reversed:=by kernel_rfl
end Rv
end L2
namespace L2
noncomputable abbrev fO(x q:Str)(st:Stmt)(kV dc pm:Value)(an:Option Addr)(cd ct:Value):kF:=nI x q (yC st) (mJ st) (bQ st) .none kV dc pm an cd ct
def aOi{α:Type}{P:List α->Prop}(h:∀a,P [a]):∀us:List α,us.length=1->P us
|[a],_=>h a
def aOh{α:Type}{P:List α->Prop}(h:∀a b,P [a,b]):∀us:List α,us.length=2->P us
|[a,b],_=>h a b
def aOg{α:Type}{P:List α->Prop}(h:∀a b c,P [a,b,c]):∀us:List α,us.length=3->P us
|[a,b,c],_=>h a b c
def aOf{α:Type}{P:List α->Prop}(h:∀a b c d,P [a,b,c,d]):∀us:List α,us.length=4->P us
|[a,b,c,d],_=>h a b c d
def aOe{α:Type}{P:List α->Prop}(h:∀a b c d e,P [a,b,c,d,e]):∀us:List α,us.length=5->P us
|[a,b,c,d,e],_=>h a b c d e
abbrev pN(x q:Str)(st:Stmt)(ps:List Str):Prop:=∀(kV dc pm:Value)(an:Option Addr)(cd ct:Value)(us:List Value),us.length=ps.length->bindArgs (fO x q st kV dc pm an cd ct) ⟨us,[]⟩=pure (ps.zip us)
structure Dg(K:aI)(x q:Str)(st:Stmt)(a:Addr)(f:kF)(ps:List Str):Prop where
 k:fZ K (.ref a)=true
 F:SM K x q st a f
 d:rB K f ps []
structure Df(K:aI)(mg:Str->Option Value)(x:Str)(st:Stmt)(a:Addr)(f:kF)(ps:List Str):Prop extends Dg K x x st a f ps where
 m:mg x=some (.ref a)
section
variable{K:aI}{h:Heap}{mg:Str->Option Value}{x q:Str}{st:Stmt}{ps:List Str}{f:Addr}{oc:Value}{od an:Option Addr}{sl:Array (Option Value)}{kV dc pm cd ct:Value}
def dg(b:pN x q st ps)(l:K.lookup f=some ⟨oc,od,.func (fO x q st kV dc pm an cd ct),sl⟩)(c:pO K cd q=true)(k:fZ K (.ref f)=true):Dg K x q st f (fO x q st kV dc pm an cd ct) ps:=⟨k,WN l c k,(WN l c k).binds b⟩
def df(X:K.In h)(G:h.Ns eW mg)(b:pN x x st ps)(a:fT K eW x=some (some (.ref f)))(l:K.lookup f=some ⟨oc,od,.func (fO x x st kV dc pm an cd ct),sl⟩)(c:pO K cd x=true)(k:fZ K (.ref f)=true):Df K mg x st f (fO x x st kV dc pm an cd ct) ps:=⟨dg b l c k,jQ X G a⟩
def bn1{p0}(h:∀kV dc pm an cd ct a0,bindArgs (fO x q st kV dc pm an cd ct) ⟨[a0],[]⟩=pure ([p0].zip [a0]):=by intros;rfl):pN x q st [p0]:=λa b c d e f=>aOi (h a b c d e f)
def MX{p0 p1}(h:∀kV dc pm an cd ct a0 a1,bindArgs (fO x q st kV dc pm an cd ct) ⟨[a0,a1],[]⟩=pure ([p0,p1].zip [a0,a1]):=by intros;rfl):pN x q st [p0,p1]:=λa b c d e f=>aOh (h a b c d e f)
def XF{p0 p1 p2}(h:∀kV dc pm an cd ct a0 a1 a2,bindArgs (fO x q st kV dc pm an cd ct) ⟨[a0,a1,a2],[]⟩=pure ([p0,p1,p2].zip [a0,a1,a2]):=by intros;rfl):pN x q st [p0,p1,p2]:=λa b c d e f=>aOg (h a b c d e f)
def XE{p0 p1 p2 p3}(h:∀kV dc pm an cd ct a0 a1 a2 a3,bindArgs (fO x q st kV dc pm an cd ct) ⟨[a0,a1,a2,a3],[]⟩=pure ([p0,p1,p2,p3].zip [a0,a1,a2,a3]):=by intros;rfl):pN x q st [p0,p1,p2,p3]:=λa b c d e f=>aOf (h a b c d e f)
def bn5{p0 p1 p2 p3 p4}(h:∀kV dc pm an cd ct a0 a1 a2 a3 a4,bindArgs (fO x q st kV dc pm an cd ct) ⟨[a0,a1,a2,a3,a4],[]⟩=pure ([p0,p1,p2,p3,p4].zip [a0,a1,a2,a3,a4]):=by intros;rfl):pN x q st [p0,p1,p2,p3,p4]:=λa b c d e f=>aOe (h a b c d e f)
def na{C:Addr}{f}(h:eI K (.ref C) f=some none):nG K C f:=h
end
end L2
namespace TL
open L2
section
variable{X:Cx}{e:Expr}{es:List Expr}{te:ET}{x:Str}{pos o9 p:Pos}
def cd{k n:Nat}{f:Addr}{fd pn sp t st}(F:eK X.prog X.w X.K X.mg X.base jW k f fd pn (dM X.K sp))(D:Df X.K X.mg x st f fd pn)(hr:Room n X.A)(ha:yQ X (e::es) t)(hk:k<=n:=by decide)
  (hg:Gl X x:=by rfl) (lw:(x==("__debug__":Str))=false:=by decide) (he:bS (e::es) X.env=(false,eval e X.env)::bS es X.env:=by rfl) (gy:(w6 pos (bS es X.env)).any (·.1)=false:=by rfl):gG X (.Call (.Name x p) (e::es) [] pos) (oP sp t):=aA1 F D.m D.k D.d (hr.mono hk) ha λh=>uU F (hr.mono hk) hg D.m D.k D.d .nil qB h lw he gy
def cc{k n:Nat}{f:Addr}{fd pn sp t st}(F:eK X.prog X.w X.K X.mg X.base jW k f fd pn (nD X.K sp))(D:Df X.K X.mg x st f fd pn)(hr:Room n X.A)(ha:XS X (e::es) t)(hk:k<=n:=by decide)
  (hg:Gl X x:=by rfl) (lw:(x==("__debug__":Str))=false:=by decide) (he:bS (e::es) X.env=(false,eval e X.env)::bS es X.env:=by rfl) (gy:(w6 pos (bS es X.env)).any (·.1)=false:=by rfl):sU X (.Call (.Name x p) (e::es) [] pos) (aDj sp t):=aA7 F D.m D.k D.d (hr.mono hk) ha λh=>uU F (hr.mono hk) hg D.m D.k D.d .nil qB h lw he gy
def cF{k n:Nat}{f:Addr}{fd pn sp t st}(F:eK X.prog X.w X.K X.mg X.base jW k f fd pn (qE X.K sp))(D:Df X.K X.mg x st f fd pn)(hr:Room n X.A)(ha:yQ X (e::es) t)(hk:k<=n:=by decide)
  (hg:Gl X x:=by rfl) (lw:(x==("__debug__":Str))=false:=by decide) (he:bS (e::es) X.env=(false,eval e X.env)::bS es X.env:=by rfl) (gy:(w6 pos (bS es X.env)).any (·.1)=false:=by rfl):PFt X (.Call (.Name x p) (e::es) [] pos) (aC9 sp t):=aAt F D.m D.k D.d (hr.mono hk) ha λh=>uU F (hr.mono hk) hg D.m D.k D.d .nil qB h lw he gy
def sf{tg iter body g tb ti}(he:D3 X tg iter ti)(hg:FK X tg g)(hb:rA X body tb)(hp:wp (model X.prog X.w) X.A X.env X.xe:=by exact fo)(hc:X.calm=true:=by rfl)(hs:∀x,j8 iter X.env x=pure x:=by intro _;rfl):sT X (.For tg iter body [] pos) (Y2 ti g tb):=K6 he hg hb λh1 h2 h3=>BV hp hc h1 h2 h3 hs
def sfC{tg iter body g tb ti}(he:D3 X tg iter ti)(hg:FK X tg g)(hb:AM X body tb)(hp:wp (model X.prog X.w) X.A X.env X.xe:=by exact fo)(hc:X.calm=true:=by rfl)(hs:∀x,j8 iter X.env x=pure x:=by intro _;rfl):XQ X (.For tg iter body [] pos) (aBi ti g tb):=aEf he hg hb λh1 h2 h3=>BV hp hc h1 h2 h3 hs
def el{az iter tg cw scope fr N' ti g tt te}(hi:D3 X tg iter ti)(hY:∀b:BP,FK (blk X scope N' b) tg g/\AN (blk X scope N' b) cw tt/\gG (blk X scope N' b) az te)(h:wE scope X.env.scope X.N N' fr=true:=by kernel_rfl)(hc:X.calm=true:=by rfl)(hs:∀x,j8 iter X.env x=pure x:=by intro _;rfl):gG X (.ListComp az [⟨tg,iter,cw,0⟩] scope pos) (WX fr ti g tt te):=aLl hi hY λa b=>LP h hc a b hs
def fl{az iter tg cw scope fr N' ti g tt te}(hi:D3 X tg iter ti)(hY:∀b:BP,FK (blk X scope N' b) tg g/\AN (blk X scope N' b) cw tt/\gG (blk X scope N' b) az te)(h:wE scope X.env.scope X.N N' fr=true:=by kernel_rfl)(hc:X.calm=true:=by rfl)(hs:∀x,j8 iter X.env x=pure x:=by intro _;rfl):PFt X (.ListComp az [⟨tg,iter,cw,0⟩] scope pos) (fLc fr ti g tt te):=aLe hi hY λa b=>LP h hc a b hs
def elC{az iter tg scope fr N' ti g te}(hi:D3 X tg iter ti)(hY:∀b:BP,FK (blk X scope N' b) tg g/\AN (blk X scope N' b) [] uF/\sU (blk X scope N' b) az te)(h:wE scope X.env.scope X.N N' fr=true:=by kernel_rfl)(hc:X.calm=true:=by rfl)(hs:∀x,j8 iter X.env x=pure x:=by intro _;rfl):sU X (.ListComp az [⟨tg,iter,[],0⟩] scope pos) (cLc fr ti g te):=aLm hi hY λa b=>LP h hc a b hs
def cY{r:List V->Hp->VK->Prop}{f:List D->(D->Prop)->Prop}{t T}(hf:sV X r f)(ha:yQ X (e::es) t)(hc:kB X (.type T) r)(hm:X.mg x=none)(hv:i0 x=some (.type T))(hg:Gl X x:=by rfl)(hn:x≠"__name__":=by decide)(lw:(x==("__debug__":Str))=false:=by decide)(he:bS (e::es) X.env=(false,eval e X.env)::bS es X.env:=by rfl)(gy:(w6 pos (bS es X.env)).any (·.1)=false:=by rfl):gG X (.Call (.Name x p) (e::es) [] pos) (oP f t):=aDc hf ha λh=>iP hc hg hm hv h hn lw he gy
def cB{r:List V->Hp->VK->Prop}{f:List D->(D->Prop)->Prop}{t T}(hf:sV X r f)(ha:yQ X (e::es) t)(hc:kB X (.builtin T) r)(hm:X.mg x=none)(hv:i0 x=some (.builtin T))(hg:Gl X x:=by rfl)(hn:x≠"__name__":=by decide)(lw:(x==("__debug__":Str))=false:=by decide)(he:bS (e::es) X.env=(false,eval e X.env)::bS es X.env:=by rfl)(gy:(w6 pos (bS es X.env)).any (·.1)=false:=by rfl):gG X (.Call (.Name x p) (e::es) [] pos) (oP f t):=aDc hf ha λh=>jL hc hg hm hv h hn lw he gy
def kT{r:List V->Hp->VK->Prop}{f:List D->(D->Prop)->Prop}{t T}(hf:sV X r f)(ha:XS X (e::es) t)(hc:kB X (.type T) r)(hm:X.mg x=none)(hv:i0 x=some (.type T))(hg:Gl X x:=by rfl)(hn:x≠"__name__":=by decide)(lw:(x==("__debug__":Str))=false:=by decide)(he:bS (e::es) X.env=(false,eval e X.env)::bS es X.env:=by rfl)(gy:(w6 pos (bS es X.env)).any (·.1)=false:=by rfl):sU X (.Call (.Name x p) (e::es) [] pos) (XD f t):=aLn hf ha λh=>iP hc hg hm hv h hn lw he gy
def so{p2 t}(i:Nat)(hN:X.N.Nodup)(h:yQ X es t)(hi:X.N[i]?=some x:=by rfl)(hx:SA X.env.scope x:=by first | exact ag rfl | exact y8 rfl)(hs:gX (.List es p2) (some (.Name x o9)) pos.line X.env=pure false:=by rfl)(hf:X.fn x=true\/X.env.scope.names.lookup x=some .local:=by first | exact .inl rfl | exact .inr rfl):sT X (.Assign [.Name x o9] (.List es p2) pos) (aEh i t):=aD8 (i:=i) h λh=>tP hN hi hx h hs hf
def sn{p2}(i:Nat)(hN:X.N.Nodup)(hi:X.N[i]?=some x:=by rfl)(hx:SA X.env.scope x:=by first | exact ag rfl | exact y8 rfl)(hs:gX (.Dict [] [] p2) (some (.Name x o9)) pos.line X.env=pure false:=by rfl)(hf:X.fn x=true\/X.env.scope.names.lookup x=some .local:=by first | exact .inl rfl | exact .inr rfl):sT X (.Assign [.Name x o9] (.Dict [] [] p2) pos) (TX i):=YR (i:=i) λh=>tP hN hi hx h hs hf
def sC{te}(i:Nat)(hN:X.N.Nodup)(h:sU X e te)(hi:X.N[i]?=some x:=by rfl)(hx:SA X.env.scope x:=by first | exact ag rfl | exact y8 rfl)(hs:gX e (some (.Name x o9)) pos.line X.env=pure false:=by rfl)(hf:X.fn x=true\/X.env.scope.names.lookup x=some .local:=by first | exact .inl rfl | exact .inr rfl):XQ X (.Assign [.Name x o9] e pos) (MW i te):=aEd (i:=i) h λh=>tP hN hi hx h hs hf
noncomputable def ndB(l:List Str):Bool:=decide l.Nodup
def pk(i:Nat)(hN:ndB X.N=true:=by kernel_rfl)(hi:X.N[i]?=some x:=by rfl)(hx:SA X.env.scope x:=by first | exact ag rfl | exact y8 rfl)(hf:X.fn x=true\/X.env.scope.names.lookup x=some .local:=by first | exact .inl rfl | exact .inr rfl):PG X (.Name x pos) (kG i):=OC (e7 hN) hi hx hf
def tv(h:gG X e te)(he:∀lb,isTrue e X.env lb=(do let v <- lb;standAt e.pos;xx [v] (truthy v)):=by intro _;rfl):KM X e (FE te):=aDz h λh=>UA h he
end
section
variable{X:Cx}{a:Expr}{pos:Pos}
section
variable{ta:ET}
def aLp(ta:ET):ET:=λσ Q=>ta σ λx=>match x with | .bool b=>Q (.bool (!b)) | _=>False
def aAw(ha:gG X a ta):gG X (.UnaryOp .Not a pos) (aLp ta):=by
 obtain⟨va,pa,ra⟩:=ha;refine⟨_,aEx pa,λB p0 H ps σT σ Q QV o h k=>ra B p0 H ps σT σ _ _ o h λd x H1 s1 r1 q1=>?_⟩
 cases r1 with
 |bool b=>exact⟨b,rfl,k _ _ H1 s1 (.bool _) q1⟩
 |_=>exact q1.elim
end
end
def _root_.L2.Room.u20{k:Nat}{A:i5}(r:Room k A):A.units+20<m4:=by have:=r.un;omega
end TL
namespace L2
def CK(f:Array Value->Array Value)(o:Obj):(u7 f o).dict=o.dict:=by
 unfold u7;split<;>rfl
structure wK(h:Heap)(e T:Addr)(dx:Option Addr)(cls a0 fl:Value):Prop where
 ne:T≠e
 ex:∃o vs,h.get? e=some o/\o.cls=cls/\o.dict=dx/\o.data=.fields vs/\vs[0]?=some a0/\vs[1]?=some (.ref T)
 tr:∃o ts,h.get? T=some o/\o.data=.fields ts/\ts[3]?=some fl
structure gI(fr ch:List Addr)(h h':Heap):Prop where
 keep:∀b o,h.get? b=some o->b∉fr->b∉ch->h'.get? b=some o
 slot:∀b o,h.get? b=some o->b∈fr->b∉ch->∃sl,h'.get? b=some { o with slots:=sl }
def gI.of{fr ch}{h h':Heap}(k:∀b o,h.get? b=some o->b∉ch->h'.get? b=some o):gI fr ch h h':=⟨λb o e _ c=>k b o e c,λb o e _ c=>⟨o.slots,k b o e c⟩⟩
def gI.any{fr ch}{h h':Heap}(x:gI fr ch h h'){b:Addr}{o}(e:h.get? b=some o)(c:b∉ch):∃sl,h'.get? b=some { o with slots:=sl }:=by
 by_cases f:b∈fr
 ·exact x.slot b o e f c
 ·exact⟨o.slots,x.keep b o e f c⟩
def gI.trans{fr ch h1 h2 h3}(x:gI fr ch h1 h2)(y:gI fr ch h2 h3):gI fr ch h1 h3:=by
 refine⟨λb o e f c=>y.keep b o (x.keep b o e f c) f c,λb o e f c=>?_⟩;obtain⟨sl,e1⟩:=x.slot b o e f c;obtain⟨yj,e2⟩:=y.slot b _ e1 f c;exact⟨yj,e2⟩
def gI.more{fr ch ch' h h'}(x:gI fr ch h h')(m:∀b∈ch,b∈ch'):gI fr ch' h h':=⟨λb o e f c=>x.keep b o e f λz=>c (m b z),λb o e f c=>x.slot b o e f λz=>c (m b z)⟩
def gI.frames{fr ch}{base h h':Heap}(x:gI fr ch h h'){l}(hl:h.FunFrames base l)(c:∀b∈sR l,b∉ch):h'.FunFrames base l:=by
 induction l with
 |nil=>trivial
 |cons v r ih=>
  obtain⟨hk,⟨L,o,hf,hn,ho,hd⟩,hr⟩:=hl
  have hm:L∈sR (v::r):=by
   show L∈(v::r).filterMap (·.frame);rw[fH,hf];exact aS ..
  obtain⟨sl,e⟩:=x.any ho (c L hm);refine⟨hk,⟨L,_,hf,hn,e,hd⟩,ih hr λb hb=>c b ?_⟩;show b∈(v::r).filterMap (·.frame);rw[fH,hf];exact aO _ hb
section
variable{P:bX}{w:g7}{A:i5}{E:Value->Shared->Prop}{s:Shared}{base:Heap}{v:Env}{outer:List Env}{L e:Addr}{Q:Unit->Shared->Prop}
def CG{o:Obj}{vs:Array Value}{Hf}{nx:Bool}(hA:A.frames=some (v::outer))(hl:s.heap.FunFrames base (v::outer))(hL:v.frame=some L)(he:s.heap.get? e=some o)(hd:o.data=.fields vs)(hz:1<vs.size)(yr:e∉sR (v::outer))
  (k:∀h' T,s.heap.objs.size<=T->T≠e->gI (sR (v::outer)) [e] s.heap h'->(∃o',h'.get? e=some o'/\o'.cls=o.cls/\o'.dict=o.dict/\o'.data=.fields (vs.setIfInBounds 1 (.ref T)))->(∃oT ts,h'.get? T=some oT/\oT.data=.fields ts/\ts[3]?=some (u0 L))->Q () { s with heap:=h' }) :
  wpAny (model P w) A (do let a <- frameOf v;let pl <- entryPlaceOf L nx;let b <- mo Hf a .none (u0 L) .none pl;me (.ref e) 1 b) Q E s:=by
 apply aA;refine wpAny_frameOf_fun hA hl hL λh1 so=>?_;apply aA;refine wpAny_entryPlaceOf λpl Qo=>?_;unfold mo newFields;apply aA;refine eD ?_ (Qo.sizeOk5 _ _ _ _ _);have e1:h1.get? e=some o:=(so.2.1 e yr).trans he
 generalize Ib:({ cls:=.type "traceback",dict:=none,data:=.fields ([Hf,.ref L,.none,u0 L,.none]++(if pl.isEmpty then qK 6 g9 else pl)).toArray }:Obj)=ob
 have e2:(h1.push ob).get? e=some o:=aK _ e1;refine cz e2 hd hz ?_;have ne:h1.objs.size≠e:=jU (bG e1);have d3:=aq hd (·.setIfInBounds 1 (e8 h1.objs.size));have e3:=iG (u7 (·.setIfInBounds 1 (e8 h1.objs.size))) e2 (gu d3)
 have hT:((h1.push ob).update e (u7 (·.setIfInBounds 1 (e8 h1.objs.size)))).get? h1.objs.size=some ob:=by
  rw[eQ _ _ (l8 ne)];refine aW h1 ?_;rw[<- Ib];rfl
 refine k _ h1.objs.size (by rw[so.1];exact aL _) ne ⟨λb u eb f c=>?_,λb u eb f c=>?_⟩ ⟨_,e3,yq _ _,CK _ _,d3⟩ ⟨ob,_,hT,by rw[<- Ib],?_⟩
 ·have xj:b≠e:=λz=>c (by rw[z];exact aS ..);rw[eQ _ _ (l8 xj)];exact aK _ ((so.2.1 b f).trans eb)
 ·have xj:b≠e:=λz=>c (by rw[z];exact aS ..);obtain⟨sl,es⟩:=so.2.2 b u eb;refine⟨sl,?_⟩;rw[eQ _ _ (l8 xj)];exact aK _ es
 ·rcases Qo with rfl | ⟨_,_,_,_,_,_,_,rfl⟩<;>simp
def LV{o:Obj}{vs a0}(hA:A.frames=some (v::outer))(hl:s.heap.FunFrames base (v::outer))(hL:v.frame=some L)(he:s.heap.get? e=some o)(hd:o.data=.fields vs)(h1:vs[1]?=some .none)(h0:vs[0]?=some a0)(yr:e∉sR (v::outer))
  (k:∀h' T,s.heap.objs.size<=T->gI (sR (v::outer)) [e] s.heap h'->wK h' e T o.dict o.cls a0 (u0 L)->Q () { s with heap:=h' }):wpAny (model P w) A (nr (.ref e) v) Q E s:=by
 unfold nr;simp only[hL];apply aA;refine p7 he hd h1 ?_;rw[b8 (by decide)];have hz:1<vs.size:=(dU.mp h1).1;refine CG hA hl hL he hd hz yr λh' T n1 n2 kb hx hT=>k h' T n1 kb ⟨n2,?_,hT⟩;obtain⟨o',x1,x2,xd,x3⟩:=hx;exact⟨o',_,x1,x2,xd,x3,by rw[nV (by decide)];exact h0,by simp[hz]⟩
def EQ{T:Addr}{dx cls a0}(hA:A.frames=some (v::outer))(hl:s.heap.FunFrames base (v::outer))(hL:v.frame=some L)(x:wK s.heap e T dx cls a0 .none)(yr:e∉sR (v::outer))(Lj:T∉sR (v::outer))
  (k:∀h' T',s.heap.objs.size<=T'->gI (sR (v::outer)) [e,T] s.heap h'->wK h' e T' dx cls a0 (u0 L)->Q () { s with heap:=h' }):wpAny (model P w) A (nr (.ref e) v) Q E s:=by
 obtain⟨ne,⟨o,vs,he,hc,Fl,hd,h0,h1⟩,⟨oT,ts,hT,Fk,h3⟩⟩:=x;unfold nr;simp only[hL];apply aA;refine p7 he hd h1 ?_;rw[b9 (show(e8 T != g9)=true from rfl)];apply aA;refine p7 hT Fk h3 ?_;rw[b8 (show¬((g9==u0 L)=true) by simp[u0])];apply aA;refine cz hT Fk (dU.mp h3).1 ?_;have Qr:∀b,b≠T->(s.heap.update T (u7 (·.setIfInBounds 3 g9))).get? b=s.heap.get? b:=λb hb=>eQ _ _ (l8 hb);have Qg:gI (sR (v::outer)) [T] s.heap (s.heap.update T (u7 (·.setIfInBounds 3 g9))):=.of λb u eb c=>(Qr b λz=>c (by rw[z];exact aS ..)).trans eb;have hz:1<vs.size:=(dU.mp h1).1;refine CG (s:={ s with heap:=s.heap.update T (u7 (·.setIfInBounds 3 g9)) }) hA (Qg.frames hl λb hb z=>Lj (by rw[<- bR.mp z];exact hb)) hL ((Qr e (l8 ne)).trans he) hd hz yr λh' T' n1 n2 kb hx li=>?_;have Vz:s.heap.objs.size<=T':=dG (nU (X5 ..).symm) n1;refine k h' T' Vz ((Qg.more λb hb=>by simp at hb |-;exact .inr hb).trans (kb.more λb hb=>by simp at hb |-;exact .inl hb)) ⟨n2,?_,li⟩;obtain⟨o',x1,x2,xd,x3⟩:=hx;exact⟨o',_,x1,x2.trans hc,xd.trans Fl,x3,by rw[nV (by decide)];exact h0,by simp[hz]⟩
def sD{T:Addr}{dx cls a0 fl}(x:wK s.heap e T dx cls a0 fl)(k:∀h',(∀b o,s.heap.get? b=some o->b≠T->h'.get? b=some o)->wK h' e T dx cls a0 .none->Q () { s with heap:=h' }):wpAny (model P w) A (setFlight (.ref e) none) Q E s:=by
 obtain⟨ne,⟨o,vs,he,hc,Fl,hd,h0,h1⟩,⟨oT,ts,hT,Fk,h3⟩⟩:=x;have hz:3<ts.size:=(dU.mp h3).1;unfold setFlight;apply aA;refine p7 he hd h1 ?_;rw[b9 (show(e8 T != g9)=true from rfl)];refine cz hT Fk hz (k _ (λb u eb hb=>(eQ _ _ (l8 hb)).trans eb) ⟨ne,⟨o,vs,(eQ _ _ ne).trans he,hc,Fl,hd,h0,h1⟩,_,_,iG _ hT (gu (aq Fk _)),aq Fk _,by simp[hz]⟩)
def JE{o:Obj}{vs a0}(hA:A.frames=some (v::outer))(hl:s.heap.FunFrames base (v::outer))(hL:v.frame=some L)(he:s.heap.get? e=some o)(hd:o.data=.fields vs)(h1:vs[1]?=some .none)(h0:vs[0]?=some a0)(yr:e∉sR (v::outer))
  (k:∀h' T,s.heap.objs.size<=T->gI (sR (v::outer)) [e] s.heap h'->wK h' e T o.dict o.cls a0 .none->Q () { s with heap:=h' }):wpAny (model P w) A (lz v (.ref e)) Q E s:=by
 unfold lz;apply aA;refine LV hA hl hL he hd h1 h0 yr λh1 T n1 kb x=>?_;refine sD (s:={ s with heap:=h1 }) x λh2 k2 x2=>k h2 T n1 ⟨λb u eb f c=>?_,λb u eb f c=>?_⟩ x2
 ·exact k2 b u (kb.keep b u eb f c) λz=>d8 (cK (bG eb) n1) (by rw[z];exact eX _)
 ·obtain⟨sl,es⟩:=kb.slot b u eb f c;exact⟨sl,k2 b _ es λz=>d8 (cK (bG eb) n1) (by rw[z];exact eX _)⟩
def L4{T:Addr}{dx cls a0}(hA:A.frames=some (v::outer))(hl:s.heap.FunFrames base (v::outer))(hL:v.frame=some L)(x:wK s.heap e T dx cls a0 .none)(yr:e∉sR (v::outer))(Lj:T∉sR (v::outer))
  (k:∀h' T',s.heap.objs.size<=T'->gI (sR (v::outer)) [e,T] s.heap h'->wK h' e T' dx cls a0 .none->Q () { s with heap:=h' }):wpAny (model P w) A (lz v (.ref e)) Q E s:=by
 unfold lz;apply aA;refine EQ hA hl hL x yr Lj λh1 T' n1 kb x=>?_;refine sD (s:={ s with heap:=h1 }) x λh2 k2 x2=>k h2 T' n1 ⟨λb u eb f c=>?_,λb u eb f c=>?_⟩ x2
 ·exact k2 b u (kb.keep b u eb f c) λz=>d8 (cK (bG eb) n1) (by rw[z];exact eX _)
 ·obtain⟨sl,es⟩:=kb.slot b u eb f c;exact⟨sl,k2 b _ es λz=>d8 (cK (bG eb) n1) (by rw[z];exact eX _)⟩
end
section
variable{P:bX}{w:g7}{H H':Hp}{h h0 h':Heap}{a:Addr}{o:HO}{fr Oe ch:List Addr}
theorem iE.get(x:iE P w H h a o):∃u,h.get? a=some u:=by
 cases o with
 |lst xs=>obtain⟨_,_,_,_,e⟩:=x;exact⟨_,e⟩
 |tup xs=>obtain⟨_,_,_,_,e,_⟩:=x;exact⟨_,e⟩
 |dK kvs=>obtain⟨_,_,_,_,o,_,_,e,_⟩:=x;exact⟨_,e⟩
 |dT kvs=>obtain⟨_,_,_,_,o,_,_,e,_⟩:=x;exact⟨_,e⟩
 |set S n=>obtain⟨o,_,_,_,e,_⟩:=x;exact⟨_,e⟩
 |ins C dx fs=>obtain⟨_,_,_,e,_⟩:=x;exact⟨_,e⟩
 |own y=>obtain⟨_,e⟩:=x;exact⟨_,e⟩
 |xd fs=>obtain⟨_,⟨_,_,_,e,_⟩,_⟩:=x;exact⟨_,e⟩
 |rng lo hi=>obtain⟨_,_,_,e⟩:=x;exact⟨_,e⟩
 |frz ob u=>obtain⟨e,_⟩:=x;exact⟨_,e⟩
 |tbl ps=>obtain⟨_,e,_⟩:=x;exact⟨_,e⟩
 |met f y=>exact⟨_,(show h.get? a=some _ from x)⟩
 |ext φ=>obtain⟨_,⟨_,e⟩,_⟩:=x;exact⟨_,e⟩
def rF.out(x:rF P w H h)(e:h.get? a=none):H a=none:=by
 cases q:H a with
 |none=>rfl
 |some u=>obtain⟨_,z⟩:=(x a u q).get;rw[e]at z;cases z
def rF.butX(x:rF P w H h)(kb:gI fr ch h h')(hf:∀b∈fr,H b=none)(hc:∀b∈ch,H b=none):rF P w H h':=λa o e=>by
 refine(x a o e).stay (λb u hb q=>?_) (λ_ q=>q) λ_ _ q=>q
 have hn:H b≠none:=by
  rcases hb with rfl | hb
  ·rw[e];exactλz=>nomatch z
  ·rw[hb];exactλz=>nomatch z
 exact kb.keep b u q (λz=>hn (hf b z)) λz=>hn (hc b z)
def Un.but(u:Un fr [] H H' h0 h)(kb:gI Oe ch h h')(nw:∀b o,h0.get? b=some o->b∉ch/\(b∈Oe->b∈fr)):Un fr [] H H' h0 h' where
 keep:=λb o e n f x=>kb.keep b o (u.keep b o e n f x) (λz=>f ((nw b o e).2 z)) (nw b o e).1
 slot:=λb o e n f x=>by
  obtain⟨sl,e1⟩:=u.slot b o e n f x;obtain⟨yj,e2⟩:=kb.any e1 (nw b o e).1;exact⟨yj,e2⟩
 free:=u.free
 there:=λb o e x=>by
  obtain⟨o',e1⟩:=u.there b o e x;obtain⟨yj,e2⟩:=kb.any e1 (nw b o e).1;exact⟨_,e2⟩
 tups:=u.tups
 frzs:=u.frzs
 tbls:=u.tbls
end
def X1(P:bX)(w:g7):XV:=λouter H s E e s'=>∃ea T dx cls a0 H',e=.ref ea/\s'.os=s.os/\fz s'.gens/\Un (sR outer) [] H H' s.heap s'.heap/\rF P w H' s'.heap /\
 wK s'.heap ea T dx cls a0 .none/\H' ea=none/\H' T=none/\s.heap.get? ea=none/\s.heap.get? T=none/\(∀a,dx=some a->s.heap.get? a=none)/\E cls dx H'
section
variable{P:bX}{w:g7}{K:aI}{mg:Str->Option Value}{base:Heap}{N:List Str}{qual:Str}{scope:Scope}{f:Addr}{cd:Value}{A:i5}{outer:List Env}{s:Shared}{H:Hp}{E:XK}
noncomputable abbrev PY(P:bX)(w:g7)(K:aI)(mg:Str->Option Value)(base:Heap)(N:List Str)(qual:Str)(scope:Scope)(f:Addr)(cd:Value)(A:i5)(outer:List Env)(s:Shared)(H:Hp)(E:XK):Cx:=uC (X1 P w) P w K mg base N qual scope f cd A outer s H E
def aB2{b7 σ}{H1:Hp}{s1 s2:Shared}{ea:Addr}{ch dx cls a0}(I:dS (PY P w K mg base N qual scope f cd A outer s H E) b7 σ H1 s1)(Te:s.heap.get? ea=none)(hE:E cls dx H1)(hh:H1 ea=none)
  (By:s2.os=s1.os) (hg:s2.gens=s1.gens) (hk:gI (sR (o7 qual scope s.heap.objs.size f cd::outer)) ch s1.heap s2.heap) (jm:∀b∈ch,H1 b=none/\s.heap.get? b=none) {T:Addr} (x:wK s2.heap ea T dx cls a0 .none) (hT:H1 T=none) (So:s.heap.get? T=none) (Lr:∀a,dx=some a->s.heap.get? a=none) :
  X1 P w outer H s E (.ref ea) s2:=by
 refine⟨ea,T,dx,cls,a0,H1,rfl,By.trans I.os,by rw[hg];exact I.bare,Un.but I.base hk λb o e=>⟨λz=>?_,λz=>?_⟩,I.hok.butX hk (λb hb=>I.stkFree b hb) λb hb=>(jm b hb).1,x,hh,hT,Te,So,Lr,hE⟩
 ·rw[(jm b z).2]at e;cases e
 ·have z':b∈s.heap.objs.size::sR outer:=I.stkSub b z;rcases bE.mp z' with q | q
  ·rw[q]at e;exact d8 (bG e) (eX _)
  ·exact q
def aCq:xG (X1 P w) (PY P w K mg base N qual scope f cd A outer s H E) E:=by
 intro b7 σ H1 s1 e s2 I hx;obtain⟨ea,T,dx,cls,a0,H2,rfl,os,bare,un,hok,x,n1,n2,n3,n4,n5,hE⟩:=hx;have I2:dS (PY P w K mg base N qual scope f cd A outer s H E) b7 σ H2 s2:=I.call' (ch:=[]) os un hok bare λb z=>d8 z (by simp)
 have kt:∀b,s1.heap.get? b=none->b∉sR (o7 qual scope s.heap.objs.size f cd::outer):=λb hb z=>by
  obtain⟨_,o,ho,_⟩:=I.stack.mem z;rw[hb]at ho;cases ho
 have old:∀b,s1.heap.get? b=none->s.heap.get? b=none:=λb hb=>by
  cases q:s.heap.get? b with
  |none=>rfl
  |some o=>obtain⟨o',z⟩:=I.base.there b o q (λz=>d8 z (by simp[uC]));rw[hb]at z;cases z
 show wpAny (model P w) (A.deeper (o7 qual scope s.heap.objs.size f cd)) (lz (o7 qual scope s.heap.objs.size f cd) (.ref ea)) _ _ s2;refine L4 (base:=base) (outer:=outer) I.ok.frames I2.stack rfl x (kt ea n3) (kt T n4) λh' T' sz kb x'=>?_;have li:s2.heap.get? T'=none:=oR sz;refine aB2 (s2:={ s2 with heap:=h' }) I2 (old ea n3) hE n1 rfl rfl kb (λb hb=>?_) x' (hok.fresh sz) ?_ λa z=>old a (n5 a z)
 ·simp only[bE,eO,af]at hb;rcases hb with rfl | rfl
  ·exact⟨n1,old _ n3⟩
  ·exact⟨n2,old _ n4⟩
 ·cases q:s.heap.get? T' with
  |none=>rfl
  |some o=>obtain⟨o',z⟩:=I2.base.there T' o q (λz=>d8 z (by simp[uC]));rw[li]at z;cases z
end
end L2
namespace L2
def aL8(K:aI)(C:Addr):Prop:=∃nm q N bs hdct sn sub ab col dd k0 k1 k2 k3 k5 J c0 dJ Jl Qu,
 K.lookup C=some (excClassObj nm q C N bs (.ref J::[.type "ValueError",.type "Exception",.type "BaseException",.type "object"]) hdct sn sub ab col dd k0 k1 k2 k3 k5 "ValueError.__new__") /\
 uH K N=true/\fT K N "__init__"=some none/\K.lookup J=some ⟨c0,dJ,.cls Jl,Qu⟩/\uH K Jl.ns=true/\fT K Jl.ns "__init__"=some none
def OM{K:aI}{h:Heap}{N:Addr}{m:Str->Option Value}{n}(X:K.In h)(G:h.Ns N m)(e:fT K N n=some none):m n=none:=by
 obtain⟨o,es,ep,ho,hd,_,hf⟩:=G;unfold fT at e;split at e
 ·rename_i q;have z:=X _ _ q;rw[ho]at z;cases z;cases hd;split at e
  ·cases e
  ·rename_i he;rw[<- hf];unfold nsFind findBy;rw[<- SK,he]
   rfl
 ·cases e
def ON{h h':Heap}{N:Addr}{m:Str->Option Value}(G:h.Ns N m)(k:∀b o,h.get? b=some o->h'.get? b=some o):h'.Ns N m:=let ⟨o,es,ep,ho,r⟩:=G;⟨o,es,ep,k _ _ ho,r⟩
def S6(C:Addr)(E:XK)(t:TA):TS:=λ_ σ H=>t σ H λvs H1=>vs.length<=bM/\E (.ref C) none H1
section
variable{P:bX}{w:g7}{K:aI}{mg:Str->Option Value}{base:Heap}{N:List Str}{qual:Str}{scope:Scope}{f:Addr}{cd:Value}{A:i5}{outer:List Env}{s:Shared}{H:Hp}{E:XK}
def UC{C:Addr}{k:Nat}{x:Str}{np cu pos e es t}(R:aL8 K C)(hr:Room k (A.deeper (o7 qual scope s.heap.objs.size f cd)))(hg:Gl (PY P w K mg base N qual scope f cd A outer s H E) x)(hm:mg x=some (.ref C))
  (ha:PA (PY P w K mg base N qual scope f cd A outer s H E) (e::es) t) (hd:(x==("__debug__":Str))=false:=by decide)
  (he:bS (e::es) (o7 qual scope s.heap.objs.size f cd)=(false,eval e (o7 qual scope s.heap.objs.size f cd))::bS es (o7 qual scope s.heap.objs.size f cd):=by rfl)
  (gy:(w6 cu (bS (e::es) (o7 qual scope s.heap.objs.size f cd))).any (·.1)=false:=by rfl) :
  PS (PY P w K mg base N qual scope f cd A outer s H E) (.Raise (some (.Call (.Name x np) (e::es) [] cu)) none pos) (S6 C E t):=by
 intro b7 s1 σ H1 D I h;obtain⟨nm,q,NC,bs,hdct,sn,sub,ab,col,dd,k0,k1,k2,k3,k5,J,c0,dJ,Jl,Qu,lC,nC,iC,lJ,nJ,iJ⟩:=R;have gC:=XX.of_isNs (NE I.mod.kin nC);have gJ:=XX.of_isNs (NE I.mod.kin nJ);have vC:=OM I.mod.kin gC iC;have vJ:=OM I.mod.kin gJ iJ;refine wpAny_Raise_call_subT F.excBase_ValueError (C:=C) (nm:=nm) (q:=q) (N:=NC) (bs:=bs) (bm:=.ref J::[.type "ValueError",.type "Exception",.type "BaseException",.type "object"]) (hdct:=hdct) (sn:=sn) (sub:=sub) (ab:=ab) (col:=col) (dd:=dd) (k0:=k0) (k1:=k1) (k2:=k2) (k3:=k3) (k5:=k5) (by rfl) hr.hd gy vC (vB I hg hm ⟨rfl,?_⟩ hd);rw[show(PY P w K mg base N qual scope f cd A outer s H E).env=o7 qual scope s.heap.objs.size f cd from rfl,he];refine gq ?_;have hp:=ha cu b7 s1 σ H1 _ I h;rw[show(PY P w K mg base N qual scope f cd A outer s H E).env=o7 qual scope s.heap.objs.size f cd from rfl,he]at hp;refine fV hp (λus s2 hz=>?_) λ_ _ z=>z;obtain⟨vs,H2,I2,r,hl,hE⟩:=hz;refine⟨rfl,by rw[<- r.length];exact hl,I2.kIn _ _ lC,ON gC I2.bk,.own (I2.kIn _ _ lJ) (ON gJ I2.bk) vJ .base,λh' ea hm=>?_⟩;have xw:=I2.hok.kept hm.keeps;have I3:dS (PY P w K mg base N qual scope f cd A outer s H E) b7 σ H2 { s2 with heap:=h' }:=I2.un (t':=s2.toks) (Un.kept hm.keeps) xw;obtain⟨t',vf,_,_⟩:=hm.there;have hn:H2 ea=none:=I2.hok.out hm.new
 have kt:ea∉sR (o7 qual scope s.heap.objs.size f cd::outer):=λz=>by
  obtain⟨_,o,ho,_⟩:=I2.stack.mem z;rw[hm.new]at ho;cases ho
 have old:∀b,s2.heap.get? b=none->s.heap.get? b=none:=λb hb=>by
  cases q:s.heap.get? b with
  |none=>rfl
  |some o=>obtain⟨o',z⟩:=I2.base.there b o q (λz=>d8 z (by simp[uC]));rw[hb]at z;cases z
 show wpAny (model P w) (A.deeper (o7 qual scope s.heap.objs.size f cd)) (lz (o7 qual scope s.heap.objs.size f cd) (.ref ea)) _ _ { s2 with heap:=h' };refine JE (base:=base) (outer:=outer) (s:={ s2 with heap:=h' }) I.ok.frames I3.stack rfl vf rfl rfl rfl kt λRp T sz kb x'=>?_;refine aB2 (s2:={ s2 with heap:=Rp }) I3 (old ea hm.new) hE hn rfl rfl kb (λb hb=>?_) x' (xw.fresh sz) ?_ (λa z=>nomatch z)
 ·simp only[bE,eO,af]at hb;subst hb;exact⟨hn,old _ hm.new⟩
 ·cases q:s.heap.get? T with
  |none=>rfl
  |some o=>obtain⟨o',z⟩:=I3.base.there T o q (λz=>d8 z (by simp[uC]));rw[show({ s2 with heap:=h' }:Shared).heap.get? T=none from oR sz]at z;cases z
end
def RS(X:Cx)(st:Stmt)(rt:St->Hp->(Hp->XK)->Prop):Prop:=∀b7 s σ H(W:Hp->XK),dS X b7 σ H s->rt σ H W ->
 wpAny (model X.prog X.w) X.A (exec st X.env) (λ_ _=>False) (λe s'=>∃H1 s1,dS X b7 σ H1 s1/\X1 X.prog X.w X.stack H1 s1 (W H1) e s') s
def RE(X:Cx)(e:Expr)(rt:St->Hp->(Hp->XK)->Prop):Prop:=∀b7 s σ H(W:Hp->XK),dS X b7 σ H s->rt σ H W ->
 wpAny (model X.prog X.w) X.A (eval e X.env) (λ_ _=>False) (λe s'=>∃H1 s1,dS X b7 σ H1 s1/\X1 X.prog X.w X.stack H1 s1 (W H1) e s') s
def PR(X:Cx):Prop:=∀e s,¬X.xe e s
section
variable{X:Cx}{k:Nat}{f:Addr}{fd:kF}{ps:List Str}{sp:Sp}{x:Str}{p pos:Pos}{e:Expr}{es:List Expr}{t:TA}
def Y8(hq:PR X)(F:eK X.prog X.w X.K X.mg X.base (X1 X.prog X.w) k f fd ps sp)(hr:Room k X.A)(hg:Gl X x)(hm:X.mg x=some (.ref f))(hk:fZ X.K (.ref f)=true)(hb:rB X.K fd ps [])
  (ha:PA X (e::es) t) (lw:(x==("__debug__":Str))=false:=by decide) (he:bS (e::es) X.env=(false,eval e X.env)::bS es X.env:=by rfl) (gy:(w6 pos (bS es X.env)).any (·.1)=false:=by rfl) :
  RE X (.Call (.Name x p) (e::es) [] pos) (λσ H W=>t σ H λvs H1=>sp vs H1 (λ_ _=>False) (W H1)):=by
 intro b7 s σ H W I h;refine br (vB I hg hm ?_ lw);refine pP (h₀:=X.base) I.ok.mod.kin hk (fV (ha pos b7 s σ H _ I h) (λus s1 hz=>?_) λe s z=>d8 z (hq e s)) he gy;obtain⟨vs,H1,I1,r,q⟩:=hz;refine⟨I1.kIn,?_⟩;have hl:us.length=ps.length:=by rw[<- r.length];exact F.len _ _ _ _ q
 have Ct:=hb s1 us I1.kIn (by rw[dP];exact hl);rw[dP]at Ct;refine ua (aj (F.run X.A X.stack s1 H1 ⟨us,[]⟩ us vs _ (W H1) hr I1.env0 Ct r q) λr s' hq=>?_)
 cases r with
 |error e=>exact⟨H1,s1,I1,hq⟩
 |ok fl=>
  cases fl with
  |ret u=>obtain⟨_,_,_,_,_,_,_,z⟩:=hq;exact z.elim
  |next=>exact j9 hq
  |brk=>exact j9 hq
  |cont=>exact j9 hq
def aEm{rt:St->Hp->(Hp->XK)->Prop}{y o9}(h:RE X e rt)(hs:gX e (some (.Name y o9)) pos.line X.env=pure false:=by rfl):RS X (.Assign [.Name y o9] e pos) rt:=by
 intro b7 s σ H W I hq;exact Gc (iZ (h b7 s σ H W I hq) λv s1 z=>z.elim) hs
end
noncomputable abbrev Cx.marked(X:Cx)(ea:Addr):Cx:={ X with A:=X.A.mark (some (.ref ea)),calm:=false }
section
variable{X:Cx}{b7:List (Addr×Obj)}{σ:St}{H:Hp}{s:Shared}{ea:Addr}
def dS.mark(I:dS X b7 σ H s)(ea:Addr):dS (X.marked ea) b7 σ H s:=
 ⟨⟨I.ok.mod,I.ok.kind,I.ok.glob,I.ok.blt,I.ok.above,I.ok.inj,I.ok.has,I.ok.cab,(λz=>nomatch z),I.ok.frames,I.ok.stk,I.ok.exf,I.ok.bs,I.ok.bsz,I.ok.noex,I.ok.exfs,I.ok.funs,I.ok.frf,I.ok.tab⟩,I.os,I.bare,I.base,I.loc,I.cell,I.free,I.freeC,I.pin,I.hok,I.len⟩
def dS.unmark{g6 H' s'}(I:dS X b7 σ H s)(J:dS (X.marked ea) b7 g6 H' s'):dS X b7 g6 H' s':=⟨I.ok,J.os,J.bare,J.base,J.loc,J.cell,J.free,J.freeC,J.pin,J.hok,J.len⟩
def aAo{M A}{E:Value->Shared->Prop}{i:Nat}{n pos}{Q:Unit->Shared->Prop}(I:dS X b7 σ H s)(hN:X.N.Nodup)(hi:X.N[i]?=some n)(hx:X.env.scope.names.lookup n=some .local)
  (h:∀s',dS X b7 (σ.set i none) H s'->Q () s'):wpAny M A (do bindName X.env n .none;unbindBehindTheSuite X.env n pos) Q E s:=by
 obtain⟨m,hn,hl⟩:=id I.loc;have Dw:(X.env.scope.kind==.class||(X.env.scope.kind==.module&&X.env.locals != X.env.globals))=false:=by rw[I.ok.kind];rfl
 have Bw:i<σ.length:=by rw[I.len];exact(aD.mp hi).1
 have cne:=I.cne;refine wpAny_nameGoes_keeps hx hn Dw λh' v hn' hs=>?_;have Fw:∀b o,X.s₀.heap.get? b=some o->b≠X.env.locals:=λb o e=>bZ (cK (bG e) I.ok.above);refine h _ ⟨I.ok,I.os,I.bare,⟨λb o e n hb hx=>?_,λb o e n hb hx=>?_,I.base.free,λb o e hx=>?_,I.base.tups,I.base.frzs,I.base.tbls⟩,⟨_,hn',λj y v' e1 e2 e3=>?_⟩,λy c e=>?_,I.free,I.freeC,λp hp=>?_,λb ob e=>?_,by simpa using I.len⟩
 ·exact(hs.2 b (Fw b o e)).trans (I.base.keep b o e n hb hx)
 ·obtain⟨sl,e1⟩:=I.base.slot b o e n hb hx;exact⟨sl,(hs.2 b (Fw b o e)).trans e1⟩
 ·obtain⟨o',e1⟩:=I.base.there b o e hx;exact⟨o',(hs.2 b (Fw b o e)).trans e1⟩
 ·have hj:j≠i:=λz=>by
   rw[z,aV Bw]at e2;cases e2
  rw[aU (l8 hj)]at e2;obtain⟨u',r',q⟩:=hl j y v' e1 e2 e3;have hy:y≠n:=λz=>hj (B2 hN (z▸e1) hi);refine⟨u',r',?_⟩;rcases q with⟨k,e⟩ | ⟨k,c,e,o,z,zd⟩
  ·exact .inl ⟨k,by show(if y=n then v else m y)=_;rw[b8 hy];exact e⟩
  ·exact .inr ⟨k,c,e,o,(hs.2 c (cne y c e)).trans z,zd⟩
 ·obtain⟨w',o,z,zd⟩:=I.cell y c e;exact⟨w',o,(hs.2 c (cne y c e)).trans z,zd⟩
 ·obtain⟨p1,p2,p3,p4,p5⟩:=I.pin p hp;exact⟨(hs.2 p.1 p3).trans p1,p2,p3,p4,p5⟩
 ·refine(I.hok b ob e).stay (λc w' hc q=>(hs.2 c ?_).trans q) (λ_ q=>q) λ_ _ q=>q;rintro rfl;rcases hc with rfl | hc
  ·rw[I.free]at e;cases e
  ·rw[I.free]at hc;cases hc
def rF.track{P w H h}{a:Addr}{o}(x:rF P w H h)(hn:H a=none)(new:iE P w (fM H a o) h a o):rF P w (fM H a o) h:=λb u e=>by
 by_cases hb:b=a
 ·subst hb;rw[cM]at e;cases e;exact new
 ·rw[cI hb]at e;exact(x b u e).stay (λc v _ q=>q) (λc q=>by rw[cI (fL q hn)];exact q) (λc xs q=>by rw[cI (fL q hn)];exact q) λc ob v q=>by rw[cI (fL q hn)];exact q
def Un.track{fr H H'}{h h':Heap}{a:Addr}{o}(u:Un fr [] H H' h h')(hn:H' a=none)(hf:h.get? a=none):Un fr [] H (fM H' a o) h h' where
 keep:=u.keep
 slot:=u.slot
 free:=λb ob e n x=>by
  rw[cI λz=>by rw[z,hf]at e;cases e];exact u.free b ob e n x
 there:=u.there
 tups:=λb xs e=>by have z:=u.tups b xs e;rw[cI (fL z hn)];exact z
 frzs:=λb ob v e=>by have z:=u.frzs b ob v e;rw[cI (fL z hn)];exact z
 tbls:=λb q e=>by
  obtain⟨more,z⟩:=u.tbls b q e;exact⟨more,by rw[cI (fL z hn)];exact z⟩
def S4(K:aI)(J:Addr)(i:Nat)(rt:St->Hp->(Hp->XK)->Prop)(ts:Addr->TS):TS:=λD σ H=>rt σ H λH1 cls dx H2=>lN K cls (.ref J)=some true /\
 ∃C,cls=.ref C/\∀ea,H1 ea=none->H2 ea=none->(∀a,dx=some a->H1 a=none)->ts ea { nx:=λg6 H'=>D.nx (g6.set i none) H',rt:=λ_ _=>False } (σ.set i (some (.ref ea))) (fM H2 ea (.ext (TL.qG ea C dx)))
def ZB{J:Addr}{i:Nat}{n jn:Str}{jp hp pos st b0 suite fy}{rt:St->Hp->(Hp->XK)->Prop}{ts:Addr->TS}(hq:PR X)(jx:X.stack=X.env::X.outer)(EZ:X.env.frame=some X.env.locals)(hN:X.N.Nodup)(hi:X.N[i]?=some n)(hx:X.env.scope.names.lookup n=some .local)(hg:Gl X jn)(hm:X.mg jn=some (.ref J))
  (hs:RS X st rt) (hb:∀ea,zI (X.marked ea) (b0::suite) (ts ea)) (hd:(jn==("__debug__":Str))=false:=by decide) :
  PS X (.Try [st] (.ExceptHandler (some (.Name jn jp)) (some n) (b0::suite) hp::fy) [] [] pos) (S4 X.K J i rt ts):=by
 intro b7 s σ H D I h;refine wpAny_Try_except (oh (fV (hs b7 s σ H _ I h) (λ_ _ z=>z.elim) λe s' hz=>?_));obtain⟨H1,s1,I1,ea,T,dx,cls,a0,H2,rfl,os,bare,un,hok,x,n1,n2,n3,n4,n5,hW,C,rfl,Es⟩:=hz;have I2:dS X b7 σ H2 s':=I1.call' (ch:=[]) os un hok bare λb z=>d8 z (by simp);have Ly:X.A.frames=some (X.env::X.outer):=by rw[<- jx];exact I.ok.frames
 have Er:s'.heap.FunFrames X.base (X.env::X.outer):=by rw[<- jx];exact I2.stack
 have kt:∀b,s1.heap.get? b=none->b∉sR (X.env::X.outer):=λb hb z=>by
  rw[<- jx]at z;obtain⟨_,o,ho,_⟩:=I1.stack.mem z;rw[hb]at ho;cases ho
 have iu:∀b∈sR (X.env::X.outer),H2 b=none:=λb hb=>by rw[<- jx]at hb;exact I2.stkFree b hb
 refine EQ (base:=X.base) Ly Er EZ x (kt ea n3) (kt T n4) λh3 T' sz kb x3=>?_;have li:H2 T'=none:=hok.fresh sz
 have Hb:s1.heap.get? T'=none:=by
  cases q:s1.heap.get? T' with
  |none=>rfl
  |some o=>obtain⟨o',z⟩:=un.there T' o q (by simp);rw[oR sz]at z;cases z
 refine sD (s:={ s' with heap:=h3 }) x3 λh4 k4 x4=>?_;have Nl:gI (sR (X.env::X.outer)) [ea,T,T'] s'.heap h4:=(kb.more λb hb=>bE.mpr ((bE.mp hb).imp id λz=>bE.mpr (.inl (bR.mp z)))).trans (.of λb u eb c=>k4 b u eb λz=>c (by rw[z];simp))
 have nw:∀b o,s1.heap.get? b=some o->b∉[ea,T,T']/\(b∈sR (X.env::X.outer)->b∈sR X.stack):=λb o e=>by
  refine⟨λz=>?_,λz=>by rw[jx];exact z⟩;simp only[bE,eO,af]at z;rcases z with rfl | rfl | rfl
  ·rw[n3]at e;cases e
  ·rw[n4]at e;cases e
  ·rw[Hb]at e;cases e
 have Oc:∀b∈[ea,T,T'],H2 b=none:=λb z=>by
  simp only[bE,eO,af]at z;rcases z with rfl | rfl | rfl
  ·exact n1
  ·exact n2
  ·exact li
 have Wr:=un.but Nl nw;have Mq:=hok.butX Nl iu Oc;have I4:dS X b7 σ H2 { s' with heap:=h4 }:=I1.call' (ch:=[]) os Wr Mq bare λb z=>d8 z (by simp);have J4:=I4.mark ea;obtain⟨oe,ve,ge,ce,de,XR,_,_⟩:=x4.ex;have LT:D4 (model X.prog X.w) h4 (typeOf (.ref ea)) (.ref C):=ce▸(D4.ld ge).andThen .now;refine wpAny_handleBy_cons (codeAny_handlers_test (vB (X:=X.marked ea) J4 hg hm (((PySem.W.exm_one J4.kIn LT hW).at ?_)) hd)) (λz=>nomatch z);rw[b9 rfl];refine codeAny_handlers_suite_as (sD (s:={ s' with heap:=h4 }) x4 λh5 k5 x5=>?_);have Qh:gI (sR (X.env::X.outer)) [ea,T,T'] s'.heap h5:=Nl.trans (.of λb u eb c=>k5 b u eb λz=>c (by rw[z];simp));have Ws:=un.but Qh nw;have Mr:=hok.butX Qh iu Oc;obtain⟨o5,v5,g5,c5,d5,Rj,_,_⟩:=x5.ex;have Uy:=Es ea (I1.hok.out n3) n1 λa z=>I1.hok.out (n5 a z);have Ms:rF X.prog X.w (fM H2 ea (.ext (TL.qG ea C dx))) h5:=Mr.track n1 ⟨⟨o5,v5,g5,c5,d5,Rj⟩,⟨o5,g5⟩,λha hb ⟨o,v,y1,y2⟩ k=>⟨o,v,k o y1,y2⟩⟩;have I5:dS X b7 σ (fM H2 ea (.ext (TL.qG ea C dx))) { s' with heap:=h5 }:=I1.call' (ch:=[]) os (Ws.track n1 n3) Ms bare λb z=>d8 z (by simp);refine BF I5 hN hi (.inl hx) (v:=.ref ea) rfl (λs6 I6=>?_) (.inr hx);refine fV (hb ea b7 s6 _ _ _ (I6.mark ea) Uy) (λfl s7 h7=>?_) λe s7 z=>d8 z (hq e s7)
 cases fl with
 |next=>
  obtain⟨g6,H',J7,q⟩:=h7;exact aAo (I6.unmark J7) hN hi hx λs8 I8=>⟨_,H',I8,q⟩
 |brk=>obtain⟨_,_,_,z⟩:=h7;exact z.elim
 |cont=>obtain⟨_,_,_,z⟩:=h7;exact z.elim
 |ret u=>obtain⟨_,_,_,_,_,z⟩:=h7;exact z.elim
def ZC{body h₀ hs pos ts}(hq:PR X)(hb:zI X body ts):PS X (.Try body (h₀::hs) [] [] pos) ts:=by
 intro b7 s σ H D I h;refine wpAny_Try_except (fV (hb b7 s σ H D I h) (λf s1 q=>?_) λe s1 z=>d8 z (hq e s1))
 cases f with
 |next=>exact fh q
 |ret v=>exact q
 |brk=>exact q
 |cont=>exact q
end
end L2
namespace TL
open L2
noncomputable def aC6:D->Bool
|.str _=>true
|.none=>true
|_=>false
noncomputable def O5(cs:List D):Bool:=cs.all aC6
theorem EK{K H H'}:∀{cs vs},O5 cs=true->Reps K H cs vs->Reps K H' cs vs
|[],_,_,.nil=>.nil
|d::cs,_,h,.cons r t=>by
 have h:(aC6 d&&O5 cs)=true:=h;rw[bU]at h;refine .cons ?_ (EK h.2 t)
 cases r with
 |str x=>exact .str x
 |none=>exact .none
 |_=>cases h.1
def T4{K}{H:Hp}{ps cs v}(live:∀p∈ps,C1 (H p))(hf:O5 cs=true)(r:fW K H (.tuple cs) v):fW K (mask H ps) (.tuple cs) v:=by
 cases r with
 |tuple q rs=>
  refine .tuple ?_ (EK hf rs);rcases q with(q | ⟨o,q⟩) | q
  ·exact .inl (.inl (kK (λz=>by obtain⟨u,h1,h2⟩:=live _ z;rw[q]at h1;cases h1;cases h2) q))
  ·exact .inl (.inr ⟨o,kK (λz=>by obtain⟨u,h1,h2⟩:=live _ z;rw[q]at h1;cases h1;cases h2) q⟩)
  ·exact .inr q
def XL(K:aI)(H:Hp)(d:D)(cls:Value)(dx:Option Addr):Prop:=
 (∃C:Addr,d=.dict [(.int (C:Nat),.none)]/\cls=.ref C/\dx=none/\XOk K C) \/
 (∃(C a:Addr)(n:Int),d=.dict [(.int (C:Nat),.int n)]/\cls=.ref C/\dx=some a/\XOk K C/\H a=some (.xd [("at",.int n)])) \/
 (∃(C a:Addr)(cs:List D)(v:V),d=.dict [(.int (C:Nat),.tuple cs)]/\cls=.ref C/\dx=some a/\XOk K C/\O5 cs=true/\H a=some (.xd [("case",v)])/\fW K H (.tuple cs) v)
def rW(K:aI)(sp:oK):Sp:=λvs H _ E=>∃(ps:List Addr)(ds:List D)(ED:D->Prop),(∀p∈ps,C1 (H p))/\Reps K (mask H ps) ds vs/\sp ds ED/\∀d cls dx H',bJ H H'->XL K H' d cls dx->ED d->E cls dx H'
section
variable{K:aI}{P:bX}{w:g7}{mg:Str->Option Value}{base:Heap}
def fnX{x qual st}{f:Addr}{fd}{N pn:List Str}{k:Nat}{sp:oK}(F:SM K x qual st f fd)(S:cR N pn (bQ st))
  (dy:∀{cr}{A:i5}{outer}{s:Shared}{H}{E:XK},Room k (A.deeper (o7 qual (bQ st) s.heap.objs.size f cr))->N.Nodup->∀(ds:List D)(ED:D->Prop),sp ds ED->(∀d cls dx H',bJ H H'->XL K H' d cls dx->ED d->E cls dx H') ->
   ∃t,rA (PY P w K mg base N qual (bQ st) f cr A outer s H E) (mJ st) t/\t { nx:=λ_=>False,rt:=λ_=>False,xB:=λB=>B=H } (lK N ds)) (len:∀ds Q,sp ds Q->ds.length=pn.length:=by intro ds Q h;(repeat obtain⟨_,h⟩:=h)<;>subst_vars<;>rfl):eK P w K mg base (X1 P w) (k+1) f fd pn (rW K sp):=by
 obtain⟨oc,od,kV,mw,pm,an,cr,ct,qa,rfl,lk,my⟩:=F.ex;refine aC5 lk my S (λvs H Q E h=>?_) λA outer s H vs Q E hr h=>?_
 ·obtain⟨ps,ds,QD,_,r,q,_⟩:=h;rw[<- r.length];exact len ds QD q
 ·obtain⟨ps,ds,ED,live,r,q,hE⟩:=h;obtain⟨t,⟨ts,p,rd⟩,h⟩:=dy hr S.nd ds ED q hE;exact⟨ts,p,rd H ps H ps _ _ _ _ (qU live r) h ⟨λ_ _ _ _ _ _ q'=>q'.elim,λ_ _ _ _ _ _ q'=>q'.elim,λ_ _ _ _ _ _ q'=>q'.elim,λ_ _ _ _ _ q'=>q'.elim,λ_ _ _ _ _ _ _ _ _ q'=>q'.elim,λ_ _ _ _ _ _ _ _ _ _ _ _ _ _ _ _ _ _ q'=>q'.elim,λ_ _ _ _ _ _ _ _ _ _ _ _ _ _ q'=>q'.elim,rfl⟩⟩
end
section
variable{P:bX}{w:g7}{K:aI}{mg:Str->Option Value}{base:Heap}{N:List Str}{qual:Str}{scope:Scope}{f:Addr}{cd:Value}{A:i5}{outer:List Env}{s:Shared}{H:Hp}{E:XK}{ED:D->Prop}
def TW(ED:D->Prop)(H0:Hp)(C:Addr)(t:AT):rE:=λDT σ=>t σ λds=>ds.length<=1000/\ED (.dict [(.int (C:Nat),.none)])/\∀B,DT.xB B->B=H0
def TF{C:Addr}{x np cu pos e es t}(hE:∀d cls dx H',bJ H H'->XL K H' d cls dx->ED d->E cls dx H')(xk:XOk K C)(ha:yQ (PY P w K mg base N qual scope f cd A outer s H E) (e::es) t)
  (pr:∀{ta},PA (PY P w K mg base N qual scope f cd A outer s H E) (e::es) ta->PS (PY P w K mg base N qual scope f cd A outer s H E) (.Raise (some (.Call (.Name x np) (e::es) [] cu)) none pos) (S6 C E ta)) :
  sT (PY P w K mg base N qual scope f cd A outer s H E) (.Raise (some (.Call (.Name x np) (e::es) [] cu)) none pos) (TW ED H C t):=by
 obtain⟨va,pa,ra⟩:=ha;refine⟨_,pr pa,λB p0 H' ps σT σ DT DV o h f=>ra B p0 H' ps σT σ _ _ o h λds vs H1 s1 r1 q=>?_⟩;obtain⟨hl,hd,hB⟩:=q;obtain rfl:=hB B f.xb;exact⟨rX (by rw[<- r1.length];exact hl),hE _ _ _ H1 (o.base.trans s1) (.inl ⟨C,rfl,rfl,rfl,xk⟩) hd⟩
def QH{C:Addr}{t:AT}{H0}{DT:uG}{σ}(ds:List D)(h:∀q:List D->Prop,q ds->t σ q)(hl:ds.length<=1000)(hd:ED (.dict [(.int (C:Nat),.none)]))(hB:∀B,DT.xB B->B=H0):TW ED H0 C t DT σ:=h _ ⟨hl,hd,hB⟩
end
section
variable{X:Cx}{e:Expr}{es:List Expr}{pos:Pos}{st:Stmt}
def PEx(X:Cx)(W:Hp->Prop)(e:Expr)(t:List Sl->Prop):Prop:=∃te:TE,PE X e te/\∀B p0 H ps σT σ (QV:VK),Ok X.K B p0 H ps σT σ->t σT->W B->te σ H QV
def O7{sp}{ED:D->Prop}{E:XK}{H0 x p t}(hE:∀d cls dx H',bJ H0 H'->XL X.K H' d cls dx->ED d->E cls dx H')(ha:yQ X (e::es) t)
  (pc:∀{ta},PA X (e::es) ta->PE X (.Call (.Name x p) (e::es) [] pos) (EB (rW X.K sp) [] E ta)):PEx X (λB=>B=H0) (.Call (.Name x p) (e::es) [] pos) (λσ=>t σ λds=>sp ds ED):=by
 obtain⟨v,pa,ra⟩:=ha;refine⟨_,pc pa,λB p0 H ps σT σ QV o h hB=>ra B p0 H ps σT σ _ _ o h λds xs H1 s1 r1 q1=>?_⟩;subst hB;show rW X.K sp (xs++[]) H1 QV E;rw[dP];exact⟨ps,ds,ED,(o.grow s1).live,r1,q1,λd cls dx H' s' x' e'=>hE d cls dx H' ((o.base.trans s1).trans s') x' e'⟩
def sT.or{t u:rE}(h1:sT X st t)(h2:sT X st u):sT X st (λDT σ=>t DT σ\/u DT σ):=by
 obtain⟨v1,p1,r1⟩:=h1;obtain⟨v2,p2,r2⟩:=h2;refine⟨λD σ H=>v1 D σ H\/v2 D σ H,λb7 s σ H D I h=>?_,λB p0 H ps σT σ DT DV o h f=>?_⟩
 ·rcases h with h | h
  ·exact p1 b7 s σ H D I h
  ·exact p2 b7 s σ H D I h
 ·rcases h with h | h
  ·exact .inl (r1 B p0 H ps σT σ DT DV o h f)
  ·exact .inr (r2 B p0 H ps σT σ DT DV o h f)
def YM{body h0 hs t}(h:rA X body t)(p:∀{ts},zI X body ts->PS X (.Try body (h0::hs) [] [] pos) ts):sT X (.Try body (h0::hs) [] [] pos) t:=by
 obtain⟨ts,p1,r⟩:=h;exact⟨ts,p p1,r⟩
def RSt(X:Cx)(st:Stmt)(t:ET):Prop:=∃rt:L2.St->Hp->(Hp->XK)->Prop,RS X st rt/\∀B p0 H ps σT σ (ED:D->Prop)(W:Hp->XK),Ok X.K B p0 H ps σT σ->t σT ED ->
 (∀d cls dx H1 H2,bJ H H1->bJ H1 H2->XL X.K H2 d cls dx->ED d->W H1 cls dx H2)->rt σ H W
def T1{sp}{x:Str}{p:Pos}{t}(ha:yQ X (e::es) t)(pc:∀{ta},PA X (e::es) ta->RS X st (λσ H W=>ta σ H λvs H1=>rW X.K sp vs H1 (λ_ _=>False) (W H1))):RSt X st (λσ ED=>t σ λds=>sp ds ED):=by
 obtain⟨v,pa,ra⟩:=ha;refine⟨_,pc pa,λB p0 H ps σT σ ED W o h k=>ra B p0 H ps σT σ _ _ o h λds xs H1 s1 r1 q1=>?_⟩;exact⟨ps,ds,ED,(o.grow s1).live,r1,q1,λd cls dx H2 s2 x' e'=>k d cls dx H1 H2 s1 s2 x' e'⟩
def Ok.away{K B H p0 ps}{σT:List Sl}{σ:L2.St}(o:Ok K B p0 H ps σT σ)(i:Nat):Ok K B p0 H ps (σT.set i .un) (σ.set i none) where
 base:=o.base
 sub:=o.sub
 live:=o.live
 len:=by simpa using o.len
 val:=λj d h=>by
  by_cases e:i=j
  ·subst e;have hi:i<σT.length:=by have:=(aD.mp h).1;simpa using this
   rw[aV hi]at h;cases h
  ·rw[aU e]at h |-;exact o.val j d h
 own:=λj ts h=>by
  by_cases e:i=j
  ·subst e;have hi:i<σT.length:=by have:=(aD.mp h).1;simpa using this
   rw[aV hi]at h;cases h
  ·rw[aU e]at h |-;exact o.own j ts h
 dis:=λj k ts us p h1 h2 h3 h4=>by
  have gf:∀{l:Nat}{vs:List D},(σT.set i .un)[l]?=some (.own vs)->i≠l/\σT[l]?=some (.own vs):=λ{l vs} h=>by
   by_cases e:i=l
   ·subst e;have hi:i<σT.length:=by have:=(aD.mp h).1;simpa using this
    rw[aV hi]at h;cases h
   ·rw[aU e]at h;exact⟨e,h⟩
  obtain⟨n1,b1⟩:=gf h1;obtain⟨n2,b2⟩:=gf h2;rw[aU n1]at h3;rw[aU n2]at h4;exact o.dis j k ts us p b1 b2 h3 h4
 dc:=o.dc.setS λ_ _ z=>nomatch z
def aCf(K:aI)(J:Addr)(i:Nat)(t:ET)(ts:rE):rE:=λDT σ=>t σ λd=>(∃(C:Addr)(y:D),d=.dict [(.int (C:Nat),y)]/\lN K (.ref C) (.ref J)=some true) /\
 ts { nx:=λg6=>DT.nx (g6.set i .un),rt:=λ_=>False,xB:=DT.xB } (σ.set i (.val d))
def YL{J:Addr}{i:Nat}{h0 fy t b0 suite ts}(hs:RSt X st t)(hb:∀ea,rA (X.marked ea) (b0::suite) ts)
  (pt:∀{rt:L2.St->Hp->(Hp->XK)->Prop}{us:Addr->TS},RS X st rt->(∀ea,zI (X.marked ea) (b0::suite) (us ea))->PS X (.Try [st] (h0::fy) [] [] pos) (S4 X.K J i rt us)):sT X (.Try [st] (h0::fy) [] [] pos) (aCf X.K J i t ts):=by
 obtain⟨rt,rs,rr⟩:=hs;refine⟨_,pt rs (λea=>(hb ea).choose_spec.1),λB p0 H ps σT σ DT DV o h f=>rr B p0 H ps σT σ _ _ o h λd cls dx H1 H2 s1 s2 xr q=>?_⟩;obtain⟨⟨C,y,hd,hm⟩,q⟩:=q
 have main:∀C0:Addr,cls=.ref C0->C0=C->(∀ea,H2 ea=none->(∀a,dx=some a->H1 a=none)->∀u,H ea=none->u=HO.ext (qG ea C0 dx)->fW X.K (mask (fM H2 ea u) ps) d (.ref ea))->lN X.K cls (.ref J)=some true/\∃C,cls=.ref C/\∀ea,H1 ea=none->H2 ea=none->(∀a,dx=some a->H1 a=none) ->
   (hb ea).choose { nx:=λg6 H'=>DV.nx (g6.set i none) H',rt:=λ_ _=>False } (σ.set i (some (.ref ea))) (fM H2 ea (.ext (qG ea C dx))):=λC0 hc hC Mw=>by
  subst hc;subst hC;refine⟨hm,C0,rfl,λea n1 n2 n3=>?_⟩;have nH:H ea=none:=bJ.free' s1 n1;have sA:bJ H (fM H2 ea (.ext (qG ea C0 dx))):=(s1.trans s2).trans (dL n2);refine(hb ea).choose_spec.2 B p0 _ ps _ _ { nx:=λg6=>DT.nx (g6.set i .un),rt:=λ_=>False,xB:=DT.xB } _ ((o.grow sA).set (Mw ea n2 n3 _ nH rfl)) q ⟨λH' m3 g8 g6 o' s' q'=>?_,λ_ _ _ _ _ _ q'=>q'.elim,λ_ _ _ _ _ _ q'=>q'.elim,λ_ _ _ _ _ q'=>q'.elim,λ_ _ _ _ _ _ _ _ _ q'=>q'.elim,λ_ _ _ _ _ _ _ _ _ _ _ _ _ _ _ _ _ _ q'=>q'.elim,λ_ _ _ _ _ _ _ _ _ _ _ _ _ _ q'=>q'.elim,f.xb⟩;exact f.nx H' m3 _ _ (o'.away i) ((bT sA).trans s') q'
 rcases xr with⟨C0,h1,h2,h3,xk⟩ | ⟨C0,a,n,h1,h2,h3,xk,ha⟩ | ⟨C0,a,cs,v,h1,h2,h3,xk,hf,ha,hr⟩
 ·refine main C0 h2 ?_ λea n2 n3 u nH hu=>?_
  ·rw[hd]at h1;injection h1 with h1;injection h1 with h1;injection h1 with h1;injection h1 with h1;exact(jD.inj h1).symm
  ·subst hu h1 h3;exact .exc xk (kK (fE o.live nH) cM)
 ·refine main C0 h2 ?_ λea n2 n3 u nH hu=>?_
  ·rw[hd]at h1;injection h1 with h1;injection h1 with h1;injection h1 with h1;injection h1 with h1;exact(jD.inj h1).symm
  ·subst hu h1 h3;exact .excA xk (kK (fE o.live nH) cM) (kK (fE o.live (bJ.free' s1 (n3 a rfl))) (by rw[cI (fL ha n2)];exact ha))
 ·refine main C0 h2 ?_ λea n2 n3 u nH hu=>?_
  ·rw[hd]at h1;injection h1 with h1;injection h1 with h1;injection h1 with h1;injection h1 with h1;exact(jD.inj h1).symm
  ·subst hu h1 h3;have sA:=(s1.trans s2).trans (dL (o:=HO.ext (qG ea C0 (some a))) n2);exact .excD xk (kK (fE o.live nH) cM) (kK (fE o.live (bJ.free' s1 (n3 a rfl))) (by rw[cI (fL ha n2)];exact ha)) (T4 (o.grow sA).live hf (hr.same (dL n2)))
end
end TL
namespace L2
def D1:i0 "ValueError"=some (.type "ValueError"):=by decide +kernel
section
variable{K:aI}{C D J:Addr}{cd:ClassData}
def V1:cP K (.ref C) (.ref C)=some true:=by unfold cP;rw[b9 (by simp)]
def zA(hc:gA K D=some cd)(ht:fY K (.ref D)=some (.type "type"))(hm:cG K C (.ref D)=some false)(hs:cG K D (.ref D)=some true):cP K (.ref C) (.ref D)=some false:=by
 have ne:¬(e8 C==e8 D)=true:=λz=>by
  have e:C=D:=Value.ref.inj (beq_iff_eq.mp z);subst e;rw[hm]at hs;cases hs
 unfold cP;rw[b8 ne];unfold uK;dsimp only;rw[hc,ht];show(if(true&&(some (p6 "type")==some (p6 "type")))=true then _ else _)=_;rw[b9 (by simp)];exact hm
def yY{T}{b:Bool}(hk:kW T=true)(hm:cG K C (.type T)=some b):cP K (.ref C) (.type T)=some b:=by
 unfold cP;rw[b8 (λz=>by cases beq_iff_eq.mp z)];unfold uK;dsimp only;rw[b9 hk];exact hm
def O6(hc:gA K J=some cd)(ht:fY K (.ref J)=some (.type "type"))(hb:cG K J (.type "BaseException")=some true)(hm:cG K C (.ref J)=some true):lN K (.ref C) (.ref J)=some true:=by
 unfold lN;have e:PySem.W.subIn K (.ref J) (.type "BaseException")=some true:=hb;rw[e,b9 (by simp)];unfold uK;dsimp only;rw[hc,ht];show(if(true&&(some (p6 "type")==some (p6 "type")))=true then _ else _)=_;rw[b9 (by simp)];exact hm
def OO{N:Addr}{c d}{es:Array u8}{n:Nat}{sl}(l:K.lookup N=some ⟨c,d,.dict es n,sl⟩)(h:(es.toList.all λe=>match e.key with | .str _ _=>true | _=>false)=true):uH K N=true:=by
 unfold uH;rw[l];rw[XZ]at h;exact h
def aFn:kW "int"=true:=by decide +kernel
def aFm:kW "str"=true:=by decide +kernel
def Z9:kW "list"=true:=by decide +kernel
def V0:kW "tuple"=true:=by decide +kernel
def aAa:kW "bool"=true:=by decide +kernel
def DR:kW "ValueError"=true:=by decide +kernel
end
def LH{X:Cx}:PR X.nox:=λ_ _ h=>h
end L2
namespace TL
open L2
section
variable{X:Cx}{e:Expr}{te:ET}{pos:Pos}
def aJm(K:aI)(c:Value)(cv:V):List V->Hp->VK->Prop:=λxs H Q=>∃(p C:Addr)(dx:Option Addr)(b:Bool),xs=[.ref p,cv]/\H p=some (.ext (qG p C dx))/\(∀d,dx=some d->∃fs,H d=some (.xd fs))/\CW K C/\cP K (.ref C) c=some b/\Q (.bl b) H
def J5{c cv}(hc:∀u,fX cv u->u=c):kB X (.builtin "isinstance") (aJm X.K c cv):=by
 intro b7 s σ H xs us Q I r h;obtain⟨p,C,dx,b,rfl,hp,hd,hx,hk,q⟩:=h;obtain⟨u,w,rfl,ru,ny⟩:=NL r;obtain rfl:=hc _ ny;cases ru;exact B9 I hp hd hx hk λtk=>⟨.bl b,H,I.tok tk,rfl,q⟩
def aF9(K:aI)(c:Value)(te:ET):ET:=λσ Q=>te σ λd=>∃(C:Addr)(y:D)(b:Bool),d=.dict [(.int (C:Nat),y)]/\cP K (.ref C) c=some b/\Q (.bool b)
def WS{c cv g1 g2}(he:gG X e te)(pc:∀{v},PE X e v->PE X (.Call g1 [e,g2] [] pos) (NN (aJm X.K c cv) (nY v (nY (tC cv) xJ)))):gG X (.Call g1 [e,g2] [] pos) (aF9 X.K c te):=by
 obtain⟨v,pe,re⟩:=he;refine⟨_,pc pe,λB p0 H ps σT σ Q QV o h k=>re B p0 H ps σT σ _ _ o h λd x H1 s1 r1 q1=>?_⟩;obtain⟨C,y,b,rfl,hk,q⟩:=q1
 generalize hg:(vP [(.int (C:Nat),y)])=d at r1
 cases r1 with
 |@exc p C' xk hp=>
  injection hg with hg;injection hg with hg;injection hg with hg hy;injection hg with hg
  obtain rfl:C=C':=jD.inj hg;exact⟨p,C,none,b,rfl,bP _ _ hp,(λ_ z=>nomatch z),xk.1,hk,k _ _ H1 s1 (.bool _) q⟩
 |@excA p C' dx n xk hp hx=>
  injection hg with hg;injection hg with hg;injection hg with hg hy;injection hg with hg
  obtain rfl:C=C':=jD.inj hg;exact⟨p,C,some dx,b,rfl,bP _ _ hp,λ_ z=>by cases z;exact⟨_,bP _ _ hx⟩,xk.1,hk,k _ _ H1 s1 (.bool _) q⟩
 |@excD p C' dx n cs2 xk hp hx _=>
  injection hg with hg;injection hg with hg;injection hg with hg hy;injection hg with hg
  obtain rfl:C=C':=jD.inj hg;exact⟨p,C,some dx,b,rfl,bP _ _ hp,λ_ z=>by cases z;exact⟨_,bP _ _ hx⟩,xk.1,hk,k _ _ H1 s1 (.bool _) q⟩
 |_=>cases hg
end
end TL
namespace L2
open TL
section
variable{X:Cx}
def aCm(K:aI):List V->Hp->VK->Prop:=λxs H Q=>∃(p C:Addr)(dx:Option Addr)(tp:Addr)(cs:List Addr)(b:Bool),xs=[.ref p,.ref tp]/\H p=some (.ext (qG p C dx))/\(∀d,dx=some d->∃fs,H d=some (.xd fs))/\CW K C/\H tp=some (.tup (cs.map V.ref))/\uL K (.ref C) (cs.map e8)=some b/\Q (.bl b) H
theorem D8:∀{cs:List Addr}{us},gE (cs.map V.ref) us->us=cs.map e8
|[],_,.nil=>rfl
|c::cs,_,.cons r t=>by
 have e:_=e8 c:=r;rw[bD,<- e,D8 t]
def R1:kB X (.builtin "isinstance") (aCm X.K):=by
 intro b7 s σ H xs us Q I r h;obtain⟨p,C,dx,tp,cs,b,rfl,hp,hd,hx,ht,hk,q⟩:=h;obtain⟨u,w,rfl,ru,ny⟩:=NL r;cases ru;cases ny;obtain⟨_,its,hv,o,ho,hc,n,Ta,_⟩:=I.hok tp _ ht;obtain rfl:=D8 hv;obtain⟨cls,dd,dt,sl⟩:=o;subst hc Ta;refine PySem.W.kia_tup (JK hx) I.kIn ?_ ho hk (λz=>nomatch z) λtk=>⟨.bl b,H,I.tok tk,rfl,q⟩;obtain⟨⟨o,vs,h1,h2,h3,h4⟩,_⟩:=I.hok p _ hp;have hn:uI o=true:=by unfold uI;rw[h4]
 cases dx with
 |none=>exact⟨o,none,h1,h2,hn,by rw[h3];trivial⟩
 |some d=>
  obtain⟨fs,hf⟩:=hd d rfl;obtain⟨mA,⟨od,es,ep,he,_⟩,_⟩:=I.hok d _ hf;exact⟨o,some od,h1,h2,hn,by rw[h3];exact he⟩
end
end L2
namespace TL
open L2
section
variable{X:Cx}{e:Expr}{es:List Expr}{te:ET}{pos:Pos}
def S5:List Addr->TA
|[]=>xJ
|c::cs=>nY (tC (.ref c)) (S5 cs)
theorem N3:∀(cs:List Addr)σ H(Q:List V->Hp->Prop),Q (cs.map V.ref) H->S5 cs σ H Q
|[],_,_,_,q=>q
|c::cs,σ,H,Q,q=>N3 cs σ H (λxs H'=>Q (V.ref c::xs) H') q
def aDd(K:aI)(cs:List Addr)(te:ET):ET:=λσ Q=>te σ λd=>∃(C:Addr)(y:D)(b:Bool),d=.dict [(.int (C:Nat),y)]/\cs.length<=1000/\uL K (.ref C) (cs.map e8)=some b/\Q (.bool b)
def aAx{cs g1}{x1:Nat}{p2}(he:gG X e te)(pc:∀{v},PE X e v->PE X (.Call g1 [e,.Tuple es x1 p2] [] pos) (NN (aCm X.K) (nY v (nY (aHb (S5 cs)) xJ)))):gG X (.Call g1 [e,.Tuple es x1 p2] [] pos) (aDd X.K cs te):=by
 obtain⟨v,pe,re⟩:=he;refine⟨_,pc pe,λB p0 H ps σT σ Q QV o h k=>re B p0 H ps σT σ _ _ o h λd x H1 s1 r1 q1=>?_⟩;obtain⟨C,y,b,rfl,hl,hk,q⟩:=q1;refine N3 cs σ H1 _ ⟨rX (by rw[aB];exact hl),λtp Nc=>?_⟩
 generalize hg:(vP [(.int (C:Nat),y)])=d at r1
 have sN:bJ H1 (fM H1 tp (.tup (cs.map V.ref))):=dL Nc
 cases r1 with
 |@exc p C' xk hp=>
  injection hg with hg;injection hg with hg;injection hg with hg hy;injection hg with hg
  obtain rfl:C=C':=jD.inj hg;exact⟨p,C,none,tp,cs,b,rfl,sN _ _ (bP _ _ hp),(λ_ z=>nomatch z),xk.1,cM,hk,k _ _ _ (s1.trans sN) (.bool _) q⟩
 |@excA p C' dx n xk hp hx=>
  injection hg with hg;injection hg with hg;injection hg with hg hy;injection hg with hg
  obtain rfl:C=C':=jD.inj hg;exact⟨p,C,some dx,tp,cs,b,rfl,sN _ _ (bP _ _ hp),λ_ z=>by cases z;exact⟨_,sN _ _ (bP _ _ hx)⟩,xk.1,cM,hk,k _ _ _ (s1.trans sN) (.bool _) q⟩
 |@excD p C' dx n cs2 xk hp hx _=>
  injection hg with hg;injection hg with hg;injection hg with hg hy;injection hg with hg
  obtain rfl:C=C':=jD.inj hg;exact⟨p,C,some dx,tp,cs,b,rfl,sN _ _ (bP _ _ hp),λ_ z=>by cases z;exact⟨_,sN _ _ (bP _ _ hx)⟩,xk.1,cM,hk,k _ _ _ (s1.trans sN) (.bool _) q⟩
 |_=>cases hg
def TB{J:Addr}{i:Nat}{st jn nn jp hp fy t b0 suite ts}(hs:RSt X st t)(hb:∀ea,rA (X.marked ea) (b0::suite) ts)
  (pt:∀{rt:L2.St->Hp->(Hp->XK)->Prop}{us:Addr->TS},RS X st rt->(∀ea,zI (X.marked ea) (b0::suite) (us ea))->PS X (.Try [st] (.ExceptHandler (some (.Name jn jp)) (some nn) (b0::suite) hp::fy) [] [] pos) (S4 X.K J i rt us)):sT X (.Try [st] (.ExceptHandler (some (.Name jn jp)) (some nn) (b0::suite) hp::fy) [] [] pos) (aCf X.K J i t ts):=YL hs hb pt
end
end TL
namespace L2
open TL
section
variable{X:Cx}{k v:Expr}{tk tv:TE}{pos:Pos}
def aD6(X:Cx)(tk tv:TE):TE:=λσ H Q=>∀p,H p=none->tk σ (fM H p (kM p [])) λy H1=>tv σ H1 λz H2=>∃(a:Addr)(k:D),y=.ref a/\H2 p=some (kM p [])/\fW X.K H2 k y/\iV k/\Q (.ref p) (fM H2 p (kM p (oU X.w [] [] k a z)))
def ZQ(Q:V->V->Hp->Prop):List (V×V)->Hp->Prop
|[(y,z)],H=>Q y z H
|_,_=>False
def UO(hu:X.A.units+9<m4)(hk:PE X k tk)(hv:PE X v tv):PE X (.Dict [some k] [v] pos) (aD6 X tk tv):=by
 intro b7 s σ H Q I q;have hn:=I.hok.fresh (aL s.heap.objs.size)
 have I1:=I.laid (a:=s.heap.objs.size) (o:=kM s.heap.objs.size []) (h':=s.heap.push { cls:=.type "dict",data:=.dict #[] }) (t':=s.toks) (λ_ _ q=>aK _ q) (aL _)
  ⟨⟨beq_eq_false_iff_ne.mpr (l8 (bZ I.big)),cL _,_,#[],0,aW _ rfl,⟨rfl,rfl,rfl⟩,rfl,.nil⟩,⟨_,aW _ rfl⟩,xD⟩
 refine wpAny_Dict_any rfl rfl (by simp) (show 1<=15 by decide) (iZ (tT hk hv OB b7 _ σ _ (ZQ λy z H2=>∃(a:Addr)(k:D),y=.ref a/\H2 s.heap.objs.size=some (kM s.heap.objs.size [])/\fW X.K H2 k y/\iV k/\Q (.ref s.heap.objs.size) (fM H2 s.heap.objs.size (kM s.heap.objs.size (oU X.w [] [] k a z)))) I1 (q _ hn)) λws s2 zq=>?_);obtain⟨ps,H2,I2,qc,q2⟩:=zq
 cases qc with
 |nil=>exact q2.elim
 |@cons p u m3 us r1 r2=>
  cases r2 with
  |cons=>exact q2.elim
  |nil=>
  obtain⟨y,z⟩:=p;obtain⟨Wj,Nw⟩:=r1;obtain⟨a,k,ey,hp,rk,ok,q2⟩:=q2
  try dsimp only at ey
  subst ey;obtain⟨u1,u2⟩:=u;obtain rfl:u1=e8 a:=Wj;have dk:DK X.K X.w H2 [] []:=⟨.nil,lV,(λk hk=>by cases hk),rfl⟩;obtain⟨h1,h2,xs,x1,x2⟩:=zD I2 (.inl hp) dk;unfold storeAll;rw[DI];refine aA (aA (wpAny_dictSet_heap (hsz:=by rw[<- i9 x1.2];exact h2) (show X.A.units+8<m4 by omega) (wY I2 rk ok) x2 λh' qj fy=>aF ?_));dsimp only;rw[List.forIn_nil];refine aF ⟨.ref s.heap.objs.size,_,?_,rfl,q2⟩;have hq:∃q,h'.get? s.heap.objs.size=some q:=let ⟨q,_,_,e,_⟩:=qj;⟨q,e⟩
  exact I2.write (x:=s.heap.objs.size) (e:=s.heap.objs.size) (by rw[hp];exact i8) (.inl rfl) (λb q hb z=>(fy.2 b hb).trans z) hq (MP (ks:=xQ [] k) h1 (by have:=BT (w:=X.w) (k:=k) (a:=a) (v:=z) dk.len;rw[bw];have:(oU X.w [] [] k a z).length<=1:=this;omega) (MK x1 Nw) (dk.put rk ok).hs qj)
def aAb{K}{C D:Addr}{cd}(hc:gA K D=some cd)(ht:fY K (.ref D)=some (.type "type"))(hm:cG K C (.ref D)=some true):cP K (.ref C) (.ref D)=some true:=by
 unfold cP;split
 ·rfl
 unfold uK;dsimp only;rw[hc,ht];show(if(true&&(some (p6 "type")==some (p6 "type")))=true then _ else _)=_;rw[b9 (by simp)];exact hm
end
end L2
namespace TL
open L2
section
variable{X:Cx}{e a b:Expr}{es:List Expr}{pos:Pos}{s1 s2:Stmt}{W:Hp->Prop}{t:List Sl->Prop}{te:ET}
def YO{i:Nat}{x o9}(h:PEx X W e t)(m3:∀{v},PE X e v->PS X (.Assign [.Name x o9] e pos) (wS v (kG i))):sT X (.Assign [.Name x o9] e pos) (λDT σ=>t σ/\∀B,DT.xB B->W B):=by
 obtain⟨v,pe,r⟩:=h;exact⟨_,m3 pe,λB p0 H ps σT σ DT DV o h f=>r B p0 H ps σT σ _ o h.1 (h.2 B f.xb)⟩
def YQ{tg p p' body}(h:PEx X W e t)(pz:∀{ta},PA X [e] ta->PI X tg (.Call (.Name "reversed" p) [e] [] p') (WD X.K ta))
  (pf:∀{wi},PI X tg (.Call (.Name "reversed" p) [e] [] p') wi->PS X (.For tg (.Call (.Name "reversed" p) [e] [] p') body [] pos) (YF wi (λ_ _ _ _=>False) S7)) (hs:bS [e] X.env=(false,eval e X.env)::bS [] X.env:=by rfl):sT X (.For tg (.Call (.Name "reversed" p) [e] [] p') body [] pos) (λDT σ=>t σ/\∀B,DT.xB B->W B):=by
 obtain⟨v,pe,r⟩:=h;exact⟨_,pf (pz (dY pe hU hs)),λB p0 H ps σT σ DT DV o h f=>r B p0 H ps σT σ _ o h.1 (h.2 B f.xb)⟩
def aJv{tg}:PG X tg (λ_ _ _ _=>False):=λ_ _ _ _ _ _ _ _ _ h=>h.elim
def aEi(w:g7)(i:Nat)(tk tv:ET):rE:=λDT σ=>i<σ.length/\(∀(j:Nat)(hs:List Int)(kvs:List (D×D)),σ[j]?≠some (.dic hs kvs))/\tk σ λk=>xH k/\tv σ λd=>DT.nx (σ.set i (oA w [(k,d)]))
def TH{i:Nat}{x o9 p2 value tk tv}(hu:X.A.units+9<m4)(hk:gG X e tk)(hv:gG X value tv)(m3:∀{v},PE X (.Dict [some e] [value] p2) v->PS X (.Assign [.Name x o9] (.Dict [some e] [value] p2) pos) (wS v (kG i))) :
  sT X (.Assign [.Name x o9] (.Dict [some e] [value] p2) pos) (aEi X.w i tk tv):=by
 obtain⟨vk,pk,rk⟩:=hk;obtain⟨vv,Iz,rv⟩:=hv;refine⟨_,m3 (UO hu pk Iz),λB p0 H ps σT σ DT DV o h f p hp=>?_⟩;obtain⟨hi,hn,h⟩:=h;have o1:=o.adopt (u:=kM p []) hp;refine rk B p0 _ (p::ps) σT σ _ _ o1 h λk y H1 s1 r1 q1=>?_;obtain⟨⟨jh,ys,rfl⟩,q1⟩:=q1;refine rv B p0 H1 (p::ps) σT σ _ _ (o1.grow s1) q1 λd z H2 s2 r2 q2=>?_;obtain⟨a,rfl⟩:=mO r1;have yi:=s1.trans s2;have Ib:H2 p=some (kM p []):=yi _ _ cM;have Kt:=r1.same (bT s2);refine⟨a,_,rfl,Ib,Kt.same bP,jh,?_⟩;have dk:DK X.K X.w (mask H2 (p::ps)) [] []:=⟨.nil,lV,(λk hk=>by cases hk),rfl⟩;have xa:=dk.put (v:=z) Kt jh;have o2:=(o1.grow yi).setUn (i:=i) (v:=.ref p);have mem:p∈p::ps:=aS ..;have new:B p=none:=bJ.free' o.base hp;have out:p∉p0:=λz=>fE o.live hp (o.sub p z)
 have Dk:∀(j:Nat)(hs:List Int)(kvs:List (D×D)),(σT.set i .un)[j]?≠some (.dic hs kvs):=λj hs kvs e=>by
  by_cases ej:i=j
  ·subst ej;rw[aV hi]at e;cases e
  ·rw[aU ej]at e;exact hn j hs kvs e
 have o4:=o2.poke (u:=kM p (oU X.w [] [] (.tuple ys) a z)) mem new Ib Dk;have vj:mask (fM H2 p (kM p (oU X.w [] [] (.tuple ys) a z))) (p::ps)=mask H2 (p::ps):=iA mem;have jc:(σ.set i (some (V.ref p)))[i]?=some (some (.ref p)):=aV (by rw[<- o.len];exact hi)
 have o5:=o4.toDic (i:=i) (es:=oU X.w [] [] (.tuple ys) a z) (hs:=[(eM ys,d)].map λkv=>dW X.w kv.1) (kvs:=[(.tuple ys,d)]) jc (λj hs ky _=>Dk j hs ky)
  ⟨mem,new,out,cM,?_,?_,?_,?_⟩
 ·rw[zY]at o5;refine f.nx _ (p::ps) _ _ o5 ?_ q2;rw[vj];exact(show bJ (mask H ps) (mask (fM H p (kM p [])) (p::ps)) by rw[lL hp];exact L2.bJ.refl _).trans (bT yi)
 ·exact xa.hs
 ·exact xa.nd
 ·rw[vj];exact xa.rep
 ·rw[vj];exact .cons r2 .nil
def aLd(x:D)(Q:D->Prop):Prop:=match x with | .bool b=>Q (.int (if b then 1 else 0)) | _=>False
def aLr(te:ET):ET:=λσ Q=>te σ λx=>aLd x Q
def aAy{q1 q2}(he:gG X e te)(pc:∀{v},PA X [e] (nY v xJ)->PE X (.Call (.Name "int" q1) [e] [] q2) (NN (λxs H Q=>(∃i,xs=[.int i]/\Q (.int i) H)\/∃k,xs=[.bl k]/\Q (.int (if k then 1 else 0)) H) (nY v xJ)))(hs:bS [e] X.env=(false,eval e X.env)::bS [] X.env:=by rfl):gG X (.Call (.Name "int" q1) [e] [] q2) (aLr te):=by
 obtain⟨v,pe,r⟩:=he;refine⟨_,pc (dY pe hU hs),λB p0 H ps σT σ Q QV o h k=>r B p0 H ps σT σ _ _ o h λd x H' s' r' q'=>?_⟩
 cases r' with
 |bool b=>exact .inr ⟨b,rfl,k _ _ H' s' (.int _) q'⟩
 |_=>exact q'.elim
end
end TL
namespace K38
open L2 TL
noncomputable def top(i:Nat):Stmt:=PySem.Challenge.pw_leafjudge_k38_too_many_sets.main.body.getD i (.Pass ⟨0,0,0,0⟩)
structure Cz(K:aI)(mg:Str->Option Value)(m8 h9 z5 db av ar aw au:Addr):Prop where
 x_JudgeError:mg "JudgeError"=some (.ref m8)
 x_TooMany:mg "TooMany"=some (.ref h9)
 x_NoPlace:mg "NoPlace"=some (.ref z5)
 x_NoRow:mg "NoRow"=some (.ref db)
 x_NoSuch:mg "NoSuch"=some (.ref av)
 x_NoLine:mg "NoLine"=some (.ref ar)
 x_NoText:mg "NoText"=some (.ref aw)
 x_NoRule:mg "NoRule"=some (.ref au)
 X_TooMany:XOk K h9
 R_TooMany:aL8 K h9
 j_TooMany:lN K (.ref h9) (.ref m8)=some true
 e_TooMany:lN K (.ref h9) (.ref h9)=some true
 v_TooMany:cP K (.ref h9) (.type "ValueError")=some true
 q_TooMany_TooMany:cP K (.ref h9) (.ref h9)=some true
 q_TooMany_NoPlace:cP K (.ref h9) (.ref z5)=some false
 q_TooMany_NoRow:cP K (.ref h9) (.ref db)=some false
 q_TooMany_NoSuch:cP K (.ref h9) (.ref av)=some false
 q_TooMany_NoLine:cP K (.ref h9) (.ref ar)=some false
 q_TooMany_NoText:cP K (.ref h9) (.ref aw)=some false
 q_TooMany_NoRule:cP K (.ref h9) (.ref au)=some false
 y_TooMany:cP K (.ref h9) (.ref m8)=some true
structure Txt(K:aI)(mg:Str->Option Value)(m8 h9 z5 db av ar aw au:Addr)(Gm Gn Go Je Jf Jg Jh Ji Jj Jk ze zf zg zh zi zj wv ww wx zk zl zm zn zo zp zr zt zu zv zw zx zy gV Aa Ab Ac Ad Ae Af qt qu qv Ag Ah Ai Aj oz:Addr)(Jn Jo Jp Jq Jr Js Jt Ju Jv Jw Al Am An Ao Ap Aq xf xg xh As Au Av Aw Ax Ay Az Ba Bb Bc Bd Be Bf Bg Bh Bi Bj Bk Bl Bm rf rh rm Bn Bo Bp Bq ml:kF)(d9:Addr)(t_SIDES:Addr)(gj ay:Tok):Prop extends Cz K mg m8 h9 z5 db av ar aw au where
 x_RowSets:mg "RowSets"=some (.ref d9)
 C_RowSets:SN K d9
 K_RowSets:Mk K d9 Gm
 n_RowSets_form:nG K d9 "form"
 n_RowSets_kept:nG K d9 "kept"
 n_RowSets_slip:nG K d9 "slip"
 n_RowSets_knot:nG K d9 "knot"
 n_RowSets_choices:nG K d9 "choices"
 M_1:aBv K d9 "leaf_of" Gn
 M_2:aBv K d9 "partings" Go
 D_0:Dg K "__init__" "RowSets.__init__" (wV (top 26) 0) Gm Jn ["self","form","rows","prices"]
 D_1:Dg K "leaf_of" "RowSets.leaf_of" (wV (top 26) 1) Gn Jo ["self","numbers"]
 D_2:Dg K "partings" "RowSets.partings" (wV (top 26) 2) Go Jp ["self","numbers"]
 D_3:Df K mg "counted" (top 10) Je Jq ["form","rows"]
 D_4:Df K mg "first_answer" (top 11) Jf Jr ["form","rows"]
 D_5:Df K mg "is_tuple_of" (top 13) Jg Js ["thing","fewest","most"]
 D_6:Df K mg "is_whole" (top 14) Jh Jt ["thing"]
 D_7:Df K mg "questions_of" (top 17) Ji Ju ["form"]
 D_8:Df K mg "questions_on" (top 18) Jj Jv ["field"]
 D_9:Df K mg "choices_of" (top 19) Jk Jw ["form"]
 D_10:Df K mg "side_of" (top 20) ze Al ["form","question","stray","case"]
 D_11:Df K mg "field_asked" (top 21) zf Am ["form","question"]
 D_12:Df K mg "entries_to_yes" (top 22) zg An ["question","stray","field"]
 D_13:Df K mg "values_held" (top 23) zh Ao ["question","field"]
 D_14:Df K mg "is_proper" (top 24) zi Ap ["sides","fewest"]
 D_15:Df K mg "sides_of_rows" (top 27) zj Aq ["form","choice","rows"]
 D_16:Df K mg "least" (top 30) wv xf ["form","rows","deep","prices"]
 D_17:Df K mg "known_trees" (top 31) ww xg ["sets","numbers","deep"]
 D_18:Df K mg "sets_met" (top 32) wx xh ["sets","numbers","deep"]
 D_19:Df K mg "sides_of_all" (top 33) zk As ["sets","level"]
 D_20:Df K mg "cheapest" (top 34) zl Au ["sets","known","numbers","deep"]
 D_21:Df K mg "tree_for" (top 35) zm Av ["sets","known","numbers","deep"]
 D_22:Df K mg "holds" (top 38) zn Aw ["form","rows","prices","table"]
 D_23:Df K mg "is_table" (top 39) zo Ax ["many","table"]
 D_24:Df K mg "is_entry" (top 40) zp Ay ["many","entry"]
 D_25:Df K mg "are_rising" (top 41) zr Az ["numbers","many"]
 D_26:Df K mg "is_borne_out" (top 42) zt Ba ["sets","costs","numbers","deep"]
 D_27:Df K mg "side_cost" (top 43) zu Bb ["sets","costs","numbers","deep"]
 D_28:Df K mg "_law_tape" (top 45) zv Bc ["_law_script"]
 D_29:Df K mg "_law_draw" (top 46) zw Bd ["_law_tape_here","_law_many"]
 D_30:Df K mg "_law_names" (top 47) zx Be ["_law_tape_here","_law_many"]
 D_31:Df K mg "_law_form" (top 48) zy Bf ["_law_tape_here","_law_fields","_law_values"]
 D_32:Df K mg "_law_case" (top 49) gV Bg ["_law_tape_here","_law_form_here"]
 D_33:Df K mg "_law_rows" (top 50) Aa Bh ["_law_tape_here","_law_form_here","_law_many"]
 D_34:Df K mg "_law_questions" (top 51) Ab Bi ["_law_form_here"]
 D_35:Df K mg "_law_side" (top 52) Ac Bj ["_law_form_here","_law_question","_law_stray","_law_case_here"]
 D_36:Df K mg "_law_parts" (top 53) Ad Bk ["_law_form_here","_law_question","_law_stray","_law_rows_here"]
 D_37:Df K mg "_law_prices" (top 54) Ae Bl ["_law_tape_here"]
 D_38:Df K mg "_law_told" (top 55) Af Bm ["_law_form_here","_law_rows_here","_law_deep","_law_prices_here"]
 D_39:Df K mg "_law_is_tree" (top 56) qt rf ["_law_form_here","_law_tree","_law_deep"]
 D_40:Df K mg "_law_slips" (top 57) qu rh ["_law_form_here","_law_tree","_law_rows_here"]
 D_41:Df K mg "_law_knots" (top 58) qv rm ["_law_tree"]
 D_42:Df K mg "_law_masks" (top 59) Ag Bn ["_law_form_here","_law_rows_here"]
 D_43:Df K mg "_law_many_met" (top 60) Ah Bo ["_law_masks_here","_law_many","_law_deep"]
 D_44:Df K mg "_law_longest" (top 61) Ai Bp ["_law_masks_here","_law_many","_law_deep"]
 D_45:Df K mg "_law_right" (top 62) Aj Bq ["_law_form_here","_law_rows_here","_law_deep","_law_prices_here","_law_met"]
 D_law:Df K mg "law" (top 63) oz ml ["_law_script"]
 c_SIDES:mg "SIDES"=some (.ref t_SIDES)
 t_SIDES:aGy K t_SIDES ["yes","no"]
 c_MOST_SETS:mg "MOST_SETS"=some (.int 400 gj)
 c_MOST_TABLE_DEEP:mg "MOST_TABLE_DEEP"=some (.int 3 ay)
 b_ValueError:mg "ValueError"=none
 b_all:mg "all"=none
 b_bool:mg "bool"=none
 b_int:mg "int"=none
 b_isinstance:mg "isinstance"=none
 b_len:mg "len"=none
 b_list:mg "list"=none
 b_max:mg "max"=none
 b_range:mg "range"=none
 b_reversed:mg "reversed"=none
 b_set:mg "set"=none
 b_sum:mg "sum"=none
 b_tuple:mg "tuple"=none
noncomputable def iQ:Str:="abcdefghijklmnopqrstuvwxyz"
noncomputable def sgn(c:Nat):Bool:=Txt.contains iQ ⟨#[c]⟩
noncomputable def AG(z:Str):Bool:=decide (1<=z.length)&&decide (z.length<=8)&&z.cps.toList.all sgn
noncomputable def nm:D->Bool
|.str z=>AG z
|_=>false
noncomputable def txt:D->Str
|.str z=>z
|_=>""
noncomputable def nms(d:D)(lo hi:Int):Bool:=match d with | .tuple ts=>decide (lo<=ts.length)&&decide ((ts.length:Int)<=hi)&&ts.all nm&&decide ((ts.map txt).Nodup) | _=>false
noncomputable def fld:D->Bool
|.tuple [n,vs]=>nm n&&nms vs 2 5
|_=>false
noncomputable def fst:D->D
|.tuple (n::_)=>n
|_=>.none
def KN(n:Nat)(ys:List Str):Prop:=ys.length=n/\(∀y∈ys,AG y=true)/\ys.Nodup
noncomputable def oJ(f:Str×List Str):D:=.tuple [.str f.1,.tuple (f.2.map aY)]
noncomputable def gH(fs:List (Str×List Str))(an:List Str):D:=.tuple [.tuple (fs.map oJ),.tuple (an.map aY)]
structure lH(fs:List (Str×List Str))(an:List Str):Prop where
 n1:1<=fs.length
 n5:fs.length<=5
 nd:KN fs.length (fs.map (·.1))
 vs:∀f∈fs,2<=f.2.length/\f.2.length<=5/\KN f.2.length f.2
 a2:2<=an.length
 a4:an.length<=4
 an:KN an.length an
def aHy:oK:=λ_ _=>False
def aHx:SpC:=λ_ n ds Q=>∃m:Int,ds=[.int m]/\0<m/\m<=100000/\n<1099511627776/\∀r:Int,0<=r->r<m->Q (n+1) (.int r)
def aHw:SpC:=λ_ n ds Q=>∃m:Nat,ds=[.int m]/\1<=m/\m<=5/\n<1000000000000/\∀n' ys,n'<=n+12->KN m ys->Q n' (.tuple (ys.map aY))
def aHv:SpC:=λ_ n ds Q=>∃f v:Nat,ds=[.int f,.int v]/\1<=f/\f<=5/\2<=v/\v<=5/\n<900000000000/\∀n' fs an,n'<=n+100->lH fs an->fs.length=f->(∀x∈fs,x.2.length<=v)->Q n' (gH fs an)
def CU{α:Type}{xs:List α}{i:Int}(h0:0<=i)(h1:i<xs.length):∃a,a∈xs/\L2.atI xs i=some a/\xs[i.toNat]?=some a:=by
 have hi:i.toNat<xs.length:=by omega
 refine⟨xs[i.toNat],gQ hi,?_,aG hi⟩;have:=L2.gU (xs:=xs) (j:=i.toNat) (v:=xs[i.toNat]) (aG hi)
 rwa [show((i.toNat:Nat):Int)=i by omega]at this
def lM(n:Nat):(gL n).length=n:=by unfold gL;simp
def rY{n k:Nat}{x}(h:(gL n)[k]?=some x):k<n/\x=.int k:=by
 unfold gL at h;rw[aH]at h;by_cases hk:k<n
 ·rw[iX hk]at h;cases h;exact⟨hk,rfl⟩
 ·rw[gB (by simpa using hk)]at h;cases h
def zE{α:Type}(xs:List α)(j:Nat):mL xs none (some (j:Int))=xs.take j:=by
 unfold mL;rw[HT.sIx_none,HT.sIx_nat,FS,aMj];by_cases h:j<=xs.length
 ·rw[aDs h]
 ·rw[aBy (by omega),dE,kZ (by omega)]
def W4{α:Type}(xs:List α)(i:Nat):mL xs (some (i:Int)) none=xs.drop i:=by
 unfold mL;rw[HT.sIx_none,HT.sIx_nat];by_cases h:i<=xs.length
 ·rw[aDs h,kZ (by rw[fF];omega)]
 ·rw[aBy (by omega),KR (aL _),KR (by omega)];simp
def vG{α β:Type}(f:α->β)(xs:List α)(lo hi:Option Int):mL (xs.map f) lo hi=(mL xs lo hi).map f:=by
 unfold mL;rw[aB,aG2,List.map_drop]
def U8{z:Str}(h1:1<=z.cps.toList.length)(h2:z.cps.toList.length<=8)(h3:∀c∈z.cps.toList,c∈iQ.cps.toList):AG z=true:=by
 have e:z.length=z.cps.toList.length:=by simp[jf]
 unfold AG;rw[e,d7 h1,d7 h2];simp only[yM,iM];intro c hc;unfold sgn;rw[WB];exact d7 (h3 c hc)
def OP{z:Str}(h:AG z=true):1<=z.length/\z.length<=8/\∀c∈z.cps.toList,c∈iQ.cps.toList:=by
 unfold AG at h;simp only[bU,k9,iM]at h;refine⟨h.1.1,h.1.2,λc hc=>?_⟩;have:=h.2 c hc;unfold sgn at this;rw[WB]at this;exact e7 this
def nodup_range{α:Type}{n:Nat}(F:Nat->α)(inj:∀i j,i<n->j<n->F i=F j->i=j):((aZ n).map F).Nodup:=by
 rw[FU,eP];have:(aZ n).Nodup:=BB;refine jB.imp_of_mem (λ{a b} ha hb Du e=>?_) this;exact Du (inj a b (by simpa using ha) (by simpa using hb) e)
def L3:iQ.cps.toList.Nodup:=by decide +kernel
def zR:iQ.cps.toList.length=26:=by decide +kernel
def ZU{xs:List Nat}(nd:xs.Nodup){i j:Nat}{c:Nat}(h1:xs[i]?=some c)(h2:xs[j]?=some c):i=j:=by
 obtain⟨a1,a2⟩:=aD.mp h1;obtain⟨b1,b2⟩:=aD.mp h2;exact(BC nd).mp (a2.trans b2.symm)
theorem ID:∀{ys},(∀y∈ys,∃c,c∈iQ.cps.toList/\y=.str ⟨#[c]⟩)->∃cs:List Nat,ys=cs.map (λc=>aY ⟨#[c]⟩)/\∀c∈cs,c∈iQ.cps.toList
|[],_=>⟨[],rfl,λc h=>by simp at h⟩
|y::ys,h=>by
 obtain⟨c,hc,rfl⟩:=h y (aS ..);obtain⟨cs,rfl,h2⟩:=ID (ys:=ys) λy hy=>h y (aO _ hy);refine⟨c::cs,rfl,λd hd=>?_⟩;rcases bE.mp hd with rfl | hd
 ·exact hc
 ·exact h2 d hd
def B8(cs:List Nat):(Txt.join ⟨#[]⟩ (cs.map λc=>⟨#[c]⟩)).cps.toList=cs:=by
 rw[L7,bH]
 induction cs with
 |nil=>rfl
 |cons c cs ih=>rw[bD,XW,ih];rfl
def yF{ys:List Str}{k:Nat}(h:k<ys.length):L2.atI (ys.map aY) (k:Int)=some (.str ys[k]):=L2.gU (by rw[aH,aG h];rfl)
def K9{c:yP}{te:ET}{u:rE}{DT}{σ:List Sl}{i:Nat}(C:Prop)(R:D->Prop)(h:∀q:Bool->Prop,(∀b,(b=true->C)->q b)->c σ q)(h1:C->∀q:D->Prop,(∀d,R d->q d)->te σ q)(d0:D)(h0:σ[i]?=some (.val d0))(r0:R d0)(k:∀d,R d->u DT (σ.set i (.val d))):iY (sIf c (AE i te) lZ) u DT σ:=by
 refine h _ λb hb=>?_
 cases b with
 |true=>
  rw[b9 rfl];exact h1 (hb rfl) _ k
 |false=>
  rw[b8 (by decide)]
  have e:σ.set i (.val d0)=σ:=by
   apply gZ;intro j;by_cases hj:i=j
   ·subst hj;rw[aV (aD.mp h0).1,h0]
   ·rw[aU hj]
  have:=k d0 r0;rw[e]at this;exact this
def wU{n:Nat}(F:Nat->Str)(h:∀i,i<n->AG (F i)=true)(inj:∀i j,i<n->j<n->F i=F j->i=j):KN n ((aZ n).map F):=
 ⟨by simp,λy hy=>by
  obtain⟨i,hi,rfl⟩:=aQ.mp hy;exact h i (by simpa using hi),nodup_range F inj⟩
def Q5{n:Nat}{ys:List Str}(h:KN n ys)(t:Nat){m:Nat}(hm:m<=n):KN m ((ys.drop t++ys.take t).take m):=by
 have hp:(ys.drop t++ys.take t).Perm ys:=by
  have:(ys.take t++ys.drop t).Perm ys:=by rw[NH]
  exact List.perm_append_comm.trans this
 refine⟨?_,λy hy=>h.2.1 y (hp.mem_iff.mp (fB hy)),(hp.nodup_iff.mpr h.2.2).sublist (zX _ _)⟩;rw[bA,hp.length_eq,h.1];omega
def Q4{n:Nat}{ys:List Str}(h:KN n ys)(t:Nat):KN n (ys.drop t++ys.take t):=by
 have e:=Q5 h t (aL n)
 rwa [kZ]at e
 rw[bC,fF,bA,h.1];omega
def KA{ns:List Int}(h:0<ns.length)(i:Int):∃x:Int,L2.atI (ns.map aM) (i%((ns.map aM).length:Nat))=some (.int x):=by
 rw[aB];obtain⟨a,hm,ha,_⟩:=CU (xs:=ns.map aM) (i:=i%(ns.length:Nat)) (pR _ (by omega)) (by rw[aB];exact nL _ (by omega));obtain⟨b,hb,rfl⟩:=aQ.mp hm;exact⟨b,ha⟩
@[irreducible] def R4(i:Nat):Nat:=iQ.cps.toList.getD i 0
def A9{i:Nat}(h:i<26):iQ.cps.toList[i]?=some (R4 i):=by
 have hl:i<iQ.cps.toList.length:=by rw[zR];exact h
 unfold R4;rw[FR,aG hl];rfl
def aBj{i:Nat}(h:i<26):R4 i∈iQ.cps.toList:=aN (A9 h)
def qW{α:Type}{xs:List α}(nd:xs.Nodup){i j:Nat}{c}(h1:xs[i]?=some c)(h2:xs[j]?=some c):i=j:=by
 obtain⟨a1,a2⟩:=aD.mp h1;obtain⟨b1,b2⟩:=aD.mp h2;exact(BC nd).mp (a2.trans b2.symm)
noncomputable def rJ:List Str:=["say","ask","is","upto","yes","no","all","in","none","a"]
def KU:rJ.Nodup:=by decide +kernel
def KS:∀y∈rJ,AG y=true:=by decide +kernel
@[irreducible] def wAt(i:Nat):Str:=rJ.getD i ""
def AV{i:Nat}(h:i<10):rJ[i]?=some (wAt i):=by
 have hl:i<rJ.length:=h;unfold wAt;rw[FR,aG hl];rfl
def IW{s m:Nat}(hm:m<=10):KN m ((aZ m).map λj:Nat=>wAt ((s+3*j)%10)):=by
 refine wU _ (λi hi=>KS _ (aN (AV (lD _ (by decide))))) λi j hi hj h=>?_;have l1:=AV (i:=(s+3*i)%10) (lD _ (by decide));have l2:=AV (i:=(s+3*j)%10) (lD _ (by decide));have h':wAt ((s+3*i)%10)=wAt ((s+3*j)%10):=h;rw[<- h']at l2;have:=qW KU l1 l2;omega
def U7{z:Str}(Fv:z.cps.toList.length=7)(yy:∀c∈z.cps.toList,c∈iQ.cps.toList){m:Nat}(hm:m<=7):KN m ((aZ m).map λj:Nat=>Txt.slice z none (some ((j:Int)+1))):=by
 have e:∀j:Nat,(Txt.slice z none (some ((j:Int)+1))).cps.toList=z.cps.toList.take (j+1):=λj=>by
  rw[tM];exact zE _ (j+1)
 refine wU _ (λi hi=>?_) λi j hi hj h=>?_
 ·refine U8 ?_ ?_ λc hc=>?_
  ·rw[e,bA];omega
  ·rw[e,bA];omega
  ·rw[e]at hc;exact yy c (fB hc)
 ·have e1:=e i;rw[h,e j]at e1;have:=i6 gO e1;rw[bA,bA]at this;omega
noncomputable def E7(z:Str)(t c:Nat):Str:=Txt.slice z none (some (t:Int))++⟨#[c]⟩++Txt.slice z (some (t:Int)) none
def tY(z:Str)(t c:Nat):(E7 z t c).cps.toList=z.cps.toList.take t++(c::z.cps.toList.drop t):=by
 unfold E7;rw[vK,vK,tM,tM,W4,zE];simp
def ZV{z:Str}(Fv:z.cps.toList.length=7)(yy:∀c∈z.cps.toList,c∈iQ.cps.toList){t s m:Nat}(hm:m<=26):KN m ((aZ m).map λj:Nat=>E7 z t (R4 ((s+7*j)%26))):=by
 refine wU _ (λi hi=>?_) λi j hi hj h=>?_
 ·have e:=tY z t (R4 ((s+7*i)%26));refine U8 ?_ ?_ λc hc=>?_
  ·rw[e,bC,cH];omega
  ·rw[e,bC,cH,bA,fF];omega
  ·rw[e]at hc;rcases dH.mp hc with hc | hc
   ·exact yy c (fB hc)
   ·rcases bE.mp hc with rfl | hc
    ·exact aBj (lD _ (by decide))
    ·exact yy c (P5 hc)
 ·have e1:=tY z t (R4 ((s+7*i)%26));have h':E7 z t (R4 ((s+7*i)%26))=E7 z t (R4 ((s+7*j)%26)):=h;rw[h',tY]at e1;have e2:=List.append_cancel_left e1;have e3:R4 ((s+7*j)%26)=R4 ((s+7*i)%26):=(List.cons.inj e2).1;have l1:=A9 (i:=(s+7*i)%26) (lD _ (by decide));have l2:=A9 (i:=(s+7*j)%26) (lD _ (by decide));rw[e3]at l2;have:=ZU L3 l1 l2;omega
def RK(z:Str)(Fv:z.cps.toList.length=7)(t c:Nat):(Txt.slice z none (some (t:Int))).length+1<=100000/\(Txt.slice z none (some (t:Int))++(⟨#[c]⟩:Str)).length+(Txt.slice z (some (t:Int)) none).length<=100000:=by
 have a1:=Txt.slice_le z none (some (t:Int));have a2:=Txt.slice_le z (some (t:Int)) none;have a3:z.length=z.cps.toList.length:=by simp[jf]
 have a4:(Txt.slice z none (some (t:Int))++(⟨#[c]⟩:Str)).length=(Txt.slice z none (some (t:Int))).length+1:=by
  show((Txt.slice z none (some (t:Int))).cps++#[_]).size=_;rw[SU];rfl
 rw[a4];omega
def JA{r:Int}(h:0<=r):∃t:Nat,r=(t:Int):=⟨r.toNat,(hX h).symm⟩
theorem O4{Pv:List Str->Prop}:∀(ns:List Str)(ys:List D),ys.length=ns.length->(∀(k:Nat)(x y:D),(ns.map aY)[k]?=some x->ys[k]?=some y->∃nm vs,x=.str nm/\y=oJ (nm,vs)/\Pv vs)->∃fs:List (Str×List Str),ys=fs.map oJ/\fs.map (·.1)=ns/\∀f∈fs,Pv f.2
|[],ys,hl,_=>⟨[],nK.mp hl,rfl,λf hf=>by simp at hf⟩
|n::ns,[],hl,_=>by simp at hl
|n::ns,y::ys,hl,h=>by
 obtain⟨nm,vs,e1,e2,hp⟩:=h 0 (.str n) y rfl rfl;cases e1;obtain⟨fs,h1,h2,h3⟩:=O4 ns ys (by simpa using hl) λk x y hx hy=>h (k+1) x y (by simpa using hx) (by simpa using hy);refine⟨(n,vs)::fs,by rw[e2,h1];rfl,by rw[bD,h2],λf hf=>?_⟩;rcases bE.mp hf with rfl | hf
 ·exact hp
 ·exact h3 f hf
noncomputable def okV(f:Str×List Str)(d:D):Bool:=match d with | .none=>true | .str z=>decide (z∈f.2) | _=>false
noncomputable def V7(an:List Str)(d:D):Bool:=match d with | .str z=>decide (z∈an) | _=>false
structure Cd(d:D):Prop where
 lay:d.canLay0=true
 dep:d.depth<=60
structure Th(n m:Nat)(d:D):Prop where
 bulk:d.bulk<=n
 fit:d.leavesShort 110=true
 shw:d.showable=true
 nodict:d.hasDict=false
 depth:d.depth<=m
 lay:d.canLay0=true
theorem tF{n m:Nat}:∀{ts:List D},(∀t∈ts,Th n m t)->vQ ts<=ts.length*(n+1)/\KH 110 ts=true/\P2 ts=true/\iR ts=false/\cA ts<=m/\dD ts=true
|[],_=>⟨cL _,rfl,rfl,rfl,cL _,rfl⟩
|t::ts,h=>by
 have a:=h t (aS ..);obtain⟨b1,b2,b3,b4,b5,b6⟩:=tF (ts:=ts) λx hx=>h x (aO _ hx);refine⟨?_,?_,?_,?_,?_,?_⟩
 ·show t.bulk+1+vQ ts<=(ts.length+1)*(n+1);have:=a.bulk;rw[Nat.add_mul,aM6];omega
 ·show(t.leavesShort 110&&KH 110 ts)=true;rw[a.fit,b2];rfl
 ·show(t.showable&&P2 ts)=true;rw[a.shw,b3];rfl
 ·show(t.hasDict||iR ts)=false;rw[a.nodict,b4];rfl
 ·show max t.depth (cA ts)<=m;exact Nat.max_le.mpr ⟨a.depth,b5⟩
 ·show(t.canLay0&&dD ts)=true;rw[a.lay,b6];rfl
def K2(n m k:Nat){N M:Nat}{ts:List D}(h:∀t∈ts,Th n m t)(hl:ts.length<=k)(hN:k*(n+1)<=N)(hM:m+1<=M):Th N M (.tuple ts):=by
 obtain⟨b1,b2,b3,b4,b5,b6⟩:=tF h;have:ts.length*(n+1)<=k*(n+1):=SF _ hl;exact⟨by show vQ ts<=N;omega,b2,b3,b4,by show cA ts+1<=M;omega,b6⟩
def aD2(n m k:Nat){N M:Nat}{ts:List D}(h:∀t∈ts,Th n m t)(hl:ts.length<=k)(hN:k*(n+1)<=N)(hM:m+1<=M):Th N M (.list ts):=by
 obtain⟨b1,b2,b3,b4,b5,b6⟩:=tF h;have:ts.length*(n+1)<=k*(n+1):=SF _ hl;exact⟨by show vQ ts<=N;omega,b2,b3,b4,by show cA ts+1<=M;omega,b6⟩
def FY{n m:Nat}:Th n m .none:=⟨cL _,rfl,rfl,rfl,cL _,rfl⟩
def HX{z:Str}(hc:∀c∈z.cps.toList,c<1000):aDq z=true:=by
 unfold aDq;rw[<- XZ,iM];intro c h1;have:=hc c h1;exact d7 (by omega)
def aD0{n m:Nat}{z:Str}(h:z.length<=n)(hc:∀c∈z.cps.toList,c<1000):Th n m (.str z):=by
 refine⟨h,?_,rfl,rfl,cL _,HX hc⟩;show(z.cps.toList.all λc=>decide (c<16^8))=true;rw[iM];intro c h1;have:=hc c h1;exact d7 (by omega)
def RB{c:Nat}(h:c∈iQ.cps.toList):c<128:=by
 have:∀c∈iQ.cps.toList,c<128:=by decide +kernel
 exact this c h
def IZ{y:Str}(h:AG y=true):y.length<=8/\∀c∈y.cps.toList,c<128:=⟨(OP h).2.1,λc hc=>RB ((OP h).2.2 c hc)⟩
def nW{y}(h:AG y=true){n m:Nat}(hn:8<=n):Th n m (.str y):=aD0 (dG (IZ h).1 hn) λc hc=>by have:=(IZ h).2 c hc;omega
def AX{ys:List Str}(h:∀y∈ys,AG y=true){n m:Nat}(hn:8<=n):∀t∈ys.map aY,Th n m t:=λt ht=>by
 obtain⟨y,hy,rfl⟩:=aQ.mp ht;exact nW (h y hy) hn
def G8{n m:Nat}:∀t∈([]:List D),Th n m t:=λt h=>by simp at h
def all_cons{n m:Nat}{a ts}(h:Th n m a)(hs:∀t∈ts,Th n m t):∀t∈a::ts,Th n m t:=λt ht=>by
 rcases bE.mp ht with rfl | ht
 ·exact h
 ·exact hs t ht
def aBp{n m:Nat}{as bs:List D}(h:∀t∈as,Th n m t)(hs:∀t∈bs,Th n m t):∀t∈as++bs,Th n m t:=λt ht=>(dH.mp ht).elim (h t) (hs t)
def Th.cd{n m:Nat}{d}(h:Th n m d)(hm:m<=60):Cd d:=⟨h.lay,dG h.depth hm⟩
section
variable{fs:List (Str×List Str)}{an:List Str}
def lH.name(F:lH fs an){f:Str×List Str}(h:f∈fs):AG f.1=true:=F.nd.2.1 _ (aQ.mpr ⟨f,h,rfl⟩)
def lH.vals(F:lH fs an){f:Str×List Str}(h:f∈fs):∀y∈f.2,AG y=true:=(F.vs f h).2.2.2.1
end
def JQ{x ts}{Q:D->Prop}(h1:yW x (.tuple ts))(h2:Q (.bool (DD x (.tuple ts)))):aLi x (.tuple ts) Q:=by
 cases x<;>exact⟨h1,h2⟩
def CV(d:D)(ys:List Str):((ys.map aY).any λz=>cO z d)=V7 ys d:=by
 induction ys with
 |nil=>cases d<;>rfl
 |cons y ys ih=>
  rw[bD,yL,ih]
  cases d with
  |str z=>
   show((y==z)||decide (z∈ys))=decide (z∈y::ys);rw[iB];simp only[uP,om,k9,bE];exact⟨λh=>h.imp zc id,λh=>h.imp zc id⟩
  |_=>rfl
def GD{ys:List Str}(h:∀y∈ys,AG y=true){d}(hd:Cd d):yW d (.tuple (ys.map aY)):=by
 obtain⟨_,_,_,_,b5,b6⟩:=tF (AX h (aL 8) (m:=0));exact⟨b6,hd.lay,by have:=hd.dep;omega⟩
def LU{ys:List Str}(h:∀y∈ys,AG y=true){d:D}(hd:Cd d):yW d (.tuple (ys.map aY++[.none])):=by
 obtain⟨_,_,_,_,b5,b6⟩:=tF (aBp (AX h (aL 8) (m:=0)) (all_cons FY G8));exact⟨b6,hd.lay,by have:=hd.dep;omega⟩
theorem GM:∀{ys:List Str}{z}{m:Nat},m<ys.idxOf z->ys[m]?≠some z
|[],z,m,h=>by simp at h
|y::ys,z,m,h=>by
 rw[List.idxOf_cons]at h;by_cases e:y=z
 ·subst e;simp at h
 ·have e':(y==z)=false:=by simpa using e
  rw[e']at h;simp only[cond_false]at h
  cases m with
  |zero=>simpa using e
  |succ m=>
   rw[sX];exact GM (by omega)
def NY{te:ET}{u DT}{σ:List Sl}{i j:Nat}{a b}(h:∀q:D->Prop,q (.tuple [a,b])->te σ q)(k:u DT ((σ.set i (.val a)).set j (.val b))):iY (aJc i j te) u DT σ:=h _ ⟨a,b,rfl,k⟩
noncomputable def qN(fs:List (Str×List Str))(d:D):Bool:=match d with | .tuple ts=>decide (ts.length=fs.length)&&(fs.zip ts).all (λp=>okV p.1 p.2) | _=>false
section
variable{fs:List (Str×List Str)}{an:List Str}
def qY{cs:List D}(h:qN fs (.tuple cs)=true):cs.length=fs.length/\∀(k:Nat) f c,fs[k]?=some f->cs[k]?=some c->okV f c=true:=by
 unfold qN at h;simp only[bU,k9,iM]at h;refine⟨h.1,λk f c h1 h2=>?_⟩;exact h.2 (f,c) (aN ((HG (z:=(f,c))).mpr ⟨h1,h2⟩))
def aBg{cs:List D}(hl:cs.length=fs.length)(h:∀(k:Nat) f c,fs[k]?=some f->cs[k]?=some c->okV f c=true):qN fs (.tuple cs)=true:=by
 unfold qN;simp only[bU,k9,iM];refine⟨hl,λp hp=>?_⟩;obtain⟨k,hk⟩:=bK hp;obtain⟨h1,h2⟩:=HG.mp hk;exact h k p.1 p.2 h1 h2
def MU(F:lH fs an){cs}(h:qN fs (.tuple cs)=true){n m:Nat}(hn:8<=n):∀c∈cs,Th n m c:=λc hc=>by
 obtain⟨hl,hv⟩:=qY h;obtain⟨k,hk⟩:=bK hc;have gw:k<fs.length:=by rw[<- hl];exact(aD.mp hk).1
 have:=hv k fs[k] c (aG gw) hk
 cases c with
 |none=>exact FY
 |str z=>exact nW (F.vals (gQ gw) z (e7 this)) hn
 |_=>cases this
end
noncomputable def fC(r:List D×Str):D:=.tuple [.tuple r.1,.str r.2]
def PQ(fs:List (Str×List Str))(an:List Str)(r:List D×Str):Prop:=qN fs (.tuple r.1)=true/\r.2∈an
def jH(fs:List (Str×List Str))(an:List Str)(rs:List (List D×Str)):Prop:=∀r∈rs,PQ fs an r
def aD1{fs an}(F:lH fs an){r}(h:PQ fs an r):Th 92 2 (fC r):=by
 have n5:=F.n5;exact K2 45 1 2 (all_cons (K2 8 0 5 (MU F h.1 (aL 8)) (by rw[(qY h.1).1];exact n5) (by decide) (by decide)) (all_cons (nW (F.an.2.1 _ h.2) (by decide)) G8)) (aE rfl) (by decide) (by decide)
def X9{fs an}(F:lH fs an){rs:List (List D×Str)}(h:jH fs an rs)(hl:rs.length<=60):Th 6000 3 (.list (rs.map fC)):=
 aD2 92 2 60 (λt ht=>by
  obtain⟨r,hr,rfl⟩:=aQ.mp ht;exact aD1 F (h r hr)) (by rw[aB];exact hl) (by decide) (by decide)
noncomputable def qOk(f:Str×List Str)(k v:D):Bool:=match k,v with
|.str kk,.str z=>decide (z∈f.2)&&(decide (kk="is")||(decide (kk="upto")&&decide (f.2.idxOf z+1<f.2.length)))
|_,_=>false
noncomputable def isN(n:D)(f:Str×List Str):Bool:=match n with | .str z=>decide (f.1=z) | _=>false
noncomputable def isQ(fs:List (Str×List Str))(d:D):Bool:=match d with
|.tuple [k,n,v]=>fs.any λf=>isN n f&&qOk f k v
|_=>false
noncomputable def ZZ(k:Str)(f:Str×List Str)(z:Str):D:=.tuple [.str k,.str f.1,.str z]
noncomputable def vT(f:Str×List Str):List Str:=if f.2.length=2 then f.2.take 1 else f.2
noncomputable def yT(f:Str×List Str):List Str:=(f.2.drop 1).take (f.2.length-3)
noncomputable def LI(f:Str×List Str):List D:=(vT f).map (ZZ "is" f)++(yT f).map (ZZ "upto" f)
noncomputable def eZ(fs:List (Str×List Str)):List D:=(fs.map LI).flatten
def aNl:SpF:=λds Q=>∃(fs:List (Str×List Str))(an:List Str),ds=[gH fs an]/\lH fs an/\Q (eZ fs)
def WC{ys:List Str}{z}{j:Nat}(h:ys[j]?=some z):ys.idxOf z<=j:=by
 by_cases q:ys.idxOf z<=j
 ·exact q
 ·exact d8 h (GM (by omega))
def VF{f:Str×List Str}{z}(h:z∈yT f):z∈f.2/\f.2.idxOf z+1<f.2.length:=by
 unfold yT at h;have h1:z∈f.2:=P5 (fB h);refine⟨h1,?_⟩;obtain⟨i,hi⟩:=bK h;have hl:=(aD.mp hi).1;rw[bA,fF]at hl;rw[fN,b9 (by omega),jE]at hi;have:=WC hi;omega
def V6{fs f k z}(hf:f∈fs)(h:qOk f (.str k) (.str z)=true):isQ fs (ZZ k f z)=true:=by
 show(fs.any λg=>isN (.str f.1) g&&qOk g (.str k) (.str z))=true;rw[oG];refine⟨f,hf,?_⟩;show(decide (f.1=f.1)&&qOk f (.str k) (.str z))=true;rw[h,d7 rfl];rfl
def xF{fs d}(h:d∈eZ fs):∃f∈fs,(∃z∈f.2,d=ZZ "is" f z)\/(∃z,z∈f.2/\f.2.idxOf z+1<f.2.length/\d=ZZ "upto" f z):=by
 unfold eZ at h;obtain⟨l,hl,hd⟩:=List.mem_flatten.mp h;obtain⟨f,hf,rfl⟩:=aQ.mp hl;refine⟨f,hf,?_⟩;unfold LI at hd;rcases dH.mp hd with q | q
 ·obtain⟨z,hz,rfl⟩:=aQ.mp q;refine .inl ⟨z,?_,rfl⟩;unfold vT at hz;split at hz
  ·exact fB hz
  ·exact hz
 ·obtain⟨z,hz,rfl⟩:=aQ.mp q;exact .inr ⟨z,(VF hz).1,(VF hz).2,rfl⟩
def MS{fs d}(h:d∈eZ fs):isQ fs d=true:=by
 obtain⟨f,hf,⟨z,hz,rfl⟩ | ⟨z,hz,hi,rfl⟩⟩:=xF h
 ·refine V6 hf ?_;show(decide (z∈f.2)&&(decide (("is":Str)="is")||_))=true;rw[d7 hz];rfl
 ·refine V6 hf ?_;show(decide (z∈f.2)&&(decide (("upto":Str)="is")||(decide (("upto":Str)="upto")&&decide (f.2.idxOf z+1<f.2.length))))=true;rw[d7 hz,d7 hi,d7 (rfl:("upto":Str)="upto")];simp
def aK0:AG "is"=true:=by decide +kernel
def ZW:AG "upto"=true:=by decide +kernel
def S1{fs an}(F:lH fs an){k}(hk:AG k=true){f:Str×List Str}(hf:f∈fs){z}(hz:z∈f.2):Th 27 1 (ZZ k f z):=
 K2 8 0 3 (all_cons (nW hk (aL _)) (all_cons (nW (F.name hf) (aL _)) (all_cons (nW (F.vals hf z hz) (aL _)) G8))) (aE rfl) (by decide) (by decide)
def EA{fs an}(F:lH fs an):∀d∈eZ fs,Th 27 1 d:=λd h=>by
 obtain⟨f,hf,⟨z,hz,rfl⟩ | ⟨z,hz,hi,rfl⟩⟩:=xF h
 ·exact S1 F aK0 hf hz
 ·exact S1 F ZW hf hz
theorem kO{fs an}(F:lH fs an):∀gs:List (Str×List Str),(∀g∈gs,g∈fs)->(eZ gs).length<=10*gs.length
|[],_=>aL _
|g::gs,h=>by
 have ih:=kO F gs λx hx=>h x (aO _ hx);obtain⟨_,v5,_⟩:=F.vs g (h g (aS ..));show((LI g::gs.map LI).flatten).length<=_;rw[XW,bC]
 have h1:(LI g).length<=10:=by
  unfold LI vT yT;rw[bC,aB,aB,bA,fF];split
  ·rw[bA];omega
  ·omega
 have:(eZ gs).length=((gs.map LI).flatten).length:=rfl;rw[cH];omega
def qV{ys:List Str}(hy:∀y∈ys,AG y=true){z}(hz:z∈ys):Q1 (ys.map aY) (.str z) (ys.idxOf z):=by
 have Io:ys.idxOf z<ys.length:=jX.mpr hz;obtain⟨_,_,_,_,d5,d6⟩:=tF (AX hy (aL 8) (m:=0));refine⟨d6,(nW (hy z hz) (aL 8) (m:=0)).lay,by omega,⟨.str z,?_,?_⟩,λm t hm ht=>?_⟩
 ·rw[aH,aG Io,mU Io];rfl
 ·show(z==z)=true;simp
 ·rw[aH]at ht
  cases e2:ys[m]? with
  |none=>rw[e2]at ht;cases ht
  |some y=>
   rw[e2]at ht;cases ht;show(y==z)=false
   have:y≠z:=λq=>by
    subst q;exact GM hm e2
   simpa using this
inductive Tr | say (a:Str) | ask (k n v s:Str) (y m:Tr)
noncomputable def HU:Tr->D
|.say a=>.tuple [.str "say",.str a]
|.ask k n v s y m=>.tuple [.str "ask",.tuple [.str k,.str n,.str v],.str s,HU y,HU m]
noncomputable def Tr.dep:Tr->Nat
|.say _=>0
|.ask _ _ _ _ y m=>max y.dep m.dep+1
noncomputable def Tr.kn:Tr->Nat
|.say _=>0
|.ask _ _ _ _ y m=>y.kn+m.kn+1
def aBr(fs:List (Str×List Str))(an:List Str):Tr->Prop
|.say a=>a∈an
|.ask k n v s y m=>isQ fs (.tuple [.str k,.str n,.str v])=true/\(s="yes"\/s="no")/\aBr fs an y/\aBr fs an m
def GI{fs}{k n v:Str}(h:isQ fs (.tuple [.str k,.str n,.str v])=true):∃f∈fs,f.1=n/\v∈f.2/\(k="is"\/(k="upto"/\f.2.idxOf v+1<f.2.length)):=by
 obtain⟨f,hf,hq⟩:=oG.mp (h:(fs.any λf=>isN (.str n) f&&qOk f (.str k) (.str v))=true);rw[bU]at hq;have h2:(decide (v∈f.2)&&(decide (k="is")||(decide (k="upto")&&decide (f.2.idxOf v+1<f.2.length))))=true:=hq.2;simp only[bU,uP,k9]at h2;exact⟨f,hf,e7 hq.1,h2.1,h2.2⟩
theorem Tr.kn_dep:∀t:Tr,t.kn<2^t.dep
|.say _=>by show 0<2^0;decide
|.ask _ _ _ _ y m=>by
 have:=kn_dep y;have:=kn_dep m;show y.kn+m.kn+1<2^(max y.dep m.dep+1);have h1:2^y.dep<=2^(max y.dep m.dep):=oW (by decide) (Nat.le_max_left ..);have h2:2^m.dep<=2^(max y.dep m.dep):=oW (by decide) (Nat.le_max_right ..);rw[AS];omega
def EI{c:yP}{tb u DT σ}(P:Nat->List Sl->Prop)(n0:Nat)(h0:P n0 σ)
  (hs:∀n g6,P n g6->∃b:Bool,(∀q:Bool->Prop,q b->c g6 q)/\(if b=true then tb { DT with nx:=λz8=>∃m,m<n/\P m z8,ct:=λz8=>∃m,m<n/\P m z8,bk:=u DT } g6 else u DT g6)):iY (TU c tb) u DT σ:=
 ⟨P,⟨n0,h0⟩,λn g6 hp=>let ⟨_,h1,h2⟩:=hs n g6 hp;h1 _ h2⟩
def aBd(ys:List Str)(h:2<=ys.length):mL ys (some 1) (some (-2))=(ys.drop 1).take (ys.length-3):=by
 unfold mL
 have e1:HT.sIx ys.length 0 (some 1)=1:=by
  show(if(1:Int)<0 then((1:Int)+(ys.length:Int)).toNat else min (1:Int).toNat ys.length)=_;rw[b8 (by decide)];show min 1 ys.length=1;omega
 have e2:HT.sIx ys.length ys.length (some (-2))=ys.length-2:=by
  show(if(-2:Int)<0 then((-2:Int)+(ys.length:Int)).toNat else min (-2:Int).toNat ys.length)=_;rw[b9 (by decide)];omega
 rw[e1,e2];congr 1
def PK(ys:List Str)(h:2<=ys.length):mL ys none (some 1)=ys.take 1:=zE ys 1
def aNk:SpF:=λds Q=>∃f:Str×List Str,ds=[oJ f]/\2<=f.2.length/\f.2.length<=5/\Q (LI f)
abbrev Rw:=List D×Str
noncomputable def CL(rs:List Rw)(a:Str):Nat:=rs.countP λr=>decide (r.2=a)
noncomputable def tD(an:List Str)(rs:List Rw):List Int:=an.map λa=>(CL rs a:Int)
def C7(an:List Str)(rs:List Rw)(a:Str):Prop:=∃k,an[k]?=some a/\(∀(j:Nat) b,an[j]?=some b->CL rs b<=CL rs a)/\∀(j:Nat) b,j<k->an[j]?=some b->CL rs b<CL rs a
def aNp:SpF:=λds Q=>∃(fs:List (Str×List Str))(an:List Str)(rs:List Rw),ds=[gH fs an,.list (rs.map fC)]/\lH fs an/\jH fs an rs/\rs.length<=60/\Q ((tD an rs).map aM)
def aNo:oK:=λds Q=>∃(fs:List (Str×List Str))(an:List Str)(rs:List Rw),ds=[gH fs an,.list (rs.map fC)]/\lH fs an/\jH fs an rs/\rs.length<=60/\∀a,C7 an rs a->Q (.str a)
theorem JO{α:Type}[DecidableEq α]:∀(l:List α)(x:α),x∈l->∃k:Nat,l[k]?=some x/\∀j:Nat,j<k->l[j]?≠some x
|y::l,x,h=>by
 by_cases e:y=x
 ·exact⟨0,by rw[e];rfl,λj hj=>by omega⟩
 ·obtain⟨k,h1,h2⟩:=JO l x ((bE.mp h).resolve_left λz=>e z.symm);refine⟨k+1,h1,λj hj=>?_⟩
  cases j with
  |zero=>exactλz=>e (e9 z)
  |succ j=>exact h2 j (by omega)
noncomputable def wT(f:Str×List Str)(k v st:Str)(c:D):Str:=match c with
|.none=>st
|.str z=>if k="is" then(if z=v then "yes" else "no")else if f.2.idxOf z<=f.2.idxOf v then "yes" else "no"
|_=>""
noncomputable def lT(fs:List (Str×List Str))(k n v st:Str)(cs:List D):Str:=match fs[(fs.map (·.1)).idxOf n]?,cs[(fs.map (·.1)).idxOf n]? with
|some f,some c=>wT f k v st c
|_,_=>""
def aB9:oK:=λds Q=>∃(fs:List (Str×List Str))(an:List Str)(k n v st:Str)(cs:List D),ds=[gH fs an,.tuple [.str k,.str n,.str v],.str st,.tuple cs]/\lH fs an/\isQ fs (.tuple [.str k,.str n,.str v])=true/\(st="yes"\/st="no")/\qN fs (.tuple cs)=true/\Q (.str (lT fs k n v st cs))
def aHr:oK:=aB9
noncomputable def yV(fs:List (Str×List Str))(k n v st:Str)(rs:List (List D×Str))(w:Str)(x:D):Bool:=match x with
|.int i=>match L2.atI rs i with | some r=>decide (lT fs k n v st r.1=w) | none=>false
|_=>false
def A2{fs:List (Str×List Str)}{an}(F:lH fs an){j:Nat}{f:Str×List Str}(h:fs[j]?=some f):(fs.map (·.1)).idxOf f.1=j:=by
 have hm:f.1∈fs.map (·.1):=aQ.mpr ⟨f,aN h,rfl⟩;have hi:(fs.map (·.1)).idxOf f.1<(fs.map (·.1)).length:=jX.mpr hm;have h1:(fs.map (·.1))[(fs.map (·.1)).idxOf f.1]?=some f.1:=by rw[aG hi,mU hi]
 have h2:(fs.map (·.1))[j]?=some f.1:=by rw[aH,h];rfl
 exact(List.getElem?_inj hi F.nd.2.2).mp (h1.trans h2.symm)
def BL{fs an}(F:lH fs an){k n v st cs}{j:Nat}{f:Str×List Str}{c}(h1:fs[j]?=some f)(h2:cs[j]?=some c)(hn:f.1=n):lT fs k n v st cs=wT f k v st c:=by
 subst hn;unfold lT;rw[A2 F h1,h1,h2]
def IU{te:ET}{DT:uG}{σ:List Sl}{i:Nat}{ts us:List D}(ho:σ[i]?=some (.own ts))(hz:ts.length+us.length<=100000)(h:∀q:D->Prop,q (.list us)->te σ q)(k:DT.nx (σ.set i (.own (ts++us)))):aCi i te DT σ:=⟨ts,ho,h _ ⟨us,rfl,hz,k⟩⟩
def EO{fs k n v st rs w}{j:Nat}{r:List D×Str}(h:rs[j]?=some r):yV fs k n v st rs w (.int (j:Int))=decide (lT fs k n v st r.1=w):=by
 show(match L2.atI rs (j:Int)with | some r=>decide (lT fs k n v st r.1=w) | none=>false)=_;rw[L2.gU h]
noncomputable def CA(k v:Str)(f:Str×List Str):List Str:=if k="is" then[v]else f.2.take (f.2.idxOf v+1)
def aId:oK:=λds Q=>∃(k n v:Str)(f:Str×List Str),ds=[.tuple [.str k,.str n,.str v],oJ f]/\(∀y∈f.2,AG y=true)/\v∈f.2/\f.2.length<=5/\Q (.tuple ((CA k v f).map aY))
def RN{f:Str×List Str}{k v st z:Str}(hz:z∈f.2):(if V7 (CA k v f) (.str z)=true then("yes":Str)else "no")=wT f k v st (.str z):=by
 show(if decide (z∈CA k v f)=true then("yes":Str)else "no")=if k="is" then(if z=v then("yes":Str)else "no")else if f.2.idxOf z<=f.2.idxOf v then("yes":Str)else "no";unfold CA;by_cases hk:k="is"
 ·rw[b9 hk,b9 hk];by_cases e:z=v
  ·rw[b9 e,b9 (d7 (bR.mpr e))]
  ·rw[b8 e,b8 (λq=>e (bR.mp (e7 q)))]
 ·rw[b8 hk,b8 hk];have hi:f.2.idxOf z<f.2.length:=jX.mpr hz;by_cases e:f.2.idxOf z<=f.2.idxOf v
  ·rw[b9 e,b9];refine d7 (aN (i:=f.2.idxOf z) ?_);rw[fN,b9 (by omega),aG hi,mU hi]
  ·rw[b8 e,b8];intro q;obtain⟨i,yt⟩:=bK (e7 q);have hl:=(aD.mp yt).1;rw[bA]at hl;rw[fN,b9 (by omega)]at yt;have:=WC yt;omega
def JN{f:Str×List Str}{k v y}(hv:v∈f.2)(h:y∈CA k v f):y∈f.2:=by
 unfold CA at h;split at h
 ·rw[bR.mp h];exact hv
 ·exact fB h
noncomputable def wC(k v st:Str)(f:Str×List Str):List D:=(CA k v f).map aY++(if st="yes" then[vO]else[])
def aIe:oK:=λds Q=>∃(k n v st:Str)(f:Str×List Str),ds=[.tuple [.str k,.str n,.str v],.str st,oJ f]/\(∀y∈f.2,AG y=true)/\v∈f.2/\f.2.length<=5/\Q (.tuple (wC k v st f))
def aIf:oK:=λds Q=>∃(fs:List (Str×List Str))(an:List Str)(k n v:Str)(f:Str×List Str)(j:Nat),ds=[gH fs an,.tuple [.str k,.str n,.str v]]/\lH fs an/\fs[j]?=some f/\f.1=n/\Q (.int (j:Int))
def WH{k v}{f:Str×List Str}(h:f.2.length<=5):(CA k v f).length<=5:=by
 unfold CA;split
 ·show 1<=5;decide
 ·rw[bA];omega
def WA{k v st:Str}{f}(jx:st="yes"\/st="no"){c}(hc:okV f c=true):(if DD c (.tuple (wC k v st f))=true then("yes":Str)else "no")=wT f k v st c:=by
 have e:DD c (.tuple (wC k v st f))=(V7 (CA k v f) c||((if st="yes" then[vO]else[]).any λz=>cO z c)):=by
  show((wC k v st f).any λz=>cO z c)=_;unfold wC;rw[List.any_append,CV]
 cases c with
 |none=>
  rw[e];rcases jx with rfl | rfl<;>rfl
 |str z=>
  have hz:z∈f.2:=e7 hc
  have e2:((if st="yes" then[vO]else[]).any λx=>cO x (.str z))=false:=by
   rcases jx with rfl | rfl<;>rfl
  rw[e,e2,HN];exact RN hz
 |_=>cases hc
def U0{k v st}{f:Str×List Str}(hf:∀y∈f.2,AG y=true)(hv:v∈f.2){d}(hd:Cd d):yW d (.tuple (wC k v st f)):=by
 unfold wC;split
 ·exact LU (λy hy=>hf y (JN hv hy)) hd
 ·rw[dP];exact GD (λy hy=>hf y (JN hv hy)) hd
noncomputable def aLw(rs:List Rw)(x:D):D:=match x with | .str a=>.int ((CL rs a:Nat):Int) | _=>.none
def K1(rs:List Rw)(a:Str):((rs.map λr=>aY r.2).countP λt=>cO t (.str a))=CL rs a:=by
 rw[aB0];unfold CL;congr 1
def VT:∀{ys:List Str},(∀y∈ys,AG y=true)->dD (ys.map aY)=true/\cA (ys.map aY)<=0:=λh=>by
 obtain⟨_,_,_,_,b5,b6⟩:=tF (AX h (aL 8) (m:=0));exact⟨b6,b5⟩
theorem qX:∀ns:List Int,dD (ns.map aM)=true/\cA (ns.map aM)=0
|[]=>⟨rfl,rfl⟩
|n::ns=>by
 have:=qX ns;refine⟨?_,?_⟩
 ·show(true&&dD (ns.map aM))=true;rw[this.1];rfl
 ·show max 0 (cA (ns.map aM))=0;rw[this.2];rfl
def Q0{ns:List Int}{m:Int}{j:Nat}(h:ns[j]?=some m)(qm:∀i:Nat,i<j->ns[i]?≠some m):Q1 (ns.map aM) (.int m) j:=by
 obtain⟨h1,h2⟩:=qX ns;refine⟨h1,rfl,by rw[h2];omega,⟨.int m,by rw[aH,h];rfl,?_⟩,λi t hi ht=>?_⟩
 ·show(m==m)=true;simp
 ·rw[aH]at ht
  cases e:ns[i]? with
  |none=>rw[e]at ht;cases ht
  |some n=>
   rw[e]at ht;cases ht;show(n==m)=false;have:n≠m:=λz=>qm i hi (by rw[e,z]);simpa using this
noncomputable def aNt(x:D):D:=match x with | .tuple [_,b]=>b | _=>x
noncomputable def K7(fs:List (Str×List Str)):Tr->List D->List Str
|.say _,_=>[]
|.ask k n v s y m,cs=>lT fs k n v s cs::(if lT fs k n v s cs="yes" then K7 fs y cs else K7 fs m cs)
noncomputable def KB(fs:List (Str×List Str)):Tr->List D->Str
|.say a,_=>a
|.ask k n v s y m,cs=>if lT fs k n v s cs="yes" then KB fs y cs else KB fs m cs
section
variable{fs:List (Str×List Str)}{an:List Str}
def YU(F:lH fs an){k n v st:Str}{cs}(hq:isQ fs (.tuple [.str k,.str n,.str v])=true)(jx:st="yes"\/st="no")(hc:qN fs (.tuple cs)=true):lT fs k n v st cs="yes"\/lT fs k n v st cs="no":=by
 obtain⟨f,hf,se,hv,hk⟩:=GI hq;obtain⟨j,hj⟩:=bK hf;obtain⟨gc,uy⟩:=qY hc;have pj:=(aD.mp hj).1;have xl:cs[j]?=some cs[j]:=aG (by omega)
 generalize cs[j]=c at xl
 rw[BL F hj xl se];have hok:=uy j f c hj xl
 cases c with
 |none=>exact jx
 |str z=>
  show(if k="is" then(if z=v then("yes":Str)else "no")else if f.2.idxOf z<=f.2.idxOf v then("yes":Str)else "no")="yes"\/_;by_cases h1:k="is"
  ·by_cases h2:z=v
   ·exact .inl (by rw[b9 h1,b9 h2])
   ·exact .inr (by show(if k="is" then(if z=v then("yes":Str)else "no")else if f.2.idxOf z<=f.2.idxOf v then("yes":Str)else "no")="no";rw[b9 h1,b8 h2])
  ·by_cases h2:f.2.idxOf z<=f.2.idxOf v
   ·exact .inl (by rw[b8 h1,b9 h2])
   ·exact .inr (by show(if k="is" then(if z=v then("yes":Str)else "no")else if f.2.idxOf z<=f.2.idxOf v then("yes":Str)else "no")="no";rw[b8 h1,b8 h2])
 |_=>cases hok
end
noncomputable def there(fs:List (Str×List Str))(t:Tr)(rs:List (List D×Str))(pl:List Str)(x:D):Bool:=match x with
|.int i=>(match L2.atI rs i with | some r=>decide ((K7 fs t r.1).take pl.length=pl) | none=>false)
|_=>false
def BH:oK:=λds Q=>∃ns:List Int,ds=[.list (ns.map aM)]/\ns.length<=63/\Q (.bool true)
def aHu:SpC:=λ_ n ds Q=>∃(fs:List (Str×List Str))(an:List Str),ds=[gH fs an]/\lH fs an/\n<800000000000/\∀n' cs,n'<=n+5->qN fs (.tuple cs)=true->Q n' (.tuple cs)
def aHt:SpC:=λ_ n ds Q=>∃(fs:List (Str×List Str))(an:List Str)(m:Nat),ds=[gH fs an,.int m]/\lH fs an/\m<=60/\n<700000000000/\∀n' rs,n'<=n+10*m->jH fs an rs->rs.length=m->Q n' (.list (rs.map fC))
def aHq:SpC:=λ_ n ds Q=>ds=[]/\n<900000000000/\∀n' (a b:Int),n'<=n+3->0<=a->a<=1000000->0<=b->b<=1000000->Q n' (.tuple [.int a,.int b])
def tI(n:Nat):oK:=λds Q=>∃t:Tr,ds=[HU t]/\t.kn<=600/\t.dep<n/\Q (.int t.kn)
def B3{ds}{Q:D->Prop}(h:tI 0 ds Q):False:=by
 obtain⟨_,_,_,h,_⟩:=h;omega
noncomputable def lR(fs:List (Str×List Str))(t:Tr)(rs:List (List D×Str)):Nat:=(rs.filter λr=>!decide (KB fs t r.1=r.2)).length
noncomputable def HJ(fs:List (Str×List Str))(k n v st:Str)(r:List D×Str):Bool:=decide (lT fs k n v st r.1="yes")
theorem BJ{fs}(k n v s:Str)(y m:Tr):∀rs:List (List D×Str),lR fs (.ask k n v s y m) rs=lR fs y (rs.filter (HJ fs k n v s))+lR fs m (rs.filter λr=>!HJ fs k n v s r)
|[]=>rfl
|r::rs=>by
 have ih:=BJ (fs:=fs) k n v s y m rs;have e:KB fs (.ask k n v s y m) r.1=if lT fs k n v s r.1="yes" then KB fs y r.1 else KB fs m r.1:=rfl;unfold lR at ih |-
 by_cases hy:lT fs k n v s r.1="yes"
 ·have h1:HJ fs k n v s r=true:=d7 hy;rw[cD (p:=HJ fs k n v s),b9 h1,cD (p:=λr=>!HJ fs k n v s r),b8 (by rw[h1];decide)];rw[b9 hy]at e;by_cases ha:KB fs y r.1=r.2
  ·rw[cD,b8 (by rw[e];simp[ha]),cD (x:=r),b8 (by simp[ha])];exact ih
  ·rw[cD,b9 (by rw[e];simp[ha]),cD (x:=r),b9 (by simp[ha]),cH,cH,ih];omega
 ·have h1:HJ fs k n v s r=false:=f9 hy;rw[cD (p:=HJ fs k n v s),b8 (by rw[h1];decide),cD (p:=λr=>!HJ fs k n v s r),b9 (by rw[h1];rfl)];rw[b8 hy]at e;by_cases ha:KB fs m r.1=r.2
  ·rw[cD,b8 (by rw[e];simp[ha]),cD (x:=r),b8 (by simp[ha])];exact ih
  ·rw[cD,b9 (by rw[e];simp[ha]),cD (x:=r),b9 (by simp[ha]),cH,cH,ih];omega
def tJ(n:Nat):oK:=tI n
def aHm:oK:=tJ 7
def U9{ds}{Q:D->Prop}(h:tJ 0 ds Q):False:=B3 h
def tK(d:Nat):oK:=λds Q=>∃(fs:List (Str×List Str))(an:List Str)(t:Tr)(rs:List (List D×Str)),ds=[gH fs an,HU t,.list (rs.map fC)]/\lH fs an/\aBr fs an t/\t.dep<d/\jH fs an rs/\rs.length<=60/\Q (.int (lR fs t rs:Nat))
def aHn:oK:=tK 7
def VA{ds}{Q:D->Prop}(h:tK 0 ds Q):False:=by
 obtain⟨_,_,_,_,_,_,_,h,_⟩:=h;omega
def jH.filt{fs an}{rs:List (List D×Str)}(h:jH fs an rs)(p:List D×Str->Bool):jH fs an (rs.filter p):=λr hr=>h r (bN.mp hr).1
def FA(fs:List (Str×List Str))(an:List Str)(fa:List (List D×Str)->Str):Prop:=∀rs,jH fs an rs->C7 an rs (fa rs)
def C7.uniq{an rs a b}(h:C7 an rs a)(g:C7 an rs b):a=b:=by
 obtain⟨i,h1,h2,h3⟩:=h;obtain⟨j,g1,g2,g3⟩:=g;have e1:=h2 j b g1;have e2:=g2 i a h1;rcases rG i j with z | z | z
 ·have:=g3 i a z h1;omega
 ·subst z;rw[h1]at g1;exact e9 g1
 ·have:=h3 j b z g1;omega
noncomputable def T3(rs:List (List D×Str))(x:D):D:=match x with | .int i=>(match L2.atI rs i with | some r=>fC r | none=>.none) | _=>.none
def JP{an:List Str}(h:0<an.length)(rs:List (List D×Str)):∃a,C7 an rs a:=by
 have key:∀(l:List Str),0<l.length->∃k a,l[k]?=some a/\(∀(j:Nat) b,l[j]?=some b->CL rs b<=CL rs a)/\∀(j:Nat) b,j<k->l[j]?=some b->CL rs b<CL rs a:=λl=>by
  induction l with
  |nil=>intro h;exact d8 h (by decide)
  |cons x l ih=>
   intro _
   cases l with
   |nil=>exact⟨0,x,rfl,λj b hb=>by
     cases j with
     |zero=>cases hb;exact aL _
     |succ j=>simp at hb,λj b hj _=>d8 hj (jS _)⟩
   |cons y l=>
    obtain⟨k,a,h1,h2,h3⟩:=ih (by simp);by_cases hx:CL rs a<=CL rs x
    ·refine⟨0,x,rfl,λj b hb=>?_,λj b hj _=>d8 hj (jS _)⟩
     cases j with
     |zero=>cases hb;exact aL _
     |succ j=>exact dG (h2 j b (by simpa using hb)) hx
    ·refine⟨k+1,a,by simpa using h1,λj b hb=>?_,λj b hj hb=>?_⟩
     ·cases j with
      |zero=>cases hb;omega
      |succ j=>exact h2 j b (by simpa using hb)
     ·cases j with
      |zero=>cases hb;omega
      |succ j=>exact h3 j b (by omega) (by simpa using hb)
 obtain⟨k,a,h1,h2,h3⟩:=key an h;exact⟨a,k,h1,h2,h3⟩
def aLg{fs an}(F:lH fs an):∃fa,FA fs an fa:=
 ⟨λrs=>(JP (an:=an) (by have:=F.a2;omega) rs).choose,λrs _=>(JP (an:=an) (by have:=F.a2;omega) rs).choose_spec⟩
abbrev Fs:=List (Str×List Str)
abbrev Qn:=Str×Str×Str
abbrev Ch:=Qn×Str
noncomputable def qD(q:Qn):D:=.tuple [.str q.1,.str q.2.1,.str q.2.2]
noncomputable def tq(d:D):Qn:=match d with | .tuple [.str k,.str n,.str v]=>(k,n,v) | _=>("","","")
noncomputable def qs(fs:Fs):List Qn:=(eZ fs).map tq
def rQ(fs:Fs):(qs fs).map qD=eZ fs:=by
 unfold qs;rw[bH]
 have:∀d∈eZ fs,(qD∘tq) d=id d:=λd hd=>by
  obtain⟨f,hf,⟨z,hz,rfl⟩ | ⟨z,hz,hi,rfl⟩⟩:=xF hd<;>rfl
 rw[iW this,jA]
def F6{fs}{q:Qn}(h:q∈qs fs):isQ fs (.tuple [.str q.1,.str q.2.1,.str q.2.2])=true:=by
 have:qD q∈(qs fs).map qD:=aQ.mpr ⟨q,h,rfl⟩;rw[rQ]at this;exact MS this
noncomputable def wQ(q:Qn):List Ch:=[(q,"yes"),(q,"no")]
noncomputable def lG(fs:Fs):List Ch:=(qs fs).flatMap wQ
def MR{fs}{c:Ch}(h:c∈lG fs):c.1∈qs fs/\(c.2="yes"\/c.2="no"):=by
 obtain⟨q,hq,hc⟩:=List.mem_flatMap.mp h;simp only[wQ,bE,eO,af]at hc;rcases hc with rfl | rfl
 ·exact⟨hq,.inl rfl⟩
 ·exact⟨hq,.inr rfl⟩
def A8(fs:Fs):(lG fs).length=2*(eZ fs).length:=by
 unfold lG qs
 generalize (eZ fs)=l
 induction l with
 |nil=>rfl
 |cons x l ih=>
  rw[bD,zZ,bC,ih];show 2+_=2*(l.length+1);omega
noncomputable def onC(fs:Fs)(c:Ch)(r:Rw):Bool:=HJ fs c.1.1 c.1.2.1 c.1.2.2 c.2 r
noncomputable abbrev yR(fs:Fs)(c:Ch)(R:List Rw):List Rw:=R.filter (onC fs c)
noncomputable abbrev nR(fs:Fs)(c:Ch)(R:List Rw):List Rw:=R.filter λr=>!onC fs c r
noncomputable def dX(fs:Fs)(R:List Rw)(c:Ch):Bool:=!(yR fs c R).isEmpty&&!(nR fs c R).isEmpty
noncomputable def nO(fs:Fs)(fa:List Rw->Str)(a:Int)(R:List Rw):Int×Tr:=(a*(lR fs (.say (fa R)) R:Nat),.say (fa R))
noncomputable def oM(b:Int)(c:Ch)(x y told:Int×Tr):Int×Tr:=if b+x.1+y.1<told.1 then(b+x.1+y.1,.ask c.1.1 c.1.2.1 c.1.2.2 c.2 x.2 y.2)else told
noncomputable def fD(fs:Fs)(fa:List Rw->Str)(a b:Int):Nat->List Rw->Int×Tr
|0,R=>nO fs fa a R
|d+1,R=>((lG fs).filter (dX fs R)).foldl (λtold c=>oM b c (fD fs fa a b d (yR fs c R)) (fD fs fa a b d (nR fs c R)) told) (nO fs fa a R)
theorem CC{α β:Type}{P:β->Prop}{f:β->α->β}:∀{cs:List α}{x},P x->(∀c∈cs,∀y,P y->P (f y c))->P (cs.foldl f x)
|[],_,h,_=>h
|c::cs,x,h,k=>CC (cs:=cs) (k c (aS ..) x h) λd hd=>k d (aO _ hd)
theorem GP{α:Type}{g:α->Int×Tr->Int×Tr}(dn:∀c y,(g c y).1<=y.1):∀(cs:List α)(x:Int×Tr),(cs.foldl (λt c=>g c t) x).1<=x.1
|[],_=>DL _
|c::cs,x=>aMo (GP dn cs (g c x)) (dn c x)
theorem O3{α:Type}{g:α->Int×Tr->Int×Tr}(dn:∀c y,(g c y).1<=y.1){m:α->Int}(hm:∀c y,(g c y).1<=m c):∀(cs:List α)(x:Int×Tr)(c:α),c∈cs->(cs.foldl (λt c=>g c t) x).1<=m c
|c'::cs,x,c,h=>by
 rcases bE.mp h with rfl | h
 ·exact aMo (GP dn cs (g c x)) (hm c x)
 ·exact O3 dn hm cs (g c' x) c h
section
variable{fs:Fs}{fa:List Rw->Str}{a b:Int}
def NQ(c:Ch)(x y t:Int×Tr):(oM b c x y t).1<=t.1:=by
 unfold oM;split
 ·rename_i h;exact Int.le_of_lt h
 ·exact DL _
def YH(c:Ch)(x y t:Int×Tr):(oM b c x y t).1<=b+x.1+y.1:=by
 unfold oM;split
 ·exact DL _
 ·rename_i h;exact Int.not_lt.mp h
noncomputable abbrev cC(fs:Fs)(fa:List Rw->Str)(a b:Int)(d:Nat)(R:List Rw)(c:Ch):Int:=b+(fD fs fa a b d (yR fs c R)).1+(fD fs fa a b d (nR fs c R)).1
def FJ(d:Nat)(R:List Rw):(fD fs fa a b d R).1<=(nO fs fa a R).1:=by
 cases d with
 |zero=>exact DL _
 |succ d=>exact GP (g:=λc t=>oM b c (fD fs fa a b d (yR fs c R)) (fD fs fa a b d (nR fs c R)) t) (λc y=>NQ c _ _ y) _ _
def aGm{d:Nat}{R c}(hc:c∈lG fs)(hp:dX fs R c=true):(fD fs fa a b (d+1) R).1<=cC fs fa a b d R c:=
 O3 (g:=λc t=>oM b c (fD fs fa a b d (yR fs c R)) (fD fs fa a b d (nR fs c R)) t) (m:=cC fs fa a b d R) (λc y=>NQ c _ _ y) (λc y=>YH c _ _ y) _ _ c (bN.mpr ⟨hc,hp⟩)
def aBn(d:Nat)(R:List Rw):(fD fs fa a b (d+1) R).1=(nO fs fa a R).1\/∃c∈lG fs,dX fs R c=true/\(fD fs fa a b (d+1) R).1=cC fs fa a b d R c:=by
 refine CC (P:=λt:Int×Tr=>t.1=(nO fs fa a R).1\/∃c∈lG fs,dX fs R c=true/\t.1=cC fs fa a b d R c) (.inl rfl) λc hc y hy=>?_;obtain⟨h1,h2⟩:=bN.mp hc;unfold oM;split
 ·exact .inr ⟨c,h1,h2,rfl⟩
 ·exact hy
theorem G6(ha:0<=a)(hb:0<=b):∀(d:Nat)(R:List Rw),0<=(fD fs fa a b d R).1
|0,R=>HH ha (iO _)
|d+1,R=>by
 rcases aBn (fs:=fs) (fa:=fa) (a:=a) (b:=b) d R with h | ⟨c,_,_,h⟩
 ·rw[h];exact HH ha (iO _)
 ·rw[h];have h1:=G6 ha hb d (yR fs c R);have h2:=G6 ha hb d (nR fs c R);show 0<=b+_+_;omega
noncomputable def US(R:List Rw)(z:Str):Nat:=(R.filter λr=>!decide (r.2=z)).length
def OG(R:List Rw)(z:Str):US R z+CL R z=R.length:=by
 unfold US CL
 induction R with
 |nil=>rfl
 |cons r R ih=>
  rw[cD,List.countP_cons,cH];by_cases e:r.2=z
  ·rw[b8 (by simp[e]),b9 (d7 e)];omega
  ·rw[b9 (by simp[e]),b8 (by simp[e]),cH];omega
def BI(R:List Rw)(z:Str):lR fs (.say z) R=US R z:=by
 unfold lR US;congr 1;apply lQ;intro r _;show(!decide (z=r.2))=!decide (r.2=z);congr 1;exact decide_eq_decide.mpr ⟨zc,zc⟩
def TrC(fs:Fs)(an:List Str):Nat->Tr->Prop
|_,.say z=>z∈an
|0,.ask _ _ _ _ _ _=>False
|d+1,.ask k n v s y m=>(k,n,v)∈qs fs/\(s="yes"\/s="no")/\TrC fs an d y/\TrC fs an d m
theorem TrC.ok{an}:∀{d:Nat}{t:Tr},TrC fs an d t->aBr fs an t/\t.dep<=d
|0,.say z,h=>⟨h,cL _⟩
|d+1,.say z,h=>⟨h,cL _⟩
|0,.ask _ _ _ _ _ _,h=>h.elim
|d+1,.ask k n v s y m,⟨h1,h2,h3,h4⟩=>by
 obtain⟨a1,a2⟩:=h3.ok;obtain⟨b1,b2⟩:=h4.ok;refine⟨⟨F6 h1,h2,a1,b1⟩,?_⟩;show max y.dep m.dep+1<=d+1;omega
theorem zG{an}(wt:FA fs an fa):∀(d:Nat)(R:List Rw),jH fs an R->TrC fs an d (fD fs fa a b d R).2/\(fD fs fa a b d R).1=a*(lR fs (fD fs fa a b d R).2 R:Nat)+b*((fD fs fa a b d R).2.kn:Nat)
|0,R,hR=>by
 obtain⟨k,h1,_⟩:=wt R hR;refine⟨aN h1,?_⟩;show a*_=a*_+b*((0:Nat):Int);rw[show((0:Nat):Int)=0 from rfl,aMn,aMq];rfl
|d+1,R,hR=>by
 refine CC (P:=λt:Int×Tr=>TrC fs an (d+1) t.2/\t.1=a*(lR fs t.2 R:Nat)+b*(t.2.kn:Nat)) ?_ λc hc y hy=>?_
 ·obtain⟨k,h1,_⟩:=wt R hR;refine⟨aN h1,?_⟩;show a*_=a*_+b*((0:Nat):Int);rw[show((0:Nat):Int)=0 from rfl,aMn,aMq];rfl
 ·obtain⟨h1,h2⟩:=bN.mp hc;obtain⟨hq,hs⟩:=MR h1;unfold oM;split
  ·obtain⟨t1,c1⟩:=zG wt d (yR fs c R) (hR.filt _);obtain⟨t2,c2⟩:=zG wt d (nR fs c R) (hR.filt _);refine⟨⟨hq,hs,t1,t2⟩,?_⟩;have e:=BJ (fs:=fs) c.1.1 c.1.2.1 c.1.2.2 c.2 (fD fs fa a b d (yR fs c R)).2 (fD fs fa a b d (nR fs c R)).2 R;have ek:(Tr.ask c.1.1 c.1.2.1 c.1.2.2 c.2 (fD fs fa a b d (yR fs c R)).2 (fD fs fa a b d (nR fs c R)).2).kn=(fD fs fa a b d (yR fs c R)).2.kn+(fD fs fa a b d (nR fs c R)).2.kn+1:=rfl;show b+(fD fs fa a b d (yR fs c R)).1+(fD fs fa a b d (nR fs c R)).1=a*(lR fs (Tr.ask c.1.1 c.1.2.1 c.1.2.2 c.2 (fD fs fa a b d (yR fs c R)).2 (fD fs fa a b d (nR fs c R)).2) R:Nat)+b*((Tr.ask c.1.1 c.1.2.1 c.1.2.2 c.2 (fD fs fa a b d (yR fs c R)).2 (fD fs fa a b d (nR fs c R)).2).kn:Nat);rw[e,ek,c1,c2,vS,vS,vS,SJ,SJ,SJ];show b+(a*((lR fs (fD fs fa a b d (yR fs c R)).2 (yR fs c R):Nat):Int)+_)+(a*((lR fs (fD fs fa a b d (nR fs c R)).2 (nR fs c R):Nat):Int)+_)=a*((lR fs (fD fs fa a b d (yR fs c R)).2 (yR fs c R):Nat):Int)+a*((lR fs (fD fs fa a b d (nR fs c R)).2 (nR fs c R):Nat):Int)+(_+_+b*((1:Nat):Int));rw[show((1:Nat):Int)=1 from rfl,aM8];omega
  ·exact hy
end
noncomputable def eS(ns:List Nat):D:=.tuple (ns.map λ(i:Nat)=>aM (i:Int))
noncomputable def bF(rs:List Rw)(ns:List Nat):List Rw:=ns.filterMap λi=>rs[i]?
noncomputable def yO(fs:Fs)(rs:List Rw)(c:Ch)(i:Nat):Bool:=match rs[i]? with | some r=>onC fs c r | none=>false
noncomputable abbrev yN(fs:Fs)(rs:List Rw)(c:Ch)(ns:List Nat):List Nat:=ns.filter (yO fs rs c)
noncomputable abbrev nN(fs:Fs)(rs:List Rw)(c:Ch)(ns:List Nat):List Nat:=ns.filter λi=>!yO fs rs c i
abbrev lB(rs:List Rw)(ns:List Nat):Prop:=ns.Sublist (aZ rs.length)
def lB.lt{rs:List Rw}{ns}(h:lB rs ns){i:Nat}(hi:i∈ns):i<rs.length:=dF.mp (h.subset hi)
def lB.len{rs:List Rw}{ns:List Nat}(h:lB rs ns):ns.length<=rs.length:=by
 have:=h.length_le
 rwa [dN]at this
def lB.filt{rs}{ns:List Nat}(h:lB rs ns)(p:Nat->Bool):lB rs (ns.filter p):=kE.trans h
theorem F0{fs}{rs:List Rw}{c}:∀{ns},(∀i∈ns,i<rs.length)->bF rs (yN fs rs c ns)=yR fs c (bF rs ns)/\bF rs (nN fs rs c ns)=nR fs c (bF rs ns)
|[],_=>⟨rfl,rfl⟩
|i::ns,h=>by
 have hi:=h i (aS ..);obtain⟨e1,e2⟩:=F0 (fs:=fs) (rs:=rs) (c:=c) (ns:=ns) λj hj=>h j (aO _ hj);have er:rs[i]?=some rs[i]:=aG hi;have eo:yO fs rs c i=onC fs c rs[i]:=by unfold yO;rw[er]
 have eR:bF rs (i::ns)=rs[i]::bF rs ns:=by unfold bF;rw[fH,er]
 have Od:∀l:List Nat,bF rs (i::l)=rs[i]::bF rs l:=λl=>by unfold bF;rw[fH,er]
 unfold yN nN yR nR at *;rw[eR,cD,cD,cD,cD,eo]
 cases onC fs c rs[i]with
 |true=>exact⟨by rw[b9 rfl,b9 rfl,Od,e1],by rw[b8 (by decide),b8 (by decide),e2]⟩
 |false=>exact⟨by rw[b8 (by decide),b8 (by decide),e1],by rw[b9 (by decide),b9 (by decide),Od,e2]⟩
theorem BN{rs:List Rw}:∀{ns:List Nat},(∀i∈ns,i<rs.length)->(bF rs ns).length=ns.length
|[],_=>rfl
|i::ns,h=>by
 have er:rs[i]?=some (rs[i]'(h i (aS ..))):=aG _;have ih:=BN (rs:=rs) (ns:=ns) λj hj=>h j (aO _ hj);unfold bF at ih |-
 rw[fH,er,cH,ih];rfl
def T2{rs ns r}(h:r∈bF rs ns):r∈rs:=by
 obtain⟨i,_,e⟩:=mT.mp h;exact aN e
def Y4{fs an rs}(h:jH fs an rs)(ns:List Nat):jH fs an (bF rs ns):=λr hr=>h r (T2 hr)
def II(rs:List Rw):bF rs (aZ rs.length)=rs:=by
 unfold bF;apply gZ;intro i
 have:∀n,n<=rs.length->(aZ n).filterMap (λi=>rs[i]?)=rs.take n:=λn=>by
  induction n with
  |zero=>intro _;simp
  |succ n ih=>
   intro hn;rw[aBz,NI,ih (by omega),cV];congr 1
 rw[this rs.length (aL _),dE]
def xT:∀{xs ys},eS xs=eS ys->xs=ys:=λ{xs ys} h=>by
 have h:eM _=eM _:=h;injection h with h
 have:=i6 (wO λd:D=>match d with | .int i=>i.toNat | _=>0) h;simpa only[bH,qp,cW,List.map_id']using this
noncomputable def mW(p:Int×Tr):D:=.tuple [.int p.1,HU p.2]
noncomputable def L6(ns:List Nat)(d:Nat):D:=.tuple [eS ns,.int (d:Nat)]
noncomputable def chQ(c:Ch):D:=.tuple [qD c.1,.str c.2]
noncomputable def YV(fs:Fs)(rs:List Rw)(c:Ch):D:=.list (rs.map λr=>aY (lT fs c.1.1 c.1.2.1 c.1.2.2 c.2 r.1))
noncomputable def chD(fs:Fs)(rs:List Rw)(c:Ch):D:=.tuple [qD c.1,.str c.2,YV fs rs c]
noncomputable def eE:List Str:=["form","kept","slip","knot","choices"]
noncomputable def kI(C:Addr)(fs:Fs)(an:List Str)(rs:List Rw)(a b:Int):D:=MC C eE [gH fs an,.list (rs.map fC),.int a,.int b,.list ((lG fs).map (chD fs rs))]
noncomputable def LK(fs:Fs)(rs:List Rw)(ns:List Nat)(c:Ch):D:=.tuple [qD c.1,.str c.2,eS (yN fs rs c ns),eS (nN fs rs c ns)]
structure pM(fs:Fs)(an:List Str)(fa:List Rw->Str)(rs:List Rw)(a b:Int):Prop where
 F:lH fs an
 fa:FA fs an fa
 R:jH fs an rs
 l:rs.length<=60
 a0:0<=a
 a1:a<=1000000
 b0:0<=b
 b1:b<=1000000
def aNj:oK:=λds Q=>∃(fs:Fs)(an:List Str),ds=[gH fs an]/\lH fs an/\Q (.list ((lG fs).map chQ))
def aIb:oK:=λds Q=>∃(fs:Fs)(an:List Str)(c:Ch)(rs:List Rw),ds=[gH fs an,chQ c,.list (rs.map fC)]/\lH fs an/\c∈lG fs/\jH fs an rs/\rs.length<=60/\Q (YV fs rs c)
def aIc:oK:=λds Q=>∃xs ys:List Nat,ds=[.tuple [eS xs,eS ys],.int 1]/\Q (.bool (!xs.isEmpty&&!ys.isEmpty))
def aNs:SpI:=λds Q=>∃(fs:Fs)(an:List Str)(rs:List Rw)(a b:Int),ds=[gH fs an,.list (rs.map fC),.tuple [.int a,.int b]]/\lH fs an/\jH fs an rs/\rs.length<=60/\Q [gH fs an,.list (rs.map fC),.int a,.int b,.list ((lG fs).map (chD fs rs))]
def aNr(w:g7)(C:Addr):oK:=λds Q=>∃(fs:Fs)(an:List Str)(fa:List Rw->Str)(rs:List Rw)(a b:Int)(ns:List Nat),ds=[kI C fs an rs a b,eS ns]/\pM fs an fa rs a b/\lB rs ns/\Q (mW (nO fs fa a (bF rs ns)))
def aNq(w:g7)(C:Addr):oK:=λds Q=>∃(fs:Fs)(an:List Str)(fa:List Rw->Str)(rs:List Rw)(a b:Int)(ns:List Nat),ds=[kI C fs an rs a b,eS ns]/\pM fs an fa rs a b/\lB rs ns/\Q (.list (((lG fs).filter (dX fs (bF rs ns))).map (LK fs rs ns)))
def aH5(w:g7)(C:Addr):oK:=λds Q=>∃(fs:Fs)(an:List Str)(fa:List Rw->Str)(rs:List Rw)(a b:Int)(kvs:List (D×D))(ns:List Nat)(d:Nat),ds=[kI C fs an rs a b,mD w kvs,eS ns,.int (d:Nat)]/\pM fs an fa rs a b/\lB rs ns/\(∀kv∈kvs,iV kv.1)/\(d=0\/(L6 ns d,mW (fD fs fa a b d (bF rs ns)))∈kvs)/\Q (mW (fD fs fa a b d (bF rs ns)))
def InK(fs:Fs)(fa:List Rw->Str)(rs:List Rw)(a b:Int)(kvs:List (D×D))(d:Nat)(ns:List Nat):Prop:=d=0\/(L6 ns d,mW (fD fs fa a b d (bF rs ns)))∈kvs
def aH6(w:g7)(C:Addr):oK:=λds Q=>∃(fs:Fs)(an:List Str)(fa:List Rw->Str)(rs:List Rw)(a b:Int)(kvs:List (D×D))(ns:List Nat)(d:Nat),ds=[kI C fs an rs a b,mD w kvs,eS ns,.int ((d+1:Nat):Int)]/\pM fs an fa rs a b/\lB rs ns/\(∀kv∈kvs,iV kv.1)/\(∀c∈lG fs,dX fs (bF rs ns) c=true->InK fs fa rs a b kvs d (yN fs rs c ns)/\InK fs fa rs a b kvs d (nN fs rs c ns))/\Q (mW (fD fs fa a b (d+1) (bF rs ns)))
noncomputable def jM(x:List Nat×Nat):D:=L6 x.1 x.2
def Fed(fs:Fs)(rs:List Rw)(ks:List (List Nat×Nat)):Prop:=∀(i:Nat)(x:List Nat)(d:Nat),ks[i]?=some (x,d+2)->∀c∈lG fs,dX fs (bF rs x) c=true->(∃j,i<j/\ks[j]?=some (yN fs rs c x,d+1))/\∃j,i<j/\ks[j]?=some (nN fs rs c x,d+1)
def C4(fs:Fs)(rs:List Rw)(ns:List Nat)(dp:Nat)(ks:List (List Nat×Nat)):Prop:=ks.Nodup/\ks.length<=400/\(∀x∈ks,lB rs x.1/\1<=x.2/\x.2<=3/\x.1≠[])/\(0<dp->(ns,dp)∈ks)/\∀x d,(x,d+2)∈ks->∀c∈lG fs,dX fs (bF rs x) c=true->(yN fs rs c x,d+1)∈ks/\(nN fs rs c x,d+1)∈ks
noncomputable def aLy:D->D
|.tuple [.tuple k,.tuple (c::_)]=>.tuple (k++[c])
|_=>.none
noncomputable def GS(fs:Fs)(fa:List Rw->Str)(a b:Int)(rs:List Rw)(x:List Nat×Nat):D:=.tuple [eS x.1,.int (x.2:Nat),.int (fD fs fa a b x.2 (bF rs x.1)).1]
theorem ER{α:Type}[DecidableEq α]:∀{ls ms:List α},ls.Nodup->(∀x∈ls,x∈ms)->ls.length<=ms.length
|[],ms,_,_=>cL _
|a::l,ms,hn,h=>by
 have ha:=h a (aS ..)
 have:=ER (ls:=l) (ms:=ms.erase a) (jR.mp hn).2 λx hx=>by
  refine(P6 (λe:x=a=>(jR.mp hn).1 (e▸hx))).mpr (h x (aO _ hx))
 rw[HM ha]at this;have hp:=KO ha;rw[cH];omega
def tL(n:Nat):oK:=λds Q=>∃(fs:Fs)(an:List Str)(t:Tr)(d:Nat),ds=[gH fs an,HU t,.int (d:Nat)]/\lH fs an/\TrC fs an d t/\d<n/\d<=3/\Q (.bool true)
def aHo:oK:=tL 4
def VB{ds}{Q:D->Prop}(h:tL 0 ds Q):False:=by
 obtain⟨_,_,_,_,_,_,_,h,_⟩:=h;omega
def aHs:oK:=λds Q=>∃(fs:Fs)(an:List Str),ds=[gH fs an]/\lH fs an/\Q (.list ((qs fs).map qD))
def qT{w u DT}{σ:List Sl}{i:Nat}(hi:i<σ.length)(hn:∀(j:Nat)(hs:List Int)(kvs:List (D×D)),σ[j]?≠some (.dic hs kvs))(k:u DT (σ.set i (oA w []))):iY (TX i) u DT σ:=⟨hi,hn,k⟩
def uW{w}{tk tv:ET}{DT:uG}{σ:List Sl}{i:Nat}{kvs:List (D×D)}(k v:D)(h:σ[i]?=some (oA w kvs))(hv:∀q:D->Prop,q v->tv (σ.set i (.val (mD w kvs))) q)(hd:v.hasDict=false)(hk:∀q:D->Prop,q k->tk (σ.set i (.val (mD w kvs))) q)(h1:xH k)(h2:∀kv∈kvs,iV kv.1)(h3:kvs.length<=100000)(kk:DT.nx (σ.set i (oA w (sY kvs k v)))):LC w i tk tv DT σ:=⟨kvs,h,hv _ ⟨hd,hk _ ⟨h1,h2,h3,kk⟩⟩⟩
def QI{u w}{tk tv:ET}{DT}{σ:List Sl}{i:Nat}{kvs:List (D×D)}(k v:D)(h:σ[i]?=some (oA w kvs))(hv:∀q:D->Prop,q v->tv (σ.set i (.val (mD w kvs))) q)(hd:v.hasDict=false)(hk:∀q:D->Prop,q k->tk (σ.set i (.val (mD w kvs))) q)(h1:xH k)(h2:∀kv∈kvs,iV kv.1)(h3:kvs.length<=100000)(kk:u DT (σ.set i (oA w (sY kvs k v)))):iY (LC w i tk tv) u DT σ:=⟨kvs,h,hv _ ⟨hd,hk _ ⟨h1,h2,h3,kk⟩⟩⟩
theorem A5:∀ns:List Nat,hkAll (ns.map λ(i:Nat)=>aM (i:Int))=true/\cA (ns.map λ(i:Nat)=>aM (i:Int))=0
|[]=>⟨rfl,rfl⟩
|n::ns=>by
 have:=A5 ns;refine⟨?_,?_⟩
 ·show(true&&hkAll (ns.map λ(i:Nat)=>aM (i:Int)))=true;rw[this.1];rfl
 ·show max 0 (cA (ns.map λ(i:Nat)=>aM (i:Int)))=0;rw[this.2];rfl
def GF(ns:List Nat):xH (eS ns):=by
 obtain⟨h1,h2⟩:=A5 ns;refine⟨⟨h1,?_⟩,_,rfl⟩;show cA _+1<=8;rw[h2];decide
def mI(ns:List Nat)(d:Nat):xH (L6 ns d):=by
 obtain⟨h1,h2⟩:=A5 ns;refine⟨⟨?_,?_⟩,_,rfl⟩
 ·show(hkAll (ns.map λ(i:Nat)=>aM (i:Int))&&true)=true;rw[h1];rfl
 ·show max (cA _+1) (max 0 0)+1<=8;rw[h2];decide
def OX{xs ys}{d e:Nat}(h:L6 xs d=L6 ys e):xs=ys/\d=e:=by
 have h:eM _=eM _:=h;injection h with h
 injection h with h1 h
 injection h with h2 _
 injection h2 with h2
 exact⟨xT h1,jD.inj h2⟩
theorem S0:∀t:Tr,(HU t).hasDict=false
|.say _=>rfl
|.ask k n v s y m=>by
 show(eN (.str "ask")||(eN (.tuple [.str k,.str n,.str v])||(eN (.str s)||(eN (HU y)||(eN (HU m)||false)))))=false;rw[S0 y,S0 m];rfl
def aDw(p:Int×Tr):(mW p).hasDict=false:=by
 show(false||(eN (HU p.2)||false))=false;rw[S0];rfl
def EV(d1 d2 d3 d4 d5:D):(eE.zip [d1,d2,d3,d4,d5]).lookup ("form":Str)=some d1/\(eE.zip [d1,d2,d3,d4,d5]).lookup ("kept":Str)=some d2/\(eE.zip [d1,d2,d3,d4,d5]).lookup ("slip":Str)=some d3/\(eE.zip [d1,d2,d3,d4,d5]).lookup ("knot":Str)=some d4/\(eE.zip [d1,d2,d3,d4,d5]).lookup ("choices":Str)=some d5:=by
 have n1:(("kept":Str)=="form")=false:=by decide +kernel
 have n2:(("slip":Str)=="form")=false:=by decide +kernel
 have n3:(("slip":Str)=="kept")=false:=by decide +kernel
 have n4:(("knot":Str)=="form")=false:=by decide +kernel
 have n5:(("knot":Str)=="kept")=false:=by decide +kernel
 have n6:(("knot":Str)=="slip")=false:=by decide +kernel
 have n7:(("choices":Str)=="form")=false:=by decide +kernel
 have n8:(("choices":Str)=="kept")=false:=by decide +kernel
 have n9:(("choices":Str)=="slip")=false:=by decide +kernel
 have n0:(("choices":Str)=="knot")=false:=by decide +kernel
 unfold eE;simp only[List.zip_cons_cons,iK,ue,n1,n2,n3,n4,n5,n6,n7,n8,n9,n0,and_self]
theorem N0{rs:List Rw}:∀{ns:List Nat},(∀i∈ns,i<rs.length)->(ns.map λ(i:Nat)=>aM (i:Int)).map (T3 rs)=(bF rs ns).map fC
|[],_=>rfl
|i::ns,h=>by
 have hi:=h i (aS ..);have ih:=N0 (rs:=rs) (ns:=ns) λj hj=>h j (aO _ hj);have er:rs[i]?=some rs[i]:=aG hi;have eR:bF rs (i::ns)=rs[i]::bF rs ns:=by unfold bF;rw[fH,er]
 rw[bD,bD,ih,eR,bD];congr 1;show(match L2.atI rs (i:Int)with | some r=>fC r | none=>vO)=_;rw[L2.gU er]
theorem TM{fs an}{rs:List Rw}{c:Ch}(F:lH fs an)(hc:c∈lG fs)(hR:jH fs an rs):∀{ns:List Nat},(∀i∈ns,i<rs.length) ->
 (ns.map λ(i:Nat)=>aM (i:Int)).filter (yV fs c.1.1 c.1.2.1 c.1.2.2 c.2 rs "yes")=(yN fs rs c ns).map (λ(i:Nat)=>aM (i:Int)) /\
 (ns.map λ(i:Nat)=>aM (i:Int)).filter (yV fs c.1.1 c.1.2.1 c.1.2.2 c.2 rs "no")=(nN fs rs c ns).map (λ(i:Nat)=>aM (i:Int))
|[],_=>⟨rfl,rfl⟩
|i::ns,h=>by
 have hi:=h i (aS ..);obtain⟨e1,e2⟩:=TM F hc hR (ns:=ns) λj hj=>h j (aO _ hj);have er:rs[i]?=some rs[i]:=aG hi;have eo:yO fs rs c i=onC fs c rs[i]:=by unfold yO;rw[er]
 obtain⟨hq,hs⟩:=MR hc;have Vn:=YU F (F6 hq) hs (hR _ (gQ hi)).1
 have o1:∀w,yV fs c.1.1 c.1.2.1 c.1.2.2 c.2 rs w (.int (i:Int))=decide (lT fs c.1.1 c.1.2.1 c.1.2.2 c.2 rs[i].1=w):=λw=>by
  show(match L2.atI rs (i:Int)with | some r=>decide (lT fs c.1.1 c.1.2.1 c.1.2.2 c.2 r.1=w) | none=>false)=_;rw[L2.gU er]
 have oc:onC fs c rs[i]=decide (lT fs c.1.1 c.1.2.1 c.1.2.2 c.2 rs[i].1="yes"):=rfl;unfold yN nN at *;rw[bD,cD,cD,cD,cD,eo,oc,o1,o1,e1,e2];rcases Vn with e | e
 ·rw[e];have d1:decide (("yes":Str)="yes")=true:=by decide +kernel
  have d2:decide (("yes":Str)="no")=false:=by decide +kernel
  rw[d1,d2];exact⟨rfl,rfl⟩
 ·rw[e];have d1:decide (("no":Str)="yes")=false:=by decide +kernel
  have d2:decide (("no":Str)="no")=true:=by decide +kernel
  rw[d1,d2];exact⟨rfl,rfl⟩
def tQ{fs}{rs:List Rw}{c ns}(h:∀i∈ns,i<rs.length):dX fs (bF rs ns) c=(!(yN fs rs c ns).isEmpty&&!(nN fs rs c ns).isEmpty):=by
 obtain⟨e1,e2⟩:=F0 (fs:=fs) (rs:=rs) (c:=c) h
 have em:∀l:List Nat,(∀i∈l,i<rs.length)->(bF rs l).isEmpty=l.isEmpty:=λl hl=>by
  have:=BN hl;rw[iB,AU,AU,this]
 unfold dX;rw[<- e1,<- e2,em _ λi hi=>h i (bN.mp hi).1,em _ λi hi=>h i (bN.mp hi).1]
def Z1{an R z}(hf:C7 an R z){m:Int}(hm:m∈tD an R)(hx:∀n∈tD an R,n<=m):m=(CL R z:Int):=by
 obtain⟨k,h1,h2,_⟩:=hf;have g1:=hx _ (aQ.mpr ⟨z,aN h1,rfl⟩);obtain⟨y,hy,rfl⟩:=aQ.mp hm;obtain⟨j,hj⟩:=bK hy;have g2:=h2 j y hj;omega
noncomputable def AK{α:Type}[DecidableEq α](ls:List α)(x:α):List α:=if x∈ls then ls else ls++[x]
def nE{α:Type}[DecidableEq α]{ls:List α}{x y:α}:y∈AK ls x↔y∈ls\/y=x:=by
 unfold AK;split
 ·rename_i h;exact⟨.inl,λz=>z.elim id λe=>by rw[e];exact h⟩
 ·rw[dH,bR]
def V8{α:Type}[DecidableEq α]{ls:List α}{x}(h:ls.Nodup):(AK ls x).Nodup:=by
 unfold AK;split
 ·exact h
 ·rename_i hx;rw[jT];exact⟨h,by simp,λa ha b hb=>by rw[bR.mp hb];exactλe=>hx (e▸ha)⟩
def O1{α:Type}[DecidableEq α](ls:List α)(x:α):(AK ls x).length<=ls.length+1:=by
 unfold AK;split
 ·omega
 ·rw[bC];exact aL _
noncomputable def mX{α:Type}(kf:α->D)(ls:List α):List (D×D):=ls.map λy=>(kf y,.bool true)
def xI{α:Type}(kf:α->D)(ls:List α):(mX kf ls).map (·.1)=ls.map kf:=by
 unfold mX;rw[bH];rfl
def xP{α:Type}[DecidableEq α]{kf:α->D}(inj:∀x y,kf x=kf y->x=y)(ls:List α)(x:α):sY (mX kf ls) (kf x) (.bool true)=mX kf (AK ls x):=by
 have hm:kf x∈(mX kf ls).map (·.1)↔x∈ls:=by
  rw[xI,aQ];exact⟨λ⟨y,hy,e⟩=>inj y x e▸hy,λh=>⟨x,h,rfl⟩⟩
 unfold sY AK;by_cases h:x∈ls
 ·rw[b9 (hm.mpr h),b9 h];unfold mX;rw[bH];apply iW;intro y _;show(if kf y=kf x then(kf y,mR true)else(kf y,mR true))=_;split<;>rfl
 ·rw[b8 (λz=>h (hm.mp z)),b8 h];unfold mX;rw[bV];rfl
def K3{α:Type}{kf:α->D}(hk:∀x,iV (kf x))(ls:List α):∀kv∈mX kf ls,iV kv.1:=λkv h=>by
 obtain⟨y,_,rfl⟩:=aQ.mp h;exact hk y
def tW(x y:List Nat×Nat)(h:jM x=jM y):x=y:=ud (OX h).1 (OX h).2
def GK{α:Type}[DecidableEq α]{ls:List α}{x:α}(h:x∉ls):AK ls x=ls++[x]:=b8 h
def N9{kvs:List (D×D)}{k v}(h:k∉kvs.map (·.1)):sY kvs k v=kvs++[(k,v)]:=b8 h
structure CZ(fs:Fs)(rs:List Rw)(ns:List Nat)(dp k:Nat)(ks:List (List Nat×Nat))(lv:List (List Nat)):Prop where
 nd:ks.Nodup
 nl:lv.Nodup
 lo:∀x∈lv,lB rs x
 ko:∀x∈ks,lB rs x.1/\dp<x.2+k/\x.2<=dp/\1<=x.2
 z0:k=0->lv=[ns]/\ks=[]
 z1:0<k->(ns,dp)∈ks
 fed:∀(i:Nat)(x:List Nat)(d:Nat),ks[i]?=some (x,d+2)->∀c∈lG fs,dX fs (bF rs x) c=true->((∃j,i<j/\ks[j]?=some (yN fs rs c x,d+1))\/(d+1+k=dp/\yN fs rs c x∈lv))/\((∃j,i<j/\ks[j]?=some (nN fs rs c x,d+1))\/(d+1+k=dp/\nN fs rs c x∈lv))
def CZ.step{fs rs ns}{dp k:Nat}{ks}{lv gn:List (List Nat)}(m:CZ fs rs ns dp k ks lv)(hk:k<dp)(nl:gn.Nodup)(lo:∀x∈gn,lB rs x)
  (hs:k+1<dp->∀x∈lv,∀c∈lG fs,dX fs (bF rs x) c=true->yN fs rs c x∈gn/\nN fs rs c x∈gn):CZ fs rs ns dp (k+1) (ks++lv.map λx=>(x,dp-k)) gn:=by
 have Re:∀s,s∈lv->∀i,i<ks.length->∃j,i<j/\(ks++lv.map λx=>(x,dp-k))[j]?=some (s,dp-k):=λs hs i hi=>by
  obtain⟨j,hj⟩:=bK hs;refine⟨ks.length+j,by omega,?_⟩;rw[cN (by omega),aH,show ks.length+j-ks.length=j by omega,hj];rfl
 refine⟨?_,nl,lo,λx hx=>?_,λz=>d8 z (Nat.succ_ne_zero _),λ_=>?_,λi x d hi c hc hp=>?_⟩
 ·rw[jT];refine⟨m.nd,?_,λa ha b hb=>?_⟩
  ·exact jB.map _ (λa b (h:a≠b) e=>h (i6 Prod.fst e)) m.nl
  ·obtain⟨y,_,rfl⟩:=aQ.mp hb;rintro rfl;have:=(m.ko _ ha).2.1;dsimp only at this;omega
 ·rcases dH.mp hx with hx | hx
  ·obtain⟨h1,h2,h3,h4⟩:=m.ko x hx;exact⟨h1,by omega,h3,h4⟩
  ·obtain⟨y,hy,rfl⟩:=aQ.mp hx;exact⟨m.lo y hy,by dsimp only;omega,by dsimp only;omega,by dsimp only;omega⟩
 ·by_cases h0:k=0
  ·obtain⟨e1,e2⟩:=m.z0 h0;rw[e1,e2,h0];exact bR.mpr rfl
  ·exact gM _ (m.z1 (by omega))
 ·by_cases hl:i<ks.length
  ·rw[cQ hl]at hi;obtain⟨f1,f2⟩:=m.fed i x d hi c hc hp
   have go:∀s,((∃j,i<j/\ks[j]?=some (s,d+1))\/(d+1+k=dp/\s∈lv))->(∃j,i<j/\(ks++lv.map λx=>(x,dp-k))[j]?=some (s,d+1))\/(d+1+(k+1)=dp/\s∈gn):=λs h=>by
    rcases h with⟨j,h1,h2⟩ | ⟨h1,h2⟩
    ·exact .inl ⟨j,h1,by rw[cQ (aD.mp h2).1];exact h2⟩
    ·obtain⟨j,g1,g2⟩:=Re s h2 i hl;exact .inl ⟨j,g1,by rw[g2];congr 2;omega⟩
   exact⟨go _ f1,go _ f2⟩
  ·rw[cN (by omega),aH]at hi;obtain⟨y,hy,e⟩:=bL.mp hi;injection e with e1 e2
   subst e1;obtain⟨g1,g2⟩:=hs (by omega) y (aN hy) c hc hp;exact⟨.inr ⟨by omega,g1⟩,.inr ⟨by omega,g2⟩⟩
def CZ.fin{fs rs ns}{dp:Nat}{ks lv}(m:CZ fs rs ns dp dp ks lv):Fed fs rs ks:=λi x d hi c hc hp=>by
 obtain⟨f1,f2⟩:=m.fed i x d hi c hc hp;exact⟨f1.elim id λh=>d8 h.1 (by omega),f2.elim id λh=>d8 h.1 (by omega)⟩
def AY:("leaf_of":Str)∉eE:=by decide +kernel
def FX:("partings":Str)∉eE:=by decide +kernel
def _root_.L2.Room.u9{k:Nat}{A:i5}(r:Room k A):A.units+9<m4:=by have:=r.un;omega
def B0{te:ET}{DT:uG}{σ:List Sl}{i:Nat}(R:D->Prop)(h:∀q:D->Prop,(∀v,R v->q v)->te σ q)(k:∀v,R v->DT.nx (σ.set i (.val v))):AE i te DT σ:=h _ k
noncomputable def VH(f:Str×List Str)(x:D):D:=match x with | .int i=>(match L2.atI (f.2.map aY) i with | some d=>eM [.str "upto",.str f.1,d] | none=>.none) | _=>.none
def VG{f:Str×List Str}(h:2<=f.2.length):(TL.mC 1 (((f.2.map aY).length:Int)-2-1).toNat).map (VH f)=(yT f).map (ZZ "upto" f):=by
 have hn:(((f.2.map aY).length:Int)-2-1).toNat=f.2.length-3:=by rw[aB];omega
 rw[hn];unfold TL.mC yT;apply gZ;intro m;rw[aH,aH,aH];by_cases hm:m<f.2.length-3
 ·rw[iX hm,fN,b9 hm,jE,aG (show 1+m<f.2.length by omega)];have e:(1:Int)+(m:Int)=((1+m:Nat):Int):=by omega
  unfold VH;show some (match L2.atI (f.2.map aY) ((1:Int)+(m:Int))with | some d=>eM [.str "upto",.str f.1,d] | none=>.none)=some (ZZ "upto" f (f.2[1+m]'(by omega)));rw[e,yF (by omega)];rfl
 ·rw[gB (by rw[dN];omega),gB (by rw[bA,fF];omega)];rfl
def aK3{fs an}(F:lH fs an){q}(h:q∈qs fs):yW (qD q) (.list ((qs fs).map qD))/\DD (qD q) (.list ((qs fs).map qD))=true:=by
 have hm:qD q∈eZ fs:=by rw[<- rQ];exact aQ.mpr ⟨q,h,rfl⟩
 have t:=EA F _ hm;obtain⟨_,_,_,_,b5,b6⟩:=tF (EA F);rw[rQ];refine⟨⟨b6,t.lay,by omega⟩,?_⟩;show((eZ fs).any λz=>cO z (qD q))=true;rw[oG];exact⟨qD q,hm,ba _ t.lay⟩
def aB1:∀y∈(["yes","no"]:List Str),AG y=true:=by decide +kernel
def aDf{z}(h:AG z=true):Cd (.str z):=(nW h (n:=8) (m:=0) (aL _)).cd (by decide)
def V9{s:Str}(h:s="yes"\/s="no"):yW (.str s) (.tuple [.str "yes",.str "no"])/\DD (.str s) (.tuple [.str "yes",.str "no"])=true:=by
 have hm:s∈(["yes","no"]:List Str):=by rcases h with rfl | rfl<;>decide +kernel
 refine⟨GD aB1 (aDf (aB1 s hm)),?_⟩;show(((["yes","no"]:List Str).map aY).any λy=>cO y (.str s))=true;rw[CV];exact d7 hm
def TN{te:ET}{u DT}{σ:List Sl}{i j l:Nat}{a b c}(h:∀q:D->Prop,q (.tuple [a,b,c])->te σ q)(k:u DT (((σ.set i (.val a)).set j (.val b)).set l (.val c))):iY (TV te (gP3 i j l)) u DT σ:=h _ ⟨a,b,c,rfl,k⟩
abbrev Rg:=Rw×List D
noncomputable def rM(r:Rg):D:=.tuple (.tuple r.1.1::.str r.1.2::r.2)
noncomputable def KJ(fs:Fs)(k n v st:Str)(r:Rg):Bool:=HJ fs k n v st r.1
noncomputable def plain(r:Rw):Rg:=(r,[])
def QQ(rs:List Rw):(rs.map plain).map rM=rs.map fC:=by rw[bH];rfl
def QR(rs:List Rw):(rs.map plain).map (·.1)=rs:=by rw[bH];exact jA _
def BX(rs:List Rw)(p:Rg->Bool)(q:Rw->Bool)(h:∀r,p (plain r)=q r):((rs.map plain).filter p).map rM=(rs.filter q).map fC:=by
 rw[DJ,bH];have:(p∘plain)=q:=funext h;rw[this];rfl
def aB8:oK:=λds Q=>∃(fs:Fs)(an:List Str)(k n v st:Str)(rs:List Rg),ds=[gH fs an,.tuple [.str k,.str n,.str v],.str st,.list (rs.map rM)]/\lH fs an/\isQ fs (.tuple [.str k,.str n,.str v])=true/\(st="yes"\/st="no")/\jH fs an (rs.map (·.1))/\rs.length<=60/\Q (.tuple [.list ((rs.filter (KJ fs k n v st)).map rM),.list ((rs.filter λr=>!KJ fs k n v st r).map rM)])
def IR(fs:Fs)(an:List Str)(k n v st:Str)(rs:List Rw){Q:D->Prop}(F:lH fs an)(hq:isQ fs (.tuple [.str k,.str n,.str v])=true)(hs:st="yes"\/st="no")(lx:jH fs an rs)(hl:rs.length<=60)(h:Q (.tuple [.list ((rs.filter (HJ fs k n v st)).map fC),.list ((rs.filter λr=>!HJ fs k n v st r).map fC)])) :
  aB8 [gH fs an,.tuple [.str k,.str n,.str v],.str st,.list (rs.map fC)] Q:=by
 refine⟨fs,an,k,n,v,st,rs.map plain,by rw[QQ],F,hq,hs,by rw[QR];exact lx,by rw[aB];exact hl,?_⟩;rw[BX rs _ (HJ fs k n v st) λ_=>rfl,BX rs _ (λr=>!HJ fs k n v st r) λ_=>rfl];exact h
noncomputable def oO(x:List Int×Int×Int):D:=.tuple [.tuple (x.1.map aM),.int x.2.1,.int x.2.2]
noncomputable def KV(fs:Fs)(fa:List Rw->Str)(a b:Int)(rs:List Rw)(ks:List (List Nat×Nat)):List (D×D):=ks.map λx=>(jM x,aM (fD fs fa a b x.2 (bF rs x.1)).1)
theorem JH:∀ns:List Nat,dD (ns.map λ(i:Nat)=>aM (i:Int))=true
|[]=>rfl
|i::ns=>by
 show(PyData.canLay0 (.int (i:Int))&&dD (ns.map λ(i:Nat)=>aM (i:Int)))=true;rw[JH ns];rfl
theorem JI:∀{l},(∀x∈l,x.canLay0=true)->dD l=true
|[],_=>rfl
|a::l,h=>by
 show(a.canLay0&&dD l)=true;rw[h a (aS ..),JI λx hx=>h x (aO _ hx)];rfl
def YX{c:yP}{t u:rE}{DT σ}(R:Bool->Prop)(J:List Sl->Prop)(h:∀q:Bool->Prop,(∀b,R b->q b)->c σ q)(k1:∀nx:List Sl->Prop,(∀g6,J g6->nx g6)->R true->t { DT with nx:=nx } σ)(k0:R false->J σ)(k:∀g6,J g6->u DT g6):iY (sIf c t lZ) u DT σ:=
 gK R h (λhT=>k1 _ k hT) λhF=>k σ (k0 hF)
def aGe{c:TC}{t u:DE}{τ DC}{n:Nat}{σ}(J:Nat->List Sl->Prop)(R:Nat->Prop)(h:∀q:Nat->Bool->Prop,(∀m b,R m->q m b)->c τ n σ q)(k1:∀nx:Nat->List Sl->Prop,(∀m g6,J m g6->nx m g6)->∀m,R m->t τ { DC with nx:=nx } m σ)(k0:∀m,R m->J m σ)(k:∀m g6,J m g6->u τ DC m g6):pL (cIf c t CQ) u τ DC n σ:=
 aGd (λm _=>R m) (λq hq=>h q λm b hm=>hq m b hm) (λm hm=>k1 _ k m hm) λm hm=>k m σ (k0 m hm)
abbrev En:=List Int×Int×Int
def KC(m:Nat)(ns:List Int):Prop:=ns.Pairwise (·<·)/\∀n∈ns,0<=n/\n<(m:Int)
def M9(m:Nat)(x:En):Prop:=x.1≠[]/\KC m x.1/\1<=x.2.1/\x.2.1<=3/\0<=x.2.2
noncomputable def DS(x:En):List Int×Int:=(x.1,x.2.1)
noncomputable def VX(x:En):D:=.tuple [.tuple (x.1.map aM),.int x.2.1]
def XM(m:Nat)(xs:List En):Prop:=(∀x∈xs,M9 m x)/\(xs.map DS).Nodup
def aNn:oK:=λds Q=>∃(xs:List D)(lo hi:Int),ds=[.tuple xs,.int lo,.int hi]/\Q (.bool (decide (lo<=(xs.length:Int))&&decide ((xs.length:Int)<=hi)))
def aNm:oK:=λds Q=>∃i:Int,ds=[.int i]/\Q (.bool true)
def aH1:oK:=λds Q=>∃(m:Nat)(ns:List Int),ds=[.tuple (ns.map aM),.int (m:Nat)]/\ns.length<=60/\m<=60/\∀z:Bool,(z=true↔KC m ns)->Q (.bool z)
def aH2:oK:=λds Q=>∃(m:Nat)(x:En),ds=[.int (m:Nat),oO x]/\x.1.length<=60/\m<=60/\∀z:Bool,(z=true↔M9 m x)->Q (.bool z)
def aH3:oK:=λds Q=>∃(m:Nat)(xs:List En),ds=[.int (m:Nat),.list (xs.map oO)]/\(∀x∈xs,x.1.length<=60)/\xs.length<300/\m<=60/\∀z:Bool,(z=true↔XM m xs)->Q (.bool z)
def aGn{l m:List Int}(hl:l.Pairwise (·<·))(hm:m.Pairwise (·<·))(h:∀z,z∈l↔z∈m):l=m:=
 BD.eq_of_pairwise (le:=(·<·)) (λa b _ _ h1 h2=>by omega) hl hm ((lU (hl.imp λh=>NJ h) (hm.imp λh=>NJ h)).mpr h)
noncomputable def DO(m:Nat):List Int:=(aZ m).map λ(k:Nat)=>(k:Int)
def N1(m:Nat):(DO m).Pairwise (·<·):=eP.mpr (gY.imp λh=>aMm.mpr h)
def F1{m:Nat}{n:Int}:n∈DO m↔0<=n/\n<(m:Int):=by
 unfold DO;rw[aQ];constructor
 ·rintro⟨k,hk,rfl⟩;have:=dF.mp hk;omega
 ·rintro⟨h1,h2⟩;exact⟨n.toNat,dF.mpr (by omega),by omega⟩
def Y6(m:Nat)(ns:List Int):ns=(DO m).filter (λi=>decide (i∈ns))↔KC m ns:=by
 constructor
 ·intro h;have h1:(ns.Pairwise (·<·)):=by rw[h];exact(N1 m).sublist kE
  refine⟨h1,λn hn=>?_⟩;rw[h]at hn;exact F1.mp (bN.mp hn).1
 ·rintro⟨h1,h2⟩;refine aGn h1 ((N1 m).sublist kE) λz=>?_;rw[bN,i4];exact⟨λh=>⟨F1.mpr (h2 z h),h⟩,λh=>h.2⟩
theorem GJ:∀{l m:List Int},l.map aM=m.map aM->l=m
|[],[],_=>rfl
|[],_::_,h=>by cases h
|_::_,[],h=>by cases h
|a::l,b::m,h=>by
 rw[bD,bD]at h;injection h with h1 h2
 injection h1 with h1
 rw[h1,GJ h2]
theorem xZ:∀ns:List Int,hkAll (ns.map aM)=true/\cA (ns.map aM)=0
|[]=>⟨rfl,rfl⟩
|i::ns=>by
 obtain⟨h1,h2⟩:=xZ ns;constructor
 ·show(hk (.int i)&&hkAll (ns.map aM))=true;rw[h1];rfl
 ·show max (aDr (.int i)) (cA (ns.map aM))=0;rw[h2];rfl
def WU(l m:List Int):(cO (.list (l.map aM)) (.list (m.map aM))=true)↔l=m:=by
 constructor
 ·intro h;have h':qR (l.map aM) (m.map aM)=true:=by simpa[cO]using h
  exact GJ (hk_eqvAll (xZ l).1 (xZ m).1 h')
 ·rintro rfl;exact ba _ (qX l).1
def aAl(i:Int)(ns:List Int):DD (.int i) (.tuple (ns.map aM))=decide (i∈ns):=by
 rw[iB,i4];show(ns.map aM).any (λt=>cO t (.int i))=true↔_;rw[oG];constructor
 ·rintro⟨x,hx,e⟩;obtain⟨j,hj,rfl⟩:=aQ.mp hx;have:decide (j=i)=true:=by simpa[cO]using e
  rw[<- e7 this];exact hj
 ·intro h;exact⟨_,aQ.mpr ⟨i,h,rfl⟩,by simp[cO]⟩
def Y5{m:Nat}{ns:List Int}(h:KC m ns):ns.length<=m:=by
 have:ns.length<=(DO m).length:=L2.uY (h.1.imp λh=>NJ h) λx hx=>F1.mpr (h.2 x hx);unfold DO at this
 rwa [aB,dN]at this
theorem J6{R:En->Prop}{f:En->D}:∀{xs:List En}{ys:List D},ys.length=(xs.map f).length->(∀(k:Nat)(d y:D),(xs.map f)[k]?=some d->ys[k]?=some y->∃(x:En)(z:Bool),xs[k]?=some x/\y=.bool z/\(z=true↔R x))->∃bs:List Bool,ys=bs.map mR/\(bs.all id=true↔∀x∈xs,R x)
|[],[],_,_=>⟨[],rfl,by simp⟩
|[],_::_,h,_=>by simp at h
|_::_,[],h,_=>by simp at h
|x::xs,y::ys,h,hh=>by
 obtain⟨bs,rfl,hb⟩:=J6 (f:=f) (xs:=xs) (ys:=ys) (by simpa using h) λk d y' h1 h2=>hh (k+1) d y' h1 h2;obtain⟨x',z,hx,rfl,hz⟩:=hh 0 (f x) y rfl rfl;cases hx;refine⟨z::bs,rfl,?_⟩;rw[aG3,bU,hb,P7];exact and_congr hz Iff.rfl
def aFk(x:En):xH (VX x):=by
 obtain⟨h1,h2⟩:=xZ x.1;refine⟨⟨?_,?_⟩,_,rfl⟩
 ·show(hkAll (x.1.map aM)&&(hk (.int x.2.1)&&true))=true;rw[h1];rfl
 ·show max (cA (x.1.map aM)+1) (max (aDr (.int x.2.1)) 0)+1<=8;rw[h2];show max (0+1) (max 0 0)+1<=8;decide
def aFl{x y}(h:VX x=VX y):DS x=DS y:=by
 unfold VX at h;injection h with h
 injection h with h1 h
 injection h with h2 _
 injection h1 with h1
 injection h2 with h2
 unfold DS;rw[GJ h1,h2]
def VW(xs:List En):(xs.map VX).Nodup↔(xs.map DS).Nodup:=by
 unfold FU;rw[eP,eP]
 have e:∀x y:En,VX x≠VX y↔DS x≠DS y:=λx y=>⟨λh z=>h (by
  unfold DS at z;injection z with z1 z2
  unfold VX;rw[z1,z2]),λh z=>h (aFl z)⟩
 constructor
 ·exactλh=>h.imp λz=>(e _ _).mp z
 ·exactλh=>h.imp λz=>(e _ _).mpr z
noncomputable def aLv:D->D
|.tuple (a::b::_)=>.tuple [a,b]
|d=>d
abbrev Tb:=List ((List Nat×Nat)×Int)
noncomputable def DQ(t:Tb):List (D×D):=t.map λe=>(jM e.1,aM e.2)
section
variable(fs:Fs)(fa:List Rw->Str)(a b:Int)(rs:List Rw)
def zV(t:Tb)(ms:List Nat)(d:Nat)(c:Int):Prop:=(d=0/\c=(nO fs fa a (bF rs ms)).1)\/(0<d/\((ms,d),c)∈t)
def PP(t:Tb)(ms:List Nat)(d:Nat)(v:D):Prop:=(∃c,zV fs fa a rs t ms d c/\v=.int c)\/(0<d/\(ms,d)∉t.map (·.1)/\v=.none)
def KE(t:Tb)(ns:List Nat)(d:Nat)(c:Int)(ch:Ch):Prop:=∃cy cn,zV fs fa a rs t (yN fs rs ch ns) d cy/\zV fs fa a rs t (nN fs rs ch ns) d cn/\c<=b+(cy+cn)
def PZ(t:Tb)(ns:List Nat)(d:Nat)(c:Int):Prop:=c<=(nO fs fa a (bF rs ns)).1/\∀ch∈(lG fs).filter (dX fs (bF rs ns)),KE fs fa a b rs t ns d c ch
end
structure aGr(rs:List Rw)(t:Tb):Prop where
 nd:(t.map (·.1)).Nodup
 ok:∀e∈t,lB rs e.1.1/\1<=e.1.2/\e.1.2<=3/\0<=e.2/\e.2<2^40
 l:t.length<300
def GE(t:Tb):∀kv∈DQ t,iV kv.1:=λkv h=>by
 obtain⟨e,_,rfl⟩:=aQ.mp h;exact(mI e.1.1 e.1.2).1
def JJ(t:Tb):(DQ t).map (·.1)=t.map λe=>jM e.1:=by unfold DQ;rw[bH];rfl
def OV{t x v}:(jM x,v)∈DQ t↔∃c,(x,c)∈t/\v=.int c:=by
 constructor
 ·intro h;obtain⟨e,he,ee⟩:=aQ.mp h;injection ee with e1 e2
  have:=tW _ _ e1;obtain⟨x',c⟩:=e;dsimp only at this e2;subst this;exact⟨c,he,e2.symm⟩
 ·rintro⟨c,h,rfl⟩;exact aQ.mpr ⟨_,h,rfl⟩
def OU{t:Tb}{x}:jM x∉(DQ t).map (·.1)↔x∉t.map (·.1):=by
 rw[JJ];constructor
 ·intro h z;obtain⟨e,he,rfl⟩:=aQ.mp z;exact h (aQ.mpr ⟨e,he,rfl⟩)
 ·intro h z;obtain⟨e,he,ee⟩:=aQ.mp z;exact h (aQ.mpr ⟨e,he,tW _ _ ee⟩)
def aD4{t:Tb}(h:(t.map (·.1)).Nodup){x}{c c':Int}(h1:(x,c)∈t)(h2:(x,c')∈t):c=c':=by
 obtain⟨i,hi⟩:=bK h1;obtain⟨j,hj⟩:=bK h2;have e:i=j:=qW h (c:=x) (by rw[aH,hi];rfl) (by rw[aH,hj];rfl);rw[e,hj]at hi;cases hi;rfl
def aHz(w:g7)(C:Addr):oK:=λds Q=>∃(fs:Fs)(an:List Str)(fa:List Rw->Str)(rs:List Rw)(a b:Int)(t:Tb)(ns:List Nat)(d:Nat),ds=[kI C fs an rs a b,mD w (DQ t),eS ns,.int (d:Nat)]/\pM fs an fa rs a b/\lB rs ns/\∀v,PP fs fa a rs t ns d v->Q v
def aH0(w:g7)(C:Addr):oK:=λds Q=>∃(fs:Fs)(an:List Str)(fa:List Rw->Str)(rs:List Rw)(a b:Int)(t:Tb)(ns:List Nat)(d:Nat)(c:Int),ds=[kI C fs an rs a b,mD w (DQ t),eS ns,.int ((d+1:Nat):Int)]/\pM fs an fa rs a b/\lB rs ns/\aGr rs t/\((ns,d+1),c)∈t/\∀z:Bool,(z=true↔PZ fs fa a b rs t ns d c)->Q (.bool z)
def IF{fs}{fa:List Rw->Str}{a:Int}{rs}{t:Tb}(h:(t.map (·.1)).Nodup){ms}{d:Nat}{c c':Int}(h1:zV fs fa a rs t ms d c)(h2:zV fs fa a rs t ms d c'):c=c':=by
 rcases h1 with⟨e1,rfl⟩ | ⟨p1,m1⟩
 ·rcases h2 with⟨_,rfl⟩ | ⟨p2,_⟩
  ·rfl
  ·omega
 ·rcases h2 with⟨e2,_⟩ | ⟨_,m2⟩
  ·omega
  ·exact aD4 h m1 m2
def EG{fs}{fa:List Rw->Str}{a:Int}{rs}{t:Tb}{ms}{d:Nat}{c:Int}(h0:0<d)(hn:(ms,d)∉t.map (·.1))(h:zV fs fa a rs t ms d c):False:=by
 rcases h with⟨e,_⟩ | ⟨_,m⟩
 ·omega
 ·exact hn (aQ.mpr ⟨_,m,rfl⟩)
def JF{fs an}{fa:List Rw->Str}{a b:Int}{rs}(S:pM fs an fa rs a b){ms}(hm:lB rs ms):0<=(nO fs fa a (bF rs ms)).1/\(nO fs fa a (bF rs ms)).1<2^40:=by
 have h1:(bF rs ms).length<=60:=dG (List.length_filterMap_le ..) (dG hm.len S.l);have h2:=BI (fs:=fs) (bF rs ms) (fa (bF rs ms));have h3:=OG (bF rs ms) (fa (bF rs ms));have h4:=S.a0;have h5:=S.a1;have h6:lR fs (.say (fa (bF rs ms))) (bF rs ms)<=60:=by rw[h2];omega
 unfold nO;dsimp only
 generalize lR fs (.say (fa (bF rs ms))) (bF rs ms)=n at h6 |-
 refine⟨HH h4 (iO n),?_⟩;have:a*(n:Int)<=1000000*60:=Int.mul_le_mul h5 (by omega) (iO _) (by decide);omega
def IG{fs an}{fa:List Rw->Str}{a b:Int}{rs t}(S:pM fs an fa rs a b)(hT:aGr rs t){ms}(hm:lB rs ms){d:Nat}{c:Int}(h:zV fs fa a rs t ms d c):0<=c/\c<2^40:=by
 rcases h with⟨_,rfl⟩ | ⟨_,m⟩
 ·exact JF S hm
 ·exact(hT.ok _ m).2.2.2
noncomputable def pT(xs:List En):Tb:=xs.map λx=>((x.1.map hZ,x.2.1.toNat),x.2.2)
def aDo(fs:Fs)(fa:List Rw->Str)(a b:Int)(rs:List Rw)(xs:List En):Prop:=XM rs.length xs/\∀e∈pT xs,PZ fs fa a b rs (pT xs) e.1.1 (e.1.2-1) e.2
structure XU(xs:List En):Prop where
 l:xs.length<300
 n:∀x∈xs,x.1.length<=60
 c:∀x∈xs,x.2.2<2^40
def B4{m:Nat}{ns:List Int}(h:KC m ns):(ns.map hZ).map (λ(i:Nat)=>(i:Int))=ns:=by
 rw[bH];refine(iW λi hi=>?_).trans (jA ns);have:=(h.2 i hi).1;show((i.toNat:Nat):Int)=id i;rw[hX this];rfl
def U5{m:Nat}{ns:List Int}(h:KC m ns):eS (ns.map hZ)=.tuple (ns.map aM):=by
 have:=i6 (wO aM) (B4 h);rw[bH]at this;unfold eS;rw[<- this];rfl
def aEo{rs:List Rw}{ns:List Int}(h:KC rs.length ns):lB rs (ns.map hZ):=by
 have hp:(ns.map hZ).Pairwise (·<·):=eP.mpr (jB.imp_of_mem (λ{a b} ha hb Du=>by
  have:=(h.2 a ha).1;have:=(h.2 b hb).1;omega) h.1)
 have e:ns.map hZ=(aZ rs.length).filter λi=>decide (i∈ns.map hZ):=by
  have q:((aZ rs.length).filter λi=>decide (i∈ns.map hZ)).Pairwise (·<·):=gY.sublist kE;refine BD.eq_of_pairwise (le:=(·<·)) (λa b _ _ h1 h2=>by omega) hp q ((lU (hp.imp λh=>bZ h) (q.imp λh=>bZ h)).mpr λz=>?_);rw[bN,i4,dF];refine⟨λhz=>⟨?_,hz⟩,λhz=>hz.2⟩;obtain⟨i,hi,rfl⟩:=aQ.mp hz;have:=h.2 i hi;omega
 rw[e];exact kE
def V3{m:Nat}{x:En}(h:M9 m x):jM (x.1.map hZ,x.2.1.toNat)=VX x:=by
 show eM [eS (x.1.map hZ),.int ((x.2.1.toNat:Nat):Int)]=_;rw[U5 h.2.1,hX (by have:=h.2.2.1;omega)];rfl
def YD{rs:List Rw}{xs}(h:XM rs.length xs)(hE:XU xs):aGr rs (pT xs):=by
 refine⟨?_,λe he=>?_,by unfold pT;rw[aB];exact hE.l⟩
 ·unfold pT;rw[bH];refine eP.mpr (jB.imp_of_mem (λ{x y} hx hy Ii z=>Ii ?_) (eP.mp h.2));injection z with z1 z2
  have e1:=B4 (h.1 x hx).2.1;have e2:=B4 (h.1 y hy).2.1;have g1:=(h.1 x hx).2.2.1;have g2:=(h.1 y hy).2.2.1;unfold DS;rw[<- e1,<- e2,z1,show x.2.1=y.2.1 by omega]
 ·obtain⟨x,hx,rfl⟩:=aQ.mp he;obtain⟨h1,h2,h3,h4,h5⟩:=h.1 x hx;exact⟨aEo h2,by show 1<=x.2.1.toNat;omega,by show x.2.1.toNat<=3;omega,h5,hE.c x hx⟩
def aH4(w:g7)(C:Addr):oK:=λds Q=>∃(fs:Fs)(an:List Str)(fa:List Rw->Str)(rs:List Rw)(a b:Int)(xs:List En),ds=[gH fs an,.list (rs.map fC),.tuple [.int a,.int b],.list (xs.map oO)]/\pM fs an fa rs a b/\XU xs/\∀z:Bool,(z=true↔aDo fs fa a b rs xs)->Q (.bool z)
def aFi{fr ti}{te:ET}{σ}{ts:List D}{Q:D->Prop}(nj:qO ti σ ts)(R:Nat->D->D->Prop)(hz:ts.length<=100000)(hp:∀x∈ts,∃a b,x=.tuple [a,b])
  (ht:∀(k:Nat)(a b:D)(q:D->Prop),ts[k]?=some (.tuple [a,b])->(∀y,R k (.tuple [a,b]) y->q y)->te (((jF fr σ).set 0 (.val a)).set 1 (.val b)) q)
  (hq:∀ys:List D,ys.length=ts.length->(∀(k:Nat)(x y:D),ts[k]?=some x->ys[k]?=some y->R k x y)->Q (.list ys)):WX fr ti (gP 0 1) uF te σ Q:=by
 refine nj _ ⟨hz,λk g6 ds=>(∀x y,(g6.set 0 (.val x)).set 1 (.val y)=((jF fr σ).set 0 (.val x)).set 1 (.val y))/\ds.length=k/\∀(j:Nat)(x y:D),ts[j]?=some x->ds[j]?=some y->R j x y,⟨λ_ _=>rfl,rfl,λj x y _ h=>by simp at h⟩,λk x g6 ds hx h=>?_,λg6 ds h=>hq ds h.2.1 h.2.2⟩;obtain⟨h1,h2,h3⟩:=h;obtain⟨a,b,rfl⟩:=hp x (aN hx);refine⟨a,b,rfl,?_⟩;show te ((g6.set 0 (.val a)).set 1 (.val b)) _;rw[h1 a b];refine ht k a b _ hx λy hy=>⟨λx y=>EH _ _ _ _ _,by simp[h2],λj x' y' e1 e2=>?_⟩;by_cases hj:j<k
 ·rw[cQ (by omega)]at e2;exact h3 j x' y' e1 e2
 ·have Me:j=k:=by
   have:=(aD.mp e2).1;rw[bC]at this;have:j<ds.length+1:=this;omega
  subst Me;rw[cN (by omega),h2,AR]at e2;rw[hx]at e1;cases e1;cases e2;exact hy
theorem J8{R:(List Nat×Nat)×Int->Prop}{f:(List Nat×Nat)×Int->D}:∀{xs:Tb}{ys:List D},ys.length=(xs.map f).length->(∀(k:Nat)(d y:D),(xs.map f)[k]?=some d->ys[k]?=some y->∃(x:(List Nat×Nat)×Int)(z:Bool),xs[k]?=some x/\y=.bool z/\(z=true↔R x))->∃bs:List Bool,ys=bs.map mR/\(bs.all id=true↔∀x∈xs,R x)
|[],[],_,_=>⟨[],rfl,by simp⟩
|[],_::_,h,_=>by simp at h
|_::_,[],h,_=>by simp at h
|x::xs,y::ys,h,hh=>by
 obtain⟨bs,rfl,hb⟩:=J8 (f:=f) (xs:=xs) (ys:=ys) (by simpa using h) λk d y' h1 h2=>hh (k+1) d y' h1 h2;obtain⟨x',z,hx,rfl,hz⟩:=hh 0 (f x) y rfl rfl;cases hx;refine⟨z::bs,rfl,?_⟩;rw[aG3,bU,hb,P7];exact and_congr hz Iff.rfl
structure aMb(fs:Fs)(fa:List Rw->Str)(a b:Int)(rs:List Rw)(t:Tb):Prop where
 nd:(t.map (·.1)).Nodup
 ok:∀e∈t,lB rs e.1.1/\e.1.1≠[]/\1<=e.1.2/\e.1.2<=3/\e.2=(fD fs fa a b e.1.2 (bF rs e.1.1)).1
 cl:∀x d,(x,d+2)∈t.map (·.1)->∀ch∈(lG fs).filter (dX fs (bF rs x)),(yN fs rs ch x,d+1)∈t.map (·.1)/\(nN fs rs ch x,d+1)∈t.map (·.1)
structure EnB(k:Nat)(x:En):Prop where
 n:x.1.length<6*2^k
 c:x.2.2<1000000000+3*(k:Int)
structure aQq(k:Nat)(xs:List En):Prop where
 l:xs.length<=100+k
 b:∀x∈xs,EnB k x
def cn'{τ}{DC:C8}{n:Nat}{σ}(h:DC.nx n σ):CQ τ DC n σ:=h
def sn'{DT:uG}{σ}(h:DT.nx σ):lZ DT σ:=h
noncomputable def X0(e:(List Nat×Nat)×Int):En:=(e.1.1.map λ(i:Nat)=>(i:Int),((e.1.2:Nat):Int),e.2)
def aAd(e:(List Nat×Nat)×Int):oO (X0 e)=.tuple [eS e.1.1,.int ((e.1.2:Nat):Int),.int e.2]:=by
 unfold oO X0 eS;dsimp only;rw[bH];rfl
def X8(tb:Tb):pT (tb.map X0)=tb:=by
 unfold pT;rw[bH];refine(iW λe _=>?_).trans (jA tb);obtain⟨⟨x,d⟩,c⟩:=e;show(((x.map λ(i:Nat)=>(i:Int)).map hZ,((d:Nat):Int).toNat),c)=_;rw[bH,cW,show(hZ∘λ(i:Nat)=>(i:Int))=id from funext λi=>cW i,jA];rfl
def aFg{rs:List Rw}{ns:List Nat}(h:lB rs ns):KC rs.length (ns.map λ(i:Nat)=>(i:Int)):=by
 refine⟨eP.mpr ((gY.sublist h).imp λh=>aMm.mpr h),λn hn=>?_⟩;obtain⟨i,hi,rfl⟩:=aQ.mp hn;have:=h.lt hi;omega
def Q9{fs}{fa:List Rw->Str}{a b:Int}{rs}{t tb:Tb}(a0:0<=a)(b0:0<=b)(hM:aMb fs fa a b rs t)(hp:tb.Perm t):aDo fs fa a b rs (tb.map X0):=by
 have jb:∀{e},e∈tb->e∈t:=λh=>hp.mem_iff.mp h;refine⟨⟨λx hx=>?_,?_⟩,λe he=>?_⟩
 ·obtain⟨⟨⟨x,d⟩,c⟩,he,rfl⟩:=aQ.mp hx;obtain⟨h1,h2,h3,h4,h5⟩:=hM.ok _ (jb he);dsimp only at h1 h2 h3 h4 h5;refine⟨λz=>h2 (List.map_eq_nil_iff.mp z),aFg h1,by show(1:Int)<=((d:Nat):Int);omega,by show((d:Nat):Int)<=3;omega,?_⟩;show 0<=c;rw[h5];exact G6 a0 b0 d _
 ·have e1:(tb.map X0).map DS=(tb.map (·.1)).map λx:List Nat×Nat=>(x.1.map λ(i:Nat)=>(i:Int),((x.2:Nat):Int)):=by rw[bH,bH];rfl
  rw[e1];have De:(tb.map (·.1)).Nodup:=((hp.map (·.1)).nodup_iff).mpr hM.nd;unfold FU at De;refine eP.mpr (jB.imp ?_ De);intro x y Ii z;refine Ii ?_;obtain⟨x1,x2⟩:=x;obtain⟨y1,y2⟩:=y;injection z with z1 z2
  have:=i6 (wO hZ) z1;rw[bH,bH,show(hZ∘λ(i:Nat)=>(i:Int))=id from funext λi=>cW i,jA,jA]at this;have h2:x2=y2:=jD.inj z2;rw[show x1=y1 from this,h2]
 ·rw[X8]at he |-
  obtain⟨⟨x,d⟩,c⟩:=e;obtain⟨h1,h2,h3,h4,h5⟩:=hM.ok _ (jb he);dsimp only at h1 h2 h3 h4 h5 |-
  subst h5;refine⟨FJ d _,λch jm=>?_⟩;obtain⟨hc,Uw⟩:=bN.mp jm;obtain⟨ry,rn⟩:=F0 (fs:=fs) (c:=ch) λi hi=>h1.lt hi;obtain⟨d',rfl⟩:∃d',d=d'+1:=⟨d-1,by omega⟩;have vi:=aGm (fa:=fa) (a:=a) (b:=b) (d:=d') hc Uw
  have side:∀y:List Nat,(0<d'->(y,d')∈t.map (·.1))->zV fs fa a rs tb y d' (fD fs fa a b d' (bF rs y)).1:=λy hy=>by
   cases d' with
   |zero=>exact .inl ⟨rfl,rfl⟩
   |succ d2=>
    obtain⟨⟨⟨y',d3⟩,c⟩,vf,ee⟩:=aQ.mp (hy (by omega));cases ee;have:=(hM.ok _ vf).2.2.2.2;dsimp only at this;rw[<- this];exact .inr ⟨by omega,hp.mem_iff.mpr vf⟩
  have gc:0<d'->(yN fs rs ch x,d')∈t.map (·.1)/\(nN fs rs ch x,d')∈t.map (·.1):=λh0=>by
   obtain⟨d2,rfl⟩:∃d2,d'=d2+1:=⟨d'-1,by omega⟩;exact hM.cl x d2 (aQ.mpr ⟨_,jb he,rfl⟩) ch jm
  refine⟨_,_,side _ λh0=>(gc h0).1,side _ λh0=>(gc h0).2,?_⟩;rw[ry,rn];show _<=_;unfold cC at vi;omega
noncomputable def pG(p:Nat->Bool):Nat->Nat
|0=>0
|n+1=>pG p n+(if p n=true then 2^n else 0)
theorem VE(p:Nat->Bool):∀n,pG p n<2^n
|0=>Nat.one_pos
|n+1=>by
 have:=VE p n;show pG p n+_<2^(n+1);rw[AS];split<;>omega
def VD(p:Nat->Bool)(n:Nat):pG p n ||| 2^n=pG p n+2^n:=by
 have:=Nat.two_pow_add_eq_or_of_lt (VE p n) 1;rw[Nat.mul_one]at this;rw[Nat.or_comm,<- this,Nat.add_comm]
theorem uZ(p:Nat->Bool):∀n i,(pG p n).testBit i=(decide (i<n)&&p i)
|0,i=>by simp[pG]
|n+1,i=>by
 have ih:=uZ p n i
 have e:pG p (n+1)=if p n=true then pG p n ||| 2^n else pG p n:=by
  show pG p n+_=_;rw[VD];split<;>rfl
 rw[e];by_cases hp:p n=true
 ·rw[b9 hp,Nat.testBit_or,ih,Nat.testBit_two_pow];by_cases hi:n=i
  ·subst hi;simp[hp]
  ·have h1:decide (i<n+1)=decide (i<n):=by rw[bf];omega
   rw[h1];simp[hi]
 ·rw[b8 hp,ih];by_cases hi:n=i
  ·subst hi;simp[hp]
  ·have h1:decide (i<n+1)=decide (i<n):=by rw[bf];omega
   rw[h1]
def OR(p q:Nat->Bool){n N:Nat}(h:n<=N):pG p n &&& pG q N=pG (λi=>p i&&q i) n:=by
 apply Nat.eq_of_testBit_eq;intro i;rw[Nat.testBit_and,uZ,uZ,uZ];by_cases hi:i<n
 ·have:i<N:=by omega
  simp[hi,this]
 ·simp[hi]
theorem EU(p q:Nat->Bool):∀n,pG p n=pG (λi=>p i&&q i) n+pG (λi=>p i&&!q i) n
|0=>rfl
|n+1=>by
 have:=EU p q n;show pG p n+(if p n=true then 2^n else 0)=(pG _ n+(if(p n&&q n)=true then 2^n else 0))+(pG _ n+(if(p n&&!q n)=true then 2^n else 0))
 generalize 2^n=e
 rcases hp:p n with _ | _<;>rcases hq:q n with _ | _<;>simp<;>omega
def Z0{p q:Nat->Bool}{n:Nat}(h:pG p n=pG q n){i:Nat}(hi:i<n):p i=q i:=by
 have:=i6 (λm:Nat=>m.testBit i) h
 try dsimp only at this
 rw[uZ,uZ]at this;simpa[hi]using this
theorem xX{p q:Nat->Bool}:∀{n:Nat},(∀i,i<n->p i=q i)->pG p n=pG q n
|0,_=>rfl
|n+1,h=>by
 show pG p n+_=pG q n+_;rw[xX λi hi=>h i (by omega),h n (by omega)]
theorem JB:∀n,pG (λ_=>true) n+1=2^n
|0=>rfl
|n+1=>by
 have:=JB n;show pG _ n+2^n+1=_;rw[AS];omega
noncomputable def kU(n:Nat)(x:List Nat):Nat:=pG (λi=>decide (i∈x)) n
def CI{n:Nat}{x y:List Nat}(hx:x.Sublist (aZ n))(hy:y.Sublist (aZ n))(h:kU n x=kU n y):x=y:=by
 have e:∀z:List Nat,z.Sublist (aZ n)->z=(aZ n).filter λi=>decide (i∈z):=λz hz=>by
  have p1:z.Pairwise (·<·):=gY.sublist hz;have p2:((aZ n).filter λi=>decide (i∈z)).Pairwise (·<·):=gY.sublist kE;refine BD.eq_of_pairwise (le:=(·<·)) (λa b _ _ h1 h2=>by omega) p1 p2 ((lU (p1.imp λh=>bZ h) (p2.imp λh=>bZ h)).mpr λi=>?_);rw[bN,i4];exact⟨λhi=>⟨hz.subset hi,hi⟩,λhi=>hi.2⟩
 rw[e x hx,e y hy];exact lQ λi hi=>Z0 h (dF.mp hi)
def FD{n:Nat}{x:List Nat}(hx:x.Sublist (aZ n)):kU n x=0↔x=[]:=by
 constructor
 ·intro h;refine CI hx (List.nil_sublist _) (h.trans ?_)
  have:∀m,pG (λi=>decide (i∈([]:List Nat))) m=0:=λm=>by
   induction m with
   |zero=>rfl
   |succ m ih=>show pG _ m+_=0;rw[ih];simp
  exact(this n).symm
 ·rintro rfl
  have:∀m,pG (λi=>decide (i∈([]:List Nat))) m=0:=λm=>by
   induction m with
   |zero=>rfl
   |succ m ih=>show pG _ m+_=0;rw[ih];simp
  exact this n
def aF2{n N:Nat}(x:List Nat)(q:Nat->Bool)(h:n<=N):kU n x &&& pG q N=kU n (x.filter q):=by
 unfold kU;rw[OR _ _ h];refine xX λi _=>?_;rw[iB,bU,i4,i4,bN]
def aF3{n N:Nat}(x:List Nat)(q:Nat->Bool)(h:n<=N):kU n x-(kU n x &&& pG q N)=kU n (x.filter λi=>!q i):=by
 have h1:=EU (λi=>decide (i∈x)) q n
 have h2:kU n (x.filter λi=>!q i)=pG (λi=>decide (i∈x)&&!q i) n:=xX λi _=>by
  rw[iB,bU,i4,i4,bN]
 rw[h2];unfold kU;rw[OR _ _ h];omega
def CS(a b:Nat):ao (a:Int) (b:Int)=((a &&& b:Nat):Int):=by
 unfold ao;rw[d7 (iO a),d7 (iO b)];show(((a:Int).toNat &&& (b:Int).toNat:Nat):Int)=_;rw[cW,cW]
def R7(a b:Nat):gx (a:Int) (b:Int)=((a ||| b:Nat):Int):=by
 have h:∀m:Nat,l0 (l0 (m:Int))=(m:Int):=λm=>by unfold l0;omega
 have h0:∀m:Nat,decide (0<=l0 (m:Int))=false:=λm=>f9 (by unfold l0;omega);unfold gx ao;rw[h0 a,h0 b];show l0 (l0 ((((l0 (l0 (a:Int))).toNat ||| (l0 (l0 (b:Int))).toNat:Nat)):Int))=_;rw[h a,h b,h,cW,cW]
section
variable(fs:Fs)(rs:List Rw)
def Sd(lv:List (List Nat))(x:List Nat):Prop:=∃ns∈lv,∃c∈lG fs,dX fs (bF rs ns) c=true/\(x=yN fs rs c ns\/x=nN fs rs c ns)
inductive HA(ns:List Nat)(dp:Nat):List Nat×Nat->Prop
|top:HA ns dp (ns,dp)
|y {x:List Nat} {d:Nat} {c:Ch} (h:HA ns dp (x,d+2)) (hc:c∈lG fs) (hp:dX fs (bF rs x) c=true):HA ns dp (yN fs rs c x,d+1)
|n {x:List Nat} {d:Nat} {c:Ch} (h:HA ns dp (x,d+2)) (hc:c∈lG fs) (hp:dX fs (bF rs x) c=true):HA ns dp (nN fs rs c x,d+1)
def zJ(ns:List Nat)(dp:Nat):Prop:=∃l:List (List Nat×Nat),l.Nodup/\(∀x∈l,HA fs rs ns dp x)/\400<l.length
def NB(ns:List Nat)(dp:Nat)(ks:List (List Nat×Nat)):Prop:=(ns,dp)∈ks/\∀x d,(x,d+2)∈ks->∀c∈lG fs,dX fs (bF rs x) c=true->(yN fs rs c x,d+1)∈ks/\(nN fs rs c x,d+1)∈ks
end
def NB.all{fs rs ns}{dp:Nat}{ks}(h:NB fs rs ns dp ks){x}(hx:HA fs rs ns dp x):x∈ks:=by
 induction hx with
 |top=>exact h.1
 |y _ hc hp ih=>exact(h.2 _ _ ih _ hc hp).1
 |n _ hc hp ih=>exact(h.2 _ _ ih _ hc hp).2
def NB.few{fs rs ns}{dp:Nat}{ks:List (List Nat×Nat)}(h:NB fs rs ns dp ks)(hl:ks.length<=400):¬zJ fs rs ns dp:=by
 rintro⟨l,h1,h2,h3⟩;have:=ER h1 λx hx=>h.all (h2 x hx);omega
def HA.ok{fs rs ns}{dp:Nat}(hn:lB rs ns)(al:ns≠[]){x:List Nat×Nat}(hx:HA fs rs ns dp x):lB rs x.1/\x.1≠[]/\x.2<=dp:=by
 induction hx with
 |top=>exact⟨hn,al,aL _⟩
 |y _ hc hp ih=>
  rw[tQ λi hi=>ih.1.lt hi,bU]at hp;exact⟨ih.1.filt _,(λe=>by rw[show yN fs rs _ _=[]from e]at hp;cases hp.1),by have:=ih.2.2;dsimp only at this |-;omega⟩
 |n _ hc hp ih=>
  rw[tQ λi hi=>ih.1.lt hi,bU]at hp;exact⟨ih.1.filt _,(λe=>by rw[show nN fs rs _ _=[]from e]at hp;cases hp.2),by have:=ih.2.2;dsimp only at this |-;omega⟩
noncomputable def DP(fs:Fs)(rs:List Rw)(c:Ch):D:=.int ((pG (yO fs rs c) rs.length:Nat):Int)
noncomputable def AH(fs:Fs)(rs:List Rw):D:=.list ((lG fs).map (DP fs rs))
def aH7(w:g7)(C:Addr):oK:=λds Q=>∃(fs:Fs)(an:List Str)(fa:List Rw->Str)(rs:List Rw)(a b:Int)(lv:List (List Nat)),ds=[kI C fs an rs a b,.list (lv.map eS)]/\pM fs an fa rs a b/\lv.length<=400/\(∀x∈lv,lB rs x)/\∀ls:List (List Nat),ls.Nodup->ls.length<=2*(lG fs).length*lv.length->(∀x∈ls,Sd fs rs lv x) ->
 (∀ns∈lv,∀c∈lG fs,dX fs (bF rs ns) c=true->yN fs rs c ns∈ls/\nN fs rs c ns∈ls)->Q (.list (ls.map eS))
def SmP(C:Addr)(ds:List D)(P:Fs->List Str->(List Rw->Str)->List Rw->Int->Int->List Nat->Nat->Prop):Prop:=∃(fs:Fs)(an:List Str)(fa:List Rw->Str)(rs:List Rw)(a b:Int)(ns:List Nat)(dp:Nat),ds=[kI C fs an rs a b,eS ns,.int (dp:Nat)]/\pM fs an fa rs a b/\lB rs ns/\ns≠[]/\1<=dp/\dp<=3/\P fs an fa rs a b ns dp
def aH8(w:g7)(C:Addr):oK:=λds Q=>SmP C ds λfs _ _ rs _ _ ns dp=>¬zJ fs rs ns dp/\∀ks:List (List Nat×Nat),C4 fs rs ns dp ks->Fed fs rs ks->Q (.list (ks.map jM))
def aH9(w:g7)(C:Addr):oK:=λds Q=>SmP C ds λfs _ fa rs a b ns dp=>¬zJ fs rs ns dp/\∀ks:List (List Nat×Nat),C4 fs rs ns dp ks->Q (mD w (ks.map λx=>(jM x,mW (fD fs fa a b x.2 (bF rs x.1)))))
def xK(C E:Addr):oK:=λds Q=>SmP C ds λfs _ _ rs _ _ ns dp=>zJ fs rs ns dp/\Q (.dict [(.int (E:Nat),.none)])
def AD(C E:Addr):oK:=xK C E
def LsP(ds:List D)(P:Fs->List Str->(List Rw->Str)->List Rw->Int->Int->Nat->Prop):Prop:=∃(fs:Fs)(an:List Str)(fa:List Rw->Str)(rs:List Rw)(a b:Int)(dp:Nat),ds=[gH fs an,.list (rs.map fC),.int (dp:Nat),.tuple [.int a,.int b]]/\pM fs an fa rs a b/\rs≠[]/\1<=dp/\dp<=3/\P fs an fa rs a b dp
noncomputable def aFh(fs:Fs)(fa:List Rw->Str)(rs:List Rw)(a b:Int)(dp:Nat)(ks:List (List Nat×Nat)):D:=.tuple [HU (fD fs fa a b dp rs).2,.int (fD fs fa a b dp rs).1,.list (ks.map (GS fs fa a b rs))]
def aIa(w:g7)(C:Addr):oK:=λds Q=>LsP ds λfs _ fa rs a b dp=>¬zJ fs rs (aZ rs.length) dp/\∀ks:List (List Nat×Nat),C4 fs rs (aZ rs.length) dp ks->Q (aFh fs fa rs a b dp ks)
def QF(C E:Addr):oK:=λds Q=>LsP ds λfs _ _ rs _ _ dp=>zJ fs rs (aZ rs.length) dp/\Q (.dict [(.int (E:Nat),.none)])
def aHp:oK:=λds Q=>LsP ds λfs _ fa rs a b dp=>(zJ fs rs (aZ rs.length) dp->Q (.tuple [.none,.tuple [.bool true,.bool true,.bool false]]))/\∀ks:List (List Nat×Nat),¬zJ fs rs (aZ rs.length) dp->C4 fs rs (aZ rs.length) dp ks->Q (.tuple [aFh fs fa rs a b dp ks,.tuple []])
def aHl:oK:=λds Q=>∃(fs:Fs)(an:List Str)(rs:List Rw),ds=[gH fs an,.list (rs.map fC)]/\lH fs an/\jH fs an rs/\rs.length<=20/\Q (AH fs rs)
def MmP(ds:List D)(P:Fs->List Rw->Nat->Nat->Prop):Prop:=∃(fs:Fs)(rs:List Rw)(n dp:Nat),ds=[AH fs rs,.int (n:Nat),.int (dp:Nat)]/\(lG fs).length<=100/\rs.length<=20/\1<=n/\n<=rs.length/\1<=dp/\dp<=3/\P fs rs n dp
def aHk:oK:=λds Q=>MmP ds λfs rs n dp=>∀z:Nat,(400<z↔zJ fs (rs.take n) (aZ n) dp)->Q (.int (z:Nat))
def aHj:oK:=λds Q=>MmP ds λ_ _ n _=>∀z:Nat,1<=z->z<=n->Q (.int (z:Nat))
def aHi:oK:=λds Q=>∃(fs:Fs)(an:List Str)(fa:List Rw->Str)(rs:List Rw)(a b:Int)(dp z:Nat),ds=[gH fs an,.list (rs.map fC),.int (dp:Nat),.tuple [.int a,.int b],.int (z:Nat)]/\pM fs an fa rs a b/\rs≠[]/\1<=dp/\dp<=3/\(400<z↔zJ fs rs (aZ rs.length) dp)/\Q (.bool true)
def GY{fs an}(F:lH fs an):(lG fs).length<=100:=by
 have n5:=F.n5;have gc:=kO F fs λg hg=>hg;have Xj:=A8 fs;omega
def PD{dp k:Nat}{x}(hx:(pK ((dp:Nat):Int))[k]?=some x):k<dp/\x=.int ((dp-k:Nat):Int):=by
 unfold pK at hx;rw[aH]at hx;obtain⟨j,hj,rfl⟩:=bL.mp hx;have hl:=(aD.mp hj).1;rw[dN]at hl;rw[iX hl]at hj;cases hj;exact⟨by omega,by congr 1;omega⟩
def JY(dp:Nat):(pK ((dp:Nat):Int)).length=dp:=by unfold pK;rw[aB,dN];omega
def Q3{ks:List (List Nat×Nat)}{lv:List (List Nat)}{e:Nat}(h1:ks.Nodup)(h2:lv.Nodup)(h3:∀y∈lv,(y,e)∉ks):(ks++lv.map λx=>(x,e)).Nodup:=by
 refine jT.mpr ⟨h1,?_,λu hu v hv e=>?_⟩
 ·unfold FU at h2 |-
  refine eP.mpr (jB.imp ?_ h2);intro x y Ii z;injection z with z _
  exact Ii z
 ·obtain⟨y,hy,rfl⟩:=aQ.mp hv;exact h3 y hy (e▸hu)
noncomputable def KL(x:Nat×Nat):D:=.tuple [.int (x.1:Nat),.int (x.2:Nat)]
def PN(x y:Nat×Nat)(h:KL x=KL y):x=y:=by
 unfold KL at h;injection h with h
 injection h with h1 h
 injection h with h2 _
 injection h1 with h1
 injection h2 with h2
 exact ud (jD.inj h1) (jD.inj h2)
def BA(x:Nat×Nat):xH (KL x):=⟨⟨rfl,by show max 0 (max 0 0)+1<=8;decide⟩,_,rfl⟩
noncomputable def xC(n:Nat)(x:List Nat×Nat):Nat×Nat:=(kU n x.1,x.2)
def JW{n:Nat}{x y:List Nat×Nat}(hx:x.1.Sublist (aZ n))(hy:y.1.Sublist (aZ n))(h:xC n x=xC n y):x=y:=by
 unfold xC at h;injection h with h1 h2
 exact ud (CI hx hy h1) h2
noncomputable def vU(n:Nat)(ks:List (List Nat×Nat)):List (D×D):=mX KL (ks.map (xC n))
def B5(n:Nat)(ks:List (List Nat×Nat)):(vU n ks).length=ks.length:=by unfold vU mX;rw[aB,aB]
def OS(n:Nat)(ks:List (List Nat×Nat)):∀kv∈vU n ks,iV kv.1:=λkv h=>by
 obtain⟨x,_,rfl⟩:=aQ.mp h;exact(BA x).1
def VL{n:Nat}{ks}(hk:∀x∈ks,x.1.Sublist (aZ n)){x:List Nat×Nat}(hx:x.1.Sublist (aZ n)):KL (xC n x)∈(vU n ks).map (·.1)↔x∈ks:=by
 unfold vU;rw[xI,bH];constructor
 ·intro h;obtain⟨y,hy,e⟩:=aQ.mp h;have:=JW (hk y hy) hx (PN _ _ e);rw[<- this];exact hy
 ·exactλh=>aQ.mpr ⟨x,h,rfl⟩
def VJ{n:Nat}{ks}(hk:∀x∈ks,x.1.Sublist (aZ n)){x:List Nat×Nat}(hx:x.1.Sublist (aZ n))(hn:x∉ks):sY (vU n ks) (KL (xC n x)) (.bool true)=vU n (ks++[x]):=by
 unfold vU;rw[xP PN,GK,bV]
 ·rfl
 ·intro z;obtain⟨y,hy,e⟩:=aQ.mp z;exact hn (JW (hk y hy) hx e▸hy)
def ZE{fs rs c x}(hx:lB rs x){z}(hz:z=yN fs rs c x\/z=nN fs rs c x)(h0:z≠[])(h1:z≠x):dX fs (bF rs x) c=true:=by
 rw[tQ λi hi=>hx.lt hi,bU];have ne:∀{l:List Nat},l≠[]->(!l.isEmpty)=true:=λ{l} h=>by cases l with | nil=>exact d8 rfl h | cons a l=>rfl
 rcases hz with rfl | rfl
 ·refine⟨ne h0,ne λe=>h1 (SI.mpr λi hi=>?_)⟩;have:=KQ.mp e i hi;simpa using this
 ·refine⟨ne λe=>h1 (SI.mpr λi hi=>?_),ne h0⟩;have:=KQ.mp e i hi;simpa using this
def ZD{fs rs c x}(hx:lB rs x)(h:dX fs (bF rs x) c=true){z}(hz:z=yN fs rs c x\/z=nN fs rs c x):z≠[]/\z≠x:=by
 rw[tQ λi hi=>hx.lt hi,bU]at h;have ne:∀{l:List Nat},(!l.isEmpty)=true->∃i,i∈l:=λ{l} h=>by cases l with | nil=>cases h | cons a l=>exact⟨a,aS ..⟩
 obtain⟨i,hi⟩:=ne h.1;obtain⟨j,hj⟩:=ne h.2;have Pd:=bN.mp hi;have Md:=bN.mp hj;rcases hz with rfl | rfl
 ·refine⟨(λe=>by rw[e]at hi;cases hi),λe=>?_⟩;have:j∈yN fs rs c x:=by rw[e];exact Md.1
  have:=(bN.mp this).2;rw[this]at Md;exact d8 Md.2 (by decide)
 ·refine⟨(λe=>by rw[e]at hj;cases hj),λe=>?_⟩;have:i∈nN fs rs c x:=by rw[e];exact Pd.1
  have:=(bN.mp this).2;rw[Pd.2]at this;exact d8 this (by decide)
section
variable(fs:Fs)(rs:List Rw)(n dp:Nat)
def Kid(x:List Nat)(d0:Nat)(c:Ch)(l:List (List Nat×Nat)):Prop:=∀d,d0=d+2->dX fs (bF rs x) c=true->(yN fs rs c x,d+1)∈l/\(nN fs rs c x,d+1)∈l
structure Met(ks:List (List Nat×Nat)):Prop where
 nd:ks.Nodup
 rc:∀x∈ks,HA fs rs (aZ n) dp x
 tp:(aZ n,dp)∈ks
def Fol(at_:Nat)(ks:List (List Nat×Nat)):Prop:=∀j x d,j<at_->ks[j]?=some (x,d)->∀c∈lG fs,Kid fs rs x d c ks
end
def IV{fs}{rs:List Rw}{c}{n i:Nat}(h:i<n):yO fs (rs.take n) c i=yO fs rs c i:=by
 unfold yO;rw[fN,b9 h]
def FB{fs}{rs:List Rw}{c}{n:Nat}{x:List Nat}(h:x.Sublist (aZ n)):yN fs (rs.take n) c x=x.filter (yO fs rs c)/\nN fs (rs.take n) c x=x.filter λi=>!yO fs rs c i:=
 ⟨lQ λi hi=>IV (dF.mp (h.subset hi)),lQ λi hi=>by rw[IV (dF.mp (h.subset hi))]⟩
def VI{fs rs}{n dp:Nat}{ks:List (List Nat×Nat)}(M:Met fs rs n dp ks)(hs:ks.length<=400->Fol fs rs ks.length ks):400<ks.length↔zJ fs rs (aZ n) dp:=by
 constructor
 ·exactλh=>⟨ks,M.nd,M.rc,h⟩
 ·intro h;refine Nat.lt_of_not_le λhl=>?_;have hf:=hs hl;refine NB.few (ks:=ks) ⟨M.tp,λx d hx c hc hp=>?_⟩ hl h;obtain⟨i,hi⟩:=bK hx;exact hf i x (d+2) (aD.mp hi).1 hi c hc d rfl hp
noncomputable def YC(fs:Fs)(fa:List Rw->Str)(a b:Int)(rs:List Rw)(ks:List (List Nat×Nat)):Tb:=ks.map λx=>(x,(fD fs fa a b x.2 (bF rs x.1)).1)
def YB(fs:Fs)(fa:List Rw->Str)(a b:Int)(rs:List Rw)(ks:List (List Nat×Nat)):((YC fs fa a b rs ks).map X0).map oO=ks.map (GS fs fa a b rs):=by
 unfold YC;rw[bH,bH];exact iW λx _=>aAd _
def RQ{fs}{fa:List Rw->Str}{a b:Int}{rs ns}{dp:Nat}{ks}(h:C4 fs rs ns dp ks):aMb fs fa a b rs (YC fs fa a b rs ks):=by
 obtain⟨h1,_,h3,_,h5⟩:=h
 have e:(YC fs fa a b rs ks).map (·.1)=ks:=by
  unfold YC;rw[bH];exact jA _
 refine⟨by rw[e];exact h1,λz hz=>?_,λx d hx c hc=>?_⟩
 ·obtain⟨x,hx,rfl⟩:=aQ.mp hz;obtain⟨g1,g2,g3,g4⟩:=h3 x hx;exact⟨g1,g4,g2,g3,rfl⟩
 ·rw[e]at hx |-
  obtain⟨m1,m2⟩:=bN.mp hc;exact h5 x d hx c m1 m2
def WK{fs an}{fa:List Rw->Str}{a b:Int}{rs ns}{dp:Nat}{ks:List (List Nat×Nat)}(S:pM fs an fa rs a b)(h:C4 fs rs ns dp ks)(hl:ks.length<=150):XU ((YC fs fa a b rs ks).map X0):=by
 have ex:∀x∈(YC fs fa a b rs ks).map X0,∃k∈ks,x=X0 (k,(fD fs fa a b k.2 (bF rs k.1)).1):=λx hx=>by
  obtain⟨z,hz,rfl⟩:=aQ.mp hx;obtain⟨k,hk,rfl⟩:=aQ.mp hz;exact⟨k,hk,rfl⟩
 refine⟨by unfold YC;rw[aB,aB];omega,λx hx=>?_,λx hx=>?_⟩
 ·obtain⟨k,hk,rfl⟩:=ex x hx;have:=(h.2.2.1 k hk).1.len;have:=S.l;show(k.1.map _).length<=60;rw[aB];omega
 ·obtain⟨k,hk,rfl⟩:=ex x hx;have h1:=(JF S (h.2.2.1 k hk).1).2;have h2:=FJ (fs:=fs) (fa:=fa) (a:=a) (b:=b) k.2 (bF rs k.1);show(fD fs fa a b k.2 (bF rs k.1)).1<2^40;omega
end K38
namespace K38
set_option maxHeartbeats 4000000
open PySem L2 TL
def aN5:cR ["self","form","rows","prices"] ["self","form","rows","prices"] (bQ (wV (top 26) 0)):=pH
def aN4:cR ["self","numbers","rows","slips"] ["self","numbers"] (bQ (wV (top 26) 1)):=pH
def aN3:cR ["self","numbers","told","question","stray","sides","yes","no"] ["self","numbers"] (bQ (wV (top 26) 2)):=pH
def aN2:cR ["form","rows","told"] ["form","rows"] (bQ (top 10)):=pH
def aN1:cR ["form","rows","counts"] ["form","rows"] (bQ (top 11)):=pH
def aN0:cR ["thing","fewest","most"] ["thing","fewest","most"] (bQ (top 13)):=pH
def aNz:cR ["thing"] ["thing"] (bQ (top 14)):=pH
def aNy:cR ["form","questions","field"] ["form"] (bQ (top 17)):=pH
def aNx:cR ["field","name","values","told_by_is","told_by_upto"] ["field"] (bQ (top 18)):=pH
def aNw:cR ["form","choices","question"] ["form"] (bQ (top 19)):=pH
def aJb:cR ["form","question","stray","case","number"] ["form","question","stray","case"] (bQ (top 20)):=pH
def aJa:cR ["form","question"] ["form","question"] (bQ (top 21)):=pH
def aI9:cR ["question","stray","field"] ["question","stray","field"] (bQ (top 22)):=pH
def aI8:cR ["question","field"] ["question","field"] (bQ (top 23)):=pH
def aI7:cR ["sides","fewest"] ["sides","fewest"] (bQ (top 24)):=pH
def aI6:cR ["form","choice","rows"] ["form","choice","rows"] (bQ (top 27)):=pH
def aI4:cR ["sets","known","numbers","deep","told","question","stray","yes","no","one","other","cost"] ["sets","known","numbers","deep"] (bQ (top 34)):=pH
def aI3:cR ["sets","known","numbers","deep"] ["sets","known","numbers","deep"] (bQ (top 35)):=pH
def aI2:cR ["form","rows","prices","table","sets","costs","numbers","deep","cost"] ["form","rows","prices","table"] (bQ (top 38)):=pH
def aI1:cR ["many","table"] ["many","table"] (bQ (top 39)):=pH
def aI0:cR ["many","entry"] ["many","entry"] (bQ (top 40)):=pH
def aIz:cR ["numbers","many"] ["numbers","many"] (bQ (top 41)):=pH
def aIy:cR ["sets","costs","numbers","deep","cost","question","stray","yes","no","sides"] ["sets","costs","numbers","deep"] (bQ (top 42)):=pH
def aIx:cR ["sets","costs","numbers","deep"] ["sets","costs","numbers","deep"] (bQ (top 43)):=pH
def aCb:cR ["_law_script","_law_digits"] ["_law_script"] (bQ (top 45)):=pH
def aIw:cR ["_law_tape_here","_law_many","_law_script","_law_at","_law_left","_law_number"] ["_law_tape_here","_law_many"] (bQ (top 46)):=pH
def aIv:cR ["_law_tape_here","_law_many","_law_way","_law_first","_law_letters","_law_words","_law_base","_law_names_here","_law_at"] ["_law_tape_here","_law_many"] (bQ (top 47)):=pH
def aIu:cR ["_law_tape_here","_law_fields","_law_values","_law_answers","_law_names_here"] ["_law_tape_here","_law_fields","_law_values"] (bQ (top 48)):=pH
def aIt:cR ["_law_tape_here","_law_form_here","_law_case_here","_law_name","_law_values","_law_at"] ["_law_tape_here","_law_form_here"] (bQ (top 49)):=pH
def aIs:cR ["_law_tape_here","_law_form_here","_law_many","_law_rows_here","_law_k","_law_case_here","_law_at","_law_row"] ["_law_tape_here","_law_form_here","_law_many"] (bQ (top 50)):=pH
def aIr:cR ["_law_form_here","_law_found","_law_name","_law_values","_law_some"] ["_law_form_here"] (bQ (top 51)):=pH
def aIq:cR ["_law_form_here","_law_question","_law_stray","_law_case_here","_law_kind","_law_name","_law_value","_law_values","_law_mine","_law_k","_law_far"] ["_law_form_here","_law_question","_law_stray","_law_case_here"] (bQ (top 52)):=pH
def aIp:cR ["_law_form_here","_law_question","_law_stray","_law_rows_here","_law_ones","_law_others","_law_row"] ["_law_form_here","_law_question","_law_stray","_law_rows_here"] (bQ (top 53)):=pH
def aIo:cR ["_law_tape_here","_law_some"] ["_law_tape_here"] (bQ (top 54)):=pH
def aIk:cR ["_law_tree"] ["_law_tree"] (bQ (top 58)):=pH
def aIl:cR ["_law_form_here","_law_tree","_law_rows_here","_law_ones","_law_others"] ["_law_form_here","_law_tree","_law_rows_here"] (bQ (top 57)):=pH
def aIm:cR ["_law_form_here","_law_tree","_law_deep"] ["_law_form_here","_law_tree","_law_deep"] (bQ (top 56)):=pH
def aI5:cR ["sets","level","sides","numbers","question","stray","yes","no"] ["sets","level"] (bQ (top 33)):=pH
def aCc:cR ["sets","numbers","deep","met","level","left","found"] ["sets","numbers","deep"] (bQ (top 32)):=pH
def aCd:cR ["sets","numbers","deep","known","key"] ["sets","numbers","deep"] (bQ (top 31)):=pH
def aCe:cR ["form","rows","deep","prices","sets","known","top"] ["form","rows","deep","prices"] (bQ (top 30)):=pH
def aIn:cR ["_law_form_here","_law_rows_here","_law_deep","_law_prices_here","_law_found","_law_kinds","e","_law_others"] ["_law_form_here","_law_rows_here","_law_deep","_law_prices_here"] (bQ (top 55)):=pH
def aIj:cR ["_law_form_here","_law_rows_here","_law_found","_law_question","_law_stray","_law_bits","_law_k"] ["_law_form_here","_law_rows_here"] (bQ (top 59)):=pH
def aIi:cR ["_law_masks_here","_law_many","_law_deep","_law_line","_law_met","_law_at","_law_some","_law_low","_law_bits","_law_side_here"] ["_law_masks_here","_law_many","_law_deep"] (bQ (top 60)):=pH
def aIh:cR ["_law_masks_here","_law_many","_law_deep","_law_low","_law_high","_law_half"] ["_law_masks_here","_law_many","_law_deep"] (bQ (top 61)):=pH
def aIg:cR ["_law_form_here","_law_rows_here","_law_deep","_law_prices_here","_law_met","_law_handed","_law_found","_law_kinds","_law_tree","_law_cost","_law_table"] ["_law_form_here","_law_rows_here","_law_deep","_law_prices_here","_law_met"] (bQ (top 62)):=pH
def aEe:cR ["_law_script","_law_tape_here","_law_fields","_law_many","_law_great","_law_deep","_law_form_here","_law_rows_here","_law_prices_here","_law_masks_here","_law_sizes","_law_size"] ["_law_script"] (bQ (top 63)):=pH
section
variable{P:bX}{w:g7}{K:aI}{mg:Str->Option Value}{base:Heap}{m8 h9 z5 db av ar aw au:Addr}{Gm Gn Go Je Jf Jg Jh Ji Jj Jk ze zf zg zh zi zj wv ww wx zk zl zm zn zo zp zr zt zu zv zw zx zy gV Aa Ab Ac Ad Ae Af qt qu qv Ag Ah Ai Aj oz:Addr}{Jn Jo Jp Jq Jr Js Jt Ju Jv Jw Al Am An Ao Ap Aq xf xg xh As Au Av Aw Ax Ay Az Ba Bb Bc Bd Be Bf Bg Bh Bi Bj Bk Bl Bm rf rh rm Bn Bo Bp Bq ml:kF}{d9:Addr}{t_SIDES:Addr}{gj ay:Tok}(T:Txt K mg m8 h9 z5 db av ar aw au Gm Gn Go Je Jf Jg Jh Ji Jj Jk ze zf zg zh zi zj wv ww wx zk zl zm zn zo zp zr zt zu zv zw zx zy gV Aa Ab Ac Ad Ae Af qt qu qv Ag Ah Ai Aj oz Jn Jo Jp Jq Jr Js Jt Ju Jv Jw Al Am An Ao Ap Aq xf xg xh As Au Av Aw Ax Ay Az Ba Bb Bc Bd Be Bf Bg Bh Bi Bj Bk Bl Bm rf rh rm Bn Bo Bp Bq ml d9 t_SIDES gj ay)
include T
def aN9:eK P w K mg base jW 1 Jj Jv ["field"] (qE K aNk):=by
 refine fnF T.D_8.F aNx λhr nd ds Q h=>?_;obtain⟨f,rfl,h2,h5,h⟩:=h;refine⟨_,(bI (ss 1 nd (cS bY eF (aJ 0) aP))
 (bI (ss 2 nd (cS bY eF (aJ 0) aP))
 (bI (ss 3 nd (wH (dR kP oH (cB jO (aC (aJ 2) aR) dA T.b_len fR) aP) (jY nQ yX (aJ 2) mH (lF aP)) (aJ 2)))
 (bI (ss 4 nd (jY nQ yX (aJ 2) (lF aP) (lF (ML aP))))
 (bW (NU (aFz (el (fr:=[none,some 1]) (N':=["value","name"]) (fJ (aJ 3)) (λb=>⟨(dZ (pk 0)),jG,(eB (aC gT (aC (aJ 1) (aC (aJ 0) aR))))⟩)) (el (fr:=[none,some 1]) (N':=["value","name"]) (fJ (aJ 4)) (λb=>⟨(dZ (pk 0)),jG,(eB (aC gT (aC (aJ 1) (aC (aJ 0) aR))))⟩))))))))),?_⟩
 show iY _ _ _ [.val (oJ f),.un,.un,.un,.un];refine dI (.str f.1) (λq hq=>⟨_,rfl,_,rfl,hq⟩) ?_;refine dI (.tuple (f.2.map aY)) (λq hq=>⟨_,rfl,_,rfl,hq⟩) ?_;refine dI (.tuple ((vT f).map aY)) (λq hq=>⟨_,rfl,?_⟩) ?_
 ·show(if decide (((f.2.map aY).length:Int)=2)=true then _ else _);unfold vT at hq;rw[aB];by_cases e:f.2.length=2
  ·rw[b9 (d7 (by omega))];rw[b9 e]at hq;refine⟨_,rfl,?_⟩;show q (.tuple (mL (f.2.map aY) none (some 1)));rw[vG,PK _ h2];exact hq
  ·rw[b8 (by simpa using(by omega:¬(f.2.length:Int)=2))];rw[b8 e]at hq;exact⟨_,rfl,hq⟩
 refine dI (.tuple ((yT f).map aY)) (λq hq=>⟨_,rfl,?_⟩) ?_
 ·show q (.tuple (mL (f.2.map aY) (some 1) (some (-2))));rw[vG,aBd _ h2];exact hq
 have s5:(vT f).length<=5:=by
  unfold vT;split
  ·rw[bA];omega
  ·omega
 have m5:(yT f).length<=5:=by
  unfold yT;rw[bA,fF];omega
 dsimp only[aCh,aDa];refine jV (ts:=(vT f).map aY) (λR h=>⟨_,rfl,_,rfl,h⟩) (λx=>.tuple [.str "is",.str f.1,x]) (by rw[aB];omega) (λx q hx hq=>⟨_,rfl,_,rfl,aE rfl,hq⟩) ?_;refine jV (ts:=(yT f).map aY) (λR h=>⟨_,rfl,_,rfl,h⟩) (λx=>.tuple [.str "upto",.str f.1,x]) (by rw[aB];omega) (λx q hx hq=>⟨_,rfl,_,rfl,aE rfl,hq⟩) ?_;refine⟨_,_,rfl,rfl,by simp only[aB];omega,?_⟩;rw[bH,bH];exact h
def aOa:eK P w K mg base jW 2 Ji Ju ["form"] (qE K aNl):=by
 refine fnF T.D_7.F aNy λhr nd ds Q h=>?_;obtain⟨fs,an,rfl,F,h⟩:=h;refine⟨_,(bI (so 1 nd aR)
 (bI (sf (fJ (cS bY eF (aJ 0) aP)) (dZ (pn 2 nd))
 (bW (NV (i:=1) (pv 1) (O9 (cF (aN9 T) T.D_8 hr (aC (aJ 2) aR))) (pb:=λh=>qA (oN eA D6 D5 OQ (pv 1) h)))))
 (bW (QE (pv 1))))),?_⟩
 show iY _ _ _ [.val (gH fs an),.un,.un];have n5:=F.n5;refine pZ [] (by decide) (λq hq=>hq) ?_
 refine jK (ts:=fs.map oJ) (λR h=>⟨_,rfl,_,rfl,_,rfl,h⟩)
  (λk σ=>∃s2:Sl,σ=[.val (gH fs an),.own (eZ (fs.take k)),s2]) ⟨_,rfl⟩ (λk x g6 hx hP=>?_) λg6 hP=>?_
 ·obtain⟨s2,rfl⟩:=hP;rw[aH]at hx;obtain⟨f,EM,rfl⟩:=bL.mp hx;have hf:f∈fs:=aN EM;obtain⟨v2,v5,Qa⟩:=F.vs f hf;have gc:=kO F (fs.take k) λg hg=>fB hg;have Eb:(fs.take k).length<=5:=by rw[bA];omega
  have Ps:(LI f).length<=10:=by
   unfold LI vT yT;rw[bC,aB,aB,bA,fF];split
   ·rw[bA];omega
   ·omega
  refine IU (ts:=eZ (fs.take k)) (us:=LI f) rfl (by omega) (λq hq=>⟨_,rfl,f,rfl,v2,v5,hq⟩) ⟨.val (oJ f),?_⟩
  have e:eZ (fs.take (k+1))=eZ (fs.take k)++LI f:=by
   unfold eZ;rw[cV,EM,bV,SG];show _++[LI f].flatten=_;rw[KP]
  rw[e];rfl
 ·obtain⟨s2,rfl⟩:=hP;rw[aB,dE];exact⟨_,rfl,h⟩
def aN8:eK P w K mg base jW 3 Jk Jw ["form"] (dM K aNj):=by
 refine tE T.D_9.F aNw λhr nd ds Q h=>?_;obtain⟨fs,an,rfl,F,h⟩:=h;refine⟨_,(bI (so 1 nd aR)
 (bI (sf (fJ (O9 (cF (aOa T) T.D_7 hr (aC (aJ 0) aR)))) (dZ (pn 2 nd))
 (bW (NV (i:=1) (pv 1) (el (fr:=[none,some 2]) (N':=["stray","question"]) (fJ (aAz rfl T.c_SIDES T.t_SIDES)) (λb=>⟨(dZ (pk 0)),jG,(eB (aC (aJ 1) (aC (aJ 0) aR)))⟩)) (pb:=λh=>qA (oN eA D6 D5 OQ (pv 1) h)))))
 (tG 1 (bW (dC (aJ 1)))))),?_⟩
 show iY _ _ _ [.val (gH fs an),.un,.un];have n5:=F.n5;have gc:=kO F fs λg hg=>hg;have Ps:(qs fs).length=(eZ fs).length:=by rw[<- rQ,aB]
 refine pZ [] (by decide) (λq hq=>hq) ?_
 refine jK (ts:=(qs fs).map qD) (λR h=>⟨_,rfl,fs,an,rfl,F,_,rfl,by rw[<- rQ];exact h⟩)
  (λk σ=>∃s2:Sl,σ=[.val (gH fs an),.own ((((qs fs).take k).flatMap wQ).map chQ),s2]) ⟨_,rfl⟩ (λk x g6 hx hP=>?_) λg6 hP=>?_
 ·obtain⟨s2,rfl⟩:=hP;rw[aH]at hx;obtain⟨q,Ig,rfl⟩:=bL.mp hx
  have o8:((((qs fs).take k).flatMap wQ).map chQ).length=2*((qs fs).take k).length:=by
   rw[aB]
   generalize (qs fs).take k=l
   induction l with
   |nil=>rfl
   |cons x l ih=>rw[zZ,bC,ih,cH];show 2+_=_;omega
  have Fn:((qs fs).take k).length<=50:=by rw[bA];omega
  refine IU (us:=[chQ (q,"yes"),chQ (q,"no")]) rfl (by rw[o8];show _+2<=_;omega) (λr hr=>?_) ⟨.val (qD q),?_⟩
  ·refine jV (ts:=[.str "yes",.str "no"]) (λR h=>⟨_,rfl,h⟩) (λx=>.tuple [qD q,x]) (by decide) (λx r' hx El=>⟨_,rfl,_,rfl,(aE rfl),El⟩) hr
  ·rw[cV,Ig];show _=[_,Sl.own (((((qs fs).take k)++[q]).flatMap wQ).map chQ),_];rw[SH,bV];rfl
 ·obtain⟨s2,rfl⟩:=hP;rw[aB,dE];exact⟨_,rfl,_,rfl,h⟩
def aKs:eK P w K mg base jW 1 zh Ao ["question","field"] (dM K aId):=by
 refine tE T.D_13.F aI8 λhr nd ds Q h=>?_;obtain⟨k,n,v,f,rfl,hn,hv,hl,h⟩:=h;refine⟨_,(bI (iS (dR kP oH (cS bY eF (aJ 0) aP) gT)
 (bW (dC (eB (aC (cS bY eF (aJ 0) aP) aR))))
 gD)
 (bW (dC (jY nQ yX (cS bY eF (aJ 1) aP) mH (lF (dB cX gR (yA (cS bY eF (aJ 1) aP) (aC (cS bY eF (aJ 0) aP) aR) (λh ha=>oN mG mF mE (xW hr) h ha)) aP)))))),?_⟩
 show iY _ _ _ [.val (.tuple [.str k,.str n,.str v]),.val (oJ f)];unfold CA at h;refine gK (λb=>b=decide (k="is")) (λq hq=>⟨_,rfl,_,rfl,hq _ rfl⟩) (λhT=>?_) λhF=>?_
 ·rw[b9 (e7 hT.symm)]at h;exact⟨_,rfl,_,rfl,aE rfl,h⟩
 ·try unfold lZ
  dsimp only;rw[b8 (gp hF.symm)]at h;refine⟨_,rfl,_,rfl,_,rfl,_,rfl,_,rfl,_,rfl,_,rfl,_,_,rfl,qV hn hv,?_⟩;show Q (.tuple (mL (f.2.map aY) none (some ((f.2.idxOf v:Int)+1))));have e:((f.2.idxOf v:Nat):Int)+1=((f.2.idxOf v+1:Nat):Int):=rfl;rw[e,vG,zE];exact h
def aKt:eK P w K mg base jW 2 zg An ["question","stray","field"] (dM K aIe):=by
 refine tE T.D_12.F aI9 λhr nd ds Q h=>?_;obtain⟨k,n,v,st,f,rfl,hn,hv,hl,h⟩:=h;refine⟨_,(bW (dC (dB cX gR (cd (aKs T) T.D_13 hr (aC (aJ 0) (aC (aJ 2) aR))) (wH (dR kP oH (aJ 1) gT) (eB (aC uB aR)) (eB aR))))),?_⟩;have Xl:=WH (k:=k) (v:=v) hl;refine⟨_,rfl,_,rfl,k,n,v,f,rfl,hn,hv,hl,_,rfl,?_⟩;unfold wC at h;show(if decide (st="yes")=true then _ else _);by_cases e:st="yes"
 ·rw[b9 (d7 e)];rw[b9 e]at h;exact⟨aE rfl,by rw[aB];show _+1<=_;omega,h⟩
 ·rw[b8 (by simpa using e)];rw[b8 e]at h;exact⟨aE rfl,by rw[aB];show _+0<=_;omega,h⟩
def aKu:eK P w K mg base jW 1 zf Am ["form","question"] (dM K aIf):=by
 refine tE T.D_11.F aJa λhr nd ds Q h=>?_;obtain⟨fs,an,k,n,v,f0,j,rfl,F,hj,se,h⟩:=h;refine⟨_,(bW (dC (FC (el (fr:=[none]) (N':=["field"]) (fJ (cS bY eF (aJ 0) aP)) (λb=>⟨(dZ (pk 0)),jG,(cS bY eF (aJ 0) aP)⟩)) (aC (cS bY eF (aJ 1) aP) aR) (λh ha=>oN eA FM FL (ES hr) h ha)))),?_⟩;have n5:=F.n5;have pj:=(aD.mp hj).1;have ej:(fs.map (·.1)).idxOf n=j:=by rw[<- se];exact A2 F hj
 have Ut:n∈fs.map (·.1):=aQ.mpr ⟨f0,aN hj,se⟩;show GU _ _ _ Q;dsimp only[GU];refine jV (ts:=fs.map oJ) (λR h=>⟨_,rfl,_,rfl,_,rfl,h⟩) fst (by rw[aB];omega) (λx q hx hq=>?_) ?_
 ·obtain⟨f,hf,rfl⟩:=aQ.mp hx;exact⟨_,rfl,_,rfl,hq⟩
 ·have e:(fs.map oJ).map fst=(fs.map (·.1)).map aY:=by rw[bH,bH];rfl
  rw[e];have:=qV F.nd.2.1 Ut;rw[ej]at this;exact⟨_,rfl,_,rfl,_,rfl,_,j,rfl,this,by omega,h⟩
def aKv:eK P w K mg base jW 3 ze Al ["form","question","stray","case"] (dM K aB9):=by
 refine tE T.D_10.F aJb λhr nd ds Q h=>?_;obtain⟨fs,an,k,n,v,st,cs,rfl,F,hq,jx,hc,h⟩:=h;refine⟨_,(bI (ss 4 nd (cd (aKu T) T.D_11 hr (aC (aJ 0) (aC (aJ 1) aR))))
 (bW (dC (wH (dR (GC hr) OL (cS bY eF (aJ 3) (aJ 4)) (cd (aKt T) T.D_12 hr (aC (aJ 1) (aC (aJ 2) (aC (cS bY eF (cS bY eF (aJ 0) aP) (aJ 4)) aR))))) gT gT)))),?_⟩
 show iY _ _ _ [.val (gH fs an),.val (.tuple [.str k,.str n,.str v]),.val (.str st),.val (.tuple cs),.un];obtain⟨gc,uy⟩:=qY hc;obtain⟨f0,Bu,se,Pz,Ke⟩:=GI hq;obtain⟨j,hj⟩:=bK Bu;have pj:=(aD.mp hj).1;have xl:cs[j]?=some cs[j]:=aG (by omega)
 generalize He:cs[j]=c at xl
 have Fj:L2.atI cs (j:Int)=some c:=L2.gU xl;have wt:L2.atI (fs.map oJ) (j:Int)=some (oJ f0):=L2.gU (by rw[aH,hj];rfl);have hok:=uy j f0 c hj xl;rw[BL F hj xl se]at h
 have my:Cd c:=by
  cases c with
  |none=>exact(FY (n:=8) (m:=0)).cd (by decide)
  |str z=>exact(nW (F.vals Bu z (e7 hok)) (n:=8) (m:=0) (aL _)).cd (by decide)
  |_=>cases hok
 refine dI (.int (j:Int)) (λq hq=>⟨_,rfl,_,rfl,fs,an,k,n,v,f0,j,rfl,F,hj,se,hq⟩) ?_;refine⟨_,rfl,_,rfl,_,Fj,_,rfl,_,rfl,_,rfl,_,rfl,_,rfl,_,wt,k,n,v,st,f0,rfl,F.vals Bu,Pz,(F.vs f0 Bu).2.1,JQ (U0 (F.vals Bu) Pz my) ?_⟩;rw[<- WA jx hok]at h;show(if DD c (.tuple (wC k v st f0))=true then _ else _)
 cases hb:DD c (.tuple (wC k v st f0))with
 |true=>rw[b9 rfl];rw[hb,b9 rfl]at h;exact h
 |false=>rw[b8 (by decide)];rw[hb,b8 (by decide)]at h;exact h
def aKq:eK P w K mg base jW 4 zj Aq ["form","choice","rows"] (dM K aIb):=by
 refine tE T.D_15.F aI6 λhr nd ds Q h=>?_;obtain⟨fs,an,c,rs,rfl,F,hc,lx,hl,h⟩:=h;refine⟨_,(bW (dC (el (fr:=[none,some 0,some 1]) (N':=["row","form","choice"]) (fJ (aJ 2)) (λb=>⟨(dZ (pk 0)),jG,(cd (aKv T) T.D_10 hr (aC (aJ 1) (aC (cS bY eF (aJ 2) aP) (aC (cS bY eF (aJ 2) aP) (aC (cS bY eF (aJ 0) aP) aR)))))⟩)))),?_⟩;show LB _ _ [.val (gH fs an),.val (chQ c),.val (.list (rs.map fC))];obtain⟨hq,hs⟩:=MR hc;refine jV (ts:=rs.map fC) (λR h=>⟨_,rfl,_,rfl,h⟩) (λx=>match x with | .tuple [.tuple cs,_]=>.str (lT fs c.1.1 c.1.2.1 c.1.2.2 c.2 cs) | _=>.none) (by rw[aB];omega) (λx q' hx fu=>?_) ?_
 ·obtain⟨r,El,rfl⟩:=aQ.mp hx;exact⟨_,rfl,_,rfl,_,rfl,_,rfl,_,rfl,_,rfl,_,rfl,fs,an,c.1.1,c.1.2.1,c.1.2.2,c.2,r.1,rfl,F,F6 hq,hs,(lx r El).1,fu⟩
 ·rw[bH];exact h
def aE9:eK P w K mg base jW 5 Gm Jn ["self","form","rows","prices"] (A3 d9 eE K aNs):=by
 refine fnI T.D_0.F aN5 λhr nd zz ds Q h=>?_;obtain⟨fs,an,rs,a,b,rfl,F,lx,hl,h⟩:=h;refine⟨_,(xU T.C_RowSets T.n_RowSets_form (pv 0) (aJ 1)
 (xU T.C_RowSets T.n_RowSets_kept (pv 0) (cY MV (aC (aJ 2) aR) sK T.b_list yE)
 (xU T.C_RowSets T.n_RowSets_slip (pv 0) (cS bY eF (aJ 3) aP)
 (xU T.C_RowSets T.n_RowSets_knot (pv 0) (cS bY eF (aJ 3) aP)
 (xU T.C_RowSets T.n_RowSets_choices (pv 0) (el (fr:=[none,some 1,some 2]) (N':=["choice","form","rows"]) (fJ (cd (aN8 T) T.D_9 hr (aC (aJ 1) aR))) (λb=>⟨(dZ (pk 0)),jG,(dB cX gR (aJ 0) (eB (aC (cd (aKq T) T.D_15 hr (aC (aJ 1) (aC (aJ 0) (aC (aJ 2) aR)))) aR)))⟩))
 aFf))))),?_⟩
 show aK2 _ _ _ _ _ [.val zz,.val (gH fs an),.val (.list (rs.map fC)),.val (.tuple [.int a,.int b])];have n5:=F.n5;have gc:=kO F fs λg hg=>hg;have jm:=A8 fs;refine⟨_,rfl,(aE rfl),(λz=>nomatch z),_,rfl,(aE rfl),(show("kept":Str)∉(["form"]:List Str)from by decide +kernel),_,rfl,_,rfl,(aE rfl),(show("slip":Str)∉(["form","kept"]:List Str)from by decide +kernel),_,rfl,_,rfl,(aE rfl),(show("knot":Str)∉(["form","kept","slip"]:List Str)from by decide +kernel),?_⟩;refine jV (ts:=(lG fs).map chQ) (λR h=>⟨_,rfl,fs,an,rfl,F,_,rfl,h⟩) (λx=>match x with | .tuple [.tuple [.str k,.str n,.str v],.str s]=>chD fs rs ((k,n,v),s) | _=>.none) (by rw[aB];omega) (λx q' hx fu=>?_) ?_
 ·obtain⟨c,hc,rfl⟩:=aQ.mp hx;exact⟨_,rfl,_,rfl,_,rfl,_,rfl,fs,an,c,rs,rfl,F,hc,lx,hl,(aE rfl),(aE rfl),fu⟩
 ·rw[bH];exact⟨(aE rfl),(show("choices":Str)∉(["form","kept","slip","knot"]:List Str)from by decide +kernel),rfl,h⟩
def aKf:eK P w K mg base jW 1 Je Jq ["form","rows"] (qE K aNp):=by
 refine fnF T.D_3.F aN2 λhr nd ds Q h=>?_;obtain⟨fs,an,rs,rfl,F,hok,oq,h⟩:=h;refine⟨_,(bI (ss 2 nd (el (fr:=[none]) (N':=["row"]) (fJ (aJ 1)) (λb=>⟨(dZ (pk 0)),jG,(cS bY eF (aJ 0) aP)⟩)))
 (bW (NU (fl (fr:=[none,some 2]) (N':=["answer","told"]) (fJ (cS bY eF (aJ 0) aP)) (λb=>⟨(dZ (pk 0)),jG,(RT (aJ 1) (aC (aJ 0) aR) (λh ha=>oN eA PySem.F.slot_list_count PySem.F.type_list_count (Q6 hr) h ha))⟩))))),?_⟩
 show iY _ _ _ [.val (gH fs an),.val (.list (rs.map fC)),.un];have a4:=F.a4;refine dI (.list (rs.map λr=>aY r.2)) (λq hq=>?_) ?_
 ·refine jV (ts:=rs.map fC) (λR h=>⟨_,rfl,_,rfl,h⟩) aNt (by rw[aB];omega) (λx q hx hq=>?_) ?_
  ·obtain⟨r,hr,rfl⟩:=aQ.mp hx;exact⟨_,rfl,_,rfl,hq⟩
  ·rw[bH];exact hq
 have ll:=VT (ys:=rs.map λr=>r.2) λy hy=>by
  obtain⟨r,hr,rfl⟩:=aQ.mp hy;exact F.an.2.1 _ (hok r hr).2
 rw[bH]at ll;refine aF0 (jV (ts:=an.map aY) (λR h=>⟨_,rfl,_,rfl,_,rfl,h⟩) (aLw rs) (by rw[aB];omega) (λx q hx hq=>?_) ?_)
 ·obtain⟨a,ha,rfl⟩:=aQ.mp hx;have hA:=nW (F.an.2.1 a ha) (n:=8) (m:=0) (aL _);refine⟨_,rfl,_,rfl,_,rfl,_,rfl,⟨ll.1,hA.lay,by have:=hA.depth;omega⟩,?_⟩;rw[K1];exact hq
 ·show Q _
  have e:(an.map aY).map (aLw rs)=(tD an rs).map aM:=by
   unfold tD;rw[bH,bH];rfl
  rw[e];exact h
def aOc:eK P w K mg base jW 2 Jf Jr ["form","rows"] (dM K aNo):=by
 refine tE T.D_4.F aN1 λhr nd ds Q h=>?_;obtain⟨fs,an,rs,rfl,F,hok,oq,h⟩:=h;refine⟨_,(bI (ss 2 nd (O9 (cF (aKf T) T.D_3 hr (aC (aJ 0) (aC (aJ 1) aR)))))
 (bW (dC (cS bY eF (cS bY eF (aJ 0) aP) (FC (aJ 2) (aC (cB aDg (aC (aJ 2) aR) (wI rfl) T.b_max XG) aR) (λh ha=>oN eA FM FL (ES hr) h ha)))))),?_⟩
 show iY _ _ _ [.val (gH fs an),.val (.list (rs.map fC)),.un];have a2:=F.a2;refine dI (.list ((tD an rs).map aM)) (λq hq=>⟨_,rfl,_,rfl,fs,an,rs,rfl,F,hok,oq,hq⟩) ?_
 have al:tD an rs≠[]:=λz=>by
  have:=i6 gO z;unfold tD at this;rw[aB]at this;simp at this;rw[this]at a2;simp at a2
 refine⟨_,rfl,_,rfl,_,rfl,_,rfl,_,rfl,_,rfl,al,λm hm Hw=>?_⟩;obtain⟨j,hj,qm⟩:=JO (tD an rs) m hm;have pj:=(aD.mp hj).1;have Ka:(tD an rs).length=an.length:=by unfold tD;rw[aB]
 have a4:=F.a4;have Ll:an[j]?=some an[j]:=aG (by omega);have xl:(tD an rs)[j]?=some ((CL rs an[j]:Nat):Int):=by unfold tD;rw[aH,Ll];rfl
 rw[hj]at xl;have em:m=((CL rs an[j]:Nat):Int):=e9 xl;refine⟨_,j,rfl,Q0 hj qm,by omega,_,L2.gU (by rw[aH,Ll];rfl),h _ ⟨j,Ll,λi b hb=>?_,λi b hi hb=>?_⟩⟩
 ·have:=Hw ((CL rs b:Nat):Int) (aN (i:=i) (by unfold tD;rw[aH,hb];rfl));omega
 ·have Ow:(tD an rs)[i]?=some ((CL rs b:Nat):Int):=by unfold tD;rw[aH,hb];rfl
  have h1:=Hw _ (aN Ow);have h2:((CL rs b:Nat):Int)≠m:=λz=>qm i hi (by rw[Ow,z]);omega
def ZS:eK P w K mg base jW 3 Gn Jo ["self","numbers"] (dM K (aNr w d9)):=by
 refine tE T.D_1.F aN4 λhr nd ds Q h=>?_;obtain⟨fs,an,fa,rs,a,b,ns,rfl,S,cg,h⟩:=h;refine⟨_,(bI (BG (i:=2) (fr:=[none,some 0]) (N':=["number","self"]) (fJ (aJ 1)) (λb=>⟨(dZ (pk 0)),jG,(cS bY eF (xA (K:=K) rfl (aJ 1)) (aJ 0))⟩) (λhi hY=>yU (show wE _ (bQ (wV (top 26) 1)) ["self","numbers","rows","slips"] ["number","self"] [none,some 0]=true from by decide +kernel) nd rfl (by first | exact ag rfl | exact y8 rfl) rfl hi hY rfl))
 (bI (ss 3 nd (dB mK sZ (cB jO (aC (aJ 2) aR) dA T.b_len fR) (cB aDg (aC (O9 (cF (aKf T) T.D_3 hr (aC (xA (K:=K) rfl (aJ 0)) (aC (aJ 2) aR)))) aR) (wI rfl) T.b_max XG)))
 (bW (dC (eB (aC (dB jI sQ (xA (K:=K) rfl (aJ 0)) (aJ 3)) (aC (eB (aC gT (aC (cd (aOc T) T.D_4 hr (aC (xA (K:=K) rfl (aJ 0)) (aC (aJ 2) aR))) aR))) aR))))))),?_⟩
 show iY _ _ _ [.val (kI d9 fs an rs a b),.val (eS ns),.un,.un];have bo:∀i∈ns,i<rs.length:=λi hi=>cg.lt hi;have hR:=Y4 S.R ns;have hl:=S.l;have Ee:=cg.len;have oq:(bF rs ns).length<=60:=by rw[BN bo];omega
 refine dI (.list ((bF rs ns).map fC)) (λq hq=>?_) ?_
 ·refine jV (ts:=ns.map λ(i:Nat)=>aM (i:Int)) (λR h=>⟨_,rfl,_,rfl,h⟩) (T3 rs) (by rw[aB];omega) (λx q' hx fu=>?_) (by rw[N0 bo];exact hq);obtain⟨i,hi,rfl⟩:=aQ.mp hx;have er:rs[i]?=some (rs[i]'(bo i hi)):=aG (bo i hi);refine⟨_,rfl,d9,eE,_,_,rfl,T.C_RowSets,T.n_RowSets_kept,(EV _ _ _ _ _).2.1,_,rfl,_,L2.gU (v:=fC (rs[i]'(bo i hi))) (by rw[aH,er];rfl),?_⟩
  have e:T3 rs (.int (i:Int))=fC (rs[i]'(bo i hi)):=by
   show(match L2.atI rs (i:Int)with | some r=>fC r | none=>vO)=_;rw[L2.gU er]
  rw[e]at fu;exact fu
 have hf:=S.fa _ hR;have ho:=OG (bF rs ns) (fa (bF rs ns));refine dI (.int (lR fs (.say (fa (bF rs ns))) (bF rs ns):Nat)) (λq hq=>?_) ?_
 ·refine⟨_,rfl,_,rfl,d9,eE,_,_,rfl,T.C_RowSets,T.n_RowSets_form,(EV _ _ _ _ _).1,_,rfl,fs,an,bF rs ns,rfl,S.F,hR,oq,tD an (bF rs ns),rfl,?_,λm hm hx=>?_⟩
  ·intro z;have a2:=S.F.a2;have:=i6 gO z;unfold tD at this;rw[aB,uN]at this;omega
  ·rw[Z1 hf hm hx];show q (.int (((((bF rs ns).map fC).length:Nat):Int)-_));rw[BI]at hq;have e:((((bF rs ns).map fC).length:Nat):Int)-(CL (bF rs ns) (fa (bF rs ns)):Int)=((US (bF rs ns) (fa (bF rs ns)):Nat):Int):=by rw[aB];omega
   rw[e];exact hq
 have hs:=BI (fs:=fs) (bF rs ns) (fa (bF rs ns));have a0:=S.a0;have a1:=S.a1;refine⟨_,rfl,d9,eE,_,_,rfl,T.C_RowSets,T.n_RowSets_slip,(EV _ _ _ _ _).2.2.1,_,rfl,.inl ⟨by omega,by omega⟩,_,rfl,d9,eE,_,_,rfl,T.C_RowSets,T.n_RowSets_form,(EV _ _ _ _ _).1,_,rfl,fs,an,bF rs ns,rfl,S.F,hR,oq,λz hz=>?_⟩;rw[hz.uniq hf];exact⟨(aE rfl),(aE rfl),h⟩
def aKr:eK P w K mg base jW 1 zi Ap ["sides","fewest"] (dM K aIc):=by
 refine tE T.D_14.F aI7 λhr nd ds Q h=>?_;obtain⟨xs,ys,rfl,h⟩:=h;refine⟨_,(bW (dC (sG (nT UW nA (cB jO (aC (cS bY eF (aJ 0) aP) aR) dA T.b_len fR) (aJ 1)) (sE (nT UW nA (cB jO (aC (cS bY eF (aJ 0) aP) aR) dA T.b_len fR) (aJ 1)))))),?_⟩;show LB _ _ [.val (.tuple [eS xs,eS ys]),.val (.int 1)]
 have e:∀zs:List Nat,decide ((1:Int)<=((zs.map λ(i:Nat)=>aM (i:Int)).length:Int))=!zs.isEmpty:=λzs=>by
  cases zs with
  |nil=>rfl
  |cons z zs=>rw[aB];exact d7 (by simp only[cH];omega)
 refine⟨_,rfl,_,rfl,_,rfl,?_⟩;show(if decide ((1:Int)<=((xs.map λ(i:Nat)=>aM (i:Int)).length:Int))=true then _ else _);rw[e xs]
 cases xs with
 |nil=>rw[b8 (by decide)];exact h
 |cons x xs=>
  rw[b9 (by rfl)];refine⟨_,rfl,_,rfl,_,rfl,?_⟩;show Q (.bool (decide ((1:Int)<=((ys.map λ(i:Nat)=>aM (i:Int)).length:Int))));rw[e ys];exact h
def aE8:eK P w K mg base jW 2 Go Jp ["self","numbers"] (dM K (aNq w d9)):=by
 refine tE T.D_2.F aN3 λhr nd ds Q h=>?_;obtain⟨fs,an,fa,rs,a,b,ns,rfl,S,cg,h⟩:=h;refine⟨_,(bI (so 2 nd aR)
 (bI (sf (fJ (xA (K:=K) rfl (aJ 0))) (vF (mZ rfl (dO (pn 3 nd) (dO (pn 4 nd) (dO (pn 5 nd) lE)))))
 (bI (ss 6 nd (cY vI (aC (el (fr:=[none,some 5]) (N':=["number","sides"]) (fJ (aJ 1)) (λb=>⟨(dZ (pk 0)),(GL (dR kP oH (cS bY eF (aJ 1) (aJ 0)) gT)),(aJ 0)⟩)) aR) kY T.b_tuple jZ))
 (bI (ss 7 nd (cY vI (aC (el (fr:=[none,some 5]) (N':=["number","sides"]) (fJ (aJ 1)) (λb=>⟨(dZ (pk 0)),(GL (dR kP oH (cS bY eF (aJ 1) (aJ 0)) gT)),(aJ 0)⟩)) aR) kY T.b_tuple jZ))
 (bW (iS (tv (cd (aKr T) T.D_14 hr (aC (eB (aC (aJ 6) (aC (aJ 7) aR))) (aC aP aR))))
 (bW (yS (i:=2) (pv 2) (eB (aC (aJ 3) (aC (aJ 4) (aC (aJ 6) (aC (aJ 7) aR))))) (pb:=λh=>qA (oN eA iI iH nS (pv 2) h))))
 gD)))))
 (tG 2 (bW (dC (aJ 2)))))),?_⟩
 show iY _ _ _ [.val (kI d9 fs an rs a b),.val (eS ns),.un,.un,.un,.un,.un,.un];have bo:∀i∈ns,i<rs.length:=λi hi=>cg.lt hi;have hl:=S.l;have Ee:=cg.len;have n5:=S.F.n5;have gc:=kO S.F fs λg hg=>hg;have jm:=A8 fs;refine pZ [] (by decide) (λq hq=>hq) ?_
 refine jK (ts:=(lG fs).map (chD fs rs)) (λR h=>⟨_,rfl,d9,eE,_,_,rfl,T.C_RowSets,T.n_RowSets_choices,(EV _ _ _ _ _).2.2.2.2,_,rfl,h⟩)
  (λk σ=>∃s3 s4 s5 s6 s7:Sl,σ=[.val (kI d9 fs an rs a b),.val (eS ns),.own ((((lG fs).take k).filter (dX fs (bF rs ns))).map (LK fs rs ns)),s3,s4,s5,s6,s7]) ⟨_,_,_,_,_,rfl⟩ (λk x g6 hx hP=>?_) λg6 hP=>?_
 ·obtain⟨s3,s4,s5,s6,s7,rfl⟩:=hP;rw[aH]at hx;obtain⟨c,qk,rfl⟩:=bL.mp hx;have hc:c∈lG fs:=aN qk;obtain⟨w1,w2⟩:=TM S.F hc S.R bo
  have Qt:∀x∈ns.map (λ(i:Nat)=>aM (i:Int)),∃(i:Nat)(r:Rw),x=.int (i:Int)/\rs[i]?=some r:=λx hx=>by
   obtain⟨i,hi,rfl⟩:=aQ.mp hx;exact⟨i,_,rfl,aG (bo i hi)⟩
  refine⟨_,_,_,rfl,?_⟩;refine dI (eS (yN fs rs c ns)) (λq hq=>?_) ?_
  ·dsimp only[oP,yG]
   refine xY (ts:=ns.map λ(i:Nat)=>aM (i:Int)) (λR h=>⟨_,rfl,_,rfl,h⟩) (yV fs c.1.1 c.1.2.1 c.1.2.2 c.2 rs "yes") id (by rw[aB];omega) (λx q' hx fu=>by
    obtain⟨i,r,rfl,er⟩:=Qt x hx;rw[EO er]at fu;exact⟨_,rfl,_,rfl,_,L2.gU (v:=aY (lT fs c.1.1 c.1.2.1 c.1.2.2 c.2 r.1)) (by rw[aH,er];rfl),fu⟩) (λx q' hx fu=>⟨_,rfl,fu⟩) ?_
   rw[w1,jA];exact hq
  refine dI (eS (nN fs rs c ns)) (λq hq=>?_) ?_
  ·dsimp only[oP,yG]
   refine xY (ts:=ns.map λ(i:Nat)=>aM (i:Int)) (λR h=>⟨_,rfl,_,rfl,h⟩) (yV fs c.1.1 c.1.2.1 c.1.2.2 c.2 rs "no") id (by rw[aB];omega) (λx q' hx fu=>by
    obtain⟨i,r,rfl,er⟩:=Qt x hx;rw[EO er]at fu;exact⟨_,rfl,_,rfl,_,L2.gU (v:=aY (lT fs c.1.1 c.1.2.1 c.1.2.2 c.2 r.1)) (by rw[aH,er];rfl),fu⟩) (λx q' hx fu=>⟨_,rfl,fu⟩) ?_
   rw[w2,jA];exact hq
  have hp:=tQ (fs:=fs) (c:=c) bo
  have o8:((((lG fs).take k).filter (dX fs (bF rs ns))).map (LK fs rs ns)).length<=100:=by
   have h1:=iF (dX fs (bF rs ns)) ((lG fs).take k);have h2:((lG fs).take k).length<=(lG fs).length:=by rw[bA];omega
   rw[aB];omega
  have et:(lG fs).take (k+1)=(lG fs).take k++[c]:=by rw[cV,qk];rfl
  refine pF (λt=>t=dX fs (bF rs ns) c) (λq hq=>⟨_,rfl,_,rfl,(aE rfl),yN fs rs c ns,nN fs rs c ns,rfl,hq _ hp.symm⟩) (λht=>?_) λhf=>?_
  ·refine uX (LK fs rs ns c) rfl (by omega) (λq hq=>⟨_,rfl,_,rfl,_,rfl,_,rfl,(aE rfl),hq⟩) ⟨.val (qD c.1),.val (.str c.2),.val (YV fs rs c),.val (eS (yN fs rs c ns)),.val (eS (nN fs rs c ns)),?_⟩;rw[et,iL,bV,cD,b9 ht.symm];rfl
  ·refine⟨.val (qD c.1),.val (.str c.2),.val (YV fs rs c),.val (eS (yN fs rs c ns)),.val (eS (nN fs rs c ns)),?_⟩;rw[et,iL,bV,cD,b8 (by rw[<- hf];decide)];show _=[_,_,Sl.own (_++[]),_,_,_,_,_];rw[dP];rfl
 ·obtain⟨s3,s4,s5,s6,s7,rfl⟩:=hP;rw[aB,dE];exact⟨_,rfl,_,rfl,h⟩
def aJ2:eK P w K mg base jW 1 Jg Js ["thing","fewest","most"] (dM K aNn):=by
 refine tE T.D_5.F aN0 λhr nd ds Q h=>?_;obtain⟨xs,lo,hi,rfl,h⟩:=h;refine⟨_,(bW (dC (sG (CF (yZ _) (aJ 0) (λh=>jL uE rfl T.b_isinstance iU (dY h (dY (uV rfl T.b_tuple jZ rfl) hU)))) (sE (JU OI OI nA nA (aJ 1) (cB jO (aC (aJ 0) aR) dA T.b_len fR) (aJ 2)))))),?_⟩;refine⟨_,rfl,?_⟩;dsimp only[V5];rw[b9 (show RI "tuple" (.tuple xs)=true from rfl)];refine⟨_,rfl,_,rfl,?_⟩;by_cases h1:lo<=(xs.length:Int)
 ·rw[d7 h1,yM]at h;show(if decide (lo<=(xs.length:Int))=true then _ else _);rw[b9 (d7 h1)];exact⟨_,rfl,h⟩
 ·rw[f9 h1,FV]at h;show(if decide (lo<=(xs.length:Int))=true then _ else _);rw[b8 (by simpa using h1)];exact h
def aOb:eK P w K mg base jW 1 Jh Jt ["thing"] (dM K aNm):=by
 refine tE T.D_6.F aNz λhr nd ds Q h=>?_;obtain⟨i,rfl,h⟩:=h;refine⟨_,(bW (dC (sG (CF (aAc _) (aJ 0) (λh=>jL uE rfl T.b_isinstance iU (dY h (dY (uV rfl T.b_int XH rfl) hU)))) (sE (aAw (CF (V2 _) (aJ 0) (λh=>jL uE rfl T.b_isinstance iU (dY h (dY (uV rfl T.b_bool aBl rfl) hU))))))))),?_⟩;refine⟨_,rfl,?_⟩;dsimp only[V5];rw[b9 (show RI "int" (.int i)=true from rfl)];exact⟨_,rfl,h⟩
def U2:eK P w K mg base jW 4 zm Av ["sets","known","numbers","deep"] (dM K (aH5 w d9)):=by
 refine tE T.D_21.F aI3 λhr nd ds Q h=>?_;obtain⟨fs,an,fa,rs,a,b,kvs,ns,d,rfl,S,cg,hok,jb,h⟩:=h;refine⟨_,(bW (dC (wH (dR pE nA (aJ 3) aP) (JT (w:=w) rfl hr.u9 (aJ 1) (eB (aC (aJ 2) (aC (aJ 3) aR)))) (pI (aJ 0) (aC (aJ 2) aR) (λh ha=>rR h T.C_RowSets T.M_1 (ZS (w:=w) T) (hr.mono (by decide)) T.D_1.d .nil qB ha))))),?_⟩;show LB _ _ [.val (kI d9 fs an rs a b),.val (mD w kvs),.val (eS ns),.val (.int (d:Nat))];refine⟨_,rfl,?_⟩;show(if decide ((0:Int)<((d:Nat):Int))=true then _ else _);by_cases hd:d=0
 ·subst hd;rw[b8 (by decide)];exact⟨_,rfl,eE,_,rfl,AY,_,rfl,fs,an,fa,rs,a,b,ns,rfl,S,cg,h⟩
 ·rw[b9 (d7 (by omega))];exact⟨_,rfl,_,rfl,_,rfl,(aE rfl),kvs,rfl,mI ns d,hok,_,jb.resolve_left hd,h⟩
def aKm:eK P w K mg base jW 5 zl Au ["sets","known","numbers","deep"] (dM K (aH6 w d9)):=by
 refine tE T.D_20.F aI4 λhr nd ds Q h=>?_;obtain⟨fs,an,fa,rs,a,b,kvs,ns,d,rfl,S,cg,hok,jb,h⟩:=h;refine⟨_,(bI (ss 4 nd (pI (aJ 0) (aC (aJ 2) aR) (λh ha=>rR h T.C_RowSets T.M_1 (ZS (w:=w) T) (hr.mono (by decide)) T.D_1.d .nil qB ha)))
 (bI (sf (fJ (pI (aJ 0) (aC (aJ 2) aR) (λh ha=>rR h T.C_RowSets T.M_2 (aE8 (w:=w) T) (hr.mono (by decide)) T.D_2.d .nil qB ha))) (GO (mZ rfl (dO (pn 5 nd) (dO (pn 6 nd) (dO (pn 7 nd) (dO (pn 8 nd) lE))))))
 (bI (ss 9 nd (cd (U2 (w:=w) T) T.D_21 hr (aC (aJ 0) (aC (aJ 1) (aC (aJ 7) (aC (dB mK sZ (aJ 3) aP) aR))))))
 (bI (ss 10 nd (cd (U2 (w:=w) T) T.D_21 hr (aC (aJ 0) (aC (aJ 1) (aC (aJ 8) (aC (dB mK sZ (aJ 3) aP) aR))))))
 (bI (ss 11 nd (dB cX gR (dB cX gR (xA (K:=K) rfl (aJ 0)) (cS bY eF (aJ 9) aP)) (cS bY eF (aJ 10) aP)))
 (bW (iS (dR BZ nA (aJ 11) (cS bY eF (aJ 4) aP))
 (bW (ss 4 nd (eB (aC (aJ 11) (aC (eB (aC gT (aC (aJ 5) (aC (aJ 6) (aC (cS bY eF (aJ 9) aP) (aC (cS bY eF (aJ 10) aP) aR)))))) aR)))))
 gD))))))
 (bW (dC (aJ 4))))),?_⟩
 show iY _ _ _ [.val (kI d9 fs an rs a b),.val (mD w kvs),.val (eS ns),.val (.int ((d+1:Nat):Int)),.un,.un,.un,.un,.un,.un,.un,.un];have bo:∀i∈ns,i<rs.length:=λi hi=>cg.lt hi;refine dI (mW (nO fs fa a (bF rs ns))) (λq hq=>⟨_,rfl,eE,_,rfl,AY,_,rfl,fs,an,fa,rs,a,b,ns,rfl,S,cg,hq⟩) ?_
 refine jK (ts:=((lG fs).filter (dX fs (bF rs ns))).map (LK fs rs ns)) (λR h=>⟨_,rfl,eE,_,rfl,FX,_,rfl,fs,an,fa,rs,a,b,ns,rfl,S,cg,_,rfl,h⟩)
  (λk σ=>∃s5 s6 s7 s8 s9 Dn um:Sl,σ=[.val (kI d9 fs an rs a b),.val (mD w kvs),.val (eS ns),.val (.int ((d+1:Nat):Int)),.val (mW ((((lG fs).filter (dX fs (bF rs ns))).take k).foldl (λtold c=>oM b c (fD fs fa a b d (yR fs c (bF rs ns))) (fD fs fa a b d (nR fs c (bF rs ns))) told) (nO fs fa a (bF rs ns)))),s5,s6,s7,s8,s9,Dn,um]) ⟨_,_,_,_,_,_,_,rfl⟩ (λk x g6 hx hP=>?_) λg6 hP=>?_
 ·obtain⟨s5,s6,s7,s8,s9,Dn,um,rfl⟩:=hP;rw[aH]at hx;obtain⟨c,qk,rfl⟩:=bL.mp hx;obtain⟨hc,hp⟩:=bN.mp (aN qk);obtain⟨i1,i2⟩:=jb c hc hp;obtain⟨e1,e2⟩:=F0 (fs:=fs) (rs:=rs) (c:=c) bo;have ed:(((d+1:Nat):Int)-1)=((d:Nat):Int):=by omega
  have key:∀x:D,[kI d9 fs an rs a b,mD w kvs,x,aM (((d+1:Nat):Int)-1)]=[kI d9 fs an rs a b,mD w kvs,x,.int (d:Nat)]:=λx=>by rw[ed]
  have et:((lG fs).filter (dX fs (bF rs ns))).take (k+1)=((lG fs).filter (dX fs (bF rs ns))).take k++[c]:=by rw[cV,qk];rfl
  have fin:∀v:Int×Tr,v=oM b c (fD fs fa a b d (yR fs c (bF rs ns))) (fD fs fa a b d (nR fs c (bF rs ns))) ((((lG fs).filter (dX fs (bF rs ns))).take k).foldl (λtold c=>oM b c (fD fs fa a b d (yR fs c (bF rs ns))) (fD fs fa a b d (nR fs c (bF rs ns))) told) (nO fs fa a (bF rs ns)))->∀s5 s6 s7 s8 s9 Dn um:Sl,∃t5 t6 t7 t8 t9 Wn Wo:Sl,[.val (kI d9 fs an rs a b),.val (mD w kvs),.val (eS ns),.val (.int ((d+1:Nat):Int)),.val (mW v),s5,s6,s7,s8,s9,Dn,um]=[.val (kI d9 fs an rs a b),.val (mD w kvs),.val (eS ns),.val (.int ((d+1:Nat):Int)),.val (mW ((((lG fs).filter (dX fs (bF rs ns))).take (k+1)).foldl (λtold c=>oM b c (fD fs fa a b d (yR fs c (bF rs ns))) (fD fs fa a b d (nR fs c (bF rs ns))) told) (nO fs fa a (bF rs ns)))),t5,t6,t7,t8,t9,Wn,Wo]:=λv hv s5 s6 s7 s8 s9 Dn um=>by
   refine⟨s5,s6,s7,s8,s9,Dn,um,?_⟩;rw[et,List.foldl_append,hv];rfl
  rw[<- e1,<- e2]at fin
  generalize hF:((((lG fs).filter (dX fs (bF rs ns))).take k).foldl (λtold c=>oM b c (fD fs fa a b d (yR fs c (bF rs ns))) (fD fs fa a b d (nR fs c (bF rs ns))) told) (nO fs fa a (bF rs ns)))=told at fin |-
  refine⟨_,_,_,_,rfl,?_⟩;refine dI (mW (fD fs fa a b d (bF rs (yN fs rs c ns)))) (λq hq=>⟨_,rfl,_,rfl,_,rfl,_,rfl,fs,an,fa,rs,a,b,kvs,yN fs rs c ns,d,key _,S,cg.filt _,hok,i1,hq⟩) ?_;refine dI (mW (fD fs fa a b d (bF rs (nN fs rs c ns)))) (λq hq=>⟨_,rfl,_,rfl,_,rfl,_,rfl,fs,an,fa,rs,a,b,kvs,nN fs rs c ns,d,key _,S,cg.filt _,hok,i2,hq⟩) ?_
  generalize fD fs fa a b d (bF rs (yN fs rs c ns))=x at fin |-
  generalize fD fs fa a b d (bF rs (nN fs rs c ns))=y at fin |-
  refine dI (.int (b+x.1+y.1)) (λq hq=>⟨_,rfl,d9,eE,_,_,rfl,T.C_RowSets,T.n_RowSets_knot,(EV _ _ _ _ _).2.2.2.1,_,rfl,_,rfl,_,rfl,_,rfl,hq⟩) ?_;refine pF (λt=>t=decide (b+x.1+y.1<told.1)) (λq hq=>⟨_,rfl,_,rfl,_,rfl,hq _ rfl⟩) (λht=>?_) λhf=>?_
  ·refine qC (mW (b+x.1+y.1,.ask c.1.1 c.1.2.1 c.1.2.2 c.2 x.2 y.2)) (λq hq=>⟨_,rfl,_,rfl,_,rfl,_,rfl,_,rfl,_,rfl,_,rfl,(aE rfl),(aE rfl),hq⟩) ?_;refine fin (b+x.1+y.1,.ask c.1.1 c.1.2.1 c.1.2.2 c.2 x.2 y.2) ?_ _ _ _ _ _ _ _;unfold oM;rw[b9 (e7 ht.symm)]
  ·refine fin told ?_ _ _ _ _ _ _ _;unfold oM;rw[b8 (gp hf.symm)]
 ·obtain⟨s5,s6,s7,s8,s9,Dn,um,rfl⟩:=hP;rw[aB,dE];exact⟨_,rfl,h⟩
def aKg:eK P w K mg base jW 5 zu Bb ["sets","costs","numbers","deep"] (dM K (aHz w d9)):=by
 refine tE T.D_27.F aIx λhr nd ds Q h=>?_;obtain⟨fs,an,fa,rs,a,b,t,ns,d,rfl,S,cg,h⟩:=h;refine⟨_,(bW (dC (wH (dR pE nA (aJ 3) aP) (WT (aJ 1) (eB (aC (aJ 2) (aC (aJ 3) aR))) (pc:=λh1 h2=>UP hr.u9 h1 h2)) (cS bY eF (pI (aJ 0) (aC (aJ 2) aR) (λh ha=>rR h T.C_RowSets T.M_1 (ZS (w:=w) T) (hr.mono (by decide)) T.D_1.d .nil qB ha)) aP)))),?_⟩;show LB _ _ [.val (kI d9 fs an rs a b),.val (mD w (DQ t)),.val (eS ns),.val (.int (d:Nat))];refine⟨_,rfl,?_⟩;by_cases h0:0<d
 ·show(if decide ((0:Int)<((d:Nat):Int))=true then _ else _);rw[b9 (d7 (by omega))];refine⟨_,rfl,⟨DQ t,rfl⟩,_,rfl,_,rfl,(aE rfl),DQ t,rfl,mI ns d,GE t,λhn=>?_,λv hv=>?_⟩
  ·exact h _ (.inr ⟨h0,OU.mp hn,rfl⟩)
  ·obtain⟨c,hc,rfl⟩:=OV.mp (show(jM (ns,d),v)∈DQ t from hv);exact h _ (.inl ⟨c,.inr ⟨h0,hc⟩,rfl⟩)
 ·show(if decide ((0:Int)<((d:Nat):Int))=true then _ else _);rw[b8 (λz=>by have:=e7 z;omega)];exact⟨_,rfl,eE,_,rfl,AY,_,rfl,fs,an,fa,rs,a,b,ns,rfl,S,cg,_,rfl,h _ (.inl ⟨_,.inl ⟨by omega,rfl⟩,rfl⟩)⟩
def aKh:eK P w K mg base jW 6 zt Ba ["sets","costs","numbers","deep"] (dM K (aH0 w d9)):=by
 refine tE T.D_26.F aIy λhr nd ds Q h=>?_;obtain⟨fs,an,fa,rs,a,b,t,ns,d,c,rfl,S,cg,hT,jb,h⟩:=h;refine⟨_,(bI (ss 4 nd (JT (w:=w) rfl hr.u9 (aJ 1) (eB (aC (aJ 2) (aC (aJ 3) aR)))))
 (bI (iS (dR pE nA (aJ 4) (cS bY eF (pI (aJ 0) (aC (aJ 2) aR) (λh ha=>rR h T.C_RowSets T.M_1 (ZS (w:=w) T) (hr.mono (by decide)) T.D_1.d .nil qB ha)) aP))
 (bW (dC kR))
 gD)
 (bI (sf (fJ (pI (aJ 0) (aC (aJ 2) aR) (λh ha=>rR h T.C_RowSets T.M_2 (aE8 (w:=w) T) (hr.mono (by decide)) T.D_2.d .nil qB ha))) (GO (mZ rfl (dO (pn 5 nd) (dO (pn 6 nd) (dO (pn 7 nd) (dO (pn 8 nd) lE))))))
 (bI (BG (i:=9) (fr:=[none,some 0,some 1,some 3]) (N':=["side","sets","costs","deep"]) (fJ (eB (aC (aJ 7) (aC (aJ 8) aR)))) (λb=>⟨(dZ (pk 0)),jG,(cd (aKg (w:=w) T) T.D_27 hr (aC (aJ 1) (aC (aJ 2) (aC (aJ 0) (aC (dB mK sZ (aJ 3) aP) aR)))))⟩) (λhi hY=>yU (show wE _ (bQ (top 42)) ["sets","costs","numbers","deep","cost","question","stray","yes","no","sides"] ["side","sets","costs","deep"] [none,some 0,some 1,some 3]=true from by decide +kernel) nd rfl (by first | exact ag rfl | exact y8 rfl) rfl hi hY rfl))
 (bW (iS (wA (wB (dR (GC hr) OL uB (aJ 9)) (wR (dR pE nA (aJ 4) (dB cX gR (xA (K:=K) rfl (aJ 0)) (cB aLz (aC (aJ 9) aR) (DW rfl) T.b_sum aGj))))))
 (bW (dC kR))
 gD))))
 (bW (dC kR))))),?_⟩
 show iY _ _ _ [.val (kI d9 fs an rs a b),.val (mD w (DQ t)),.val (eS ns),.val (.int ((d+1:Nat):Int)),.un,.un,.un,.un,.un,.un];have bo:∀i∈ns,i<rs.length:=λi hi=>cg.lt hi;obtain⟨_,_,_,Dv,ug⟩:=hT.ok _ jb;dsimp only at Dv ug;refine dI (.int c) (λq hq=>⟨_,rfl,_,rfl,_,rfl,(aE rfl),DQ t,rfl,mI ns (d+1),GE t,_,OV.mpr ⟨c,jb,rfl⟩,hq⟩) ?_;refine gK (λz=>z=decide ((nO fs fa a (bF rs ns)).1<c)) (λq hq=>⟨_,rfl,_,rfl,eE,_,rfl,AY,_,rfl,fs,an,fa,rs,a,b,ns,rfl,S,cg,_,rfl,hq _ rfl⟩) (λli=>?_) λhF=>?_
 ·exact h false ⟨(λz=>by cases z),λhB=>by have:=e7 li.symm;have:=hB.1;omega⟩
 have Hq:c<=(nO fs fa a (bF rs ns)).1:=by have:=gp hF.symm;omega
 try unfold lZ
 dsimp only
 refine jK (ts:=((lG fs).filter (dX fs (bF rs ns))).map (LK fs rs ns)) (λR h=>⟨_,rfl,eE,_,rfl,FX,_,rfl,fs,an,fa,rs,a,b,ns,rfl,S,cg,_,rfl,h⟩)
  (λk σ=>(∃s5 s6 s7 s8 s9:Sl,σ=[.val (kI d9 fs an rs a b),.val (mD w (DQ t)),.val (eS ns),.val (.int ((d+1:Nat):Int)),.val (.int c),s5,s6,s7,s8,s9])/\∀ch∈((lG fs).filter (dX fs (bF rs ns))).take k,KE fs fa a b rs t ns d c ch) ⟨⟨_,_,_,_,_,rfl⟩,λch jm=>by simp at jm⟩ (λk x g6 hx hP=>?_) λg6 hP=>?_
 ·obtain⟨⟨s5,s6,s7,s8,s9,rfl⟩,bj⟩:=hP;rw[aH]at hx;obtain⟨ch,qk,rfl⟩:=bL.mp hx;have Bs:=aN qk;have ed:(((d+1:Nat):Int)-1)=((d:Nat):Int):=by omega
  refine⟨_,_,_,_,rfl,?_⟩;show iY _ _ _ [.val (kI d9 fs an rs a b),.val (mD w (DQ t)),.val (eS ns),.val (.int ((d+1:Nat):Int)),.val (.int c),.val (qD ch.1),.val (.str ch.2),.val (eS (yN fs rs ch ns)),.val (eS (nN fs rs ch ns)),s9];refine tN (λv=>∃vy vn,v=.list [vy,vn]/\PP fs fa a rs t (yN fs rs ch ns) d vy/\PP fs fa a rs t (nN fs rs ch ns) d vn) (λq hq=>?_) ?_
  ·refine VP (ts:=[eS (yN fs rs ch ns),eS (nN fs rs ch ns)]) (λR h=>⟨_,rfl,_,rfl,(aE rfl),_,rfl,h⟩) (λi x y=>∃ms:List Nat,x=eS ms/\PP fs fa a rs t ms d y) (aE rfl) (λi x q' hi fu=>?_) λys Ik vm=>?_
   ·obtain⟨ms,rfl,Hy⟩:∃ms,x=eS ms/\lB rs ms:=by
     rcases i with _ | _ | i
     ·cases hi;exact⟨_,rfl,cg.filt _⟩
     ·cases hi;exact⟨_,rfl,cg.filt _⟩
     ·simp at hi
    refine⟨_,rfl,_,rfl,_,rfl,_,rfl,fs,an,fa,rs,a,b,t,ms,d,by rw[ed],S,Hy,λv hv=>fu v ⟨ms,rfl,hv⟩⟩
   ·match ys,Ik with
    |[vy,vn],_=>
     obtain⟨m1,e1,g1⟩:=vm 0 _ _ rfl rfl;obtain⟨m2,e2,g2⟩:=vm 1 _ _ rfl rfl;rw[<- xT e1]at g1;rw[<- xT e2]at g2;exact hq _ ⟨vy,vn,rfl,g1,g2⟩
  ·rintro _ ⟨vy,vn,rfl,hy,hn⟩;have et:((lG fs).filter (dX fs (bF rs ns))).take (k+1)=((lG fs).filter (dX fs (bF rs ns))).take k++[ch]:=by rw[cV,qk];rfl
   have fin:KE fs fa a b rs t ns d c ch->∀x∈((lG fs).filter (dX fs (bF rs ns))).take (k+1),KE fs fa a b rs t ns d c x:=λhp x hx=>by
    rw[et]at hx;rcases dH.mp hx with hx | hx
    ·exact bj x hx
    ·rw[bR.mp hx];exact hp
   refine pF (λz=>z=true↔¬KE fs fa a b rs t ns d c ch) (λq hq=>?_) (λli=>?_) λSa=>?_
   ·rcases hy with⟨cy,hy,rfl⟩ | ⟨h0,hy,rfl⟩
    ·rcases hn with⟨cn,hn,rfl⟩ | ⟨h0,hn,rfl⟩
     ·have Rf:=IG S hT (cg.filt _) hy;have bn:=IG S hT (cg.filt _) hn;refine⟨_,rfl,⟨rfl,rfl,(aE rfl)⟩,?_⟩;show(if false=true then q true else _);rw[b8 aX];refine⟨_,rfl,_,rfl,d9,eE,_,_,rfl,T.C_RowSets,T.n_RowSets_knot,rfl,_,rfl,[cy,cn],rfl,?_,(aE rfl),?_⟩
      ·intro n hn';rcases bE.mp hn' with rfl | hn'
       ·exact Rf
       ·rw[bR.mp hn'];exact bn
      ·show q (decide (b+[cy,cn].sum<c));have e:[cy,cn].sum=cy+cn:=by simp
       rw[e];refine hq _ ?_;rw[i4];constructor
       ·rintro Ht ⟨Wz,cn',g1,g2,g3⟩;rw[IF hT.nd g1 hy,IF hT.nd g2 hn]at g3;omega
       ·intro hp;exact j0 λz=>hp ⟨cy,cn,hy,hn,by omega⟩
     ·refine⟨_,rfl,⟨rfl,rfl,(aE rfl)⟩,?_⟩;exact hq _ ⟨λ_ ⟨_,cn,_,h2,_⟩=>EG h0 hn h2,λ_=>rfl⟩
    ·refine⟨_,rfl,⟨?_,rfl,?_⟩,?_⟩
     ·rcases hn with⟨cn,_,rfl⟩ | ⟨_,_,rfl⟩<;>rfl
     ·rcases hn with⟨cn,_,rfl⟩ | ⟨_,_,rfl⟩<;>exact(aE rfl)
     ·show(if(cO .none .none||(cO vn .none||false))=true then q true else _);rw[show cO .none .none=true from rfl,aHa,b9 rfl];exact hq _ ⟨λ_ ⟨cy,_,h1,_⟩=>EG h0 hy h1,λ_=>rfl⟩
   ·exact h false ⟨(λz=>by cases z),λhB=>d8 (hB.2 ch Bs) (li.mp rfl)⟩
   ·exact⟨⟨_,_,_,_,_,rfl⟩,fin (j0 λz=>by cases Sa.mpr z)⟩
 ·obtain⟨⟨s5,s6,s7,s8,s9,rfl⟩,bj⟩:=hP;rw[aB,dE]at bj;exact h true ⟨λ_=>⟨Hq,bj⟩,λ_=>rfl⟩
def aKi:eK P w K mg base jW 1 zr Az ["numbers","many"] (dM K aH1):=by
 refine tE T.D_25.F aIz λhr nd ds Q h=>?_;obtain⟨m,ns,rfl,hl,hm,h⟩:=h;refine⟨_,(bW (dC (nT (UX hr) rT (cY MV (aC (aJ 0) aR) sK T.b_list yE) (el (fr:=[none,some 0]) (N':=["number","numbers"]) (nZ (aC (aJ 1) aR) (λh=>mP rfl T.b_range h)) (λb=>⟨(dZ (pk 0)),(GL (dR (GC hr) OL (aJ 0) (aJ 1))),(aJ 0)⟩))))),?_⟩;refine⟨_,rfl,?_⟩;dsimp only[XJ,f1,aC4];refine xY (ts:=gL m) (λR h=>⟨_,rfl,_,rfl,by omega,by omega,by rw[cW];exact h⟩) (λd=>DD d (.tuple (ns.map aM))) id (by unfold gL;rw[aB,dN];omega) (λx q hx hq=>?_) (λx q hx hq=>⟨_,rfl,hq⟩) ?_
 ·obtain⟨k,_,rfl⟩:=aQ.mp hx;exact⟨_,rfl,_,rfl,⟨(qX ns).1,rfl,dG (DA _ _) (cL 60)⟩,hq⟩
 ·have e:((gL m).filter λd=>DD d (.tuple (ns.map aM))).map id=((DO m).filter λi=>decide (i∈ns)).map aM:=by
   have e1:gL m=(DO m).map aM:=by unfold gL DO;rw[bH];rfl
   rw[jA,e1,DJ];congr 1;exact lQ λi _=>aAl i ns
  rw[e];have l1:=qX ns;have l2:=qX ((DO m).filter λi=>decide (i∈ns));refine⟨⟨l1.1,l2.1,dG (Nat.min_le_left _ _) ?_⟩,h _ ?_⟩
  ·show cA (ns.map aM)+1<=60;rw[l1.2];decide
  ·rw[WU];exact Y6 m ns
def aKj:eK P w K mg base jW 2 zp Ay ["many","entry"] (dM K aH2):=by
 refine tE T.D_24.F aI0 λhr nd ds Q h=>?_;obtain⟨m,x,rfl,hl,hm,h⟩:=h;refine⟨_,(bI (iS (wA (wB (rK (tv (cd (aJ2 T) T.D_5 hr (aC (aJ 1) (aC aP (aC aP aR)))))) (wR (rK (tv (cd (aJ2 T) T.D_5 hr (aC (cS bY eF (aJ 1) aP) (aC aP (aC (aJ 0) aR)))))))))
 (bW (dC kR))
 gD)
 (bI (iS (rK (tv (cB XB (aC (el (fr:=[none]) (N':=["number"]) (fJ (dB cX gR (cS bY eF (aJ 1) aP) (jY nQ yX (aJ 1) (lF aP) mH))) (λb=>⟨(dZ (pk 0)),jG,(cd (aOb T) T.D_6 hr (aC (aJ 0) aR))⟩)) aR) (sL rfl) T.b_all MY)))
 (bW (dC kR))
 gD)
 (bW (dC (sG (cd (aKi T) T.D_25 hr (aC (cS bY eF (aJ 1) aP) (aC (aJ 0) aR))) (sG (JU OI OI nA nA aP (cS bY eF (aJ 1) aP) (GR rfl T.c_MOST_TABLE_DEEP)) (sE (nT UW nA (cS bY eF (aJ 1) aP) aP)))))))),?_⟩
 show iY _ _ _ [.val (.int (m:Nat)),.val (oO x)];obtain⟨ns,dp,c⟩:=x;dsimp only at hl;have Qb:((ns.map aM).length:Int)=(ns.length:Int):=by rw[aB]
 have TZ:dp=dp:=rfl;refine gK (λb=>b=!(decide ((1:Int)<=(ns.length:Int))&&decide ((ns.length:Int)<=(m:Int)))) (λq hq=>⟨_,rfl,_,_,_,rfl,?_⟩) (λhT=>?_) λhF=>?_
 ·show(if(!(decide ((3:Int)<=3)&&decide ((3:Int)<=3)))=true then q true else _);rw[b8 (by decide)];refine⟨_,rfl,_,rfl,_,rfl,_,_,_,rfl,?_⟩;show q (!(decide ((1:Int)<=((ns.map aM).length:Int))&&decide (((ns.map aM).length:Int)<=(m:Int))));rw[Qb];exact hq _ rfl
 ·refine h false ⟨(λz=>by cases z),λhE=>?_⟩
  have h1:1<=ns.length:=by
   cases hn:ns with
   |nil=>exact d8 hn hE.1
   |cons a l=>exact Nat.succ_le_succ (cL _)
  have h2:ns.length<=m:=Y5 hE.2.1;rw[d7 (show(1:Int)<=(ns.length:Int) by omega),d7 (show(ns.length:Int)<=(m:Int) by omega)]at hT;exact d8 hT (by decide)
 try unfold lZ
 dsimp only;have Ie:ns≠[]:=λz=>by rw[z]at hF;cases hF
 refine gK (λb=>b=false) (λq hq=>?_) (λhT=>by cases hT) λ_=>?_
 ·have e0:(ns.map aM++mL [eM (ns.map aM),.int dp,.int c] (some 1) none)=(ns++[dp,c]).map aM:=by rw[bV];rfl
  dsimp only[aGg,FE,oP,yG];refine jV (ts:=(ns++[dp,c]).map aM) (λR h=>⟨_,rfl,_,rfl,_,rfl,?_⟩) (λ_=>.bool true) (by rw[aB,bC];show _+2<=_;omega) (λy q hy hq=>?_) ?_
  ·rw[<- e0]at h;exact⟨by rw[aB];show ns.length+2<=_;omega,_,rfl,h⟩
  ·obtain⟨i,_,rfl⟩:=aQ.mp hy;exact⟨_,rfl,i,rfl,hq⟩
  ·have e1:((ns++[dp,c]).map aM).map (λ_=>mR true)=(qK (ns.length+2) true).map mR:=by rw[bH,List.map_replicate];exact List.eq_replicate_iff.mpr ⟨by simp,λb hb=>by obtain⟨_,_,rfl⟩:=aQ.mp hb;rfl⟩
   rw[e1];refine⟨_,rfl,?_⟩;have e2:(qK (ns.length+2) true).all id=true:=by simp
   exact hq _ (by rw[e2];rfl)
 try unfold lZ
 dsimp only;refine⟨_,rfl,_,rfl,_,rfl,m,ns,rfl,hl,hm,λz hz=>?_⟩;dsimp only
 cases z with
 |false=>
  rw[b8 aX];exact h false ⟨(λz=>by cases z),λhE=>hz.mpr hE.2.1⟩
 |true=>
  rw[b9 rfl];have hR:=hz.mp rfl;refine⟨_,rfl,_,rfl,?_⟩;show(if decide ((1:Int)<=dp)=true then _ else _);by_cases h1:(1:Int)<=dp
  ·rw[b9 (d7 h1)];show(if decide (dp<=(3:Int))=true then _ else Q (.bool false));by_cases h3:dp<=(3:Int)
   ·rw[b9 (d7 h3)];refine⟨_,rfl,_,rfl,?_⟩;show Q (.bool (decide ((0:Int)<=c)));refine h _ ?_;rw[i4];exact⟨λh0=>⟨Ie,hR,h1,h3,h0⟩,λhE=>hE.2.2.2.2⟩
   ·rw[b8 (by simpa using h3)];exact h false ⟨(λz=>by cases z),λhE=>d8 hE.2.2.2.1 h3⟩
  ·rw[b8 (by simpa using h1)];show(if false=true then _ else _);rw[b8 aX];exact h false ⟨(λz=>by cases z),λhE=>d8 hE.2.2.1 h1⟩
def aKk:eK P w K mg base jW 3 zo Ax ["many","table"] (dM K aH3):=by
 refine tE T.D_23.F aI1 λhr nd ds Q h=>?_;obtain⟨m,xs,rfl,hl,hz,hm,h⟩:=h;refine⟨_,(bI (iS (rK (tv (cB XB (aC (el (fr:=[none,some 0]) (N':=["entry","many"]) (fJ (aJ 1)) (λb=>⟨(dZ (pk 0)),jG,(cd (aKj T) T.D_24 hr (aC (aJ 1) (aC (aJ 0) aR)))⟩)) aR) (sL rfl) T.b_all MY)))
 (bW (dC kR))
 gD)
 (bW (dC (nT kP oH (MM (el (fr:=[none]) (N':=["entry"]) (fJ (aJ 1)) (λb=>⟨(dZ (pk 0)),jG,(jY nQ yX (aJ 0) mH (lF aP))⟩)) (pc:=λh=>jL DY rfl T.b_len fR (dY (iP (GZ rfl hr.u20) rfl T.b_set aGk h) hU))) (cB jO (aC (aJ 1) aR) dA T.b_len fR))))),?_⟩
 show iY _ _ _ [.val (.int (m:Nat)),.val (.list (xs.map oO))];refine gK (λb=>b=true↔¬∀x∈xs,M9 m x) (λq hq=>?_) (λhT=>?_) λhF=>?_
 ·dsimp only[aGg,FE,oP,yG];refine VP (ts:=xs.map oO) (λR h=>⟨_,rfl,_,rfl,h⟩) (λk d y=>∃(x:En)(z:Bool),xs[k]?=some x/\y=.bool z/\(z=true↔M9 m x)) (by rw[aB];omega) (λk d q' hk fu=>?_) λys Ik vm=>?_
  ·rw[aH]at hk;obtain⟨x,hx,rfl⟩:=bL.mp hk;exact⟨_,rfl,_,rfl,m,x,rfl,hl x (aN hx),hm,λz Im=>fu _ ⟨x,z,hx,rfl,Im⟩⟩
  ·obtain⟨bs,rfl,Lm⟩:=J6 (R:=M9 m) Ik vm;refine⟨bs,rfl,hq _ ?_⟩;show(!(bs.all id))=true↔_;rw[Bool.not_eq_true',<- Bool.not_eq_true,Lm]
 ·exact h false ⟨(λz=>by cases z),λhE=>d8 hE.1 (hT.mp rfl)⟩
 ·have bj:∀x∈xs,M9 m x:=j0 λz=>by cases hF.mpr z
  try unfold lZ
  dsimp only;show eOp _ _ _ _ _;dsimp only[eOp,JX];refine jV (ts:=xs.map oO) (λR h=>⟨_,rfl,_,rfl,h⟩) aLv (by rw[aB];omega) (λy q hy hq=>?_) ?_
  ·obtain⟨x,_,rfl⟩:=aQ.mp hy;exact⟨_,rfl,hq⟩
  ·have e1:(xs.map oO).map aLv=xs.map VX:=by rw[bH];rfl
   rw[e1];refine⟨xs.map VX,rfl,λk hk=>by obtain⟨x,_,rfl⟩:=aQ.mp hk;exact aFk x,by rw[aB];exact hz,λn hn vi=>⟨_,rfl,?_⟩⟩;show Q (.bool (decide ((n:Int)=((xs.map oO).length:Int))));refine h _ ?_;rw[i4,aB];rw[aB]at hn;rw[show((n:Int)=(xs.length:Int))↔n=xs.length by omega,hn,VW];exact⟨λz=>⟨bj,z⟩,λz=>z.2⟩
def aKl:eK P w K mg base jW 7 zn Aw ["form","rows","prices","table"] (dM K (aH4 w d9)):=by
 refine tE T.D_22.F aI2 λhr nd ds Q h=>?_;obtain⟨fs,an,fa,rs,a,b,xs,rfl,S,hE,h⟩:=h;refine⟨_,(bI (iS (rK (tv (cd (aKk T) T.D_23 hr (aC (cB jO (aC (aJ 1) aR) dA T.b_len fR) (aC (aJ 3) aR)))))
 (bW (dC kR))
 gD)
 (bI (ss 4 nd (GQ (aC (aJ 0) (aC (aJ 1) (aC (aJ 2) aR))) (λh=>GA T.K_RowSets (aE9 T) (hr.mono (by decide)) rfl T.x_RowSets T.D_0.d .nil qB h)))
 (bI (sn 5 nd)
 (bI (sf (fJ (aJ 3)) (vF (mZ rfl (dO (pn 6 nd) (dO (pn 7 nd) (dO (pn 8 nd) lE)))))
 (bW (IC (i:=5) hr.u9 (pv 5) (eB (aC (aJ 6) (aC (aJ 7) aR))) (aJ 8))))
 (oX 5 (bW (dC (cB XB (aC (el (fr:=[none,none,some 4,some 5]) (N':=["numbers","deep","sets","costs"]) (aAg (aJ 5)) (λb=>⟨(rZ (mZ rfl (dO (pk 0) (dO (pk 1) lE)))),jG,(cd (aKh (w:=w) T) T.D_26 hr (aC (aJ 2) (aC (aJ 3) (aC (aJ 0) (aC (aJ 1) aR)))))⟩)) aR) (sL rfl) T.b_all MY)))))))),?_⟩
 show iY _ _ _ [.val (gH fs an),.val (.list (rs.map fC)),.val (.tuple [.int a,.int b]),.val (.list (xs.map oO)),.un,.un,.un,.un,.un];have hl:=S.l;have Qb:=hE.l;refine gK (λz=>z=true↔¬XM rs.length xs) (λq hq=>⟨_,rfl,_,rfl,rs.length,xs,by rw[aB],hE.n,hE.l,hl,λz hz=>hq _ ?_⟩) (λhT=>?_) λhF=>?_
 ·rw[<- hz];cases z<;>simp
 ·exact h false ⟨(λz=>by cases z),λhH=>d8 hH.1 (hT.mp rfl)⟩
 have hT:XM rs.length xs:=j0 λz=>by cases hF.mpr z
 have hO:=YD hT hE
 try unfold lZ
 dsimp only;refine dI (kI d9 fs an rs a b) (λq hq=>⟨_,rfl,_,rfl,_,rfl,fs,an,rs,a,b,rfl,S.F,S.R,S.l,hq⟩) ?_;refine qT (w:=w) (show 5<9 by decide) (λj hs kvs hj=>?_) ?_
 ·rcases j with _ | _ | _ | _ | _ | _ | _ | _ | _ | j<;>simp at hj
 refine jK (ts:=xs.map oO) (λR h=>⟨_,rfl,_,rfl,h⟩)
  (λk σ=>∃s6 s7 s8:Sl,σ=[.val (gH fs an),.val (.list (rs.map fC)),.val (.tuple [.int a,.int b]),.val (.list (xs.map oO)),.val (kI d9 fs an rs a b),oA w (DQ ((pT xs).take k)),s6,s7,s8]) ⟨_,_,_,rfl⟩ (λk x g6 hx hP=>?_) λg6 hP=>?_
 ·obtain⟨s6,s7,s8,rfl⟩:=hP;rw[aH]at hx;obtain⟨x,Ng,rfl⟩:=bL.mp hx;have Eb:k<xs.length:=(aD.mp Ng).1;have SZ:=hT.1 x (aN Ng);have Ca:(pT xs)[k]?=some ((x.1.map hZ,x.2.1.toNat),x.2.2):=by unfold pT;rw[aH,Ng];rfl
  have ni:jM (x.1.map hZ,x.2.1.toNat)∉(DQ ((pT xs).take k)).map (·.1):=by
   rw[OU];intro z;obtain⟨j,hj⟩:=bK z;rw[aH]at hj;obtain⟨e,he,ee⟩:=bL.mp hj;have pj:=(aD.mp he).1;rw[bA]at pj;rw[fN,b9 (by omega)]at he;have:=qW hO.nd (i:=j) (j:=k) (c:=(x.1.map hZ,x.2.1.toNat)) (by rw[aH,he];exact i6 some ee) (by rw[aH,Ca];rfl);omega
  have Ud:(DQ ((pT xs).take k)).length<=300:=by unfold DQ;rw[aB,bA];omega
  have ek:eM [.tuple (x.1.map aM),.int x.2.1]=jM (x.1.map hZ,x.2.1.toNat):=(V3 SZ).symm;refine⟨_,_,_,rfl,?_⟩;refine⟨_,rfl,_,rfl,_,rfl,_,rfl,(aE rfl),?_⟩;rw[ek];refine⟨mI _ _,GE _,by omega,.val (.tuple (x.1.map aM)),.val (.int x.2.1),.val (.int x.2.2),?_⟩;rw[N9 ni,cV,Ca];show _=[_,_,_,_,_,oA w (((pT xs).take k++[_]).map _),_,_,_];rw[bV];rfl
 ·obtain⟨s6,s7,s8,rfl⟩:=hP;have Pw:(pT xs).length=xs.length:=by unfold pT;rw[aB]
  rw[aB,<- Pw,dE];refine⟨_,_,rfl,?_⟩;show LB _ _ [.val (gH fs an),.val (.list (rs.map fC)),.val (.tuple [.int a,.int b]),.val (.list (xs.map oO)),.val (kI d9 fs an rs a b),.val (mD w (DQ (pT xs))),s6,s7,s8];dsimp only[LB,oP,yG];refine aFi (ts:=(pT xs).map λe=>jM e.1) (λR h=>⟨_,rfl,DQ (pT xs),rfl,by rw[JJ];exact h⟩) (λk _ y=>∃(e:(List Nat×Nat)×Int)(z:Bool),(pT xs)[k]?=some e/\y=.bool z/\(z=true↔PZ fs fa a b rs (pT xs) e.1.1 (e.1.2-1) e.2)) (by rw[aB];omega) (λx hx=>?_) (λk u v q hk hq=>?_) λys Ik vm=>?_
  ·obtain⟨e,_,rfl⟩:=aQ.mp hx;exact⟨_,_,rfl⟩
  ·rw[aH]at hk;obtain⟨e,Pa,ee⟩:=bL.mp hk;injection ee with ee
   injection ee with e1 ee
   injection ee with e2 _
   subst e1 e2;have Pb:=aN Pa;obtain⟨g1,g2,g3,g4,g5⟩:=hO.ok _ Pb;obtain⟨⟨y,d⟩,c⟩:=e;dsimp only at g1 g2 g3 g4 g5 hq;obtain⟨d',rfl⟩:∃d',d=d'+1:=⟨d-1,by omega⟩;exact⟨_,rfl,_,rfl,_,rfl,_,rfl,fs,an,fa,rs,a,b,pT xs,y,d',c,rfl,S,g1,hO,Pb,λz hz=>hq _ ⟨_,z,Pa,rfl,hz⟩⟩
  ·obtain⟨bs,rfl,Lm⟩:=J8 (R:=λe=>PZ fs fa a b rs (pT xs) e.1.1 (e.1.2-1) e.2) Ik vm;exact⟨bs,rfl,h _ (by rw[Lm];exact⟨λz=>⟨hT,z⟩,λz=>z.2⟩)⟩
def aCv:eK P w K mg base jW 1 zv Bc ["_law_script"] (Z3 K aHy):=by
 refine aLf T.D_28.F aCb λcr Ar outer s H E hr=>?_;have nd:=aCb.nd;refine⟨_,_,_,_,rfl,(ss 1 nd (sG (nT pE nA (cB jO (aC (aJ 0) aR) dA T.b_len fR) aP) (sE (nT kP oH (dB lW AF (cS bY eF (aJ 0) aP) aP) aP)))),(ZK (tT pD (pv 0) (tT pD LQ (tT pD LQ (tT pD (pv 1) OB)))) rfl rfl (λz=>nomatch z) (by decide)),λns Q h=>?_⟩;refine⟨_,rfl,?_⟩;show(if decide (((ns.map aM).length:Int)>0)=true then _ else Q (.bool false));split
 ·next hb=>
  have Ct:((ns.map aM).length:Int)>0:=e7 hb;rw[aB]at Ct;have hn:0<ns.length:=by omega
  have e:L2.atI (ns.map aM) 0=some (.int ns[0]):=L2.gU (j:=0) (by rw[aH,aG hn];rfl);exact⟨_,rfl,_,e,(show(0:Int)<2 by decide),h _ λ_=>hn⟩
 ·exact h false λz=>by cases z
def mB:eK P w K mg base jW 1 zw Bd ["_law_tape_here","_law_many"] (nD K aHx):=by
 refine fnC T.D_29.F aIw λhr nd Tp c ds Q vd h=>?_;obtain⟨m,rfl,Bx,Ec,hc,h⟩:=h;refine⟨_,(dQ (sC 2 nd (aA3 hr (pv 0)))
 (dQ (sC 3 nd (aA6 hr (pv 0)))
 (dQ (YZ hr (pv 0) (fG (dB cX gR (aJ 3) aP)))
 (dQ (IH (aD3 (aA5 hr (pv 0)) (λh=>UA h))
 (dQ (IH (YA (dR kP oH (dB lW AF (aJ 3) aP) aP))
 (mY (NZ hr (pv 0) (fG (dB xS AF (cS bY eF (aJ 2) (dB lW AF (dB xS AF (aJ 3) aP) (cB jO (aC (aJ 2) aR) dA T.b_len fR))) aP))))
 BM)
 (dQ (sC 4 nd (aA4 hr (pv 0)))
 (dQ (NZ hr (pv 0) (fG (dB xS AF (aJ 4) (aJ 1))))
 (mY (oS (dC (dB lW AF (aJ 4) (aJ 1))))))))
 BM)
 (dQ (oS (ss 5 nd (dB cX gR (dB cX gR (dB jI sQ (aJ 3) (aJ 3)) (dB jI sQ aP (aJ 3))) aP)))
 (dQ (oS (iS (dR pE nA (cB jO (aC (aJ 2) aR) dA T.b_len fR) aP)
 (bW (ss 5 nd (dB cX gR (aJ 5) (dB lW AF (cS bY eF (aJ 2) (dB lW AF (aJ 3) (cB jO (aC (aJ 2) aR) dA T.b_len fR))) aP))))
 gD))
 (dQ (oS (ss 5 nd (dB lW AF (dB jI sQ (dB cX gR (dB lW AF (dB jI sQ (aJ 5) aP) aP) (aJ 3)) aP) aP)))
 (mY (oS (dC (dB lW AF (dB lW AF (dB jI sQ (dB cX gR (dB jI sQ (aJ 5) (aJ 5)) (aJ 3)) aP) aP) (aJ 1)))))))))))),?_⟩
 show pL _ _ _ _ _ [.val (qL Tp),.val (.int m),.un,.un,.un,.un];have Wg:(0:Int)<50:=by decide
 refine PL (.list (Tp.ns.map aM)) (λq hq=>⟨rfl,hq⟩) ?_;refine PL (.int (c:Int)) (λq hq=>⟨rfl,hq⟩) ?_;refine(show pL (aDh _ _) _ _ _ _ _ from⟨_,rfl,rfl,rfl,?_⟩);dsimp only;refine W7 Tp.b (λq hq=>⟨rfl,hq⟩) (λhb=>?_) λ_=>?_
 ·have hn:=vd hb;have hp:(0:Int)<((Tp.ns.map aM).length:Nat):=by rw[aB];omega
  obtain⟨x,hx⟩:=KA hn ((c:Int) / 50);refine W6 rfl (decide ((c:Int)%50=0)) (λq hq=>⟨_,rfl,Wg,hq⟩) (λq hq=>⟨_,rfl,_,rfl,⟨by decide,by decide⟩,_,rfl,hp,_,hx,⟨by decide,by decide⟩,hq _⟩) ?_;refine(show pL (MW _ _) _ _ _ _ _ from⟨rfl,λl=>?_⟩);dsimp only;refine(show pL (XC _ _) _ _ _ _ _ from⟨_,rfl,_,rfl,⟨Bx,by omega⟩,⟨_,rfl⟩,rfl,?_⟩);exact⟨_,rfl,_,rfl,Bx,h _ (pR _ (by omega)) (nL _ Bx)⟩
 ·try unfold CQ
  dsimp only;have cm:SD (c:Int) (c:Int):=.inl ⟨by omega,by omega⟩;refine kN (tN (λd=>∃x:Int,d=.int x) (λq hq=>⟨_,rfl,_,rfl,cm,_,rfl,.inl ⟨by decide,by decide⟩,hq _ ⟨_,rfl⟩⟩) ?_);rintro _ ⟨x,rfl⟩;refine kN (K9 (0<Tp.ns.length) (λd=>∃x:Int,d=.int x) (λq hq=>⟨_,rfl,hq _ λhb=>?_⟩) (λhn q hq=>?_) (.int x) rfl ⟨x,rfl⟩ ?_)
  ·have Ct:((Tp.ns.map aM).length:Int)>0:=e7 hb;rw[aB]at Ct;omega
  ·have hp:(0:Int)<((Tp.ns.map aM).length:Nat):=by rw[aB];omega
   obtain⟨y,hy⟩:=KA hn (c:Int);exact⟨_,rfl,_,rfl,_,rfl,_,rfl,hp,_,hy,(show(0:Int)<1000003 by decide),hq _ ⟨_,rfl⟩⟩
  rintro _ ⟨y,rfl⟩;refine kN (tN (λd=>∃x:Int,d=.int x/\0<=x/\x<65519) (λq hq=>⟨_,rfl,.inr ⟨by decide,by decide⟩,(show(0:Int)<999983 by decide),_,rfl,.inr ⟨by decide,by decide⟩,(show(0:Int)<65519 by decide),hq _ ⟨_,rfl,pR _ (by decide),nL _ (by decide)⟩⟩) ?_);rintro _ ⟨z,rfl,z0,z1⟩;exact⟨_,rfl,_,rfl,.inl ⟨by omega,by omega⟩,_,rfl,.inr ⟨by decide,by decide⟩,(show(0:Int)<65521 by decide),_,rfl,Bx,h _ (pR _ (by omega)) (nL _ Bx)⟩
def U1:eK P w K mg base jW 2 zx Be ["_law_tape_here","_law_many"] (nD K aHw):=by
 refine fnC T.D_30.F aIv λhr nd Tp c ds Q vd h=>?_;obtain⟨m,rfl,Ec,Xq,hc,h⟩:=h;refine⟨_,(dQ (sC 2 nd (cc (mB T) T.D_29 hr (cJ (fG (aJ 0)) (cJ (fG aP) fS))))
 (dQ (sC 3 nd (cc (mB T) T.D_29 hr (cJ (fG (aJ 0)) (cJ (fG aP) fS))))
 (dQ (oS (ss 4 nd gT))
 (dQ (oS (NS (i:=5) nd rfl (by first | exact ag rfl | exact y8 rfl) (pJ (R8 (by repeat constructor)))))
 (dQ (oS (iS (dR kP oH (aJ 2) aP)
 (bW (dC (cY vI (aC (el (fr:=[none,some 5,some 3]) (N':=["_law_k","_law_words","_law_first"]) (nZ (aC (aJ 1) aR) (λh=>mP rfl T.b_range h)) (λb=>⟨(dZ (pk 0)),jG,(cS bY eF (aJ 1) (dB lW AF (dB cX gR (aJ 2) (dB jI sQ aP (aJ 0))) aP))⟩)) aR) kY T.b_tuple jZ)))
 gD))
 (dQ (sC 6 nd (aA2 gT (cJ (elC (fr:=[none,some 4,some 0]) (N':=["_law_k","_law_letters","_law_tape_here"]) (nZ (aC aP aR) (λh=>mP rfl T.b_range h)) (λb=>⟨(dZ (pk 0)),jG,(PC bY eF (fG (aJ 1)) (cc (mB T) T.D_29 hr (cJ (fG (aJ 2)) (cJ (fG aP) fS))))⟩)) fS) (λh ha=>oN PySem.F.plainAttrs_str PySem.F.slot_str_join PySem.F.type_str_join ZY h ha)))
 (dQ (oS (iS (dR kP oH (aJ 2) aP)
 (bI (BG (i:=7) (fr:=[none,some 6]) (N':=["_law_k","_law_base"]) (nZ (aC (aJ 1) aR) (λh=>mP rfl T.b_range h)) (λb=>⟨(dZ (pk 0)),jG,(jY nQ yX (aJ 1) mH (lF (dB cX gR (aJ 0) aP)))⟩) (λhi hY=>yU (show wE _ (bQ (top 47)) ["_law_tape_here","_law_many","_law_way","_law_first","_law_letters","_law_words","_law_base","_law_names_here","_law_at"] ["_law_k","_law_base"] [none,some 6]=true from by decide +kernel) nd rfl (by first | exact ag rfl | exact y8 rfl) rfl hi hY rfl))
 (bW (dC (cY vI (aC (dB cX gR (jY nQ yX (aJ 7) (lF (dB lW AF (aJ 3) (aJ 1))) mH) (jY nQ yX (aJ 7) mH (lF (dB lW AF (aJ 3) (aJ 1))))) aR) kY T.b_tuple jZ))))
 gD))
 (dQ (sC 8 nd (cc (mB T) T.D_29 hr (cJ (fG (aJ 0)) (cJ (fG aP) fS))))
 (mY (oS (dC (cY vI (aC (el (fr:=[none,some 6,some 4,some 8,some 3]) (N':=["_law_k","_law_base","_law_letters","_law_at","_law_first"]) (nZ (aC (aJ 1) aR) (λh=>mP rfl T.b_range h)) (λb=>⟨(dZ (pk 0)),jG,(dB cX gR (dB cX gR (jY nQ yX (aJ 1) mH (lF (aJ 3))) (cS bY eF (aJ 2) (dB lW AF (dB cX gR (aJ 4) (dB jI sQ aP (aJ 0))) aP))) (jY nQ yX (aJ 1) (lF (aJ 3)) mH))⟩)) aR) kY T.b_tuple jZ)))))))))))),?_⟩
 show pL _ _ _ _ _ [.val (qL Tp),.val (.int m),.un,.un,.un,.un,.un,.un,.un];refine jC (λn1 d=>n1=c+1/\∃w:Int,d=.int w) (λq hq=>⟨_,rfl,_,rfl,3,rfl,by decide,by decide,by omega,λr _ _=>hq _ _ ⟨rfl,r,rfl⟩⟩) ?_;rintro c1 _ ⟨ug,w,rfl⟩;refine jC (λn1 d=>n1=c+2/\∃s:Nat,d=.int (s:Int)) (λq hq=>⟨_,rfl,_,rfl,26,rfl,by decide,by decide,by omega,λr h0 _=>hq _ _ ⟨by omega,(JA h0).imp λ_ e=>by rw[e]⟩⟩) ?_;rintro c2 _ ⟨rz,s,rfl⟩;refine kN (dI (.str iQ) (λq hq=>hq) ?_);refine kN (dI (.list (rJ.map aY)) (λq hq=>⟨by decide,hq⟩) ?_);refine kN (gK (λ_=>True) (λq hq=>⟨_,rfl,hq _ trivial⟩) (λ_=>?_) λ_=>?_)
 ·show oP (f1 MF) _ _ _;dsimp only[oP,yG,XJ];refine jV (ts:=gL m) (λR h=>⟨_,rfl,(m:Int),rfl,by omega,by omega,by simpa using h⟩) (λx=>match x with | .int j=>.str (wAt ((s+3*j.toNat)%10)) | _=>.none) (by rw[lM];omega) (λx q hx hq=>?_) ?_
  ·obtain⟨j,hj,rfl⟩:=aQ.mp hx;have Mc:j<m:=by simpa using hj
   have e:((s:Int)+3*(j:Int))%10=(((s+3*j)%10:Nat):Int):=by omega
   have Br:L2.atI (rJ.map aY) (((s:Int)+3*(j:Int))%10)=some (.str (wAt ((s+3*j)%10))):=by
    rw[e];exact L2.gU (by rw[aH,AV (lD _ (by decide))];rfl)
   exact⟨_,rfl,_,rfl,_,rfl,.inl ⟨by decide,by decide⟩,(show(0:Int)<10 by decide),_,Br,hq⟩
  ·unfold gL;rw[bH];have:=h c2 _ (by omega) (IW (s:=s) (m:=m) (by omega));rw[bH]at this;exact this
 ·try unfold lZ
  dsimp only;refine jC (λn1 d=>n1<=c+9/\∃z:Str,d=.str z/\z.cps.toList.length=7/\∀c∈z.cps.toList,c∈iQ.cps.toList) (λq hq=>?_) ?_
  ·refine⟨_,rfl,?_⟩;refine XA (ts:=gL 7) (λR h=>⟨7,rfl,by decide,by decide,h⟩) (λ_ _ y=>∃c,c∈iQ.cps.toList/\y=.str ⟨#[c]⟩) 1 (by decide) (λj k x q hx hk hq=>?_) λk ys hk vh hy=>?_
   ·rw[aM6]at hk;have hj:=(rY hx).1;refine⟨_,rfl,_,rfl,_,rfl,26,rfl,by decide,by decide,by omega,λr h0 h1=>?_⟩;obtain⟨c,hc,He,_⟩:=CU (xs:=iQ.cps.toList) (i:=r) h0 (by rw[zR];exact h1);exact⟨by decide,c,He,hq _ _ (aL _) ⟨c,hc,rfl⟩⟩
   ·obtain⟨cs,rfl,gc⟩:=ID (ys:=ys) λy pq=>by
     obtain⟨j,hj,rfl⟩:=wN.mp pq;have Tw:j<(gL 7).length:=by rw[<- vh];exact hj
     exact hy j (gL 7)[j] _ (aG Tw) (aG hj)
    have Kf:cs.length=7:=by rw[aB,lM]at vh;exact vh
    rw[lM]at hk;refine⟨cs.map λc=>⟨#[c]⟩,by rw[bH];rfl,?_,hq _ _ ⟨by omega,_,rfl,?_,?_⟩⟩
    ·rw[aB,bH,Kf]
     have:(wO ((λx:Str=>x.length)∘λc=>(⟨#[c]⟩:Str)) cs).sum=cs.length:=by
      clear Kf vh hy gc
      induction cs with
      |nil=>rfl
      |cons a l ih=>rw[bD,aG1,ih,cH];show 1+_=_;omega
     rw[this,Kf];decide
    ·rw[show(Txt.join (u5 "") (cs.map λc=>⟨#[c]⟩)).cps.toList=cs from B8 cs];exact Kf
    ·rw[show(Txt.join (u5 "") (cs.map λc=>⟨#[c]⟩)).cps.toList=cs from B8 cs];exact gc
  rintro c3 _ ⟨Ln,z,rfl,Fv,yy⟩
  have hz:z.length<=100000:=by
   have:z.length=z.cps.toList.length:=by simp[jf]
   omega
  refine kN (gK (λ_=>True) (λq hq=>⟨_,rfl,hq _ trivial⟩) (λ_=>?_) λ_=>?_)
  ·refine dI (.list (((aZ m).map λj:Nat=>Txt.slice z none (some ((j:Int)+1))).map aY)) (λq hq=>?_) ?_
   ·refine jV (ts:=gL m) (λR h=>⟨_,rfl,(m:Int),rfl,by omega,by omega,by simpa using h⟩) (λx=>match x with | .int j=>.str (Txt.slice z none (some (j+1))) | _=>.none) (by rw[lM];omega) (λx q hx hq=>?_) ?_
    ·obtain⟨j,hj,rfl⟩:=aQ.mp hx;exact⟨_,rfl,_,rfl,hz,hq⟩
    ·unfold gL;rw[bH];rw[bH]at hq;exact hq
   have Uq:=U7 Fv yy (m:=m) (by omega);have e:(s:Int)%(m:Int)=((s%m:Nat):Int):=by omega
   have fin:∀ys:List Str,KN m ys->(mL (ys.map aY) (some ((s:Int)%(m:Int))) none).length+(mL (ys.map aY) none (some ((s:Int)%(m:Int)))).length<=100000/\Q c3 (.tuple (mL (ys.map aY) (some ((s:Int)%(m:Int))) none++mL (ys.map aY) none (some ((s:Int)%(m:Int))))):=λys hy=>by
    have h1:=hy.1;rw[e,vG,vG,<- bV,aB,aB,W4,zE,fF,bA];exact⟨by omega,h _ _ (by omega) (Q4 hy (s%m))⟩
   have Bx:(0:Int)<(m:Int):=by omega
   exact⟨_,rfl,_,rfl,_,rfl,Bx,_,rfl,_,rfl,_,rfl,Bx,fin _ Uq⟩
  ·try unfold lZ
   dsimp only;refine jC (λn1 d=>n1<=c+10/\∃t:Nat,d=.int (t:Int)) (λq hq=>⟨_,rfl,_,rfl,8,rfl,by decide,by decide,by omega,λr h0 _=>hq _ _ ⟨by omega,(JA h0).imp λ_ e=>by rw[e]⟩⟩) ?_;rintro c4 _ ⟨Ov,t,rfl⟩;show oP (f1 MF) _ _ _;dsimp only[oP,yG,XJ];refine jV (ts:=gL m) (λR h=>⟨_,rfl,(m:Int),rfl,by omega,by omega,by simpa using h⟩) (λx=>match x with | .int j=>.str (E7 z t (R4 ((s+7*j.toNat)%26))) | _=>.none) (by rw[lM];omega) (λx q hx hq=>?_) ?_
   ·obtain⟨j,hj,rfl⟩:=aQ.mp hx;have e:((s:Int)+7*(j:Int))%26=(((s+7*j)%26:Nat):Int):=by omega
    have hc:=A9 (i:=(s+7*j)%26) (lD _ (by decide));have Fj:L2.atI iQ.cps.toList (((s:Int)+7*(j:Int))%26)=some (R4 ((s+7*j)%26)):=by rw[e];exact L2.gU hc
    obtain⟨w1,w2⟩:=RK z Fv t (R4 ((s+7*j)%26));exact⟨_,rfl,_,rfl,hz,_,rfl,_,rfl,_,rfl,.inl ⟨by decide,by decide⟩,(show(0:Int)<26 by decide),by decide,_,Fj,w1,_,rfl,_,rfl,hz,w2,hq⟩
   ·unfold gL;rw[bH];have:=h c4 _ (by omega) (ZV Fv yy (t:=t) (s:=s) (m:=m) (by omega));rw[bH]at this;exact this
def aKe:eK P w K mg base jW 3 zy Bf ["_law_tape_here","_law_fields","_law_values"] (nD K aHv):=by
 refine fnC T.D_31.F aIu λhr nd Tp c ds Q vd h=>?_;obtain⟨f,v,rfl,Hi,Pc,Xu,Xv,hc,h⟩:=h;refine⟨_,(dQ (sC 3 nd (cc (U1 T) T.D_30 hr (cJ (fG (aJ 0)) (cJ (PC bY eF (fG (pJ (aC aP (aC aP (aC aP (aC aP aR)))))) (cc (mB T) T.D_29 hr (cJ (fG (aJ 0)) (cJ (fG aP) fS)))) fS))))
 (dQ (sC 4 nd (cc (U1 T) T.D_30 hr (cJ (fG (aJ 0)) (cJ (fG (aJ 1)) fS))))
 (mY (TR (MN (cJ (kT vI (cJ (elC (fr:=[none,some 0,some 2]) (N':=["_law_name","_law_tape_here","_law_values"]) (fJ (aJ 4)) (λb=>⟨(dZ (pk 0)),jG,(MN (cJ (fG (aJ 0)) (cJ (cc (U1 T) T.D_30 hr (cJ (fG (aJ 1)) (cJ (CJ cX gR (fG aP) (cc (mB T) T.D_29 hr (cJ (fG (aJ 1)) (cJ (fG (dB mK sZ (aJ 2) aP)) fS)))) fS))) fS)))⟩)) fS) kY T.b_tuple jZ) (cJ (fG (aJ 3)) fS))))))),?_⟩
 show pL _ _ _ _ _ [.val (qL Tp),.val (.int f),.val (.int v),.un,.un];refine jC (λn1 d=>n1<=c+13/\∃(m:Nat)(ys:List Str),2<=m/\m<=4/\KN m ys/\d=.tuple (ys.map aY)) (λq hq=>⟨_,rfl,by decide,_,rfl,_,rfl,4,rfl,by decide,by decide,by omega,λr h0 h1=>?_⟩) ?_
 ·obtain⟨d,hm,Br,_⟩:=CU (xs:=[aM 2,.int 3,.int 2,.int 4]) (i:=r) h0 h1
  have:∃m:Nat,d=.int (m:Int)/\2<=m/\m<=4:=by
   simp only[bE,eO,af]at hm;rcases hm with rfl | rfl | rfl | rfl
   ·exact⟨2,rfl,by decide,by decide⟩
   ·exact⟨3,rfl,by decide,by decide⟩
   ·exact⟨2,rfl,by decide,by decide⟩
   ·exact⟨4,rfl,by decide,by decide⟩
  obtain⟨m,rfl,Kg,vj⟩:=this;exact⟨_,Br,_,rfl,m,rfl,by omega,by omega,by omega,λn' ys hn hy=>hq _ _ ⟨by omega,m,ys,Kg,vj,hy,rfl⟩⟩
 rintro c1 _ ⟨ug,ma,an,Ul,Um,Oq,rfl⟩;refine jC (λn1 d=>n1<=c+25/\∃ys:List Str,KN f ys/\d=.tuple (ys.map aY)) (λq hq=>⟨_,rfl,_,rfl,_,rfl,f,rfl,Hi,Pc,by omega,λn' ys hn hy=>hq _ _ ⟨by omega,ys,hy,rfl⟩⟩) ?_;rintro c2 _ ⟨rz,ns,cg,rfl⟩;have Ee:=cg.1;dsimp only[aL2,aL1,aDk,XD];refine XA (ts:=ns.map aY) (λR h=>⟨_,rfl,_,rfl,h⟩) (λ_ x y=>∃nm vs,x=.str nm/\y=oJ (nm,vs)/\(2<=vs.length/\vs.length<=v/\KN vs.length vs)) 13 (by rw[aB];omega) (λj k x q hx hk hq=>?_) λk ys hk vh hy=>?_
 ·have hj:j<ns.length:=by have:=(aD.mp hx).1;rw[aB]at this;exact this
  obtain⟨nm,_,rfl⟩:=aQ.mp (aN hx);refine⟨_,rfl,_,rfl,_,rfl,_,rfl,_,rfl,(v:Int)-1,rfl,by omega,by omega,by omega,λr h0 h1=>?_⟩;obtain⟨t,rfl⟩:=JA h0
  have e:[aM (2+(t:Int))]=[.int ((2+t:Nat):Int)]:=by
   have:(2:Int)+(t:Int)=((2+t:Nat):Int):=by omega
   rw[this]
  exact⟨_,rfl,2+t,e,by omega,by omega,by omega,λn' vs hn hv=>⟨(aE rfl),hq _ _ (by omega) ⟨nm,vs,rfl,rfl,by rw[hv.1];omega,by rw[hv.1];omega,by rw[hv.1];exact hv⟩⟩⟩
 ·rw[aB]at vh hk;obtain⟨fs,rfl,h1,h2⟩:=O4 ns ys vh hy;have Da:fs.length=f:=by rw[<- Ee,<- h1,aB]
  have Ka:=Oq.1;refine⟨_,rfl,(aE rfl),h k fs an (by omega) ⟨by omega,by omega,by rw[h1,Da];exact cg,λx hx=>⟨(h2 x hx).1,by have:=(h2 x hx).2.1;omega,(h2 x hx).2.2⟩,by omega,by omega,by rw[Ka];exact Oq⟩ Da λx hx=>(h2 x hx).2.1⟩
def aKd:eK P w K mg base jW 2 gV Bg ["_law_tape_here","_law_form_here"] (nD K aHu):=by
 refine fnC T.D_32.F aIt λhr nd Tp c ds Q vd h=>?_;obtain⟨fs,an,rfl,F,hc,h⟩:=h;refine⟨_,(dQ (oS (ss 2 nd (eB aR)))
 (dQ (sfC (fJ (cS bY eF (aJ 1) aP)) (rZ (mZ rfl (dO (pn 3 nd) (dO (pn 4 nd) lE))))
 (dQ (sC 5 nd (cc (mB T) T.D_29 hr (cJ (fG (aJ 0)) (cJ (fG (dB jI sQ aP (cB jO (aC (aJ 4) aR) dA T.b_len fR))) fS))))
 (mY (oS (ss 2 nd (dB cX gR (aJ 2) (eB (aC (wH (dR kP oH (dB lW AF (aJ 5) aP) aP) uB (cS bY eF (aJ 4) (dB xS AF (aJ 5) aP))) aR))))))))
 (mY (oS (dC (aJ 2)))))),?_⟩
 show pL _ _ _ _ _ [.val (qL Tp),.val (gH fs an),.un,.un,.un,.un];have n5:=F.n5;refine kN (dI (.tuple []) (λq hq=>⟨(aE rfl),hq⟩) ?_)
 refine W8 (ts:=fs.map oJ) (λR h=>⟨_,rfl,_,rfl,_,rfl,h⟩)
  (λk m σ=>∃(cs:List D)(s3 s4 s5:Sl),σ=[.val (qL Tp),.val (gH fs an),.val (.tuple cs),s3,s4,s5]/\m<=c+k/\cs.length=k/\∀(j:Nat) f d,fs[j]?=some f->cs[j]?=some d->okV f d=true) ⟨[],_,_,_,rfl,aL _,rfl,λj f d _ h=>by simp at h⟩ (λk m x g6 hx hP=>?_) λm g6 hP=>?_
 ·obtain⟨cs,s3,s4,s5,rfl,hm,gc,uy⟩:=hP;have hk:k<fs.length:=by have:=(aD.mp hx).1;rw[aB]at this;exact this
  have ex:x=oJ fs[k]:=by rw[aH,aG hk]at hx;exact(e9 hx).symm
  subst ex;have EM:fs[k]?=some fs[k]:=aG hk;obtain⟨v2,v5,Qa⟩:=F.vs _ (gQ hk)
  generalize fs[k]=f at *
  refine⟨.str f.1,.tuple (f.2.map aY),rfl,?_⟩;refine jC (λn1 d=>n1=m+1/\∃t:Nat,d=.int (t:Int)/\t<5*f.2.length) (λq hq=>⟨_,rfl,_,rfl,.inl ⟨by decide,by decide⟩,_,rfl,5*((f.2.map aY).length:Int),rfl,by rw[aB];omega,by rw[aB];omega,by omega,λr h0 h1=>hq _ _ ⟨rfl,?_⟩⟩) ?_
  ·obtain⟨t,rfl⟩:=JA h0;rw[aB]at h1;exact⟨t,rfl,by omega⟩
  rintro m1 _ ⟨Ec,t,rfl,ht⟩;have e5:((t:Int) / 5)=((t / 5:Nat):Int):=by omega
  have Br:L2.atI (f.2.map aY) ((t:Int) / 5)=some (.str f.2[t / 5]):=by rw[e5];exact yF (by omega)
  have fin:∀d,okV f d=true->∃(Kw:List D)(s3 s4 s5:Sl),[Sl.val (qL Tp),.val (gH fs an),.val (.tuple (cs++[d])),.val (.str f.1),.val (.tuple (f.2.map aY)),.val (.int (t:Int))]=[.val (qL Tp),.val (gH fs an),.val (.tuple Kw),s3,s4,s5]/\m1<=c+(k+1)/\Kw.length=k+1/\∀(j:Nat) f d,fs[j]?=some f->Kw[j]?=some d->okV f d=true:=λd hd=>by
   refine⟨cs++[d],_,_,_,rfl,by omega,by simp[gc],λj g e hg he=>?_⟩;by_cases hj:j<k
   ·rw[cQ (by omega)]at he;exact uy j g e hg he
   ·rw[cN (by omega)]at he
    have:j=k:=by
     by_cases z:j=k
     ·exact z
     ·have:j-cs.length≠0:=by omega
      cases q:j-cs.length with
      |zero=>exact d8 q this
      |succ n=>rw[q]at he;simp at he
    subst this;rw[EM]at hg;cases hg;simp[gc]at he;subst he;exact hd
  by_cases hz:(t:Int)%5=4
  ·refine qC (.tuple (cs++[.none])) (λq hq=>⟨_,rfl,_,rfl,(show(0:Int)<5 by decide),by
    show(if decide ((t:Int)%5=4)=true then _ else _);rw[b9 (d7 hz)];exact⟨(aE rfl),by show cs.length+1<=_;omega,hq⟩⟩) ?_
   dsimp only;exact fin .none rfl
  ·refine qC (.tuple (cs++[.str f.2[t / 5]])) (λq hq=>⟨_,rfl,_,rfl,(show(0:Int)<5 by decide),by
    show(if decide ((t:Int)%5=4)=true then _ else _);rw[b8 (by simpa using hz)];exact⟨_,rfl,_,rfl,⟨by decide,by decide⟩,_,Br,(aE rfl),by show cs.length+1<=_;omega,hq⟩⟩) ?_
   dsimp only;have Ml:f.2[t / 5]∈f.2:=gQ _;exact fin (.str f.2[t / 5]) (d7 Ml)
 ·obtain⟨cs,s3,s4,s5,rfl,hm,gc,uy⟩:=hP;rw[aB]at hm gc;exact⟨_,rfl,h m cs (by omega) (aBg gc uy)⟩
def aKc:eK P w K mg base jW 3 Aa Bh ["_law_tape_here","_law_form_here","_law_many"] (nD K aHt):=by
 refine fnC T.D_33.F aIs λhr nd Tp c ds Q vd h=>?_;obtain⟨fs,an,m,rfl,F,Uk,hc,h⟩:=h;refine⟨_,(dQ (oS (so 3 nd aR))
 (dQ (sfC (nZ (aC (aJ 2) aR) (λh=>mP rfl T.b_range h)) (dZ (pn 4 nd))
 (dQ (sC 5 nd (cc (aKd T) T.D_32 hr (cJ (fG (aJ 0)) (cJ (fG (aJ 1)) fS))))
 (dQ (sC 6 nd (cc (mB T) T.D_29 hr (cJ (fG (aJ 0)) (cJ (fG (cB jO (aC (cS bY eF (aJ 1) aP) aR) dA T.b_len fR)) fS))))
 (dQ (IH (aB3 (SV (YA (dR QW U4 (cS bY eF (aJ 5) aP) uB)) (NK (S2 kP oH (cc (mB T) T.D_29 hr (cJ (fG (aJ 0)) (cJ (fG aP) fS))) (fG aP)))))
 (mY (oS (ss 6 nd (dB lW AF (yA (cS bY eF (cS bY eF (cS bY eF (aJ 1) aP) aP) aP) (aC (cS bY eF (aJ 5) aP) aR) (λh ha=>oN mG mF mE (xW hr) h ha)) (cB jO (aC (cS bY eF (aJ 1) aP) aR) dA T.b_len fR)))))
 BM)
 (dQ (oS (ss 7 nd (eB (aC (aJ 5) (aC (cS bY eF (cS bY eF (aJ 1) aP) (aJ 6)) aR)))))
 (dQ (IH (aB3 (SV (YA (dR pE nA (aJ 4) aP)) (NK (S2 kP oH (cc (mB T) T.D_29 hr (cJ (fG (aJ 0)) (cJ (fG aP) fS))) (fG aP)))))
 (mY (sC 7 nd (WW (i:=3) (pv 3) (cc (mB T) T.D_29 hr (cJ (fG (aJ 0)) (cJ (fG (aJ 4)) fS))))))
 BM)
 (mY (oS (yS (i:=3) (pv 3) (aJ 7) (pb:=λh=>qA (oN eA iI iH nS (pv 3) h)))))))))))
 (TQ 3 (mY (oS (dC (aJ 3))))))),?_⟩
 show pL _ _ _ _ _ [.val (qL Tp),.val (gH fs an),.val (.int m),.un,.un,.un,.un,.un];have n1:=F.n1;have a2:=F.a2;have a4:=F.a4;refine kN (pZ [] (by decide) (λq hq=>hq) ?_)
 refine W8 (ts:=gL m) (λR h=>⟨_,rfl,(m:Int),rfl,by omega,by omega,by simpa using h⟩)
  (λk c1 σ=>∃(rs:List (List D×Str))(s4 s5 s6 s7:Sl),σ=[.val (qL Tp),.val (gH fs an),.val (.int m),.own (rs.map fC),s4,s5,s6,s7]/\c1<=c+10*k/\rs.length=k/\jH fs an rs) ⟨[],_,_,_,_,rfl,by omega,rfl,λr hr=>by simp at hr⟩ (λk c1 x g6 hx hP=>?_) λc1 g6 hP=>?_
 ·obtain⟨hk,rfl⟩:=rY hx;obtain⟨rs,s4,s5,s6,s7,rfl,ug,oq,lx⟩:=hP;refine jC (λn1 d=>n1<=c1+5/\∃cs,qN fs (.tuple cs)=true/\d=.tuple cs) (λq hq=>⟨_,rfl,_,rfl,_,rfl,fs,an,rfl,F,by omega,λn' cs hn xn=>hq _ _ ⟨hn,cs,xn,rfl⟩⟩) ?_;rintro c2 _ ⟨rz,cs,xn,rfl⟩;have Ka:((an.map aY).length:Int)=(an.length:Int):=by rw[aB]
  refine jC (λn1 d=>n1=c2+1/\∃t:Nat,d=.int (t:Int)/\t<an.length) (λq hq=>⟨_,rfl,_,rfl,_,rfl,_,rfl,((an.map aY).length:Int),rfl,by omega,by omega,by omega,λr h0 h1=>hq _ _ ⟨rfl,?_⟩⟩) ?_
  ·obtain⟨t,rfl⟩:=JA h0;exact⟨t,rfl,by omega⟩
  rintro c3 _ ⟨Ln,t,rfl,ht⟩;obtain⟨gc,uy⟩:=qY xn;obtain⟨f0,Bu⟩:∃f,fs[0]?=some f:=⟨_,aG (by omega)⟩;obtain⟨d0,Hf⟩:∃d,cs[0]?=some d:=⟨_,aG (by omega)⟩;have hok:=uy 0 f0 d0 Bu Hf;have Fj:L2.atI cs 0=some d0:=L2.gU (j:=0) Hf;have wt:L2.atI (fs.map oJ) 0=some (oJ f0):=L2.gU (j:=0) (by rw[aH,Bu];rfl);have Ti:=aN Bu;refine RX (∃z:Str,d0=.str z/\z∈f0.2) (λc4=>c4<=c3+1) (λd=>∃t:Nat,d=.int (t:Int)/\t<an.length) (λq hq=>⟨_,rfl,_,Fj,?_⟩) (.int (t:Int)) rfl ⟨t,rfl,ht⟩ (λhC q hq=>?_) ?_
  ·show(if(!qF d0)=true then _ else q c3 false)
   cases hn:qF d0 with
   |true=>rw[b8 (by decide)];exact hq _ _ (by omega) λz=>by cases z
   |false=>
    rw[b9 (by decide)]
    have Na:∃z:Str,d0=.str z/\z∈f0.2:=by
     cases d0 with
     |none=>cases hn
     |str z=>exact⟨z,rfl,e7 hok⟩
     |_=>cases hok
    exact⟨_,rfl,_,rfl,2,rfl,by decide,by decide,by omega,λr h0 h1=>hq _ _ (aL _) λ_=>Na⟩
  ·obtain⟨z,rfl,hz⟩:=hC;have hx:=qV (F.vals Ti) hz;have hp:(0:Int)<((an.map aY).length:Int):=by omega
   refine⟨_,rfl,_,rfl,_,wt,_,rfl,_,rfl,_,rfl,_,Fj,_,_,rfl,hx,_,rfl,_,rfl,hp,hq _ ⟨(f0.2.idxOf z)%an.length,?_,lD _ (by omega)⟩⟩;show aM (((f0.2.idxOf z:Nat):Int)%((an.map aY).length:Int))=_;rw[Ka]
   rfl
  rintro c4 _ Ov ⟨t2,rfl,Vg⟩;have Sq:L2.atI (an.map aY) (t2:Int)=some (.str an[t2]):=yF Vg;refine kN (dI (fC (cs,an[t2])) (λq hq=>⟨_,rfl,_,rfl,_,rfl,_,rfl,_,Sq,(aE rfl),hq⟩) ?_);have Mx:PQ fs an (cs,an[t2]):=⟨xn,gQ _⟩;refine W5 (0<k) (λc5=>c5<=c4+1) (λd=>∃r,PQ fs an r/\d=fC r) (λq hq=>⟨_,rfl,?_⟩) (fC (cs,an[t2])) rfl ⟨_,Mx,rfl⟩ (λc6=>c6<=c4+2) (λ_ z=>by omega) (λc5 Lo Ke q hq=>⟨rs.map fC,rfl,_,rfl,_,rfl,_,rfl,(k:Int),rfl,by omega,by omega,by omega,λr h0 h1=>?_⟩) ?_
  ·show(if decide ((k:Int)>0)=true then _ else q c4 false);by_cases Ke:(k:Int)>0
   ·rw[b9 (d7 Ke)];exact⟨_,rfl,_,rfl,8,rfl,by decide,by decide,by omega,λr h0 h1=>hq _ _ (aL _) λ_=>by omega⟩
   ·rw[b8 (by simpa using Ke)];exact hq _ _ (by omega) λz=>by cases z
  ·obtain⟨d,Lq,Lp,_⟩:=CU (xs:=rs.map fC) (i:=r) h0 (by rw[aB,oq];exact h1);obtain⟨r',El,rfl⟩:=aQ.mp Lq;exact⟨r,_,rfl,Lp,hq _ _ (by omega) ⟨r',lx r' El,rfl⟩⟩
  rintro c6 _ Sv ⟨r,hr,rfl⟩;refine uX (ts:=rs.map fC) (fC r) rfl (by rw[aB];omega) (λq hq=>⟨_,rfl,hq⟩) ?_;refine⟨rs++[r],_,_,_,_,by rw[bV];rfl,by omega,by simp[oq],λr' El=>?_⟩;rcases dH.mp El with z | z
  ·exact lx r' z
  ·rw[bR.mp z];exact hr
 ·obtain⟨rs,s4,s5,s6,s7,rfl,ug,oq,lx⟩:=hP;rw[lM]at ug oq;exact⟨_,rfl,_,rfl,h c1 rs ug lx oq⟩
def aCu:eK P w K mg base jW 1 Ab Bi ["_law_form_here"] (dM K aHs):=by
 refine tE T.D_34.F aIr λhr nd ds Q h=>?_;obtain⟨fs,an,rfl,F,h⟩:=h;refine⟨_,(bI (ss 1 nd (pJ aR))
 (bI (sf (fJ (cS bY eF (aJ 0) aP)) (rZ (mZ rfl (dO (pn 2 nd) (dO (pn 3 nd) lE))))
 (bI (ss 4 nd (wH (dR kP oH (cB jO (aC (aJ 3) aR) dA T.b_len fR) aP) (jY nQ yX (aJ 3) mH (lF aP)) (aJ 3)))
 (bI (ss 1 nd (dB cX gR (aJ 1) (el (fr:=[none,some 2]) (N':=["_law_value","_law_name"]) (fJ (aJ 4)) (λb=>⟨(dZ (pk 0)),jG,(eB (aC gT (aC (aJ 1) (aC (aJ 0) aR))))⟩))))
 (bW (ss 1 nd (dB cX gR (aJ 1) (el (fr:=[none,some 2,some 3]) (N':=["_law_k","_law_name","_law_values"]) (RH (aC aP (aC (dB mK sZ (cB jO (aC (aJ 3) aR) dA T.b_len fR) aP) aR)) (λh=>QS rfl T.b_range h)) (λb=>⟨(dZ (pk 0)),jG,(eB (aC gT (aC (aJ 1) (aC (cS bY eF (aJ 2) (aJ 0)) aR))))⟩))))))))
 (bW (dC (aJ 1))))),?_⟩
 show iY _ _ _ [.val (gH fs an),.un,.un,.un,.un];have n5:=F.n5;refine dI (.list []) (λq hq=>⟨(aE rfl),hq⟩) ?_
 refine jK (ts:=fs.map oJ) (λR h=>⟨_,rfl,_,rfl,_,rfl,h⟩)
  (λi σ=>∃s2 s3 s4:Sl,σ=[.val (gH fs an),.val (.list (eZ (fs.take i))),s2,s3,s4]) ⟨_,_,_,rfl⟩ (λi x g6 hx hP=>?_) λg6 hP=>?_
 ·obtain⟨s2,s3,s4,rfl⟩:=hP;rw[aH]at hx;obtain⟨f,EM,rfl⟩:=bL.mp hx;have hf:=aN EM;obtain⟨v2,v5,Qa⟩:=F.vs f hf;have gc:=kO F (fs.take i) λg hg=>fB hg;have Eb:(fs.take i).length<=5:=by rw[bA];omega
  refine⟨.str f.1,.tuple (f.2.map aY),rfl,?_⟩;dsimp only;refine dI (.tuple ((vT f).map aY)) (λq hq=>⟨_,rfl,?_⟩) ?_
  ·show(if decide (((f.2.map aY).length:Int)=2)=true then _ else _);unfold vT at hq;rw[aB];by_cases e:f.2.length=2
   ·rw[b9 (d7 (by omega))];rw[b9 e]at hq;refine⟨_,rfl,?_⟩;show q (.tuple (mL (f.2.map aY) none (some 1)));rw[vG,PK _ v2];exact hq
   ·rw[b8 (by simpa using(by omega:¬(f.2.length:Int)=2))];rw[b8 e]at hq;exact⟨_,rfl,hq⟩
  have s5:(vT f).length<=5:=by
   unfold vT;split
   ·rw[bA];omega
   ·omega
  refine dI (.list (eZ (fs.take i)++(vT f).map (ZZ "is" f))) (λq hq=>⟨_,rfl,?_⟩) ?_
  ·refine jV (ts:=(vT f).map aY) (λR h=>⟨_,rfl,_,rfl,h⟩) (λx=>.tuple [.str "is",.str f.1,x]) (by rw[aB];omega) (λx q hx hq=>⟨_,rfl,_,rfl,(aE rfl),hq⟩) ?_;rw[bH];exact⟨by rw[aB];omega,hq⟩
  have Xp:(TL.mC 1 (((f.2.map aY).length:Int)-2-1).toNat).length<=5:=by
   unfold TL.mC;rw[aB,dN,aB];omega
  refine(show AE _ _ _ _ from⟨_,rfl,?_⟩);refine jV (ts:=TL.mC 1 (((f.2.map aY).length:Int)-2-1).toNat) (λR h=>⟨_,rfl,1,((f.2.map aY).length:Int)-2,rfl,⟨by decide,by decide,by rw[aB];omega,by rw[aB];omega⟩,h⟩) (VH f) (by omega) (λx q hx hq=>?_) ?_
  ·obtain⟨m,hm,rfl⟩:=aQ.mp hx;have Hu:m<(((f.2.map aY).length:Int)-2-1).toNat:=by simpa using hm
   rw[aB]at Hu;have e:(1:Int)+(m:Int)=((m+1:Nat):Int):=by omega
   have Br:L2.atI (f.2.map aY) (1+(m:Int))=some (.str (f.2[m+1]'(by omega))):=by rw[e];exact yF (by omega)
   have Ux:q (.tuple [.str "upto",.str f.1,.str (f.2[m+1]'(by omega))]):=by
    have e2:VH f (.int (1+(m:Int)))=.tuple [.str "upto",.str f.1,.str (f.2[m+1]'(by omega))]:=by unfold VH;dsimp only;rw[Br]
    rw[<- e2];exact hq
   exact⟨_,rfl,_,rfl,_,rfl,_,Br,(aE rfl),Ux⟩
  ·rw[VG v2];have ql:(yT f).length<=5:=by unfold yT;rw[bA,fF];omega
   refine⟨by rw[bC,aB,aB];omega,.val (.str f.1),.val (.tuple (f.2.map aY)),.val (.tuple ((vT f).map aY)),?_⟩;rw[iT]
   have e:eZ (fs.take (i+1))=eZ (fs.take i)++LI f:=by
    unfold eZ;rw[cV,EM,bV,SG];show _++[LI f].flatten=_;rw[KP]
   rw[e];rfl
 ·obtain⟨s2,s3,s4,rfl⟩:=hP;rw[aB,dE];exact⟨_,rfl,by rw[<- rQ];exact h⟩
def aCt:eK P w K mg base jW 1 Ac Bj ["_law_form_here","_law_question","_law_stray","_law_case_here"] (dM K aHr):=by
 refine tE T.D_35.F aIq λhr nd ds Q h=>?_;obtain⟨fs,an,k,n,v,st,cs,rfl,F,hq,jx,xn,h⟩:=h;refine⟨_,(bI (NR (aJ 1) (vF (mZ rfl (dO (pn 4 nd) (dO (pn 5 nd) (dO (pn 6 nd) lE))))) (λhe hg=>BW he hg))
 (bI (ss 7 nd (eB aR))
 (bI (ss 8 nd uB)
 (bI (sf (nZ (aC (cB jO (aC (cS bY eF (aJ 0) aP) aR) dA T.b_len fR) aR) (λh=>mP rfl T.b_range h)) (dZ (pn 9 nd))
 (bW (iS (dR kP oH (cS bY eF (cS bY eF (cS bY eF (aJ 0) aP) (aJ 9)) aP) (aJ 5))
 (bI (ss 7 nd (cS bY eF (cS bY eF (cS bY eF (aJ 0) aP) (aJ 9)) aP))
 (bW (ss 8 nd (cS bY eF (aJ 3) (aJ 9)))))
 gD)))
 (bI (iS (dR UV aCx (aJ 8) uB)
 (bW (dC (aJ 2)))
 gD)
 (bI (ss 10 nd (dB mK sZ (yA (aJ 7) (aC (aJ 8) aR) (λh ha=>oN mG mF mE (xW hr) h ha)) (yA (aJ 7) (aC (aJ 6) aR) (λh ha=>oN mG mF mE (xW hr) h ha))))
 (bW (dC (wH (wA (wB (dR kP oH (aJ 10) aP) (wR (wA (BE (dR kP oH (aJ 4) gT) (FW (dR BZ nA (aJ 10) aP))))))) gT gT))))))))),?_⟩
 show iY _ _ _ [.val (gH fs an),.val (.tuple [.str k,.str n,.str v]),.val (.str st),.val (.tuple cs),.un,.un,.un,.un,.un,.un,.un];have n5:=F.n5;obtain⟨f,hf,se,hv,hk⟩:=GI hq;obtain⟨j,hj⟩:=bK hf;have pj:=(aD.mp hj).1;obtain⟨gc,uy⟩:=qY xn;obtain⟨c0,Dv⟩:∃d,cs[j]?=some d:=⟨_,aG (by omega)⟩;have hok:=uy j f c0 hj Dv;have Da:((fs.map oJ).length:Int)=(fs.length:Int):=by rw[aB]
 refine(show iY (TV _ _) _ _ _ from⟨_,rfl,_,_,_,rfl,?_⟩);dsimp only;refine dI (.tuple []) (λq hq=>⟨(aE rfl),hq⟩) ?_;refine dI .none (λq hq=>hq) ?_
 refine jK (ts:=gL fs.length) (λR h=>⟨_,rfl,_,rfl,((fs.map oJ).length:Int),rfl,by omega,by omega,by rw[Da];simpa using h⟩)
  (λi σ=>∃s9:Sl,σ=[.val (gH fs an),.val (.tuple [.str k,.str n,.str v]),.val (.str st),.val (.tuple cs),.val (.str k),.val (.str n),.val (.str v),.val (if j<i then .tuple (f.2.map aY)else .tuple []),.val (if j<i then c0 else .none),s9,.un]) ⟨_,by rw[b8 (by omega),b8 (by omega)];rfl⟩ (λi x g6 hx hP=>?_) λg6 hP=>?_
 ·obtain⟨hi,rfl⟩:=rY hx;obtain⟨s9,rfl⟩:=hP;have Kb:L2.atI (fs.map oJ) (i:Int)=some (oJ fs[i]):=L2.gU (by rw[aH,aG hi];rfl);have Ox:L2.atI cs (i:Int)=some cs[i]:=L2.gU (aG (by omega));by_cases Kd:i=j
  ·subst Kd;have e1:fs[i]=f:=by rw[aG hi]at hj;exact e9 hj
   have e2:cs[i]=c0:=by rw[aG (by omega)]at Dv;exact e9 Dv
   rw[e1]at Kb;rw[e2]at Ox;refine pF (λb=>b=true) (λq hq=>⟨_,rfl,_,rfl,_,rfl,_,Kb,_,rfl,_,rfl,hq _ (d7 se)⟩) (λ_=>?_) λhF=>by cases hF
   refine dI (.tuple (f.2.map aY)) (λq hq=>⟨_,rfl,_,rfl,_,rfl,_,Kb,_,rfl,hq⟩) ?_;refine qC c0 (λq hq=>⟨_,rfl,_,rfl,_,Ox,hq⟩) ?_;refine⟨.val (.int (i:Int)),?_⟩;rw[b9 (iN i),b9 (iN i)];rfl
  ·have al:¬fs[i].1=n:=λe=>Kd (by
    have h1:=A2 F (aG hi);have h2:=A2 F hj;rw[e]at h1;rw[se]at h2;omega)
   refine pF (λb=>b=false) (λq hq=>⟨_,rfl,_,rfl,_,rfl,_,Kb,_,rfl,_,rfl,hq _ (f9 al)⟩) (λhT=>by cases hT) λ_=>?_
   try unfold lZ
   dsimp only;refine⟨.val (.int (i:Int)),?_⟩;by_cases hl:j<i
   ·rw[b9 hl,b9 hl,b9 (hV hl),b9 (hV hl)];rfl
   ·rw[b8 hl,b8 hl,b8 (show¬j<i+1 by omega),b8 (show¬j<i+1 by omega)];rfl
 ·obtain⟨s9,rfl⟩:=hP;rw[lM,b9 pj,b9 pj];rw[BL F hj Dv se]at h
  cases c0 with
  |none=>
   refine gK (λb=>b=true) (λq hq=>⟨_,rfl,hq _ rfl⟩) (λ_=>⟨_,rfl,h⟩) λhF=>by cases hF
  |str z=>
   have hz:z∈f.2:=e7 hok;refine gK (λb=>b=false) (λq hq=>⟨_,rfl,hq _ rfl⟩) (λhT=>by cases hT) λ_=>?_
   try unfold lZ
   dsimp only;have x1:=qV (F.vals hf) hz;have x2:=qV (F.vals hf) hv;refine dI (.int ((f.2.idxOf z:Nat)-(f.2.idxOf v:Nat):Int)) (λq hq=>⟨_,rfl,_,rfl,_,rfl,_,_,rfl,x1,_,rfl,_,rfl,_,rfl,_,_,rfl,x2,hq⟩) ?_
   have Mb:f.2.idxOf z=f.2.idxOf v->z=v:=λe=>by
    have a1:=mU (jX.mpr hz);have a2:=mU (jX.mpr hv);rw[<- a1,<- a2];congr 1
   refine⟨_,rfl,?_⟩;show(if decide (((f.2.idxOf z:Nat)-(f.2.idxOf v:Nat):Int)=0)=true then _ else _);by_cases e0:f.2.idxOf z=f.2.idxOf v
   ·rw[b9 (d7 (by omega))]
    have hs:wT f k v st (.str z)="yes":=by
     show(if k="is" then(if z=v then("yes":Str)else "no")else if f.2.idxOf z<=f.2.idxOf v then("yes":Str)else "no")=_;rw[b9 (Mb e0),b9 (show f.2.idxOf z<=f.2.idxOf v by omega)];exact ite_self _
    rw[hs]at h;exact h
   ·rw[b8 (by rw[f9 (by omega)];decide)];refine⟨_,rfl,?_⟩;show(if decide (k="upto")=true then _ else _);have Vs:¬z=v:=λe=>e0 (by rw[e]);rcases hk with rfl | ⟨rfl,_⟩
    ·have hs:wT f "is" v st (.str z)="no":=by
      show(if("is":Str)="is" then(if z=v then("yes":Str)else "no")else if f.2.idxOf z<=f.2.idxOf v then("yes":Str)else "no")=_;rw[b9 rfl,b8 Vs]
     rw[hs]at h;rw[b8 (by decide +kernel)];exact h
    ·rw[b9 (by decide +kernel)];refine⟨_,rfl,?_⟩
     have hs:wT f "upto" v st (.str z)=if f.2.idxOf z<=f.2.idxOf v then("yes":Str)else "no":=by
      show(if("upto":Str)="is" then(if z=v then("yes":Str)else "no")else if f.2.idxOf z<=f.2.idxOf v then("yes":Str)else "no")=_;rw[b8 (by decide +kernel)]
     rw[hs]at h;show(if decide (((f.2.idxOf z:Nat)-(f.2.idxOf v:Nat):Int)<0)=true then _ else _);by_cases hl:f.2.idxOf z<f.2.idxOf v
     ·rw[b9 (d7 (by omega))];rw[b9 (by omega)]at h;exact h
     ·rw[b8 (by rw[f9 (by omega)];decide)];rw[b8 (by omega)]at h;exact h
  |_=>cases hok
def aKb:eK P w K mg base jW 2 Ad Bk ["_law_form_here","_law_question","_law_stray","_law_rows_here"] (dM K aB8):=by
 refine tE T.D_36.F aIp λhr nd ds Q h=>?_;obtain⟨fs,an,k,n,v,st,rs,rfl,F,hq,jx,lx,hl,h⟩:=h;refine⟨_,(bI (so 4 nd aR)
 (bI (so 5 nd aR)
 (bI (sf (fJ (aJ 3)) (dZ (pn 6 nd))
 (bW (iS (dR kP oH (cd (aCt T) T.D_35 hr (aC (aJ 0) (aC (aJ 1) (aC (aJ 2) (aC (cS bY eF (aJ 6) aP) aR))))) gT)
 (bW (yS (i:=4) (pv 4) (aJ 6) (pb:=λh=>qA (oN eA iI iH nS (pv 4) h))))
 (bW (yS (i:=5) (pv 5) (aJ 6) (pb:=λh=>qA (oN eA iI iH nS (pv 5) h)))))))
 (tG 5 (tG 4 (bW (dC (eB (aC (aJ 4) (aC (aJ 5) aR)))))))))),?_⟩
 show iY _ _ _ [.val (gH fs an),.val (.tuple [.str k,.str n,.str v]),.val (.str st),.val (.list (rs.map rM)),.un,.un,.un];refine pZ [] (by decide) (λq hq=>hq) ?_;refine pZ [] (by decide) (λq hq=>hq) ?_
 refine jK (ts:=rs.map rM) (λR h=>⟨_,rfl,_,rfl,h⟩)
  (λi σ=>∃s6:Sl,σ=[.val (gH fs an),.val (.tuple [.str k,.str n,.str v]),.val (.str st),.val (.list (rs.map rM)),.own (((rs.take i).filter (KJ fs k n v st)).map rM),.own (((rs.take i).filter λr=>!KJ fs k n v st r).map rM),s6]) ⟨_,rfl⟩ (λi x g6 hx hP=>?_) λg6 hP=>?_
 ·obtain⟨s6,rfl⟩:=hP;have hi:i<rs.length:=by have:=(aD.mp hx).1;rw[aB]at this;exact this
  have ex:x=rM rs[i]:=by rw[aH,aG hi]at hx;exact(e9 hx).symm
  subst ex;have et:rs.take (i+1)=rs.take i++[rs[i]]:=by rw[cV,aG hi];rfl
  have hr:=lx rs[i].1 (aQ.mpr ⟨_,gQ hi,rfl⟩)
  have l1:(((rs.take i).filter (KJ fs k n v st)).map rM).length<=60:=by
   rw[aB];have:=iF (KJ fs k n v st) (rs.take i);rw[bA]at this;omega
  have l2:(((rs.take i).filter λr=>!KJ fs k n v st r).map rM).length<=60:=by
   rw[aB];have:=iF (λr=>!KJ fs k n v st r) (rs.take i);rw[bA]at this;omega
  generalize rs[i]=r at *
  by_cases hy:lT fs k n v st r.1.1="yes"
  ·have hb:KJ fs k n v st r=true:=d7 hy;refine pF (λb=>b=true) (λq fu=>⟨_,rfl,_,rfl,_,rfl,_,rfl,_,L2.gU (j:=0) rfl,fs,an,k,n,v,st,r.1.1,rfl,F,hq,jx,hr.1,fu _ (d7 hy)⟩) (λ_=>?_) λhF=>by cases hF
   refine uX (ts:=((rs.take i).filter (KJ fs k n v st)).map rM) (rM r) rfl (by omega) (λq hq=>⟨_,rfl,hq⟩) ?_;refine⟨.val (rM r),?_⟩;rw[et,iL,iL,bV,bV,cD (p:=KJ fs k n v st),b9 hb,cD (p:=λr=>!KJ fs k n v st r),b8 (by rw[hb];decide),uO,uO,lA,dP]
   rfl
  ·have hb:KJ fs k n v st r=false:=f9 hy;refine pF (λb=>b=false) (λq fu=>⟨_,rfl,_,rfl,_,rfl,_,rfl,_,L2.gU (j:=0) rfl,fs,an,k,n,v,st,r.1.1,rfl,F,hq,jx,hr.1,fu _ (f9 hy)⟩) (λhT=>by cases hT) λ_=>?_;refine uX (ts:=((rs.take i).filter λr=>!KJ fs k n v st r).map rM) (rM r) rfl (by omega) (λq hq=>⟨_,rfl,hq⟩) ?_;refine⟨.val (rM r),?_⟩;rw[et,iL,iL,bV,bV,cD (p:=KJ fs k n v st),b8 (by rw[hb];decide),cD (p:=λr=>!KJ fs k n v st r),b9 (by rw[hb];rfl),uO,uO,lA,dP]
   rfl
 ·obtain⟨s6,rfl⟩:=hP;rw[aB,dE];exact⟨_,rfl,_,rfl,_,rfl,_,rfl,(aE rfl),h⟩
def aKa:eK P w K mg base jW 2 Ae Bl ["_law_tape_here"] (nD K aHq):=by
 refine fnC T.D_37.F aIo λhr nd Tp c ds Q vd h=>?_;obtain⟨rfl,hc,h⟩:=h;refine⟨_,(dQ (oS (NS (i:=1) nd rfl (by first | exact ag rfl | exact y8 rfl) (pJ (aC (eB (aC aP (aC aP aR))) (aC (eB (aC aP (aC aP aR))) (aC (eB (aC aP (aC aP aR))) (aC (eB (aC aP (aC aP aR))) (aC (eB (aC aP (aC aP aR))) (aC (eB (aC aP (aC aP aR))) (aC (eB (aC (dB UU AF aP aP) (aC aP aR))) (aC (eB (aC aP (aC (dB UU AF aP aP) aR))) aR)))))))))))
 (dQ (sC 1 nd (CJ cX gR (fG (aJ 1)) (aF4 (cJ (MN (cJ (cc (mB T) T.D_29 hr (cJ (fG (aJ 0)) (cJ (fG aP) fS))) (cJ (cc (mB T) T.D_29 hr (cJ (fG (aJ 0)) (cJ (fG aP) fS))) fS))) (cJ (fG (eB (aC aP (aC aP aR)))) fS)))))
 (mY (TR (PC bY eF (fG (aJ 1)) (cc (mB T) T.D_29 hr (cJ (fG (aJ 0)) (cJ (fG aP) fS)))))))),?_⟩
 show pL _ _ _ _ _ [.val (qL Tp),.un];have pw:aBx 10 6:=by unfold aBx;decide
 refine kN (dI (.list ([(1,0),(0,1),(3,1),(1,1),(2,3),(0,0),(10^6,1),(1,10^6)].map λp:Int×Int=>.tuple [.int p.1,.int p.2])) (λq hq=>⟨(aE rfl),(aE rfl),(aE rfl),(aE rfl),(aE rfl),(aE rfl),pw,(aE rfl),pw,(aE rfl),(aE rfl),hq⟩) ?_);refine jC (λn1 d=>n1=c+2/\∃ps:List (Int×Int),ps.length=10/\(∀p∈ps,(0<=p.1/\p.1<=1000000)/\0<=p.2/\p.2<=1000000)/\d=.list (ps.map λp:Int×Int=>.tuple [.int p.1,.int p.2])) (λq hq=>⟨_,rfl,_,rfl,_,rfl,12,rfl,by decide,by decide,by omega,λr h0 h1=>⟨_,rfl,_,rfl,6,rfl,by decide,by decide,by omega,λs g0 g1=>⟨(aE rfl),(aE rfl),(aE rfl),(aE rfl),hq _ _ ⟨rfl,[(1,0),(0,1),(3,1),(1,1),(2,3),(0,0),(10^6,1),(1,10^6),(r,s),(7,2)],rfl,λp hp=>?_,rfl⟩⟩⟩⟩) ?_
 ·simp only[bE,eO,af]at hp;rcases hp with rfl | rfl | rfl | rfl | rfl | rfl | rfl | rfl | rfl | rfl<;>(refine⟨⟨?_,?_⟩,?_,?_⟩<;>first | decide | (show(0:Int)<=r;exact h0) | (show r<=1000000;omega) | (show(0:Int)<=s;exact g0) | (show s<=1000000;omega))
 rintro c1 _ ⟨ug,ps,hl,hp,rfl⟩;refine⟨_,rfl,_,rfl,_,rfl,10,rfl,by decide,by decide,by omega,λr h0 h1=>?_⟩;obtain⟨d,Lq,Lp,_⟩:=CU (xs:=ps.map λp:Int×Int=>eM [.int p.1,.int p.2]) (i:=r) h0 (by rw[aB,hl];exact h1);obtain⟨p,Kj,rfl⟩:=aQ.mp Lq;exact⟨_,Lp,h _ p.1 p.2 (by omega) (hp p Kj).1.1 (hp p Kj).1.2 (hp p Kj).2.1 (hp p Kj).2.2⟩
def YI(dd:Nat)
  (Gk:eK P w K mg base jW (0+dd) qv rm ["_law_tree"] (dM K (tJ dd))):eK P w K mg base jW (0+dd+1) qv rm ["_law_tree"] (dM K (tJ (dd+1))):=by
 refine tE T.D_41.F aIk λhr nd ds Q h=>?_;obtain⟨t,rfl,hk,hd,h⟩:=h;refine⟨_,(bI (iS (dR kP oH (cS bY eF (aJ 0) aP) gT)
 (bW (dC aP))
 gD)
 (bW (dC (dB cX gR (dB cX gR aP (cd (hk:=by omega) Gk T.D_41 hr (aC (cS bY eF (aJ 0) aP) aR))) (cd (hk:=by omega) Gk T.D_41 hr (aC (cS bY eF (aJ 0) aP) aR)))))),?_⟩
 show iY _ _ _ [.val (HU t)]
 cases t with
 |say a=>exact gK (λb=>b=true) (λq hq=>⟨_,rfl,_,rfl,hq _ (by decide +kernel)⟩) (λ_=>h) λhF=>by cases hF
 |ask k n v s y m=>
  have e1:(Tr.ask k n v s y m).dep=max y.dep m.dep+1:=rfl;have e2:(Tr.ask k n v s y m).kn=y.kn+m.kn+1:=rfl;rw[e1]at hd;rw[e2]at hk;refine gK (λb=>b=false) (λq hq=>⟨_,rfl,_,rfl,hq _ (by decide +kernel)⟩) (λhT=>by cases hT) λ_=>?_
  try unfold lZ
  dsimp only;refine⟨_,rfl,_,rfl,y,rfl,by omega,by omega,_,rfl,_,rfl,m,rfl,by omega,by omega,?_⟩
  have e3:(1:Int)+(y.kn:Int)+(m.kn:Int)=(((Tr.ask k n v s y m).kn:Nat):Int):=by
   rw[e2];omega
  show Q (.int (1+(y.kn:Int)+(m.kn:Int)));rw[e3];exact h
def aJ6:eK P w K mg base jW 7 qv rm ["_law_tree"] (dM K aHm):=by
 have h:∀dd:Nat,eK P w K mg base jW (0+dd) qv rm ["_law_tree"] (dM K (tJ dd)):=λdd=>by
  induction dd with
  |zero=>exact MH CD λds Q h=>U9 h
  |succ dd ih=>exact YI T dd ih
 exact h 7
def YJ(dd:Nat)
  (Gj:eK P w K mg base jW (2+dd) qu rh ["_law_form_here","_law_tree","_law_rows_here"] (dM K (tK dd))):eK P w K mg base jW (2+dd+1) qu rh ["_law_form_here","_law_tree","_law_rows_here"] (dM K (tK (dd+1))):=by
 refine tE T.D_40.F aIl λhr nd ds Q h=>?_;obtain⟨fs,an,t,rs,rfl,F,ht,hd,lx,hl,h⟩:=h;refine⟨_,(bI (iS (dR kP oH (cS bY eF (aJ 1) aP) gT)
 (bW (dC (cB jO (aC (el (fr:=[none,some 1]) (N':=["_law_row","_law_tree"]) (fJ (aJ 2)) (λb=>⟨(dZ (pk 0)),(GL (dR IS U3 (cS bY eF (aJ 0) aP) (cS bY eF (aJ 1) aP))),(aJ 0)⟩)) aR) dA T.b_len fR)))
 gD)
 (bI (K5 (g:=λ_ _ _ _=>True) (cd (hk:=by omega) (aKb T) T.D_36 hr (aC (aJ 0) (aC (cS bY eF (aJ 1) aP) (aC (cS bY eF (aJ 1) aP) (aC (aJ 2) aR))))) (rZ (mZ rfl (dO (pn 3 nd) (dO (pn 4 nd) lE)))) (λhe hg=>BW he hg))
 (bW (dC (dB cX gR (cd (hk:=by omega) Gj T.D_40 hr (aC (aJ 0) (aC (cS bY eF (aJ 1) aP) (aC (aJ 3) aR)))) (cd (hk:=by omega) Gj T.D_40 hr (aC (aJ 0) (aC (cS bY eF (aJ 1) aP) (aC (aJ 4) aR))))))))),?_⟩
 show iY _ _ _ [.val (gH fs an),.val (HU t),.val (.list (rs.map fC)),.un,.un]
 cases t with
 |say a=>
  refine gK (λb=>b=true) (λq hq=>⟨_,rfl,_,rfl,hq _ (by decide +kernel)⟩) (λ_=>?_) λhF=>by cases hF
  show oP (f1 aLb) _ _ _;dsimp only[oP,yG,XJ];refine xY (ts:=rs.map fC) (λR h=>⟨_,rfl,_,rfl,h⟩) (λx=>match x with | .tuple [_,.str b]=>!decide (b=a) | _=>false) id (by rw[aB];omega) (λx q hx hq=>?_) (λx q hx hq=>⟨_,rfl,hq⟩) ?_
  ·obtain⟨r,hr,rfl⟩:=aQ.mp hx;exact⟨_,rfl,_,rfl,_,rfl,_,rfl,hq⟩
  ·rw[jA,DJ];show Q (.int ((wO fC _).length:Nat));rw[aB]
   have e:lR fs (.say a) rs=(rs.filter ((λx:D=>match x with | .tuple [_,.str b]=>!decide (b=a) | _=>false)∘fC)).length:=by
    unfold lR;congr 1;refine lQ λr _=>?_;show(!decide (a=r.2))=(!decide (r.2=a));congr 1;rw[bf];exact eq_comm
   rw[e]at h;exact h
 |ask k n v s y m=>
  have e1:(Tr.ask k n v s y m).dep=max y.dep m.dep+1:=rfl;rw[e1]at hd;obtain⟨hq,hs,hy,hm⟩:=ht;refine gK (λb=>b=false) (λq hq=>⟨_,rfl,_,rfl,hq _ (by decide +kernel)⟩) (λhT=>by cases hT) λ_=>?_
  try unfold lZ
  dsimp only;refine NY (a:=.list ((rs.filter (HJ fs k n v s)).map fC)) (b:=.list ((rs.filter λr=>!HJ fs k n v s r).map fC)) (λq fu=>⟨_,rfl,_,rfl,_,rfl,_,rfl,_,rfl,_,rfl,IR fs an k n v s rs F hq hs lx hl fu⟩) ?_;have l1:=iF (HJ fs k n v s) rs;have l2:=iF (λr=>!HJ fs k n v s r) rs;refine⟨_,rfl,_,rfl,_,rfl,_,rfl,fs,an,y,_,rfl,F,hy,by omega,lx.filt _,by omega,_,rfl,_,rfl,_,rfl,_,rfl,fs,an,m,_,rfl,F,hm,by omega,lx.filt _,by omega,?_⟩;rw[BJ]at h;exact h
def aJ7:eK P w K mg base jW 9 qu rh ["_law_form_here","_law_tree","_law_rows_here"] (dM K aHn):=by
 have h:∀dd:Nat,eK P w K mg base jW (2+dd) qu rh ["_law_form_here","_law_tree","_law_rows_here"] (dM K (tK dd)):=λdd=>by
  induction dd with
  |zero=>exact MH CD λds Q h=>VA h
  |succ dd ih=>exact YJ T dd ih
 exact h 7
def YK(dd:Nat)
  (Gi:eK P w K mg base jW (1+dd) qt rf ["_law_form_here","_law_tree","_law_deep"] (dM K (tL dd))):eK P w K mg base jW (1+dd+1) qt rf ["_law_form_here","_law_tree","_law_deep"] (dM K (tL (dd+1))):=by
 refine tE T.D_39.F aIm λhr nd ds Q h=>?_;obtain⟨fs,an,t,d,rfl,F,ht,Lr,uz,h⟩:=h;refine⟨_,(bI (iS (wA (wB (rK (tv (CF (yZ _) (aJ 1) (λh=>jL uE rfl T.b_isinstance iU (dY h (dY (uV rfl T.b_tuple jZ rfl) hU)))))) (wR (dR BZ nA (cB jO (aC (aJ 1) aR) dA T.b_len fR) aP))))
 (bW (dC kR))
 gD)
 (bI (iS (dR kP oH (cS bY eF (aJ 1) aP) gT)
 (bW (dC (sG (nT kP oH (cB jO (aC (aJ 1) aR) dA T.b_len fR) aP) (sE (nT (GC hr) OL (cS bY eF (aJ 1) aP) (cS bY eF (aJ 0) aP))))))
 gD)
 (bI (iS (wA (wB (dR kP oH (aJ 2) aP) (wB (dR IS U3 (cS bY eF (aJ 1) aP) gT) (wB (dR IS U3 (cB jO (aC (aJ 1) aR) dA T.b_len fR) aP) (wR (dR (rS hr) rT (cS bY eF (aJ 1) aP) (eB (aC gT (aC gT aR)))))))))
 (bW (dC kR))
 gD)
 (bI (iS (dR (rS hr) rT (cS bY eF (aJ 1) aP) (cd (hk:=by omega) (aCu T) T.D_34 hr (aC (aJ 0) aR)))
 (bW (dC kR))
 gD)
 (bW (dC (sG (cd (hk:=by omega) Gi T.D_39 hr (aC (aJ 0) (aC (cS bY eF (aJ 1) aP) (aC (dB mK sZ (aJ 2) aP) aR)))) (sE (cd (hk:=by omega) Gi T.D_39 hr (aC (aJ 0) (aC (cS bY eF (aJ 1) aP) (aC (dB mK sZ (aJ 2) aP) aR)))))))))))),?_⟩
 show iY _ _ _ [.val (gH fs an),.val (HU t),.val (.int (d:Nat))];have ff:¬(false=true):=aX
 cases t with
 |say z=>
  have hz:z∈an:=by cases d<;>exact ht
  refine gK (λb=>b=false) (λq hq=>⟨_,rfl,oj (b8 (t:=q true) (c:=(!RI "tuple" (HU (.say z)))=true) ff) ⟨_,rfl,hq _ rfl⟩⟩) (λhT=>by cases hT) λ_=>?_
  try unfold lZ
  dsimp only;refine gK (λb=>b=true) (λq hq=>⟨_,rfl,_,rfl,hq _ (by decide +kernel)⟩) (λ_=>?_) λhF=>by cases hF
  refine⟨_,rfl,?_⟩;show(if decide ((2:Int)=2)=true then _ else Q (.bool false));rw[b9 (by decide)];refine⟨_,rfl,_,rfl,_,rfl,_,rfl,JQ (GD F.an.2.1 (aDf (F.an.2.1 z hz))) ?_⟩
  have e:DD (.str z) (.tuple (an.map aY))=true:=by
   show((an.map aY).any λy=>cO y (.str z))=true;rw[CV];exact d7 hz
  rw[e];exact h
 |ask k n v st y m=>
  cases d with
  |zero=>exact ht.elim
  |succ d=>
  obtain⟨hq,hs,hy,hm⟩:=ht;have ed:(((d+1:Nat):Int)-1)=((d:Nat):Int):=by omega
  have key:∀x:D,[gH fs an,x,aM (((d+1:Nat):Int)-1)]=[gH fs an,x,.int (d:Nat)]:=λx=>by rw[ed]
  refine gK (λb=>b=false) (λq hq=>⟨_,rfl,oj (b8 (t:=q true) (c:=(!RI "tuple" (HU (.ask k n v st y m)))=true) ff) ⟨_,rfl,hq _ rfl⟩⟩) (λhT=>by cases hT) λ_=>?_
  try unfold lZ
  dsimp only;refine gK (λb=>b=false) (λq hq=>⟨_,rfl,_,rfl,hq _ (by decide +kernel)⟩) (λhT=>by cases hT) λ_=>?_
  try unfold lZ
  dsimp only;refine gK (λb=>b=false) (λq hq=>⟨_,rfl,?_⟩) (λhT=>by cases hT) λ_=>?_
  ·show(if decide (((d+1:Nat):Int)=0)=true then q true else _);rw[b8 (λz=>by have:=e7 z;omega)];refine⟨_,rfl,_,rfl,?_⟩;show(if(!decide (("ask":Str)="ask"))=true then q true else _);rw[b8 (by decide +kernel)];refine⟨_,rfl,oj (b8 (t:=q true) (c:=(!decide ((5:Int)=5))=true) ff) ?_⟩;refine⟨_,rfl,_,rfl,(aE rfl),(V9 hs).1,?_⟩;show q (!DD (.str st) (.tuple [.str "yes",.str "no"]));rw[(V9 hs).2];exact hq _ rfl
  try unfold lZ
  dsimp only;obtain⟨o1,o2⟩:=aK3 F hq;refine gK (λb=>b=false) (λq hq=>⟨_,rfl,_,rfl,_,rfl,fs,an,rfl,F,o1,hq _ (by show(!DD (qD (k,n,v)) (.list ((qs fs).map qD)))=false;rw[o2];rfl)⟩) (λhT=>by cases hT) λ_=>?_
  try unfold lZ
  dsimp only;refine⟨_,rfl,_,rfl,_,rfl,_,rfl,fs,an,y,d,key _,F,hy,by omega,by omega,?_⟩;show(if true=true then _ else Q (.bool false));rw[b9 rfl];exact⟨_,rfl,_,rfl,_,rfl,_,rfl,fs,an,m,d,key _,F,hm,by omega,by omega,h⟩
def aJ8:eK P w K mg base jW 5 qt rf ["_law_form_here","_law_tree","_law_deep"] (dM K aHo):=by
 have h:∀dd:Nat,eK P w K mg base jW (1+dd) qt rf ["_law_form_here","_law_tree","_law_deep"] (dM K (tL dd)):=λdd=>by
  induction dd with
  |zero=>exact MH CD λds Q h=>VB h
  |succ dd ih=>exact YK T dd ih
 exact h 4
def aCw:eK P w K mg base jW 3 zk As ["sets","level"] (dM K (aH7 w d9)):=by
 refine tE T.D_19.F aI5 λhr nd ds Q h=>?_;obtain⟨fs,an,fa,rs,a,b,lv,rfl,S,Fo,Pj,h⟩:=h;refine⟨_,(bI (sn 2 nd)
 (bI (sf (fJ (aJ 1)) (dZ (pn 3 nd))
 (bW (sf (fJ (pI (aJ 0) (aC (aJ 3) aR) (λh ha=>rR h T.C_RowSets T.M_2 (aE8 (w:=w) T) (hr.mono (by decide)) T.D_2.d .nil qB ha))) (GO (mZ rfl (dO (pn 4 nd) (dO (pn 5 nd) (dO (pn 6 nd) (dO (pn 7 nd) lE))))))
 (bI (tH (i:=2) hr.u9 (pv 2) (aJ 6) kR)
 (bW (tH (i:=2) hr.u9 (pv 2) (aJ 7) kR))))))
 (oX 2 (bW (dC (JR (aJ 2) (pc:=λh=>iP (sS rfl) rfl T.b_list yE h))))))),?_⟩
 show iY _ _ _ [.val (kI d9 fs an rs a b),.val (.list (lv.map eS)),.un,.un,.un,.un,.un,.un];have jh:∀ls:List (List Nat),∀kv∈mX eS ls,iV kv.1:=λls=>K3 (λx=>(GF x).1) ls;have n5:=S.F.n5;have gc:=kO S.F fs λg hg=>hg;have jm:=A8 fs;have hN:(lG fs).length<=100:=by omega
 refine qT (w:=w) (show 2<8 by decide) (λj hs kvs hj=>?_) ?_
 ·rcases j with _ | _ | _ | _ | _ | _ | _ | _ | j<;>simp at hj
 refine jK (ts:=lv.map eS) (λR h=>⟨_,rfl,_,rfl,h⟩)
  (λk σ=>∃(ls:List (List Nat))(s3 s4 s5 s6 s7:Sl),σ=[.val (kI d9 fs an rs a b),.val (.list (lv.map eS)),oA w (mX eS ls),s3,s4,s5,s6,s7]/\ls.Nodup/\ls.length<=2*(lG fs).length*k/\(∀x∈ls,Sd fs rs lv x)/\∀(j:Nat)(ns:List Nat),j<k->lv[j]?=some ns->∀c∈lG fs,dX fs (bF rs ns) c=true->yN fs rs c ns∈ls/\nN fs rs c ns∈ls)
  ⟨[],_,_,_,_,_,rfl,lV,by simp,(λx hx=>by simp at hx),λj ns hj=>d8 hj (jS _)⟩ (λk x g6 hx hP=>?_) λg6 hP=>?_
 ·obtain⟨ls,s3,s4,s5,s6,s7,rfl,De,o8,hok,bj⟩:=hP;rw[aH]at hx;obtain⟨ns,Ia,rfl⟩:=bL.mp hx;have cg:=Pj ns (aN Ia);have Eb:k<lv.length:=(aD.mp Ia).1;have gy:=iF (dX fs (bF rs ns)) (lG fs);have Xn:2*(lG fs).length*k<=2*100*400:=lX (lX (aL 2) hN) (by omega)
  refine WO (ts:=((lG fs).filter (dX fs (bF rs ns))).map (LK fs rs ns)) (λR h=>⟨_,rfl,eE,_,rfl,FX,_,rfl,fs,an,fa,rs,a,b,ns,rfl,S,cg,_,rfl,h⟩)
   (λi σ=>∃(l2:List (List Nat))(s4 s5 s6 s7:Sl),σ=[.val (kI d9 fs an rs a b),.val (.list (lv.map eS)),oA w (mX eS l2),.val (eS ns),s4,s5,s6,s7]/\l2.Nodup/\l2.length<=2*(lG fs).length*k+2*i/\(∀x∈l2,Sd fs rs lv x)/\(∀x∈ls,x∈l2)/\∀(j:Nat)(c:Ch),j<i->((lG fs).filter (dX fs (bF rs ns)))[j]?=some c->yN fs rs c ns∈l2/\nN fs rs c ns∈l2)
   ⟨ls,_,_,_,_,rfl,De,o8,hok,λx hx=>hx,λj c hj=>d8 hj (jS _)⟩ (λi x g6 hx hP=>?_) λg6 hP=>?_
  ·obtain⟨l2,s4,s5,s6,s7,rfl,Dd,Dc,Ei,fj,uf⟩:=hP;rw[aH]at hx;obtain⟨c,qk,rfl⟩:=bL.mp hx;have uh:i<((lG fs).filter (dX fs (bF rs ns))).length:=(aD.mp qk).1;have Bs:=bN.mp (aN qk);have e1:=O1 l2 (yN fs rs c ns);have e2:=O1 (AK l2 (yN fs rs c ns)) (nN fs rs c ns);have tl:∀l:List (List Nat),(mX eS l).length=l.length:=λl=>by unfold mX;rw[aB]
   refine⟨_,_,_,_,rfl,?_⟩;refine QI (w:=w) (eS (yN fs rs c ns)) (.bool true) rfl (λq hq=>hq) rfl (λq hq=>⟨_,rfl,hq⟩) (GF _) (jh _) (by rw[tl];omega) ?_;rw[xP (λx y=>xT)];refine uW (w:=w) (eS (nN fs rs c ns)) (.bool true) rfl (λq hq=>hq) rfl (λq hq=>⟨_,rfl,hq⟩) (GF _) (jh _) (by rw[tl];omega) ?_;rw[xP (λx y=>xT)];refine⟨AK (AK l2 (yN fs rs c ns)) (nN fs rs c ns),_,_,_,_,rfl,V8 (V8 Dd),by omega,λx hx=>?_,λx hx=>nE.mpr (.inl (nE.mpr (.inl (fj x hx)))),λj c' hj hc'=>?_⟩
   ·rcases nE.mp hx with hx | rfl
    ·rcases nE.mp hx with hx | rfl
     ·exact Ei x hx
     ·exact⟨ns,aN Ia,c,Bs.1,Bs.2,.inl rfl⟩
    ·exact⟨ns,aN Ia,c,Bs.1,Bs.2,.inr rfl⟩
   ·by_cases Tu:j<i
    ·obtain⟨g1,g2⟩:=uf j c' Tu hc';exact⟨nE.mpr (.inl (nE.mpr (.inl g1))),nE.mpr (.inl (nE.mpr (.inl g2)))⟩
    ·have:j=i:=by omega
     subst this;rw[qk]at hc';cases hc';exact⟨nE.mpr (.inl (nE.mpr (.inr rfl))),nE.mpr (.inr rfl)⟩
  ·obtain⟨l2,s4,s5,s6,s7,rfl,Dd,Dc,Ei,fj,uf⟩:=hP;rw[aB]at Dc uf;refine⟨l2,_,_,_,_,_,rfl,Dd,?_,Ei,λj Wc hj Eg c hc hp=>?_⟩
   ·have:2*(lG fs).length*(k+1)=2*(lG fs).length*k+2*(lG fs).length:=aMk _ _;omega
   ·by_cases Me:j<k
    ·obtain⟨g1,g2⟩:=bj j Wc Me Eg c hc hp;exact⟨fj _ g1,fj _ g2⟩
    ·have:j=k:=by omega
     subst this;rw[Ia]at Eg;cases Eg;obtain⟨i,hi⟩:=bK (bN.mpr ⟨hc,hp⟩);exact uf i c (aD.mp hi).1 hi
 ·obtain⟨ls,s3,s4,s5,s6,s7,rfl,De,o8,hok,bj⟩:=hP;rw[aB]at o8 bj;refine⟨_,_,rfl,_,rfl,mX eS ls,rfl,?_⟩;rw[xI];refine h ls De o8 hok λns cg c hc hp=>?_;obtain⟨j,hj⟩:=bK cg;exact bj j ns (aD.mp hj).1 hj c hc hp
def aKn:eK P w K mg base jW 4 wx xh ["sets","numbers","deep"] (dM K (aH8 w d9)):=by
 refine tE T.D_18.F aCc λhr nd ds Q h=>?_;obtain⟨fs,an,fa,rs,a,b,ns,dp,rfl,S,cg,al,oo,ng,hM,h⟩:=h;refine⟨_,(bI (sn 3 nd)
 (bI (ss 4 nd (pJ (aC (aJ 1) aR)))
 (bI (sf (JM (aC (aJ 2) (aC aP (aC (ML aP) aR))) (λh=>IQ rfl T.b_range h)) (dZ (pn 5 nd))
 (bI (sf (fJ (aJ 4)) (dZ (pn 6 nd))
 (bW (tH (i:=3) hr.u9 (pv 3) (eB (aC (aJ 6) (aC (aJ 5) aR))) kR)))
 (bI (iS (dR pE nA (yB (i:=3) (jL vH rfl T.b_len fR (dY (pv 3) hU))) (GR rfl T.c_MOST_SETS))
 (bW IB)
 gD)
 (bW (ss 4 nd (wH (dR pE nA (aJ 5) aP) (cd (aCw (w:=w) T) T.D_19 hr (aC (aJ 0) (aC (aJ 4) aR))) (pJ aR)))))))
 (oX 3 (bW (dC (JR (aJ 3) (pc:=λh=>iP (sS rfl) rfl T.b_list yE h)))))))),?_⟩
 show iY _ _ _ [.val (kI d9 fs an rs a b),.val (eS ns),.val (.int (dp:Nat)),.un,.un,.un,.un];have jh:∀ks:List (List Nat×Nat),∀kv∈mX jM ks,iV kv.1:=λks=>K3 (kf:=jM) (λx=>(mI x.1 x.2).1) ks;have tl:∀l:List (List Nat×Nat),(mX jM l).length=l.length:=λl=>by unfold mX;rw[aB]
 have hN:=GY S.F;refine qT (w:=w) (show 3<7 by decide) (λj hs kvs hj=>?_) ?_
 ·rcases j with _ | _ | _ | _ | _ | _ | _ | j<;>simp at hj
 refine dI (.list [eS ns]) (λq hq=>⟨_,rfl,(aE rfl),hq⟩) ?_
 refine jK (ts:=pK ((dp:Nat):Int)) (λR h=>⟨_,rfl,((dp:Nat):Int),rfl,by omega,by omega,h⟩)
  (λk σ=>∃(ks:List (List Nat×Nat))(lv:List (List Nat))(s5 s6:Sl),σ=[.val (kI d9 fs an rs a b),.val (eS ns),.val (.int (dp:Nat)),oA w (mX jM ks),.val (.list (lv.map eS)),s5,s6]/\CZ fs rs ns dp k ks lv/\(∀x∈ks,HA fs rs ns dp x)/\(k<dp->∀x∈lv,HA fs rs ns dp (x,dp-k))/\ks.length<=400/\lv.length<=80000)
  ⟨[],[ns],_,_,rfl,⟨lV,by simp,(λx hx=>by rw[bR.mp hx];exact cg),(λx hx=>by simp at hx),λ_=>⟨rfl,rfl⟩,(λz=>d8 z (by omega)),(λi x d hi=>by simp at hi)⟩,(λx hx=>by simp at hx),(λ_ x hx=>by rw[bR.mp hx];exact .top),cL _,(aE rfl)⟩ (λk x g6 hx hP=>?_) λg6 hP=>?_
 ·obtain⟨ks,lv,s5,s6,rfl,M,hR,xi,Hn,Mg⟩:=hP;obtain⟨Ho,rfl⟩:=PD hx;have xi:=xi Ho
  have ni:∀y∈lv,(y,dp-k)∉ks:=λy _ hm=>by
   have:=(M.ko _ hm).2.1;dsimp only at this;omega
  refine jK (ts:=lv.map eS) (λR h=>⟨_,rfl,_,rfl,h⟩)
   (λi σ=>∃s6:Sl,σ=[.val (kI d9 fs an rs a b),.val (eS ns),.val (.int (dp:Nat)),oA w (mX jM (ks++(lv.take i).map λx=>(x,dp-k))),.val (.list (lv.map eS)),.val (.int ((dp-k:Nat):Int)),s6]) ⟨s6,by simp⟩ (λi x g6 hx hP=>?_) λg6 hP=>?_
  ·obtain⟨s6,rfl⟩:=hP;rw[aH]at hx;obtain⟨y,hy,rfl⟩:=bL.mp hx;have Il:=aN hy
   have xq:(y,dp-k)∉ks++(lv.take i).map λx=>(x,dp-k):=λz=>by
    rcases dH.mp z with z | z
    ·exact ni y Il z
    ·obtain⟨y',pq,e⟩:=aQ.mp z;injection e with e _
     subst e;obtain⟨j,hj⟩:=bK pq;have pj:=(aD.mp hj).1;rw[bA]at pj;rw[fN,b9 (by omega)]at hj;have:=qW M.nl hj hy;omega
   have vi:(ks++(lv.take i).map λx=>(x,dp-k)).length<=80400:=by rw[bC,aB,bA];omega
   refine uW (w:=w) (jM (y,dp-k)) (.bool true) rfl (λq hq=>hq) rfl (λq hq=>⟨_,rfl,_,rfl,(aE rfl),hq⟩) (mI _ _) (jh _) (by rw[tl];omega) ?_;rw[xP tW,GK xq];refine⟨.val (eS y),?_⟩;rw[cV,hy];show _=[_,_,_,oA w (mX jM (ks++(lv.take i++[y]).map λx=>(x,dp-k))),_,_,_];rw[bV,<- iT];rfl
  ·obtain⟨s6,rfl⟩:=hP;rw[aB,dE];have M0:∀gn,gn.Nodup->(∀x∈gn,lB rs x)->(k+1<dp->∀x∈lv,∀c∈lG fs,dX fs (bF rs x) c=true->yN fs rs c x∈gn/\nN fs rs c x∈gn)->CZ fs rs ns dp (k+1) (ks++lv.map λx=>(x,dp-k)) gn:=λgn h1 h2 h3=>M.step Ho h1 h2 h3
   have Jy:∀x∈ks++lv.map λx=>(x,dp-k),HA fs rs ns dp x:=λx hx=>by
    rcases dH.mp hx with hx | hx
    ·exact hR x hx
    ·obtain⟨y,hy,rfl⟩:=aQ.mp hx;exact xi y hy
   have Fn:(ks++lv.map λx=>(x,dp-k)).length<=400:=DB λz=>hM ⟨_,Q3 M.nd M.nl ni,Jy,z⟩;refine gK (λt=>t=false) (λq hq=>⟨_,_,rfl,hq _ (f9 (by rw[tl];omega))⟩) (λhT=>by cases hT) λ_=>?_;refine sn' ?_;dsimp only;have Fo:lv.length<=400:=by rw[bC,aB]at Fn;omega
   refine B0 (λv=>∃gn:List (List Nat),v=.list (gn.map eS)/\CZ fs rs ns dp (k+1) (ks++lv.map λx=>(x,dp-k)) gn/\(k+1<dp->∀x∈gn,HA fs rs ns dp (x,dp-(k+1)))/\gn.length<=80000) (λq hq=>⟨_,rfl,?_⟩) ?_
   ·show(if decide ((1:Int)<((dp-k:Nat):Int))=true then _ else _);by_cases hg:1<dp-k
    ·rw[b9 (d7 (by omega))];refine⟨_,rfl,_,rfl,fs,an,fa,rs,a,b,lv,rfl,S,Fo,M.lo,λls g1 g2 g3 g4=>hq _ ⟨ls,rfl,M0 ls g1 (λx hx=>?_) λ_=>g4,λ_ x hx=>?_,?_⟩⟩
     ·obtain⟨y,hy,c,_,_,e⟩:=g3 x hx;rcases e with rfl | rfl
      ·exact(M.lo y hy).filt _
      ·exact(M.lo y hy).filt _
     ·obtain⟨y,hy,c,hc,hp,e⟩:=g3 x hx;have pq:=xi y hy;obtain⟨d,hd⟩:∃d,dp-k=d+2:=⟨dp-k-2,by omega⟩;rw[hd]at pq;rw[show dp-(k+1)=d+1 by omega];rcases e with rfl | rfl
      ·exact .y pq hc hp
      ·exact .n pq hc hp
     ·exact dG g2 (lX (lX (aL 2) hN) Fo)
    ·rw[b8 (λz=>by have:=e7 z;omega)];exact⟨(aE rfl),hq _ ⟨[],rfl,M0 [] lV (λx hx=>by simp at hx) (λz=>d8 z (by omega)),(λz=>d8 z (by omega)),cL _⟩⟩
   ·rintro _ ⟨gn,rfl,M',Lg,vh⟩;exact⟨_,gn,_,_,rfl,M',Jy,Lg,Fn,vh⟩
 ·obtain⟨ks,lv,s5,s6,rfl,M,hR,xi,Hn,Mg⟩:=hP;rw[JY]at M
  have gc:NB fs rs ns dp ks:=⟨M.z1 (by omega),λx d hx c hc hp=>by
   obtain⟨i,hi⟩:=bK hx;obtain⟨⟨j1,_,g1⟩,j2,_,g2⟩:=M.fin i x d hi c hc hp;exact⟨aN g1,aN g2⟩⟩
  refine⟨_,_,rfl,_,rfl,mX jM ks,rfl,?_⟩;rw[xI];exact h ks ⟨M.nd,Hn,(λx hx=>let ⟨h1,_,h3,h4⟩:=M.ko x hx;⟨h1,h4,by omega,((hR x hx).ok cg al).2.1⟩),(λ_=>gc.1),gc.2⟩ M.fin
def aKo:eK P w K mg base jW 6 ww xg ["sets","numbers","deep"] (dM K (aH9 w d9)):=by
 refine tE T.D_17.F aCd λhr nd ds Q h=>?_;obtain⟨fs,an,fa,rs,a,b,ns,dp,rfl,S,cg,al,oo,ng,hM,h⟩:=h;refine⟨_,(bI (sn 3 nd)
 (bI (sf (aFw (aC (cd (aKn (w:=w) T) T.D_18 hr (aC (aJ 0) (aC (aJ 1) (aC (aJ 2) aR)))) aR) (λh=>UH rfl T.b_reversed h)) (dZ (pn 4 nd))
 (bW (tH (i:=3) hr.u9 (pv 3) (aJ 4) (cd (aKm (w:=w) T) T.D_20 hr (aC (aJ 0) (aC (aJ 3) (aC (cS bY eF (aJ 4) aP) (aC (cS bY eF (aJ 4) aP) aR))))))))
 (oX 3 (bW (dC (aJ 3)))))),?_⟩
 show iY _ _ _ [.val (kI d9 fs an rs a b),.val (eS ns),.val (.int (dp:Nat)),.un,.un];refine qT (w:=w) (show 3<5 by decide) (λj hs kvs hj=>?_) ?_
 ·rcases j with _ | _ | _ | _ | _ | j<;>simp at hj
 refine⟨_,rfl,_,rfl,_,rfl,fs,an,fa,rs,a,b,ns,dp,rfl,S,cg,al,oo,ng,hM,λks hG Lw=>⟨_,rfl,?_⟩⟩;obtain⟨De,o8,hok,jb,gc⟩:=id hG;rw[<- List.map_reverse];have oq:ks.reverse.length=ks.length:=pQ;have Pt:ks.reverse.Nodup:=List.pairwise_reverse.mpr (De.imp λh=>l8 h)
 have jh:∀l:List (List Nat×Nat),∀kv∈l.map (λx=>(jM x,mW (fD fs fa a b x.2 (bF rs x.1)))),iV kv.1:=λl kv Db=>by
  obtain⟨x,_,rfl⟩:=aQ.mp Db;exact(mI x.1 x.2).1
 refine⟨λk σ=>∃s4:Sl,σ=[.val (kI d9 fs an rs a b),.val (eS ns),.val (.int (dp:Nat)),oA w ((ks.reverse.take k).map (λx=>(jM x,mW (fD fs fa a b x.2 (bF rs x.1))))),s4],⟨_,rfl⟩,λk x g6 hx hP=>?_,λg6 hP=>?_⟩
 ·obtain⟨s4,rfl⟩:=hP;rw[aH]at hx;obtain⟨⟨y,e⟩,Ij,rfl⟩:=bL.mp hx;have Eb:k<ks.length:=by have:=(aD.mp Ij).1;omega
  have Il:(y,e)∈ks:=lY.mp (aN Ij);obtain⟨Vo,Td,Oy,_⟩:=hok _ Il;obtain⟨d,rfl⟩:∃d,e=d+1:=⟨e-1,by dsimp only at Td;omega⟩;have Tz:ks[ks.length-1-k]?=some (y,d+1):=by rw[<- vR Eb];exact Ij
  have gf:∀(j:Nat)(z:List Nat×Nat),ks.length-1-k<j->ks[j]?=some z->z∈ks.reverse.take k:=λj z hj hz=>by
   have pj:=(aD.mp hz).1
   have e2:ks.reverse[ks.length-1-j]?=some z:=by
    rw[vR (by omega),show ks.length-1-(ks.length-1-j)=j by omega];exact hz
   refine aN (i:=ks.length-1-j) ?_;rw[fN,b9 (by omega)];exact e2
  have Ea:∀c∈lG fs,dX fs (bF rs y) c=true->InK fs fa rs a b ((ks.reverse.take k).map (λx=>(jM x,mW (fD fs fa a b x.2 (bF rs x.1))))) d (yN fs rs c y)/\InK fs fa rs a b ((ks.reverse.take k).map (λx=>(jM x,mW (fD fs fa a b x.2 (bF rs x.1))))) d (nN fs rs c y):=λc hc hp=>by
   cases d with
   |zero=>exact⟨.inl rfl,.inl rfl⟩
   |succ d=>
    obtain⟨⟨j1,g1,g2⟩,j2,g3,g4⟩:=Lw _ y d Tz c hc hp;exact⟨.inr (aQ.mpr ⟨_,gf j1 _ g1 g2,rfl⟩),.inr (aQ.mpr ⟨_,gf j2 _ g3 g4,rfl⟩)⟩
  have xq:jM (y,d+1)∉((ks.reverse.take k).map (λx=>(jM x,mW (fD fs fa a b x.2 (bF rs x.1))))).map (·.1):=λz=>by
   rw[bH]at z;obtain⟨x,hx,ex⟩:=aQ.mp z;have:x=(y,d+1):=tW _ _ ex;subst this;obtain⟨j,hj⟩:=bK hx;have pj:=(aD.mp hj).1;rw[bA]at pj;rw[fN,b9 (by omega)]at hj;have:=qW Pt hj Ij;omega
  have vi:((ks.reverse.take k).map (λx=>(jM x,mW (fD fs fa a b x.2 (bF rs x.1))))).length<=400:=by rw[aB,bA];omega
  refine uW (w:=w) (jM (y,d+1)) (mW (fD fs fa a b (d+1) (bF rs y))) rfl (λq hq=>⟨_,rfl,_,rfl,_,rfl,_,rfl,_,rfl,_,rfl,fs,an,fa,rs,a,b,_,y,d,rfl,S,Vo,jh _,Ea,hq⟩) (aDw _) (λq hq=>⟨_,rfl,hq⟩) (mI _ _) (jh _) (by omega) ?_;rw[N9 xq];refine⟨.val (jM (y,d+1)),?_⟩;rw[cV,Ij];show _=[_,_,_,oA w ((ks.reverse.take k++[(y,d+1)]).map (λx=>(jM x,mW (fD fs fa a b x.2 (bF rs x.1))))),_];rw[bV];rfl
 ·obtain⟨s4,rfl⟩:=hP;rw[aB,dE];exact⟨_,_,rfl,_,rfl,h ks.reverse ⟨Pt,by omega,λx hx=>hok x (lY.mp hx),λz=>lY.mpr (jb z),λx d hx c hc hp=>let ⟨u,v⟩:=gc x d (lY.mp hx) c hc hp;⟨lY.mpr u,lY.mpr v⟩⟩⟩
def aKp:eK P w K mg base jW 9 wv xf ["form","rows","deep","prices"] (dM K (aIa w d9)):=by
 refine tE T.D_16.F aCe λhr nd ds Q h=>?_;obtain⟨fs,an,fa,rs,a,b,dp,rfl,S,al,oo,ng,hM,h⟩:=h;refine⟨_,(bI (ss 4 nd (GQ (aC (aJ 0) (aC (aJ 1) (aC (aJ 3) aR))) (λh=>GA T.K_RowSets (aE9 T) (hr.mono (by decide)) rfl T.x_RowSets T.D_0.d .nil qB h)))
 (bI (ss 5 nd (cd (aKo (w:=w) T) T.D_17 hr (aC (aJ 4) (aC (A6 (aC (cB jO (aC (aJ 1) aR) dA T.b_len fR) aR) (λh=>iP (nF rfl) rfl T.b_tuple jZ (dY (iP qH rfl T.b_range yD h) hU))) (aC (aJ 2) aR)))))
 (bI (ss 6 nd (cd (U2 (w:=w) T) T.D_21 hr (aC (aJ 4) (aC (aJ 5) (aC (A6 (aC (cB jO (aC (aJ 1) aR) dA T.b_len fR) aR) (λh=>iP (nF rfl) rfl T.b_tuple jZ (dY (iP qH rfl T.b_range yD h) hU))) (aC (aJ 2) aR))))))
 (bW (dC (eB (aC (cS bY eF (aJ 6) aP) (aC (cS bY eF (aJ 6) aP) (aC (el (fr:=[none,none]) (N':=["key","found"]) (V4 (aJ 5) (λh=>UI h)) (λb=>⟨(rZ (mZ rfl (dO (pk 0) (dO (pk 1) lE)))),jG,(dB cX gR (aJ 0) (eB (aC (cS bY eF (aJ 1) aP) aR)))⟩)) aR))))))))),?_⟩
 show iY _ _ _ [.val (gH fs an),.val (.list (rs.map fC)),.val (.int (dp:Nat)),.val (.tuple [.int a,.int b]),.un,.un,.un];have hl:=S.l;have cg:lB rs (aZ rs.length):=AB.refl _;have Mn:aZ rs.length≠[]:=λe=>al (nK.mp (by have:=i6 gO e;rw[dN]at this;exact this));have Kn:(0:Int)<=(((rs.map fC).length:Nat):Int):=iO _;have Dj:(((rs.map fC).length:Nat):Int)<=100000:=by rw[aB];omega
 have en:eM (gL (((rs.map fC).length:Nat):Int).toNat)=eS (aZ rs.length):=by rw[cW,aB];rfl
 refine dI (kI d9 fs an rs a b) (λq hq=>⟨_,rfl,_,rfl,_,rfl,fs,an,rs,a,b,rfl,S.F,S.R,S.l,hq⟩) ?_;refine tN (λv=>∃ks:List (List Nat×Nat),v=mD w (ks.map (λx=>(jM x,mW (fD fs fa a b x.2 (bF rs x.1)))))/\C4 fs rs (aZ rs.length) dp ks) (λq hq=>⟨_,rfl,_,rfl,_,rfl,Kn,Dj,_,rfl,fs,an,fa,rs,a,b,aZ rs.length,dp,by rw[en],S,cg,Mn,oo,ng,hM,λks h1=>hq _ ⟨ks,rfl,h1⟩⟩) ?_;rintro _ ⟨ks,rfl,hG⟩;have Eb:=hG.2.1;have jb:=hG.2.2.2.1
 have jh:∀kv∈ks.map (λx=>(jM x,mW (fD fs fa a b x.2 (bF rs x.1)))),iV kv.1:=λkv Db=>by
  obtain⟨x,_,rfl⟩:=aQ.mp Db;exact(mI x.1 x.2).1
 have Ea:dp=0\/(L6 (aZ rs.length) dp,mW (fD fs fa a b dp (bF rs (aZ rs.length))))∈ks.map (λx=>(jM x,mW (fD fs fa a b x.2 (bF rs x.1)))):=by
  by_cases z:dp=0
  ·exact .inl z
  ·exact .inr (aQ.mpr ⟨_,jb (by omega),rfl⟩)
 refine dI (mW (fD fs fa a b dp rs)) (λq hq=>⟨_,rfl,_,rfl,_,rfl,_,rfl,Kn,Dj,_,rfl,fs,an,fa,rs,a,b,_,aZ rs.length,dp,by rw[en],S,cg,jh,Ea,by rw[II];exact hq⟩) ?_;refine⟨_,rfl,_,rfl,_,rfl,_,rfl,?_⟩;have eT:((ks.map (λx=>(jM x,mW (fD fs fa a b x.2 (bF rs x.1))))).map λkv=>eM [kv.1,kv.2]).map aLy=ks.map (GS fs fa a b rs):=by rw[bH,bH];rfl
 refine Z4 (ts:=(ks.map (λx=>(jM x,mW (fD fs fa a b x.2 (bF rs x.1))))).map λkv=>.tuple [kv.1,kv.2]) (λR h=>⟨_,rfl,_,rfl,h⟩) aLy (by rw[aB,aB];omega) (λx hx=>?_) (λu v q hx hq=>?_) ?_
 ·obtain⟨kv,_,rfl⟩:=aQ.mp hx;exact⟨_,_,rfl⟩
 ·obtain⟨kv,Db,e⟩:=aQ.mp hx;obtain⟨x,_,rfl⟩:=aQ.mp Db;injection e with e
  injection e with e1 e
  injection e with e2 _
  subst e1 e2;exact⟨_,rfl,_,rfl,_,rfl,(aE rfl),(aE rfl),hq⟩
 ·rw[eT];exact⟨(aE rfl),h ks hG⟩
def aFa:eK P w K mg base (X1 P w) 4 wx xh ["sets","numbers","deep"] (rW K (xK d9 h9)):=by
 refine fnX T.D_18.F aCc λhr nd ds ED h hE=>?_;obtain⟨fs,an,fa,rs,a,b,ns,dp,rfl,S,cg,al,oo,ng,hM,h⟩:=h;refine⟨_,(bI (sn 3 nd)
 (bI (ss 4 nd (pJ (aC (aJ 1) aR)))
 (bI (K6 (JM (aC (aJ 2) (aC aP (aC (ML aP) aR))) (λh=>IQ rfl T.b_range h)) (dZ (pn 5 nd))
 (bI (K6 (fJ (aJ 4)) (dZ (pn 6 nd))
 (bW (tH (i:=3) hr.u9 (pv 3) (eB (aC (aJ 6) (aC (aJ 5) aR))) kR)) (λhi hg hb=>BV ib rfl hi hg hb))
 (bI (iS (dR pE nA (yB (i:=3) (jL vH rfl T.b_len fR (dY (pv 3) hU))) (GR rfl T.c_MOST_SETS))
 (bW (TF hE T.X_TooMany (aC gT aR) (λh=>UC T.R_TooMany hr rfl T.x_TooMany h)))
 gD)
 (bW (ss 4 nd (wH (dR pE nA (aJ 5) aP) (cd (aCw (w:=w) T) T.D_19 hr (aC (aJ 0) (aC (aJ 4) aR))) (pJ aR)))))) (λhi hg hb=>BV ib rfl hi hg hb))
 (oX 3 (bW IB))))),?_⟩
 show iY _ _ _ [.val (kI d9 fs an rs a b),.val (eS ns),.val (.int (dp:Nat)),.un,.un,.un,.un];have jh:∀ks:List (List Nat×Nat),∀kv∈mX jM ks,iV kv.1:=λks=>K3 (kf:=jM) (λx=>(mI x.1 x.2).1) ks;have tl:∀l:List (List Nat×Nat),(mX jM l).length=l.length:=λl=>by unfold mX;rw[aB]
 have hN:=GY S.F;refine qT (w:=w) (show 3<7 by decide) (λj hs kvs hj=>?_) ?_
 ·rcases j with _ | _ | _ | _ | _ | _ | _ | j<;>simp at hj
 refine dI (.list [eS ns]) (λq hq=>⟨_,rfl,(aE rfl),hq⟩) ?_
 refine jK (ts:=pK ((dp:Nat):Int)) (λR h=>⟨_,rfl,((dp:Nat):Int),rfl,by omega,by omega,h⟩)
  (λk σ=>∃(ks:List (List Nat×Nat))(lv:List (List Nat))(s5 s6:Sl),σ=[.val (kI d9 fs an rs a b),.val (eS ns),.val (.int (dp:Nat)),oA w (mX jM ks),.val (.list (lv.map eS)),s5,s6]/\CZ fs rs ns dp k ks lv/\(∀x∈ks,HA fs rs ns dp x)/\(k<dp->∀x∈lv,HA fs rs ns dp (x,dp-k))/\ks.length<=400/\lv.length<=80000)
  ⟨[],[ns],_,_,rfl,⟨lV,by simp,(λx hx=>by rw[bR.mp hx];exact cg),(λx hx=>by simp at hx),λ_=>⟨rfl,rfl⟩,(λz=>d8 z (by omega)),(λi x d hi=>by simp at hi)⟩,(λx hx=>by simp at hx),(λ_ x hx=>by rw[bR.mp hx];exact .top),cL _,(aE rfl)⟩ (λk x g6 hx hP=>?_) λg6 hP=>?_
 ·obtain⟨ks,lv,s5,s6,rfl,M,hR,xi,Hn,Mg⟩:=hP;obtain⟨Ho,rfl⟩:=PD hx;have xi:=xi Ho
  have ni:∀y∈lv,(y,dp-k)∉ks:=λy _ hm=>by
   have:=(M.ko _ hm).2.1;dsimp only at this;omega
  refine jK (ts:=lv.map eS) (λR h=>⟨_,rfl,_,rfl,h⟩)
   (λi σ=>∃s6:Sl,σ=[.val (kI d9 fs an rs a b),.val (eS ns),.val (.int (dp:Nat)),oA w (mX jM (ks++(lv.take i).map λx=>(x,dp-k))),.val (.list (lv.map eS)),.val (.int ((dp-k:Nat):Int)),s6]) ⟨s6,by simp⟩ (λi x g6 hx hP=>?_) λg6 hP=>?_
  ·obtain⟨s6,rfl⟩:=hP;rw[aH]at hx;obtain⟨y,hy,rfl⟩:=bL.mp hx;have Il:=aN hy
   have xq:(y,dp-k)∉ks++(lv.take i).map λx=>(x,dp-k):=λz=>by
    rcases dH.mp z with z | z
    ·exact ni y Il z
    ·obtain⟨y',pq,e⟩:=aQ.mp z;injection e with e _
     subst e;obtain⟨j,hj⟩:=bK pq;have pj:=(aD.mp hj).1;rw[bA]at pj;rw[fN,b9 (by omega)]at hj;have:=qW M.nl hj hy;omega
   have vi:(ks++(lv.take i).map λx=>(x,dp-k)).length<=80400:=by rw[bC,aB,bA];omega
   refine uW (w:=w) (jM (y,dp-k)) (.bool true) rfl (λq hq=>hq) rfl (λq hq=>⟨_,rfl,_,rfl,(aE rfl),hq⟩) (mI _ _) (jh _) (by rw[tl];omega) ?_;rw[xP tW,GK xq];refine⟨.val (eS y),?_⟩;rw[cV,hy];show _=[_,_,_,oA w (mX jM (ks++(lv.take i++[y]).map λx=>(x,dp-k))),_,_,_];rw[bV,<- iT];rfl
  ·obtain⟨s6,rfl⟩:=hP;rw[aB,dE];have M0:∀gn,gn.Nodup->(∀x∈gn,lB rs x)->(k+1<dp->∀x∈lv,∀c∈lG fs,dX fs (bF rs x) c=true->yN fs rs c x∈gn/\nN fs rs c x∈gn)->CZ fs rs ns dp (k+1) (ks++lv.map λx=>(x,dp-k)) gn:=λgn h1 h2 h3=>M.step Ho h1 h2 h3
   have Jy:∀x∈ks++lv.map λx=>(x,dp-k),HA fs rs ns dp x:=λx hx=>by
    rcases dH.mp hx with hx | hx
    ·exact hR x hx
    ·obtain⟨y,hy,rfl⟩:=aQ.mp hx;exact xi y hy
   refine gK (λt=>t=decide (400<(ks++lv.map λx=>(x,dp-k)).length)) (λq hq=>⟨_,_,rfl,hq _ (by rw[tl,bf];omega)⟩) (λhT=>?_) λhF=>?_
   ·exact QH [.str "more than four hundred sets of rows"] (λq hq=>hq) (by decide) h λB hB=>hB
   have Fn:(ks++lv.map λx=>(x,dp-k)).length<=400:=DB (gp hF.symm);refine sn' ?_;dsimp only;have Fo:lv.length<=400:=by rw[bC,aB]at Fn;omega
   refine B0 (λv=>∃gn:List (List Nat),v=.list (gn.map eS)/\CZ fs rs ns dp (k+1) (ks++lv.map λx=>(x,dp-k)) gn/\(k+1<dp->∀x∈gn,HA fs rs ns dp (x,dp-(k+1)))/\gn.length<=80000) (λq hq=>⟨_,rfl,?_⟩) ?_
   ·show(if decide ((1:Int)<((dp-k:Nat):Int))=true then _ else _);by_cases hg:1<dp-k
    ·rw[b9 (d7 (by omega))];refine⟨_,rfl,_,rfl,fs,an,fa,rs,a,b,lv,rfl,S,Fo,M.lo,λls g1 g2 g3 g4=>hq _ ⟨ls,rfl,M0 ls g1 (λx hx=>?_) λ_=>g4,λ_ x hx=>?_,?_⟩⟩
     ·obtain⟨y,hy,c,_,_,e⟩:=g3 x hx;rcases e with rfl | rfl
      ·exact(M.lo y hy).filt _
      ·exact(M.lo y hy).filt _
     ·obtain⟨y,hy,c,hc,hp,e⟩:=g3 x hx;have pq:=xi y hy;obtain⟨d,hd⟩:∃d,dp-k=d+2:=⟨dp-k-2,by omega⟩;rw[hd]at pq;rw[show dp-(k+1)=d+1 by omega];rcases e with rfl | rfl
      ·exact .y pq hc hp
      ·exact .n pq hc hp
     ·exact dG g2 (lX (lX (aL 2) hN) Fo)
    ·rw[b8 (λz=>by have:=e7 z;omega)];exact⟨(aE rfl),hq _ ⟨[],rfl,M0 [] lV (λx hx=>by simp at hx) (λz=>d8 z (by omega)),(λz=>d8 z (by omega)),cL _⟩⟩
   ·rintro _ ⟨gn,rfl,M',Lg,vh⟩;exact⟨_,gn,_,_,rfl,M',Jy,Lg,Fn,vh⟩
 ·obtain⟨ks,lv,s5,s6,rfl,M,hR,xi,Hn,Mg⟩:=hP;rw[JY]at M
  have gc:NB fs rs ns dp ks:=⟨M.z1 (by omega),λx d hx c hc hp=>by
   obtain⟨i,hi⟩:=bK hx;obtain⟨⟨j1,_,g1⟩,j2,_,g2⟩:=M.fin i x d hi c hc hp;exact⟨aN g1,aN g2⟩⟩
  exact(gc.few Hn hM).elim
def aFb:eK P w K mg base (X1 P w) 6 ww xg ["sets","numbers","deep"] (rW K (AD d9 h9)):=by
 refine fnX T.D_17.F aCd λhr nd ds ED h hE=>?_;obtain⟨fs,an,fa,rs,a,b,ns,dp,rfl,S,cg,al,oo,ng,hM,h⟩:=h;refine⟨_,(bI (sn 3 nd)
 (bI (YQ (O7 hE (aC (aJ 0) (aC (aJ 1) (aC (aJ 2) aR))) (λh=>uU (aFa (w:=w) T) (hr.mono (by decide)) rfl T.D_18.m T.D_18.k T.D_18.d .nil aCq h)) (λh=>UH rfl T.b_reversed h) (λhi=>BV ib rfl hi aJv QN))
 (oX 3 (bW IB)))),?_⟩
 show iY _ _ _ [.val (kI d9 fs an rs a b),.val (eS ns),.val (.int (dp:Nat)),.un,.un];refine qT (w:=w) (show 3<5 by decide) (λj hs kvs hj=>?_) ?_
 ·rcases j with _ | _ | _ | _ | _ | j<;>simp at hj
 exact⟨⟨_,rfl,_,rfl,_,rfl,fs,an,fa,rs,a,b,ns,dp,rfl,S,cg,al,oo,ng,hM,h⟩,λB hB=>hB⟩
def aFc:eK P w K mg base (X1 P w) 9 wv xf ["form","rows","deep","prices"] (rW K (QF d9 h9)):=by
 refine fnX T.D_16.F aCe λhr nd ds ED h hE=>?_;obtain⟨fs,an,fa,rs,a,b,dp,rfl,S,al,oo,ng,hM,h⟩:=h;refine⟨_,(bI (ss 4 nd (GQ (aC (aJ 0) (aC (aJ 1) (aC (aJ 3) aR))) (λh=>GA T.K_RowSets (aE9 T) (hr.mono (by decide)) rfl T.x_RowSets T.D_0.d .nil qB h)))
 (bI (YO (i:=5) (O7 hE (aC (aJ 4) (aC (A6 (aC (cB jO (aC (aJ 1) aR) dA T.b_len fR) aR) (λh=>iP (nF rfl) rfl T.b_tuple jZ (dY (iP qH rfl T.b_range yD h) hU))) (aC (aJ 2) aR))) (λh=>uU (aFb (w:=w) T) (hr.mono (by decide)) rfl T.D_17.m T.D_17.k T.D_17.d .nil aCq h)) (λh=>tP (i:=5) nd rfl (by first | exact ag rfl | exact y8 rfl) h))
 (bI IB
 (bW IB)))),?_⟩
 show iY _ _ _ [.val (gH fs an),.val (.list (rs.map fC)),.val (.int (dp:Nat)),.val (.tuple [.int a,.int b]),.un,.un,.un];have hl:=S.l;have cg:lB rs (aZ rs.length):=AB.refl _;have Mn:aZ rs.length≠[]:=λe=>al (nK.mp (by have:=i6 gO e;rw[dN]at this;exact this));have Kn:(0:Int)<=(((rs.map fC).length:Nat):Int):=iO _;have Dj:(((rs.map fC).length:Nat):Int)<=100000:=by rw[aB];omega
 have en:eM (gL (((rs.map fC).length:Nat):Int).toNat)=eS (aZ rs.length):=by rw[cW,aB];rfl
 refine dI (kI d9 fs an rs a b) (λq hq=>⟨_,rfl,_,rfl,_,rfl,fs,an,rs,a,b,rfl,S.F,S.R,S.l,hq⟩) ?_;exact⟨⟨_,rfl,_,rfl,_,rfl,Kn,Dj,_,rfl,fs,an,fa,rs,a,b,aZ rs.length,dp,by rw[en],S,cg,Mn,oo,ng,hM,h⟩,λB hB=>hB⟩
def aJ9:eK P w K mg base jW 10 Af Bm ["_law_form_here","_law_rows_here","_law_deep","_law_prices_here"] (dM K aHp):=by
 refine tE T.D_38.F aIn λhr nd ds Q h=>?_;obtain⟨fs,an,fa,rs,a,b,dp,rfl,S,al,oo,ng,hm,ha⟩:=h;refine⟨_,(bI (ss 4 nd uB)
 (bI (ss 5 nd (eB aR))
 (bI (sT.or (YM (bW (ss 4 nd (cd (aKp (w:=w) T) T.D_16 hr (aC (aJ 0) (aC (aJ 1) (aC (aJ 2) (aC (aJ 3) aR))))))) (λh=>ZC LH h)) (by refine' TB (J:=h9) (i:=6) (T1 (x:="") (p:=⟨0,0,0,0⟩) (aC (aJ 0) (aC (aJ 1) (aC (aJ 2) (aC (aJ 3) aR)))) (λh=>aEm (Y8 LH (aFc (w:=w) T) (hr.mono (by decide)) rfl T.D_16.m T.D_16.k T.D_16.d h))) (λea=>?hb) (λr b=>ZB LH rfl rfl nd rfl rfl rfl T.x_TooMany r b);(case hb=>(refine' (bI (ss 7 nd (show gG _ _ (aDd K [ar,z5,db,au,av,aw] (aA8 6))from ?z0))   (bW (ss 5 nd (eB (aC (show gG _ _ (aF9 K (.ref m8) (aA8 6))from ?z2) (aC (show gG _ _ (aF9 K (.type "ValueError") (aA8 6))from ?z1) (aC (aJ 7) aR)))))));(case z0=>exact(aAx (cs:=[ar,z5,db,au,av,aw]) (aJ 6) (λh=>jL R1 rfl T.b_isinstance iU (dY h (dY (LN (dY (oV rfl T.x_NoLine rfl) (dY (oV rfl T.x_NoPlace rfl) (dY (oV rfl T.x_NoRow rfl) (dY (oV rfl T.x_NoRule rfl) (dY (oV rfl T.x_NoSuch rfl) (dY (oV rfl T.x_NoText rfl) hU))))))) hU)))));(case z1=>exact(WS (c:=.type "ValueError") (cv:=.ty "ValueError") (aJ 6) (λh=>jL (J5 λ_ z=>z) rfl T.b_isinstance iU (dY h (dY (uV rfl T.b_ValueError D1 rfl) hU)))));(case z2=>exact(WS (c:=.ref m8) (cv:=.ref m8) (aJ 6) (λh=>jL (J5 λ_ z=>z) rfl T.b_isinstance iU (dY h (dY (oV rfl T.x_JudgeError rfl) hU)))))))))
 (bW (dC (eB (aC (aJ 4) (aC (aJ 5) aR)))))))),?_⟩
 show iY _ _ _ [.val (gH fs an),.val (.list (rs.map fC)),.val (.int (dp:Nat)),.val (.tuple [.int a,.int b]),.un,.un,.un,.un];refine dI .none (λq hq=>hq) ?_;refine dI (.tuple []) (λq hq=>⟨(aE rfl),hq⟩) ?_;show(_\/_);by_cases hk:zJ fs rs (aZ rs.length) dp
 ·refine .inr ⟨_,rfl,_,rfl,_,rfl,_,rfl,fs,an,fa,rs,a,b,dp,rfl,S,al,oo,ng,hk,⟨h9,.none,rfl,T.e_TooMany⟩,?_⟩;refine dI (.bool false) (λq hq=>⟨_,rfl,h9,.none,false,rfl,(aE rfl),?_,hq⟩) ?_
  ·show uL K (.ref h9) [.ref ar,.ref z5,.ref db,.ref au,.ref av,.ref aw]=some false;simp only[uL,T.q_TooMany_NoLine,T.q_TooMany_NoPlace,T.q_TooMany_NoRow,T.q_TooMany_NoRule,T.q_TooMany_NoSuch,T.q_TooMany_NoText]
  exact qC (.tuple [.bool true,.bool true,.bool false]) (λq hq=>⟨_,rfl,h9,.none,true,rfl,T.y_TooMany,_,rfl,h9,.none,true,rfl,T.v_TooMany,_,rfl,(aE rfl),hq⟩) ⟨_,rfl,_,rfl,(aE rfl),hm hk⟩
 ·exact .inl ⟨_,rfl,_,rfl,_,rfl,_,rfl,fs,an,fa,rs,a,b,dp,rfl,S,al,oo,ng,hk,λks hG=>⟨_,rfl,_,rfl,(aE rfl),ha ks hk hG⟩⟩
def aJ5:eK P w K mg base jW 2 Ag Bn ["_law_form_here","_law_rows_here"] (dM K aHl):=by
 refine tE T.D_42.F aIj λhr nd ds Q h=>?_;obtain⟨fs,an,rs,rfl,F,hR,hl,h⟩:=h;refine⟨_,(bI (so 2 nd aR)
 (bI (sf (fJ (cd (aCu T) T.D_34 hr (aC (aJ 0) aR))) (dZ (pn 3 nd))
 (bW (sf (fJ (eB (aC gT (aC gT aR)))) (dZ (pn 4 nd))
 (bI (ss 5 nd aP)
 (bI (sf (nZ (aC (cB jO (aC (aJ 1) aR) dA T.b_len fR) aR) (λh=>mP rfl T.b_range h)) (dZ (pn 6 nd))
 (bW (iS (dR kP oH (cd (aCt T) T.D_35 hr (aC (aJ 0) (aC (aJ 3) (aC (aJ 4) (aC (cS bY eF (cS bY eF (aJ 1) (aJ 6)) aP) aR))))) gT)
 (bW (ss 5 nd (dB aJ0 sZ (aJ 5) (dB UT AF aP (aJ 6)))))
 gD)))
 (bW (yS (i:=2) (pv 2) (aJ 5) (pb:=λh=>qA (oN eA iI iH nS (pv 2) h)))))))))
 (tG 2 (bW (dC (aJ 2)))))),?_⟩
 show iY _ _ _ [.val (gH fs an),.val (.list (rs.map fC)),.un,.un,.un,.un,.un];have n5:=F.n5;have gc:=kO F fs λg hg=>hg;have Ps:(qs fs).length=(eZ fs).length:=by rw[<- rQ,aB]
 have two:∀l:List Qn,(l.flatMap wQ).length=2*l.length:=λl=>by
  induction l with
  |nil=>rfl
  |cons x l ih=>rw[zZ,bC,ih];show 2+_=2*(l.length+1);omega
 refine pZ [] (by decide) (λq hq=>hq) ?_
 refine jK (ts:=(qs fs).map qD) (λR h=>⟨_,rfl,fs,an,rfl,F,_,rfl,h⟩)
  (λk σ=>∃s3 s4 s5 s6:Sl,σ=[.val (gH fs an),.val (.list (rs.map fC)),.own ((((qs fs).take k).flatMap wQ).map (DP fs rs)),s3,s4,s5,s6]) ⟨_,_,_,_,rfl⟩ (λk x g6 hx hP=>?_) λg6 hP=>?_
 ·obtain⟨s3,s4,s5,s6,rfl⟩:=hP;rw[aH]at hx;obtain⟨q0,Ig,rfl⟩:=bL.mp hx;have Uz:=aN Ig;have hk:k<(qs fs).length:=(aD.mp Ig).1;have Da:(((qs fs).take k).flatMap wQ).length<=100:=by rw[two,bA];omega
  generalize hL:((qs fs).take k).flatMap wQ=L at Da |-
  refine WO (ts:=[.str "yes",.str "no"]) (λR h=>⟨(aE rfl),_,rfl,h⟩)
   (λi σ=>∃s4 s5 s6:Sl,σ=[.val (gH fs an),.val (.list (rs.map fC)),.own ((L++(wQ q0).take i).map (DP fs rs)),.val (qD q0),s4,s5,s6]) ⟨s4,s5,s6,by simp⟩ (λi x g6 hx hP=>?_) λg6 hP=>?_
  ·obtain⟨s4,s5,s6,rfl⟩:=hP;have hi:i<2:=(aD.mp hx).1
   obtain⟨st,jx,Ca,rfl⟩:∃st:Str,(st="yes"\/st="no")/\(wQ q0)[i]?=some (q0,st)/\x=.str st:=by
    rcases(show i=0\/i=1 by omega)with rfl | rfl
    ·cases hx;exact⟨"yes",.inl rfl,rfl,rfl⟩
    ·cases hx;exact⟨"no",.inr rfl,rfl,rfl⟩
   have Pw:((wQ q0).take i).length<=2:=by rw[bA];show min i 2<=2;omega
   refine dI (.int 0) (λq hq=>hq) ?_
   refine jK (ts:=gL rs.length) (λR h=>⟨_,rfl,((rs.map fC).length:Int),rfl,by omega,by rw[aB];omega,by rw[aB];exact h⟩)
    (λj σ=>∃s6:Sl,σ=[.val (gH fs an),.val (.list (rs.map fC)),.own ((L++(wQ q0).take i).map (DP fs rs)),.val (qD q0),.val (.str st),.val (.int ((pG (yO fs rs (q0,st)) j:Nat):Int)),s6]) ⟨s6,rfl⟩ (λj x g6 hx hP=>?_) λg6 hP=>?_
   ·obtain⟨s6,rfl⟩:=hP;obtain⟨hj,rfl⟩:=rY hx;have hr:rs[j]?=some rs[j]:=aG hj;have Ki:yO fs rs (q0,st) j=onC fs (q0,st) rs[j]:=by unfold yO;rw[hr]
    have Vb:=aN hr;refine pF (λb=>b=yO fs rs (q0,st) j) (λq hq=>⟨_,rfl,_,rfl,_,rfl,_,rfl,_,rfl,fC rs[j],L2.gU (by rw[aH,hr];rfl),.tuple rs[j].1,rfl,fs,an,q0.1,q0.2.1,q0.2.2,st,rs[j].1,rfl,F,F6 Uz,jx,(hR _ Vb).1,?_⟩) (λhT=>?_) λhF=>?_
    ·exact hq _ (by rw[Ki];rfl)
    ·refine qC (.int ((pG (yO fs rs (q0,st)) (j+1):Nat):Int)) (λq hq=>⟨_,rfl,_,rfl,⟨by omega,by omega,by decide⟩,?_⟩) ⟨_,rfl⟩;show q (.int (gx ((pG (yO fs rs (q0,st)) j:Nat):Int) (1*2^((j:Nat):Int).toNat)));rw[cW,aM7,show((2:Int)^j)=((2^j:Nat):Int) by rw[aDu];rfl,R7,VD]
     have e:pG (yO fs rs (q0,st)) (j+1)=pG (yO fs rs (q0,st)) j+2^j:=by
      show _+(if yO fs rs (q0,st) j=true then 2^j else 0)=_;rw[b9 hT.symm]
     rw[e]at hq;exact hq
    ·refine⟨.val (.int (j:Nat)),?_⟩
     have e:pG (yO fs rs (q0,st)) (j+1)=pG (yO fs rs (q0,st)) j:=by
      show _+(if yO fs rs (q0,st) j=true then 2^j else 0)=_;rw[b8 (by rw[<- hF];decide),NG]
     rw[e];rfl
   ·obtain⟨s6,rfl⟩:=hP;rw[lM];refine uX (DP fs rs (q0,st)) rfl (by rw[aB,bC];omega) (λq hq=>⟨_,rfl,hq⟩) ⟨.val (.str st),.val (DP fs rs (q0,st)),s6,?_⟩;rw[cV,Ca,<- iT,bV (l₁:=L++(wQ q0).take i)];rfl
  ·obtain⟨s4,s5,s6,rfl⟩:=hP;refine⟨.val (qD q0),s4,s5,s6,?_⟩;rw[cV,Ig];show _=[_,_,Sl.own ((((qs fs).take k++[q0]).flatMap wQ).map (DP fs rs)),_,_,_,_];rw[SH,hL];rfl
 ·obtain⟨s3,s4,s5,s6,rfl⟩:=hP;rw[aB,dE];exact⟨_,rfl,_,rfl,h⟩
def aCs:eK P w K mg base jW 1 Ah Bo ["_law_masks_here","_law_many","_law_deep"] (dM K aHk):=by
 refine tE T.D_43.F aIi λhr nd ds Q h=>?_;obtain⟨fs,rs,n,dp,rfl,ug,hl,Pl,Ee,oo,ng,h⟩:=h;refine⟨_,(bI (so 3 nd (aC (eB (aC (dB mK sZ (dB UT AF aP (aJ 1)) aP) (aC (aJ 2) aR))) aR))
 (bI (TH (i:=4) hr.u9 (JS (pv 3) aP) kR (λh=>tP (i:=4) nd rfl (by first | exact ag rfl | exact y8 rfl) h))
 (bI (ss 5 nd aP)
 (bI (IA (wA (BE (dR BZ nA (aJ 5) (RU 3 (cB jO (aC (aJ 3) aR) dA T.b_len fR))) (FW (dR BZ nA (yB (i:=4) (jL vH rfl T.b_len fR (dY (pv 4) hU))) aP))))
 (bI (K5 (g:=λ_ _ _ _=>True) (JS (pv 3) (aJ 5)) (rZ (mZ rfl (dO (pn 6 nd) (dO (pn 7 nd) lE)))) (λhe hg=>BW he hg))
 (bI (ss 5 nd (dB cX gR (aJ 5) aP))
 (bW (sf (fJ (aJ 0)) (dZ (pn 8 nd))
 (bW (sf (fJ (eB (aC (dB UZ sZ (aJ 6) (aJ 8)) (aC (dB mK sZ (aJ 6) (dB UZ sZ (aJ 6) (aJ 8))) aR)))) (dZ (pn 9 nd))
 (bW (iS (wA (BE (dR pE nA (aJ 7) aP) (BE (dR IS U3 (aJ 9) aP) (BE (dR IS U3 (aJ 9) (aJ 6)) (FW (X7 (i:=4) (QZ hr.u9) (pv 4) (eB (aC (aJ 9) (aC (dB mK sZ (aJ 7) aP) aR)))))))))
 (bI (IC (i:=4) hr.u9 (pv 4) (eB (aC (aJ 9) (aC (dB mK sZ (aJ 7) aP) aR))) kR)
 (bW (yS (i:=3) (pv 3) (eB (aC (aJ 9) (aC (dB mK sZ (aJ 7) aP) aR))) (pb:=λh=>qA (oN eA iI iH nS (pv 3) h)))))
 gD)))))))) (λhc hb=>IP fo hc hb))
 (bW (dC (yB (i:=4) (jL vH rfl T.b_len fR (dY (pv 4) hU))))))))),?_⟩
 show iY _ _ _ [.val (AH fs rs),.val (.int (n:Nat)),.val (.int (dp:Nat)),.un,.un,.un,.un,.un,.un,.un];have oq:(rs.take n).length=n:=by rw[bA];omega
 have Gs:((1:Int)*2^((n:Nat):Int).toNat-1)=((kU n (aZ n):Nat):Int):=by
  have e1:kU n (aZ n)+1=2^n:=by
   rw[<- JB n];unfold kU;rw[xX λi hi=>d7 (dF.mpr hi)]
  rw[cW,aM7,show((2:Int)^n)=((2^n:Nat):Int) by rw[aDu];rfl,<- e1];omega
 have fj:∀{ks:List (List Nat×Nat)},Met fs (rs.take n) n dp ks->∀x∈ks,lB (rs.take n) x.1/\x.2<=dp:=λ{ks} M x hx=>by
  have:=(M.rc x hx).ok (ns:=aZ n) (by show AB _ _;rw[oq];exact AB.refl _) (λe=>by have:=i6 gO e;rw[dN]at this;have:n=0:=this;omega);exact⟨this.1,this.2.2⟩
 have Eo:∀{x:List Nat},lB (rs.take n) x->x.Sublist (aZ n):=λ{x} hx=>by
  have:x.Sublist (aZ (rs.take n).length):=hx
  rwa [oq]at this
 refine pZ [KL (xC n (aZ n,dp))] (aE rfl) (λq hq=>⟨_,rfl,⟨by omega,by omega,by decide⟩,_,rfl,(aE rfl),?_⟩) ?_
 ·show q [.tuple [.int ((1:Int)*2^((n:Nat):Int).toNat-1),.int (dp:Nat)]];rw[Gs];exact hq
 refine⟨(show 4<10 by decide),(λj hs kvs hj=>?_),_,rfl,_,_,rfl,rfl,BA _,?_⟩
 ·rcases j with _ | _ | _ | _ | _ | _ | _ | _ | _ | _ | j<;>simp at hj
 dsimp only;refine dI (.int ((0:Nat):Int)) (λq hq=>hq) ?_
 refine EI (λm σ=>∃(ks:List (List Nat×Nat))(at_:Nat)(s6 s7 s8 s9:Sl),σ=[.val (AH fs rs),.val (.int (n:Nat)),.val (.int (dp:Nat)),.own (ks.map λx=>KL (xC n x)),oA w (vU n ks),.val (.int (at_:Nat)),s6,s7,s8,s9]/\m+at_=1000/\at_<=ks.length/\ks.length<=600/\Met fs (rs.take n) n dp ks/\Fol fs (rs.take n) at_ ks) 1000
  ⟨[(aZ n,dp)],0,_,_,_,_,rfl,rfl,(aE rfl),(aE rfl),⟨by simp,(λx hx=>by rw[bR.mp hx];exact .top),bR.mpr rfl⟩,λj x d hj=>d8 hj (by omega)⟩ λm σ hP=>?_
 obtain⟨ks,at_,s6,s7,s8,s9,rfl,hm,Br,Eb,M,hF⟩:=hP;have nh:(ks.map λx=>KL (xC n x)).length=ks.length:=aB ..;refine⟨decide (at_<ks.length)&&decide (ks.length<401),(λq hq=>⟨_,rfl,_,rfl,_,rfl,rfl,?_⟩),?_⟩
 ·show(if decide (((at_:Nat):Int)<(((ks.map λx=>KL (xC n x)).length:Nat):Int))=true then _ else q false);rw[nh];by_cases h1:at_<ks.length
  ·rw[b9 (d7 (by omega))];rw[d7 h1,yM]at hq;refine⟨_,_,rfl,?_⟩;show q (decide ((((vU n ks).length:Nat):Int)<401));rw[B5,show decide (((ks.length:Nat):Int)<401)=decide (ks.length<401) by rw[bf];omega];exact hq
  ·rw[b8 (λz=>by have:=e7 z;omega)];rw[f9 h1,FV]at hq;exact hq
 by_cases hb:at_<ks.length/\ks.length<401
 ·rw[b9 (by rw[d7 hb.1,d7 hb.2];rfl)];obtain⟨x0,Ft⟩:∃x0,ks[at_]?=some x0:=⟨_,aG hb.1⟩;obtain⟨x,d0⟩:=x0;obtain⟨Fu,Vm⟩:=fj M _ (aN Ft);have Qc:=M.rc _ (aN Ft);have Km:=Eo Fu;dsimp only at Fu Vm Km;refine NY (a:=.int ((kU n x:Nat):Int)) (b:=.int (d0:Nat)) (λq hq=>⟨_,rfl,_,rfl,_,_,rfl,L2.gU (by rw[aH,Ft];rfl),hq⟩) ?_;refine dI (.int ((at_+1:Nat):Int)) (λq hq=>⟨_,rfl,hq⟩) ?_;have gc:((lG fs).map (DP fs rs)).length=(lG fs).length:=aB ..
  refine WO (ts:=(lG fs).map (DP fs rs)) (λR h=>⟨_,rfl,_,rfl,h⟩)
   (λk σ=>∃(us:List (List Nat×Nat))(s8 s9:Sl),σ=[.val (AH fs rs),.val (.int (n:Nat)),.val (.int (dp:Nat)),.own ((ks++us).map λx=>KL (xC n x)),oA w (vU n (ks++us)),.val (.int ((at_+1:Nat):Int)),.val (.int ((kU n x:Nat):Int)),.val (.int (d0:Nat)),s8,s9]/\us.length<=2*k/\Met fs (rs.take n) n dp (ks++us)/\∀c∈(lG fs).take k,Kid fs (rs.take n) x d0 c (ks++us))
   ⟨[],_,_,by rw[dP];rfl,by decide,by rw[dP];exact M,λc hc=>by simp at hc⟩ (λk y g6 hy hP=>?_) λg6 hP=>?_
  ·obtain⟨us,s8,s9,rfl,Fq,M1,hK⟩:=hP;rw[aH]at hy;obtain⟨c,qk,rfl⟩:=bL.mp hy;have Bs:=aN qk;have Ua:k<(lG fs).length:=(aD.mp qk).1;have E1:ao ((kU n x:Nat):Int) ((pG (yO fs rs c) rs.length:Nat):Int)=((kU n (yN fs (rs.take n) c x):Nat):Int):=by rw[CS,aF2 _ _ Ee,(FB Km).1]
   have E2:((kU n x:Nat):Int)-ao ((kU n x:Nat):Int) ((pG (yO fs rs c) rs.length:Nat):Int)=((kU n (nN fs (rs.take n) c x):Nat):Int):=by
    have e:=aF3 x (yO fs rs c) Ee;have g:=Nat.and_le_left (n:=kU n x) (m:=pG (yO fs rs c) rs.length);rw[CS,(FB Km).2,<- e];omega
   refine WO (ts:=[.int ((kU n (yN fs (rs.take n) c x):Nat):Int),.int ((kU n (nN fs (rs.take n) c x):Nat):Int)]) (λR h=>?_)
    (λi σ=>∃(us:List (List Nat×Nat))(s9:Sl),σ=[.val (AH fs rs),.val (.int (n:Nat)),.val (.int (dp:Nat)),.own ((ks++us).map λx=>KL (xC n x)),oA w (vU n (ks++us)),.val (.int ((at_+1:Nat):Int)),.val (.int ((kU n x:Nat):Int)),.val (.int (d0:Nat)),.val (DP fs rs c),s9]/\us.length<=2*k+i/\Met fs (rs.take n) n dp (ks++us)/\(∀c∈(lG fs).take k,Kid fs (rs.take n) x d0 c (ks++us))/\(1<=i->∀d,d0=d+2->dX fs (bF (rs.take n) x) c=true->(yN fs (rs.take n) c x,d+1)∈ks++us)/\(2<=i->∀d,d0=d+2->dX fs (bF (rs.take n) x) c=true->(nN fs (rs.take n) c x,d+1)∈ks++us))
    ⟨us,s9,rfl,Fq,M1,hK,(λz=>d8 z (by decide)),λz=>d8 z (by decide)⟩ (λi y g6 hy hP=>?_) λg6 hP=>?_
   ·rw[<- E1]at h;rw[<- E2]at h;exact⟨_,rfl,_,rfl,_,rfl,_,rfl,_,rfl,(aE rfl),_,rfl,h⟩
   ·obtain⟨us,s9,rfl,Fq,M1,hK,hY,hN⟩:=hP;have hi:i<2:=(aD.mp hy).1
    obtain⟨z,hz,Vr,Io,rfl⟩:∃z:List Nat,(z=yN fs (rs.take n) c x\/z=nN fs (rs.take n) c x)/\lB (rs.take n) z/\((i=0/\z=yN fs (rs.take n) c x)\/(i=1/\z=nN fs (rs.take n) c x))/\y=.int ((kU n z:Nat):Int):=by
     rcases(show i=0\/i=1 by omega)with rfl | rfl
     ·cases hy;exact⟨_,.inl rfl,Fu.filt _,.inl ⟨rfl,rfl⟩,rfl⟩
     ·cases hy;exact⟨_,.inr rfl,Fu.filt _,.inr ⟨rfl,rfl⟩,rfl⟩
    have Ce:=Eo Vr;have Ph:∀u∈ks++us,u.1.Sublist (aZ n):=λu hu=>Eo (fj M1 u hu).1
    have fin:∀vs:List (List Nat×Nat),(∀u,u∈ks++us->u∈ks++vs)->(∀d,d0=d+2->dX fs (bF (rs.take n) x) c=true->(z,d+1)∈ks++vs)->(∀c∈(lG fs).take k,Kid fs (rs.take n) x d0 c (ks++vs))/\(1<=i+1->∀d,d0=d+2->dX fs (bF (rs.take n) x) c=true->(yN fs (rs.take n) c x,d+1)∈ks++vs)/\(2<=i+1->∀d,d0=d+2->dX fs (bF (rs.take n) x) c=true->(nN fs (rs.take n) c x,d+1)∈ks++vs):=λvs jb Qd=>by
     refine⟨λc hc d hd hp=>⟨jb _ (hK c hc d hd hp).1,jb _ (hK c hc d hd hp).2⟩,λ_ d hd hp=>?_,λh2 d hd hp=>?_⟩
     ·rcases Io with⟨rfl,rfl⟩ | ⟨rfl,rfl⟩
      ·exact Qd d hd hp
      ·exact jb _ (hY (by decide) d hd hp)
     ·rcases Io with⟨rfl,rfl⟩ | ⟨rfl,rfl⟩
      ·exact d8 h2 (by decide)
      ·exact Qd d hd hp
    have Ve:(ks++us).length<=1000:=by rw[bC];omega
    have ed:1<d0->((d0:Nat):Int)-1=((d0-1:Nat):Int):=λh1=>by omega
    refine pF (λb=>b=true↔1<d0/\z≠[]/\z≠x/\(z,d0-1)∉ks++us) (λq hq=>⟨_,rfl,?_⟩) (λhT=>?_) λhF=>?_
    ·show(if decide (((d0:Nat):Int)>1)=true then _ else q false);by_cases h1:1<d0
     ·rw[b9 (d7 (by omega))];refine⟨_,rfl,?_⟩;show(if(!decide (((kU n z:Nat):Int)=0))=true then _ else q false);by_cases h2:z=[]
      ·rw[b8 (by rw[(FD Ce).mpr h2];decide)];exact hq false ⟨(λe=>by cases e),λe=>d8 h2 e.2.1⟩
      rw[b9 (by rw[f9 λe=>h2 ((FD Ce).mp (by omega))];rfl)];refine⟨_,rfl,_,rfl,?_⟩;show(if(!decide (((kU n z:Nat):Int)=((kU n x:Nat):Int)))=true then _ else q false);by_cases h3:z=x
      ·rw[b8 (by rw[h3,d7 rfl];decide)];exact hq false ⟨(λe=>by cases e),λe=>d8 h3 e.2.2.1⟩
      rw[b9 (by rw[f9 λe=>h3 (CI Ce Km (by omega))];rfl)];refine⟨_,rfl,_,rfl,(aE rfl),_,rfl,?_,OS n _,λzz Cf=>?_⟩
      ·show xH (.tuple [.int ((kU n z:Nat):Int),.int (((d0:Nat):Int)-1)]);rw[ed h1];exact BA (kU n z,d0-1)
      ·refine hq _ ?_;have Cf:zz=true↔eM [.int ((kU n z:Nat):Int),.int (((d0:Nat):Int)-1)]∈(vU n (ks++us)).map (·.1):=Cf;rw[ed h1]at Cf;have Cf:=Cf.trans (VL Ph (x:=(z,d0-1)) Ce);constructor
       ·intro e;refine⟨h1,h2,h3,λe2=>?_⟩;rw[Cf.mpr e2]at e;cases e
       ·rintro⟨_,_,_,e⟩
        cases zz with
        |true=>exact d8 (Cf.mp rfl) e
        |false=>rfl
     ·rw[b8 (λe=>by have:=e7 e;omega)];exact hq false ⟨(λe=>by cases e),λe=>d8 e.1 h1⟩
    ·obtain⟨h1,h2,h3,h4⟩:=hT.mp rfl;obtain⟨d,rfl⟩:∃d,d0=d+2:=⟨d0-2,by omega⟩;have hp:=ZE Fu hz h2 h3
     have hr:HA fs (rs.take n) (aZ n) dp (z,d+1):=by
      rcases hz with rfl | rfl
      ·exact .y Qc Bs hp
      ·exact .n Qc Bs hp
     have sg:eM [.int ((kU n z:Nat):Int),.int (((d+2:Nat):Int)-1)]=KL (xC n (z,d+1)):=by
      rw[ed h1];rfl
     have ni:(z,d+1)∉ks++us:=h4;refine⟨_,rfl,_,rfl,_,rfl,(aE rfl),?_,OS n _,by rw[B5];omega,?_⟩
     ·show xH (.tuple [.int ((kU n z:Nat):Int),.int (((d+2:Nat):Int)-1)]);rw[sg];exact BA _
     refine uX (KL (xC n (z,d+1))) rfl (by rw[aB];omega) (λq hq=>⟨_,rfl,_,rfl,(aE rfl),?_⟩) ?_
     ·show q (.tuple [.int ((kU n z:Nat):Int),.int (((d+2:Nat):Int)-1)]);rw[sg];exact hq
     obtain⟨f1,f2,f3⟩:=fin (us++[(z,d+1)]) (λu hu=>by rw[<- iT];exact gM _ hu) (λd' Cw _=>by
      rw[<- iT,show d'=d by omega];exact eJ _ (bR.mpr rfl))
     refine⟨us++[(z,d+1)],.val (.int ((kU n z:Nat):Int)),?_,by rw[bC];show us.length+1<=_;omega,?_,f1,f2,f3⟩
     ·rw[<- iT,<- VJ Ph Ce ni,bV (l₂:=[(z,d+1)])];have e:sY (vU n (ks++us)) (.tuple [.int ((kU n z:Nat):Int),.int (((d+2:Nat):Int)-1)]) (.bool true)=sY (vU n (ks++us)) (KL (xC n (z,d+1))) (.bool true):=by rw[sg]
      rw[<- e];rfl
     ·rw[<- iT];refine⟨jT.mpr ⟨M1.nd,by simp,λu hu v hv e=>?_⟩,λu hu=>?_,gM _ M1.tp⟩
      ·rw[bR.mp hv]at e;exact ni (e▸hu)
      ·rcases dH.mp hu with hu | hu
       ·exact M1.rc u hu
       ·rw[bR.mp hu];exact hr
    ·have qm:∀d,d0=d+2->dX fs (bF (rs.take n) x) c=true->(z,d+1)∈ks++us:=λd hd hp=>by
      obtain⟨g1,g2⟩:=ZD Fu hp hz;refine j0 λe=>?_;have:false=true:=hF.mpr ⟨by omega,g1,g2,by rw[show d0-1=d+1 by omega];exact e⟩;cases this
     obtain⟨f1,f2,f3⟩:=fin us (λu hu=>hu) qm;exact⟨us,_,rfl,by omega,M1,f1,f2,f3⟩
   ·obtain⟨us,s9,rfl,Fq,M1,hK,hY,hN⟩:=hP;have hY:=hY (aE rfl);have hN:=hN (aE rfl);refine⟨us,_,_,rfl,by have:us.length<=2*k+2:=Fq;omega,M1,λc' hc'=>?_⟩;rw[cV,qk]at hc';rcases dH.mp hc' with hc' | hc'
    ·exact hK c' hc'
    ·have:c'=c:=bR.mp hc';subst this
     exactλd hd hp=>⟨hY d hd hp,hN d hd hp⟩
  ·obtain⟨us,s8,s9,rfl,Fq,M1,hK⟩:=hP;rw[gc,dE]at hK;rw[gc]at Fq;refine⟨1000-(at_+1),by omega,ks++us,at_+1,_,_,_,_,rfl,by omega,by rw[bC];omega,by rw[bC];omega,M1,λj x' d' hj Et c hc=>?_⟩;rw[cQ (by omega)]at Et;rcases(show j<at_\/j=at_ by omega)with hj | rfl
   ·exactλd hd hp=>⟨gM _ (hF j x' d' hj Et c hc d hd hp).1,gM _ (hF j x' d' hj Et c hc d hd hp).2⟩
   ·rw[Ft]at Et;cases Et;exact hK c hc
 ·rw[b8 (λe=>hb (by rw[bU,i4,i4]at e;exact e))];refine⟨_,_,rfl,?_⟩;show Q (.int (((vU n ks).length:Nat):Int));rw[B5];refine h ks.length (VI M λh4=>?_);have:at_=ks.length:=by omega
  rw[this]at hF;exact hF
def aJ4:eK P w K mg base jW 2 Ai Bp ["_law_masks_here","_law_many","_law_deep"] (dM K aHj):=by
 refine tE T.D_44.F aIh λhr nd ds Q h=>?_;obtain⟨fs,rs,n,dp,rfl,ug,hl,Pl,Ee,oo,ng,h⟩:=h;refine⟨_,(bI (ss 3 nd aP)
 (bI (ss 4 nd (aJ 1))
 (bI (IA (dR BZ nA (aJ 3) (aJ 4))
 (bI (ss 5 nd (dB xS AF (dB cX gR (dB cX gR (aJ 3) (aJ 4)) aP) aP))
 (bW (iS (dR pE nA (cd (aCs T) T.D_43 hr (aC (aJ 0) (aC (aJ 5) (aC (aJ 2) aR)))) aP)
 (bW (ss 4 nd (dB mK sZ (aJ 5) aP)))
 (bW (ss 3 nd (aJ 5)))))) (λhc hb=>IP fo hc hb))
 (bW (dC (aJ 3)))))),?_⟩
 show iY _ _ _ [.val (AH fs rs),.val (.int (n:Nat)),.val (.int (dp:Nat)),.un,.un,.un];refine dI (.int ((1:Nat):Int)) (λq hq=>hq) ?_;refine dI (.int (n:Nat)) (λq hq=>⟨_,rfl,hq⟩) ?_;refine EI (λm σ=>∃(lo hi:Nat)(s5:Sl),σ=[.val (AH fs rs),.val (.int (n:Nat)),.val (.int (dp:Nat)),.val (.int (lo:Nat)),.val (.int (hi:Nat)),s5]/\1<=lo/\lo<=hi/\hi<=n/\m=hi-lo) (n-1) ⟨1,n,_,rfl,aL _,Pl,aL _,rfl⟩ λm σ hP=>?_;obtain⟨lo,hi,s5,rfl,h1,h2,h3,rfl⟩:=hP;refine⟨decide (lo<hi),(λq hq=>⟨_,rfl,_,rfl,?_⟩),?_⟩
 ·show q (decide (((lo:Nat):Int)<((hi:Nat):Int)));rw[show decide (((lo:Nat):Int)<((hi:Nat):Int))=decide (lo<hi) by rw[bf];omega];exact hq
 by_cases hb:lo<hi
 ·rw[b9 (d7 hb)];have hm:lo<(lo+hi+1) / 2/\(lo+hi+1) / 2<=hi:=by omega
  have em:(((lo:Nat):Int)+((hi:Nat):Int)+1) / 2=(((lo+hi+1) / 2:Nat):Int):=by omega
  refine dI (.int (((lo+hi+1) / 2:Nat):Int)) (λq hq=>⟨_,rfl,_,rfl,⟨by decide,by decide⟩,?_⟩) ?_
  ·show q (.int ((((lo:Nat):Int)+((hi:Nat):Int)+1) / 2));rw[em];exact hq
  generalize (lo+hi+1) / 2=md at hm |-
  refine pF (λb=>True) (λq hq=>⟨_,rfl,_,rfl,_,rfl,fs,rs,md,dp,rfl,ug,hl,by omega,by omega,oo,ng,λz hz=>hq _ trivial⟩) (λ_=>?_) λ_=>?_
  ·refine qC (.int ((md-1:Nat):Int)) (λq hq=>⟨_,rfl,?_⟩) ⟨md-1-lo,by omega,lo,md-1,_,rfl,h1,by omega,by omega,rfl⟩;show q (.int (((md:Nat):Int)-1));rw[show((md:Nat):Int)-1=((md-1:Nat):Int) by omega];exact hq
  ·exact qC (.int (md:Nat)) (λq hq=>⟨_,rfl,hq⟩) ⟨hi-md,by omega,md,hi,_,rfl,by omega,by omega,h3,rfl⟩
 ·rw[b8 (λz=>hb (e7 z))];exact⟨_,rfl,h lo h1 (by omega)⟩
def aJ3:eK P w K mg base jW 11 Aj Bq ["_law_form_here","_law_rows_here","_law_deep","_law_prices_here","_law_met"] (dM K aHi):=by
 refine tE T.D_45.F aIg λhr nd ds Q h=>?_;obtain⟨fs,an,fa,rs,a,b,dp,z,rfl,S,al,oo,ng,hz,h⟩:=h;refine⟨_,(bI (ss 5 nd (cY MV (aC (aJ 1) aR) sK T.b_list yE))
 (bI (K5 (g:=λ_ _ _ _=>True) (cd (aJ9 T) T.D_38 hr (aC (aJ 0) (aC (aJ 5) (aC (aJ 2) (aC (aJ 3) aR))))) (rZ (mZ rfl (dO (pn 6 nd) (dO (pn 7 nd) lE)))) (λhe hg=>BW he hg))
 (bI (iS (dR (GB hr) rT (aJ 5) (aJ 1))
 (bW (dC kR))
 gD)
 (bI (iS (dR pE nA (aJ 4) aP)
 (bW (dC (sG (nT UV aCx (aJ 6) uB) (sE (nT (UX hr) rT (aJ 7) (eB (aC kR (aC kR (aC kR aR)))))))))
 gD)
 (bI (iS (wA (wB (dR (GB hr) rT (aJ 7) (eB aR)) (wB (rK (tv (CF (yZ _) (aJ 6) (λh=>jL uE rfl T.b_isinstance iU (dY h (dY (uV rfl T.b_tuple jZ rfl) hU)))))) (wR (dR (GB hr) rT (cB jO (aC (aJ 6) aR) dA T.b_len fR) aP)))))
 (bW (dC kR))
 gD)
 (bI (NR (aJ 6) (vF (mZ rfl (dO (pn 8 nd) (dO (pn 9 nd) (dO (pn 10 nd) lE))))) (λhe hg=>BW he hg))
 (bI (iS (wA (wB (rK (tv (cd (aJ8 T) T.D_39 hr (aC (aJ 0) (aC (aJ 8) (aC (aJ 2) aR)))))) (wR (dR (rS hr) rT (eB (aC (A6 (aC (cB jO (aC (aJ 1) aR) dA T.b_len fR) aR) (λh=>iP (nF rfl) rfl T.b_tuple jZ (dY (iP qH rfl T.b_range yD h) hU))) (aC (aJ 2) (aC (aJ 9) aR)))) (aJ 10)))))
 (bW (dC kR))
 gD)
 (bI (iS (dR (GB hr) rT (aJ 9) (dB cX gR (dB jI sQ (cS bY eF (aJ 3) aP) (cd (aJ7 T) T.D_40 hr (aC (aJ 0) (aC (aJ 8) (aC (aJ 1) aR))))) (dB jI sQ (cS bY eF (aJ 3) aP) (cd (aJ6 T) T.D_41 hr (aC (aJ 8) aR)))))
 (bW (dC kR))
 gD)
 (bW (dC (aLk (nT pE nA (cB jO (aC (aJ 10) aR) dA T.b_len fR) aP) (sE (cd (aKl (w:=w) T) T.D_22 hr (aC (aJ 0) (aC (aJ 1) (aC (aJ 3) (aC (aJ 10) aR))))))))))))))))),?_⟩
 show iY _ _ _ [.val (gH fs an),.val (.list (rs.map fC)),.val (.int (dp:Nat)),.val (.tuple [.int a,.int b]),.val (.int (z:Nat)),.un,.un,.un,.un,.un,.un];have ff:¬(false=true):=aX;have F:=S.F;have a0:=S.a0;have a1:=S.a1;have b0:=S.b0;have b1:=S.b1;have hl:=S.l;have hR:=X9 F S.R S.l;have er:cO (.list (rs.map fC)) (.list (rs.map fC))=true:=ba _ hR.lay;have Xd:=hR.depth;refine dI (.list (rs.map fC)) (λq hq=>⟨_,rfl,hq⟩) ?_;by_cases hk:zJ fs rs (aZ rs.length) dp
 ·refine⟨_,rfl,_,rfl,_,rfl,_,rfl,fs,an,fa,rs,a,b,dp,rfl,S,al,oo,ng,(λ_=>⟨_,_,rfl,?_⟩),λks hM=>d8 hk hM⟩;dsimp only;refine gK (λb=>b=false) (λq hq=>⟨_,rfl,_,rfl,⟨hR.lay,hR.lay,by omega⟩,?_⟩) (λhT=>by cases hT) λ_=>?_
  ·show q (!cO _ _);rw[er];exact hq _ rfl
  refine sn' ?_;dsimp only;have h4:=hz.mpr hk;refine gK (λb=>b=true) (λq hq=>⟨_,rfl,hq _ (d7 (by omega))⟩) (λ_=>?_) λhF=>by cases hF
  refine⟨_,rfl,?_⟩;refine oj (b9 (e:=Q (.bool false)) (c:=true=true) rfl) ?_;exact⟨_,rfl,(aE rfl),⟨rfl,rfl,by decide⟩,h⟩
 refine⟨_,rfl,_,rfl,_,rfl,_,rfl,fs,an,fa,rs,a,b,dp,rfl,S,al,oo,ng,(λhM=>d8 hM hk),λks _ hG=>⟨_,_,rfl,?_⟩⟩;dsimp only;refine gK (λb=>b=false) (λq hq=>⟨_,rfl,_,rfl,⟨hR.lay,hR.lay,by omega⟩,?_⟩) (λhT=>by cases hT) λ_=>?_
 ·show q (!cO _ _);rw[er];exact hq _ rfl
 refine sn' ?_;dsimp only;have h4:¬400<z:=λe=>hk (hz.mp e);refine gK (λb=>b=false) (λq hq=>⟨_,rfl,hq _ (f9 (by omega))⟩) (λhT=>by cases hT) λ_=>?_;refine sn' ?_;dsimp only;obtain⟨hT,hC⟩:=zG (a:=a) (b:=b) S.fa dp rs S.R;obtain⟨Px,Vh⟩:=hT.ok;have jb:=hG.2.2.2.1;have Hk:=Q9 a0 b0 (RQ (fa:=fa) (a:=a) (b:=b) hG) (BD.refl _)
 have tl:∀x∈ks.map (GS fs fa a b rs),x.canLay0=true/\x.depth<=2:=λx hx=>by
  obtain⟨z,_,rfl⟩:=aQ.mp hx;refine⟨?_,?_⟩
  ·show(dD (z.1.map λ(i:Nat)=>aM (i:Int))&&(true&&(true&&true)))=true;rw[JH];rfl
  ·show max (cA (z.1.map λ(i:Nat)=>aM (i:Int))+1) (max 0 (max 0 0))+1<=2;rw[(A5 z.1).2];decide
 have hm:eM [eS (aZ rs.length),.int (dp:Nat),.int (fD fs fa a b dp rs).1]∈ks.map (GS fs fa a b rs):=aQ.mpr ⟨_,jb (by omega),by unfold GS;dsimp only;rw[II]⟩;unfold aFh
 generalize hg:fD fs fa a b dp rs=bt at *
 obtain⟨c,t⟩:=bt;dsimp only at hT hC Px Vh hm |-
 have Ca:t.kn<=600:=by
  have:=t.kn_dep;have:2^t.dep<=2^3:=oW (by decide) (by omega);omega
 refine gK (λb=>b=false) (λq hq=>⟨_,rfl,(aE rfl),⟨rfl,rfl,by decide⟩,?_⟩) (λhT=>by cases hT) λ_=>?_
 ·refine oj (b8 (t:=q true) (c:=(!true)=true) ff) ⟨_,rfl,oj (b8 (t:=q true) (c:=(!RI "tuple" (.tuple [HU t,.int c,.list (ks.map (GS fs fa a b rs))]))=true) ff) ⟨_,rfl,⟨rfl,rfl,(aE rfl)⟩,hq _ rfl⟩⟩
 refine sn' ?_;dsimp only;refine TN (λq hq=>⟨_,rfl,hq⟩) ?_;have ht:=tl _ hm;have en:eM (gL (((rs.map fC).length:Nat):Int).toNat)=eS (aZ rs.length):=by rw[cW,aB];rfl
 refine gK (λb=>b=false) (λq hq=>⟨_,rfl,_,rfl,_,rfl,fs,an,t,dp,rfl,F,hT,by omega,ng,?_⟩) (λhT=>by cases hT) λ_=>?_
 ·refine oj (b8 (t:=q true) (c:=(!true)=true) ff) ?_;refine⟨_,rfl,(((rs.map fC).length:Nat):Int),rfl,by omega,by rw[aB];omega,_,rfl,_,rfl,(aE rfl),_,rfl,?_⟩;rw[en];refine⟨⟨JI λx hx=>(tl x hx).1,ht.1,dG (DA _ _) (by omega)⟩,?_⟩;have ev:DD (.tuple [eS (aZ rs.length),.int (dp:Nat),.int c]) (.list (ks.map (GS fs fa a b rs)))=true:=oG.mpr ⟨_,hm,ba _ ht.1⟩;show q (!DD _ _);rw[ev];exact hq _ rfl
 refine sn' ?_;dsimp only;have Ve:lR fs t rs<=60:=dG (iF _ _) (by omega);refine gK (λb=>b=false) (λq hq=>⟨_,rfl,_,rfl,_,rfl,_,rfl,_,rfl,_,rfl,fs,an,t,rs,rfl,F,Px,by omega,S.R,by omega,.inl ⟨by omega,by omega⟩,_,rfl,_,rfl,_,rfl,t,rfl,Ca,by omega,.inl ⟨by omega,by omega⟩,⟨rfl,rfl,(aE rfl)⟩,hq _ ?_⟩) (λhT=>by cases hT) λ_=>?_
 ·show(!decide (c=a*((lR fs t rs:Nat):Int)+b*((t.kn:Nat):Int)))=false;rw[d7 hC];rfl
 refine sn' ?_;dsimp only;refine⟨_,rfl,?_⟩;show(if decide ((((ks.map (GS fs fa a b rs)).length:Nat):Int)>150)=true then Q (.bool _)else _);by_cases h5:150<ks.length
 ·rw[b9 (d7 (by rw[aB];omega))];exact h
 ·rw[b8 (λe=>by have:=e7 e;rw[aB]at this;omega)];refine⟨_,rfl,_,rfl,_,rfl,_,rfl,fs,an,fa,rs,a,b,(YC fs fa a b rs ks).map X0,by rw[YB],S,WK S hG (by omega),λzz Cf=>?_⟩;rw[show zz=true from Cf.mpr Hk];exact h
def aE7:eK P w K mg base jW 12 oz ml ["_law_script"] (dM K BH):=by
 refine tE T.D_law.F aEe λhr nd ds Q h=>?_;obtain⟨ns,rfl,Uf,h⟩:=h;refine⟨_,(YN (i:=1) (aCv T) (aJ 0) rfl (λh=>tP (i:=1) nd rfl (by first | exact ag rfl | exact y8 rfl) (uU (aCv T) (hr.mono (by decide)) rfl T.D_28.m T.D_28.k T.D_28.d .nil qB h)) (dQ (sC 2 nd (CJ cX gR (fG aP) (cc (mB T) T.D_29 hr (cJ (fG (aJ 1)) (cJ (fG aP) fS)))))
 (dQ (sC 3 nd (CJ cX gR (fG aP) (cc (mB T) T.D_29 hr (cJ (fG (aJ 1)) (cJ (fG aP) fS)))))
 (dQ (sC 4 nd (aF5 kP oH (cc (mB T) T.D_29 hr (cJ (fG (aJ 1)) (cJ (fG aP) fS))) (fG aP)))
 (dQ (IH (YA (tv (aJ 4)))
 (dQ (sC 2 nd (CJ cX gR (fG aP) (cc (mB T) T.D_29 hr (cJ (fG (aJ 1)) (cJ (fG aP) fS)))))
 (mY (sC 3 nd (CJ cX gR (fG aP) (cc (mB T) T.D_29 hr (cJ (fG (aJ 1)) (cJ (fG aP) fS)))))))
 BM)
 (dQ (sC 5 nd (PC bY eF (fG (pJ (aC aP (aC aP (aC aP (aC aP (aC aP aR))))))) (cc (mB T) T.D_29 hr (cJ (fG (aJ 1)) (cJ (fG aP) fS)))))
 (dQ (sC 6 nd (cc (aKe T) T.D_31 hr (cJ (fG (aJ 1)) (cJ (fG (aJ 2)) (cJ (CJ cX gR (fG aP) (cc (mB T) T.D_29 hr (cJ (fG (aJ 1)) (cJ (fG aP) fS)))) fS)))))
 (dQ (sC 7 nd (cc (aKc T) T.D_33 hr (cJ (fG (aJ 1)) (cJ (fG (aJ 6)) (cJ (fG (aJ 3)) fS)))))
 (dQ (sC 8 nd (cc (aKa T) T.D_37 hr (cJ (fG (aJ 1)) fS)))
 (dQ (oS (ss 9 nd (cd (aJ5 T) T.D_42 hr (aC (aJ 6) (aC (aJ 7) aR)))))
 (dQ (oS (ss 10 nd (pJ (aC (aJ 3) aR))))
 (dQ (oS (iS (tv (aJ 4))
 (bI (ss 11 nd (cd (aJ4 T) T.D_44 hr (aC (aJ 9) (aC (aJ 3) (aC (aJ 5) aR)))))
 (bW (ss 10 nd (jY nQ yX (pJ (aC (aJ 11) (aC (dB cX gR (aJ 11) aP) aR))) mH (lF (dB cX gR aP (aAy (nT BZ nA (aJ 11) (aJ 3)) (λh=>iP R3 rfl T.b_int XH h))))))))
 gD))
 (dQ (oS (sf (fJ (aJ 10)) (dZ (pn 11 nd))
 (bW (iS (rK (tv (cd (aJ3 T) T.D_45 hr (aC (aJ 6) (aC (jY nQ yX (aJ 7) mH (lF (aJ 11))) (aC (aJ 5) (aC (aJ 8) (aC (cd (aCs T) T.D_43 hr (aC (aJ 9) (aC (aJ 11) (aC (aJ 5) aR)))) aR))))))))
 (bW (dC kR))
 gD))))
 (mY (oS (dC kR)))))))))))))))),?_⟩
 show aCg _ _ _ _ [.val (.list (ns.map aM)),.un,.un,.un,.un,.un,.un,.un,.un,.un,.un,.un];refine⟨_,rfl,ns,rfl,λTp _ _=>?_⟩;show pL _ _ _ _ _ [.val (.list (ns.map aM)),.val (qL Tp),.un,.un,.un,.un,.un,.un,.un,.un,.un,.un];refine jC (λm d=>m<=1/\∃f:Nat,1<=f/\f<=4/\d=.int (f:Nat)) (λq hq=>⟨_,rfl,_,rfl,4,rfl,by decide,by decide,by decide,λr h0 h1=>hq _ _ ⟨by omega,(1+r).toNat,by omega,by omega,by rw[hX (by omega)]⟩⟩) ?_;rintro c1 _ ⟨ug,f,Hi,Xk,rfl⟩;refine jC (λm d=>m<=2/\∃v:Nat,1<=v/\v<=12/\d=.int (v:Nat)) (λq hq=>⟨_,rfl,_,rfl,12,rfl,by decide,by decide,by omega,λr h0 h1=>hq _ _ ⟨by omega,(1+r).toNat,by omega,by omega,by rw[hX (by omega)]⟩⟩) ?_;rintro c2 _ ⟨rz,mn,Ec,Ui,rfl⟩;refine jC (λm d=>m<=3/\∃g:Bool,d=.bool g) (λq hq=>⟨_,rfl,_,rfl,6,rfl,by decide,by decide,by omega,λr h0 h1=>hq _ _ ⟨by omega,_,rfl⟩⟩) ?_;rintro c3 _ ⟨Ln,gr,rfl⟩;show pL _ _ _ _ _ [.val (.list (ns.map aM)),.val (qL Tp),.val (.int (f:Nat)),.val (.int (mn:Nat)),.val (.bool gr),.un,.un,.un,.un,.un,.un,.un];refine aGe (λm g6=>m<=5/\∃f mn:Nat,1<=f/\f<=5/\1<=mn/\mn<=15/\g6=[.val (.list (ns.map aM)),.val (qL Tp),.val (.int (f:Nat)),.val (.int (mn:Nat)),.val (.bool gr),.un,.un,.un,.un,.un,.un,.un]) (λm=>m<=3) (λq hq=>⟨_,rfl,hq _ _ Ln⟩) (λnx k m hm=>?_) (λm hm=>⟨by omega,f,mn,Hi,by omega,Ec,by omega,rfl⟩) ?_
 ·refine jC (λm d=>m<=4/\∃f:Nat,1<=f/\f<=5/\d=.int (f:Nat)) (λq hq=>⟨_,rfl,_,rfl,2,rfl,by decide,by decide,by omega,λr h0 h1=>hq _ _ ⟨by omega,(4+r).toNat,by omega,by omega,by rw[hX (by omega)]⟩⟩) ?_;rintro c4 _ ⟨Ov,f',Lu,Lv,rfl⟩;refine aBe (λm d=>m<=5/\∃v:Nat,1<=v/\v<=15/\d=.int (v:Nat)) (λq hq=>⟨_,rfl,_,rfl,8,rfl,by decide,by decide,by omega,λr h0 h1=>hq _ _ ⟨by omega,(8+r).toNat,by omega,by omega,by rw[hX (by omega)]⟩⟩) ?_;rintro c5 _ ⟨Lo,Vy,Mj,Hv,rfl⟩;exact k _ _ ⟨Lo,f',Vy,Lu,Lv,Mj,Hv,rfl⟩
 rintro c5 _ ⟨Lo,f,mn,Hi,Pc,Ec,Uj,rfl⟩;refine jC (λm d=>m<=6/\∃v:Nat,1<=v/\v<=3/\d=.int (v:Nat)) (λq hq=>⟨(aE rfl),_,rfl,_,rfl,5,rfl,by decide,by decide,by omega,λr h0 h1=>?_⟩) ?_
 ·obtain⟨z,hz,z1,z3⟩:∃z:Nat,L2.atI [aM 3,.int 3,.int 3,.int 3,.int 2] r=some (.int (z:Nat))/\1<=z/\z<=3:=by
   rcases(show r=0\/r=1\/r=2\/r=3\/r=4 by omega)with rfl | rfl | rfl | rfl | rfl
   ·exact⟨3,rfl,by decide,by decide⟩
   ·exact⟨3,rfl,by decide,by decide⟩
   ·exact⟨3,rfl,by decide,by decide⟩
   ·exact⟨3,rfl,by decide,by decide⟩
   ·exact⟨2,rfl,by decide,by decide⟩
  exact⟨_,hz,hq _ _ ⟨by omega,z,z1,z3,rfl⟩⟩
 rintro c6 _ ⟨Sv,dp,Dx,Dy,rfl⟩;refine jC (λm d=>m<=200/\∃fs an,lH fs an/\d=gH fs an) (λq hq=>⟨_,rfl,_,rfl,_,rfl,_,rfl,2,rfl,by decide,by decide,by omega,λr h0 h1=>⟨_,rfl,f,(2+r).toNat,?_,Hi,by omega,by omega,by omega,by omega,λn' fs an hn F _ _=>hq _ _ ⟨by omega,fs,an,F,rfl⟩⟩⟩) ?_
 ·rw[hX (by omega)]
 rintro c7 _ ⟨Xg,fs,an,F,rfl⟩;refine jC (λm d=>m<=600/\∃rs,jH fs an rs/\rs.length=mn/\d=.list (rs.map fC)) (λq hq=>⟨_,rfl,_,rfl,_,rfl,_,rfl,fs,an,mn,rfl,F,by omega,by omega,λn' rs hn lx oq=>hq _ _ ⟨by omega,rs,lx,oq,rfl⟩⟩) ?_;rintro c8 _ ⟨Xh,rs,lx,oq,rfl⟩;refine jC (λm' d=>m'<=700/\∃a b:Int,0<=a/\a<=1000000/\0<=b/\b<=1000000/\d=.tuple [.int a,.int b]) (λq hq=>⟨_,rfl,_,rfl,rfl,by omega,λn' a b hn a0 a1 b0 b1=>hq _ _ ⟨by omega,a,b,a0,a1,b0,b1,rfl⟩⟩) ?_;rintro c9 _ ⟨Xi,a,b,a0,a1,b0,b1,rfl⟩;obtain⟨fa,wt⟩:=aLg F;have jm:=GY F;refine kN (dI (AH fs rs) (λq hq=>⟨_,rfl,_,rfl,fs,an,rs,rfl,F,lx,by omega,hq⟩) ?_);refine kN (dI (.list ([mn].map λ(z:Nat)=>aM (z:Int))) (λq hq=>⟨_,rfl,(aE rfl),hq⟩) ?_);show pL _ _ _ _ _ [.val (.list (ns.map aM)),.val (qL Tp),.val (.int (f:Nat)),.val (.int (mn:Nat)),.val (.bool gr),.val (.int (dp:Nat)),.val (gH fs an),.val (.list (rs.map fC)),.val (.tuple [.int a,.int b]),.val (AH fs rs),.val (.list ([mn].map λ(z:Nat)=>aM (z:Int))),.un];refine kN (YX (λ_=>True) (λg6=>∃(zs:List Nat)(um:Sl),(∀z∈zs,1<=z/\z<=mn)/\g6=[.val (.list (ns.map aM)),.val (qL Tp),.val (.int (f:Nat)),.val (.int (mn:Nat)),.val (.bool gr),.val (.int (dp:Nat)),.val (gH fs an),.val (.list (rs.map fC)),.val (.tuple [.int a,.int b]),.val (AH fs rs),.val (.list (zs.map λ(z:Nat)=>aM (z:Int))),um]) (λq hq=>⟨_,rfl,hq _ trivial⟩) (λnx k _=>?_) (λ_=>⟨[mn],_,(λz hz=>by rw[bR.mp hz];exact⟨Ec,aL _⟩),rfl⟩) ?_)
 ·refine tN (λv=>∃z:Nat,1<=z/\z<=mn/\v=.int (z:Nat)) (λq hq=>⟨_,rfl,_,rfl,_,rfl,fs,rs,mn,dp,rfl,jm,by omega,Ec,by omega,Dx,Dy,λz h1 h2=>hq _ ⟨z,h1,h2,rfl⟩⟩) ?_;rintro _ ⟨z,Dj,Vp,rfl⟩;refine B0 (λv=>∃zs:List Nat,(∀z∈zs,1<=z/\z<=mn)/\v=.list (zs.map λ(z:Nat)=>aM (z:Int))) (λq hq=>⟨_,rfl,_,rfl,(aE rfl),_,rfl,_,rfl,?_⟩) ?_
  ·by_cases bo:z<mn
   ·have e:decide (((z:Nat):Int)<((mn:Nat):Int))=true:=d7 (by omega);show q (.list (mL [aM ((z:Nat):Int),.int (((z:Nat):Int)+1)] none (some (1+(if decide (((z:Nat):Int)<((mn:Nat):Int))=true then 1 else 0)))));rw[e];exact hq _ ⟨[z,z+1],(λu hu=>by simp at hu;omega),rfl⟩
   ·have e:decide (((z:Nat):Int)<((mn:Nat):Int))=false:=f9 (by omega);show q (.list (mL [aM ((z:Nat):Int),.int (((z:Nat):Int)+1)] none (some (1+(if decide (((z:Nat):Int)<((mn:Nat):Int))=true then 1 else 0)))));rw[e];exact hq _ ⟨[z],(λu hu=>by simp at hu;omega),rfl⟩
  ·rintro _ ⟨zs,Ce,rfl⟩;exact k _ ⟨zs,_,Ce,rfl⟩
 rintro _ ⟨zs,um,Ce,rfl⟩;refine kN (jK (ts:=zs.map λ(z:Nat)=>aM (z:Int)) (λR h=>⟨_,rfl,_,rfl,h⟩) (λk σ=>∃um:Sl,σ=[.val (.list (ns.map aM)),.val (qL Tp),.val (.int (f:Nat)),.val (.int (mn:Nat)),.val (.bool gr),.val (.int (dp:Nat)),.val (gH fs an),.val (.list (rs.map fC)),.val (.tuple [.int a,.int b]),.val (AH fs rs),.val (.list (zs.map λ(z:Nat)=>aM (z:Int))),um]) ⟨_,rfl⟩ (λk x g6 hx hP=>?_) λg6 hP=>?_)
 ·obtain⟨um,rfl⟩:=hP;rw[aH]at hx;obtain⟨z,Vq,rfl⟩:=bL.mp hx;obtain⟨Dj,Vp⟩:=Ce z (aN Vq);have My:jH fs an (rs.take z):=λr hr=>lx r (fB hr);have Em:(rs.take z).length=z:=by rw[bA];omega
  have S:pM fs an fa (rs.take z) a b:=⟨F,wt,My,by omega,a0,a1,b0,b1⟩;have al:rs.take z≠[]:=λe=>by rw[e]at Em;have:(0:Nat)=z:=Em;omega
  have Ky:mL (rs.map fC) none (some ((z:Nat):Int))=(rs.take z).map fC:=by rw[zE,aG2]
  refine pF (λb=>b=false) (λq hq=>⟨_,rfl,_,rfl,_,rfl,?_⟩) (λhT=>by cases hT) λ_=>⟨_,rfl⟩;refine⟨_,rfl,_,rfl,_,rfl,_,rfl,_,rfl,fs,rs,z,dp,rfl,jm,by omega,Dj,by omega,Dx,Dy,λm hm=>?_⟩;rw[Ky];exact⟨fs,an,fa,rs.take z,a,b,dp,m,rfl,S,al,Dx,Dy,by rw[Em];exact hm,hq _ rfl⟩
 obtain⟨um,rfl⟩:=hP;exact h
def aGo:eK P w K mg base jW 12 oz ml ["_law_script"] (dM K BH):=aE7 T
def aGp{l:jo}{fa:Addr}(wt:mg "law"=some (.ref fa)):∃fd:kF,(∀s(v:Value),BindsTo s fd ⟨[v],[]⟩ [("_law_script",v)])/\∀base:Heap,K.In base->base.Ns eW mg->eK l.prog w K mg base jW 12 fa fd ["_law_script"] (dM K BH):=by
 have e:=wt.symm.trans T.D_law.m;cases e;refine⟨ml,?_,λbase _ _=>aGo T⟩;obtain⟨_,_,_,_,_,_,_,_,_,e,_⟩:=T.D_law.F.ex;rw[e]
 exactλs v=>.of_eq rfl
omit T
def aLu{K:aI}{h:Heap}{mg:Str->Option Value}(X:K.In h)(G:h.Ns eW mg){m7:Addr}
  (ln:fT K eW "JudgeError"=some (some (.ref m7)))
  {i7:Addr}
  (qy:fT K eW "TooMany"=some (some (.ref i7)))
  {bh:Addr}
  (qx:fT K eW "NoPlace"=some (some (.ref bh)))
  {fv:Addr}
  (wy:fT K eW "NoRow"=some (some (.ref fv)))
  {du:Addr}
  (uu:fT K eW "NoSuch"=some (some (.ref du)))
  {dm:Addr}
  (ur:fT K eW "NoLine"=some (some (.ref dm)))
  {dv:Addr}
  (uv:fT K eW "NoText"=some (some (.ref dv)))
  {dq:Addr}
  (ut:fT K eW "NoRule"=some (some (.ref dq)))
  {c0_J dd_J} {Dr:ClassData} {sl_J}
  (Vw:K.lookup m7=some ⟨c0_J,dd_J,.cls Dr,sl_J⟩)
  {oc_J od_J} {Gv:Array u8} {Kz:Nat} {os_J}
  (Np:K.lookup Dr.ns=some ⟨oc_J,od_J,.dict Gv Kz,os_J⟩)
  (Rc:(Gv.toList.all λe=>match e.key with | .str _ _=>true | _=>false)=true)
  (Nr:fT K Dr.ns "__init__"=some (none))
  (Nq:cG K m7 (.type "BaseException")=some true)
  {cc_JudgeError}
  (gz:gA K m7=some cc_JudgeError)
  (ia:fY K (.ref m7)=some (.type "type"))
  (yz:cG K m7 (.ref m7)=some true)
  {cc_TooMany}
  (sm:gA K i7=some cc_TooMany)
  (sw:fY K (.ref i7)=some (.type "type"))
  (su:cG K i7 (.ref i7)=some true)
  {cc_NoPlace}
  (sk:gA K bh=some cc_NoPlace)
  (sv:fY K (.ref bh)=some (.type "type"))
  (sr:cG K bh (.ref bh)=some true)
  {cc_NoRow}
  (ya:gA K fv=some cc_NoRow)
  (yc:fY K (.ref fv)=some (.type "type"))
  (yb:cG K fv (.ref fv)=some true)
  {cc_NoSuch}
  (vq:gA K du=some cc_NoSuch)
  (wf:fY K (.ref du)=some (.type "type"))
  (wb:cG K du (.ref du)=some true)
  {cc_NoLine}
  (vo:gA K dm=some cc_NoLine)
  (wd:fY K (.ref dm)=some (.type "type"))
  (vz:cG K dm (.ref dm)=some true)
  {cc_NoText}
  (vx:gA K dv=some cc_NoText)
  (wg:fY K (.ref dv)=some (.type "type"))
  (wc:cG K dv (.ref dv)=some true)
  {cc_NoRule}
  (vp:gA K dq=some cc_NoRule)
  (we:fY K (.ref dq)=some (.type "type"))
  (wa:cG K dq (.ref dq)=some true)
  {tj tm:Str} {jd:Addr} {bs_TooMany sub_TooMany} {sd qw:Bool} {sn_TooMany col_TooMany dd_TooMany k0_TooMany k1_TooMany k2_TooMany k3_TooMany k5_TooMany}
  (wj:K.lookup i7=some (excClassObj tj tm i7 jd bs_TooMany (.ref m7::[.type "ValueError",.type "Exception",.type "BaseException",.type "object"]) sd sn_TooMany sub_TooMany qw col_TooMany dd_TooMany k0_TooMany k1_TooMany k2_TooMany k3_TooMany k5_TooMany "ValueError.__new__"))
  {oc_TooMany od_TooMany} {km:Array u8} {qz:Nat} {os_TooMany}
  (sx:K.lookup jd=some ⟨oc_TooMany,od_TooMany,.dict km qz,os_TooMany⟩)
  (R_TooMany:(km.toList.all λe=>match e.key with | .str _ _=>true | _=>false)=true)
  (sy:fT K jd "__init__"=some (none))
  (eu:eI K (.ref i7) "__getattribute__"=some (some (.builtin "BaseException.__getattribute__")))
  (gg:eI K (.ref i7) "__getattr__"=some (none))
  (ig:eI K (.ref i7) "__class__"=some (some (.builtin "object.__class__")))
  (ji:cG K i7 (.type "object")=some true)
  (ah:cG K i7 (.type "BaseException")=some true)
  (gi:cG K i7 (.type "ValueError")=some true)
  (mi:cG K i7 (.type "int")=some false)
  (mj:cG K i7 (.type "str")=some false)
  (lg:cG K i7 (.type "list")=some false)
  (jv:cG K i7 (.type "tuple")=some false)
  (lf:cG K i7 (.type "bool")=some false)
  (j_TooMany:cG K i7 (.ref m7)=some true)
  (q_TooMany_NoPlace:cG K i7 (.ref bh)=some false)
  (q_TooMany_NoRow:cG K i7 (.ref fv)=some false)
  (q_TooMany_NoSuch:cG K i7 (.ref du)=some false)
  (q_TooMany_NoLine:cG K i7 (.ref dm)=some false)
  (q_TooMany_NoText:cG K i7 (.ref dv)=some false)
  (q_TooMany_NoRule:cG K i7 (.ref dq)=some false) :
  Cz K mg (m7) (i7) (bh) (fv) (du) (dm) (dv) (dq):={ x_JudgeError:=jQ X G ln,x_TooMany:=jQ X G qy,x_NoPlace:=jQ X G qx,x_NoRow:=jQ X G wy,x_NoSuch:=jQ X G uu,x_NoLine:=jQ X G ur,x_NoText:=jQ X G uv,x_NoRule:=jQ X G ut,X_TooMany:=⟨⟨eu,gg,ig,ji,ah⟩,λT hT=>by simp only[bE,eO,af]at hT;(rcases hT with rfl | rfl | rfl | rfl | rfl<;>first | exact yY aFn mi | exact yY aFm mj | exact yY Z9 lg | exact yY V0 jv | exact yY aAa lf)⟩,R_TooMany:=⟨_,_,_,_,_,_,_,_,_,_,_,_,_,_,_,_,_,_,_,_,wj,OO sx R_TooMany,sy,Vw,OO Np Rc,Nr⟩,j_TooMany:=O6 gz ia Nq j_TooMany,e_TooMany:=O6 sm sw ah su,v_TooMany:=yY DR gi,q_TooMany_TooMany:=V1,q_TooMany_NoPlace:=zA sk sv q_TooMany_NoPlace sr,q_TooMany_NoRow:=zA ya yc q_TooMany_NoRow yb,q_TooMany_NoSuch:=zA vq wf q_TooMany_NoSuch wb,q_TooMany_NoLine:=zA vo wd q_TooMany_NoLine vz,q_TooMany_NoText:=zA vx wg q_TooMany_NoText wc,q_TooMany_NoRule:=zA vp we q_TooMany_NoRule wa,y_TooMany:=aAb gz ia j_TooMany }
def VY{t n:Nat}{s k0 k1}(l:K.lookup t=some ⟨.type "tuple",none,.seq #[.str "yes" k0,.str "no" k1] n,s⟩):aGy K t ["yes","no"]:=⟨_,_,_,l,rfl,rfl,rfl,(by show 2<=bM;decide),.cons ⟨_,rfl⟩ (.cons ⟨_,rfl⟩ (.nil))⟩
def VM{H}:bJ H (mask H []):=λb o e=>by
 unfold mask;rw[b8 (by simp)];exact e
theorem E6{K H}:∀ns:List Int,Reps K H (ns.map aM) (ns.map V.int)
|[]=>.nil
|n::ns=>.cons (.int n) (E6 ns)
def aM9{l:jo}{q loose}{XP:(Str->Option Value)->Heap->Prop}{YP:g7->Heap->Prop}{d:DefRec}{K:Params->aI}(hn:l.most=some 63)(Hg:d.params.defaults=[])
  (hY:∀(w:g7)(h:Heap),YP w h->(K w.params).In h) (hT:∀(w:g7)(h:Heap),YP w h->∀P,tabA=some P->h.get? P=some { cls:=.none,data:=.fields #[] }/\(K w.params).lookup P=none/\ot h P)
  (F:∀(w:g7)(mg:Str->Option Value)(fa:Addr)(h:Heap),(K w.params).In h->h.Ns eW mg->mg d.name=some (.ref fa) ->
   ∃fd:kF,(∀s(u:Value),BindsTo s fd ⟨[u],[]⟩ [("_law_script",u)])/\∀base:Heap,(K w.params).In base->base.Ns eW mg->eK l.prog w (K w.params) mg base jW 12 fa fd ["_law_script"] (dM (K w.params) BH)) :
  X2 q loose XP YP l.row.toRowW d [] (λf vs=>uq f vs):=
 L2.X6 (n:=63) (k:=12) (x:="_law_script") (CX:=λ_=>jW) (sp:=λw=>dM (K w.params) BH) hn (by decide) Hg ⟨rfl,by decide,by decide,rfl⟩ hY hT F
  (λw H a ns hl _ hS=>⟨[],[.list (ns.map aM)],λd=>d=.bool true,λp hp=>by simp at hp,.cons (.list (L2.bJ.seq VM hS) (E6 ns)) .nil,⟨ns,rfl,hl,rfl⟩,λd v H' _ r q=>by subst q;cases r;rfl⟩) λ_ _ _ _ _ z=>z
end
end K38
open L2
namespace PySem.W.Fast
theorem tw6892929281315908453:True:=⟨⟩
theorem tw49912775343001107:True:=⟨⟩
theorem tw4219957540542140960:True:=⟨⟩
theorem tw4305499108508221508:True:=⟨⟩
theorem tw10120783112937851533:True:=⟨⟩
theorem tw18093175982694074403:True:=⟨⟩
theorem tw12808257446870618850:True:=⟨⟩
theorem tw9805240980441045901:True:=⟨⟩
theorem tw9431173590124996382:True:=⟨⟩
theorem tw3747441921283909455:True:=⟨⟩
theorem tw348357614575658563:True:=⟨⟩
theorem tw3648874591393962036:True:=⟨⟩
theorem tw3761212876631234260:True:=⟨⟩
theorem tw9545924949771996112:True:=⟨⟩
theorem tw3986258649626524275:True:=⟨⟩
theorem tw3975661587310316:True:=⟨⟩
theorem tw1587191313214146750:True:=⟨⟩
theorem tw13912827104254928856:True:=⟨⟩
theorem tw13187157213117236549:True:=⟨⟩
theorem tw17171193291849932423:True:=⟨⟩
theorem tw12569661597803600325:True:=⟨⟩
theorem tw12595321730951180337:True:=⟨⟩
theorem tw14050401896617393947:True:=⟨⟩
theorem tw5471335834240938331:True:=⟨⟩
theorem tw2026275922594534377:True:=⟨⟩
theorem tw2920484219216839277:True:=⟨⟩
theorem tw9242868521604676157:True:=⟨⟩
theorem tw6605961434936979397:True:=⟨⟩
theorem tw15416647965019779189:True:=⟨⟩
theorem tw8860800320752936216:True:=⟨⟩
theorem tw16765596038911618022:True:=⟨⟩
theorem tw12938982971256856226:True:=⟨⟩
theorem tw4400057878853520995:True:=⟨⟩
theorem tw7061662391160906931:True:=⟨⟩
theorem tw16749103551573750687:True:=⟨⟩
theorem tw916601198392926174:True:=⟨⟩
theorem tw7598687437826835792:True:=⟨⟩
theorem tw16784172655437848318:True:=⟨⟩
theorem tw15822661948132895829:True:=⟨⟩
theorem tw3656789147615464848:True:=⟨⟩
theorem tw15733203490367793744:True:=⟨⟩
theorem tw3519895979486969086:True:=⟨⟩
theorem tw1884829752795608352:True:=⟨⟩
theorem tw18384957264995882674:True:=⟨⟩
theorem tw10380728041057515389:True:=⟨⟩
theorem tw8467894210304476951:True:=⟨⟩
theorem tw5067636061782753680:True:=⟨⟩
theorem tw5527486432552120963:True:=⟨⟩
theorem tw4302568759385748429:True:=⟨⟩
theorem tw3494632869458156565:True:=⟨⟩
theorem tw11409244332438928424:True:=⟨⟩
theorem tw2131640883387461646:True:=⟨⟩
theorem tw12812477490089945825:True:=⟨⟩
theorem tw10073601935019338494:True:=⟨⟩
theorem tw10837633662766038021:True:=⟨⟩
theorem tw4152028594665973633:True:=⟨⟩
theorem tw4765925863626238166:True:=⟨⟩
theorem tw8135696567784415706:True:=⟨⟩
theorem tw17480789250500870689:True:=⟨⟩
theorem tw1629053543434141214:True:=⟨⟩
theorem tw15094877178108554724:True:=⟨⟩
theorem tw14141494017285819329:True:=⟨⟩
theorem tw9201909585289895491:True:=⟨⟩
theorem tw4932181562851191458:True:=⟨⟩
theorem tw6519921780942427967:True:=⟨⟩
theorem tw15913023147799935973:True:=⟨⟩
theorem tw16737470085492812203:True:=⟨⟩
theorem tw2966895275403830367:True:=⟨⟩
theorem tw15659263262913543981:True:=⟨⟩
theorem tw17490357893563165481:True:=⟨⟩
theorem tw12408370667967028250:True:=⟨⟩
theorem tw9460567131739052712:True:=⟨⟩
theorem tw11814635427716015958:True:=⟨⟩
theorem tw202741547562033943:True:=⟨⟩
theorem tw1855157028260926474:True:=⟨⟩
theorem tw12986562218327956964:True:=⟨⟩
theorem tw17313316022848690384:True:=⟨⟩
theorem tw18370769802359211048:True:=⟨⟩
theorem tw6993912757788545161:True:=⟨⟩
theorem tw3938612758906347154:True:=⟨⟩
theorem tw14384729697705977175:True:=⟨⟩
theorem tw10132204428222586911:True:=⟨⟩
theorem tw7627313830795771730:True:=⟨⟩
theorem tw3556668178772496234:True:=⟨⟩
theorem tw15640082399520982884:True:=⟨⟩
theorem tw15204325711440931940:True:=⟨⟩
theorem tw202901104307346225:True:=⟨⟩
theorem tw15121752266101071972:True:=⟨⟩
theorem tw661364400928435448:True:=⟨⟩
theorem tw15014507109291662663:True:=⟨⟩
theorem tw8756558689002495700:True:=⟨⟩
theorem tw779049087347643487:True:=⟨⟩
theorem tw8538468894244583547:True:=⟨⟩
theorem tw9300138553480398142:True:=⟨⟩
theorem tw11723377744440448433:True:=⟨⟩
theorem tw7785902786399360369:True:=⟨⟩
theorem tw570370461302028154:True:=⟨⟩
theorem tw6598152708526574014:True:=⟨⟩
theorem tw3672582520803891496:True:=⟨⟩
theorem tw16731086146048466081:True:=⟨⟩
theorem tw14752964294395588999:True:=⟨⟩
theorem tw9129255422205635012:True:=⟨⟩
theorem tw17863435405910733061:True:=⟨⟩
theorem tw2547747963041066494:True:=⟨⟩
theorem tw3437258857967533801:True:=⟨⟩
theorem tw13890873305688263909:True:=⟨⟩
theorem tw226279049707245960:True:=⟨⟩
theorem tw4361343761720930477:True:=⟨⟩
theorem tw15873173084153804615:True:=⟨⟩
theorem tw6558690025577778912:True:=⟨⟩
theorem tw15641081365274524496:True:=⟨⟩
theorem tw677561296682118893:True:=⟨⟩
theorem tw10300322265127985371:True:=⟨⟩
theorem tw2732945351820507555:True:=⟨⟩
theorem tw15084051529530422044:True:=⟨⟩
theorem tw2465032647111690532:True:=⟨⟩
theorem tw5117977951022690363:True:=⟨⟩
theorem tw12220925867960955376:True:=⟨⟩
theorem tw90861664951864657:True:=⟨⟩
theorem tw2771635777601011798:True:=⟨⟩
theorem tw253169753269823873:True:=⟨⟩
theorem tw15992203589793471480:True:=⟨⟩
theorem tw8341030747668918080:True:=⟨⟩
theorem tw11040561733841664456:True:=⟨⟩
theorem tw3450547893361345359:True:=⟨⟩
theorem tw3080660497752986571:True:=⟨⟩
theorem tw12802196601407231665:True:=⟨⟩
theorem tw4165175489508175802:True:=⟨⟩
theorem tw15784342425628443467:True:=⟨⟩
theorem tw10599983630833486231:True:=⟨⟩
theorem tw14600933593613659238:True:=⟨⟩
theorem tw15647300170262497123:True:=⟨⟩
theorem tw14806451063387191349:True:=⟨⟩
theorem tw4199538772337176114:True:=⟨⟩
theorem tw16467358249081294304:True:=⟨⟩
theorem tw1769968050041361324:True:=⟨⟩
theorem tw8462812472644304709:True:=⟨⟩
theorem tw903016436504414264:True:=⟨⟩
theorem tw978353211329918521:True:=⟨⟩
theorem tw9856314080695492026:True:=⟨⟩
theorem tw16641400129440427643:True:=⟨⟩
theorem tw5892490221743744265:True:=⟨⟩
theorem tw2759062149169022709:True:=⟨⟩
theorem tw1670001946980904909:True:=⟨⟩
theorem tw4602116740923159492:True:=⟨⟩
theorem tw17279857646361182668:True:=⟨⟩
theorem tw7684089266764707747:True:=⟨⟩
theorem tw4556813449094390683:True:=⟨⟩
theorem tw6779941158214975289:True:=⟨⟩
theorem tw13961988613706495457:True:=⟨⟩
theorem tw15672357615249594430:True:=⟨⟩
theorem tw17402354186487400885:True:=⟨⟩
theorem tw7528851118878311713:True:=⟨⟩
theorem tw8154559416312899198:True:=⟨⟩
theorem tw14693732901254990655:True:=⟨⟩
theorem tw11196479839724015162:True:=⟨⟩
theorem tw12058584988681197488:True:=⟨⟩
theorem tw15458693557896165715:True:=⟨⟩
theorem tw4194256628533704357:True:=⟨⟩
theorem tw2664141794964218538:True:=⟨⟩
theorem tw9327920284312955710:True:=⟨⟩
theorem tw7425466058171562755:True:=⟨⟩
theorem tw13597477900282224204:True:=⟨⟩
theorem tw2164135984442384990:True:=⟨⟩
theorem tw14426353812903163960:True:=⟨⟩
theorem tw5759971220419423164:True:=⟨⟩
theorem tw12869704650199169152:True:=⟨⟩
theorem tw4806778956660455201:True:=⟨⟩
theorem tw7565991059494778766:True:=⟨⟩
theorem tw6996654295374468564:True:=⟨⟩
theorem tw4132608371059112263:True:=⟨⟩
theorem tw7257168736619490323:True:=⟨⟩
theorem tw7408447888316926576:True:=⟨⟩
theorem tw16769142170550418608:True:=⟨⟩
theorem tw3518497540660455573:True:=⟨⟩
theorem tw7276604182566744515:True:=⟨⟩
theorem tw13650267013816161961:True:=⟨⟩
theorem tw17160094481887377271:True:=⟨⟩
theorem tw16396879541847860051:True:=⟨⟩
theorem tw14359428463040461474:True:=⟨⟩
theorem tw2261107329702072850:True:=⟨⟩
theorem tw18093707771940792084:True:=⟨⟩
theorem tw1693359929318996190:True:=⟨⟩
theorem tw9817939830405641718:True:=⟨⟩
theorem tw15119976300162764598:True:=⟨⟩
theorem tw17961472999897320830:True:=⟨⟩
theorem tw15079069067914868408:True:=⟨⟩
theorem tw18135516218520711587:True:=⟨⟩
theorem tw5090329892587032432:True:=⟨⟩
theorem tw16219581363687367873:True:=⟨⟩
theorem tw9562550518544844349:True:=⟨⟩
theorem tw10913582233557532806:True:=⟨⟩
theorem tw4515324797141386192:True:=⟨⟩
theorem tw6414950480547208649:True:=⟨⟩
theorem tw2190574609892062233:True:=⟨⟩
theorem tw3969248330671841795:True:=⟨⟩
theorem tw6492350825293335494:True:=⟨⟩
theorem tw689714373790536488:True:=⟨⟩
theorem tw10218750250057073350:True:=⟨⟩
theorem tw5923497184396447779:True:=⟨⟩
theorem tw7920840499812958315:True:=⟨⟩
theorem tw17546664769381928512:True:=⟨⟩
theorem tw13054737436379879221:True:=⟨⟩
theorem tw37933153382957886:True:=⟨⟩
theorem tw10101915432338739244:True:=⟨⟩
theorem tw7822996265121719979:True:=⟨⟩
theorem tw17245766475922235462:True:=⟨⟩
theorem tw168249910359689360:True:=⟨⟩
theorem tw2162725224551639344:True:=⟨⟩
end PySem.W.Fast
open PySem PySem.W PyProof.Rows
set_option maxRecDepth 100000 in
set_option maxHeartbeats 0 in
theorem PySem.Challenge.cw_leafjudge_k38_too_many_sets_holds : PySem.Challenge.rw_leafjudge_k38_too_many_sets.Holds := by
  w_on; o_law; k_head; (case hw => w_witness2)
  k_fill
  refine K38.aM9 (l := PySem.Challenge.rw_leafjudge_k38_too_many_sets) rfl rfl (λw h Y => PySem.W.kIn_of Y) (λ_ _ _ _ e => nomatch e) ?F
  case F =>
    intro w mg fa h KX G Hx
    refine' K38.aGp ⟨K38.aLu KX G ?_ ?_ ?_ ?_ ?_ ?_ ?_ ?_ ?_ ?_ ?_ ?_ ?_ ?_ ?_ ?_ ?_ ?_ ?_ ?_ ?_ ?_ ?_ ?_ ?_ ?_ ?_ ?_ ?_ ?_ ?_ ?_ ?_ ?_ ?_ ?_ ?_ ?_ ?_ ?_ ?_ ?_ ?_ ?_ ?_ ?_ ?_ ?_ ?_ ?_ ?_ ?_ ?_ ?_ ?_ ?_ ?_ ?_ ?_,mg_of KX G ?_,⟨?_, ?_, ?_, ?_⟩,⟨?_, ?_, ?_, ?_⟩,na ?_,na ?_,na ?_,na ?_,na ?_,⟨?_, ?_, ?_⟩,⟨?_, ?_, ?_⟩,dg XE ?_ ?_ ?_,dg MX ?_ ?_ ?_,dg MX ?_ ?_ ?_,df KX G MX ?_ ?_ ?_ ?_,df KX G MX ?_ ?_ ?_ ?_,df KX G XF ?_ ?_ ?_ ?_,df KX G bn1 ?_ ?_ ?_ ?_,df KX G bn1 ?_ ?_ ?_ ?_,df KX G bn1 ?_ ?_ ?_ ?_,df KX G bn1 ?_ ?_ ?_ ?_,df KX G XE ?_ ?_ ?_ ?_,df KX G MX ?_ ?_ ?_ ?_,df KX G XF ?_ ?_ ?_ ?_,df KX G MX ?_ ?_ ?_ ?_,df KX G MX ?_ ?_ ?_ ?_,df KX G XF ?_ ?_ ?_ ?_,df KX G XE ?_ ?_ ?_ ?_,df KX G XF ?_ ?_ ?_ ?_,df KX G XF ?_ ?_ ?_ ?_,df KX G MX ?_ ?_ ?_ ?_,df KX G XE ?_ ?_ ?_ ?_,df KX G XE ?_ ?_ ?_ ?_,df KX G XE ?_ ?_ ?_ ?_,df KX G MX ?_ ?_ ?_ ?_,df KX G MX ?_ ?_ ?_ ?_,df KX G MX ?_ ?_ ?_ ?_,df KX G XE ?_ ?_ ?_ ?_,df KX G XE ?_ ?_ ?_ ?_,df KX G bn1 ?_ ?_ ?_ ?_,df KX G MX ?_ ?_ ?_ ?_,df KX G MX ?_ ?_ ?_ ?_,df KX G XF ?_ ?_ ?_ ?_,df KX G MX ?_ ?_ ?_ ?_,df KX G XF ?_ ?_ ?_ ?_,df KX G bn1 ?_ ?_ ?_ ?_,df KX G XE ?_ ?_ ?_ ?_,df KX G XE ?_ ?_ ?_ ?_,df KX G bn1 ?_ ?_ ?_ ?_,df KX G XE ?_ ?_ ?_ ?_,df KX G XF ?_ ?_ ?_ ?_,df KX G XF ?_ ?_ ?_ ?_,df KX G bn1 ?_ ?_ ?_ ?_,df KX G MX ?_ ?_ ?_ ?_,df KX G XF ?_ ?_ ?_ ?_,df KX G XF ?_ ?_ ?_ ?_,df KX G bn5 ?_ ?_ ?_ ?_,df KX G bn1 ?_ ?_ ?_ ?_,mg_of KX G ?_,K38.VY ?_,mg_of KX G ?_,mg_of KX G ?_,t4 KX G ?_,t4 KX G ?_,t4 KX G ?_,t4 KX G ?_,t4 KX G ?_,t4 KX G ?_,t4 KX G ?_,t4 KX G ?_,t4 KX G ?_,t4 KX G ?_,t4 KX G ?_,t4 KX G ?_,t4 KX G ?_⟩ Hx
    all_goals first | k_is | rfl | decide | with_unfolding_all rfl | skip

end