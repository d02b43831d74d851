import PyProof.Rows.All
import Wide.All
import OpenK.AllK
import Wide.FinOn
import Lean
import PyProof.EqAt
import PyProof.EqKinds
import PyProof.TupleCall
import PyProof.P3In
import PyProof.NeData
import PyProof.FitsReplace
import PyProof.StrBlockL
import PyProof.TupleKey
import PyProof.DictRoadsH
import KE.KItemsList
import PyProof.DictWalks
import KE.KDictList
import PyProof.Rows.Range3
import KE.KListMore
import KE.KRevIter
import KE.KPairComp
import PyProof.TupleOfSeq
import KE.KSortKey
import PyProof.Rows.SortRuns
import KE.KLam
import KE.KNestM
import PySem.Challenge.RW_leafjudge_k90_whole_tree_rules_tree
set_option Elab.async false
set_option linter.all false
set_option compiler.extract_closed false
set_option bootstrap.genMatcherCode false
set_option maxRecDepth 100000
noncomputable section
def L2.tabA : Option PySem.Addr := some 359
theorem Fq{p:Prop}(h:p:=by decide +kernel):p:=h
theorem Ft{p:Prop}(h:p:=by decide):p:=h
theorem Fu{p:Prop}(h:p:=by lia):p:=h
theorem Fv{p:Prop}(h:p:=by simp):p:=h
theorem Fw{a b:Nat}(h:Nat.ble a b=true:=by rfl):a<=b:=Nat.le_of_ble_eq_true h
theorem Fx{α:Sort u}{a:α}:a=a:=rfl
open Option.some renaming inj->c7,injEq->l8
open PySem.Str renaming ofString->c9,length->t8,join->gq
open Classical renaming choose_spec->d0,choose->e8,propDecidable->g7,byContradiction->x0
open PySem.Obj renaming mapSeq->d3,data_mapFields->z5,isFreed_of_fields->gl,cls_mapFields->iz
open PySem renaming World->d7,bootBuiltins->f6,wpAny_callSpecial?_slot->f7,wpAny_field->f8,Around->f9,wpAny_setField_rec->g0,compareOp->h7,mem_of_lookup->i6,wpAny_seqItems->i9,rawInt->j1,foldedSetIterable->j3,wpAny_pyIter_list->j4,wpAny_holding->j7,wpAny_updateSeq->l4,binaryOp->l5,PyData->l6,wpAny_rule->l7,wpAny_typeNameOfWhole_itemiter->m6,wpAny_typeNameOfWhole_keyiter->m9,wpAny_pyIter_tuple->n7,NameKind->o0,wpAny_passesOwn->o5,wpAny_dictEntries->o9,backTo->r4,pyNext->r8,sysModules->s0,DictEntry->t5,wpAny_typeNameOf_itemiter->t7,wpAny_attempt->u0,wpAny_typeNameOf_keyiter->u1,Builtin->u2,letOwnedTupleGo->u3,wpAny_dictEpoch->u4,wpAny_specialOf->u5,builtinsNs->u6,call_meets->u7,wpAny_getItem_str_slice->v0,firstArgMember->v8,wpAny_truthy_bool->v9,cLine->w6,behindInMarks->x3,codeAny->x4,plainId_quiet->x5,sliceBounds->y7,wpAny_letGo->y8,codeAny_builtin->z6,cellsFrom->ae,wpAny_Call_Name_kw->ai,wpAny_setField->aj,IsZip->aq,wpAny_pyIter_enum->au,updateSeq->az,wpAny_isInstance->ba,assignEach->bc,codeAny_mono->bd,getItem->bf,typeIs_str->bg,wpAny_isOneOf_itemiter->bh,wpAny_typeOf->bi,post_val_or_str->bn,wpAny_execs_nil->bo,wpAny_callSpecialIfBoundUnlessNone?_slot->bw,isCodeTable->bz,recursionLimit->ca,wpAny_fieldsOf->ce,wpAny_updateSeq_pair->cf,scanBound->ck,wpAny_onRaise->cx,callerA->di,concat_meets->dj,eqIsQuiet_byValue->dk,assign->dt,noFill_tuple_add->dv,pushCells->dw,pyIter->dy,wpAny_forIn_list->eh,IsRangeIter->er,callSpecialIfBoundUnlessNone?->eu,subscripted->ez,wpAny_loadPart'->fj,IsEnum->fo,ZipApart->fq,field->ge,isSubtype_stop->gf,newFunctionEnv->gh,wpAny_letOwnedTupleGo_enum->gi,wpAny_newTuple->gj,evalArgs_none->gm,call->gp,attributeBase->gr,seq_tuple_add->gw,wpAny_comprehension_free->gy,wpAny_handled->gz,again->ie,eqIsQuiet->ig,wpAny_Call_method0_late->ij,callType_new->il,newExc->ir,wpAny_pyIter_rangeiter->ix,wpAny_pyNext_range_end->iy,wpAny_isOneOf_keyiter->jb,wpAny_notOrdered_dict->jc,setField->qt,sizeLine_eq->qu,wpAny_loadName_local->qv,wpAny_of_eq->qw,wpAny_pyIter_keyiter->qx,wpAny_throw->qy,length_partsBetween->rn,wpAny_loadName_cell->rz,entryOfKey->sj,reduceHash->su,sliceRange->sw,wpAny_Name->tf,wpAny_call->tj,wpAny_pyIter_range->tm,holding->uf,wpAny_assign_Name->ui,wpAny_pyIter_slot->uj,wpAny_sequenceKey->uk
open PySem.Value renaming ref->d8,none->e9,type->j5,bool->x9,int->cu
open PySem.Builtin.SmallTypes renaming nextOf->d9,ownedTupleIsFree->j0,ownedTupleHandOut->y9
open PySem.NameKind renaming cell->e7,free->g6
open PyProof.Rows renaming wpS_bind->g8,seqObj->h9,callWith_type1->i4,wpS_pure->j2,slot_tuple_getitem->j6,reverseSlice'->x6,envOfC->z7,wpS_forRange->z9,AllBare->ao,arrOf->ax,pendingOf->cj,listUpdate_at->cw,get?_update_seq->fe,failedOf->gc,wpS_modify->gk,subscriptTail->gx,subscriptTail_builtinR->iw,Keyed->jf,wpS_mono->qz,entry_tuple_getitem->rl,Subscript_->sa,args_tuple_getitem->se,setPending->sv,IsTup->tu,wpS_get->ul
open PySem.Builtin.Tuple renaming tupleHashOf->g9,tupleExact->n6,tupleItemsOf->v1
open ForInStep renaming yield->h8,done->w5
open PySem.Builtin.List renaming listExtendWith->i3,listTooLong->n8,listItems->r0,listSameRef->cg,listUpdate->cm
open PySem.Builtin.Dict_items renaming ownsTuple->i7,ownedTupleFields->z0,ownedTupleIsFree->z4,pairFromOwner->aa
open PySem.Builtin.Range renaming rangeSize->j8,small->db
open Ne renaming symm->j9
open PySem.W renaming mg_none_of->k9,OpenLaw->cq,mg_of->gg
open PySem.Paired renaming length->l3
open PySem.Builtin.Str renaming strKind->l9,occurrences->o7,glued->aw,strSliceIndices->bx
open PySem.Shared renaming TypeIs->m5,heap->cr
open PySem.Builtin.Slice renaming slicePlaces->m7,sliceAdjust->v7,sliceApplied->br
open PyProof.Rows.F renaming plain_set_update_loop->m8,entry_set_update_loop->ab
open False renaming elim->n9
open List.cons renaming inj->o6
open Or renaming inr->o8,inl->t9
open PySem.F renaming slot_tuple_iterator_next->q9,slot_zip_next->bb,args_str_split_2->cn,entry_str_split->cz,slot_str_split->dh,args_tuple_iterator_next_1->dq,entry_tuple_iterator_next->ei,typeCall_enumerate_1->gn,entry_enumerate_new->ia,newCall_enumerate_1->ic,args_object_init_2->ik,called_enumerate->je,args_zip_next_1->rf
open PySem.Builtin.Dict renaming showsAll->t4
open PySem.PassesOwn renaming never->v4
open PySem.Around renaming under_plainId->v6,frames_deeper->fk
open Sum renaming inr->x8,inl->bj
open PySem.SeqAt renaming eqv_refl->af,readOf->iu,readsAll_map->iv,items_eqAt->sr
open PySem.Calls renaming callWith_builtin->al,Name_function_global->de
open PySem.StrLaws renaming glued_eq_join->am
open True renaming intro->ar
open PySem.Walks renaming list->bt
open LawfulBEq renaming eq_of_beq->ci
open PySem.Data renaming fields->cy
open PyProof renaming noPylong_small->dr
open ForIn renaming forIn->ii
open Eq renaming symm->jd
def a8:=@decide_eq_true
def a9:=@if_neg
def b8:=@if_pos
def c5:=@of_decide_eq_true
def c6:=@decide_eq_false
def c8:=@absurd
def d4:=@decide_eq_true_eq
def g4:=@of_decide_eq_false
def g5:=@congrArg
def i0:=@decide_eq_true_iff
def i5:=@if_false
def i8:=@or_false
def t6:=@if_true
def av:=@beq_iff_eq
def dn:=@ne_true_of_eq_false
def ew:=@not_or
def fm:=@getElem?_pos
def sh:=@decide_eq_false_iff_not
open List renaming length_map->aB,getElem?_eq_some_iff->aC,getElem?_eq_getElem->aD,getElem?_map->aF,mem_cons_of_mem->aK,mem_cons_self->aP,mem_of_getElem?->aR,mem_map->aU,length_append->aV,map_cons->aZ,mem_cons->bA,mem_filter->bC,length_take->bD,getElem?_set_self->bG,getElem?_set_ne->bH,size_toArray->bI,map_append->bK,map_map->bL,take_add_one->bS,getElem?_of_mem->bU,mem_singleton->bW,length_cons->bX,getElem?_append_right->cA,length_filter_le->cI,mem_append->cR,take_length->cU,not_mem_nil->dG,mem_of_mem_take->dI,getElem_mem->dL,getElem?_append_left->dQ,append_nil->dU,getElem?_eq_none->eD,append_assoc->eF,length_drop->eG,getD_eq_getElem?_getD->eJ,sum_cons->eR,flatMap_cons->eV,range->eW,mem_append_right->eZ,drop_eq_getElem_cons->fC,filter_cons->fG,find?_eq_none->fN,find?_cons_of_pos->fP,lookup_cons->fS,idxOf_lt_length_iff->fT,all_eq_true->fU,take_append_drop->fV,mem_of_find?_eq_some->gF,getElem?_range->gG,filter_append->gY,length->hX,getElem?_cons_succ->hZ,map_congr_left->iI,length_nil->iM,getElem?_take->iW,mem_of_mem_drop->jC,getElem?_cons_zero->jD,filter_congr->jE,ext_getElem?->jF,set_eq_take_append_cons_drop->kF,getElem?_zip_eq_some->kH,filter_map->kL,map_id->kM,flatMap_append->kZ,getElem?_replicate->lB,take_of_length_le->lH,getElem_idxOf->lI,getElem?_drop->lJ,range_succ->lO,length_set->lP,length_singleton->lR,foldl_append->lW,mem_range->mC,map_nil->mF,map_take->mY,nodup_cons->mZ,foldl_cons->nA,length_eq_zero_iff->nN,find?_cons_of_neg->nT,find?_append->nU,mem_flatMap->oP,any_eq_true->oQ,mem_append_left->oY,forIn_cons->pH,filterMap_cons->pW,replicate->qG,getElem?_eq_none_iff->qP,length_range->rH,getElem?_inj->rJ,any_eq_false->rK,map_drop->rM,cons_append->sQ,drop_eq_nil_of_le->sX,countP_map->uL,mem_iff_getElem->vK,drop_zero->vL,length_pos_iff->wI,filter_eq_self->wJ,Pairwise->xU,take_sublist->zR,pairwise_map->zS,flatten_cons->zT,count_append->zU,all_map->zV,countP_cons->A0,range'->CQ,lookup->CS,of_mem_zip->C1,find?_some->C2,nodup_iff_pairwise_ne->EO,mem_or_eq_of_mem_set->GE,take_nil->GJ,pairwise_singleton->JF,range_succ_eq_map->JK,flatten_singleton->JL,flatMap_singleton->JM,append_eq_nil_iff->JN,countP_le_length->LL,pairwise_append->ND,length_dropLast->NE,filter->NF,count_replicate->NG,map_eq_nil_iff->P0,flatten_append->P1,filter_sublist->P2,zip_cons_cons->P8,pairwise_cons->P9,mem_filterMap->QA,filter_filter->QB,filterMap_map->QC,count_pos_iff->QE,count->QF,nodup_append->U1,zipIdx_cons->VC,range'_succ->VD,mem_flatten->VE,getElem_inj->VF,zipIdx_nil->X4,sum_append->X5,count_cons->X6,any_append->X7,take_zero->ZS,map->ZT,forIn_nil->ZU,drop_nil->aCv,any_cons->aCw,toArray->aC5,set_set->aC6,map_set->aC7,isEmpty->aC8,set->aNd
open PySem renaming wpAny_bind->aE,wpAny_pure->aL,sizeLine->bO,Program->cH,starEach->cS,wpAny_call_entry->eX,wpAny_newObj_type->eY,wpAny_mono->iE,mainGlobals->iV,FuncData->jH,swapsWith->oF
open PySem.Heap renaming get?_push_of_some->aH,get?_push_size->aY,lt_size->bE,size_push->dX,SameBut->dY,get?_update_self->fW,get?_update_other->gC,size_update->sR,IsTuple->zW,ExtBut->CU
open Nat renaming le_of_ble_eq_true->aI,le_refl->aM,le_trans->bP,ne_of_lt->bV,zero_le->dE,lt_of_lt_of_le->dF,ne_of_gt->fA,mul_le_mul->gA,lt_succ_of_lt->gM,lt_irrefl->iG,le_of_lt->jT,pow_le_pow_right->kO,lt_succ_self->mM,le_of_eq->mN,lt_of_le_of_lt->nM,zero_add->oB,sub_zero->pY,add_mul->rL,gcd_pos_of_pos_right->sL,pow_succ->uJ,lt_asymm->uK,min_eq_left->uY,one_mul->wG,sub_self->AI,min_le_right->CN,min_eq_right->CO,le_add_right->CP,add_assoc->JE,add_sub_cancel_left->JJ,lt_trans->LK,mul_le_mul_right->PZ,not_lt->U0,le_succ_of_le->VA,gcd_dvd_right->VB,succ_ne_self->X2,le_of_not_lt->X3,div_le_self->ZR,add_le_add->aCu,le_of_dvd->aC4,mul_comm->aJ0,min_self->aJ1,gcd_comm->aJ2,mul_pos->aKg,mul_one->aKh
open PySem.PyData renaming str->aO,tuple->aW,int->bN,eqv->cE,depthAll->dR,canLayAll0->dW,bool->kG,hasDictAll->lQ,none->qO,eqvAll->wF,list->AH,canLay0->CZ,bulkAll->C0,leavesShortAll->JD,showableAll->NC,strOk->ZQ,dict->aCt
open PySem.W renaming Frag->aQ,keepIn->jS,fnOf->nK,findIn->pU,codeIn->pV,envX->sJ,methodObj->xT,codeHdIn->yZ,kla_obj->AF,cellsFrom_some->GC,CodeHd->UZ,mroIn->U8,WalkO->U9
open Option renaming map_eq_some_iff->bM,none_or->pX,getD_none->P7
open Bool renaming false_ne_true->bQ,and_eq_true->cL,false_eq_true->eH,eq_iff_iff->fH,or_eq_true->gT,or_eq_false_iff->mD,not_eq_true'->nV,true_and->oU,or_false->rN,not_true->xV,eq_false_iff->U2,false_or->aCx
open PySem.F renaming plainAttrs_list->bY,type_list_append->eP,slot_list_append->eQ,plain_extend_loop->gB,type_list_extend->gJ,slot_list_extend->gK,slot_dict_itemiterator_next->gL,slot_dict_keyiterator_next->gR,called_set->iR,slot_NoneType_hash->lV,type_tuple_index->mJ,slot_tuple_index->mK,plainAttrs_tuple->mL,slot_tuple_hash->mX,plainAttrs_str->nL,args_tuple_add_2->qN,type_list_index->rE,slot_list_index->rF,entry_tuple_add->rG,slot_tuple_add->sK,type_str_join->sU,slot_str_join->sV,args_dict_itemiterator_next_1->uX,entry_dict_itemiterator_next->vB,args_dict_keyiterator_next_1->vC,entry_dict_keyiterator_next->vJ,slot_dict_items_iter->AG,entry_extend_loop->CY,args_list_init_2->DE,typeCall_list_1->EK,slot_dict_items->EL,entry_list_init->EN,slot_dict_iter->GD,called_list->JI
open Int renaming emod_lt_of_pos->dA,emod_nonneg->dJ,toNat_natCast->iJ,natCast_mul->kN,natCast_add->nB,natCast_ediv->CT,fdiv_eq_ediv_of_nonneg->GF,ediv_one->aJ3,add_mul->aKi
open Array renaming length_toList->dZ,getElem?_eq_none->fM,getElem?_eq_getElem->iN,getElem?_toList->iS,forIn_toList->pZ,size_push->sY,toList_append->NH,append_assoc->P3,toList_push->QG,size_append->QH,toList->aCy
section
open PySem PySem.Spec PyProof.Rows
namespace L2
abbrev AD:=Sum Int Str
noncomputable def MM:AD->Value->Bool
|.inl k,v=>Value.isInt k v
|.inr x,v=>Value.isStrOf x v
noncomputable def Ll(w:d7):AD->Int
|.inl k=>hashInt k
|.inr x=>hashStr w x
def kC:∀{k v},MM k v=true->(∃i t,k=bj i/\v=cu i t)\/(∃x t,k=x8 x/\v=Value.str x t)
|.inl i,v,h=>by
 obtain⟨t,e⟩:=Value.isInt_shape (k:=i) (v:=v) h;exact .inl ⟨i,t,Fx,e⟩
|.inr x,v,h=>by
 obtain⟨t,e⟩:=Value.isStrOf_shape (x:=x) (v:=v) h;exact .inr ⟨x,t,Fx,e⟩
def OU(x:Str)(t:Tok):MM (.inr x) (.str x t)=true:=by simp[MM,Value.isStrOf]
def Yc(a b:Int):decide ((bj a:AD)=bj b)=(a==b):=by
 by_cases e:a=b
 ·subst e;simp
 ·have h:¬(bj a:AD)=bj b:=λq=>e (Sum.inl.inj q);rw[c6 h];exact(beq_eq_false_iff_ne.mpr e).symm
def TM(a b:Str):decide ((x8 a:AD)=x8 b)=decide (a=b):=by
 by_cases e:a=b
 ·subst e;simp
 ·have h:¬(x8 a:AD)=x8 b:=λq=>e (Sum.inr.inj q);rw[c6 h,c6 e]
def TN(a:Int)(b:Str):decide ((bj a:AD)=x8 b)=false:=c6 (λq=>nomatch q)
def Yd(a:Str)(b:Int):decide ((x8 a:AD)=bj b)=false:=c6 (λq=>nomatch q)
noncomputable def oD(prog:cH)(w:d7):PySem.KeyKind prog w AD where
 is:=MM
 hash:=Ll w
 inj:=λv a b ha hb=>by
  rcases kC ha with⟨i,t,rfl,rfl⟩ | ⟨x,t,rfl,rfl⟩
  ·rcases kC hb with⟨j,u,rfl,e⟩ | ⟨y,u,rfl,e⟩
   ·injection e with e1 _;rw[e1]
   ·exact nomatch e
  ·rcases kC hb with⟨j,u,rfl,e⟩ | ⟨y,u,rfl,e⟩
   ·exact nomatch e
   ·injection e with e1 _;rw[e1]
 byValue:=λk v h=>by
  rcases kC h with⟨i,t,rfl,rfl⟩ | ⟨x,t,rfl,rfl⟩<;>rfl
 pyHash:=λhv h=>by
  rcases kC hv with⟨i,t,rfl,rfl⟩ | ⟨x,t,rfl,rfl⟩
  ·exact wpAny_pyHash_int h
  ·exact wpAny_pyHash_str h
 eqBool:=λhu hv h=>by
  rcases kC hu with⟨i,t,rfl,rfl⟩ | ⟨x,t,rfl,rfl⟩
  ·rcases kC hv with⟨j,u,rfl,rfl⟩ | ⟨y,u,rfl,rfl⟩
   ·rw[Yc]at h;exact wpAny_eqBool_int h
   ·rw[TN]at h;exact SeqAt.EqAt.int_str i t y u _ _ _ _ h
  ·rcases kC hv with⟨j,u,rfl,rfl⟩ | ⟨y,u,rfl,rfl⟩
   ·rw[Yd]at h;exact SeqAt.EqAt.str_int x t j u _ _ _ _ h
   ·rw[TM]at h;exact wpAny_eqBool_str h
 «strs»:=λk x t v h=>by
  rcases kC h with⟨i,u,rfl,e⟩ | ⟨y,u,rfl,e⟩
  ·exact nomatch e
  ·injection e with e1 _
   subst e1;cases v<;>rfl
def zK(prog:cH)(w:d7)(x:Str)(t:Tok):(oD prog w).is (.inr x) (.str x t)=true:=OU x t
inductive V where
 |non | bl (b:Bool) | int (i:Int) | str (x:Str) | byt (b:Array UInt8) | flt (b:UInt64) | ref (a:Addr) | ty (n:String)
 deriving DecidableEq
def jM:V->Value->Prop
|.non,u=>u=e9
|.bl b,u=>u=x9 b
|.int i,u=>∃t,u=cu i t
|.str x,u=>∃t,u=Value.str x t
|.byt b,u=>∃t,u=Value.bytes b t
|.flt b,u=>∃t,u=Value.float b t
|.ref a,u=>u=d8 a
|.ty n,u=>u=j5 n
abbrev gO:List V->List Value->Prop:=Paired jM
theorem gO.length{b:List V}{a:List Value}(r:gO b a):b.length=a.length:=l3 r
theorem gO.get:∀{xs us}{i:Nat}{x},gO xs us->xs[i]?=some x->∃u,us[i]?=some u/\jM x u
|_,_,_,_,.nil,e=>by simp at e
|_,_,0,_,.cons r _,e=>by simp at e;subst e;exact⟨_,Fx,r⟩
|_,_,i+1,x,.cons _ t,e=>by
 obtain⟨u,a,b⟩:=gO.get (i:=i) (x:=x) t (by simpa using e);exact⟨u,by simpa using a,b⟩
theorem gO.append:∀{xs ys us ws},gO xs us->gO ys ws->gO (xs++ys) (us++ws)
|_,_,_,_,.nil,s=>s
|_,_,_,_,.cons r t,s=>.cons r (gO.append t s)
theorem gO.take:∀{a:List V}{us:List Value}(n:Nat),gO a us->gO (a.take n) (us.take n)
|_,_,0,_=>.nil
|_,_,_+1,.nil=>.nil
|_,_,n+1,.cons r t=>.cons r (gO.take n t)
theorem gO.drop:∀{b:List V}{a:List Value}(n:Nat),gO b a->gO (b.drop n) (a.drop n)
|_,_,0,r=>r
|_,_,_+1,.nil=>.nil
|_,_,n+1,.cons _ t=>gO.drop n t
def Jl:Option V->Option Value->Prop
|some v,some u=>jM v u
|none,none=>True
|_,_=>False
def KV{a:Type}:List (a×V)->List (a×Value)->Prop:=Paired λ(p:a×V) (q:a×Value)=>p.1=q.1/\jM p.2 q.2
noncomputable def kV:AD->V
|.inl i=>.int i
|.inr x=>.str x
inductive HO where
 /-- a list -/
 |lst (xs:List V)
 /-- a tuple (never changes) -/
 |tup (xs:List V)
 /-- a dict whose keys are ints and texts;one whose keys are tuples of ints and texts (the empty one is both) -/
 |dK (kvs:List (AD×V)) | dT (kvs:List (List AD×V))
 /-- a set of ints: ay members,ay size -/
 |set (S:Int->Bool) (n:Nat)
 /-- an instance of the class at C,ay dict at dx,ay attributes -/
 |ins (C dx:Addr) (fs:List (Str×V))
 /-- the dict of the instance at x -/
 |own (x:Addr)
 /-- the dict of an exception -/
 |xd (fs:List (Str×V))
 /-- a bound method,f of x -/
 |met (f x:Addr)
 /-- a range object lo,lo+1,.. below hi -/
 |rng (lo hi:Int)
 /-- a thing that is known to the object (the script;a dict while a loop walks it): read,never written while it is so -/
 |frz (o:Obj) (u:HO)
 /-- a code object's table -/
 |tbl (ps:Array Value)
 /-- any other thing,by what is true of ay one object (a def of kA own: SetO a S n:=HO.ext λh=>..) -/
 |ext (φ:Heap->Prop)
abbrev Hp:=Addr->Option HO
noncomputable def iA(H:Hp)(a:Addr)(o:HO):Hp:=λb=>if b=a then some o else H b
def dM{a:Addr}:iA H a o a=some o:=by unfold iA;rw[b8 rfl]
def dD{a b:Addr}(h:b≠a):iA H a o b=H b:=by unfold iA;rw[a9 h]
def iB{H:Hp}{a b:Addr}{o:HO}(h:H a=some o)(c:H b=none):a≠b:=by
 intro e;subst e;rw[h]at c;cases c
section
variable(P:cH)(w:d7)
def DB(h:Heap)(a:Addr)(b:Array Value):Prop:=∃o,h.get? a=some o/\o.cls=.type "tuple"/\∃n,o.data=.seq b n/\o.dict=none
def DB.tup{h}{a:Addr}(x:DB h a items):tu h a items:=let ⟨o,e,c,n,d,_⟩:=x;⟨o,e,c,n,d⟩
theorem DB.lt{h:Heap}{a:Addr}(x:DB h a items):a<h.objs.size:=x.tup.lt
def DB.new(h:Heap)(a:Array Value):DB (h.push { cls:=.type "tuple",data:=.seq a }) h.objs.size a:=⟨_,aY _ Fx,Fx,_,Fx,Fx⟩
def UY(a:Obj):Prop:=∃(vs:Array Value)(q:Str)(t:Tok),a.data=.fields vs/\vs[1]?=some (.str q t)
def mH(H:Hp)(h:Heap)(a:Addr):HO->Prop
|.lst d=>d.length<=bO/\∃(b:List Value)(n:Nat),gO d b/\h.get? a=some { cls:=.type "list",data:=.seq b.toArray n }
|.tup d=>d.length<=bO/\∃b:List Value,gO d b/\DB h a b.toArray
|.dK kvs=>kvs.length<=bO/\(a==s0)=false/\∃vs,KV kvs vs/\h.DictOf (oD P w) a vs
|.dT kvs=>kvs.length<=bO/\(a==s0)=false/\∃d:List (List AD×Addr×Value),
  Paired (λ(p:List AD×V) (q:List AD×Addr×Value)=>p.1=q.1/\H q.2.1=some (.tup (p.1.map kV))/\jM p.2 q.2.2) kvs d /\
  ∃o i m,h.get? a=some o/\o.ExactDict/\o.data=.dict i m/\i.toList=d.map (sj (tupleKind (oD P w)))/\(d.map (·.1)).Nodup
|.set S n=>h.SetOf (intKind P w) a S n
|.ins C dx fs=>H dx=some (.own a)/\fs.length<=1000/\dx≠a/\h.get? a=some (PySem.W.instObj C dx) /\
  ∃e,h.Ns1 dx e/\(∀f,Jl (fs.lookup f) (e f))/\PySem.Within e (fs.map (·.1))
|.own _=>∃o,h.get? a=some o
|.xd fs=>∃e,h.Ns1 a e/\∀f,Jl (fs.lookup f) (e f)
|.rng lo hi=>∃t u v,h.get? a=some { cls:=.type "range",data:=.fields #[.int lo t,.int hi u,.int 1 v] }
|.frz o u=>h.get? a=some o/\mH H h a u
|.tbl _=>∃qs:Array Value,h.get? a=some { cls:=.none,data:=.fields qs }/\TriplesOk qs.toList/\∀(p:Pos)(c:Value),codeAmong p qs.toList=some c->∃g l,c=.ref g/\H g=some (.frz l (.own a))/\UY l
|.met f x=>h.get? a=some (xT (.ref f) (.ref x))
|.ext φ=>φ h/\(∃o,h.get? a=some o)/\∀j k:Heap,φ j->(∀o,j.get? a=some o->k.get? a=some o)->φ k
def wD(H:Hp)(h:Heap):Prop:=∀a o,H a=some o->mH P w H h a o
end
section
variable{P:cH}{w:d7}{H i:Hp}{h g:Heap}{a:Addr}{o:HO}
theorem mH.lt(x:mH P w H h a o):a<h.objs.size:=by
 cases o with
 |lst c=>obtain⟨_,_,_,_,e⟩:=x;exact bE e
 |tup c=>obtain⟨_,_,_,p⟩:=x;exact p.lt
 |dK b=>obtain⟨_,_,_,_,o,_,_,e,_⟩:=x;exact bE e
 |dT b=>obtain⟨_,_,_,_,o,_,_,e,_⟩:=x;exact bE e
 |set S n=>obtain⟨o,_,_,_,e,_⟩:=x;exact bE e
 |ins C d fs=>obtain⟨_,_,_,e,_⟩:=x;exact bE e
 |own y=>obtain⟨_,e⟩:=x;exact bE e
 |xd fs=>obtain⟨_,⟨_,_,_,e,_⟩,_⟩:=x;exact bE e
 |rng lo j=>obtain⟨_,_,_,e⟩:=x;exact bE e
 |frz ob u=>obtain⟨e,_⟩:=x;exact bE e
 |tbl k=>obtain⟨_,e,_⟩:=x;exact bE e
 |met f y=>exact bE (show h.get? a=some _ from x)
 |ext l=>obtain⟨_,⟨_,e⟩,_⟩:=x;exact bE e
theorem Paired.mapP{c d:Type}{F G:c->d->Prop}:∀{l₁ l₂},Paired F l₁ l₂->(∀a b,F a b->G a b)->Paired G l₁ l₂
|_,_,.nil,_=>.nil
|_,_,.cons r t,f=>.cons (f _ _ r) (Paired.mapP t f)
def mH.stay(x:mH P w H h a o)(k:∀b u,(b=a\/H b=some (.own a))->h.get? b=some u->g.get? b=some u)
  (I:∀b,H b=some (.own a)->i b=some (.own a)) (J:∀b s,H b=some (.tup s)->i b=some (.tup s)) (G:∀b ob u,H b=some (.frz ob u)->i b=some (.frz ob u):=by exactλ_ _ _ q=>q):mH P w i g a o:=by
 induction o with
 |lst s=>obtain⟨z,m,n,r,e⟩:=x;exact⟨z,m,n,r,k _ _ (.inl Fx) e⟩
 |tup s=>obtain⟨z,m,r,ob,e,c⟩:=x;exact⟨z,m,r,ob,k _ _ (.inl Fx) e,c⟩
 |dK A=>obtain⟨z,y,vs,r,ob,l,j,e,c⟩:=x;exact⟨z,y,vs,r,ob,l,j,k _ _ (.inl Fx) e,c⟩
 |dT A=>
  obtain⟨z,y,s,r,ob,l,j,e,c⟩:=x;exact⟨z,y,s,Paired.mapP r λp q z=>⟨z.1,J _ _ z.2.1,z.2.2⟩,ob,l,j,k _ _ (.inl Fx) e,c⟩
 |set S n=>obtain⟨ob,l,j,t,e,c⟩:=x;exact⟨ob,l,j,t,k _ _ (.inl Fx) e,c⟩
 |ins C L fs=>
  obtain⟨d,z,ne,e,B,⟨E,l,j,F,c⟩,r⟩:=x;exact⟨I _ d,z,ne,k _ _ (.inl Fx) e,B,⟨E,l,j,k _ _ (.inr d) F,c⟩,r⟩
 |own y=>obtain⟨ob,e⟩:=x;exact⟨ob,k _ _ (.inl Fx) e⟩
 |xd fs=>obtain⟨B,⟨E,l,j,e,c⟩,r⟩:=x;exact⟨B,⟨E,l,j,k _ _ (.inl Fx) e,c⟩,r⟩
 |rng lo M=>obtain⟨t,u,v,e⟩:=x;exact⟨t,u,v,k _ _ (.inl Fx) e⟩
 |frz ob u K=>obtain⟨e,q⟩:=x;exact⟨k _ _ (.inl Fx) e,K q⟩
 |tbl N=>
  obtain⟨qs,e,t,z⟩:=x;exact⟨qs,k a _ (.inl Fx) e,t,λp c q=>let ⟨c',oc,h1,h2,h3⟩:=z p c q;⟨c',oc,h1,G _ _ _ h2,h3⟩⟩
 |met f y=>
  have e:h.get? a=some (xT (.ref f) (.ref y)):=x;show g.get? a=some (xT (.ref f) (.ref y));exact k a _ (.inl Fx) e
 |ext O=>obtain⟨p,⟨o,e⟩,st⟩:=x;exact⟨st _ _ p λo q=>k _ _ (.inl Fx) q,⟨o,k _ _ (.inl Fx) e⟩,st⟩
theorem wD.lt(x:wD P w H h)(e:H a=some o):a<h.objs.size:=(x a o e).lt
def wD.fresh(x:wD P w H h)(e:h.objs.size<=a):H a=none:=by
 cases q:H a with
 |none=>rfl
 |some u=>exact c8 (dF (x.lt q) e) (iG _)
def wD.kept(x:wD P w H h)(k:∀b u,h.get? b=some u->g.get? b=some u):wD P w H g:=λa o e=>
 (x a o e).stay (λb u _ q=>k b u q) (λ_ q=>q) λ_ _ q=>q
def wD.laid(x:wD P w H h)(k:∀b u,h.get? b=some u->g.get? b=some u)(j:h.objs.size<=a)(new:mH P w (iA H a o) g a o):wD P w (iA H a o) g:=λb u e=>by
 have d:=x.fresh j;by_cases f:b=a
 ·subst f;rw[dM]at e;cases e;exact new
 ·rw[dD f]at e;exact(x b u e).stay (λc v _ q=>k c v q) (λc q=>by rw[dD (iB q d)];exact q) (λc l q=>by rw[dD (iB q d)];exact q) λc ob v q=>by rw[dD (iB q d)];exact q
end
def Rd(H:Hp)(a:Addr)(u:HO):Prop:=H a=some u\/∃o,H a=some (.frz o u)
def Rd.ok{h}{a:Addr}(r:Rd H a u)(x:wD P w H h):mH P w H h a u:=by
 rcases r with r | ⟨o,r⟩
 ·exact x a u r
 ·obtain⟨_,q⟩:=x a _ r;exact q
def Hd:Option HO->Prop
|some (.lst _)=>True
|some (.dK _)=>True
|some (.dT _)=>True
|some (.set _ _)=>True
|some (.ins _ _ _)=>True
|some (.ext _)=>True
|_=>False
section
variable{P:cH}{w:d7}{H:Hp}{h h':Heap}{x e:Addr}{a:HO}
def wD.write(ok:wD P w H h)(mu:Hd (H x))(m:e=x\/H e=some (.own x))(k:∀b u,b≠e->h.get? b=some u->h'.get? b=some u)(l:∃u,h'.get? e=some u)
  (new:mH P w (iA H x a) h' x a):wD P w (iA H x a) h':=λb u q=>by
 have f:∀c y,H c=some (.own y)->c≠x:=λc y r z=>by subst z;rw[r]at mu;exact mu
 have g:∀c j,H c=some (.tup j)->c≠x:=λc j r z=>by subst z;rw[r]at mu;exact mu
 by_cases i:b=x
 ·subst i;rw[dM]at q;cases q;exact new
 ·rw[dD i]at q;by_cases d:b=e
  ·have n:H b=some (.own x):=by
    rcases m with z | z
    ·exact c8 (d.trans z) i
    ·rw[d];exact z
   rw[q]at n;cases n;obtain⟨v,o⟩:=l;exact⟨v,by rw[d];exact o⟩
  ·refine(ok b u q).stay (λc v hc r=>k c v ?_ r) (λc r=>by rw[dD (f c b r)];exact r) (λc j r=>by rw[dD (g c j r)];exact r) λc ob v r=>by rw[dD (λz=>by subst z;rw[r]at mu;exact mu)];exact r
   rcases hc with rfl | hc
   ·exact d
   ·rintro rfl;rcases m with z | z
    ·exact f c b hc z
    ·rw[hc]at z;cases z;exact i Fx
end
structure Un(fs ex:List Addr)(H H':Hp)(h h':Heap):Prop where
 keep:∀b o,h.get? b=some o->H b=none->b∉fs->b∉ex->h'.get? b=some o
 slot:∀b o,h.get? b=some o->H b=none->b∈fs->b∉ex->∃sl,h'.get? b=some { o with slots:=sl }
 free:∀b o,h.get? b=some o->H b=none->b∉ex->H' b=none
 there:∀b o,h.get? b=some o->b∉ex->∃o',h'.get? b=some o'
 tups:∀b xs,H b=some (.tup xs)->H' b=some (.tup xs)
 frzs:∀b o u,H b=some (.frz o u)->H' b=some (.frz o u)
 tbls:∀b ps,H b=some (.tbl ps)->∃more,H' b=some (.tbl (ps++more))
section
variable{fs ex:List Addr}{H f g:Hp}{h d i h':Heap}{a x e:Addr}{o:HO}
def Un.any(u:Un fs ex H f h d){b:Addr}(q:h.get? b=some ob)(n:H b=none)(j:b∉ex):∃k,d.get? b=some { ob with slots:=k }:=by
 by_cases c:b∈fs
 ·exact u.slot b ob q n c j
 ·exact⟨ob.slots,u.keep b ob q n c j⟩
def Un.trans(a:Un fs ex H f h d)(b:Un fs ex f g d i):Un fs ex H g h i where
 keep:=λc ob q n hc hx=>b.keep c ob (a.keep c ob q n hc hx) (a.free c ob q n hx) hc hx
 slot:=λc ob q n hc hx=>by
  obtain⟨sl,e1⟩:=a.slot c ob q n hc hx;obtain⟨Du,e2⟩:=b.slot c _ e1 (a.free c ob q n hx) hc hx;exact⟨Du,e2⟩
 free:=λc ob q n hx=>by
  obtain⟨o',e1⟩:=a.there c ob q hx;exact b.free c o' e1 (a.free c ob q n hx) hx
 there:=λc ob q hx=>by
  obtain⟨o',e1⟩:=a.there c ob q hx;exact b.there c o' e1 hx
 tups:=λc xs q=>b.tups c xs (a.tups c xs q)
 frzs:=λc ob xs q=>b.frzs c ob xs (a.frzs c ob xs q)
 tbls:=λc ps q=>by
  obtain⟨m1,e1⟩:=a.tbls c ps q;obtain⟨m2,e2⟩:=b.tbls c _ e1;exact⟨m1++m2,by rw[e2,P3]⟩
def Un.kept(k:∀b u,h.get? b=some u->h'.get? b=some u):Un fs ex H H h h':=
 ⟨λb ob q _ _ _=>k b ob q,λb ob q _ _ _=>⟨ob.slots,k b ob q⟩,λ_ _ _ n _=>n,λb ob q _=>⟨ob,k b ob q⟩,λ_ _ q=>q,λ_ _ _ q=>q,λ_ c q=>⟨#[],by rw[q];simp⟩⟩
def Un.refl:Un fs ex H H h h:=Un.kept λ_ _ q=>q
def Un.laid(k:∀b u,h.get? b=some u->h'.get? b=some u)(hp:h.objs.size<=a)(hn:H a=none):Un fs ex H (iA H a o) h h' where
 keep:=λb u q _ _ _=>k b u q
 slot:=λb u q _ _ _=>⟨u.slots,k b u q⟩
 free:=λb u q n _=>by rw[dD (bV (dF (bE q) hp))];exact n
 there:=λb u q _=>⟨u,k b u q⟩
 tups:=λb xs q=>by rw[dD (iB q hn)];exact q
 frzs:=λb u xs q=>by rw[dD (iB q hn)];exact q
 tbls:=λb ps q=>⟨#[],by rw[dD (iB q hn),q];simp⟩
def Un.write(mu:Hd (H x))(s:e=x\/H e=some (.own x))(k:∀b u,b≠e->h.get? b=some u->h'.get? b=some u)(j:∃u,h'.get? e=some u):Un fs ex H (iA H x o) h h':=by
 have p:∀b,H b=none->b≠x:=λb n z=>by subst z;rw[n]at mu;exact mu
 have m:∀b,H b=none->b≠e:=λb n z=>by
  subst z;rcases s with r | r
  ·exact p b n r
  ·rw[n]at r;cases r
 have l:∀b u,H b=some u->¬Hd (some u)->b≠x:=λb u q nm z=>by subst z;rw[q]at mu;exact nm mu
 refine⟨λb u q n _ _=>k b u (m b n) q,λb u q n _ _=>⟨u.slots,k b u (m b n) q⟩,λb u q n _=>by rw[dD (p b n)];exact n,λb u q _=>?_,
  λb t q=>by rw[dD (l b _ q λz=>z)];exact q,λb u t q=>by rw[dD (l b _ q λz=>z)];exact q,λb v q=>⟨#[],by rw[dD (l b _ q λz=>z),q];simp⟩⟩
 by_cases c:b=e
 ·subst c;exact j
 ·exact⟨u,k b u c q⟩
end
noncomputable def trk(h:Heap)(H:Hp):List Addr:=(eW h.objs.size).filter λa=>(H a).isSome
noncomputable def FQ(h:Heap)(H:Hp):Heap:=PySem.W.hideAll h (trk h H)
def OZ(h:Heap)(H:Hp):(FQ h H).objs.size=h.objs.size:=PySem.W.hideAll_size _ _
def TX{h:Heap}{b:Addr}(e:h.get? b=some o)(n:H b=none):(FQ h H).get? b=some o:=
 PySem.W.hideAll_get _ e λa=>by
  have q:(H b).isSome=true:=(bC.mp a).2;rw[n]at q;simp at q
def WU{h:Heap}{H:Hp}{b:Addr}(e:(FQ h H).get? b=some o):h.get? b=some o/\H b=none:=by
 have a:h.get? b=some o:=PySem.W.of_hideAll (trk h H) e;refine⟨a,?_⟩
 cases q:H b with
 |none=>rfl
 |some x=>
  have c:b∈trk h H:=bC.mpr ⟨mC.mpr (bE a),by simp[q]⟩;have z:(FQ h H).get? b=none:=PySem.W.hideAll_none (trk h H) c;rw[z]at e;cases e
noncomputable def XY(g h:Heap)(L:Addr):List (Addr×Obj):=(eW h.objs.size).filterMap λa=>if a=L\/(g.get? a).isSome=true then none else(h.get? a).map λo=>(a,o)
noncomputable def jX(g h:Heap)(L d:Addr):List (Addr×Obj):=(XY g h L).filter λp=>decide (p.1≠d)
structure Mod(K:aQ)(mg:Str->Option Value)(base:Heap):Prop where
 kin:K.In base
 glob:base.Ns iV mg
 blt:∃mb,base.Ns u6 mb/\∀x:Str,x≠"__name__"->mb x=f6 x
 nolimit:base.NoLimit
 bmod:∃bm o,mg "__builtins__"=some (.ref bm)/\bm≠u6/\base.get? bm=some o/\o.cls=.type "module"/\o.dict=some u6/\o.data=.plain
structure Cx where
 prog:cH
 w:d7
 K:aQ
 mg:Str->Option Value
 base:Heap
 A:f9
 N:List Str
 s₀:Shared
 H₀:Hp
 env:Env
 outer:List Env
 stack:List Env
 ex:List Addr
 fn:Str->Bool
 calm:Bool
 pn:List (Addr×Obj)
 xe:Value->Shared->Prop
noncomputable def ID(l:List Env):List Addr:=l.filterMap (·.frame)
noncomputable abbrev Cx.fs(X:Cx):List Addr:=ID X.outer
def Gq(a:Scope)(x:Str):Prop:=a.names.lookup x=some .local\/a.names.lookup x=some .cell\/a.names.lookup x=some .free
def PX(a:Scope)(x:Str):Prop:=a.names.lookup x=some .local\/a.names.lookup x=some .cell
def Lh(env:Env)(h:Heap)(m:Str->Option Value)(x:Str)(u:Value):Prop:=
 (env.kindOf x=some .local/\m x=some u)\/((env.kindOf x=some .cell\/env.kindOf x=some .free)/\∃c,env.cells.lookup x=some c/\h.IsCell c (some u))
def Tb(H:Hp):Prop:=∀P,tabA=some P->∃a,H P=some (.tbl a)
structure Cx.Ok(X:Cx):Prop where
 mod:Mod X.K X.mg X.base
 kind:X.env.scope.kind=.function
 glob:X.env.globals=iV
 blt:X.env.builtins=u6
 above:X.s₀.heap.objs.size<=X.env.locals
 inj:∀x y c,X.env.cells.lookup x=some c->X.env.cells.lookup y=some c->x=y
 has:∀x,(X.env.kindOf x=some .cell\/X.env.kindOf x=some .free)->∃c,X.env.cells.lookup x=some c
 cab:∀x c,X.fn x=true->X.env.cells.lookup x=some c->X.s₀.heap.objs.size<=c
 hd:X.calm=true->X.A.handled=none
 frames:X.A.frames=some X.stack
 stk:X.stack=X.outer\/(X.stack=X.env::X.outer/\X.env.frame=some X.env.locals)
 exf:∀b∈X.ex,b≠X.env.locals/\∀x c,X.env.cells.lookup x=some c->c≠b
 bs:∀b o,X.base.get? b=some o->X.s₀.heap.get? b=some o/\X.H₀ b=none
 bsz:X.base.objs.size<=X.s₀.heap.objs.size
 noex:∀b o,X.base.get? b=some o->b∉X.ex
 exfs:∀b∈X.ex,b∉X.fs
 funs:X.s₀.heap.FunFrames X.base X.outer
 frf:∀b∈X.fs,X.H₀ b=none
 tab:Tb X.H₀
structure eL(X:Cx)(pins:List (Addr×Obj))(σ:List (Option V))(H:Hp)(s:Shared):Prop where
 ok:X.Ok
 os:s.os=X.s₀.os
 bare:ao s.gens
 base:Un X.fs X.ex X.H₀ H X.s₀.heap s.heap
 loc:∃m,s.heap.Ns X.env.locals m/\∀(i:Nat)(x:Str)(v:V),X.N[i]?=some x->σ[i]?=some (some v)->Gq X.env.scope x->∃u,jM v u/\Lh X.env s.heap m x u
 cell:∀x c,X.env.cells.lookup x=some c->∃v,s.heap.IsCell c v
 free:H X.env.locals=none
 freeC:∀x c,X.env.cells.lookup x=some c->H c=none
 pin:∀p∈X.pn++pins,s.heap.get? p.1=some p.2/\H p.1=none/\p.1≠X.env.locals/\p.1∉X.fs/\∀v,p.2.data≠.cell v
 hok:wD X.prog X.w H s.heap
 len:σ.length=X.N.length
section
variable{X:Cx}{f:List (Addr×Obj)}{g:List (Option V)}{H H':Hp}{s:Shared}{h':Heap}
def Cx.Ok.nofr(ok:X.Ok){b:Addr}(e:X.base.get? b=some o):b∉X.fs:=λa=>by
 have:=(ok.funs.mem a).1;rw[e]at this;cases this
theorem eL.bs(I:eL X f g H s):∀b o,X.base.get? b=some o->s.heap.get? b=some o/\H b=none:=λb o e=>
 ⟨I.base.keep b o (I.ok.bs b o e).1 (I.ok.bs b o e).2 (I.ok.nofr e) (I.ok.noex b o e),I.base.free b o (I.ok.bs b o e).1 (I.ok.bs b o e).2 (I.ok.noex b o e)⟩
def eL.bk(I:eL X f g H s):∀b o,X.base.get? b=some o->s.heap.get? b=some o:=λb o e=>(I.bs b o e).1
theorem eL.mod(I:eL X f g H s):Mod X.K X.mg X.base:=I.ok.mod
def eL.kIn(I:eL X f g H s):X.K.In s.heap:=I.ok.mod.kin.keeps I.bk
theorem eL.nolimit(I:eL X f g H s):s.heap.NoLimit:=I.ok.mod.nolimit.keeps I.bk
theorem eL.lt(I:eL X f g H s):X.env.locals<s.heap.objs.size:=let ⟨_,hn,_⟩:=I.loc;hn.lt
def eL.sz(I:eL X f g H s):X.s₀.heap.objs.size<=s.heap.objs.size:=bP I.ok.above (jT I.lt)
def eL.nofs(I:eL X f g H s){a:Addr}(h:s.heap.objs.size<=a):a∉X.fs:=λb=>by
 obtain⟨_,o,c,_⟩:=I.ok.funs.mem b;exact c8 (dF (bE c) (bP I.sz h)) (iG _)
def eL.cne(I:eL X f g H s):∀x c,X.env.cells.lookup x=some c->c≠X.env.locals:=λx c e z=>by
 obtain⟨v,o,d,hd⟩:=I.cell x c e;obtain⟨m,⟨j,i,h,b,a,_⟩,_⟩:=I.loc;rw[z,b]at d;cases d;rw[a]at hd;cases hd
theorem eL.funs(I:eL X f g H s):s.heap.FunFrames X.base X.outer:=by
 have all:∀l,(∀b∈ID l,b∈X.fs)->X.s₀.heap.FunFrames X.base l->s.heap.FunFrames X.base l:=by
  intro l
  induction l with
  |nil=>intro _ _;trivial
  |cons env r m=>
   intro hs h;obtain⟨hk,⟨L,o,d,i,j,hd⟩,k⟩:=h;have a:L∈X.fs:=hs L (by unfold ID;rw[pW,d];exact aP);obtain⟨n,e⟩:=I.base.slot L o j (I.ok.frf L a) a λz=>I.ok.exfs L z a;exact⟨hk,⟨L,_,d,i,e,hd⟩,m (λb c=>hs b (by unfold ID;rw[pW,d];exact aK _ c)) k⟩
 exact all X.outer (λ_ c=>c) I.ok.funs
theorem eL.stack(I:eL X f g H s):s.heap.FunFrames X.base X.stack:=by
 rcases I.ok.stk with e | ⟨e,a⟩
 ·rw[e];exact I.funs
 ·rw[e];obtain⟨m,b,_⟩:=I.loc;refine .cons (by rw[I.ok.kind];decide) a b ?_ I.funs;exact Heap.get?_none_of_le (bP I.ok.bsz I.ok.above)
def eL.stkSub(I:eL X f g H s):∀b∈ID X.stack,b∈X.env.locals::X.fs:=λb a=>by
 rcases I.ok.stk with e | ⟨e,c⟩
 ·rw[e]at a;exact aK _ a
 ·rw[e]at a;unfold ID at a;rw[pW,c]at a;exact a
def eL.stkFree(I:eL X f g H s):∀b∈ID X.stack,H b=none:=λb hb=>by
 rcases bA.mp (I.stkSub b hb)with e | hb
 ·rw[e];exact I.free
 ·obtain⟨_,o,a,_⟩:=I.ok.funs.mem hb;exact I.base.free b o a (I.ok.frf b hb) λz=>I.ok.exfs b z hb
def eL.step{g':Array GenState}{t':Nat}{d':Drawn}{ch:List Addr}(I:eL X f g H s)
  (j:∀b∈ch,(b∈X.ex\/X.s₀.heap.objs.size<=b)/\b≠X.env.locals/\(∀x c,X.env.cells.lookup x=some c->c≠b)/\∀p∈X.pn++f,p.1≠b)
  (keep:∀b o,b≠X.env.locals->b∉X.fs->b∉ch->s.heap.get? b=some o->H b=none->h'.get? b=some o)
  (slot:∀b o,b≠X.env.locals->b∈X.fs->b∉ch->s.heap.get? b=some o->H b=none->∃L,h'.get? b=some { o with slots:=L }) (free:∀b o,b∉ch->s.heap.get? b=some o->H b=none->H' b=none)
  (there:∀b o,b∉ch->s.heap.get? b=some o->∃J,h'.get? b=some J)
  (tups:∀b B,H b=some (.tup B)->H' b=some (.tup B)) (frzs:∀b o u,H b=some (.frz o u)->H' b=some (.frz o u)) (tbls:∀b K,H b=some (.tbl K)->∃more,H' b=some (.tbl (K++more)))
  (ns:∀m,s.heap.Ns X.env.locals m->h'.Ns X.env.locals m) (hok:wD X.prog X.w H' h') (R:ao g') :
  eL X f g H' { s with heap:=h',gens:=g',drawn:=d',toks:=t' }:=by
 have G:∀b o,X.s₀.heap.get? b=some o->b≠X.env.locals:=λb o e=>bV (dF (bE e) I.ok.above)
 have A:∀b o,X.s₀.heap.get? b=some o->b∉X.ex->b∉ch:=λb o e a C=>by
  rcases(j b C).1 with z | z
  ·exact a z
  ·exact c8 (dF (bE e) z) (iG _)
 have h:∀x c,X.env.cells.lookup x=some c->∀v,s.heap.IsCell c v->h'.IsCell c v:=λx c e v ⟨o,E,hd⟩=>by
  have t:c∉ch:=λz=>(j c z).2.2.1 x c e Fx;by_cases N:c∈X.fs
  ·obtain⟨L,q⟩:=slot c o (I.cne x c e) N t E (I.freeC x c e);exact⟨_,q,hd⟩
  ·exact⟨o,keep c o (I.cne x c e) N t E (I.freeC x c e),hd⟩
 refine⟨I.ok,I.os,R,⟨λb o e n C a=>?_,λb o e n C a=>?_,λb o e n a=>?_,λb o e a=>?_,λb B e=>tups b B (I.base.tups b B e),λb o B e=>frzs b o B (I.base.frzs b o B e),λb K e=>?_⟩,?_,λx c e=>?_,?_,λx c e=>?_,λp O=>?_,hok,I.len⟩
 ·exact keep b o (G b o e) C (A b o e a) (I.base.keep b o e n C a) (I.base.free b o e n a)
 ·obtain⟨L,y⟩:=I.base.slot b o e n C a;obtain⟨M,F⟩:=slot b _ (G b o e) C (A b o e a) y (I.base.free b o e n a);exact⟨M,F⟩
 ·obtain⟨J,y⟩:=I.base.there b o e a;exact free b J (A b o e a) y (I.base.free b o e n a)
 ·obtain⟨J,y⟩:=I.base.there b o e a;exact there b J (A b o e a) y
 ·obtain⟨U,y⟩:=I.base.tbls b K e;obtain⟨W,F⟩:=tbls b _ y;exact⟨U++W,by rw[F,P3]⟩
 ·obtain⟨m,T,S⟩:=I.loc;refine⟨m,ns m T,λi x v y F Q=>?_⟩;obtain⟨u,r,l⟩:=S i x v y F Q;refine⟨u,r,?_⟩;rcases l with l | ⟨k,c,e,z⟩
  ·exact .inl l
  ·exact .inr ⟨k,c,e,h x c e _ z⟩
 ·obtain⟨v,z⟩:=I.cell x c e;exact⟨v,h x c e v z⟩
 ·obtain⟨m,⟨o,_,_,E,_⟩,_⟩:=I.loc;exact free _ o (λz=>(j _ z).2.1 Fx) E I.free
 ·obtain⟨v,o,E,hd⟩:=I.cell x c e;exact free c o (λz=>(j c z).2.2.1 x c e Fx) E (I.freeC x c e)
 ·obtain⟨e,n,ne,P,d⟩:=I.pin p O;have t:p.1∉ch:=λz=>(j p.1 z).2.2.2 p O Fx;exact⟨keep p.1 p.2 ne P t e n,free p.1 p.2 t e n,ne,P,d⟩
def eL.un{t':Nat}(I:eL X f g H s)(u:Un X.fs [] H H' s.heap h')(hok:wD X.prog X.w H' h'):eL X f g H' { s with heap:=h',toks:=t' }:=by
 obtain⟨m,⟨o,q,p,i,r⟩,_⟩:=id I.loc;obtain⟨x,j⟩:=u.any i I.free Fv
 exact I.step (g':=s.gens) (d':=s.drawn) (ch:=[]) (λ_ z=>nomatch z) (λb o _ h _ e n=>u.keep b o e n h Fv) (λb o _ h _ e n=>u.slot b o e n h Fv) (λb o _ e n=>u.free b o e n Fv) (λb o _ e=>u.there b o e Fv) u.tups u.frzs u.tbls (λt k=>by
  obtain⟨v,d,c,a,l⟩:=k;rw[i]at a;cases a;exact⟨_,d,c,j,l⟩) hok I.bare
def eL.call{g':Array GenState}{t':Nat}{d':Drawn}{ch:List Addr}(I:eL X f g H s)(u:Un (ID X.stack) ch H H' s.heap h')(hok:wD X.prog X.w H' h')(t:ao g')
  (d:∀b∈ch,(b∈X.ex\/X.s₀.heap.objs.size<=b)/\b≠X.env.locals/\(∀x c,X.env.cells.lookup x=some c->c≠b)/\∀p∈X.pn++f,p.1≠b) :
  eL X f g H' { s with heap:=h',gens:=g',drawn:=d',toks:=t' }:=by
 obtain⟨m,⟨o,B,A,l,r⟩,_⟩:=id I.loc;obtain⟨F,k⟩:=u.any l I.free λz=>(d _ z).2.1 Fx
 exact I.step (ch:=ch) d (λb o k q a e n=>u.keep b o e n (λz=>(bA.mp (I.stkSub b z)).elim k q) a) (λb o _ _ a e n=>u.any e n a) (λb o a e n=>u.free b o e n a) (λb o a e=>u.there b o e a) u.tups u.frzs u.tbls (λC v=>by
  obtain⟨E,j,i,h,y⟩:=v;rw[l]at h;cases h;exact⟨_,j,i,k,y⟩) hok t
def eL.turned{t':Nat}{a:Addr}(I:eL X f g H s)(k:∀b o,b≠a->s.heap.get? b=some o->h'.get? b=some o)(C:H a=none)(i:a≠X.env.locals)
  (t:a∈X.ex\/X.s₀.heap.objs.size<=a) (w:∀x c,X.env.cells.lookup x=some c->c≠a) (y:∀p∈X.pn++f,p.1≠a):eL X f g H { s with heap:=h',toks:=t' }:=by
 have h:∀b u,H b=some u->b≠a:=λb u e z=>by rw[z,C]at e;cases e
 refine I.step (g':=s.gens) (d':=s.drawn) (ch:=[a]) (λb A=>?_) (λb o _ _ d e _=>k b o (λz=>d (by simp[z])) e) (λb o _ _ d e _=>⟨o.slots,k b o (λz=>d (by simp[z])) e⟩) (λ_ _ _ _ n=>n)
  (λb o d e=>⟨o,k b o (λz=>d (by simp[z])) e⟩) (λ_ _ e=>e) (λ_ _ _ e=>e) (λb F e=>⟨#[],by rw[e];simp⟩) (λm B=>?_) (λb u e=>?_) I.bare
 ·have e:b=a:=by simpa using A
  subst e;exact⟨t,i,w,y⟩
 ·obtain⟨o,l,j,E,r⟩:=B;exact⟨o,l,j,k _ o (j9 i) E,r⟩
 ·refine(I.hok b u e).stay (λc v d q=>k c v ?_ q) (λ_ q=>q) λ_ _ q=>q;rcases d with z | z
  ·rw[z];exact h b u e
  ·exact h c _ z
def eL.tok(I:eL X f g H s)(t:Nat):eL X f g H { s with toks:=t }:=I.un (h':=s.heap) (t':=t) Un.refl I.hok
theorem eL.kept{t':Nat}(I:eL X f g H s)(k:∀b u,s.heap.get? b=some u->h'.get? b=some u):eL X f g H { s with heap:=h',toks:=t' }:=I.un (Un.kept k) (I.hok.kept k)
theorem eL.laid{a:Addr}{t':Nat}(I:eL X f g H s)(k:∀b u,s.heap.get? b=some u->h'.get? b=some u)(c:s.heap.objs.size<=a)(new:mH X.prog X.w (iA H a o) h' a o) :
  eL X f g (iA H a o) { s with heap:=h',toks:=t' }:=I.un (Un.laid k c (I.hok.fresh c)) (I.hok.laid k c new)
theorem eL.write{x e:Addr}{t':Nat}(I:eL X f g H s)(mu:Hd (H x))(c:e=x\/H e=some (.own x))(k:∀b u,b≠e->s.heap.get? b=some u->h'.get? b=some u)(a:∃u,h'.get? e=some u)
  (new:mH X.prog X.w (iA H x o) h' x o):eL X f g (iA H x o) { s with heap:=h',toks:=t' }:=I.un (Un.write mu c k a) (I.hok.write mu c k a new)
def eL.pins_of(I:eL X f g H s)(h:∀p∈pins',s.heap.get? p.1=some p.2/\H p.1=none/\p.1≠X.env.locals/\p.1∉X.fs/\∀v,p.2.data≠.cell v):eL X pins' g H s:=
 ⟨I.ok,I.os,I.bare,I.base,I.loc,I.cell,I.free,I.freeC,λp a=>(cR.mp a).elim (λz=>I.pin p (oY _ z)) (h p),I.hok,I.len⟩
def HP{N:List Str}(e:N.Nodup){i j:Nat}(a:N[i]?=some x)(b:N[j]?=some x):i=j:=by
 obtain⟨h,c⟩:=aC.mp a;obtain⟨k,d⟩:=aC.mp b;exact(VF e).mp (c.trans d.symm)
def DP{E:Value->Shared->Prop}{i:Nat}{Q:Unit->Shared->Prop}(I:eL X f g H s)(hN:X.N.Nodup)(S:X.N[i]?=some x)(B:PX X.env.scope x)(r:jM v u)
  (h:∀s',eL X f (g.set i (some v)) H s'->(∃a,dY a s.heap s'.heap/\(a=X.env.locals\/X.env.cells.lookup x=some a))->Q () s') (hf:X.fn x=true\/X.env.scope.names.lookup x=some .local:=by first | exact .inl Fx | exact .inr Fx | assumption):wpAny M A (storeName X.env x u) Q E s:=by
 obtain⟨m,hn,hl⟩:=id I.loc;have R:(X.env.scope.kind==.class||(X.env.scope.kind==.module&&X.env.locals != X.env.globals))=false:=by rw[I.ok.kind];rfl
 have G:i<g.length:=by rw[I.len];exact(aC.mp S).1
 have cne:=I.cne
 have t:∀{a:Addr}{h':Heap},(∃o,s.heap.get? a=some o/\H a=none)->dY a s.heap h'->wD X.prog X.w H h':=λ{a h'} ha hs b ob e=>by
  obtain⟨_,_,C⟩:=ha;refine(I.hok b ob e).stay (λc Y hc q=>(hs.2 c ?_).trans q) (λ_ q=>q) λ_ _ q=>q;rintro rfl;rcases hc with rfl | hc
  ·rw[C]at e;cases e
  ·rw[C]at hc;cases hc
 rcases B with hk | hk
 ·refine wpAny_storeName_local hk hn (λh' Cn hs=>?_) R;obtain⟨oL,_,_,Cp,_⟩:=id hn;refine h _ ⟨I.ok,I.os,I.bare,⟨λb o e n J B=>?_,λb o e n J B=>?_,I.base.free,λb o e B=>?_,I.base.tups,I.base.frzs,I.base.tbls⟩,⟨_,Cn,λj y v' l F Z=>?_⟩,λy c e=>?_,I.free,I.freeC,λp hp=>?_,t ⟨oL,Cp,I.free⟩ hs,by simpa using I.len⟩ ⟨_,hs,.inl Fx⟩
  ·exact(hs.2 b (bV (dF (bE e) I.ok.above))).trans (I.base.keep b o e n J B)
  ·obtain⟨sl,l⟩:=I.base.slot b o e n J B;exact⟨sl,(hs.2 b (bV (dF (bE e) I.ok.above))).trans l⟩
  ·obtain⟨o',l⟩:=I.base.there b o e B;exact⟨o',(hs.2 b (bV (dF (bE e) I.ok.above))).trans l⟩
  ·by_cases L:j=i
   ·subst L;rw[S]at l;cases l;rw[bG G]at F;cases F;exact⟨u,r,.inl ⟨hk,Fv⟩⟩
   ·rw[bH (j9 L)]at F;obtain⟨u',r',q⟩:=hl j y v' l F Z;refine⟨u',r',?_⟩;rcases q with⟨k,e⟩ | ⟨k,c,e,z⟩
    ·refine .inl ⟨k,?_⟩;have:y≠x:=λe=>L (HP hN l (e▸S));simp[this,e]
    ·exact .inr ⟨k,c,e,z.sameBut hs (cne y c e)⟩
  ·obtain⟨Y,z⟩:=I.cell y c e;exact⟨Y,z.sameBut hs (cne y c e)⟩
  ·obtain⟨e,n,ne,nf,d⟩:=I.pin p hp;exact⟨(hs.2 p.1 ne).trans e,n,ne,nf,d⟩
 ·have K:X.fn x=true:=by
   rcases hf with z | z
   ·exact z
   ·rw[z]at hk;cases hk
  obtain⟨c,hc⟩:=I.ok.has x (.inl hk);obtain⟨Y,z⟩:=I.cell x c hc;refine wpAny_storeName_cell I.ok.kind hk hc z (λh' O hs=>?_);obtain⟨oc,T,U⟩:=id z;refine h { s with heap:=h' } ⟨I.ok,I.os,I.bare,⟨λb o e n J B=>?_,λb o e n J B=>?_,I.base.free,λb o e B=>?_,I.base.tups,I.base.frzs,I.base.tbls⟩,⟨m,hn.sameBut hs (j9 (cne x c hc)),λj y v' l F Z=>?_⟩,λy W e=>?_,I.free,I.freeC,λp hp=>?_,t ⟨oc,T,I.freeC x c hc⟩ hs,by simpa using I.len⟩ ⟨c,hs,.inr hc⟩
  ·exact(hs.2 b (bV (dF (bE e) (I.ok.cab x c K hc)))).trans (I.base.keep b o e n J B)
  ·obtain⟨sl,l⟩:=I.base.slot b o e n J B;exact⟨sl,(hs.2 b (bV (dF (bE e) (I.ok.cab x c K hc)))).trans l⟩
  ·obtain⟨o',l⟩:=I.base.there b o e B;exact⟨o',(hs.2 b (bV (dF (bE e) (I.ok.cab x c K hc)))).trans l⟩
  ·by_cases L:j=i
   ·subst L;rw[S]at l;cases l;rw[bG G]at F;cases F;exact⟨u,r,.inr ⟨.inl hk,c,hc,O⟩⟩
   ·rw[bH (j9 L)]at F;obtain⟨u',r',q⟩:=hl j y v' l F Z;refine⟨u',r',?_⟩;rcases q with q | ⟨k,W,e,z'⟩
    ·exact .inl q
    ·refine .inr ⟨k,W,e,z'.sameBut hs ?_⟩;rintro rfl;exact L (HP hN l (I.ok.inj _ _ _ e hc▸S))
  ·by_cases P:W=c
   ·subst P;exact⟨_,O⟩
   ·obtain⟨w2,z2⟩:=I.cell y W e;exact⟨w2,z2.sameBut hs P⟩
  ·obtain⟨e,n,ne,nf,d⟩:=I.pin p hp;refine⟨(hs.2 p.1 ?_).trans e,n,ne,nf,d⟩;intro q;rw[q,T]at e;have q':oc=p.2:=c7 e;exact d Y (by rw[<- q'];exact U)
def A5{E:Value->Shared->Prop}{i:Nat}{Q:Unit->Shared->Prop}(I:eL X f g H s)(c:X.N.Nodup)(e:X.N[i]?=some x)(j:PX X.env.scope x)(r:jM v u)
  (h:∀a,eL X f (g.set i (some v)) H a->Q () a) (d:X.fn x=true\/X.env.scope.names.lookup x=some .local:=by first | exact .inl Fx | exact .inr Fx | assumption):wpAny M A (storeName X.env x u) Q E s:=
 DP I c e j r (λa b _=>h a b) d
def eL.call'{s':Shared}(I:eL X f g H s)(h:s'.os=s.os)(u:Un (ID X.stack) ch H H' s.heap s'.heap)(hok:wD X.prog X.w H' s'.heap)(d:ao s'.gens)
  (a:∀b∈ch,(b∈X.ex\/X.s₀.heap.objs.size<=b)/\b≠X.env.locals/\(∀x c,X.env.cells.lookup x=some c->c≠b)/\∀p∈X.pn++f,p.1≠b):eL X f g H' s':=by
 obtain⟨h',g',d',t',i⟩:=s';have e:i=s.os:=h;subst e;exact I.call (g':=g') (t':=t') (d':=d') u hok d a
end
abbrev XK:=Value->Option Addr->Hp->Prop
abbrev St:=List (Option V)
abbrev VK:=V->Hp->Prop
abbrev TE:=St->Hp->VK->Prop
abbrev TT:=St->Hp->(Bool->Hp->Prop)->Prop
abbrev TA:=St->Hp->(List V->Hp->Prop)->Prop
structure JC where
 nx:St->Hp->Prop
 rt:VK
 bk:St->Hp->Prop:=λ_ _=>False
 ct:St->Hp->Prop:=λ_ _=>False
abbrev TS:=JC->St->Hp->Prop
def EP(X:Cx)(a:List (Addr×Obj))(d:St)(Q:VK)(u:Value)(c:Shared):Prop:=∃v b,eL X a d b c/\jM v u/\Q v b
def TP(X:Cx)(a:List (Addr×Obj))(e:St)(Q:Bool->Hp->Prop)(b:Bool)(d:Shared):Prop:=∃c,eL X a e c d/\Q b c
def AP(X:Cx)(a:List (Addr×Obj))(e:St)(Q:List V->Hp->Prop)(d:List Value)(c:Shared):Prop:=∃vs b,eL X a e b c/\gO vs d/\Q vs b
def SP(X:Cx)(b:List (Addr×Obj))(D:JC)(f:Flow)(d:Shared):Prop:=
 match f with
 |.next=>∃a c,eL X b a c d/\D.nx a c
 |.brk=>∃a c,eL X b a c d/\D.bk a c
 |.cont=>∃a c,eL X b a c d/\D.ct a c
 |.ret u=>∃v a c,eL X b a c d/\jM v u/\D.rt v c
def PE(X:Cx)(e:Expr)(t:TE):Prop:=
 ∀a s b H Q,eL X a b H s->t b H Q->wpAny (model X.prog X.w) X.A (eval e X.env) (EP X a b Q) X.xe s
def PT(X:Cx)(e:Expr)(t:TT):Prop:=
 ∀pins s σ H(Q:Bool->Hp->Prop),eL X pins σ H s->t σ H Q->wpAny (model X.prog X.w) X.A (isTrue e X.env (eval e X.env)) (TP X pins σ Q) X.xe s
def PW(X:Cx)(e:Expr)(t:TT):Prop:=
 ∀(whole:Sem Value)pins s σ H(Q:Bool->Hp->Prop),eL X pins σ H s->t σ H Q->wpAny (model X.prog X.w) X.A (isTrue e X.env whole) (TP X pins σ Q) X.xe s
def PW.pt{e}(h:PW X e t):PT X e t:=h _
def PA(X:Cx)(a:List Expr)(t:TA):Prop:=
 ∀(pos:Pos)pins s σ H(Q:List V->Hp->Prop),eL X pins σ H s->t σ H Q->wpAny (model X.prog X.w) X.A (spliced (r4 pos (cS a X.env))) (AP X pins σ Q) X.xe s
def PS(X:Cx)(st:Stmt)(t:TS):Prop:=
 ∀pins s σ H(D:JC),eL X pins σ H s->t D σ H->wpAny (model X.prog X.w) X.A (exec st X.env) (SP X pins D) X.xe s
def CW(X:Cx)(st:List Stmt)(t:TS):Prop:=
 ∀pins s σ H(D:JC),eL X pins σ H s->t D σ H->wpAny (model X.prog X.w) X.A (execs st X.env) (SP X pins D) X.xe s
def lK{d:Type}{t}{Q b:d->Shared->Prop}{M A}{E:Value->Shared->Prop}{s}(h:wpAny M A t Q E s)(c:∀a s,Q a s->b a s):wpAny M A t b E s:=iE h c λ_ _ x=>x
section
variable{X:Cx}
def A3(i:Nat):TE:=λa H Q=>∃v,a[i]?=some (some v)/\Q v H
def tC(v:V):TE:=λ_ H Q=>Q v H
def RT{i:Nat}{x:Str}(g:X.N[i]?=some x)(o:Gq X.env.scope x)(hd:(x==("__debug__":Str))=false:=by decide)(d:(x==("__classdict__":Str))=false:=by decide):PE X (.Name x pos) (A3 i):=by
 intro b s p H Q I h;obtain⟨v,e,h⟩:=h;obtain⟨m,n,j⟩:=I.loc;obtain⟨u,r,l⟩:=j i x v g e o;have fin:EP X b p Q u s:=⟨v,H,I,r,h⟩;rcases l with⟨hk,k⟩ | ⟨hk,c,f,a⟩
 ·exact tf (qv I.ok.kind hk n k fin) hd
 ·rcases hk with hk | hk
  ·exact tf (rz I.ok.kind hk f a fin) hd
  ·exact tf (wpAny_loadName_free I.ok.kind hk f a fin d) hd
def yG:PE X (.Constant (.int i) j pos) (tC (.int i)):=λ_ _ _ H _ I h=>wpAny_Constant_int ⟨.int i,H,I.tok _,⟨_,Fx⟩,h⟩
def Pm:PE X (.Constant (.bool b) j pos) (tC (.bl b)):=λ_ _ _ H _ I h=>Constant_bool ⟨.bl b,H,I,Fx,h⟩
def Xn:PE X (.Constant .none j pos) (tC .non):=λ_ _ _ H _ I h=>Constant_none ⟨.non,H,I,Fx,h⟩
def Xp:PE X (.Constant (.str x) j pos) (tC (.str x)):=λ_ _ _ H _ I h=>Calls.Constant_str ⟨.str x,H,I.tok _,⟨_,Fx⟩,h⟩
def Gl(X:Cx)(x:Str):Prop:=X.env.kindOf x=some .globalImplicit
def MI{E:Value->Shared->Prop}{x:Str}{Q:Value->Shared->Prop}(I:eL X pins σ H s)(a:Gl X x)(b:X.mg x=some u)(h:Q u s)
  (hd:(x==("__debug__":Str))=false:=by decide):wpAny (model X.prog X.w) X.A (eval (.Name x pos) X.env) Q E s:=
 de I.ok.kind a (Calls.loadGlobal_global (by rw[I.ok.glob];exact I.mod.glob.keeps I.bk) b h) hd
def tT{E:Value->Shared->Prop}{x:Str}{Q:Value->Shared->Prop}(I:eL X pins σ H s)(c:Gl X x)(d:X.mg x=none)(f:f6 x=some u)(h:Q u s)
  (e:x≠"__name__":=by decide) (hd:(x==("__debug__":Str))=false:=by decide):wpAny (model X.prog X.w) X.A (eval (.Name x pos) X.env) Q E s:=by
 obtain⟨g,a,b⟩:=I.mod.blt;exact de I.ok.kind c (Calls.loadGlobal_builtin (by rw[I.ok.glob];exact I.mod.glob.keeps I.bk) d (by rw[I.ok.blt];exact a.keeps I.bk) ((b x e).trans f) h) hd
def L6{x:Str}(a:Gl X x)(b:X.mg x=some u)(r:jM v u)(hd:(x==("__debug__":Str))=false:=by decide):PE X (.Name x pos) (tC v):=
 λ_ _ _ H _ I h=>MI I a b ⟨v,H,I,r,h⟩ hd
variable{a b:Expr}{k n:TE}{pos:Pos}
def tB(t:TE):TT:=λe H Q=>t e H λx d=>∃c,x=.bl c/\Q c d
def Xv{e:Expr}(h:PE X e t)(i:∀whole,isTrue e X.env whole=(do let v <- whole;standAt e.pos;uf [v] (truthy v)):=by intro _;rfl):PT X e (tB t):=by
 intro c s o H Q I hw;refine isTrue_plain (lK (h c s o H _ I hw) λv p m=>?_) (i _);obtain⟨x,f,g,l,j⟩:=m;obtain⟨d,rfl,q⟩:=j;cases l;exact v9 ⟨f,g,q⟩
variable{f g:TT}{jX:List Expr}
def Mu(t u:TT):TT:=λe H Q=>t e H λc d=>if c=true then u e d Q else Q false d
def Ku(t u:TT):TT:=λe H Q=>t e H λc d=>if c=true then Q true d else u e d Q
def Mx(t:TT):TT:=λe H Q=>t e H λc d=>Q (!c) d
def WE(i:PT X a f):PW X (.BoolOp .And [a] pos) f:=by
 intro m d s j H Q I h;refine isTrue_and (lK (i d s j H Q I h) λc l e=>?_)
 cases c with
 |true=>exact isTrue_and_nil e
 |false=>exact e
def Xx(i:PT X a f):PW X (.BoolOp .Or [a] pos) f:=by
 intro m d s j H Q I h;refine isTrue_or (lK (i d s j H Q I h) λc l e=>?_)
 cases c with
 |false=>exact isTrue_or_nil e
 |true=>exact e
def Xw(m:PT X a f)(o:PW X (.BoolOp .And (b::jX) pos) g):PW X (.BoolOp .And (a::b::jX) pos) (Mu f g):=by
 intro q d s l H Q I h;refine isTrue_and (lK (m d s l H _ I h) λc p r=>?_);obtain⟨e,i,j⟩:=r
 cases c with
 |true=>exact o q d p l e Q i j
 |false=>exact⟨e,i,j⟩
def Pp(m:PT X a f)(o:PW X (.BoolOp .Or (b::jX) pos) g):PW X (.BoolOp .Or (a::b::jX) pos) (Ku f g):=by
 intro q d s l H Q I h;refine isTrue_or (lK (m d s l H _ I h) λc p r=>?_);obtain⟨e,i,j⟩:=r
 cases c with
 |true=>exact⟨e,i,j⟩
 |false=>exact o q d p l e Q i j
def Xu(i:PT X a f):PT X (.UnaryOp .Not a pos) (Mx f):=by
 intro d s j H Q I h;exact isTrue_not (i d s j H (λc e=>Q (!c) e) I h)
def Vj(k n:TE):TE:=λe H Q=>k e H λx d=>∃c,x=.bl c/\if c=true then n e d Q else Q (.bl false) d
def Xo(h:PE X a t):PE X (.BoolOp op [a] pos) t:=λc s d H Q I hw=>BoolOp_one (h c s d H Q I hw)
def Xk(m:PE X a k)(o:PE X (.BoolOp .And (b::jX) pos) n):PE X (.BoolOp .And (a::b::jX) pos) (Vj k n):=by
 intro d s l H Q I h;refine BoolOp_and (lK (m d s l H _ I h) λv q r=>?_);obtain⟨x,i,j,p,e⟩:=r;obtain⟨c,rfl,e⟩:=e;cases p;refine v9 ?_
 cases c with
 |true=>exact o d q l i Q j e
 |false=>exact⟨.bl false,i,j,Fx,e⟩
def Kv(t:TT)(k n:TE):TE:=λd H Q=>t d H λc e=>if c=true then k d e Q else n d e Q
def RX(r:PT X c f)(p:PE X a k)(q:PE X b n):PE X (.IfExp c a b pos) (Kv f k n):=by
 intro e s i H Q I h;refine wpAny_IfExp (lK (r e s i H _ I h) λd o t=>?_);obtain⟨j,l,m⟩:=t
 cases d with
 |true=>exact p e o i j Q l m
 |false=>exact q e o i j Q l m
end
def mT(K:aQ)(H:Hp)(a:Addr)(c:List V):Prop:=
 Rd H a (.lst c) \/
  ∃(o:Obj)(b:Array Value)(n:Nat),K.lookup a=some o/\o.cls=.type "list"/\o.dict=none/\o.data=.seq b n/\b.size<=bO/\gO c b.toList
def pG(K:aQ)(H:Hp)(a:Addr)(c:List V):Prop:=
 Rd H a (.tup c) \/
  ∃(o:Obj)(b:Array Value)(n:Nat),K.lookup a=some o/\o.cls=.type "tuple"/\o.dict=none/\o.data=.seq b n/\b.size<=bO/\gO c b.toList
noncomputable def Lj:Value->Option V
|.none=>some .non
|.bool b=>some (.bl b)
|.int i _=>some (.int i)
|.str x _=>some (.str x)
|.bytes b _=>some (.byt b)
|.float b _=>some (.flt b)
|.ref a=>some (.ref a)
|.type n=>some (.ty n)
|_=>none
def jM.abs(r:jM x u):Lj u=some x:=by
 cases x with
 |non=>cases r;rfl
 |bl _=>cases r;rfl
 |int _=>obtain⟨t,rfl⟩:=r;rfl
 |str _=>obtain⟨t,rfl⟩:=r;rfl
 |byt _=>obtain⟨t,rfl⟩:=r;rfl
 |flt _=>obtain⟨t,rfl⟩:=r;rfl
 |ref _=>cases r;rfl
 |ty _=>cases r;rfl
theorem jM.inj(r:jM x u)(q:jM y u):x=y:=c7 (r.abs.symm.trans q.abs)
theorem gO.inj:∀{xs ys us},gO xs us->gO ys us->xs=ys
|_,_,_,.nil,.nil=>rfl
|_,_,_,.cons r t,.cons r' t'=>by rw[r.inj r',gO.inj t t']
section
variable{X:Cx}{b:List (Addr×Obj)}{g:St}{H:Hp}{s:Shared}{a:Addr}{f i:List V}
def mT.of{K}(h:H a=some (.lst f)):mT K H a f:=.inl (.inl h)
def pG.of{K}(h:H a=some (.tup f)):pG K H a f:=.inl (.inl h)
def eL.list(I:eL X b g H s)(h:mT X.K H a f):∃c:List Value,gO f c/\PlainL s.heap a c.toArray/\f.length<=bO:=by
 rcases h with h | ⟨o,c,n,hk,d,hd,hs,j,r⟩
 ·obtain⟨z,c,n,r,e⟩:=h.ok I.hok;exact⟨c,r,⟨_,n,e,Fx,Fx,Fx⟩,z⟩
 ·refine⟨c.toList,r,⟨o,n,I.kIn a o hk,d,hd,by simpa using hs⟩,?_⟩;have e:=r.length;simp only[dZ]at e;lia
def eL.tuple(I:eL X b g H s)(h:pG X.K H a f):∃c:List Value,gO f c/\tu s.heap a c.toArray/\f.length<=bO:=by
 rcases h with h | ⟨o,c,n,hk,d,_,hs,j,r⟩
 ·obtain⟨z,c,r,p⟩:=h.ok I.hok;exact⟨c,r,p.tup,z⟩
 ·refine⟨c.toList,r,⟨o,I.kIn a o hk,d,n,by simpa using hs⟩,?_⟩;have e:=r.length;simp only[dZ]at e;lia
def eL.tupleN(I:eL X b g H s)(h:pG X.K H a f):∃o,s.heap.get? a=some o/\o.cls=.type "tuple"/\o.dict=none:=by
 rcases h with h | ⟨o,j,n,hk,k,hd,_⟩
 ·obtain⟨z,j,r,⟨o,e,c,n,_,d⟩⟩:=h.ok I.hok;exact⟨o,e,c,d⟩
 ·exact⟨o,I.kIn a o hk,k,hd⟩
def eL.list_inj(I:eL X b g H s)(h:mT X.K H a f)(p:mT X.K H a i):f=i:=by
 obtain⟨j,r,⟨o,n,e,_,_,d⟩,_⟩:=I.list h;obtain⟨c,q,⟨u,t,l,_,_,k⟩,_⟩:=I.list p;rw[e]at l;cases l;rw[d]at k;injection k with m _
 have:j=c:=by simpa using g5 aCy m
 subst this;exact r.inj q
def eL.tuple_inj(I:eL X b g H s)(h:pG X.K H a f)(p:pG X.K H a i):f=i:=by
 obtain⟨j,r,⟨o,e,_,n,d⟩,_⟩:=I.tuple h;obtain⟨c,q,⟨u,l,_,t,k⟩,_⟩:=I.tuple p;rw[e]at l;cases l;rw[d]at k;injection k with m _
 have:j=c:=by simpa using g5 aCy m
 subst this;exact r.inj q
end
noncomputable abbrev Cx.wish(X:Cx)(E:Value->Shared->Prop):Cx:={ X with xe:=E }
noncomputable abbrev Cx.nox(X:Cx):Cx:=X.wish λ_ _=>False
theorem Cx.Ok.wish{X:Cx}(ok:X.Ok)(E:Value->Shared->Prop):(X.wish E).Ok:=
 ⟨ok.mod,ok.kind,ok.glob,ok.blt,ok.above,ok.inj,ok.has,ok.cab,ok.hd,ok.frames,ok.stk,ok.exf,ok.bs,ok.bsz,ok.noex,ok.exfs,ok.funs,ok.frf,ok.tab⟩
def Cx.Ok.unwish{X:Cx}{E:Value->Shared->Prop}(ok:(X.wish E).Ok):X.Ok:=
 ⟨ok.mod,ok.kind,ok.glob,ok.blt,ok.above,ok.inj,ok.has,ok.cab,ok.hd,ok.frames,ok.stk,ok.exf,ok.bs,ok.bsz,ok.noex,ok.exfs,ok.funs,ok.frf,ok.tab⟩
section
variable{X:Cx}{a:List (Addr×Obj)}{b:St}{H:Hp}{s:Shared}{E:Value->Shared->Prop}
theorem eL.wish(I:eL X a b H s)(E:Value->Shared->Prop):eL (X.wish E) a b H s:=⟨I.ok.wish E,I.os,I.bare,I.base,I.loc,I.cell,I.free,I.freeC,I.pin,I.hok,I.len⟩
theorem eL.unwish(I:eL (X.wish E) a b H s):eL X a b H s:=⟨I.ok.unwish,I.os,I.bare,I.base,I.loc,I.cell,I.free,I.freeC,I.pin,I.hok,I.len⟩
theorem SP.unwish{D}(h:SP (X.wish E) a D f s'):SP X a D f s':=by
 cases f with
 |next=>obtain⟨c,d,I,q⟩:=h;exact⟨c,d,I.unwish,q⟩
 |brk=>obtain⟨c,d,I,q⟩:=h;exact⟨c,d,I.unwish,q⟩
 |cont=>obtain⟨c,d,I,q⟩:=h;exact⟨c,d,I.unwish,q⟩
 |ret u=>obtain⟨v,c,d,I,r,q⟩:=h;exact⟨v,c,d,I.unwish,r,q⟩
theorem CW.nox{st}(h:CW X.nox st t):CW X st t:=λa s b H D I hw=>
 iE (h a s b H D (I.wish _) hw) (λ_ _ q=>q.unwish) λ_ _ z=>n9 z
end
section
variable{X:Cx}{st:Stmt}{jX:List Stmt}{t u:TS}{e:Expr}{g:TE}{pos:Pos}
def Vk:TS:=λD a H=>D.nx a H
def Mz(t u:TS):TS:=λD a H=>t { D with nx:=u D } a H
def L1:CW X [] Vk:=λ_ _ a H _ I h=>bo ⟨a,H,I,h⟩
def G6(i:PS X st t)(j:CW X jX u):CW X (st::jX) (Mz t u):=by
 intro a s l H D I h;refine wpAny_execs_cons (lK (i a s l H { D with nx:=u D } I h) λf k q=>?_)
 cases f with
 |next=>
  obtain⟨b,c,d,q⟩:=q;exact j a k b c D d q
 |ret v=>exact q
 |brk=>exact q
 |cont=>exact q
def FA(b:PS X st t):CW X [st] t:=by
 intro a s c H D I h;refine wpAny_execs_cons (lK (b a s c H D I h) λf d q=>?_)
 cases f with
 |next=>exact bo q
 |ret v=>exact q
 |brk=>exact q
 |cont=>exact q
def eL.quiet(I:eL X pins σ H s):interactive X.env=false:=by simp[interactive,I.ok.kind]
def QY(g:TE):TS:=λD a H=>g a H λ_ b=>D.nx a b
def jY(f:PE X e g)(hs:oF e none pos.line X.env=pure false:=by rfl):PS X (.Expr e pos) (QY g):=by
 intro a s b H D I h;exact wpAny_Expr_any (lK (f a s b H _ I h) λv k ⟨x,c,d,j,i⟩=>⟨b,c,d,i⟩) I.quiet hs
def My(g:TE):TS:=λD a H=>g a H D.rt
def yD(f:PE X e g):PS X (.Return (some e) pos) (My g):=by
 intro a s b H D I h;exact wpAny_Return_some (lK (f a s b H _ I h) λv k ⟨x,c,d,j,i⟩=>⟨x,b,c,d,j,i⟩)
def Mv(c:TT)(t u:TS):TS:=λD a H=>c a H λb d=>if b=true then t D a d else u D a d
def YI(p:PT X c tc)(n:CW X a t)(o:CW X b u):PS X (.If c a b pos) (Mv tc t u):=by
 intro f s i H D I h;refine wpAny_If (lK (p f s i H _ I h) λd m q=>?_);obtain⟨j,k,l⟩:=q
 cases d with
 |true=>exact n f m i j D k l
 |false=>exact o f m i j D k l
end
abbrev TG:=V->St->Hp->(St->Hp->Prop)->Prop
abbrev Gr:=List V->St->Hp->(St->Hp->Prop)->Prop
def PG(X:Cx)(a:Expr)(t:TG):Prop:=
 ∀pins s σ H(v:V)(u:Value)(Q:St->Hp->Prop),eL X pins σ H s->jM v u->t v σ H Q ->
  wpAny (model X.prog X.w) X.A (dt a X.env u) (λ_ d=>∃b c,eL X pins b c d/\Q b c) X.xe s
def Hc(X:Cx)(e:List Expr)(t:Gr):Prop:=
 ∀pins s σ H(vs:List V)(c:List Value)(Q:St->Hp->Prop),eL X pins σ H s->gO vs c->t vs σ H Q ->
  wpAny (model X.prog X.w) X.A (assignInOrder ((bc e X.env).map (·.2)) c) (λ_ d=>∃a b,eL X pins a b d/\Q a b) X.xe s
abbrev Im:=V->V->Hp->VK->Prop
def Kl(X:Cx)(b:Operator)(t:Im):Prop:=
 ∀pins s(a:St)H(x y:V)(v u:Value)Q,eL X pins a H s->jM x v->jM y u->t x y H Q ->
  wpAny (model X.prog X.w) X.A (inplaceOp b v u) (EP X pins a Q) X.xe s
section
variable{X:Cx}{pos:Pos}
def mV(i:Nat):TG:=λv a H Q=>Q (a.set i (some v)) H
def L4{i:Nat}(c:X.N.Nodup)(e:X.N[i]?=some x)(f:PX X.env.scope x)(d:X.fn x=true\/X.env.scope.names.lookup x=some .local:=by first | exact .inl Fx | exact .inr Fx | assumption):PG X (.Name x pos) (mV i):=by
 intro a s j H v u Q I r h;exact ui (A5 I c e f r (λg b=>⟨_,H,b,h⟩) d)
def Ia:Gr:=λvs a H Q=>vs=[]/\Q a H
def D1(t:TG)(u:Gr):Gr:=λvs c H Q=>∃v r,vs=v::r/\t v c H λa b=>u r a b Q
def iT:Hc X [] Ia:=by
 intro a s b H vs c Q I r h;obtain⟨e,h⟩:=h;subst e;cases r;exact assignInOrder_nil ⟨b,H,I,h⟩
def dH{e}(g:PG X e t)(i:Hc X es u)
  (hs:(bc (e::es) X.env).map (·.2)=dt e X.env::(bc es X.env).map (·.2):=by rfl):Hc X (e::es) (D1 t u):=by
 intro a s n H vs o Q I r h;obtain⟨v,p,f,h⟩:=h;subst f
 cases r with
 |cons r k=>
  rw[hs];refine assignInOrder_cons (lK (g a s n H _ _ _ I r h) λ_ l m=>?_);obtain⟨b,c,d,j⟩:=m;exact i a l b c _ _ Q d k j
def Ib(K:aQ)(n:Nat)(t:Gr):TG:=λv c H Q=>∃a b,v=.ref a/\pG K H a b/\b.length=n/\t b c H Q
def kJ{k:Nat}{n:Nat}(m:X.calm=true)(h:Hc X es t)
  (q:(bc es X.env).length=n:=by rfl) (d:(bc es X.env).findIdx? (·.1)=none:=by rfl):PG X (.Tuple es k pos) (Ib X.K n t):=by
 intro c s g H v u Q I r hw;obtain⟨a,A,j,w,p,hw⟩:=hw;subst j;cases r;obtain⟨z,f,x,B⟩:=I.tuple w;refine assign_Tuple_tuple (I.ok.hd m) x (by simp[q,<- p,f.length]) d λl y=>?_;have i:eL X c g H { s with heap:=l }:=I.kept (t':=s.toks) λb o e=>y b o (bV (bE e)) e;exact h c _ g H A _ Q i (by simpa using f) hw
def xX(c:TE)(g:TG):TS:=λD a H=>c a H λx b=>g x a b D.nx
def FC{e}(i:PE X e te)(j:PG X tg g)(hs:swapsWithSole [tg] e pos.line X.env=pure false:=by rfl)(hw:swappedStores [tg] e X.env=pure none:=by rfl)
  (f:(bc [tg] X.env).map (·.2)=[dt tg X.env]:=by rfl):PS X (.Assign [tg] e pos) (xX te g):=by
 intro a s b H D I h;refine wpAny_Assign_stores (lK (i a s b H _ I h) λv m n=>?_) hs hw;obtain⟨x,c,d,l,k⟩:=n;rw[f];exact lK (j a m b c x v _ d l k) λ_ o q=>q
def FB{i:Nat}{e}(f:X.N.Nodup)(k:X.N[i]?=some x)(l:PX X.env.scope x)(g:PE X e te)(hs:oF e (some (.Name x pos')) pos.line X.env=pure false:=by rfl)(j:X.fn x=true\/X.env.scope.names.lookup x=some .local:=by first | exact .inl Fx | exact .inr Fx | assumption) :
  PS X (.Assign [.Name x pos'] e pos) (xX te (mV i)):=by
 intro a s p H D I h;refine wpAny_Assign_Name (lK (g a s p H _ I h) λv q o=>?_) hs;obtain⟨y,b,c,n,m⟩:=o;exact A5 c f k l n (λr d=>⟨_,b,d,m⟩) j
def Kh(i:Nat)(d:TE)(e:Im):TS:=λD a H=>∃x,a[i]?=some (some x)/\d a H λy b=>e x y b λz c=>D.nx (a.set i (some z)) c
def Xs{i:Nat}{e}(G:X.N.Nodup)(o:X.N[i]?=some x)(g:PX X.env.scope x)(K:PE X e te)(Q:Kl X op ti)(L:X.fn x=true\/X.env.scope.names.lookup x=some .local:=by first | exact .inl Fx | exact .inr Fx | assumption) :
  PS X (.AugAssign (.Name x pos') op e pos) (Kh i te ti):=by
 intro a s p H D I h;obtain⟨v,F,h⟩:=h;obtain⟨m,P,M⟩:=I.loc;have j:Gq X.env.scope x:=by rcases g with k | k;exact .inl k;exact .inr (.inl k)
 obtain⟨u,r,l⟩:=M i x v o F j;refine wpAny_AugAssign_Name ?_
 have go:wpAny (model X.prog X.w) X.A (eval e X.env) (λw d=>wpAny (model X.prog X.w) X.A (inplaceOp op u w) (λr f=>wpAny (model X.prog X.w) X.A (storeName X.env x r) (λ_=>SP X a D .next) X.xe f) X.xe d) X.xe s:=by
  refine lK (K a s p H _ I h) λw W n=>?_;obtain⟨y,q,B,T,R⟩:=n;refine lK (Q a W p q v y u w _ B r T R) λz Y n=>?_;obtain⟨Z,t,C,U,S⟩:=n;exact A5 C G o g U (λs3 E=>⟨_,t,E,S⟩) L
 rcases l with⟨hk,O⟩ | ⟨hk,c,J,b⟩
 ·exact qv I.ok.kind hk P O go
 ·rcases hk with hk | hk
  ·exact rz I.ok.kind hk J b go
  ·rcases g with k | k
   ·have:X.env.scope.names.lookup x=some .free:=hk;rw[k]at this;cases this
   ·have:X.env.scope.names.lookup x=some .free:=hk;rw[k]at this;cases this
def Je(f:Int->Int->Int):Im:=λx y H Q=>∃i j,x=.int i/\y=.int j/\Q (.int (f i j)) H
def Wv:Kl X .Add (Je λi j=>i+j):=by
 intro a s g H x y v u Q I d e h;obtain⟨i,j,b,c,q⟩:=h;subst b;subst c;obtain⟨t,rfl⟩:=d;obtain⟨f,rfl⟩:=e;exact iadd_int ⟨.int _,H,I.tok _,⟨_,Fx⟩,q⟩
end
section
variable{X:Cx}{pos:Pos}
def QW(c:TT)(h:TS):TS:=λD a H=>∃W:Nat->St->Hp->Prop,(∃m,W m a H)/\∀m a H,W m a H ->
 c a H λb f=>if b=true then∃N:St->Hp->Prop,(∀d e,N d e->∃g,g<m/\W g d e)/\h { D with nx:=N,ct:=N,bk:=D.nx } a f else D.nx a f
def wU(z:PassesOwn (model X.prog X.w) X.A X.env X.xe)(E:PT X c tc)(C:CW X body tb):PS X (.While c body [] pos) (QW tc tb):=by
 intro a s P H D I h;obtain⟨W,⟨F,L⟩,g⟩:=h;refine wpAny_While (codeAny_whileLoop (λn G=>∃i r,eL X a i r G/\W n i r) ?_ F ⟨P,H,I,L⟩);rintro n J ⟨e,t,B,M⟩;refine o5 z (lK (E a J e t _ B (g n e t M)) λb K O=>?_);obtain⟨u,x,j⟩:=O
 cases b with
 |true=>
  obtain⟨N,y,j⟩:=j;rw[b8 rfl];refine o5 z (lK (C a K e u _ x j) λf s3 k=>?_)
  cases f with
  |next=>
   obtain⟨d,H3,l,p⟩:=k;obtain⟨o,m,q⟩:=y d H3 p;exact⟨o,m,d,H3,l,q⟩
  |cont=>
   obtain⟨d,H3,l,p⟩:=k;obtain⟨o,m,q⟩:=y d H3 p;exact⟨o,m,d,H3,l,q⟩
  |brk=>exact k
  |ret v=>exact k
 |false=>
  rw[a9 bQ];exact bo ⟨e,u,x,j⟩
end
structure It where
 go:Nat->Hp->Prop
 yld:Nat->Hp->V->Hp->Prop
 stop:Nat->Hp->Prop
def AE(X:Cx)(a:List (Addr×Obj))(H:Hp)(b:Addr):Prop:=
 H b=none/\b≠X.env.locals/\b∉X.fs/\(b∈X.ex\/X.s₀.heap.objs.size<=b)/\(∀x c,X.env.cells.lookup x=some c->c≠b)/\∀p∈X.pn++a,p.1≠b
def eL.fpOk{s:Shared}{b:Addr}(I:eL X pins σ H s)(a:s.heap.objs.size<=b)(d:H' b=none):AE X pins H' b:=by
 refine⟨d,fA (dF I.lt a),I.nofs a,.inr (bP I.sz a),λx c e z=>?_,λp f z=>?_⟩
 ·obtain⟨v,q⟩:=I.cell x c e;exact c8 (dF q.lt (by rw[z];exact a)) (iG _)
 ·exact c8 (dF (bE (I.pin p f).1) (by rw[z];exact a)) (iG _)
structure CK(P:cH)(w:d7)(K:aQ)(tg:Expr)(J:It)(fp:List Addr)(it:Addr)(tn:Nat->Heap->Prop):Prop where
 mem:it∈fp
 obj:∀i h,tn i h->∀b∈fp,∃o,h.get? b=some o/\∀v,o.data≠.cell v
 keep:∀i h h',tn i h->(∀b∈fp,∀o,h.get? b=some o->h'.get? b=some o)->tn i h'
 item:∀(X:Cx),X.prog=P->X.w=w->X.K=K->X.calm=true->∀(i:Nat)pins(s:Shared)σ H E,eL X pins σ H s->(∀b∈fp,AE X pins H b)->tn i s.heap->J.go i H ->
  wpAny (model P w) X.A (r8 (.ref it)) (λr s1=>∃u,r=some u /\
   wpAny (model P w) X.A (u3 tg (.ref it) u) (λ_ s2=>∃x H',eL X pins σ H' s2/\jM x u/\J.yld i H x H'/\tn (i+1) s2.heap/\∀b∈fp,H' b=none) E s1) E s
 done:∀(X:Cx),X.prog=P->X.w=w->X.K=K->X.calm=true->∀(i:Nat)pins(s:Shared)σ H E,eL X pins σ H s->(∀b∈fp,AE X pins H b)->tn i s.heap->J.stop i H ->
  wpAny (model P w) X.A (r8 (.ref it)) (λr s1=>r=none/\eL X pins σ H s1) E s
 self:∀A(i:Nat)(s:Shared)Q E,tn i s.heap->Q (.ref it) s->wpAny (model P w) A (dy (.ref it)) Q E s
abbrev TI:=St->Hp->(It->Hp->Prop)->Prop
def Ir(X:Cx)(a:List (Addr×Obj))(j:St)(i:Expr)(R:It->Hp->Prop)(d:Value)(g:Shared):Prop:=
 ∃(f:Addr)(e:List Addr)(h:Nat->Heap->Prop)(J:It)(c:Hp),d=.ref f/\eL X a j c g/\CK X.prog X.w X.K i J e f h/\h 0 g.heap/\(∀b∈e,AE X a c b)/\R J c
def PI(X:Cx)(b iter:Expr)(c:TI):Prop:=
 ∀pins(s:Shared)σ H(R:It->Hp->Prop),eL X pins σ H s->c σ H R ->
  wpAny (model X.prog X.w) X.A (eval iter X.env) (λv a=>wpAny (model X.prog X.w) X.A (dy v) (Ir X pins σ b R) X.xe a) X.xe s
def IC{E:Value->Shared->Prop}{s:Shared}{b:Addr}{o:Obj}{Q:Unit->Shared->Prop}(e:s.heap.get? b=some o)(c:o.cls=.type n)(hd:o.data=.fields vs)
  (d:["enumerate","zip","dict_itemiterator","dict_reverseitemiterator","odict_iterator","itertools.zip_longest","itertools.pairwise"].contains n=false) (a:Q () s):wpAny M A (u3 tg (.ref b) u) Q E s:=by
 unfold u3
 cases tg<;>first
  |exact aL a
  | (cases u<;>first
    |exact aL a
    | (refine aE (wpAny_load e ?_)
       rw[c,hd];show wpAny M A (if(["enumerate","zip","dict_itemiterator","dict_reverseitemiterator","odict_iterator","itertools.zip_longest","itertools.pairwise"].contains n&&vs[0]?==some (j1 _))=true then _ else _) Q E s;rw[a9 (by intro h;rw[d,Bool.false_and]at h;cases h)];exact aL a))
noncomputable def Ix(K:aQ)(a:Addr):It:=
 ⟨λi H=>∃b x,mT K H a b/\b[i]?=some x,λi H x c=>c=H/\∀b,mT K H a b->b[i]?=some x,λi H=>∃b,mT K H a b/\b.length<=i⟩
noncomputable def Iv(K:aQ)(a:Addr):It:=
 ⟨λi H=>∃b x,pG K H a b/\b[i]?=some x,λi H x c=>c=H/\∀b,pG K H a b->b[i]?=some x,λi H=>∃b,pG K H a b/\b.length<=i⟩
noncomputable def Iw(lo:Int)(n:Nat):It:=⟨λi _=>i<n,λi H x a=>a=H/\x=.int (lo+i),λi _=>n<=i⟩
def NM{K}(a it:Addr):CK P w K tg (Ix K a) [it] it (λi h=>h.IsListIter it a i) where
 mem:=by simp
 obj:=λi h st b hb=>by
  have e:b=it:=by simpa using hb
  subst e;obtain⟨o,e,c,d⟩:=st;exact⟨o,e,λv z=>by rw[d]at z;cases z⟩
 keep:=λi h h' st k=>st.at λo e=>k it Fv o e
 item:=by
  intro X hP hw hK hc i pins s σ H E I hf st hg;subst hP hw hK;obtain⟨xs,x,hq,hx⟩:=hg;obtain⟨ay,rv,p,hz⟩:=I.list hq;obtain⟨u,hu,ru⟩:=rv.get hx;obtain⟨f0,f1,f2,f3,f4,f5⟩:=hf it Fv;refine wpAny_pyNext_list_item st p.isList (x:=u) (by simpa using hu) λh' fh sb=>?_;have I1:eL X pins σ H { s with heap:=h' }:=I.turned (t':=s.toks) (λb o hb e=>(sb.2 b hb).trans e) f0 f1 f3 f4 f5;obtain⟨o,e,c,d⟩:=id fh;exact⟨u,Fx,IC (s:={ s with heap:=h' }) e c d Ft ⟨x,H,I1,ru,⟨Fx,λys hy=>by rw[I.list_inj hy hq];exact hx⟩,fh,λb hb=>(hf b hb).1⟩⟩
 done:=by
  intro X hP hw hK hc i pins s σ H E I hf st hg;subst hP hw hK;obtain⟨xs,hq,hx⟩:=hg;obtain⟨ay,rv,p,hz⟩:=I.list hq;obtain⟨f0,f1,f2,f3,f4,f5⟩:=hf it Fv;have hl:=rv.length;exact wpAny_pyNext_list_end (I.ok.hd hc) st p.isList (by simp;lia) λh' eb=>⟨Fx,I.turned (t':=s.toks) (λb o hb e=>eb b o hb e) f0 f1 f3 f4 f5⟩
 self:=λ_ _ _ _ _ st h=>wpAny_pyIter_listiter st h
def JR{K}(a it:Addr):CK P w K tg (Iv K a) [it] it (λi h=>h.IsTupleIter it a i) where
 mem:=by simp
 obj:=λi h st b hb=>by
  have e:b=it:=by simpa using hb
  subst e;obtain⟨o,e,c,d⟩:=st;exact⟨o,e,λv z=>by rw[d]at z;cases z⟩
 keep:=λi h h' st k=>st.at λo e=>k it Fv o e
 item:=by
  intro X hP hw hK hc i pins s σ H E I hf st hg;subst hP hw hK;obtain⟨xs,x,hq,hx⟩:=hg;obtain⟨ay,rv,p,hz⟩:=I.tuple hq;obtain⟨u,hu,ru⟩:=rv.get hx;obtain⟨f0,f1,f2,f3,f4,f5⟩:=hf it Fv;refine wpAny_pyNext_tuple_item st (show s.heap.IsTuple a ay.toArray from p) (x:=u) (by simpa using hu) λh' fh sb=>?_;have I1:eL X pins σ H { s with heap:=h' }:=I.turned (t':=s.toks) (λb o hb e=>(sb.2 b hb).trans e) f0 f1 f3 f4 f5;obtain⟨o,e,c,d⟩:=id fh;exact⟨u,Fx,IC (s:={ s with heap:=h' }) e c d Ft ⟨x,H,I1,ru,⟨Fx,λys hy=>by rw[I.tuple_inj hy hq];exact hx⟩,fh,λb hb=>(hf b hb).1⟩⟩
 done:=by
  intro X hP hw hK hc i pins s σ H E I hf st hg;subst hP hw hK;obtain⟨xs,hq,hx⟩:=hg;obtain⟨ay,rv,p,hz⟩:=I.tuple hq;obtain⟨f0,f1,f2,f3,f4,f5⟩:=hf it Fv;have hl:=rv.length;exact wpAny_pyNext_tuple_end (I.ok.hd hc) st (show s.heap.IsTuple a ay.toArray from p) (by simp;lia) λh' eb=>⟨Fx,I.turned (t':=s.toks) (λb o hb e=>eb b o hb e) f0 f1 f3 f4 f5⟩
 self:=λ_ _ _ _ _ st h=>wpAny_pyIter_tupleiter st h
def JS{K}(it:Addr)(lo:Int)(n:Nat):CK P w K tg (Iw lo n) [it] it (λi h=>er h it (lo+(i:Nat)*1) ((n:Int)-(i:Nat)) 1) where
 mem:=by simp
 obj:=λi h st b hb=>by
  have e:b=it:=by simpa using hb
  subst e
  exact⟨_,st,λv z=>by
   have z':cy _=Data.cell v:=z;cases z'⟩
 keep:=λi h h' st k=>k it Fv _ st
 item:=by
  intro X hP hw hK hc i pins s σ H E I hf st hg;subst hP hw hK;obtain⟨f0,f1,f2,f3,f4,f5⟩:=hf it Fv;have W:=Walks.range (prog:=X.prog) (w:=X.w) (I.ok.hd hc) it lo 1 n;refine W.item i s _ _ hg st λv h' tk hv fh kk=>?_;obtain⟨t,rfl⟩:=hv;have I1:eL X pins σ H { s with heap:=h',toks:=tk }:=I.turned (λb o hb e=>kk b o (by simpa using hb) e) f0 f1 f3 f4 f5;refine⟨_,Fx,IC (s:={ s with heap:=h',toks:=tk }) (n:="range_iterator") fh Fx Fx Ft ⟨.int (lo+i),H,I1,⟨t,?_⟩,⟨Fx,Fx⟩,fh,λb hb=>(hf b hb).1⟩⟩;rw[Int.mul_one]
 done:=by
  intro X hP hw hK hc i pins s σ H E I hf st hg;subst hP hw hK;obtain⟨f0,f1,f2,f3,f4,f5⟩:=hf it Fv;exact iy (I.ok.hd hc) st (by have:n<=i:=hg;lia) λh' eb=>⟨Fx,I.turned (t':=s.toks) (λb o hb e=>eb b o hb e) f0 f1 f3 f4 f5⟩
 self:=λ_ _ _ _ _ st h=>ix st h
section
variable{X:Cx}{c:Expr}
def RC{s:Shared}{R:It->Hp->Prop}{E:Value->Shared->Prop}{lo a:Int}{f:Nat}(I:eL X pins σ H s)(i:-(2^62)<=lo)(j:lo<2^62)(k:-(2^62)<=a)(l:a<2^62)
  (q:R (Iw lo (a-lo).toNat) H):wpAny (model X.prog X.w) X.A (dy (.ref s.heap.objs.size)) (Ir X pins σ c R) E { s with heap:=s.heap.push { cls:=.type "range",data:=.fields #[.int lo t,.int a u,.int 1 v] },toks:=f }:=by
 refine tm (IsRange.new ..) (small_one i j k l) ?_;have d:eL X pins σ H { s with heap:=s.heap.push { cls:=.type "range",data:=.fields #[.int lo t,.int a u,.int 1 v] },toks:=f }:=I.kept λb o e=>aH _ e
 refine⟨(s.heap.push { cls:=.type "range",data:=.fields #[.int lo t,.int a u,.int 1 v] }).objs.size,[(s.heap.push { cls:=.type "range",data:=.fields #[.int lo t,.int a u,.int 1 v] }).objs.size],_,_,H,Fx,
  d.kept (t':=f) λb o e=>aH _ e,JS _ lo (a-lo).toNat,?_,λb m=>?_,q⟩
 ·have g:lo+((0:Nat):Int)*1=lo:=by simp
  have h:(((a-lo).toNat:Nat):Int)-((0:Nat):Int)=j8 lo a 1:=by rw[rangeSize_one];split<;>lia
  show er _ _ (lo+((0:Nat):Int)*1) ((((a-lo).toNat:Nat):Int)-((0:Nat):Int)) 1;rw[g,h];exact aY _ Fx
 ·have e:b=(s.heap.push { cls:=.type "range",data:=.fields #[.int lo t,.int a u,.int 1 v] }).objs.size:=by simpa using m
  subst e;exact d.fpOk (aM _) (d.hok.fresh (aM _))
def ZA(b:TA):TI:=λd H R=>b d H λvs a=>∃j:Int,vs=[.int j]/\-(2^62)<=j/\j<2^62/\R (Iw 0 j.toNat) a
def jK(i:Gl X "range")(k:X.mg "range"=none)(g:PA X [a] ta)(hs:cS [a] X.env=[(false,eval a X.env)]:=by rfl):PI X c (.Call (.Name "range" p) [a] [] pos) (ZA ta):=by
 intro b s u H R I h;refine Call_ (tT I i k boot_range (i4 (lK (g pos b s u H _ I h) λx w o=>?_) hs Fx));obtain⟨vs,v,f,m,d⟩:=o;obtain⟨j,e,d,l,q⟩:=d;subst e
 cases m with
 |cons r n=>
  cases n;obtain⟨t,rfl⟩:=r;exact call_range_1 (RC f Fu Fu d l (by simpa using q))
def Kj(l:TI)(g:TG)(k:TS):TS:=λD a H=>l a H λJ h=>∃W:Nat->Nat->St->Hp->Prop,(∃m,W 0 m a h)/\∀i m a H,W i m a H ->
 (J.stop i H/\D.nx a H)\/(J.go i H/\∃N:St->Hp->Prop,(∀d b,N d b->∃f,f<m/\W (i+1) f d b)/\∀x b,J.yld i H x b->g x a b λe j=>k { D with nx:=N,ct:=N,bk:=D.nx } e j)
noncomputable def BG(a:List Addr)(h:Heap):List (Addr×Obj):=a.filterMap λb=>(h.get? b).map λo=>(b,o)
def rX{h:Heap}{b:Addr}(a:b∈fp)(e:h.get? b=some o):(b,o)∈BG fp h:=QA.mpr ⟨b,a,by rw[e];rfl⟩
def OG{h:Heap}{p:Addr×Obj}(f:p∈BG fp h):p.1∈fp/\h.get? p.1=some p.2:=by
 obtain⟨b,d,e⟩:=QA.mp f
 cases q:h.get? b with
 |none=>rw[q]at e;cases e
 |some o=>
  rw[q]at e;have a:(b,o)=p:=c7 e;subst a;exact⟨d,q⟩
def eL.pinned{s:Shared}(I:eL X pins σ H s)(h:∀b∈fp,AE X pins H b)(i:∀b∈fp,∃o,s.heap.get? b=some o/\∀v,o.data≠.cell v):eL X (pins++BG fp s.heap) σ H s:=
 I.pins_of λp j=>(cR.mp j).elim (λz=>I.pin p (eZ _ z)) λz=>by
  obtain⟨f,e⟩:=OG z;obtain⟨g,f1,f2,_⟩:=h p.1 f;obtain⟨o,a,d⟩:=i p.1 f;rw[e]at a;cases a;exact⟨e,g,f1,f2,d⟩
def eL.unpinned(I:eL X (pins++pl) σ H s):eL X pins σ H s:=I.pins_of λp a=>I.pin p (eZ _ (oY _ a))
def Xt{iter}(K:PassesOwn (model X.prog X.w) X.A X.env X.xe)(hc:X.calm=true)(hi:PI X c iter wi)(hg:PG X c g)(p:CW X body tb)
  (hs:∀x,j3 iter X.env x=pure x:=by intro _;rfl):PS X (.For c iter body [] pos) (Kj wi g tb):=by
 intro a s σ H D I h;refine wpAny_For (lK (hi a s σ H _ I h) λv s1 h1=>lK h1 λgV s2 h2=>?_) hs;obtain⟨it,F,tn,J,H2,e,I2,T,U,f2,W,⟨m0,w0⟩,O⟩:=h2;subst e
 -- what stays true of the iterator's objects through the loop
 have q:∀{z:Hp},(∀b∈F,z b=none)->∀b∈F,AE X a z b:=λhn b p=>⟨hn b p,(f2 b p).2⟩;refine codeAny_forLoop_any (λn s'=>∃i t z,eL X a t z s'/\tn i s'.heap/\(∀b∈F,z b=none)/\W i n t z) ?_ m0 ⟨0,σ,H2,I2,U,λb p=>(f2 b p).1,w0⟩;rintro n s3 ⟨i,y,H3,I3,M,G,w3⟩;rcases O i n y H3 w3 with⟨stop,qn⟩ | ⟨go,N,hN,step⟩
 ·refine o5 K (lK (T.done X Fx Fx Fx hc i a s3 y H3 X.xe I3 (q G) M stop) λr s4 E=>?_);obtain⟨R,I4⟩:=E;subst R;exact bo ⟨y,H3,I4,qn⟩
 ·refine o5 K (lK (T.item X Fx Fx Fx hc i a s3 y H3 X.xe I3 (q G) M go) λr s4 E=>?_);obtain⟨u,R,h4⟩:=E;subst R;refine o5 K (lK h4 λ_ s5 E=>?_);obtain⟨x,Z,I5,r5,y5,C,Q⟩:=E;have P:=I5.pinned (q Q) (T.obj _ _ C);refine o5 K (lK (hg _ s5 y Z x u _ P r5 (step x Z y5)) λ_ s6 E=>?_);obtain⟨Y,H6,I6,q6⟩:=E;refine o5 K (lK (p _ s6 Y H6 _ I6 q6) λf S B=>?_)
  have ie:∀{j:St}{k:Hp},eL X (a++BG F s5.heap) j k S->N j k->∃m,m<n/\∃i t z,eL X a t z S/\tn i S.heap/\(∀b∈F,z b=none)/\W i m t z:=λ{j k} l L=>by
   obtain⟨m',hm,w7⟩:=hN j k L;refine⟨m',hm,i+1,j,k,l.unpinned,T.keep _ _ _ C λb p o e=>(l.pin (b,o) (eZ _ (eZ _ (rX p e)))).1,λb p=>?_,w7⟩;obtain⟨o,e,d⟩:=T.obj _ _ C b p;exact(l.pin (b,o) (eZ _ (eZ _ (rX p e)))).2.1
  cases f with
  |next=>obtain⟨j,k,l,L⟩:=B;exact ie l L
  |cont=>obtain⟨j,k,l,L⟩:=B;exact ie l L
  |brk=>obtain⟨j,k,l,B⟩:=B;exact⟨j,k,l.unpinned,B⟩
  |ret v=>obtain⟨x7,j,k,l,r7,B⟩:=B;exact⟨x7,j,k,l.unpinned,r7,B⟩
end
abbrev R2:=V->V->Hp->VK->Prop
def qE(X:Cx)(f:Value->Value->Sem Value)(r:R2):Prop:=
 ∀pins s σ H(x y:V)(v u:Value)Q,eL X pins σ H s->jM x v->jM y u->r x y H Q ->
  wpAny (model X.prog X.w) X.A (f v u) (EP X pins σ Q) X.xe s
def Il(X:Cx)(f:Value->Sem Value)(r:V->Hp->VK->Prop):Prop:=
 ∀pins s σ H(x:V)(v:Value)Q,eL X pins σ H s->jM x v->r x H Q ->
  wpAny (model X.prog X.w) X.A (f v) (EP X pins σ Q) X.xe s
def mI(X:Cx)(f:Value)(r:List V->Hp->VK->Prop):Prop:=
 ∀pins s σ H(b:List V)(a:List Value)Q,eL X pins σ H s->gO b a->r b H Q ->
  wpAny (model X.prog X.w) X.A (call f a) (EP X pins σ Q) X.xe s
def Li(X:Cx)(r:V->Hp->(Bool->Hp->Prop)->Prop):Prop:=
 ∀pins s σ H(x:V)(v:Value)(Q:Bool->Hp->Prop),eL X pins σ H s->jM x v->r x H Q ->
  wpAny (model X.prog X.w) X.A (truthy v) (TP X pins σ Q) X.xe s
def Gk(r:R2)(d e:TE):TE:=λa H Q=>d a H λx b=>e a b λy c=>r x y c Q
def Ks(r:V->Hp->VK->Prop)(b:TE):TE:=λc H Q=>b c H λx a=>r x a Q
def rI(C:Int->Int->Prop)(g:Int->Int->V):R2:=λx y H Q=>∃i j,x=.int i/\y=.int j/\C i j/\Q (g i j) H
def RG(g:Int->Int->V):R2:=λx y H Q=>∃i j,x=.int i/\y=.int j/\Q (g i j) H
def rU(g:Int->V):V->Hp->VK->Prop:=λx H Q=>∃i,x=.int i/\Q (g i) H
section
variable{X:Cx}{a b:Expr}{c d:TE}{pos:Pos}
def Hv(o:PE X a c)(p:PE X b d){R:V->V->Hp->Prop}(I:eL X pins σ H s)
  (h:c σ H λx k=>d σ k λy e=>R x y e) {Q:Value->Shared->Prop} {f:Value->Value->Sem Value}
  (q:∀v u j x y e,eL X pins σ e j->jM x v->jM y u->R x y e->wpAny (model X.prog X.w) X.A (f v u) Q X.xe j) :
  wpAny (model X.prog X.w) X.A (eval a X.env) (λv g=>wpAny (model X.prog X.w) X.A (eval b X.env) (λu i=>wpAny (model X.prog X.w) X.A (f v u) Q X.xe i) X.xe g) X.xe s:=by
 refine lK (o pins s σ H _ I h) λv C l=>?_;obtain⟨x,k,m,z,r⟩:=l;refine lK (p pins C σ k _ m r) λu j l=>?_;obtain⟨y,e,n,B,t⟩:=l;exact q v u j x y e n z B t
def L5(k:qE X (l5 op) r)(i:PE X a c)(j:PE X b d):PE X (.BinOp a op b pos) (Gk r c d):=by
 intro e s o H Q I h;exact wpAny_BinOp (Hv i j I h λv u n x y f g l m q=>k e n o f x y v u Q g l m q)
def Po{r:V->Hp->VK->Prop}(k:Il X (unaryOp op) r)(j:PE X a c):PE X (.UnaryOp op a pos) (Ks r c):=by
 intro e s f H Q I h;exact UnaryOp_ (lK (j e s f H _ I h) λv n ⟨x,g,i,m,l⟩=>k e n f g x v Q i m l)
def Gx{f:Value->Value->Sem Value}{C:Int->Int->Prop}{g:Int->Int->Int}
  (rule:∀(i j:Int)(t u:Tok)(s:Shared)Q E,C i j->Q (.int (g i j) s.toks) { s with toks:=s.toks+1 }->wpAny (model X.prog X.w) X.A (f (.int i t) (.int j u)) Q E s) :
  qE X f (rI C λi j=>.int (g i j)):=by
 intro e s o H x y v u Q I l m h;obtain⟨i,j,rfl,rfl,k,q⟩:=h;obtain⟨t,rfl⟩:=l;obtain⟨n,rfl⟩:=m;exact rule i j t n s _ _ k ⟨.int (g i j),H,I.tok _,⟨_,Fx⟩,q⟩
def Jy{f:Value->Value->Sem Value}{g:Int->Int->Int}
  (rule:∀(i j:Int)(t u:Tok)(s:Shared)Q E,Q (.int (g i j) s.toks) { s with toks:=s.toks+1 }->wpAny (model X.prog X.w) X.A (f (.int i t) (.int j u)) Q E s) :
  qE X f (RG λi j=>.int (g i j)):=by
 intro e s n H x y v u Q I k l h;obtain⟨i,j,rfl,rfl,q⟩:=h;obtain⟨t,rfl⟩:=k;obtain⟨m,rfl⟩:=l;exact rule i j t m s _ _ ⟨.int (g i j),H,I.tok _,⟨_,Fx⟩,q⟩
def WR{f:Value->Value->Sem Value}{g:Int->Int->Bool}
  (rule:∀(i j:Int)(t u:Tok)s Q E,Q (.bool (g i j)) s->wpAny (model X.prog X.w) X.A (f (.int i t) (.int j u)) Q E s) :
  qE X f (RG λi j=>.bl (g i j)):=by
 intro e s n H x y v u Q I k l h;obtain⟨i,j,rfl,rfl,q⟩:=h;obtain⟨t,rfl⟩:=k;obtain⟨m,rfl⟩:=l;exact rule i j t m s _ _ ⟨.bl (g i j),H,I,Fx,q⟩
def Hq(i j:Int):Prop:=0<j/\j<1073741824
def LJ(i j:Int):Prop:=(-(2^64)<i/\i<2^64)\/(-(2^64)<j/\j<2^64)
def LJ.ok{i j:Int}(h:LJ i j):IntMulOk i j:=by
 rcases h with⟨e,f⟩ | ⟨e,f⟩
 ·exact .of_left (intBits_le_64 e f)
 ·exact .of_right (intBits_le_64 e f)
def Yi:qE X (l5 .Add) (RG λi j=>.int (i+j)):=Jy λ_ _ _ _ _ _ _ q=>add_int q
def yH:qE X (l5 .Sub) (RG λi j=>.int (i-j)):=Jy λ_ _ _ _ _ _ _ q=>sub_int q
def R1:qE X (l5 .Mult) (rI LJ λi j=>.int (i*j)):=Gx λ_ _ _ _ _ _ _ e q=>mul_int q e.ok
def lY:qE X (l5 .FloorDiv) (rI Hq λi j=>.int (i / j)):=Gx λi j _ _ _ _ _ e q=>by
 have f:(0:Int)<j:=e.1;have g:j<1073741824:=e.2;exact floordiv_int Fu (by rw[GF i Fu];exact q) (.inl (dr Fu))
def gD:qE X (l5 .Mod) (rI (λ_ j=>0<j) λi j=>.int (i%j)):=Gx λi j _ _ _ _ _ e q=>by
 have f:(0:Int)<j:=e;exact mod_int' Fu (by rw[Int.fmod_eq_emod_of_nonneg i Fu];exact q)
def Kq{f:Value->Sem Value}{g:Int->Int}
  (rule:∀(i:Int)(t:Tok)(s:Shared)Q E,Q (.int (g i) s.toks) { s with toks:=s.toks+1 }->wpAny (model X.prog X.w) X.A (f (.int i t)) Q E s) :
  Il X f (rU λi=>.int (g i)):=by
 intro e s k H x v Q I j h;obtain⟨i,rfl,q⟩:=h;obtain⟨t,rfl⟩:=j;exact rule i t s _ _ ⟨.int (g i),H,I.tok _,⟨_,Fx⟩,q⟩
def ZV:Il X (unaryOp .USub) (rU λi=>.int (-i)):=Kq λ_ _ _ _ _ q=>neg_int q
end
noncomputable def Ih:V->V->Bool
|.non,.non=>true | .non,.int _=>true | .int _,.non=>true | .non,.bl _=>true | .bl _,.non=>true | .non,.str _=>true | .str _,.non=>true
|.int _,.int _=>true | .bl _,.bl _=>true | .str _,.str _=>true | .byt _,.byt _=>true
|.int _,.str _=>true | .str _,.int _=>true | .bl _,.str _=>true | .str _,.bl _=>true
|_,_=>false
def Jc:R2:=λx y H Q=>Ih x y=true/\Q (.bl (decide (x=y))) H
def Ja:R2:=λx y H Q=>Ih x y=true/\Q (.bl (!decide (x=y))) H
def M1{i j:Int}:decide (V.int i=V.int j)=(i==j):=by
 rw[fH];simp
def UF{i j:Bool}:decide (V.bl i=V.bl j)=(i==j):=by
 rw[fH];simp
def M0:decide (V.str i=V.str j)=(i==j):=by
 rw[fH];simp
def M2{i j:Array UInt8}:decide (V.byt i=V.byt j)=(i.toList==j.toList):=by
 rw[fH];cases i;cases j;simp
section
variable{X:Cx}{a b:Expr}{d g:TE}{pos:Pos}
def gE{k c:Bool}(I:eL X pins σ H s)(q:Q (.bl k) H)(e:k=c):EP X pins σ Q (.bool c) s:=by
 subst e;exact⟨.bl k,H,I,Fx,q⟩
def lD:qE X (h7 .Eq) Jc:=by
 intro k s l H x y v u Q I f c h;obtain⟨hs,q⟩:=h
 cases x with
 |non=>
  cases f
  cases y with
  |non=>cases c;exact PySem.EqNone.eq_none_none (gE I q Fv)
  |bl j=>cases c;exact PySem.EqNone.eq_none_bool (gE I q Fv)
  |int j=>obtain⟨e,rfl⟩:=c;exact PySem.EqNone.eq_none_int (gE I q Fv)
  |str j=>obtain⟨e,rfl⟩:=c;exact PySem.EqNone.eq_none_str (gE I q Fv)
  |_=>exact c8 (show false=true from hs) bQ
 |bl i=>
  cases f
  cases y with
  |non=>cases c;exact PySem.EqNone.eq_bool_none (gE I q Fv)
  |bl j=>cases c;exact eq_bool (gE I q UF)
  |str j=>obtain⟨e,rfl⟩:=c;exact PySem.EqMixed.eq_bool_str (gE I q Fv)
  |_=>exact c8 (show false=true from hs) bQ
 |int i=>
  obtain⟨t,rfl⟩:=f
  cases y with
  |non=>cases c;exact PySem.EqNone.eq_int_none (gE I q Fv)
  |int j=>obtain⟨e,rfl⟩:=c;exact eq_int (gE I q M1)
  |str j=>obtain⟨e,rfl⟩:=c;exact PySem.EqMixed.eq_int_str (gE I q Fv)
  |_=>exact c8 (show false=true from hs) bQ
 |str i=>
  obtain⟨t,rfl⟩:=f
  cases y with
  |non=>cases c;exact PySem.EqNone.eq_str_none (gE I q Fv)
  |bl j=>cases c;exact PySem.EqMixed.eq_str_bool (gE I q Fv)
  |int j=>obtain⟨e,rfl⟩:=c;exact PySem.EqMixed.eq_str_int (gE I q Fv)
  |str j=>obtain⟨e,rfl⟩:=c;exact eq_str (gE I q M0)
  |_=>exact c8 (show false=true from hs) bQ
 |byt i=>
  obtain⟨t,rfl⟩:=f
  cases y with
  |byt j=>obtain⟨e,rfl⟩:=c;exact PySem.W.eq_bytes (gE I q M2)
  |_=>exact c8 (show false=true from hs) bQ
 |_=>cases y<;>exact c8 (show false=true from hs) bQ
def zJ:qE X (h7 .NotEq) Ja:=by
 intro k s l H x y v u Q I f c h;obtain⟨hs,q⟩:=h
 cases x with
 |non=>
  cases f
  cases y with
  |non=>cases c;exact PySem.EqNone.ne_none_none (gE I q Fv)
  |bl j=>cases c;exact PySem.EqNone.ne_none_bool (gE I q Fv)
  |int j=>obtain⟨e,rfl⟩:=c;exact PySem.EqNone.ne_none_int (gE I q Fv)
  |str j=>obtain⟨e,rfl⟩:=c;exact PySem.EqNone.ne_none_str (gE I q Fv)
  |_=>exact c8 (show false=true from hs) bQ
 |bl i=>
  cases f
  cases y with
  |non=>cases c;exact PySem.EqNone.ne_bool_none (gE I q Fv)
  |bl j=>cases c;exact ne_bool (gE I q (g5 not UF))
  |str j=>obtain⟨e,rfl⟩:=c;exact PySem.EqMixed.ne_bool_str (gE I q Fv)
  |_=>exact c8 (show false=true from hs) bQ
 |int i=>
  obtain⟨t,rfl⟩:=f
  cases y with
  |non=>cases c;exact PySem.EqNone.ne_int_none (gE I q Fv)
  |int j=>obtain⟨e,rfl⟩:=c;exact ne_int (gE I q (g5 not M1))
  |str j=>obtain⟨e,rfl⟩:=c;exact PySem.EqMixed.ne_int_str (gE I q Fv)
  |_=>exact c8 (show false=true from hs) bQ
 |str i=>
  obtain⟨t,rfl⟩:=f
  cases y with
  |non=>cases c;exact PySem.EqNone.ne_str_none (gE I q Fv)
  |bl j=>cases c;exact PySem.EqMixed.ne_str_bool (gE I q Fv)
  |int j=>obtain⟨e,rfl⟩:=c;exact PySem.EqMixed.ne_str_int (gE I q Fv)
  |str j=>obtain⟨e,rfl⟩:=c;exact ne_str (gE I q (g5 not M0))
  |_=>exact c8 (show false=true from hs) bQ
 |byt i=>
  obtain⟨t,rfl⟩:=f
  cases y with
  |byt j=>obtain⟨e,rfl⟩:=c;exact PySem.W.ne_bytes (gE I q (g5 not M2))
  |_=>exact c8 (show false=true from hs) bQ
 |_=>cases y<;>exact c8 (show false=true from hs) bQ
def L7:qE X (h7 .Lt) (RG λi j=>.bl (decide (i<j))):=WR λ_ _ _ _ _ _ _ q=>lt_int q
def YL:qE X (h7 .LtE) (RG λi j=>.bl (decide (i<=j))):=WR λ_ _ _ _ _ _ _ q=>le_int q
def wZ:qE X (h7 .Gt) (RG λi j=>.bl (decide (j<i))):=WR λ_ _ _ _ _ _ _ q=>gt_int q
def R3:qE X (h7 .GtE) (RG λi j=>.bl (decide (j<=i))):=WR λ_ _ _ _ _ _ _ q=>ge_int q
def OC:qE X (h7 .In) (λx y H Q=>∃i j,x=.str i/\y=.str j/\Q (.bl (!(o7 j i 0 j.length 1).isEmpty)) H):=by
 intro c s l H x y v u Q I e f h;obtain⟨i,j,rfl,rfl,q⟩:=h;obtain⟨t,rfl⟩:=e;obtain⟨k,rfl⟩:=f;exact in_str (gE I q Fx)
def Xj:qE X (h7 .Is) (λx y H Q=>y=.non/\Q (.bl (decide (x=.non))) H):=by
 intro c s i H x y v u Q I e f h;obtain⟨rfl,q⟩:=h;cases f;refine is_none_gen (gE I q ?_)
 cases x<;>first
  | (cases e;rfl)
  | (obtain⟨t,rfl⟩:=e;rfl)
def WP:qE X (h7 .IsNot) (λx y H Q=>y=.non/\Q (.bl (!decide (x=.non))) H):=by
 intro c s i H x y v u Q I e f h;obtain⟨rfl,q⟩:=h;cases f;refine isnot_none_gen (gE I q ?_)
 cases x<;>first
  | (cases e;rfl)
  | (obtain⟨t,rfl⟩:=e;rfl)
def qE.or{f:Value->Value->Sem Value}{r e:R2}(h:qE X f r)(l:qE X f e):qE X f (λx y H Q=>r x y H Q\/e x y H Q):=by
 intro c s k H x y v u Q I i j q;rcases q with q | q
 ·exact h c s k H x y v u Q I i j q
 ·exact l c s k H x y v u Q I i j q
def SC(b:Expr)(h:op≠.In:=by decide)(f:op≠.NotIn:=by decide):x3 op b=false:=by
 have c:(op==CmpOp.In)=false:=by cases op<;>first | rfl | exact c8 Fx h
 have e:(op==CmpOp.NotIn)=false:=by cases op<;>first | rfl | exact c8 Fx f
 cases b<;>simp[x3,c,e]
def WO(l:qE X (h7 op) r)(i:PE X a d)(j:PE X b g)(k:x3 op b=false):PE X (.Compare a [op] [b] pos) (Gk r d g):=by
 intro c s p H Q I h;exact wpAny_Compare1 (Hv i j I h λv u o x y e f m n q=>l c o p e x y v u Q f m n q) k
def Wg(t:TE):TT:=λe H Q=>t e H λx c=>∃k,x=.bl k/\Q k c
def L0(w:qE X (h7 op) r)(p:PE X a d)(q:PE X b g)(t:x3 op b=false):PT X (.Compare a [op] [b] pos) (Wg (Gk r d g)):=by
 intro f s i H Q I h
 refine wpAny_isTrue_Compare1 (lK (p f s i H _ I h) λv J ⟨x,j,m,E,A⟩=>lK (q f J i j _ m A) λu K ⟨y,l,n,F,B⟩=>
  lK (w f K i l x y v u _ n E F B) λc s3 ⟨z,H3,o,G,k,e,C⟩=>?_) t
 subst e;cases G;exact v9 ⟨H3,o,C⟩
def Hu(K:aQ)(x:V)(H:Hp)(k:Bool):Prop:=
 match x with
 |.non=>k=false
 |.bl b=>k=b
 |.int i=>k=(i != 0)
 |.str y=>y.length<=bO/\k=((y.length:Int) != 0)
 |.byt y=>y.size<=bO/\k=((y.size:Int) != 0)
 |.ref p=>(∃e,mT K H p e/\k=!e.isEmpty)\/(∃e,pG K H p e/\k=!e.isEmpty)\/∃c,H p=some (.dK c)/\k=!c.isEmpty
 |_=>False
def KT{e:Type}{c:List (e×V)}{vs:List (e×Value)}(r:KV c vs):(!vs.isEmpty)=!c.isEmpty:=by
 cases r<;>rfl
def BV{e:List V}{c:List Value}(r:gO e c):(!c.toArray.isEmpty)=!e.isEmpty:=by
 cases r<;>simp
def yM:(bO:Nat)<2^63:=by rw[qu];decide
def ZY:Li X (λx H Q=>∃k,Hu X.K x H k/\Q k H):=by
 intro B s G H x v Q I n h;obtain⟨k,e,q⟩:=h;have F:=yM;have hs:bO=16777216:=qu
 cases x with
 |non=>
  cases n;have c:k=false:=e;subst c;exact truthy_none ⟨H,I,q⟩
 |bl b=>
  cases n;have c:k=b:=e;subst c;exact v9 ⟨H,I,q⟩
 |int i=>
  obtain⟨t,rfl⟩:=n;have c:k=(i != 0):=e;subst c;exact PySem.P.truthy_int ⟨H,I,q⟩
 |str y=>
  obtain⟨t,rfl⟩:=n;obtain⟨E,c⟩:y.length<=bO/\k=((y.length:Int) != 0):=e;subst c;exact PySem.P.truthy_str Fu ⟨H,I.tok _,q⟩
 |byt y=>
  obtain⟨t,rfl⟩:=n;obtain⟨E,c⟩:y.size<=bO/\k=((y.size:Int) != 0):=e;subst c;exact PySem.W.truthy_bytes Fu ⟨H,I.tok _,q⟩
 |ref p=>
  cases n;have c:(∃l,mT X.K H p l/\k=!l.isEmpty)\/(∃l,pG X.K H p l/\k=!l.isEmpty)\/∃f,H p=some (.dK f)/\k=!f.isEmpty:=e;rcases c with⟨l,o,c⟩ | ⟨l,o,c⟩ | ⟨f,o,c⟩
  ·subst c;obtain⟨u,r,z,A⟩:=I.list o;have j:=r.length;exact wpAny_truthy_list z.isList (by simp only[bI];lia) ⟨H,I.tok _,by rw[BV r];exact q⟩
  ·subst c;obtain⟨u,r,z,A⟩:=I.tuple o;have j:=r.length;exact truthy_tuple z (by simp only[bI];lia) ⟨H,I.tok _,by rw[BV r];exact q⟩
  ·subst c;obtain⟨A,C,vs,r,m⟩:f.length<=bO/\(p==s0)=false/\∃vs,KV f vs/\s.heap.DictOf (oD X.prog X.w) p vs:=I.hok p _ o;have j:f.length=vs.length:=l3 r;exact wpAny_truthy_dict C m Fu ⟨H,I.tok _,by rw[KT r];exact q⟩
 |_=>exact(show False from e).elim
def RL(l:PE X a d)(m:∀whole,isTrue a X.env whole=(do let v <- whole;standAt a.pos;uf [v] (truthy v))) :
  PT X a (λe H Q=>d e H λx f=>∃k,Hu X.K x f k/\Q k f):=by
 intro c s e H Q I h;exact isTrue_plain (lK (l c s e H _ I h) λv p ⟨x,i,j,o,n⟩=>ZY c p e i x v Q j o n) (m _)
def J7:qE X (l5 .Add) (λx y H Q=>∃i j,x=.str i/\y=.str j/\i.length+j.length<=bO/\Q (.str (i++j)) H):=by
 intro c s n H x y v u Q I f k h;obtain⟨i,j,rfl,rfl,e,q⟩:=h;obtain⟨t,rfl⟩:=f;obtain⟨l,rfl⟩:=k;exact add_str (λl m=>⟨.str (i++j),H,I.tok _,⟨_,Fx⟩,q⟩) e
def oG(r:gO [x] us):∃u,us=[u]/\jM x u:=by
 cases r with
 |cons c e=>cases e;exact⟨_,Fx,c⟩
def uS:mI X (.type "int") (λc H Q=>(∃i,c=[.int i]/\Q (.int i) H)\/∃k,c=[.bl k]/\Q (.int (if k then 1 else 0)) H):=by
 intro e s l H c j Q I r h;rcases h with⟨i,rfl,q⟩ | ⟨k,rfl,q⟩
 ·obtain⟨u,rfl,t,rfl⟩:=oG r;exact call_int_int ⟨.int i,H,I,⟨_,Fx⟩,q⟩
 ·obtain⟨u,rfl,f⟩:=oG r;cases f;exact call_int_bool ⟨.int (if k then 1 else 0),H,I.tok _,⟨_,Fx⟩,q⟩
end
def Vz(K:aQ)(C:Addr)(f:Str):Prop:=pU K (.ref C) f=some none
structure Room(k:Nat)(A:f9):Prop where
 hd:A.handled=none
 dp:A.depth+3*k+5<ca
 un:A.units+16*k+200<w6
 gd:A.guards=some []
def Room.mono{j k:Nat}(r:Room k A)(h:j<=k):Room j A:=⟨r.hd,by have:=r.dp;lia,by have:=r.un;lia,r.gd⟩
theorem Room.deeper{k:Nat}{A:f9}(r:Room (k+1) A)(env:Env):Room k (A.deeper env):=
 ⟨r.hd,by have:=r.dp;show A.depth+1+3*k+5<_;lia,by have:=r.un;show A.units+3+16*k+200<_;lia,r.gd⟩
theorem Room.in1{k:Nat}{A:f9}(r:Room (k+1) A):Room k A.in1:=
 ⟨r.hd,by have:=r.dp;show A.depth+3*k+5<_;lia,by have:=r.un;show A.units+1+16*k+200<_;lia,r.gd⟩
theorem Room.depth{k:Nat}{A:f9}(r:Room k A):A.depth<ca:=by have:=r.dp;lia
def A4:TA:=λ_ H Q=>Q [] H
def tE(d:TE)(e:TA):TA:=λa H Q=>d a H λx b=>e a b λf c=>Q (x::f) c
section
variable{X:Cx}{e:Expr}{a:List Expr}{c:TE}{t:TA}{pos:Pos}
def oR:PA X [] A4:=λ_ _ _ _ H Q I h=>Calls.spliced_nil ⟨[],H,I,.nil,h⟩
def mO(k:PE X e c)(l:PA X a t)(hs:cS (e::a) X.env=(false,eval e X.env)::cS a X.env:=by rfl):PA X (e::a) (tE c t):=by
 intro pos b s d H Q I h;rw[hs];show wpAny _ _ (spliced ((false,eval e X.env)::r4 pos (cS a X.env))) _ _ s;refine Calls.spliced_cons (lK (k b s d H _ I h) λu q v=>?_);obtain⟨x,f,i,o,m⟩:=v;exact lK (l pos b q d f _ i m) λy w ⟨r,g,j,p,n⟩=>⟨x::r,g,j,.cons o p,n⟩
def Na(t:TA):TE:=λf H Q=>t f H λd b=>d.length<=bO/\∀p,b p=none->Q (.ref p) (iA b p (.tup d))
def Mw(t:TA):TE:=λf H Q=>t f H λd b=>d.length<=bO/\∀p,b p=none->Q (.ref p) (iA b p (.lst d))
def RU(h:PA X a t):PE X (.Tuple a x1 pos) (Na t):=by
 intro d s n H Q I k;refine wpAny_Tuple_spliced (lK (h pos d s n H _ I k) λl f ⟨m,g,i,r,z,q⟩=>⟨by rw[<- r.length];exact z,?_⟩);have j:g f.heap.objs.size=none:=i.hok.fresh (aM _);refine⟨.ref f.heap.objs.size,iA g f.heap.objs.size (.tup m),i.laid (t':=f.toks) (λb u e=>aH _ e) (aM _) ?_,Fx,q _ j⟩;exact⟨z,l,r,⟨_,aY _ Fx,Fx,_,Fx,Fx⟩⟩
def FE(h:PA X a t):PE X (.List a pos) (Mw t):=by
 intro d s n H Q I k;refine wpAny_List_spliced (lK (h pos d s n H _ I k) λl f ⟨m,g,i,r,z,q⟩=>⟨by rw[<- r.length];exact z,?_⟩);have j:g f.heap.objs.size=none:=i.hok.fresh (aM _);refine⟨.ref f.heap.objs.size,iA g f.heap.objs.size (.lst m),i.laid (t':=f.toks) (λb u e=>aH _ e) (aM _) ?_,Fx,q _ j⟩;exact⟨z,l,0,r,aY _ Fx⟩
end
abbrev Sp:=List V->Hp->VK->XK->Prop
abbrev U7:=List Env->Hp->Shared->XK->Value->Shared->Prop
structure X1(P:cH)(w:d7)(K:aQ)(mg:Str->Option Value)(base:Heap)(A:f9)(outer:List Env)(s:Shared)(H:Hp):Prop where
 frames:A.frames=some outer
 mod:Mod K mg base
 bs:∀b o,base.get? b=some o->s.heap.get? b=some o/\H b=none
 bsz:base.objs.size<=s.heap.objs.size
 funs:s.heap.FunFrames base outer
 frf:∀b∈ID outer,H b=none
 hok:wD P w H s.heap
 bare:ao s.gens
 tab:Tb H
def CE(outer:List Env)(P:cH)(w:d7)(H:Hp)(s:Shared)(Q:VK)(u:Value)(a:Shared):Prop:=
 ∃v b,a.os=s.os/\ao a.gens/\Un (ID outer) [] H b s.heap a.heap/\wD P w b a.heap/\jM v u/\Q v b
def CR(b:U7)(outer:List Env)(P:cH)(w:d7)(H:Hp)(s:Shared)(Q:VK)(E:XK)(r:Result)(a:Shared):Prop:=
 match r with
 |.ok (.ret u)=>CE outer P w H s Q u a
 |.ok _=>False
 |.error e=>b outer H s E e a
structure dP(P:cH)(w:d7)(K:aQ)(mg:Str->Option Value)(base:Heap)(CX:U7)(k:Nat)(f:Addr)(fd:jH)(ps:List Str)(sp:Sp):Prop where
 len:∀vs H Q E,sp vs H Q E->vs.length=ps.length
 run:∀A outer s H(args:Args)(us:List Value)(vs:List V)Q E,Room k A->X1 P w K mg base A outer s H->BindsTo s fd args (ps.zip us)->gO vs us->sp vs H Q E ->
  x4 (model P w) A (.call (.ref f) args) (CR CX outer P w H s Q E) s
def dP.imp{K}{mg:Str->Option Value}{k:Nat}{f:Addr}{c b:Sp}(F:dP P w K mg base CX k f fd ps c)
  (h:∀vs H Q E,b vs H Q E->c vs H Q E):dP P w K mg base CX k f fd ps b:=
 ⟨λvs H Q E q=>F.len vs H Q E (h _ _ _ _ q),λA outer s H a j vs Q E g e d i hs=>F.run A outer s H a j vs Q E g e d i (h _ _ _ _ hs)⟩
section
variable{X:Cx}{a:List (Addr×Obj)}{f:St}{H:Hp}{s c:Shared}
def eL.env0(I:eL X a f H s):X1 X.prog X.w X.K X.mg X.base X.A X.stack s H:=
 ⟨I.ok.frames,I.ok.mod,I.bs,bP I.ok.bsz I.sz,I.stack,I.stkFree,I.hok,I.bare,λP e=>let ⟨ps,h⟩:=I.ok.tab P e;let ⟨m,h'⟩:=I.base.tbls P ps h;⟨_,h'⟩⟩
def eL.after(I:eL X a f H s)(h:CE X.stack X.prog X.w H s Q u c):EP X a f Q u c:=by
 obtain⟨v,i,os,bare,un,hok,r,q⟩:=h;obtain⟨j,g,d,t,e⟩:=c;obtain rfl:e=s.os:=os;exact⟨v,i,I.call (h':=j) (g':=g) (d':=d) (t':=t) (ch:=[]) un hok bare (λb z=>c8 z Fv),r,q⟩
end
def LO(c:Sp)(a:List V)(E:XK)(t:TA):TE:=λd H Q=>t d H λvs b=>c (vs++a) b Q E
def xS(K:aQ)(d:jH)(c:List Str)(b:List Value):Prop:=
 ∀(s:Shared)(a:List Value),K.In s.heap->(a++b).length=c.length->BindsTo s d ⟨a,[]⟩ (c.zip (a++b))
def xS.all{K}{b:List Str}(h:∀a:List Value,a.length=b.length->bindArgs fd ⟨a,[]⟩=pure (b.zip a)):xS K fd b []:=λs a _ c=>by
 rw[dU]at c |-
 exact .of_eq (h a c)
def LE(a:U7)(X:Cx)(E:XK):Prop:=∀pins σ H s(e:Value)s',eL X pins σ H s->a X.stack H s E e s'->X.xe e s'
section
variable{X:Cx}{g:U7}{k:Nat}{f:Addr}{i:jH}{d:List Str}{j:Sp}{a:List V}{b:List Value}{E:XK}{x:Str}{p pos:Pos}{e:Expr}{c:List Expr}{t:TA}
def Xy(F:dP X.prog X.w X.K X.mg X.base g k f i d j)(q:Room k X.A)(n:xS X.K i d b)(hd:gO a b)(v:LE g X E)
  (I:eL X pins σ H s) (r:gO vs us) (h:j (vs++a) H Q E):wpAny (model X.prog X.w) X.A (call (.ref f) us) (EP X pins σ Q) X.xe s:=by
 have m:gO (vs++a) (us++b):=r.append hd;have o:(us++b).length=d.length:=by rw[<- m.length];exact F.len _ _ _ _ h
 refine tj (bd (F.run X.A X.stack s H ⟨us,[]⟩ (us++b) (vs++a) Q E q I.env0 (n s us I.kIn o) m h) λr y l=>?_)
 cases r with
 |error e=>exact v pins σ H s e y I l
 |ok fl=>
  cases fl with
  |ret u=>exact I.after l
  |next=>exact n9 l
  |brk=>exact n9 l
  |cont=>exact n9 l
def FG(F:dP X.prog X.w X.K X.mg X.base g k f i d j)(C:Room k X.A)(z:Gl X x)(B:X.mg x=some (.ref f))(hk:jS X.K (.ref f)=true)(v:xS X.K i d b)(hd:gO a b)(G:LE g X E)
  (u:PA X (e::c) t) (m:(x==("__debug__":Str))=false:=by decide) (y:cS (e::c) X.env=(false,eval e X.env)::cS c X.env:=by rfl) (n:(r4 pos (cS c X.env)).any (·.1)=false:=by rfl) :
  PE X (.Call (.Name x p) (e::c) [] pos) (LO j a E t):=by
 intro l s J H Q I h;refine ai (MI I z B ?_ m);refine PySem.W.callWith_K (h₀:=X.base) I.ok.mod.kin hk (lK (u pos l s J H _ I h) λN M ⟨vs,L,o,r,q⟩=>⟨o.kIn,?_⟩) y n;exact Xy F C v hd G o r q
end
structure bT(N P:List Str)(sc:Scope):Prop where
 kind:sc.kind=.function
 co:sc.isCoroutine=false
 gen:sc.isGenerator=false
 nd:N.Nodup
 pre:N.take P.length=P
 par:∀x∈P,sc.names.lookup x=some .local\/sc.names.lookup x=some .cell
 nofree:∀y∈sc.names,y.2≠.free
theorem EE{kindOf:Str->Option o0}:∀{binds}{m:Str->Option Value},(∀v,(x,v)∉binds)->bindL kindOf binds m x=m x
|[],_,_=>rfl
| (n,v)::r,m,h=>by
 unfold bindL;rw[EE λw hw=>h w (aK _ hw)];split
 ·have:x≠n:=by rintro rfl;exact h v aP
  simp[this]
 ·rfl
theorem EG{kindOf:Str->Option o0}:∀{binds}{m:Str->Option Value},(∀v,(x,v)∉binds)->bindC kindOf binds m x=m x
|[],_,_=>rfl
| (n,v)::r,m,h=>by
 unfold bindC;rw[EG λw hw=>h w (aK _ hw)];split
 ·rfl
 ·have:x≠n:=by rintro rfl;exact h v aP
  simp[this]
theorem EF{kindOf:Str->Option o0}:∀{P:List Str}{vs}{i:Nat}{m:Str->Option Value},P.Nodup->P[i]?=some x->vs[i]?=some v->kindOf x=some .local ->
 bindL kindOf (P.zip vs) m x=some v
|[],_,_,_,_,h,_,_=>by simp at h
|_::_,[],_,_,_,_,h,_=>by simp at h
|p::P,w::vs,0,m,nd,h1,h2,hk=>by
 simp at h1 h2;subst h1;subst h2;show bindL kindOf ((p,w)::P.zip vs) m p=_;unfold bindL;rw[EE λv a=>(mZ.mp nd).1 (C1 a).1,b8 hk];simp
|p::P,w::vs,i+1,m,nd,h1,h2,hk=>by
 show bindL kindOf ((p,w)::P.zip vs) m x=_;unfold bindL;exact EF (i:=i) (mZ.mp nd).2 (by simpa using h1) (by simpa using h2) hk
theorem EH{kindOf:Str->Option o0}:∀{P:List Str}{vs}{i:Nat}{m:Str->Option Value},P.Nodup->P[i]?=some x->vs[i]?=some v->kindOf x≠some .local ->
 bindC kindOf (P.zip vs) m x=some v
|[],_,_,_,_,h,_,_=>by simp at h
|_::_,[],_,_,_,_,h,_=>by simp at h
|p::P,w::vs,0,m,nd,h1,h2,hk=>by
 simp at h1 h2;subst h1;subst h2;show bindC kindOf ((p,w)::P.zip vs) m p=_;unfold bindC;rw[EG λv a=>(mZ.mp nd).1 (C1 a).1,a9 hk];simp
|p::P,w::vs,i+1,m,nd,h1,h2,hk=>by
 show bindC kindOf ((p,w)::P.zip vs) m x=_;unfold bindC;exact EH (i:=i) (mZ.mp nd).2 (by simpa using h1) (by simpa using h2) hk
noncomputable def sM(N:List Str)(vs:List V):St:=vs.map some++qG (N.length-vs.length) none
noncomputable def CF(CX:U7)(P:cH)(w:d7)(K:aQ)(mg:Str->Option Value)(base:Heap)(N:List Str)(qual:Str)(scope:Scope)(f:Addr)(cd:Value)(A:f9)(outer:List Env)(s:Shared)(H:Hp)(E:XK):Cx where
 prog:=P
 w:=w
 K:=K
 mg:=mg
 base:=base
 A:=A.deeper (z7 qual scope s.heap.objs.size f cd)
 N:=N
 s₀:=s
 H₀:=H
 env:=z7 qual scope s.heap.objs.size f cd
 outer:=outer
 stack:=z7 qual scope s.heap.objs.size f cd::outer
 ex:=[]
 calm:=true
 fn:=λ_=>true
 pn:=[]
 xe:=λe s'=>wpAny (model P w) (A.deeper (z7 qual scope s.heap.objs.size f cd)) (leaving (z7 qual scope s.heap.objs.size f cd) e) (λ_ yu=>CX outer H s E e yu) (λe' yu=>CX outer H s E e' yu) s'
def IP{a:Scope}{n:Nat}(h:a.names.lookup x=some .cell):∃c,(ae n a.names []).lookup x=some c:=by
 have q:=GC a.names n [] (.inl h);exact Option.isSome_iff_exists.mp q
def OX{K}{mg:Str->Option Value}{N m:List Str}{d:Scope}{f:Addr}{cd}{A:f9}{s G:Shared}{vs:List V}
  (S:bT N m d) (hd:A.handled=none) (j:X1 P w K mg base A outer s H) (O:vs.length=m.length) (r:gO vs us)
  (x:InCallC s s.heap.objs.size (bindL (z7 qual d s.heap.objs.size f cd).kindOf (m.zip us) λ_=>none) (ae (s.heap.objs.size+1) d.names []) (bindC (z7 qual d s.heap.objs.size f cd).kindOf (m.zip us) λ_=>none) G) :
  eL (CF CX P w K mg base N qual d f cd A outer s H E) [] (sM N vs) H G:=by
 have J:m.length<=N.length:=by have:=g5 hX S.pre;rw[bD]at this;lia
 obtain⟨B,Q,rfl,hk⟩:=x.done;have l:∀b:Addr,b∉(CF CX P w K mg base N qual d f cd A outer s H E).ex:=λb z=>c8 (show b∈([]:List Addr)from z) Fv
 refine⟨⟨j.mod,S.kind,Fx,Fx,aM _,λy z c B g=>?_,λy hy=>?_,λy c _ h=>?_,λ_=>hd,fk j.frames,.inr ⟨Fx,Fx⟩,λb z=>c8 z (l b),j.bs,j.bsz,λb _ _=>l b,λb z=>c8 z (l b),j.funs,j.frf,j.tab⟩,
  rfl,j.bare,Un.kept hk,⟨_,x.toInCall.ns,λi y v B g M=>?_⟩,λy c h=>⟨_,x.cell y c h⟩,j.hok.fresh (aM _),λy c h=>?_,λp o=>c8 (show p∈([]:List (Addr×Obj))from o) Fv,j.hok.kept hk,?_⟩
 ·exact name_of_addr x.apart (i6 B) (i6 g)
 ·have hy:d.names.lookup y=some .cell\/d.names.lookup y=some .free:=hy;rcases hy with hy | hy
  ·exact IP hy
  ·exact c8 Fx (S.nofree _ (i6 hy))
 ·exact jT (x.above y c (i6 h))
 ·have C:i<vs.length:=by
   unfold sM at g;by_cases C:i<vs.length
   ·exact C
   ·rw[cA (by simpa using C)]at g;rw[lB]at g;split at g<;>cases g
  have I:vs[i]?=some v:=by
   unfold sM at g;rw[dQ (by simpa using C),aF]at g
   cases e:vs[i]? with
   |none=>rw[e]at g;cases g
   |some a=>rw[e]at g;cases g;rfl
  obtain⟨u,F,L⟩:=r.get I
  have o:m[i]?=some y:=by
   rw[<- S.pre,List.getElem?_take_of_lt Fu];exact B
  have t:m.Nodup:=by rw[<- S.pre];exact S.nd.sublist (zR _ _)
  refine⟨u,L,?_⟩;rcases S.par y (aR o)with k | k
  ·exact .inl ⟨k,EF t o F k⟩
  ·obtain⟨c,e⟩:=IP (n:=s.heap.objs.size+1) k;refine .inr ⟨.inl k,c,e,?_⟩;have q:=x.cell y c e;rw[EH t o F (by show d.names.lookup y≠_;rw[k];decide)]at q;exact q
 ·exact j.hok.fresh (jT (x.above y c (i6 h)))
 ·unfold sM;show _=N.length;rw[aV,aB,List.length_replicate];lia
def ZG{K:aQ}{mg:Str->Option Value}{k:Nat}{f:Addr}{name kV}
   {N j:List Str} {C:Sp} (Y:K.lookup f=some ⟨oc,od,.func (nK name qual params body scope dV kV rh pm an du ct),uh⟩) (l:pV K du qual=true) (S:bT N j scope)
  (len:∀vs H Q E,C vs H Q E->vs.length=j.length)
  (d:∀(A:f9)outer(s:Shared)H(vs:List V)Q E,Room k (A.deeper (z7 qual scope s.heap.objs.size f du))->C vs H Q E ->
   ∃t,CW (CF CX P w K mg base N qual scope f du A outer s H E) body t/\t { nx:=λ_ c=>Q .non c,rt:=Q } (sM N vs) H) :
  dP P w K mg base CX (k+1) f (nK name qual params body scope dV kV rh pm an du ct) j C:=by
 refine⟨len,λA outer s H G Z vs Q E m h M r i=>?_⟩;have R:=len _ _ _ _ i;have F:K.In s.heap:=h.mod.kin.keeps λb o e=>(h.bs b o e).1;have p:s.heap.NoLimit:=h.mod.nolimit.keeps λb o e=>(h.bs b o e).1
 have g:∀y∈j.zip Z,scope.names.lookup y.1=some .local\/(scope.names.lookup y.1=some .cell/\((ae (s.heap.objs.size+1) scope.names []).lookup y.1).isSome=true):=λ⟨n,v⟩ X=>by
  rcases S.par n (C1 X).1 with q | q
  ·exact .inl q
  ·exact .inr ⟨q,GC _ _ _ (.inl q)⟩
 refine codeAny_call_function m.depth (F _ _ Y) Fx S.co S.gen Fx (PySem.W.codeRec_of F l) (M _ _ _ _ ?_);refine wpAny_newFunctionEnv_cells S.kind g λenv O L x=>?_;subst O;refine⟨p.keeps x.toInCall.keep,codeAny_func ?_⟩;obtain⟨t,U,T⟩:=d A outer s H vs Q E (m.deeper _) i;have I:eL (CF CX P w K mg base N qual scope f du A outer s H E) [] (sM N vs) H L:=OX S m.hd h R r x;refine iE (U [] L (sM N vs) H _ I T) (λfl B hs=>?_) λe B hs=>hs
 have fin:∀{a:St}{c:Hp}{v:V}{u:Value},eL (CF CX P w K mg base N qual scope f du A outer s H E) [] a c B->jM v u->Q v c->CE outer P w H s Q u B:=
  λ{a c v u} J z q=>⟨v,c,J.os,J.bare,J.base,J.hok,z,q⟩
 cases fl with
 |ret u=>
  obtain⟨v,a,c,J,z,q⟩:=hs;exact fin J z q
 |next=>
  obtain⟨a,c,J,q⟩:=hs;exact fin (v:=V.non) (u:=e9) J Fx q
 |brk=>
  obtain⟨_,_,_,q⟩:=hs;exact n9 q
 |cont=>
  obtain⟨_,_,_,q⟩:=hs;exact n9 q
section
variable{X:Cx}{x:Str}{p pos:Pos}{e:Expr}{a:List Expr}{t:TA}{id T:String}{r:List V->Hp->VK->Prop}
def VM(r:List V->Hp->VK->Prop)(t:TA):TE:=λc H Q=>t c H λvs b=>r vs b Q
def BH(k:mI X (.builtin id) r)(m:Gl X x)(n:X.mg x=none)(q:f6 x=some (.builtin id))(j:PA X (e::a) t)(o:x≠"__name__":=by decide)(c:(x==("__debug__":Str))=false:=by decide)
  (l:cS (e::a) X.env=(false,eval e X.env)::cS a X.env:=by rfl) (d:(r4 pos (cS a X.env)).any (·.1)=false:=by rfl):PE X (.Call (.Name x p) (e::a) [] pos) (VM r t):=by
 intro b s f H Q I h;refine ai (tT I m n q ?_ o c);exact PyProof.Rows.callWith_builtin1 (lK (j pos b s f H _ I h) λy w ⟨vs,g,i,v,u⟩=>k b w f g vs y Q i v u) l d
def kQ(k:mI X (.type T) r)(m:Gl X x)(n:X.mg x=none)(q:f6 x=some (.type T))(j:PA X (e::a) t)(o:x≠"__name__":=by decide)(c:(x==("__debug__":Str))=false:=by decide)
  (l:cS (e::a) X.env=(false,eval e X.env)::cS a X.env:=by rfl) (d:(r4 pos (cS a X.env)).any (·.1)=false:=by rfl):PE X (.Call (.Name x p) (e::a) [] pos) (VM r t):=by
 intro b s f H Q I h;refine ai (tT I m n q ?_ o c);exact i4 (lK (j pos b s f H _ I h) λy w ⟨vs,g,i,v,u⟩=>k b w f g vs y Q i v u) l d
end
end L2
namespace HT
section
variable{prog:cH}{w:d7}{A:f9}{E:Value->Shared->Prop}{s:Shared}
def cat_tup{t b:Addr}{vs a:List Value}{Q:Value->Shared->Prop}(v:tu s.heap t vs.toArray)(u:tu s.heap b a.toArray)(m:vs≠[])
  (q:a=[]->Q (.ref t) s) (r:a≠[]->Q (.ref s.heap.objs.size) { s with heap:=s.heap.push { cls:=.type "tuple",data:=.seq (vs++a).toArray } })
  (j:vs.length+a.length<=bO):wpAny (model prog w) A (l5 .Add (.ref t) (.ref b)) Q E s:=by
 obtain⟨⟨cls,dd,data,p⟩,i,l,n,hd⟩:=id v;obtain⟨⟨k,d,data2,h⟩,c,f,o,g⟩:=id u;simp only at l hd f g;subst l hd f g;have e:vs.toArray++a.toArray=(vs++a).toArray:=by simp
 by_cases hw:a=[]
 ·exact dj ⟨_,i,Fx⟩ ⟨_,c,Fx⟩ dv gw sK rG (qN _ _)
   (tuple_addW1 t b vs.toArray a.toArray n o dd d p h (by simpa using m) (by simp[hw])) ⟨i,c,q hw⟩
 ·refine dj ⟨_,i,Fx⟩ ⟨_,c,Fx⟩ dv gw sK rG (qN _ _)
   (tuple_addW2 t b vs.toArray a.toArray n o dd d p h (by simpa using m) (by simpa using hw) (by rw[bI,bI];exact j)) ⟨i,c,?_⟩
  rw[e];exact r hw
noncomputable def sIx(n d:Nat):Option Int->Nat
|none=>d
|some v=>if v<0 then(v+(n:Int)).toNat else min v.toNat n
def sIx_none(n d:Nat):sIx n d none=d:=rfl
def sIx_nat(n d k:Nat):sIx n d (some (k:Int))=min k n:=by
 show(if(k:Int)<0 then((k:Int)+(n:Int)).toNat else min (k:Int).toNat n)=min k n;rw[a9 Fu,iJ]
def sIx_le(n d:Nat)(hd:d<=n)(o:Option Int):sIx n d o<=n:=by
 cases o with
 |none=>exact hd
 |some v=>
  show(if v<0 then(v+(n:Int)).toNat else min v.toNat n)<=n;by_cases a:v<0
  ·rw[b8 a];lia
  ·rw[a9 a];exact CN _ _
def clip_eq(v:Int)(n d:Nat):(if v<0 then max (v+(n:Int)) 0 else min v (n:Int))=((sIx n d (some v):Nat):Int):=by
 show(if v<0 then max (v+(n:Int)) 0 else min v (n:Int))=(((if v<0 then(v+(n:Int)).toNat else min v.toNat n):Nat):Int);by_cases a:v<0
 ·simp only[b8 a];lia
 ·simp only[a9 a];lia
def LB(lo a:Option Int)(n:Nat):v7 lo a 1 (n:Int)=(((sIx n 0 lo:Nat):Int),((sIx n n a:Nat):Int)):=by
 have b:¬((1:Int)<0):=by lia
 unfold v7;simp only[b,i5];refine Prod.ext ?_ ?_
 ·cases lo with
  |none=>rfl
  |some v=>exact clip_eq v n 0
 ·cases a with
  |none=>rfl
  |some v=>exact clip_eq v n n
def J4(i j:Nat):m7 (i:Int) (j:Int) 1=j-i:=by
 unfold m7;have a:(1:Int)>0:=by lia
 simp only[a,t6,aJ3];split<;>lia
def A7{Q:Option Int->Shared->Prop}(p:IsPart v o)(h:Q o s):wpAny (model prog w) A (Builtin.Slice.slicePartIndex v) Q E s:=by
 cases p with
 |none=>exact slicePart_none h
 |int i t=>exact slicePart_int h
def qR{d:Addr}{lo}{n:Nat}{Q:Int×Int×Nat->Shared->Prop}(hs:s.heap.IsSliceOf d vl vu .none)(f:IsPart vl lo)(g:IsPart vu b)
  (h:Q (((sIx n 0 lo:Nat):Int),1,sIx n n b-sIx n 0 lo) s):wpAny (model prog w) A (br (.ref d) (pure (n:Int))) Q E s:=by
 obtain⟨os,c,e,a⟩:=id hs;unfold br Builtin.Slice.sliceFields;refine aE (aE (f8 c a (x:=vl) Fx (aE (f8 c a (x:=vu) Fx (aE (f8 c a (x:=.none) Fx (aL ?_)))))));refine aE (slicePart_none ?_);show wpAny _ _ (if((1:Int)==0)=true then _ else _) _ _ s;rw[a9 Ft];refine aE (A7 f (aE (A7 g (aE (aL ?_)))));show wpAny _ _ (match v7 lo b 1 (n:Int)with | (lo,b)=>pure (lo,(1:Int),m7 lo b 1)) _ _ s;rw[LB lo b n];show wpAny _ _ (pure (((sIx n 0 lo:Nat):Int),(1:Int),m7 ((sIx n 0 lo:Nat):Int) ((sIx n n b:Nat):Int) 1)) _ _ s;rw[J4];exact aL h
def RQ(a:Array Value)(i k:Nat):((eW k).filterMap λ(m:Nat)=>a[((i:Int)+(m:Int)*1).toNat]?).toArray=((a.toList.drop i).take k).toArray:=by
 have e:(λ(m:Nat)=>a[((i:Int)+(m:Int)*1).toNat]?)=λm=>a[i+m]?:=by
  funext m;have:((i:Int)+(m:Int)*1).toNat=i+m:=by lia
  rw[this]
 rw[e];have:=pick_run a i k;rw[QC]at this;have b:((λx=>a[x]?)∘λx=>i+x)=λm=>a[i+m]?:=rfl;rw[b]at this;rw[this]
def getItem_tuple_cut{t i:Addr}{a:Array Value}{lo}{Q:Value->Shared->Prop}(c:tu s.heap t a)(hs:s.heap.IsSliceOf i vl vu .none)(l:IsPart vl lo)(n:IsPart vu hi)
  (hw:¬(sIx a.size 0 lo=0/\sIx a.size a.size hi=a.size))
  (h:Q (.ref s.heap.objs.size) { s with heap:=s.heap.push { cls:=.type "tuple",data:=.seq ((a.toList.drop (sIx a.size 0 lo)).take (sIx a.size a.size hi-sIx a.size 0 lo)).toArray } })
  (k:a.size<=bO):wpAny (model prog w) A (bf (.ref t) (.ref i)) Q E s:=by
 have b:sizeOk (.seq ((a.toList.drop (sIx a.size 0 lo)).take (sIx a.size a.size hi-sIx a.size 0 lo)).toArray):=by
  show((a.toList.drop (sIx a.size 0 lo)).take (sIx a.size a.size hi-sIx a.size 0 lo)).toArray.size<=bO;rw[bI,bD,eG,dZ];lia
 have o:sIx a.size a.size hi<=a.size:=sIx_le _ _ (aM _) hi;obtain⟨os,g,e,j⟩:=id hs;have d:s.TypeIs (.ref i) "slice":=⟨os,g,e⟩;unfold bf
 try with_reducible refine j7 ?_
 first | refine aE (aL ?_) | skip
 refine aE (uk c.typeIs Ft ?_)
 refine aE (f7 (name:=c9 "__getitem__") c.typeIs j6
  (eX j6 c.typeIs rl ?_ (se _ _)))
 show wpAny _ _ (v1 (.ref t) >>= _) _ _ s;refine aE (tupleItemsOf_ c ?_);refine aE (bi d ?_);rw[b8 Ft];refine aE (qR hs l n ?_)
 have f:¬((((sIx a.size 0 lo:Nat):Int)==0&&(1:Int)==1&&(sIx a.size a.size hi-sIx a.size 0 lo)==a.size)=true):=by
  intro q;rw[cL,cL]at q;have p:((sIx a.size 0 lo:Nat):Int)=0:=ci q.1.1;have r:sIx a.size a.size hi-sIx a.size 0 lo=a.size:=ci q.2;exact hw ⟨Fu,Fu⟩
 show wpAny _ _ (if(((sIx a.size 0 lo:Nat):Int)==0&&(1:Int)==1&&(sIx a.size a.size hi-sIx a.size 0 lo)==a.size)=true then _ else _) _ _ s;rw[a9 f,RQ]
 first
  |exact aE (m:=n6 _) (eY (aL ⟨_,Fx,aL h⟩) b)
  |exact aE (m:=n6 _) (eY (aE (aL (aL ⟨_,Fx,aL h⟩))) b)
  |exact aE (aE (m:=n6 _) (eY (aL (aL ⟨_,Fx,aL h⟩)) b))
  |exact aE (aE (m:=n6 _) (eY (aL ⟨_,Fx,aL h⟩) b))
end
end HT
namespace L2
abbrev TO:=St->Hp->(Option Int->Hp->Prop)->Prop
def PO(X:Cx)(e:Option Expr)(t:TO):Prop:=
 ∀pins s σ H(Q:Option Int->Hp->Prop),eL X pins σ H s->t σ H Q ->
  wpAny (model X.prog X.w) X.A (evalPart e X.env) (λu b=>∃o a,eL X pins σ a b/\IsPart u o/\Q o a) X.xe s
def VL:TO:=λ_ H Q=>Q none H
def Vl(t:TE):TO:=λb H Q=>t b H λx a=>∃i,x=.int i/\Q (some i) a
section
variable{X:Cx}{e:Expr}{d:TE}{lo c:Option Expr}{g th:TO}{pos f:Pos}
def WJ:PO X none VL:=by
 intro a s b H Q I h;rw[evalPart_none];exact aL ⟨none,H,I,.none,h⟩
def WI(h:PE X e d):PO X (some e) (Vl d):=by
 intro a s n H Q I hw;rw[evalPart_some];refine lK (h a s n H _ I hw) λu o m=>?_;obtain⟨x,b,j,l,k⟩:=m;obtain⟨i,rfl,q⟩:=k;obtain⟨t,rfl⟩:=l;exact⟨some i,b,j,.int i t,q⟩
def UR(X:Cx)(r:V->Option Int->Option Int->Hp->VK->Prop):Prop:=
 ∀pins(s:Shared)σ H(x:V)(v b h:Value)(lo c:Option Int)(a:Addr)Q,eL X pins σ H s->jM x v->s.heap.IsSliceOf a b h .none->IsPart b lo->IsPart h c->r x lo c H Q ->
  ∃T id,typeLookup (.type T) "__getitem__"=pure (some (.builtin id))/\s.TypeIs v T/\wpAny (model X.prog X.w) X.A (bf v (.ref a)) (EP X pins σ Q) X.xe s
def UR.or{r j:V->Option Int->Option Int->Hp->VK->Prop}(h:UR X r)(p:UR X j):UR X (λx lo c H Q=>r x lo c H Q\/j x lo c H Q):=by
 intro a s o H x v m n lo c l Q I k hs b i q;rcases q with q | q
 ·exact h a s o H x v m n lo c l Q I k hs b i q
 ·exact p a s o H x v m n lo c l Q I k hs b i q
def Kt(r:V->Option Int->Option Int->Hp->VK->Prop)(d:TE)(g th:TO):TE:=λa H Q=>d a H λx b=>g a b λl h=>th a h λu H3=>r x l u H3 Q
def G8{r:V->Option Int->Option Int->Hp->VK->Prop}(G:UR X r)(C:PE X e d)(F:PO X lo g)(K:PO X c th):PE X (.Subscript e (.Slice lo c none f) pos) (Kt r d g th):=by
 intro a s i H Q I h;refine sa (lK (C a s i H _ I h) λv S m=>?_);obtain⟨x,n,p,R,N⟩:=m;refine wpAny_Slice (lK (F a S i n _ p N) λj U ⟨l,o,t,L,O⟩=>lK (K a U i o _ t O) λk s3 m=>?_);obtain⟨u,H3,y,M,P⟩:=m;rw[evalPart_none];refine aL ?_;have z:eL X a i H3 { s3 with heap:=s3.heap.push { cls:=.type "slice",data:=.fields #[j,k,.none] } }:=y.kept (t':=s3.toks) λb ob q=>aH _ q;obtain⟨T,id,B,J,E⟩:=G a { s3 with heap:=s3.heap.push { cls:=.type "slice",data:=.fields #[j,k,.none] } } i H3 x v j k l u s3.heap.objs.size Q z R (Heap.IsSliceOf.new ..) L M P;show wpAny (model X.prog X.w) X.A (gx e (.Slice lo c none f) v (.ref s3.heap.objs.size)) (EP X a i Q) X.xe { s3 with heap:=s3.heap.push { cls:=.type "slice",data:=.fields #[j,k,.none] } };exact tail_any (ops:=[.ref s3.heap.objs.size,v]) J B E (by with_unfolding_all rfl)
noncomputable def FY(a:List V)(lo c:Option Int):List V:=(a.drop (HT.sIx a.length 0 lo)).take (HT.sIx a.length a.length c-HT.sIx a.length 0 lo)
def zN(a:List V)(lo c:Option Int):(FY a lo c).length<=a.length:=by
 unfold FY;rw[bD,eG];lia
def Ma(K:aQ):V->Option Int->Option Int->Hp->VK->Prop:=λx lo c H Q=>∃a b,x=.ref a/\pG K H a b /\
 ¬(HT.sIx b.length 0 lo=0/\HT.sIx b.length b.length c=b.length)/\∀p,H p=none->Q (.ref p) (iA H p (.tup (FY b lo c)))
def Ya:UR X (Ma X.K):=by
 intro n s B H x v z A lo c y Q I w hs t u h;obtain⟨a,j,rfl,p,hw,q⟩:=h;cases w;obtain⟨k,r,l,m⟩:=I.tuple p;have i:k.toArray.size=j.length:=by rw[bI];exact r.length.symm
 refine⟨"tuple",_,PyProof.Rows.slot_tuple_getitem.lookup,l.typeIs,?_⟩;refine HT.getItem_tuple_cut l hs t u (by rw[i];exact hw) ?_ (by rw[i];exact m);rw[i];refine⟨.ref s.heap.objs.size,_,I.laid (t':=s.toks) (o:=.tup (FY j lo c)) (λb ob q=>aH _ q) (aM _) ?_,Fx,q _ (I.hok.fresh (aM _))⟩;exact⟨bP (zN j lo c) m,_,(r.drop (HT.sIx j.length 0 lo)).take (HT.sIx j.length j.length c-HT.sIx j.length 0 lo),DB.new _ _⟩
def Pq(K:aQ):R2:=λx y H Q=>∃a b i h,x=.ref a/\y=.ref b/\pG K H a i/\pG K H b h/\i≠[]/\i.length+h.length<=bO /\
 (h=[]->Q (.ref a) H)/\(h≠[]->∀p,H p=none->Q (.ref p) (iA H p (.tup (i++h))))
def gO.nil_iff(r:gO xs us):us=[]↔xs=[]:=by
 cases r with
 |nil=>simp
 |cons _ _=>simp
def WQ:qE X (l5 .Add) (Pq X.K):=by
 intro m s L H x y v u Q I E F h;obtain⟨a,b,G,J,rfl,rfl,n,p,r,k,B,C⟩:=h;cases E;cases F;obtain⟨t,j,A,_⟩:=I.tuple n;obtain⟨l,i,f,_⟩:=I.tuple p;refine HT.cat_tup A f (λz=>r (j.nil_iff.mp z)) (λz=>⟨.ref a,H,I,Fx,B (i.nil_iff.mp z)⟩) (λz=>?_) (by rw[<- j.length,<- i.length];exact k);refine⟨.ref s.heap.objs.size,_,I.laid (t':=s.toks) (o:=.tup (G++J)) (λb ob q=>aH _ q) (aM _) ?_,Fx,C (λw=>z (i.nil_iff.mpr w)) _ (I.hok.fresh (aM _))⟩;exact⟨by rw[aV];exact k,_,j.append i,DB.new _ _⟩
end
noncomputable def Ga(n:Nat)(i:Int):Option Nat:=if 0<=i then(if i<n then some i.toNat else none)else if -(n:Int)<=i then some (i+n).toNat else none
noncomputable def atI{b:Type}(a:List b)(i:Int):Option b:=(Ga a.length i).bind λj=>a[j]?
def W2{n:Nat}{i:Int}{j:Nat}(h:Ga n i=some j):seqIndex? i n=some j/\j<n/\-(n:Int)<=i/\i<n:=by
 unfold Ga at h;by_cases b:0<=i
 ·rw[b8 b]at h;by_cases a:i<n
  ·rw[b8 a]at h;have e:i.toNat=j:=c7 h;exact⟨by rw[seqIndex_of b a,e],Fu,Fu,a⟩
  ·rw[a9 a]at h;cases h
 ·rw[a9 b]at h;by_cases a:-(n:Int)<=i
  ·rw[b8 a]at h;have e:(i+n).toNat=j:=c7 h;exact⟨by rw[seqIndex_neg Fu a,e],Fu,a,Fu⟩
  ·rw[a9 a]at h;cases h
def F3{g:Type}{a:List g}{i:Int}{v}(h:atI a i=some v):∃j,seqIndex? i a.length=some j/\a[j]?=some v/\j<a.length/\-(a.length:Int)<=i/\i<a.length:=by
 unfold atI at h
 cases e:Ga a.length i with
 |none=>rw[e]at h;cases h
 |some j=>
  rw[e]at h;obtain⟨b,c,d,f⟩:=W2 e;exact⟨j,b,h,c,d,f⟩
def eB{a:Type}{xs:List a}{j:Nat}{v:a}(h:xs[j]?=some v):atI xs (j:Int)=some v:=by
 have b:j<xs.length:=(aC.mp h).1
 have e:Ga xs.length (j:Int)=some j:=by
  unfold Ga;rw[b8 Fu,b8 Fu];simp
 unfold atI;rw[e];exact h
def M7(b:Expr):Prop:=∀o i,ez b false o i=operate [o,i] (bf o i)
def U6(X:Cx)(r:R2):Prop:=
 ∀(b a:Expr)pins s σ H(x y:V)(v u:Value)Q,eL X pins σ H s->jM x v->jM y u->r x y H Q ->
  ez a false v u=operate [v,u] (bf v u)->wpAny (model X.prog X.w) X.A (gx b a v u) (EP X pins σ Q) X.xe s
def P5(X:Cx)(id:String)(r:V->List V->Hp->VK->Prop):Prop:=
 ∀pins s σ H(x:V)(b:List V)(v:Value)(a:List Value)Q,eL X pins σ H s->jM x v->gO b a->r x b H Q ->
  wpAny (model X.prog X.w) X.A (call (.builtin id) (v::a)) (EP X pins σ Q) X.xe s
section
variable{X:Cx}{a b:Expr}{m A:TE}{pos:Pos}
def U6.or{r f:R2}(h:U6 X r)(k:U6 X f):U6 X (λx y H Q=>r x y H Q\/f x y H Q):=by
 intro d c e s j H x y v u Q I g i q hs;rcases q with q | q
 ·exact h d c e s j H x y v u Q I g i q hs
 ·exact k d c e s j H x y v u Q I g i q hs
def G9(i:U6 X r)(f:PE X a m)(g:PE X b A)(hs:M7 b):PE X (.Subscript a b pos) (Gk r m A):=by
 intro c s n H Q I h;exact sa (Hv f g I h λv u l x y d e j k q=>i a b c l n d x y v u Q e j k q (hs _ _))
def Ka(K:aQ):R2:=λx y H Q=>∃p c i v,x=.ref p/\y=.int i/\mT K H p c/\atI c i=some v/\Q v H
def Kc(K:aQ):R2:=λx y H Q=>∃p c i v,x=.ref p/\y=.int i/\pG K H p c/\atI c i=some v/\Q v H
def Kb:R2:=λx y H Q=>∃z i c,x=.str z/\y=.int i/\z.length<=bO/\atI z.cps.toList i=some c/\Q (.str ⟨#[c]⟩) H
def W1:U6 X (Ka X.K):=by
 intro n l c s C H x y v u Q I N O h hs;obtain⟨p,U,i,z,rfl,rfl,M,J,q⟩:=h;cases N;obtain⟨t,rfl⟩:=O;obtain⟨f,r,g,T⟩:=I.list M;obtain⟨j,d,E,R,F,G⟩:=F3 J;obtain⟨w,o,k⟩:=r.get E;have L:=r.length;have S:=yM;have fin:EP X c C Q w s:=⟨z,H,I,k,q⟩;by_cases B:0<=i
 ·have e:i.toNat=j:=by
   rw[seqIndex_of B G]at d;exact c7 d
  exact item_listR g.isList B Fu (by rw[e];simpa using o) fin hs
 ·have e:(i+(f.toArray.size:Int)).toNat=j:=by
   rw[seqIndex_neg Fu F]at d;rw[bI,<- L];exact c7 d
  exact iw (x:=w) g.isList.typeIs slot_list_getitem.lookup
   (wpAny_getItem_list_neg (Q:=λr P=>r=w/\EP X c C Q r P) g.isList Fu (by rw[bI]<;>lia) Fu (by rw[e];simpa using o) ⟨Fx,fin⟩) hs
def Wy:U6 X (Kc X.K):=by
 intro f e c s k H x y v u Q I G J h hs;obtain⟨p,S,i,z,rfl,rfl,E,B,q⟩:=h;cases G;obtain⟨t,rfl⟩:=J;obtain⟨F,r,g,R⟩:=I.tuple E;obtain⟨j,n,o,M,N,O⟩:=F3 B;obtain⟨w,l,d⟩:=r.get o;have C:=r.length;have P:=yM;have fin:EP X c k Q w s:=⟨z,H,I,d,q⟩
 exact iw (x:=w) g.typeIs slot_tuple_getitem.lookup
  (getItem_tuple (j:=j) (Q:=λr L=>r=w/\EP X c k Q r L) g Fu Fu (by rw[bI,<- C];exact n) (by simpa using l) ⟨Fx,fin⟩) hs
def Wx:U6 X Kb:=by
 intro e d g s K H x y v u Q I B C h hs;obtain⟨z,i,c,rfl,rfl,G,r,q⟩:=h;obtain⟨t,rfl⟩:=B;obtain⟨J,rfl⟩:=C;obtain⟨j,f,n,E,o,p⟩:=F3 r;have w:z.cps.toList.length=z.length:=by simp[t8]
 rw[w]at f o p;have F:=yM
 exact tail_any (bg s z t) slot_str_getitem.lookup (getItem_str (c:=c) (by
  have k:decide (i < -(2^63:Int))=false:=c6 Fu;have l:decide (i>=2^63)=false:=c6 Fu;rw[k,l,rN]) (by rw[f];simpa using n) ⟨.str ⟨#[c]⟩,H,I.tok _,⟨_,Fx⟩,q⟩) hs
def Jb(K:aQ):R2:=λx y H Q=>Ka K x y H Q\/Kc K x y H Q\/Kb x y H Q
def aX:U6 X (Jb X.K):=W1.or (Wy.or Wx)
def E1(lo c:Option Int)(n:Nat):(y7 lo c none n).1=((HT.sIx n 0 lo:Nat):Int)/\(y7 lo c none n).2.1=((HT.sIx n n c:Nat):Int)/\(y7 lo c none n).2.2=1:=by
 refine⟨?_,?_,Fx⟩
 ·cases lo with
  |none=>simp[y7,HT.sIx]
  |some i=>
   simp only[y7,HT.sIx,P7,show(1:Int)>0 by decide,t6];by_cases h:i<0
   ·simp only[h,t6]<;>lia
   ·simp only[h,i5]<;>lia
 ·cases c with
  |none=>simp[y7,HT.sIx]
  |some i=>
   simp only[y7,HT.sIx,P7,show(1:Int)>0 by decide,t6];by_cases h:i<0
   ·simp only[h,t6]<;>lia
   ·simp only[h,i5]<;>lia
def C4(c:List Value)(lo d:Option Int):slicePick c.toArray lo d none=((c.drop (HT.sIx c.length 0 lo)).take (HT.sIx c.length c.length d-HT.sIx c.length 0 lo)).toArray:=by
 obtain⟨e,f,g⟩:=E1 lo d c.toArray.size;unfold slicePick;rw[e,f,g];simp only[sliceRange_one,pick_run,bI]<;>rfl
def Ke(K:aQ):V->Option Int->Option Int->Hp->VK->Prop:=λx lo d H Q=>∃a c,x=.ref a/\mT K H a c/\∀p,H p=none->Q (.ref p) (iA H p (.lst (FY c lo d)))
def LS:UR X (Ke X.K):=by
 intro g s y H x v u w lo e t Q I p hs l n h;obtain⟨a,c,rfl,i,q⟩:=h;cases p;obtain⟨k,r,f,j⟩:=I.list i;have d:=r.length;refine⟨"list",_,slot_list_getitem.lookup,f.isList.typeIs,?_⟩;refine wpAny_getItem_list_slice f.isList hs l n .none Fv ?_ (by rw[bI]<;>lia);rw[C4,<- d];refine⟨.ref s.heap.objs.size,_,I.laid (t':=s.toks) (o:=.lst (FY c lo e)) (λb ob q=>aH _ q) (aM _) ?_,Fx,q _ (I.hok.fresh (aM _))⟩;exact⟨bP (zN c lo e) j,_,0,(r.drop (HT.sIx c.length 0 lo)).take (HT.sIx c.length c.length e-HT.sIx c.length 0 lo),aY _ Fx⟩
def F1:mI X (.builtin "len") (λj H Q=>∃p d,j=[.ref p]/\(mT X.K H p d\/pG X.K H p d)/\Q (.int d.length) H):=by
 intro i s t H j o Q I r h;obtain⟨p,d,rfl,hq,q⟩:=h;obtain⟨u,rfl,l⟩:=oG r;cases l;have n:=yM;rcases hq with hq | hq
 ·obtain⟨e,g,f,k⟩:=I.list hq;have c:=g.length;exact Calls.call_len_list f.isList (by simp only[bI]<;>lia) ⟨.int d.length,H,I.tok _,⟨s.toks+1,by rw[bI,c]⟩,q⟩
 ·obtain⟨e,g,f,k⟩:=I.tuple hq;have c:=g.length;exact len_tuple f (by simp only[bI]<;>lia) ⟨.int d.length,H,I.tok _,⟨s.toks+1,by rw[bI,c]⟩,q⟩
def F0:mI X (.builtin "len") (λd H Q=>∃z,d=[.str z]/\z.length<=bO/\Q (.int z.length) H):=by
 intro c s i H d g Q I r h;obtain⟨z,rfl,f,q⟩:=h;obtain⟨u,rfl,t,rfl⟩:=oG r;have e:=yM;exact len_str Fu ⟨.int z.length,H,I.tok _,⟨_,Fx⟩,q⟩
def mI.or{r e:List V->Hp->VK->Prop}(h:mI X f r)(k:mI X f e):mI X f (λd H Q=>r d H Q\/e d H Q):=by
 intro c s j H d i Q I g q;rcases q with q | q
 ·exact h c s j H d i Q I g q
 ·exact k c s j H d i Q I g q
def sE:mI X (.type "list") (λB H Q=>∃p i,B=[.ref p]/\(mT X.K H p i\/pG X.K H p i)/\∀l,H l=none->Q (.ref l) (iA H l (.lst i))):=by
 intro t s E H B F Q I r h;obtain⟨p,i,rfl,hq,q⟩:=h;obtain⟨u,rfl,C⟩:=oG r;cases C
 have fin:∀(c:List Value),gO i c->i.length<=bO->∀(d:Heap)(f:Nat),(∀b z,s.heap.get? b=some z->d.get? b=some z) ->
   d.get? s.heap.objs.size=some { cls:=.type "list",dict:=none,data:=.seq c.toArray f,slots:=#[] }->EP X t E Q (.ref s.heap.objs.size) { s with heap:=d }:=λc g k d f kp e=>
  ⟨.ref s.heap.objs.size,_,I.laid (t':=s.toks) kp (aM _) (show mH X.prog X.w _ d _ (.lst i)from⟨k,c,f,g,e⟩),Fx,q _ (I.hok.fresh (aM _))⟩
 rcases hq with hq | hq
 ·obtain⟨c,g,y,k⟩:=I.list hq;have j:=g.length;obtain⟨o,x,v,n,hd⟩:=y.isList;exact call_list_seq p (.inl Fx) x v hd (λd f kp e=>fin c g k d f kp e) (by simp only[bI]<;>lia)
 ·obtain⟨c,g,y,k⟩:=I.tuple hq;have j:=g.length;obtain⟨o,x,v,n,hd⟩:=y;exact call_list_seq p (.inr Fx) x v hd (λd f kp e=>fin c g k d f kp e) (by simp only[bI]<;>lia)
def jJ:mI X (.type "tuple") (λx H Q=>∃p f,x=[.ref p]/\((mT X.K H p f/\∀l,H l=none->Q (.ref l) (iA H l (.tup f)))\/(pG X.K H p f/\Q (.ref p) H))):=by
 intro c s y H x C Q I r h;obtain⟨p,f,rfl,h⟩:=h;obtain⟨u,rfl,B⟩:=oG r;cases B;rcases h with⟨i,q⟩ | ⟨i,q⟩
 ·obtain⟨d,k,j,v⟩:=I.list i;have t:=k.length;refine call_tuple_list j.isList (λg kp=>?_) (by simp only[bI]<;>lia);have n:eL X c y H { s with heap:=g }:=I.kept (t':=s.toks) kp
  have z:eL X c y (iA H g.objs.size (.tup f)) { s with heap:=g.push { cls:=.type "tuple",data:=.seq d.toArray } }:=
   n.laid (t':=s.toks) (λb o e=>aH _ e) (aM _) (show mH X.prog X.w _ _ _ (.tup f)from⟨v,d,k,DB.new _ _⟩)
  exact⟨.ref g.objs.size,_,z,Fx,q _ (n.hok.fresh (aM _))⟩
 ·obtain⟨d,k,j,v⟩:=I.tuple i;exact call_tuple_same j ⟨.ref p,H,I,Fx,q⟩
def Hf(K:aQ)(T:String)(x:V)(H:Hp):Prop:=match x with
|.str _=>T="str"
|.int _=>T="int"
|.ref p=>(T="list"/\∃d,mT K H p d)\/(T="tuple"/\((∃o,K.lookup p=some o/\o.cls=.type "tuple"/\o.dict=none)\/∃d,pG K H p d)) \/
  (T="dict"/\((∃c,H p=some (.dK c))\/∃c,H p=some (.dT c)))\/(T="set"/\∃S n,H p=some (.set S n))
|_=>False
def QS{s:Shared}(I:eL X pins σ H s)(r:jM x v)(ty:Hf X.K T x H) :
  s.TypeIs v T/\∀a,v=.ref a->∃ob,s.heap.get? a=some ob/\ob.dict=none:=by
 cases x with
 |str z=>
  obtain⟨t,rfl⟩:=r;cases (show T="str" from ty);exact⟨bg s z t,λ_ e=>nomatch e⟩
 |int i=>
  obtain⟨t,rfl⟩:=r;cases (show T="int" from ty);exact⟨typeIs_int s i t,λ_ e=>nomatch e⟩
 |ref p=>
  cases r;rcases ty with⟨rfl,l,g⟩ | ⟨rfl,⟨o,hk,f,hd⟩ | ⟨l,g⟩⟩ | ⟨rfl,hk⟩ | ⟨rfl,S,n,hk⟩
  ·obtain⟨k,_,j,_⟩:=I.list g;refine⟨j.isList.typeIs,λa e=>?_⟩;cases e;obtain⟨o,n,e,c,hd,_⟩:=j;exact⟨o,e,hd⟩
  ·refine⟨⟨o,I.kIn p o hk,f⟩,λa e=>?_⟩;cases e;exact⟨o,I.kIn _ o hk,hd⟩
  ·obtain⟨o,e,f,hd⟩:=I.tupleN g;refine⟨⟨o,e,f⟩,λa d=>?_⟩;cases d;exact⟨o,e,hd⟩
  ·have z:∃o,s.heap.get? p=some o/\o.ExactDict:=by
    rcases hk with⟨h,hk⟩ | ⟨h,hk⟩
    ·obtain⟨_,_,_,_,o,_,_,e,ex,_⟩:=I.hok p _ hk;exact⟨o,e,ex⟩
    ·obtain⟨_,_,_,_,o,_,_,e,ex,_⟩:=I.hok p _ hk;exact⟨o,e,ex⟩
   obtain⟨o,e,ex⟩:=z;refine⟨⟨o,e,ex.1⟩,λa d=>?_⟩;cases d;exact⟨o,e,ex.2.1⟩
  ·obtain⟨o,_,_,_,e,ex,_⟩:=I.hok p _ hk;refine⟨⟨o,e,ex.1⟩,λa d=>?_⟩;cases d;exact⟨o,e,ex.2.1⟩
 |_=>exact n9 ty
def Ki(K:aQ)(T:String)(r:V->List V->Hp->VK->Prop)(to:TE):TE:=λd H Q=>to d H λx c=>Hf K T x c/\r x [] c Q
def U3(K:aQ)(T:String)(r:V->List V->Hp->VK->Prop)(to:TE)(t:TA):TE:=λd H Q=>to d H λx c=>Hf K T x c/\t d c λf e=>r x f e Q
variable{o e:Expr}{k:List Expr}{to:TE}{t:TA}{name:Str}{g d:Pos}{T id:String}{r:V->List V->Hp->VK->Prop}
def Xl(B:PlainAttrs T)(slot:Slot T name id)(j:typeOf (.builtin id)=pure (.type "method_descriptor"))(y:P5 X id r)(z:PE X o to)
  (f:gr o name X.env (eval o X.env)=eval o X.env:=by rfl) (i:(g.endLine==d.line)=true:=by rfl):PE X (.Call (.Attribute o name g) [] [] d) (Ki X.K T r to):=by
 intro c s p H Q I h;refine ij f i (lK (z c s p H _ I h) λv E F=>?_);obtain⟨x,q,l,n,ty,C⟩:=F;obtain⟨u,w⟩:=QS l n ty;exact⟨T,id,B,slot,j,u,w,al Fx (gm (y c E p q x [] v [] Q l n .nil C))⟩
def jZ(L:PlainAttrs T)(slot:Slot T name id)(n:typeOf (.builtin id)=pure (.type "method_descriptor"))(G:P5 X id r)(J:PE X o to)(F:PA X (e::k) t)
  (i:gr o name X.env (eval o X.env)=eval o X.env:=by rfl)
  (l:((r4 d (cS (e::k) X.env)).all (λx=>!x.1)&&(backToKw d (keywordEach [] X.env)).all (λx=>x.1.isSome)
  &&decide ((e::k).length+([]:List Keyword).length+(if([]:List Keyword).isEmpty then 0 else 1)<30))=true:=by rfl)
  (j:(g.endLine==d.line)=true:=by rfl) (hs:cS (e::k) X.env=(false,eval e X.env)::cS k X.env:=by rfl) (f:(r4 d (cS k X.env)).any (·.1)=false:=by rfl) :
  PE X (.Call (.Attribute o name g) (e::k) [] d) (U3 X.K T r to t):=by
 intro c s p H Q I h;refine wpAny_Call_method_late i l j Fx (lK (J c s p H _ I h) λv P U=>?_);obtain⟨x,y,q,w,ty,M⟩:=U;obtain⟨C,E⟩:=QS q w ty;refine⟨T,id,L,slot,n,C,E,?_⟩;have u:=F d c P p y _ q M;rw[hs]at u |-
 refine al (by show(false||(r4 d (cS k X.env)).any (·.1))=false;rw[f]<;>rfl) (Calls.evalArgs_plain ?_);exact lK u λS R ⟨vs,z,B,O,N⟩=>G c R p z x vs v S Q B w O N
end
def Iu(X:Cx)(id:String)(r:V->List V->Hp->VK->Prop):Prop:=
 ∀pins s σ H(x:V)(b:List V)(v:Value)(a:List Value)Q,eL X pins σ H s->jM x v->gO b a->r x b H Q ->
  wpAny (model X.prog X.w) X.A (call (.builtin id) (v::a)) (EP X pins σ Q) X.xe s
def gO.one:∀{x us},gO [x] us->∃u,us=[u]/\jM x u
|_,_,.cons r .nil=>⟨_,Fx,r⟩
def gO.zero:∀{us},gO [] us->us=[]
|_,.nil=>rfl
theorem gO.dropLast{b:List V}{a:List Value}(h:gO b a):gO b.dropLast a.dropLast:=by
 induction h with
 |nil=>exact .nil
 |cons r t c=>
  cases t with
  |nil=>exact .nil
  |cons q d=>exact .cons r c
def KY{d:Type}(l:List d):l.eraseIdx (l.length-1)=l.dropLast:=by
 induction l with
 |nil=>rfl
 |cons a r c=>
  cases r with
  |nil=>rfl
  |cons b r=>
   have e:(a::b::r).length-1=((b::r).length-1)+1:=by
    have f:(a::b::r).length=r.length+2:=rfl;have g:(b::r).length=r.length+1:=rfl;lia
   rw[e,List.eraseIdx_cons_succ,c]
   all_goals rfl
section
variable{X:Cx}{a:List (Addr×Obj)}{c:St}{H:Hp}{s:Shared}{l:Addr}{d b:List V}
def eL.lset{g its':List Value}{n:Nat}{f:Array Value->Array Value}{p:Nat}(I:eL X a c H s)(h:H l=some (.lst d))
  (e:s.heap.get? l=some { cls:=.type "list",data:=.seq g.toArray n }) (j:f g.toArray=its'.toArray) (m:gO b its') (o:b.length<=bO) :
  eL X a c (iA H l (.lst b)) { s with heap:=s.heap.update l (d3 f),toks:=p }:=by
 have q:=PySem.IsL.update e f;rw[j]at q;refine I.write (x:=l) (e:=l) (by rw[h];exact trivial) (.inl Fx) (λr u i k=>(gC s.heap (d3 f) (j9 i)).trans k) ⟨_,q⟩ ?_;exact⟨o,its',_,m,q⟩
def eL.lnew{e:List Value}{t':Nat}(I:eL X a c H s)(f:gO b e)(g:b.length<=bO) :
  eL X a c (iA H s.heap.objs.size (.lst b)) { s with heap:=s.heap.push { cls:=.type "list",data:=.seq e.toArray },toks:=t' }:=
 I.laid (λ_ _ q=>aH _ q) (aM _) ⟨g,e,0,f,aY _ Fx⟩
theorem eL.fresh(I:eL X a c H s):H s.heap.objs.size=none:=I.hok.fresh (aM _)
def eL.lstM(I:eL X a c H s)(g:H l=some (.lst d)):d.length<=bO/\∃(f:List Value)(n:Nat),gO d f/\d.length=f.length/\s.heap.get? l=some { cls:=.type "list",data:=.seq f.toArray n }:=by
 obtain⟨z,f,n,r,e⟩:=I.hok l _ g;exact⟨z,f,n,r,r.length,e⟩
def SA{n:Nat}(h:n<=bO):n8 n=false:=by
 unfold n8;exact c6 Fu
end
section
variable{X:Cx}
def LY:V->List V->Hp->VK->Prop:=λx vs H Q=>∃l a y,x=.ref l/\vs=[y]/\H l=some (.lst a)/\a.length<bO/\Q .non (iA H l (.lst (a++[y])))
def kT:Iu X "list.append" LY:=by
 intro c s o H x vs v k Q I g f h;obtain⟨l,m,y,rfl,rfl,b,j,q⟩:=h;cases g;obtain⟨u,rfl,d⟩:=f.one;obtain⟨z,a,n,r,i,e⟩:=I.lstM b;refine u7 F.slot_list_append ⟨_,e,Fx⟩ F.entry_list_append (F.args_list_append_2 _ _) (PySem.list_append l a.toArray n u (by rw[bI];lia)) ⟨e,?_⟩;refine⟨.non,_,I.lset (its':=a++[u]) b e Fv (r.append (.cons d .nil)) ?_,Fx,q⟩;rw[aV,lR];lia
def Kd:V->List V->Hp->VK->Prop:=λx vs H Q=>∃l a y,x=.ref l/\vs=[]/\H l=some (.lst a)/\a[a.length-1]?=some y/\Q y (iA H l (.lst a.dropLast))
def Yg:Iu X "list.pop" Kd:=by
 intro f s w H x vs v p Q I o m h;obtain⟨l,t,y,rfl,rfl,d,j,q⟩:=h;cases o;have b:=m.zero;subst b;obtain⟨z,a,n,r,g,e⟩:=I.lstM d;obtain⟨u,i,k⟩:=r.get j
 have c:a.toArray[a.toArray.size-1]?=some u:=by
  show a.toArray[a.length-1]?=some u;rw[<- iS,<- g];exact i
 refine u7 F.slot_list_pop ⟨_,e,Fx⟩ F.entry_list_pop (F.args_list_pop_1 _) (MeetsSeq.list_pop_last l a.toArray n u c (by rw[bI];lia)) ⟨e,?_⟩;refine⟨y,_,I.lset (its':=a.dropLast) d e ?_ r.dropLast ?_,k,q⟩
 ·show a.toArray.eraseIdxIfInBounds (a.toArray.size-1)=a.dropLast.toArray;rw[bI,List.eraseIdxIfInBounds_toArray,KY]
 ·rw[NE];lia
end
end L2
namespace Att
open PySem.W PySem.Calls
def zY{h}:∀(ns:List Int)(vs:List Value),WellAll P h vs (ns.map WData.int)->IntsAre vs ns:=by
 intro ns
 induction ns with
 |nil=>
  intro vs w;rw[mF]at w;cases w;exact .nil
 |cons n ns c=>
  intro vs w;rw[aZ]at w
  cases w with
  |cons a b=>
   cases a;exact .cons _ _ (c _ b)
def N0{l:OpenLaw}{n:Nat}(p:l.most=some n){h:Heap}{vals}
  (b:l.row.toRowW.claim.pre args=true) (i:WellAll P h vals args) :
  ∃a vs ns,vals=[d8 a]/\args=[WData.list (ns.map WData.int)]/\h.get? a=some { cls:=.type "list",data:=.seq vs.toArray }/\IntsAre vs ns/\ns.length<=n:=by
 have hsh:WShape.hasAll [] args [.list .int]=true:=(pre_splitW b).1;have j:l.pre.holds [] { args:=args }=true:=(pre_splitW b).2;obtain⟨d,r,rfl,k,m⟩:=hasAllW_cons hsh;obtain rfl:=hasAllW_nil m;obtain⟨w,rfl,o⟩:=hasW_list k;obtain⟨ns,rfl⟩:=items_int o
 have e:ns.length<=n:=by
  unfold OpenLaw.pre at j
  have f:(WTm.not (.lt (.lit (.int (n:Int))) (.len (.arg 0)))).holds [] { args:=[.list (ns.map .int)] }=true:=by
   have f:=(holds_andW j).1;rw[p]at f;exact f
  have g:=condW_of f (w_not (w_lt w_lit (w_len_list (w_arg Fx))));rw[aB]at g;refine X3 λq=>?_;have t:(n:Int)<((ns.length:Nat):Int):=by lia
  first
   | (rw[a8 t]at g;exact c8 g Ft)
   | (simp at g;lia)
 cases i with
 |cons u v=>
  cases v
  cases u with
  |list s c=>exact⟨_,_,ns,Fx,Fx,s,zY ns _ c,e⟩
def N5(l:OpenLaw)(args:List WData):l.row.toRowW.claim.post args (.bool true) args=true:=
 postW_of (r:=l.row.toRowW) (X:=(true==true))
  (show WShape.has [] (.bool true) .bool=true by first | rfl | decide | simp[WShape.has,WShape.arms,WShape.armsAll])
  (show(WTm.eq .res (.lit (.bool true))).value [] { args:=args,res:=some (.bool true),after:=args }=some (.bool (true==true))from w_eq_bool (w_res Fx) w_lit) Fx
def attach_call{l:OpenLaw}{n:Nat}{v:(Str->Option Value)->Heap->Prop}{x:d7->Heap->Prop}{d:DefRec}
  (K:l.most=some n) (m:d.params.defaults=[])
  (call:∀(w:d7)(s₀ b:Shared)(mg t:Str->Option Value)(fa:Addr)(o:Obj)(u cd c:Value)(a:Addr)(vs:List Value)(ns:List Int),
   Ground q loose [] v w s₀ mg t b.heap->x w b.heap ->
   b.heap.get? fa=some o->o.data=.func (docDef d.name d.params d.body d.scope u cd c)->b.heap.CodeRec cd d.name->mg d.name=some (.ref fa) ->
   b.heap.get? a=some { cls:=.type "list",data:=.seq vs.toArray }->IntsAre vs ns->ns.length<=n->b.gens=#[] ->
   x4 (model l.prog w) di (.call (.ref fa) ⟨[.ref a],[]⟩) (λr j=>r=.ok (.ret (.bool true))/\OldK b.heap j.heap/\j.os=b.os/\ao j.gens) b) :
  WalkO q loose v x l.row.toRowW d [] (λf vs=>gp f vs):=by
 intro w s₀ b mg t G Y fa o u cd c B kV L hd k z p H y vals O i A N s I;obtain rfl:B=.none:=Dflts.none z m;obtain rfl:kV=.none:=Dflts.noKw z;obtain⟨a,vs,ns,rfl,rfl,h,e,g⟩:=N0 K i s;refine enter_call (bd (call w s₀ b mg t fa o u cd c a vs ns G Y L (fd_plain hd) k p h e g H) λr j M=>?_);obtain⟨rfl,C,E,F⟩:=M;exact⟨.inl ⟨.bool true,.bool true,[],Fx,λ_=>rfl,.bool true,N5 l _,λ_=>⟨xU.nil,λ_ J=>(nomatch J)⟩⟩,C,E,F⟩
end Att
namespace L2
theorem DI:∀{vs}{ns:List Int},IntsAre vs ns->gO (ns.map V.int) vs
|_,_,.nil=>.nil
|_,_,.cons n t h=>.cons ⟨t,Fx⟩ (DI h)
def Ht(H:Hp):Prop:=∀b,H b=none\/(∃o c,H b=some (.frz o (.lst c)))\/(tabA=some b/\∃a,H b=some (.tbl a))
def TD{K:aQ}{mg mb:Str->Option Value}{CX:U7}{k:Nat}{fa a:Addr}{x:Str}{sp:Sp}{f:Shared}{vs:List Value}{ns:List Int}
  (KX:K.In f.heap) (T:f.heap.Ns iV mg) (i:f.heap.Ns u6 mb) (Be:∀x:Str,x≠"__name__"->mb x=f6 x) (S:f.heap.NoLimit) (hg:f.gens=#[])
  (O:f.heap.get? a=some { cls:=.type "list",data:=.seq vs.toArray }) (hi:IntsAre vs ns) (hl:ns.length<=bO) (hr:Room k di)
  (Bg:∃Q o,mg "__builtins__"=some (.ref Q)/\Q≠u6/\f.heap.get? Q=some o/\o.cls=.type "module"/\o.dict=some u6/\o.data=.plain)
  (I:∀P,tabA=some P->f.heap.get? P=some { cls:=.none,data:=.fields #[] }/\K.lookup P=none/\bz f.heap P)
  (F:∀base:Heap,K.In base->base.Ns iV mg->dP P w K mg base CX k fa fd [x] sp) (J:∀s(u:Value),BindsTo s fd ⟨[u],[]⟩ [(x,u)])
  (Cv:∀H:Hp,Ht H->mT K H a (ns.map V.int)->sp [.ref a] H (λv _=>v=.bl true) λ_ _ _=>False)
  (Y:∀H e y,CX [] H f (λ_ _ _=>False) e y->False) :
  x4 (model P w) di (.call (.ref fa) ⟨[.ref a],[]⟩) (λr y=>r=.ok (.ret (.bool true))/\OldK f.heap y.heap/\y.os=f.os/\ao y.gens) f:=by
 have rv:=DI hi;have U:=hi.length
 have aT:∀P,tabA=some P->P≠a:=λP e z=>by
  have l:=(I P e).1;rw[z,O]at l;cases l
 have C:∀H:Hp,Ht H->mT K H a (ns.map V.int)->wD P w H f.heap->(∀b,H b≠none->b=a\/tabA=some b)->(H a≠none->K.lookup a=none)->Tb H ->
   x4 (model P w) di (.call (.ref fa) ⟨[.ref a],[]⟩) (λr y=>r=.ok (.ret (.bool true))/\OldK f.heap y.heap/\y.os=f.os/\ao y.gens) f:=by
  intro H hO hS hok X hK Z;have j:∀{b:Addr}{o:Obj},f.heap.get? b=some o->H b=none->(FQ f.heap H).get? b=some o:=λe n=>TX e n
  have Dm:∀{b:Addr}{o:Obj}{M:Array t5}{L:Nat},f.heap.get? b=some o->o.data=.dict M L->H b=none:=λ{b o M L} e d=>by
   cases q:H b with
   |none=>rfl
   |some u=>
    rcases X b (by rw[q];simp)with e' | e'
    ·subst e';rw[O]at e;cases e;have G:Data.seq vs.toArray _=Data.dict M L:=d;cases G
    ·rw[(I b e').1]at e;cases e;have G:cy #[]=Data.dict M L:=d;cases G
  have Dn:∀{b:Addr}{o:Obj},f.heap.get? b=some o->o.data=.plain->H b=none:=λ{b o} e d=>by
   cases q:H b with
   |none=>rfl
   |some u=>
    rcases X b (by rw[q];simp)with e' | e'
    ·subst e';rw[O]at e;cases e;have G:Data.seq vs.toArray _=Data.plain:=d;cases G
    ·rw[(I b e').1]at e;cases e;have G:cy #[]=Data.plain:=d;cases G
  have A:∀{b:Addr}{m:Str->Option Value},f.heap.Ns b m->(FQ f.heap H).Ns b m:=λ{b m} ⟨o,M,L,e,d,r⟩=>⟨o,M,L,j e (Dm e d),d,r⟩
  have R:K.In (FQ f.heap H):=λb o e=>j (KX b o e) (by
   cases q:H b with
   |none=>rfl
   |some u=>
    rcases X b (by rw[q];simp)with e' | e'
    ·subst e';rw[hK (by rw[q];simp)]at e;cases e
    ·rw[(I b e').2.1]at e;cases e)
  have hM:Mod K mg (FQ f.heap H):=⟨R,A T,⟨mb,A i,Be⟩,let ⟨mc,l,N⟩:=S;⟨mc,A l,N⟩,let ⟨Q,o,b1,b2,b3,b4,b5,b6⟩:=Bg;⟨Q,o,b1,b2,j b3 (Dn b3 b6),b4,b5,b6⟩⟩;have e0:X1 P w K mg (FQ f.heap H) di [] f H:=⟨Fx,hM,λb o e=>WU e,mN (OZ _ _),trivial,λb i=>c8 (show b∈([]:List Addr)from i) Fv,hok,.of_eq hg,Z⟩;refine bd ((F _ R (A T)).run di [] f H ⟨[.ref a],[]⟩ [.ref a] [.ref a] _ _ hr e0 (J f (.ref a)) (.cons Fx .nil) (Cv H hO hS)) λr y h=>?_
  cases r with
  |error e=>exact(Y H e y h).elim
  |ok fl=>
   cases fl with
   |next=>exact n9 h
   |brk=>exact n9 h
   |cont=>exact n9 h
   |ret u=>
    obtain⟨v,H',os,bare,un,E,r',q⟩:=h;have q':v=.bl true:=q;subst q';obtain rfl:u=x9 true:=r'
    have old:∀b o,f.heap.get? b=some o->y.heap.get? b=some o\/(bz f.heap b/\o={ cls:=.none,data:=.fields #[] }/\∃qs:Array Value,y.heap.get? b=some { cls:=.none,data:=.fields qs }):=λb o e=>by
     cases q:H b with
     |none=>exact .inl (un.keep b o e q (by intro z;exact c8 (show b∈([]:List Addr)from z) Fv) Fv)
     |some u=>
      rcases hO b with z | ⟨ob,xs,z⟩ | ⟨t,ps,z⟩
      ·rw[q]at z;cases z
      ·have z2:=un.frzs b ob _ z;obtain⟨e1,_⟩:=hok b _ z;obtain⟨W,_⟩:=E b _ z2;rw[e]at e1;cases e1;exact .inl W
      ·obtain⟨l,N,h3⟩:=I b t;obtain⟨m,z2⟩:=un.tbls b ps z;obtain⟨qs,W,_⟩:=E b _ z2;rw[e]at l;cases l;exact .inr ⟨h3,Fx,qs,W⟩
    refine⟨Fx,⟨λb o e=>?_,λb o e=>?_⟩,os,bare⟩
    ·rcases old b o e with l | ⟨l,rfl,qs,N⟩
     ·exact .inl l
     ·exact .inr (.inl ⟨l,Fx,#[],qs,Fx,by rw[N];simp⟩)
    ·rcases old b o e with l | ⟨l,rfl,qs,N⟩
     ·exact⟨_,l⟩
     ·exact⟨_,N⟩
 have dT:∀b,Decidable (tabA=some b):=λb=>inferInstance
 cases hk:K.lookup a with
 |some o=>
  have e:=KX a o hk;rw[O]at e;cases e;refine C (λb=>if tabA=some b then some (.tbl #[])else none) (λb=>?_) (.inr ⟨_,vs.toArray,_,hk,Fx,Fx,Fx,by rw[bI,U];exact hl,by simpa using rv⟩) (λb u z=>?_) (λb z=>?_) (λz=>?_) λP e=>⟨#[],b8 e⟩
  ·by_cases i:tabA=some b
   ·exact .inr (.inr ⟨i,#[],b8 i⟩)
   ·exact .inl (a9 i)
  ·by_cases i:tabA=some b
   ·have B:=(b8 i).symm.trans z;cases B;exact⟨#[],(I b i).1,trivial,λp c q=>by cases q⟩
   ·have B:=(a9 i).symm.trans z;cases B
  ·by_cases i:tabA=some b
   ·exact .inr i
   ·exact c8 (a9 i) z
  ·exact c8 (a9 λe=>aT a e Fx) z
 |none=>
  refine C (λb=>if tabA=some b then some (.tbl #[])else if b=a then some (.frz { cls:=.type "list",data:=.seq vs.toArray } (.lst (ns.map V.int)))else none) (λb=>?_) (.inl (.inr ⟨{ cls:=.type "list",data:=.seq vs.toArray },(a9 λe=>aT a e Fx).trans (b8 Fx)⟩)) (λb u z=>?_) (λb z=>?_) (λ_=>hk) λP e=>⟨#[],b8 e⟩
  ·by_cases g:tabA=some b
   ·exact .inr (.inr ⟨g,#[],b8 g⟩)
   ·by_cases i:b=a
    ·exact .inr (.inl ⟨_,_,(a9 g).trans (b8 i)⟩)
    ·exact .inl ((a9 g).trans (a9 i))
  ·by_cases g:tabA=some b
   ·have B:=(b8 g).symm.trans z;cases B;exact⟨#[],(I b g).1,trivial,λp c q=>by cases q⟩
   ·by_cases i:b=a
    ·have B:=((a9 g).trans (b8 i)).symm.trans z;cases B;subst i;exact⟨O,by rw[aB];exact hl,vs,_,rv,O⟩
    ·have B:=((a9 g).trans (a9 i)).symm.trans z;cases B
  ·by_cases g:tabA=some b
   ·exact .inr g
   ·by_cases i:b=a
    ·exact .inl i
    ·exact c8 ((a9 g).trans (a9 i)) z
def VI{l:cq}{n k:Nat}{I:(Str->Option Value)->Heap->Prop}{p:d7->Heap->Prop}{d:DefRec}{K:Params->aQ}{CX:d7->U7}{sp:d7->Sp}
  (X:l.most=some n) (A:n<=bO) (y:d.params.defaults=[]) (Z:Room k di)
  (Q:∀(w:d7)(h:Heap),p w h->(K w.params).In h) (O:∀(w:d7)(h:Heap),p w h->∀P,tabA=some P->h.get? P=some { cls:=.none,data:=.fields #[] }/\(K w.params).lookup P=none/\bz h P)
  (F:∀(w:d7)(mg:Str->Option Value)(fa:Addr)(h:Heap),(K w.params).In h->h.Ns iV mg->mg d.name=some (.ref fa) ->
   ∃r:jH,(∀s(u:Value),BindsTo s r ⟨[u],[]⟩ [(x,u)]) /\
    ∀base:Heap,(K w.params).In base->base.Ns iV mg->dP l.prog w (K w.params) mg base (CX w) k fa r [x] (sp w))
  (B:∀(w:d7)H(a:Addr)(ns:List Int),ns.length<=n->Ht H->mT (K w.params) H a (ns.map V.int)->sp w [.ref a] H (λv _=>v=.bl true) λ_ _ _=>False)
  (t:∀(w:d7)H s(e:Value)C,CX w [] H s (λ_ _ _=>False) e C->False) :
  U9 q loose I p l.row.toRowW d [] (λf vs=>gp f vs):=by
 refine Att.attach_call X y λw s₀ m mg mb fa o pm cd J a vs ns G Y ho hd S z j i c U=>?_;have E:=Q w _ Y;obtain⟨r,R,L⟩:=F w mg fa _ E G.T.g z;exact TD E G.T.g G.T.b G.T.builtins G.T.nolimit U j i (bP c A) Z G.T.bmain (O w _ Y) L R (λH M N=>B w H a ns c M N) λH e C=>t w H m e C
noncomputable def xK(s:Stmt):Arguments:=match s with
|.FunctionDef _ a _ _ _ _ _ _ _ _=>a
|_=>{ posonlyargs:=[],args:=[],vararg:=none,kwonlyargs:=[],kw_defaults:=[],kwarg:=none,defaults:=[] }
noncomputable def nI(s:Stmt):List Stmt:=match s with
|.FunctionDef _ _ b _ _ _ _ _ _ _=>b
|_=>[]
noncomputable def bF(s:Stmt):Scope:=match s with
|.FunctionDef _ _ _ _ _ _ sc _ _ _=>sc
|_=>{ kind:=.function,names:=[],isGenerator:=false,isCoroutine:=false }
abbrev gQ:U7:=λ_ _ _ _ _ _=>False
abbrev E0:XK:=λ_ _ _=>False
def R0:LE gQ X E0:=λ_ _ _ _ _ _ _ h=>h.elim
structure P6(K:aQ)(x qual:Str)(st:Stmt)(f:Addr)(fd:jH):Prop where
 ex:∃(oc:Value)(od:Option Addr)(kV rh pm:Value)(an:Option Addr)(du ct:Value)(uh:Array (Option Value)),
  fd=nK x qual (xK st) (nI st) (bF st) .none kV rh pm an du ct/\K.lookup f=some ⟨oc,od,.func fd,uh⟩/\pV K du qual=true
 kp:jS K (.ref f)=true
section
variable{P:cH}{w:d7}{K:aQ}{mg:Str->Option Value}{base:Heap}
def P6.ok{st}{f:Addr}{N e:List Str}{k:Nat}{g:Sp}(F:P6 K x qual st f fd)(S:bT N e (bF st))(len:∀vs H Q E,g vs H Q E->vs.length=e.length)
  (b:∀(a:Value)(A:f9)outer(s:Shared)H(vs:List V)Q E,Room k (A.deeper (z7 qual (bF st) s.heap.objs.size f a))->g vs H Q E ->
   ∃t,CW (CF gQ P w K mg base N qual (bF st) f a A outer s H E).nox (nI st) t/\t { nx:=λ_ i=>Q .non i,rt:=Q } (sM N vs) H):dP P w K mg base gQ (k+1) f fd e g:=by
 obtain⟨o,p,kV,j,r,an,a,ct,n,rfl,m,c⟩:=F.ex;refine ZG m c S len λA outer s H vs Q E l d=>?_;obtain⟨t,h,q⟩:=b a A outer s H vs Q E l d;exact⟨t,h.nox,q⟩
def P6.binds{st}{f:Addr}{d:List Str}(F:P6 K x qual st f fd)
  (h:∀(kV b c:Value)(an:Option Addr)(a ct:Value)(e:List Value),e.length=d.length->bindArgs (nK x qual (xK st) (nI st) (bF st) .none kV b c an a ct) ⟨e,[]⟩=pure (d.zip e)):xS K fd d []:=by
 obtain⟨k,l,kV,b,c,an,a,ct,i,rfl,j,g⟩:=F.ex;exact .all (h kV b c an a ct)
def T2{st}{f:Addr}{kV}(l:K.lookup f=some ⟨oc,od,.func (nK x qual (xK st) (nI st) (bF st) .none kV rh pm an du ct),uh⟩)
  (c:pV K du qual=true) (k:jS K (.ref f)=true):P6 K x qual st f (nK x qual (xK st) (nI st) (bF st) .none kV rh pm an du ct):=⟨⟨oc,od,kV,rh,pm,an,du,ct,uh,Fx,l,c⟩,k⟩
end
def NV{n:Nat}(h:n<=1000):n<bO:=nM h Ft
section
variable{X:Cx}
def pv(i:Nat){x:Str}(b:X.N[i]?=some x:=by rfl)(c:Gq X.env.scope x:=by first | exact t9 Fx | exact o8 (t9 Fx) | exact o8 (o8 Fx))(hd:(x==("__debug__":Str))=false:=by decide)
  (a:(x==("__classdict__":Str))=false:=by decide):PE X (.Name x pos) (A3 i):=RT b c hd a
end
def bR(H a:Hp):Prop:=∀b o,H b=some o->a b=some o
def bR.refl(H:Hp):bR H H:=λ_ _ h=>h
def bR.trans(a:bR H H1)(b:bR H1 H2):bR H H2:=λc o h=>b c o (a c o h)
def bR.seq{K}{a:Addr}(e:bR H H')(h:mT K H a xs):mT K H' a xs:=by
 rcases h with(h | ⟨o,h⟩) | h
 ·exact .inl (.inl (e _ _ h))
 ·exact .inl (.inr ⟨o,e _ _ h⟩)
 ·exact .inr h
def XA{E:Value->Shared->Prop}{Q:Unit->Shared->Prop}(a:Q () s) :
  wpAny M A (u3 tg it (.str z t)) Q E s:=by
 unfold u3
 cases tg<;>first
  |exact aL a
  | (cases it<;>exact aL a)
noncomputable def He(z:Str):It:=⟨λi _=>i<z.cps.size,λi H x a=>a=H/\∃c,z.cps[i]?=some c/\x=.str ⟨#[c]⟩,λi _=>z.cps.size<=i⟩
def NL{K}(it:Addr)(z:Str)(t:Tok)
  (W:∀A:f9,A.handled=none->Walks P w A it [it] [it] z.cps.size (SignAt z) (λi h=>h.IsStrIter it ty z t i))
  (S:∀A(i:Nat)(s:Shared)Q E,s.heap.IsStrIter it ty z t i->Q (.ref it) s->wpAny (model P w) A (dy (.ref it)) Q E s) :
  CK P w K tg (He z) [it] it (λi h=>i<=z.cps.size/\h.IsStrIter it ty z t i) where
 mem:=by simp
 obj:=λi h st b hb=>by
  obtain rfl:b=it:=by simpa using hb
  obtain⟨_,o,e,c,d⟩:=st;exact⟨o,e,λv q=>by rw[d]at q;cases q⟩
 keep:=λi h h' st k=>by
  obtain⟨l,o,e,r⟩:=st;exact⟨l,o,k it Fv o e,r⟩
 item:=by
  intro X hP hw hK hc i pins s σ H E I hf st hg;subst hP hw hK;obtain⟨f0,f1,f2,f3,f4,f5⟩:=hf it Fv;refine(W X.A (I.ok.hd hc)).item i s _ _ hg st.2 λv h' tk hv fh kk=>?_;obtain⟨c,u,hx,rfl⟩:=hv;have I1:eL X pins σ H { s with heap:=h',toks:=tk }:=I.turned (λb o hb e=>kk b o (by simpa using hb) e) f0 f1 f3 f4 f5;exact⟨_,Fx,XA ⟨.str ⟨#[c]⟩,H,I1,⟨u,Fx⟩,⟨Fx,c,hx,Fx⟩,⟨hg,fh⟩,λb hb=>(hf b hb).1⟩⟩
 done:=by
  intro X hP hw hK hc i pins s σ H E I hf st hg;subst hP hw hK;obtain⟨f0,f1,f2,f3,f4,f5⟩:=hf it Fv;have e:i=z.cps.size:=Nat.le_antisymm st.1 hg;subst e;exact(W X.A (I.ok.hd hc)).done s _ _ st.2 λh' tk kk=>⟨Fx,I.turned (λb o hb e=>kk b o (by simpa using hb) e) f0 f1 f3 f4 f5⟩
 self:=λA i s Q E st h=>S A i s Q E st.2 h
def Mn(K:aQ)(d:TE):TI:=λe H R=>d e H λx b=>(∃a,x=.ref a/\(∃c,mT K b a c)/\R (Ix K a) b)\/(∃a,x=.ref a/\(∃c,pG K b a c)/\R (Iv K a) b)\/∃z,x=.str z/\R (He z) b
def Xq{X:Cx}(B:PE X l tl):PI X tg l (Mn X.K tl):=by
 intro f s y H R I h;refine lK (B f s y H _ I h) λv c L=>?_;obtain⟨x,k,d,r,F⟩:=L;rcases F with⟨a,rfl,⟨J,n⟩,q⟩ | ⟨a,rfl,⟨J,n⟩,q⟩ | ⟨z,rfl,q⟩
 ·cases r;obtain⟨j,G,p,C⟩:=d.list n;refine j4 p.isList ⟨c.heap.objs.size,[c.heap.objs.size],_,_,k,Fx,d.kept (t':=c.toks) λb o e=>aH _ e,NM a _,⟨_,aY _ Fx,Fx,Fx⟩,λb g=>?_,q⟩;obtain rfl:b=c.heap.objs.size:=by simpa using g
  exact d.fpOk (aM _) (d.hok.fresh (aM _))
 ·cases r;obtain⟨j,G,p,C⟩:=d.tuple n;refine n7 (show c.heap.IsTuple a j.toArray from p) ⟨c.heap.objs.size,[c.heap.objs.size],_,_,k,Fx,d.kept (t':=c.toks) λb o e=>aH _ e,JR a _,⟨_,aY _ Fx,Fx,Fx⟩,λb g=>?_,q⟩;obtain rfl:b=c.heap.objs.size:=by simpa using g
  exact d.fpOk (aM _) (d.hok.fresh (aM _))
 ·obtain⟨t,rfl⟩:=r
  have fin:∀(o:Obj)(ty:String),(∀A:f9,A.handled=none->Walks X.prog X.w A c.heap.objs.size [c.heap.objs.size] [c.heap.objs.size] z.cps.size (SignAt z) (λi h=>h.IsStrIter c.heap.objs.size ty z t i)) ->
    (∀A(i:Nat)(s:Shared)Q E,s.heap.IsStrIter c.heap.objs.size ty z t i->Q (.ref c.heap.objs.size) s->wpAny (model X.prog X.w) A (dy (.ref c.heap.objs.size)) Q E s) ->
    (c.heap.push o).IsStrIter c.heap.objs.size ty z t 0->Ir X f y tg R (.ref c.heap.objs.size) { c with heap:=c.heap.push o }:=λo ty W S st=>by
   refine⟨c.heap.objs.size,[c.heap.objs.size],_,He z,k,Fx,d.kept (t':=c.toks) λb o e=>aH _ e,NL _ z t W S,⟨dE _,st⟩,λb g=>?_,q⟩;obtain rfl:b=c.heap.objs.size:=by simpa using g
   exact d.fpOk (aM _) (d.hok.fresh (aM _))
  cases u:z.cps.all (·<128)
  ·exact wpAny_pyIter_wide u (fin _ "str_iterator" (λA m=>Walks.strWide m _ z t) (λ_ _ _ _ _ st h=>wpAny_pyIter_striter_wide st h) ⟨_,aY _ Fx,Fx,Fx⟩)
  ·exact wpAny_pyIter_ascii u (fin _ "str_ascii_iterator" (λA m=>Walks.strAscii m _ z t) (λ_ _ _ _ _ st h=>wpAny_pyIter_striter_ascii st h) ⟨_,aY _ Fx,Fx,Fx⟩)
structure BP where
 cl:List (Str×Addr)
 C:Addr
 s3:Shared
 H3:Hp
 ex:List Addr
 pn:List (Addr×Obj)
noncomputable def blk(X:Cx)(scope:Scope)(N':List Str)(b:BP):Cx where
 prog:=X.prog
 w:=X.w
 K:=X.K
 mg:=X.mg
 base:=X.base
 A:=X.A
 N:=N'
 s₀:=b.s3
 H₀:=b.H3
 env:=compEnvC scope b.cl b.C X.env
 outer:=X.stack
 stack:=X.stack
 ex:=b.ex
 fn:=λx=>scope.names.lookup x==some .cell
 calm:=X.calm
 pn:=b.pn
 xe:=λ_ _=>False
theorem vY{env:Env}:∀(f:List (Str×o0))(b:List (Str×Addr)),(∀x∈f,x.2=.free->∃c,env.cells.lookup x.1=some c) ->
 (∀n c,b.lookup n=some c->env.cells.lookup n=some c) ->
 ∃cl:List (Str×Addr),(ii f b (λx o=>match x with | (name,kind)=>if kind==.free then do let a <- cellOf env name;pure (h8 ((name,a)::o))else pure (h8 o)):Sem (List (Str×Addr)))=pure cl /\
  (∀n c,cl.lookup n=some c->env.cells.lookup n=some c)/\(∀n,((∃c,b.lookup n=some c)\/(n,g6)∈f)->∃c,cl.lookup n=some c)
|[],b,_,ha=>⟨b,Fx,ha,λn h=>h.elim id λz=>c8 z Fv⟩
| (n,k)::r,b,h,ha=>by
 by_cases hk:k=.free
 ·subst hk;obtain⟨c,p⟩:=h (n,.free) (aP ..) Fx
  obtain⟨cl,e,i,j⟩:=vY r ((n,c)::b) (λx l=>h x (aK _ l)) (λm d hm=>by
   rw[fS]at hm
   cases g:m==n with
   |true=>
    rw[g]at hm;obtain rfl:m=n:=by simpa using g
    cases hm;exact p
   |false=>rw[g]at hm;exact ha m d hm)
  refine⟨cl,?_,i,λm hm=>j m ?_⟩
  ·rw[pH];have s:cellOf env n=pure c:=by unfold cellOf;rw[p]
   simp only[beq_self_eq_true,t6,s];exact e
  ·rcases hm with⟨d,hd⟩ | hm
   ·left
    rw[fS]
    cases g:m==n with
    |true=>exact⟨c,Fx⟩
    |false=>exact⟨d,hd⟩
   ·rcases bA.mp hm with z | z
    ·left
     cases z;exact⟨c,by simp[fS]⟩
    ·exact .inr z
 ·obtain⟨cl,e,i,j⟩:=vY r b (λx l=>h x (aK _ l)) ha;refine⟨cl,?_,i,λm hm=>j m (hm.imp id λz=>?_)⟩
  ·rw[pH];have q:(k==g6)=false:=by simpa using hk
   simp only[q,eH,i5];exact e
  ·rcases bA.mp z with z | z
   ·cases z;exact c8 Fx hk
   ·exact z
def vX{env:Env}{scope:Scope}(h:∀x∈scope.names,x.2=.free->∃c,env.cells.lookup x.1=some c) :
  ∃cl,closureFor scope env=pure cl/\(∀n c,cl.lookup n=some c->env.cells.lookup n=some c)/\∀n,(n,g6)∈scope.names->∃c,cl.lookup n=some c:=by
 obtain⟨cl,e,a,b⟩:=vY (env:=env) scope.names [] h (λn c z=>by simp at z);refine⟨cl,?_,a,λn z=>b n (.inr z)⟩;unfold closureFor;refine Eq.trans ?_ (g5 (λm=>m >>= λr=>(pure r:Sem (List (Str×Addr)))) e)
 rfl
theorem rV{env:Env}:∀{names:List (Str×o0)},
 (names.map λ(n,k)=>if(k==g6&&env.scope.kind==.function&&env.kindOf n==some .cell)then(n,e7)else(n,k)).lookup x=some k ->
 ∃b,(x,b)∈names/\(b=k\/(b=.free/\k=.cell))
|[],h=>by simp at h
| (n,j)::r,h=>by
 rw[aZ,fS]at h;dsimp only at h;by_cases c:(j==g6&&env.scope.kind==.function&&env.kindOf n==some .cell)=true
 ·rw[b8 c]at h;dsimp only at h
  cases a:x==n with
  |true=>
   rw[a]at h;obtain rfl:x=n:=by simpa using a
   cases h;have f:j=.free:=by simp only[cL,av]at c;exact c.1.1
   exact⟨j,aP ..,.inr ⟨f,Fx⟩⟩
  |false=>
   rw[a]at h;obtain⟨b,d,e⟩:=rV (names:=r) h;exact⟨b,aK _ d,e⟩
 ·rw[a9 c]at h;dsimp only at h
  cases a:x==n with
  |true=>
   rw[a]at h;obtain rfl:x=n:=by simpa using a
   cases h;exact⟨_,aP ..,.inl Fx⟩
  |false=>
   rw[a]at h;obtain⟨b,d,e⟩:=rV (names:=r) h;exact⟨b,aK _ d,e⟩
theorem wT{env:Env}:∀{names:List (Str×o0)},names.lookup x=some .free ->
 (names.map λ(n,k)=>if(k==g6&&env.scope.kind==.function&&env.kindOf n==some .cell)then(n,e7)else(n,k)).lookup x=some .cell \/
 (names.map λ(n,k)=>if(k==g6&&env.scope.kind==.function&&env.kindOf n==some .cell)then(n,e7)else(n,k)).lookup x=some .free
|[],h=>by simp at h
| (n,j)::r,h=>by
 rw[fS]at h;rw[aZ,fS];dsimp only
 cases a:x==n with
 |true=>
  rw[a]at h;cases h;by_cases b:(g6==g6&&env.scope.kind==.function&&env.kindOf n==some .cell)=true
  ·rw[b8 b];dsimp only;rw[a];exact .inl Fx
  ·rw[a9 b];dsimp only;rw[a];exact .inr Fx
 |false=>
  rw[a]at h;have c:=wT (env:=env) (names:=r) h;by_cases b:(j==g6&&env.scope.kind==.function&&env.kindOf n==some .cell)=true
  ·rw[b8 b];dsimp only;rw[a];exact c
  ·rw[a9 b];dsimp only;rw[a];exact c
noncomputable def tV(a outer:List (Str×o0))(b:List Str):List Str->List (Option Nat)->Bool
|[],[]=>true
|x::r,none::f=>tV a outer b r f
|x::r,some j::f=>(a.lookup x==some .free)&&(b[j]?==some x)&&(outer.lookup x==some .cell)&&tV a outer b r f
|_,_=>false
theorem yP{a outer:List (Str×o0)}:∀{N':List Str}{fr:List (Option Nat)},tV a outer Nx N' fr=true ->
 N'.length=fr.length/\∀(i:Nat)(x:Str)(j:Nat),N'[i]?=some x->fr[i]?=some (some j)->a.lookup x=some .free/\Nx[j]?=some x/\outer.lookup x=some .cell
|[],[],_=>⟨Fx,λi x j h=>by simp at h⟩
|x::r,none::f,h=>by
 obtain⟨d,e⟩:=yP (N':=r) (fr:=f) h;refine⟨by simp[d],λi y j c b=>?_⟩
 cases i with
 |zero=>simp at b
 |succ i=>exact e i y j (by simpa using c) (by simpa using b)
|x::r,some k::f,h=>by
 simp only[tV,cL,av]at h;obtain⟨⟨⟨g,a2⟩,l⟩,h⟩:=h;obtain⟨d,e⟩:=yP (N':=r) (fr:=f) h;refine⟨by simp[d],λi y j c b=>?_⟩
 cases i with
 |zero=>
  simp at c b;subst c;subst b;exact⟨g,a2,l⟩
 |succ i=>exact e i y j (by simpa using c) (by simpa using b)
|[],_::_,h=>by simp[tV]at h
|_::_,[],h=>by simp[tV]at h
noncomputable def xI(a:List (Option Nat))(b:St):St:=a.map λo=>o.bind λj=>(b[j]?).join
def wD.but{h}{a:Addr}(ok:wD P w H h)(n:H a=none)(d:dY a h h'):wD P w H h':=λb ob e=>by
 refine(ok b ob e).stay (λc u hc q=>(d.2 c ?_).trans q) (λ_ q=>q) λ_ _ q=>q;rintro rfl;rcases hc with rfl | hc
 ·rw[n]at e;cases e
 ·rw[n]at hc;cases hc
def PV(X:Cx)(a:List Expr)(b:TT):Prop:=
 ∀pins s σ H(Q:Bool->Hp->Prop),eL X pins σ H s->b σ H Q ->
  wpAny (model X.prog X.w) X.A (ii a true λc r=>if r=true then do let ok <- isTrue c X.env (eval c X.env);pure (h8 ok)else pure (h8 r)) (TP X pins σ Q) X.xe s
def VN:TT:=λ_ H Q=>Q true H
def WL:PV X [] VN:=λ_ _ _ H _ I h=>wpAny_tests_nil ⟨H,I,h⟩
def WK(h:PT X c tt):PV X [c] tt:=λa s b H Q I q=>wpAny_tests_one (h a s b H Q I q)
def QX(q:List (Option Nat))(t:TI)(g:BP->TG)(s:BP->TT)(r:BP->TE):TE:=λp H Q=>t p H λJ k=>∀(h:BP)(a:Addr),k a=none->∃W:Nat->Nat->St->Hp->Prop,
 (∃m,W 0 m (xI q p) (iA k a (.lst [])))/\∀i m f d,W i m f d ->
  (J.stop i d/\Q (.ref a) d)\/(J.go i d/\∀x l,J.yld i d x l->g h x f l λc H3=>s h c H3 λb n=>
   if b=true then r h c n λy o=>∃j,o a=some (.lst j)/\j.length<bO/\∃e,e<m/\W (i+1) e c (iA o a (.lst (j++[y])))
   else∃e,e<m/\W (i+1) e c n)
theorem sC:∀{a:List (Str×o0)},a.filter (λy=>y.2==e7)=[]->∀(n:Nat)(b:List (Str×Addr))h,ae n a b=b/\dw h a=h
|[],_,_,_,_=>⟨Fx,Fx⟩
| (x,k)::r,e,n,b,h=>by
 rw[fG]at e
 cases hk:(k==e7)with
 |true=>dsimp only at e;rw[hk,b8 rfl]at e;cases e
 |false=>
  dsimp only at e;rw[hk,a9 bQ]at e;unfold ae dw;rw[hk,a9 bQ,a9 bQ];exact sC e n b h
theorem yU{z:Str}:∀{a:List (Str×o0)},a.filter (λy=>y.2==e7)=[(z,.cell)]->∀(n:Nat)(b:List (Str×Addr))(h:Heap),ae n a b=(z,n)::b/\dw h a=h.push { cls:=.type "cell",data:=.cell none }
|[],e,_,_,_=>by cases e
| (x,k)::r,e,n,b,h=>by
 rw[fG]at e
 cases hk:(k==e7)with
 |true=>
  dsimp only at e;rw[hk,b8 rfl]at e;injection e with c d
  injection c with c _
  subst c;unfold ae dw;rw[hk,b8 Fx,b8 rfl];exact sC d (n+1) ((x,n)::b) _
 |false=>
  dsimp only at e;rw[hk,a9 bQ]at e;unfold ae dw;rw[hk,a9 bQ,a9 bQ];exact yU e n b h
def uW(a:List (Str×o0)):Prop:=a.filter (λy=>y.2==e7)=[]\/∃z,a.filter (λy=>y.2==e7)=[(z,.cell)]/\a.lookup z=some .cell
structure aMo(names:List (Str×o0))(cl tw:List (Str×Addr))(h:Heap)(C:Addr):Prop where
 get:∀x c,tw.lookup x=some c->(C<c/\(x,e7)∈names/\h.IsCell c none)\/(cl.lookup x=some c/\(x,e7)∉names)
 old:∀x c,names.lookup x=some .free->cl.lookup x=some c->tw.lookup x=some c
 has:∀x,(x,e7)∈names->∃c,tw.lookup x=some c
 keep:∀x c,cl.lookup x=some c->∃c',tw.lookup x=some c'
 inj:∀x y c,tw.lookup x=some c->tw.lookup y=some c->C<c->x=y
def WW{E:Value->Shared->Prop}{s:Shared}{d:Scope}{globals:Addr}{a:List (Str×Addr)}{Q:Env->Shared->Prop}(i:uW d.names)(j:∀x c,a.lookup x=some c->c<s.heap.objs.size)
  (B:∀r k,r.Ns s.heap.objs.size (λ_=>none)->(∀b o,s.heap.get? b=some o->r.get? b=some o)->aMo d.names a k r s.heap.objs.size->Q (newEnv d s.heap.objs.size globals k qual none .none (some outer) u6) { s with heap:=r }) :
  wpAny M A (gh d globals a [] qual none .none (some outer)) Q E s:=by
 simp only[gh,Option.isSome_some,t6];refine aE (wpAny_alloc ?_);refine aE (wpAny_layCells _ (λname kind u=>by cases v:kind==e7<;>simp[v]) _ _ _ _ ?_);have mem:∀x,(x,e7)∈d.names->(x,e7)∈d.names.filter (λy=>y.2==e7):=λx f=>bC.mpr ⟨f,Fx⟩;rcases i with i | ⟨z,i,m⟩
 ·rw[(sC i _ _ s.heap).1,(sC i 0 [] _).2]
  have C:∀x,(x,e7)∉d.names:=λx f=>by
   have:=mem x f;rw[i]at this;cases this
  exact aE (aL (aL (B _ _ (Heap.Ns.new s.heap (.type "dict")) (λb o e=>aH _ e) ⟨λx c h=>.inr ⟨h,C x⟩,λx c _ h=>h,λx h=>c8 h (C x),λx c h=>⟨c,h⟩,λx y c h _ l=>c8 (j x c h) (uK l)⟩)))
 ·rw[(yU i _ _ s.heap).1,(yU i 0 [] _).2,show({ s with heap:=s.heap.push { cls:=.type "dict",data:=.dict #[] } }:Shared).heap.objs.size=s.heap.objs.size+1 from dX ..]
  have p:∀x,(x,e7)∈d.names->x=z:=λx f=>by
   have:=mem x f;rw[i]at this;exact g5 Prod.fst (bW.mp this)
  have w:∀x c,((z,s.heap.objs.size+1)::a).lookup x=some c->(x=z/\c=s.heap.objs.size+1)\/(x≠z/\a.lookup x=some c):=λx c h=>by
   rw[fS]at h
   cases t:x==z with
   |true=>rw[t]at h;cases h;exact .inl ⟨ci t,Fx⟩
   |false=>rw[t]at h;exact .inr ⟨ne_of_beq_false t,h⟩
  have q:∀x c,x≠z->a.lookup x=some c->((z,s.heap.objs.size+1)::a).lookup x=some c:=λx c f h=>by
   rw[fS,beq_eq_false_iff_ne.mpr f];exact h
  have g:((s.heap.push { cls:=.type "dict",data:=.dict #[] }).push { cls:=.type "cell",data:=.cell none }).get? (s.heap.objs.size+1)=some { cls:=.type "cell",data:=.cell none }:=by
   have:=aY (s.heap.push { cls:=.type "dict",data:=.dict #[] }) (o:={ cls:=.type "cell",data:=.cell none }) Fx
   rwa [dX]at this
  refine aE (aL (aL (B _ _ ((Heap.Ns.new s.heap (.type "dict")).keeps λb o e=>aH _ e) (λb o e=>aH _ (aH _ e)) ⟨λx c h=>?_,λx c f h=>q x c (λe=>by rw[e,m]at f;cases f) h,λx f=>⟨s.heap.objs.size+1,by rw[p x f];simp⟩,λx c h=>?_,λx y c J K l=>?_⟩)))
  ·rcases w x c h with⟨rfl,rfl⟩ | ⟨n,h⟩
   ·exact .inl ⟨mM _,i6 m,_,g,Fx⟩
   ·exact .inr ⟨h,λf=>n (p x f)⟩
  ·by_cases e:x=z
   ·exact⟨s.heap.objs.size+1,by rw[e];simp⟩
   ·exact⟨c,q x c e h⟩
  ·rcases w x c J with⟨F,_⟩ | ⟨_,H⟩
   ·rcases w y c K with⟨G,_⟩ | ⟨_,I⟩
    ·exact F.trans G.symm
    ·exact c8 (j y c I) (uK l)
   ·exact c8 (j x c H) (uK l)
section
variable{X:Cx}
def PD{R:Result->Shared->Prop}{iter}(I:Nat->Shared->Prop)
  (u:∀n s,I n s->wpAny (model prog w) A (r8 it) (λr a=>match r with
   |none=>R (.ok .next) a
   |some v=>wpAny (model prog w) A (u3 target it v) (λ_ y=>wpAny (model prog w) A (dt target env v) (λ_ i=>
     wpAny (model prog w) A (ii t true λc r=>if r=true then do let ok <- isTrue c env (eval c env);pure (h8 ok)else pure (h8 r)) (λok b=>
      if ok=true then wpAny (model prog w) A (eval f env) (λx j=>wpAny (model prog w) A (call (.builtin "list.append") [acc,x]) (λ_ k=>∃m,m<n/\I m k) (λ_ _=>False) j) (λ_ _=>False) b
      else∃m,m<n/\I m b) (λ_ _=>False) i) (λ_ _=>False) y) (λ_ _=>False) a) (λ_ _=>False) s)
  (n:Nat) (h:I n s):x4 (model prog w) A (.compLoop (.ListComp f [⟨target,iter,t,0⟩] scope pos) 0 it acc env) R s:=by
 refine codeAny_loop Fx I (λn s C=>?_) n h;show wpAny _ A ((compTurn (.ListComp f [⟨target,iter,t,0⟩] scope pos) 0 it acc env).onRaise (λx=>do noteFrame x env;theTreesLotGoes x)) _ _ s;refine wpAny_noted ?_;rw[compTurn_list];have l:∀{E:Value->Shared->Prop}(e:Value)(s:Shared),False->E e s:=λ_ _ z=>z.elim;refine aE (wpAny_standAt (aE (iE (u n s C) (λr a d=>?_) l)))
 cases r with
 |none=>exact aL d
 |some v=>
  refine aE (iE d (λ_ y B=>aE (iE B (λ_ i o=>aE (iE o (λok b g=>?_) l)) l)) l)
  cases ok with
  |false=>exact aL ⟨Fx,g⟩
  |true=>exact aE (aE (iE g (λx j p=>aE (iE p (λ_ k q=>aL (aL ⟨Fx,q⟩)) l)) l))
variable{f iter F:Expr}{t:List Expr}{scope:Scope}{pos:Pos}{B:List Str}{G:List (Option Nat)}{O:TI}{g:BP->TG}{M:BP->TT}{L:BP->TE}
def HS{H2:Hp}{s2:Shared}{it:Addr}{tn:Nat->Heap->Prop}{J:It}{Q:VK}{RR:Value->Addr->Result->Shared->Prop}{cl:List (Str×Addr)}{E:Value->Shared->Prop}
  (Y:X.calm=true) (vc:scope.kind=.function) (hz:uW scope.names) (wr:tV scope.names X.env.scope.names X.N B G=true)
  (H:∀n c,cl.lookup n=some c->X.env.cells.lookup n=some c) (uy:∀n,(n,g6)∈scope.names->∃c,cl.lookup n=some c)
  (hY:∀b:BP,PG (blk X scope B b) F (g b)/\PV (blk X scope B b) t (M b)/\PE (blk X scope B b) f (L b))
  (I2:eL X pins σ H2 s2) (T:CK X.prog X.w X.K F J fp it tn) (rr:tn 0 s2.heap) (f2:∀b∈fp,AE X pins H2 b)
  (q:∀(bp:BP)(P:Addr),H2 P=none->∃W:Nat->Nat->St->Hp->Prop,(∃m,W 0 m (xI G σ) (iA H2 P (.lst [])))/\∀i m U S,W i m U S ->
   (J.stop i S/\Q (.ref P) S)\/(J.go i S/\∀x H2,J.yld i S x H2->g bp x U H2 λxc H3=>M bp xc H3 λb H4=>
    if b=true then L bp xc H4 λy H5=>∃ys,H5 P=some (.lst ys)/\ys.length<bO/\∃m',m'<m/\W (i+1) m' xc (iA H5 P (.lst (ys++[y])))
    else∃m',m'<m/\W (i+1) m' xc H4))
  (Av:∀P C s' HY m,eL X pins σ HY s'->AE X pins HY C->s'.heap.Ns C m->Q (.ref P) HY->RR (.ref P) C (.ok .next) s') :
  wpAny (model X.prog X.w) X.A (newList []) (λP yz=>wpAny (model X.prog X.w) X.A (gh scope X.env.globals cl [] X.env.qual none .none (some X.env)) (λuo za=>
   x4 (model X.prog X.w) X.A (.compStart (.ListComp f [⟨F,iter,t,0⟩] scope pos) 0 (.ref it) P { uo with scope:=relabel scope X.env }) (RR P uo.locals) za) E yz) E s2:=by
 obtain⟨wq,Br⟩:=yP wr;have xu:H2 s2.heap.objs.size=none:=I2.hok.fresh (aM _);refine eY ?_ (by show 0<=bO;exact dE _)
 generalize yj:({ s2 with heap:=s2.heap.push { cls:=.type "list",dict:=none,data:=.seq ([]:List Value).toArray } }:Shared)=s3
 have s:eL X pins σ (iA H2 s2.heap.objs.size (.lst [])) s3:=by
  rw[<- yj];exact I2.laid (t':=s2.toks) (λb u e=>aH _ e) (aM _) ⟨dE _,[],0,.nil,aY _ Fx⟩
 have yd:∀b∈fp,b<s3.heap.objs.size:=λb a=>by
  obtain⟨o,e,_⟩:=T.obj 0 _ rr b a;rw[<- yj];exact bE (aH _ e)
 have rB:tn 0 s3.heap:=T.keep 0 _ _ rr λb _ o e=>by rw[<- yj];exact aH _ e
 have f3:∀b∈fp,AE X pins (iA H2 s2.heap.objs.size (.lst [])) b:=λb a=>⟨by
  obtain⟨o,e,_⟩:=T.obj 0 _ rr b a;rw[dD (bV (bE e))];exact(f2 b a).1,(f2 b a).2⟩
 refine WW hz (λx c e=>by obtain⟨v,o,ho,_⟩:=s.cell x c (H x c e);exact bE ho) λvj I yg keep R=>?_
 generalize As:iA H2 s2.heap.objs.size (.lst [])=H3 at *
 generalize Ei:s2.heap.objs.size=ac at *
 generalize hC:s3.heap.objs.size=C at *
 obtain⟨W,⟨m0,w0⟩,td⟩:=q ⟨I,C,s3,H3,fp,X.pn++pins⟩ ac xu;rw[As]at w0
 have Z:∀x c,X.env.cells.lookup x=some c->c<C:=λx c e=>by
  obtain⟨v,o,ho,_⟩:=s.cell x c e;rw[<- hC];exact bE ho
 have ut:∀b∈fp,b≠C:=λb a=>by exact bV (yd b a)
 have zh:X.env.locals<C:=by rw[<- hC];exact s.lt
 have yk:∀b∈ID X.stack,b≠C/\H3 b=none:=λb a=>⟨by
  rintro rfl;rcases bA.mp (s.stkSub b a)with z | z
  ·rw[z]at zh;exact c8 zh (iG _)
  ·exact s.nofs (by rw[hC];exact aM _) z,s.stkFree b a⟩
 have xp:∀x c,X.env.cells.lookup x=some c->c≠C:=λx c e z=>by
  obtain⟨v,o,ho,_⟩:=s.cell x c e;have:=bE ho;rw[z,hC]at this;exact c8 this (iG _)
 -- the block's context
 have Dp:(blk X scope B ⟨I,C,s3,H3,fp,X.pn++pins⟩).Ok:=by
  refine⟨s.ok.mod,vc,s.ok.glob,s.ok.blt,mN hC,λx y c h1 h2=>by
   rcases R.get x c h1 with⟨l1,_⟩ | ⟨g1,_⟩<;>rcases R.get y c h2 with⟨l2,_⟩ | ⟨g2,_⟩
   ·exact R.inj x y c h1 h2 l1
   ·exact c8 (Z y _ (H y _ g2)) (uK l1)
   ·exact c8 (Z x _ (H x _ g1)) (uK l2)
   ·exact s.ok.inj x y c (H x c g1) (H y c g2),λx hx=>?_,λx c hf h=>by
   rcases R.get x c h with⟨l,_⟩ | ⟨_,n⟩
   ·exact bP (mN hC) (jT l)
   ·exact c8 (i6 (beq_iff_eq.mp hf)) n,λ_=>s.ok.hd Y,s.ok.frames,.inl Fx,
   λb a=>⟨ut b a,λx c h=>by
    rcases R.get x c h with⟨l,_⟩ | ⟨h,_⟩
    ·exact fA (LK (yd b a) l)
    ·exact(f3 b a).2.2.2.2.1 x c (H x c h)⟩,λb o e=>s.bs b o e,?_,λb o e a=>?_,λb a hs=>?_,s.stack,λb a=>(yk b a).2,s.env0.tab⟩
  ·have um:∀k,(relabel scope X.env).names.lookup x=some k->(k=.cell\/k=.free)->∃c,(I).lookup x=some c:=λk h hk=>by
    obtain⟨k0,h1,h2⟩:=rV h;rcases(show k0=.cell\/k0=.free from h2.elim (λe=>by rw[e];exact hk) λe=>.inr e.1)with rfl | rfl
    ·exact R.has x h1
    ·obtain⟨c,hc⟩:=uy x h1;exact R.keep x c hc
   rcases hx with hx | hx
   ·exact um _ hx (.inl Fx)
   ·exact um _ hx (.inr Fx)
  ·exact bP s.ok.bsz (bP s.sz (aM _))
  ·rcases(f3 b a).2.2.2.1 with z | z
   ·exact s.ok.noex b o e z
   ·exact c8 (dF (bE (s.ok.bs b o e).1) z) (iG _)
  ·rcases bA.mp (s.stkSub b hs)with z | z
   ·exact(f3 b a).2.1 z
   ·exact(f3 b a).2.2.1 z
 have xt:H3 C=none:=s.hok.fresh (mN hC)
 have IY:eL (blk X scope B ⟨I,C,s3,H3,fp,X.pn++pins⟩) [] (xI G σ) H3 { s3 with heap:=vj }:=by
  refine⟨Dp,Fx,s.bare,Un.kept keep,⟨_,yg,λi x v h1 h2 _=>?_⟩,λx c e=>?_,xt,λx c e=>(by
   rcases R.get x c e with⟨l,_⟩ | ⟨e,_⟩
   ·exact s.hok.fresh (by rw[hC];exact jT l)
   ·exact s.freeC x c (H x c e)),λp hp=>?_,s.hok.kept keep,?_⟩
  ·have e:∃j,G[i]?=some (some j)/\σ[j]?=some (some v):=by
    unfold xI at h2;rw[aF]at h2
    cases hf:G[i]? with
    |none=>rw[hf]at h2;cases h2
    |some o=>
     rw[hf]at h2
     cases o with
     |none=>cases h2
     |some j=>
      refine⟨j,Fx,?_⟩;have rm:(σ[j]?).join=some v:=by simpa using h2
      cases hj:σ[j]? with
      |none=>rw[hj]at rm;cases rm
      |some o=>rw[hj]at rm;rw[show o=some v from rm]
   obtain⟨j,e1,e2⟩:=e;obtain⟨a1,a2,a3⟩:=Br i x j h1 e1;obtain⟨m,hn,hl⟩:=s.loc;obtain⟨u,r,l⟩:=hl j x v a2 e2 (.inr (.inl a3));refine⟨u,r,.inr ⟨wT a1,?_⟩⟩;rcases l with⟨k,_⟩ | ⟨_,c,hc,o,ho,hd⟩
   ·have k':X.env.scope.names.lookup x=some .local:=k;rw[a3]at k';cases k'
   ·obtain⟨c',u8⟩:=uy x (i6 a1);have z:=H x c' u8;rw[hc]at z;cases z;exact⟨c,R.old x c a1 u8,o,keep c o ho,hd⟩
  ·rcases R.get x c e with⟨_,_,Co⟩ | ⟨e,_⟩
   ·exact⟨none,Co⟩
   ·obtain⟨v,o,ho,hd⟩:=s.cell x c (H x c e);exact⟨v,o,keep c o ho,hd⟩
  ·obtain⟨e,n,ne,nf,d⟩:=s.pin p (by have hp':p∈(X.pn++pins)++[]:=hp;simpa using hp');refine⟨keep _ _ e,n,?_,λz=>?_,d⟩
   ·have:=bE e;rw[hC]at this;exact bV this
   ·rcases bA.mp (s.stkSub p.1 z)with z | z
    ·exact ne z
    ·exact nf z
  ·unfold xI;rw[aB];exact wq.symm
 have sx:∀{S:Hp},(∀b∈fp,S b=none)->∀b∈fp,AE (blk X scope B ⟨I,C,s3,H3,fp,X.pn++pins⟩) [] S b:=λ{S} hn b a=>
  ⟨hn b a,ut b a,λz=>by
   rcases bA.mp (s.stkSub b z)with z | z
   ·exact(f3 b a).2.1 z
   ·exact(f3 b a).2.2.1 z,  .inl a,λx c e=>(by
   rcases R.get x c e with⟨l,_⟩ | ⟨e,_⟩
   ·exact fA (LK (yd b a) l)
   ·exact(f3 b a).2.2.2.2.1 x c (H x c e)),λp hp=>(f3 b a).2.2.2.2.2 p (by have hp':p∈(X.pn++pins)++[]:=hp;simpa using hp')⟩
 obtain⟨hg,ht,he⟩:=hY ⟨I,C,s3,H3,fp,X.pn++pins⟩
 have loop:x4 (model X.prog X.w) X.A (.compLoop (.ListComp f [⟨F,iter,t,0⟩] scope pos) 0 (.ref it) (.ref ac) (compEnvC scope I C X.env)) (RR (.ref ac) C) { s3 with heap:=vj }:=by
  refine PD (λn s'=>∃i U S,eL (blk X scope B ⟨I,C,s3,H3,fp,X.pn++pins⟩) [] U S s'/\tn i s'.heap/\(∀b∈fp,S b=none)/\W i n U S) ?_ m0
   ⟨0,xI G σ,H3,IY,T.keep 0 _ _ rB λb _ o e=>keep b o e,λb a=>(f3 b a).1,w0⟩
  rintro n s4 ⟨i,xg,H4,I4,sA,zd,w4⟩;rcases td i n xg H4 w4 with⟨stop,qn⟩ | ⟨go,step⟩
  ·refine lK (T.done (blk X scope B ⟨I,C,s3,H3,fp,X.pn++pins⟩) Fx Fx Fx Y i [] s4 xg H4 _ I4 (sx zd) sA stop) λr s5 zq=>?_;obtain⟨hr,I5⟩:=zq;subst hr;obtain⟨m,hn,_⟩:=I5.loc;have IX:eL X pins σ H4 s5:=s.call' I5.os I5.base I5.hok I5.bare λb a=>⟨(f3 b a).2.2.2.1,(f3 b a).2.1,(f3 b a).2.2.2.2.1,(f3 b a).2.2.2.2.2⟩;exact Av ac C s5 H4 m IX (s.fpOk (mN hC) I5.free) hn qn
  ·refine lK (T.item (blk X scope B ⟨I,C,s3,H3,fp,X.pn++pins⟩) Fx Fx Fx Y i [] s4 xg H4 (λ_ _=>False) I4 (sx zd) sA go) λr s5 zq=>?_;obtain⟨u,hr,h5⟩:=zq;subst hr;refine lK h5 λ_ s6 zq=>?_;obtain⟨x,H6,I6,r6,y6,yy,Ah⟩:=zq;have Aa:=I6.pinned (sx Ah) (T.obj _ _ yy);refine lK (hg _ s6 xg H6 x u _ Aa r6 (step x H6 y6)) λ_ s7 zq=>?_;obtain⟨zb,H7,I7,q7⟩:=zq;refine lK (ht _ s7 zb H7 _ I7 q7) λok s8 zq=>?_;obtain⟨H8,I8,q8⟩:=zq
   have ie:∀{s9:Shared}{xh:St}{H9:Hp}{m':Nat},eL (blk X scope B ⟨I,C,s3,H3,fp,X.pn++pins⟩) ([]++BG fp s6.heap) xh H9 s9->m'<n->W (i+1) m' xh H9 ->
     ∃m,m<n/\∃i U S,eL (blk X scope B ⟨I,C,s3,H3,fp,X.pn++pins⟩) [] U S s9/\tn i s9.heap/\(∀b∈fp,S b=none)/\W i m U S:=λ{s9 xh H9 m'} I9 hm w9=>by
    refine⟨m',hm,i+1,xh,H9,I9.unpinned,T.keep _ _ _ yy λb a o e=>(I9.pin (b,o) (eZ _ (eZ _ (rX a e)))).1,λb a=>?_,w9⟩;obtain⟨o,e,d⟩:=T.obj _ _ yy b a;exact(I9.pin (b,o) (eZ _ (eZ _ (rX a e)))).2.1
   cases ok with
   |false=>
    obtain⟨m',hm,w8⟩:=q8;exact ie I8 hm w8
   |true=>
    refine lK (he _ s8 zb H8 _ I8 q8) λy s9 zq=>?_;obtain⟨yv,H9,I9,r9,ys,Dh,hz,m',hm,w9⟩:=zq;refine lK (kT (X:=blk X scope B ⟨I,C,s3,H3,fp,X.pn++pins⟩) _ s9 zb H9 (.ref ac) [yv] (.ref ac) [y] (λ_ S=>S=iA H9 ac (.lst (ys++[yv]))) I9 Fx (.cons r9 .nil) ⟨ac,ys,yv,Fx,Fx,Dh,hz,Fx⟩) λ_ wx zq=>?_;obtain⟨_,Dy,tA,_,Ae⟩:=zq;subst Ae;exact ie tA hm w9
 exact codeAny_compStart_list loop (T.self _ 0 _ _ _ (T.keep 0 _ _ rB λb _ o e=>keep b o e) loop)
def Pn(j:X.calm=true)(a:scope.kind=.function)(hz:uW scope.names)(u:tV scope.names X.env.scope.names X.N B G=true)
  (l:∀y∈scope.names,y.2=.free->X.env.scope.names.lookup y.1=some .cell) (c:∀x∈scope.names,x.2=.local->scope.names.lookup x.1=some .local) (Z:PI X F iter O)
  (W:∀b:BP,PG (blk X scope B b) F (g b)/\PV (blk X scope B b) t (M b)/\PE (blk X scope B b) f (L b))
  (hs:∀x,j3 iter X.env x=pure x:=by intro _;rfl):PE X (.ListComp f [⟨F,iter,t,0⟩] scope pos) (QX G O g M L):=by
 intro d s E H Q I h;obtain⟨cl,k,p,r⟩:=vX (env:=X.env) (scope:=scope) λy hy hk=>I.ok.has y.1 (.inl (l y hy hk));rw[eval_ListComp];refine gy (use:=none) Fx hs k a c (lK (Z d s E H _ I h) λv s1 S=>lK S λgV s2 U=>?_);obtain⟨it,fp,tn,J,H2,rfl,R,T,z,f2,q⟩:=U;refine HS (RR:=λi C=>compPost (model X.prog X.w) X.A X.xe none (EP X d E Q) i C) j a hz u p r W R T z f2 q λi C s' K m P n hn q'=>?_;exact⟨m,hn,λh' sb=>⟨.ref i,K,P.turned (t':=s'.toks) (λb o Y e=>(sb.2 b Y).trans e) n.1 n.2.1 n.2.2.2.1 n.2.2.2.2.1 n.2.2.2.2.2,Fx,q'⟩⟩
def RN{i:Nat}{x:Str}{E l:Pos}(hN:X.N.Nodup)(Z:X.N[i]?=some x)(hx:PX X.env.scope x)(p:X.calm=true)(c:scope.kind=.function)(hz:uW scope.names)(Y:tV scope.names X.env.scope.names X.N B G=true)
  (u:∀y∈scope.names,y.2=.free->X.env.scope.names.lookup y.1=some .cell) (k:∀x∈scope.names,x.2=.local->scope.names.lookup x.1=some .local) (hi:PI X F iter O)
  (hY:∀b:BP,PG (blk X scope B b) F (g b)/\PV (blk X scope B b) t (M b)/\PE (blk X scope B b) f (L b))
  (Cw:oF (.ListComp f [⟨F,iter,t,0⟩] scope pos) (some (.Name x E)) l.line X.env=pure true)
  (hs:∀x,j3 iter X.env x=pure x:=by intro _;rfl) (hf:X.fn x=true\/X.env.scope.names.lookup x=some .local:=by first | exact .inl Fx | exact .inr Fx | assumption) :
  PS X (.Assign [.Name x E] (.ListComp f [⟨F,iter,t,0⟩] scope pos) l) (xX (QX G O g M L) (mV i)):=by
 intro d s σ H D I h;obtain⟨cl,r,K,P⟩:=vX (env:=X.env) (scope:=scope) λy hy hk=>I.ok.has y.1 (.inl (u y hy hk));rw[exec_Assign_Name_used _ _ _ _ Cw];refine aE (wpAny_standAt (aE ?_));show wpAny _ _ (do let _ <- comprehension (.ListComp f [⟨F,iter,t,0⟩] scope pos) scope X.env _ (newList []) false (eval iter X.env) (some (dt (.Name x E) X.env))) _ _ s
 refine aE (iE (gy (use:=some (dt (.Name x E) X.env)) (Q:=λ_ R=>SP X d D .next R) Fx hs r c k
  (lK (hi d s σ H _ I h) λv s1 h1=>lK h1 λgV s2 h2=>?_)) (λ_ R hq=>aL (aL hq)) λ_ _ e=>e)
 obtain⟨it,fp,tn,J,H2,rfl,I2,T,rr,f2,q⟩:=h2;refine HS (RR:=λj C=>compPost (model X.prog X.w) X.A X.xe (some (dt (.Name x E) X.env)) (λ_ R=>SP X d D .next R) j C) (Q:=λx H1=>mV i x σ H1 D.nx) p c hz Y K P hY I2 T rr f2 q λj C R HY m I' n hn q'=>?_;show wpAny _ _ (dt (.Name x E) X.env (.ref j)) _ _ _;refine ui (DP I' hN Z hx (v:=.ref j) Fx (λDs S W=>?_) hf);obtain⟨a,sb,ha⟩:=W
 have U:C≠a:=by
  rcases ha with z | z
  ·rw[z];exact n.2.1
  ·exactλe=>n.2.2.2.2.1 x a z e.symm
 exact⟨m,hn.sameBut sb U,λh' Dt=>⟨_,HY,S.turned (t':=Ds.toks) (λb o hb e=>(Dt.2 b hb).trans e) n.1 n.2.1 n.2.2.2.1 n.2.2.2.2.1 n.2.2.2.2.2,q'⟩⟩
end
section
variable{C:Addr}{K:aQ}
structure aMe(K:aQ)(C:Addr):Prop where
 ga:pU K (.ref C) "__getattribute__"=some (some (.builtin "BaseException.__getattribute__"))
 gt:pU K (.ref C) "__getattr__"=some none
 cl:pU K (.ref C) "__class__"=some (some (.builtin "object.__class__"))
 ob:U8 K C (.type "object")=some true
 be:U8 K C (.type "BaseException")=some true
def Ik(K:aQ)(C:Addr):Prop:=aMe K C/\∀T∈["int","str","list","tuple","bool"],PySem.W.kitOne K (.ref C) (.type T)=some false
end
structure aJs(k:Nat)(A:f9):Prop where
 dp:A.depth+3*k+5<ca
 un:A.units+16*k+200<w6
 gd:A.guards=some []
def Room.h{k:Nat}(r:Room k A):aJs k A:=⟨r.dp,r.un,r.gd⟩
end L2
namespace TL
open L2
abbrev D:=PySem.PyData
def pL(p:Addr)(h:Heap):Prop:=∃(a:List Value)(n:Nat),h.get? p=some { cls:=.type "list",data:=.seq a.toArray n }/\a.length<=1000/\∀v∈a,∃(i:Int)(t:Tok),v=.int i t/\0<=i/\i<4096
def T8(p C:Addr)(a:Option Addr)(h:Heap):Prop:=∃o vs,h.get? p=some o/\o.cls=.ref C/\o.dict=a/\o.data=.fields vs
def Z1(p q:Addr)(h:Heap):Prop:=∃(a b c:Int)(d e f:Tok)(n:Nat),h.get? p=some { cls:=.type "list",data:=.seq [d8 q,.int a d,.int b e,.int c f].toArray n }/\0<=a/\(c=0\/c=1)
def LH(e:Int×Addr×V)(x:t5):Prop:=x.hash=e.1/\x.key=.ref e.2.1/\jM e.2.2 x.val
def NB(p:Addr)(a:List (Int×Addr×V))(h:Heap):Prop:=(p==s0)=false/\a.length<=bO/\∃o b c,h.get? p=some o/\o.ExactDict/\o.data=.dict b c/\Paired LH a b.toList
noncomputable def yT(p:Addr)(a:List (Int×Addr×V)):HO:=.ext (NB p a)
def Vw(p:Addr)(a:List (Int×Addr×V))(c:Nat)(h:Heap):Prop:=(p==s0)=false/\a.length<=bO/\∃o b,h.get? p=some o/\o.ExactDict/\o.data=.dict b c/\Paired LH a b.toList
noncomputable def zZ(p:Addr)(b:List (Int×Addr×V))(a:Nat):HO:=.ext (Vw p b a)
noncomputable def XS(hs:List Int)(a:List (D×D)):D:=.dict ((.str "{}",.list (hs.map bN))::a)
mutual
inductive jN(K:aQ)(H:Hp):D->V->Prop
|none:jN K H .none .non
|bool (b:Bool):jN K H (.bool b) (.bl b)
|int (i:Int):jN K H (.int i) (.int i)
|str (x:Str):jN K H (.str x) (.str x)
|list {p:Addr} {xs:List V} {ts:List D}:mT K H p xs->Reps K H ts xs->jN K H (.list ts) (.ref p)
|tuple {p:Addr} {xs:List V} {ts:List D}:pG K H p xs->Reps K H ts xs->jN K H (.tuple ts) (.ref p)
|wild {p:Addr}:H p=some (.ext (pL p))->jN K H (.dict []) (.ref p)
|exc {p C:Addr}:Ik K C->H p=some (.ext (T8 p C Option.none))->jN K H (.dict [(.int (C:Nat),.none)]) (.ref p)
|excA {p C dx:Addr} {n:Int}:Ik K C->H p=some (.ext (T8 p C (some dx)))->H dx=some (.xd [("at",.int n)])->jN K H (.dict [(.int (C:Nat),.int n)]) (.ref p)
|excD {p C dx:Addr} {v:V} {cs:List D}:Ik K C->H p=some (.ext (T8 p C (some dx)))->H dx=some (.xd [("case",v)])->jN K H (.tuple cs) v->jN K H (.dict [(.int (C:Nat),.tuple cs)]) (.ref p)
|tape {p q:Addr} {ns:List Int}:H p=some (.ext (Z1 p q))->mT K H q (ns.map V.int)->jN K H (.dict [(.none,.list (ns.map bN))]) (.ref p)
|dct {p:Addr} {es:List (Int×Addr×V)} {ep:Nat} {kvs:List (D×D)}:H p=some (zZ p es ep)->(kvs.map (·.1)).Nodup->Reps K H (kvs.map (·.1)) (es.map λe=>.ref e.2.1)->Reps K H (kvs.map (·.2)) (es.map λe=>e.2.2)->jN K H (.dict ((.str "{}",.list ((es.map (·.1)).map bN))::kvs)) (.ref p)
|addr {p:Addr} (z:List D):jN K H (.dict [(.str "@",.list (.int (p:Nat)::z))]) (.ref p)
|ins {p C dx:Addr} {fs:List (Str×V)} {ds:List D}:H p=some (.ins C dx fs)->Reps K H ds (fs.map (·.2))->jN K H (.dict [(.str "obj",.tuple [.int (C:Nat),.list ((fs.map (·.1)).map aO),.list ds])]) (.ref p)
inductive Reps(K:aQ)(H:Hp):List D->List V->Prop
|nil:Reps K H [] []
|cons {t:D} {ts:List D} {x:V} {xs:List V}:jN K H t x->Reps K H ts xs->Reps K H (t::ts) (x::xs)
end
variable{K:aQ}{H E I J:Hp}
def bR.seqT{a:Addr}(e:bR H E)(h:pG K H a xs):pG K E a xs:=by
 rcases h with(h | ⟨o,h⟩) | h
 ·exact .inl (.inl (e _ _ h))
 ·exact .inl (.inr ⟨o,e _ _ h⟩)
 ·exact .inr h
def jN.same(e:bR H E){d:D}{v:V}(r:jN K H d v):jN K E d v:=
 jN.rec (motive_1:=λd v _=>jN K E d v) (motive_2:=λc vs _=>Reps K E c vs) .none .bool .int .str (λq _ a=>.list (L2.bR.seq e q) a) (λq _ a=>.tuple (bR.seqT e q) a) (λh=>.wild (e _ _ h)) (λx h=>.exc x (e _ _ h)) (λx h g=>.excA x (e _ _ h) (e _ _ g))
  (λx h g _ a=>.excD x (e _ _ h) (e _ _ g) a) (λh g=>.tape (e _ _ h) (L2.bR.seq e g)) (λh n _ _ a b=>.dct (e _ _ h) n a b) .addr (λh _ a=>.ins (e _ _ h) a) .nil (λ_ _ a b=>.cons a b) r
theorem Reps.same(e:bR H E){c:List D}:∀{vs:List V},Reps K H c vs->Reps K E c vs:=by
 induction c with
 |nil=>intro vs r;cases r;exact .nil
 |cons d c f=>
  intro vs r
  cases r with
  |cons a b=>exact .cons (a.same e) (f b)
theorem Reps.length:∀{a:List D}{vs:List V},Reps K H a vs->a.length=vs.length
|_,_,.nil=>rfl
|_,_,.cons _ s=>by simp[Reps.length s]
theorem Reps.get:∀{ds vs}{i:Nat}{d},Reps K H ds vs->ds[i]?=some d->∃v,vs[i]?=some v/\jN K H d v
|_,_,_,_,.nil,e=>by simp at e
|_,_,0,_,.cons r _,e=>by simp at e;subst e;exact⟨_,Fx,r⟩
|_,_,i+1,d,.cons _ s,e=>by
 obtain⟨v,a,b⟩:=Reps.get (i:=i) (d:=d) s (by simpa using e);exact⟨v,by simpa using a,b⟩
theorem Reps.get':∀{ds vs}{i:Nat}{v},Reps K H ds vs->vs[i]?=some v->∃d,ds[i]?=some d/\jN K H d v
|_,_,_,_,.nil,e=>by simp at e
|_,_,0,_,.cons r _,e=>by simp at e;subst e;exact⟨_,Fx,r⟩
|_,_,i+1,d,.cons _ s,e=>by
 obtain⟨v,a,b⟩:=Reps.get' (i:=i) (v:=d) s (by simpa using e);exact⟨v,by simpa using a,b⟩
theorem Reps.append:∀{ds es vs us},Reps K H ds vs->Reps K H es us->Reps K H (ds++es) (vs++us)
|_,_,_,_,.nil,s=>s
|_,_,_,_,.cons r t,s=>.cons r (Reps.append t s)
theorem Reps.take:∀{a:List D}{vs:List V}(n:Nat),Reps K H a vs->Reps K H (a.take n) (vs.take n)
|_,_,0,_=>.nil
|_,_,_+1,.nil=>.nil
|_,_,n+1,.cons r t=>.cons r (Reps.take n t)
theorem Reps.drop:∀{a:List D}{vs:List V}(n:Nat),Reps K H a vs->Reps K H (a.drop n) (vs.drop n)
|_,_,0,r=>r
|_,_,_+1,.nil=>.nil
|_,_,n+1,.cons _ t=>Reps.drop n t
noncomputable def mask(H:Hp)(a:List Addr):Hp:=λb=>if b∈a then none else H b
def cX(e:bR H E):bR (mask H ps) (mask E ps):=λb o h=>by
 unfold mask at h |-
 by_cases a:b∈ps
 ·rw[b8 a]at h;cases h
 ·rw[a9 a]at h |-;exact e b o h
def nE(h:∀p∈dm,p∈ps):bR (mask H ps) (mask H dm):=λb o e=>by
 unfold mask at e |-
 by_cases a:b∈ps
 ·rw[b8 a]at e;cases e
 ·rw[a9 a]at e;rw[a9 λz=>a (h b z)];exact e
def cV:bR (mask H ps) H:=λb o e=>by
 unfold mask at e;by_cases a:b∈ps
 ·rw[b8 a]at e;cases e
 ·rw[a9 a]at e;exact e
def lE{p:Addr}(h:H p=none):mask (iA H p o) (p::ps)=mask H ps:=by
 funext b;unfold mask;by_cases a:b=p
 ·subst a;rw[b8 (aP ..),h];by_cases z:b∈ps<;>simp[z]
 ·rw[dD a];by_cases z:b∈ps
  ·rw[b8 (aK _ z),b8 z]
  ·rw[a9 (λq=>(bA.mp q).elim a z),a9 z]
def nD{p:Addr}(h:p∈ps):mask (iA H p o) ps=mask H ps:=by
 funext b;unfold mask;by_cases a:b=p
 ·subst a;rw[b8 h,b8 h]
 ·rw[dD a]
def eU{p:Addr}(h:H p=none):bR H (iA H p o):=λb u q=>by rw[dD (iB q h)];exact q
def mP{p:Addr}(h:p∉ps)(e:H p=some o):mask H ps p=some o:=by
 unfold mask;rw[a9 h];exact e
noncomputable def W5:HO->Bool
|.tup _=>true
|.frz _ (.tup _)=>true
|_=>false
def GA(u:Option HO):Prop:=∃v,u=some v/\W5 v=false
def GA.ne(h:GA u):u≠none:=λz=>by obtain⟨v,e,_⟩:=h;rw[z]at e;cases e
theorem GA.lst:GA (some (.lst xs)):=⟨_,Fx,Fx⟩
def jI{a:List Addr}{p:Addr}(live:∀q∈a,GA (H q))(h:H p=none):p∉a:=λz=>(live p z).ne h
inductive Sl where
|un | val (d:D) | own (ts:List D) | dic (hs:List Int) (kvs:List (D×D))
def qF(K:aQ)(B:Hp)(G:List Addr)(H:Hp)(f:List Addr)(m:List Sl)(C:L2.St):Prop:=∀(i:Nat)(hs:List Int)(a:List (D×D)),m[i]?=some (.dic hs a) ->
 (∃(p:Addr)(b:List (Int×Addr×V)),C[i]?=some (some (.ref p))/\p∈f/\B p=none/\p∉G/\H p=some (yT p b)/\hs=b.map (·.1)/\(a.map (·.1)).Nodup/\Reps K (mask H f) (a.map (·.1)) (b.map λe=>.ref e.2.1)/\Reps K (mask H f) (a.map (·.2)) (b.map λe=>e.2.2)) /\
 ∀(j:Nat)(c:List Int)(d:List (D×D)),m[j]?=some (.dic c d)->i=j
def qF.to{B g:Hp}(o:qF K B G H ps m C)(c:∀(i:Nat)(hs:List Int)(a:List (D×D)),da[i]?=some (.dic hs a)->m[i]?=some (.dic hs a)/\ak[i]?=C[i]?)
  (M:∀(p:Addr)(f:Heap->Prop),p∈ps->H p=some (.ext f)->p∉G->p∈dm/\E p=H p) (F:∀(p:Addr)(f:Heap->Prop),p∈ps->H p=some (.ext f)->B p=none->p∉G->g p=none/\p∉p0') (k:bR (mask H ps) (mask E dm)):qF K g p0' E dm da ak:=λi hs a h=>by
 obtain⟨z,A⟩:=c i hs a h;obtain⟨⟨p,y,l,a2,n,a4,e,q,r,s,t⟩,u⟩:=o i hs a z;obtain⟨v,w⟩:=M p _ a2 e a4;obtain⟨c1,x⟩:=F p _ a2 e n a4;exact⟨⟨p,y,A.trans l,v,c1,x,w.trans e,q,r,s.same k,t.same k⟩,λj b d L=>u j b d (c j b d L).1⟩
def AX{m:List Sl}{i j:Nat}(c:∀hs a,s≠.dic hs a)(h:(m.set i s)[j]?=some (.dic hs a)):i≠j/\m[j]?=some (.dic hs a):=by
 by_cases e:i=j
 ·subst e;have b:i<m.length:=by simpa using(aC.mp h).1
  rw[bG b]at h;exact c8 (c7 h) (c hs a)
 ·rw[bH e]at h;exact⟨e,h⟩
def qF.setS{m:List Sl}{C:L2.St}(o:qF K B G H ps m C){i:Nat}(d:∀hs c,s≠.dic hs c):qF K B G H ps (m.set i s) (C.set i v):=
 o.to (λj hs c h=>let ⟨e,h'⟩:=AX d h;⟨h',bH e⟩) (λp f a b _=>⟨a,Fx⟩) (λp f _ _ a b=>⟨a,b⟩) (L2.bR.refl _)
def qF.setT{m:List Sl}(o:qF K B G H ps m C){i:Nat}(d:∀hs c,s≠.dic hs c):qF K B G H ps (m.set i s) C:=
 o.to (λj hs c h=>⟨(AX d h).2,Fx⟩) (λp e a b _=>⟨a,Fx⟩) (λp e _ _ a b=>⟨a,b⟩) (L2.bR.refl _)
def qF.grow(o:qF K B G H ps m C)(e:bR H E):qF K B G E ps m C:=
 o.to (λj hs c h=>⟨h,Fx⟩) (λp d a b _=>⟨a,(e p _ b).trans b.symm⟩) (λp d _ _ a b=>⟨a,b⟩) (cX e)
structure Ok(K:aQ)(B:Hp)(G:List Addr)(H:Hp)(ps:List Addr)(m:List Sl)(C:L2.St):Prop where
 base:bR B H
 sub:∀p∈G,p∈ps
 live:∀p∈ps,GA (H p)
 len:m.length=C.length
 val:∀(i:Nat)(d:D),m[i]?=some (.val d)->∃v,C[i]?=some (some v)/\jN K (mask H ps) d v
 own:∀(i:Nat)(ts:List D),m[i]?=some (.own ts)->∃p xs,C[i]?=some (some (.ref p))/\p∈ps/\B p=none/\p∉G/\H p=some (.lst xs)/\Reps K (mask H ps) ts xs
 dis:∀(i j:Nat)(ts us:List D)(p:Addr),m[i]?=some (.own ts)->m[j]?=some (.own us)->C[i]?=some (some (.ref p))->C[j]?=some (some (.ref p))->i=j
 dc:qF K B G H ps m C
variable{B:Hp}{G ps:List Addr}{m:List Sl}{C:L2.St}
theorem Ok.grow(o:Ok K B G H ps m C)(e:bR H E):Ok K B G E ps m C where
 base:=o.base.trans e
 sub:=o.sub
 live:=λp hp=>let ⟨u,h1,h2⟩:=o.live p hp;⟨u,e p u h1,h2⟩
 len:=o.len
 val:=λi d h=>let ⟨v,h1,h2⟩:=o.val i d h;⟨v,h1,h2.same (cX e)⟩
 own:=λi ts h=>let ⟨p,xs,h1,h2,h3,h4,h5,h6⟩:=o.own i ts h;⟨p,xs,h1,h2,h3,h4,e _ _ h5,h6.same (cX e)⟩
 dis:=o.dis
 dc:=o.dc.grow e
theorem Ok.set(o:Ok K B G H ps m C){i:Nat}(r:jN K (mask H ps) d v):Ok K B G H ps (m.set i (.val d)) (C.set i (some v)) where
 base:=o.base
 sub:=o.sub
 live:=o.live
 len:=by simpa using o.len
 val:=λj d' h=>by
  by_cases e:i=j
  ·subst e
   have hi:i<m.length:=by
    have:=(aC.mp h).1;simpa using this
   rw[bG hi]at h;cases h;exact⟨v,by rw[bG (by rw[<- o.len];exact hi)],r⟩
  ·rw[bH e]at h |-
   exact o.val j d' h
 own:=λj ts h=>by
  by_cases e:i=j
  ·subst e
   have hi:i<m.length:=by
    have:=(aC.mp h).1;simpa using this
   rw[bG hi]at h;cases h
  ·rw[bH e]at h |-
   exact o.own j ts h
 dis:=λj k ts us p h1 h2 h3 h4=>by
  have ne:∀{l:Nat}{ts:List D},(m.set i (.val d))[l]?=some (.own ts)->i≠l:=λ{l ts} h e=>by
   subst e
   have hi:i<m.length:=by
    have:=(aC.mp h).1;simpa using this
   rw[bG hi]at h;cases h
  have e1:=ne h1;have e2:=ne h2;rw[bH e1]at h1 h3;rw[bH e2]at h2 h4;exact o.dis j k ts us p h1 h2 h3 h4
 dc:=o.dc.setS λ_ _ z=>nomatch z
def Ok.setOwn(o:Ok K B G H ps m C){i:Nat}{ts:List D}{xs:List V}{p:Addr}(A:H p=none)(r:Reps K (mask H ps) ts xs):Ok K B G (iA H p (.lst xs)) (p::ps) (m.set i (.own ts)) (C.set i (some (.ref p))):=by
 have L:mask (iA H p (.lst xs)) (p::ps)=mask H ps:=lE A;have w:p∉ps:=jI o.live A
 have N:∀{l:Nat}{x:List D},i≠l->m[l]?=some (.own x)->C[l]?≠some (some (.ref p)):=λ{l x} _ h z=>by
  obtain⟨q,_,c,f,_⟩:=o.own l x h;rw[z]at c;cases c;exact w f
 refine⟨o.base.trans (eU A),λq M=>aK _ (o.sub q M),λq M=>?_,by simpa using o.len,λj d h=>?_,λj x h=>?_,λj k x R q c f g n=>?_,?_⟩
 ·by_cases e:q=p
  ·subst e;rw[dM];exact .lst
  ·rw[dD e];rcases bA.mp M with z | z
   ·exact c8 z e
   ·exact o.live q z
 ·rw[L];by_cases e:i=j
  ·subst e;have t:i<m.length:=by simpa using(aC.mp h).1
   rw[bG t]at h;cases h
  ·rw[bH e]at h |-
   exact o.val j d h
 ·rw[L];by_cases e:i=j
  ·subst e;have t:i<m.length:=by simpa using(aC.mp h).1
   rw[bG t]at h;cases h;refine⟨p,xs,by rw[bG (by rw[<- o.len];exact t)],aP ..,?_,λz=>w (o.sub p z),dM,r⟩
   cases q:B p with
   |none=>rfl
   |some u=>rw[o.base p u q]at A;cases A
  ·rw[bH e]at h |-
   obtain⟨q,S,c,f,g,n,O,P⟩:=o.own j x h;refine⟨q,S,c,aK _ f,g,n,?_,P⟩;rw[dD (λz:q=p=>w (z▸f))];exact O
 ·by_cases F:i=j
  ·by_cases y:i=k
   ·exact F.symm.trans y
   ·subst F;have t:i<m.length:=by simpa using(aC.mp c).1
    rw[bG (by rw[<- o.len];exact t)]at g;cases g;rw[bH y]at f n;exact c8 n (N y f)
  ·by_cases y:i=k
   ·subst y;have t:i<m.length:=by simpa using(aC.mp f).1
    rw[bG (by rw[<- o.len];exact t)]at n;cases n;rw[bH F]at c g;exact c8 g (N F c)
   ·rw[bH F]at c g;rw[bH y]at f n;exact o.dis j k x R q c f g n
 ·exact(o.dc.setS (i:=i) (s:=.own ts) (v:=some (.ref p)) λ_ _ z=>nomatch z).to (λj hs Q h=>⟨h,Fx⟩) (λq T a b _=>⟨aK _ a,dD λz=>by rw[z,A]at b;cases b⟩) (λq T _ _ a b=>⟨a,b⟩) (by rw[L];exact L2.bR.refl _)
def Ok.write(o:Ok K B G H ps m C){i:Nat}{p:Addr}(w:m[i]?=some (.own ts))(f:C[i]?=some (some (.ref p)))(r:Reps K (mask H ps) us ys) :
  Ok K B G (iA H p (.lst ys)) ps (m.set i (.own us)) C:=by
 obtain⟨q,Y,M,N,O,P,Q,X⟩:=o.own i ts w;rw[f]at M;cases M;have x:mask (iA H p (.lst ys)) ps=mask H ps:=nD N;have t:i<m.length:=(aC.mp w).1;refine⟨λb u e=>?_,o.sub,λq R=>?_,by simpa using o.len,λj d h=>?_,λj F h=>?_,λj k vs F q n v y A=>?_,?_⟩
 ·have ne:b≠p:=λz=>by rw[z,O]at e;cases e
  rw[dD ne];exact o.base b u e
 ·by_cases e:q=p
  ·subst e;rw[dM];exact .lst
  ·rw[dD e];exact o.live q R
 ·rw[x];by_cases e:i=j
  ·subst e;rw[bG t]at h;cases h
  ·rw[bH e]at h;exact o.val j d h
 ·rw[x];by_cases e:i=j
  ·subst e;rw[bG t]at h;cases h;exact⟨p,ys,f,N,O,P,dM,r⟩
  ·rw[bH e]at h;obtain⟨q,vs,n,v,y,A,S,T⟩:=o.own j F h;refine⟨q,vs,n,v,y,A,?_,T⟩;rw[dD (λz:q=p=>e (o.dis i j ts F p w h f (z▸n)))];exact S
 ·have c:∀{l:Nat}{vs:List D},(m.set i (.own us))[l]?=some (.own vs)->∃g,m[l]?=some (.own g):=λ{l vs} h=>by
   by_cases e:i=l
   ·subst e;exact⟨ts,w⟩
   ·rw[bH e]at h;exact⟨vs,h⟩
  obtain⟨g,n⟩:=c n;obtain⟨L,v⟩:=c v;exact o.dis j k g L q n v y A
 ·exact(o.dc.setT (i:=i) (s:=.own us) λ_ _ z=>nomatch z).to (λj hs U h=>⟨h,Fx⟩) (λq W a b _=>⟨a,dD λz=>by rw[z,Q]at b;cases b⟩) (λq W _ _ a b=>⟨a,b⟩) (by rw[x];exact L2.bR.refl _)
def Ok.share(o:Ok K B G H ps m C){i:Nat}(x:m[i]?=some (.own ts)):∃u,Ok K B G H u (m.set i (.val (.list ts))) C/\bR (mask H ps) (mask H u):=by
 obtain⟨p,Y,L,W,X,N,M,O⟩:=o.own i ts x;have g:i<m.length:=(aC.mp x).1;have c:bR (mask H ps) (mask H (ps.filter λq=>decide (q≠p))):=nE λq n=>(bC.mp n).1;have y:p∉ps.filter λq=>decide (q≠p):=λz=>(c5 (bC.mp z).2) Fx;refine⟨ps.filter λq=>decide (q≠p),⟨o.base,λq n=>bC.mpr ⟨o.sub q n,a8 λz=>N (z▸n)⟩,λq n=>o.live q (bC.mp n).1,by simpa using o.len,λj d h=>?_,λj w h=>?_,λj k w S q r t A F=>?_,?_⟩,c⟩
 ·by_cases e:i=j
  ·subst e;rw[bG g]at h;cases h;exact⟨_,L,.list (mT.of (mP y M)) (O.same c)⟩
  ·rw[bH e]at h;obtain⟨v,r,t⟩:=o.val j d h;exact⟨v,r,t.same c⟩
 ·by_cases e:i=j
  ·subst e;rw[bG g]at h;cases h
  ·rw[bH e]at h;obtain⟨q,T,r,t,A,F,P,Q⟩:=o.own j w h;exact⟨q,T,r,bC.mpr ⟨t,a8 λz=>e (o.dis i j ts w p x h L (z▸r))⟩,A,F,P,Q.same c⟩
 ·have f:∀{l:Nat}{vs:List D},(m.set i (.val (.list ts)))[l]?=some (.own vs)->m[l]?=some (.own vs):=λ{l vs} h=>by
   by_cases e:i=l
   ·subst e;rw[bG g]at h;cases h
   ·rw[bH e]at h;exact h
  exact o.dis j k w S q (f r) (f t) A F
 ·exact(o.dc.setT (i:=i) (s:=.val (.list ts)) λ_ _ z=>nomatch z).to (λj hs R h=>⟨h,Fx⟩) (λq U a b _=>⟨bC.mpr ⟨a,a8 λz=>by rw[z,M]at b;cases b⟩,Fx⟩) (λq U _ _ a b=>⟨a,b⟩) c
abbrev ET:=List Sl->(D->Prop)->Prop
abbrev xQ:=List Sl->(Bool->Prop)->Prop
abbrev AT:=List Sl->(List D->Prop)->Prop
def jG(X:Cx)(e:Expr)(t:ET):Prop:=∃b:TE,PE X e b/\∀B G H ps m C (Q:D->Prop)(a:VK),Ok X.K B G H ps m C->t m Q ->
 (∀d v E,bR H E->jN X.K (mask E ps) d v->Q d->a v E)->b C H a
def IW(X:Cx)(e:Expr)(t:xQ):Prop:=∃c:TT,PT X e c/\∀B G H ps m C (Q:Bool->Prop)(a:Bool->Hp->Prop),Ok X.K B G H ps m C->t m Q ->
 (∀b E,bR H E->Q b->a b E)->c C H a
def Ge(X:Cx)(e:Expr)(t:xQ):Prop:=∃c:TT,PW X e c/\∀B G H ps m C (Q:Bool->Prop)(a:Bool->Hp->Prop),Ok X.K B G H ps m C->t m Q ->
 (∀b E,bR H E->Q b->a b E)->c C H a
def wH(X:Cx)(d:List Expr)(t:AT):Prop:=∃c:TA,PA X d c/\∀B G H ps m C (Q:List D->Prop)(a:List V->Hp->Prop),Ok X.K B G H ps m C->t m Q ->
 (∀b vs E,bR H E->Reps X.K (mask E ps) b vs->Q b->a vs E)->c C H a
structure xR where
 nx:List Sl->Prop
 rt:D->Prop
 bk:List Sl->Prop:=λ_=>False
 ct:List Sl->Prop:=λ_=>False
 ro:List D->Prop:=λ_=>False
 rp:List D->List D->Prop:=λ_ _=>False
 rq:D->List D->Prop:=λ_ _=>False
 xB:Hp->Prop:=λ_=>True
abbrev uF:=xR->List Sl->Prop
structure JB(K:aQ)(B:Hp)(G:List Addr)(H:Hp)(ps:List Addr)(DT:xR)(DV:JC):Prop where
 nx:∀E dm da ak,Ok K B G E dm da ak->bR (mask H ps) (mask E dm)->DT.nx da->DV.nx ak E
 bk:∀E dm da ak,Ok K B G E dm da ak->bR (mask H ps) (mask E dm)->DT.bk da->DV.bk ak E
 ct:∀E dm da ak,Ok K B G E dm da ak->bR (mask H ps) (mask E dm)->DT.ct da->DV.ct ak E
 rt:∀d v E,bR B E->jN K (mask E G) d v->DT.rt d->DV.rt v E
 ro:∀ts p xs E,bR B E->B p=none->p∉G->E p=some (.lst xs)->Reps K (mask E (p::G)) ts xs->DT.ro ts->DV.rt (.ref p) E
 rp:∀as bs r p q xs ys E,bR B E->B r=none->B p=none->B q=none->p≠q->E r=some (.tup [.ref p,.ref q])->E p=some (.lst xs)->E q=some (.lst ys)->Reps K (mask E (p::q::G)) as xs->Reps K (mask E (p::q::G)) bs ys->DT.rp as bs->DV.rt (.ref r) E
 rq:∀a ts r p x xs E,bR B E->B r=none->B p=none->E r=some (.tup [x,.ref p])->E p=some (.lst xs)->jN K (mask E (p::G)) a x->Reps K (mask E (p::G)) ts xs->DT.rq a ts->DV.rt (.ref r) E
 xb:DT.xB B
def JB.later(f:JB K B G H ps DT DV)(e:bR (mask H ps) (mask E dm)):JB K B G E dm DT DV:=
 ⟨λ_ _ _ _ o s q=>f.nx _ _ _ _ o (e.trans s) q,λ_ _ _ _ o s q=>f.bk _ _ _ _ o (e.trans s) q,λ_ _ _ _ o s q=>f.ct _ _ _ _ o (e.trans s) q,f.rt,f.ro,f.rp,f.rq,f.xb⟩
def zQ(X:Cx)(st:Stmt)(t:uF):Prop:=∃c:TS,PS X st c/\∀B G H ps m C (a:xR)(b:JC),Ok X.K B G H ps m C->t a m->JB X.K B G H ps a b->c b C H
def sT(X:Cx)(st:List Stmt)(t:uF):Prop:=∃c:TS,CW X st c/\∀B G H ps m C (a:xR)(b:JC),Ok X.K B G H ps m C->t a m->JB X.K B G H ps a b->c b C H
def IZ(X:Cx)(r:R2)(f:D->D->(D->Prop)->Prop):Prop:=∀H ps(a b:D)(x y:V)(Q:D->Prop)QV,(∀p∈ps,GA (H p))->jN X.K (mask H ps) a x->jN X.K (mask H ps) b y->f a b Q ->
 (∀d v E,bR H E->jN X.K (mask E ps) d v->Q d->QV v E)->r x y H QV
def vI(X:Cx)(r:List V->Hp->VK->Prop)(f:List D->(D->Prop)->Prop):Prop:=∀H ps(a:List D)(b:List V)(Q:D->Prop)QV,(∀p∈ps,GA (H p))->Reps X.K (mask H ps) a b->f a Q ->
 (∀d v E,bR H E->jN X.K (mask E ps) d v->Q d->QV v E)->r b H QV
section
variable{X:Cx}{a b e:Expr}{L:List Expr}{l s P:ET}{pos:Pos}
inductive UQ(C:List Sl)(i:Nat)(Q:D->Prop):Prop
|mk (d:D) (h:C[i]?=some (.val d)) (k:Q d):UQ C i Q
def PQ{C}{i:Nat}{Q:D->Prop}:UQ C i Q↔∃d,C[i]?=some (.val d)/\Q d:=⟨λ⟨d,h,k⟩=>⟨d,h,k⟩,λ⟨d,h,k⟩=>⟨d,h,k⟩⟩
def CC(i:Nat):ET:=λC Q=>UQ C i Q
def eC(d:D):ET:=λ_ Q=>Q d
def aG(i:Nat){x:Str}{pos}(g:X.N[i]?=some x:=by rfl)(j:Gq X.env.scope x:=by first | exact t9 Fx | exact o8 (t9 Fx) | exact o8 (o8 Fx))(hd:(x==("__debug__":Str))=false:=by decide)
  (c:(x==("__classdict__":Str))=false:=by decide):jG X (.Name x pos) (CC i):=
 ⟨_,RT g j hd c,λB G H ps m C Q n o h k=>by
  obtain⟨d,e,q⟩:=h;obtain⟨v,f,r⟩:=o.val i d e;exact⟨v,f,k d v H (L2.bR.refl H) r q⟩⟩
def aN{pos}:jG X (.Constant (.int i) j pos) (eC (.int i)):=⟨_,yG,λ_ _ H _ _ _ _ _ _ h k=>k _ _ H (L2.bR.refl H) (.int i) h⟩
def nQ{b pos}:jG X (.Constant (.bool b) j pos) (eC (.bool b)):=⟨_,Pm,λ_ _ H _ _ _ _ _ _ h k=>k _ _ H (L2.bR.refl H) (.bool b) h⟩
def lU{pos}:jG X (.Constant .none j pos) (eC .none):=⟨_,Xn,λ_ _ H _ _ _ _ _ _ h k=>k _ _ H (L2.bR.refl H) .none h⟩
def eI{pos}:jG X (.Constant (.str x) j pos) (eC (.str x)):=⟨_,Xp,λ_ _ H _ _ _ _ _ _ h k=>k _ _ H (L2.bR.refl H) (.str x) h⟩
def sB{x:Str}{i:Int}{pos}(c:Gl X x)(d:X.mg x=some (.int i t))(hd:(x==("__debug__":Str))=false:=by decide):jG X (.Name x pos) (eC (.int i)):=⟨_,L6 (v:=.int i) c d ⟨t,Fx⟩ hd,λ_ _ H _ _ _ _ _ _ h k=>k _ _ H (L2.bR.refl H) (.int i) h⟩
def D7(f:D->D->(D->Prop)->Prop)(l s:ET):ET:=λC Q=>l C λx=>s C λy=>f x y Q
def AN{f:D->D->(D->Prop)->Prop}(t:IZ X r f){j n:TE}
  (u:∀B G H ps m C (Q:D->Prop)(c:VK),Ok X.K B G H ps m C->l m Q->(∀d v E,bR H E->jN X.K (mask E ps) d v->Q d->c v E)->j C H c)
  (w:∀B G H ps m C (Q:D->Prop)(c:VK),Ok X.K B G H ps m C->s m Q->(∀d v E,bR H E->jN X.K (mask E ps) d v->Q d->c v E)->n C H c)
  (B:Hp) (G:List Addr) (H:Hp) (ps:List Addr) (m:List Sl) (C:L2.St) (Q:D->Prop) (c:VK) (o:Ok X.K B G H ps m C) (h:D7 f l s m Q) (k:∀d v E,bR H E->jN X.K (mask E ps) d v->Q d->c v E):Gk r j n C H c:=by
 refine u B G H ps m C _ _ o h λp x I g N A=>?_;refine w B G I ps m C _ _ (o.grow g) A λq y J i O F=>?_;exact t J ps p q x y Q c ((o.grow g).grow i).live (N.same (cX i)) O F λd v E R M z=>k d v E (g.trans (i.trans R)) M z
def cN{f:D->D->(D->Prop)->Prop}(h:qE X (l5 op) r)(c:IZ X r f)(d:jG X a l)(g:jG X b s):jG X (.BinOp a op b pos) (D7 f l s):=by
 obtain⟨n,i,j⟩:=d;obtain⟨o,pb,k⟩:=g;exact⟨_,L5 h i pb,AN c j k⟩
def oA{f:D->D->(D->Prop)->Prop}(i:qE X (h7 op) r)(c:IZ X r f)(d:jG X a l)(g:jG X b s)(h:x3 op b=false:=by first | exact SC _ | rfl):jG X (.Compare a [op] [b] pos) (D7 f l s):=by
 obtain⟨p,j,n⟩:=d;obtain⟨q,k,o⟩:=g;exact⟨_,WO i j k h,AN c n o⟩
def bJ{f:D->D->(D->Prop)->Prop}(h:U6 X r)(c:IZ X r f)(d:jG X a l)(g:jG X b s)(hs:M7 b:=by intro _ _;rfl):jG X (.Subscript a b pos) (D7 f l s):=by
 obtain⟨n,i,j⟩:=d;obtain⟨o,pb,k⟩:=g;exact⟨_,G9 h i pb hs,AN c j k⟩
def Js(l:ET):ET:=λC Q=>l C λx=>match x with | .int i=>Q (.int (-i)) | _=>False
def FS(f:jG X a l):jG X (.UnaryOp .USub a pos) (Js l):=by
 obtain⟨r,g,n⟩:=f;refine⟨_,Po ZV g,λB G H ps m C Q q o h k=>n B G H ps m C _ _ o h λd x I p j c=>?_⟩
 cases j with
 |int i=>exact⟨i,Fx,k _ _ I p (.int _) c⟩
 |_=>exact c.elim
def wC:AT:=λ_ Q=>Q []
def nS(t:ET)(r:AT):AT:=λC Q=>t C λx=>r C λc=>Q (x::c)
def aJ:wH X [] wC:=⟨_,oR,λ_ _ H _ _ _ _ _ _ h k=>k _ _ H (L2.bR.refl H) .nil h⟩
def aA(g:jG X e P)(i:wH X L tr)(hs:cS (e::L) X.env=(false,eval e X.env)::cS L X.env:=by rfl):wH X (e::L) (nS P tr):=by
 obtain⟨z,j,u⟩:=g;obtain⟨A,n,v⟩:=i;refine⟨_,mO j n hs,λB G H ps m C Q w o h k=>u B G H ps m C _ _ o h λd x I c r p=>?_⟩;refine v B G I ps m C _ _ (o.grow c) p λy F J f t q=>?_;exact k _ _ J (c.trans f) (.cons (r.same (cX f)) t) q
def K1(t:AT):ET:=λC Q=>t C λc=>c.length<=1000/\Q (.tuple c)
def Jr(t:AT):ET:=λC Q=>t C λc=>c.length<=1000/\Q (.list c)
def rS{ps:List Addr}{p:Addr}{c:List D}{f:List V}(live:∀q∈ps,GA (H q))(d:H p=none)(r:Reps K (mask H ps) c f):jN K (mask (iA H p (.tup f)) ps) (.tuple c) (.ref p):=
 .tuple (pG.of (mP (jI live d) dM)) (r.same (cX (eU d)))
def rT{ps:List Addr}{p:Addr}{c:List D}{f:List V}(live:∀q∈ps,GA (H q))(d:H p=none)(r:Reps K (mask H ps) c f):jN K (mask (iA H p (.lst f)) ps) (.list c) (.ref p):=
 .list (mT.of (mP (jI live d) dM)) (r.same (cX (eU d)))
def AO{n:Nat}(h:n<=1000):n<=bO:=jT (NV h)
def eK(h:wH X L t):jG X (.Tuple L x1 pos) (K1 t):=by
 obtain⟨v,p,r⟩:=h;refine⟨_,RU p,λB G H ps m C Q i o h k=>r B G H ps m C _ _ o h λj n I g f d=>⟨AO (by rw[<- f.length];exact d.1),λq c=>?_⟩⟩;exact k _ _ _ (g.trans (eU c)) (rS (o.grow g).live c f) d.2
def nZ(h:wH X L t):jG X (.List L pos) (Jr t):=by
 obtain⟨v,p,r⟩:=h;refine⟨_,FE p,λB G H ps m C Q i o h k=>r B G H ps m C _ _ o h λj n I g f d=>⟨AO (by rw[<- f.length];exact d.1),λq c=>?_⟩⟩;exact k _ _ _ (g.trans (eU c)) (rT (o.grow g).live c f) d.2
def lA(f:List D->(D->Prop)->Prop)(t:AT):ET:=λC Q=>t C λc=>f c Q
abbrev lG:=List D->(D->Prop)->Prop
def cM(K:aQ)(g:lG):Sp:=λvs H Q _=>∃(ps:List Addr)(f:List D)(c:D->Prop),(∀p∈ps,GA (H p))/\Reps K (mask H ps) f vs/\g f c/\∀d v E,bR H E->jN K (mask E ps) d v->c d->Q v E
def XN{k:Nat}{f:Addr}{pn}(F:dP X.prog X.w X.K X.mg X.base gQ k f fd pn (cM X.K sp))(S:X.mg x=some (.ref f))(hk:jS X.K (.ref f)=true)(R:xS X.K fd pn [])
  (T:Room k X.A) (j:wH X (e::L) t) (q:∀{l},PA X (e::L) l->PE X (.Call (.Name x p) (e::L) [] pos) (LO (cM X.K sp) [] E0 l)):jG X (.Call (.Name x p) (e::L) [] pos) (lA sp t):=by
 obtain⟨v,n,M⟩:=j;refine⟨_,q n,λB G H ps m C Q g o h k=>M B G H ps m C _ _ o h λi O I c z u=>?_⟩;show cM X.K sp (O++[]) I g E0;rw[dU];exact⟨ps,i,Q,(o.grow c).live,z,u,λd v E N y r=>k d v E (c.trans N) y r⟩
def xN(t:ET):xQ:=λC Q=>t C λx=>match x with | .bool b=>Q b | _=>False
def ZX(h:jG X e P)(pt:∀{t},PE X e t->PT X e (tB t)):IW X e (xN P):=by
 obtain⟨v,p,r⟩:=h;refine⟨_,pt p,λB G H ps m C Q j o h k=>r B G H ps m C _ _ o h λd x I i g f=>?_⟩
 cases g with
 |bool c=>exact⟨c,Fx,k c I i f⟩
 |_=>exact f.elim
def dN{f:D->D->(D->Prop)->Prop}(q:qE X (h7 op) r)(i:IZ X r f)(j:jG X a l)(n:jG X b s)(p:x3 op b=false:=by first | exact SC _ | rfl):IW X (.Compare a [op] [b] pos) (xN (D7 f l s)):=by
 obtain⟨F,t,w⟩:=j;obtain⟨M,pb,y⟩:=n;refine⟨_,L0 q t pb p,λB G H ps m C Q A o h k=>?_⟩;refine AN i w y B G H ps m C (λx=>match x with | .bool b=>Q b | _=>False) _ o h λd v E z u g=>?_
 cases u with
 |bool c=>exact⟨c,Fx,k c E z g⟩
 |_=>exact g.elim
def Jn(t:xQ):xQ:=λC Q=>t C λb=>Q (!b)
def Jm(t u:xQ):xQ:=λC Q=>t C λb=>if b=true then u C Q else Q false
def Jh(t u:xQ):xQ:=λC Q=>t C λb=>if b=true then Q true else u C Q
variable{M O:xQ}{jX:List Expr}
def EW(h:IW X a M):IW X (.UnaryOp .Not a pos) (Jn M):=by
 obtain⟨v,p,r⟩:=h;exact⟨_,Xu p,λB G H ps m C Q f o h k=>r B G H ps m C _ _ o h λb E d c=>k _ E d c⟩
def vD(h:Ge X e M):IW X e M:=by
 obtain⟨v,p,r⟩:=h;exact⟨_,p.pt,r⟩
def EV(h:IW X a M):Ge X (.BoolOp .And [a] pos) M:=by
 obtain⟨v,p,r⟩:=h;exact⟨_,WE p,r⟩
def vO(h:IW X a M):Ge X (.BoolOp .Or [a] pos) M:=by
 obtain⟨v,p,r⟩:=h;exact⟨_,Xx p,r⟩
def JQ(g:IW X a M)(i:Ge X (.BoolOp .And (b::jX) pos) O):Ge X (.BoolOp .And (a::b::jX) pos) (Jm M O):=by
 obtain⟨v,j,q⟩:=g;obtain⟨w,n,r⟩:=i;refine⟨_,Xw j n,λB G H ps m C Q u o h k=>q B G H ps m C _ _ o h λc I d f=>?_⟩
 cases c with
 |true=>exact r B G I ps m C Q _ (o.grow d) f λb E t p=>k b E (d.trans t) p
 |false=>exact k _ I d f
def zB(g:IW X a M)(i:Ge X (.BoolOp .Or (b::jX) pos) O):Ge X (.BoolOp .Or (a::b::jX) pos) (Jh M O):=by
 obtain⟨v,j,q⟩:=g;obtain⟨w,n,r⟩:=i;refine⟨_,Pp j n,λB G H ps m C Q u o h k=>q B G H ps m C _ _ o h λc I d f=>?_⟩
 cases c with
 |true=>exact k _ I d f
 |false=>exact r B G I ps m C Q _ (o.grow d) f λb E t p=>k b E (d.trans t) p
def Jq(l s:ET):ET:=λC Q=>l C λx=>match x with | .bool c=>if c=true then s C Q else Q (.bool false) | _=>False
def Ld(l s:ET):ET:=λC Q=>l C λx=>match x with | .bool c=>if c=true then Q (.bool true)else s C Q | _=>False
def Wi(h:jG X a l):jG X (.BoolOp op [a] pos) l:=by
 obtain⟨v,p,r⟩:=h;exact⟨_,Xo p,r⟩
def Wh(i:jG X a l)(j:jG X (.BoolOp .And (b::jX) pos) s):jG X (.BoolOp .And (a::b::jX) pos) (Jq l s):=by
 obtain⟨A,n,u⟩:=i;obtain⟨F,p,w⟩:=j;refine⟨_,Xk n p,λB G H ps m C Q z o h k=>u B G H ps m C _ _ o h λd x I g t f=>?_⟩
 cases t with
 |bool c=>
  refine⟨c,Fx,?_⟩
  cases c with
  |true=>exact w B G I ps m C Q _ (o.grow g) f λd v E y r q=>k d v E (g.trans y) r q
  |false=>exact k _ _ I g (.bool false) f
 |_=>exact f.elim
def Xd(f g:D->D->(D->Prop)->Prop)(l s d:ET):ET:=λC Q=>l C λx=>s C λy=>f x y λz=>match z with | .bool c=>if c=true then d C λw=>g y w Q else Q (.bool false) | _=>False
end
end TL
namespace TL
open L2
variable{K:aQ}{H L T U:Hp}{B:Hp}{O I:List Addr}{C:List Sl}{G:L2.St}
section
variable{X:Cx}{a b c e:Expr}{es:List Expr}{Y Z tc W:ET}{pos:Pos}
abbrev OT:=List Sl->(Option Int->Prop)->Prop
def Gj(X:Cx)(e:Option Expr)(t:OT):Prop:=∃to:TO,PO X e to/\∀B O H I C G (Q:Option Int->Prop)(d:Option Int->Hp->Prop),Ok X.K B O H I C G->t C Q ->
 (∀i L,bR H L->Q i->d i L)->to G H d
def HM:OT:=λ_ Q=>Q none
def HL(t:ET):OT:=λG Q=>t G λx=>match x with | .int i=>Q (some i) | _=>False
def jB:Gj X none HM:=⟨_,WJ,λ_ _ H _ _ _ _ _ _ h k=>k _ H (L2.bR.refl H) h⟩
def gW(h:jG X e W):Gj X (some e) (HL W):=by
 obtain⟨v,p,r⟩:=h;refine⟨_,WI p,λB O H I C G Q l o h k=>r B O H I C G _ _ o h λd x T j g f=>?_⟩
 cases g with
 |int i=>exact⟨i,Fx,k _ T j f⟩
 |_=>exact f.elim
def Kk(X:Cx)(r:V->Option Int->Option Int->Hp->VK->Prop)(f:D->Option Int->Option Int->(D->Prop)->Prop):Prop:=∀H I(d:D)(x:V)(lo g:Option Int)(Q:D->Prop)QV,(∀p∈I,GA (H p))->jN X.K (mask H I) d x->f d lo g Q ->
 (∀d v L,bR H L->jN X.K (mask L I) d v->Q d->QV v L)->r x lo g H QV
def Gp(f:D->Option Int->Option Int->(D->Prop)->Prop)(t:ET)(d th:OT):ET:=λG Q=>t G λx=>d G λl=>th G λu=>f x l u Q
def gI{r:V->Option Int->Option Int->Hp->VK->Prop}{f:D->Option Int->Option Int->(D->Prop)->Prop}{lo th}(q:UR X r)(m:Kk X r f)(n:jG X e W)(p:Gj X lo tl)(s:Gj X hi th) :
  jG X (.Subscript e (.Slice lo hi none p2) pos) (Gp f W tl th):=by
 obtain⟨S,t,re⟩:=n;obtain⟨vl,w,N⟩:=p;obtain⟨vu,y,P⟩:=s;refine⟨_,G8 q t w y,λB O H I C G Q j o h k=>re B O H I C G _ _ o h λd x T g M A=>?_⟩;refine N B O T I C G _ _ (o.grow g) A λl U i E=>?_;refine P B O U I C G _ _ ((o.grow g).grow i) E λu H3 s3 F=>?_;exact m H3 I d x l u Q j (((o.grow g).grow i).grow s3).live ((M.same (cX i)).same (cX s3)) F λd v L R J z=>k d v L (g.trans (i.trans (s3.trans R))) J z
variable{st:Stmt}{jX:List Stmt}{t u:uF}
def jP:uF:=λd G=>d.nx G
def fR(t u:uF):uF:=λd G=>t { d with nx:=u d } G
def eM:sT X [] jP:=⟨_,L1,λB O H I C G d g o h f=>f.nx H I C G o (L2.bR.refl _) h⟩
def aS(l:zQ X st t)(m:sT X jX u):sT X (st::jX) (fR t u):=by
 obtain⟨y,p,s⟩:=l;obtain⟨x,q,v⟩:=m;refine⟨_,G6 p q,λB O H I C G g i o h f=>s B O H I C G { g with nx:=u g } { i with nx:=x i } o h ⟨λL j d k n w r=>?_,f.bk,f.ct,f.rt,f.ro,f.rp,f.rq,f.xb⟩⟩;exact v B O L j d k g i n r (f.later w)
def bB(d:zQ X st t):sT X [st] t:=by
 obtain⟨h,f,g⟩:=d;exact⟨_,FA f,g⟩
def Q8(i:Nat)(t:uF):uF:=λf G=>∃d,G[i]?=some (.own d)/\t f (G.set i (.val (.list d)))
def jW(i:Nat)(h:sT X sts t):sT X sts (Q8 i t):=by
 obtain⟨v,p,r⟩:=h;refine⟨_,p,λB O H I C G g j o h f=>?_⟩;obtain⟨m,e,h⟩:=h;obtain⟨d,k,l⟩:=o.share e;exact r B O H d _ G g j k h (f.later l)
def yB(W:ET):uF:=λd G=>W G d.rt
def cJ(h:jG X e W):zQ X (.Return (some e) pos) (yB W):=by
 obtain⟨v,p,r⟩:=h;refine⟨_,yD p,λB O H I C G k l o h f=>r B O H I C G _ _ o h λd x L j i g=>?_⟩;exact f.rt d x L (o.base.trans j) (i.same (nE o.sub)) g
def Gg(c:xQ)(t u:uF):uF:=λd G=>c G λb=>if b=true then t d G else u d G
def fQ{c a b tc}(n:IW X c tc)(l:sT X a t)(m:sT X b u):zQ X (.If c a b pos) (Gg tc t u):=by
 obtain⟨z,r,w⟩:=n;obtain⟨x,p,s⟩:=l;obtain⟨y,q,v⟩:=m;refine⟨_,YI r p q,λB O H I C G i j o h f=>w B O H I C G _ _ o h λd T g k=>?_⟩
 cases d with
 |true=>exact s B O T I C G i j (o.grow g) k (f.later (cX g))
 |false=>exact v B O T I C G i j (o.grow g) k (f.later (cX g))
def JZ(i:Nat)(W:ET):uF:=λf G=>W G λd=>f.nx (G.set i (.val d))
def Z6{i:Nat}(h:jG X e W)(g:∀{v},PE X e v->PS X (.Assign [.Name x pos'] e pos) (xX v (mV i))):zQ X (.Assign [.Name x pos'] e pos) (JZ i W):=by
 obtain⟨v,p,r⟩:=h;refine⟨_,g p,λB O H I C G m n o h f=>r B O H I C G _ _ o h λd x L j l k=>?_⟩;exact f.nx L I _ _ ((o.grow j).set l) (cX j) k
def V9(i:Nat)(t:AT):uF:=λf G=>t G λd=>d.length<=1000/\f.nx (G.set i (.own d))
def Z7{i:Nat}{t}(h:wH X es t)(d:∀{v},PE X (.List es p2) v->PS X (.Assign [.Name x pos'] (.List es p2) pos) (xX v (mV i))):zQ X (.Assign [.Name x pos'] (.List es p2) pos) (V9 i t):=by
 obtain⟨v,p,r⟩:=h;refine⟨_,d (FE p),λB O H I C G m n o h f=>r B O H I C G _ _ o h λs w T l k j=>⟨AO (by rw[<- k.length];exact j.1),λq g=>?_⟩⟩;exact f.nx _ (q::I) _ _ ((o.grow l).setOwn g k) ((cX l).trans (by rw[lE g];exact L2.bR.refl _)) j.2
def WC(i:Nat)(W:ET):uF:=λg G=>∃f,G[i]?=some (.own f)/\W G λd=>f.length<=100000/\g.nx (G.set i (.own (f++[d])))
def qI{i:Nat}{e W}(Q:PE X n (A3 i))(y:jG X e W)(hs:cS [e] X.env=(false,eval e X.env)::cS [] X.env:=by rfl)
  (pb:∀{Y},PA X [e] Y->PS X (.Expr (.Call (.Attribute n "append" ap) [e] [] cp) pos) (QY (U3 X.K "list" LY (A3 i) Y))):zQ X (.Expr (.Call (.Attribute n "append" ap) [e] [] cp) pos) (WC i W):=by
 obtain⟨v,p,r⟩:=y;refine⟨_,pb (mO p oR hs),λB O H I C G J M o h f=>?_⟩;obtain⟨s,e,h⟩:=h;obtain⟨q,j,k,w,N,P,l,m⟩:=o.own i s e;refine⟨.ref q,k,.inl ⟨Fx,j,mT.of l⟩,r B O H I C G _ _ o h λd x T g F E=>?_⟩;refine⟨q,j,x,Fx,Fx,g _ _ l,?_,?_⟩
 ·rw[<- m.length];have:bO=2^24:=rfl;lia
 ·have A:=o.grow g;have z:Reps X.K (mask T I) (s++[d]) (j++[x]):=(m.same (cX g)).append (.cons F .nil);exact f.nx _ I _ G (A.write (ys:=j++[x]) e k z) ((cX g).trans (by rw[nD w];exact L2.bR.refl _)) E.2
noncomputable def GW(x:Str):List D:=x.cps.toList.map λc=>.str ⟨#[c]⟩
noncomputable def MN:D->Option (List D)
|.list ts=>some ts
|.tuple ts=>some ts
|.str x=>some (GW x)
|_=>none
def oW(G:List Sl):Prop:=∀(i:Nat)(s:Sl),(∀d,s≠.val d)->s≠.un->G[i]?≠some s
def pE{G:List Sl}(h:oW G)(i:Nat)(d:D):oW (G.set i (.val d)):=λj s f k e=>by
 by_cases z:i=j
 ·subst z;have g:i<G.length:=by simpa using(aC.mp e).1
  rw[bG g]at e;exact f d (c7 e).symm
 ·rw[bH z]at e;exact h j s f k e
theorem oW.own{G}(h:oW G)(i:Nat)(d:List D):G[i]?≠some (.own d):=h i _ (λ_ z=>nomatch z) λz=>nomatch z
theorem oW.dic{G}(h:oW G)(i:Nat)(hs:List Int)(d:List (D×D)):G[i]?≠some (.dic hs d):=h i _ (λ_ z=>nomatch z) λz=>nomatch z
abbrev GT:=D->List Sl->(List Sl->Prop)->Prop
def M8(X:Cx)(k:Expr)(g:GT):Prop:=∃j:TG,PG X k j/\∀B O H I C G (d:D)(v:V)(Q:List Sl->Prop)(i:L2.St->Hp->Prop),Ok X.K B O H I C G->jN X.K (mask H I) d v->g d C Q ->
 (∀f h,Ok X.K B O H I f h->(oW C->oW f)->Q f->i h H)->j v G H i
def gN(i:Nat):GT:=λd G Q=>Q (G.set i (.val d))
def dB{i:Nat}(h:PG X (.Name x p) (mV i)):M8 X (.Name x p) (gN i):=
 ⟨_,h,λB O H I C G d v Q f o r h k=>k _ _ (o.set r) (λn=>pE n _ _) h⟩
def gP(i j:Nat):GT:=λd G Q=>∃a b,d=.tuple [a,b]/\Q ((G.set i (.val a)).set j (.val b))
def kP{i j:Nat}{t}(h:PG X t (Ib X.K 2 (D1 (mV i) (D1 (mV j) Ia)))):M8 X t (gP i j):=
 ⟨_,h,λB O H I C G d v Q l o r h k=>by
  obtain⟨a,b,rfl,h⟩:=h
  cases r with
  |@tuple p xs _ hq r=>
   cases r with
   |cons f r=>
    cases r with
    |cons g r=>
     cases r;exact⟨_,_,Fx,bR.seqT cV hq,Fx,_,_,Fx,_,_,Fx,Fx,k _ _ ((o.set f).set g) (λn=>pE (pE n _ _) _ _) h⟩⟩
structure X0(K:aQ)(Hs:Hp)(ts:List D)(J:It):Prop where
 stop:∀(i:Nat)H,bR Hs H->ts.length<=i->J.stop i H
 go:∀(i:Nat)H,bR Hs H->i<ts.length->J.go i H
 yld:∀(i:Nat)H I(y:V)L,(∀p∈I,GA (H p))->bR Hs (mask H I)->i<ts.length->J.yld i H y L->bR H L/\∃dx,ts[i]?=some dx/\jN K (mask L I) dx y
abbrev IT:=List Sl->(List D->Prop)->Prop
def JG(X:Cx)(g iter:Expr)(t:IT):Prop:=∃f:TI,PI X g iter f/\∀B O H I C G (Q:List D->Prop)(R:It->Hp->Prop),Ok X.K B O H I C G->t C Q ->
 (∀d J L,bR H L->X0 X.K (mask L I) d J->Q d->R J L)->f G H R
def Lk(W:ET):IT:=λG Q=>W G λd=>∃f,MN d=some f/\Q f
def WD(r:jN K Hs d x)(l:MN d=some ts){R:It->Hp->Prop}(hs:bR Hs T)(h:∀J:It,X0 K Hs ts J->R J T) :
  (∃a,x=.ref a/\(∃f,mT K T a f)/\R (Ix K a) T)\/(∃a,x=.ref a/\(∃f,pG K T a f)/\R (Iv K a) T)\/∃z,x=.str z/\R (He z) T:=by
 cases r with
 |@list p f us q rs=>
  obtain rfl:us=ts:=c7 l;refine .inl ⟨p,Fx,⟨f,L2.bR.seq hs q⟩,h _ ⟨λi H e g=>⟨f,L2.bR.seq e q,by rw[<- rs.length];exact g⟩,λi H e g=>?_,λi H I y L _ e g j=>?_⟩⟩
  ·obtain⟨v,o,_⟩:=rs.get (aD g);exact⟨f,v,L2.bR.seq e q,o⟩
  ·obtain⟨rfl,j⟩:=j;obtain⟨m,n,k⟩:=rs.get' (j f (L2.bR.seq (e.trans cV) q));exact⟨L2.bR.refl _,m,n,k.same e⟩
 |@tuple p f us q rs=>
  obtain rfl:us=ts:=c7 l;refine .inr (.inl ⟨p,Fx,⟨f,bR.seqT hs q⟩,h _ ⟨λi H e g=>⟨f,bR.seqT e q,by rw[<- rs.length];exact g⟩,λi H e g=>?_,λi H I y L _ e g j=>?_⟩⟩)
  ·obtain⟨v,o,_⟩:=rs.get (aD g);exact⟨f,v,bR.seqT e q,o⟩
  ·obtain⟨rfl,j⟩:=j;obtain⟨m,n,k⟩:=rs.get' (j f (bR.seqT (e.trans cV) q));exact⟨L2.bR.refl _,m,n,k.same e⟩
 |str z=>
  obtain rfl:GW z=ts:=c7 l;have g:(GW z).length=z.cps.size:=by unfold GW;simp
  refine .inr (.inr ⟨z,Fx,h _ ⟨λi H _ e=>by rw[g]at e;exact e,λi H _ e=>by rw[g]at e;exact e,λi H I y L _ _ e j=>?_⟩⟩);obtain⟨rfl,c,k,rfl⟩:=j;refine⟨L2.bR.refl _,.str ⟨#[c]⟩,?_,.str _⟩;unfold GW;rw[aF];have:z.cps.toList[i]?=some c:=by simpa using k
  rw[this];rfl
 |_=>cases l
def dS(f:jG X e W):JG X tg e (Lk W):=by
 obtain⟨r,i,re⟩:=f;refine⟨_,Xq i,λB O H I C G Q R o h k=>re B O H I C G _ _ o h λd x T n l j=>?_⟩;obtain⟨p,g,q⟩:=j;exact WD l g cV λJ m=>k p J T n m q
noncomputable def fF(n:Nat):List D:=(eW n).map λ(k:Nat)=>bN (k:Int)
def Wt(t:AT):IT:=λG Q=>t G λd=>∃n:Int,d=[.int n]/\-(2^62)<=n/\n<2^62/\Q (fF n.toNat)
def kU{e t}(m:wH X [e] t)(v:∀{Y},PA X [e] Y->PI X tg (.Call (.Name "range" p) [e] [] p') (ZA Y)):JG X tg (.Call (.Name "range" p) [e] [] p') (Wt t):=by
 obtain⟨F,s,z⟩:=m;refine⟨_,v s,λB O H I C G Q R o h k=>z B O H I C G _ _ o h λE J T A f w=>?_⟩;obtain⟨n,rfl,j,l,q⟩:=w
 cases f with
 |cons f x=>
  cases x;cases f;refine⟨n,Fx,j,l,k (fF n.toNat) _ T A ?_ q⟩;have d:(fF n.toNat).length=n.toNat:=by unfold fF;simp
  refine⟨λi H _ e=>by rw[d]at e;exact e,λi H _ e=>by rw[d]at e;exact e,λi H I y L _ _ e r=>?_⟩;obtain⟨rfl,rfl⟩:=r;have g:(0:Int)+(i:Int)=(i:Int):=by lia
  rw[g];rw[d]at e;refine⟨L2.bR.refl _,.int i,?_,.int _⟩;unfold fF;rw[aF,gG e];rfl
def WB(j:IT)(g:GT)(Z:uF):uF:=λf G=>j G λi=>∃P:Nat->List Sl->Prop,P 0 G /\
 (∀(k:Nat)(x:D)d,i[k]?=some x->P k d->g x d λh=>Z { f with nx:=P (k+1),ct:=P (k+1),bk:=f.nx } h)/\∀d,P i.length d->f.nx d
def Z8{iter Z}(he:JG X tg iter ti)(hg:M8 X tg g)(hb:sT X body Z)
  (pf:∀{wi R bv},PI X tg iter wi->PG X tg R->CW X body bv->PS X (.For tg iter body [] pos) (Kj wi R bv)):zQ X (.For tg iter body [] pos) (WB ti g Z):=by
 obtain⟨ve,pe,re⟩:=he;obtain⟨R,pg,rg⟩:=hg;obtain⟨vb,pb,rb⟩:=hb;refine⟨_,pf pe pg pb,λB O H I C G DT DV o h f=>re B O H I C G _ _ o h λE J T s1 rj q1=>?_⟩;obtain⟨P,h0,hs,hd⟩:=q1;refine⟨λi m n L=>m=E.length-i/\i<=E.length/\∃j d,Ok X.K B O L j d n/\bR (mask T I) (mask L j)/\P i d,⟨_,Fx,dE _,I,C,o.grow s1,L2.bR.refl _,h0⟩,?_⟩;rintro i m n L ⟨rfl,iq,j,d,o',N,p'⟩;have sH:bR (mask T I) L:=N.trans cV;have f':JB X.K B O L j DT DV:=f.later ((cX s1).trans N);by_cases q:i<E.length
 ·refine .inr ⟨rj.go i L sH q,λF U=>∃v p,Ok X.K B O U v p F/\bR (mask T I) (mask U v)/\P (i+1) p,λF U z=>⟨E.length-(i+1),Fu,Fx,q,z⟩,λy U S=>?_⟩;obtain⟨s2,dx,hx,rx⟩:=rj.yld i L j y U o'.live N q S;have f2:=f'.later (cX (ps:=j) s2);have x:bR (mask T I) (mask U j):=N.trans (cX s2);refine rg B O U j d n dx y _ _ (o'.grow s2) rx (hs i dx d hx p') λM xf o3 _ q3=>?_;exact rb B O U j M xf _ _ o3 q3 ⟨λQ l k r s A w=>⟨l,k,s,x.trans A,w⟩,λQ l k r s A w=>f2.nx Q l k r s A w,λQ l k r s A w=>⟨l,k,s,x.trans A,w⟩,f2.rt,f2.ro,f2.rp,f2.rq,f2.xb⟩
 ·obtain rfl:i=E.length:=by lia
  exact .inl ⟨rj.stop _ L sH (aM _),f'.nx L j d n o' (L2.bR.refl _) (hd d p')⟩
noncomputable def IR(G:List Sl):Option Nat->Sl
|none=>.un
|some j=>match G[j]? with | some (.val d)=>.val d | _=>.un
noncomputable def kW(d:List (Option Nat))(G:List Sl):List Sl:=d.map (IR G)
def PJ{G}(h:IR G q=.val d):∃j,q=some j/\G[j]?=some (.val d):=by
 cases q with
 |none=>cases h
 |some j=>
  refine⟨j,Fx,?_⟩;unfold IR at h;dsimp only at h;split at h
  ·next e=>cases h;exact e
  ·cases h
def PK{G}(g:∀d,s≠.val d)(f:s≠.un):IR G q≠s:=λh=>by
 cases q with
 |none=>exact f h.symm
 |some j=>
  unfold IR at h;dsimp only at h;split at h
  ·exact g _ h.symm
  ·exact f h.symm
def qU(d:List (Option Nat))(G:List Sl):oW (kW d G):=λi s j g h=>by
 unfold kW at h;rw[aF]at h
 cases f:d[i]? with
 |none=>rw[f]at h;cases h
 |some q=>
  rw[f]at h;exact PK j g (c7 h)
def Ok.blk(o:Ok K B O H I C G)(fr:List (Option Nat)):Ok K B O H I (kW fr C) (xI fr G) where
 base:=o.base
 sub:=o.sub
 live:=o.live
 len:=by unfold kW xI;simp
 val:=λi d h=>by
  unfold kW at h;rw[aF]at h
  cases hf:fr[i]? with
  |none=>rw[hf]at h;cases h
  |some q=>
   rw[hf]at h;obtain⟨j,rfl,e⟩:=PJ (c7 h);obtain⟨v,h1,h2⟩:=o.val j d e;refine⟨v,?_,h2⟩;unfold xI;rw[aF,hf];simp[h1]
 own:=λi ts h=>c8 h ((qU fr C).own i ts)
 dis:=λi j ts us p h=>c8 h ((qU fr C).own i ts)
 dc:=λi hs kvs h=>c8 h ((qU fr C).dic i hs kvs)
def Ok.adopt(o:Ok K B O H I C G){p:Addr}{u}(f:H p=none)(w:W5 u=false:=by rfl):Ok K B O (iA H p u) (p::I) C G:=by
 have k:mask (iA H p u) (p::I)=mask H I:=lE f;refine⟨o.base.trans (eU f),λq l=>aK _ (o.sub q l),λq l=>?_,o.len,λi d h=>by rw[k];exact o.val i d h,λi y h=>?_,o.dis,o.dc.to (λj hs x h=>⟨h,Fx⟩) (λq E a b _=>⟨aK _ a,dD λz=>by rw[z,f]at b;cases b⟩) (λq E _ _ a b=>⟨a,b⟩) (by rw[k];exact L2.bR.refl _)⟩
 ·by_cases e:q=p
  ·subst e;rw[dM];exact⟨_,Fx,w⟩
  ·rw[dD e];rcases bA.mp l with z | z
   ·exact c8 z e
   ·exact o.live q z
 ·rw[k];obtain⟨q,A,m,n,r,s,g,v⟩:=o.own i y h;exact⟨q,A,m,aK _ n,r,s,by rw[dD λz=>by rw[z,f]at g;cases g];exact g,v⟩
def Ok.aside(o:Ok K B O H I C G){q:Addr}{u}(hp:q∈I)(hB:B q=none)(hn:oW C)(hu:W5 u=false:=by rfl):Ok K B O (iA H q u) I C G where
 base:=λb w e=>by
  rw[dD λz=>by rw[z,hB]at e;cases e];exact o.base b w e
 sub:=o.sub
 live:=λp hp'=>by
  by_cases e:p=q
  ·subst e;rw[dM];exact⟨_,Fx,hu⟩
  ·rw[dD e];exact o.live p hp'
 len:=o.len
 val:=λi d h=>by rw[nD hp];exact o.val i d h
 own:=λi ts h=>c8 h (hn.own i ts)
 dis:=λi j ts us p h=>c8 h (hn.own i ts)
 dc:=λi hs kvs h=>c8 h (hn.dic i hs kvs)
def F8(X:Cx)(d:List Expr)(t:xQ):Prop:=∃g:TT,PV X d g/\∀B O H I C G (Q:Bool->Prop)(f:Bool->Hp->Prop),Ok X.K B O H I C G->t C Q ->
 (∀b L,bR H L->Q b->f b L)->g G H f
def CJ:xQ:=λ_ Q=>Q true
def gZ:F8 X [] CJ:=⟨_,WL,λ_ _ H _ _ _ _ _ _ h k=>k _ H (L2.bR.refl H) h⟩
def pO{t}(h:IW X e t):F8 X [e] t:=by
 obtain⟨v,p,r⟩:=h;exact⟨_,WK p,r⟩
def P4(j:List (Option Nat))(l:IT)(g:GT)(m:xQ)(W:ET):ET:=λG Q=>l G λi=>i.length<=100000/\∃P:Nat->List Sl->List D->Prop,P 0 (kW j G) [] /\
 (∀(k:Nat)(x:D)d(h:List D),i[k]?=some x->P k d h->g x d λf=>m f λb=>if b=true then W f λy=>P (k+1) f (h++[y])else P (k+1) f h)/\∀d h,P i.length d h->Q (.list h)
def WX{ti:IT}{g:GT}{tt:xQ}{W:ET}{wi:TI}{gv:BP->TG}{vt:BP->TT}{ve:BP->TE}
  (ri:∀B O H I C G (Q:List D->Prop)(R:It->Hp->Prop),Ok X.K B O H I C G->ti C Q->(∀M J L,bR H L->X0 X.K (mask L I) M J->Q M->R J L)->wi G H R)
  (rg:∀(x:BP)B O H I C G(d:D)(v:V)(Q:List Sl->Prop)(s:L2.St->Hp->Prop),Ok X.K B O H I C G->jN X.K (mask H I) d v->g d C Q->(∀f r,Ok X.K B O H I f r->(oW C->oW f)->Q f->s r H)->gv x v G H s)
  (rt:∀(x:BP)B O H I C G(Q:Bool->Prop)(s:Bool->Hp->Prop),Ok X.K B O H I C G->tt C Q->(∀b L,bR H L->Q b->s b L)->vt x G H s)
  (re:∀(x:BP)B O H I C G(Q:D->Prop)s,Ok X.K B O H I C G->W C Q->(∀d v L,bR H L->jN X.K (mask L I) d v->Q d->s v L)->ve x G H s)
  (B:Hp) (O:List Addr) (H:Hp) (I:List Addr) (C:List Sl) (G:L2.St) (Q:D->Prop) (s:VK) (o:Ok X.K B O H I C G) (h:P4 fr ti g tt W C Q) (k:∀d v L,bR H L->jN X.K (mask L I) d v->Q d->s v L):QX fr wi gv vt ve G H s:=by
 refine ri B O H I C G _ _ o h λM J T s1 rj q1=>?_;obtain⟨hz,P,h0,hs,hd⟩:=q1;intro x j l
 have N:B j=none:=by
  cases q:B j with
  |none=>rfl
  |some u=>rw[(o.grow s1).base j u q]at l;cases l
 have yf:j∉I:=jI (o.grow s1).live l
 refine⟨λi m r L=>m=M.length-i/\i<=M.length/\∃f A S,Ok X.K B O L (j::I) f r/\oW f/\L j=some (.lst S)/\A.length<=i/\Reps X.K (mask L (j::I)) A S/\bR (mask T I) (mask L (j::I))/\bR T L/\P i f A,
  ⟨_,Fx,dE _,kW fr C,[],[],((o.grow s1).blk fr).adopt l,qU fr C,dM,aM _,.nil,by rw[lE l];exact L2.bR.refl _,eU l,h0⟩,?_⟩
 rintro i m r L ⟨rfl,iq,f,A,S,o',n',ha,hl,hr,s',sF,p'⟩;have hL:bO=2^24:=rfl;by_cases E:i<M.length
 ·refine .inr ⟨rj.go i L (s'.trans cV) E,λy U hy=>?_⟩;obtain⟨s2,dx,hx,rx⟩:=rj.yld i L (j::I) y U o'.live s' E hy;refine rg x B O U (j::I) f r dx y _ _ (o'.grow s2) rx (hs i dx f A hx p') λn xf o3 n3 q3=>?_;refine rt x B O U (j::I) n xf _ _ o3 q3 λb H4 s4 q4=>?_;have w:=s2.trans s4
  cases b with
  |false=>
   exact⟨M.length-(i+1),Fu,Fx,E,n,A,S,o3.grow s4,n3 n',w _ _ ha,Fu,hr.same (cX w),s'.trans (cX w),sF.trans w,q4⟩
  |true=>
   refine re x B O H4 (j::I) n xf _ _ (o3.grow s4) q4 λd v H5 s5 r5 q5=>?_;have F:=w.trans s5;have hm:mask (iA H5 j (.lst (S++[v]))) (j::I)=mask H5 (j::I):=nD (aP ..);refine⟨S,F _ _ ha,by rw[<- hr.length];lia,M.length-(i+1),Fu,Fx,E,n,A++[d],S++[v],((o3.grow s4).grow s5).aside (aP ..) N (n3 n'),n3 n',dM,by rw[aV,lR];lia,?_,?_,?_,q5⟩
   ·rw[hm];exact(hr.same (cX F)).append (.cons r5 .nil)
   ·rw[hm];exact s'.trans (cX F)
   ·intro b u e;have ne:b≠j:=λz=>by rw[z,l]at e;cases e
    rw[dD ne];exact(sF.trans F) b u e
 ·obtain rfl:i=M.length:=by lia
  refine .inl ⟨rj.stop _ L (s'.trans cV) (aM _),k (.list A) _ L (s1.trans sF) (.list (mT.of (mP yf ha)) (hr.same (nE λp hp=>aK _ hp))) (hd f A p')⟩
def S9{iter W}(j:JG X tg iter ti)
  (f:∀b:BP,M8 (blk X scope N' b) tg g/\F8 (blk X scope N' b) ifs tt/\jG (blk X scope N' b) elt W) {M:(TE)->Prop}
  (fin:∀{h}{gv:BP->TG}{vt:BP->TT}{ve:BP->TE},PI X tg iter h->(∀b:BP,PG (blk X scope N' b) tg (gv b)/\PV (blk X scope N' b) ifs (vt b)/\PE (blk X scope N' b) elt (ve b))->M (QX fr h gv vt ve)) :
  ∃v:TE,M v/\∀B O H I C G (Q:D->Prop)(i:VK),Ok X.K B O H I C G->P4 fr ti g tt W C Q ->
   (∀d v L,bR H L->jN X.K (mask L I) d v->Q d->i v L)->v G H i:=by
 obtain⟨h,k,l⟩:=j;refine⟨_,fin (gv:=λb=>e8 (f b).1) (vt:=λb=>e8 (f b).2.1) (ve:=λb=>e8 (f b).2.2) k λb=>⟨(d0 (f b).1).1,(d0 (f b).2.1).1,(d0 (f b).2.2).1⟩,?_⟩;exact WX l (λb=>(d0 (f b).1).2) (λb=>(d0 (f b).2.1).2) λb=>(d0 (f b).2.2).2
def Nw{iter W}(j:JG X tg iter ti)
  (i:∀b:BP,M8 (blk X scope N' b) tg g/\F8 (blk X scope N' b) ifs tt/\jG (blk X scope N' b) elt W)
  (k:∀{wi}{d:BP->TG}{h:BP->TT}{f:BP->TE},PI X tg iter wi->(∀b:BP,PG (blk X scope N' b) tg (d b)/\PV (blk X scope N' b) ifs (h b)/\PE (blk X scope N' b) elt (f b))->PE X (.ListComp elt [⟨tg,iter,ifs,0⟩] scope pos) (QX fr wi d h f)) :
  jG X (.ListComp elt [⟨tg,iter,ifs,0⟩] scope pos) (P4 fr ti g tt W):=S9 j i k
def qQ{i:Nat}{iter W}(q:JG X tg iter ti)
  (n:∀b:BP,M8 (blk X scope N' b) tg g/\F8 (blk X scope N' b) ifs tt/\jG (blk X scope N' b) elt W)
  (s:∀{wi}{j:BP->TG}{m:BP->TT}{l:BP->TE},PI X tg iter wi->(∀b:BP,PG (blk X scope N' b) tg (j b)/\PV (blk X scope N' b) ifs (m b)/\PE (blk X scope N' b) elt (l b)) ->
   PS X (.Assign [.Name x px] (.ListComp elt [⟨tg,iter,ifs,0⟩] scope pos) spos) (xX (QX fr wi j m l) (mV i))) :
  zQ X (.Assign [.Name x px] (.ListComp elt [⟨tg,iter,ifs,0⟩] scope pos) spos) (JZ i (P4 fr ti g tt W)):=by
 obtain⟨v,p,r⟩:=S9 (M:=λv=>PS X (.Assign [.Name x px] (.ListComp elt [⟨tg,iter,ifs,0⟩] scope pos) spos) (xX v (mV i))) (fr:=fr) q n s;refine⟨_,p,λB O H I C G z A o h f=>r B O H I C G _ _ o h λd x L k y w=>?_⟩;exact f.nx L I _ _ ((o.grow k).set y) (cX k) w
noncomputable def pI(N:List Str)(d:List D):List Sl:=d.map Sl.val++qG (N.length-d.length) .un
def xC(live:∀p∈I,GA (H p))(r:Reps K (mask H I) ds vs):Ok K H I H I (pI N ds) (L2.sM N vs):=by
 have k:=r.length;refine⟨L2.bR.refl _,λ_ h=>h,live,?_,λi d h=>?_,λi o h=>?_,λi j o q p h=>?_,λi hs n h=>?_⟩
 ·unfold pI L2.sM;simp[k]
 ·unfold pI at h;by_cases f:i<ds.length
  ·rw[dQ (by simpa using f),aF]at h
   cases hd:ds[i]? with
   |none=>rw[hd]at h;cases h
   |some g=>
    rw[hd]at h;cases h;obtain⟨v,l,m⟩:=r.get hd;refine⟨v,?_,m⟩;unfold L2.sM;rw[dQ (by rw[aB,<- k];exact f),aF,l];rfl
  ·rw[cA (by simpa using f),lB]at h;split at h<;>cases h
 ·unfold pI at h;by_cases f:i<ds.length
  ·rw[dQ (by simpa using f),aF]at h
   cases hd:ds[i]? with
   |none=>rw[hd]at h;cases h
   |some g=>rw[hd]at h;cases h
  ·rw[cA (by simpa using f),lB]at h;split at h<;>cases h
 ·unfold pI at h;by_cases f:i<ds.length
  ·rw[dQ (by simpa using f),aF]at h
   cases hd:ds[i]? with
   |none=>rw[hd]at h;cases h
   |some g=>rw[hd]at h;cases h
  ·rw[cA (by simpa using f),lB]at h;split at h<;>cases h
 ·unfold pI at h;by_cases f:i<ds.length
  ·rw[dQ (by simpa using f),aF]at h
   cases hd:ds[i]? with
   |none=>rw[hd]at h;cases h
   |some g=>rw[hd]at h;cases h
  ·rw[cA (by simpa using f),lB]at h;split at h<;>cases h
def mB{mg:Str->Option Value}{st}{f:Addr}{N pn:List Str}{k:Nat}{n:lG}(F:P6 K x qual st f fd)(S:bT N pn (bF st))
  (l:∀{j}{A:f9}{outer}{s:Shared}{H E},Room k (A.deeper (z7 qual (bF st) s.heap.objs.size f j))->N.Nodup->∀(i:List D)(Q:D->Prop),n i Q ->
   ∃t,sT (CF gQ P w K mg base N qual (bF st) f j A outer s H E).nox (nI st) t/\t { nx:=λ_=>Q .none,rt:=Q } (pI N i)) (len:∀i Q,n i Q->i.length=pn.length:=by intro i Q h;(repeat obtain⟨_,h⟩:=h)<;>subst_vars<;>rfl):dP P w K mg base gQ (k+1) f fd pn (cM K n):=by
 refine F.ok S (λvs H Q E h=>?_) λj A outer s H vs Q E z h=>?_
 ·obtain⟨I,i,m,_,r,q,_⟩:=h;rw[<- r.length];exact len i m q
 ·obtain⟨I,i,m,live,r,q,k⟩:=h;obtain⟨t,⟨ts,p,rd⟩,h⟩:=l z S.nd i m q;refine⟨ts,p,rd H I H I _ _ _ _ (xC live r) h ⟨λL M y ak J o g=>?_,λ_ _ _ _ _ _ g=>g.elim,λ_ _ _ _ _ _ g=>g.elim,λd v L o R g=>k d v L o R g,λ_ _ _ _ _ _ _ _ _ g=>g.elim,λ_ _ _ _ _ _ _ _ _ _ _ _ _ _ _ _ _ _ g=>g.elim,λ_ _ _ _ _ _ _ _ _ _ _ _ _ _ g=>g.elim,ar⟩⟩;exact k _ _ L J.base .none g
end
end TL
namespace HT
section
variable{prog:cH}{w:d7}{A:f9}{E:Value->Shared->Prop}{s:Shared}
def getItem_tuple_all{t g:Addr}{a:Array Value}{lo}{Q:Value->Shared->Prop}(b:tu s.heap t a)(hs:s.heap.IsSliceOf g vl vu .none)(j:IsPart vl lo)(k:IsPart vu hi)
  (hw:sIx a.size 0 lo=0/\sIx a.size a.size hi=a.size) (h:Q (.ref t) s):wpAny (model prog w) A (bf (.ref t) (.ref g)) Q E s:=by
 obtain⟨os,f,e,i⟩:=id hs;have d:s.TypeIs (.ref g) "slice":=⟨os,f,e⟩;unfold bf
 try with_reducible refine j7 ?_
 first | refine aE (aL ?_) | skip
 refine aE (uk b.typeIs Ft ?_)
 refine aE (f7 (name:=c9 "__getitem__") b.typeIs j6
  (eX j6 b.typeIs rl ?_ (se _ _)))
 show wpAny _ _ (v1 (.ref t) >>= _) _ _ s;refine aE (tupleItemsOf_ b ?_);refine aE (bi d ?_);rw[b8 Ft];refine aE (qR hs j k ?_)
 have c:(((sIx a.size 0 lo:Nat):Int)==0&&(1:Int)==1&&(sIx a.size a.size hi-sIx a.size 0 lo)==a.size)=true:=by
  rw[hw.1,hw.2];simp
 show wpAny _ _ (if(((sIx a.size 0 lo:Nat):Int)==0&&(1:Int)==1&&(sIx a.size a.size hi-sIx a.size 0 lo)==a.size)=true then _ else _) _ _ s;rw[b8 c];unfold Builtin.Tuple.tupleIsExact;refine aE (aE (bi b.typeIs (aL ?_)));rw[b8 Ft]
 first
  |exact aE (l7 (aE (aL (aL ⟨_,Fx,aL h⟩))))
  |exact aE (l7 (aL ⟨_,Fx,aL h⟩))
  |exact aE (l7 (aE (aL ⟨_,Fx,aL h⟩)))
end
end HT
namespace L2
section
variable{X:Cx}
def Kf:V->Option Int->Option Int->Hp->VK->Prop:=λx lo a H Q=>∃z,x=.str z/\z.length<=bO/\Q (.str (Txt.slice z lo a)) H
def XR:UR X Kf:=by
 intro b s o H x v r w lo a p Q I n hs m e h;obtain⟨z,rfl,g,q⟩:=h;obtain⟨t,rfl⟩:=n;refine⟨"str",_,PySem.F.slot_str_getitem.lookup,bg _ _ _,?_⟩
 have fin:∀lo a:Option Int,Q (.str (Txt.slice z lo a)) H->(Txt.slice z lo a).length<=bO/\∀(c:Tok)(k:Nat),EP X b o Q (.str (Txt.slice z lo a) c) { s with toks:=k }:=λlo a q=>
  ⟨bP (Txt.slice_le z _ _) g,λc k=>⟨.str _,H,I.tok k,⟨c,Fx⟩,q⟩⟩
 cases m with
 |none=>
  cases e with
  |none=>exact v0 (l:=none) (u:=none) (st:=none) hs Fx (bn (fin none none q))
  |int j d=>exact v0 (l:=none) (u:=some (j,d)) (st:=none) hs Fx (bn (fin none (some j) q))
 |int i f=>
  cases e with
  |none=>exact v0 (l:=some (i,f)) (u:=none) (st:=none) hs Fx (bn (fin (some i) none q))
  |int j d=>exact v0 (l:=some (i,f)) (u:=some (j,d)) (st:=none) hs Fx (bn (fin (some i) (some j) q))
def YF(K:aQ):V->Option Int->Option Int->Hp->VK->Prop:=λx lo c H Q=>∃a b,x=.ref a/\pG K H a b /\
 ((HT.sIx b.length 0 lo=0/\HT.sIx b.length b.length c=b.length)->Q (.ref a) H)/\(¬(HT.sIx b.length 0 lo=0/\HT.sIx b.length b.length c=b.length)->∀p,H p=none->Q (.ref p) (iA H p (.tup (FY b lo c))))
def V3:UR X (YF X.K):=by
 intro d s t H x v p q lo f o Q I l hs j k h;obtain⟨a,b,rfl,i,m,n⟩:=h;by_cases hw:HT.sIx b.length 0 lo=0/\HT.sIx b.length b.length f=b.length
 ·cases l;obtain⟨e,r,g,u⟩:=I.tuple i;have c:e.toArray.size=b.length:=by rw[bI];exact r.length.symm
  exact⟨"tuple",_,PyProof.Rows.slot_tuple_getitem.lookup,g.typeIs,HT.getItem_tuple_all g hs j k (by rw[c];exact hw) ⟨.ref a,H,I,Fx,m hw⟩⟩
 ·exact Ya d s t H (.ref a) v p q lo f o Q I l hs j k ⟨a,b,Fx,i,hw,n hw⟩
def RE(K:aQ):V->Option Int->Option Int->Hp->VK->Prop:=λx lo a H Q=>Ke K x lo a H Q\/YF K x lo a H Q\/Kf x lo a H Q
def kI:UR X (RE X.K):=LS.or (V3.or XR)
def RH(K:aQ):R2:=λx y H Q=>∃a b c d,x=.ref a/\y=.ref b/\pG K H a c/\pG K H b d/\c.length+d.length<=bO /\
 (c=[]->Q (.ref b) H)/\(c≠[]->d=[]->Q (.ref a) H)/\(c≠[]->d≠[]->∀p,H p=none->Q (.ref p) (iA H p (.tup (c++d))))
def R4:qE X (l5 .Add) (RH X.K):=by
 intro j s S H x y v u Q I w z h;obtain⟨a,b,A,R,rfl,rfl,p,q,E,L,M,N⟩:=h;by_cases f:A=[]
 ·cases w;cases z;obtain⟨g,O,G,_⟩:=I.tuple p;obtain⟨i,T,J,_⟩:=I.tuple q;obtain⟨⟨B,dd,o,P⟩,t,r,n,hd⟩:=id G;obtain⟨⟨m,k,data2,l⟩,e,c,F,d⟩:=id J;simp only at r hd c d;subst r hd c d;have C:g=[]:=O.nil_iff.mpr f;exact dj ⟨_,t,Fx⟩ ⟨_,e,Fx⟩ dv gw sK rG (qN _ _) (tuple_addW0 a b g.toArray i.toArray n F dd k P l (by simp[C])) ⟨t,e,⟨.ref b,H,I,Fx,L f⟩⟩
 ·exact WQ j s S H (.ref a) (.ref b) v u Q I w z ⟨a,b,A,R,Fx,Fx,p,q,f,E,M f,N f⟩
def YH(K:aQ):R2:=λx y H Q=>∃l b a c,x=.ref l/\y=.ref b/\mT K H l a/\mT K H b c/\a.length+c.length<=bO/\∀p,H p=none->Q (.ref p) (iA H p (.lst (a++c)))
def L8:qE X (l5 .Add) (YH X.K):=by
 intro w s S H x y v u Q I M N h;obtain⟨l,b,P,R,rfl,rfl,E,G,t,q⟩:=h;cases M;cases N;obtain⟨c,z,⟨⟨B,dd,m,O⟩,n,r,o,J,hd⟩,_⟩:=I.list E;obtain⟨a,A,⟨⟨k,g,data2,j⟩,L,f,d,p,e⟩,_⟩:=I.list G;simp only at o hd d e;subst o hd d e;have i:c.toArray.size+a.toArray.size<=bO:=by rw[bI,bI,<- z.length,<- A.length];exact t
 refine dj ⟨_,r,Fx⟩ ⟨_,f,Fx⟩ noFill_list_add seq_list_add PySem.F.slot_list_add PySem.F.entry_list_add (PySem.F.args_list_add_2 _ _) (list_addW l b c.toArray a.toArray n L dd g O j i) ⟨r,f,?_⟩;have C:c.toArray++a.toArray=(c++a).toArray:=by simp
 rw[C];exact⟨.ref _,_,I.lnew (t':=s.toks) (z.append A) (by rw[aV];exact t),Fx,q _ I.fresh⟩
def LZ(K:aQ):R2:=λx y H Q=>(RG λi j=>.int (i+j)) x y H Q\/(∃i j,x=.str i/\y=.str j/\i.length+j.length<=bO/\Q (.str (i++j)) H)\/RH K x y H Q\/YH K x y H Q
def cG:qE X (l5 .Add) (LZ X.K):=Yi.or (J7.or (R4.or L8))
def LX:R2:=λx y H Q=>(rI LJ λi j=>.int (i*j)) x y H Q\/∃z n,x=.str z/\y=.int n/\z.length<=1000/\0<=n/\n<=1000/\Q (.str (Txt.mul z n)) H
def J6:qE X (l5 .Mult) (λx y H Q=>∃z n,x=.str z/\y=.int n/\z.length<=1000/\0<=n/\n<=1000/\Q (.str (Txt.mul z n)) H):=by
 intro c s o H x y v u Q I e f h;obtain⟨z,n,rfl,rfl,d,g,i,q⟩:=h;obtain⟨t,rfl⟩:=e;obtain⟨m,rfl⟩:=f;refine SB.mul ⟨by simp;lia,λa _=>?_,λ_ _=>?_⟩ λb k=>⟨.str _,H,I.tok k,⟨b,Fx⟩,q⟩
 ·have l:1<=n:=by lia
  have:(1000:Int)<=(2^63-1) / n:=by
   rw[Int.le_ediv_iff_mul_le Fu];lia
  lia
 ·have:z.length*n.toNat<=1000*1000:=gA d Fu;unfold Builtin.Str.tooLong;have j:bO=2^24:=rfl;simp only[sh];lia
def iF:qE X (l5 .Mult) LX:=R1.or J6
def xM(F:X.calm=true):mI X (.builtin "all") (λB H Q=>∃(p:Addr)(bs:List Bool),B=[.ref p]/\mT X.K H p (bs.map V.bl)/\Q (.bl (bs.all id)) H):=by
 intro k s M H B W Q I r h;obtain⟨p,bs,rfl,J,q⟩:=h;obtain⟨u,rfl,L⟩:=oG r;cases L;obtain⟨c,n,y,S⟩:=I.list J
 have m:p≠s.heap.objs.size:=by
  obtain⟨o,G,_⟩:=y.isList;exact bV (bE G)
 have j:=y.isList;refine call_all_walk (j4 j ?_);refine⟨_,_,_,_,_,_,λi=>(bs[i]?).getD true,Fx,bt (A:=X.A.in1) (I.ok.hd F) _ p m c.toArray,⟨⟨_,aY _ Fx,Fx,Fx⟩,j.push _⟩,λi v T P N E d=>?_,λR U hk=>?_⟩
 ·have w:c[i]?=some v:=by simpa using E
  have a:=n.length;have f:i<c.length:=(aC.mp w).1;have l:i<bs.length:=by rw[aB]at a;lia
  obtain⟨Y,t,C⟩:=n.get (i:=i) (x:=.bl bs[i]) (by rw[aF,aD l];rfl);rw[w]at t;cases t;cases C;refine v9 ?_;dsimp only at d;rw[aD l]at d;exact d
 ·have e:(eW c.toArray.size).all (λi=>(bs[i]?).getD true)=bs.all id:=by
   have a:=n.length;rw[aB]at a;rw[bI,<- a];rw[fH,fU,fU];constructor
   ·intro h b l;obtain⟨i,f,rfl⟩:=vK.mp l;have:=h i (mC.mpr f);rw[aD f]at this;exact this
   ·intro h i f;have g:=mC.mp f;rw[aD g];exact h _ (dL g)
  rw[e];have O:eL X k M H { s with heap:=s.heap.push { cls:=.type "list_iterator",data:=.fields #[.ref p,.int 0 0] } }:=I.kept (t':=s.toks) λb o e=>aH _ e;refine⟨.bl _,H,I.kept λb o e=>hk b o ?_ (aH _ e),Fx,q⟩;intro z;have:b=s.heap.objs.size:=by simpa using z
  exact c8 (bE e) (by rw[this];exact iG _)
def Ig:R2:=λx y H Q=>∃b,y=.bl b/\Q (.bl (decide (x=.bl b))) H
def E6:R2:=λx y H Q=>∃b,y=.bl b/\Q (.bl (!decide (x=.bl b))) H
def Y9{b:Bool}(r:jM x v):plainIs v (.bool b)=true/\(v==x9 b)=decide (x=.bl b):=by
 cases x with
 |non=>cases r;exact⟨Fx,Fx⟩
 |bl c=>cases r;cases b<;>cases c<;>exact⟨Fx,Fx⟩
 |int _=>obtain⟨t,rfl⟩:=r;exact⟨Fx,Fx⟩
 |str _=>obtain⟨t,rfl⟩:=r;exact⟨Fx,Fx⟩
 |byt _=>obtain⟨t,rfl⟩:=r;exact⟨Fx,Fx⟩
 |flt _=>obtain⟨t,rfl⟩:=r;exact⟨Fx,Fx⟩
 |ref _=>cases r;exact⟨Fx,Fx⟩
 |ty _=>cases r;exact⟨Fx,Fx⟩
def OA:qE X (h7 .IsNot) E6:=by
 intro a s g H x y v u Q I e f h;obtain⟨b,rfl,q⟩:=h;cases f;obtain⟨c,d⟩:=Y9 (b:=b) e;refine wpAny_isNot_plain c ?_;rw[d];exact⟨.bl _,H,I,Fx,q⟩
def Xi:qE X (h7 .Is) Ig:=by
 intro a s g H x y v u Q I e f h;obtain⟨b,rfl,q⟩:=h;cases f;obtain⟨c,d⟩:=Y9 (b:=b) e;refine wpAny_is_plain c ?_;rw[d];exact⟨.bl _,H,I,Fx,q⟩
theorem AJ:∀{a:List Str}{us},gO (a.map V.str) us->StrsAre us a
|[],_,r=>by rw[mF]at r;cases r;exact .nil
|y::a,us,r=>by
 rw[aZ]at r
 cases r with
 |cons b c=>
  obtain⟨t,rfl⟩:=b;exact .cons y t (AJ c)
def MG:P5 X "str.join" (λx c H Q=>∃z p a,x=.str z/\c=[.ref p]/\mT X.K H p (a.map V.str)/\(a.map (·.length)).sum+a.length*z.length<=16777216/\Q (.str (Txt.join z a)) H):=by
 intro b s o H x c v n Q I l r h;obtain⟨z,p,a,rfl,rfl,d,e,q⟩:=h;obtain⟨t,rfl⟩:=l;obtain⟨u,rfl,i⟩:=oG r;cases i;obtain⟨f,j,g,_⟩:=I.list d;exact PyProof.Rows.join_list g.isList (by simpa using AJ j) e λm k=>⟨.str _,H,I.tok k,⟨m,Fx⟩,q⟩
end
noncomputable def nH(l:List Str)(y:Str):List Str:=if y∈l then l else l++[y]
noncomputable def dd(a:List Str):List Str:=a.foldl nH []
def D8(l:List Str)(y z:Str):z∈nH l y↔z∈l\/z=y:=by
 unfold nH;by_cases h:y∈l
 ·rw[b8 h];exact⟨.inl,λq=>q.elim id λe=>e▸h⟩
 ·rw[a9 h];simp
theorem EB:∀(a l:List Str),(a.foldl nH l).length<=l.length+a.length
|[],l=>by simp
|y::a,l=>by
 have c:=EB a (nH l y)
 have b:(nH l y).length<=l.length+1:=by
  unfold nH;split<;>simp
 rw[nA,bX];lia
def Xb(a:List Str):(dd a).length<=a.length:=by
 unfold dd;have:=EB a [];simpa using this
def FX(a:List Str)(i:Nat)(y:Str)(h:a[i]?=some y):dd (a.take (i+1))=nH (dd (a.take i)) y:=by
 unfold dd;rw[bS,h,lW]
 rfl
theorem zC:∀{ay ys},StrsAre ay ys->∀(i:Nat)(v:Value),ay[i]?=some v->∃y t,ys[i]?=some y/\v=.str y t
|_,_,.nil,i,v,h=>by simp at h
|_,_,.cons y t _,0,v,h=>by simp at h;exact⟨y,t,Fx,h.symm⟩
|_,_,.cons y t r,i+1,v,h=>by
 obtain⟨z,u,a,b⟩:=zC r i v (by simpa using h);exact⟨z,u,by simpa using a,b⟩
def Q2{h:Heap}{a:Addr}{S b:AD->Bool}{n c:Nat}(f:h.SetOf (oD P w) a S n)(e:∀k,S k=b k)(d:n=c):h.SetOf (oD P w) a b c:=by
 have z:S=b:=funext e;subst z;subst d;exact f
section
variable{prog:cH}{w:d7}
def EJ(prog:cH)(w:d7)(h:Heap)(S:Addr)(l:List Str):Prop:=h.SetOf (oD prog w) S (λk=>match k with | .inr z=>decide (z∈l) | .inl _=>false) l.length
end
noncomputable def US(P:cH)(w:d7)(q:Addr)(n:Nat):HO:=.ext λh=>∃S,h.SetOf (oD P w) q S n
section
variable{X:Cx}
def vH:mI X (.builtin "len") (λc H Q=>∃(q:Addr)(n:Nat),c=[.ref q]/\H q=some (US X.prog X.w q n)/\Q (.int n) H):=by
 intro b s p H c m Q I r h;obtain⟨q,n,rfl,i,d⟩:=h;obtain⟨u,rfl,j⟩:=oG r;cases j;obtain⟨⟨S,o,l,k,t,g,hex,hd,_,_,a,e,f⟩,_⟩:=I.hok q _ i;subst f;refine call_len_set g hex hd e ?_ ⟨.int _,H,I.tok _,⟨_,Fx⟩,d⟩;unfold ck at a;lia
end
end L2
namespace TL
open L2
variable{K:aQ}{H F J L:Hp}{B:Hp}{G w:List Addr}{A:List Sl}{E:L2.St}
section
variable{X:Cx}{a b c e:Expr}{M:List Expr}{O N:ET}{pos p:Pos}
def fI(C:Int->Int->Prop)(g:Int->Int->Int):D->D->(D->Prop)->Prop
|.int i,.int j,Q=>C i j/\Q (.int (g i j))
|_,_,_=>False
def Jf(g:Int->Int->Int):D->D->(D->Prop)->Prop
|.int i,.int j,Q=>Q (.int (g i j))
|_,_,_=>False
def Jg(g:Int->Int->Bool):D->D->(D->Prop)->Prop
|.int i,.int j,Q=>Q (.bool (g i j))
|_,_,_=>False
def pK{C:Int->Int->Prop}{g:Int->Int->Int}:IZ X (rI C λi j=>.int (g i j)) (fI C g):=by
 intro H w m n x y Q l live d f h k
 cases d with
 |int i=>
  cases f with
  |int j=>exact⟨i,j,Fx,Fx,h.1,k _ _ H (L2.bR.refl H) (.int _) h.2⟩
  |_=>exact h.elim
 |_=>exact h.elim
def OH{g:Int->Int->Int}:IZ X (RG λi j=>.int (g i j)) (Jf g):=by
 intro H w m n x y Q l live d f h k
 cases d with
 |int i=>
  cases f with
  |int j=>exact⟨i,j,Fx,Fx,k _ _ H (L2.bR.refl H) (.int _) h⟩
  |_=>exact h.elim
 |_=>exact h.elim
def sS{g:Int->Int->Bool}:IZ X (RG λi j=>.bl (g i j)) (Jg g):=by
 intro H w m n x y Q l live d f h k
 cases d with
 |int i=>
  cases f with
  |int j=>exact⟨i,j,Fx,Fx,k _ _ H (L2.bR.refl H) (.bool _) h⟩
  |_=>exact h.elim
 |_=>exact h.elim
def XJ:D->D->(D->Prop)->Prop
|.int i,.int j,Q=>Q (.int (i+j))
|.str x,.str y,Q=>x.length+y.length<=100000/\Q (.str (x++y))
|.tuple x,.tuple y,Q=>x.length+y.length<=100000/\Q (.tuple (x++y))
|.list x,.list y,Q=>x.length+y.length<=100000/\Q (.list (x++y))
|_,_,_=>False
def zM{n:Nat}(h:n<=100000):n<=bO:=by have:bO=2^24:=rfl;lia
def fJ:IZ X (LZ X.K) XJ:=by
 intro H w t u x y Q s live q n h k
 cases q with
 |int i=>
  cases n with
  |int j=>exact .inl ⟨i,j,Fx,Fx,k _ _ H (L2.bR.refl H) (.int _) h⟩
  |_=>exact h.elim
 |str i=>
  cases n with
  |str j=>exact .inr (.inl ⟨i,j,Fx,Fx,zM h.1,k _ _ H (L2.bR.refl H) (.str _) h.2⟩)
  |_=>exact h.elim
 |tuple l d=>
  cases n with
  |tuple m f=>
   refine .inr (.inr (.inl ⟨_,_,_,_,Fx,Fx,bR.seqT cV l,bR.seqT cV m,zM (by rw[<- d.length,<- f.length];exact h.1),λz=>?_,λr o=>?_,λr o p g=>?_⟩))
   ·subst z;cases d;exact k _ _ H (L2.bR.refl H) (.tuple m f) h.2
   ·subst o;cases f;have e:=h.2;rw[dU]at e;exact k _ _ H (L2.bR.refl H) (.tuple l d) e
   ·exact k _ _ _ (eU g) (rS live g (d.append f)) h.2
  |_=>exact h.elim
 |list l d=>
  cases n with
  |list m f=>
   exact .inr (.inr (.inr ⟨_,_,_,_,Fx,Fx,L2.bR.seq cV l,L2.bR.seq cV m,zM (by rw[<- d.length,<- f.length];exact h.1),λp g=>k _ _ _ (eU g) (rT live g (d.append f)) h.2⟩))
  |_=>exact h.elim
 |_=>exact h.elim
def Hx:D->D->(D->Prop)->Prop
|.int i,.int j,Q=>LJ i j/\Q (.int (i*j))
|.str z,.int n,Q=>z.length<=1000/\0<=n/\n<=1000/\Q (.str (Txt.mul z n))
|_,_,_=>False
def oV:IZ X LX Hx:=by
 intro H w l m x y Q g live f d h k
 cases f with
 |int i=>
  cases d with
  |int j=>exact .inl ⟨i,j,Fx,Fx,h.1,k _ _ H (L2.bR.refl H) (.int _) h.2⟩
  |_=>exact h.elim
 |str z=>
  cases d with
  |int n=>exact .inr ⟨z,n,Fx,Fx,h.1,h.2.1,h.2.2.1,k _ _ H (L2.bR.refl H) (.str _) h.2.2.2⟩
  |_=>exact h.elim
 |_=>exact h.elim
noncomputable def Gb:D->D->Option Bool
|.none,.none=>some true
|.bool x,.bool y=>some (decide (x=y))
|.int x,.int y=>some (decide (x=y))
|.str x,.str y=>some (decide (x=y))
|.str _,.none | .none,.str _=>some false
|_,_=>none
def Hm(x y:D)(Q:D->Prop):Prop:=match Gb x y with | some c=>Q (.bool c) | none=>False
def Hl(x y:D)(Q:D->Prop):Prop:=match Gb x y with | some c=>Q (.bool (!c)) | none=>False
def II{x y:D}{u v:V}{c:Bool}(d:jN K H x u)(f:jN K H y v)(h:Gb x y=some c):Ih u v=true/\decide (u=v)=c:=by
 unfold Gb at h;split at h<;>cases h<;>cases d<;>cases f<;>exact⟨Fx,Fv⟩
def oS:IZ X Jc Hm:=by
 intro H w d f x y Q m live j l h k;unfold Hm at h
 cases e:Gb d f with
 |none=>rw[e]at h;exact h.elim
 |some c=>
  rw[e]at h;obtain⟨g,i⟩:=II j l e;refine⟨g,?_⟩;rw[i];exact k _ _ H (L2.bR.refl H) (.bool c) h
def HJ:IZ X Ja Hl:=by
 intro H w d f x y Q m live j l h k;unfold Hl at h
 cases e:Gb d f with
 |none=>rw[e]at h;exact h.elim
 |some c=>
  rw[e]at h;obtain⟨g,i⟩:=II j l e;refine⟨g,?_⟩;rw[i];exact k _ _ H (L2.bR.refl H) (.bool (!c)) h
noncomputable def rY(b:Bool):D->Bool
|.bool c=>decide (c=b)
|_=>false
def Wl(x y:D)(Q:D->Prop):Prop:=match y with | .bool b=>Q (.bool (!rY b x)) | _=>False
theorem Reps.atI{i:Int}(r:Reps K H ds vs)(h:atI ds i=some d):∃v,atI vs i=some v/\jN K H d v:=by
 unfold L2.atI at h |-
 rw[<- r.length]
 cases e:Ga ds.length i with
 |none=>rw[e]at h;cases h
 |some j=>
  rw[e]at h;exact r.get h
inductive CL(ts:List D)(i:Int)(Q:D->Prop):Prop
|mk (d:D) (h:atI ts i=some d) (k:Q d):CL ts i Q
def LG{i:Int}{Q:D->Prop}:CL ts i Q↔∃d,atI ts i=some d/\Q d:=⟨λ⟨d,h,k⟩=>⟨d,h,k⟩,λ⟨d,h,k⟩=>⟨d,h,k⟩⟩
def Go(x y:D)(Q:D->Prop):Prop:=match x,y with
|.list ts,.int i=>CL ts i Q
|.tuple ts,.int i=>CL ts i Q
|.str z,.int i=>z.length<=100000/\∃c,atI z.cps.toList i=some c/\Q (.str ⟨#[c]⟩)
|_,_=>False
def cD:IZ X (Jb X.K) Go:=by
 intro H w g o x y Q n live l m h k
 cases m with
 |int i=>
  cases l with
  |list q s=>
   obtain⟨d,e,h⟩:=h;obtain⟨v,f,r⟩:=s.atI e;exact .inl ⟨_,_,i,v,Fx,Fx,L2.bR.seq cV q,f,k _ _ H (L2.bR.refl H) r h⟩
  |tuple q s=>
   obtain⟨d,e,h⟩:=h;obtain⟨v,f,r⟩:=s.atI e;exact .inr (.inl ⟨_,_,i,v,Fx,Fx,bR.seqT cV q,f,k _ _ H (L2.bR.refl H) r h⟩)
  |str z=>
   obtain⟨j,c,e,h⟩:=h;exact .inr (.inr ⟨z,i,c,Fx,Fx,zM j,e,k _ _ H (L2.bR.refl H) (.str _) h⟩)
  |_=>exact h.elim
 |_=>cases g<;>exact h.elim
noncomputable def kD{f:Type}(d:List f)(lo g:Option Int):List f:=(d.drop (HT.sIx d.length 0 lo)).take (HT.sIx d.length d.length g-HT.sIx d.length 0 lo)
def Gm(x:D)(lo d:Option Int)(Q:D->Prop):Prop:=match x with
|.list ts=>Q (.list (kD ts lo d))
|.tuple ts=>Q (.tuple (kD ts lo d))
|.str z=>z.length<=100000/\Q (.str (Txt.slice z lo d))
|_=>False
def Reps.cut(r:Reps K H ds vs)(lo d:Option Int):Reps K H (kD ds lo d) (FY vs lo d):=by
 unfold kD FY;rw[r.length];exact(r.drop _).take _
def qJ:Kk X (RE X.K) Gm:=by
 intro H w d x lo g Q j live r h k
 cases r with
 |list q s=>exact .inl ⟨_,_,Fx,L2.bR.seq cV q,λp f=>k _ _ _ (eU f) (rT live f (s.cut lo g)) h⟩
 |@tuple p xs ts q s=>
  refine .inr (.inl ⟨_,_,Fx,bR.seqT cV q,λz=>?_,λ_ p f=>k _ _ _ (eU f) (rS live f (s.cut lo g)) h⟩)
  have e:kD ts lo g=ts:=by
   unfold kD;rw[s.length,z.1,z.2,pY,vL,<- s.length,cU]
  have i:Q (.tuple (kD ts lo g)):=h;rw[e]at i;exact k _ _ H (L2.bR.refl H) (.tuple q s) i
 |str z=>exact .inr (.inr ⟨z,Fx,zM h.1,k _ _ H (L2.bR.refl H) (.str _) h.2⟩)
 |_=>exact h.elim
def Lb(x y:D)(Q:D->Prop):Prop:=match x,y with
|.str z,.str y=>Q (.bool (Txt.contains y z))
|.str z,.list ts=>∃d:List Str,ts=d.map .str/\Q (.bool (decide (z∈d)))
|.str z,.tuple ts=>∃d:List Str,ts=d.map .str/\Q (.bool (decide (z∈d)))
|_,_=>False
theorem uO:∀{d:List Str}{vs},Reps K H (d.map aO) vs->vs=d.map V.str
|[],_,r=>by rw[mF]at r;cases r;rfl
|y::d,vs,r=>by
 rw[aZ]at r
 cases r with
 |cons f g=>
  cases f;rw[aZ,uO g]
def Wm(x y:D)(Q:D->Prop):Prop:=match x,y with
|.str z,.list ts=>∃d:List Str,ts=d.map .str/\Q (.bool (!decide (z∈d)))
|.str z,.tuple ts=>∃d:List Str,ts=d.map .str/\Q (.bool (!decide (z∈d)))
|_,_=>False
def ZM{r:List V->Hp->VK->Prop}{f:List D->(D->Prop)->Prop}(n:vI X r f)(m:wH X (e::M) t)(s:∀{O},PA X (e::M) O->PE X (.Call g (e::M) [] pos) (VM r O)):jG X (.Call g (e::M) [] pos) (lA f t):=by
 obtain⟨v,q,C⟩:=m;refine⟨_,s q,λB G H w A E Q j o h k=>C B G H w A E _ _ o h λl P J i z x=>?_⟩;exact n J w l P Q j (o.grow i).live z x λd v F I y u=>k d v F (i.trans I) y u
def f1(f:D->(D->Prop)->Prop):List D->(D->Prop)->Prop
|[d],Q=>f d Q
|_,_=>False
def c1{r:List V->Hp->VK->Prop}{f:D->(D->Prop)->Prop}(h:∀H w(d:D)(x:V)(Q:D->Prop)g,(∀p∈w,GA (H p))->jN X.K (mask H w) d x->f d Q ->
  (∀d v F,bR H F->jN X.K (mask F w) d v->Q d->g v F)->r [x] H g):vI X r (f1 f):=by
 intro H w n o Q g live m i k
 cases m with
 |nil=>exact i.elim
 |cons j l=>
  cases l with
  |nil=>exact h H w _ _ Q g live j i k
  |cons _ _=>exact i.elim
def Hz(d:D)(Q:D->Prop):Prop:=match d with
|.list ts=>Q (.int ts.length)
|.tuple ts=>Q (.int ts.length)
|.str z=>z.length<=100000/\Q (.int z.length)
|_=>False
def cZ:mI X (.builtin "len") (λf H Q=>(∃p d,f=[.ref p]/\(mT X.K H p d\/pG X.K H p d)/\Q (.int d.length) H)\/∃z,f=[.str z]/\z.length<=bO/\Q (.int z.length) H):=F1.or F0
def iK:vI X (λg H Q=>(∃p f,g=[.ref p]/\(mT X.K H p f\/pG X.K H p f)/\Q (.int f.length) H)\/∃z,g=[.str z]/\z.length<=bO/\Q (.int z.length) H) (f1 Hz):=c1 λH w d x Q i live r h k=>by
 cases r with
 |list q s=>
  refine .inl ⟨_,_,Fx,.inl (L2.bR.seq cV q),?_⟩;rw[<- s.length];exact k _ _ H (L2.bR.refl H) (.int _) h
 |tuple q s=>
  refine .inl ⟨_,_,Fx,.inr (bR.seqT cV q),?_⟩;rw[<- s.length];exact k _ _ H (L2.bR.refl H) (.int _) h
 |str z=>exact .inr ⟨z,Fx,zM h.1,k _ _ H (L2.bR.refl H) (.int _) h.2⟩
 |_=>exact h.elim
def vV(d:D)(Q:D->Prop):Prop:=match d with
|.list ts=>Q (.tuple ts)
|.tuple ts=>Q (.tuple ts)
|_=>False
def qC:vI X (λi H Q=>∃p f,i=[.ref p]/\((mT X.K H p f/\∀l,H l=none->Q (.ref l) (iA H l (.tup f)))\/(pG X.K H p f/\Q (.ref p) H))) (f1 vV):=c1 λH w d x Q j live r h k=>by
 cases r with
 |list q s=>exact⟨_,_,Fx,.inl ⟨L2.bR.seq cV q,λl g=>k _ _ _ (eU g) (rS live g s) h⟩⟩
 |tuple q s=>exact⟨_,_,Fx,.inr ⟨bR.seqT cV q,k _ _ H (L2.bR.refl H) (.tuple q s) h⟩⟩
 |_=>exact h.elim
def ZE(d:D)(Q:D->Prop):Prop:=match d with
|.list ts=>Q (.list ts)
|.tuple ts=>Q (.list ts)
|_=>False
def UI:vI X (λi H Q=>∃p g,i=[.ref p]/\(mT X.K H p g\/pG X.K H p g)/\∀l,H l=none->Q (.ref l) (iA H l (.lst g))) (f1 ZE):=c1 λH w d x Q j live r h k=>by
 cases r with
 |list q s=>exact⟨_,_,Fx,.inl (L2.bR.seq cV q),λl f=>k _ _ _ (eU f) (rT live f s) h⟩
 |tuple q s=>exact⟨_,_,Fx,.inr (bR.seqT cV q),λl f=>k _ _ _ (eU f) (rT live f s) h⟩
 |_=>exact h.elim
theorem G5:∀{d:List Bool}{vs},Reps K H (d.map kG) vs->vs=d.map V.bl
|[],_,r=>by rw[mF]at r;cases r;rfl
|y::d,vs,r=>by
 rw[aZ]at r
 cases r with
 |cons f g=>
  cases f;rw[aZ,G5 g]
theorem uP:∀{d:List Int}{vs},Reps K H (d.map bN) vs->vs=d.map V.int
|[],_,r=>by rw[mF]at r;cases r;rfl
|y::d,vs,r=>by
 rw[aZ]at r
 cases r with
 |cons f g=>
  cases f;rw[aZ,uP g]
def XB(d:D)(Q:D->Prop):Prop:=∃bs:List Bool,d=.list (bs.map kG)/\Q (.bool (bs.all id))
def ZO:vI X (λf H Q=>∃(p:Addr)(bs:List Bool),f=[.ref p]/\mT X.K H p (bs.map V.bl)/\Q (.bl (bs.all id)) H) (f1 XB):=c1 λH w d x Q g live r h k=>by
 obtain⟨bs,rfl,h⟩:=h
 cases r with
 |list q s=>
  have e:=G5 s;subst e;exact⟨_,bs,Fx,L2.bR.seq cV q,k _ _ H (L2.bR.refl H) (.bool _) h⟩
def Ml(d:D)(Q:D->Prop):Prop:=∃ns:List Int,d=.list (ns.map bN)/\ns≠[]/\∀m,m∈ns->(∀n∈ns,m<=n)->Q (.int m)
def f2(f:D->D->(D->Prop)->Prop):List D->(D->Prop)->Prop
|[d,d'],Q=>f d d' Q
|_,_=>False
def OK(x y:D)(Q:D->Prop):Prop:=match x,y with | .int i,.int j=>Q (.int (if j<i then j else i)) | _,_=>False
def IK(f:Str->List D->(D->Prop)->Prop)(N:ET)(t:AT):ET:=λE Q=>N E λd=>∃z,d=.str z/\t E λg=>f z g Q
def Oy(z:Str)(d:List D)(Q:D->Prop):Prop:=match d with | [.str y]=>Q (.int (Txt.find z y)) | _=>False
def ZF(z:Str)(f:List D)(Q:D->Prop):Prop:=match f with | [.list ts]=>∃d:List Str,ts=d.map aO/\(d.map (·.length)).sum+d.length*z.length<=16777216/\Q (.str (Txt.join z d)) | _=>False
def DX{f:Str->List D->(D->Prop)->Prop}{r:V->List V->Hp->VK->Prop}(y:jG X n N)(s:wH X (e::M) t)
  (u:∀H w(z:Str)(j:List D)(l:List V)(Q:D->Prop)i,Reps X.K (mask H w) j l->f z j Q->(∀d v F,bR H F->jN X.K (mask F w) d v->Q d->i v F)->r (.str z) l H i)
  (I:∀{v O},PE X n v->PA X (e::M) O->PE X (.Call g (e::M) [] pos) (U3 X.K "str" r v O)):jG X (.Call g (e::M) [] pos) (IK f N t):=by
 obtain⟨v,P,re⟩:=y;obtain⟨va,C,Y⟩:=s;refine⟨_,I P C,λB G H w A E Q i o h k=>re B G H w A E _ _ o h λd x J q U m=>?_⟩;obtain⟨z,rfl,m⟩:=m;cases U;refine⟨Fx,Y B G J w A E _ _ (o.grow q) m λj l L s2 W S=>?_⟩;exact u L w z j l Q i W S λd v F Z T R=>k d v F (q.trans (s2.trans Z)) T R
def MU(j:jG X n N)(i:wH X (e::M) t)
  (m:∀{v O},PE X n v->PA X (e::M) O->PE X (.Call (.Attribute n "join" ap) (e::M) [] pos) (U3 X.K "str" (λx g H Q=>∃z p d,x=.str z/\g=[.ref p]/\mT X.K H p (d.map V.str)/\(d.map (·.length)).sum+d.length*z.length<=16777216/\Q (.str (Txt.join z d)) H) v O)):jG X (.Call (.Attribute n "join" ap) (e::M) [] pos) (IK ZF N t):=
 DX j i (λH w z y g Q u r h k=>by
  cases r with
  |nil=>exact h.elim
  |cons f o=>
   cases o with
   |cons _ _=>cases f<;>exact h.elim
   |nil=>
    cases f with
    |list q s=>
     obtain⟨d,rfl,l,h⟩:=h;have e:=uO s;subst e;exact⟨z,_,d,Fx,Fx,L2.bR.seq cV q,l,k _ _ H (L2.bR.refl H) (.str _) h⟩
    |_=>exact h.elim) m
def V6(i j:Nat)(N:ET):uF:=λf E=>N E λd=>gP i j d E f.nx
def JW{i j:Nat}{g:TG}(n:jG X e N)(q:M8 X tg (gP i j))(s:∀{v k},PE X e v->PG X tg k->PS X (.Assign [tg] e pos) (xX v k)):zQ X (.Assign [tg] e pos) (V6 i j N):=by
 obtain⟨v,t,re⟩:=n;obtain⟨k,u,I⟩:=q;refine⟨_,s t u,λB G H w A E Q R o h f=>re B G H w A E _ _ o h λd x J l C z=>?_⟩;exact I B G J w A E d x _ _ (o.grow l) C z λm P r _ y=>f.nx J w _ _ r (cX l) y
def jN.reads{k:List (Addr×Obj)}{s:Shared}{E:L2.St}(I:eL X k E H s){d:D}{x:V}{u:Value}(hd:d.hasDict=false)(r:jN X.K H d x)(l:jM x u):∃f,Reads s.heap u d f:=by
 refine jN.rec (motive_1:=λd x _=>∀u,d.hasDict=false->jM x u->∃f,Reads s.heap u d f) (motive_2:=λm Q _=>∀v,lQ m=false->gO Q v->∃f,ReadsAll s.heap v m f)
  (λu _ r=>by cases r;exact⟨_,.none⟩) (λb u _ r=>by cases r;exact⟨_,.bool b⟩) (λi u _ r=>by obtain⟨t,rfl⟩:=r;exact⟨_,.int i t⟩) (λz u _ r=>by obtain⟨t,rfl⟩:=r;exact⟨_,.str z t⟩)
  (λq _ a u hd r=>?_) (λq _ a u hd r=>?_) ?_ ?_ ?_ ?_ ?_ ?_ ?_ ?_ (λv _ r=>by cases r;exact⟨_,.nil⟩) (λ{d m x Q} _ _ a b v hd r=>?_) r u hd l
 ·cases r;obtain⟨P,l,⟨o,n,h,j,_,y⟩,_⟩:=I.list q;obtain⟨f,C⟩:=a _ hd l;exact⟨_,.list h j y (by simpa using C)⟩
 ·cases r;obtain⟨P,l,⟨o,h,j,n,y⟩,_⟩:=I.tuple q;obtain⟨f,C⟩:=a _ hd l;exact⟨_,.tuple h j y (by simpa using C)⟩
 case refine_11=>
  have g:(d.hasDict||lQ m)=false:=hd;rw[mD]at g
  cases r with
  |cons R S=>
   obtain⟨f,h⟩:=a _ g.1 R;obtain⟨bs,j⟩:=b _ g.2 S;exact⟨_,.cons h j⟩
 all_goals intros;rename_i hd _;cases hd
def Pa(d:D)(Q:D->Prop):Prop:=d.showable=true/\d.hasDict=false/\d.depth<=60/\d.shown.length<=bO/\Q (.str d.shown)
end
end TL
namespace TL
open L2
noncomputable def Ij(a:List (Str×o0)):Bool:=match a.filter (λy=>y.2==e7)with
|[]=>true
|[x]=>a.lookup x.1==some .cell
|_=>false
def WS(h:Ij names=true):uW names:=by
 unfold Ij at h;split at h
 ·rename_i e;exact .inl e
 ·rename_i x e;have a:x∈names.filter (λy=>y.2==e7):=by rw[e];exact bW.mpr Fx
  have hk:x.2=.cell:=ci (bC.mp a).2;exact .inr ⟨x.1,by rw[e,<- hk],beq_iff_eq.mp h⟩
 ·cases h
noncomputable def sN(a out:Scope)(c b:List Str)(d:List (Option Nat)):Bool:=
 decide (a.kind=.function)&&Ij a.names&&a.names.all (λy=>decide (y.2≠.free)||decide (out.names.lookup y.1=some .cell))&&a.names.all (λy=>decide (y.2≠.local)||decide (a.names.lookup y.1=some .local))&&tV a.names out.names c b d
section
variable{X:Cx}{c iter j:Expr}{d:List Expr}{a:Scope}{pos:Pos}{f:List Str}{k:List (Option Nat)}{n:TI}{g:BP->TG}{m:BP->TT}{l:BP->TE}
def DY{out:Scope}(h:sN a out Nx f k=true):a.kind=.function/\uW a.names/\(∀y∈a.names,y.2=.free->out.names.lookup y.1=some .cell)/\(∀y∈a.names,y.2=.local->a.names.lookup y.1=some .local)/\tV a.names out.names Nx f k=true:=by
 unfold sN at h;simp only[cL,fU,gT,d4]at h;obtain⟨⟨⟨⟨i,o⟩,p⟩,q⟩,r⟩:=h;exact⟨i,WS o,λy b e=>(p y b).elim (λz=>c8 e z) id,λy b e=>(q y b).elim (λz=>c8 e z) id,r⟩
def RW(h:sN a X.env.scope X.N f k=true)(e:X.calm=true)(t:PI X j iter n)
  (s:∀b:BP,PG (blk X a f b) j (g b)/\PV (blk X a f b) d (m b)/\PE (blk X a f b) c (l b)) (hs:∀x,j3 iter X.env x=pure x:=by intro _;rfl):PE X (.ListComp c [⟨j,iter,d,0⟩] a pos) (QX k n g m l):=by
 obtain⟨i,o,p,q,r⟩:=DY h;exact Pn e i o r p q t s hs
def pC{i:Nat}{r e:Pos}(h:sN a X.env.scope X.N f k=true)(y:X.N.Nodup)(p:X.N[i]?=some x)(C:PX X.env.scope x)(o:X.calm=true)(B:PI X j iter n)
  (z:∀b:BP,PG (blk X a f b) j (g b)/\PV (blk X a f b) d (m b)/\PE (blk X a f b) c (l b))
  (q:oF (.ListComp c [⟨j,iter,d,0⟩] a pos) (some (.Name x r)) e.line X.env=pure true) (hs:∀x,j3 iter X.env x=pure x:=by intro _;rfl) (A:X.fn x=true\/X.env.scope.names.lookup x=some .local:=by first | exact .inl Fx | exact .inr Fx) :
  PS X (.Assign [.Name x r] (.ListComp c [⟨j,iter,d,0⟩] a pos) e) (xX (QX k n g m l) (mV i)):=by
 obtain⟨s,t,u,v,w⟩:=DY h;exact RN y p C o s t w u v B z q hs A
end
def UL:f6 "all"=some (.builtin "all"):=by decide +kernel
def Wc:f6 "max"=some (.builtin "max"):=by decide +kernel
def fL:f6 "len"=some (.builtin "len"):=by decide +kernel
def UK:f6 "set"=some (.type "set"):=by decide +kernel
def oO:f6 "tuple"=some (.type "tuple"):=by decide +kernel
def uT:f6 "list"=some (.type "list"):=by decide +kernel
def F2:f6 "int"=some (.type "int"):=by decide +kernel
def set_set{d:Type}(l:List d)(i:Nat)(a b:d):(l.set i a).set i b=l.set i b:=by
 apply jF;intro j;by_cases h:i=j
 ·subst h;by_cases c:i<l.length
  ·rw[bG (by simpa using c),bG c]
  ·rw[eD (by simpa using c),eD (by simpa using c)]
 ·rw[bH h,bH h,bH h]
def Y7{f:List D}{i:List Sl}{te:ET}{Q:D->Prop}(R:Nat->D->D->Prop)(w:f.length<=100000)
  (u:∀(k:Nat)(x:D)(q:D->Prop),f[k]?=some x->(∀y,R k x y->q y)->te (i.set 0 (.val x)) q)
  (t:∀m:List D,m.length=f.length->(∀(k:Nat)(x y:D),f[k]?=some x->m[k]?=some y->R k x y)->Q (.list m)) :
  f.length<=100000/\∃P:Nat->List Sl->List D->Prop,P 0 i [] /\
   (∀(k:Nat)(x:D)(a:List Sl)(c:List D),f[k]?=some x->P k a c->gN 0 x a λd=>CJ d λb=>if b=true then te d λy=>P (k+1) d (c++[y])else P (k+1) d c)/\∀a c,P f.length a c->Q (.list c):=by
 refine⟨w,λk a c=>(∀x,a.set 0 (.val x)=i.set 0 (.val x))/\c.length=k/\∀(j:Nat)(x y:D),f[j]?=some x->c[j]?=some y->R j x y,⟨λ_=>rfl,Fx,λj x y _ h=>by simp at h⟩,λk x a c p h=>?_,λa c h=>t c h.2.1 h.2.2⟩;obtain⟨r,o,s⟩:=h;show te (a.set 0 (.val x)) _;rw[r x];refine u k x _ p λy v=>⟨λz=>set_set _ _ _ _,by simp[o],λj A B l g=>?_⟩;by_cases C:j<k
 ·rw[dQ Fu]at g;exact s j A B l g
 ·rw[cA Fu]at g
  have:j=k:=by
   by_cases e:j=k
   ·exact e
   ·have:j-c.length≠0:=by lia
    cases q:j-c.length with
    |zero=>exact c8 q this
    |succ n=>rw[q]at g;simp at g
  subst this;rw[p]at l;cases l;simp[o]at g;subst g;exact v
def Yf{d:List D}{l:List Sl}{te:ET}{Q:D->Prop}(f:D->D)(s:d.length<=100000)(r:∀(x:D)(q:D->Prop),x∈d->q (f x)->te (l.set 0 (.val x)) q)(p:Q (.list (d.map f))) :
  d.length<=100000/\∃P:Nat->List Sl->List D->Prop,P 0 l [] /\
   (∀(k:Nat)(x:D)a(g:List D),d[k]?=some x->P k a g->gN 0 x a λc=>CJ c λb=>if b=true then te c λy=>P (k+1) c (g++[y])else P (k+1) c g)/\∀a g,P d.length a g->Q (.list g):=by
 refine Y7 (λk x y=>y=f x) s (λk x q j h=>r x q (aR j) (h _ Fx)) λm o h=>?_
 have e:m=d.map f:=by
  apply jF;intro i;rw[aF]
  cases j:d[i]? with
  |none=>
   rw[eD (by rw[o];exact qP.mp j)];rfl
  |some x=>
   have n:i<m.length:=by rw[o];exact(aC.mp j).1
   have:=h i x m[i] j (aD n);rw[aD n,this];rfl
 rw[e];exact p
def WY{c:List D}{i:List Sl}{tt:xQ}{te:ET}{Q:D->Prop}(p:D->Bool)(f:D->D)(t:c.length<=100000)(o:∀(x:D)(q:Bool->Prop),x∈c->q (p x)->tt (i.set 0 (.val x)) q)
  (s:∀(x:D)(q:D->Prop),x∈c->q (f x)->te (i.set 0 (.val x)) q) (r:Q (.list ((c.filter p).map f))) :
  c.length<=100000/\∃P:Nat->List Sl->List D->Prop,P 0 i [] /\
   (∀(k:Nat)(x:D)(a:List Sl)(d:List D),c[k]?=some x->P k a d->gN 0 x a λg=>tt g λb=>if b=true then te g λy=>P (k+1) g (d++[y])else P (k+1) g d)/\∀a d,P c.length a d->Q (.list d):=by
 refine⟨t,λk a d=>(∀x,a.set 0 (.val x)=i.set 0 (.val x))/\d=((c.take k).filter p).map f,⟨λ_=>rfl,Fx⟩,λk x a d m h=>?_,λa d h=>?_⟩
 ·obtain⟨n,rfl⟩:=h;have l:x∈c:=aR m;show tt (a.set 0 (.val x)) _;rw[n x];refine o x _ l ?_;have e:c.take (k+1)=c.take k++[x]:=by rw[bS,m];rfl
  cases j:p x with
  |true=>
   rw[b8 rfl];refine s x _ l ⟨λz=>set_set _ _ _ _,?_⟩;rw[e,gY,bK];simp[j]
  |false=>
   rw[a9 Ft];refine⟨λz=>set_set _ _ _ _,?_⟩;rw[e,gY,bK];simp[j]
 ·obtain⟨_,rfl⟩:=h;rw[cU];exact r
section
variable{d:List (Option Nat)}{c:IT}{e:xQ}{b:ET}{a:List Sl}{Q:D->Prop}{ts:List D}
abbrev uH(c:IT)(a:List Sl)(ts:List D):Prop:=∀R:List D->Prop,R ts->c a R
def iU(g:uH c a ts)(f:D->D)(j:ts.length<=100000)(i:∀(x:D)(q:D->Prop),x∈ts->q (f x)->b ((kW d a).set 0 (.val x)) q)(h:Q (.list (ts.map f))):P4 d c (gN 0) CJ b a Q:=
 g _ (Yf (te:=b) (Q:=Q) f j i h)
def FL(f:uH c a ts)(R:Nat->D->D->Prop)(j:ts.length<=100000)
  (i:∀(k:Nat)(x:D)(q:D->Prop),ts[k]?=some x->(∀y,R k x y->q y)->b ((kW d a).set 0 (.val x)) q)
  (h:∀g:List D,g.length=ts.length->(∀(k:Nat)(x y:D),ts[k]?=some x->g[k]?=some y->R k x y)->Q (.list g)):P4 d c (gN 0) CJ b a Q:=
 f _ (Y7 (te:=b) (Q:=Q) R j i h)
def mG(g:uH c a ts)(p:D->Bool)(f:D->D)(k:ts.length<=100000)(h:∀(x:D)(q:Bool->Prop),x∈ts->q (p x)->e ((kW d a).set 0 (.val x)) q)
  (j:∀(x:D)(q:D->Prop),x∈ts->q (f x)->b ((kW d a).set 0 (.val x)) q) (i:Q (.list ((ts.filter p).map f))):P4 d c (gN 0) e b a Q:=
 g _ (WY (tt:=e) (te:=b) (Q:=Q) p f k h j i)
def XE{g:GT}{DT:xR}(h:uH c a ts)(P:Nat->List Sl->Prop)(j:P 0 a)
  (hs:∀(k:Nat)(x:D)f,ts[k]?=some x->P k f->g x f λi=>tb { DT with nx:=P (k+1),ct:=P (k+1),bk:=DT.nx } i) (hd:∀f,P ts.length f->DT.nx f):WB c g tb DT a:=h _ ⟨P,j,hs,hd⟩
end
def uU(x y:Str):(x++y).cps.toList=x.cps.toList++y.cps.toList:=by
 show(x.cps++y.cps).toList=_;simp
def O4{x y:Str}(h:x.cps.toList=y.cps.toList):x=y:=by
 cases x with
 |mk a=>
  cases y with
  |mk b=>
   have:a=b:=by simpa using g5 aC5 h
   rw[this]
def J5(b:Array Nat)(a k:Nat):(eW k).filterMap (λm=>b[a+m]?)=(b.toList.drop a).take k:=by
 induction k with
 |zero=>simp
 |succ k c=>
  rw[lO,List.filterMap_append,c,bS,lJ];congr 1;simp only[pW,List.filterMap_nil];rw[iS];cases b[a+k]?<;>rfl
def M3(v:Option Int)(n d:Nat)(hd:d<=n):(match v with | none=>(d:Int) | some i=>max 0 (min (if i<0 then i+(n:Int)else i) (n:Int)))=((HT.sIx n d v:Nat):Int):=by
 cases v with
 |none=>rfl
 |some i=>
  have:=HT.clip_eq i n d;rw[<- this];dsimp only;split<;>lia
def UG(v:Option Int)(n:Nat):(match v with | none=>(0:Int) | some i=>max 0 (min (if i<0 then i+(n:Int)else i) (n:Int)))=((HT.sIx n 0 v:Nat):Int):=M3 v n 0 (dE _)
def Q1{a c b d:Int}(e:a=c)(f:b=d):sw a b 1=sw c d 1:=by rw[e,f]
def oI(z:Str)(lo c:Option Int):(Txt.slice z lo c).cps.toList=kD z.cps.toList lo c:=by
 have d:z.cps.toList.length=z.length:=by simp[t8]
 have j:=HT.sIx_le z.length 0 (dE _) lo;have l:=HT.sIx_le z.length z.length (aM _) c
 have i:bx lo c 1 z.length=(eW (HT.sIx z.length z.length c-HT.sIx z.length 0 lo)).map (λk=>HT.sIx z.length 0 lo+k):=by
  unfold bx;simp only[show(1:Int)>0 by decide,t6];refine(Q1 (UG lo z.length) (M3 c z.length z.length (aM _))).trans ?_;unfold sw;simp only[show(1:Int)>0 by decide,t6]
  generalize HT.sIx z.length 0 lo=a
  generalize HT.sIx z.length z.length c=b
  have e:(if(a:Int)<(b:Int)then((b:Int)-a+1-1) / 1 else 0).toNat=b-a:=by split<;>lia
  rw[e];apply iI;intro k _;lia
 unfold Txt.slice kD;rw[d,i]
 generalize HT.sIx z.length 0 lo=a at *
 generalize HT.sIx z.length z.length c=b at *
 split
 ·next h=>
  simp only[beq_self_eq_true,oU,av,aB,rH]at h;have f:a=0:=by lia
  have g:b-a=z.cps.toList.length:=by rw[d];exact h
  rw[g,f,vL,cU]
 ·rw[QC];exact J5 z.cps a (b-a)
def KO:∀a:List Str,(Txt.join ⟨#[]⟩ a).cps.toList=(a.map (·.cps.toList)).flatten:=by
 intro a;show(aw ⟨#[]⟩ a).cps.toList=_;rw[am]
 induction a with
 |nil=>rfl
 |cons x a b=>
  cases a with
  |nil=>simp[gq]
  |cons y r=>
   show(x++⟨#[]⟩++gq ⟨#[]⟩ (y::r)).cps.toList=_;rw[uU,uU,b];simp
def TV(x:Str)(c:Nat):Txt.contains x ⟨#[c]⟩=decide (c∈x.cps.toList):=StrLaws.found_one x c
section
variable{f:ET}{u t e:uF}{c:xQ}{d:xR}{a:List Sl}{i:Nat}
def cT(v:D)(h:∀q:D->Prop,q v->f a q)(k:u d (a.set i (.val v))):fR (JZ i f) u d a:=h _ k
def gU(R:D->Prop)(h:∀q:D->Prop,(∀v,R v->q v)->f a q)(k:∀v,R v->u d (a.set i (.val v))):fR (JZ i f) u d a:=h _ k
def fY(R:Bool->Prop)(h:∀q:Bool->Prop,(∀b,R b->q b)->c a q)(k:R true->t { d with nx:=u d } a)(j:R false->e { d with nx:=u d } a):fR (Gg c t e) u d a:=by
 refine h _ λb g=>?_
 cases b with
 |true=>rw[b8 rfl];exact k g
 |false=>rw[a9 Ft];exact j g
def kR(R:Bool->Prop)(h:∀q:Bool->Prop,(∀b,R b->q b)->c a q)(k:R true->t d a)(j:R false->e d a):Gg c t e d a:=by
 refine h _ λb g=>?_
 cases b with
 |true=>rw[b8 rfl];exact k g
 |false=>rw[a9 Ft];exact j g
def fD{ts:List D}{g:GT}(h:uH ti a ts)(P:Nat->List Sl->Prop)(l:P 0 a)
  (hs:∀(k:Nat)(x:D)b,ts[k]?=some x->P k b->g x b λj=>tb { d with nx:=P (k+1),ct:=P (k+1),bk:=u d } j) (hd:∀b,P ts.length b->u d b):fR (WB ti g tb) u d a:=
 XE (DT:={ d with nx:=u d }) h P l hs hd
def lC{t:AT}(b:List D)(g:b.length<=1000)(h:∀q:List D->Prop,q b->t a q)(k:u d (a.set i (.own b))):fR (V9 i t) u d a:=h _ ⟨g,k⟩
def LW{b:List D}(v:D)(g:a[i]?=some (.own b))(j:b.length<=100000)(h:∀q:D->Prop,q v->f a q)(k:u d (a.set i (.own (b++[v])))):fR (WC i f) u d a:=⟨b,g,h _ ⟨j,k⟩⟩
def xA{ts:List D}(v:D)(b:a[i]?=some (.own ts))(g:ts.length<=100000)(h:∀q:D->Prop,q v->f a q)(k:d.nx (a.set i (.own (ts++[v])))):WC i f d a:=⟨ts,b,h _ ⟨g,k⟩⟩
def lM(v:D)(h:∀q:D->Prop,q v->f a q)(k:d.nx (a.set i (.val v))):JZ i f d a:=h _ k
end
mutual
theorem nW:∀{d:D},d.canLay0=true->d.hasDict=false
|.none,_=>rfl
|.bool _,_=>rfl
|.int _,_=>rfl
|.str _,_=>rfl
|.list _,h=>noDictAll h
|.tuple _,h=>noDictAll h
|.dict _,h=>by cases h
theorem noDictAll:∀{a:List D},dW a=true->lQ a=false
|[],_=>rfl
|d::a,h=>by
 have b:(d.canLay0&&dW a)=true:=h;rw[cL]at b;show(d.hasDict||lQ a)=false;rw[nW b.1,noDictAll b.2];rfl
end
section
variable{X:Cx}{b e:Expr}
def zG(K:aQ)(ok:D->D->Prop)(f:D->D->Bool):R2:=λx y H Q=>∃a c,jN K H a x/\jN K H c y/\ok a c/\Q (.bl (f a c)) H
def ZH(ok:D->D->Prop)(f:D->D->Bool)(x y:D)(Q:D->Prop):Prop:=ok x y/\Q (.bool (f x y))
def mS{ok:D->D->Prop}{f:D->D->Bool}:IZ X (zG X.K ok f) (ZH ok f):=by
 intro H j a c x y Q i live d g h k;exact⟨a,c,d.same cV,g.same cV,h.1,k _ _ H (L2.bR.refl H) (.bool _) h.2⟩
def Ii(a c:D):Prop:=a.canLay0=true/\c.canLay0=true/\min a.depth c.depth<=60
def yI{k:Nat}(g:Room k X.A):qE X (h7 .Eq) (zG X.K Ii cE):=by
 intro c s t H x y v u Q I l m h;obtain⟨o,p,i,j,⟨c1,a,r⟩,q⟩:=h;obtain⟨n,d⟩:=jN.reads I (nW c1) i l;obtain⟨bs,f⟩:=jN.reads I (nW a) j m;exact SeqAt.compareEq_reads d f c1 a (by have:=g.un;lia) ⟨.bl _,H,I,Fx,q⟩
def BI{k:Nat}(g:Room k X.A):qE X (h7 .NotEq) (zG X.K Ii λx y=>!cE x y):=by
 intro c s t H x y v u Q I l m h;obtain⟨o,p,i,j,⟨c1,a,r⟩,q⟩:=h;obtain⟨n,d⟩:=jN.reads I (nW c1) i l;obtain⟨bs,f⟩:=jN.reads I (nW a) j m;exact SeqAt.compareNe_reads d f c1 a (by have:=g.un;lia) ⟨.bl _,H,I,Fx,q⟩
def tQ(x y:D):Prop:=match y with
|.list ts=>dW ts=true/\x.canLay0=true/\min (dR ts) x.depth<=60
|.tuple ts=>dW ts=true/\x.canLay0=true/\min (dR ts) x.depth<=60
|_=>False
noncomputable def AS(x y:D):Bool:=match y with
|.list ts=>ts.any λz=>cE z x
|.tuple ts=>ts.any λz=>cE z x
|_=>false
def OD{k:Nat}(i:Room k X.A):qE X (h7 .In) (zG X.K tQ AS):=by
 intro j s t H x y v u Q I o p h;obtain⟨l,c,m,n,a,q⟩:=h
 have hd:l.hasDict=false/\c.hasDict=false:=by
  cases c with
  |list d=>exact⟨nW a.2.1,noDictAll a.1⟩
  |tuple d=>exact⟨nW a.2.1,noDictAll a.1⟩
  |_=>exact a.elim
 obtain⟨r,f⟩:=jN.reads I hd.1 m o;obtain⟨bs,g⟩:=jN.reads I hd.2 n p
 cases c with
 |list d=>exact SeqAt.in_list_reads g f a.1 a.2.1 (by have:=i.un;have:=a.2.2;lia) ⟨.bl _,H,I,Fx,q⟩
 |tuple d=>exact SeqAt.in_tuple_reads g f a.1 a.2.1 (by have:=i.un;have:=a.2.2;lia) ⟨.bl _,H,I,Fx,q⟩
 |_=>exact a.elim
def nC{k:Nat}(i:Room k X.A):qE X (h7 .NotIn) (zG X.K tQ λx y=>!AS x y):=by
 intro j s t H x y v u Q I o p h;obtain⟨l,c,m,n,a,q⟩:=h
 have hd:l.hasDict=false/\c.hasDict=false:=by
  cases c with
  |list d=>exact⟨nW a.2.1,noDictAll a.1⟩
  |tuple d=>exact⟨nW a.2.1,noDictAll a.1⟩
  |_=>exact a.elim
 obtain⟨r,f⟩:=jN.reads I hd.1 m o;obtain⟨bs,g⟩:=jN.reads I hd.2 n p
 cases c with
 |list d=>exact SeqAt.notIn_list_reads g f a.1 a.2.1 (by have:=i.un;have:=a.2.2;lia) ⟨.bl _,H,I,Fx,q⟩
 |tuple d=>exact SeqAt.notIn_tuple_reads g f a.1 a.2.1 (by have:=i.un;have:=a.2.2;lia) ⟨.bl _,H,I,Fx,q⟩
 |_=>exact a.elim
def Hw(x y:D)(Q:D->Prop):Prop:=match x,y with
|.str z,.str y=>Q (.bool (Txt.contains y z))
|x,y=>tQ x y/\Q (.bool (AS x y))
def vR{k:Nat}(a:Room k X.A):qE X (h7 .In) (λx y H Q=>(∃i j,x=.str i/\y=.str j/\Q (.bl (!(o7 j i 0 j.length 1).isEmpty)) H)\/zG X.K tQ AS x y H Q):=OC.or (OD a)
def BK:IZ X (λx y H Q=>(∃i j,x=.str i/\y=.str j/\Q (.bl (!(o7 j i 0 j.length 1).isEmpty)) H)\/zG X.K tQ AS x y H Q) Hw:=by
 intro H l a c x y Q d live f g h k;have gen:tQ a c/\Q (.bool (AS a c))->_:=λh=>(.inr ⟨a,c,f.same cV,g.same cV,h.1,k _ _ H (L2.bR.refl H) (.bool _) h.2⟩:(∃i j,x=.str i/\y=.str j/\d (.bl (!(o7 j i 0 j.length 1).isEmpty)) H)\/zG X.K tQ AS x y H d)
 cases f with
 |str z=>
  cases g with
  |str w=>exact .inl ⟨z,w,Fx,Fx,k _ _ H (L2.bR.refl H) (.bool _) h⟩
  |_=>exact gen h
 |_=>exact gen h
noncomputable def oE:D->Bool
|.none=>true
|_=>false
def La(x y:D)(Q:D->Prop):Prop:=match y with | .bool b=>Q (.bool (rY b x)) | .none=>Q (.bool (oE x)) | _=>False
def XI(x y:D)(Q:D->Prop):Prop:=match y with | .bool b=>Q (.bool (!rY b x)) | .none=>Q (.bool (!oE x)) | _=>False
def BJ:qE X (h7 .Is) (λx y H Q=>Ig x y H Q\/(y=.non/\Q (.bl (decide (x=.non))) H)):=Xi.or Xj
def OB:qE X (h7 .IsNot) (λx y H Q=>E6 x y H Q\/(y=.non/\Q (.bl (!decide (x=.non))) H)):=OA.or WP
def HK:IZ X (λx y H Q=>Ig x y H Q\/(y=.non/\Q (.bl (decide (x=.non))) H)) La:=by
 intro H i a g x y Q f live c d h k
 cases d with
 |bool b=>
  refine .inl ⟨b,Fx,?_⟩;have e:(decide (x=V.bl b))=rY b a:=by cases c<;>simp[rY]
  rw[e];exact k _ _ H (L2.bR.refl H) (.bool _) h
 |none=>
  refine .inr ⟨Fx,?_⟩;have e:(decide (x=V.non))=oE a:=by cases c<;>simp[oE]
  rw[e];exact k _ _ H (L2.bR.refl H) (.bool _) h
 |_=>exact h.elim
def R9:IZ X (λx y H Q=>E6 x y H Q\/(y=.non/\Q (.bl (!decide (x=.non))) H)) XI:=by
 intro H i a g x y Q f live c d h k
 cases d with
 |bool b=>
  refine .inl ⟨b,Fx,?_⟩;have e:(!decide (x=V.bl b))=!rY b a:=by cases c<;>simp[rY]
  rw[e];exact k _ _ H (L2.bR.refl H) (.bool _) h
 |none=>
  refine .inr ⟨Fx,?_⟩;have e:(!decide (x=V.non))=!oE a:=by cases c<;>simp[oE]
  rw[e];exact k _ _ H (L2.bR.refl H) (.bool _) h
 |_=>exact h.elim
end
end TL
namespace L2
section
variable{P:cH}{w:d7}{A:f9}{E:Value->Shared->Prop}{s:Shared}
def BO{i t:Addr}{k:Nat}{Q:Value->Shared->Prop}(a:s.heap.IsTupleIter i t k)(h:s.heap.IsTuple t xs)(j:xs[k]?=some x)
  (f:∀c,c.IsTupleIter i t (k+1)->dY i s.heap c->Q x { s with heap:=c }):wpAny (model P w) A (d9 (.ref i)) Q E s:=by
 obtain⟨o,b,g,hd⟩:=id a;obtain⟨m,e,_,l,d⟩:=h;unfold d9;refine aE (f7 (name:=c9 "__next__") a.typeIs q9 (eX q9 a.typeIs ei ?_ (dq _)));show wpAny _ _ (ge (.ref i) 0 >>= _) _ _ s;refine aE (f8 b hd (x:=.ref t) Fx ?_);show wpAny _ _ (if(d8 t==e9)=true then _ else _) _ _ s;rw[a9 (show¬((d8 t==e9)=true)from bQ)];show wpAny _ _ (ge (.ref i) 1 >>= _) _ _ s;refine aE (f8 b hd (x:=.int k 0) Fx ?_);show wpAny _ _ (seqItems? (.ref t) >>= _) _ _ s;refine aE (i9 e d ?_);simp only[iJ,j];refine aE (aj b hd Fv (aL ⟨x,Fx,aL (f _ ?_ (dY.update ..))⟩));exact⟨_,fW _ b (gl (z5 hd _)),(iz ..).trans g,by rw[z5 hd];simp[j1]⟩
def pM{i t:Addr}{k:Nat}{Q:Value->Shared->Prop}(h:A.handled=none)(b:s.heap.IsTupleIter i t k)(l:s.heap.IsTuple t xs)(n:xs[k]?=none)
  (j:∀c e,CU i s.heap c->(∃o,c.get? e=some o/\o.cls=.type "StopIteration")->E (.ref e) { s with heap:=c }):wpAny (model P w) A (d9 (.ref i)) Q E s:=by
 obtain⟨o,f,p,hd⟩:=id b;obtain⟨r,g,_,q,d⟩:=l;unfold d9;refine aE (f7 (name:=c9 "__next__") b.typeIs q9 (eX q9 b.typeIs ei ?_ (dq _)));show wpAny _ _ (ge (.ref i) 0 >>= _) _ _ s;refine aE (f8 f hd (x:=.ref t) Fx ?_);show wpAny _ _ (if(d8 t==e9)=true then _ else _) _ _ s;rw[a9 (show¬((d8 t==e9)=true)from bQ)];show wpAny _ _ (ge (.ref i) 1 >>= _) _ _ s;refine aE (f8 f hd (x:=.int k 0) Fx ?_);show wpAny _ _ (seqItems? (.ref t) >>= _) _ _ s;refine aE (i9 g d ?_);simp only[iJ,n];refine aE (l7 (aE (aj f hd Fv ?_)));show wpAny _ _ (ir (.type "StopIteration") [] >>= _) _ _ _;refine aE ?_;simp only[ir,newTuple];refine aE (eY ?_ (by size_fits));refine aE (m:=v8 _ _) (qw (a:=e9) (by first | rfl | (simp only[v8];rfl)) ?_);refine eY ?_ (by size_fits);simp only[raiseNew];refine aE (gz ?_)
 first | rw[show A.in1.handled=none from h] | rw[h]
 refine aE (aL (qy ?_));exact j _ _ (((dY.update ..).extBut.push _).push _) ⟨_,aY _ Fx,Fx⟩
end
structure pS(P:cH)(w:d7)(i l:Addr)(st:Nat->Heap->Prop)(src:Array Value->Heap->Prop):Prop where
 stAt:∀k h h',st k h->(∀o,h.get? i=some o->h'.get? i=some o)->st k h'
 srcAt:∀xs h h',src xs h->(∀o,h.get? l=some o->h'.get? l=some o)->src xs h'
 has:∀k h,st k h->∃o,h.get? i=some o/\∀v,o.data≠.cell v
 item:∀(A:f9)E(s:Shared)(k:Nat)(xs:Array Value)(x:Value)Q,st k s.heap->src xs s.heap->xs[k]?=some x ->
  (∀h',st (k+1) h'->dY i s.heap h'->Q x { s with heap:=h' })->wpAny (model P w) A (d9 (.ref i)) Q E s
 fin:∀(A:f9)E(s:Shared)(k:Nat)(xs:Array Value)Q,A.handled=none->st k s.heap->src xs s.heap->xs[k]?=none ->
  (∀h' e,CU i s.heap h'->(∃o,h'.get? e=some o/\o.cls=.type "StopIteration")->E (.ref e) { s with heap:=h' })->wpAny (model P w) A (d9 (.ref i)) Q E s
def D9(i l:Addr):pS P w i l (λk h=>h.IsTupleIter i l k) (λxs h=>h.IsTuple l xs) where
 stAt:=λ_ _ _ x e=>x.at e
 srcAt:=λ_ _ _ x e=>x.at e
 has:=λk h x=>by obtain⟨o,e,c,d⟩:=x;exact⟨o,e,λv q=>by rw[d]at q;cases q⟩
 item:=λ_ _ _ _ _ _ _ h1 h2 hx hQ=>BO h1 h2 hx hQ
 fin:=λ_ _ _ _ _ _ hh h1 h2 hx hE=>pM hh h1 h2 hx hE
section
variable{P:cH}{w:d7}{A:f9}{E:Value->Shared->Prop}{s:Shared}{z TI TO j l p q:Addr}{g i:Nat->Heap->Prop}{d f:Array Value->Heap->Prop}{k:Nat}{m n:Array Value}{a b:Value}
def QL{Q:Value->Shared->Prop}(K:pS P w j p g d)(L:pS P w l q i f)(D:fq z TI TO j l p q)(O:aq s.heap z TI TO .none)(io:IsPair s.heap TI (.ref j) (.ref l))(ja:IsPair s.heap TO a b)
  (h1:g k s.heap) (h2:i k s.heap) (Cb:d m s.heap) (Cc:f n s.heap) (hx:m[k]?=some x) (hy:n[k]?=some y)
  (hQ:∀u,aq u z TI TO (j1 s.heap.objs.size)->IsPair u TO x y->g (k+1) u->i (k+1) u->IsPair u s.heap.objs.size x y->u.objs.size=s.heap.objs.size+1 ->
   (∀c o,c≠z->c≠TO->c≠j->c≠l->s.heap.get? c=some o->u.get? c=some o)->Q (.ref s.heap.objs.size) { s with heap:=u }) :
  wpAny (model P w) A (u2.«zip.__next__» ⟨[.ref z],[]⟩) (λfin s'=>∃v,fin=.done (.ret v)/\Q v s') E s:=by
 show wpAny _ _ (ge (.ref z) 2 >>= _) _ _ _;refine aE (f8 O Fx (x:=.bool false) Fx ?_);show wpAny _ _ (ge (.ref z) 3 >>= _) _ _ _;refine aE (f8 O Fx (x:=.ref TI) Fx ?_);refine aE (i9 io Fx ?_);show wpAny _ _ (j0 (.ref z) >>= _) _ _ _;refine aE ?_;unfold j0;refine aE (f8 O Fx (x:=.none) Fx (aL ?_));simp only[t6];refine aE (l7 ?_);refine aE (f8 O Fx (x:=.ref TO) Fx ?_);refine aE (g0 O Fv λha C G=>?_)
 replace C:aq ha z TI TO .ellipsis:=C
 refine aE ?_;simp only[VC,X4,pH,ZU];refine aE (aE (cx ?_));show wpAny _ _ (d9 (.ref j) >>= _) _ _ _;refine aE (K.item _ _ _ k m x _ (K.stAt _ _ _ h1 λo e=>G.extBut _ _ D.i1z e) (K.srcAt _ _ _ Cb λo e=>G.extBut _ _ D.l1z e) hx λhb zf I=>aL ?_);have W:IsPair hb TO a b:=I.extBut _ _ D.TOi1 (G.extBut _ _ D.TOz ja);refine aE (i9 W Fx ?_);refine aE (cf W λhc H J=>?_)
 replace H:IsPair hc TO x b:=H
 refine aE (y8 (aL ?_));refine aE (aE (cx ?_));show wpAny _ _ (d9 (.ref l) >>= _) _ _ _
 refine aE (L.item _ _ _ k n y _ (L.stAt _ _ _ h2 λo e=>J.extBut _ _ D.TOi2.symm (I.extBut _ _ D.i12.symm (G.extBut _ _ D.i2z e)))
  (L.srcAt _ _ _ Cc λo e=>J.extBut _ _ D.l2TO (I.extBut _ _ D.l2i1 (G.extBut _ _ D.l2z e))) hy λhd Ap T=>aL ?_)
 have X:IsPair hd TO x b:=T.extBut _ _ D.TOi2 H;refine aE (i9 X Fx ?_);refine aE (cf X λh t U=>?_)
 replace t:IsPair h TO x y:=t
 refine aE (y8 (aL (aL ?_)));refine aE (i9 t Fx ?_);refine aE (gj ?_);have N:h.objs.size=s.heap.objs.size:=by rw[U.1,T.1,J.1,I.1,G.1]
 have S:aq h z TI TO .ellipsis:=U.extBut _ _ D.TOz.symm (T.extBut _ _ D.i2z.symm (J.extBut _ _ D.TOz.symm (I.extBut _ _ D.i1z.symm C)))
 have ke:∀c o,c≠z->c≠TO->c≠j->c≠l->s.heap.get? c=some o->h.get? c=some o:=λc o c1 Y Z c4 e=>
  U.extBut _ _ Y (T.extBut _ _ c4 (J.extBut _ _ Y (I.extBut _ _ Z (G.extBut _ _ c1 e))))
 have Ao:g (k+1) h:=K.stAt _ _ _ zf λo e=>U.extBut _ _ D.TOi1.symm (T.extBut _ _ D.i12 (J.extBut _ _ D.TOi1.symm e));have Aq:i (k+1) h:=L.stAt _ _ _ Ap λo e=>U.extBut _ _ D.TOi2.symm e;have B:z<h.objs.size:=bE S;show wpAny _ _ (y9 (.ref z) (.ref h.objs.size) >>= _) _ _ _;refine aE ?_;unfold y9;have Dj:aq (h.push { cls:=.type "tuple",data:=.seq #[x,y] }) z TI TO .ellipsis:=aH _ S;refine aE (g0 Dj Fv λhg F sg=>?_)
 replace F:aq hg z TI TO (j1 h.objs.size):=F
 refine g0 F Fv λM r si=>?_
 replace r:aq M z TI TO (j1 h.objs.size):=r
 have up:∀c o,c≠z->h.get? c=some o->M.get? c=some o:=λc o c1 e=>si.extBut _ _ c1 (sg.extBut _ _ c1 (aH _ e));have hT:IsPair M h.objs.size x y:=si.extBut _ _ (fA B) (sg.extBut _ _ (fA B) (aY _ Fx));have R:M.objs.size=h.objs.size+1:=by rw[si.1,sg.1,dX]
 rw[N]at r hT R;refine aL ⟨_,Fx,?_⟩;show Q (.ref h.objs.size) _;rw[N];exact hQ M r (up _ _ D.TOz t) (K.stAt _ _ _ Ao λo e=>up _ o D.i1z e) (L.stAt _ _ _ Aq λo e=>up _ o D.i2z e) hT R λc o c1 Y Z c4 e=>up c o c1 (ke c o c1 Y Z c4 e)
def QI{Q:Fin->Shared->Prop}(hh:A.handled=none)(K:pS P w j p g d)(M:pS P w l q i f)(D:fq z TI TO j l p q)(G:aq s.heap z TI TO .none)(O:IsPair s.heap TI (.ref j) (.ref l))(R:IsPair s.heap TO a b)
  (h1:g k s.heap) (h2:i k s.heap) (W:d m s.heap) (X:f n s.heap) (F:m[k]?=none\/n[k]?=none)
  (hE:∀N e,(∀c o,c≠z->c≠TO->c≠j->c≠l->s.heap.get? c=some o->N.get? c=some o)->(∃o,N.get? e=some o/\o.cls=.type "StopIteration")->E (.ref e) { s with heap:=N }) :
  wpAny (model P w) A (u2.«zip.__next__» ⟨[.ref z],[]⟩) Q E s:=by
 show wpAny _ _ (ge (.ref z) 2 >>= _) _ _ _;refine aE (f8 G Fx (x:=.bool false) Fx ?_);show wpAny _ _ (ge (.ref z) 3 >>= _) _ _ _;refine aE (f8 G Fx (x:=.ref TI) Fx ?_);refine aE (i9 O Fx ?_);show wpAny _ _ (j0 (.ref z) >>= _) _ _ _;refine aE ?_;unfold j0;refine aE (f8 G Fx (x:=.none) Fx (aL ?_));simp only[t6];refine aE (l7 ?_);refine aE (f8 G Fx (x:=.ref TO) Fx ?_);refine aE (g0 G Fv λS u B=>?_)
 replace u:aq S z TI TO .ellipsis:=u
 refine aE ?_;simp only[VC,X4,pH,ZU];refine aE (aE (cx ?_));show wpAny _ _ (d9 (.ref j) >>= _) _ _ _;have g1:g k S:=K.stAt _ _ _ h1 λo e=>B.extBut _ _ D.i1z e;have q1:d m S:=K.srcAt _ _ _ W λo e=>B.extBut _ _ D.l1z e
 cases Y:m[k]? with
 |none=>
  refine aE (K.fin _ _ _ k m _ hh g1 q1 Y λT e v U=>?_);obtain⟨Z,r,t⟩:=U;have H:aq T z TI TO .ellipsis:=v _ _ D.i1z.symm u;have y:e≠z:=λx=>by subst x;rw[H]at r;cases r;simp at t
  refine g0 H Fv λhc _ C=>hE hc e (λc o c1 _ L _ x=>C.extBut _ _ c1 (v _ _ L (B.extBut _ _ c1 x))) ⟨Z,C.extBut _ _ y r,t⟩
 |some x=>
  have hy:n[k]?=none:=by rcases F with h | h;rw[Y]at h;cases h;exact h
  refine aE (K.item _ _ _ k m x _ g1 q1 Y λT zf v=>aL ?_);have J:IsPair T TO a b:=v.extBut _ _ D.TOi1 (B.extBut _ _ D.TOz R);refine aE (i9 J Fx ?_);refine aE (cf J λhc Fj C=>?_);refine aE (y8 (aL ?_));refine aE (aE (cx ?_));show wpAny _ _ (d9 (.ref l) >>= _) _ _ _
  refine aE (M.fin _ _ _ k n _ hh (M.stAt _ _ _ h2 λo e=>C.extBut _ _ D.TOi2.symm (v.extBut _ _ D.i12.symm (B.extBut _ _ D.i2z e)))
   (M.srcAt _ _ _ X λo e=>C.extBut _ _ D.l2TO (v.extBut _ _ D.l2i1 (B.extBut _ _ D.l2z e))) hy λhd e sd U=>?_)
  obtain⟨Z,r,t⟩:=U;have I:aq hd z TI TO .ellipsis:=sd _ _ D.i2z.symm (C.extBut _ _ D.TOz.symm (v.extBut _ _ D.i1z.symm u));have y:e≠z:=λx=>by subst x;rw[I]at r;cases r;simp at t
  refine g0 I Fv λhf _ sf=>hE hf e (λc o c1 c2 L c4 x=>sf.extBut _ _ c1 (sd _ _ c4 (C.extBut _ _ c2 (v.extBut _ _ L (B.extBut _ _ c1 x))))) ⟨Z,sf.extBut _ _ y r,t⟩
def QK{Q:Option Value->Shared->Prop}(K:pS P w j p g d)(L:pS P w l q i f)(D:fq z TI TO j l p q)(B:aq s.heap z TI TO .none)(h:IsPair s.heap TI (.ref j) (.ref l))(r:IsPair s.heap TO a b)
  (M:g k s.heap) (N:i k s.heap) (t:d m s.heap) (u:f n s.heap) (R:m[k]?=some x) (S:n[k]?=some y)
  (O:∀e,aq e z TI TO (j1 s.heap.objs.size)->IsPair e TO x y->g (k+1) e->i (k+1) e->IsPair e s.heap.objs.size x y->e.objs.size=s.heap.objs.size+1 ->
   (∀c o,c≠z->c≠TO->c≠j->c≠l->s.heap.get? c=some o->e.get? c=some o)->Q (some (.ref s.heap.objs.size)) { s with heap:=e }):wpAny (model P w) A (r8 (.ref z)) Q E s:=by
 have v:s.TypeIs (.ref z) "zip":=⟨_,B,Fx⟩;unfold r8
 exact aE (u0 (f7 (name:=c9 "__next__") v bb (eX bb v F.entry_zip_next
  (QL K L D B h r M N t u R S λe C a2 G a4 H I J=>aL (O e C a2 G a4 H I J)) (rf _))))
def VG{Q:Option Value->Shared->Prop}(M:A.handled=none)(C:pS P w j p g d)(G:pS P w l q i f)(D:fq z TI TO j l p q)(B:aq s.heap z TI TO .none)(t:IsPair s.heap TI (.ref j) (.ref l))(u:IsPair s.heap TO a b)
  (H:g k s.heap) (I:i k s.heap) (v:d m s.heap) (x:f n s.heap) (h:m[k]?=none\/n[k]?=none)
  (J:∀r,(∀c o,c≠z->c≠TO->c≠j->c≠l->s.heap.get? c=some o->r.get? c=some o)->Q none { s with heap:=r }):wpAny (model P w) A (r8 (.ref z)) Q E s:=by
 have y:s.TypeIs (.ref z) "zip":=⟨_,B,Fx⟩;unfold r8;refine aE (u0 (f7 (name:=c9 "__next__") y bb (eX bb y F.entry_zip_next (QI M C G D B t u H I v x h λr e hk L=>?_) (rf _))));obtain⟨o,N,K⟩:=L;refine aE (ba (T:="StopIteration") (b:=true) ⟨o,N,K⟩ gf ?_);exact aL (J _ hk)
end
section
variable{X:Cx}{a:List (Addr×Obj)}{f:St}{H:Hp}{s:Shared}{d:Heap}
def eL.turnedL{t':Nat}{ch:List Addr}(I:eL X a f H s)(i:∀b∈ch,AE X a H b)(k:∀b o,b∉ch->s.heap.get? b=some o->d.get? b=some o):eL X a f H { s with heap:=d,toks:=t' }:=by
 have h:∀b u,H b=some u->b∉ch:=λb u e z=>by rw[(i b z).1]at e;cases e
 have x:X.env.locals∉ch:=λz=>(i _ z).2.1 Fx
 refine I.step (g':=s.gens) (d':=s.drawn) (ch:=ch) (λb y=>?_) (λb o _ _ g e _=>k b o g e) (λb o _ _ g e _=>⟨o.slots,k b o g e⟩) (λ_ _ _ _ n=>n)
  (λb o g e=>⟨o,k b o g e⟩) (λ_ _ e=>e) (λ_ _ _ e=>e) (λb E e=>⟨#[],by rw[e];simp⟩) (λm A=>?_) (λb u e=>?_) I.bare
 ·obtain⟨C,f1,f2,p,t,w⟩:=i b y;exact⟨p,f1,t,w⟩
 ·obtain⟨o,l,j,B,r⟩:=A;exact⟨o,l,j,k _ o x B,r⟩
 ·refine(I.hok b u e).stay (λc v g q=>k c v ?_ q) (λ_ q=>q) λ_ _ q=>q;rcases g with z | z
  ·rw[z];exact h b u e
  ·exact h c _ z
def eL.turnedNew{t':Nat}{ch:List Addr}{T:Addr}{o:HO}(I:eL X a f H s)(j:∀b∈ch,AE X a H b)(k:∀b u,b∉ch->s.heap.get? b=some u->d.get? b=some u)(p:s.heap.objs.size<=T)(new:mH X.prog X.w (iA H T o) d T o) :
  eL X a f (iA H T o) { s with heap:=d,toks:=t' }:=by
 have h:∀b u,H b=some u->b∉ch:=λb u e z=>by rw[(j b z).1]at e;cases e
 have C:X.env.locals∉ch:=λz=>(j _ z).2.1 Fx;have F:H T=none:=I.hok.fresh p;have ne:∀b u,H b=some u->(iA H T o) b=some u:=λb u e=>by rw[dD (iB e F)];exact e
 have l:∀b u,s.heap.get? b=some u->b≠T:=λb u e z=>by
  exact c8 (dF (bE e) p) (by rw[z];exact iG _)
 refine I.step (g':=s.gens) (d':=s.drawn) (ch:=ch) (λb i=>?_) (λb o _ _ g e _=>k b o g e) (λb o _ _ g e _=>⟨o.slots,k b o g e⟩) (λb u _ e n=>by rw[dD (l b u e)];exact n)
  (λb o g e=>⟨o,k b o g e⟩) (λb J e=>ne _ _ e) (λb u v e=>ne _ _ e) (λb L e=>⟨#[],by rw[ne _ _ e];simp⟩) (λm E=>?_) (λb u e=>?_) I.bare
 ·obtain⟨K,f1,f2,y,A,B⟩:=j b i;exact⟨y,f1,A,B⟩
 ·obtain⟨o,x,t,G,r⟩:=E;exact⟨o,x,t,k _ o C G,r⟩
 ·by_cases i:b=T
  ·subst i;rw[dM]at e;cases e;exact new
  ·rw[dD i]at e;refine(I.hok b u e).stay (λc v g q=>k c v ?_ q) (λc q=>ne _ _ q) (λc J q=>ne _ _ q) λc ob v q=>ne _ _ q;rcases g with z | z
   ·rw[z];exact h b u e
   ·exact h c _ z
end
noncomputable def Km(c d:Hp->List V->Prop):It:=
 ⟨λi H=>∃a b x y,c H a/\d H b/\a[i]?=some x/\b[i]?=some y,
  λi H v e=>∃p x y,H p=none/\v=.ref p/\e=iA H p (.tup [x,y])/\(∀a,c H a->a[i]?=some x)/\∀b,d H b->b[i]?=some y,
  λi H=>∃a b,c H a/\d H b/\(a.length<=i\/b.length<=i)⟩
structure Src(P:cH)(w:d7)(K:aQ)(S:Hp->List V->Prop)(src:Array Value->Heap->Prop):Prop where
 vals:∀(X:Cx),X.prog=P->X.w=w->X.K=K->∀{pins:List (Addr×Obj)}{σ:St}{H:Hp}{s:Shared}{xs:List V},eL X pins σ H s->S H xs->∃ay:List Value,gO xs ay/\src ay.toArray s.heap
 inj:∀(X:Cx),X.prog=P->X.w=w->X.K=K->∀{pins:List (Addr×Obj)}{σ:St}{H:Hp}{s:Shared}{xs ys:List V},eL X pins σ H s->S H xs->S H ys->xs=ys
def LR{K}(a:Addr):Src P w K (λH xs=>pG K H a xs) (λay h=>h.IsTuple a ay) where
 vals:=λX hP hw hK _ _ _ _ _ I h=>by subst hK;obtain⟨ay,r,p,_⟩:=I.tuple h;exact⟨ay,r,p⟩
 inj:=λX hP hw hK _ _ _ _ _ _ I h h'=>by subst hK;exact I.tuple_inj h h'
def QU{P:cH}{w:d7}{K:aQ}{z8:List Expr}{x1:Nat}{pos:Pos}{z TI TO i1 i2 l1 l2:Addr}{rA rr:Nat->Heap->Prop}{vm vn:Array Value->Heap->Prop}{S1 S2:Hp->List V->Prop}
  (d1:pS P w i1 l1 rA vm) (d2:pS P w i2 l2 rr vn) (e1:Src P w K S1 vm) (e2:Src P w K S2 vn) (D:fq z TI TO i1 i2 l1 l2) :
  CK P w K (.Tuple z8 x1 pos) (Km S1 S2) [z,TI,TO,i1,i2] z (λi h=>aq h z TI TO .none/\IsPair h TI (.ref i1) (.ref i2)/\(∃a b,IsPair h TO a b)/\rA i h/\rr i h) where
 mem:=by simp
 obj:=λi h st b hb=>by
  obtain⟨hz,io,⟨a,c,ja⟩,h1,h2⟩:=st;simp only[bA,dG,i8]at hb;rcases hb with rfl | rfl | rfl | rfl | rfl
  ·exact⟨_,hz,λv q=>by cases q⟩
  ·exact⟨_,io,λv q=>by cases q⟩
  ·exact⟨_,ja,λv q=>by cases q⟩
  ·exact d1.has i h h1
  ·exact d2.has i h h2
 keep:=λi h h' st k=>by
  obtain⟨hz,io,⟨a,b,ja⟩,h1,h2⟩:=st;exact⟨k z Fv _ hz,k TI Fv _ io,⟨a,b,k TO Fv _ ja⟩,d1.stAt _ _ _ h1 λo e=>k i1 Fv o e,d2.stAt _ _ _ h2 λo e=>k i2 Fv o e⟩
 item:=by
  intro X hP hw hK hc i pins s σ H E I hf st hg;obtain⟨hz,io,⟨a,b,ja⟩,h1,h2⟩:=st;obtain⟨xs,ys,x,y,s1,s2,hx,hy⟩:=hg;obtain⟨us,r1,q1⟩:=e1.vals X hP hw hK I s1;obtain⟨vs,r2,q2⟩:=e2.vals X hP hw hK I s2;obtain⟨u,hu,ru⟩:=r1.get hx;obtain⟨v,hv,rv⟩:=r2.get hy;refine QK d1 d2 D hz io ja h1 h2 q1 q2 (x:=u) (y:=v) (by simpa using hu) (by simpa using hv) λh' a1 a2 a3 a4 a5 a6 a7=>⟨_,Fx,?_⟩;refine wpAny_letOwnedTupleGo_zip (s:={ s with heap:=h' }) a1 λrm Di sb=>?_;have yq:=bE hz;have neT:∀c o,s.heap.get? c=some o->c≠s.heap.objs.size:=λc o e=>bV (bE e)
  have kk:∀c o,c∉[z,TI,TO,i1,i2]->s.heap.get? c=some o->rm.get? c=some o:=λc o u8 e=>by
   simp only[bA,dG,i8,ew]at u8;exact sb.extBut _ _ u8.1 (a7 c o u8.1 u8.2.2.1 u8.2.2.2.1 u8.2.2.2.2 e)
  have hT:IsPair rm s.heap.objs.size u v:=sb.extBut _ _ (fA yq) a5;have I1:eL X pins σ (iA H s.heap.objs.size (.tup [x,y])) { s with heap:=rm }:=I.turnedNew (t':=s.toks) hf kk (aM _) ⟨(by show 2<=bO;decide),[u,v],.cons ru (.cons rv .nil),⟨_,hT,Fx,_,Fx,Fx⟩⟩;refine⟨.ref s.heap.objs.size,_,I1,Fx,⟨_,x,y,I.hok.fresh (aM _),Fx,Fx,λFo h'=>by rw[e1.inj X hP hw hK I h' s1];exact hx,λFp h'=>by rw[e2.inj X hP hw hK I h' s2];exact hy⟩,?_,λc u8=>?_⟩
  ·exact⟨Di,sb.extBut _ _ D.TIz (a7 _ _ D.TIz D.TITO D.TIi1 D.TIi2 io),⟨_,_,sb.extBut _ _ D.TOz a2⟩,d1.stAt _ _ _ a3 λo e=>sb.extBut _ _ D.i1z e,d2.stAt _ _ _ a4 λo e=>sb.extBut _ _ D.i2z e⟩
  ·have gu:c≠s.heap.objs.size:=by
    simp only[bA,dG,i8]at u8;rcases u8 with rfl | rfl | rfl | rfl | rfl
    ·exact neT _ _ hz
    ·exact neT _ _ io
    ·exact neT _ _ ja
    ·obtain⟨o,e,_⟩:=d1.has _ _ h1;exact neT _ _ e
    ·obtain⟨o,e,_⟩:=d2.has _ _ h2;exact neT _ _ e
   rw[dD gu];exact(hf c u8).1
 done:=by
  intro X hP hw hK hc i pins s σ H E I hf st hg;obtain⟨hz,io,⟨a,b,ja⟩,h1,h2⟩:=st;obtain⟨xs,ys,s1,s2,iq⟩:=hg;obtain⟨us,r1,q1⟩:=e1.vals X hP hw hK I s1;obtain⟨vs,r2,q2⟩:=e2.vals X hP hw hK I s2;have n1:=r1.length;have n2:=r2.length;refine VG (I.ok.hd hc) d1 d2 D hz io ja h1 h2 q1 q2 ?_ λh' a7=>⟨Fx,I.turnedL (t':=s.toks) hf λc o u8 e=>?_⟩
  ·rcases iq with q | q
   ·exact .inl (fM (by rw[bI];lia))
   ·exact .inr (fM (by rw[bI];lia))
  ·simp only[bA,dG,i8,ew]at u8;exact a7 c o u8.1 u8.2.2.1 u8.2.2.2.1 u8.2.2.2.2 e
 self:=λA i s Q E st h=>wpAny_pyIter_zip st.1 h
noncomputable abbrev Gw(c1:String)(h:Heap)(a:Addr):Heap:=h.push { cls:=.type c1,data:=.fields #[.ref a,.int 0 0] }
noncomputable abbrev Gv(c1 a:String)(h:Heap)(b c:Addr):Heap:=(Gw c1 h b).push { cls:=.type a,data:=.fields #[.ref c,.int 0 0] }
noncomputable abbrev Gu(c1 b:String)(h:Heap)(a c:Addr):Heap:=(Gv c1 b h a c).push { cls:=.type "tuple",data:=.seq #[.ref h.objs.size,.ref (Gw c1 h a).objs.size] }
noncomputable abbrev Gs(c1 a:String)(h:Heap)(b c:Addr):Heap:=(Gu c1 a h b c).push { cls:=.type "tuple",data:=.seq #[.none,.none] }
noncomputable abbrev Gf(c1 a:String)(h:Heap)(b c:Addr):Heap:=(Gs c1 a h b c).push { cls:=.type "zip",data:=.fields #[.none,.bool false,.bool false,.ref (Gv c1 a h b c).objs.size,.ref (Gu c1 a h b c).objs.size] }
def JO(a b:Addr)(m n:Array Value) :
  Meets (u2.«zip.__new__» ⟨[.type "zip",.ref a,.ref b],[]⟩) (λ_ R s=>s.heap.IsTuple a m/\s.heap.IsTuple b n /\
   R (.ok (.ret (.ref (Gs "tuple_iterator" "tuple_iterator" s.heap a b).objs.size))) { s with heap:=Gf "tuple_iterator" "tuple_iterator" s.heap a b }):=
 .of_wp λprog w A R s h=>by
  obtain⟨j,g,d,l,os⟩:=s;obtain⟨f,i,h⟩:=h;have k:=sub_zip;have c:zW (cr ⟨j,g,d,l,os⟩) a m:=f;have e:zW (cr ⟨j.push { cls:=.type "tuple_iterator",data:=.fields #[.ref a,.int 0 0] },g,d,l,os⟩) b n:=zW.push i _
  wp_walk using n7 c,n7 e
  exact⟨_,Fx,h⟩
section
variable{P:cH}{w:d7}{A:f9}{E:Value->Shared->Prop}{s:Shared}
def IQ{a b:Addr}{Q:Value->Shared->Prop}(f:s.heap.IsTuple a xs)(g:s.heap.IsTuple b ys)
  (h:∀d,aq d (s.heap.objs.size+4) (s.heap.objs.size+2) (s.heap.objs.size+3) .none->IsPair d (s.heap.objs.size+2) (.ref s.heap.objs.size) (.ref (s.heap.objs.size+1)) ->
   IsPair d (s.heap.objs.size+3) .none .none->d.IsTupleIter s.heap.objs.size a 0->d.IsTupleIter (s.heap.objs.size+1) b 0 ->
   (∀c o,s.heap.get? c=some o->d.get? c=some o)->Q (.ref (s.heap.objs.size+4)) { s with heap:=d }) :
  wpAny (model P w) A (call (.type "zip") [.ref a,.ref b]) Q E s:=by
 refine il F.called_zip Ft (F.typeCall_zip_2 _ _) (F.newCall_zip_2 _ _) (λobj=>F.args_object_init_3 obj _ _) F.entry_zip_new (JO a b xs ys) ⟨f,g,?_⟩;have n1:(Gw "tuple_iterator" s.heap a).objs.size=s.heap.objs.size+1:=dX ..;have i:(Gv "tuple_iterator" "tuple_iterator" s.heap a b).objs.size=s.heap.objs.size+2:=by rw[dX,n1]
 have j:(Gu "tuple_iterator" "tuple_iterator" s.heap a b).objs.size=s.heap.objs.size+3:=by rw[dX,i]
 have n4:(Gs "tuple_iterator" "tuple_iterator" s.heap a b).objs.size=s.heap.objs.size+4:=by rw[dX,j]
 have e:(Gf "tuple_iterator" "tuple_iterator" s.heap a b).get? (Gs "tuple_iterator" "tuple_iterator" s.heap a b).objs.size=some _:=aY _ Fx;have m:(Gf "tuple_iterator" "tuple_iterator" s.heap a b).get? (Gu "tuple_iterator" "tuple_iterator" s.heap a b).objs.size=some _:=aH _ (aY _ Fx);have l:(Gf "tuple_iterator" "tuple_iterator" s.heap a b).get? (Gv "tuple_iterator" "tuple_iterator" s.heap a b).objs.size=some _:=aH _ (aH _ (aY _ Fx));have k:(Gf "tuple_iterator" "tuple_iterator" s.heap a b).get? (Gw "tuple_iterator" s.heap a).objs.size=some _:=aH _ (aH _ (aH _ (aY _ Fx)));have n:(Gf "tuple_iterator" "tuple_iterator" s.heap a b).get? s.heap.objs.size=some _:=aH _ (aH _ (aH _ (aH _ (aY _ Fx))));show _/\_;rw[i,j,n4]at e;rw[n1,i]at l;rw[j]at m;rw[n1]at k;rw[n4];exact⟨⟨_,e,Fx⟩,h _ e l m ⟨_,n,Fx,Fx⟩ ⟨_,k,Fx,Fx⟩ λc o x=>aH _ (aH _ (aH _ (aH _ (aH _ x))))⟩
end
def UJ:f6 "zip"=some (.type "zip"):=by decide +kernel
def Jw(K:aQ)(e:TA):TI:=λg H R=>e g H λvs b=>∃c d a f,vs=[.ref c,.ref d]/\pG K b c a/\pG K b d f/\R (Km (λH a=>pG K H c a) λH a=>pG K H d a) b
section
variable{X:Cx}
def Xr{W:Nat}(L:Gl X "zip")(M:X.mg "zip"=none)(J:PA X [a,b] ta)(hs:cS [a,b] X.env=[(false,eval a X.env),(false,eval b X.env)]:=by rfl)(f:cS [b] X.env=[(false,eval b X.env)]:=by rfl) :
  PI X (.Tuple z8 W tpos) (.Call (.Name "zip" p) [a,b] [] pos) (Jw X.K ta):=by
 intro g s Z H R I h;refine Call_ (tT I L M UJ (i4 (lK (J pos g s Z H _ I h) λus d Y=>?_) (by rw[hs,f]) (by rw[f];rfl)));obtain⟨vs,F,e,S,P⟩:=Y;obtain⟨i,j,xs,ys,rfl,o,t,q⟩:=P
 cases S with
 |cons r w=>
  cases w with
  |cons Q w=>
   cases w;cases r;cases Q;obtain⟨x,T,C,N⟩:=e.tuple o;obtain⟨y,U,E,O⟩:=e.tuple t;have u:i<d.heap.objs.size:=C.lt;have v:j<d.heap.objs.size:=E.lt;refine IQ (show d.heap.IsTuple i x.toArray from C) (show d.heap.IsTuple j y.toArray from E) λG A k l m n hk=>wpAny_pyIter_zip (s:={ d with heap:=G }) A ?_;refine⟨_,[d.heap.objs.size+4,d.heap.objs.size+2,d.heap.objs.size+3,d.heap.objs.size,d.heap.objs.size+1],_,_,F,Fx,e.kept (t':=d.toks) hk,QU (D9 _ i) (D9 _ j) (LR i) (LR j) (zipApart_new u v),⟨A,k,⟨_,_,l⟩,m,n⟩,λc z=>?_,q⟩;simp only[bA,dG,i8]at z;have B:d.heap.objs.size<=c:=by rcases z with rfl | rfl | rfl | rfl | rfl<;>first | exact aM _ | exact CP _ _
   exact e.fpOk B (e.hok.fresh B)
end
end L2
namespace TL
open L2
variable{K:aQ}
noncomputable def xW(a bs:List D):List D:=(a.zip bs).map λp=>.tuple [p.1,p.2]
def wK(a bs:List D):(xW a bs).length=min a.length bs.length:=by unfold xW;simp
def GK{bs}{i:Nat}(h:(xW as bs)[i]?=some x):∃a b,as[i]?=some a/\bs[i]?=some b/\x=.tuple [a,b]:=by
 unfold xW at h;rw[aF]at h
 cases e:(as.zip bs)[i]? with
 |none=>rw[e]at h;cases h
 |some p=>
  rw[e]at h;obtain⟨c,d⟩:=kH.mp e;exact⟨p.1,p.2,c,d,(c7 h).symm⟩
def Ny(t:AT):IT:=λc Q=>t c λb=>∃a bs,b=[.tuple a,.tuple bs]/\Q (xW a bs)
section
variable{X:Cx}{a b:Expr}
def Ww{m:Nat}(w:wH X [a,b] t)(I:∀{ta},PA X [a,b] ta->PI X (.Tuple z8 m tpos) (.Call (.Name "zip" p) [a,b] [] p') (Jw X.K ta)):JG X (.Tuple z8 m tpos) (.Call (.Name "zip" p) [a,b] [] p') (Ny t):=by
 obtain⟨va,E,O⟩:=w;refine⟨_,I E,λB C H F f U Q R o h k=>O B C H F f U _ _ o h λZ xs n P d J=>?_⟩;obtain⟨Y,bs,rfl,q⟩:=J
 cases d with
 |cons d L=>
  cases L with
  |cons M N=>
   cases N
   cases d with
   |@tuple p1 us _ fg rs1=>
    cases M with
    |@tuple p2 vs _ ug rs2=>
     have n1:=rs1.length;have n2:=rs2.length;refine⟨p1,p2,us,vs,Fx,bR.seqT cV fg,bR.seqT cV ug,k _ _ n P ⟨λi H e c=>?_,λi H e c=>?_,λi H G y W live e c A=>?_⟩ q⟩
     ·rw[wK]at c;exact⟨us,vs,bR.seqT e fg,bR.seqT e ug,Fu⟩
     ·rw[wK]at c;exact⟨us,vs,us[i],vs[i],bR.seqT e fg,bR.seqT e ug,aD Fu,aD Fu⟩
     ·obtain⟨p,x,y',l,rfl,rfl,u,v⟩:=A;obtain⟨g,r,S⟩:=rs1.get' (u us (bR.seqT (e.trans cV) fg));obtain⟨j,s,T⟩:=rs2.get' (v vs (bR.seqT (e.trans cV) ug));refine⟨eU l,.tuple [g,j],?_,rS live l (.cons (S.same e) (.cons (T.same e) .nil))⟩;unfold xW;rw[aF,(kH (z:=(g,j))).mpr ⟨r,s⟩];rfl
end
section
variable{g:List (Option Nat)}{j:IT}{i:ET}{e:List Sl}{Q:D->Prop}{ts:List D}
def yA{f:Type}(l:List f)(a b c d:f):(((l.set 0 a).set 1 b).set 0 c).set 1 d=(l.set 0 c).set 1 d:=by
 match l with
 |[]=>rfl
 |[_]=>rfl
 |_::_::_=>rfl
def FM(l:uH j e ts)(f:D->D)(t:ts.length<=100000)(p:∀x∈ts,∃a b,x=.tuple [a,b])(s:∀(a b:D)(q:D->Prop),.tuple [a,b]∈ts->q (f (.tuple [a,b]))->i (((kW g e).set 0 (.val a)).set 1 (.val b)) q)(r:Q (.list (ts.map f))):P4 g j (gP 0 1) CJ i e Q:=by
 refine l _ ⟨t,λk c d=>(∀x y,(c.set 0 (.val x)).set 1 (.val y)=((kW g e).set 0 (.val x)).set 1 (.val y))/\d=(ts.take k).map f,⟨λ_ _=>rfl,Fx⟩,λk x c d n h=>?_,λc d h=>?_⟩
 ·obtain⟨o,rfl⟩:=h;have m:x∈ts:=aR n;obtain⟨a,b,rfl⟩:=p x m;refine⟨a,b,Fx,?_⟩;show i ((c.set 0 (.val a)).set 1 (.val b)) _;rw[o a b];refine s a b _ m ⟨λx y=>yA _ _ _ _ _,?_⟩;rw[bS,n,bK];rfl
 ·obtain⟨_,rfl⟩:=h;rw[cU];exact r
end
end TL
namespace L2
open PySem.SeqAt
open AutoSeq1 (wpAny_loadPart')
def C3(l:Addr)(a:Array Value)(n:Nat)(dd:Option Addr)(G:Array (Option Value))(x:Value)(e:Value->Bool)(j:Nat)(I:j<a.size)(r:e a[j]=true)(t:∀m (J:m<a.size),m<j->e a[m]=false) :
  Meets (u2.«tuple.index» ⟨[.ref l,x],[]⟩)
   (λA R s=>s.heap.get? l=some { cls:=.type "tuple",dict:=dd,data:=.seq a n,slots:=G }/\(∀y,y∈a->EqAt A.in1 s y x (e y))/\R (.ok (.ret (.int j s.toks))) { s with toks:=s.toks+1 }):=by
 intro prog w A R s h;obtain⟨F,g,d,H,os⟩:=s;obtain⟨E,B,h⟩:=h;unfold u2.«tuple.index»;simp only[Std.Legacy.Range.forIn_eq_forIn_range']
 wp_walk using fj E
 have z:([:min a.size a.size]:Std.Legacy.Range).size=a.size:=by simp[Std.Legacy.Range.size]
 rw[z];show wpAny _ _ (ii (CQ 0 a.size) (none,()) _) _ _ _;refine eh _ (λjX b u=>b=(none,())/\u=⟨F,g,d,H,os⟩/\∃k,jX=CQ k (a.size-k)/\k<=j) _ (λi jX b u p=>?_) (λb u p=>?_) _ _ ⟨Fx,Fx,0,Fv,dE _⟩
 ·obtain⟨rfl,rfl,k,o,hk⟩:=p;have c:k<a.size:=by lia
  have v:a.size-k=(a.size-(k+1))+1:=by lia
  rw[v,VD]at o;obtain⟨rfl,rfl⟩:=o6 o;have C:a[i]?=some a[i]:=by simp[c]
  rw[C];refine aE (B _ (Array.getElem_mem c) prog w _ _ ?_);by_cases q:i=j
  ·subst q;rw[r,b8 rfl]
   wp_walk
   exact h
  ·have f:i<j:=by lia
   rw[t i c f,a9 Ft];exact aL ⟨Fx,Fx,i+1,Fx,f⟩
 ·obtain⟨_,_,k,o,hk⟩:=p;have:=g5 hX o;simp at this;lia
end L2
namespace TL
open L2 PySem.SeqAt
section
variable{X:Cx}{e:Expr}{a:List Expr}{b c:ET}{pos:Pos}
def J9(f:List D)(d:D)(j:Nat):Prop:=dW f=true/\d.canLay0=true/\min (dR f) d.depth<=60/\(∃t,f[j]?=some t/\cE t d=true)/\∀(m:Nat) t,m<j->f[m]?=some t->cE t d=false
def J0(K:aQ):V->List V->Hp->VK->Prop:=λx g H Q=>∃(y:V)(f:List D)(d:D)(j:Nat),g=[y]/\jN K H (.tuple f) x/\jN K H d y/\J9 f d j/\Q (.int j) H
def ON(P:X.A.units+200<w6):P5 X "tuple.index" (J0 X.K):=by
 intro G s σ H x xs v us Q I Z Y h;obtain⟨y,g,d,j,rfl,T,U,⟨c1,z,k,⟨t,E,N⟩,r⟩,q⟩:=h;obtain⟨u,rfl,W⟩:=Y.one;obtain⟨as,L⟩:=jN.reads I (show(aW g).hasDict=false from noDictAll c1) T Z;obtain⟨bs,M⟩:=jN.reads I (nW z) U W
 cases L with
 |@tuple l o items n _ as' h3 h4 h5 h6=>
  have f:=iv g items.toList _ c1 h6;have C:items.size=g.length:=by rw[<- f,aB,dZ]
  have O:j<g.length:=(aC.mp E).1;have B:j<items.size:=by lia
  have J:∀(m:Nat)(k:m<items.size),g[m]?=some (iu s.heap items[m]):=λm k=>by
   rw[<- f,aF];simp[k]
  obtain⟨oc,R,S,w⟩:=o;cases h4;cases h5;refine u7 F.slot_tuple_index ⟨_,h3,Fx⟩ F.entry_tuple_index (F.args_tuple_index_2 _ _) (C3 _ items _ R w u (λy=>cE (iu s.heap y) d) j B ?_ ?_) ⟨h3,sr h6 M c1 z (by have:=P;lia),?_⟩
  ·have:=J j B;rw[E]at this;rw[<- c7 this];exact N
  ·intro m p i;exact r m _ i (J m p)
  ·exact⟨.int j,H,I.tok _,⟨_,Fx⟩,q⟩
def xD{k:Nat}(d:Room k X.A):P5 X "tuple.index" (J0 X.K):=ON (by have:=d.un;lia)
def Xf(b:ET)(t:AT):ET:=λg Q=>b g λd=>∃f,d=.tuple f/\t g λh=>∃(x:D)(j:Nat),h=[x]/\J9 f x j/\Q (.int j)
def xJ(z:jG X n b)(y:wH X (e::a) t)
  (C:∀{v c},PE X n v->PA X (e::a) c->PE X (.Call (.Attribute n "index" ap) (e::a) [] pos) (U3 X.K "tuple" (J0 X.K) v c)):jG X (.Call (.Attribute n "index" ap) (e::a) [] pos) (Xf b t):=by
 obtain⟨v,E,re⟩:=z;obtain⟨R,A,M⟩:=y;refine⟨_,C E A,λB i H l f s Q O o h k=>re B i H l f s _ _ o h λd x u m G g=>?_⟩;obtain⟨N,rfl,g⟩:=g
 cases G with
 |@tuple p xs _ hq rs=>
  refine⟨.inr (.inl ⟨Fx,.inr ⟨_,bR.seqT cV hq⟩⟩),M B i u l f s _ _ (o.grow m) g λP S w r I F=>?_⟩;obtain⟨d,j,rfl,hok,q⟩:=F
  cases I with
  |cons J L=>
   cases L;exact⟨_,N,d,j,Fx,(jN.tuple hq rs).same ((cX r).trans cV),J.same cV,hok,k _ _ w (m.trans r) (.int _) q⟩
end
section
variable{K:aQ}{H a:Hp}{B:Hp}{f c:List Addr}{d:List Sl}{g:L2.St}
noncomputable def without(H:Hp)(p:Addr):Hp:=λb=>if b=p then none else H b
def wN{p:Addr}:mask (without H p) c=mask H (p::c):=by
 funext b;unfold mask without;by_cases e:b=p
 ·simp[e]
 ·by_cases h:b∈c<;>simp[e,h]
def rO{p:Addr}(s:bR H a)(h:H p=none):bR H (without a p):=λb o e=>by
 unfold without;rw[a9 λz=>by rw[z,h]at e;cases e];exact s b o e
def zA{p:Addr}(e:H p=some u):iA (without H p) p u=H:=by
 funext b;by_cases h:b=p
 ·subst h;rw[dM,e]
 ·rw[dD h];unfold without;rw[a9 h]
def bR.free'(s:bR H a){p:Addr}(h:a p=none):H p=none:=by
 cases q:H p with
 |none=>rfl
 |some u=>rw[s p u q]at h;cases h
def Ok.takeOwn(o:Ok K B f H c d g){i:Nat}{p:Addr}(s:bR H a)(e:H p=none)(h:a p=some (.lst xs))(r:Reps K (mask a (p::c)) ts xs) :
  Ok K B f a (p::c) (d.set i (.own ts)) (g.set i (some (.ref p))):=by
 have j:=o.grow (rO s e);have b:without a p p=none:=by unfold without;rw[b8 rfl]
 have:=j.setOwn (i:=i) (ts:=ts) (xs:=xs) b (by rw[wN];exact r)
 rwa [zA h]at this
end
section
variable{X:Cx}{a b c e:Expr}{I:List Expr}{G C l:ET}{pos:Pos}
def XW(i:Nat)(t:xQ):xQ:=λf Q=>∃d,f[i]?=some (.own d)/\t (f.set i (.val (.list d))) Q
def DJ(i:Nat)(h:IW X e t):IW X e (XW i t):=by
 obtain⟨v,p,r⟩:=h;refine⟨_,p,λB g H q m j Q n o h k=>?_⟩;obtain⟨u,e,h⟩:=h;obtain⟨d,f,s⟩:=o.share e;exact r B g H d _ j _ _ f h k
abbrev FT:=List Sl->(List D->Prop)->Prop
def JH(X:Cx)(e:Expr)(t:FT):Prop:=∃l:TE,PE X e l/\∀B p0 H ps fb σ (Q:List D->Prop)(f:VK),Ok X.K B p0 H ps fb σ->t fb Q ->
 (∀g p h d,bR H d->H p=none->d p=some (.lst h)->Reps X.K (mask d (p::ps)) g h->Q g->f (.ref p) d)->l σ H f
def Lf(t:FT):ET:=λf Q=>t f λd=>Q (.list d)
def qY(h:JH X e t):jG X e (Lf t):=by
 obtain⟨v,p,r⟩:=h;refine⟨_,p,λB m H n d w Q x o h k=>r B m H n d w _ _ o h λy p z f s g j u q=>k _ _ f s ?_ q⟩;exact .list (mT.of (mP (jI o.live g) j)) (u.same (nE λq i=>aK _ i))
def Mi(t:AT):FT:=λf Q=>t f λd=>d.length<=1000/\Q d
def Wo(h:wH X I t):JH X (.List I pos) (Mi t):=by
 obtain⟨v,p,r⟩:=h;refine⟨_,FE p,λB n H s f w Q y o h k=>r B n H s f w _ _ o h λm u x j i g=>⟨AO (by rw[<- i.length];exact g.1),λq d=>?_⟩⟩;exact k m q u _ (j.trans (eU d)) (bR.free' j d) dM (by rw[lE d];exact i) g.2
def ZK(G C:ET):FT:=λf Q=>G f λx=>C f λy=>∃d bs,x=.list d/\y=.list bs/\d.length+bs.length<=100000/\Q (d++bs)
def T5(w:jG X a G)(z:jG X b C):JH X (.BinOp a .Add b pos) (ZK G C):=by
 obtain⟨W,E,N⟩:=w;obtain⟨Y,F,O⟩:=z;refine⟨_,L5 L8 E F,λB j H m d s Q R o h k=>N B j H m d s _ _ o h λT x t i L J=>?_⟩;refine O B j t m d s _ _ (o.grow i) J λU y P f M K=>?_;obtain⟨S,bs,rfl,rfl,A,q⟩:=K
 cases L with
 |list u n=>
  cases M with
  |list v r=>
   refine⟨_,_,_,_,Fx,Fx,L2.bR.seq ((cX f).trans cV) u,L2.bR.seq cV v,zM (by rw[<- n.length,<- r.length];exact A),λp g=>?_⟩;exact k _ p _ _ ((i.trans f).trans (eU g)) (bR.free' (i.trans f) g) dM (by rw[lE g];exact(n.same (cX f)).append r) q
def Gn(m:List (Option Nat))(n:IT)(g:GT)(o:xQ)(l:ET):FT:=λj Q=>n j λi=>i.length<=100000/\∃P:Nat->List Sl->List D->Prop,P 0 (kW m j) [] /\
 (∀(k:Nat)(x:D)d(h:List D),i[k]?=some x->P k d h->g x d λf=>o f λb=>if b=true then l f λy=>P (k+1) f (h++[y])else P (k+1) f h)/\∀d h,P i.length d h->Q h
def Lg(Q:List D->Prop)(d:D):Prop:=match d with | .list ds=>Q ds | _=>False
def KU{l}{Q:List D->Prop}(h:P4 fr ti g tt l σ (Lg Q)):Gn fr ti g tt l σ Q:=h
def S8{ti:IT}{g:GT}{tt:xQ}{l:ET}{wi:TI}{gv:BP->TG}{vt:BP->TT}{ve:BP->TE}
  (ri:∀B t H r f w (Q:List D->Prop)(R:It->Hp->Prop),Ok X.K B t H r f w->ti f Q->(∀E J q,bR H q->X0 X.K (mask q r) E J->Q E->R J q)->wi w H R)
  (rg:∀(M:BP)B t H r f w(d:D)(v:V)(Q:List Sl->Prop)(F:L2.St->Hp->Prop),Ok X.K B t H r f w->jN X.K (mask H r) d v->g d f Q->(∀j A,Ok X.K B t H r j A->(oW f->oW j)->Q j->F A H)->gv M v w H F)
  (rt:∀(M:BP)B t H r f w(Q:Bool->Prop)(F:Bool->Hp->Prop),Ok X.K B t H r f w->tt f Q->(∀b q,bR H q->Q b->F b q)->vt M w H F)
  (re:∀(M:BP)B t H r f w(Q:D->Prop)F,Ok X.K B t H r f w->l f Q->(∀d v q,bR H q->jN X.K (mask q r) d v->Q d->F v q)->ve M w H F)
  (B:Hp) (t:List Addr) (H:Hp) (r:List Addr) (f:List Sl) (w:L2.St) (Q:List D->Prop) (F:VK) (o:Ok X.K B t H r f w) (h:Gn fr ti g tt l f Q) (k:∀E p xs q,bR H q->H p=none->q p=some (.lst xs)->Reps X.K (mask q (p::r)) E xs->Q E->F (.ref p) q):QX fr wi gv vt ve w H F:=by
 refine ri B t H r f w _ _ o h λE J H1 s1 rj q1=>?_;obtain⟨hz,P,h0,hs,hd⟩:=q1;intro M n s;have U:B n=none:=bR.free' (o.grow s1).base s
 refine⟨λi m A q=>m=E.length-i/\i<=E.length/\∃j N T,Ok X.K B t q (n::r) j A/\oW j/\q n=some (.lst T)/\N.length<=i/\Reps X.K (mask q (n::r)) N T/\bR (mask H1 r) (mask q (n::r))/\bR H1 q/\P i j N,
  ⟨_,Fx,dE _,kW fr f,[],[],((o.grow s1).blk fr).adopt s,qU fr f,dM,aM _,.nil,by rw[lE s];exact L2.bR.refl _,eU s,h0⟩,?_⟩
 rintro i m A q ⟨rfl,iq,j,N,T,o',n',ha,hl,Z,W,sF,p'⟩;have hL:bO=2^24:=rfl;by_cases O:i<E.length
 ·refine .inr ⟨rj.go i q (W.trans cV) O,λy H2 hy=>?_⟩;obtain⟨s2,dx,hx,rx⟩:=rj.yld i q (n::r) y H2 o'.live W O hy;refine rg M B t H2 (n::r) j A dx y _ _ (o'.grow s2) rx (hs i dx j N hx p') λx Y o3 n3 q3=>?_;refine rt M B t H2 (n::r) x Y _ _ o3 q3 λb H4 s4 q4=>?_;have L:=s2.trans s4
  cases b with
  |false=>
   exact⟨E.length-(i+1),Fu,Fx,O,x,N,T,o3.grow s4,n3 n',L _ _ ha,Fu,Z.same (cX L),W.trans (cX L),sF.trans L,q4⟩
  |true=>
   refine re M B t H4 (n::r) x Y _ _ (o3.grow s4) q4 λd v H5 s5 r5 q5=>?_;have S:=L.trans s5;have hm:mask (iA H5 n (.lst (T++[v]))) (n::r)=mask H5 (n::r):=nD (aP ..);refine⟨T,S _ _ ha,by rw[<- Z.length];lia,E.length-(i+1),Fu,Fx,O,x,N++[d],T++[v],((o3.grow s4).grow s5).aside (aP ..) U (n3 n'),n3 n',dM,by rw[aV,lR];lia,?_,?_,?_,q5⟩
   ·rw[hm];exact(Z.same (cX S)).append (.cons r5 .nil)
   ·rw[hm];exact W.trans (cX S)
   ·intro b u e;have ne:b≠n:=λz=>by rw[z,s]at e;cases e
    rw[dD ne];exact(sF.trans S) b u e
 ·obtain rfl:i=E.length:=by lia
  exact .inl ⟨rj.stop _ q (W.trans cV) (aM _),k N n T q (s1.trans sF) (bR.free' s1 s) ha Z (hd j N p')⟩
def WZ{iter l}(m:JG X tg iter ti)
  (d:∀b:BP,M8 (blk X scope N' b) tg g/\F8 (blk X scope N' b) ifs tt/\jG (blk X scope N' b) elt l) {M:(TE)->Prop}
  (fin:∀{h}{gv:BP->TG}{vt:BP->TT}{ve:BP->TE},PI X tg iter h->(∀b:BP,PG (blk X scope N' b) tg (gv b)/\PV (blk X scope N' b) ifs (vt b)/\PE (blk X scope N' b) elt (ve b))->M (QX fr h gv vt ve)) :
  ∃v:TE,M v/\∀B p0 H ps fb σ (Q:List D->Prop)(i:VK),Ok X.K B p0 H ps fb σ->Gn fr ti g tt l fb Q ->
   (∀j p k f,bR H f->H p=none->f p=some (.lst k)->Reps X.K (mask f (p::ps)) j k->Q j->i (.ref p) f)->v σ H i:=by
 obtain⟨h,n,o⟩:=m;refine⟨_,fin (gv:=λb=>e8 (d b).1) (vt:=λb=>e8 (d b).2.1) (ve:=λb=>e8 (d b).2.2) n λb=>⟨(d0 (d b).1).1,(d0 (d b).2.1).1,(d0 (d b).2.2).1⟩,?_⟩;exact S8 o (λb=>(d0 (d b).1).2) (λb=>(d0 (d b).2.1).2) λb=>(d0 (d b).2.2).2
def Ox{iter l}(j:JG X tg iter ti)
  (i:∀b:BP,M8 (blk X scope N' b) tg g/\F8 (blk X scope N' b) ifs tt/\jG (blk X scope N' b) elt l)
  (k:∀{wi}{d:BP->TG}{h:BP->TT}{f:BP->TE},PI X tg iter wi->(∀b:BP,PG (blk X scope N' b) tg (d b)/\PV (blk X scope N' b) ifs (h b)/\PE (blk X scope N' b) elt (f b))->PE X (.ListComp elt [⟨tg,iter,ifs,0⟩] scope pos) (QX fr wi d h f)) :
  JH X (.ListComp elt [⟨tg,iter,ifs,0⟩] scope pos) (Gn fr ti g tt l):=WZ j i k
abbrev GH:=List D->(List D->Prop)->Prop
def gX(K:aQ)(k:GH):Sp:=λvs H Q _=>∃(f:List Addr)(h:List D)(g:List D->Prop),(∀p∈f,GA (H p))/\Reps K (mask H f) h vs/\k h g /\
 ∀i p j d,bR H d->H p=none->d p=some (.lst j)->Reps K (mask d (p::f)) i j->g i->Q (.ref p) d
def ZJ(f:GH)(t:AT):FT:=λg Q=>t g λd=>f d Q
def XD{k:Nat}{f:Addr}{pn}(F:dP X.prog X.w X.K X.mg X.base gQ k f fd pn (gX X.K sp))(Y:X.mg x=some (.ref f))(hk:jS X.K (.ref f)=true)(W:xS X.K fd pn [])
  (Z:Room k X.A) (u:wH X (e::I) t) (L:∀{G},PA X (e::I) G->PE X (.Call (.Name x p) (e::I) [] pos) (LO (gX X.K sp) [] E0 G)):JH X (.Call (.Name x p) (e::I) [] pos) (ZJ sp t):=by
 obtain⟨v,J,O⟩:=u;refine⟨_,L J,λB E H j i U Q r o h k=>O B E H j i U _ _ o h λs T n d N M=>?_⟩;show gX X.K sp (T++[]) n r E0;rw[dU];exact⟨j,s,Q,(o.grow d).live,N,M,λS p g m R y z P q=>k S p g m (d.trans R) (bR.free' d y) z P q⟩
def T6{K}{mg:Str->Option Value}{st}{f:Addr}{N pn:List Str}{k:Nat}{o:GH}(F:P6 K x qual st f fd)(S:bT N pn (bF st))
  (j:∀{i}{A:f9}{outer}{s:Shared}{H E},Room k (A.deeper (z7 qual (bF st) s.heap.objs.size f i))->N.Nodup->∀(g:List D)(Q:List D->Prop),o g Q ->
   ∃t,sT (CF gQ P w K mg base N qual (bF st) f i A outer s H E).nox (nI st) t/\t { nx:=λ_=>False,rt:=λ_=>False,ro:=Q } (pI N g)) (len:∀g Q,o g Q->g.length=pn.length:=by intro g Q h;(repeat obtain⟨_,h⟩:=h)<;>subst_vars<;>rfl):dP P w K mg base gQ (k+1) f fd pn (gX K o):=by
 refine F.ok S (λvs H Q E h=>?_) λi A outer s H vs Q E z h=>?_
 ·obtain⟨n,g,m,_,r,q,_⟩:=h;rw[<- r.length];exact len g m q
 ·obtain⟨n,g,m,live,r,q,k⟩:=h;obtain⟨t,⟨u,p,J⟩,h⟩:=j z S.nd g m q;exact⟨u,p,J H n H n _ _ _ _ (xC live r) h ⟨λ_ _ _ _ _ _ d=>d.elim,λ_ _ _ _ _ _ d=>d.elim,λ_ _ _ _ _ _ d=>d.elim,λ_ _ _ _ _ d=>d.elim,λu p O v M y R B L d=>k u p O v M y B L d,λ_ _ _ _ _ _ _ _ _ _ _ _ _ _ _ _ _ _ d=>d.elim,λ_ _ _ _ _ _ _ _ _ _ _ _ _ _ d=>d.elim,ar⟩⟩
def G0(i:Nat)(t:FT):uF:=λf d=>t d λg=>f.nx (d.set i (.own g))
def NY{i:Nat}{t:FT}{v:TE}(r:∀B m H g d k (Q:List D->Prop)(y:VK),Ok X.K B m H g d k->t d Q ->
   (∀n p u j,bR H j->H p=none->j p=some (.lst u)->Reps X.K (mask j (p::g)) n u->Q n->y (.ref p) j)->v k H y)
  (B:Hp) (m:List Addr) (H:Hp) (g:List Addr) (d:List Sl) (k:L2.St) (w:xR) (x:JC) (o:Ok X.K B m H g d k) (h:G0 i t w d) (f:JB X.K B m H g w x):xX v (mV i) x k H:=by
 refine r B m H g d k _ _ o h λn p u j s z A E q=>?_;exact f.nx j (p::g) _ _ (o.takeOwn s z A E) (by rw[<- wN];exact cX (rO s z)) q
def VZ{i:Nat}(h:JH X e t)(d:∀{v},PE X e v->PS X (.Assign [.Name x pos'] e pos) (xX v (mV i))):zQ X (.Assign [.Name x pos'] e pos) (G0 i t):=by
 obtain⟨v,p,r⟩:=h;exact⟨_,d p,NY r⟩
def YD(t:FT):uF:=λd f=>t f d.ro
def rQ(h:JH X e t):zQ X (.Return (some e) pos) (YD t):=by
 obtain⟨v,p,r⟩:=h;refine⟨_,yD p,λB k H m d x y A o h f=>r B k H m d x _ _ o h λu p w i s g j n q=>?_⟩;refine f.ro u p w i (o.base.trans s) (bR.free' o.base g) (λz=>jI o.live g (o.sub p z)) j (n.same (nE λq hq=>?_)) q;rcases bA.mp hq with rfl | hq
 ·exact aP ..
 ·exact aK _ (o.sub q hq)
def V8(i:Nat):uF:=λf g=>∃d,g[i]?=some (.own d)/\f.ro d
def pB{i:Nat}(s:PE X n (A3 i)):zQ X (.Return (some n) pos) (V8 i):=by
 refine⟨_,yD s,λB x H y u A v w o h f=>?_⟩;obtain⟨d,e,h⟩:=h;obtain⟨q,t,g,j,k,m,p,r⟩:=o.own i d e;refine⟨.ref q,g,f.ro d q t H o.base k m p (r.same (nE λz hz=>?_)) h⟩;rcases bA.mp hz with rfl | hz
 ·exact j
 ·exact o.sub z hz
def Q7(c:xQ)(C:uF):uF:=λg h=>∃P:Nat->List Sl->Prop,(∃n,P n h)/\∀n d,P n d->c d λb=>if b=true then C { g with nx:=λf=>∃m,m<n/\P m f,ct:=λf=>∃m,m<n/\P m f,bk:=g.nx } d else g.nx d
def wP{c C}(hc:IW X c tc)(hb:sT X body C)(pw:∀{S R},PT X c S->CW X body R->PS X (.While c body [] pos) (QW S R)):zQ X (.While c body [] pos) (Q7 tc C):=by
 obtain⟨S,pc,rc⟩:=hc;obtain⟨R,pb,rb⟩:=hb;refine⟨_,pw pc pb,λB t H F T σ W Y o h f=>?_⟩;obtain⟨P,⟨n0,Z⟩,hs⟩:=h;refine⟨λn k A=>∃g d,Ok X.K B t A g d k/\bR (mask H F) (mask A g)/\P n d,⟨n0,F,T,o,L2.bR.refl _,Z⟩,?_⟩;rintro n k A ⟨g,d,Q,U,p'⟩;refine rc B t A g d k _ _ Q (hs n d p') λb E L J=>?_;have q:JB X.K B t E g W Y:=(f.later U).later (cX L);have w:bR (mask H F) (mask E g):=U.trans (cX L)
 cases b with
 |true=>
  rw[b8 rfl]at J |-
  refine⟨λy M=>∃m,m<n/\∃u p,Ok X.K B t M u p y/\bR (mask H F) (mask M u)/\P m p,λy M z=>z,?_⟩;exact rb B t E g d k _ _ (Q.grow L) J ⟨λN j i r s x ⟨m,O,v⟩=>⟨m,O,j,i,s,w.trans x,v⟩,λN j i r s x v=>q.nx N j i r s x v,λN j i r s x ⟨m,O,v⟩=>⟨m,O,j,i,s,w.trans x,v⟩,q.rt,q.ro,q.rp,q.rq,q.xb⟩
 |false=>
  rw[a9 Ft]at J |-
  exact q.nx E g d k (Q.grow L) (L2.bR.refl _) J
def Hk(i j k:Nat):GT:=λd f Q=>∃a b c,d=.tuple [a,b,c]/\Q (((f.set i (.val a)).set j (.val b)).set k (.val c))
def qW{i j k:Nat}(h:PG X t (Ib X.K 3 (D1 (mV i) (D1 (mV j) (D1 (mV k) Ia))))):M8 X t (Hk i j k):=
 ⟨_,h,λB u H w q x d v Q s o r h k=>by
  obtain⟨a,b,c,rfl,h⟩:=h
  cases r with
  |@tuple p xs _ hq r=>
   cases r with
   |cons f r=>
    cases r with
    |cons g r=>
     cases r with
     |cons m r=>
      cases r;exact⟨_,_,Fx,bR.seqT cV hq,Fx,_,_,Fx,_,_,Fx,_,_,Fx,Fx,k _ _ (((o.set f).set g).set m) (λn=>pE (pE (pE n _ _) _ _) _ _) h⟩⟩
def YC(l:ET)(g:GT):uF:=λh f=>l f λd=>g d f h.nx
def VY(s:jG X e l)(t:M8 X tg g)(w:∀{v j},PE X e v->PG X tg j->PS X (.Assign [tg] e pos) (xX v j)):zQ X (.Assign [tg] e pos) (YC l g):=by
 obtain⟨v,y,re⟩:=s;obtain⟨j,z,J⟩:=t;refine⟨_,w y z,λB n H k i q L M o h f=>re B n H k i q _ _ o h λd x m p F E=>?_⟩;exact J B n m k i q d x _ _ (o.grow p) F E λr K u _ A=>f.nx m k _ _ u (cX p) A
def Le(c:xQ)(G C:ET):ET:=λd Q=>c d λb=>if b=true then G d Q else C d Q
def D5(x:IW X c tc)(u:jG X a G)(w:jG X b C):jG X (.IfExp c a b pos) (Le tc G C):=by
 obtain⟨N,A,J⟩:=x;obtain⟨L,y,E⟩:=u;obtain⟨M,z,F⟩:=w;refine⟨_,RX A y z,λB m H n f s Q K o h k=>J B m H n f s _ _ o h λd t i g=>?_⟩
 cases d with
 |true=>
  rw[b8 rfl]at g |-
  exact E B m t n f s Q _ (o.grow i) g λd v j r q p=>k d v j (i.trans r) q p
 |false=>
  rw[a9 Ft]at g |-
  exact F B m t n f s Q _ (o.grow i) g λd v j r q p=>k d v j (i.trans r) q p
end
end TL
namespace L2
open PySem.SeqAt
open AutoSeq1 (wpAny_loadPart')
section
variable{X:Cx}{d:List (Addr×Obj)}{g:St}{H:Hp}{s:Shared}{p:Addr}
def eL.retold(I:eL X d g H s)(h:H p=some u)(nt:∀f,u≠.tup f)(k:∀o v,u≠.frz o v)(nb:∀j,u≠.tbl j)(t:∀a,u≠.own a)(new:mH X.prog X.w (iA H p u') s.heap p u'):eL X d g (iA H p u') s:=by
 have ne:∀b v,H b=some v->v≠u->iA H p u' b=some v:=λb v e r=>by
  rw[dD λz=>by rw[z,h]at e;exact r (c7 e).symm];exact e
 have fin:=I.step (h':=s.heap) (H':=iA H p u') (g':=s.gens) (t':=s.toks) (d':=s.drawn) (ch:=[]) (λb i=>by cases i) (λb o _ _ _ e _=>e) (λb o _ _ _ e _=>⟨o.slots,e⟩)
  (λb o _ e n=>by rw[dD λz=>by rw[z,h]at n;cases n];exact n) (λb o _ e=>⟨o,e⟩) (λb f e=>ne _ _ e (λz=>nt f z.symm)) (λb o v e=>ne _ _ e (λz=>k o v z.symm))
  (λb j e=>⟨#[],by rw[ne _ _ e (λz=>nb j z.symm)];simp⟩) (λm l=>l) (λb v e=>?_) I.bare
 ·exact fin
 ·by_cases i:b=p
  ·subst i;rw[dM]at e;cases e;exact new
  ·rw[dD i]at e;exact(I.hok b v e).stay (λc w _ q=>q) (λc q=>ne _ _ q λz=>t b z.symm) (λc f q=>ne _ _ q λz=>nt f z.symm) λc ob y q=>ne _ _ q λz=>k ob y z.symm
def HN{p:Addr}:∀a b:Heap,TL.pL p a->(∀o,a.get? p=some o->b.get? p=some o)->TL.pL p b:=λa b ⟨c,n,e,r⟩ k=>⟨c,n,k _ e,r⟩
def eL.openNums(I:eL X d g H s)(h:H p=some (.ext (TL.pL p))):∃ns:List Int,ns.length<=1000/\(∀i∈ns,0<=i/\i<4096)/\eL X d g (iA H p (.lst (ns.map V.int))) s:=by
 obtain⟨⟨b,n,e,l,c⟩,_⟩:=I.hok p _ h
 have all:∀b:List Value,(∀v∈b,∃(i:Int)(t:Tok),v=.int i t/\0<=i/\i<4096)->∃ns:List Int,ns.length=b.length/\(∀i∈ns,0<=i/\i<4096)/\gO (ns.map V.int) b:=λb=>by
  induction b with
  |nil=>exactλ_=>⟨[],Fx,λi r=>by simp at r,.nil⟩
  |cons v b y=>
   intro c;obtain⟨i,t,rfl,m,q⟩:=c v (aP ..);obtain⟨ns,l,f,k⟩:=y λu x=>c u (aK _ x);refine⟨i::ns,by simp[l],λj hj=>?_,.cons ⟨t,Fx⟩ k⟩;rcases bA.mp hj with rfl | hj
   ·exact⟨m,q⟩
   ·exact f j hj
 obtain⟨ns,w,f,k⟩:=all b c;refine⟨ns,Fu,f,I.retold h (λC z=>by cases z) (λo v z=>by cases z) (λB z=>by cases z) (λa z=>by cases z) ⟨?_,b,n,k,e⟩⟩;rw[aB];have A:bO=2^24:=rfl;lia
def eL.closeNums{ns:List Int}(I:eL X d g H s)(h:H p=some (.lst (ns.map V.int)))(w:ns.length<=1000)(q:∀i∈ns,0<=i/\i<4096):eL X d g (iA H p (.ext (TL.pL p))) s:=by
 obtain⟨z,f,n,r,e⟩:=I.hok p _ h;have b:=r.length;rw[aB]at b
 have j:∀v∈f,∃(i:Int)(t:Tok),v=.int i t/\0<=i/\i<4096:=λv j=>by
  obtain⟨k,hk⟩:=bU j;have c:k<ns.length:=by rw[b];exact(aC.mp hk).1
  obtain⟨u,l,t,m⟩:=r.get (i:=k) (x:=.int ns[k]) (by rw[aF,aD c];rfl);rw[hk]at l;cases l;exact⟨_,t,m,q _ (dL c)⟩
 exact I.retold h (λA z=>by cases z) (λo v z=>by cases z) (λy z=>by cases z) (λa z=>by cases z) ⟨⟨f,n,e,Fu,j⟩,⟨_,e⟩,HN⟩
def X8(p:Addr)(t:TS):TS:=λD g H=>H p=some (.ext (TL.pL p))/\∀ns:List Int,ns.length<=1000->(∀i∈ns,0<=i/\i<4096) ->
 t { nx:=λc b=>∃a:List Int,b p=some (.lst (a.map V.int))/\a.length<=1000/\(∀i∈a,0<=i/\i<4096)/\D.nx c (iA b p (.ext (TL.pL p))),rt:=λv b=>∃a:List Int,b p=some (.lst (a.map V.int))/\a.length<=1000/\(∀i∈a,0<=i/\i<4096)/\D.rt v (iA b p (.ext (TL.pL p))) } g (iA H p (.lst (ns.map V.int)))
def RM(p:Addr)(h:CW X sts t):CW X sts (X8 p t):=by
 intro d s g H D I ⟨o,l⟩;obtain⟨ns,m,n,k⟩:=I.openNums o;refine lK (h d s g _ _ k (l ns m n)) λf x q=>?_
 cases f with
 |next=>
  obtain⟨a,j,b,w,e,c,i,q⟩:=q;exact⟨a,_,b.closeNums e c i,q⟩
 |ret u=>
  obtain⟨v,a,j,b,r,w,e,c,i,q⟩:=q;exact⟨v,a,_,b.closeNums e c i,r,q⟩
 |brk=>obtain⟨_,_,_,q⟩:=q;exact q.elim
 |cont=>obtain⟨_,_,_,q⟩:=q;exact q.elim
def RZ{e}(h:PE X e te):PE X e (λg H Q=>te g H λv a=>∃(p:Addr)(ns:List Int),v=.ref p/\a p=some (.lst (ns.map V.int))/\ns.length<=1000/\(∀i∈ns,0<=i/\i<4096)/\Q (.ref p) (iA a p (.ext (TL.pL p)))):=by
 intro d s g H Q I j;refine lK (h d s g H _ I j) λu l k=>?_;obtain⟨v,a,b,r,q⟩:=k;obtain⟨p,ns,rfl,e,c,f,q⟩:=q;exact⟨.ref p,_,b.closeNums e c f,r,q⟩
end
def KW(l:Addr)(c:Array Value)(n:Nat)(b:Addr)(a:Array Value)(o:Nat)(dd:Option Addr)(p:Array (Option Value))(m:¬(!c.isEmpty&&n8 (c.size+a.size))=true)(e:c.size<=bO)(f:c.size+a.size<=bO+1) :
  Meets (u2.«list.extend» ⟨[.ref l,.ref b],[]⟩) (λ_ R s=>s.heap.get? l=some { cls:=.type "list",dict:=none,data:=.seq c n,slots:=#[] }/\s.heap.get? b=some { cls:=.type "list",dict:=dd,data:=.seq a o,slots:=p }/\R (.ok (.ret e9)) { s with heap:=s.heap.update l (d3 λx=>x++a),toks:=s.toks }):=
 .of_wp λprog w A R s h=>by
  obtain⟨u,g,d,v,os⟩:=s;obtain⟨j,k,h⟩:=h;have f1:=AutoSeq1.idx_int;have f2:=AutoSeq1.sub_tuple_tuple;have q:=AutoSeq1.sub_list_list;have r:=AutoSeq1.sub_tuple_list;have t:=AutoSeq1.sub_list_tuple;have i:(c++a).size<=bO+1:=by rw[QH];exact f
  wp_walk using(l4 j Fx (hz:=e) (_hz':=i)),fj j,fj k
  exact⟨_,Fx,h⟩
section
variable{X:Cx}
def YG(K:aQ):V->List V->Hp->VK->Prop:=λx vs H Q=>∃l b a c,x=.ref l/\vs=[.ref b]/\H l=some (.lst a)/\mT K H b c/\a.length+c.length<=bO/\Q .non (iA H l (.lst (a++c)))
def rW:Iu X "list.extend" (YG X.K):=by
 intro j s T H x vs v O Q I J G h;obtain⟨l,b,P,S,rfl,rfl,i,p,M,q⟩:=h;cases J;obtain⟨u,rfl,E⟩:=G.one;cases E;obtain⟨z,c,n,r,L,e⟩:=I.lstM i;obtain⟨a,k,⟨o,A,m,t,w,hd⟩,R⟩:=I.list p;have y:=k.length;have f:c.toArray.size+a.toArray.size<=bO:=by rw[bI,bI];lia
 have d:¬(!c.toArray.isEmpty&&n8 (c.toArray.size+a.toArray.size))=true:=by
  rw[SA f,Bool.and_false];exact bQ
 obtain⟨N,B,C,g⟩:=o;cases t;cases hd;refine u7 F.slot_list_extend ⟨_,e,Fx⟩ F.entry_list_extend (F.args_list_extend_2 _ _) (KW l c.toArray n b a.toArray A B g d (by rw[bI];lia) Fu) ⟨e,m,?_⟩;refine⟨.non,_,I.lset (its':=c++a) i e Fv (r.append k) ?_,Fx,q⟩;rw[aV];lia
end
end L2
namespace TL
open L2
section
variable{X:Cx}{b e:Expr}{c a:ET}{pos:Pos}
def YE(i:Nat)(a:ET):uF:=λj h=>∃f,h[i]?=some (.own f)/\a h λd=>∃g,d=.list g/\f.length+g.length<=100000/\j.nx (h.set i (.own (f++g)))
def rR{i:Nat}{e a}(Q:PE X n (A3 i))(C:jG X e a)(hs:cS [e] X.env=(false,eval e X.env)::cS [] X.env:=by rfl)
  (pb:∀{c},PA X [e] c->PS X (.Expr (.Call (.Attribute n "extend" ap) [e] [] cp) pos) (QY (U3 X.K "list" (YG X.K) (A3 i) c))):zQ X (.Expr (.Call (.Attribute n "extend" ap) [e] [] cp) pos) (YE i a):=by
 obtain⟨v,p,r⟩:=C;refine⟨_,pb (mO p oR hs),λB I H k m y M N o h f=>?_⟩;obtain⟨w,e,h⟩:=h;obtain⟨q,j,s,A,O,P,t,u⟩:=o.own i w e;refine⟨.ref q,s,.inl ⟨Fx,j,mT.of t⟩,r B I H k m y _ _ o h λd x z g J l=>?_⟩;obtain⟨L,rfl,F,l⟩:=l;have G:=o.grow g
 cases J with
 |@list p2 zs _ hq rs=>
  refine⟨q,p2,j,zs,Fx,Fx,g _ _ t,L2.bR.seq cV hq,zM (by rw[<- u.length,<- rs.length];exact F),?_⟩;have E:Reps X.K (mask z k) (w++L) (j++zs):=(u.same (cX g)).append rs;exact f.nx _ k _ y (G.write (ys:=j++zs) e s E) ((cX g).trans (by rw[nD A];exact L2.bR.refl _)) l
def Mj(a:ET)(g th:OT):FT:=λd Q=>a d λx=>g d λl=>th d λu=>∃f,x=.list f/\Q (kD f l u)
def T4{lo th}(w:jG X e a)(y:Gj X lo tl)(A:Gj X hi th):JH X (.Subscript e (.Slice lo hi none p2) pos) (Mj a tl th):=by
 obtain⟨R,C,re⟩:=w;obtain⟨S,E,L⟩:=y;obtain⟨T,F,N⟩:=A;refine⟨_,G8 LS C E F,λB j H ps f r Q O o h k=>re B j H ps f r _ _ o h λd x t m K G=>?_⟩;refine L B j t ps f r _ _ (o.grow m) G λl v n I=>?_;refine N B j v ps f r _ _ ((o.grow m).grow n) I λu H3 s3 J=>?_;obtain⟨P,rfl,q⟩:=J
 cases K with
 |list z M=>
  have g:=(cX (ps:=ps) n).trans (cX s3);have s:bR H H3:=m.trans (n.trans s3);exact⟨_,_,Fx,L2.bR.seq (g.trans cV) z,λp i=>k _ p _ _ (s.trans (eU i)) (bR.free' s i) dM (by rw[lE i];exact(M.same g).cut l u) q⟩
def Ow(a:ET):FT:=λf Q=>a f λx=>∃d,(x=.list d\/x=.tuple d)/\Q d
def XC(s:jG X e a)(hs:cS [e] X.env=(false,eval e X.env)::cS [] X.env:=by rfl)
  (pc:∀{v},PA X [e] (tE v A4)->PE X (.Call g [e] [] pos) (VM (λA H Q=>∃p n,A=[.ref p]/\(mT X.K H p n\/pG X.K H p n)/\∀l,H l=none->Q (.ref l) (iA H l (.lst n))) (tE v A4))):JH X (.Call g [e] [] pos) (Ow a):=by
 obtain⟨v,u,re⟩:=s;refine⟨_,pc (mO u oR hs),λB t H w r C Q F o h k=>re B t H w r C _ _ o h λd x E i z y=>?_⟩;obtain⟨G,hd,q⟩:=y
 cases z with
 |list j m=>
  rcases hd with hd | hd
  ·cases hd;exact⟨_,_,Fx,.inl (L2.bR.seq cV j),λp f=>k _ p _ _ (i.trans (eU f)) (bR.free' i f) dM (by rw[lE f];exact m) q⟩
  ·cases hd
 |tuple j m=>
  rcases hd with hd | hd
  ·cases hd
  ·cases hd;exact⟨_,_,Fx,.inr (bR.seqT cV j),λp f=>k _ p _ _ (i.trans (eU f)) (bR.free' i f) dM (by rw[lE f];exact m) q⟩
 |none=>rcases hd with hd | hd<;>cases hd
 |bool _=>rcases hd with hd | hd<;>cases hd
 |int _=>rcases hd with hd | hd<;>cases hd
 |str _=>rcases hd with hd | hd<;>cases hd
 |wild _=>rcases hd with hd | hd<;>cases hd
 |exc _ _=>rcases hd with hd | hd<;>cases hd
 |excA _ _ _=>rcases hd with hd | hd<;>cases hd
 |excD _ _ _ _=>rcases hd with hd | hd<;>cases hd
 |tape _ _=>rcases hd with hd | hd<;>cases hd
 |dct _ _ _ _=>rcases hd with hd | hd<;>cases hd
 |addr _=>rcases hd with hd | hd<;>cases hd
 |ins _ _=>rcases hd with hd | hd<;>cases hd
def Nu(t:FT):ET:=λf Q=>t f λd=>∃ns:List Int,d=ns.map bN/\ns.length<=1000/\(∀i∈ns,0<=i/\i<4096)/\Q (.dict [])
def XL(h:JH X e t):jG X e (Nu t):=by
 obtain⟨v,p,r⟩:=h;refine⟨_,RZ p,λB m H n f x Q A o h k=>r B m H n f x _ _ o h λC p E y s g l w q=>?_⟩;obtain⟨ns,rfl,i,j,q⟩:=q;have e:=uP w;subst e;refine⟨p,ns,Fx,l,i,j,k (.dict []) _ _ (λb u d=>?_) (.wild (mP (jI o.live g) dM)) q⟩;rw[dD λz=>by rw[z,g]at d;cases d];exact s b u d
def tW{K}{mg:Str->Option Value}{k:Nat}{f:Addr}{pn}:dP P w K mg base gQ k f fd pn (cM K λ_ _=>False):=
 ⟨λvs H Q E ⟨_,_,_,_,_,h,_⟩=>h.elim,λA outer s H d g vs Q E _ _ _ _ ⟨_,_,_,_,_,h,_⟩=>h.elim⟩
def O3{K}{mg:Str->Option Value}{k:Nat}{f:Addr}{pn}:dP P w K mg base gQ k f fd pn (gX K λ_ _=>False):=
 ⟨λvs H Q E ⟨_,_,_,_,_,h,_⟩=>h.elim,λA outer s H d g vs Q E _ _ _ _ ⟨_,_,_,_,_,h,_⟩=>h.elim⟩
def B1{K}{mg:Str->Option Value}{k:Nat}{f:Addr}{pn}{j g:lG}(F:dP P w K mg base gQ k f fd pn (cM K j))(h:∀d Q,g d Q->j d Q):dP P w K mg base gQ k f fd pn (cM K g):=
 F.imp λvs H Q E ⟨p,d,i,l,m,n,o⟩=>⟨p,d,i,l,m,h d i n,o⟩
def Mk(d:D)(Q:D->Prop):Prop:=∃ns:List Int,d=.list (ns.map bN)/\ns≠[]/\∀m,m∈ns->(∀n∈ns,n<=m)->Q (.int m)
end
end TL
namespace L2
section
variable{X:Cx}
def DA(P:X.calm=true):mI X (.builtin "max") (λN H Q=>∃(p:Addr)(ns:List Int),N=[.ref p]/\mT X.K H p (ns.map V.int)/\ns≠[]/\∀m,m∈ns->(∀n∈ns,n<=m)->Q (.int m) H):=by
 intro J s σ H N us Q I r h;obtain⟨p,ns,rfl,T,k,q⟩:=h;obtain⟨u,rfl,W⟩:=oG r;cases W;obtain⟨a,M,L,Z⟩:=I.list T;have g:=M.length;rw[aB]at g;have F:0<ns.length:=wI.mpr k
 have B:p≠s.heap.objs.size:=by
  obtain⟨o,C,_⟩:=L.isList;exact bV (bE C)
 have f:=L.isList
 have l:p<s.heap.objs.size:=by
  obtain⟨o,C,_⟩:=f;exact bE C
 have c:∀(i:Nat)(v:Value),a.toArray[i]?=some v->∃t,v=.int ((ns[i]?).getD 0) t:=λi v w=>by
  have G:a[i]?=some v:=by simpa using w
  have y:i<a.length:=(aC.mp G).1;have d:i<ns.length:=by lia
  obtain⟨w',E,O⟩:=M.get (i:=i) (x:=.int ns[i]) (by rw[aF,aD d];rfl);rw[G]at E;cases E;rw[aD d];exact O
 refine call_max_walk (j4 f ?_);refine⟨_,_,_,_,_,_,_,Fx,bt (A:=X.A.in1) (I.ok.hd P) _ p B a.toArray,⟨⟨_,aY _ Fx,Fx,Fx⟩,f.push _⟩,λb d=>?_,by rw[bI];lia,CmpOf.ints_gt (λi=>(ns[i]?).getD 0) c,λv Y tk w hk=>?_⟩
 ·show b<(s.heap.push _).objs.size;rw[dX];have:b=s.heap.objs.size\/b=p:=by simpa using d
  rcases this with rfl | rfl
  ·exact mM _
  ·exact gM l
 ·obtain⟨t,rfl⟩:=c _ _ w;have d:=argBest_gt (λi=>(ns[i]?).getD 0) (a.toArray.size-1);have U:a.toArray.size=ns.length:=by rw[bI];lia
  have y:argBest (λi j=>decide ((ns[i]?).getD 0>(ns[j]?).getD 0)) (a.toArray.size-1)<ns.length:=by have:=d.1;lia
  refine⟨.int _,H,I.kept λb o e=>hk b o ?_ (aH _ e),⟨t,Fx⟩,q _ ?_ λn S=>?_⟩
  ·intro z;have:b=s.heap.objs.size:=by simpa using z
   exact c8 (bE e) (by rw[this];exact iG _)
  ·rw[aD y];exact dL y
  ·obtain⟨j,R,rfl⟩:=vK.mp S;have:=d.2 j Fu;rw[aD R]at this;exact this
def Nn(_ j:Int):Prop:=0<j/\j<2^200
def HC:qE X (l5 .FloorDiv) (rI Nn λi j=>.int (i / j)):=Gx λi j _ _ _ _ _ a q=>by
 have c:(0:Int)<j:=a.1;have d:j<2^200:=a.2;have b:j.natAbs<2^200:=by lia
 have e:j.natAbs.log2<200:=(Nat.log2_lt Fu).mpr b;exact floordiv_int Fu (by rw[GF i Fu];exact q) (.inl (PyProof.noPylong_of_log2 Fu))
end
end L2
namespace TL
open L2
section
variable{X:Cx}{e:Expr}{pos:Pos}
theorem BW{K}:∀ns:List Int,Reps K H (ns.map bN) (ns.map V.int)
|[]=>.nil
|n::ns=>.cons (.int n) (BW ns)
theorem IA:∀ns:List Int,dW (ns.map bN)=true
|[]=>rfl
|n::ns=>IA ns
def WA(i:Nat):uF:=λa b=>b[i]?=some (.val (.dict []))/\∀n:Int,0<=n->n<4096->a.rt (.int n)
def NS{k:Nat}(S:Room k X.A){i:Nat}{j:Nat}(t:PE X n1 (A3 i))(Q:PE X (.Call (.Attribute n2 "pop" ap) [] [] cp) (Ki X.K "list" Kd (A3 i))) :
  sT X [.If (.Compare n1 [.Eq] [.List [] p2] p1) [.Return (some (.Constant (.int 0) j p3)) p4] [] p5,.Return (some (.Call (.Attribute n2 "pop" ap) [] [] cp)) p6] (WA i):=by
 have pt:CW X _ _:=G6 (YI (pos:=p5) (L0 (pos:=p1) (yI S) t (FE (pos:=p2) oR) Fx) (FA (yD (pos:=p4) (yG (i:=0) (j:=j) (pos:=p3)))) L1) (FA (yD (pos:=p6) Q));refine⟨λD E H=>∃p,X8 p _ D E H,λC s E H D I ⟨p,h⟩=>RM p pt C s E H D I h,λB Z H ps U E W N o h f=>?_⟩;obtain⟨e,h⟩:=h;obtain⟨v,L,r⟩:=o.val i _ e
 cases r with
 |@wild p hw=>
  have J:H p=some (.ext (pL p)):=cV _ _ hw;refine⟨p,J,λns P G=>?_⟩;have Y:bO=2^24:=rfl;refine⟨.ref p,L,dE _,λm a=>⟨.list (ns.map bN),.list [],?_,?_,⟨IA ns,Fx,by show min _ 1<=60;lia⟩,_,Fx,?_⟩⟩
  ·exact .list (mT.of ((dD λz=>by rw[<- z,dM]at a;cases a).trans dM)) (BW ns)
  ·exact .list (mT.of dM) .nil
  have c:p≠m:=λz=>by rw[<- z,dM]at a;cases a
  have d:H m=none:=by rw[dD λz=>c z.symm]at a;exact a
  have fin:∀(u w M:HO)(n:Int),0<=n->n<4096->N.rt (.int n) (iA (iA (iA (iA H p u) m w) p M) p (.ext (pL p))):=λu w M n F t=>by
   refine f.rt (.int n) _ _ (λq x R=>?_) (.int n) (h n F t);have b:=o.base _ _ R;by_cases z:q=p
   ·rw[z,J]at b;rw[z,dM];exact b
   ·have T:q≠m:=λe=>by rw[e,d]at b;cases b
    rw[dD z,dD z,dD T,dD z];exact b
  have ie:∀(u w:HO),iA (iA (iA H p u) m w) p u=iA (iA H p u) m w:=λu w=>by
   funext q;by_cases z:q=p
   ·rw[z,dM,dD c,dM]
   ·rw[dD z]
  cases ns with
  |nil=>
   show(if true=true then _ else _);rw[b8 rfl];refine⟨[],by rw[dD c,dM],P,G,?_⟩;have:=fin (.lst ([].map V.int)) (.lst []) (.lst ([].map V.int)) 0 Ft Ft;rw[ie]at this;exact this
  |cons n ns=>
   show(if false=true then _ else _);rw[a9 Ft];have y:iA (iA H p (.lst ((n::ns).map V.int))) m (.lst []) p=some (.lst ((n::ns).map V.int)):=by rw[dD c,dM]
   have g:((n::ns).map V.int)[((n::ns).map V.int).length-1]?=some (.int ((n::ns).getLast Fv)):=by
    rw[aB,aF,aD Fv,List.getLast_eq_getElem];rfl
   obtain⟨F,t⟩:=G _ (List.getLast_mem (l:=n::ns) Fv);refine⟨.ref p,L,.inl ⟨Fx,_,mT.of y⟩,p,(n::ns).map V.int,_,Fx,Fx,y,g,(n::ns).dropLast,?_,?_,λi O=>G i (List.dropLast_subset _ O),fin _ _ _ _ F t⟩
   ·rw[dM,List.map_dropLast]
   ·rw[NE];lia
def Np:vI X (λf H Q=>∃(p:Addr)(ns:List Int),f=[.ref p]/\mT X.K H p (ns.map V.int)/\ns≠[]/\∀m,m∈ns->(∀n∈ns,n<=m)->Q (.int m) H) (f1 Mk):=c1 λH i d x Q g live r h k=>by
 obtain⟨ns,rfl,a,h⟩:=h
 cases r with
 |list q s=>
  have e:=uP s;subst e;exact⟨_,ns,Fx,L2.bR.seq cV q,a,λm b c=>k _ _ H (L2.bR.refl H) (.int _) (h m b c)⟩
end
def Ok.setUn{K}{fb:List Sl}{σ:L2.St}(o:Ok K B p0 H ps fb σ){i:Nat}:Ok K B p0 H ps (fb.set i .un) (σ.set i (some v)) where
 base:=o.base
 sub:=o.sub
 live:=o.live
 len:=by simpa using o.len
 val:=λj d' h=>by
  by_cases e:i=j
  ·subst e
   have hi:i<fb.length:=by
    have:=(aC.mp h).1;simpa using this
   rw[bG hi]at h;cases h
  ·rw[bH e]at h |-
   exact o.val j d' h
 own:=λj ts h=>by
  by_cases e:i=j
  ·subst e
   have hi:i<fb.length:=by
    have:=(aC.mp h).1;simpa using this
   rw[bG hi]at h;cases h
  ·rw[bH e]at h |-
   exact o.own j ts h
 dis:=λj k ts us p h1 h2 h3 h4=>by
  have ne:∀{l:Nat}{ts:List D},(fb.set i .un)[l]?=some (.own ts)->i≠l:=λ{l ts} h e=>by
   subst e
   have hi:i<fb.length:=by
    have:=(aC.mp h).1;simpa using this
   rw[bG hi]at h;cases h
  have e1:=ne h1;have e2:=ne h2;rw[bH e1]at h1 h3;rw[bH e2]at h2 h4;exact o.dis j k ts us p h1 h2 h3 h4
 dc:=o.dc.setS λ_ _ z=>nomatch z
section
variable{X:Cx}{e:Expr}{a:List Expr}{b c:ET}{pos:Pos}
abbrev Ip:=List Sl->(List D->List D->Prop)->Prop
def Iq(X:Cx)(e:Expr)(t:Ip):Prop:=∃c:TE,PE X e c/\∀B p0 H ps fb σ (Q:List D->List D->Prop)(f:VK),Ok X.K B p0 H ps fb σ->t fb Q ->
 (∀g bs r p q h i d,bR H d->H r=none->H p=none->H q=none->p≠q->d r=some (.tup [.ref p,.ref q])->d p=some (.lst h)->d q=some (.lst i)->Reps X.K (mask d (p::q::ps)) g h->Reps X.K (mask d (p::q::ps)) bs i->Q g bs->f (.ref r) d)->c σ H f
abbrev Hb:=List D->(List D->List D->Prop)->Prop
def uQ(K:aQ)(l:Hb):Sp:=λvs H Q _=>∃(f:List Addr)(i:List D)(g:List D->List D->Prop),(∀p∈f,GA (H p))/\Reps K (mask H f) i vs/\l i g /\
 ∀h bs r p q j k d,bR H d->H r=none->H p=none->H q=none->p≠q->d r=some (.tup [.ref p,.ref q])->d p=some (.lst j)->d q=some (.lst k)->Reps K (mask d (p::q::f)) h j->Reps K (mask d (p::q::f)) bs k->g h bs->Q (.ref r) d
def YK(f:Hb)(t:AT):Ip:=λg Q=>t g λd=>f d Q
def RP{k:Nat}{f:Addr}{pn}(F:dP X.prog X.w X.K X.mg X.base gQ k f fd pn (uQ X.K sp))(hm:X.mg x=some (.ref f))(hk:jS X.K (.ref f)=true)(Z:xS X.K fd pn [])
  (hr:Room k X.A) (M:wH X (e::a) t) (P:∀{b},PA X (e::a) b->PE X (.Call (.Name x p) (e::a) [] pos) (LO (uQ X.K sp) [] E0 b)):Iq X (.Call (.Name x p) (e::a) [] pos) (YK sp t):=by
 obtain⟨v,O,g⟩:=M;refine⟨_,P O,λB N H l j Y Q s o h k=>g B N H l j Y _ _ o h λy i n d S R=>?_⟩;show uQ X.K sp (i++[]) n s E0;rw[dU];exact⟨l,y,Q,(o.grow d).live,S,R,λu bs r p q i W m U z C E G I J L g T q=>k u bs r p _ i W m (d.trans U) (bR.free' d z) (bR.free' d C) (bR.free' d E) G I J L g T q⟩
def Ky{K}{mg:Str->Option Value}{st}{f:Addr}{N pn:List Str}{k:Nat}{n:Hb}(F:P6 K x qual st f fd)(S:bT N pn (bF st))
  (j:∀{i}{A:f9}{outer}{s:Shared}{H E},Room k (A.deeper (z7 qual (bF st) s.heap.objs.size f i))->N.Nodup->∀(g:List D)(Q:List D->List D->Prop),n g Q ->
   ∃t,sT (CF gQ P w K mg base N qual (bF st) f i A outer s H E).nox (nI st) t/\t { nx:=λ_=>False,rt:=λ_=>False,rp:=Q } (pI N g)) (len:∀g Q,n g Q->g.length=pn.length:=by intro g Q h;(repeat obtain⟨_,h⟩:=h)<;>subst_vars<;>rfl):dP P w K mg base gQ (k+1) f fd pn (uQ K n):=by
 refine F.ok S (λvs H Q E h=>?_) λi A outer s H vs Q E J h=>?_
 ·obtain⟨m,g,l,_,r,q,_⟩:=h;rw[<- r.length];exact len g l q
 ·obtain⟨m,g,l,live,r,q,k⟩:=h;obtain⟨t,⟨T,p,O⟩,h⟩:=j J S.nd g l q;exact⟨T,p,O H m H m _ _ _ _ (xC live r) h ⟨λ_ _ _ _ _ _ d=>d.elim,λ_ _ _ _ _ _ d=>d.elim,λ_ _ _ _ _ _ d=>d.elim,λ_ _ _ _ _ d=>d.elim,λ_ _ _ _ _ _ _ _ _ d=>d.elim,λu bs r p q U W o R v y z B C G I L M d=>k u bs r p q U W o R v y z B C G I L M d,λ_ _ _ _ _ _ _ _ _ _ _ _ _ _ d=>d.elim,ar⟩⟩
def Lc(t:Ip):ET:=λf Q=>t f λd bs=>Q (.tuple [.list d,.list bs])
def UA(h:Iq X e t):jG X e (Lc t):=by
 obtain⟨v,p,r⟩:=h;refine⟨_,p,λB y H d u G Q I o h k=>r B y H d u G _ _ o h λJ bs r p q K L w F m g j x n i l C E A=>?_⟩;have f:∀{z:Addr},H z=none->z∉d:=λs=>jI o.live s;have sub:∀z∈d,z∈p::q::d:=λz s=>aK _ (aK _ s);exact k _ _ w F (.tuple (pG.of (mP (f m) n)) (.cons (.list (mT.of (mP (f g) i)) (C.same (nE sub))) (.cons (.list (mT.of (mP (f j) l)) (E.same (nE sub))) .nil))) A
end
end TL
namespace L2
open PySem.SeqAt
section
variable{X:Cx}
theorem tN(ns:List Int):∀k:Nat,preSum (λi=>(ns[i]?).getD 0) k=(ns.take k).sum
|0=>rfl
|k+1=>by
 show preSum _ k+(ns[k]?).getD 0=_;rw[tN ns k,bS,X5]
 cases ns[k]? with
 |none=>simp
 |some x=>simp
theorem DM:∀ns:List Int,(∀n∈ns,0<=n/\n<2^40)->0<=ns.sum/\ns.sum<=(ns.length:Int)*2^40
|[],_=>by simp
|n::ns,h=>by
 have b:=h n (aP ..);have c:=DM ns λx a=>h x (aK _ a);rw[eR,bX];constructor
 ·lia
 ·have:((ns.length+1:Nat):Int)*2^40=(ns.length:Int)*2^40+2^40:=by rw[nB,aKi];rfl
  lia
def C8(R:X.calm=true):mI X (.builtin "sum") (λO H Q=>∃(p:Addr)(ns:List Int),O=[.ref p]/\mT X.K H p (ns.map V.int)/\(∀n∈ns,0<=n/\n<2^40)/\ns.length<=1000/\Q (.int ns.sum) H):=by
 intro L s σ H O us Q I r h;obtain⟨p,ns,rfl,U,m,C,q⟩:=h;obtain⟨u,rfl,W⟩:=oG r;cases W;obtain⟨a,N,M,hz⟩:=I.list U;have g:=N.length;rw[aB]at g
 have E:p≠s.heap.objs.size:=by
  obtain⟨o,F,_⟩:=M.isList;exact bV (bE F)
 have c:=M.isList
 have l:p<s.heap.objs.size:=by
  obtain⟨o,F,_⟩:=c;exact bE F
 have w:∀(i:Nat)(v:Value),a.toArray[i]?=some v->∃t,v=.int ((ns[i]?).getD 0) t:=λi v P=>by
  have J:a[i]?=some v:=by simpa using P
  have hi:i<a.length:=(aC.mp J).1;have y:i<ns.length:=by lia
  obtain⟨w',B,G⟩:=N.get (i:=i) (x:=.int ns[i]) (by rw[aF,aD y];rfl);rw[J]at B;cases B;rw[aD y];exact G
 have d:∀k:Nat,0<=(ns.take k).sum/\(ns.take k).sum<2^63:=λk=>by
  have B:=DM (ns.take k) λn T=>m n (dI T);have G:(ns.take k).length<=1000:=by rw[bD];lia
  have h3:((ns.take k).length:Int)*2^40<=1000*2^40:=Int.mul_le_mul_of_nonneg_right Fu Ft;lia
 refine call_sum_walk (j4 c ?_);refine⟨_,_,_,_,_,_,λi=>(ns[i]?).getD 0,Fx,bt (A:=X.A.in1) (I.ok.hd R) _ p E a.toArray,⟨⟨_,aY _ Fx,Fx,Fx⟩,c.push _⟩,λb y=>?_,w,λj S=>?_,λZ tk Y hk=>?_⟩
 ·show b<(s.heap.push _).objs.size;rw[dX];have:b=s.heap.objs.size\/b=p:=by simpa using y
  rcases this with rfl | rfl
  ·exact mM _
  ·exact gM l
 ·rw[bI]at S;have f:j<ns.length:=by lia
  refine⟨?_,?_⟩
  ·have:=m ns[j] (dL f);show InLong ((ns[j]?).getD 0);rw[aD f];show -(2^63)<=ns[j]/\ns[j]<2^63;lia
  ·rw[tN];have:=d (j+1);show -(2^63)<=_/\_<2^63;lia
 ·refine⟨.int _,H,I.kept λb o e=>hk b o ?_ (aH _ e),⟨Y,Fx⟩,?_⟩
  ·intro z;have:b=s.heap.objs.size:=by simpa using z
   exact c8 (bE e) (by rw[this];exact iG _)
  ·rw[tN,lH (by rw[bI];lia)];exact q
end
def B7(l:Addr)(a:Array Value) :
  Meets (u2.«enumerate.__new__» ⟨[.type "enumerate",.ref l],[]⟩) (λ_ R s=>s.heap.IsList l a /\
   R (.ok (.ret (.ref (s.heap.push { cls:=.type "list_iterator",data:=.fields #[.ref l,.int 0 0] }).objs.size)))
    { s with heap:=(s.heap.push { cls:=.type "list_iterator",data:=.fields #[.ref l,.int 0 0] }).push { cls:=.type "enumerate",data:=.fields #[.none,.bool false,.ref s.heap.objs.size,j1 0,.none,.none] } }):=
 .of_wp λprog w A R s h=>by
  obtain⟨i,g,d,j,os⟩:=s;obtain⟨f,h⟩:=h;have e:=sub_enumerate;have b:Heap.IsList (cr ⟨i,g,d,j,os⟩) l a:=f
  wp_walk
  refine wpAny_stack_any λst=>aL ?_;split
  ·rename_i c _ _ _ _ _;cases (c==j5 "enumerate")
   ·wp_walk using j4 b
    exact⟨_,Fx,h⟩
   ·wp_walk using j4 b
    exact⟨_,Fx,h⟩
  ·wp_walk using j4 b
   exact⟨_,Fx,h⟩
section
variable{P:cH}{w:d7}{A:f9}{E:Value->Shared->Prop}{s:Shared}
def AC{l:Addr}{Q:Value->Shared->Prop}(e:s.heap.IsList l items)
  (h:∀a,fo a (s.heap.objs.size+1) s.heap.objs.size 0 .none->a.IsListIter s.heap.objs.size l 0->a.objs.size=s.heap.objs.size+2 ->
   (∀b o,s.heap.get? b=some o->a.get? b=some o)->Q (.ref (s.heap.objs.size+1)) { s with heap:=a }) :
  wpAny (model P w) A (call (.type "enumerate") [.ref l]) Q E s:=by
 refine il je Ft (gn _) (ic _) (λobj=>ik obj _) ia
  (B7 l items) ⟨e,?_⟩
 have c:(s.heap.push { cls:=.type "list_iterator",data:=.fields #[.ref l,.int 0 0] }).objs.size=s.heap.objs.size+1:=dX ..;show _/\_;rw[c]
 have d:fo ((s.heap.push { cls:=.type "list_iterator",data:=.fields #[.ref l,.int 0 0] }).push
   { cls:=.type "enumerate",data:=.fields #[.none,.bool false,.ref s.heap.objs.size,j1 0,.none,.none] }) (s.heap.objs.size+1) s.heap.objs.size 0 .none:=by
  have:=aY (s.heap.push { cls:=.type "list_iterator",data:=.fields #[.ref l,.int 0 0] })
   (o:={ cls:=.type "enumerate",data:=.fields #[.none,.bool false,.ref s.heap.objs.size,j1 0,.none,.none] }) Fx
  rw[c]at this;exact this
 exact⟨⟨_,d,Fx⟩,h _ d ⟨_,aH _ (aY _ Fx),Fx,Fx⟩ (by rw[dX,c]) λb o x=>aH _ (aH _ x)⟩
end
noncomputable def Kn(K:aQ)(a:Addr):It:=
 ⟨λi H=>∃b x,mT K H a b/\b[i]?=some x,
  λi H v c=>∃p x,H p=none/\v=.ref p/\c=iA H p (.tup [.int (i:Int),x])/\∀b,mT K H a b->b[i]?=some x,
  λi H=>∃b,mT K H a b/\b.length<=i⟩
def NN{K}{x1:Nat}{e it l:Addr}(ua:e≠it) :
  CK P w K (.Tuple z8 x1 pos) (Kn K l) [e,it] e (λi h=>(∃old,fo h e it (i:Int) old)/\h.IsListIter it l i) where
 mem:=by simp
 obj:=λi h st b hb=>by
  obtain⟨⟨old,he⟩,ev⟩:=st;simp only[bA,dG,i8]at hb;rcases hb with rfl | rfl
  ·exact⟨_,he,λv q=>by cases q⟩
  ·obtain⟨o,e,c,d⟩:=ev;exact⟨o,e,λv z=>by rw[d]at z;cases z⟩
 keep:=λi h h' st k=>by
  obtain⟨⟨old,he⟩,ev⟩:=st;exact⟨⟨old,k e Fv _ he⟩,ev.at λo x=>k it Fv o x⟩
 item:=by
  intro X hP hw hK hc i pins s σ H E I hf st hg;subst hP hw hK;obtain⟨⟨old,he⟩,ev⟩:=st;obtain⟨xs,x,hq,hx⟩:=hg;obtain⟨ay,rv,p,hz⟩:=I.list hq;obtain⟨u,hu,ru⟩:=rv.get hx;refine wpAny_pyNext_enum_item he ev p.isList (x:=u) (by simpa using hu) ua λh' a1 a2 a3 a4 a5=>⟨_,Fx,?_⟩;refine gi (s:={ s with heap:=h',toks:=s.toks+1 }) a1 λh2 b1 sb=>?_;have ip:e<s.heap.objs.size:=bE he
  have kk:∀c o,c∉[e,it]->s.heap.get? c=some o->h2.get? c=some o:=λc o u8 x=>by
   simp only[bA,dG,i8,ew]at u8;exact sb.extBut _ _ u8.1 (a5 c o u8.1 u8.2 x)
  have hT:=sb.extBut _ _ (fA ip) a3;have I1:eL X pins σ (iA H s.heap.objs.size (.tup [.int (i:Int),x])) { s with heap:=h2,toks:=s.toks+1 }:=I.turnedNew (t':=s.toks+1) hf kk (aM _) ⟨(by show 2<=bO;decide),[.int i s.toks,u],.cons ⟨_,Fx⟩ (.cons ru .nil),⟨_,hT,Fx,_,Fx,Fx⟩⟩;refine⟨.ref s.heap.objs.size,_,I1,Fx,⟨_,x,I.hok.fresh (aM _),Fx,Fx,λys hy=>by rw[I.list_inj hy hq];exact hx⟩,?_,λc u8=>?_⟩
  ·exact⟨⟨_,by rw[nB];exact b1⟩,a2.at λo x=>sb.extBut _ _ (j9 ua) x⟩
  ·have gu:c≠s.heap.objs.size:=by
    simp only[bA,dG,i8]at u8;rcases u8 with rfl | rfl
    ·exact bV ip
    ·obtain⟨o,z,_⟩:=ev;exact bV (bE z)
   rw[dD gu];exact(hf c u8).1
 done:=by
  intro X hP hw hK hc i pins s σ H E I hf st hg;subst hP hw hK;obtain⟨⟨old,he⟩,ev⟩:=st;obtain⟨xs,hq,hx⟩:=hg;obtain⟨ay,rv,p,hz⟩:=I.list hq;have hl:=rv.length;refine wpAny_pyNext_enum_end (I.ok.hd hc) he ev p.isList (by simp;lia) λh' eb=>⟨Fx,I.turnedL (t':=s.toks) hf λc o u8 x=>?_⟩;simp only[bA,dG,i8,ew]at u8;exact eb c o u8.2 x
 self:=λA i s Q E st h=>by
  obtain⟨⟨old,he⟩,_⟩:=st;exact au he h
def uB:f6 "enumerate"=some (.type "enumerate"):=by decide +kernel
def ZB(K:aQ)(b:TA):TI:=λd H R=>b d H λvs a=>∃l c,vs=[.ref l]/\mT K a l c/\R (Kn K l) a
section
variable{X:Cx}
def L3{F:Nat}(t:Gl X "enumerate")(u:X.mg "enumerate"=none)(o:PA X [a] ta)(hs:cS [a] X.env=[(false,eval a X.env)]:=by rfl) :
  PI X (.Tuple z8 F tpos) (.Call (.Name "enumerate" p) [a] [] pos) (ZB X.K ta):=by
 intro d s J H R I h;refine Call_ (tT I t u uB (i4 (lK (o pos d s J H _ I h) λL b G=>?_) (by rw[hs];rfl) (by rfl)));obtain⟨vs,m,f,A,z⟩:=G;obtain⟨l,M,rfl,v,q⟩:=z
 cases A with
 |cons r B=>
  cases B;cases r;obtain⟨E,C,y,x⟩:=f.list v;refine AC y.isList λn j g w hk=>au (s:={ b with heap:=n }) j ?_;refine⟨_,[b.heap.objs.size+1,b.heap.objs.size],_,_,m,Fx,f.kept (t':=b.toks) hk,NN (e:=b.heap.objs.size+1) (it:=b.heap.objs.size) (l:=l) (X2 _),⟨⟨_,j⟩,g⟩,λc i=>?_,q⟩;simp only[bA,dG,i8]at i;have k:b.heap.objs.size<=c:=by rcases i with rfl | rfl<;>first | exact aM _ | exact CP _ _
  exact f.fpOk k (f.hok.fresh k)
end
end L2
namespace TL
open L2 PySem.SeqAt
variable{K:aQ}
def UW(K:aQ)(a:Addr)(c:List Str):Prop:=∃(o:Obj)(b:Array Value)(n:Nat),K.lookup a=some o/\o.cls=.type "tuple"/\o.dict=none/\o.data=.seq b n/\b.size<=bO/\gO (c.map V.str) b.toList
theorem vP:∀a:List Str,Reps K H (a.map aO) (a.map V.str)
|[]=>.nil
|y::a=>.cons (.str y) (vP a)
noncomputable def tY(a:List D):List D:=xW (fF a.length) a
def kX(a:List D):(tY a).length=a.length:=by unfold tY;rw[wK];unfold fF;simp
def pF{i:Nat}(h:as[i]?=some a):(tY as)[i]?=some (.tuple [.int (i:Int),a]):=by
 have b:=(aC.mp h).1;unfold tY xW fF;rw[aF,(kH (z:=(bN (i:Int),a))).mpr ⟨by rw[aF,gG b];rfl,h⟩];rfl
def Ws(t:AT):IT:=λc Q=>t c λb=>∃a,b=[.list a]/\Q (tY a)
section
variable{X:Cx}{a b e:Expr}{C:List Expr}{g E c:ET}{pos:Pos}
def FU{x:Str}{p:Addr}{d:List Str}{pos}(f:Gl X x)(i:X.mg x=some (.ref p))(hk:UW X.K p d)(hd:(x==("__debug__":Str))=false:=by decide):jG X (.Name x pos) (eC (.tuple (d.map aO))):=
 ⟨_,L6 (v:=.ref p) f i Fx hd,λ_ _ H _ _ _ _ _ _ h k=>k _ _ H (L2.bR.refl H) (.tuple (.inr hk) (vP d)) h⟩
def MO{m:Nat}(v:wH X [a] t)(I:∀{g},PA X [a] g->PI X (.Tuple z8 m tpos) (.Call (.Name "enumerate" p) [a] [] p') (ZB X.K g)):JG X (.Tuple z8 m tpos) (.Call (.Name "enumerate" p) [a] [] p') (Ws t):=by
 obtain⟨W,A,M⟩:=v;refine⟨_,I A,λB z H F j P Q R o h k=>M B z H F j P _ _ o h λU Y n N f J=>?_⟩;obtain⟨T,rfl,q⟩:=J
 cases f with
 |cons f L=>
  cases L
  cases f with
  |@list p1 us _ fg rs1=>
   have n1:=rs1.length;refine⟨p1,us,Fx,L2.bR.seq cV fg,k _ _ n N ⟨λi H e d=>?_,λi H e d=>?_,λi H G y S live e d w=>?_⟩ q⟩
   ·rw[kX]at d;exact⟨us,L2.bR.seq e fg,Fu⟩
   ·rw[kX]at d;exact⟨us,us[i],L2.bR.seq e fg,aD Fu⟩
   ·obtain⟨p,x,l,rfl,rfl,u⟩:=w;obtain⟨r,s,O⟩:=rs1.get' (u us (L2.bR.seq (e.trans cV) fg));exact⟨eU l,.tuple [.int (i:Int),r],pF s,rS live l (.cons (.int _) (.cons (O.same e) .nil))⟩
def Mm(d:D)(Q:D->Prop):Prop:=∃ns:List Int,d=.list (ns.map bN)/\(∀n∈ns,0<=n/\n<2^40)/\ns.length<=1000/\Q (.int ns.sum)
def Nq:vI X (λi H Q=>∃(p:Addr)(ns:List Int),i=[.ref p]/\mT X.K H p (ns.map V.int)/\(∀n∈ns,0<=n/\n<2^40)/\ns.length<=1000/\Q (.int ns.sum) H) (f1 Mm):=c1 λH l d x Q j live r h k=>by
 obtain⟨ns,rfl,hs,f,h⟩:=h
 cases r with
 |list q s=>
  have e:=uP s;subst e;exact⟨_,ns,Fx,L2.bR.seq cV q,hs,f,k _ _ H (L2.bR.refl H) (.int _) h⟩
def E4(K:aQ):V->List V->Hp->VK->Prop:=λx h H Q=>∃(y:V)(f:List D)(d:D)(j:Nat),h=[y]/\jN K H (.list f) x/\jN K H d y/\J9 f d j/\j<1000000/\Q (.int j) H
def KE(U:X.A.units+200<w6):P5 X "list.index" (E4 X.K):=by
 intro M s σ H x xs v us Q I rx rv h;obtain⟨y,i,d,j,rfl,Z,r2,⟨c1,B,p,⟨t,L,R⟩,w⟩,S,q⟩:=h;obtain⟨u,rfl,ru⟩:=rv.one;obtain⟨as,O⟩:=jN.reads I (show(AH i).hasDict=false from noDictAll c1) Z rx;obtain⟨bs,P⟩:=jN.reads I (nW B) r2 ru
 cases O with
 |@list l o items n _ as' h3 h4 h5 h6=>
  have f:=iv i items.toList _ c1 h6;have J:items.size=i.length:=by rw[<- f,aB,dZ]
  have T:j<i.length:=(aC.mp L).1;have G:j<items.size:=by lia
  have N:∀(m:Nat)(p:m<items.size),i[m]?=some (iu s.heap items[m]):=λm p=>by
   rw[<- f,aF];simp[p]
  obtain⟨oc,W,Y,z⟩:=o;cases h4;cases h5;refine u7 F.slot_list_index ⟨_,h3,Fx⟩ F.entry_list_index (F.args_list_index_2 _ _) (list_indexAt _ items _ W z u (λy=>cE (iu s.heap y) d) j G Fu ?_ ?_) ⟨h3,sr h6 P c1 B (by have:=U;lia),?_⟩
  ·have:=N j G;rw[L]at this;rw[<- c7 this];exact R
  ·intro m r k;exact w m _ k (N m r)
  ·exact⟨.int j,H,I.tok _,⟨_,Fx⟩,q⟩
def yK{k:Nat}(d:Room k X.A):P5 X "list.index" (E4 X.K):=KE (by have:=d.un;lia)
def FW(c:ET)(t:AT):ET:=λh Q=>c h λd=>∃f,d=.list f/\t h λi=>∃(x:D)(j:Nat),i=[x]/\J9 f x j/\j<1000000/\Q (.int j)
def yQ(F:jG X n c)(z:wH X (e::C) t)
  (I:∀{v g},PE X n v->PA X (e::C) g->PE X (.Call (.Attribute n "index" ap) (e::C) [] pos) (U3 X.K "list" (E4 X.K) v g)):jG X (.Call (.Attribute n "index" ap) (e::C) [] pos) (FW c t):=by
 obtain⟨v,J,re⟩:=F;obtain⟨W,G,R⟩:=z;refine⟨_,I J G,λB l H m f u Q T o h k=>re B l H m f u _ _ o h λd x w r M i=>?_⟩;obtain⟨S,rfl,i⟩:=i
 cases M with
 |@list p xs _ hq rs=>
  refine⟨.inl ⟨Fx,_,L2.bR.seq cV hq⟩,R B l w m f u _ _ (o.grow r) i λU Y y s N L=>?_⟩;obtain⟨d,j,rfl,hok,A,q⟩:=L
  cases N with
  |cons O P=>
   cases P;exact⟨_,S,d,j,Fx,(jN.list hq rs).same ((cX s).trans cV),O.same cV,hok,A,k _ _ y (r.trans s) (.int _) q⟩
def Ju(f:List D)(d:D):Prop:=dW f=true/\d.canLay0=true/\min (dR f) d.depth<=60
def E5(K:aQ):V->List V->Hp->VK->Prop:=λx h H Q=>∃(y:V)(f:List D)(d:D),h=[y]/\jN K H (.list f) x/\jN K H d y/\Ju f d/\Q (.int ((f.countP λt=>cE t d:Nat):Int)) H
def KF(w:X.A.units+200<w6):P5 X "list.count" (E5 X.K):=by
 intro m s U H x T v S Q I N M h;obtain⟨y,j,d,rfl,G,J,⟨c1,k,P⟩,q⟩:=h;obtain⟨u,rfl,L⟩:=M.one;obtain⟨O,p⟩:=jN.reads I (show(AH j).hasDict=false from noDictAll c1) G N;obtain⟨bs,r⟩:=jN.reads I (nW k) J L
 cases p with
 |@list l o items n _ as' h3 h4 h5 h6=>
  have f:=iv j items.toList _ c1 h6;obtain⟨R,z,B,i⟩:=o;cases h4;cases h5;refine u7 F.slot_list_count ⟨_,h3,Fx⟩ F.entry_list_count (F.args_list_count_2 _ _) (list_countAt _ items _ z i u (λy=>cE (iu s.heap y) d)) ⟨h3,sr h6 r c1 k (by have:=w;lia),?_⟩;refine⟨.int _,H,I.tok _,⟨_,Fx⟩,?_⟩
  have e:(items.toList.countP λy=>cE (iu s.heap y) d)=j.countP λt=>cE t d:=by
   rw[<- f,uL];rfl
  rw[e];exact q
def OM{k:Nat}(d:Room k X.A):P5 X "list.count" (E5 X.K):=KF (by have:=d.un;lia)
def XO(c:ET)(t:AT):ET:=λh Q=>c h λd=>∃f,d=.list f/\t h λi=>∃x:D,i=[x]/\Ju f x/\Q (.int ((f.countP λt=>cE t x:Nat):Int))
def O6(z:jG X n c)(y:wH X (e::C) t)
  (F:∀{v g},PE X n v->PA X (e::C) g->PE X (.Call (.Attribute n "count" ap) (e::C) [] pos) (U3 X.K "list" (E5 X.K) v g)):jG X (.Call (.Attribute n "count" ap) (e::C) [] pos) (XO c t):=by
 obtain⟨v,G,re⟩:=z;obtain⟨T,A,O⟩:=y;refine⟨_,F G A,λB j H l f s Q R o h k=>re B j H l f s _ _ o h λd x u m J i=>?_⟩;obtain⟨P,rfl,i⟩:=i
 cases J with
 |@list p xs _ hq rs=>
  refine⟨.inl ⟨Fx,_,L2.bR.seq cV hq⟩,O B j u l f s _ _ (o.grow m) i λS U w r L I=>?_⟩;obtain⟨d,rfl,hok,q⟩:=I
  cases L with
  |cons M N=>
   cases N;exact⟨_,P,d,Fx,(jN.list hq rs).same ((cX r).trans cV),M.same cV,hok,k _ _ w (m.trans r) (.int _) q⟩
def Mb(i:Nat)(c:ET):uF:=λh f=>∃a:Int,f[i]?=some (.val (.int a))/\c f λd=>∃b:Int,d=.int b/\h.nx (f.set i (.val (.int (a+b))))
def Z9{i:Nat}(h:jG X e c)(k:∀{v},PE X e v->PS X (.AugAssign (.Name x pos') .Add e pos) (Kh i v (Je λi j=>i+j))):zQ X (.AugAssign (.Name x pos') .Add e pos) (Mb i c):=by
 obtain⟨v,p,r⟩:=h;refine⟨_,k p,λB z H q n F G I o h f=>?_⟩;obtain⟨a,y,h⟩:=h;obtain⟨w,u,m⟩:=o.val i _ y;cases m;refine⟨_,u,r B z H q n F _ _ o h λd x t s A l=>?_⟩;obtain⟨b,rfl,l⟩:=l;cases A;exact⟨_,_,Fx,Fx,f.nx t q _ _ ((o.grow s).set (.int _)) (cX s) l⟩
def XV(c:ET):xQ:=λh Q=>c h λd=>∃f,d=.list f/\Q (!f.isEmpty)
def NQ(h:jG X e c)(pt:∀{t},PE X e t->PT X e (λf H Q=>t f H λx j=>∃k,Hu X.K x j k/\Q k j)):IW X e (XV c):=by
 obtain⟨v,p,r⟩:=h;refine⟨_,pt p,λB s H u i f Q A o h k=>r B s H u i f _ _ o h λd x m z y w=>?_⟩;obtain⟨l,rfl,q⟩:=w
 cases y with
 |@list p xs _ hq rs=>
  have n:=rs.length;refine⟨!xs.isEmpty,.inl ⟨xs,L2.bR.seq cV hq,Fx⟩,?_⟩
  have:(!xs.isEmpty)=(!l.isEmpty):=by
   cases xs<;>cases l<;>first | rfl | (simp at n)
  rw[this];exact k _ m z q
def N1(g E:FT):uF:=λf d=>g d λh=>E d λbs=>f.rp h bs
def GQ{g E}(J:JH X n g)(Z:JH X m E)(hs:cS [n,m] X.env=(false,eval n X.env)::cS [m] X.env:=by rfl)(N:cS [m] X.env=(false,eval m X.env)::cS [] X.env:=by rfl):zQ X (.Return (some (.Tuple [n,m] x1 p2)) pos) (N1 g E):=by
 obtain⟨va,pa,ra⟩:=J;obtain⟨vb,pb,rb⟩:=Z;refine⟨_,yD (RU (mO pa (mO pb oR N) hs)),λB s H t k S DT DV o h f=>?_⟩;refine ra B s H t k S _ _ o h λW p U v x T w rs q1=>?_
 have o1:Ok X.K B s v (p::t) k S:=by
  have o2:=o.grow (rO x T);have J:without v p p=none:=by unfold without;rw[b8 rfl]
  have o3:=o2.adopt (u:=.lst U) J
  rwa [zA w]at o3
 refine rb B s v (p::t) k S _ _ o1 q1 λbs q ys A y M O R q2=>?_;refine⟨aI Fx,λr l=>?_⟩;have j:=y _ _ w;have L:p≠q:=λz=>by rw[z,M]at w;cases w
 have P:p≠r:=λz=>by rw[z,l]at j;cases j
 have Q:q≠r:=λz=>by rw[z,l]at O;cases O
 have Y:∀{z:Addr},H z=none->B z=none:=λhz=>bR.free' o.base hz;have live:∀z∈s,GA (H z):=λz hz=>o.live z (o.sub z hz)
 have m1:bR (mask v (p::t)) (mask (iA A r (.tup [.ref p,.ref q])) (p::q::s)):=λb u i=>by
  unfold mask at i |-
  by_cases d:b∈p::t
  ·rw[b8 d]at i;cases i
  ·rw[a9 d]at i;have F:=y _ _ i;have I:b≠r:=λz=>by rw[z,l]at F;cases F
   have G:b≠q:=λz=>by rw[z,M]at i;cases i
   rw[a9,dD I]
   ·exact F
   ·intro z;rcases bA.mp z with z | z
    ·exact d (z▸aP ..)
    ·rcases bA.mp z with z | z
     ·exact G z
     ·exact d (aK _ (o.sub b z))
 have m2:bR (mask A (q::p::t)) (mask (iA A r (.tup [.ref p,.ref q])) (p::q::s)):=(cX (eU l)).trans (nE λz hz=>by
  rcases bA.mp hz with rfl | hz
  ·exact aK _ (aP ..)
  ·rcases bA.mp hz with rfl | hz
   ·exact aP ..
   ·exact aK _ (aK _ (o.sub z hz)))
 exact f.rp W bs r p q U ys _ (o.base.trans (x.trans (y.trans (eU l)))) (bR.free' (o.base.trans (x.trans y)) l) (Y T) (bR.free' (o.base.trans x) M) L dM (by rw[dD P];exact j) (by rw[dD Q];exact O) (rs.same m1) (R.same m2) q2
end
end TL
namespace TL
def Wd:f6 "sum"=some (.builtin "sum"):=by decide +kernel
open L2
section
variable{d:List (Option Nat)}{j:IT}{g:xQ}{i:ET}{c:List Sl}{Q:D->Prop}{ts:List D}
def S7(o:uH j c ts)(p:D->Bool)(f:D->D)(A:ts.length<=100000)(u:∀x∈ts,∃a b,x=.tuple [a,b])
  (v:∀(a b:D)(q:Bool->Prop),.tuple [a,b]∈ts->q (p (.tuple [a,b]))->g (((kW d c).set 0 (.val a)).set 1 (.val b)) q)
  (z:∀(a b:D)(q:D->Prop),.tuple [a,b]∈ts->q (f (.tuple [a,b]))->i (((kW d c).set 0 (.val a)).set 1 (.val b)) q) (w:Q (.list ((ts.filter p).map f))):P4 d j (gP 0 1) g i c Q:=by
 refine o _ ⟨A,λk l m=>(∀x y,(l.set 0 (.val x)).set 1 (.val y)=((kW d c).set 0 (.val x)).set 1 (.val y))/\m=((ts.take k).filter p).map f,⟨λ_ _=>rfl,Fx⟩,λk x l m s h=>?_,λl m h=>?_⟩
 ·obtain⟨t,rfl⟩:=h;have n:x∈ts:=aR s;obtain⟨a,b,rfl⟩:=u x n;refine⟨a,b,Fx,?_⟩;show g ((l.set 0 (.val a)).set 1 (.val b)) _;rw[t a b];refine v a b _ n ?_;have e:ts.take (k+1)=ts.take k++[.tuple [a,b]]:=by rw[bS,s];rfl
  cases r:p (.tuple [a,b])with
  |true=>
   rw[b8 rfl];refine z a b _ n ⟨λx y=>yA _ _ _ _ _,?_⟩;rw[e,gY,bK];simp[r]
  |false=>
   rw[a9 Ft];refine⟨λx y=>yA _ _ _ _ _,?_⟩;rw[e,gY,bK];simp[r]
 ·obtain⟨_,rfl⟩:=h;rw[cU];exact w
end
open PySem.Builtin PySem.Builtin.Str PySem.StrLaws
def DO(x:Str)(c i:Nat):subAt x ⟨#[c]⟩ i=(x.cps.toList[i]?==some c):=by
 rw[subAt_eq];show(((x.cps.toList.drop i).take 1)==[c])=_
 cases h:x.cps.toList[i]? with
 |none=>
  have:x.cps.toList.drop i=[]:=sX (qP.mp h);rw[this];rfl
 |some a=>
  have b:=(aC.mp h).1
  have e:x.cps.toList.drop i=a::x.cps.toList.drop (i+1):=by
   rw[fC b];congr 1;exact(aC.mp h).2
  rw[e];show(a::List.take 0 _==[c])=(some a==some c);simp
theorem yJ(x:Str)(c b:Nat):∀(n a:Nat)(st:Array Nat×Nat),st.snd<=a->st.fst.size<=a->a+n<=b ->
 (ii (CQ a n) st (occBody x ⟨#[c]⟩ x.length b)).run.fst.size=st.fst.size+(CQ a n).countP λi=>x.cps.toList[i]?==some c
|0,_,_,_,_,_=>rfl
|n+1,a,st,h1,h2,h3=>by
 rw[VD,pH,A0];unfold occBody;by_cases d:((st.fst.size<b/\st.snd<=a)/\a+(⟨#[c]⟩:Str).length<=x.length)/\subAt x ⟨#[c]⟩ a=true
 ·rw[b8 d];have f:=yJ x c b n (a+1) (st.fst.push a,a+(⟨#[c]⟩:Str).length) (aM _) (by rw[sY];lia) Fu;have e:=d.2;rw[DO]at e;rw[b8 e];refine f.trans ?_;rw[sY];lia
 ·rw[a9 d];have f:=yJ x c b n (a+1) (st.fst,st.snd) (by show st.snd<=a+1;lia) (by show st.fst.size<=a+1;lia) Fu
  have e:¬((x.cps.toList[a]?==some c)=true):=λq=>d ⟨⟨⟨Fu,h1⟩,by
   have:x.cps.toList[a]?=some c:=by simpa using q
   have g:=(aC.mp this).1;have:x.cps.toList.length=x.length:=by simp[t8]
   show a+1<=x.length;lia⟩,by rw[DO];exact q⟩
  rw[a9 e];exact f
theorem zO(c:Nat):∀L:List Nat,(eW L.length).countP (λi=>L[i]?==some c)=L.count c
|[]=>rfl
|a::L=>by
 rw[bX,JK,A0,uL,X6,<- zO c L];have b:((λi=>(a::L)[i]?==some c)∘Nat.succ)=λi=>L[i]?==some c:=by funext i;rfl
 rw[b];congr 1
def MD(x:Str)(c:Nat):(occurrences x ⟨#[c]⟩ 0 x.length (x.length+1)).length=x.cps.toList.count c:=by
 rw[occ_eq,dZ];have h:=yJ x c (x.length+1) (x.length+1-0) 0 (#[],0) (aM _) (aM _) Fu;rw[h];have a:x.cps.toList.length=x.length:=by simp[t8]
 show 0+_=_;rw[oB,pY,<- List.range_eq_range',lO,List.countP_append,<- a,zO]
 have:([x.cps.toList.length].countP λi=>x.cps.toList[i]?==some c)=0:=by
  rw[List.countP_singleton,eD (aM _)];rfl
 rw[this];rfl
noncomputable def jn(c:Nat):List (List Nat)->List Nat
|[]=>[]
|[p]=>p
|p::q::r=>p++c::jn c (q::r)
theorem AQ(c:Nat):∀b:List Str,(gq ⟨#[c]⟩ b).cps.toList=jn c (b.map (·.cps.toList))
|[]=>rfl
|[p]=>rfl
|p::q::r=>by
 have d:=AQ c (q::r);show(p++⟨#[c]⟩++gq ⟨#[c]⟩ (q::r)).cps.toList=_
 have a:∀x y:Str,(x++y).cps.toList=x.cps.toList++y.cps.toList:=λx y=>by
  show(x.cps++y.cps).toList=_;simp
 rw[a,a,d,eF]
 rfl
theorem HX(c:Nat):∀(p:List Nat)(r:List (List Nat)),(jn c (p::r)).count c=r.length+((p::r).map (QF c)).sum
|p,[]=>by show p.count c=0+(p.count c+0);lia
|p,q::r=>by
 have a:=HX c q r;show(p++c::jn c (q::r)).count c=_;rw[zU,List.count_cons_self,a];simp only[bX,aZ,eR];lia
theorem TR(c:Nat):∀(p w:List Nat)(r s:List (List Nat)),(∀l∈p::r,c∉l)->(∀l∈w::s,c∉l)->jn c (p::r)=jn c (w::s)->p::r=w::s
|p,w,[],[],_,_,h=>by
 have:p=w:=h;rw[this]
|p,w,[],q::s,h1,_,h=>by
 have e:p=w++c::jn c (q::s):=h;exact c8 (by rw[e];simp) (h1 p (aP ..))
|p,w,q::r,[],_,h2,h=>by
 have e:p++c::jn c (q::r)=w:=h;exact c8 (by rw[<- e];simp) (h2 w (aP ..))
|p,w,q::r,t::s,h1,h2,h=>by
 have e:p++c::jn c (q::r)=w++c::jn c (t::s):=h;have d:=h1 p (aP ..);have hw:=h2 w (aP ..)
 have k:∀(p w a b:List Nat),c∉p->c∉w->p++c::a=w++c::b->p=w/\a=b:=λp=>by
  induction p with
  |nil=>
   intro w a b _ hw e
   cases w with
   |nil=>exact⟨Fx,(o6 e).2⟩
   |cons y w=>exact c8 (by rw[(o6 e).1];exact aP ..) hw
  |cons x p j=>
   intro w a b d hw e
   cases w with
   |nil=>exact c8 (by rw[<- (o6 e).1];exact aP ..) d
   |cons y w=>
    obtain⟨f,g⟩:=o6 e;obtain⟨m,n⟩:=j w a b (λz=>d (aK _ z)) (λz=>hw (aK _ z)) g;exact⟨by rw[f,m],n⟩
 obtain⟨f,g⟩:=k p w _ _ d hw e;have j:=TR c q t r s (λl i=>h1 l (aK _ i)) (λl i=>h2 l (aK _ i)) g;rw[f,j]
def JX(c:Nat)(E:c<256)(w:Str)(e:List Str)(h:∀x∈w::e,c∉x.cps.toList):Txt.split (Txt.join ⟨#[c]⟩ (w::e)) ⟨#[c]⟩=w::e:=by
 have ext:∀{x y:Str},x.cps.toList=y.cps.toList->x=y:=λ{x y} h=>by
  cases x with
  |mk a=>
   cases y with
   |mk b=>
    have:a=b:=by simpa using g5 aC5 h
    rw[this]
 have inj:∀{j g:List Str},j.map (·.cps.toList)=g.map (·.cps.toList)->j=g:=λ{j}=>by
  induction j with
  |nil=>intro g h;cases g with | nil=>rfl | cons _ _=>cases h
  |cons x j A=>
   intro g h
   cases g with
   |nil=>cases h
   |cons y g=>
    rw[aZ,aZ]at h;obtain⟨k,p⟩:=o6 h;rw[ext k,A p]
 generalize G:Txt.join ⟨#[c]⟩ (w::e)=x
 have z:x.cps.toList=jn c ((w::e).map (·.cps.toList)):=by
  rw[<- G];show(glued _ _).cps.toList=_;rw[glued_eq_join,AQ]
 have u:∀l∈(w::e).map (·.cps.toList),c∉l:=λl s=>by
  obtain⟨y,H,rfl⟩:=aU.mp s;exact h y H
 -- any list of parts that glues to x and has as many as there are cs and one
 have fin:∀(q:Str)(qs:List Str),glued ⟨#[c]⟩ (q::qs)=x->qs.length=x.cps.toList.count c->q::qs=w::e:=λq qs o hn=>by
  have i:x.cps.toList=jn c ((q::qs).map (·.cps.toList)):=by rw[<- o,glued_eq_join,AQ]
  have r:=HX c q.cps.toList (qs.map (·.cps.toList));rw[<- aZ (f:=λy:Str=>y.cps.toList),<- i,aB,hn]at r;have I:(((q::qs).map (·.cps.toList)).map (QF c)).sum=0:=by lia
  have v:∀l∈(q::qs).map (·.cps.toList),c∉l:=λl s F=>by
   have k:l.count c∈((q::qs).map (·.cps.toList)).map (QF c):=aU.mpr ⟨l,s,Fx⟩
   have p:∀(ns:List Nat),ns.sum=0->∀n∈ns,n=0:=λns=>by
    induction ns with
    |nil=>intro _ n hn;simp at hn
    |cons m ns A=>
     intro hs n hn;rw[eR]at hs;rcases bA.mp hn with rfl | hn
     ·lia
     ·exact A Fu n hn
   have:=p _ I _ k;have:=QE.mpr F;lia
  refine inj ?_;rw[aZ,aZ];refine TR c _ _ _ _ v u ?_;rw[<- aZ (f:=λy:Str=>y.cps.toList),<- aZ (f:=λy:Str=>y.cps.toList),<- i,<- z]
 have t:x.cps.toList.length=x.length:=by simp[t8]
 unfold Txt.split;split
 ·next ue=>
  have hk:l9 ⟨#[c]⟩=1:=by
   unfold l9;rw[b8 (by simp[E])]
  rw[hk,gT,i0,i0]at ue
  have k:1<=l9 x:=by
   unfold l9;split
   ·lia
   ·split<;>lia
  have C:x.length=0:=by
   rcases ue with q | q
   ·have J:x.length<1:=q;lia
   ·lia
  refine fin x [] Fx ?_;have:x.cps.toList=[]:=nN.mp (by rw[t];exact C);rw[this];rfl
 ·split
  ·next hem=>
   refine fin x [] Fx ?_;rw[<- MD];have:occurrences x ⟨#[c]⟩ 0 x.length (x.length+1)=[]:=by simpa using hem
   rw[this]
   rfl
  ·have d:=rn x (occurrences x ⟨#[c]⟩ 0 x.length (x.length+1)) (⟨#[c]⟩:Str).length;have o:=glued_between_self x ⟨#[c]⟩ (x.length+1)
   cases B:partsBetween x (occurrences x ⟨#[c]⟩ 0 x.length (x.length+1)) (⟨#[c]⟩:Str).length with
   |nil=>rw[B]at d;cases d
   |cons q qs=>
    rw[B]at d o;refine fin q qs o ?_;rw[<- MD];rw[bX]at d;lia
end TL
namespace L2
open PySem.Builtin.Str
section
variable{X:Cx}
theorem DH:∀(l:List (Str×Tok)),gO ((l.map (·.1)).map V.str) (strValues l)
|[]=>.nil
|p::l=>.cons ⟨p.2,Fx⟩ (DH l)
def RD:V->List V->Hp->VK->Prop:=λx a H Q=>∃z y,x=.str z/\a=[.str y]/\(y.length==0)=false/\z.length<=100000/\∀p,H p=none->Q (.ref p) (iA H p (.lst ((Txt.split z y).map V.str)))
def SW:P5 X "str.split" RD:=by
 intro a s j H x E v C Q I w r h;obtain⟨z,y,rfl,rfl,i,B,q⟩:=h;obtain⟨t,rfl⟩:=w;obtain⟨u,rfl,p⟩:=oG r;obtain⟨f,rfl⟩:=p;have A:bO=2^24:=rfl
 have fin:∀(l:List (Str×Tok))(k:Nat),l.map (·.1)=Txt.split z y->l.length<=bO->EP X a j Q (.ref s.heap.objs.size) { s with toks:=k,heap:=s.heap.push { cls:=.type "list",data:=.seq (strValues l).toArray } }:=λl k m n=>by
  have d:H s.heap.objs.size=none:=I.hok.fresh (aM _);refine⟨.ref s.heap.objs.size,iA H s.heap.objs.size (.lst ((Txt.split z y).map V.str)),I.laid (t':=k) (λb u e=>aH _ e) (aM _) ?_,Fx,q _ d⟩;rw[<- m];exact⟨by rw[aB,aB];exact n,strValues l,0,DH l,aY _ Fx⟩
 have g:=StrLaws.occ_length_le z y 0 z.length (z.length+1);have o:=rn z (occurrences z y 0 z.length (z.length+1)) y.length;cases c:(decide (z.length<y.length)||decide (strKind z<strKind y))
 ·cases d:(occurrences z y 0 z.length (z.length+1)).isEmpty
  ·refine u7 dh (bg _ _ _) cz (cn _ _) (meets_str_split_sep z y t f c i d Fu Fu) ?_;show EP X a j Q _ { s with toks:=_,heap:=s.heap.push { cls:=.type "list",data:=.seq (strsFrom s.toks (partsBetween z (occurrences z y 0 z.length (z.length+1)) y.length)).toArray } };rw[strsFrom_eq];refine fin (numbered s.toks _) _ ((numbered_texts _ _).trans ((a9 (dn c)).trans (a9 (dn d))).symm) ?_;have:=g5 hX (numbered_texts s.toks (partsBetween z (occurrences z y 0 z.length (z.length+1)) y.length));rw[aB]at this;lia
  ·exact u7 dh (bg _ _ _) cz (cn _ _) (meets_str_split_not_found z y t f c i d) (fin [(z,t)] _ ((a9 (dn c)).trans (b8 d)).symm (by show 1<=bO;decide))
 ·exact u7 dh (bg _ _ _) cz (cn _ _) (meets_str_split_cannot_occur z y t f c) (fin [(z,t)] _ (b8 c).symm (by show 1<=bO;decide))
def RF(K:aQ):V->List V->Hp->VK->Prop:=λx b H Q=>∃z p a,x=.str z/\b=[.ref p]/\pG K H p (a.map V.str)/\(a.map (·.length)).sum+a.length*z.length<=16777216/\Q (.str (Txt.join z a)) H
def SX:P5 X "str.join" (RF X.K):=by
 intro a s o H x m v l Q I i r h;obtain⟨z,p,n,rfl,rfl,b,c,q⟩:=h;obtain⟨t,rfl⟩:=i;obtain⟨u,rfl,f⟩:=oG r;cases f;obtain⟨d,g,e,_⟩:=I.tuple b;exact PyProof.Rows.join_tuple e (by simpa using AJ g) c λj k=>⟨.str _,H,I.tok k,⟨j,Fx⟩,q⟩
end
end L2
namespace TL
open L2
section
variable{X:Cx}{e:Expr}{a:List Expr}{b c:ET}{pos:Pos}
def zD:zQ X s (λ_ _=>False):=⟨λ_ _ _=>False,λ_ _ _ _ _ _ h=>h.elim,λ_ _ _ _ _ _ _ _ _ h _=>h.elim⟩
def Wq(z:Str)(d:List D)(Q:D->Prop):Prop:=match d with | [.str y]=>(y.length==0)=false/\z.length<=100000/\Q (.list ((Txt.split z y).map aO)) | _=>False
def T9(E:jG X n c)(C:wH X (e::a) t)
  (J:∀{v b},PE X n v->PA X (e::a) b->PE X (.Call (.Attribute n "split" ap) (e::a) [] pos) (U3 X.K "str" RD v b)):jG X (.Call (.Attribute n "split" ap) (e::a) [] pos) (IK Wq c t):=by
 obtain⟨v,L,re⟩:=E;obtain⟨U,I,P⟩:=C;refine⟨_,J L I,λB m H r f w Q S o h k=>re B m H r f w _ _ o h λd x A j M i=>?_⟩;obtain⟨z,rfl,i⟩:=i;cases M;refine⟨Fx,P B m A r f w _ _ (o.grow j) i λT W R u N g=>?_⟩
 cases N with
 |nil=>exact g.elim
 |cons s O=>
  cases O with
  |cons _ _=>cases s<;>exact g.elim
  |nil=>
   cases s with
   |str y=>
    obtain⟨F,G,q⟩:=g;refine⟨z,y,Fx,Fx,F,G,λp l=>?_⟩;exact k _ _ _ (j.trans (u.trans (eU l))) (rT ((o.grow j).grow u).live l (vP _)) q
   |_=>exact g.elim
def Wp(z:Str)(f:List D)(Q:D->Prop):Prop:=match f with | [.tuple ts]=>∃d:List Str,ts=d.map aO/\(d.map (·.length)).sum+d.length*z.length<=16777216/\Q (.str (Txt.join z d)) | _=>False
def UB(g:jG X n c)(f:wH X (e::a) t)
  (j:∀{v b},PE X n v->PA X (e::a) b->PE X (.Call (.Attribute n "join" ap) (e::a) [] pos) (U3 X.K "str" (RF X.K) v b)):jG X (.Call (.Attribute n "join" ap) (e::a) [] pos) (IK Wp c t):=
 DX g f (λH u z p w Q o r h k=>by
  cases r with
  |nil=>exact h.elim
  |cons d l=>
   cases l with
   |cons _ _=>cases d<;>exact h.elim
   |nil=>
    cases d with
    |tuple q s=>
     obtain⟨m,rfl,i,h⟩:=h;have e:=uO s;subst e;exact⟨z,_,m,Fx,Fx,bR.seqT cV q,i,k _ _ H (L2.bR.refl H) (.str _) h⟩
    |_=>exact h.elim) j
end
section
def PL:f6 "sorted"=some (.builtin "sorted"):=by decide +kernel
end
section
def XG{K}{mg:Str->Option Value}{k:Nat}{f:Addr}{pn}{d b:GH}(F:dP P w K mg base gQ k f fd pn (gX K d))(h:∀a Q,b a Q->d a Q):dP P w K mg base gQ k f fd pn (gX K b):=
 F.imp λvs H Q E ⟨l,a,c,e,g,i,j⟩=>⟨l,a,c,e,g,h a c i,j⟩
end
end TL
namespace L2
open PyProof
def O7{A:f9}(hh:A.handled=none)(it l:Addr)(gu:l≠it)(items:Array Value) :
  Draws prog w A it [it,l] items.size (λi v=>items[i]?=some v) (λi h=>h.IsTupleIter it l i/\h.IsTuple l items) where
 live:=λ_ _ st=>let ⟨o,ho,_⟩:=st.1;⟨o,ho⟩
 frame:=λ_ _ _ st hk=>⟨st.1.at λo e=>hk it Fv o e,st.2.at λo e=>hk l Fv o e⟩
 item:=λi s Q E hi st hQ=>by
  refine BO st.1 st.2 (x:=items[i]) (by simp[hi]) λh' sq vh=>?_;exact hQ _ h' s.toks (by simp[hi]) ⟨sq,st.2.at λo e=>vh.extBut _ _ gu e⟩ vh
 done:=λs Q E st hE=>pM hh st.1 st.2 Fv hE
def K2{A:f9}(hh:A.handled=none)(it l:Addr){items:Array Value}{n:Nat}(hn:items.size<=n) :
  Draws prog w A it [it,l] n (λ_ _=>True) (λi h=>h.IsTupleIter it l i/\h.IsTuple l items/\i=n) where
 live:=λ_ _ st=>let ⟨o,ho,_⟩:=st.1;⟨o,ho⟩
 frame:=λ_ _ _ st hk=>⟨st.1.at λo e=>hk it Fv o e,st.2.1.at λo e=>hk l Fv o e,st.2.2⟩
 item:=λi s Q E hi st hQ=>c8 st.2.2 Fu
 done:=λs Q E st hE=>pM hh st.1 st.2.1 (fM hn) hE
def B6(l:Addr)(a:Array Value) :
  Meets (u2.«enumerate.__new__» ⟨[.type "enumerate",.ref l],[]⟩) (λ_ R s=>s.heap.IsTuple l a /\
   R (.ok (.ret (.ref (s.heap.push { cls:=.type "tuple_iterator",data:=.fields #[.ref l,.int 0 0] }).objs.size)))
    { s with heap:=(s.heap.push { cls:=.type "tuple_iterator",data:=.fields #[.ref l,.int 0 0] }).push { cls:=.type "enumerate",data:=.fields #[.none,.bool false,.ref s.heap.objs.size,j1 0,.none,.none] } }):=
 .of_wp λprog w A R s h=>by
  obtain⟨i,g,d,j,os⟩:=s;obtain⟨f,h⟩:=h;have e:=sub_enumerate;have b:zW (cr ⟨i,g,d,j,os⟩) l a:=f
  wp_walk
  refine wpAny_stack_any λst=>aL ?_;split
  ·rename_i c _ _ _ _ _;cases (c==j5 "enumerate")
   ·wp_walk using n7 b
    exact⟨_,Fx,h⟩
   ·wp_walk using n7 b
    exact⟨_,Fx,h⟩
  ·wp_walk using n7 b
   exact⟨_,Fx,h⟩
section
variable{P:cH}{w:d7}{A:f9}{E:Value->Shared->Prop}{s:Shared}
def AB{l:Addr}{Q:Value->Shared->Prop}(e:s.heap.IsTuple l items)
  (h:∀a,fo a (s.heap.objs.size+1) s.heap.objs.size 0 .none->a.IsTupleIter s.heap.objs.size l 0->a.objs.size=s.heap.objs.size+2 ->
   (∀b o,s.heap.get? b=some o->a.get? b=some o)->Q (.ref (s.heap.objs.size+1)) { s with heap:=a }) :
  wpAny (model P w) A (call (.type "enumerate") [.ref l]) Q E s:=by
 refine il je Ft (gn _) (ic _) (λobj=>ik obj _) ia
  (B6 l items) ⟨e,?_⟩
 have c:(s.heap.push { cls:=.type "tuple_iterator",data:=.fields #[.ref l,.int 0 0] }).objs.size=s.heap.objs.size+1:=dX ..;show _/\_;rw[c]
 have d:fo ((s.heap.push { cls:=.type "tuple_iterator",data:=.fields #[.ref l,.int 0 0] }).push
   { cls:=.type "enumerate",data:=.fields #[.none,.bool false,.ref s.heap.objs.size,j1 0,.none,.none] }) (s.heap.objs.size+1) s.heap.objs.size 0 .none:=by
  have:=aY (s.heap.push { cls:=.type "tuple_iterator",data:=.fields #[.ref l,.int 0 0] })
   (o:={ cls:=.type "enumerate",data:=.fields #[.none,.bool false,.ref s.heap.objs.size,j1 0,.none,.none] }) Fx
  rw[c]at this;exact this
 exact⟨⟨_,d,Fx⟩,h _ d ⟨_,aH _ (aY _ Fx),Fx,Fx⟩ (by rw[dX,c]) λb o x=>aH _ (aH _ x)⟩
end
noncomputable def Jk(K:aQ)(a:Addr):It:=
 ⟨λi H=>∃b x,pG K H a b/\b[i]?=some x,
  λi H v c=>∃p x,H p=none/\v=.ref p/\c=iA H p (.tup [.int (i:Int),x])/\∀b,pG K H a b->b[i]?=some x,
  λi H=>∃b,pG K H a b/\b.length<=i⟩
def JT{K}{x1:Nat}{e it l:Addr}(ua:e≠it) :
  CK P w K (.Tuple z8 x1 pos) (Jk K l) [e,it] e (λi h=>(∃old,fo h e it (i:Int) old)/\h.IsTupleIter it l i) where
 mem:=by simp
 obj:=λi h st b hb=>by
  obtain⟨⟨old,he⟩,ev⟩:=st;simp only[bA,dG,i8]at hb;rcases hb with rfl | rfl
  ·exact⟨_,he,λv q=>by cases q⟩
  ·obtain⟨o,e,c,d⟩:=ev;exact⟨o,e,λv z=>by rw[d]at z;cases z⟩
 keep:=λi h h' st k=>by
  obtain⟨⟨old,he⟩,ev⟩:=st;exact⟨⟨old,k e Fv _ he⟩,ev.at λo x=>k it Fv o x⟩
 item:=by
  intro X hP hw hK hc i pins s σ H E I hf st hg;subst hP hw hK;obtain⟨⟨old,he⟩,ev⟩:=st;obtain⟨xs,x,hq,hx⟩:=hg;obtain⟨ay,rv,p,hz⟩:=I.tuple hq;obtain⟨u,hu,ru⟩:=rv.get hx
  have ye:l≠it:=λz=>by
   subst z;obtain⟨o1,e1,c1,_⟩:=ev;obtain⟨o2,e2,c2,_⟩:=(show s.heap.IsTuple l ay.toArray from p);rw[e1]at e2;cases e2;rw[c1]at c2;simp at c2
  have iq:e≠l:=λz=>by
   subst z;obtain⟨o2,e2,c2,_⟩:=(show s.heap.IsTuple e ay.toArray from p);have wp:=he;unfold fo at wp;rw[wp]at e2;cases e2;simp at c2
  have hsz:=(aC.mp hu).1;refine wpAny_pyNext_enum_itemD (O7 (A:=X.A.in1) (I.ok.hd hc) it l ye ay.toArray) he ⟨ev,p⟩ (by rw[bI];exact hsz) ua (by simp only[bA,dG,i8,ew];exact⟨ua,iq⟩) λu' h' tk Da a1 Ab a3 a4 a5=>⟨_,Fx,?_⟩
  obtain rfl:u'=u:=by
   have zz:ay[i]?=some u':=by simpa using Da
   rw[hu]at zz;exact(c7 zz).symm
  have a2:=Ab.1;refine gi (s:={ s with heap:=h',toks:=tk+1 }) a1 λh2 b1 sb=>?_;have ip:e<s.heap.objs.size:=bE he
  have kk:∀c o,c∉[e,it]->s.heap.get? c=some o->h2.get? c=some o:=λc o u8 x=>by
   simp only[bA,dG,i8,ew]at u8;exact sb.extBut _ _ u8.1 (a5 c o u8.1 u8.2 x)
  have hT:=sb.extBut _ _ (fA ip) a3;have I1:eL X pins σ (iA H s.heap.objs.size (.tup [.int (i:Int),x])) { s with heap:=h2,toks:=tk+1 }:=I.turnedNew (t':=tk+1) hf kk (aM _) ⟨(by show 2<=bO;decide),[.int i tk,u'],.cons ⟨_,Fx⟩ (.cons ru .nil),⟨_,hT,Fx,_,Fx,Fx⟩⟩;refine⟨.ref s.heap.objs.size,_,I1,Fx,⟨_,x,I.hok.fresh (aM _),Fx,Fx,λys hy=>by rw[I.tuple_inj hy hq];exact hx⟩,?_,λc u8=>?_⟩
  ·exact⟨⟨_,by rw[nB];exact b1⟩,a2.at λo x=>sb.extBut _ _ (j9 ua) x⟩
  ·have gu:c≠s.heap.objs.size:=by
    simp only[bA,dG,i8]at u8;rcases u8 with rfl | rfl
    ·exact bV ip
    ·obtain⟨o,z,_⟩:=ev;exact bV (bE z)
   rw[dD gu];exact(hf c u8).1
 done:=by
  intro X hP hw hK hc i pins s σ H E I hf st hg;subst hP hw hK;obtain⟨⟨old,he⟩,ev⟩:=st;obtain⟨xs,hq,hx⟩:=hg;obtain⟨ay,rv,p,hz⟩:=I.tuple hq;have hl:=rv.length;refine wpAny_pyNext_enum_endD (K2 (A:=X.A.in1) (I.ok.hd hc) it l (items:=ay.toArray) (n:=i) (by rw[bI];lia)) he ⟨ev,p,Fx⟩ λh' eb=>⟨Fx,I.turnedL (t':=s.toks) hf λc o u8 x=>?_⟩;simp only[bA,dG,i8,ew]at u8;exact eb c o u8.2 x
 self:=λA i s Q E st h=>by
  obtain⟨⟨old,he⟩,_⟩:=st;exact au he h
def MR(K:aQ)(b:TA):TI:=λd H R=>b d H λvs a=>∃l c,vs=[.ref l]/\pG K a l c/\R (Jk K l) a
section
variable{X:Cx}
def RS{F:Nat}(t:Gl X "enumerate")(u:X.mg "enumerate"=none)(o:PA X [a] ta)(hs:cS [a] X.env=[(false,eval a X.env)]:=by rfl) :
  PI X (.Tuple z8 F tpos) (.Call (.Name "enumerate" p) [a] [] pos) (MR X.K ta):=by
 intro d s J H R I h;refine Call_ (tT I t u uB (i4 (lK (o pos d s J H _ I h) λL b G=>?_) (by rw[hs];rfl) (by rfl)));obtain⟨vs,m,f,A,z⟩:=G;obtain⟨l,M,rfl,v,q⟩:=z
 cases A with
 |cons r B=>
  cases B;cases r;obtain⟨E,C,y,x⟩:=f.tuple v;refine AB y λn j g w hk=>au (s:={ b with heap:=n }) j ?_;refine⟨_,[b.heap.objs.size+1,b.heap.objs.size],_,_,m,Fx,f.kept (t':=b.toks) hk,JT (e:=b.heap.objs.size+1) (it:=b.heap.objs.size) (l:=l) (X2 _),⟨⟨_,j⟩,g⟩,λc i=>?_,q⟩;simp only[bA,dG,i8]at i;have k:b.heap.objs.size<=c:=by rcases i with rfl | rfl<;>first | exact aM _ | exact CP _ _
  exact f.fpOk k (f.hok.fresh k)
end
end L2
namespace TL
open L2
def W9(t:AT):IT:=λc Q=>t c λb=>∃a,b=[.tuple a]/\Q (tY a)
section
variable{X:Cx}{a e:Expr}{b:ET}
def TU{j:Nat}(s:wH X [a] t)(C:∀{b},PA X [a] b->PI X (.Tuple z8 j tpos) (.Call (.Name "enumerate" p) [a] [] p') (MR X.K b)):JG X (.Tuple z8 j tpos) (.Call (.Name "enumerate" p) [a] [] p') (W9 t):=by
 obtain⟨P,w,G⟩:=s;refine⟨_,C w,λB v H z f L Q R o h k=>G B v H z f L _ _ o h λO S l I d E=>?_⟩;obtain⟨N,rfl,q⟩:=E
 cases d with
 |cons d F=>
  cases F
  cases d with
  |@tuple p1 us _ fg rs1=>
   have n1:=rs1.length;refine⟨p1,us,Fx,bR.seqT cV fg,k _ _ l I ⟨λi H e c=>?_,λi H e c=>?_,λi H A y M live e c u=>?_⟩ q⟩
   ·rw[kX]at c;exact⟨us,bR.seqT e fg,Fu⟩
   ·rw[kX]at c;exact⟨us,us[i],bR.seqT e fg,aD Fu⟩
   ·obtain⟨p,x,g,rfl,rfl,r⟩:=u;obtain⟨m,n,J⟩:=rs1.get' (r us (bR.seqT (e.trans cV) fg));exact⟨eU g,.tuple [.int (i:Int),m],pF n,rS live g (.cons (.int _) (.cons (J.same e) .nil))⟩
end
end TL
namespace L2
noncomputable instance decD:DecidableEq l6:=λ_ _=>g7 _
mutual
def hk:l6->Bool
|.none=>true
|.int _=>true
|.str x=>(aO x).canLay0
|.tuple xs=>hkAll xs
|.bool _=>false
|.list _=>false
|.dict _=>false
def hkAll:List l6->Bool
|[]=>true
|x::xs=>hk x&&hkAll xs
end
mutual
def nG(w:d7):l6->Int
|.none=>0xFCA86420
|.int i=>hashInt i
|.str x=>hashStr w x
|.tuple xs=>su (g9 (hashDs w xs))
|.bool _=>0
|.list _=>0
|.dict _=>0
def hashDs(w:d7):List l6->List Int
|[]=>[]
|x::xs=>nG w x::hashDs w xs
end
mutual
def qK:l6->Nat
|.tuple xs=>hdrawsAll xs+1
|.none=>1
|.int _=>1
|.str _=>1
|.bool _=>1
|.list _=>1
|.dict _=>1
def hdrawsAll:List l6->Nat
|[]=>0
|x::xs=>qK x+hdrawsAll xs
end
section
variable{prog:cH}{w:d7}{A:f9}{E:Value->Shared->Prop}{s:Shared}
def J1{Q:Int->Shared->Prop}(h:Q 0xFCA86420 { s with toks:=s.toks+1 }):wpAny (model prog w) A (pyHash .none) Q E s:=by
 have a:s.TypeIs .none "NoneType":=rfl;unfold pyHash pyHashByItsType;refine aE (wpAny_cRoomFor_byValue Fx ?_);refine aE (u5 a lV.lookup ?_);show wpAny _ _ (if(some (Value.builtin "NoneType.__hash__")==some e9)=true then _ else _) Q E s;rw[a9 (by rw[beq_builtin_none];exact bQ)];refine aE (u5 a lV.lookup ?_);show wpAny _ _ (eu .none "__hash__" _ >>= _) Q E s;refine aE (bw a lV (eX lV a PySem.F.entry_NoneType_hash (show wpAny _ _ (do ret (<- mkInt 0xFCA86420)) _ _ s from wpAny_ret_mkInt ?_) (PySem.F.args_NoneType_hash_1 _)));show wpAny _ _ (if(decide (-(2:Int)^63<=0xFCA86420)&&decide ((0xFCA86420:Int)<2^63))=true then _ else _) Q E _;rw[b8 Ft];exact aL h
def yY(prog:cH)(w:d7)(A:f9)(s:Shared)(d:l6)(v:Value):Prop:=∀(a:Nat)E(Q:Int->Shared->Prop),Q (nG w d) { s with toks:=a+qK d }->wpAny (model prog w) A (pyHash v) Q E { s with toks:=a }
def T1{a:Addr}{o:Obj}{g:Array Value}{n:Nat}(C:A.units<w6)(t:s.heap.get? a=some o)(z:o.cls=.type "tuple")(hd:o.data=.seq g n)(B:Paired (yY prog w A.in1 s) xs g.toList):yY prog w A s (.tuple xs) (.ref a):=by
 intro j E Q h;have k:m5 { s with toks:=j } (.ref a) "tuple":=⟨o,t,z⟩;unfold pyHash
 first | unfold pyHashByItsType | skip
 refine aE (wpAny_cRoomFor_or (.inr C) ?_);refine aE (u5 k mX.lookup ?_);show wpAny _ _ (if(some (Value.builtin "tuple.__hash__")==some e9)=true then _ else _) Q E _;rw[a9 (by rw[beq_builtin_none];exact bQ)];refine aE (u5 k mX.lookup ?_);show wpAny _ _ (eu (.ref a) "__hash__" _ >>= _) Q E _;refine aE (bw k mX (eX mX k PySem.F.entry_tuple_hash ?_ (PySem.F.args_tuple_hash_1 _)));show wpAny _ _ (v1 (.ref a) >>= _) _ _ _;refine aE (wpAny_tupleItemsOf t hd ?_);refine aE ?_;rw[<- pZ];refine eh _ (λjX (b:Array Int) r=>∃done left:List l6,xs=done++left/\Paired (yY prog w A.in1 s) left jX/\b.toList=hashDs w done/\r={ s with toks:=j+hdrawsAll done }) _ ?_ ?_ _ _ ⟨[],xs,Fx,B,Fx,Fx⟩
 ·rintro x jX b r ⟨done,left,rfl,p,m,rfl⟩
  cases p with
  |@cons d _ left' _ h1 hl'=>
   have u:∀f:List l6,hashDs w (f++[d])=hashDs w f++[nG w d]:=λf=>by
    induction f with
    |nil=>rfl
    |cons y f q=>show nG w y::hashDs w (f++[d])=_;rw[q];rfl
   have v:∀f:List l6,hdrawsAll (f++[d])=hdrawsAll f+qK d:=λf=>by
    induction f with
    |nil=>show qK d+0=0+qK d;lia
    |cons y f q=>show qK y+hdrawsAll (f++[d])=qK y+hdrawsAll f+qK d;rw[q];lia
   have fin:∃c e:List l6,done++d::left'=c++e/\Paired (yY prog w A.in1 s) e jX/\(b.push (nG w d)).toList=hashDs w c/\({ s with toks:=j+hdrawsAll done+qK d }:Shared)={ s with toks:=j+hdrawsAll c }:=
    ⟨done++[d],left',Fv,hl',by rw[u,QG,m],by rw[v,JE]⟩
   refine aE (h1 _ _ _ ?_)
   first
    |exact aL fin
    |exact aE (aL (aL fin))
 ·rintro b r ⟨done,left,rfl,p,m,rfl⟩;cases p;rw[dU]at h;show wpAny _ _ (retInt (g9 b.toList)) _ _ _;rw[m];refine wpAny_ret_mkInt ?_;have i:Q (su (g9 (hashDs w done))) { s with toks:=j+(hdrawsAll done+1) }:=h;show wpAny _ _ (if(decide (-(2:Int)^63<=g9 (hashDs w done))&&decide (g9 (hashDs w done)<2^63))=true then _ else _) Q E _;unfold su at i;by_cases l:(decide (-(2:Int)^63<=g9 (hashDs w done))&&decide (g9 (hashDs w done)<2^63))=true
  ·rw[b8 l];rw[b8 l]at i;exact aL (by simpa[JE]using i)
  ·rw[a9 l];rw[a9 l]at i;exact aE (l7 (aL (by simpa[JE]using i)))
mutual
theorem B0(prog:cH)(w:d7)(s:Shared):∀(d:l6)(A:f9)(v:Value)as,Reads s.heap v d as->hk d=true->A.units+d.depth<w6->yY prog w A s d v
|.none,A,_,_,r,_,_=>by cases r;exactλa E Q h=>J1 h
|.int i,A,_,_,r,_,_=>by cases r;exactλa E Q h=>wpAny_pyHash_int h
|.str x,A,_,_,r,_,_=>by cases r;exactλa E Q h=>wpAny_pyHash_str h
|.tuple xs,A,_,_,r,h,hu=>by
 cases r with
 |tuple b c e f=>
  have g:A.units+(dR xs+1)<w6:=hu;exact T1 Fu b c e (hash_readsAll prog w s xs A.in1 _ _ f h (by show A.units+1+_<_;lia))
|.bool _,_,_,_,_,h,_=>by cases h
|.list _,_,_,_,_,h,_=>by cases h
|.dict _,_,_,_,_,h,_=>by cases h
theorem hash_readsAll(prog:cH)(w:d7)(s:Shared):∀(a:List l6)(A:f9)(vs:List Value)as,ReadsAll s.heap vs a as->hkAll a=true->A.units+dR a<w6->Paired (yY prog w A s) a vs
|[],A,_,_,r,_,_=>by cases r;exact .nil
|x::a,A,_,_,r,h,hu=>by
 cases r with
 |cons d e=>
  have b:(hk x&&hkAll a)=true:=h;rw[cL]at b;have c:A.units+max x.depth (dR a)<w6:=hu;exact .cons (B0 prog w s x A _ _ d b.1 Fu) (hash_readsAll prog w s a A _ _ e b.2 Fu)
end
mutual
theorem yO:∀{d:l6},hk d=true->d.canLay0=true
|.none,_=>rfl
|.int _,_=>rfl
|.str _,h=>h
|.tuple _,h=>hk_layAll h
|.bool _,h=>by cases h
|.list _,h=>by cases h
|.dict _,h=>by cases h
theorem hk_layAll:∀{a:List l6},hkAll a=true->dW a=true
|[],_=>rfl
|x::a,h=>by
 have b:(hk x&&hkAll a)=true:=h;rw[cL]at b;show(x.canLay0&&dW a)=true;rw[yO b.1,hk_layAll b.2];rfl
end
mutual
theorem TW:∀{d e:l6},hk d=true->hk e=true->cE d e=true->d=e
|.none,.none,_,_,_=>rfl
|.none,.int _,_,_,h=>by cases h
|.none,.str _,_,_,h=>by cases h
|.none,.tuple _,_,_,h=>by cases h
|.int _,.none,_,_,h=>by cases h
|.int i,.int j,_,_,h=>by
 have a:decide (i=j)=true:=by simpa[cE]using h
 rw[c5 a]
|.int _,.str _,_,_,h=>by cases h
|.int _,.tuple _,_,_,h=>by cases h
|.str _,.none,_,_,h=>by cases h
|.str _,.int _,_,_,h=>by cases h
|.str x,.str y,_,_,h=>by
 have a:decide (x=y)=true:=by simpa[cE]using h
 rw[c5 a]
|.str _,.tuple _,_,_,h=>by cases h
|.tuple _,.none,_,_,h=>by cases h
|.tuple _,.int _,_,_,h=>by cases h
|.tuple _,.str _,_,_,h=>by cases h
|.tuple xs,.tuple ys,h1,h2,h=>by
 have a:wF xs ys=true:=by simpa[cE]using h
 rw[hk_eqvAll h1 h2 a]
|.bool _,_,h,_,_=>by cases h
|.list _,_,h,_,_=>by cases h
|.dict _,_,h,_,_=>by cases h
|_,.bool _,_,h,_=>by cases h
|_,.list _,_,h,_=>by cases h
|_,.dict _,_,h,_=>by cases h
theorem hk_eqvAll:∀{a b:List l6},hkAll a=true->hkAll b=true->wF a b=true->a=b
|[],[],_,_,_=>rfl
|[],_::_,_,_,h=>by cases h
|_::_,[],_,_,h=>by cases h
|x::a,y::b,h1,h2,h=>by
 have c:(hk x&&hkAll a)=true:=h1;have a2:(hk y&&hkAll b)=true:=h2;rw[cL]at c a2;have d:(cE x y&&wF a b)=true:=by simpa[wF]using h
 rw[cL]at d;rw[TW c.1 a2.1 d.1,hk_eqvAll c.2 a2.2 d.2]
end
def OY{e}(a:hk d=true)(b:hk e=true):cE d e=decide (d=e):=by
 by_cases h:d=e
 ·subst h;rw[SeqAt.eqv_refl d (yO a),a8 rfl]
 ·rw[c6 h]
  cases q:cE d e with
  |false=>rfl
  |true=>exact c8 (TW a b q) h
mutual
theorem zH(prog:cH)(w:d7)(s:Shared):∀(d:l6)A E(v:Value)as(n:Nat)(Q:Bool->Shared->Prop),Reads s.heap v d as->hk d=true->d.depth<=n->Q true s->wpAny (model prog w) A (ig n v) Q E s
|.none,A,E,_,_,n,Q,r,_,_,q=>by cases r;rw[dk n rfl];exact aL q
|.int i,A,E,_,_,n,Q,r,_,_,q=>by cases r;rw[dk n rfl];exact aL q
|.str x,A,E,_,_,n,Q,r,_,_,q=>by cases r;rw[dk n rfl];exact aL q
|.tuple xs,A,E,_,_,0,Q,r,_,hn,q=>by
 have:dR xs+1<=0:=hn;lia
|.tuple xs,A,E,_,_,n+1,Q,r,h,hn,q=>by
 cases r with
 |@tuple a o vs m _ _ h1 h2 h3 h4=>
  have g:s.TypeIs (.ref a) "tuple":=⟨o,h1,h2⟩;have k:dR xs+1<=n+1:=hn;unfold ig;refine aE (u5 g PySem.F.slot_tuple_eq.lookup ?_);show wpAny _ _ (isInstance (.ref a) (.type "tuple") >>= _) _ _ s;refine aE (ba g isSubtype_tuple_tuple ?_);simp only[xV,eH,i5];refine aE (i9 h1 h3 ?_);refine aE ?_;show wpAny _ _ (ii vs _ _) _ _ s;rw[<- pZ];refine eh _ (λjX r f=>r.1=none/\f=s/\∀v∈jX,∀(Q:Bool->Shared->Prop),Q true s->wpAny (model prog w) A (ig n v) Q E s) _ ?_ ?_ _ _ ⟨Fx,Fx,λv l Q j=>quiet_readsAll prog w s xs A E _ _ n Q h4 h Fu v l j⟩
  ·rintro v jX r f ⟨c,rfl,b⟩;refine aE (b v aP _ ?_);simp only[xV,eH,i5];exact aL ⟨Fx,Fx,λu e=>b u (aK _ e)⟩
  ·rintro⟨r1,r2⟩ f ⟨c,rfl,_⟩;simp only at c;subst c;exact aL q
|.bool _,_,_,_,_,_,_,_,h,_,_=>by cases h
|.list _,_,_,_,_,_,_,_,h,_,_=>by cases h
|.dict _,_,_,_,_,_,_,_,h,_,_=>by cases h
theorem quiet_readsAll(prog:cH)(w:d7)(s:Shared):∀(a:List l6)A E(vs:List Value)as(n:Nat)(Q:Bool->Shared->Prop),ReadsAll s.heap vs a as->hkAll a=true->dR a<=n->∀v∈vs,Q true s->wpAny (model prog w) A (ig n v) Q E s
|[],A,E,_,_,n,Q,r,_,_,v,hv,_=>by cases r;cases hv
|x::a,A,E,_,_,n,Q,r,h,hn,v,hv,q=>by
 cases r with
 |cons d e=>
  have b:(hk x&&hkAll a)=true:=h;rw[cL]at b;have c:max x.depth (dR a)<=n:=hn;rcases bA.mp hv with rfl | hv
  ·exact zH prog w s x A E _ _ n Q d b.1 Fu q
  ·exact quiet_readsAll prog w s a A E _ _ n Q e b.2 Fu v hv q
end
mutual
theorem BD{h e:Heap}(a:∀(b:Addr)(o:Obj)(vs:Array Value)(n:Nat),h.get? b=some o->o.data=.seq vs n->e.get? b=some o):∀{d:l6}{v:Value}{c:List Addr},Reads h v d c->hk d=true->Reads e v d c
|.none,_,_,r,_=>by cases r;exact .none
|.int i,_,_,r,_=>by cases r;exact .int i _
|.str x,_,_,r,_=>by cases r;exact .str x _
|.tuple xs,_,_,r,hh=>by
 cases r with
 |tuple g j f k=>exact .tuple (a _ _ _ _ g f) j f (reads_stayAll a k hh)
|.bool _,_,_,_,hh=>by cases hh
|.list _,_,_,_,hh=>by cases hh
|.dict _,_,_,_,hh=>by cases hh
theorem reads_stayAll{h f:Heap}(c:∀(b:Addr)(o:Obj)(vs:Array Value)(n:Nat),h.get? b=some o->o.data=.seq vs n->f.get? b=some o):∀{d:List l6}{vs:List Value}{e:List Addr},ReadsAll h vs d e->hkAll d=true->ReadsAll f vs d e
|[],_,_,r,_=>by cases r;exact .nil
|x::d,_,_,r,hh=>by
 cases r with
 |cons g i=>
  have a:(hk x&&hkAll d)=true:=hh;rw[cL]at a;exact .cons (BD c g a.1) (reads_stayAll c i a.2)
end
end
def uR(prog:cH)(w:d7):HeapKind prog w l6 where
 is:=λh k a=>hk k=true/\k.depth<=8/\∃as,Reads h (.ref a) k as
 hash:=nG w
 draws:=qK
 room:=λA=>A.units+8<w6
 inj:=λ⟨h1,_,as,r1⟩ ⟨_,_,bs,r2⟩=>SeqAt.Reads.unique _ _ _ _ _ (yO h1) r1 r2
 keeps:=λ⟨h1,h2,as,r⟩ ho hd hs=>⟨h1,h2,as,BD (λb o vs n e ed=>(hs.2 b (λz=>by
  subst z;rw[ho]at e;cases e;rw[hd]at ed;cases ed)).trans e) r h1⟩
 pyHash:=λ{A E s k a Q} hu ⟨h1,h2,as,r⟩ h=>B0 prog w s k A _ _ r h1 Fu s.toks E Q h
 eqBool:=λ{A E s x y a b Q} hu ⟨h1,h2,as,r⟩ ⟨g1,g2,bs,r'⟩ h=>SeqAt.eqAt_reads x y A s _ _ _ _ r r' (yO h1) (yO g1) Fu prog w E Q (by rw[OY h1 g1];exact h)
 quiet:=λ{A E s k a Q} ⟨h1,h2,as,r⟩ h=>zH prog w s k A E _ _ 8 Q r h1 h2 h
section
variable{X:Cx}{a:List (Addr×Obj)}{b:St}{H:Hp}{s:Shared}
def eL.big(I:eL X a b H s):s0<s.heap.objs.size:=by
 have h:iV<s.heap.objs.size:=(I.mod.glob.keeps I.bk).lt;exact LK Ft h
end
def UV(i:Expr):Prop:=∀b a,ez i false b a=operate [b,a] (bf b a)
def VQ{E:Value->Shared->Prop}{id}{Q:Value->Shared->Prop}
  (j:typeLookup (.type T) "__getitem__"=pure (some (.builtin id))) (hs:UV slice)
  (h:wpAny (model prog w) A (eval value env) (λo c=>wpAny (model prog w) A (eval slice env) (λi a=>a.TypeIs o T/\wpAny (model prog w) A (bf o i) Q E a) E c) E s) :
  wpAny (model prog w) A (eval (.Subscript value slice pos) env) Q E s:=by
 refine sa (iE h (λo c e=>iE e (λi a b=>?_) λ_ _ x=>x) λ_ _ x=>x);obtain⟨g,b⟩:=b;unfold gx;refine aE ?_;rw[getitemInPython_of_ne g.not_modules];refine aE (u5 g j ?_)
 have fin:wpAny (model prog w) A (ez slice false o i) (λr d=>wpAny (model prog w) A (letTemporaryGo value o r >>= λ_=>pure r) Q E d) E a:=by
  rw[hs o i];exact wpAny_operating (iE b (λr d f=>aE (wpAny_letTemporaryGo (aL f))) λ_ _ x=>x)
 first
  |exact aL (aE fin)
  |exact aE (aL (aE fin))
  |exact aE fin
open TL
def oX(k:D):Prop:=hk k=true/\k.depth<=8
structure DK(K:aQ)(w:d7)(H:Hp)(es:List (Int×Addr×V))(ks:List D):Prop where
 rep:Reps K H ks (es.map λe=>.ref e.2.1)
 nd:ks.Nodup
 ok:∀k∈ks,oX k
 hs:es.map (·.1)=ks.map (nG w)
theorem DK.same{K}(x:DK K w H es ks)(e:bR H H'):DK K w H' es ks:=⟨x.rep.same e,x.nd,x.ok,x.hs⟩
section
variable{X:Cx}{f:List (Addr×Obj)}{g:St}{H:Hp}{s:Shared}{p a:Addr}{c:List (Int×Addr×V)}{ks:List D}{k:D}
def KN(I:eL X f g H s)(r:jN X.K H k (.ref a))(ok:oX k):(uR X.prog X.w).is s.heap k a:=by
 obtain⟨b,h⟩:=jN.reads I (nW (yO ok.1)) r (u:=.ref a) Fx;exact⟨ok.1,ok.2,b,h⟩
theorem ML(I:eL X f g H s):∀{ks}{as:List Addr},Reps X.K H ks (as.map V.ref)->(∀k∈ks,oX k)->Paired (λk a=>(uR X.prog X.w).is s.heap k a) ks as
|[],[],_,_=>.nil
|[],_::_,r,_=>by cases r
|_::_,[],r,_=>by cases r
|k::ks,a::as,r,h=>by
 cases r with
 |cons d e=>exact .cons (KN I d (h k (aP ..))) (ML I e λz b=>h z (aK _ b))
abbrev EX(c:List (Int×Addr×V))(ks:List D)(b:List (D×Addr×Value)):Prop:=b.map (·.1)=ks/\Paired (λ(e:Int×Addr×V) (x:D×Addr×Value)=>x.2.1=e.2.1/\jM e.2.2 x.2.2) c b
theorem ZL(w:d7)(prog:cH):∀{c:List (Int×Addr×V)}{ks:List D}{ds},Paired LH c ds->c.map (·.1)=ks.map (nG w)->∃i,EX c ks i/\ds=i.map (sj (uR prog w))
|[],[],_,.nil,_=>⟨[],⟨Fx,.nil⟩,Fx⟩
|[],_::_,_,_,h=>by simp at h
|_::_,[],_,_,h=>by simp at h
|e::c,k::ks,_,.cons (b:=d) r t,h=>by
 rw[aZ,aZ]at h;injection h with j l
 obtain⟨i,⟨o,q⟩,u⟩:=ZL w prog t l;refine⟨(k,e.2.1,d.val)::i,⟨by rw[aZ,o],.cons ⟨Fx,r.2.2⟩ q⟩,?_⟩;rw[aZ,u];congr 1;obtain⟨m,n,v⟩:=r;show d=⟨nG w k,.ref e.2.1,d.val⟩;rw[<- j,<- m,<- n]
theorem MT:∀{c:List (Int×Addr×V)}{b:List (D×Addr×Value)},Paired (λ(e:Int×Addr×V) (x:D×Addr×Value)=>x.2.1=e.2.1/\jM e.2.2 x.2.2) c b->b.map (λx=>x.2.1)=c.map λe=>e.2.1
|_,_,.nil=>rfl
|_,_,.cons r t=>by rw[aZ,aZ,r.1,MT t]
def GI(H:Hp)(p:Addr)(c:List (Int×Addr×V)):Prop:=H p=some (yT p c)\/∃b,H p=some (zZ p c b)
def GI.at(I:eL X f g H s)(h:GI H p c):NB p c s.heap:=by
 rcases h with h | ⟨b,h⟩
 ·exact(I.hok p _ h).1
 ·obtain⟨⟨d,e,o,n,i,j,l,m⟩,_⟩:=I.hok p _ h;exact⟨d,e,o,n,b,i,j,l,m⟩
def UE(I:eL X f g H s)(h:GI H p c)(i:DK X.K X.w H c ks):(p==s0)=false/\c.length<=bO/\∃d,EX c ks d/\s.heap.DictOfH (uR X.prog X.w) p d:=by
 obtain⟨u,v,o,n,q,z,A,B,C⟩:=GI.at I h;obtain⟨d,b,m⟩:=ZL X.w X.prog C i.hs;refine⟨u,v,d,b,o,n,q,z,A,B,m,?_,by rw[b.1];exact i.nd⟩;have j:=ML I (as:=c.map λe=>e.2.1) (by rw[bL];exact i.rep) i.ok;have l:=MT b.2;rw[<- l,<- b.1]at j;clear l m b;intro x hx
 induction d with
 |nil=>cases hx
 |cons y F E=>
  rw[aZ,aZ]at j
  cases j with
  |cons r t=>
   rcases bA.mp hx with rfl | hx
   ·exact r
   ·exact E t hx
def Wj{i:Nat}{e:Int×Addr×V}(ex:EX c ks xs)(nd:ks.Nodup)(b:ks[i]?=some k)(d:c[i]?=some e):∃u,atKey xs k=some u/\jM e.2.2 u.2:=by
 obtain⟨h,n⟩:=ex;have o:c.length=xs.length:=l3 n;have l:i<xs.length:=by rw[<- o];exact(aC.mp d).1
 have q:xs[i]?=some xs[i]:=aD l
 have m:xs[i].1=k:=by
  have:(xs.map (·.1))[i]?=some k:=by rw[h];exact b
  rw[aF,q]at this;exact c7 this
 refine⟨xs[i].2,atKey_of_get (by rw[h];exact nd) (i:=i) (by rw[q,<- m]),?_⟩;clear b nd h m
 induction n generalizing i with
 |nil=>simp at l
 |cons r t v=>
  cases i with
  |zero=>simp at d;subst d;exact r.2
  |succ j=>exact v (i:=j) (by simpa using d) (by simpa using o) (by simpa using l) (aD _)
def Pr(K:aQ)(w:d7):R2:=λx y H Q=>∃(p:Addr)(c:List (Int×Addr×V))(ks:List D)(k:D)(i:Nat)(e:Int×Addr×V),x=.ref p/\GI H p c/\DK K w H c ks/\jN K H k y/\oX k/\ks[i]?=some k/\c[i]?=some e/\Q e.2.2 H
def EU(I:eL X f g H s)(h:GI H p c):s.TypeIs (.ref p) "dict":=by
 obtain⟨_,_,o,e,i,b,d,_⟩:=GI.at I h;exact⟨o,b,d.1⟩
def tM{K}(r:jN K H (.tuple xs) v):∃a,v=.ref a:=by cases r;exact⟨_,Fx⟩
end
section
variable{X:Cx}{o i:Expr}{pos:Pos}{c ty:TE}
def HA(hu:X.A.units+9<w6)(E:PE X o c)(C:PE X i ty)(hs:UV i):PE X (.Subscript o i pos) (λf H Q=>c f H λx l=>ty f l λy m=>(∃a,y=.ref a)/\Pr X.K X.w x y m Q):=by
 intro d s f H Q I h;refine VQ PySem.F.slot_dict_getitem.lookup hs (lK (E d s f H _ I h) λu P ⟨x,l,r,N,J⟩=>lK (C d P f l _ r J) λG s2 W=>?_);obtain⟨y,m,g,O,⟨b,B⟩,p,Y,ks,k,j,e,ex,q,n,M,ok,t,z,L⟩:=W;subst ex B;obtain rfl:u=d8 p:=N;obtain rfl:G=d8 b:=O;obtain⟨Z,h2,xs,T,U⟩:=UE g q n;obtain⟨v,R,S⟩:=Wj T n.nd t z;exact⟨EU g q,wpAny_getItem_heap (show X.A.units+1+8<w6 by lia) (KN g M ok) U R ⟨_,m,g.tok _,S,L⟩⟩
def E3:List (Int×Addr×V)->List D->D->V->List (Int×Addr×V)
|e::es,k'::ks,k,v=>(if k'=k then(e.1,e.2.1,v)else e)::E3 es ks k v
|_,_,_,_=>[]
def zX(w:d7)(b:List (Int×Addr×V))(ks:List D)(k:D)(a:Addr)(v:V):List (Int×Addr×V):=if k∈ks then E3 b ks k v else b++[(nG w k,a,v)]
def BE(ks:List D)(k:D):List D:=if k∈ks then ks else ks++[k]
end
section
variable{w:d7}{prog:cH}{es:List (Int×Addr×V)}{ks:List D}{xs:List (D×Addr×Value)}{k:D}{a:Addr}{v:V}{u:Value}
theorem UD:∀{es:List (Int×Addr×V)}{ks:List D}{xs:List (D×Addr×Value)},EX es ks xs->es.map (·.1)=ks.map (nG w)->Paired LH es (xs.map (sj (uR prog w)))
|[],_,_,⟨_,.nil⟩,_=>.nil
|e::es,[],x::xs,⟨h,_⟩,_=>by simp at h
|e::es,k::ks,x::xs,⟨h,.cons r t⟩,g=>by
 rw[aZ]at h;injection h with d f
 rw[aZ,aZ]at g;injection g with b c
 refine .cons ⟨?_,?_,r.2⟩ (UD ⟨f,t⟩ c)
 ·show nG w x.1=e.1;rw[d,b]
 ·show d8 x.2.1=d8 e.2.1;rw[r.1]
theorem RB:∀{es ks}{xs:List (D×Addr×Value)}(k:D),EX es ks xs->jM v u->EX (E3 es ks k v) ks (xs.map (putAt k u))
|[],ks,[],k,⟨h,.nil⟩,_=>⟨by rw[<- h];rfl,by cases ks<;>exact .nil⟩
|e::es,[],x::xs,k,⟨h,_⟩,_=>by simp at h
|e::es,k'::ks,x::xs,k,⟨h,.cons r t⟩,rv=>by
 rw[aZ]at h;injection h with c d
 obtain⟨g,f⟩:=RB (es:=es) (ks:=ks) (xs:=xs) k ⟨d,t⟩ rv;unfold E3 putAt;rw[aZ];refine⟨?_,.cons ?_ ?_⟩
 ·rw[aZ];congr 1;split<;>exact c
 ·by_cases b:k'=k
  ·rw[b8 b,b8 (c.trans b)];exact⟨r.1,rv⟩
  ·rw[a9 b,a9 (λz=>b (c.symm.trans z))];exact r
 ·exact f
def Wk(ex:EX es ks xs)(f:jM v u):EX (zX w es ks k a v) (BE ks k) (storedH xs k a u):=by
 have c:(atKey xs k).isSome=true↔k∈ks:=by
  rw[<- ex.1];unfold atKey;rw[Option.isSome_map,List.find?_isSome,aU];exact⟨λ⟨x,d,e⟩=>⟨x,d,c5 e⟩,λ⟨x,d,e⟩=>⟨x,d,a8 e⟩⟩
 unfold zX BE storedH;by_cases b:k∈ks
 ·rw[b8 b,b8 b,b8 (c.mpr b)];exact RB k ex f
 ·rw[a9 b,a9 b,a9 (λz=>b (c.mp z))];refine⟨by rw[bK,ex.1];rfl,Paired.snoc ex.2 ⟨Fx,f⟩⟩
theorem BC:∀{es:List (Int×Addr×V)}{ks:List D}(k:D),es.length=ks.length->(E3 es ks k v).map (·.1)=es.map (·.1)/\(E3 es ks k v).map (λe=>e.2.1)=es.map (λe=>e.2.1)
|[],[],k,_=>⟨Fx,Fx⟩
|[],_::_,k,h=>by simp at h
|_::_,[],k,h=>by simp at h
|e::es,k'::ks,k,h=>by
 obtain⟨b,c⟩:=BC (es:=es) (ks:=ks) k (by simpa using h);unfold E3;refine⟨?_,?_⟩
 ·rw[aZ,aZ,b];congr 1;split<;>rfl
 ·rw[aZ,aZ,c];congr 1;split<;>rfl
def DK.len{K}(x:DK K w H es ks):es.length=ks.length:=by
 have:=g5 hX x.hs;simpa using this
def DK.put{K}(x:DK K w H es ks)(r:jN K H k (.ref a))(ok:oX k):DK K w H (zX w es ks k a v) (BE ks k):=by
 unfold zX BE;by_cases d:k∈ks
 ·rw[b8 d,b8 d];obtain⟨f,g⟩:=BC (v:=v) k x.len;refine⟨?_,x.nd,x.ok,f.trans x.hs⟩
  have e:(E3 es ks k v).map (λe=>V.ref e.2.1)=es.map λe=>V.ref e.2.1:=by
   have:=g5 (ZT V.ref) g
   rwa [bL,bL]at this
  rw[e];exact x.rep
 ·rw[a9 d,a9 d];refine⟨by rw[bK];exact x.rep.append (.cons r .nil),?_,λz hz=>?_,by rw[bK,bK,x.hs];rfl⟩
  ·rw[U1];exact⟨x.nd,Fv,λc i b h=>by rw[bW.mp h];exactλz=>d (z▸i)⟩
  ·rcases cR.mp hz with hz | hz
   ·exact x.ok z hz
   ·rw[bW.mp hz];exact ok
def RK(h:es.length=ks.length):(zX w es ks k a v).length<=es.length+1:=by
 unfold zX;split
 ·have:=g5 hX (BC (v:=v) k h).1;simp at this;lia
 ·simp
end
section
variable{p:Addr}{c:List (Int×Addr×V)}{ks:List D}
def CD:∀d f:Heap,NB p c d->(∀o,d.get? p=some o->f.get? p=some o)->NB p c f:=λd f ⟨a,b,o,h,g,e,r⟩ k=>⟨a,b,o,h,g,k _ e,r⟩
def Xc{a:Heap}(hd:(p==s0)=false)(j:c.length<=bO)(ex:EX c ks xs)(i:c.map (·.1)=ks.map (nG w))(dd:a.DictOfH (uR P w) p xs):mH P w H' a p (yT p c):=by
 obtain⟨o,d,e,b,f,g,h,_⟩:=dd;exact⟨⟨hd,j,o,d,e,b,f,g,by rw[h];exact UD ex i⟩,⟨o,b⟩,CD⟩
end
section
variable{X:Cx}{o i c:Expr}{pos d:Pos}{f ty tv:TE}
def Xz(K:aQ)(w:d7)(f ty tv:TE):TS:=λg e H=>tv e H λv h=>f e h λx j=>ty e j λy H3=>∃(p a:Addr)(b:List (Int×Addr×V))(ks:List D)(k:D),x=.ref p/\y=.ref a/\H3 p=some (yT p b)/\DK K w H3 b ks/\jN K H3 k (.ref a)/\oX k/\b.length<bO/\g.nx e (iA H3 p (yT p (zX w b ks k a v)))
def RO(hu:X.A.units+9<w6)(S:PE X o f)(R:PE X i ty)(U:PE X c tv)(hs:oF c (some (.Subscript o i d)) pos.line X.env=pure false) :
  PS X (.Assign [.Subscript o i d] c pos) (Xz X.K X.w f ty tv):=by
 intro g s l H D' I h;refine wpAny_Assign_Subscript (lK (U g s l H _ I h) λr s1 ⟨v,F,J,rv,Y⟩=>lK (S g s1 l F _ J Y) λu s2 ⟨x,G,L,rx,Z⟩=>lK (R g s2 l G _ L Z) λW s3 zq=>?_) hs;obtain⟨y,H3,m,ry,p,a,es,ks,k,ex,M,B,n,C,ok,hl,q3⟩:=zq;subst ex M;obtain rfl:u=d8 p:=rx;obtain rfl:W=d8 a:=ry;obtain⟨O,P,xs,E,x2⟩:=UE m (.inl B) n;refine wpAny_setItem_heap (hsz:=by rw[<- l3 E.2];exact P) (show X.A.units+1+8<w6 by lia) (KN m C ok) x2 λN j t=>⟨l,_,?_,q3⟩;have T:∃q,N.get? p=some q:=let ⟨q,_,_,e,_⟩:=j;⟨q,e⟩
 have:=RK (w:=X.w) (k:=k) (a:=a) (v:=v) n.len;exact m.write (x:=p) (e:=p) (by rw[B];exact ar) (.inl Fx) (λb q Q z=>(t.2 b Q).trans z) T (Xc (ks:=BE ks k) O Fu (Wk E rv) (n.put C ok).hs j)
def Z4:TE:=λ_ H Q=>∀p,H p=none->Q (.ref p) (iA H p (yT p []))
def RY:PE X (.Dict [] [] pos) Z4:=λb s e H Q I h=>
 wpAny_Dict_empty ⟨.ref s.heap.objs.size,_,I.laid (a:=s.heap.objs.size) (o:=yT s.heap.objs.size []) (t':=s.toks) (λ_ _ q=>aH _ q) (aM _)
  ⟨⟨beq_eq_false_iff_ne.mpr (j9 (bV I.big)),dE _,_,#[],0,aY _ Fx,⟨Fx,Fx,Fx⟩,Fx,.nil⟩,⟨_,aY _ Fx⟩,CD⟩,Fx,h _ (I.hok.fresh (aM _))⟩
end
end L2
namespace TL
open L2
def qL(w:d7)(a:List (D×D)):D:=XS (a.map λb=>nG w b.1) a
def K3(w:d7)(a:List (D×D)):Sl:=.dic (a.map λb=>nG w b.1) a
def C5(kvs:List (D×D))(k v:D):List (D×D):=if k∈kvs.map (·.1)then kvs.map (λa=>if a.1=k then(a.1,v)else a)else kvs++[(k,v)]
def JA(k:D):Prop:=oX k/\∃a,k=.tuple a
section
variable{K:aQ}{H B:Hp}{f c:List Addr}{a m:List Sl}{g:L2.St}{p:Addr}
def Ok.re(o:Ok K B f H c a g)(hl:m.length=a.length)(hv:∀(j:Nat)(d:D),m[j]?=some (.val d)->a[j]?=some (.val d))(ho:∀(j:Nat)(ts:List D),m[j]?=some (.own ts)->a[j]?=some (.own ts))(hd:qF K B f H c m g):Ok K B f H c m g where
 base:=o.base
 sub:=o.sub
 live:=o.live
 len:=hl.trans o.len
 val:=λj d h=>o.val j d (hv j d h)
 own:=λj ts h=>o.own j ts (ho j ts h)
 dis:=λi j ts us q h1 h2 h3 h4=>o.dis i j ts us q (ho i ts h1) (ho j us h2) h3 h4
 dc:=hd
def Ok.poke(o:Ok K B f H c a g){φ:Heap->Prop}(hp:p∈c)(hB:B p=none)(he:H p=some (.ext φ))(hn:∀(j:Nat)(hs:List Int)(kvs:List (D×D)),a[j]?≠some (.dic hs kvs))(hu:W5 u=false:=by rfl):Ok K B f (iA H p u) c a g where
 base:=λb w e=>by
  rw[dD λz=>by rw[z,hB]at e;cases e];exact o.base b w e
 sub:=o.sub
 live:=λq hq=>by
  by_cases e:q=p
  ·subst e;rw[dM];exact⟨_,Fx,hu⟩
  ·rw[dD e];exact o.live q hq
 len:=o.len
 val:=λi d h=>by rw[nD hp];exact o.val i d h
 own:=λi ts h=>by
  rw[nD hp];obtain⟨q,xs,h1,h2,h3,h4,h5,h6⟩:=o.own i ts h;exact⟨q,xs,h1,h2,h3,h4,by rw[dD λz=>by rw[z,he]at h5;cases h5];exact h5,h6⟩
 dis:=o.dis
 dc:=λi hs kvs h=>c8 h (hn i hs kvs)
def LU{i j:Nat}(hs:∀d,s≠.val d)(h:(a.set i s)[j]?=some (.val d)):i≠j/\a[j]?=some (.val d):=by
 by_cases e:i=j
 ·subst e;have b:i<a.length:=by simpa using(aC.mp h).1
  rw[bG b]at h;exact c8 (c7 h) (hs d)
 ·rw[bH e]at h;exact⟨e,h⟩
def wR{i j:Nat}(hs:∀b,s≠.own b)(h:(a.set i s)[j]?=some (.own b)):i≠j/\a[j]?=some (.own b):=by
 by_cases e:i=j
 ·subst e;have d:i<a.length:=by simpa using(aC.mp h).1
  rw[bG d]at h;exact c8 (c7 h) (hs b)
 ·rw[bH e]at h;exact⟨e,h⟩
structure LI(K:aQ)(B:Hp)(f:List Addr)(H:Hp)(c:List Addr)(p:Addr)(es:List (Int×Addr×V))(hs:List Int)(kvs:List (D×D)):Prop where
 mem:p∈c
 new:B p=none
 out:p∉f
 obj:H p=some (yT p es)
 hsh:hs=es.map (·.1)
 nd:(kvs.map (·.1)).Nodup
 ks:Reps K (mask H c) (kvs.map (·.1)) (es.map λe=>.ref e.2.1)
 vs:Reps K (mask H c) (kvs.map (·.2)) (es.map λe=>e.2.2)
def Ok.toDic(o:Ok K B f H c a g){i:Nat}(n:g[i]?=some (some (.ref p)))(w:∀(j:Nat)(hs:List Int)(kvs:List (D×D)),i≠j->a[j]?≠some (.dic hs kvs))(x:LI K B f H c p es hs kvs):Ok K B f H c (a.set i (.dic hs kvs)) g:=by
 refine o.re Fv (λj d h=>(LU (by intro _ z;cases z) h).2) (λj y h=>(wR (by intro _ z;cases z) h).2) λj r s h=>?_;have v:i<a.length:=by rw[o.len];exact(aC.mp n).1
 have only:∀(l:Nat)(k:List Int)(b:List (D×D)),(a.set i (.dic hs kvs))[l]?=some (.dic k b)->i=l:=λl k b q=>by
  by_cases e:i=l
  ·exact e
  ·rw[bH e]at q;exact c8 q (w l k b e)
 obtain rfl:=only j r s h;rw[bG v]at h;injection h with h
 injection h with t u
 subst t u;exact⟨⟨p,es,n,x.mem,x.new,x.out,x.obj,x.hsh,x.nd,x.ks,x.vs⟩,λl k b q=>only l k b q⟩
def Ok.isDic(o:Ok K B f H c a g){i:Nat}(h:a[i]?=some (.dic hs kvs)):(∃(p:Addr)(k:List (Int×Addr×V)),g[i]?=some (some (.ref p))/\LI K B f H c p k hs kvs)/\∀(j:Nat)(b:List Int)(d:List (D×D)),i≠j->a[j]?≠some (.dic b d):=by
 obtain⟨⟨p,k,l,a2,n,a4,q,r,s,t,v⟩,u⟩:=o.dc i hs kvs h;exact⟨⟨p,k,l,a2,n,a4,q,r,s,t,v⟩,λj b d ne e=>ne (u j b d e)⟩
def Ok.forget(o:Ok K B f H c a g){i:Nat}(h:a[i]?=some (.dic hs b)):Ok K B f H c (a.set i .un) g/\∀(j:Nat)(hs:List Int)(b:List (D×D)),(a.set i .un)[j]?≠some (.dic hs b):=by
 have n:∀(j:Nat)(hs:List Int)(b:List (D×D)),(a.set i .un)[j]?≠some (.dic hs b):=λj k l e=>by
  obtain⟨ne,q⟩:=AX (by intro _ _ z;cases z) e;exact(o.isDic h).2 j k l ne q
 exact⟨o.re Fv (λj d h=>(LU (by intro _ z;cases z) h).2) (λj r h=>(wR (by intro _ z;cases z) h).2) λj k l e=>c8 e (n j k l),n⟩
def Ok.newDic(o:Ok K B f H c a g){i:Nat}(h:i<a.length)(k:∀(j:Nat)(hs:List Int)(kvs:List (D×D)),a[j]?≠some (.dic hs kvs))(b:H p=none):Ok K B f (iA H p (yT p [])) (p::c) (a.set i (.dic [] [])) (g.set i (some (.ref p))):=by
 have l:=(o.adopt (u:=yT p []) b).setUn (i:=i) (v:=.ref p);have d:(g.set i (some (V.ref p)))[i]?=some (some (.ref p)):=bG (by rw[<- o.len];exact h)
 have n:=l.toDic (i:=i) (es:=[]) (hs:=[]) (kvs:=[]) d (λj hs kvs ne e=>by
  rw[bH ne]at e;exact k j hs kvs e) ⟨aP ..,bR.free' o.base b,λz=>jI o.live b (o.sub p z),dM,Fx,Fv,.nil,.nil⟩
 rwa [aC6]at n
def Ok.shareD(o:Ok K B f H c a g){i:Nat}(O:a[i]?=some (.dic hs kvs)):∃(p:Addr)(t:List (Int×Addr×V)),g[i]?=some (some (.ref p))/\LI K B f H c p t hs kvs/\∀ep,Ok K B f (iA H p (zZ p t ep)) (c.filter λq=>decide (q≠p)) (a.set i (.val (XS hs kvs))) g/\bR (mask H c) (mask (iA H p (zZ p t ep)) (c.filter λq=>decide (q≠p))):=by
 obtain⟨⟨p,t,y,x⟩,u⟩:=o.isDic O;refine⟨p,t,y,x,λep=>?_⟩;have E:i<a.length:=(aC.mp O).1;have F:p∉c.filter λq=>decide (q≠p):=λz=>(c5 (bC.mp z).2) Fx
 have n:bR (mask H c) (mask (iA H p (zZ p t ep)) (c.filter λq=>decide (q≠p))):=λb v r=>by
  unfold mask at r |-
  by_cases s:b∈c
  ·rw[b8 s]at r;cases r
  ·rw[a9 s]at r;have l:b≠p:=λz=>s (z▸x.mem);rw[a9 λz=>s (bC.mp z).1,dD l];exact r
 refine⟨⟨λb v r=>?_,λq w=>bC.mpr ⟨o.sub q w,a8 λz=>x.out (z▸w)⟩,λq w=>?_,by simpa using o.len,λj d h=>?_,λj N h=>?_,λj k N Q q A C I J=>?_,λj G M h=>?_⟩,n⟩
 ·have l:b≠p:=λz=>by rw[z,x.new]at r;cases r
  rw[dD l];exact o.base b v r
 ·have l:q≠p:=c5 (bC.mp w).2;rw[dD l];exact o.live q (bC.mp w).1
 ·by_cases e:i=j
  ·subst e;rw[bG E]at h;cases h;refine⟨_,y,?_⟩;have:=jN.dct (K:=K) (ep:=ep) (mP F (dM (H:=H) (o:=zZ p t ep))) x.nd (x.ks.same n) (x.vs.same n);rw[<- x.hsh]at this;exact this
  ·rw[bH e]at h;obtain⟨v,A,C⟩:=o.val j d h;exact⟨v,A,C.same n⟩
 ·obtain⟨_,h⟩:=wR (by intro _ z;cases z) h;obtain⟨q,R,A,C,I,J,L,P⟩:=o.own j N h;have l:q≠p:=λz=>by rw[z,x.obj]at L;cases L
  exact⟨q,R,A,bC.mpr ⟨C,a8 l⟩,I,J,by rw[dD l];exact L,P.same n⟩
 ·exact o.dis j k N Q q (wR (by intro _ z;cases z) A).2 (wR (by intro _ z;cases z) C).2 I J
 ·obtain⟨ne,h⟩:=AX (by intro _ _ z;cases z) h;exact c8 h (u j G M ne)
end
section
variable{X:Cx}{a b e n:Expr}{g:List Expr}{m C l:ET}{pos:Pos}
def RA(i:Nat):uF:=λf d=>i<d.length/\(∀(j:Nat)(hs:List Int)(c:List (D×D)),d[j]?≠some (.dic hs c))/\f.nx (d.set i (.dic [] []))
def V0{i:Nat}(c:∀{v},PE X (.Dict [] [] p2) v->PS X (.Assign [.Name x pos'] (.Dict [] [] p2) pos) (xX v (mV i))):zQ X (.Assign [.Name x pos'] (.Dict [] [] p2) pos) (RA i):=by
 refine⟨_,c RY,λB s H j k t q r o h f p d=>?_⟩;exact f.nx _ (p::j) _ _ (o.newDic h.1 h.2.1 d) (by rw[lE d];exact L2.bR.refl _) h.2.2
def yS{K}{g:List (Int×Addr×V)}{c:List (D×D)}(h:c.map (λd=>nG w d.1)=g.map (·.1))(nd:(c.map (·.1)).Nodup)(ok:∀d∈c,oX d.1)(r:Reps K H (c.map (·.1)) (g.map λe=>.ref e.2.1)):DK K w H g (c.map (·.1)):=
 ⟨r,nd,λk hk=>by obtain⟨d,f,rfl⟩:=aU.mp hk;exact ok d f,by rw[<- h,bL];rfl⟩
def QR{K}{a:Addr}:∀{g:List (Int×Addr×V)}{c:List (D×D)}(k:D),Reps K H (c.map (·.2)) (g.map λe=>e.2.2)->jN K H v x->Reps K H ((C5 c k v).map (·.2)) ((zX w g (c.map (·.1)) k a x).map λe=>e.2.2):=by
 intro g c k r h;unfold C5 zX;by_cases d:k∈c.map (·.1)
 ·rw[b8 d,b8 d];clear d
  induction c generalizing g with
  |nil=>cases g with
   |nil=>exact .nil
   |cons e g=>cases r
  |cons j c i=>cases g with
   |nil=>cases r
   |cons e g=>
    rw[aZ,aZ]at r
    cases r with
    |cons o p=>
     rw[aZ,aZ,aZ];unfold E3;rw[aZ];refine .cons ?_ (i p);by_cases f:j.1=k
     ·rw[b8 f,b8 f];exact h
     ·rw[a9 f,a9 f];exact o
 ·rw[a9 d,a9 d,bK,bK];exact r.append (.cons h .nil)
def yC(c:List (D×D))(k v:D):(C5 c k v).map (·.1)=BE (c.map (·.1)) k:=by
 unfold C5 BE;split
 ·rw[bL];apply iI;intro d _;show(if d.1=k then(d.1,v)else d).1=d.1;split<;>rfl
 ·rw[bK];rfl
def Q9(w:d7)(i:Nat)(l tv:ET):uF:=λf d=>∃c,d[i]?=some (K3 w c)/\tv d λv=>l d λk=>JA k/\(∀kv∈c,oX kv.1)/\c.length<=100000/\f.nx (d.set i (K3 w (C5 c k v)))
def Q0{i:Nat}{tv}(hu:X.A.units+9<w6)(hn:PE X n (A3 i))(K:jG X e l)(hv:jG X value tv)(hs:oF value (some (.Subscript n e p2)) pos.line X.env=pure false:=by rfl) :
  zQ X (.Assign [.Subscript n e p2] value pos) (Q9 X.w i l tv):=by
 obtain⟨vv,O,rv⟩:=hv;obtain⟨vk,pk,rk⟩:=K;refine⟨_,RO hu hn pk O hs,λB Y H ps J R DT DV o h f=>?_⟩;obtain⟨kvs,T,h⟩:=h;obtain⟨⟨p,g,t,x⟩,u⟩:=o.isDic T;refine rv B Y H ps J R _ _ o h λv y H1 Z r1 q1=>⟨.ref p,t,rk B Y H1 ps J R _ _ (o.grow Z) q1 λk z S s2 P q2=>?_⟩;obtain⟨⟨E,I,rfl⟩,hok,U,q⟩:=q2;obtain⟨a,rfl⟩:=tM P;have r:=Z.trans s2;have o2:=o.grow r;have L:=cX (ps:=ps) r;have M:=x.ks.same L;have Q:=x.vs.same L;have G:=r _ _ x.obj;have s:=yS (w:=X.w) x.hsh x.nd hok M
 have hl:g.length=kvs.length:=by
  have:=g5 hX x.hsh;simpa using this.symm
 have hL:bO=2^24:=rfl;have c:=s.put (v:=y) P E;refine⟨p,a,g,kvs.map (·.1),_,Fx,Fx,G,s.same cV,P.same cV,E,Fu,?_⟩;obtain⟨o3,F⟩:=o2.forget (i:=i) T;have o4:=o3.poke (u:=yT p (zX X.w g (kvs.map (·.1)) (.tuple I) a y)) x.mem x.new G F;have d:mask (iA S p (yT p (zX X.w g (kvs.map (·.1)) (.tuple I) a y))) ps=mask S ps:=nD x.mem
 have W:=o4.toDic (i:=i) (es:=zX X.w g (kvs.map (·.1)) (.tuple I) a y) (hs:=(C5 kvs (.tuple I) v).map λkv=>nG X.w kv.1) (kvs:=C5 kvs (.tuple I) v) t (λj hs N _=>F j hs N)
  ⟨x.mem,x.new,x.out,dM,?_,?_,?_,?_⟩
 ·rw[aC6]at W;exact f.nx _ ps _ R W (by rw[d];exact L) q
 ·rw[c.hs,<- yC kvs _ v,bL];rfl
 ·rw[yC];exact c.nd
 ·rw[d,yC];exact c.rep
 ·rw[d];exact QR _ Q (r1.same (cX s2))
def Reps.two{K}{i:Nat}:∀{c:List (D×D)}{g:List (Int×Addr×V)}{f:D×D},Reps K H (c.map (·.2)) (g.map λe=>e.2.2)->c[i]?=some f->∃e,g[i]?=some e/\jN K H f.2 e.2.2:=by
 intro c g f r h;obtain⟨v,j,o⟩:=r.get (i:=i) (d:=f.2) (by rw[aF,h];rfl);rw[aF]at j;obtain⟨e,k,rfl⟩:=bM.mp j;exact⟨e,k,o⟩
def Xe(w:d7)(i:Nat)(l:ET):ET:=λd Q=>∃c,d[i]?=some (K3 w c)/\l d λk=>JA k/\(∀kv∈c,oX kv.1)/\∃v,(k,v)∈c/\Q v
def UC{i:Nat}(O:X.A.units+9<w6)(N:PE X n (A3 i))(d:jG X e l)(hs:UV e):jG X (.Subscript n e pos) (Xe X.w i l):=by
 obtain⟨Y,pk,S⟩:=d;refine⟨_,HA O N pk hs,λB P H ps y T Q U o h k=>?_⟩;obtain⟨s,L,h⟩:=h;obtain⟨⟨p,g,f,x⟩,u⟩:=o.isDic L;refine⟨.ref p,f,S B P H ps y T _ _ o h λW z G t F R=>?_⟩;obtain⟨⟨r,Z,rfl⟩,hok,v,M,q⟩:=R;obtain⟨a,rfl⟩:=tM F;obtain⟨j,E⟩:=bU M;have c:=cX (ps:=ps) t;obtain⟨K,I,J⟩:=(x.vs.same c).two E;exact⟨⟨a,Fx⟩,p,g,s.map (·.1),_,j,K,Fx,.inl (t _ _ x.obj),(yS (w:=X.w) x.hsh x.nd hok (x.ks.same c)).same cV,F.same cV,r,by rw[aF,E];rfl,I,k _ _ G t J q⟩
def AL{K}{H:Hp}{f:List (D×D)}(r:jN K H (qL w f) v):∃(p:Addr)(g:List (Int×Addr×V))(k:Nat),v=.ref p/\H p=some (zZ p g k)/\f.map (λo=>nG w o.1)=g.map (·.1)/\(f.map (·.1)).Nodup/\Reps K H (f.map (·.1)) (g.map λe=>.ref e.2.1)/\Reps K H (f.map (·.2)) (g.map λe=>e.2.2):=by
 unfold qL XS at r
 generalize h:(aCt ((.str "{}",.list ((f.map λo=>nG w o.1).map bN))::f))=d at r
 cases r with
 |@dct p g k kws h1 h2 h3 h4=>
  injection h with h
  injection h with c j
  subst j;injection c with _ c
  injection c with c
  have e:=g5 (ZT λd:D=>match d with | .int i=>i | _=>0) c;simp only[bL,Function.comp_def]at e;exact⟨p,g,k,Fx,h1,e,h2,h3,h4⟩
 |addr z=>
  injection h with h
  injection h with c j
  injection c with c _
  injection c with c
  exact c8 c Fq
 |ins _ _=>
  injection h with h
  injection h with c j
  injection c with c _
  injection c with c
  exact c8 c Fq
 |_=>cases h
def ZI(w:d7)(d k:D)(Q:D->Prop):Prop:=∃c,d=qL w c/\JA k/\(∀kv∈c,oX kv.1)/\∃v,(k,v)∈c/\Q v
def XM(Z:X.A.units+9<w6)(U:jG X a m)(W:jG X b C)(hs:UV b:=by intro _ _;rfl):jG X (.Subscript a b pos) (D7 (ZI X.w) m C):=by
 obtain⟨va,pa,ra⟩:=U;obtain⟨vb,pb,rb⟩:=W;refine⟨_,HA Z pa pb hs,λB t H u f G Q QV o h k=>ra B t H u f G _ _ o h λd x I E r1 q1=>?_⟩;refine rb B t I u f G _ _ (o.grow E) q1 λkd z J F y q2=>?_;obtain⟨r,rfl,⟨i,ys,rfl⟩,hok,v,Y,q⟩:=q2;obtain⟨c,rfl⟩:=tM y;obtain⟨p,g,N,rfl,O,P,R,S,T⟩:=AL (r1.same (cX F));obtain⟨j,s⟩:=bU Y;obtain⟨M,K,L⟩:=T.two s;exact⟨⟨c,Fx⟩,p,g,r.map (·.1),_,j,M,Fx,.inr ⟨N,cV _ _ O⟩,(yS (w:=X.w) P R hok S).same cV,y.same cV,i,by rw[aF,s];rfl,K,k _ _ J (E.trans F) L q⟩
def N4{y:TS}(p:CW X sts y):CW X sts (λA j H=>∃(a:Addr)(g:List (Int×Addr×V)),H a=some (yT a g)/\∀d,y A j (iA H a (zZ a g d))):=by
 intro c s j H D I ⟨a,g,v,h⟩;obtain⟨⟨q,t,o,i,d,f,B,E,F⟩,_⟩:=I.hok a _ v;refine p c s j _ D ?_ (h d);exact I.write (x:=a) (e:=a) (h':=s.heap) (t':=s.toks) (by rw[v];exact ar) (.inl Fx) (λb u _ z=>z) ⟨o,f⟩ (show mH X.prog X.w _ _ _ (zZ a g d)from⟨⟨q,t,o,i,f,B,E,F⟩,⟨o,f⟩,λq t ⟨a,b,o,i,e,r⟩ k=>⟨a,b,o,i,k _ e,r⟩⟩)
def V7(i:Nat)(t:uF):uF:=λf d=>∃hs c,d[i]?=some (.dic hs c)/\t f (d.set i (.val (XS hs c)))
def NR(i:Nat)(h:sT X sts t):sT X sts (V7 i t):=by
 obtain⟨v,p,r⟩:=h;refine⟨_,N4 p,λB w H A z y d j o h f=>?_⟩;obtain⟨hs,s,e,h⟩:=h;obtain⟨a,g,_,q,c⟩:=o.shareD e;refine⟨a,g,q.obj,λk=>?_⟩;obtain⟨u,x⟩:=c k;exact r B w _ _ _ y d j u h (f.later x)
end
end TL
namespace L2
open TL
noncomputable def OW(d:Addr)(i n a:Nat)(b c k v:Value):Array Value:=#[b,c,.ref d,.int i 0,.int n 0,.int a 0,k,v]
abbrev yX(h:Heap)(b d:Addr)(i n a:Nat)(c e k v:Value):Prop:=h.get? b=some { cls:=.type "dict_itemiterator",dict:=none,data:=.fields (OW d i n a c e k v),slots:=#[] }
def PY(h:Heap)(c:Addr)(b d:Value):Prop:=(b=.none\/∃(a:Addr)(o:Obj),b=j1 a/\h.get? a=some o/\a≠c)/\∃f,d=.bool f
def PU(h:Heap)(d:Addr)(b:Array t5)(a:Nat):Prop:=∃o,h.get? d=some o/\o.data=.dict b a
section
variable{prog:cH}{w:d7}{A:f9}{E:Value->Shared->Prop}{s:Shared}{l d:Addr}{i ep:Nat}{xs:Array t5}{n p k v:Value}
def LA{a:Addr}{Q:Option Obj->Shared->Prop}(c:s.heap.get? a=some o)(h:Q (some o) s):wpAny (model prog w) A (loadIfAlive a) Q E s:=by
 have b:Q (s.heap.get? a) s:=by rw[c];exact h
 exactλ_ _ _=>b
def KP{Q:Option Value->Shared->Prop}(j:yX s.heap l d i xs.size ep n p k v)(hg:PY s.heap l n p)(hd:PU s.heap d xs ep)(ue:i<xs.size)
  (hQ:∀(F:Heap)(y0 y1 k' v':Value),yX F l d (i+1) xs.size ep y0 y1 k' v'->PY F l y0 y1->(n=.none->y0=j1 s.heap.objs.size)->F.get? s.heap.objs.size=some { cls:=.type "tuple",data:=.seq #[xs[i].key,xs[i].val] }->F.objs.size=s.heap.objs.size+1 ->
   (∀b o,b≠l->s.heap.get? b=some o->F.get? b=some o)->Q (some (.ref s.heap.objs.size)) { s with heap:=F }):wpAny (model prog w) A (r8 (.ref l)) Q E s:=by
 obtain⟨H,C,B,G,os⟩:=s;obtain⟨od,K,J⟩:=hd;have t:m5 ⟨H,C,B,G,os⟩ (.ref l) "dict_itemiterator":=⟨_,j,Fx⟩;have L:i7 "dict_itemiterator"=true:=by decide
 unfold r8;refine aE (u0 (f7 (name:=c9 "__next__") t gL (eX gL t vB ?_ (uX _))));refine aE (aL (aE (aE ?_)))
 first | refine aE (m6 t (aL ?_)) | refine aE (t7 t (aL ?_))
 refine aE (ce j Fx ?_);simp only[L,t6];show wpAny _ _ (if(d8 d==e9)=true then _ else _) _ _ _;rw[a9 (show¬((d8 d==e9)=true)from bQ)];refine aE (aL (aE (o9 K J ?_)));rw[a9 Fv];refine aE (aL (aE (u4 K J ?_)));rw[a9 Fv];refine aL ?_;simp only[show¬((i:Int)<0)from by lia,i5,iJ,iN ue];refine aE ?_
 first | refine aE (m6 t (aL ?_)) | refine aE (t7 t (aL ?_))
 refine aE (bh t ?_);show wpAny _ _ (qt (.ref l) 3 (j1 ((i:Int)+1)) >>= _) _ _ ⟨H,C,B,G,os⟩;refine aE (g0 j (by simp[OW]) λy I M=>?_)
 replace M:dY l H y:=M
 replace I:yX y l d (i+1) xs.size ep n p k v:=by
  have e:((i+1:Nat):Int)=(i:Int)+1:=by lia
  unfold yX OW;rw[e];simpa[j1,OW]using I
 have u:m5 ⟨y,C,B,G,os⟩ (.ref l) "dict_itemiterator":=⟨_,I,Fx⟩;refine aE (j7 (aE (bh u (aE (bh u ?_)))));show wpAny _ _ (aa (.ref l) 6 xs[i].key xs[i].val) _ _ ⟨y,C,B,G,os⟩;unfold aa;refine aE (gj ?_)
 generalize g:y.push { cls:=.type "tuple",data:=.seq #[xs[i].key,xs[i].val] }=H2
 have q:yX H2 l d (i+1) xs.size ep n p k v:=by rw[<- g];exact aH _ I
 have T:y.objs.size=H.objs.size:=M.1;have uc:l<H.objs.size:=bE j;have t2:H2.get? H.objs.size=some { cls:=.type "tuple",data:=.seq #[xs[i].key,xs[i].val] }:=by rw[<- g,<- T];exact aY _ Fx
 have z2:H2.objs.size=H.objs.size+1:=by rw[<- g,dX,T]
 have O:∀b o,b≠l->H.get? b=some o->H2.get? b=some o:=λb o c e=>by rw[<- g];exact aH _ (M.extBut b o c e)
 have m:H.objs.size≠l:=fA uc;show wpAny _ _ (z4 (.ref l) >>= _) _ _ ⟨H2,C,B,G,os⟩;rw[T];clear g I M u T;unfold z4;obtain⟨Bu,f,rfl⟩:=hg;rcases Bu with rfl | ⟨a,oa,rfl,ha,h⟩
 ·refine aE (aE (f8 q Fx (x:=.none) Fx (aL ?_)));simp only[t6];refine aE (f8 q Fx (x:=k) Fx (aE (f8 q Fx (x:=v) Fx ?_)));refine aE (g0 q (by simp[OW]) λH3 r s3=>?_)
  replace s3:dY l H2 H3:=s3
  replace r:yX H3 l d (i+1) xs.size ep .none (.bool f) xs[i].key v:=r
  refine aE (g0 r (by simp[OW]) λU X P=>?_)
  replace P:dY l H3 U:=P
  replace X:yX U l d (i+1) xs.size ep .none (.bool f) xs[i].key xs[i].val:=X
  refine aE (g0 X (by simp[OW]) λW Y R=>?_)
  replace R:dY l U W:=R
  replace Y:yX W l d (i+1) xs.size ep (j1 H.objs.size) (.bool f) xs[i].key xs[i].val:=Y
  refine aE (g0 Y (by simp[OW]) λN Z S=>?_)
  replace S:dY l W N:=S
  replace Z:yX N l d (i+1) xs.size ep (j1 H.objs.size) (.bool false) xs[i].key xs[i].val:=Z
  have up:∀b o,b≠l->H2.get? b=some o->N.get? b=some o:=λb o c e=>S.extBut b o c (R.extBut b o c (P.extBut b o c (s3.extBut b o c e)));exact aE (y8 (aL (aL ⟨_,Fx,aL (hQ N _ _ _ _ Z ⟨.inr ⟨_,_,Fx,up _ _ m t2,m⟩,_,Fx⟩ (λ_=>rfl) (up _ _ m t2) (by rw[S.1,R.1,P.1,s3.1,z2]) λb o c e=>up b o c (O b o c e))⟩)))
 ·have fin:∀H3:Heap,yX H3 l d (i+1) xs.size ep (j1 a) (.bool true) k v->dY l H2 H3->Q (some (.ref H.objs.size)) ⟨H3,C,B,G,os⟩:=λH3 r s3=>
   hQ H3 _ _ _ _ r ⟨.inr ⟨a,oa,Fx,s3.extBut _ _ h (O a oa h ha),h⟩,_,Fx⟩ (λz=>by cases z) (s3.extBut _ _ m t2) (by rw[s3.1,z2]) λb o c e=>s3.extBut b o c (O b o c e)
  refine aE (aE (f8 q Fx (x:=j1 a) Fx ?_));show wpAny _ _ (loadIfAlive ((a:Int).toNat) >>= _) _ _ _;rw[iJ];refine aE (LA (O a oa h ha) ?_);simp only[Option.isNone_some,eH,i5];refine aE (f8 q Fx (x:=.bool f) Fx ?_)
  cases f with
  |true=>
   rw[a9 (show¬((x9 true != x9 true)=true)from bQ)];refine aL ?_;simp only[eH,i5];exact aL (aL ⟨_,Fx,aL (fin H2 q (dY.refl _ _))⟩)
  |false=>
   rw[b8 (show(x9 false != x9 true)=true from Fx)];refine aE (g0 q (by simp[OW]) λH3 r s3=>?_);refine aL ?_;simp only[eH,i5];exact aL (aL ⟨_,Fx,aL (fin H3 r s3)⟩)
def OV{Q:Option Value->Shared->Prop}(q:A.handled=none)(c:yX s.heap l d i xs.size ep n p k v)(hd:PU s.heap d xs ep)(j:xs.size<=i)
  (r:∀o,CU l s.heap o->Q none { s with heap:=o }):wpAny (model prog w) A (r8 (.ref l)) Q E s:=by
 obtain⟨t,g,f⟩:=hd;have e:s.TypeIs (.ref l) "dict_itemiterator":=⟨_,c,Fx⟩;have h:i7 "dict_itemiterator"=true:=by decide
 unfold r8;refine aE (u0 (f7 (name:=c9 "__next__") e gL (eX gL e vB ?_ (uX _))));refine aE (aL (aE (aE ?_)))
 first | refine aE (m6 e (aL ?_)) | refine aE (t7 e (aL ?_))
 refine aE (ce c Fx ?_);simp only[h,t6];show wpAny _ _ (if(d8 d==e9)=true then _ else _) _ _ s;rw[a9 (show¬((d8 d==e9)=true)from bQ)];refine aE (aL (aE (o9 g f ?_)));rw[a9 Fv];refine aE (aL (aE (u4 g f ?_)));rw[a9 Fv];refine aL ?_;simp only[show¬((i:Int)<0)from by lia,i5,iJ,fM j];refine aE ?_
 first | refine aE (m6 e (aL ?_)) | refine aE (t7 e (aL ?_))
 show wpAny _ _ (qt (.ref l) 2 .none >>= _) _ _ s;refine aE (aj c Fx (by simp[OW]) ?_);show wpAny _ _ (ir (.type "StopIteration") [] >>= _) _ _ _;refine aE ?_;simp only[ir,newTuple];refine aE (eY ?_ (by size_fits));refine aE (m:=v8 _ _) (qw (a:=e9) (by first | rfl | (simp only[v8];rfl)) ?_);refine eY ?_ (by size_fits);simp only[raiseNew];refine aE (gz ?_)
 first | rw[show A.in1.handled=none from q] | rw[q]
 refine aE (aL (qy ?_));refine aE (ba (T:="StopIteration") (b:=true) ⟨_,aY _ Fx,Fx⟩ gf ?_);exact aL (r _ (((dY.update ..).extBut.push _).push _))
structure Got(xs:Array t5)(S l lo:Addr)(h:Heap)(as:List Addr):Prop where
 rise:as.Pairwise (·<·)
 above:∀a∈as,lo<=a/\a≠S/\a≠l
 tups:∀(j:Nat)(a:Addr),as[j]?=some a->∃e,xs[j]?=some e/\h.get? a=some { cls:=.type "tuple",data:=.seq #[e.key,e.val] }
def Got.stay{S lo:Addr}{h c:Heap}(g:Got xs S l lo h as)(hk:∀b o,b≠S->b≠l->h.get? b=some o->c.get? b=some o):Got xs S l lo c as:=
 ⟨g.rise,g.above,λj a e=>by
  obtain⟨x,f,m⟩:=g.tups j a e;obtain⟨_,n1,q⟩:=g.above a (aR e);exact⟨x,f,hk _ _ n1 q m⟩⟩
def PY.stay{h c:Heap}{n p}(g:PY h l n p)(hk:∀b o,b≠l->h.get? b=some o->∃j,c.get? b=some j):PY c l n p:=by
 obtain⟨g,f⟩:=g;refine⟨?_,f⟩;rcases g with g | ⟨a,o,e,q,m⟩
 ·exact .inl g
 ·obtain⟨j,c⟩:=hk a o m q;exact .inr ⟨a,j,e,c,m⟩
def KQ{S:Addr}{R:Result->Shared->Prop}(hh:A.handled=none)(B:S≠l)(U:d≠S)(W:d≠l)(hn:xs.size<=bO)(P:Value){h0:Heap}{lo:Addr}
  (hR:∀(t:Heap)(z:Nat)(f:Array Value)(c:Nat)(g:List Addr),(∀b o,b≠S->b≠l->h0.get? b=some o->t.get? b=some o)->t.get? S=some { cls:=.type "list",dict:=none,data:=.seq f c,slots:=#[] }->g.length=xs.size->Got xs S l lo t g->f.toList=g.map d8->R (.ok (.ret P)) { s with heap:=t,toks:=z }) :
  ∀(m i:Nat)(h:Heap)(z c:Nat)(f:Array Value)(g:List Addr)(n p k v:Value),xs.size-i=m->i<=xs.size->yX h l d i xs.size ep n p k v->PY h l n p->PU h d xs ep->(∀b o,b≠S->b≠l->h0.get? b=some o->h.get? b=some o) ->
   h.get? S=some { cls:=.type "list",dict:=none,data:=.seq f c,slots:=#[] }->f.toList=g.map d8->g.length=i->Got xs S l lo h g->lo<=h.objs.size ->
   x4 (model prog w) A (.builtin "list.extend.loop" ⟨[.ref S,.ref l,P],[]⟩) R { s with heap:=h,toks:=z }:=by
 intro m
 induction m with
 |zero=>
  intro i h z c f g n p k v hm hi u hg hd hk Q r F J H;refine z6 CY ?_;rw[v6 gB _];show wpAny _ A.in1 (r8 (.ref l) >>= _) _ _ _;refine aE (OV (s:={ s with heap:=h,toks:=z }) (A:=A.in1) (xs:=xs) hh u hd Fu λt X=>?_);exact aL (hR t z f c g (λb o n1 y e=>X b o y (hk b o n1 y e)) (X S _ B Q) Fu (J.stay λb o _ y e=>X b o y e) r)
 |succ m ih=>
  intro i h z c f g n p k v hm hi u hg hd hk Q r F J H;have I:i<xs.size:=by lia
  have O:f.size=i:=by rw[<- dZ,r,aB,F]
  have C:S<h.objs.size:=bE Q;have Z:l<h.objs.size:=bE u;refine z6 CY ?_;rw[v6 gB _];show wpAny _ A.in1 (r8 (.ref l) >>= _) _ _ _;refine aE (KP (s:={ s with heap:=h,toks:=z }) (A:=A.in1) u hg hd I λt y0 y1 k' v' N Y _ ht hz G=>?_);dsimp only at ht hz G |-
  have L:=G S _ B Q;have up:∀b o,b≠S->t.get? b=some o->(t.update S (d3 (·.push (d8 h.objs.size)))).get? b=some o:=λb o K e=>(gC _ _ (j9 K)).trans e;have M:=fW (d3 (·.push (d8 h.objs.size))) L Fx;have kk:∀b o,b≠S->b≠l->h.get? b=some o->(t.update S (d3 (·.push (d8 h.objs.size)))).get? b=some o:=λb o n1 y e=>up b o n1 (G b o y e);show wpAny _ A.in1 (az S (·.push (d8 h.objs.size)) >>= _) _ _ _
  refine aE (l4 L Fx (aL ⟨x5 gB _,ih (i+1) _ z _ (f.push (d8 h.objs.size)) (g++[h.objs.size]) y0 y1 k' v' Fu I (up l _ (j9 B) N) (Y.stay λb o _ e=>?_) (let ⟨o,h1,T⟩:=hd;⟨o,kk d o U W h1,T⟩)
   (λb o n1 y e=>kk b o n1 y (hk b o n1 y e)) M (by rw[QG,r,bK];rfl) (by rw[aV,F];rfl) ⟨?_,λa ha=>?_,λj a x=>?_⟩ ?_⟩) (by rw[O];lia) (by show(f.push (d8 h.objs.size)).size<=bO+1;rw[sY,O];lia))
  ·by_cases K:b=S
   ·exact⟨_,by rw[K];exact M⟩
   ·exact⟨o,up b o K e⟩
  ·refine ND.mpr ⟨J.rise,JF _ _,λa ha b K=>?_⟩;rw[bW.mp K];obtain⟨j,x⟩:=bU ha;obtain⟨_,_,T⟩:=J.tups j a x;exact bE T
  ·rcases cR.mp ha with ha | ha
   ·exact J.above a ha
   ·rw[bW.mp ha];exact⟨H,fA C,fA Z⟩
  ·by_cases ud:j<g.length
   ·rw[dQ ud]at x;exact(J.stay kk).tups j a x
   ·rw[cA Fu]at x
    have Bx:j-g.length=0:=by
     cases hq:j-g.length with
     |zero=>rfl
     |succ q=>rw[hq]at x;simp at x
    rw[Bx]at x;have ea:h.objs.size=a:=by simpa using x
    have ej:j=i:=by lia
    subst ea ej;exact⟨xs[j],iN I,up _ _ (fA C) ht⟩
  ·have e:=up _ _ (fA C) ht;exact jT (nM H (bE e))
def ER(v d:Addr)(h:Heap):Prop:=∃o,h.get? v=some o/\o.cls=.type "dict_items"/\o.data=.fields #[.ref d]
def KR{g:Addr}{Q:Value->Shared->Prop}(q:ER g d s.heap)(hd:PU s.heap d xs ep)
  (m:Q (.ref s.heap.objs.size) { s with heap:=s.heap.push { cls:=.type "dict_itemiterator",data:=.fields (OW d 0 xs.size ep .none (.bool false) .none .none) } }):wpAny (model prog w) A (dy (.ref g)) Q E s:=by
 obtain⟨r,b,e,f⟩:=q;obtain⟨o,j,a⟩:=hd;have h:s.TypeIs (.ref g) "dict_items":=⟨r,b,e⟩;refine uj h AG (eX AG h PySem.F.entry_dict_items_iter ?_ (PySem.F.args_dict_items_iter_1 _));unfold u2.«dict_items.__iter__»;refine aE (aL (aE ?_));unfold Builtin.Dict_items.dictOf;refine aE (f8 b f (x:=.ref d) Fx (aL (aE ?_)));unfold Builtin.Dict_items.newIterator;refine aE (o9 j a (aE (u4 j a ?_)));have c:i7 "dict_itemiterator"=true:=by decide
 simp only[c,t6]
 refine eY (aL ⟨_,Fx,"dict_itemiterator",_,⟨_,aY _ Fx,Fx⟩,gL.lookup,?_⟩)
  (by simp only[sizeOk,z0,bI,aV,bX,iM,qu];lia)
 simpa[j1,OW,z0]using m
def KS{a:Addr}(b:s.TypeIs (.ref a) "dict_items"){Q:Bool->Shared->Prop}(h:Q false s):wpAny (model prog w) A (Builtin.List.listLengthHint (.ref a)) Q E s:=PySem.W.kdx_hint b h
def AA{f:Addr}{Q:Value->Shared->Prop}(hh:A.handled=none)(hv:ER f d s.heap)(hd:PU s.heap d xs ep)(hn:xs.size<=bO)
  (hQ:∀(B:Heap)(U:Nat)(g:Array Value)(c:Nat)(C:List Addr),(∀b o,s.heap.get? b=some o->B.get? b=some o)->B.get? s.heap.objs.size=some { cls:=.type "list",dict:=none,data:=.seq g c,slots:=#[] }->C.length=xs.size->Got xs s.heap.objs.size (s.heap.objs.size+1) s.heap.objs.size B C->g.toList=C.map d8->Q (.ref s.heap.objs.size) { s with heap:=B,toks:=U }) :
  wpAny (model prog w) A (call (.type "list") [.ref f]) Q E s:=by
 have N:f<s.heap.objs.size:=let ⟨_,ho,_⟩:=hv;bE ho
 have m:d<s.heap.objs.size:=let ⟨_,ho,_⟩:=hd;bE ho
 refine callType_codes (Q₁:=λobj u=>obj=.ref s.heap.objs.size/\u={ s with heap:=s.heap.push { cls:=.type "list",data:=.seq #[] } }) JI (EK _) EN (code_list_new _ ⟨Fx,Fx⟩) λobj u O=>?_;obtain⟨rfl,rfl⟩:=O
 generalize x:s.heap.push { cls:=.type "list",data:=.seq #[] }=G1
 have W:G1.get? s.heap.objs.size=some { cls:=.type "list",data:=.seq #[] }:=by rw[<- x];exact aY _ Fx
 have k1:∀b o,s.heap.get? b=some o->G1.get? b=some o:=λb o e=>by rw[<- x];exact aH _ e
 have z1:G1.objs.size=s.heap.objs.size+1:=by rw[<- x,dX]
 generalize Ax:s.heap.objs.size=S at *
 refine⟨⟨_,W,Fx⟩,DE _ _,?_⟩;show wpAny _ _ (do let old <- r0 (.ref S);cm (.ref S) (λ_=>#[]);letGo old.toList.reverse;i3 (.ref S) (.ref f) .none) _ _ _;refine aE ?_;unfold r0;refine aE (i9 W Fx (aL ?_));show wpAny _ _ (az S (λ_=>#[]) >>= λ_=>letGo (#[]:Array Value).toList.reverse >>= λ_=>i3 (.ref S) (.ref f) .none) _ _ _;refine aE (l4 W Fx ?_);have z:=fW (d3 (λ_=>(#[]:Array Value))) W Fx
 generalize F:G1.update S (d3 (λ_=>(#[]:Array Value)))=G2 at z
 have k2:∀b o,b≠S->G1.get? b=some o->G2.get? b=some o:=λb o q e=>by rw[<- F];exact(gC _ _ (j9 q)).trans e
 have z2:G2.objs.size=S+1:=by rw[<- F,sR,z1]
 have M:ER f d G2:=let ⟨o,h1,h2⟩:=hv;⟨o,k2 f o (bV N) (k1 f o h1),h2⟩
 have L:PU G2 d xs ep:=let ⟨o,h1,h2⟩:=hd;⟨o,k2 d o (bV m) (k1 d o h1),h2⟩
 refine aE (y8 ?_);unfold i3;have J:m5 { s with heap:=G2 } (.ref f) "dict_items":=let ⟨o,h1,h2,_⟩:=M;⟨o,h1,h2⟩
 refine aE (bi J ?_)
 have b1:cg (.ref S) (.ref f)=false:=by
  show(S==f)=false;exact beq_eq_false_iff_ne.mpr (fA N)
 have b2:(j5 "dict_items"==j5 "list")=false:=by decide
 have b3:(j5 "dict_items"==j5 "tuple")=false:=by decide
 simp only[b1,b2,b3,rN,eH,i5];refine aE (KR (s:={ s with heap:=G2 }) M L ?_);show wpAny _ _ _ _ _ { s with heap:=G2.push _ }
 generalize y:G2.push { cls:=.type "dict_itemiterator",data:=.fields (OW d 0 xs.size ep .none (.bool false) .none .none) }=G3
 have P:∀b o,G2.get? b=some o->G3.get? b=some o:=λb o e=>by rw[<- y];exact aH _ e
 have X:yX G3 (S+1) d 0 xs.size ep .none (.bool false) .none .none:=by rw[<- y,<- z2];exact aY _ Fx
 have z3:G3.objs.size=S+2:=by rw[<- y,dX,z2]
 have Ay:m5 { s with heap:=G3 } (.ref f) "dict_items":=let ⟨o,h1,h2⟩:=J;⟨o,P _ _ h1,h2⟩
 refine aE (j7 (KS Ay ?_));have t:S≠S+1:=bV (mM _)
 have R:∀(h:Heap)(c U:Nat),(∀b o,b≠S->G3.get? b=some o->h.get? b=some o)->S<=h.objs.size->h.get? S=some { cls:=.type "list",dict:=none,data:=.seq #[] c,slots:=#[] } ->
   x4 (model prog w) A.in1 (.builtin "list.extend.loop" ⟨[.ref S,.ref (S+1),.none],[]⟩) (wants (λr T=>r=e9/\Q (.ref S) T) E) { s with heap:=h,toks:=U }:=λh c U kk wv Z=>by
  refine KQ (s:=s) (xs:=xs) (ep:=ep) (h0:=G3) (lo:=S) (A:=A.in1) (by simp[hh]) t (bV m) (bV (gM m)) hn .none (λB Dv g c' C hk Y hl hG K=>⟨Fx,?_⟩)
   xs.size 0 h U c #[] [] _ _ _ _ (pY _) (dE _) (kk _ _ (j9 t) X) ⟨.inl Fx,_,Fx⟩ (let ⟨o,h1,h2⟩:=L;⟨o,kk d o (bV m) (P _ _ h1),h2⟩) (λb o n1 _ e=>kk b o n1 e) Z Fx Fx ⟨xU.nil,(λ_ ha=>nomatch ha),(λj a hj=>by simp at hj)⟩ wv
  refine hQ B Dv g c' C (λb o e=>?_) Y hl hG K;have q:b<S:=by rw[<- Ax];exact bE e
  exact hk b o (bV q) (bV (gM q)) (P b o (k2 b o (bV q) (k1 b o e)))
 dsimp only;rw[z2];refine wpAny_ite_split (λ_=>?_) (λ_=>aL ⟨x5 gB _,R _ _ _ (λb o _ e=>e) (by rw[z3];lia) (P _ _ z)⟩);have G:=P _ _ z;refine aE (l7 (aE ?_));show wpAny _ _ (az S (·.push .none) >>= λ_=>az S (·.pop)) _ _ _;refine aE (l4 G Fx ?_);have H:=fW (d3 (·.push e9)) G Fx;refine l4 (hz:=by seq_fits) H Fx ?_;have I:=fW (d3 (·.pop)) H Fx;exact aL ⟨x5 gB _,R _ _ _ (λb o q e=>(gC _ _ (j9 q)).trans ((gC _ _ (j9 q)).trans e)) (jT (bE I)) I⟩
end
section
variable{X:Cx}{c:List (Addr×Obj)}{f:St}{H d:Hp}{s:Shared}
def eL.laidM{h:Heap}{t':Nat}(I:eL X c f H s)(k:∀b u,s.heap.get? b=some u->h.get? b=some u)(g:bR H d)(new:∀a o,d a=some o->H a=none->s.heap.objs.size<=a/\mH X.prog X.w d h a o):eL X c f d { s with heap:=h,toks:=t' }:=by
 refine I.un ⟨λb ob q _ _ _=>k b ob q,λb ob q _ _ _=>⟨ob.slots,k b ob q⟩,λb ob q n _=>?_,λb ob q _=>⟨ob,k b ob q⟩,λb j q=>g _ _ q,λb o u q=>g _ _ q,λb l q=>⟨#[],by rw[g _ _ q];simp⟩⟩ λa o e=>?_
 ·cases e:d b with
  |none=>rfl
  |some o=>exact c8 (bE q) (U0.mpr (new b o e n).1)
 ·cases q:H a with
  |none=>exact(new a o e q).2
  |some u=>
   have i:=g _ _ q;rw[e]at i;cases i;exact(I.hok a o q).stay (λb v _ z=>k b v z) (λb z=>g _ _ z) (λb j z=>g _ _ z) λb ob v z=>g _ _ z
noncomputable def A2(v p:Addr):HO:=.ext (ER v p)
def SY:P5 X "dict.items" (λx i H Q=>i=[]/\∃(p:Addr)(a:List (Int×Addr×V)),x=.ref p/\GI H p a/\∀v,H v=none->Q (.ref v) (iA H v (A2 v p))):=by
 intro c s f H x i v n Q I j r h;obtain⟨rfl,p,a,rfl,g,q⟩:=h;cases j;cases r;have b:=EU I g;obtain⟨hs,_⟩:=GI.at I g;refine eX EL b PySem.F.entry_dict_items ?_ (PySem.F.args_dict_items_1 _);unfold u2.«dict.items»;refine aE ?_;unfold Builtin.Dict.noArgs;refine aE (jc b ?_);show wpAny _ _ (pure p) _ _ s;refine aL ?_;show wpAny _ _ (t4 p >>= _) _ _ s;unfold t4;rw[a9 (by rw[hs];exact bQ)];refine aE (aL (aE (eY (aL ⟨_,Fx,?_⟩))));exact⟨.ref s.heap.objs.size,_,I.laid (t':=s.toks) (o:=A2 s.heap.objs.size p) (λ_ _ e=>aH _ e) (aM _) ⟨⟨_,aY _ Fx,Fx,Fx⟩,⟨_,aY _ Fx⟩,λl m ⟨o,e,r⟩ k=>⟨o,k _ e,r⟩⟩,Fx,q _ (I.hok.fresh (aM _))⟩
end
section
variable{X:Cx}{o:Expr}{to:TE}{b c:Pos}
def N7(r:PE X o to)(f:gr o "items" X.env (eval o X.env)=eval o X.env:=by rfl)(g:(b.endLine==c.line)=true:=by rfl) :
  PE X (.Call (.Attribute o "items" b) [] [] c) (λj H Q=>to j H λx i=>∃(p:Addr)(l:List (Int×Addr×V)),x=.ref p/\GI i p l/\∀v,i v=none->Q (.ref v) (iA i v (A2 v p))):=by
 intro d s j H Q I h;refine ij f g (lK (r d s j H _ I h) λv w y=>?_);obtain⟨x,i,k,u,p,l,ex,m,t⟩:=y;subst ex;obtain rfl:v=d8 p:=u;obtain⟨_,_,ob,z,A,n,q,_⟩:=GI.at k m;exact⟨"dict","dict.items",PySem.F.plainAttrs_dict,EL,PySem.F.type_dict_items,EU k m,λa e=>by cases e;exact⟨ob,n,q.2.1⟩,al Fx (gm (SY d w j i (.ref p) [] (.ref p) [] Q k Fx .nil ⟨Fx,p,l,Fx,m,t⟩))⟩
end
theorem HR{i:Type}{b:Addr}{y:i}:∀{c:List Addr}{f:List i}{j:Nat},c.Nodup->c[j]?=some b->f[j]?=some y->(c.zip f).lookup b=some y
|[],_,j,_,h,_=>by simp at h
|a::c,[],j,_,_,h=>by simp at h
|a::c,z::f,0,_,h1,h2=>by
 simp at h1 h2;subst h1 h2;simp[CS]
|a::c,z::f,j+1,nd,h1,h2=>by
 rw[mZ]at nd;have d:c[j]?=some b:=by simpa using h1
 have g:f[j]?=some y:=by simpa using h2
 have ne:(b==a)=false:=beq_eq_false_iff_ne.mpr λe=>nd.1 (e▸aR d);rw[P8,fS,ne];exact HR nd.2 d g
theorem BQ{f:Type}{b:Addr}{y:f}:∀{c:List Addr}{d:List f},(c.zip d).lookup b=some y->∃j:Nat,c[j]?=some b/\d[j]?=some y
|[],_,h=>by simp[CS]at h
|a::c,[],h=>by simp[CS]at h
|a::c,z::d,h=>by
 rw[P8,fS]at h
 cases e:(b==a)with
 |true=>
  rw[e]at h;have g:b=a:=ci e;exact⟨0,by simp[g],by simpa using h⟩
 |false=>
  rw[e]at h;obtain⟨j,i,k⟩:=BQ h;exact⟨j+1,by simpa using i,by simpa using k⟩
section
variable{X:Cx}
theorem B9:∀{es ds}{j:Nat}{d},Paired LH es ds->ds[j]?=some d->∃e,es[j]?=some e/\LH e d
|_,_,_,_,.nil,h=>by simp at h
|_,_,0,_,.cons r t,h=>by simp at h;subst h;exact⟨_,Fx,r⟩
|_,_,j+1,d,.cons r t,h=>by
 obtain⟨e,a,b⟩:=B9 (j:=j) (d:=d) t (by simpa using h);exact⟨e,by simpa using a,b⟩
def yV(hc:X.calm=true):mI X (.type "list") (λxs H Q=>∃(v p:Addr)(m:List (Int×Addr×V)),xs=[.ref v]/\H v=some (A2 v p)/\GI H p m /\
  ∀(f:List Addr)(l:Addr)g,bR H g->H l=none->f.length=m.length->(∀(j:Nat)(a:Addr)(e:Int×Addr×V),f[j]?=some a->m[j]?=some e->H a=none/\g a=some (.tup [.ref e.2.1,e.2.2]))->g l=some (.lst (f.map V.ref))->Q (.ref l) g):=by
 intro Y s σ H xs us Q I r h;obtain⟨v,p,m,rfl,hv,hp,q⟩:=h;obtain⟨u,rfl,rx⟩:=oG r;cases rx;obtain⟨N,_⟩:=I.hok v _ hv;obtain⟨_,W,ob,P,ep,h3,h4,h5,T⟩:=GI.at I hp;have hsz:m.length=P.size:=by rw[<- dZ];exact l3 T
 refine AA (xs:=P) (ep:=ep) (d:=p) (I.ok.hd hc) N ⟨ob,h3,h5⟩ Fu λh' tk K c f kk U L A w=>?_;have nd:f.Nodup:=A.rise.imp λh=>bV h
 generalize M:s.heap.objs.size=l at *
 let J:List HO:=m.map λe=>HO.tup [.ref e.2.1,e.2.2]
 let g:Hp:=λb=>if b=l then some (.lst (f.map V.ref))else match(f.zip J).lookup b with | some o=>some o | none=>H b
 have t:∀a,l<=a->H a=none:=λa ha=>I.hok.fresh (by rw[M];exact ha)
 have i:∀(j:Nat)(a:Addr)(e:Int×Addr×V),f[j]?=some a->m[j]?=some e->g a=some (.tup [.ref e.2.1,e.2.2]):=λj a e k E=>by
  have na:a≠l:=(A.above a (aR k)).2.1;show(if a=l then _ else _)=_;rw[a9 na,HR nd k (y:=HO.tup [.ref e.2.1,e.2.2]) (by show(m.map _)[j]?=_;rw[aF,E];rfl)]
 have O:bR H g:=λb o e=>by
  have nb:¬l<=b:=λz=>by rw[t b z]at e;cases e
  show(if b=l then _ else _)=_;rw[a9 (show¬b=l fromλz=>nb (mN z.symm))]
  cases G:(f.zip J).lookup b with
  |none=>exact e
  |some y=>
   obtain⟨j,k,_⟩:=BQ G;exact c8 (A.above b (aR k)).1 nb
 have B:g l=some (.lst (f.map V.ref)):=b8 Fx;refine⟨.ref l,g,I.laidM (t':=tk) kk O λa o e n=>?_,Fx,q f l g O (t l (aM _)) Fu (λj a e k E=>⟨t a (A.above a (aR k)).1,i j a e k E⟩) B⟩;have hL:bO=2^24:=rfl;by_cases S:a=l
 ·subst S;rw[B]at e;cases e;refine⟨by rw[M];exact aM _,by rw[aB];lia,K.toList,c,?_,by simpa using U⟩;rw[w];clear w A nd J g t i O B q U L
  induction f with
  |nil=>exact .nil
  |cons x f ih=>exact .cons Fx ih
 ·have C:(match(f.zip J).lookup a with | some o=>some o | none=>H a)=some o:=by
   have:=e;show _=_;rw[<- this];exact(a9 S).symm
  cases G:(f.zip J).lookup a with
  |none=>rw[G]at C;rw[n]at C;cases C
  |some y=>
   rw[G]at C;cases C;obtain⟨j,k,E⟩:=BQ G;obtain⟨d,Z,d2⟩:=A.tups j a k;obtain⟨en,e1,R⟩:=B9 T (j:=j) (d:=d) (by simpa using Z);have F:(m.map λe=>HO.tup [.ref e.2.1,e.2.2])[j]?=some o:=E;rw[aF,e1]at F;cases F;exact⟨by rw[M];exact(A.above a (aR k)).1,by show 2<=bO;lia,[d.key,d.val],.cons R.2.1 (.cons R.2.2 .nil),⟨_,d2,Fx,_,Fx,Fx⟩⟩
end
end L2
namespace TL
open L2
theorem zF{K}:∀{a:List D}{vs:List V},a.length=vs.length->(∀(j:Nat)(d:D)(v:V),a[j]?=some d->vs[j]?=some v->jN K H d v)->Reps K H a vs
|[],[],_,_=>.nil
|[],_::_,h,_=>by simp at h
|_::_,[],h,_=>by simp at h
|d::a,v::vs,h,k=>.cons (k 0 d v Fx Fx) (zF (by simpa using h) λj b f c e=>k (j+1) b f (by simpa using c) (by simpa using e))
section
variable{X:Cx}{n:Expr}{b:ET}{pos:Pos}
def Xg(w:d7)(b:ET):ET:=λe Q=>b e λd=>∃a,d=qL w a/\Q (.list (a.map λc=>.tuple [c.1,c.2]))
def O5(t:jG X n b)
  (pc:∀{v:TE},PE X n v->PE X (.Call g1 [.Call (.Attribute n "items" ap) [] [] cp] [] pos) (VM (λxs H Q=>∃(v p:Addr)(c:List (Int×Addr×V)),xs=[.ref v]/\H v=some (A2 v p)/\GI H p c /\
  ∀(s:List Addr)(l:Addr)f,bR H f->H l=none->s.length=c.length->(∀(j:Nat)(a:Addr)(e:Int×Addr×V),s[j]?=some a->c[j]?=some e->H a=none/\f a=some (.tup [.ref e.2.1,e.2.2]))->f l=some (.lst (s.map V.ref))->Q (.ref l) f)
   (tE (λE H Q=>v E H λx m=>∃(p:Addr)(c:List (Int×Addr×V)),x=.ref p/\GI m p c/\∀v,m v=none->Q (.ref v) (iA m v (A2 v p))) A4))) :
  jG X (.Call g1 [.Call (.Attribute n "items" ap) [] [] cp] [] pos) (Xg X.w b):=by
 obtain⟨v,pe,re⟩:=t;refine⟨_,pc pe,λB p0 H ps F E Q QV o h k=>re B p0 H ps F E _ _ o h λd x m N r1 q1=>?_⟩;obtain⟨A,rfl,q⟩:=q1;obtain⟨p,c,J,rfl,T,U,h3,W,Y⟩:=AL r1;have y:=cV _ _ T;refine⟨p,c,Fx,.inr ⟨J,y⟩,λC g=>⟨C,p,c,Fx,dM,.inr ⟨J,(by rw[dD (iB y g)];exact y)⟩,λs l f sH hl zk u Z=>?_⟩⟩;have O:bR m f:=(eU g).trans sH;have live:=(o.grow N).live;have K:∀a,iA m C (A2 C p) a=none->a∉ps:=λa ha=>jI live (bR.free' (eU g) ha)
 have r:A.length=c.length:=by
  have:=g5 hX U;simpa using this
 refine k _ _ f (N.trans O) (.list (mT.of (mP (K l hl) Z)) (zF (by rw[aB,aB];lia) λj d v G I=>?_)) q;rw[aF]at G I;obtain⟨L,z,rfl⟩:=bM.mp G;obtain⟨a,S,rfl⟩:=bM.mp I;obtain⟨e,t⟩:∃e,c[j]?=some e:=⟨_,aD (by rw[<- r];exact(aC.mp z).1)⟩;obtain⟨f1,f2⟩:=u j a e S t;have M:=cX (ps:=ps) O;obtain⟨x1,P,y2⟩:=(W.same M).get (i:=j) (d:=L.1) (by rw[aF,z];rfl);obtain⟨x2,R,z2⟩:=(Y.same M).get (i:=j) (d:=L.2) (by rw[aF,z];rfl);rw[aF,t]at P R;cases P;cases R;exact .tuple (pG.of (mP (K a f1) f2)) (.cons y2 (.cons z2 .nil))
end
end TL
namespace L2
open TL
def LD(h:Heap)(d:Addr)(b:Array t5)(a:Nat):Prop:=∃o,h.get? d=some o/\o.ExactDict/\o.data=.dict b a
section
variable{prog:cH}{w:d7}{A:f9}{E:Value->Shared->Prop}{s:Shared}
def HZ{d:Addr}{b:Array t5}{g:Nat}{Q:Value->Shared->Prop}(hd:(d==s0)=false)(j:LD s.heap d b g)
  (h:Q (.ref s.heap.objs.size) { s with heap:=s.heap.push { cls:=.type "dict_keyiterator",data:=.fields #[.ref d,.int 0 0,.int b.size 0,.int g 0] } }) :
  wpAny (model prog w) A (dy (.ref d)) Q E s:=by
 obtain⟨o,e,i,a⟩:=id j;have c:s.TypeIs (.ref d) "dict":=⟨o,e,i.1⟩;refine uj c GD (eX GD c PySem.F.entry_dict_iter ?_ (PySem.F.args_dict_iter_1 _));unfold u2.«dict.__iter__»;refine aE ?_;unfold Builtin.Dict.dictSlotNone;refine aE (jc c ?_);show wpAny _ _ (pure (d8 d)) _ _ s;refine aL ?_;show wpAny _ _ (t4 d >>= _) _ _ s;unfold t4;rw[a9 (by rw[hd];exact bQ)];refine aE (aL ?_);refine aE (o9 e a ?_);refine aE (u4 e a ?_);have f:b.size=b.size:=rfl;refine aE (eY (aL ⟨_,Fx,"dict_keyiterator",_,⟨_,aY _ Fx,Fx⟩,gR.lookup,?_⟩));simpa[j1,f]using h
def HQ{e d:Addr}{i k:Nat}{b:Array t5}{Q:Option Value->Shared->Prop}(a:s.heap.IsKeyIter e d i b.size k)
  (r:LD s.heap d b k) (g:i<b.size)
  (n:∀l,l.IsKeyIter e d (i+1) b.size k->dY e s.heap l->Q (some b[i].key) { s with heap:=l }) :
  wpAny (model prog w) A (r8 (.ref e)) Q E s:=by
 obtain⟨o,m,p,hd⟩:=id a;obtain⟨u,h,q,f⟩:=id r;unfold r8
 refine aE (u0 (f7 (name:=c9 "__next__") a.typeIs gR
  (eX gR a.typeIs vJ ?_ (vC _))))
 refine aE (aL ?_);refine aE ?_;refine aE ?_
 first | refine aE (m9 a.typeIs (aL ?_)) | refine aE (u1 a.typeIs (aL ?_))
 refine aE (ce m hd ?_);have j:i7 "dict_keyiterator"=false:=by decide
 simp only[j,eH,i5];show wpAny _ _ (if(d8 d==e9)=true then _ else _) _ _ s;rw[a9 (show¬((d8 d==e9)=true)from bQ)];refine aE (aL ?_);refine aE (o9 h f ?_);have t:b.size=b.size:=rfl;rw[a9 Fv];refine aE (aL ?_);refine aE (u4 h f ?_);rw[a9 Fv];refine aL ?_;simp only[show¬((i:Int)<0)from by lia,i5,iJ,iN g];refine aE ?_
 first | refine aE (m9 a.typeIs (aL ?_)) | refine aE (u1 a.typeIs (aL ?_))
 refine aE (jb a.typeIs ?_);show wpAny _ _ (qt (.ref e) 1 (j1 ((i:Int)+1)) >>= _) _ _ s;refine aE (aj m hd Fv ?_)
 have c:(s.heap.update e (Obj.mapFields (·.setIfInBounds 1 (j1 ((i:Int)+1))))).IsKeyIter e d (i+1) b.size k:=
  ⟨_,fW _ m (gl (z5 hd _)),(iz ..).trans p,by rw[z5 hd];simp[j1]⟩
 refine aE (j7 ?_);refine aE (jb (s:={ s with heap:=s.heap.update e (Obj.mapFields (·.setIfInBounds 1 (j1 ((i:Int)+1)))) }) c.typeIs ?_);show wpAny _ _ (pure b[i].key) _ _ _;exact aL (aL ⟨_,Fx,aL (n _ c (dY.update ..))⟩)
def MX{j d:Addr}{i l:Nat}{e:Array t5}{Q:Option Value->Shared->Prop}(t:A.handled=none)(c:s.heap.IsKeyIter j d i e.size l)
  (u:LD s.heap d e l) (x:e.size<=i)
  (q:∀n,CU j s.heap n->Q none { s with heap:=n }):wpAny (model prog w) A (r8 (.ref j)) Q E s:=by
 obtain⟨o,p,y,hd⟩:=id c;obtain⟨z,g,r,f⟩:=id u;unfold r8
 refine aE (u0 (f7 (name:=c9 "__next__") c.typeIs gR
  (eX gR c.typeIs vJ ?_ (vC _))))
 refine aE (aL ?_);refine aE ?_;refine aE ?_
 first | refine aE (m9 c.typeIs (aL ?_)) | refine aE (u1 c.typeIs (aL ?_))
 refine aE (ce p hd ?_);have h:i7 "dict_keyiterator"=false:=by decide
 simp only[h,eH,i5];show wpAny _ _ (if(d8 d==e9)=true then _ else _) _ _ s;rw[a9 (show¬((d8 d==e9)=true)from bQ)];refine aE (aL ?_);refine aE (o9 g f ?_);have v:e.size=e.size:=rfl;rw[a9 Fv];refine aE (aL ?_);refine aE (u4 g f ?_);rw[a9 Fv];refine aL ?_;have k:e.size<=i:=x;simp only[show¬((i:Int)<0)from by lia,i5,iJ,fM k];refine aE ?_
 first | refine aE (m9 c.typeIs (aL ?_)) | refine aE (u1 c.typeIs (aL ?_))
 show wpAny _ _ (qt (.ref j) 0 .none >>= _) _ _ s;refine aE (aj p hd Fv ?_);show wpAny _ _ (ir (.type "StopIteration") [] >>= _) _ _ _;refine aE ?_;simp only[ir,newTuple];refine aE (eY ?_ (by size_fits));refine aE (m:=v8 _ _) (qw (a:=e9) (by first | rfl | (simp only[v8];rfl)) ?_);refine eY ?_ (by size_fits);simp only[raiseNew];refine aE (gz ?_);rw[show A.in1.handled=none from t];refine aE (aL (qy ?_));refine aE (ba (T:="StopIteration") (b:=true) ⟨_,aY _ Fx,Fx⟩ gf ?_);exact aL (q _ (((dY.update ..).extBut.push _).push _))
end
noncomputable def Ko(p:Addr)(a:List (Int×Addr×V))(b:Nat):It:=⟨λi H=>H p=some (zZ p a b)/\i<a.length,λi H x c=>c=H/\∃e,a[i]?=some e/\x=.ref e.2.1,λi H=>H p=some (zZ p a b)/\a.length<=i⟩
def NP{K}(p it:Addr)(es:List (Int×Addr×V))(ep:Nat):CK P w K tg (Ko p es ep) [it] it (λi h=>h.IsKeyIter it p i es.length ep) where
 mem:=by simp
 obj:=λi h st b hb=>by
  have e:b=it:=by simpa using hb
  subst e;obtain⟨o,e,c,d⟩:=st;exact⟨o,e,λv z=>by rw[d]at z;cases z⟩
 keep:=λi h h' st k=>by
  obtain⟨o,e,r⟩:=st;exact⟨o,k it Fv o e,r⟩
 item:=by
  intro X hP hw hK hc i pins s σ H E I hf st hg;subst hP hw hK;obtain⟨hp,hi⟩:=hg;obtain⟨⟨h1,h2,o,xs,h3,h4,h5,h6⟩,_⟩:=I.hok p _ hp;have hsz:es.length=xs.size:=by rw[<- dZ];exact l3 h6
  have wt:i<xs.size:=by lia
  obtain⟨f0,f1,f2,f3,f4,f5⟩:=hf it Fv;rw[hsz]at st;refine HQ st ⟨o,h3,h4,h5⟩ wt λh' fh sb=>?_;have I1:eL X pins σ H { s with heap:=h' }:=I.turned (t':=s.toks) (λb o hb e=>(sb.2 b hb).trans e) f0 f1 f3 f4 f5;obtain⟨en,e1,e2⟩:=B9 (j:=i) (d:=xs[i]) h6 (by simp[wt]);obtain⟨o',e,c,d⟩:=id fh;rw[<- hsz]at fh;rw[e2.2.1];exact⟨_,Fx,IC (s:={ s with heap:=h' }) e c d Ft ⟨.ref en.2.1,H,I1,Fx,⟨Fx,en,e1,Fx⟩,fh,λb hb=>(hf b hb).1⟩⟩
 done:=by
  intro X hP hw hK hc i pins s σ H E I hf st hg;subst hP hw hK;obtain⟨hp,hi⟩:=hg;obtain⟨⟨h1,h2,o,xs,h3,h4,h5,h6⟩,_⟩:=I.hok p _ hp;have hsz:es.length=xs.size:=by rw[<- dZ];exact l3 h6
  obtain⟨f0,f1,f2,f3,f4,f5⟩:=hf it Fv;rw[hsz]at st;exact MX (I.ok.hd hc) st ⟨o,h3,h4,h5⟩ Fu λh' eb=>⟨Fx,I.turned (t':=s.toks) (λb o hb e=>eb b o hb e) f0 f1 f3 f4 f5⟩
 self:=λ_ _ _ _ _ st h=>qx st h
section
variable{X:Cx}{a:Expr}
def Mo(e:TE):TI:=λf H R=>e f H λx b=>∃(p:Addr)(d:List (Int×Addr×V))(c:Nat),x=.ref p/\b p=some (zZ p d c)/\R (Ko p d c) b
def WN(y:PE X l tl):PI X a l (Mo tl):=by
 intro c s F H R I h;refine lK (y c s F H _ I h) λv f E=>?_;obtain⟨x,j,d,B,A⟩:=E;obtain⟨p,i,k,e,z,q⟩:=A;subst e;obtain rfl:v=d8 p:=B;obtain⟨⟨m,G,o,C,n,r,t,u⟩,_⟩:=d.hok p _ z;have g:i.length=C.size:=by rw[<- dZ];exact l3 u
 refine HZ m ⟨o,n,r,t⟩ ?_;refine⟨f.heap.objs.size,[f.heap.objs.size],_,_,j,Fx,d.kept (t':=f.toks) λb o e=>aH _ e,NP p _ i k,⟨_,aY _ Fx,Fx,by rw[g];rfl⟩,λb w=>?_,q⟩;have e:b=f.heap.objs.size:=by simpa using w
 subst e;exact d.fpOk (aM _) (d.hok.fresh (aM _))
end
end L2
namespace TL
open L2
section
variable{X:Cx}{e:Expr}{a:ET}
def Pb(w:d7)(a:ET):IT:=λc Q=>a c λd=>∃b,d=qL w b/\Q (b.map (·.1))
def W4(A:jG X e a):JG X tg e (Pb X.w a):=by
 obtain⟨T,F,re⟩:=A;refine⟨_,WN F,λB E H G f L Q R o h k=>re B E H G f L _ _ o h λd x m K J I=>?_⟩;obtain⟨b,rfl,q⟩:=I;obtain⟨p,g,t,rfl,c,N,O,j,P⟩:=AL J;refine⟨p,g,t,Fx,cV _ _ c,k (b.map (·.1)) _ m K ?_ q⟩;have S:(b.map (·.1)).length=g.length:=by rw[j.length,aB]
 refine⟨λi H e l=>⟨e _ _ c,Fu⟩,λi H e l=>⟨e _ _ c,Fu⟩,λi H qs y M _ e l C=>?_⟩;obtain⟨rfl,s,r,rfl⟩:=C;obtain⟨n,u,z⟩:=j.get' (i:=i) (v:=.ref s.2.1) (by rw[aF,r];rfl);exact⟨L2.bR.refl _,n,u,z.same e⟩
end
end TL
namespace L2
open TL
section
variable{prog:cH}{w:d7}{A:f9}{E:Value->Shared->Prop}{s:Shared}{d:Addr}{ep:Nat}{xs:Array t5}
def QQ(hh:A.handled=none)(I:Addr)(gu:d≠I) :
  Walks prog w A I [I,d] [I] xs.size (λi v=>∃e,xs[i]?=some e/\v=e.key) (λi h=>h.IsKeyIter I d i xs.size ep/\LD h d xs ep) where
 sub:=λb hb=>by simp at hb;simp[hb]
 frame:=λ_ _ _ st hk=>by
  obtain⟨⟨o,ho,r⟩,⟨p,hp,q⟩⟩:=st;exact⟨⟨o,hk I Fv o ho,r⟩,⟨p,hk d Fv p hp,q⟩⟩
 item:=λi s Q E hi st hQ=>by
  refine HQ st.1 st.2 hi λh' sq vh=>?_;obtain⟨p,hp,q⟩:=st.2;exact hQ _ h' s.toks ⟨_,iN hi,Fx⟩ ⟨sq,⟨p,vh.extBut d p gu hp,q⟩⟩ λb o hb e=>vh.extBut b o (λh=>hb (by simp[h])) e
 done:=λs Q E st hQ=>MX hh st.1 st.2 (aM _) λh' wp=>hQ h' s.toks λb o hb e=>wp b o (λh=>hb (by simp[h])) e
 self:=λ_ _ _ _ st hQ=>qx st.1 hQ
def CI{Q:Value->Shared->Prop}(hh:A.handled=none)(h0:(d==s0)=false)(hd:LD s.heap d xs ep)(hn:xs.size<=bO)
  (hQ:∀(t:Heap)(K:Nat)(a:Array Value)(c:Nat),(∀b o,s.heap.get? b=some o->t.get? b=some o)->t.get? s.heap.objs.size=some { cls:=.type "list",dict:=none,data:=.seq a c,slots:=#[] }->a.toList=xs.toList.map (·.key)->Q (.ref s.heap.objs.size) { s with heap:=t,toks:=K }) :
  wpAny (model prog w) A (call (.type "list") [.ref d]) Q E s:=by
 have f:d<s.heap.objs.size:=let ⟨_,ho,_⟩:=hd;bE ho
 refine callType_codes (Q₁:=λobj k=>obj=.ref s.heap.objs.size/\k={ s with heap:=s.heap.push { cls:=.type "list",data:=.seq #[] } }) JI (EK _) EN (code_list_new _ ⟨Fx,Fx⟩) λobj k C=>?_;obtain⟨rfl,rfl⟩:=C
 generalize l:s.heap.push { cls:=.type "list",data:=.seq #[] }=G1
 have I:G1.get? s.heap.objs.size=some { cls:=.type "list",data:=.seq #[] }:=by rw[<- l];exact aY _ Fx
 have k1:∀b o,s.heap.get? b=some o->G1.get? b=some o:=λb o e=>by rw[<- l];exact aH _ e
 have z1:G1.objs.size=s.heap.objs.size+1:=by rw[<- l,dX]
 generalize R:s.heap.objs.size=S at *
 refine⟨⟨_,I,Fx⟩,DE _ _,?_⟩;show wpAny _ _ (do let old <- r0 (.ref S);cm (.ref S) (λ_=>#[]);letGo old.toList.reverse;i3 (.ref S) (.ref d) .none) _ _ _;refine aE ?_;unfold r0;refine aE (i9 I Fx (aL ?_));show wpAny _ _ (az S (λ_=>#[]) >>= λ_=>letGo (#[]:Array Value).toList.reverse >>= λ_=>i3 (.ref S) (.ref d) .none) _ _ _;refine aE (l4 I Fx ?_);have n:=fW (d3 (λ_=>(#[]:Array Value))) I Fx
 generalize u:G1.update S (d3 (λ_=>(#[]:Array Value)))=G2 at n
 have k2:∀b o,b≠S->G1.get? b=some o->G2.get? b=some o:=λb o g e=>by rw[<- u];exact(gC _ _ (j9 g)).trans e
 have z2:G2.objs.size=S+1:=by rw[<- u,sR,z1]
 have p:LD G2 d xs ep:=let ⟨o,h1,h2⟩:=hd;⟨o,k2 d o (bV f) (k1 d o h1),h2⟩
 refine aE (y8 ?_);unfold i3;have z:m5 { s with heap:=G2 } (.ref d) "dict":=let ⟨o,h1,h2,_⟩:=p;⟨o,h1,h2.1⟩
 refine aE (bi z ?_)
 have b1:cg (.ref S) (.ref d)=false:=by
  show(S==d)=false;exact beq_eq_false_iff_ne.mpr (fA f)
 have b2:(j5 "dict"==j5 "list")=false:=by decide
 have b3:(j5 "dict"==j5 "tuple")=false:=by decide
 simp only[b1,b2,b3,rN,eH,i5];refine aE (HZ (s:={ s with heap:=G2 }) h0 p ?_);show wpAny _ _ _ _ _ { s with heap:=G2.push _ }
 generalize m:G2.push { cls:=.type "dict_keyiterator",data:=.fields #[.ref d,.int 0 0,.int xs.size 0,.int ep 0] }=G3
 have F:∀b o,G2.get? b=some o->G3.get? b=some o:=λb o e=>by rw[<- m];exact aH _ e
 have L:G3.get? (S+1)=some { cls:=.type "dict_keyiterator",data:=.fields #[.ref d,.int 0 0,.int xs.size 0,.int ep 0] }:=by rw[<- m,<- z2];exact aY _ Fx
 have z3:G3.objs.size=S+2:=by rw[<- m,dX,z2]
 have T:m5 { s with heap:=G3 } (.ref d) "dict":=let ⟨o,h1,h2⟩:=z;⟨o,F _ _ h1,h2⟩
 have j:S+1≠S:=fA (mM _);have U:d≠S+1:=bV (gM f)
 have N:S∉[S+1,d]:=by
  simp only[bA,dG,i8,ew];exact⟨j9 j,fA f⟩
 have G:∀(h:Heap)(c K:Nat),(∀b o,b≠S->G3.get? b=some o->h.get? b=some o)->h.get? S=some { cls:=.type "list",dict:=none,data:=.seq #[] c,slots:=#[] } ->
   x4 (model prog w) A.in1 (.builtin "list.extend.loop" ⟨[.ref S,.ref (S+1),.none],[]⟩) (wants (λr H=>r=e9/\Q (.ref S) H) E) { s with heap:=h,toks:=K }:=λh c K X P=>by
  have W:=(QQ (prog:=prog) (w:=w) (A:=A.in1.in1) (d:=d) (xs:=xs) (ep:=ep) (by simp[hh]) (S+1) U).toS;have st:h.IsKeyIter (S+1) d 0 xs.size ep/\LD h d xs ep:=⟨⟨_,X _ _ j L,Fx,Fx⟩,let ⟨o,h1,h2⟩:=p;⟨o,X d o (bV f) (F _ _ h1),h2⟩⟩;refine codeAny_extend_loopS W hn S N .none xs.size 0 _ #[] c Fx (dE _) st P (ItemsOf.nil _) λs' a c' J M q=>⟨Fx,?_⟩;obtain⟨t,g',d',Z,Y⟩:=s';have eg:g'=s.gens:=J.gens;have ed:d'=s.drawn:=J.drawn;have eo:Y=s.os:=J.os;subst eg;subst ed;subst eo;refine hQ t Z a c' (λb o e=>?_) M ?_
  ·have g:b<S:=by rw[<- R];exact bE e
   refine J.heap b o ?_ (X b o (bV g) (F b o (k2 b o (bV g) (k1 b o e))));simp only[bA,dG,i8,ew];exact⟨bV g,bV (gM g)⟩
  ·apply jF;intro i;rw[aF,iS,iS];by_cases hi:i<xs.size
   ·have B:i<a.size:=by have:=q.1;lia
    obtain⟨x,hx,hv⟩:=q.2 i a[i] (iN B);rw[iN B,hx,hv];rfl
   ·rw[fM (by have:=q.1;lia),fM Fu];rfl
 refine aE (j7 (PySem.W.kdl_hint_dict T ?_));dsimp only;rw[z2];refine wpAny_ite_split (λ_=>?_) (λ_=>aL ⟨x5 gB _,G _ _ _ (λb o _ e=>e) (F _ _ n)⟩);have v:=F _ _ n;refine aE (l7 (aE ?_));show wpAny _ _ (az S (·.push .none) >>= λ_=>az S (·.pop)) _ _ _;refine aE (l4 v Fx ?_);have y:=fW (d3 (·.push e9)) v Fx;refine l4 (hz:=by seq_fits) y Fx ?_;have O:=fW (d3 (·.pop)) y Fx;exact aL ⟨x5 gB _,G _ _ _ (λb o g e=>(gC _ _ (j9 g)).trans ((gC _ _ (j9 g)).trans e)) O⟩
end
theorem DZ:∀{b:List (Int×Addr×V)}{a:List t5},Paired LH b a->gO (b.map λe=>V.ref e.2.1) (a.map (·.key))
|_,_,.nil=>.nil
|_,_,.cons r t=>.cons (show _=_ from r.2.1) (DZ t)
section
variable{X:Cx}
def sO(x:X.calm=true):mI X (.type "list") (λi H Q=>∃(p:Addr)(a:List (Int×Addr×V)),i=[.ref p]/\GI H p a/\∀l,H l=none->Q (.ref l) (iA H l (.lst (a.map λe=>.ref e.2.1)))):=by
 intro g s J H i G Q I r h;obtain⟨p,a,rfl,y,q⟩:=h;obtain⟨u,rfl,B⟩:=oG r;cases B;obtain⟨k,m,o,j,E,n,t,v,f⟩:=GI.at I y;have z:a.length=j.size:=by rw[<- dZ];exact l3 f
 refine CI (I.ok.hd x) k ⟨o,n,t,v⟩ Fu λF C d c A w b=>?_;refine⟨.ref _,_,I.laid (t':=C) (o:=.lst (a.map λe=>.ref e.2.1)) A (aM _) ?_,Fx,q _ (I.hok.fresh (aM _))⟩;exact⟨by rw[aB];exact m,d.toList,c,by rw[b];exact DZ f,by simpa using w⟩
end
end L2
namespace TL
open L2
section
variable{X:Cx}{e:Expr}{a:ET}{pos:Pos}
def Xh(w:d7)(a:ET):ET:=λc Q=>a c λd=>∃b,d=qL w b/\Q (.list (b.map (·.1)))
def IG(r:jG X e a)(hs:cS [e] X.env=(false,eval e X.env)::cS [] X.env:=by rfl)
  (pc:∀{v},PA X [e] (tE v A4)->PE X (.Call g [e] [] pos) (VM (λC H Q=>∃(p:Addr)(b:List (Int×Addr×V)),C=[.ref p]/\GI H p b/\∀l,H l=none->Q (.ref l) (iA H l (.lst (b.map λe=>.ref e.2.1)))) (tE v A4))) :
  jG X (.Call g [e] [] pos) (Xh X.w a):=by
 obtain⟨v,u,re⟩:=r;refine⟨_,pc (mO u oR hs),λB t H y c E Q G o h k=>re B t H y c E _ _ o h λd x F i A z=>?_⟩;obtain⟨s,rfl,q⟩:=z;obtain⟨p,b,j,rfl,m,I,J,n,K⟩:=AL A;exact⟨p,b,Fx,.inr ⟨j,cV _ _ m⟩,λl f=>k _ _ _ (i.trans (eU f)) (rT (o.grow i).live f n) q⟩
end
end TL
namespace L2
open TL
noncomputable def Jj(lo:Int)(n:Nat):It:=⟨λi _=>i<n,λi H x a=>a=H/\x=.int (lo-i),λi _=>n<=i⟩
def NO{K}(it:Addr)(lo:Int)(n:Nat):CK P w K tg (Jj lo n) [it] it (λi h=>er h it (lo+(i:Nat)*(-1)) ((n:Int)-(i:Nat)) (-1)) where
 mem:=by simp
 obj:=λi h st b hb=>by
  have e:b=it:=by simpa using hb
  subst e
  exact⟨_,st,λv z=>by
   have z':cy _=Data.cell v:=z;cases z'⟩
 keep:=λi h h' st k=>k it Fv _ st
 item:=by
  intro X hP hw hK hc i pins s σ H E I hf st hg;subst hP hw hK;obtain⟨f0,f1,f2,f3,f4,f5⟩:=hf it Fv;have W:=Walks.range (prog:=X.prog) (w:=X.w) (I.ok.hd hc) it lo (-1) n;refine W.item i s _ _ hg st λv h' tk hv fh kk=>?_;obtain⟨t,rfl⟩:=hv;have I1:eL X pins σ H { s with heap:=h',toks:=tk }:=I.turned (λb o hb e=>kk b o (by simpa using hb) e) f0 f1 f3 f4 f5;refine⟨_,Fx,IC (s:={ s with heap:=h',toks:=tk }) (n:="range_iterator") fh Fx Fx Ft ⟨.int (lo-i),H,I1,⟨t,?_⟩,⟨Fx,Fx⟩,fh,λb hb=>(hf b hb).1⟩⟩;have e:lo+(i:Int)*(-1)=lo-i:=by lia
  rw[e]
 done:=by
  intro X hP hw hK hc i pins s σ H E I hf st hg;subst hP hw hK;obtain⟨f0,f1,f2,f3,f4,f5⟩:=hf it Fv;exact iy (I.ok.hd hc) st (by have:n<=i:=hg;lia) λh' eb=>⟨Fx,I.turned (t':=s.toks) (λb o hb e=>eb b o hb e) f0 f1 f3 f4 f5⟩
 self:=λ_ _ _ _ _ st h=>ix st h
section
variable{X:Cx}{d:Expr}
def O8{lo:Int}(a:-1<=lo)(b:lo<=100000):j8 lo (-1) (-1)=lo+1/\db lo (-1) (-1)=true:=by
 have e:j8 lo (-1) (-1)=lo+1:=by
  unfold j8;simp only[show¬((-1:Int)>0) by decide,i5,Int.neg_neg,aJ3];split<;>lia
 refine⟨e,?_⟩;unfold db;rw[e];simp only[Builtin.Range.rangeFitsLong,cL,gT,d4,av,show¬((-1:Int)>0) by decide,i5];lia
def ZC(b:TA):TI:=λc H R=>b c H λvs a=>∃i:Int,vs=[.int i,.int (-1),.int (-1)]/\-1<=i/\i<=100000/\R (Jj i (i+1).toNat) a
def WM(E:Gl X "range")(F:X.mg "range"=none)(B:PA X [a,b,c] ta)(hs:cS [a,b,c] X.env=[(false,eval a X.env),(false,eval b X.env),(false,eval c X.env)]:=by rfl)(k:cS [b,c] X.env=[(false,eval b X.env),(false,eval c X.env)]:=by rfl) :
  PI X d (.Call (.Name "range" p) [a,b,c] [] pos) (ZC ta):=by
 intro g s v H R I h;refine Call_ (tT I E F boot_range (i4 (lK (B pos g s v H _ I h) λO j N=>?_) (by rw[hs,k]) (by rw[k];rfl)));obtain⟨vs,u,w,K,G⟩:=N;obtain⟨i,e,z,A,q⟩:=G;subst e
 cases K with
 |cons r l=>
  cases l with
  |cons J l=>
   cases l with
   |cons n l=>
    cases l;obtain⟨t,rfl⟩:=r;obtain⟨t',rfl⟩:=J;obtain⟨f,rfl⟩:=n;obtain⟨L,M⟩:=O8 z A;refine call_range_3 Ft ?_ (.inl (dr Fu));refine tm (IsRange.new ..) M ?_;have m:eL X g v u { j with heap:=j.heap.push { cls:=.type "range",data:=.fields #[.int i t,.int (-1) t',.int (-1) f] },toks:=j.toks }:=w.kept λb o e=>aH _ e
    refine⟨(j.heap.push { cls:=.type "range",data:=.fields #[.int i t,.int (-1) t',.int (-1) f] }).objs.size,[(j.heap.push { cls:=.type "range",data:=.fields #[.int i t,.int (-1) t',.int (-1) f] }).objs.size],_,_,u,Fx,
     m.kept (t':=j.toks) λb o e=>aH _ e,NO _ i (i+1).toNat,?_,λb C=>?_,q⟩
    ·have x:i+((0:Nat):Int)*(-1)=i:=by simp
     have y:(((i+1).toNat:Nat):Int)-((0:Nat):Int)=j8 i (-1) (-1):=by rw[L];lia
     show er _ _ (i+((0:Nat):Int)*(-1)) ((((i+1).toNat:Nat):Int)-((0:Nat):Int)) (-1);rw[x,y];exact aY _ Fx
    ·have e:b=(j.heap.push { cls:=.type "range",data:=.fields #[.int i t,.int (-1) t',.int (-1) f] }).objs.size:=by simpa using C
     subst e;exact m.fpOk (aM _) (m.hok.fresh (aM _))
end
end L2
namespace TL
open L2
section
variable{X:Cx}{e:Expr}
noncomputable def vG(i:Int):List D:=(eW (i+1).toNat).map λ(k:Nat)=>bN (i-(k:Int))
def Wr(t:AT):IT:=λb Q=>t b λa=>∃i:Int,a=[.int i,.int (-1),.int (-1)]/\-1<=i/\i<=100000/\Q (vG i)
def W3(v:wH X [a,b,c] t)(A:∀{ta},PA X [a,b,c] ta->PI X tg (.Call (.Name "range" p) [a,b,c] [] p') (ZC ta)):JG X tg (.Call (.Name "range" p) [a,b,c] [] p') (Wr t):=by
 obtain⟨L,z,F⟩:=v;refine⟨_,A z,λB x H n m I Q R o h k=>F B x H n m I _ _ o h λK M r G f C=>?_⟩;obtain⟨i,rfl,s,u,q⟩:=C
 cases f with
 |cons f g=>
  cases g with
  |cons g l=>
   cases l with
   |cons l E=>
    cases E;cases f;cases g;cases l;refine⟨i,Fx,s,u,k (vG i) _ r G ?_ q⟩;have d:(vG i).length=(i+1).toNat:=by unfold vG;simp
    refine⟨λj H _ e=>by rw[d]at e;exact e,λj H _ e=>by rw[d]at e;exact e,λj H n y J _ _ e w=>?_⟩;obtain⟨rfl,rfl⟩:=w;refine⟨L2.bR.refl _,.int (i-j),?_,.int _⟩;rw[d]at e;unfold vG;rw[aF,gG e];rfl
end
def IH{X:Cx}(hw:X.w=w)(e:X.A.units+9<w6)(c:jG X a ta)(d:jG X b tb)(hs:UV b:=by intro _ _;rfl):jG X (.Subscript a b pos) (D7 (ZI w) ta tb):=by
 subst hw;exact XM e c d hs
structure IV where
 p:Addr
 q:Addr
 ns:List Int
 b:Bool
noncomputable def Nb(T:IV)(n:Nat)(l:Int):HO:=.dK [(.inr "script",.ref T.q),(.inr "at",.int n),(.inr "left",.int l),(.inr "digits",.bl T.b)]
section
variable{K:aQ}{H B:Hp}{d a:List Addr}{c:List Sl}{e:L2.St}{T:IV}{n:Nat}{p:Addr}
structure aMh(K:aQ)(H:Hp)(a:List Addr)(T:IV)(n:Nat):Prop where
 obj:∃l,H T.p=some (Nb T n l)
 scr:mT K (mask H a) T.q (T.ns.map V.int)
 dig:T.b=true->0<T.ns.length
structure OkC(K:aQ)(B:Hp)(d:List Addr)(H:Hp)(a:List Addr)(c:List Sl)(e:L2.St)(T:IV)(n:Nat):Prop where
 ok:Ok K B d H a c e
 mem:T.p∈d
 nb:B T.p=none
 tp:aMh K H a T n
 bq:mT K (mask B d) T.q (T.ns.map V.int)
end
structure ZP where
 nx:Nat->List Sl->Prop
 rt:Nat->D->Prop
 bk:Nat->List Sl->Prop:=λ_ _=>False
 ct:Nat->List Sl->Prop:=λ_ _=>False
abbrev STC:=D->ZP->Nat->List Sl->Prop
section
variable{X:Cx}{e:Expr}{b:ET}{x:Str}{pos a:Pos}
def ss(i:Nat)(c:X.N.Nodup)(h:jG X e b)(f:X.N[i]?=some x:=by rfl)(g:PX X.env.scope x:=by first | exact t9 Fx | exact o8 Fx)(hs:oF e (some (.Name x a)) pos.line X.env=pure false:=by rfl)
  (d:X.fn x=true\/X.env.scope.names.lookup x=some .local:=by first | exact .inl Fx | exact .inr Fx):zQ X (.Assign [.Name x a] e pos) (JZ i b):=Z6 (i:=i) h λh=>FB c f g h hs d
def pn(i:Nat)(c:X.N.Nodup)(f:X.N[i]?=some x:=by rfl)(g:PX X.env.scope x:=by first | exact t9 Fx | exact o8 Fx)(d:X.fn x=true\/X.env.scope.names.lookup x=some .local:=by first | exact .inl Fx | exact .inr Fx):PG X (.Name x pos) (mV i):=L4 c f g d
def kY{N P:List Str}{c:Scope}(d:c.kind=.function:=by rfl)(f:c.isCoroutine=false:=by rfl)(g:c.isGenerator=false:=by rfl)(h:N.Nodup:=by decide +kernel)(i:N.take P.length=P:=by rfl)(j:∀x∈P,c.names.lookup x=some .local\/c.names.lookup x=some .cell:=by decide +kernel)(k:∀y∈c.names,y.2≠.free:=by decide +kernel):bT N P c:=⟨d,f,g,h,i,j,k⟩
end
end TL
namespace L2
section
noncomputable def iZ(S T:Addr)(n a i:Nat):Array Value:=#[.ref T,.int i 0,.ref S,.int n 0,.int a 0]
end
end L2
namespace TL
open L2
section
structure Gh(K:aQ)(B:Hp)(p0:List Addr)(H0:Hp)(ps:List Addr)(H:Hp)(fb:List Sl)(σ:L2.St)(T:IV)(n i:Nat)(z:Addr):Prop where
 o:OkC K B p0 H ps fb σ T n
 r:∀l,OkC K B p0 (iA H z (.lst l)) ps (fb.set i .un) σ T n
 s:∀l,bR (mask H0 ps) (mask (iA H z (.lst l)) ps)
 nt:z≠T.p
 h:∃t x y zs,σ[i]?=some (some (.ref t))/\H t=some (.tup [x,y,.ref z])/\H z=some (.lst zs)/\zs.length<=100000
end
structure Fam where
 I:Type
 S:Type
 ad:I->List Addr
 tau:I->D
 At:I->aQ->Hp->List Addr->S->Prop
 to:∀{T:I}{K:aQ}{H H':Hp}{ps dm:List Addr}{n:S},At T K H ps n->(∀a∈ad T,H' a=H a)->bR (mask H ps) (mask H' dm)->At T K H' dm n
 liv:∀{T:I}{K:aQ}{H:Hp}{ps:List Addr}{n:S},At T K H ps n->∀a∈ad T,GA (H a)
 inj:∀{T T':I},tau T=tau T'->T=T'
section
variable{F:Fam}
structure aJy(F:Fam) where
 nx:F.S->List Sl->Prop
 rt:F.S->D->Prop
 bk:F.S->List Sl->Prop:=λ_ _=>False
 ct:F.S->List Sl->Prop:=λ_ _=>False
 xB:Hp->List Addr->Prop:=λ_ _=>True
end
end TL
namespace L2
section
variable{prog:cH}{w:d7}{A:f9}
def IM{R:Result->Shared->Prop}{I f:Addr}(S:Addr)(g:S≠I)(Q:S≠f)(m:f≠I)(hh:A.handled=none){a:List Value}{c:List Str}(u:StrsAre a c)(T:c.length+1<ck) :
  ∀(k i:Nat)(s:Shared),a.length-i=k->i<=a.length->s.heap.IsListIter I f i->s.heap.IsList f a.toArray->EJ prog w s.heap S (dd (c.take i)) ->
   (∀d C,(∀b o,b≠S->b≠I->s.heap.get? b=some o->d.get? b=some o)->EJ prog w d S (dd c)->R (.ok (.ret .none)) { s with heap:=d,toks:=C }) ->
   x4 (model prog w) A (.builtin "set.update.loop" ⟨[.ref S,.ref I],[]⟩) R s:=by
 have vd:a.length=c.length:=by
  clear T
  induction u with
  |nil=>rfl
  |cons y t _ X=>simp[X]
 intro k
 induction k with
 |zero=>
  intro i s hk hi K L E P;obtain rfl:i=a.length:=by lia
  refine z6 ab ?_;rw[v6 m8 _];show wpAny _ A.in1 (r8 (.ref I) >>= _) _ _ s;refine aE ((bt (prog:=prog) (w:=w) (A:=A.in1) hh I f m a.toArray).done s _ _ (by rw[bI];exact⟨K,L⟩) λd C x=>?_);show wpAny _ A.in1 (ret e9) _ _ _;refine aL (P d C (λb o _ T e=>x b o (by simpa using T) e) ?_);rw[lH Fu]at E;obtain⟨o,J,H,t,U,jX⟩:=E;exact⟨o,J,H,t,x S o (by simpa using g) U,jX⟩
 |succ k X=>
  intro i s hk hi K L E P;have r:i<a.length:=by lia
  refine z6 ab ?_;rw[v6 m8 _];show wpAny _ A.in1 (r8 (.ref I) >>= _) _ _ s;refine aE ((bt (prog:=prog) (w:=w) (A:=A.in1) hh I f m a.toArray).item i s _ _ (by rw[bI];exact r) ⟨K,L⟩ λv d C hP B x=>?_);have hv:a[i]?=some v:=by simpa using hP
  have W:=zC u i v hv;obtain⟨y,t,hy,rfl⟩:=W
  have N:EJ prog w d S (dd (c.take i)):=by
   obtain⟨o,J,H,tb,U,jX⟩:=E;exact⟨o,J,H,tb,x S o (by simpa using g) U,jX⟩
  show wpAny _ A.in1 (uf [Value.str y t] (setAdd S (.str y t)) >>= _) _ _ _;refine aE (j7 ?_);unfold setAdd;refine j7 (aE ((oD prog w).pyHash (k:=x8 y) (zK _ _ _ _) ?_))
  have h:(dd (c.take i)).length+1<ck:=by
   have:=Xb (c.take i);rw[bD]at this;lia
  refine wpAny_setAddHashed_of (knd:=oD prog w) (s:={ s with heap:=d,toks:=C+1 }) (zK _ _ _ _) Fx N h λM j l=>?_
  have O:EJ prog w M S (dd (c.take (i+1))):=by
   rw[FX c i y hy];refine Q2 l (λk'=>?_) ?_
   ·cases k' with
    |inl n=>
     show(false||decide ((bj n:AD)=x8 y))=false;rw[TN];rfl
    |inr z=>
     show(decide (z∈dd (c.take i))||decide ((x8 z:AD)=x8 y))=decide (z∈nH (dd (c.take i)) y);rw[TM,fH];simp only[gT,d4,D8]
   ·show(if decide (y∈dd (c.take i))=true then _ else _)=(nH (dd (c.take i)) y).length;unfold nH;by_cases G:y∈dd (c.take i)
    ·rw[b8 (a8 G),b8 G]
    ·rw[a9 (by simpa using G),a9 G];simp
  refine aL ⟨x5 m8 _,X (i+1) _ Fu r (B.1.at λo e=>(j.2 I (j9 g)).trans e) (B.2.at λo e=>(j.2 f (j9 Q)).trans e) O λh4 Z Y h5=>?_⟩;exact P h4 Z (λb o p q e=>Y b o p q ((j.2 b p).trans (x b o (by simpa using q) e))) h5
end
section
variable{X:Cx}
set_option maxHeartbeats 3200000 in
def C9{A:f9}{E:Value->Shared->Prop}{s:Shared}{l:Addr}{c:List Value}{t:List Str}{Q:Value->Shared->Prop}
  (T:A.handled=none) (U:s.heap.IsList l c.toArray) (z:StrsAre c t) (P:t.length+1<ck)
  (h:∀(d:Heap)(j:Nat),EJ prog w d s.heap.objs.size (dd t)->(∀b o,s.heap.get? b=some o->d.get? b=some o)->Q (.ref s.heap.objs.size) { s with heap:=d,toks:=j }) :
  wpAny (model prog w) A (call (.type "set") [.ref l]) Q E s:=by
 obtain⟨c0,Fi,W⟩:=iR.mro;have Y:=iR.made;have H:=iR.sub;refine tj (codeAny_of_tree ?_);show wpAny _ _ (callAny (.type "set") _) _ _ _;refine aL ⟨Code.quiet_builtin _ Fq,z6 PySem.F.entry_type_call ?_⟩;rw[Around.under_plain (weight_type_call_type "set" [.ref l] []) rfl];have k1:=iR.notType;have k2:=iR.canCreate;have k3:=PySem.F.typeCall_set_1 (.ref l)
 repeat (any_goals (first | assumption | wp_step))
 refine bd (code_set_new_1 (.ref l) (E:=E) (Q₁:=λobj L=>∃a:Bool,obj=.ref s.heap.objs.size/\L={ s with heap:=s.heap.push { cls:=.type "set",dict:=none,data:=.set #[] 0 (.fresh 0 0 a) } }) λa=>⟨a,Fx,Fx⟩) λr L y=>?_
 cases r with
 |error e=>exact y
 |ok fl=>
  cases fl with
  |ret obj=>
   obtain⟨a,rfl,rfl⟩:=y;have G:(s.heap.push { cls:=.type "set",dict:=none,data:=.set #[] 0 (.fresh 0 0 a) }).get? s.heap.objs.size=some { cls:=.type "set",dict:=none,data:=.set #[] 0 (.fresh 0 0 a) }:=aY _ Fx;have tS:m5 { s with heap:=s.heap.push { cls:=.type "set",dict:=none,data:=.set #[] 0 (.fresh 0 0 a) } } (.ref s.heap.objs.size) "set":=⟨_,G,Fx⟩;have k4:=iR.init.lookup;have k5:=iR.init.bind (.ref s.heap.objs.size)
   repeat (any_goals (first | assumption | wp_step))
   refine bd (codeAny_call_builtin (R:=wants (λr M=>r=.none/\∃d j,M={ s with heap:=d,toks:=j }/\EJ prog w d s.heap.objs.size (dd t)/\(∀b o,s.heap.get? b=some o->d.get? b=some o)) E) iR.init.plain PySem.F.entry_set_init (check_set_init_1 tS ?_)) λZ M g=>?_
   ·obtain⟨⟨K,i,C,f⟩,p,m,J,n⟩:=U;simp only at m n;subst m;subst n;have N:(s.heap.push { cls:=.type "set",dict:=none,data:=.set #[] 0 (.fresh 0 0 a) }).get? l=some { cls:=.type "list",dict:=i,data:=.seq c.toArray J,slots:=f }:=aH _ p;have k6:=PySem.F.sub_list_set;have k7:=PySem.F.sub_list_frozenset;have k8:(j5 "list"==j5 "dict")=false:=by decide
    have q:(s.heap.push { cls:=.type "set",dict:=none,data:=.set #[] 0 (.fresh 0 0 a) }).IsList l c.toArray:=⟨_,N,Fx,J,Fx⟩;unfold u2.«set.__init__» noKeywords Builtin.Frozenset.updateFrom
    generalize x:dy=PI
    wp_walk
    subst x;refine j4 q (aE (wpAny_runValue ?_));have I:l<s.heap.objs.size:=bE p;have O:A.in1.in1.handled=none:=by simp[T]
    refine IM s.heap.objs.size ?_ (fA I) ?_ O z P c.length 0 _ Fu (dE _) ?_ ?_ ?_ λd j B v=>?_
    ·show s.heap.objs.size≠(s.heap.push _).objs.size;rw[dX];exact bV (mM _)
    ·show l≠(s.heap.push _).objs.size;rw[dX];exact bV (gM I)
    ·exact⟨_,aY _ Fx,Fx,Fx⟩
    ·exact q.at λo e=>aH _ e
    ·exact⟨_,#[],0,_,aH _ G,⟨Fx,Fx,Fx⟩,Fx,λe S=>by simp at S,λk=>by cases k<;>simp[dd],by unfold ck;simp,Fx,Fx⟩
    ·show wpAny _ _ _ _ _ _;refine aL ?_;show wpAny _ _ (ret e9) _ _ _;refine aL ⟨Fx,d,j,Fx,v,λb o e=>B b o (bV (bE e)) ?_ (aH _ (aH _ e))⟩;show b≠(s.heap.push _).objs.size;rw[dX];exact bV (gM (bE e))
   ·cases Z with
    |error e=>exact g
    |ok u=>
     cases u with
     |ret r=>
      obtain⟨rfl,d,j,rfl,v,B⟩:=g
      repeat (any_goals (first | assumption | wp_step))
      exact h _ _ v B
     |_=>exact g.elim
  |_=>exact y.elim
def uA(j:X.calm=true):mI X (.type "set") (λg H Q=>∃(p:Addr)(a:List Str),g=[.ref p]/\mT X.K H p (a.map V.str)/\a.length<=1000/\∀q,H q=none->Q (.ref q) (iA H q (US X.prog X.w q (dd a).length))):=by
 intro f s F H g E Q I r h;obtain⟨p,a,rfl,l,B,q⟩:=h;obtain⟨u,rfl,y⟩:=oG r;cases y;obtain⟨m,x,v,_⟩:=I.list l;refine C9 (I.ok.hd j) v.isList (AJ x) (by unfold ck;lia) λi C e n=>?_;obtain⟨o,d,c,t,b,jX⟩:=id e;refine⟨.ref _,_,I.laid n (aM _) (show mH X.prog X.w _ i _ (US X.prog X.w s.heap.objs.size (dd a).length)from⟨⟨_,e⟩,⟨o,b⟩,?_⟩),Fx,q _ (I.hok.fresh (aM _))⟩;rintro z A ⟨S,o,d,c,t,b,jX⟩ k;exact⟨S,o,d,c,t,k o b,jX⟩
end
end L2
namespace TL
open L2
section
variable{X:Cx}{e:Expr}{a:ET}{pos:Pos}
def IL(a:ET):ET:=λc Q=>a c λd=>∃b:List Str,d=.list (b.map aO)/\b.length<=1000/\Q (.int (dd b).length)
def B5(g:jG X e a)(hs:cS [e] X.env=(false,eval e X.env)::cS [] X.env:=by rfl)
  (pc:∀{v},PA X [e] (tE v A4)->PE X (.Call g1 [.Call g2 [e] [] p2] [] pos) (VM (λc H Q=>∃(q:Addr)(n:Nat),c=[.ref q]/\H q=some (US X.prog X.w q n)/\Q (.int n) H)
   (tE (VM (λc H Q=>∃(p:Addr)(b:List Str),c=[.ref p]/\mT X.K H p (b.map V.str)/\b.length<=1000/\∀q,H q=none->Q (.ref q) (iA H q (US X.prog X.w q (dd b).length))) (tE v A4)) A4))) :
  jG X (.Call g1 [.Call g2 [e] [] p2] [] pos) (IL a):=by
 obtain⟨v,m,re⟩:=g;refine⟨_,pc (mO m oR hs),λB l H r f z Q C o h k=>re B l H r f z _ _ o h λd x A y u t=>?_⟩;obtain⟨b,rfl,j,q⟩:=t
 cases u with
 |list i s=>
  have e:=uO s;subst e;refine⟨_,b,Fx,L2.bR.seq cV i,j,λw hw=>⟨w,_,Fx,dM,k _ _ _ (y.trans (eU hw)) (.int _) q⟩⟩
end
end TL
namespace L2
noncomputable abbrev fO(x q:Str)(st:Stmt)(kV dc a:Value)(an:Option Addr)(cd ct:Value):jH:=nK x q (xK st) (nI st) (bF st) .none kV dc a an cd ct
def Lm{c:Type}{P:List c->Prop}(h:∀a,P [a]):∀b:List c,b.length=1->P b
|[a],_=>h a
def Ln{d:Type}{P:List d->Prop}(h:∀a b,P [a,b]):∀c:List d,c.length=2->P c
|[a,b],_=>h a b
def Lo{e:Type}{P:List e->Prop}(h:∀a b c,P [a,b,c]):∀d:List e,d.length=3->P d
|[a,b,c],_=>h a b c
def Lp{f:Type}{P:List f->Prop}(h:∀a b c d,P [a,b,c,d]):∀e:List f,e.length=4->P e
|[a,b,c,d],_=>h a b c d
def Lq{g:Type}{P:List g->Prop}(h:∀a b c d e,P [a,b,c,d,e]):∀f:List g,f.length=5->P f
|[a,b,c,d,e],_=>h a b c d e
abbrev pT(x q:Str)(st:Stmt)(b:List Str):Prop:=∀(kV dc c:Value)(an:Option Addr)(cd ct:Value)(a:List Value),a.length=b.length->bindArgs (fO x q st kV dc c an cd ct) ⟨a,[]⟩=pure (b.zip a)
structure Dg(K:aQ)(x q:Str)(st:Stmt)(a:Addr)(f:jH)(ps:List Str):Prop where
 k:jS K (.ref a)=true
 F:P6 K x q st a f
 d:xS K f ps []
structure Df(K:aQ)(mg:Str->Option Value)(x:Str)(st:Stmt)(a:Addr)(f:jH)(ps:List Str):Prop extends Dg K x x st a f ps where
 m:mg x=some (.ref a)
section
variable{K:aQ}{h:Heap}{mg:Str->Option Value}{x q:Str}{st:Stmt}{i:List Str}{f:Addr}{j:Value}{m an:Option Addr}{n:Array (Option Value)}{kV dc g cd ct:Value}
def dg(b:pT x q st i)(l:K.lookup f=some ⟨j,m,.func (fO x q st kV dc g an cd ct),n⟩)(c:pV K cd q=true)(k:jS K (.ref f)=true):Dg K x q st f (fO x q st kV dc g an cd ct) i:=⟨k,T2 l c k,(T2 l c k).binds b⟩
def df(X:K.In h)(G:h.Ns iV mg)(b:pT x x st i)(a:PySem.W.nsIn K iV x=some (some (.ref f)))(l:K.lookup f=some ⟨j,m,.func (fO x x st kV dc g an cd ct),n⟩)(c:pV K cd x=true)(k:jS K (.ref f)=true):Df K mg x st f (fO x x st kV dc g an cd ct) i:=⟨dg b l c k,PySem.W.mg_of X G a⟩
def K8(h:∀kV dc g an cd ct k,bindArgs (fO x q st kV dc g an cd ct) ⟨[k],[]⟩=pure ([p0].zip [k]):=by intros;rfl):pT x q st [p0]:=λa b c d e f=>Lm (h a b c d e f)
def wB(h:∀kV dc g an cd ct k l,bindArgs (fO x q st kV dc g an cd ct) ⟨[k,l],[]⟩=pure ([p0,p1].zip [k,l]):=by intros;rfl):pT x q st [p0,p1]:=λa b c d e f=>Ln (h a b c d e f)
def zP(h:∀kV dc g an cd ct k l a2,bindArgs (fO x q st kV dc g an cd ct) ⟨[k,l,a2],[]⟩=pure ([p0,p1,p2].zip [k,l,a2]):=by intros;rfl):pT x q st [p0,p1,p2]:=λa b c d e f=>Lo (h a b c d e f)
def Gd(h:∀kV dc g an cd ct k l a2 o,bindArgs (fO x q st kV dc g an cd ct) ⟨[k,l,a2,o],[]⟩=pure ([p0,p1,p2,p3].zip [k,l,a2,o]):=by intros;rfl):pT x q st [p0,p1,p2,p3]:=λa b c d e f=>Lp (h a b c d e f)
def Ji(h:∀kV dc g an cd ct k l a2 o a4,bindArgs (fO x q st kV dc g an cd ct) ⟨[k,l,a2,o,a4],[]⟩=pure ([p0,p1,p2,p3,p4].zip [k,l,a2,o,a4]):=by intros;rfl):pT x q st [p0,p1,p2,p3,p4]:=λa b c d e f=>Lq (h a b c d e f)
def na{C:Addr}{f}(h:pU K (.ref C) f=some none):Vz K C f:=h
end
end L2
namespace TL
open L2
section
variable{X:Cx}{e:Expr}{c:List Expr}{o:ET}{x:Str}{pos j p:Pos}
def cd{k n:Nat}{f:Addr}{pn st}(F:dP X.prog X.w X.K X.mg X.base gQ k f fd pn (cM X.K sp))(D:Df X.K X.mg x st f fd pn)(g:Room n X.A)(i:wH X (e::c) t)(hk:k<=n:=by decide)
  (q:Gl X x:=by rfl) (a:(x==("__debug__":Str))=false:=by decide) (l:cS (e::c) X.env=(false,eval e X.env)::cS c X.env:=by rfl) (b:(r4 pos (cS c X.env)).any (·.1)=false:=by rfl):jG X (.Call (.Name x p) (e::c) [] pos) (lA sp t):=XN F D.m D.k D.d (g.mono hk) i λh=>FG F (g.mono hk) q D.m D.k D.d .nil R0 h a l b
def cF{k n:Nat}{f:Addr}{pn st}(F:dP X.prog X.w X.K X.mg X.base gQ k f fd pn (gX X.K sp))(D:Df X.K X.mg x st f fd pn)(g:Room n X.A)(i:wH X (e::c) t)(hk:k<=n:=by decide)
  (q:Gl X x:=by rfl) (a:(x==("__debug__":Str))=false:=by decide) (l:cS (e::c) X.env=(false,eval e X.env)::cS c X.env:=by rfl) (b:(r4 pos (cS c X.env)).any (·.1)=false:=by rfl):JH X (.Call (.Name x p) (e::c) [] pos) (ZJ sp t):=XD F D.m D.k D.d (g.mono hk) i λh=>FG F (g.mono hk) q D.m D.k D.d .nil R0 h a l b
def cQ{k n:Nat}{f:Addr}{pn st}(F:dP X.prog X.w X.K X.mg X.base gQ k f fd pn (uQ X.K sp))(D:Df X.K X.mg x st f fd pn)(g:Room n X.A)(i:wH X (e::c) t)(hk:k<=n:=by decide)
  (q:Gl X x:=by rfl) (a:(x==("__debug__":Str))=false:=by decide) (l:cS (e::c) X.env=(false,eval e X.env)::cS c X.env:=by rfl) (b:(r4 pos (cS c X.env)).any (·.1)=false:=by rfl):Iq X (.Call (.Name x p) (e::c) [] pos) (YK sp t):=RP F D.m D.k D.d (g.mono hk) i λh=>FG F (g.mono hk) q D.m D.k D.d .nil R0 h a l b
def sf{iter}(i:JG X tg iter ti)(k:M8 X tg g)(f:sT X body tb)(l:PassesOwn (model X.prog X.w) X.A X.env X.xe:=by exact v4)(h:X.calm=true:=by rfl)(hs:∀x,j3 iter X.env x=pure x:=by intro _;rfl):zQ X (.For tg iter body [] pos) (WB ti g tb):=Z8 i k f λa b d=>Xt l h a b d hs
def el{iter o}(i:JG X tg iter ti)(d:∀b:BP,M8 (blk X scope N' b) tg g/\F8 (blk X scope N' b) ifs tt/\jG (blk X scope N' b) elt o)(h:sN scope X.env.scope X.N N' fr=true:=by kernel_rfl)(f:X.calm=true:=by rfl)(hs:∀x,j3 iter X.env x=pure x:=by intro _;rfl):jG X (.ListComp elt [⟨tg,iter,ifs,0⟩] scope pos) (P4 fr ti g tt o):=Nw i d λa b=>RW h f a b hs
def fl{iter o}(i:JG X tg iter ti)(d:∀b:BP,M8 (blk X scope N' b) tg g/\F8 (blk X scope N' b) ifs tt/\jG (blk X scope N' b) elt o)(h:sN scope X.env.scope X.N N' fr=true:=by kernel_rfl)(f:X.calm=true:=by rfl)(hs:∀x,j3 iter X.env x=pure x:=by intro _;rfl):JH X (.ListComp elt [⟨tg,iter,ifs,0⟩] scope pos) (Gn fr ti g tt o):=Ox i d λa b=>RW h f a b hs
def cY{r:List V->Hp->VK->Prop}{f:List D->(D->Prop)->Prop}(k:vI X r f)(d:wH X (e::c) t)(g:mI X (.type T) r)(m:X.mg x=none)(q:f6 x=some (.type T))(l:Gl X x:=by rfl)(n:x≠"__name__":=by decide)(a:(x==("__debug__":Str))=false:=by decide)(i:cS (e::c) X.env=(false,eval e X.env)::cS c X.env:=by rfl)(b:(r4 pos (cS c X.env)).any (·.1)=false:=by rfl):jG X (.Call (.Name x p) (e::c) [] pos) (lA f t):=ZM k d λh=>kQ g l m q h n a i b
def cB{r:List V->Hp->VK->Prop}{f:List D->(D->Prop)->Prop}(k:vI X r f)(d:wH X (e::c) t)(g:mI X (.builtin T) r)(m:X.mg x=none)(q:f6 x=some (.builtin T))(l:Gl X x:=by rfl)(n:x≠"__name__":=by decide)(a:(x==("__debug__":Str))=false:=by decide)(i:cS (e::c) X.env=(false,eval e X.env)::cS c X.env:=by rfl)(b:(r4 pos (cS c X.env)).any (·.1)=false:=by rfl):jG X (.Call (.Name x p) (e::c) [] pos) (lA f t):=ZM k d λh=>BH g l m q h n a i b
def so(i:Nat)(a:X.N.Nodup)(h:wH X c t)(d:X.N[i]?=some x:=by rfl)(f:PX X.env.scope x:=by first | exact t9 Fx | exact o8 Fx)(hs:oF (.List c p2) (some (.Name x j)) pos.line X.env=pure false:=by rfl)(b:X.fn x=true\/X.env.scope.names.lookup x=some .local:=by first | exact .inl Fx | exact .inr Fx):zQ X (.Assign [.Name x j] (.List c p2) pos) (V9 i t):=Z7 (i:=i) h λh=>FB a d f h hs b
def sn(i:Nat)(a:X.N.Nodup)(d:X.N[i]?=some x:=by rfl)(f:PX X.env.scope x:=by first | exact t9 Fx | exact o8 Fx)(hs:oF (.Dict [] [] p2) (some (.Name x j)) pos.line X.env=pure false:=by rfl)(b:X.fn x=true\/X.env.scope.names.lookup x=some .local:=by first | exact .inl Fx | exact .inr Fx):zQ X (.Assign [.Name x j] (.Dict [] [] p2) pos) (RA i):=V0 (i:=i) λh=>FB a d f h hs b
def sF(i:Nat)(a:X.N.Nodup)(h:JH X e t)(d:X.N[i]?=some x:=by rfl)(f:PX X.env.scope x:=by first | exact t9 Fx | exact o8 Fx)(hs:oF e (some (.Name x j)) pos.line X.env=pure false:=by rfl)(b:X.fn x=true\/X.env.scope.names.lookup x=some .local:=by first | exact .inl Fx | exact .inr Fx):zQ X (.Assign [.Name x j] e pos) (G0 i t):=VZ (i:=i) h λh=>FB a d f h hs b
noncomputable def Kx(l:List Str):Bool:=decide l.Nodup
def pk(i:Nat)(a:Kx X.N=true:=by kernel_rfl)(d:X.N[i]?=some x:=by rfl)(f:PX X.env.scope x:=by first | exact t9 Fx | exact o8 Fx)(b:X.fn x=true\/X.env.scope.names.lookup x=some .local:=by first | exact .inl Fx | exact .inr Fx):PG X (.Name x pos) (mV i):=L4 (c5 a) d f b
def tv(h:jG X e o)(a:∀whole,isTrue e X.env whole=(do let v <- whole;standAt e.pos;uf [v] (truthy v)):=by intro _;rfl):IW X e (xN o):=ZX h λh=>Xv h a
end
section
variable{X:Cx}{e b:Expr}{a:ET}
def Oz(x:D)(Q:D->Prop):Prop:=match x with | .bool b=>Q (.int (if b then 1 else 0)) | _=>False
def Nt(a:ET):ET:=λc Q=>a c λx=>Oz x Q
def AW(l:jG X e a)(n:∀{v},PA X [e] (tE v A4)->PE X (.Call (.Name "int" q1) [e] [] q2) (VM (λg H Q=>(∃i,g=[.int i]/\Q (.int i) H)\/∃k,g=[.bl k]/\Q (.int (if k then 1 else 0)) H) (tE v A4)))(hs:cS [e] X.env=(false,eval e X.env)::cS [] X.env:=by rfl):jG X (.Call (.Name "int" q1) [e] [] q2) (Nt a):=by
 obtain⟨v,p,r⟩:=l;refine⟨_,n (mO p oR hs),λB m H q c u Q w o h k=>r B m H q c u _ _ o h λd x j t s f=>?_⟩
 cases s with
 |bool b=>exact .inr ⟨b,Fx,k _ _ j t (.int _) f⟩
 |_=>exact f.elim
end
end TL
namespace SS
structure GS(a0:Array jf)(g:Nat->Nat)(pd:Array (Nat×Nat×Nat))(st:SortSt):Prop where
 size:(ax st).size=a0.size
 get:∀p,p<a0.size->(ax st)[p]?=a0[g p]?
 rng:∀p,p<a0.size->g p<a0.size
 kind:kindOf st=oneType'
 fail:gc st=none
 pend:cj st=pd
noncomputable def Hi(g:Nat->Nat)(i j:Nat):Nat->Nat:=λk=>if i<=k/\k<j then g (i+j-1-k)else g k
noncomputable def Hn(g:Nat->Nat)(b a:Nat):Nat->Nat:=λk=>if k=a then g b else if a<k/\k<=b then g (k-1)else g k
section
variable{prog:cH}{w:d7}{A:f9}{E:Value->Shared->Prop}{s:Shared}{d:Array jf}{g:Nat->Nat}{f:Array (Nat×Nat×Nat)}{st:SortSt}
def UM(b:IntKeys d){i:Nat}(c:i<d.size):∃t q,d[i]?=some (.int (K d i) t,q):=by
 obtain⟨n,t,h⟩:=b d[i] Fv;have e:d[i]?=some d[i]:=fm _ i c;refine⟨t,d[i].2,?_⟩;have a:d[i]=(.int n t,d[i].2):=Prod.ext h Fx;unfold K;rw[e,a]
 rfl
def GS.mirr(h:GS d g f st){i j:Nat}(hj:j<=d.size):GS d (Hi g i j) f (setArr st (mirror (ax st) i j ((j-i) / 2))) where
 size:=(mirror_size _ _ _ _).trans h.size
 get:=λp hp=>by
  refine(getElem?_mirror_all (by rw[h.size];exact hj) p).trans ?_;unfold Hi;split
  ·exact h.get _ Fu
  ·exact h.get _ hp
 rng:=λp hp=>by
  unfold Hi;split
  ·exact h.rng _ Fu
  ·exact h.rng _ hp
 kind:=h.kind
 fail:=h.fail
 pend:=h.pend
def GS.bubb(h:GS d g f st){src uq:Nat}(hs:src<d.size)(hd:uq<=src):GS d (Hn g src uq) f (setArr st (bubble (ax st) src (src-uq))) where
 size:=(bubble_size _ _ _).trans h.size
 get:=λp hp=>by
  refine(getElem?_bubble (by rw[h.size];exact hs) _ Fu p).trans ?_;rw[show src-(src-uq)=uq by lia];unfold Hn;split
  ·exact h.get _ hs
  ·split
   ·exact h.get _ Fu
   ·exact h.get _ hp
 rng:=λp hp=>by
  unfold Hn;split
  ·exact h.rng _ hs
  ·split
   ·exact h.rng _ Fu
   ·exact h.rng _ hp
 kind:=h.kind
 fail:=h.fail
 pend:=h.pend
def wM{p q:Nat}{Q:Option Bool->SortSt->Prop}(h:GS d g f st)(a:IntKeys d)(b:p<d.size)(c:q<d.size)
  (k:Q (some (decide (K d (g p)<K d (g q)))) st):wpS (model prog w) A E s (ltAt' p q) Q st:=by
 obtain⟨t,x,e⟩:=UM a (h.rng p b);obtain⟨u,y,i⟩:=UM a (h.rng q c);exact wpS_ltAt h.kind ((h.get p b).trans e) ((h.get q c).trans i) k
noncomputable def PN(lo a c:Nat):StateT SortSt Sem AscSt:=
 ii [a:c] ((none,a):AscSt) λ_ z=>do
  let x <- ltAt' (lo+z.snd) (lo+z.snd-1)
  match x with
  |some b=>if b=true then pure (w5 (none,z.snd))else pure (h8 (none,z.snd+1))
  |_=>pure (w5 (some none,z.snd))
noncomputable def DL(lo n a:Nat):StateT SortSt Sem (Option Nat):=do
 x6 lo (lo+n)
 let z <- PN lo n a
 match z.fst with
 |some r=>pure r
 |none=>pure (some z.snd)
noncomputable def MY(lo n a:Nat):StateT SortSt Sem DescSt:=
 ii [n:a] ((none,n,0):DescSt) λ_ z=>do
  let x <- ltAt' (lo+z.snd.fst) (lo+z.snd.fst-1)
  match x with
  |some b=>
   if b=true then
    if z.snd.snd>0 then do
     x6 (lo+z.snd.fst-(z.snd.snd+1)) (lo+z.snd.fst)
     pure (h8 (none,z.snd.fst+1,0))
    else pure (h8 (none,z.snd.fst+1,0))
   else do
    let x <- ltAt' (lo+z.snd.fst-1) (lo+z.snd.fst)
    match x with
    |some c=>
     if c=true then pure (w5 (none,z.snd.fst,z.snd.snd))
     else pure (h8 (none,z.snd.fst+1,z.snd.snd+1))
    |_=>pure (w5 (some none,z.snd.fst,z.snd.snd))
  |_=>pure (w5 (some none,z.snd.fst,z.snd.snd))
noncomputable def HB(lo n a:Nat):StateT SortSt Sem (Option Nat):=do
 liftM (rule "list.sort.descending-run")
 let z <- MY lo (n+1) a
 match z.fst with
 |some r=>pure r
 |none=>
  if z.snd.snd>0 then do
   x6 (lo+z.snd.fst-(z.snd.snd+1)) (lo+z.snd.fst)
   DL lo z.snd.fst a
  else DL lo z.snd.fst a
def PC(lo a:Nat):countRun' lo a=(do
  let z <- PN lo 1 a
  match z.fst with
  |some r=>pure r
  |none=>
   if(z.snd==a)=true then pure (some z.snd)
   else if z.snd>1 then do
    let x <- ltAt' lo (lo+z.snd-1)
    match x with
    |some b=>if b=true then pure (some z.snd)else do
      x6 lo (lo+z.snd)
      HB lo z.snd a
    |_=>pure none
   else HB lo z.snd a):=by
 have k:∀(n:Nat),DL lo n a=(do
   x6 lo (lo+n)
   let z <- PN lo n a
   match z with
   | (some r,_)=>pure r
   | (none,m)=>pure (some m)):=λn=>by
  unfold DL;congr 1;funext _;congr 1;funext z;obtain⟨r,m⟩:=z;cases r<;>rfl
 rw[countRun'_eq];unfold HB;simp only[k];unfold PN MY;congr 1;funext z;obtain⟨r,n⟩:=z
 cases r with
 |some r=>rfl
 |none=>
  dsimp only;split
  ·rfl
  ·split
   ·congr 1;funext x
    cases x with
    |none=>rfl
    |some b=>
     dsimp only;split
     ·rfl
     ·congr 1;funext _;congr 1;funext _;congr 1;congr 1;funext y;obtain⟨e,i,j⟩:=y
      cases e with
      |some e=>rfl
      |none=>
       dsimp only;split
       ·congr 1;funext _;congr 1;funext _;congr 1;funext u;obtain⟨c,h⟩:=u;cases c<;>rfl
       ·congr 1;funext _;congr 1;funext u;obtain⟨c,h⟩:=u;cases c<;>rfl
   ·congr 1;funext _;congr 1;congr 1;funext y;obtain⟨e,i,j⟩:=y
    cases e with
    |some e=>rfl
    |none=>
     dsimp only;split
     ·congr 1;funext _;congr 1;funext _;congr 1;funext u;obtain⟨c,h⟩:=u;cases c<;>rfl
     ·congr 1;funext _;congr 1;funext u;obtain⟨c,h⟩:=u;cases c<;>rfl
end
section
variable{prog:cH}{w:d7}{A:f9}{E:Value->Shared->Prop}{s:Shared}{b:Array jf}{g:Nat->Nat}{e:Array (Nat×Nat×Nat)}{st:SortSt}{lo n d:Nat}
def GL{a:Nat}{Q:AscSt->SortSt->Prop}(j:IntKeys b)(p:lo+d<=b.size)(o:1<=a)(f:a<=d)(k:GS b g e st)
  (h:∀m,a<=m->m<=d->Q (none,m) st):wpS (model prog w) A E s (PN lo a d) Q st:=by
 unfold PN;refine z9 (I:=λx c z=>z=st/\c=(none,x)) ?step ?fin ⟨Fx,Fx⟩
 case fin=>
  rintro c z ⟨rfl,rfl⟩;rw[show max a d=d by lia];exact h d f (aM _)
 case step=>
  rintro x c z i l ⟨rfl,rfl⟩;dsimp only;refine g8 (wM k j Fu Fu ?_)
  cases decide (K b (g (lo+x))<K b (g (lo+x-1)))with
  |true=>exact j2 (h x i Fu)
  |false=>exact j2 ⟨Fx,Fx⟩
def wL{i j:Nat}{Q:Unit->SortSt->Prop}(h:Q () (setArr st (mirror (ax st) i j ((j-i) / 2)))):wpS (model prog w) A E s (x6 i j) Q st:=by
 rw[reverseSlice'_eq];exact gk h
def NI{Q:DescSt->SortSt->Prop}(l:IntKeys b)(r:lo+d<=b.size)(q:1<=n)(k:n<=d)(o:GS b g e st)
  (h:∀m ne f i,GS b f e i->n<=m->m<=d->Q (none,m,ne) i):wpS (model prog w) A E s (MY lo n d) Q st:=by
 unfold MY;refine z9 (I:=λx c z=>∃ne f,c=(none,x,ne)/\GS b f e z) ?step ?fin ⟨0,g,Fx,o⟩
 case fin=>
  rintro c z ⟨ne,f,rfl,a⟩;rw[show max n d=d by lia];exact h d ne f z a k (aM _)
 case step=>
  rintro x c z j p ⟨ne,f,rfl,a⟩;dsimp only;refine g8 (wM a l Fu Fu ?_)
  cases decide (K b (f (lo+x))<K b (f (lo+x-1)))with
  |true=>
   dsimp only;rw[b8 rfl];split
   ·exact g8 (wL (j2 ⟨0,_,Fx,a.mirr Fu⟩))
   ·exact j2 ⟨0,_,Fx,a⟩
  |false=>
   dsimp only;rw[a9 Ft];refine g8 (wM a l Fu Fu ?_)
   cases decide (K b (f (lo+x-1))<K b (f (lo+x)))with
   |true=>exact j2 (h x ne f z a j Fu)
   |false=>exact j2 ⟨ne+1,f,Fx,a⟩
def DF{Q:Option Nat->SortSt->Prop}(l:IntKeys b)(q:lo+d<=b.size)(o:1<=n)(f:n<=d)(p:GS b g e st)
  (h:∀m k c,GS b k e c->1<=m->m<=d->Q (some m) c):wpS (model prog w) A E s (DL lo n d) Q st:=by
 unfold DL;refine g8 (wL ?_);have a:=p.mirr (i:=lo) (j:=lo+n) Fu;exact g8 (GL l q o f a λm t r=>j2 (h m _ _ a Fu r))
def DG{Q:Option Nat->SortSt->Prop}(i:IntKeys b)(j:lo+d<=b.size)(k:n+1<=d)(p:GS b g e st)
  (h:∀m l a,GS b l e a->1<=m->m<=d->Q (some m) a):wpS (model prog w) A E s (HB lo n d) Q st:=by
 unfold HB;refine g8 (wpS_lift (l7 ⟨Fx,?_⟩));refine g8 (NI i j Fu k p λm ne l a c q o=>?_);dsimp only;by_cases f:ne>0
 ·rw[b8 f];exact g8 (wL (DF i j Fu o (c.mirr Fu) h))
 ·rw[a9 f];exact DF i j Fu o c h
def JP{Q:Option Nat->SortSt->Prop}(j:IntKeys b)(k:lo+d<=b.size)(q:1<=d)(a:GS b g e st)
  (h:∀m p i,GS b p e i->1<=m->m<=d->Q (some m) i):wpS (model prog w) A E s (countRun' lo d) Q st:=by
 rw[PC];refine g8 (GL j k (aM 1) q a λm l o=>?_);dsimp only;by_cases f:m=d
 ·rw[b8 (by simpa using f)];exact j2 (h m g st a l o)
 ·rw[a9 (by simpa using f)];by_cases c:m>1
  ·rw[b8 c];refine g8 (wM a j Fu Fu ?_)
   cases decide (K b (g lo)<K b (g (lo+m-1)))with
   |true=>exact j2 (h m g st a l o)
   |false=>exact g8 (wL (DG j k Fu (a.mirr Fu) h))
  ·rw[a9 c];exact DG j k Fu a h
def QN{ok:Nat}{Q:Bool->SortSt->Prop}(o:IntKeys b)(B:lo+n<=b.size)(hok:ok<=n)(v:1<=ok)(p:GS b g e st)
  (h:∀a j,GS b a e j->Q true j):wpS (model prog w) A E s (binarySort' lo n ok) Q st:=by
 rw[binarySort'_eq]
 refine g8 (qz (z9 (I:=λk c z=>c=(none,())/\∃a,GS b a e z)
  (Q:=λc z=>c=(none,())/\∃a,GS b a e z) ?step ?fin ⟨Fx,g,p⟩) ?post)
 case post=>
  rintro c z ⟨rfl,a,f⟩;exact j2 (h a z f)
 case fin=>exactλc z h=>h
 case step=>
  rintro k c z q t ⟨rfl,a,f⟩;refine g8 (qz (z9 (I:=λx c y=>y=z/\∃l r,c=(none,l,r)/\l<=r/\r<=k) (Q:=λc y=>y=z/\∃l r,c=(none,l,r)/\l<=k) ?istep ?ifin ⟨Fx,0,k,Fx,dE _,aM _⟩) ?ipost)
  case ifin=>
   rintro c y ⟨rfl,l,r,rfl,m,a2⟩;exact⟨Fx,l,r,Fx,bP m a2⟩
  case istep=>
   rintro x c y _ u ⟨rfl,l,r,rfl,m,a2⟩;dsimp only;by_cases i:l>=r
   ·rw[b8 i];exact j2 ⟨Fx,l,r,Fx,bP m a2⟩
   ·rw[a9 i];refine g8 (wM f o Fu Fu ?_)
    cases decide (K b (a (lo+k))<K b (a (lo+(l+r) / 2)))with
    |true=>exact j2 ⟨Fx,l,(l+r) / 2,Fx,Fu,Fu⟩
    |false=>exact j2 ⟨Fx,(l+r) / 2+1,r,Fx,Fu,Fu⟩
  case ipost=>
   rintro c y ⟨rfl,l,r,rfl,a2⟩;show wpS _ _ _ _ (do moveDown' (lo+k) (lo+l);pure (h8 (none,()))) _ _;rw[moveDown'_eq];exact g8 (gk (j2 ⟨Fx,_,f.bubb Fu Fu⟩))
end
structure LC(n:Nat)(ky:Nat->Int)(J:List Nat):Prop where
 lt:∀i∈J,i<n
 len:J.length=n
noncomputable def fa(a:Array jf)(i:Nat):jf:=(a[i]?).getD (.none,.none)
section
variable{prog:cH}{w:d7}{A:f9}{E:Value->Shared->Prop}{s:Shared}{a0:Array jf}{g:Nat->Nat}{a:Array (Nat×Nat×Nat)}{st:SortSt}
def GS.list(h:GS a0 g a st):(ax st).toList=((eW a0.size).map g).map (fa a0):=by
 apply jF;intro q;rw[iS,bL,aF];by_cases b:q<a0.size
 ·rw[h.get q b,gG b];show _=some (fa a0 (g q));unfold fa;rw[fm a0 _ (h.rng q b)];rfl
 ·rw[eD (by simp;lia),fM (by rw[h.size];lia)];rfl
def VX(hB:GS a0 g a st):LC a0.size (K a0) ((eW a0.size).map g) where
 lt:=λi hi=>by
  obtain⟨p,hp,rfl⟩:=aU.mp hi;exact hB.rng p (mC.mp hp)
 len:=by simp
def OO{n:Nat}(h:n<64)(b:2<=n):minRun' n n 0=n:=by
 obtain⟨f,rfl⟩:∃f,n=f+2:=⟨n-2,Fu⟩;rw[show f+2=(f+1)+1 by lia,minRun'_succ,b8 Fu]
def Iy(a0:Array jf)(st:SortSt):Prop:=∃g,GS a0 g #[(0,a0.size,0)] st
def GS.setP(h:GS a0 g a st)(q:Array (Nat×Nat×Nat)):GS a0 g q (sv st q):=⟨h.size,h.get,h.rng,h.kind,h.fail,Fx⟩
def QM{Q:Unit->SortSt->Prop}(n:IntKeys a0)(o:GS a0 (λp=>p) #[] st)(G:2<=a0.size)(j:a0.size<64)
  (h:∀f J,gc f=none->(ax f).toList=J.map (fa a0)->LC a0.size (K a0) J->Q () f):wpS (model prog w) A E s sortRuns' Q st:=by
 have H:=OO j G;rw[sortRuns'_eq];refine g8 (ul ?_);dsimp only;simp only[o.size]
 generalize minRun' a0.size a0.size 0=mn at H
 refine g8 (qz (z9
  (I:=λx c z=>(x=0/\c=(none,0)/\GS a0 (λp=>p) #[] z)\/(1<=x/\c=(none,a0.size)/\Iy a0 z))
  (Q:=λc z=>c=(none,a0.size)/\Iy a0 z) ?step ?fin (.inl ⟨Fx,Fx,o⟩)) ?post)
 case fin=>
  rintro c z (⟨q,_,_⟩ | ⟨_,hc,k⟩)
  ·lia
  ·exact⟨hc,k⟩
 case step=>
  rintro x c z _ q (⟨rfl,rfl,hB'⟩ | ⟨x1,rfl,k⟩)
  ·dsimp only;rw[a9 Fu];simp only[pY,oB]
   have next:∀(m:Nat)(i:Nat->Nat)(d:SortSt),GS a0 i #[] d->m=a0.size ->
     (1=0/\((none,m):Option Unit×Nat)=(none,0)/\GS a0 (λp=>p) #[] (sv d ((cj d).push (0,m,0)))) \/
     (1<=1/\((none,m):Option Unit×Nat)=(none,a0.size)/\Iy a0 (sv d ((cj d).push (0,m,0)))):=λm i d b e=>by
    have C:=b.setP #[(0,m,0)];rw[show(cj d).push (0,m,0)=#[(0,m,0)] by rw[b.pend];rfl];subst e;exact .inr ⟨Fu,Fx,i,C⟩
   refine g8 (JP n Fu Fu hB' λm i d b t L=>?_);dsimp only;by_cases l:m<mn
   ·rw[b8 l];refine g8 (wpS_lift (l7 ⟨Fx,?_⟩));refine g8 (QN n Fu Fu t b λF r c1=>?_);simp only[xV,eH,i5];refine g8 (ul ?_);rw[show(cj r).back?=none by rw[c1.pend];rfl];dsimp only;exact g8 (gk (j2 (next _ F r c1 Fu)))
   ·rw[a9 l];refine g8 (ul ?_);rw[show(cj d).back?=none by rw[b.pend];rfl];dsimp only;exact g8 (gk (j2 (next _ i d b Fu)))
  ·dsimp only;rw[b8 (aM _)];exact j2 ⟨Fx,k⟩
 case post=>
  rintro c z ⟨rfl,k⟩;dsimp only
  refine g8 (qz (z9 (I:=λx c y=>c=(none,())/\x=0/\y=z)
   (Q:=λc y=>c=(none,())/\gc y=none/\∃J,(ax y).toList=J.map (fa a0)/\LC a0.size (K a0) J) ?_ ?_ ⟨Fx,Fx,Fx⟩) ?_)
  ·rintro x c y _ _ ⟨rfl,rfl,rfl⟩;refine g8 (ul ?_);obtain⟨g,b⟩:=k;rw[b8 (by rw[b.pend];exact aM 1)];exact j2 ⟨Fx,b.fail,_,b.list,VX b⟩
  ·rintro c y ⟨rfl,q,_⟩;lia
  ·rintro c y ⟨rfl,u,J,v,B⟩;exact j2 (h y J u v B)
end
end SS
set_option maxHeartbeats 4000000
namespace SS
section
variable{prog:cH}{w:d7}{A:f9}{E:Value->Shared->Prop}{s:Shared}{a kS f:Addr}{vs:List Value}{g:List Int}{P:PySem.Fin->Shared->Prop}{d:Shared->Prop}{lo:Nat}
structure PR(d:Shared->Prop)(lo:Nat):Prop where
 up:∀(s':Shared)(x:Addr)h'(tk:Nat),d s'->lo<=x->dY x s'.heap h'->d { s' with heap:=h',toks:=tk }
 push:∀(s':Shared)(o:Obj),d s'->d { s' with heap:=s'.heap.push o }
def AD(prog:cH)(w:d7)(A:f9)(d:Shared->Prop)(lo:Nat)(f:Addr)(vs:List Value)(g:List Int):Prop:=∀(i:Nat)(v:Value)(k:Int)(c:Shared),vs[i]?=some v->g[i]?=some k->d c ->
 wpAny (model prog w) A (call (.ref f) [v]) (λu e=>∃t,u=.int k t/\d e/\∀b o,lo<=b->c.heap.get? b=some o->e.heap.get? b=some o) (λ_ _=>False) c
def QJ{b:Array Value}(hk:IntsAre b.toList g)(l:g.length=vs.length):(b.zip vs.toArray).size=vs.length/\∀i,i<vs.length->K (b.zip vs.toArray) i=g.getD i 0/\(fa (b.zip vs.toArray) i).2=vs.getD i .none:=by
 have hs:b.size=vs.length:=by have:=hk.length;rw[dZ]at this;lia
 have k:(b.zip vs.toArray).size=vs.length:=by rw[Array.size_zip,hs,bI,aJ1]
 refine⟨k,λi c=>?_⟩;obtain⟨t,h⟩:=hk.get i (g[i]' Fu) (aD Fu);rw[iS]at h;have j:vs.toArray[i]?=some vs[i]:=by simp[c]
 have e:(b.zip vs.toArray)[i]?=some (.int (g[i]' Fu) t,vs[i]):=by
  rw[Array.getElem?_zip_eq_some];exact⟨h,j⟩
 constructor
 ·unfold K;rw[e];show numOf (cu (g[i]' Fu) t)=_;rw[eJ,aD Fu];rfl
 ·unfold fa;rw[e,eJ,aD c];rfl
def LC.congr{n:Nat}{b c:Nat->Int}(h:LC n b J)(e:∀i,i<n->b i=c i):LC n c J:=⟨h.lt,h.len⟩
def LQ{st:SortSt}{b:Array Value}{e l:Nat}{J:List Nat}(T:PR d lo)(F:d s)(ok:s.heap.get? kS=some (h9 "list" b e))(B:s.heap.get? a=some (h9 "list" #[] l))(o:kS≠a)(z:lo<=kS)(y:lo<=a)
  (p:b.size<=bO) (q:(ax st).toList.map (·.2)=J.map λi=>vs.getD i .none) (v:J.length<=bO) (u:gc st=none)
  (h:∀m t out c,d { s with heap:=m,toks:=t }->m.get? a=some (h9 "list" out c)->out.toList=(J.map λi=>vs.getD i .none)->P (.done (.ret .none)) { s with heap:=m,toks:=t }) :
  wpAny (model prog w) A (ksk_tail a false l (.ref kS) st) P E s:=by
 have r:=dY.update s.heap kS (d3 λ_=>(#[]:Array Value));have j:(s.heap.update kS (d3 λ_=>(#[]:Array Value))).get? a=some (h9 "list" #[] l):=(r.2 a o.symm).trans B;have C:=dY.update (s.heap.update kS (d3 λ_=>(#[]:Array Value))) a (d3 λ_=>(ax st).map (·.2));obtain⟨k,n⟩:∃k,((s.heap.update kS (d3 λ_=>(#[]:Array Value))).update a (d3 λ_=>(ax st).map (·.2))).get? a=some (h9 "list" ((ax st).map (·.2)) k):=⟨_,fe j λ_=>(ax st).map (·.2)⟩
 have x:((ax st).map (·.2)).size=J.length:=by
  have:=g5 hX q;simpa using this
 unfold ksk_tail
 try dsimp only
 refine aE (cw ok Fx ?_ p (dE _));refine aE (y8 ?_);refine aE (seqEpoch_at j Fx ?_);refine aE (cw j Fx ?_ (dE _) (by simp only[eH,i5];rw[x];exact VA v));rw[u];simp only[bne_self_eq_false,eH,i5];exact aL (h _ _ _ k (T.up { s with heap:=s.heap.update kS (d3 λ_=>(#[]:Array Value)) } a _ s.toks (T.up s kS _ s.toks F z r) y C) n (by rw[Array.toList_map];exact q))
def Yb{b:Array Value}{e H:Nat}(T:PR d lo)(N:d s)(ok:s.heap.get? kS=some (h9 "list" b e))(M:s.heap.get? a=some (h9 "list" #[] H))(t:kS≠a)(L:lo<=kS)(I:lo<=a)
  (hk:IntsAre b.toList g) (U:g.length=vs.length) (p:vs.length<64)
  (h:∀k o out c J,d { s with heap:=k,toks:=o }->k.get? a=some (h9 "list" out c)->LC vs.length (λi=>g.getD i 0) J->out.toList=(J.map λi=>vs.getD i .none)->P (.done (.ret .none)) { s with heap:=k,toks:=o }) :
  wpAny (model prog w) A (ksk_end a false vs.toArray H (.ref kS) b) P E s:=by
 obtain⟨n,u⟩:=QJ (vs:=vs) hk U;have hs:b.size=vs.length:=by have:=hk.length;rw[dZ]at this;lia
 have x:(2:Nat)^24=bO:=rfl
 have v:∀J:List Nat,(∀i∈J,i<vs.length)->(J.map (fa (b.zip vs.toArray))).map (·.2)=J.map λi=>vs.getD i .none:=λJ y=>by
  rw[bL];exact iI λi r=>(u i (y i r)).2
 unfold ksk_end
 try dsimp only
 simp only[eH,i5];by_cases m:vs.toArray.size<2
 ·rw[b8 m,b8 m];refine aE (aL ?_);rw[StateT.run_pure];refine aE (aL ?_)
  try dsimp only
  rw[bI]at m
  have S:(b.zip vs.toArray).toList=(eW vs.length).map (fa (b.zip vs.toArray)):=by
   apply jF;intro q;rw[iS,aF];by_cases z:q<vs.length
   ·rw[gG z,fm _ q (by rw[n];exact z)];show _=some (fa _ q);unfold fa;rw[fm _ q (by rw[n];exact z)];rfl
   ·rw[eD (by simp;lia),fM (by rw[n];lia)];rfl
  have l:LC vs.length (λi=>g.getD i 0) (eW vs.length):=⟨λi r=>mC.mp r,Fv⟩
  exact LQ (st:=SortSt.mk' general' (b.zip vs.toArray) #[] 7 none) (J:=eW vs.length) T N ok M t L I (by rw[hs,<- x];lia) (by
   show(b.zip vs.toArray).toList.map (·.2)=_;rw[S];exact v _ l.lt) (by simp only[rH];rw[<- x];lia) Fx λk o out c C F G=>h k o out c _ C F l G
 ·rw[a9 m,a9 m];rw[bI]at m;rw[ksk_kind hk (by rw[hs];lia)];refine aE (aL ?_)
  refine aE (iE (QM (a0:=b.zip vs.toArray) (st:=SortSt.mk' oneType' (b.zip vs.toArray) #[] 7 none)
   (Q:=λ_ j=>gc j=none/\∃J,(ax j).toList=J.map (fa (b.zip vs.toArray))/\LC (b.zip vs.toArray).size (K (b.zip vs.toArray)) J)
   (ksk_intKeys hk) ⟨Fx,λ_ _=>rfl,λ_ W=>W,Fx,Fx,Fx⟩ (by rw[n];lia) (by rw[n];exact p) λj J O a2 R=>⟨O,J,a2,R⟩) ?_ λ_ _ e=>e)
  rintro⟨⟨⟩,j⟩ s' ⟨rfl,hf,J,y,l⟩
  try dsimp only
  rw[n]at l;have B:=l.congr λi r=>(u i r).1;exact LQ (J:=J) T N ok M t L I (by rw[hs,<- x];lia) (by rw[y];exact v J l.lt) (by rw[l.len,<- x];lia) hf λk o out c C F G=>h k o out c _ C F B G
def V2{z:Nat}(T:PR d lo)(t0:d s)(ok:s.heap.get? kS=some (h9 "list" #[] 0))(Z:s.heap.get? a=some (h9 "list" #[] z))(o:kS≠a)(C:lo<=kS)(L:lo<=a)
  (W:g.length=vs.length) (n:vs.length<64) (t:AD prog w A d lo f vs g)
  (h:∀b out c J,d b->b.heap.get? a=some (h9 "list" out c)->LC vs.length (λi=>g.getD i 0) J->out.toList=(J.map λi=>vs.getD i .none)->P (.done (.ret .none)) b) :
  wpAny (model prog w) A (ksk_rest a (.ref f) false vs.toArray z (.ref kS)) P E s:=by
 have I:(2:Nat)^24=bO:=rfl;unfold ksk_rest;refine aE (l7 ?_)
 first
  |rw[List.forIn_toArray]
  | (rw[<- pZ];simp only[List.toList_toArray])
  |rw[<- pZ]
 refine aE (ksk_fold (λi b=>d b/\∃l e,b.heap.get? kS=some (h9 "list" l e)/\b.heap.get? a=some (h9 "list" #[] z)/\IntsAre l.toList (g.take i)) vs 0 s
  ⟨t0,#[],0,ok,Z,by simpa using IntsAre.nil⟩ ?step ?done)
 case step=>
  rintro j x b K ⟨H,l,e,u,F,hk⟩;simp only[oB]at hk |-
  have hj:j<vs.length:=(aC.mp K).1;obtain⟨k,p⟩:∃k,g[j]?=some k:=⟨_,aD Fu⟩
  have hz:l.size<=vs.length:=by
   have R:=hk.length;rw[dZ,bD]at R;lia
  refine aE (u0 (iE (t j x k b K p H) (λv r U=>?_) λ_ _ S=>S.elim));obtain⟨m,rfl,t3,keep⟩:=U
  try dsimp only
  have q:=keep kS _ C u;have G:=keep a _ L F;have M:=dY.update r.heap kS (d3 (·.push (.int k m)));obtain⟨y,B⟩:∃y,(r.heap.update kS (d3 (·.push (.int k m)))).get? kS=some (h9 "list" (l.push (.int k m)) y):=⟨_,fe q (·.push (.int k m))⟩;have Q:g.take (j+1)=g.take j++[k]:=by rw[bS,p];simp
  have O:(l.push (cu k m)).toList=l.toList++[cu k m]:=by simp
  refine aE (cw q Fx ?_ (by rw[<- I];lia) (bP (mN (sY ..)) (by rw[<- I];lia)));exact aL ⟨Fx,T.up _ kS _ _ t3 C M,l.push (.int k m),y,B,(M.2 a o.symm).trans G,by rw[O,Q];exact ksk_snoc hk⟩
 case done=>
  rintro b ⟨H,l,e,u,F,hk⟩;have N:g.take (0+vs.length)=g:=lH Fu;rw[N]at hk
  try dsimp only
  refine aE (listItems_at u Fx ?_);exact Yb T H u F o C L hk W n λh' tk out c J m Y sb X=>h _ out c J m Y sb X
def V1{n:Nat}(T:PR d lo)(v:d s)(l:s.heap.get? a=some (h9 "list" vs.toArray n))(m:lo<=a)(t:g.length=vs.length)(b:vs.length<64)(k:AD prog w A d lo f vs g)
  (h:∀o out c J,d o->o.heap.get? a=some (h9 "list" out c)->LC vs.length (λi=>g.getD i 0) J->out.toList=(J.map λi=>vs.getD i .none)->P (.done (.ret .none)) o) :
  wpAny (model prog w) A (ksk_tree a (.ref f) false) P E s:=by
 have q:(2:Nat)^24=bO:=rfl;have r:a<s.heap.objs.size:=bE l;have u:=dY.update s.heap a (d3 λ_=>(#[]:Array Value));obtain⟨p,j⟩:∃p,(s.heap.update a (d3 λ_=>(#[]:Array Value))).get? a=some (h9 "list" #[] p):=⟨_,fe l λ_=>#[]⟩;have e:((s.heap.update a (d3 λ_=>(#[]:Array Value))).push (h9 "tuple" vs.toArray 0)).objs.size=s.heap.objs.size+1:=by rw[size_push',sR]
 unfold ksk_tree;refine aE (listItems_at l Fx ?_);refine aE (cw l Fx ?_ (by rw[bI,<- q];lia) (dE _));refine aE (seqEpoch_at j Fx ?_);refine aE (gj ?_ (by show vs.length<=_;rw[<- q];lia));refine aE (wpAny_newList ?_ (dE _));refine j7 ?_
 exact V2 (s:={ s with heap:=((s.heap.update a (d3 λ_=>(#[]:Array Value))).push (h9 "tuple" vs.toArray 0)).push (h9 "list" #[] 0) }) (kS:=((s.heap.update a (d3 λ_=>(#[]:Array Value))).push (h9 "tuple" vs.toArray 0)).objs.size)
  T (T.push { s with heap:=(s.heap.update a (d3 λ_=>(#[]:Array Value))).push (h9 "tuple" vs.toArray 0) } _ (T.push { s with heap:=s.heap.update a (d3 λ_=>(#[]:Array Value)) } _ (T.up s a _ s.toks v m u)))
  (aY _ Fx) (aH _ (aH _ j)) (by rw[e];exact fA (gM r)) (by rw[e];exact bP m (jT (gM r))) m t b k h
def NU{l:Addr}{Q:Value->Shared->Prop}(T:PR d lo)(x:d s)(t:s.heap.IsList l vs.toArray)(j:lo<=s.heap.objs.size)(e:g.length=vs.length)(b:vs.length<64)(q:AD prog w A.in1.in1 d lo f vs g)
  (h:∀p D out c J,d p->s.heap.objs.size<=D->p.heap.get? D=some (h9 "list" out c)->LC vs.length (λi=>g.getD i 0) J->out.toList=(J.map λi=>vs.getD i .none)->Q (.ref D) p) :
  wpAny (model prog w) A (call (.builtin "sorted") [.ref l] [(c9 "key",.ref f)]) Q E s:=by
 have r:(2:Nat)^24=bO:=rfl;refine call_function_entry_kw kind_sorted plain_sorted entry_sorted (ksk_s1 _ _) ?_;unfold u2.«sorted»;refine aE (m:=checkCount "sorted" 1 1 _) (aL ?_);refine aE (collect_list t ?_ (by rw[<- r];lia));refine aE (wpAny_newList ?_ (by rw[<- r];lia))
 have n:((s.heap.push (h9 "list" #[] 0)).update s.heap.objs.size (d3 (·++vs.toArray))).objs.size=s.heap.objs.size+1:=by
  rw[sR,size_push']
 have k:(((s.heap.push (h9 "list" #[] 0)).update s.heap.objs.size (d3 (·++vs.toArray))).push (h9 "list" vs.toArray 0)).get? (s.heap.objs.size+1)=some (h9 "list" vs.toArray 0):=by
  rw[<- n];exact aY _ Fx
 show wpAny _ _ _ _ _ { s with heap:=((s.heap.push (h9 "list" #[] 0)).update s.heap.objs.size (d3 (·++vs.toArray))).push (h9 "list" vs.toArray 0) };rw[n];refine aE (j7 (wpAny_call_entry_kw slot_list_sort ⟨_,k,Fx⟩ entry_list_sort ?body (ksk_l1 _ _)))
 case body=>
  show wpAny (model prog w) A.in1.in1 (u2.«list.sort» ⟨[.ref (s.heap.objs.size+1)],[(c9 "key",.ref f)]⟩) _ _ _;rw[ksk_t1];have y:=T.push { s with heap:=(s.heap.push (h9 "list" #[] 0)).update s.heap.objs.size (d3 (·++vs.toArray)) } (h9 "list" vs.toArray 0) (T.up { s with heap:=s.heap.push (h9 "list" #[] 0) } s.heap.objs.size _ s.toks (T.push s (h9 "list" #[] 0) x) j (dY.update _ _ _));refine V1 (s:={ s with heap:=((s.heap.push (h9 "list" #[] 0)).update s.heap.objs.size (d3 (·++vs.toArray))).push (h9 "list" vs.toArray 0) }) T y k (VA j) e b q λp out c J z o v u=>⟨_,Fx,?_⟩;exact aL ⟨_,Fx,h p _ out c J z (Nat.le_succ _) o v u⟩
end
end SS
set_option maxHeartbeats 1000000
namespace L2
def K9{a b:Int}:∀(l:List Value),TriplesOk l->∀y,codeAmong p (l++[j1 a,j1 b,x])=some y->codeAmong p l=some y\/y=x:=by
 intro l h
 fun_induction TriplesOk l with
 |case1=>
  intro y e;have c:(if(a==p.line&&b==p.col)=true then some x else codeAmong p [])=some y:=e;split at c
  ·exact .inr (c7 c).symm
  ·cases c
 |case2 u t v w z r f=>
  intro y e;simp only[sQ,codeAmong]at e |-
  split at e
  ·rename_i d;rw[b8 d];exact .inl e
  ·rename_i d;rw[a9 d];exact f h y e
 |case3=>exact h.elim
section
variable{X:Cx}{a:List (Addr×Obj)}{d:St}{H:Hp}{s:Shared}
structure Lam(X:Cx)(H:Hp)(h:Heap)(f c:Addr)(fd:jH):Prop where
 obj:h.get? f=some { cls:=.type "function",data:=.func fd }
 free:H f=none
 code:fd.code=.ref c
 trk:∃oc P,H c=some (.frz oc (.own P))/\UY oc
 nfr:f∉ID X.stack
def eL.builtinsAt(I:eL X a d H s){P:Addr}{qs}(e:s.heap.get? P=some { cls:=.none,data:=.fields qs }):s.heap.BuiltinsAt X.mg P/\iV≠P:=by
 obtain⟨l,o,h,i,b,j,k,c⟩:=I.mod.bmod;have m:=I.mod.glob;obtain⟨q,p,n,f,g,_⟩:=m;refine⟨⟨l,o,h,i,λz=>?_,λz=>?_,I.bk _ _ b,j,k,c⟩,λz=>?_⟩
 ·rw[z,f]at b;cases b;rw[g]at c;cases c
 ·have:=I.bk _ _ b;rw[z,e]at this;cases this;cases c
 ·have:=I.bk _ _ f;rw[z,e]at this;cases this;cases g
def TF{g:Scope}{c P:Addr}{Q:Value->Shared->Prop}{E:Value->Shared->Prop}{name}{S:Nat}(I:eL X a d H s)(hT:tabA=some P)(hc:X.env.code=.ref c)(C:UZ X.base c P)(Z:∀x∈g.names,x.2=.free->∃c,X.env.cells.lookup x.1=some c)
  (h:∀H'(s':Shared)(f j:Addr)(cl:List (Str×Addr))(pm i:Value),eL X a d H' s'->(∀b u,H b=some u->H' b=some u)->Lam X H' s'.heap f j (PySem.W.kla_fn name qual params body g cl pm (.ref j) i)->(∀n c,cl.lookup n=some c->X.env.cells.lookup n=some c)->(∀n,(n,g6)∈g.names->∃c,cl.lookup n=some c)->Q (.ref f) s') :
  wpAny (model X.prog X.w) X.A (makeFunction name qual params (.expr body) g X.env [] [] [] pos S) Q E s:=by
 obtain⟨cl,M,K,L⟩:=vX Z;obtain⟨ps,J⟩:=I.env0.tab P hT;obtain⟨qs,U,T,e3⟩:=I.hok P _ J;obtain⟨G,Bv⟩:=I.builtinsAt U;have hg:=I.mod.glob.keeps I.bk;have C':=C.keeps I.bk
 have nofr:∀b,s.heap.objs.size<=b->b∉ID X.stack:=λb G z=>by
  rcases bA.mp (I.stkSub b z)with y | y
  ·rw[y]at G;exact c8 I.lt (U0.mpr G)
  ·exact I.nofs G y
 cases hm:codeAmong pos qs.toList with
 |none=>
  refine PySem.W.kla_makeFunction (mg:=X.mg) M I.ok.glob hg hc C' U T hm Bv G λj i m tk hx k B N R=>?_;obtain⟨c2,F,vs,t,q1,q2,q3,q4⟩:=N;cases q1;have q:H j=none:=I.hok.fresh k;have Y:H m.objs.size=none:=I.hok.fresh (bP k (jT B));have cP:j≠P:=λz=>by rw[z,J]at q;cases q
  have kp:∀b o,b≠P->s.heap.get? b=some o->(m.push (AF name qual params body g cl ((X.mg "__name__").getD .none) j i)).get? b=some o:=λb o z e=>aH _ (hx b o z e);have nP:∀b,H b=none->b≠P:=λb e z=>by rw[z,J]at e;cases e
  have l:∀b u,H b=some u->iA H j (.frz F (.own P)) b=some u:=λb u e=>by rw[dD (iB e q)];exact e
  have un:Un X.fs [] H (iA H j (.frz F (.own P))) s.heap (m.push (AF name qual params body g cl ((X.mg "__name__").getD .none) j i)):=
   ⟨λb o e n _ _=>kp b o (nP b n) e,λb o e n _ _=>⟨o.slots,kp b o (nP b n) e⟩,λb o e n _=>by rw[dD (bV (dF (bE e) k))];exact n,λb o e _=>by
    by_cases z:b=P
    ·exact⟨_,by rw[z];exact aH _ R⟩
    ·exact⟨o,kp b o z e⟩,λb xs e=>l _ _ e,λb o u e=>l _ _ e,λb ps e=>⟨#[],by rw[l _ _ e];simp⟩⟩
  have hok:wD X.prog X.w (iA H j (.frz F (.own P))) (m.push (AF name qual params body g cl ((X.mg "__name__").getD .none) j i)):=λb u e=>by
   by_cases z:b=j
   ·subst z;rw[dM]at e;cases e;exact⟨aH _ q2,_,aH _ q2⟩
   ·rw[dD z]at e;by_cases z2:b=P
    ·subst z2;rw[J]at e;cases e;refine⟨_,aH _ R,?_,λp x hp=>?_⟩
     ·rw[NH];exact TriplesOk_snoc _ _ _ _ T
     ·rw[NH]at hp;rcases K9 _ T _ hp with hp | hp
      ·obtain⟨c3,o3,r1,r2,r3⟩:=e3 p x hp;exact⟨c3,o3,r1,l _ _ r2,r3⟩
      ·exact⟨j,F,hp,dM,vs,_,t,q3,q4⟩
    ·refine(I.hok b u e).stay (λy v hy r=>kp y v ?_ r) (λy r=>l _ _ r) (λy xs r=>l _ _ r) λy o v r=>l _ _ r;rcases hy with rfl | hy
     ·exact z2
     ·intro z3;rw[z3,J]at hy;cases hy
  refine h _ _ m.objs.size j cl _ i (I.un (t':=tk) un hok) l ⟨aY _ Fx,by rw[dD (fA B)];exact Y,Fx,⟨F,P,dM,vs,_,t,q3,q4⟩,nofr _ (bP k (jT B))⟩ K L
 |some cv=>
  obtain⟨j,F,r1,r2,r3⟩:=e3 pos cv hm;subst r1;refine PySem.W.kla_makeFunctionHit (mg:=X.mg) M I.ok.glob hg hc C' U T hm G λi m tk hx O=>?_;exact h H _ m.objs.size j cl _ i (I.kept (t':=tk) λb o e=>aH _ (hx b o e)) (λ_ _ e=>e) ⟨aY _ Fx,I.hok.fresh O,Fx,⟨F,P,r2,r3⟩,nofr _ O⟩ K L
end
def PH{A:f9}{R:Result->Shared->Prop}{s:Shared}{f c:Addr}{a:jH}{binds:List (Str×Value)}(i:A.depth<ca)(l:s.heap.NoLimit)
  (I:s.heap.get? f=some { cls:=.type "function",data:=.func a }) (u:a.scope.isCoroutine=false) (k:a.scope.isGenerator=false) (H:a.body=.expr body) (F:a.code=.ref c) (E:s.heap.get? c=some oc) (G:UY oc)
  (d:bindArgs a args=pure binds) (g:∀x∈a.scope.names,x.2≠.cell) (n:∀x∈binds,a.scope.names.lookup x.1=some .local) (hk:a.scope.kind=.function) (z:a.globals=iV) (p:a.builtins=u6)
  (h:∀(q:Str)(j:Heap),j.Ns s.heap.objs.size (λy=>binds.reverse.lookup y)->(∀b o,s.heap.get? b=some o->j.get? b=some o) ->
   wpAny (model prog w) (A.deeper (sJ q a.scope s.heap.objs.size f a.code a.closure)) (eval body (sJ q a.scope s.heap.objs.size f a.code a.closure)) (λv K=>R (.ok (.ret v)) K) (λ_ _=>False) { s with heap:=j,toks:=s.toks+binds.length }) :
  x4 (model prog w) A (.call (.ref f) args) R s:=by
 obtain⟨vs,q,t,hd,J⟩:=G;refine codeAny_of_tree ?_;show wpAny _ A.in1 (callAny (.ref f) args) _ _ s;simp only[callAny];refine aE (wpAny_load I ?_);simp only[callFunction,u,k,H,F];refine aE (m:=ge (.ref c) 1) (f8 E hd J (aE (aL ?_)));rw[d,z,p];refine aE (aL (aE (wpAny_newFunctionEnv g n (λj B C=>?_) hk)));have kp:∀b o,s.heap.get? b=some o->j.get? b=some o:=λb o e=>C.extBut b o (bV (bE e)) (aH _ e);refine aE (wpAny_enterFrame (l.keeps kp) i (aL ⟨Fx,?_⟩));have:=h q j B kp;rw[F]at this;exact PySem.W.kla_codeExpr (iE this (λ_ _ r=>r) λ_ _ r=>r.elim)
noncomputable abbrev xH:Scope:={ kind:=.function,names:=[(c9 "entry",.local),(c9 "bottom",.free)],isGenerator:=false,isCoroutine:=false,more:=[] }
noncomputable def HV(X:Cx)(A':f9)(q:Str)(f:Addr)(cd:Value)(cl:List (Str×Addr))(s:Shared)(H:Hp):Cx where
 prog:=X.prog
 w:=X.w
 K:=X.K
 mg:=X.mg
 base:=X.base
 A:=A'.deeper (sJ q xH s.heap.objs.size f cd cl)
 N:=["entry","bottom"]
 s₀:=s
 H₀:=H
 env:=sJ q xH s.heap.objs.size f cd cl
 outer:=X.stack
 stack:=sJ q xH s.heap.objs.size f cd cl::X.stack
 ex:=[]
 fn:=λ_=>false
 calm:=true
 pn:=[]
 xe:=λ_ _=>False
def W7{X:Cx}{A':f9}{q:Str}{f w:Addr}{cd}{cl:List (Str×Addr)}{s:Shared}{m:Heap}{tk:Nat}{b:Int}(I:eL X pins σ H s)(G:A'.frames=some X.stack)(F:A'.handled=none)
  (g:∀n c,cl.lookup n=some c->X.env.cells.lookup n=some c) (A:cl.lookup ("bottom":Str)=some w) (j:s.heap.IsCell w (some (.int b t))) (r:jM x u)
  (C:m.Ns s.heap.objs.size (λy=>[((c9 "entry":Str),u)].reverse.lookup y)) (kp:∀b o,s.heap.get? b=some o->m.get? b=some o) :
  eL (HV X A' q f cd cl s H) [] [some x,some (.int b)] H { s with heap:=m,toks:=tk }:=by
 have d:=I.env0;have l:∀b:Addr,b∉(HV X A' q f cd cl s H).ex:=λb z=>c8 (show b∈([]:List Addr)from z) Fv
 have L:∀y:Str,xH.names.lookup y=some .cell\/xH.names.lookup y=some .free->y="bottom":=λy k=>by
  have e:xH.names.lookup y=if y==(c9 "entry")then some .local else if y==(c9 "bottom")then some .free else none:=by
   show CS y [(c9 "entry",NameKind.local),(c9 "bottom",g6)]=_;rw[fS,fS];cases (y==c9 "entry")<;>cases (y==c9 "bottom")<;>rfl
  rw[e]at k;split at k
  ·rcases k with z | z<;>cases z
  ·split at k
   ·rename_i z;exact ci z
   ·rcases k with z | z<;>cases z
 obtain⟨M,J,B⟩:=j;have h:m.IsCell w (some (.int b t)):=⟨M,kp _ _ J,B⟩
 refine⟨⟨d.mod,Fx,Fx,Fx,aM _,λy z c a a2=>I.ok.inj y z c (g y c a) (g z c a2),λy k=>?_,λy c z=>(nomatch (show false=true from z)),λ_=>F,fk G,.inr ⟨Fx,Fx⟩,λb z=>c8 z (l b),d.bs,d.bsz,λb _ _=>l b,λb z=>c8 z (l b),d.funs,d.frf,d.tab⟩,
  rfl,d.bare,Un.kept kp,⟨_,C,λi y v a a2 N=>?_⟩,λy c a=>?_,d.hok.fresh (aM _),λy c a=>I.freeC y c (g y c a),λp K=>c8 (show p∈([]:List (Addr×Obj))from K) Fv,d.hok.kept kp,Fx⟩
 ·have:=L y k;rw[this];exact⟨w,A⟩
 ·match i,a,a2 with
  |0,a,a2=>
   cases a;cases a2;exact⟨u,r,.inl ⟨Fx,Fx⟩⟩
  |1,a,a2=>
   cases a;cases a2;exact⟨.int b t,⟨t,Fx⟩,.inr ⟨.inr Fx,w,A,h⟩⟩
  |i+2,a,a2=>cases a
 ·obtain⟨v,o,m,E⟩:=I.cell y c (g y c a);exact⟨v,o,kp _ _ m,E⟩
def Un.butA{fs}{h c f:Heap}{a:Addr}(u:Un fs ex H H1 h c)(hs:dY a c f)(g:h.objs.size<=a):Un fs ex H H1 h f:=by
 have ne:∀b o,h.get? b=some o->b≠a:=λb o e=>bV (dF (bE e) g);refine⟨λb o e n c d=>(hs.2 b (ne b o e)).trans (u.keep b o e n c d),λb o e n c d=>?_,u.free,λb o e d=>?_,u.tups,u.frzs,u.tbls⟩
 ·obtain⟨j,z⟩:=u.slot b o e n c d;exact⟨j,(hs.2 b (ne b o e)).trans z⟩
 ·obtain⟨i,z⟩:=u.there b o e d;exact⟨i,(hs.2 b (ne b o e)).trans z⟩
def Un.new{fs}{h h1:Heap}{a:Addr}(u:Un fs ex H H1 h h1)(hn:H1 a=none)(ha:h.objs.size<=a):Un fs ex H (iA H1 a o) h h1 where
 keep:=u.keep
 slot:=u.slot
 free:=λb ob e n hx=>by rw[dD (bV (dF (bE e) ha))];exact u.free b ob e n hx
 there:=u.there
 tups:=λb xs e=>by have z:=u.tups b xs e;rw[dD (iB z hn)];exact z
 frzs:=λb ob v e=>by have z:=u.frzs b ob v e;rw[dD (iB z hn)];exact z
 tbls:=λb ps e=>by
  obtain⟨m,z⟩:=u.tbls b ps e;exact⟨m,by rw[dD (iB z hn)];exact z⟩
theorem wD.new{h}{a:Addr}(x:wD P w H h)(f:H a=none)(new:mH P w (iA H a o) h a o):wD P w (iA H a o) h:=λb u e=>by
 by_cases d:b=a
 ·subst d;rw[dM]at e;cases e;exact new
 ·rw[dD d]at e;have st:∀c v,H c=some v->iA H a o c=some v:=λc v q=>by rw[dD (iB q f)];exact q
  exact(x b u e).stay (λc v _ q=>q) (λc q=>st _ _ q) (λc g q=>st _ _ q) λc ob v q=>st _ _ q
noncomputable abbrev Y8(p:Pos):Arguments:={ posonlyargs:=[],args:=[{ arg:="entry",annotation:=none,pos:=p }],vararg:=none,kwonlyargs:=[],kw_defaults:=[],kwarg:=none,defaults:=[] }
def DD(K:aQ)(H:Hp)(b:Int)(x:V)(k:Int):Prop:=∃(q:Addr)(a c:V)(d:Addr)(top bot:Int),x=.ref q/\pG K H q [a,c,.ref d]/\pG K H d [.int top,.int bot]/\Hq b bot/\LJ top (b / bot)/\k=top*(b / bot)
def DD.same{K}{H a:Hp}{b:Int}{k:Int}(h:DD K H b x k)(s:∀c u,H c=some u->a c=some u):DD K a b x k:=by
 obtain⟨q,j,l,d,top,bot,e,f,g,i⟩:=h;exact⟨q,j,l,d,top,bot,e,TL.bR.seqT s f,TL.bR.seqT s g,i⟩
section
variable{g l n B E F G M O a R S U:Pos}
def Xm{X:Cx}{q:Str}{f:Addr}{cd}{pins:List (Addr×Obj)}{b k:Int}(I:eL (HV X A' q f cd cl s H) [] [some x,some (.int b)] H s1)(h:DD X.K H b x k) :
  wpAny (model X.prog X.w) (HV X A' q f cd cl s H).A (eval (.BinOp (.Subscript (.Subscript (.Name "entry" g) (.Constant (.int 2) 0 l) n) (.Constant (.int 0) 0 B) E) .Mult (.BinOp (.Name "bottom" F) .FloorDiv (.Subscript (.Subscript (.Name "entry" G) (.Constant (.int 2) 0 M) O) (.Constant (.int 1) 0 a) R) S) U) (HV X A' q f cd cl s H).env)
   (EP (HV X A' q f cd cl s H) [] [some x,some (.int b)] λv j=>v=.int k/\j=H) (λ_ _=>False) s1:=by
 have p:PE (HV X A' q f cd cl s H) (.BinOp (.Subscript (.Subscript (.Name "entry" g) (.Constant (.int 2) 0 l) n) (.Constant (.int 0) 0 B) E) .Mult (.BinOp (.Name "bottom" F) .FloorDiv (.Subscript (.Subscript (.Name "entry" G) (.Constant (.int 2) 0 M) O) (.Constant (.int 1) 0 a) R) S) U) _:=
  L5 R1 (G9 aX (G9 aX (pv 0) yG (by intro _ _;rfl)) yG (by intro _ _;rfl)) (L5 lY (pv 1) (G9 aX (G9 aX (pv 0) yG (by intro _ _;rfl)) yG (by intro _ _;rfl)))
 obtain⟨i,r,t,d,top,bot,rfl,c,e,m,o,rfl⟩:=h;refine p [] s1 _ H _ I ?_;refine⟨_,Fx,.inr (.inl ⟨i,_,2,.ref d,Fx,Fx,c,Fx,.inr (.inl ⟨d,_,0,.int top,Fx,Fx,e,Fx,?_⟩)⟩)⟩;refine⟨_,Fx,_,Fx,.inr (.inl ⟨i,_,2,.ref d,Fx,Fx,c,Fx,.inr (.inl ⟨d,_,1,.int bot,Fx,Fx,e,Fx,?_⟩)⟩)⟩;exact⟨b,bot,Fx,Fx,m,top,b / bot,Fx,Fx,o,Fx,Fx⟩
def Z3(K:aQ)(m:Nat)(o:TA):TE:=λj H Q=>o j H λvs e=>∃(p:Addr)(d:List V)(b:Int)(h:List Int),vs=[.ref p]/\mT K e p d/\d.length<64/\j[m]?=some (some (.int b))/\h.length=d.length/\(∀(i:Nat) x k,d[i]?=some x->h[i]?=some k->DD K e b x k) /\
 ∀f,(∀c u,e c=some u->f c=some u)->∀(J:List Nat) r,SS.LC d.length (λi=>h.getD i 0) J->f r=none->Q (.ref r) (iA f r (.lst (J.map λi=>d.getD i .non)))
def RV{X:Cx}{ib:Nat}{e}{k:Nat}{c P:Addr}(hr:Room (k+3) X.A)(hT:tabA=some P)(hc:X.env.code=.ref c)(C:yZ X.K c P=true)(Bw:X.N[ib]?=some "bottom")(hk:X.env.kindOf "bottom"=some .cell)
  (hg:Gl X "sorted") (hm:X.mg "sorted"=none) (hv:f6 "sorted"=some (.builtin "sorted")) (ha:PA X [e] ta)
  (he:r4 pos (cS [e] X.env)=(false,eval e X.env)::r4 pos (cS [] X.env):=by rfl)
  (yi:(r4 pos (cS [e] X.env)).any (·.1)=false:=by rfl) :
  PE X (.Call (.Name "sorted" np) [e] [⟨some (c9 "key"),.Lambda (Y8 ap) (.BinOp (.Subscript (.Subscript (.Name "entry" g) (.Constant (.int 2) 0 l) n) (.Constant (.int 0) 0 B) E) .Mult (.BinOp (.Name "bottom" F) .FloorDiv (.Subscript (.Subscript (.Name "entry" G) (.Constant (.int 2) 0 M) O) (.Constant (.int 1) 0 a) R) S) U) xH lp,kp⟩] pos) (Z3 X.K ib ta):=by
 intro pins s σ H Q I h;refine ai (tT I hg hm hv ?_ Ft Ft);refine callWith_kw (lK (ha pos pins s σ H _ I h) λus s1 zq=>?_) he yi;obtain⟨vs,H1,I1,r1,a⟩:=zq;obtain⟨p,xs,b,kz,rfl,hS,xq,Dk,Ca,sk,q⟩:=a;obtain⟨u,rfl,ru⟩:=oG r1;cases ru
 have Z:∀x∈xH.names,x.2=.free->∃c,X.env.cells.lookup x.1=some c:=λx hx hf=>by
  have De:x=(c9 "entry",NameKind.local)\/x=(c9 "bottom",g6):=by simpa using hx
  rcases De with rfl | rfl
  ·cases hf
  ·exact I.ok.has "bottom" (.inl hk)
 refine kws_cons (PySem.W.kla_eval Fx (TF I1 hT hc (PySem.W.codeHd_of_K I.mod.kin C) Z λH2 s2 f c' cl pm EC r sH L wo zl=>kws_nil ?_));obtain⟨cb,zn⟩:=zl "bottom" (aK _ (aP ..));have Aw:mT X.K H2 p xs:=L2.bR.seq sH hS;obtain⟨ay,rv,yi,hz⟩:=r.list Aw;have d:=rv.length;have hA:=r.ok.frames;have Y:Room (k+1) X.A.in1.in1:=(Room.in1 (k:=k+2) hr).in1
 have nofr:∀b,s2.heap.objs.size<=b->b∉ID X.stack:=λb hb z=>by
  rcases bA.mp (r.stkSub b z)with y | y
  ·rw[y]at hb;exact c8 r.lt (U0.mpr hb)
  ·exact r.nofs hb y
 let Tp:Shared->Prop:=λs'=>s'.os=s2.os/\ao s'.gens/\Un (ID X.stack) [] H2 H2 s2.heap s'.heap/\wD X.prog X.w H2 s'.heap
 have Dw:∀s',Tp s'->eL X pins σ H2 s':=λs' t=>r.call' (ch:=[]) t.1 t.2.2.1 t.2.2.2 t.2.1 (λb z=>c8 z Fv)
 have T:SS.PR Tp s2.heap.objs.size:=by
  refine⟨λs' x h' tk t hx hs=>⟨t.1,t.2.1,t.2.2.1.butA hs hx,t.2.2.2.but (r.hok.fresh hx) hs⟩,λs' o t=>⟨t.1,t.2.1,t.2.2.1.trans (Un.kept λb u e=>aH _ e),t.2.2.2.kept λb u e=>aH _ e⟩⟩
 have t0:Tp s2:=⟨Fx,r.bare,Un.refl,r.hok⟩;have Dl:f∉ID X.stack:=L.nfr
 have td:SS.AD X.prog X.w X.A.in1.in1 Tp s2.heap.objs.size f ay kz:=λi v k0 s' hv zv t=>by
  have I':=Dw s' t
  obtain⟨x,hx,rx⟩:∃x,xs[i]?=some x/\jM x v:=by
   have hi:i<xs.length:=by rw[d];exact(aC.mp hv).1
   obtain⟨u,h1,h2⟩:=rv.get (aD hi);rw[hv]at h1;cases h1;exact⟨_,aD hi,h2⟩
  have Ag:=(sk i x k0 hx zv).same sH;obtain⟨m,hn,hl⟩:=I'.loc;obtain⟨ub,Dr,lb⟩:=hl ib "bottom" (.int b) Bw Dk (.inr (.inl hk));obtain⟨tb,rfl⟩:=Dr
  have cell:s'.heap.IsCell cb (some (.int b tb)):=by
   rcases lb with⟨z,_⟩ | ⟨_,c0,z1,z2⟩
   ·rw[hk]at z;cases z
   ·have:=wo _ _ zn;rw[this]at z1;cases z1;exact z2
  obtain⟨oc,P',w1,w2⟩:=L.trk;obtain⟨Do,_⟩:=I'.hok c' _ w1;refine tj (PH Y.depth I'.nolimit (t.2.2.1.keep f _ L.obj L.free Dl Fv) Fx Fx Fx Fx Do w2 (binds:=[(c9 "entry",v)]) Fx (λy hy=>?_) (λy hy=>?_) Fx Fx Fx λqn h1 yg kp=>?_)
  ·have yn:y=(c9 "entry",NameKind.local)\/y=(c9 "bottom",g6):=by simpa using hy
   rcases yn with rfl | rfl<;>simp
  ·rw[bW.mp hy];rfl
  ·have J:=W7 (q:=qn) (f:=f) (cd:=.ref c') (tk:=s'.toks+1) (A':=X.A.in1.in1) I' hA Y.hd wo zn cell rx yg kp;refine iE (Xm (pins:=pins) J Ag) (λu s3 hu=>?_) λ_ _ z=>z;obtain⟨v3,H3,J3,r3,rfl,rfl⟩:=hu;obtain⟨t3,rfl⟩:=r3;exact⟨t3,Fx,⟨J3.os.trans t.1,J3.bare,t.2.2.1.trans J3.base,J3.hok⟩,λb o hb e=>J3.base.keep b o e (r.hok.fresh hb) (nofr b hb) (by simp[HV])⟩
 show wpAny (model X.prog X.w) X.A (call (.builtin "sorted") [.ref p] [(c9 "key",.ref f)]) _ _ s2;refine SS.NU T t0 yi.isList (aM _) (by rw[Ca,d]) (by rw[<- d];exact xq) td λs' D out cc J t hD ho sb yh=>?_;have xr:H2 D=none:=r.hok.fresh hD;rw[<- d]at sb;have hL:(2:Nat)^24=bO:=rfl
 have vals:gO (J.map λi=>xs.getD i .non) out.toList:=by
  rw[yh]
  have:∀J:List Nat,(∀i∈J,i<xs.length)->gO (J.map λi=>xs.getD i .non) (J.map λi=>ay.getD i .none):=by
   intro J hJ
   induction J with
   |nil=>exact .nil
   |cons j J ih=>
    refine .cons ?_ (ih λi hi=>hJ i (aK _ hi));have hj:=hJ j (aP ..);obtain⟨u,h1,h2⟩:=rv.get (aD hj);show jM (xs.getD j .non) (ay.getD j .none);rw[eJ,eJ,h1,aD hj];exact h2
  exact this J sb.lt
 refine⟨.ref D,_,r.call' (ch:=[]) (s':=s') (H':=iA H2 D (.lst (J.map λi=>xs.getD i .non))) t.1 (t.2.2.1.new xr hD) (t.2.2.2.new xr ⟨?_,out.toList,cc,vals,?_⟩) t.2.1 (λb z=>c8 z Fv),Fx,q H2 sH J D sb xr⟩
 ·rw[aB,sb.len,<- hL];lia
 ·simpa[h9]using ho
end
def I0(K:aQ)(cd:Value):Prop:=∃c P,cd=.ref c/\tabA=some P/\yZ K c P=true
def P6.okC{K}{mg:Str->Option Value}{st}{f:Addr}{c:jH}{N g:List Str}{k:Nat}{i:Sp}(F:P6 K x qual st f c)(S:bT N g (bF st))(len:∀vs H Q E,i vs H Q E->vs.length=g.length)
  (b:∀(a:Value),c.code=a->∀(A:f9)outer(s:Shared)H(vs:List V)Q E,Room k (A.deeper (z7 qual (bF st) s.heap.objs.size f a))->i vs H Q E ->
   ∃t,CW (CF gQ P w K mg base N qual (bF st) f a A outer s H E).nox (nI st) t/\t { nx:=λ_ j=>Q .non j,rt:=Q } (sM N vs) H):dP P w K mg base gQ (k+1) f c g i:=by
 obtain⟨p,r,kV,l,u,an,a,ct,o,rfl,n,d⟩:=F.ex;refine ZG n d S len λA outer s H vs Q E m e=>?_;obtain⟨t,h,q⟩:=b a Fx A outer s H vs Q E m e;exact⟨t,h.nox,q⟩
end L2
namespace TL
open L2
def Kz{K}{mg:Str->Option Value}{st}{f:Addr}{g:jH}{N pn:List Str}{k:Nat}{l:GH}(L:I0 K g.code)(F:P6 K x qual st f g)(S:bT N pn (bF st))(len:∀c Q,l c Q->c.length=pn.length)
  (d:∀(b:Value),I0 K b->∀(A:f9)outer(s:Shared)H E,Room k (A.deeper (z7 qual (bF st) s.heap.objs.size f b))->∀(c:List D)(Q:List D->Prop),l c Q ->
   ∃t,sT (CF gQ P w K mg base N qual (bF st) f b A outer s H E).nox (nI st) t/\t { nx:=λ_=>False,rt:=λ_=>False,ro:=Q } (pI N c)):dP P w K mg base gQ (k+1) f g pn (gX K l):=by
 refine F.okC S (λvs H Q E h=>?_) λb i A outer s H vs Q E u h=>?_
 ·obtain⟨j,c,e,_,r,q,_⟩:=h;rw[<- r.length];exact len c e q
 ·obtain⟨j,c,e,live,r,q,k⟩:=h;obtain⟨t,⟨m,p,y⟩,h⟩:=d b (i▸L) A outer s H E u c e q;exact⟨m,p,y H j H j _ _ _ _ (xC live r) h ⟨λ_ _ _ _ _ _ a=>a.elim,λ_ _ _ _ _ _ a=>a.elim,λ_ _ _ _ _ _ a=>a.elim,λ_ _ _ _ _ a=>a.elim,λm p C n B o G v z a=>k m p C n B o v z a,λ_ _ _ _ _ _ _ _ _ _ _ _ _ _ _ _ _ _ a=>a.elim,λ_ _ _ _ _ _ _ _ _ _ _ _ _ _ a=>a.elim,ar⟩⟩
def Hr(b:Int)(e:D)(k:Int):Prop:=∃(q st:D)(top bot:Int),e=.tuple [q,st,.tuple [.int top,.int bot]]/\Hq b bot/\LJ top (b / bot)/\k=top*(b / bot)
def Hr.rep{K}{b k:Int}{e}(h:Hr b e k)(r:jN K H e x):DD K H b x k:=by
 obtain⟨q,st,top,bot,rfl,d,f,g⟩:=h
 cases r with
 |tuple l a=>
  cases a with
  |cons n a=>
   cases a with
   |cons o a=>
    cases a with
    |cons i a=>
     cases a
     cases i with
     |tuple m c=>
      cases c with
      |cons j c=>
       cases c with
       |cons re c=>
        cases c;cases j;cases re;exact⟨_,_,_,_,top,bot,Fx,l,m,d,f,g⟩
theorem DD.mask{K}{b k:Int}(h:DD K (TL.mask H ps) b x k):DD K H b x k:=h.same λ_ _ e=>cV _ _ e
def Wn(g:Nat)(t:AT):FT:=λd Q=>t d λf=>∃(a:List D)(b:Int)(c:List Int),f=[.list a]/\a.length<64/\d[g]?=some (.val (.int b))/\c.length=a.length/\(∀(i:Nat) e k,a[i]?=some e->c[i]?=some k->Hr b e k) /\
 ∀J:List Nat,SS.LC a.length (λi=>c.getD i 0) J->Q (J.map λi=>a.getD i .none)
def T3{X:Cx}{ib:Nat}{e}{k:Nat}(g:Room (k+3) X.A)(L:I0 X.K du)(hc:X.env.code=du)(n:X.N[ib]?=some "bottom")(hk:X.env.kindOf "bottom"=some .cell)
  (hg:Gl X "sorted") (hm:X.mg "sorted"=none) (hv:f6 "sorted"=some (.builtin "sorted")) (ha:wH X [e] t)
  (he:r4 pos (cS [e] X.env)=(false,eval e X.env)::r4 pos (cS [] X.env):=by rfl)
  (y:(r4 pos (cS [e] X.env)).any (·.1)=false:=by rfl) :
  JH X (.Call (.Name "sorted" np) [e] [⟨some (c9 "key"),.Lambda (Y8 ap) (.BinOp (.Subscript (.Subscript (.Name "entry" p1) (.Constant (.int 2) 0 p2) p3) (.Constant (.int 0) 0 p4) p5) .Mult (.BinOp (.Name "bottom" p6) .FloorDiv (.Subscript (.Subscript (.Name "entry" p7) (.Constant (.int 2) 0 p8) p9) (.Constant (.int 1) 0 F) q2) q3) q4) xH lp,kp⟩] pos) (Wn ib t):=by
 obtain⟨c,P,rfl,hT,Z⟩:=L;obtain⟨ta,pa,ra⟩:=ha;refine⟨_,RV g hT hc Z n hk hg hm hv pa he y,λB p0 H E O σ Q QV o h k=>ra B p0 H E O σ _ _ o h λds vs H1 s1 G F=>?_⟩;obtain⟨l,b,kz,rfl,a,hb,s,f,q⟩:=F;obtain⟨v,z,C⟩:=o.val ib _ hb;cases C
 cases G with
 |cons G r2=>
  cases r2
  cases G with
  |@list pp xv _ hs rs=>
   have w:=rs.length;refine⟨_,_,b,kz,Fx,L2.bR.seq cV hs,by rw[<- w];exact a,z,by rw[s,w],λi x k0 hx p=>?_,λm U J r M g=>?_⟩
   ·obtain⟨d,hd,rd⟩:=rs.get' hx;exact DD.mask ((f i d k0 hd p).rep rd)
   ·rw[<- w]at M;have T:bR H m:=s1.trans U;refine k _ r _ _ (T.trans (eU g)) (bR.free' T g) dM ?_ (q J M);rw[lE g];have I:Reps X.K (TL.mask m E) l _:=rs.same (cX U)
    have:∀J:List Nat,(∀i∈J,i<l.length)->Reps X.K (TL.mask m E) (J.map λi=>l.getD i .none) (J.map λi=>xv.getD i .non):=by
     intro J R
     induction J with
     |nil=>exact .nil
     |cons j J ih=>
      refine .cons ?_ (ih λi hi=>R i (aK _ hi));have S:=R j (aP ..);obtain⟨u,W,Y⟩:=I.get (aD S);show jN _ _ (l.getD j .none) (xv.getD j .non);rw[eJ,eJ,W,aD S];exact Y
    exact this J M.lt
end TL
namespace L2
noncomputable def NT(K:aQ)(cd:Value)(P:Addr):Bool:=match cd with | .ref c=>yZ K c P | _=>false
def Ye{K cd}{P:Addr}(h:NT K cd P=true)(e:tabA=some P):I0 K cd:=by
 cases cd with
 |ref c=>exact⟨c,P,Fx,e,h⟩
 |_=>cases h
def Z2{h:Heap}{c P:Addr}(C:UZ h c P)(e:h.get? P=some { cls:=.none,data:=.fields #[] }):bz h P:=(C.tab e).isCodeTable
end L2
namespace K90
open L2 TL
noncomputable def top(i:Nat):Stmt:=PySem.Challenge.pw_leafjudge_k90_whole_tree_rules_tree.main.body.getD i (.Pass ⟨0,0,0,0⟩)
structure Txt(K:aQ)(mg:Str->Option Value)(vo vp vq vr vw vx vy vz wa wb jg jh ji jj jk jl jm jo jp jq jr xi js jt ju jv jw jy jz ka kb kc kf kg kh ki kj kl km ko kq kr kt ku kw kx la xj le xk lf lg lh xl li ft lj lk ll ln lq lr lu lv lw lx lz ma fu md me mf mh mi mj ml mm mo mq mr fc:Addr)(wc wd we wf wg wh wj wk wl wm ms mv mw mx my mz nc ng nh ni nj fv nk nl nn nq nr nu nv nw nz oe og oh oi oj ol om on oo oq ot ou ov im ow ox fw oy fx oz ph pi fy pj fz po pq pr pu py pz qa qb qc qd qe qf gb qg qh qi qj qk ql qm qo qp qq qr ur:jH)(t_KINDS t_SIDES:Addr)(dz fi ec ef ah bu ee:Tok):Prop where
 D_0:Df K mg "many_cases" (top 7) vo wc ["form"]
 D_1:Df K mg "all_cases" (top 8) vp wd ["form"]
 D_2:Df K mg "entries_of" (top 9) vq we ["field"]
 D_3:Df K mg "longer_by" (top 10) vr wf ["beginnings","entries"]
 D_4:Df K mg "values_asked" (top 14) vw wg ["kind","field"]
 D_5:Df K mg "questions_of" (top 15) vx wh ["form"]
 D_6:Df K mg "questions_on" (top 16) vy wj ["field"]
 D_7:Df K mg "choices_of" (top 17) vz wk ["form"]
 D_8:Df K mg "side_of" (top 18) wa wl ["form","question","stray","case"]
 D_9:Df K mg "field_asked" (top 19) wb wm ["form","question"]
 D_10:Df K mg "entries_to_yes" (top 20) jg ms ["question","stray","field"]
 D_11:Df K mg "values_held" (top 21) jh mv ["question","field"]
 D_12:Df K mg "parted" (top 22) ji mw ["form","question","stray","rows"]
 D_13:Df K mg "numbers_on" (top 23) jj mx ["side","sides"]
 D_14:Df K mg "is_proper" (top 24) jk my ["sides","fewest"]
 D_15:Df K mg "is_leaf" (top 28) jl mz ["tree"]
 D_16:Df K mg "fits" (top 31) jm nc ["form","rule","case"]
 D_17:Df K mg "answered" (top 32) jo ng ["form","rules","case"]
 D_18:Df K mg "all_answered" (top 33) jp nh ["form","rules","most"]
 D_19:Df K mg "rules_of" (top 34) jq ni ["form","tree"]
 D_20:Df K mg "whole_lets" (top 35) jr nj ["form"]
 D_21:Df K mg "rules_within" (top 36) xi fv ["form","tree","lets"]
 D_22:Df K mg "with_let" (top 37) js nk ["lets","number","let"]
 D_23:Df K mg "shortened" (top 40) jt nl ["form","rules"]
 D_24:Df K mg "widened" (top 41) ju nn ["form","rules","answers"]
 D_25:Df K mg "cases_against" (top 42) jv nq ["rule","cases","answers"]
 D_26:Df K mg "not_fitted" (top 43) jw nr ["form","rule","cases"]
 D_27:Df K mg "widest" (top 44) jy nu ["form","rule","against"]
 D_28:Df K mg "not_let" (top 45) jz nv ["form","rule"]
 D_29:Df K mg "wider" (top 46) ka nw ["form","rule","number","entry"]
 D_30:Df K mg "first_fitted" (top 47) kb nz ["form","rule","cases"]
 D_31:Df K mg "needed" (top 48) kc oe ["form","rules","answers"]
 D_32:Df K mg "case_for" (top 49) kf og ["form","rules","number","answers"]
 D_33:Df K mg "without" (top 50) kg oh ["rules","number"]
 D_34:Df K mg "shows_of" (top 51) kh oi ["form","rules","answers"]
 D_35:Df K mg "more_of" (top 52) ki oj ["form","rule","against"]
 D_36:Df K mg "counted" (top 54) kj ol ["form","rows"]
 D_37:Df K mg "first_answer" (top 55) kl om ["form","rows"]
 D_38:Df K mg "doubt_of" (top 56) km on ["form","rows"]
 D_39:Df K mg "fraction" (top 57) ko oo ["top","bottom"]
 D_40:Df K mg "common_divisor" (top 58) kq oq ["one","other"]
 D_41:Df K mg "added" (top 59) kr ot ["one","other"]
 D_42:Df K mg "is_less" (top 60) kt ou ["one","other"]
 D_43:Df K mg "common_bottom" (top 61) ku ov ["fractions"]
 D_44:Df K mg "ranked" (top 63) kw im ["form","rows","least"]
 D_45:Df K mg "rows_at" (top 64) kx ow ["rows","numbers"]
 D_46:Df K mg "best" (top 65) la ox ["form","rows","least"]
 D_47:Df K mg "grown" (top 66) xj fw ["form","rows","deep","least"]
 D_48:Df K mg "tree_of" (top 69) le oy ["form","rules"]
 D_49:Df K mg "tree_for_all" (top 70) xk fx ["form","rows"]
 D_50:Df K mg "first_apart" (top 71) lf oz ["form","rows"]
 D_51:Df K mg "alike" (top 74) lg ph ["form","one","other"]
 D_52:Df K mg "pairs_of" (top 75) lh pi ["form","one","other"]
 D_53:Df K mg "shown_tree" (top 77) xl fy ["tree"]
 D_54:Df K mg "read_tree" (top 78) li pj ["form","text"]
 D_55:Df K mg "read_part" (top 79) ft fz ["form","words","start","within","knots"]
 D_56:Df K mg "read_question" (top 80) lj po ["form","words","start"]
 D_57:Df K mg "word_at" (top 81) lk pq ["words","number","right"]
 D_58:Df K mg "_law_mix" (top 83) ll pr ["_law_cell","_law_k"]
 D_59:Df K mg "_law_cell_at" (top 84) ln pu ["_law_script","_law_k"]
 D_60:Df K mg "_law_drawn" (top 85) lq py ["_law_cell","_law_many"]
 D_61:Df K mg "_law_names" (top 86) lr pz ["_law_drawn_here","_law_at","_law_many"]
 D_62:Df K mg "_law_form" (top 87) lu qa ["_law_script"]
 D_63:Df K mg "_law_case" (top 88) lv qb ["_law_form_here","_law_bits"]
 D_64:Df K mg "_law_row" (top 89) lw qc ["_law_form_here","_law_bits"]
 D_65:Df K mg "_law_rows" (top 90) lx qd ["_law_script","_law_form_here","_law_many"]
 D_66:Df K mg "_law_pop" (top 91) lz qe ["_law_numbers"]
 D_67:Df K mg "_law_asks" (top 92) ma qf ["_law_form_here","_law_number"]
 D_68:Df K mg "_law_tree" (top 93) fu gb ["_law_form_here","_law_numbers","_law_deep"]
 D_69:Df K mg "_law_side" (top 94) md qg ["_law_form_here","_law_question","_law_stray","_law_case_here"]
 D_70:Df K mg "_law_said" (top 95) me qh ["_law_form_here","_law_tree_here","_law_case_here"]
 D_71:Df K mg "_law_small" (top 96) mf qi ["_law_form_here"]
 D_72:Df K mg "_law_cases" (top 97) mh qj ["_law_form_here"]
 D_73:Df K mg "_law_in" (top 98) mi qk ["_law_lets","_law_case_here"]
 D_74:Df K mg "_law_ruled" (top 99) mj ql ["_law_rules","_law_case_here"]
 D_75:Df K mg "_law_wider" (top 100) ml qm ["_law_rule","_law_k","_law_value"]
 D_76:Df K mg "_law_some_of" (top 101) mm qo ["_law_rules","_law_few"]
 D_77:Df K mg "_law_within" (top 102) mo qp ["_law_rule","_law_lets","_law_answer"]
 D_78:Df K mg "_law_needed" (top 103) mq qq ["_law_form_here","_law_few","_law_at","_law_show"]
 D_79:Df K mg "_law_pieces_right" (top 104) mr qr ["_law_form_here","_law_tree_here","_law_back","_law_pieces","_law_cases_here"]
 D_law:Df K mg "law" (top 105) fc ur ["_law_script"]
 c_MOST_CASES:mg "MOST_CASES"=some (.int 2000 dz)
 c_KINDS:mg "KINDS"=some (.ref t_KINDS)
 t_KINDS:UW K t_KINDS ["is","upto"]
 c_SIDES:mg "SIDES"=some (.ref t_SIDES)
 t_SIDES:UW K t_SIDES ["yes","no"]
 c_MOST_DEEP:mg "MOST_DEEP"=some (.int 30 fi)
 c_MOST_KNOTS:mg "MOST_KNOTS"=some (.int 500 ec)
 c_MOST_RULES:mg "MOST_RULES"=some (.int 60 ef)
 c_MOST_CASES_SHORTENED:mg "MOST_CASES_SHORTENED"=some (.int 300 ah)
 c_MOST_CASES_BACK:mg "MOST_CASES_BACK"=some (.int 500 bu)
 c_MOST_PAIRS:mg "MOST_PAIRS"=some (.int 2000 ee)
 L_44:I0 K im.code
 b_ValueError:mg "ValueError"=none
 b_all:mg "all"=none
 b_enumerate:mg "enumerate"=none
 b_int:mg "int"=none
 b_len:mg "len"=none
 b_list:mg "list"=none
 b_max:mg "max"=none
 b_range:mg "range"=none
 b_set:mg "set"=none
 b_sorted:mg "sorted"=none
 b_sum:mg "sum"=none
 b_tuple:mg "tuple"=none
 b_zip:mg "zip"=none
noncomputable def kB:Str:="abcdefghijklmnopqrstuvwxyz"
noncomputable def Hg(c:Nat):Bool:=Txt.contains kB ⟨#[c]⟩
noncomputable def sW(z:Str):Bool:=decide (1<=z.length)&&decide (z.length<=8)&&z.cps.toList.all Hg
noncomputable def nm:D->Bool
|.str z=>sW z
|_=>false
noncomputable def Kr:D->Str
|.str z=>z
|_=>""
noncomputable def Kw(d:D)(lo a:Int):Bool:=match d with | .tuple ts=>decide (lo<=ts.length)&&decide ((ts.length:Int)<=a)&&ts.all nm&&decide ((ts.map Kr).Nodup) | _=>false
noncomputable def fld:D->Bool
|.tuple [n,vs]=>nm n&&Kw vs 2 5
|_=>false
noncomputable def fst:D->D
|.tuple (n::_)=>n
|_=>.none
def X9:lG:=λa Q=>∃c k:Int,a=[.int c,.int k]/\0<=k/\k<1000/\∀r:Int,0<=r->r<2147483647->Q (.int r)
def Vt:lG:=λa Q=>∃(ns:List Int)(k:Int),a=[.list (ns.map bN),.int k]/\ns.length<=63/\0<=k/\k<1000/\∀r:Int,Q (.int r)
def CM(n:Nat)(bs:List Int):Prop:=bs.length=n/\∀b∈bs,0<=b/\b<4096
def Vu:lG:=λa Q=>∃(c:Int)(n:Nat),a=[.int c,.int n]/\n<=100/\∀bs,CM n bs->Q (.list (bs.map bN))
def LF(n:Nat)(a:List Str):Prop:=a.length=n/\(∀y∈a,sW y=true)/\a.Nodup
def Vv:lG:=λb Q=>∃(bs:List Int)(n m k:Nat),b=[.list (bs.map bN),.int k,.int m]/\CM n bs/\k+11<=n/\n<=100/\m<=8/\∀a,LF m a->Q (.tuple (a.map aO))
noncomputable def iZ(f:Str×List Str):D:=.tuple [.str f.1,.tuple (f.2.map aO)]
noncomputable def dO(fs:List (Str×List Str))(an:List Str):D:=.tuple [.tuple (fs.map iZ),.tuple (an.map aO)]
structure eO(fs:List (Str×List Str))(an:List Str):Prop where
 n1:1<=fs.length
 n5:fs.length<=5
 nd:LF fs.length (fs.map (·.1))
 vs:∀f∈fs,2<=f.2.length/\f.2.length<=5/\LF f.2.length f.2
 a2:2<=an.length
 a4:an.length<=4
 an:LF an.length an
 n4:fs.length<=4
structure UX(fs:List (Str×List Str))(an:List Str):Prop where
 n1:1<=fs.length
 n5:fs.length<=5
 nd:LF fs.length (fs.map (·.1))
 vs:∀f∈fs,2<=f.2.length/\f.2.length<=5/\LF f.2.length f.2
 a2:2<=an.length
 a4:an.length<=4
 an:LF an.length an
def Ur:lG:=λa Q=>∃ns:List Int,a=[.list (ns.map bN)]/\ns.length<=63/\∀fs an,UX fs an->Q (dO fs an)
def oT{c:Type}{xs:List c}{i:Int}(d:0<=i)(e:i<xs.length):∃a,a∈xs/\L2.atI xs i=some a/\xs[i.toNat]?=some a:=by
 have b:i.toNat<xs.length:=by lia
 refine⟨xs[i.toNat],dL b,?_,aD b⟩;have:=L2.eB (xs:=xs) (j:=i.toNat) (v:=xs[i.toNat]) (aD b)
 rwa [show((i.toNat:Nat):Int)=i by lia]at this
def kE{bs:List Int}{n:Nat}{i:Int}(d:CM n bs)(e:0<=i)(f:i<n):∃b,0<=b/\b<4096/\L2.atI (bs.map bN) i=some (.int b):=by
 obtain⟨a,h,g,_⟩:=oT (xs:=bs.map bN) (i:=i) e (by rw[aB,d.1];exact f);obtain⟨b,c,rfl⟩:=aU.mp h;exact⟨b,(d.2 b c).1,(d.2 b c).2,g⟩
def iD(n:Nat):(fF n).length=n:=by unfold fF;simp
def iQ{n k:Nat}(h:(fF n)[k]?=some x):k<n/\x=.int k:=by
 unfold fF at h;rw[aF]at h;by_cases hk:k<n
 ·rw[gG hk]at h;cases h;exact⟨hk,Fx⟩
 ·rw[eD (by simpa using hk)]at h;cases h
def mE{b:Type}(a:List b)(j:Nat):kD a none (some (j:Int))=a.take j:=by
 unfold kD;rw[HT.sIx_none,HT.sIx_nat,vL,pY];by_cases h:j<=a.length
 ·rw[uY h]
 ·rw[CO Fu,cU,lH Fu]
def vW{b:Type}(a:List b)(i:Nat):kD a (some (i:Int)) none=a.drop i:=by
 unfold kD;rw[HT.sIx_none,HT.sIx_nat];by_cases h:i<=a.length
 ·rw[uY h,lH (by rw[eG];lia)]
 ·rw[CO Fu,sX (aM _),sX Fu];simp
def Xa{f:Type}(b:List f)(i j:Nat):kD b (some (i:Int)) (some (j:Int))=(b.drop i).take (j-i):=by
 unfold kD;rw[HT.sIx_nat,HT.sIx_nat];apply jF;intro k;rw[iW,iW,lJ,lJ];by_cases d:i<=b.length
 ·rw[uY d];by_cases e:j<=b.length
  ·rw[uY e]
  ·rw[CO Fu];by_cases c:k<b.length-i
   ·rw[b8 c,b8 Fu]
   ·rw[a9 c];by_cases a:k<j-i
    ·rw[b8 a,eD Fu]
    ·rw[a9 a]
 ·rw[a9 Fu];by_cases a:k<j-i
  ·rw[b8 a,eD Fu]
  ·rw[a9 a]
def nJ{c d:Type}(f:c->d)(b:List c)(lo a:Option Int):kD (b.map f) lo a=(kD b lo a).map f:=by
 unfold kD;rw[aB,mY,rM]
def SG{z:Str}(a:1<=z.cps.toList.length)(b:z.cps.toList.length<=8)(d:∀c∈z.cps.toList,c∈kB.cps.toList):sW z=true:=by
 have e:z.length=z.cps.toList.length:=by simp[t8]
 unfold sW;rw[e,a8 a,a8 b];simp only[oU,fU];intro c f;unfold Hg;rw[TV];exact a8 (d c f)
def FJ{z:Str}(h:sW z=true):1<=z.length/\z.length<=8/\∀c∈z.cps.toList,c∈kB.cps.toList:=by
 unfold sW at h;simp only[cL,d4,fU]at h;refine⟨h.1.1,h.1.2,λc a=>?_⟩;have:=h.2 c a;unfold Hg at this;rw[TV]at this;exact c5 this
theorem nodup_range{g:Type}{n:Nat}(F:Nat->g)(inj:∀i j,i<n->j<n->F i=F j->i=j):((eW n).map F).Nodup:=by
 rw[List.Nodup,zS];have:(eW n).Nodup:=List.nodup_range;refine xU.imp_of_mem (λ{a b} d f c e=>?_) this;exact c (inj a b (by simpa using d) (by simpa using f) e)
def DS(F:Nat->Str)(h:∀i,i<8->sW (F i)=true)(inj:∀i j,i<8->j<8->F i=F j->i=j):LF 8 ((eW 8).map F):=
 ⟨Fv,λy b=>by
  obtain⟨i,a,rfl⟩:=aU.mp b;exact h i (by simpa using a),nodup_range F inj⟩
def SD{a:List Str}(h:LF 8 a)(t:Nat){m:Nat}(d:m<=8):LF m ((a.drop t++a.take t).take m):=by
 have b:(a.drop t++a.take t).Perm a:=by
  have:(a.take t++a.drop t).Perm a:=by rw[fV]
  exact List.perm_append_comm.trans this
 refine⟨?_,λy c=>h.2.1 y (b.mem_iff.mp (dI c)),(b.nodup_iff.mpr h.2.2).sublist (zR _ _)⟩;rw[bD,b.length_eq,h.1];lia
def KI:kB.cps.toList.Nodup:=by decide +kernel
noncomputable def SO:List Str:=["say","ask","is","upto","yes","no","all","in"]
def Lr:LF 8 SO:=⟨Fx,Fq,Fq⟩
def WV{a:List Nat}(nd:a.Nodup){i j:Nat}{c:Nat}(d:a[i]?=some c)(e:a[j]?=some c):i=j:=by
 obtain⟨f,a2⟩:=aC.mp d;obtain⟨g,b⟩:=aC.mp e;exact(VF nd).mp (a2.trans b.symm)
theorem GV:∀{ys},(∀y∈ys,∃c,c∈kB.cps.toList/\y=.str ⟨#[c]⟩)->∃a:List Nat,ys=a.map (λc=>aO ⟨#[c]⟩)/\∀c∈a,c∈kB.cps.toList
|[],_=>⟨[],Fx,λc h=>by simp at h⟩
|y::ys,h=>by
 obtain⟨c,e,rfl⟩:=h y (aP ..);obtain⟨a,rfl,b⟩:=GV (ys:=ys) λy f=>h y (aK _ f);refine⟨c::a,Fx,λd hd=>?_⟩;rcases bA.mp hd with rfl | hd
 ·exact e
 ·exact b d hd
def BT(a:List Nat):(Txt.join ⟨#[]⟩ (a.map λc=>⟨#[c]⟩)).cps.toList=a:=by
 rw[KO,bL]
 induction a with
 |nil=>rfl
 |cons c a b=>rw[aZ,zT,b];rfl
def N6{xs:List Int}{lo hi:Int}(h:∀x∈xs,lo<=x/\x<=hi){i:Int}(d:0<=i)(e:i<xs.length):∃m:Int,lo<=m/\m<=hi/\L2.atI (xs.map bN) i=some (.int m):=by
 obtain⟨a,g,f,_⟩:=oT (xs:=xs.map bN) (i:=i) d (by rw[aB];exact e);obtain⟨b,c,rfl⟩:=aU.mp g;exact⟨b,(h b c).1,(h b c).2,f⟩
def UO{a:List Str}{k:Nat}(h:k<a.length):L2.atI (a.map aO) (k:Int)=some (.str a[k]):=L2.eB (by rw[aF,aD h];rfl)
noncomputable def WT(f:Str×List Str)(d:D):Bool:=match d with | .none=>true | .str z=>decide (z∈f.2) | _=>false
noncomputable def MP(an:List Str)(d:D):Bool:=match d with | .str z=>decide (z∈an) | _=>false
structure Cd(d:D):Prop where
 lay:d.canLay0=true
 dep:d.depth<=60
structure Th(n m:Nat)(d:D):Prop where
 bulk:d.bulk<=n
 fit:d.leavesShort 110=true
 shw:d.showable=true
 nodict:d.hasDict=false
 depth:d.depth<=m
 lay:d.canLay0=true
theorem tD{n m:Nat}:∀{ts:List D},(∀t∈ts,Th n m t)->C0 ts<=ts.length*(n+1)/\JD 110 ts=true/\NC ts=true/\lQ ts=false/\dR ts<=m/\dW ts=true
|[],_=>⟨dE _,Fx,Fx,Fx,dE _,Fx⟩
|t::ts,h=>by
 have a:=h t (aP ..);obtain⟨i,b,c,d,e,f⟩:=tD (ts:=ts) λx g=>h x (aK _ g);refine⟨?_,?_,?_,?_,?_,?_⟩
 ·show t.bulk+1+C0 ts<=(ts.length+1)*(n+1);have:=a.bulk;rw[rL,wG];lia
 ·show(t.leavesShort 110&&JD 110 ts)=true;rw[a.fit,b];rfl
 ·show(t.showable&&NC ts)=true;rw[a.shw,c];rfl
 ·show(t.hasDict||lQ ts)=false;rw[a.nodict,d];rfl
 ·show max t.depth (dR ts)<=m;exact Nat.max_le.mpr ⟨a.depth,e⟩
 ·show(t.canLay0&&dW ts)=true;rw[a.lay,f];rfl
def JV(n m k:Nat){N M:Nat}{a:List D}(h:∀t∈a,Th n m t)(f:a.length<=k)(l:k*(n+1)<=N)(j:m+1<=M):Th N M (.tuple a):=by
 obtain⟨g,b,c,d,i,e⟩:=tD h;have:a.length*(n+1)<=k*(n+1):=PZ _ f;exact⟨by show C0 a<=N;lia,b,c,d,by show dR a+1<=M;lia,e⟩
def uM{n m:Nat}:Th n m .none:=⟨dE _,Fx,Fx,Fx,dE _,Fx⟩
def GP{z:Str}(b:∀c∈z.cps.toList,c<1000):ZQ z=true:=by
 unfold ZQ;rw[<- Array.all_toList,fU];intro c a;have:=b c a;exact a8 Fu
def ZZ{n m:Nat}{z:Str}(h:z.length<=n)(a:∀c∈z.cps.toList,c<1000):Th n m (.str z):=by
 refine⟨h,?_,Fx,Fx,dE _,GP a⟩;show(z.cps.toList.all λc=>decide (c<16^8))=true;rw[fU];intro c b;have:=a c b;exact a8 Fu
def OR{c:Nat}(h:c∈kB.cps.toList):c<128:=by
 have:∀c∈kB.cps.toList,c<128:=by decide +kernel
 exact this c h
def BM{y:Str}(h:sW y=true):y.length<=8/\∀c∈y.cps.toList,c<128:=⟨(FJ h).2.1,λc a=>OR ((FJ h).2.2 c a)⟩
def jV(h:sW y=true){n m:Nat}(b:8<=n):Th n m (.str y):=ZZ (bP (BM h).1 b) λc a=>by have:=(BM h).2 c a;lia
def wO{a:List Str}(h:∀y∈a,sW y=true){n m:Nat}(b:8<=n):∀t∈a.map aO,Th n m t:=λt c=>by
 obtain⟨y,d,rfl⟩:=aU.mp c;exact jV (h y d) b
def F5{n m:Nat}:∀t∈([]:List D),Th n m t:=λt h=>by simp at h
def all_cons{n m:Nat}(h:Th n m a)(hs:∀t∈ts,Th n m t):∀t∈a::ts,Th n m t:=λt ht=>by
 rcases bA.mp ht with rfl | ht
 ·exact h
 ·exact hs t ht
def XX{n m:Nat}{a bs:List D}(h:∀t∈a,Th n m t)(hs:∀t∈bs,Th n m t):∀t∈a++bs,Th n m t:=λt b=>(cR.mp b).elim (h t) (hs t)
def Th.cd{n m:Nat}(h:Th n m d)(a:m<=60):Cd d:=⟨h.lay,bP h.depth a⟩
section
variable{fs:List (Str×List Str)}{an:List Str}
def eO.name(F:eO fs an){f:Str×List Str}(h:f∈fs):sW f.1=true:=F.nd.2.1 _ (aU.mpr ⟨f,h,Fx⟩)
def eO.vals(F:eO fs an){f:Str×List Str}(h:f∈fs):∀y∈f.2,sW y=true:=(F.vs f h).2.2.2.1
end
def qX{Q:D->Prop}(a:tQ x (.tuple ts))(b:Q (.bool (AS x (.tuple ts)))):Hw x (.tuple ts) Q:=by
 cases x<;>exact⟨a,b⟩
def T7{Q:D->Prop}(a:tQ x (.list ts))(b:Q (.bool (AS x (.list ts)))):Hw x (.list ts) Q:=by
 cases x<;>exact⟨a,b⟩
def IS(d:D)(a:List Str):((a.map aO).any λz=>cE z d)=MP a d:=by
 induction a with
 |nil=>cases d<;>rfl
 |cons y a b=>
  rw[aZ,aCw,b]
  cases d with
  |str z=>
   show((y==z)||decide (z∈a))=decide (z∈y::a);rw[fH];simp only[gT,av,d4,bA];exact⟨λh=>h.imp jd id,λh=>h.imp jd id⟩
  |_=>rfl
def L9{a:List Str}(h:∀y∈a,sW y=true)(hd:Cd d):tQ d (.tuple (a.map aO)):=by
 obtain⟨_,_,_,_,c,b⟩:=tD (wO h (aM 8) (m:=0));exact⟨b,hd.lay,by have:=hd.dep;lia⟩
def J8{a:List Str}(h:∀y∈a,sW y=true){d:D}(hd:Cd d):tQ d (.tuple (a.map aO++[.none])):=by
 obtain⟨_,_,_,_,c,b⟩:=tD (XX (wO h (aM 8) (m:=0)) (all_cons uM F5));exact⟨b,hd.lay,by have:=hd.dep;lia⟩
theorem AU:∀{a:List Str}{z}{m:Nat},m<a.idxOf z->a[m]?≠some z
|[],z,m,h=>by simp at h
|y::a,z,m,h=>by
 rw[List.idxOf_cons]at h;by_cases e:y=z
 ·subst e;simp at h
 ·have b:(y==z)=false:=by simpa using e
  rw[b]at h;simp only[cond_false]at h
  cases m with
  |zero=>simpa using e
  |succ m=>
   rw[hZ];exact AU Fu
def LV{d:ET}{c:List Sl}{i j:Nat}(h:∀q:D->Prop,q (.tuple [a,b])->d c q)(k:u DT ((c.set i (.val a)).set j (.val b))):fR (V6 i j d) u DT c:=h _ ⟨a,b,Fx,k⟩
def GZ{t:FT}{a:List Sl}{i:Nat}(b:List D)(h:∀q:List D->Prop,q b->t a q)(k:u DT (a.set i (.own b))):fR (G0 i t) u DT a:=h _ k
noncomputable def fE(fs:List (Str×List Str))(d:D):Bool:=match d with | .tuple ts=>decide (ts.length=fs.length)&&(fs.zip ts).all (λp=>WT p.1 p.2) | _=>false
def Us:lG:=λb Q=>∃(fs:List (Str×List Str))(an:List Str)(bs:List Int)(n:Nat),b=[dO fs an,.list (bs.map bN)]/\eO fs an/\CM n bs/\8<=n/\∀a,fE fs (.tuple a)=true->Q (.tuple a)
def Ut:lG:=λc Q=>∃(fs:List (Str×List Str))(an:List Str)(bs:List Int)(n:Nat),c=[dO fs an,.list (bs.map bN)]/\eO fs an/\CM n bs/\8<=n/\∀b a,fE fs (.tuple b)=true->a∈an->Q (.tuple [.tuple b,.str a])
section
variable{fs:List (Str×List Str)}{an:List Str}
def jA{a:List D}(h:fE fs (.tuple a)=true):a.length=fs.length/\∀(k:Nat) f c,fs[k]?=some f->a[k]?=some c->WT f c=true:=by
 unfold fE at h;simp only[cL,d4,fU]at h;refine⟨h.1,λk f c b d=>?_⟩;exact h.2 (f,c) (aR ((kH (z:=(f,c))).mpr ⟨b,d⟩))
def FZ{a:List D}(e:a.length=fs.length)(h:∀(k:Nat) f c,fs[k]?=some f->a[k]?=some c->WT f c=true):fE fs (.tuple a)=true:=by
 unfold fE;simp only[cL,d4,fU];refine⟨e,λp g=>?_⟩;obtain⟨k,hk⟩:=bU g;obtain⟨b,d⟩:=kH.mp hk;exact h k p.1 p.2 b d
def K7(F:eO fs an)(h:fE fs (.tuple cs)=true){n m:Nat}(e:8<=n):∀c∈cs,Th n m c:=λc b=>by
 obtain⟨d,f⟩:=jA h;obtain⟨k,hk⟩:=bU b;have a:k<fs.length:=by rw[<- d];exact(aC.mp hk).1
 have:=f k fs[k] c (aD a) hk
 cases c with
 |none=>exact uM
 |str z=>exact jV (F.vals (dL a) z (c5 this)) e
 |_=>cases this
end
noncomputable def jQ(r:List D×Str):D:=.tuple [.tuple r.1,.str r.2]
def UT(fs:List (Str×List Str))(an:List Str)(r:List D×Str):Prop:=fE fs (.tuple r.1)=true/\r.2∈an
def mU(fs:List (Str×List Str))(an:List Str)(a:List (List D×Str)):Prop:=∀r∈a,UT fs an r
def Uu:lG:=λb Q=>∃(ns:List Int)(fs:List (Str×List Str))(an:List Str)(n:Nat),b=[.list (ns.map bN),dO fs an,.int n]/\ns.length<=63/\eO fs an/\n<=60/\∀a,mU fs an a->a.length=n->Q (.list (a.map jQ))
noncomputable def Fy(f:Str×List Str)(k v:D):Bool:=match k,v with
|.str kk,.str z=>decide (z∈f.2)&&(decide (kk="is")||(decide (kk="upto")&&decide (f.2.idxOf z+1<f.2.length)))
|_,_=>false
noncomputable def Hj(n:D)(f:Str×List Str):Bool:=match n with | .str z=>decide (f.1=z) | _=>false
noncomputable def GG(fs:List (Str×List Str))(d:D):Bool:=match d with
|.tuple [k,n,v]=>fs.any λf=>Hj n f&&Fy f k v
|_=>false
noncomputable def Gi(k:Str)(f:Str×List Str)(z:Str):D:=.tuple [.str k,.str f.1,.str z]
noncomputable def E8(f:Str×List Str):List Str:=if f.2.length=2 then f.2.take 1 else f.2
noncomputable def E9(f:Str×List Str):List Str:=(f.2.drop 1).take (f.2.length-3)
noncomputable def N3(f:Str×List Str):List D:=(E8 f).map (Gi "is" f)++(E9 f).map (Gi "upto" f)
noncomputable def iX(fs:List (Str×List Str)):List D:=(fs.map N3).flatten
def Mq:GH:=λa Q=>∃(fs:List (Str×List Str))(an:List Str),a=[dO fs an]/\eO fs an/\Q (iX fs)
def FP{a:List Str}{j:Nat}(h:a[j]?=some z):a.idxOf z<=j:=by
 by_cases q:a.idxOf z<=j
 ·exact q
 ·exact c8 h (AU Fu)
def S0{f:Str×List Str}(h:z∈E9 f):z∈f.2/\f.2.idxOf z+1<f.2.length:=by
 unfold E9 at h;have b:z∈f.2:=jC (dI h);refine⟨b,?_⟩;obtain⟨i,a⟩:=bU h;have c:=(aC.mp a).1;rw[bD,eG]at c;rw[iW,b8 Fu,lJ]at a;have:=FP a;lia
def BU{fs}(a:f∈fs)(h:Fy f (.str k) (.str z)=true):GG fs (Gi k f z)=true:=by
 show(fs.any λg=>Hj (.str f.1) g&&Fy g (.str k) (.str z))=true;rw[oQ];refine⟨f,a,?_⟩;show(decide (f.1=f.1)&&Fy f (.str k) (.str z))=true;rw[h,a8 rfl];rfl
def CH{fs}(h:d∈iX fs):∃f∈fs,(∃z∈f.2,d=Gi "is" f z)\/(∃z,z∈f.2/\f.2.idxOf z+1<f.2.length/\d=Gi "upto" f z):=by
 unfold iX at h;obtain⟨l,c,hd⟩:=VE.mp h;obtain⟨f,b,rfl⟩:=aU.mp c;refine⟨f,b,?_⟩;unfold N3 at hd;rcases cR.mp hd with q | q
 ·obtain⟨z,a,rfl⟩:=aU.mp q;refine .inl ⟨z,?_,Fx⟩;unfold E8 at a;split at a
  ·exact dI a
  ·exact a
 ·obtain⟨z,a,rfl⟩:=aU.mp q;exact .inr ⟨z,(S0 a).1,(S0 a).2,Fx⟩
def K6{fs}(h:d∈iX fs):GG fs d=true:=by
 obtain⟨f,b,⟨z,a,rfl⟩ | ⟨z,a,c,rfl⟩⟩:=CH h
 ·refine BU b ?_;show(decide (z∈f.2)&&(decide (("is":Str)="is")||_))=true;rw[a8 a];rfl
 ·refine BU b ?_;show(decide (z∈f.2)&&(decide (("upto":Str)="is")||(decide (("upto":Str)="upto")&&decide (f.2.idxOf z+1<f.2.length))))=true;rw[a8 a,a8 c,a8 (rfl:("upto":Str)="upto")];simp
def SF:sW "is"=true:=by decide +kernel
def FI:sW "upto"=true:=by decide +kernel
def Z0{fs}(F:eO fs an)(hk:sW k=true){f:Str×List Str}(a:f∈fs)(b:z∈f.2):Th 27 1 (Gi k f z):=
 JV 8 0 3 (all_cons (jV hk (aM _)) (all_cons (jV (F.name a) (aM _)) (all_cons (jV (F.vals a z b) (aM _)) F5))) Fw Ft Ft
theorem pR{fs}(F:eO fs an):∀a:List (Str×List Str),(∀g∈a,g∈fs)->(iX a).length<=7*a.length
|[],_=>aM _
|g::a,h=>by
 have d:=pR F a λx b=>h x (aK _ b);obtain⟨_,e,_⟩:=F.vs g (h g (aP ..));show((N3 g::a.map N3).flatten).length<=_;rw[zT,aV]
 have c:(N3 g).length<=7:=by
  unfold N3 E8 E9;rw[aV,aB,aB,bD,eG];split
  ·rw[bD];lia
  ·lia
 have:(iX a).length=((a.map N3).flatten).length:=rfl;rw[bX];lia
def SQ{fs}(F:eO fs an){f g:Str×List Str}(h:f∈fs)(k:g∈fs)(e:g.1=f.1):g=f:=by
 obtain⟨i,d⟩:=bU h;obtain⟨j,a⟩:=bU k;have b:(fs.map (·.1))[i]?=some f.1:=by rw[aF,d];rfl
 have c:(fs.map (·.1))[j]?=some f.1:=by rw[aF,a,Option.map_some,e]
 obtain⟨l,m⟩:=aC.mp b;obtain⟨o,n⟩:=aC.mp c;have:i=j:=(rJ l F.nd.2.2).mp (b.trans c.symm);subst this;rw[d]at a;exact(c7 a).symm
def qS{a:List Str}(e:∀y∈a,sW y=true)(f:z∈a):J9 (a.map aO) (.str z) (a.idxOf z):=by
 have c:a.idxOf z<a.length:=fT.mpr f;obtain⟨_,_,_,_,i,g⟩:=tD (wO e (aM 8) (m:=0));refine⟨g,(jV (e z f) (aM 8) (m:=0)).lay,Fu,⟨.str z,?_,?_⟩,λm t h b=>?_⟩
 ·rw[aF,aD c,lI c];rfl
 ·show(z==z)=true;simp
 ·rw[aF]at b
  cases d:a[m]? with
  |none=>rw[d]at b;cases b
  |some y=>
   rw[d]at b;cases b;show(y==z)=false
   have:y≠z:=λq=>by
    subst q;exact AU h d
   simpa using this
inductive Tr | say (a:Str) | ask (k n v s:Str) (y m:Tr)
noncomputable def jU:Tr->D
|.say a=>.tuple [.str "say",.str a]
|.ask k n v s y m=>.tuple [.str "ask",.tuple [.str k,.str n,.str v],.str s,jU y,jU m]
noncomputable def Tr.dep:Tr->Nat
|.say _=>0
|.ask _ _ _ _ y m=>max y.dep m.dep+1
noncomputable def Tr.kn:Tr->Nat
|.say _=>0
|.ask _ _ _ _ y m=>y.kn+m.kn+1
def kK(fs:List (Str×List Str))(an:List Str):Tr->Prop
|.say a=>a∈an
|.ask k n v s y m=>GG fs (.tuple [.str k,.str n,.str v])=true/\(s="yes"\/s="no")/\kK fs an y/\kK fs an m
def qB{fs}{k n v:Str}(h:GG fs (.tuple [.str k,.str n,.str v])=true):∃f∈fs,f.1=n/\v∈f.2/\(k="is"\/(k="upto"/\f.2.idxOf v+1<f.2.length)):=by
 obtain⟨f,c,b⟩:=oQ.mp (h:(fs.any λf=>Hj (.str n) f&&Fy f (.str k) (.str v))=true);rw[cL]at b;have a:(decide (v∈f.2)&&(decide (k="is")||(decide (k="upto")&&decide (f.2.idxOf v+1<f.2.length))))=true:=b.2;simp only[cL,gT,d4]at a;exact⟨f,c,c5 b.1,a.1,a.2⟩
def KA:sW "yes"=true:=by decide +kernel
def SE:sW "no"=true:=by decide +kernel
def KB:sW "say"=true:=by decide +kernel
def KD:sW "ask"=true:=by decide +kernel
def Nc{fs}(F:eO fs an)(h:GG fs (.tuple [.str k,.str n,.str v])=true):Th 27 1 (.tuple [.str k,.str n,.str v]):=by
 obtain⟨f,a,rfl,b,hk⟩:=qB h;refine Z0 F ?_ a b;rcases hk with rfl | ⟨rfl,_⟩
 ·exact SF
 ·exact FI
theorem EY{fs}(F:eO fs an):∀t:Tr,kK fs an t->Th (68*t.kn+18) (t.dep+1) (jU t)
|.say a,h=>JV 8 0 2 (all_cons (jV KB (aM _)) (all_cons (jV (F.an.2.1 a h) (aM _)) F5)) Fw (by show 2*(8+1)<=68*0+18;decide) (aM _)
|.ask k n v s y m,h=>by
 obtain⟨p,hs,r,o⟩:=h;have d:=EY F y r;have c:=EY F m o;have q:=Nc F p
 have sn:sW s=true:=by
  rcases hs with rfl | rfl
  ·exact KA
  ·exact SE
 have e:=jV sn (n:=8) (m:=0) (aM _);have b:=jV KD (n:=8) (m:=0) (aM _);have j:PyData.bulk (jU (.ask k n v s y m))=(aO "ask").bulk+1+((aW [.str k,.str n,.str v]).bulk+1+((aO s).bulk+1+((jU y).bulk+1+((jU m).bulk+1+0)))):=rfl;have l:PyData.depth (jU (.ask k n v s y m))=max (aO "ask").depth (max (aW [.str k,.str n,.str v]).depth (max (aO s).depth (max (jU y).depth (max (jU m).depth 0))))+1:=rfl;refine⟨?_,?_,?_,?_,?_,?_⟩
 ·rw[j];have f:=d.bulk;have a2:=c.bulk;have g:=q.bulk;have a4:=e.bulk;have i:=b.bulk;show _<=68*(y.kn+m.kn+1)+18;lia
 ·show((aO "ask").leavesShort 110&&((aW [.str k,.str n,.str v]).leavesShort 110&&((aO s).leavesShort 110&&((jU y).leavesShort 110&&((jU m).leavesShort 110&&true)))))=true;rw[b.fit,q.fit,e.fit,d.fit,c.fit];rfl
 ·show((aO "ask").showable&&((aW [.str k,.str n,.str v]).showable&&((aO s).showable&&((jU y).showable&&((jU m).showable&&true)))))=true;rw[b.shw,q.shw,e.shw,d.shw,c.shw];rfl
 ·show((aO "ask").hasDict||((aW [.str k,.str n,.str v]).hasDict||((aO s).hasDict||((jU y).hasDict||((jU m).hasDict||false)))))=false;rw[b.nodict,q.nodict,e.nodict,d.nodict,c.nodict];rfl
 ·rw[l];have f:=d.depth;have a2:=c.depth;have g:=q.depth;have a4:=e.depth;have i:=b.depth;show _<=max y.dep m.dep+1+1;lia
 ·show((aO "ask").canLay0&&((aW [.str k,.str n,.str v]).canLay0&&((aO s).canLay0&&((jU y).canLay0&&((jU m).canLay0&&true)))))=true;rw[b.lay,q.lay,e.lay,d.lay,c.lay];rfl
theorem Tr.kn_dep:∀t:Tr,t.kn<2^t.dep
|.say _=>by show 0<2^0;decide
|.ask _ _ _ _ y m=>by
 have:=kn_dep y;have:=kn_dep m;show y.kn+m.kn+1<2^(max y.dep m.dep+1);have a:2^y.dep<=2^(max y.dep m.dep):=kO Ft (Nat.le_max_left ..);have b:2^m.dep<=2^(max y.dep m.dep):=kO Ft (Nat.le_max_right ..);rw[uJ];lia
def Uv:lG:=λa Q=>a=[.dict []]/\∀n:Int,0<=n->n<4096->Q (.int n)
def Uw:lG:=λa Q=>∃(fs:List (Str×List Str))(an:List Str)(n:Int),a=[dO fs an,.int n]/\eO fs an/\0<=n/\∀k nm v,GG fs (.tuple [.str k,.str nm,.str v])=true->Q (.tuple [.str k,.str nm,.str v])
def uN{c:xQ}(P:Nat->List Sl->Prop)(e:Nat)(f:P e σ)
  (hs:∀n a,P n a->∃b:Bool,(∀q:Bool->Prop,q b->c a q)/\(if b=true then tb { DT with nx:=λd=>∃m,m<n/\P m d,ct:=λd=>∃m,m<n/\P m d,bk:=u DT } a else u DT a)):fR (Q7 c tb) u DT σ:=
 ⟨P,⟨e,f⟩,λn a g=>let ⟨_,h1,h2⟩:=hs n a g;h1 _ h2⟩
def O9(a:List Str):kD a none (some (-1))=a.take (a.length-1):=by
 unfold kD;rw[HT.sIx_none,vL,pY];congr 1;show(if(-1:Int)<0 then((-1:Int)+(a.length:Int)).toNat else min (-1:Int).toNat a.length)=_;rw[b8 Ft];lia
def O1{a:List Str}(e:a.Nodup):z∈a.take (a.length-1)↔z∈a/\a.idxOf z+1<a.length:=by
 constructor
 ·intro h;obtain⟨i,b⟩:=bU h;have d:=(aC.mp b).1;rw[bD]at d;rw[iW,b8 Fu]at b;have:=FP b;exact⟨aR b,Fu⟩
 ·rintro⟨h1,h2⟩;have c:a.idxOf z<a.length:=fT.mpr h1;refine aR (i:=a.idxOf z) ?_;rw[iW,b8 Fu,aD c,lI c]
noncomputable def xP(k:Str)(f:Str×List Str):List Str:=if k="upto" then f.2.take (f.2.length-1)else f.2
def Mp:lG:=λa Q=>∃(k:Str)(f:Str×List Str),a=[.str k,iZ f]/\f.2.length<=5/\Q (.tuple ((xP k f).map aO))
def PM{f:Str×List Str}(h:y∈xP k f):y∈f.2:=by
 unfold xP at h;split at h
 ·exact dI h
 ·exact h
def UP{f:Str×List Str}(c:f.2.Nodup){a:Str}(hk:a="is"\/a="upto")(v:D):MP (xP a f) v=Fy f (.str a) v:=by
 cases v with
 |str z=>
  show decide (z∈xP a f)=(decide (z∈f.2)&&(decide (a="is")||(decide (a="upto")&&decide (f.2.idxOf z+1<f.2.length))));unfold xP;rcases hk with rfl | rfl
  ·have b:¬("is":Str)="upto":=by decide +kernel
   rw[a9 b,a8 (rfl:("is":Str)="is"),Bool.true_or,Bool.and_true]
  ·have b:decide (("upto":Str)="is")=false:=by decide +kernel
   rw[b8 Fx,b,a8 (rfl:("upto":Str)="upto"),aCx,oU,fH,cL,i0,i0,i0];exact O1 c
 |_=>rfl
def XU(a:List Str)(h:2<=a.length):kD a (some 1) (some (-2))=(a.drop 1).take (a.length-3):=by
 unfold kD
 have b:HT.sIx a.length 0 (some 1)=1:=by
  show(if(1:Int)<0 then((1:Int)+(a.length:Int)).toNat else min (1:Int).toNat a.length)=_;rw[a9 Ft];show min 1 a.length=1;lia
 have c:HT.sIx a.length a.length (some (-2))=a.length-2:=by
  show(if(-2:Int)<0 then((-2:Int)+(a.length:Int)).toNat else min (-2:Int).toNat a.length)=_;rw[b8 Ft];lia
 rw[b,c];congr 1
def XT(a:List Str)(h:2<=a.length):kD a none (some 1)=a.take 1:=mE a 1
def Mr:GH:=λa Q=>∃f:Str×List Str,a=[iZ f]/\2<=f.2.length/\f.2.length<=5/\Q (N3 f)
abbrev Rw:=List D×Str
noncomputable def CV(b:List Rw)(a:Str):Nat:=b.countP λr=>decide (r.2=a)
noncomputable def pQ(an:List Str)(b:List Rw):List Int:=an.map λa=>(CV b a:Int)
noncomputable def WG(ss a:List Rw):Nat:=(ss.map λr=>a.countP λo=>decide (o.2≠r.2)).sum
noncomputable def S6(a b:Nat):D:=.tuple [.int ((a / a.gcd b:Nat):Int),.int ((b / a.gcd b:Nat):Int)]
def No(an:List Str)(c:List Rw)(a:Str):Prop:=∃k,an[k]?=some a/\(∀(j:Nat) b,an[j]?=some b->CV c b<=CV c a)/\∀(j:Nat) b,j<k->an[j]?=some b->CV c b<CV c a
def YA:lG:=λc Q=>∃a b:Nat,c=[.int a,.int b]/\0<b/\a<2^190/\b<2^190/\Q (S6 a b)
def Tt:GH:=λb Q=>∃(fs:List (Str×List Str))(an:List Str)(a:List Rw),b=[dO fs an,.list (a.map jQ)]/\eO fs an/\mU fs an a/\a.length<=60/\Q ((pQ an a).map bN)
def Tu:lG:=λc Q=>∃(fs:List (Str×List Str))(an:List Str)(b:List Rw),c=[dO fs an,.list (b.map jQ)]/\eO fs an/\mU fs an b/\b.length<=60/\∀a,No an b a->Q (.str a)
def Tv:lG:=λb Q=>∃(fs:List (Str×List Str))(an:List Str)(a:List Rw),b=[dO fs an,.list (a.map jQ)]/\eO fs an/\mU fs an a/\a.length<=60/\Q (S6 (WG a a) (max 1 a.length))
theorem J2:∀(ss a:List Rw),WG ss a<=ss.length*a.length
|[],a=>by show 0<=_;lia
|s::ss,a=>by
 have:=J2 ss a;have b:a.countP (λo=>decide (o.2≠s.2))<=a.length:=LL;show a.countP (λo=>decide (o.2≠s.2))+WG ss a<=(ss.length+1)*a.length;rw[rL,wG];lia
def Wz(b:List Rw)(a:Str):CV b a<=b.length:=LL
theorem IE{a:Type}[DecidableEq a]:∀(l:List a)(x:a),x∈l->∃k:Nat,l[k]?=some x/\∀j:Nat,j<k->l[j]?≠some x
|y::l,x,h=>by
 by_cases e:y=x
 ·exact⟨0,by rw[e];rfl,λj d=>by lia⟩
 ·obtain⟨k,b,c⟩:=IE l x ((bA.mp h).resolve_left λz=>e z.symm);refine⟨k+1,b,λj d=>?_⟩
  cases j with
  |zero=>exactλz=>e (c7 z)
  |succ j=>exact c j Fu
noncomputable def aKk(a:Str)(x:D):Bool:=match x with | .tuple [_,.str b]=>!decide (b=a) | _=>false
noncomputable def pJ(f:Str×List Str)(k v st:Str)(c:D):Str:=match c with
|.none=>st
|.str z=>if k="is" then(if z=v then "yes" else "no")else if f.2.idxOf z<=f.2.idxOf v then "yes" else "no"
|_=>""
noncomputable def iY(fs:List (Str×List Str))(k n v st:Str)(a:List D):Str:=match fs[(fs.map (·.1)).idxOf n]?,a[(fs.map (·.1)).idxOf n]? with
|some f,some c=>pJ f k v st c
|_,_=>""
def Kg:lG:=λb Q=>∃(fs:List (Str×List Str))(an:List Str)(k n v st:Str)(a:List D),b=[dO fs an,.tuple [.str k,.str n,.str v],.str st,.tuple a]/\eO fs an/\GG fs (.tuple [.str k,.str n,.str v])=true/\(st="yes"\/st="no")/\fE fs (.tuple a)=true/\Q (.str (iY fs k n v st a))
def Uy:lG:=Kg
noncomputable def tP(fs:List (Str×List Str))(k n v st:Str)(a:List (List D×Str))(w:Str)(x:D):Bool:=match x with
|.int i=>match L2.atI a i with | some r=>decide (iY fs k n v st r.1=w) | none=>false
|_=>false
noncomputable def iO(fs:List (Str×List Str))(k n v st:Str)(a:List (List D×Str))(w:Str):List D:=(fF a.length).filter (tP fs k n v st a w)
def Sq:Hb:=λb Q=>∃(fs:List (Str×List Str))(an:List Str)(k n v st:Str)(a:List (List D×Str)),b=[dO fs an,.tuple [.str k,.str n,.str v],.str st,.list (a.map jQ)]/\eO fs an/\GG fs (.tuple [.str k,.str n,.str v])=true/\(st="yes"\/st="no")/\mU fs an a/\a.length<=60/\Q (iO fs k n v st a "yes") (iO fs k n v st a "no")
def FK{fs:List (Str×List Str)}(F:eO fs an){j:Nat}{f:Str×List Str}(h:fs[j]?=some f):(fs.map (·.1)).idxOf f.1=j:=by
 have d:f.1∈fs.map (·.1):=aU.mpr ⟨f,aR h,Fx⟩;have a:(fs.map (·.1)).idxOf f.1<(fs.map (·.1)).length:=fT.mpr d;have b:(fs.map (·.1))[(fs.map (·.1)).idxOf f.1]?=some f.1:=by rw[aD a,lI a]
 have c:(fs.map (·.1))[j]?=some f.1:=by rw[aF,h];rfl
 exact(rJ a F.nd.2.2).mp (b.trans c.symm)
def tL{fs}(F:eO fs an){st}{j:Nat}{f:Str×List Str}(a:fs[j]?=some f)(b:cs[j]?=some c)(d:f.1=n):iY fs k n v st cs=pJ f k v st c:=by
 subst d;unfold iY;rw[FK F a,a,b]
noncomputable def Iz(fs:List (Str×List Str))(k n v st:Str)(x:D):D:=match x with | .tuple [.tuple cs,_]=>.str (iY fs k n v st cs) | _=>.none
def oJ{c:ET}{b:xR}{a:List Sl}{i:Nat}{ts us:List D}(d:a[i]?=some (.own ts))(e:ts.length+us.length<=100000)(h:∀q:D->Prop,q (.list us)->c a q)(k:b.nx (a.set i (.own (ts++us)))):YE i c b a:=⟨ts,d,h _ ⟨us,Fx,e,k⟩⟩
def OE{fs st}{j:Nat}{r:List D×Str}(h:rs[j]?=some r):tP fs k n v st rs w (.int (j:Int))=decide (iY fs k n v st r.1=w):=by
 show(match L2.atI rs (j:Int)with | some r=>decide (iY fs k n v st r.1=w) | none=>false)=_;rw[L2.eB h]
noncomputable def BZ(k v:Str)(f:Str×List Str):List Str:=if k="is" then[v]else f.2.take (f.2.idxOf v+1)
def So:lG:=λa Q=>∃(k n v:Str)(f:Str×List Str),a=[.tuple [.str k,.str n,.str v],iZ f]/\(∀y∈f.2,sW y=true)/\v∈f.2/\f.2.length<=5/\Q (.tuple ((BZ k v f).map aO))
def O0{f:Str×List Str}{k v st z:Str}(d:z∈f.2):(if MP (BZ k v f) (.str z)=true then("yes":Str)else "no")=pJ f k v st (.str z):=by
 show(if decide (z∈BZ k v f)=true then("yes":Str)else "no")=if k="is" then(if z=v then("yes":Str)else "no")else if f.2.idxOf z<=f.2.idxOf v then("yes":Str)else "no";unfold BZ;by_cases hk:k="is"
 ·rw[b8 hk,b8 hk];by_cases e:z=v
  ·rw[b8 e,b8 (a8 (bW.mpr e))]
  ·rw[a9 e,a9 (λq=>e (bW.mp (c5 q)))]
 ·rw[a9 hk,a9 hk];have b:f.2.idxOf z<f.2.length:=fT.mpr d;by_cases e:f.2.idxOf z<=f.2.idxOf v
  ·rw[b8 e,b8];refine a8 (aR (i:=f.2.idxOf z) ?_);rw[iW,b8 Fu,aD b,lI b]
  ·rw[a9 e,a9];intro q;obtain⟨i,a⟩:=bU (c5 q);have c:=(aC.mp a).1;rw[bD]at c;rw[iW,b8 Fu]at a;have:=FP a;lia
def IB{f:Str×List Str}(a:v∈f.2)(h:y∈BZ k v f):y∈f.2:=by
 unfold BZ at h;split at h
 ·rw[bW.mp h];exact a
 ·exact dI h
noncomputable def oH(k v st:Str)(f:Str×List Str):List D:=(BZ k v f).map aO++(if st="yes" then[qO]else[])
def Sn:lG:=λa Q=>∃(k n v st:Str)(f:Str×List Str),a=[.tuple [.str k,.str n,.str v],.str st,iZ f]/\(∀y∈f.2,sW y=true)/\v∈f.2/\f.2.length<=5/\Q (.tuple (oH k v st f))
def Mt:lG:=λa Q=>∃(fs:List (Str×List Str))(an:List Str)(k n v:Str)(f:Str×List Str)(j:Nat),a=[dO fs an,.tuple [.str k,.str n,.str v]]/\eO fs an/\fs[j]?=some f/\f.1=n/\Q (.int (j:Int))
def TY{f:Str×List Str}(h:f.2.length<=5):(BZ k v f).length<=5:=by
 unfold BZ;split
 ·show 1<=5;decide
 ·rw[bD];lia
def BX{k v st:Str}(a:st="yes"\/st="no")(b:WT f c=true):(if AS c (.tuple (oH k v st f))=true then("yes":Str)else "no")=pJ f k v st c:=by
 have e:AS c (.tuple (oH k v st f))=(MP (BZ k v f) c||((if st="yes" then[qO]else[]).any λz=>cE z c)):=by
  show((oH k v st f).any λz=>cE z c)=_;unfold oH;rw[X7,IS]
 cases c with
 |none=>
  rw[e];rcases a with rfl | rfl<;>rfl
 |str z=>
  have g:z∈f.2:=c5 b
  have d:((if st="yes" then[qO]else[]).any λx=>cE x (.str z))=false:=by
   rcases a with rfl | rfl<;>rfl
  rw[e,d,rN];exact O0 g
 |_=>cases b
def HE{st}{f:Str×List Str}(b:∀y∈f.2,sW y=true)(c:v∈f.2)(hd:Cd d):tQ d (.tuple (oH k v st f)):=by
 unfold oH;split
 ·exact J8 (λy a=>b y (IB c a)) hd
 ·rw[dU];exact L9 (λy a=>b y (IB c a)) hd
noncomputable def Gy(w:Str)(x:D):Bool:=match x with | .tuple [_,.str s]=>decide (s=w) | _=>false
noncomputable def W6(ss:List Str)(w:Str)(x:D):Bool:=match x with | .int i=>(match L2.atI ss i with | some s=>decide (s=w) | none=>false) | _=>false
noncomputable def Ho(ss:List Str)(x:D):D:=match x with | .int i=>(match L2.atI ss i with | some s=>.str s | none=>.none) | _=>.none
noncomputable def Hy(x:D):D:=match x with | .tuple [a,_]=>a | _=>x
def D6(ss:List Str):tY (ss.map aO)=(fF ss.length).map λx=>.tuple [x,Ho ss x]:=by
 apply jF;intro i
 cases h:ss[i]? with
 |none=>
  have b:=qP.mp h;rw[eD (by rw[kX,aB];exact b),eD (by rw[aB,iD];exact b)]
 |some s=>
  have b:=(aC.mp h).1;rw[pF (a:=.str s) (by rw[aF,h];rfl),aF];unfold fF;rw[aF,gG b];show _=some (aW [.int (i:Int),match L2.atI ss (i:Int)with | some s=>.str s | none=>.none]);rw[L2.eB h]
def IJ(ss:List Str)(w:Str):((tY (ss.map aO)).filter (Gy w)).map Hy=(fF ss.length).filter (W6 ss w):=by
 rw[D6,kL,bL];have a:(Hy∘λx=>aW [x,Ho ss x])=id:=by funext x;rfl
 have b:(Gy w∘λx=>aW [x,Ho ss x])=W6 ss w:=by
  funext x
  cases x with
  |int i=>
   show Gy w (.tuple [.int i,(match L2.atI ss i with | some s=>aO s | none=>.none)])=(match L2.atI ss i with | some s=>decide (s=w) | none=>false);cases L2.atI ss i<;>rfl
  |_=>rfl
 rw[a,b,kM]
def Sr:GH:=λa Q=>∃(w:Str)(ss:List Str),a=[.str w,.list (ss.map aO)]/\ss.length<=60/\Q ((fF ss.length).filter (W6 ss w))
def LT{fs st}{a:List (List D×Str)}(w:Str):(fF (a.map λr=>iY fs k n v st r.1).length).filter (W6 (a.map λr=>iY fs k n v st r.1) w)=iO fs k n v st a w:=by
 unfold iO;rw[aB];apply jE;intro x e;obtain⟨j,d⟩:=bU e;obtain⟨b,rfl⟩:=iQ d;have c:a[j]?=some a[j]:=aD b;rw[OE c];show(match L2.atI (a.map λr=>iY fs k n v st r.1) (j:Int)with | some s=>decide (s=w) | none=>false)=_;rw[L2.eB (v:=iY fs k n v st a[j].1) (by rw[aF,c];rfl)]
noncomputable def Jo(b:List Rw)(x:D):D:=match x with | .str a=>.int ((CV b a:Nat):Int) | _=>.none
def JU(b:List Rw)(a:Str):((b.map λr=>aO r.2).countP λt=>cE t (.str a))=CV b a:=by
 rw[uL];unfold CV;congr 1
def TB:∀{ys:List Str},(∀y∈ys,sW y=true)->dW (ys.map aO)=true/\dR (ys.map aO)<=0:=λh=>by
 obtain⟨_,_,_,_,a,b⟩:=tD (wO h (aM 8) (m:=0));exact⟨b,a⟩
theorem HU:∀ns:List Int,dW (ns.map bN)=true/\dR (ns.map bN)=0
|[]=>⟨Fx,Fx⟩
|n::ns=>by
 have:=HU ns;refine⟨?_,?_⟩
 ·show(true&&dW (ns.map bN))=true;rw[this.1];rfl
 ·show max 0 (dR (ns.map bN))=0;rw[this.2];rfl
def OF{ns:List Int}{m:Int}{j:Nat}(h:ns[j]?=some m)(b:∀i:Nat,i<j->ns[i]?≠some m):J9 (ns.map bN) (.int m) j:=by
 obtain⟨c,d⟩:=HU ns;refine⟨c,Fx,by rw[d];lia,⟨.int m,by rw[aF,h];rfl,?_⟩,λi t f a=>?_⟩
 ·show(m==m)=true;simp
 ·rw[aF]at a
  cases e:ns[i]? with
  |none=>rw[e]at a;cases a
  |some n=>
   rw[e]at a;cases a;show(n==m)=false;have:n≠m:=λz=>b i f (by rw[e,z]);simpa using this
def Tw:lG:=λc Q=>∃a b:Nat,c=[.int a,.int b]/\Q (.int ((a.gcd b:Nat):Int))
def VO{an:List Str}(k:an.Nodup)(g:Str->Int)(h:b∈an):(an.map λa=>if b=a then g a else 0).sum=g b:=by
 induction an with
 |nil=>simp at h
 |cons a an m=>
  rw[aZ,eR];obtain⟨f,d⟩:=mZ.mp k;by_cases e:b=a
  ·subst e
   have z:(an.map λa=>if b=a then g a else 0).sum=0:=by
    have:∀l:List Str,b∉l->(l.map λa=>if b=a then g a else 0).sum=0:=λl=>by
     induction l with
     |nil=>intro _;rfl
     |cons c l i=>
      intro j;rw[aZ,eR,i λq=>j (aK _ q),a9 λ(q:b=c)=>j (by rw[q];exact aP ..)];rfl
    exact this an f
   rw[z,b8 rfl];lia
  ·rw[a9 e,m d ((bA.mp h).resolve_left e)];lia
def VP(an:List Str)(f g:Str->Int):(an.map λa=>f a+g a).sum=(an.map f).sum+(an.map g).sum:=by
 induction an with
 |nil=>rfl
 |cons a an b=>rw[aZ,aZ,aZ,eR,eR,eR,b];lia
theorem GO{an:List Str}(d:an.Nodup)(g:Str->Int):∀ss:List Rw,(∀r∈ss,r.2∈an)->(an.map λa=>(CV ss a:Int)*g a).sum=(ss.map λr=>g r.2).sum
|[],_=>by
 have:∀l:List Str,(l.map λa=>((CV [] a:Nat):Int)*g a).sum=0:=λl=>by
  induction l with
  |nil=>rfl
  |cons c l b=>
   rw[aZ,eR,b];show((0:Nat):Int)*g c+0=0;simp
 exact this an
|r::ss,h=>by
 have i:=GO d g ss λx f=>h x (aK _ f)
 have e:(λa=>((CV (r::ss) a:Nat):Int)*g a)=λa=>(if r.2=a then g a else 0)+(CV ss a:Int)*g a:=by
  funext a;unfold CV;rw[A0];by_cases q:r.2=a
  ·rw[b8 q,b8 (a8 q),nB,aKi];show _+1*g a=_;rw[Int.one_mul,Int.add_comm]
  ·rw[a9 q,a9 (by simpa using q),Nat.add_zero,Int.zero_add]
 rw[e,VP,VO d g (h r (aP ..)),i,aZ,eR]
def N8(b:List Rw)(a:Str):((b.countP λo=>decide (o.2≠a):Nat):Int)=(b.length:Int)-(CV b a:Int):=by
 unfold CV
 have:b.length=(b.countP λo=>decide (o.2=a))+(b.countP λo=>decide (o.2≠a)):=by
  rw[List.length_eq_countP_add_countP (λo:Rw=>decide (o.2=a))];congr 2;funext o;by_cases q:o.2=a<;>simp[q]
 lia
theorem SN:∀l:List Nat,((l.sum:Nat):Int)=(l.map λ(n:Nat)=>(n:Int)).sum
|[]=>rfl
|n::l=>by rw[eR,aZ,eR,nB,SN l]
def WF{an:List Str}(e:an.Nodup){b:List Rw}(h:∀r∈b,r.2∈an):((pQ an b).map λc=>c*((b.length:Int)-c)).sum=((WG b b:Nat):Int):=by
 have d:=GO e (λa=>(b.length:Int)-(CV b a:Int)) b h;unfold pQ WG;rw[bL,SN,bL];refine d.trans ?_;congr 1;apply iI;intro r _;exact(N8 b r.2).symm
noncomputable def YJ(n:Int)(x:D):D:=match x with | .int c=>.int (c*(n-c)) | _=>.none
noncomputable def Ni(x:D):D:=match x with | .tuple [_,b]=>b | _=>x
noncomputable def Nz:Tr->Bool
|.say _=>true
|.ask _ _ _ _ _ _=>false
def Uh:lG:=λa Q=>∃t:Tr,a=[jU t]/\Q (.bool (Nz t))
noncomputable def eE:Tr->List Str
|.say a=>["say",a]
|.ask k n v s y m=>(["ask",n,k,v,s]:List Str)++(eE y++eE m)
noncomputable def oN:Str:=" "
noncomputable def mR(t:Tr):Str:=Txt.join oN (eE t)
theorem vM:∀t:Tr,(eE t).length=7*t.kn+2
|.say _=>rfl
|.ask k n v s y m=>by
 show((["ask",n,k,v,s]:List Str)++(eE y++eE m)).length=7*(y.kn+m.kn+1)+2;rw[aV,aV,vM y,vM m];show 5+_=_;lia
theorem pA{fs}(F:eO fs an):∀t:Tr,kK fs an t->∀w∈eE t,sW w=true
|.say a,h,w,hw=>by
 rcases bA.mp hw with rfl | hw
 ·exact KB
 ·rw[bW.mp hw];exact F.an.2.1 a h
|.ask k n v s y m,h,w,hw=>by
 obtain⟨e,hs,i,d⟩:=h;obtain⟨f,c,b,g,hk⟩:=qB e;rcases cR.mp hw with hw | hw
 ·simp only[bA,dG,i8]at hw;rcases hw with rfl | rfl | rfl | rfl | rfl
  ·exact KD
  ·rw[<- b];exact F.name c
  ·rcases hk with rfl | ⟨rfl,_⟩
   ·exact SF
   ·exact FI
  ·exact F.vals c _ g
  ·rcases hs with rfl | rfl
   ·exact KA
   ·exact SE
 ·rcases cR.mp hw with hw | hw
  ·exact pA F y i w hw
  ·exact pA F m d w hw
def sZ:∀t:Tr,∃w a,eE t=w::a
|.say _=>⟨_,_,Fx⟩
|.ask _ _ _ _ _ _=>⟨_,_,Fx⟩
theorem FO(c:Nat):∀(x:List Nat)(b:List (List Nat))(y:List Nat)(a:List (List Nat)),jn c ((x::b)++(y::a))=jn c (x::b)++c::jn c (y::a)
|x,[],y,a=>rfl
|x,z::b,y,a=>by
 show x++c::jn c ((z::b)++(y::a))=(x++c::jn c (z::b))++c::jn c (y::a);rw[FO c z b y a,eF];rfl
def qA(a:List Str):(Txt.join oN a).cps.toList=jn 32 (a.map (·.cps.toList)):=by
 show(aw oN a).cps.toList=_;rw[am];exact AQ 32 a
def NX(k n v s:Str)(y m:Tr):Txt.join oN ["ask",n,k,v,s,mR y,mR m]=mR (.ask k n v s y m):=by
 apply O4;unfold mR;rw[qA,qA];obtain⟨h,a,f⟩:=sZ y;obtain⟨g,b,e⟩:=sZ m
 have c:(["ask",n,k,v,s,Txt.join oN (eE y),Txt.join oN (eE m)]:List Str).map (·.cps.toList)=((["ask",n,k,v,s]:List Str).map (·.cps.toList))++[jn 32 ((eE y).map (·.cps.toList)),jn 32 ((eE m).map (·.cps.toList))]:=by
  rw[<- qA,<- qA];rfl
 have d:(eE (.ask k n v s y m)).map (·.cps.toList)=((["ask",n,k,v,s]:List Str).map (·.cps.toList))++((eE y).map (·.cps.toList)++(eE m).map (·.cps.toList)):=by
  show((["ask",n,k,v,s]:List Str)++(eE y++eE m)).map (·.cps.toList)=_;rw[bK,bK]
 rw[c,d,f,e,aZ (l:=[n,k,v,s]),aZ (l:=a),aZ (l:=b)];rw[FO 32 _ _ _ [jn 32 _],sQ (as:=a.map _),FO 32 _ _ _ (a.map _++_),<- sQ,FO 32]
 rfl
def KC{ws:List Str}(h:∀w∈ws,sW w=true):(ws.map (·.length)).sum<=8*ws.length:=by
 induction ws with
 |nil=>exact aM _
 |cons w ws b=>
  have c:=(BM (h w (aP ..))).1;have d:=b λx a=>h x (aK _ a);rw[aZ,eR,bX];lia
def HW(a:List Str):(Txt.join oN a).length<=(a.map (·.length)).sum+a.length:=by
 show(aw oN a).length<=_;rw[am];have:=StrLaws.join_length_le oN a;have e:oN.length=1:=by decide +kernel
 rw[e,aKh]at this;exact this
def xZ{fs}(F:eO fs an){t:Tr}(h:kK fs an t):(mR t).length<=9*(7*t.kn+2):=by
 have a:=HW (eE t);have b:=KC (pA F t h);rw[vM]at a b;unfold mR;lia
def GR{fs}(F:eO fs an)(h:kK fs an t):Txt.split (mR t) oN=eE t:=by
 have a:=pA F t h;unfold mR;obtain⟨w,f,e⟩:=sZ t;rw[e]at a |-
 refine JX 32 Ft w f λx d c=>?_;have b:=(FJ (a x d)).2.2 32 c;exact c8 b Fq
def tH(n:Nat):lG:=λa Q=>∃(fs:List (Str×List Str))(an:List Str)(t:Tr),a=[jU t]/\eO fs an/\kK fs an t/\t.kn<=500/\t.dep<n/\Q (.str (mR t))
def Vo:lG:=tH 31
def SJ{Q:D->Prop}(h:tH 0 ds Q):False:=by
 obtain⟨_,_,_,_,_,_,_,h,_⟩:=h;lia
def Vs:lG:=λb Q=>∃(a:List Str)(i:Nat)(w:Str)(R:List Str)(r:D),b=[.list (a.map aO),.int i,r]/\a[i]?=some w/\(r=.tuple (R.map aO)\/r=.list (R.map aO))/\w∈R/\(∀y∈R,sW y=true)/\Q (.str w)
def Vr:lG:=λb Q=>∃(fs:List (Str×List Str))(an:List Str)(a:List Str)(i:Nat)(k n v:Str),b=[dO fs an,.list (a.map aO),.int i]/\eO fs an/\GG fs (.tuple [.str k,.str n,.str v])=true/\a[i]?=some n/\a[i+1]?=some k/\a[i+2]?=some v/\Q (.tuple [.str k,.str n,.str v])
def tG(N:Nat):lG:=λa Q=>∃(fs:List (Str×List Str))(an:List Str)(pre post:List Str)(t:Tr)(w k:Nat),a=[dO fs an,.list ((pre++(eE t++post)).map aO),.int pre.length,.int w,.int k]/\eO fs an/\kK fs an t/\w+t.dep<=30/\k+t.kn<=500/\t.dep<N/\Q (.tuple [jU t,.int ((pre.length+(eE t).length:Nat):Int),.int ((k+t.kn:Nat):Int)])
def Vq:lG:=tG 31
def SI{Q:D->Prop}(h:tG 0 ds Q):False:=by
 obtain⟨_,_,_,_,_,_,_,_,_,_,_,_,h,_⟩:=h;lia
def Vp:lG:=λa Q=>∃(fs:List (Str×List Str))(an:List Str)(t:Tr),a=[dO fs an,.str (mR t)]/\eO fs an/\kK fs an t/\t.dep<=30/\t.kn<=500/\Q (jU t)
noncomputable def JY(fs:List (Str×List Str)):Tr->List D->List Str
|.say _,_=>[]
|.ask k n v s y m,cs=>iY fs k n v s cs::(if iY fs k n v s cs="yes" then JY fs y cs else JY fs m cs)
section
variable{fs:List (Str×List Str)}{an:List Str}
def V4(F:eO fs an){k n v st:Str}(q:GG fs (.tuple [.str k,.str n,.str v])=true)(i:st="yes"\/st="no")(l:fE fs (.tuple cs)=true):iY fs k n v st cs="yes"\/iY fs k n v st cs="no":=by
 obtain⟨f,o,g,r,hk⟩:=qB q;obtain⟨j,h⟩:=bU o;obtain⟨m,e⟩:=jA l;have p:=(aC.mp h).1;have a:cs[j]?=some cs[j]:=aD Fu
 generalize cs[j]=c at a
 rw[tL F h a g];have hok:=e j f c h a
 cases c with
 |none=>exact i
 |str z=>
  show(if k="is" then(if z=v then("yes":Str)else "no")else if f.2.idxOf z<=f.2.idxOf v then("yes":Str)else "no")="yes"\/_;by_cases d:k="is"
  ·by_cases b:z=v
   ·exact .inl (by rw[b8 d,b8 b])
   ·exact .inr (by show(if k="is" then(if z=v then("yes":Str)else "no")else if f.2.idxOf z<=f.2.idxOf v then("yes":Str)else "no")="no";rw[b8 d,a9 b])
  ·by_cases b:f.2.idxOf z<=f.2.idxOf v
   ·exact .inl (by rw[a9 d,b8 b])
   ·exact .inr (by show(if k="is" then(if z=v then("yes":Str)else "no")else if f.2.idxOf z<=f.2.idxOf v then("yes":Str)else "no")="no";rw[a9 d,a9 b])
 |_=>cases hok
end
noncomputable def there(fs:List (Str×List Str))(t:Tr)(b:List (List D×Str))(a:List Str)(x:D):Bool:=match x with
|.int i=>(match L2.atI b i with | some r=>decide ((JY fs t r.1).take a.length=a) | none=>false)
|_=>false
noncomputable def bZ(f:Str×List Str):List D:=f.2.map aO++[.none]
def Nl:lG:=λa Q=>∃f:Str×List Str,a=[iZ f]/\f.2.length<=5/\Q (.tuple (f.2.map aO++[.none]))
noncomputable def jR(fs:List (Str×List Str)):Nat:=fs.foldl (λa f=>a*(f.2.length+1)) 1
noncomputable def longer(bs:List (List D))(a:List D):List (List D):=(bs.map λb=>a.map λe=>b++[e]).flatten
noncomputable def F6(fs:List (Str×List Str)):List (List D):=fs.foldl (λbs f=>longer bs (bZ f)) [[]]
def Nj:lG:=λa Q=>∃(fs:List (Str×List Str))(an:List Str),a=[dO fs an]/\eO fs an/\Q (.int ((jR fs:Nat):Int))
def Nm:GH:=λc Q=>∃(bs:List (List D))(a:List D),c=[.list (bs.map aW),.tuple a]/\(∀b∈bs,b.length<=10)/\bs.length*a.length<=50000/\a.length<=10/\Q ((longer bs a).map aW)
def Nk:GH:=λa Q=>∃(fs:List (Str×List Str))(an:List Str),a=[dO fs an]/\eO fs an/\jR fs<=2000/\Q ((F6 fs).map aW)
def BR(bs:List (List D))(a:List D):(longer bs a).length=bs.length*a.length:=by
 unfold longer
 induction bs with
 |nil=>simp
 |cons b bs c=>
  rw[aZ,zT,aV,aB,c,bX,rL,wG];lia
def nX(fs:List (Str×List Str))(f:Str×List Str):jR (fs++[f])=jR fs*(f.2.length+1):=by unfold jR;rw[lW];rfl
def yW(fs:List (Str×List Str))(f:Str×List Str):F6 (fs++[f])=longer (F6 fs) (bZ f):=by unfold F6;rw[lW];rfl
def wQ{e:Type}{P:List e->Prop}(b:P [])(c:∀l a,P l->P (l++[a])):∀l,P l:=λl=>by
 rw[<- List.reverse_reverse l]
 induction l.reverse with
 |nil=>exact b
 |cons a r d=>rw[List.reverse_cons];exact c _ _ d
def uD:∀fs:List (Str×List Str),(F6 fs).length=jR fs:=wQ Fx λfs f a=>by
 rw[yW,nX,BR,a];unfold bZ;rw[aV,aB];rfl
def KG{bs}(h:c∈longer bs es):∃b∈bs,∃e∈es,c=b++[e]:=by
 unfold longer at h;obtain⟨l,g,d⟩:=VE.mp h;obtain⟨b,a,rfl⟩:=aU.mp g;obtain⟨e,f,rfl⟩:=aU.mp d;exact⟨b,a,e,f,Fx⟩
def PP:∀(fs:List (Str×List Str)),∀c∈F6 fs,fE fs (.tuple c)=true:=wQ (λc h=>by
  have:c=[]:=bW.mp h;rw[this];rfl) λfs f o c h=>by
 rw[yW]at h;obtain⟨b,m,e,he,rfl⟩:=KG h;obtain⟨j,l⟩:=jA (o b m);refine FZ (by rw[aV,aV,j];rfl) λk g x a d=>?_;by_cases hk:k<fs.length
 ·rw[dQ hk]at a;rw[dQ Fu]at d;exact l k g x a d
 ·rw[cA Fu]at a;rw[cA Fu,j]at d
  have i:k-fs.length=0:=by
   have:=(aC.mp a).1;simp at this;lia
  rw[i]at a d;cases a;cases d;unfold bZ at he;rcases cR.mp he with he | he
  ·obtain⟨z,n,rfl⟩:=aU.mp he;exact a8 n
  ·rw[bW.mp he];rfl
def OQ:∀fs:List (Str×List Str),1<=jR fs:=wQ (aM _) λfs f a=>by
 rw[nX];exact aKg a Fu
def KH{fs:List (Str×List Str)}(k:Nat):jR (fs.take k)<=jR fs:=by
 have:∀b hs:List (Str×List Str),jR b<=jR (b++hs):=λb hs=>by
  refine wQ (P:=λhs=>jR b<=jR (b++hs)) (by rw[dU];exact aM _) (λl a c=>?_) hs;rw[<- eF,nX];exact bP c (Nat.le_mul_of_pos_right _ Fu)
 have h:=this (fs.take k) (fs.drop k)
 rwa [fV]at h
theorem zL{fs:List (Str×List Str)}(F:eO fs an):∀k,jR (fs.take k)<=6^k
|0=>aM _
|k+1=>by
 have a:=zL F k
 cases h:fs[k]? with
 |none=>
  rw[bS,h];show jR (fs.take k++[])<=_;rw[dU,uJ];lia
 |some f=>
  rw[bS,h];show jR (fs.take k++[f])<=_;rw[nX,uJ];have:=(F.vs f (aR h)).2.1;exact gA a Fu
def O2{fs:List (Str×List Str)}(F:UX fs an):eO (fs.take 2) an:=by
 have n1:=F.n1;have n5:=F.n5;refine⟨by rw[bD];lia,by rw[bD];lia,⟨by rw[aB],λy a=>?_,?_⟩,λf b=>F.vs f (dI b),F.a2,F.a4,F.an,by rw[bD];lia⟩
 ·rw[mY]at a;exact F.nd.2.1 y (dI a)
 ·rw[mY];exact F.nd.2.2.sublist (zR _ _)
noncomputable def Hh(fs:List (Str×List Str))(k n v st:Str)(r:List D×Str):Bool:=decide (iY fs k n v st r.1="yes")
def mU.filt{fs}{a:List (List D×Str)}(h:mU fs an a)(p:List D×Str->Bool):mU fs an (a.filter p):=λr b=>h r (bC.mp b).1
noncomputable def BB(a:List (List D×Str))(x:D):D:=match x with | .int i=>(match L2.atI a i with | some r=>jQ r | none=>.none) | _=>.none
def M5{a:List (List D×Str)}{i:Nat}(h:i<a.length):L2.atI (a++[r]) (i:Int)=L2.atI a (i:Int):=by
 rw[L2.eB (aD h),L2.eB (xs:=a++[r]) (v:=a[i]) (by rw[dQ h];exact aD h)]
theorem AR(fs:List (Str×List Str))(k n v st w:Str):∀(m:Nat)(b:List (List D×Str)),b.length=m->(iO fs k n v st b w).map (BB b)=(b.filter λr=>decide (iY fs k n v st r.1=w)).map jQ
|0,b,h=>by rw[nN.mp h];rfl
|m+1,b,h=>by
 obtain⟨a,r,rfl⟩:∃a r,b=a++[r]:=⟨b.dropLast,b.getLast (λe=>by rw[e]at h;cases h),(List.dropLast_concat_getLast _).symm⟩;have q:a.length=m:=by rw[aV]at h;simpa using h
 have i:=AR fs k n v st w m a q;unfold iO at i |-
 have l:fF (a++[r]).length=fF a.length++[.int (a.length:Int)]:=by
  unfold fF;rw[aV,lR,lO,bK];rfl
 have c:L2.atI (a++[r]) (a.length:Int)=some r:=L2.eB (by rw[cA (aM _),AI];rfl)
 have o:(fF a.length).filter (tP fs k n v st (a++[r]) w)=(fF a.length).filter (tP fs k n v st a w):=jE λx f=>by
  obtain⟨j,d,rfl⟩:=aU.mp f;show(match L2.atI (a++[r]) (j:Int)with | some r=>decide (iY fs k n v st r.1=w) | none=>false)=match L2.atI a (j:Int)with | some r=>decide (iY fs k n v st r.1=w) | none=>false
  rw[M5 (by simpa using d)]
 have p:((fF a.length).filter (tP fs k n v st a w)).map (BB (a++[r]))=((fF a.length).filter (tP fs k n v st a w)).map (BB a):=iI λx f=>by
  obtain⟨j,d,rfl⟩:=aU.mp (bC.mp f).1;show(match L2.atI (a++[r]) (j:Int)with | some r=>jQ r | none=>.none)=match L2.atI a (j:Int)with | some r=>jQ r | none=>.none
  rw[M5 (by simpa using d)]
 have g:tP fs k n v st (a++[r]) w (.int (a.length:Int))=decide (iY fs k n v st r.1=w):=by
  show(match L2.atI (a++[r]) (a.length:Int)with | some r=>decide (iY fs k n v st r.1=w) | none=>false)=_;rw[c]
 have s:BB (a++[r]) (.int (a.length:Int))=jQ r:=by
  show(match L2.atI (a++[r]) (a.length:Int)with | some r=>jQ r | none=>.none)=_;rw[c]
 rw[l,gY,bK,o,p,i,gY,bK];congr 1;by_cases hs:iY fs k n v st r.1=w
 ·rw[fG,b8 (by rw[g];exact a8 hs),fG,b8 (a8 hs)];show[BB (a++[r]) (.int (a.length:Int))]=[jQ r];rw[s]
 ·rw[fG,a9 (by rw[g,c6 hs];decide),fG,a9 (by rw[c6 hs];decide)]
  rfl
def Ua:lG:=λb Q=>∃(fs:List (Str×List Str))(k n v st w:Str)(a:List (List D×Str)),b=[.list (a.map jQ),.list (iO fs k n v st a w)]/\a.length<=60/\Q (.list ((a.filter λr=>decide (iY fs k n v st r.1=w)).map jQ))
def FH{fs}(F:eO fs an){k n v st:Str}(d:GG fs (.tuple [.str k,.str n,.str v])=true)(b:st="yes"\/st="no"){c:List (List D×Str)}(a:mU fs an c):(c.filter λr=>decide (iY fs k n v st r.1="no"))=c.filter λr=>!Hh fs k n v st r:=jE λr f=>by
 unfold Hh;rcases V4 F d b (a r f).1 with e | e
 ·rw[e];decide +kernel
 ·rw[e];decide +kernel
abbrev Fs:=List (Str×List Str)
abbrev Qn:=Str×Str×Str
abbrev Ch:=Qn×Str
noncomputable def qD(q:Qn):D:=.tuple [.str q.1,.str q.2.1,.str q.2.2]
noncomputable def tq(d:D):Qn:=match d with | .tuple [.str k,.str n,.str v]=>(k,n,v) | _=>("","","")
noncomputable def qs(fs:Fs):List Qn:=(iX fs).map tq
def E7(fs:Fs):(qs fs).map qD=iX fs:=by
 unfold qs;rw[bL]
 have:∀d∈iX fs,(qD∘tq) d=id d:=λd hd=>by
  obtain⟨f,b,⟨z,a,rfl⟩ | ⟨z,a,c,rfl⟩⟩:=CH hd<;>rfl
 rw[iI this,kM]
def RI{fs}{q:Qn}(h:q∈qs fs):GG fs (.tuple [.str q.1,.str q.2.1,.str q.2.2])=true:=by
 have:qD q∈(qs fs).map qD:=aU.mpr ⟨q,h,Fx⟩;rw[E7]at this;exact K6 this
noncomputable def QT(q:Qn):List Ch:=[(q,"yes"),(q,"no")]
noncomputable def PF(fs:Fs):List Ch:=(qs fs).flatMap QT
def UH{fs}{c:Ch}(h:c∈PF fs):c.1∈qs fs/\(c.2="yes"\/c.2="no"):=by
 obtain⟨q,b,a⟩:=oP.mp h;simp only[QT,bA,dG,i8]at a;rcases a with rfl | rfl
 ·exact⟨b,.inl Fx⟩
 ·exact⟨b,.inr Fx⟩
def M4(fs:Fs):(PF fs).length=2*(iX fs).length:=by
 unfold PF qs
 generalize (iX fs)=l
 induction l with
 |nil=>rfl
 |cons x l a=>
  rw[aZ,eV,aV,a];show 2+_=2*(l.length+1);lia
noncomputable def Jd(fs:Fs)(c:Ch)(r:Rw):Bool:=Hh fs c.1.1 c.1.2.1 c.1.2.2 c.2 r
noncomputable abbrev yR(fs:Fs)(c:Ch)(R:List Rw):List Rw:=R.filter (Jd fs c)
noncomputable abbrev nR(fs:Fs)(c:Ch)(R:List Rw):List Rw:=R.filter λr=>!Jd fs c r
noncomputable def Gc(c:Ch):D:=.tuple [qD c.1,.str c.2]
def Ms:lG:=λa Q=>∃(fs:Fs)(an:List Str),a=[dO fs an]/\eO fs an/\Q (.list ((PF fs).map Gc))
noncomputable def Fz(a b:Nat):Nat×Nat:=(a / a.gcd b,b / a.gcd b)
noncomputable def C7(x:Nat×Nat):D:=.tuple [.int (x.1:Nat),.int (x.2:Nat)]
noncomputable def U5(R:List Rw):Nat×Nat:=Fz (WG R R) (max 1 R.length)
noncomputable def Z5(x y:Nat×Nat):Nat×Nat:=Fz (x.1*y.2+y.1*x.2) (x.2*y.2)
noncomputable def dC(fs:Fs)(R:List Rw)(c:Ch):Nat×Nat:=Z5 (U5 (yR fs c R)) (U5 (nR fs c R))
noncomputable def okC(fs:Fs)(R:List Rw)(m:Int)(c:Ch):Bool:=decide (m<=((yR fs c R).length:Int))&&decide (m<=((nR fs c R).length:Int))
noncomputable def vZ(fs:Fs)(R:List Rw)(m:Int):List Ch:=(PF fs).filter (okC fs R m)
noncomputable def K0(fs:Fs)(R:List Rw)(c:Ch):D:=.tuple [qD c.1,.str c.2,C7 (dC fs R c)]
noncomputable def wA(l:List (Nat×Nat)):Nat:=l.foldl (λc x=>c.lcm x.2) 1
noncomputable def Jt(B:Nat)(x:Nat×Nat):Int:=(x.1:Int)*((B:Int) / (x.2:Int))
noncomputable def U4(fs:Fs)(R:List Rw)(m:Int):List (Nat×Nat):=(vZ fs R m).map (dC fs R)
noncomputable def OS(fs:Fs)(R:List Rw)(m:Int):List Int:=(U4 fs R m).map (Jt (wA (U4 fs R m)))
noncomputable def CA(fs:Fs)(R:List Rw)(m:Int):List D:=(vZ fs R m).map (K0 fs R)
def Io(fs:Fs)(R:List Rw)(m:Int)(J:List Nat):Prop:=SS.LC (vZ fs R m).length (λi=>(OS fs R m).getD i 0) J
noncomputable def Ie(fs:Fs)(R:List Rw)(m:Int)(J:List Nat):List D:=J.map λi=>(CA fs R m).getD i .none
def MH{a b:Nat}(h:0<b):0<(Fz a b).2:=Nat.div_pos (aC4 h (VB a b)) (sL a h)
def S5(a b:Nat):(Fz a b).1<=a/\(Fz a b).2<=b:=⟨ZR _ _,ZR _ _⟩
structure XZ(x:Nat×Nat)(a b:Nat):Prop where
 top:x.1<=a
 pos:0<x.2
 bot:x.2<=b
def xL{R:List Rw}(h:R.length<=60):XZ (U5 R) 3600 60:=by
 have a:=S5 (WG R R) (max 1 R.length);have b:=J2 R R;have c:R.length*R.length<=60*60:=gA h h;exact⟨by show(Fz _ _).1<=_;lia,MH Fu,by show(Fz _ _).2<=_;lia⟩
def LP{x y:Nat×Nat}(a:XZ x 3600 60)(b:XZ y 3600 60):x.1*y.2+y.1*x.2<=432000/\x.2*y.2<=3600/\0<x.2*y.2:=by
 have c:x.1*y.2<=3600*60:=gA a.top b.bot;have d:y.1*x.2<=3600*60:=gA b.top a.bot;have e:x.2*y.2<=60*60:=gA a.bot b.bot;exact⟨Fu,Fu,aKg a.pos b.pos⟩
def QZ(e:XZ x 3600 60)(f:XZ y 3600 60):XZ (Z5 x y) 432000 3600:=by
 obtain⟨b,c,d⟩:=LP e f;have a:=S5 (x.1*y.2+y.1*x.2) (x.2*y.2);exact⟨bP a.1 b,MH d,bP a.2 c⟩
def K5{fs}{R:List Rw}(h:R.length<=60)(c:Ch):XZ (dC fs R c) 432000 3600:=
 QZ (xL (bP (cI _ _) h)) (xL (bP (cI _ _) h))
def TQ(fs:Fs)(R:List Rw)(m:Int):(OS fs R m).length=(vZ fs R m).length:=by unfold OS U4;rw[aB,aB]
def tZ(fs:Fs)(R:List Rw)(m:Int):(CA fs R m).length=(vZ fs R m).length:=by unfold CA;rw[aB]
def W0{fs}{m:Int}{i:Nat}(h:i<(vZ fs R m).length):(OS fs R m).getD i 0=Jt (wA (U4 fs R m)) (dC fs R (vZ fs R m)[i]):=by
 unfold OS;rw[eJ,aF];unfold U4;rw[aF,aD h];rfl
def MW{fs}{m:Int}{i:Nat}(h:i<(vZ fs R m).length):(CA fs R m).getD i .none=K0 fs R (vZ fs R m)[i]:=by
 unfold CA;rw[eJ,aF,aD h];rfl
def Ug:lG:=λb Q=>∃(a bs:List D)(m:Int),b=[.tuple [.list a,.list bs],.int m]/\Q (.bool (decide (m<=(a.length:Int))&&decide (m<=(bs.length:Int))))
def Tx:lG:=λa Q=>∃x y:Nat×Nat,a=[C7 x,C7 y]/\XZ x 3600 60/\XZ y 3600 60/\Q (C7 (Z5 x y))
def TC:lG:=λa Q=>∃l:List (Nat×Nat),a=[.list (l.map C7)]/\(∀x∈l,0<x.2/\x.2<=1000000)/\Q (.int (wA l:Nat))
def TZ:GH:=λb Q=>∃(fs:Fs)(an:List Str)(a:List Rw)(m:Int),b=[dO fs an,.list (a.map jQ),.int m]/\eO fs an/\mU fs an a/\a.length<=60/\∀J,Io fs a m J->Q (Ie fs a m J)
def NZ:∀(l:List Sl)(a b c x y z:Sl),((((((l.set 0 a).set 1 b).set 2 c).set 0 x).set 1 y).set 2 z)=((l.set 0 x).set 1 y).set 2 z
|[],_,_,_,_,_,_=>rfl
|[_],_,_,_,_,_,_=>rfl
|[_,_],_,_,_,_,_,_=>rfl
|_::_::_::_,_,_,_,_,_,_=>rfl
def MJ{i:ET}{Q:D->Prop}{ts:List D}(g:uH ti σ ts)(f:D->D)(r:ts.length<=100000)(n:∀x∈ts,∃a b c,x=.tuple [a,b,c])(p:∀(a b c:D)(q:D->Prop),.tuple [a,b,c]∈ts->q (f (.tuple [a,b,c]))->i ((((kW fr σ).set 0 (.val a)).set 1 (.val b)).set 2 (.val c)) q)(o:Q (.list (ts.map f))):P4 fr ti (Hk 0 1 2) CJ i σ Q:=by
 refine g _ ⟨r,λk d e=>(∀x y z,((d.set 0 (.val x)).set 1 (.val y)).set 2 (.val z)=(((kW fr σ).set 0 (.val x)).set 1 (.val y)).set 2 (.val z))/\e=(ts.take k).map f,⟨λ_ _ _=>rfl,Fx⟩,λk x d e l h=>?_,λd e h=>?_⟩
 ·obtain⟨m,rfl⟩:=h;have j:x∈ts:=aR l;obtain⟨a,b,c,rfl⟩:=n x j;refine⟨a,b,c,Fx,?_⟩;show i (((d.set 0 (.val a)).set 1 (.val b)).set 2 (.val c)) _;rw[m a b c];refine p a b c _ j ⟨λx y z=>NZ _ _ _ _ _ _ _,?_⟩;rw[bS,l,bK];rfl
 ·obtain⟨_,rfl⟩:=h;rw[cU];exact o
noncomputable def Oa(x y:Nat×Nat):Bool:=decide (x.1*y.2<y.1*x.2)
noncomputable def Jz(fs:Fs)(R:List Rw):Option Ch->D
|some c=>K0 fs R c
|none=>.none
def Tz:lG:=λa Q=>∃x y:Nat×Nat,a=[C7 x,C7 y]/\x.1<=1000000/\y.1<=1000000/\Q (.bool (Oa x y))
def Ub:lG:=λb Q=>∃(fs:Fs)(an:List Str)(a:List Rw)(m:Int),b=[dO fs an,.list (a.map jQ),.int m]/\eO fs an/\mU fs an a/\a.length<=60/\∀o:Option Ch,(∀c,o=some c->c∈vZ fs a m)->Q (Jz fs a o)
def tJ(dd:Nat):lG:=λb Q=>∃(fs:Fs)(an:List Str)(a:List Rw)(d:Nat)(m:Int),b=[dO fs an,.list (a.map jQ),.int d,.int m]/\eO fs an/\mU fs an a/\a.length<=60/\d<dd/\∀t,kK fs an t->t.dep<=d->Q (jU t)
def Uc:lG:=tJ 7
def SL{Q:D->Prop}(h:tJ 0 ds Q):False:=by
 obtain⟨fs,an,f,d,m,e,F,a,b,c,h⟩:=h;lia
@[irreducible] def cAt(i:Nat):Nat:=kB.cps.toList.getD i 0
def Q3{e:ET}{d:List Sl}{i j l:Nat}(h:∀q:D->Prop,q (.tuple [a,b,c])->e d q)(k:u DT (((d.set i (.val a)).set j (.val b)).set l (.val c))):fR (YC e (Hk i j l)) u DT d:=h _ ⟨a,b,c,Fx,k⟩
noncomputable def cO:List (List D)->List (List D)
|[]=>[[]]
|e::L=>e.flatMap λx=>(cO L).map (x::·)
noncomputable def iC(bs:List (List D))(a:List D):List (List D):=bs.flatMap λb=>a.map λx=>b++[x]
theorem D2:∀(L:List (List D))(bs:List (List D)),L.foldl iC bs=bs.flatMap λb=>(cO L).map (b++·)
|[],bs=>by
 show bs=bs.flatMap λb=>[b++[]]
 induction bs with
 |nil=>rfl
 |cons b bs a=>rw[eV,<- a,dU];rfl
|e::L,bs=>by
 show L.foldl iC (iC bs e)=_;rw[D2 L];unfold iC;rw[List.flatMap_assoc];congr 1;funext b;show _=(e.flatMap λx=>(cO L).map (x::·)).map (b++·);rw[List.flatMap_map,List.map_flatMap];congr 1;funext x;rw[bL];congr 1;funext l;show b++[x]++l=b++(x::l);rw[eF];rfl
def rZ(L:List (List D)):L.foldl iC [[]]=cO L:=by
 rw[D2];show(cO L).map ([]++·)++[]=_;rw[dU];exact kM _
def fX:List (List D)->List D->Bool
|[],[]=>true
|e::L,x::c=>decide (x∈e)&&fX L c
|_,_=>false
theorem gH:∀(L:List (List D))(c:List D),c∈cO L↔fX L c=true
|[],[]=>by simp[cO,fX]
|[],_::_=>by simp[cO,fX]
|e::L,[]=>by simp[cO,fX]
|e::L,x::c=>by
 have b:=gH L c;show(x::c)∈(e.flatMap λx=>(cO L).map (x::·))↔(decide (x∈e)&&fX L c)=true;rw[cL,d4,<- b,oP];constructor
 ·rintro⟨y,hy,h⟩;obtain⟨d,hd,a⟩:=aU.mp h;cases a;exact⟨hy,hd⟩
 ·rintro⟨hx,hc⟩;exact⟨x,hx,aU.mpr ⟨c,hc,Fx⟩⟩
theorem oZ:∀{L:List (List D)}{c:List D},fX L c=true->c.length=L.length/\∀(j:Nat) e x,L[j]?=some e->c[j]?=some x->x∈e
|[],[],_=>⟨Fx,λj e x h=>by simp at h⟩
|[],_::_,h=>by cases h
|_::_,[],h=>by cases h
|e::L,x::c,h=>by
 have d:(decide (x∈e)&&fX L c)=true:=h;rw[cL,d4]at d;obtain⟨g,i⟩:=oZ d.2;refine⟨by rw[bX,bX,g],λj f k a b=>?_⟩
 cases j with
 |zero=>
  simp only[jD,l8]at a b;subst a b;exact d.1
 |succ j=>
  simp only[hZ]at a b;exact i j f k a b
noncomputable def fB(L:List (List D)):Bool:=L.any aC8
theorem wV:∀L:List (List D),cO L=[]↔fB L=true
|[]=>by simp[cO,fB]
|e::L=>by
 have b:=wV L;show(e.flatMap λx=>(cO L).map (x::·))=[]↔(e.isEmpty||L.any aC8)=true;rw[gT];constructor
 ·intro h
  cases e with
  |nil=>exact .inl Fx
  |cons x e=>
   rw[eV,JN]at h;exact .inr (b.mp (P0.mp h.1))
 ·rintro(h | h)
  ·cases e with
   |nil=>rfl
   |cons x e=>cases h
  ·rw[b.mpr h]
   induction e with
   |nil=>rfl
   |cons x e a=>rw[eV,a];rfl
theorem G7:∀(L:List (List D))(n:Nat),(∀e∈L,e.length<=n)->(cO L).length<=n^L.length
|[],n,_=>aM 1
|e::L,n,h=>by
 have b:=G7 L n λe a=>h e (aK _ a);have a:=h e (aP ..);show(e.flatMap λx=>(cO L).map (x::·)).length<=n^(L.length+1)
 have:(e.flatMap λx=>(cO L).map (x::·)).length=e.length*(cO L).length:=by
  clear a h
  induction e with
  |nil=>simp
  |cons x e b=>rw[eV,aV,b,aB,bX,rL];lia
 rw[this,uJ,aJ0 (n^L.length)];exact gA a b
noncomputable def fK:List (List D)->Nat->(D->Bool)->List (List D)
|[],_,_=>[]
|e::L,0,g=>e.filter g::L
|e::L,j+1,g=>e::fK L j g
noncomputable def xO:List D->Nat->(D->Bool)->Bool
|[],_,_=>true
|x::_,0,g=>g x
|_::c,j+1,g=>xO c j g
theorem tX:∀(L:List (List D))(j:Nat)(g:D->Bool),(cO L).filter (λc=>xO c j g)=cO (fK L j g)
|[],j,g=>rfl
|e::L,0,g=>by
 show(e.flatMap λx=>(cO L).map (x::·)).filter _=(e.filter g).flatMap λx=>(cO L).map (x::·)
 induction e with
 |nil=>rfl
 |cons x e f=>
  rw[eV,gY,f,fG];by_cases a:g x=true
  ·rw[b8 a,eV];congr 1;rw[wJ];intro c b;obtain⟨d,_,rfl⟩:=aU.mp b;exact a
  ·rw[a9 a]
   have:((cO L).map (x::·)).filter (λc=>xO c 0 g)=[]:=by
    rw[List.filter_eq_nil_iff];intro c b;obtain⟨d,_,rfl⟩:=aU.mp b;exact a
   rw[this];rfl
|e::L,j+1,g=>by
 show(e.flatMap λx=>(cO L).map (x::·)).filter _=e.flatMap λx=>(cO (fK L j g)).map (x::·);rw[<- tX L j g]
 induction e with
 |nil=>rfl
 |cons x e f=>
  rw[eV,gY,f,eV];congr 1;rw[kL]
  rfl
theorem B4:∀(L:List (List D))(j:Nat)(g:D->Bool),(fK L j g).length=L.length
|[],_,_=>rfl
|_::_,0,_=>rfl
|e::L,j+1,g=>by show(fK L j g).length+1=L.length+1;rw[B4 L j g]
theorem D4:∀(L:List (List D))(j:Nat)(g:D->Bool)(i:Nat),(fK L j g)[i]?=if i=j then L[i]?.map (NF g)else L[i]?
|[],j,g,i=>by show([]:List (List D))[i]?=_;split<;>simp
|e::L,0,g,0=>rfl
|e::L,0,g,i+1=>rfl
|e::L,j+1,g,0=>rfl
|e::L,j+1,g,i+1=>by
 show(fK L j g)[i]?=if i+1=j+1 then L[i]?.map (NF g)else L[i]?;rw[D4 L j g i];by_cases h:i=j
 ·rw[b8 h,b8 Fu]
 ·rw[a9 h,a9 Fu]
theorem uC:∀{L}{j:Nat}{g:D->Bool}{e:List D},fB L=false->L[j]?=some e->fB (fK L j g)=(e.filter g).isEmpty
|[],j,g,e,_,h=>by simp at h
|e0::L,0,g,e,hn,h=>by
 simp only[jD,l8]at h;subst h;have a:(e0.isEmpty||fB L)=false:=hn;rw[mD]at a;show((e0.filter g).isEmpty||fB L)=_;rw[a.2,rN]
|e0::L,j+1,g,e,hn,h=>by
 simp only[hZ]at h;have a:(e0.isEmpty||fB L)=false:=hn;rw[mD]at a;show(e0.isEmpty||fB (fK L j g))=_;rw[a.1,aCx];exact uC a.2 h
theorem rD:∀(L:List (List D))(j:Nat)(g:D->Bool)(c:List D),fX (fK L j g) c=(fX L c&&xO c j g)
|[],j,g,[]=>rfl
|[],j,g,_::_=>rfl
|_::_,0,g,[]=>rfl
|_::_,_+1,g,[]=>rfl
|e::L,0,g,x::c=>by
 show(decide (x∈e.filter g)&&fX L c)=(decide (x∈e)&&fX L c&&g x);rw[fH];simp only[cL,d4,bC];exact⟨λ⟨⟨a,b⟩,c⟩=>⟨⟨a,c⟩,b⟩,λ⟨⟨a,c⟩,b⟩=>⟨⟨a,b⟩,c⟩⟩
|e::L,j+1,g,x::c=>by
 show(decide (x∈e)&&fX (fK L j g) c)=(decide (x∈e)&&fX L c&&xO c j g);rw[rD L j g c,Bool.and_assoc]
theorem M6{g:D->Bool}:∀{c}{j:Nat},c[j]?=some x->xO c j g=g x
|[],j,h=>by simp at h
|y::c,0,h=>by
 simp only[jD,l8]at h;subst h;rfl
|y::c,j+1,h=>by
 simp only[hZ]at h;exact M6 (c:=c) (j:=j) h
noncomputable def jx(fs:List (Str×List Str))(n:Str):Nat:=(fs.map (·.1)).idxOf n
noncomputable def eA(fs:List (Str×List Str))(k n v s:Str)(x:D):Bool:=match fs[jx fs n]? with | some f=>decide (pJ f k v s x="yes") | none=>false
noncomputable def cK(fs:List (Str×List Str)):Tr->List (List D)->List (List (List D)×Str)
|.say a,L=>if fB L then[]else[(L,a)]
|.ask k n v s y m,L=>if fB L then[]else cK fs y (fK L (jx fs n) (eA fs k n v s))++cK fs m (fK L (jx fs n) λx=>!eA fs k n v s x)
def cW(fs:List (Str×List Str))(L:List (List D)):Prop:=L.length=fs.length/\∀(j:Nat) f e,fs[j]?=some f->L[j]?=some e->∃p:D->Bool,e=(bZ f).filter p
def cW.filt{fs}(h:cW fs L)(j:Nat)(g:D->Bool):cW fs (fK L j g):=by
 refine⟨by rw[B4];exact h.1,λi f e c a=>?_⟩;rw[D4]at a;by_cases b:i=j
 ·rw[b8 b]at a;obtain⟨d,k,rfl⟩:=bM.mp a;obtain⟨p,rfl⟩:=h.2 i f d c k;exact⟨λx=>g x&&p x,by rw[QB]⟩
 ·rw[a9 b]at a;exact h.2 i f e c a
def cW.whole(fs:List (Str×List Str)):cW fs (fs.map bZ):=⟨aB _,λj f e b a=>by
 rw[aF,b]at a;cases a;exact⟨λ_=>true,(wJ.mpr λ_ _=>rfl).symm⟩⟩
def A1(fs:List (Str×List Str)):fB (fs.map bZ)=false:=by
 unfold fB;rw[rK];intro e a;obtain⟨f,_,rfl⟩:=aU.mp a;unfold bZ;cases f.2<;>simp
theorem jL{fs}:∀(t:Tr){L},cW fs L->∀r∈cK fs t L,cW fs r.1/\fB r.1=false/\∀c,fX r.1 c=true->fX L c=true
|.say a,L,h,r,hr=>by
 have hr':r∈(if fB L then[]else[(L,a)]):=hr
 cases f:fB L with
 |true=>rw[f,b8 rfl]at hr';simp at hr'
 |false=>
  rw[f,a9 Ft]at hr';rw[bW.mp hr'];exact⟨h,f,λ_ z=>z⟩
|.ask k n v s y m,L,h,r,hr=>by
 have hr':r∈(if fB L then[]else cK fs y (fK L (jx fs n) (eA fs k n v s))++cK fs m (fK L (jx fs n) λx=>!eA fs k n v s x)):=hr;split at hr'
 ·simp at hr'
 ·have sub:∀g c,fX (fK L (jx fs n) g) c=true->fX L c=true:=λg c z=>by
   rw[rD,cL]at z;exact z.1
  rcases cR.mp hr' with hr' | hr'
  ·obtain⟨b,d,e⟩:=jL y (h.filt _ _) r hr';exact⟨b,d,λc z=>sub _ c (e c z)⟩
  ·obtain⟨b,d,e⟩:=jL m (h.filt _ _) r hr';exact⟨b,d,λc z=>sub _ c (e c z)⟩
theorem vT(fs:List (Str×List Str)):∀(t:Tr)(L:List (List D)),(cK fs t L).length<=t.kn+1
|.say a,L=>by
 show(if fB L then[]else[(L,a)]).length<=1;split<;>simp
|.ask k n v s y m,L=>by
 show(if fB L then[]else cK fs y _++cK fs m _).length<=y.kn+m.kn+1+1;have b:=vT fs y (fK L (jx fs n) (eA fs k n v s));have c:=vT fs m (fK L (jx fs n) λx=>!eA fs k n v s x);split
 ·simp
 ·rw[aV];lia
def KM{fs}(h:fB L=true):cK fs t L=[]:=by cases t<;>exact b8 h
def tR{fs}(t:Tr)(a:cW fs L)(h:fX L c=false):((cK fs t L).map λr=>fX r.1 c)=qG (cK fs t L).length false:=by
 rw[List.map_eq_replicate_iff];intro r b
 cases d:fX r.1 c with
 |false=>rfl
 |true=>rw[(jL t a r b).2.2 c d]at h;cases h
noncomputable def iH(fs:List (Str×List Str)):Tr->List D->Str
|.say a,_=>a
|.ask k n v s y m,c=>if xO c (jx fs n) (eA fs k n v s)then iH fs y c else iH fs m c
theorem AY:∀{c:List D}{j:Nat}{g:D->Bool},j<c.length->xO c j (λx=>!g x)=!xO c j g
|[],j,g,h=>by simp at h
|_::_,0,g,_=>rfl
|_::c,j+1,g,h=>AY (c:=c) (by simpa using h)
theorem tO{fs}:∀(t:Tr){L c},kK fs an t->cW fs L->fX L c=true->((cK fs t L).map λr=>fX r.1 c).count true=1/\(cK fs t L).find? (λr=>fX r.1 c)=((cK fs t L).find? (λr=>fX r.1 c)).map (λr=>(r.1,iH fs t c))/\(cK fs t L).find? (λr=>fX r.1 c)≠none
|.say a,L,c,_,hL,hc=>by
 have g:fB L=false:=by
  cases g:fB L with
  |false=>rfl
  |true=>
   have:=(gH L c).mpr hc;rw[(wV L).mpr g]at this;simp at this
 have e:cK fs (.say a) L=[(L,a)]:=by show(if fB L then[]else[(L,a)])=_;rw[g];rfl
 rw[e];have A:[(L,a)].find? (λr=>fX r.1 c)=some (L,a):=by rw[fP (by exact hc)]
 rw[A];refine⟨?_,Fx,Fv⟩;show[fX L c].count true=1;rw[hc];rfl
|.ask k n v s y m,L,c,ht,hL,hc=>by
 obtain⟨E,hs,H,C⟩:=ht
 have g:fB L=false:=by
  cases g:fB L with
  |false=>rfl
  |true=>
   have:=(gH L c).mpr hc;rw[(wV L).mpr g]at this;simp at this
 have e:cK fs (.ask k n v s y m) L=cK fs y (fK L (jx fs n) (eA fs k n v s))++cK fs m (fK L (jx fs n) λx=>!eA fs k n v s x):=by
  show(if fB L then[]else _)=_;rw[g];rfl
 have z:jx fs n<c.length:=by
  rw[(oZ hc).1,hL.1];obtain⟨f,B,w,_⟩:=qB E;have:n∈fs.map (·.1):=aU.mpr ⟨f,B,w⟩;have:=fT.mpr this;rw[aB]at this;exact this
 have j:=rD L (jx fs n) (eA fs k n v s) c;have h:=rD L (jx fs n) (λx=>!eA fs k n v s x) c;rw[AY z]at h;rw[hc,oU]at j h;rw[e,bK,zU,nU];have d:∀n:Nat,(qG n false).count true=0:=λn=>by rw[NG];rfl
 have b:∀(t:Tr)(o:List (List D)),cW fs o->fX o c=false->(cK fs t o).find? (λr=>fX r.1 c)=none:=λt o l i=>by
  rw[fN];intro r F G;rw[(jL t l r F).2.2 c G]at i;cases i
 cases p:xO c (jx fs n) (eA fs k n v s)with
 |true=>
  rw[p]at j h;obtain⟨l,i,u⟩:=tO y H (hL.filt _ _) j;have q:iH fs (.ask k n v s y m) c=iH fs y c:=by show(if xO c (jx fs n) (eA fs k n v s)then _ else _)=_;rw[p];rfl
  rw[tR m (hL.filt _ _) h,d,l,q,b m _ (hL.filt _ _) h,Option.or_none];exact⟨Fx,i,u⟩
 |false=>
  rw[p]at j h;obtain⟨l,i,u⟩:=tO m C (hL.filt _ _) h;have q:iH fs (.ask k n v s y m) c=iH fs m c:=by show(if xO c (jx fs n) (eA fs k n v s)then _ else _)=_;rw[p];rfl
  rw[tR y (hL.filt _ _) j,d,l,q,b y _ (hL.filt _ _) j,pX];exact⟨Fx,i,u⟩
noncomputable def lF(L:List (List D)):D:=.tuple (L.map aW)
noncomputable def cC(r:List (List D)×Str):D:=.tuple [lF r.1,.str r.2]
noncomputable def hV(a:List (List D)):D:=.list (a.map aW)
def rC(fs:List (Str×List Str)):Prop:=(cO (fs.map bZ)).length<=50/\(fs.map λf=>f.2.length).sum<=15/\fs.length<=5
def Um:lG:=λa Q=>∃(fs:List (Str×List Str))(an:List Str),a=[dO fs an]/\eO fs an/\Q (lF (fs.map bZ))
def uG(fs:List (Str×List Str))(L:List (List D)):Prop:=L.length=fs.length/\∀e∈L,∀x∈e,(x=.none\/∃z,sW z=true/\x=.str z)
noncomputable def vA:Option (List (List D)×Str)->D
|some r=>.str r.2
|none=>.none
def oC(a:Cd x)(b:Cd y):Ii x y:=⟨a.lay,b.lay,by have:=a.dep;lia⟩
def sD(h:sW z=true):Cd (.str z):=(jV h (n:=8) (m:=0) (aM _)).cd Ft
def EI(x:D):Prop:=x=.none\/∃z,sW z=true/\x=.str z
def EI.th(h:EI x){n m:Nat}(a:8<=n):Th n m x:=by
 rcases h with rfl | ⟨z,b,rfl⟩
 ·exact uM
 ·exact jV b a
def FV(a:EI x)(b:EI y):cE x y=decide (x=y):=by
 rcases a with rfl | ⟨z,c,rfl⟩<;>rcases b with rfl | ⟨w,hw,rfl⟩
 ·exact(a8 Fx).symm
 ·exact(c6 (λz=>nomatch z)).symm
 ·exact(c6 (λz=>nomatch z)).symm
 ·show(z==w)=_;rw[fH];simp
theorem sG(b:EI x):∀{a:List D},(∀t∈a,EI t)->(a.any λz=>cE z x)=decide (x∈a)
|[],_=>(c6 Fv).symm
|t::a,h=>by
 rw[aCw,sG b λt c=>h t (aK _ c),FV (h t (aP ..)) b,fH];simp only[gT,d4,bA];exact⟨λz=>z.imp jd id,λz=>z.imp jd id⟩
def qT(d:EI x)(h:∀t∈ts,EI t):tQ x (.list ts)/\tQ x (.tuple ts):=by
 obtain⟨_,_,_,_,e,b⟩:=tD (n:=8) (m:=0) λt c=>(h t c).th (aM 8);have a:=((d.th (n:=8) (m:=0) (aM 8)).cd Ft);exact⟨⟨b,a.lay,by have:=a.dep;lia⟩,⟨b,a.lay,by have:=a.dep;lia⟩⟩
section
variable{fs:List (Str×List Str)}{an:List Str}
def oK(F:eO fs an)(a:f∈fs):∀x∈bZ f,EI x:=λx hx=>by
 rcases cR.mp hx with hx | hx
 ·obtain⟨z,b,rfl⟩:=aU.mp hx;exact .inr ⟨z,F.vals a z b,Fx⟩
 ·rw[bW.mp hx];exact .inl Fx
def HI(h:x∈bZ f):WT f x=true:=by
 rcases cR.mp h with h | h
 ·obtain⟨z,a,rfl⟩:=aU.mp h;exact a8 a
 ·rw[bW.mp h];rfl
def cW.sub(h:cW fs L){j:Nat}{e}(b:fs[j]?=some f)(a:L[j]?=some e):∀x∈e,x∈bZ f:=λx c=>by
 obtain⟨p,rfl⟩:=h.2 j f e b a;exact(bC.mp c).1
def lZ(h:cW fs L)(g:fX L c=true):fE fs (.tuple c)=true:=by
 obtain⟨d,e⟩:=oZ g;refine FZ (d.trans h.1) λk f x b i=>?_;have hk:k<L.length:=by rw[h.1];exact(aC.mp b).1
 have a:L[k]?=some L[k]:=aD hk;exact HI (h.sub b a x (e k _ x a i))
def BS(F:eO fs an){k n v:Str}(h:GG fs (.tuple [.str k,.str n,.str v])=true):∃f,fs[jx fs n]?=some f/\f∈fs/\f.1=n/\v∈f.2/\(k="is"\/k="upto"):=by
 obtain⟨f,b,a,d,hk⟩:=qB h;obtain⟨j,c⟩:=bU b;have:jx fs n=j:=by rw[<- a];exact FK F c
 exact⟨f,by rw[this];exact c,b,a,d,hk.imp id λz=>z.1⟩
def GX(F:eO fs an){k n v s:Str}(a:fs[jx fs n]?=some f)(hs:s="yes"\/s="no")(b:x∈bZ f):AS x (.tuple (oH k v s f))=eA fs k n v s x:=by
 unfold eA;rw[a];show _=decide (pJ f k v s x="yes");rw[<- BX hs (HI b)]
 cases AS x (.tuple (oH k v s f))with
 |true=>rfl
 |false=>rw[a9 Ft];exact(c6 Fq).symm
def NW{k v s:Str}(hs:s="yes"\/s="no")(a:WT f x=true):pJ f k v s x="yes"\/pJ f k v s x="no":=by
 rw[<- BX hs a];split
 ·exact .inl Fx
 ·exact .inr Fx
def xY(F:eO fs an){k n v s:Str}(m:GG fs (.tuple [.str k,.str n,.str v])=true)(hs:s="yes"\/s="no")(h:fE fs (.tuple c)=true):iY fs k n v s c=(if xO c (jx fs n) (eA fs k n v s)then("yes":Str)else "no"):=by
 obtain⟨f,a,i,d,o,hk⟩:=BS F m;obtain⟨l,b⟩:=jA h;have j:jx fs n<c.length:=by rw[l];exact(aC.mp a).1
 have g:c[jx fs n]?=some c[jx fs n]:=aD j;have hok:=b _ f _ a g;rw[tL F a g d,M6 g];unfold eA;rw[a];show _=if decide (pJ f k v s c[jx fs n]="yes")=true then("yes":Str)else "no";rcases NW (k:=k) (v:=v) hs hok with e | e
 ·rw[e,b8 (a8 Fx)]
 ·rw[e,a9 Fq]
end
def ZW:List D->List (List D)
|.tuple e::ds=>e::ZW ds
|_=>[]
theorem ES:∀L:List (List D),ZW (L.map aW)=L
|[]=>rfl
|e::L=>by show e::ZW (L.map aW)=e::L;rw[ES L]
def XH(c:List D)(x:D):Bool:=match x with | .tuple [.tuple ls,_]=>fX (ZW ls) c | _=>false
def D3(c:List D)(r:List (List D)×Str):XH c (cC r)=fX r.1 c:=by
 show fX (ZW (r.1.map aW)) c=_;rw[ES]
section
def oM(f:Str×List Str):(bZ f).length=f.2.length+1:=by unfold bZ;rw[aV,aB];rfl
end
def Ha(x:D):Bool:=match x with | .tuple [.tuple l,x]=>decide (x∈l) | _=>false
theorem MQ:∀(L:List (List D))(c:List D),c.length=L.length->(((xW (L.map aW) c).map Ha).all id)=fX L c
|[],[],_=>rfl
|[],_::_,h=>by simp at h
|_::_,[],h=>by simp at h
|e::L,x::c,h=>by
 have a:=MQ L c (by simpa using h);show((decide (x∈e))&&((xW (L.map aW) c).map Ha).all id)=(decide (x∈e)&&fX L c);rw[a]
def Nv(k n v a b c:Str):cE (.tuple [.str k,.str n,.str v]) (.tuple [.str a,.str b,.str c])=decide (k=a/\n=b/\v=c):=by
 show((k==a)&&((n==b)&&((v==c)&&true)))=_;rw[fH];simp
theorem KZ:∀t u:Tr,cE (jU t) (jU u)=true↔t=u
|.say a,.say b=>by
 show((("say":Str)=="say")&&((a==b)&&true))=true↔_;simp
|.say a,.ask k n v s y m=>by
 refine⟨λh=>?_,λh=>nomatch h⟩;have g:((("say":Str)=="ask")&&((cE (.str a) (.tuple [.str k,.str n,.str v]))&&false))=true:=h;rw[show(("say":Str)=="ask")=false by decide +kernel]at g;cases g
|.ask k n v s y m,.say a=>by
 refine⟨λh=>?_,λh=>nomatch h⟩;have g:((("ask":Str)=="say")&&((cE (.tuple [.str k,.str n,.str v]) (.str a))&&false))=true:=h;rw[show(("ask":Str)=="say")=false by decide +kernel]at g;cases g
|.ask k n v s y m,.ask k' n' v' s' y' m'=>by
 show((("ask":Str)=="ask")&&(cE (.tuple [.str k,.str n,.str v]) (.tuple [.str k',.str n',.str v'])&&((s==s')&&(cE (jU y) (jU y')&&(cE (jU m) (jU m')&&true)))))=true↔_;rw[Nv];simp only[cL,d4,av,KZ y y',KZ m m',and_true,Tr.ask.injEq];exact⟨λ⟨_,⟨a,b,c⟩,d,e,f⟩=>⟨a,b,c,d,e,f⟩,λ⟨a,b,c,d,e,f⟩=>⟨trivial,⟨a,b,c⟩,d,e,f⟩⟩
section
variable{fs:List (Str×List Str)}{an:List Str}
def ZN(F:eO fs an){t:Tr}(h:kK fs an t)(hd:t.dep<=40):Cd (jU t):=(EY F t h).cd Fu
end
def qZ:∀fs:List (Str×List Str),F6 fs=cO (fs.map bZ):=λfs=>by
 rw[<- rZ]
 have:∀(a:List (Str×List Str))(bs:List (List D)),a.foldl (λbs f=>longer bs (bZ f)) bs=(a.map bZ).foldl iC bs:=λa=>by
  induction a with
  |nil=>exactλ_=>rfl
  |cons g a b=>exactλbs=>by rw[nA,aZ,nA,b];congr 1
 exact this fs [[]]
def xF{fs:List (Str×List Str)}(S:rC fs):(cO (fs.map bZ)).length<=300/\jR fs<=300:=by
 have e:jR fs=(cO (fs.map bZ)).length:=by rw[<- qZ,uD]
 have:=S.1;rw[e];exact⟨Fu,Fu⟩
def C6(e:List D)(x:D):Nat:=e.idxOf x
def Kp(L:List (List D))(c d:List D):Prop:=∃j:Nat,(∀i,i<j->c[i]?=d[i]?)/\∃e x y,L[j]?=some e/\c[j]?=some x/\d[j]?=some y/\C6 e x<C6 e y
theorem vE{e h:Type}{R:h->h->Prop}{S:e->e->Prop}{f:e->List h}:∀{l:List e},l.Pairwise S->(∀a∈l,(f a).Pairwise R)->(∀a b,a∈l->b∈l->S a b->∀x∈f a,∀y∈f b,R x y)->(l.flatMap f).Pairwise R
|[],_,_,_=>xU.nil
|a::l,hs,h1,h2=>by
 rw[P9]at hs;rw[eV,ND];refine⟨h1 a (aP ..),vE hs.2 (λb d=>h1 b (aK _ d)) λb c d i=>h2 b c (aK _ d) (aK _ i),λx j y g=>?_⟩;obtain⟨b,d,g⟩:=oP.mp g;exact h2 a b (aP ..) (aK _ d) (hs.1 b d) x j y g
def FD:∀{e:List D},e.Nodup->e.Pairwise λx y=>C6 e x<C6 e y:=λ{e} h=>by
 rw[List.pairwise_iff_getElem];intro i j b c a;unfold C6;rw[h.idxOf_getElem i b,h.idxOf_getElem j c];exact a
theorem vQ:∀{L},(∀e∈L,e.Nodup)->(cO L).Pairwise (Kp L)
|[],_=>JF _ _
|e::L,h=>by
 have q:=vQ λe o=>h e (aK _ o);show(e.flatMap λx=>(cO L).map (x::·)).Pairwise (Kp (e::L));refine vE (FD (h e (aP ..))) (λx _=>?_) λx y _ _ a c n d hd=>?_
 ·rw[zS];refine q.imp λ{c d} ⟨j,f,b,r,s,g,k,l,m⟩=>⟨j+1,λi p=>?_,b,r,s,by simpa using g,by simpa using k,by simpa using l,m⟩
  cases i with
  |zero=>rfl
  |succ i=>simpa using f i Fu
 ·obtain⟨t,_,rfl⟩:=aU.mp n;obtain⟨u,_,rfl⟩:=aU.mp hd;exact⟨0,λi p=>by lia,e,x,y,Fx,Fx,Fx,a⟩
def CB{fs}(F:eO fs an)(g:f∈fs):(bZ f).Nodup:=by
 unfold bZ;rw[U1];refine⟨?_,Fv,λa d b e=>?_⟩
 ·have c:=(F.vs f g).2.2.2.2;rw[EO]at c |-
  rw[zS];exact c.imp λh z=>h (by injection z)
 ·obtain⟨z,_,rfl⟩:=aU.mp d;rw[bW.mp e]
  exactλz=>nomatch z
def Ui:lG:=λa Q=>∃(fs:List (Str×List Str))(an:List Str)(r:List (List D)×Str)(c:List D),a=[dO fs an,cC r,.tuple c]/\eO fs an/\cW fs r.1/\fE fs (.tuple c)=true/\Q (.bool (fX r.1 c))
def Uj:lG:=λb Q=>∃(fs:List (Str×List Str))(an:List Str)(a:List (List (List D)×Str))(c:List D),b=[dO fs an,.list (a.map cC),.tuple c]/\eO fs an/\(∀r∈a,cW fs r.1)/\fE fs (.tuple c)=true/\Q (vA (a.find? (λr=>fX r.1 c)))
def iL(a:List (List (List D)×Str))(c:List D):Str:=match a.find? (λr=>fX r.1 c)with | some r=>r.2 | none=>""
def uI(fs:List (Str×List Str))(a:List (List (List D)×Str)):Prop:=∀c∈cO (fs.map bZ),a.find? (λr=>fX r.1 c)≠none
def F4{fs:List (Str×List Str)}{a:List (List (List D)×Str)}(h:uI fs a)(b:c∈cO (fs.map bZ)):vA (a.find? (λr=>fX r.1 c))=.str (iL a c):=by
 unfold iL
 cases d:a.find? (λr=>fX r.1 c)with
 |none=>exact c8 d (h c b)
 |some r=>rfl
def uV{fs:List (Str×List Str)}{an:List Str}{a:List (List (List D)×Str)}(h:uI fs a)(d:∀r∈a,r.2∈an){c:List D}(e:c∈cO (fs.map bZ)):iL a c∈an:=by
 unfold iL
 cases b:a.find? (λr=>fX r.1 c)with
 |none=>exact c8 b (h c e)
 |some r=>exact d r (gF b)
def Uk(w:d7):lG:=λb Q=>∃(fs:List (Str×List Str))(an:List Str)(a:List (List (List D)×Str))(m:Nat),b=[dO fs an,.list (a.map cC),.int (m:Nat)]/\eO fs an/\rC fs/\(cO (fs.map bZ)).length<=m/\(∀r∈a,cW fs r.1)/\uI fs a/\Q (qL w ((cO (fs.map bZ)).map λc=>(.tuple c,.str (iL a c))))
def WH{fs:List (Str×List Str)}(F:eO fs an):(cO (fs.map bZ)).Nodup:=by
 have h:=vQ (L:=fs.map bZ) λe g=>by
  obtain⟨f,i,rfl⟩:=aU.mp g;exact CB F i
 rw[EO];refine h.imp λ{c d} ⟨j,_,e,x,y,_,b,a,k⟩ z=>?_;subst z;rw[b]at a;have:=c7 a;subst this;lia
def RJ{l:List (List D)}{g:List D->D}(o:l.Nodup){k:Nat}(h:l[k]?=some c):C5 ((l.take k).map λc=>(aW c,g c)) (.tuple c) (g c)=(l.take (k+1)).map λc=>(aW c,g c):=by
 unfold C5
 have a:aW c∉((l.take k).map λc=>(aW c,g c)).map (·.1):=λz=>by
  obtain⟨p,m,e⟩:=aU.mp z;obtain⟨n,d,rfl⟩:=aU.mp m;have:n=c:=by injection e
  subst this;obtain⟨i,b⟩:=bU d;have f:=(aC.mp b).1;rw[bD]at f;rw[iW,b8 Fu]at b;have:=(rJ (i:=i) (j:=k) (aC.mp b).1 o).mp (b.trans h.symm);lia
 rw[a9 a,bS,h,bK];rfl
def tU{fs}(F:eO fs an)(h:fE fs (.tuple c)=true):JA (.tuple c):=by
 have i:∀x∈c,hk x=true:=λx f=>by
  obtain⟨j,p⟩:=jA h;obtain⟨k,e⟩:=bU f;have d:k<fs.length:=by rw[<- j];exact(aC.mp e).1
  have:=p k fs[k] x (aD d) e
  cases x with
  |none=>rfl
  |str z=>exact(jV (F.vals (dL d) z (c5 this)) (n:=8) (m:=0) (aM _)).lay
  |_=>cases this
 have b:∀{l:List D},(∀x∈l,hk x=true)->hkAll l=true:=λ{l}=>by
  induction l with
  |nil=>exactλ_=>rfl
  |cons a l q=>
   intro g;show(hk a&&hkAll l)=true;rw[g a (aP ..),q λx f=>g x (aK _ f)];rfl
 have o:=JV (N:=50) (M:=1) 8 0 5 (K7 F h (aM 8)) (by rw[(jA h).1];exact F.n5) Ft Ft;exact⟨⟨b i,bP o.depth Ft⟩,c,Fx⟩
def Q5{a:List Sl}{i:Nat}(c:i<a.length)(d:∀(j:Nat)(hs:List Int)(b:List (D×D)),a[j]?≠some (.dic hs b))(k:u DT (a.set i (K3 w []))):fR (RA i) u DT a:=⟨c,d,k⟩
def Q4{c tv:ET}{b:List Sl}{i:Nat}{a:List (D×D)}(k v:D)(h:b[i]?=some (K3 w a))(g:∀q:D->Prop,q v->tv b q)(hk:∀q:D->Prop,q k->c b q)(d:JA k)(e:∀kv∈a,oX kv.1)(f:a.length<=100000)(j:u DT (b.set i (K3 w (C5 a k v)))):fR (Q9 w i c tv) u DT b:=⟨a,h,g _ (hk _ ⟨d,e,f,j⟩)⟩
def B8{fs}(F:eO fs an)(h:fE fs (.tuple c)=true){j:Nat}(b:c[j]?=some x):EI x:=by
 obtain⟨d,e⟩:=jA h;have a:j<fs.length:=by rw[<- d];exact(aC.mp b).1
 have:=e j fs[j] x (aD a) b
 cases x with
 |none=>exact .inl Fx
 |str z=>exact .inr ⟨z,F.vals (dL a) z (c5 this),Fx⟩
 |_=>cases this
def V5{c:xQ}{g u:uF}(R:Bool->Prop)(P:List Sl->Prop)(h:∀q:Bool->Prop,(∀b,R b->q b)->c σ q)(i:R true->∀d:xR,(∀a,P a->d.nx a)->g d σ)(j:R false->P σ)(f:∀a,P a->u DT a):fR (Gg c g jP) u DT σ:=h _ λb e=>by
 cases b with
 |true=>exact i e { DT with nx:=u DT } f
 |false=>exact f _ (j e)
def uE(L M:List (List D)):Prop:=L.length=M.length/\∀(j:Nat) e e',L[j]?=some e->M[j]?=some e'->∀x∈e,x∈e'
def uE.refl(L:List (List D)):uE L L:=⟨Fx,λj e c h a x b=>by rw[h]at a;cases a;exact b⟩
theorem uE.trans(a:uE L M)(b:uE M N):uE L N:=⟨a.1.trans b.1,λj e i h d x g=>by
 have f:j<M.length:=by rw[<- a.1];exact(aC.mp h).1
 have c:M[j]?=some M[j]:=aD f;exact b.2 j _ _ c d x (a.2 j _ _ h c x g)⟩
def M9{L:List (List D)}{c:List D}:fX L c=true↔c.length=L.length/\∀(j:Nat) e x,L[j]?=some e->c[j]?=some x->x∈e:=by
 refine⟨oZ,?_⟩
 induction L generalizing c with
 |nil=>
  rintro⟨h,_⟩;have:c=[]:=nN.mp h;subst this;rfl
 |cons e L f=>
  rintro⟨h,g⟩
  cases c with
  |nil=>cases h
  |cons x c=>
   show(decide (x∈e)&&fX L c)=true;rw[a8 (g 0 e x Fx Fx),f ⟨by simpa using h,λj a i b d=>g (j+1) a i (by simpa using b) (by simpa using d)⟩];rfl
def uE.fit(s:uE L M)(h:fX L c=true):fX M c=true:=by
 obtain⟨d,f⟩:=M9.mp h;refine M9.mpr ⟨d.trans s.1,λj e x a i=>?_⟩;have g:j<L.length:=by rw[s.1];exact(aC.mp a).1
 have b:L[j]?=some L[j]:=aD g;exact s.2 j _ _ b a x (f j _ _ b i)
def lX(fs:List (Str×List Str))(L:List (List D))(j:Nat)(x:D):List (List D):=L.set j (match fs[j]?,L[j]? with | some f,some e=>(bZ f).filter λy=>decide (y∈e)||decide (y=x) | _,_=>[])
section
variable{fs:List (Str×List Str)}{L M:List (List D)}{j:Nat}{x:D}
def rP{e}(b:fs[j]?=some f)(a:L[j]?=some e):lX fs L j x=L.set j ((bZ f).filter λy=>decide (y∈e)||decide (y=x)):=by
 unfold lX;rw[b,a]
def EQ(c:cW fs L)(h:j<fs.length):cW fs (lX fs L j x):=by
 have f:fs[j]?=some fs[j]:=aD h;have k:j<L.length:=by rw[c.1];exact h
 have l:L[j]?=some L[j]:=aD k;rw[rP f l];refine⟨by rw[lP];exact c.1,λi g e d b=>?_⟩;by_cases a:j=i
 ·subst a;rw[bG k]at b;rw[f]at d;cases d;cases b;exact⟨_,Fx⟩
 ·rw[bH a]at b;exact c.2 i g e d b
def QO(g:cW fs L)(k:j<fs.length):uE L (lX fs L j x):=by
 have h:fs[j]?=some fs[j]:=aD k;have l:j<L.length:=by rw[g.1];exact k
 have d:L[j]?=some L[j]:=aD l;rw[rP h d];refine⟨(lP ..).symm,λi e m c b y f=>?_⟩;by_cases a:j=i
 ·subst a;rw[bG l]at b;rw[d]at c;cases c;cases b;exact bC.mpr ⟨g.sub h d y f,by rw[a8 f];rfl⟩
 ·rw[bH a,c]at b;cases b;exact f
def NK(p:cW fs L)(q:cW fs M)(s:uE L M)(d:j<fs.length):uE (lX fs L j x) (lX fs M j x):=by
 have g:fs[j]?=some fs[j]:=aD d;have k:j<L.length:=by rw[p.1];exact d
 have l:j<M.length:=by rw[q.1];exact d
 have f:L[j]?=some L[j]:=aD k;have h:M[j]?=some M[j]:=aD l;rw[rP g f,rP g h];refine⟨by rw[lP,lP];exact s.1,λi e o b c y m=>?_⟩;by_cases a:j=i
 ·subst a;rw[bG k]at b;rw[bG l]at c;cases b;cases c;obtain⟨r,n⟩:=bC.mp m;refine bC.mpr ⟨r,?_⟩;rw[gT,d4,d4]at n |-
  exact n.imp (s.2 j _ _ f h y) id
 ·rw[bH a]at b c;exact s.2 i e o b c y m
def QP(c:cW fs L)(a:fs[j]?=some f)(i:x∈bZ f):∀e,(lX fs L j x)[j]?=some e->x∈e:=λe h=>by
 have g:=(aC.mp a).1;have b:j<L.length:=by rw[c.1];exact g
 have d:L[j]?=some L[j]:=aD b;rw[rP a d,bG b]at h;cases h;exact bC.mpr ⟨i,by rw[a8 Fx,Bool.or_true]⟩
end
def fZ(fs:List (Str×List Str))(L:List (List D)):List (Nat×D):=(eW fs.length).flatMap λj=>match fs[j]?,L[j]? with | some f,some e=>((bZ f).filter λx=>!decide (x∈e)).map λx=>(j,x) | _,_=>[]
def lT{fs}(l:cW fs L){j:Nat}:(j,x)∈fZ fs L↔∃f e,fs[j]?=some f/\L[j]?=some e/\x∈bZ f/\x∉e:=by
 unfold fZ;rw[oP];constructor
 ·rintro⟨i,hi,h⟩;have b:=mC.mp hi;have a:fs[i]?=some fs[i]:=aD b;have d:i<L.length:=by rw[l.1];exact b
  have c:L[i]?=some L[i]:=aD d;rw[a,c]at h;obtain⟨y,m,e⟩:=aU.mp h;injection e with g k
  subst g k;obtain⟨n,o⟩:=bC.mp m;exact⟨_,_,a,c,n,g4 (by simpa using o)⟩
 ·rintro⟨f,e,a,c,h1,h2⟩;refine⟨j,mC.mpr (aC.mp a).1,?_⟩;rw[a,c];exact aU.mpr ⟨x,bC.mpr ⟨h1,by rw[c6 h2];rfl⟩,Fx⟩
def qH(fs:List (Str×List Str))(a:List (List D))(L:List (List D))(p:Nat×D):List (List D):=if a.any (fX (lX fs L p.1 p.2))then L else lX fs L p.1 p.2
def jO(fs:List (Str×List Str))(a:List (List D))(L:List (List D)):List (List D):=(fZ fs L).foldl (qH fs a) L
section
variable{fs:List (Str×List Str)}{ag:List (List D)}
def LM{p:Nat×D}(a:cW fs L)(b:p.1<fs.length):cW fs (qH fs ag L p)/\uE L (qH fs ag L p):=by
 unfold qH;split
 ·exact⟨a,.refl L⟩
 ·exact⟨EQ a b,QO a b⟩
theorem GN:∀(a:List (Nat×D)){L},cW fs L->(∀p∈a,p.1<fs.length/\∃f,fs[p.1]?=some f/\p.2∈bZ f)->(∀c∈ag,fX L c=false) ->
 cW fs (a.foldl (qH fs ag) L)/\uE L (a.foldl (qH fs ag) L)/\(∀c∈ag,fX (a.foldl (qH fs ag) L) c=false)/\∀p∈a,(∀e,(a.foldl (qH fs ag) L)[p.1]?=some e->p.2∈e)\/∃c∈ag,fX (lX fs (a.foldl (qH fs ag) L) p.1 p.2) c=true
|[],L,hL,_,ha=>⟨hL,.refl L,ha,λp g=>by cases g⟩
|p::a,L,hL,g,ha=>by
 obtain⟨j,f,v,w⟩:=g p (aP ..);obtain⟨k,n⟩:=LM (ag:=ag) hL j
 have s3:∀c∈ag,fX (qH fs ag L p) c=false:=λc d=>by
  unfold qH;split
  ·exact ha c d
  ·rename_i s
   cases i:fX (lX fs L p.1 p.2) c with
   |false=>rfl
   |true=>exact c8 (oQ.mpr ⟨c,d,i⟩) s
 obtain⟨m,h,t,u⟩:=GN a k (λq hq=>g q (aK _ hq)) s3;rw[nA];refine⟨m,n.trans h,t,λq hq=>?_⟩;rcases bA.mp hq with rfl | hq
 ·by_cases b:ag.any (fX (lX fs L q.1 q.2))=true
  ·obtain⟨c,d,i⟩:=oQ.mp b;exact .inr ⟨c,d,(NK hL m (n.trans h) j).fit i⟩
  ·refine .inl λe l=>?_;have o:qH fs ag L q=lX fs L q.1 q.2:=by unfold qH;rw[a9 b]
   rw[o]at h l k;have r:q.1<(lX fs L q.1 q.2).length:=by rw[k.1];exact j
   have hw:(lX fs L q.1 q.2)[q.1]?=some (lX fs L q.1 q.2)[q.1]:=aD r;exact h.2 q.1 _ e hw l q.2 (QP hL v w _ hw)
 ·exact u q hq
def NJ(g:cW fs L)(s:∀c∈ag,fX L c=false):cW fs (jO fs ag L)/\uE L (jO fs ag L)/\(∀c∈ag,fX (jO fs ag L) c=false)/\∀j x,(j,x)∈fZ fs (jO fs ag L)->∃c∈ag,fX (lX fs (jO fs ag L) j x) c=true:=by
 obtain⟨n,o,q,r⟩:=GN (fs:=fs) (ag:=ag) (fZ fs L) g (λp v=>by
  obtain⟨f,e,b,i,l,_⟩:=(lT g (j:=p.1) (x:=p.2)).mp v;exact⟨(aC.mp b).1,f,b,l⟩) s
 refine⟨n,o,q,λj x l=>?_⟩;obtain⟨f,e,b,i,m,d⟩:=(lT n).mp l;have t:=(aC.mp b).1;have u:j<L.length:=by rw[g.1];exact t
 have a:L[j]?=some L[j]:=aD u;have k:(j,x)∈fZ fs L:=(lT g).mpr ⟨f,_,b,a,m,λz=>d (o.2 j _ e a i x z)⟩;rcases r (j,x) k with h | h
 ·exact c8 (h e i) d
 ·exact h
end
abbrev Rl:=List (List D)×Str
def pP(a:List Rl)(c:List D):Option Rl:=a.find? λr=>fX r.1 c
def vN(fs:List (Str×List Str))(ans:List D->Str):List Rl->List (List D)->List Rl
|[],_=>[]
|r::rs,left=>(jO fs (left.filter λc=>!decide (ans c=r.2)) r.1,r.2)::vN fs ans rs (left.filter λc=>!fX (jO fs (left.filter λc=>!decide (ans c=r.2)) r.1) c)
def mW(fs:List (Str×List Str))(ans:List D->Str):List Rl->List (List D)->Prop
|[],_=>True
|w::ws,left=>cW fs w.1/\(∀j x,(j,x)∈fZ fs w.1->∃c∈left,ans c≠w.2/\fX (lX fs w.1 j x) c=true)/\mW fs ans ws (left.filter λc=>!fX w.1 c)
section
variable{fs:List (Str×List Str)}{ans:List D->Str}
theorem mW.mono:∀{ws l m},(∀c∈l,c∈m)->mW fs ans ws l->mW fs ans ws m
|[],_,_,_,_=>trivial
|w::ws,l,m,h,⟨h1,h2,h3⟩=>⟨h1,λj x d=>let ⟨c,a,r⟩:=h2 j x d;⟨c,h c a,r⟩,mW.mono (λc a=>by
  obtain⟨c1,b⟩:=bC.mp a;exact bC.mpr ⟨h c c1,b⟩) h3⟩
theorem mW.without:∀{a:List Rl}{l}(k:Nat),mW fs ans a l->mW fs ans (a.take k++a.drop (k+1)) l
|[],_,_,_=>by rw[GJ,aCv];trivial
|w::a,l,0,⟨_,_,h3⟩=>mW.mono (λc b=>(bC.mp b).1) h3
|w::a,l,k+1,⟨h1,h2,h3⟩=>⟨h1,h2,mW.without k h3⟩
theorem mW.at:∀{b:List Rl}{l}{k:Nat}{w:Rl},mW fs ans b l->b[k]?=some w->cW fs w.1/\∀j x,(j,x)∈fZ fs w.1->∃c∈l,(∀v∈b.take k,fX v.1 c=false)/\ans c≠w.2/\fX (lX fs w.1 j x) c=true
|[],_,_,_,_,h=>by simp at h
|v::b,l,0,w,⟨h1,h2,_⟩,h=>by
 simp only[jD,l8]at h;subst h;exact⟨h1,λj x e=>let ⟨c,d,r⟩:=h2 j x e;⟨c,d,(λu z=>by simp at z),r⟩⟩
|v::b,l,k+1,w,⟨h1,h2,h3⟩,h=>by
 obtain⟨g,i⟩:=mW.at h3 (k:=k) (by simpa using h);refine⟨g,λj x e=>?_⟩;obtain⟨c,d,a,r⟩:=i j x e;obtain⟨c1,f⟩:=bC.mp d;refine⟨c,c1,λu hu=>?_,r⟩;rcases bA.mp (by simpa using hu)with rfl | hu
 ·simpa using f
 ·exact a u hu
def sP:List Rl->List Rl->Prop
|[],[]=>True
|r::rs,w::ws=>uE r.1 w.1/\r.2=w.2/\sP rs ws
|_,_=>False
theorem LN:∀(a:List Rl)(left:List (List D)),(∀r∈a,cW fs r.1)->(∀c∈left,∃r,pP a c=some r/\r.2=ans c) ->
 mW fs ans (vN fs ans a left) left/\sP a (vN fs ans a left)/\∀c∈left,∃w,pP (vN fs ans a left) c=some w/\w.2=ans c
|[],left,_,hf=>⟨trivial,trivial,λc b=>by obtain⟨r,h,_⟩:=hf c b;cases h⟩
|r::a,left,hr,hf=>by
 have p:=hr r (aP ..)
 have l:∀c∈left.filter (λc=>!decide (ans c=r.2)),fX r.1 c=false:=λc b=>by
  obtain⟨c1,f⟩:=bC.mp b
  cases d:fX r.1 c with
  |false=>rfl
  |true=>
   obtain⟨q,g,i⟩:=hf c c1;have e:pP (r::a) c=some r:=fP d;rw[e]at g;cases g;rw[a8 i.symm]at f;cases f
 obtain⟨n,m,o,A⟩:=NJ p l;show mW fs ans ((jO fs (left.filter λc=>!decide (ans c=r.2)) r.1,r.2)::vN fs ans a (left.filter λc=>!fX (jO fs (left.filter λc=>!decide (ans c=r.2)) r.1) c)) left/\sP (r::a) ((jO fs (left.filter λc=>!decide (ans c=r.2)) r.1,r.2)::vN fs ans a (left.filter λc=>!fX (jO fs (left.filter λc=>!decide (ans c=r.2)) r.1) c))/\∀c∈left,∃w,pP ((jO fs (left.filter λc=>!decide (ans c=r.2)) r.1,r.2)::vN fs ans a (left.filter λc=>!fX (jO fs (left.filter λc=>!decide (ans c=r.2)) r.1) c)) c=some w/\w.2=ans c
 have k:∀j x,(j,x)∈fZ fs (jO fs (left.filter λc=>!decide (ans c=r.2)) r.1)->∃c∈left,ans c≠r.2/\fX (lX fs (jO fs (left.filter λc=>!decide (ans c=r.2)) r.1) j x) c=true:=λj x d=>by
  obtain⟨c,b,h⟩:=A j x d;obtain⟨c1,f⟩:=bC.mp b;exact⟨c,c1,g4 (by simpa using f),h⟩
 generalize jO fs (left.filter λc=>!decide (ans c=r.2)) r.1=W at n m o k
 obtain⟨u,v,y⟩:=LN a (left.filter λc=>!fX W c) (λq t=>hr q (aK _ t)) λc b=>by
  obtain⟨c1,f⟩:=bC.mp b;obtain⟨q,g,i⟩:=hf c c1;have s:¬fX r.1 c=true:=λz=>by rw[m.fit z]at f;cases f
  have e:pP (r::a) c=pP a c:=nT s;exact⟨q,e▸g,i⟩
 refine⟨⟨n,k,u⟩,⟨m,Fx,v⟩,λc b=>?_⟩
 cases d:fX W c with
 |true=>
  refine⟨(W,r.2),fP d,?_⟩;show r.2=ans c;by_cases e:ans c=r.2
  ·exact e.symm
  ·have:=o c (bC.mpr ⟨b,by rw[c6 e];rfl⟩);rw[d]at this;cases this
 |false=>
  obtain⟨w,g,i⟩:=y c (bC.mpr ⟨b,by rw[d];rfl⟩);have e:pP ((W,r.2)::vN fs ans a (left.filter λc=>!fX W c)) c=pP (vN fs ans a (left.filter λc=>!fX W c)) c:=nT (by show¬fX W c=true;rw[d];decide);exact⟨w,e.trans g,i⟩
def AV:pP (A++B) c=(pP A c).or (pP B c):=by unfold pP;rw[nU]
def OJ{a b q:Rl}(e:pP (A++a::(B++b::C)) c=some q)(j:q.2=v)(d:vA (pP (A++a::(B++C)) c)≠.str v):vA (pP (A++(B++C)) c)≠.str v:=by
 rw[AV]at e d |-
 cases h:pP A c with
 |some k=>rw[h]at d;exact d
 |none=>
  rw[h]at e d;simp only[pX]at e d |-
  by_cases g:fX a.1 c=true
  ·have i:pP (a::(B++b::C)) c=some a:=fP g;have f:pP (a::(B++C)) c=some a:=fP g;rw[i]at e;cases e;rw[f]at d;exact c8 (by show aO a.2=_;rw[j]) d
  ·have f:pP (a::(B++C)) c=pP (B++C) c:=nT g;rw[f]at d;exact d
def IN(P Q:List Rl)(b:Rl):(P++b::Q).take P.length++(P++b::Q).drop (P.length+1)=P++Q:=by simp
def wE(all:List (List D))(ans:List D->Str)(a:List Rl):Prop:=∀c∈all,∃q,pP a c=some q/\q.2=ans c
def F9(all:List (List D))(ans:List D->Str)(a:List Rl)(k:Nat):Prop:=∃w,a[k]?=some w/\∃c∈all,fX w.1 c=true/\vA (pP (a.take k++a.drop (k+1)) c)≠.str (ans c)
def XQ{all}{a:List Rl}{k:Nat}(j:wE all ans a)(hk:k<a.length)(l:¬F9 all ans a k):wE all ans (a.take k++a.drop (k+1)):=λc f=>by
 have hw:a[k]?=some a[k]:=aD hk;have b:a=a.take k++a[k]::a.drop (k+1):=by rw[<- fC hk,fV]
 have done:∀o:Option Rl,vA o=.str (ans c)->∃q,o=some q/\q.2=ans c:=λo g=>by
  cases o with
  |none=>cases g
  |some q=>exact⟨q,Fx,by injection g⟩
 cases h:fX a[k].1 c with
 |true=>
  refine done _ (x0 λz=>l ⟨_,hw,c,f,h,z⟩)
 |false=>
  obtain⟨q,d,i⟩:=j c f;rw[b,AV]at d;have e:pP (a[k]::a.drop (k+1)) c=pP (a.drop (k+1)) c:=nT (by rw[h];decide);rw[e,<- AV]at d;exact⟨q,d,i⟩
def OL{all}{d:List Rl}{n k:Nat}(v:wE all ans d)(z:n<=k)(h:F9 all ans d (k+1)):F9 all ans (d.take n++d.drop (n+1)) k:=by
 obtain⟨b,g,c,m,x,l⟩:=h;have w:=(aC.mp g).1;have j:n<d.length:=by lia
 obtain⟨A,a,R,rfl,u⟩:∃A a R,d=A++a::R/\A.length=n:=⟨d.take n,d[n],d.drop (n+1),by rw[<- fC j,fV],by rw[bD];lia⟩;subst u
 have e:R[k-A.length]?=some b:=by
  rw[cA Fu]at g;rw[show k+1-A.length=(k-A.length)+1 by lia,hZ]at g;exact g
 have f:=(aC.mp e).1
 obtain⟨B,C,rfl,y⟩:∃B C,R=B++b::C/\B.length=k-A.length:=⟨R.take (k-A.length),R.drop (k-A.length+1),by
  have:R[k-A.length]=b:=by rw[aD f]at e;exact c7 e
  rw[<- this,<- fC f,fV],by rw[bD];lia⟩
 have hk:k=A.length+B.length:=by lia
 subst hk;have o:(A++a::(B++b::C)).take A.length++(A++a::(B++b::C)).drop (A.length+1)=A++(B++b::C):=by simp
 rw[o]
 have p:(A++a::(B++b::C)).take (A.length+B.length+1)++(A++a::(B++b::C)).drop (A.length+B.length+1+1)=A++a::(B++C):=by
  have:A++a::(B++b::C)=(A++a::B)++b::C:=by simp
  have i:A.length+B.length+1=(A++a::B).length:=by rw[aV,bX];lia
  rw[this,i,IN,eF];rfl
 rw[p]at l
 have r:(A++(B++b::C)).take (A.length+B.length)++(A++(B++b::C)).drop (A.length+B.length+1)=A++(B++C):=by
  have:A++(B++b::C)=(A++B)++b::C:=by simp
  have i:A.length+B.length=(A++B).length:=aV.symm;rw[this,i,IN,eF]
 obtain⟨q,s,t⟩:=v c m;refine⟨b,?_,c,m,x,?_⟩
 ·rw[cA Fu,cA Fu];rw[show A.length+B.length-A.length-B.length=0 by lia];rfl
 ·rw[r];exact OJ s t l
def qM(r f:Rl):Prop:=uE r.1 f.1/\r.2=f.2
def GB:List Rl->List Rl->Prop
|_,[]=>True
|R,f::fs=>∃X r Y,R=X++r::Y/\qM r f/\GB Y fs
def GB.longer:∀{fs},GB Y fs->GB (Z++Y) fs
|[],_=>trivial
|f::fs,⟨X,r,Y',h,m,e⟩=>⟨Z++X,r,Y',by rw[h,eF],m,e⟩
def GB.first{R fs:List Rl}(h:GB R (f::fs)){i:Nat}(d:i<R.length)(b:∀k q,k<i->R[k]?=some q->¬qM q f):GB (R.drop (i+1)) fs:=by
 obtain⟨X,r,Y,rfl,m,e⟩:=h
 have c:i<=X.length:=by
  by_cases z:i<=X.length
  ·exact z
  ·exact c8 m (b X.length r Fu (by rw[cA (aM _)];simp))
 have a:X++r::Y=(X++[r])++Y:=by simp
 rw[a,List.drop_append_of_le_length (by rw[aV];show _<=_+1;lia)];exact e.longer
def GB.has{fs}(h:GB R (f::fs)):∃(i:Nat)(q:Rl),R[i]?=some q/\qM q f:=by
 obtain⟨X,r,Y,rfl,m,e⟩:=h;exact⟨X.length,r,by rw[cA (aM _)];simp,m⟩
theorem sP.emb:∀{rs ws},sP rs ws->GB rs ws
|[],[],_=>trivial
|r::rs,w::ws,⟨h1,h2,h3⟩=>⟨[],r,rs,Fx,⟨h1,h2⟩,sP.emb h3⟩
theorem GB.without:∀{a R:List Rl}(k:Nat),GB R a->GB R (a.take k++a.drop (k+1))
|[],_,k,_=>by rw[GJ,aCv];trivial
|w::a,_,0,⟨X,r,Y,h,_,e⟩=>by
 subst h;have b:X++r::Y=(X++[r])++Y:=by simp
 show GB _ a;rw[b];exact e.longer
|w::a,_,k+1,⟨X,r,Y,h,m,e⟩=>⟨X,r,Y,h,m,GB.without k e⟩
end
def MS{a:List (List D)}{p:List D->Bool}{i:Nat}(f:a[i]?=some c)(b:∀d∈a.take i,p d=false)(g:p c=true):a.find? p=some c:=by
 have h:=(aC.mp f).1
 have e:a=a.take i++c::a.drop (i+1):=by
  have:a[i]=c:=(aC.mp f).2;rw[<- this,<- fC h,fV]
 rw[e,nU,fN.mpr λd hd=>by rw[b d hd];decide];exact fP g
noncomputable def N9:Option (List D)->D
|some c=>.tuple c
|none=>.none
def Tk:lG:=λb Q=>∃(fs:List (Str×List Str))(an:List Str)(r:List (List D)×Str)(a:List (List D)),b=[dO fs an,cC r,hV a]/\eO fs an/\cW fs r.1/\(∀c∈a,fE fs (.tuple c)=true)/\Q (N9 (a.find? (fX r.1)))
def Tf:lG:=λb Q=>∃(fs:List (Str×List Str))(an:List Str)(r:List (List D)×Str)(a:List (List D)),b=[dO fs an,cC r,hV a]/\eO fs an/\cW fs r.1/\(∀c∈a,fE fs (.tuple c)=true)/\a.length<=300/\Q (hV (a.filter λc=>!fX r.1 c))
def To:GH:=λb Q=>∃(a:List D)(k:Nat),b=[.list a,.int (k:Int)]/\a.length<=1000/\Q (a.take k++a.drop (k+1))
def Te(w:d7):lG:=λd Q=>∃(fs:List (Str×List Str))(an:List Str)(r:List (List D)×Str)(b:List (List D))(ans:List D->Str)(a:List (D×D)),d=[cC r,hV b,qL w a]/\eO fs an/\(∀c∈b,sW (ans c)=true/\sW r.2=true)/\(∀c∈b,fE fs (.tuple c)=true)/\b.length<=300/\(∀c∈b,JA (.tuple c)/\(∀kv∈a,oX kv.1)/\(.tuple c,.str (ans c))∈a)/\Q (hV (b.filter λc=>!decide (ans c=r.2)))
def _root_.L2.Room.u9{k:Nat}{A:f9}(r:Room k A):A.units+9<w6:=by have:=r.un;lia
def Up:lG:=λa Q=>∃(L:List (List D))(j:Nat)(e:List D),a=[lF L,.int (j:Int),.tuple e]/\j<L.length/\L.length<=5/\Q (lF (L.set j e))
def Tj:lG:=λa Q=>∃(fs:List (Str×List Str))(an:List Str)(r:Rl)(j:Nat)(f:Str×List Str)(x:D),a=[dO fs an,cC r,.int (j:Int),x]/\eO fs an/\cW fs r.1/\fs[j]?=some f/\x∈bZ f/\Q (cC (lX fs r.1 j x,r.2))
noncomputable def pD(p:Nat×D):D:=.tuple [.int (p.1:Int),p.2]
def Ti:lG:=λa Q=>∃(fs:List (Str×List Str))(an:List Str)(r:Rl),a=[dO fs an,cC r]/\eO fs an/\cW fs r.1/\Q (.list ((fZ fs r.1).map pD))
def Tg:lG:=λb Q=>∃(fs:List (Str×List Str))(an:List Str)(r:Rl)(a:List (List D)),b=[dO fs an,cC r,hV a]/\eO fs an/\cW fs r.1/\(∀c∈a,fE fs (.tuple c)=true)/\Q (cC (jO fs a r.1,r.2))
def IU{a:List (List D)}{p:List D->Bool}:oE (N9 (a.find? p))=!a.any p:=by
 cases h:a.find? p with
 |none=>
  have:a.any p=false:=rK.mpr λc b=>fN.mp h c b;rw[this];rfl
 |some c=>
  have:a.any p=true:=oQ.mpr ⟨c,gF h,C2 h⟩;rw[this];rfl
def BN(fs:List (Str×List Str))(L:List (List D))(i:Nat):List (Nat×D):=(eW i).flatMap λj=>match fs[j]?,L[j]? with | some f,some e=>((bZ f).filter λx=>!decide (x∈e)).map λx=>(j,x) | _,_=>[]
def DU{fs}{i:Nat}{e}(b:fs[i]?=some f)(a:L[i]?=some e):BN fs L (i+1)=BN fs L i++((bZ f).filter λx=>!decide (x∈e)).map λx=>(i,x):=by
 unfold BN;rw[lO,kZ,JM,b,a]
noncomputable def lN(all:List (List D))(ans:List D->Str):List (D×D):=all.map λc=>(aW c,aO (ans c))
def FN(all:List (List D))(ans:List D->Str):(lN all ans).map (·.1)=all.map aW:=by unfold lN;rw[bL];rfl
def qV(a:List Rl)(k:Nat)(r:Rl)(ans:List D->Str)(c:List D):Bool:=fX r.1 c&&!cE (vA (pP (a.take k++a.drop (k+1)) c)) (.str (ans c))
def Tn(w:d7):lG:=λb Q=>∃(fs:List (Str×List Str))(an:List Str)(a:List Rl)(k:Nat)(r:Rl)(all:List (List D))(ans:List D->Str),b=[dO fs an,.list (a.map cC),.int (k:Int),qL w (lN all ans)]/\eO fs an/\(∀r∈a,cW fs r.1/\r.2∈an)/\a[k]?=some r/\a.length<=20/\(∀c∈all,fE fs (.tuple c)=true/\ans c∈an)/\Q (N9 (all.find? (qV a k r ans)))
def Vy(all:List (List D))(ans:List D->Str)(b a:List Rl)(n:Nat):Prop:=wE all ans a/\(∀k,n<=k->k<a.length->F9 all ans a k)/\n<=a.length/\a.length<=b.length/\∀P:List Rl->Prop,(∀a k,P a->P (a.take k++a.drop (k+1)))->P b->P a
def MV:cE (vA o) (.str v)=true↔vA o=.str v:=by
 cases o with
 |none=>exact⟨(λz=>by cases z),(λz=>by cases z)⟩
 |some q=>
  show(q.2==v)=true↔aO q.2=.str v;rw[av];exact⟨λz=>by rw[z],λz=>by injection z⟩
def DW{all:List (List D)}{ans:List D->Str}{m:Nat}(d:us[m]?=some r):oE (N9 (all.find? (qV us m r ans)))=true↔¬F9 all ans us m:=by
 rw[IU,nV,rK];constructor
 ·rintro h ⟨w,hw,c,b,a,e⟩;rw[d]at hw;cases hw;refine h c b ?_;unfold qV;rw[a,oU,nV,U2]
  exactλz=>e (MV.mp z)
 ·intro h c b a;unfold qV at a;rw[cL,nV,U2]at a;exact h ⟨r,d,c,b,a.1,λz=>a.2 (MV.mpr z)⟩
def Tl(w:d7):GH:=λd Q=>∃(fs:List (Str×List Str))(an:List Str)(b:List Rl)(all:List (List D))(ans:List D->Str),d=[dO fs an,.list (b.map cC),qL w (lN all ans)]/\eO fs an/\(∀r∈b,cW fs r.1/\r.2∈an)/\b.length<=20/\(∀c∈all,fE fs (.tuple c)=true/\ans c∈an)/\wE all ans b /\
 ∀a,wE all ans a->(∀k,k<a.length->F9 all ans a k)->a.length<=b.length->(∀P:List Rl->Prop,(∀a k,P a->P (a.take k++a.drop (k+1)))->P b->P a)->Q (a.map cC)
def GM{fs}(c:cW fs L):cW fs (jO fs ag L):=by
 have:∀(a:List (Nat×D)){L:List (List D)},cW fs L->(∀p∈a,p.1<fs.length)->cW fs (a.foldl (qH fs ag) L):=λa=>by
  induction a with
  |nil=>exactλh _=>h
  |cons p a i=>exactλ{L} h b=>i (LM h (b p (aP ..))).1 λq g=>b q (aK _ g)
 exact this _ c λp b=>by
  obtain⟨f,e,d,_⟩:=(lT c (j:=p.1) (x:=p.2)).mp b;exact(aC.mp d).1
def Td(w:d7):lG:=λb Q=>∃(fs:List (Str×List Str))(an:List Str)(a:List Rl)(all:List (List D))(ans:List D->Str),b=[dO fs an,.list (a.map cC),qL w (lN all ans)]/\eO fs an/\(∀r∈a,cW fs r.1/\r.2∈an)/\a.length<=20/\(∀c∈all,fE fs (.tuple c)=true/\ans c∈an)/\all.length<=300/\Q (.list ((vN fs ans a all).map cC))
def TH{fs}(F:eO fs an){all}{ans:List D->Str}(d:∀c∈all,fE fs (.tuple c)=true/\ans c∈an)(h:c∈all):JA (.tuple c)/\(∀e∈lN all ans,oX e.1)/\(aW c,aO (ans c))∈lN all ans:=
 ⟨tU F (d c h).1,λe b=>by
  obtain⟨c,a,rfl⟩:=aU.mp b;exact(tU F (d c a).1).1,aU.mpr ⟨c,h,Fx⟩⟩
def pN(fs:List (Str×List Str))(L:List (List D))(a:List (List D))(p:Nat×D):D:=.tuple [.int (p.1:Int),p.2,N9 (a.find? (fX (lX fs L p.1 p.2)))]
def Ts:GH:=λb Q=>∃(fs:List (Str×List Str))(an:List Str)(r:Rl)(a:List (List D)),b=[dO fs an,cC r,hV a]/\eO fs an/\cW fs r.1/\(∀c∈a,fE fs (.tuple c)=true)/\Q ((fZ fs r.1).map (pN fs r.1 a))
def BL{fs}(F:eO fs an)(L:List (List D)):(fZ fs L).length<=1000:=by
 have h:∀n,n<=fs.length->(BN fs L n).length<=10*n:=λn=>by
  induction n with
  |zero=>exactλ_=>aM _
  |succ n b=>
   intro c;have:=b Fu;unfold BN at this |-
   rw[lO,kZ,aV,JM];have a:fs[n]?=some fs[n]:=aD Fu;rw[a];have d:=(F.vs _ (dL (show n<fs.length by lia))).2.1;have el:=oM fs[n]
   cases L[n]? with
   |none=>show _+0<=_;lia
   |some e=>
    show _+(((bZ fs[n]).filter λx=>!decide (x∈e)).map λx=>(n,x)).length<=_;have:=cI (λx=>!decide (x∈e)) (bZ fs[n]);rw[aB];lia
 have:=h fs.length (aM _);have n5:=F.n5;show(BN fs L fs.length).length<=1000;lia
def nF(a:List Rl)(k:Nat)(all:List (List D)):List (List D):=all.filter λc=>!(a.take k).any λv=>fX v.1 c
def KL{k:Nat}{u:Rl}{all}(h:us[k]?=some u):(nF us k all).filter (λc=>!fX u.1 c)=nF us (k+1) all:=by
 unfold nF;rw[QB];congr 1;funext c;rw[bS,h,X7];show(_&&_)=!(_||[u].any _);rw[Bool.not_or,Bool.and_comm];simp
def KJ(a:List Rl)(all:List (List D)):nF a 0 all=all:=by
 unfold nF;rw[wJ];intro c _;rfl
def yL{a:List Rl}{k:Nat}{all}:c∈nF a k all↔c∈all/\∀v∈a.take k,fX v.1 c=false:=by
 unfold nF;rw[bC,nV,rK];exact and_congr_right λ_=>forall_congr' λv=>forall_congr' λ_=>by simp
def A8(fs:List (Str×List Str))(all:List (List D))(ans:List D->Str)(a:List Rl)(k:Nat)(u:Rl):D:=.tuple [N9 (all.find? (qV a k u ans)),.list ((fZ fs u.1).map (pN fs u.1 ((nF a k all).filter λc=>!decide (ans c=u.2))))]
def lL(fs:List (Str×List Str))(all:List (List D))(ans:List D->Str)(a:List Rl)(n:Nat):List D:=(eW n).map λk=>match a[k]? with | some u=>A8 fs all ans a k u | none=>.none
def E2{fs all}{ans:List D->Str}{n:Nat}(h:us[n]?=some u):lL fs all ans us (n+1)=lL fs all ans us n++[A8 fs all ans us n u]:=by
 unfold lL;rw[lO,bK,List.map_singleton,h]
def Tq(w:d7):lG:=λb Q=>∃(fs:List (Str×List Str))(an:List Str)(a:List Rl)(all:List (List D))(ans:List D->Str),b=[dO fs an,.list (a.map cC),qL w (lN all ans)]/\eO fs an/\(∀r∈a,cW fs r.1/\r.2∈an)/\a.length<=20/\(∀c∈all,fE fs (.tuple c)=true/\ans c∈an)/\all.length<=300/\Q (.list (lL fs all ans a a.length))
structure sI(fs:List (Str×List Str))(an:List Str)(all:List (List D))(ans:List D->Str)(rs us:List Rl):Prop where
 ok:wE all ans us
 need:∀k,k<us.length->F9 all ans us k
 len:us.length<=rs.length
 wid:mW fs ans us all
 emb:GB rs us
 lets:∀r∈us,cW fs r.1/\r.2∈an
theorem sP.ans{an:List Str}:∀{b c:List Rl},sP b c->(∀r∈b,r.2∈an)->∀r∈c,r.2∈an
|[],[],_,_=>λr a=>by cases a
|r::b,w::c,⟨_,h2,h3⟩,h=>λq hq=>by
 rcases bA.mp hq with rfl | hq
 ·rw[<- h2];exact h r (aP ..)
 ·exact sP.ans h3 (λr a=>h r (aK _ a)) q hq
theorem sP.length:∀{a b:List Rl},sP a b->b.length=a.length
|[],[],_=>rfl
|r::a,w::b,⟨_,_,h3⟩=>by rw[bX,bX,sP.length h3]
theorem mW.lets{fs}{ans:List D->Str}:∀{ws l},mW fs ans ws l->∀r∈ws,cW fs r.1
|[],_,_=>λr a=>by cases a
|w::ws,l,⟨h1,_,h3⟩=>λq hq=>by
 rcases bA.mp hq with rfl | hq
 ·exact h1
 ·exact mW.lets h3 q hq
def Uq:lG:=λc Q=>∃(fs:List (Str×List Str))(an:List Str)(a:List Rl),c=[dO fs an,.list (a.map cC)]/\eO fs an/\rC fs/\(∀r∈a,cW fs r.1/\r.2∈an)/\a.length<=20/\uI fs a /\
 ∀b,sI fs an (cO (fs.map bZ)) (iL a) a b->Q (.tuple [.list (b.map cC),.list (lL fs (cO (fs.map bZ)) (iL a) b b.length)])
def cW.e{fs}(F:eO fs an)(h:cW fs L):uG fs L:=⟨h.1,λe c x f=>by
 obtain⟨j,a⟩:=bU c;have b:j<fs.length:=by rw[<- h.1];exact(aC.mp a).1
 have d:fs[j]?=some fs[j]:=aD b;exact oK F (dL b) x (h.sub d a x f)⟩
theorem ME:∀{L e},fB L=false->e∈L->e≠[]
|[],e,_,h=>by cases h
|e0::L,e,h,hm=>by
 have a:(e0.isEmpty||fB L)=false:=h;rw[mD]at a;rcases bA.mp hm with rfl | hm
 ·intro z;rw[z]at a;cases a.1
 ·exact ME a.2 hm
def Nr{j:Nat}(a:EI x):Cd (pD (j,x)):=by
 have h:=a.th (n:=8) (m:=0) (aM 8);refine⟨?_,?_⟩
 ·show(true&&(x.canLay0&&true))=true;rw[h.lay];rfl
 ·have:=h.depth;show max 0 (max x.depth 0)+1<=60;lia
def VH{fs}{L:List (List D)}{j:Nat}{e}(l:fs[j]?=some f)(g:L[j]?=some e):uE (lX fs L j x) (L.set j (e++[x])):=by
 have m:=(aC.mp g).1;rw[rP l g];refine⟨by rw[lP,lP],λi d n c a y k=>?_⟩;by_cases b:j=i
 ·subst b;rw[bG m]at c a;cases c;cases a;have:=(bC.mp k).2;rw[gT,d4,d4]at this;rcases this with h | h
  ·exact oY _ h
  ·rw[h];exact eZ _ (bW.mpr Fx)
 ·rw[bH b]at c a;rw[c]at a;cases a;exact k
def uG.put{fs}{L:List (List D)}{j:Nat}{e}(h:uG fs L)(a:∀x∈e,EI x):uG fs (L.set j e):=⟨by rw[lP];exact h.1,λd hd=>by
 rcases GE hd with hd | rfl
 ·exact h.2 d hd
 ·exact a⟩
def XF{a:List Rl}{k:Nat}{v:Rl}(hk:k<a.length)(b:∀v∈a.take k,fX v.1 c=false)(d:fX v.1 c=true):pP (a.set k v) c=some v:=by
 rw[kF,b8 hk,AV];have:pP (a.take k) c=none:=fN.mpr λw hw=>by rw[b w hw];decide
 rw[this,pX];exact fP d
def Vx(fs:List (Str×List Str))(a:List Rl)(k:Nat)(u:Rl)(b:List (List D)):Prop:=∀j x,(j,x)∈fZ fs u.1->∃c,b.find? (fX (lX fs u.1 j x))=some c/\fE fs (.tuple c)=true/\(∀v∈a.take k,fX v.1 c=false)/\fX (lX fs u.1 j x) c=true/\∃q,pP a c=some q/\q.2≠u.2
def Wf{fs}(F:eO fs an)(h:∀q,o=some q->q.2∈an):Cd (vA o):=by
 cases o with
 |none=>exact(uM (n:=8) (m:=0)).cd Ft
 |some q=>exact sD (F.an.2.1 _ (h q Fx))
def GY{fs all}{ans:List D->Str}{a:List Rl}{k:Nat}(h:a[k]?=some u):(lL fs all ans a a.length)[k]?=some (A8 fs all ans a k u):=by
 unfold lL;rw[aF,gG (aC.mp h).1];show some (match a[k]? with | some u=>A8 fs all ans a k u | none=>.none)=_;rw[h]
def zE(fs:List (Str×List Str))(all:List (List D))(ans:List D->Str)(a:List Rl)(n:Nat):(lL fs all ans a n).length=n:=by unfold lL;simp
section
variable{fs:List (Str×List Str)}{an:List Str}{all:List (List D)}{ans:List D->Str}{b a:List Rl}
def sI.shown(h:sI fs an all ans b a){k:Nat}{u:Rl}(hk:a[k]?=some u):∃c∈all,all.find? (qV a k u ans)=some c/\fX u.1 c=true/\cE (vA (pP (a.take k++a.drop (k+1)) c)) (.str (ans c))=false:=by
 have f:=h.need k (aC.mp hk).1
 cases e:all.find? (qV a k u ans)with
 |none=>
  have:=(DW (all:=all) (ans:=ans) hk).mp (by rw[e];rfl);exact c8 f this
 |some c=>
  have d:=C2 e;unfold qV at d;rw[cL,nV]at d;exact⟨c,gF e,Fx,d.1,d.2⟩
def sI.more(h:sI fs an all ans b a)(r:∀c∈all,fE fs (.tuple c)=true){k:Nat}{u:Rl}(hk:a[k]?=some u):Vx fs a k u ((nF a k all).filter λc=>!decide (ans c=u.2)):=λj x s=>by
 obtain⟨c,m,n,o,p⟩:=(h.wid.at hk).2 j x s
 cases e:((nF a k all).filter λc=>!decide (ans c=u.2)).find? (fX (lX fs u.1 j x))with
 |none=>
  refine c8 p (fN.mp e c (bC.mpr ⟨yL.mpr ⟨m,n⟩,?_⟩));rw[c6 o];rfl
 |some d=>
  obtain⟨g,i⟩:=bC.mp (gF e);obtain⟨f,l⟩:=yL.mp g;obtain⟨q,t,v⟩:=h.ok d f;exact⟨d,Fx,r d f,l,C2 e,q,t,by rw[v];exact g4 (by simpa using i)⟩
end
def OI(b:x∈bZ f):C6 (bZ f) x<=C6 (bZ f) .none:=by
 have a:qO∉f.2.map aO:=λz=>by obtain⟨_,_,e⟩:=aU.mp z;cases e
 have e:C6 (bZ f) .none=f.2.length:=by
  unfold C6 bZ;rw[List.idxOf_append,a9 a,aB];simp
 rw[e];have:=fT.mpr b;unfold C6;unfold bZ at this |-
 rw[aV,aB,lR]at this;lia
def T0{fs:List (Str×List Str)}(F:eO fs an)(hs:(c::l).Sublist (cO (fs.map bZ))){j:Nat}(r:∀i,i<j->∀d∈l,d[i]?=c[i]?)(hd:d∈l)(s:d[j]?≠c[j]?):∃f v,fs[j]?=some f/\v∈f.2/\c[j]?=some (.str v):=by
 have o:=(vQ (L:=fs.map bZ) λe he=>by
  obtain⟨f,a,rfl⟩:=aU.mp he;exact CB F a).sublist hs
 rw[P9]at o;obtain⟨k,w,e,x,y,p,n,q,z⟩:=o.1 d hd
 have hk:k=j:=by
  rcases Nat.lt_trichotomy k j with ue | he | hgt
  ·have:=r k ue d hd;rw[n,q]at this;have:=c7 this;subst this;lia
  ·exact he
  ·exact c8 (w j hgt).symm s
 subst hk;rw[aF]at p;obtain⟨f,a,rfl⟩:=bM.mp p;have b:c∈cO (fs.map bZ):=hs.subset (aP ..);have g:d∈cO (fs.map bZ):=hs.subset (aK _ hd);have h:=(oZ ((gH _ c).mp b)).2 k _ x (by rw[aF,a];rfl) n;have m:=(oZ ((gH _ d).mp g)).2 k _ y (by rw[aF,a];rfl) q;have u:=OI m;rcases cR.mp h with hx | hx
 ·obtain⟨v,t,rfl⟩:=aU.mp hx;exact⟨f,v,a,t,n⟩
 ·rw[bW.mp hx]at z;lia
def Ic(l:List (List D))(e:List D)(j:Nat):Nat:=(e.filter λx=>decide (∃c∈l,c[j]?=some x)).length
def mu(l:List (List D)):List (List D)->Nat->Nat
|[],_=>0
|e::L,j=>Ic l e j+mu l L (j+1)
theorem mQ{b:Type}{p q:b->Bool}:∀{l:List b},(∀x∈l,p x=true->q x=true)->(l.filter p).length<=(l.filter q).length
|[],_=>aM _
|x::l,h=>by
 have a:=mQ (l:=l) λy d=>h y (aK _ d);rw[fG,fG]
 cases c:p x with
 |true=>rw[b8 Fx,b8 (h x (aP ..) c)];simpa using a
 |false=>
  rw[a9 Ft];split
  ·simp;lia
  ·exact a
theorem vF{d:Type}{p q:d->Bool}:∀{l:List d},(∀x∈l,p x=true->q x=true)->(∃x∈l,q x=true/\p x=false)->(l.filter p).length<(l.filter q).length
|[],_,⟨x,hx,_⟩=>by cases hx
|x::l,h,⟨y,hy,hq,hp⟩=>by
 have b:=λy hy=>h y (aK x hy);have m:=mQ (l:=l) b;rw[fG,fG];rcases bA.mp hy with rfl | hy
 ·rw[b8 hq,a9 (by rw[hp];decide)];simp;lia
 ·have c:=vF (l:=l) b ⟨y,hy,hq,hp⟩
  cases a:p x with
  |true=>rw[b8 Fx,b8 (h x (aP ..) a)];simpa using c
  |false=>
   rw[a9 Ft];split
   ·simp;lia
   ·exact c
theorem MF(h:∀c∈l,c∈l'):∀(L:List (List D))(j:Nat),mu l L j<=mu l' L j
|[],_=>aM _
|e::L,j=>aCu (mQ λx _ a=>a8 (let ⟨c,hc,a⟩:=c5 a;⟨c,h c hc,a⟩)) (MF h L (j+1))
theorem SV(h:∀c∈l,c∈l'){e}:∀{L}{i j:Nat},L[i]?=some e->x∈e->(∃c∈l',c[j+i]?=some x)->(∀c∈l,c[j+i]?≠some x)->mu l L j<mu l' L j
|[],i,j,he,_,_,_=>by simp at he
|e0::L,0,j,he,hx,h1,h2=>by
 simp only[jD,l8]at he;subst he;refine Nat.add_lt_add_of_lt_of_le (vF (λy _ b=>a8 (let ⟨c,a,b⟩:=c5 b;⟨c,h c a,b⟩)) ⟨x,hx,a8 h1,c6 λ⟨c,a,z⟩=>h2 c a z⟩) (MF h L (j+1))
|e0::L,i+1,j,he,hx,h1,h2=>by
 simp only[hZ]at he;have d:j+(i+1)=j+1+i:=by lia
 rw[d]at h1;refine Nat.add_lt_add_of_le_of_lt (mQ λy _ b=>a8 (let ⟨c,a,b⟩:=c5 b;⟨c,h c a,b⟩)) (SV h he hx h1 λc a=>by rw[<- d];exact h2 c a)
def nO(l:List (List D))(ans:List D->Str):List D:=l.map λc=>jQ (c,ans c)
def AZ(fs:List (Str×List Str))(an:List Str)(l:List (List D))(ans:List D->Str)(n:Nat)(t:Tr):Prop:=kK fs an t/\t.dep<=n/\t.kn+1<=l.length/\∀c∈l,iH fs t c=ans c
def Ud:lG:=λb Q=>∃(fs:List (Str×List Str))(an:List Str)(a:List (List (List D)×Str)),b=[dO fs an,.list (a.map cC)]/\eO fs an/\rC fs/\(∀r∈a,cW fs r.1/\r.2∈an)/\uI fs a/\∀t,AZ fs an (cO (fs.map bZ)) (iL a) 20 t->Q (jU t)
def tI(dd:Nat):lG:=λa Q=>∃(fs:List (Str×List Str))(an:List Str)(l:List (List D))(ans:List D->Str),a=[dO fs an,.list (nO l ans)]/\eO fs an/\rC fs/\l≠[]/\l.Sublist (cO (fs.map bZ))/\(∀c∈l,ans c∈an)/\mu l (fs.map bZ) 0<dd/\mu l (fs.map bZ) 0<=20 /\
 ∀t,AZ fs an l ans (mu l (fs.map bZ) 0) t->Q (jU t)
def Ue:lG:=tI 21
def SK{Q:D->Prop}(h:tI 0 ds Q):False:=by
 obtain⟨_,_,_,_,_,_,_,_,_,_,h,_⟩:=h;lia
def Uf:lG:=λa Q=>∃(fs:List (Str×List Str))(an:List Str)(c:List D)(l:List (List D))(ans:List D->Str),a=[dO fs an,.list (nO (c::l) ans)]/\eO fs an/\rC fs/\(c::l).Sublist (cO (fs.map bZ))/\(∃d∈l,d≠c) /\
 ∀(j:Nat)(f:Str×List Str)(v:Str),fs[j]?=some f->v∈f.2->c[j]?=some (.str v)->(∃d∈l,d[j]?≠some (.str v))->Q (.tuple [.str "is",.str f.1,.str v])
theorem SR:∀(l:List (List D))(fs:List (Str×List Str))(j:Nat),mu l (fs.map bZ) j<=(fs.map λf=>f.2.length).sum+fs.length
|l,[],j=>dE _
|l,f::fs,j=>by
 have a:=cI (λx=>decide (∃c∈l,c[j]?=some x)) (bZ f);have b:(bZ f).length=f.2.length+1:=by unfold bZ;rw[aV,aB];rfl
 have d:=SR l fs (j+1);show Ic l (bZ f) j+mu l (fs.map bZ) (j+1)<=(f.2.length+(fs.map λf=>f.2.length).sum)+(fs.length+1);unfold Ic;lia
def SU{fs:List (Str×List Str)}(S:rC fs)(l:List (List D)):mu l (fs.map bZ) 0<=20:=by
 have a:=SR l fs 0;have:=S.2.1;have:=S.2.2;lia
theorem EA:∀(a l:List Str)(z:Str),z∈a.foldl nH l↔z∈l\/z∈a
|[],l,z=>by simp
|y::a,l,z=>by rw[nA,EA a,D8,bA,or_assoc]
def K4(y:Str)(b:List Str):(dd (y::b)).length=1↔∀z∈b,z=y:=by
 constructor
 ·intro h z c;obtain⟨a,f⟩:=List.length_eq_one_iff.mp h
  have m:∀x,x∈y::b->x=a:=λx g=>by
   have:x∈dd (y::b):=(EA _ _ _).mpr (.inr g);rw[f]at this;exact bW.mp this
  rw[m z (aK _ c),m y (aP ..)]
 ·intro h
  have:∀l:List Str,(∀z∈l,z=y)->l.foldl nH [y]=[y]:=λl=>by
   induction l with
   |nil=>exactλ_=>rfl
   |cons a l i=>
    intro d;rw[nA,d a (aP ..)];have e:nH [y] y=[y]:=by unfold nH;rw[b8 (bW.mpr Fx)]
    rw[e];exact i λz c=>d z (aK _ c)
  show(b.foldl nH (nH [] y)).length=1;have e:nH [] y=[y]:=by unfold nH;rw[a9 Fv];rfl
  rw[e,this b h];rfl
def AK{fs}(F:eO fs an){j:Nat}{f:Str×List Str}{v:Str}(d:fs[j]?=some f)(t:v∈f.2)(n:fE fs (.tuple c)=true):iY fs "is" f.1 v "no" c=(if c[j]?=some (.str v)then("yes":Str)else "no")/\xO c (jx fs f.1) (eA fs "is" f.1 v "no")=decide (c[j]?=some (.str v))/\GG fs (.tuple [.str "is",.str f.1,.str v])=true:=by
 have k:=aR d
 have o:GG fs (.tuple [.str "is",.str f.1,.str v])=true:=BU k (by
  show(decide (v∈f.2)&&(decide (("is":Str)="is")||_))=true;rw[a8 t];rfl)
 obtain⟨s,i⟩:=jA n;have l:j<c.length:=by rw[s];exact(aC.mp d).1
 have b:c[j]?=some c[j]:=aD l;have hok:=i j f _ d b
 have m:iY fs "is" f.1 v "no" c=(if c[j]?=some (.str v)then("yes":Str)else "no"):=by
  rw[tL F d b Fx,b]
  generalize c[j]=x at hok
  cases x with
  |none=>rw[a9 (by intro z;cases z)];rfl
  |str z=>
   have r:pJ f "is" v "no" (.str z)=if z=v then("yes":Str)else "no":=by
    unfold pJ;dsimp only;rw[b8 rfl]
   rw[r];by_cases e:z=v
   ·rw[b8 e,b8 (by rw[e])]
   ·rw[a9 e,a9 (by intro q;injection q with q;injection q with q;exact e q)]
  |_=>cases hok
 refine⟨m,?_,o⟩;have a:=xY F o (.inr Fx) n;rw[m]at a;have p:¬("no":Str)="yes":=by decide +kernel
 by_cases h:c[j]?=some (.str v)
 ·rw[b8 h]at a;rw[a8 h]
  cases g:xO c (jx fs f.1) (eA fs "is" f.1 v "no")with
  |true=>rfl
  |false=>rw[g,a9 Ft]at a;exact c8 a.symm p
 ·rw[a9 h]at a;rw[c6 h]
  cases g:xO c (jx fs f.1) (eA fs "is" f.1 v "no")with
  |false=>rfl
  |true=>rw[g,b8 rfl]at a;exact c8 a p
theorem B3{b:Type}(p:b->Bool):∀l:List b,(l.filter p).length+(l.filter λx=>!p x).length=l.length
|[]=>rfl
|a::l=>by
 have:=B3 p l;rw[fG,fG,bX];cases p a<;>simp<;>lia
def BA(ans:List D->Str)(c:List D):List D×Str:=(c,ans c)
def wS(l:List (List D))(ans:List D->Str):nO l ans=(l.map (BA ans)).map jQ:=by unfold nO;rw[bL];rfl
def N2(l:List (List D))(ans:List D->Str)(p:List D->Bool):((l.map (BA ans)).filter λr=>p r.1)=(l.filter p).map (BA ans):=by
 rw[kL];rfl
def G4(c:List D)(l:List (List D))(ans:List D->Str):L2.atI (nO (c::l) ans) 0=some (jQ (c,ans c)):=L2.eB (xs:=nO (c::l) ans) (j:=0) Fx
theorem vU{fs}:∀(t:Tr){L},kK fs an t->∀{r},r∈cK fs t L->r.2∈an
|.say a,L,ht,r,hr=>by
 have hr':r∈(if fB L then[]else[(L,a)]):=hr;split at hr'
 ·simp at hr'
 ·rw[bW.mp hr'];exact ht
|.ask k n v s y m,L,ht,r,hr=>by
 have hr':r∈(if fB L then[]else cK fs y (fK L (jx fs n) (eA fs k n v s))++cK fs m (fK L (jx fs n) λx=>!eA fs k n v s x)):=hr;split at hr'
 ·simp at hr'
 ·rcases cR.mp hr' with hr' | hr'
  ·exact vU y ht.2.2.1 hr'
  ·exact vU m ht.2.2.2 hr'
def uZ(fs:List (Str×List Str)):Tr->List D->List D
|.say _,_=>[]
|.ask k n v s y m,c=>.tuple [.tuple [.str k,.str n,.str v],.str (iY fs k n v s c)]::(if xO c (jx fs n) (eA fs k n v s)then uZ fs y c else uZ fs m c)
section
variable{fs:List (Str×List Str)}{an:List Str}
def BF{L:List (List D)}{j:Nat}(b:j<L.length)(g:D->Bool):(cO (fK L j g)).length+(cO (fK L j λx=>!g x)).length=(cO L).length:=by
 rw[<- tX,<- tX,<- B3 (λc=>xO c j g) (cO L)];congr 2;apply jE;intro c a;exact AY (by rw[(oZ ((gH L c).mp a)).1];exact b)
theorem nY:∀(t:Tr){L},kK fs an t->eO fs an->cW fs L->(cK fs t L).length<=(cO L).length
|.say a,L,_,_,_=>by
 show(if fB L then[]else[(L,a)]:List (List (List D)×Str)).length<=_
 cases b:fB L with
 |true=>exact dE _
 |false=>
  have:cO L≠[]:=λz=>by rw[(wV L).mp z]at b;cases b
  rw[a9 Ft];exact wI.mpr this
|.ask k n v s y m,L,ht,F,hL=>by
 obtain⟨f,c,_⟩:=BS F ht.1;have d:jx fs n<L.length:=by rw[hL.1];exact(aC.mp c).1
 have e:=nY y ht.2.2.1 F (hL.filt (jx fs n) (eA fs k n v s));have g:=nY m ht.2.2.2 F (hL.filt (jx fs n) λx=>!eA fs k n v s x);have h:=BF d (eA fs k n v s);show(if fB L then[]else cK fs y (fK L (jx fs n) (eA fs k n v s))++cK fs m (fK L (jx fs n) λx=>!eA fs k n v s x)).length<=_;split
 ·exact dE _
 ·rw[aV];lia
theorem xG(F:eO fs an):∀(t:Tr){L},kK fs an t->cW fs L->∀{r},r∈cK fs t L->∀{c c'},fX r.1 c=true->fX r.1 c'=true->uZ fs t c=uZ fs t c'/\iH fs t c=r.2
|.say a,L,_,_,r,hr,c,c',_,_=>by
 have hr':r∈(if fB L then[]else[(L,a)]):=hr;split at hr'
 ·simp at hr'
 ·rw[bW.mp hr'];exact⟨Fx,Fx⟩
|.ask k n v s y m,L,ht,hL,r,hr,c,c',hc,u8=>by
 have hr':r∈(if fB L then[]else cK fs y (fK L (jx fs n) (eA fs k n v s))++cK fs m (fK L (jx fs n) λx=>!eA fs k n v s x)):=hr
 have e:∀{c:List D},fX r.1 c=true->fX L c=true/\fE fs (.tuple c)=true:=λ{c} h=>by
  have l:=(jL (.ask k n v s y m) hL r hr).2.2 c h;exact⟨l,lZ hL l⟩
 have d:=λ{c:List D} (h:fX r.1 c=true)=>xY F ht.1 ht.2.1 (e h).2
 have g:∀{c:List D},fX r.1 c=true->jx fs n<c.length:=λ{c} h=>by
  obtain⟨f,o,_⟩:=BS F ht.1;rw[(jA (e h).2).1];exact(aC.mp o).1
 split at hr'
 ·simp at hr'
 ·rcases cR.mp hr' with hr' | hr'
  ·have b:∀{c:List D},fX r.1 c=true->xO c (jx fs n) (eA fs k n v s)=true:=λ{c} h=>by
    have:=(jL y (hL.filt (jx fs n) (eA fs k n v s)) r hr').2.2 c h;rw[rD,cL]at this;exact this.2
   obtain⟨i,j⟩:=xG F y ht.2.2.1 (hL.filt _ _) hr' hc u8;refine⟨?_,?_⟩
   ·show _::(if xO c (jx fs n) (eA fs k n v s)then uZ fs y c else uZ fs m c)=_::(if xO c' (jx fs n) (eA fs k n v s)then uZ fs y c' else uZ fs m c');rw[d hc,d u8,b hc,b u8,b8 Fx,b8 Fx,b8 Fx,i]
   ·show(if xO c (jx fs n) (eA fs k n v s)then iH fs y c else iH fs m c)=_;rw[b hc,b8 Fx,j]
  ·have b:∀{c:List D},fX r.1 c=true->xO c (jx fs n) (eA fs k n v s)=false:=λ{c} h=>by
    have:=(jL m (hL.filt (jx fs n) λx=>!eA fs k n v s x) r hr').2.2 c h;rw[rD,cL,AY (g h)]at this;simpa using this.2
   obtain⟨i,j⟩:=xG F m ht.2.2.2 (hL.filt _ _) hr' hc u8;refine⟨?_,?_⟩
   ·show _::(if xO c (jx fs n) (eA fs k n v s)then uZ fs y c else uZ fs m c)=_::(if xO c' (jx fs n) (eA fs k n v s)then uZ fs y c' else uZ fs m c');rw[d hc,d u8,b hc,b u8,a9 Ft,a9 Ft,a9 Ft,i]
   ·show(if xO c (jx fs n) (eA fs k n v s)then iH fs y c else iH fs m c)=_;rw[b hc,a9 Ft,j]
end
abbrev UU:=List (List D)×Str×Str
def iP(fs:List (Str×List Str))(one a:Tr)(L:List (List D)):List UU:=(cK fs one L).flatMap λr=>(cK fs a r.1).map λq=>(q.1,r.2,q.2)
noncomputable def zI(p:UU):D:=.tuple [lF p.1,.str p.2.1,.str p.2.2]
section
variable{fs:List (Str×List Str)}{an:List Str}{one d:Tr}
def wX(F:eO fs an)(v:kK fs an one)(w:kK fs an d)(i:cW fs L){p:UU}(g:p∈iP fs one d L):cW fs p.1/\fB p.1=false/\∀{c a},fX p.1 c=true->fX p.1 a=true->uZ fs one c=uZ fs one a/\uZ fs d c=uZ fs d a/\iH fs one c=p.2.1/\iH fs d c=p.2.2/\fX L c=true:=by
 obtain⟨r,k,g⟩:=oP.mp g;obtain⟨q,j,rfl⟩:=aU.mp g;obtain⟨h,a2,l⟩:=jL one i r k;obtain⟨m,n,e⟩:=jL d h q j;refine⟨m,n,λ{c a} f b=>?_⟩;obtain⟨o,s⟩:=xG F one v i k (e c f) (e a b);obtain⟨t,u⟩:=xG F d w h j f b;exact⟨o,t,s,u,l c (e c f)⟩
theorem CG{b c:Type}(f:b->List c)(p:c->Bool):∀l:List b,((l.flatMap f).map p).count true=(l.map λa=>((f a).map p).count true).sum
|[]=>rfl
|a::l=>by rw[eV,bK,zU,aZ,eR,CG f p l]
theorem DN:∀bs:List Bool,(bs.map λb=>if b then 1 else 0).sum=bs.count true
|[]=>rfl
|b::bs=>by
 rw[aZ,eR,DN bs,X6];cases b<;>simp<;>lia
def HD(F:eO fs an)(h:kK fs an one)(i:kK fs an d)(f:cW fs L)(j:fX L c=true):((iP fs one d L).map λp=>fX p.1 c).count true=1:=by
 unfold iP;rw[CG]
 have e:((cK fs one L).map λr=>((((cK fs d r.1).map λq=>((q.1,r.2,q.2):UU)).map λp=>fX p.1 c).count true))=((cK fs one L).map λr=>fX r.1 c).map λb=>if b then 1 else 0:=by
  rw[bL];apply iI;intro r k;rw[bL];have a:=(jL one f r k).1;show((cK fs d r.1).map λq=>fX q.1 c).count true=if fX r.1 c=true then 1 else 0
  cases g:fX r.1 c with
  |true=>rw[b8 rfl];exact(tO d i a g).1
  |false=>
   rw[tR d a g,a9 Ft,NG]
   rfl
 rw[e,DN];exact(tO one h f j).1
def PB{b:Type}{p:b->Bool}{l:List b}(h:(l.map p).count true=1):∃a∈l,p a=true:=by
 have:true∈l.map p:=QE.mp Fu;obtain⟨a,c,e⟩:=aU.mp this;exact⟨a,c,e⟩
end
theorem vS{fs}(F:eO fs an):∀(t:Tr){L},kK fs an t->cW fs L->((cK fs t L).map λr=>(cO r.1).length).sum<=(cO L).length
|.say a,L,_,_=>by
 show((if fB L then[]else[(L,a)]:List (List (List D)×Str)).map λr=>(cO r.1).length).sum<=_;split
 ·exact dE _
 ·show(cO L).length+0<=_;lia
|.ask k n v s y m,L,ht,hL=>by
 obtain⟨f,b,_⟩:=BS F ht.1;have c:jx fs n<L.length:=by rw[hL.1];exact(aC.mp b).1
 have d:=vS F y ht.2.2.1 (hL.filt (jx fs n) (eA fs k n v s));have e:=vS F m ht.2.2.2 (hL.filt (jx fs n) λx=>!eA fs k n v s x);have g:=BF c (eA fs k n v s);show((if fB L then[]else cK fs y (fK L (jx fs n) (eA fs k n v s))++cK fs m (fK L (jx fs n) λx=>!eA fs k n v s x)).map λr=>(cO r.1).length).sum<=_;split
 ·exact dE _
 ·rw[bK,X5];lia
def wY{fs}(F:eO fs an){one}(c:kK fs an one)(d:kK fs an other)(a:cW fs L):(iP fs one other L).length<=(cO L).length:=by
 refine bP ?_ (vS F one c a);unfold iP;rw[List.length_flatMap];have hok:=λr e=>(jL one a r e).1
 generalize cK fs one L=b at hok
 induction b with
 |nil=>exact aM _
 |cons r b g=>
  rw[aZ,aZ,eR,eR,aB];exact aCu (nY (an:=an) other d F (hok r (aP ..))) (g λx f=>hok x (aK _ f))
noncomputable def ZD(x:D):D:=match x with | .tuple (y::_)=>y | _=>.none
noncomputable def FR(L:List (List D)):List D:=(L.map aW).map ZD
theorem B2:∀{L},fB L=false->fX L (FR L)=true
|[],_=>rfl
|e::L,h=>by
 have a:(e.isEmpty||fB L)=false:=h;rw[mD]at a
 cases e with
 |nil=>cases a.1
 |cons x e=>
  show(decide (x∈x::e)&&fX L (FR L))=true;rw[B2 a.2,a8 (aP ..)];rfl
def xE{fs}(F:eO fs an)(b:cW fs L):(cO L).length<=7776:=by
 have g:=G7 L 6 λe f=>by
  obtain⟨j,c⟩:=bU f;have a:j<fs.length:=by rw[<- b.1];exact(aC.mp c).1
  obtain⟨p,rfl⟩:=b.2 j _ e (aD a) c;have d:=cI p (bZ fs[j]);have h:=(F.vs _ (dL a)).2.1;have i:=oM fs[j];lia
 have d:6^L.length<=6^5:=kO Ft (by rw[b.1];exact F.n5);lia
noncomputable def wid(L:List (List D)):Nat:=(L.map λe=>e.length-1).sum
def tK(dd:Nat):GH:=λa Q=>∃(fs:List (Str×List Str))(an:List Str)(t:Tr)(L:List (List D)),a=[dO fs an,jU t,lF L]/\eO fs an/\kK fs an t/\cW fs L/\fB L=false/\t.dep<dd/\(cO L).length<=7776/\Q ((cK fs t L).map cC)
def Uo:GH:=tK 30
def SM{Q:List D->Prop}(h:tK 0 ds Q):False:=by
 obtain⟨_,_,_,_,_,_,_,_,_,h,_⟩:=h;lia
def Ul:GH:=λa Q=>∃(fs:List (Str×List Str))(an:List Str)(t:Tr),a=[dO fs an,jU t]/\eO fs an/\kK fs an t/\t.dep<=29/\(cK fs t (fs.map bZ)).length<=60/\Q ((cK fs t (fs.map bZ)).map cC)
def Vn:lG:=λb Q=>∃(fs:List (Str×List Str))(an:List Str)(one a:Tr),b=[dO fs an,jU one,jU a]/\eO fs an/\kK fs an one/\kK fs an a/\one.dep<=29/\a.dep<=29/\Q (.list ((iP fs one a (fs.map bZ)).map zI))
noncomputable def VJ(c:List D):D:=.tuple [.str "unlike",.tuple c]
def F7(fs:List (Str×List Str))(one a:Tr):D:=.tuple [.str "alike",.list ((iP fs one a (fs.map bZ)).map λp=>lF p.1)]
def Vm:lG:=λb Q=>∃(fs:List (Str×List Str))(an:List Str)(one a:Tr),b=[dO fs an,jU one,jU a]/\eO fs an/\kK fs an one/\kK fs an a/\one.dep<=29/\a.dep<=29/\(iP fs one a (fs.map bZ)).length<=2000 /\
 (∀c,c∈cO (fs.map bZ)->iH fs one c≠iH fs a c->Q (VJ c)) /\
 ((∀c,c∈cO (fs.map bZ)->iH fs one c=iH fs a c)->Q (F7 fs one a))
def yF(e:List D)(L:List (List D)):(cO (e::L)).length=e.length*(cO L).length:=by
 show(e.flatMap λx=>(cO L).map (x::·)).length=e.length*(cO L).length
 induction e with
 |nil=>simp
 |cons x e a=>rw[eV,aV,aB,a,bX,rL,wG,Nat.add_comm]
theorem yE:∀(L:List (List D)),(∀e∈L,e≠[])->∀i,(cO (L.take i)).length<=(cO L).length
|[],_,i=>by rw[GJ];exact aM _
|e::L,h,0=>by
 have a:=yE L (λx b=>h x (aK _ b)) 0;have c:0<e.length:=wI.mpr (h e (aP ..));rw[yF];rw[ZS]at a |-
 exact bP a (Nat.le_mul_of_pos_left _ c)
|e::L,h,i+1=>by
 have a:=yE L (λx b=>h x (aK _ b)) i;rw[List.take_succ_cons,yF,yF];exact gA (aM _) a
theorem A9{g:D->Bool}:∀{L:List (List D)}{j:Nat}{e:List D},L[j]?=some e->L.set j (e.filter g)=fK L j g
|_::_,0,_,h=>by cases h;rfl
|x::L,j+1,e,h=>by
 show x::L.set j _=x::fK L j g;rw[A9 (L:=L) h]
def tF(d:Nat):lG:=λa Q=>∃(fs:Fs)(an:List Str)(n:Nat),a=[dO fs an,.dict [],.int n]/\eO fs an/\n<d/\∀t,kK fs an t->t.dep<=n->Q (jU t)
def Ux:lG:=tF 5
def SH{Q:D->Prop}(h:tF 0 ds Q):False:=by
 obtain⟨_,_,_,_,_,h,_⟩:=h;lia
def UN(b:Bool):L2.atI [aO "no",.str "yes"] (if b then 1 else 0)=some (.str (if b then "yes" else "no")):=by cases b<;>rfl
def Uz:lG:=λb Q=>∃(fs:Fs)(an:List Str)(t:Tr)(a:List D),b=[dO fs an,jU t,.tuple a]/\eO fs an/\kK fs an t/\fE fs (.tuple a)=true/\Q (.str (iH fs t a))
def Va:lG:=λb Q=>∃(fs:Fs)(an:List Str),b=[dO fs an]/\UX fs an/\∀a,eO a an->rC a->Q (dO a an)
def Vb:lG:=λa Q=>∃(fs:Fs)(an:List Str),a=[dO fs an]/\eO fs an/\rC fs/\Q (hV (cO (fs.map bZ)))
def Vc:lG:=λa Q=>∃(fs:Fs)(an:List Str)(L:List (List D))(c:List D),a=[lF L,.tuple c]/\eO fs an/\uG fs L/\fE fs (.tuple c)=true/\Q (.bool (fX L c))
def Vd:lG:=λb Q=>∃(fs:Fs)(an:List Str)(a:List Rl)(c:List D),b=[.list (a.map cC),.tuple c]/\eO fs an/\(∀r∈a,uG fs r.1)/\fE fs (.tuple c)=true/\Q (vA (pP a c))
def Ve:lG:=λa Q=>∃(r:Rl)(j:Nat)(e:List D)(x:D),a=[cC r,.int (j:Int),x]/\r.1.length<=5/\r.1[j]?=some e/\e.length<=6/\Q (cC (r.1.set j (e++[x]),r.2))
def Vg:lG:=λa Q=>∃(fs:Fs)(an:List Str)(r f:Rl),a=[cC r,lF f.1,.str f.2]/\eO fs an/\cW fs r.1/\cW fs f.1/\∀b:Bool,(b=true↔qM r f)->Q (.bool b)
def Vf:lG:=λc Q=>∃(fs:Fs)(an:List Str)(a b:List Rl),c=[.list (a.map cC),.list (b.map cC)]/\eO fs an/\(∀r∈a,cW fs r.1)/\(∀r∈b,cW fs r.1)/\a.length<=20/\GB a b/\Q (.bool true)
def Vh:lG:=λc Q=>∃(fs:Fs)(an:List Str)(a b:List Rl)(k:Nat)(u:Rl),c=[dO fs an,.list (b.map cC),.int (k:Int),A8 fs (cO (fs.map bZ)) (iL a) b k u]/\eO fs an/\rC fs/\(∀r∈a,cW fs r.1/\r.2∈an)/\uI fs a/\sI fs an (cO (fs.map bZ)) (iL a) a b/\b.length<=20/\b[k]?=some u/\Q (.bool true)
def Vi:lG:=λb Q=>∃(fs:Fs)(an:List Str)(one a:Tr),b=[dO fs an,jU one,jU a,.list ((iP fs one a (fs.map bZ)).map λp=>lF p.1),hV (cO (fs.map bZ))]/\eO fs an/\rC fs/\kK fs an one/\kK fs an a/\(∀c∈cO (fs.map bZ),iH fs one c=iH fs a c)/\Q (.bool true)
def A6:lG:=λa Q=>∃ns:List Int,a=[.list (ns.map bN)]/\ns.length<=63/\Q (.bool true)
def OP(fs:Fs):jR fs=(cO (fs.map bZ)).length:=by rw[<- qZ,uD]
def GU{fs:Fs}(F:eO fs an)(i:fs.length<=3)(h:jR fs<=50):rC fs:=by
 refine⟨by rw[<- OP];exact h,?_,Fu⟩
 have hs:∀l:Fs,(∀f∈l,f∈fs)->(l.map λf=>f.2.length).sum<=5*l.length:=λl=>by
  induction l with
  |nil=>exactλ_=>aM _
  |cons f l e=>
   intro g;have a:=e λx d=>g x (aK _ d);have b:=(F.vs f (g f (aP ..))).2.1;show f.2.length+(l.map λf=>f.2.length).sum<=5*(l.length+1);lia
 have:=hs fs λf c=>c;lia
def S4{fs:Fs}(h:∀f∈fs,2<=f.2.length):3^fs.length<=jR fs:=by
 have b:∀(l:Fs)(a:Nat),(∀f∈l,2<=f.2.length)->a*3^l.length<=l.foldl (λa f=>a*(f.2.length+1)) a:=λl=>by
  induction l with
  |nil=>exactλa _=>mN (aKh a)
  |cons f l d=>
   intro a g;refine bP ?_ (d (a*(f.2.length+1)) λx c=>g x (aK _ c));have:=g f (aP ..);rw[bX,uJ,aJ0 (3^l.length) 3,<- Nat.mul_assoc];exact gA (gA (aM _) Fu) (aM _)
 have:=b fs 1 h;rw[wG]at this;exact this
theorem NA:∀(L:List (List D))(c:List D),c.length=L.length->fX L c=(eW c.length).all λi=>match c[i]?,L[i]? with | some x,some e=>decide (x∈e) | _,_=>false
|[],[],_=>rfl
|e::L,x::c,h=>by
 rw[bX,JK,List.all_cons,zV];have a:=NA L c (by simpa using h);show(decide (x∈e)&&fX L c)=(decide (x∈e)&&_);rw[a];rfl
theorem yN:∀bs:List Bool,dW (bs.map kG)=true
|[]=>rfl
|b::bs=>yN bs
theorem BY:∀bs:List Bool,AS (.bool false) (.list (bs.map kG))=!bs.all id
|[]=>rfl
|b::bs=>by
 have a:=BY bs;show(cE (.bool b) (.bool false)||AS (.bool false) (.list (bs.map kG)))=!(b&&bs.all id);rw[a];cases b<;>simp[cE]
def Wa{Q:D->Prop}{bs:List Bool}(h:Q (.bool (bs.all id))):ZH tQ (λx y=>!AS x y) (.bool false) (.list (bs.map kG)) Q:=by
 have e:(!AS (.bool false) (.list (bs.map kG)))=bs.all id:=by rw[BY,Bool.not_not]
 refine⟨⟨yN bs,Fx,bP (CN _ _) Ft⟩,?_⟩;show Q (.bool (!AS _ _));rw[e];exact h
def IF{a:Type}{p:a->Bool}{l:List a}(h:(l.map p).count true=1):(l.filter p).length=1:=by
 rw[<- h,List.count_eq_countP,uL,List.countP_eq_length_filter];congr 1;exact jE λx _=>(beq_true (p x)).symm
def Gz(L:List (List D))(c:List D):D->D
|.int i=>.bool (match c[i.toNat]?,L[i.toNat]? with | some x,some e=>decide (x∈e) | _,_=>false)
|d=>d
def Wu{i:Nat}{e}(a:c[i]?=some x)(b:L[i]?=some e):Gz L c (.int (i:Nat))=.bool (decide (x∈e)):=by
 unfold Gz;dsimp only;rw[iJ,a,b]
def W8(L:List (List D))(c:List D):(fF c.length).map (Gz L c)=((eW c.length).map λi=>match c[i]?,L[i]? with | some x,some e=>decide (x∈e) | _,_=>false).map kG:=by
 unfold fF;rw[bL,bL];exact iI λi _=>rfl
noncomputable def Jp:D->D
|.tuple (a::b::_)=>.tuple [a,b]
|d=>d
theorem MZ{n:Nat}:∀{l},(∀x∈l,x.depth<=n)->dR l<=n
|[],_=>dE _
|a::l,h=>by
 show max a.depth (dR l)<=n;have:=MZ λx b=>h x (aK _ b);have:=h a (aP ..);lia
theorem MK:∀{l},(∀x∈l,x.canLay0=true)->dW l=true
|[],_=>rfl
|a::l,h=>by
 show(a.canLay0&&dW l)=true;rw[h a (aP ..),MK λx b=>h x (aK _ b)];rfl
def AM(c:List D):D->Bool
|.tuple l=>fX (ZW l) c
|_=>false
def wW(c:List D)(L:List (List D)):AM c (lF L)=fX L c:=by
 show fX (ZW (L.map aW)) c=_;rw[ES]
def We(L:List (List D)):D->Bool
|.tuple c=>fX L c
|_=>false
def Q6(fs:Fs)(t:Tr):D->D
|.tuple c=>.str (iH fs t c)
|d=>d
set_option maxHeartbeats 4000000
open PySem L2 TL
local macro_rules | `(tactic| walk_at "rd")=>`(tactic| simp only[PQ,LG,fR,JZ,V9,WC,Q8,yB,Gg,V6,jP,CC,eC,D7,Js,K1,Jr,lA,Gp,HM,HL,Jq,Ld,Xd,IK,wC,nS,xN,Jn,Jm,Jh,gP,fI,Jf,Jg,XJ,Hx,Hm,Hl,Gb,Wl,Go,Gm,Lb,Wm,f1,f2,Hz,vV,ZE,XB,Ml,OK,Oy,ZF,Pa,pI,aZ,mF,bX,iM,sQ,List.nil_append,qG,jD,hZ,List.set_cons_zero,List.set_cons_succ,l8,Sl.val.injEq,Sl.own.injEq,exists_eq_left',exists_eq_left,bN.injEq,kG.injEq,aO.injEq,aW.injEq,AH.injEq,and_true,true_and,eH,t6,i5,xV,Bool.not_false,↓reduceIte,Nat.reduceAdd,Nat.reduceSub,Nat.reduceLeDiff,Int.reduceNeg,reduceCtorEq])
def Me:bT ["field"] ["field"] (bF (top 9)):=kY
def Mc:bT ["form","many","field"] ["form"] (bF (top 7)):=kY
def Mf:bT ["beginnings","entries","longer","beginning","entry"] ["beginnings","entries"] (bF (top 10)):=kY
def Md:bT ["form","cases","field"] ["form"] (bF (top 8)):=kY
def Re:bT ["question","field"] ["question","field"] (bF (top 21)):=kY
def Nh:bT ["form","question"] ["form","question"] (bF (top 19)):=kY
def Ps:bT ["question","stray","field"] ["question","stray","field"] (bF (top 20)):=kY
def Ng:bT ["form","question","stray","case","number"] ["form","question","stray","case"] (bF (top 18)):=kY
def Rg:bT ["side","sides"] ["side","sides"] (bF (top 23)):=kY
def Rf:bT ["form","question","stray","rows","sides"] ["form","question","stray","rows"] (bF (top 22)):=kY
def Qt:bT ["form","rows","told"] ["form","rows"] (bF (top 54)):=kY
def Qu:bT ["form","rows","counts"] ["form","rows"] (bF (top 55)):=kY
def Qx:bT ["one","other","rest"] ["one","other"] (bF (top 58)):=kY
def Qw:bT ["top","bottom","shared"] ["top","bottom"] (bF (top 57)):=kY
def Qv:bT ["form","rows","many"] ["form","rows"] (bF (top 56)):=kY
def Ra:bT ["rows","numbers"] ["rows","numbers"] (bF (top 64)):=kY
def Nd:bT ["field","name","values","told_by_is","told_by_upto"] ["field"] (bF (top 16)):=kY
def Mh:bT ["form","questions","field"] ["form"] (bF (top 15)):=kY
def Nf:bT ["form","choices","question"] ["form"] (bF (top 17)):=kY
def Rh:bT ["sides","fewest"] ["sides","fewest"] (bF (top 24)):=kY
def Qy:bT ["one","other"] ["one","other"] (bF (top 59)):=kY
def QD:bT ["fractions","common","found"] ["fractions"] (bF (top 61)):=kY
def YB:bT ["form","rows","least","told","question","stray","sides","doubts","bottom"] ["form","rows","least"] (bF (top 63)):=kY
def Qz:bT ["one","other"] ["one","other"] (bF (top 60)):=kY
def Rb:bT ["form","rows","least","told"] ["form","rows","least"] (bF (top 65)):=kY
def Rc:bT ["form","rows","deep","least","found","sides","parts"] ["form","rows","deep","least"] (bF (top 66)):=kY
def Ri:bT ["tree"] ["tree"] (bF (top 28)):=kY
def Mg:bT ["kind","field"] ["kind","field"] (bF (top 14)):=kY
def Tc:bT ["words","number","right"] ["words","number","right"] (bF (top 81)):=kY
def Ta:bT ["form","words","start","names","name","kind","value"] ["form","words","start"] (bF (top 80)):=kY
def Sz:bT ["form","text","words","found"] ["form","text"] (bF (top 78)):=kY
def Sy:bT ["tree","question","words"] ["tree"] (bF (top 77)):=kY
def SZ:bT ["form","words","start","within","knots","question","stray","yes","no"] ["form","words","start","within","knots"] (bF (top 79)):=kY
def Rj:bT ["form","rule","case"] ["form","rule","case"] (bF (top 31)):=kY
def Rk:bT ["form","rules","case","rule"] ["form","rules","case"] (bF (top 32)):=kY
def Qm:bT ["form","rule","cases","case"] ["form","rule","cases"] (bF (top 47)):=kY
def Qi:bT ["form","rule","cases"] ["form","rule","cases"] (bF (top 43)):=kY
def Qh:bT ["rule","cases","answers"] ["rule","cases","answers"] (bF (top 42)):=kY
def Qk:bT ["form","rule","told","number","field"] ["form","rule"] (bF (top 45)):=kY
def Ql:bT ["form","rule","number","entry","let","more"] ["form","rule","number","entry"] (bF (top 46)):=kY
def Qq:bT ["rules","number"] ["rules","number"] (bF (top 50)):=kY
def Qs:bT ["form","rule","against"] ["form","rule","against"] (bF (top 52)):=kY
def Qe:bT ["lets","number","let"] ["lets","number","let"] (bF (top 37)):=kY
def Qj:bT ["form","rule","against","told","number","entry","wide"] ["form","rule","against"] (bF (top 44)):=kY
def Qp:bT ["form","rules","number","answers","others","case"] ["form","rules","number","answers"] (bF (top 49)):=kY
def Qo:bT ["form","rules","answers","told","number"] ["form","rules","answers"] (bF (top 48)):=kY
def Qg:bT ["form","rules","answers","told","left","rule","wide"] ["form","rules","answers"] (bF (top 41)):=kY
def Qr:bT ["form","rules","answers","shows","left","number","rule","more"] ["form","rules","answers"] (bF (top 51)):=kY
def Rm:bT ["form","rules","most","answers","case"] ["form","rules","most"] (bF (top 33)):=kY
def Qf:bT ["form","rules","answers","found"] ["form","rules"] (bF (top 40)):=kY
def Ro:bT ["form"] ["form"] (bF (top 35)):=kY
def Qd:bT ["form","tree","lets","number","held","yes","no","rules","let","part"] ["form","tree","lets"] (bF (top 36)):=kY
def Rn:bT ["form","tree","rules"] ["form","tree"] (bF (top 34)):=kY
def Sx:bT ["form","one","other","pairs","lets","answer"] ["form","one","other"] (bF (top 75)):=kY
def Sw:bT ["form","one","other","pairs","lets","answer","found"] ["form","one","other"] (bF (top 74)):=kY
def Sv:bT ["form","rows","case","number"] ["form","rows"] (bF (top 71)):=kY
def Su:bT ["form","rows","question","sides","yes","no"] ["form","rows"] (bF (top 70)):=kY
def Ss:bT ["form","rules","answers"] ["form","rules"] (bF (top 69)):=kY
def Rp:bT ["_law_cell","_law_k","_law_turn"] ["_law_cell","_law_k"] (bF (top 83)):=kY
def Rq:bT ["_law_script","_law_k","_law_seed"] ["_law_script","_law_k"] (bF (top 84)):=kY
def Rr:bT ["_law_cell","_law_many","_law_found","_law_left","_law_k"] ["_law_cell","_law_many"] (bF (top 85)):=kY
def Rs:bT ["_law_drawn_here","_law_at","_law_many","_law_letters","_law_word","_law_turn","_law_names_here","_law_place","_law_k","_law_sign"] ["_law_drawn_here","_law_at","_law_many"] (bF (top 86)):=kY
def Rt:bT ["_law_script","_law_drawn_here","_law_names_here","_law_fields","_law_k","_law_bits"] ["_law_script"] (bF (top 87)):=kY
def Ru:bT ["_law_form_here","_law_bits","_law_case_here","_law_k","_law_values"] ["_law_form_here","_law_bits"] (bF (top 88)):=kY
def Rv:bT ["_law_form_here","_law_bits","_law_case_here","_law_number","_law_k"] ["_law_form_here","_law_bits"] (bF (top 89)):=kY
def Sb:bT ["_law_form_here","_law_question","_law_stray","_law_case_here","_law_kind","_law_name","_law_value","_law_k","_law_values"] ["_law_form_here","_law_question","_law_stray","_law_case_here"] (bF (top 94)):=kY
def Rx:bT ["_law_script","_law_form_here","_law_many"] ["_law_script","_law_form_here","_law_many"] (bF (top 90)):=kY
def Ry:bT ["_law_numbers"] ["_law_numbers"] (bF (top 91)):=kY
def Rz:bT ["_law_form_here","_law_number","_law_name","_law_values","_law_kind"] ["_law_form_here","_law_number"] (bF (top 92)):=kY
def Sa:bT ["_law_form_here","_law_numbers","_law_deep","_law_number","_law_question","_law_yes"] ["_law_form_here","_law_numbers","_law_deep"] (bF (top 93)):=kY
def Sc:bT ["_law_form_here","_law_tree_here","_law_case_here"] ["_law_form_here","_law_tree_here","_law_case_here"] (bF (top 95)):=kY
def Sd:bT ["_law_form_here","_law_many","_law_field"] ["_law_form_here"] (bF (top 96)):=kY
def Se:bT ["_law_form_here","_law_found","_law_name","_law_values","_law_longer","_law_case_here"] ["_law_form_here"] (bF (top 97)):=kY
def Sf:bT ["_law_lets","_law_case_here"] ["_law_lets","_law_case_here"] (bF (top 98)):=kY
def Sg:bT ["_law_rules","_law_case_here","_law_lets","_law_answer"] ["_law_rules","_law_case_here"] (bF (top 99)):=kY
def Sh:bT ["_law_rule","_law_k","_law_value"] ["_law_rule","_law_k","_law_value"] (bF (top 100)):=kY
def Sj:bT ["_law_rule","_law_lets","_law_answer","_law_k"] ["_law_rule","_law_lets","_law_answer"] (bF (top 102)):=kY
def Si:bT ["_law_rules","_law_few","_law_at","_law_lets","_law_answer"] ["_law_rules","_law_few"] (bF (top 101)):=kY
def Sk:bT ["_law_form_here","_law_few","_law_at","_law_show","_law_case_here","_law_more","_law_rule","_law_due","_law_k","_law_value","_law_other","_law_bent"] ["_law_form_here","_law_few","_law_at","_law_show"] (bF (top 103)):=kY
def Sm:bT ["_law_form_here","_law_tree_here","_law_back","_law_pieces","_law_cases_here","_law_case_here","_law_piece","_law_some","_law_said_here"] ["_law_form_here","_law_tree_here","_law_back","_law_pieces","_law_cases_here"] (bF (top 104)):=kY
def XP:bT ["_law_script","_law_form_here","_law_bits","_law_rows_here","_law_tree_here","_law_cases_here","_law_text_tree","_law_rules","_law_few","_law_shows","_law_back","_law_told","_law_case_here","_law_said_here","_law_others","_law_at"] ["_law_script"] (bF (top 105)):=kY
section
variable{P:cH}{w:d7}{K:aQ}{mg:Str->Option Value}{base:Heap}{vo vp vq vr vw vx vy vz wa wb jg jh ji jj jk jl jm jo jp jq jr U js jt ju jv jw jy jz ka kb kc kf kg kh ki kj kl km ko kq kr kt ku kw kx la X le Y lf lg lh Z li ft lj lk ll ln lq lr lu lv lw lx lz ma fu md me mf mh mi mj ml mm mo mq mr fc:Addr}{wc wd we wf wg wh wj wk wl wm ms mv mw mx my mz nc ng nh ni nj fv nk nl nn nq nr nu nv nw nz oe og oh oi oj ol om on oo oq ot ou ov im ow ox fw oy fx oz ph pi fy pj fz po pq pr pu py pz qa qb qc qd qe qf gb qg qh qi qj qk ql qm qo qp qq qr N:jH}{t_KINDS t_SIDES:Addr}{C O G M A B I:Tok}(T:Txt K mg vo vp vq vr vw vx vy vz wa wb jg jh ji jj jk jl jm jo jp jq jr U js jt ju jv jw jy jz ka kb kc kf kg kh ki kj kl km ko kq kr kt ku kw kx la X le Y lf lg lh Z li ft lj lk ll ln lq lr lu lv lw lx lz ma fu md me mf mh mi mj ml mm mo mq mr fc wc wd we wf wg wh wj wk wl wm ms mv mw mx my mz nc ng nh ni nj fv nk nl nn nq nr nu nv nw nz oe og oh oi oj ol om on oo oq ot ou ov im ow ox fw oy fx oz ph pi fy pj fz po pq pr pu py pz qa qb qc qd qe qf gb qg qh qi qj qk ql qm qo qp qq qr N t_KINDS t_SIDES C O G M A B I)
include T
def R7:dP P w K mg base gQ 1 vq we ["field"] (cM K Nl):=by
 refine mB T.D_2.F Me λc nd a Q h=>?_;obtain⟨f,rfl,b,h⟩:=h;refine⟨_,(bB (cJ (cN cG fJ (bJ aX cD (aG 0) aN) (eK (aA lU aJ))))),?_⟩;show yB _ _ [.val (iZ f)];refine⟨_,Fx,_,Fx,aI Fx,?_,h⟩;rw[aB];simp only[bX,iM];lia
def Jv:dP P w K mg base gQ 2 vo wc ["form"] (cM K Nj):=by
 refine mB T.D_0.F Mc λj nd n Q h=>?_;obtain⟨fs,an,rfl,F,h⟩:=h;refine⟨_,(aS (ss 1 nd aN)
 (aS (sf (dS (bJ aX cD (aG 0) aN)) (dB (pn 2 nd))
 (bB (ss 1 nd (cN iF oV (aG 1) (cB iK (aA (cd (R7 T) T.D_2 j (aA (aG 2) aJ)) aJ) cZ T.b_len fL)))))
 (bB (cJ (aG 1))))),?_⟩
 show fR _ _ _ [.val (dO fs an),.un,.un];refine cT (.int 1) (λq b=>b) ?_
 refine fD (ts:=fs.map iZ) (λR h=>⟨_,Fx,_,Fx,_,Fx,h⟩)
  (λk m=>∃d:Sl,m=[.val (dO fs an),.val (.int ((jR (fs.take k):Nat):Int)),d]) ⟨_,Fx⟩ (λk x g i c=>?_) λg c=>?_
 ·obtain⟨d,rfl⟩:=c;rw[aF]at i;obtain⟨f,a,rfl⟩:=bM.mp i;have l:=(F.vs f (aR a)).2.1;have el:(f.2.map aO++[qO]).length=f.2.length+1:=by rw[aV,aB];rfl
  refine lM (.int ((jR (fs.take (k+1)):Nat):Int)) (λq b=>⟨_,Fx,_,Fx,f,Fx,l,?_⟩) ⟨_,Fx⟩;refine⟨.inr ⟨Fu,by rw[el];lia⟩,?_⟩;have e:fs.take (k+1)=fs.take k++[f]:=by rw[bS,a];rfl
  rw[e,nX]at b;show q (.int (((jR (fs.take k):Nat):Int)*(((f.2.map aO++[qO]).length:Nat):Int)));rw[el,<- kN];exact b
 ·obtain⟨d,rfl⟩:=c;rw[aB,cU];exact⟨_,Fx,h⟩
def Lu:dP P w K mg base gQ 1 vr wf ["beginnings","entries"] (gX K Nm):=by
 refine T6 T.D_3.F Mf λz nd v Q h=>?_;obtain⟨bs,a,rfl,p,u,y,h⟩:=h;refine⟨_,(aS (so 2 nd aJ)
 (aS (sf (dS (aG 0)) (dB (pn 3 nd))
 (bB (sf (dS (aG 1)) (dB (pn 4 nd))
 (bB (qI (i:=2) (pv 2) (cN cG fJ (aG 3) (eK (aA (aG 4) aJ))) (pb:=λh=>jY (jZ bY eQ eP kT (pv 2) h)))))))
 (bB (pB (pv 2))))),?_⟩
 show fR _ _ _ [.val (.list (bs.map aW)),.val (.tuple a),.un,.un,.un];refine lC [] Ft (λq m=>m) ?_
 refine fD (ts:=bs.map aW) (λR h=>⟨_,Fx,_,Fx,h⟩)
  (λk n=>∃s3 c:Sl,n=[.val (.list (bs.map aW)),.val (.tuple a),.own ((longer (bs.take k) a).map aW),s3,c]) ⟨_,_,Fx⟩ (λk x g l d=>?_) λg d=>?_
 ·obtain⟨s3,c,rfl⟩:=d;rw[aF]at l;obtain⟨b,f,rfl⟩:=bM.mp l;have s:=(aC.mp f).1;have r:=p b (aR f)
  have t:(longer (bs.take k) a).length<=50000:=by
   rw[BR,bD];exact bP (PZ _ Fu) u
  have e:bs.take (k+1)=bs.take k++[b]:=by rw[bS,f];rfl
  have o:longer (bs.take (k+1)) a=longer (bs.take k) a++a.map λx=>b++[x]:=by
   unfold longer;rw[e,bK,P1];show _++[a.map λx=>b++[x]].flatten=_;rw[JL]
  refine XE (ts:=a) (λR h=>⟨_,Fx,_,Fx,h⟩)
   (λj n=>∃c:Sl,n=[.val (.list (bs.map aW)),.val (.tuple a),.own ((longer (bs.take k) a++(a.take j).map λx=>b++[x]).map aW),.val (.tuple b),c]) ⟨c,by rw[ZS,mF,dU];rfl⟩ (λj x g l d=>?_) λg d=>?_
  ·obtain⟨c,rfl⟩:=d;refine xA (ts:=(longer (bs.take k) a++(a.take j).map λx=>b++[x]).map aW) (.tuple (b++[x])) Fx (by rw[aB,aV,aB,bD];lia) (λq m=>⟨_,Fx,_,Fx,aI Fx,?_,m⟩) ⟨.val x,?_⟩
   ·simp only[bX,iM];lia
   ·rw[bS,l];show _=[_,_,Sl.own ((longer (bs.take k) a++(a.take j++[x]).map λx=>b++[x]).map aW),_,_];rw[bK (l₁:=a.take j),<- eF,bK (l₂:=[x].map λx=>b++[x])];rfl
  ·obtain⟨c,rfl⟩:=d;rw[cU,<- o];exact⟨_,_,Fx⟩
 ·obtain⟨s3,c,rfl⟩:=d;rw[aB,cU];exact⟨_,Fx,h⟩
def Ls:dP P w K mg base gQ 3 vp wd ["form"] (gX K Nk):=by
 refine T6 T.D_1.F Md λj nd u Q h=>?_;obtain⟨fs,an,rfl,F,r,h⟩:=h;refine⟨_,(aS (fQ (dN wZ sS (cd (Jv T) T.D_0 j (aA (aG 0) aJ)) (sB Fx T.c_MOST_CASES))
 (bB zD)
 eM)
 (aS (so 1 nd (aA (eK aJ) aJ))
 (aS (sf (dS (bJ aX cD (aG 0) aN)) (dB (pn 2 nd))
 (jW 1 (bB (sF 1 nd (cF (Lu T) T.D_3 j (aA (aG 1) (aA (cd (R7 T) T.D_2 j (aA (aG 2) aJ)) aJ)))))))
 (bB (pB (pv 1)))))),?_⟩
 show fR _ _ _ [.val (dO fs an),.un,.un];refine fY (λb=>b=false) (λq i=>⟨_,Fx,fs,an,Fx,F,i _ (c6 Fu)⟩) (λo=>by cases o) λ_=>?_
 try unfold jP
 dsimp only;refine lC [.tuple []] Ft (λq i=>⟨aI Fx,i⟩) ?_
 refine fD (ts:=fs.map iZ) (λR h=>⟨_,Fx,_,Fx,_,Fx,h⟩)
  (λk t=>∃l:Sl,t=[.val (dO fs an),.own ((F6 (fs.take k)).map aW),l]) ⟨_,Fx⟩ (λk x m n d=>?_) λm d=>?_
 ·obtain⟨l,rfl⟩:=d;rw[aF]at n;obtain⟨f,a,rfl⟩:=bM.mp n;have s:=(F.vs f (aR a)).2.1;have n5:=F.n5;have e:fs.take (k+1)=fs.take k++[f]:=by rw[bS,a];rfl
  have g:jR (fs.take k)<=2000:=bP (KH k) r;refine⟨_,Fx,?_⟩;refine⟨_,Fx,_,Fx,f,Fx,s,F6 (fs.take k),bZ f,Fx,λc p=>?_,?_,?_,?_⟩
  ·have:=(jA (PP _ c p)).1;rw[bD]at this;lia
  ·rw[uD];unfold bZ;rw[aV,aB];exact bP (gA g (show f.2.length+1<=6 by lia)) Ft
  ·unfold bZ;rw[aV,aB];simp only[bX,iM];lia
  ·rw[e,yW];exact⟨_,Fx⟩
 ·obtain⟨l,rfl⟩:=d;rw[aB,cU];exact⟨_,Fx,h⟩
def Ob:dP P w K mg base gQ 1 jh mv ["question","field"] (cM K So):=by
 refine mB T.D_11.F Re λj nd m Q h=>?_;obtain⟨k,n,v,f,rfl,g,l,o,h⟩:=h;refine⟨_,(aS (fQ (dN lD oS (bJ aX cD (aG 0) aN) eI)
 (bB (cJ (eK (aA (bJ aX cD (aG 0) aN) aJ))))
 eM)
 (bB (cJ (gI kI qJ (bJ aX cD (aG 1) aN) jB (gW (cN cG fJ (xJ (bJ aX cD (aG 1) aN) (aA (bJ aX cD (aG 0) aN) aJ) (λh d=>jZ mL mK mJ (xD j) h d)) aN)))))),?_⟩
 show fR _ _ _ [.val (.tuple [.str k,.str n,.str v]),.val (iZ f)];unfold BZ at h;refine fY (λb=>b=decide (k="is")) (λq i=>⟨_,Fx,_,Fx,i _ Fx⟩) (λc=>?_) λa=>?_
 ·rw[b8 (c5 c.symm)]at h;exact⟨_,Fx,_,Fx,aI Fx,h⟩
 ·try unfold jP
  dsimp only;rw[a9 (g4 a.symm)]at h;refine⟨_,Fx,_,Fx,_,Fx,_,Fx,_,Fx,_,Fx,_,Fx,_,_,Fx,qS g l,?_⟩;show Q (.tuple (kD (f.2.map aO) none (some ((f.2.idxOf v:Int)+1))));have e:((f.2.idxOf v:Nat):Int)+1=((f.2.idxOf v+1:Nat):Int):=rfl;rw[e,nJ,mE];exact h
def Jx:dP P w K mg base gQ 1 wb wm ["form","question"] (cM K Mt):=by
 refine mB T.D_9.F Nh λp nd s Q h=>?_;obtain⟨fs,an,k,n,v,i,j,rfl,F,c,a,h⟩:=h;refine⟨_,(bB (cJ (yQ (el (fr:=[none]) (N':=["field"]) (dS (bJ aX cD (aG 0) aN)) (λb=>⟨(dB (pk 0)),gZ,(bJ aX cD (aG 0) aN)⟩)) (aA (bJ aX cD (aG 1) aN) aJ) (λh l=>jZ bY rF rE (yK p) h l)))),?_⟩;have n5:=F.n5;have m:=(aC.mp c).1;have g:(fs.map (·.1)).idxOf n=j:=by rw[<- a];exact FK F c
 have d:n∈fs.map (·.1):=aU.mpr ⟨i,aR c,a⟩;show FW _ _ _ Q;dsimp only[FW];refine iU (ts:=fs.map iZ) (λR h=>⟨_,Fx,_,Fx,_,Fx,h⟩) fst (by rw[aB];lia) (λx q r o=>?_) ?_
 ·obtain⟨f,t,rfl⟩:=aU.mp r;exact⟨_,Fx,_,Fx,o⟩
 ·have e:(fs.map iZ).map fst=(fs.map (·.1)).map aO:=by rw[bL,bL];rfl
  rw[e];have:=qS F.nd.2.1 d;rw[g]at this;exact⟨_,Fx,_,Fx,_,Fx,_,j,Fx,this,Fu,h⟩
def Y6:dP P w K mg base gQ 2 jg ms ["question","stray","field"] (cM K Sn):=by
 refine mB T.D_10.F Ps λd nd i Q h=>?_;obtain⟨k,n,v,st,f,rfl,c,g,a,h⟩:=h;refine⟨_,(bB (cJ (cN cG fJ (cd (Ob T) T.D_11 d (aA (aG 0) (aA (aG 2) aJ))) (D5 (dN lD oS (aG 1) eI) (eK (aA lU aJ)) (eK aJ))))),?_⟩;have b:=TY (k:=k) (v:=v) a;refine⟨_,Fx,_,Fx,k,n,v,f,Fx,c,g,a,_,Fx,?_⟩;unfold oH at h;show(if decide (st="yes")=true then _ else _);by_cases e:st="yes"
 ·rw[b8 (a8 e)];rw[b8 e]at h;exact⟨aI Fx,by rw[aB];show _+1<=_;lia,h⟩
 ·rw[a9 (by simpa using e)];rw[a9 e]at h;exact⟨aI Fx,by rw[aB];show _+0<=_;lia,h⟩
def Lz:dP P w K mg base gQ 3 wa wl ["form","question","stray","case"] (cM K Kg):=by
 refine mB T.D_8.F Ng λt nd R Q h=>?_;obtain⟨fs,an,k,n,v,st,e,rfl,F,s,u,y,h⟩:=h;refine⟨_,(aS (ss 4 nd (cd (Jx T) T.D_9 t (aA (aG 0) (aA (aG 1) aJ))))
 (bB (cJ (D5 (dN (vR t) BK (bJ aX cD (aG 3) (aG 4)) (cd (Y6 T) T.D_10 t (aA (aG 1) (aA (aG 2) (aA (bJ aX cD (bJ aX cD (aG 0) aN) (aG 4)) aJ))))) eI eI)))),?_⟩
 show fR _ _ _ [.val (dO fs an),.val (.tuple [.str k,.str n,.str v]),.val (.str st),.val (.tuple e),.un];obtain⟨H,p⟩:=jA y;obtain⟨d,a,f,i,L⟩:=qB s;obtain⟨j,g⟩:=bU a;have J:=(aC.mp g).1;have b:e[j]?=some e[j]:=aD Fu
 generalize E:e[j]=c at b
 have l:L2.atI e (j:Int)=some c:=L2.eB b;have r:L2.atI (fs.map iZ) (j:Int)=some (iZ d):=L2.eB (by rw[aF,g];rfl);have hok:=p j d c g b;rw[tL F g b f]at h
 have o:Cd c:=by
  cases c with
  |none=>exact(uM (n:=8) (m:=0)).cd Ft
  |str z=>exact(jV (F.vals a z (c5 hok)) (n:=8) (m:=0) (aM _)).cd Ft
  |_=>cases hok
 refine cT (.int (j:Int)) (λq s=>⟨_,Fx,_,Fx,fs,an,k,n,v,d,j,Fx,F,g,f,s⟩) ?_;refine⟨_,Fx,_,Fx,_,l,_,Fx,_,Fx,_,Fx,_,Fx,_,Fx,_,r,k,n,v,st,d,Fx,F.vals a,i,(F.vs d a).2.1,qX (HE (F.vals a) i o) ?_⟩;rw[<- BX u hok]at h;show(if AS c (.tuple (oH k v st d))=true then _ else _)
 cases x:AS c (.tuple (oH k v st d))with
 |true=>rw[b8 rfl];rw[x,b8 rfl]at h;exact h
 |false=>rw[a9 Ft];rw[x,a9 Ft]at h;exact h
def Y5:dP P w K mg base gQ 1 jj mx ["side","sides"] (gX K Sr):=by
 refine T6 T.D_13.F Rg λl nd j Q h=>?_;obtain⟨w,ss,rfl,k,h⟩:=h;refine⟨_,(bB (rQ (fl (fr:=[none,none,some 0]) (N':=["number","found","side"]) (MO (aA (aG 1) aJ) (λh=>L3 Fx T.b_enumerate h)) (λb=>⟨(kP (kJ Fx (dH (pk 0) (dH (pk 1) iT)))),(pO (dN lD oS (aG 1) (aG 2))),(aG 0)⟩)))),?_⟩;rw[<- IJ]at h;refine KU (S7 (ts:=tY (ss.map aO)) (λR h=>⟨_,Fx,_,Fx,h⟩) (Gy w) Hy (by rw[kX,aB];lia) (λx g=>?_) (λa b q f e=>?_) (λa b q f e=>?_) h)
 ·rw[D6]at g;obtain⟨y,_,rfl⟩:=aU.mp g;exact⟨_,_,Fx⟩
 ·obtain⟨i,d⟩:=bU f;have c:=(aC.mp d).1;rw[kX,aB]at c;rw[pF (a:=.str ss[i]) (by rw[aF,aD c];rfl)]at d;cases d;exact⟨_,Fx,_,Fx,e⟩
 ·exact⟨_,Fx,e⟩
def R8:dP P w K mg base gQ 4 ji mw ["form","question","stray","rows"] (uQ K Sq):=by
 refine Ky T.D_12.F Rf λc nd p Q h=>?_;obtain⟨fs,an,k,n,v,st,f,rfl,F,m,g,hok,d,h⟩:=h;refine⟨_,(aS (qQ (i:=4) (fr:=[none,some 0,some 1,some 2]) (N':=["row","form","question","stray"]) (dS (aG 3)) (λb=>⟨(dB (pk 0)),gZ,(cd (Lz T) T.D_8 c (aA (aG 1) (aA (aG 2) (aA (aG 3) (aA (bJ aX cD (aG 0) aN) aJ)))))⟩) (λl j=>pC (show sN _ (bF (top 22)) ["form","question","stray","rows","sides"] ["row","form","question","stray"] [none,some 0,some 1,some 2]=true from by decide +kernel) nd Fx (by first | exact t9 Fx | exact o8 Fx) Fx l j Fx))
 (bB (GQ (cF (Y5 T) T.D_13 c (aA eI (aA (aG 4) aJ))) (cF (Y5 T) T.D_13 c (aA eI (aA (aG 4) aJ)))))),?_⟩
 show fR _ _ _ [.val (dO fs an),.val (.tuple [.str k,.str n,.str v]),.val (.str st),.val (.list (f.map jQ)),.un];have e:(f.map jQ).map (Iz fs k n v st)=(f.map λr=>iY fs k n v st r.1).map aO:=by rw[bL,bL];rfl
 refine cT (.list ((f.map λr=>iY fs k n v st r.1).map aO)) (λq a=>?_) ?_
 ·refine iU (ts:=f.map jQ) (λR h=>⟨_,Fx,_,Fx,h⟩) (Iz fs k n v st) (by rw[aB];lia) (λx q o a=>?_) ?_
  ·obtain⟨r,c,rfl⟩:=aU.mp o;exact⟨_,Fx,_,Fx,_,Fx,_,Fx,_,Fx,fs,an,k,n,v,st,r.1,Fx,F,m,g,(hok r c).1,a⟩
  ·rw[e];exact a
 rw[<- LT,<- LT]at h;exact⟨_,Fx,"yes",_,Fx,by rw[aB];exact d,_,Fx,"no",_,Fx,by rw[aB];exact d,h⟩
def YS:dP P w K mg base gQ 1 kj ol ["form","rows"] (gX K Tt):=by
 refine T6 T.D_36.F Qt λf nd p Q h=>?_;obtain⟨fs,an,c,rfl,F,hok,l,h⟩:=h;refine⟨_,(aS (ss 2 nd (el (fr:=[none]) (N':=["row"]) (dS (aG 1)) (λb=>⟨(dB (pk 0)),gZ,(bJ aX cD (aG 0) aN)⟩)))
 (bB (rQ (fl (fr:=[none,some 2]) (N':=["answer","told"]) (dS (bJ aX cD (aG 0) aN)) (λb=>⟨(dB (pk 0)),gZ,(O6 (aG 1) (aA (aG 0) aJ) (λh g=>jZ bY PySem.F.slot_list_count PySem.F.type_list_count (OM f) h g))⟩))))),?_⟩
 show fR _ _ _ [.val (dO fs an),.val (.list (c.map jQ)),.un];have a4:=F.a4;refine cT (.list (c.map λr=>aO r.2)) (λq d=>?_) ?_
 ·refine iU (ts:=c.map jQ) (λR h=>⟨_,Fx,_,Fx,h⟩) Ni (by rw[aB];lia) (λx q i d=>?_) ?_
  ·obtain⟨r,f,rfl⟩:=aU.mp i;exact⟨_,Fx,_,Fx,d⟩
  ·rw[bL];exact d
 have k:=TB (ys:=c.map λr=>r.2) λy o=>by
  obtain⟨r,f,rfl⟩:=aU.mp o;exact F.an.2.1 _ (hok r f).2
 rw[bL]at k;refine KU (iU (ts:=an.map aO) (λR h=>⟨_,Fx,_,Fx,_,Fx,h⟩) (Jo c) (by rw[aB];lia) (λx q i d=>?_) ?_)
 ·obtain⟨a,g,rfl⟩:=aU.mp i;have j:=jV (F.an.2.1 a g) (n:=8) (m:=0) (aM _);refine⟨_,Fx,_,Fx,_,Fx,_,Fx,⟨k.1,j.lay,by have:=j.depth;lia⟩,?_⟩;rw[JU];exact d
 ·show Q _
  have e:(an.map aO).map (Jo c)=(pQ an c).map bN:=by
   unfold pQ;rw[bL,bL];rfl
  rw[e];exact h
def Ol:dP P w K mg base gQ 2 kl om ["form","rows"] (cM K Tu):=by
 refine mB T.D_37.F Qu λp nd y Q h=>?_;obtain⟨fs,an,a,rfl,F,hok,o,h⟩:=h;refine⟨_,(aS (ss 2 nd (qY (cF (YS T) T.D_36 p (aA (aG 0) (aA (aG 1) aJ)))))
 (bB (cJ (bJ aX cD (bJ aX cD (aG 0) aN) (yQ (aG 2) (aA (cB Np (aA (aG 2) aJ) (DA Fx) T.b_max Wc) aJ) (λh r=>jZ bY rF rE (yK p) h r)))))),?_⟩
 show fR _ _ _ [.val (dO fs an),.val (.list (a.map jQ)),.un];have a2:=F.a2;refine cT (.list ((pQ an a).map bN)) (λq x=>⟨_,Fx,_,Fx,fs,an,a,Fx,F,hok,o,x⟩) ?_
 have n:pQ an a≠[]:=λz=>by
  have:=g5 hX z;unfold pQ at this;rw[aB]at this;simp at this;rw[this]at a2;simp at a2
 refine⟨_,Fx,_,Fx,_,Fx,_,Fx,_,Fx,_,Fx,n,λm v c=>?_⟩;obtain⟨j,l,g⟩:=IE (pQ an a) m v;have u:=(aC.mp l).1;have s:(pQ an a).length=an.length:=by unfold pQ;rw[aB]
 have a4:=F.a4;have d:an[j]?=some an[j]:=aD Fu;have f:(pQ an a)[j]?=some ((CV a an[j]:Nat):Int):=by unfold pQ;rw[aF,d];rfl
 rw[l]at f;have E:m=((CV a an[j]:Nat):Int):=c7 f;refine⟨_,j,Fx,OF l g,Fu,_,L2.eB (by rw[aF,d];rfl),h _ ⟨j,d,λi b k=>?_,λi b t k=>?_⟩⟩
 ·have:=c ((CV a b:Nat):Int) (aR (i:=i) (by unfold pQ;rw[aF,k];rfl));lia
 ·have e:(pQ an a)[i]?=some ((CV a b:Nat):Int):=by unfold pQ;rw[aF,k];rfl
  have H:=c _ (aR e);have J:((CV a b:Nat):Int)≠m:=λz=>g i t (by rw[e,z]);lia
def YO:dP P w K mg base gQ 1 kq oq ["one","other"] (cM K Tw):=by
 refine mB T.D_40.F Qx λo nd n Q h=>?_;obtain⟨a,b,rfl,h⟩:=h;refine⟨_,(aS (wP (dN wZ sS (aG 1) aN)
 (aS (ss 2 nd (cN gD pK (aG 0) (aG 1)))
 (aS (ss 0 nd (aG 1))
 (bB (ss 1 nd (aG 2))))) (λk j=>wU v4 k j))
 (bB (cJ (aG 0)))),?_⟩
 show fR _ _ _ [.val (.int a),.val (.int b),.un];refine uN (λy l=>∃(x:Nat)(g:Sl),l=[.val (.int x),.val (.int y),g]/\x.gcd y=a.gcd b) b ⟨a,_,Fx,Fx⟩ λy m i=>?_;obtain⟨x,g,rfl,d⟩:=i;refine⟨decide (0<y),λq c=>⟨_,Fx,?_⟩,?_⟩
 ·show q (decide ((y:Int)>0));have:decide ((y:Int)>0)=decide (0<y):=by rw[decide_eq_decide];lia
  rw[this];exact c
 by_cases e:0<y
 ·rw[b8 (a8 e)];refine cT (.int ((x%y:Nat):Int)) (λq c=>⟨_,Fx,_,Fx,(show(0:Int)<(y:Int) by lia),?_⟩) ?_
  ·rw[<- Int.natCast_emod];exact c
  refine cT (.int y) (λq c=>⟨_,Fx,c⟩) ?_;refine lM (.int ((x%y:Nat):Int)) (λq c=>⟨_,Fx,c⟩) ⟨x%y,Nat.mod_lt _ e,y,_,Fx,?_⟩;rw[<- d,aJ2 x y,Nat.gcd_rec y x,aJ2]
 ·rw[a9 (by simpa using e)];have f:y=0:=by lia
  subst f;rw[Nat.gcd_zero_right]at d;subst d;exact⟨_,Fx,h⟩
def YQ:dP P w K mg base gQ 2 ko oo ["top","bottom"] (cM K YA):=by
 refine mB T.D_39.F Qw λk nd l Q h=>?_;obtain⟨a,b,rfl,e,g,c,h⟩:=h;refine⟨_,(aS (ss 2 nd (cd (YO T) T.D_40 k (aA (aG 0) (aA (aG 1) aJ))))
 (bB (cJ (eK (aA (cN HC pK (aG 0) (aG 2)) (aA (cN HC pK (aG 1) (aG 2)) aJ)))))),?_⟩
 show fR _ _ _ [.val (.int a),.val (.int b),.un];refine cT (.int ((a.gcd b:Nat):Int)) (λq j=>⟨_,Fx,_,Fx,a,b,Fx,j⟩) ?_;have i:0<a.gcd b:=sL _ e;have d:a.gcd b<=b:=Nat.gcd_le_right _ e
 have hd:(0:Int)<((a.gcd b:Nat):Int)/\((a.gcd b:Nat):Int)<2^200:=⟨Fu,by
  have:(a.gcd b)<2^190:=nM d c;have f:(2^190:Nat)<=2^200:=kO Ft Ft
  exact_mod_cast dF this f⟩
 refine⟨_,Fx,_,Fx,hd,_,Fx,_,Fx,hd,aI Fx,?_⟩;show Q (.tuple [.int ((a:Int) / ((a.gcd b:Nat):Int)),.int ((b:Int) / ((a.gcd b:Nat):Int))]);rw[<- CT,<- CT];exact h
def YR:dP P w K mg base gQ 3 km on ["form","rows"] (cM K Tv):=by
 refine mB T.D_38.F Qv λl nd H Q h=>?_;obtain⟨fs,an,d,rfl,F,hok,f,h⟩:=h;refine⟨_,(aS (ss 2 nd (cB iK (aA (aG 1) aJ) cZ T.b_len fL))
 (aS (fQ (dN lD oS (aG 2) aN)
 (bB (cJ (eK (aA aN (aA aN aJ)))))
 eM)
 (bB (cJ (cd (YQ T) T.D_39 l (aA (cB Nq (aA (el (fr:=[none,some 2]) (N':=["count","many"]) (dS (qY (cF (YS T) T.D_36 l (aA (aG 0) (aA (aG 1) aJ))))) (λb=>⟨(dB (pk 0)),gZ,(cN iF oV (aG 0) (cN yH OH (aG 1) (aG 0)))⟩)) aJ) (C8 Fx) T.b_sum Wd) (aA (aG 2) aJ))))))),?_⟩
 show fR _ _ _ [.val (dO fs an),.val (.list (d.map jQ)),.un];have a4:=F.a4;refine cT (.int (d.length:Int)) (λq k=>⟨_,Fx,?_⟩) ?_
 ·show q (.int ((d.map jQ).length:Int));rw[aB];exact k
 refine fY (λb=>b=decide ((d.length:Int)=0)) (λq k=>⟨_,Fx,k _ Fx⟩) (λt=>?_) λs=>?_
 ·have o:d.length=0:=by have:=c5 t.symm;lia
  have:d=[]:=nN.mp o;subst this
  have m:S6 (WG [] []) (max 1 ([]:List Rw).length)=.tuple [.int 0,.int 1]:=by
   show S6 0 1=_;unfold S6;rw[Nat.gcd_zero_left];rfl
  rw[m]at h;exact⟨aI Fx,h⟩
 ·try unfold jP
  dsimp only;have o:¬d.length=0:=λz=>by have:=g4 s.symm;lia
  have p:max 1 d.length=d.length:=by lia
  rw[p]at h;have y:=J2 d d;have v:d.length*d.length<=60*60:=gA f f;have i:(pQ an d).length=an.length:=by unfold pQ;rw[aB]
  have j:∀c∈pQ an d,0<=c/\c<=(d.length:Int):=λc g=>by
   unfold pQ at g;obtain⟨a,_,rfl⟩:=aU.mp g;have:=Wz d a;lia
  show lA YA _ _ Q;dsimp only[lA,nS,wC];refine iU (ts:=(pQ an d).map bN) (λR h=>⟨_,Fx,_,Fx,fs,an,d,Fx,F,hok,f,_,Fx,h⟩) (YJ d.length) (by rw[aB,i];lia) (λx q E k=>?_) ?_
  ·obtain⟨c,g,rfl⟩:=aU.mp E;have:=j c g;exact⟨_,Fx,_,Fx,_,Fx,.inl ⟨Fu,Fu⟩,k⟩
  ·have e:((pQ an d).map bN).map (YJ d.length)=((pQ an d).map λc=>c*((d.length:Int)-c)).map bN:=by
    rw[bL,bL];rfl
   rw[e];refine⟨_,Fx,λn u=>?_,by rw[aB,i];lia,?_⟩
   ·obtain⟨c,g,rfl⟩:=aU.mp u;have:=j c g;have J:0<=c*((d.length:Int)-c):=Int.mul_nonneg Fu Fu;have L:c*((d.length:Int)-c)<=60*60:=Int.mul_le_mul Fu Fu Fu Ft;lia
   ·rw[WF F.an.2.2 λr l=>(hok r l).2];exact⟨_,Fx,_,_,Fx,Fu,nM (show WG d d<=3600 by lia) Ft,nM (show d.length<=60 from f) Ft,h⟩
def MB:dP P w K mg base gQ 1 kx ow ["rows","numbers"] (cM K Ua):=by
 refine mB T.D_45.F Ra λf nd l Q h=>?_;obtain⟨fs,k,n,v,st,w,a,rfl,m,h⟩:=h;refine⟨_,(bB (cJ (el (fr:=[none,some 0]) (N':=["number","rows"]) (dS (aG 1)) (λb=>⟨(dB (pk 0)),gZ,(bJ aX cD (aG 1) (aG 0))⟩)))),?_⟩;show yB _ _ [.val (.list (a.map jQ)),.val (.list (iO fs k n v st a w))]
 have o:(iO fs k n v st a w).length<=60:=by
  unfold iO;have:=cI (tP fs k n v st a w) (fF a.length);rw[iD]at this;lia
 refine iU (ts:=iO fs k n v st a w) (λR h=>⟨_,Fx,_,Fx,h⟩) (BB a) Fu (λx q i e=>?_) ?_
 ·obtain⟨j,g,rfl⟩:=aU.mp (bC.mp i).1;have c:j<a.length:=by simpa using g
  have d:L2.atI (a.map jQ) (j:Int)=some (jQ a[j]):=L2.eB (by rw[aF,aD c];rfl)
  have f:BB a (.int (j:Int))=jQ a[j]:=by
   show(match L2.atI a (j:Int)with | some r=>jQ r | none=>.none)=_;rw[L2.eB (aD c)]
  rw[f]at e;exact⟨_,Fx,_,Fx,_,d,e⟩
 ·rw[AR fs k n v st w a.length a rfl];exact h
def Lx:dP P w K mg base gQ 1 vy wj ["field"] (gX K Mr):=by
 refine T6 T.D_6.F Nd λj nd g Q h=>?_;obtain⟨f,rfl,c,i,h⟩:=h;refine⟨_,(aS (ss 1 nd (bJ aX cD (aG 0) aN))
 (aS (ss 2 nd (bJ aX cD (aG 0) aN))
 (aS (ss 3 nd (D5 (dN lD oS (cB iK (aA (aG 2) aJ) cZ T.b_len fL) aN) (gI kI qJ (aG 2) jB (gW aN)) (aG 2)))
 (aS (ss 4 nd (gI kI qJ (aG 2) (gW aN) (gW (FS aN))))
 (bB (rQ (T5 (el (fr:=[none,some 1]) (N':=["value","name"]) (dS (aG 3)) (λb=>⟨(dB (pk 0)),gZ,(eK (aA eI (aA (aG 1) (aA (aG 0) aJ))))⟩)) (el (fr:=[none,some 1]) (N':=["value","name"]) (dS (aG 4)) (λb=>⟨(dB (pk 0)),gZ,(eK (aA eI (aA (aG 1) (aA (aG 0) aJ))))⟩))))))))),?_⟩
 show fR _ _ _ [.val (iZ f),.un,.un,.un,.un];refine cT (.str f.1) (λq a=>⟨_,Fx,_,Fx,a⟩) ?_;refine cT (.tuple (f.2.map aO)) (λq a=>⟨_,Fx,_,Fx,a⟩) ?_;refine cT (.tuple ((E8 f).map aO)) (λq a=>⟨_,Fx,?_⟩) ?_
 ·show(if decide (((f.2.map aO).length:Int)=2)=true then _ else _);unfold E8 at a;rw[aB];by_cases e:f.2.length=2
  ·rw[b8 (a8 Fu)];rw[b8 e]at a;refine⟨_,Fx,?_⟩;show q (.tuple (kD (f.2.map aO) none (some 1)));rw[nJ,XT _ c];exact a
  ·rw[a9 (by simpa using(by lia:¬(f.2.length:Int)=2))];rw[a9 e]at a;exact⟨_,Fx,a⟩
 refine cT (.tuple ((E9 f).map aO)) (λq a=>⟨_,Fx,?_⟩) ?_
 ·show q (.tuple (kD (f.2.map aO) (some 1) (some (-2))));rw[nJ,XU _ c];exact a
 have l:(E8 f).length<=5:=by
  unfold E8;split
  ·rw[bD];lia
  ·lia
 have k:(E9 f).length<=5:=by
  unfold E9;rw[bD,eG];lia
 dsimp only[YD,ZK];refine iU (ts:=(E8 f).map aO) (λR h=>⟨_,Fx,_,Fx,h⟩) (λx=>.tuple [.str "is",.str f.1,x]) (by rw[aB];lia) (λx q d a=>⟨_,Fx,_,Fx,aI Fx,a⟩) ?_;refine iU (ts:=(E9 f).map aO) (λR h=>⟨_,Fx,_,Fx,h⟩) (λx=>.tuple [.str "upto",.str f.1,x]) (by rw[aB];lia) (λx q d a=>⟨_,Fx,_,Fx,aI Fx,a⟩) ?_;refine⟨_,_,Fx,Fx,by simp only[aB];lia,?_⟩;rw[bL,bL];exact h
def Lw:dP P w K mg base gQ 2 vx wh ["form"] (gX K Mq):=by
 refine T6 T.D_5.F Mh λs nd z Q h=>?_;obtain⟨fs,an,rfl,F,h⟩:=h;refine⟨_,(aS (so 1 nd aJ)
 (aS (sf (dS (bJ aX cD (aG 0) aN)) (dB (pn 2 nd))
 (bB (rR (i:=1) (pv 1) (qY (cF (Lx T) T.D_6 s (aA (aG 2) aJ))) (pb:=λh=>jY (jZ bY gK gJ rW (pv 1) h)))))
 (bB (pB (pv 1))))),?_⟩
 show fR _ _ _ [.val (dO fs an),.un,.un];have n5:=F.n5;refine lC [] Ft (λq c=>c) ?_
 refine fD (ts:=fs.map iZ) (λR h=>⟨_,Fx,_,Fx,_,Fx,h⟩)
  (λk y=>∃d:Sl,y=[.val (dO fs an),.own (iX (fs.take k)),d]) ⟨_,Fx⟩ (λk x j l b=>?_) λj b=>?_
 ·obtain⟨d,rfl⟩:=b;rw[aF]at l;obtain⟨f,a,rfl⟩:=bM.mp l;have n:f∈fs:=aR a;obtain⟨u,v,t⟩:=F.vs f n;have m:=pR F (fs.take k) λg o=>dI o;have p:(fs.take k).length<=5:=by rw[bD];lia
  have r:(N3 f).length<=10:=by
   unfold N3 E8 E9;rw[aV,aB,aB,bD,eG];split
   ·rw[bD];lia
   ·lia
  refine oJ (ts:=iX (fs.take k)) (us:=N3 f) Fx Fu (λq c=>⟨_,Fx,f,Fx,u,v,c⟩) ⟨.val (iZ f),?_⟩
  have e:iX (fs.take (k+1))=iX (fs.take k)++N3 f:=by
   unfold iX;rw[bS,a,bK,P1];show _++[N3 f].flatten=_;rw[JL]
  rw[e];rfl
 ·obtain⟨d,rfl⟩:=b;rw[aB,cU];exact⟨_,Fx,h⟩
def Ly:dP P w K mg base gQ 3 vz wk ["form"] (cM K Ms):=by
 refine mB T.D_7.F Nf λe nd z Q h=>?_;obtain⟨fs,an,rfl,F,h⟩:=h;refine⟨_,(aS (so 1 nd aJ)
 (aS (sf (dS (qY (cF (Lw T) T.D_5 e (aA (aG 0) aJ)))) (dB (pn 2 nd))
 (bB (rR (i:=1) (pv 1) (el (fr:=[none,some 2]) (N':=["stray","question"]) (dS (FU Fx T.c_SIDES T.t_SIDES)) (λb=>⟨(dB (pk 0)),gZ,(eK (aA (aG 1) (aA (aG 0) aJ)))⟩)) (pb:=λh=>jY (jZ bY gK gJ rW (pv 1) h)))))
 (jW 1 (bB (cJ (aG 1)))))),?_⟩
 show fR _ _ _ [.val (dO fs an),.un,.un];have n5:=F.n5;have o:=pR F fs λg p=>p;have u:(qs fs).length=(iX fs).length:=by rw[<- E7,aB]
 refine lC [] Ft (λq t=>t) ?_
 refine fD (ts:=(qs fs).map qD) (λR h=>⟨_,Fx,fs,an,Fx,F,_,Fx,by rw[<- E7];exact h⟩)
  (λk y=>∃m:Sl,y=[.val (dO fs an),.own ((((qs fs).take k).flatMap QT).map Gc),m]) ⟨_,Fx⟩ (λk x n j c=>?_) λn c=>?_
 ·obtain⟨m,rfl⟩:=c;rw[aF]at j;obtain⟨q,d,rfl⟩:=bM.mp j
  have a:((((qs fs).take k).flatMap QT).map Gc).length=2*((qs fs).take k).length:=by
   rw[aB]
   generalize (qs fs).take k=l
   induction l with
   |nil=>rfl
   |cons x l v=>rw[eV,aV,v,bX];show 2+_=_;lia
  have s:((qs fs).take k).length<=50:=by rw[bD];lia
  refine oJ (us:=[Gc (q,"yes"),Gc (q,"no")]) Fx (by rw[a];show _+2<=_;lia) (λr e=>?_) ⟨.val (qD q),?_⟩
  ·refine iU (ts:=[.str "yes",.str "no"]) (λR h=>⟨_,Fx,h⟩) (λx=>.tuple [qD q,x]) Ft (λx E j f=>⟨_,Fx,_,Fx,Fw,f⟩) e
  ·rw[bS,d];show _=[_,Sl.own (((((qs fs).take k)++[q]).flatMap QT).map Gc),_];rw[kZ,bK];rfl
 ·obtain⟨m,rfl⟩:=c;rw[aB,cU];exact⟨_,Fx,_,Fx,h⟩
def Oc:dP P w K mg base gQ 1 jk my ["sides","fewest"] (cM K Ug):=by
 refine mB T.D_14.F Rh λc nd b Q h=>?_;obtain⟨a,bs,m,rfl,h⟩:=h;refine⟨_,(bB (cJ (Wh (oA R3 sS (cB iK (aA (bJ aX cD (aG 0) aN) aJ) cZ T.b_len fL) (aG 1)) (Wi (oA R3 sS (cB iK (aA (bJ aX cD (aG 0) aN) aJ) cZ T.b_len fL) (aG 1)))))),?_⟩;show yB _ _ [.val (.tuple [.list a,.list bs]),.val (.int m)];refine⟨_,Fx,_,Fx,_,Fx,?_⟩;show(if decide (m<=(a.length:Int))=true then _ else _)
 cases e:decide (m<=(a.length:Int))with
 |false=>
  rw[a9 Ft];rw[e]at h;exact h
 |true=>
  rw[b8 rfl];rw[e]at h;exact⟨_,Fx,_,Fx,_,Fx,h⟩
def Om:dP P w K mg base gQ 3 kr ot ["one","other"] (cM K Tx):=by
 refine mB T.D_41.F Qy λd nd f Q h=>?_;obtain⟨x,y,rfl,a,b,h⟩:=h;refine⟨_,(bB (cJ (cd (YQ T) T.D_39 d (aA (cN cG fJ (cN iF oV (bJ aX cD (aG 0) aN) (bJ aX cD (aG 1) aN)) (cN iF oV (bJ aX cD (aG 1) aN) (bJ aX cD (aG 0) aN))) (aA (cN iF oV (bJ aX cD (aG 0) aN) (bJ aX cD (aG 1) aN)) aJ))))),?_⟩;show yB _ _ [.val (C7 x),.val (C7 y)];have j:=a.top;have k:=a.bot;have l:=b.top;have m:=b.bot;obtain⟨g,i,c⟩:=LP a b;have big:(1000000000000:Nat)<2^190:=by decide +kernel
 have e:[bN ((x.1:Int)*(y.2:Int)+(y.1:Int)*(x.2:Int)),.int ((x.2:Int)*(y.2:Int))]=[.int ((x.1*y.2+y.1*x.2:Nat):Int),.int ((x.2*y.2:Nat):Int)]:=by
  rw[nB,kN,kN,kN]
 refine⟨_,Fx,_,Fx,_,Fx,_,Fx,.inl ⟨Fu,Fu⟩,_,Fx,_,Fx,_,Fx,_,Fx,.inl ⟨Fu,Fu⟩,_,Fx,_,Fx,_,Fx,_,Fx,.inl ⟨Fu,Fu⟩,_,_,e,c,Fu,Fu,h⟩
def Oo:dP P w K mg base gQ 2 ku ov ["fractions"] (cM K TC):=by
 refine mB T.D_43.F QD λo nd r Q h=>?_;obtain⟨l,rfl,n,h⟩:=h;refine⟨_,(aS (ss 1 nd aN)
 (aS (sf (dS (aG 0)) (dB (pn 2 nd))
 (bB (ss 1 nd (cN lY pK (cN iF oV (aG 1) (bJ aX cD (aG 2) aN)) (cd (YO T) T.D_40 o (aA (aG 1) (aA (bJ aX cD (aG 2) aN) aJ)))))))
 (bB (cJ (aG 1))))),?_⟩
 show fR _ _ _ [.val (.list (l.map C7)),.un,.un];refine cT (.int 1) (λq a=>a) ?_
 refine fD (ts:=l.map C7) (λR h=>⟨_,Fx,_,Fx,h⟩)
  (λk p=>∃c:Sl,p=[.val (.list (l.map C7)),.val (.int ((wA (l.take k):Nat):Int)),c]) ⟨_,Fx⟩ (λk x d e b=>?_) λd b=>?_
 ·obtain⟨c,rfl⟩:=b;rw[aF]at e;obtain⟨y,f,rfl⟩:=bM.mp e;obtain⟨g,t⟩:=n y (aR f);have s:(wA (l.take k)).gcd y.2<=y.2:=aC4 g (VB _ _);have m:0<(wA (l.take k)).gcd y.2:=sL _ g
  have j:wA (l.take (k+1))=(wA (l.take k)).lcm y.2:=by
   unfold wA;rw[bS,f,lW];rfl
  refine lM (.int ((wA (l.take (k+1)):Nat):Int)) (λq a=>⟨_,Fx,_,Fx,_,Fx,.inr ⟨Fu,Fu⟩,_,Fx,_,Fx,_,Fx,_,_,Fx,⟨Fu,Fu⟩,?_⟩) ⟨_,Fx⟩;rw[j]at a
  have i:((wA (l.take k):Nat):Int)*(y.2:Int) / (((wA (l.take k)).gcd y.2:Nat):Int)=(((wA (l.take k)).lcm y.2:Nat):Int):=by
   rw[<- kN,<- CT];rfl
  rw[i];exact a
 ·obtain⟨c,rfl⟩:=b;rw[aB,cU];exact⟨_,Fx,h⟩
def Op:dP P w K mg base gQ 6 kw im ["form","rows","least"] (gX K TZ):=by
 refine Kz T.L_44 T.D_44.F YB (λds Q h=>by obtain⟨fs,an,f,m,rfl,F,l,o,h⟩:=h;rfl) λdu lc Ar outer s H E r ds Q h=>?_;obtain⟨fs,an,f,m,rfl,F,l,o,h⟩:=h;have nd:=YB.nd;refine⟨_,(aS (so 3 nd aJ)
 (aS (sf (dS (cd (Ly T) T.D_7 r (aA (aG 0) aJ))) (kP (kJ Fx (dH (pn 4 nd) (dH (pn 5 nd) iT))))
 (aS (ss 6 nd (UA (cQ (R8 T) T.D_12 r (aA (aG 0) (aA (aG 4) (aA (aG 5) (aA (aG 1) aJ)))))))
 (bB (fQ (tv (cd (Oc T) T.D_14 r (aA (aG 6) (aA (aG 2) aJ))))
 (aS (qQ (i:=7) (fr:=[none,some 0,some 1]) (N':=["numbers","form","rows"]) (dS (aG 6)) (λb=>⟨(dB (pk 0)),gZ,(cd (YR T) T.D_38 r (aA (aG 1) (aA (cd (MB T) T.D_45 r (aA (aG 2) (aA (aG 0) aJ))) aJ)))⟩) (λu hY=>pC (show sN _ (bF (top 63)) ["form","rows","least","told","question","stray","sides","doubts","bottom"] ["numbers","form","rows"] [none,some 0,some 1]=true from by decide +kernel) nd Fx (by first | exact t9 Fx | exact o8 Fx) Fx u hY Fx))
 (bB (qI (i:=3) (pv 3) (eK (aA (aG 4) (aA (aG 5) (aA (cd (Om T) T.D_41 r (aA (bJ aX cD (aG 7) aN) (aA (bJ aX cD (aG 7) aN) aJ))) aJ)))) (pb:=λh=>jY (jZ bY eQ eP kT (pv 3) h)))))
 eM))))
 (jW 3 (aS (ss 8 nd (cd (Oo T) T.D_43 r (aA (el (fr:=[none,none,none]) (N':=["question","stray","doubt"]) (dS (aG 3)) (λb=>⟨(qW (kJ Fx (dH (pk 0) (dH (pk 1) (dH (pk 2) iT))))),gZ,(aG 2)⟩)) aJ)))
 (bB (rQ (T3 (k:=0) (ib:=8) (r.mono Fu) lc Fx Fx Fx Fx T.b_sorted PL (aA (aG 3) aJ)))))))),?_⟩
 show fR _ _ _ [.val (dO fs an),.val (.list (f.map jQ)),.val (.int m),.un,.un,.un,.un,.un,.un]
 have tx:(vZ fs f m).length<=60:=by
  have h1:=pR F fs λg hg=>hg;have n4:=F.n4;have h2:=cI (okC fs f m) (PF fs);rw[M4]at h2;show((PF fs).filter (okC fs f m)).length<=60;lia
 have Bj:(PF fs).length<=100:=by
  have h1:=pR F fs λg hg=>hg;have n5:=F.n5;rw[M4];lia
 refine lC [] Ft (λq L=>L) ?_
 refine fD (ts:=(PF fs).map Gc) (λR h=>⟨_,Fx,fs,an,Fx,F,_,Fx,h⟩)
  (λk σ=>∃s4 s5 s6 s7:Sl,σ=[.val (dO fs an),.val (.list (f.map jQ)),.val (.int m),.own ((((PF fs).take k).filter (okC fs f m)).map (K0 fs f)),s4,s5,s6,s7,.un]) ⟨_,_,_,_,Fx⟩ (λk x ak p hP=>?_) λak hP=>?_
 ·obtain⟨s4,s5,s6,s7,rfl⟩:=hP;rw[aF]at p;obtain⟨c,t,rfl⟩:=bM.mp p;have hc:=aR t;obtain⟨L,hs⟩:=UH hc;have n:=RI L
  have yt:(iO fs c.1.1 c.1.2.1 c.1.2.2 c.2 f "yes").length=(yR fs c f).length:=by
   have:=g5 hX (AR fs c.1.1 c.1.2.1 c.1.2.2 c.2 "yes" f.length f Fx);rw[aB,aB]at this;exact this
  have yr:(iO fs c.1.1 c.1.2.1 c.1.2.2 c.2 f "no").length=(nR fs c f).length:=by
   have:=g5 hX (AR fs c.1.1 c.1.2.1 c.1.2.2 c.2 "no" f.length f Fx);rw[aB,aB,FH F n hs l]at this;exact this
  have et:((PF fs).take (k+1)).filter (okC fs f m)=((PF fs).take k).filter (okC fs f m)++(if okC fs f m c=true then[c]else[]):=by
   rw[bS,t,gY];congr 1;show NF _ [c]=_;rw[fG];rfl
  have Eo:((((PF fs).take k).filter (okC fs f m)).map (K0 fs f)).length<=100:=by
   rw[aB];exact bP (cI _ _) (by rw[bD];lia)
  refine⟨qD c.1,.str c.2,Fx,?_⟩;dsimp only;refine cT (.tuple [.list (iO fs c.1.1 c.1.2.1 c.1.2.2 c.2 f "yes"),.list (iO fs c.1.1 c.1.2.1 c.1.2.2 c.2 f "no")]) (λq j=>⟨_,Fx,_,Fx,_,Fx,_,Fx,fs,an,c.1.1,c.1.2.1,c.1.2.2,c.2,f,Fx,F,n,hs,l,o,j⟩) ?_;refine kR (λb=>b=okC fs f m c) (λq j=>⟨_,Fx,_,Fx,_,_,m,Fx,?_⟩) (λhT=>?_) λhF=>?_
  ·refine j _ ?_;rw[yt,yr];rfl
  ·refine cT (.list [C7 (U5 (yR fs c f)),C7 (U5 (nR fs c f))]) (λq j=>?_) ?_
   ·refine FL (ts:=[.list (iO fs c.1.1 c.1.2.1 c.1.2.2 c.2 f "yes"),.list (iO fs c.1.1 c.1.2.1 c.1.2.2 c.2 f "no")]) (λR h=>⟨_,Fx,_,Fx,h⟩) (λi _ y=>(i=0->y=C7 (U5 (yR fs c f)))/\(i=1->y=C7 (U5 (nR fs c f)))) Fw (λi x q p S=>?_) λys vi hy=>?_
    ·have u:i<2:=(aC.mp p).1;rcases(show i=0\/i=1 by lia)with rfl | rfl
     ·cases p;exact⟨_,Fx,_,Fx,_,Fx,fs,c.1.1,c.1.2.1,c.1.2.2,c.2,"yes",f,Fx,o,fs,an,_,Fx,F,l.filt _,bP (cI _ _) o,S _ ⟨λ_=>rfl,λz=>by cases z⟩⟩
     ·cases p;refine⟨_,Fx,_,Fx,_,Fx,fs,c.1.1,c.1.2.1,c.1.2.2,c.2,"no",f,Fx,o,?_⟩;rw[FH F n hs l];exact⟨fs,an,_,Fx,F,l.filt _,bP (cI _ _) o,S _ ⟨(λz=>by cases z),λ_=>rfl⟩⟩
    ·match ys,vi,hy with
     |[a,b],_,hy=>
      have h0:=(hy 0 _ a Fx Fx).1 Fx;have h1:=(hy 1 _ b Fx Fx).2 Fx;rw[h0,h1];exact j
   ·have W:(yR fs c f).length<=60:=bP (cI _ _) o;have v:(nR fs c f).length<=60:=bP (cI _ _) o;refine xA (K0 fs f c) Fx Fu (λq j=>⟨_,Fx,_,Fx,_,Fx,_,Fx,_,Fx,_,Fx,_,_,Fx,xL W,xL v,Fw,j⟩) ⟨.val (qD c.1),.val (.str c.2),.val (.tuple [.list (iO fs c.1.1 c.1.2.1 c.1.2.2 c.2 f "yes"),.list (iO fs c.1.1 c.1.2.1 c.1.2.2 c.2 f "no")]),.val (.list [C7 (U5 (yR fs c f)),C7 (U5 (nR fs c f))]),?_⟩;rw[et,b8 hT.symm,bK];rfl
  ·try unfold jP
   dsimp only;refine⟨.val (qD c.1),.val (.str c.2),.val (.tuple [.list (iO fs c.1.1 c.1.2.1 c.1.2.2 c.2 f "yes"),.list (iO fs c.1.1 c.1.2.1 c.1.2.2 c.2 f "no")]),s7,?_⟩;rw[et,a9 (by rw[<- hF];decide),dU];rfl
 ·obtain⟨s4,s5,s6,s7,rfl⟩:=hP;rw[aB,cU];refine⟨_,Fx,?_⟩;show fR _ _ _ [.val (dO fs an),.val (.list (f.map jQ)),.val (.int m),.val (.list (CA fs f m)),s4,s5,s6,s7,.un]
  have Bo:∀x∈U4 fs f m,0<x.2/\x.2<=1000000:=λx p=>by
   obtain⟨c,_,rfl⟩:=aU.mp p;have:=K5 (fs:=fs) o c;exact⟨this.pos,bP this.bot Ft⟩
  refine cT (.int (wA (U4 fs f m):Nat)) (λq L=>?_) ?_
  ·dsimp only[lA,nS,wC];refine MJ (ts:=CA fs f m) (λR h=>⟨_,Fx,_,Fx,h⟩) (λx=>match x with | .tuple [_,_,d]=>d | _=>.none) (by rw[tZ];lia) (λx p=>?_) (λa b c q' hm n=>⟨_,Fx,n⟩) ?_
   ·obtain⟨c,_,rfl⟩:=aU.mp p;exact⟨_,_,_,Fx⟩
   ·have e:(CA fs f m).map (λx=>match x with | .tuple [_,_,d]=>d | _=>.none)=(U4 fs f m).map C7:=by
     unfold CA U4;rw[bL,bL];rfl
    rw[e];exact⟨_,Fx,Bo,L⟩
  ·refine⟨_,Fx,CA fs f m,(wA (U4 fs f m):Nat),OS fs f m,Fx,by rw[tZ];lia,Fx,by rw[tZ,TQ],λi e k he hk=>?_,λJ hJ=>?_⟩
   ·have u:i<(vZ fs f m).length:=by rw[<- tZ];exact(aC.mp he).1
    have e1:=MW (fs:=fs) (R:=f) (m:=m) u;rw[eJ,he]at e1;have e2:=W0 (fs:=fs) (R:=f) (m:=m) u;rw[eJ,hk]at e2;have sm:=K5 (fs:=fs) o (vZ fs f m)[i];have s1:=sm.top;have s2:=sm.pos;have s3:=sm.bot;exact⟨_,_,_,_,e1,⟨Fu,Fu⟩,.inl ⟨Fu,Fu⟩,e2⟩
   ·rw[tZ]at hJ;exact h J hJ
def On:dP P w K mg base gQ 1 kt ou ["one","other"] (cM K Tz):=by
 refine mB T.D_42.F Qz λb nd a Q h=>?_;obtain⟨x,y,rfl,c,d,h⟩:=h;refine⟨_,(bB (cJ (oA L7 sS (cN iF oV (bJ aX cD (aG 0) aN) (bJ aX cD (aG 1) aN)) (cN iF oV (bJ aX cD (aG 1) aN) (bJ aX cD (aG 0) aN))))),?_⟩;show yB _ _ [.val (C7 x),.val (C7 y)];refine⟨_,Fx,_,Fx,_,Fx,_,Fx,.inl ⟨Fu,Fu⟩,_,Fx,_,Fx,_,Fx,_,Fx,.inl ⟨Fu,Fu⟩,?_⟩;show Q (.bool (decide ((x.1:Int)*(y.2:Int)<(y.1:Int)*(x.2:Int))))
 have e:decide ((x.1:Int)*(y.2:Int)<(y.1:Int)*(x.2:Int))=decide (x.1*y.2<y.1*x.2):=by
  rw[decide_eq_decide,<- kN,<- kN];lia
 rw[e];exact h
def Oq:dP P w K mg base gQ 7 la ox ["form","rows","least"] (cM K Ub):=by
 refine mB T.D_46.F Rb λp nd x Q h=>?_;obtain⟨fs,an,a,m,rfl,F,g,k,h⟩:=h;refine⟨_,(aS (ss 3 nd (qY (cF (Op T) T.D_44 p (aA (aG 0) (aA (aG 1) (aA (aG 2) aJ))))))
 (aS (fQ (vD (JQ (NQ (aG 3) (λh=>RL h (λ_=>rfl))) (EV (tv (cd (On T) T.D_42 p (aA (bJ aX cD (bJ aX cD (aG 3) aN) aN) (aA (cd (YR T) T.D_38 p (aA (aG 0) (aA (aG 1) aJ))) aJ)))))))
 (bB (cJ (bJ aX cD (aG 3) aN)))
 eM)
 (bB (cJ lU)))),?_⟩
 show fR _ _ _ [.val (dO fs an),.val (.list (a.map jQ)),.val (.int m),.un];have o:∀c:Ch,(dC fs a c).1<=1000000:=λc=>bP (K5 (fs:=fs) k c).top Ft;have n:(U5 a).1<=1000000:=bP (xL k).top Ft
 have l:∀{i:Nat}{J:List Nat},Io fs a m (i::J)->∃c,c∈vZ fs a m/\L2.atI (Ie fs a m (i::J)) 0=some (K0 fs a c):=λ{i J} e=>by
  have t:=e.lt i (aP ..);refine⟨_,dL t,L2.eB (j:=0) ?_⟩;show some ((CA fs a m).getD i .none)=_;rw[MW t]
 refine gU (λv=>∃J,Io fs a m J/\v=.list (Ie fs a m J)) (λq f=>⟨_,Fx,_,Fx,_,Fx,fs,an,a,m,Fx,F,g,k,λJ e=>f _ ⟨J,e,Fx⟩⟩) ?_;rintro _ ⟨J,e,rfl⟩
 cases J with
 |nil=>
  refine fY (λb=>b=false) (λq f=>?_) (λs=>by cases s) λ_=>?_
  ·refine⟨_,Fx,[],Fx,?_⟩;show(if(false:Bool)=true then _ else q false);rw[a9 Ft];exact f _ Fx
  ·try unfold jP
   dsimp only;exact h none λc z=>by cases z
 |cons i J=>
  obtain⟨c,u,r⟩:=l e;refine fY (λb=>True) (λq f=>?_) (λs=>?_) λy=>?_
  ·refine⟨_,Fx,_,Fx,?_⟩;show(if(true:Bool)=true then _ else q false);rw[b8 rfl];exact⟨_,Fx,_,r,_,Fx,_,Fx,_,Fx,fs,an,a,Fx,F,g,k,_,_,Fx,o c,n,f _ trivial⟩
  ·exact⟨_,Fx,_,r,h (some c) λd z=>by cases z;exact u⟩
  ·try unfold jP
   dsimp only;exact h none λc z=>by cases z
def VV(dd:Nat)
  (s:dP P w K mg base gQ (8+dd) X fw ["form","rows","deep","least"] (cM K (tJ dd))):dP P w K mg base gQ (8+dd+1) X fw ["form","rows","deep","least"] (cM K (tJ (dd+1))):=by
 refine mB T.D_47.F Rc λz nd ds Q h=>?_;obtain⟨fs,an,g,d,m,rfl,F,f,l,hd,h⟩:=h;refine⟨_,(aS (ss 4 nd (D5 (dN wZ sS (aG 2) aN) (cd (hk:=by lia) (Oq T) T.D_46 z (aA (aG 0) (aA (aG 1) (aA (aG 3) aJ)))) lU))
 (aS (fQ (dN BJ HK (aG 4) lU)
 (bB (cJ (eK (aA eI (aA (cd (hk:=by lia) (Ol T) T.D_37 z (aA (aG 0) (aA (aG 1) aJ))) aJ)))))
 eM)
 (aS (ss 5 nd (UA (cQ (hk:=by lia) (R8 T) T.D_12 z (aA (aG 0) (aA (bJ aX cD (aG 4) aN) (aA (bJ aX cD (aG 4) aN) (aA (aG 1) aJ)))))))
 (aS (qQ (i:=6) (fr:=[none,some 0,some 3,some 1,some 2]) (N':=["numbers","form","least","rows","deep"]) (dS (aG 5)) (λb=>⟨(dB (pk 0)),gZ,(cd (hk:=by lia) s T.D_47 z (aA (aG 1) (aA (cd (hk:=by lia) (MB T) T.D_45 z (aA (aG 3) (aA (aG 0) aJ))) (aA (cN yH OH (aG 4) aN) (aA (aG 2) aJ)))))⟩) (λhi hY=>pC (show sN _ (bF (top 66)) ["form","rows","deep","least","found","sides","parts"] ["numbers","form","least","rows","deep"] [none,some 0,some 3,some 1,some 2]=true from by decide +kernel) nd Fx (by first | exact t9 Fx | exact o8 Fx) Fx hi hY Fx))
 (bB (cJ (eK (aA eI (aA (bJ aX cD (aG 4) aN) (aA (bJ aX cD (aG 4) aN) (aA (bJ aX cD (aG 6) aN) (aA (bJ aX cD (aG 6) aN) aJ)))))))))))),?_⟩
 show fR _ _ _ [.val (dO fs an),.val (.list (g.map jQ)),.val (.int d),.val (.int m),.un,.un,.un]
 cases d with
 |zero=>
  refine cT .none (λq j=>⟨_,Fx,j⟩) ?_;refine fY (λb=>b=true) (λq j=>⟨_,Fx,j _ Fx⟩) (λ_=>?_) λS=>by cases S
  exact⟨_,Fx,_,Fx,fs,an,g,Fx,F,f,l,λa ⟨k,L,_⟩=>⟨Fw,h (.say a) (aR L) (aM _)⟩⟩
 |succ e=>
  refine gU (λv=>∃o:Option Ch,(∀c,o=some c->c∈vZ fs g m)/\v=Jz fs g o) (λq j=>⟨_,Fx,?_⟩) ?_
  ·show(if decide ((0:Int)<((e+1:Nat):Int))=true then _ else q .none);rw[b8 (a8 Fu)];exact⟨_,Fx,_,Fx,_,Fx,fs,an,g,m,Fx,F,f,l,λo W=>j _ ⟨o,W,Fx⟩⟩
  rintro _ ⟨o,W,rfl⟩
  cases o with
  |none=>
   refine fY (λb=>b=true) (λq j=>⟨_,Fx,j _ Fx⟩) (λ_=>?_) λS=>by cases S
   refine⟨_,Fx,_,Fx,fs,an,g,Fx,F,f,l,λa ⟨k,L,_⟩=>⟨Fw,h (.say a) (aR L) (dE _)⟩⟩
  |some c=>
   have hc:=(bC.mp (W c Fx)).1;obtain⟨j,hs⟩:=UH hc;have p:=RI j;refine fY (λb=>b=false) (λq j=>⟨_,Fx,j _ Fx⟩) (λhT=>by cases hT) λ_=>?_
   try unfold jP
   dsimp only;refine cT (.tuple [.list (iO fs c.1.1 c.1.2.1 c.1.2.2 c.2 g "yes"),.list (iO fs c.1.1 c.1.2.1 c.1.2.2 c.2 g "no")]) (λq r=>⟨_,Fx,_,Fx,_,Fx,_,Fx,_,Fx,_,Fx,fs,an,c.1.1,c.1.2.1,c.1.2.2,c.2,g,Fx,F,p,hs,f,l,r⟩) ?_;refine gU (λv=>∃y n,(kK fs an y/\y.dep<=e)/\(kK fs an n/\n.dep<=e)/\v=.list [jU y,jU n]) (λq r=>?_) ?_
   ·have es:((e+1:Nat):Int)-1=((e:Nat):Int):=by lia
    refine FL (ts:=[.list (iO fs c.1.1 c.1.2.1 c.1.2.2 c.2 g "yes"),.list (iO fs c.1.1 c.1.2.1 c.1.2.2 c.2 g "no")]) (λR h=>⟨_,Fx,_,Fx,h⟩) (λi _ y=>∃t,(kK fs an t/\t.dep<=e)/\y=jU t) Fw (λi x q hx u=>?_) λys vi J=>?_
    ·have hi:i<2:=(aC.mp hx).1;rcases(show i=0\/i=1 by lia)with rfl | rfl
     ·cases hx;exact⟨_,Fx,_,Fx,_,Fx,fs,c.1.1,c.1.2.1,c.1.2.2,c.2,"yes",g,Fx,l,_,Fx,_,Fx,fs,an,_,e,m,by rw[<- es]<;>rfl,F,f.filt _,bP (cI _ _) l,Fu,λt t1 t2=>u _ ⟨t,⟨t1,t2⟩,Fx⟩⟩
     ·cases hx;refine⟨_,Fx,_,Fx,_,Fx,fs,c.1.1,c.1.2.1,c.1.2.2,c.2,"no",g,Fx,l,?_⟩;rw[FH F p hs f];exact⟨_,Fx,_,Fx,fs,an,_,e,m,by rw[<- es]<;>rfl,F,f.filt _,bP (cI _ _) l,Fu,λt t1 t2=>u _ ⟨t,⟨t1,t2⟩,Fx⟩⟩
    ·match ys,vi,J with
     |[a,b],_,J=>
      obtain⟨y,E,rfl⟩:=J 0 _ a Fx Fx;obtain⟨n,H,rfl⟩:=J 1 _ b Fx Fx;exact r _ ⟨y,n,E,H,Fx⟩
   ·rintro _ ⟨y,n,E,H,rfl⟩;refine⟨_,Fx,_,Fx,_,Fx,_,Fx,_,Fx,_,Fx,_,Fx,_,Fx,Fw,h (.ask c.1.1 c.1.2.1 c.1.2.2 c.2 y n) ⟨p,hs,E.1,H.1⟩ (by have:=E.2;have:=H.2;show max y.dep n.dep+1<=e+1;lia)⟩
def Os:dP P w K mg base gQ 15 X fw ["form","rows","deep","least"] (cM K Uc):=by
 have h:∀dd:Nat,dP P w K mg base gQ (8+dd) X fw ["form","rows","deep","least"] (cM K (tJ dd)):=λdd=>by
  induction dd with
  |zero=>exact B1 tW λb Q h=>SL h
  |succ dd a=>exact VV T dd a
 exact h 7
def Y4:dP P w K mg base gQ 1 jl mz ["tree"] (cM K Uh):=by
 refine mB T.D_15.F Ri λc nd b Q h=>?_;obtain⟨t,rfl,h⟩:=h;refine⟨_,(bB (cJ (oA lD oS (bJ aX cD (aG 0) aN) eI))),?_⟩
 cases t with
 |say a=>exact⟨_,Fx,_,Fx,h⟩
 |ask k n v s y m=>exact⟨_,Fx,_,Fx,h⟩
def Lv:dP P w K mg base gQ 1 vw wg ["kind","field"] (cM K Mp):=by
 refine mB T.D_4.F Mg λd nd b Q h=>?_;obtain⟨k,f,rfl,c,h⟩:=h;refine⟨_,(bB (cJ (D5 (dN lD oS (aG 0) eI) (gI kI qJ (bJ aX cD (aG 1) aN) jB (gW (FS aN))) (bJ aX cD (aG 1) aN)))),?_⟩;show yB _ _ [.val (.str k),.val (iZ f)];refine⟨_,Fx,?_⟩;show(if decide (k="upto")=true then _ else _);unfold xP at h;by_cases e:k="upto"
 ·rw[b8 (a8 e)];rw[b8 e]at h;have a:kD (f.2.map aO) none (some (-1))=(f.2.take (f.2.length-1)).map aO:=by rw[nJ,O9]
  refine⟨_,Fx,_,Fx,?_⟩;show Q (.tuple (kD (f.2.map aO) none (some (-1))));rw[a];exact h
 ·rw[a9 (by simpa using e)];rw[a9 e]at h;exact⟨_,Fx,_,Fx,h⟩
def DR:dP P w K mg base gQ 1 lk pq ["words","number","right"] (cM K Vs):=by
 refine mB T.D_57.F Tc λv nd x Q h=>?_;obtain⟨c,i,w,R,r,rfl,o,f,hw,l,h⟩:=h;refine⟨_,(aS (fQ (vD (zB (dN R3 sS (aG 1) (cB iK (aA (aG 0) aJ) cZ T.b_len fL)) (vO (dN (nC v) mS (bJ aX cD (aG 0) (aG 1)) (aG 2)))))
 (bB zD)
 eM)
 (bB (cJ (bJ aX cD (aG 0) (aG 1))))),?_⟩
 show fR _ _ _ [.val (.list (c.map aO)),.val (.int i),.val r];have t:=(aC.mp o).1;have a:L2.atI (c.map aO) (i:Int)=some (.str w):=L2.eB (by rw[aF,o];rfl);have s:=jV (l w hw) (n:=8) (m:=0) (aM _);have d:=s.cd Ft
 have hok:tQ (.str w) r/\AS (.str w) r=true:=by
  obtain⟨g,j,k⟩:=L9 l d
  have e:((R.map aO).any λz=>cE z (.str w))=true:=by
   rw[IS];exact a8 hw
  rcases f with rfl | rfl
  ·exact⟨⟨g,j,k⟩,e⟩
  ·exact⟨⟨g,j,k⟩,e⟩
 refine fY (λb=>b=false) (λq u=>⟨_,Fx,_,Fx,?_⟩) (λp=>by cases p) λ_=>?_
 ·have e:decide ((((c.map aO).length:Nat):Int)<=(i:Int))=false:=c6 (by rw[aB];lia);show(if decide ((((c.map aO).length:Nat):Int)<=(i:Int))=true then _ else _);rw[e,a9 Ft];exact⟨_,Fx,_,Fx,_,a,_,Fx,hok.1,u _ (by show(!AS (.str w) r)=false;rw[hok.2];rfl)⟩
 ·try unfold jP
  dsimp only;exact⟨_,Fx,_,Fx,_,a,h⟩
def Py:dP P w K mg base gQ 2 lj po ["form","words","start"] (cM K Vr):=by
 refine mB T.D_56.F Ta λo nd ds Q h=>?_;obtain⟨fs,an,r,i,k,n,v,rfl,F,a,hn,hk,hv,h⟩:=h;refine⟨_,(aS (qQ (i:=3) (fr:=[none]) (N':=["field"]) (dS (bJ aX cD (aG 0) aN)) (λb=>⟨(dB (pk 0)),gZ,(bJ aX cD (aG 0) aN)⟩) (λl hY=>pC (show sN _ (bF (top 80)) ["form","words","start","names","name","kind","value"] ["field"] [none]=true from by decide +kernel) nd Fx (by first | exact t9 Fx | exact o8 Fx) Fx l hY Fx))
 (aS (ss 4 nd (cd (DR T) T.D_57 o (aA (aG 1) (aA (aG 2) (aA (aG 3) aJ)))))
 (aS (ss 5 nd (cd (DR T) T.D_57 o (aA (aG 1) (aA (cN cG fJ (aG 2) aN) (aA (FU Fx T.c_KINDS T.t_KINDS) aJ)))))
 (aS (ss 6 nd (cd (DR T) T.D_57 o (aA (aG 1) (aA (cN cG fJ (aG 2) aN) (aA (cd (Lv T) T.D_4 o (aA (aG 5) (aA (bJ aX cD (bJ aX cD (aG 0) aN) (yQ (aG 3) (aA (aG 4) aJ) (λh ha=>jZ bY rF rE (yK o) h ha))) aJ))) aJ)))))
 (bB (cJ (eK (aA (aG 5) (aA (aG 4) (aA (aG 6) aJ)))))))))),?_⟩
 show fR _ _ _ [.val (dO fs an),.val (.list (r.map aO)),.val (.int i),.un,.un,.un,.un];obtain⟨f,p,g,J,c⟩:=qB a;obtain⟨j,t⟩:=bU p;have n5:=F.n5;have ud:=(aC.mp t).1;have d:n∈fs.map (·.1):=aU.mpr ⟨f,p,g⟩;obtain⟨v2,v5,gS,L,H⟩:=F.vs f p;have e1:(i:Int)+1=((i+1:Nat):Int):=rfl;have e2:(i:Int)+2=((i+2:Nat):Int):=rfl;have W:(fs.map iZ).map fst=(fs.map (·.1)).map aO:=by rw[bL,bL];rfl
 refine cT (.list ((fs.map (·.1)).map aO)) (λq a=>?_) ?_
 ·refine iU (ts:=fs.map iZ) (λR h=>⟨_,Fx,_,Fx,_,Fx,h⟩) fst (by rw[aB];lia) (λx q hx a=>?_) ?_
  ·obtain⟨f,p,rfl⟩:=aU.mp hx;exact⟨_,Fx,_,Fx,a⟩
  ·rw[W];exact a
 refine cT (.str n) (λq a=>⟨_,Fx,_,Fx,_,Fx,r,i,n,_,_,Fx,hn,.inr Fx,d,F.nd.2.1,a⟩) ?_;refine cT (.str k) (λq a=>⟨_,Fx,_,Fx,r,i+1,k,["is","upto"],_,Fx,hk,.inl Fx,?_,λy hy=>?_,a⟩) ?_
 ·rcases c with rfl | ⟨rfl,_⟩<;>simp
 ·rcases bA.mp hy with rfl | hy
  ·exact SF
  ·rw[bW.mp hy];exact FI
 have m:=qS F.nd.2.1 d
 have ej:(fs.map (·.1)).idxOf n=j:=by
  have l:(fs.map (·.1)).idxOf n<(fs.map (·.1)).length:=fT.mpr d;have h1:(fs.map (·.1))[(fs.map (·.1)).idxOf n]?=some n:=by rw[aD l,lI l]
  have h2:(fs.map (·.1))[j]?=some n:=by rw[aF,t,<- g];rfl
  exact(rJ l F.nd.2.2).mp (h1.trans h2.symm)
 rw[ej]at m;have s:L2.atI (fs.map iZ) (j:Int)=some (iZ f):=L2.eB (by rw[aF,t];rfl);have u:k="is"\/k="upto":=c.imp id λz=>z.1
 have E:v∈xP k f:=by
  have e:=UP H u (.str v)
  have S:Fy f (.str k) (.str v)=true:=by
   show(decide (v∈f.2)&&(decide (k="is")||(decide (k="upto")&&decide (f.2.idxOf v+1<f.2.length))))=true;rw[a8 J,oU,gT,cL,i0,i0,i0];exact c
  rw[S]at e;exact c5 e
 refine cT (.str v) (λq a=>⟨_,Fx,_,Fx,_,Fx,_,Fx,_,Fx,_,Fx,_,Fx,_,Fx,_,j,Fx,m,Fu,_,s,k,f,Fx,v5,r,i+2,v,xP k f,_,Fx,hv,.inl Fx,E,λy hy=>L y (PM hy),a⟩) ?_;exact⟨_,Fx,_,Fx,_,Fx,aI Fx,h⟩
def VS(dd:Nat)
  (f:dP P w K mg base gQ (2+dd) ft fz ["form","words","start","within","knots"] (cM K (tG dd))):dP P w K mg base gQ (2+dd+1) ft fz ["form","words","start","within","knots"] (cM K (tG (dd+1))):=by
 refine mB T.D_55.F SZ λi nd ds Q h=>?_;obtain⟨fs,an,pre,post,t,w,k,rfl,F,H,hw,hk,hd,h⟩:=h;refine⟨_,(aS (fQ (dN lD oS (cd (hk:=by lia) (DR T) T.D_57 i (aA (aG 1) (aA (aG 2) (aA (eK (aA eI (aA eI aJ))) aJ)))) eI)
 (bB (cJ (eK (aA (eK (aA eI (aA (cd (hk:=by lia) (DR T) T.D_57 i (aA (aG 1) (aA (cN cG fJ (aG 2) aN) (aA (bJ aX cD (aG 0) aN) aJ)))) aJ))) (aA (cN cG fJ (aG 2) aN) (aA (aG 4) aJ))))))
 eM)
 (aS (fQ (vD (zB (dN lD oS (aG 3) (sB Fx T.c_MOST_DEEP)) (vO (dN lD oS (aG 4) (sB Fx T.c_MOST_KNOTS)))))
 (bB zD)
 eM)
 (aS (ss 5 nd (cd (hk:=by lia) (Py T) T.D_56 i (aA (aG 0) (aA (aG 1) (aA (cN cG fJ (aG 2) aN) aJ)))))
 (aS (ss 6 nd (cd (hk:=by lia) (DR T) T.D_57 i (aA (aG 1) (aA (cN cG fJ (aG 2) aN) (aA (FU Fx T.c_SIDES T.t_SIDES) aJ)))))
 (aS (ss 7 nd (cd (hk:=by lia) f T.D_55 i (aA (aG 0) (aA (aG 1) (aA (cN cG fJ (aG 2) aN) (aA (cN cG fJ (aG 3) aN) (aA (cN cG fJ (aG 4) aN) aJ)))))))
 (aS (ss 8 nd (cd (hk:=by lia) f T.D_55 i (aA (aG 0) (aA (aG 1) (aA (bJ aX cD (aG 7) aN) (aA (cN cG fJ (aG 3) aN) (aA (bJ aX cD (aG 7) aN) aJ)))))))
 (bB (cJ (eK (aA (eK (aA eI (aA (aG 5) (aA (aG 6) (aA (bJ aX cD (aG 7) aN) (aA (bJ aX cD (aG 8) aN) aJ)))))) (aA (bJ aX cD (aG 8) aN) (aA (bJ aX cD (aG 8) aN) aJ)))))))))))),?_⟩
 have two:∀y∈(["say","ask"]:List Str),sW y=true:=λy hy=>by
  rcases bA.mp hy with rfl | hy
  ·exact KB
  ·rw[bW.mp hy];exact KD
 have a2:=F.a2
 cases t with
 |say a=>
  show fR _ _ _ [.val (dO fs an),.val (.list ((pre++(eE (.say a)++post)).map aO)),.val (.int pre.length),.val (.int w),.val (.int k),.un,.un,.un,.un];have p:(pre++(eE (.say a)++post))[pre.length]?=some "say":=by rw[cA (aM _),AI];rfl
  have L:(pre++(eE (.say a)++post))[pre.length+1]?=some a:=by rw[cA Fu,JJ];rfl
  refine fY (λb=>b=true) (λq g=>⟨_,Fx,_,Fx,aI Fx,_,pre.length,"say",["say","ask"],_,Fx,p,.inl Fx,aP ..,two,g _ Fx⟩) (λ_=>?_) λR=>by cases R
  exact⟨_,Fx,_,Fx,_,Fx,_,Fx,_,pre.length+1,a,an,_,Fx,L,.inl Fx,H,F.an.2.1,aI Fx,_,Fx,_,Fx,aI Fx,h⟩
 |ask c n v s y m=>
  show fR _ _ _ [.val (dO fs an),.val (.list ((pre++(eE (.ask c n v s y m)++post)).map aO)),.val (.int pre.length),.val (.int w),.val (.int k),.un,.un,.un,.un];have J:(Tr.ask c n v s y m).dep=max y.dep m.dep+1:=rfl;have z:(Tr.ask c n v s y m).kn=y.kn+m.kn+1:=rfl;rw[J]at hd hw;rw[z]at hk;obtain⟨g,hs,hy,S⟩:=H
  have e:∀j:Nat,(pre++(eE (.ask c n v s y m)++post))[pre.length+j]?=((["ask",n,c,v,s]:List Str)++(eE y++(eE m++post)))[j]?:=λj=>by
   rw[cA Fu,JJ];show(((["ask",n,c,v,s]:List Str)++(eE y++eE m))++post)[j]?=_;rw[eF,eF]
  have p:(pre++(eE (.ask c n v s y m)++post))[pre.length]?=some "ask":=e 0;refine fY (λb=>b=false) (λq g=>⟨_,Fx,_,Fx,aI Fx,_,pre.length,"ask",["say","ask"],_,Fx,p,.inl Fx,Fv,two,g _ ?_⟩) (λr=>by cases r) λ_=>?_
  ·decide +kernel
  try unfold jP
  dsimp only;refine fY (λb=>b=false) (λq g=>⟨_,Fx,?_⟩) (λr=>by cases r) λ_=>?_
  ·have u:decide ((w:Int)=30)=false:=c6 Fu;have x:decide ((k:Int)=500)=false:=c6 Fu;show(if decide ((w:Int)=30)=true then _ else _);rw[u,a9 Ft];refine⟨_,Fx,?_⟩;show q (decide ((k:Int)=500));rw[x];exact g _ Fx
  try unfold jP
  dsimp only;refine cT (.tuple [.str c,.str n,.str v]) (λq d=>⟨_,Fx,_,Fx,_,Fx,fs,an,_,pre.length+1,c,n,v,Fx,F,g,e 1,e 2,e 3,d⟩) ?_;have W:s∈(["yes","no"]:List Str):=by rcases hs with rfl | rfl<;>simp
  refine cT (.str s) (λq d=>⟨_,Fx,_,Fx,_,pre.length+4,s,["yes","no"],_,Fx,e 4,.inl Fx,W,λy hy=>?_,d⟩) ?_
  ·rcases bA.mp hy with rfl | hy
   ·exact KA
   ·rw[bW.mp hy];exact SE
  have E:pre++(eE (.ask c n v s y m)++post)=(pre++(["ask",n,c,v,s]:List Str))++(eE y++(eE m++post)):=by
   show pre++(((["ask",n,c,v,s]:List Str)++(eE y++eE m))++post)=_;simp only[eF]
  have o:pre++(eE (.ask c n v s y m)++post)=(pre++(["ask",n,c,v,s]:List Str)++eE y)++(eE m++post):=by
   rw[E];simp only[eF]
  have el:(pre++(["ask",n,c,v,s]:List Str)).length=pre.length+5:=by rw[aV];rfl
  have l:(pre++(["ask",n,c,v,s]:List Str)++eE y).length=pre.length+5+(eE y).length:=by rw[aV,el]
  refine cT (.tuple [jU y,.int ((pre.length+5+(eE y).length:Nat):Int),.int ((k+1+y.kn:Nat):Int)]) (λq d=>⟨_,Fx,_,Fx,_,Fx,_,Fx,_,Fx,fs,an,pre++(["ask",n,c,v,s]:List Str),eE m++post,y,w+1,k+1,?_,F,hy,Fu,Fu,Fu,?_⟩) ?_
  ·rw[E,el];rfl
  ·rw[el];exact d
  refine cT (.tuple [jU m,.int ((pre.length+5+(eE y).length+(eE m).length:Nat):Int),.int ((k+1+y.kn+m.kn:Nat):Int)]) (λq d=>⟨_,Fx,_,Fx,_,Fx,_,Fx,_,Fx,_,Fx,_,Fx,fs,an,pre++(["ask",n,c,v,s]:List Str)++eE y,post,m,w+1,k+1+y.kn,?_,F,S,Fu,Fu,Fu,?_⟩) ?_
  ·rw[o,l];rfl
  ·rw[l];exact d
  refine⟨_,Fx,_,Fx,_,Fx,_,Fx,_,Fx,_,Fx,aI Fx,_,Fx,_,Fx,_,Fx,_,Fx,aI Fx,?_⟩
  have u:pre.length+(eE (.ask c n v s y m)).length=pre.length+5+(eE y).length+(eE m).length:=by
   show pre.length+((["ask",n,c,v,s]:List Str)++(eE y++eE m)).length=_;rw[aV,aV];show pre.length+(5+_)=_;lia
  have x:k+(Tr.ask c n v s y m).kn=k+1+y.kn+m.kn:=by rw[z];lia
  rw[u,x]at h;exact h
def Px:dP P w K mg base gQ 33 ft fz ["form","words","start","within","knots"] (cM K Vq):=by
 have h:∀dd:Nat,dP P w K mg base gQ (2+dd) ft fz ["form","words","start","within","knots"] (cM K (tG dd)):=λdd=>by
  induction dd with
  |zero=>exact B1 tW λb Q h=>SI h
  |succ dd a=>exact VS T dd a
 exact h 31
def Pw:dP P w K mg base gQ 34 li pj ["form","text"] (cM K Vp):=by
 refine mB T.D_54.F Sz λf nd g Q h=>?_;obtain⟨fs,an,t,rfl,F,c,hd,hk,h⟩:=h;refine⟨_,(aS (ss 2 nd (T9 (aG 1) (aA eI aJ) (λh e=>jZ nL PySem.F.slot_str_split PySem.F.type_str_split SW h e)))
 (aS (ss 3 nd (cd (Px T) T.D_55 f (aA (aG 0) (aA (aG 2) (aA aN (aA aN (aA aN aJ)))))))
 (aS (fQ (dN L7 sS (bJ aX cD (aG 3) aN) (cB iK (aA (aG 2) aJ) cZ T.b_len fL))
 (bB zD)
 eM)
 (bB (cJ (bJ aX cD (aG 3) aN)))))),?_⟩
 show fR _ _ _ [.val (dO fs an),.val (.str (mR t)),.un,.un];have i:=xZ F c;refine cT (.list ((eE t).map aO)) (λq a=>⟨_,Fx,_,Fx,?_⟩) ?_
 ·show(oN.length==0)=false/\(mR t).length<=100000/\q (.list ((Txt.split (mR t) oN).map aO));rw[GR F c];exact⟨Fq,Fu,a⟩
 refine cT (.tuple [jU t,.int ((0+(eE t).length:Nat):Int),.int ((0+t.kn:Nat):Int)]) (λq a=>⟨_,Fx,_,Fx,fs,an,[],[],t,0,0,?_,F,c,Fu,Fu,Fu,a⟩) ?_
 ·rw[dU];rfl
 refine fY (λb=>b=false) (λq a=>⟨_,Fx,_,Fx,_,Fx,a _ ?_⟩) (λd=>by cases d) λ_=>?_
 ·refine c6 ?_;rw[aB];lia
 try unfold jP
 dsimp only;exact⟨_,Fx,_,Fx,h⟩
def VT(dd:Nat)
  (d:dP P w K mg base gQ (1+dd) Z fy ["tree"] (cM K (tH dd))):dP P w K mg base gQ (1+dd+1) Z fy ["tree"] (cM K (tH (dd+1))):=by
 refine mB T.D_53.F Sy λi nd z Q h=>?_;obtain⟨fs,an,t,rfl,F,o,hk,hd,h⟩:=h;refine⟨_,(aS (fQ (tv (cd (hk:=by lia) (Y4 T) T.D_15 i (aA (aG 0) aJ)))
 (bB (cJ (UB eI (aA (aG 0) aJ) (λh f=>jZ nL sV sU SX h f))))
 eM)
 (aS (ss 1 nd (bJ aX cD (aG 0) aN))
 (aS (ss 2 nd (nZ (aA eI (aA (bJ aX cD (aG 1) aN) (aA (bJ aX cD (aG 1) aN) (aA (bJ aX cD (aG 1) aN) (aA (bJ aX cD (aG 0) aN) (aA (cd (hk:=by lia) d T.D_53 i (aA (bJ aX cD (aG 0) aN) aJ)) (aA (cd (hk:=by lia) d T.D_53 i (aA (bJ aX cD (aG 0) aN) aJ)) aJ)))))))))
 (bB (cJ (MU eI (aA (aG 2) aJ) (λh f=>jZ nL sV sU MG h f))))))),?_⟩
 cases t with
 |say a=>
  show fR _ _ _ [.val (jU (.say a)),.un,.un];refine fY (λb=>b=true) (λq c=>⟨_,Fx,.say a,Fx,c _ Fx⟩) (λ_=>?_) λu=>by cases u
  have l:=KC (pA F (.say a) o);refine⟨oN,Fx,_,Fx,eE (.say a),Fx,?_,h⟩;have e:oN.length=1:=by decide +kernel
  rw[e];have:(eE (.say a)).length=2:=rfl;lia
 |ask k n v s y m=>
  show fR _ _ _ [.val (jU (.ask k n v s y m)),.un,.un];have p:(Tr.ask k n v s y m).dep=max y.dep m.dep+1:=rfl;have r:(Tr.ask k n v s y m).kn=y.kn+m.kn+1:=rfl;rw[p]at hd;rw[r]at hk;obtain⟨c,hs,j,g⟩:=o;refine fY (λb=>b=false) (λq c=>⟨_,Fx,.ask k n v s y m,Fx,c _ Fx⟩) (λx=>by cases x) λ_=>?_
  try unfold jP
  dsimp only;refine cT (.tuple [.str k,.str n,.str v]) (λq c=>⟨_,Fx,_,Fx,c⟩) ?_;refine cT (.list ((["ask",n,k,v,s,mR y,mR m]:List Str).map aO)) (λq c=>⟨_,Fx,_,Fx,_,Fx,_,Fx,_,Fx,_,Fx,_,Fx,_,Fx,_,Fx,_,Fx,fs,an,y,Fx,F,j,Fu,Fu,_,Fx,_,Fx,fs,an,m,Fx,F,g,Fu,Fu,aI Fx,c⟩) ?_;have H:=xZ F j;have J:=xZ F g;have l:=KC (ws:=[n,k,v,s]) λw hw=>pA F (.ask k n v s y m) ⟨c,hs,j,g⟩ w (cR.mpr (.inl (aK _ hw)));refine⟨oN,Fx,_,Fx,_,Fx,?_,?_⟩
  ·have e:oN.length=1:=by decide +kernel
   have E:("ask":Str).length=3:=by decide +kernel
   rw[e];simp only[aZ,mF,eR,List.sum_nil,bX,iM]at l |-
   lia
  ·rw[NX];exact h
def Pv:dP P w K mg base gQ 32 Z fy ["tree"] (cM K Vo):=by
 have h:∀dd:Nat,dP P w K mg base gQ (1+dd) Z fy ["tree"] (cM K (tH dd)):=λdd=>by
  induction dd with
  |zero=>exact B1 tW λb Q h=>SJ h
  |succ dd a=>exact VT T dd a
 exact h 31
def MC:dP P w K mg base gQ 1 jm nc ["form","rule","case"] (cM K Ui):=by
 refine mB T.D_16.F Rj λhr nd ds Q h=>?_;obtain⟨fs,an,r,c,rfl,F,v,S,h⟩:=h;refine⟨_,(bB (cJ (cB ZO (aA (el (fr:=[none,none]) (N':=["let","entry"]) (Ww (aA (bJ aX cD (aG 1) aN) (aA (aG 2) aJ)) (λh=>Xr Fx T.b_zip h)) (λb=>⟨(kP (kJ Fx (dH (pk 0) (dH (pk 1) iT)))),gZ,(oA (vR hr) BK (aG 1) (aG 0))⟩)) aJ) (xM Fx) T.b_all UL))),?_⟩;obtain⟨L,a⟩:=r;obtain⟨n,o⟩:=jA S;have n5:=F.n5;have f:L.length=fs.length:=v.1
 have d:∀e x,.tuple [e,x]∈xW (L.map aW) c->∃l,e=.tuple l/\EI x/\∀t∈l,EI t:=λe x s=>by
  obtain⟨i,p⟩:=bU s;obtain⟨H,x',u,J,y⟩:=GK p;simp only[aW.injEq,List.cons.injEq,and_true]at y;obtain⟨rfl,rfl⟩:=y;rw[aF]at u;obtain⟨l,k,rfl⟩:=bM.mp u;have j:i<fs.length:=by rw[<- f];exact(aC.mp k).1
  have E:fs[i]?=some fs[i]:=aD j;have g:=dL j;refine⟨l,Fx,?_,λt ht=>oK F g t (v.sub E k t ht)⟩;have:=o i _ x E J
  cases x with
  |none=>exact .inl Fx
  |str z=>exact .inr ⟨z,F.vals g z (c5 this),Fx⟩
  |_=>cases this
 show lA (f1 XB) _ _ Q;dsimp only[lA,nS,wC];refine FM (ts:=xW (L.map aW) c) (λR h=>⟨_,Fx,_,Fx,_,Fx,_,_,Fx,h⟩) (λx=>.bool (Ha x)) (by rw[wK];rw[aB];lia) (λx m=>?_) (λe x q s W=>?_) ?_
 ·obtain⟨i,p⟩:=bU m;obtain⟨x',H,_,_,rfl⟩:=GK p;exact⟨_,_,Fx⟩
 ·obtain⟨l,rfl,m,k⟩:=d e x s;refine⟨_,Fx,_,Fx,qX (qT m k).2 ?_⟩;show q (.bool (l.any λz=>cE z x));rw[sG m k];exact W
 ·refine⟨(xW (L.map aW) c).map Ha,by rw[bL];rfl,?_⟩;rw[MQ L c (n.trans f.symm)];exact h
def Y3:dP P w K mg base gQ 2 jo ng ["form","rules","case"] (cM K Uj):=by
 refine mB T.D_17.F Rk λm nd S Q h=>?_;obtain⟨fs,an,f,c,rfl,F,z,H,h⟩:=h;refine⟨_,(aS (sf (dS (aG 1)) (dB (pn 3 nd))
 (bB (fQ (tv (cd (MC T) T.D_16 m (aA (aG 0) (aA (aG 3) (aA (aG 2) aJ)))))
 (bB (cJ (bJ aX cD (aG 3) aN)))
 eM)))
 (bB (cJ lU))),?_⟩
 show fR _ _ _ [.val (dO fs an),.val (.list (f.map cC)),.val (.tuple c),.un]
 refine fD (ts:=f.map cC) (λR h=>⟨_,Fx,_,Fx,h⟩)
  (λi L=>∃o:Sl,L=[.val (dO fs an),.val (.list (f.map cC)),.val (.tuple c),o]/\∀r∈f.take i,fX r.1 c=false) ⟨_,Fx,λr m=>by simp at m⟩ (λi x p s k=>?_) λp k=>?_
 ·obtain⟨o,rfl,a⟩:=k;rw[aF]at s;obtain⟨r,g,rfl⟩:=bM.mp s;have n:=aR g;refine kR (λb=>b=fX r.1 c) (λq J=>⟨_,Fx,_,Fx,_,Fx,fs,an,r,c,Fx,F,z r n,H,J _ Fx⟩) (λE=>?_) λy=>?_
  ·have e:f.find? (λr=>fX r.1 c)=some r:=by
    have l:=(aC.mp g).1
    have t:f=f.take i++(r::f.drop (i+1)):=by
     have u:f[i]=r:=(aC.mp g).2;rw[<- u,<- fC l,fV]
    rw[t,nU]
    have v:(f.take i).find? (λr=>fX r.1 c)=none:=by
     rw[fN];intro j hr' d;rw[a j hr']at d;cases d
    rw[v,pX,fP (by exact E.symm)]
   rw[e]at h;exact⟨_,Fx,_,Fx,h⟩
  ·refine⟨_,Fx,λj hr'=>?_⟩;rw[bS,g]at hr';rcases cR.mp hr' with hr' | hr'
   ·exact a j hr'
   ·rw[bW.mp hr'];exact y.symm
 ·obtain⟨o,rfl,a⟩:=k;rw[aB,cU]at a
  have e:f.find? (λr=>fX r.1 c)=none:=by
   rw[fN];intro j hr' d;rw[a j hr']at d;cases d
  rw[e]at h;exact h
def YV:dP P w K mg base gQ 2 kb nz ["form","rule","cases"] (cM K Tk):=by
 refine mB T.D_30.F Qm λu nd y Q h=>?_;obtain⟨fs,an,r,g,rfl,F,p,j,h⟩:=h;refine⟨_,(aS (sf (dS (aG 2)) (dB (pn 3 nd))
 (bB (fQ (tv (cd (MC T) T.D_16 u (aA (aG 0) (aA (aG 1) (aA (aG 3) aJ)))))
 (bB (cJ (aG 3)))
 eM)))
 (bB (cJ lU))),?_⟩
 show fR _ _ _ [.val (dO fs an),.val (cC r),.val (hV g),.un]
 refine fD (ts:=g.map aW) (λR h=>⟨_,Fx,_,Fx,h⟩)
  (λi v=>∃s3:Sl,v=[.val (dO fs an),.val (cC r),.val (hV g),s3]/\∀c∈g.take i,fX r.1 c=false) ⟨_,Fx,λc j=>by simp at j⟩ (λi x m n k=>?_) λm k=>?_
 ·obtain⟨s3,rfl,a⟩:=k;rw[aF]at n;obtain⟨c,f,rfl⟩:=bM.mp n;have l:=aR f;refine kR (λb=>b=fX r.1 c) (λq t=>⟨_,Fx,_,Fx,_,Fx,fs,an,r,c,Fx,F,p,j c l,t _ Fx⟩) (λs=>?_) λo=>?_
  ·have e:g.find? (fX r.1)=some c:=MS f a s.symm;rw[e]at h;exact⟨_,Fx,h⟩
  ·refine⟨_,Fx,λd hd=>?_⟩;rw[bS,f]at hd;rcases cR.mp hd with hd | hd
   ·exact a d hd
   ·have:d=c:=by simpa using hd
    rw[this];exact o.symm
 ·obtain⟨s3,rfl,a⟩:=k;rw[aB,cU]at a;have e:g.find? (fX r.1)=none:=fN.mpr λc j=>by rw[a c j];decide
  rw[e]at h;exact h
def YY:dP P w K mg base gQ 2 jw nr ["form","rule","cases"] (cM K Tf):=by
 refine mB T.D_26.F Qi λj nd k Q h=>?_;obtain⟨fs,an,r,f,rfl,F,g,i,l,h⟩:=h;refine⟨_,(bB (cJ (el (fr:=[none,some 0,some 1]) (N':=["case","form","rule"]) (dS (aG 2)) (λb=>⟨(dB (pk 0)),(pO (EW (tv (cd (MC T) T.D_16 j (aA (aG 1) (aA (aG 2) (aA (aG 0) aJ))))))),(aG 0)⟩)))),?_⟩;refine mG (ts:=f.map aW) (λR h=>⟨_,Fx,_,Fx,h⟩) (λx=>match x with | .tuple c=>!fX r.1 c | _=>false) id (by rw[aB];lia) (λx q e d=>?_) (λx q e d=>⟨_,Fx,d⟩) ?_
 ·obtain⟨c,a,rfl⟩:=aU.mp e;exact⟨_,Fx,_,Fx,_,Fx,fs,an,r,c,Fx,F,g,i c a,d⟩
 ·rw[kM,kL];exact h
def YZ:dP P w K mg base gQ 1 jv nq ["rule","cases","answers"] (cM K (Te w)):=by
 refine mB T.D_25.F Qh λg nd n Q h=>?_;obtain⟨fs,an,r,j,ans,e,rfl,F,f,o,p,hk,h⟩:=h;refine⟨_,(bB (cJ (el (fr:=[none,some 2,some 0]) (N':=["case","answers","rule"]) (dS (aG 1)) (λb=>⟨(dB (pk 0)),(pO (dN (BI g) mS (IH (w:=w) Fx g.u9 (aG 1) (aG 0)) (bJ aX cD (aG 2) aN))),(aG 0)⟩)))),?_⟩;refine mG (ts:=j.map aW) (λR h=>⟨_,Fx,_,Fx,h⟩) (λx=>match x with | .tuple c=>!decide (ans c=r.2) | _=>false) id (by rw[aB];lia) (λx q i d=>?_) (λx q i d=>⟨_,Fx,d⟩) ?_
 ·obtain⟨c,a,rfl⟩:=aU.mp i;obtain⟨k,l,m⟩:=hk c a;refine⟨_,Fx,_,Fx,e,Fx,k,l,_,m,_,Fx,_,Fx,oC (sD (f c a).1) (sD (f c a).2),?_⟩;show q (!(ans c==r.2));rw[show(ans c==r.2)=decide (ans c=r.2) by rw[fH];simp];exact d
 ·rw[kM,kL];exact h
def YX:dP P w K mg base gQ 2 jz nv ["form","rule"] (cM K Ti):=by
 refine mB T.D_28.F Qk λH nd ds Q h=>?_;obtain⟨fs,an,r,rfl,F,E,h⟩:=h;refine⟨_,(aS (so 2 nd aJ)
 (aS (sf (TU (aA (bJ aX cD (aG 0) aN) aJ) (λh=>RS Fx T.b_enumerate h)) (kP (kJ Fx (dH (pn 3 nd) (dH (pn 4 nd) iT))))
 (bB (rR (i:=2) (pv 2) (el (fr:=[none,some 3,some 1]) (N':=["entry","number","rule"]) (dS (cd (R7 T) T.D_2 H (aA (aG 4) aJ))) (λb=>⟨(dB (pk 0)),(pO (dN (nC H) mS (aG 0) (bJ aX cD (bJ aX cD (aG 2) aN) (aG 1)))),(eK (aA (aG 1) (aA (aG 0) aJ)))⟩)) (pb:=λh=>jY (jZ bY gK gJ rW (pv 2) h)))))
 (jW 2 (bB (cJ (aG 2)))))),?_⟩
 show fR _ _ _ [.val (dO fs an),.val (cC r),.un,.un,.un];have n5:=F.n5;refine lC [] Fw (λq d=>d) ?_
 refine fD (ts:=tY (fs.map iZ)) (λR h=>⟨_,Fx,_,Fx,_,Fx,h⟩)
  (λi W=>∃(us:List (Nat×D))(s3 u:Sl),W=[.val (dO fs an),.val (cC r),.own (us.map pD),s3,u]/\us=BN fs r.1 i/\us.length<=10*i) ⟨[],_,_,Fx,Fx,aM _⟩ (λi x v t m=>?_) λv m=>?_
 ·obtain⟨us,s3,u,rfl,c,s⟩:=m
  have e:i<fs.length:=by
   have:=(aC.mp t).1;rw[kX,aB]at this;exact this
  have o:fs[i]?=some fs[i]:=aD e;have g:=dL e;rw[pF (a:=iZ fs[i]) (by rw[aF,o];rfl)]at t;cases t;have L:i<r.1.length:=by rw[E.1];exact e
  have n:r.1[i]?=some r.1[i]:=aD L;have k:=oK F g;have f:∀y∈r.1[i],EI y:=λy j=>k y (E.sub o n y j);have S:=(F.vs _ g).2.1;have el:=oM fs[i];have l:L2.atI (r.1.map aW) (i:Int)=some (.tuple r.1[i]):=L2.eB (by rw[aF,n];rfl);have p:BN fs r.1 (i+1)=us++((bZ fs[i]).filter λx=>!decide (x∈r.1[i])).map λx=>(i,x):=by rw[c];exact DU o n
  have J:=cI (λx=>!decide (x∈r.1[i])) (bZ fs[i]);refine⟨_,_,Fx,?_⟩;refine oJ (us:=(((bZ fs[i]).filter λx=>!decide (x∈r.1[i])).map λx=>((i,x):Nat×D)).map pD) Fx (by rw[aB,aB,aB];lia) (λq d=>?_) ⟨_,_,_,by rw[<- bK];rfl,p.symm,by rw[aV,aB];lia⟩;refine mG (ts:=bZ fs[i]) (λR h=>⟨_,Fx,_,Fx,S,_,Fx,h⟩) (λx=>!decide (x∈r.1[i])) (λx=>pD (i,x)) Fu (λy q j d=>?_) (λy q j d=>⟨_,Fx,_,Fx,Fw,d⟩) ?_
  ·refine⟨_,Fx,_,Fx,_,Fx,_,Fx,_,l,(qT (k y j) f).2,?_⟩;show q (!(r.1[i].any λz=>cE z y));rw[sG (k y j) f];exact d
  ·rw[bL]at d;exact d
 ·obtain⟨us,s3,u,rfl,c,s⟩:=m;rw[kX,aB]at c;have:us=fZ fs r.1:=c;subst this;exact⟨_,Fx,_,Fx,h⟩
def Y0:dP P w K mg base gQ 1 js nk ["lets","number","let"] (cM K Up):=by
 refine mB T.D_22.F Qe λg nd d Q h=>?_;obtain⟨L,j,e,rfl,c,f,h⟩:=h;refine⟨_,(bB (cJ (cN cG fJ (cN cG fJ (gI kI qJ (aG 0) jB (gW (aG 1))) (eK (aA (aG 2) aJ))) (gI kI qJ (aG 0) (gW (cN cG fJ (aG 1) aN)) jB)))),?_⟩;have a:(j:Int)+1=((j+1:Nat):Int):=by lia
 refine⟨_,Fx,_,Fx,_,Fx,Fw,?_⟩;show _/\_;refine⟨by rw[mE,bD];simp only[bX,iM,aB];lia,_,Fx,_,Fx,?_⟩;show _/\Q (.tuple (kD (L.map aW) none (some (j:Int))++[.tuple e]++kD (L.map aW) (some ((j:Int)+1)) none));rw[mE,a,vW]
 have b:(L.map aW).take j++[.tuple e]++(L.map aW).drop (j+1)=(L.set j e).map aW:=by
  rw[aC7,kF,b8 (by rw[aB];exact c),eF];rfl
 rw[b];refine⟨?_,h⟩;rw[aV,bD,eG,aB];simp only[bX,iM];lia
def YW:dP P w K mg base gQ 2 ka nw ["form","rule","number","entry"] (cM K Tj):=by
 refine mB T.D_29.F Ql λo nd L Q h=>?_;obtain⟨fs,an,r,j,f,x,rfl,F,p,i,H,h⟩:=h;refine⟨_,(aS (ss 4 nd (bJ aX cD (bJ aX cD (aG 1) aN) (aG 2)))
 (aS (ss 5 nd (cY qC (aA (el (fr:=[none,some 4,some 3]) (N':=["found","let","entry"]) (dS (cd (R7 T) T.D_2 o (aA (bJ aX cD (bJ aX cD (aG 0) aN) (aG 2)) aJ))) (λb=>⟨(dB (pk 0)),(pO (vD (zB (dN (vR o) BK (aG 0) (aG 1)) (vO (dN (yI o) mS (aG 0) (aG 2)))))),(aG 0)⟩)) aJ) jJ T.b_tuple oO))
 (bB (cJ (eK (aA (cd (Y0 T) T.D_22 o (aA (bJ aX cD (aG 1) aN) (aA (aG 2) (aA (aG 5) aJ)))) (aA (bJ aX cD (aG 1) aN) aJ))))))),?_⟩
 show fR _ _ _ [.val (dO fs an),.val (cC r),.val (.int (j:Int)),.val x,.un,.un];have n5:=F.n5;have k:=aR i;have v:=(aC.mp i).1;have E:j<r.1.length:=by rw[p.1];exact v
 have t:r.1[j]?=some r.1[j]:=aD E;have l:=p.sub i t;have c:=oK F k;have J:=(F.vs f k).2.1;have el:=oM f;rw[rP i t]at h;have g:∀y∈r.1[j],EI y:=λy d=>c y (l y d);have u:L2.atI (fs.map iZ) (j:Int)=some (iZ f):=L2.eB (by rw[aF,i];rfl);have s:L2.atI (r.1.map aW) (j:Int)=some (.tuple r.1[j]):=L2.eB (by rw[aF,t];rfl);refine cT (.tuple r.1[j]) (λq a=>⟨_,Fx,_,Fx,_,Fx,_,s,a⟩) ?_;refine cT (.tuple ((bZ f).filter λy=>decide (y∈r.1[j])||decide (y=x))) (λq a=>?_) ?_
 ·show lA (f1 vV) _ _ q;dsimp only[lA,nS,wC];refine mG (ts:=bZ f) (λR h=>⟨_,Fx,_,Fx,_,Fx,_,u,f,Fx,J,_,Fx,h⟩) (λy=>decide (y∈r.1[j])||decide (y=x)) id Fu (λy q d a=>?_) (λy q d a=>⟨_,Fx,a⟩) ?_
  ·refine⟨_,Fx,_,Fx,qX (qT (c y d) g).2 ?_⟩;show(if(r.1[j].any λz=>cE z y)=true then q true else _);rw[sG (c y d) g];by_cases e:y∈r.1[j]
   ·rw[a8 e]at a |-
    rw[b8 rfl];exact a
   ·rw[c6 e]at a |-
    rw[a9 Ft];refine⟨_,Fx,_,Fx,oC (((c y d).th (n:=8) (m:=0) (aM 8)).cd Ft) (((c x H).th (n:=8) (m:=0) (aM 8)).cd Ft),?_⟩;show q (cE y x);rw[FV (c y d) (c x H)];exact a
  ·rw[kM];exact a
 exact⟨_,Fx,_,Fx,_,Fx,_,Fx,r.1,j,_,Fx,E,by rw[p.1];exact n5,_,Fx,_,Fx,Fw,h⟩
def YT:dP P w K mg base gQ 1 kg oh ["rules","number"] (gX K To):=by
 refine T6 T.D_33.F Qq λc nd a Q h=>?_;obtain⟨d,k,rfl,b,h⟩:=h;refine⟨_,(bB (rQ (T5 (gI kI qJ (aG 0) jB (gW (aG 1))) (gI kI qJ (aG 0) (gW (cN cG fJ (aG 1) aN)) jB)))),?_⟩;refine⟨_,Fx,_,Fx,_,Fx,_,Fx,_,_,Fx,Fx,?_⟩;rw[mE,show((k:Int)+1)=((k+1:Nat):Int) by lia,vW];exact⟨by rw[bD,eG];lia,h⟩
def Oj:dP P w K mg base gQ 3 ki oj ["form","rule","against"] (gX K Ts):=by
 refine T6 T.D_35.F Qs λg nd v Q h=>?_;obtain⟨fs,an,r,l,rfl,F,c,n,h⟩:=h;refine⟨_,(bB (rQ (fl (fr:=[none,none,some 0,some 2,some 1]) (N':=["number","entry","form","against","rule"]) (dS (cd (YX T) T.D_28 g (aA (aG 0) (aA (aG 1) aJ)))) (λb=>⟨(kP (kJ Fx (dH (pk 0) (dH (pk 1) iT)))),gZ,(eK (aA (aG 0) (aA (aG 1) (aA (cd (YV T) T.D_30 g (aA (aG 2) (aA (cd (YW T) T.D_29 g (aA (aG 2) (aA (aG 4) (aA (aG 0) (aA (aG 1) aJ))))) (aA (aG 3) aJ)))) aJ))))⟩)))),?_⟩;have o:=BL F r.1;refine KU (FM (ts:=(fZ fs r.1).map pD) (λR h=>⟨_,Fx,_,Fx,fs,an,r,Fx,F,c,_,Fx,h⟩) (λx=>match x with | .tuple [.int j,y]=>pN fs r.1 l (j.toNat,y) | _=>.none) (by rw[aB];lia) (λx i=>?_) (λa b q i t=>?_) ?_)
 ·obtain⟨p,_,rfl⟩:=aU.mp i;exact⟨_,_,Fx⟩
 ·obtain⟨⟨j,y⟩,s,e⟩:=aU.mp i;cases e;obtain⟨f,e,m,z,k,u⟩:=(lT c).mp s;have d:=(aC.mp m).1;refine⟨_,Fx,_,Fx,_,Fx,_,Fx,_,Fx,_,Fx,_,Fx,fs,an,r,j,f,y,Fx,F,c,m,k,_,Fx,fs,an,(lX fs r.1 j y,r.2),l,Fx,F,EQ c d,n,Fw,t⟩
 ·show Q _;rw[bL];exact h
def Og:dP P w K mg base gQ 3 jy nu ["form","rule","against"] (cM K Tg):=by
 refine mB T.D_27.F Qj λz nd ds Q h=>?_;obtain⟨fs,an,r,a,rfl,F,o,hc,h⟩:=h;refine⟨_,(aS (ss 3 nd (aG 1))
 (aS (sf (dS (cd (YX T) T.D_28 z (aA (aG 0) (aA (aG 1) aJ)))) (kP (kJ Fx (dH (pn 4 nd) (dH (pn 5 nd) iT))))
 (aS (ss 6 nd (cd (YW T) T.D_29 z (aA (aG 0) (aA (aG 3) (aA (aG 4) (aA (aG 5) aJ))))))
 (bB (fQ (dN BJ HK (cd (YV T) T.D_30 z (aA (aG 0) (aA (aG 6) (aA (aG 2) aJ)))) lU)
 (bB (ss 3 nd (aG 6)))
 eM))))
 (bB (cJ (aG 3))))),?_⟩
 show fR _ _ _ [.val (dO fs an),.val (cC r),.val (hV a),.un,.un,.un,.un]
 have v:∀p∈fZ fs r.1,∃f,fs[p.1]?=some f/\p.2∈bZ f:=λp hp=>by
  obtain⟨f,e,m,_,n,_⟩:=(lT o (j:=p.1) (x:=p.2)).mp hp;exact⟨f,m,n⟩
 refine cT (cC r) (λq k=>⟨_,Fx,k⟩) ?_
 refine fD (ts:=(fZ fs r.1).map pD) (λR h=>⟨_,Fx,_,Fx,fs,an,r,Fx,F,o,_,Fx,h⟩)
  (λi σ=>∃(L:List (List D))(E H J:Sl),σ=[.val (dO fs an),.val (cC r),.val (hV a),.val (cC (L,r.2)),E,H,J]/\L=((fZ fs r.1).take i).foldl (qH fs a) r.1/\cW fs L) ⟨r.1,_,_,_,Fx,Fx,o⟩ (λi x S n s=>?_) λS s=>?_
 ·obtain⟨L,E,H,J,rfl,d,g⟩:=s;rw[aF]at n;obtain⟨⟨j,y⟩,l,rfl⟩:=bM.mp n;obtain⟨f,m,hy⟩:=v _ (aR l);have t:=(aC.mp m).1;have W:=EQ (x:=y) g t;have c:((fZ fs r.1).take (i+1)).foldl (qH fs a) r.1=qH fs a L (j,y):=by rw[bS,l,lW,<- d];rfl
  refine⟨_,_,Fx,?_⟩;refine cT (cC (lX fs L j y,r.2)) (λq k=>⟨_,Fx,_,Fx,_,Fx,_,Fx,fs,an,(L,r.2),j,f,y,Fx,F,g,m,hy,k⟩) ?_;refine kR (λb=>b=!a.any (fX (lX fs L j y))) (λq k=>⟨_,Fx,_,Fx,_,Fx,fs,an,(lX fs L j y,r.2),a,Fx,F,W,hc,k _ IU⟩) (λhT=>?_) λhF=>?_
  ·have u:a.any (fX (lX fs L j y))=false:=by simpa using hT.symm
   have e:qH fs a L (j,y)=lX fs L j y:=by unfold qH;rw[a9 (by rw[u];decide)]
   exact lM (cC (lX fs L j y,r.2)) (λq k=>⟨_,Fx,k⟩) ⟨_,_,_,_,Fx,by rw[c,e],W⟩
  ·have u:a.any (fX (lX fs L j y))=true:=by simpa using hF.symm
   have e:qH fs a L (j,y)=L:=by unfold qH;rw[b8 u]
   exact⟨L,_,_,_,Fx,by rw[c,e],g⟩
 ·obtain⟨L,E,H,J,rfl,d,g⟩:=s;rw[aB,cU]at d;subst d;exact⟨_,Fx,h⟩
def YU:dP P w K mg base gQ 3 kf og ["form","rules","number","answers"] (cM K (Tn w)):=by
 refine mB T.D_32.F Qp λo nd ds Q h=>?_;obtain⟨fs,an,a,k,r,all,ans,rfl,F,y,hk,hl,l,h⟩:=h;refine⟨_,(aS (ss 4 nd (qY (cF (YT T) T.D_33 o (aA (aG 1) (aA (aG 2) aJ)))))
 (aS (sf (W4 (aG 3)) (dB (pn 5 nd))
 (bB (fQ (vD (JQ (tv (cd (MC T) T.D_16 o (aA (aG 0) (aA (bJ aX cD (aG 1) (aG 2)) (aA (aG 5) aJ))))) (EV (dN (BI o) mS (cd (Y3 T) T.D_17 o (aA (aG 0) (aA (aG 4) (aA (aG 5) aJ)))) (IH (w:=w) Fx o.u9 (aG 3) (aG 5))))))
 (bB (cJ (aG 5)))
 eM)))
 (bB (cJ lU)))),?_⟩
 show fR _ _ _ [.val (dO fs an),.val (.list (a.map cC)),.val (.int (k:Int)),.val (qL w (lN all ans)),.un,.un];have E:L2.atI (a.map cC) (k:Int)=some (cC r):=L2.eB (by rw[aF,hk];rfl);have J:=y r (aR hk);have eo:(a.map cC).take k++(a.map cC).drop (k+1)=(a.take k++a.drop (k+1)).map cC:=by rw[bK,mY,rM]
 have W:∀q∈a.take k++a.drop (k+1),cW fs q.1/\q.2∈an:=λq hq=>by
  rcases cR.mp hq with hq | hq
  ·exact y q (dI hq)
  ·exact y q (jC hq)
 have s:∀kv∈lN all ans,oX kv.1:=λkv H=>by
  obtain⟨c,g,rfl⟩:=aU.mp H;exact(tU F (l c g).1).1
 refine cT (.list ((a.take k++a.drop (k+1)).map cC)) (λq hq=>⟨_,Fx,_,Fx,a.map cC,k,Fx,by rw[aB];lia,by rw[eo];exact hq⟩) ?_
 refine fD (ts:=all.map aW) (λR h=>⟨_,Fx,lN all ans,Fx,by rw[FN];exact h⟩)
  (λi σ=>∃L:Sl,σ=[.val (dO fs an),.val (.list (a.map cC)),.val (.int (k:Int)),.val (qL w (lN all ans)),.val (.list ((a.take k++a.drop (k+1)).map cC)),L]/\∀c∈all.take i,qV a k r ans c=false) ⟨_,Fx,λc l=>by simp at l⟩ (λi x S p v=>?_) λS v=>?_
 ·obtain⟨L,rfl,f⟩:=v;rw[aF]at p;obtain⟨c,j,rfl⟩:=bM.mp p;have g:=aR j;obtain⟨u,h2⟩:=l c g;have z:(aW c,aO (ans c))∈lN all ans:=aU.mpr ⟨c,g,Fx⟩
  have t:Cd (vA (pP (a.take k++a.drop (k+1)) c)):=by
   cases hf:pP (a.take k++a.drop (k+1)) c with
   |none=>exact(uM (n:=8) (m:=0)).cd Ft
   |some q=>exact sD (F.an.2.1 _ (W q (gF hf)).2)
  refine kR (λb=>b=qV a k r ans c) (λq hq=>?_) (λhT=>?_) λhF=>?_
  ·refine⟨_,Fx,_,Fx,_,Fx,_,E,_,Fx,fs,an,r,c,Fx,F,J.1,u,?_⟩;unfold qV at hq;show(if fX r.1 c=true then _ else q false)
   cases p:fX r.1 c with
   |false=>
    rw[p]at hq;rw[a9 Ft];exact hq _ Fx
   |true=>
    rw[p]at hq;rw[b8 rfl];exact⟨_,Fx,_,Fx,_,Fx,fs,an,_,c,Fx,F,λq hq=>(W q hq).1,u,_,Fx,_,Fx,lN all ans,Fx,tU F u,s,_,z,oC t (sD (F.an.2.1 _ h2)),hq _ Fx⟩
  ·have e:all.find? (qV a k r ans)=some c:=MS j f hT.symm;rw[e]at h;exact⟨_,Fx,h⟩
  ·refine⟨_,Fx,λd hd=>?_⟩;rw[bS,j]at hd;rcases cR.mp hd with hd | hd
   ·exact f d hd
   ·have:d=c:=by simpa using hd
    rw[this];exact hF.symm
 ·obtain⟨L,rfl,f⟩:=v;rw[aB,cU]at f;have e:all.find? (qV a k r ans)=none:=fN.mpr λc l=>by rw[f c l];decide
  rw[e]at h;exact h
def Oh:dP P w K mg base gQ 4 kc oe ["form","rules","answers"] (gX K (Tl w)):=by
 refine T6 T.D_31.F Qo λhr nd ds Q h=>?_;obtain⟨fs,an,c,all,ans,rfl,F,hR,hl,hc,S,h⟩:=h;refine⟨_,(aS (sF 3 nd (XC (aG 1) (pc:=λh=>kQ sE Fx T.b_list uT h)))
 (aS (sf (W3 (aA (cN yH OH (cB iK (aA (aG 1) aJ) cZ T.b_len fL) aN) (aA (FS aN) (aA (FS aN) aJ))) (λh=>WM Fx T.b_range h)) (dB (pn 4 nd))
 (bB (fQ (DJ 3 (dN BJ HK (cd (YU (w:=w) T) T.D_32 hr (aA (aG 0) (aA (aG 3) (aA (aG 4) (aA (aG 2) aJ))))) lU))
 (jW 3 (bB (sF 3 nd (cF (YT T) T.D_33 hr (aA (aG 3) (aA (aG 4) aJ))))))
 eM)))
 (bB (pB (pv 3))))),?_⟩
 show fR _ _ _ [.val (dO fs an),.val (.list (c.map cC)),.val (qL w (lN all ans)),.un,.un];have j:(c.map cC).length=c.length:=aB ..;refine GZ (c.map cC) (λq u=>⟨_,Fx,_,.inl Fx,u⟩) ?_
 refine fD (ts:=vG ((c.length:Int)-1)) (λR h=>⟨_,Fx,(c.length:Int)-1,by rw[j],Fu,Fu,h⟩)
  (λi σ=>∃(a:List Rl)(y:Sl),σ=[.val (dO fs an),.val (.list (c.map cC)),.val (qL w (lN all ans)),.own (a.map cC),y]/\Vy all ans c a (c.length-i)) ⟨c,_,Fx,S,λk hk d=>by lia,aM _,aM _,λP _ t=>t⟩ (λi x E o f=>?_) λE f=>?_
 ·obtain⟨a,y,rfl,n1,g,J,n4,n5⟩:=f
  have uc:i<c.length:=by
   have:=(aC.mp o).1;unfold vG at this;rw[aB,rH]at this;lia
  obtain⟨m,hm⟩:∃m:Nat,c.length-i=m+1:=⟨c.length-i-1,Fu⟩
  have v:x=.int (m:Int):=by
   unfold vG at o;rw[aF,gG Fu]at o;have:=c7 o;rw[<- this];exact g5 bN (show(c.length:Int)-1-(i:Int)=(m:Int) by lia)
  subst v;rw[hm]at g J;have l:m<a.length:=by lia
  have n:a[m]?=some a[m]:=aD l
  have hU:∀r∈a,cW fs r.1/\r.2∈an:=n5 (λa=>∀r∈a,cW fs r.1/\r.2∈an) (λa k H r hr=>by
   rcases cR.mp hr with hr | hr
   ·exact H r (dI hr)
   ·exact H r (jC hr)) hR
  rw[show c.length-(i+1)=m by lia];refine kR (λb=>b=true↔¬F9 all ans a m) (λq u=>⟨_,Fx,_,Fx,_,Fx,_,Fx,_,Fx,fs,an,a,m,a[m],all,ans,Fx,F,hU,n,Fu,hc,u _ (DW n)⟩) (λhT=>?_) λW=>?_
  ·have s:=hT.mp Fx;refine⟨_,Fx,?_⟩;have L:(a.map cC).take m++(a.map cC).drop (m+1)=(a.take m++a.drop (m+1)).map cC:=by rw[bK,mY,rM]
   have Ez:(a.take m++a.drop (m+1)).length+1=a.length:=by rw[aV,bD,eG];lia
   refine(show G0 3 _ _ _ from⟨_,Fx,_,Fx,a.map cC,m,Fx,by rw[aB];lia,?_⟩);rw[L];exact⟨_,_,Fx,XQ n1 l s,λk hk d=>OL n1 hk (g (k+1) Fu Fu),Fu,Fu,λP f t=>f a m (n5 P f t)⟩
  ·have s:F9 all ans a m:=x0 λz=>by have:=W.mpr z;cases this
   refine⟨a,_,Fx,n1,λk hk d=>?_,Fu,n4,n5⟩;by_cases e:k=m
   ·subst e;exact s
   ·exact g k Fu d
 ·obtain⟨a,y,rfl,n1,g,J,n4,n5⟩:=f;have p:(vG ((c.length:Int)-1)).length=c.length:=by unfold vG;rw[aB,rH];lia
  rw[p,AI]at g;exact⟨_,Fx,h a n1 (λk hk=>g k (dE _) hk) n4 n5⟩
def Of:dP P w K mg base gQ 4 ju nn ["form","rules","answers"] (cM K (Td w)):=by
 refine mB T.D_24.F Qg λs nd S Q h=>?_;obtain⟨fs,an,f,all,ans,rfl,F,E,W,l,J,h⟩:=h;refine⟨_,(aS (so 3 nd aJ)
 (aS (ss 4 nd (IG (aG 2) (pc:=λh=>kQ (sO Fx) Fx T.b_list uT h)))
 (aS (sf (dS (aG 1)) (dB (pn 5 nd))
 (aS (ss 6 nd (cd (Og T) T.D_27 s (aA (aG 0) (aA (aG 5) (aA (cd (YZ (w:=w) T) T.D_25 s (aA (aG 5) (aA (aG 4) (aA (aG 2) aJ)))) aJ)))))
 (aS (qI (i:=3) (pv 3) (aG 6) (pb:=λh=>jY (jZ bY eQ eP kT (pv 3) h)))
 (bB (ss 4 nd (cd (YY T) T.D_26 s (aA (aG 0) (aA (aG 6) (aA (aG 4) aJ)))))))))
 (jW 3 (bB (cJ (aG 3))))))),?_⟩
 show fR _ _ _ [.val (dO fs an),.val (.list (f.map cC)),.val (qL w (lN all ans)),.un,.un,.un,.un];refine lC [] Fw (λq d=>d) ?_;refine cT (hV all) (λq d=>⟨_,Fx,lN all ans,Fx,by rw[FN];exact d⟩) ?_
 refine fD (ts:=f.map cC) (λR h=>⟨_,Fx,_,Fx,h⟩)
  (λi L=>∃(g:List Rl)(left:List (List D))(u v:Sl),L=[.val (dO fs an),.val (.list (f.map cC)),.val (qL w (lN all ans)),.own (g.map cC),.val (hV left),u,v]/\g.length<=i/\g++vN fs ans (f.drop i) left=vN fs ans f all/\(∀c∈left,c∈all)/\left.length<=300) ⟨[],all,_,_,Fx,aM _,Fx,λc h=>h,J⟩ (λi x y z o=>?_) λy o=>?_
 ·obtain⟨g,left,u,v,rfl,t,m,a,b⟩:=o;rw[aF]at z;obtain⟨r,e,rfl⟩:=bM.mp z;have k:=E r (aR e);have n:=(aC.mp e).1;have p:∀c∈left.filter (λc=>!decide (ans c=r.2)),fE fs (.tuple c)=true:=λc h=>(l c (a c (bC.mp h).1)).1;have H:=GM (ag:=left.filter λc=>!decide (ans c=r.2)) k.1
  have j:f.drop i=r::f.drop (i+1):=by
   rw[fC n];rw[aD n]at e;rw[c7 e]
  rw[j]at m;refine cT (cC (jO fs (left.filter λc=>!decide (ans c=r.2)) r.1,r.2)) (λq d=>⟨_,Fx,_,Fx,_,Fx,_,Fx,_,Fx,fs,an,r,left,ans,lN all ans,Fx,F,λc h=>⟨F.an.2.1 _ (l c (a c h)).2,F.an.2.1 _ k.2⟩,λc h=>(l c (a c h)).1,b,λc h=>TH F l (a c h),fs,an,r,_,Fx,F,k.1,p,d⟩) ?_;refine LW (cC (jO fs (left.filter λc=>!decide (ans c=r.2)) r.1,r.2)) Fx (by rw[aB];lia) (λq d=>⟨_,Fx,d⟩) ?_;refine lM (hV (left.filter λc=>!fX (jO fs (left.filter λc=>!decide (ans c=r.2)) r.1) c)) (λq d=>⟨_,Fx,_,Fx,_,Fx,fs,an,(jO fs (left.filter λc=>!decide (ans c=r.2)) r.1,r.2),left,Fx,F,H,λc h=>(l c (a c h)).1,b,d⟩) ?_;refine⟨g++[(jO fs (left.filter λc=>!decide (ans c=r.2)) r.1,r.2)],_,_,_,by rw[bK];rfl,by rw[aV];show _+1<=_;lia,?_,λc h=>a c (bC.mp h).1,bP (cI _ _) b⟩;rw[<- m,eF];rfl
 ·obtain⟨g,left,u,v,rfl,t,m,a,b⟩:=o;rw[aB,List.drop_length]at m;have:g=vN fs ans f all:=by rw[<- m];exact(dU g).symm
  subst this;exact⟨_,Fx,_,Fx,h⟩
def Oi:dP P w K mg base gQ 4 kh oi ["form","rules","answers"] (cM K (Tq w)):=by
 refine mB T.D_34.F Qr λl nd J Q h=>?_;obtain⟨fs,an,b,all,ans,rfl,F,y,E,g,z,h⟩:=h;refine⟨_,(aS (so 3 nd aJ)
 (aS (ss 4 nd (IG (aG 2) (pc:=λh=>kQ (sO Fx) Fx T.b_list uT h)))
 (aS (sf (MO (aA (aG 1) aJ) (λh=>L3 Fx T.b_enumerate h)) (kP (kJ Fx (dH (pn 5 nd) (dH (pn 6 nd) iT))))
 (aS (ss 7 nd (qY (cF (Oj T) T.D_35 l (aA (aG 0) (aA (aG 6) (aA (cd (YZ (w:=w) T) T.D_25 l (aA (aG 6) (aA (aG 4) (aA (aG 2) aJ)))) aJ))))))
 (aS (qI (i:=3) (pv 3) (eK (aA (cd (YU (w:=w) T) T.D_32 l (aA (aG 0) (aA (aG 1) (aA (aG 5) (aA (aG 2) aJ))))) (aA (aG 7) aJ))) (pb:=λh=>jY (jZ bY eQ eP kT (pv 3) h)))
 (bB (ss 4 nd (cd (YY T) T.D_26 l (aA (aG 0) (aA (aG 6) (aA (aG 4) aJ)))))))))
 (jW 3 (bB (cJ (aG 3))))))),?_⟩
 show fR _ _ _ [.val (dO fs an),.val (.list (b.map cC)),.val (qL w (lN all ans)),.un,.un,.un,.un,.un];refine lC [] Fw (λq e=>e) ?_;refine cT (hV all) (λq e=>⟨_,Fx,lN all ans,Fx,by rw[FN];exact e⟩) ?_
 refine fD (ts:=tY (b.map cC)) (λR h=>⟨_,Fx,_,Fx,h⟩)
  (λi H=>∃(s t u:Sl),H=[.val (dO fs an),.val (.list (b.map cC)),.val (qL w (lN all ans)),.own (lL fs all ans b i),.val (hV (nF b i all)),s,t,u]) ⟨_,_,_,by rw[KJ];rfl⟩ (λi x v r n=>?_) λv n=>?_
 ·obtain⟨s,t,u,rfl⟩:=n
  have j:i<b.length:=by
   have:=(aC.mp r).1;rw[kX,aB]at this;exact this
  have m:b[i]?=some b[i]:=aD j;rw[pF (a:=cC b[i]) (by rw[aF,m];rfl)]at r;cases r;have f:=y b[i] (dL j);have d:∀c∈nF b i all,c∈all:=λc h=>(yL.mp h).1;have k:(nF b i all).length<=300:=bP (cI _ _) z;have o:∀c∈(nF b i all).filter (λc=>!decide (ans c=b[i].2)),fE fs (.tuple c)=true:=λc h=>(g c (d c (bC.mp h).1)).1;have p:(lL fs all ans b i).length=i:=zE ..;refine⟨_,_,Fx,?_⟩;refine cT (.list ((fZ fs b[i].1).map (pN fs b[i].1 ((nF b i all).filter λc=>!decide (ans c=b[i].2))))) (λq e=>⟨_,Fx,_,Fx,_,Fx,_,Fx,_,Fx,fs,an,b[i],nF b i all,ans,lN all ans,Fx,F,λc h=>⟨F.an.2.1 _ (g c (d c h)).2,F.an.2.1 _ f.2⟩,λc h=>(g c (d c h)).1,k,λc h=>TH F g (d c h),fs,an,b[i],_,Fx,F,f.1,o,e⟩) ?_;refine LW (A8 fs all ans b i b[i]) Fx (by rw[p];lia) (λq e=>⟨_,Fx,_,Fx,_,Fx,_,Fx,fs,an,b,i,b[i],all,ans,Fx,F,y,m,E,g,_,Fx,Fw,e⟩) ?_;refine lM (hV (nF b (i+1) all)) (λq e=>⟨_,Fx,_,Fx,_,Fx,fs,an,b[i],nF b i all,Fx,F,f.1,λc h=>(g c (d c h)).1,k,by rw[KL m];exact e⟩) ?_;exact⟨_,_,_,by rw[E2 m];rfl⟩
 ·obtain⟨s,t,u,rfl⟩:=n;rw[kX,aB];exact⟨_,Fx,_,Fx,h⟩
def Y2:dP P w K mg base gQ 4 jp nh ["form","rules","most"] (cM K (Uk w)):=by
 refine mB T.D_18.F Rm λn nd ds Q h=>?_;obtain⟨fs,an,e,m,rfl,F,S,hm,J,H,h⟩:=h;refine⟨_,(aS (fQ (dN wZ sS (cd (Jv T) T.D_0 n (aA (aG 0) aJ)) (aG 2))
 (bB zD)
 eM)
 (aS (sn 3 nd)
 (aS (sf (dS (qY (cF (Ls T) T.D_1 n (aA (aG 0) aJ)))) (dB (pn 4 nd))
 (aS (Q0 (i:=3) n.u9 (pv 3) (aG 4) (cd (Y3 T) T.D_17 n (aA (aG 0) (aA (aG 1) (aA (aG 4) aJ)))))
 (bB (fQ (dN BJ HK (UC (i:=3) n.u9 (pv 3) (aG 4) (by intro _ _;rfl)) lU)
 (bB zD)
 eM))))
 (NR 3 (bB (cJ (aG 3))))))),?_⟩
 show fR _ _ _ [.val (dO fs an),.val (.list (e.map cC)),.val (.int (m:Nat)),.un,.un];obtain⟨p1,p2⟩:=xF S;have Er:jR fs<=m:=by rw[<- uD,qZ];exact hm
 refine fY (λb=>b=false) (λq l=>⟨_,Fx,fs,an,Fx,F,_,Fx,l _ (c6 Fu)⟩) (λp=>by cases p) λ_=>?_
 try unfold jP
 dsimp only;refine Q5 (w:=w) (show 3<5 by decide) (λj hs kvs L=>?_) ?_
 ·rcases j with _ | _ | _ | _ | _ | j<;>simp at L
 have a:∀c∈cO (fs.map bZ),JA (.tuple c):=λc r=>tU F (lZ (cW.whole fs) ((gH _ c).mp r))
 have f:∀k,∀E∈((cO (fs.map bZ)).take k).map (λc=>(aW c,aO (iL e c))),oX E.1:=λk E u=>by
  obtain⟨c,r,rfl⟩:=aU.mp u;exact(a c (dI r)).1
 refine fD (ts:=(cO (fs.map bZ)).map aW) (λR h=>⟨_,Fx,fs,an,Fx,F,Fu,_,Fx,by rw[qZ];exact h⟩)
  (λk σ=>∃v:Sl,σ=[.val (dO fs an),.val (.list (e.map cC)),.val (.int (m:Nat)),K3 w (((cO (fs.map bZ)).take k).map λc=>(aW c,aO (iL e c))),v]) ⟨_,Fx⟩ (λk x y z o=>?_) λy o=>?_
 ·obtain⟨v,rfl⟩:=o;rw[aF]at z;obtain⟨c,g,rfl⟩:=bM.mp z;have d:=aR g;have s:=lZ (cW.whole fs) ((gH _ c).mp d);have W:(((cO (fs.map bZ)).take k).map λc=>(aW c,aO (iL e c))).length<=300:=by rw[aB,bD];lia
  refine Q4 (w:=w) (.tuple c) (.str (iL e c)) Fx (λq l=>⟨_,Fx,_,Fx,_,Fx,fs,an,e,c,Fx,F,J,s,by rw[F4 H d];exact l⟩) (λq l=>⟨_,Fx,l⟩) (a c d) (f k) Fu ?_;rw[RJ (WH F) g];have t:(aW c,aO (iL e c))∈((cO (fs.map bZ)).take (k+1)).map λc=>(aW c,aO (iL e c)):=aU.mpr ⟨c,by rw[bS,g];simp,Fx⟩;refine kR (λb=>b=false) (λq l=>⟨_,Fx,_,Fx,a c d,f (k+1),_,t,l _ Fx⟩) (λp=>by cases p) λ_=>⟨_,Fx⟩
 ·obtain⟨v,rfl⟩:=o;rw[aB,cU];exact⟨_,_,Fx,_,Fx,h⟩
def Oe:dP P w K mg base gQ 5 jt nl ["form","rules"] (cM K Uq):=by
 refine mB T.D_23.F Qf λhr nd z Q h=>?_;obtain⟨fs,an,a,rfl,F,S,g,s,m,h⟩:=h;refine⟨_,(aS (ss 2 nd (cd (Y2 (w:=w) T) T.D_18 hr (aA (aG 0) (aA (aG 1) (aA (sB Fx T.c_MOST_CASES_SHORTENED) aJ)))))
 (aS (ss 3 nd (qY (cF (Oh (w:=w) T) T.D_31 hr (aA (aG 0) (aA (cd (Of (w:=w) T) T.D_24 hr (aA (aG 0) (aA (aG 1) (aA (aG 2) aJ)))) (aA (aG 2) aJ))))))
 (bB (cJ (eK (aA (aG 3) (aA (cd (Oi (w:=w) T) T.D_34 hr (aA (aG 0) (aA (aG 3) (aA (aG 2) aJ)))) aJ))))))),?_⟩
 show fR _ _ _ [.val (dO fs an),.val (.list (a.map cC)),.un,.un];have b:∀c∈cO (fs.map bZ),fE fs (.tuple c)=true/\iL a c∈an:=λc l=>⟨lZ (cW.whole fs) ((gH _ c).mp l),uV m (λr hr=>(g r hr).2) l⟩;have e:=(xF S).1
 have hok:∀c∈cO (fs.map bZ),∃q,pP a c=some q/\q.2=iL a c:=λc l=>by
  unfold iL pP
  cases u:a.find? (λr=>fX r.1 c)with
  |none=>exact c8 u (m c l)
  |some r=>exact⟨r,Fx,Fx⟩
 obtain⟨p,o,y⟩:=LN (fs:=fs) (ans:=iL a) a (cO (fs.map bZ)) (λr hr=>(g r hr).1) hok;have j:∀r∈vN fs (iL a) a (cO (fs.map bZ)),cW fs r.1/\r.2∈an:=λr hr=>⟨p.lets r hr,o.ans (λr hr=>(g r hr).2) r hr⟩;have t:=o.length;refine⟨_,Fx,_,Fx,fs,an,a,300,Fx,F,S,e,λr hr=>(g r hr).1,m,?_⟩;refine⟨_,Fx,_,Fx,_,Fx,_,Fx,fs,an,a,cO (fs.map bZ),iL a,Fx,F,g,s,b,e,_,Fx,fs,an,vN fs (iL a) a (cO (fs.map bZ)),cO (fs.map bZ),iL a,Fx,F,j,Fu,b,y,λd v x E n=>?_⟩
 have i:sI fs an (cO (fs.map bZ)) (iL a) a d:=⟨v,x,Fu,n (λd=>mW fs (iL a) d (cO (fs.map bZ))) (λd k f=>f.without k) p,n (λd=>GB a d) (λd k f=>f.without k) o.emb,n (λd=>∀r∈d,cW fs r.1/\r.2∈an) (λd k f r hr=>by
  rcases cR.mp hr with hr | hr
  ·exact f r (dI hr)
  ·exact f r (jC hr)) j⟩
 exact⟨_,Fx,_,Fx,_,Fx,_,Fx,fs,an,d,cO (fs.map bZ),iL a,Fx,F,i.lets,Fu,b,e,Fw,h d i⟩
def Y1:dP P w K mg base gQ 2 jr nj ["form"] (cM K Um):=by
 refine mB T.D_20.F Ro λd nd j Q h=>?_;obtain⟨fs,an,rfl,F,h⟩:=h;refine⟨_,(bB (cJ (cY qC (aA (el (fr:=[none]) (N':=["field"]) (dS (bJ aX cD (aG 0) aN)) (λb=>⟨(dB (pk 0)),gZ,(cd (R7 T) T.D_2 d (aA (aG 0) aJ))⟩)) aJ) jJ T.b_tuple oO))),?_⟩;have n5:=F.n5;have e:(fs.map iZ).map (λx=>match x with | .tuple [_,.tuple vs]=>.tuple (vs++[.none]) | _=>x)=(fs.map bZ).map aW:=by rw[bL,bL];rfl
 show lA (f1 vV) _ _ Q;dsimp only[lA,nS,wC];refine iU (ts:=fs.map iZ) (λR h=>⟨_,Fx,_,Fx,_,Fx,h⟩) (λx=>match x with | .tuple [_,.tuple vs]=>.tuple (vs++[.none]) | _=>x) (by rw[aB];lia) (λx q g c=>?_) ?_
 ·obtain⟨f,a,rfl⟩:=aU.mp g;have i:=(F.vs f a).2.1;exact⟨_,Fx,f,Fx,i,c⟩
 ·show Q (.tuple _);rw[e];exact h
def VW(dd:Nat)
  (S:dP P w K mg base gQ (3+dd) U fv ["form","tree","lets"] (gX K (tK dd))):dP P w K mg base gQ (3+dd+1) U fv ["form","tree","lets"] (gX K (tK (dd+1))):=by
 refine T6 T.D_21.F Qd λJ nd ds Q h=>?_;obtain⟨fs,an,t,L,rfl,F,ht,E,hn,Cy,Ey,h⟩:=h;refine⟨_,(aS (fQ (tv (cd (hk:=by lia) (Y4 T) T.D_15 J (aA (aG 1) aJ)))
 (bB (rQ (Wo (aA (eK (aA (aG 2) (aA (bJ aX cD (aG 1) aN) aJ))) aJ))))
 eM)
 (aS (ss 3 nd (cd (hk:=by lia) (Jx T) T.D_9 J (aA (aG 0) (aA (bJ aX cD (aG 1) aN) aJ))))
 (aS (ss 4 nd (cd (hk:=by lia) (Y6 T) T.D_10 J (aA (bJ aX cD (aG 1) aN) (aA (bJ aX cD (aG 1) aN) (aA (bJ aX cD (bJ aX cD (aG 0) aN) (aG 3)) aJ)))))
 (aS (ss 5 nd (cY qC (aA (el (fr:=[none,some 4]) (N':=["entry","held"]) (dS (bJ aX cD (aG 2) (aG 3))) (λb=>⟨(dB (pk 0)),(pO (dN (vR J) BK (aG 0) (aG 1))),(aG 0)⟩)) aJ) jJ T.b_tuple oO))
 (aS (ss 6 nd (cY qC (aA (el (fr:=[none,some 4]) (N':=["entry","held"]) (dS (bJ aX cD (aG 2) (aG 3))) (λb=>⟨(dB (pk 0)),(pO (dN (nC J) mS (aG 0) (aG 1))),(aG 0)⟩)) aJ) jJ T.b_tuple oO))
 (aS (so 7 nd aJ)
 (aS (sf (dS (eK (aA (eK (aA (aG 5) (aA (bJ aX cD (aG 1) aN) aJ))) (aA (eK (aA (aG 6) (aA (bJ aX cD (aG 1) aN) aJ))) aJ)))) (kP (kJ Fx (dH (pn 8 nd) (dH (pn 9 nd) iT))))
 (bB (fQ (dN wZ sS (cB iK (aA (aG 8) aJ) cZ T.b_len fL) aN)
 (bB (rR (i:=7) (pv 7) (qY (cF (hk:=by lia) S T.D_21 J (aA (aG 0) (aA (aG 9) (aA (cd (hk:=by lia) (Y0 T) T.D_22 J (aA (aG 2) (aA (aG 3) (aA (aG 8) aJ)))) aJ))))) (pb:=λh=>jY (jZ bY gK gJ rW (pv 7) h))))
 eM)))
 (bB (pB (pv 7)))))))))),?_⟩
 show fR _ _ _ [.val (dO fs an),.val (jU t),.val (lF L),.un,.un,.un,.un,.un,.un,.un];have n5:=F.n5
 cases t with
 |say a=>
  refine fY (λb=>b=true) (λq j=>⟨_,Fx,.say a,Fx,j _ Fx⟩) (λ_=>?_) λhF=>by cases hF
  have e:cK fs (.say a) L=[(L,a)]:=by show(if fB L then[]else _)=_;rw[hn];rfl
  rw[e]at h;exact⟨_,Fx,_,Fx,_,Fx,Fw,Fw,h⟩
 |ask k n v s y m=>
  refine fY (λb=>b=false) (λq j=>⟨_,Fx,.ask k n v s y m,Fx,j _ Fx⟩) (λhT=>by cases hT) λ_=>?_
  try unfold jP
  dsimp only;obtain⟨j,hs,hy,hm⟩:=ht;have e1:(Tr.ask k n v s y m).dep=max y.dep m.dep+1:=rfl;obtain⟨f,H,z,Bs,hv,hk⟩:=BS F j;have v5:=(F.vs f z).2.1;have ud:jx fs n<L.length:=by rw[E.1];exact(aC.mp H).1
  have zi:L.length<=5:=by rw[E.1];exact n5
  obtain⟨e,r⟩:∃e,L[jx fs n]?=some e:=⟨_,aD ud⟩;have o:=E.sub H r;have sk:∀x∈e,EI x:=λx d=>oK F z x (o x d)
  have zr:e.length<=6:=by
   obtain⟨p,rfl⟩:=E.2 _ f e H r;have h5:=cI p (bZ f);have h6:(bZ f).length=f.2.length+1:=by unfold bZ;rw[aV,aB];rfl
   lia
  have uz:L2.atI (fs.map iZ) ((jx fs n:Nat):Int)=some (iZ f):=L2.eB (by rw[aF,H];rfl);have wn:L2.atI (L.map aW) ((jx fs n:Nat):Int)=some (.tuple e):=L2.eB (by rw[aF,r];rfl);refine cT (.int ((jx fs n:Nat):Int)) (λq c=>⟨_,Fx,_,Fx,_,Fx,fs,an,k,n,v,f,jx fs n,Fx,F,H,Bs,c⟩) ?_;refine cT (.tuple (oH k v s f)) (λq c=>⟨_,Fx,_,Fx,_,Fx,_,Fx,_,Fx,_,Fx,_,Fx,_,uz,k,n,v,s,f,Fx,F.vals z,hv,v5,c⟩) ?_;have hI:∀x∈e,tQ x (.tuple (oH k v s f)):=λx d=>HE (F.vals z) hv (((sk x d).th (n:=8) (m:=0) (aM 8)).cd Ft);refine cT (.tuple (e.filter (eA fs k n v s))) (λq c=>?_) ?_
  ·show lA (f1 vV) _ _ q;dsimp only[lA,nS,wC];refine mG (ts:=e) (λR h=>⟨_,Fx,_,Fx,_,wn,_,Fx,h⟩) (eA fs k n v s) id Fu (λx q d j=>⟨_,Fx,_,Fx,qX (hI x d) ?_⟩) (λx q d j=>⟨_,Fx,j⟩) ?_
   ·show q (AS x (.tuple (oH k v s f)));rw[GX F H hs (o x d)];exact j
   ·rw[kM];exact c
  refine cT (.tuple (e.filter λx=>!eA fs k n v s x)) (λq c=>?_) ?_
  ·show lA (f1 vV) _ _ q;dsimp only[lA,nS,wC];refine mG (ts:=e) (λR h=>⟨_,Fx,_,Fx,_,wn,_,Fx,h⟩) (λx=>!eA fs k n v s x) id Fu (λx q d j=>⟨_,Fx,_,Fx,hI x d,?_⟩) (λx q d j=>⟨_,Fx,j⟩) ?_
   ·show q (!AS x (.tuple (oH k v s f)));rw[GX F H hs (o x d)];exact j
   ·rw[kM];exact c
  refine lC [] Fw (λq j=>j) ?_
  have eT:cK fs (.ask k n v s y m) L=cK fs y (fK L (jx fs n) (eA fs k n v s))++cK fs m (fK L (jx fs n) λx=>!eA fs k n v s x):=by
   show(if fB L then[]else _)=_;rw[hn];rfl
  rw[eT]at h;have p2:=BF ud (eA fs k n v s);have ly:=nY (an:=an) y hy F (E.filt (jx fs n) (eA fs k n v s));have lm:=nY (an:=an) m hm F (E.filt (jx fs n) λx=>!eA fs k n v s x)
  have W:∀(g:D->Bool)(u:Tr),¬((e.filter g).length:Int)>0->cK fs u (fK L (jx fs n) g)=[]:=λg u l=>KM (by
   rw[uC hn r]
   cases d:e.filter g with
   |nil=>rfl
   |cons a b=>rw[d]at l;simp at l)
  have ze:∀g:D->Bool,((e.filter g).length:Int)>0->fB (fK L (jx fs n) g)=false:=λg l=>by
   rw[uC hn r]
   cases d:e.filter g with
   |nil=>rw[d]at l;simp at l
   |cons a b=>rfl
  refine fD (ts:=[.tuple [.tuple (e.filter (eA fs k n v s)),jU y],.tuple [.tuple (e.filter λx=>!eA fs k n v s x),jU m]]) (λR h=>⟨_,Fx,_,Fx,_,Fx,Fw,_,Fx,_,Fx,_,Fx,Fw,Fw,_,Fx,h⟩)
   (λi σ=>∃s8 s9:Sl,σ=[.val (dO fs an),.val (jU (.ask k n v s y m)),.val (lF L),.val (.int ((jx fs n:Nat):Int)),.val (.tuple (oH k v s f)),.val (.tuple (e.filter (eA fs k n v s))),.val (.tuple (e.filter λx=>!eA fs k n v s x)),.own (((if 0<i then cK fs y (fK L (jx fs n) (eA fs k n v s))else[])++(if 1<i then cK fs m (fK L (jx fs n) λx=>!eA fs k n v s x)else[])).map cC),s8,s9]) ⟨_,_,Fx⟩ (λi x ak d hP=>?_) λak hP=>?_
  ·obtain⟨s8,s9,rfl⟩:=hP
   match i,d with
   |0,d=>
    cases d;refine⟨_,_,Fx,?_⟩;refine kR (λb=>b=decide (((e.filter (eA fs k n v s)).length:Int)>0)) (λq j=>⟨_,Fx,j _ Fx⟩) (λhT=>?_) λhF=>?_
    ·have l:=c5 hT.symm;refine oJ (ts:=[]) (us:=(cK fs y (fK L (jx fs n) (eA fs k n v s))).map cC) Fx (by rw[aB];show 0+_<=_;lia) (λq c=>⟨_,Fx,_,Fx,_,Fx,_,Fx,_,Fx,L,jx fs n,e.filter (eA fs k n v s),Fx,(aC.mp r).1,zi,by rw[A9 r];exact⟨fs,an,y,_,Fx,F,hy,E.filt _ _,ze _ l,Fu,Fu,c⟩⟩) ⟨.val (.tuple (e.filter (eA fs k n v s))),.val (jU y),?_⟩;show _=[_,_,_,_,_,_,_,Sl.own ((cK fs y _++[]).map cC),_,_];rw[dU];rfl
    ·have l:=W (eA fs k n v s) y (g4 hF.symm);refine⟨.val (.tuple (e.filter (eA fs k n v s))),.val (jU y),?_⟩;show _=[_,_,_,_,_,_,_,Sl.own ((cK fs y _++[]).map cC),_,_];rw[l];rfl
   |1,d=>
    cases d;refine⟨_,_,Fx,?_⟩;refine kR (λb=>b=decide (((e.filter λx=>!eA fs k n v s x).length:Int)>0)) (λq j=>⟨_,Fx,j _ Fx⟩) (λhT=>?_) λhF=>?_
    ·have l:=c5 hT.symm;refine oJ (ts:=(cK fs y (fK L (jx fs n) (eA fs k n v s))++[]).map cC) (us:=(cK fs m (fK L (jx fs n) λx=>!eA fs k n v s x)).map cC) Fx (by rw[dU,aB,aB];lia) (λq c=>⟨_,Fx,_,Fx,_,Fx,_,Fx,_,Fx,L,jx fs n,e.filter (λx=>!eA fs k n v s x),Fx,(aC.mp r).1,zi,by rw[A9 r];exact⟨fs,an,m,_,Fx,F,hm,E.filt _ _,ze _ l,Fu,Fu,c⟩⟩) ⟨.val (.tuple (e.filter λx=>!eA fs k n v s x)),.val (jU m),?_⟩;show _=[_,_,_,_,_,_,_,Sl.own ((cK fs y _++cK fs m _).map cC),_,_];simp only[dU,bK];rfl
    ·have l:=W (λx=>!eA fs k n v s x) m (g4 hF.symm);refine⟨.val (.tuple (e.filter λx=>!eA fs k n v s x)),.val (jU m),?_⟩;show _=[_,_,_,_,_,_,_,Sl.own ((cK fs y _++cK fs m _).map cC),_,_];rw[l];rfl
  ·obtain⟨s8,s9,rfl⟩:=hP;exact⟨_,Fx,h⟩
def R6:dP P w K mg base gQ 33 U fv ["form","tree","lets"] (gX K Uo):=by
 have h:∀dd:Nat,dP P w K mg base gQ (3+dd) U fv ["form","tree","lets"] (gX K (tK dd)):=λdd=>by
  induction dd with
  |zero=>exact XG O3 λb Q h=>SM h
  |succ dd a=>exact VW T dd a
 exact h 30
def Od:dP P w K mg base gQ 34 jq ni ["form","tree"] (gX K Ul):=by
 refine T6 T.D_19.F Rn λc nd i Q h=>?_;obtain⟨fs,an,t,rfl,F,f,g,d,h⟩:=h;refine⟨_,(aS (sF 2 nd (cF (R6 T) T.D_21 c (aA (aG 0) (aA (aG 1) (aA (cd (Y1 T) T.D_20 c (aA (aG 0) aJ)) aJ)))))
 (aS (fQ (DJ 2 (dN wZ sS (cB iK (aA (aG 2) aJ) cZ T.b_len fL) (sB Fx T.c_MOST_RULES)))
 (bB zD)
 eM)
 (bB (pB (pv 2))))),?_⟩
 show fR _ _ _ [.val (dO fs an),.val (jU t),.un];refine GZ ((cK fs t (fs.map bZ)).map cC) (λq a=>⟨_,Fx,_,Fx,_,Fx,fs,an,Fx,F,fs,an,t,fs.map bZ,Fx,F,f,cW.whole fs,A1 fs,Fu,xE F (cW.whole fs),a⟩) ?_;refine fY (λb=>b=false) (λq a=>⟨_,Fx,_,Fx,a _ (c6 ?_)⟩) (λe=>by cases e) λ_=>?_
 ·rw[aB];lia
 try unfold jP
 dsimp only;exact⟨_,Fx,h⟩
def Pu:dP P w K mg base gQ 34 lh pi ["form","one","other"] (cM K Vn):=by
 refine mB T.D_52.F Sx λf nd ds Q h=>?_;obtain⟨fs,an,one,c,rfl,F,p,s,S,W,h⟩:=h;refine⟨_,(aS (so 3 nd aJ)
 (aS (sf (dS (qY (cF (R6 T) T.D_21 f (aA (aG 0) (aA (aG 1) (aA (cd (Y1 T) T.D_20 f (aA (aG 0) aJ)) aJ)))))) (kP (kJ Fx (dH (pn 4 nd) (dH (pn 5 nd) iT))))
 (bB (rR (i:=3) (pv 3) (el (fr:=[none,none,some 5]) (N':=["both","found","answer"]) (dS (qY (cF (R6 T) T.D_21 f (aA (aG 0) (aA (aG 2) (aA (aG 4) aJ)))))) (λb=>⟨(kP (kJ Fx (dH (pk 0) (dH (pk 1) iT)))),gZ,(eK (aA (aG 0) (aA (aG 2) (aA (aG 1) aJ))))⟩)) (pb:=λh=>jY (jZ bY gK gJ rW (pv 3) h)))))
 (jW 3 (bB (cJ (aG 3)))))),?_⟩
 show fR _ _ _ [.val (dO fs an),.val (jU one),.val (jU c),.un,.un,.un];have m:=xE F (cW.whole fs);have n:=cW.whole fs;have iq:=wY F p s n;have l1:=nY (an:=an) one p F n;refine lC [] Fw (λq g=>g) ?_
 refine fD (ts:=(cK fs one (fs.map bZ)).map cC) (λR h=>⟨_,Fx,_,Fx,_,Fx,fs,an,Fx,F,fs,an,one,fs.map bZ,Fx,F,p,n,A1 fs,Fu,m,_,Fx,h⟩)
  (λi σ=>∃y z:Sl,σ=[.val (dO fs an),.val (jU one),.val (jU c),.own ((((cK fs one (fs.map bZ)).take i).flatMap λr=>(cK fs c r.1).map λq=>((q.1,r.2,q.2):UU)).map zI),y,z]) ⟨_,_,Fx⟩ (λi x E o t=>?_) λE t=>?_
 ·obtain⟨y,z,rfl⟩:=t;rw[aF]at o;obtain⟨⟨L,a⟩,k,rfl⟩:=bM.mp o;have f:=aR k;obtain⟨j,a2,a3⟩:=jL one n _ f
  replace j:cW fs L:=j
  replace a2:fB L=false:=a2
  have d:=xE F j;have l2:=nY (an:=an) c s F j
  have J:(((cK fs one (fs.map bZ)).take (i+1)).flatMap λr=>(cK fs c r.1).map λq=>((q.1,r.2,q.2):UU))=(((cK fs one (fs.map bZ)).take i).flatMap λr=>(cK fs c r.1).map λq=>((q.1,r.2,q.2):UU))++(cK fs c L).map λq=>((q.1,a,q.2):UU):=by
   rw[bS,k,kZ];congr 1;show _++[]=_;rw[dU]
  have H:(((cK fs one (fs.map bZ)).take i).flatMap λr=>(cK fs c r.1).map λq=>((q.1,r.2,q.2):UU)).length<=7776:=by
   have:(((cK fs one (fs.map bZ)).take i).flatMap λr=>(cK fs c r.1).map λq=>((q.1,r.2,q.2):UU)).length<=(iP fs one c (fs.map bZ)).length:=by
    unfold iP
    conv=>rhs;rw[<- fV i (cK fs one (fs.map bZ)),kZ,aV]
    lia
   lia
  refine⟨_,_,Fx,?_⟩;refine oJ (us:=((cK fs c L).map λq=>((q.1,a,q.2):UU)).map zI) Fx (by rw[aB,aB,aB];lia) (λq g=>?_) ⟨_,_,by rw[J,bK];rfl⟩;refine FM (ts:=(cK fs c L).map cC) (λR h=>⟨_,Fx,_,Fx,_,Fx,fs,an,c,L,Fx,F,s,j,a2,Fu,d,_,Fx,h⟩) (λx=>match x with | .tuple [l,.str b]=>.tuple [l,.str a,.str b] | _=>.none) (by rw[aB];lia) (λx o=>?_) (λu v q hm g=>?_) ?_
  ·obtain⟨r,f,rfl⟩:=aU.mp o;exact⟨_,_,Fx⟩
  ·obtain⟨r,f,e⟩:=aU.mp hm;cases e;exact⟨_,Fx,_,Fx,_,Fx,Fw,g⟩
  ·rw[bL];rw[bL]at g;exact g
 ·obtain⟨y,z,rfl⟩:=t;rw[aB,cU];exact⟨_,Fx,_,Fx,h⟩
def Pt:dP P w K mg base gQ 35 lg ph ["form","one","other"] (cM K Vm):=by
 refine mB T.D_51.F Sw λhr nd ds Q h=>?_;obtain⟨fs,an,one,d,rfl,F,r,s,Bm,zo,Ea,hu,ha⟩:=h;refine⟨_,(aS (ss 3 nd (cd (Pu T) T.D_52 hr (aA (aG 0) (aA (aG 1) (aA (aG 2) aJ)))))
 (aS (fQ (dN wZ sS (cB iK (aA (aG 3) aJ) cZ T.b_len fL) (sB Fx T.c_MOST_PAIRS))
 (bB zD)
 eM)
 (aS (sf (dS (aG 3)) (qW (kJ Fx (dH (pn 4 nd) (dH (pn 5 nd) (dH (pn 6 nd) iT)))))
 (bB (fQ (dN zJ HJ (aG 5) (aG 6))
 (bB (cJ (eK (aA eI (aA (cY qC (aA (el (fr:=[none]) (N':=["let"]) (dS (aG 4)) (λb=>⟨(dB (pk 0)),gZ,(bJ aX cD (aG 0) aN)⟩)) aJ) jJ T.b_tuple oO) aJ)))))
 eM)))
 (bB (cJ (eK (aA eI (aA (el (fr:=[none,none,none]) (N':=["lets","answer","found"]) (dS (aG 3)) (λb=>⟨(qW (kJ Fx (dH (pk 0) (dH (pk 1) (dH (pk 2) iT))))),gZ,(aG 0)⟩)) aJ)))))))),?_⟩
 show fR _ _ _ [.val (dO fs an),.val (jU one),.val (jU d),.un,.un,.un,.un];have Dq:=xE F (cW.whole fs);have hW:=cW.whole fs;have iq:=wY F r s hW;have k:((iP fs one d (fs.map bZ)).map zI).length=(iP fs one d (fs.map bZ)).length:=aB ..;refine cT (.list ((iP fs one d (fs.map bZ)).map zI)) (λq g=>⟨_,Fx,_,Fx,_,Fx,fs,an,one,d,Fx,F,r,s,Bm,zo,g⟩) ?_;refine fY (λb=>b=false) (λq g=>⟨_,Fx,g _ (c6 (by rw[k];lia))⟩) (λhT=>by cases hT) λ_=>?_
 try unfold jP
 dsimp only
 refine fD (ts:=(iP fs one d (fs.map bZ)).map zI) (λR h=>⟨_,Fx,_,Fx,h⟩)
  (λi σ=>∃s4 s5 s6:Sl,σ=[.val (dO fs an),.val (jU one),.val (jU d),.val (.list ((iP fs one d (fs.map bZ)).map zI)),s4,s5,s6]/\∀p∈(iP fs one d (fs.map bZ)).take i,p.2.1=p.2.2) ⟨_,_,_,Fx,λp m=>by simp at m⟩ (λi x ak o hP=>?_) λak hP=>?_
 ·obtain⟨s4,s5,s6,rfl,f⟩:=hP;rw[aF]at o;obtain⟨⟨L,a,b⟩,W,rfl⟩:=bM.mp o;have m:=aR W;obtain⟨k1,k2,k3⟩:=wX F r s hW m
  replace k1:cW fs L:=k1
  replace k2:fB L=false:=k2
  refine⟨_,_,_,Fx,?_⟩;refine kR (λt=>t=!decide (a=b)) (λq g=>⟨_,Fx,_,Fx,g _ Fx⟩) (λhT=>?_) λhF=>?_
  ·have gu:a≠b:=g4 (by simpa using hT.symm);have H:=B2 k2;obtain⟨_,_,e1,e2,e3⟩:=k3 H H;have g:=hu (FR L) ((gH _ _).mpr e3) (by rw[e1,e2];exact gu);show K1 _ _ _;dsimp only[K1,nS,wC,lA,eC];refine iU (ts:=L.map aW) (λR h=>⟨_,Fx,_,Fx,h⟩) ZD (by rw[aB,k1.1];have:=F.n5;lia) (λx q o n=>?_) ⟨Fw,g⟩;obtain⟨e,he,rfl⟩:=aU.mp o;have J:=ME k2 he
   cases e with
   |nil=>exact c8 Fx J
   |cons y e=>exact⟨_,Fx,_,L2.eB (j:=0) Fx,n⟩
  ·have Bp:a=b:=c5 (by simpa using hF.symm);refine⟨_,_,_,Fx,λp hp'=>?_⟩;rw[bS,W]at hp';rcases cR.mp hp' with hp' | hp'
   ·exact f p hp'
   ·have:p=(L,a,b):=by simpa using hp'
    subst this;exact Bp
 ·obtain⟨s4,s5,s6,rfl,f⟩:=hP;rw[aB,cU]at f
  have E:∀c,c∈cO (fs.map bZ)->iH fs one c=iH fs d c:=λc hc=>by
   obtain⟨p,m,S⟩:=PB (HD F r s hW ((gH _ c).mp hc));obtain⟨_,_,k3⟩:=wX F r s hW m;obtain⟨_,_,e1,e2,_⟩:=k3 S S;rw[e1,e2];exact f p m
  have g:=ha E;show K1 _ _ _;dsimp only[K1,nS,wC,eC];refine MJ (ts:=(iP fs one d (fs.map bZ)).map zI) (λR h=>⟨_,Fx,_,Fx,h⟩) (λx=>match x with | .tuple (l::_)=>l | _=>.none) (by rw[k];lia) (λx o=>?_) (λu v z q hm n=>?_) ?_
  ·obtain⟨p,m,rfl⟩:=aU.mp o;exact⟨_,_,_,Fx⟩
  ·exact⟨_,Fx,n⟩
  ·rw[bL];exact⟨Fw,g⟩
def Ov:dP P w K mg base gQ 1 lf oz ["form","rows"] (cM K Uf):=by
 refine mB T.D_50.F Sv λhr nd ds Q h=>?_;obtain⟨fs,an,c,l,ans,rfl,F,S,hs,hd,h⟩:=h;refine⟨_,(aS (ss 2 nd (bJ aX cD (bJ aX cD (aG 1) aN) aN))
 (aS (ss 3 nd aN)
 (aS (wP (tv (cB ZO (aA (el (fr:=[none,some 3,some 2]) (N':=["row","number","case"]) (dS (aG 1)) (λb=>⟨(dB (pk 0)),gZ,(oA (yI hr) mS (bJ aX cD (bJ aX cD (aG 0) aN) (aG 1)) (bJ aX cD (aG 2) (aG 1)))⟩)) aJ) (xM Fx) T.b_all UL))
 (bB (Z9 (i:=3) aN (λh=>Xs nd Fx (by first | exact t9 Fx | exact o8 Fx) h Wv))) (λhc J=>wU v4 hc J))
 (bB (cJ (eK (aA eI (aA (bJ aX cD (bJ aX cD (bJ aX cD (aG 0) aN) (aG 3)) aN) (aA (bJ aX cD (aG 2) (aG 3)) aJ))))))))),?_⟩
 show fR _ _ _ [.val (dO fs an),.val (.list (nO (c::l) ans)),.un,.un];have n5:=F.n5;obtain⟨p1,p2⟩:=xF S;have vd:(c::l).length<=300:=bP hs.length_le p1;have a:∀d∈c::l,fE fs (.tuple d)=true:=λd hd=>lZ (cW.whole fs) ((gH _ d).mp (hs.subset hd));have k:∀d∈c::l,d.length=fs.length:=λd hd=>(jA (a d hd)).1;have El:=k c (aP ..);refine cT (.tuple c) (λq t=>⟨_,Fx,(⟨_,G4 c l ans,⟨_,Fx,t⟩⟩:CL (nO (c::l) ans) 0 _)⟩) ?_;refine cT (.int ((0:Nat):Int)) (λq t=>t) ?_;refine uN (λn σ=>∃m:Nat,σ=[.val (dO fs an),.val (.list (nO (c::l) ans)),.val (.tuple c),.val (.int (m:Int))]/\n=fs.length-m/\m<fs.length/\∀i,i<m->∀d∈l,d[i]?=c[i]?) fs.length ⟨0,Fx,Fx,F.n1,λi hi=>by lia⟩ λn ak hP=>?_;obtain⟨m,rfl,rfl,hm,g⟩:=hP;have o:c[m]?=some c[m]:=aD Fu;refine⟨(c::l).all λd=>decide (d[m]?=c[m]?),λq t=>?_,?_⟩
 ·show lA (f1 XB) _ _ _;dsimp only[lA,nS,wC];refine iU (ts:=nO (c::l) ans) (λR h=>⟨_,Fx,_,Fx,h⟩) (λx=>match x with | .tuple [.tuple d,_]=>.bool (decide (d[m]?=c[m]?)) | _=>.none) (by unfold nO;rw[aB];lia) (λx q hx t=>?_) ?_
  ·obtain⟨d,hdm,rfl⟩:=aU.mp hx;have s:=k d hdm;have r:d[m]?=some d[m]:=aD Fu;have e1:=B8 F (a d hdm) r;have H:=B8 F (a c (aP ..)) o;refine⟨_,Fx,_,Fx,_,Fx,_,L2.eB r,_,Fx,_,Fx,_,L2.eB o,oC ((e1.th (n:=8) (m:=0) (aM 8)).cd Ft) ((H.th (n:=8) (m:=0) (aM 8)).cd Ft),?_⟩;show q (.bool (cE d[m] c[m]));rw[FV e1 H];have E:q (.bool (decide (d[m]?=c[m]?))):=t;rw[r,o]at E;simpa using E
  ·refine⟨(c::l).map λd=>decide (d[m]?=c[m]?),?_,?_⟩
   ·unfold nO;rw[bL,bL];rfl
   ·rw[zV];exact t
 ·cases J:(c::l).all λd=>decide (d[m]?=c[m]?)with
  |true=>
   rw[b8 rfl];have L:∀d∈l,d[m]?=c[m]?:=λd hd=>c5 (fU.mp J d (aK _ hd))
   have j:∀i,i<m+1->∀d∈l,d[i]?=c[i]?:=λi hi d hd=>by
    by_cases e:i=m
    ·rw[e];exact L d hd
    ·exact g i Fu d hd
   have zw:m+1<fs.length:=by
    by_cases e:m+1<fs.length
    ·exact e
    ·obtain⟨d,s,W⟩:=hd;refine c8 (jF λi=>?_) W;by_cases H:i<m+1
     ·exact j i H d s
     ·rw[eD (by rw[k d (aK _ s)];lia),eD Fu]
   exact⟨_,Fx,_,Fx,fs.length-(m+1),Fu,m+1,Fx,Fx,zw,j⟩
  |false=>
   rw[a9 Ft]
   obtain⟨d,hdm,u⟩:∃d∈l,d[m]?≠c[m]?:=by
    obtain⟨d,hdm,Bn⟩:=List.all_eq_false.mp J;have y:d[m]?≠c[m]?:=λz=>Bn (a8 z);rcases bA.mp hdm with rfl | hdm
    ·exact c8 Fx y
    ·exact⟨d,hdm,y⟩
   obtain⟨f,v,hf,hv,p⟩:=T0 F hs g hdm u;have uz:L2.atI (fs.map iZ) (m:Int)=some (iZ f):=L2.eB (by rw[aF,hf];rfl);exact⟨_,Fx,_,Fx,_,Fx,_,uz,_,Fx,_,Fx,_,Fx,_,L2.eB p,Fw,h m f v hf hv p ⟨d,hdm,by rw[<- p];exact u⟩⟩
def VU(dd:Nat)
  (H:dP P w K mg base gQ (5+dd) Y fx ["form","rows"] (cM K (tI dd))):dP P w K mg base gQ (5+dd+1) Y fx ["form","rows"] (cM K (tI (dd+1))):=by
 refine mB T.D_49.F Su λE nd ds Q h=>?_;obtain⟨fs,an,l,ans,rfl,F,S,gu,hs,ha,hm,Ck,h⟩:=h;refine⟨_,(aS (fQ (dN lD oS (B5 (el (fr:=[none]) (N':=["row"]) (dS (aG 1)) (λb=>⟨(dB (pk 0)),gZ,(bJ aX cD (aG 0) aN)⟩)) (pc:=λh=>BH vH Fx T.b_len fL (mO (kQ (uA Fx) Fx T.b_set UK h) oR))) aN)
 (bB (cJ (eK (aA eI (aA (bJ aX cD (bJ aX cD (aG 1) aN) aN) aJ)))))
 eM)
 (aS (ss 2 nd (cd (hk:=by lia) (Ov T) T.D_50 E (aA (aG 0) (aA (aG 1) aJ))))
 (aS (ss 3 nd (UA (cQ (hk:=by lia) (R8 T) T.D_12 E (aA (aG 0) (aA (aG 2) (aA eI (aA (aG 1) aJ)))))))
 (aS (ss 4 nd (cd (hk:=by lia) H T.D_49 E (aA (aG 0) (aA (cd (hk:=by lia) (MB T) T.D_45 E (aA (aG 1) (aA (bJ aX cD (aG 3) aN) aJ))) aJ))))
 (aS (ss 5 nd (cd (hk:=by lia) H T.D_49 E (aA (aG 0) (aA (cd (hk:=by lia) (MB T) T.D_45 E (aA (aG 1) (aA (bJ aX cD (aG 3) aN) aJ))) aJ))))
 (bB (cJ (D5 (dN (yI E) mS (aG 4) (aG 5)) (aG 4) (eK (aA eI (aA (aG 2) (aA eI (aA (aG 4) (aA (aG 5) aJ)))))))))))))),?_⟩
 show fR _ _ _ [.val (dO fs an),.val (.list (nO l ans)),.un,.un,.un,.un];obtain⟨p1,p2⟩:=xF S;have g:∀d∈l,fE fs (.tuple d)=true:=λd hd=>lZ (cW.whole fs) ((gH _ d).mp (hs.subset hd));have vd:l.length<=50:=bP hs.length_le S.1
 obtain⟨c,l0,y⟩:∃c l0,l=c::l0:=by
  cases l with
  |nil=>exact c8 Fx gu
  |cons c l0=>exact⟨c,l0,Fx⟩
 have s:c∈l:=by rw[y];exact aP ..
 have vf:L2.atI (nO l ans) 0=some (jQ (c,ans c)):=by rw[y];exact G4 c l0 ans
 refine fY (λb=>b=decide ((L2.dd (l.map ans)).length=1)) (λq J=>?_) (λhT=>?_) λhF=>?_
 ·dsimp only[xN,D7,IL];refine iU (ts:=nO l ans) (λR h=>⟨_,Fx,_,Fx,h⟩) (λx=>match x with | .tuple [_,a]=>a | _=>.none) (by unfold nO;rw[aB];lia) (λx q hx J=>?_) ?_
  ·obtain⟨d,hdm,rfl⟩:=aU.mp hx;exact⟨_,Fx,_,Fx,J⟩
  ·refine⟨l.map ans,?_,by rw[aB];lia,?_⟩
   ·unfold nO;rw[bL,bL];rfl
   ·refine J _ ?_;show decide (((L2.dd (l.map ans)).length:Int)=1)=_;rw[fH,d4,d4];lia
 ·have h1:(L2.dd (l.map ans)).length=1:=c5 hT.symm;rw[y,aZ,K4]at h1;refine⟨_,Fx,_,vf,_,Fx,Fw,h (.say (ans c)) ⟨ha c s,dE _,?_,λd hd=>?_⟩⟩
  ·rw[y];show 0+1<=_+1;lia
  ·rw[y]at hd;show ans c=ans d;rcases bA.mp hd with rfl | hd
   ·rfl
   ·exact(h1 _ (aU.mpr ⟨d,hd,Fx⟩)).symm
 ·try unfold jP
  dsimp only;have h1:¬(L2.dd (l.map ans)).length=1:=g4 hF.symm;rw[y,aZ,K4]at h1
  have hex:∃d∈l0,d≠c:=by
   refine x0 λz=>h1 λa hm=>?_;obtain⟨d,hd,rfl⟩:=aU.mp hm;by_cases e:d=c
   ·rw[e]
   ·exact c8 ⟨d,hd,e⟩ z
  refine gU (λx=>∃(j:Nat)(f:Str×List Str)(v:Str),fs[j]?=some f/\v∈f.2/\c[j]?=some (.str v)/\(∃d∈l,d[j]?≠some (.str v))/\x=.tuple [.str "is",.str f.1,.str v]) (λq J=>⟨_,Fx,_,Fx,fs,an,c,l0,ans,by rw[y],F,S,by rw[<- y];exact hs,hex,λj f v h1 h2 h3 ⟨d,hd,h4⟩=>J _ ⟨j,f,v,h1,h2,h3,⟨d,by rw[y];exact aK _ hd,h4⟩,Fx⟩⟩) ?_;rintro _ ⟨j,f,v,hf,hv,tz,⟨L,u,zp⟩,rfl⟩;have J:GG fs (.tuple [.str "is",.str f.1,.str v])=true:=(AK F hf hv (g c s)).2.2
  let i:List D->Bool:=λd=>decide (d[j]?=some (.str v))
  have ny:¬("no":Str)="yes":=by decide +kernel
  have sy:∀d∈l,decide (iY fs "is" f.1 v "no" d="yes")=i d:=λd hd=>by
   rw[(AK F hf hv (g d hd)).1];show decide ((if d[j]?=some (.str v)then("yes":Str)else "no")="yes")=decide (d[j]?=some (.str v));by_cases e:d[j]?=some (.str v)
   ·rw[b8 e,a8 e,a8 rfl]
   ·rw[a9 e,c6 e,c6 ny]
  have sn:∀d∈l,decide (iY fs "is" f.1 v "no" d="no")=!i d:=λd hd=>by
   rw[(AK F hf hv (g d hd)).1];show decide ((if d[j]?=some (.str v)then("yes":Str)else "no")="no")=!decide (d[j]?=some (.str v));by_cases e:d[j]?=some (.str v)
   ·rw[b8 e,a8 e,c6 (λz=>ny z.symm)];rfl
   ·rw[a9 e,c6 e,a8 rfl];rfl
  have part:∀(w:Str)(p:List D->Bool),(∀d∈l,decide (iY fs "is" f.1 v "no" d=w)=p d)->((l.map (BA ans)).filter λr=>decide (iY fs "is" f.1 v "no" r.1=w)).map jQ=nO (l.filter p) ans:=λw p hp=>by
   rw[N2 l ans λc=>decide (iY fs "is" f.1 v "no" c=w),wS];congr 2;exact jE hp
  have vg:(l.map (BA ans)).length<=60:=by rw[aB];lia
  have Cu:mU fs an (l.map (BA ans)):=λr E=>by
   obtain⟨d,hd,rfl⟩:=aU.mp E;exact⟨g d hd,ha d hd⟩
  refine cT (.tuple [.list (iO fs "is" f.1 v "no" (l.map (BA ans)) "yes"),.list (iO fs "is" f.1 v "no" (l.map (BA ans)) "no")]) (λq m=>⟨_,Fx,_,Fx,_,Fx,fs,an,"is",f.1,v,"no",l.map (BA ans),by rw[wS],F,J,.inr Fx,Cu,vg,m⟩) ?_;have o:(l.filter i).Sublist l:=P2;have n:(l.filter λd=>!i d).Sublist l:=P2;have hH:c∈l.filter i:=bC.mpr ⟨s,a8 tz⟩;have neN:L∈l.filter λd=>!i d:=bC.mpr ⟨u,by show(!decide (_=_))=true;rw[c6 zp];rfl⟩;have yc:(fs.map bZ)[j]?=some (bZ f):=by rw[aF,hf];rfl
  have Fg:mu (l.filter λd=>!i d) (fs.map bZ) 0<mu l (fs.map bZ) 0:=SV (λd hd=>n.subset hd) yc (x:=.str v) (oY _ (aU.mpr ⟨v,hv,Fx⟩)) ⟨c,s,by rw[oB];exact tz⟩ λd hd z=>by
   rw[oB]at z;have:=(bC.mp hd).2;have e:i d=true:=a8 z;rw[e]at this;cases this
  have Bl:=(jA (g L u)).1;have ud:=(aC.mp hf).1;have k:L[j]?=some L[j]:=aD Fu
  have Fh:mu (l.filter i) (fs.map bZ) 0<mu l (fs.map bZ) 0:=SV (λd hd=>o.subset hd) yc (x:=L[j]) ((oZ ((gH _ L).mp (hs.subset u))).2 j _ _ yc k) ⟨L,u,by rw[oB];exact k⟩ λd hd z=>by
   rw[oB]at z;have:d[j]?=some (.str v):=c5 (bC.mp hd).2;rw[z]at this;exact zp (k.trans this)
  refine gU (λx=>∃t,AZ fs an (l.filter i) ans (mu (l.filter i) (fs.map bZ) 0) t/\x=jU t) (λq m=>⟨_,Fx,_,Fx,_,Fx,_,Fx,fs,"is",f.1,v,"no","yes",l.map (BA ans),by rw[wS],vg,?_⟩) ?_
  ·rw[part "yes" i sy];exact⟨fs,an,l.filter i,ans,Fx,F,S,λz=>by rw[z]at hH;simp at hH,o.trans hs,λd hd=>ha d (o.subset hd),Fu,Fu,λt ht=>m _ ⟨t,ht,Fx⟩⟩
  rintro _ ⟨ty,DC,rfl⟩;refine gU (λx=>∃t,AZ fs an (l.filter λd=>!i d) ans (mu (l.filter λd=>!i d) (fs.map bZ) 0) t/\x=jU t) (λq m=>⟨_,Fx,_,Fx,_,Fx,_,Fx,fs,"is",f.1,v,"no","no",l.map (BA ans),by rw[wS],vg,?_⟩) ?_
  ·rw[part "no" (λd=>!i d) sn];exact⟨fs,an,l.filter λd=>!i d,ans,Fx,F,S,λz=>by rw[z]at neN;simp at neN,n.trans hs,λd hd=>ha d (n.subset hd),Fu,Fu,λt ht=>m _ ⟨t,ht,Fx⟩⟩
  rintro _ ⟨tn,Cz,rfl⟩;obtain⟨y1,y2,y3,y4⟩:=DC;obtain⟨m1,m2,m3,m4⟩:=Cz;have two:=B3 i l;have ey:=KZ ty tn;refine⟨_,Fx,_,Fx,oC (ZN F y1 Fu) (ZN F m1 Fu),?_⟩;show(if cE (jU ty) (jU tn)=true then _ else _);by_cases e:ty=tn
  ·rw[b8 (ey.mpr e)];refine⟨_,Fx,h ty ⟨y1,Fu,Fu,λd hd=>?_⟩⟩;by_cases W:i d=true
   ·exact y4 d (bC.mpr ⟨hd,W⟩)
   ·rw[e];exact m4 d (bC.mpr ⟨hd,by simpa using W⟩)
  ·rw[a9 (λz=>e (ey.mp z))];refine⟨_,Fx,_,Fx,_,Fx,Fw,h (.ask "is" f.1 v "no" ty tn) ⟨⟨J,.inr Fx,y1,m1⟩,?_,?_,λd hd=>?_⟩⟩
   ·show max ty.dep tn.dep+1<=_;lia
   ·show ty.kn+tn.kn+1+1<=_;lia
   ·show(if xO d (jx fs f.1) (eA fs "is" f.1 v "no")=true then _ else _)=_;rw[(AK F hf hv (g d hd)).2.1];by_cases W:d[j]?=some (.str v)
    ·rw[b8 (a8 W)];exact y4 d (bC.mpr ⟨hd,a8 W⟩)
    ·rw[a9 (by simpa using W)];exact m4 d (bC.mpr ⟨hd,by show(!decide (_=_))=true;rw[c6 W];rfl⟩)
def Ou:dP P w K mg base gQ 26 Y fx ["form","rows"] (cM K Ue):=by
 have h:∀dd:Nat,dP P w K mg base gQ (5+dd) Y fx ["form","rows"] (cM K (tI dd)):=λdd=>by
  induction dd with
  |zero=>exact B1 tW λb Q h=>SK h
  |succ dd a=>exact VU T dd a
 exact h 21
def Ot:dP P w K mg base gQ 27 le oy ["form","rules"] (cM K Ud):=by
 refine mB T.D_48.F Ss λa nd l Q h=>?_;obtain⟨fs,an,d,rfl,F,S,i,g,h⟩:=h;refine⟨_,(aS (ss 2 nd (cd (Y2 (w:=w) T) T.D_18 a (aA (aG 0) (aA (aG 1) (aA (sB Fx T.c_MOST_CASES_BACK) aJ)))))
 (bB (cJ (cd (Ou T) T.D_49 a (aA (aG 0) (aA (O5 (aG 2) (pc:=λh=>kQ (yV Fx) Fx T.b_list uT (mO (N7 h) oR))) aJ)))))),?_⟩
 show fR _ _ _ [.val (dO fs an),.val (.list (d.map cC)),.un];refine cT (qL w ((cO (fs.map bZ)).map λc=>(aW c,aO (iL d c)))) (λq k=>⟨_,Fx,_,Fx,fs,an,d,500,Fx,F,S,by have:=(xF S).1;lia,λr a=>(i r a).1,g,k⟩) ?_;have e:mu (cO (fs.map bZ)) (fs.map bZ) 0<=20:=SU S _
 have f:cO (fs.map bZ)≠[]:=λz=>by
  have:=OQ fs;rw[<- uD,qZ,z]at this;cases this
 exact⟨_,Fx,_,Fx,_,Fx,fs,an,cO (fs.map bZ),iL d,(g5 (λz=>[dO fs an,AH z]) (bL ..)),F,S,f,List.Sublist.refl _,λc j=>uV g (λr a=>(i r a).2) j,Fu,e,λt b=>h t ⟨b.1,by have:=b.2.1;lia,b.2.2.1,b.2.2.2⟩⟩
def YN:dP P w K mg base gQ 1 ll pr ["_law_cell","_law_k"] (cM K X9):=by
 refine mB T.D_58.F Rp λn nd j Q h=>?_;obtain⟨c,k,rfl,l,m,h⟩:=h;refine⟨_,(aS (ss 2 nd (cN gD pK (cN cG fJ (cN cG fJ (cN iF oV (cN gD pK (aG 0) aN) aN) (cN iF oV (aG 1) aN)) aN) aN))
 (bB (cJ (cN gD pK (cN iF oV (cN gD pK (cN iF oV (aG 2) (aG 2)) aN) aN) aN)))),?_⟩
 walk_at "rd"
 have b:=dJ c (show(1000000007:Int)≠0 by decide);have d:=dA c (show(0:Int)<1000000007 by decide)
 generalize o:(c%1000000007*48271+k*7919+101)=x
 have e:=dJ x (show(2147483647:Int)≠0 by decide);have f:=dA x (show(0:Int)<2147483647 by decide)
 generalize p:x%2147483647=y at *
 have g:=dJ (y*y) (show(2147483629:Int)≠0 by decide);have i:=dA (y*y) (show(0:Int)<2147483629 by decide)
 generalize q:y*y%2147483629=z at *
 have a:(2:Int)^64=18446744073709551616:=by decide
 refine⟨Ft,.inl ⟨Fu,Fu⟩,.inl ⟨Fu,Fu⟩,Ft,.inl ⟨Fu,Fu⟩,Ft,.inl ⟨Fu,Fu⟩,Ft,h _ ?_ ?_⟩
 ·exact dJ _ Ft
 ·exact dA _ Ft
def HH:dP P w K mg base gQ 2 ln pu ["_law_script","_law_k"] (cM K Vt):=by
 refine mB T.D_59.F Rq λm nd n Q h=>?_;obtain⟨ns,k,rfl,o,j,l,h⟩:=h;refine⟨_,(aS (fQ (dN L7 sS (aG 1) (cB iK (aA (aG 0) aJ) cZ T.b_len fL))
 (bB (cJ (bJ aX cD (aG 0) (aG 1))))
 eM)
 (aS (ss 2 nd aN)
 (aS (fQ (dN wZ sS (cB iK (aA (aG 0) aJ) cZ T.b_len fL) aN)
 (bB (ss 2 nd (bJ aX cD (aG 0) (cN gD pK (aG 1) (cB iK (aA (aG 0) aJ) cZ T.b_len fL)))))
 eM)
 (bB (cJ (cN cG fJ (cN iF oV aN (cd (YN T) T.D_58 m (aA (aG 2) (aA (aG 1) aJ)))) aN)))))),?_⟩
 walk_at "rd"
 have fin:∀c:Int,X9 [.int c,.int k] λy=>Hx (.int 2) y λx=>XJ x (.int 1) Q:=λc=>
  ⟨c,k,Fx,j,l,λr _ _=>⟨.inl ⟨Ft,Ft⟩,h _⟩⟩
 rw[aB];by_cases e:k<(ns.length:Int)
 ·rw[b8 (a8 e)];obtain⟨a,g,f,_⟩:=oT (xs:=ns.map bN) (i:=k) j (by rw[aB];exact e);obtain⟨b,_,rfl⟩:=aU.mp g;exact⟨_,f,h b⟩
 ·rw[a9 (by simpa using e)];by_cases d:0<(ns.length:Int)
  ·rw[b8 (a8 d)];refine⟨d,?_⟩;obtain⟨a,g,f,_⟩:=oT (xs:=ns.map bN) (i:=k%(ns.length:Int)) (dJ _ Fu) (by rw[aB];exact dA _ d);obtain⟨b,_,rfl⟩:=aU.mp g;exact⟨_,f,fin b⟩
  ·rw[a9 (by simpa using d)];exact fin 0
def HG:dP P w K mg base gQ 2 lq py ["_law_cell","_law_many"] (cM K Vu):=by
 refine mB T.D_60.F Rr λs nd v Q h=>?_;obtain⟨c,n,rfl,y,h⟩:=h;refine⟨_,(aS (so 2 nd aJ)
 (aS (ss 3 nd (cN lY pK (aG 0) aN))
 (aS (sf (kU (aA (aG 1) aJ) (λh=>jK Fx T.b_range h)) (dB (pn 4 nd))
 (bB (fQ (dN lD oS (cN gD pK (aG 0) aN) aN)
 (aS (qI (i:=2) (pv 2) (cN gD pK (aG 3) aN) (pb:=λh=>jY (jZ bY eQ eP kT (pv 2) h)))
 (bB (ss 3 nd (cN lY pK (aG 3) aN))))
 (bB (qI (i:=2) (pv 2) (cN gD pK (cN lY pK (cd (YN T) T.D_58 s (aA (cN lY pK (aG 0) aN) (aA (aG 4) aJ))) aN) aN) (pb:=λh=>jY (jZ bY eQ eP kT (pv 2) h)))))))
 (jW 2 (bB (cJ (aG 2))))))),?_⟩
 walk_at "rd"
 refine⟨⟨Ft,Ft⟩,XE (ts:=fF n) (λR h=>⟨_,Fx,(n:Int),Fx,Fu,Fu,by simpa using h⟩)
  (λk u=>∃(bs:List Int)(l:Int)(g:Sl),u=[.val (.int c),.val (.int n),.own (bs.map bN),.val (.int l),g]/\CM k bs) ⟨[],_,_,Fx,Fx,λb q=>by simp at q⟩ (λk x j t e=>?_) λj e=>?_⟩
 ·obtain⟨hk,rfl⟩:=iQ t;obtain⟨bs,l,g,rfl,a⟩:=e;have d:(bs.map bN).length<=100000:=by rw[aB,a.1];lia
  have more:∀b:Int,0<=b->b<4096->CM (k+1) (bs++[b]):=λb o p=>⟨by rw[aV,a.1];rfl,λm f=>by
   rcases cR.mp f with z | z
   ·exact a.2 m z
   ·have:m=b:=by simpa using z
    subst this;exact⟨o,p⟩⟩
  show Gg _ _ _ _ [.val (.int c),.val (.int n),.own (bs.map bN),.val (.int l),.val (.int k)]
  walk_at "rd"
  refine⟨Ft,?_⟩;split
  ·refine⟨Ft,d,⟨Ft,Ft⟩,⟨bs++[l%4096],_,_,by rw[bK];rfl,more _ (dJ _ Ft) (dA _ Ft)⟩⟩
  ·refine⟨⟨Ft,Ft⟩,_,_,Fx,Fu,Fu,λr _ _=>?_⟩;exact⟨⟨Ft,Ft⟩,Ft,d,⟨bs++[r / 3%4096],_,_,by rw[bK];rfl,more _ (dJ _ Ft) (dA _ Ft)⟩⟩
 ·obtain⟨bs,l,g,rfl,a⟩:=e;rw[iD]at a;exact⟨_,Fx,_,Fx,h bs a⟩
def R5:dP P w K mg base gQ 1 lr pz ["_law_drawn_here","_law_at","_law_many"] (cM K Vv):=by
 refine mB T.D_61.F Rs λhr nd ds Q h=>?_;obtain⟨bs,n,m,k,rfl,hb,hk,hn,hm,h⟩:=h;refine⟨_,(aS (ss 3 nd eI)
 (aS (ss 4 nd (MU eI (aA (el (fr:=[none,some 3,some 0,some 1]) (N':=["_law_k","_law_letters","_law_drawn_here","_law_at"]) (kU (aA aN aJ) (λh=>jK Fx T.b_range h)) (λb=>⟨(dB (pk 0)),gZ,(bJ aX cD (aG 1) (cN gD pK (bJ aX cD (aG 2) (cN cG fJ (cN cG fJ (aG 3) aN) (aG 0))) aN))⟩)) aJ) (λh ha=>jZ nL sV sU MG h ha)))
 (aS (ss 5 nd (cN gD pK (cN lY pK (bJ aX cD (aG 0) (aG 1)) aN) aN))
 (aS (ss 6 nd (nZ (aA eI (aA eI (aA eI (aA eI (aA eI (aA eI (aA eI (aA eI aJ))))))))))
 (aS (fQ (dN lD oS (cN gD pK (bJ aX cD (aG 0) (aG 1)) aN) aN)
 (bB (qQ (i:=6) (fr:=[none,some 4]) (N':=["_law_k","_law_word"]) (kU (aA aN aJ) (λh=>jK Fx T.b_range h)) (λb=>⟨(dB (pk 0)),gZ,(gI kI qJ (aG 1) jB (gW (cN cG fJ (aG 0) aN)))⟩) (λhi hY=>pC (show sN _ (bF (top 86)) ["_law_drawn_here","_law_at","_law_many","_law_letters","_law_word","_law_turn","_law_names_here","_law_place","_law_k","_law_sign"] ["_law_k","_law_word"] [none,some 4]=true from by decide +kernel) nd Fx (by first | exact t9 Fx | exact o8 Fx) Fx hi hY Fx)))
 eM)
 (aS (fQ (dN lD oS (cN gD pK (bJ aX cD (aG 0) (aG 1)) aN) aN)
 (aS (ss 7 nd (cN gD pK (bJ aX cD (aG 0) (cN cG fJ (aG 1) aN)) (cN cG fJ (aG 5) aN)))
 (aS (so 6 nd aJ)
 (aS (sf (kU (aA aN aJ) (λh=>jK Fx T.b_range h)) (dB (pn 8 nd))
 (aS (ss 9 nd (bJ aX cD (aG 3) (cN gD pK (cN cG fJ (bJ aX cD (aG 0) (cN cG fJ (aG 1) aN)) (cN iF oV aN (aG 8))) aN)))
 (bB (qI (i:=6) (pv 6) (cN cG fJ (cN cG fJ (gI kI qJ (aG 4) jB (gW (aG 7))) (aG 9)) (gI kI qJ (aG 4) (gW (cN cG fJ (aG 7) aN)) (gW (cN cG fJ (aG 5) aN)))) (pb:=λh=>jY (jZ bY eQ eP kT (pv 6) h))))))
 (jW 6 eM))))
 eM)
 (bB (cJ (cY qC (aA (gI kI qJ (cN cG fJ (gI kI qJ (aG 6) (gW (aG 5)) jB) (gI kI qJ (aG 6) jB (gW (aG 5)))) jB (gW (aG 2))) aJ) jJ T.b_tuple oO))))))))),?_⟩
 show fR _ _ _ [.val (.list (bs.map bN)),.val (.int k),.val (.int m),.un,.un,.un,.un,.un,.un,.un];obtain⟨b0,ED,EM,u⟩:=kE hb (i:=(k:Int)) Fu Fu;obtain⟨b9,Ef,Eg,Bd⟩:=kE hb (i:=(k:Int)+9) Fu Fu;obtain⟨s,Ai,Aj,xw⟩:=kE hb (i:=(k:Int)+10) Fu Fu;have lS:(0:Int)<26:=by decide
 have p8:(0:Int)<8:=by decide
 have p3:(0:Int)<3:=by decide
 refine cT (.str kB) (λq g=>g) ?_;refine gU (λd=>∃z:Str,d=.str z/\z.cps.toList.length=8/\∀c∈z.cps.toList,c∈kB.cps.toList) (λq g=>?_) ?_
 ·refine⟨_,Fx,?_⟩;refine FL (ts:=fF 8) (λR h=>⟨8,Fx,Ft,Ft,h⟩) (λ_ _ y=>∃c,c∈kB.cps.toList/\y=.str ⟨#[c]⟩) Ft (λj x q hx g=>?_) λys hl hy=>?_
  ·obtain⟨S,rfl⟩:=iQ hx;obtain⟨b,h0,h1,Bf⟩:=kE hb (i:=(k:Int)+1+(j:Int)) Fu Fu;obtain⟨c,H,Bh,_⟩:=oT (xs:=kB.cps.toList) (i:=b%26) (dJ _ Ft) (dA _ Ft);exact⟨_,Fx,_,Fx,_,Fx,_,Fx,_,Bf,lS,Ft,c,Bh,g _ ⟨c,H,Fx⟩⟩
  ·obtain⟨o,rfl,tx⟩:=GV (ys:=ys) λy yn=>by
    obtain⟨j,S,rfl⟩:=vK.mp yn;have By:j<(fF 8).length:=by rw[<- hl];exact S
    exact hy j (fF 8)[j] _ (aD By) (aD S)
   have v:o.length=8:=by rw[aB,iD]at hl;exact hl
   refine⟨o.map λc=>⟨#[c]⟩,by rw[bL];rfl,?_,g _ ⟨_,Fx,?_,?_⟩⟩
   ·rw[aB,bL,v]
    have:(ZT ((λx:Str=>x.length)∘λc=>(⟨#[c]⟩:Str)) o).sum=o.length:=by
     clear v hl hy tx
     induction o with
     |nil=>rfl
     |cons a l ih=>rw[aZ,eR,ih,bX];show 1+_=_;lia
    rw[this,v];decide
   ·rw[show(Txt.join (c9 "") (o.map λc=>⟨#[c]⟩)).cps.toList=o from BT o];exact v
   ·rw[show(Txt.join (c9 "") (o.map λc=>⟨#[c]⟩)).cps.toList=o from BT o];exact tx
 rintro _ ⟨z,rfl,Fb,yp⟩
 have hz:z.length<=100000:=by
  have:z.length=z.cps.toList.length:=by simp[t8]
  lia
 generalize ht:b0 / 3%8=t
 have zy:0<=t:=by rw[<- ht];exact dJ _ Ft
 have Ex:t<8:=by rw[<- ht];exact dA _ Ft
 refine cT (.int t) (λq g=>⟨_,Fx,_,Fx,_,u,⟨Ft,Ft⟩,p8,by rw[ht];exact g⟩) ?_;refine cT (.list (SO.map aO)) (λq g=>⟨Ft,g⟩) ?_
 have r:∀(ys:List Str)σ,LF 8 ys->σ[6]?=some (.val (.list (ys.map aO)))->σ[5]?=some (.val (.int t))->σ[2]?=some (.val (.int m)) ->
   yB (lA (f1 vV) (nS (Gp Gm (D7 XJ (Gp Gm (CC 6) (HL (CC 5)) HM) (Gp Gm (CC 6) HM (HL (CC 5)))) HM (HL (CC 2))) wC)) { nx:=λ_=>Q .none,rt:=Q } σ:=λys σ hy e6 e5 L=>by
  refine⟨_,e6,_,e5,_,e6,_,e5,?_,_,L,?_⟩
  ·rw[nJ,nJ,aB,aB];have:=hy.1;unfold kD;simp only[bD,eG];lia
  ·show Q (.tuple (kD (kD (ys.map aO) (some t) none++kD (ys.map aO) none (some t)) none (some (m:Int))));rw[nJ,nJ,<- bK,nJ];have et:t=((t.toNat:Nat):Int):=by lia
   rw[et,vW,mE,mE];exact h _ (SD hy _ hm)
 refine fY (λb=>b=decide (b0%3=0)) (λq g=>⟨_,Fx,_,Fx,_,u,p3,g _ Fx⟩) (λhT=>?_) λhF=>?_
 ·have E:b0%3=0:=c5 hT.symm;refine lM (.list (((eW 8).map λ(j:Nat)=>Txt.slice z none (some ((j:Int)+1))).map aO)) (λq g=>?_) ?_
  ·refine iU (ts:=fF 8) (λR h=>⟨8,Fx,Ft,Ft,h⟩) (λx=>match x with | .int j=>.str (Txt.slice z none (some (j+1))) | _=>.none) Ft (λx q hx g=>?_) ?_
   ·obtain⟨j,S,rfl⟩:=aU.mp hx;exact⟨_,Fx,_,Fx,hz,g⟩
   ·unfold fF;rw[bL];rw[bL]at g;exact g
  ·dsimp only;refine fY (λb=>b=false) (λq g=>⟨_,Fx,_,Fx,_,u,p3,g _ (by rw[E];rfl)⟩) (λhT=>by cases hT) λ_=>?_;refine r _ _ (DS _ (λi hi=>?_) λi j hi S e=>?_) Fx Fx Fx
   ·have e:(Txt.slice z none (some ((i:Int)+1))).cps.toList=z.cps.toList.take (i+1):=by
     rw[oI];exact mE _ (i+1)
    refine SG ?_ ?_ λc H=>?_
    ·rw[e,bD];lia
    ·rw[e,bD];lia
    ·rw[e]at H;exact yp c (dI H)
   ·have J:(Txt.slice z none (some ((i:Int)+1))).cps.toList=z.cps.toList.take (i+1):=by
     rw[oI];exact mE _ (i+1)
    have L:(Txt.slice z none (some ((j:Int)+1))).cps.toList=z.cps.toList.take (j+1):=by
     rw[oI];exact mE _ (j+1)
    rw[e]at J;have:=g5 hX (J.symm.trans L);rw[bD,bD]at this;lia
 ·have E:¬b0%3=0:=g4 hF.symm;unfold jP;dsimp only;refine fY (λb=>b=decide (b0%3=1)) (λq g=>⟨_,Fx,_,Fx,_,u,p3,g _ Fx⟩) (λhT=>?_) λhF=>?_
  ·generalize W:b9%(t+1)=pl
   have Eu:0<=pl:=by rw[<- W];exact dJ _ Fu
   have Ev:pl<t+1:=by rw[<- W];exact dA _ Fu
   refine cT (.int pl) (λq g=>⟨_,Fx,_,Fx,_,Bd,_,Fx,(show(0:Int)<t+1 by lia),by rw[W];exact g⟩) ?_;refine lC [] Ft (λq g=>g) ?_
   have f:∀j:Nat,∃c,c∈kB.cps.toList/\atI kB.cps.toList ((s+5*(j:Int))%26)=some c/\kB.cps.toList[((s+5*(j:Int))%26).toNat]?=some c:=λj=>
    oT (dJ _ Ft) (dA _ Ft)
   let F:Nat->Str:=λj=>Txt.slice z none (some pl)++⟨#[e8 (f j)]⟩++Txt.slice z (some (pl+1)) (some (t+1))
   have p:∀j,(F j).cps.toList=z.cps.toList.take pl.toNat++(e8 (f j)::(z.cps.toList.drop (pl.toNat+1)).take (t.toNat-pl.toNat)):=λj=>by
    show(Txt.slice z none (some pl)++⟨#[e8 (f j)]⟩++Txt.slice z (some (pl+1)) (some (t+1))).cps.toList=_;rw[uU,uU,oI,oI];have J:pl=((pl.toNat:Nat):Int):=by lia
    have L:pl+1=((pl.toNat+1:Nat):Int):=by lia
    have e3:t+1=((t.toNat+1:Nat):Int):=by lia
    rw[L,e3,Xa]
    have e4:kD z.cps.toList none (some pl)=z.cps.toList.take pl.toNat:=by
     have:=mE z.cps.toList pl.toNat
     rwa [<- J]at this
    rw[e4];have e5:t.toNat+1-(pl.toNat+1)=t.toNat-pl.toNat:=by lia
    rw[e5];simp
   refine fD (ts:=fF 8) (λR h=>⟨8,Fx,Ft,Ft,h⟩)
    (λj σ=>∃s8 s9:Sl,σ=[.val (.list (bs.map bN)),.val (.int k),.val (.int m),.val (.str kB),.val (.str z),.val (.int t),.own (((eW j).map F).map aO),.val (.int pl),s8,s9]) ⟨_,_,Fx⟩ (λj x ak hx hP=>?_) λak hP=>?_
   ·obtain⟨S,rfl⟩:=iQ hx;obtain⟨s8,s9,rfl⟩:=hP;have H:=d0 (f j);refine cT (.str ⟨#[e8 (f j)]⟩) (λq g=>⟨_,Fx,_,Fx,_,Fx,_,xw,_,Fx,.inl ⟨Ft,Ft⟩,lS,Ft,_,H.2.1,g⟩) ?_;refine xA (ts:=((eW j).map F).map aO) (.str (F j)) Fx (by simp;lia) (λq g=>?_) ⟨.val (.int j),.val (.str ⟨#[e8 (f j)]⟩),?_⟩
    ·refine⟨_,Fx,_,Fx,hz,_,Fx,?_,_,Fx,_,Fx,_,Fx,hz,?_,g⟩
     ·have:=Txt.slice_le z none (some pl);show(Txt.slice z none (some pl)).length+1<=100000;have:z.length=z.cps.toList.length:=by simp[t8]
      lia
     ·have a1:=Txt.slice_le z none (some pl);have a2:=Txt.slice_le z (some (pl+1)) (some (t+1));have a3:z.length=z.cps.toList.length:=by simp[t8]
      show(Txt.slice z none (some pl)++⟨#[e8 (f j)]⟩).length+_<=100000
      have a4:(Txt.slice z none (some pl)++(⟨#[e8 (f j)]⟩:Str)).length=(Txt.slice z none (some pl)).length+1:=by
       show((Txt.slice z none (some pl)).cps++#[_]).size=_;rw[QH];rfl
      rw[a4];lia
    ·rw[lO,bK,bK];rfl
   ·obtain⟨s8,s9,rfl⟩:=hP;rw[iD];refine⟨_,Fx,?_⟩;refine r _ _ (DS F (λi hi=>?_) λi j hi S e=>?_) Fx Fx Fx
    ·have H:=d0 (f i);refine SG ?_ ?_ λc u8=>?_
     ·rw[p];simp only[aV,bX];lia
     ·rw[p];simp only[aV,bD,bX,eG];lia
     ·rw[p]at u8;rcases cR.mp u8 with q | q
      ·exact yp c (dI q)
      ·rcases bA.mp q with q | q
       ·rw[q];exact H.1
       ·exact yp c (jC (dI q))
    ·have J:=p i;rw[e,p j]at J;have L:=List.append_cancel_left J;have e3:e8 (f j)=e8 (f i):=(o6 L).1;have q1:=(d0 (f i)).2.2;have q2:=(d0 (f j)).2.2;rw[e3]at q2;have e4:=WV KI q1 q2;have:=dJ (s+5*(i:Int)) (show(26:Int)≠0 by decide);have:=dJ (s+5*(j:Int)) (show(26:Int)≠0 by decide);lia
  ·exact r _ _ Lr Fx Fx Fx
def Pz:dP P w K mg base gQ 3 lu qa ["_law_script"] (cM K Ur):=by
 refine mB T.D_62.F Rt λg nd ds Q h=>?_;obtain⟨ns,rfl,S,h⟩:=h;refine⟨_,(aS (ss 1 nd (cd (HG T) T.D_60 g (aA (cd (HH T) T.D_59 g (aA (aG 0) (aA aN aJ))) (aA aN aJ))))
 (aS (ss 2 nd (cd (R5 T) T.D_61 g (aA (aG 1) (aA aN (aA (bJ aX cD (nZ (aA aN (aA aN (aA aN (aA aN (aA aN (aA aN (aA aN (aA aN aJ))))))))) (cN gD pK (bJ aX cD (aG 1) aN) aN)) aJ)))))
 (aS (so 3 nd aJ)
 (aS (sf (kU (aA (cB iK (aA (aG 2) aJ) cZ T.b_len fL) aJ) (λh=>jK Fx T.b_range h)) (dB (pn 4 nd))
 (aS (ss 5 nd (cd (HG T) T.D_60 g (aA (cd (HH T) T.D_59 g (aA (aG 0) (aA (cN cG fJ aN (aG 4)) aJ))) (aA aN aJ))))
 (bB (qI (i:=3) (pv 3) (eK (aA (bJ aX cD (aG 2) (aG 4)) (aA (cd (R5 T) T.D_61 g (aA (aG 5) (aA aN (aA (bJ aX cD (nZ (aA aN (aA aN (aA aN (aA aN (aA aN (aA aN aJ))))))) (cN gD pK (bJ aX cD (aG 5) aN) aN)) aJ)))) aJ))) (pb:=λh=>jY (jZ bY eQ eP kT (pv 3) h))))))
 (aS (ss 5 nd (cd (HG T) T.D_60 g (aA (cd (HH T) T.D_59 g (aA (aG 0) (aA aN aJ))) (aA aN aJ))))
 (jW 3 (bB (cJ (eK (aA (cY qC (aA (aG 3) aJ) jJ T.b_tuple oO) (aA (cd (R5 T) T.D_61 g (aA (aG 5) (aA aN (aA (bJ aX cD (nZ (aA aN (aA aN (aA aN (aA aN aJ))))) (cN gD pK (bJ aX cD (aG 5) aN) aN)) aJ)))) aJ))))))))))),?_⟩
 have p8:(0:Int)<8:=by decide
 have p6:(0:Int)<6:=by decide
 have p4:(0:Int)<4:=by decide
 show fR _ _ _ [.val (.list (ns.map bN)),.un,.un,.un,.un,.un];refine gU (λd=>∃bs,CM 20 bs/\d=.list (bs.map bN)) (λq e=>⟨_,Fx,ns,0,Fx,S,Ft,Ft,λr=>⟨r,20,Fx,Ft,λbs j=>e _ ⟨bs,j,Fx⟩⟩⟩) ?_;rintro _ ⟨bs,j,rfl⟩;obtain⟨b0,o,p,J⟩:=kE j (i:=0) Ft Ft;obtain⟨m,Ep,zw,hm⟩:=N6 (xs:=[1,2,2,3,3,3,4,5]) (lo:=1) (hi:=5) Ft (i:=b0%8) (dJ _ Ft) (dA _ p8);refine gU (λd=>∃c,LF m.toNat c/\d=.tuple (c.map aO)) (λq e=>?_) ?_
 ·refine⟨_,Fx,Ft,_,Fx,_,J,p8,_,hm,bs,20,m.toNat,1,?_,j,Ft,Ft,Fu,λc y=>e _ ⟨c,y,Fx⟩⟩;rw[show((m.toNat:Nat):Int)=m by lia];rfl
 rintro _ ⟨c,y,rfl⟩;have vi:c.length=m.toNat:=y.1;refine lC [] Ft (λq e=>e) ?_
 refine fD (ts:=fF c.length) (λR h=>⟨_,Fx,_,Fx,by rw[aB];lia,by rw[aB];lia,by simpa using h⟩)
  (λk σ=>∃(fs:List (Str×List Str))(s4 s5:Sl),σ=[.val (.list (ns.map bN)),.val (.list (bs.map bN)),.val (.tuple (c.map aO)),.own (fs.map iZ),s4,s5]/\fs.map (·.1)=c.take k/\∀f∈fs,2<=f.2.length/\f.2.length<=5/\LF f.2.length f.2)
  ⟨[],_,_,Fx,Fv,λf L=>by simp at L⟩ (λk x ak hx H=>?_) λak H=>?_
 ·obtain⟨hk,rfl⟩:=iQ hx;obtain⟨fs,s4,s5,rfl,b,n⟩:=H
  have t:fs.length=k:=by
   have:=g5 hX b;rw[aB,bD]at this;lia
  refine gU (λd=>∃bs,CM 12 bs/\d=.list (bs.map bN)) (λq e=>⟨_,Fx,_,Fx,ns,1+(k:Int),Fx,S,Fu,Fu,λr=>⟨r,12,Fx,Ft,λbs j=>e _ ⟨bs,j,Fx⟩⟩⟩) ?_;rintro _ ⟨u,s,rfl⟩;obtain⟨E,o,p,l⟩:=kE s (i:=0) Ft Ft;obtain⟨v,ym,Dc,W⟩:=N6 (xs:=[2,2,3,3,4,5]) (lo:=2) (hi:=5) Ft (i:=E%6) (dJ _ Ft) (dA _ p6);refine⟨fs.map iZ,Fx,_,Fx,_,Fx,_,UO hk,_,Fx,Ft,_,Fx,_,l,p6,_,W,u,12,v.toNat,1,?_,s,Ft,Ft,Fu,λvs a=>?_⟩
  ·rw[show((v.toNat:Nat):Int)=v by lia];rfl
  ·refine⟨aI Fx,by rw[aB];lia,fs++[(c[k],vs)],.val (.int k),.val (.list (u.map bN)),?_,?_,λf L=>?_⟩
   ·rw[bK];rfl
   ·rw[bK,b,bS,aD hk];rfl
   ·rcases cR.mp L with z | z
    ·exact n f z
    ·have:f=(c[k],vs):=by simpa using z
     subst this;have gS:=a.1;refine⟨by show 2<=vs.length;lia,by show vs.length<=5;lia,?_⟩;show LF vs.length vs;rw[gS];exact a
 ·obtain⟨fs,s4,s5,rfl,b,n⟩:=H;rw[iD,cU]at b;have t:fs.length=c.length:=by rw[<- b,aB]
  refine gU (λd=>∃bs,CM 12 bs/\d=.list (bs.map bN)) (λq e=>⟨_,Fx,ns,6,Fx,S,Ft,Ft,λr=>⟨r,12,Fx,Ft,λbs j=>e _ ⟨bs,j,Fx⟩⟩⟩) ?_;rintro _ ⟨u,s,rfl⟩;obtain⟨E,o,p,l⟩:=kE s (i:=0) Ft Ft;obtain⟨v,ym,Dc,W⟩:=N6 (xs:=[2,2,3,4]) (lo:=2) (hi:=4) Ft (i:=E%4) (dJ _ Ft) (dA _ p4);refine⟨_,Fx,_,Fx,_,Fx,Ft,_,Fx,_,l,p4,_,W,u,12,v.toNat,1,?_,s,Ft,Ft,Fu,λvs a=>⟨aI Fx,h fs vs ⟨Fu,Fu,?_,n,?_,?_,?_⟩⟩⟩
  ·rw[show((v.toNat:Nat):Int)=v by lia];rfl
  ·rw[b,t,vi];exact y
  ·have:=a.1;lia
  ·have:=a.1;lia
  ·have:=a.1;rw[this];exact a
def Qa:dP P w K mg base gQ 1 lv qb ["_law_form_here","_law_bits"] (cM K Us):=by
 refine mB T.D_63.F Ru λhr nd ds Q h=>?_;obtain⟨fs,an,bs,n,rfl,F,S,hn,h⟩:=h;refine⟨_,(aS (so 2 nd aJ)
 (aS (sf (kU (aA (cB iK (aA (bJ aX cD (aG 0) aN) aJ) cZ T.b_len fL) aJ) (λh=>jK Fx T.b_range h)) (dB (pn 3 nd))
 (aS (ss 4 nd (bJ aX cD (bJ aX cD (bJ aX cD (aG 0) aN) (aG 3)) aN))
 (bB (fQ (dN lD oS (cN gD pK (bJ aX cD (aG 1) (aG 3)) aN) aN)
 (bB (qI (i:=2) (pv 2) lU (pb:=λh=>jY (jZ bY eQ eP kT (pv 2) h))))
 (bB (qI (i:=2) (pv 2) (bJ aX cD (aG 4) (cN gD pK (cN lY pK (bJ aX cD (aG 1) (aG 3)) aN) (cB iK (aA (aG 4) aJ) cZ T.b_len fL))) (pb:=λh=>jY (jZ bY eQ eP kT (pv 2) h))))))))
 (jW 2 (bB (cJ (cY qC (aA (aG 2) aJ) jJ T.b_tuple oO)))))),?_⟩
 show fR _ _ _ [.val (dO fs an),.val (.list (bs.map bN)),.un,.un,.un];have n5:=F.n5;refine lC [] Ft (λq e=>e) ?_
 refine fD (ts:=fF fs.length) (λR h=>⟨_,Fx,_,Fx,_,Fx,by rw[aB];lia,by rw[aB];lia,by simpa using h⟩)
  (λk σ=>∃(a:List D)(s3 J:Sl),σ=[.val (dO fs an),.val (.list (bs.map bN)),.own a,s3,J]/\a.length=k/\∀(j:Nat) f c,fs[j]?=some f->a[j]?=some c->WT f c=true)
  ⟨[],_,_,Fx,Fx,λj f c _ r=>by simp at r⟩ (λk x L hx y=>?_) λL y=>?_
 ·obtain⟨hk,rfl⟩:=iQ hx;obtain⟨a,s3,J,rfl,d,o⟩:=y;obtain⟨b,W,Ej,p⟩:=kE S (i:=(k:Int)) Fu Fu;have t:fs[k]?=some fs[k]:=aD hk;have H:fs[k]∈fs:=dL hk;obtain⟨v2,v5,Dd⟩:=F.vs _ H;have E:L2.atI (fs.map iZ) (k:Int)=some (iZ fs[k]):=L2.eB (by rw[aF,t];rfl)
  have more:∀c:D,WT fs[k] c=true->∀(j:Nat) f u,fs[j]?=some f->(a++[c])[j]?=some u->WT f u=true:=λc r j f u v g=>by
   by_cases hj:j<a.length
   ·rw[dQ hj]at g;exact o j f u v g
   ·rw[cA Fu]at g
    have:j=k:=by
     cases q:j-a.length with
     |zero=>lia
     |succ m=>rw[q]at g;simp at g
    subst this;rw[t]at v;cases v;rw[d,AI]at g;simp at g;rw[<- g];exact r
  refine cT (.tuple (fs[k].2.map aO)) (λq e=>⟨_,Fx,_,Fx,_,Fx,_,E,_,Fx,e⟩) ?_;refine kR (λb=>True) (λq e=>⟨_,Fx,_,Fx,_,p,(show(0:Int)<6 by decide),e _ trivial⟩) (λ_=>?_) λ_=>?_
  ·refine xA (ts:=a) .none Fx Fu (λq e=>e) ⟨a++[.none],_,_,Fx,by rw[aV,d];rfl,more .none Fx⟩
  ·have l:(0:Int)<((fs[k].2.map aO).length:Int):=by rw[aB];lia
   obtain⟨c,r,s,_⟩:=oT (xs:=fs[k].2.map aO) (i:=b / 6%((fs[k].2.map aO).length:Int)) (dJ _ Fu) (dA _ l);obtain⟨z,hz,rfl⟩:=aU.mp r;refine xA (ts:=a) (.str z) Fx Fu (λq e=>⟨_,Fx,_,Fx,_,Fx,_,p,⟨Ft,Ft⟩,_,Fx,l,_,s,e⟩) ⟨a++[.str z],_,_,Fx,by rw[aV,d];rfl,more (.str z) (a8 hz)⟩
 ·obtain⟨a,s3,J,rfl,d,o⟩:=y;rw[iD]at d;exact⟨_,Fx,_,Fx,h a (FZ d o)⟩
def Qb:dP P w K mg base gQ 2 lw qc ["_law_form_here","_law_bits"] (cM K Ut):=by
 refine mB T.D_64.F Rv λhr nd ds Q h=>?_;obtain⟨fs,an,bs,n,rfl,F,hb,hn,h⟩:=h;refine⟨_,(aS (ss 2 nd (cd (Qa T) T.D_63 hr (aA (aG 0) (aA (aG 1) aJ))))
 (aS (ss 3 nd (bJ aX cD (aG 1) aN))
 (aS (fQ (dN wZ sS (cN gD pK (bJ aX cD (aG 1) aN) aN) aN)
 (aS (ss 3 nd (cN gD pK (cN lY pK (bJ aX cD (aG 1) aN) aN) aN))
 (bB (sf (kU (aA (cB iK (aA (aG 2) aJ) cZ T.b_len fL) aJ) (λh=>jK Fx T.b_range h)) (dB (pn 4 nd))
 (bB (fQ (dN OB R9 (bJ aX cD (aG 2) (aG 4)) lU)
 (bB (ss 3 nd (cN cG fJ (aG 3) (cN iF oV (xJ (bJ aX cD (bJ aX cD (bJ aX cD (aG 0) aN) (aG 4)) aN) (aA (bJ aX cD (aG 2) (aG 4)) aJ) (λh ha=>jZ mL mK mJ (xD hr) h ha)) (cN cG fJ (aG 4) aN)))))
 eM)))))
 eM)
 (bB (cJ (eK (aA (aG 2) (aA (bJ aX cD (bJ aX cD (aG 0) aN) (cN gD pK (aG 3) (cB iK (aA (bJ aX cD (aG 0) aN) aJ) cZ T.b_len fL))) aJ)))))))),?_⟩
 show fR _ _ _ [.val (dO fs an),.val (.list (bs.map bN)),.un,.un,.un];have n5:=F.n5;obtain⟨b6,Eb,Ec,Bc⟩:=kE hb (i:=6) Ft Fu;obtain⟨b7,Ed,Ee,v⟩:=kE hb (i:=7) Ft Fu;refine gU (λd=>∃c,fE fs (.tuple c)=true/\d=.tuple c) (λq f=>⟨_,Fx,_,Fx,fs,an,bs,n,Fx,F,hb,hn,λc L=>f _ ⟨c,L,Fx⟩⟩) ?_;rintro _ ⟨c,L,rfl⟩;obtain⟨tx,tz⟩:=jA L;refine cT (.int b6) (λq f=>⟨_,Fx,_,Bc,f⟩) ?_
 have g:∀(x:Int)s,s[0]?=some (.val (dO fs an))->s[2]?=some (.val (.tuple c))->s[3]?=some (.val (.int x)) ->
   yB (K1 (nS (CC 2) (nS (D7 Go (D7 Go (CC 0) (eC (.int 1))) (D7 (fI (λ_ j=>0<j) λi j=>i%j) (CC 3) (lA (f1 Hz) (nS (D7 Go (CC 0) (eC (.int 1))) wC)))) wC))) { nx:=λ_=>Q .none,rt:=Q } s:=λx s e0 u e3=>by
  have l:(0:Int)<((an.map aO).length:Int):=by rw[aB];have:=F.a2;lia
  obtain⟨a,ha,Bb,_⟩:=oT (xs:=an.map aO) (i:=x%((an.map aO).length:Int)) (dJ _ Fu) (dA _ l);obtain⟨y,hy,rfl⟩:=aU.mp ha;exact⟨_,u,_,e0,_,Fx,_,e3,_,e0,_,Fx,l,_,Bb,aI Fx,h c y L hy⟩
 refine fY (λ_=>True) (λq f=>⟨_,Fx,_,v,(show(0:Int)<3 by decide),f _ trivial⟩) (λ_=>?_) λ_=>?_
 ·refine cT (.int (b7 / 3%2)) (λq f=>⟨_,Fx,_,v,⟨Ft,Ft⟩,(show(0:Int)<2 by decide),f⟩) ?_
  refine XE (ts:=fF c.length) (λR h=>⟨_,Fx,_,Fx,Fu,Fu,by simpa using h⟩)
   (λk s=>∃(x:Int)(s4:Sl),s=[.val (dO fs an),.val (.list (bs.map bN)),.val (.tuple c),.val (.int x),s4]) ⟨_,_,Fx⟩ (λk x ak hx W=>?_) λak W=>?_
  ·obtain⟨hk,rfl⟩:=iQ hx;obtain⟨x,s4,rfl⟩:=W;have r:k<fs.length:=by lia
   have o:L2.atI c (k:Int)=some c[k]:=L2.eB (aD hk);have E:L2.atI (fs.map iZ) (k:Int)=some (iZ fs[k]):=L2.eB (by rw[aF,aD r];rfl);have S:=tz k fs[k] c[k] (aD r) (aD hk);refine kR (λb=>b=!oE c[k]) (λq f=>⟨_,Fx,_,Fx,_,o,f _ Fx⟩) (λhT=>?_) λ_=>⟨_,_,Fx⟩
   cases e:c[k]with
   |str z=>
    rw[e]at S o;have hz:z∈fs[k].2:=c5 S;have p:fs[k]∈fs:=dL r;obtain⟨v2,v5,Dd⟩:=F.vs _ p;have J:fs[k].2.idxOf z<fs[k].2.length:=fT.mpr hz;obtain⟨_,_,_,_,d5,d6⟩:=tD (wO (F.vals p) (aM 8) (m:=0))
    have wt:J9 (fs[k].2.map aO) (.str z) (fs[k].2.idxOf z):=by
     refine⟨d6,(jV (F.vals p z hz) (aM 8) (m:=0)).lay,Fu,⟨.str z,?_,?_⟩,λm t hm H=>?_⟩
     ·rw[aF,aD J,lI J];rfl
     ·show(z==z)=true;simp
     ·rw[aF]at H
      cases u:fs[k].2[m]? with
      |none=>rw[u]at H;cases H
      |some y=>
       rw[u]at H;cases H;show(y==z)=false;have Es:m<fs[k].2.length:=(aC.mp u).1
       have:y≠z:=λq=>by
        subst q;exact AU hm u
       simpa using this
    refine lM (.int (x+(fs[k].2.idxOf z:Int)*((k:Int)+1))) (λq f=>⟨_,Fx,_,Fx,_,Fx,_,Fx,_,E,_,Fx,_,Fx,_,Fx,_,Fx,_,o,_,_,Fx,wt,_,Fx,.inr ⟨Fu,Fu⟩,f⟩) ⟨_,_,Fx⟩
   |none=>rw[e]at hT;cases hT
   |_=>rw[e]at S;cases S
  ·obtain⟨x,s4,rfl⟩:=W;exact g x _ Fx Fx Fx
 ·exact g b6 _ Fx Fx Fx
def Pe:dP P w K mg base gQ 1 md qg ["_law_form_here","_law_question","_law_stray","_law_case_here"] (cM K Uy):=by
 refine mB T.D_69.F Sb λhr nd ds Q h=>?_;obtain⟨fs,an,k,n,v,st,o,rfl,F,d,Ew,hc,h⟩:=h;refine⟨_,(aS (VY (aG 1) (qW (kJ Fx (dH (pn 4 nd) (dH (pn 5 nd) (dH (pn 6 nd) iT))))) (λhe hg=>FC he hg))
 (aS (sf (kU (aA (cB iK (aA (aG 3) aJ) cZ T.b_len fL) aJ) (λh=>jK Fx T.b_range h)) (dB (pn 7 nd))
 (bB (fQ (dN lD oS (bJ aX cD (bJ aX cD (bJ aX cD (aG 0) aN) (aG 7)) aN) (aG 5))
 (aS (ss 8 nd (bJ aX cD (bJ aX cD (bJ aX cD (aG 0) aN) (aG 7)) aN))
 (aS (fQ (dN BJ HK (bJ aX cD (aG 3) (aG 7)) lU)
 (bB (cJ (aG 2)))
 eM)
 (aS (fQ (dN lD oS (aG 4) eI)
 (bB (cJ (bJ aX cD (nZ (aA eI (aA eI aJ))) (AW (oA lD oS (bJ aX cD (aG 3) (aG 7)) (aG 6)) (λh=>kQ uS Fx T.b_int F2 h)))))
 eM)
 (bB (cJ (bJ aX cD (nZ (aA eI (aA eI aJ))) (AW (oA YL sS (xJ (aG 8) (aA (bJ aX cD (aG 3) (aG 7)) aJ) (λh W=>jZ mL mK mJ (xD hr) h W)) (xJ (aG 8) (aA (aG 6) aJ) (λh W=>jZ mL mK mJ (xD hr) h W))) (λh=>kQ uS Fx T.b_int F2 h))))))))
 eM)))
 (bB (cJ eI)))),?_⟩
 show fR _ _ _ [.val (dO fs an),.val (.tuple [.str k,.str n,.str v]),.val (.str st),.val (.tuple o),.un,.un,.un,.un,.un];obtain⟨tx,tz⟩:=jA hc;have n5:=F.n5;obtain⟨f0,s,u,ym,zv⟩:=qB d;refine Q3 (a:=.str k) (b:=.str n) (c:=.str v) (λq d=>⟨_,Fx,d⟩) ?_
 refine fD (ts:=fF o.length) (λR h=>⟨_,Fx,_,Fx,Fu,Fu,by simpa using h⟩)
  (λm σ=>∃s7 s8:Sl,σ=[.val (dO fs an),.val (.tuple [.str k,.str n,.str v]),.val (.str st),.val (.tuple o),.val (.str k),.val (.str n),.val (.str v),s7,s8]/\∀(j:Nat) f,j<m->fs[j]?=some f->f.1≠n) ⟨_,_,Fx,λj f E=>by lia⟩ (λm x ak hx S=>?_) λak S=>?_
 ·obtain⟨hm,rfl⟩:=iQ hx;obtain⟨s7,s8,rfl,H⟩:=S;have y:m<fs.length:=by lia
  have l:fs[m]?=some fs[m]:=aD y;have p:o[m]?=some o[m]:=aD hm;have t:L2.atI (fs.map iZ) (m:Int)=some (iZ fs[m]):=L2.eB (by rw[aF,l];rfl);have i:L2.atI o (m:Int)=some o[m]:=L2.eB p;have r:fs[m]∈fs:=dL y;have hok:=tz m _ _ l p;refine kR (λb=>b=decide (fs[m].1=n)) (λq d=>⟨_,Fx,_,Fx,_,Fx,_,t,_,Fx,_,Fx,d _ Fx⟩) (λhT=>?_) λhF=>?_
  ·have en:fs[m].1=n:=c5 hT.symm;rw[tL F l p en]at h;have Bq:fs[m]=f0:=SQ F s r (en.trans u.symm)
   generalize u8:o[m]=c at i hok h
   refine cT (.tuple (fs[m].2.map aO)) (λq d=>⟨_,Fx,_,Fx,_,Fx,_,t,_,Fx,d⟩) ?_;refine fY (λb=>b=oE c) (λq d=>⟨_,Fx,_,Fx,_,i,d _ Fx⟩) (λL=>?_) λL=>?_
   ·cases c with
    |none=>exact⟨_,Fx,h⟩
    |_=>cases L
   ·try unfold jP
    dsimp only
    cases c with
    |none=>cases L
    |str z=>
     have hz:z∈fs[m].2:=c5 hok;have g:Q (.str (if k="is" then(if z=v then "yes" else "no")else if fs[m].2.idxOf z<=fs[m].2.idxOf v then "yes" else "no")):=h;refine fY (λb=>b=decide (k="is")) (λq d=>⟨_,Fx,d _ Fx⟩) (λJ=>?_) λJ=>?_
     ·rw[b8 (c5 J.symm)]at g;refine⟨Fw,_,Fx,_,Fx,_,i,_,Fx,_,UN (decide (z=v)),?_⟩;by_cases e:z=v
      ·rw[b8 e]at g;rw[a8 e];exact g
      ·rw[a9 e]at g;rw[c6 e];exact g
     ·try unfold jP
      dsimp only;rw[a9 (g4 J.symm)]at g;have i1:=qS (F.vals r) hz;have i2:=qS (F.vals r) (z:=v) (by rw[Bq];exact ym);refine⟨Fw,_,Fx,_,Fx,_,Fx,_,Fx,_,i,_,_,Fx,i1,_,Fx,_,Fx,_,Fx,_,_,Fx,i2,_,UN (decide ((fs[m].2.idxOf z:Int)<=(fs[m].2.idxOf v:Int))),?_⟩;by_cases e:fs[m].2.idxOf z<=fs[m].2.idxOf v
      ·rw[b8 e]at g;rw[a8 Fu];exact g
      ·rw[a9 e]at g;rw[c6 Fu];exact g
    |_=>cases hok
  ·refine⟨_,_,Fx,λj f E hf=>?_⟩;by_cases z:j<m
   ·exact H j f z hf
   ·have:j=m:=by lia
    subst this;rw[l]at hf;cases hf;exact g4 hF.symm
 ·obtain⟨s7,s8,rfl,H⟩:=S;rw[iD,tx]at H;obtain⟨j,E⟩:=bU s;exact c8 u (H j f0 (aC.mp E).1 E)
def Qc:dP P w K mg base gQ 3 lx qd ["_law_script","_law_form_here","_law_many"] (cM K Uu):=by
 refine mB T.D_65.F Rx λd nd L Q h=>?_;obtain⟨ns,fs,an,n,rfl,u,F,S,h⟩:=h;refine⟨_,(bB (cJ (el (fr:=[none,some 1,some 0]) (N':=["_law_k","_law_form_here","_law_script"]) (kU (aA (aG 2) aJ) (λh=>jK Fx T.b_range h)) (λb=>⟨(dB (pk 0)),gZ,(cd (Qb T) T.D_64 d (aA (aG 1) (aA (cd (HG T) T.D_60 d (aA (cd (HH T) T.D_59 d (aA (aG 2) (aA (cN cG fJ aN (aG 0)) aJ))) (aA aN aJ))) aJ)))⟩)))),?_⟩;refine FL (ts:=fF n) (λR h=>⟨_,Fx,_,Fx,Fu,Fu,by simpa using h⟩) (λ_ _ y=>∃r:List D×Str,UT fs an r/\y=jQ r) (by rw[iD];lia) (λk x q hx v=>?_) λc e E=>?_
 ·obtain⟨hk,rfl⟩:=iQ hx;refine⟨_,Fx,_,Fx,_,Fx,ns,7+(k:Int),Fx,u,Fu,Fu,λr=>⟨r,9,Fx,Ft,λbs s=>⟨fs,an,bs,9,Fx,F,s,Ft,λm a t p=>v _ ⟨(m,a),⟨t,p⟩,Fx⟩⟩⟩⟩
 ·rw[iD]at e
  have all:∀c:List D,(∀y∈c,∃r:List D×Str,UT fs an r/\y=jQ r)->∃f:List (List D×Str),mU fs an f/\f.length=c.length/\c=f.map jQ:=λc=>by
   induction c with
   |nil=>exactλ_=>⟨[],λr d=>by simp at d,Fx,Fx⟩
   |cons y c J=>
    intro h;obtain⟨r,d,rfl⟩:=h y (aP ..);obtain⟨f,g,l,o⟩:=J λz H=>h z (aK _ H);refine⟨r::f,λx hx=>?_,by simp[l],by rw[o];rfl⟩;rcases bA.mp hx with rfl | hx
    ·exact d
    ·exact g x hx
  obtain⟨f,g,l,rfl⟩:=all c λy j=>by
   obtain⟨k,hk⟩:=bU j;have i:k<n:=by rw[<- e];exact(aC.mp hk).1
   exact E k _ y (aD (by rw[iD];exact i)) hk
  exact h f g (by rw[<- e,aB])
def YM:dP P w K mg base gQ 1 lz qe ["_law_numbers"] (cM K Uv):=by
 refine mB T.D_66.F Ry λa nd b Q h=>?_;obtain⟨rfl,h⟩:=h;refine⟨_,(NS a (pv 0) (Xl bY PySem.F.slot_list_pop PySem.F.type_list_pop Yg (pv 0))),?_⟩;exact⟨Fx,h⟩
def Pc:dP P w K mg base gQ 1 ma qf ["_law_form_here","_law_number"] (cM K Uw):=by
 refine mB T.D_67.F Rz λhr nd ds Q h=>?_;obtain⟨fs,an,n,rfl,F,hn,h⟩:=h;refine⟨_,(aS (JW (g:=λ_ _ _ _=>True) (bJ aX cD (bJ aX cD (aG 0) aN) (cN gD pK (aG 1) (cB iK (aA (bJ aX cD (aG 0) aN) aJ) cZ T.b_len fL))) (kP (kJ Fx (dH (pn 2 nd) (dH (pn 3 nd) iT)))) (λJ L=>FC J L))
 (aS (ss 4 nd (bJ aX cD (nZ (aA eI (aA eI aJ))) (cN gD pK (cN lY pK (aG 1) aN) aN)))
 (bB (cJ (eK (aA (aG 4) (aA (aG 2) (aA (bJ aX cD (aG 3) (cN gD pK (cN lY pK (aG 1) aN) (cN yH OH (cB iK (aA (aG 3) aJ) cZ T.b_len fL) (AW (oA lD oS (aG 4) eI) (λh=>kQ uS Fx T.b_int F2 h))))) aJ)))))))),?_⟩
 show fR _ _ _ [.val (dO fs an),.val (.int n),.un,.un,.un];have n1:=F.n1;have e:(0:Int)<((fs.map iZ).length:Int):=by rw[aB];lia
 obtain⟨fd,s,r,_⟩:=oT (xs:=fs.map iZ) (i:=n%((fs.map iZ).length:Int)) (dJ _ Fu) (dA _ e);obtain⟨f,p,rfl⟩:=aU.mp s;obtain⟨v2,v5,S⟩:=F.vs f p;refine LV (a:=.str f.1) (b:=.tuple (f.2.map aO)) (λq x=>⟨_,Fx,_,Fx,_,Fx,_,Fx,_,Fx,e,_,r,x⟩) ?_;obtain⟨W,l,u,_⟩:=oT (xs:=[aO "is",.str "upto"]) (i:=n / 5%2) (dJ _ Ft) (dA _ Ft);refine cT W (λq x=>⟨aI Fx,_,Fx,⟨Ft,Ft⟩,(show(0:Int)<2 by decide),_,u,x⟩) ?_;have hl:((f.2.map aO).length:Int)=(f.2.length:Int):=by rw[aB]
 have N6:∀m:Int,0<m->m<=(f.2.length:Int)->∃z,L2.atI (f.2.map aO) (n / 10%m)=some (.str z)/\∃j:Nat,f.2[j]?=some z/\(j:Int)<m:=λm H h1=>by
  have a0:0<=n / 10%m:=dJ _ Fu;have E:n / 10%m<m:=dA _ H;obtain⟨j,d⟩:∃j:Nat,n / 10%m=(j:Int):=⟨(n / 10%m).toNat,Fu⟩;rw[d]at E |-
  have k:j<f.2.length:=by lia
  exact⟨f.2[j],L2.eB (by rw[aF,aD k];rfl),j,aD k,E⟩
 simp only[bA,dG,i8]at l;rcases l with rfl | rfl
 ·obtain⟨z,y,j,d,t⟩:=N6 (((f.2.map aO).length:Int)-0) Fu Fu;have c:z∈f.2:=aR d;refine⟨_,Fx,_,Fx,_,Fx,_,Fx,⟨Ft,Ft⟩,_,Fx,_,Fx,?_⟩;have o:(if decide (("is":Str)="upto")then(1:Int)else 0)=0:=by rw[a9 Fq]
  show(0:Int)<((f.2.map aO).length:Int)-(if decide (("is":Str)="upto")then(1:Int)else 0)/\_;rw[o];refine⟨Fu,_,y,aI Fx,h "is" f.1 z (BU p ?_)⟩;show(decide (z∈f.2)&&(decide (("is":Str)="is")||_))=true;rw[a8 c];rfl
 ·obtain⟨z,y,j,d,t⟩:=N6 (((f.2.map aO).length:Int)-1) Fu Fu;have c:z∈f.2:=aR d;have R:=FP d;refine⟨_,Fx,_,Fx,_,Fx,_,Fx,⟨Ft,Ft⟩,_,Fx,_,Fx,?_⟩;have o:(if decide (("upto":Str)="upto")then(1:Int)else 0)=1:=by rw[b8 (a8 Fx)]
  show(0:Int)<((f.2.map aO).length:Int)-(if decide (("upto":Str)="upto")then(1:Int)else 0)/\_;rw[o];refine⟨Fu,_,y,aI Fx,h "upto" f.1 z (BU p ?_)⟩;show(decide (z∈f.2)&&(decide (("upto":Str)="is")||(decide (("upto":Str)="upto")&&decide (f.2.idxOf z+1<f.2.length))))=true;have v:f.2.idxOf z+1<f.2.length:=by lia
  rw[a8 c,a8 v,a8 (rfl:("upto":Str)="upto")];simp
def VR(dd:Nat)
  (c:dP P w K mg base gQ (2+dd) fu gb ["_law_form_here","_law_numbers","_law_deep"] (cM K (tF dd))):dP P w K mg base gQ (2+dd+1) fu gb ["_law_form_here","_law_numbers","_law_deep"] (cM K (tF (dd+1))):=by
 refine mB T.D_68.F Sa λl nd ds Q h=>?_;obtain⟨fs,an,n,rfl,F,hn,h⟩:=h;refine⟨_,(aS (ss 3 nd (cd (hk:=by lia) (YM T) T.D_66 l (aA (aG 1) aJ)))
 (aS (fQ (vD (zB (dN lD oS (aG 2) aN) (vO (dN lD oS (cN gD pK (aG 3) aN) aN))))
 (bB (cJ (eK (aA eI (aA (bJ aX cD (bJ aX cD (aG 0) aN) (cN gD pK (cN lY pK (aG 3) aN) (cB iK (aA (bJ aX cD (aG 0) aN) aJ) cZ T.b_len fL))) aJ)))))
 eM)
 (aS (ss 4 nd (cd (hk:=by lia) (Pc T) T.D_67 l (aA (aG 0) (aA (cd (hk:=by lia) (YM T) T.D_66 l (aA (aG 1) aJ)) aJ))))
 (aS (ss 5 nd (cd (hk:=by lia) c T.D_68 l (aA (aG 0) (aA (aG 1) (aA (cN yH OH (aG 2) aN) aJ)))))
 (bB (cJ (eK (aA eI (aA (aG 4) (aA (bJ aX cD (nZ (aA eI (aA eI aJ))) (cN gD pK (cN lY pK (aG 3) aN) aN)) (aA (aG 5) (aA (cd (hk:=by lia) c T.D_68 l (aA (aG 0) (aA (aG 1) (aA (cN yH OH (aG 2) aN) aJ)))) aJ)))))))))))),?_⟩
 show fR _ _ _ [.val (dO fs an),.val (.dict []),.val (.int n),.un,.un,.un];have a2:=F.a2;refine gU (λd=>∃m:Int,d=.int m/\0<=m/\m<4096) (λq f=>⟨_,Fx,Fx,λm p g=>f _ ⟨m,Fx,p,g⟩⟩) ?_;rintro _ ⟨m,rfl,m0,m1⟩;refine fY (λb=>b=false->0<n) (λq f=>?_) (λ_=>?_) λR=>?_
 ·refine⟨_,Fx,?_⟩;show(if decide ((n:Int)=0)=true then _ else _);by_cases e:n=0
  ·rw[b8 (a8 Fu)];exact f _ λz=>by cases z
  ·rw[a9 (by simpa using e)];exact⟨_,Fx,(show(0:Int)<4 by decide),f _ λ_=>by lia⟩
 ·have J:(0:Int)<((an.map aO).length:Int):=by rw[aB];lia
  obtain⟨ad,x,r,_⟩:=oT (xs:=an.map aO) (i:=m / 4%((an.map aO).length:Int)) (dJ _ Fu) (dA _ J);obtain⟨a,S,rfl⟩:=aU.mp x;exact⟨_,Fx,_,Fx,_,Fx,⟨Ft,Ft⟩,_,Fx,_,Fx,J,_,r,aI Fx,h (.say a) S (dE _)⟩
 have L:0<n:=R Fx
 try unfold jP
 dsimp only;refine gU (λd=>∃k nm v:Str,d=.tuple [.str k,.str nm,.str v]/\GG fs (.tuple [.str k,.str nm,.str v])=true) (λq f=>⟨_,Fx,_,Fx,Fx,λj p g=>⟨fs,an,j,Fx,F,p,λk nm v hk=>f _ ⟨k,nm,v,Fx,hk⟩⟩⟩) ?_;rintro _ ⟨k,nm,v,rfl,hk⟩
 have E:[dO fs an,aCt [],.int ((n:Int)-1)]=[dO fs an,.dict [],.int ((n-1:Nat):Int)]:=by
  have:(n:Int)-1=((n-1:Nat):Int):=by lia
  rw[this]
 refine gU (λd=>∃t:Tr,d=jU t/\kK fs an t/\t.dep<=n-1) (λq f=>⟨_,Fx,_,Fx,_,Fx,fs,an,n-1,E,F,Fu,λt g H=>f _ ⟨t,Fx,g,H⟩⟩) ?_;rintro _ ⟨t,rfl,W,Cy⟩;obtain⟨sd,o,y,_⟩:=oT (xs:=[aO "yes",.str "no"]) (i:=m / 4%2) (dJ _ Ft) (dA _ Ft)
 obtain⟨s,rfl,hs⟩:∃s:Str,sd=.str s/\(s="yes"\/s="no"):=by
  simp only[bA,dG,i8]at o;rcases o with rfl | rfl
  ·exact⟨_,Fx,.inl Fx⟩
  ·exact⟨_,Fx,.inr Fx⟩
 refine⟨_,Fx,aI Fx,_,Fx,⟨Ft,Ft⟩,(show(0:Int)<2 by decide),_,y,_,Fx,_,Fx,_,Fx,_,Fx,fs,an,n-1,E,F,Fu,λu g H=>⟨aI Fx,h (.ask k nm v s t u) ⟨hk,hs,W,g⟩ ?_⟩⟩;show max t.dep u.dep+1<=n;lia
def Pd:dP P w K mg base gQ 7 fu gb ["_law_form_here","_law_numbers","_law_deep"] (cM K Ux):=by
 have h:∀dd:Nat,dP P w K mg base gQ (2+dd) fu gb ["_law_form_here","_law_numbers","_law_deep"] (cM K (tF dd)):=λdd=>by
  induction dd with
  |zero=>exact B1 tW λb Q h=>SH h
  |succ dd a=>exact VR T dd a
 exact h 5
def HF:dP P w K mg base gQ 2 me qh ["_law_form_here","_law_tree_here","_law_case_here"] (cM K Uz):=by
 refine mB T.D_70.F Sc λr nd L Q h=>?_;obtain⟨fs,an,t,b,rfl,F,x,f,h⟩:=h;refine⟨_,(aS (wP (dN lD oS (cB iK (aA (aG 1) aJ) cZ T.b_len fL) aN)
 (bB (ss 1 nd (bJ aX cD (aG 1) (cN cG fJ aN (AW (oA lD oS (cd (Pe T) T.D_69 r (aA (aG 0) (aA (bJ aX cD (aG 1) aN) (aA (bJ aX cD (aG 1) aN) (aA (aG 2) aJ))))) eI) (λh=>kQ uS Fx T.b_int F2 h)))))) (λf o=>wU v4 f o))
 (bB (cJ (bJ aX cD (aG 1) aN)))),?_⟩
 show fR _ _ _ [.val (dO fs an),.val (jU t),.val (.tuple b)];refine uN (λn H=>∃u:Tr,H=[.val (dO fs an),.val (jU u),.val (.tuple b)]/\n=u.kn/\kK fs an u/\iH fs u b=iH fs t b) t.kn ⟨t,Fx,Fx,x,Fx⟩ λn J l=>?_;obtain⟨u,rfl,S,z,j⟩:=l
 cases u with
 |say a=>
  refine⟨false,(λq c=>⟨_,Fx,c⟩),?_⟩;rw[a9 Ft];rw[<- j]at h;exact⟨_,Fx,_,Fx,h⟩
 |ask k nm v s y m=>
  obtain⟨d,hs,E,p⟩:=z;refine⟨true,(λq c=>⟨_,Fx,c⟩),?_⟩;rw[b8 rfl];have R:(Tr.ask k nm v s y m).kn=y.kn+m.kn+1:=rfl;have i:iH fs (.ask k nm v s y m) b=if xO b (jx fs nm) (eA fs k nm v s)then iH fs y b else iH fs m b:=rfl;have g:=xY F d hs f
  cases e:xO b (jx fs nm) (eA fs k nm v s)with
  |true=>
   rw[e,b8 rfl]at i g;refine lM (jU y) (λq c=>⟨_,Fx,_,Fx,_,Fx,_,Fx,_,Fx,_,Fx,_,Fx,fs,an,k,nm,v,s,b,Fx,F,d,hs,f,?_⟩) ⟨y.kn,Fu,y,Fx,Fx,E,i▸j⟩;rw[g];exact⟨_,Fx,c⟩
  |false=>
   rw[e,a9 Ft]at i g;refine lM (jU m) (λq c=>⟨_,Fx,_,Fx,_,Fx,_,Fx,_,Fx,_,Fx,_,Fx,fs,an,k,nm,v,s,b,Fx,F,d,hs,f,?_⟩) ⟨m.kn,Fu,m,Fx,Fx,p,i▸j⟩;rw[g];exact⟨_,Fx,c⟩
def Pf:dP P w K mg base gQ 1 mf qi ["_law_form_here"] (cM K Va):=by
 refine mB T.D_71.F Sd λE nd t Q h=>?_;obtain⟨fs,an,rfl,F,h⟩:=h;refine⟨_,(aS (ss 1 nd aN)
 (aS (sf (dS (bJ aX cD (aG 0) aN)) (dB (pn 2 nd))
 (bB (ss 1 nd (cN iF oV (aG 1) (cN cG fJ (cB iK (aA (bJ aX cD (aG 2) aN) aJ) cZ T.b_len fL) aN)))))
 (aS (fQ (dN YL sS (aG 1) aN)
 (bB (cJ (aG 0)))
 eM)
 (bB (cJ (eK (aA (gI kI qJ (bJ aX cD (aG 0) aN) jB (gW aN)) (aA (bJ aX cD (aG 0) aN) aJ)))))))),?_⟩
 show fR _ _ _ [.val (dO fs an),.un,.un];refine cT (.int 1) (λq a=>a) ?_
 refine fD (ts:=fs.map iZ) (λR h=>⟨_,Fx,_,Fx,_,Fx,h⟩)
  (λk s=>∃g:Sl,s=[.val (dO fs an),.val (.int ((jR (fs.take k):Nat):Int)),g]) ⟨_,Fx⟩ (λk x i m d=>?_) λi d=>?_
 ·obtain⟨g,rfl⟩:=d;rw[aF]at m;obtain⟨f,c,rfl⟩:=bM.mp m;have H:=(F.vs f (aR c)).2.1;refine lM (.int ((jR (fs.take (k+1)):Nat):Int)) (λq a=>⟨_,Fx,_,Fx,_,Fx,.inr ⟨by rw[aB];lia,by rw[aB];lia⟩,?_⟩) ⟨_,Fx⟩;have e:fs.take (k+1)=fs.take k++[f]:=by rw[bS,c];rfl
  rw[e,nX,kN]at a;show q (.int (((jR (fs.take k):Nat):Int)*((((f.2.map aO).length:Nat):Int)+1)));rw[aB];exact a
 ·obtain⟨g,rfl⟩:=d;rw[aB,cU];refine fY (λb=>b=decide (((jR fs:Nat):Int)<=50)) (λq a=>⟨_,Fx,a _ Fx⟩) (λo=>?_) λv=>?_
  ·have r:jR fs<=50:=by have:=c5 o.symm;lia
   have y:=S4 λf p=>(F.vs f p).1
   have n:fs.length<=3:=X3 λz=>by
    have:3^4<=3^fs.length:=kO Ft z;lia
   have j:eO fs an:=⟨F.n1,F.n5,F.nd,F.vs,F.a2,F.a4,F.an,Fu⟩;exact⟨_,Fx,h fs j (GU j n r)⟩
  try unfold jP
  dsimp only;refine⟨_,Fx,_,Fx,_,Fx,_,Fx,Fw,?_⟩;show Q (.tuple [.tuple (kD (fs.map iZ) none (some 2)),.tuple (an.map aO)])
  have e:kD (fs.map iZ) none (some 2)=(fs.take 2).map iZ:=by
   have:=mE (fs.map iZ) 2;rw[mY];exact this
  rw[e];have u:(fs.take 2).length<=2:=by rw[bD];lia
  have FT:=O2 F;have l:=zL FT 2;rw[List.take_take,aJ1]at l;exact h (fs.take 2) FT (GU FT Fu (bP l Ft))
def Pg:dP P w K mg base gQ 1 mh qj ["_law_form_here"] (cM K Vb):=by
 refine mB T.D_72.F Se λhr nd ds Q h=>?_;obtain⟨fs,an,rfl,F,S,h⟩:=h;refine⟨_,(aS (ss 1 nd (nZ (aA (eK aJ) aJ)))
 (aS (sf (dS (bJ aX cD (aG 0) aN)) (kP (kJ Fx (dH (pn 2 nd) (dH (pn 3 nd) iT))))
 (aS (so 4 nd aJ)
 (aS (sf (dS (aG 1)) (dB (pn 5 nd))
 (bB (rR (i:=4) (pv 4) (el (fr:=[none,some 5]) (N':=["_law_value","_law_case_here"]) (dS (cN cG fJ (aG 3) (eK (aA lU aJ)))) (λb=>⟨(dB (pk 0)),gZ,(cN cG fJ (aG 1) (eK (aA (aG 0) aJ)))⟩)) (pb:=λh=>jY (jZ bY gK gJ rW (pv 4) h)))))
 (jW 4 (bB (ss 1 nd (aG 4)))))))
 (bB (cJ (aG 1))))),?_⟩
 show fR _ _ _ [.val (dO fs an),.un,.un,.un,.un,.un]
 have g:∀i,(((fs.map bZ).take i).foldl iC [[]]).length<=300:=λi=>by
  rw[rZ];have:=S.1;exact bP (yE (fs.map bZ) (λe he=>by obtain⟨f,_,rfl⟩:=aU.mp he;unfold bZ;simp) i) Fu
 have n5:=F.n5;refine cT (hV [[]]) (λq d=>⟨Fw,Fw,d⟩) ?_
 refine fD (ts:=fs.map iZ) (λR h=>⟨_,Fx,_,Fx,_,Fx,h⟩)
  (λi E=>∃y s3 z m:Sl,E=[.val (dO fs an),.val (hV (((fs.map bZ).take i).foldl iC [[]])),y,s3,z,m]) ⟨_,_,_,_,Fx⟩ (λi x n o k=>?_) λn k=>?_
 ·obtain⟨y,s3,z,m,rfl⟩:=k;rw[aF]at o;obtain⟨f,s,rfl⟩:=bM.mp o;have u:(fs.map bZ)[i]?=some (bZ f):=by rw[aF,s];rfl
  have W:=g i;have H:=g (i+1);have t:((fs.map bZ).take (i+1)).foldl iC [[]]=iC (((fs.map bZ).take i).foldl iC [[]]) (bZ f):=by rw[bS,u];show(_++[bZ f]).foldl iC [[]]=_;rw[lW];rfl
  rw[t]at H;have v5:=(F.vs f (aR s)).2.1;have v:(bZ f).length<=6:=by rw[oM];lia
  have r:∀c∈(((fs.map bZ).take i).foldl iC [[]]),c.length<=5:=λc J=>by
   rw[rZ,gH]at J;rw[(oZ J).1,bD,aB];lia
  generalize ((fs.map bZ).take i).foldl iC [[]]=cs at W H t r
  refine⟨_,_,Fx,?_⟩;refine lC [] Fw (λq d=>d) ?_
  refine fD (ts:=cs.map aW) (λR h=>⟨_,Fx,_,Fx,h⟩)
   (λj E=>∃m:Sl,E=[.val (dO fs an),.val (hV cs),.val (.str f.1),.val (.tuple (f.2.map aO)),.own ((iC (cs.take j) (bZ f)).map aW),m]) ⟨_,Fx⟩ (λj x n o k=>?_) λn k=>?_
  ·obtain⟨m,rfl⟩:=k;rw[aF]at o;obtain⟨c,p,rfl⟩:=bM.mp o;have zm:=r c (aR p)
   have En:(iC (cs.take j) (bZ f)).length<=2000:=by
    have:∀l:List (List D),(iC l (bZ f)).length=l.length*(bZ f).length:=λl=>by
     unfold iC
     induction l with
     |nil=>simp
     |cons a l ih=>rw[eV,aV,ih,aB,bX,rL];lia
    rw[this,bD];have h6:min j cs.length*(bZ f).length<=300*6:=gA Fu v;lia
   refine oJ (ts:=(iC (cs.take j) (bZ f)).map aW) (us:=((bZ f).map λx=>c++[x]).map aW) Fx (by rw[aB,aB,aB];lia) (λq d=>?_) ⟨.val (.tuple c),?_⟩
   ·refine iU (ts:=bZ f) (λR h=>⟨_,Fx,Fw,by rw[aB];show _+1<=_;lia,_,Fx,h⟩) (λx=>.tuple (c++[x])) Fu (λx q o d=>⟨_,Fx,_,Fx,Fw,by show _+1<=_;lia,d⟩) ?_;rw[bL]at d;exact d
   ·have L:iC (cs.take (j+1)) (bZ f)=iC (cs.take j) (bZ f)++(bZ f).map λx=>c++[x]:=by
     rw[bS,p];unfold iC;rw[kZ];show _++(((bZ f).map λx=>c++[x])++[])=_;rw[dU]
    rw[L,bK];rfl
  ·obtain⟨m,rfl⟩:=k;refine⟨_,Fx,?_⟩;refine lM (hV (iC cs (bZ f))) (λq d=>⟨_,Fx,?_⟩) ⟨_,_,_,_,by rw[t];rfl⟩;rw[aB,cU];exact d
 ·obtain⟨y,s3,z,m,rfl⟩:=k;rw[aB,show fs.length=(fs.map bZ).length from(aB ..).symm,cU,rZ];exact⟨_,Fx,h⟩
def MA:dP P w K mg base gQ 1 mi qk ["_law_lets","_law_case_here"] (cM K Vc):=by
 refine mB T.D_73.F Sf λl nd u Q h=>?_;obtain⟨fs,an,L,c,rfl,F,j,k,h⟩:=h;refine⟨_,(bB (cJ (oA (nC l) mS nQ (el (fr:=[none,some 1,some 0]) (N':=["_law_k","_law_case_here","_law_lets"]) (kU (aA (cB iK (aA (aG 1) aJ) cZ T.b_len fL) aJ) (λh=>jK Fx T.b_range h)) (λb=>⟨(dB (pk 0)),gZ,(oA (vR l) BK (bJ aX cD (aG 1) (aG 0)) (bJ aX cD (aG 2) (aG 0)))⟩))))),?_⟩;obtain⟨n,o⟩:=jA k;have n5:=F.n5;have m:=j.1;show yB _ _ [.val (lF L),.val (.tuple c)];dsimp only[yB,D7,eC];refine iU (ts:=fF c.length) (λR h=>⟨_,Fx,_,Fx,Fu,Fu,by simpa using h⟩) (Gz L c) (by rw[iD];lia) (λx q s r=>?_) ?_
 ·obtain⟨i,p⟩:=bU s;obtain⟨f,rfl⟩:=iQ p;have d:c[i]?=some c[i]:=aD f;have a:L[i]?=some L[i]:=aD Fu;have g:=B8 F k d;have e:∀t∈L[i],EI t:=j.2 _ (aR a);refine⟨_,Fx,_,Fx,_,L2.eB d,_,Fx,_,Fx,_,L2.eB (by rw[aF,a];rfl),qX (qT g e).2 ?_⟩;show q (.bool (L[i].any λz=>cE z c[i]));rw[sG g e,<- Wu d a];exact r
 ·rw[W8];refine Wa ?_;rw[NA L c Fu]at h;rw[zV];exact h
def DQ:dP P w K mg base gQ 2 mj ql ["_law_rules","_law_case_here"] (cM K Vd):=by
 refine mB T.D_74.F Sg λm nd S Q h=>?_;obtain⟨fs,an,f,c,rfl,F,z,H,h⟩:=h;refine⟨_,(aS (sf (dS (aG 0)) (kP (kJ Fx (dH (pn 2 nd) (dH (pn 3 nd) iT))))
 (bB (fQ (tv (cd (MA T) T.D_73 m (aA (aG 2) (aA (aG 1) aJ))))
 (bB (cJ (aG 3)))
 eM)))
 (bB (cJ lU))),?_⟩
 show fR _ _ _ [.val (.list (f.map cC)),.val (.tuple c),.un,.un]
 refine fD (ts:=f.map cC) (λR h=>⟨_,Fx,_,Fx,h⟩)
  (λi L=>∃o s3:Sl,L=[.val (.list (f.map cC)),.val (.tuple c),o,s3]/\∀r∈f.take i,fX r.1 c=false) ⟨_,_,Fx,λr m=>by simp at m⟩ (λi x p s k=>?_) λp k=>?_
 ·obtain⟨o,s3,rfl,a⟩:=k;rw[aF]at s;obtain⟨r,g,rfl⟩:=bM.mp s;have n:=aR g;refine⟨_,_,Fx,?_⟩;refine kR (λb=>b=fX r.1 c) (λq J=>⟨_,Fx,_,Fx,fs,an,r.1,c,Fx,F,z r n,H,J _ Fx⟩) (λE=>?_) λy=>?_
  ·have e:pP f c=some r:=by
    have l:=(aC.mp g).1
    have t:f=f.take i++(r::f.drop (i+1)):=by
     have u:f[i]=r:=(aC.mp g).2;rw[<- u,<- fC l,fV]
    unfold pP;rw[t,nU]
    have v:(f.take i).find? (λr=>fX r.1 c)=none:=by
     rw[fN];intro j hr' d;rw[a j hr']at d;cases d
    rw[v,pX,fP (by exact E.symm)]
   rw[e]at h;exact⟨_,Fx,h⟩
  ·refine⟨_,_,Fx,λj hr'=>?_⟩;rw[bS,g]at hr';rcases cR.mp hr' with hr' | hr'
   ·exact a j hr'
   ·rw[bW.mp hr'];exact y.symm
 ·obtain⟨o,s3,rfl,a⟩:=k;rw[aB,cU]at a
  have e:pP f c=none:=by
   unfold pP;rw[fN];intro j hr' d;rw[a j hr']at d;cases d
  rw[e]at h;exact h
def Ph:dP P w K mg base gQ 1 ml qm ["_law_rule","_law_k","_law_value"] (cM K Ve):=by
 refine mB T.D_75.F Sh λl nd i Q h=>?_;obtain⟨r,j,e,x,rfl,k,c,f,h⟩:=h;refine⟨_,(bB (cJ (eK (aA (cN cG fJ (cN cG fJ (gI kI qJ (bJ aX cD (aG 0) aN) jB (gW (aG 1))) (eK (aA (cN cG fJ (bJ aX cD (bJ aX cD (aG 0) aN) (aG 1)) (eK (aA (aG 2) aJ))) aJ))) (gI kI qJ (bJ aX cD (aG 0) aN) (gW (cN cG fJ (aG 1) aN)) jB)) (aA (bJ aX cD (aG 0) aN) aJ))))),?_⟩;have g:=(aC.mp c).1;have a:kD (r.1.map aW) none (some (j:Int))=(r.1.take j).map aW:=by rw[nJ,mE]
 have b:kD (r.1.map aW) (some ((j:Int)+1)) none=(r.1.drop (j+1)).map aW:=by
  have:=vW r.1 (j+1);rw[nJ];exact g5 _ this
 have d:cC (r.1.set j (e++[x]),r.2)=.tuple [.tuple ((r.1.take j).map aW++[.tuple (e++[x])]++(r.1.drop (j+1)).map aW),.str r.2]:=by
  unfold cC lF;dsimp only;rw[kF,b8 g,bK,aZ,eF];rfl
 rw[d]at h;show yB _ _ [.val (cC r),.val (.int (j:Int)),.val x];refine⟨_,Fx,_,Fx,_,Fx,_,Fx,_,Fx,_,Fx,.tuple e,L2.eB (by rw[aF,c];rfl),_,Fx,Fw,by show _+1<=_;lia,Fw,?_⟩;show _/\_;refine⟨by rw[a,aB,bD];show _+1<=_;lia,_,Fx,_,Fx,_,Fx,?_⟩;show _/\_;refine⟨by rw[a,b,aV,aB,aB,bD,eG];show _+1+_<=_;lia,_,Fx,_,Fx,Fw,?_⟩;show Q (.tuple [.tuple (kD (r.1.map aW) none (some (j:Int))++[.tuple (e++[x])]++kD (r.1.map aW) (some ((j:Int)+1)) none),.str r.2]);rw[a,b];exact h
def Pj:dP P w K mg base gQ 1 mo qp ["_law_rule","_law_lets","_law_answer"] (cM K Vg):=by
 refine mB T.D_77.F Sj λhr nd ds Q h=>?_;obtain⟨fs,an,r,f,rfl,F,u,hf,h⟩:=h;refine⟨_,(aS (fQ (vD (zB (dN zJ HJ (bJ aX cD (aG 0) aN) (aG 2)) (vO (dN zJ HJ (cB iK (aA (bJ aX cD (aG 0) aN) aJ) cZ T.b_len fL) (cB iK (aA (aG 1) aJ) cZ T.b_len fL)))))
 (bB (cJ nQ))
 eM)
 (aS (sf (kU (aA (cB iK (aA (aG 1) aJ) cZ T.b_len fL) aJ) (λh=>jK Fx T.b_range h)) (dB (pn 3 nd))
 (bB (fQ (dN (vR hr) BK nQ (el (fr:=[none,some 1,some 3]) (N':=["_law_value","_law_lets","_law_k"]) (dS (bJ aX cD (bJ aX cD (aG 0) aN) (aG 3))) (λb=>⟨(dB (pk 0)),gZ,(oA (vR hr) BK (aG 0) (bJ aX cD (aG 1) (aG 2)))⟩)))
 (bB (cJ nQ))
 eM)))
 (bB (cJ nQ)))),?_⟩
 show fR _ _ _ [.val (cC r),.val (lF f.1),.val (.str f.2),.un];have n5:=F.n5;have vg:=u.1;have E:=hf.1;have Ci:(((r.1.map aW).length:Nat):Int)=(fs.length:Int):=by rw[aB,vg]
 have H:(((f.1.map aW).length:Nat):Int)=(fs.length:Int):=by rw[aB,E]
 refine fY (λb=>b=!decide (r.2=f.2)) (λq o=>⟨_,Fx,_,Fx,_,Fx,?_⟩) (λv=>?_) λL=>?_
 ·show(if(!decide (r.2=f.2))=true then q true else _);by_cases e:r.2=f.2
  ·rw[a8 e]at o |-
   rw[a9 Ft];refine⟨_,Fx,_,Fx,_,Fx,o _ ?_⟩;show(!decide ((((r.1.map aW).length:Nat):Int)=(((f.1.map aW).length:Nat):Int)))=_;rw[Ci,H,a8 rfl]
  ·rw[c6 e]at o |-
   rw[b8 Ft];exact o _ Fx
 ·refine h false ⟨(λz=>by cases z),λm=>?_⟩;rw[a8 m.2]at v;cases v
 try unfold jP
 dsimp only;have e2:r.2=f.2:=c5 (by simpa using L.symm)
 refine fD (ts:=fF f.1.length) (λR h=>⟨_,Fx,_,Fx,Fu,Fu,by rw[H,<- E];simpa using h⟩)
  (λi σ=>∃s3:Sl,σ=[.val (cC r),.val (lF f.1),.val (.str f.2),s3]/\∀(j:Nat) e c,j<i->r.1[j]?=some e->f.1[j]?=some c->∀x∈e,x∈c) ⟨_,Fx,λj e c hj=>by lia⟩ (λi x ak k S=>?_) λak S=>?_
 ·obtain⟨s3,rfl,g⟩:=S;obtain⟨W,rfl⟩:=iQ k;have a:f.1[i]?=some f.1[i]:=aD W;have l:r.1[i]?=some r.1[i]:=aD Fu;have s:=(hf.e F).2 _ (aR a);have J:=(u.e F).2 _ (aR l)
  have y:(r.1[i]).length<=100000:=by
   have n:i<fs.length:=by lia
   obtain⟨p,hp⟩:=u.2 i _ _ (aD n) l;have v5:=(F.vs _ (dL n)).2.1;have el:=oM fs[i];have:=cI p (bZ fs[i]);rw[hp];lia
  generalize r.1[i]=e at l J y
  generalize f.1[i]=c at a s
  refine kR (λb=>b=!e.all λx=>decide (x∈c)) (λq o=>?_) (λv=>?_) λL=>?_
  ·dsimp only[xN,D7,eC];refine iU (ts:=e) (λR h=>⟨_,Fx,_,Fx,_,Fx,.tuple e,L2.eB (by rw[aF,l];rfl),_,Fx,h⟩) (λx=>.bool (decide (x∈c))) y (λx q k o=>⟨_,Fx,_,Fx,_,Fx,.tuple c,L2.eB (by rw[aF,a];rfl),qX (qT (J x k) s).2 ?_⟩) ?_
   ·show q (.bool (c.any λz=>cE z x));rw[sG (J x k) s];exact o
   ·have em:e.map (λx=>kG (decide (x∈c)))=(e.map λx=>decide (x∈c)).map kG:=by rw[bL];rfl
    rw[em];refine T7 ⟨yN _,Fx,bP (CN _ _) Ft⟩ (o _ ?_);rw[BY,zV];rfl
  ·refine h false ⟨(λz=>by cases z),λm=>?_⟩;have:(e.all λx=>decide (x∈c))=true:=fU.mpr λx k=>a8 (m.1.2 i e c l a x k);rw[this]at v;cases v
  ·refine⟨_,Fx,λj d d' hj hd t x k=>?_⟩;by_cases ej:j=i
   ·subst ej;rw[l]at hd;rw[a]at t;cases hd;cases t;have:(e.all λx=>decide (x∈c))=true:=by simpa using L.symm
    exact c5 (fU.mp this x k)
   ·exact g j d d' Fu hd t x k
 ·obtain⟨s3,rfl,g⟩:=S;rw[iD]at g;exact h true ⟨λ_=>⟨⟨Fu,λj e c l a=>g j e c (by have:=(aC.mp a).1;lia) l a⟩,e2⟩,λ_=>rfl⟩
def Pi:dP P w K mg base gQ 2 mm qo ["_law_rules","_law_few"] (cM K Vf):=by
 refine mB T.D_76.F Si λhr nd ds Q h=>?_;obtain⟨fs,an,c,o,rfl,F,hR,hU,EZ,hE,h⟩:=h;refine⟨_,(aS (ss 2 nd aN)
 (aS (sf (dS (aG 1)) (kP (kJ Fx (dH (pn 3 nd) (dH (pn 4 nd) iT))))
 (aS (wP (vD (JQ (dN L7 sS (aG 2) (cB iK (aA (aG 0) aJ) cZ T.b_len fL)) (EV (EW (tv (cd (Pj T) T.D_77 hr (aA (bJ aX cD (aG 0) (aG 2)) (aA (aG 3) (aA (aG 4) aJ)))))))))
 (bB (ss 2 nd (cN cG fJ (aG 2) aN))) (λhc p=>wU v4 hc p))
 (aS (fQ (dN lD oS (aG 2) (cB iK (aA (aG 0) aJ) cZ T.b_len fL))
 (bB (cJ nQ))
 eM)
 (bB (ss 2 nd (cN cG fJ (aG 2) aN))))))
 (bB (cJ nQ)))),?_⟩
 show fR _ _ _ [.val (.list (c.map cC)),.val (.list (o.map cC)),.un,.un,.un];refine cT (.int ((0:Nat):Int)) (λq d=>d) ?_
 refine fD (ts:=o.map cC) (λR h=>⟨_,Fx,_,Fx,h⟩)
  (λi S=>∃(a:Nat)(s3 L:Sl),S=[.val (.list (c.map cC)),.val (.list (o.map cC)),.val (.int (a:Int)),s3,L]/\a<=c.length/\GB (c.drop a) (o.drop i)) ⟨0,_,_,Fx,dE _,hE⟩ (λi x E hx s=>?_) λE s=>?_
 ·obtain⟨a,s3,L,rfl,u,g⟩:=s;rw[aF]at hx;obtain⟨f,j,rfl⟩:=bM.mp hx;have J:=hU f (aR j);have y:=(aC.mp j).1
  have l:o.drop i=f::o.drop (i+1):=by
   rw[fC y];rw[aD y]at j;rw[c7 j]
  rw[l]at g;refine⟨_,_,Fx,?_⟩;refine uN (λn S=>∃b:Nat,S=[.val (.list (c.map cC)),.val (.list (o.map cC)),.val (.int (b:Int)),.val (lF f.1),.val (.str f.2)]/\n=c.length-b/\a<=b/\b<=c.length/\∀k q,a<=k->k<b->c[k]?=some q->¬qM q f) (c.length-a) ⟨a,Fx,Fx,aM _,u,λk q W h2=>by lia⟩ λn E s=>?_;obtain⟨b,rfl,rfl,Eh,Ek,m⟩:=s;have z:((c.map cC).length:Int)=(c.length:Int):=by rw[aB]
  by_cases p:b<c.length
  ·have v:c[b]?=some c[b]:=aD p;have H:=hR c[b] (dL p);refine⟨!(g7 (qM c[b] f)).decide,λq d=>?_,?_⟩
   ·refine⟨_,Fx,_,Fx,?_⟩;show(if decide ((b:Int)<((c.map cC).length:Int))=true then _ else _);rw[z,a8 Fu,b8 rfl];refine⟨_,Fx,_,Fx,_,L2.eB (by rw[aF,v];rfl),_,Fx,_,Fx,fs,an,c[b],f,Fx,F,H,J,λt ht=>?_⟩
    have:t=(g7 (qM c[b] f)).decide:=by
     rw[fH,ht];exact(@i0 _ (g7 _)).symm
    subst this;exact d
   by_cases r:qM c[b] f
   ·have e:(g7 (qM c[b] f)).decide=true:=(@i0 _ (g7 _)).mpr r;rw[e,a9 Ft];refine fY (λt=>t=false) (λq d=>⟨_,Fx,_,Fx,d _ ?_⟩) (λhT=>by cases hT) λ_=>?_
    ·show decide ((b:Int)=((c.map cC).length:Int))=false;rw[z];exact c6 Fu
    try unfold jP
    dsimp only;refine lM (.int ((b+1:Nat):Int)) (λq d=>⟨_,Fx,d⟩) ⟨b+1,_,_,Fx,p,?_⟩;have:=g.first (i:=b-a) (by rw[eG];lia) λk q hk d=>m (a+k) q Fu Fu (by rw[lJ]at d;exact d);rw[List.drop_drop,show a+(b-a+1)=b+1 by lia]at this;exact this
   ·have e:(g7 (qM c[b] f)).decide=false:=(@sh _ (g7 _)).mpr r;rw[e,b8 (by rfl)];refine lM (.int ((b+1:Nat):Int)) (λq d=>⟨_,Fx,d⟩) ⟨c.length-(b+1),Fu,b+1,Fx,Fx,Fu,p,λk q W h2 d=>?_⟩;by_cases ek:k=b
    ·subst ek;rw[v]at d;cases d;exact r
    ·exact m k q W Fu d
  ·exfalso;obtain⟨k,q,d,r⟩:=g.has;rw[lJ]at d;have:=(aC.mp d).1;exact m (a+k) q Fu Fu d r
 ·obtain⟨a,s3,L,rfl,u,g⟩:=s;exact h
def Pk:dP P w K mg base gQ 3 mq qq ["_law_form_here","_law_few","_law_at","_law_show"] (cM K Vh):=by
 refine mB T.D_78.F Sk λhr nd ds Q h=>?_;obtain⟨fs,an,rs,us,k,u,rfl,F,S,hR,hA,m,yl,hk,h⟩:=h;refine⟨_,(aS (JW (g:=λ_ _ _ _=>True) (aG 3) (kP (kJ Fx (dH (pn 4 nd) (dH (pn 5 nd) iT)))) (λs hg=>FC s hg))
 (aS (ss 6 nd (bJ aX cD (aG 1) (aG 2)))
 (aS (fQ (dN (yI hr) mS (cd (DQ T) T.D_74 hr (aA (cN cG fJ (gI kI qJ (aG 1) jB (gW (aG 2))) (gI kI qJ (aG 1) (gW (cN cG fJ (aG 2) aN)) jB)) (aA (aG 4) aJ))) (cd (DQ T) T.D_74 hr (aA (aG 1) (aA (aG 4) aJ))))
 (bB (cJ nQ))
 eM)
 (aS (so 7 nd aJ)
 (aS (sf (kU (aA (cB iK (aA (bJ aX cD (aG 0) aN) aJ) cZ T.b_len fL) aJ) (λh=>jK Fx T.b_range h)) (dB (pn 8 nd))
 (bB (rR (i:=7) (pv 7) (el (fr:=[none,some 8,some 6]) (N':=["_law_value","_law_k","_law_rule"]) (dS (cN cG fJ (bJ aX cD (bJ aX cD (bJ aX cD (aG 0) aN) (aG 8)) aN) (eK (aA lU aJ)))) (λb=>⟨(dB (pk 0)),(pO (dN (nC hr) mS (aG 0) (bJ aX cD (bJ aX cD (aG 2) aN) (aG 1)))),(eK (aA (aG 1) (aA (aG 0) aJ)))⟩)) (pb:=λh=>jY (jZ bY gK gJ rW (pv 7) h)))))
 (jW 7 (aS (fQ (dN (BI hr) mS (el (fr:=[none]) (N':=["_law_one"]) (dS (aG 5)) (λb=>⟨(dB (pk 0)),gZ,(eK (aA (bJ aX cD (aG 0) aN) (aA (bJ aX cD (aG 0) aN) aJ)))⟩)) (aG 7))
 (bB (cJ nQ))
 eM)
 (aS (sf (dS (aG 5)) (qW (kJ Fx (dH (pn 8 nd) (dH (pn 9 nd) (dH (pn 10 nd) iT)))))
 (aS (ss 11 nd (cN cG fJ (cN cG fJ (gI kI qJ (aG 1) jB (gW (aG 2))) (nZ (aA (cd (Ph T) T.D_75 hr (aA (aG 6) (aA (aG 8) (aA (aG 9) aJ)))) aJ))) (gI kI qJ (aG 1) (gW (cN cG fJ (aG 2) aN)) jB)))
 (bB (fQ (dN (yI hr) mS (cd (DQ T) T.D_74 hr (aA (aG 11) (aA (aG 10) aJ))) (cd (DQ T) T.D_74 hr (aA (aG 1) (aA (aG 10) aJ))))
 (bB (cJ nQ))
 eM))))
 (bB (cJ nQ)))))))))),?_⟩
 have n5:=F.n5;have l:∀c∈cO (fs.map bZ),fE fs (.tuple c)=true:=λc hc=>lZ (cW.whole fs) ((gH _ c).mp hc);have H:∀r∈us,uG fs r.1:=λr hr=>(m.lets r hr).1.e F;have wu:=(aC.mp hk).1;obtain⟨L,Db⟩:=m.lets u (aR hk);have eS:=yl;obtain⟨c,J,wo,zl,zm⟩:=m.shown hk
 have uv:∀c∈cO (fs.map bZ),vA (pP us c)=.str (iL rs c):=λc hc=>by
  obtain⟨q,q1,q2⟩:=m.ok c hc;rw[q1];show aO q.2=_;rw[q2]
 have Bi:∀c∈cO (fs.map bZ),Cd (.str (iL rs c)):=λc hc=>sD (F.an.2.1 _ (uV hA (λr hr=>(hR r hr).2) hc));have hM:=m.more l hk;have Bz:L2.atI (us.map cC) (k:Int)=some (cC u):=L2.eB (by rw[aF,hk];rfl)
 have hO:∀r∈us.take k++us.drop (k+1),r∈us:=λr hr=>by
  rcases cR.mp hr with hr | hr
  ·exact dI hr
  ·exact jC hr
 unfold A8;rw[wo]
 generalize ((nF us k (cO (fs.map bZ))).filter λc=>!decide (iL rs c=u.2))=ag at hM
 show fR _ _ _ [.val (dO fs an),.val (.list (us.map cC)),.val (.int (k:Int)),.val (.tuple [.tuple c,.list ((fZ fs u.1).map (pN fs u.1 ag))]),.un,.un,.un,.un,.un,.un,.un,.un];refine LV (a:=.tuple c) (b:=.list ((fZ fs u.1).map (pN fs u.1 ag))) (λq d=>⟨_,Fx,d⟩) ?_;refine cT (cC u) (λq d=>⟨_,Fx,_,Fx,_,Bz,d⟩) ?_;have eo:(us.map cC).take k++(us.map cC).drop (k+1)=(us.take k++us.drop (k+1)).map cC:=by rw[bK,mY,rM]
 have zc:((k:Int)+1)=((k+1:Nat):Int):=by lia
 refine fY (λb=>b=false) (λq d=>?_) (λhT=>by cases hT) λ_=>?_
 ·refine⟨_,Fx,_,Fx,_,Fx,_,Fx,?_⟩;show _/\_;rw[mE,zc,vW,eo];refine⟨by rw[bD,eG,aB];lia,_,Fx,fs,an,us.take k++us.drop (k+1),c,Fx,F,λr hr=>H r (hO r hr),l c J,_,Fx,_,Fx,fs,an,us,c,Fx,F,H,l c J,?_⟩;rw[uv c J];exact⟨oC (Wf F λq d=>(m.lets q (hO q (gF d))).2) (Bi c J),d _ zm⟩
 try unfold jP
 dsimp only;have Et:=BL F u.1;refine lC [] Fw (λq d=>d) ?_;have Cf:(((fs.map iZ).length:Nat):Int)=(fs.length:Int):=by rw[aB]
 refine fD (ts:=fF fs.length) (λR h=>⟨_,Fx,_,Fx,_,Fx,Fu,Fu,by rw[Cf];simpa using h⟩)
  (λi σ=>∃s8:Sl,σ=[.val (dO fs an),.val (.list (us.map cC)),.val (.int (k:Int)),.val (.tuple [.tuple c,.list ((fZ fs u.1).map (pN fs u.1 ag))]),.val (.tuple c),.val (.list ((fZ fs u.1).map (pN fs u.1 ag))),.val (cC u),.own ((BN fs u.1 i).map pD),s8,.un,.un,.un]/\(BN fs u.1 i).length<=10*i) ⟨_,Fx,aM _⟩ (λi x ak n hP=>?_) λak hP=>?_
 ·obtain⟨s8,rfl,eN⟩:=hP;obtain⟨uc,rfl⟩:=iQ n;have o:fs[i]?=some fs[i]:=aD uc;have zt:=dL uc;have ye:i<u.1.length:=by rw[L.1];exact uc
  have s:u.1[i]?=some u.1[i]:=aD ye;have hE:=oK F zt;have E:∀y∈u.1[i],EI y:=λy hy=>hE y (L.sub o s y hy);have v5:=(F.vs _ zt).2.1;have el:=oM fs[i];have wn:L2.atI (u.1.map aW) (i:Int)=some (.tuple u.1[i]):=L2.eB (by rw[aF,s];rfl);have uz:L2.atI (fs.map iZ) (i:Int)=some (iZ fs[i]):=L2.eB (by rw[aF,o];rfl);have ww:=DU o s;have wq:=cI (λx=>!decide (x∈u.1[i])) (bZ fs[i]);refine oJ (us:=((bZ fs[i]).filter λx=>!decide (x∈u.1[i])).map λx=>pD (i,x)) Fx (by rw[aB,aB];lia) (λq d=>?_) ⟨.val (.int (i:Nat)),?_,by rw[ww,aV,aB];lia⟩
  ·refine mG (ts:=bZ fs[i]) (λR h=>⟨_,Fx,_,Fx,_,Fx,_,uz,_,Fx,Fw,by rw[aB];show _+1<=_;lia,_,Fx,h⟩) (λx=>!decide (x∈u.1[i])) (λx=>pD (i,x)) Fu (λy q hy d=>?_) (λy q hy d=>⟨_,Fx,_,Fx,Fw,d⟩) d;refine⟨_,Fx,_,Fx,_,Fx,_,Fx,_,wn,(qT (hE y hy) E).2,?_⟩;show q (!(u.1[i].any λz=>cE z y));rw[sG (hE y hy) E];exact d
  ·rw[ww,bK,bL];rfl
 obtain⟨s8,rfl,_⟩:=hP;rw[iD];have Af:BN fs u.1 fs.length=fZ fs u.1:=rfl;rw[Af];refine⟨_,Fx,?_⟩;dsimp only[aNd]
 have xo:Cd (.list ((fZ fs u.1).map pD)):=by
  have hp:∀x∈(fZ fs u.1).map pD,x.canLay0=true/\x.depth<=1:=λx n=>by
   obtain⟨⟨j,y⟩,hm,rfl⟩:=aU.mp n;obtain⟨f,e,o,_,yo,_⟩:=(lT L).mp hm;have:=oK F (aR o) y yo;rcases this with rfl | ⟨z,_,rfl⟩
   ·exact⟨Fx,by show max 0 (max 0 0)+1<=1;decide⟩
   ·exact⟨(Nr (.inr ⟨z,by assumption,Fx⟩)).lay,by show max 0 (max 0 0)+1<=1;decide⟩
  refine⟨MK λx n=>(hp x n).1,?_⟩;show dR _+1<=_;have:=MZ λx n=>(hp x n).2;lia
 refine fY (λb=>b=false) (λq d=>?_) (λhT=>by cases hT) λ_=>?_
 ·dsimp only[xN,D7];refine iU (ts:=(fZ fs u.1).map (pN fs u.1 ag)) (λR h=>⟨_,Fx,_,Fx,h⟩) Jp (by rw[aB];lia) (λx q n d=>?_) ?_
  ·obtain⟨⟨j,y⟩,_,rfl⟩:=aU.mp n;exact⟨_,Fx,_,Fx,_,Fx,_,Fx,Fw,d⟩
  ·have em:((fZ fs u.1).map (pN fs u.1 ag)).map Jp=(fZ fs u.1).map pD:=by rw[bL];rfl
   rw[em];refine⟨_,Fx,oC xo xo,d _ ?_⟩;show(!cE _ _)=false;rw[af _ xo.lay];rfl
 try unfold jP
 dsimp only
 refine fD (ts:=(fZ fs u.1).map (pN fs u.1 ag)) (λR h=>⟨_,Fx,_,Fx,h⟩)
  (λi σ=>∃(s8 s9 wx yw:Sl),σ=[.val (dO fs an),.val (.list (us.map cC)),.val (.int (k:Int)),.val (.tuple [.tuple c,.list ((fZ fs u.1).map (pN fs u.1 ag))]),.val (.tuple c),.val (.list ((fZ fs u.1).map (pN fs u.1 ag))),.val (cC u),.val (.list ((fZ fs u.1).map pD)),s8,s9,wx,yw]) ⟨_,_,_,_,Fx⟩ (λi x ak n hP=>?_) λak hP=>?_
 ·obtain⟨s8,s9,wx,yw,rfl⟩:=hP;rw[aF]at n;obtain⟨⟨j,y⟩,hp,rfl⟩:=bM.mp n;have zx:=aR hp;obtain⟨f,e,o,s,yo,Fa⟩:=(lT L).mp zx;obtain⟨c',xx,W,xy,xz,q0,fg,ug⟩:=hM j y zx;have hE:=oK F (aR o)
  have E:∀t∈e++[y],EI t:=λt ht=>by
   rcases cR.mp ht with ht | ht
   ·exact hE t (L.sub o s t ht)
   ·rw[bW.mp ht];exact hE y yo
  have zr:e.length<=6:=by
   obtain⟨p,hp⟩:=L.2 j f e o s;have v5:=(F.vs f (aR o)).2.1;have el:=oM f;have:=cI p (bZ f);rw[hp];lia
  have em:pN fs u.1 ag (j,y)=.tuple [.int (j:Int),y,.tuple c']:=by unfold pN;rw[xx];rfl
  rw[em];refine⟨_,_,_,Fx,?_⟩
  have es:∀v:Rl,(us.map cC).take k++[cC v]++(us.map cC).drop (k+1)=(us.set k v).map cC:=λv=>by
   rw[aC7,kF,b8 (by rw[aB];exact wu),eF];rfl
  refine cT (.list ((us.set k (u.1.set j (e++[y]),u.2)).map cC)) (λq d=>?_) ?_
  ·refine⟨_,Fx,_,Fx,_,Fx,_,Fx,_,Fx,u,j,e,y,Fx,by rw[L.1];exact n5,s,zr,Fw,?_⟩;show _/\_;refine⟨by rw[mE,bD];simp only[bX,iM,aB];lia,_,Fx,_,Fx,?_⟩;show _/\q (.list (kD (us.map cC) none (some (k:Int))++[cC (u.1.set j (e++[y]),u.2)]++kD (us.map cC) (some ((k:Int)+1)) none));rw[mE,zc,vW,es];refine⟨?_,d⟩;rw[aV,bD,eG,aB];simp only[bX,iM];lia
  have Ba:uG fs (u.1.set j (e++[y])):=(L.e F).put E;have Bt:pP (us.set k (u.1.set j (e++[y]),u.2)) c'=some (u.1.set j (e++[y]),u.2):=XF wu xy ((VH o s).fit xz);have Cs:q0.2∈an:=(m.lets q0 (gF fg)).2;refine kR (λb=>b=false) (λq d=>?_) (λhT=>by cases hT) λ_=>⟨_,_,_,_,Fx⟩;refine⟨_,Fx,_,Fx,fs,an,_,c',Fx,F,λr hr=>?_,W,_,Fx,_,Fx,fs,an,us,c',Fx,F,H,W,?_⟩
  ·rcases GE hr with hr | rfl
   ·exact H r hr
   ·exact Ba
  rw[Bt,show pP us c'=some q0 from fg];refine⟨oC (sD (F.an.2.1 _ Db)) (sD (F.an.2.1 _ Cs)),d _ ?_⟩;show(u.2==q0.2)=false;exact beq_eq_false_iff_ne.mpr λz=>ug z.symm
 ·obtain⟨s8,s9,wx,yw,rfl⟩:=hP;exact h
def Pl:dP P w K mg base gQ 3 mr qr ["_law_form_here","_law_tree_here","_law_back","_law_pieces","_law_cases_here"] (cM K Vi):=by
 refine mB T.D_79.F Sm λhr nd ds Q h=>?_;obtain⟨fs,an,one,a,rfl,F,S,H,J,zk,h⟩:=h;refine⟨_,(aS (sf (dS (aG 4)) (dB (pn 5 nd))
 (bB (fQ (dN zJ HJ (cB iK (aA (el (fr:=[none,some 5]) (N':=["_law_piece","_law_case_here"]) (dS (aG 3)) (λb=>⟨(dB (pk 0)),(pO (tv (cd (MA T) T.D_73 hr (aA (aG 0) (aA (aG 1) aJ))))),(aG 0)⟩)) aJ) cZ T.b_len fL) aN)
 (bB (cJ nQ))
 eM)))
 (aS (sf (dS (aG 3)) (dB (pn 6 nd))
 (aS (qQ (i:=7) (fr:=[none,some 6]) (N':=["_law_case_here","_law_piece"]) (dS (aG 4)) (λb=>⟨(dB (pk 0)),(pO (tv (cd (MA T) T.D_73 hr (aA (aG 1) (aA (aG 0) aJ))))),(aG 0)⟩) (λhi hY=>pC (show sN _ (bF (top 104)) ["_law_form_here","_law_tree_here","_law_back","_law_pieces","_law_cases_here","_law_case_here","_law_piece","_law_some","_law_said_here"] ["_law_case_here","_law_piece"] [none,some 6]=true from by decide +kernel) nd Fx (by first | exact t9 Fx | exact o8 Fx) Fx hi hY Fx))
 (aS (ss 8 nd (cN cG fJ (el (fr:=[none,some 0,some 1]) (N':=["_law_case_here","_law_form_here","_law_tree_here"]) (dS (aG 7)) (λb=>⟨(dB (pk 0)),gZ,(cd (HF T) T.D_70 hr (aA (aG 1) (aA (aG 2) (aA (aG 0) aJ))))⟩)) (el (fr:=[none,some 0,some 2]) (N':=["_law_case_here","_law_form_here","_law_back"]) (dS (aG 7)) (λb=>⟨(dB (pk 0)),gZ,(cd (HF T) T.D_70 hr (aA (aG 1) (aA (aG 2) (aA (aG 0) aJ))))⟩))))
 (bB (fQ (dN zJ HJ (B5 (aG 8) (pc:=λh=>BH vH Fx T.b_len fL (mO (kQ (uA Fx) Fx T.b_set UK h) oR))) aN)
 (bB (cJ nQ))
 eM)))))
 (bB (cJ nQ)))),?_⟩
 show fR _ _ _ [.val (dO fs an),.val (jU one),.val (jU a),.val (.list ((iP fs one a (fs.map bZ)).map λp=>lF p.1)),.val (hV (cO (fs.map bZ))),.un,.un,.un,.un];have L:=cW.whole fs;have mA:=S.1;have iq:=wY F H J L;have g:∀c∈cO (fs.map bZ),fE fs (.tuple c)=true:=λc m=>lZ L ((gH _ c).mp m);have Cq:∀p∈iP fs one a (fs.map bZ),uG fs p.1:=λp W=>(wX F H J L W).1.e F
 refine fD (ts:=(cO (fs.map bZ)).map aW) (λR h=>⟨_,Fx,_,Fx,h⟩)
  (λi σ=>∃s5:Sl,σ=[.val (dO fs an),.val (jU one),.val (jU a),.val (.list ((iP fs one a (fs.map bZ)).map λp=>lF p.1)),.val (hV (cO (fs.map bZ))),s5,.un,.un,.un]) ⟨_,Fx⟩ (λi x v j o=>?_) λv o=>?_
 ·obtain⟨s5,rfl⟩:=o;rw[aF]at j;obtain⟨c,yb,rfl⟩:=bM.mp j;have f:=aR yb;refine kR (λb=>b=false) (λq d=>?_) (λhT=>by cases hT) λ_=>⟨_,Fx⟩;dsimp only[xN,D7,lA,nS];refine mG (ts:=(iP fs one a (fs.map bZ)).map λp=>lF p.1) (λR h=>⟨_,Fx,_,Fx,h⟩) (AM c) id (by rw[aB];lia) (λx q j d=>?_) (λx q j d=>⟨_,Fx,d⟩) ?_
  ·obtain⟨p,W,rfl⟩:=aU.mp j;rw[wW]at d;exact⟨_,Fx,_,Fx,fs,an,p.1,c,Fx,F,Cq p W,g c f,d⟩
  ·refine d _ ?_;show(!decide ((((((iP fs one a (fs.map bZ)).map λp=>lF p.1).filter (AM c)).map id).length:Int)=1))=false
   have E:(((iP fs one a (fs.map bZ)).map λp=>lF p.1).filter (AM c)).length=1:=by
    rw[kL,aB];refine Eq.trans (g5 hX (jE λp _=>?_)) (IF (HD F H J L ((gH _ c).mp f)));exact wW c p.1
   rw[kM,E];rfl
 obtain⟨s5,rfl⟩:=o
 refine fD (ts:=(iP fs one a (fs.map bZ)).map λp=>lF p.1) (λR h=>⟨_,Fx,_,Fx,h⟩)
  (λi σ=>∃s6 s7 s8:Sl,σ=[.val (dO fs an),.val (jU one),.val (jU a),.val (.list ((iP fs one a (fs.map bZ)).map λp=>lF p.1)),.val (hV (cO (fs.map bZ))),s5,s6,s7,s8]) ⟨_,_,_,Fx⟩ (λi x v j o=>?_) λv o=>?_
 ·obtain⟨s6,s7,s8,rfl⟩:=o;rw[aF]at j;obtain⟨p,Cr,rfl⟩:=bM.mp j;have W:=aR Cr;obtain⟨k1,k2,k3⟩:=wX F H J L W;have wq:=cI (fX p.1) (cO (fs.map bZ));refine cT (hV ((cO (fs.map bZ)).filter (fX p.1))) (λq d=>?_) ?_
  ·refine mG (ts:=(cO (fs.map bZ)).map aW) (λR h=>⟨_,Fx,_,Fx,h⟩) (We p.1) id (by rw[aB];lia) (λx q j d=>?_) (λx q j d=>⟨_,Fx,d⟩) ?_
   ·obtain⟨c,f,rfl⟩:=aU.mp j;exact⟨_,Fx,_,Fx,fs,an,p.1,c,Fx,F,k1.e F,g c f,d⟩
   ·rw[kM,kL];exact d
  have u:∀c∈(cO (fs.map bZ)).filter (fX p.1),fE fs (.tuple c)=true:=λc m=>g c (bC.mp m).1
  have s:FR p.1∈(cO (fs.map bZ)).filter (fX p.1):=by
   have r:=B2 k2;obtain⟨_,_,_,_,e3⟩:=k3 r r;exact bC.mpr ⟨(gH _ _).mpr e3,r⟩
  have k:∀c∈(cO (fs.map bZ)).filter (fX p.1),iH fs one c=p.2.1/\iH fs a c=p.2.1:=λc m=>by
   obtain⟨c1,c2⟩:=bC.mp m;obtain⟨_,_,E,_⟩:=k3 c2 c2;exact⟨E,(zk c c1)▸E⟩
  generalize (cO (fs.map bZ)).filter (fX p.1)=cs at wq u s k
  have n:∀(t:Tr)(ht:kK fs an t),(cs.map aW).map (Q6 fs t)=(cs.map λc=>iH fs t c).map aO:=λt _=>by rw[bL,bL];rfl
  refine cT (.list ((cs.map (λc=>iH fs one c)++cs.map λc=>iH fs a c).map aO)) (λq d=>?_) ?_
  ·dsimp only[D7];refine iU (ts:=cs.map aW) (λR h=>⟨_,Fx,_,Fx,h⟩) (Q6 fs one) (by rw[aB];lia) (λx q j d=>?_) ?_
   ·obtain⟨c,f,rfl⟩:=aU.mp j;exact⟨_,Fx,_,Fx,_,Fx,fs,an,one,c,Fx,F,H,u c f,d⟩
   refine iU (ts:=cs.map aW) (λR h=>⟨_,Fx,_,Fx,h⟩) (Q6 fs a) (by rw[aB];lia) (λx q j d=>?_) ?_
   ·obtain⟨c,f,rfl⟩:=aU.mp j;exact⟨_,Fx,_,Fx,_,Fx,fs,an,a,c,Fx,F,J,u c f,d⟩
   rw[n one H,n a J];refine⟨by rw[aB,aB,aB,aB];lia,?_⟩;rw[bK]at d;exact d
  refine kR (λb=>b=false) (λq d=>⟨_,Fx,_,Fx,by rw[aV,aB,aB];lia,d _ ?_⟩) (λhT=>by cases hT) λ_=>⟨_,_,_,Fx⟩
  have E:(L2.dd (cs.map (λc=>iH fs one c)++cs.map λc=>iH fs a c)).length=1:=by
   have ha:∀z∈cs.map (λc=>iH fs one c)++cs.map λc=>iH fs a c,z=p.2.1:=λz hz=>by
    rcases cR.mp hz with hz | hz
    ·obtain⟨c,m,rfl⟩:=aU.mp hz;exact(k c m).1
    ·obtain⟨c,m,rfl⟩:=aU.mp hz;exact(k c m).2
   have hn:cs.map (λc=>iH fs one c)++cs.map (λc=>iH fs a c)≠[]:=λz=>by
    have:=(JN.mp z).1;rw[P0.mp this]at s;cases s
   generalize cs.map (λc=>iH fs one c)++cs.map (λc=>iH fs a c)=l at ha hn
   cases l with
   |nil=>exact c8 Fx hn
   |cons y ys=>exact(K4 y ys).mpr λz hz=>(ha z (aK _ hz)).trans (ha y (aP ..)).symm
  show(!decide (((L2.dd _).length:Int)=1))=false;rw[E];rfl
 ·obtain⟨s6,s7,s8,rfl⟩:=o;exact h
def Yh:dP P w K mg base gQ 40 fc N ["_law_script"] (cM K A6):=by
 refine mB T.D_law.F XP λa nd ds Q h=>?_;obtain⟨ns,rfl,hl,h⟩:=h;refine⟨_,(aS (ss 1 nd (cd (Pf T) T.D_71 a (aA (cd (Pz T) T.D_62 a (aA (aG 0) aJ)) aJ)))
 (aS (ss 2 nd (cd (HG T) T.D_60 a (aA (cd (HH T) T.D_59 a (aA (aG 0) (aA aN aJ))) (aA aN aJ))))
 (aS (ss 3 nd (cd (Qc T) T.D_65 a (aA (aG 0) (aA (aG 1) (aA (cN cG fJ aN (cN gD pK (bJ aX cD (aG 2) aN) aN)) aJ)))))
 (aS (ss 4 nd (cd (Os T) T.D_47 a (aA (aG 1) (aA (aG 3) (aA (cN gD pK (bJ aX cD (aG 2) aN) aN) (aA (cN cG fJ aN (cN gD pK (bJ aX cD (aG 2) aN) aN)) aJ))))))
 (aS (fQ (dN lD oS (cN gD pK (bJ aX cD (aG 2) aN) aN) aN)
 (bB (ss 4 nd (cd (Pd T) T.D_68 a (aA (aG 1) (aA (XL (T4 (aG 2) (gW aN) jB)) (aA aN aJ))))))
 eM)
 (aS (ss 5 nd (cd (Pg T) T.D_72 a (aA (aG 1) aJ)))
 (aS (ss 6 nd (cd (Pw T) T.D_54 a (aA (aG 1) (aA (cd (Pv T) T.D_53 a (aA (aG 4) aJ)) aJ))))
 (aS (ss 7 nd (qY (cF (Od T) T.D_19 a (aA (aG 1) (aA (aG 4) aJ)))))
 (aS (JW (g:=λ_ _ _ _=>True) (cd (Oe T) T.D_23 a (aA (aG 1) (aA (cY UI (aA (aG 7) aJ) sE T.b_list uT) aJ))) (kP (kJ Fx (dH (pn 8 nd) (dH (pn 9 nd) iT)))) (λhe hg=>FC he hg))
 (aS (ss 10 nd (cd (Ot T) T.D_48 a (aA (aG 1) (aA (cY UI (aA (aG 8) aJ) sE T.b_list uT) aJ))))
 (aS (ss 11 nd (cd (Pt T) T.D_51 a (aA (aG 1) (aA (aG 4) (aA (aG 10) aJ)))))
 (aS (fQ (vD (zB (dN zJ HJ (bJ aX cD (aG 11) aN) eI) (zB (dN zJ HJ (cB iK (aA (aG 8) aJ) cZ T.b_len fL) (cB iK (aA (aG 9) aJ) cZ T.b_len fL)) (vO (EW (tv (cd (Pi T) T.D_76 a (aA (aG 7) (aA (aG 8) aJ)))))))))
 (bB (cJ nQ))
 eM)
 (aS (sf (dS (aG 5)) (dB (pn 12 nd))
 (aS (ss 13 nd (cd (HF T) T.D_70 a (aA (aG 1) (aA (aG 4) (aA (aG 12) aJ)))))
 (aS (fQ (dN zJ HJ (cB iK (aA (el (fr:=[none,some 12]) (N':=["_law_rule","_law_case_here"]) (dS (aG 7)) (λb=>⟨(dB (pk 0)),(pO (tv (cd (MA T) T.D_73 a (aA (bJ aX cD (aG 0) aN) (aA (aG 1) aJ))))),(aG 0)⟩)) aJ) cZ T.b_len fL) aN)
 (bB (cJ nQ))
 eM)
 (aS (ss 14 nd (nZ (aA (cd (DQ T) T.D_74 a (aA (aG 7) (aA (aG 12) aJ))) (aA (cd (DQ T) T.D_74 a (aA (aG 8) (aA (aG 12) aJ))) (aA (cd (HF T) T.D_70 a (aA (aG 1) (aA (aG 10) (aA (aG 12) aJ)))) aJ)))))
 (bB (fQ (vD (zB (dN (BI a) mS (aG 14) (nZ (aA (aG 13) (aA (aG 13) (aA (aG 13) aJ))))) (vO (dN (BI a) mS (cd (HF T) T.D_70 a (aA (aG 1) (aA (aG 6) (aA (aG 12) aJ)))) (aG 13)))))
 (bB (cJ nQ))
 eM))))))
 (aS (sf (kU (aA (cB iK (aA (aG 8) aJ) cZ T.b_len fL) aJ) (λh=>jK Fx T.b_range h)) (dB (pn 15 nd))
 (bB (fQ (EW (tv (cd (Pk T) T.D_78 a (aA (aG 1) (aA (aG 8) (aA (aG 15) (aA (bJ aX cD (aG 9) (aG 15)) aJ)))))))
 (bB (cJ nQ))
 eM)))
 (bB (cJ (cd (Pl T) T.D_79 a (aA (aG 1) (aA (aG 4) (aA (aG 10) (aA (bJ aX cD (aG 11) aN) (aA (aG 5) aJ)))))))))))))))))))))),?_⟩
 show fR _ _ _ [.val (.list (ns.map bN)),.un,.un,.un,.un,.un,.un,.un,.un,.un,.un,.un,.un,.un,.un,.un];have ff:¬(false=true):=bQ;refine gU (λd=>∃fs an,eO fs an/\rC fs/\d=dO fs an) (λq f=>⟨_,Fx,ns,Fx,hl,λgs an FF=>⟨gs,an,Fx,FF,λfs F S=>f _ ⟨fs,an,F,S,Fx⟩⟩⟩) ?_;rintro _ ⟨fs,an,F,S,rfl⟩;refine gU (λd=>∃bs,CM 50 bs/\d=.list (bs.map bN)) (λq f=>⟨_,Fx,ns,6,Fx,hl,Ft,Ft,λr=>⟨r,50,Fx,Ft,λbs hb=>f _ ⟨bs,hb,Fx⟩⟩⟩) ?_;rintro _ ⟨bs,hb,rfl⟩;obtain⟨xm,Fc,Fk,Ak⟩:=kE hb (i:=13) Ft Ft;obtain⟨Ac,Fd,Fl,Al⟩:=kE hb (i:=14) Ft Ft;obtain⟨Ad,Fe,Fm,Am⟩:=kE hb (i:=15) Ft Ft;obtain⟨Dz,Ff,Fn,An⟩:=kE hb (i:=16) Ft Ft;refine gU (λd=>∃p,mU fs an p/\p.length<=14/\d=.list (p.map jQ)) (λq f=>⟨_,Fx,_,Fx,_,Fx,_,Ak,(show(0:Int)<14 by decide),ns,fs,an,(1+xm%14).toNat,?_,hl,F,Fu,λm g1 E=>f _ ⟨m,g1,Fu,Fx⟩⟩) ?_
 ·rw[show(((1+xm%14).toNat:Nat):Int)=1+xm%14 by lia]
 rintro _ ⟨p,Au,Ct,rfl⟩;refine gU (λd=>∃t,kK fs an t/\t.dep<=4/\d=jU t) (λq f=>⟨_,Fx,_,Fx,_,Fx,_,Al,(show(0:Int)<5 by decide),_,Fx,_,Am,(show(0:Int)<3 by decide),fs,an,p,(Ac%5).toNat,1+Ad%3,?_,F,Au,Fu,Fu,λt g1 E=>f _ ⟨t,g1,Fu,Fx⟩⟩) ?_
 ·rw[Int.toNat_of_nonneg Fu]
 rintro _ ⟨t0,zy,Bk,rfl⟩;refine V5 (λ_=>True) (λσ=>∃t,σ=[.val (.list (ns.map bN)),.val (dO fs an),.val (.list (bs.map bN)),.val (.list (p.map jQ)),.val (jU t),.un,.un,.un,.un,.un,.un,.un,.un,.un,.un,.un]/\kK fs an t/\t.dep<=4) (λq f=>⟨_,Fx,_,An,(show(0:Int)<2 by decide),f _ trivial⟩) (λ_ Dx ww=>?_) (λ_=>⟨t0,Fx,zy,Bk⟩) λak J=>?_
 ·refine⟨_,Fx,_,Fx,_,Fx,bs.drop 20,?_,by rw[eG,hb.1];decide,λi hi=>hb.2 i (jC hi),fs,an,4,Fx,F,Ft,λt h1 h2=>ww _ ⟨t,Fx,h1,h2⟩⟩;rw[rM];exact vW (bs.map bN) 20
 obtain⟨t,rfl,H,hd⟩:=J;have hW:=cW.whole fs;have mA:=S.1;have ux:∀c∈cO (fs.map bZ),fE fs (.tuple c)=true:=λc j=>lZ hW ((gH _ c).mp j)
 have Em:t.kn<=15:=by
  have:=t.kn_dep;have:2^t.dep<=2^4:=kO Ft hd;lia
 refine cT (hV (cO (fs.map bZ))) (λq f=>⟨_,Fx,fs,an,Fx,F,S,f⟩) ?_;refine cT (jU t) (λq f=>⟨_,Fx,_,Fx,fs,an,t,Fx,F,H,Fu,Fu,fs,an,t,Fx,F,H,Fu,Fu,f⟩) ?_;have Cj:=vT fs t (fs.map bZ);have wv:=jL t hW;refine cT (.list ((cK fs t (fs.map bZ)).map cC)) (λq f=>⟨_,Fx,_,Fx,fs,an,t,Fx,F,H,Fu,Fu,f⟩) ?_;have u:=λc (j:c∈cO (fs.map bZ))=>tO t H hW ((gH _ c).mp j);have vf:∀r∈cK fs t (fs.map bZ),r.2∈an:=λr a=>vU t H a;have iq:∀n,kK fs an n->(iP fs t n (fs.map bZ)).length<=50:=λn h2=>bP (wY F H h2 hW) mA
 generalize cK fs t (fs.map bZ)=m at Cj wv u vf
 have hA:uI fs m:=λc j=>(u c j).2.2;have hR:∀r∈m,cW fs r.1/\r.2∈an:=λr a=>⟨(wv r a).1,vf r a⟩;have zj:∀r∈m,uG fs r.1:=λr a=>(hR r a).1.e F
 have wr:∀c∈cO (fs.map bZ),vA (pP m c)=.str (iH fs t c):=λc j=>by
  obtain⟨_,E,g3⟩:=u c j;unfold pP
  cases hf:m.find? (λr=>fX r.1 c)with
  |none=>exact c8 hf g3
  |some r=>
   rw[hf]at E;have:=c7 E;show aO r.2=_;rw[this]
 have uu:∀c∈cO (fs.map bZ),iL m c=iH fs t c:=λc j=>by
  have g1:=F4 hA j;have E:=wr c j;unfold pP at E;rw[g1]at E;injection E
 refine(show fR (V6 _ _ _) _ _ _ from⟨_,Fx,_,Fx,fs,an,m,Fx,F,S,hR,Fu,hA,λl o=>⟨_,_,Fx,?_⟩⟩);dsimp only;have Az:∀r∈l,uG fs r.1:=λr a=>(o.lets r a).1.e F;have eN:l.length<=20:=by have:=o.len;lia
 have zu:∀c∈cO (fs.map bZ),vA (pP l c)=.str (iH fs t c):=λc j=>by
  obtain⟨q,q1,q2⟩:=o.ok c j;rw[q1];show aO q.2=_;rw[q2,uu c j]
 have zg:uI fs l:=λc j z=>by
  obtain⟨q,q1,_⟩:=o.ok c j;unfold pP at q1;rw[q1]at z;cases z
 have uw:∀c∈cO (fs.map bZ),iL l c=iH fs t c:=λc j=>by
  have g1:=F4 zg j;have E:=zu c j;unfold pP at E;rw[g1]at E;injection E
 refine gU (λd=>∃n,kK fs an n/\n.dep<=20/\(∀c∈cO (fs.map bZ),iH fs n c=iH fs t c)/\d=jU n) (λq f=>⟨_,Fx,_,Fx,fs,an,l,Fx,F,S,o.lets,zg,λn h2=>f _ ⟨n,h2.1,h2.2.1,λc j=>(h2.2.2.2 c j).trans (uw c j),Fx⟩⟩) ?_;rintro _ ⟨n,W,zo,s,rfl⟩;have Ce:=iq n W;refine cT (F7 fs t n) (λq f=>⟨_,Fx,_,Fx,_,Fx,fs,an,t,n,Fx,F,H,W,Fu,Fu,Fu,λc j z=>c8 (s c j).symm z,λ_=>f⟩) ?_;dsimp only[aNd];refine fY (λz=>z=false) (λq f=>⟨_,Fx,_,Fx,?_⟩) (λhT=>by cases hT) λ_=>?_
 ·show(if(!decide (("alike":Str)="alike"))=true then q true else _);rw[a9 Fq];refine⟨_,Fx,_,Fx,?_⟩;show(if(!decide (((l.map cC).length:Int)=((lL fs (cO (fs.map bZ)) (iL m) l l.length).length:Int)))=true then q true else _);rw[aB,zE,a8 Fx,a9 Ft];exact⟨_,Fx,_,Fx,fs,an,m,l,Fx,F,λr a=>(hR r a).1,λr a=>(o.lets r a).1,Fu,o.emb,f _ Fx⟩
 try unfold jP
 dsimp only
 have ya:∀c∈cO (fs.map bZ),Cd (.str (iH fs t c)):=λc j=>by
  have:=uV hA vf j;rw[uu c j]at this;exact sD (F.an.2.1 _ this)
 refine fD (ts:=(cO (fs.map bZ)).map aW) (λR h=>⟨_,Fx,_,Fx,h⟩)
  (λi σ=>∃wy wz xa:Sl,σ=[.val (.list (ns.map bN)),.val (dO fs an),.val (.list (bs.map bN)),.val (.list (p.map jQ)),.val (jU t),.val (hV (cO (fs.map bZ))),.val (jU t),.val (.list (m.map cC)),.val (.list (l.map cC)),.val (.list (lL fs (cO (fs.map bZ)) (iL m) l l.length)),.val (jU n),.val (F7 fs t n),wy,wz,xa,.un]) ⟨_,_,_,Fx⟩ (λi x ak hx J=>?_) λak J=>?_
 ·obtain⟨wy,wz,xa,rfl⟩:=J;rw[aF]at hx;obtain⟨c,yb,rfl⟩:=bM.mp hx;have y:=aR yb;have v:=ux c y;have L:=ya c y;refine cT (.str (iH fs t c)) (λq f=>⟨_,Fx,_,Fx,_,Fx,fs,an,t,c,Fx,F,H,v,f⟩) ?_;refine fY (λb=>b=false) (λq f=>?_) (λhT=>by cases hT) λ_=>?_
  ·dsimp only[xN,D7,lA,nS];refine mG (ts:=m.map cC) (λR h=>⟨_,Fx,_,Fx,h⟩) (XH c) id (by rw[aB];lia) (λx q hx f=>?_) (λx q hx f=>⟨_,Fx,f⟩) ?_
   ·obtain⟨r,a,rfl⟩:=aU.mp hx;rw[D3]at f;exact⟨_,Fx,_,Fx,_,Fx,fs,an,r.1,c,Fx,F,zj r a,v,f⟩
   ·refine f _ ?_;show(!decide (((((m.map cC).filter (XH c)).map id).length:Int)=1))=false
    have e1:((m.map cC).filter (XH c)).length=1:=by
     rw[kL,aB];refine Eq.trans (g5 hX (jE λr _=>?_)) (IF (u c y).1);exact D3 c r
    rw[kM,e1];rfl
  try unfold jP
  dsimp only;refine cT (.list [.str (iH fs t c),.str (iH fs t c),.str (iH fs t c)]) (λq f=>?_) ?_
  ·refine⟨_,Fx,_,Fx,fs,an,m,c,Fx,F,zj,v,_,Fx,_,Fx,fs,an,l,c,Fx,F,Az,v,_,Fx,_,Fx,_,Fx,fs,an,n,c,Fx,F,W,v,?_⟩;rw[wr c y,zu c y,s c y];exact⟨Fw,f⟩
  refine kR (λb=>b=false) (λq f=>?_) (λhT=>by cases hT) λ_=>⟨_,_,_,Fx⟩;have xn:Cd (.list [.str (iH fs t c),.str (iH fs t c),.str (iH fs t c)]):=⟨by show(CZ _&&(CZ _&&(CZ _&&true)))=true;rw[L.lay];rfl,by show max 0 (max 0 (max 0 0))+1<=_;decide⟩;refine⟨_,Fx,_,Fx,_,Fx,_,Fx,Fw,oC xn xn,?_⟩;show(if(!cE _ _)=true then q true else _);rw[af _ xn.lay,a9 Ft];refine⟨_,Fx,_,Fx,_,Fx,fs,an,t,c,Fx,F,H,v,_,Fx,oC L L,f _ ?_⟩;show(!cE _ _)=false;rw[af _ L.lay];rfl
 obtain⟨wy,wz,xa,rfl⟩:=J;have Cg:((l.map cC).length:Int)=(l.length:Int):=by rw[aB]
 refine fD (ts:=fF l.length) (λR h=>⟨_,Fx,((l.map cC).length:Int),Fx,Fu,Fu,by rw[Cg];exact h⟩)
  (λi σ=>∃yx:Sl,σ=[.val (.list (ns.map bN)),.val (dO fs an),.val (.list (bs.map bN)),.val (.list (p.map jQ)),.val (jU t),.val (hV (cO (fs.map bZ))),.val (jU t),.val (.list (m.map cC)),.val (.list (l.map cC)),.val (.list (lL fs (cO (fs.map bZ)) (iL m) l l.length)),.val (jU n),.val (F7 fs t n),wy,wz,xa,yx]) ⟨_,Fx⟩ (λk x ak hx J=>?_) λak J=>?_
 ·obtain⟨yx,rfl⟩:=J;obtain⟨wu,rfl⟩:=iQ hx;have hk:l[k]?=some l[k]:=aD wu;exact kR (λb=>b=false) (λq f=>⟨_,Fx,_,Fx,_,Fx,_,Fx,_,Fx,_,L2.eB (GY hk),fs,an,m,l,k,l[k],Fx,F,S,hR,hA,o,eN,hk,f _ Fx⟩) (λhT=>by cases hT) λ_=>⟨_,Fx⟩
 ·obtain⟨yx,rfl⟩:=J;exact⟨_,Fx,_,Fx,_,Fx,_,Fx,_,Fx,_,Fx,fs,an,t,n,Fx,F,S,H,W,λc j=>(s c j).symm,h⟩
def Wb:dP P w K mg base gQ 40 fc N ["_law_script"] (cM K A6):=Yh T
def aCi{l:cq}{fa:Addr}(a:mg "law"=some (.ref fa)):∃b:jH,(∀s(v:Value),BindsTo s b ⟨[v],[]⟩ [("_law_script",v)])/\∀base:Heap,K.In base->base.Ns iV mg->dP l.prog w K mg base gQ 40 fa b ["_law_script"] (cM K A6):=by
 have e:=a.symm.trans T.D_law.m;cases e;refine⟨N,?_,λbase _ _=>Wb T⟩;obtain⟨_,_,_,_,_,_,_,_,_,e,_⟩:=T.D_law.F.ex;rw[e]
 exactλs v=>.of_eq Fx
omit T
def TK{t n:Nat}(l:K.lookup t=some ⟨.type "tuple",none,.seq #[.str "is" k0,.str "upto" k1] n,s⟩):UW K t ["is","upto"]:=⟨_,_,_,l,Fx,Fx,Fx,(by show 2<=bO;decide),.cons ⟨_,Fx⟩ (.cons ⟨_,Fx⟩ (.nil))⟩
def TJ{t n:Nat}(l:K.lookup t=some ⟨.type "tuple",none,.seq #[.str "yes" k0,.str "no" k1] n,s⟩):UW K t ["yes","no"]:=⟨_,_,_,l,Fx,Fx,Fx,(by show 2<=bO;decide),.cons ⟨_,Fx⟩ (.cons ⟨_,Fx⟩ (.nil))⟩
def S3:bR H (mask H []):=λb o e=>by
 unfold mask;rw[a9 Fv];exact e
theorem D0{K}:∀ns:List Int,Reps K H (ns.map bN) (ns.map V.int)
|[]=>.nil
|n::ns=>.cons (.int n) (D0 ns)
def aKj{l:cq}{g:(Str->Option Value)->Heap->Prop}{b:d7->Heap->Prop}{d:DefRec}{K:Params->aQ}(t:l.most=some 63)(c:d.params.defaults=[])
  (m:∀(w:d7)(h:Heap),b w h->(K w.params).In h) (j:∀(w:d7)(h:Heap),b w h->∀P,tabA=some P->h.get? P=some { cls:=.none,data:=.fields #[] }/\(K w.params).lookup P=none/\bz h P)
  (F:∀(w:d7)(mg:Str->Option Value)(fa:Addr)(h:Heap),(K w.params).In h->h.Ns iV mg->mg d.name=some (.ref fa) ->
   ∃e:jH,(∀s(u:Value),BindsTo s e ⟨[u],[]⟩ [("_law_script",u)])/\∀base:Heap,(K w.params).In base->base.Ns iV mg->dP l.prog w (K w.params) mg base gQ 40 fa e ["_law_script"] (cM (K w.params) A6)) :
  U9 q loose g b l.row.toRowW d [] (λf vs=>gp f vs):=
 L2.VI (n:=63) (k:=40) (x:="_law_script") (CX:=λ_=>gQ) (sp:=λw=>cM (K w.params) A6) t Ft c ⟨Fx,Ft,Ft,Fx⟩ m j F
  (λw H a ns o _ i=>⟨[],[.list (ns.map bN)],λd=>d=.bool true,λp y=>by simp at y,.cons (.list (L2.bR.seq S3 i) (D0 ns)) .nil,⟨ns,Fx,o,Fx⟩,λd v E _ r q=>by subst q;cases r;rfl⟩) λ_ _ _ _ _ z=>z
end
end K90
open L2
namespace PySem.W.Fast
theorem mt:True:=⟨⟩
def tw15681060911834244407:=mt
def tw4931553287697583885:=mt
def tw13537421802748217330:=mt
def tw4570271992283883890:=mt
def tw11195940456187333570:=mt
def tw10082314364009616870:=mt
def tw16961200353720777793:=mt
def tw4097758123520917883:=mt
def tw10060983455264820331:=mt
def tw7226016361382017963:=mt
def tw2473770762039438293:=mt
def tw10826638796657386839:=mt
def tw16862337229712699685:=mt
def tw10495391947364813464:=mt
def tw12003528224076742212:=mt
def tw15453198930988019054:=mt
def tw5666270576909386410:=mt
def tw2856434244798252517:=mt
def tw15011203776329006766:=mt
def tw12027828908257978585:=mt
def tw637424072485809100:=mt
def tw8457474531147181553:=mt
def tw4782960496131940156:=mt
def tw5741990570427264431:=mt
def tw7999655386584819409:=mt
def tw2018437144491196727:=mt
def tw12119501518035625767:=mt
def tw7123087292254558906:=mt
def tw14652446350800378858:=mt
def tw18058489139179248721:=mt
def tw4591116830950901428:=mt
def tw7181140599699172967:=mt
def tw8939471646613569017:=mt
def tw4764264061299436357:=mt
def tw12466459807476300797:=mt
def tw13866064528361907186:=mt
def tw6500153045506271562:=mt
def tw6280138973919220413:=mt
def tw2551589676550227638:=mt
def tw17441110434598353326:=mt
def tw6970471273191926569:=mt
def tw9036742483212850071:=mt
def tw15452637026391235446:=mt
def tw4671885369092135361:=mt
def tw15089946511156991941:=mt
def tw8466746017742418825:=mt
def tw13419656233308128222:=mt
def tw9802861418627110769:=mt
def tw13633463686739290551:=mt
def tw15184926561346446743:=mt
def tw12001016975849762043:=mt
def tw10366000143653141501:=mt
def tw8013638421998012222:=mt
def tw15149320828997856828:=mt
def tw2463675260066450001:=mt
def tw2680672209484813848:=mt
def tw8700916909746615547:=mt
def tw12838606204352412994:=mt
def tw11693025220152949891:=mt
def tw5650797912864370764:=mt
def tw12871676786652855044:=mt
def tw3866486985557883333:=mt
def tw11295703701665731970:=mt
def tw3404594105540036140:=mt
def tw16996279766566873846:=mt
def tw8577743827249747156:=mt
def tw6019611532053826365:=mt
def tw5566595836399767400:=mt
def tw3183690791571846685:=mt
def tw6562024487350944479:=mt
def tw16277640759484203451:=mt
def tw15803551155660338029:=mt
def tw11201905966351451634:=mt
def tw14261942850566793977:=mt
def tw8066448963069771744:=mt
def tw14783768385541255244:=mt
def tw10750715631784617820:=mt
def tw9062391527055888034:=mt
def tw1553280191317468711:=mt
def tw3552503384791228377:=mt
def tw7037893630942899142:=mt
def tw699887643062061018:=mt
def tw1508938227999752565:=mt
def tw17340147775297860993:=mt
def tw7277508949727293796:=mt
def tw10235666751859749790:=mt
def tw17282162725273328090:=mt
def tw403355415760907484:=mt
def tw1654777771794599820:=mt
def tw6738663676729344125:=mt
def tw14330927072429259984:=mt
def tw14277877926576231152:=mt
def tw16547010380860427323:=mt
def tw1454926462341269347:=mt
def tw12210473454967937523:=mt
def tw12124050923622856266:=mt
def tw3430386939677520455:=mt
def tw1702131643503490107:=mt
def tw15394156970856675744:=mt
def tw18073095880290528310:=mt
def tw11673807386290420275:=mt
def tw13589141705254378114:=mt
def tw14220953658319725239:=mt
def tw4005560920976758072:=mt
def tw7391203694116397101:=mt
def tw10113109610843218739:=mt
def tw12092748430366263028:=mt
def tw15890521697504303324:=mt
def tw3685944075053120392:=mt
def tw18108150381403619017:=mt
def tw16347338226841204056:=mt
def tw37905676354531654:=mt
def tw9604866632767173147:=mt
def tw2237228394653165946:=mt
def tw6448725217839430498:=mt
def tw14492534388507654489:=mt
def tw16658658018191871286:=mt
def tw11151079642965756642:=mt
def tw15987394614232098022:=mt
def tw15958893522101454127:=mt
def tw14428050895452494114:=mt
def tw14418821205277325862:=mt
def tw5267331960025717480:=mt
def tw6821561933287106591:=mt
def tw17159905369226131385:=mt
def tw8711216047559514997:=mt
def tw14746807754892039340:=mt
def tw10497471767188675772:=mt
def tw1460070624178296117:=mt
def tw5352389246748567209:=mt
def tw1576380974077427213:=mt
def tw4348853424635053879:=mt
def tw10725401574236059814:=mt
def tw8616944495045889199:=mt
def tw11863683737858682452:=mt
def tw3725912727786430850:=mt
def tw6214649916467309884:=mt
def tw17254207269030361703:=mt
def tw14560974865918106360:=mt
def tw17896475780062829950:=mt
def tw15870428063858408059:=mt
def tw998059381025738872:=mt
def tw11372292866718880449:=mt
def tw14753120174882770750:=mt
def tw4159374843599044795:=mt
def tw881835334000597954:=mt
def tw7857553617240658481:=mt
def tw11357309591887094080:=mt
def tw1119353519680848848:=mt
def tw9785136313095609121:=mt
def tw5094148581884615103:=mt
def tw17082855835607706203:=mt
def tw6518423043858526099:=mt
def tw17003742943671729981:=mt
def tw10115675745177810942:=mt
def tw4105461504850831259:=mt
def tw1312966398972211840:=mt
def tw16887648216950926103:=mt
def tw11913816149530044291:=mt
def tw11991159442850920734:=mt
def tw7563489137464147279:=mt
def tw12683103835695387340:=mt
def tw7308355339224452037:=mt
def tw5058472643769350468:=mt
def tw5534669062752103825:=mt
def tw4765823382774742358:=mt
def tw9150512746264640437:=mt
def tw433080763058598877:=mt
def tw15383792894406618184:=mt
def tw3141208174308816459:=mt
def tw2663606381380822330:=mt
def tw6354524229508625182:=mt
def tw3247240940316313867:=mt
def tw1207323294318603331:=mt
def tw481894617856953578:=mt
def tw16620833339915081650:=mt
def tw13097732556957750551:=mt
def tw2677017355861050333:=mt
def tw13812163882076256931:=mt
def tw1221203115367454955:=mt
def tw8526814787877856039:=mt
def tw1362031116089274656:=mt
def tw1123064412800697144:=mt
def tw6814948964510507145:=mt
def tw10411668870123420402:=mt
def tw16686609884113812300:=mt
def tw11436473322101154428:=mt
def tw11008647313898199785:=mt
def tw16423518445172229463:=mt
def tw4027704370549187964:=mt
def tw14686469036325840409:=mt
def tw15814279023605825615:=mt
def tw5536669523981726730:=mt
def tw17318699489456245351:=mt
def tw13858514916592077338:=mt
def tw4904094748625571044:=mt
def tw11523282300568147130:=mt
def tw3761222782433721355:=mt
def tw11317629613910012073:=mt
def tw16332410984277439722:=mt
def tw15096664814657569434:=mt
def tw3641069081073393856:=mt
def tw13358745896075840438:=mt
def tw455512405070511061:=mt
def tw9468115167090873480:=mt
def tw18196769957788646835:=mt
def tw2347360707471732509:=mt
def tw17554043719813755836:=mt
def tw17662509772215588469:=mt
def tw4313787305212634729:=mt
def tw1338989187953457376:=mt
def tw14752905306808730748:=mt
def tw9238439495713662983:=mt
def tw4232367069942792916:=mt
def tw13792741515063240043:=mt
def tw5216077803633172542:=mt
def tw10863711067671646802:=mt
def tw9692708700606269196:=mt
def tw16768531919888296870:=mt
def tw16008347085284042347:=mt
def tw15004075371245931939:=mt
def tw2324708190480706539:=mt
def tw9000138725690466323:=mt
def tw479611787817374528:=mt
def tw4358690804390950220:=mt
def tw17504362145781830198:=mt
def tw11199151293748687185:=mt
def tw1687880677384596033:=mt
def tw16450803672959342383:=mt
def tw656421254979543798:=mt
def tw10889560574907821561:=mt
def tw8212900939833124123:=mt
def tw16256203572910613882:=mt
def tw14447971327888022240:=mt
def tw3970986634402681299:=mt
def tw13211433763143967630:=mt
def tw4404728605749205510:=mt
def tw9763783397770071108:=mt
def tw3960941666044122898:=mt
def tw17945083323305292108:=mt
def tw8157994879924086372:=mt
def tw1032354272972456631:=mt
def tw13883156141306943375:=mt
def tw12676786705910903128:=mt
def tw4967638019666104872:=mt
def tw16063557121747056732:=mt
def tw1132176679182748834:=mt
def tw10680558310147336044:=mt
def tw6012318721778658991:=mt
def tw5446608972962484066:=mt
def tw995286414832544956:=mt
def tw10150789513523486463:=mt
def tw13771687759196702641:=mt
def tw16330179310966244075:=mt
def tw12447756327730461488:=mt
def tw16830737014537631810:=mt
def tw8911626371505896836:=mt
def tw15549137668339824516:=mt
def tw8523007444712472573:=mt
def tw11286772877149982912:=mt
def tw2380403893051984246:=mt
def tw1651733877286968106:=mt
def tw17667869323476003184:=mt
def tw16946850522726262341:=mt
def tw2990988542208789689:=mt
def tw11878996061628199741:=mt
def tw10499002432547285978:=mt
def tw16712888186292342596:=mt
def tw11850697548131773170:=mt
def tw14433822008636324238:=mt
def tw13648370918248493804:=mt
def tw14803378356658693948:=mt
def tw18440949761187493307:=mt
def tw1012408793310578099:=mt
def tw7945470232939514737:=mt
def tw1504812057650358021:=mt
def tw3159323245414202121:=mt
def tw15238372447075948819:=mt
def tw2456179054645238050:=mt
def tw12265055610995464097:=mt
def tw9659193344232486407:=mt
def tw5718577814082119502:=mt
def tw11877065828659532008:=mt
def tw7477640961696277383:=mt
def tw14423748121802687799:=mt
def tw17561539968262631514:=mt
def tw12730326542396011893:=mt
def tw2322347070301663530:=mt
def tw4180579341652704023:=mt
def tw18074689741708466878:=mt
def tw9697073314408710725:=mt
def tw11921463231811926917:=mt
def tw7942210563960920913:=mt
def tw12302456616136820212:=mt
def tw15566116514442384741:=mt
def tw5675685671724460211:=mt
def tw18339812437175399501:=mt
def tw9830924901183401168:=mt
def tw1705070310269627907:=mt
def tw7233536350033694511:=mt
def tw8836800466320320310:=mt
def tw18042110198448003669:=mt
def tw17713129467844064422:=mt
def tw26047959505464831:=mt
def tw10898511388681010102:=mt
def tw4960073530881488187:=mt
def tw17574857424820187554:=mt
def tw14169221399915257008:=mt
def tw15631539229579323922:=mt
def tw14421350168585589993:=mt
def tw8446291382595693216:=mt
def tw17636462642630015994:=mt
def tw12543354488439561396:=mt
def tw9188539319423992071:=mt
def tw651766377069414398:=mt
def tw15623420017407730121:=mt
def tw4529634994620381354:=mt
def tw5739988012929879684:=mt
def tw17812048176844307866:=mt
def tw8928578282340046496:=mt
def tw5163576785438034227:=mt
def tw12888032123144170786:=mt
def tw14982981590190011594:=mt
def tw13613247674913493725:=mt
def tw10175354665278423936:=mt
def tw14388785053301634713:=mt
def tw17387888400945755952:=mt
def tw8970407880519054720:=mt
def tw13200180506055776816:=mt
def tw2690712004347119968:=mt
def tw11764304086896579121:=mt
def tw1947401885372271651:=mt
def tw15194137001430828388:=mt
def tw9846825247684094288:=mt
def tw16820966011736301014:=mt
def tw1745456570335962638:=mt
def tw10794564633924769224:=mt
def tw5145172005627957697:=mt
def tw15115625663549303164:=mt
def tw1752408813032091542:=mt
def tw8763394485908984551:=mt
def tw8650388439363632223:=mt
def tw1888869316865970927:=mt
def tw11230187393180046675:=mt
def tw1455089463452940905:=mt
def tw8432761106860096591:=mt
def tw11338568687395256903:=mt
def tw236827499203246719:=mt
def tw16883930341610712150:=mt
def tw3473532764474331106:=mt
def tw10951669388336117669:=mt
def tw14775898952825157738:=mt
def tw2403411973997981139:=mt
def tw1843081810614953298:=mt
def tw1830406919239275556:=mt
def tw12406289478748608759:=mt
def tw15303079552475525710:=mt
def tw15458953569214824859:=mt
def tw12862614792780739438:=mt
def tw6981979884657189259:=mt
def tw10360256786758802339:=mt
def tw11002701007963284666:=mt
def tw2433835078718164389:=mt
def tw15874994637992140715:=mt
def tw12657532129045748535:=mt
def tw13231983853324731245:=mt
def tw6929602438738156869:=mt
def tw953384723955174607:=mt
def tw6816714097041083115:=mt
def tw6830519899577210574:=mt
def tw2603557526884670321:=mt
def tw4372352565338357049:=mt
def tw5323400839561852882:=mt
def tw9056933234495292924:=mt
def tw15886643926698407095:=mt
def tw12673049152761643389:=mt
def tw14873918791678866442:=mt
def tw2935533704655123030:=mt
def tw8797782388251452719:=mt
def tw12944196528921864300:=mt
def tw8251783442500599275:=mt
def tw17662082587519152565:=mt
def tw10217570952017244359:=mt
def tw15263033254972065393:=mt
def tw5288894963525508421:=mt
def tw14232919902433204290:=mt
def tw14188057957446411457:=mt
def tw8258040273624477436:=mt
def tw15926872751955353254:=mt
def tw14368776431042853514:=mt
def tw3060877678814531603:=mt
def tw3747773872975837201:=mt
def tw13235293747928244677:=mt
def tw13540567202557399754:=mt
def tw17380492215555322055:=mt
def tw875570937667870661:=mt
def tw15992645101141604632:=mt
def tw313398170359519197:=mt
def tw12759939990974446542:=mt
def tw12130538668643551642:=mt
def tw12333202325841295444:=mt
def tw6462082618092982500:=mt
def tw12493534109332182359:=mt
def tw17947360142404995666:=mt
def tw11818185007639662127:=mt
def tw7517412820415685516:=mt
def tw6053694166269514679:=mt
def tw5391555185739203768:=mt
def tw13473948718685345061:=mt
def tw18116566273246164901:=mt
def tw1964626000734193518:=mt
def tw553339754285212196:=mt
def tw16966752917312699238:=mt
def tw18305089754597857837:=mt
def tw10323915477223512431:=mt
def tw2423341729178871834:=mt
def tw15901585215161057449:=mt
def tw16343212400396346172:=mt
def tw14135520715983940107:=mt
def tw7848967109554646902:=mt
def tw9653269948720817998:=mt
def tw15370353665070409636:=mt
def tw10632529179878607924:=mt
def tw6872730393415011153:=mt
def tw13960926859781553996:=mt
def tw9851086814685068670:=mt
def tw3542533793957624043:=mt
def tw8973090426648486898:=mt
def tw2982295643354564547:=mt
def tw218682273070539957:=mt
def tw12244644866241745973:=mt
def tw6356017795393403799:=mt
def tw16789894508257836627:=mt
def tw10855180526713663623:=mt
def tw10569033477276549169:=mt
def tw10209797585623034232:=mt
def tw10064159775948561407:=mt
def tw8666750654380738151:=mt
def tw10644421954396619820:=mt
def tw11673409867520885439:=mt
def tw15672728450285325366:=mt
def tw13582705527924464658:=mt
def tw13837384559562671701:=mt
def tw1393551926473920558:=mt
def tw6728556181680519586:=mt
def tw347095775348474789:=mt
def tw8515590630452457588:=mt
def tw14826843748901718959:=mt
def tw12640505543229268242:=mt
def tw1288728937286869794:=mt
def tw15585107347441392482:=mt
def tw5159076948198717921:=mt
def tw14302062573599654167:=mt
def tw17249009148196576042:=mt
def tw4725015686577808503:=mt
def tw3522662471727535740:=mt
def tw6653569590723333661:=mt
def tw11063262634906862652:=mt
def tw7678273429997212447:=mt
def tw2336119982766799288:=mt
def tw10444972281780301024:=mt
def tw11496092505718646027:=mt
def tw12746771002827718154:=mt
def tw8972198154367529673:=mt
def tw454550664474031636:=mt
def tw17342735432597337379:=mt
def tw5266563433880830937:=mt
def tw159997273586420160:=mt
def tw2583961616813170147:=mt
def tw4968728499186461491:=mt
def tw14619836080556859767:=mt
def tw17606468050042719329:=mt
def tw17090088113447045686:=mt
def tw3091409970228209077:=mt
def tw4234104166522664188:=mt
def tw1714546325806704299:=mt
def tw2461014856363458551:=mt
def tw6591927696838715412:=mt
def tw10574244903945674675:=mt
def tw2809685938092503816:=mt
def tw2921839991861845325:=mt
def tw12375900184195364067:=mt
def tw650263838923100043:=mt
def tw8776552061086124155:=mt
def tw16062935292441900391:=mt
def tw6687675527609353538:=mt
def tw17198177999528400960:=mt
def tw4556720869332080043:=mt
def tw18172962714874542688:=mt
def tw3020932260797678921:=mt
def tw15543393808132547478:=mt
def tw11862972698990387489:=mt
def tw5909544412923318793:=mt
def tw10524277942463511875:=mt
def tw5683216379866121808:=mt
def tw1678757529769786242:=mt
def tw1462305843865836129:=mt
def tw5783737347066316097:=mt
def tw7469521529290417709:=mt
def tw7347980073350036314:=mt
def tw16031495306308714674:=mt
def tw3436462720455571605:=mt
def tw17667603586553025242:=mt
def tw127363395974853441:=mt
def tw7068275991580094890:=mt
def tw6889404304890930388:=mt
def tw12068598971542367959:=mt
def tw9981983292959207073:=mt
def tw18311094663681974733:=mt
def tw14713841416591576917:=mt
def tw9489117277287736726:=mt
def tw14346461633242376936:=mt
def tw136541451740157440:=mt
def tw7150444873217913181:=mt
def tw14401394809893596268:=mt
def tw7289279992165864337:=mt
def tw10555820980617538273:=mt
def tw9170834971987763551:=mt
def tw18226938964602309728:=mt
def tw16586392858688077402:=mt
def tw2397728155382323617:=mt
def tw1229476312217814713:=mt
def tw7270694603082568962:=mt
def tw11886355210524948156:=mt
def tw14058846352862167468:=mt
def tw4833486506838469339:=mt
def tw7730381433264714369:=mt
def tw272340360773167027:=mt
end PySem.W.Fast
open PySem PySem.W PyProof.Rows
set_option maxRecDepth 100000 in
set_option maxHeartbeats 0 in
theorem PySem.Challenge.cw_leafjudge_k90_whole_tree_rules_tree_holds : PySem.Challenge.rw_leafjudge_k90_whole_tree_rules_tree.Holds := by
  w_on; o_law; k_head; (case hw => w_witness2)
  k_fill
  refine K90.aKj (l := PySem.Challenge.rw_leafjudge_k90_whole_tree_rules_tree) rfl rfl (λw h Y => PySem.W.km_in_of Y) (λw h Y P e => ?T) ?F
  case T =>
    cases e
    exact ⟨km_tabs_of Y 359 (aP ..), by kernel_rfl, L2.Z2 (codeHd_of_K (c := 361) (P := 359) (km_in_of Y) (by kernel_rfl)) (km_tabs_of Y 359 (aP ..))⟩
  case F =>
    intro w mg fa h KX G Cm
    refine' K90.aCi ⟨df KX G K8 ?_ ?_ ?_ ?_,df KX G K8 ?_ ?_ ?_ ?_,df KX G K8 ?_ ?_ ?_ ?_,df KX G wB ?_ ?_ ?_ ?_,df KX G wB ?_ ?_ ?_ ?_,df KX G K8 ?_ ?_ ?_ ?_,df KX G K8 ?_ ?_ ?_ ?_,df KX G K8 ?_ ?_ ?_ ?_,df KX G Gd ?_ ?_ ?_ ?_,df KX G wB ?_ ?_ ?_ ?_,df KX G zP ?_ ?_ ?_ ?_,df KX G wB ?_ ?_ ?_ ?_,df KX G Gd ?_ ?_ ?_ ?_,df KX G wB ?_ ?_ ?_ ?_,df KX G wB ?_ ?_ ?_ ?_,df KX G K8 ?_ ?_ ?_ ?_,df KX G zP ?_ ?_ ?_ ?_,df KX G zP ?_ ?_ ?_ ?_,df KX G zP ?_ ?_ ?_ ?_,df KX G wB ?_ ?_ ?_ ?_,df KX G K8 ?_ ?_ ?_ ?_,df KX G zP ?_ ?_ ?_ ?_,df KX G zP ?_ ?_ ?_ ?_,df KX G wB ?_ ?_ ?_ ?_,df KX G zP ?_ ?_ ?_ ?_,df KX G zP ?_ ?_ ?_ ?_,df KX G zP ?_ ?_ ?_ ?_,df KX G zP ?_ ?_ ?_ ?_,df KX G wB ?_ ?_ ?_ ?_,df KX G Gd ?_ ?_ ?_ ?_,df KX G zP ?_ ?_ ?_ ?_,df KX G zP ?_ ?_ ?_ ?_,df KX G Gd ?_ ?_ ?_ ?_,df KX G wB ?_ ?_ ?_ ?_,df KX G zP ?_ ?_ ?_ ?_,df KX G zP ?_ ?_ ?_ ?_,df KX G wB ?_ ?_ ?_ ?_,df KX G wB ?_ ?_ ?_ ?_,df KX G wB ?_ ?_ ?_ ?_,df KX G wB ?_ ?_ ?_ ?_,df KX G wB ?_ ?_ ?_ ?_,df KX G wB ?_ ?_ ?_ ?_,df KX G wB ?_ ?_ ?_ ?_,df KX G K8 ?_ ?_ ?_ ?_,df KX G zP ?_ ?_ ?_ ?_,df KX G wB ?_ ?_ ?_ ?_,df KX G zP ?_ ?_ ?_ ?_,df KX G Gd ?_ ?_ ?_ ?_,df KX G wB ?_ ?_ ?_ ?_,df KX G wB ?_ ?_ ?_ ?_,df KX G wB ?_ ?_ ?_ ?_,df KX G zP ?_ ?_ ?_ ?_,df KX G zP ?_ ?_ ?_ ?_,df KX G K8 ?_ ?_ ?_ ?_,df KX G wB ?_ ?_ ?_ ?_,df KX G Ji ?_ ?_ ?_ ?_,df KX G zP ?_ ?_ ?_ ?_,df KX G zP ?_ ?_ ?_ ?_,df KX G wB ?_ ?_ ?_ ?_,df KX G wB ?_ ?_ ?_ ?_,df KX G wB ?_ ?_ ?_ ?_,df KX G zP ?_ ?_ ?_ ?_,df KX G K8 ?_ ?_ ?_ ?_,df KX G wB ?_ ?_ ?_ ?_,df KX G wB ?_ ?_ ?_ ?_,df KX G zP ?_ ?_ ?_ ?_,df KX G K8 ?_ ?_ ?_ ?_,df KX G wB ?_ ?_ ?_ ?_,df KX G zP ?_ ?_ ?_ ?_,df KX G Gd ?_ ?_ ?_ ?_,df KX G zP ?_ ?_ ?_ ?_,df KX G K8 ?_ ?_ ?_ ?_,df KX G K8 ?_ ?_ ?_ ?_,df KX G wB ?_ ?_ ?_ ?_,df KX G wB ?_ ?_ ?_ ?_,df KX G zP ?_ ?_ ?_ ?_,df KX G wB ?_ ?_ ?_ ?_,df KX G zP ?_ ?_ ?_ ?_,df KX G Gd ?_ ?_ ?_ ?_,df KX G Ji ?_ ?_ ?_ ?_,df KX G K8 ?_ ?_ ?_ ?_,gg KX G ?_,gg KX G ?_,K90.TK ?_,gg KX G ?_,K90.TJ ?_,gg KX G ?_,gg KX G ?_,gg KX G ?_,gg KX G ?_,gg KX G ?_,gg KX G ?_,Ye ?y_44 rfl,k9 KX G ?_,k9 KX G ?_,k9 KX G ?_,k9 KX G ?_,k9 KX G ?_,k9 KX G ?_,k9 KX G ?_,k9 KX G ?_,k9 KX G ?_,k9 KX G ?_,k9 KX G ?_,k9 KX G ?_,k9 KX G ?_⟩ Cm
    (case y_44 => kernel_rfl)
    all_goals try k_is

end