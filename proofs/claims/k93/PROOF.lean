import PyProof.Rows.All
import Wide.All
import OpenK.AllK
import Wide.FinOn
import Lean
import PyProof.EqAt
import PyProof.EqKinds
import PyProof.TupleCall
import PyProof.P3In
import PyProof.NeData
import KE.KSortKey
import PyProof.Rows.SortRuns
import KE.KLam
import KE.KNestM
import PyProof.FitsReplace
import PyProof.StrBlockL
import KE.KDictList
import KE.KItemsList
import PyProof.DictWalks
import PyProof.DictRoadsH
import PyProof.CallStr
import KE.KIntText
import PyProof.DictCopy
import PyProof.NsDelKeeps
import KE.KTryMore
import PySem.Challenge.RW_leafjudge_k93_whole_a_desk
set_option Elab.async false
set_option linter.all false
set_option compiler.extract_closed false
set_option bootstrap.genMatcherCode false
set_option genSizeOf false
set_option genInjectivity false
set_option maxRecDepth 100000
open PySem renaming Addr→à,Value→á,Str→â,Shared→ã,model→ä,wpAny→å,Expr→æ,Heap→ç,eval→è,Stmt→é
open Array renaming size->dl
open PySem.Value renaming builtin->mt
open PySem.Paired renaming nil->tj,cons->Cl
open PySem.Data renaming seq->Fr,fields->Id
open PySem.NameKind renaming «local»->IO
open PySem.Expr renaming Name->KK,Constant->Tm,Compare->Ty,BoolOp->ÿ,Call->ă,Attribute->ą,Subscript->Ć,ListComp->ĉ
open PySem.Stmt renaming Assign->Ā
open PySem.PlainL renaming isList->ā
open Int renaming toNat->Ă
open List renaming isEmpty->Ą,sum->Ċ
open PySem.ScopeKind renaming function->ć
open PySem.Str renaming cps->Ĉ
open List renaming toArray->Ŭ
open Option.some renaming inj->d7,injEq->ao
open PySem renaming behindInMarks->d8,compareOp->e9,bootBuiltins->f6,Around->g3,wpAny_field->g4,World->g6,wpAny_truthy_bool->h9,attributeBase->i4,mem_of_lookup->i9,backTo->j7,foldedSetIterable->k7,wpAny_callSpecial?_slot->k9,binaryOp->l3,wpAny_pyIter_list->l9,sysModules->n6,wpAny_seqItems->o1,wpAny_setField_rec->o7,NameKind->o9,wpAny_passesOwn->s0,call_meets->t5,builtinsNs->t9,wpAny_Call_Name_kw->u2,wpAny_rule->u4,wpAny_getItem_str_slice->u6,rawInt->v4,cLine->x8,sliceBounds->x9,wpAny_execs_nil->z6,codeAny->z9,cellsFrom->ae,wpAny_setField->ah,getItem->aj,wpAny_holding->al,Builtin->av,assignEach->ay,codeAny_mono->az,typeIs_str->ba,wpAny_typeOf->bb,letOwnedTupleGo->bc,post_val_or_str->bg,isCodeTable->bq,recursionLimit->br,wpAny_updateSeq_pair->bw,wpAny_onRaise->cq,tupleKind_room_in1->cu,wpAny_pyIter_tuple->cw,callerA->di,concat_meets->dk,getMethod->dv,noFill_tuple_add->dw,pushCells->dy,tupleKind->dz,wpAny_execs_cons->ea,keywordEach->eh,sizeLine_eq->ei,subscripted->ej,wpAny_letGo->ek,Within->eo,wpAny_loadPart'->eu,holding->fe,standAt->ff,valueAt->fg,ZipApart->fk,newFunctionEnv->fq,wpAny_call->ft,call->fv,seq_tuple_add->gf,wpAny_attempt->gg,wpAny_comprehension_free->gh,wpAny_newList->gj,DictEntry->gk,IsZip->gl,atKey->gm,lastMarks->gn,noteFrame->gp,call_meetsIn->gu,codeAny_handlers_test->ic,wpAny_isTrue_Compare1->ig,backToKw->ij,length_partsBetween->iw,wpAny_handleBy_cons->ix,pyIter->jd,pyNext->je,sliceRange->jg,stored->ji,typeIs_int->jj,wpAny_Name->jk,wpAny_load->jm,again->jw,wpAny_Assign_Name->kc,wpAny_assign_Name->kd,wpAny_pyIter_enum->kf,wpAny_sequenceKey->kg
open PySem.NameKind renaming cell->f7,free->g9
open PySem.Str renaming ofString->f8,length->v0,join->ax
open PyProof.Rows renaming wpS_bind->g7,seqObj->j0,envOfC->j8,wpS_pure->j9,slot_tuple_getitem->l6,callWith_type1->m9,reverseSlice'->x6,AllBare->z7,wpS_forRange->aa,arrOf->aq,pendingOf->cg,listUpdate_at->cn,get?_update_seq->er,Keyed->fi,failedOf->fo,wpS_modify->fu,subscriptTail_builtinR->gz,wpS_mono->io,entry_tuple_getitem->ir,Subscript_->iy,args_tuple_getitem->iz,setPending->jf,IsTup->jo,wpS_get->kh
open PySem.Value renaming ref->g8,none->o0,int->u7,str->ck,bool->dh,type->fx
open PySem.Obj renaming mapSeq->i3,data_mapFields->t7,mapFields->v9,isFreed_of_fields->am,cls_mapFields->ia
open PySem.StrLaws renaming glued_eq_join->i5,join_length_le->du
open ForInStep renaming yield->i6,done->w5
open Or renaming inr->i7,inl->j3
open False renaming elim->i8
open PySem.W renaming mg_none_of->j2,mg_of->bf,OpenLaw->cj
open True renaming intro->j5
open Ne renaming symm->j6
open Classical renaming choose_spec->k6,choose->bi,epsilon_spec->cz,epsilon->ey
open PySem.Builtin.Str renaming glued->l0,occurrences->l7,strKind->n9,strSliceIndices->bn
open PySem.Builtin.SmallTypes renaming nextOf->m6
open PySem.PassesOwn renaming never->m8
open List.cons renaming inj->n7
open PySem.Builtin.Slice renaming slicePlaces->o4,sliceAdjust->u9
open PySem.Builtin.List renaming listTooLong->o8
open PySem.F renaming slot_tuple_iterator_next->t4,slot_zip_next->ar,args_str_split_2->ci,entry_str_split->cr,slot_str_split->db,args_tuple_iterator_next_1->dt,entry_tuple_iterator_next->ed,args_zip_next_1->ip
open Sum renaming inl->t6,inr->fj
open PySem.Paired renaming length->aw
open PySem.Builtin.Tuple renaming tupleItemsOf->bh
open PySem.Around renaming under->bj,frames_deeper->ev,under_plainId->ew
open Sum.inl renaming inj->bx
open LawfulBEq renaming eq_of_beq->cf
open PySem.Calls renaming Name_function_global->cy,callWith_builtin->em,evalArgs_plain->fh
open PySem.SeqAt.EqAt renaming int_str->ee,str_int->ef
open PySem.Code renaming isFrame->fb
open PySem.Walks renaming list->fy
open PySem.SeqAt renaming readOf->gx,readsAll_map->gy,items_eqAt->jb
open Eq renaming symm->ii
open ToString renaming toString->im
open ForIn renaming forIn->jz
open Option renaming some→wz,none→wx
open Bool renaming true→ww,false→wv
open Nat renaming le_of_ble_eq_true->aA,le_refl->aL,le_trans->aR,lt_of_lt_of_le->bX,zero_le->bZ,ne_of_lt->cO,pow_le_pow_right->dR,lt_irrefl->fK,mul_left_comm->hU,zero_add->iE,ne_of_gt->iF,le_of_lt->iG,mul_le_mul->iV,mul_comm->kP,mul_assoc->kT,lt_succ_self->mM,le_of_eq->mX,min_le_right->oM,gcd_pos_of_pos_right->oV,le_succ->pL,mod_lt->qX,le_max_right->qY,le_max_left->sR,div_le_self->sS,mul_lt_mul_of_pos_right->sU,lt_trans->sV,lt_of_mul_lt_mul_right->tT,lt_of_le_of_lt->tU,mul_pos->uW,lt_succ_of_lt->uX,gcd_dvd_right->uY,add_mul->uZ,sub_zero->xZ,lt_asymm->yA,not_lt_zero->yW,min_eq_left->yX,lt_trichotomy->EU,le_succ_of_le->EV,min_eq_right->IB,not_lt->NR,div_eq_of_eq_mul_right->NS,mul_div_cancel_left->QN,succ_pos->TC,pow_succ->TD,one_pos->YE,mul_one->YF,add_lt_add_left->Y1,div_mul_cancel->aEz,add_sub_cancel->aE0,succ_le_succ->aI4,le_add_right->aI5,gcd_le_right->aI6,gcd_dvd_left->aI7,min_le_left->aLk,le_of_dvd->aPc,dvd_trans->aPd,zero_mul->aX4,sub_self->aX5,gcd_comm->aX6,div_zero->aX7,add_comm->aX8,one_mul->aYt,div_pos->aYu
open List renaming length_map->aB,getElem?_eq_getElem->aC,getElem?_eq_some_iff->aD,mem_cons_of_mem->aE,mem_cons_self->aJ,getElem?_map->aK,mem_map->aM,mem_cons->aN,length_filter_le->aS,mem_of_getElem?->aU,length_append->aV,map_cons->aX,getElem?_set_ne->aY,map_append->bA,length_take->bB,mem_singleton->bC,length_cons->bE,map_map->bH,getElem?_set_self->bI,mem_append->bK,size_toArray->bP,filter_cons->bY,mem_filter->cD,take_add_one->cE,append_nil->cG,take_length->cK,getElem?_of_mem->cP,getD_eq_getElem?_getD->cU,mem_append_right->cX,not_mem_nil->cZ,length_drop->dA,append_assoc->dM,replicate->dW,lookup_cons->eA,mem_of_mem_take->eG,sum_cons->eI,getElem?_append_right->eU,getElem?_eq_none->eW,range->eZ,getElem?_append_left->fA,getElem_mem->fC,filter_append->fE,set->fQ,all_eq_true->fT,mem_append_left->gH,getElem?_zip_eq_some->gU,map_congr_left->gX,map_nil->iD,length->iN,find?_cons->jA,flatten_cons->jY,nodup_cons->jZ,replicate_succ->kI,take_of_length_le->kL,cons_append->kU,foldl_cons->lH,mem_of_mem_drop->lK,any_cons->lN,getElem?_range->mD,filterMap_cons->mE,getElem?_replicate->mH,lookup->mQ,getElem?_drop->mS,ext_getElem?->nU,mem_range->oE,idxOf_lt_length_iff->oS,headD_cons->oW,getElem?_take->oX,length_eq_zero_iff->pJ,getElem?_cons_succ->pK,pairwise_map->pR,length_range->pS,drop_eq_nil_of_le->pT,length_singleton->qO,any_eq_true->qP,map_id->rC,range_succ->rQ,nil_append->rR,filter_map->rS,getElem_idxOf->tG,getElem?_eq_none_iff->tW,filter_congr->uT,getElem?_cons_zero->wE,length_nil->yB,filter_nil->yC,mem_iff_getElem->zN,filter->zO,drop_zero->zQ,map_take->CA,Pairwise->CC,find?_eq_none->CL,take_sublist->EB,foldl_append->EC,countP_cons->FH,of_mem_zip->IG,length_zip->IH,forIn_cons->II,dropLast_concat_getLast->IJ,countP_map->IK,take_zero->LJ,map->LK,drop_eq_getElem_cons->NT,getElem?_take_of_lt->NW,all_cons->NX,append_cancel_left->QF,range_succ_eq_map->QO,flatten_singleton->QP,countP_le_length->TF,range'->V9,take_succ_cons->YG,mem_map_of_mem->YH,flatten_append->YI,flatMap_append->YJ,zip_cons_cons->Y2,mem_filterMap->Y3,foldl->Y4,filterMap_map->Y5,count_eq_zero->Y6,count->Y7,getElem?_inj->aE1,flatMap_cons->aE2,count_append->aE3,any_eq_false->aE4,range'_succ->aFb,getElem_inj->aFc,sum_append->aI8,any_append->aI9,tail_cons->aLl,find?_map->aLm,toArray->aPe,set_set->aPf,all_map->aPg,Nodup->aYv
open PySem renaming wpAny_bind->aF,wpAny_pure->aZ,sizeLine->bM,starEach->bR,Program->dF,wpAny_mono->fG,mainGlobals->iR,wpAny_newObj_type->jE,FuncData->jF,swapsWith->lY,wpAny_call_entry->mW
open PySem.PyData renaming str->aG,int->aW,tuple->cN,eqv->dG,canLayAll0->dH,list->eE,depthAll->fH,canLay0->lZ,hasDictAll->nH,dict->tS,none->ES,bulkAll->IF,eqvAll->LI,leavesShortAll->QE,bool->QM,showableAll->V6,strOk->aLj
open PySem.W renaming Frag->aH,kitOne->eM,findIn->fB,mroIn->fJ,keepIn->gZ,emptyDict->jQ,instObj->lA,InstAt->nT,nsIn->oA,kitMeta->oN,fnOf->pH,exmOne->pI,looks_findIn->qN,codeIn->sP,callWith_K->sQ,clsIn->tM,plainGet->uR,envX->vT,methodCall_KW->wH,typeIn->xW,nsOkIn->xX,lookIn->xY,plainGet_of->zH,hasDictIn->B9,codeHdIn->DM,takerIn->EQ,kla_obj->ER,kitCls->IA,Looks->JD,isFn->NO,cellsFrom_some->NP,isNs_of_in->TB,plainOver->V5,handedIn->YC,makesIn->YX,kia_one->YY,exm_one->YZ,notCls->aEx,CodeHd->aEy,mg_of->aE9,WalkO->aFa
open PySem.Heap renaming get?_push_of_some->aI,get?_push_size->bD,lt_size->bG,size_push->fR,SameBut->gB,get?_update_other->iT,get?_none_of_le->rD,get?_update_self->yY,size_update->FI,DictOf->IC,Ns->aE5,IsTuple->aPi,ExtBut->aYa
open PySem.F renaming plainAttrs_str->bF,type_str_join->bN,slot_str_join->bO,plainAttrs_list->bW,type_list_append->cI,slot_list_append->cJ,plainAttrs_dict->lX,type_tuple_index->oI,slot_tuple_index->oJ,plainAttrs_tuple->oK,slot_dict_pop->pQ,type_list_extend->tP,slot_list_extend->tQ,args_tuple_add_2->tR,entry_tuple_add->uS,type_str_split->vU,slot_tuple_add->vV,slot_str_split->vW,type_dict_pop->wI,slot_dict_values->JE,type_list_index->LE,slot_list_index->LF,slot_dict_items->LG,plain_list_iadd->LH
open Bool renaming false_ne_true->bS,and_eq_true->dE,eq_iff_iff->eR,false_eq_true->fP,or_eq_true->rT,or_eq_false_iff->zR,false_and->zS,true_and->CG,eq_false_iff->EE,and_false->LL,or_false->NY,false_or->NZ,not_true->aO5
open Option renaming map_eq_some_iff->cM,map_eq_none_iff->wD,bind_eq_some_iff->NQ,isSome_some->V7,filter_some->V8,isSome_map->YD,getD_none->Y0
open Int renaming emod_lt_of_pos->dL,emod_nonneg->eB,natCast_mul->eS,toNat_natCast->kB,natCast_add->kG,ofNat->qZ,natCast_ediv->wJ,toNat_of_nonneg->CF,fdiv_eq_ediv_of_nonneg->NU,mul_zero->TH,add_zero->TJ,mul_add->YK,mul_nonneg->aO4,mul_assoc->aPh,ofNat_lt->aX9,one_mul->aYw,mul_sub->aYx,mul_one->aYy,le_refl->aYz,add_mul->aY0
open Array renaming length_toList->eY,getElem?_toList->kW,getElem?_eq_some_iff->oB,getElem?_eq_none->pM,size_append->DN,getElem?_setIfInBounds_ne->EF,size_push->ID,toList_append->WA,forIn_toList->YL,find?_toList->YM,append_assoc->YN,all_toList->aE6,toList->aO6
section
local macro_rules(kind:=«term_|>_»)|x=>pure (.node .none ``Lean.Parser.Term.app #[Lean.mkIdent `autoParam,.node .none `null #[x[0],x[2]]])
open Lean Parser.Term in
local macro_rules(kind:=Lean.Parser.Tactic.tacticLet__)|x=>let d:=x[2][0];let a:=x[0];let n k b:=Syntax.node .none k #[a,b];if d[1].getNumArgs=0 then Macro.throwUnsupported else pure (n ``Parser.Tactic.refine (d[4].setArg 1 (d[4][1].setArgs (d[4][1].getArgs.push (n ``«fun» (.node .none ``basicFun #[d[1].setArgs (#[d[0][0]]++d[1].getArgs),d[2],a,n ``syntheticHole a]))))))
theorem zzz(h:True:=by rfl):True:=h
theorem zzy(h:True:=by decide):True:=h
theorem zzx(h:True:=by first | exact mV _ | rfl):True:=h
theorem zzw(h:True:=by intro _;rfl):True:=h
theorem zzv(h:True:=by first | exact .inl eH | exact .inr eH):True:=h
theorem zzu(h:True:=by intro _ _;rfl):True:=h
theorem zzt(h:True:=by first | exact j3 eH | exact i7 eH):True:=h
theorem zzs(h:True:=by first | exact .inl eH | exact .inr eH | assumption):True:=h
theorem zzr(h:True:=by intros;rfl):True:=h
theorem zzq(h:True:=by decide +kernel):True:=h
theorem zzp(h:True:=by with_unfolding_all rfl):True:=h
theorem zzo(h:True:=by first | exact j3 eH | exact i7 (j3 eH) | exact i7 (i7 eH)):True:=h
theorem zzn(h:True:=by kernel_rfl):True:=h
theorem zzm(h:True:=by intro g Q h;(repeat obtain⟨_,h⟩:=h)<;>subst_vars<;>rfl):True:=h
theorem zzA(h:True:=by assumption):True:=h
def ū:=zzq._auto_1
def Ū:=zzy._auto_1
def ũ:=zzz._auto_1
def Ũ:=zzA._auto_1
def Ŧ:=zzs._auto_1
def ť:=zzw._auto_1
def Ť:=zzp._auto_1
def ţ:=zzo._auto_1
def Ţ:=zzx._auto_1
def š:=zzu._auto_1
def Š:=zzv._auto_1
def ş:=zzm._auto_1
def Ş:=zzt._auto_1
def ŝ:=zzr._auto_1
def Ŝ:=zzn._auto_1
theorem Á{p q:Prop}(h:p)(g:p->q:=by intro h;simpa using h):q:=g h
theorem À{p:Prop}(h:p:=by first | exact .inl rfl | exact .inr rfl):p:=h
section
variable{α β γ δ ε ζ γ₁}{g:Prop}{a j s B F H:α->β->Prop}{b c d D E:α->Prop}{e i p q r A:Prop}{l m t C M:α->β->γ->Prop}{n o J K L:α->β->γ->δ->Prop}{I:α->β->γ->δ->ε->ζ->Prop}{f:α}{f1:α->γ₁}{f2:γ₁}{f3:α->β->γ->δ->γ₁}{f4:α->β->γ₁}{f5:α->β->γ->γ₁}{θ:γ₁}{G:γ₁->Prop}
theorem Ç(h:∃x y,a x y)(k:∀x y,a x y->g):g:=by grind
theorem È(h:∃x,x=f/\b x/\c x/\d x)(k:b f->c f->d f->g):g:=by lia
@[elab_as_elim]theorem É(θ)(h:∃x,b x/\f1 x=θ)(k:∀x,b x->G (f1 x)):G θ:=by grind
theorem Ê(h:∃x,b x/\c x)(k:∀x,b x->c x->g):g:=by grind
theorem Ë(h:∃x,b x)(k:∀x,b x->g):g:=by grind
theorem Ì(h:e/\i)(k:e->i->g):g:=by grind
@[elab_as_elim]theorem Í(θ)(h:∃x,θ=f1 x/\b x/\c x)(k:∀x,b x->c x->G (f1 x)):G θ:=by grind
theorem Î(h:e/\∃x y,a x y/\j x y)(k:e->∀x y,a x y->j x y->g):g:=by grind
theorem Ï(h:e/\∃x,b x/\c x)(k:e->∀x,b x->c x->g):g:=by grind
theorem Ð(h:e/\i/\∃x,b x/\c x)(k:e->i->∀x,b x->c x->g):g:=by grind
theorem Ñ(h:∃x y z,l x y z/\m x y z)(k:∀x y z,l x y z->m x y z->g):g:=by grind
theorem Ò(h:∃x y z u,n x y z u/\o x y z u)(k:∀x y z u,n x y z u->o x y z u->g):g:=by grind
theorem Ó(h:e/\i/\p/\q/\r)(k:e->i->p->q->r->g):g:=by grind
theorem Ô(h:∃x y z,l x y z)(k:∀x y z,l x y z->g):g:=by grind
theorem Õ(h:∃x,b x/\c x/\d x)(k:∀x,b x->c x->d x->g):g:=by grind
theorem Ö(h:∃x y,a x y/\j x y)(k:∀x y,a x y->j x y->g):g:=by grind
theorem Ø(h:∃x y,a x y/\j x y/\s x y)(k:∀x y,a x y->j x y->s x y->g):g:=by grind
@[elab_as_elim]theorem Ù(θ)(h:∃x,θ=f1 x)(k:∀x,G (f1 x)):G θ:=by grind
theorem Ú(h:∃x y z,l x y z/\m x y z/\t x y z)(k:∀x y z,l x y z->m x y z->t x y z->g):g:=by grind
theorem Û(h:e/\i/\p/\q/\r/\A)(k:e->i->p->q->r->A->g):g:=by grind
theorem Ü(h:e/\i/\p/\q)(k:e->i->p->q->g):g:=by grind
theorem Ý(h:∃x y,a x y/\j x y/\s x y/\B x y)(k:∀x y,a x y->j x y->s x y->B x y->g):g:=by grind
@[elab_as_elim]theorem Þ(θ)(h:∃x,θ=f1 x/\b x)(k:∀x,b x->G (f1 x)):G θ:=by grind
theorem ß(h:∃x y z,l x y z/\m x y z/\t x y z/\C x y z)(k:∀x y z,l x y z->m x y z->t x y z->C x y z->g):g:=by grind
theorem ë(h:∃x,b x/\c x/\d x/\D x/\E x)(k:∀x,b x->c x->d x->D x->E x->g):g:=by grind
theorem ì(h:∃x y,a x y/\j x y/\s x y/\B x y/\F x y/\H x y)(k:∀x y,a x y->j x y->s x y->B x y->F x y->H x y->g):g:=by grind
theorem í(h:e/\i/\p)(k:e->i->p->g):g:=by grind
@[elab_as_elim]theorem î(θ)(h:θ=f2/\e)(k:e->G f2):G θ:=by grind
@[elab_as_elim]theorem ï(θ)(h:θ=f2/\e/\i/\p)(k:e->i->p->G f2):G θ:=by grind
theorem ð(h:∃x y z u v w,I x y z u v w)(k:∀x y z u v w,I x y z u v w->g):g:=by grind
@[elab_as_elim]theorem ñ(θ)(h:e/\θ=f2)(k:e->G f2):G θ:=by grind
@[elab_as_elim]theorem ò(θ)(h:∃x y z u,θ=f3 x y z u/\n x y z u/\o x y z u/\J x y z u/\K x y z u/\L x y z u)(k:∀x y z u,n x y z u->o x y z u->J x y z u->K x y z u->L x y z u->G (f3 x y z u)):G θ:=by grind
theorem ó(h:∃x,b x/\c x/\d x/\D x)(k:∀x,b x->c x->d x->D x->g):g:=by grind
theorem ô(h:e/\∃x y z,l x y z/\m x y z/\t x y z/\C x y z/\M x y z)(k:e->∀x y z,l x y z->m x y z->t x y z->C x y z->M x y z->g):g:=by grind
@[elab_as_elim]theorem õ(θ)(h:∃x y,θ=f4 x y/\a x y)(k:∀x y,a x y->G (f4 x y)):G θ:=by grind
@[elab_as_elim]theorem ö(θ)(h:∃x y,a x y/\θ=f4 x y/\j x y/\s x y)(k:∀x y,a x y->j x y->s x y->G (f4 x y)):G θ:=by grind
@[elab_as_elim]theorem ø(θ)(h:∃x y z u,n x y z u/\θ=f3 x y z u/\o x y z u/\J x y z u/\K x y z u/\L x y z u)(k:∀x y z u,n x y z u->o x y z u->J x y z u->K x y z u->L x y z u->G (f3 x y z u)):G θ:=by grind
@[elab_as_elim]theorem ù(θ)(h:∃x y z,θ=f5 x y z/\l x y z/\m x y z/\t x y z/\C x y z)(k:∀x y z,l x y z->m x y z->t x y z->C x y z->G (f5 x y z)):G θ:=by grind
@[elab_as_elim]theorem ú(θ)(h:∃x y z u,θ=f3 x y z u)(k:∀x y z u,G (f3 x y z u)):G θ:=by grind
@[elab_as_elim]theorem û(θ)(h:∃x y,θ=f4 x y)(k:∀x y,G (f4 x y)):G θ:=by grind
end
theorem Ř{α β γ}{p q:α->β->Prop}{r s:α->β->γ->Prop}{g:Prop}(h:∃x y,p x y/\q x y/\∃z,r x y z/\s x y z)(k:∀x y,p x y->q x y->∀z,r x y z->s x y z->g):g:=by grind
theorem cR{p:Prop}(h:p|>ū):p:=h
theorem cS{p:Prop}(h:p|>Ū):p:=h
theorem cT{p:Prop}(h:p:=by lia):p:=h
theorem dN{p:Prop}(h:p:=by simp):p:=h
theorem dO{a b:Nat}(h:Nat.ble a b=true|>ũ):a<=b:=Nat.le_of_ble_eq_true h
theorem eH{α:Sort u}{a:α}:a=a:=rfl
open Lean in
local macro_rules(kind:=Lean.Parser.Tactic.mleft)|x=>let a:=x[0];let n k l:=Syntax.node .none k (List.toArray l);let h:=n ``Parser.Term.hole [a];pure (n ``Parser.Tactic.first [a,n `null (("aO3 qn,‹5 fS0 bT0 BT,LX,Aj3 nO,iP,rF3 dX0 Pn2 Pq2 Pr2 Sy2 WS2 iU1 HE1 D20 qV0 E60 E51 aOf1 Mq3 aMt3 Mo3 Pp3 Mp3 Po3 eK0 bQ1 aP2 Mn,‹6 dB1 fN3 Ps3 aGt3 Oo3 Uo3 Pt3 Um3 rV1 tv2 qL5 qS5 q09 q19 q29 q39 q49 q59 q69 q79 q89 q99 Mu9 Mt9 Ms9 Mr9".splitOn " ").map fun s=>let d:=(s.toList.getLastD 'a').toNat-48;let w:=((String.ofList s.toList.dropLast).splitOn ",").map fun u=>if u="‹" then n `«term‹_›» [a,h,a] else (mkIdent (.mkSimple u)).raw;let v:=w.drop 1++List.replicate (d%9) (n ``Parser.Term.syntheticHole [a,a]);let f:=w.headD a;n `group [a,n ``Parser.Tactic.tacticSeq [n ``Parser.Tactic.tacticSeq1Indented [n `null [n (if d=9 then ``Parser.Tactic.exact else ``Parser.Tactic.refine') [a,if v.isEmpty then f else n ``Parser.Term.app [f,n `null v]]]]]])])
open Lean in
local macro_rules(kind:=«term#[_,]»)|x=>let a:=x[0];let t0:Syntax:=.node .none ``Parser.Term.hole #[a];let t1:Syntax:=mkIdent `eH;let t2:Syntax:=.node .none ``Parser.Term.syntheticHole #[a,a];let t3:Syntax:=mkIdent `dO;let t4:Syntax:=mkIdent `cT;let t5:Syntax:=mkIdent `cS;let l:=x[1].getSepArgs.toList.flatMap fun t=>if t.isOfKind `num then t[0].getAtomVal.toList.flatMap fun c=>[[t0,t1],[t1],[t2],[t0,t0],[t0,t1,t0,t1],[t3],[t4],[t1,t1],[t0,t1,t0],[t5]][c.toNat-48]! else [t];let h:=l.headD a;pure (if h.isIdent&&(h.getId.toString.get 0).val>969 then .node .none ``Parser.Term.app #[h,.node .none `null l.tail.toArray]else (x.setKind ``Parser.Term.anonymousCtor).setArg 1 (x[1].setArgs (l.intersperse a).toArray))
open Lean in
local macro_rules(kind:=Lean.Parser.Command.declaration)|x=>if x.getPos?.isSome then let y:Syntax:=Id.run ((if x[1].isOfKind ``Parser.Command.definition then x.modifyArg 0 (·.setArg 4 (.node .none `null ⟨[.node .none ``Parser.Command.noncomputable ⟨[x[0]]⟩]⟩))else x).rewriteBottomUp (·.setInfo .none));let l:=x[1][1][0].getId.toString.splitOn " ";pure (if l.length=1 then y else mkNullNode ((l.drop 1).dropLast.map fun u=>y.modifyArg 1 (·.modifyArg 1 (·.setArg 0 (mkIdent (.str `PySem.W.Fast s!"tw{(Name.str `PySem.Challenge.cw_leafjudge_k93_whole_a_desk_holds u).hash}"))))).toArray)else Macro.throwUnsupported
theorem Ϙ{α}{p:α->Prop}{q:α->Prop}(x:α)(a:p x)(b:q x):∃x,p x/\q x:=#[x,a,b]
theorem ϙ{α}{p:α->Prop}{q:α->Prop}{r:α->Prop}(x:α)(a:p x)(b:q x)(c:r x):∃x,p x/\q x/\r x:=#[x,a,b,c]
theorem Ϛ{α β}{p:α->β->Prop}{q:α->β->Prop}(x:α)(y:β)(a:p x y)(b:q x y):∃x y,p x y/\q x y:=#[x,y,a,b]
theorem ϛ{α β}{p:α->β->Prop}{q:α->β->Prop}{r:α->β->Prop}(x:α)(y:β)(a:p x y)(b:q x y)(c:r x y):∃x y,p x y/\q x y/\r x y:=#[x,y,a,b,c]
theorem Ϝ{α β}{p:α->β->Prop}{q:α->β->Prop}{r:α->β->Prop}{s:α->β->Prop}(x:α)(y:β)(a:p x y)(b:q x y)(c:r x y)(d:s x y):∃x y,p x y/\q x y/\r x y/\s x y:=#[x,y,a,b,c,d]
theorem ϝ{α β}{p:α->β->Prop}{q:α->β->Prop}{r:α->β->Prop}{s:α->β->Prop}{t:α->β->Prop}(x:α)(y:β)(a:p x y)(b:q x y)(c:r x y)(d:s x y)(e:t x y):∃x y,p x y/\q x y/\r x y/\s x y/\t x y:=#[x,y,a,b,c,d,e]
theorem Ϟ{α β}{p:α->β->Prop}{q:α->β->Prop}{r:α->β->Prop}{s:α->β->Prop}{t:α->β->Prop}{p1:α->β->Prop}(x:α)(y:β)(a:p x y)(b:q x y)(c:r x y)(d:s x y)(e:t x y)(f:p1 x y):∃x y,p x y/\q x y/\r x y/\s x y/\t x y/\p1 x y:=#[x,y,a,b,c,d,e,f]
theorem ϟ{α β γ}{p:α->β->γ->Prop}{q:α->β->γ->Prop}(x:α)(y:β)(z:γ)(a:p x y z)(b:q x y z):∃x y z,p x y z/\q x y z:=#[x,y,z,a,b]
theorem Ϡ{α β γ}{p:α->β->γ->Prop}{q:α->β->γ->Prop}{r:α->β->γ->Prop}(x:α)(y:β)(z:γ)(a:p x y z)(b:q x y z)(c:r x y z):∃x y z,p x y z/\q x y z/\r x y z:=#[x,y,z,a,b,c]
theorem ϡ{α β γ}{p:α->β->γ->Prop}{q:α->β->γ->Prop}{r:α->β->γ->Prop}{s:α->β->γ->Prop}(x:α)(y:β)(z:γ)(a:p x y z)(b:q x y z)(c:r x y z)(d:s x y z):∃x y z,p x y z/\q x y z/\r x y z/\s x y z:=#[x,y,z,a,b,c,d]
theorem Ϣ{α β γ}{p:α->β->γ->Prop}{q:α->β->γ->Prop}{r:α->β->γ->Prop}{s:α->β->γ->Prop}{t:α->β->γ->Prop}(x:α)(y:β)(z:γ)(a:p x y z)(b:q x y z)(c:r x y z)(d:s x y z)(e:t x y z):∃x y z,p x y z/\q x y z/\r x y z/\s x y z/\t x y z:=#[x,y,z,a,b,c,d,e]
theorem ϣ{α β γ δ}{p:α->β->γ->δ->Prop}{q:α->β->γ->δ->Prop}{r:α->β->γ->δ->Prop}{s:α->β->γ->δ->Prop}{t:α->β->γ->δ->Prop}(x:α)(y:β)(z:γ)(u:δ)(a:p x y z u)(b:q x y z u)(c:r x y z u)(d:s x y z u)(e:t x y z u):∃x y z u,p x y z u/\q x y z u/\r x y z u/\s x y z u/\t x y z u:=#[x,y,z,u,a,b,c,d,e]
theorem Ϥ{α β γ δ}{p:α->β->γ->δ->Prop}{q:α->β->γ->δ->Prop}{r:α->β->γ->δ->Prop}{s:α->β->γ->δ->Prop}{t:α->β->γ->δ->Prop}{p1:α->β->γ->δ->Prop}(x:α)(y:β)(z:γ)(u:δ)(a:p x y z u)(b:q x y z u)(c:r x y z u)(d:s x y z u)(e:t x y z u)(f:p1 x y z u):∃x y z u,p x y z u/\q x y z u/\r x y z u/\s x y z u/\t x y z u/\p1 x y z u:=#[x,y,z,u,a,b,c,d,e,f]
theorem ϥ{α β γ δ ε}{p:α->β->γ->δ->ε->Prop}{q:α->β->γ->δ->ε->Prop}{r:α->β->γ->δ->ε->Prop}{s:α->β->γ->δ->ε->Prop}{t:α->β->γ->δ->ε->Prop}{p1:α->β->γ->δ->ε->Prop}(x:α)(y:β)(z:γ)(u:δ)(v:ε)(a:p x y z u v)(b:q x y z u v)(c:r x y z u v)(d:s x y z u v)(e:t x y z u v)(f:p1 x y z u v):∃x y z u v,p x y z u v/\q x y z u v/\r x y z u v/\s x y z u v/\t x y z u v/\p1 x y z u v:=#[x,y,z,u,v,a,b,c,d,e,f]
theorem Ϧ{α β γ δ ε ζ η}{p:α->β->γ->δ->ε->ζ->η->Prop}{q:α->β->γ->δ->ε->ζ->η->Prop}{r:α->β->γ->δ->ε->ζ->η->Prop}(x:α)(y:β)(z:γ)(u:δ)(v:ε)(w:ζ)(l:η)(a:p x y z u v w l)(b:q x y z u v w l)(c:r x y z u v w l):∃x y z u v w l,p x y z u v w l/\q x y z u v w l/\r x y z u v w l:=#[x,y,z,u,v,w,l,a,b,c]
theorem ϧ{α β γ δ ε ζ η}{p:α->β->γ->δ->ε->ζ->η->Prop}{q:α->β->γ->δ->ε->ζ->η->Prop}{r:α->β->γ->δ->ε->ζ->η->Prop}{s:α->β->γ->δ->ε->ζ->η->Prop}{t:α->β->γ->δ->ε->ζ->η->Prop}{p1:α->β->γ->δ->ε->ζ->η->Prop}{p2:α->β->γ->δ->ε->ζ->η->Prop}(x:α)(y:β)(z:γ)(u:δ)(v:ε)(w:ζ)(l:η)(a:p x y z u v w l)(b:q x y z u v w l)(c:r x y z u v w l)(d:s x y z u v w l)(e:t x y z u v w l)(f:p1 x y z u v w l)(g:p2 x y z u v w l):∃x y z u v w l,p x y z u v w l/\q x y z u v w l/\r x y z u v w l/\s x y z u v w l/\t x y z u v w l/\p1 x y z u v w l/\p2 x y z u v w l:=#[x,y,z,u,v,w,l,a,b,c,d,e,f,g]
theorem ŀ{a b c:Nat}(h:a<=b|>Ũ)(g:Nat.ble b c=true|>ũ):a<=c:=Nat.le_trans h (dO g)
theorem Ŋ{p:Prop}(h:p:=by grind):p:=h
theorem ŋ{p:Prop}(h:p:=by omega):p:=h
theorem Ō{a b:Nat}(h:a<=b|>Ũ):a<b+1:=Nat.lt_succ_of_le h
theorem ō{a b:Nat}(h:a<=b|>Ũ):a<=b+1:=Nat.le_succ_of_le h
theorem Ŏ{a b:Nat}(h:a<b|>Ũ):a<=b:=Nat.le_of_lt h
theorem ŏ{a b:Nat}(h:¬a<b|>Ũ):b<=a:=Nat.not_lt.mp h
theorem Ŀ{a:Nat}:0<=(a:Int):=Int.natCast_nonneg _
def a9:=@if_neg
def b8:=@if_pos
def c6:=@decide_eq_true
def c7:=@decide_eq_false
def c8:=@of_decide_eq_true
def c9:=@absurd
def d9:=@congrArg
def e7:=@of_decide_eq_false
def e8:=@decide_eq_true_eq
def i0:=@decide_eq_decide
def j1:=@decide_eq_true_iff
def j4:=@or_false
def t8:=@if_false
def x2:=@if_true
def bz:=@decide_false
def cx:=@decide_true
def dr:=@ne_true_of_eq_false
def eg:=@beq_iff_eq
def fc:=@getElem?_pos
section
open PySem PySem.Spec PyProof.Rows
namespace SS
structure GS(a0:Array fi)(g:Nat->Nat)(pd:Array (Nat×Nat×Nat))(st:SortSt):Prop where
 size:(aq st).size=a0.size
 get:∀p,p<a0.size->(aq st)[p]?=a0[g p]?
 rng:∀p,p<a0.size->g p<a0.size
 kind:kindOf st=oneType'
 fail:fo st=wx
 pend:cg st=pd
def gL(g:Nat->Nat)(i j:Nat):Nat->Nat:=λk=>if i<=k/\k<j then g (i+j-1-k)else g k
def Ab(g:Nat->Nat)(b a:Nat):Nat->Nat:=λk=>if k=a then g b else if a<k/\k<=b then g (k-1)else g k
section
variable{prog:dF}{w:g6}{A:g3}{E:á->ã->Prop}{s:ã}{d:Array fi}{g:Nat->Nat}{e:Array (Nat×Nat×Nat)}{st:SortSt}
def Jn(b:IntKeys d){i:Nat}(c:i<dl d):∃t q,d[i]?=wz (u7 (K d i) t,q):=Ç (b d[i] dN) λn t f=>by
 refine#[t,d[i].2,2];have a:d[i]=(u7 n t,d[i].2):=Prod.ext f eH;unfold K;rw[(fc _ i c),a]
 rfl
theorem GS.mirr(h:GS d g e st){i j:Nat}(hj:j<=dl d):GS d (gL g i j) e (setArr st (mirror (aq st) i j ((j-i) / 2))) where
 size:=(mirror_size _ _ _ _).trans h.size
 get:=λp hp=>by
  refine(getElem?_mirror_all (by rw[h.size];exact hj) p).trans ?_;unfold gL;split
  .exact h.get _ ŋ
  .exact h.get _ hp
 rng:=λp hp=>by
  unfold gL;split
  .exact h.rng _ ŋ
  .exact h.rng _ hp
 kind:=h.kind
 fail:=h.fail
 pend:=h.pend
theorem GS.bubb(h:GS d g e st){src kx:Nat}(hs:src<dl d)(hd:kx<=src):GS d (Ab g src kx) e (setArr st (bubble (aq st) src (src-kx))) where
 size:=(bubble_size _ _ _).trans h.size
 get:=λp hp=>by
  refine(getElem?_bubble (by rw[h.size];exact hs) _ dN p).trans ?_;rw[show src-(src-kx)=kx by lia];unfold Ab;split
  .exact h.get _ hs
  .split
   .exact h.get _ ŋ
   .exact h.get _ hp
 rng:=λp hp=>by
  unfold Ab;split
  .exact h.rng _ hs
  .split
   .exact h.rng _ ŋ
   .exact h.rng _ hp
 kind:=h.kind
 fail:=h.fail
 pend:=h.pend
def AV{p q:Nat}{Q:Option Bool->SortSt->Prop}(h:GS d g e st)(a:IntKeys d)(b:p<dl d)(c:q<dl d)
  (k:Q (wz (decide (K d (g p)<K d (g q)))) st):wpS (ä prog w) A E s (ltAt' p q) Q st:=Ç (Jn a (h.rng p b)) λt x f=>Ç (Jn a (h.rng q c)) λu y i=>wpS_ltAt h.kind ((h.get p b).trans f) ((h.get q c).trans i) k
def za(lo a c:Nat):StateT SortSt Sem AscSt:=
 jz [a:c] ((wx,a):AscSt) λ_ z=>do
  let x <- ltAt' (lo+z.snd) (lo+z.snd-1)
  match x with
  |some b=>if b=ww then pure (w5 (wx,z.snd))else pure (i6 (wx,z.snd+1))
  |_=>pure (w5 (wz wx,z.snd))
def JO(lo n a:Nat):StateT SortSt Sem (Option Nat):=do
 x6 lo (lo+n)
 let z <- za lo n a
 match z.fst with
 |some r=>pure r
 |none=>pure (wz z.snd)
def Cs(lo n a:Nat):StateT SortSt Sem DescSt:=
 jz [n:a] ((wx,n,0):DescSt) λ_ z=>do
  let x <- ltAt' (lo+z.snd.fst) (lo+z.snd.fst-1)
  match x with
  |some b=>
   if b=ww then
    if z.snd.snd>0 then do
     x6 (lo+z.snd.fst-(z.snd.snd+1)) (lo+z.snd.fst)
     pure (i6 (wx,z.snd.fst+1,0))
    else pure (i6 (wx,z.snd.fst+1,0))
   else do
    let x <- ltAt' (lo+z.snd.fst-1) (lo+z.snd.fst)
    match x with
    |some c=>
     if c=ww then pure (w5 (wx,z.snd.fst,z.snd.snd))
     else pure (i6 (wx,z.snd.fst+1,z.snd.snd+1))
    |_=>pure (w5 (wz wx,z.snd.fst,z.snd.snd))
  |_=>pure (w5 (wz wx,z.snd.fst,z.snd.snd))
def OL(lo n a:Nat):StateT SortSt Sem (Option Nat):=do
 liftM (rule "list.sort.descending-run")
 let z <- Cs lo (n+1) a
 match z.fst with
 |some r=>pure r
 |none=>
  if z.snd.snd>0 then do
   x6 (lo+z.snd.fst-(z.snd.snd+1)) (lo+z.snd.fst)
   JO lo z.snd.fst a
  else JO lo z.snd.fst a
def XY(lo a:Nat):countRun' lo a=(do
  let z <- za lo 1 a
  match z.fst with
  |some r=>pure r
  |none=>
   if(z.snd==a)=ww then pure (wz z.snd)
   else if z.snd>1 then do
    let x <- ltAt' lo (lo+z.snd-1)
    match x with
    |some b=>if b=ww then pure (wz z.snd)else do
      x6 lo (lo+z.snd)
      OL lo z.snd a
    |_=>pure wx
   else OL lo z.snd a):=by
 have i:∀(n:Nat),JO lo n a=(do
   x6 lo (lo+n)
   let z <- za lo n a
   match z with
   | (wz r,_)=>pure r
   | (wx,m)=>pure (wz m)):=λn=>by
  unfold JO;congr 1;funext _;congr 1;funext z;obtain⟨r,m⟩:=z;cases r<;>rfl
 rw[countRun'_eq];unfold OL;simp only[i];congr 1;funext z;obtain⟨r,n⟩:=z
 cases r with
 |some r=>rfl
 |none=>
  dsimp only;split
  .rfl
  .split
   .congr 1;funext x
    cases x with
    |none=>rfl
    |some b=>
     dsimp only;split
     .rfl
     .congr 1;funext _;congr 1;funext _;congr 1;congr 1;funext y;obtain⟨f,h,q2⟩:=y
      cases f with
      |some f=>rfl
      |none=>
       dsimp only;split
       .congr 1;funext _;congr 1;funext _;congr 1;funext u;obtain⟨c,n3⟩:=u;cases c<;>rfl
       .congr 1;funext _;congr 1;funext u;obtain⟨c,n3⟩:=u;cases c<;>rfl
   .congr 1;funext _;congr 1;congr 1;funext y;obtain⟨f,h,q2⟩:=y
    cases f with
    |some f=>rfl
    |none=>
     dsimp only;split
     .congr 1;funext _;congr 1;funext _;congr 1;funext u;obtain⟨c,n3⟩:=u;cases c<;>rfl
     .congr 1;funext _;congr 1;funext u;obtain⟨c,n3⟩:=u;cases c<;>rfl
end
section
variable{prog:dF}{w:g6}{A:g3}{E:á->ã->Prop}{s:ã}{f:Array fi}{g:Nat->Nat}{t:Array (Nat×Nat×Nat)}{st:SortSt}{n o m:Nat}
structure Rn(f:Array fi)(g:Nat->Nat)(m:Nat):Prop where
 hd:∀q,q<m->K f (g 0)<K f q\/(K f (g 0)=K f q/\g 0<=q)
 inn:∀p,p<m->g p<m
 aft:∀p,m<=p->g p=p
theorem Rn.snoc(r:Rn f g m)(i:1<=m)(h:¬K f (g (0+m))<K f (g (0+m-1))):Rn f g (m+1):=by
 rw[iE,r.aft m (aL _)]at h;have a:=r.inn 0 i;have b:=r.inn (m-1) ŋ;have c:=r.hd _ b;refine#[λq j=>?_,λp d=>?_,λp d=>r.aft p Ŏ]
 .by_cases e:q<m
  .exact r.hd q e
  .rw[show q=m by lia];lia
 .by_cases e:p<m
  .have:=r.inn p e;exact ō
  .rw[r.aft p ŏ];exact d
theorem N1{a:Nat}{Q:AscSt->SortSt->Prop}(j:IntKeys f)(r:o<=dl f)(q:1<=a)(e:a<=o)(k:GS f g t st)(l:Rn f g a)
  (h:∀m,a<=m->m<=o->Rn f g m->(m=o\/K f (g (0+m))<K f (g (0+m-1)))->Q (wx,m) st):wpS (ä prog w) A E s (za 0 a o) Q st:=by
 unfold za;refine aa (I:=λx c z=>z=st/\c=(wx,x)/\Rn f g x) ?step ?ő #[7,l]
 case ő=>
  rintro c z ⟨rfl,rfl,b⟩;rw[show max a o=o by lia]at b |-
  exact h o e (aL _) b (j3 eH)
 case step=>
  rintro x c z i p ⟨rfl,rfl,b⟩;dsimp only;refine g7 (AV k j cT cT ?_);by_cases d:K f (g (0+x))<K f (g (0+x-1))
  .simp only[d,cx,x2];exact j9 (h x i Ŏ b (i7 d))
  .simp only[d,bz,fP,t8];exact j9 #[7,b.snoc (bX ‹_› ‹_›) d]
structure Dn(f:Array fi)(g:Nat->Nat)(x ne:Nat):Prop where
 le:ne+1<=x
 low:∀q,q<x-(ne+1)->K f (x-1)<K f q
 inn:∀p,p<x-(ne+1)->g p<x-(ne+1)
 alike:∀p,x-(ne+1)<=p->p<x->K f p=K f (x-1)
 aft:∀p,x-(ne+1)<=p->g p=p
theorem Dn.į{x ne:Nat}(d:Dn f g x ne):∃a,a=gL g (0+x-(ne+1)) (0+x) /\
  (∀q,q<x->K f (a (x-1))<K f q\/(K f (a (x-1))=K f q/\a (x-1)<=q))/\(∀p,p<x->a p<x)/\∀p,x<=p->a p=p:=by
 have h:=d.le;refine#[02,λp b=>?_,λp b=>?_]<;>unfold gL
 .rw[b8 ŋ,d.aft _ Ŋ];intro q e;have:=d.alike (x-(ne+1)) (aL _) ŋ;rw[show 0+x-(ne+1)+(0+x)-1-(x-1)=x-(ne+1) by grind];by_cases c:q<x-(ne+1)
  .have:=d.low q c;lia
  .have:=d.alike q ŏ e;lia
 .split
  .rw[d.aft _ cT];omega
  .have:=d.inn p Ŋ;omega
 .rw[a9 cT,d.aft _ cT]
theorem U4{x:Nat}(a:1<=x):gL g (0+x-(0+1)) (0+x)=g:=by
 funext k;unfold gL;split
 .congr 1;omega
 .rfl
def AU{i j:Nat}{Q:Unit->SortSt->Prop}(h:Q () (setArr st (mirror (aq st) i j ((j-i) / 2)))):wpS (ä prog w) A E s (x6 i j) Q st:=by
 rw[reverseSlice'_eq];exact fu h
theorem WB{Q:DescSt->SortSt->Prop}(v:IntKeys f)(R:o<=dl f)(P:1<=n)(u:n<=o)(G:GS f g t st)(L:Dn f g n 0)
  (h:∀m ne b e,GS f b t e->n<=m->m<=o->Dn f b m ne->Q (wx,m,ne) e):wpS (ä prog w) A E s (Cs 0 n o) Q st:=by
 unfold Cs;refine aa (I:=λx c z=>∃ne b,c=(wx,x,ne)/\GS f b t z/\Dn f b x ne) ?step ?ő #[ϛ,(0),g,1,G,L]
 case ő=>
  rintro c z ⟨ne,b,rfl,a,hd⟩;rw[show max n o=o by lia]at hd |-
  exact h o ne b z a u (aL _) hd
 case step=>
  rintro x c z l M ⟨ne,b,rfl,a,hd⟩;dsimp only;have H:=hd.le;have ex:=hd.aft (0+x) dN;have k:=hd.aft (0+x-1) Ŋ;refine g7 (AV a v cT cT ?_);rw[ex,k];rw[iE];by_cases r:K f x<K f (x-1)
  .simp only[r,cx,x2];let Z N O:=È hd.į
   have nx:Dn f (gL b (0+x-(ne+1)) (0+x)) (x+1) 0:=by
    refine#[6,λq S=>?_,N,λp y F=>by congr 1;lia,O];show K f x<_;by_cases c:q<x-(ne+1)
    .have:=hd.low q c;lia
    .rw[hd.alike q ŏ (Nat.succ_le_of_lt ‹_›)];exact r
   by_cases d:ne>0
   .rw[b8 d];rw[iE]at nx;exact g7 (AU (j9 #[ϛ,(0),0,a.mirr cT,nx]))
   .rw[a9 d];have C:ne=0:=by lia
    subst C;rw[U4 ŋ]at nx;exact j9 #[ϛ,(0),0,a,nx]
  .simp only[r,bz,fP,t8];refine g7 (AV a v cT (bX ‹_› ‹_›) ?_);rw[iE]at ex k;rw[ex,k];by_cases B:K f (x-1)<K f x
   .simp only[B,cx,x2];exact j9 (h x ne b z a l Ŏ hd)
   .simp only[B,bz,fP,t8];have i:x+1-(ne+1+1)=x-(ne+1):=by simp
    have j:K f x=K f (x-1):=by lia
    refine j9 #[ne+1,b,1,a,Ō,2,by rw[i];exact hd.inn,2,by rw[i];exact hd.aft]
    .rw[i,aE0,j];exact hd.low
    .rw[i,aE0,j];intro p y F;by_cases J:p=x
     .rw[J,j]
     .exact hd.alike p y cT
theorem JF{Q:Option Nat->SortSt->Prop}(l:IntKeys f)(x:o<=dl f)(u:1<=n)(d:n<=o)(v:GS f g t st)
  (f1:∀q,q<n->K f (g (n-1))<K f q\/(K f (g (n-1))=K f q/\g (n-1)<=q)) (f2:∀p,p<n->g p<n) (k:∀p,n<=p->g p=p)
  (h:∀m e c,GS f e t c->1<=m->m<=o->Rn f e m->Q (wz m) c):wpS (ä prog w) A E s (JO 0 n o) Q st:=by
 unfold JO;refine g7 (AU ?_);have b:=v.mirr (i:=0) (j:=0+n) cT;refine g7 (N1 l x u d b #[2,λp a=>?_,λp a=>?_] λm z y r _=>j9 (h m _ _ b (bX ‹_› ‹_›) y r))<;>unfold gL
 .rw[b8 cT,show 0+(0+n)-1-0=n-1 by simp];exact f1
 .rw[b8 cT];exact f2 _ ŋ
 .rw[a9 cT];exact k p a
theorem JG{Q:Option Nat->SortSt->Prop}(e:IntKeys f)(i:o<=dl f)(j:n+1<=o)(u:GS f g t st)(v:Dn f g (n+1) 0)
  (h:∀m d a,GS f d t a->1<=m->m<=o->Rn f d m->Q (wz m) a):wpS (ä prog w) A E s (OL 0 n o) Q st:=by
 unfold OL;refine g7 (wpS_lift (u4 #[12]));refine g7 (WB e i cT j u v λm ne d a b x q hd=>?_);dsimp only;let k l p:=È hd.į;by_cases c:ne>0
 .rw[b8 c];exact g7 (AU (JF e i cT q (b.mirr cT) k l p h))
 .rw[a9 c];have r:ne=0:=by lia
  subst r;rw[U4 cT]at k l p;exact JF e i cT q b k l p h
theorem QS{Q:Option Nat->SortSt->Prop}(l:IntKeys f)(u:o<=dl f)(C:1<=o)(e:GS f (λp=>p) t st)
  (h:∀m x k,GS f x t k->1<=m->m<=o->Rn f x m->Q (wz m) k):wpS (ä prog w) A E s (countRun' 0 o) Q st:=by
 rw[XY];refine g7 (N1 l u (aL 1) C e #[λq a=>i7 #[by rw[show q=0 by lia],bZ _],λp a=>a,λp a=>rfl] λm y z r v=>?_);dsimp only;by_cases d:m=o
 .rw[b8 (Á d)];exact j9 (h m _ st e y z r)
 .rw[a9 (Á d)];have j:=v.resolve_left d;rw[iE]at j;by_cases i:m>1
  .rw[b8 i];refine g7 (AV e l cT cT ?_);by_cases c:K f 0<K f (0+m-1)
   .simp only[c,cx,x2];exact j9 (h m _ st e y z r)
   .simp only[c,bz,fP,t8];refine g7 (AU (JG l u cT (e.mirr cT) #[6,λq a=>?_,λp a=>?_,λp a b=>by congr 1;lia,λp a=>?_] h))
    .have F:=r.hd q a;rw[iE]at c;show K f m<_;omega
    .unfold gL;dsimp only;split<;>grind
    .unfold gL;rw[a9 cT]
  .rw[a9 i];have B:m=1:=by lia
   subst B;refine JG l u cT e #[6,λq a=>?_,λp a=>a,λp a b=>by congr 1;lia,λp a=>rfl] h;rw[show q=0 by lia];exact j
theorem ZF{ok:Nat}{Q:Bool->SortSt->Prop}(L:IntKeys f)(U:n<=dl f)(gs:ok<=n)(T:1<=ok)(M:GS f g t st)(R:Rn f g ok)
  (h:∀a B,GS f a t B->Rn f a n->Q ww B):wpS (ä prog w) A E s (binarySort' 0 n ok) Q st:=by
 rw[binarySort'_eq]
 refine g7 (io (aa (I:=λk c z=>c=(wx,())/\∃a,GS f a t z/\Rn f a (min k n))
  (Q:=λc z=>c=(wx,())/\∃a,GS f a t z/\Rn f a n) ?step ?ő ?init) ?post)
 case post=>
  rintro c z ⟨rfl,a,j,i⟩;exact j9 (h a z j i)
 case init=>
  refine#[1,g,M,2];rw[show min (max ok 1) n=ok by lia];exact R
 case ő=>
  rintro c z ⟨O,a,j,i⟩;rw[show min (max (max ok 1) n) n=n by grind]at i;exact#[O,a,j,i]
 case step=>
  rintro k c z N P ⟨rfl,a,j,i⟩;rw[show min k n=k by lia]at i;have C:=i.aft (0+k) cT;rw[iE]at C
  refine g7 (io (aa (I:=λx c y=>y=z/\∃l r,c=(wx,l,r)/\l<=r/\r<=k/\r-l<=k-x /\
    (0<l->K f (a 0)<=K f k)/\(r=0->K f k<K f (a 0)))
   (Q:=λc y=>y=z/\∃l r,c=(wx,l,r)/\l<=k/\(0<l->K f (a 0)<=K f k)/\(l=0->K f k<K f (a 0))) ?istep ?ifin ?iinit) ?ipost)
  case iinit=>exact#[1,(0),k,166,dN,λz=>by lia,λz=>by lia]
  case ifin=>
   rintro c y ⟨rfl,l,r,rfl,H,a2,J,a4,u⟩;have:l=r:=by grind
   subst this;exact#[1,l,l,1,a2,a4,u]
  case istep=>
   rintro x c y _ S ⟨rfl,l,r,rfl,H,a2,J,a4,u⟩;dsimp only;by_cases v:l>=r
   .rw[b8 v];have:l=r:=by exact Nat.le_antisymm ‹_› ‹_›
    subst this;exact j9 #[1,l,l,1,a2,a4,u]
   .rw[a9 v];refine g7 (AV j L cT cT ?_);rw[iE,iE,C];by_cases F:K f k<K f (a ((l+r) / 2))
    .simp only[F,cx,x2];exact j9 #[1,l,(l+r) / 2,166,Ŋ,a4,λb=>by rw[<- b];exact F]
    .simp only[F,bz,fP,t8];have:=i.hd _ (i.inn ((l+r) / 2) cT);exact j9 #[1,(l+r) / 2+1,r,16,ŋ,Ŋ,λ_=>by grind,u]
  case ipost=>
   rintro c y ⟨rfl,l,r,rfl,a2,a4,u⟩;show wpS _ _ _ _ (do moveDown' (0+k) (0+l);pure (i6 (wx,()))) _ _;rw[moveDown'_eq];refine g7 (fu (j9 #[1,_,j.bubb cT cT,2]));rw[show min (k+1) n=k+1 by lia,iE,iE];refine#[2,λp G=>?_,λp G=>?_]<;>unfold Ab
   .intro q W;have b:=i.inn 0 cT;by_cases c:0=l
    .rw[b8 c,C];have d:=u c.symm;by_cases e:q<k
     .have:=i.hd q e;grind
     .rw[show q=k by lia];simp
    .rw[a9 c,a9 dN];have d:=a4 cT;by_cases e:q<k
     .exact i.hd q e
     .rw[show q=k by lia];lia
   .split
    .lia
    .split
     .have:=i.inn (p-1) cT;exact ō
     .by_cases e:p<k
      .have:=i.inn p e;exact ō
      .rw[i.aft p ŏ];exact G
   .rw[a9 cT,a9 cT,i.aft p Ŏ]
end
structure QI(n:Nat)(ky:Nat->Int)(J:List Nat):Prop where
 hd:∀q,q<n->J.headD 0<n/\(ky (J.headD 0)<ky q\/(ky (J.headD 0)=ky q/\J.headD 0<=q))
 lt:∀i∈J,i<n
 len:J.length=n
def fa(a:Array fi)(i:Nat):fi:=(a[i]?).getD (o0,o0)
section
variable{prog:dF}{w:g6}{A:g3}{E:á->ã->Prop}{s:ã}{a0:Array fi}{g:Nat->Nat}{a:Array (Nat×Nat×Nat)}{st:SortSt}
theorem GS.list(h:GS a0 g a st):aO6 (aq st)=((eZ a0.size).map g).map (fa a0):=by
 apply nU;intro q;rw[kW,bH,aK];by_cases b:q<dl a0
 .rw[h.get q b,mD b];show _=wz (fa a0 (g q));unfold fa;rw[fc a0 _ (h.rng q b)];rfl
 .rw[eW (by simp;exact ŏ),pM (by rw[h.size];exact ŏ)];rfl
theorem aF6(hB:GS a0 g a st)(r:Rn a0 g a0.size)(h:0<dl a0):QI a0.size (K a0) ((eZ a0.size).map g) where
 hd:=λq hq=>by
  have e:((eZ a0.size).map g).headD 0=g 0:=by
   obtain⟨m,e⟩:∃m,dl a0=m+1:=#[dl a0-1,6];rw[e,QO];rfl
  rw[e];exact#[hB.rng 0 h,r.hd q hq]
 lt:=λi hi=>É i (aM.mp hi) λp hp=>hB.rng p (oE.mp hp)
 len:=by simp
theorem XB{n:Nat}(h:n<64)(b:2<=n):minRun' n n 0=n:=by
 obtain⟨f,rfl⟩:∃f,n=f+2:=#[n-2,Ŋ];rw[show f+2=(f+1)+1 by lia,minRun'_succ,b8 ŋ]
def Dy(a0:Array fi)(st:SortSt):Prop:=∃g,GS a0 g (Ŭ [(0,dl a0,0)]) st/\Rn a0 g a0.size
def GS.setP(h:GS a0 g a st)(q:Array (Nat×Nat×Nat)):GS a0 g q (jf st q):=#[h.size,h.get,h.rng,h.kind,h.fail,1]
theorem ZE{Q:Unit->SortSt->Prop}(n:IntKeys a0)(o:GS a0 (λp=>p) (Ŭ []) st)(G:2<=dl a0)(j:dl a0<64)
  (h:∀f J,fo f=wx->aO6 (aq f)=J.map (fa a0)->QI a0.size (K a0) J->Q () f):wpS (ä prog w) A E s sortRuns' Q st:=by
 have H:=XB j G;rw[sortRuns'_eq];refine g7 (kh ?_);dsimp only;simp only[o.size]
 generalize minRun' a0.size a0.size 0=mn at H
 refine g7 (io (aa
  (I:=λx c z=>(x=0/\c=(wx,0)/\GS a0 (λp=>p) (Ŭ []) z)\/(1<=x/\c=(wx,dl a0)/\Dy a0 z))
  (Q:=λc z=>c=(wx,dl a0)/\Dy a0 z) ?step ?ő (j3 #[7,o])) ?post)
 case ő=>
  rintro c z (⟨q,_,_⟩ | ⟨_,hc,k⟩)
  .lia
  .exact#[hc,k]
 case step=>
  rintro x c z _ q (⟨rfl,rfl,hB'⟩ | ⟨x1,rfl,k⟩)
  .dsimp only;rw[a9 (Nat.not_le.mpr ‹_›)];simp only[xZ,iE]
   have next:∀(m:Nat)(i:Nat->Nat)(d:SortSt),GS a0 i (Ŭ []) d->m=dl a0->Rn a0 i m ->
     (1=0/\((wx,m):Option Unit×Nat)=(wx,0)/\GS a0 (λp=>p) (Ŭ []) (jf d ((cg d).push (0,m,0)))) \/
     (1<=1/\((wx,m):Option Unit×Nat)=(wx,dl a0)/\Dy a0 (jf d ((cg d).push (0,m,0)))):=λm i d b e r=>by
    have C:=b.setP (Ŭ [(0,m,0)]);rw[show(cg d).push (0,m,0)=(Ŭ [(0,m,0)]) by rw[b.pend];rfl];subst e;exact i7 #[61,i,C,r]
   refine g7 (QS n cT Ŏ hB' λm i d b t N r=>?_);dsimp only;by_cases l:m<mn
   .rw[b8 l];refine g7 (wpS_lift (u4 #[12]));refine g7 (ZF n cT cT t b r λF z2 c1 L=>?_);simp only[aO5,fP,t8];refine g7 (kh ?_);rw[show(cg z2).back?=wx by rw[c1.pend];rfl];dsimp only;exact g7 (fu (j9 (next _ F z2 c1 Ŋ L)))
   .rw[a9 l];refine g7 (kh ?_);rw[show(cg d).back?=wx by rw[b.pend];rfl];dsimp only;exact g7 (fu (j9 (next _ i d b cT r)))
  .dsimp only;rw[b8 (aL _)];exact j9 #[1,k]
 case post=>
  rintro c z ⟨rfl,k⟩;dsimp only
  refine g7 (io (aa (I:=λx c y=>c=(wx,())/\x=0/\y=z)
   (Q:=λc y=>c=(wx,())/\fo y=wx/\∃J,aO6 (aq y)=J.map (fa a0)/\QI a0.size (K a0) J) ?_ ?_ #[17]) ?_)
  .rintro x c y _ _ ⟨rfl,rfl,rfl⟩;refine g7 (kh ?_);let g b M:=Ê k;rw[b8 (by rw[b.pend];exact aL 1)];exact j9 #[1,b.fail,_,b.list,aF6 b M ŋ]
  .rintro c y ⟨rfl,q,_⟩;lia
  .rintro c y ⟨rfl,u,J,v,B⟩;exact j9 (h y J u v B)
end
end SS
set_option maxHeartbeats 4000000
namespace SS
section
variable{prog:dF}{w:g6}{A:g3}{E:á->ã->Prop}{s:ã}{a m f:à}{vs:List á}{g:List Int}{P:PySem.Fin->ã->Prop}{d:ã->Prop}{lo:Nat}
structure X7(d:ã->Prop)(lo:Nat):Prop where
 up:∀(s':ã)(x:à)h'(tk:Nat),d s'->lo<=x->gB x s'.heap h'->d { s' with heap:=h',toks:=tk }
 push:∀(s':ã)(o:Obj),d s'->d { s' with heap:=s'.heap.push o }
def mR(prog:dF)(w:g6)(A:g3)(d:ã->Prop)(lo:Nat)(f:à)(vs:List á)(g:List Int):Prop:=∀(i:Nat)(v:á)(k:Int)(c:ã),vs[i]?=wz v->g[i]?=wz k->d c ->
 å (ä prog w) A (call (g8 f) [v]) (λu e=>∃t,u=u7 k t/\d e/\∀b o,lo<=b->c.heap.get? b=wz o->e.heap.get? b=wz o) (λ_ _=>False) c
theorem ZA{Ŕ:Array á}(c:IntsAre (aO6 Ŕ) g)(n:iN g=iN vs):dl (Ŕ.zip vs.toArray)=iN vs/\∀i,i<iN vs->K (Ŕ.zip (aPe vs)) i=g.getD i 0/\(fa (Ŕ.zip (aPe vs)) i).2=vs.getD i o0:=by
 have j:dl Ŕ=iN vs:=by have:=c.length;rw[eY]at this;lia
 have l:dl (Ŕ.zip vs.toArray)=iN vs:=by rw[Array.size_zip,j,bP,Nat.min_self]
 refine#[l,λi b=>?_];let t h:=Ë (c.get i (g[i]' cT) (aC cT));rw[kW]at h;have k:vs.toArray[i]?=wz vs[i]:=by simp[b]
 have e:(Ŕ.zip (aPe vs))[i]?=wz (u7 (g[i]' cT) t,vs[i]):=by
  rw[Array.getElem?_zip_eq_some];exact#[h,k]
 constructor
 .unfold K;rw[e];rw[cU,aC cT];rfl
 .unfold fa;rw[e,cU,aC b];rfl
def QI.congr{n:Nat}{k1 k2:Nat->Int}(h:QI n k1 J)(e:∀i,i<n->k1 i=k2 i):QI n k2 J where
 hd:=λq hq=>by
  have:=h.hd q hq
  rwa [e _ this.1,e q hq]at this
 lt:=h.lt
 len:=h.len
def T7{st:SortSt}{Ŕ:Array á}{e p:Nat}{J:List Nat}(T:X7 d lo)(C:d s)(ok:s.heap.get? m=wz (j0 "list" Ŕ e))(B:s.heap.get? a=wz (j0 "list" (Ŭ []) p))(n:m≠a)(z:lo<=m)(y:lo<=a)
  (o:dl Ŕ<=bM) (q:(aq st).toList.map (·.2)=J.map λi=>vs.getD i o0) (v:iN J<=bM) (u:fo st=wx)
  (h:∀k t out c,d { s with heap:=k,toks:=t }->k.get? a=wz (j0 "list" out c)->aO6 out=(J.map λi=>vs.getD i o0)->P (.done (.ret o0)) { s with heap:=k,toks:=t }) :
  å (ä prog w) A (ksk_tail a wv p (g8 m) st) P E s:=by
 have r:=gB.update s.heap m (i3 λ_=>((Ŭ []):Array á));have b:=(r.2 a n.symm).trans B;obtain⟨j,l⟩:∃j,((s.heap.update m (i3 λ_=>((Ŭ []):Array á))).update a (i3 λ_=>(aq st).map (·.2))).get? a=wz (j0 "list" ((aq st).map (·.2)) j):=#[_,er b λ_=>(aq st).map (·.2)]
 have x:dl ((aq st).map (·.2))=iN J:=by
  have:=d9 iN q;simpa using this
 refine aF (cn ok eH ?_ o (bZ _));refine aF (ek ?_);refine aF (seqEpoch_at b eH ?_);refine aF (cn b eH ?_ (bZ _) (by simp only[fP,t8];rw[x];exact EV v));rw[u];simp only[bne_self_eq_false,fP,t8];exact aZ (h _ _ _ j (T.up { s with heap:=s.heap.update m (i3 λ_=>((Ŭ []):Array á)) } a _ s.toks (T.up s m _ s.toks C z r) y (gB.update (s.heap.update m (i3 λ_=>((Ŭ []):Array á))) a (i3 λ_=>(aq st).map (·.2)))) l (by rw[Array.toList_map];exact q))
theorem aMb{Ŕ:Array á}{e L:Nat}(T:X7 d lo)(R:d s)(ok:s.heap.get? m=wz (j0 "list" Ŕ e))(O:s.heap.get? a=wz (j0 "list" (Ŭ []) L))(t:m≠a)(N:lo<=m)(M:lo<=a)
  (z:IntsAre (aO6 Ŕ) g) (X:iN g=iN vs) (p:iN vs<64)
  (h:∀j o out c J,d { s with heap:=j,toks:=o }->j.get? a=wz (j0 "list" out c)->QI (iN vs) (λi=>g.getD i 0) J->aO6 out=(J.map λi=>vs.getD i o0)->P (.done (.ret o0)) { s with heap:=j,toks:=o }) :
  å (ä prog w) A (ksk_end a wv (aPe vs) L (g8 m) Ŕ) P E s:=Ì (ZA (vs:=vs) z X) λn v=>by
 have C:dl Ŕ=iN vs:=by have:=z.length;rw[eY]at this;lia
 have y:(2:Nat)^24=bM:=rfl
 have x:∀J:List Nat,(∀i∈J,i<iN vs)->(J.map (fa (Ŕ.zip (aPe vs)))).map (·.2)=J.map λi=>vs.getD i o0:=λJ B=>by
  rw[bH];exact gX λi r=>(v i (B i r)).2
 unfold ksk_end;simp only[fP,t8];by_cases l:dl vs.toArray<2
 .rw[b8 l,b8 l];refine aF (aZ ?_);rw[StateT.run_pure];refine aF (aZ ?_)
  try dsimp only
  rw[bP]at l
  have W:aO6 (Ŕ.zip vs.toArray)=(eZ (iN vs)).map (fa (Ŕ.zip (aPe vs))):=by
   apply nU;intro q;rw[kW,aK];by_cases u:q<iN vs
   .rw[mD u,fc _ q (by rw[n];exact u)];show _=wz (fa _ q);unfold fa;rw[fc _ q (by rw[n];exact u)];rfl
   .rw[eW (by simp;exact ŏ),pM (by rw[n];exact ŏ)];rfl
  have k:QI (iN vs) (λi=>g.getD i 0) (eZ (iN vs)):=#[λq u=>by
   have e:iN vs=1:=by lia
   rw[e]at u |-
   rw[show q=0 by lia];exact#[YE,i7 #[1,aL _]],λi r=>oE.mp r,dN]
  exact T7 (st:=SortSt.mk' general' (Ŕ.zip (aPe vs)) (Ŭ []) 7 wx) (J:=eZ (iN vs)) T R ok O t N M (by rw[C,<- y];lia) (by
   show(Ŕ.zip (aPe vs)).toList.map (·.2)=_;rw[W];exact x _ k.lt) (by simp only[pS];rw[<- y];lia) eH λj o out c G H I=>h j o out c _ G H k I
 .rw[a9 l,a9 l];rw[bP]at l;rw[ksk_kind z (by rw[C];exact ŏ)];refine aF (aZ ?_)
  refine aF (fG (ZE (a0:=Ŕ.zip (aPe vs)) (st:=SortSt.mk' oneType' (Ŕ.zip (aPe vs)) (Ŭ []) 7 wx)
   (Q:=λ_ b=>fo b=wx/\∃J,aO6 (aq b)=J.map (fa (Ŕ.zip (aPe vs)))/\QI (Ŕ.zip (aPe vs)).size (K (Ŕ.zip (aPe vs))) J)
   (ksk_intKeys z) #[1,λ_ _=>rfl,λ_ Y=>Y,17] (by rw[n];exact ŏ) (by rw[n];exact p) λb J S a2 U=>#[S,J,a2,U]) ?_ λ_ _ e=>e)
  rintro⟨⟨⟩,b⟩ s' ⟨rfl,hf,J,B,k⟩
  try dsimp only
  rw[n]at k;have F:=k.congr λi r=>(v i r).1;exact T7 (J:=J) T R ok O t N M (by rw[C,<- y];lia) (by rw[B];exact x J k.lt) (by rw[k.len,<- y];lia) hf λj o out c G H I=>h j o out c _ G H F I
theorem aGb{B:Nat}(T:X7 d lo)(t0:d s)(ok:s.heap.get? m=wz (j0 "list" (Ŭ []) 0))(Y:s.heap.get? a=wz (j0 "list" (Ŭ []) B))(q:m≠a)(F:lo<=m)(L:lo<=a)
  (U:iN g=iN vs) (p:iN vs<64) (į:mR prog w A d lo f vs g)
  (h:∀b out c J,d b->b.heap.get? a=wz (j0 "list" out c)->QI (iN vs) (λi=>g.getD i 0) J->aO6 out=(J.map λi=>vs.getD i o0)->P (.done (.ret o0)) b) :
  å (ä prog w) A (ksk_rest a (g8 f) wv (aPe vs) B (g8 m)) P E s:=by
 have I:(2:Nat)^24=bM:=rfl;refine aF (u4 ?_)
 first
  |rw[List.forIn_toArray]
  | (rw[<- YL];simp only[List.toList_toArray])
  |rw[<- YL]
 refine aF (ksk_fold (λi b=>d b/\∃l e,b.heap.get? m=wz (j0 "list" l e)/\b.heap.get? a=wz (j0 "list" (Ŭ []) B)/\IntsAre (aO6 l) (g.take i)) vs 0 s
  #[t0,(Ŭ []),(0),ok,Y,Á IntsAre.nil] ?step ?done)
 case step=>
  rintro j x b K ⟨H,l,e,y,G,o⟩;simp only[iE]at o |-
  have hj:=(aD.mp K).1;obtain⟨k,r⟩:∃k,g[j]?=wz k:=#[_,aC cT]
  have hz:dl l<=iN vs:=by
   have Q:=o.length;rw[eY,bB]at Q;grind
  refine aF (gg (fG (į j x k b K r H) (λv u S=>?_) λ_ _ R=>R.elim));let n t3 keep:=Í v S;have t:=keep m _ F y;have M:=gB.update u.heap m (i3 (·.push (u7 k n)));obtain⟨z,C⟩:∃z,(u.heap.update m (i3 (·.push (u7 k n)))).get? m=wz (j0 "list" (l.push (u7 k n)) z):=#[_,er t (·.push (u7 k n))];have O:g.take (j+1)=g.take j++[k]:=by rw[cE,r];simp
  have N:aO6 (l.push (u7 k n))=aO6 l++[u7 k n]:=by simp
  refine aF (cn t eH ?_ (by rw[<- I];lia) (aR (mX (ID ..)) (by rw[<- I];lia)));exact aZ #[1,T.up _ m _ _ t3 F M,l.push (u7 k n),z,C,(M.2 a q.symm).trans (keep a _ L G),by rw[N,O];exact ksk_snoc o]
 case done=>
  rintro b ⟨H,l,e,y,G,o⟩;rw[(kL cT)]at o;refine aF (listItems_at y eH ?_);exact aMb T H y G q F L o U p λh' tk out c J n X Z W=>h _ out c J n X Z W
def aGa{n:Nat}(T:X7 d lo)(u:d s)(k:s.heap.get? a=wz (j0 "list" vs.toArray n))(l:lo<=a)(t:iN g=iN vs)(b:iN vs<64)(į:mR prog w A d lo f vs g)
  (h:∀o out c J,d o->o.heap.get? a=wz (j0 "list" out c)->QI (iN vs) (λi=>g.getD i 0) J->aO6 out=(J.map λi=>vs.getD i o0)->P (.done (.ret o0)) o) :
  å (ä prog w) A (ksk_tree a (g8 f) wv) P E s:=by
 have q:(2:Nat)^24=bM:=rfl;have r:=bG k;obtain⟨p,j⟩:∃p,(s.heap.update a (i3 λ_=>((Ŭ []):Array á))).get? a=wz (j0 "list" (Ŭ []) p):=#[_,er k λ_=>(Ŭ [])];have e:((s.heap.update a (i3 λ_=>((Ŭ []):Array á))).push (j0 "tuple" vs.toArray 0)).objs.size=dl s.heap.objs+1:=by rw[size_push',FI]
 refine aF (listItems_at k eH ?_);refine aF (cn k eH ?_ (by rw[bP,<- q];lia) (bZ _));refine aF (seqEpoch_at j eH ?_);refine aF (wpAny_newTuple ?_ (by show iN vs<=_;rw[<- q];lia));refine aF (gj ?_ (bZ _));refine al ?_
 exact aGb
  T (T.push { s with heap:=(s.heap.update a (i3 λ_=>((Ŭ []):Array á))).push (j0 "tuple" vs.toArray 0) } _ (T.push { s with heap:=s.heap.update a (i3 λ_=>((Ŭ []):Array á)) } _ (T.up s a _ s.toks u l (gB.update s.heap a (i3 λ_=>((Ŭ []):Array á))))))
  (bD _ eH) (aI _ (aI _ j)) (by rw[e];exact iF (uX r)) (by rw[e];exact aR l (iG (uX r))) l t b į h
def WI{l:à}{Q:á->ã->Prop}(T:X7 d lo)(v:d s)(r:s.heap.IsList l (aPe vs))(j:lo<=dl s.heap.objs)(e:iN g=iN vs)(b:iN vs<64)(į:mR prog w A.in1.in1 d lo f vs g)
  (h:∀p D out c J,d p->dl s.heap.objs<=D->p.heap.get? D=wz (j0 "list" out c)->QI (iN vs) (λi=>g.getD i 0) J->aO6 out=(J.map λi=>vs.getD i o0)->Q (g8 D) p) :
  å (ä prog w) A (call (mt "sorted") [g8 l] [(f8 "key",g8 f)]) Q E s:=by
 have q:(2:Nat)^24=bM:=rfl;refine call_function_entry_kw kind_sorted plain_sorted entry_sorted (ksk_s1 _ _) ?_;refine aF (aZ ?_);refine aF (collect_list r ?_ (by rw[<- q];lia));refine aF (gj ?_ (by rw[<- q];lia))
 have n:((s.heap.push (j0 "list" (Ŭ []) 0)).update s.heap.objs.size (i3 (·++aPe vs))).objs.size=dl s.heap.objs+1:=by
  rw[FI,size_push']
 have k:(((s.heap.push (j0 "list" (Ŭ []) 0)).update s.heap.objs.size (i3 (·++aPe vs))).push (j0 "list" vs.toArray 0)).get? (dl s.heap.objs+1)=wz (j0 "list" vs.toArray 0):=by
  rw[<- n];exact bD _ eH
 rw[n];refine aF (al (wpAny_call_entry_kw slot_list_sort #[Ϙ,_,k,1] entry_list_sort ?body (ksk_l1 _ _)))
 case body=>
  rw[ksk_t1];refine aGa T (T.push { s with heap:=(s.heap.push (j0 "list" (Ŭ []) 0)).update s.heap.objs.size (i3 (·++aPe vs)) } (j0 "list" vs.toArray 0) (T.up { s with heap:=s.heap.push (j0 "list" (Ŭ []) 0) } s.heap.objs.size _ s.toks (T.push s (j0 "list" (Ŭ []) 0) v) j (gB.update _ _ _))) k (EV j) e b į λp out c J x o u t=>#[Ϙ,02];exact aZ #[Ϙ,0,h p _ out c J x (pL _) o u t]
end
end SS
noncomputable section
def L2.ĳ:Option PySem.Addr:=wz 228
namespace L2
abbrev mR:=Sum Int â
def KD:mR->á->Bool
|t6 k,v=>Value.isInt k v
|fj x,v=>Value.isStrOf x v
def Nv(w:g6):mR->Int
|t6 k=>hashInt k
|fj x=>hashStr w x
def kH:∀{k v},KD k v=ww->(∃i t,k=t6 i/\v=u7 i t)\/(∃x t,k=fj x/\v=ck x t)
|t6 i,v,h=>Ë (Value.isInt_shape h) λt e=>j3 #[i,t,1,e]
|fj x,v,h=>Ë (Value.isStrOf_shape h) λt e=>i7 #[x,t,1,e]
def XH(i:Int)(t:Tok):KD (t6 i) (u7 i t)=true:=by simp[KD,Value.isInt]
def XG(x:â)(t:Tok):KD (fj x) (ck x t)=true:=by simp[KD,Value.isStrOf]
def aNn(a b:Int):decide ((t6 a:mR)=t6 b)=(a==b):=by
 by_cases e:a=b
 .subst e;simp
 .rw[c7 (λq=>e (bx q))];exact(beq_eq_false_iff_ne.mpr e).symm
def aNj(a b:â):decide ((fj a:mR)=fj b)=decide (a=b):=by
 by_cases e:a=b
 .subst e;simp
 .rw[c7 (λq=>e (Sum.inr.inj q)),c7 e]
def aNm(a:Int)(b:â):decide ((t6 a:mR)=fj b)=false:=c7 (λq=>nomatch q)
def aNk(a:â)(b:Int):decide ((fj a:mR)=t6 b)=false:=c7 (λq=>nomatch q)
def hV(prog:dF)(w:g6):PySem.KeyKind prog w mR where
 is:=KD
 hash:=Nv w
 inj:=λv a b ha hb=>by
  rcases kH ha with⟨i,t,rfl,rfl⟩ | ⟨x,t,rfl,rfl⟩
  .rcases kH hb with⟨j,u,rfl,e⟩ | ⟨y,u,rfl,e⟩
   .injection e with e1 _;rw[e1]
   .exact nomatch e
  .rcases kH hb with⟨j,u,rfl,e⟩ | ⟨y,u,rfl,e⟩
   .exact nomatch e
   .injection e with e1 _;rw[e1]
 byValue:=λk v h=>by
  rcases kH h with⟨i,t,rfl,rfl⟩ | ⟨x,t,rfl,rfl⟩<;>rfl
 pyHash:=λhv h=>by
  rcases kH hv with⟨i,t,rfl,rfl⟩ | ⟨x,t,rfl,rfl⟩
  .exact wpAny_pyHash_int h
  .exact wpAny_pyHash_str h
 eqBool:=λhu hv h=>by
  rcases kH hu with⟨i,t,rfl,rfl⟩ | ⟨x,t,rfl,rfl⟩
  .rcases kH hv with⟨j,u,rfl,rfl⟩ | ⟨y,u,rfl,rfl⟩
   .rw[aNn]at h;exact wpAny_eqBool_int h
   .rw[aNm]at h;exact ee i t y u _ _ _ _ h
  .rcases kH hv with⟨j,u,rfl,rfl⟩ | ⟨y,u,rfl,rfl⟩
   .rw[aNk]at h;exact ef x t j u _ _ _ _ h
   .rw[aNj]at h;exact wpAny_eqBool_str h
 «strs»:=λk x t v h=>by
  rcases kH h with⟨i,u,rfl,e⟩ | ⟨y,u,rfl,e⟩
  .exact nomatch e
  .injection e with e1 _
   subst e1;cases v<;>rfl
def OZ(prog:dF)(w:g6)(i:Int)(t:Tok):(hV prog w).is (t6 i) (u7 i t)=true:=XH i t
def OY(prog:dF)(w:g6)(x:â)(t:Tok):(hV prog w).is (fj x) (ck x t)=true:=XG x t
set_option genInjectivity true in
inductive V where
 |z8 | bl (b:Bool) | int (i:Int) | str (x:â) | byt (b:Array UInt8) | flt (b:UInt64) | ref (a:à) | ty (n:String)
 deriving DecidableEq
def gQ:V->á->Prop
|.z8,u=>u=o0
|.bl b,u=>u=dh b
|.int i,u=>∃t,u=u7 i t
|.str x,u=>∃t,u=ck x t
|.byt b,u=>∃t,u=Value.bytes b t
|.flt b,u=>∃t,u=Value.float b t
|.ref a,u=>u=g8 a
|.ty n,u=>u=fx n
abbrev fX:List V->List á->Prop:=Paired gQ
theorem fX.length{b:List V}{a:List á}(r:fX b a):iN b=iN a:=aw r
theorem fX.get:∀{xs us}{i:Nat}{x},fX xs us->xs[i]?=wz x->∃u,us[i]?=wz u/\gQ x u
|_,_,_,_,tj,e=>by simp at e
|_,_,0,_,.cons r _,e=>by simp at e;subst e;exact#[0,r]
|_,_,i+1,x,.cons _ t,e=>Ê (fX.get t (Á e)) λu a b=>#[u,Á a,b]
theorem fX.append{xs ys us ws}(h:fX xs us)(s:fX ys ws):fX (xs++ys) (us++ws):=by
 induction h with
 |nil=>exact s
 |cons r t n=>exact .cons r n
theorem fX.take:∀{b:List V}{a:List á}(n:Nat),fX b a->fX (b.take n) (a.take n)
|_,_,0,_=>tj
|_,_,_+1,tj=>tj
|_,_,n+1,.cons r t=>Cl r (fX.take n t)
theorem fX.drop:∀{b:List V}{a:List á}(n:Nat),fX b a->fX (b.drop n) (a.drop n)
|_,_,0,r=>r
|_,_,_+1,tj=>tj
|_,_,n+1,.cons _ t=>fX.drop n t
def zF:Option V->Option á->Prop
|some v,wz u=>gQ v u
|none,wx=>True
|_,_=>False
def KV{a:Type}:List (a×V)->List (a×á)->Prop:=Paired λ(p:a×V) (q:a×á)=>p.1=q.1/\gQ p.2 q.2
def kV:mR->V
|t6 i=>.int i
|fj x=>.str x
abbrev ź:=List (mR×V)
abbrev Ŷ:=List (â×V)
abbrev Ŵ:=List (List mR×V)
inductive HO where
 /-- a list -/
 |u8 (xs:List V)
 /-- a tuple (never changes) -/
 |ņ (xs:List V)
 /-- a dict whose Ŕ are ints and texts;one whose Ŕ are tuples of ints and texts (the empty one is both) -/
 |dK (bt:ź) | dT (bt:Ŵ)
 /-- a set of ints: dq members,dq size -/
 |set (S:Int->Bool) (n:Nat)
 /-- an instance of the class at C,dq dict at dx,dq attributes -/
 |Œ (C dx:à) (fs:Ŷ)
 /-- the dict of the instance at x -/
 |own (x:à)
 /-- the dict of an exception -/
 |xd (fs:Ŷ)
 /-- a bound method,f of x -/
 |met (f x:à)
 /-- a range object lo,lo+1,.. below hi -/
 |rng (lo hi:Int)
 /-- a thing that is known to the object (the script;a dict while a il walks it): read,never written while it is so -/
 |frz (o:Obj) (u:HO)
 /-- a code object's table -/
 |tbl (ps:Array á)
 /-- any other thing,by what is ww of dq one object (a def of pq own: SetO a S n:=HO.ext λh=>..) -/
 |ext (φ:ç->Prop)
abbrev Hp:=à->Option HO
def fU(H:Hp)(a:à)(o:HO):Hp:=λb=>if b=a then wz o else H b
def cL{a:à}:fU H a o a=wz o:=by unfold fU;rw[b8 rfl]
def cC{a b:à}(h:b≠a):fU H a o b=H b:=by unfold fU;rw[a9 h]
def Ra{H:Hp}{a b:à}{o u:HO}(h:H a=wz o)(c:H b=wz u)(d:o≠u):a≠b:=by
 intro e;subst e;rw[h]at c;exact d (d7 c)
def fD{H:Hp}{a b:à}{o:HO}(h:H a=wz o)(c:H b=wx):a≠b:=by
 intro e;subst e;rw[h]at c;cases c
section
variable(P:dF)(w:g6)
def JB(h:ç)(a:à)(b:Array á):Prop:=∃o,h.get? a=wz o/\o.cls=fx "tuple"/\∃n,o.data=Fr b n/\o.dict=wx
def JB.ņ{h}{a:à}(x:JB h a Ś):jo h a Ś:=let ⟨o,e,c,n,d,_⟩:=x;#[o,e,c,n,d]
theorem JB.lt{h:ç}{a:à}(x:JB h a Ś):a<dl h.objs:=x.ņ.lt
def JB.new(h:ç)(a:Array á):JB (h.push { cls:=fx "tuple",data:=Fr a }) h.objs.size a:=#[_,bD _ eH,101]
def Cq(a:Obj):Prop:=∃vs q t,a.data=.fields vs/\vs[1]?=wz (ck q t)
def lI(H:Hp)(h:ç)(a:à):HO->Prop
|.u8 d=>d.length<=bM/\∃(b:List á)(n:Nat),fX d b/\h.get? a=wz { cls:=.type "list",data:=.seq b.toArray n }
|.ņ d=>d.length<=bM/\∃b:List á,fX d b/\JB h a b.toArray
|.dK bt=>bt.length<=bM/\(a==n6)=wv/\∃vs,KV bt vs/\h.DictOf (hV P w) a vs
|.dT bt=>bt.length<=bM/\(a==n6)=wv/\∃d:List (List mR×à×á),
  Paired (λ(p:List mR×V) (q:List mR×à×á)=>p.1=q.1/\H q.2.1=wz (.ņ (p.1.map kV))/\gQ p.2 q.2.2) bt d /\
  ∃o i m,h.get? a=wz o/\o.ExactDict/\o.data=.dict i m/\i.toList=d.map (entryOfKey (dz (hV P w)))/\(d.map (·.1)).Nodup
|.set S n=>h.SetOf (intKind P w) a S n
|.Œ C dx fs=>H dx=wz (.own a)/\fs.length<=1000/\dx≠a/\h.get? a=wz (lA C dx) /\
  ∃e,h.Ns1 dx e/\(∀f,zF (fs.lookup f) (e f))/\eo e (fs.map (·.1))
|.own _=>∃o,h.get? a=wz o
|.xd fs=>∃e,h.Ns1 a e/\∀f,zF (fs.lookup f) (e f)
|.rng lo hi=>∃t u v,h.get? a=wz { cls:=.type "range",data:=.fields (Ŭ [.int lo t,.int hi u,.int 1 v]) }
|.frz o u=>h.get? a=wz o/\lI H h a u
|.tbl _=>∃qs:Array á,h.get? a=wz { cls:=.none,data:=.fields qs }/\TriplesOk qs.toList/\∀(p:Pos)(c:á),codeAmong p qs.toList=wz c->∃g l,c=.ref g/\H g=wz (.frz l (.own a))/\Cq l
|.met f x=>h.get? a=wz (PySem.W.methodObj (.ref f) (.ref x))
|.ext φ=>φ h/\(∃o,h.get? a=wz o)/\∀j k:ç,φ j->(∀o,j.get? a=wz o->k.get? a=wz o)->φ k
def rP(H:Hp)(h:ç):Prop:=∀a o,H a=wz o->lI P w H h a o
end
section
variable{P:dF}{w:g6}{H g:Hp}{h h':ç}{a:à}{o:HO}
theorem lI.lt(x:lI P w H h a o):a<dl h.objs:=by
 cases o with
 |u8 b=>exact Î x λ_ _ _ _ e=>bG e
 |ņ b=>exact Ï x λ_ _ _ p=>p.lt
 |dK bt=>exact Ð x λ_ _ _ _ z=>Ñ z λo _ _ e _=>bG e
 |dT bt=>exact Ð x λ_ _ _ _ z=>Ñ z λo _ _ e _=>bG e
 |set S n=>exact Ò x λo _ _ _ e _=>bG e
 |Œ C dx fs=>exact Ó x λ_ _ _ e _=>bG e
 |own y=>exact Ë x λ_ e=>bG e
 |xd fs=>obtain⟨_,⟨_,_,_,e,_⟩,_⟩:=x;exact bG e
 |rng lo c=>exact Ô x λ_ _ _ e=>bG e
 |frz ob u=>exact Ì x λe _=>bG e
 |tbl d=>exact Ê x λ_ e _=>bG e
 |met f y=>exact bG (show h.get? a=wz _ from x)
 |ext i=>obtain⟨_,⟨_,e⟩,_⟩:=x;exact bG e
theorem Paired.mapP{c d:Type}{F G:c->d->Prop}{l₁ l₂}(h:Paired F l₁ l₂)(f:∀a b,F a b->G a b):Paired G l₁ l₂:=by
 induction h with
 |nil=>exact .nil
 |cons r t n=>exact .cons (f _ _ r) n
def lI.Ĥ(x:lI P w H h a o)(k:∀b u,(b=a\/H b=wz (.own a))->h.get? b=wz u->h'.get? b=wz u)
  (F:∀b,H b=wz (.own a)->g b=wz (.own a)) (G:∀b m,H b=wz (.ņ m)->g b=wz (.ņ m)) (E:∀b ob u,H b=wz (.frz ob u)->g b=wz (.frz ob u):=by exactλ_ _ _ q=>q):lI P w g h' a o:=by
 induction o with
 |u8 m=>exact Î x λz l n r e=>#[z,l,n,r,k _ _ (j3 eH) e]
 |ņ m=>exact Ï x λz l r ψ=>Ê ψ λob e c=>#[z,l,r,ob,k _ _ (j3 eH) e,c]
 |dK bt=>exact Ð x λz y vs r ψ=>Ñ ψ λob j i e c=>#[z,y,vs,r,ob,j,i,k _ _ (j3 eH) e,c]
 |dT bt=>
  exact Ð x λz y m r ψ=>Ñ ψ λob j i e c=>#[z,y,m,Paired.mapP r λp q z=>#[z.1,G _ _ z.2.1,z.2.2],ob,j,i,k _ _ (j3 eH) e,c]
 |set S n=>exact Ò x λob j i t e c=>#[ob,j,i,t,k _ _ (j3 eH) e,c]
 |Œ C dx fs=>
  obtain⟨d,z,ne,e,s,⟨A,j,i,B,c⟩,r⟩:=x;exact#[F _ d,z,ne,k _ _ (j3 eH) e,s,#[ϟ,A,j,i,k _ _ (i7 d) B,c],r]
 |own y=>exact Ë x λob e=>#[ob,k _ _ (j3 eH) e]
 |xd fs=>obtain⟨s,⟨A,j,i,e,c⟩,r⟩:=x;exact#[s,#[ϟ,A,j,i,k _ _ (j3 eH) e,c],r]
 |rng lo J=>exact Ô x λt u v e=>#[t,u,v,k _ _ (j3 eH) e]
 |frz ob u I=>exact Ì x λe q=>#[k _ _ (j3 eH) e,I q]
 |tbl K=>
  exact Õ x λqs e t z=>#[ϙ,qs,k a _ (j3 eH) e,t,λp c q=>let ⟨c',oc,h1,h2,h3⟩:=z p c q;#[ϛ,c',oc,h1,E _ _ _ h2,h3]]
 |met f y=>
  have e:=x;exact k a _ (j3 eH) e
 |ext L=>obtain⟨p,⟨o,e⟩,st⟩:=x;exact#[st _ _ p λo q=>k _ _ (j3 eH) q,#[o,k _ _ (j3 eH) e],st]
theorem rP.lt(x:rP P w H h)(e:H a=wz o):a<dl h.objs:=(x a o e).lt
def rP.fresh(x:rP P w H h)(e:dl h.objs<=a):H a=none:=by
 cases q:H a with
 |none=>rfl
 |some u=>exact c9 (bX (x.lt q) e) (fK _)
def rP.œ(x:rP P w H h)(k:∀b u,h.get? b=wz u->h'.get? b=wz u):rP P w H h':=λa o e=>
 (x a o e).Ĥ (λb u _ q=>k b u q) (λ_ q=>q) λ_ _ q=>q
def rP.Ķ(x:rP P w H h)(k:∀b u,h.get? b=wz u->h'.get? b=wz u)(f:dl h.objs<=a)(new:lI P w (fU H a o) h' a o):rP P w (fU H a o) h':=λb u e=>by
 have d:=x.fresh f;by_cases hb:b=a
 .subst hb;rw[cL]at e;cases e;exact new
 .rw[cC hb]at e;exact(x b u e).Ĥ (λc v _ q=>k c v q) (λc q=>by rw[cC (fD q d)];exact q) (λc i q=>by rw[cC (fD q d)];exact q) λc ob v q=>by rw[cC (fD q d)];exact q
end
def Rd(H:Hp)(a:à)(u:HO):Prop:=H a=wz u\/∃o,H a=wz (.frz o u)
def Rd.ok{h}{a:à}(r:Rd H a u)(x:rP P w H h):lI P w H h a u:=by
 rcases r with r | ⟨o,r⟩
 .exact x a u r
 .exact Ì (x a _ r) λ_ q=>q
def zl:Option HO->Prop
|some (.u8 _)=>True
|some (.dK _)=>True
|some (.dT _)=>True
|some (.set _ _)=>True
|some (.Œ _ _ _)=>True
|some (.ext _)=>True
|_=>False
def rP.ĩ{P:dF}{w:g6}{H:Hp}{h a:ç}{x e:à}{d:HO}(ok:rP P w H h)(i:zl (H x))(l:e=x\/H e=wz (.own x))(k:∀b u,b≠e->h.get? b=wz u->a.get? b=wz u)(j:∃u,a.get? e=wz u)
  (new:lI P w (fU H x d) a x d):rP P w (fU H x d) a:=λb u q=>by
 have g:∀c y,H c=wz (.own y)->c≠x:=λc y r z=>by subst z;rw[r]at i;exact i
 by_cases hb:b=x
 .subst hb;rw[cL]at q;cases q;exact new
 .rw[cC hb]at q;by_cases f:b=e
  .have m:H b=wz (.own x):=by
    rcases l with z | z
    .exact c9 (f.trans z) hb
    .rw[f];exact z
   rw[q]at m;cases m;exact Ë j λv o=>#[v,by rw[f];exact o]
  .refine(ok b u q).Ĥ (λc v hc r=>k c v ?_ r) (λc r=>by rw[cC (g c b r)];exact r) (λc n r=>by rw[cC ((λc n r z=>by subst z;rw[r]at i;exact i) c n r)];exact r) λc ob v r=>by rw[cC (λz=>by subst z;rw[r]at i;exact i)];exact r
   rcases hc with rfl | hc
   .exact f
   .rintro rfl;rcases l with z | z
    .exact g c b hc z
    .rw[hc]at z;cases z;exact hb eH
structure Un(fs ex:List à)(H H':Hp)(h h':ç):Prop where
 keep:∀b o,h.get? b=wz o->H b=wx->b∉fs->b∉ex->h'.get? b=wz o
 slot:∀b o,h.get? b=wz o->H b=wx->b∈fs->b∉ex->∃sl,h'.get? b=wz { o with slots:=sl }
 free:∀b o,h.get? b=wz o->H b=wx->b∉ex->H' b=wx
 there:∀b o,h.get? b=wz o->b∉ex->∃o',h'.get? b=wz o'
 Ĵ:∀b xs,H b=wz (.ņ xs)->H' b=wz (.ņ xs)
 ĵ:∀b o u,H b=wz (.frz o u)->H' b=wz (.frz o u)
 ķ:∀b ps,H b=wz (.tbl ps)->∃more,H' b=wz (.tbl (ps++more))
section
variable{fs ex:List à}{H f g:Hp}{h d i h':ç}{a x e:à}{o:HO}
def Un.any(u:Un fs ex H f h d){b:à}(q:h.get? b=wz ob)(n:H b=wx)(c:b∉ex):∃j,d.get? b=wz { ob with slots:=j }:=by
 by_cases hb:b∈fs
 .exact u.slot b ob q n hb c
 .exact#[ob.slots,u.keep b ob q n hb c]
def Un.trans(a:Un fs ex H f h d)(b:Un fs ex f g d i):Un fs ex H g h i where
 keep:=λc ob q n hc hx=>b.keep c ob (a.keep c ob q n hc hx) (a.free c ob q n hx) hc hx
 slot:=λc ob q n hc hx=>Ë (a.slot c ob q n hc hx) λsl e1=>Ë (b.slot c _ e1 (a.free c ob q n hx) hc hx) λnz e2=>#[nz,e2]
 free:=λc ob q n hx=>Ë (a.there c ob q hx) λo' e1=>b.free c o' e1 (a.free c ob q n hx) hx
 there:=λc ob q hx=>Ë (a.there c ob q hx) λo' e1=>b.there c o' e1 hx
 Ĵ:=λc xs q=>b.Ĵ c xs (a.Ĵ c xs q)
 ĵ:=λc ob xs q=>b.ĵ c ob xs (a.ĵ c ob xs q)
 ķ:=λc ps q=>Ë (a.ķ c ps q) λm1 e1=>Ë (b.ķ c _ e1) λm2 e2=>#[m1++m2,by rw[e2,YN]]
def Un.œ(k:∀b u,h.get? b=wz u->h'.get? b=wz u):Un fs ex H H h h':=
 #[λb ob q _ _ _=>k b ob q,λb ob q _ _ _=>#[ob.slots,k b ob q],λ_ _ _ n _=>n,λb ob q _=>#[ob,k b ob q],λ_ _ q=>q,λ_ _ _ q=>q,λ_ c q=>#[(Ŭ []),by rw[q];simp]]
def Un.refl:Un fs ex H H h h:=Un.œ λ_ _ q=>q
def Un.Ķ(k:∀b u,h.get? b=wz u->h'.get? b=wz u)(hp:dl h.objs<=a)(hn:H a=wx):Un fs ex H (fU H a o) h h' where
 keep:=λb u q _ _ _=>k b u q
 slot:=λb u q _ _ _=>#[u.slots,k b u q]
 free:=λb u q n _=>by rw[cC (cO (bX (bG q) hp))];exact n
 there:=λb u q _=>#[u,k b u q]
 Ĵ:=λb xs q=>by rw[cC (fD q hn)];exact q
 ĵ:=λb u xs q=>by rw[cC (fD q hn)];exact q
 ķ:=λb ps q=>#[(Ŭ []),by rw[cC (fD q hn),q];simp]
def Un.ĩ(j:zl (H x))(s:e=x\/H e=wz (.own x))(k:∀b u,b≠e->h.get? b=wz u->h'.get? b=wz u)(l:∃u,h'.get? e=wz u):Un fs ex H (fU H x o) h h':=by
 have p:∀b,H b=wx->b≠x:=λb n z=>by subst z;rw[n]at j;exact j
 have hb:∀b,H b=wx->b≠e:=λb n z=>by
  subst z;rcases s with r | r
  .exact p b n r
  .rw[n]at r;cases r
 have m:∀b u,H b=wz u->¬zl (wz u)->b≠x:=λb u q nm z=>by subst z;rw[q]at j;exact nm j
 refine#[λb u q n _ _=>k b u (hb b n) q,λb u q n _ _=>#[u.slots,k b u (hb b n) q],λb u q n _=>by rw[cC (p b n)];exact n,λb u q _=>?_,
  λb t q=>by rw[cC (m b _ q λz=>z)];exact q,λb u t q=>by rw[cC (m b _ q λz=>z)];exact q,λb v q=>#[(Ŭ []),by rw[cC (m b _ q λz=>z),q];simp]]
 by_cases c:b=e
 .subst c;exact l
 .exact#[u,k b u c q]
end
def trk(h:ç)(H:Hp):List Addr:=(eZ h.objs.size).filter λa=>(H a).isSome
def MU(h:ç)(H:Hp):Heap:=PySem.W.hideAll h (trk h H)
def XN(h:ç)(H:Hp):(MU h H).objs.size=dl h.objs:=PySem.W.hideAll_size _ _
def aC4{h:ç}{b:à}(e:h.get? b=wz o)(n:H b=wx):(MU h H).get? b=wz o:=
 PySem.W.hideAll_get _ e λa=>by
  have q:=(cD.mp a).2;rw[n]at q;simp at q
def aHa{h:ç}{H:Hp}{b:à}(e:(MU h H).get? b=wz o):h.get? b=wz o/\H b=none:=by
 have a:=PySem.W.of_hideAll (trk h H) e;refine#[a,2]
 cases q:H b with
 |none=>rfl
 |some x=>
  have z:(MU h H).get? b=none:=PySem.W.hideAll_none (trk h H) (cD.mpr #[oE.mpr (bG a),by simp[q]]);rw[z]at e;cases e
abbrev Ž:=List (à×Obj)
def aI0(g h:ç)(L:à):Ž:=(eZ h.objs.size).filterMap λa=>if a=L\/(g.get? a).isSome=ww then wx else(h.get? a).map λo=>(a,o)
def jU(g h:ç)(L d:à):Ž:=(aI0 g h L).filter λp=>decide (p.1≠d)
structure Mod(K:aH)(mg:â->Option á)(base:ç):Prop where
 kin:K.In base
 ġ:base.Ns iR mg
 blt:∃mb,base.Ns t9 mb/\∀x:â,x≠"__name__"->mb x=f6 x
 nolimit:base.NoLimit
 bmod:∃bm o,mg "__builtins__"=wz (.ref bm)/\bm≠t9/\base.get? bm=wz o/\o.cls=.type "module"/\o.dict=wz t9/\o.data=.plain
structure Cx where
 prog:dF
 w:g6
 K:aH
 mg:â->Option á
 base:ç
 A:g3
 N:List â
 Ņ:ã
 H₀:Hp
 ak:Env
 ag:List Env
 stack:List Env
 ex:List à
 fn:â->Bool
 Ň:Bool
 pn:Ž
 xe:á->ã->Prop
def uM(l:List Env):List Addr:=l.filterMap (·.frame)
abbrev Cx.fs(X:Cx):List Addr:=uM X.ag
def zh(a:Scope)(x:â):Prop:=a.names.lookup x=wz .local\/a.names.lookup x=wz f7\/a.names.lookup x=wz g9
def YV(a:Scope)(x:â):Prop:=a.names.lookup x=wz .local\/a.names.lookup x=wz f7
def Oj(ak:Env)(h:ç)(m:â->Option á)(x:â)(u:á):Prop:=
 (ak.kindOf x=wz .local/\m x=wz u)\/((ak.kindOf x=wz f7\/ak.kindOf x=wz g9)/\∃c,ak.cells.lookup x=wz c/\h.IsCell c (wz u))
def Tb(H:Hp):Prop:=∀P,ĳ=wz P->∃a,H P=wz (.tbl a)
structure Cx.Ok(X:Cx):Prop where
 mod:Mod X.K X.mg X.base
 kind:X.ak.scope.kind=.function
 ġ:X.ak.globals=iR
 blt:X.ak.builtins=t9
 above:X.Ņ.heap.objs.size<=X.ak.locals
 inj:∀x y c,X.ak.cells.lookup x=wz c->X.ak.cells.lookup y=wz c->x=y
 has:∀x,(X.ak.kindOf x=wz .cell\/X.ak.kindOf x=wz .free)->∃c,X.ak.cells.lookup x=wz c
 cab:∀x c,X.fn x=ww->X.ak.cells.lookup x=wz c->X.Ņ.heap.objs.size<=c
 hd:X.Ň=ww->X.A.handled=wx
 frames:X.A.frames=wz X.stack
 stk:X.stack=X.ag\/(X.stack=X.ak::X.ag/\X.ak.frame=wz X.ak.locals)
 exf:∀b∈X.ex,b≠X.ak.locals/\∀x c,X.ak.cells.lookup x=wz c->c≠b
 bs:∀b o,X.base.get? b=wz o->X.Ņ.heap.get? b=wz o/\X.H₀ b=wx
 bsz:X.base.objs.size<=X.Ņ.heap.objs.size
 noex:∀b o,X.base.get? b=wz o->b∉X.ex
 exfs:∀b∈X.ex,b∉X.fs
 Ğ:X.Ņ.heap.FunFrames X.base X.ag
 frf:∀b∈X.fs,X.H₀ b=wx
 tab:Tb X.H₀
structure dS(X:Cx)(pins:Ž)(σ:List (Option V))(H:Hp)(s:ã):Prop where
 ok:X.Ok
 os:s.os=X.Ņ.os
 ŕ:z7 s.gens
 base:Un X.fs X.ex X.H₀ H X.Ņ.heap s.heap
 loc:∃m,s.heap.Ns X.ak.locals m/\∀(i:Nat)(x:â)(v:V),X.N[i]?=wz x->σ[i]?=wz (wz v)->zh X.ak.scope x->∃u,gQ v u/\Oj X.ak s.heap m x u
 cell:∀x c,X.ak.cells.lookup x=wz c->∃v,s.heap.IsCell c v
 free:H X.ak.locals=wx
 Ĺ:∀x c,X.ak.cells.lookup x=wz c->H c=wx
 pin:∀p∈X.pn++pins,s.heap.get? p.1=wz p.2/\H p.1=wx/\p.1≠X.ak.locals/\p.1∉X.fs/\∀v,p.2.data≠.cell v
 gs:rP X.prog X.w H s.heap
 len:σ.length=X.N.length
section
variable{X:Cx}{f:Ž}{g:List (Option V)}{H H':Hp}{s:ã}{h':ç}
def Cx.Ok.nofr(ok:X.Ok){b:à}(e:X.base.get? b=wz o):b∉X.fs:=λhb=>by
 have:=(ok.Ğ.mem hb).1;rw[e]at this;cases this
theorem dS.bs(I:dS X f g H s):∀b o,X.base.get? b=wz o->s.heap.get? b=wz o/\H b=none:=λb o e=>
 #[I.base.keep b o (I.ok.bs b o e).1 (I.ok.bs b o e).2 (I.ok.nofr e) (I.ok.noex b o e),I.base.free b o (I.ok.bs b o e).1 (I.ok.bs b o e).2 (I.ok.noex b o e)]
def dS.bk(I:dS X f g H s):∀b o,X.base.get? b=wz o->s.heap.get? b=wz o:=λb o e=>(I.bs b o e).1
theorem dS.mod(I:dS X f g H s):Mod X.K X.mg X.base:=I.ok.mod
def dS.kIn(I:dS X f g H s):X.K.In s.heap:=I.ok.mod.kin.keeps I.bk
theorem dS.nolimit(I:dS X f g H s):s.heap.NoLimit:=I.ok.mod.nolimit.keeps I.bk
theorem dS.lt(I:dS X f g H s):X.ak.locals<dl s.heap.objs:=let ⟨_,hn,_⟩:=I.loc;hn.lt
def dS.sz(I:dS X f g H s):dl X.Ņ.heap.objs<=dl s.heap.objs:=aR I.ok.above (iG I.lt)
def dS.nofs(I:dS X f g H s){a:à}(h:dl s.heap.objs<=a):a∉X.fs:=λhb=>Ï (I.ok.Ğ.mem hb) λ_ o b _=>c9 (bX (bG b) (aR I.sz h)) (fK _)
def dS.cne(I:dS X f g H s):∀x c,X.ak.cells.lookup x=wz c->c≠X.ak.locals:=λx c e z=>Ö (I.cell x c e) λv o d hd=>by obtain⟨m,⟨j,i,h,b,a,_⟩,_⟩:=I.loc;rw[z,b]at d;cases d;rw[a]at hd;cases hd
theorem dS.Ğ(I:dS X f g H s):s.heap.FunFrames X.base X.ag:=by
 have all:∀l,(∀b∈uM l,b∈X.fs)->X.Ņ.heap.FunFrames X.base l->s.heap.FunFrames X.base l:=by
  intro l
  induction l with
  |nil=>intro _ _;trivial
  |cons ak r n=>
   intro d i;obtain⟨h,⟨L,o,c,j,k,hd⟩,m⟩:=i;have a:=d L (by unfold uM;rw[mE,c];exact aJ);exact Ë (I.base.slot L o k (I.ok.frf L a) a λz=>I.ok.exfs L z a) λp e=>#[h,#[Ϝ,L,_,c,j,e,hd],n (λb hb=>d b (by unfold uM;rw[mE,c];exact aE _ hb)) m]
 exact all X.ag (λ_ hb=>hb) I.ok.Ğ
theorem dS.stack(I:dS X f g H s):s.heap.FunFrames X.base X.stack:=by
 rcases I.ok.stk with e | ⟨e,a⟩
 .rw[e];exact I.Ğ
 .rw[e];refine Ê I.loc λm b _=>.cons (by rw[I.ok.kind];decide) a b ?_ I.Ğ;exact rD (aR I.ok.bsz I.ok.above)
def dS.Ĳ(I:dS X f g H s):∀b∈uM X.stack,b∈X.ak.locals::X.fs:=λb hb=>by
 rcases I.ok.stk with e | ⟨e,a⟩
 .rw[e]at hb;exact aE _ hb
 .rw[e]at hb;unfold uM at hb;rw[mE,a]at hb;exact hb
def dS.stkFree(I:dS X f g H s):∀b∈uM X.stack,H b=none:=λb hb=>by
 rcases aN.mp (I.Ĳ b hb)with e | hb
 .rw[e];exact I.free
 .exact Ï (I.ok.Ğ.mem hb) λ_ o a _=>I.base.free b o a (I.ok.frf b hb) λz=>I.ok.exfs b z hb
def dS.step{M:Array GenState}{Z:Nat}{Q:Drawn}{ch:List à}(I:dS X f g H s)
  (j:∀b∈ch,(b∈X.ex\/dl X.Ņ.heap.objs<=b)/\b≠X.ak.locals/\(∀x c,X.ak.cells.lookup x=wz c->c≠b)/\∀p∈X.pn++f,p.1≠b)
  (keep:∀b o,b≠X.ak.locals->b∉X.fs->b∉ch->s.heap.get? b=wz o->H b=wx->h'.get? b=wz o)
  (slot:∀b o,b≠X.ak.locals->b∈X.fs->b∉ch->s.heap.get? b=wz o->H b=wx->∃K,h'.get? b=wz { o with slots:=K }) (free:∀b o,b∉ch->s.heap.get? b=wz o->H b=wx->H' b=wx)
  (there:∀b o,b∉ch->s.heap.get? b=wz o->∃G,h'.get? b=wz G)
  (Ĵ:∀b B,H b=wz (.ņ B)->H' b=wz (.ņ B)) (ĵ:∀b o u,H b=wz (.frz o u)->H' b=wz (.frz o u)) (ķ:∀b J,H b=wz (.tbl J)->∃more,H' b=wz (.tbl (J++more)))
  (ns:∀m,s.heap.Ns X.ak.locals m->h'.Ns X.ak.locals m) (gs:rP X.prog X.w H' h') (S:z7 M) :
  dS X f g H' { s with heap:=h',gens:=M,drawn:=Q,toks:=Z }:=by
 have F:∀b o,X.Ņ.heap.get? b=wz o->b≠X.ak.locals:=λb o e=>cO (bX (bG e) I.ok.above)
 have A:∀b o,X.Ņ.heap.get? b=wz o->b∉X.ex->b∉ch:=λb o e a hb=>by
  rcases(j b hb).1 with z | z
  .exact a z
  .exact c9 (bX (bG e) z) (fK _)
 have h:∀x c,X.ak.cells.lookup x=wz c->∀v,s.heap.IsCell c v->h'.IsCell c v:=λx c e v #[o,C,hd]=>by
  have t:=λz=>(j c z).2.2.1 x c e eH;by_cases N:c∈X.fs
  .exact Ë (slot c o (I.cne x c e) N t C (I.Ĺ x c e)) λK q=>#[Ϙ,_,q,hd]
  .exact#[Ϙ,o,keep c o (I.cne x c e) N t C (I.Ĺ x c e),hd]
 refine#[I.ok,I.os,S,#[λb o e n hb a=>?_,λb o e n hb a=>?_,λb o e n a=>?_,λb o e a=>?_,λb B e=>Ĵ b B (I.base.Ĵ b B e),λb o B e=>ĵ b o B (I.base.ĵ b o B e),λb J e=>?_],2,λx c e=>?_,2,λx c e=>?_,λp O=>?_,gs,I.len]
 .exact keep b o (F b o e) hb (A b o e a) (I.base.keep b o e n hb a) (I.base.free b o e n a)
 .exact Ë (I.base.slot b o e n hb a) λK y=>Ë (slot b _ (F b o e) hb (A b o e a) y (I.base.free b o e n a)) λL E=>#[L,E]
 .exact Ë (I.base.there b o e a) λG y=>free b G (A b o e a) y (I.base.free b o e n a)
 .exact Ë (I.base.there b o e a) λG y=>there b G (A b o e a) y
 .exact Ë (I.base.ķ b J e) λW y=>Ë (ķ b _ y) λY E=>#[W++Y,by rw[E,YN]]
 .refine Ê I.loc λm U T=>#[Ϙ,m,ns m U,λi x v y E R=>?_];refine Ê (T i x v y E R) λu r l=>#[Ϙ,u,r,2];rcases l with l | ⟨k,c,e,z⟩
  .exact j3 l
  .exact i7 #[k,c,e,h x c e _ z]
 .exact Ë (I.cell x c e) λv z=>#[v,h x c e v z]
 .obtain⟨m,⟨o,_,_,C,_⟩,_⟩:=I.loc;exact free _ o (λz=>(j _ z).2.1 eH) C I.free
 .exact Ö (I.cell x c e) λv o C hd=>free c o (λz=>(j c z).2.2.1 x c e eH) C (I.Ĺ x c e)
 .refine Ó (I.pin p O) λe n ne P d=>?_;have t:=λz=>(j p.1 z).2.2.2 p O eH;exact#[keep p.1 p.2 ne P t e n,free p.1 p.2 t e n,ne,P,d]
def dS.un{t':Nat}(I:dS X f g H s)(u:Un X.fs [] H H' s.heap h')(gs:rP X.prog X.w H' h'):dS X f g H' { s with heap:=h',toks:=t' }:=by
 obtain⟨m,⟨o,p,l,h,r⟩,_⟩:=id I.loc;exact Ë (u.any h I.free dN) λv i=>I.step (ch:=[]) (λ_ z=>nomatch z) (λb o _ hb _ e n=>u.keep b o e n hb dN) (λb o _ hb _ e n=>u.slot b o e n hb dN) (λb o _ e n=>u.free b o e n dN) (λb o _ e=>u.there b o e dN) u.Ĵ u.ĵ u.ķ (λq j=>Ñ j λt d c a k=>by rw[h]at a;cases a;exact#[ϟ,_,d,c,i,k]) gs I.ŕ
def dS.call{q:Array GenState}{C:Nat}{v:Drawn}{l:List à}(I:dS X f g H s)(u:Un (uM X.stack) l H H' s.heap h')(gs:rP X.prog X.w H' h')(y:z7 q)
  (d:∀b∈l,(b∈X.ex\/dl X.Ņ.heap.objs<=b)/\b≠X.ak.locals/\(∀x c,X.ak.cells.lookup x=wz c->c≠b)/\∀p∈X.pn++f,p.1≠b) :
  dS X f g H' { s with heap:=h',gens:=q,drawn:=v,toks:=C }:=by
 obtain⟨m,⟨o,F,E,t,r⟩,_⟩:=id I.loc;exact Ë (u.any t I.free λz=>(d _ z).2.1 eH) λK k=>I.step d (λb o k hb a e n=>u.keep b o e n (λz=>(aN.mp (I.Ĳ b z)).elim k hb) a) (λb o _ _ a e n=>u.any e n a) (λb o a e n=>u.free b o e n a) (λb o a e=>u.there b o e a) u.Ĵ u.ĵ u.ķ (λG A=>Ñ A λJ j i h B=>by rw[t]at h;cases h;exact#[ϟ,_,j,i,k,B]) gs y
def dS.ĸ{t':Nat}{a:à}(I:dS X f g H s)(k:∀b o,b≠a->s.heap.get? b=wz o->h'.get? b=wz o)(B:H a=wx)(i:a≠X.ak.locals)
  (t:a∈X.ex\/dl X.Ņ.heap.objs<=a) (w:∀x c,X.ak.cells.lookup x=wz c->c≠a) (y:∀p∈X.pn++f,p.1≠a):dS X f g H { s with heap:=h',toks:=t' }:=by
 have h:∀b u,H b=wz u->b≠a:=λb u e z=>by rw[z,B]at e;cases e
 refine I.step (ch:=[a]) (λb hb=>?_) (λb o _ _ d e _=>k b o (λz=>d (by simp[z])) e) (λb o _ _ d e _=>#[o.slots,k b o (λz=>d (by simp[z])) e]) (λ_ _ _ _ n=>n)
  (λb o d e=>#[o,k b o (λz=>d (by simp[z])) e]) (λ_ _ e=>e) (λ_ _ _ e=>e) (λb E e=>#[(Ŭ []),by rw[e];simp]) (λm A=>?_) (λb u e=>?_) I.ŕ
 .have e:b=a:=Á hb
  subst e;exact#[t,i,w,y]
 .exact Ñ A λo l j C r=>#[ϟ,o,l,j,k _ o (j6 i) C,r]
 .refine(I.gs b u e).Ĥ (λc v d q=>k c v ?_ q) (λ_ q=>q) λ_ _ q=>q;rcases d with z | z
  .rw[z];exact h b u e
  .exact h c _ z
def dS.Ĭ(I:dS X f g H s)(t:Nat):dS X f g H { s with toks:=t }:=I.un Un.refl I.gs
theorem dS.œ{t':Nat}(I:dS X f g H s)(k:∀b u,s.heap.get? b=wz u->h'.get? b=wz u):dS X f g H { s with heap:=h',toks:=t' }:=I.un (Un.œ k) (I.gs.œ k)
theorem dS.Ķ{a:à}{t':Nat}(I:dS X f g H s)(k:∀b u,s.heap.get? b=wz u->h'.get? b=wz u)(c:dl s.heap.objs<=a)(new:lI X.prog X.w (fU H a o) h' a o) :
  dS X f g (fU H a o) { s with heap:=h',toks:=t' }:=I.un (Un.Ķ k c (I.gs.fresh c)) (I.gs.Ķ k c new)
theorem dS.ĩ{x e:à}{h:Nat}(I:dS X f g H s)(d:zl (H x))(c:e=x\/H e=wz (.own x))(k:∀b u,b≠e->s.heap.get? b=wz u->h'.get? b=wz u)(a:∃u,h'.get? e=wz u)
  (new:lI X.prog X.w (fU H x o) h' x o):dS X f g (fU H x o) { s with heap:=h',toks:=h }:=I.un (Un.ĩ d c k a) (I.gs.ĩ d c k a new)
def dS.pins_of(I:dS X f g H s)(h:∀p∈pins',s.heap.get? p.1=wz p.2/\H p.1=wx/\p.1≠X.ak.locals/\p.1∉X.fs/\∀v,p.2.data≠.cell v):dS X pins' g H s:=
 #[I.ok,I.os,I.ŕ,I.base,I.loc,I.cell,I.free,I.Ĺ,λp a=>(bK.mp a).elim (λz=>I.pin p (gH _ z)) (h p),I.gs,I.len]
def GM{N:List â}(e:aYv N){i j:Nat}(a:N[i]?=wz x)(b:N[j]?=wz x):i=j:=Ë (aD.mp a) λh c=>Ë (aD.mp b) λk d=>(aFc e).mp (c.trans d.symm)
abbrev ŭ(X:Cx)(x):=X.fn x=ww\/X.ak.scope.names.lookup x=wz .local
def JT{E:á->ã->Prop}{i:Nat}{v}{Q:Unit->ã->Prop}(I:dS X f g H s)(hN:aYv X.N)(S:X.N[i]?=wz x)(C:YV X.ak.scope x)(r:gQ v u)
  (h:∀s',dS X f (g.set i (wz v)) H s'->(∃a,gB a s.heap s'.heap/\(a=X.ak.locals\/X.ak.cells.lookup x=wz a))->Q () s') (hf:ŭ X x|>Ŧ):å M A (storeName X.ak x u) Q E s:=Ê (id I.loc) λm hn hl=>by
 have R:(X.ak.scope.kind==.class||(X.ak.scope.kind==.module&&X.ak.locals != X.ak.globals))=false:=by rw[I.ok.kind];rfl
 have J:i<iN g:=by rw[I.len];exact(aD.mp S).1
 have cne:=I.cne
 have B:∀{a:à}{h':ç},(∃o,s.heap.get? a=wz o/\H a=wx)->gB a s.heap h'->rP X.prog X.w H h':=λ{a h'} ha l b ob e=>Ê ha λ_ _ F=>by
  refine(I.gs b ob e).Ĥ (λc Y hc q=>(l.2 c ?_).trans q) (λ_ q=>q) λ_ _ q=>q;rintro rfl;rcases hc with rfl | hc
  .rw[F]at e;cases e
  .rw[F]at hc;cases hc
 rcases C with hk | hk
 .refine wpAny_storeName_local hk hn (λh' tm l=>?_) R;refine Ñ (id hn) λoL _ _ tz _=>h _ #[I.ok,I.os,I.ŕ,#[λb o e n hb C=>?_,λb o e n hb C=>?_,I.base.free,λb o e C=>?_,I.base.Ĵ,I.base.ĵ,I.base.ķ],#[Ϙ,_,tm,λj y v' t G Z=>?_],λy c e=>?_,I.free,I.Ĺ,λp hp=>?_,B #[Ϙ,oL,tz,I.free] l,Á I.len] #[Ϙ,_,l,j3 eH]
  .exact(l.2 b (cO (bX (bG e) I.ok.above))).trans (I.base.keep b o e n hb C)
  .exact Ë (I.base.slot b o e n hb C) λsl t=>#[sl,(l.2 b (cO (bX (bG e) I.ok.above))).trans t]
  .exact Ë (I.base.there b o e C) λo' t=>#[o',(l.2 b (cO (bX (bG e) I.ok.above))).trans t]
  .by_cases L:j=i
   .subst L;rw[S]at t;cases t;rw[bI J]at G;cases G;exact#[Ϙ,u,r,j3 #[hk,dN]]
   .rw[aY (j6 L)]at G;refine Ê (hl j y v' t G Z) λu' r' q=>#[Ϙ,u',r',2];rcases q with⟨k,e⟩ | ⟨k,c,e,z⟩
    .refine j3 #[k,2];have:y≠x:=λe=>L (GM hN t (e▸S));simp[this,e]
    .exact i7 #[k,c,e,z.sameBut l (cne y c e)]
  .exact Ë (I.cell y c e) λY z=>#[Y,z.sameBut l (cne y c e)]
  .exact Ó (I.pin p hp) λe n ne nf d=>#[(l.2 p.1 ne).trans e,n,ne,nf,d]
 .have K:X.fn x=true:=by
   rcases hf with z | z
   .exact z
   .rw[z]at hk;cases hk
  refine Ë (I.ok.has x (j3 hk)) λc hc=>Ë (I.cell x c hc) λY z=>wpAny_storeName_cell I.ok.kind hk hc z (λh' O l=>?_);refine Ê (id z) λoc T U=>h { s with heap:=h' } #[I.ok,I.os,I.ŕ,#[λb o e n hb C=>?_,λb o e n hb C=>?_,I.base.free,λb o e C=>?_,I.base.Ĵ,I.base.ĵ,I.base.ķ],#[Ϙ,m,hn.sameBut l (j6 (cne x c hc)),λj y v' t G Z=>?_],λy W e=>?_,I.free,I.Ĺ,λp hp=>?_,B #[Ϙ,oc,T,I.Ĺ x c hc] l,Á I.len] #[Ϙ,c,l,i7 hc]
  .exact(l.2 b (cO (bX (bG e) (I.ok.cab x c K hc)))).trans (I.base.keep b o e n hb C)
  .exact Ë (I.base.slot b o e n hb C) λsl t=>#[sl,(l.2 b (cO (bX (bG e) (I.ok.cab x c K hc)))).trans t]
  .exact Ë (I.base.there b o e C) λo' t=>#[o',(l.2 b (cO (bX (bG e) (I.ok.cab x c K hc)))).trans t]
  .by_cases L:j=i
   .subst L;rw[S]at t;cases t;rw[bI J]at G;cases G;exact#[Ϙ,u,r,i7 #[j3 hk,c,hc,O]]
   .rw[aY (j6 L)]at G;refine Ê (hl j y v' t G Z) λu' r' q=>#[Ϙ,u',r',2];rcases q with q | ⟨k,W,e,z'⟩
    .exact j3 q
    .refine i7 #[k,W,e,z'.sameBut l ?_];rintro rfl;exact L (GM hN t (I.ok.inj _ _ _ e hc▸S))
  .by_cases P:W=c
   .subst P;exact#[_,O]
   .exact Ë (I.cell y W e) λw2 z2=>#[w2,z2.sameBut l P]
  .refine Ó (I.pin p hp) λe n ne nf d=>#[(l.2 p.1 ?_).trans e,n,ne,nf,d];intro q;rw[q,T]at e;exact d Y (by rw[<- (d7 e)];exact U)
def FV{E:á->ã->Prop}{i:Nat}{v}{Q:Unit->ã->Prop}(I:dS X f g H s)(c:aYv X.N)(e:X.N[i]?=wz x)(j:YV X.ak.scope x)(r:gQ v u)
  (h:∀a,dS X f (g.set i (wz v)) H a->Q () a) (d:ŭ X x|>Ŧ):å M A (storeName X.ak x u) Q E s:=
 JT I c e j r (λa b _=>h a b) d
def dS.call'{a:ã}(I:dS X f g H s)(h:a.os=s.os)(u:Un (uM X.stack) ch H H' s.heap a.heap)(gs:rP X.prog X.w H' a.heap)(e:z7 a.gens)
  (d:∀b∈ch,(b∈X.ex\/dl X.Ņ.heap.objs<=b)/\b≠X.ak.locals/\(∀x c,X.ak.cells.lookup x=wz c->c≠b)/\∀p∈X.pn++f,p.1≠b):dS X f g H' a:=by
 obtain⟨h',j,i,l,k⟩:=a;subst h;exact I.call u gs e d
end
abbrev XK:=á->Option à->Hp->Prop
abbrev St:=List (Option V)
abbrev VK:=V->Hp->Prop
abbrev TE:=St->Hp->VK->Prop
abbrev TT:=St->Hp->(Bool->Hp->Prop)->Prop
abbrev TA:=St->Hp->(List V->Hp->Prop)->Prop
structure aEv where
 nx:St->Hp->Prop
 rt:VK
 bk:St->Hp->Prop:=λ_ _=>False
 ct:St->Hp->Prop:=λ_ _=>False
abbrev TS:=aEv->St->Hp->Prop
def EP(X:Cx)(a:Ž)(d:St)(Q:VK)(u:á)(c:ã):Prop:=∃v b,dS X a d b c/\gQ v u/\Q v b
def TP(X:Cx)(a:Ž)(e:St)(Q:Bool->Hp->Prop)(b:Bool)(d:ã):Prop:=∃c,dS X a e c d/\Q b c
def AP(X:Cx)(a:Ž)(e:St)(Q:List V->Hp->Prop)(d:List á)(c:ã):Prop:=∃vs b,dS X a e b c/\fX vs d/\Q vs b
def SP(X:Cx)(b:Ž)(D:aEv)(f:Flow)(d:ã):Prop:=
 match f with
 |.next=>∃a c,dS X b a c d/\D.nx a c
 |.brk=>∃a c,dS X b a c d/\D.bk a c
 |.cont=>∃a c,dS X b a c d/\D.ct a c
 |.ret u=>∃v a c,dS X b a c d/\gQ v u/\D.rt v c
def PE(X:Cx)(e:æ)(t:TE):Prop:=
 ∀a s b H Q,dS X a b H s->t b H Q->å (ä X.prog X.w) X.A (è e X.ak) (EP X a b Q) X.xe s
def PT(X:Cx)(e:æ)(t:TT):Prop:=
 ∀a s b H Q,dS X a b H s->t b H Q->å (ä X.prog X.w) X.A (isTrue e X.ak (è e X.ak)) (TP X a b Q) X.xe s
def PW(X:Cx)(e:æ)(t:TT):Prop:=
 ∀ļ a s b H Q,dS X a b H s->t b H Q->å (ä X.prog X.w) X.A (isTrue e X.ak ļ) (TP X a b Q) X.xe s
def PW.pt(h:PW X e t):PT X e t:=h _
def PA(X:Cx)(c:List æ)(t:TA):Prop:=
 ∀pos a s b H Q,dS X a b H s->t b H Q->å (ä X.prog X.w) X.A (spliced (j7 pos (bR c X.ak))) (AP X a b Q) X.xe s
def PS(X:Cx)(st:é)(t:TS):Prop:=
 ∀a s b H D,dS X a b H s->t D b H->å (ä X.prog X.w) X.A (exec st X.ak) (SP X a D) X.xe s
def EK(X:Cx)(st:List é)(t:TS):Prop:=
 ∀a s b H D,dS X a b H s->t D b H->å (ä X.prog X.w) X.A (execs st X.ak) (SP X a D) X.xe s
def kN{d:Type}{t}{Q b:d->ã->Prop}{M A}{E:á->ã->Prop}{s}(h:å M A t Q E s)(c:∀a s,Q a s->b a s):å M A t b E s:=fG h c λ_ _ x=>x
section
variable{X:Cx}
def qQ(i:Nat):TE:=λa H Q=>∃v,a[i]?=wz (wz v)/\Q v H
def tC(v:V):TE:=λ_ H Q=>Q v H
abbrev Ů(x:â):=(x==("__debug__":â))=false
def La{i:Nat}{x:â}(g:X.N[i]?=wz x)(o:zh X.ak.scope x)(hd:Ů x|>Ū)(d:(x==("__classdict__":â))=false|>Ū):PE X (KK x pos) (qQ i):=by
 intro b s p H Q I h;refine Ê h λv e h=>Ê I.loc λm n j=>Ê (j i x v g e o) λu r l=>?_;have ő:EP X b p Q u s:=#[ϛ,v,H,I,r,h];rcases l with⟨hk,k⟩ | ⟨hk,c,f,a⟩
 .exact jk (wpAny_loadName_local I.ok.kind hk n k ő) hd
 .rcases hk with hk | hk
  .exact jk (wpAny_loadName_cell I.ok.kind hk f a ő) hd
  .exact jk (wpAny_loadName_free I.ok.kind hk f a ő d) hd
def AC:PE X (Tm (.int i) j pos) (tC (.int i)):=λ_ _ _ H _ I h=>wpAny_Constant_int #[ϛ,.int i,H,I.Ĭ _,#[0],h]
def Su:PE X (Tm (.bool b) j pos) (tC (.bl b)):=λ_ _ _ H _ I h=>Constant_bool #[ϛ,.bl b,H,I,1,h]
def aMy:PE X (Tm .none j pos) (tC .z8):=λ_ _ _ H _ I h=>Constant_none #[ϛ,.z8,H,I,1,h]
def aMw:PE X (Tm (.str x) j pos) (tC (.str x)):=λ_ _ _ H _ I h=>Calls.Constant_str #[ϛ,.str x,H,I.Ĭ _,#[0],h]
def Gl(X:Cx)(x:â):Prop:=X.ak.kindOf x=wz .globalImplicit
def yM{E:á->ã->Prop}{x:â}{Q:á->ã->Prop}(I:dS X pins σ H s)(a:Gl X x)(b:X.mg x=wz u)(h:Q u s)
  (hd:Ů x|>Ū):å (ä X.prog X.w) X.A (è (KK x pos) X.ak) Q E s:=
 cy I.ok.kind a (Calls.loadGlobal_global (by rw[I.ok.ġ];exact I.mod.ġ.keeps I.bk) b h) hd
def AH{E:á->ã->Prop}{x:â}{Q:á->ã->Prop}(I:dS X pins σ H s)(c:Gl X x)(d:X.mg x=wx)(f:f6 x=wz u)(h:Q u s)
  (e:x≠"__name__"|>Ū) (hd:Ů x|>Ū):å (ä X.prog X.w) X.A (è (KK x pos) X.ak) Q E s:=Ê I.mod.blt λg a b=>cy I.ok.kind c (Calls.loadGlobal_builtin (by rw[I.ok.ġ];exact I.mod.ġ.keeps I.bk) d (by rw[I.ok.blt];exact a.keeps I.bk) ((b x e).trans f) h) hd
def yH{x:â}{v}(a:Gl X x)(b:X.mg x=wz u)(r:gQ v u)(hd:Ů x|>Ū):PE X (KK x pos) (tC v):=
 λ_ _ _ H _ I h=>yM I a b #[ϛ,v,H,I,r,h] hd
def aG2{x:â}{v}(a:Gl X x)(b:X.mg x=wx)(d:f6 x=wz u)(r:gQ v u)(c:x≠"__name__"|>Ū)(hd:Ů x|>Ū):PE X (KK x pos) (tC v):=
 λ_ _ _ H _ I h=>AH I a b d #[ϛ,v,H,I,r,h] c hd
variable{a b:æ}{f k:TE}{pos:Pos}
def PC(X:Cx)(h:CmpOp)(a b:æ)(t:TE):Prop:=
 ∀c s g H Q,dS X c g H s->t g H Q ->
  å (ä X.prog X.w) X.A (è a X.ak) (λv d=>å (ä X.prog X.w) X.A (è b X.ak) (λu e=>å (ä X.prog X.w) X.A (e9 h v u) (EP X c g Q) X.xe e) X.xe d) X.xe s
def aBt(b:æ)(h:op≠.In)(e:op≠.NotIn):d8 op b=false:=by
 have c:(op==CmpOp.In)=false:=by cases op<;>first | rfl | exact c9 eH h
 have d:(op==CmpOp.NotIn)=false:=by cases op<;>first | rfl | exact c9 eH e
 cases b<;>simp[d8,c,d]
def tB(t:TE):TT:=λe H Q=>t e H λx d=>∃c,x=.bl c/\Q c d
def Ld(h:PC X op a b t)(g:d8 op b=false:=by first | exact aBt _ cS cS | rfl):PT X (Ty a [op] [b] pos) (tB t):=by
 intro e s o H Q I hw;refine ig (kN (h e s o H _ I hw) λv p g=>kN g λu r l=>kN l λc s3 n=>?_) g;let x i j m q1:=Ø n;let d z q:=Ê q1;subst z;cases m;exact h9 #[i,j,q]
def RC{e:æ}(h:PE X e t)(j:(∀ļ,isTrue e X.ak ļ=(do let v <- ļ;ff e.pos;fe [v] (truthy v)))|>ť):PT X e (tB t):=by
 intro c s n H Q I hw;refine isTrue_plain (kN (h c s n H _ I hw) λv o m=>?_) (j _);let x g i l q1:=Ø m;let d z q:=Ê q1;subst z;cases l;exact h9 #[g,i,q]
variable{g n:TT}{jU:List æ}
def Pc(t u:TT):TT:=λe H Q=>t e H λc d=>if c=ww then u e d Q else Q wv d
def Mg(t u:TT):TT:=λe H Q=>t e H λc d=>if c=ww then Q ww d else u e d Q
def Pf(t:TT):TT:=λe H Q=>t e H λc d=>Q (!c) d
def aGu(i:PT X a g):PW X (ÿ .And [a] pos) g:=by
 intro m d s j H Q I h;refine isTrue_and (kN (i d s j H Q I h) λc l e=>?_)
 cases c with
 |true=>exact isTrue_and_nil e
 |false=>exact e
def Lf(i:PT X a g):PW X (ÿ .Or [a] pos) g:=by
 intro m d s j H Q I h;refine isTrue_or (kN (i d s j H Q I h) λc l e=>?_)
 cases c with
 |false=>exact isTrue_or_nil e
 |true=>exact e
def aMu(l:PT X a g)(hb:PW X (ÿ .And (b::jU) pos) n):PW X (ÿ .And (a::b::jU) pos) (Pc g n):=by
 intro o d s j H Q I h;refine isTrue_and (kN (l d s j H _ I h) λc m p=>?_);let e i q1:=Ê p
 cases c with
 |true=>exact hb o d m j e Q i q1
 |false=>exact#[e,i,q1]
def Ib(l:PT X a g)(hb:PW X (ÿ .Or (b::jU) pos) n):PW X (ÿ .Or (a::b::jU) pos) (Mg g n):=by
 intro o d s j H Q I h;refine isTrue_or (kN (l d s j H _ I h) λc m p=>?_);let e i q1:=Ê p
 cases c with
 |true=>exact#[e,i,q1]
 |false=>exact hb o d m j e Q i q1
def Le(i:PT X a g):PT X (.UnaryOp .Not a pos) (Pf g):=by
 intro d s j H Q I h;exact isTrue_not (i d s j H (λc e=>Q (!c) e) I h)
def aP4(f k:TE):TE:=λe H Q=>f e H λx d=>∃c,x=.bl c/\if c=ww then k e d Q else Q (.bl wv) d
def Pg(f k:TE):TE:=λe H Q=>f e H λx d=>∃c,x=.bl c/\if c=ww then Q (.bl ww) d else k e d Q
def aP0(f:TE):TE:=λe H Q=>f e H λx d=>∃c,x=.bl c/\Q (.bl (!c)) d
def Lx(h:PE X a t):PE X (ÿ op [a] pos) t:=λc s d H Q I hw=>BoolOp_one (h c s d H Q I hw)
def Lu(l:PE X a f)(hb:PE X (ÿ .And (b::jU) pos) k):PE X (ÿ .And (a::b::jU) pos) (aP4 f k):=by
 intro d s j H Q I h;refine BoolOp_and (kN (l d s j H _ I h) λv o p=>?_);let x e i m q1:=Ø p;obtain⟨c,rfl,q1⟩:=q1;cases m;refine h9 ?_
 cases c with
 |true=>exact hb d o j e Q i q1
 |false=>exact#[ϛ,.bl wv,e,i,1,q1]
def Sw(l:PE X a f)(hb:PE X (ÿ .Or (b::jU) pos) k):PE X (ÿ .Or (a::b::jU) pos) (Pg f k):=by
 intro d s j H Q I h;refine BoolOp_or (kN (l d s j H _ I h) λv o p=>?_);let x e i m q1:=Ø p;obtain⟨c,rfl,q1⟩:=q1;cases m;refine h9 ?_
 cases c with
 |false=>exact hb d o j e Q i q1
 |true=>exact#[ϛ,.bl ww,e,i,1,q1]
def aMx(j:PE X a f):PE X (.UnaryOp .Not a pos) (aP0 f):=by
 intro d s o H Q I h;refine UnaryOp_ (kN (j d s o H _ I h) λv p m=>?_);let x e i l q1:=Ø m;obtain⟨c,rfl,q1⟩:=q1;cases l;exact not_of (h9 #[ϛ,.bl (!c),e,i,1,q1])
def Mh(t:TT)(f k:TE):TE:=λd H Q=>t d H λc e=>if c=ww then f d e Q else k d e Q
def aA3(p:PT X c g)(o:PE X a f)(hb:PE X b k):PE X (.IfExp c a b pos) (Mh g f k):=by
 intro e s i H Q I h;refine wpAny_IfExp (kN (p e s i H _ I h) λd m q=>?_);let j l q1:=Ê q
 cases d with
 |true=>exact o e m i j Q l q1
 |false=>exact hb e m i j Q l q1
end
def qE(K:aH)(H:Hp)(a:à)(c:List V):Prop:=
 Rd H a (.u8 c) \/
  ∃(o:Obj)(b:Array á)(n:Nat),K.lookup a=wz o/\o.cls=fx "list"/\(o.dict=wx/\o.slots=(Ŭ []))/\o.data=Fr b n/\dl b<=bM/\fX c (aO6 b)
def tV(K:aH)(H:Hp)(a:à)(c:List V):Prop:=
 Rd H a (.ņ c) \/
  ∃o b n,K.lookup a=wz o/\o.cls=fx "tuple"/\o.dict=wx/\o.data=.seq b n/\dl b<=bM/\fX c (aO6 b)
def Om:á->Option V
|o0=>wz .z8
|dh b=>wz (.bl b)
|u7 i _=>wz (.int i)
|ck x _=>wz (.str x)
|.bytes b _=>wz (.byt b)
|.float b _=>wz (.flt b)
|g8 a=>wz (.ref a)
|fx n=>wz (.ty n)
|_=>wx
def gQ.abs(r:gQ x u):Om u=wz x:=by
 cases x with
 |z8=>cases r;rfl
 |bl _=>cases r;rfl
 |int _=>refine Ù u r λt=>?_;rfl
 |str _=>refine Ù u r λt=>?_;rfl
 |byt _=>refine Ù u r λt=>?_;rfl
 |flt _=>refine Ù u r λt=>?_;rfl
 |ref _=>cases r;rfl
 |ty _=>cases r;rfl
theorem gQ.inj(r:gQ x u)(q:gQ y u):x=y:=d7 (r.abs.symm.trans q.abs)
theorem fX.inj{xs ys us}(h:fX xs us)(g:fX ys us):xs=ys:=by
 induction h generalizing ys with
 |nil=>cases g;rfl
 |cons r t n=>cases g with|cons a b=>rw[r.inj a,n b]
section
variable{X:Cx}{b:Ž}{g:St}{H:Hp}{s:ã}{a:à}{f i:List V}
def qE.of{K}(h:H a=wz (.u8 f)):qE K H a f:=j3 (j3 h)
def tV.of{K}(h:H a=wz (.ņ f)):tV K H a f:=j3 (j3 h)
theorem dS.list(I:dS X b g H s)(h:qE X.K H a f):∃c:List á,fX f c/\PlainL s.heap a (aPe c)/\iN f<=bM:=by
 rcases h with h | ⟨o,c,n,j,d,⟨hd,_⟩,k,l,r⟩
 .exact Î (h.ok I.gs) λz c n r e=>#[c,r,#[Ϝ,_,n,e,17],z]
 .refine#[aO6 c,r,#[Ϝ,o,n,I.kIn a o j,d,hd,Á k],2];have e:=r.length;simp only[eY]at e;lia
def dS.tuple(I:dS X b g H s)(h:tV X.K H a f):∃c,fX f c/\jo s.heap a (aPe c)/\iN f<=bM:=by
 rcases h with h | ⟨o,c,n,j,d,_,k,l,r⟩
 .exact Ï (h.ok I.gs) λz c r p=>#[c,r,p.ņ,z]
 .refine#[aO6 c,r,#[o,I.kIn a o j,d,n,Á k],2];have e:=r.length;simp only[eY]at e;lia
def dS.tupleN(I:dS X b g H s)(h:tV X.K H a f):∃o,s.heap.get? a=wz o/\o.cls=fx "tuple"/\o.dict=none:=by
 rcases h with h | ⟨o,j,n,l,k,hd,_⟩
 .obtain⟨z,j,r,⟨o,e,c,n,_,d⟩⟩:=h.ok I.gs;exact#[o,e,c,d]
 .exact#[o,I.kIn a o l,k,hd]
def dS.list_inj(I:dS X b g H s)(h:qE X.K H a f)(p:qE X.K H a i):f=i:=by
 obtain⟨j,r,⟨o,n,e,_,_,d⟩,_⟩:=I.list h;obtain⟨c,q,⟨u,t,l,_,_,k⟩,_⟩:=I.list p;rw[e]at l;cases l;rw[d]at k;injection k with m _
 have:j=c:=by simpa using d9 aO6 m
 subst this;exact r.inj q
def dS.tuple_inj(I:dS X b g H s)(h:tV X.K H a f)(p:tV X.K H a i):f=i:=by
 obtain⟨j,r,⟨o,e,_,n,d⟩,_⟩:=I.tuple h;obtain⟨c,q,⟨u,l,_,t,k⟩,_⟩:=I.tuple p;rw[e]at l;cases l;rw[d]at k;injection k with m _
 have:j=c:=by simpa using d9 aO6 m
 subst this;exact r.inj q
end
abbrev Cx.wish(X:Cx)(E:á->ã->Prop):Cx:={ X with xe:=E }
abbrev Cx.nox(X:Cx):Cx:=X.wish λ_ _=>False
theorem Cx.Ok.wish{X:Cx}(ok:X.Ok)(E:á->ã->Prop):(X.wish E).Ok:=
 #[ok.mod,ok.kind,ok.ġ,ok.blt,ok.above,ok.inj,ok.has,ok.cab,ok.hd,ok.frames,ok.stk,ok.exf,ok.bs,ok.bsz,ok.noex,ok.exfs,ok.Ğ,ok.frf,ok.tab]
def Cx.Ok.Į{X:Cx}{E:á->ã->Prop}(ok:(X.wish E).Ok):X.Ok:=
 #[ok.mod,ok.kind,ok.ġ,ok.blt,ok.above,ok.inj,ok.has,ok.cab,ok.hd,ok.frames,ok.stk,ok.exf,ok.bs,ok.bsz,ok.noex,ok.exfs,ok.Ğ,ok.frf,ok.tab]
section
variable{X:Cx}{a:Ž}{b:St}{H:Hp}{s:ã}{E:á->ã->Prop}
theorem dS.wish(I:dS X a b H s)(E:á->ã->Prop):dS (X.wish E) a b H s:=#[I.ok.wish E,I.os,I.ŕ,I.base,I.loc,I.cell,I.free,I.Ĺ,I.pin,I.gs,I.len]
theorem dS.Į(I:dS (X.wish E) a b H s):dS X a b H s:=#[I.ok.Į,I.os,I.ŕ,I.base,I.loc,I.cell,I.free,I.Ĺ,I.pin,I.gs,I.len]
theorem SP.Į{D}(h:SP (X.wish E) a D f s'):SP X a D f s':=by
 cases f with
 |next=>exact Ö h λc d I q=>#[c,d,I.Į,q]
 |brk=>exact Ö h λc d I q=>#[c,d,I.Į,q]
 |cont=>exact Ö h λc d I q=>#[c,d,I.Į,q]
 |ret u=>exact Ú h λv c d I r q=>#[Ϡ,v,c,d,I.Į,r,q]
theorem EK.nox{st}(h:EK X.nox st t):EK X st t:=λa s b H D I hw=>
 fG (h a s b H D (I.wish _) hw) (λ_ _ q=>q.Į) λ_ _ z=>i8 z
end
section
variable{X:Cx}{st:é}{jU:List é}{t u:TS}{e:æ}{g:TE}{pos:Pos}
def aP1:TS:=λD a H=>D.nx a H
def Q1(t u:TS):TS:=λD a H=>t { D with nx:=u D } a H
def UJ:EK X [] aP1:=λ_ _ a H _ I h=>z6 #[a,H,I,h]
def pA(i:PS X st t)(j:EK X jU u):EK X (st::jU) (Q1 t u):=by
 intro a s l H D I h;refine ea (kN (i a s l H { D with nx:=u D } I h) λf k q=>?_)
 cases f with
 |next=>
  exact Ö q λb c d q=>j a k b c D d q
 |ret v=>exact q
 |brk=>exact q
 |cont=>exact q
def E4(b:PS X st t):EK X [st] t:=by
 intro a s c H D I h;refine ea (kN (b a s c H D I h) λf d q=>?_)
 cases f with
 |next=>exact z6 q
 |ret v=>exact q
 |brk=>exact q
 |cont=>exact q
def dS.quiet(I:dS X pins σ H s):interactive X.ak=false:=by simp[interactive,I.ok.kind]
def JP(g:TE):TS:=λD a H=>g a H λ_ b=>D.nx a b
def eO(f:PE X e g)(i:lY e wx pos.line X.ak=pure false|>ũ):PS X (.Expr e pos) (JP g):=by
 intro a s b H D I h;exact wpAny_Expr_any (kN (f a s b H _ I h) λv k ξ=>Ø ξ λx c d j q1=>#[Ϛ,b,c,d,q1]) I.quiet i
def Ph(g:TE):TS:=λD a H=>g a H D.rt
def C1(f:PE X e g):PS X (.Return (wz e) pos) (Ph g):=by
 intro a s b H D I h;exact wpAny_Return_some (kN (f a s b H _ I h) λv j ξ=>Ø ξ λx c d i q1=>#[Ϡ,x,b,c,d,i,q1])
def Pd(c:TT)(t u:TS):TS:=λD a H=>c a H λb d=>if b=ww then t D a d else u D a d
def Ia(n:PT X c tc)(m:EK X a t)(hb:EK X b u):PS X (.If c a b pos) (Pd tc t u):=by
 intro f s i H D I h;refine wpAny_If (kN (n f s i H _ I h) λd l o=>?_);let j k q1:=Ê o
 cases d with
 |true=>exact m f l i j D k q1
 |false=>exact hb f l i j D k q1
end
abbrev TG:=V->St->Hp->(St->Hp->Prop)->Prop
abbrev zi:=List V->St->Hp->(St->Hp->Prop)->Prop
def PG(X:Cx)(a:æ)(t:TG):Prop:=
 ∀b s e H v u Q,dS X b e H s->gQ v u->t v e H Q ->
  å (ä X.prog X.w) X.A (assign a X.ak u) (λ_ f=>∃c d,dS X b c d f/\Q c d) X.xe s
def Ax(X:Cx)(g:List æ)(t:zi):Prop:=
 ∀a s e H vs d Q,dS X a e H s->fX vs d->t vs e H Q ->
  å (ä X.prog X.w) X.A (assignInOrder ((ay g X.ak).map (·.2)) d) (λ_ f=>∃b c,dS X a b c f/\Q b c) X.xe s
section
variable{X:Cx}{pos:Pos}
def mO(i:Nat):TG:=λv a H Q=>Q (a.set i (wz v)) H
def UM{i:Nat}(c:aYv X.N)(e:X.N[i]?=wz x)(f:YV X.ak.scope x)(d:ŭ X x|>Ŧ):PG X (KK x pos) (mO i):=by
 intro a s j H v u Q I r h;exact kd (FV I c e f r (λg b=>#[Ϛ,_,H,b,h]) d)
def Bs:zi:=λvs a H Q=>vs=[]/\Q a H
def KJ(t:TG)(u:zi):zi:=λvs c H Q=>∃v r,vs=v::r/\t v c H λa b=>u r a b Q
def kC:Ax X [] Bs:=by
 intro a s b H vs c Q I r h;obtain⟨e,h⟩:=h;subst e;cases r;exact assignInOrder_nil #[b,H,I,h]
def dI(g:PG X e t)(i:Ax X es u)
  (j:(ay (e::es) X.ak).map (·.2)=assign e X.ak::(ay es X.ak).map (·.2)|>ũ):Ax X (e::es) (KJ t u):=by
 intro a s n H vs o Q I r h;obtain⟨v,p,f,h⟩:=h;subst f
 cases r with
 |cons r k=>
  rw[j];refine assignInOrder_cons (kN (g a s n H _ _ _ I r h) λ_ l m=>?_);exact Ö m λb c d q1=>i a l b c _ _ Q d k q1
def Bt(K:aH)(n:Nat)(t:zi):TG:=λv c H Q=>∃a b,v=.ref a/\tV K H a b/\iN b=n/\t b c H Q
def mI{k:Nat}{n:Nat}(i:X.Ň=ww)(h:Ax X es t)
  (l:iN (ay es X.ak)=n|>ũ) (d:(ay es X.ak).findIdx? (·.1)=none|>ũ):PG X (.Tuple es k pos) (Bt X.K n t):=by
 intro c s y H v u Q I r hw;obtain⟨a,x,g,m,j,hw⟩:=hw;subst g;cases r;refine Õ (I.tuple m) λw f p A=>assign_Tuple_tuple (I.ok.hd i) p (by simp[l,<- j,f.length]) d λz q=>?_;exact h c _ y H x _ Q (I.œ (t':=s.toks) λb o e=>q b o (cO (bG e)) e) (Á f) hw
def wN(c:TE)(g:TG):TS:=λD a H=>c a H λx b=>g x a b D.nx
def pB(i:PE X e te)(j:PG X tg g)(k:swapsWithSole [tg] e pos.line X.ak=pure false|>ũ)(hw:swappedStores [tg] e X.ak=pure none|>ũ)
  (f:(ay [tg] X.ak).map (·.2)=[assign tg X.ak]|>ũ):PS X (Ā [tg] e pos) (wN te g):=by
 intro a s b H D I h;refine wpAny_Assign_stores (kN (i a s b H _ I h) λv m n=>?_) k hw;let x c d l q1:=Ø n;rw[f];exact kN (j a m b c x v _ d l q1) λ_ o q=>q
def CZ{i:Nat}(f:aYv X.N)(k:X.N[i]?=wz x)(m:YV X.ak.scope x)(g:PE X e te)(l:lY e (wz (KK x pos')) pos.line X.ak=pure false|>ũ)(j:ŭ X x|>Ŧ) :
  PS X (Ā [KK x pos'] e pos) (wN te (mO i)):=by
 intro a s p H D I h;refine kc (kN (g a s p H _ I h) λv q o=>?_) l;exact Ø o λy b c n q1=>FV c f k m n (λr d=>#[Ϛ,_,b,d,q1]) j
end
section
variable{X:Cx}{pos:Pos}
def ZN(c:TT)(h:TS):TS:=λD a H=>∃W:Nat->St->Hp->Prop,(∃m,W m a H)/\∀m a H,W m a H ->
 c a H λb f=>if b=ww then∃N,(∀d e,N d e->∃g,g<m/\W g d e)/\h { D with nx:=N,ct:=N,bk:=D.nx } a f else D.nx a f
def A9(t:PassesOwn (ä X.prog X.w) X.A X.ak X.xe)(x:PT X c tc)(hb:EK X body tb):PS X (.While c body [] pos) (ZN tc tb):=by
 intro a s J H D I h;obtain⟨W,⟨y,E⟩,į⟩:=h;refine wpAny_While (codeAny_whileLoop (λn z=>∃g m,dS X a g m z/\W n g m) ?_ y #[Ϛ,J,H,I,E]);rintro n B ⟨e,o,u,F⟩;refine s0 t (kN (x a B e o _ u (į n e o F)) λb C G=>?_);let p q q2:=Ê G
 cases b with
 |true=>
  let N r q2:=Ê q2;rw[b8 rfl];refine s0 t (kN (hb a C e p _ q q2) λf s3 q3=>?_)
  cases f with
  |next=>
   exact Ö q3 λd H3 i n3=>Ê (r d H3 n3) λk j l=>#[k,j,d,H3,i,l]
  |cont=>
   exact Ö q3 λd H3 i n3=>Ê (r d H3 n3) λk j l=>#[k,j,d,H3,i,l]
  |brk=>exact q3
  |ret v=>exact q3
 |false=>
  rw[a9 bS];exact z6 #[Ϛ,e,p,q,q2]
end
structure It where
 go:Nat->Hp->Prop
 yld:Nat->Hp->V->Hp->Prop
 stop:Nat->Hp->Prop
def EL(X:Cx)(a:Ž)(H:Hp)(b:à):Prop:=
 H b=wx/\b≠X.ak.locals/\b∉X.fs/\(b∈X.ex\/dl X.Ņ.heap.objs<=b)/\(∀x c,X.ak.cells.lookup x=wz c->c≠b)/\∀p∈X.pn++a,p.1≠b
def dS.fpOk{s:ã}{b:à}(I:dS X pins σ H s)(hb:dl s.heap.objs<=b)(a:H' b=wx):EL X pins H' b:=by
 refine#[a,iF (bX I.lt hb),I.nofs hb,i7 (aR I.sz hb),λx c e z=>?_,λp d z=>?_]
 .exact Ë (I.cell x c e) λv q=>c9 (bX q.lt (by rw[z];exact hb)) (fK _)
 .exact c9 (bX (bG (I.pin p d).1) (by rw[z];exact hb)) (fK _)
structure P6(P:dF)(w:g6)(K:aH)(tg:æ)(J:It)(fp:List à)(it:à)(tn:Nat->ç->Prop):Prop where
 mem:it∈fp
 obj:∀i h,tn i h->∀b∈fp,∃o,h.get? b=wz o/\∀v,o.data≠.cell v
 keep:∀i h h',tn i h->(∀b∈fp,∀o,h.get? b=wz o->h'.get? b=wz o)->tn i h'
 item:∀(X:Cx),X.prog=P->X.w=w->X.K=K->X.Ň=ww->∀(i:Nat)pins(s:ã)σ H E,dS X pins σ H s->(∀b∈fp,EL X pins H b)->tn i s.heap->J.go i H ->
  å (ä P w) X.A (je (.ref it)) (λr s1=>∃u,r=wz u /\
   å (ä P w) X.A (bc tg (.ref it) u) (λ_ s2=>∃x H',dS X pins σ H' s2/\gQ x u/\J.yld i H x H'/\tn (i+1) s2.heap/\∀b∈fp,H' b=wx) E s1) E s
 done:∀(X:Cx),X.prog=P->X.w=w->X.K=K->X.Ň=ww->∀(i:Nat)pins(s:ã)σ H E,dS X pins σ H s->(∀b∈fp,EL X pins H b)->tn i s.heap->J.stop i H ->
  å (ä P w) X.A (je (.ref it)) (λr s1=>r=wx/\dS X pins σ H s1) E s
 self:∀A(i:Nat)(s:ã)Q E,tn i s.heap->Q (.ref it) s->å (ä P w) A (jd (.ref it)) Q E s
abbrev TI:=St->Hp->(It->Hp->Prop)->Prop
def Dt(X:Cx)(a:Ž)(j:St)(i:æ)(R:It->Hp->Prop)(d:á)(g:ã):Prop:=
 ∃f e h J c,d=g8 f/\dS X a j c g/\P6 X.prog X.w X.K i J e f h/\h 0 g.heap/\(∀b∈e,EL X a c b)/\R J c
def PI(X:Cx)(d js:æ)(e:TI):Prop:=
 ∀a s b H R,dS X a b H s->e b H R ->
  å (ä X.prog X.w) X.A (è js X.ak) (λv c=>å (ä X.prog X.w) X.A (jd v) (Dt X a b d R) X.xe c) X.xe s
def CD{E:á->ã->Prop}{s:ã}{b:à}{o:Obj}{Q:Unit->ã->Prop}(e:s.heap.get? b=wz o)(c:o.cls=fx n)(hd:o.data=.fields vs)
  (d:["enumerate","zip","dict_itemiterator","dict_reverseitemiterator","odict_iterator","itertools.zip_longest","itertools.pairwise"].contains n=wv) (a:Q () s):å M A (bc tg (g8 b) u) Q E s:=by
 cases tg<;>first
  |exact aZ a
  | (cases u<;>first
    |exact aZ a
    | (refine aF (jm e ?_)
       rw[c,hd];show å M A (if(["enumerate","zip","dict_itemiterator","dict_reverseitemiterator","odict_iterator","itertools.zip_longest","itertools.pairwise"].contains n&&vs[0]?==wz (v4 _))=ww then _ else _) Q E s;rw[a9 (by intro h;rw[d,zS]at h;cases h)];exact aZ a))
def Dw(K:aH)(a:à):It:=
 #[λi H=>∃b x,qE K H a b/\b[i]?=wz x,λi H x c=>c=H/\∀b,qE K H a b->b[i]?=wz x,λi H=>∃b,qE K H a b/\iN b<=i]
def Du(K:aH)(a:à):It:=
 #[λi H=>∃b x,tV K H a b/\b[i]?=wz x,λi H x c=>c=H/\∀b,tV K H a b->b[i]?=wz x,λi H=>∃b,tV K H a b/\iN b<=i]
def Dv(lo:Int)(n:Nat):It:=#[λi _=>i<n,λi H x a=>a=H/\x=.int (lo+i),λi _=>n<=i]
theorem WD{K}(a it:à):P6 P w K tg (Dw K a) [it] it (λi h=>h.IsListIter it a i) where
 mem:=by simp
 obj:=λi h st b hb=>by
  have e:b=it:=Á hb
  subst e;exact Õ st λo e c d=>#[Ϙ,o,e,λv z=>by rw[d]at z;cases z]
 keep:=λi h h' st k=>st.at λo e=>k it dN o e
 item:=by
  intro X hP hw hK hc i pins s σ H E I hf st hg;subst hP hw hK;refine Ö hg λxs x hq hx=>Õ (I.list hq) λdq rv p hz=>Ê (rv.get hx) λu hu ru=>Û (hf it dN) λf0 f1 f2 f3 f4 f5=>wpAny_pyNext_list_item st (ā p) (Á hu) λh' ie sb=>?_;exact Õ (id ie) λo e c d=>#[Ϙ,u,1,CD e c d cS #[ϝ,x,H,(I.ĸ (t':=s.toks) (λb o hb e=>(sb.2 b hb).trans e) f0 f1 f3 f4 f5),ru,#[1,λys hy=>by rw[I.list_inj hy hq];exact hx],ie,λb hb=>(hf b hb).1]]
 done:=by
  intro X hP hw hK hc i pins s σ H E I hf st hg;subst hP hw hK;refine Ê hg λxs hq hx=>Õ (I.list hq) λdq rv p hz=>Û (hf it dN) λf0 f1 f2 f3 f4 f5=>?_;have hl:=rv.length;exact wpAny_pyNext_list_end (I.ok.hd hc) st (ā p) (by simp;lia) λh' eb=>#[1,I.ĸ (λb o hb e=>eb b o hb e) f0 f1 f3 f4 f5]
 self:=λ_ _ _ _ _ st h=>wpAny_pyIter_listiter st h
def QX{K}(a it:à):P6 P w K tg (Du K a) [it] it (λi h=>h.IsTupleIter it a i) where
 mem:=by simp
 obj:=λi h st b hb=>by
  have e:b=it:=Á hb
  subst e;exact Õ st λo e c d=>#[Ϙ,o,e,λv z=>by rw[d]at z;cases z]
 keep:=λi h h' st k=>st.at λo e=>k it dN o e
 item:=by
  intro X hP hw hK hc i pins s σ H E I hf st hg;subst hP hw hK;refine Ö hg λxs x hq hx=>Õ (I.tuple hq) λdq rv p hz=>Ê (rv.get hx) λu hu ru=>Û (hf it dN) λf0 f1 f2 f3 f4 f5=>wpAny_pyNext_tuple_item st (show s.heap.IsTuple a (aPe dq) from p) (Á hu) λh' ie sb=>?_;exact Õ (id ie) λo e c d=>#[Ϙ,u,1,CD e c d cS #[ϝ,x,H,(I.ĸ (t':=s.toks) (λb o hb e=>(sb.2 b hb).trans e) f0 f1 f3 f4 f5),ru,#[1,λys hy=>by rw[I.tuple_inj hy hq];exact hx],ie,λb hb=>(hf b hb).1]]
 done:=by
  intro X hP hw hK hc i pins s σ H E I hf st hg;subst hP hw hK;refine Ê hg λxs hq hx=>Õ (I.tuple hq) λdq rv p hz=>Û (hf it dN) λf0 f1 f2 f3 f4 f5=>?_;have hl:=rv.length;exact wpAny_pyNext_tuple_end (I.ok.hd hc) st (show s.heap.IsTuple a (aPe dq) from p) (by simp;lia) λh' eb=>#[1,I.ĸ (λb o hb e=>eb b o hb e) f0 f1 f3 f4 f5]
 self:=λ_ _ _ _ _ st h=>wpAny_pyIter_tupleiter st h
theorem QY{K}(it:à)(lo:Int)(n:Nat):P6 P w K tg (Dv lo n) [it] it (λi h=>IsRangeIter h it (lo+(i:Nat)*1) ((n:Int)-(i:Nat)) 1) where
 mem:=by simp
 obj:=λi h st b hb=>by
  have e:b=it:=Á hb
  subst e
  exact#[Ϙ,_,st,λv z=>by
   cases z]
 keep:=λi h h' st k=>k it dN _ st
 item:=by
  intro X hP hw hK hc i pins s σ H E I hf st hg;subst hP hw hK;refine Û (hf it dN) λf0 f1 f2 f3 f4 f5=>(Walks.range (prog:=X.prog) (w:=X.w) (I.ok.hd hc) it lo 1 n).item i s _ _ hg st λv h' tk hv ie kk=>?_;refine Ù v hv λt=>#[Ϙ,0,CD ie eH eH cS #[ϝ,.int (lo+i),H,(I.ĸ (λb o hb e=>kk b o (Á hb) e) f0 f1 f3 f4 f5),#[t,2],#[7],ie,λb hb=>(hf b hb).1]];rw[aYy]
 done:=by
  intro X hP hw hK hc i pins s σ H E I hf st hg;exact Û (hf it dN) λf0 f1 f2 f3 f4 f5=>wpAny_pyNext_range_end (I.ok.hd hc) st (by have:n<=i:=hg;lia) λh' eb=>#[1,I.ĸ (λb o hb e=>eb b o hb e) f0 f1 f3 f4 f5]
 self:=λ_ _ _ _ _ st h=>wpAny_pyIter_rangeiter st h
section
variable{X:Cx}{c:æ}
theorem aAj{s:ã}{R:It->Hp->Prop}{E:á->ã->Prop}{lo a:Int}{v}{f:Nat}(I:dS X pins σ H s)(i:-(2^62)<=lo)(j:lo<2^62)(k:-(2^62)<=a)(l:a<2^62)
  (q:R (Dv lo (Ă (a-lo))) H):å (ä X.prog X.w) X.A (jd (g8 s.heap.objs.size)) (Dt X pins σ c R) E { s with heap:=s.heap.push { cls:=fx "range",data:=Id (Ŭ [u7 lo t,u7 a u,u7 1 v]) },toks:=f }:=by
 refine wpAny_pyIter_range (IsRange.new ..) (small_one i j k l) ?_;have d:dS X pins σ H { s with heap:=s.heap.push { cls:=fx "range",data:=Id (Ŭ [u7 lo t,u7 a u,u7 1 v]) },toks:=f }:=I.œ λb o e=>aI _ e
 refine#[(s.heap.push { cls:=fx "range",data:=Id (Ŭ [u7 lo t,u7 a u,u7 1 v]) }).objs.size,[(s.heap.push { cls:=fx "range",data:=Id (Ŭ [u7 lo t,u7 a u,u7 1 v]) }).objs.size],3,H,1,
  d.œ λb o e=>aI _ e,QY _ lo (Ă (a-lo)),2,λb hb=>?_,q]
 .have g:lo+((0:Nat):Int)*1=lo:=by simp
  have h:((Ă (a-lo):Nat):Int)-((0:Nat):Int)=Builtin.Range.rangeSize lo a 1:=by rw[rangeSize_one];split<;>grind
  rw[g,h];exact bD _ eH
 .have e:b=(s.heap.push { cls:=fx "range",data:=Id (Ŭ [u7 lo t,u7 a u,u7 1 v]) }).objs.size:=Á hb
  subst e;exact d.fpOk (aL _) (d.gs.fresh (aL _))
def Hx(b:TA):TI:=λd H R=>b d H λvs a=>∃j,vs=[.int j]/\-(2^62)<=j/\j<2^62/\R (Dv 0 (Ă j)) a
theorem kJ(g:Gl X "range")(i:X.mg "range"=wx)(f:PA X [a] ta)(k:bR [a] X.ak=[(wv,è a X.ak)]|>ũ):PI X c (ă (KK "range" p) [a] [] pos) (Hx ta):=by
 intro b s o H R I h;refine Call_ (AH I g i boot_range (m9 (kN (f pos b s o H _ I h) λw v n=>?_) k eH));let vs u d l q1:=Ø n;obtain⟨j,e,q1,q2,q⟩:=q1;subst e
 cases l with
 |cons r m=>
  cases m;let t z:=Ë r;subst z;exact call_range_1 (aAj d cT cT q1 q2 (Á q))
def Cp(l:TI)(g:TG)(k:TS):TS:=λD a H=>l a H λJ h=>∃W:Nat->Nat->St->Hp->Prop,(∃m,W 0 m a h)/\∀i m a H,W i m a H ->
 (J.stop i H/\D.nx a H)\/(J.go i H/\∃N,(∀d b,N d b->∃f,f<m/\W (i+1) f d b)/\∀x b,J.yld i H x b->g x a b λe j=>k { D with nx:=N,ct:=N,bk:=D.nx } e j)
def GC(a:List à)(h:ç):Ž:=a.filterMap λb=>(h.get? b).map λo=>(b,o)
def vI{h:ç}{b:à}(hb:b∈fp)(e:h.get? b=wz o):(b,o)∈GC fp h:=Y3.mpr #[b,hb,by rw[e];rfl]
def W5{h:ç}{p:à×Obj}(d:p∈GC fp h):p.1∈fp/\h.get? p.1=wz p.2:=Ê (Y3.mp d) λb hb e=>by
 cases q:h.get? b with
 |none=>rw[q]at e;cases e
 |some o=>
  rw[q]at e;have a:=d7 e;subst a;exact#[hb,q]
def dS.pinned{s:ã}(I:dS X pins σ H s)(g:∀b∈fp,EL X pins H b)(h:∀b∈fp,∃o,s.heap.get? b=wz o/\∀v,o.data≠.cell v):dS X (pins++GC fp s.heap) σ H s:=
 I.pins_of λp i=>(bK.mp i).elim (λz=>I.pin p (cX _ z)) λz=>Ì (W5 z) λhb e=>Ü (g p.1 hb) λf f1 f2 _=>Ê (h p.1 hb) λo a d=>by rw[e]at a;cases a;exact#[e,f,f1,f2,d]
def dS.ĥ(I:dS X (pins++pl) σ H s):dS X pins σ H s:=I.pins_of λp a=>I.pin p (cX _ (gH _ a))
def RD{js}(F:PassesOwn (ä X.prog X.w) X.A X.ak X.xe)(U:X.Ň=ww)(hi:PI X c js wi)(hg:PG X c g)(hb:EK X body tb)
  (hs:(∀x,k7 js X.ak x=pure x)|>ť):PS X (.For c js body [] pos) (Cp wi g tb):=by
 intro a s σ H D I h;refine wpAny_For (kN (hi a s σ H _ I h) λv s1 h1=>kN h1 λpj s2 h2=>?_) hs;obtain⟨it,C,tn,J,H2,e,I2,T,P,f2,W,⟨m0,w0⟩,į⟩:=h2;subst e
 -- what stays ww of the iterator's objects through the il
 have p:∀{y:Hp},(∀b∈C,y b=wx)->∀b∈C,EL X a y b:=λhn b hb=>#[hn b hb,(f2 b hb).2];refine codeAny_forLoop_any (λn Y=>∃i q y,dS X a q y Y/\tn i Y.heap/\(∀b∈C,y b=wx)/\W i n q y) ?_ m0 #[ϡ,(0),σ,H2,I2,P,λb hb=>(f2 b hb).1,w0];rintro n s3 ⟨i,t,H3,S,K,E,w3⟩;rcases į i n t H3 w3 with⟨stop,qn⟩ | ⟨go,N,hN,step⟩
 .refine s0 F (kN (T.done X eH eH eH U i a s3 t H3 X.xe S (p E) K stop) λr s4 B=>?_);let M I4:=Ì B;subst M;exact z6 #[Ϛ,t,H3,I4,qn]
 .refine s0 F (kN (T.item X eH eH eH U i a s3 t H3 X.xe S (p E) K go) λr s4 B=>?_);let u M h4:=Ê B;subst M;refine s0 F (kN h4 λ_ Z B=>?_);refine Ý B λx R I5 r5 y5 ψ=>Ì ψ λz L=>s0 F (kN (hg _ Z t R x u _ (I5.pinned (p L) (T.obj _ _ z)) r5 (step x R y5)) λ_ s6 B=>?_);refine Ö B λQ H6 I6 q6=>s0 F (kN (hb _ s6 Q H6 _ I6 q6) λf O q7=>?_)
  have jw:∀{j:St}{k:Hp},dS X (a++GC C Z.heap) j k O->N j k->∃m,m<n/\∃i q y,dS X a q y O/\tn i O.heap/\(∀b∈C,y b=wx)/\W i m q y:=λ{j k} l G=>Ê (hN j k G) λm' hm w7=>by refine#[m',hm,i+1,j,k,l.ĥ,T.keep _ _ _ z λb hb o e=>(l.pin (b,o) (cX _ (cX _ (vI hb e)))).1,λb hb=>?_,w7];exact Ê (T.obj _ _ z b hb) λo e d=>(l.pin (b,o) (cX _ (cX _ (vI hb e)))).2.1
  cases f with
  |next=>exact Ö q7 λj k l G=>jw l G
  |cont=>exact Ö q7 λj k l G=>jw l G
  |brk=>exact Ö q7 λj k l q7=>#[Ϛ,j,k,l.ĥ,q7]
  |ret v=>exact Ú q7 λx7 j k l r7 q7=>#[Ϡ,x7,j,k,l.ĥ,r7,q7]
end
abbrev R2:=V->V->Hp->VK->Prop
def oU(X:Cx)(f:á->á->Sem á)(r:R2):Prop:=
 ∀a s b H x y v u Q,dS X a b H s->gQ x v->gQ y u->r x y H Q ->
  å (ä X.prog X.w) X.A (f v u) (EP X a b Q) X.xe s
def Dq(X:Cx)(f:á->Sem á)(r:V->Hp->VK->Prop):Prop:=
 ∀a s b H x v Q,dS X a b H s->gQ x v->r x H Q ->
  å (ä X.prog X.w) X.A (f v) (EP X a b Q) X.xe s
abbrev ű:=List V->Hp->VK->Prop
def lW(X:Cx)(f:á)(r:ű):Prop:=
 ∀a s d H c b Q,dS X a d H s->fX c b->r c H Q ->
  å (ä X.prog X.w) X.A (call f b) (EP X a d Q) X.xe s
def Ol(X:Cx)(r:V->Hp->(Bool->Hp->Prop)->Prop):Prop:=
 ∀a s b H x v Q,dS X a b H s->gQ x v->r x H Q ->
  å (ä X.prog X.w) X.A (truthy v) (TP X a b Q) X.xe s
def ym(r:R2)(d e:TE):TE:=λa H Q=>d a H λx b=>e a b λy c=>r x y c Q
def Me(r:V->Hp->VK->Prop)(b:TE):TE:=λc H Q=>b c H λx a=>r x a Q
def rI(C:Int->Int->Prop)(g:Int->Int->V):R2:=λx y H Q=>∃i j,x=.int i/\y=.int j/\C i j/\Q (g i j) H
def YQ(g:Int->Int->V):R2:=λx y H Q=>∃i j,x=.int i/\y=.int j/\Q (g i j) H
def rU(g:Int->V):V->Hp->VK->Prop:=λx H Q=>∃i,x=.int i/\Q (g i) H
section
variable{X:Cx}{a b:æ}{c d:TE}{pos:Pos}
def Bi(o:PE X a c)(hb:PE X b d){R:V->V->Hp->Prop}(I:dS X pins σ H s)
  (h:c σ H λx k=>d σ k λy e=>R x y e) {Q:á->ã->Prop} {f:á->á->Sem á}
  (p:∀v u j x y e,dS X pins σ e j->gQ x v->gQ y u->R x y e->å (ä X.prog X.w) X.A (f v u) Q X.xe j) :
  å (ä X.prog X.w) X.A (è a X.ak) (λv g=>å (ä X.prog X.w) X.A (è b X.ak) (λu i=>å (ä X.prog X.w) X.A (f v u) Q X.xe i) X.xe g) X.xe s:=by
 let v t l:=kN (o pins s σ H _ I h);refine Ø l λx k m q q1=>kN (hb pins t σ k _ m q1) λu j l=>?_;exact Ø l λy e n r q2=>p v u j x y e n q r q2
def OJ(j:oU X (l3 op) r)(i:PE X a c)(hb:PE X b d):PE X (.BinOp a op b pos) (ym r c d):=by
 intro e s n H Q I h;exact wpAny_BinOp (Bi i hb I h λv u m x y f g k l q=>j e m n f x y v u Q g k l q)
def Sx{r:V->Hp->VK->Prop}(k:Dq X (unaryOp op) r)(j:PE X a c):PE X (.UnaryOp op a pos) (Me r c):=by
 intro e s f H Q I h;exact UnaryOp_ (kN (j e s f H _ I h) λv m ξ=>Ø ξ λx g i l q1=>k e m f g x v Q i l q1)
def zu{f:á->á->Sem á}{C:Int->Int->Prop}{g:Int->Int->Int}
  (rule:∀i j t u s Q E,C i j->Q (u7 (g i j) s.toks) { s with toks:=s.toks+1 }->å (ä X.prog X.w) X.A (f (u7 i t) (u7 j u)) Q E s) :
  oU X f (rI C λi j=>.int (g i j)):=by
 intro e s o H x y v u Q I l m h;let i j z r k q:=Ý h;subst z r;exact Ù v l λt=>Ù u m λn=>rule i j t n s _ _ k #[ϛ,.int (g i j),H,I.Ĭ _,#[0],q]
def Ck{f:á->á->Sem á}{g:Int->Int->Int}
  (rule:∀i j t u s Q E,Q (u7 (g i j) s.toks) { s with toks:=s.toks+1 }->å (ä X.prog X.w) X.A (f (u7 i t) (u7 j u)) Q E s) :
  oU X f (YQ λi j=>.int (g i j)):=by
 intro e s n H x y v u Q I k l h;let i j z r q:=Ø h;subst z r;exact Ù v k λt=>Ù u l λm=>rule i j t m s _ _ #[ϛ,.int (g i j),H,I.Ĭ _,#[0],q]
def Ap{f:á->á->Sem á}{g:Int->Int->Bool}
  (rule:∀i j t u s Q E,Q (dh (g i j)) s->å (ä X.prog X.w) X.A (f (u7 i t) (u7 j u)) Q E s) :
  oU X f (YQ λi j=>.bl (g i j)):=by
 intro e s n H x y v u Q I k l h;let i j z r q:=Ø h;subst z r;exact Ù v k λt=>Ù u l λm=>rule i j t m s _ _ #[ϛ,.bl (g i j),H,I,1,q]
def Bn(i j:Int):Prop:=0<j/\j<1073741824
def QC(i j:Int):Prop:=(-(2^64)<i/\i<2^64)\/(-(2^64)<j/\j<2^64)
def QC.ok{i j:Int}(h:QC i j):IntMulOk i j:=by
 rcases h with⟨e,f⟩ | ⟨e,f⟩
 .exact .of_left (intBits_le_64 e f)
 .exact .of_right (intBits_le_64 e f)
def aM3:oU X (l3 .Add) (YQ λi j=>.int (i+j)):=Ck λ_ _ _ _ _ _ _ q=>add_int q
def MC:oU X (l3 .Sub) (YQ λi j=>.int (i-j)):=Ck λ_ _ _ _ _ _ _ q=>sub_int q
def Lr:oU X (l3 .Mult) (rI QC λi j=>.int (i*j)):=zu λ_ _ _ _ _ _ _ e q=>mul_int q e.ok
theorem E8:oU X (l3 .FloorDiv) (rI Bn λi j=>.int (i / j)):=zu λi j _ _ _ _ _ e q=>by
 have f:=e.1;have g:=e.2;exact floordiv_int cT (by rw[NU i (Int.le_of_lt ‹_›)];exact q) (j3 (PyProof.noPylong_small ŋ))
def RL:oU X (l3 .Mod) (rI (λ_ j=>0<j) λi j=>.int (i%j)):=zu λi j _ _ _ _ _ e q=>by
 exact mod_int' cT (by rw[Int.fmod_eq_emod_of_nonneg i (Int.le_of_lt ‹_›)];exact q)
def pC:oU X (l3 .BitOr) (YQ λi j=>.int (Builtin.bitOr i j)):=Ck λ_ _ _ _ _ _ _ q=>or_int q
def Mc{f:á->Sem á}{g:Int->Int}
  (rule:∀i t s Q E,Q (u7 (g i) s.toks) { s with toks:=s.toks+1 }->å (ä X.prog X.w) X.A (f (u7 i t)) Q E s) :
  Dq X f (rU λi=>.int (g i)):=by
 intro e s k H x v Q I j h;let i z q:=Ê h;subst z;exact Ù v j λt=>rule i t s _ _ #[ϛ,.int (g i),H,I.Ĭ _,#[0],q]
def aLs:Dq X (unaryOp .USub) (rU λi=>.int (-i)):=Mc λ_ _ _ _ _ q=>neg_int q
end
def Ci:V->V->Bool
|.z8,.z8=>ww | .z8,.int _=>ww | .int _,.z8=>ww | .z8,.bl _=>ww | .bl _,.z8=>ww | .z8,.str _=>ww | .str _,.z8=>ww
|.int _,.int _=>ww | .bl _,.bl _=>ww | .str _,.str _=>ww | .byt _,.byt _=>ww
|.int _,.str _=>ww | .str _,.int _=>ww | .bl _,.str _=>ww | .str _,.bl _=>ww
|_,_=>wv
def Eh:R2:=λx y H Q=>Ci x y=ww/\Q (.bl (decide (x=y))) H
def Ee:R2:=λx y H Q=>Ci x y=ww/\Q (.bl (!decide (x=y))) H
def VQ{i j:Int}:decide (V.int i=V.int j)=(i==j):=by
 rw[eR];simp
def Jt{i j:Bool}:decide (V.bl i=V.bl j)=(i==j):=by
 rw[eR];simp
def VP:decide (V.str i=V.str j)=(i==j):=by
 rw[eR];simp
def VR{i j:Array UInt8}:decide (V.byt i=V.byt j)=(aO6 i==aO6 j):=by
 rw[eR];cases i;cases j;simp
section
variable{X:Cx}{a b c:æ}{g l n:TE}{pos:Pos}
def gR{k d:Bool}(I:dS X pins σ H s)(q:Q (.bl k) H)(e:k=d):EP X pins σ Q (dh d) s:=by
 subst e;exact#[ϛ,.bl k,H,I,1,q]
def sA:oU X (e9 .Eq) Eh:=by
 intro m s o H x y v u Q I k d h;let f q:=Ì h
 cases x with
 |z8=>
  cases k
  cases y with
  |z8=>cases d;exact PySem.EqNone.eq_none_none (gR I q dN)
  |bl j=>cases d;exact PySem.EqNone.eq_none_bool (gR I q dN)
  |int j=>exact Ù u d λe=>PySem.EqNone.eq_none_int (gR I q dN)
  |str j=>exact Ù u d λe=>PySem.EqNone.eq_none_str (gR I q dN)
  |_=>exact c9 (show wv=ww from f) bS
 |bl i=>
  cases k
  cases y with
  |z8=>cases d;exact PySem.EqNone.eq_bool_none (gR I q dN)
  |bl j=>cases d;exact eq_bool (gR I q Jt)
  |str j=>exact Ù u d λe=>PySem.EqMixed.eq_bool_str (gR I q dN)
  |_=>exact c9 (show wv=ww from f) bS
 |int i=>
  refine Ù v k λt=>?_
  cases y with
  |z8=>cases d;exact PySem.EqNone.eq_int_none (gR I q dN)
  |int j=>exact Ù u d λe=>eq_int (gR I q VQ)
  |str j=>exact Ù u d λe=>PySem.EqMixed.eq_int_str (gR I q dN)
  |_=>exact c9 (show wv=ww from f) bS
 |str i=>
  refine Ù v k λt=>?_
  cases y with
  |z8=>cases d;exact PySem.EqNone.eq_str_none (gR I q dN)
  |bl j=>cases d;exact PySem.EqMixed.eq_str_bool (gR I q dN)
  |int j=>exact Ù u d λe=>PySem.EqMixed.eq_str_int (gR I q dN)
  |str j=>exact Ù u d λe=>eq_str (gR I q VP)
  |_=>exact c9 (show wv=ww from f) bS
 |byt i=>
  refine Ù v k λt=>?_
  cases y with
  |byt j=>exact Ù u d λe=>PySem.W.eq_bytes (gR I q VR)
  |_=>exact c9 (show wv=ww from f) bS
 |_=>cases y<;>exact c9 (show wv=ww from f) bS
def tD:oU X (e9 .NotEq) Ee:=by
 intro m s o H x y v u Q I k d h;let f q:=Ì h
 cases x with
 |z8=>
  cases k
  cases y with
  |z8=>cases d;exact PySem.EqNone.ne_none_none (gR I q dN)
  |bl j=>cases d;exact PySem.EqNone.ne_none_bool (gR I q dN)
  |int j=>exact Ù u d λe=>PySem.EqNone.ne_none_int (gR I q dN)
  |str j=>exact Ù u d λe=>PySem.EqNone.ne_none_str (gR I q dN)
  |_=>exact c9 (show wv=ww from f) bS
 |bl i=>
  cases k
  cases y with
  |z8=>cases d;exact PySem.EqNone.ne_bool_none (gR I q dN)
  |bl j=>cases d;exact ne_bool (gR I q (d9 not Jt))
  |str j=>exact Ù u d λe=>PySem.EqMixed.ne_bool_str (gR I q dN)
  |_=>exact c9 (show wv=ww from f) bS
 |int i=>
  refine Ù v k λt=>?_
  cases y with
  |z8=>cases d;exact PySem.EqNone.ne_int_none (gR I q dN)
  |int j=>exact Ù u d λe=>ne_int (gR I q (d9 not VQ))
  |str j=>exact Ù u d λe=>PySem.EqMixed.ne_int_str (gR I q dN)
  |_=>exact c9 (show wv=ww from f) bS
 |str i=>
  refine Ù v k λt=>?_
  cases y with
  |z8=>cases d;exact PySem.EqNone.ne_str_none (gR I q dN)
  |bl j=>cases d;exact PySem.EqMixed.ne_str_bool (gR I q dN)
  |int j=>exact Ù u d λe=>PySem.EqMixed.ne_str_int (gR I q dN)
  |str j=>exact Ù u d λe=>ne_str (gR I q (d9 not VP))
  |_=>exact c9 (show wv=ww from f) bS
 |byt i=>
  refine Ù v k λt=>?_
  cases y with
  |byt j=>exact Ù u d λe=>PySem.W.ne_bytes (gR I q (d9 not VR))
  |_=>exact c9 (show wv=ww from f) bS
 |_=>cases y<;>exact c9 (show wv=ww from f) bS
def UO:oU X (e9 .Lt) (YQ λi j=>.bl (decide (i<j))):=Ap λ_ _ _ _ _ _ _ q=>lt_int q
def GG:oU X (e9 .LtE) (YQ λi j=>.bl (decide (i<=j))):=Ap λ_ _ _ _ _ _ _ q=>le_int q
def Dp:oU X (e9 .Gt) (YQ λi j=>.bl (decide (j<i))):=Ap λ_ _ _ _ _ _ _ q=>gt_int q
def OM:oU X (e9 .GtE) (YQ λi j=>.bl (decide (j<=i))):=Ap λ_ _ _ _ _ _ _ q=>ge_int q
def J5:oU X (e9 .In) (λx y H Q=>∃i j,x=.str i/\y=.str j/\Q (.bl (!Ą (l7 j i 0 j.length 1))) H):=by
 intro d s m H x y v u Q I e f h;let i j z w q:=Ø h;subst z w;exact Ù v e λt=>Ù u f λk=>in_str (gR I q eH)
def aM1:oU X (e9 .Is) (λx y H Q=>y=.z8/\Q (.bl (decide (x=.z8))) H):=by
 intro d s i H x y v u Q I e f h;let z q:=Ì h;subst z;cases f;refine is_none_gen (gR I q ?_)
 cases x<;>first
  | (cases e;rfl)
  | (refine Ù v e λt=>?_;rfl)
def aG5:oU X (e9 .IsNot) (λx y H Q=>y=.z8/\Q (.bl (!decide (x=.z8))) H):=by
 intro d s i H x y v u Q I e f h;let z q:=Ì h;subst z;cases f;refine isnot_none_gen (gR I q ?_)
 cases x<;>first
  | (cases e;rfl)
  | (refine Ù v e λt=>?_;rfl)
def oU.or{f:á->á->Sem á}{r e:R2}(h:oU X f r)(m:oU X f e):oU X f (λx y H Q=>r x y H Q\/e x y H Q):=by
 intro d s k H x y v u Q I i j q;rcases q with q | q
 .exact h d s k H x y v u Q I i j q
 .exact m d s k H x y v u Q I i j q
def mV(b:æ)(h:op≠.In|>Ū)(f:op≠.NotIn|>Ū):d8 op b=false:=by
 have d:(op==CmpOp.In)=false:=by cases op<;>first | rfl | exact c9 eH h
 have e:(op==CmpOp.NotIn)=false:=by cases op<;>first | rfl | exact c9 eH f
 cases b<;>simp[d8,d,e]
def UN(k:oU X (e9 op) r)(i:PE X a g)(hb:PE X b l)(j:d8 op b=wv):PE X (Ty a [op] [b] pos) (ym r g l):=by
 intro d s t H Q I h;exact wpAny_Compare1 (Bi i hb I h λv u p x y e f m o q=>k d p t e x y v u Q f m o q) j
def Ix(t:TE):TT:=λe H Q=>t e H λx d=>∃k,x=.bl k/\Q k d
def UI(w:oU X (e9 op) r)(q:PE X a g)(hb:PE X b l)(t:d8 op b=wv):PT X (Ty a [op] [b] pos) (Ix (ym r g l)):=by
 intro d s f H Q I h
 refine ig (kN (q d s f H _ I h) λv E ξ=>Ø ξ λx i m A q1=>kN (hb d E f i _ m q1) λu F ξ=>Ø ξ λy j o B q2=>
  kN (w d F f j x y v u _ o A B q2) λc s3 ξ=>Ř ξ λz H3 p C k e q3=>?_) t
 subst e;cases C;exact h9 #[H3,p,q3]
def Q2(r i:R2)(g l n:TE):TE:=λd H Q=>g d H λx e=>l d e λy f=>r x y f λz H3=>∃k,z=.bl k /\
 (if k=ww then n d H3 λj h=>i y j h Q else Q (.bl wv) H3)
def aA4(G:oU X (e9 op) r)(j:oU X (e9 op') r')(C:PE X a g)(hb:PE X b l)(E:PE X c n)
  (F:gn [op,op'] [b,c]=false|>Ť):PE X (Ty a [op,op'] [b,c] pos) (Q2 r r' g l n):=by
 intro f s i H Q I h
 refine Compare_chain (kN (C f s i H _ I h) λv M ξ=>Ø ξ λx p w J q1=>chain_link (kN (hb f M i p _ w q1) λu N ξ=>Ø ξ λy q A o q2=>
  kN (G f N i q x y v u _ A J o q2) λd s3 ξ=>Ř ξ λz H3 m K k e q3=>?_)) F
 subst e;cases K;refine h9 ?_
 cases k with
 |false=>exact ite_ff #[ϛ,.bl wv,H3,m,1,q3]
 |true=>exact ite_tt (chain_last (kN (E f s3 i H3 _ m q3) λP O ξ=>Ø ξ λR t B L q4=>j f O i t y R u P Q B o L q4))
def aAs(M:oU X (e9 op) r)(j:oU X (e9 op') r')(J:PE X a g)(hb:PE X b l)(K:PE X c n)
  (L:gn [op,op'] [b,c]=false|>Ť):PT X (Ty a [op,op'] [b,c] pos) (Ix (Q2 r r' g l n)):=by
 intro f s i H Q I h
 refine isTrue_chain (kN (J f s i H _ I h) λv T ξ=>Ø ξ λx p A O q1=>test_link (kN (hb f T i p _ A q1) λu U ξ=>Ø ξ λy q B o q2=>
  kN (M f U i q x y v u _ B O o q2) λd s3 ξ=>Ř ξ λz H3 m P k e q3=>?_)) L
 subst e;cases P;refine h9 ?_
 cases k with
 |false=>
  let k' F N:=Ê q3;cases F;exact ite_ff #[H3,m,N]
 |true=>
  refine ite_tt (test_last (kN (K f s3 i H3 _ m q3) λY W ξ=>Ø ξ λZ t C R q4=>kN (j f W i t y Z u Y _ C o R q4) λd' s5 zq=>?_));refine Ø zq λz2 w E S ψ=>Ê ψ λk2 G q5=>?_;subst G;cases S;exact h9 #[w,E,q5]
def Bh(K:aH)(x:V)(H:Hp)(k:Bool):Prop:=
 match x with
 |.z8=>k=wv
 |.bl b=>k=b
 |.int i=>k=(i != 0)
 |.str y=>v0 y<=bM/\k=((v0 y:Int) != 0)
 |.byt y=>dl y<=bM/\k=((dl y:Int) != 0)
 |.ref p=>(∃d,qE K H p d/\k=!d.isEmpty)\/(∃d,tV K H p d/\k=!d.isEmpty)\/∃bt,H p=wz (.dK bt)/\k=!bt.isEmpty
 |_=>False
def SG{d:Type}{bt:List (d×V)}{vs:List (d×á)}(r:KV bt vs):(!vs.isEmpty)=!bt.isEmpty:=by
 cases r<;>rfl
def G7{e:List V}{d:List á}(r:fX e d):(!d.toArray.isEmpty)=!e.isEmpty:=by
 cases r<;>simp
def GY:(bM:Nat)<2^63:=by rw[ei];decide
theorem aLu:Ol X (λx H Q=>∃k,Bh X.K x H k/\Q k H):=by
 intro A s G H x v Q I j h;let k e q:=Ê h;have F:=ei
 cases x with
 |z8=>
  cases j;have d:=e;subst d;exact truthy_none #[H,I,q]
 |bl b=>
  cases j;have d:=e;subst d;exact h9 #[H,I,q]
 |int i=>
  refine Ù v j λt=>?_;have d:=e;subst d;exact PySem.P.truthy_int #[H,I,q]
 |str y=>
  refine Ù v j λt=>Ì e λC d=>?_;subst d;exact PySem.P.truthy_str cT #[H,I.Ĭ _,q]
 |byt y=>
  refine Ù v j λt=>Ì e λC d=>?_;subst d;exact PySem.W.truthy_bytes ŀ #[H,I.Ĭ _,q]
 |ref p=>
  cases j;have d:=e;rcases d with⟨E,o,d⟩ | ⟨E,o,d⟩ | ⟨bt,o,d⟩
  .subst d;let u r w z:=Õ (I.list o);have f:=r.length;exact wpAny_truthy_list (ā w) (by simp only[bP];lia) #[H,I.Ĭ _,by rw[G7 r];exact q]
  .subst d;let u r w z:=Õ (I.tuple o);have f:=r.length;exact truthy_tuple w (by simp only[bP];lia) #[H,I.Ĭ _,by rw[G7 r];exact q]
  .subst d;let z B vs r m:=Ð (I.gs p _ o);have f:=aw r;exact wpAny_truthy_dict B m cT #[H,I.Ĭ _,by rw[SG r];exact q]
 |_=>exact(show False from e).elim
def OI(m:PE X a g)(o:∀ļ,isTrue a X.ak ļ=(do let v <- ļ;ff a.pos;fe [v] (truthy v))) :
  PT X a (λe H Q=>g e H λx f=>∃k,Bh X.K x f k/\Q k f):=by
 intro d s e H Q I h;exact isTrue_plain (kN (m d s e H _ I h) λv q ξ=>Ø ξ λx i j p q1=>aLu d q e i x v Q j p q1) (o _)
def RM:oU X (l3 .Add) (λx y H Q=>∃i j,x=.str i/\y=.str j/\v0 i+v0 j<=bM/\Q (.str (i++j)) H):=by
 intro d s p H x y v u Q I f k h;let i j z w e q:=Ý h;subst z w;exact Ù v f λt=>Ù u k λm=>add_str (λm o=>#[ϛ,.str (i++j),H,I.Ĭ _,#[0],q]) e
def oG(r:fX [x] us):∃u,us=[u]/\gQ x u:=by
 cases r with
 |cons d e=>cases e;exact#[0,d]
def TQ(r:fX [x,y] us):∃u d,us=[u,d]/\gQ x u/\gQ y d:=by
 cases r with
 |cons e f=>
  cases f with
  |cons h i=>cases i;exact#[ϛ,31,e,h]
def K2(m:X.Ň=ww):lW X (mt "max") (λf H Q=>∃i j,f=[.int i,.int j]/\Q (.int (if j>i then j else i)) H):=by
 intro e s y H f w Q I r h;let i j z q:=Ö h;subst z;obtain⟨u,x,rfl,⟨t,rfl⟩,⟨p,rfl⟩⟩:=TQ r;refine max_two_ints (I.ok.hd m) λo v k=>#[ϛ,_,H,I.œ k,2,q];by_cases d:j>i
 .rw[b8 d,b8 d];exact#[0]
 .rw[a9 d,a9 d];exact#[0]
def K1(m:X.Ň=ww):lW X (mt "min") (λf H Q=>∃i j,f=[.int i,.int j]/\Q (.int (if j<i then j else i)) H):=by
 intro e s y H f w Q I r h;let i j z q:=Ö h;subst z;obtain⟨u,x,rfl,⟨t,rfl⟩,⟨p,rfl⟩⟩:=TQ r;refine min_two_ints (I.ok.hd m) λo v k=>#[ϛ,_,H,I.œ k,2,q];by_cases d:j<i
 .rw[b8 d,b8 d];exact#[0]
 .rw[a9 d,a9 d];exact#[0]
def rN:lW X (fx "int") (λd H Q=>(∃i,d=[.int i]/\Q (.int i) H)\/∃k,d=[.bl k]/\Q (.int (if k then 1 else 0)) H):=by
 intro e s m H d j Q I r h;rcases h with⟨i,rfl,q⟩ | ⟨k,rfl,q⟩
 .obtain⟨u,rfl,t,rfl⟩:=oG r;exact call_int_int #[ϛ,.int i,H,I,#[0],q]
 .refine Þ j (oG r) λu f=>?_;cases f;exact call_int_bool #[ϛ,.int (if k then 1 else 0),H,I.Ĭ _,#[0],q]
end
structure S4(h:ç)(x dx C:à)(mA:â->Option á):Prop where
 obj:h.get? x=wz (lA C dx)
 ns:h.Ns1 dx mA
 ne:dx≠x
def XC{h:ç}{dx:à}{d:â->Option á}(n:h.Ns1 dx d):∃f,h.get? dx=wz f/\∀name,xY name f=wz (d name):=ß n λo c m k hd i x=>Ì x λ_ j=>by
 refine#[o,k,λname=>?_];have e:=j name;unfold nsFind findBy at e;rw[<- YM]at e;unfold xY;rw[hd];dsimp only;split
 .rename_i y q;rw[q]at e;exact d9 wz e
 .rename_i q;rw[q]at e
  have a:c.toList.any (·.refKey)=false:=by
   rw[aE4];intro y l;let z t b:=Ç (i y (Array.mem_toList_iff.mp l));simp[DictEntry.refKey,b]
  have g:¬c.toList.any (·.refKey)=true:=by rw[a];exact bS
  rw[a9 g];exact d9 wz e
def S4.look{h}{x dx C:à}{b:â->Option á}(I:S4 h x dx C b):∃a,nT h x (lA C dx) C (wz a)/\∀name,xY name a=wz (b name):=
 let ⟨a,ho,hl⟩:=XC I.ns
 #[a,#[I.obj,7,ho],hl]
section
variable{prog:dF}{w:g6}{A:g3}{E:á->ã->Prop}{s:ã}{K:aH}{x dx C f:à}{a:â->Option á}{name:â}{v:á}
def aH0{b:Bool}{Q:á->ã->Prop}(X:K.In s.heap)(I:S4 s.heap x dx C a)(e:uR K C name=ww)(g:B9 K C=ww)
  (d:fB K (g8 C) name=wz wx) (j:a name=wz v) (c:YC v=ww) (h:Q v { s with toks:=s.toks+1 }) :
  å (ä prog w) A (getAttr (g8 x) name b) Q E s:=Ê I.look λk J i=>PySem.W.get_value X J (zH e).1 (PySem.W.findObj_own g d eH (by rw[i,j])) c h
def aC7{Q:á×List á->ã->Prop}(X:K.In s.heap)(I:S4 s.heap x dx C a)(b:uR K C name=ww)
  (c:fB K (g8 C) name=wz (wz (g8 f))) (e:NO K (g8 f)=ww) (g:a name=wx) (h:Q (g8 f,[g8 x]) s) :
  å (ä prog w) A (dv (g8 x) name pl) Q E s:=Ê I.look λi J d=>PySem.W.method_fn X J (zH b).1 (zH b).2 c (beq_iff_eq.mp e) (by show(xY name i).map (·.isSome)=wz wv;rw[d,g];rfl) h
theorem aGh{ns:List â}{Q:Unit->ã->Prop}(X:K.In s.heap)(I:S4 s.heap x dx C a)
  (q:fB K (g8 C) "__setattr__"=wz (wz (mt "object.__setattr__"))) (p:V5 K C=ww) (t:EQ K C name=wz wx) (o:B9 K C=ww)
  (hw:eo a ns) (r:iN ns<=bM)
  (h:∀e,S4 e x dx C (λy=>if y=name then wz v else a y)->gB dx s.heap e->Q () { s with heap:=e,toks:=s.toks+2 }) :
  å (ä prog w) A (setAttr (g8 x) name v) Q E s:=Ê I.look λB J u=>by refine PySem.W.set_plain X J q (PySem.W.osa_open X J p t λb=>?_);refine Ê (PySem.W.any_some o) λcd n i=>aF (aZ (aF (aF (wpAny_loadPart I.obj (aF (JD.here (PySem.W.looks_clsIn X n) ?_))))));rw[i];refine aZ (aF (aZ (aF ?_)));let e c d:=wpAny_nsSet1 I.ns;refine Ú (c.count (PySem.Within.cons name v hw)) λz m l k j g=>aF (wpAny_lookBehind k (by rw[j];exact pastItsLine_dict (aR g (by rw[bE];exact Ō))) ?_);exact aZ (h _ #[(d.2 _ (j6 I.ne)).trans I.obj,c,I.ne] d)
def aCf{R:Result->ã->Prop}(X:K.In s.heap)(e:YX K C=ww)
  (c:fB K (g8 C) "__init__"=wz (wz (g8 f))) (b:xW K (g8 f)=wz (fx "function"))
  (h:z9 (ä prog w) (A.under (.builtin "type.__call__" #[g8 C::vs,kw])) (.call (g8 f) #[g8 (dl s.heap.objs+1)::vs,kw]) (PySem.W.InitBack (dl s.heap.objs+1) R)
   { s with heap:=(s.heap.push jQ).push (lA C s.heap.objs.size) }) :
  z9 (ä prog w) A (.call (g8 C) #[vs,kw]) R s:=by
 obtain⟨i,g,d,t,os⟩:=s;exact PySem.W.make_core (PySem.W.makes_of X e) (qN X c) (λself=>PySem.W.bind_fn X self b) (j3 eH) h
end
def zB(f:â)(v:V):Ŷ->Ŷ
|[]=>[(f,v)]
| (g,x)::r=>if g=f then(g,v)::r else(g,x)::zB f v r
theorem DY(f g:â)(v:V):∀fs,(zB f v fs).lookup g=if g=f then wz v else fs.lookup g
|[]=>by
 show mQ g [(f,v)]=_;by_cases h:g=f
 .have hb:(g==f)=true:=beq_iff_eq.mpr h;simp only[mQ,hb,b8 h]
 .have hb:=beq_eq_false_iff_ne.mpr h;simp only[mQ,hb,a9 h]
| (k,x)::r=>by
 rw[show zB f v ((k,x)::r)=(if k=f then(k,v)::r else(k,x)::zB f v r)from rfl];by_cases a:k=f
 .rw[b8 a];by_cases h:g=k
  .have hb:=beq_iff_eq.mpr h;simp only[mQ,hb,b8 (h.trans a)]
  .have hb:=beq_eq_false_iff_ne.mpr h;simp only[mQ,hb,a9 (λe:g=f=>h (e.trans a.symm))]
 .rw[a9 a];by_cases h:g=k
  .have hb:=beq_iff_eq.mpr h;simp only[mQ,hb,a9 (λe:g=f=>a (h.symm.trans e))]
  .simp only[mQ,(beq_eq_false_iff_ne.mpr h)];exact(DY f g v r)
theorem C5(f:â)(v:V):∀fs,f∈(zB f v fs).map (·.1)/\∀g,g∈fs.map (·.1)->g∈(zB f v fs).map (·.1)
|[]=>#[by simp[zB],λg h=>by simp at h]
| (k,x)::r=>Ì (C5 f v r) λb c=>by
 rw[show zB f v ((k,x)::r)=(if k=f then(k,v)::r else(k,x)::zB f v r)from rfl];by_cases a:k=f
 .rw[b8 a];subst a;exact#[dN,λg h=>Á h]
 .rw[a9 a];refine#[2,λg h=>?_]
  .rw[aX];exact aE _ b
  .rw[aX]at h |-
   rcases aN.mp h with e | e
   .exact aN.mpr (j3 e)
   .exact aE _ (c g e)
theorem D1(f:â)(v:V):∀fs,iN (zB f v fs)<=iN fs+1
|[]=>by simp[zB]
| (k,x)::r=>by
 have b:=D1 f v r;rw[show zB f v ((k,x)::r)=(if k=f then(k,v)::r else(k,x)::zB f v r)from rfl];by_cases a:k=f
 .rw[b8 a,bE,bE];simp
 .rw[a9 a,bE,bE];exact Ō
def zF.some_of{v}(r:zF (wz v) o):∃u,o=wz u/\gQ v u:=by
 cases o with
 |none=>exact(show False from r).elim
 |some u=>exact#[u,1,r]
def zF.none_of(r:zF wx o):o=none:=by
 cases o with
 |none=>rfl
 |some u=>exact(show False from r).elim
def XQ{v}(r:gQ v u):YC u=true:=by
 cases v with
 |z8=>cases (show u=o0 from r);rfl
 |bl b=>cases (show u=dh b from r);rfl
 |int i=>let t e:=Ë (show∃t,u=u7 i t from r);cases e;rfl
 |str x=>let t e:=Ë (show∃t,u=ck x t from r);cases e;rfl
 |byt b=>let t e:=Ë (show∃t,u=Value.bytes b t from r);cases e;rfl
 |flt b=>let t e:=Ë (show∃t,u=Value.float b t from r);cases e;rfl
 |ref a=>cases (show u=g8 a from r);rfl
 |ty n=>cases (show u=fx n from r);rfl
def MT{P:dF}{w:g6}{H:Hp}{h:ç}{a C dx:à}{fs:Ŷ}(gs:rP P w H h)(e:H a=wz (.Œ C dx fs)):∃b,S4 h a dx C b/\(∀f,zF (fs.lookup f) (b f))/\eo b (fs.map (·.1))/\iN fs<=1000/\H dx=wz (.own a):=Ó ((show lI P w H h a (.Œ C dx fs)from gs a _ e)) λd z ne ob y=>Õ y λb n r q=>#[b,#[ob,n,ne],r,q,z,d]
structure DK(K:aH)(C:à):Prop where
 pg:uR K C Str.empty=ww
 hd:B9 K C=ww
 po:V5 K C=ww
 sa:fB K (.ref C) "__setattr__"=wz (wz (.builtin "object.__setattr__"))
def DK.get{K}{C:à}(c:DK K C)(f:â):uR K C f=true:=c.pg
def gA(K:aH)(C:à)(f:â):Prop:=fB K (g8 C) f=wz wx
def gA.taker{K}{C:à}(n:gA K C f):EQ K C f=wz none:=by
 unfold EQ;rw[show fB K (g8 C) f=wz wx from n]
 rfl
structure zG(K:aH)(C:à)(m:â)(f:à):Prop where
 at_:fB K (.ref C) m=wz (wz (.ref f))
 fn:NO K (.ref f)=ww
 kp:gZ K (.ref f)=ww
section
variable{X:Cx}{d:Ž}{i:St}{H:Hp}{s:ã}{a C dx:à}{fs:Ŷ}{f:â}{v:V}{A:g3}{E:á->ã->Prop}
def G9{b:Bool}{Q:á->ã->Prop}(I:dS X d i H s)(e:H a=wz (.Œ C dx fs))(c:DK X.K C)(n:gA X.K C f)(l:fs.lookup f=wz v)
  (h:∀u j,dS X d i H j->gQ v u->Q u j):å (ä X.prog X.w) A (getAttr (g8 a) f b) Q E s:=ë (MT I.gs e) λm O r _ _ _=>Ê (zF.some_of (by rw[<- l];exact r f)) λu k g=>aH0 I.kIn O (c.get f) c.hd n k (XQ g) (h u _ (I.Ĭ _) g)
def AJ{g:à}{Q:á×List á->ã->Prop}(I:dS X d i H s)(e:H a=wz (.Œ C dx fs))(c:DK X.K C)(k:zG X.K C m g)(l:fs.lookup m=wx)
  (h:Q (g8 g,[g8 a]) s):å (ä X.prog X.w) A (dv (g8 a) m pl) Q E s:=ë (MT I.gs e) λb O r _ _ _=>aC7 I.kIn O (c.get m) k.at_ k.fn (zF.none_of (by rw[<- l];exact r m)) h
theorem F2{Q:Unit->ã->Prop}(I:dS X d i H s)(e:H a=wz (.Œ C dx fs))(c:DK X.K C)(n:gA X.K C f)(J:iN fs<1000)(B:gQ y u)
  (h:∀l,dS X d i (fU H a (.Œ C dx (zB f y fs))) l->Q () l):å (ä X.prog X.w) A (setAttr (g8 a) f u) Q E s:=ë (MT I.gs e) λx O r m _ k=>by
 have t:iN (fs.map (·.1))<=bM:=by rw[aB,ei];exact ŀ
 refine aGh I.kIn O c.sa c.po n.taker c.hd m t λG j F=>h _ ?_;refine I.ĩ (by rw[e];exact j5) (i7 k) (λb q hb z=>(F.2 b hb).trans z) (let ⟨o,_,_,e',_⟩:=j.ns;#[o,e']) ?_;refine#[by rw[cC O.ne];exact k,2,O.ne,j.obj,_,j.ns,λg=>?_,λg p=>?_]
 .have:=D1 f y fs;exact aR ‹_› ‹_›
 .rw[DY];by_cases q:g=f
  .rw[b8 q,b8 q];exact B
  .rw[a9 q,a9 q];exact r g
 .by_cases q:g=f
  .rw[q];exact(C5 f y fs).1
  .refine(C5 f y fs).2 g (m g λz=>p ?_);show(if g=f then wz u else x g)=wx;rw[a9 q];exact z
def dS.made(I:dS X d i H s):dS X d i (fU (fU H s.heap.objs.size (.own (dl s.heap.objs+1))) (dl s.heap.objs+1) (.Œ C s.heap.objs.size []))
  { s with heap:=(s.heap.push jQ).push (lA C s.heap.objs.size) }:=by
 have c:(s.heap.push jQ).get? s.heap.objs.size=wz jQ:=bD s.heap eH
 have g:((s.heap.push jQ).push (lA C s.heap.objs.size)).get? (dl s.heap.objs+1)=wz (lA C s.heap.objs.size):=by
  have:=bD (s.heap.push jQ) (o:=lA C s.heap.objs.size) eH
  rwa [fR]at this
 refine(I.Ķ (a:=dl s.heap.objs) (o:=.own (dl s.heap.objs+1)) (h':=s.heap.push jQ) (t':=s.toks) (λb u q=>aI _ q) (aL _) #[_,c]).Ķ (λb u q=>aI _ q) (mX (fR _ _)) ?_;have ne:s.heap.objs.size≠dl s.heap.objs+1:=cO (mM _);refine#[by rw[cC ne,cL],bZ _,ne,g,λ_=>wx,(Heap.Ns1.of_empty (#[ϡ,jQ,(Ŭ []),_,c,1,(λe h=>c9 h dN),λ_=>rfl])).at λo q=>aI _ q,λ_=>j5,λy j=>c9 eH j]
def aIx{f s}{Q:á->ã->Prop}(hb:i4 e f ak (è e ak)=è e ak)
  (h:å (ä prog w) A (è e ak) (λo b=>å (ä prog w) A (getAttr o f ww) Q E b) E s):å (ä prog w) A (è (ą e f pos) ak) Q E s:=
 Attribute_any_ h (by rw[arm_eval_Attribute,hb])
end
def Gc(K:aH)(c:TE)(f:â):TE:=λd H Q=>c d H λx b=>∃a C dx fs v,x=.ref a/\b a=wz (.Œ C dx fs)/\DK K C/\gA K C f/\fs.lookup f=wz v/\Q v b
def LZ(K:aH)(e tv:TE)(f:â):TS:=λD b H=>tv b H λy d=>e b d λx c=>∃a C dx fs,x=.ref a/\c a=wz (.Œ C dx fs)/\DK K C/\gA K C f/\iN fs<1000 /\
 D.nx b (fU c a (.Œ C dx (zB f y fs)))
def Ey(X:Cx)(c:Operator)(d:V->V->Hp->VK->Prop):Prop:=
 ∀a s b H x y u v Q,dS X a b H s->gQ x u->gQ y v->d x y H Q->å (ä X.prog X.w) X.A (inplaceOp c u v) (EP X a b Q) X.xe s
def aGn(K:aH)(i tv:TE)(h:V->V->Hp->VK->Prop)(f:â):TS:=λD d H=>i d H λx e=>∃a C dx fs v,x=.ref a/\e a=wz (.Œ C dx fs)/\DK K C/\gA K C f/\fs.lookup f=wz v /\
 tv d e λy g=>h v y g λz H3=>∃c b,H3 a=wz (.Œ C c b)/\iN b<1000/\D.nx d (fU H3 a (.Œ C c (zB f z b)))
section
variable{X:Cx}{o e b:æ}{f:â}{pos d k:Pos}{g tv:TE}
def RJ(t:PE X e g)(hb:i4 e f X.ak (è e X.ak)=è e X.ak):PE X (ą e f pos) (Gc X.K g f):=by
 intro i s A H Q I h;refine aIx hb (kN (t i s A H _ I h) λu B z=>?_);refine Ø z λx j m y k=>Ô k λa C dx o=>ì o λfs v ex r c n l q=>?_;subst ex;obtain rfl:=y;exact G9 m r c n l λF E p w=>#[ϛ,v,j,p,w,q]
def vG(w:PE X o g)(A:PE X b tv)(z:lY b (wz (ą o f d)) pos.line X.ak=pure wv):PS X (Ā [ą o f d] b pos) (LZ X.K g tv f):=by
 intro i s j H D I h;refine plainObj_wpAny_Assign_Attribute (kN (A i s j H _ I h) λu F ξ=>Ø ξ λy m p E q=>kN (w i F j m _ p q) λL M G=>?_) z;refine Ø G λx J r B e=>Ò e λa C dx fs ex k=>Ó k λv c n l q2=>?_;subst ex;obtain rfl:=B;exact F2 r v c n l E λs3 t=>#[Ϛ,j,_,t,q2]
def WT{t:V->V->Hp->VK->Prop}(O:PE X o g)(P:PE X b tv)(p:Ey X op t):PS X (.AugAssign (ą o f k) op b pos) (aGn X.K g tv t f):=by
 intro i s j H D I h;refine wpAny_AugAssign_AttributeAny (kN (O i s j H _ I h) λZ s1 r=>?_);refine Ø r λx w B S d=>Ô d λa C dx e=>ì e λfs v ex M c n l q=>?_;subst ex;obtain rfl:=S;refine G9 B M c n l λu W E R=>kN (P i W j w _ E q) λY s3 ξ=>Ø ξ λy A F T q3=>kN (p i s3 j A v y u Y _ F R T q3) λw4 s4 r=>?_;exact Ø r λz H3 G U e=>Ø e λL N m Q q4=>F2 G m c n Q U λs5 J=>#[Ϛ,j,_,J,q4]
def Op:V->V->Hp->VK->Prop:=λx y H Q=>∃i j,x=.int i/\y=.int j/\Q (.int (i+j)) H
def aNs:Ey X .Add Op:=by
 rintro a s m H x y u v Q I h l ⟨i,j,rfl,rfl,q⟩;exact Ù u (show∃t,u=u7 i t from h) λt=>Ù v (show∃c,v=u7 j c from l) λc=>PyProof.Rows.iadd_int #[ϛ,.int (i+j),H,I.Ĭ _,#[0],q]
end
structure iL(k:Nat)(A:g3):Prop where
 hd:A.handled=wx
 dp:A.depth+3*k+5<br
 un:A.units+16*k+200<x8
 gd:A.guards=wz []
theorem iL.ko{j k:Nat}(r:iL k A)(h:j<=k):iL j A:=#[r.hd,by have:=r.dp;lia,by have:=r.un;lia,r.gd]
theorem iL.deeper{k:Nat}{A:g3}(r:iL (k+1) A)(ak:Env):iL k (A.deeper ak):=
 #[r.hd,by have:=r.dp;show A.depth+1+3*k+5<_;lia,by have:=r.un;show A.units+3+16*k+200<_;lia,r.gd]
theorem iL.in1{k:Nat}{A:g3}(r:iL (k+1) A):iL k A.in1:=
 #[r.hd,by have:=r.dp;show A.depth+3*k+5<_;lia,by have:=r.un;show A.units+1+16*k+200<_;lia,r.gd]
def R3{A:g3}{C:à}:(A.under (.builtin "type.__call__" #[g8 C::us,kw])).depth=A.depth+1:=by
 first | rfl | simp[bj,Code.weight,Code.isCreation,Code.isGuard,Code.isCaller,Code.frames,fb,guardIds]
def R1{A:g3}{C:à}:(A.under (.builtin "type.__call__" #[g8 C::us,kw])).units=A.units+1:=by
 first | rfl | simp[bj,Code.cUnits,Code.frames,fb]
theorem iL.make{k:Nat}{A:g3}(r:iL (k+1) A)(C:à)(b:List á)(a:List (â×á)):iL k (A.under (.builtin "type.__call__" #[g8 C::b,a])):=
 #[r.hd,by have:=r.dp;rw[R3];lia,by have:=r.un;rw[R1];lia,by first | exact r.gd | (simp[bj,Code.isGuard,guardIds];exact r.gd)]
theorem iL.depth{k:Nat}{A:g3}(r:iL k A):A.depth<br:=by have:=r.dp;lia
theorem iL.units{k:Nat}{A:g3}(r:iL k A):A.units+64<x8:=by have:=r.un;lia
def IN:TA:=λ_ H Q=>Q [] H
def vX(d:TE)(tr:TA):TA:=λa H Q=>d a H λx b=>tr a b λe c=>Q (x::e) c
section
variable{X:Cx}{e:æ}{a:List æ}{c:TE}{t:TA}{pos:Pos}
def mJ:PA X [] IN:=λ_ _ _ _ H Q I h=>Calls.spliced_nil #[ϛ,[],H,I,tj,h]
def gT(k:PE X e c)(l:PA X a t)(m:bR (e::a) X.ak=(wv,è e X.ak)::bR a X.ak|>ũ):PA X (e::a) (vX c t):=by
 intro pos b s d H Q I h;rw[m];refine Calls.spliced_cons (kN (k b s d H _ I h) λu p r=>?_);exact Ø r λx f i n q1=>kN (l pos b p d f _ i q1) λw v ξ=>Ø ξ λq g j o q2=>#[ϛ,x::q,g,j,Cl n o,q2]
def Pi(t:TA):TE:=λf H Q=>t f H λd b=>iN d<=bM/\∀p,b p=wx->Q (.ref p) (fU b p (.ņ d))
def Pe(t:TA):TE:=λf H Q=>t f H λd b=>iN d<=bM/\∀p,b p=wx->Q (.ref p) (fU b p (.u8 d))
def RH(h:PA X a t):PE X (.Tuple a x1 pos) (Pi t):=by
 intro d s m H Q I j;refine wpAny_Tuple_spliced (kN (h pos d s m H _ I j) λk g #[l,i,f,r,z,q]=>#[by rw[<- r.length];exact z,2]);refine#[ϛ,.ref g.heap.objs.size,fU i g.heap.objs.size (.ņ l),f.Ķ (λb u e=>aI _ e) (aL _) ?_,1,q _ (f.gs.fresh (aL _))];exact#[z,k,r,#[_,bD _ eH,101]]
def RI(h:PA X a t):PE X (.List a pos) (Pe t):=by
 intro d s m H Q I j;refine wpAny_List_spliced (kN (h pos d s m H _ I j) λk g #[l,i,f,r,z,q]=>#[by rw[<- r.length];exact z,2]);refine#[ϛ,.ref g.heap.objs.size,fU i g.heap.objs.size (.u8 l),f.Ķ (λb u e=>aI _ e) (aL _) ?_,1,q _ (f.gs.fresh (aL _))];exact#[z,k,(0),r,bD _ eH]
end
abbrev Sp:=List V->Hp->VK->XK->Prop
abbrev YA:=List Env->Hp->ã->XK->á->ã->Prop
structure S8(P:dF)(w:g6)(K:aH)(mg:â->Option á)(base:ç)(A:g3)(ag:List Env)(s:ã)(H:Hp):Prop where
 frames:A.frames=wz ag
 mod:Mod K mg base
 bs:∀b o,base.get? b=wz o->s.heap.get? b=wz o/\H b=wx
 bsz:base.objs.size<=s.heap.objs.size
 Ğ:s.heap.FunFrames base ag
 frf:∀b∈uM ag,H b=wx
 gs:rP P w H s.heap
 ŕ:z7 s.gens
 tab:Tb H
def CE(ag:List Env)(P:dF)(w:g6)(H:Hp)(s:ã)(Q:VK)(u:á)(a:ã):Prop:=
 ∃v b,a.os=s.os/\z7 a.gens/\Un (uM ag) [] H b s.heap a.heap/\rP P w b a.heap/\gQ v u/\Q v b
def CR(b:YA)(ag:List Env)(P:dF)(w:g6)(H:Hp)(s:ã)(Q:VK)(E:XK)(r:Result)(a:ã):Prop:=
 match r with
 |.ok (.ret u)=>CE ag P w H s Q u a
 |.ok _=>False
 |.error e=>b ag H s E e a
structure nG(P:dF)(w:g6)(K:aH)(mg:â->Option á)(base:ç)(CX:YA)(k:Nat)(f:à)(fd:jF)(ps:List â)(sp:Sp):Prop where
 len:∀vs H Q E,sp vs H Q E->vs.length=ps.length
 run:∀A ag s H(args:Args)(us:List á)(vs:List V)Q E,iL k A->S8 P w K mg base A ag s H->BindsTo s fd args (ps.zip us)->fX vs us->sp vs H Q E ->
  z9 (ä P w) A (.call (.ref f) args) (CR CX ag P w H s Q E) s
def nG.imp{K}{mg:â->Option á}{k:Nat}{f:à}{c b:Sp}(F:nG P w K mg base CX k f fd ps c)
  (h:∀vs H Q E,b vs H Q E->c vs H Q E):nG P w K mg base CX k f fd ps b:=
 #[λvs H Q E q=>F.len vs H Q E (h _ _ _ _ q),λA ag s H a j vs Q E e d hb i g=>F.run A ag s H a j vs Q E e d hb i (h _ _ _ _ g)]
def S8.make{K}{mg:â->Option á}{A:g3}(e:S8 P w K mg base A ag s H)(C:à)(b:List á)(a:List (â×á)) :
  S8 P w K mg base (A.under (.builtin "type.__call__" #[g8 C::b,a])) ag s H:=#[by first | exact e.frames | (simpa[bj,Code.envs,fb,pushEnvs]using e.frames),e.mod,e.bs,e.bsz,e.Ğ,e.frf,e.gs,e.ŕ,e.tab]
section
variable{X:Cx}{a:Ž}{f:St}{H:Hp}{s c:ã}
def dS.env0(I:dS X a f H s):S8 X.prog X.w X.K X.mg X.base X.A X.stack s H:=
 #[I.ok.frames,I.ok.mod,I.bs,aR I.ok.bsz I.sz,I.stack,I.stkFree,I.gs,I.ŕ,λP e=>let ⟨ps,h⟩:=I.ok.tab P e;let ⟨m,h'⟩:=I.base.ķ P ps h;#[_,h']]
def dS.after(I:dS X a f H s)(h:CE X.stack X.prog X.w H s Q u c):EP X a f Q u c:=ì h λv e os ŕ un gs r q=>by obtain⟨j,g,d,t,i⟩:=c;obtain rfl:=os;exact#[ϛ,v,e,I.call un gs ŕ (λb z=>c9 z dN),r,q]
end
def JQ(c:Sp)(a:List V)(E:XK)(t:TA):TE:=λd H Q=>t d H λvs b=>c (vs++a) b Q E
def FR(C:à)(m:â)(f:Sp)(b:List V)(E:XK)(g:TE)(t:TA):TE:=λd H Q=>g d H λx c=>∃a dx fs,x=.ref a/\c a=wz (.Œ C dx fs)/\fs.lookup m=wx /\
 t d c λvs e=>f (x::(vs++b)) e Q E
def ZP(C:à)(d:Sp)(b:List V)(E:XK)(t:TA):TE:=λe H Q=>t e H λvs a=>∀x dx,a x=wx->a dx=wx->dx≠x ->
 d (.ref x::(vs++b)) (fU (fU a dx (.own x)) x (.Œ C dx [])) (λv c=>v=.z8/\Q (.ref x) c) E
def sO(K:aH)(d:jF)(c:List â)(b:List á):Prop:=
 ∀s a,K.In s.heap->iN (a++b)=iN c->BindsTo s d #[a,[]] (c.zip (a++b))
def sO.all{K}{b:List â}(h:∀a,iN a=iN b->bindArgs fd #[a,[]]=pure (b.zip a)):sO K fd b []:=λs a _ c=>by
 rw[cG]at c |-
 exact .of_eq (h a c)
def xT(c:YA)(X:Cx)(E:XK):Prop:=∀a d H s e b,dS X a d H s->c X.stack H s E e b->X.xe e b
section
variable{X:Cx}{n:YA}{k:Nat}{f C:à}{y:jF}{j:List â}{z:Sp}{b:List V}{g:List á}{E:XK}{x m:â}{p pos d:Pos}{e o:æ}{i:List æ}{B:TE}{t:TA}
def Q5(F:nG X.prog X.w X.K X.mg X.base n k f y j z)(q:iL k X.A)(hb:sO X.K y j g)(hd:fX b g)(v:xT n X E)
  (I:dS X pins σ H s) (r:fX vs us) (h:z (vs++b) H Q E):å (ä X.prog X.w) X.A (call (g8 f) us) (EP X pins σ Q) X.xe s:=by
 have c:=r.append hd;have l:iN (us++g)=iN j:=by rw[<- c.length];exact F.len _ _ _ _ h
 refine ft (az (F.run X.A X.stack s H #[us,[]] (us++g) (vs++b) Q E q I.env0 (hb s us I.kIn l) c h) λr G a=>?_)
 cases r with
 |error e=>exact v pins σ H s e G I a
 |ok fl=>
  cases fl with
  |ret u=>exact I.after a
  |next=>exact i8 a
  |brk=>exact i8 a
  |cont=>exact i8 a
def rE(F:nG X.prog X.w X.K X.mg X.base n k f y j z)(N:iL k X.A)(J:Gl X x)(M:X.mg x=wz (g8 f))(L:gZ X.K (g8 f)=ww)(hb:sO X.K y j g)(hd:fX b g)(O:xT n X E)
  (v:PA X (e::i) t) (c:Ů x|>Ū) (G:bR (e::i) X.ak=(wv,è e X.ak)::bR i X.ak|>ũ) (l:(j7 pos (bR i X.ak)).any (·.1)=false|>ũ) :
  PE X (ă (KK x p) (e::i) [] pos) (JQ z b E t):=by
 intro a s P H Q I h;refine u2 (yM I J M ?_ c);refine sQ I.ok.mod.kin L (kN (v pos a s P H _ I h) λT S ξ=>Ø ξ λvs R u r q=>#[u.kIn,2]) G l;exact Q5 F N hb hd O u r q
def iH(T:PE X o B)(c:DK X.K C)(N:zG X.K C m f)(F:nG X.prog X.w X.K X.mg X.base n k f y j z)(U:iL k X.A)(hb:sO X.K y j g)(hd:fX b g)(Y:xT n X E)(S:PA X (e::i) t)
  (J:bR (e::i) X.ak=(wv,è e X.ak)::bR i X.ak|>ũ) (G:(j7 pos (bR i X.ak)).any (·.1)=false|>ũ)
  (W:è (ă (ą o m d) (e::i) [] pos) X.ak=(do
   let ov <- è o X.ak
   ff d.atName
   let (f,first) <- fe [ov] (dv ov m pl)
   callWith pos f first (j7 pos (bR (e::i) X.ak)) (ij pos (eh [] X.ak))):=by rfl) :
  PE X (ă (ą o m d) (e::i) [] pos) (FR C m z b E B t):=by
 intro v s O H Q I h;refine wH (kN (T v s O H _ I h) λu s1 zq=>?_) W;refine Ø zq λx P L Z p=>ß p λa dx fs ex R l q=>?_;subst ex;obtain rfl:=Z;refine AJ L R c N l ?_;refine sQ I.ok.mod.kin N.kp (kN (S pos v s1 O P _ L q) λus s2 ξ=>Ø ξ λvs H2 M r q2=>#[M.kIn,2]) J G;exact Q5 (vs:=.ref a::vs) F U hb hd Y M (Cl eH r) q2
def rY(L:PE X o B)(c:DK X.K C)(G:zG X.K C m f)(F:nG X.prog X.w X.K X.mg X.base n k f y j z)(M:iL k X.A)(hb:sO X.K y j g)(hd:fX b g)(O:xT n X E)
  (N:è (ă (ą o m d) [] [] pos) X.ak=(do
   let ov <- è o X.ak
   ff d.atName
   let (f,first) <- fe [ov] (dv ov m pl)
   callWith pos f first (j7 pos (bR [] X.ak)) (ij pos (eh [] X.ak))):=by rfl) :
  PE X (ă (ą o m d) [] [] pos) (FR C m z b E B IN):=by
 intro r s S H Q I h;refine wH (kN (L r s S H _ I h) λu U R=>?_) N;refine Ø R λx T v P t=>ß t λa dx fs ex J l q=>?_;subst ex;obtain rfl:=P;refine AJ v J c G l ?_;exact PySem.W.callWith_K0 v.kIn G.kp (Q5 (vs:=[.ref a]) F M hb hd O v (Cl eH tj) q)
structure Mk(K:aH)(C f:à):Prop where
 makes:YX K C=ww
 init:fB K (.ref C) "__init__"=wz (wz (.ref f))
 fn:NO K (.ref f)=ww
 kp:gZ K (.ref C)=ww
def aAe{H:Hp}{Q:VK}(M:Mk X.K C f)(F:nG X.prog X.w X.K X.mg X.base n k f y j z)(P:iL (k+1) X.A)(hb:sO X.K y j g)(hd:fX b g)
  (R:xT n X E) (I:dS X pins σ H s) (r:fX vs us)
  (h:∀x dx,H x=wx->H dx=wx->dx≠x->z (.ref x::(vs++b)) (fU (fU H dx (.own x)) x (.Œ C dx [])) (λv J=>v=.z8/\Q (.ref x) J) E) :
  å (ä X.prog X.w) X.A (call (g8 C) us) (EP X pins σ Q) X.xe s:=by
 have l:=h (dl s.heap.objs+1) s.heap.objs.size (I.gs.fresh (pL _)) (I.gs.fresh (aL _)) (cO (mM _));have c:=dS.made (C:=C) I;have q:fX (V.ref (dl s.heap.objs+1)::(vs++b)) (g8 (dl s.heap.objs+1)::(us++g)):=Cl eH (r.append hd)
 have O:iN (g8 (s.heap.objs.size+1)::us++g)=iN j:=by
  have e:=q.length;rw[F.len _ _ _ _ l]at e;exact e.symm
 refine ft (aCf I.kIn M.makes M.init (beq_iff_eq.mp M.fn) (az (F.run _ X.stack _ _ #[g8 (dl s.heap.objs+1)::us,[]] (g8 (dl s.heap.objs+1)::(us++g)) _ _ E (P.make C us [])
  (c.env0.make C us []) (hb _ (g8 (dl s.heap.objs+1)::us) c.kIn O) q l) λr T a=>?_))
 cases r with
 |error e=>exact R pins σ _ _ e T c a
 |ok fl=>
  cases fl with
  |ret u=>
   let v G L S N q3:=Ý (c.after a);subst N;exact#[S,#[ϛ,V.ref (dl s.heap.objs+1),G,L,1,q3]]
  |next=>exact i8 a
  |brk=>exact i8 a
  |cont=>exact i8 a
def L9(M:Mk X.K C f)(F:nG X.prog X.w X.K X.mg X.base n k f y j z)(N:iL (k+1) X.A)(J:Gl X x)(L:X.mg x=wz (g8 C))(hb:sO X.K y j g)(hd:fX b g)(O:xT n X E)
  (v:PA X (e::i) t) (c:Ů x|>Ū) (G:bR (e::i) X.ak=(wv,è e X.ak)::bR i X.ak|>ũ) (l:(j7 pos (bR i X.ak)).any (·.1)=false|>ũ) :
  PE X (ă (KK x p) (e::i) [] pos) (ZP C z b E t):=by
 intro a s P H Q I h;refine u2 (yM I J L ?_ c);refine sQ I.ok.mod.kin M.kp (kN (v pos a s P H _ I h) λT S ξ=>Ø ξ λvs R u r q=>#[u.kIn,2]) G l;exact aAe M F N hb hd O u r q
end
structure bL(N P:List â)(sc:Scope):Prop where
 kind:sc.kind=.function
 co:sc.isCoroutine=wv
 gen:sc.isGenerator=wv
 nd:N.Nodup
 pre:N.take P.length=P
 par:∀x∈P,sc.names.lookup x=wz .local\/sc.names.lookup x=wz .cell
 nofree:∀y∈sc.names,y.2≠.free
theorem K7{kindOf:â->Option o9}:∀{İ}{m:â->Option á},(∀v,(x,v)∉İ)->bindL kindOf İ m x=m x
|[],_,_=>rfl
| (n,v)::r,m,h=>by
 unfold bindL;rw[K7 λw hw=>h w (aE _ hw)];split
 .have:x≠n:=by rintro rfl;exact h v aJ
  simp[this]
 .rfl
theorem K9{kindOf:â->Option o9}:∀{İ}{m:â->Option á},(∀v,(x,v)∉İ)->bindC kindOf İ m x=m x
|[],_,_=>rfl
| (n,v)::r,m,h=>by
 unfold bindC;rw[K9 λw hw=>h w (aE _ hw)];split
 .rfl
 .have:x≠n:=by rintro rfl;exact h v aJ
  simp[this]
theorem K8{kindOf:â->Option o9}{v}:∀{P:List â}{vs}{i:Nat}{m:â->Option á},aYv P->P[i]?=wz x->vs[i]?=wz v->kindOf x=wz .local ->
 bindL kindOf (P.zip vs) m x=wz v
|[],_,_,_,_,h,_,_=>by simp at h
|_::_,[],_,_,_,_,h,_=>by simp at h
|p::P,w::vs,0,m,nd,h1,h2,hk=>by
 simp at h1 h2;subst h1;subst h2;show bindL kindOf ((p,w)::P.zip vs) m p=_;unfold bindL;rw[K7 λv a=>(jZ.mp nd).1 (IG a).1,b8 hk];simp
|p::P,w::vs,i+1,m,nd,h1,h2,hk=>by
 unfold bindL;exact K8 (i:=i) (jZ.mp nd).2 (Á h1) (Á h2) hk
theorem LA{kindOf:â->Option o9}{v}:∀{P:List â}{vs}{i:Nat}{m:â->Option á},aYv P->P[i]?=wz x->vs[i]?=wz v->kindOf x≠wz .local ->
 bindC kindOf (P.zip vs) m x=wz v
|[],_,_,_,_,h,_,_=>by simp at h
|_::_,[],_,_,_,_,h,_=>by simp at h
|p::P,w::vs,0,m,nd,h1,h2,hk=>by
 simp at h1 h2;subst h1;subst h2;show bindC kindOf ((p,w)::P.zip vs) m p=_;unfold bindC;rw[K9 λv a=>(jZ.mp nd).1 (IG a).1,a9 hk];simp
|p::P,w::vs,i+1,m,nd,h1,h2,hk=>by
 unfold bindC;exact LA (i:=i) (jZ.mp nd).2 (Á h1) (Á h2) hk
def oY(N:List â)(vs:List V):St:=vs.map wz++dW (iN N-iN vs) wx
def tJ(CX:YA)(P:dF)(w:g6)(K:aH)(mg:â->Option á)(base:ç)(N:List â)(qual:â)(scope:Scope)(f:à)(cd:á)(A:g3)(ag:List Env)(s:ã)(H:Hp)(E:XK):Cx where
 prog:=P
 w:=w
 K:=K
 mg:=mg
 base:=base
 A:=A.deeper (j8 qual scope s.heap.objs.size f cd)
 N:=N
 Ņ:=s
 H₀:=H
 ak:=j8 qual scope s.heap.objs.size f cd
 ag:=ag
 stack:=j8 qual scope s.heap.objs.size f cd::ag
 ex:=[]
 Ň:=ww
 fn:=λ_=>ww
 pn:=[]
 xe:=λe s'=>å (ä P w) (A.deeper (j8 qual scope s.heap.objs.size f cd)) (leaving (j8 qual scope s.heap.objs.size f cd) e) (λ_ ny=>CX ag H s E e ny) (λe' ny=>CX ag H s E e' ny) s'
def PZ{a:Scope}{n:Nat}(h:a.names.lookup x=wz f7):∃c,(ae n a.names []).lookup x=wz c:=by
 exact Option.isSome_iff_exists.mp (NP a.names n [] (j3 h))
theorem XM{K}{mg:â->Option á}{N l:List â}{d:Scope}{f:à}{cd}{A:g3}{s F:ã}{vs:List V}
  (S:bL N l d) (hd:A.handled=wx) (j:S8 P w K mg base A ag s H) (M:iN vs=iN l) (r:fX vs us)
  (x:InCallC s s.heap.objs.size (bindL (j8 qual d s.heap.objs.size f cd).kindOf (l.zip us) λ_=>wx) (ae (dl s.heap.objs+1) d.names []) (bindC (j8 qual d s.heap.objs.size f cd).kindOf (l.zip us) λ_=>wx) F) :
  dS (tJ CX P w K mg base N qual d f cd A ag s H E) [] (oY N vs) H F:=by
 have I:iN l<=iN N:=by have:=d9 iN S.pre;rw[bB]at this;lia
 let o O Z B:=Ö x.done;subst Z;have gK:∀b:à,b∉(tJ CX P w K mg base N qual d f cd A ag s H E).ex:=λb z=>c9 (show b∈([]:List à)from z) dN
 refine#[#[j.mod,S.kind,7,aL _,λy z c o g=>?_,λy hy=>?_,λy c _ h=>?_,λ_=>hd,ev j.frames,i7 #[7],λb z=>c9 z (gK b),j.bs,j.bsz,λb _ _=>gK b,λb z=>c9 z (gK b),j.Ğ,j.frf,j.tab],
  rfl,j.ŕ,Un.œ B,#[Ϙ,_,x.toInCall.ns,λi y v o g L=>?_],λy c h=>#[_,x.cell y c h],j.gs.fresh (aL _),λy c h=>?_,λp m=>c9 (show p∈([]:Ž)from m) dN,j.gs.œ B,2]
 .exact name_of_addr x.apart (i9 o) (i9 g)
 .rcases hy with hy | hy
  .exact PZ hy
  .exact c9 eH (S.nofree _ (i9 hy))
 .exact iG (x.above y c (i9 h))
 .have t:i<iN vs:=by
   unfold oY at g;by_cases t:i<iN vs
   .exact t
   .rw[eU (Á t)]at g;rw[mH]at g;split at g<;>cases g
  have G:vs[i]?=wz v:=by
   unfold oY at g;rw[fA (Á t),aK]at g
   cases e:vs[i]? with
   |none=>rw[e]at g;cases g
   |some a=>rw[e]at g;cases g;rfl
  let u C J:=Ê (r.get G)
  have m:l[i]?=wz y:=by
   rw[<- S.pre,NW cT];exact o
  have n:aYv l:=by rw[<- S.pre];exact S.nd.sublist (EB _ _)
  refine#[Ϙ,u,J,2];rcases S.par y (aU m)with k | k
  .exact j3 #[k,K8 n m C k]
  .refine Ë (PZ k) λc e=>i7 #[j3 k,c,e,2];have q:=x.cell y c e;rw[LA n m C (by show d.names.lookup y≠_;rw[k];decide)]at q;exact q
 .exact j.gs.fresh (iG (x.above y c (i9 h)))
 .unfold oY;show _=iN N;rw[aV,aB,List.length_replicate];lia
def Cw{K:aH}{mg:â->Option á}{k:Nat}{f:à}{name kV}
   {N l:List â} {C:Sp} (U:K.lookup f=wz #[oc,od,.func (pH name qual params body scope dV kV iq pm an dm ct),jc]) (m:sP K dm qual=ww) (S:bL N l scope)
  (len:∀vs H Q E,C vs H Q E->iN vs=iN l)
  (d:∀A ag s H vs Q E,iL k (A.deeper (j8 qual scope s.heap.objs.size f dm))->C vs H Q E ->
   ∃t,EK (tJ CX P w K mg base N qual scope f dm A ag s H E) body t/\t { nx:=λ_ c=>Q .z8 c,rt:=Q } (oY N vs) H) :
  nG P w K mg base CX (k+1) f (pH name qual params body scope dV kV iq pm an dm ct) l C:=by
 refine#[len,λA ag s H G X vs Q E p i hb r j=>?_];have F:=i.mod.kin.keeps λb o e=>(i.bs b o e).1
 have g:∀y∈l.zip X,scope.names.lookup y.1=wz .local\/(scope.names.lookup y.1=wz f7/\((ae (dl s.heap.objs+1) scope.names []).lookup y.1).isSome=ww):=λ⟨n,v⟩ T=>by
  rcases S.par n (IG T).1 with q | q
  .exact j3 q
  .exact i7 #[q,NP _ _ _ (j3 q)]
 refine codeAny_call_function p.depth (F _ _ U) eH S.co S.gen eH (PySem.W.codeRec_of F m) (hb _ _ _ _ ?_);let ak M L x:=wpAny_newFunctionEnv_cells S.kind g;subst M;refine#[(i.mod.nolimit.keeps λb o e=>(i.bs b o e).1).keeps x.toInCall.keep,codeAny_func ?_];let t R O:=Ê (d A ag s H vs Q E (p.deeper _) j);have I:dS (tJ CX P w K mg base N qual scope f dm A ag s H E) [] (oY N vs) H L:=XM S p.hd i (len _ _ _ _ j) r x;refine fG (R [] L (oY N vs) H _ I O) (λfl B h=>?_) λe B h=>h
 have ő:∀{a:St}{c:Hp}{v:V}{u:á},dS (tJ CX P w K mg base N qual scope f dm A ag s H E) [] a c B->gQ v u->Q v c->CE ag P w H s Q u B:=
  λ{a c v u} J z q=>#[Ϟ,v,c,J.os,J.ŕ,J.base,J.gs,z,q]
 cases fl with
 |ret u=>
  exact Ú h λv a c J z q=>ő J z q
 |next=>
  exact Ö h λa c J q=>ő (v:=V.z8) J eH q
 |brk=>
  exact Ö h λ_ _ _ q=>i8 q
 |cont=>
  exact Ö h λ_ _ _ q=>i8 q
section
variable{X:Cx}{x:â}{p pos:Pos}{e:æ}{a:List æ}{t:TA}{id T:String}{r:ű}
def YO(r:ű)(t:TA):TE:=λc H Q=>t c H λvs b=>r vs b Q
def nL(k:lW X (mt id) r)(m:Gl X x)(n:X.mg x=wx)(q:f6 x=wz (mt id))(j:PA X (e::a) t)(o:x≠"__name__"|>Ū)(c:Ů x|>Ū)
  (l:bR (e::a) X.ak=(wv,è e X.ak)::bR a X.ak|>ũ) (d:(j7 pos (bR a X.ak)).any (·.1)=false|>ũ):PE X (ă (KK x p) (e::a) [] pos) (YO r t):=by
 intro b s f H Q I h;refine u2 (AH I m n q ?_ o c);exact PyProof.Rows.callWith_builtin1 (kN (j pos b s f H _ I h) λw v ξ=>Ø ξ λvs g i u q1=>k b v f g vs w Q i u q1) l d
def rJ(k:lW X (fx T) r)(m:Gl X x)(n:X.mg x=wx)(q:f6 x=wz (fx T))(j:PA X (e::a) t)(o:x≠"__name__"|>Ū)(c:Ů x|>Ū)
  (l:bR (e::a) X.ak=(wv,è e X.ak)::bR a X.ak|>ũ) (d:(j7 pos (bR a X.ak)).any (·.1)=false|>ũ):PE X (ă (KK x p) (e::a) [] pos) (YO r t):=by
 intro b s f H Q I h;refine u2 (AH I m n q ?_ o c);exact m9 (kN (j pos b s f H _ I h) λw v ξ=>Ø ξ λvs g i u q1=>k b v f g vs w Q i u q1) l d
end
end L2
namespace HT
section
variable{prog:dF}{w:g6}{A:g3}{E:á->ã->Prop}{s:ã}
def cat_tup{t b:à}{vs a:List á}{Q:á->ã->Prop}(v:jo s.heap t (aPe vs))(hb:jo s.heap b (aPe a))(m:vs≠[])
  (q:a=[]->Q (g8 t) s) (r:a≠[]->Q (g8 s.heap.objs.size) { s with heap:=s.heap.push { cls:=fx "tuple",data:=Fr (aPe (vs++a)) } })
  (j:iN vs+iN a<=bM):å (ä prog w) A (l3 .Add (g8 t) (g8 b)) Q E s:=by
 obtain⟨⟨cls,l,data,p⟩,g,u,n,hd⟩:=id v;obtain⟨⟨k,d,data2,f⟩,c,h,o,i⟩:=id hb;subst u hd h i;have e:aPe vs++aPe a=aPe (vs++a):=by simp
 by_cases hw:a=[]
 .exact dk #[_,g,1] #[_,c,1] dw gf vV uS (tR _ _)
   (tuple_addW1 t b (aPe vs) (aPe a) n o l d p f (Á m) (by simp[hw])) #[g,c,q hw]
 .refine dk #[_,g,1] #[_,c,1] dw gf vV uS (tR _ _)
   (tuple_addW2 t b (aPe vs) (aPe a) n o l d p f (Á m) (Á hw) (by rw[bP,bP];exact j)) #[g,c,2]
  rw[e];exact r hw
def kr(n d:Nat):Option Int->Nat
|none=>d
|some v=>if v<0 then(v+(n:Int)).toNat else min (Ă v) n
def ģ(n d:Nat):kr n d wx=d:=rfl
theorem sIx_nat(n d k:Nat):kr n d (wz (k:Int))=min k n:=by
 show(if(k:Int)<0 then((k:Int)+(n:Int)).toNat else min (Ă (k:Int)) n)=min k n;rw[a9 cT,kB]
theorem sIx_le(n d:Nat)(hd:d<=n)(o:Option Int):kr n d o<=n:=by
 cases o with
 |none=>exact hd
 |some v=>
  show(if v<0 then(v+(n:Int)).toNat else min (Ă v) n)<=n;by_cases a:v<0
  .rw[b8 a];lia
  .rw[a9 a];exact oM _ _
theorem clip_eq(v:Int)(n d:Nat):(if v<0 then max (v+(n:Int)) 0 else min v (n:Int))=((kr n d (wz v):Nat):Int):=by
 show(if v<0 then max (v+(n:Int)) 0 else min v (n:Int))=(((if v<0 then(v+(n:Int)).toNat else min (Ă v) n):Nat):Int);by_cases a:v<0
 .simp only[b8 a];lia
 .simp only[a9 a];grind
theorem S0(lo a:Option Int)(n:Nat):u9 lo a 1 (n:Int)=(((kr n 0 lo:Nat):Int),((kr n n a:Nat):Int)):=by
 have b:¬((1:Int)<0):=by lia
 unfold u9;refine Prod.ext ?_ ?_
 .cases lo with
  |none=>rfl
  |some v=>exact clip_eq v n 0
 .cases a with
  |none=>rfl
  |some v=>exact clip_eq v n n
theorem RF(i j:Nat):o4 (i:Int) (j:Int) 1=j-i:=by
 unfold o4;have a:(1:Int)>0:=by lia
 split<;>lia
def FZ{v}{Q:Option Int->ã->Prop}(p:IsPart v o)(h:Q o s):å (ä prog w) A (Builtin.Slice.slicePartIndex v) Q E s:=by
 cases p with
 |none=>exact slicePart_none h
 |int i t=>exact slicePart_int h
def uF{d:à}{lo}{n:Nat}{Q:Int×Int×Nat->ã->Prop}(f:s.heap.IsSliceOf d vl vu o0)(g:IsPart vl lo)(i:IsPart vu b)
  (h:Q (((kr n 0 lo:Nat):Int),1,kr n n b-kr n 0 lo) s):å (ä prog w) A (Builtin.Slice.sliceApplied (g8 d) (pure (n:Int))) Q E s:=Õ (id f) λos c e a=>by refine aF (aF (g4 c a eH (aF (g4 c a eH (aF (g4 c a eH (aZ ?_)))))));refine aF (slicePart_none ?_);rw[a9 cS];refine aF (FZ g (aF (FZ i (aF (aZ ?_)))));show å _ _ (match u9 lo b 1 (n:Int)with | (lo,b)=>pure (lo,(1:Int),o4 lo b 1)) _ _ s;rw[S0 lo b n];show å _ _ (pure (((kr n 0 lo:Nat):Int),(1:Int),o4 ((kr n 0 lo:Nat):Int) ((kr n n b:Nat):Int) 1)) _ _ s;rw[RF];exact aZ h
theorem aAv(a:Array á)(i k:Nat):aPe ((eZ k).filterMap λ(m:Nat)=>a[((i:Int)+(m:Int)*1).toNat]?)=aPe ((a.toList.drop i).take k):=by
 have e:(λ(m:Nat)=>a[Ă ((i:Int)+(m:Int)*1)]?)=λm=>a[i+m]?:=by
  funext m;have:Ă ((i:Int)+(m:Int)*1)=i+m:=by lia
  rw[this]
 rw[e];have:=pick_run a i k;rw[Y5]at this;have b:((λx=>a[x]?)∘λx=>i+x)=λm=>a[i+m]?:=rfl;rw[b]at this;rw[this]
theorem Ġ{t i:à}{a:Array á}{lo}{Q:á->ã->Prop}(c:jo s.heap t a)(g:s.heap.IsSliceOf i vl vu o0)(l:IsPart vl lo)(m:IsPart vu hi)
  (hw:¬(kr a.size 0 lo=0/\kr a.size a.size hi=dl a))
  (h:Q (g8 s.heap.objs.size) { s with heap:=s.heap.push { cls:=fx "tuple",data:=Fr (aPe ((a.toList.drop (kr a.size 0 lo)).take (kr a.size a.size hi-kr a.size 0 lo))) } })
  (k:dl a<=bM):å (ä prog w) A (aj (g8 t) (g8 i)) Q E s:=by
 have b:sizeOk (Fr (aPe ((a.toList.drop (kr a.size 0 lo)).take (kr a.size a.size hi-kr a.size 0 lo)))):=by
  show((a.toList.drop (kr a.size 0 lo)).take (kr a.size a.size hi-kr a.size 0 lo)).toArray.size<=bM;rw[bP,bB,dA,eY];omega
 let os f d j:=Õ (id g);unfold aj
 try with_reducible refine al ?_
 first | refine aF (aZ ?_) | skip
 refine aF (kg c.typeIs cS ?_)
 refine aF (k9 c.typeIs l6
  (mW l6 c.typeIs ir ?_ (iz _ _)))
 show å _ _ (bh (g8 t) >>= _) _ _ s;refine aF (tupleItemsOf_ c ?_);refine aF (bb (#[Ϙ,os,f,d]) ?_);rw[b8 cS];refine aF (uF g l m ?_)
 have e:¬((((kr a.size 0 lo:Nat):Int)==0&&(1:Int)==1&&(kr a.size a.size hi-kr a.size 0 lo)==dl a)=ww):=by
  intro q;rw[dE,dE]at q;have q1:=cf q.1.1;have q2:=cf q.2;exact hw #[66]
 show å _ _ (if(((kr a.size 0 lo:Nat):Int)==0&&(1:Int)==1&&(kr a.size a.size hi-kr a.size 0 lo)==dl a)=ww then _ else _) _ _ s;rw[a9 e,aAv]
 first
  |exact aF (jE (aZ #[Ϙ,0,aZ h]) b)
  |exact aF (jE (aF (aZ (aZ #[0,aZ h]))) b)
  |exact aF (aF (jE (aZ (aZ #[0,aZ h])) b))
  |exact aF (aF (jE (aZ #[0,aZ h]) b))
end
end HT
namespace L2
abbrev TO:=St->Hp->(Option Int->Hp->Prop)->Prop
def PO(X:Cx)(e:Option æ)(t:TO):Prop:=
 ∀a s b H Q,dS X a b H s->t b H Q ->
  å (ä X.prog X.w) X.A (evalPart e X.ak) (λu d=>∃o c,dS X a b c d/\IsPart u o/\Q o c) X.xe s
def aFk:TO:=λ_ H Q=>Q wx H
def aPz(t:TE):TO:=λb H Q=>t b H λx a=>∃i,x=.int i/\Q (wz i) a
section
variable{X:Cx}{e:æ}{d:TE}{lo c:Option æ}{f th:TO}{pos g:Pos}
def aGy:PO X wx aFk:=by
 intro a s b H Q I h;rw[evalPart_none];exact aZ #[wx,H,I,.none,h]
def aGx(h:PE X e d):PO X (wz e) (aPz d):=by
 intro a s m H Q I hw;rw[evalPart_some];let u n l:=kN (h a s m H _ I hw);let x b j k q1:=Ø l;let i z q:=Ê q1;subst z;exact Ù u k λt=>#[ϛ,wz i,b,j,.int i t,q]
abbrev Ų:=V->Option Int->Option Int->Hp->VK->Prop
def gV(X:Cx)(r:Ų):Prop:=
 ∀a s j H x v h i lo c b Q,dS X a j H s->gQ x v->s.heap.IsSliceOf b h i o0->IsPart h lo->IsPart i c->r x lo c H Q ->
  ∃T id,typeLookup (fx T) "__getitem__"=pure (wz (mt id))/\s.TypeIs v T/\å (ä X.prog X.w) X.A (aj v (g8 b)) (EP X a j Q) X.xe s
def gV.or{r k:Ų}(h:gV X r)(t:gV X k):gV X (λx lo c H Q=>r x lo c H Q\/k x lo c H Q):=by
 intro a s p H x v n o lo c m Q I l b i j q;rcases q with q | q
 .exact h a s p H x v n o lo c m Q I l b i j q
 .exact t a s p H x v n o lo c m Q I l b i j q
def Mf(r:Ų)(d:TE)(f th:TO):TE:=λa H Q=>d a H λx b=>f a b λl h=>th a h λu H3=>r x l u H3 Q
def aA0{r:Ų}(C:gV X r)(z:PE X e d)(B:PO X lo f)(F:PO X c th):PE X (Ć e (.Slice lo c wx g) pos) (Mf r d f th):=by
 intro a s i H Q I h;refine iy (kN (z a s i H _ I h) λv L j=>?_);refine Ø j λx n p K q1=>wpAny_Slice (kN (B a L i n _ p q1) λk M ξ=>Ø ξ λl o t G q2=>kN (F a M i o _ t q2) λm s3 j=>?_);let u H3 w J q3:=Ø j;rw[evalPart_none];refine aZ ?_;exact Ø (C a { s3 with heap:=s3.heap.push { cls:=fx "slice",data:=Id (Ŭ [k,m,o0]) } } i H3 x v k m l u s3.heap.objs.size Q (w.œ (t':=s3.toks) λb ob q=>aI _ q) K (Heap.IsSliceOf.new ..) G J q3) λT id y E A=>tail_any E y A (by with_unfolding_all rfl)
def SU(a:List V)(lo c:Option Int):List V:=(a.drop (HT.kr (iN a) 0 lo)).take (HT.kr (iN a) (iN a) c-HT.kr (iN a) 0 lo)
theorem D5(a:List V)(lo c:Option Int):iN (SU a lo c)<=iN a:=by
 unfold SU;rw[bB,dA];lia
def Oq(K:aH):Ų:=λx lo c H Q=>∃a b,x=.ref a/\tV K H a b /\
 ¬(HT.kr (iN b) 0 lo=0/\HT.kr (iN b) (iN b) c=iN b)/\∀p,H p=wx->Q (.ref p) (fU H p (.ņ (SU b lo c)))
def aMd:gV X (Oq X.K):=by
 intro n s B H x v z A lo c y Q I w o t u h;let a j g p hw q:=Ý h;subst g;cases w;let k r l m:=Õ (I.tuple p);have i:dl k.toArray=iN j:=by rw[bP];exact r.length.symm
 refine#[ϛ,"tuple",_,PyProof.Rows.slot_tuple_getitem.lookup,l.typeIs,2];refine HT.Ġ l o t u (by rw[i];exact hw) ?_ (by rw[i];exact m);rw[i];refine#[ϛ,.ref s.heap.objs.size,_,I.Ķ (λb ob q=>aI _ q) (aL _) ?_,1,q _ (I.gs.fresh (aL _))];exact#[aR (D5 j lo c) m,_,(r.drop (HT.kr (iN j) 0 lo)).take (HT.kr (iN j) (iN j) c-HT.kr (iN j) 0 lo),JB.new _ _]
def Up(K:aH):R2:=λx y H Q=>∃a b i h,x=.ref a/\y=.ref b/\tV K H a i/\tV K H b h/\i≠[]/\iN i+iN h<=bM /\
 (h=[]->Q (.ref a) H)/\(h≠[]->∀p,H p=wx->Q (.ref p) (fU H p (.ņ (i++h))))
def fX.nil_iff(r:fX xs us):us=[]↔xs=[]:=by
 cases r with
 |nil=>simp
 |cons _ _=>simp
def aG6:oU X (l3 .Add) (Up X.K):=by
 intro m s C H x y v u Q I r t h;obtain⟨a,b,A,B,rfl,rfl,n,hb,o,k,q1,q2⟩:=h;cases r;cases t;refine Õ (I.tuple n) λp j p1 _=>Õ (I.tuple hb) λl i g _=>HT.cat_tup p1 g (λz=>o (j.nil_iff.mp z)) (λz=>#[ϛ,.ref a,H,I,1,q1 (i.nil_iff.mp z)]) (λz=>?_) (by rw[<- j.length,<- i.length];exact k);refine#[ϛ,.ref s.heap.objs.size,_,I.Ķ (λb ob q=>aI _ q) (aL _) ?_,1,q2 (λw=>z (i.nil_iff.mpr w)) _ (I.gs.fresh (aL _))];exact#[by rw[aV];exact k,_,j.append i,JB.new _ _]
end
def gO(n:Nat)(i:Int):Option Nat:=if 0<=i then(if i<n then wz (Ă i) else wx)else if -(n:Int)<=i then wz (Ă (i+n)) else wx
def y0{b:Type}(a:List b)(i:Int):Option b:=(gO (iN a) i).bind λj=>a[j]?
theorem aHt{n:Nat}{i:Int}{j:Nat}(h:gO n i=wz j):seqIndex? i n=wz j/\j<n/\-(n:Int)<=i/\i<n:=by
 unfold gO at h;by_cases b:0<=i
 .rw[b8 b]at h;by_cases a:i<n
  .rw[b8 a]at h;have e:=d7 h;exact#[by rw[seqIndex_of b a,e],66,a]
  .rw[a9 a]at h;cases h
 .rw[a9 b]at h;by_cases a:-(n:Int)<=i
  .rw[b8 a]at h;have e:=d7 h;exact#[by rw[seqIndex_neg cT a,e],6,a,6]
  .rw[a9 a]at h;cases h
def NG{g:Type}{a:List g}{i:Int}{v}(h:y0 a i=wz v):∃j,seqIndex? i (iN a)=wz j/\a[j]?=wz v/\j<iN a/\-(iN a:Int)<=i/\i<iN a:=by
 unfold y0 at h
 cases e:gO (iN a) i with
 |none=>rw[e]at h;cases h
 |some j=>
  rw[e]at h;exact Ü (aHt e) λb c d f=>#[j,b,h,c,d,f]
theorem dU{b:Type}{a:List b}{j:Nat}{v:b}(h:a[j]?=wz v):y0 a (j:Int)=wz v:=by
 have c:=(aD.mp h).1
 have e:gO (iN a) (j:Int)=wz j:=by
  unfold gO;rw[b8 cT,b8 cT];simp
 unfold y0;rw[e];exact h
theorem P5{b:Type}(a:List b)(v:b):y0 (a++[v]) (-1)=wz v:=by
 have c:iN (a++[v])=iN a+1:=by simp
 have e:gO (iN (a++[v])) (-1)=wz (iN a):=by
  unfold gO;rw[c,a9 cS,b8 cT];congr 1;lia
 unfold y0;rw[e];simp
def FG(b:æ):Prop:=∀o i,ej b wv o i=operate [o,i] (aj o i)
def hH(X:Cx)(r:R2):Prop:=
 ∀c a b s d H x y v u Q,dS X b d H s->gQ x v->gQ y u->r x y H Q ->
  ej a wv v u=operate [v,u] (aj v u)->å (ä X.prog X.w) X.A (subscriptTail c a v u) (EP X b d Q) X.xe s
def S5(X:Cx)(id:String)(r:V->ű):Prop:=
 ∀a s d H x c v b Q,dS X a d H s->gQ x v->fX c b->r x c H Q ->
  å (ä X.prog X.w) X.A (call (mt id) (v::b)) (EP X a d Q) X.xe s
section
variable{X:Cx}{a b:æ}{m B:TE}{pos:Pos}
def hH.or{r g:R2}(h:hH X r)(l:hH X g):hH X (λx y H Q=>r x y H Q\/g x y H Q):=by
 intro d c e s k H x y v u Q I i j q f;rcases q with q | q
 .exact h d c e s k H x y v u Q I i j q f
 .exact l d c e s k H x y v u Q I i j q f
def GD(g:hH X r)(f:PE X a m)(hb:PE X b B)(i:FG b):PE X (Ć a b pos) (ym r m B):=by
 intro c s n H Q I h;exact iy (Bi f hb I h λv u l x y d e j k q=>g a b c l n d x y v u Q e j k q (i _ _))
def Fk(K:aH):R2:=λx y H Q=>∃p c i v,x=.ref p/\y=.int i/\qE K H p c/\y0 c i=wz v/\Q v H
def Fp(K:aH):R2:=λx y H Q=>∃p c i v,x=.ref p/\y=.int i/\tV K H p c/\y0 c i=wz v/\Q v H
def Fl:R2:=λx y H Q=>∃z i c,x=.str z/\y=.int i/\v0 z<=bM/\y0 (aO6 z.cps) i=wz c/\Q (.str #[(Ŭ [c])]) H
theorem aHr:hH X (Fk X.K):=by
 intro n l c s P H x y v u Q I N O h C;obtain⟨p,U,i,z,rfl,rfl,M,J,q⟩:=h;cases N;let t m:=Ë O;subst m;refine Õ (I.list M) λf r g T=>ë (NG J) λj d E R F G=>Ê (r.get E) λw o k=>?_;have L:=r.length;have S:=GY;have ő:EP X c P Q w s:=#[ϛ,z,H,I,k,q];by_cases A:0<=i
 .have e:Ă i=j:=by
   rw[seqIndex_of A G]at d;exact d7 d
  exact item_listR (ā g) A cT (by rw[e];simpa using o) ő C
 .have e:Ă (i+(f.toArray.size:Int))=j:=by
   rw[seqIndex_neg cT F]at d;rw[bP,<- L];exact d7 d
  exact gz g.isList.typeIs slot_list_getitem.lookup
   (wpAny_getItem_list_neg (ā g) cT (by rw[bP]<;>lia) cT (by rw[e];simpa using o) #[1,ő]) C
def aNp:hH X (Fp X.K):=by
 intro e d f s R H x y v u Q I F G h C;obtain⟨p,P,i,z,rfl,rfl,A,o,q⟩:=h;cases F;let t m:=Ë G;subst m;refine Õ (I.tuple A) λE r g O=>ë (NG o) λj l n J L M=>Ê (r.get n) λw k c=>?_;have N:=GY
 exact gz g.typeIs slot_tuple_getitem.lookup
  (getItem_tuple g cT cT (by rw[bP,<- r.length];exact l) (Á k) #[1,(#[ϛ,z,H,I,c,q])]) C
theorem aNq:hH X Fl:=by
 intro e d g s J H x y v u Q I w A h r;refine ß h λz i c b a F m=>Ì m λo q=>?_;subst b a;let t b:=Ë w;subst b;let G b:=Ë A;subst b;let j f k C l n:=ë (NG o);have p:iN z.cps.toList=v0 z:=by simp[v0]
 rw[p]at f l n;have E:=GY
 exact tail_any (ba s z t) slot_str_getitem.lookup (getItem_str (by
  rw[(c7 cT),(c7 cT),NY]) (by rw[f];simpa using k) #[ϛ,.str #[(Ŭ [c])],H,I.Ĭ _,#[0],q]) r
def Ef(K:aH):R2:=λx y H Q=>Fk K x y H Q\/Fp K x y H Q\/Fl x y H Q
def iP:hH X (Ef X.K):=aHr.or (aNp.or aNq)
theorem LW(lo c:Option Int)(n:Nat):(x9 lo c wx n).1=((HT.kr n 0 lo:Nat):Int)/\(x9 lo c wx n).2.1=((HT.kr n n c:Nat):Int)/\(x9 lo c wx n).2.2=1:=by
 refine#[221]
 .cases lo with
  |none=>simp[x9,HT.kr]
  |some i=>
   simp only[x9,HT.kr,Y0,show(1:Int)>0 by decide,x2];by_cases h:i<0
   .simp only[h,x2]<;>grind
   .simp only[h,t8]<;>grind
 .cases c with
  |none=>simp[x9,HT.kr]
  |some i=>
   simp only[x9,HT.kr,Y0,show(1:Int)>0 by decide,x2];by_cases h:i<0
   .simp only[h,x2]<;>grind
   .simp only[h,t8]<;>grind
def IP(c:List á)(lo d:Option Int):slicePick (aPe c) lo d wx=aPe ((c.drop (HT.kr c.length 0 lo)).take (HT.kr c.length c.length d-HT.kr c.length 0 lo)):=í (LW lo d c.toArray.size) λe f g=>by unfold slicePick;rw[e,f,g];simp only[sliceRange_one,pick_run,bP]<;>rfl
def Fq(K:aH):Ų:=λx lo d H Q=>∃a c,x=.ref a/\qE K H a c/\∀p,H p=wx->Q (.ref p) (fU H p (.u8 (SU c lo d)))
theorem aGg:gV X (Fq X.K):=by
 intro g s y H x v u w lo e t Q I p i n o h;let a d z j q:=Ø h;subst z;cases p;let l r f k:=Õ (I.list j);have c:=r.length;refine#[ϛ,"list",_,slot_list_getitem.lookup,f.isList.typeIs,2];refine wpAny_getItem_list_slice (ā f) i n o .none dN ?_ (by rw[bP]<;>lia);rw[IP,<- c];refine#[ϛ,.ref s.heap.objs.size,_,I.Ķ (λb ob q=>aI _ q) (aL _) ?_,1,q _ (I.gs.fresh (aL _))];exact#[aR (D5 d lo e) k,_,(0),(r.drop (HT.kr (iN d) 0 lo)).take (HT.kr (iN d) (iN d) e-HT.kr (iN d) 0 lo),bD _ eH]
def BQ:V->Bool
|.z8=>ww
|.bl _=>ww
|.int _=>ww
|.str _=>ww
|_=>wv
def oD:V->V->Bool
|.z8,.z8=>ww
|.bl a,.bl b=>a==b
|.bl a,.int b=>(if a then 1 else 0)==b
|.int a,.bl b=>a==(if b then 1 else 0)
|.int a,.int b=>a==b
|.str a,.str b=>a==b
|_,_=>wv
def aOi{v}(f:gQ y u)(c:gQ x v)(g:BQ y=ww)(e:BQ x=ww):SeqAt.EqAt A s u v (oD y x):=by
 cases y with
 |z8=>
  cases f
  cases x with
  |z8=>cases c;exact SeqAt.EqAt.same _
  |bl b=>cases c;exact SeqAt.EqAt.none_bool b
  |int b=>exact Ù v c λt=>SeqAt.EqAt.none_int b t
  |str b=>exact Ù v c λt=>SeqAt.EqAt.none_str b t
  |_=>exact c9 (show wv=ww from e) bS
 |bl a=>
  cases f
  cases x with
  |z8=>cases c;exact SeqAt.EqAt.bool_none a
  |bl b=>cases c;exact SeqAt.EqAt.bool_bool a b
  |int b=>exact Ù v c λt=>SeqAt.EqAt.bool_int a b t
  |str b=>exact Ù v c λt=>SeqAt.EqAt.bool_str a b t
  |_=>exact c9 (show wv=ww from e) bS
 |int a=>
  refine Ù u f λd=>?_
  cases x with
  |z8=>cases c;exact SeqAt.EqAt.int_none a d
  |bl b=>cases c;exact SeqAt.EqAt.int_bool a d b
  |int b=>exact Ù v c λt=>SeqAt.EqAt.int_int a d b t
  |str b=>exact Ù v c λt=>ee a d b t
  |_=>exact c9 (show wv=ww from e) bS
 |str a=>
  refine Ù u f λd=>?_
  cases x with
  |z8=>cases c;exact SeqAt.EqAt.str_none a d
  |bl b=>cases c;exact SeqAt.EqAt.str_bool a d b
  |int b=>exact Ù v c λt=>ef a d b t
  |str b=>exact Ù v c λt=>SeqAt.EqAt.str_str a d b t
  |_=>exact c9 (show wv=ww from e) bS
 |_=>exact c9 (show wv=ww from g) bS
def oT(x:V)(u:á):Bool:=match u with
|o0=>oD .z8 x
|dh b=>oD (.bl b) x
|u7 i _=>oD (.int i) x
|ck z _=>oD (.str z) x
|_=>wv
def Jx(r:gQ y u)(f:BQ y=ww):oT x u=oD y x:=by
 cases y with
 |z8=>cases r;rfl
 |bl b=>cases r;rfl
 |int i=>refine Ù u r λt=>?_;rfl
 |str z=>refine Ù u r λt=>?_;rfl
 |_=>exact c9 (show wv=ww from f) bS
theorem NH{c:List V}{d:List á}(h:fX c d)(f:c.all BQ=ww):d.any (oT x)=c.any λy=>oD y x:=by
 induction h with
 |nil=>rfl
 |cons r t n=>rw[NX,dE]at f;rw[lN,lN,Jx r f.1,n f.2]
theorem GU{v}(e:gQ x v)(d:BQ x=ww){c:List V}{us}(h:fX c us)(f:c.all BQ=ww):∀u∈us,SeqAt.EqAt A s u v (oT x u):=by
 induction h with
 |nil=>intro u hu;cases hu
 |cons r t n=>
  intro g hu;rw[NX,dE]at f;rcases aN.mp hu with rfl | hu
  .rw[Jx r f.1];exact aOi r e f.1 d
  .exact n f.2 g hu
def zw(x:V)(c:List V):Bool:=c.any λy=>oD y x
def Eg(K:aH)(d:Bool):R2:=λx y H Q=>∃p c,y=.ref p/\(qE K H p c\/tV K H p c)/\BQ x=ww/\c.all BQ=ww/\Q (.bl (if d then !zw x c else zw x c)) H
def WY:oU X (e9 .In) (Eg X.K wv):=by
 intro f s l H x y v u Q I g j h;refine Ý h λp k t hq e z=>Ì z λfs q=>?_;subst t;cases j;rcases hq with hq | hq
 .refine Õ (I.list hq) λc r d i=>SeqAt.in_listAt (oT x) (ā d) (λw hw=>GU g e r fs w (Á hw)) #[ϛ,.bl _,H,I,12];rw[show c.toArray.any (oT x)=c.any (oT x) by simp,NH r fs];exact q
 .refine Õ (I.tuple hq) λc r d i=>SeqAt.in_tupleAt (oT x) d (λw hw=>GU g e r fs w (Á hw)) #[ϛ,.bl _,H,I,12];rw[show c.toArray.any (oT x)=c.any (oT x) by simp,NH r fs];exact q
theorem M8:lW X (mt "len") (λj H Q=>∃p d,j=[.ref p]/\(qE X.K H p d\/tV X.K H p d)/\Q (.int (iN d)) H):=by
 intro i s t H j o Q I r h;let p d z hq q:=Ø h;subst z;let u z l:=Ê (oG r);subst z;cases l;have n:=GY;rcases hq with hq | hq
 .refine Õ (I.list hq) λe g f k=>?_;have c:=g.length;exact Calls.call_len_list (ā f) (by simp only[bP]<;>lia) #[ϛ,.int (iN d),H,I.Ĭ _,#[s.toks+1,by rw[bP,c]],q]
 .refine Õ (I.tuple hq) λe g f k=>?_;have c:=g.length;exact len_tuple f (by simp only[bP]<;>lia) #[ϛ,.int (iN d),H,I.Ĭ _,#[s.toks+1,by rw[bP,c]],q]
theorem M7:lW X (mt "len") (λd H Q=>∃z,d=[.str z]/\v0 z<=bM/\Q (.int (v0 z)) H):=by
 intro c s i H d g Q I r h;let z y f q:=Õ h;subst y;obtain⟨u,rfl,t,rfl⟩:=oG r;have e:=GY;exact len_str cT #[ϛ,.int (v0 z),H,I.Ĭ _,#[0],q]
def lW.or{r e:ű}(h:lW X f r)(k:lW X f e):lW X f (λd H Q=>r d H Q\/e d H Q):=by
 intro c s j H d i Q I g q;rcases q with q | q
 .exact h c s j H d i Q I g q
 .exact k c s j H d i Q I g q
def jJ:lW X (fx "tuple") (λx H Q=>∃p d,x=[.ref p]/\((qE X.K H p d/\∀l,H l=wx->Q (.ref l) (fU H l (.ņ d)))\/(tV X.K H p d/\Q (.ref p) H))):=by
 intro f s A H x C Q I r h;obtain⟨p,d,rfl,h⟩:=h;let u z:=Þ C (oG r);cases z;rcases h with⟨i,q⟩ | ⟨i,q⟩
 .refine Õ (I.list i) λc k j v=>?_;have t:=k.length;refine call_tuple_list (ā j) (λg kp=>?_) (by simp only[bP]<;>lia);have n:=I.œ (t':=s.toks) kp
  have y:dS X f A (fU H g.objs.size (.ņ d)) { s with heap:=g.push { cls:=fx "tuple",data:=Fr (aPe c) } }:=
   n.Ķ (t':=s.toks) (λb o e=>aI _ e) (aL _) (show lI X.prog X.w _ _ _ (.ņ d)from#[v,c,k,JB.new _ _])
  exact#[ϛ,.ref g.objs.size,_,y,1,q _ (n.gs.fresh (aL _))]
 .exact Õ (I.tuple i) λc k j v=>call_tuple_same j #[ϛ,.ref p,H,I,1,q]
def Ba(K:aH)(T:String)(x:V)(H:Hp):Prop:=match x with
|.str _=>T="str"
|.int _=>T="int"
|.ref p=>(T="list"/\∃c,qE K H p c)\/(T="tuple"/\((∃o,K.lookup p=wz o/\o.cls=fx "tuple"/\o.dict=wx)\/∃c,tV K H p c)) \/
  (T="dict"/\((∃bt,H p=wz (.dK bt))\/∃bt,H p=wz (.dT bt)))\/(T="set"/\∃S n,H p=wz (.set S n))
|_=>False
def ZK{s:ã}{v}(I:dS X pins σ H s)(r:gQ x v)(ty:Ba X.K T x H) :
  s.TypeIs v T/\∀a,v=g8 a->∃ob,s.heap.get? a=wz ob/\ob.dict=none:=by
 cases x with
 |str z=>
  refine Ù v r λt=>?_;cases (show T="str" from ty);exact#[ba s z t,λ_ e=>nomatch e]
 |int i=>
  refine Ù v r λt=>?_;cases (show T="int" from ty);exact#[jj s i t,λ_ e=>nomatch e]
 |ref p=>
  cases r;rcases ty with⟨rfl,l,h⟩ | ⟨rfl,⟨o,d,g,hd⟩ | ⟨l,h⟩⟩ | ⟨rfl,d⟩ | ⟨rfl,S,n,d⟩
  .refine Õ (I.list h) λk _ j _=>#[j.isList.typeIs,λa e=>?_];cases e;exact Ý j λo n e c hd _=>#[o,e,hd]
  .refine#[#[o,I.kIn p o d,g],λa e=>?_];cases e;exact#[o,I.kIn _ o d,hd]
  .refine Õ (I.tupleN h) λo e g hd=>#[#[o,e,g],λa f=>?_];cases f;exact#[o,e,hd]
  .have z:∃o,s.heap.get? p=wz o/\o.ExactDict:=by
    rcases d with⟨bt,d⟩ | ⟨bt,d⟩
    .exact Ð (I.gs p _ d) λ_ _ _ _ y=>Ú y λo _ _ e ex _=>#[o,e,ex]
    .exact Ð (I.gs p _ d) λ_ _ _ _ y=>Ú y λo _ _ e ex _=>#[o,e,ex]
   refine Ê z λo e ex=>#[#[o,e,ex.1],λa f=>?_];cases f;exact#[o,e,ex.2.1]
  .refine Ò (I.gs p _ d) λo _ _ _ e y=>Ì y λex _=>#[#[o,e,ex.1],λa f=>?_];cases f;exact#[o,e,ex.2.1]
 |_=>exact i8 ty
def Co(K:aH)(T:String)(r:V->ű)(to:TE):TE:=λd H Q=>to d H λx c=>Ba K T x c/\r x [] c Q
def WG(K:aH)(T:String)(r:V->ű)(to:TE)(t:TA):TE:=λd H Q=>to d H λx c=>Ba K T x c/\t d c λf e=>r x f e Q
variable{o e:æ}{k:List æ}{to:TE}{t:TA}{name:â}{g d:Pos}{T id:String}{r:V->ű}
def Lv(A:PlainAttrs T)(slot:Slot T name id)(j:typeOf (mt id)=pure (fx "method_descriptor"))(y:S5 X id r)(z:PE X o to)
  (f:i4 o name X.ak (è o X.ak)=è o X.ak|>ũ) (i:(g.endLine==d.line)=true|>ũ):PE X (ă (ą o name g) [] [] d) (Co X.K T r to):=by
 intro c s p H Q I h;refine wpAny_Call_method0_late f i (kN (z c s p H _ I h) λv C E=>?_);exact Ý E λx q l n ty q1=>Ì (ZK l n ty) λu w=>#[Ϟ,T,id,A,slot,j,u,w,em eH (PySem.evalArgs_none (y c C p q x [] v [] Q l n tj q1))]
def eQ(M:PlainAttrs T)(slot:Slot T name id)(n:typeOf (mt id)=pure (fx "method_descriptor"))(G:S5 X id r)(J:PE X o to)(F:PA X (e::k) t)
  (i:i4 o name X.ak (è o X.ak)=è o X.ak|>ũ)
  (l:((j7 d (bR (e::k) X.ak)).all (λx=>!x.1)&&(ij d (eh [] X.ak)).all (λx=>x.1.isSome)
  &&decide (iN (e::k)+iN ([]:List Keyword)+(if([]:List Keyword).isEmpty then 0 else 1)<30))=true:=by rfl)
  (j:(g.endLine==d.line)=true|>ũ) (L:bR (e::k) X.ak=(wv,è e X.ak)::bR k X.ak|>ũ) (f:(j7 d (bR k X.ak)).any (·.1)=false|>ũ) :
  PE X (ă (ą o name g) (e::k) [] d) (WG X.K T r to t):=by
 intro c s p H Q I h;refine wpAny_Call_method_late i l j eH (kN (J c s p H _ I h) λv O S=>?_);refine Ý S λx y q w ty q1=>Ì (ZK q w ty) λC E=>#[Ϟ,T,id,M,slot,n,C,E,2];have u:=F d c O p y _ q q1;rw[L]at u |-
 refine em (by show(wv||(j7 d (bR k X.ak)).any (·.1))=wv;rw[f]<;>rfl) (fh ?_);exact kN u λR P ξ=>Ø ξ λvs z A N q2=>G c P p z x vs v R Q A w N q2
end
def L1(X:Cx)(id:String)(r:V->ű):Prop:=
 ∀a s d H x c v b Q,dS X a d H s->gQ x v->fX c b->r x c H Q ->
  å (ä X.prog X.w) X.A (call (mt id) (v::b)) (EP X a d Q) X.xe s
theorem fX.one{x us}(h:fX [x] us):∃u,us=[u]/\gQ x u:=by cases h with|cons r t=>cases t;exact#[0,r]
theorem fX.rep(h:fX xs us):∀k,fX (dW k xs).flatten (dW k us).flatten
|0=>tj
|k+1=>by
 rw[kI,kI,jY,jY];exact fX.append h (fX.rep h k)
theorem KL(b:List á):∀(k:Nat)(a:List á),
 Y4 (λd f=>d++f) (aPe a) (dW k (aPe b))=aPe (a++(dW k b).flatten)
|0,a=>by simp
|k+1,a=>by
 have e:aPe a++aPe b=aPe (a++b):=by simp
 have c:(a++b)++(dW k b).flatten=a++(dW (k+1) b).flatten:=by
  rw[kI,jY,dM]
 rw[<- c,<- KL b k (a++b),<- e,kI,lH]
section
variable{X:Cx}{a:Ž}{c:St}{H:Hp}{s:ã}{l:à}{d b:List V}
def dS.lset{h g:List á}{n:Nat}{f:Array á->Array á}{p:Nat}(I:dS X a c H s)(i:H l=wz (.u8 d))
  (e:s.heap.get? l=wz { cls:=fx "list",data:=Fr (aPe h) n }) (j:f (aPe h)=aPe g) (m:fX b g) (o:iN b<=bM) :
  dS X a c (fU H l (.u8 b)) { s with heap:=s.heap.update l (i3 f),toks:=p }:=by
 have q:=PySem.IsL.update e f;rw[j]at q;refine I.ĩ (by rw[i];exact trivial) (j3 eH) (λr u hb k=>(iT s.heap (i3 f) (j6 hb)).trans k) #[_,q] ?_;exact#[o,g,_,m,q]
def dS.lnew{e:List á}{t':Nat}(I:dS X a c H s)(f:fX b e)(g:iN b<=bM) :
  dS X a c (fU H s.heap.objs.size (.u8 b)) { s with heap:=s.heap.push { cls:=fx "list",data:=Fr (aPe e) },toks:=t' }:=
 I.Ķ (λ_ _ q=>aI _ q) (aL _) #[g,e,(0),f,bD _ eH]
theorem dS.fresh(I:dS X a c H s):H s.heap.objs.size=none:=I.gs.fresh (aL _)
def dS.lstM(I:dS X a c H s)(g:H l=wz (.u8 d)):iN d<=bM/\∃f n,fX d f/\iN d=iN f/\s.heap.get? l=wz { cls:=fx "list",data:=Fr (aPe f) n }:=Î (I.gs l _ g) λz f n r e=>#[z,f,n,r,r.length,e]
theorem OU{n:Nat}(h:n<=bM):o8 n=false:=by
 exact c7 (NR.mpr ‹_›)
end
section
variable{X:Cx}
def UG:V->ű:=λx vs H Q=>∃l a y,x=.ref l/\vs=[y]/\H l=wz (.u8 a)/\iN a<bM/\Q .z8 (fU H l (.u8 (a++[y])))
theorem gW:L1 X "list.append" UG:=by
 intro c s o H x vs v k Q I g f h;refine ß h λl m y t p b w=>Ì w λj q=>?_;subst t p;cases g;refine Þ k f.one λu d=>Î (I.lstM b) λz a n r w=>Ì w λi e=>t5 F.slot_list_append #[Ϙ,_,e,1] F.entry_list_append (F.args_list_append_2 _ _) (PySem.list_append l (aPe a) n u (by rw[bP];lia)) #[e,2];refine#[ϛ,.z8,_,I.lset b e dN (r.append (Cl d tj)) ?_,1,q];rw[aV,qO];exact ŀ
def aHj{c:Type}(a:List c)(k:Nat):(dW k a).flatten.length=k*iN a:=by
 induction k with
 |zero=>simp
 |succ k b=>rw[kI,jY,aV,b,Nat.succ_mul,aX8]
end
end L2
namespace Att
open PySem.W PySem.Calls
def EH{h}:∀ns vs,WellAll P h vs (ns.map WData.int)->IntsAre vs ns:=by
 intro ns
 induction ns with
 |nil=>
  intro vs w;rw[iD]at w;cases w;exact .nil
 |cons n ns c=>
  intro vs w;rw[aX]at w
  cases w with
  |cons a b=>
   cases a;exact .cons _ _ (c _ b)
theorem WO{l:OpenLaw}{n:Nat}(o:l.most=wz n){h:ç}{Ŗ}
  (b:l.row.toRowW.claim.pre args=ww) (i:WellAll P h Ŗ args) :
  ∃a vs ns,Ŗ=[g8 a]/\args=[WData.list (ns.map WData.int)]/\h.get? a=wz { cls:=fx "list",data:=Fr (aPe vs) }/\IntsAre vs ns/\iN ns<=n:=by
 let d r z j k:=Ø (hasAllW_cons ((pre_splitW b).1));subst z;obtain rfl:=hasAllW_nil k;let u z m:=Ê (hasW_list j);subst z;let ns z:=Ë (items_int m);subst z
 have e:iN ns<=n:=by
  have f:(WTm.not (.lt (.lit (.int (n:Int))) (.len (.arg 0)))).holds [] { args:=[.list (ns.map .int)] }=true:=by
   have f:=(holds_andW ((pre_splitW b).2)).1;rw[o]at f;exact f
  have g:=condW_of f (w_not (w_lt w_lit (w_len_list (w_arg eH))));rw[aB]at g;refine Nat.le_of_not_lt λq=>?_
  first
   | (rw[c6 q']at g;exact c9 g cS)
   | (simp at g;lia)
 cases i with
 |cons s t=>
  cases t
  cases s with
  |list p c=>exact#[Ϣ,3,ns,7,p,EH ns _ c,e]
def WU(l:OpenLaw)(args:List WData):l.row.toRowW.claim.post args (.bool ww) args=true:=
 postW_of
  (show WShape.has [] (.bool ww) .bool=ww by first | rfl | decide | simp[WShape.has,WShape.arms,WShape.armsAll])
  (show(WTm.eq .res (.lit (.bool ww))).value [] { args:=args,res:=wz (.bool ww),after:=args }=wz (.bool (ww==ww))from w_eq_bool (w_res eH) w_lit) eH
def attach_call{l:OpenLaw}{n:Nat}{v:(â->Option á)->ç->Prop}{x:g6->ç->Prop}{d:DefRec}
  (J:l.most=wz n) (m:d.params.defaults=[])
  (call:∀w Ņ b mg t fa o u cd c a vs ns,
   Ground q loose [] v w Ņ mg t b.heap->x w b.heap ->
   b.heap.get? fa=wz o->o.data=.func (docDef d.name d.params d.body d.scope u cd c)->b.heap.CodeRec cd d.name->mg d.name=wz (g8 fa) ->
   b.heap.get? a=wz { cls:=fx "list",data:=Fr (aPe vs) }->IntsAre vs ns->iN ns<=n->b.gens=(Ŭ []) ->
   z9 (ä l.prog w) di (.call (g8 fa) #[[g8 a],[]]) (λr j=>r=.ok (.ret (dh ww))/\OldK b.heap j.heap/\j.os=b.os/\z7 j.gens) b) :
  WalkO q loose v x l.row.toRowW d [] (λf vs=>fv f vs):=by
 intro w Ņ b mg t G Y fa o u cd c O kV K hd k z p F y Ŗ N i A M s H;obtain rfl:=Dflts.none z m;obtain rfl:=Dflts.noKw z;refine Ô (WO J i s) λa vs ns ψ=>î Ŗ ψ λχ=>ï y χ λh e g=>enter_call (az (call w Ņ b mg t fa o u cd c a vs ns G Y K (fd_plain hd) k p h e g F) λr j L=>?_);exact ï r L λB C E=>#[j3 #[Ϣ,dh ww,.bool ww,[],1,λ_=>rfl,.bool ww,WU l _,λ_=>#[CC.nil,λ_ I=>(nomatch I)]],B,C,E]
end Att
namespace L2
theorem JL{vs}{ns:List Int}(h:IntsAre vs ns):fX (ns.map V.int) vs:=by
 induction h with
 |nil=>exact .nil
 |cons n t h i=>exact .cons #[t,1] i
def Bq(H:Hp):Prop:=∀b,H b=wx\/(∃o c,H b=wz (.frz o (.u8 c)))\/(ĳ=wz b/\∃a,H b=wz (.tbl a))
def aCm{K:aH}{mg mb:â->Option á}{CX:YA}{k:Nat}{fa a:à}{x:â}{sp:Sp}{f:ã}{vs:List á}{ns:List Int}
  (KX:K.In f.heap) (S:f.heap.Ns iR mg) (hb:f.heap.Ns t9 mb) (Z:∀x:â,x≠"__name__"->mb x=f6 x) (R:f.heap.NoLimit) (hg:f.gens=(Ŭ []))
  (N:f.heap.get? a=wz { cls:=fx "list",data:=Fr (aPe vs) }) (hi:IntsAre vs ns) (hl:iN ns<=bM) (hr:iL k di)
  (qz:∃O o,mg "__builtins__"=wz (g8 O)/\O≠t9/\f.heap.get? O=wz o/\o.cls=fx "module"/\o.dict=wz t9/\o.data=.plain)
  (G:∀P,ĳ=wz P->f.heap.get? P=wz { cls:=o0,data:=Id (Ŭ []) }/\K.lookup P=wx/\bq f.heap P)
  (F:∀base:ç,K.In base->base.Ns iR mg->nG P w K mg base CX k fa fd [x] sp) (I:∀s(u:á),BindsTo s fd #[[u],[]] [(x,u)])
  (uf:∀H:Hp,Bq H->qE K H a (ns.map V.int)->sp [.ref a] H (λv _=>v=.bl ww) λ_ _ _=>False)
  (X:∀H e l,CX [] H f (λ_ _ _=>False) e l->False) :
  z9 (ä P w) di (.call (g8 fa) #[[g8 a],[]]) (λr l=>r=.ok (.ret (dh ww))/\OldK f.heap l.heap/\l.os=f.os/\z7 l.gens) f:=by
 have rv:=JL hi;have T:=hi.length
 have aT:∀P,ĳ=wz P->P≠a:=λP e z=>by
  have j:=(G P e).1;rw[z,N]at j;cases j
 have B:∀H:Hp,Bq H->qE K H a (ns.map V.int)->rP P w H f.heap->(∀b,H b≠wx->b=a\/ĳ=wz b)->(H a≠wx->K.lookup a=wx)->Tb H ->
   z9 (ä P w) di (.call (g8 fa) #[[g8 a],[]]) (λr l=>r=.ok (.ret (dh ww))/\OldK f.heap l.heap/\l.os=f.os/\z7 l.gens) f:=by
  intro H hO hS gs W hK Y;have i:∀{b:à}{o:Obj},f.heap.get? b=wz o->H b=wx->(MU f.heap H).get? b=wz o:=λe n=>aC4 e n
  have gK:∀{b:à}{o:Obj}{L:Array gk}{J:Nat},f.heap.get? b=wz o->o.data=.dict L J->H b=none:=λ{b o L J} e d=>by
   cases q:H b with
   |none=>rfl
   |some u=>
    rcases W b (by rw[q];simp)with e' | e'
    .subst e';rw[N]at e;cases e;have E:Data.seq (aPe vs) _=Data.dict L J:=d;cases E
    .rw[(G b e').1]at e;cases e;have E:Data.fields (Ŭ [])=Data.dict L J:=d;cases E
  have uy:∀{b:à}{o:Obj},f.heap.get? b=wz o->o.data=.plain->H b=none:=λ{b o} e d=>by
   cases q:H b with
   |none=>rfl
   |some u=>
    rcases W b (by rw[q];simp)with e' | e'
    .subst e';rw[N]at e;cases e;have E:Data.seq (aPe vs) _=Data.plain:=d;cases E
    .rw[(G b e').1]at e;cases e;have E:Data.fields (Ŭ [])=Data.plain:=d;cases E
  have y:∀{b:à}{m:â->Option á},f.heap.Ns b m->(MU f.heap H).Ns b m:=λ{b m} ⟨o,L,J,e,d,r⟩=>#[Ϡ,o,L,J,i e (gK e d),d,r]
  have Q:K.In (MU f.heap H):=λb o e=>i (KX b o e) (by
   cases q:H b with
   |none=>rfl
   |some u=>
    rcases W b (by rw[q];simp)with e' | e'
    .subst e';rw[hK (by rw[q];simp)]at e;cases e
    .rw[(G b e').2.1]at e;cases e)
  have hM:Mod K mg (MU f.heap H):=#[Q,y S,#[mb,y hb,Z],let ⟨mc,j,M⟩:=R;#[mc,y j,M],let ⟨O,o,b1,b2,b3,b4,b5,b6⟩:=qz;#[Ϟ,O,o,b1,b2,i b3 (uy b3 b6),b4,b5,b6]];have e0:S8 P w K mg (MU f.heap H) di [] f H:=#[1,hM,λb o e=>aHa e,mX (XN _ _),trivial,λb hb=>c9 (show b∈([]:List à)from hb) dN,gs,.of_eq hg,Y];let r l h:=az ((F _ Q (y S)).run di [] f H #[[g8 a],[]] [g8 a] [.ref a] _ _ hr e0 (I f (g8 a)) (Cl eH tj) (uf H hO hS))
  cases r with
  |error e=>exact(X H e l h).elim
  |ok fl=>
   cases fl with
   |next=>exact i8 h
   |brk=>exact i8 h
   |cont=>exact i8 h
   |ret u=>
    let v H' os ŕ un C r' q:=ì h;have q':v=.bl true:=q;subst q';obtain rfl:u=dh true:=r'
    have old:∀b o,f.heap.get? b=wz o->l.heap.get? b=wz o\/(bq f.heap b/\o={ cls:=o0,data:=Id (Ŭ []) }/\∃qs:Array á,l.heap.get? b=wz { cls:=o0,data:=Id qs }):=λb o e=>by
     cases q:H b with
     |none=>exact j3 (un.keep b o e q (by intro z;exact c9 (show b∈([]:List à)from z) dN) dN)
     |some u=>
      rcases hO b with z | ⟨ob,xs,z⟩ | ⟨t,ps,z⟩
      .rw[q]at z;cases z
      .have z2:=un.ĵ b ob _ z;refine Ì (gs b _ z) λe1 _=>Ì (C b _ z2) λU _=>?_;rw[e]at e1;cases e1;exact j3 U
      .refine í (G b t) λj M h3=>Ë (un.ķ b ps z) λm z2=>Ê (C b _ z2) λqs U _=>?_;rw[e]at j;cases j;exact i7 #[h3,1,qs,U]
    refine#[1,#[λb o e=>?_,λb o e=>?_],os,ŕ]
    .rcases old b o e with j | ⟨j,rfl,qs,M⟩
     .exact j3 j
     .exact i7 (j3 #[j,1,(Ŭ []),qs,1,by rw[M];simp])
    .rcases old b o e with j | ⟨j,rfl,qs,M⟩
     .exact#[_,j]
     .exact#[_,M]
 cases hk:K.lookup a with
 |some o=>
  have e:=KX a o hk;rw[N]at e;cases e;refine B (λb=>if ĳ=wz b then wz (.tbl (Ŭ []))else wx) (λb=>?_) (i7 #[_,aPe vs,_,hk,1,#[7],1,by rw[bP,T];exact hl,Á rv]) (λb u z=>?_) (λb z=>?_) (λz=>?_) λP e=>#[(Ŭ []),b8 e]
  .by_cases hb:ĳ=wz b
   .exact i7 (i7 #[hb,(Ŭ []),b8 hb])
   .exact j3 (a9 hb)
  .by_cases hb:ĳ=wz b
   .have A:=(b8 hb).symm.trans z;cases A;exact#[ϙ,(Ŭ []),(G b hb).1,trivial,λp c q=>by cases q]
   .have A:=(a9 hb).symm.trans z;cases A
  .by_cases hb:ĳ=wz b
   .exact i7 hb
   .exact c9 (a9 hb) z
  .exact c9 (a9 λe=>aT a e eH) z
 |none=>
  refine B (λb=>if ĳ=wz b then wz (.tbl (Ŭ []))else if b=a then wz (.frz { cls:=fx "list",data:=Fr (aPe vs) } (.u8 (ns.map V.int)))else wx) (λb=>?_) (j3 (i7 #[{ cls:=fx "list",data:=Fr (aPe vs) },(a9 λe=>aT a e eH).trans (b8 eH)])) (λb u z=>?_) (λb z=>?_) (λ_=>hk) λP e=>#[(Ŭ []),b8 e]
  .by_cases g:ĳ=wz b
   .exact i7 (i7 #[g,(Ŭ []),b8 g])
   .by_cases hb:b=a
    .exact i7 (j3 #[3,(a9 g).trans (b8 hb)])
    .exact j3 ((a9 g).trans (a9 hb))
  .by_cases g:ĳ=wz b
   .have A:=(b8 g).symm.trans z;cases A;exact#[ϙ,(Ŭ []),(G b g).1,trivial,λp c q=>by cases q]
   .by_cases hb:b=a
    .have A:=((a9 g).trans (b8 hb)).symm.trans z;cases A;subst hb;exact#[N,by rw[aB];exact hl,vs,_,rv,N]
    .have A:=((a9 g).trans (a9 hb)).symm.trans z;cases A
  .by_cases g:ĳ=wz b
   .exact i7 g
   .by_cases hb:b=a
    .exact j3 hb
    .exact c9 ((a9 g).trans (a9 hb)) z
def aFi{l:cj}{n k:Nat}{I:(â->Option á)->ç->Prop}{p:g6->ç->Prop}{d:DefRec}{K:Params->aH}{CX:g6->YA}{sp:g6->Sp}
  (U:l.most=wz n) (A:n<=bM) (y:d.params.defaults=[]) (X:iL k di)
  (Q:∀w h,p w h->(K w.params).In h) (O:∀w h,p w h->∀P,ĳ=wz P->h.get? P=wz { cls:=o0,data:=Id (Ŭ []) }/\(K w.params).lookup P=wx/\bq h P)
  (F:∀w mg fa h,(K w.params).In h->h.Ns iR mg->mg d.name=wz (g8 fa) ->
   ∃r,(∀s u,BindsTo s r #[[u],[]] [(x,u)]) /\
    ∀base,(K w.params).In base->base.Ns iR mg->nG l.prog w (K w.params) mg base (CX w) k fa r [x] (sp w))
  (B:∀(w:g6)H(a:à)(ns:List Int),iN ns<=n->Bq H->qE (K w.params) H a (ns.map V.int)->sp w [.ref a] H (λv _=>v=.bl ww) λ_ _ _=>False)
  (t:∀w H s e C,CX w [] H s (λ_ _ _=>False) e C->False) :
  aFa q loose I p l.row.toRowW d [] (λf vs=>fv f vs):=by
 let w Ņ m mg mb fa o pm cd J a vs ns G Y Z hd R z j i c S:=Att.attach_call U y;have E:=Q w _ Y;exact Ê (F w mg fa _ E G.T.g z) λr hb L=>aCm E G.T.g G.T.b G.T.builtins G.T.nolimit S j i (aR c A) X G.T.bmain (O w _ Y) L hb (λH M N=>B w H a ns c M N) λH e C=>t w H m e C
def B0(s:é):Arguments:=match s with
|.FunctionDef _ a _ _ _ _ _ _ _ _=>a
|_=>{ posonlyargs:=[],args:=[],vararg:=wx,kwonlyargs:=[],kw_defaults:=[],kwarg:=wx,defaults:=[] }
def mL(s:é):List Stmt:=match s with
|.FunctionDef _ _ b _ _ _ _ _ _ _=>b
|_=>[]
def aQ(s:é):Scope:=match s with
|.FunctionDef _ _ _ _ _ _ sc _ _ _=>sc
|_=>{ kind:=ć,names:=[],isGenerator:=wv,isCoroutine:=wv }
abbrev rH:YA:=λ_ _ _ _ _ _=>False
abbrev E0:XK:=λ_ _ _=>False
def jN:xT rH X E0:=λ_ _ _ _ _ _ _ h=>h.elim
structure QK(K:aH)(x qual:â)(st:é)(f:à)(fd:jF):Prop where
 ex:∃(oc:á)(od:Option à)(kV iq pm:á)(an:Option à)(dm ct:á)(jc:Array (Option á)),
  fd=pH x qual (B0 st) (mL st) (aQ st) .none kV iq pm an dm ct/\K.lookup f=wz #[oc,od,.func fd,jc]/\sP K dm qual=ww
 kp:gZ K (.ref f)=ww
section
variable{P:dF}{w:g6}{K:aH}{mg:â->Option á}{base:ç}
def QK.ok{st}{f:à}{N e:List â}{k:Nat}{g:Sp}(F:QK K x qual st f fd)(S:bL N e (aQ st))(len:∀vs H Q E,g vs H Q E->iN vs=iN e)
  (b:∀a A ag s H vs Q E,iL k (A.deeper (j8 qual (aQ st) s.heap.objs.size f a))->g vs H Q E ->
   ∃t,EK (tJ rH P w K mg base N qual (aQ st) f a A ag s H E).nox (mL st) t/\t { nx:=λ_ i=>Q .z8 i,rt:=Q } (oY N vs) H):nG P w K mg base rH (k+1) f fd e g:=by
 obtain⟨o,p,kV,j,r,an,a,ct,n,rfl,m,c⟩:=F.ex;let A ag s H vs Q E l d:=Cw m c S len;exact Ê (b a A ag s H vs Q E l d) λt h q=>#[t,h.nox,q]
def QK.İ{st}{f:à}{d:List â}(F:QK K x qual st f fd)
  (h:∀kV b c an a ct e,iN e=iN d->bindArgs (pH x qual (B0 st) (mL st) (aQ st) o0 kV b c an a ct) #[e,[]]=pure (d.zip e)):sO K fd d []:=ð F.ex λk l kV b c an y=>Ç y λa ct z=>Í fd z λi j g=>.all (h kV b c an a ct)
def Kp{st}{f:à}{kV}(l:K.lookup f=wz #[oc,od,.func (pH x qual (B0 st) (mL st) (aQ st) o0 kV iq pm an dm ct),jc])
  (c:sP K dm qual=ww) (k:gZ K (g8 f)=ww):QK K x qual st f (pH x qual (B0 st) (mL st) (aQ st) o0 kV iq pm an dm ct):=#[#[oc,od,kV,iq,pm,an,dm,ct,jc,1,l,c],k]
end
def WK{n:Nat}(h:n<=1000):n<bM:=tU h cS
def pv{X:Cx}(i:Nat){x:â}(b:X.N[i]?=wz x|>ũ)(c:zh X.ak.scope x|>ţ)(hd:Ů x|>Ū)
  (a:(x==("__classdict__":â))=false|>Ū):PE X (KK x pos) (qQ i):=La b c hd a
def bJ(H a:Hp):Prop:=∀b o,H b=wz o->a b=wz o
def bJ.refl(H:Hp):bJ H H:=λ_ _ h=>h
def bJ.trans(a:bJ H H1)(b:bJ H1 H2):bJ H H2:=λc o h=>b c o (a c o h)
def bJ.seq{K}{a:à}(e:bJ H H')(h:qE K H a xs):qE K H' a xs:=by
 rcases h with(h | ⟨o,h⟩) | h
 .exact j3 (j3 (e _ _ h))
 .exact j3 (i7 #[o,e _ _ h])
 .exact i7 h
def aHz{E:á->ã->Prop}{Q:Unit->ã->Prop}(a:Q () s) :
  å M A (bc tg it (ck z t)) Q E s:=by
 cases tg<;>first
  |exact aZ a
  | (cases it<;>exact aZ a)
def Ay(z:â):It:=#[λi _=>i<dl z.cps,λi H x a=>a=H/\∃c,z.cps[i]?=wz c/\x=.str #[(Ŭ [c])],λi _=>dl z.cps<=i]
def WC{K}(it:à)(z:â)(t:Tok)
  (W:∀A,A.handled=wx->Walks P w A it [it] [it] z.cps.size (SignAt z) (λi h=>h.IsStrIter it ty z t i))
  (S:∀A i s Q E,s.heap.IsStrIter it ty z t i->Q (g8 it) s->å (ä P w) A (jd (g8 it)) Q E s) :
  P6 P w K tg (Ay z) [it] it (λi h=>i<=dl z.cps/\h.IsStrIter it ty z t i) where
 mem:=by simp
 obj:=λi h st b hb=>by
  obtain rfl:b=it:=Á hb
  exact Ï st λ_ o e y=>Ì y λc d=>#[Ϙ,o,e,λv q=>by rw[d]at q;cases q]
 keep:=λi h h' st k=>Ï st λl o e r=>#[l,o,k it dN o e,r]
 item:=by
  intro X hP hw hK hc i pins s σ H E I hf st hg;refine Û (hf it dN) λf0 f1 f2 f3 f4 f5=>(W X.A (I.ok.hd hc)).item i s _ _ hg st.2 λv h' tk hv ie kk=>?_;exact Ç hv λc u y=>ñ v y λhx=>#[Ϙ,0,aHz #[ϝ,.str #[(Ŭ [c])],H,(I.ĸ (λb o hb e=>kk b o (Á hb) e) f0 f1 f3 f4 f5),#[u,1],#[1,c,hx,1],#[hg,ie],λb hb=>(hf b hb).1]]
 done:=by
  intro X hP hw hK hc i pins s σ H E I hf st hg;let f0 f1 f2 f3 f4 f5:=Û (hf it dN);have e:=Nat.le_antisymm st.1 hg;subst e;exact(W X.A (I.ok.hd hc)).done s _ _ st.2 λh' tk kk=>#[1,I.ĸ (λb o hb e=>kk b o (Á hb) e) f0 f1 f3 f4 f5]
 self:=λA i s Q E st h=>S A i s Q E st.2 h
def Nu(K:aH)(d:TE):TI:=λe H R=>d e H λx b=>(∃a,x=.ref a/\(∃c,qE K b a c)/\R (Dw K a) b)\/(∃a,x=.ref a/\(∃c,tV K b a c)/\R (Du K a) b)\/∃z,x=.str z/\R (Ay z) b
def Lb{X:Cx}(y:PE X l tl):PI X tg l (Nu X.K tl):=by
 intro f s u H R I h;let v c G:=kN (y f s u H _ I h);let x j d n q1:=Ø G;rcases q1 with⟨a,rfl,⟨F,m⟩,q⟩ | ⟨a,rfl,⟨F,m⟩,q⟩ | ⟨z,rfl,q⟩
 .cases n;refine Õ (d.list m) λg C p B=>l9 (ā p) #[ϥ,dl c.heap.objs,[dl c.heap.objs],3,j,1,d.œ λb o e=>aI _ e,WD a _,#[ϙ,_,bD _ eH,7],λb hb=>?_,q];obtain rfl:b=dl c.heap.objs:=Á hb
  exact d.fpOk (aL _) (d.gs.fresh (aL _))
 .cases n;refine Õ (d.tuple m) λg C p B=>cw (show c.heap.IsTuple a (aPe g) from p) #[ϥ,dl c.heap.objs,[dl c.heap.objs],3,j,1,d.œ λb o e=>aI _ e,QX a _,#[ϙ,_,bD _ eH,7],λb hb=>?_,q];obtain rfl:b=dl c.heap.objs:=Á hb
  exact d.fpOk (aL _) (d.gs.fresh (aL _))
 .refine Ù v n λt=>?_
  have ő:∀(o:Obj)(ty:String),(∀A:g3,A.handled=wx->Walks X.prog X.w A c.heap.objs.size [dl c.heap.objs] [dl c.heap.objs] z.cps.size (SignAt z) (λi h=>h.IsStrIter c.heap.objs.size ty z t i)) ->
    (∀A(i:Nat)(s:ã)Q E,s.heap.IsStrIter c.heap.objs.size ty z t i->Q (g8 c.heap.objs.size) s->å (ä X.prog X.w) A (jd (g8 c.heap.objs.size)) Q E s) ->
    (c.heap.push o).IsStrIter c.heap.objs.size ty z t 0->Dt X f u tg R (g8 c.heap.objs.size) { c with heap:=c.heap.push o }:=λo ty W S st=>by
   refine#[ϥ,dl c.heap.objs,[dl c.heap.objs],_,Ay z,j,1,d.œ λb o e=>aI _ e,WC _ z t W S,#[bZ _,st],λb hb=>?_,q];obtain rfl:b=dl c.heap.objs:=Á hb
   exact d.fpOk (aL _) (d.gs.fresh (aL _))
  cases r:z.cps.all (·<128)
  .exact wpAny_pyIter_wide r (ő _ "str_iterator" (λA k=>Walks.strWide k _ z t) (λ_ _ _ _ _ st h=>wpAny_pyIter_striter_wide st h) #[ϙ,_,bD _ eH,7])
  .exact wpAny_pyIter_ascii r (ő _ "str_ascii_iterator" (λA k=>Walks.strAscii k _ z t) (λ_ _ _ _ _ st h=>wpAny_pyIter_striter_ascii st h) #[ϙ,_,bD _ eH,7])
structure BP where
 cl:List (â×à)
 C:à
 s3:ã
 H3:Hp
 ex:List à
 pn:Ž
def w6(X:Cx)(scope:Scope)(N':List â)(b:BP):Cx where
 prog:=X.prog
 w:=X.w
 K:=X.K
 mg:=X.mg
 base:=X.base
 A:=X.A
 N:=N'
 Ņ:=b.s3
 H₀:=b.H3
 ak:=compEnvC scope b.cl b.C X.ak
 ag:=X.stack
 stack:=X.stack
 ex:=b.ex
 fn:=λx=>scope.names.lookup x==wz f7
 Ň:=X.Ň
 pn:=b.pn
 xe:=λ_ _=>False
abbrev ŷ:=List (â×o9)
theorem AL{ak:Env}:∀(f:ŷ)(b:List (â×à)),(∀x∈f,x.2=g9->∃c,ak.cells.lookup x.1=wz c) ->
 (∀n c,b.lookup n=wz c->ak.cells.lookup n=wz c) ->
 ∃cl,(jz f b (λx o=>match x with | (name,kind)=>if kind==g9 then do let a <- cellOf ak name;pure (i6 ((name,a)::o))else pure (i6 o)):Sem (List (â×à)))=pure cl /\
  (∀n c,cl.lookup n=wz c->ak.cells.lookup n=wz c)/\(∀n,((∃c,b.lookup n=wz c)\/(n,g9)∈f)->∃c,cl.lookup n=wz c)
|[],b,_,ha=>#[b,1,ha,λn h=>h.elim id λz=>c9 z dN]
| (n,k)::r,b,h,ha=>by
 by_cases j:k=g9
 .subst j;let c p:=Ë (h (n,g9) (aJ ..) eH)
  let cl e g i:=Õ (AL r ((n,c)::b) (λx l=>h x (aE _ l)) (λm d hm=>by
   rw[eA]at hm
   cases hb:m==n with
   |true=>
    rw[hb]at hm;obtain rfl:m=n:=Á hb
    cases hm;exact p
   |false=>rw[hb]at hm;exact ha m d hm))
  refine#[cl,2,g,λm hm=>i m ?_]
  .rw[II];have s:cellOf ak n=pure c:=by unfold cellOf;rw[p]
   simp only[beq_self_eq_true,x2,s];exact e
  .rcases hm with⟨d,hd⟩ | hm
   .left
    rw[eA]
    cases hb:m==n with
    |true=>exact#[c,1]
    |false=>exact#[d,hd]
   .rcases aN.mp hm with z | z
    .left
     cases z;exact#[c,by simp[eA]]
    .exact i7 z
 .refine Õ (AL r b (λx l=>h x (aE _ l)) ha) λcl e g i=>#[cl,2,g,λm hm=>i m (hm.imp id λz=>?_)]
  .rw[II];have q:(k==g9)=false:=Á j
   simp only[q,fP,t8];exact e
  .rcases aN.mp z with z | z
   .cases z;exact c9 eH j
   .exact z
def AK{ak:Env}{a:Scope}(h:∀x∈a.names,x.2=g9->∃c,ak.cells.lookup x.1=wz c) :
  ∃cl,closureFor a ak=pure cl/\(∀n c,cl.lookup n=wz c->ak.cells.lookup n=wz c)/\∀n,(n,g9)∈a.names->∃c,cl.lookup n=wz c:=Õ (AL a.names [] h (λn c z=>by simp at z)) λcl e b d=>by
 refine#[ϙ,cl,2,b,λn z=>d n (i7 z)];refine Eq.trans ?_ (d9 (λm=>m >>= λr=>(pure r:Sem (List (â×à)))) e)
 rfl
theorem vF{ak:Env}{k}:∀{a:ŷ},
 (a.map λ(n,k)=>if(k==g9&&ak.scope.kind==ć&&ak.kindOf n==wz f7)then(n,f7)else(n,k)).lookup x=wz k ->
 ∃b,(x,b)∈a/\(b=k\/(b=g9/\k=f7))
|[],h=>by simp at h
| (n,j)::r,h=>by
 rw[aX,eA]at h;by_cases c:(j==g9&&ak.scope.kind==ć&&ak.kindOf n==wz f7)=ww
 .rw[b8 c]at h
  cases hb:x==n with
  |true=>
   rw[hb]at h;obtain rfl:x=n:=Á hb
   cases h;have f:j=g9:=by simp only[dE,eg]at c;exact c.1.1
   exact#[j,aJ ..,i7 #[f,1]]
  |false=>
   rw[hb]at h;exact Ê (vF h) λb d e=>#[b,aE _ d,e]
 .rw[a9 c]at h
  cases hb:x==n with
  |true=>
   rw[hb]at h;obtain rfl:x=n:=Á hb
   cases h;exact#[_,aJ ..,j3 eH]
  |false=>
   rw[hb]at h;exact Ê (vF h) λb d e=>#[b,aE _ d,e]
theorem A8{ak:Env}:∀{a:ŷ},a.lookup x=wz g9 ->
 (a.map λ(n,k)=>if(k==g9&&ak.scope.kind==ć&&ak.kindOf n==wz f7)then(n,f7)else(n,k)).lookup x=wz f7 \/
 (a.map λ(n,k)=>if(k==g9&&ak.scope.kind==ć&&ak.kindOf n==wz f7)then(n,f7)else(n,k)).lookup x=wz g9
|[],h=>by simp at h
| (n,j)::r,h=>by
 rw[eA]at h;rw[aX,eA]
 cases hb:x==n with
 |true=>
  rw[hb]at h;cases h;by_cases b:(g9==g9&&ak.scope.kind==ć&&ak.kindOf n==wz f7)=ww
  .rw[b8 b];dsimp only;rw[hb];exact j3 eH
  .rw[a9 b];dsimp only;rw[hb];exact i7 eH
 |false=>
  rw[hb]at h;have c:=A8 (ak:=ak) h;by_cases b:(j==g9&&ak.scope.kind==ć&&ak.kindOf n==wz f7)=ww
  .rw[b8 b];dsimp only;rw[hb];exact c
  .rw[a9 b];dsimp only;rw[hb];exact c
abbrev ż:=List (Option Nat)
def xJ(a ag:ŷ)(b:List â):List â->ż->Bool
|[],[]=>ww
|x::r,wx::f=>xJ a ag b r f
|x::r,wz j::f=>(a.lookup x==wz g9)&&(b[j]?==wz x)&&(ag.lookup x==wz f7)&&xJ a ag b r f
|_,_=>wv
theorem C8{a ag:ŷ}:∀{N':List â}{fr:ż},xJ a ag Nx N' fr=ww ->
 iN N'=iN fr/\∀(i:Nat)(x:â)(j:Nat),N'[i]?=wz x->fr[i]?=wz (wz j)->a.lookup x=wz g9/\Nx[j]?=wz x/\ag.lookup x=wz f7
|[],[],_=>#[1,λi x j h=>by simp at h]
|x::r,wx::f,h=>Ì (C8 (fr:=f) h) λd e=>by
 refine#[by simp[d],λi y j c b=>?_]
 cases i with
 |zero=>simp at b
 |succ i=>exact e i y j (Á c) (Á b)
|x::r,wz k::f,h=>by
 simp only[xJ,dE,eg]at h;obtain⟨⟨⟨g,a2⟩,l⟩,h⟩:=h;refine Ì (C8 (N':=r) (fr:=f) h) λd e=>#[by simp[d],λi y j c b=>?_]
 cases i with
 |zero=>
  simp at c b;subst c;subst b;exact#[g,a2,l]
 |succ i=>exact e i y j (Á c) (Á b)
|[],_::_,h=>by simp[xJ]at h
|_::_,[],h=>by simp[xJ]at h
def BN(a:ż)(b:St):St:=a.map λo=>o.bind λj=>(b[j]?).join
def rP.but{h}{a:à}(ok:rP P w H h)(n:H a=wx)(d:gB a h h'):rP P w H h':=λb ob e=>by
 refine(ok b ob e).Ĥ (λc u hc q=>(d.2 c ?_).trans q) (λ_ q=>q) λ_ _ q=>q;rintro rfl;rcases hc with rfl | hc
 .rw[n]at e;cases e
 .rw[n]at hc;cases hc
def S3(X:Cx)(b:List æ)(e:TT):Prop:=
 ∀a s d H Q,dS X a d H s->e d H Q ->
  å (ä X.prog X.w) X.A (jz b ww λc r=>if r=ww then do let ok <- isTrue c X.ak (è c X.ak);pure (i6 ok)else pure (i6 r)) (TP X a d Q) X.xe s
def aFm:TT:=λ_ H Q=>Q ww H
def aG0:S3 X [] aFm:=λ_ _ _ H _ I h=>wpAny_tests_nil #[H,I,h]
def aGz(h:PT X c tt):S3 X [c] tt:=λa s b H Q I q=>wpAny_tests_one (h a s b H Q I q)
def ZQ(q:ż)(t:TI)(g:BP->TG)(s:BP->TT)(r:BP->TE):TE:=λp H Q=>t p H λJ k=>∀h a,k a=wx->∃W:Nat->Nat->St->Hp->Prop,
 (∃m,W 0 m (BN q p) (fU k a (.u8 [])))/\∀i m f d,W i m f d ->
  (J.stop i d/\Q (.ref a) d)\/(J.go i d/\∀x l,J.yld i d x l->g h x f l λc H3=>s h c H3 λb n=>
   if b=ww then r h c n λy o=>∃j,o a=wz (.u8 j)/\iN j<bM/\∃e,e<m/\W (i+1) e c (fU o a (.u8 (j++[y])))
   else∃e,e<m/\W (i+1) e c n)
theorem vO:∀{a:ŷ},a.filter (λy=>y.2==f7)=[]->∀n b h,ae n a b=b/\dy h a=h
|[],_,_,_,_=>#[7]
| (x,k)::r,e,n,b,h=>by
 rw[bY]at e
 cases c:(k==f7)with
 |true=>dsimp only at e;rw[c,b8 rfl]at e;cases e
 |false=>
  rw[c,a9 bS]at e;unfold ae dy;rw[c,a9 bS,a9 bS];exact vO e n b h
theorem DE{z:â}:∀{a:ŷ},a.filter (λy=>y.2==f7)=[(z,f7)]->∀n b h,ae n a b=(z,n)::b/\dy h a=h.push { cls:=fx "cell",data:=.cell wx }
|[],e,_,_,_=>by cases e
| (x,k)::r,e,n,b,h=>by
 rw[bY]at e
 cases c:(k==f7)with
 |true=>
  rw[c,b8 rfl]at e;injection e with d f
  injection d with d _
  subst d;unfold ae dy;rw[c,b8 eH,b8 rfl];exact vO f (n+1) ((x,n)::b) _
 |false=>
  rw[c,a9 bS]at e;unfold ae dy;rw[c,a9 bS,a9 bS];exact DE e n b h
def yV(a:ŷ):Prop:=a.filter (λy=>y.2==f7)=[]\/∃z,a.filter (λy=>y.2==f7)=[(z,f7)]/\a.lookup z=wz f7
structure bA8(names:ŷ)(cl jy:List (â×à))(h:ç)(C:à):Prop where
 get:∀x c,jy.lookup x=wz c->(C<c/\(x,f7)∈names/\h.IsCell c wx)\/(cl.lookup x=wz c/\(x,f7)∉names)
 old:∀x c,names.lookup x=wz .free->cl.lookup x=wz c->jy.lookup x=wz c
 has:∀x,(x,f7)∈names->∃c,jy.lookup x=wz c
 keep:∀x c,cl.lookup x=wz c->∃c',jy.lookup x=wz c'
 inj:∀x y c,jy.lookup x=wz c->jy.lookup y=wz c->C<c->x=y
def aHi{E:á->ã->Prop}{s:ã}{d:Scope}{globals:à}{a:List (â×à)}{Q:Env->ã->Prop}(i:yV d.names)(j:∀x c,a.lookup x=wz c->c<dl s.heap.objs)
  (w:∀r k,r.Ns s.heap.objs.size (λ_=>wx)->(∀b o,s.heap.get? b=wz o->r.get? b=wz o)->bA8 d.names a k r s.heap.objs.size->Q (newEnv d s.heap.objs.size globals k qual wx o0 (wz ag) t9) { s with heap:=r }) :
  å M A (fq d globals a [] qual wx o0 (wz ag)) Q E s:=by
 simp only[fq,V7,x2];refine aF (wpAny_alloc ?_);refine aF (wpAny_layCells _ (λname kind t=>by cases u:kind==f7<;>simp[u]) _ _ _ _ ?_);have mem:∀x,(x,f7)∈d.names->(x,f7)∈d.names.filter (λy=>y.2==f7):=λx f=>cD.mpr #[f,1];rcases i with i | ⟨z,i,m⟩
 .rw[(vO i _ _ s.heap).1,(vO i 0 [] _).2]
  have B:∀x,(x,f7)∉d.names:=λx f=>by
   have:=mem x f;rw[i]at this;cases this
  exact aF (aZ (aZ (w _ _ (aE5.new s.heap (fx "dict")) (λb o e=>aI _ e) #[λx c h=>i7 #[h,B x],λx c _ h=>h,λx h=>c9 h (B x),λx c h=>#[c,h],λx y c h _ l=>c9 (j x c h) (yA l)])))
 .rw[(DE i _ _ s.heap).1,(DE i 0 [] _).2,show({ s with heap:=s.heap.push { cls:=fx "dict",data:=.dict (Ŭ []) } }:ã).heap.objs.size=dl s.heap.objs+1 from fR ..]
  have p:∀x,(x,f7)∈d.names->x=z:=λx f=>by
   have:=mem x f;rw[i]at this;exact d9 Prod.fst (bC.mp this)
  have v:∀x c,((z,dl s.heap.objs+1)::a).lookup x=wz c->(x=z/\c=dl s.heap.objs+1)\/(x≠z/\a.lookup x=wz c):=λx c h=>by
   rw[eA]at h
   cases hb:x==z with
   |true=>rw[hb]at h;cases h;exact j3 #[cf hb,1]
   |false=>rw[hb]at h;exact i7 #[ne_of_beq_false hb,h]
  have q:∀x c,x≠z->a.lookup x=wz c->((z,dl s.heap.objs+1)::a).lookup x=wz c:=λx c f h=>by
   rw[eA,beq_eq_false_iff_ne.mpr f];exact h
  have g:((s.heap.push { cls:=fx "dict",data:=.dict (Ŭ []) }).push { cls:=fx "cell",data:=.cell wx }).get? (dl s.heap.objs+1)=wz { cls:=fx "cell",data:=.cell wx }:=by
   have:=bD (s.heap.push { cls:=fx "dict",data:=.dict (Ŭ []) }) (o:={ cls:=fx "cell",data:=.cell wx }) eH
   rwa [fR]at this
  refine aF (aZ (aZ (w _ _ ((aE5.new s.heap (fx "dict")).keeps λb o e=>aI _ e) (λb o e=>aI _ (aI _ e)) #[λx c h=>?_,λx c f h=>q x c (λe=>by rw[e,m]at f;cases f) h,λx f=>#[dl s.heap.objs+1,by rw[p x f];simp],λx c h=>?_,λx y c I J l=>?_])))
  .rcases v x c h with⟨rfl,rfl⟩ | ⟨n,h⟩
   .exact j3 #[mM _,i9 m,_,g,1]
   .exact i7 #[h,λf=>n (p x f)]
  .by_cases e:x=z
   .exact#[dl s.heap.objs+1,by rw[e];simp]
   .exact#[c,q x c e h]
  .rcases v x c I with⟨C,_⟩ | ⟨_,G⟩
   .rcases v y c J with⟨F,_⟩ | ⟨_,H⟩
    .exact C.trans F.symm
    .exact c9 (j y c H) (yA l)
   .exact c9 (j x c G) (yA l)
section
variable{X:Cx}
def XZ{R:Result->ã->Prop}{js}(I:Nat->ã->Prop)
  (į:∀n s,I n s->å (ä prog w) A (je it) (λr a=>match r with
   |none=>R (.ok .next) a
   |some v=>å (ä prog w) A (bc target it v) (λ_ u=>å (ä prog w) A (assign target ak v) (λ_ i=>
     å (ä prog w) A (jz t ww λc r=>if r=ww then do let ok <- isTrue c ak (è c ak);pure (i6 ok)else pure (i6 r)) (λok b=>
      if ok=ww then å (ä prog w) A (è f ak) (λx j=>å (ä prog w) A (call (mt "list.append") [acc,x]) (λ_ k=>∃m,m<n/\I m k) (λ_ _=>False) j) (λ_ _=>False) b
      else∃m,m<n/\I m b) (λ_ _=>False) i) (λ_ _=>False) u) (λ_ _=>False) a) (λ_ _=>False) s)
  (n:Nat) (h:I n s):z9 (ä prog w) A (.compLoop (ĉ f [#[target,js,t,(0)]] scope pos) 0 it acc ak) R s:=by
 refine codeAny_loop eH I (λn s B=>?_) n h;refine wpAny_noted ?_;rw[compTurn_list];have l:∀{E:á->ã->Prop}(e:á)(s:ã),False->E e s:=λ_ _ z=>z.elim;refine aF (wpAny_standAt (aF (fG (į n s B) (λr a d=>?_) l)))
 cases r with
 |none=>exact aZ d
 |some v=>
  refine aF (fG d (λ_ u y=>aF (fG y (λ_ i o=>aF (fG o (λok b g=>?_) l)) l)) l)
  cases ok with
  |false=>exact aZ #[1,g]
  |true=>exact aF (aF (fG g (λx j p=>aF (fG p (λ_ k q=>aZ (aZ #[1,q])) l)) l))
variable{f js F:æ}{t:List æ}{scope:Scope}{pos:Pos}{B:List â}{G:ż}{O:TI}{g:BP->TG}{M:BP->TT}{L:BP->TE}
def O4{H2:Hp}{s2:ã}{it:à}{tn:Nat->ç->Prop}{J:It}{Q:VK}{RR:á->à->Result->ã->Prop}{cl:List (â×à)}{E:á->ã->Prop}
  (U:X.Ň=ww) (li:scope.kind=ć) (hz:yV scope.names) (mz:xJ scope.names X.ak.scope.names X.N B G=ww)
  (s:∀n c,cl.lookup n=wz c->X.ak.cells.lookup n=wz c) (lf:∀n,(n,g9)∈scope.names->∃c,cl.lookup n=wz c)
  (hY:∀b,PG (w6 X scope B b) F (g b)/\S3 (w6 X scope B b) t (M b)/\PE (w6 X scope B b) f (L b))
  (I2:dS X pins σ H2 s2) (T:P6 X.prog X.w X.K F J fp it tn) (ka:tn 0 s2.heap) (f2:∀b∈fp,EL X pins H2 b)
  (q:∀bp I,H2 I=wx->∃W:Nat->Nat->St->Hp->Prop,(∃m,W 0 m (BN G σ) (fU H2 I (.u8 [])))/\∀i m S R,W i m S R ->
   (J.stop i R/\Q (.ref I) R)\/(J.go i R/\∀x H2,J.yld i R x H2->g bp x S H2 λki H3=>M bp ki H3 λb H4=>
    if b=ww then L bp ki H4 λy H5=>∃ys,H5 I=wz (.u8 ys)/\iN ys<bM/\∃m',m'<m/\W (i+1) m' ki (fU H5 I (.u8 (ys++[y])))
    else∃m',m'<m/\W (i+1) m' ki H4))
  (qu:∀I C s' HY m,dS X pins σ HY s'->EL X pins HY C->s'.heap.Ns C m->Q (.ref I) HY->RR (g8 I) C (.ok .next) s') :
  å (ä X.prog X.w) X.A (newList []) (λI og=>å (ä X.prog X.w) X.A (fq scope X.ak.globals cl [] X.ak.qual wx o0 (wz X.ak)) (λku oh=>
   z9 (ä X.prog X.w) X.A (.compStart (ĉ f [#[F,js,t,(0)]] scope pos) 0 (g8 it) I { ku with scope:=relabel scope X.ak }) (RR I ku.locals) oh) E og) E s2:=Ì (C8 mz) λsk sh=>by
 have ml:=I2.gs.fresh (aL _);refine jE ?_ (by show 0<=bM;exact bZ _)
 generalize nj:({ s2 with heap:=s2.heap.push { cls:=fx "list",dict:=wx,data:=Fr (aPe ([]:List á)) } }:ã)=s3
 have a:dS X pins σ (fU H2 s2.heap.objs.size (.u8 [])) s3:=by
  rw[<- nj];exact I2.Ķ (λb u e=>aI _ e) (aL _) #[bZ _,[],(0),tj,bD _ eH]
 have my:∀b∈fp,b<dl s3.heap.objs:=λb hb=>Ê (T.obj 0 _ ka b hb) λo e _=>by rw[<- nj];exact bG (aI _ e)
 have qa:tn 0 s3.heap:=T.keep 0 _ _ ka λb _ o e=>by rw[<- nj];exact aI _ e
 have Z:∀b∈fp,EL X pins (fU H2 s2.heap.objs.size (.u8 [])) b:=λb hb=>#[Ê (T.obj 0 _ ka b hb) λo e _=>by rw[cC (cO (bG e))];exact(f2 b hb).1,(f2 b hb).2]
 let ln H ng keep P:=aHi hz (λx c e=>Ö (a.cell x c (s x c e)) λv o ho _=>bG ho)
 generalize qr:fU H2 s2.heap.objs.size (.u8 [])=H3 at *
 generalize wm:dl s2.heap.objs=ac at *
 generalize hC:dl s3.heap.objs=C at *
 obtain⟨W,⟨m0,w0⟩,į⟩:=q #[H,C,s3,H3,fp,X.pn++pins] ac ml;rw[qr]at w0
 have Y:∀x c,X.ak.cells.lookup x=wz c->c<C:=λx c e=>Ö (a.cell x c e) λv o ho _=>by rw[<- hC];exact bG ho
 have la:=λb hb=>by exact cO (my b hb)
 have om:X.ak.locals<C:=by rw[<- hC];exact a.lt
 have nl:∀b∈uM X.stack,b≠C/\H3 b=none:=λb hb=>#[by
  rintro rfl;rcases aN.mp (a.Ĳ b hb)with z | z
  .rw[z]at om;exact c9 om (fK _)
  .exact a.nofs (by rw[hC];exact aL _) z,a.stkFree b hb]
 -- the block's context
 have vc:(w6 X scope B #[H,C,s3,H3,fp,X.pn++pins]).Ok:=by
  refine#[a.ok.mod,li,a.ok.ġ,a.ok.blt,mX hC,λx y c h1 h2=>by
   rcases P.get x c h1 with⟨l1,_⟩ | ⟨g1,_⟩<;>rcases P.get y c h2 with⟨l2,_⟩ | ⟨g2,_⟩
   .exact P.inj x y c h1 h2 l1
   .exact c9 (Y y _ (s y _ g2)) (yA l1)
   .exact c9 (Y x _ (s x _ g1)) (yA l2)
   .exact a.ok.inj x y c (s x c g1) (s y c g2),λx hx=>?_,λx c hf h=>by
   rcases P.get x c h with⟨l,_⟩ | ⟨_,n⟩
   .exact aR (mX hC) (iG l)
   .exact c9 (i9 (beq_iff_eq.mp hf)) n,λ_=>a.ok.hd U,a.ok.frames,j3 eH,
   λb hb=>#[la b hb,λx c h=>by
    rcases P.get x c h with⟨l,_⟩ | ⟨h,_⟩
    .exact iF (sV (my b hb) l)
    .exact(Z b hb).2.2.2.2.1 x c (s x c h)],λb o e=>a.bs b o e,2,λb o e hb=>?_,λb hb hs=>?_,a.stack,λb hb=>(nl b hb).2,a.env0.tab]
  .have cm:∀k,(relabel scope X.ak).names.lookup x=wz k->(k=f7\/k=g9)->∃c,(H).lookup x=wz c:=λk h hk=>Ê (vF h) λk0 h1 h2=>by
    rcases(show k0=f7\/k0=g9 from h2.elim (λe=>by rw[e];exact hk) λe=>i7 e.1)with rfl | rfl
    .exact P.has x h1
    .exact Ë (lf x h1) λc hc=>P.keep x c hc
   rcases hx with hx | hx
   .exact cm _ hx (j3 eH)
   .exact cm _ hx (i7 eH)
  .exact aR a.ok.bsz (aR a.sz (aL _))
  .rcases(Z b hb).2.2.2.1 with z | z
   .exact a.ok.noex b o e z
   .exact c9 (bX (bG (a.ok.bs b o e).1) z) (fK _)
  .rcases aN.mp (a.Ĳ b hs)with z | z
   .exact(Z b hb).2.1 z
   .exact(Z b hb).2.2.1 z
 have IY:dS (w6 X scope B #[H,C,s3,H3,fp,X.pn++pins]) [] (BN G σ) H3 { s3 with heap:=ln }:=by
  refine#[vc,1,a.ŕ,Un.œ keep,#[Ϙ,_,ng,λi x v h1 h2 _=>?_],λx c e=>?_,(a.gs.fresh (mX hC)),λx c e=>(by
   rcases P.get x c e with⟨l,_⟩ | ⟨e,_⟩
   .exact a.gs.fresh (by rw[hC];exact iG l)
   .exact a.Ĺ x c (s x c e)),λp hp=>?_,a.gs.œ keep,2]
  .have e:∃j,G[i]?=wz (wz j)/\σ[j]?=wz (wz v):=by
    unfold BN at h2;rw[aK]at h2
    cases hf:G[i]? with
    |none=>rw[hf]at h2;cases h2
    |some o=>
     rw[hf]at h2
     cases o with
     |none=>cases h2
     |some j=>
      refine#[Ϙ,j,12];have ja:(σ[j]?).join=wz v:=Á h2
      cases hj:σ[j]? with
      |none=>rw[hj]at ja;cases ja
      |some o=>rw[hj]at ja;rw[show o=wz v from ja]
   refine Ê e λj e1 e2=>í (sh i x j h1 e1) λa1 a2 a3=>Ê a.loc λm hn hl=>Ê (hl j x v a2 e2 (i7 (j3 a3))) λu r l=>#[Ϙ,u,r,i7 #[A8 a1,2]];rcases l with⟨k,_⟩ | ⟨_,c,hc,o,ho,hd⟩
   .have k':X.ak.scope.names.lookup x=wz .local:=k;rw[a3]at k';cases k'
   .refine Ë (lf x (i9 a1)) λc' au=>?_;have z:=s x c' au;rw[hc]at z;cases z;exact#[c,P.old x c a1 au,o,keep c o ho,hd]
  .rcases P.get x c e with⟨_,_,tu⟩ | ⟨e,_⟩
   .exact#[wx,tu]
   .exact Ö (a.cell x c (s x c e)) λv o ho hd=>#[v,o,keep c o ho,hd]
  .refine Ó (a.pin p (by have ll:p∈(X.pn++pins)++[]:=hp;simpa using ll)) λe n ne nf d=>#[keep _ _ e,n,2,λz=>?_,d]
   .have:=bG e;rw[hC]at this;exact cO this
   .rcases aN.mp (a.Ĳ p.1 z)with z | z
    .exact ne z
    .exact nf z
  .unfold BN;rw[aB];exact sk.symm
 have jh:∀{R:Hp},(∀b∈fp,R b=wx)->∀b∈fp,EL (w6 X scope B #[H,C,s3,H3,fp,X.pn++pins]) [] R b:=λ{R} hn b hb=>
  #[hn b hb,la b hb,λz=>by
   rcases aN.mp (a.Ĳ b z)with z | z
   .exact(Z b hb).2.1 z
   .exact(Z b hb).2.2.1 z,  j3 hb,λx c e=>(by
   rcases P.get x c e with⟨l,_⟩ | ⟨e,_⟩
   .exact iF (sV (my b hb) l)
   .exact(Z b hb).2.2.2.2.1 x c (s x c e)),λp hp=>(Z b hb).2.2.2.2.2 p (by have ll:p∈(X.pn++pins)++[]:=hp;simpa using ll)]
 let hg ht he:=í (hY #[H,C,s3,H3,fp,X.pn++pins])
 have il:z9 (ä X.prog X.w) X.A (.compLoop (ĉ f [#[F,js,t,(0)]] scope pos) 0 (g8 it) (g8 ac) (compEnvC scope H C X.ak)) (RR (g8 ac) C) { s3 with heap:=ln }:=by
  refine XZ (λn s'=>∃i S R,dS (w6 X scope B #[H,C,s3,H3,fp,X.pn++pins]) [] S R s'/\tn i s'.heap/\(∀b∈fp,R b=wx)/\W i n S R) ?_ m0
   #[ϡ,(0),BN G σ,H3,IY,T.keep 0 _ _ qa λb _ o e=>keep b o e,λb hb=>(Z b hb).1,w0]
  rintro n s4 ⟨i,me,H4,I4,qb,ol,w4⟩;rcases į i n me H4 w4 with⟨stop,qn⟩ | ⟨go,step⟩
  .refine kN (T.done (w6 X scope B #[H,C,s3,H3,fp,X.pn++pins]) eH eH eH U i [] s4 me H4 _ I4 (jh ol) qb stop) λr s5 zq=>?_;let hr I5:=Ì zq;subst hr;exact Ê I5.loc λm hn _=>qu ac C s5 H4 m (a.call' I5.os I5.base I5.gs I5.ŕ λb hb=>#[(Z b hb).2.2.2.1,(Z b hb).2.1,(Z b hb).2.2.2.2.1,(Z b hb).2.2.2.2.2]) (a.fpOk (mX hC) I5.free) hn qn
  .refine kN (T.item (w6 X scope B #[H,C,s3,H3,fp,X.pn++pins]) eH eH eH U i [] s4 me H4 (λ_ _=>False) I4 (jh ol) qb go) λr s5 zq=>?_;let u hr h5:=Ê zq;subst hr;let V s6 zq:=kN h5;refine Ý zq λx H6 I6 r6 y6 ψ=>Ì ψ λoa qj=>kN (hg _ s6 me H6 x u _ (I6.pinned (jh qj) (T.obj _ _ oa)) r6 (step x H6 y6)) λ_ s7 zq=>?_;refine Ö zq λoi H7 I7 q7=>kN (ht _ s7 oi H7 _ I7 q7) λok s8 zq=>?_;let H8 I8 q8:=Ê zq
   have jw:∀{s9:ã}{mf:St}{H9:Hp}{m':Nat},dS (w6 X scope B #[H,C,s3,H3,fp,X.pn++pins]) ([]++GC fp s6.heap) mf H9 s9->m'<n->W (i+1) m' mf H9 ->
     ∃m,m<n/\∃i S R,dS (w6 X scope B #[H,C,s3,H3,fp,X.pn++pins]) [] S R s9/\tn i s9.heap/\(∀b∈fp,R b=wx)/\W i m S R:=λ{s9 mf H9 m'} I9 hm w9=>by
    refine#[m',hm,i+1,mf,H9,I9.ĥ,T.keep _ _ _ oa λb hb o e=>(I9.pin (b,o) (cX _ (cX _ (vI hb e)))).1,λb hb=>?_,w9];exact Ê (T.obj _ _ oa b hb) λo e d=>(I9.pin (b,o) (cX _ (cX _ (vI hb e)))).2.1
   cases ok with
   |false=>
    exact Ê q8 λm' hm w8=>jw I8 hm w8
   |true=>
    let y s9 zq:=kN (he _ s8 oi H8 _ I8 q8);refine Ø zq λyv H9 I9 r9 χ=>Õ χ λys uo hz ψ=>Ê ψ λm' hm w9=>kN (gW _ s9 oi H9 (.ref ac) [yv] (g8 ac) [y] (λ_ R=>R=fU H9 ac (.u8 (ys++[yv]))) I9 eH (Cl r9 tj) #[Ϣ,ac,ys,yv,7,uo,hz,1]) λ_ xw zq=>?_;let V vp qd O qi:=Ø zq;subst qi;exact jw qd hm w9
 exact codeAny_compStart_list il (T.self _ 0 _ _ _ (T.keep 0 _ _ qa λb _ o e=>keep b o e) il)
def Sv(d:X.Ň=ww)(a:scope.kind=ć)(hz:yV scope.names)(u:xJ scope.names X.ak.scope.names X.N B G=ww)
  (j:∀y∈scope.names,y.2=g9->X.ak.scope.names.lookup y.1=wz f7) (c:∀x∈scope.names,x.2=.local->scope.names.lookup x.1=wz .local) (S:PI X F js O)
  (R:∀b,PG (w6 X scope B b) F (g b)/\S3 (w6 X scope B b) t (M b)/\PE (w6 X scope B b) f (L b))
  (Y:(∀x,k7 js X.ak x=pure x)|>ť):PE X (ĉ f [#[F,js,t,(0)]] scope pos) (ZQ G O g M L):=by
 intro p s σ H Q I h;let cl i l n:=Õ (AK λy Z U=>I.ok.has y.1 (j3 (j y Z U)));rw[eval_ListComp];refine gh eH Y i a c (kN (S p s σ H _ I h) λv s1 K=>kN K λpj s2 P=>?_);refine Ë P λit ψ=>ò pj ψ λfp tn J H2 E T w f2 q=>O4 d a hz u l n R E T w f2 q λr C s' z m A k W q'=>?_;exact#[Ϙ,m,W,λh' sb=>#[ϛ,.ref r,z,A.ĸ (λb o hb e=>(sb.2 b hb).trans e) k.1 k.2.1 k.2.2.2.1 k.2.2.2.2.1 k.2.2.2.2.2,1,q']]
def aAt{i:Nat}{x:â}{Z j:Pos}(hN:aYv X.N)(S:X.N[i]?=wz x)(hx:YV X.ak.scope x)(l:X.Ň=ww)(c:scope.kind=ć)(hz:yV scope.names)(R:xJ scope.names X.ak.scope.names X.N B G=ww)
  (p:∀y∈scope.names,y.2=g9->X.ak.scope.names.lookup y.1=wz f7) (d:∀x∈scope.names,x.2=.local->scope.names.lookup x.1=wz .local) (hi:PI X F js O)
  (hY:∀b,PG (w6 X scope B b) F (g b)/\S3 (w6 X scope B b) t (M b)/\PE (w6 X scope B b) f (L b))
  (U:lY (ĉ f [#[F,js,t,(0)]] scope pos) (wz (KK x Z)) j.line X.ak=pure ww)
  (hs:(∀x,k7 js X.ak x=pure x)|>ť) (hf:ŭ X x|>Ŧ) :
  PS X (Ā [KK x Z] (ĉ f [#[F,js,t,(0)]] scope pos) j) (wN (ZQ G O g M L) (mO i)):=by
 intro w s σ H D I h;let cl n r u:=Õ (AK λy hy hk=>I.ok.has y.1 (j3 (p y hy hk)));rw[exec_Assign_Name_used _ _ _ _ U];refine aF (wpAny_standAt (aF ?_))
 refine aF (fG (gh eH hs n c d
  (kN (hi w s σ H _ I h) λv s1 h1=>kN h1 λpj s2 h2=>?_)) (λ_ s' hq=>aZ (aZ hq)) λ_ _ e=>e)
 refine Ë h2 λit ψ=>ò pj ψ λfp tn J H2 I2 T Y f2 q=>O4 (Q:=λx H1=>mO i x σ H1 D.nx) l c hz R r u hY I2 T Y f2 q λE C s' HY m I' k hn q'=>?_;refine kd (JT I' hN S hx (v:=.ref E) eH (λxx A P=>?_) hf);let a sb ha:=Ê P
 have K:C≠a:=by
  rcases ha with z | z
  .rw[z];exact k.2.1
  .exactλe=>k.2.2.2.2.1 x a z e.symm
 exact#[Ϙ,m,hn.sameBut sb K,λh' W=>#[Ϛ,_,HY,A.ĸ (λb o hb e=>(W.2 b hb).trans e) k.1 k.2.1 k.2.2.2.1 k.2.2.2.2.1 k.2.2.2.2.2,q']]
end
section
variable{prog:dF}{w:g6}{A:g3}{E:á->ã->Prop}{h:ç}{g:Array GenState}{d:Drawn}{t:Nat}{os:OsState}{a C:à}{f:Obj}{b:Option Obj}{K:aH}
structure NM(K:aH)(C:à):Prop where
 ga:fB K (.ref C) "__getattribute__"=wz (wz (.builtin "BaseException.__getattribute__"))
 gt:fB K (.ref C) "__getattr__"=wz wx
 cl:fB K (.ref C) "__class__"=wz (wz (.builtin "object.__class__"))
 ob:fJ K C (.type "object")=wz ww
 be:fJ K C (.type "BaseException")=wz ww
def sN(K:aH)(C:à):Prop:=NM K C/\∀T∈["int","str","list","tuple","bool"],eM K (g8 C) (fx T)=wz wv
theorem X1{Q:Unit->ã->Prop}(X:K.In h)(c:NM K C)(I:nT h a f C b)(j:Q () #[h,g,d,t,os]):å M A (checkBuiltinCall "BaseException.__getattribute__" #[[g8 a,nameV],[]]) Q E #[h,g,d,t,os]:=by
 have k:builtinKind "BaseException.__getattribute__"=wz .slot:=cR
 have e:splitId "BaseException.__getattribute__"=wz ("BaseException","__getattribute__"):=cR
 have i:=PySem.W.looks_mroIn (M:=M) X c.be;refine aF ?_;refine aF ((I.type (M:=M)).at (i.at ?_))
 repeat (first | exact j | wp_step)
def M4{Q:Fin->ã->Prop}(X:K.In h)(c:NM K C)(I:nT h a f C b)(l:Q (.done (.ret (g8 C))) #[h,g,d,t,os]) :
  å (ä prog w) A (av.«object.__getattribute__» #[[g8 a,ck "__class__" tk],[]]) Q E #[h,g,d,t,os]:=by
 have i:=F.typeOf_object_class;have j:=F.slot_gs_get.lookup;have k:=F.slot_gs_set.lookup;have e:=qN (M:=ä prog w) X c.cl
 repeat (any_goals (first | assumption | with_reducible refine(I.type (M:=ä prog w)).at ?_ | with_reducible refine e.at ?_ | wp_step))
 refine PySem.W.class_get X I c.ob ?_
 repeat (any_goals (first | assumption | wp_step))
def PX{R:Result->ã->Prop}(X:K.In h)(c:NM K C)(I:nT h a f C b)(e:R (.ok (.ret (g8 C))) #[h,g,d,t,os]) :
  z9 (ä prog w) A (.call (mt "BaseException.__getattribute__") #[[g8 a,ck "__class__" tk],[]]) R #[h,g,d,t,os]:=
 codeAny_call_builtin F.excAttr_ValueError.ga.plain F.entry_bexc_ga (X1 X c I (M4 X c I e))
theorem X0{Q:á->ã->Prop}(X:K.In h)(c:NM K C)(I:nT h a f C b)(l:Q (g8 C) #[h,g,d,t,os]):å (ä prog w) A (getAttrBy (g8 a) (ck "__class__" tk) wv) Q E #[h,g,d,t,os]:=by
 have k:=F.excAttr_ValueError.ga.bind (g8 a);have j:(Value.builtin "BaseException.__getattribute__"==Value.builtin "object.__getattribute__")=false:=cR
 have i:=qN (M:=ä prog w) X c.ga;have e:=qN (M:=ä prog w) X c.gt
 repeat (any_goals (first | assumption | with_reducible refine(I.type (M:=ä prog w)).at ?_ | with_reducible refine i.at ?_ | with_reducible refine e.at ?_ | wp_step))
 refine PX X c I ?_
 repeat (any_goals (first | assumption | wp_step))
def PY{Q:Option á->ã->Prop}(X:K.In h)(c:NM K C)(I:nT h a f C b)(e:Q (wz (g8 C)) #[h,g,d,t+1,os]):å (ä prog w) A (getAttr? (g8 a) "__class__") Q E #[h,g,d,t,os]:=by
 repeat (any_goals (first | assumption | with_reducible apply X0 X c I | wp_step))
def aCs(c:NM K C):PySem.W.KitX K (g8 a) (g8 C) (λh=>∃f b,nT h a f C b) where
 ty:=λ_ _ _ #[3,I]=>I.type
 it:=λ_ _ X _=>Ê (NQ.mp c.ob) λcd hc _=>by
  unfold tM at hc;split at hc
  .rename_i c' d' qg nz ho;intro A' Q' E' s' k q;exact aF (wpAny_loadPart (k _ _ (X _ _ ho)) (aZ q))
  .cases hc
 ne:=λh tp dd dq n sl X uh=>Ê (NQ.mp c.ob) λcd hc _=>by
  refine EE.mpr λq=>?_;have e:=Value.ref.inj (beq_iff_eq.mp q);subst e;unfold tM at hc;split at hc
  .rename_i c' d' qg nz ho;cases ((X _ _ ho).symm.trans uh)
  .cases hc
 ca:=λ{_ _ _ _ _ s} X ⟨_,_,I⟩ k=>by
  obtain⟨hh,g,d,t,os⟩:=s;exact PY X c I k
end
structure aXx(k:Nat)(A:g3):Prop where
 dp:A.depth+3*k+5<br
 un:A.units+16*k+200<x8
 gd:A.guards=wz []
def iL.h{k:Nat}(r:iL k A):aXx k A:=#[r.dp,r.un,r.gd]
end L2
namespace TL
open L2
abbrev D:=PySem.PyData
def aM9(p:à)(h:ç):Prop:=∃(a:List á)(n:Nat),h.get? p=wz { cls:=fx "list",data:=Fr (aPe a) n }/\iN a<=1000/\∀v∈a,∃i t,v=u7 i t/\0<=i/\i<4096
def wB(p C:à)(dx:Option à)(h:ç):Prop:=∃o vs,h.get? p=wz o/\o.cls=g8 C/\o.dict=dx/\o.data=.fields vs
def aL0(p q:à)(h:ç):Prop:=∃a b c d e f n,h.get? p=wz { cls:=fx "list",data:=Fr [g8 q,u7 a d,u7 b e,u7 c f].toArray n }/\0<=a/\(c=0\/c=1)
def kD:mR->PySem.PyData
|t6 i=>aW i
|fj x=>aG x
abbrev Ÿ:=List (D×D)
mutual
inductive iM(K:aH)(H:Hp):D->V->Prop
|none:iM K H .none .z8
|bool (b:Bool):iM K H (.bool b) (.bl b)
|int (i:Int):iM K H (.int i) (.int i)
|str (x:â):iM K H (.str x) (.str x)
|list {p:à} {xs:List V} {ts:List D}:qE K H p xs->gq K H ts xs->iM K H (.list ts) (.ref p)
|tuple {p:à} {xs:List V} {ts:List D}:tV K H p xs->gq K H ts xs->iM K H (.tuple ts) (.ref p)
|wild {p:à}:H p=wz (.ext (aM9 p))->iM K H (.dict []) (.ref p)
|exc {p C:à}:sN K C->H p=wz (.ext (wB p C Option.none))->iM K H (.dict [(.int (C:Nat),.none)]) (.ref p)
|excA {p C dx:à} {n:Int}:sN K C->H p=wz (.ext (wB p C (wz dx)))->H dx=wz (.xd [("at",.int n)])->iM K H (.dict [(.int (C:Nat),.int n)]) (.ref p)
|excD {p C dx:à} {v:V} {cs:List D}:sN K C->H p=wz (.ext (wB p C (wz dx)))->H dx=wz (.xd [("case",v)])->iM K H (.tuple cs) v->iM K H (.dict [(.int (C:Nat),.tuple cs)]) (.ref p)
|tape {p q:à} {ns:List Int}:H p=wz (.ext (aL0 p q))->qE K H q (ns.map V.int)->iM K H (.dict [(.none,.list (ns.map aW))]) (.ref p)
|dct {p:à} {es:ź} {bt:Ÿ}:H p=wz (.dK es)->bt.map (·.1)=es.map (λe=>kD e.1)->gq K H (bt.map (·.2)) (es.map (·.2))->iM K H (.dict ((.str "{}",.list [])::bt)) (.ref p)
|addr {p:à} (z:List D):iM K H (.dict [(.str "@",.list (.int (p:Nat)::z))]) (.ref p)
|Œ {p C dx:à} {fs:Ŷ} {ds:List D}:H p=wz (.Œ C dx fs)->gq K H ds (fs.map (·.2))->iM K H (.dict [(.str "obj",.tuple [.int (C:Nat),.list ((fs.map (·.1)).map aG),.list ds])]) (.ref p)
inductive gq(K:aH)(H:Hp):List D->List V->Prop
|nil:gq K H [] []
|cons {t:D} {ts:List D} {x:V} {xs:List V}:iM K H t x->gq K H ts xs->gq K H (t::ts) (x::xs)
end
variable{K:aH}{H G J L:Hp}
def bJ.Ő{a:à}(e:bJ H G)(h:tV K H a xs):tV K G a xs:=by
 rcases h with(h | ⟨o,h⟩) | h
 .exact j3 (j3 (e _ _ h))
 .exact j3 (i7 #[o,e _ _ h])
 .exact i7 h
def iM.same(e:bJ H G){d:D}{v:V}(r:iM K H d v):iM K G d v:=
 iM.rec (motive_1:=λd v _=>iM K G d v) (motive_2:=λc vs _=>gq K G c vs) .none .bool .int .str (λq _ a=>.list (L2.bJ.seq e q) a) (λq _ a=>.tuple (bJ.Ő e q) a) (λh=>.wild (e _ _ h)) (λx h=>.exc x (e _ _ h)) (λx h g=>.excA x (e _ _ h) (e _ _ g))
  (λx h g _ a=>.excD x (e _ _ h) (e _ _ g) a) (λh g=>.tape (e _ _ h) (L2.bJ.seq e g)) (λh n _ a=>.dct (e _ _ h) n a) .addr (λh _ a=>.Œ (e _ _ h) a) .nil (λ_ _ a b=>.cons a b) r
theorem gq.same(e:bJ H G){c:List D}:∀{vs:List V},gq K H c vs->gq K G c vs:=by
 induction c with
 |nil=>intro vs r;cases r;exact .nil
 |cons d c f=>
  intro vs r
  cases r with
  |cons a b=>exact .cons (a.same e) (f b)
theorem gq.length{a:List D}{vs:List V}(h:gq K H a vs):a.length=vs.length:=by
 induction a generalizing vs with
 |nil=>cases h;rfl
 |cons d a n=>cases h with|cons r t=>simp[n t]
theorem gq.get:∀{ds vs}{i:Nat}{d},gq K H ds vs->ds[i]?=wz d->∃v,vs[i]?=wz v/\iM K H d v
|_,_,_,_,.nil,e=>by simp at e
|_,_,0,_,.cons r _,e=>by simp at e;subst e;exact#[0,r]
|_,_,i+1,d,.cons _ s,e=>Ê (gq.get s (Á e)) λv a b=>#[v,Á a,b]
theorem gq.get':∀{ds vs}{i:Nat}{v},gq K H ds vs->vs[i]?=wz v->∃d,ds[i]?=wz d/\iM K H d v
|_,_,_,_,.nil,e=>by simp at e
|_,_,0,_,.cons r _,e=>by simp at e;subst e;exact#[0,r]
|_,_,i+1,d,.cons _ s,e=>Ê (gq.get' s (Á e)) λv a b=>#[v,Á a,b]
theorem gq.append{ds es vs us}(h:gq K H ds vs)(s:gq K H es us):gq K H (ds++es) (vs++us):=by
 induction ds generalizing vs with
 |nil=>cases h;exact s
 |cons d a n=>cases h with|cons r t=>exact .cons r (n t)
theorem gq.take:∀{a:List D}{vs:List V}(n:Nat),gq K H a vs->gq K H (a.take n) (vs.take n)
|_,_,0,_=>.nil
|_,_,_+1,.nil=>.nil
|_,_,n+1,.cons r t=>.cons r (gq.take n t)
theorem gq.drop:∀{a:List D}{vs:List V}(n:Nat),gq K H a vs->gq K H (a.drop n) (vs.drop n)
|_,_,0,r=>r
|_,_,_+1,.nil=>.nil
|_,_,n+1,.cons _ t=>gq.drop n t
def ê(H:Hp)(C:List à):Hp:=λb=>if b∈C then wx else H b
def bU(e:bJ H G):bJ (ê H C) (ê G C):=λb o h=>by
 unfold ê at h |-
 by_cases hb:b∈C
 .rw[b8 hb]at h;cases h
 .rw[a9 hb]at h |-;exact e b o h
def iO(h:∀p∈z5,p∈C):bJ (ê H C) (ê H z5):=λb o e=>by
 unfold ê at e |-
 by_cases hb:b∈C
 .rw[b8 hb]at e;cases e
 .rw[a9 hb]at e;rw[a9 λz=>hb (h b z)];exact e
def cH:bJ (ê H C) H:=λb o e=>by
 unfold ê at e;by_cases hb:b∈C
 .rw[b8 hb]at e;cases e
 .rw[a9 hb]at e;exact e
def nN{p:à}(h:H p=wx):ê (fU H p o) (p::C)=ê H C:=by
 funext b;unfold ê;by_cases hb:b=p
 .subst hb;rw[b8 (aJ ..),h];by_cases z:b∈C<;>simp[z]
 .rw[cC hb];by_cases z:b∈C
  .rw[b8 (aE _ z),b8 z]
  .rw[a9 (λq=>(aN.mp q).elim hb z),a9 z]
def fW{p:à}(h:p∈C):ê (fU H p o) C=ê H C:=by
 funext b;unfold ê;by_cases hb:b=p
 .subst hb;rw[b8 h,b8 h]
 .rw[cC hb]
def dZ{p:à}(h:H p=wx):bJ H (fU H p o):=λb u q=>by rw[cC (fD q h)];exact q
def nB{p:à}(h:p∉C)(e:H p=wz o):ê H C p=wz o:=by
 unfold ê;rw[a9 h];exact e
def zf:HO->Bool
|.ņ _=>ww
|.frz _ (.ņ _)=>ww
|_=>wv
def CK(u:Option HO):Prop:=∃v,u=wz v/\zf v=wv
def CK.ne(h:CK u):u≠none:=λz=>Ê h λv e _=>by rw[z]at e;cases e
theorem CK.u8:CK (wz (.u8 xs)):=#[01]
def iS{C:List à}{p:à}(bu:∀q∈C,CK (H q))(h:H p=wx):p∉C:=λz=>(bu p z).ne h
set_option genInjectivity true in
inductive Sl where
|un | val (d:D) | own (ts:List D) | Ė (hs:List Int) (bt:Ÿ)
def tF(K:aH)(B:Hp)(I:List à)(H:Hp)(C:List à)(m:List Sl)(E:L2.St):Prop:=∀(i:Nat)(d:List Int)(bt:Ÿ),m[i]?=wz (.Ė d bt) ->
 (∃(p:à)(a:ź),E[i]?=wz (wz (.ref p))/\p∈C/\B p=wx/\p∉I/\H p=wz (.dK a)/\d=[]/\bt.map (·.1)=a.map (λe=>kD e.1)/\gq K (ê H C) (bt.map (·.2)) (a.map (·.2))) /\
 ∀(j:Nat)(b:List Int)(c:Ÿ),m[j]?=wz (.Ė b c)->i=j
def tF.to{B g:Hp}(o:tF K B I H C m E)(c:∀(i:Nat)(a:List Int)(bt:Ÿ),u5[i]?=wz (.Ė a bt)->m[i]?=wz (.Ė a bt)/\v7[i]?=E[i]?)
  (M:∀(p:à)(f:ź),p∈C->H p=wz (.dK f)->p∉I->p∈z5/\G p=H p) (z:∀(p:à)(f:ź),p∈C->H p=wz (.dK f)->B p=wx->p∉I->g p=wx/\p∉p0') (F:bJ (ê H C) (ê G z5)):tF K g p0' G z5 u5 v7:=λi a bt h=>Ì (c i a bt h) λx y=>by obtain⟨⟨p,w,k,a2,l,a4,e,n,q,r⟩,u⟩:=o i a bt x;exact Ì (M p _ a2 e a4) λs t=>Ì (z p _ a2 e l a4) λc1 v=>#[#[p,w,y.trans k,s,c1,v,t.trans e,n,q,r.same F],λj b d A=>u j b d (c j b d A).1]
def FF{m:List Sl}{i j:Nat}(c:∀a bt,s≠.Ė a bt)(h:(m.set i s)[j]?=wz (.Ė a bt)):i≠j/\m[j]?=wz (.Ė a bt):=by
 by_cases e:i=j
 .subst e;have b:i<iN m:=Á (aD.mp h).1
  rw[bI b]at h;exact c9 (d7 h) (c a bt)
 .rw[aY e]at h;exact#[e,h]
def tF.setS{m:List Sl}{E:L2.St}(o:tF K B I H C m E){i:Nat}{v}(d:∀c bt,s≠.Ė c bt):tF K B I H C (m.set i s) (E.set i v):=
 o.to (λj c bt h=>let ⟨e,h'⟩:=FF d h;#[h',aY e]) (λp f a b _=>#[a,1]) (λp f _ _ a b=>#[a,b]) (L2.bJ.refl _)
def tF.setT{m:List Sl}(o:tF K B I H C m E){i:Nat}(d:∀c bt,s≠.Ė c bt):tF K B I H C (m.set i s) E:=
 o.to (λj c bt h=>#[(FF d h).2,1]) (λp e a b _=>#[a,1]) (λp e _ _ a b=>#[a,b]) (L2.bJ.refl _)
def tF.fz(o:tF K B I H C m E)(e:bJ H G):tF K B I G C m E:=
 o.to (λj d bt h=>#[h,1]) (λp c a b _=>#[a,(e p _ b).trans b.symm]) (λp c _ _ a b=>#[a,b]) (bU e)
structure Ok(K:aH)(B:Hp)(I:List à)(H:Hp)(C:List à)(m:List Sl)(E:L2.St):Prop where
 base:bJ B H
 sub:∀p∈I,p∈C
 bu:∀p∈C,CK (H p)
 len:m.length=E.length
 val:∀(i:Nat)(d:D),m[i]?=wz (.val d)->∃v,E[i]?=wz (wz v)/\iM K (ê H C) d v
 own:∀(i:Nat)(ts:List D),m[i]?=wz (.own ts)->∃p xs,E[i]?=wz (wz (.ref p))/\p∈C/\B p=wx/\p∉I/\H p=wz (.u8 xs)/\gq K (ê H C) ts xs
 Ī:∀(i j:Nat)(ts us:List D)(p:à),m[i]?=wz (.own ts)->m[j]?=wz (.own us)->E[i]?=wz (wz (.ref p))->E[j]?=wz (wz (.ref p))->i=j
 dc:tF K B I H C m E
variable{B:Hp}{I C:List à}{m:List Sl}{E:L2.St}
theorem Ok.fz(o:Ok K B I H C m E)(e:bJ H G):Ok K B I G C m E where
 base:=o.base.trans e
 sub:=o.sub
 bu:=λp hp=>let ⟨u,h1,h2⟩:=o.bu p hp;#[u,e p u h1,h2]
 len:=o.len
 val:=λi d h=>let ⟨v,h1,h2⟩:=o.val i d h;#[v,h1,h2.same (bU e)]
 own:=λi ts h=>let ⟨p,xs,h1,h2,h3,h4,h5,h6⟩:=o.own i ts h;#[Ϟ,p,xs,h1,h2,h3,h4,e _ _ h5,h6.same (bU e)]
 Ī:=o.Ī
 dc:=o.dc.fz e
theorem Ok.set(o:Ok K B I H C m E){i:Nat}{v}(r:iM K (ê H C) d v):Ok K B I H C (m.set i (.val d)) (E.set i (wz v)) where
 base:=o.base
 sub:=o.sub
 bu:=o.bu
 len:=Á o.len
 val:=λj d' h=>by
  by_cases e:i=j
  .subst e
   have hi:i<iN m:=by
    have:=(aD.mp h).1;simpa using this
   rw[bI hi]at h;cases h;exact#[v,by rw[bI (by rw[<- o.len];exact hi)],r]
  .rw[aY e]at h |-
   exact o.val j d' h
 own:=λj ts h=>by
  by_cases e:i=j
  .subst e
   have hi:i<iN m:=by
    have:=(aD.mp h).1;simpa using this
   rw[bI hi]at h;cases h
  .rw[aY e]at h |-
   exact o.own j ts h
 Ī:=λj k ts us p h1 h2 h3 h4=>by
  have ne:∀{l:Nat}{ts:List D},(m.set i (.val d))[l]?=wz (.own ts)->i≠l:=λ{l ts} h e=>by
   subst e
   have hi:i<iN m:=by
    have:=(aD.mp h).1;simpa using this
   rw[bI hi]at h;cases h
  have e1:=ne h1;have e2:=ne h2;rw[aY e1]at h1 h3;rw[aY e2]at h2 h4;exact o.Ī j k ts us p h1 h2 h3 h4
 dc:=o.dc.setS λ_ _ z=>nomatch z
def Ok.setOwn(o:Ok K B I H C m E){i:Nat}{O:List D}{F:List V}{p:à}(y:H p=wx)(r:gq K (ê H C) O F):Ok K B I (fU H p (.u8 F)) (p::C) (m.set i (.own O)) (E.set i (wz (.ref p))):=by
 have M:ê (fU H p (.u8 F)) (p::C)=ê H C:=nN y;have v:=iS o.bu y
 have P:∀{l:Nat}{w:List D},i≠l->m[l]?=wz (.own w)->E[l]?≠wz (wz (.ref p)):=λ{l w} _ h z=>Ø (o.own l w h) λq _ c f _=>by rw[z]at c;cases c;exact v f
 refine#[o.base.trans (dZ y),λq N=>aE _ (o.sub q N),λq N=>?_,Á o.len,λj d h=>?_,λj w h=>?_,λj k w S q c f g n=>?_,2]
 .by_cases e:q=p
  .subst e;rw[cL];exact .u8
  .rw[cC e];rcases aN.mp N with z | z
   .exact c9 z e
   .exact o.bu q z
 .rw[M];by_cases e:i=j
  .subst e;have t:i<iN m:=Á (aD.mp h).1
   rw[bI t]at h;cases h
  .rw[aY e]at h |-
   exact o.val j d h
 .rw[M];by_cases e:i=j
  .subst e;have t:i<iN m:=Á (aD.mp h).1
   rw[bI t]at h;cases h;refine#[Ϟ,p,F,by rw[bI (by rw[<- o.len];exact t)],aJ ..,2,λz=>v (o.sub p z),cL,r]
   cases q:B p with
   |none=>rfl
   |some u=>rw[o.base p u q]at y;cases y
  .rw[aY e]at h |-
   refine ì (o.own j w h) λq T c f g n Q R=>#[Ϟ,q,T,c,aE _ f,g,n,2,R];rw[cC (λz:q=p=>v (z▸f))];exact Q
 .by_cases A:i=j
  .by_cases x:i=k
   .exact A.symm.trans x
   .subst A;have t:i<iN m:=Á (aD.mp c).1
    rw[bI (by rw[<- o.len];exact t)]at g;cases g;rw[aY x]at f n;exact c9 n (P x f)
  .by_cases x:i=k
   .subst x;have t:i<iN m:=Á (aD.mp f).1
    rw[bI (by rw[<- o.len];exact t)]at n;cases n;rw[aY A]at c g;exact c9 g (P A c)
   .rw[aY A]at c g;rw[aY x]at f n;exact o.Ī j k w S q c f g n
 .exact(o.dc.setS (s:=.own O) λ_ _ z=>nomatch z).to (λj W bt h=>#[h,1]) (λq U a b _=>#[aE _ a,cC λz=>by rw[z,y]at b;cases b]) (λq U _ _ a b=>#[a,b]) (by rw[M];exact L2.bJ.refl _)
def Ok.ĩ(o:Ok K B I H C m E){i:Nat}{p:à}(v:m[i]?=wz (.own ts))(c:E[i]?=wz (wz (.ref p)))(r:gq K (ê H C) us ys) :
  Ok K B I (fU H p (.u8 ys)) C (m.set i (.own us)) E:=ì (o.own i ts v) λq Y M N O P Q W=>by
 rw[c]at M;cases M;have w:ê (fU H p (.u8 ys)) C=ê H C:=fW N;have n:=(aD.mp v).1;refine#[λb u e=>?_,o.sub,λq R=>?_,Á o.len,λj d h=>?_,λj A h=>?_,λj k vs A q g t x y=>?_,2]
 .rw[cC (λz=>by rw[z,O]at e;cases e)];exact o.base b u e
 .by_cases e:q=p
  .subst e;rw[cL];exact .u8
  .rw[cC e];exact o.bu q R
 .rw[w];by_cases e:i=j
  .subst e;rw[bI n]at h;cases h
  .rw[aY e]at h;exact o.val j d h
 .rw[w];by_cases e:i=j
  .subst e;rw[bI n]at h;cases h;exact#[Ϟ,p,ys,c,N,O,P,cL,r]
  .rw[aY e]at h;refine ì (o.own j A h) λq vs g t x y S T=>#[Ϟ,q,vs,g,t,x,y,2,T];rw[cC (λz:q=p=>e (o.Ī i j ts A p v h c (z▸g)))];exact S
 .have cm:∀{l:Nat}{vs:List D},(m.set i (.own us))[l]?=wz (.own vs)->∃f,m[l]?=wz (.own f):=λ{l vs} h=>by
   by_cases e:i=l
   .subst e;exact#[ts,v]
   .rw[aY e]at h;exact#[vs,h]
  exact Ë (cm g) λf g=>Ë (cm t) λF t=>o.Ī j k f F q g t x y
 .exact(o.dc.setT (s:=.own us) λ_ _ z=>nomatch z).to (λj X bt h=>#[h,1]) (λq U a b _=>#[a,cC λz=>by rw[z,Q]at b;cases b]) (λq U _ _ a b=>#[a,b]) (by rw[w];exact L2.bJ.refl _)
def Ok.shareP(o:Ok K B I H C m E){i:Nat}(w:m[i]?=wz (.own ts)):∃p A,H p=wz (.u8 A)/\p∉I/\Ok K B I H (C.filter λq=>decide (q≠p)) (m.set i (.val (eE ts))) E/\bJ (ê H C) (ê H (C.filter λq=>decide (q≠p))):=ì (o.own i ts w) λp A F T U M u N=>by
 have f:=(aD.mp w).1;have c:bJ (ê H C) (ê H (C.filter λq=>decide (q≠p))):=iO λq g=>(cD.mp g).1;refine#[Ϝ,p,A,u,M,#[o.base,λq g=>cD.mpr #[o.sub q g,c6 λz=>M (z▸g)],λq g=>o.bu q (cD.mp g).1,Á o.len,λj d h=>?_,λj t h=>?_,λj k t Q q n r x y=>?_,2],c]
 .by_cases e:i=j
  .subst e;rw[bI f]at h;cases h;exact#[Ϙ,_,F,.list (qE.of (nB (λz=>(c8 (cD.mp z).2) eH) u)) (N.same c)]
  .rw[aY e]at h;exact Ê (o.val j d h) λv n r=>#[Ϙ,v,n,r.same c]
 .by_cases e:i=j
  .subst e;rw[bI f]at h;cases h
  .rw[aY e]at h;exact ì (o.own j t h) λq R n r x y O P=>#[Ϟ,q,R,n,cD.mpr #[r,c6 λz=>e (o.Ī i j ts t p w h F (z▸n))],x,y,O,P.same c]
 .have cm:∀{l:Nat}{vs:List D},(m.set i (.val (eE ts)))[l]?=wz (.own vs)->m[l]?=wz (.own vs):=λ{l vs} h=>by
   by_cases e:i=l
   .subst e;rw[bI f]at h;cases h
   .rw[aY e]at h;exact h
  exact o.Ī j k t Q q (cm n) (cm r) x y
 .exact(o.dc.setT (s:=.val (eE ts)) λ_ _ z=>nomatch z).to (λj W bt h=>#[h,1]) (λq S a b _=>#[cD.mpr #[a,c6 λz=>by rw[z,u]at b;cases b],1]) (λq S _ _ a b=>#[a,b]) c
def Ok.share(o:Ok K B I H C m E){i:Nat}(b:m[i]?=wz (.own ts)):∃a,Ok K B I H a (m.set i (.val (eE ts))) E/\bJ (ê H C) (ê H a):=Ø (o.shareP b) λ_ _ _ _ h=>#[_,h]
abbrev ET:=List Sl->(D->Prop)->Prop
abbrev yT:=List Sl->(Bool->Prop)->Prop
abbrev AT:=List Sl->(List D->Prop)->Prop
def eX(X:Cx)(e:æ)(t:ET):Prop:=∃b,PE X e b/\∀B I H C m E Q a,Ok X.K B I H C m E->t m Q ->
 (∀d v G,bJ H G->iM X.K (ê G C) d v->Q d->a v G)->b E H a
def LB(X:Cx)(e:æ)(t:yT):Prop:=∃c,PT X e c/\∀B I H C m E Q a,Ok X.K B I H C m E->t m Q ->
 (∀b G,bJ H G->Q b->a b G)->c E H a
def yj(X:Cx)(e:æ)(t:yT):Prop:=∃c,PW X e c/\∀B I H C m E Q a,Ok X.K B I H C m E->t m Q ->
 (∀b G,bJ H G->Q b->a b G)->c E H a
def yU(X:Cx)(d:List æ)(t:AT):Prop:=∃c,PA X d c/\∀B I H C m E Q a,Ok X.K B I H C m E->t m Q ->
 (∀b vs G,bJ H G->gq X.K (ê G C) b vs->Q b->a vs G)->c E H a
structure LD where
 nx:List Sl->Prop
 rt:D->Prop
 bk:List Sl->Prop:=λ_=>False
 ct:List Sl->Prop:=λ_=>False
 ro:List D->Prop:=λ_=>False
 rp:List D->List D->Prop:=λ_ _=>False
 rq:D->List D->Prop:=λ_ _=>False
 xB:Hp->Prop:=λ_=>True
abbrev xS:=LD->List Sl->Prop
structure S7(K:aH)(B:Hp)(I:List à)(H:Hp)(C:List à)(DT:LD)(DV:aEv):Prop where
 nx:∀G z5 u5 v7,Ok K B I G z5 u5 v7->bJ (ê H C) (ê G z5)->DT.nx u5->DV.nx v7 G
 bk:∀G z5 u5 v7,Ok K B I G z5 u5 v7->bJ (ê H C) (ê G z5)->DT.bk u5->DV.bk v7 G
 ct:∀G z5 u5 v7,Ok K B I G z5 u5 v7->bJ (ê H C) (ê G z5)->DT.ct u5->DV.ct v7 G
 rt:∀d v G,bJ B G->iM K (ê G I) d v->DT.rt d->DV.rt v G
 ro:∀ts p xs G,bJ B G->B p=wx->p∉I->G p=wz (.u8 xs)->gq K (ê G (p::I)) ts xs->DT.ro ts->DV.rt (.ref p) G
 rp:∀as bs r p q xs ys G,bJ B G->B r=wx->B p=wx->B q=wx->p≠q->G r=wz (.ņ [.ref p,.ref q])->G p=wz (.u8 xs)->G q=wz (.u8 ys)->gq K (ê G (p::q::I)) as xs->gq K (ê G (p::q::I)) bs ys->DT.rp as bs->DV.rt (.ref r) G
 rq:∀a ts r p x xs G,bJ B G->B r=wx->B p=wx->G r=wz (.ņ [x,.ref p])->G p=wz (.u8 xs)->iM K (ê G (p::I)) a x->gq K (ê G (p::I)) ts xs->DT.rq a ts->DV.rt (.ref r) G
 xb:DT.xB B
def S7.ł(f:S7 K B I H C DT DV)(e:bJ (ê H C) (ê G z5)):S7 K B I G z5 DT DV:=
 #[λ_ _ _ _ o s q=>f.nx _ _ _ _ o (e.trans s) q,λ_ _ _ _ o s q=>f.bk _ _ _ _ o (e.trans s) q,λ_ _ _ _ o s q=>f.ct _ _ _ _ o (e.trans s) q,f.rt,f.ro,f.rp,f.rq,f.xb]
def CI(X:Cx)(st:é)(t:xS):Prop:=∃c,PS X st c/\∀B I H C m E a b,Ok X.K B I H C m E->t a m->S7 X.K B I H C a b->c b E H
def wG(X:Cx)(st:List é)(t:xS):Prop:=∃c,EK X st c/\∀B I H C m E a b,Ok X.K B I H C m E->t a m->S7 X.K B I H C a b->c b E H
abbrev ų:=D->D->(D->Prop)->Prop
def AN(X:Cx)(r:R2)(f:ų):Prop:=∀H C b c x y Q a,(∀p∈C,CK (H p))->iM X.K (ê H C) b x->iM X.K (ê H C) c y->f b c Q ->
 (∀d v G,bJ H G->iM X.K (ê G C) d v->Q d->a v G)->r x y H a
abbrev ů:=List D->(D->Prop)->Prop
def sL(X:Cx)(r:ű)(f:ů):Prop:=∀H C b c Q a,(∀p∈C,CK (H p))->gq X.K (ê H C) b c->f b Q ->
 (∀d v G,bJ H G->iM X.K (ê G C) d v->Q d->a v G)->r c H a
section
variable{X:Cx}{a b e:æ}{M:List æ}{l s R:ET}{pos:Pos}
inductive aEk(E:List Sl)(i:Nat)(Q:D->Prop):Prop
|mk (d:D) (h:E[i]?=wz (.val d)) (k:Q d):aEk E i Q
section
variable{E:List Sl}{i j k l m n:Nat}{a b c d e f:D}
theorem Â{Q:D->D->Prop}(h0:E[i]?=wz (.val a))(h1:E[j]?=wz (.val b))(h:Q a b):aEk E i λx=>aEk E j λy=>Q x y:=#[_,h0,_,h1,h]
theorem Ã{Q:D->D->D->Prop}(h0:E[i]?=wz (.val a))(h1:E[j]?=wz (.val b))(h2:E[k]?=wz (.val c))(h:Q a b c):aEk E i λx=>aEk E j λy=>aEk E k λz=>Q x y z:=#[_,h0,_,h1,_,h2,h]
theorem Ä{Q:D->D->D->D->Prop}(h0:E[i]?=wz (.val a))(h1:E[j]?=wz (.val b))(h2:E[k]?=wz (.val c))(h3:E[l]?=wz (.val d))(h:Q a b c d):aEk E i λx=>aEk E j λy=>aEk E k λz=>aEk E l λw=>Q x y z w:=#[_,h0,_,h1,_,h2,_,h3,h]
theorem Å{Q:D->D->D->D->D->Prop}(h0:E[i]?=wz (.val a))(h1:E[j]?=wz (.val b))(h2:E[k]?=wz (.val c))(h3:E[l]?=wz (.val d))(h4:E[m]?=wz (.val e))(h:Q a b c d e):aEk E i λx=>aEk E j λy=>aEk E k λz=>aEk E l λw=>aEk E m λv=>Q x y z w v:=#[_,h0,_,h1,_,h2,_,h3,_,h4,h]
theorem Æ{Q:D->D->D->D->D->D->Prop}(h0:E[i]?=wz (.val a))(h1:E[j]?=wz (.val b))(h2:E[k]?=wz (.val c))(h3:E[l]?=wz (.val d))(h4:E[m]?=wz (.val e))(h5:E[n]?=wz (.val f))(h:Q a b c d e f):aEk E i λx=>aEk E j λy=>aEk E k λz=>aEk E l λw=>aEk E m λv=>aEk E n λu=>Q x y z w v u:=#[_,h0,_,h1,_,h2,_,h3,_,h4,_,h5,h]
end
def X6{E}{i:Nat}{Q:D->Prop}:aEk E i Q↔∃d,E[i]?=wz (.val d)/\Q d:=#[λ⟨d,h,k⟩=>#[d,h,k],λ⟨d,h,k⟩=>#[d,h,k]]
def zC(i:Nat):ET:=λE Q=>aEk E i Q
def eC(d:D):ET:=λ_ Q=>Q d
def eP(i:Nat){x:â}{pos}(g:X.N[i]?=wz x|>ũ)(j:zh X.ak.scope x|>ţ)(hd:Ů x|>Ū)
  (c:(x==("__classdict__":â))=false|>Ū):eX X (KK x pos) (zC i):=
 #[Ϙ,_,La g j hd c,λB I H C m E Q n o h k=>by
  obtain⟨d,e,q⟩:=h;exact Ê (o.val i d e) λv f r=>#[Ϙ,v,f,k d v H (L2.bJ.refl H) r q]]
def fS{pos}:eX X (Tm (.int i) j pos) (eC (aW i)):=#[Ϙ,_,AC,λ_ _ H _ _ _ _ _ _ h k=>k _ _ H (L2.bJ.refl H) (.int i) h]
def D2{b pos}:eX X (Tm (.bool b) j pos) (eC (QM b)):=#[Ϙ,_,Su,λ_ _ H _ _ _ _ _ _ h k=>k _ _ H (L2.bJ.refl H) (.bool b) h]
def qV{pos}:eX X (Tm .none j pos) (eC ES):=#[Ϙ,_,aMy,λ_ _ H _ _ _ _ _ _ h k=>k _ _ H (L2.bJ.refl H) .none h]
def dX{pos}:eX X (Tm (.str x) j pos) (eC (aG x)):=#[Ϙ,_,aMw,λ_ _ H _ _ _ _ _ _ h k=>k _ _ H (L2.bJ.refl H) (.str x) h]
def FE{x:â}{i:Int}{pos}(c:Gl X x)(d:X.mg x=wz (u7 i t))(hd:Ů x|>Ū):eX X (KK x pos) (eC (aW i)):=#[Ϙ,_,yH (v:=.int i) c d #[t,1] hd,λ_ _ H _ _ _ _ _ _ h k=>k _ _ H (L2.bJ.refl H) (.int i) h]
def MY{x:â}{z:â}{pos}(c:Gl X x)(d:X.mg x=wz (ck z t))(hd:Ů x|>Ū):eX X (KK x pos) (eC (aG z)):=#[Ϙ,_,yH (v:=.str z) c d #[t,1] hd,λ_ _ H _ _ _ _ _ _ h k=>k _ _ H (L2.bJ.refl H) (.str z) h]
def XV(f:ų)(l s:ET):ET:=λE Q=>l E λx=>s E λy=>f x y Q
def E7{f:ų}(t:AN X r f){j n:TE}
  (u:∀B I H C m E Q c,Ok X.K B I H C m E->l m Q->(∀d v G,bJ H G->iM X.K (ê G C) d v->Q d->c v G)->j E H c)
  (hb:∀B I H C m E Q c,Ok X.K B I H C m E->s m Q->(∀d v G,bJ H G->iM X.K (ê G C) d v->Q d->c v G)->n E H c)
  (B:Hp) (I:List à) (H:Hp) (C:List à) (m:List Sl) (E:L2.St) (Q:D->Prop) (c:VK) (o:Ok X.K B I H C m E) (h:XV f l s m Q) (k:∀d v G,bJ H G->iM X.K (ê G C) d v->Q d->c v G):ym r j n E H c:=by
 let p x J g A q1:=u B I H C m E _ _ o h;let q y L i F q2:=hb B I J C m E _ _ (o.fz g) q1;exact t L C p q x y Q c ((o.fz g).fz i).bu (A.same (bU i)) F q2 λd v G N z w=>k d v G (g.trans (i.trans N)) z w
def fF{f:ų}(g:oU X (l3 op) r)(c:AN X r f)(d:eX X a l)(hb:eX X b s):eX X (.BinOp a op b pos) (XV f l s):=Ê d λk h i=>Ê hb λn pb j=>#[Ϙ,_,OJ g h pb,E7 c i j]
def pG{f:ų}(h:oU X (e9 op) r)(c:AN X r f)(d:eX X a l)(hb:eX X b s)(g:d8 op b=false|>Ţ):eX X (Ty a [op] [b] pos) (XV f l s):=Ê d λo i k=>Ê hb λp j n=>#[Ϙ,_,UN h i j g,E7 c k n]
def nO{f:ų}(g:hH X r)(c:AN X r f)(d:eX X a l)(hb:eX X b s)(h:FG b|>š):eX X (Ć a b pos) (XV f l s):=Ê d λo i k=>Ê hb λp j n=>#[Ϙ,_,GD g i j h,E7 c k n]
def Ex(l:ET):ET:=λE Q=>l E λx=>match x with | aW i=>Q (aW (-i)) | _=>False
def aOf(c:eX X a l):eX X (.UnaryOp .USub a pos) (Ex l):=Ê c λq f j=>by
 refine#[Ϙ,_,Sx aLs f,λB I H C m E Q p o h k=>j B I H C m E _ _ o h λd x J n g q1=>?_]
 cases g with
 |int i=>exact#[Ϙ,i,1,k _ _ J n (.int _) q1]
 |_=>exact q1.elim
def xR:AT:=λ_ Q=>Q []
def oR(t:ET)(r:AT):AT:=λE Q=>t E λx=>r E λc=>Q (x::c)
def bT:yU X [] xR:=#[Ϙ,_,mJ,λ_ _ H _ _ _ _ _ _ h k=>k _ _ H (L2.bJ.refl H) .nil h]
def aO{tr}(g:eX X e R)(i:yU X M tr)(j:bR (e::M) X.ak=(wv,è e X.ak)::bR M X.ak|>ũ):yU X (e::M) (oR R tr):=Ê g λy n t=>Ê i λz p u=>by refine#[Ϙ,_,gT n p j,λB I H C m E Q v o h k=>t B I H C m E _ _ o h λd x J c q q1=>?_];let w A L f r q2:=u B I J C m E _ _ (o.fz c) q1;exact k _ _ L (c.trans f) (.cons (q.same (bU f)) r) q2
def Bl(t:AT):ET:=λE Q=>t E λc=>iN c<=1000/\Q (cN c)
def Ew(t:AT):ET:=λE Q=>t E λc=>iN c<=1000/\Q (eE c)
def vE{C:List à}{p:à}{c:List D}{f:List V}(bu:∀q∈C,CK (H q))(d:H p=wx)(r:gq K (ê H C) c f):iM K (ê (fU H p (.ņ f)) C) (cN c) (.ref p):=
 .tuple (tV.of (nB (iS bu d) cL)) (r.same (bU (dZ d)))
def yG{C:List à}{p:à}{c:List D}{f:List V}(bu:∀q∈C,CK (H q))(d:H p=wx)(r:gq K (ê H C) c f):iM K (ê (fU H p (.u8 f)) C) (eE c) (.ref p):=
 .list (qE.of (nB (iS bu d) cL)) (r.same (bU (dZ d)))
def yL{n:Nat}(h:n<=1000):n<=bM:=iG (WK h)
def iU(h:yU X M t):eX X (.Tuple M x1 pos) (Bl t):=Ê h λv p r=>by refine#[Ϙ,_,RH p,λB I H C m E Q g o h k=>r B I H C m E _ _ o h λi j J f d q1=>#[yL (by rw[<- d.length];exact q1.1),λq c=>?_]];exact k _ _ _ (f.trans (dZ c)) (vE (o.fz f).bu c d) q1.2
def HE(h:yU X M t):eX X (.List M pos) (Ew t):=Ê h λv p r=>by refine#[Ϙ,_,RI p,λB I H C m E Q g o h k=>r B I H C m E _ _ o h λi j J f d q1=>#[yL (by rw[<- d.length];exact q1.1),λq c=>?_]];exact k _ _ _ (f.trans (dZ c)) (yG (o.fz f).bu c d) q1.2
def mF(f:ů)(t:AT):ET:=λE Q=>t E λc=>f c Q
abbrev kK:=ů
def lG(K:aH)(g:kK):Sp:=λvs H Q _=>∃C f c,(∀p∈C,CK (H p))/\gq K (ê H C) f vs/\g f c/\∀d v G,bJ H G->iM K (ê G C) d v->c d->Q v G
def aIe{k:Nat}{f:à}{pn}(F:nG X.prog X.w X.K X.mg X.base rH k f fd pn (lG X.K sp))(P:X.mg x=wz (g8 f))(O:gZ X.K (g8 f)=ww)(hb:sO X.K fd pn [])
  (S:iL k X.A) (i:yU X (e::M) t) (n:∀{l},PA X (e::M) l->PE X (ă (KK x p) (e::M) [] pos) (JQ (lG X.K sp) [] E0 l)):eX X (ă (KK x p) (e::M) [] pos) (mF sp t):=Ê i λv j y=>by refine#[Ϙ,_,n j,λB I H C m E Q N o h k=>y B I H C m E _ _ o h λg T J c u q1=>?_];rw[cG];exact#[ϡ,C,g,Q,(o.fz c).bu,u,q1,λd v G z r q=>k d v G (c.trans z) r q]
def K5(t:ET):yT:=λE Q=>t E λx=>match x with | QM b=>Q b | _=>False
def aLt(h:eX X e R)(pt:∀{t},PE X e t->PT X e (tB t)):LB X e (K5 R):=Ê h λv p r=>by
 refine#[Ϙ,_,pt p,λB I H C m E Q i o h k=>r B I H C m E _ _ o h λd x J g f q1=>?_]
 cases f with
 |bool c=>exact#[Ϙ,c,1,k c J g q1]
 |_=>exact q1.elim
def fL{f:ų}(p:oU X (e9 op) r)(i:AN X r f)(j:eX X a l)(hb:eX X b s)(n:d8 op b=false|>Ţ):LB X (Ty a [op] [b] pos) (K5 (XV f l s)):=Ê j λF q w=>Ê hb λN t y=>by
 refine#[Ϙ,_,UI p q t n,λB I H C m E Q A o h k=>?_];let d v G z u g:=E7 i w y B I H C m E (λx=>match x with | QM b=>Q b | _=>False) _ o h
 cases u with
 |bool c=>exact#[Ϙ,c,1,k c G z g]
 |_=>exact g.elim
def Bj(t:yT):yT:=λE Q=>t E λb=>Q (!b)
def Eu(t u:yT):yT:=λE Q=>t E λb=>if b=ww then u E Q else Q wv
def Es(t u:yT):yT:=λE Q=>t E λb=>if b=ww then Q ww else u E Q
variable{O P:yT}{jU:List æ}
def rV(h:LB X a O):LB X (.UnaryOp .Not a pos) (Bj O):=Ê h λv p r=>#[Ϙ,_,Le p,λB I H C m E Q f o h k=>r B I H C m E _ _ o h λb G d c=>k _ G d c]
def DR(h:yj X e O):LB X e O:=Ê h λv p r=>#[Ϙ,_,p.pt,r]
def LO(h:LB X a O):yj X (ÿ .And [a] pos) O:=Ê h λv p r=>#[Ϙ,_,aGu p,r]
def FO(h:LB X a O):yj X (ÿ .Or [a] pos) O:=Ê h λv p r=>#[Ϙ,_,Lf p,r]
def QW(f:LB X a O)(hb:yj X (ÿ .And (b::jU) pos) P):yj X (ÿ .And (a::b::jU) pos) (Eu O P):=Ê f λt g n=>Ê hb λu i p=>by
 refine#[Ϙ,_,aMu g i,λB I H C m E Q r o h k=>n B I H C m E _ _ o h λc J d q1=>?_]
 cases c with
 |true=>exact p B I J C m E Q _ (o.fz d) q1 λb G q j=>k b G (d.trans q) j
 |false=>exact k _ J d q1
def JM(f:LB X a O)(hb:yj X (ÿ .Or (b::jU) pos) P):yj X (ÿ .Or (a::b::jU) pos) (Es O P):=Ê f λt g n=>Ê hb λu i p=>by
 refine#[Ϙ,_,Ib g i,λB I H C m E Q r o h k=>n B I H C m E _ _ o h λc J d q1=>?_]
 cases c with
 |true=>exact k _ J d q1
 |false=>exact p B I J C m E Q _ (o.fz d) q1 λb G q j=>k b G (d.trans q) j
def Ev(l s:ET):ET:=λE Q=>l E λx=>match x with | QM c=>if c=ww then s E Q else Q (QM wv) | _=>False
def Ep(l s:ET):ET:=λE Q=>l E λx=>match x with | QM c=>if c=ww then Q (QM ww)else s E Q | _=>False
def xL(h:eX X a l):eX X (ÿ op [a] pos) l:=Ê h λv p r=>#[Ϙ,_,Lx p,r]
def C9(g:eX X a l)(hb:eX X (ÿ .And (b::jU) pos) s):eX X (ÿ .And (a::b::jU) pos) (Ev l s):=Ê g λy i r=>Ê hb λz j t=>by
 refine#[Ϙ,_,Lu i j,λB I H C m E Q w o h k=>r B I H C m E _ _ o h λd x J f q q1=>?_]
 cases q with
 |bool c=>
  refine#[Ϙ,c,12]
  cases c with
  |true=>exact t B I J C m E Q _ (o.fz f) q1 λd v G u p n=>k d v G (f.trans u) p n
  |false=>exact k _ _ J f (.bool wv) q1
 |_=>exact q1.elim
def Qq(g:eX X a l)(hb:eX X (ÿ .Or (b::jU) pos) s):eX X (ÿ .Or (a::b::jU) pos) (Ep l s):=Ê g λy i r=>Ê hb λz j t=>by
 refine#[Ϙ,_,Sw i j,λB I H C m E Q w o h k=>r B I H C m E _ _ o h λd x J f q q1=>?_]
 cases q with
 |bool c=>
  refine#[Ϙ,c,12]
  cases c with
  |false=>exact t B I J C m E Q _ (o.fz f) q1 λd v G u p n=>k d v G (f.trans u) p n
  |true=>exact k _ _ J f (.bool ww) q1
 |_=>exact q1.elim
def M0(f g:ų)(l s d:ET):ET:=λE Q=>l E λx=>s E λy=>f x y λz=>match z with | QM c=>if c=ww then d E λw=>g y w Q else Q (QM wv) | _=>False
end
end TL
set_option maxHeartbeats 1000000
namespace L2
def SY{a b:Int}:∀l,TriplesOk l->∀y,codeAmong p (l++[v4 a,v4 b,x])=wz y->codeAmong p l=wz y\/y=x:=by
 intro l h
 fun_induction TriplesOk l with
 |case1=>
  intro y e;have c:(if(a==p.line&&b==p.col)=ww then wz x else codeAmong p [])=wz y:=e;split at c
  .exact i7 (d7 c).symm
  .cases c
 |case2 u t v w z r f=>
  intro y e;simp only[kU,codeAmong]at e |-
  split at e
  .rename_i d;rw[b8 d];exact j3 e
  .rename_i d;rw[a9 d];exact f h y e
 |case3=>exact h.elim
section
variable{X:Cx}{a:Ž}{d:St}{H:Hp}{s:ã}
structure Lam(X:Cx)(H:Hp)(h:ç)(f c:à)(fd:jF):Prop where
 obj:h.get? f=wz { cls:=.type "function",data:=.func fd }
 free:H f=wx
 code:fd.code=.ref c
 trk:∃oc P,H c=wz (.frz oc (.own P))/\Cq oc
 nfr:f∉uM X.stack
def dS.builtinsAt(I:dS X a d H s){P:à}{qs}(e:s.heap.get? P=wz { cls:=o0,data:=Id qs }):s.heap.BuiltinsAt X.mg P/\iR≠P:=ì I.mod.bmod λl o h i b j k c=>Ú I.mod.ġ λp n m f g _=>by
 refine#[#[l,o,h,i,λz=>?_,λz=>?_,I.bk _ _ b,j,k,c],λz=>?_]
 .rw[z,f]at b;cases b;rw[g]at c;cases c
 .have:=I.bk _ _ b;rw[z,e]at this;cases this;cases c
 .have:=I.bk _ _ f;rw[z,e]at this;cases this;cases g
def aCo{g:Scope}{c P:à}{Q:á->ã->Prop}{E:á->ã->Prop}{name}{N:Nat}(I:dS X a d H s)(hT:ĳ=wz P)(hc:X.ak.code=g8 c)(C:aEy X.base c P)(U:∀x∈g.names,x.2=g9->∃c,X.ak.cells.lookup x.1=wz c)
  (h:∀S s' f j cl pm i,dS X a d S s'->(∀b u,H b=wz u->S b=wz u)->Lam X S s'.heap f j (PySem.W.kla_fn name qual params body g cl pm (g8 j) i)->(∀n c,cl.lookup n=wz c->X.ak.cells.lookup n=wz c)->(∀n,(n,g9)∈g.names->∃c,cl.lookup n=wz c)->Q (g8 f) s') :
  å (ä X.prog X.w) X.A (makeFunction name qual params (.expr body) g X.ak [] [] [] pos N) Q E s:=Õ (AK U) λcl J F G=>Ë (I.env0.tab P hT) λps R=>Õ (I.gs P _ R) λqs T O e3=>Ì (I.builtinsAt T) λhb Y=>by
 have hg:=I.mod.ġ.keeps I.bk;have C':=C.keeps I.bk
 have nofr:∀b,dl s.heap.objs<=b->b∉uM X.stack:=λb hb z=>by
  rcases aN.mp (I.Ĳ b z)with y | y
  .rw[y]at hb;exact c9 I.lt (NR.mpr hb)
  .exact I.nofs hb y
 cases Z:codeAmong pos (aO6 qs) with
 |none=>
  let j i B tk hx k m K M:=PySem.W.kla_makeFunction J I.ok.ġ hg hc C' T O Z Y hb;refine Ò K λc2 q vs t q1 ψ=>í ψ λq2 q3 q4=>?_;cases q1;have kp:∀b o,b≠P->s.heap.get? b=wz o->(B.push (ER name qual params body g cl ((X.mg "__name__").getD o0) j i)).get? b=wz o:=λb o z e=>aI _ (hx b o z e);have nP:∀b,H b=wx->b≠P:=λb e z=>by rw[z,R]at e;cases e
  have l:∀b u,H b=wz u->fU H j (.frz q (.own P)) b=wz u:=λb u e=>by rw[cC (fD e (I.gs.fresh k))];exact e
  have un:Un X.fs [] H (fU H j (.frz q (.own P))) s.heap (B.push (ER name qual params body g cl ((X.mg "__name__").getD o0) j i)):=
   #[λb o e n _ _=>kp b o (nP b n) e,λb o e n _ _=>#[o.slots,kp b o (nP b n) e],λb o e n _=>by rw[cC (cO (bX (bG e) k))];exact n,λb o e _=>by
    by_cases z:b=P
    .exact#[_,by rw[z];exact aI _ M]
    .exact#[o,kp b o z e],λb xs e=>l _ _ e,λb o u e=>l _ _ e,λb ps e=>#[(Ŭ []),by rw[l _ _ e];simp]]
  have gs:rP X.prog X.w (fU H j (.frz q (.own P))) (B.push (ER name qual params body g cl ((X.mg "__name__").getD o0) j i)):=λb u e=>by
   by_cases z:b=j
   .subst z;rw[cL]at e;cases e;exact#[aI _ q2,_,aI _ q2]
   .rw[cC z]at e;by_cases z2:b=P
    .subst z2;rw[R]at e;cases e;refine#[ϙ,_,aI _ M,2,λp x hp=>?_]
     .rw[WA];exact TriplesOk_snoc _ _ _ _ O
     .rw[WA]at hp;rcases SY _ O _ hp with hp | hp
      .exact Ø (e3 p x hp) λc3 o3 r1 r2 r3=>#[ϛ,c3,o3,r1,l _ _ r2,r3]
      .exact#[j,q,hp,cL,vs,_,t,q3,q4]
    .refine(I.gs b u e).Ĥ (λy v hy r=>kp y v ?_ r) (λy r=>l _ _ r) (λy xs r=>l _ _ r) λy o v r=>l _ _ r;rcases hy with rfl | hy
     .exact z2
     .intro z3;rw[z3,R]at hy;cases hy
  refine h _ _ B.objs.size j cl _ i (I.un un gs) l #[bD _ eH,by rw[cC (iF m)];exact(I.gs.fresh (aR k (iG m))),1,#[q,P,cL,vs,_,t,q3,q4],nofr _ (aR k (iG m))] F G
 |some cv=>
  let j q r1 r2 r3:=Ø (e3 pos cv Z);subst r1;let i B tk hx L:=PySem.W.kla_makeFunctionHit J I.ok.ġ hg hc C' T O Z hb;exact h H _ B.objs.size j cl _ i (I.œ λb o e=>aI _ (hx b o e)) (λ_ _ e=>e) #[bD _ eH,I.gs.fresh L,1,#[Ϛ,q,P,r2,r3],nofr _ L] F G
end
def X3{A:g3}{R:Result->ã->Prop}{s:ã}{f c:à}{a:jF}{İ:List (â×á)}(i:A.depth<br)(l:s.heap.NoLimit)
  (H:s.heap.get? f=wz { cls:=fx "function",data:=.func a }) (p:a.scope.isCoroutine=wv) (k:a.scope.isGenerator=wv) (hb:a.body=.expr body) (E:a.code=g8 c) (C:s.heap.get? c=wz oc) (F:Cq oc)
  (d:bindArgs a args=pure İ) (g:∀x∈a.scope.names,x.2≠f7) (m:∀x∈İ,a.scope.names.lookup x.1=wz .local) (G:a.scope.kind=ć) (u:a.globals=iR) (n:a.builtins=t9)
  (h:∀q j,j.Ns s.heap.objs.size (λy=>İ.reverse.lookup y)->(∀b o,s.heap.get? b=wz o->j.get? b=wz o) ->
   å (ä prog w) (A.deeper (vT q a.scope s.heap.objs.size f a.code a.closure)) (è body (vT q a.scope s.heap.objs.size f a.code a.closure)) (λv J=>R (.ok (.ret v)) J) (λ_ _=>False) { s with heap:=j,toks:=s.toks+iN İ }) :
  z9 (ä prog w) A (.call (g8 f) args) R s:=Ñ F λvs q t hd I=>by refine codeAny_of_tree ?_;show å _ A.in1 (callAny (g8 f) args) _ _ s;refine aF (jm H ?_);simp only[callFunction,p,k,hb,E];refine aF (g4 C hd I (aF (aZ ?_)));rw[d,u,n];refine aF (aZ (aF (wpAny_newFunctionEnv g m (λj z B=>?_) G)));have kp:=λb o e=>B.extBut b o (cO (bG e)) (aI _ e);refine aF (wpAny_enterFrame (l.keeps kp) i (aZ #[12]));have:=h q j z kp;rw[E]at this;exact PySem.W.kla_codeExpr (fG this (λ_ _ r=>r) λ_ _ r=>r.elim)
abbrev BJ:Scope:={ kind:=.function,names:=[(f8 "entry",.local),(f8 "bottom",.free)],isGenerator:=wv,isCoroutine:=wv,more:=[] }
def O6(X:Cx)(A':g3)(q:â)(f:à)(cd:á)(cl:List (â×à))(s:ã)(H:Hp):Cx where
 prog:=X.prog
 w:=X.w
 K:=X.K
 mg:=X.mg
 base:=X.base
 A:=A'.deeper (vT q BJ s.heap.objs.size f cd cl)
 N:=["entry","bottom"]
 Ņ:=s
 H₀:=H
 ak:=vT q BJ s.heap.objs.size f cd cl
 ag:=X.stack
 stack:=vT q BJ s.heap.objs.size f cd cl::X.stack
 ex:=[]
 fn:=λ_=>wv
 Ň:=ww
 pn:=[]
 xe:=λ_ _=>False
def aHw{X:Cx}{A':g3}{q:â}{f m:à}{cd}{cl:List (â×à)}{s:ã}{k:ç}{tk:Nat}{b:Int}(I:dS X pins σ H s)(E:A'.frames=wz X.stack)(C:A'.handled=wx)
  (g:∀n c,cl.lookup n=wz c->X.ak.cells.lookup n=wz c) (l:cl.lookup ("bottom":â)=wz m) (h:s.heap.IsCell m (wz (u7 b t))) (r:gQ x u)
  (A:k.Ns s.heap.objs.size (λy=>[((f8 "entry":â),u)].reverse.lookup y)) (kp:∀b o,s.heap.get? b=wz o->k.get? b=wz o) :
  dS (O6 X A' q f cd cl s H) [] [wz x,wz (.int b)] H { s with heap:=k,toks:=tk }:=by
 have d:=I.env0;have gK:∀b:à,b∉(O6 X A' q f cd cl s H).ex:=λb z=>c9 (show b∈([]:List à)from z) dN
 have J:∀y:â,BJ.names.lookup y=wz f7\/BJ.names.lookup y=wz g9->y="bottom":=λy j=>by
  have e:BJ.names.lookup y=if y==(f8 "entry")then wz .local else if y==(f8 "bottom")then wz g9 else none:=by
   rw[eA,eA];cases (y==f8 "entry")<;>cases (y==f8 "bottom")<;>rfl
  rw[e]at j;split at j
  .rcases j with z | z<;>cases z
  .split at j
   .rename_i z;exact cf z
   .rcases j with z | z<;>cases z
 refine Ê h λK F w=>#[#[d.mod,17,aL _,λy z c a a2=>I.ok.inj y z c (g y c a) (g z c a2),λy j=>?_,λy c z=>(nomatch (show wv=ww from z)),λ_=>C,ev E,i7 #[7],λb z=>c9 z (gK b),d.bs,d.bsz,λb _ _=>gK b,λb z=>c9 z (gK b),d.Ğ,d.frf,d.tab],
  rfl,d.ŕ,Un.œ kp,#[Ϙ,_,A,λi y v a a2 L=>?_],λy c a=>?_,d.gs.fresh (aL _),λy c a=>I.Ĺ y c (g y c a),λp G=>c9 (show p∈([]:Ž)from G) dN,d.gs.œ kp,1]
 .have:=J y j;rw[this];exact#[m,l]
 .match i,a,a2 with
  |0,a,a2=>
   cases a;cases a2;exact#[Ϙ,u,r,j3 #[7]]
  |1,a,a2=>
   cases a;cases a2;exact#[Ϙ,u7 b t,#[t,1],i7 #[i7 eH,m,l,(#[Ϙ,K,kp _ _ F,w])]]
  |i+2,a,a2=>cases a
 .exact Ö (I.cell y c (g y c a)) λv o k B=>#[v,o,kp _ _ k,B]
def Un.butA{fs}{h c g:ç}{a:à}(u:Un fs ex H H1 h c)(f:gB a c g)(i:dl h.objs<=a):Un fs ex H H1 h g:=by
 have ne:∀b o,h.get? b=wz o->b≠a:=λb o e=>cO (bX (bG e) i);refine#[λb o e n c d=>(f.2 b (ne b o e)).trans (u.keep b o e n c d),λb o e n c d=>?_,u.free,λb o e d=>?_,u.Ĵ,u.ĵ,u.ķ]
 .exact Ë (u.slot b o e n c d) λk z=>#[k,(f.2 b (ne b o e)).trans z]
 .exact Ë (u.there b o e d) λj z=>#[j,(f.2 b (ne b o e)).trans z]
def Un.new{fs}{h h1:ç}{a:à}(u:Un fs ex H H1 h h1)(hn:H1 a=wx)(ha:dl h.objs<=a):Un fs ex H (fU H1 a o) h h1 where
 keep:=u.keep
 slot:=u.slot
 free:=λb ob e n hx=>by rw[cC (cO (bX (bG e) ha))];exact u.free b ob e n hx
 there:=u.there
 Ĵ:=λb xs e=>by have z:=u.Ĵ b xs e;rw[cC (fD z hn)];exact z
 ĵ:=λb ob v e=>by have z:=u.ĵ b ob v e;rw[cC (fD z hn)];exact z
 ķ:=λb ps e=>Ë (u.ķ b ps e) λm z=>#[m,by rw[cC (fD z hn)];exact z]
theorem rP.new{h}{a:à}(x:rP P w H h)(d:H a=wx)(new:lI P w (fU H a o) h a o):rP P w (fU H a o) h:=λb u e=>by
 by_cases hb:b=a
 .subst hb;rw[cL]at e;cases e;exact new
 .rw[cC hb]at e;have st:∀c v,H c=wz v->fU H a o c=wz v:=λc v q=>by rw[cC (fD q d)];exact q
  exact(x b u e).Ĥ (λc v _ q=>q) (λc q=>st _ _ q) (λc f q=>st _ _ q) λc ob v q=>st _ _ q
abbrev Gn(p:Pos):Arguments:={ posonlyargs:=[],args:=[{ arg:="entry",annotation:=wx,pos:=p }],vararg:=wx,kwonlyargs:=[],kw_defaults:=[],kwarg:=wx,defaults:=[] }
def JC(K:aH)(H:Hp)(b:Int)(x:V)(k:Int):Prop:=∃q a c d top bot,x=.ref q/\tV K H q [a,c,.ref d]/\tV K H d [.int top,.int bot]/\Bn b bot/\QC top (b / bot)/\k=top*(b / bot)
def JC.same{K}{H a:Hp}{b:Int}{k:Int}(h:JC K H b x k)(s:∀c u,H c=wz u->a c=wz u):JC K a b x k:=ð h λq j l d top bot z=>Ü z λe f g i=>#[q,j,l,d,top,bot,e,TL.bJ.Ő s f,TL.bJ.Ő s g,i]
section
variable{p1 a g l n B E F G q1 q2 q3 q4:Pos}
def aMz{X:Cx}{q:â}{f:à}{cd}{pins:Ž}{b k:Int}(I:dS (O6 X A' q f cd cl s H) [] [wz x,wz (.int b)] H s1)(h:JC X.K H b x k) :
  å (ä X.prog X.w) (O6 X A' q f cd cl s H).A (è (.BinOp (Ć (Ć (KK "entry" p1) (Tm (.int 2) 0 a) g) (Tm (.int 0) 0 l) n) .Mult (.BinOp (KK "bottom" B) .FloorDiv (Ć (Ć (KK "entry" E) (Tm (.int 2) 0 F) G) (Tm (.int 1) 0 q1) q2) q3) q4) (O6 X A' q f cd cl s H).ak)
   (EP (O6 X A' q f cd cl s H) [] [wz x,wz (.int b)] λv j=>v=.int k/\j=H) (λ_ _=>False) s1:=by
 have p:PE (O6 X A' q f cd cl s H) (.BinOp (Ć (Ć (KK "entry" p1) (Tm (.int 2) 0 a) g) (Tm (.int 0) 0 l) n) .Mult (.BinOp (KK "bottom" B) .FloorDiv (Ć (Ć (KK "entry" E) (Tm (.int 2) 0 F) G) (Tm (.int 1) 0 q1) q2) q3) q4) _:=
  OJ Lr (GD iP (GD iP (pv 0) AC (by intro _ _;rfl)) AC (by intro _ _;rfl)) (OJ E8 (pv 1) (GD iP (GD iP (pv 0) AC (by intro _ _;rfl)) AC (by intro _ _;rfl)))
 obtain⟨i,r,t,d,top,bot,rfl,c,e,m,o,rfl⟩:=h;refine p [] s1 _ H _ I ?_;refine#[Ϙ,0,i7 (j3 #[ϣ,i,_,(2),.ref d,7,c,1,i7 (j3 #[ϣ,d,_,(0),.int top,7,e,12])])];refine#[4,i7 (j3 #[ϣ,i,_,(2),.ref d,7,c,1,i7 (j3 #[ϣ,d,_,(1),.int bot,7,e,12])])];exact#[b,bot,7,m,top,b / bot,7,o,7]
def aL2(K:aH)(m:Nat)(o:TA):TE:=λj H Q=>o j H λvs e=>∃(p:à)(d:List V)(b:Int)(h:List Int),vs=[.ref p]/\qE K e p d/\iN d<64/\j[m]?=wz (wz (.int b))/\iN h=iN d/\(∀(i:Nat) x k,d[i]?=wz x->h[i]?=wz k->JC K e b x k) /\
 ∀f,(∀c u,e c=wz u->f c=wz u)->∀J r,SS.QI (iN d) (λi=>h.getD i 0) J->f r=wx->Q (.ref r) (fU f r (.u8 (J.map λi=>d.getD i .z8)))
theorem aAz{X:Cx}{ib:Nat}{k:Nat}{c P:à}(hr:iL (k+3) X.A)(hT:ĳ=wz P)(hc:X.ak.code=g8 c)(C:DM X.K c P=ww)(su:X.N[ib]?=wz "bottom")(hk:X.ak.kindOf "bottom"=wz f7)
  (hg:Gl X "sorted") (hm:X.mg "sorted"=wx) (hv:f6 "sorted"=wz (mt "sorted")) (ha:PA X [e] ta)
  (he:j7 pos (bR [e] X.ak)=(wv,è e X.ak)::j7 pos (bR [] X.ak)|>ũ)
  (U:(j7 pos (bR [e] X.ak)).any (·.1)=false|>ũ) :
  PE X (ă (KK "sorted" np) [e] [#[wz (f8 "key"),.Lambda (Gn ap) (.BinOp (Ć (Ć (KK "entry" p1) (Tm (.int 2) 0 a) g) (Tm (.int 0) 0 l) n) .Mult (.BinOp (KK "bottom" B) .FloorDiv (Ć (Ć (KK "entry" E) (Tm (.int 2) 0 F) G) (Tm (.int 1) 0 q1) q2) q3) q4) BJ lp,kp]] pos) (aL2 X.K ib ta):=by
 intro pins s σ H Q I h;refine u2 (AH I hg hm hv ?_ cS cS);refine callWith_kw (kN (ha pos pins s σ H _ I h) λus s1 zq=>?_) he U;refine Ø zq λvs H1 I1 r1 q1=>Ò q1 λp Z b kz V ψ=>Û ψ λhS mj uu sx mx q=>?_;subst V;let u V ru:=Ê (oG r1);subst V;cases ru
 have R:∀x∈BJ.names,x.2=g9->∃c,X.ak.cells.lookup x.1=wz c:=λx hx hf=>by
  have nq:x=(f8 "entry",NameKind.local)\/x=(f8 "bottom",g9):=Á hx
  rcases nq with rfl | rfl
  .cases hf
  .exact I.ok.has "bottom" (j3 hk)
 refine kws_cons (PySem.W.kla_eval eH (aCo I1 hT hc (PySem.W.codeHd_of_K I.mod.kin C) R λH2 s2 f c' cl pm vx r sH L oq rh=>kws_nil ?_));refine Ë (rh "bottom" (aE _ (aJ ..))) λcb ot=>Õ (r.list (L2.bJ.seq sH hS)) λY rv U hz=>?_;have d:=rv.length;have O:=(iL.in1 hr).in1
 have nofr:∀b,dl s2.heap.objs<=b->b∉uM X.stack:=λb hb z=>by
  rcases aN.mp (r.Ĳ b z)with y | y
  .rw[y]at hb;exact c9 r.lt (NR.mpr hb)
  .exact r.nofs hb y
 let Tp:ã->Prop:=λM=>M.os=s2.os/\z7 M.gens/\Un (uM X.stack) [] H2 H2 s2.heap M.heap/\rP X.prog X.w H2 M.heap
 have T:SS.X7 Tp s2.heap.objs.size:=by
  refine#[λM x h' tk t hx hs=>#[t.1,t.2.1,t.2.2.1.butA hs hx,t.2.2.2.but (r.gs.fresh hx) hs],λM o t=>#[t.1,t.2.1,t.2.2.1.trans (Un.œ λb u e=>aI _ e),t.2.2.2.œ λb u e=>aI _ e]]
 have į:SS.mR X.prog X.w X.A.in1.in1 Tp s2.heap.objs.size f Y kz:=λi v k0 M hv ow t=>by
  have I':=(λM t=>r.call' (ch:=[]) t.1 t.2.2.1 t.2.2.2 t.2.1 (λb z=>c9 z dN)) M t
  obtain⟨x,hx,rx⟩:∃x,Z[i]?=wz x/\gQ x v:=by
   have hi:i<iN Z:=by rw[d];exact(aD.mp hv).1
   let u h1 h2:=Ê (rv.get (aC hi));rw[hv]at h1;cases h1;exact#[_,aC hi,h2]
  refine Ê I'.loc λm hn hl=>Ê (hl ib "bottom" (.int b) su uu (i7 (j3 hk))) λub vf lb=>Ë vf λtb V=>?_;subst V
  have cell:M.heap.IsCell cb (wz (u7 b tb)):=by
   rcases lb with⟨z,_⟩ | ⟨_,c0,z1,z2⟩
   .rw[hk]at z;cases z
   .have:=oq _ _ ot;rw[this]at z1;cases z1;exact z2
  refine Ö L.trk λoc P' w1 w2=>Ì (I'.gs c' _ w1) λuz _=>ft (X3 O.depth I'.nolimit (t.2.2.1.keep f _ L.obj L.free L.nfr dN) eH eH eH eH uz w2 eH (λy hy=>?_) (λy hy=>?_) eH eH eH λqn h1 ng kp=>?_)
  .have ul:y=(f8 "entry",NameKind.local)\/y=(f8 "bottom",g9):=Á hy
   rcases ul with rfl | rfl<;>simp
  .rw[bC.mp hy];rfl
  .have J:=aHw (q:=qn) (f:=f) (cd:=g8 c') (tk:=M.toks+1) (A':=X.A.in1.in1) I' r.ok.frames O.hd oq ot cell rx ng kp;refine fG (aMz (pins:=pins) J ((mx i x k0 hx ow).same sH)) (λu s3 hu=>?_) λ_ _ z=>z;let v3 H3 J3 r3 V zz1:=Ý hu;subst V zz1;let t3 V:=Ë r3;subst V;exact#[ϙ,t3,1,#[J3.os.trans t.1,J3.ŕ,t.2.2.1.trans J3.base,J3.gs],λb o hb e=>J3.base.keep b o e (r.gs.fresh hb) (nofr b hb) (by simp[O6])]
 let M D out cc J t hD ho sb nh:=SS.WI T (#[1,r.ŕ,Un.refl,r.gs]) (ā U) (aL _) (by rw[sx,d]) (by rw[<- d];exact mj) į;have S:=r.gs.fresh hD;rw[<- d]at sb;have hL:(2:Nat)^24=bM:=rfl
 have Ŗ:fX (J.map λi=>Z.getD i .z8) (aO6 out):=by
  rw[nh]
  have:∀J:List Nat,(∀i∈J,i<iN Z)->fX (J.map λi=>Z.getD i .z8) (J.map λi=>Y.getD i o0):=by
   intro J hJ
   induction J with
   |nil=>exact tj
   |cons j J ih=>
    refine Cl ?_ (ih λi hi=>hJ i (aE _ hi));have hj:=hJ j (aJ ..);let u h1 h2:=Ê (rv.get (aC hj));show gQ (Z.getD j .z8) (Y.getD j o0);rw[cU,cU,h1,aC hj];exact h2
  exact this J sb.lt
 refine#[ϛ,.ref D,_,r.call' (H':=fU H2 D (.u8 (J.map λi=>Z.getD i .z8))) t.1 (t.2.2.1.new S hD) (t.2.2.2.new S #[2,aO6 out,cc,Ŗ,2]) t.2.1 (λb z=>c9 z dN),1,q H2 sH J D sb S]
 .rw[aB,sb.len,<- hL];exact ŀ
 .simpa[j0]using ho
end
end L2
namespace TL
open L2
variable{K:aH}{H L T U:Hp}{B:Hp}{O I:List à}{C:List Sl}{G:L2.St}
section
variable{X:Cx}{a b c e:æ}{es:List æ}{Y Z tc W:ET}{pos:Pos}
def HN{f g:ų}(J:AN X r f)(n:AN X m g){t u A:TE}
  (M:∀B O H I C G Q i,Ok X.K B O H I C G->Y C Q->(∀d v L,bJ H L->iM X.K (ê L I) d v->Q d->i v L)->t G H i)
  (hb:∀B O H I C G Q i,Ok X.K B O H I C G->Z C Q->(∀d v L,bJ H L->iM X.K (ê L I) d v->Q d->i v L)->u G H i)
  (N:∀B O H I C G Q i,Ok X.K B O H I C G->tc C Q->(∀d v L,bJ H L->iM X.K (ê L I) d v->Q d->i v L)->A G H i)
  (B:Hp) (O:List à) (H:Hp) (I:List à) (C:List Sl) (G:L2.St) (Q:D->Prop) (i:VK) (o:Ok X.K B O H I C G) (h:M0 f g Y Z tc C Q) (k:∀d v L,bJ H L->iM X.K (ê L I) d v->Q d->i v L):Q2 r m t u A G H i:=by
 let F x T j R q1:=M B O H I C G _ _ o h;let q y U l s q2:=hb B O T I C G _ _ (o.fz j) q1;let d3 z H3 s3 S q3:=J U I F q x y _ _ ((o.fz j).fz l).bu (R.same (bU l)) s q2
 cases S with
 |bool c=>
  refine#[Ϙ,c,12]
  cases c with
  |false=>exact k _ _ H3 (j.trans (l.trans s3)) (.bool wv) q3
  |true=>
   let d4 w E p r4 q4:=N B O H3 I C G _ _ (((o.fz j).fz l).fz s3) q3;exact n E I q d4 y w Q i ((((o.fz j).fz l).fz s3).fz p).bu ((s.same (bU s3)).same (bU p)) r4 q4 λd v L s' m P=>k d v L (j.trans (l.trans (s3.trans (p.trans s')))) m P
 |_=>exact q3.elim
def aDo{f g:ų}(m:oU X (e9 op) r)(h:oU X (e9 op') r')(i:AN X r f)(d:AN X r' g)(j:eX X a Y)(hb:eX X b Z)(k:eX X c tc)
  (l:gn [op,op'] [b,c]=false|>Ť):eX X (Ty a [op,op'] [b,c] pos) (M0 f g Y Z tc):=Ê j λu n q=>Ê hb λv o s=>Ê k λw p t=>#[Ϙ,_,aA4 m h n o p l,HN i d q s t]
def N3{f g:ų}(t:oU X (e9 op) r)(l:oU X (e9 op') i)(n:AN X r f)(j:AN X i g)(p:eX X a Y)(hb:eX X b Z)(q:eX X c tc)
  (s:gn [op,op'] [b,c]=false|>Ť):LB X (Ty a [op,op'] [b,c] pos) (K5 (M0 f g Y Z tc)):=Ê p λM u z=>Ê hb λN w A=>Ê q λP y E=>by
 refine#[Ϙ,_,aAs t l u w y s,λB O H I C G Q J o h k=>?_];let d v L F i m:=HN n j z A E B O H I C G (λx=>match x with | QM b=>Q b | _=>False) _ o h
 cases i with
 |bool c=>exact#[Ϙ,c,1,k c L F m]
 |_=>exact m.elim
abbrev OT:=List Sl->(Option Int->Prop)->Prop
def Aw(X:Cx)(e:Option æ)(t:OT):Prop:=∃to,PO X e to/\∀B O H I C G Q d,Ok X.K B O H I C G->t C Q ->
 (∀i L,bJ H L->Q i->d i L)->to G H d
def OS:OT:=λ_ Q=>Q wx
def OR(t:ET):OT:=λG Q=>t G λx=>match x with | aW i=>Q (wz i) | _=>False
def E6:Aw X wx OS:=#[Ϙ,_,aGy,λ_ _ H _ _ _ _ _ _ h k=>k _ H (L2.bJ.refl H) h]
def E5(h:eX X e W):Aw X (wz e) (OR W):=Ê h λv p r=>by
 refine#[_,aGx p,λB O H I C G Q j o h k=>r B O H I C G _ _ o h λd x T g f q1=>?_]
 cases f with
 |int i=>exact#[i,1,k _ T g q1]
 |_=>exact q1.elim
abbrev Ű:=D->Option Int->Option Int->(D->Prop)->Prop
def Ly(X:Cx)(r:Ų)(f:Ű):Prop:=∀H I d x lo h Q g,(∀p∈I,CK (H p))->iM X.K (ê H I) d x->f d lo h Q ->
 (∀d v L,bJ H L->iM X.K (ê L I) d v->Q d->g v L)->r x lo h H g
def yt(f:Ű)(t:ET)(d th:OT):ET:=λG Q=>t G λx=>d G λl=>th G λu=>f x l u Q
def BT{r:Ų}{f:Ű}{lo th}(q:gV X r)(m:Ly X r f)(n:eX X e W)(p:Aw X lo tl)(s:Aw X hi th) :
  eX X (Ć e (.Slice lo hi wx p2) pos) (yt f W tl th):=Ê n λM t re=>Ê p λN w rl=>Ê s λP y F=>by refine#[Ϙ,_,aA0 q t w y,λB O H I C G Q j o h k=>re B O H I C G _ _ o h λd x T g E q1=>?_];let l U i q2:=rl B O T I C G _ _ (o.fz g) q1;let u H3 s3 q3:=F B O U I C G _ _ ((o.fz g).fz i) q2;exact m H3 I d x l u Q j (((o.fz g).fz i).fz s3).bu ((E.same (bU i)).same (bU s3)) q3 λd v L J A z=>k d v L (g.trans (i.trans (s3.trans J))) A z
variable{st:é}{jU:List é}{t u:xS}
def nA:xS:=λd G=>d.nx G
def jH(t u:xS):xS:=λd G=>t { d with nx:=u d } G
def eK:wG X [] nA:=#[Ϙ,_,UJ,λB O H I C G d g o h f=>f.nx H I C G o (L2.bJ.refl _) h]
def aP(l:CI X st t)(m:wG X jU u):wG X (st::jU) (jH t u):=Ê l λx p1 r=>Ê m λw p s=>by refine#[Ϙ,_,pA p1 p,λB O H I C G g i o h f=>r B O H I C G { g with nx:=u g } { i with nx:=w i } o h #[λL j d k n v q=>?_,f.bk,f.ct,f.rt,f.ro,f.rp,f.rq,f.xb]];exact s B O L j d k g i n q (f.ł v)
def bQ(d:CI X st t):wG X [st] t:=Ê d λg p1 f=>#[Ϙ,_,E4 p1,f]
def Lq(i:Nat)(t:xS):xS:=λf G=>∃d,G[i]?=wz (.own d)/\t f (G.set i (.val (eE d)))
def lP(i:Nat)(h:wG X sts t):wG X sts (Lq i t):=Ê h λv p r=>by refine#[Ϙ,_,p,λB O H I C G g j o h f=>?_];exact Ê h λm e h=>Ê (o.share e) λd k l=>r B O H d _ G g j k h (f.ł l)
def OB(W:ET):xS:=λd G=>W G d.rt
def dB(h:eX X e W):CI X (.Return (wz e) pos) (OB W):=Ê h λv p r=>by refine#[Ϙ,_,C1 p,λB O H I C G k l o h f=>r B O H I C G _ _ o h λd x L j i g=>?_];exact f.rt d x L (o.base.trans j) (i.same (iO o.sub)) g
def kA(c:yT)(t u:xS):xS:=λd G=>c G λb=>if b=ww then t d G else u d G
def fN{c a b tc}(l:LB X c tc)(k:wG X a t)(hb:wG X b u):CI X (.If c a b pos) (kA tc t u):=Ê l λx p s=>Ê k λv m q=>Ê hb λw n r=>by
 refine#[Ϙ,_,Ia p m n,λB O H I C G i j o h f=>s B O H I C G _ _ o h λd T g q1=>?_]
 cases d with
 |true=>exact q B O T I C G i j (o.fz g) q1 (f.ł (bU g))
 |false=>exact r B O T I C G i j (o.fz g) q1 (f.ł (bU g))
def OA(i:Nat)(W:ET):xS:=λf G=>W G λd=>f.nx (G.set i (.val d))
def aL7{i:Nat}(h:eX X e W)(g:∀{v},PE X e v->PS X (Ā [KK x pos'] e pos) (wN v (mO i))):CI X (Ā [KK x pos'] e pos) (OA i W):=Ê h λv p r=>by refine#[Ϙ,_,g p,λB O H I C G m n o h f=>r B O H I C G _ _ o h λd x L j l k=>?_];exact f.nx L I _ _ ((o.fz j).set l) (bU j) k
def Ao(i:Nat)(t:AT):xS:=λf G=>t G λd=>iN d<=1000/\f.nx (G.set i (.own d))
def aL8{i:Nat}{t}(h:yU X es t)(d:∀{v},PE X (.List es p2) v->PS X (Ā [KK x pos'] (.List es p2) pos) (wN v (mO i))):CI X (Ā [KK x pos'] (.List es p2) pos) (Ao i t):=Ê h λv p r=>by refine#[Ϙ,_,d (RI p),λB O H I C G l m o h f=>r B O H I C G _ _ o h λn s T k j q1=>#[yL (by rw[<- j.length];exact q1.1),λq g=>?_]];exact f.nx _ (q::I) _ _ ((o.fz k).setOwn g j) ((bU k).trans (by rw[nN g];exact L2.bJ.refl _)) q1.2
def Am(i:Nat)(W:ET):xS:=λg G=>∃f,G[i]?=wz (.own f)/\W G λd=>iN f<=100000/\g.nx (G.set i (.own (f++[d])))
theorem nK{i:Nat}{e W}(P:PE X n (qQ i))(w:eX X e W)(z:bR [e] X.ak=(wv,è e X.ak)::bR [] X.ak|>ũ)
  (pb:∀{Y},PA X [e] Y->PS X (.Expr (ă (ą n "append" ap) [e] [] cp) pos) (JP (WG X.K "list" UG (qQ i) Y))):CI X (.Expr (ă (ą n "append" ap) [e] [] cp) pos) (Am i W):=Ê w λv p r=>by
 refine#[Ϙ,_,pb (gT p mJ z),λB O H I C G F J o h f=>?_];refine Ê h λE e h=>ì (o.own i E e) λq m j s M N k l=>#[.ref q,j,j3 #[1,m,qE.of k],r B O H I C G _ _ o h λd x T g A q1=>?_];refine#[Ϣ,q,m,x,7,g _ _ k,22]
 .rw[<- l.length];have:bM=2^24:=rfl;lia
 .have y:=(l.same (bU g)).append (.cons A .nil);exact f.nx _ I _ G ((o.fz g).ĩ e j y) ((bU g).trans (by rw[fW s];exact L2.bJ.refl _)) q1.2
def JV(x:â):List D:=x.cps.toList.map λc=>aG #[(Ŭ [c])]
def MS:D->Option (List D)
|eE ts=>wz ts
|cN ts=>wz ts
|aG x=>wz (JV x)
|_=>wx
def xF(G:List Sl):Prop:=∀(i:Nat)(s:Sl),(∀d,s≠.val d)->s≠.un->G[i]?≠wz s
def rL{G:List Sl}(h:xF G)(i:Nat)(d:D):xF (G.set i (.val d)):=λj s f k e=>by
 by_cases z:i=j
 .subst z;have g:i<iN G:=Á (aD.mp e).1
  rw[bI g]at e;exact f d (d7 e).symm
 .rw[aY z]at e;exact h j s f k e
theorem xF.own{G}(h:xF G)(i:Nat)(d:List D):G[i]?≠wz (.own d):=h i _ (λ_ z=>nomatch z) λz=>nomatch z
theorem xF.Ė{G}(h:xF G)(i:Nat)(d:List Int)(bt:Ÿ):G[i]?≠wz (.Ė d bt):=h i _ (λ_ z=>nomatch z) λz=>nomatch z
abbrev GT:=D->List Sl->(List Sl->Prop)->Prop
def P7(X:Cx)(k:æ)(g:GT):Prop:=∃j,PG X k j/\∀B O H I C G d v Q i,Ok X.K B O H I C G->iM X.K (ê H I) d v->g d C Q ->
 (∀f h,Ok X.K B O H I f h->(xF C->xF f)->Q f->i h H)->j v G H i
def gN(i:Nat):GT:=λd G Q=>Q (G.set i (.val d))
def cW{i:Nat}(h:PG X (KK x p) (mO i)):P7 X (KK x p) (gN i):=
 #[Ϙ,_,h,λB O H I C G d v Q f o r h k=>k _ _ (o.set r) (λn=>rL n _ _) h]
def gP(i j:Nat):GT:=λd G Q=>∃a b,d=cN [a,b]/\Q ((G.set i (.val a)).set j (.val b))
def lM{i j:Nat}{t}(h:PG X t (Bt X.K 2 (KJ (mO i) (KJ (mO j) Bs)))):P7 X t (gP i j):=
 #[Ϙ,_,h,λB O H I C G d v Q l o r h k=>by
  obtain⟨a,b,rfl,h⟩:=h
  cases r with
  |@tuple p xs _ hq r=>
   cases r with
   |cons f r=>
    cases r with
    |cons g r=>
     cases r;exact#[31,bJ.Ő cH hq,13137,k _ _ ((o.set f).set g) (λn=>rL (rL n _ _) _ _) h]]
structure aOy(K:aH)(Hs:Hp)(ts:List D)(J:It):Prop where
 stop:∀(i:Nat)H,bJ Hs H->ts.length<=i->J.stop i H
 go:∀(i:Nat)H,bJ Hs H->i<ts.length->J.go i H
 yld:∀(i:Nat)H I(y:V)L,(∀p∈I,CK (H p))->bJ Hs (ê H I)->i<ts.length->J.yld i H y L->bJ H L/\∃dx,ts[i]?=wz dx/\iM K (ê L I) dx y
abbrev IT:=List Sl->(List D->Prop)->Prop
def V2(X:Cx)(g js:æ)(t:IT):Prop:=∃f,PI X g js f/\∀B O H I C G Q R,Ok X.K B O H I C G->t C Q ->
 (∀d J L,bJ H L->aOy X.K (ê L I) d J->Q d->R J L)->f G H R
def EM(W:ET):IT:=λG Q=>W G λd=>∃f,MS d=wz f/\Q f
def UD(r:iM K Hs d x)(l:MS d=wz ts){R:It->Hp->Prop}(o:bJ Hs T)(h:∀J,aOy K Hs ts J->R J T) :
  (∃a,x=.ref a/\(∃f,qE K T a f)/\R (Dw K a) T)\/(∃a,x=.ref a/\(∃f,tV K T a f)/\R (Du K a) T)\/∃z,x=.str z/\R (Ay z) T:=by
 cases r with
 |@list p f us q rs=>
  obtain rfl:=d7 l;refine j3 #[p,1,#[f,L2.bJ.seq o q],h _ #[λi H e g=>#[f,L2.bJ.seq e q,by rw[<- rs.length];exact g],λi H e g=>?_,λi H I y L _ e g j=>?_]]
  .exact Ê (rs.get (aC g)) λv n _=>#[Ϛ,f,v,L2.bJ.seq e q,n]
  .refine Ì j λw j=>?_;subst w;exact Ê (rs.get' (j f (L2.bJ.seq (e.trans cH) q))) λdx m k=>#[L2.bJ.refl _,dx,m,k.same e]
 |@tuple p f us q rs=>
  obtain rfl:=d7 l;refine i7 (j3 #[p,1,#[f,bJ.Ő o q],h _ #[λi H e g=>#[f,bJ.Ő e q,by rw[<- rs.length];exact g],λi H e g=>?_,λi H I y L _ e g j=>?_]])
  .exact Ê (rs.get (aC g)) λv n _=>#[Ϛ,f,v,bJ.Ő e q,n]
  .refine Ì j λw j=>?_;subst w;exact Ê (rs.get' (j f (bJ.Ő (e.trans cH) q))) λdx m k=>#[L2.bJ.refl _,dx,m,k.same e]
 |str z=>
  obtain rfl:=d7 l;have g:iN (JV z)=dl z.cps:=by unfold JV;simp
  refine i7 (i7 #[z,1,h _ #[λi H _ e=>by rw[g]at e;exact e,λi H _ e=>by rw[g]at e;exact e,λi H I y L _ _ e j=>?_]]);obtain⟨rfl,c,k,rfl⟩:=j;refine#[L2.bJ.refl _,aG #[(Ŭ [c])],2,.str _];unfold JV;rw[aK];have:z.cps.toList[i]?=wz c:=Á k
  rw[this];rfl
 |_=>cases l
def eD(f:eX X e W):V2 X tg e (EM W):=Ê f λp i re=>by refine#[Ϙ,_,Lb i,λB O H I C G Q R o h k=>re B O H I C G _ _ o h λd x T m j q1=>?_];exact Ê q1 λn g q=>UD j g cH λJ l=>k n J T m l q
def eL(n:Nat):List D:=(eZ n).map λ(k:Nat)=>aW (k:Int)
def aNt(t:AT):IT:=λG Q=>t G λd=>∃n,d=[aW n]/\-(2^62)<=n/\n<2^62/\Q (eL (Ă n))
theorem lQ{e t}(m:yU X [e] t)(v:∀{Y},PA X [e] Y->PI X tg (ă (KK "range" p) [e] [] p') (Hx Y)):V2 X tg (ă (KK "range" p) [e] [] p') (aNt t):=Ê m λE s x=>by
 refine#[Ϙ,_,v s,λB O H I C G Q R o h k=>x B O H I C G _ _ o h λA F T z f q1=>?_];let n u j l q:=ó q1;subst u
 cases f with
 |cons f w=>
  cases w;cases f;refine#[n,1,j,l,k (eL (Ă n)) _ T z ?_ q];have d:iN (eL n.toNat)=Ă n:=by unfold eL;simp
  refine#[λi H _ e=>by rw[d]at e;exact e,λi H _ e=>by rw[d]at e;exact e,λi H I y L _ _ e r=>?_];let u c:=Ì r;subst u c;have g:(0:Int)+(i:Int)=(i:Int):=by lia
  rw[g];rw[d]at e;refine#[L2.bJ.refl _,aW i,2,.int _];unfold eL;rw[aK,mD e];rfl
def An(j:IT)(g:GT)(Z:xS):xS:=λf G=>j G λi=>∃P:Nat->List Sl->Prop,P 0 G /\
 (∀k x d,i[k]?=wz x->P k d->g x d λh=>Z { f with nx:=P (k+1),ct:=P (k+1),bk:=f.nx } h)/\∀d,P (iN i) d->f.nx d
theorem aL9{js Z}(he:V2 X tg js ti)(hg:P7 X tg g)(hb:wG X body Z)
  (pf:∀{wi Q bv},PI X tg js wi->PG X tg Q->EK X body bv->PS X (.For tg js body [] pos) (Cp wi Q bv)):CI X (.For tg js body [] pos) (An ti g Z):=Ê he λve pe re=>Ê hg λQ pg rg=>Ê hb λvb pb rb=>by
 refine#[Ϙ,_,pf pe pg pb,λB O H I C G DT DV o h f=>re B O H I C G _ _ o h λA J T s1 rj q1=>?_];refine Õ q1 λP h0 hs hd=>#[Ϙ,λi m n L=>m=iN A-i/\i<=iN A/\∃k d,Ok X.K B O L k d n/\bJ (ê T I) (ê L k)/\P i d,#[0,bZ _,I,C,o.fz s1,L2.bJ.refl _,h0],2];rintro i m n L ⟨rfl,lj,k,d,S,M,p'⟩;have sH:=M.trans cH;have f':=f.ł ((bU s1).trans M);by_cases q:i<iN A
 .refine i7 #[rj.go i L sH q,λE U=>∃v p,Ok X.K B O U v p E/\bJ (ê T I) (ê U v)/\P (i+1) p,λE U z=>#[iN A-(i+1),Ŋ,1,q,z],λy U R=>?_];let s2 dx hx rx:=Ï (rj.yld i L k y U S.bu M q R);have f2:=f'.ł (bU s2);have w:=M.trans (bU s2);let F kj o3 u q3:=rg B O U k d n dx y _ _ (S.fz s2) rx (hs i dx d hx p');exact rb B O U k F kj _ _ o3 q3 #[λN l j r s x q4=>#[ϛ,l,j,s,w.trans x,q4],λN l j r s x q4=>f2.nx N l j r s x q4,λN l j r s x q4=>#[ϛ,l,j,s,w.trans x,q4],f2.rt,f2.ro,f2.rp,f2.rq,f2.xb]
 .obtain rfl:i=iN A:=by lia
  exact j3 #[rj.stop _ L sH (aL _),f'.nx L k d n S (L2.bJ.refl _) (hd d p')]
def K6(G:List Sl):Option Nat->Sl
|none=>.un
|some j=>match G[j]? with | some (.val d)=>.val d | _=>.un
def kX(d:ż)(G:List Sl):List Sl:=d.map (K6 G)
def X4{G}(h:K6 G q=.val d):∃j,q=wz j/\G[j]?=wz (.val d):=by
 cases q with
 |none=>cases h
 |some j=>
  refine#[j,12];unfold K6 at h;dsimp only at h;split at h
  .next e=>cases h;exact e
  .cases h
def X5{G}(g:∀d,s≠.val d)(f:s≠.un):K6 G q≠s:=λh=>by
 cases q with
 |none=>exact f h.symm
 |some j=>
  unfold K6 at h;dsimp only at h;split at h
  .exact g _ h.symm
  .exact f h.symm
def yJ(d:ż)(G:List Sl):xF (kX d G):=λi s j g h=>by
 unfold kX at h;rw[aK]at h
 cases f:d[i]? with
 |none=>rw[f]at h;cases h
 |some q=>
  rw[f]at h;exact X5 j g (d7 h)
def Ok.w6(o:Ok K B O H I C G)(fr:ż):Ok K B O H I (kX fr C) (BN fr G) where
 base:=o.base
 sub:=o.sub
 bu:=o.bu
 len:=by unfold kX BN;simp
 val:=λi d h=>by
  unfold kX at h;rw[aK]at h
  cases hf:fr[i]? with
  |none=>rw[hf]at h;cases h
  |some q=>
   rw[hf]at h;let j z e:=Ê (X4 (d7 h));subst z;refine Ê (o.val j d e) λv h1 h2=>#[v,2,h2];unfold BN;rw[aK,hf];simp[h1]
 own:=λi ts h=>c9 h ((yJ fr C).own i ts)
 Ī:=λi j ts us p h=>c9 h ((yJ fr C).own i ts)
 dc:=λi hs bt h=>c9 h ((yJ fr C).Ė i hs bt)
def Ok.adopt(o:Ok K B O H I C G){p:à}{u}(f:H p=wx)(w:zf u=false|>ũ):Ok K B O (fU H p u) (p::I) C G:=by
 have k:ê (fU H p u) (p::I)=ê H I:=nN f;refine#[o.base.trans (dZ f),λq l=>aE _ (o.sub q l),λq l=>?_,o.len,λi d h=>by rw[k];exact o.val i d h,λi x h=>?_,o.Ī,o.dc.to (λj E bt h=>#[h,1]) (λq A a b _=>#[aE _ a,cC λz=>by rw[z,f]at b;cases b]) (λq A _ _ a b=>#[a,b]) (by rw[k];exact L2.bJ.refl _)]
 .by_cases e:q=p
  .subst e;rw[cL];exact#[0,w]
  .rw[cC e];rcases aN.mp l with z | z
   .exact c9 z e
   .exact o.bu q z
 .rw[k];exact ì (o.own i x h) λq y m n r s g v=>#[Ϟ,q,y,m,aE _ n,r,s,by rw[cC λz=>by rw[z,f]at g;cases g];exact g,v]
def Ok.aside(o:Ok K B O H I C G){q:à}{u}(hp:q∈I)(hB:B q=wx)(hn:xF C)(hu:zf u=false|>ũ):Ok K B O (fU H q u) I C G where
 base:=λb w e=>by
  rw[cC λz=>by rw[z,hB]at e;cases e];exact o.base b w e
 sub:=o.sub
 bu:=λp ll=>by
  by_cases e:p=q
  .subst e;rw[cL];exact#[0,hu]
  .rw[cC e];exact o.bu p ll
 len:=o.len
 val:=λi d h=>by rw[fW hp];exact o.val i d h
 own:=λi ts h=>c9 h (hn.own i ts)
 Ī:=λi j ts us p h=>c9 h (hn.own i ts)
 dc:=λi hs bt h=>c9 h (hn.Ė i hs bt)
def HW(X:Cx)(d:List æ)(t:yT):Prop:=∃g,S3 X d g/\∀B O H I C G Q f,Ok X.K B O H I C G->t C Q ->
 (∀b L,bJ H L->Q b->f b L)->g G H f
def D8:yT:=λ_ Q=>Q ww
def fZ:HW X [] D8:=#[Ϙ,_,aG0,λ_ _ H _ _ _ _ _ _ h k=>k _ H (L2.bJ.refl H) h]
def xH{t}(h:LB X e t):HW X [e] t:=Ê h λv p r=>#[Ϙ,_,aGz p,r]
def YS(j:ż)(l:IT)(g:GT)(m:yT)(W:ET):ET:=λG Q=>l G λi=>iN i<=100000/\∃P:Nat->List Sl->List D->Prop,P 0 (kX j G) [] /\
 (∀k x d h,i[k]?=wz x->P k d h->g x d λf=>m f λb=>if b=ww then W f λy=>P (k+1) f (h++[y])else P (k+1) f h)/\∀d h,P (iN i) d h->Q (eE h)
def Ej(j:ż)(g:GT)(l:yT)(W:ET)(i:List D)(G:List Sl)(Q:List D->Prop):Prop:=iN i<=100000/\∃P:Nat->List Sl->List D->Prop,P 0 (kX j G) [] /\
 (∀k x d h,i[k]?=wz x->P k d h->g x d λf=>l f λb=>if b=ww then W f λy=>P (k+1) f (h++[y])else P (k+1) f h)/\∀d h,P (iN i) d h->Q h
theorem R8(N:ż){W}(s:∀b,P7 (w6 X scope N' b) tg g/\HW (w6 X scope N' b) ifs tt/\eX (w6 X scope N' b) elt W) :
  ∃gv vt ve,(∀b,PG (w6 X scope N' b) tg (gv b)/\S3 (w6 X scope N' b) ifs (vt b)/\PE (w6 X scope N' b) elt (ve b))/\∀{B O}{T:Hp}{I C G}{Q:List D->Prop}{QV:VK}{A J},Ok X.K B O T I C G->aOy X.K (ê T I) A J->Ej N g tt W A C Q ->
   (∀n p xs L,bJ T L->T p=wx->L p=wz (.u8 xs)->gq X.K (ê L (p::I)) n xs->Q n->QV (.ref p) L)->ZQ N (λ_ H R=>R J H) gv vt ve G T QV:=by
 refine#[ϟ,λb=>bi (s b).1,λb=>bi (s b).2.1,λb=>bi (s b).2.2,λb=>#[(k6 (s b).1).1,(k6 (s b).2.1).1,(k6 (s b).2.2).1],2];intro B O T I C G Q QV A J o rj q1 k bp f h;refine Ï q1 λhz P h0 t=>Ì t λhs hd=>?_
 have F:B f=none:=by
  cases q:B f with
  |none=>rfl
  |some u=>rw[o.base f u q]at h;cases h
 refine#[Ϙ,λi m M L=>m=iN A-i/\i<=iN A/\∃j n E,Ok X.K B O L (f::I) j M/\xF j/\L f=wz (.u8 E)/\iN n<=i/\gq X.K (ê L (f::I)) n E/\bJ (ê T I) (ê L (f::I))/\bJ T L/\P i j n,
  #[0,bZ _,kX N C,[],[],(o.w6 N).adopt h,yJ N C,cL,aL _,.nil,by rw[nN h];exact L2.bJ.refl _,dZ h,h0],2]
 rintro i m M L ⟨rfl,lj,j,n,E,o',n',ha,hl,hr,S,sF,p'⟩;have hL:bM=2^24:=rfl;by_cases w:i<iN A
 .refine i7 #[rj.go i L (S.trans cH) w,λy U hy=>?_];refine Ï (rj.yld i L (f::I) y U o'.bu S w hy) λs2 dx hx rx=>((k6 (s bp).1).2) B O U (f::I) j M dx y _ _ (o'.fz s2) rx (hs i dx j n hx p') λl kj o3 n3 q3=>?_;refine((k6 (s bp).2.1).2) B O U (f::I) l kj _ _ o3 q3 λb H4 s4 q4=>?_;have r:=s2.trans s4
  cases b with
  |false=>
   exact#[iN A-(i+1),Ŋ,1,w,l,n,E,o3.fz s4,n3 n',r _ _ ha,ō,hr.same (bU r),S.trans (bU r),sF.trans r,q4]
  |true=>
   refine((k6 (s bp).2.2).2) B O H4 (f::I) l kj _ _ (o3.fz s4) q4 λd v H5 s5 r5 q5=>?_;have x:=r.trans s5;have hm:ê (fU H5 f (.u8 (E++[v]))) (f::I)=ê H5 (f::I):=fW (aJ ..);refine#[E,x _ _ ha,by rw[<- hr.length];lia,iN A-(i+1),Ŋ,1,w,l,n++[d],E++[v],((o3.fz s4).fz s5).aside (aJ ..) F (n3 n'),n3 n',cL,by rw[aV,qO];exact Ō,222,q5]
   .rw[hm];exact(hr.same (bU x)).append (.cons r5 .nil)
   .rw[hm];exact S.trans (bU x)
   .intro b u e;rw[cC (λz=>by rw[z,h]at e;cases e)];exact(sF.trans x) b u e
 .obtain rfl:i=iN A:=by lia
  exact j3 #[rj.stop _ L (S.trans cH) (aL _),k n f E L sF h ha hr (hd j n p')]
def OG{K}{H L:Hp}{I}{p:à}(bu:∀q∈I,CK (H q))(d:H p=wx)(g:L p=wz (.u8 xs))(h:gq K (ê L (p::I)) ds xs):iM K (ê L I) (eE ds) (.ref p):=
 .list (qE.of (nB (iS bu d) g)) (h.same (iO λq f=>aE _ f))
def Kk{js W}(w:V2 X tg js ti)
  (s:∀b,P7 (w6 X scope N' b) tg g/\HW (w6 X scope N' b) ifs tt/\eX (w6 X scope N' b) elt W) {M:(TE)->Prop}
  (ő:∀{n}{i:BP->TG}{m:BP->TT}{l:BP->TE},PI X tg js n->(∀b,PG (w6 X scope N' b) tg (i b)/\S3 (w6 X scope N' b) ifs (m b)/\PE (w6 X scope N' b) elt (l b))->M (ZQ fr n i m l)) :
  ∃v,M v/\∀B O H I C G Q f,Ok X.K B O H I C G->YS fr ti g tt W C Q ->
   (∀d v L,bJ H L->iM X.K (ê L I) d v->Q d->f v L)->v G H f:=Ê w λn z A=>Ñ (R8 fr s) λi m l p r=>#[Ϙ,_,ő z p,λB O H I C G Q f o h k=>A B O H I C G _ _ o h λR J T j E q1=>r (o.fz j) E q1 λP p S L N x y F q=>k _ _ L (j.trans N) (OG (o.fz j).bu x y F) q]
def Qp{js W}(j:V2 X tg js ti)
  (i:∀b,P7 (w6 X scope N' b) tg g/\HW (w6 X scope N' b) ifs tt/\eX (w6 X scope N' b) elt W)
  (k:∀{wi}{d:BP->TG}{h:BP->TT}{f:BP->TE},PI X tg js wi->(∀b,PG (w6 X scope N' b) tg (d b)/\S3 (w6 X scope N' b) ifs (h b)/\PE (w6 X scope N' b) elt (f b))->PE X (ĉ elt [#[tg,js,ifs,(0)]] scope pos) (ZQ fr wi d h f)) :
  eX X (ĉ elt [#[tg,js,ifs,(0)]] scope pos) (YS fr ti g tt W):=Kk j i k
def nI{i:Nat}{js W}(q:V2 X tg js ti)
  (n:∀b,P7 (w6 X scope N' b) tg g/\HW (w6 X scope N' b) ifs tt/\eX (w6 X scope N' b) elt W)
  (s:∀{wi}{j:BP->TG}{m:BP->TT}{l:BP->TE},PI X tg js wi->(∀b,PG (w6 X scope N' b) tg (j b)/\S3 (w6 X scope N' b) ifs (m b)/\PE (w6 X scope N' b) elt (l b)) ->
   PS X (Ā [KK x px] (ĉ elt [#[tg,js,ifs,(0)]] scope pos) spos) (wN (ZQ fr wi j m l) (mO i))) :
  CI X (Ā [KK x px] (ĉ elt [#[tg,js,ifs,(0)]] scope pos) spos) (OA i (YS fr ti g tt W)):=Ê (Kk (M:=λv=>PS X (Ā [KK x px] (ĉ elt [#[tg,js,ifs,(0)]] scope pos) spos) (wN v (mO i))) q n s) λv p r=>by refine#[Ϙ,_,p,λB O H I C G z A o h f=>r B O H I C G _ _ o h λd x L k y w=>?_];exact f.nx L I _ _ ((o.fz k).set y) (bU k) w
def lF(N:List â)(d:List D):List Sl:=d.map Sl.val++dW (iN N-iN d) .un
def sB(bu:∀p∈I,CK (H p))(r:gq K (ê H I) ds vs):Ok K H I H I (lF N ds) (L2.oY N vs):=by
 have k:=r.length;refine#[L2.bJ.refl _,λ_ h=>h,bu,2,λi d h=>?_,λi n h=>?_,λi j n q p h=>?_,λi o bt h=>?_]
 .unfold lF L2.oY;simp[k]
 .unfold lF at h;by_cases f:i<iN ds
  .rw[fA (Á f),aK]at h
   cases hd:ds[i]? with
   |none=>rw[hd]at h;cases h
   |some g=>
    rw[hd]at h;cases h;refine Ê (r.get hd) λv l m=>#[v,2,m];unfold L2.oY;rw[fA (by rw[aB,<- k];exact f),aK,l];rfl
  .rw[eU (Á f),mH]at h;split at h<;>cases h
 .unfold lF at h;by_cases f:i<iN ds
  .rw[fA (Á f),aK]at h
   cases hd:ds[i]? with
   |none=>rw[hd]at h;cases h
   |some g=>rw[hd]at h;cases h
  .rw[eU (Á f),mH]at h;split at h<;>cases h
 .unfold lF at h;by_cases f:i<iN ds
  .rw[fA (Á f),aK]at h
   cases hd:ds[i]? with
   |none=>rw[hd]at h;cases h
   |some g=>rw[hd]at h;cases h
  .rw[eU (Á f),mH]at h;split at h<;>cases h
 .unfold lF at h;by_cases f:i<iN ds
  .rw[fA (Á f),aK]at h
   cases hd:ds[i]? with
   |none=>rw[hd]at h;cases h
   |some g=>rw[hd]at h;cases h
  .rw[eU (Á f),mH]at h;split at h<;>cases h
def nD{mg:â->Option á}{st}{f:à}{N pn:List â}{k:Nat}{n:kK}(F:QK K x qual st f fd)(S:bL N pn (aQ st))
  (l:∀{j}{A:g3}{ag}{s:ã}{H E},iL k (A.deeper (j8 qual (aQ st) s.heap.objs.size f j))->aYv N->∀(i:List D)(Q:D->Prop),n i Q ->
   ∃t,wG (tJ rH P w K mg base N qual (aQ st) f j A ag s H E).nox (mL st) t/\t { nx:=λ_=>Q ES,rt:=Q } (lF N i)) (len:∀i Q,n i Q->iN i=iN pn:=by intro i Q h;(repeat obtain⟨_,h⟩:=h)<;>subst_vars<;>rfl):nG P w K mg base rH (k+1) f fd pn (lG K n):=by
 let j A ag s H vs Q E z h:=F.ok S (λvs H Q E h=>?_)
 .refine ß h λI i m _ r q _=>?_;rw[<- r.length];exact len i m q
 .refine ß h λI i m bu r q k=>?_;obtain⟨t,⟨ts,p,rd⟩,h⟩:=l z S.nd i m q;refine#[Ϙ,ts,p,rd H I H I _ _ _ _ (sB bu r) h #[λL M y v7 J o g=>?_,λ_ _ _ _ _ _ g=>g.elim,λ_ _ _ _ _ _ g=>g.elim,λd v L o R g=>k d v L o R g,λ_ _ _ _ _ _ _ _ _ g=>g.elim,λ_ _ _ _ _ _ _ _ _ _ _ _ _ _ _ _ _ _ g=>g.elim,λ_ _ _ _ _ _ _ _ _ _ _ _ _ _ g=>g.elim,j5]];exact k _ _ L J.base .none g
end
end TL
namespace HT
def ğ{prog:dF}{w:g6}{A:g3}{E:á->ã->Prop}{s:ã}{t g:à}{a:Array á}{lo}{Q:á->ã->Prop}(b:jo s.heap t a)(f:s.heap.IsSliceOf g vl vu o0)(j:IsPart vl lo)(k:IsPart vu hi)
  (hw:kr a.size 0 lo=0/\kr a.size a.size hi=dl a) (h:Q (g8 t) s):å (ä prog w) A (aj (g8 t) (g8 g)) Q E s:=Õ (id f) λos e d i=>by
 unfold aj
 try with_reducible refine al ?_
 first | refine aF (aZ ?_) | skip
 refine aF (kg b.typeIs cS ?_)
 refine aF (k9 b.typeIs l6
  (mW l6 b.typeIs ir ?_ (iz _ _)))
 show å _ _ (bh (g8 t) >>= _) _ _ s;refine aF (tupleItemsOf_ b ?_);refine aF (bb (#[Ϙ,os,e,d]) ?_);rw[b8 cS];refine aF (uF f j k ?_)
 have c:(((kr a.size 0 lo:Nat):Int)==0&&(1:Int)==1&&(kr a.size a.size hi-kr a.size 0 lo)==dl a)=true:=by
  rw[hw.1,hw.2];simp
 show å _ _ (if(((kr a.size 0 lo:Nat):Int)==0&&(1:Int)==1&&(kr a.size a.size hi-kr a.size 0 lo)==dl a)=ww then _ else _) _ _ s;rw[b8 c];refine aF (aF (bb b.typeIs (aZ ?_)));rw[b8 cS]
 first
  |exact aF (u4 (aF (aZ (aZ #[Ϙ,0,aZ h]))))
  |exact aF (u4 (aZ #[0,aZ h]))
  |exact aF (u4 (aF (aZ #[0,aZ h])))
end HT
namespace L2
section
variable{X:Cx}
def Fg:Ų:=λx lo a H Q=>∃z,x=.str z/\v0 z<=bM/\Q (.str (Txt.slice z lo a)) H
def aMe:gV X Fg:=by
 intro b s p H x v w y lo a r Q I o c n f h;let z Z m q:=Õ h;subst Z;refine Ù v o λt=>#[ϛ,"str",_,PySem.F.slot_str_getitem.lookup,ba _ _ _,2]
 have ő:∀lo a:Option Int,Q (.str (Txt.slice z lo a)) H->v0 (Txt.slice z lo a)<=bM/\∀(d:Tok)(k:Nat),EP X b p Q (ck (Txt.slice z lo a) d) { s with toks:=k }:=λlo a q=>
  #[aR (Txt.slice_le z _ _) m,λd k=>#[ϛ,.str _,H,I.Ĭ k,#[d,1],q]]
 cases n with
 |none=>
  cases f with
  |none=>exact u6 (l:=wx) (u:=wx) (st:=wx) c eH (bg (ő wx wx q))
  |int j e=>exact u6 (l:=wx) (u:=wz (j,e)) (st:=wx) c eH (bg (ő wx (wz j) q))
 |int i g=>
  cases f with
  |none=>exact u6 (l:=wz (i,g)) (u:=wx) (st:=wx) c eH (bg (ő (wz i) wx q))
  |int j e=>exact u6 (l:=wz (i,g)) (u:=wz (j,e)) (st:=wx) c eH (bg (ő (wz i) (wz j) q))
def Ii(K:aH):Ų:=λx lo c H Q=>∃a b,x=.ref a/\tV K H a b /\
 ((HT.kr (iN b) 0 lo=0/\HT.kr (iN b) (iN b) c=iN b)->Q (.ref a) H)/\(¬(HT.kr (iN b) 0 lo=0/\HT.kr (iN b) (iN b) c=iN b)->∀p,H p=wx->Q (.ref p) (fU H p (.ņ (SU b lo c))))
def aGf:gV X (Ii X.K):=by
 intro d s q H x v o p lo f n Q I m g k l h;let a b z j q1 q2:=Ý h;subst z;by_cases hw:HT.kr (iN b) 0 lo=0/\HT.kr (iN b) (iN b) f=iN b
 .cases m;let e r i t:=Õ (I.tuple j);have c:dl e.toArray=iN b:=by rw[bP];exact r.length.symm
  exact#[ϛ,"tuple",_,PyProof.Rows.slot_tuple_getitem.lookup,i.typeIs,HT.ğ i g k l (by rw[c];exact hw) #[ϛ,.ref a,H,I,1,q1 hw]]
 .exact aMd d s q H (.ref a) v o p lo f n Q I m g k l #[Ϝ,a,b,1,j,hw,q2 hw]
def Lj(K:aH):Ų:=λx lo a H Q=>Fq K x lo a H Q\/Ii K x lo a H Q\/Fg x lo a H Q
def LX:gV X (Lj X.K):=aGg.or (aGf.or aMe)
def Lg(K:aH):R2:=λx y H Q=>∃a b c d,x=.ref a/\y=.ref b/\tV K H a c/\tV K H b d/\iN c+iN d<=bM /\
 (c=[]->Q (.ref b) H)/\(c≠[]->d=[]->Q (.ref a) H)/\(c≠[]->d≠[]->∀p,H p=wx->Q (.ref p) (fU H p (.ņ (c++d))))
def aA9:oU X (l3 .Add) (Lg X.K):=by
 intro f s M H x y v u Q I r t h;obtain⟨a,b,w,L,rfl,rfl,p,hb,C,q0,q1,q2⟩:=h;by_cases d:w=[]
 .cases r;cases t;refine Õ (I.tuple p) λk G p1 _=>Õ (I.tuple hb) λe N F _=>?_;obtain⟨⟨z,A,o,J⟩,q,B,n,hd⟩:=id p1;obtain⟨⟨m,g,data2,l⟩,c,i,E,j⟩:=id F;subst B hd i j;exact dk #[_,q,1] #[_,c,1] dw gf vV uS (tR _ _) (tuple_addW0 a b (aPe k) (aPe e) n E A g J l (by simp[(G.nil_iff.mpr d)])) #[q,c,#[ϛ,.ref b,H,I,1,q0 d]]
 .exact aG6 f s M H (.ref a) (.ref b) v u Q I r t #[a,b,w,L,7,p,hb,d,C,q1 d,q2 d]
def Ic(K:aH):R2:=λx y H Q=>∃l b a c,x=.ref l/\y=.ref b/\qE K H l a/\qE K H b c/\iN a+iN c<=bM/\∀p,H p=wx->Q (.ref p) (fU H p (.u8 (a++c)))
def UP:oU X (l3 .Add) (Ic X.K):=by
 intro t s S H x y v u Q I M N h;refine Ò h λl b P R Z ψ=>Ó ψ λY E hb r q=>?_;subst Z Y;cases M;cases N;obtain⟨c,w,⟨⟨A,B,m,O⟩,n,p,G,J,hd⟩,_⟩:=I.list E;obtain⟨a,z,⟨⟨k,e,data2,j⟩,L,d,f,o,g⟩,_⟩:=I.list hb;subst G hd f g;have i:dl c.toArray+dl a.toArray<=bM:=by rw[bP,bP,<- w.length,<- z.length];exact r
 refine dk #[_,p,1] #[_,d,1] noFill_list_add seq_list_add PySem.F.slot_list_add PySem.F.entry_list_add (PySem.F.args_list_add_2 _ _) (list_addW l b (aPe c) (aPe a) n L B e O j i) #[p,d,2];have C:aPe c++aPe a=aPe (c++a):=by simp
 rw[C];exact#[ϛ,.ref _,_,I.lnew (w.append z) (by rw[aV];exact r),1,q _ I.fresh]
def UH(K:aH):R2:=λx y H Q=>(YQ λi j=>.int (i+j)) x y H Q\/(∃i j,x=.str i/\y=.str j/\v0 i+v0 j<=bM/\Q (.str (i++j)) H)\/Lg K x y H Q\/Ic K x y H Q
def dD:oU X (l3 .Add) (UH X.K):=aM3.or (RM.or (aA9.or UP))
def UF:R2:=λx y H Q=>(rI QC λi j=>.int (i*j)) x y H Q\/∃z n,x=.str z/\y=.int n/\v0 z<=1000/\0<=n/\n<=1000/\Q (.str (Txt.mul z n)) H
theorem RK:oU X (l3 .Mult) (λx y H Q=>∃z n,x=.str z/\y=.int n/\v0 z<=1000/\0<=n/\n<=1000/\Q (.str (Txt.mul z n)) H):=by
 intro c s m H x y v u Q I e f h;let z n w r d g i q:=ì h;subst w r;refine Ù v e λt=>Ù u f λl=>SB.mul #[by simp;grind,λa _=>?_,λ_ _=>?_] λb k=>#[ϛ,.str _,H,I.Ĭ k,#[b,1],q]
 .have:(1000:Int)<=(2^63-1) / n:=by
   rw[Int.le_ediv_iff_mul_le cT];lia
  lia
 .have:v0 z*Ă n<=1000*1000:=iV d Ŋ;unfold Builtin.Str.tooLong;have j:bM=2^24:=rfl;simp only[decide_eq_false_iff_not];lia
def rK:oU X (l3 .Mult) UF:=Lr.or RK
theorem B2(C:X.Ň=ww):lW X (mt "all") (λx H Q=>∃(p:à)(bs:List Bool),x=[.ref p]/\qE X.K H p (bs.map V.bl)/\Q (.bl (bs.all id)) H):=by
 intro t s U H x S Q I r h;let p bs Z G q:=Ø h;subst Z;let u J:=Þ S (oG r);cases J;let d l w O:=Õ (I.list G)
 have k:p≠dl s.heap.objs:=Ê (ā w) λo F _=>cO (bG F)
 have j:=ā w;refine call_all_walk (l9 j ?_);refine#[333,λi=>(bs[i]?).getD ww,1,fy (A:=X.A.in1) (I.ok.hd C) _ p k (aPe d),#[#[ϙ,_,bD _ eH,7],j.push _],λi v P M L B c=>?_,λN R E=>?_]
 .have n:d[i]?=wz v:=Á B
  have a:=l.length;have f:=(aD.mp n).1;have hb:i<iN bs:=by rw[aB]at a;lia
  let T m y:=Ê (l.get (by rw[aK,aC hb];rfl));rw[n]at m;cases m;cases y;refine h9 ?_;dsimp only at c;rw[aC hb]at c;exact c
 .have e:(eZ d.toArray.size).all (λi=>(bs[i]?).getD ww)=bs.all id:=by
   have a:=l.length;rw[aB]at a;rw[bP,<- a];rw[eR,fT,fT];constructor
   .intro h b hb;obtain⟨i,f,rfl⟩:=zN.mp hb;have:=h i (oE.mpr f);rw[aC f]at this;exact this
   .intro h i f;have g:=oE.mp f;rw[aC g];exact h _ (fC g)
  rw[e];refine#[ϛ,.bl _,H,I.œ λb o e=>E b o ?_ (aI _ e),1,q];intro z;have:b=dl s.heap.objs:=Á z
  exact c9 (bG e) (by rw[this];exact fK _)
def Bz:R2:=λx y H Q=>∃b,y=.bl b/\Q (.bl (decide (x=.bl b))) H
def L6:R2:=λx y H Q=>∃b,y=.bl b/\Q (.bl (!decide (x=.bl b))) H
def Gm{v}{b:Bool}(r:gQ x v):plainIs v (dh b)=ww/\(v==dh b)=decide (x=.bl b):=by
 cases x with
 |z8=>cases r;exact#[7]
 |bl c=>cases r;cases b<;>cases c<;>exact#[7]
 |int _=>exact Ù v r λt=>#[7]
 |str _=>exact Ù v r λt=>#[7]
 |byt _=>exact Ù v r λt=>#[7]
 |flt _=>exact Ù v r λt=>#[7]
 |ref _=>cases r;exact#[7]
 |ty _=>cases r;exact#[7]
def WW:oU X (e9 .IsNot) L6:=by
 intro a s g H x y v u Q I e f h;let b z q:=Ê h;subst z;cases f;refine Ì (Gm e) λc d=>wpAny_isNot_plain c ?_;rw[d];exact#[ϛ,.bl _,H,I,1,q]
def aM2:oU X (e9 .Is) Bz:=by
 intro a s g H x y v u Q I e f h;let b z q:=Ê h;subst z;cases f;refine Ì (Gm e) λc d=>wpAny_is_plain c ?_;rw[d];exact#[ϛ,.bl _,H,I,1,q]
theorem LQ:∀{a:List â}{us},fX (a.map V.str) us->StrsAre us a
|[],_,r=>by rw[iD]at r;cases r;exact .nil
|y::a,us,r=>by
 rw[aX]at r
 cases r with
 |cons b c=>
  let t z:=Ë b;subst z;exact .cons y t (LQ c)
def gD:S5 X "str.join" (λx c H Q=>∃z p a,x=.str z/\c=[.ref p]/\qE X.K H p (a.map V.str)/\Ċ (a.map (·.length))+iN a*v0 z<=16777216/\Q (.str (Txt.join z a)) H):=by
 intro b s o H x c v n Q I l r h;refine ß h λz p a w Z d y=>Ì y λe q=>?_;subst w Z;refine Ù v l λt=>Þ n (oG r) λu i=>?_;cases i;exact Õ (I.list d) λf j g _=>PyProof.Rows.join_list (ā g) (by simpa using LQ j) e λm k=>#[ϛ,.str _,H,I.Ĭ k,#[m,1],q]
end
end L2
namespace TL
open L2
variable{K:aH}{H L N O:Hp}{B:Hp}{M F:List à}{J:List Sl}{G:L2.St}
section
variable{X:Cx}{a b c e:æ}{P:List æ}{S R:ET}{pos p:Pos}
def fI(C:Int->Int->Prop)(g:Int->Int->Int):ų
|aW i,aW j,Q=>C i j/\Q (aW (g i j))
|_,_,_=>False
def Em(g:Int->Int->Int):ų
|aW i,aW j,Q=>Q (aW (g i j))
|_,_,_=>False
def En(g:Int->Int->Bool):ų
|aW i,aW j,Q=>Q (QM (g i j))
|_,_,_=>False
def rA{C:Int->Int->Prop}{g:Int->Int->Int}:AN X (rI C λi j=>.int (g i j)) (fI C g):=by
 intro H F m n x y Q l bu d f h k
 cases d with
 |int i=>
  cases f with
  |int j=>exact#[Ϝ,i,j,7,h.1,k _ _ H (L2.bJ.refl H) (.int _) h.2]
  |_=>exact h.elim
 |_=>exact h.elim
def Ai{g:Int->Int->Int}:AN X (YQ λi j=>.int (g i j)) (Em g):=by
 intro H F m n x y Q l bu d f h k
 cases d with
 |int i=>
  cases f with
  |int j=>exact#[ϛ,i,j,7,k _ _ H (L2.bJ.refl H) (.int _) h]
  |_=>exact h.elim
 |_=>exact h.elim
def vH{g:Int->Int->Bool}:AN X (YQ λi j=>.bl (g i j)) (En g):=by
 intro H F m n x y Q l bu d f h k
 cases d with
 |int i=>
  cases f with
  |int j=>exact#[ϛ,i,j,7,k _ _ H (L2.bJ.refl H) (.bool _) h]
  |_=>exact h.elim
 |_=>exact h.elim
def SK:ų
|aW i,aW j,Q=>Q (aW (i+j))
|aG x,aG y,Q=>v0 x+v0 y<=100000/\Q (aG (x++y))
|cN x,cN y,Q=>iN x+iN y<=100000/\Q (cN (x++y))
|eE x,eE y,Q=>iN x+iN y<=100000/\Q (eE (x++y))
|_,_,_=>False
theorem DZ{n:Nat}(h:n<=100000):n<=bM:=by have:bM=2^24:=rfl;exact ŀ
def iY:AN X (UH X.K) SK:=by
 intro H F o q x y Q n bu m l h k
 cases m with
 |int i=>
  cases l with
  |int j=>exact j3 #[ϛ,i,j,7,k _ _ H (L2.bJ.refl H) (.int _) h]
  |_=>exact h.elim
 |str i=>
  cases l with
  |str j=>exact i7 (j3 #[Ϝ,i,j,7,DZ h.1,k _ _ H (L2.bJ.refl H) (.str _) h.2])
  |_=>exact h.elim
 |tuple q1 d=>
  cases l with
  |tuple q2 f=>
   refine i7 (i7 (j3 #[337,bJ.Ő cH q1,bJ.Ő cH q2,DZ (by rw[<- d.length,<- f.length];exact h.1),λz=>?_,λz1 z2=>?_,λz1 z2 p g=>?_]))
   .subst z;cases d;exact k _ _ H (L2.bJ.refl H) (.tuple q2 f) h.2
   .subst z2;cases f;have e:=h.2;rw[cG]at e;exact k _ _ H (L2.bJ.refl H) (.tuple q1 d) e
   .exact k _ _ _ (dZ g) (vE bu g (d.append f)) h.2
  |_=>exact h.elim
 |list q1 d=>
  cases l with
  |list q2 f=>
   exact i7 (i7 (i7 #[Ϥ,337,L2.bJ.seq cH q1,L2.bJ.seq cH q2,DZ (by rw[<- d.length,<- f.length];exact h.1),λp g=>k _ _ _ (dZ g) (yG bu g (d.append f)) h.2]))
  |_=>exact h.elim
 |_=>exact h.elim
def Bv:ų
|aW i,aW j,Q=>QC i j/\Q (aW (i*j))
|aG z,aW n,Q=>v0 z<=1000/\0<=n/\n<=1000/\Q (aG (Txt.mul z n))
|_,_,_=>False
def J8:AN X UF Bv:=by
 intro H F l m x y Q g bu f d h k
 cases f with
 |int i=>
  cases d with
  |int j=>exact j3 #[Ϝ,i,j,7,h.1,k _ _ H (L2.bJ.refl H) (.int _) h.2]
  |_=>exact h.elim
 |str z=>
  cases d with
  |int n=>exact i7 #[Ϟ,z,n,7,h.1,h.2.1,h.2.2.1,k _ _ H (L2.bJ.refl H) (.str _) h.2.2.2]
  |_=>exact h.elim
 |_=>exact h.elim
def yg:D->D->Option Bool
|ES,ES=>wz ww
|QM x,QM y=>wz (decide (x=y))
|aW x,aW y=>wz (decide (x=y))
|aG x,aG y=>wz (decide (x=y))
|aG _,ES | ES,aG _=>wz wv
|_,_=>wx
def yr(x y:D)(Q:D->Prop):Prop:=match yg x y with | some c=>Q (QM c) | none=>False
def zz(x y:D)(Q:D->Prop):Prop:=match yg x y with | some c=>Q (QM (!c)) | none=>False
def PP{x y:D}{u v:V}{c:Bool}(d:iM K H x u)(f:iM K H y v)(h:yg x y=wz c):Ci u v=ww/\decide (u=v)=c:=by
 unfold yg at h;split at h<;>cases h<;>cases d<;>cases f<;>exact#[1,dN]
def AF:AN X Eh yr:=by
 intro H F d f x y Q m bu j l h k;unfold yr at h
 cases e:yg d f with
 |none=>rw[e]at h;exact h.elim
 |some c=>
  rw[e]at h;refine Ì (PP j l e) λg i=>#[g,2];rw[i];exact k _ _ H (L2.bJ.refl H) (.bool c) h
def BE:AN X Ee zz:=by
 intro H F d f x y Q m bu j l h k;unfold zz at h
 cases e:yg d f with
 |none=>rw[e]at h;exact h.elim
 |some c=>
  rw[e]at h;refine Ì (PP j l e) λg i=>#[g,2];rw[i];exact k _ _ H (L2.bJ.refl H) (.bool (!c)) h
def vK(b:Bool):D->Bool
|QM c=>decide (c=b)
|_=>wv
def aN9(x y:D)(Q:D->Prop):Prop:=match y with | QM b=>Q (QM (!vK b x)) | _=>False
theorem gq.y0{i:Int}(r:gq K H ds vs)(h:y0 ds i=wz d):∃v,y0 vs i=wz v/\iM K H d v:=by
 unfold L2.y0 at h |-
 rw[<- r.length]
 cases e:gO ds.length i with
 |none=>rw[e]at h;cases h
 |some j=>
  rw[e]at h;exact r.get h
inductive NN(ts:List D)(i:Int)(Q:D->Prop):Prop
|mk (d:D) (h:y0 ts i=wz d) (k:Q d):NN ts i Q
def S6{i:Int}{Q:D->Prop}:NN ts i Q↔∃d,y0 ts i=wz d/\Q d:=#[λ⟨d,h,k⟩=>#[d,h,k],λ⟨d,h,k⟩=>#[d,h,k]]
def yf(x y:D)(Q:D->Prop):Prop:=match x,y with
|eE ts,aW i=>NN ts i Q
|cN ts,aW i=>NN ts i Q
|aG z,aW i=>v0 z<=100000/\∃c,y0 (aO6 z.cps) i=wz c/\Q (aG #[(Ŭ [c])])
|_,_=>False
def rF:AN X (Ef X.K) yf:=by
 intro H F g o x y Q n bu l m h k
 cases m with
 |int i=>
  cases l with
  |list q s=>
   obtain⟨d,e,h⟩:=h;exact Ê (s.y0 e) λv f r=>j3 #[ϣ,3,i,v,7,L2.bJ.seq cH q,f,k _ _ H (L2.bJ.refl H) r h]
  |tuple q s=>
   obtain⟨d,e,h⟩:=h;exact Ê (s.y0 e) λv f r=>i7 (j3 #[ϣ,3,i,v,7,bJ.Ő cH q,f,k _ _ H (L2.bJ.refl H) r h])
  |str z=>
   exact Ï h λj c e h=>i7 (i7 #[Ϣ,z,i,c,7,DZ j,e,k _ _ H (L2.bJ.refl H) (.str _) h])
  |_=>exact h.elim
 |_=>cases g<;>exact h.elim
def iB{f:Type}(d:List f)(lo g:Option Int):List f:=(d.drop (HT.kr (iN d) 0 lo)).take (HT.kr (iN d) (iN d) g-HT.kr (iN d) 0 lo)
def yq(x:D)(lo d:Option Int)(Q:D->Prop):Prop:=match x with
|eE ts=>Q (eE (iB ts lo d))
|cN ts=>Q (cN (iB ts lo d))
|aG z=>v0 z<=100000/\Q (aG (Txt.slice z lo d))
|_=>False
def gq.cut(r:gq K H ds vs)(lo d:Option Int):gq K H (iB ds lo d) (SU vs lo d):=by
 unfold iB SU;rw[r.length];exact(r.drop _).take _
def Aj:Ly X (Lj X.K) yq:=by
 intro H F d x lo g Q j bu r h k
 cases r with
 |list q s=>exact j3 #[ϛ,31,L2.bJ.seq cH q,λp f=>k _ _ _ (dZ f) (yG bu f (s.cut lo g)) h]
 |@tuple p xs ts q s=>
  refine i7 (j3 #[Ϝ,31,bJ.Ő cH q,λz=>?_,λ_ p f=>k _ _ _ (dZ f) (vE bu f (s.cut lo g)) h])
  have e:iB ts lo g=ts:=by
   unfold iB;rw[s.length,z.1,z.2,xZ,zQ,<- s.length,cK]
  have i:Q (cN (iB ts lo g)):=h;rw[e]at i;exact k _ _ H (L2.bJ.refl H) (.tuple q s) i
 |str z=>exact i7 (i7 #[z,1,DZ h.1,k _ _ H (L2.bJ.refl H) (.str _) h.2])
 |_=>exact h.elim
def El(x y:D)(Q:D->Prop):Prop:=match x,y with
|aG z,aG y=>Q (QM (Txt.contains y z))
|aG z,eE ts=>∃d:List â,ts=d.map aG/\Q (QM (decide (z∈d)))
|aG z,cN ts=>∃d:List â,ts=d.map aG/\Q (QM (decide (z∈d)))
|_,_=>False
theorem uG:∀{d:List â}{vs},gq K H (d.map aG) vs->vs=d.map V.str
|[],_,r=>by rw[iD]at r;cases r;rfl
|y::d,vs,r=>by
 rw[aX]at r
 cases r with
 |cons f g=>
  cases f;rw[aX,uG g]
def VF(z:â)(d:List â):zw (.str z) (d.map V.str)=decide (z∈d):=by
 unfold zw
 induction d with
 |nil=>simp
 |cons y d f=>
  rw[aX,lN,f,eR];simp only[oD,rT,eg,e8,aN];exact#[λh=>h.imp ii id,λh=>h.imp ii id]
def KM(d:List â):(d.map V.str).all BQ=true:=by
 induction d with
 |nil=>rfl
 |cons y d f=>rw[aX,NX,f];rfl
def Lh(K:aH):R2:=λx y H Q=>(∃i j,x=.str i/\y=.str j/\Q (.bl (!Ą (l7 j i 0 j.length 1))) H)\/Eg K wv x y H Q
def rZ:oU X (e9 .In) (Lh X.K):=J5.or WY
def RP:AN X (Lh X.K) El:=by
 intro H F l f x y Q j bu g i h k
 cases g with
 |str z=>
  cases i with
  |str w=>exact j3 #[ϛ,z,w,7,k _ _ H (L2.bJ.refl H) (.bool _) h]
  |list q s=>
   obtain⟨d,rfl,h⟩:=h;have e:=uG s;subst e;refine i7 #[ϝ,31,j3 (L2.bJ.seq cH q),1,KM d,2];rw[a9 cS,VF];exact k _ _ H (L2.bJ.refl H) (.bool _) h
  |tuple q s=>
   obtain⟨d,rfl,h⟩:=h;have e:=uG s;subst e;refine i7 #[ϝ,31,i7 (bJ.Ő cH q),1,KM d,2];rw[a9 cS,VF];exact k _ _ H (L2.bJ.refl H) (.bool _) h
  |_=>exact h.elim
 |_=>cases f<;>exact h.elim
def aN6(x y:D)(Q:D->Prop):Prop:=match x,y with
|aG z,eE ts=>∃d:List â,ts=d.map aG/\Q (QM (!decide (z∈d)))
|aG z,cN ts=>∃d:List â,ts=d.map aG/\Q (QM (!decide (z∈d)))
|_,_=>False
def Gk{r:ű}{f:ů}(n:sL X r f)(m:yU X (e::P) t)(s:∀{S},PA X (e::P) S->PE X (ă g (e::P) [] pos) (YO r S)):eX X (ă g (e::P) [] pos) (mF f t):=Ê m λv q y=>by refine#[Ϙ,_,s q,λB M H F J G Q j o h k=>y B M H F J G _ _ o h λl A N i x q1=>?_];exact n N F l A Q j (o.fz i).bu x q1 λd v L z w u=>k d v L (i.trans z) w u
def f1(f:D->(D->Prop)->Prop):ů
|[d],Q=>f d Q
|_,_=>False
def c1{r:ű}{f:D->(D->Prop)->Prop}(h:∀H F d x Q g,(∀p∈F,CK (H p))->iM X.K (ê H F) d x->f d Q ->
  (∀d v L,bJ H L->iM X.K (ê L F) d v->Q d->g v L)->r [x] H g):sL X r (f1 f):=by
 intro H F n o Q g bu m i k
 cases m with
 |nil=>exact i.elim
 |cons j l=>
  cases l with
  |nil=>exact h H F _ _ Q g bu j i k
  |cons _ _=>exact i.elim
def Br(d:D)(Q:D->Prop):Prop:=match d with
|eE ts=>Q (aW (iN ts))
|cN ts=>Q (aW (iN ts))
|aG z=>v0 z<=100000/\Q (aW (v0 z))
|_=>False
def xO:lW X (mt "len") (λf H Q=>(∃p d,f=[.ref p]/\(qE X.K H p d\/tV X.K H p d)/\Q (.int (iN d)) H)\/∃z,f=[.str z]/\v0 z<=bM/\Q (.int (v0 z)) H):=M8.or M7
def Cy:sL X (λg H Q=>(∃p f,g=[.ref p]/\(qE X.K H p f\/tV X.K H p f)/\Q (.int (iN f)) H)\/∃z,g=[.str z]/\v0 z<=bM/\Q (.int (v0 z)) H) (f1 Br):=c1 λH F d x Q i bu r h k=>by
 cases r with
 |list q s=>
  refine j3 #[ϛ,31,j3 (L2.bJ.seq cH q),2];rw[<- s.length];exact k _ _ H (L2.bJ.refl H) (.int _) h
 |tuple q s=>
  refine j3 #[ϛ,31,i7 (bJ.Ő cH q),2];rw[<- s.length];exact k _ _ H (L2.bJ.refl H) (.int _) h
 |str z=>exact i7 #[z,1,DZ h.1,k _ _ H (L2.bJ.refl H) (.int _) h.2]
 |_=>exact h.elim
def xI(d:D)(Q:D->Prop):Prop:=match d with
|eE ts=>Q (cN ts)
|cN ts=>Q (cN ts)
|_=>False
def rG:sL X (λi H Q=>∃p f,i=[.ref p]/\((qE X.K H p f/\∀l,H l=wx->Q (.ref l) (fU H l (.ņ f)))\/(tV X.K H p f/\Q (.ref p) H))) (f1 xI):=c1 λH F d x Q j bu r h k=>by
 cases r with
 |list q s=>exact#[Ϛ,31,j3 #[L2.bJ.seq cH q,λl g=>k _ _ _ (dZ g) (vE bu g s) h]]
 |tuple q s=>exact#[Ϛ,31,i7 #[bJ.Ő cH q,k _ _ H (L2.bJ.refl H) (.tuple q s) h]]
 |_=>exact h.elim
def Rv(d:D)(Q:D->Prop):Prop:=match d with
|eE ts=>Q (eE ts)
|cN ts=>Q (eE ts)
|_=>False
theorem OF:∀{d:List Bool}{vs},gq K H (d.map QM) vs->vs=d.map V.bl
|[],_,r=>by rw[iD]at r;cases r;rfl
|y::d,vs,r=>by
 rw[aX]at r
 cases r with
 |cons f g=>
  cases f;rw[aX,OF g]
theorem CW:∀{d:List Int}{vs},gq K H (d.map aW) vs->vs=d.map V.int
|[],_,r=>by rw[iD]at r;cases r;rfl
|y::d,vs,r=>by
 rw[aX]at r
 cases r with
 |cons f g=>
  cases f;rw[aX,CW g]
def Bx(d:D)(Q:D->Prop):Prop:=∃bs:List Bool,d=eE (bs.map QM)/\Q (QM (bs.all id))
def Gh:sL X (λf H Q=>∃(p:à)(bs:List Bool),f=[.ref p]/\qE X.K H p (bs.map V.bl)/\Q (.bl (bs.all id)) H) (f1 Bx):=c1 λH F d x Q g bu r h k=>by
 obtain⟨bs,rfl,h⟩:=h
 cases r with
 |list q s=>
  have e:=OF s;subst e;exact#[ϛ,_,bs,1,L2.bJ.seq cH q,k _ _ H (L2.bJ.refl H) (.bool _) h]
def Nr(d:D)(Q:D->Prop):Prop:=∃ns,d=eE (ns.map aW)/\ns≠[]/\∀m,m∈ns->(∀n∈ns,m<=n)->Q (aW m)
def f2(f:ų):ů
|[d,d'],Q=>f d d' Q
|_,_=>False
def Hu(x y:D)(Q:D->Prop):Prop:=match x,y with | aW i,aW j=>Q (aW (if j<i then j else i)) | _,_=>False
def Ke:sL X (λf H Q=>∃i j,f=[.int i,.int j]/\Q (.int (if j<i then j else i)) H) (f2 Hu):=by
 intro H F q f Q o bu n d k
 cases n with
 |nil=>exact d.elim
 |cons g h=>
  cases h with
  |nil=>exact d.elim
  |cons l m=>
   cases m with
   |cons _ _=>exact d.elim
   |nil=>
    cases g with
    |int i=>
     cases l with
     |int j=>exact#[Ϛ,i,j,1,k _ _ H (L2.bJ.refl H) (.int _) d]
     |_=>exact d.elim
    |_=>exact d.elim
def Qs(K:aH)(T:String):Prop:=∀tn∈["NoneType","bool","int","str","list","tuple"],eM K (fx tn) (fx T)=wz ((tn==T)||(T=="int"&&tn=="bool"))
def SF{G}{H:Hp}{E:á->ã->Prop}{Q:á->ã->Prop}{p C:à}{c}{b:Bool}(I:dS X pins G H s)(n:H p=wz (.ext (wB p C dx)))(hd:∀d,dx=wz d->∃fs,H d=wz (.xd fs))(x:NM X.K C)
  (e:eM X.K (g8 C) c=wz b) (h:∀r,Q (dh b) { s with toks:=r }):å (ä X.prog X.w) A (call (mt "isinstance") [g8 p,c]) Q E s:=by
 refine YY (aCs x) I.kIn ?_ e (λz=>nomatch z) h;obtain⟨⟨o,vs,f,g,i,k⟩,_⟩:=I.gs p _ n;have j:aEx o=true:=by unfold aEx;rw[k]
 cases dx with
 |none=>exact#[o,wx,f,g,j,by rw[i];trivial]
 |some d=>
  let fs m:=Ë (hd d eH);obtain⟨u,⟨q,P,t,l,_⟩,_⟩:=I.gs d _ m;exact#[o,wz q,f,g,j,by rw[i];exact l]
def KU(f:â->ů)(R:ET)(t:AT):ET:=λG Q=>R G λd=>∃z,d=aG z/\t G λg=>f z g Q
def Rt(z:â)(d:List D)(Q:D->Prop):Prop:=match d with | [aG y]=>Q (aW (Txt.find z y)) | _=>False
def Ht(z:â)(f:List D)(Q:D->Prop):Prop:=match f with | [eE ts]=>∃d,ts=d.map aG/\Ċ (d.map (·.length))+iN d*v0 z<=16777216/\Q (aG (Txt.join z d)) | _=>False
def KB{f:â->ů}{r:V->ű}(u:eX X n R)(q:yU X (e::P) t)
  (s:∀H F z j l Q i,gq X.K (ê H F) j l->f z j Q->(∀d v L,bJ H L->iM X.K (ê L F) d v->Q d->i v L)->r (.str z) l H i)
  (y:∀{v S},PE X n v->PA X (e::P) S->PE X (ă g (e::P) [] pos) (WG X.K "str" r v S)):eX X (ă g (e::P) [] pos) (KU f R t):=Ê u λv A re=>Ê q λZ w U=>by refine#[Ϙ,_,y A w,λB M H F J G Q i o h k=>re B M H F J G _ _ o h λd x N m I q1=>?_];obtain⟨z,rfl,q1⟩:=q1;cases I;refine#[1,U B M N F J G _ _ (o.fz m) q1 λj l O Y T q2=>?_];exact s O F z j l Q i T q2 λd v L W E C=>k d v L (m.trans (Y.trans W)) E C
def gE(j:eX X n R)(i:yU X (e::P) t)
  (m:∀{v S},PE X n v->PA X (e::P) S->PE X (ă (ą n "join" ap) (e::P) [] pos) (WG X.K "str" (λx g H Q=>∃z p d,x=.str z/\g=[.ref p]/\qE X.K H p (d.map V.str)/\Ċ (d.map (·.length))+iN d*v0 z<=16777216/\Q (.str (Txt.join z d)) H) v S)):eX X (ă (ą n "join" ap) (e::P) [] pos) (KU Ht R t):=
 KB j i (λH F z w g Q u r h k=>by
  cases r with
  |nil=>exact h.elim
  |cons f o=>
   cases o with
   |cons _ _=>cases f<;>exact h.elim
   |nil=>
    cases f with
    |list q s=>
     obtain⟨d,rfl,l,h⟩:=h;have e:=uG s;subst e;exact#[Ϣ,z,_,d,7,L2.bJ.seq cH q,l,k _ _ H (L2.bJ.refl H) (.str _) h]
    |_=>exact h.elim) m
def Z9(i j:Nat)(R:ET):xS:=λf G=>R G λd=>gP i j d G f.nx
def Q3{i j:Nat}{g:TG}(n:eX X e R)(q:P7 X tg (gP i j))(s:∀{v k},PE X e v->PG X tg k->PS X (Ā [tg] e pos) (wN v k)):CI X (Ā [tg] e pos) (Z9 i j R):=Ê n λv t re=>Ê q λk pg y=>by refine#[Ϙ,_,s t pg,λB M H F J G A C o h f=>re B M H F J G _ _ o h λd x N l w q1=>?_];exact y B M N F J G d x _ _ (o.fz l) w q1 λm z r _ u=>f.nx N F _ _ r (bU l) u
def iM.Ļ{k:Ž}{s:ã}{G:L2.St}(I:dS X k G H s){d:D}{x:V}{u:á}(hd:d.hasDict=wv)(r:iM X.K H d x)(l:gQ x u):∃g,Reads s.heap u d g:=by
 refine iM.rec (motive_2:=λm C _=>∀v,nH m=wv->fX C v->∃g,ReadsAll s.heap v m g)
  (λu _ r=>by cases r;exact#[_,.none]) (λb u _ r=>by cases r;exact#[_,.bool b]) (λi u _ r=>Ù u r λt=>#[_,.int i t]) (λz u _ r=>Ù u r λt=>#[_,.str z t])
  (λq _ a u hd r=>?_) (λq _ a u hd r=>?_) ?_ ?_ ?_ ?_ ?_ ?_ ?_ ?_ (λv _ r=>by cases r;exact#[_,.nil]) (λ{d m x C} _ _ a b v hd r=>?_) r u hd l
 .cases r;obtain⟨A,l,⟨o,n,h,j,_,w⟩,_⟩:=I.list q;exact Ë (a _ hd l) λg y=>#[_,.list h j w (Á y)]
 .cases r;obtain⟨A,l,⟨o,h,j,n,w⟩,_⟩:=I.tuple q;exact Ë (a _ hd l) λg y=>#[_,.tuple h j w (Á y)]
 case refine_11=>
  have f:(d.hasDict||nH m)=false:=hd;rw[zR]at f
  cases r with
  |cons E Q=>
   exact Ë (a _ f.1 E) λg h=>Ë (b _ f.2 Q) λbs j=>#[_,.cons h j]
 all_goals intros;rename_i hd _;cases hd
def Qt(d:D)(Q:D->Prop):Prop:=d.showable=ww/\d.hasDict=wv/\d.depth<=60/\v0 d.shown<=bM/\Q (aG d.shown)
end
end TL
namespace TL
open L2
def Cj(a:ŷ):Bool:=match a.filter (λy=>y.2==f7)with
|[]=>ww
|[x]=>a.lookup x.1==wz f7
|_=>wv
def aG8(h:Cj names=ww):yV names:=by
 unfold Cj at h;split at h
 .rename_i e;exact j3 e
 .rename_i x e;have a:x∈names.filter (λy=>y.2==f7):=by rw[e];exact bC.mpr eH
  exact i7 #[x.1,by rw[e,<- (cf (cD.mp a).2)],beq_iff_eq.mp h]
 .cases h
def pO(a out:Scope)(c b:List â)(d:ż):Bool:=
 decide (a.kind=ć)&&Cj a.names&&a.names.all (λy=>decide (y.2≠g9)||decide (out.names.lookup y.1=wz f7))&&a.names.all (λy=>decide (y.2≠.local)||decide (a.names.lookup y.1=wz .local))&&xJ a.names out.names c b d
section
variable{X:Cx}{c js j:æ}{d:List æ}{a:Scope}{pos:Pos}{f:List â}{k:ż}{n:TI}{g:BP->TG}{m:BP->TT}{l:BP->TE}
def KC{out:Scope}(h:pO a out Nx f k=ww):a.kind=ć/\yV a.names/\(∀y∈a.names,y.2=g9->out.names.lookup y.1=wz f7)/\(∀y∈a.names,y.2=.local->a.names.lookup y.1=wz .local)/\xJ a.names out.names Nx f k=true:=by
 unfold pO at h;simp only[dE,fT,rT,e8]at h;obtain⟨⟨⟨⟨i,o⟩,p⟩,q⟩,r⟩:=h;exact#[i,aG8 o,λy b e=>(p y b).elim (λz=>c9 e z) id,λy b e=>(q y b).elim (λz=>c9 e z) id,r]
def Lw(h:pO a X.ak.scope X.N f k=ww)(e:X.Ň=ww)(t:PI X j js n)
  (s:∀b,PG (w6 X a f b) j (g b)/\S3 (w6 X a f b) d (m b)/\PE (w6 X a f b) c (l b)) (u:(∀x,k7 js X.ak x=pure x)|>ť):PE X (ĉ c [#[j,js,d,(0)]] a pos) (ZQ k n g m l):=Ó (KC h) λi o p q r=>Sv e i o r p q t s u
def kZ{i:Nat}{r e:Pos}(h:pO a X.ak.scope X.N f k=ww)(y:aYv X.N)(p:X.N[i]?=wz x)(E:YV X.ak.scope x)(o:X.Ň=ww)(B:PI X j js n)
  (z:∀b,PG (w6 X a f b) j (g b)/\S3 (w6 X a f b) d (m b)/\PE (w6 X a f b) c (l b))
  (q:lY (ĉ c [#[j,js,d,(0)]] a pos) (wz (KK x r)) e.line X.ak=pure ww) (C:(∀x,k7 js X.ak x=pure x)|>ť) (A:ŭ X x|>Š) :
  PS X (Ā [KK x r] (ĉ c [#[j,js,d,(0)]] a pos) e) (wN (ZQ k n g m l) (mO i)):=Ó (KC h) λs t u v w=>aAt y p E o s t w u v B z q C A
end
theorem Jq:f6 "all"=wz (mt "all"):=cR
theorem Kb:f6 "min"=wz (mt "min"):=cR
theorem NB:f6 "max"=wz (mt "max"):=cR
theorem qC:f6 "isinstance"=wz (mt "isinstance"):=cR
theorem HV:f6 "len"=wz (mt "len"):=cR
theorem oH:f6 "tuple"=wz (fx "tuple"):=cR
theorem VW:f6 "list"=wz (fx "list"):=cR
theorem DH:f6 "str"=wz (fx "str"):=cR
theorem tL:f6 "int"=wz (fx "int"):=cR
def XE(K:aH):Qs K "tuple":=by
 intro a h;simp only[aN,cZ,j4]at h;rcases h with rfl | rfl | rfl | rfl | rfl | rfl<;>first | rfl | (with_unfolding_all rfl) | decide +kernel
def set_set{d:Type}(l:List d)(i:Nat)(a b:d):(l.set i a).set i b=l.set i b:=by
 apply nU;intro j;by_cases h:i=j
 .subst h;by_cases c:i<iN l
  .rw[bI (Á c),bI c]
  .rw[eW (Á c),eW (Á c)]
 .rw[aY h,aY h,aY h]
theorem Go{f:List D}{i:List Sl}{m:ET}{Q:D->Prop}(R:Nat->D->D->Prop)(A:iN f<=100000)
  (v:∀k x q,f[k]?=wz x->(∀y,R k x y->q y)->m (i.set 0 (.val x)) q)
  (u:∀o,iN o=iN f->(∀k x y,f[k]?=wz x->o[k]?=wz y->R k x y)->Q (eE o)) :
  iN f<=100000/\∃P:Nat->List Sl->List D->Prop,P 0 i [] /\
   (∀k x a c,f[k]?=wz x->P k a c->gN 0 x a λd=>D8 d λb=>if b=ww then m d λy=>P (k+1) d (c++[y])else P (k+1) d c)/\∀a c,P (iN f) a c->Q (eE c):=by
 refine#[A,λk a c=>(∀x,a.set 0 (.val x)=i.set 0 (.val x))/\iN c=k/\∀(j:Nat)(x y:D),f[j]?=wz x->c[j]?=wz y->R j x y,#[λ_=>rfl,1,λj x y _ h=>by simp at h],λk x a c r h=>?_,λa c h=>u c h.2.1 h.2.2];let s p t:=í h;show m (a.set 0 (.val x)) _;rw[s x];refine v k x _ r λy w=>#[λz=>set_set _ _ _ _,by simp[p],λj B C l g=>?_];by_cases E:j<k
 .rw[fA cT]at g;exact t j B C l g
 .rw[eU cT]at g
  have:j=k:=by
   by_cases e:j=k
   .exact e
   .have:j-c.length≠0:=by grind
    cases q:j-iN c with
    |zero=>exact c9 q this
    |succ n=>rw[q]at g;simp at g
  subst this;rw[r]at l;cases l;simp[p]at g;subst g;exact w
def R7{d:List D}{l:List Sl}{p:ET}{Q:D->Prop}(f:D->D)(t:iN d<=100000)(s:∀x q,x∈d->q (f x)->p (l.set 0 (.val x)) q)(r:Q (eE (d.map f))) :
  iN d<=100000/\∃P:Nat->List Sl->List D->Prop,P 0 l [] /\
   (∀k x a g,d[k]?=wz x->P k a g->gN 0 x a λc=>D8 c λb=>if b=ww then p c λy=>P (k+1) c (g++[y])else P (k+1) c g)/\∀a g,P (iN d) a g->Q (eE g):=by
 let m o h:=Go (λk x y=>y=f x) t (λk x q j h=>s x q (aU j) (h _ eH))
 have e:m=d.map f:=by
  apply nU;intro i;rw[aK]
  cases j:d[i]? with
  |none=>
   rw[eW (by rw[o];exact tW.mp j)];rfl
  |some x=>
   have n:i<iN m:=by rw[o];exact(aD.mp j).1
   have:=h i x m[i] j (aC n);rw[aC n,this];rfl
 rw[e];exact r
def aHl{d:List D}{i:List Sl}{j:yT}{n:ET}{Q:D->Prop}(p:D->Bool)(f:D->D)(u:iN d<=100000)(r:∀x q,x∈d->q (p x)->j (i.set 0 (.val x)) q)
  (t:∀x q,x∈d->q (f x)->n (i.set 0 (.val x)) q) (s:Q (eE ((d.filter p).map f))) :
  iN d<=100000/\∃P:Nat->List Sl->List D->Prop,P 0 i [] /\
   (∀k x a c,d[k]?=wz x->P k a c->gN 0 x a λg=>j g λb=>if b=ww then n g λy=>P (k+1) g (c++[y])else P (k+1) g c)/\∀a c,P (iN d) a c->Q (eE c):=by
 refine#[u,λk a c=>(∀x,a.set 0 (.val x)=i.set 0 (.val x))/\c=((d.take k).filter p).map f,#[λ_=>rfl,1],λk x a c m h=>?_,λa c h=>?_]
 .refine ñ c h λo=>?_;have l:=aU m;show j (a.set 0 (.val x)) _;rw[o x];refine r x _ l ?_;have e:d.take (k+1)=d.take k++[x]:=by rw[cE,m];rfl
  cases hb:p x with
  |true=>
   rw[b8 rfl];refine t x _ l #[λz=>set_set _ _ _ _,2];rw[e,fE,bA];simp[hb]
  |false=>
   rw[a9 cS];refine#[λz=>set_set _ _ _ _,2];rw[e,fE,bA];simp[hb]
 .refine ñ c h λ_=>?_;rw[cK];exact s
section
variable{c:ż}{b:IT}{e:yT}{d:ET}{a:List Sl}{Q:D->Prop}{ts:List D}
abbrev vR(b:IT)(a:List Sl)(ts:List D):Prop:=∀R,R ts->b a R
def jI(g:vR b a ts)(f:D->D)(j:iN ts<=100000)(i:∀x q,x∈ts->q (f x)->d ((kX c a).set 0 (.val x)) q)(h:Q (eE (ts.map f))):YS c b (gN 0) D8 d a Q:=
 g _ (R7 f j i h)
def MN(f:vR b a ts)(R:Nat->D->D->Prop)(j:iN ts<=100000)
  (i:∀k x q,ts[k]?=wz x->(∀y,R k x y->q y)->d ((kX c a).set 0 (.val x)) q)
  (h:∀g,iN g=iN ts->(∀k x y,ts[k]?=wz x->g[k]?=wz y->R k x y)->Q (eE g)):YS c b (gN 0) D8 d a Q:=
 f _ (Go R j i h)
def uL(g:vR b a ts)(p:D->Bool)(f:D->D)(k:iN ts<=100000)(h:∀x q,x∈ts->q (p x)->e ((kX c a).set 0 (.val x)) q)
  (j:∀x q,x∈ts->q (f x)->d ((kX c a).set 0 (.val x)) q) (i:Q (eE ((ts.filter p).map f))):YS c b (gN 0) e d a Q:=
 g _ (aHl p f k h j i)
def ze{g:GT}{h:LD}(i:vR b a ts)(P:Nat->List Sl->Prop)(l:P 0 a)
  (m:∀k x f,ts[k]?=wz x->P k f->g x f λj=>tb { h with nx:=P (k+1),ct:=P (k+1),bk:=h.nx } j) (hd:∀f,P (iN ts) f->h.nx f):An b g tb h a:=i _ #[ϙ,P,l,m,hd]
end
def nZ(x y:â):(x++y).cps.toList=aO6 x.cps++aO6 y.cps:=by
 show(Ĉ x++Ĉ y).toList=_;simp
def uN{x y:â}(h:aO6 x.cps=aO6 y.cps):x=y:=by
 cases x with
 |mk a=>
  cases y with
  |mk b=>
   have:a=b:=by simpa using d9 aPe h
   rw[this]
def RG(b:Array Nat)(a k:Nat):(eZ k).filterMap (λm=>b[a+m]?)=(b.toList.drop a).take k:=by
 induction k with
 |zero=>simp
 |succ k c=>
  rw[rQ,List.filterMap_append,c,cE,mS];congr 1;simp only[mE,List.filterMap_nil];rw[kW];cases b[a+k]?<;>rfl
theorem VT(v:Option Int)(n d:Nat)(hd:d<=n):(match v with | none=>(d:Int) | some i=>max 0 (min (if i<0 then i+(n:Int)else i) (n:Int)))=((HT.kr n d v:Nat):Int):=by
 cases v with
 |none=>rfl
 |some i=>
  have:=HT.clip_eq i n d;rw[<- this];dsimp only;split<;>grind
def aD0(v:Option Int)(n:Nat):(match v with | none=>(0:Int) | some i=>max 0 (min (if i<0 then i+(n:Int)else i) (n:Int)))=((HT.kr n 0 v:Nat):Int):=VT v n 0 (bZ _)
def Z0{a c b d:Int}(e:a=c)(f:b=d):jg a b 1=jg c d 1:=by rw[e,f]
theorem sY(z:â)(lo c:Option Int):(Txt.slice z lo c).cps.toList=iB (aO6 z.cps) lo c:=by
 have d:iN z.cps.toList=v0 z:=by simp[v0]
 have j:=HT.sIx_le (v0 z) 0 (bZ _) lo;have hb:=HT.sIx_le (v0 z) (v0 z) (aL _) c
 have i:bn lo c 1 (v0 z)=(eZ (HT.kr (v0 z) (v0 z) c-HT.kr (v0 z) 0 lo)).map (λk=>HT.kr (v0 z) 0 lo+k):=by
  unfold bn;refine(Z0 (aD0 lo (v0 z)) (VT c (v0 z) (v0 z) (aL _))).trans ?_;unfold jg;simp only[show(1:Int)>0 by decide,x2]
  generalize HT.kr (v0 z) 0 lo=a
  generalize HT.kr (v0 z) (v0 z) c=b
  have e:Ă (if(a:Int)<(b:Int)then((b:Int)-a+1-1) / 1 else 0)=b-a:=by split<;>lia
  rw[e];apply gX;intro k _;lia
 unfold Txt.slice iB;rw[d,i]
 generalize HT.kr (v0 z) 0 lo=a at *
 generalize HT.kr (v0 z) (v0 z) c=b at *
 split
 .next h=>
  simp only[beq_self_eq_true,CG,eg,aB,pS]at h;have f:a=0:=by lia
  have g:b-a=iN z.cps.toList:=by rw[d];exact h
  rw[g,f,zQ,cK]
 .rw[Y5];exact RG z.cps a (b-a)
def SE:∀a,(Txt.join #[(Ŭ [])] a).cps.toList=(a.map (·.cps.toList)).flatten:=by
 intro a;show(l0 #[(Ŭ [])] a).cps.toList=_;rw[i5]
 induction a with
 |nil=>rfl
 |cons x a b=>
  cases a with
  |nil=>simp[ax]
  |cons y r=>
   show(x++#[(Ŭ [])]++ax #[(Ŭ [])] (y::r)).cps.toList=_;rw[nZ,nZ,b];simp
def Kr(x:â)(c:Nat):Txt.contains x #[(Ŭ [c])]=decide (c∈aO6 x.cps):=StrLaws.found_one x c
section
variable{f:ET}{u t e:xS}{c:yT}{d:LD}{a:List Sl}{i:Nat}
def bV(v:D)(h:∀q,q v->f a q)(k:u d (a.set i (.val v))):jH (OA i f) u d a:=h _ k
def iX(R:D->Prop)(h:∀q,(∀v,R v->q v)->f a q)(k:∀v,R v->u d (a.set i (.val v))):jH (OA i f) u d a:=h _ k
def gF(R:Bool->Prop)(h:∀q,(∀b,R b->q b)->c a q)(j:R ww->t { d with nx:=u d } a)(g:R wv->e { d with nx:=u d } a):jH (kA c t e) u d a:=by
 let b hb:=h _
 cases b with
 |true=>rw[b8 rfl];exact j hb
 |false=>rw[a9 cS];exact g hb
def qA(R:Bool->Prop)(h:∀q,(∀b,R b->q b)->c a q)(j:R ww->t d a)(g:R wv->e d a):kA c t e d a:=by
 let b hb:=h _
 cases b with
 |true=>rw[b8 rfl];exact j hb
 |false=>rw[a9 cS];exact g hb
def jM{ts:List D}{g:GT}(h:vR ti a ts)(P:Nat->List Sl->Prop)(l:P 0 a)
  (m:∀k x b,ts[k]?=wz x->P k b->g x b λj=>tb { d with nx:=P (k+1),ct:=P (k+1),bk:=u d } j) (hd:∀b,P (iN ts) b->u d b):jH (An ti g tb) u d a:=
 ze h P l m hd
def lL{t:AT}(b:List D)(g:iN b<=1000)(h:∀q,q b->t a q)(k:u d (a.set i (.own b))):jH (Ao i t) u d a:=h _ #[g,k]
def aGi{b:List D}(v:D)(g:a[i]?=wz (.own b))(j:iN b<=100000)(h:∀q,q v->f a q)(k:u d (a.set i (.own (b++[v])))):jH (Am i f) u d a:=#[Ϙ,b,g,h _ #[j,k]]
def nW{ts:List D}(v:D)(b:a[i]?=wz (.own ts))(g:iN ts<=100000)(h:∀q,q v->f a q)(k:d.nx (a.set i (.own (ts++[v])))):Am i f d a:=#[ts,b,h _ #[g,k]]
def mK(v:D)(h:∀q,q v->f a q)(k:d.nx (a.set i (.val v))):OA i f d a:=h _ k
end
mutual
theorem qR:∀{d:D},d.canLay0=ww->d.hasDict=wv
|.none,_=>rfl
|.bool _,_=>rfl
|.int _,_=>rfl
|.str _,_=>rfl
|.list _,h=>u0 h
|.tuple _,h=>u0 h
|.dict _,h=>by cases h
theorem u0:∀{a:List D},dH a=ww->nH a=wv
|[],_=>rfl
|d::a,h=>by
 have b:(d.canLay0&&dH a)=true:=h;rw[dE]at b;show(d.hasDict||nH a)=wv;rw[qR b.1,u0 b.2];rfl
end
section
variable{X:Cx}{b e:æ}
def DW(K:aH)(ok:D->D->Prop)(f:D->D->Bool):R2:=λx y H Q=>∃a c,iM K H a x/\iM K H c y/\ok a c/\Q (.bl (f a c)) H
def VJ(ok:D->D->Prop)(f:D->D->Bool)(x y:D)(Q:D->Prop):Prop:=ok x y/\Q (QM (f x y))
def jS{ok:D->D->Prop}{f:D->D->Bool}:AN X (DW X.K ok f) (VJ ok f):=by
 intro H j a c x y Q i bu d g h k;exact#[Ϝ,a,c,d.same cH,g.same cH,h.1,k _ _ H (L2.bJ.refl H) (.bool _) h.2]
def RO(a c:D):Prop:=a.canLay0=ww/\c.canLay0=ww/\min a.depth c.depth<=60
theorem tI{k:Nat}(g:iL k X.A):oU X (e9 .Eq) (DW X.K RO dG):=by
 intro c s t H x y v u Q I l m h;obtain⟨o,p,i,j,⟨c1,a,r⟩,q⟩:=h;exact Ë (iM.Ļ I (qR c1) i l) λn d=>Ë (iM.Ļ I (qR a) j m) λbs f=>SeqAt.compareEq_reads d f c1 a (by have:=g.un;lia) #[ϛ,.bl _,H,I,1,q]
def pZ{k:Nat}(g:iL k X.A):oU X (e9 .NotEq) (DW X.K RO λx y=>!dG x y):=by
 intro c s t H x y v u Q I l m h;obtain⟨o,p,i,j,⟨c1,a,r⟩,q⟩:=h;exact Ë (iM.Ļ I (qR c1) i l) λn d=>Ë (iM.Ļ I (qR a) j m) λbs f=>SeqAt.compareNe_reads d f c1 a (by have:=g.un;lia) #[ϛ,.bl _,H,I,1,q]
def C2(x y:D):Prop:=match y with
|eE ts=>dH ts=ww/\x.canLay0=ww/\min (fH ts) x.depth<=60
|cN ts=>dH ts=ww/\x.canLay0=ww/\min (fH ts) x.depth<=60
|_=>False
def IV(x y:D):Bool:=match y with
|eE ts=>ts.any λz=>dG z x
|cN ts=>ts.any λz=>dG z x
|_=>wv
theorem WZ{k:Nat}(i:iL k X.A):oU X (e9 .In) (DW X.K C2 IV):=by
 intro j s t H x y v u Q I o p h;let l c m n a q:=Ý h
 have hd:l.hasDict=wv/\c.hasDict=false:=by
  cases c with
  |list d=>exact#[qR a.2.1,u0 a.1]
  |tuple d=>exact#[qR a.2.1,u0 a.1]
  |_=>exact a.elim
 refine Ë (iM.Ļ I hd.1 m o) λr f=>Ë (iM.Ļ I hd.2 n p) λbs g=>?_
 cases c with
 |list d=>exact SeqAt.in_list_reads g f a.1 a.2.1 (by have:=i.un;have:=a.2.2;lia) #[ϛ,.bl _,H,I,1,q]
 |tuple d=>exact SeqAt.in_tuple_reads g f a.1 a.2.1 (by have:=i.un;have:=a.2.2;lia) #[ϛ,.bl _,H,I,1,q]
 |_=>exact a.elim
def BC{k:Nat}(i:iL k X.A):oU X (e9 .NotIn) (DW X.K C2 λx y=>!IV x y):=by
 intro j s t H x y v u Q I o p h;let l c m n a q:=Ý h
 have hd:l.hasDict=wv/\c.hasDict=false:=by
  cases c with
  |list d=>exact#[qR a.2.1,u0 a.1]
  |tuple d=>exact#[qR a.2.1,u0 a.1]
  |_=>exact a.elim
 refine Ë (iM.Ļ I hd.1 m o) λr f=>Ë (iM.Ļ I hd.2 n p) λbs g=>?_
 cases c with
 |list d=>exact SeqAt.notIn_list_reads g f a.1 a.2.1 (by have:=i.un;have:=a.2.2;lia) #[ϛ,.bl _,H,I,1,q]
 |tuple d=>exact SeqAt.notIn_tuple_reads g f a.1 a.2.1 (by have:=i.un;have:=a.2.2;lia) #[ϛ,.bl _,H,I,1,q]
 |_=>exact a.elim
def Bm(x y:D)(Q:D->Prop):Prop:=match x,y with
|aG z,aG y=>Q (QM (Txt.contains y z))
|x,y=>C2 x y/\Q (QM (IV x y))
def GH{k:Nat}(a:iL k X.A):oU X (e9 .In) (λx y H Q=>(∃i j,x=.str i/\y=.str j/\Q (.bl (!Ą (l7 j i 0 j.length 1))) H)\/DW X.K C2 IV x y H Q):=J5.or (WZ a)
def OQ:AN X (λx y H Q=>(∃i j,x=.str i/\y=.str j/\Q (.bl (!Ą (l7 j i 0 j.length 1))) H)\/DW X.K C2 IV x y H Q) Bm:=by
 intro H l a c x y Q d bu f g h k;have gen:C2 a c/\Q (QM (IV a c))->_:=λh=>(i7 #[Ϝ,a,c,f.same cH,g.same cH,h.1,k _ _ H (L2.bJ.refl H) (.bool _) h.2]:(∃i j,x=.str i/\y=.str j/\d (.bl (!Ą (l7 j i 0 j.length 1))) H)\/DW X.K C2 IV x y H d)
 cases f with
 |str z=>
  cases g with
  |str w=>exact j3 #[ϛ,z,w,7,k _ _ H (L2.bJ.refl H) (.bool _) h]
  |_=>exact gen h
 |_=>exact gen h
def tE:D->Bool
|ES=>ww
|_=>wv
def Nd(x y:D)(Q:D->Prop):Prop:=match y with | QM b=>Q (QM (vK b x)) | ES=>Q (QM (tE x)) | _=>False
def aH7(x y:D)(Q:D->Prop):Prop:=match y with | QM b=>Q (QM (!vK b x)) | ES=>Q (QM (!tE x)) | _=>False
def AE:oU X (e9 .Is) (λx y H Q=>Bz x y H Q\/(y=.z8/\Q (.bl (decide (x=.z8))) H)):=aM2.or aM1
def WX:oU X (e9 .IsNot) (λx y H Q=>L6 x y H Q\/(y=.z8/\Q (.bl (!decide (x=.z8))) H)):=WW.or aG5
def GK:AN X (λx y H Q=>Bz x y H Q\/(y=.z8/\Q (.bl (decide (x=.z8))) H)) Nd:=by
 intro H i a g x y Q f bu c d h k
 cases d with
 |bool b=>
  refine j3 #[b,12];have e:(decide (x=V.bl b))=vK b a:=by cases c<;>simp[vK]
  rw[e];exact k _ _ H (L2.bJ.refl H) (.bool _) h
 |none=>
  refine i7 #[12];have e:(decide (x=V.z8))=tE a:=by cases c<;>simp[tE]
  rw[e];exact k _ _ H (L2.bJ.refl H) (.bool _) h
 |_=>exact h.elim
def aBs:AN X (λx y H Q=>L6 x y H Q\/(y=.z8/\Q (.bl (!decide (x=.z8))) H)) aH7:=by
 intro H i a g x y Q f bu c d h k
 cases d with
 |bool b=>
  refine j3 #[b,12];have e:(!decide (x=V.bl b))=!vK b a:=by cases c<;>simp[vK]
  rw[e];exact k _ _ H (L2.bJ.refl H) (.bool _) h
 |none=>
  refine i7 #[12];have e:(!decide (x=V.z8))=!tE a:=by cases c<;>simp[tE]
  rw[e];exact k _ _ H (L2.bJ.refl H) (.bool _) h
 |_=>exact h.elim
def Rx(x y:D)(Q:D->Prop):Prop:=match x,y with | aW i,aW j=>Q (aW (if j>i then j else i)) | _,_=>False
def Kd:sL X (λc H Q=>∃i j,c=[.int i,.int j]/\Q (.int (if j>i then j else i)) H) (f2 Rx):=by
 intro H o n c Q m bu l a k
 cases l with
 |nil=>exact a.elim
 |cons d f=>
  cases f with
  |nil=>exact a.elim
  |cons g h=>
   cases h with
   |cons _ _=>exact a.elim
   |nil=>
    cases d with
    |int i=>
     cases g with
     |int j=>exact#[Ϛ,i,j,1,k _ _ H (L2.bJ.refl H) (.int _) a]
     |_=>exact a.elim
    |_=>exact a.elim
end
end TL
namespace L2
section
variable{P:dF}{w:g6}{A:g3}{E:á->ã->Prop}{s:ã}
def RW{i t:à}{k:Nat}{Q:á->ã->Prop}(a:s.heap.IsTupleIter i t k)(h:s.heap.IsTuple t xs)(j:xs[k]?=wz x)
  (f:∀c,c.IsTupleIter i t (k+1)->gB i s.heap c->Q x { s with heap:=c }):å (ä P w) A (m6 (g8 i)) Q E s:=Õ (id a) λo b g hd=>Õ h λm e _ z=>Ë z λl d=>by refine aF (k9 a.typeIs t4 (mW t4 a.typeIs ed ?_ (dt _)));show å _ _ (field (g8 i) 0 >>= _) _ _ s;refine aF (g4 b hd (x:=g8 t) eH ?_);rw[a9 (show¬((g8 t==o0)=ww)from bS)];refine aF (g4 b hd eH ?_);refine aF (o1 e d ?_);simp only[kB,j];refine aF (ah b hd dN (aZ #[Ϙ,x,1,aZ (f _ ?_ (gB.update ..))]));exact#[ϙ,_,yY _ b (am (t7 hd _)),(ia ..).trans g,by rw[t7 hd];simp[v4]]
theorem GP{i t:à}{k:Nat}{Q:á->ã->Prop}(g:A.handled=wx)(a:s.heap.IsTupleIter i t k)(j:s.heap.IsTuple t xs)(l:xs[k]?=wx)
  (h:∀b e,aYa i s.heap b->(∃o,b.get? e=wz o/\o.cls=fx "StopIteration")->E (g8 e) { s with heap:=b }):å (ä P w) A (m6 (g8 i)) Q E s:=Õ (id a) λo d m hd=>Õ j λp f _ z=>Ë z λn c=>by
 refine aF (k9 a.typeIs t4 (mW t4 a.typeIs ed ?_ (dt _)));show å _ _ (field (g8 i) 0 >>= _) _ _ s;refine aF (g4 d hd (x:=g8 t) eH ?_);rw[a9 (show¬((g8 t==o0)=ww)from bS)];refine aF (g4 d hd eH ?_);refine aF (o1 f c ?_);simp only[kB,l];refine aF (u4 (aF (ah d hd dN ?_)));refine aF ?_;refine aF (jE ?_ (by size_fits));refine aF (wpAny_of_eq (by first | rfl | (simp only[firstArgMember];rfl)) ?_);refine jE ?_ (by size_fits);refine aF (wpAny_handled ?_)
 first | rw[show A.in1.handled=wx from g] | rw[g]
 refine aF (aZ (wpAny_throw ?_));exact h _ _ (((gB.update ..).extBut.push _).push _) #[Ϙ,_,bD _ eH,1]
end
structure sJ(P:dF)(w:g6)(i l:à)(st:Nat->ç->Prop)(src:Array á->ç->Prop):Prop where
 ě:∀k h h',st k h->(∀o,h.get? i=wz o->h'.get? i=wz o)->st k h'
 srcAt:∀xs h h',src xs h->(∀o,h.get? l=wz o->h'.get? l=wz o)->src xs h'
 has:∀k h,st k h->∃o,h.get? i=wz o/\∀v,o.data≠.cell v
 item:∀(A:g3)E(s:ã)(k:Nat)(xs:Array á)(x:á)Q,st k s.heap->src xs s.heap->xs[k]?=wz x ->
  (∀h',st (k+1) h'->gB i s.heap h'->Q x { s with heap:=h' })->å (ä P w) A (m6 (.ref i)) Q E s
 ő:∀(A:g3)E(s:ã)(k:Nat)(xs:Array á)Q,A.handled=wx->st k s.heap->src xs s.heap->xs[k]?=wx ->
  (∀h' e,aYa i s.heap h'->(∃o,h'.get? e=wz o/\o.cls=.type "StopIteration")->E (.ref e) { s with heap:=h' })->å (ä P w) A (m6 (.ref i)) Q E s
def KY(i l:à):sJ P w i l (λk h=>h.IsTupleIter i l k) (λxs h=>h.IsTuple l xs) where
 ě:=λ_ _ _ x e=>x.at e
 srcAt:=λ_ _ _ x e=>x.at e
 has:=λk h x=>Õ x λo e c d=>#[o,e,λv q=>by rw[d]at q;cases q]
 item:=λ_ _ _ _ _ _ _ h1 h2 hx hQ=>RW h1 h2 hx hQ
 ő:=λ_ _ _ _ _ _ hh h1 h2 hx hE=>GP hh h1 h2 hx hE
section
variable{P:dF}{w:g6}{A:g3}{E:á->ã->Prop}{s:ã}{z TI TO j l p q:à}{g i:Nat->ç->Prop}{d f:Array á->ç->Prop}{k:Nat}{m n:Array á}{a b:á}
theorem ZC{Q:á->ã->Prop}(C:sJ P w j p g d)(F:sJ P w l q i f)(D:fk z TI TO j l p q)(I:gl s.heap z TI TO o0)(Y:IsPair s.heap TI (g8 j) (g8 l))(Z:IsPair s.heap TO a b)
  (h1:g k s.heap) (h2:i k s.heap) (sy:d m s.heap) (tf:f n s.heap) (hx:m[k]?=wz x) (hy:n[k]?=wz y)
  (hQ:∀r,gl r z TI TO (v4 s.heap.objs.size)->IsPair r TO x y->g (k+1) r->i (k+1) r->IsPair r s.heap.objs.size x y->dl r.objs=dl s.heap.objs+1 ->
   (∀c o,c≠z->c≠TO->c≠j->c≠l->s.heap.get? c=wz o->r.get? c=wz o)->Q (g8 s.heap.objs.size) { s with heap:=r }) :
  å (ä P w) A (av.«zip.__next__» #[[g8 z],[]]) (λő s'=>∃v,ő=.done (.ret v)/\Q v s') E s:=by
 show å _ _ (field (g8 z) 2 >>= _) _ _ _;refine aF (g4 I eH eH ?_);refine aF (g4 I eH eH ?_);refine aF (o1 Y eH ?_);refine aF ?_;refine aF (g4 I eH eH (aZ ?_));refine aF (u4 ?_);refine aF (g4 I eH eH ?_);refine aF (o7 I dN λha ur sa=>?_);refine aF ?_;refine aF (aF (cq ?_));refine aF (C.item _ _ _ k m x _ (C.ě _ _ _ h1 λo e=>sa.extBut _ _ D.i1z e) (C.srcAt _ _ _ sy λo e=>sa.extBut _ _ D.l1z e) hx λhb W u=>aZ ?_);have O:=u.extBut _ _ D.TOi1 (sa.extBut _ _ D.TOz Z);refine aF (o1 O eH ?_);refine aF (bw O λhc qc B=>?_);refine aF (ek (aZ ?_));refine aF (aF (cq ?_))
 refine aF (F.item _ _ _ k n y _ (F.ě _ _ _ h2 λo e=>B.extBut _ _ D.TOi2.symm (u.extBut _ _ D.i12.symm (sa.extBut _ _ D.i2z e)))
  (F.srcAt _ _ _ tf λo e=>B.extBut _ _ D.l2TO (u.extBut _ _ D.l2i1 (sa.extBut _ _ D.l2z e))) hy λhd X M=>aZ ?_)
 have R:=M.extBut _ _ D.TOi2 qc;refine aF (o1 R eH ?_);refine aF (bw R λG h N=>?_)
 replace h:IsPair G TO x y:=h
 refine aF (ek (aZ (aZ ?_)));refine aF (o1 h eH ?_);refine aF (wpAny_newTuple ?_);have H:dl G.objs=dl s.heap.objs:=by rw[N.1,M.1,B.1,u.1,sa.1]
 have K:=N.extBut _ _ D.TOz.symm (M.extBut _ _ D.i2z.symm (B.extBut _ _ D.TOz.symm (u.extBut _ _ D.i1z.symm ur)))
 have ke:∀c o,c≠z->c≠TO->c≠j->c≠l->s.heap.get? c=wz o->G.get? c=wz o:=λc o c1 S T U e=>
  N.extBut _ _ S (M.extBut _ _ U (B.extBut _ _ S (u.extBut _ _ T (sa.extBut _ _ c1 e))))
 have t:=bG K;refine aF ?_;refine aF (o7 (aI _ K) dN λhg ut sg=>?_);let hi L si:=o7 ut dN;have up:∀c o,c≠z->G.get? c=wz o->hi.get? c=wz o:=λc o c1 e=>si.extBut _ _ c1 (sg.extBut _ _ c1 (aI _ e));have hT:=si.extBut _ _ (iF t) (sg.extBut _ _ (iF t) (bD _ eH));have J:dl hi.objs=dl G.objs+1:=by rw[si.1,sg.1,fR]
 rw[H]at L hT J;refine aZ #[Ϙ,02];rw[H];exact hQ hi L (up _ _ D.TOz h) (C.ě _ _ _ (C.ě _ _ _ W λo e=>N.extBut _ _ D.TOi1.symm (M.extBut _ _ D.i12 (B.extBut _ _ D.TOi1.symm e))) λo e=>up _ o D.i1z e) (F.ě _ _ _ (F.ě _ _ _ X λo e=>N.extBut _ _ D.TOi2.symm e) λo e=>up _ o D.i2z e) hT J λc o c1 S T U e=>up c o c1 (ke c o c1 S T U e)
def Y9{Q:Fin->ã->Prop}(hh:A.handled=wx)(I:sJ P w j p g d)(K:sJ P w l q i f)(D:fk z TI TO j l p q)(B:gl s.heap z TI TO o0)(M:IsPair s.heap TI (g8 j) (g8 l))(N:IsPair s.heap TO a b)
  (h1:g k s.heap) (h2:i k s.heap) (S:d m s.heap) (T:f n s.heap) (y:m[k]?=wx\/n[k]?=wx)
  (Y:∀L e,(∀c o,c≠z->c≠TO->c≠j->c≠l->s.heap.get? c=wz o->L.get? c=wz o)->(∃o,L.get? e=wz o/\o.cls=fx "StopIteration")->E (g8 e) { s with heap:=L }) :
  å (ä P w) A (av.«zip.__next__» #[[g8 z],[]]) Q E s:=by
 show å _ _ (field (g8 z) 2 >>= _) _ _ _;refine aF (g4 B eH eH ?_);refine aF (g4 B eH eH ?_);refine aF (o1 M eH ?_);refine aF ?_;refine aF (g4 B eH eH (aZ ?_));refine aF (u4 ?_);refine aF (g4 B eH eH ?_);refine aF (o7 B dN λha C sa=>?_);refine aF ?_;refine aF (aF (cq ?_));have X:=I.ě _ _ _ h1 λo e=>sa.extBut _ _ D.i1z e;have q1:=I.srcAt _ _ _ S λo e=>sa.extBut _ _ D.l1z e
 cases U:m[k]? with
 |none=>
  refine aF (I.ő _ _ _ k m _ hh X q1 U λhb e u O=>?_);let W r t:=Ê O;have F:=u _ _ D.i1z.symm C;have R:e≠z:=λx=>by subst x;rw[F]at r;cases r;simp at t
  refine o7 F dN λZ _ v=>Y Z e (λc o c1 _ J _ x=>v.extBut _ _ c1 (u _ _ J (sa.extBut _ _ c1 x))) #[W,v.extBut _ _ R r,t]
 |some x=>
  have hy:n[k]?=none:=by rcases y with h | h;rw[U]at h;cases h;exact h
  refine aF (I.item _ _ _ k m x _ X q1 U λhb wb u=>aZ ?_);have H:=u.extBut _ _ D.TOi1 (sa.extBut _ _ D.TOz N);refine aF (o1 H eH ?_);refine aF (bw H λZ qc v=>?_);refine aF (ek (aZ ?_));refine aF (aF (cq ?_))
  refine aF (K.ő _ _ _ k n _ hh (K.ě _ _ _ h2 λo e=>v.extBut _ _ D.TOi2.symm (u.extBut _ _ D.i12.symm (sa.extBut _ _ D.i2z e)))
   (K.srcAt _ _ _ T λo e=>v.extBut _ _ D.l2TO (u.extBut _ _ D.l2i1 (sa.extBut _ _ D.l2z e))) hy λhd e sd O=>?_)
  let W r t:=Ê O;have G:=sd _ _ D.i2z.symm (v.extBut _ _ D.TOz.symm (u.extBut _ _ D.i1z.symm C));refine o7 G dN λhf _ sf=>Y hf e (λc o c1 c2 J c4 x=>sf.extBut _ _ c1 (sd _ _ c4 (v.extBut _ _ c2 (u.extBut _ _ J (sa.extBut _ _ c1 x))))) #[W,sf.extBut _ _ (λx=>by subst x;rw[G]at r;cases r;simp at t) r,t]
def ZB{Q:Option á->ã->Prop}(K:sJ P w j p g d)(L:sJ P w l q i f)(D:fk z TI TO j l p q)(B:gl s.heap z TI TO o0)(h:IsPair s.heap TI (g8 j) (g8 l))(r:IsPair s.heap TO a b)
  (M:g k s.heap) (N:i k s.heap) (t:d m s.heap) (u:f n s.heap) (R:m[k]?=wz x) (S:n[k]?=wz y)
  (O:∀e,gl e z TI TO (v4 s.heap.objs.size)->IsPair e TO x y->g (k+1) e->i (k+1) e->IsPair e s.heap.objs.size x y->dl e.objs=dl s.heap.objs+1 ->
   (∀c o,c≠z->c≠TO->c≠j->c≠l->s.heap.get? c=wz o->e.get? c=wz o)->Q (wz (g8 s.heap.objs.size)) { s with heap:=e }):å (ä P w) A (je (g8 z)) Q E s:=by
 have v:s.TypeIs (g8 z) "zip":=#[Ϙ,_,B,1]
 exact aF (gg (k9 v ar (mW ar v F.entry_zip_next
  (ZC K L D B h r M N t u R S λe C a2 G a4 H I J=>aZ (O e C a2 G a4 H I J)) (ip _))))
def aFe{Q:Option á->ã->Prop}(M:A.handled=wx)(C:sJ P w j p g d)(G:sJ P w l q i f)(D:fk z TI TO j l p q)(B:gl s.heap z TI TO o0)(t:IsPair s.heap TI (g8 j) (g8 l))(u:IsPair s.heap TO a b)
  (H:g k s.heap) (I:i k s.heap) (v:d m s.heap) (x:f n s.heap) (h:m[k]?=wx\/n[k]?=wx)
  (J:∀r,(∀c o,c≠z->c≠TO->c≠j->c≠l->s.heap.get? c=wz o->r.get? c=wz o)->Q wx { s with heap:=r }):å (ä P w) A (je (g8 z)) Q E s:=by
 have y:s.TypeIs (g8 z) "zip":=#[Ϙ,_,B,1];refine aF (gg (k9 y ar (mW ar y F.entry_zip_next (Y9 M C G D B t u H I v x h λr e N L=>?_) (ip _))));refine Ê L λo O K=>aF (wpAny_isInstance #[Ϙ,o,O,K] isSubtype_stop ?_);exact aZ (J _ N)
end
section
variable{X:Cx}{a:Ž}{f:St}{H:Hp}{s:ã}{d:ç}
def dS.turnedL{B:Nat}{i:List à}(I:dS X a f H s)(j:∀b∈i,EL X a H b)(k:∀b o,b∉i->s.heap.get? b=wz o->d.get? b=wz o):dS X a f H { s with heap:=d,toks:=B }:=by
 have h:∀b u,H b=wz u->b∉i:=λb u e z=>by rw[(j b z).1]at e;cases e
 refine I.step (λb hb=>?_) (λb o _ _ g e _=>k b o g e) (λb o _ _ g e _=>#[o.slots,k b o g e]) (λ_ _ _ _ n=>n)
  (λb o g e=>#[o,k b o g e]) (λ_ _ e=>e) (λ_ _ _ e=>e) (λb E e=>#[(Ŭ []),by rw[e];simp]) (λm y=>?_) (λb u e=>?_) I.ŕ
 .exact Û (j b hb) λC f1 f2 t w x=>#[t,f1,w,x]
 .exact Ñ y λo p l A r=>#[ϟ,o,p,l,k _ o (λz=>(j _ z).2.1 eH) A,r]
 .refine(I.gs b u e).Ĥ (λc v g q=>k c v ?_ q) (λ_ q=>q) λ_ _ q=>q;rcases g with z | z
  .rw[z];exact h b u e
  .exact h c _ z
def dS.turnedNew{F:Nat}{i:List à}{T:à}{o:HO}(I:dS X a f H s)(j:∀b∈i,EL X a H b)(k:∀b u,b∉i->s.heap.get? b=wz u->d.get? b=wz u)(p:dl s.heap.objs<=T)(new:lI X.prog X.w (fU H T o) d T o) :
  dS X a f (fU H T o) { s with heap:=d,toks:=F }:=by
 have h:∀b u,H b=wz u->b∉i:=λb u e z=>by rw[(j b z).1]at e;cases e
 have ne:∀b u,H b=wz u->(fU H T o) b=wz u:=λb u e=>by rw[cC (fD e (I.gs.fresh p))];exact e
 have l:∀b u,s.heap.get? b=wz u->b≠T:=λb u e z=>by
  exact c9 (bX (bG e) p) (by rw[z];exact fK _)
 refine I.step (λb hb=>?_) (λb o _ _ g e _=>k b o g e) (λb o _ _ g e _=>#[o.slots,k b o g e]) (λb u _ e n=>by rw[cC (l b u e)];exact n)
  (λb o g e=>#[o,k b o g e]) (λb G e=>ne _ _ e) (λb u v e=>ne _ _ e) (λb K e=>#[(Ŭ []),by rw[ne _ _ e];simp]) (λm C=>?_) (λb u e=>?_) I.ŕ
 .exact Û (j b hb) λJ f1 f2 y A B=>#[y,f1,A,B]
 .exact Ñ C λo x t E r=>#[ϟ,o,x,t,k _ o (λz=>(j _ z).2.1 eH) E,r]
 .by_cases hb:b=T
  .subst hb;rw[cL]at e;cases e;exact new
  .rw[cC hb]at e;refine(I.gs b u e).Ĥ (λc v g q=>k c v ?_ q) (λc q=>ne _ _ q) (λc G q=>ne _ _ q) λc ob v q=>ne _ _ q;rcases g with z | z
   .rw[z];exact h b u e
   .exact h c _ z
end
def Ma(c d:Hp->List V->Prop):It:=
 #[λi H=>∃a b x y,c H a/\d H b/\a[i]?=wz x/\b[i]?=wz y,
  λi H v e=>∃p x y,H p=wx/\v=.ref p/\e=fU H p (.ņ [x,y])/\(∀a,c H a->a[i]?=wz x)/\∀b,d H b->b[i]?=wz y,
  λi H=>∃a b,c H a/\d H b/\(iN a<=i\/iN b<=i)]
structure Src(P:dF)(w:g6)(K:aH)(S:Hp->List V->Prop)(src:Array á->ç->Prop):Prop where
 Ŗ:∀(X:Cx),X.prog=P->X.w=w->X.K=K->∀{pins:Ž}{σ:St}{H:Hp}{s:ã}{xs:List V},dS X pins σ H s->S H xs->∃dq:List á,fX xs dq/\src dq.toArray s.heap
 inj:∀(X:Cx),X.prog=P->X.w=w->X.K=K->∀{pins:Ž}{σ:St}{H:Hp}{s:ã}{xs ys:List V},dS X pins σ H s->S H xs->S H ys->xs=ys
def T8{K}(a:à):Src P w K (λH xs=>tV K H a xs) (λdq h=>h.IsTuple a dq) where
 Ŗ:=λX hP hw hK _ _ _ _ _ I h=>by subst hK;exact Õ (I.tuple h) λdq r p _=>#[dq,r,p]
 inj:=λX hP hw hK _ _ _ _ _ _ I h h'=>by subst hK;exact I.tuple_inj h h'
theorem ZL{P:dF}{w:g6}{K:aH}{bo:List æ}{x1:Nat}{pos:Pos}{z TI TO i1 i2 l1 l2:à}{pz ka:Nat->ç->Prop}{lq lx:Array á->ç->Prop}{S1 S2:Hp->List V->Prop}
  (d1:sJ P w i1 l1 pz lq) (d2:sJ P w i2 l2 ka lx) (e1:Src P w K S1 lq) (e2:Src P w K S2 lx) (D:fk z TI TO i1 i2 l1 l2) :
  P6 P w K (.Tuple bo x1 pos) (Ma S1 S2) [z,TI,TO,i1,i2] z (λi h=>gl h z TI TO o0/\IsPair h TI (g8 i1) (g8 i2)/\(∃a b,IsPair h TO a b)/\pz i h/\ka i h) where
 mem:=by simp
 obj:=λi h st b hb=>by
  obtain⟨hz,ik,⟨a,c,iu⟩,h1,h2⟩:=st;simp only[aN,cZ,j4]at hb;rcases hb with rfl | rfl | rfl | rfl | rfl
  .exact#[Ϙ,_,hz,λv q=>by cases q]
  .exact#[Ϙ,_,ik,λv q=>by cases q]
  .exact#[Ϙ,_,iu,λv q=>by cases q]
  .exact d1.has i h h1
  .exact d2.has i h h2
 keep:=λi h h' st k=>by
  obtain⟨hz,ik,⟨a,b,iu⟩,h1,h2⟩:=st;exact#[k z dN _ hz,k TI dN _ ik,#[a,b,k TO dN _ iu],d1.ě _ _ _ h1 λo e=>k i1 dN o e,d2.ě _ _ _ h2 λo e=>k i2 dN o e]
 item:=by
  intro X hP hw hK hc i pins s σ H E I hf st hg;obtain⟨hz,ik,⟨a,b,iu⟩,h1,h2⟩:=st;refine Ò hg λxs ys x y s1 t=>í t λs2 hx hy=>Ê (e1.Ŗ X hP hw hK I s1) λus r1 q1=>Ê (e2.Ŗ X hP hw hK I s2) λvs r2 q2=>Ê (r1.get hx) λu hu ru=>Ê (r2.get hy) λv hv rv=>ZB d1 d2 D hz ik iu h1 h2 q1 q2 (Á hu) (Á hv) λh' a1 a2 a3 a4 a5 a6 a7=>#[Ϙ,02];let ja uq sb:=wpAny_letOwnedTupleGo_zip a1;have neT:∀c o,s.heap.get? c=wz o->c≠dl s.heap.objs:=λc o e=>cO (bG e)
  have kk:∀c o,c∉[z,TI,TO,i1,i2]->s.heap.get? c=wz o->ja.get? c=wz o:=λc o au e=>by
   simp only[aN,cZ,j4,not_or]at au;exact sb.extBut _ _ au.1 (a7 c o au.1 au.2.2.1 au.2.2.2.1 au.2.2.2.2 e)
  have hT:=sb.extBut _ _ (iF (bG hz)) a5;have I1:dS X pins σ (fU H s.heap.objs.size (.ņ [x,y])) { s with heap:=ja }:=I.turnedNew hf kk (aL _) #[(by show 2<=bM;decide),[u,v],Cl ru (Cl rv tj),#[_,hT,101]];refine#[ϝ,.ref s.heap.objs.size,_,I1,1,#[Ϣ,_,x,y,I.gs.fresh (aL _),7,λya h'=>by rw[e1.inj X hP hw hK I h' s1];exact hx,λyb h'=>by rw[e2.inj X hP hw hK I h' s2];exact hy],2,λc au=>?_]
  .exact#[uq,sb.extBut _ _ D.TIz (a7 _ _ D.TIz D.TITO D.TIi1 D.TIi2 ik),#[3,sb.extBut _ _ D.TOz a2],d1.ě _ _ _ a3 λo e=>sb.extBut _ _ D.i1z e,d2.ě _ _ _ a4 λo e=>sb.extBut _ _ D.i2z e]
  .have gc:c≠dl s.heap.objs:=by
    simp only[aN,cZ,j4]at au;rcases au with rfl | rfl | rfl | rfl | rfl
    .exact neT _ _ hz
    .exact neT _ _ ik
    .exact neT _ _ iu
    .exact Ê (d1.has _ _ h1) λo e _=>neT _ _ e
    .exact Ê (d2.has _ _ h2) λo e _=>neT _ _ e
   rw[cC gc];exact(hf c au).1
 done:=by
  intro X hP hw hK hc i pins s σ H E I hf st hg;obtain⟨hz,ik,⟨a,b,iu⟩,h1,h2⟩:=st;refine Ø hg λxs ys s1 s2 lj=>Ê (e1.Ŗ X hP hw hK I s1) λus r1 q1=>Ê (e2.Ŗ X hP hw hK I s2) λvs r2 q2=>?_;have n1:=r1.length;have n2:=r2.length;refine aFe (I.ok.hd hc) d1 d2 D hz ik iu h1 h2 q1 q2 ?_ λh' a7=>#[1,I.turnedL hf λc o au e=>?_]
  .rcases lj with q | q
   .exact j3 (pM (by rw[bP];lia))
   .exact i7 (pM (by rw[bP];lia))
  .simp only[aN,cZ,j4,not_or]at au;exact a7 c o au.1 au.2.2.1 au.2.2.2.1 au.2.2.2.2 e
 self:=λA i s Q E st h=>wpAny_pyIter_zip st.1 h
abbrev zt(c1:String)(h:ç)(a:à):Heap:=h.push { cls:=.type c1,data:=.fields (Ŭ [.ref a,.int 0 0]) }
abbrev zr(c1 a:String)(h:ç)(b c:à):Heap:=(zt c1 h b).push { cls:=.type a,data:=.fields (Ŭ [.ref c,.int 0 0]) }
abbrev zp(c1 b:String)(h:ç)(a c:à):Heap:=(zr c1 b h a c).push { cls:=.type "tuple",data:=.seq (Ŭ [.ref h.objs.size,.ref (zt c1 h a).objs.size]) }
abbrev zo(c1 a:String)(h:ç)(b c:à):Heap:=(zp c1 a h b c).push { cls:=.type "tuple",data:=.seq (Ŭ [.none,.none]) }
abbrev yo(c1 a:String)(h:ç)(b c:à):Heap:=(zo c1 a h b c).push { cls:=.type "zip",data:=.fields (Ŭ [.none,.bool wv,.bool wv,.ref (zr c1 a h b c).objs.size,.ref (zp c1 a h b c).objs.size]) }
def QR(a b:à)(m j:Array á) :
  Meets (av.«zip.__new__» #[[fx "zip",g8 a,g8 b],[]]) (λ_ R s=>s.heap.IsTuple a m/\s.heap.IsTuple b j /\
   R (.ok (.ret (g8 (zo "tuple_iterator" "tuple_iterator" s.heap a b).objs.size))) { s with heap:=yo "tuple_iterator" "tuple_iterator" s.heap a b }):=
 .of_wp λprog w A R s h=>by
  obtain⟨k,g,d,l,os⟩:=s;let e f h:=í h;have i:=sub_zip;have c:aPi (Shared.heap #[k.push { cls:=fx "tuple_iterator",data:=Id (Ŭ [g8 a,u7 0 0]) },g,d,l,os]) b j:=aPi.push f _
  wp_walk using cw e,cw c
  exact#[Ϙ,0,h]
def P1{P:dF}{w:g6}{A:g3}{E:á->ã->Prop}{s:ã}{a b:à}{Q:á->ã->Prop}(f:s.heap.IsTuple a xs)(g:s.heap.IsTuple b ys)
  (h:∀d,gl d (dl s.heap.objs+4) (dl s.heap.objs+2) (dl s.heap.objs+3) o0->IsPair d (dl s.heap.objs+2) (g8 s.heap.objs.size) (g8 (dl s.heap.objs+1)) ->
   IsPair d (dl s.heap.objs+3) o0 o0->d.IsTupleIter s.heap.objs.size a 0->d.IsTupleIter (dl s.heap.objs+1) b 0 ->
   (∀c o,s.heap.get? c=wz o->d.get? c=wz o)->Q (g8 (dl s.heap.objs+4)) { s with heap:=d }) :
  å (ä P w) A (call (fx "zip") [g8 a,g8 b]) Q E s:=by
 refine callType_new F.called_zip cS (F.typeCall_zip_2 _ _) (F.newCall_zip_2 _ _) (λobj=>F.args_object_init_3 obj _ _) F.entry_zip_new (QR a b xs ys) #[f,g,2];have n1:(zt "tuple_iterator" s.heap a).objs.size=dl s.heap.objs+1:=fR ..;have i:(zr "tuple_iterator" "tuple_iterator" s.heap a b).objs.size=dl s.heap.objs+2:=by rw[fR,n1]
 have n3:(zp "tuple_iterator" "tuple_iterator" s.heap a b).objs.size=dl s.heap.objs+3:=by rw[fR,i]
 have m:(zo "tuple_iterator" "tuple_iterator" s.heap a b).objs.size=dl s.heap.objs+4:=by rw[fR,n3]
 have e:(yo "tuple_iterator" "tuple_iterator" s.heap a b).get? (zo "tuple_iterator" "tuple_iterator" s.heap a b).objs.size=wz _:=bD _ eH;have l:(yo "tuple_iterator" "tuple_iterator" s.heap a b).get? (zp "tuple_iterator" "tuple_iterator" s.heap a b).objs.size=wz _:=aI _ (bD _ eH);have k:(yo "tuple_iterator" "tuple_iterator" s.heap a b).get? (zr "tuple_iterator" "tuple_iterator" s.heap a b).objs.size=wz _:=aI _ (aI _ (bD _ eH));have j:(yo "tuple_iterator" "tuple_iterator" s.heap a b).get? (zt "tuple_iterator" s.heap a).objs.size=wz _:=aI _ (aI _ (aI _ (bD _ eH)));rw[i,n3,m]at e;rw[n1,i]at k;rw[n3]at l;rw[n1]at j;rw[m];exact#[#[Ϙ,_,e,1],h _ e k l #[ϙ,_,(aI _ (aI _ (aI _ (aI _ (bD _ eH))))),7] #[ϙ,_,j,7] λc o x=>aI _ (aI _ (aI _ (aI _ (aI _ x))))]
theorem aD8:f6 "zip"=wz (fx "zip"):=cR
def Fa(K:aH)(e:TA):TI:=λg H R=>e g H λvs b=>∃c d a f,vs=[.ref c,.ref d]/\tV K b c a/\tV K b d f/\R (Ma (λH a=>tV K H c a) λH a=>tV K H d a) b
def Lc{X:Cx}{Q:Nat}(C:Gl X "zip")(F:X.mg "zip"=wx)(B:PA X [a,b] ta)(G:bR [a,b] X.ak=[(wv,è a X.ak),(wv,è b X.ak)]|>ũ)(f:bR [b] X.ak=[(wv,è b X.ak)]|>ũ) :
  PI X (.Tuple bo Q tpos) (ă (KK "zip" p) [a,b] [] pos) (Fa X.K ta):=by
 intro g s T H R I h;refine Call_ (AH I C F aD8 (m9 (kN (B pos g s T H _ I h) λW d S=>?_) (by rw[G,f]) (by rw[f];rfl)));refine Ø S λvs A e N q1=>Ò q1 λo t Y Z V ψ=>í ψ λm n q=>?_;subst V
 cases N with
 |cons r u=>
  cases u with
  |cons M u=>
   cases u;cases r;cases M;refine Õ (e.tuple m) λv O p1 J=>Õ (e.tuple n) λw P z L=>P1 (show d.heap.IsTuple o (aPe v) from p1) (show d.heap.IsTuple t (aPe w) from z) λU y i j k l E=>wpAny_pyIter_zip y ?_;refine#[ϥ,_,[dl d.heap.objs+4,dl d.heap.objs+2,dl d.heap.objs+3,dl d.heap.objs,dl d.heap.objs+1],3,A,1,e.œ E,ZL (KY _ o) (KY _ t) (T8 o) (T8 t) (zipApart_new p1.lt z.lt),#[y,i,#[3,j],k,l],λc x=>?_,q];simp only[aN,cZ,j4]at x;have le:dl d.heap.objs<=c:=by rcases x with rfl | rfl | rfl | rfl | rfl<;>first | exact aL _ | exact aI5 _ _
   exact e.fpOk le (e.gs.fresh le)
end L2
namespace TL
open L2
variable{K:aH}
def AR(a bs:List D):List D:=(a.zip bs).map λp=>cN [p.1,p.2]
def AQ(a bs:List D):iN (AR a bs)=min (iN a) (iN bs):=by unfold AR;simp
def N0{bs}{i:Nat}(h:(AR as bs)[i]?=wz x):∃a b,as[i]?=wz a/\bs[i]?=wz b/\x=cN [a,b]:=by
 unfold AR at h;rw[aK]at h
 cases e:(as.zip bs)[i]? with
 |none=>rw[e]at h;cases h
 |some p=>
  rw[e]at h;exact Ì (gU.mp e) λc d=>#[ϛ,p.1,p.2,c,d,(d7 h).symm]
def Qv(t:AT):IT:=λc Q=>t c λb=>∃a bs,b=[cN a,cN bs]/\Q (AR a bs)
theorem Kg{X:Cx}{a b:æ}{m:Nat}(w:yU X [a,b] t)(I:∀{ta},PA X [a,b] ta->PI X (.Tuple bo m tpos) (ă (KK "zip" p) [a,b] [] p') (Fa X.K ta)):V2 X (.Tuple bo m tpos) (ă (KK "zip" p) [a,b] [] p') (Qv t):=Ê w λva E N=>by
 refine#[Ϙ,_,I E,λB C H F f T Q R o h k=>N B C H F f T _ _ o h λY xs n O d q1=>?_];let W bs V q:=Ö q1;subst V
 cases d with
 |cons d J=>
  cases J with
  |cons L M=>
   cases M
   cases d with
   |@tuple p1 us _ gw rs1=>
    cases L with
    |@tuple p2 vs _ hq2 rs2=>
     have n1:=rs1.length;have Z:=rs2.length;refine#[p1,p2,us,vs,1,bJ.Ő cH gw,bJ.Ő cH hq2,k _ _ n O #[λi H e c=>?_,λi H e c=>?_,λi H G y U bu e c A=>?_] q]
     .rw[AQ]at c;exact#[ϛ,us,vs,bJ.Ő e gw,bJ.Ő e hq2,6]
     .rw[AQ]at c;exact#[us,vs,us[i],vs[i],bJ.Ő e gw,bJ.Ő e hq2,aC ŋ,aC ŋ]
     .refine Ñ A λp x y' l ψ=>î y ψ λχ=>î U χ λφ=>Ì φ λu v=>Ê (rs1.get' (u us (bJ.Ő (e.trans cH) gw))) λg r P=>Ê (rs2.get' (v vs (bJ.Ő (e.trans cH) hq2))) λj s S=>#[dZ l,cN [g,j],2,vE bu l (.cons (P.same e) (.cons (S.same e) .nil))];unfold AR;rw[aK,(gU (z:=(g,j))).mpr #[r,s]];rfl
section
variable{g:ż}{ti:IT}{i:ET}{e:List Sl}{Q:D->Prop}{ts:List D}
def CU{f:Type}(l:List f)(a b c d:f):(((l.set 0 a).set 1 b).set 0 c).set 1 d=(l.set 0 c).set 1 d:=by
 match l with
 |[]=>rfl
 |[_]=>rfl
 |_::_::_=>rfl
def BI(j:vR ti e ts)(f:D->D)(s:iN ts<=100000)(o:∀x∈ts,∃a b,x=cN [a,b])(r:∀a b q,cN [a,b]∈ts->q (f (cN [a,b]))->i (((kX g e).set 0 (.val a)).set 1 (.val b)) q)(p:Q (eE (ts.map f))):YS g ti (gP 0 1) D8 i e Q:=by
 refine j _ #[s,λk c d=>(∀x y,(c.set 0 (.val x)).set 1 (.val y)=((kX g e).set 0 (.val x)).set 1 (.val y))/\d=(ts.take k).map f,#[λ_ _=>rfl,1],λk x c d m h=>?_,λc d h=>?_]
 .refine ñ d h λn=>?_;have l:=aU m;let a b z:=Ç (o x l);subst z;refine#[Ϛ,a,b,12];rw[n a b];refine r a b _ l #[λx y=>CU _ _ _ _ _,2];rw[cE,m,bA];rfl
 .refine ñ d h λ_=>?_;rw[cK];exact p
end
end TL
namespace L2
open PySem.SeqAt
open AutoSeq1 (wpAny_loadPart')
theorem IL(l:à)(a:Array á)(n:Nat)(v:Option à)(I:Array (Option á))(x:á)(e:á->Bool)(j:Nat)(K:j<dl a)(r:e a[j]=ww)(t:∀m L,m<j->e a[m]=wv) :
  Meets (av.«tuple.index» #[[g8 l,x],[]])
   (λA R s=>s.heap.get? l=wz { cls:=fx "tuple",dict:=v,data:=Fr a n,slots:=I }/\(∀y,y∈a->EqAt A.in1 s y x (e y))/\R (.ok (.ret (u7 j s.toks))) { s with toks:=s.toks+1 }):=by
 intro prog w A R s h;obtain⟨H,g,d,J,os⟩:=s;let G C h:=í h;unfold av.«tuple.index»;simp only[Std.Legacy.Range.forIn_eq_forIn_range']
 wp_walk using eu G
 have B:([:min a.size a.size]:Std.Legacy.Range).size=dl a:=by simp[Std.Legacy.Range.size]
 rw[B];refine wpAny_forIn_list _ (λjU b u=>b=(wx,())/\u=#[H,g,d,J,os]/\∃k,jU=V9 k (dl a-k)/\k<=j) _ (λi jU b u p=>?_) (λb u p=>?_) _ _ #[7,(0),dN,bZ _]
 .refine î b p λψ=>î u ψ λχ=>Ê χ λk o F=>?_;have c:k<dl a:=by exact tU ‹_› ‹_›
  have z:dl a-k=(dl a-(k+1))+1:=by grind
  rw[z,aFb]at o;let Z Y:=Ì (n7 o);subst Z Y;have E:a[i]?=wz a[i]:=by simp[c]
  rw[E];refine aF (C _ (Array.getElem_mem c) prog w _ _ ?_);by_cases q:i=j
  .subst q;rw[r,b8 rfl]
   wp_walk
   exact h
  .have f:i<j:=by lia
   rw[t i c f,a9 cS];exact aZ #[7,i+1,1,f]
 .refine Ð p λ_ _ k o F=>?_;have:=d9 iN o;simp at this;grind
end L2
namespace TL
open L2 PySem.SeqAt
section
variable{X:Cx}{e:æ}{a:List æ}{b c:ET}{pos:Pos}
def RN(f:List D)(d:D)(j:Nat):Prop:=dH f=ww/\d.canLay0=ww/\min (fH f) d.depth<=60/\(∃t,f[j]?=wz t/\dG t d=ww)/\∀m t,m<j->f[m]?=wz t->dG t d=wv
def RA(K:aH):V->ű:=λx g H Q=>∃y f d j,g=[y]/\iM K H (cN f) x/\iM K H d y/\RN f d j/\Q (.int j) H
theorem XA(P:X.A.units+200<x8):S5 X "tuple.index" (RA X.K):=by
 intro G s σ H x xs v us Q I Z Y h;obtain⟨y,g,d,j,rfl,T,U,⟨c1,z,k,⟨t,E,N⟩,r⟩,q⟩:=h;refine Þ us Y.one λu W=>Ë (iM.Ļ I (show(cN g).hasDict=wv from u0 c1) T Z) λas L=>Ë (iM.Ļ I (qR z) U W) λbs M=>?_
 cases L with
 |@tuple l o Ś n _ as' h3 h4 h5 h6=>
  have f:=gy g (aO6 Ś) _ c1 h6;have C:dl Ś=iN g:=by rw[<- f,aB,eY]
  have O:=(aD.mp E).1;have B:j<dl Ś:=by lia
  have J:∀(m:Nat)(k:m<dl Ś),g[m]?=wz (gx s.heap Ś[m]):=λm k=>by
   rw[<- f,aK];simp[k]
  obtain⟨oc,R,S,w⟩:=o;cases h4;cases h5;refine t5 F.slot_tuple_index #[_,h3,1] F.entry_tuple_index (F.args_tuple_index_2 _ _) (IL _ Ś _ R w u (λy=>dG (gx s.heap y) d) j B ?_ ?_) #[h3,jb h6 M c1 z (by have:=P;lia),2]
  .have:=J j B;rw[E]at this;rw[<- d7 this];exact N
  .intro m p i;exact r m _ i (J m p)
  .exact#[ϛ,.int j,H,I.Ĭ _,#[0],q]
theorem BG{k:Nat}(d:iL k X.A):S5 X "tuple.index" (RA X.K):=XA (by have:=d.un;lia)
def aOl(b:ET)(t:AT):ET:=λg Q=>b g λd=>∃f,d=cN f/\t g λh=>∃x j,h=[x]/\RN f x j/\Q (aW j)
def BV(y:eX X n b)(w:yU X (e::a) t)
  (A:∀{v c},PE X n v->PA X (e::a) c->PE X (ă (ą n "index" ap) (e::a) [] pos) (WG X.K "tuple" (RA X.K) v c)):eX X (ă (ą n "index" ap) (e::a) [] pos) (aOl b t):=Ê y λv C re=>Ê w λO z J=>by
 refine#[Ϙ,_,A C z,λB g H i f r Q M o h k=>re B g H i f r _ _ o h λd x s l E q1=>?_];obtain⟨L,rfl,q1⟩:=q1
 cases E with
 |@tuple p xs _ hq rs=>
  refine#[i7 (j3 #[1,i7 #[_,bJ.Ő cH hq]]),J B g s i f r _ _ (o.fz l) q1 λN P u m F q2=>?_];let d j Z gs q:=Ø q2;subst Z
  cases F with
  |cons G I=>
   cases I;exact#[ϣ,_,L,d,j,1,(iM.tuple hq rs).same ((bU m).trans cH),G.same cH,gs,k _ _ u (l.trans m) (.int _) q]
theorem gq.rep{K}(r:gq K H ds vs):∀n,gq K H (dW n ds).flatten (dW n vs).flatten
|0=>.nil
|n+1=>by
 rw[kI,kI,jY,jY];exact r.append (gq.rep r n)
end
section
variable{K:aH}{H a:Hp}{B:Hp}{g c:List à}{f:List Sl}{j:L2.St}
def Hr:D->Bool
|ES=>ww
|QM _=>ww
|aW _=>ww
|aG _=>ww
|_=>wv
def iM.flat{v}(r:iM K H d v)(h:Hr d=ww):iM K a d v:=by
 cases r with
 |none=>exact .none
 |bool b=>exact .bool b
 |int i=>exact .int i
 |str x=>exact .str x
 |_=>cases h
def without(H:Hp)(p:à):Hp:=λb=>if b=p then wx else H b
def AW{p:à}:ê (without H p) c=ê H (p::c):=by
 funext b;unfold ê without;by_cases d:b=p
 .simp[d]
 .by_cases e:b∈c<;>simp[d,e]
def vB{p:à}(s:bJ H a)(d:H p=wx):bJ H (without a p):=λb o e=>by
 unfold without;rw[a9 λz=>by rw[z,d]at e;cases e];exact s b o e
def DP{p:à}(d:H p=wz u):fU (without H p) p u=H:=by
 funext b;by_cases h:b=p
 .subst h;rw[cL,d]
 .rw[cC h];unfold without;rw[a9 h]
def bJ.ŗ(s:bJ H a){p:à}(h:a p=wx):H p=none:=by
 cases q:H p with
 |none=>rfl
 |some u=>rw[s p u q]at h;cases h
def Ok.takeOwn(o:Ok K B g H c f j){i:Nat}{p:à}(s:bJ H a)(d:H p=wx)(e:a p=wz (.u8 xs))(r:gq K (ê a (p::c)) ts xs) :
  Ok K B g a (p::c) (f.set i (.own ts)) (j.set i (wz (.ref p))):=by
 have b:without a p p=none:=by unfold without;rw[b8 rfl]
 have:=(o.fz (vB s d)).setOwn (i:=i) b (by rw[AW];exact r)
 rwa [DP e]at this
end
section
variable{X:Cx}{a b c e:æ}{G:List æ}{C u l:ET}{pos:Pos}
def aIs(i:Nat)(t:yT):yT:=λf Q=>∃d,f[i]?=wz (.own d)/\t (f.set i (.val (eE d))) Q
def WF(i:Nat)(h:LB X e t):LB X e (aIs i t):=Ê h λv p r=>by refine#[Ϙ,_,p,λB g H q m j Q n o h k=>?_];exact Ê h λw e h=>Ê (o.share e) λd f s=>r B g H d _ j _ _ f h k
abbrev FT:=List Sl->(List D->Prop)->Prop
def X8(X:Cx)(e:æ)(t:FT):Prop:=∃l,PE X e l/\∀B m H h d k Q g,Ok X.K B m H h d k->t d Q ->
 (∀i p j f,bJ H f->H p=wx->f p=wz (.u8 j)->gq X.K (ê f (p::h)) i j->Q i->g (.ref p) f)->l k H g
def Nh(t:FT):ET:=λf Q=>t f λd=>Q (eE d)
def wC(h:X8 X e t):eX X e (Nh t):=Ê h λv p r=>by refine#[Ϙ,_,p,λB m H n d x Q y o h k=>r B m H n d x _ _ o h λz p A f s g j w q=>k _ _ f s ?_ q];exact .list (qE.of (nB (iS o.bu g) j)) (w.same (iO λq i=>aE _ i))
def No(t:AT):FT:=λf Q=>t f λd=>iN d<=1000/\Q d
def aN2(h:yU X G t):X8 X (.List G pos) (No t):=Ê h λv p r=>by refine#[Ϙ,_,RI p,λB m H n f w Q y o h k=>r B m H n f w _ _ o h λj s x i g q1=>#[yL (by rw[<- g.length];exact q1.1),λq d=>?_]];exact k j q s _ (i.trans (dZ d)) (bJ.ŗ i d) cL (by rw[nN d];exact g) q1.2
def Hn(C u:ET):FT:=λf Q=>C f λx=>u f λy=>∃d bs,x=eE d/\y=eE bs/\iN d+iN bs<=100000/\Q (d++bs)
def aN3(z:eX X a C)(hb:eX X b u):X8 X (.BinOp a .Add b pos) (Hn C u):=Ê z λS E K=>Ê hb λT F L=>by
 refine#[Ϙ,_,OJ UP E F,λB j H m d s Q N o h k=>K B j H m d s _ _ o h λP x t i I q1=>?_];let R y M f J q2:=L B j t m d s _ _ (o.fz i) q1;let O bs l e A q:=Ý q2;subst l e
 cases I with
 |list v n=>
  cases J with
  |list w r=>
   refine#[Ϥ,337,L2.bJ.seq ((bU f).trans cH) v,L2.bJ.seq cH w,DZ (by rw[<- n.length,<- r.length];exact A),λp g=>?_];exact k _ p _ _ ((i.trans f).trans (dZ g)) (bJ.ŗ (i.trans f) g) cL (by rw[nN g];exact(n.same (bU f)).append r) q
def Aa(m:ż)(n:IT)(g:GT)(o:yT)(l:ET):FT:=λj Q=>n j λi=>iN i<=100000/\∃P:Nat->List Sl->List D->Prop,P 0 (kX m j) [] /\
 (∀k x d h,i[k]?=wz x->P k d h->g x d λf=>o f λb=>if b=ww then l f λy=>P (k+1) f (h++[y])else P (k+1) f h)/\∀d h,P (iN i) d h->Q h
def On(Q:List D->Prop)(d:D):Prop:=match d with | eE ds=>Q ds | _=>False
def Ka{l}{Q:List D->Prop}(h:YS fr ti g tt l σ (On Q)):Aa fr ti g tt l σ Q:=h
def aHm{js l}(I:V2 X tg js ti)
  (F:∀b,P7 (w6 X scope N' b) tg g/\HW (w6 X scope N' b) ifs tt/\eX (w6 X scope N' b) elt l) {M:(TE)->Prop}
  (ő:∀{A}{s:BP->TG}{z:BP->TT}{y:BP->TE},PI X tg js A->(∀b,PG (w6 X scope N' b) tg (s b)/\S3 (w6 X scope N' b) ifs (z b)/\PE (w6 X scope N' b) elt (y b))->M (ZQ fr A s z y)) :
  ∃v,M v/\∀B t H i d m Q n,Ok X.K B t H i d m->Aa fr ti g tt l d Q ->
   (∀x p j f,bJ H f->H p=wx->f p=wz (.u8 j)->gq X.K (ê f (p::i)) x j->Q x->n (.ref p) f)->v m H n:=Ê I λA O P=>Ñ (R8 fr F) λs z y p r=>#[Ϙ,_,ő O p,λB t H i d m Q n o h k=>P B t H i d m _ _ o h λx J U w R q1=>r (o.fz w) R q1 λE p j f T L N S q=>k E p j f (w.trans T) (bJ.ŗ w L) N S q]
def Rs{js l}(j:V2 X tg js ti)
  (i:∀b,P7 (w6 X scope N' b) tg g/\HW (w6 X scope N' b) ifs tt/\eX (w6 X scope N' b) elt l)
  (k:∀{wi}{d:BP->TG}{h:BP->TT}{f:BP->TE},PI X tg js wi->(∀b,PG (w6 X scope N' b) tg (d b)/\S3 (w6 X scope N' b) ifs (h b)/\PE (w6 X scope N' b) elt (f b))->PE X (ĉ elt [#[tg,js,ifs,(0)]] scope pos) (ZQ fr wi d h f)) :
  X8 X (ĉ elt [#[tg,js,ifs,(0)]] scope pos) (Aa fr ti g tt l):=aHm j i k
abbrev QJ:=List D->(List D->Prop)->Prop
def jO(K:aH)(k:QJ):Sp:=λvs H Q _=>∃f h g,(∀p∈f,CK (H p))/\gq K (ê H f) h vs/\k h g /\
 ∀i p j d,bJ H d->H p=wx->d p=wz (.u8 j)->gq K (ê d (p::f)) i j->g i->Q (.ref p) d
def Ho(f:QJ)(t:AT):FT:=λg Q=>t g λd=>f d Q
def aH2{k:Nat}{f:à}{pn}(F:nG X.prog X.w X.K X.mg X.base rH k f fd pn (jO X.K sp))(U:X.mg x=wz (g8 f))(T:gZ X.K (g8 f)=ww)(hb:sO X.K fd pn [])
  (W:iL k X.A) (r:yU X (e::G) t) (I:∀{C},PA X (e::G) C->PE X (ă (KK x p) (e::G) [] pos) (JQ (jO X.K sp) [] E0 C)):X8 X (ă (KK x p) (e::G) [] pos) (Ho sp t):=Ê r λv E L=>by refine#[Ϙ,_,I E,λB z H j i P Q S o h k=>L B z H j i P _ _ o h λn Y R d J q1=>?_];rw[cG];exact#[ϡ,j,n,Q,(o.fz d).bu,J,q1,λO p g m N s y M q=>k O p g m (d.trans N) (bJ.ŗ d s) y M q]
def rB{K}{mg:â->Option á}{st}{f:à}{N pn:List â}{k:Nat}{o:QJ}(F:QK K x qual st f fd)(S:bL N pn (aQ st))
  (j:∀{i}{A:g3}{ag}{s:ã}{H E},iL k (A.deeper (j8 qual (aQ st) s.heap.objs.size f i))->aYv N->∀(g:List D)(Q:List D->Prop),o g Q ->
   ∃t,wG (tJ rH P w K mg base N qual (aQ st) f i A ag s H E).nox (mL st) t/\t { nx:=λ_=>False,rt:=λ_=>False,ro:=Q } (lF N g)) (len:(∀g Q,o g Q->iN g=iN pn)|>ş):nG P w K mg base rH (k+1) f fd pn (jO K o):=by
 let i A ag s H vs Q E B h:=F.ok S (λvs H Q E h=>?_)
 .refine ß h λn g m _ r q _=>?_;rw[<- r.length];exact len g m q
 .refine ß h λn g m bu r q k=>?_;obtain⟨t,⟨v,p,J⟩,h⟩:=j B S.nd g m q;exact#[Ϙ,v,p,J H n H n _ _ _ _ (sB bu r) h #[λ_ _ _ _ _ _ d=>d.elim,λ_ _ _ _ _ _ d=>d.elim,λ_ _ _ _ _ _ d=>d.elim,λ_ _ _ _ _ d=>d.elim,λv p O y M z R I L d=>k v p O y M z I L d,λ_ _ _ _ _ _ _ _ _ _ _ _ _ _ _ _ _ _ d=>d.elim,λ_ _ _ _ _ _ _ _ _ _ _ _ _ _ d=>d.elim,j5]]
def UC(i:Nat)(t:FT):xS:=λf d=>t d λg=>f.nx (d.set i (.own g))
def WM{i:Nat}{t:FT}{v:TE}(r:∀B m H g d k Q z,Ok X.K B m H g d k->t d Q ->
   (∀n p w j,bJ H j->H p=wx->j p=wz (.u8 w)->gq X.K (ê j (p::g)) n w->Q n->z (.ref p) j)->v k H z)
  (B:Hp) (m:List à) (H:Hp) (g:List à) (d:List Sl) (k:L2.St) (x:LD) (y:aEv) (o:Ok X.K B m H g d k) (h:UC i t x d) (f:S7 X.K B m H g x y):wN v (mO i) y k H:=by
 let n p w j s A E F q:=r B m H g d k _ _ o h;exact f.nx j (p::g) _ _ (o.takeOwn s A E F) (by rw[<- AW];exact bU (vB s A)) q
def aF7{i:Nat}(h:X8 X e t)(d:∀{v},PE X e v->PS X (Ā [KK x pos'] e pos) (wN v (mO i))):CI X (Ā [KK x pos'] e pos) (UC i t):=Ê h λv p r=>#[Ϙ,_,d p,WM r]
def Io(t:FT):xS:=λd f=>t f d.ro
def A4(h:X8 X e t):CI X (.Return (wz e) pos) (Io t):=Ê h λv p r=>by
 refine#[Ϙ,_,C1 p,λB k H m d y A E o h f=>r B k H m d y _ _ o h λw p x i s g j n q=>?_];refine f.ro w p x i (o.base.trans s) (bJ.ŗ o.base g) (λz=>iS o.bu g (o.sub p z)) j (n.same (iO λq hq=>?_)) q;rcases aN.mp hq with rfl | hq
 .exact aJ ..
 .exact aE _ (o.sub q hq)
def aGk(i:Nat):xS:=λf g=>∃d,g[i]?=wz (.own d)/\f.ro d
def uD{i:Nat}(s:PE X n (qQ i)):CI X (.Return (wz n) pos) (aGk i):=by
 refine#[Ϙ,_,C1 s,λB y H A v E w x o h f=>?_];refine Ê h λd e h=>ì (o.own i d e) λq t g j k m p r=>#[Ϙ,.ref q,g,f.ro d q t H o.base k m p (r.same (iO λz hz=>?_)) h];rcases aN.mp hz with rfl | hz
 .exact j
 .exact o.sub z hz
def Z7(c:yT)(u:xS):xS:=λg h=>∃P:Nat->List Sl->Prop,(∃n,P n h)/\∀n d,P n d->c d λb=>if b=ww then u { g with nx:=λf=>∃m,m<n/\P m f,ct:=λf=>∃m,m<n/\P m f,bk:=g.nx } d else g.nx d
def A3{c u}(U:LB X c tc)(hb:wG X body u)(pw:∀{O N},PT X c O->EK X body N->PS X (.While c body [] pos) (ZN O N)):CI X (.While c body [] pos) (Z7 tc u):=Ê U λO pc rc=>Ê hb λN pb rb=>by
 refine#[Ϙ,_,pw pc pb,λB A H M Q σ DT DV o h f=>?_];obtain⟨P,⟨Y,T⟩,W⟩:=h;refine#[Ϙ,λn k y=>∃i d,Ok X.K B A y i d k/\bJ (ê H M) (ê y i)/\P n d,#[Y,M,Q,o,L2.bJ.refl _,T],2];rintro n k y ⟨i,d,L,S,Z⟩;let b R E q1:=rc B A y i d k _ _ L (W n d Z);have q:=(f.ł S).ł (bU E);have v:=S.trans (bU E)
 cases b with
 |true=>
  rw[b8 rfl]at q1 |-
  refine#[Ϙ,λx F=>∃m,m<n/\∃t p,Ok X.K B A F t p x/\bJ (ê H M) (ê F t)/\P m p,λx F z=>z,2];exact rb B A R i d k _ _ (L.fz E) q1 #[λI j g r s w #[m,J,q4]=>#[m,J,j,g,s,v.trans w,q4],λI j g r s w q4=>q.nx I j g r s w q4,λI j g r s w #[m,J,q4]=>#[m,J,j,g,s,v.trans w,q4],q.rt,q.ro,q.rp,q.rq,q.xb]
 |false=>
  rw[a9 cS]at q1 |-
  exact q.nx R i d k (L.fz E) (L2.bJ.refl _) q1
def zx(i j k:Nat):GT:=λd f Q=>∃a b c,d=cN [a,b,c]/\Q (((f.set i (.val a)).set j (.val b)).set k (.val c))
def C7{i j k:Nat}(h:PG X t (Bt X.K 3 (KJ (mO i) (KJ (mO j) (KJ (mO k) Bs))))):P7 X t (zx i j k):=
 #[Ϙ,_,h,λB w H x q y d v Q s o r h k=>by
  obtain⟨a,b,c,rfl,h⟩:=h
  cases r with
  |@tuple p xs _ hq r=>
   cases r with
   |cons f r=>
    cases r with
    |cons g r=>
     cases r with
     |cons m r=>
      cases r;exact#[31,bJ.Ő cH hq,1313137,k _ _ (((o.set f).set g).set m) (λn=>rL (rL (rL n _ _) _ _) _ _) h]]
def Z8(l:ET)(g:GT):xS:=λh f=>l f λd=>g d f h.nx
def T5(s:eX X e l)(t:P7 X tg g)(y:∀{v j},PE X e v->PG X tg j->PS X (Ā [tg] e pos) (wN v j)):CI X (Ā [tg] e pos) (Z8 l g):=Ê s λv z re=>Ê t λj pg F=>by refine#[Ϙ,_,y z pg,λB n H k i q J K o h f=>re B n H k i q _ _ o h λd x m p E q1=>?_];exact F B n m k i q d x _ _ (o.fz p) E q1 λr I w _ A=>f.nx m k _ _ w (bU p) A
def Ng(c:yT)(C u:ET):ET:=λd Q=>c d λb=>if b=ww then C d Q else u d Q
def BW(w:LB X c tc)(t:eX X a C)(hb:eX X b u):eX X (.IfExp c a b pos) (Ng tc C u):=Ê w λL z F=>Ê t λJ x A=>Ê hb λK y E=>by
 refine#[Ϙ,_,aA3 z x y,λB j H m f r Q I o h k=>F B j H m f r _ _ o h λd s g q1=>?_]
 cases d with
 |true=>
  rw[b8 rfl]at q1 |-
  exact A B j s m f r Q _ (o.fz g) q1 λd v i q p n=>k d v i (g.trans q) p n
 |false=>
  rw[a9 cS]at q1 |-
  exact E B j s m f r Q _ (o.fz g) q1 λd v i q p n=>k d v i (g.trans q) p n
def Np(d:D)(Q:D->Prop):Prop:=match d with
|aW i=>Q (aW i)
|QM b=>Q (aW (if b then 1 else 0))
|_=>False
def K4:sL X (λf H Q=>(∃i,f=[.int i]/\Q (.int i) H)\/∃k,f=[.bl k]/\Q (.int (if k then 1 else 0)) H) (f1 Np):=c1 λH j d x Q g bu r h k=>by
 cases r with
 |int i=>exact j3 #[i,1,k _ _ H (L2.bJ.refl H) (.int _) h]
 |bool b=>exact i7 #[b,1,k _ _ H (L2.bJ.refl H) (.int _) h]
 |_=>exact h.elim
end
end TL
namespace L2
open PySem.SeqAt
open AutoSeq1 (wpAny_loadPart')
def SN(l:à)(c:Array á)(n:Nat)(b:à)(a:Array á)(o:Nat)(i:Option à)(p:Array (Option á))(j:¬(!c.isEmpty&&o8 (dl c+dl a))=ww)(k:dl c<=bM)(e:dl c+dl a<=bM+1) :
  Meets (av.«list.extend» #[[g8 l,g8 b],[]]) (λ_ R s=>s.heap.get? l=wz { cls:=fx "list",dict:=wx,data:=Fr c n,slots:=(Ŭ []) }/\s.heap.get? b=wz { cls:=fx "list",dict:=i,data:=Fr a o,slots:=p }/\R (.ok (.ret o0)) { s with heap:=s.heap.update l (i3 λx=>x++a),toks:=s.toks }):=
 .of_wp λprog w A R s h=>by
  obtain⟨u,g,d,v,os⟩:=s;let f hb h:=í h;have f1:=AutoSeq1.idx_int;have f2:=AutoSeq1.sub_tuple_tuple;have q:=AutoSeq1.sub_list_list;have r:=AutoSeq1.sub_tuple_list;have t:=AutoSeq1.sub_list_tuple;have m:dl (c++a)<=bM+1:=by rw[DN];exact e
  wp_walk using(wpAny_updateSeq f eH),eu f,eu hb
  exact#[Ϙ,0,h]
section
variable{X:Cx}
def Ie(K:aH):V->ű:=λx vs H Q=>∃l b a c,x=.ref l/\vs=[.ref b]/\H l=wz (.u8 a)/\qE K H b c/\iN a+iN c<=bM/\Q .z8 (fU H l (.u8 (a++c)))
theorem MH:L1 X "list.extend" (Ie X.K):=by
 intro j s S H x vs v O Q I J G h;refine Ò h λl b P R Z ψ=>Ó ψ λY i p M q=>?_;subst Z Y;cases J;let u E:=Þ O G.one;cases E;refine Î (I.lstM i) λz c n r ψ=>Ì ψ λL e=>?_;obtain⟨a,k,⟨o,A,m,t,w,hd⟩,z2⟩:=I.list p;have y:=k.length;have f:dl c.toArray+dl a.toArray<=bM:=by rw[bP,bP];lia
 have d:¬(!c.toArray.isEmpty&&o8 (dl c.toArray+dl a.toArray))=true:=by
  rw[OU f,LL];exact bS
 obtain⟨N,B,C,g⟩:=o;cases t;cases hd;refine t5 F.slot_list_extend #[Ϙ,_,e,1] F.entry_list_extend (F.args_list_extend_2 _ _) (SN l (aPe c) n b (aPe a) A B g d (by rw[bP];lia) ō) #[e,m,2];refine#[ϛ,.z8,_,I.lset i e dN (r.append k) ?_,1,q];rw[aV];omega
end
end L2
namespace TL
open L2
section
variable{X:Cx}{e:æ}{b a:ET}{pos:Pos}
def Il(i:Nat)(a:ET):xS:=λh g=>∃c,g[i]?=wz (.own c)/\a g λd=>∃f,d=eE f/\iN c+iN f<=100000/\h.nx (g.set i (.own (c++f)))
def LU{i:Nat}{e a}(M:PE X n (qQ i))(w:eX X e a)(y:bR [e] X.ak=(wv,è e X.ak)::bR [] X.ak|>ũ)
  (pb:∀{b},PA X [e] b->PS X (.Expr (ă (ą n "extend" ap) [e] [] cp) pos) (JP (WG X.K "list" (Ie X.K) (qQ i) b))):CI X (.Expr (ă (ą n "extend" ap) [e] [] cp) pos) (Il i a):=Ê w λv p r=>by
 refine#[Ϙ,_,pb (gT p mJ y),λB A H m g t F G o h f=>?_];refine Ê h λE e h=>ì (o.own i E e) λq s j u J L k l=>#[.ref q,j,j3 #[1,s,qE.of k],r B A H m g t _ _ o h λd x I c C q1=>?_];obtain⟨N,rfl,z,q1⟩:=q1
 cases C with
 |@list p2 zs _ hq rs=>
  refine#[Ϥ,q,p2,s,zs,7,c _ _ k,L2.bJ.seq cH hq,DZ (by rw[<- l.length,<- rs.length];exact z),2];exact f.nx _ m _ t ((o.fz c).ĩ e j ((l.same (bU c)).append rs)) ((bU c).trans (by rw[fW u];exact L2.bJ.refl _)) q1
def pE{K}{mg:â->Option á}{k:Nat}{f:à}{pn}:nG P w K mg base rH k f fd pn (lG K λ_ _=>False):=
 #[λvs H Q E #[33,_,h,_]=>h.elim,λA ag s H c d vs Q E _ _ _ _ #[33,_,h,_]=>h.elim]
def XR{K}{mg:â->Option á}{k:Nat}{f:à}{pn}:nG P w K mg base rH k f fd pn (jO K λ_ _=>False):=
 #[λvs H Q E #[33,_,h,_]=>h.elim,λA ag s H c d vs Q E _ _ _ _ #[33,_,h,_]=>h.elim]
def vL{K}{mg:â->Option á}{k:Nat}{f:à}{pn}{i d:kK}(F:nG P w K mg base rH k f fd pn (lG K i))(h:∀c Q,d c Q->i c Q):nG P w K mg base rH k f fd pn (lG K d):=
 F.imp λvs H Q E #[o,c,g,j,l,m,n]=>#[ϡ,o,c,g,j,l,h c g m,n]
def Nq(d:D)(Q:D->Prop):Prop:=∃ns,d=eE (ns.map aW)/\ns≠[]/\∀m,m∈ns->(∀n∈ns,n<=m)->Q (aW m)
end
end TL
namespace L2
section
variable{X:Cx}
theorem zL(N:X.Ň=ww):lW X (mt "max") (λL H Q=>∃p ns,L=[.ref p]/\qE X.K H p (ns.map V.int)/\ns≠[]/\∀m,m∈ns->(∀n∈ns,n<=m)->Q (.int m) H):=by
 intro F s σ H L us Q I r h;let p ns D S g q:=Ý h;subst D;let u D U:=Ê (oG r);subst D;cases U;let a J G Y:=Õ (I.list S);have f:=J.length;rw[aB]at f;have C:=List.length_pos_iff.mpr g
 have x:p≠dl s.heap.objs:=Ê (ā G) λo y _=>cO (bG y)
 have d:=ā G
 have k:p<dl s.heap.objs:=Ê d λo y _=>bG y
 have c:∀(i:Nat)(v:á),a.toArray[i]?=wz v->∃t,v=u7 ((ns[i]?).getD 0) t:=λi v l=>by
  have E:a[i]?=wz v:=Á l
  have w:=(aD.mp E).1;have hb:i<iN ns:=by lia
  let w' B M:=Ê (J.get (by rw[aK,aC hb];rfl));rw[E]at B;cases B;rw[aC hb];exact M
 refine call_max_walk (l9 d ?_);refine#[ϧ,3330,fy (A:=X.A.in1) (I.ok.hd N) _ p x (aPe a),#[#[ϙ,_,bD _ eH,7],d.push _],λb hb=>?_,by rw[bP];lia,CmpOf.ints_gt (λi=>(ns[i]?).getD 0) c,λv W Z l P=>?_]
 .rw[fR];have:b=dl s.heap.objs\/b=p:=Á hb
  rcases this with rfl | rfl
  .exact mM _
  .exact uX k
 .refine Ù v (c _ _ l) λt=>?_;have hb:=argBest_gt (λi=>(ns[i]?).getD 0) (dl a.toArray-1);have T:dl a.toArray=iN ns:=by rw[bP];lia
  have w:argBest (λi j=>decide ((ns[i]?).getD 0>(ns[j]?).getD 0)) (dl a.toArray-1)<iN ns:=by have:=hb.1;omega
  refine#[ϛ,.int _,H,I.œ λb o e=>P b o ?_ (aI _ e),#[t,1],q _ ?_ λn R=>?_]
  .intro z;have:b=dl s.heap.objs:=Á z
   exact c9 (bG e) (by rw[this];exact fK _)
  .rw[aC w];exact fC w
  .obtain⟨j,O,rfl⟩:=zN.mp R;have:=hb.2 j Ŋ;rw[aC O]at this;exact this
def Qr(_ j:Int):Prop:=0<j/\j<2^200
theorem ON:oU X (l3 .FloorDiv) (rI Qr λi j=>.int (i / j)):=zu λi j _ _ _ _ _ a q=>by
 have c:=a.1;have d:=a.2;have b:j.natAbs<2^200:=by omega
 have e:=(Nat.log2_lt Ŋ).mpr b;exact floordiv_int cT (by rw[NU i (Int.le_of_lt ‹_›)];exact q) (j3 (PyProof.noPylong_of_log2 ŀ))
end
end L2
namespace TL
open L2
section
variable{X:Cx}{e:æ}
def Gi:sL X (λf H Q=>∃p ns,f=[.ref p]/\qE X.K H p (ns.map V.int)/\ns≠[]/\∀m,m∈ns->(∀n∈ns,n<=m)->Q (.int m) H) (f1 Nq):=c1 λH i d x Q g bu r h k=>by
 obtain⟨ns,rfl,a,h⟩:=h
 cases r with
 |list q s=>
  have e:=CW s;subst e;exact#[Ϝ,_,ns,1,L2.bJ.seq cH q,a,λm b c=>k _ _ H (L2.bJ.refl H) (.int _) (h m b c)]
end
def Ok.setUn{K}{ec:List Sl}{σ:L2.St}(o:Ok K B p0 H ps ec σ){i:Nat}{v}:Ok K B p0 H ps (ec.set i .un) (σ.set i (wz v)) where
 base:=o.base
 sub:=o.sub
 bu:=o.bu
 len:=Á o.len
 val:=λj d' h=>by
  by_cases e:i=j
  .subst e
   have hi:i<iN ec:=by
    have:=(aD.mp h).1;simpa using this
   rw[bI hi]at h;cases h
  .rw[aY e]at h |-
   exact o.val j d' h
 own:=λj ts h=>by
  by_cases e:i=j
  .subst e
   have hi:i<iN ec:=by
    have:=(aD.mp h).1;simpa using this
   rw[bI hi]at h;cases h
  .rw[aY e]at h |-
   exact o.own j ts h
 Ī:=λj k ts us p h1 h2 h3 h4=>by
  have ne:∀{l:Nat}{ts:List D},(ec.set i .un)[l]?=wz (.own ts)->i≠l:=λ{l ts} h e=>by
   subst e
   have hi:i<iN ec:=by
    have:=(aD.mp h).1;simpa using this
   rw[bI hi]at h;cases h
  have e1:=ne h1;have e2:=ne h2;rw[aY e1]at h1 h3;rw[aY e2]at h2 h4;exact o.Ī j k ts us p h1 h2 h3 h4
 dc:=o.dc.setS λ_ _ z=>nomatch z
section
variable{X:Cx}{e:æ}{a:List æ}{b c:ET}{pos:Pos}
abbrev Dr:=List Sl->(List D->List D->Prop)->Prop
def Ds(X:Cx)(e:æ)(t:Dr):Prop:=∃c,PE X e c/\∀B m H g f l Q h,Ok X.K B m H g f l->t f Q ->
 (∀i bs r p q j k d,bJ H d->H r=wx->H p=wx->H q=wx->p≠q->d r=wz (.ņ [.ref p,.ref q])->d p=wz (.u8 j)->d q=wz (.u8 k)->gq X.K (ê d (p::q::g)) i j->gq X.K (ê d (p::q::g)) bs k->Q i bs->h (.ref r) d)->c l H h
abbrev zj:=List D->(List D->List D->Prop)->Prop
def BH(K:aH)(l:zj):Sp:=λvs H Q _=>∃f i g,(∀p∈f,CK (H p))/\gq K (ê H f) i vs/\l i g /\
 ∀h bs r p q j k d,bJ H d->H r=wx->H p=wx->H q=wx->p≠q->d r=wz (.ņ [.ref p,.ref q])->d p=wz (.u8 j)->d q=wz (.u8 k)->gq K (ê d (p::q::f)) h j->gq K (ê d (p::q::f)) bs k->g h bs->Q (.ref r) d
def Hy(f:zj)(t:AT):Dr:=λg Q=>t g λd=>f d Q
def aAu{k:Nat}{f:à}{pn}(F:nG X.prog X.w X.K X.mg X.base rH k f fd pn (BH X.K sp))(Z:X.mg x=wz (g8 f))(Y:gZ X.K (g8 f)=ww)(hb:sO X.K fd pn [])
  (hr:iL k X.A) (J:yU X (e::a) t) (N:∀{b},PA X (e::a) b->PE X (ă (KK x p) (e::a) [] pos) (JQ (BH X.K sp) [] E0 b)):Ds X (ă (KK x p) (e::a) [] pos) (Hy sp t):=Ê J λv M g=>by refine#[Ϙ,_,N M,λB L H j i T Q W o h k=>g B L H j i T _ _ o h λs l U d O q1=>?_];rw[cG];exact#[ϡ,j,s,Q,(o.fz d).bu,O,q1,λn bs r p q l S m R u y z C E G I g P q=>k n bs r p _ l S m (d.trans R) (bJ.ŗ d u) (bJ.ŗ d y) (bJ.ŗ d z) C E G I g P q]
def Mz{K}{mg:â->Option á}{st}{f:à}{N pn:List â}{k:Nat}{n:zj}(F:QK K x qual st f fd)(S:bL N pn (aQ st))
  (j:∀{i}{A:g3}{ag}{s:ã}{H E},iL k (A.deeper (j8 qual (aQ st) s.heap.objs.size f i))->aYv N->∀(g:List D)(Q:List D->List D->Prop),n g Q ->
   ∃t,wG (tJ rH P w K mg base N qual (aQ st) f i A ag s H E).nox (mL st) t/\t { nx:=λ_=>False,rt:=λ_=>False,rp:=Q } (lF N g)) (len:(∀g Q,n g Q->iN g=iN pn)|>ş):nG P w K mg base rH (k+1) f fd pn (BH K n):=by
 let i A ag s H vs Q E J h:=F.ok S (λvs H Q E h=>?_)
 .refine ß h λm g l _ r q _=>?_;rw[<- r.length];exact len g l q
 .refine ß h λm g l bu r q k=>?_;obtain⟨t,⟨T,p,O⟩,h⟩:=j J S.nd g l q;exact#[Ϙ,T,p,O H m H m _ _ _ _ (sB bu r) h #[λ_ _ _ _ _ _ d=>d.elim,λ_ _ _ _ _ _ d=>d.elim,λ_ _ _ _ _ _ d=>d.elim,λ_ _ _ _ _ d=>d.elim,λ_ _ _ _ _ _ _ _ _ d=>d.elim,λu bs r p q U W o R v y z B C G I L M d=>k u bs r p q U W o R v y z B C G I L M d,λ_ _ _ _ _ _ _ _ _ _ _ _ _ _ d=>d.elim,j5]]
def Nf(t:Dr):ET:=λf Q=>t f λd bs=>Q (cN [eE d,eE bs])
def Ct(h:Ds X e t):eX X e (Nf t):=Ê h λv p r=>by refine#[Ϙ,_,p,λB y H d u F Q G o h k=>r B y H d u F _ _ o h λI bs r p q J K w E m g j x n i l A C q1=>?_];have f:∀{z:à},H z=wx->z∉d:=λs=>iS o.bu s;have sub:∀z∈d,z∈p::q::d:=λz s=>aE _ (aE _ s);exact k _ _ w E (.tuple (tV.of (nB (f m) n)) (.cons (.list (qE.of (nB (f g) i)) (A.same (iO sub))) (.cons (.list (qE.of (nB (f j) l)) (C.same (iO sub))) .nil))) q1
end
end TL
namespace L2
open PySem.SeqAt
section
variable{X:Cx}
theorem xD(ns:List Int):∀k,preSum (λi=>(ns[i]?).getD 0) k=Ċ (ns.take k)
|0=>rfl
|k+1=>by
 show preSum _ k+(ns[k]?).getD 0=_;rw[xD ns k,cE,aI8]
 cases ns[k]? with
 |none=>simp
 |some x=>simp
theorem JR:∀ns:List Int,(∀n∈ns,0<=n/\n<2^40)->0<=Ċ ns/\Ċ ns<=(iN ns:Int)*2^40
|[],_=>by simp
|n::ns,h=>by
 have b:=h n (aJ ..);have c:=JR ns λx a=>h x (aE _ a);rw[eI,bE];constructor
 .lia
 .lia
theorem JA(O:X.Ň=ww):lW X (mt "sum") (λM H Q=>∃(p:à)(ns:List Int),M=[.ref p]/\qE X.K H p (ns.map V.int)/\(∀n∈ns,0<=n/\n<2^40)/\iN ns<=1000/\Q (.int ns.sum) H):=by
 intro G s σ H M us Q I r h;refine Ý h λp ns D T m ψ=>Ì ψ λy q=>?_;subst D;let u D U:=Ê (oG r);subst D;cases U;let c L J hz:=Õ (I.list T);have g:=L.length;rw[aB]at g
 have B:p≠dl s.heap.objs:=Ê (ā J) λo C _=>cO (bG C)
 have a:=ā J
 have l:p<dl s.heap.objs:=Ê a λo C _=>bG C
 have w:∀(i:Nat)(v:á),c.toArray[i]?=wz v->∃t,v=u7 ((ns[i]?).getD 0) t:=λi v N=>by
  have F:c[i]?=wz v:=Á N
  have Z:=(aD.mp F).1;have hb:i<iN ns:=by lia
  let w' x E:=Ê (L.get (by rw[aK,aC hb];rfl));rw[F]at x;cases x;rw[aC hb];exact E
 have d:∀k:Nat,0<=Ċ (ns.take k)/\Ċ (ns.take k)<2^63:=λk=>by
  have x:=JR (ns.take k) λn S=>m n (eG S);have E:iN (ns.take k)<=1000:=by rw[bB];omega
  grind
 refine call_sum_walk (l9 a ?_);refine#[ϧ,333,λi=>(ns[i]?).getD 0,1,fy (A:=X.A.in1) (I.ok.hd O) _ p B (aPe c),#[#[ϙ,_,bD _ eH,7],a.push _],λb hb=>?_,w,λj P=>?_,λY tk W R=>?_]
 .rw[fR];have:b=dl s.heap.objs\/b=p:=Á hb
  rcases this with rfl | rfl
  .exact mM _
  .exact uX l
 .rw[bP]at P;have f:j<iN ns:=by lia
  refine#[22]
  .have:=m ns[j] (fC f);show InLong ((ns[j]?).getD 0);rw[aC f];show -(2^63)<=ns[j]/\ns[j]<2^63;grind
  .rw[xD];have:=d (j+1);show -(2^63)<=_/\_<2^63;grind
 .refine#[ϛ,.int _,H,I.œ λb o e=>R b o ?_ (aI _ e),#[W,1],2]
  .intro z;have:b=dl s.heap.objs:=Á z
   exact c9 (bG e) (by rw[this];exact fK _)
  .rw[xD,kL (by rw[bP];exact mX ‹_›)];exact q
end
def HF(l:à)(a:Array á) :
  Meets (av.«enumerate.__new__» #[[fx "enumerate",g8 l],[]]) (λ_ R s=>s.heap.IsList l a /\
   R (.ok (.ret (g8 (s.heap.push { cls:=fx "list_iterator",data:=Id (Ŭ [g8 l,u7 0 0]) }).objs.size)))
    { s with heap:=(s.heap.push { cls:=fx "list_iterator",data:=Id (Ŭ [g8 l,u7 0 0]) }).push { cls:=fx "enumerate",data:=Id (Ŭ [o0,dh wv,g8 s.heap.objs.size,v4 0,o0,o0]) } }):=
 .of_wp λprog w A R s h=>by
  obtain⟨i,g,d,j,os⟩:=s;let f h:=Ì h;have e:=sub_enumerate;have b:=f
  wp_walk
  refine wpAny_stack_any λst=>aZ ?_;split
  .rename_i c _ _ _ _ _;cases (c==fx "enumerate")
   .wp_walk using l9 b
    exact#[Ϙ,0,h]
   .wp_walk using l9 b
    exact#[Ϙ,0,h]
  .wp_walk using l9 b
   exact#[Ϙ,0,h]
def EJ{P:dF}{w:g6}{A:g3}{E:á->ã->Prop}{s:ã}{l:à}{Q:á->ã->Prop}(e:s.heap.IsList l Ś)
  (h:∀a,IsEnum a (dl s.heap.objs+1) s.heap.objs.size 0 o0->a.IsListIter s.heap.objs.size l 0->dl a.objs=dl s.heap.objs+2 ->
   (∀b o,s.heap.get? b=wz o->a.get? b=wz o)->Q (g8 (dl s.heap.objs+1)) { s with heap:=a }) :
  å (ä P w) A (call (fx "enumerate") [g8 l]) Q E s:=by
 refine callType_new F.called_enumerate cS (F.typeCall_enumerate_1 _) (F.newCall_enumerate_1 _) (λobj=>F.args_object_init_2 obj _) F.entry_enumerate_new
  (HF l Ś) #[e,2]
 have c:(s.heap.push { cls:=fx "list_iterator",data:=Id (Ŭ [g8 l,u7 0 0]) }).objs.size=dl s.heap.objs+1:=fR ..;rw[c]
 have d:IsEnum ((s.heap.push { cls:=fx "list_iterator",data:=Id (Ŭ [g8 l,u7 0 0]) }).push
   { cls:=fx "enumerate",data:=Id (Ŭ [o0,dh wv,g8 s.heap.objs.size,v4 0,o0,o0]) }) (dl s.heap.objs+1) s.heap.objs.size 0 o0:=by
  have:=bD (s.heap.push { cls:=fx "list_iterator",data:=Id (Ŭ [g8 l,u7 0 0]) })
   (o:={ cls:=fx "enumerate",data:=Id (Ŭ [o0,dh wv,g8 s.heap.objs.size,v4 0,o0,o0]) }) eH
  rw[c]at this;exact this
 exact#[#[Ϙ,_,d,1],h _ d #[ϙ,_,aI _ (bD _ eH),7] (by rw[fR,c]) λb o x=>aI _ (aI _ x)]
def Mb(K:aH)(a:à):It:=
 #[λi H=>∃b x,qE K H a b/\b[i]?=wz x,
  λi H v c=>∃p x,H p=wx/\v=.ref p/\c=fU H p (.ņ [.int (i:Int),x])/\∀b,qE K H a b->b[i]?=wz x,
  λi H=>∃b,qE K H a b/\iN b<=i]
def WE{K}{x1:Nat}{e it l:à}(ou:e≠it) :
  P6 P w K (.Tuple bo x1 pos) (Mb K l) [e,it] e (λi h=>(∃old,IsEnum h e it (i:Int) old)/\h.IsListIter it l i) where
 mem:=by simp
 obj:=λi h st b hb=>by
  obtain⟨⟨old,he⟩,iv⟩:=st;simp only[aN,cZ,j4]at hb;rcases hb with rfl | rfl
  .exact#[Ϙ,_,he,λv q=>by cases q]
  .exact Õ iv λo e c d=>#[Ϙ,o,e,λv z=>by rw[d]at z;cases z]
 keep:=λi h h' st k=>by
  obtain⟨⟨old,he⟩,iv⟩:=st;exact#[#[old,k e dN _ he],iv.at λo x=>k it dN o x]
 item:=by
  intro X hP hw hK hc i pins s σ H E I hf st hg;subst hP hw hK;obtain⟨⟨old,he⟩,iv⟩:=st;refine Ö hg λxs x hq hx=>Õ (I.list hq) λdq rv p hz=>Ê (rv.get hx) λu hu ru=>wpAny_pyNext_enum_item he iv (ā p) (Á hu) ou λh' a1 a2 a3 a4 a5=>#[Ϙ,02];let h2 b1 sb:=wpAny_letOwnedTupleGo_enum a1;have lh:=bG he
  have kk:∀c o,c∉[e,it]->s.heap.get? c=wz o->h2.get? c=wz o:=λc o au x=>by
   simp only[aN,cZ,j4,not_or]at au;exact sb.extBut _ _ au.1 (a5 c o au.1 au.2 x)
  have I1:dS X pins σ (fU H s.heap.objs.size (.ņ [.int (i:Int),x])) { s with heap:=h2,toks:=s.toks+1 }:=I.turnedNew hf kk (aL _) #[(by show 2<=bM;decide),[u7 i s.toks,u],Cl #[0] (Cl ru tj),#[_,(sb.extBut _ _ (iF lh) a3),101]];refine#[ϝ,.ref s.heap.objs.size,_,I1,1,#[Ϝ,_,x,I.gs.fresh (aL _),7,λys hy=>by rw[I.list_inj hy hq];exact hx],2,λc au=>?_]
  .exact#[#[_,by rw[kG];exact b1],a2.at λo x=>sb.extBut _ _ (j6 ou) x]
  .have gc:c≠dl s.heap.objs:=by
    simp only[aN,cZ,j4]at au;rcases au with rfl | rfl
    .exact cO lh
    .exact Ê iv λo z _=>cO (bG z)
   rw[cC gc];exact(hf c au).1
 done:=by
  intro X hP hw hK hc i pins s σ H E I hf st hg;subst hP hw hK;obtain⟨⟨old,he⟩,iv⟩:=st;refine Ê hg λxs hq hx=>Õ (I.list hq) λdq rv p hz=>?_;have hl:=rv.length;refine wpAny_pyNext_enum_end (I.ok.hd hc) he iv (ā p) (by simp;lia) λh' eb=>#[1,I.turnedL hf λc o au x=>?_];simp only[aN,cZ,j4,not_or]at au;exact eb c o au.2 x
 self:=λA i s Q E st h=>by
  obtain⟨⟨old,he⟩,_⟩:=st;exact kf he h
theorem HU:f6 "enumerate"=wz (fx "enumerate"):=cR
def Hw(K:aH)(b:TA):TI:=λd H R=>b d H λvs a=>∃l c,vs=[.ref l]/\qE K a l c/\R (Mb K l) a
def aG1{X:Cx}{B:Nat}(m:Gl X "enumerate")(o:X.mg "enumerate"=wx)(k:PA X [a] ta)(u:bR [a] X.ak=[(wv,è a X.ak)]|>ũ) :
  PI X (.Tuple bo B tpos) (ă (KK "enumerate" p) [a] [] pos) (Hw X.K ta):=by
 intro b s E H R I h;refine Call_ (AH I m o HU (m9 (kN (k pos b s E H _ I h) λG f C=>?_) (by rw[u];rfl) (by rfl)));refine Ø C λvs j d x q1=>Ø q1 λl J Z t q=>?_;subst Z
 cases x with
 |cons r y=>
  cases y;cases r;refine Õ (d.list t) λA z p1 w=>EJ (ā p1) λF i e v n=>kf i ?_;refine#[ϥ,_,[dl f.heap.objs+1,dl f.heap.objs],3,j,1,d.œ n,WE (Nat.succ_ne_self _),#[#[_,i],e],λc g=>?_,q];simp only[aN,cZ,j4]at g;have le:dl f.heap.objs<=c:=by rcases g with rfl | rfl<;>first | exact aL _ | exact aI5 _ _
  exact d.fpOk le (d.gs.fresh le)
end L2
namespace TL
open L2 PySem.SeqAt
variable{K:aH}
def yw(K:aH)(a:à)(c:List â):Prop:=∃o b n,K.lookup a=wz o/\o.cls=fx "tuple"/\o.dict=wx/\o.data=.seq b n/\dl b<=bM/\fX (c.map V.str) (aO6 b)
theorem zZ:∀a:List â,gq K H (a.map aG) (a.map V.str)
|[]=>.nil
|y::a=>.cons (.str y) (zZ a)
def HG(a:List D):List D:=AR (eL (iN a)) a
def uO(a:List D):iN (HG a)=iN a:=by unfold HG;rw[AQ];unfold eL;simp
def DA{i:Nat}(h:as[i]?=wz a):(HG as)[i]?=wz (cN [aW (i:Int),a]):=by
 unfold HG AR eL;rw[aK,(gU (z:=(aW (i:Int),a))).mpr #[by rw[aK,mD ((aD.mp h).1)];rfl,h]];rfl
def aNu(t:AT):IT:=λc Q=>t c λb=>∃a,b=[eE a]/\Q (HG a)
section
variable{X:Cx}{a b e:æ}{w:List æ}{c C g:ET}{pos:Pos}
def BX{x:â}{p:à}{d:List â}{pos}(f:Gl X x)(j:X.mg x=wz (g8 p))(i:yw X.K p d)(hd:Ů x|>Ū):eX X (KK x pos) (eC (cN (d.map aG))):=
 #[Ϙ,_,yH (v:=.ref p) f j eH hd,λ_ _ H _ _ _ _ _ _ h k=>k _ _ H (L2.bJ.refl H) (.tuple (i7 i) (zZ d)) h]
theorem aHu{m:Nat}(v:yU X [a] t)(I:∀{c},PA X [a] c->PI X (.Tuple bo m tpos) (ă (KK "enumerate" p) [a] [] p') (Hw X.K c)):V2 X (.Tuple bo m tpos) (ă (KK "enumerate" p) [a] [] p') (aNu t):=Ê v λU E L=>by
 refine#[Ϙ,_,I E,λB A H F j O Q R o h k=>L B A H F j O _ _ o h λT W n M f q1=>?_];let S b q:=Ê q1;subst b
 cases f with
 |cons f J=>
  cases J
  cases f with
  |@list p1 us _ gw rs1=>
   have n1:=rs1.length;refine#[ϛ,p1,us,1,L2.bJ.seq cH gw,k _ _ n M #[λi H e d=>?_,λi H e d=>?_,λi H G y P bu e d z=>?_] q]
   .rw[uO]at d;exact#[Ϙ,us,L2.bJ.seq e gw,6]
   .rw[uO]at d;exact#[Ϛ,us,us[i],L2.bJ.seq e gw,aC cT]
   .exact Ö z λp x l w=>î y w λg=>î P g λu=>Ê (rs1.get' (u us (L2.bJ.seq (e.trans cH) gw))) λr s N=>#[dZ l,cN [aW (i:Int),r],DA s,vE bu l (.cons (.int _) (.cons (N.same e) .nil))]
def Nt(d:D)(Q:D->Prop):Prop:=∃ns:List Int,d=eE (ns.map aW)/\(∀n∈ns,0<=n/\n<2^40)/\iN ns<=1000/\Q (aW ns.sum)
def Qd:sL X (λj H Q=>∃(p:à)(ns:List Int),j=[.ref p]/\qE X.K H p (ns.map V.int)/\(∀n∈ns,0<=n/\n<2^40)/\iN ns<=1000/\Q (.int ns.sum) H) (f1 Nt):=c1 λH m d x Q l bu r h k=>by
 obtain⟨ns,rfl,i,f,h⟩:=h
 cases r with
 |list q s=>
  have e:=CW s;subst e;exact#[ϝ,_,ns,1,L2.bJ.seq cH q,i,f,k _ _ H (L2.bJ.refl H) (.int _) h]
def L4(K:aH):V->ű:=λx h H Q=>∃y f d j,h=[y]/\iM K H (eE f) x/\iM K H d y/\RN f d j/\j<1000000/\Q (.int j) H
theorem RZ(U:X.A.units+200<x8):S5 X "list.index" (L4 X.K):=by
 intro M s σ H x xs v us Q I rx rv h;obtain⟨y,i,d,j,rfl,Z,r2,⟨c1,E,p,⟨t,L,R⟩,z⟩,S,q⟩:=h;refine Þ us rv.one λu ru=>Ë (iM.Ļ I (show(eE i).hasDict=wv from u0 c1) Z rx) λas O=>Ë (iM.Ļ I (qR E) r2 ru) λbs P=>?_
 cases O with
 |@list l o Ś n _ as' h3 h4 h5 h6=>
  have f:=gy i (aO6 Ś) _ c1 h6;have J:dl Ś=iN i:=by rw[<- f,aB,eY]
  have T:=(aD.mp L).1;have G:j<dl Ś:=by lia
  have N:∀(m:Nat)(p:m<dl Ś),i[m]?=wz (gx s.heap Ś[m]):=λm p=>by
   rw[<- f,aK];simp[p]
  obtain⟨oc,W,Y,B⟩:=o;cases h4;cases h5;refine t5 F.slot_list_index #[_,h3,1] F.entry_list_index (F.args_list_index_2 _ _) (list_indexAt _ Ś _ W B u (λy=>dG (gx s.heap y) d) j G cT ?_ ?_) #[h3,jb h6 P c1 E (by have:=U;lia),2]
  .have:=N j G;rw[L]at this;rw[<- d7 this];exact R
  .intro m r k;exact z m _ k (N m r)
  .exact#[ϛ,.int j,H,I.Ĭ _,#[0],q]
def KA{k:Nat}(d:iL k X.A):S5 X "list.index" (L4 X.K):=RZ (by have:=d.un;lia)
def VN(g:ET)(t:AT):ET:=λh Q=>g h λd=>∃f,d=eE f/\t h λi=>∃x j,i=[x]/\RN f x j/\j<1000000/\Q (aW j)
def KR(E:eX X n g)(z:yU X (e::w) t)
  (G:∀{v c},PE X n v->PA X (e::w) c->PE X (ă (ą n "index" ap) (e::w) [] pos) (WG X.K "list" (L4 X.K) v c)):eX X (ă (ą n "index" ap) (e::w) [] pos) (VN g t):=Ê E λv I re=>Ê z λT F O=>by
 refine#[Ϙ,_,G I F,λB i H l f s Q R o h k=>re B i H l f s _ _ o h λd x u m J q1=>?_];obtain⟨P,rfl,q1⟩:=q1
 cases J with
 |@list p xs _ hq rs=>
  refine#[j3 #[1,_,L2.bJ.seq cH hq],O B i u l f s _ _ (o.fz m) q1 λS U y r L q2=>?_];let d j b gs A q:=Ý q2;subst b
  cases L with
  |cons M N=>
   cases N;exact#[Ϥ,_,P,d,j,1,(iM.list hq rs).same ((bU r).trans cH),M.same cH,gs,A,k _ _ y (m.trans r) (.int _) q]
def Fc(f:List D)(d:D):Prop:=dH f=ww/\d.canLay0=ww/\min (fH f) d.depth<=60
def L5(K:aH):V->ű:=λx h H Q=>∃y f d,h=[y]/\iM K H (eE f) x/\iM K H d y/\Fc f d/\Q (.int ((f.countP λt=>dG t d:Nat):Int)) H
def R0(r:X.A.units+200<x8):S5 X "list.count" (L5 X.K):=by
 intro k s T H x S v R Q I M L h;obtain⟨y,i,d,rfl,E,G,⟨c1,j,O⟩,q⟩:=h;refine Þ R L.one λu J=>Ë (iM.Ļ I (show(eE i).hasDict=wv from u0 c1) E M) λN m=>Ë (iM.Ļ I (qR j) G J) λbs p=>?_
 cases m with
 |@list l o Ś n _ as' h3 h4 h5 h6=>
  obtain⟨P,z,B,f⟩:=o;cases h4;cases h5;refine t5 F.slot_list_count #[_,h3,1] F.entry_list_count (F.args_list_count_2 _ _) (list_countAt _ Ś _ z f u (λy=>dG (gx s.heap y) d)) #[h3,jb h6 p c1 j (by have:=r;lia),2];refine#[ϛ,.int _,H,I.Ĭ _,#[0],2]
  have e:(Ś.toList.countP λy=>dG (gx s.heap y) d)=i.countP λt=>dG t d:=by
   rw[<- (gy i (aO6 Ś) _ c1 h6),IK];rfl
  rw[e];exact q
def W8{k:Nat}(d:iL k X.A):S5 X "list.count" (L5 X.K):=R0 (by have:=d.un;lia)
def aIi(g:ET)(t:AT):ET:=λh Q=>g h λd=>∃f,d=eE f/\t h λi=>∃x,i=[x]/\Fc f x/\Q (aW ((f.countP λt=>dG t x:Nat):Int))
def XT(z:eX X n g)(y:yU X (e::w) t)
  (E:∀{v c},PE X n v->PA X (e::w) c->PE X (ă (ą n "count" ap) (e::w) [] pos) (WG X.K "list" (L5 X.K) v c)):eX X (ă (ą n "count" ap) (e::w) [] pos) (aIi g t):=Ê z λv F re=>Ê y λR A M=>by
 refine#[Ϙ,_,E F A,λB i H j f r Q O o h k=>re B i H j f r _ _ o h λd x s l G q1=>?_];obtain⟨N,rfl,q1⟩:=q1
 cases G with
 |@list p xs _ hq rs=>
  refine#[j3 #[1,_,L2.bJ.seq cH hq],M B i s j f r _ _ (o.fz l) q1 λP S u m I q2=>?_];let d b gs q:=Õ q2;subst b
  cases I with
  |cons J L=>
   cases L;exact#[Ϣ,_,N,d,1,(iM.list hq rs).same ((bU m).trans cH),J.same cH,gs,k _ _ u (l.trans m) (.int _) q]
def aIr(g:ET):yT:=λh Q=>g h λd=>∃f,d=eE f/\Q (!f.isEmpty)
def JN(h:eX X e g)(pt:∀{t},PE X e t->PT X e (λf H Q=>t f H λx j=>∃k,Bh X.K x j k/\Q k j)):LB X e (aIr g):=Ê h λv p r=>by
 refine#[Ϙ,_,pt p,λB s H u i f Q A o h k=>r B s H u i f _ _ o h λd x m z y q1=>?_];let l w q:=Ê q1;subst w
 cases y with
 |@list p xs _ hq rs=>
  have n:=rs.length;refine#[Ϙ,!xs.isEmpty,j3 #[Ϙ,xs,L2.bJ.seq cH hq,1],2]
  have:(!xs.isEmpty)=(!l.isEmpty):=by
   cases xs<;>cases l<;>first | rfl | (simp at n)
  rw[this];exact k _ m z q
def WP(c C:FT):xS:=λf d=>c d λh=>C d λbs=>f.rp h bs
def N6{c C}(F:X8 X n c)(Q:X8 X m C)(R:bR [n,m] X.ak=(wv,è n X.ak)::bR [m] X.ak|>ũ)(I:bR [m] X.ak=(wv,è m X.ak)::bR [] X.ak|>ũ):CI X (.Return (wz (.Tuple [n,m] x1 p2)) pos) (WP c C):=Ê F λva Y ra=>Ê Q λvb Z rb=>by
 refine#[Ϙ,_,C1 (RH (gT Y (gT Z mJ I) R)),λB s H l j M DT DV o h f=>?_];let P p O t x N v rs q1:=ra B s H l j M _ _ o h
 have U:Ok X.K B s t (p::l) j M:=by
  have F:without t p p=none:=by unfold without;rw[b8 rfl]
  have W:=(o.fz (vB x N)).adopt (u:=.u8 O) F
  rwa [DP v]at W
 let bs q ys A y G J L q2:=rb B s t (p::l) j M _ _ U q1;refine#[aA eH,λr k=>?_];have i:=y _ _ v
 have S:bJ (ê t (p::l)) (ê (fU A r (.ņ [.ref p,.ref q])) (p::q::s)):=λb u hb=>by
  unfold ê at hb |-
  by_cases d:b∈p::l
  .rw[b8 d]at hb;cases hb
  .rw[a9 d]at hb;have E:=y _ _ hb;rw[a9,cC (λz=>by rw[z,k]at E;cases E)]
   .exact E
   .intro z;rcases aN.mp z with z | z
    .exact d (z▸aJ ..)
    .rcases aN.mp z with z | z
     .exact(λz=>by rw[z,G]at hb;cases hb) z
     .exact d (aE _ (o.sub b z))
 have T:bJ (ê A (q::p::l)) (ê (fU A r (.ņ [.ref p,.ref q])) (p::q::s)):=(bU (dZ k)).trans (iO λz hz=>by
  rcases aN.mp hz with rfl | hz
  .exact aE _ (aJ ..)
  .rcases aN.mp hz with rfl | hz
   .exact aJ ..
   .exact aE _ (aE _ (o.sub z hz)))
 exact f.rp P bs r p q O ys _ (o.base.trans (x.trans (y.trans (dZ k)))) (bJ.ŗ (o.base.trans (x.trans y)) k) ((λhz=>bJ.ŗ o.base hz) N) (bJ.ŗ (o.base.trans x) G) (λz=>by rw[z,G]at v;cases v) cL (by rw[cC (λz=>by rw[z,k]at i;cases i)];exact i) (by rw[cC (λz=>by rw[z,k]at J;cases J)];exact J) (rs.same S) (L.same T) q2
end
end TL
namespace TL
theorem aOq:f6 "sum"=wz (mt "sum"):=cR
open L2
def O3{d:ż}{i:IT}{j:yT}{g:ET}{c:List Sl}{Q:D->Prop}{ts:List D}(o:vR i c ts)(p:D->Bool)(f:D->D)(z:iN ts<=100000)(t:∀x∈ts,∃a b,x=cN [a,b])
  (u:∀a b q,cN [a,b]∈ts->q (p (cN [a,b]))->j (((kX d c).set 0 (.val a)).set 1 (.val b)) q)
  (w:∀a b q,cN [a,b]∈ts->q (f (cN [a,b]))->g (((kX d c).set 0 (.val a)).set 1 (.val b)) q) (v:Q (eE ((ts.filter p).map f))):YS d i (gP 0 1) j g c Q:=by
 refine o _ #[z,λk l m=>(∀x y,(l.set 0 (.val x)).set 1 (.val y)=((kX d c).set 0 (.val x)).set 1 (.val y))/\m=((ts.take k).filter p).map f,#[λ_ _=>rfl,1],λk x l m r h=>?_,λl m h=>?_]
 .refine ñ m h λs=>?_;have n:=aU r;let a b Z:=Ç (t x n);subst Z;refine#[Ϛ,a,b,12];rw[s a b];refine u a b _ n ?_;have e:ts.take (k+1)=ts.take k++[cN [a,b]]:=by rw[cE,r];rfl
  cases hb:p (cN [a,b])with
  |true=>
   rw[b8 rfl];refine w a b _ n #[λx y=>CU _ _ _ _ _,2];rw[e,fE,bA];simp[hb]
  |false=>
   rw[a9 cS];refine#[λx y=>CU _ _ _ _ _,2];rw[e,fE,bA];simp[hb]
 .refine ñ m h λ_=>?_;rw[cK];exact v
open PySem.Builtin PySem.Builtin.Str PySem.StrLaws
def QL(c:Nat)(e:List Nat):List Nat->Prop
|[]=>True
|a::L=>(a=c->L.take (iN e)=e)/\QL c e L
section
variable{c:Nat}{e:List Nat}
theorem QL.at:∀{L:List Nat},QL c e L->∀{i:Nat},L[i]?=wz c->(L.drop (i+1)).take (iN e)=e
|a::L,h,0,hi=>h.1 (d7 hi)
|a::L,h,i+1,hi=>QL.at h.2 (i:=i) hi
theorem QL.app(b:QL c e M):∀{p},c∉p->QL c e (p++M)
|[],_=>b
|a::p,h=>#[λz=>c9 (by rw[z];exact aJ ..) h,b.app λz=>h (aE _ z)]
def JS{x:â}(h:QL c e (aO6 x.cps))(i:Nat):subAt x #[(c::e).toArray] i=(x.cps.toList[i]?==wz c):=by
 rw[subAt_eq];show(((x.cps.toList.drop i).take (iN e+1))==c::e)=_
 cases b:x.cps.toList[i]? with
 |none=>
  have:=pT (tW.mp b);rw[this];rfl
 |some a=>
  have d:x.cps.toList.drop i=a::x.cps.toList.drop (i+1):=by
   rw[NT ((aD.mp b).1)];congr 1;exact(aD.mp b).2
  rw[d,YG];by_cases z:a=c
  .subst z;rw[h.at b];simp
  .rw[beq_eq_false_iff_ne.mpr λy=>z (n7 y).1,beq_eq_false_iff_ne.mpr λy=>z (d7 y)]
theorem QL.room{L:List Nat}(h:QL c e L){i:Nat}(a:L[i]?=wz c):i+(iN e+1)<=iN L:=by
 have b:=d9 iN (h.at a);have d:=(aD.mp a).1;rw[bB,dA]at b;lia
theorem C3{x:â}(h:QL c e (aO6 x.cps))(k:iN e<=1)(g:c∉e)(d:Nat):∀(n a:Nat)(st:Array Nat×Nat),(st.snd<=a\/st.snd<=a+1/\x.cps.toList[a]?≠wz c)->dl st.fst<=a->a+n<=d ->
 (jz (V9 a n) st (occBody x #[(c::e).toArray] (v0 x) d)).run.fst.size=dl st.fst+(V9 a n).countP λi=>x.cps.toList[i]?==wz c
|0,_,_,_,_,_=>rfl
|n+1,a,st,h1,h2,h3=>by
 have p:iN x.cps.toList=v0 x:=by simp[v0]
 rw[aFb,II,FH];unfold occBody;by_cases hb:((dl st.fst<d/\st.snd<=a)/\a+v0 (#[(c::e).toArray]:â)<=v0 x)/\subAt x #[(c::e).toArray] a=ww
 .rw[b8 hb];have f:=hb.2;rw[JS h]at f;have o:x.cps.toList[a]?=wz c:=Á f
  have r:=C3 h k g d n (a+1) (st.fst.push a,a+v0 (#[(c::e).toArray]:â)) (by
   show a+(iN e+1)<=a+1\/a+(iN e+1)<=a+1+1/\_
   cases e with
   |nil=>exact j3 (aL _)
   |cons b m=>
    refine i7 #[6,λz=>g ?_];have j:(((x.cps.toList.drop (a+1)).take (iN (b::m)))[0]?)=wz c:=by rw[NW dN,mS];exact z
    rw[(h.at o)]at j;rw[<- d7 j];exact aJ ..) (by rw[ID];exact Ō) cT
  rw[b8 f];refine r.trans ?_;rw[ID];exact Nat.add_right_comm _ _ _
 .rw[a9 hb]
  have f:¬((x.cps.toList[a]?==wz c)=ww):=λq=>hb (by
   have l:x.cps.toList[a]?=wz c:=Á q
   exact#[#[#[6,h1.elim id λz=>c9 l z.2],by rw[<- p];exact h.room l],by rw[JS h];exact q])
  rw[a9 f];exact(C3 h k g d n (a+1) (st.fst,st.snd) (j3 (by show st.snd<=a+1;lia)) (by show dl st.fst<=a+1;exact ō) cT)
end
theorem D6(c:Nat):∀L:List Nat,(eZ (iN L)).countP (λi=>L[i]?==wz c)=L.count c
|[]=>rfl
|a::L=>by
 rw[bE,QO,FH,IK,List.count_cons,<- D6 c L];have b:((λi=>(a::L)[i]?==wz c)∘Nat.succ)=λi=>L[i]?==wz c:=by funext i;rfl
 rw[b];congr 1
theorem aHc{x:â}{c:Nat}{e:List Nat}(h:QL c e (aO6 x.cps))(b:iN e<=1)(a:c∉e):iN (occurrences x #[(c::e).toArray] 0 x.length (x.length+1))=x.cps.toList.count c:=by
 rw[occ_eq,eY];rw[(C3 h b a (v0 x+1) (v0 x+1-0) 0 ((Ŭ []),0) (j3 (aL _)) (aL _) cT)];have d:iN x.cps.toList=v0 x:=by simp[v0]
 show 0+_=_;rw[iE,xZ,<- List.range_eq_range',rQ,List.countP_append,<- d,D6]
 have:([iN x.cps.toList].countP λi=>x.cps.toList[i]?==wz c)=0:=by
  rw[List.countP_singleton,eW (aL _)];rfl
 rw[this];rfl
def XJ(c:Nat)(e:List Nat):List (List Nat)->List Nat
|[]=>[]
|[p]=>p
|p::q::r=>p++c::(e++XJ c e (q::r))
abbrev jn(c:Nat):List (List Nat)->List Nat:=XJ c []
theorem BL(c:Nat)(e:List Nat):∀a,(ax #[(c::e).toArray] a).cps.toList=XJ c e (a.map (·.cps.toList))
|[]=>rfl
|[p]=>rfl
|p::q::r=>by
 have b:=BL c e (q::r);show(p++#[(c::e).toArray]++ax #[(c::e).toArray] (q::r)).cps.toList=_
 have app:∀x y:â,(x++y).cps.toList=aO6 x.cps++aO6 y.cps:=λx y=>by
  show(Ĉ x++Ĉ y).toList=_;simp
 rw[app,app,b,dM]
 rfl
def VC(c:Nat)(a:List â):(ax #[(Ŭ [c])] a).cps.toList=jn c (a.map (·.cps.toList)):=BL c [] a
theorem PD{c:Nat}(a:c∉e):∀p r,(XJ c e (p::r)).count c=iN r+Ċ ((p::r).map (Y7 c))
|p,[]=>by show p.count c=0+(p.count c+0);lia
|p,q::r=>by
 have b:=PD a q r;show(p++c::(e++XJ c e (q::r))).count c=_;rw[aE3,List.count_cons_self,aE3,Y6.mpr a,b];simp only[bE,aX,eI];lia
theorem Kh{c:Nat}(a:c∉e):∀(p:List Nat)(r:List (List Nat)),(∀l∈p::r,c∉l)->QL c e (XJ c e (p::r))
|p,[],h=>by
 have:=QL.app (e:=e) (M:=[]) trivial (h p (aJ ..))
 rwa [cG]at this
|p,q::r,h=>QL.app (M:=c::(e++XJ c e (q::r))) #[λ_=>List.take_left,(Kh a q r λl b=>h l (aE _ b)).app a] (h p (aJ ..))
theorem Ki(c:Nat)(e:List Nat):∀(p w:List Nat)(r s:List (List Nat)),(∀l∈p::r,c∉l)->(∀l∈w::s,c∉l)->XJ c e (p::r)=XJ c e (w::s)->p::r=w::s
|p,w,[],[],_,_,h=>by
 have:p=w:=h;rw[this]
|p,w,[],q::s,h1,_,h=>by
 have d:p=w++c::(e++XJ c e (q::s)):=h;exact c9 (by rw[d];simp) (h1 p (aJ ..))
|p,w,q::r,[],_,h2,h=>by
 have d:p++c::(e++XJ c e (q::r))=w:=h;exact c9 (by rw[<- d];simp) (h2 w (aJ ..))
|p,w,q::r,t::s,h1,h2,h=>by
 have f:=h1 p (aJ ..);have hw:=h2 w (aJ ..)
 have j:∀(p w a b:List Nat),c∉p->c∉w->p++c::a=w++c::b->p=w/\a=b:=λp=>by
  induction p with
  |nil=>
   intro w a b _ hw e
   cases w with
   |nil=>exact#[1,(n7 e).2]
   |cons y w=>exact c9 (by rw[(n7 e).1];exact aJ ..) hw
  |cons x p n=>
   intro w a b f hw e
   cases w with
   |nil=>exact c9 (by rw[<- (n7 e).1];exact aJ ..) f
   |cons y w=>
    exact Ì (n7 e) λd g=>Ì (n w a b (λz=>f (aE _ z)) (λz=>hw (aE _ z)) g) λk m=>#[by rw[d,k],m]
 let d g:=Ì (j p w _ _ f hw h);rw[d,(Ki c e q t r s (λl i=>h1 l (aE _ i)) (λl i=>h2 l (aE _ i)) (QF g))]
theorem DS{c:Nat}{e:List Nat}(K:n9 #[(c::e).toArray]=1)(I:iN e<=1)(v:c∉e)(w:â)(g:List â)(h:∀x∈w::g,c∉aO6 x.cps):Txt.split (Txt.join #[(c::e).toArray] (w::g)) #[(c::e).toArray]=w::g:=by
 have ext:∀{x y:â},aO6 x.cps=aO6 y.cps->x=y:=λ{x y} h=>by
  cases x with
  |mk a=>
   cases y with
   |mk b=>
    have:a=b:=by simpa using d9 aPe h
    rw[this]
 have inj:∀{r j:List â},r.map (·.cps.toList)=j.map (·.cps.toList)->r=j:=λ{r}=>by
  induction r with
  |nil=>intro j h;cases j with | nil=>rfl | cons _ _=>cases h
  |cons x r E=>
   intro j h
   cases j with
   |nil=>cases h
   |cons y j=>
    rw[aX,aX]at h;let s u:=Ì (n7 h);rw[ext s,E u]
 generalize N:Txt.join #[(c::e).toArray] (w::g)=x
 have p:aO6 x.cps=XJ c e ((w::g).map (·.cps.toList)):=by
  rw[<- N];show(glued _ _).cps.toList=_;rw[glued_eq_join,BL]
 have k:∀l∈(w::g).map (·.cps.toList),c∉l:=λl A=>É l (aM.mp A) λy O=>h y O
 have F:QL c e (aO6 x.cps):=by rw[p];exact Kh v _ _ k
 have H:=aHc F I v
 have ő:∀(q:â)(qs:List â),glued #[(c::e).toArray] (q::qs)=x->iN qs=x.cps.toList.count c->q::qs=w::g:=λq qs t hn=>by
  have o:aO6 x.cps=XJ c e ((q::qs).map (·.cps.toList)):=by rw[<- t,glued_eq_join,BL]
  have z:=PD v (aO6 q.cps) (qs.map (·.cps.toList));rw[<- aX (f:=λy:â=>aO6 y.cps),<- o,aB,hn]at z;have P:Ċ (((q::qs).map (·.cps.toList)).map (Y7 c))=0:=by lia
  have C:∀l∈(q::qs).map (·.cps.toList),c∉l:=λl A B=>by
   have s:l.count c∈((q::qs).map (·.cps.toList)).map (Y7 c):=aM.mpr #[l,A,1]
   have u:∀(ns:List Nat),Ċ ns=0->∀n∈ns,n=0:=λns=>by
    induction ns with
    |nil=>intro _ n hn;simp at hn
    |cons m ns E=>
     intro M n hn;rw[eI]at M;rcases aN.mp hn with rfl | hn
     .lia
     .exact E cT n hn
   have:=u _ P _ s;have:=List.count_pos_iff.mpr B;lia
  refine inj ?_;rw[aX,aX];refine Ki c e _ _ _ _ C k ?_;rw[<- aX (f:=λy:â=>aO6 y.cps),<- aX (f:=λy:â=>aO6 y.cps),<- o,<- p]
 have L:iN x.cps.toList=v0 x:=by simp[v0]
 unfold Txt.split;split
 .next ma=>
  rw[K,rT,j1,j1]at ma
  have s:1<=n9 x:=by
   unfold n9;split
   .lia
   .split<;>lia
  have Q:v0 x<iN e+1:=by
   rcases ma with q | q
   .exact q
   .lia
  refine ő x [] eH (Y6.mpr λB=>?_).symm;let i J:=Ë (cP B);have:=F.room J;lia
 .split
  .next hem=>
   refine ő x [] eH ?_;rw[<- H];have:occurrences x #[(c::e).toArray] 0 (v0 x) (v0 x+1)=[]:=Á hem
   rw[this]
   rfl
  .have d:=iw x (occurrences x #[(c::e).toArray] 0 (v0 x) (v0 x+1)) (v0 (#[(c::e).toArray]:â));have t:=glued_between_self x #[(c::e).toArray] (v0 x+1)
   cases G:partsBetween x (occurrences x #[(c::e).toArray] 0 (v0 x) (v0 x+1)) (v0 (#[(c::e).toArray]:â)) with
   |nil=>rw[G]at d;cases d
   |cons q qs=>
    rw[G]at d t;refine ő q qs t ?_;rw[<- H];rw[bE]at d;lia
def Q4(c:Nat)(b:c<256)(w:â)(a:List â)(h:∀x∈w::a,c∉aO6 x.cps):Txt.split (Txt.join #[(Ŭ [c])] (w::a)) #[(Ŭ [c])]=w::a:=DS (by
 unfold n9;rw[b8 (by simp[b])]) (bZ _) (λz=>by cases z) w a h
end TL
namespace L2
open PySem.Builtin.Str
section
variable{X:Cx}
theorem JK:∀l,fX ((l.map (·.1)).map V.str) (strValues l)
|[]=>tj
|p::l=>Cl #[p.2,1] (JK l)
def Lk:V->ű:=λx a H Q=>∃z y,x=.str z/\a=[.str y]/\(v0 y==0)=wv/\v0 z<=100000/\∀p,H p=wx->Q (.ref p) (fU H p (.u8 ((Txt.split z y).map V.str)))
theorem GQ:S5 X "str.split" Lk:=by
 intro d s w H x E v C Q I r p h;refine Ý h λz y Z Y i ψ=>Ì ψ λB q=>?_;subst Z Y;refine Ù v r λt=>Þ C (oG p) λu o=>Ù u o λf=>?_;have A:bM=2^24:=rfl
 have ő:∀(l:List (â×Tok))(k:Nat),l.map (·.1)=Txt.split z y->iN l<=bM->EP X d w Q (g8 s.heap.objs.size) { s with toks:=k,heap:=s.heap.push { cls:=fx "list",data:=Fr (aPe (strValues l)) } }:=λl k j m=>by
  have c:=I.gs.fresh (aL _);refine#[ϛ,.ref s.heap.objs.size,fU H s.heap.objs.size (.u8 ((Txt.split z y).map V.str)),I.Ķ (λb u e=>aI _ e) (aL _) ?_,1,q _ c];rw[<- j];exact#[by rw[aB,aB];exact m,strValues l,(0),JK l,bD _ eH]
 have g:=StrLaws.occ_length_le z y 0 (v0 z) (v0 z+1);have n:=iw z (occurrences z y 0 (v0 z) (v0 z+1)) (v0 y);cases a:(decide (v0 z<v0 y)||decide (strKind z<strKind y))
 .cases c:Ą (occurrences z y 0 z.length (z.length+1))
  .refine t5 db (ba _ _ _) cr (ci _ _) (meets_str_split_sep z y t f a i c ŀ cT) ?_;rw[strsFrom_eq];refine ő (numbered s.toks _) _ ((numbered_texts _ _).trans ((a9 (dr a)).trans (a9 (dr c))).symm) ?_;have:=d9 iN (numbered_texts s.toks (partsBetween z (occurrences z y 0 (v0 z) (v0 z+1)) (v0 y)));rw[aB]at this;lia
  .exact t5 db (ba _ _ _) cr (ci _ _) (meets_str_split_not_found z y t f a i c) (ő [(z,t)] _ ((a9 (dr a)).trans (b8 c)).symm (by show 1<=bM;decide))
 .exact t5 db (ba _ _ _) cr (ci _ _) (meets_str_split_cannot_occur z y t f a) (ő [(z,t)] _ (b8 a).symm (by show 1<=bM;decide))
def Li(K:aH):V->ű:=λx b H Q=>∃z p a,x=.str z/\b=[.ref p]/\tV K H p (a.map V.str)/\Ċ (a.map (·.length))+iN a*v0 z<=16777216/\Q (.str (Txt.join z a)) H
def aB9:S5 X "str.join" (Li X.K):=by
 intro a s o H x m v l Q I i r h;refine ß h λz p n w Z b y=>Ì y λc q=>?_;subst w Z;refine Ù v i λt=>Þ l (oG r) λu f=>?_;cases f;exact Õ (I.tuple b) λd g e _=>PyProof.Rows.join_tuple e (by simpa using LQ g) c λj k=>#[.str _,H,I.Ĭ k,#[j,1],q]
end
end L2
namespace TL
open L2
section
variable{X:Cx}{e:æ}{a:List æ}{b c:ET}{pos:Pos}
def mZ:CI X s (λ_ _=>False):=#[Ϙ,λ_ _ _=>False,λ_ _ _ _ _ _ h=>h.elim,λ_ _ _ _ _ _ _ _ _ h _=>h.elim]
def aNx(z:â)(d:List D)(Q:D->Prop):Prop:=match d with | [aG y]=>(v0 y==0)=wv/\v0 z<=100000/\Q (eE ((Txt.split z y).map aG)) | _=>False
def HD(A:eX X n c)(w:yU X (e::a) t)
  (G:∀{v b},PE X n v->PA X (e::a) b->PE X (ă (ą n "split" ap) (e::a) [] pos) (WG X.K "str" Lk v b)):eX X (ă (ą n "split" ap) (e::a) [] pos) (KU aNx c t):=Ê A λv I re=>Ê w λS F N=>by
 refine#[Ϙ,_,G I F,λB j H l f s Q P o h k=>re B j H l f s _ _ o h λd x u g J q1=>?_];obtain⟨z,rfl,q1⟩:=q1;cases J;refine#[1,N B j u l f s _ _ (o.fz g) q1 λR T O r L q2=>?_]
 cases L with
 |nil=>exact q2.elim
 |cons m M=>
  cases M with
  |cons _ _=>cases m<;>exact q2.elim
  |nil=>
   cases m with
   |str y=>
    refine í q2 λC E q=>#[ϝ,z,y,7,C,E,λp i=>?_];exact k _ _ _ (g.trans (r.trans (dZ i))) (yG ((o.fz g).fz r).bu i (zZ _)) q
   |_=>exact q2.elim
def aN0(z:â)(f:List D)(Q:D->Prop):Prop:=match f with | [cN ts]=>∃d,ts=d.map aG/\Ċ (d.map (·.length))+iN d*v0 z<=16777216/\Q (aG (Txt.join z d)) | _=>False
def aDn(g:eX X n c)(f:yU X (e::a) t)
  (j:∀{v b},PE X n v->PA X (e::a) b->PE X (ă (ą n "join" ap) (e::a) [] pos) (WG X.K "str" (Li X.K) v b)):eX X (ă (ą n "join" ap) (e::a) [] pos) (KU aN0 c t):=
 KB g f (λH u z p w Q o r h k=>by
  cases r with
  |nil=>exact h.elim
  |cons d l=>
   cases l with
   |cons _ _=>cases d<;>exact h.elim
   |nil=>
    cases d with
    |tuple q s=>
     obtain⟨m,rfl,i,h⟩:=h;have e:=uG s;subst e;exact#[Ϣ,z,_,m,7,bJ.Ő cH q,i,k _ _ H (L2.bJ.refl H) (.str _) h]
    |_=>exact h.elim) j
end
end TL
namespace L2
open PySem.Builtin
section
theorem UZ{ns:List Int}{us}(h:IntsAre us ns):fX (ns.map V.int) us:=by
 induction h with
 |nil=>exact .nil
 |cons n t h i=>exact .cons #[t,1] i
end
end L2
namespace TL
open L2
section
theorem uQ:f6 "sorted"=wz (mt "sorted"):=cR
end
end TL
namespace L2
def HX(K:aH)(cd:á):Prop:=∃c P,cd=g8 c/\ĳ=wz P/\DM K c P=ww
def QK.Ħ{K}{mg:â->Option á}{st}{f:à}{c:jF}{N g:List â}{k:Nat}{i:Sp}(F:QK K x qual st f c)(S:bL N g (aQ st))(len:∀vs H Q E,i vs H Q E->iN vs=iN g)
  (b:∀a,c.code=a->∀A ag s H vs Q E,iL k (A.deeper (j8 qual (aQ st) s.heap.objs.size f a))->i vs H Q E ->
   ∃t,EK (tJ rH P w K mg base N qual (aQ st) f a A ag s H E).nox (mL st) t/\t { nx:=λ_ j=>Q .z8 j,rt:=Q } (oY N vs) H):nG P w K mg base rH (k+1) f c g i:=by
 obtain⟨p,r,kV,l,u,an,a,ct,o,rfl,n,d⟩:=F.ex;let A ag s H vs Q E m e:=Cw n d S len;exact Ê (b a eH A ag s H vs Q E m e) λt h q=>#[Ϙ,t,h.nox,q]
end L2
namespace TL
open L2
def Na{K}{mg:â->Option á}{st}{f:à}{g:jF}{N pn:List â}{k:Nat}{l:QJ}(L:HX K g.code)(F:QK K x qual st f g)(S:bL N pn (aQ st))(len:∀c Q,l c Q->iN c=iN pn)
  (d:∀b,HX K b->∀A ag s H E,iL k (A.deeper (j8 qual (aQ st) s.heap.objs.size f b))->∀c Q,l c Q ->
   ∃t,wG (tJ rH P w K mg base N qual (aQ st) f b A ag s H E).nox (mL st) t/\t { nx:=λ_=>False,rt:=λ_=>False,ro:=Q } (lF N c)):nG P w K mg base rH (k+1) f g pn (jO K l):=by
 let b i A ag s H vs Q E u h:=F.Ħ S (λvs H Q E h=>?_)
 .refine ß h λj c e _ r q _=>?_;rw[<- r.length];exact len c e q
 .refine ß h λj c e bu r q k=>?_;obtain⟨t,⟨m,p,y⟩,h⟩:=d b (i▸L) A ag s H E u c e q;exact#[Ϙ,m,p,y H j H j _ _ _ _ (sB bu r) h #[λ_ _ _ _ _ _ a=>a.elim,λ_ _ _ _ _ _ a=>a.elim,λ_ _ _ _ _ _ a=>a.elim,λ_ _ _ _ _ a=>a.elim,λm p C n B o G v z a=>k m p C n B o v z a,λ_ _ _ _ _ _ _ _ _ _ _ _ _ _ _ _ _ _ a=>a.elim,λ_ _ _ _ _ _ _ _ _ _ _ _ _ _ a=>a.elim,j5]]
def Bp(b:Int)(e:D)(k:Int):Prop:=∃q st top bot,e=cN [q,st,cN [aW top,aW bot]]/\Bn b bot/\QC top (b / bot)/\k=top*(b / bot)
def Bp.rep{K}{b k:Int}(h:Bp b e k)(r:iM K H e x):JC K H b x k:=by
 refine Ò h λq st top bot y z=>í z λd f g=>?_;subst y
 cases r with
 |tuple l a=>
  cases a with
  |cons n a=>
   cases a with
   |cons o a=>
    cases a with
    |cons i a=>
     cases a
     cases i with
     |tuple m c=>
      cases c with
      |cons j c=>
       cases c with
       |cons re c=>
        cases c;cases j;cases re;exact#[33,top,bot,1,l,m,d,f,g]
theorem JC.ī{K}{b k:Int}(h:JC K (TL.ê H ps) b x k):JC K H b x k:=h.same λ_ _ e=>cH _ _ e
def aN5(g:Nat)(t:AT):FT:=λd Q=>t d λf=>∃(a:List D)(b:Int)(c:List Int),f=[eE a]/\iN a<64/\d[g]?=wz (.val (aW b))/\iN c=iN a/\(∀(i:Nat) e k,a[i]?=wz e->c[i]?=wz k->Bp b e k) /\
 ∀J,SS.QI (iN a) (λi=>c.getD i 0) J->Q (J.map λi=>a.getD i ES)
def aC9{X:Cx}{ib:Nat}{k:Nat}{q1 q2 q3 q4}(g:iL (k+3) X.A)(L:HX X.K dm)(hc:X.ak.code=dm)(m:X.N[ib]?=wz "bottom")(hk:X.ak.kindOf "bottom"=wz f7)
  (hg:Gl X "sorted") (hm:X.mg "sorted"=wx) (hv:f6 "sorted"=wz (mt "sorted")) (Z:yU X [e] t)
  (he:j7 pos (bR [e] X.ak)=(wv,è e X.ak)::j7 pos (bR [] X.ak)|>ũ)
  (w:(j7 pos (bR [e] X.ak)).any (·.1)=false|>ũ) :
  X8 X (ă (KK "sorted" np) [e] [#[wz (f8 "key"),.Lambda (Gn ap) (.BinOp (Ć (Ć (KK "entry" p1) (Tm (.int 2) 0 p2) p3) (Tm (.int 0) 0 p4) p5) .Mult (.BinOp (KK "bottom" p6) .FloorDiv (Ć (Ć (KK "entry" p7) (Tm (.int 2) 0 p8) p9) (Tm (.int 1) 0 q1) q2) q3) q4) BJ lp,kp]] pos) (aN5 ib t):=by
 let c P V Y W:=Ø L;subst V;refine Ê Z λta pa ra=>#[Ϙ,_,aAz g Y hc W m hk hg hm hv pa he w,λB p0 H M F σ Q QV o h k=>ra B p0 H M F σ _ _ o h λds vs H1 s1 C q1=>?_];refine ß q1 λl b kz V a hb ψ=>í ψ λp f q=>?_;subst V;let v y z:=Ê (o.val ib _ hb);cases z
 cases C with
 |cons C r2=>
  cases r2
  cases C with
  |@list pp xv _ hs rs=>
   have s:=rs.length;refine#[3,b,kz,1,L2.bJ.seq cH hs,by rw[<- s];exact a,y,by rw[p,s],λi x k0 hx n=>?_,λS R J r E g=>?_]
   .exact Ê (rs.get' hx) λd hd rd=>JC.ī ((f i d k0 hd n).rep rd)
   .rw[<- s]at E;have O:=s1.trans R;refine k _ r _ _ (O.trans (dZ g)) (bJ.ŗ O g) cL ?_ (q J E);rw[nN g]
    have:∀J:List Nat,(∀i∈J,i<iN l)->gq X.K (TL.ê S M) (J.map λi=>l.getD i ES) (J.map λi=>xv.getD i .z8):=by
     intro J G
     induction J with
     |nil=>exact .nil
     |cons j J ih=>
      refine .cons ?_ (ih λi hi=>G i (aE _ hi));have I:=G j (aJ ..);let u T U:=Ê ((rs.same (bU R)).get (aC I));show iM _ _ (l.getD j ES) (xv.getD j .z8);rw[cU,cU,T,aC I];exact U
    exact this J E.lt
end TL
namespace L2
def QD(K:aH)(cd:á)(P:à):Bool:=match cd with | g8 c=>DM K c P | _=>wv
def aNe{K cd}{P:à}(h:QD K cd P=ww)(e:ĳ=wz P):HX K cd:=by
 cases cd with
 |ref c=>exact#[ϛ,c,P,1,e,h]
 |_=>cases h
def aL1{h:ç}{c P:à}(C:aEy h c P)(e:h.get? P=wz { cls:=o0,data:=Id (Ŭ []) }):bq h P:=(C.tab e).isCodeTable
end L2
namespace TL
open L2
section
def aH3{K}{mg:â->Option á}{k:Nat}{f:à}{pn}{d b:QJ}(F:nG P w K mg base rH k f fd pn (jO K d))(h:∀a Q,b a Q->d a Q):nG P w K mg base rH k f fd pn (jO K b):=
 F.imp λvs H Q E #[l,a,c,e,g,i,j]=>#[ϡ,l,a,c,e,g,h a c i,j]
end
structure vS where
 I:Type
 S:Type
 ad:I->List à
 Ē:I->D
 At:I->aH->Hp->List à->S->Prop
 to:∀{T:I}{K:aH}{H H':Hp}{ps z5:List à}{n:S},At T K H ps n->(∀a∈ad T,H' a=H a)->bJ (ê H ps) (ê H' z5)->At T K H' z5 n
 liv:∀{T:I}{K:aH}{H:Hp}{ps:List à}{n:S},At T K H ps n->∀a∈ad T,CK (H a)
 inj:∀{T T':I},Ē T=Ē T'->T=T'
def iQ(c:List à)(H b:Hp):Prop:=∀a o,a∉c->H a=wz o->b a=wz o
section
variable{K:aH}{H k w x B:Hp}{l g m:List à}{f:List Sl}{p:L2.St}
def iQ.of(s:bJ H k):iQ m H k:=λa o _ e=>s a o e
def iQ.refl:iQ m H H:=λ_ _ _ e=>e
def iQ.trans(s:iQ m H w)(t:iQ m w x):iQ m H x:=λa o n e=>t a o n (s a o n e)
theorem iQ.ī(c:∀a∈m,a∈g)(s:iQ m H k):bJ (ê H g) (ê k g):=λa o e=>by
 unfold TL.ê at e |-
 by_cases b:a∈g
 .rw[b8 b]at e;cases e
 .rw[a9 b]at e |-
  exact s a o (λz=>b (c a z)) e
def Ok.growZ(o:Ok K B l H g f p)(hp:∀a∈m,a∈l)(hB:∀a∈m,B a=wx)(s:iQ m H k)(hl:∀a∈m,CK (k a)):Ok K B l k g f p where
 base:=λa u e=>s a u (λz=>by rw[hB a z]at e;cases e) (o.base a u e)
 sub:=o.sub
 bu:=λq hq=>by
  by_cases e:q∈m
  .exact hl q e
  .exact Ê (o.bu q hq) λu h1 h2=>#[u,s q u e h1,h2]
 len:=o.len
 val:=λi d h=>let ⟨v,h1,h2⟩:=o.val i d h;#[v,h1,h2.same (s.ī λa z=>o.sub a (hp a z))]
 own:=λi ts h=>let ⟨q,xs,h1,h2,h3,h4,h5,h6⟩:=o.own i ts h;#[Ϟ,q,xs,h1,h2,h3,h4,s q _ (λz=>h4 (hp q z)) h5,h6.same (s.ī λa z=>o.sub a (hp a z))]
 Ī:=o.Ī
 dc:=o.dc.to (λj hs bt h=>#[h,1]) (λq φ a b c=>#[a,(s q _ (λz=>c (hp q z)) b).trans b.symm]) (λq φ _ _ a b=>#[a,b]) (s.ī λa z=>o.sub a (hp a z))
variable{F:vS}{T:F.I}{n y:F.S}
def vS.At.fz(t:F.At T K H g n)(s:bJ H k):F.At T K k g n:=F.to t (λa c=>Ê (F.liv t a c) λu b _=>by rw[b];exact s a u b) (bU s)
structure rO(F:vS)(K:aH)(B:Hp)(l:List à)(H:Hp)(g:List à)(f:List Sl)(p:L2.St)(T:F.I)(n:F.S):Prop where
 ok:Ok K B l H g f p
 mem:∀a∈F.ad T,a∈l
 nb:∀a∈F.ad T,B a=wx
 tp:F.At T K H g n
def rO.Ľ(o:rO F K B l H g f p T n):∀a∈F.ad T,a∈g:=λa h=>o.ok.sub a (o.mem a h)
theorem rO.fz(o:rO F K B l H g f p T n)(s:bJ H k):rO F K B l k g f p T n:=#[o.ok.fz s,o.mem,o.nb,o.tp.fz s]
def rO.ř(o:rO F K B l H g f p T n)(s:iQ (F.ad T) H k)(t:F.At T K k g y):rO F K B l k g f p T y:=#[o.ok.growZ o.mem o.nb s (F.liv t),o.mem,o.nb,t]
theorem rO.set(o:rO F K B l H g f p T n){i:Nat}{v}(r:iM K (ê H g) d v):rO F K B l H g (f.set i (.val d)) (p.set i (wz v)) T n:=#[o.ok.set r,o.mem,o.nb,o.tp]
end
section
variable{F:vS}
abbrev EZ(F:vS):=D->F.S->List Sl->(F.S->D->Prop)->Prop
abbrev AZ(F:vS):=D->F.S->List Sl->(F.S->List D->Prop)->Prop
abbrev TZ(F:vS):=D->F.S->List Sl->(F.S->Bool->Prop)->Prop
def xU(X:Cx)(e:æ)(t:EZ F):Prop:=∃h,PE X e h/\∀B j H c a i T n Q f,rO F X.K B j H c a i T n->t (F.Ē T) n a Q ->
 (∀g d v b,iQ (F.ad T) H b->F.At T X.K b c g->iM X.K (ê b c) d v->Q g d->f v b)->h i H f
def V3(X:Cx)(i:List æ)(t:AZ F):Prop:=∃g,PA X i g/\∀B j H c a h T n Q d,rO F X.K B j H c a h T n->t (F.Ē T) n a Q ->
 (∀f e vs b,iQ (F.ad T) H b->F.At T X.K b c f->gq X.K (ê b c) e vs->Q f e->d vs b)->g h H d
def kS(X:Cx)(e:æ)(t:TZ F):Prop:=∃h,PT X e h/\∀B j H g a i T n Q d,rO F X.K B j H g a i T n->t (F.Ē T) n a Q ->
 (∀f b c,iQ (F.ad T) H c->F.At T X.K c g f->Q f b->d b c)->h i H d
def Av(X:Cx)(e:æ)(t:TZ F):Prop:=∃h,PW X e h/\∀B j H g a i T n Q d,rO F X.K B j H g a i T n->t (F.Ē T) n a Q ->
 (∀f b c,iQ (F.ad T) H c->F.At T X.K c g f->Q f b->d b c)->h i H d
section
variable{X:Cx}{a b e:æ}{i:List æ}{j l C:EZ F}{pos:Pos}
def zE(t:ET):EZ F:=λ_ n c Q=>t c (Q n)
def mP(h:eX X e t):xU (F:=F) X e (zE t):=Ê h λv p r=>#[Ϙ,v,p,λB m H u c x T n Q g o h k=>r B m H u c x (Q n) g o.ok h λd v f s w q=>k n d v f (.of s) (o.tp.fz s) w q]
def zA(t:AT):AZ F:=λ_ n c Q=>t c (Q n)
def mC(h:yU X i t):V3 (F:=F) X i (zA t):=Ê h λv p r=>#[Ϙ,v,p,λB m H u c x T n Q g o h k=>r B m H u c x (Q n) g o.ok h λd v f s w q=>k n d v f (.of s) (o.tp.fz s) w q]
def zT(t:yT):TZ F:=λ_ n c Q=>t c (Q n)
def yZ(h:LB X e t):kS (F:=F) X e (zT t):=Ê h λv p r=>#[Ϙ,v,p,λB g H m c u T n Q f o h k=>r B g H m c u (Q n) f o.ok h λb d s q=>k n b d (.of s) (o.tp.fz s) q]
def zm(f:ų)(j l:EZ F):EZ F:=λd n c Q=>j d n c λn1 x=>l d n1 c λg y=>f x y (Q g)
def GF{f:ų}(R:AN X r f){J L:TE}
  (U:∀B t H m c p T n Q q,rO F X.K B t H m c p T n->j (F.Ē T) n c Q->(∀s d v g,iQ (F.ad T) H g->F.At T X.K g m s->iM X.K (ê g m) d v->Q s d->q v g)->J p H q)
  (hb:∀B t H m c p T n Q q,rO F X.K B t H m c p T n->l (F.Ē T) n c Q->(∀s d v g,iQ (F.ad T) H g->F.At T X.K g m s->iM X.K (ê g m) d v->Q s d->q v g)->L p H q)
  (B:Hp) (t:List à) (H:Hp) (m:List à) (c:List Sl) (p:L2.St) (T:F.I) (n:F.S) (Q:F.S->D->Prop) (q:VK) (o:rO F X.K B t H m c p T n) (h:zm f j l (F.Ē T) n c Q) (k:∀s d v g,iQ (F.ad T) H g->F.At T X.K g m s->iM X.K (ê g m) d v->Q s d->q v g):ym r J L p H q:=by
 let n1 O x M E t1 Z q1:=U B t H m c p T n _ _ o h;have z:=o.ř E t1;let w P y N u G r2 q2:=hb B t M m c p T n1 _ _ z q1;exact R N m O P x y (Q w) q (z.ř u G).ok.bu (Z.same (u.ī o.Ľ)) r2 q2 λd v g A Y W=>k w d v g ((E.trans u).trans (.of A)) (G.fz A) Y W
def SM{f:ų}(h:oU X (e9 op) r)(c:AN X r f)(d:xU X a j)(hb:xU X b l)(g:d8 op b=false|>Ţ):xU X (Ty a [op] [b] pos) (zm f j l):=Ê d λp k n=>Ê hb λq m o=>#[Ϙ,_,UN h k m g,GF c n o]
def Rr{f:ų}(g:hH X r)(c:AN X r f)(d:xU X a j)(hb:xU X b l)(h:FG b|>š):xU X (Ć a b pos) (zm f j l):=Ê d λp k n=>Ê hb λq m o=>#[Ϙ,_,GD g k m h,GF c n o]
def Fz:AZ F:=λ_ n _ Q=>Q n []
def aPt(t:EZ F)(r:AZ F):AZ F:=λd n c Q=>t d n c λn1 x=>r d n1 c λf g=>Q f (x::g)
def vQ:V3 (F:=F) X [] Fz:=#[Ϙ,_,mJ,λ_ _ H _ _ _ _ _ _ _ o h k=>k _ _ _ H .refl o.tp .nil h]
def kR{tr}(t:xU X e C)(u:V3 X i tr)(v:bR (e::i) X.ak=(wv,è e X.ak)::bR i X.ak|>ũ):V3 X (e::i) (aPt C tr):=Ê t λN w E=>Ê u λO y G=>by refine#[Ϙ,_,gT w y v,λB f H g c q T n Q K o h k=>E B f H g c q T n _ _ o h λn1 d x r m I z q1=>?_];let M L P s p J A q2:=G B f r g c q T n1 _ _ (o.ř m I) q1;exact k _ _ _ s (m.trans p) J (.cons (z.same (p.ī o.Ľ)) A) q2
def Qc(t:AZ F):EZ F:=λf n d Q=>t f n d λn1 c=>iN c<=1000/\Q n1 (cN c)
def SL{t:AZ F}(h:V3 X i t):xU X (.Tuple i x1 pos) (Qc t):=Ê h λv p r=>by refine#[Ϙ,_,RH p,λB s H u d w T n Q y o h k=>r B s H u d w T n _ _ o h λn1 z A x g m f q1=>#[yL (by rw[<- f.length];exact q1.1),λq c=>?_]];exact k _ _ _ _ (g.trans (.of (dZ c))) (m.fz (dZ c)) (vE (o.ř g m).ok.bu c f) q1.2
def I3(f:ů)(t:AZ F):EZ F:=λg n d Q=>t g n d λn1 c=>f c (Q n1)
def Rq{r:ű}{f:ů}{t:AZ F}(A:sL X r f)(z:V3 X (e::i) t)(I:∀{j:TA},PA X (e::i) j->PE X (ă g (e::i) [] pos) (YO r j)):xU X (ă g (e::i) [] pos) (I3 f t):=Ê z λv G M=>by refine#[Ϙ,_,I G,λB E H m c O T n Q x o h k=>M B E H m c O T n _ _ o h λn1 y N w q s L q1=>?_];exact A w m y N (Q n1) x (o.ř q s).ok.bu L q1 λd v u p K J=>k n1 d v u (q.trans (.of p)) (s.fz p) K J
def xK{k:Nat}{f:à}{pn:List â}{c:kK}{x:â}{t:AZ F}(F:nG X.prog X.w X.K X.mg X.base rH k f fd pn (lG X.K c))(U:X.mg x=wz (g8 f))(S:gZ X.K (g8 f)=ww)(hb:sO X.K fd pn [])
  (W:iL k X.A) (z:V3 X (e::i) t) (I:∀{j:TA},PA X (e::i) j->PE X (ă (KK x p) (e::i) [] pos) (JQ (lG X.K c) [] E0 j)):xU X (ă (KK x p) (e::i) [] pos) (I3 c t):=Ê z λv G N=>by refine#[Ϙ,_,I G,λB E H m g O T n Q R o h k=>N B E H m g O T n _ _ o h λn1 y Y P r s M q1=>?_];rw[cG];exact#[ϡ,m,y,Q n1,(o.ř r s).ok.bu,M,q1,λd v u q L J=>k n1 d v u (r.trans (.of q)) (s.fz q) L J]
abbrev zD(F:vS):=D->F.S->List D->(F.S->D->Prop)->Prop
def kE(K:aH)(m:zD F):Sp:=λvs H Q _=>∃c T n h g,(∀p∈c,CK (H p))/\(∀a∈F.ad T,a∈c)/\F.At T K H c n/\gq K (ê H c) h vs/\m (F.Ē T) n h g /\
 ∀k d v f,iQ (F.ad T) H f->F.At T K f c k->iM K (ê f c) d v->g k d->Q v f
def Ja(f:zD F)(t:AZ F):EZ F:=λc n g Q=>t c n g λn1 d=>f c n1 d Q
def aH9{k:Nat}{f:à}{fd:jF}{pn:List â}{q:zD F}{x:â}{t:AZ F}(w:V3 X (e::i) t)(E:∀{j:TA},PA X (e::i) j->PE X (ă (KK x p) (e::i) [] pos) (JQ (kE X.K q) [] E0 j)):xU X (ă (KK x p) (e::i) [] pos) (Ja q t):=Ê w λv A L=>by refine#[Ϙ,_,E A,λB z H g c O T n Q R o h k=>L B z H g c O T n _ _ o h λn1 u S P m r J q1=>?_];rw[cG];exact#[ϥ,g,T,n1,u,Q,(o.ř m r).ok.bu,o.Ľ,r,J,q1,λy d v s M N I G=>k y d v s (m.trans M) N I G]
def Ga(t:EZ F):TZ F:=λd n c Q=>t d n c λn1 x=>match x with | QM b=>Q n1 b | _=>False
def pV{f:ų}(u:oU X (e9 op) r)(q:AN X r f)(s:xU X a j)(hb:xU X b l)(t:d8 op b=false|>Ţ):kS X (Ty a [op] [b] pos) (Ga (zm f j l)):=Ê s λO z I=>Ê hb λP A J=>by
 refine#[Ϙ,_,UI u z A t,λB y H E g M T n Q N o h k=>?_];let w d v p K L G m:=GF q I J B y H E g M T n (λn1 x=>match x with | QM b=>Q n1 b | _=>False) _ o h
 cases G with
 |bool c=>exact#[Ϙ,c,1,k w c p K L m]
 |_=>exact m.elim
variable{m z:TZ F}{jU:List æ}
def aPn(t:TZ F):TZ F:=λd n c Q=>t d n c λn1 b=>Q n1 (!b)
def Py(t u:TZ F):TZ F:=λd n c Q=>t d n c λn1 b=>if b=ww then Q n1 ww else u d n1 c Q
def ZI(h:kS X a m):kS X (.UnaryOp .Not a pos) (aPn m):=Ê h λv p r=>#[Ϙ,_,Le p,λB f H g c u T n Q w o h k=>r B f H g c u T n _ _ o h λn1 b d s t q=>k _ _ d s t q]
def TK(h:Av X e m):kS X e m:=Ê h λv p r=>#[Ϙ,_,p.pt,r]
def LM(h:kS X a m):Av X (ÿ .Or [a] pos) m:=Ê h λv p r=>#[Ϙ,_,Lf p,r]
def TM(u:kS X a m)(hb:Av X (ÿ .Or (b::jU) pos) z):Av X (ÿ .Or (a::b::jU) pos) (Py m z):=Ê u λK w A=>Ê hb λL x E=>by
 refine#[Ϙ,_,Ib w x,λB p H q d s T n Q J o h k=>A B p H q d s T n _ _ o h λn1 c g f r q1=>?_]
 cases c with
 |true=>exact k _ _ g f r q1
 |false=>exact E B p g q d s T n1 Q _ (o.ř f r) q1 λv b t G I y=>k v b t (f.trans G) I y
end
end
section
variable{F:vS}
def rO.with{K:aH}{H B:Hp}{a b:List à}{c:List Sl}{d:L2.St}{T:F.I}{n:F.S}(o:rO F K B a H b c d T n)(e:Ok K B a H b u5 v7):rO F K B a H b u5 v7 T n:=#[e,o.mem,o.nb,o.tp]
structure QB(F:vS) where
 nx:F.S->List Sl->Prop
 rt:F.S->D->Prop
 bk:F.S->List Sl->Prop:=λ_ _=>False
 ct:F.S->List Sl->Prop:=λ_ _=>False
 xB:Hp->List à->Prop:=λ_ _=>True
abbrev SZ(F:vS):=D->QB F->F.S->List Sl->Prop
structure LC(F:vS)(K:aH)(B:Hp)(p0:List à)(H:Hp)(ps:List à)(T:F.I)(DC:QB F)(DV:aEv):Prop where
 nx:∀H' z5 u5 v7 n',rO F K B p0 H' z5 u5 v7 T n'->bJ (ê H ps) (ê H' z5)->DC.nx n' u5->DV.nx v7 H'
 bk:∀H' z5 u5 v7 n',rO F K B p0 H' z5 u5 v7 T n'->bJ (ê H ps) (ê H' z5)->DC.bk n' u5->DV.bk v7 H'
 ct:∀H' z5 u5 v7 n',rO F K B p0 H' z5 u5 v7 T n'->bJ (ê H ps) (ê H' z5)->DC.ct n' u5->DV.ct v7 H'
 rt:∀n' d v H',bJ B H'->F.At T K H' p0 n'->iM K (ê H' p0) d v->DC.rt n' d->DV.rt v H'
 xb:DC.xB B p0
def D9(X:Cx)(st:é)(t:SZ F):Prop:=∃f,PS X st f/\∀B d H e a g T n b c,rO F X.K B d H e a g T n->t (F.Ē T) b n a->LC F X.K B d H e T b c->f c g H
def B8(X:Cx)(st:List é)(t:SZ F):Prop:=∃f,EK X st f/\∀B d H e a g T n b c,rO F X.K B d H e a g T n->t (F.Ē T) b n a->LC F X.K B d H e T b c->f c g H
section
variable{K:aH}{H c B:Hp}{g k:List à}{l:List Sl}{m:L2.St}{T:F.I}{n:F.S}
def LC.ł(f:LC F K B g H k T DC DV)(e:bJ (ê H k) (ê c z5)):LC F K B g c z5 T DC DV:=
 #[λ_ _ _ _ _ o s q=>f.nx _ _ _ _ _ o (e.trans s) q,λ_ _ _ _ _ o s q=>f.bk _ _ _ _ _ o (e.trans s) q,λ_ _ _ _ _ o s q=>f.ct _ _ _ _ _ o (e.trans s) q,f.rt,f.xb]
def KE(B:Hp)(b:List à)(H:Hp):Hp:=λa=>if a∈b then H a else B a
def VD{a:à}(h:a∈as):KE B as H a=H a:=b8 h
def BK{a:à}(h:a∉as):KE B as H a=B a:=a9 h
def C6(h:∀a∈as,B a=wx):bJ B (KE B as H):=λa u e=>by
 rw[BK λz=>by rw[h a z]at e;cases e];exact e
def rO.up(o:rO F K B g H k l m T n):Ok K (KE B (F.ad T) H) g H k l m where
 base:=λa u e=>by
  by_cases z:a∈F.ad T
  .rw[VD z]at e;exact e
  .rw[BK z]at e;exact o.ok.base a u e
 sub:=o.ok.sub
 bu:=o.ok.bu
 len:=o.ok.len
 val:=o.ok.val
 own:=λi ts h=>let ⟨q,xs,h1,h2,h3,h4,h5,h6⟩:=o.ok.own i ts h;#[Ϟ,q,xs,h1,h2,by rw[BK λz=>h4 (o.mem q z)];exact h3,h4,h5,h6]
 Ī:=o.ok.Ī
 dc:=o.ok.dc.to (λj hs bt h=>#[h,1]) (λq φ a b _=>#[a,1]) (λq φ _ _ a b=>#[by rw[BK λz=>b (o.mem q z)];exact a,b]) (L2.bJ.refl _)
def rO.down(o:rO F K B g H k l m T n)(o':Ok K (KE B (F.ad T) H) g c z5 u5 v7)(s:bJ (ê H k) (ê c z5)):rO F K B g c z5 u5 v7 T n where
 ok:=#[(C6 o.nb).trans o'.base,o'.sub,o'.bu,o'.len,o'.val,λi ts h=>let ⟨q,xs,h1,h2,h3,h4,h5,h6⟩:=o'.own i ts h;#[Ϟ,q,xs,h1,h2,bJ.ŗ (C6 o.nb) h3,h4,h5,h6],o'.Ī,o'.dc.to (λj hs bt h=>#[h,1]) (λq φ a b _=>#[a,1]) (λq φ _ _ a b=>#[bJ.ŗ (C6 o.nb) a,b]) (L2.bJ.refl _)]
 mem:=o.mem
 nb:=o.nb
 tp:=F.to o.tp (λa ha=>Ê (F.liv o.tp a ha) λu e _=>by rw[e];exact o'.base a u (by rw[VD ha];exact e)) s
def aDe{p:QB F}(o:rO F K B g H k l m T n)(f:LC F K B g H k T p DV):S7 K (KE B (F.ad T) H) g H k { nx:=p.nx n,rt:=λ_=>False,bk:=p.bk n,ct:=p.ct n } DV:=
 #[λc e a h j i b=>f.nx c e a h n (o.down j i) i b,λc e a h j i b=>f.bk c e a h n (o.down j i) i b,λc e a h j i b=>f.ct c e a h n (o.down j i) i b,
  λd v c i q b=>b.elim,
  λ_ _ _ _ _ _ _ _ _ b=>b.elim,λ_ _ _ _ _ _ _ _ _ _ _ _ _ _ _ _ _ _ b=>b.elim,λ_ _ _ _ _ _ _ _ _ _ _ _ _ _ b=>b.elim,j5]
end
section
variable{X:Cx}{a b c e:æ}{l:List æ}{j:EZ F}{pos:Pos}{st:é}{jU:List é}{t u:SZ F}
def zP(t:xS):SZ F:=λ_ d n f=>t { nx:=d.nx n,rt:=λ_=>False,bk:=d.bk n,ct:=d.ct n } f
def lB{t}(h:CI X st t):D9 (F:=F) X st (zP t):=Ê h λm p r=>by refine#[Ϙ,m,p,λB i H k d q T n s g o h f=>?_];exact r _ i H k d q _ g o.up h (aDe o f)
def ZD:SZ F:=λ_ d n f=>d.nx n f
def AS(t u:SZ F):SZ F:=λf d n g=>t f { d with nx:=u f d } n g
def jC:B8 (F:=F) X [] ZD:=#[Ϙ,_,UJ,λB p H g d i T n k m o h f=>f.nx H g d i n o (L2.bJ.refl _) h]
def cA(s:D9 X st t)(v:B8 X jU u):B8 X (st::jU) (AS t u):=Ê s λK p1 C=>Ê v λI y E=>by refine#[Ϙ,_,pA p1 y,λB q H z p J T n g i o h f=>C B q H z p J T n { g with nx:=u (F.Ē T) g } { i with nx:=I i } o h #[λr k d m w x G A=>?_,f.bk,f.ct,f.rt,f.xb]];exact E B q r k d m T w g i x A (f.ł G)
def dP(d:D9 X st t):B8 X [st] t:=Ê d λg p1 f=>#[Ϙ,_,E4 p1,f]
def Qb(j:EZ F):SZ F:=λg d n f=>j g n f d.rt
def jB(h:xU X e j):D9 X (.Return (wz e) pos) (Qb j):=Ê h λv p r=>by refine#[Ϙ,_,C1 p,λB q H s g A T n C E o h f=>r B q H s g A T n _ _ o h λm d x k z i y w=>?_];exact f.rt m d x k (o.ř z i).ok.base (F.to i (λ_ _=>rfl) (iO o.ok.sub)) (y.same (iO o.ok.sub)) w
def yk(c:TZ F)(t u:SZ F):SZ F:=λf g n d=>c f n d λn1 b=>if b=ww then t f g n1 d else u f g n1 d
def lD{c a b}(x:kS X c tc)(w:B8 X a t)(hb:B8 X b u):D9 X (.If c a b pos) (yk tc t u):=Ê x λL A G=>Ê w λJ y C=>Ê hb λK z E=>by
 refine#[Ϙ,_,Ia A y z,λB i H k g m T n p q o h f=>G B i H k g m T n _ _ o h λn1 d r v I q1=>?_];have s:=o.ř v I;have f1:=f.ł (v.ī o.Ľ)
 cases d with
 |true=>exact C B i r k g m T n1 p q s q1 f1
 |false=>exact E B i r k g m T n1 p q s q1 f1
def Au(i:Nat)(j:EZ F):SZ F:=λh g n f=>j h n f λn1 d=>g.nx n1 (f.set i (.val d))
def wO{i:Nat}(h:xU X e j)(g:∀{v},PE X e v->PS X (Ā [KK x pos'] e pos) (wN v (mO i))):D9 X (Ā [KK x pos'] e pos) (Au i j):=Ê h λv p r=>by refine#[Ϙ,_,g p,λB y H m k E T n G I o h f=>r B y H m k E T n _ _ o h λw d x s q C A z=>?_];exact f.nx s m _ _ w ((o.ř q C).set A) (q.ī o.Ľ) z
def Fx(q:IT)(g:GT)(p:SZ F):SZ F:=λr f n o=>q o λi=>∃P:Nat->F.S->List Sl->Prop,P 0 n o /\
 (∀k m x d,i[k]?=wz x->P k m d->g x d λh=>p r { f with nx:=P (k+1),ct:=P (k+1),bk:=f.nx } m h)/\∀m d,P (iN i) m d->f.nx m d
theorem ZT{js}{tb:SZ F}(he:V2 X tg js ti)(hg:P7 X tg g)(hb:B8 X body tb)
  (pf:∀{wi:TI}{Y:TG}{bv:TS},PI X tg js wi->PG X tg Y->EK X body bv->PS X (.For tg js body [] pos) (Cp wi Y bv)):D9 X (.For tg js body [] pos) (Fx ti g tb):=Ê he λve pe re=>Ê hg λY pg rg=>Ê hb λvb pb rb=>by
 refine#[Ϙ,_,pf pe pg pb,λB G H S Q σ T n DC DV o h f=>re B G H S Q σ _ _ o.ok h λN J H1 s1 rj q1=>?_];refine Õ q1 λP h0 hs hd=>#[Ϙ,λi m r v=>m=iN N-i/\i<=iN N/\∃c p d,rO F X.K B G v p d r T c/\bJ (ê H1 S) (ê v p)/\P i c d,#[0,bZ _,n,S,Q,o.fz s1,L2.bJ.refl _,h0],2];rintro i m r v ⟨rfl,lj,c,p,d,o',U,p'⟩;have sH:=U.trans cH;have f':=f.ł ((bU s1).trans U);by_cases x:i<iN N
 .refine i7 #[rj.go i v sH x,λO w=>∃c2 I s,rO F X.K B G w I s O T c2/\bJ (ê H1 S) (ê w I)/\P (i+1) c2 s,λO w z=>#[iN N-(i+1),Ŋ,1,x,z],λy w Z=>?_];let s2 dx hx rx:=Ï (rj.yld i v p y w o'.ok.bu U x Z);have f2:=f'.ł (bU s2);have L:=U.trans (bU s2);have o2:=o'.fz s2;let R kj o3 u q3:=rg B G w p d r dx y _ _ o2.ok rx (hs i c dx d hx p');exact rb B G w p R kj T c _ _ (o2.with o3) q3 #[λW q k A C E M q4=>#[Ϡ,C,q,k,E,L.trans M,q4],λW q k A C E M q4=>f2.nx W q k A C E M q4,λW q k A C E M q4=>#[Ϡ,C,q,k,E,L.trans M,q4],f2.rt,f2.xb]
 .obtain rfl:i=iN N:=by lia
  exact j3 #[rj.stop _ v sH (aL _),f'.nx v p d r c o' (L2.bJ.refl _) (hd c d p')]
def kM(H:Hp)(d:List à):Hp:=λa=>if a∈d then wx else H a
def XS{mg:â->Option á}{K st}{f:à}{N pn:List â}{k:Nat}{W:zD F}(Fn:QK K x qual st f fd)(S:bL N pn (aQ st))
  (y:∀{m}{A:g3}{ag}{s:ã}{H E},iL k (A.deeper (j8 qual (aQ st) s.heap.objs.size f m))->aYv N->∀(Y:F.I)(n:F.S)(g:List D)(Q:F.S->D->Prop),W (F.Ē Y) n g Q ->
   ∃t,B8 (tJ rH P w K mg base N qual (aQ st) f m A ag s H E).nox (mL st) t/\t (F.Ē Y) { nx:=λn _=>Q n ES,rt:=Q } n (lF N g)) (len:∀τ n g Q,W τ n g Q->iN g=iN pn:=by intro τ n g Q h;(repeat obtain⟨_,h⟩:=h)<;>subst_vars<;>rfl):nG P w K mg base rH (k+1) f fd pn (kE K W):=by
 let m A ag s H vs Q E hr h:=Fn.ok S (λvs H Q E h=>?_)
 .refine Ô h λz T n j=>ì j λg L _ _ _ r q _=>?_;rw[<- r.length];exact len _ _ g L q
 .refine Ô h λz T n j=>ì j λg L bu hp tp r q k=>?_;obtain⟨t,⟨ts,p,rd⟩,h⟩:=y hr S.nd T n g L q;have o:=sB (N:=N) bu r
  have O:∀(i:Nat)(J:List D),(lF N g)[i]?≠wz (.own J):=λi J e=>ì (o.own i J e) λq _ _ _ M _ G _=>by rw[M]at G;cases G
  have sW:bJ (kM H (F.ad T)) H:=λa u e=>by
   unfold kM at e;split at e
   .cases e
   .exact e
  have Z:∀{C:Hp},bJ (kM H (F.ad T)) C->iQ (F.ad T) H C:=λs a u ne e=>s a u (by unfold kM;rw[a9 ne];exact e)
  have o2:Ok K (kM H (F.ad T)) z H z (lF N g) (L2.oY N vs):=#[sW,o.sub,o.bu,o.len,o.val,λi J e=>c9 e (O i J),o.Ī,λi hs bt e=>by
   obtain⟨⟨q,l,_,_,M,_,G,_⟩,_⟩:=o.dc i hs bt e;rw[M]at G;cases G]
  have o3:rO F K (kM H (F.ad T)) z H z (lF N g) (L2.oY N vs) T n:=#[o2,hp,λa ha=>b8 ha,tp];refine#[Ϙ,ts,p,rd _ z H z _ _ T n _ _ o3 h #[λC z5 u5 v7 R U s' B=>?_,λ_ _ _ _ _ _ _ B=>B.elim,λ_ _ _ _ _ _ _ B=>B.elim,λR d v C s' t' r' B=>k R d v C (Z s') t' r' B,j5]];exact k R _ _ C (Z U.ok.base) (F.to U.tp (λ_ _=>rfl) (iO U.ok.sub)) .none B
end
end
end TL
namespace L2
section
variable{c:Type}[DecidableEq c]
def tY(bt:List (c×V))(k:c):Option V:=(bt.find? λkv=>decide (kv.1=k)).map (·.2)
def CY(bt:List (c×V))(k:c)(v:V):List (c×V):=
 if(bt.any λkv=>decide (kv.1=k))=ww then bt.map (λkv=>if kv.1=k then(kv.1,v)else kv)else bt++[(k,v)]
def jW(bt:List (c×V))(k:c):List (c×V):=bt.filter λkv=>decide (kv.1≠k)
def FL{p:c×V}{k}(e:p.1=k):tY (p::r) k=wz p.2:=by simp[tY,jA,e]
def FM{p:c×V}{k}(e:¬p.1=k):tY (p::r) k=tY r k:=by simp[tY,jA,e]
theorem N2(k:c):∀bt,(bt.any λkv=>decide (kv.1=k))=(tY bt k).isSome
|[]=>rfl
|p::r=>by
 rw[lN];by_cases e:p.1=k
 .simp only[FL e,c6 e,Bool.true_or,V7]
 .rw[FM e,c7 e,NZ];exact N2 k r
theorem D0(bt:List (c×V))(k:c)(v:V):iN (CY bt k v)<=iN bt+1:=by
 unfold CY;split
 .rw[aB];lia
 .rw[aV,bE,yB];exact mM _
def zF.ė{o:Option V}{u:Option á}(r:zF o u):o.isSome=u.isSome:=by
 cases o with
 |none=>cases u with
  |none=>rfl
  |some _=>exact(show False from r).elim
 |some _=>cases u with
  |none=>exact(show False from r).elim
  |some _=>rfl
def KV.val(r:KV bt vs)(k:c):zF (tY bt k) (fg vs k):=by
 induction r with
 |nil=>exact j5
 |@cons p q ps qs h t ih=>
  let d f:=Ì h;by_cases e:p.1=k
  .have a:=d.symm.trans e;have b:fg (q::qs) k=wz q.2:=by simp[fg,jA,a]
   rw[FL e,b];exact f
  .have a:¬q.1=k:=λz=>e (d.trans z);have b:fg (q::qs) k=fg qs k:=by simp[fg,jA,a]
   rw[FM e,b];exact ih
theorem KV.any{bt:List (c×V)}{vs:List (c×á)}(r:KV bt vs)(k:c):(bt.any λkv=>decide (kv.1=k))=vs.any λkv=>decide (kv.1=k):=by
 induction r with
 |nil=>rfl
 |cons h t a=>rw[lN,lN,a,h.1]
def KV.repl{bt:List (c×V)}{vs:List (c×á)}(r:KV bt vs)(k:c)(d:gQ y u) :
  KV (bt.map λkv=>if kv.1=k then(kv.1,y)else kv) (vs.map λkv=>if kv.1=k then(kv.1,u)else kv):=by
 induction r with
 |nil=>exact tj
 |@cons p q ps qs h t ih=>
  rw[aX,aX];refine Cl ?_ ih;let a b:=Ì h;by_cases e:p.1=k
  .rw[b8 e,b8 (a.symm.trans e)];exact#[a,d]
  .rw[a9 e,a9 (λz=>e (a.trans z))];exact#[a,b]
def KV.put(r:KV bt vs)(k:c)(a:gQ y u):KV (CY bt k y) (ji vs k u):=by
 unfold CY ji;rw[r.any k];by_cases e:(vs.any λkv=>decide (kv.1=k))=ww
 .rw[b8 e,b8 e];exact r.repl k a
 .rw[a9 e,a9 e];exact Paired.snoc r #[1,a]
def KV.drop(r:KV bt vs)(k:c):KV (jW bt k) (without vs k):=by
 unfold jW without
 induction r with
 |nil=>exact tj
 |@cons p q ps qs h t ih=>
  let d g:=Ì h;rw[bY,bY];by_cases e:p.1=k
  .have a:¬decide (p.1≠k)=true:=by simp[e]
   have b:¬decide (q.1≠k)=true:=by simp[d.symm.trans e]
   rw[a9 a,a9 b];exact ih
  .have f:¬q.1=k:=λz=>e (d.trans z);have a:decide (p.1≠k)=true:=by simp[e]
   have b:decide (q.1≠k)=true:=by simp[f]
   rw[b8 a,b8 b];exact Cl #[d,g] ih
def KV.Ŕ{bt:List (c×V)}{vs:List (c×á)}(r:KV bt vs):bt.map (·.1)=vs.map (·.1):=by
 unfold KV at r
 induction r with
 |nil=>rfl
 |cons h t a=>rw[aX,aX,a,h.1]
theorem KV.length{bt:List (c×V)}{vs:List (c×á)}(r:KV bt vs):iN bt=iN vs:=aw r
def aDs(bt:List (c×V))(k:c):iN (jW bt k)<=iN bt:=aS _ _
end
def O9{k}(r:gQ (kV k) u):(hV P w).is k u=true:=by
 cases k with
 |inl i=>let t e:=Ë (show∃t,u=u7 i t from r);subst e;exact OZ P w i t
 |inr x=>let t e:=Ë (show∃t,u=ck x t from r);subst e;exact OY P w x t
theorem KF:∀{a:List mR}{us},fX (a.map kV) us->ItemsAre (hV P w) a us
|[],_,r=>by rw[iD]at r;cases r;exact .nil
|k::a,_,r=>by
 rw[aX]at r
 cases r with
 |cons h t=>exact .cons (O9 h) (KF t)
abbrev KT(H:Hp):Ŵ->List (List mR×à×á)->Prop:=Paired λp q=>p.1=q.1/\H q.2.1=wz (.ņ (p.1.map kV))/\gQ p.2 q.2.2
def KT.val(r:KT H bt xs)(k:List mR):zF (tY bt k) ((gm xs k).map (·.2)):=by
 induction r with
 |nil=>exact j5
 |@cons p q ps qs h t ih=>
  let c y d:=í h;by_cases e:p.1=k
  .have a:=c.symm.trans e;have b:gm (q::qs) k=wz q.2:=by simp[gm,jA,a]
   rw[FL e,b];exact d
  .have a:¬q.1=k:=λz=>e (c.trans z);have b:gm (q::qs) k=gm qs k:=by simp[gm,jA,a]
   rw[FM e,b];exact ih
def KT.repl{bt:Ŵ}{c:List (List mR×à×á)}(r:KT H bt c)(k:List mR)(f:gQ y u) :
  KT H (bt.map λkv=>if kv.1=k then(kv.1,y)else kv) (c.map (putAt k u)):=by
 induction r with
 |nil=>exact tj
 |@cons p q ps qs h t ih=>
  rw[aX,aX];refine Cl ?_ ih;let a b d:=í h;unfold putAt;by_cases e:p.1=k
  .rw[b8 e,b8 (a.symm.trans e)];exact#[a,b,f]
  .rw[a9 e,a9 (λz=>e (a.trans z))];exact#[a,b,d]
def KT.put(r:KT H bt xs)(k:List mR){b:à}(hb:H b=wz (.ņ (k.map kV)))(a:gQ y u) :
  KT H (CY bt k y) (storedH xs k b u):=by
 have e:(bt.any λkv=>decide (kv.1=k))=(gm xs k).isSome:=by
  rw[N2,(r.val k).ė,YD]
 unfold CY storedH;rw[e];by_cases q:(gm xs k).isSome=ww
 .rw[b8 q,b8 q];exact r.repl k a
 .rw[a9 q,a9 q];exact Paired.snoc r #[1,hb,a]
def KT.keeps{H a:Hp}(r:KT H bt xs)(d:∀b c,H b=wz (.ņ c)->a b=wz (.ņ c)):KT a bt xs:=
 Paired.mapP r λ_ _ z=>#[z.1,d _ _ z.2.1,z.2.2]
section
variable{P:dF}{w:g6}{H:Hp}{h:ç}{a:à}
def Ik(ok:rP P w H h)(e:Rd H a u):lI P w H h a u:=e.ok ok
def PR{bt:ź}(ok:rP P w H h)(e:Rd H a (.dK bt)):iN bt<=bM/\(a==n6)=wv/\∃vs,KV bt vs/\h.DictOf (hV P w) a vs:=
 show lI P w H h a (.dK bt)from Ik ok e
def D3{bt:ź}(ok:rP P w H h)(e:H a=wz (.dK bt)):iN bt<=bM/\(a==n6)=wv/\∃vs,KV bt vs/\h.DictOf (hV P w) a vs:=PR ok (j3 e)
def MO{c:List mR}(ok:rP P w H h)(e:H a=wz (.ņ (c.map kV))):(dz (hV P w)).is h c a:=Ï ((show lI P w H h a (.ņ (c.map kV))from ok a _ e)) λ_ b r y=>Õ y λo d f z=>Ê z λn g _=>#[ϡ,o,aPe b,n,d,f,g,by simpa using KF r]
def VO{bt:Ŵ}(ok:rP P w H h)(e:Rd H a (.dT bt)):iN bt<=bM/\(a==n6)=wv /\
  ∃b,KT H bt b/\h.DictOfH (dz (hV P w)) a b:=Ð ((show lI P w H h a (.dT bt)from Ik ok e)) λz y b r u=>ß u λo d c f g i v=>Ì v λj k=>by
 refine#[z,y,b,r,o,d,c,f,g,i,j,λx hx=>?_,k]
 have all:∀{l:Ŵ}{m:List (List mR×à×á)},KT H l m->∀x∈m,(dz (hV P w)).is h x.1 x.2.1:=by
  intro l m q
  induction q with
  |nil=>intro x hx;exact nomatch hx
  |@cons p q ps qs hq t ih=>
   intro x hx;rcases aN.mp hx with e | hx
   .subst e;exact MO ok (by rw[<- hq.1];exact hq.2.1)
   .exact ih x hx
 exact all r x hx
def Qg{bt:Ŵ}(ok:rP P w H h)(e:H a=wz (.dT bt)):iN bt<=bM/\(a==n6)=wv /\
  ∃b,KT H bt b/\h.DictOfH (dz (hV P w)) a b:=VO ok (j3 e)
end
def EN(H:Hp)(a:à)(y:V)(r:Option V):Prop:=
 (∃bt k,Rd H a (.dK bt)/\y=kV k/\r=tY bt k)\/∃bt k b,Rd H a (.dT bt)/\y=.ref b/\H b=wz (.ņ (k.map kV))/\r=tY bt k
def X9(H:Hp)(a:à)(y v:V)(c:Hp):Prop:=
 (∃bt k,H a=wz (.dK bt)/\y=kV k/\iN bt<bM/\c=fU H a (.dK (CY bt k v))) \/
 ∃bt k b,H a=wz (.dT bt)/\y=.ref b/\H b=wz (.ņ (k.map kV))/\iN bt<bM/\c=fU H a (.dT (CY bt k v))
theorem EN.k{a:à}{k}(e:H a=wz (.dK bt)):EN H a (kV k) (tY bt k):=j3 #[ϛ,bt,k,j3 e,7]
theorem X9.k{a:à}{bt:ź}{k v}(e:H a=wz (.dK bt))(b:iN bt<bM):X9 H a (kV k) v (fU H a (.dK (CY bt k v))):=j3 #[Ϝ,bt,k,e,1,b,1]
section
variable{X:Cx}{d:Ž}{f:St}{H:Hp}{s:ã}{a:à}{y v:V}{u r:á}{o:Option V}{A:g3}{E:á->ã->Prop}
def dS.big(I:dS X d f H s):n6<dl s.heap.objs:=by
 exact sV cS ((I.mod.ġ.keeps I.bk).lt)
def XX{Q:á->ã->Prop}(C:A.units+1<x8)(I:dS X d f H s)(g:EN H a y (wz v))(q:gQ y u)(h:∀i t,dS X d f H t->gQ v i->Q i t) :
  å (ä X.prog X.w) A (aj (g8 a) u) Q E s:=by
 rcases g with⟨bt,k,e,m,l⟩ | ⟨bt,k,b,e,m,x,l⟩
 .subst m;exact Ð (PR I.gs e) λz hd vs ai j=>Ê (zF.some_of (by rw[l];exact ai.val k)) λi hw c=>wpAny_getItem_of (O9 q) j.mapOf hw (h i _ (I.Ĭ _) c)
 .subst m;cases (show u=g8 b from q);refine Ð (VO I.gs e) λz hd F ai j=>Ê (zF.some_of (by rw[l];exact ai.val k)) λi hw c=>Ê (cM.mp hw) λp B n=>wpAny_getItem_heap (cu C) (MO I.gs x) j B ?_;rw[n];exact h i _ (I.Ĭ _) c
def aIl{Q:á->ã->Prop}(p:A.units+1<x8)(I:dS X d f H s)(g:EN H a y o)(j:gQ y u)(h:∀m,dS X d f H m->Q (dh (!o.isSome)) m) :
  å (ä X.prog X.w) A (e9 .NotIn u (g8 a)) Q E s:=by
 rcases g with⟨bt,k,e,i,l⟩ | ⟨bt,k,b,e,i,n,l⟩
 .subst i;refine Ð (PR I.gs e) λz hd vs ai c=>wpAny_notIn_of (O9 j) hd c.mapOf ?_;rw[<- (ai.val k).ė,<- l];exact h _ (I.Ĭ _)
 .subst i;cases (show u=g8 b from j);refine Ð (VO I.gs e) λz hd t ai c=>wpAny_notIn_heap (cu p) (MO I.gs n) hd c ?_;have q:=(ai.val k).ė;rw[YD]at q;rw[<- q,<- l];exact h _ (I.Ĭ _)
def M2{c:ç}{i:Nat}(I:dS X d f H s)(h:zl (H a))(g:gB a s.heap c)(e:∃q,c.get? a=wz q)(new:lI X.prog X.w (fU H a ob) c a ob) :
  dS X d f (fU H a ob) { s with heap:=c,toks:=i }:=
 I.ĩ h (j3 eH) (λb q hb z=>(g.2 b hb).trans z) e new
def Ju{b:ç}{bt:ź}(z:iN bt<=bM)(hd:(a==n6)=wv)(ai:KV bt vs)(c:b.DictOf (hV P w) a vs) :
  lI P w H' b a (.dK bt):=#[z,hd,vs,ai,c]
theorem XW{Q:Unit->ã->Prop}(S:A.units+1<x8)(I:dS X d f H s)(g:X9 H a y v H')(G:gQ y u)(F:gQ v r)(h:∀J,dS X d f H' J->Q () J) :
  å (ä X.prog X.w) A (setItem (g8 a) u r) Q E s:=by
 rcases g with⟨bt,k,e,p,l,n⟩ | ⟨bt,k,b,e,p,B,l,n⟩
 .subst p n;let z hd vs ai m:=Ð (D3 I.gs e);have T:iN vs<=bM:=by rw[<- ai.length];exact z
  have t:iN (CY bt k v)<=bM:=by have:=D0 bt k v;exact aR ‹_› ‹_›
  refine wpAny_setItem_pairs (O9 G) m λM i x=>h _ ?_;exact M2 I (by rw[e];exact j5) x (let ⟨q,_,_,j,_⟩:=i;#[q,j]) (Ju t hd (ai.put k F) i)
 .subst p n;cases (show u=g8 b from G);let z hd U ai m:=Ð (Qg I.gs e);have T:iN U<=bM:=by rw[<- aw ai];exact z
  have t:iN (CY bt k v)<=bM:=by have:=D0 bt k v;exact aR ‹_› ‹_›
  refine wpAny_setItem_heap (cu S) (MO I.gs B) m λM i x=>h _ ?_;refine ß i λq L K j N O o=>í o λP _ R=>M2 I (by rw[e];exact j5) x #[q,j] #[t,hd,_,(ai.put k B F).keeps λc W C=>?_,q,L,K,j,N,O,P,R];rw[cC (Ra C e (λz=>nomatch z))];exact C
end
section
variable{X:Cx}{b:Ž}{c:St}{H:Hp}{s:ã}{a:à}{bt:ź}{k:mR}{u:á}{A:g3}{E:á->ã->Prop}
def Qf{v more}{Q:á->ã->Prop}(I:dS X b c H s)(e:H a=wz (.dK bt))(j:gQ (kV k) u)(l:tY bt k=wz v)(n:more=[]\/∃x,more=[x])
  (h:∀f o,dS X b c (fU H a (.dK (jW bt k))) o->gQ v f->Q f o):å (ä X.prog X.w) A (call (mt "dict.pop") (g8 a::u::more)) Q E s:=Ð (D3 I.gs e) λz hd vs ai m=>Ê (zF.some_of (by rw[<- l];exact ai.val k)) λf hw g=>by
 have r:(keyPart u).isSome=true:=by
  cases k with
  |inl i=>let t q:=Ë (show∃t,u=u7 i t from j);subst q;rfl
  |inr x=>let t q:=Ë (show∃t,u=ck x t from j);subst q;rfl
 have p:argsOk "dict.pop" #[g8 a::u::more,[]]:=by
  rcases n with q | ⟨x,q⟩
  .subst q;exact PySem.F.args_dict_pop_2 _ _
  .subst q;exact PySem.F.args_dict_pop_3 _ _ _
 refine gu pQ m.typeIs PySem.F.entry_dict_pop p (meets_dict_pop_there (hV X.prog X.w) a (O9 j) more n r)
  #[Ϝ,vs,f,m,by rw[<- ai.length];exact z,hw,λB d y=>h f _ ?_ g]
 exact M2 I (by rw[e];exact j5) y (let ⟨q,_,_,hq,_⟩:=d;#[q,hq]) (Ju (aR (aDs bt k) z) hd (ai.drop k) d)
theorem Qe{Q:á->ã->Prop}(I:dS X b c H s)(e:Rd H a (.dK bt))(h:∀t d,dS X b c H d->Q (u7 (iN bt) t) d):å (ä X.prog X.w) A (call (mt "len") [g8 a]) Q E s:=Ð (PR I.gs e) λz hd vs ai f=>by refine call_len_dict hd f (by rw[<- ai.length];rw[ei]at z;lia) ?_;rw[<- ai.length];exact h _ _ (I.Ĭ _)
end
def yx(i:æ):Prop:=∀b a,ej i wv b a=operate [b,a] (aj b a)
def aFu{E:á->ã->Prop}{id}{Q:á->ã->Prop}
  (j:typeLookup (fx T) "__getitem__"=pure (wz (mt id))) (k:yx slice)
  (h:å (ä prog w) A (è value ak) (λo c=>å (ä prog w) A (è slice ak) (λi a=>a.TypeIs o T/\å (ä prog w) A (aj o i) Q E a) E c) E s) :
  å (ä prog w) A (è (Ć value slice pos) ak) Q E s:=by
 refine iy (fG h (λo c e=>fG e (λi a b=>?_) λ_ _ x=>x) λ_ _ x=>x);refine Ì b λg b=>aF ?_;rw[getitemInPython_of_ne g.not_modules];refine aF (wpAny_specialOf g j ?_)
 have ő:å (ä prog w) A (ej slice wv o i) (λr d=>å (ä prog w) A (letTemporaryGo value o r >>= λ_=>pure r) Q E d) E a:=by
  rw[k o i];exact wpAny_operating (fG b (λr d f=>aF (wpAny_letTemporaryGo (aZ f))) λ_ _ x=>x)
 first
  |exact aZ (aF ő)
  |exact aF (aZ (aF ő))
  |exact aF ő
def PU{s:ã}{a:à}(I:dS X pins σ H s)(g:EN H a y o):s.TypeIs (g8 a) "dict":=by
 rcases g with⟨bt,k,e,_,_⟩ | ⟨bt,k,b,e,_,_,_⟩
 .exact Ð (PR I.gs e) λ_ _ vs _ c=>c.typeIs
 .exact Ð (VO I.gs e) λ_ _ d _ c=>c.typeIs
def aP3(e ty:TE):TE:=λc H Q=>e c H λx d=>ty c d λy b=>∃a v,x=.ref a/\EN b a y (wz v)/\Q v b
def aFl(ty e:TE):TE:=λc H Q=>ty c H λy d=>e c d λx b=>∃a o,x=.ref a/\EN b a y o/\Q (.bl (!o.isSome)) b
def Tl(f ty tv:TE):TS:=λD b H=>tv b H λv d=>f b d λx e=>ty b e λy H3=>∃a c,x=.ref a/\X9 H3 a y v c/\D.nx b c
section
variable{X:Cx}{o i b:æ}{pos c:Pos}{d ty tv:TE}
def MA(w:X.A.units+1<x8)(r:PE X o d)(q:PE X i ty)(t:yx i):PE X (Ć o i pos) (aP3 d ty):=by
 intro e s k H Q I h;refine aFu PySem.F.slot_dict_getitem.lookup t (kN (r e s k H _ I h) λu C ξ=>Ø ξ λx l n z q1=>kN (q e C k l _ n q1) λG J E=>?_);refine Ø E λy m j B c=>Ø c λa v ex g q2=>?_;subst ex;obtain rfl:=z;exact#[PU j g,XX w j g B λK s3 p f=>#[ϛ,v,m,p,f,q2]]
def J2(r:X.A.units+1<x8)(p:PE X i ty)(q:PE X o d):PC X .NotIn i o (aFl ty d):=by
 intro e s f H Q I h;refine kN (p e s f H _ I h) λC z ξ=>Ø ξ λy j l w q1=>kN (q e z f j _ l q1) λu E B=>?_;refine Ø B λx k m v c=>Ø c λa t ex g q2=>?_;subst ex;obtain rfl:=v;exact aIl r m g w λs3 n=>#[ϛ,.bl (!t.isSome),k,n,1,q2]
def UK(B:X.A.units+1<x8)(w:PE X o d)(t:PE X i ty)(C:PE X b tv)(z:lY b (wz (Ć o i c)) pos.line X.ak=pure wv) :
  PS X (Ā [Ć o i c] b pos) (Tl d ty tv):=by
 intro e s f H D I h;refine wpAny_Assign_Subscript (kN (C e s f H _ I h) λr J ξ=>Ø ξ λv j m E q1=>kN (w e J f j _ m q1) λu K ξ=>Ø ξ λx k n F q2=>kN (t e K f k _ n q2) λM s3 L=>?_) z;refine Ø L λy H3 p G ψ=>Ø ψ λa l ex g q3=>?_;subst ex;obtain rfl:=F;exact XW B p g G E λN q=>#[Ϛ,f,l,q,q3]
end
def aDu(h:ç)(hb:n6<dl h.objs):lI P w H (h.push { cls:=fx "dict",data:=.dict (Ŭ []) }) h.objs.size (.dK []):=
 #[bZ _,beq_eq_false_iff_ne.mpr (j6 (cO hb)),[],tj,IC.new h]
def ZR:TE:=λ_ H Q=>∀p,H p=wx->Q (.ref p) (fU H p (.dK []))
def GE{X:Cx}{pos:Pos}:PE X (.Dict [] [] pos) ZR:=λa s b H Q I h=>
 wpAny_Dict_empty #[ϛ,.ref s.heap.objs.size,_,I.Ķ (λ_ _ q=>aI _ q) (aL _) (aDu s.heap I.big),1,h _ (I.gs.fresh (aL _))]
end L2
namespace TL
open L2
def iK(s:é)(j:Nat):Stmt:=match s with
|.ClassDef _ _ _ b _ _ _ _ _ _ _=>b.getD j (.Pass #[(0),(0),(0),(0)])
|_=>.Pass #[(0),(0),(0),(0)]
def SH(C:à)(ns:List â)(a:List D):D:=tS [(aG "obj",cN [aW (C:Nat),eE (ns.map aG),eE a])]
theorem N4:∀{b c:List â},b.map aG=c.map aG->b=c
|[],[],_=>rfl
|[],_::_,h=>by cases h
|_::_,[],h=>by cases h
|x::b,y::c,h=>by
 rw[aX,aX]at h;injection h with a d
 injection a with a
 rw[a,N4 d]
theorem E2{K}{H:Hp}{C:à}{v}(r:iM K H (SH C ns ds) v):∃(p dx:à)(fs:Ŷ),v=.ref p/\H p=wz (.Œ C dx fs)/\fs.map (·.1)=ns/\gq K H ds (fs.map (·.2)):=by
 unfold SH at r
 generalize a:(tS [(aG "obj",cN [aW (C:Nat),eE (ns.map aG),eE ds])])=d at r
 cases r with
 |@Œ p C' dx fs ds' h1 h2=>
  injection a with a
  injection a with a _
  injection a with _ a
  injection a with a
  injection a with b a
  injection a with c a
  injection a with e _
  injection b with b
  injection c with c
  injection e with e
  obtain rfl:C=C':=qZ.inj b;subst e;exact#[ϡ,p,dx,fs,1,h1,(N4 c).symm,h2]
 |dct=>
  injection a with a
  injection a with a _
  injection a with a _
  injection a with a
  exact c9 a cR
 |addr z=>
  injection a with a
  injection a with a _
  injection a with a _
  injection a with a
  exact c9 a cR
 |_=>cases a
theorem GV{K}:∀{fs:Ŷ}{ds},gq K H ds (fs.map (·.2))->((fs.map (·.1)).zip ds).lookup f=wz x->∃v,fs.lookup f=wz v/\iM K H x v
|[],_,_,h=>by cases h
| (g,u)::fs,ds,r,h=>by
 cases r with
 |@cons t ts _ _ r1 r2=>
  show∃v,(match f==g with | true=>wz u | false=>fs.lookup f)=wz v/\_;have a:(match f==g with | true=>wz t | false=>((fs.map (·.1)).zip ts).lookup f)=wz x:=h
  cases hb:f==g with
  |true=>
   rw[hb]at a;cases a;exact#[u,1,r1]
  |false=>
   rw[hb]at a;exact GV r2 a
theorem qH:∀{fs:Ŷ},f∉fs.map (·.1)->fs.lookup f=wx
|[],_=>rfl
| (g,u)::fs,h=>by
 have a:(f==g)=false:=beq_eq_false_iff_ne.mpr λz=>h (by rw[z];exact aJ ..);show(match f==g with | true=>wz u | false=>fs.lookup f)=wx;rw[a];exact qH λz=>h (aE _ z)
section
variable{X:Cx}{o e:æ}{b:ET}{pos:Pos}
def Nm(K:aH)(f:â)(b:ET):ET:=λc Q=>b c λd=>∃C ns a x,d=SH C ns a/\DK K C/\gA K C f/\(ns.zip a).lookup f=wz x/\Q x
def nQ{K}(m:X.K=K)(s:eX X e b)(hb:i4 e f X.ak (è e X.ak)=è e X.ak|>ũ):eX X (ą e f pos) (Nm K f b):=by
 subst m;refine Ê s λv p r=>#[Ϙ,_,RJ p hb,λB z H A g G Q I o h k=>r B z H A g G _ _ o h λd x i F E q1=>?_];obtain⟨C,ns,J,y,rfl,n,u,t,q⟩:=q1;let a dx fs Z j Y l:=ß (E2 E);subst Z Y;exact Ê (GV l t) λw hw c=>#[ϥ,a,C,dx,fs,w,1,cH _ _ j,n,u,hw,k _ _ i F c q]
end
abbrev Ż:=List (Int×D)
inductive uV(K:aH)(H:Hp):Ż->ź->Prop
|nil:uV K H [] []
|cons {i:Int} {d:D} {v:V} {a:Ż} {b:ź} (r:iM K H d v) (t:uV K H a b):uV K H ((i,d)::a) ((.inl i,v)::b)
def GA(bt:Ż)(i:Int)(d:D):Ż:=if bt.any (λe=>decide (e.1=i))=ww then bt.map (λe=>if e.1=i then(e.1,d)else e)else bt++[(i,d)]
def HJ(bt:Ż)(i:Int):Ż:=bt.filter λe=>decide (e.1≠i)
def qJ(bt:Ż)(i:Int):Option D:=(bt.find? λe=>decide (e.1=i)).map (·.2)
section
variable{K:aH}{H c:Hp}
theorem uV.same(s:bJ H c){a b}(h:uV K H a b):uV K c a b:=by
 induction h with
 |nil=>exact .nil
 |cons r t n=>exact .cons (r.same s) n
theorem uV.length:∀{a:Ż}{b:ź},uV K H a b->iN a=iN b
|_,_,.nil=>rfl
|_,_,.cons r t=>d9 (·+1) t.length
theorem uV.Ŗ:∀{a:Ż}{b:ź},uV K H a b->gq K H (a.map (·.2)) (b.map (·.2))
|_,_,.nil=>.nil
|_,_,.cons r t=>.cons r t.Ŗ
theorem uV.val(i:Int){a b}(h:uV K H a b):(qJ a i=wx/\tY b (.inl i)=wx)\/∃d v,qJ a i=wz d/\tY b (.inl i)=wz v/\iM K H d v:=by
 induction h with
 |nil=>exact .inl #[7]
 |@cons j d v a b r t n=>
  unfold qJ tY;rw[jA,jA];by_cases e:j=i
  .subst e;refine .inr #[d,v,22,r]<;>simp
  .have f:¬((t6 j:mR)=.inl i):=λz=>e (bx z);rw[show decide ((j,d).1=i)=wv from c7 e,show decide (((t6 j:mR),v).1=.inl i)=wv from c7 f];exact n
theorem uV.any(i:Int){a:Ż}{b:ź}(h:uV K H a b):(a.any λe=>decide (e.1=i))=b.any λe=>decide (e.1=.inl i):=by
 induction h with
 |nil=>rfl
 |@cons j d v a b r t n=>
  rw[lN,lN,n];congr 1;show decide (j=i)=decide ((t6 j:mR)=.inl i);rw[eR,e8,e8];exact#[λz=>by rw[z],λz=>bx z]
theorem uV.map(i:Int){v}(r:iM K H d v){a:Ż}{b:ź}(h:uV K H a b):uV K H (a.map λe=>if e.1=i then(e.1,d)else e) (b.map λe=>if e.1=.inl i then(e.1,v)else e):=by
 induction h with
 |nil=>exact .nil
 |@cons j x y a b r0 t n=>
  rw[aX,aX];by_cases e:j=i
  .subst e;rw[b8 eH,b8 rfl];exact .cons r n
  .rw[a9 e,a9 λz:(t6 j:mR)=.inl i=>e (bx z)];exact .cons r0 n
theorem uV.snoc{i:Int}{v}(r:iM K H d v):∀{a b},uV K H a b->uV K H (a++[(i,d)]) (b++[(t6 i,v)])
|_,_,.nil=>.cons r .nil
|_,_,.cons r0 t=>.cons r0 (t.snoc r)
def uV.put{i:Int}{v}(r:iM K H d v)(h:uV K H a b):uV K H (GA a i d) (CY b (t6 i) v):=by
 unfold GA CY;rw[h.any i];split
 .exact h.map i r
 .exact h.snoc r
theorem uV.drop(i:Int){a b}(h:uV K H a b):uV K H (HJ a i) (jW b (.inl i)):=by
 induction h with
 |nil=>exact .nil
 |@cons j x y a b r0 t n=>
  unfold HJ jW;rw[bY,bY];by_cases e:j=i
  .subst e;rw[a9 dN,a9 dN];exact n
  .rw[b8 (Á e),b8 (Á e)];exact .cons r0 n
end
set_option genInjectivity true in
structure Bk where
 p:à
 q:à
 dx:à
 fm:D
 dp:Int
 ls:Int
structure EO where
 bt:Ż
 fol:Int
 st:D
def oF(T:Bk):D:=tS [(aG "@",eE [aW (T.p:Nat),aW (T.q:Nat),aW (T.dx:Nat),T.fm,aW T.dp,aW T.ls])]
def hZ(h:oF S=oF T):S=T:=by
 injection h with h
 injection h with h _
 injection h with _ h
 injection h with h
 injection h with g h
 injection h with i h
 injection h with j h
 injection h with m h
 injection h with k h
 injection h with l _
 injection g with g
 injection i with i
 injection j with j
 injection k with k
 injection l with l
 obtain⟨a,b,c,d,e,f⟩:=S;obtain⟨n,o,p,q,r,s⟩:=T;simp only[Bk.mk.injEq];exact#[qZ.inj g,qZ.inj i,qZ.inj j,m,k,l]
def L3{K}(T:Bk):iM K H (oF T) (.ref T.p):=.addr _
theorem aAh{K}{x:à}{v}(r:iM K H (tS [(aG "@",eE (aW (x:Nat)::z))]) v):v=.ref x:=by
 generalize a:(tS [(aG "@",eE (aW (x:Nat)::z))])=d at r
 cases r with
 |@addr p z=>
  injection a with a
  injection a with a _
  injection a with _ a
  injection a with a
  injection a with a _
  injection a with a
  rw[qZ.inj a]
 |dct=>
  injection a with a
  injection a with a _
  injection a with a _
  injection a with a
  exact c9 a cR
 |_=>cases a
def Q8{K}{T:Bk}{v}(r:iM K H (oF T) v):v=.ref T.p:=aAh r
def NE(T:Bk)(a b:V)(n:EO):Ŷ:=[("form",a),("deep",.int T.dp),("least",.int T.ls),("numbered",.ref T.q),("following",.int n.fol),("standing",b)]
def NF(C:à)(T:Bk)(K:aH)(H:Hp)(a:List à)(n:EO):Prop:=T.p≠T.q/\∃b c kv,H T.p=wz (.Œ C T.dx (NE T b c n))/\H T.q=wz (.dK kv)/\iM K (ê H a) T.fm b/\iM K (ê H a) n.st c/\uV K (ê H a) n.bt kv
def nE(C:à):vS where
 I:=Bk
 S:=EO
 ad:=λT=>[T.p,T.q]
 Ē:=oF
 At:=NF C
 to:=λ{T K H H' ps z5 n} h e s=>ô h λgc v1 v6 kv h1 h2 h3 h4 h5=>#[gc,v1,v6,kv,by rw[e T.p dN];exact h1,by rw[e T.q dN];exact h2,h3.same s,h4.same s,h5.same s]
 liv:=λ{T K H ps n} h a ha=>Ì h λgc z=>Ú z λv1 v6 kv h1 h2 _=>by
  rcases aN.mp ha with rfl | ha
  .exact#[_,h1,1]
  .rw[bC.mp ha];exact#[_,h2,1]
 inj:=hZ
def Cv(T:Bk)(n:EO):List (â×D):=[("form",T.fm),("deep",aW T.dp),("least",aW T.ls),("following",aW n.fol),("standing",n.st)]
def aH4{K}{T:Bk}{n:EO}(g:iM K H T.fm v1)(i:iM K H n.st v6)(h:(Cv T n).lookup f=wz y):∃v,(NE T v1 v6 n).lookup f=wz v/\iM K H y v:=by
 by_cases a:f="form"
 .subst a;cases h;exact#[v1,1,g]
 by_cases b:f="deep"
 .subst b;cases h;exact#[0,.int _]
 by_cases c:f="least"
 .subst c;cases h;exact#[0,.int _]
 by_cases d:f="following"
 .subst d;cases h;exact#[0,.int _]
 by_cases e:f="standing"
 .subst e;cases h;exact#[0,i]
 refine c9 h ?_;unfold Cv;rw[eA,beq_eq_false_iff_ne.mpr a,eA,beq_eq_false_iff_ne.mpr b,eA,beq_eq_false_iff_ne.mpr c,eA,beq_eq_false_iff_ne.mpr d,eA,beq_eq_false_iff_ne.mpr e]
 exactλz=>nomatch z
section
variable{X:Cx}{C:à}{e i o b:æ}{c E:ET}{pos m G l:Pos}{f:â}
def nY{K}{T a:Bk}{v}(o:rO (nE C) K B p0 H ps ec σ T n)(s:bJ H H1)(r:iM K (ê H1 ps) (oF a) v)(h:oF a=oF T) :
  v=.ref T.p/\NF C T K H1 ps n:=by
 cases hZ h;exact#[Q8 r,(o.fz s).tp]
def Pj(C:à)(f:â)(c:ET):EZ (nE C):=λa n g Q=>c g λd=>d=a/\∃T x,a=oF T/\(Cv T n).lookup f=wz x/\Q n x
def vN(I:DK X.K C)(M:gA X.K C f)(J:eX X e c)(hb:i4 e f X.ak (è e X.ak)=è e X.ak|>ũ):xU (F:=nE C) X (ą e f pos) (Pj C f c):=Ê J λv p r=>by refine#[Ϙ,_,RJ p hb,λB P H R j U T n Q W o h k=>r B P H R j U _ _ o.ok h λd x t s S q1=>?_];refine Î q1 λl Y y O m=>Ì m λL q=>?_;subst l;let l a:=Ì (nY o s S eH);subst l;cases hZ O;exact ô (id a) λN v1 v6 kv u Z z A h5=>Ê (aH4 z A L) λw hw g=>#[ϥ,_,C,3,w,1,u,I,M,hw,k n y w t (.of s) a g q]
def AB(a:DK X.K C)(d:gA X.K C "numbered"){v}(p:PE X e v)(hb:i4 e "numbered" X.ak (è e X.ak)=è e X.ak|>ũ):PE X (ą e "numbered" pos) (Gc X.K v "numbered"):=RJ p hb
def Px(C:à)(E c:ET):TZ (nE C):=λg n a Q=>E a λy=>∃j,y=aW j/\c a λd=>d=g/\Q n (qJ n.bt j).isNone
def ZJ(hu:X.A.units+1<x8)(I:DK X.K C)(J:gA X.K C "numbered")(Y:eX X i E)(W:eX X e c)(hb:i4 e "numbered" X.ak (è e X.ak)=è e X.ak|>ũ)(Z:d8 .NotIn (ą e "numbered" l)=false|>ũ) :
  kS (F:=nE C) X (Ty i [.NotIn] [ą e "numbered" l] pos) (Px C E c):=Ê W λv p r=>Ê Y λvi pi ri=>by
 refine#[Ϙ,_,Ld (J2 hu pi (AB I J p hb)) Z,λB L H M g O T n Q QV o h k=>?_];let y yv P z r1 q1:=ri B L H M g O _ _ o.ok h;obtain⟨j,rfl,q1⟩:=q1;cases r1;let d x R N r2 q2:=r B L P M g O _ _ (o.fz z).ok q1;let f q:=Ì q2;subst f;let f a:=Ì (nY (o.fz z) N r2 eH);subst f;refine Ì (id a) λ_ m=>Ñ m λ_ _ _ u _=>#[ϥ,_,C,30,u,I,J,12];refine ô (id a) λgc v1 v6 kv h1 S h3 h4 U=>#[T.q,tY kv (t6 j),1,EN.k (k:=t6 j) S,0,k n _ R ((iQ.of z).trans (.of N)) a ?_];rcases U.val j with⟨s,t⟩ | ⟨d,w,s,t,_⟩
 .rw[s]at q;rw[t];exact q
 .rw[s]at q;rw[t];exact q
def Pu(C:à)(c E:ET):EZ (nE C):=λg n a Q=>c a λd=>d=g/\E a λy=>∃j x,y=aW j/\qJ n.bt j=wz x/\Q n x
def aOc(hu:X.A.units+1<x8)(M:DK X.K C)(N:gA X.K C "numbered")(he:eX X e c)(hi:eX X i E)(hs:yx i|>š)(hb:i4 e "numbered" X.ak (è e X.ak)=è e X.ak|>ũ) :
  xU (F:=nE C) X (Ć (ą e "numbered" l) i pos) (Pu C c E):=Ê he λv p r=>Ê hi λvi pi ri=>by
 refine#[Ϙ,_,MA hu (AB M N p hb) pi hs,λB O H P t S T n Q QV o h k=>?_];let d x U u r1 q1:=r B O H P t S _ _ o.ok h;obtain⟨rfl,q1⟩:=q1;let f z:=Ì (nY o u r1 eH);subst f;refine Ì (id z) λ_ m=>Ñ m λ_ _ _ I _=>#[ϥ,_,C,30,I,M,N,12];let y yv W R r2 q2:=ri B O U P t S _ _ (o.fz u).ok q1;let j x f g q:=Ø q2;subst f;cases r2;have a:=((o.fz u).fz R).tp;let gc v1 v6 kv h1 Y h3 h4 Z:=ô (id a);rcases Z.val j with⟨s,L⟩ | ⟨d,w,s,L,J⟩
 .rw[g]at s;cases s
 .rw[g]at s;cases s;refine#[ϛ,T.q,w,12,k n x w W ((iQ.of u).trans (.of R)) a J q];have:=EN.k (k:=t6 j) Y;rw[L]at this;exact this
def Jp{K}{T:Bk}(a:NF C T K H ps n)(g:T.q∈ps)(h:uV K (ê H ps) bt kv):NF C T K (fU H T.q (.dK kv)) ps { n with bt:=bt }:=ô a λd s t r j u k p v=>by
 refine#[d,s,t,kv,by rw[cC d];exact j,cL,222]
 .rw[fW g];exact k
 .rw[fW g];exact p
 .rw[fW g];exact h
def JW{p:à}(h:p∈as):iQ as H (fU H p u):=λa o ne e=>by
 rw[cC (show a≠p fromλz=>ne (by rw[z];exact h))];exact e
def rO.there{F:vS}{K B H p0 ps ec σ T n n'}(o:rO F K B p0 H ps ec σ T n){p:à}{u}(a:p∈F.ad T)(t:F.At T K (fU H p u) ps n'):rO F K B p0 (fU H p u) ps ec σ T n':=o.ř (JW a) t
def Qa(C:à)(c E tv:ET):SZ (nE C):=λh g n a=>tv a λx=>c a λd=>d=h/\E a λy=>∃j,y=aW j/\iN n.bt<=100000/\g.nx { n with bt:=GA n.bt j x } a
theorem ZS{tv}(hu:X.A.units+1<x8)(N:DK X.K C)(O:gA X.K C "numbered")(U:eX X e c)(W:eX X i E)(hv:eX X b tv)(Z:lY b (wz (Ć (ą e "numbered" l) i m)) pos.line X.ak=pure false|>ũ)(hb:i4 e "numbered" X.ak (è e X.ak)=è e X.ak|>ũ) :
  D9 (F:=nE C) X (Ā [Ć (ą e "numbered" l) i m] b pos) (Qa C c E tv):=Ê U λv p r=>Ê W λvi pi ri=>Ê hv λvv pv rv=>by refine#[Ϙ,_,UK hu (AB N O p hb) pi pv Z,λB J H t a u T n DC DV o h f=>?_];let x xv Q g r0 q0:=rv B J H t a u _ _ o.ok h;let d xd R s r1 q1:=r B J Q t a u _ _ (o.fz g).ok q0;obtain⟨rfl,q1⟩:=q1;let V w:=Ì (nY (o.fz g) s r1 eH);subst V;refine Ì (id w) λ_ ψ=>Ñ ψ λ_ _ _ z _=>#[ϥ,_,C,30,z,N,O,12];let y yv H2 L r2 q2:=ri B J R t a u _ _ ((o.fz g).fz s).ok q1;let j V hz q:=Õ q2;subst V;cases r2;have I:=((o.fz g).fz s).fz L;let Y v1 v6 kv h1 S h3 h4 M:=ô (id I.tp);have hL:bM=2^24:=rfl;refine#[ϛ,T.q,0,X9.k (k:=t6 j) S (by rw[<- M.length];lia),2];have P:=o.Ľ T.q (by show T.q∈[T.p,T.q];simp);exact f.nx _ t a u _ (I.there (by show T.q∈[T.p,T.q];simp) (Jp I.tp P (M.put (i:=j) (r0.same (bU (s.trans L)))))) ((bU (g.trans (s.trans L))).trans (by rw[fW P];exact L2.bJ.refl _)) q
def Jo{K}{T:Bk}{d:EO}(a:T.p≠T.q)(h:H T.q=wz (.dK kv))(j:iM K (ê H ps) T.fm v1)(k:iM K (ê H ps) d.st v6)(n:uV K (ê H ps) d.bt kv)(g:T.p∈ps):NF C T K (fU H T.p (.Œ C T.dx (NE T v1 v6 d))) ps d:=
 #[a,v1,v6,kv,cL,by rw[cC (j6 a)];exact h,by rw[fW g];exact j,by rw[fW g];exact k,by rw[fW g];exact n]
def aPu(C:à)(c tv:ET):SZ (nE C):=λh g n a=>c a λd=>d=h/\tv a λx=>∃j,x=aW j/\g.nx { n with fol:=n.fol+j } a
def aFq{tv}(S:DK X.K C)(W:gA X.K C "following")(U:eX X e c)(Y:eX X b tv):D9 (F:=nE C) X (.AugAssign (ą e "following" G) .Add b pos) (aPu C c tv):=Ê U λv p r=>Ê Y λvv pv rv=>by refine#[Ϙ,_,WT p pv aNs,λB I H k g x T n DC DV o h f=>?_];let d xd M s Z q1:=r B I H k g x _ _ o.ok h;obtain⟨rfl,q1⟩:=q1;let m t:=Ì (nY o s Z eH);subst m;refine ô (id t) λw J L kv z O P Q R=>#[ϥ,_,C,30,z,S,W,12];let y yv N a r2 q2:=rv B I M k g x _ _ (o.fz s).ok q1;let j m q:=Ê q2;subst m;cases r2;have A:=o.Ľ T.p (by show T.p∈[T.p,T.q];simp);refine#[37,T.dx,NE T J L n,a _ _ z,52];have u:NF C T X.K (fU N T.p (.Œ C T.dx (NE T J L { n with fol:=n.fol+j }))) k { n with fol:=n.fol+j }:=Jo w (a _ _ O) (P.same (bU a)) (Q.same (bU a)) (R.same (bU a)) A;exact f.nx _ k g x _ (((o.fz s).fz a).there (by show T.p∈[T.p,T.q];simp) u) ((bU (s.trans a)).trans (by rw[fW A];exact L2.bJ.refl _)) q
def aPm(C:à)(c:ET)(tv:EZ (nE C)):SZ (nE C):=λg h n a=>tv g n a λn1 x=>c a λd=>d=g/\h.nx { n1 with st:=x } a
def aFp{tv}(P:DK X.K C)(R:gA X.K C "standing")(Q:eX X e c)(U:xU X b tv)(S:lY b (wz (ą e "standing" m)) pos.line X.ak=pure false|>ũ):D9 (F:=nE C) X (Ā [ą e "standing" m] b pos) (aPm C c tv):=Ê Q λv p r=>Ê U λvv pv Z=>by refine#[Ϙ,_,vG p pv S,λB z H g a w T n DC DV o h f=>?_];let n1 x xv I A t0 W q0:=Z B z H g a w T n _ _ o h;have u:=o.ř A t0;let d xd J j Y q1:=r B z I g a w _ _ u.ok q0;let l q:=Ì q1;subst l;let l k:=Ì (nY u j Y eH);subst l;let t v1 v6 kv L M N h4 O:=ô (id k);have y:=o.Ľ T.p (by show T.p∈[T.p,T.q];simp);refine#[Ϥ,_,C,31,L,P,R,52];have s:NF C T X.K (fU J T.p (.Œ C T.dx (NE T v1 xv { n1 with st:=x }))) g { n1 with st:=x }:=Jo t M N (W.same (bU j)) O y;exact f.nx _ g a w _ ((u.fz j).there (by show T.p∈[T.p,T.q];simp) s) ((A.ī o.Ľ).trans ((bU j).trans (by rw[fW y];exact L2.bJ.refl _))) q
end
end TL
namespace L2
open TL
def dS.laidM{X:Cx}{c:Ž}{f:St}{H d:Hp}{s:ã}{h:ç}{j:Nat}(I:dS X c f H s)(k:∀b u,s.heap.get? b=wz u->h.get? b=wz u)(g:bJ H d)(new:∀a o,d a=wz o->H a=wx->dl s.heap.objs<=a/\lI X.prog X.w d h a o):dS X c f d { s with heap:=h,toks:=j }:=by
 let a o e:=I.un #[λb ob q _ _ _=>k b ob q,λb ob q _ _ _=>#[ob.slots,k b ob q],λb ob q n _=>?_,λb ob q _=>#[ob,k b ob q],λb l q=>g _ _ q,λb o u q=>g _ _ q,λb m q=>#[(Ŭ []),by rw[g _ _ q];simp]]
 .cases e:d b with
  |none=>rfl
  |some o=>exact c9 (bG q) (NR.mpr (new b o e n).1)
 .cases q:H a with
  |none=>exact(new a o e q).2
  |some u=>
   have i:=g _ _ q;rw[e]at i;cases i;exact(I.gs a o q).Ĥ (λb v _ z=>k b v z) (λb z=>g _ _ z) (λb l z=>g _ _ z) λb ob v z=>g _ _ z
theorem O0{i:Type}{b:à}{y:i}:∀{c:List à}{f:List i}{j:Nat},aYv c->c[j]?=wz b->f[j]?=wz y->(c.zip f).lookup b=wz y
|[],_,j,_,h,_=>by simp at h
|a::c,[],j,_,_,h=>by simp at h
|a::c,z::f,0,_,h1,h2=>by
 simp at h1 h2;subst h1 h2;simp[mQ]
|a::c,z::f,j+1,nd,h1,h2=>by
 rw[jZ]at nd;have d:c[j]?=wz b:=Á h1
 have g:f[j]?=wz y:=Á h2
 have ne:(b==a)=false:=beq_eq_false_iff_ne.mpr λe=>nd.1 (e▸aU d);rw[Y2,eA,ne];exact O0 nd.2 d g
theorem GW{f:Type}{b:à}{y:f}:∀{c:List à}{d:List f},(c.zip d).lookup b=wz y->∃j:Nat,c[j]?=wz b/\d[j]?=wz y
|[],_,h=>by simp[mQ]at h
|a::c,[],h=>by simp[mQ]at h
|a::c,z::d,h=>by
 rw[Y2,eA]at h
 cases e:(b==a)with
 |true=>
  rw[e]at h;have g:b=a:=cf e;exact#[(0),by simp[g],Á h]
 |false=>
  rw[e]at h;exact Ê (GW h) λj i k=>#[j+1,Á i,Á k]
end L2
namespace TL
open L2
theorem DU{K}:∀{a:List D}{vs:List V},iN a=iN vs->(∀(j:Nat)(d:D)(v:V),a[j]?=wz d->vs[j]?=wz v->iM K H d v)->gq K H a vs
|[],[],_,_=>.nil
|[],_::_,h,_=>by simp at h
|_::_,[],h,_=>by simp at h
|d::a,v::vs,h,k=>.cons (k 0 d v eH eH) (DU (Á h) λj b f c e=>k (j+1) b f (Á c) (Á e))
end TL
namespace L2
open TL
def JI(v p:à):HO:=.ext λh=>h.IsValuesView v p
def JJ(v p:à):HO:=.ext λh=>h.IsItemsView v p
theorem VA{a:Type}{bt:List (a×V)}{vs:List (a×á)}(h:KV bt vs):fX (bt.map (·.2)) (vs.map (·.2)):=by
 induction h with
 |nil=>exact .nil
 |cons r t n=>exact .cons r.2 n
theorem Kj{e:Type}{bt:List (e×V)}{vs:List (e×á)}{j:Nat}{k:e}{x}(h:KV bt vs)(g:vs[j]?=wz (k,x)):∃v,bt[j]?=wz (k,v)/\gQ v x:=by
 induction h generalizing j with
 |@cons p q _ _ r t n=>
  obtain⟨a,v⟩:=p;obtain⟨b,y⟩:=q;cases j with
  |zero=>simp at g;refine Ì g λc d=>Ì r λf u=>?_;subst c d f;exact#[v,1,u]
  |succ j=>exact Ê (n (Á g)) λv c d=>#[v,Á c,d]
 |nil=>simp at g
def VB{k}(h:(hV P w).is k u=ww):gQ (kV k) u:=by
 rcases kH h with⟨i,t,rfl,rfl⟩ | ⟨x,t,rfl,rfl⟩<;>exact#[t,1]
section
variable{X:Cx}
def RY:S5 X "dict.values" (λx c H Q=>c=[]/\∃p bt,x=.ref p/\H p=wz (.dK bt)/\∀v,H v=wx->Q (.ref v) (fU H v (JI v p))):=by
 intro b s l H x c v j Q I f r h;refine Î h λu p bt t y=>Ì y λd q=>?_;subst u t;cases f;cases r;refine Ð (D3 I.gs d) λz hd vs ai a=>gu JE a.typeIs PySem.F.entry_dict_values (PySem.F.args_dict_values_1 _) (meets_dict_values (hV X.prog X.w) p hd) #[#[vs,a],2];exact#[ϛ,.ref s.heap.objs.size,_,I.Ķ (o:=JI s.heap.objs.size p) (λ_ _ e=>aI _ e) (aL _) #[#[ϙ,_,bD _ eH,7],#[_,bD _ eH],λg i #[o,e,r] k=>#[o,k _ e,r]],1,q _ (I.gs.fresh (aL _))]
def W9:S5 X "dict.items" (λx c H Q=>c=[]/\∃p bt,x=.ref p/\H p=wz (.dK bt)/\∀v,H v=wx->Q (.ref v) (fU H v (JJ v p))):=by
 intro b s l H x c v j Q I f r h;refine Î h λu p bt t y=>Ì y λd q=>?_;subst u t;cases f;cases r;refine Ð (D3 I.gs d) λz hd vs ai a=>gu LG a.typeIs PySem.F.entry_dict_items (PySem.F.args_dict_items_1 _) (meets_dict_items (hV X.prog X.w) p hd) #[#[vs,a],2];exact#[ϛ,.ref s.heap.objs.size,_,I.Ķ (o:=JJ s.heap.objs.size p) (λ_ _ e=>aI _ e) (aL _) #[#[ϙ,_,bD _ eH,7],#[_,bD _ eH],λg i #[o,e,r] k=>#[o,k _ e,r]],1,q _ (I.gs.fresh (aL _))]
def MG:S5 X "dict.pop" (λx b H Q=>∃p bt k v,x=.ref p/\b=[kV k]/\H p=wz (.dK bt)/\tY bt k=wz v/\Q v (fU H p (.dK (jW bt k)))):=by
 intro a s n H x b v l Q I i r h;obtain⟨p,bt,k,y,rfl,rfl,e,d,q⟩:=h;cases i;exact Þ l (oG r) λu g=>Qf I e g d (j3 eH) λm j c f=>#[ϛ,y,_,c,f,q]
def K3:lW X (mt "len") (λb H Q=>∃p bt,b=[.ref p]/\H p=wz (.dK bt)/\Q (.int (iN bt)) H):=by
 intro a s i H b g Q I r h;let p bt z d q:=Ø h;subst z;let u z e:=Ê (oG r);subst z;cases e;exact Qe I (j3 d) λt f c=>#[ϛ,.int (iN bt),H,c,#[t,1],q]
theorem EI(t:X.Ň=ww):lW X (fx "list") (λi H Q=>∃v p bt,i=[.ref v]/\H v=wz (JI v p)/\H p=wz (.dK bt)/\∀l,H l=wx->Q (.ref l) (fU H l (.u8 (bt.map (·.2))))):=by
 intro g s G H i F Q I r h;let v p bt Z A y q:=ß h;subst Z;let u Z B:=Ê (oG r);subst Z;cases B;refine Ì (I.gs v _ A) λd _=>Ð (D3 I.gs y) λz hd vs ai m=>Ë m.dictAt λC k=>?_;have f:=ai.length;let n E b c kp o a:=PySem.W.kdl_call (PySem.W.kdl_values) (I.ok.hd t) #[d,k] cT;have x:=PySem.W.kdl_vals_eq _ (by rw[eY];exact a.1) λj v e=>a.2 j v (by rw[<- kW];exact e);exact#[ϛ,.ref s.heap.objs.size,_,I.Ķ kp (aL _) (show lI X.prog X.w _ n _ (.u8 (bt.map (·.2)))from#[by rw[aB];exact z,aO6 b,c,by rw[x];exact VA ai,Á o]),1,q _ (I.gs.fresh (aL _))]
theorem DF(hc:X.Ň=ww):lW X (fx "list") (λT H Q=>∃v p bt,T=[.ref v]/\H v=wz (JJ v p)/\H p=wz (.dK bt) /\
  ∀(d:List à)(l:à)f,bJ H f->H l=wx->iN d=iN bt->(∀(j:Nat)(a:à)(e:mR×V),d[j]?=wz a->bt[j]?=wz e->H a=wx/\f a=wz (.ņ [kV e.1,e.2]))->f l=wz (.u8 (d.map V.ref))->Q (.ref l) f):=by
 intro S s σ H T us Q I r h;let v p bt D hv hp q:=ß h;subst D;let u D rx:=Ê (oG r);subst D;cases rx;refine Ì (I.gs v _ hv) λM _=>Ð (D3 I.gs hp) λz hd vs ai dd=>Ë dd.dictAt λep da=>?_;have xi:=ai.length;let h' tk J c d kk R K w t:=PySem.W.kdx_call (I.ok.hd hc) M da cT;have nd:=w.rise.imp λh=>cO h
 generalize L:dl s.heap.objs=l at *
 let G:List HO:=bt.map λe=>HO.ņ [kV e.1,e.2]
 let f:Hp:=λb=>if b=l then wz (.u8 (d.map V.ref))else match(d.zip G).lookup b with | some o=>wz o | none=>H b
 have m:∀a,l<=a->H a=none:=λa ha=>I.gs.fresh (by rw[L];exact ha)
 have g:∀(j:Nat)(a:à)(e:mR×V),d[j]?=wz a->bt[j]?=wz e->f a=wz (.ņ [kV e.1,e.2]):=λj a e i C=>by
  show(if a=l then _ else _)=_;rw[a9 (iF (w.above a (aU i))),O0 nd i (by show(bt.map _)[j]?=_;rw[aK,C];rfl)]
 have O:bJ H f:=λb o e=>by
  have nb:¬l<=b:=λz=>by rw[m b z]at e;cases e
  show(if b=l then _ else _)=_;rw[a9 (show¬b=l fromλz=>nb (mX z.symm))]
  cases F:(d.zip G).lookup b with
  |none=>exact e
  |some y=>
   exact Ê (GW F) λj i _=>c9 (iG (w.above b (aU i))) nb
 have A:f l=wz (.u8 (d.map V.ref)):=b8 eH;refine#[ϛ,.ref l,f,I.laidM kk O λa o e n=>?_,1,q d l f O (m l (aL _)) cT (λj a e i C=>#[m a (iG (w.above a (aU i))),g j a e i C]) A];have hL:bM=2^24:=rfl;by_cases P:a=l
 .subst P;rw[A]at e;cases e;refine#[by rw[L];exact aL _,by rw[aB];lia,aO6 J,c,2,Á R];rw[t];clear t w nd G f m g O A q R K
  induction d with
  |nil=>exact tj
  |cons x d ih=>exact Cl eH ih
 .have B:(match(d.zip G).lookup a with | some o=>wz o | none=>H a)=wz o:=by
   have:=e;rw[<- this];exact(a9 P).symm
  cases F:(d.zip G).lookup a with
  |none=>rw[F]at B;rw[n]at B;cases B
  |some y=>
   rw[F]at B;cases B;refine Ê (GW F) λj i C=>Ú (w.pairs j a i) λN k x U Y Z=>Ê (Kj ai U) λy e1 e2=>?_;have E:=C;rw[aK,e1]at E;cases E;exact#[by rw[L];exact iG (w.above a (aU i)),by show 2<=bM;decide,[N,x],Cl (VB Y) (Cl e2 tj),#[_,Z,101]]
end
end L2
namespace TL
open L2
section
variable{X:Cx}{C:à}{e i:æ}{A:List æ}{u E:ET}{pos s z c:Pos}
def Pw(C:à)(u:ET):EZ (nE C):=λb n a Q=>u a λd=>d=b/\Q n (aW (iN n.bt))
def Jz(f:DK X.K C)(j:gA X.K C "numbered")(G:eX X e u)(hb:i4 e "numbered" X.ak (è e X.ak)=è e X.ak|>ũ)
  (pc:∀{v},PE X (ą e "numbered" c) v->PE X (ă g [ą e "numbered" c] [] pos) (YO (λN H Q=>∃(p:à)(bt:ź),N=[.ref p]/\H p=wz (.dK bt)/\Q (.int (iN bt)) H) (vX v IN))) :
  xU (F:=nE C) X (ă g [ą e "numbered" c] [] pos) (Pw C u):=Ê G λv p r=>by refine#[Ϙ,_,pc (AB f j p hb),λB J H L b O T n Q P o h k=>r B J H L b O _ _ o.ok h λd x m l M q1=>?_];let z q:=Ì q1;subst z;let z a:=Ì (nY o l M eH);subst z;refine ô (id a) λI U W kv t w R S y=>#[_,C,30,t,f,j,1,T.q,kv,1,w,2];rw[<- y.length];exact k n _ _ m (.of l) a (.int _) q
def Pz(C:à)(u E:ET):EZ (nE C):=λb n a Q=>u a λd=>d=b/\E a λy=>∃j x,y=aW j/\qJ n.bt j=wz x/\Q { n with bt:=HJ n.bt j } x
def aOb(M:DK X.K C)(N:gA X.K C "numbered")(he:eX X e u)(hi:eX X i E)(hb:i4 e "numbered" X.ak (è e X.ak)=è e X.ak|>ũ)
  (pc:∀{v va},PE X (ą e "numbered" c) v->PE X i va->PE X (ă (ą (ą e "numbered" c) "pop" s) [i] [] z) (WG X.K "dict" (λx xs H Q=>∃(p:à)(bt:ź)(k:mR)(v:V),x=.ref p/\xs=[kV k]/\H p=wz (.dK bt)/\tY bt k=wz v/\Q v (fU H p (.dK (jW bt k)))) v (vX va IN))) :
  xU (F:=nE C) X (ă (ą (ą e "numbered" c) "pop" s) [i] [] z) (Pz C u E):=Ê he λv p r=>Ê hi λvi pi ri=>by
 refine#[Ϙ,_,pc (AB M N p hb) pi,λB R H S b W T n Q QV o h k=>r B R H S b W _ _ o.ok h λd x Y f r1 q1=>?_];let D q:=Ì q1;subst D;let D l:=Ì (nY o f r1 eH);subst D;refine Ì (id l) λ_ ψ=>Ú ψ λ_ _ G m t _=>#[_,C,30,m,M,N,1,i7 (i7 (j3 #[1,j3 #[G,t]])),2];let y yv H2 U r2 q2:=ri B R Y S b W _ _ (o.fz f).ok q;let j x D g q:=Ø q2;subst D;cases r2;have P:=(o.fz f).fz U;let gc v1 v6 kv h1 Z h3 h4 L:=ô (id P.tp);have O:=o.Ľ T.q (by show T.q∈[T.p,T.q];simp);rcases L.val j with⟨a,J⟩ | ⟨d,w,a,J,I⟩
 .rw[g]at a;cases a
 .rw[g]at a;cases a;refine#[ϣ,T.q,kv,t6 j,w,7,Z,J,2];exact k _ x w _ (((iQ.of f).trans (.of U)).trans (JW (by show T.q∈[T.p,T.q];simp))) (Jp P.tp O (L.drop j)) (I.same (by rw[fW O];exact L2.bJ.refl _)) q
def aPj(C:à)(u:ET):EZ (nE C):=λb n a Q=>u a λd=>d=b/\Q n (eE (n.bt.map (·.2)))
def aH8(I:DK X.K C)(L:gA X.K C "numbered")(O:eX X e u)(hb:i4 e "numbered" X.ak (è e X.ak)=è e X.ak|>ũ)
  (pc:∀{v:TE},PE X (ą e "numbered" c) v->PE X (ă g [ă (ą (ą e "numbered" c) "values" s) [] [] z] [] pos) (YO (λw H Q=>∃(v p:à)(bt:ź),w=[.ref v]/\H v=wz (JI v p)/\H p=wz (.dK bt)/\∀l,H l=wx->Q (.ref l) (fU H l (.u8 (bt.map (·.2)))))
   (vX (Co X.K "dict" (λx w H Q=>w=[]/\∃(p:à)(bt:ź),x=.ref p/\H p=wz (.dK bt)/\∀v,H v=wx->Q (.ref v) (fU H v (JI v p))) v) IN))) :
  xU (F:=nE C) X (ă g [ă (ą (ą e "numbered" c) "values" s) [] [] z] [] pos) (aPj C u):=Ê O λv p r=>by refine#[Ϙ,_,pc (AB I L p hb),λB R H S y W T n Q Y o h k=>r B R H S y W _ _ o.ok h λd x G j U q1=>?_];let i q:=Ì q1;subst i;let i b:=Ì (nY o j U eH);subst i;refine ô (id b) λP v1 v6 kv M f Z h4 N=>#[_,C,30,M,I,L,1,i7 (i7 (j3 #[1,j3 #[kv,f]])),1,T.q,kv,1,f,λt a=>?_];refine#[ϡ,t,T.q,kv,1,cL,by rw[cC (fD f a)];exact f,λl J=>?_];have m:bJ G (fU (fU G t (JI t T.q)) l (.u8 (kv.map (·.2)))):=(dZ a).trans (dZ J);exact k n _ _ _ (.of (j.trans m)) (vS.At.fz b m) (.list (qE.of (nB (iS (o.fz j).ok.bu (bJ.ŗ (dZ a) J)) cL)) (N.Ŗ.same (bU m))) q
def aLq(C:à)(u:ET):EZ (nE C):=λb n a Q=>u a λd=>d=b/\Q n (eE (n.bt.map λe=>cN [aW e.1,e.2]))
theorem uV.at{K}{a b}{j:Nat}{e:Int×D}(h:uV K H a b)(g:a[j]?=wz e):∃v,b[j]?=wz (.inl e.1,v)/\iM K H e.2 v:=by
 induction h generalizing j with
 |nil=>simp at g
 |cons r t n=>
  cases j with
  |zero=>simp at g;subst g;exact#[0,r]
  |succ j=>exact Ê (n (Á g)) λv d f=>#[v,Á d,f]
theorem aDk(U:DK X.K C)(Y:gA X.K C "numbered")(he:eX X e u)(hb:i4 e "numbered" X.ak (è e X.ak)=è e X.ak|>ũ)
  (pc:∀{v:TE},PE X (ą e "numbered" c) v->PE X (ă g [ă (ą (ą e "numbered" c) "items" s) [] [] z] [] pos) (YO (λM H Q=>∃(v p:à)(bt:ź),M=[.ref v]/\H v=wz (JJ v p)/\H p=wz (.dK bt) /\
  ∀(t:List à)(l:à)f,bJ H f->H l=wx->iN t=iN bt->(∀(j:Nat)(a:à)(e:mR×V),t[j]?=wz a->bt[j]?=wz e->H a=wx/\f a=wz (.ņ [kV e.1,e.2]))->f l=wz (.u8 (t.map V.ref))->Q (.ref l) f)
   (vX (Co X.K "dict" (λx M H Q=>M=[]/\∃(p:à)(bt:ź),x=.ref p/\H p=wz (.dK bt)/\∀v,H v=wx->Q (.ref v) (fU H v (JJ v p))) v) IN))) :
  xU (F:=nE C) X (ă g [ă (ą (ą e "numbered" c) "items" s) [] [] z] [] pos) (aLq C u):=Ê he λv p r=>by refine#[Ϙ,_,pc (AB U Y p hb),λB p0 H Z N σ T n Q QV o h k=>r B p0 H Z N σ _ _ o.ok h λd x H1 I r1 q1=>?_];let i q:=Ì q1;subst i;let i m:=Ì (nY o I r1 eH);subst i;refine ô (id m) λgc v1 v6 kv h1 y h3 h4 S=>#[_,C,30,h1,U,Y,1,i7 (i7 (j3 #[1,j3 #[kv,y]])),1,T.q,kv,1,y,λL b=>?_];refine#[ϡ,L,T.q,kv,1,cL,by rw[cC (fD y b)];exact y,λt l f sH hl wn G hL=>?_];have J:=(dZ b).trans sH;have R:∀a,fU H1 L (JJ L T.q) a=wx->a∉Z:=λa ha=>iS ((o.fz I).ok.bu) (bJ.ŗ (dZ b) ha);have W:=S.length;refine k n _ _ _ (.of (I.trans J)) (vS.At.fz m J) (.list (qE.of (nB (R l hl) hL)) (DU (by rw[aB,aB];lia) λj d v O P=>?_)) q;rw[aK]at O P;exact É d (cM.mp O) λen k1=>É v (cM.mp P) λa a1=>Ê (S.at k1) λw g1 g2=>Ì (G j a _ a1 g1) λf1 f2=>.tuple (tV.of (nB (R a f1) f2)) (.cons (.int _) (.cons (g2.same (bU J)) .nil))
def Fy(C:à)(g:zD (nE C))(u:ET)(t:AZ (nE C)):EZ (nE C):=λa n b Q=>u b λd=>d=a/\t a n b λn1 f=>g a n1 (a::f) Q
def Ac:List Str:=["form","deep","least","numbered","following","standing"]
def ND(h:m∉Ac):(NE T v1 v6 n).lookup m=none:=qH h
def pF(J:m∉Ac)(I:eX X e u)(G:V3 X (i::A) t)
  (O:∀{v ta},PE X e v->PA X (i::A) ta->PE X (ă (ą e m s) (i::A) [] pos) (FR C m (kE X.K sp) [] E0 v ta)):xU X (ă (ą e m s) (i::A) [] pos) (Fy C sp u t):=Ê I λv P re=>Ê G λva N Y=>by refine#[Ϙ,_,O P N,λB j H g a q T n Q QV o h k=>re B j H g a q _ _ o.ok h λd x w b U q1=>?_];obtain⟨rfl,q1⟩:=q1;let c f:=Ì (nY o b U eH);subst c;refine Ì (id f) λ_ z=>Ñ z λ_ _ _ F _=>#[ϡ,30,F,ND J,Y B j w g a q T n _ _ (o.fz b) q1 λM y xs H2 l p W q2=>?_];rw[cG];exact#[ϥ,g,T,M,oF T::y,Q,((o.fz b).ř l p).ok.bu,o.Ľ,p,.cons (L3 T) W,q2,λL d v r Z t' S R=>k L d v r (((iQ.of b).trans l).trans Z) t' S R]
def sD(q:m∉Ac)(p:eX X e u)
  (w:∀{v},PE X e v->PE X (ă (ą e m s) [] [] pos) (FR C m (kE X.K sp) [] E0 v IN)):xU X (ă (ą e m s) [] [] pos) (Fy C sp u Fz):=Ê p λv y re=>by refine#[Ϙ,_,w y,λB t H g f M T n Q O o h k=>re B t H g f M _ _ o.ok h λd x N b I q1=>?_];obtain⟨rfl,q1⟩:=q1;let i a:=Ì (nY o b I eH);subst i;refine Ì (id a) λ_ z=>Ñ z λ_ _ _ l _=>#[ϡ,30,l,ND q,2];exact#[ϥ,g,T,n,[oF T],Q,(o.fz b).ok.bu,o.Ľ,a,.cons (L3 T) .nil,q1,λr d v j J L G F=>k r d v j ((iQ.of b).trans J) L G F]
def aPs{F:vS}(u:EZ F):SZ F:=λd b n a=>u d n a λn1 _=>b.nx n1 a
def qB{u:EZ F}(h:xU X e u)(p:∀{v:TE},PE X e v->PS X (.Expr e pos) (JP v)):D9 X (.Expr e pos) (aPs u):=Ê h λv m r=>by refine#[Ϙ,_,p m,λB l H b a j T n t w o h f=>r B l H b a j T n _ _ o h λn1 d x k g q y q1=>?_];exact f.nx k b a j n1 (o.ř g q) (g.ī o.Ľ) q1
end
section
variable{K:aH}{B l H:Hp}{g f:List à}{c:List Sl}{k:L2.St}
def Ok.less(o:Ok K B g H f c k)(hs:bJ l B):Ok K l g H f c k where
 base:=hs.trans o.base
 sub:=o.sub
 bu:=o.bu
 len:=o.len
 val:=o.val
 own:=λi ts h=>let ⟨p,xs,h1,h2,h3,h4⟩:=o.own i ts h;#[Ϝ,p,xs,h1,h2,bJ.ŗ hs h3,h4]
 Ī:=o.Ī
 dc:=o.dc.to (λ_ _ _ h=>#[h,1]) (λ_ _ a _ _=>#[a,1]) (λ_ _ _ _ a b=>#[bJ.ŗ hs a,b]) (L2.bJ.refl _)
def Ok.pokeI(o:Ok K B g H f c k){p C dx:à}{fs}(hp:p∈f)(hB:B p=wx)(he:H p=wz (.Œ C dx fs))(hn:∀(j:Nat)(hs:List Int)(bt:Ÿ),c[j]?≠wz (.Ė hs bt))(hu:zf u=false|>ũ):Ok K B g (fU H p u) f c k where
 base:=λb w e=>by
  rw[cC λz=>by rw[z,hB]at e;cases e];exact o.base b w e
 sub:=o.sub
 bu:=λq hq=>by
  by_cases e:q=p
  .subst e;rw[cL];exact#[0,hu]
  .rw[cC e];exact o.bu q hq
 len:=o.len
 val:=λi d h=>by rw[fW hp];exact o.val i d h
 own:=λi ts h=>by
  rw[fW hp];exact ì (o.own i ts h) λq xs h1 h2 h3 h4 h5 h6=>#[Ϟ,q,xs,h1,h2,h3,h4,by rw[cC λz=>by rw[z,he]at h5;cases h5];exact h5,h6]
 Ī:=o.Ī
 dc:=λi hs bt h=>c9 h (hn i hs bt)
def N5(j:Nat)(a:List Int)(bt:Ÿ):(lF N ds)[j]?≠wz (.Ė a bt):=λh=>by
 have hm:=aU h;rcases bK.mp hm with hm | hm
 .refine Ê (aM.mp hm) λ_ _ z=>?_;cases z
 .have z:=(List.mem_replicate.mp hm).2;cases z
end
def Qw(K:aH)(a:TE):TS:=Q1 (LZ K (qQ 0) (qQ 1) "form") (Q1 (LZ K (qQ 0) (qQ 2) "deep") (Q1 (LZ K (qQ 0) (qQ 3) "least") (Q1 (LZ K (qQ 0) ZR "numbered") (Q1 (LZ K (qQ 0) (tC (.int 0)) "following") (LZ K (qQ 0) a "standing")))))
def Bc(x:à):D:=tS [(aG "@",eE [aW (x:Nat)])]
def MM(C:à)(K:aH)(f:kK):Sp:=λvs H Q _=>∃x dx c dp ls b fm d,vs=[.ref x,c,.int dp,.int ls]/\x∈b/\H x=wz (.Œ C dx [])/\(∀p∈b,CK (H p))/\iM K (ê H b) fm c/\f [fm,aW dp,aW ls] d /\
 ∀q st e a,bJ (ê H [x]) a->q≠x->H q=wx->a q=wz (.dK [])->a x=wz (.Œ C dx (NE #[x,q,dx,fm,dp,ls] c e #[[],(0),st]))->iM K (ê a (q::b)) st e->d st->Q .z8 a
def Nc{K}{mg:â->Option á}{C:à}{x b:â}{st}{f:à}{N pn:List â}{k:Nat}{J:kK}(M:QK K x b st f fd)(S:bL N pn (aQ st))(O:iN pn=4)
  (m:DK K C) (n1:gA K C "form") (T:gA K C "deep") (n3:gA K C "least") (U:gA K C "numbered") (n5:gA K C "following") (W:gA K C "standing")
  (i:∀d A ag s H E,iL k (A.deeper (j8 b (aQ st) s.heap.objs.size f d))->∀z fm dp ls Q,J [fm,aW dp,aW ls] Q ->
   ∃e t,eX (tJ rH P w K mg base N b (aQ st) f d A ag s H E).nox e t/\(∀{v},PE (tJ rH P w K mg base N b (aQ st) f d A ag s H E).nox e v->EK (tJ rH P w K mg base N b (aQ st) f d A ag s H E).nox (mL st) (Qw K v))/\t (lF N [z,fm,aW dp,aW ls]) Q):nG P w K mg base rH (k+1) f fd pn (MM C K J):=by
 let d A ag s H vs Q E R h:=M.ok S (λvs H Q E h=>?_)
 .exact ð h λx dx c dp ls o ψ=>õ vs ψ λfm y _=>O.symm
 .refine ð h λx dx c dp ls o χ=>õ vs χ λfm y ψ=>Û ψ λp B bu r1 q k=>?_;obtain⟨e,t,⟨vv,pe,re⟩,pp,h⟩:=i d A ag s H E R (Bc x) fm dp ls y q;refine#[Ϙ,_,pp pe,2];have l:ê H [x] x=none:=by unfold ê;rw[b8 (bC.mpr eH)]
  have X:Ok K (ê H [x]) o H o (lF N [Bc x,fm,aW dp,aW ls]) (L2.oY N [.ref x,c,.int dp,.int ls]):=(sB bu (.cons (.addr _) (.cons r1 (.cons (.int _) (.cons (.int _) .nil))))).less cH;have nd:=N5 (N:=N) (ds:=[Bc x,fm,aW dp,aW ls]);have j:(L2.oY N [.ref x,c,.int dp,.int ls])[0]?=wz (wz (.ref x)):=rfl;have Y:=(X.pokeI (u:=.Œ C dx [("form",c)]) p l B nd).pokeI (u:=.Œ C dx [("form",c),("deep",.int dp)]) p l cL nd;refine#[c,1,.ref x,j,x,C,dx,[],1,B,m,n1,52];refine#[.int dp,1,.ref x,j,x,C,dx,0,cL,m,T,52];refine#[.int ls,1,.ref x,j,x,C,dx,0,cL,m,n3,52];intro q n;have a:q≠x:=λz=>by rw[z]at n;rw[cL]at n;cases n
  have Z:=(Y.pokeI (u:=.Œ C dx [("form",c),("deep",.int dp),("least",.int ls)]) p l cL nd).adopt (u:=.dK []) n;have g:x∈q::o:=aE _ p;have F:fU (fU (fU (fU H x (.Œ C dx [("form",c)])) x (.Œ C dx [("form",c),("deep",.int dp)])) x (.Œ C dx [("form",c),("deep",.int dp),("least",.int ls)])) q (.dK []) x=wz (.Œ C dx [("form",c),("deep",.int dp),("least",.int ls)]):=by rw[cC (j6 a)];exact cL
  have I:=(Z.pokeI (u:=.Œ C dx [("form",c),("deep",.int dp),("least",.int ls),("numbered",.ref q)]) g l F nd).pokeI (u:=.Œ C dx [("form",c),("deep",.int dp),("least",.int ls),("numbered",.ref q),("following",.int 0)]) g l cL nd;refine#[.ref x,j,x,C,dx,0,F,m,U,52];refine#[.ref x,j,x,C,dx,0,cL,m,n5,52];let st L H6 r r6 q6:=re _ o _ (q::o) _ _ _ _ I h;have G:=r _ _ (cL);refine#[.ref x,j,x,C,dx,0,G,m,W,52];refine k q st L _ ((I.fz r).pokeI (u:=.Œ C dx (NE #[x,q,dx,fm,dp,ls] c L #[[],(0),st])) g l G nd).base a ?_ ?_ cL (r6.same (by rw[fW g];exact L2.bJ.refl _)) q6
  .rw[cC a,cC a,cC a]at n;exact n
  .rw[cC a];exact r _ _ (by rw[cC a,cC a];exact cL)
def Ok.wide{K:aH}{B H l:Hp}{m g f:List à}{k:List Sl}{n:L2.St}(o:Ok K B m H g k n)(s:bJ H l)(x:∀a∈f,H a=wx)(F:∀a∈f,CK (l a)):Ok K B (f++m) l (f++g) k n:=by
 have w:bJ (ê H g) (ê l (f++g)):=λb u e=>by
  unfold ê at e |-
  by_cases hb:b∈g
  .rw[b8 hb]at e;cases e
  .rw[a9 hb]at e;rw[a9 λz=>(bK.mp z).elim (λz=>by rw[x b z]at e;cases e) hb];exact s b u e
 refine#[o.base.trans s,λp y=>(bK.mp y).elim (λz=>gH _ z) λz=>cX _ (o.sub p z),λp y=>?_,o.len,λi d h=>?_,λi G h=>?_,o.Ī,2]
 .rcases bK.mp y with z | z
  .exact F p z
  .exact Ê (o.bu p z) λu q r=>#[u,s p u q,r]
 .exact Ê (o.val i d h) λv q r=>#[v,q,r.same w]
 .exact ì (o.own i G h) λp I q r A C t E=>#[Ϟ,p,I,q,cX _ r,A,λz=>(bK.mp z).elim (λz=>by rw[x p z]at t;cases t) C,s _ _ t,E.same w]
 .exact o.dc.to (λj L bt h=>#[h,1]) (λp J a b _=>#[cX _ a,(s p _ b).trans b.symm]) (λp J _ b c d=>#[c,λz=>(bK.mp z).elim (λz=>by rw[x p z]at b;cases b) d]) w
end TL
namespace L2
def HK(f:Array á->Array á)(o:Obj):(v9 f o).dict=o.dict:=by
 unfold v9;split<;>rfl
structure zM(h:ç)(e T:à)(dx:Option à)(cls a0 fl:á):Prop where
 ne:T≠e
 ex:∃o vs,h.get? e=wz o/\o.cls=cls/\o.dict=dx/\o.data=.fields vs/\vs[0]?=wz a0/\vs[1]?=wz (.ref T)
 tr:∃o ts,h.get? T=wz o/\o.data=.fields ts/\ts[3]?=wz fl
structure iI(fr ch:List à)(h h':ç):Prop where
 keep:∀b o,h.get? b=wz o->b∉fr->b∉ch->h'.get? b=wz o
 slot:∀b o,h.get? b=wz o->b∈fr->b∉ch->∃sl,h'.get? b=wz { o with slots:=sl }
def iI.of{h a:ç}(k:∀b o,h.get? b=wz o->b∉ch->a.get? b=wz o):iI fr ch h a:=#[λb o e _ c=>k b o e c,λb o e _ c=>#[o.slots,k b o e c]]
def iI.any{h a:ç}(x:iI fr ch h a){b:à}(e:h.get? b=wz o)(c:b∉ch):∃d,a.get? b=wz { o with slots:=d }:=by
 by_cases f:b∈fr
 .exact x.slot b o e f c
 .exact#[o.slots,x.keep b o e f c]
def iI.trans(x:iI fr ch h1 h2)(y:iI fr ch h2 h3):iI fr ch h1 h3:=by
 refine#[λb o e f c=>y.keep b o (x.keep b o e f c) f c,λb o e f c=>?_];exact Ë (x.slot b o e f c) λh d=>Ë (y.slot b _ d f c) λa g=>#[a,g]
def iI.more{h}(x:iI fr ch h h')(m:∀b∈ch,b∈ch'):iI fr ch' h h':=#[λb o e f c=>x.keep b o e f λz=>c (m b z),λb o e f c=>x.slot b o e f λz=>c (m b z)]
def iI.frames{base h d:ç}(x:iI fr ch h d)(g:h.FunFrames base l)(c:∀b∈uM l,b∉ch):d.FunFrames base l:=by
 induction l with
 |nil=>trivial
 |cons v r n=>
  obtain⟨f,⟨L,o,a,j,k,hd⟩,m⟩:=g
  have i:L∈uM (v::r):=by
   show L∈(v::r).filterMap (·.frame);rw[mE,a];exact aJ ..
  refine Ë (x.any k (c L i)) λp e=>#[f,#[Ϝ,L,_,a,j,e,hd],n m λb hb=>c b ?_];show b∈(v::r).filterMap (·.frame);rw[mE,a];exact aE _ hb
section
variable{P:dF}{w:g6}{A:g3}{E:á->ã->Prop}{s:ã}{base:ç}{v:Env}{ag:List Env}{L e:à}{Q:Unit->ã->Prop}
def HH{o:Obj}{vs:Array á}{nx:Bool}(C:A.frames=wz (v::ag))(I:s.heap.FunFrames base (v::ag))(F:v.frame=wz L)(H:s.heap.get? e=wz o)(hd:o.data=Id vs)(J:1<dl vs)(p:e∉uM (v::ag))
  (k:∀i T,dl s.heap.objs<=T->T≠e->iI (uM (v::ag)) [e] s.heap i->(∃j,i.get? e=wz j/\j.cls=o.cls/\j.dict=o.dict/\j.data=Id (vs.setIfInBounds 1 (g8 T)))->(∃x y,i.get? T=wz x/\x.data=.fields y/\y[3]?=wz (v4 L))->Q () { s with heap:=i }) :
  å (ä P w) A (do let a <- frameOf v;let l <- entryPlaceOf L nx;let b <- EntryCells.newEntry lz a o0 (v4 L) o0 l;setField (g8 e) 1 b) Q E s:=by
 apply aF;let d so:=wpAny_frameOf_fun C I F;apply aF;refine wpAny_entryPlaceOf λl h=>?_;apply aF;refine jE ?_ (h.sizeOk5 _ _ _ _ _);have r:=(so.2.1 e p).trans H
 generalize g:({ cls:=fx "traceback",dict:=wx,data:=Id (aPe ([lz,.ref L,.none,v4 L,.none]++(if l.isEmpty then dW 6 o0 else l))) }:Obj)=ob
 have t:(d.push ob).get? e=wz o:=aI _ r;refine ah t hd J ?_;have ne:=iF (bG r);have q:=t7 hd (·.setIfInBounds 1 (g8 d.objs.size))
 have G:((d.push ob).update e (v9 (·.setIfInBounds 1 (g8 d.objs.size)))).get? d.objs.size=wz ob:=by
  rw[iT _ _ (j6 ne)];refine bD d ?_;rw[<- g];rfl
 refine k _ d.objs.size (by rw[so.1];exact aL _) ne #[λb u m f c=>?_,λb u m f c=>?_] #[_,(yY (v9 (·.setIfInBounds 1 (g8 d.objs.size))) t (am q)),ia _ _,HK _ _,q] #[ϛ,ob,_,G,by rw[<- g],2]
 .have n:b≠e:=λz=>c (by rw[z];exact aJ ..);rw[iT _ _ (j6 n)];exact aI _ ((so.2.1 b f).trans m)
 .refine Ë (so.2.2 b u m) λK B=>#[K,2];rw[iT _ _ (j6 (λz=>c (by rw[z];exact aJ ..)))];exact aI _ B
 .rcases h with rfl | ⟨_,_,_,_,_,_,_,rfl⟩<;>simp
def RQ{o:Obj}(i:A.frames=wz (v::ag))(l:s.heap.FunFrames base (v::ag))(d:v.frame=wz L)(f:s.heap.get? e=wz o)(hd:o.data=.fields vs)(c:vs[1]?=wz o0)(h:vs[0]?=wz a0)(b:e∉uM (v::ag))
  (k:∀a T,dl s.heap.objs<=T->iI (uM (v::ag)) [e] s.heap a->zM a e T o.dict o.cls a0 (v4 L)->Q () { s with heap:=a }):å (ä P w) A (gp (g8 e) v) Q E s:=by
 unfold gp;simp only[d];apply aF;refine g4 f hd c ?_;rw[a9 cS];have g:=(oB.mp c).1;refine HH i l d f hd g b λa T n1 p n m j=>k a T n1 n #[p,2,j];exact ó m λq r t xd u=>#[Ϟ,q,_,r,t,xd,u,by rw[EF cS];exact h,by simp[g]]
def J9{T:à}(F:A.frames=wz (v::ag))(H:s.heap.FunFrames base (v::ag))(q:v.frame=wz L)(x:zM s.heap e T dx cls a0 o0)(m:e∉uM (v::ag))(j:T∉uM (v::ag))
  (k:∀a h,dl s.heap.objs<=h->iI (uM (v::ag)) [e,T] s.heap a->zM a e h dx cls a0 (v4 L)->Q () { s with heap:=a }):å (ä P w) A (gp (g8 e) v) Q E s:=by
 obtain⟨ne,⟨o,vs,t,G,l,hd,C,n⟩,⟨S,U,r,d,p⟩⟩:=x;unfold gp;simp only[q];apply aF;refine g4 t hd n ?_;rw[b8 (show(g8 T != o0)=ww from eH)];apply aF;refine g4 r d p ?_;rw[a9 (show¬((o0==v4 L)=ww) by simp[v4])];apply aF;refine ah r d (oB.mp p).1 ?_;have g:∀b,b≠T->(s.heap.update T (v9 (·.setIfInBounds 3 o0))).get? b=s.heap.get? b:=λb hb=>iT _ _ (j6 hb);have f:iI (uM (v::ag)) [T] s.heap (s.heap.update T (v9 (·.setIfInBounds 3 o0))):=.of λb u B c=>(g b λz=>c (by rw[z];exact aJ ..)).trans B;have y:=(oB.mp n).1;let a h n1 K J I i:=HH F (f.frames H λb hb z=>j (by rw[<- bC.mp z];exact hb)) q ((g e (j6 ne)).trans t) hd y m;refine k a h (aR (mX (FI ..).symm) n1) ((f.more λb hb=>by simp at hb |-;exact i7 hb).trans (J.more λb hb=>by simp at hb |-;exact j3 hb)) #[K,2,i];exact ó I λM N O xd R=>#[Ϟ,M,_,N,O.trans G,xd.trans l,R,by rw[EF cS];exact C,by simp[y]]
def vM{T:à}{fl}(x:zM s.heap e T dx cls a0 fl)(k:∀c,(∀b o,s.heap.get? b=wz o->b≠T->c.get? b=wz o)->zM c e T dx cls a0 o0->Q () { s with heap:=c }):å (ä P w) A (setFlight (g8 e) wx) Q E s:=by
 obtain⟨ne,⟨o,vs,h,n,d,hd,l,f⟩,⟨p,q,g,a,m⟩⟩:=x;have i:=(oB.mp m).1;apply aF;refine g4 h hd f ?_;rw[b8 (show(g8 T != o0)=ww from eH)];refine ah g a i (k _ (λb u j hb=>(iT _ _ (j6 hb)).trans j) #[ne,#[Ϟ,o,vs,(iT _ _ ne).trans h,n,d,hd,l,f],3,yY _ g (am (t7 a _)),t7 a _,by simp[i]])
def O2{o:Obj}(p:A.frames=wz (v::ag))(t:s.heap.FunFrames base (v::ag))(q:v.frame=wz L)(r:s.heap.get? e=wz o)(hd:o.data=.fields vs)(h:vs[1]?=wz o0)(m:vs[0]?=wz a0)(g:e∉uM (v::ag))
  (k:∀d T,dl s.heap.objs<=T->iI (uM (v::ag)) [e] s.heap d->zM d e T o.dict o.cls a0 o0->Q () { s with heap:=d }):å (ä P w) A (leaving v (g8 e)) Q E s:=by
 apply aF;let h T n1 j x:=RQ p t q r hd h m g;refine vM x λn i B=>k n T n1 #[λb u a f c=>?_,λb u a f c=>?_] B
 .exact i b u (j.keep b u a f c) λz=>c9 (bX (bG a) n1) (by rw[z];exact fK _)
 .exact Ë (j.slot b u a f c) λy l=>#[y,i b _ l λz=>c9 (bX (bG a) n1) (by rw[z];exact fK _)]
def R6{T:à}(o:A.frames=wz (v::ag))(q:s.heap.FunFrames base (v::ag))(p:v.frame=wz L)(x:zM s.heap e T dx cls a0 o0)(i:e∉uM (v::ag))(h:T∉uM (v::ag))
  (k:∀g d,dl s.heap.objs<=d->iI (uM (v::ag)) [e,T] s.heap g->zM g e d dx cls a0 o0->Q () { s with heap:=g }):å (ä P w) A (leaving v (g8 e)) Q E s:=by
 apply aF;let y d n1 l x:=J9 o q p x i h;refine vM x λn j t=>k n d n1 #[λb u a f c=>?_,λb u a f c=>?_] t
 .exact j b u (l.keep b u a f c) λz=>c9 (bX (bG a) n1) (by rw[z];exact fK _)
 .exact Ë (l.slot b u a f c) λr m=>#[r,j b _ m λz=>c9 (bX (bG a) n1) (by rw[z];exact fK _)]
end
section
variable{P:dF}{w:g6}{H k:Hp}{h j i:ç}{a:à}{o:HO}{c d g:List à}
theorem lI.get(x:lI P w H h a o):∃u,h.get? a=wz u:=by
 cases o with
 |u8 b=>exact Î x λ_ _ _ _ e=>#[_,e]
 |ņ b=>exact Ï x λ_ _ _ z=>Ê z λ_ e _=>#[_,e]
 |dK bt=>exact Ð x λ_ _ _ _ z=>Ñ z λo _ _ e _=>#[_,e]
 |dT bt=>exact Ð x λ_ _ _ _ z=>Ñ z λo _ _ e _=>#[_,e]
 |set S n=>exact Ò x λo _ _ _ e _=>#[_,e]
 |Œ C dx fs=>exact Ó x λ_ _ _ e _=>#[_,e]
 |own y=>exact Ë x λ_ e=>#[_,e]
 |xd fs=>obtain⟨_,⟨_,_,_,e,_⟩,_⟩:=x;exact#[_,e]
 |rng lo l=>exact Ô x λ_ _ _ e=>#[_,e]
 |frz ob u=>exact Ì x λe _=>#[_,e]
 |tbl m=>exact Ê x λ_ e _=>#[_,e]
 |met f y=>exact#[_,(show h.get? a=wz _ from x)]
 |ext p=>obtain⟨_,⟨_,e⟩,_⟩:=x;exact#[_,e]
def rP.out(x:rP P w H h)(e:h.get? a=wx):H a=none:=by
 cases q:H a with
 |none=>rfl
 |some u=>let y z:=Ë ((x a u q).get);rw[e]at z;cases z
def rP.butX(x:rP P w H h)(n:iI c g h i)(m:∀b∈c,H b=wx)(l:∀b∈g,H b=wx):rP P w H i:=λa o e=>by
 refine(x a o e).Ĥ (λb u hb q=>?_) (λ_ q=>q) λ_ _ q=>q
 have f:H b≠none:=by
  rcases hb with rfl | hb
  .rw[e];exactλz=>nomatch z
  .rw[hb];exactλz=>nomatch z
 exact n.keep b u q (λz=>f (m b z)) λz=>f (l b z)
def Un.but(u:Un c [] H k j h)(kb:iI d g h i)(nw:∀b o,j.get? b=wz o->b∉g/\(b∈d->b∈c)):Un c [] H k j i where
 keep:=λb o e n f x=>kb.keep b o (u.keep b o e n f x) (λz=>f ((nw b o e).2 z)) (nw b o e).1
 slot:=λb o e n f x=>Ë (u.slot b o e n f x) λsl e1=>Ë (kb.any e1 (nw b o e).1) λpu e2=>#[pu,e2]
 free:=u.free
 there:=λb o e x=>Ë (u.there b o e x) λo' e1=>Ë (kb.any e1 (nw b o e).1) λpu e2=>#[_,e2]
 Ĵ:=u.Ĵ
 ĵ:=u.ĵ
 ķ:=u.ķ
end
def S9(P:dF)(w:g6):YA:=λag H s E e d=>∃f T dx c g b,e=g8 f/\d.os=s.os/\z7 d.gens/\Un (uM ag) [] H b s.heap d.heap/\rP P w b d.heap /\
 zM d.heap f T dx c g o0/\b f=wx/\b T=wx/\s.heap.get? f=wx/\s.heap.get? T=wx/\(∀a,dx=wz a->s.heap.get? a=wx)/\E c dx b
section
variable{P:dF}{w:g6}{K:aH}{mg:â->Option á}{base:ç}{N:List â}{d:â}{c:Scope}{f:à}{cd:á}{A:g3}{ag:List Env}{s:ã}{H:Hp}{E:XK}
abbrev YW(P:dF)(w:g6)(K:aH)(mg:â->Option á)(base:ç)(N:List â)(d:â)(c:Scope)(f:à)(cd:á)(A:g3)(ag:List Env)(s:ã)(H:Hp)(E:XK):Cx:=tJ (S9 P w) P w K mg base N d c f cd A ag s H E
def Iz{g:Hp}{j s2:ã}{h:à}(I:dS (YW P w K mg base N d c f cd A ag s H E) pins σ g j)(m:s.heap.get? h=wx)(r:E cls dx g)(v:g h=wx)
  (n:s2.os=j.os) (u:s2.gens=j.gens) (p:iI (uM (j8 d c s.heap.objs.size f cd::ag)) ch j.heap s2.heap) (i:∀b∈ch,g b=wx/\s.heap.get? b=wx) {T:à} (x:zM s2.heap h T dx cls a0 o0) (t:g T=wx) (k:s.heap.get? T=wx) (l:∀a,dx=wz a->s.heap.get? a=wx) :
  S9 P w ag H s E (g8 h) s2:=by
 refine#[h,T,dx,cls,a0,g,1,n.trans I.os,by rw[u];exact I.ŕ,Un.but I.base p λb o e=>#[λz=>?_,λz=>?_],I.gs.butX p (λb hb=>I.stkFree b hb) λb hb=>(i b hb).1,x,v,t,m,k,l,r]
 .rw[(i b z).2]at e;cases e
 .rcases aN.mp (I.Ĳ b z)with q | q
  .rw[q]at e;exact c9 (bG e) (fK _)
  .exact q
def BB:xT (S9 P w) (YW P w K mg base N d c f cd A ag s H E) E:=by
 intro m M C n e L I t;refine ð t λj T dx p G F ψ=>ï e ψ λos ŕ φ=>Û φ λun gs x n1 v χ=>Ü χ λn3 l n5 r=>?_;have h:=I.call' os un gs ŕ λb z=>c9 z dN
 have g:∀b,n.heap.get? b=wx->b∉uM (j8 d c s.heap.objs.size f cd::ag):=λb hb z=>Ï (I.stack.mem z) λ_ o k _=>by rw[hb]at k;cases k
 have old:∀b,n.heap.get? b=wx->s.heap.get? b=none:=λb hb=>by
  cases q:s.heap.get? b with
  |none=>rfl
  |some o=>let y z:=Ë (I.base.there b o q (λz=>c9 z (by simp[tJ])));rw[hb]at z;cases z
 let J i sz u B:=R6 I.ok.frames h.stack eH x (g j n3) (g T l);refine Iz h (old j n3) r n1 eH eH u (λb hb=>?_) B (gs.fresh sz) ?_ λa z=>old a (n5 a z)
 .simp only[aN,cZ,j4]at hb;rcases hb with rfl | rfl
  .exact#[n1,old _ n3]
  .exact#[v,old _ l]
 .cases q:s.heap.get? i with
  |none=>rfl
  |some o=>let y z:=Ë (h.base.there i o q (λz=>c9 z (by simp[tJ])));rw[(rD sz)]at z;cases z
end
def Et(K:aH)(C:à):Prop:=∃nm q N bs b n sub e c h i j k l m J f g a d,
 K.lookup C=wz (excClassObj nm q C N bs (g8 J::[fx "ValueError",fx "Exception",fx "BaseException",fx "object"]) b n sub e c h i j k l m "ValueError.__new__") /\
 xX K N=ww/\oA K N "__init__"=wz wx/\K.lookup J=wz #[f,g,.cls a,d]/\xX K a.ns=ww/\oA K a.ns "__init__"=wz wx
def U0{K:aH}{h:ç}{N:à}{m:â->Option á}(X:K.In h)(G:h.Ns N m)(e:oA K N n=wz wx):m n=none:=ß G λo f d c hd _ b=>by
 unfold oA at e;split at e
 .rename_i q;have z:=X _ _ q;rw[c]at z;cases z;cases hd;split at e
  .cases e
  .rename_i a;rw[<- b];unfold nsFind findBy;rw[<- YM,a]
   rfl
 .cases e
def U1{h a:ç}{N:à}{m:â->Option á}(G:h.Ns N m)(k:∀b o,h.get? b=wz o->a.get? b=wz o):a.Ns N m:=let ⟨o,es,ep,ho,r⟩:=G;#[ϟ,o,es,ep,k _ _ ho,r]
def ZO(C:à)(E:XK)(t:TA):TS:=λ_ b H=>t b H λvs a=>iN vs<=bM/\E (g8 C) wx a
def BA{P:dF}{w:g6}{K:aH}{mg:â->Option á}{base:ç}{N:List â}{d:â}{c:Scope}{f:à}{cd:á}{A:g3}{ag:List Env}{s:ã}{H:Hp}{E:XK}{C:à}{k:Nat}{x:â}(R:Et K C)(hr:iL k (A.deeper (j8 d c s.heap.objs.size f cd)))(hg:Gl (YW P w K mg base N d c f cd A ag s H E) x)(i:mg x=wz (g8 C))
  (Z:PA (YW P w K mg base N d c f cd A ag s H E) (e::es) t) (hd:Ů x|>Ū)
  (M:bR (e::es) (j8 d c s.heap.objs.size f cd)=(wv,è e (j8 d c s.heap.objs.size f cd))::bR es (j8 d c s.heap.objs.size f cd)|>ũ)
  (v:(j7 cpos (bR (e::es) (j8 d c s.heap.objs.size f cd))).any (·.1)=false|>ũ) :
  PS (YW P w K mg base N d c f cd A ag s H E) (.Raise (wz (ă (KK x np) (e::es) [] cpos)) wx pos) (ZO C E t):=by
 intro m s1 σ U D I h;obtain⟨nm,q,W,bs,hdct,sn,sub,ab,col,dd,k0,k1,k2,k3,k5,J,c0,dJ,X,xy,lC,nC,iC,lJ,nJ,iJ⟩:=R;have B:=aE5.of_isNs (TB I.mod.kin nC);have G:=aE5.of_isNs (TB I.mod.kin nJ);refine wpAny_Raise_call_subT F.excBase_ValueError (C:=C) (nm:=nm) (q:=q) (N:=W) (bs:=bs) (bm:=g8 J::[fx "ValueError",fx "Exception",fx "BaseException",fx "object"]) (hdct:=hdct) (sn:=sn) (sub:=sub) (ab:=ab) (col:=col) (dd:=dd) (k0:=k0) (k1:=k1) (k2:=k2) (k3:=k3) (k5:=k5) (by rfl) hr.hd v (U0 I.mod.kin B iC) (yM I hg i #[12] hd);rw[show(YW P w K mg base N d c f cd A ag s H E).ak=j8 d c s.heap.objs.size f cd from eH,M];refine fh ?_;have S:=Z cpos m s1 σ U _ I h;rw[show(YW P w K mg base N d c f cd A ag s H E).ak=j8 d c s.heap.objs.size f cd from eH,M]at S;refine fG S (λus s2 hz=>?_) λ_ _ z=>z;refine Ý hz λvs H2 g r hl Y=>#[1,by rw[<- r.length];exact hl,g.kIn _ _ lC,U1 B g.bk,.own (g.kIn _ _ lJ) (U1 G g.bk) (U0 I.mod.kin G iJ) .base,λL y i=>?_];have j:=g.gs.œ i.keeps;have n:=g.un (t':=s2.toks) (Un.œ i.keeps) j;let t' u V z0:=Õ i.there;have O:=g.gs.out i.new
 have l:y∉uM (j8 d c s.heap.objs.size f cd::ag):=λz=>Ï (g.stack.mem z) λ_ o Q _=>by rw[i.new]at Q;cases Q
 have old:∀b,s2.heap.get? b=wx->s.heap.get? b=none:=λb hb=>by
  cases q:s.heap.get? b with
  |none=>rfl
  |some o=>let o' z:=Ë (g.base.there b o q (λz=>c9 z (by simp[tJ])));rw[hb]at z;cases z
 let p T sz kb x':=O2 (base:=base) (ag:=ag) (s:={ s2 with heap:=L }) I.ok.frames n.stack eH u eH eH eH l;refine Iz (s2:={ s2 with heap:=p }) n (old y i.new) Y O eH eH kb (λb hb=>?_) x' (j.fresh sz) ?_ (λa z=>nomatch z)
 .simp only[aN,cZ,j4]at hb;subst hb;exact#[O,old _ i.new]
 .cases q:s.heap.get? T with
  |none=>rfl
  |some o=>let o' z:=Ë (n.base.there T o q (λz=>c9 z (by simp[tJ])));rw[show({ s2 with heap:=L }:ã).heap.get? T=wx from rD sz]at z;cases z
def RS(X:Cx)(st:é)(rt:St->Hp->(Hp->XK)->Prop):Prop:=∀a s c H W,dS X a c H s->rt c H W ->
 å (ä X.prog X.w) X.A (exec st X.ak) (λ_ _=>False) (λe f=>∃b d,dS X a c b d/\S9 X.prog X.w X.stack b d (W b) e f) s
def RE(X:Cx)(e:æ)(rt:St->Hp->(Hp->XK)->Prop):Prop:=∀a s c H W,dS X a c H s->rt c H W ->
 å (ä X.prog X.w) X.A (è e X.ak) (λ_ _=>False) (λe f=>∃b d,dS X a c b d/\S9 X.prog X.w X.stack b d (W b) e f) s
def V1(X:Cx):Prop:=∀e s,¬X.xe e s
def aMp{X:Cx}{pos:Pos}{e:æ}{rt:St->Hp->(Hp->XK)->Prop}(h:RE X e rt)(c:lY e (wz (KK y pos')) pos.line X.ak=pure false|>ũ):RS X (Ā [KK y pos'] e pos) rt:=by
 intro a s d H W I b;exact kc (kN (h a s d H W I b) λv f z=>z.elim) c
abbrev Cx.ħ(X:Cx)(a:à):Cx:={ X with A:=X.A.mark (wz (.ref a)),Ň:=wv }
section
variable{X:Cx}{d:Ž}{g:St}{H:Hp}{s:ã}{l:à}
def dS.mark(I:dS X d g H s)(l:à):dS (X.ħ l) d g H s:=
 #[#[I.ok.mod,I.ok.kind,I.ok.ġ,I.ok.blt,I.ok.above,I.ok.inj,I.ok.has,I.ok.cab,(λz=>nomatch z),I.ok.frames,I.ok.stk,I.ok.exf,I.ok.bs,I.ok.bsz,I.ok.noex,I.ok.exfs,I.ok.Ğ,I.ok.frf,I.ok.tab],I.os,I.ŕ,I.base,I.loc,I.cell,I.free,I.Ĺ,I.pin,I.gs,I.len]
def dS.unmark(I:dS X d g H s)(J:dS (X.ħ l) d v7 H' s'):dS X d v7 H' s':=#[I.ok,J.os,J.ŕ,J.base,J.loc,J.cell,J.free,J.Ĺ,J.pin,J.gs,J.len]
def aHy{E:á->ã->Prop}{i:Nat}{Q:Unit->ã->Prop}(I:dS X d g H s)(O:aYv X.N)(C:X.N[i]?=wz n)(f:X.ak.scope.names.lookup n=wz .local)
  (h:∀J,dS X d (g.set i wx) H J->Q () J):å M A (do bindName X.ak n o0;unbindBehindTheSuite X.ak n pos) Q E s:=Ê (id I.loc) λm R P=>by
 have t:(X.ak.scope.kind==.class||(X.ak.scope.kind==.module&&X.ak.locals != X.ak.globals))=false:=by rw[I.ok.kind];rfl
 have u:i<iN g:=by rw[I.len];exact(aD.mp C).1
 have cne:=I.cne;let h' v x a:=wpAny_nameGoes_keeps f R t;have low:∀b o,X.Ņ.heap.get? b=wz o->b≠X.ak.locals:=λb o e=>cO (bX (bG e) I.ok.above);refine h _ #[I.ok,I.os,I.ŕ,#[λb o e n hb f=>?_,λb o e n hb f=>?_,I.base.free,λb o e f=>?_,I.base.Ĵ,I.base.ĵ,I.base.ķ],#[Ϙ,_,x,λj y v' r w L=>?_],λy c e=>?_,I.free,I.Ĺ,λp S=>?_,λb ob e=>?_,Á I.len]
 .exact(a.2 b (low b o e)).trans (I.base.keep b o e n hb f)
 .exact Ë (I.base.slot b o e n hb f) λsl r=>#[sl,(a.2 b (low b o e)).trans r]
 .exact Ë (I.base.there b o e f) λU r=>#[U,(a.2 b (low b o e)).trans r]
 .have F:j≠i:=λz=>by
   rw[z,bI u]at w;cases w
  rw[aY (j6 F)]at w;let u' r' q:=Ê (P j y v' r w L);have T:y≠n:=λz=>F (GM O (z▸r) C);refine#[Ϙ,u',r',2];rcases q with⟨k,e⟩ | ⟨k,c,e,o,z,B⟩
  .exact j3 #[k,by show(if y=n then v else m y)=_;rw[a9 T];exact e]
  .exact i7 #[k,c,e,o,(a.2 c (cne y c e)).trans z,B]
 .exact Ö (I.cell y c e) λK o z B=>#[K,o,(a.2 c (cne y c e)).trans z,B]
 .exact Ó (I.pin p S) λp1 W G Y Z=>#[(a.2 p.1 G).trans p1,W,G,Y,Z]
 .refine(I.gs b ob e).Ĥ (λc K hc q=>(a.2 c ?_).trans q) (λ_ q=>q) λ_ _ q=>q;rintro rfl;rcases hc with rfl | hc
  .rw[I.free]at e;cases e
  .rw[I.free]at hc;cases hc
def rP.track{H h}{a:à}(x:rP P w H h)(f:H a=wx)(new:lI P w (fU H a o) h a o):rP P w (fU H a o) h:=λb u e=>by
 by_cases hb:b=a
 .subst hb;rw[cL]at e;cases e;exact new
 .rw[cC hb]at e;exact(x b u e).Ĥ (λc v _ q=>q) (λc q=>by rw[cC (fD q f)];exact q) (λc i q=>by rw[cC (fD q f)];exact q) λc ob v q=>by rw[cC (fD q f)];exact q
def Un.track{H}{h h':ç}{a:à}(u:Un fr [] H H' h h')(hn:H' a=wx)(hf:h.get? a=wx):Un fr [] H (fU H' a o) h h' where
 keep:=u.keep
 slot:=u.slot
 free:=λb ob e n x=>by
  rw[cC λz=>by rw[z,hf]at e;cases e];exact u.free b ob e n x
 there:=u.there
 Ĵ:=λb xs e=>by have z:=u.Ĵ b xs e;rw[cC (fD z hn)];exact z
 ĵ:=λb ob v e=>by have z:=u.ĵ b ob v e;rw[cC (fD z hn)];exact z
 ķ:=λb q e=>Ë (u.ķ b q e) λmore z=>#[more,by rw[cC (fD z hn)];exact z]
def aGv(c:V1 X)(hb:EK X body ts):PS X (.Try body (a::hs) [] [] pos) ts:=by
 intro d s g H D I h;refine wpAny_Try_except (fG (hb d s g H D I h) (λf b q=>?_) λe b z=>c9 z (c e b))
 cases f with
 |next=>exact z6 q
 |ret v=>exact q
 |brk=>exact q
 |cont=>exact q
end
end L2
namespace TL
open L2
section
variable{e:æ}
def Ok.away{K}{ec:List Sl}{σ:L2.St}(o:Ok K B p0 H ps ec σ)(i:Nat):Ok K B p0 H ps (ec.set i .un) (σ.set i wx) where
 base:=o.base
 sub:=o.sub
 bu:=o.bu
 len:=Á o.len
 val:=λj d h=>by
  by_cases e:i=j
  .subst e;have hi:i<iN ec:=by have:=(aD.mp h).1;simpa using this
   rw[bI hi]at h;cases h
  .rw[aY e]at h |-;exact o.val j d h
 own:=λj ts h=>by
  by_cases e:i=j
  .subst e;have hi:i<iN ec:=by have:=(aD.mp h).1;simpa using this
   rw[bI hi]at h;cases h
  .rw[aY e]at h |-;exact o.own j ts h
 Ī:=λj k ts us p h1 h2 h3 h4=>by
  have cm:∀{l:Nat}{vs:List D},(ec.set i .un)[l]?=wz (.own vs)->i≠l/\ec[l]?=wz (.own vs):=λ{l vs} h=>by
   by_cases e:i=l
   .subst e;have hi:i<iN ec:=by have:=(aD.mp h).1;simpa using this
    rw[bI hi]at h;cases h
   .rw[aY e]at h;exact#[e,h]
  refine Ì (cm h1) λn1 b1=>Ì (cm h2) λn2 b2=>?_;rw[aY n1]at h3;rw[aY n2]at h4;exact o.Ī j k ts us p b1 b2 h3 h4
 dc:=o.dc.setS λ_ _ z=>nomatch z
end
end TL
namespace L2
section
variable{K:aH}{C D J:à}{cd:ClassData}
def O7:eM K (g8 C) (g8 C)=wz true:=by unfold eM;rw[b8 dN]
def AI(c:tM K D=wz cd)(d:xW K (g8 D)=wz (fx "type"))(a:fJ K C (g8 D)=wz wv)(b:fJ K D (g8 D)=wz ww):eM K (g8 C) (g8 D)=wz false:=by
 have ne:¬(g8 C==g8 D)=true:=λz=>by
  have e:=Value.ref.inj (beq_iff_eq.mp z);subst e;rw[a]at b;cases b
 unfold eM;rw[a9 ne];unfold IA;dsimp only;rw[c,d];rw[b8 dN];exact a
def G1{b:Bool}(a:oN T=ww)(c:fJ K C (fx T)=wz b):eM K (g8 C) (fx T)=wz b:=by
 unfold eM;rw[a9 (λz=>by cases beq_iff_eq.mp z)];unfold IA;dsimp only;rw[b8 a];exact c
def aIa(a:tM K J=wz cd)(c:xW K (g8 J)=wz (fx "type"))(hb:fJ K J (fx "BaseException")=wz ww)(b:fJ K C (g8 J)=wz ww):pI K (g8 C) (g8 J)=wz true:=by
 unfold pI;have e:PySem.W.subIn K (g8 J) (fx "BaseException")=wz true:=hb;rw[e,b8 dN];unfold IA;dsimp only;rw[a,c];rw[b8 dN];exact b
def U2{N:à}{a:Array gk}{n:Nat}(l:K.lookup N=wz #[c,d,.dict a n,sl])(h:(a.toList.all λe=>match e.key with | ck _ _=>ww | _=>wv)=ww):xX K N=true:=by
 unfold xX;rw[l];rw[aE6]at h;exact h
theorem aNi:oN "int"=true:=cR
theorem aNh:oN "str"=true:=cR
theorem aHo:oN "list"=true:=cR
theorem aCr:oN "tuple"=true:=cR
theorem aHp:oN "bool"=true:=cR
end
def RB{X:Cx}:V1 X.nox:=λ_ _ h=>h
end L2
namespace TL
open L2
section
variable{X:Cx}{e:æ}{a:ET}{pos:Pos}
def Fi(K:aH)(c:á)(f:V):ű:=λg H Q=>∃p C dx b,g=[.ref p,f]/\H p=wz (.ext (wB p C dx))/\(∀d,dx=wz d->∃fs,H d=wz (.xd fs))/\NM K C/\eM K (g8 C) c=wz b/\Q (.bl b) H
def HQ(g:∀u,gQ cv u->u=c):lW X (mt "isinstance") (Fi X.K c cv):=by
 intro f s t H o n Q I r h;refine Ò h λp C dx b y z=>Ó z λj hd k i q=>?_;subst y;let u w y l d:=Ø (TQ r);subst y;obtain rfl:=g _ d;cases l;exact SF I j hd k i λm=>#[ϛ,.bl b,H,I.Ĭ m,1,q]
def Ad(K:aH)(c:á)(a:ET):ET:=λf Q=>a f λd=>∃C y b,d=tS [(aW (C:Nat),y)]/\eM K (g8 C) c=wz b/\Q (QM b)
def SO(s:eX X e a)(u:∀{v},PE X e v->PE X (ă g1 [e,g2] [] pos) (YO (Fi X.K c cv) (vX v (vX (tC cv) IN)))):eX X (ă g1 [e,g2] [] pos) (Ad X.K c a):=Ê s λv w re=>by
 refine#[Ϙ,_,u w,λB t H A l E Q F o h k=>re B t H A l E _ _ o h λd x g j r q1=>?_];let C y b Z i q:=Ú q1;subst Z
 generalize f:(tS [(aW (C:Nat),y)])=d at r
 cases r with
 |@exc p C' xk hp=>
  injection f with f;injection f with f;injection f with f m;injection f with f
  obtain rfl:=qZ.inj f;exact#[Ϥ,p,C,wx,b,1,cH _ _ hp,(λ_ z=>nomatch z),xk.1,i,k _ _ g j (.bool _) q]
 |@excA p C' dx n xk hp hx=>
  injection f with f;injection f with f;injection f with f m;injection f with f
  obtain rfl:=qZ.inj f;exact#[Ϥ,p,C,wz dx,b,1,cH _ _ hp,λ_ z=>by cases z;exact#[_,cH _ _ hx],xk.1,i,k _ _ g j (.bool _) q]
 |@excD p C' dx n cs2 xk hp hx _=>
  injection f with f;injection f with f;injection f with f m;injection f with f
  obtain rfl:=qZ.inj f;exact#[Ϥ,p,C,wz dx,b,1,cH _ _ hp,λ_ z=>by cases z;exact#[_,cH _ _ hx],xk.1,i,k _ _ g j (.bool _) q]
 |_=>cases f
end
end TL
namespace L2
def aGs{X:Cx}{k:Nat}{f C:à}{i:jF}{g:List â}{j:Sp}{m:â}{b pos:Pos}{o e:æ}{d:List æ}{t:TA}{n:TE}(p:V1 X)(Y:PE X o n)(c:DK X.K C)(R:zG X.K C m f)(F:nG X.prog X.w X.K X.mg X.base (S9 X.prog X.w) k f i g j)(hr:iL k X.A)(hb:sO X.K i g [])(U:PA X (e::d) t)
  (N:bR (e::d) X.ak=(wv,è e X.ak)::bR d X.ak|>ũ) (M:(j7 pos (bR d X.ak)).any (·.1)=false|>ũ)
  (ht:è (ă (ą o m b) (e::d) [] pos) X.ak=(do
   let ov <- è o X.ak
   ff b.atName
   let (f,first) <- fe [ov] (dv ov m pl)
   callWith pos f first (j7 pos (bR (e::d) X.ak)) (ij pos (eh [] X.ak))):=by rfl) :
  RE X (ă (ą o m b) (e::d) [] pos) (λG H W=>n G H λx J=>∃a dx fs,x=.ref a/\J a=wz (.Œ C dx fs)/\fs.lookup m=wx/\t G J λvs y=>j (x::vs) y (λ_ _=>False) (W y)):=by
 intro v s G H W I h;refine wH (fG (Y v s G H _ I h) (λu s1 O=>?_) λe s z=>c9 z (p e s)) ht;refine Ø O λx J Q rx ψ=>ß ψ λa dx fs ex T l q=>?_;subst ex;obtain rfl:=rx;refine AJ Q T c R l ?_;refine sQ I.ok.mod.kin R.kp (fG (U pos v s1 G J _ Q q) (λE P O=>?_) λe s z=>c9 z (p e s)) N M;refine Ø O λvs y L r q2=>#[L.kIn,2];have S:fX (.ref a::vs) (g8 a::E):=Cl eH r;have Z:iN (g8 a::E)=iN g:=by rw[<- S.length];exact F.len _ _ _ _ q2
 have B:=hb P (g8 a::E) L.kIn (by rw[cG];exact Z);rw[cG]at B;refine ft (az (F.run X.A X.stack P y #[g8 a::E,[]] (g8 a::E) (.ref a::vs) _ (W y) hr L.env0 B S q2) λr s' p=>?_)
 cases r with
 |error e=>exact#[Ϛ,y,P,L,p]
 |ok fl=>
  cases fl with
  |ret u=>exact ì p λ_ _ _ _ _ _ _ z=>z.elim
  |next=>exact i8 p
  |brk=>exact i8 p
  |cont=>exact i8 p
end L2
namespace TL
open L2
def yn(K:aH)(d:D)(a:á)(dx:Option à):Prop:=∃C,d=tS [(aW (C:Nat),ES)]/\a=g8 C/\dx=wx/\sN K C
section
variable{F:vS}
def mN(K:aH)(i:zD F):Sp:=λvs H _ E=>∃c T n g f,(∀p∈c,CK (H p))/\(∀a∈F.ad T,a∈c)/\F.At T K H c n/\gq K (ê H c) g vs/\i (F.Ē T) n g f /\
 ∀h d b dx e,iQ (F.ad T) H e->F.At T K e c h->yn K d b dx->f h d->E b dx e
def PK{mg:â->Option á}{K st}{f:à}{N pn:List â}{k:Nat}{L:zD F}(O:QK K x qual st f fd)(S:bL N pn (aQ st))(len:∀τ n b Q,L τ n b Q->iN b=iN pn)
  (j:∀c A ag s H E,iL k (A.deeper (j8 qual (aQ st) s.heap.objs.size f c))->∀g T n b z,L (F.Ē T) n b z->(∀M d m dx C,iQ (F.ad T) H C->F.At T K C g M->yn K d m dx->z M d->E m dx C) ->
   ∃t,B8 (YW P w K mg base N qual (aQ st) f c A ag s H E) (mL st) t/\t (F.Ē T) { nx:=λ_ _=>False,rt:=λ_ _=>False,xB:=λB p0=>B=kM H (F.ad T)/\p0=g } n (lF N b)):nG P w K mg base (S9 P w) (k+1) f fd pn (mN K L):=by
 obtain⟨oc,od,kV,U,pm,an,c,ct,jc,rfl,lk,I⟩:=O.ex;let A ag s H vs Q E Z h:=Cw lk I S (λvs H Q E h=>?_)
 .refine Ô h λg T n ψ=>ì ψ λb R _ _ _ r q _=>?_;rw[<- r.length];exact len _ _ b R q
 .refine Ô h λg T n ψ=>ì ψ λb z bu Y tp r q W=>?_;obtain⟨t,⟨ts,p,rd⟩,h⟩:=j c A ag s H E Z g T n b z q W;have o:=sB (N:=N) bu r
  have J:∀(i:Nat)(y:List D),(lF N b)[i]?≠wz (.own y):=λi y e=>ì (o.own i y e) λq _ _ _ G _ v _=>by rw[G]at v;cases v
  have sW:bJ (kM H (F.ad T)) H:=λa u e=>by
   unfold kM at e;split at e
   .cases e
   .exact e
  have o2:Ok K (kM H (F.ad T)) g H g (lF N b) (L2.oY N vs):=#[sW,o.sub,o.bu,o.len,o.val,λi y e=>c9 e (J i y),o.Ī,λi hs bt e=>by
   obtain⟨⟨q,es,_,_,G,_,v,_⟩,_⟩:=o.dc i hs bt e;rw[G]at v;cases v]
  exact#[Ϙ,ts,p,rd _ g H g _ _ T n _ _ (#[o2,Y,λa X=>b8 X,tp]) h #[λ_ _ _ _ _ _ _ l=>l.elim,λ_ _ _ _ _ _ _ l=>l.elim,λ_ _ _ _ _ _ _ l=>l.elim,λ_ _ _ _ _ _ _ l=>l.elim,7]]
def zX(s:bJ (kM H0 as) H):iQ as H0 H:=λa u ne e=>s a u (by unfold kM;rw[a9 ne];exact e)
def aLp(e:F.S->D->Prop)(f:Hp)(a:List à)(b:F.I)(C:à)(t:AT):SZ F:=λi d n h=>t h λg=>iN g<=1000/\i=F.Ē b/\e n (tS [(aW (C:Nat),ES)])/\∀B c,d.xB B c->B=kM f (F.ad b)/\c=a
def A1{P:dF}{w:g6}{K:aH}{mg:â->Option á}{base:ç}{N:List â}{b:â}{a:Scope}{f:à}{cd:á}{A:g3}{ag:List Env}{s:ã}{H:Hp}{E:XK}{i:F.S->D->Prop}{g:F.I}{c:List à}{C:à}(y:∀m d k dx j,iQ (F.ad g) H j->F.At g K j c m->yn K d k dx->i m d->E k dx j)(S:sN K C)(z:yU (YW P w K mg base N b a f cd A ag s H E) (e::es) t)
  (L:∀{ta},PA (YW P w K mg base N b a f cd A ag s H E) (e::es) ta->PS (YW P w K mg base N b a f cd A ag s H E) (.Raise (wz (ă (KK x np) (e::es) [] cpos)) wx pos) (ZO C E ta)) :
  D9 (YW P w K mg base N b a f cd A ag s H E) (.Raise (wz (ă (KK x np) (e::es) [] cpos)) wx pos) (aLp i H c g C t):=Ê z λZ J Q=>by refine#[Ϙ,_,L J,λB r j M l U T n W X o h f=>Q B r j M l U _ _ o.ok h λY vs u R O q=>?_];let G I hd v:=Ü q;cases F.inj I;let V zz1:=Ì (v B r f.xb);subst V zz1;have p:=o.fz R;exact#[yL (by rw[<- O.length];exact G),y n _ _ _ u (zX p.ok.base) (F.to p.tp (λ_ _=>rfl) (iO o.ok.sub)) #[C,17,S] hd]
section
variable{X:Cx}{e:æ}{pos:Pos}{st:é}
def P8(X:Cx)(W:Hp->List à->Prop)(e:æ)(t:D->F.S->List Sl->Prop):Prop:=∃c,PE X e c/\∀B b H g a d T n f,rO F X.K B b H g a d T n->t (F.Ē T) n a->W B b->c d H f
def uB{W:Hp->List à->Prop}{t:D->F.S->List Sl->Prop}(h:P8 X W e t)(p:∀{v},PE X e v->PS X (.Expr e pos) (JP v)):D9 X (.Expr e pos) (λj d n b=>t j n b/\∀B a,d.xB B a->W B a):=Ê h λv g r=>#[Ϙ,_,p g,λB a H i c b T n d k o h f=>r B a H i c b T n _ o h.1 (h.2 B a f.xb)]
def D9.or{t u:SZ F}(l:D9 X st t)(m:D9 X st u):D9 X st (λk c n a=>t k c n a\/u k c n a):=Ê l λv p1 q=>Ê m λw p r=>by
 refine#[Ϙ,λD a H=>v D a H\/w D a H,λb s a H D I h=>?_,λB i H j d a T n c g o h f=>?_]
 .rcases h with h | h
  .exact p1 b s a H D I h
  .exact p b s a H D I h
 .rcases h with h | h
  .exact j3 (q B i H j d a T n c g o h f)
  .exact i7 (r B i H j d a T n c g o h f)
def aFn{b:ExceptHandler}{c:List ExceptHandler}{t:SZ F}(h:B8 X body t)(p:∀{a:TS},EK X body a->PS X (.Try body (b::c) [] [] pos) a):D9 X (.Try body (b::c) [] [] pos) t:=Ê h λa p1 r=>#[Ϙ,a,p p1,r]
def Lz(X:Cx)(st:é)(t:EZ F):Prop:=∃rt,RS X st rt/\∀B l H j c k T n h W,rO F X.K B l H j c k T n->t (F.Ē T) n c h ->
 (∀i d b dx f g,iQ (F.ad T) H f->iQ (F.ad T) f g->(∀a∈F.ad T,CK (f a))->F.At T X.K g j i->yn X.K d b dx->h i d->W f b dx g)->rt k H W
def aMr{K}{a C:à}(c:sN K C)(b:a∉ps):iM K (ê (fU H a (.ext (wB a C wx))) ps) (tS [(aW (C:Nat),ES)]) (.ref a):=.exc c (nB b cL)
def rO.exc{B H H1 H2 p0 ps}{b:List Sl}{j:L2.St}{T n n'}{a C:à}{i:Nat}(o:rO F X.K B p0 H ps b j T n)(f:iQ (F.ad T) H H1)(g:iQ (F.ad T) H1 H2)(t:F.At T X.K H2 ps n')(k:sN X.K C)(c:H2 a=wx) :
  rO F X.K B p0 (fU H2 a (.ext (wB a C wx))) ps (b.set i (.val (tS [(aW (C:Nat),ES)]))) (j.set i (wz (.ref a))) T n'/\bJ (ê H ps) (ê (fU H2 a (.ext (wB a C wx))) ps):=by
 have d:=o.ř (f.trans g) t;have h:=dZ (o:=HO.ext (wB a C wx)) c;exact#[(d.fz h).set (aMr k (iS d.ok.bu c)),((f.trans g).ī o.Ľ).trans (bU h)]
theorem rO.away{K}{a:List Sl}{b:L2.St}(o:rO F K B p0 H ps a b T n)(i:Nat):rO F K B p0 H ps (a.set i .un) (b.set i wx) T n:=#[o.ok.away i,o.mem,o.nb,o.tp]
def aLr{C a:à}(h:tS [(aW (C:Nat),ES)]=tS [(aW (a:Nat),ES)]):C=a:=by
 injection h with h
 injection h with h _
 injection h with h _
 injection h with h
 exact qZ.inj h
end
end
section
variable{X:Cx}{C:à}{e i:æ}{b:List æ}{c:ET}{pos a:Pos}
def sE{t:AZ (nE C)}{w:EO->D->Prop}{E:XK}{g:Bk}(Q:∀s d f dx j,iQ [g.p,g.q] H0 j->NF C g X.K j ps0 s->yn X.K d f dx->w s d->E f dx j)(U:m∉Ac)(S:eX X e c)(R:V3 X (i::b) t)
  (pc:∀{v ta},PE X e v->PA X (i::b) ta->PE X (ă (ą e m a) (i::b) [] pos) (FR C m (mN X.K sp) [] E v ta)) :
  P8 (F:=nE C) X (λB u=>B=kM H0 [g.p,g.q]/\u=ps0) (ă (ą e m a) (i::b) [] pos) (λr n k=>c k λd=>d=r/\r=oF g/\t r n k λn1 M=>sp r n1 (r::M) w):=Ê S λv pe re=>Ê R λva Z ra=>by refine#[Ϙ,_,pc pe Z,λB u H z l k T n QV o h P=>re B u H z l k _ _ o.ok h λd x J A r1 q1=>?_];obtain⟨rfl,W,q1⟩:=q1;let V y:=Ì (nY o A r1 eH);subst V;obtain rfl:=hZ W;refine Ì (id y) λ_ ψ=>Ñ ψ λ_ _ _ O _=>#[ϡ,30,O,ND U,ra B u J z l k T n _ _ (o.fz A) q1 λY L xs H2 s2 I r2 q2=>?_];let V zz1:=Ì P;subst V zz1;rw[cG];have G:=(o.fz A).ř s2 I;exact#[ϥ,z,T,Y,oF T::L,w,G.ok.bu,o.Ľ,I,.cons (L3 T) r2,q2,λs d f dx j s' t' x' N=>Q s d f dx j ((zX G.ok.base).trans s') ((nE C).to t' (λ_ _=>rfl) (iO o.ok.sub)) x' N]
end
section
variable{F:vS}{t:xS}{u:SZ F}{a:D}{f:QB F}{n:F.S}{j:List Sl}{i:Nat}{l:EZ F}
def jG(h:jH t (λ_=>u a f n) { nx:=λ_=>True,rt:=λ_=>False,bk:=f.bk n,ct:=f.ct n } j):AS (zP t) u a f n j:=h
def EW(v:D)(h:∀q,q n v->l a n j q)(k:u a f n (j.set i (.val v))):AS (Au i l) u a f n j:=h (λn1 d=>u a f n1 (j.set i (.val d))) k
def aFd(R:F.S->D->Prop)(h:∀q,(∀m v,R m v->q m v)->l a n j q)(k:∀m v,R m v->u a f m (j.set i (.val v))):AS (Au i l) u a f n j:=h _ k
def FJ{c:TZ F}{t e:SZ F}(b:Bool)(h:∀q,q n b->c a n j q)(g:b=ww->t a { f with nx:=u a f } n j)(d:b=wv->e a { f with nx:=u a f } n j):AS (yk c t e) u a f n j:=by
 refine h _ ?_
 cases b with
 |true=>rw[b8 rfl];exact g eH
 |false=>rw[a9 cS];exact d eH
def QQ{c:TZ F}{t e:SZ F}(b:Bool)(h:∀q,q n b->c a n j q)(g:b=ww->t a f n j)(d:b=wv->e a f n j):yk c t e a f n j:=by
 refine h _ ?_
 cases b with
 |true=>rw[b8 rfl];exact g eH
 |false=>rw[a9 cS];exact d eH
def Y8{ts:List D}{g:GT}(c:vR ti j ts)(P:Nat->F.S->List Sl->Prop)(e:P 0 n j)
  (h:∀(k:Nat)(m:F.S)(x:D)b,ts[k]?=wz x->P k m b->g x b λd=>tb a { f with nx:=P (k+1),ct:=P (k+1),bk:=u a f } m d) (hd:∀m b,P (iN ts) m b->u a f m b):AS (Fx ti g tb) u a f n j:=
 c _ #[ϙ,P,e,h,hd]
end
end TL
namespace L2
theorem iL.u1{k:Nat}{A:PySem.Around}(r:iL k A):A.units+1<PySem.cLine:=by have:=r.units;lia
end L2
namespace TL
open L2
def ZH{F:vS}{X:Cx}{e:æ}{b:EZ F}(h:xU X e b)(pt:∀{t:TE},PE X e t->PT X e (tB t)):kS X e (Ga b):=Ê h λv p r=>by
 refine#[Ϙ,_,pt p,λB g H i a q T n Q s o h k=>r B g H i a q T n _ _ o h λn1 d x f l m j q1=>?_]
 cases j with
 |bool c=>exact#[Ϙ,c,1,k n1 c f l m q1]
 |_=>exact q1.elim
section
variable{X:Cx}{e:æ}{b:ET}{x:â}{pos a:Pos}
def ss(i:Nat)(c:aYv X.N)(h:eX X e b)(f:X.N[i]?=wz x|>ũ)(j:YV X.ak.scope x|>Ş)(g:lY e (wz (KK x a)) pos.line X.ak=pure false|>ũ)
  (d:ŭ X x|>Š):CI X (Ā [KK x a] e pos) (OA i b):=aL7 h λh=>CZ c f j h g d
def pn(i:Nat)(c:aYv X.N)(f:X.N[i]?=wz x|>ũ)(g:YV X.ak.scope x|>Ş)(d:ŭ X x|>Š):PG X (KK x pos) (mO i):=UM c f g d
def kF{N P:List â}{c:Scope}(d:c.kind=ć|>ũ)(f:c.isCoroutine=false|>ũ)(g:c.isGenerator=false|>ũ)(h:aYv N|>ū)(i:N.take (iN P)=P|>ũ)(j:(∀x∈P,c.names.lookup x=wz .local\/c.names.lookup x=wz f7)|>ū)(k:(∀y∈c.names,y.2≠g9)|>ū):bL N P c:=#[d,f,g,h,i,j,k]
end
end TL
namespace L2
abbrev fO(x q:â)(st:é)(kV dc a:á)(an:Option à)(cd ct:á):jF:=pH x q (B0 st) (mL st) (aQ st) .none kV dc a an cd ct
def Nw{c:Type}{P:List c->Prop}(h:∀a,P [a]):∀b,iN b=1->P b
|[a],_=>h a
def Ny{d:Type}{P:List d->Prop}(h:∀a b,P [a,b]):∀c,iN c=2->P c
|[a,b],_=>h a b
def Nz{e:Type}{P:List e->Prop}(h:∀a b c,P [a,b,c]):∀d,iN d=3->P d
|[a,b,c],_=>h a b c
def NC{f:Type}{P:List f->Prop}(h:∀a b c d,P [a,b,c,d]):∀e,iN e=4->P e
|[a,b,c,d],_=>h a b c d
def Oa{g:Type}{P:List g->Prop}(h:∀a b c d e,P [a,b,c,d,e]):∀f:List g,iN f=5->P f
|[a,b,c,d,e],_=>h a b c d e
abbrev sM(x q:â)(st:é)(b:List â):Prop:=∀kV dc c an cd ct a,a.length=b.length->bindArgs (fO x q st kV dc c an cd ct) #[a,[]]=pure (b.zip a)
def NL(mg:â->Option á)(x:â):Addr:=ey λa:à=>mg x=wz (g8 a)
instance fdNe:Nonempty jF:=#[fO "" "" (.Pass #[(0),(0),(0),(0)]) .none .none .none wx .none .none]
def PM(K:aH)(a:à):jF:=ey λf:jF=>∃b c d,K.lookup a=wz #[b,c,.func f,d]
def Gg{mg:â->Option á}{a:à}(h:mg x=wz (g8 a)):NL mg x=a:=by
 have:=(cz (p:=λa:à=>mg x=wz (g8 a)) #[a,h]).symm.trans h;injection this with this
 injection this
def Cu{K:aH}{a:à}(h:K.lookup a=wz #[b,c,.func f,d]):PM K a=f:=Ô (cz (p:=λf:jF=>∃b c d,K.lookup a=wz #[b,c,.func f,d]) #[f,3,_,h]) λ_ _ _ e=>by
 have:=e.symm.trans h;injection this with this
 injection this with _ _ this
 injection this
structure Dg(K:aH)(x q:â)(st:é)(a:à)(ps:List â):Prop where
 k:gZ K (.ref a)=ww
 F:QK K x q st a (PM K a)
 d:sO K (PM K a) ps []
structure Df(K:aH)(mg:â->Option á)(x:â)(st:é)(ps:List â):Prop extends Dg K x x st (NL mg x) ps where
 m:mg x=wz (.ref (NL mg x))
abbrev Fm(P:dF)(w:g6)(K:aH)(mg:â->Option á)(base:ç)(b:YA)(k:Nat)(a:à)(c:List â)(d:Sp):Prop:=nG P w K mg base b k a (PM K a) c d
abbrev Fo(P:dF)(w:g6)(K:aH)(mg:â->Option á)(base:ç)(a:YA)(k:Nat)(x:â)(b:List â)(c:Sp):Prop:=Fm P w K mg base a k (NL mg x) b c
section
variable{K:aH}{h:ç}{mg:â->Option á}{x q:â}{st:é}{i:List â}{f:à}{j:á}{n an:Option à}{o:Array (Option á)}{kV dc g cd ct:á}
def dg(b:sM x q st i)(l:K.lookup f=wz #[j,n,.func (fO x q st kV dc g an cd ct),o])(c:sP K cd q=ww)(k:gZ K (g8 f)=ww):Dg K x q st f i:=#[k,by rw[Cu l];exact Kp l c k,by rw[Cu l];exact(Kp l c k).İ b]
def df(X:K.In h)(G:h.Ns iR mg)(b:sM x x st i)(a:oA K iR x=wz (wz (g8 f)))(l:K.lookup f=wz #[j,n,.func (fO x x st kV dc g an cd ct),o])(c:sP K cd x=ww)(k:gZ K (g8 f)=ww):Df K mg x st i:=by
 have m:=aE9 X G a;have e:=Gg m;exact#[by rw[e];exact dg b l c k,by rw[e];exact m]
def aNf(X:K.In h)(G:h.Ns iR mg){b:jF}(a:oA K iR x=wz (wz (g8 f)))(l:K.lookup f=wz #[j,n,.func b,o])(y:HX K b.code):HX K (PM K (NL mg x)).code:=by rw[Gg (aE9 X G a),Cu l];exact y
def DG(h:(∀kV dc g an cd ct k,bindArgs (fO x q st kV dc g an cd ct) #[[k],[]]=pure ([p0].zip [k]))|>ŝ):sM x q st [p0]:=λa b c d e f=>Nw (h a b c d e f)
def uU(h:(∀kV dc g an cd ct k l,bindArgs (fO x q st kV dc g an cd ct) #[[k,l],[]]=pure ([p0,p1].zip [k,l]))|>ŝ):sM x q st [p0,p1]:=λa b c d e f=>Ny (h a b c d e f)
def NA(h:(∀kV dc g an cd ct k l a2,bindArgs (fO x q st kV dc g an cd ct) #[[k,l,a2],[]]=pure ([p0,p1,p2].zip [k,l,a2]))|>ŝ):sM x q st [p0,p1,p2]:=λa b c d e f=>Nz (h a b c d e f)
def YU(h:(∀kV dc g an cd ct k l a2 m,bindArgs (fO x q st kV dc g an cd ct) #[[k,l,a2,m],[]]=pure ([p0,p1,p2,p3].zip [k,l,a2,m]))|>ŝ):sM x q st [p0,p1,p2,p3]:=λa b c d e f=>NC (h a b c d e f)
def Nj(h:(∀kV dc g an cd ct k l a2 m a4,bindArgs (fO x q st kV dc g an cd ct) #[[k,l,a2,m,a4],[]]=pure ([p0,p1,p2,p3,p4].zip [k,l,a2,m,a4]))|>ŝ):sM x q st [p0,p1,p2,p3,p4]:=λa b c d e f=>Oa (h a b c d e f)
def na{C:à}{f}(h:fB K (g8 C) f=wz wx):gA K C f:=h
end
end L2
namespace TL
open L2
abbrev Fj(P:dF)(w:g6)(base:ç){K:aH}{mg:â->Option á}{x:â}{st:é}{a:List â}(_:Df K mg x st a)(k:Nat)(b:Sp):Prop:=Fo P w K mg base rH k x a b
abbrev Ft(P:dF)(w:g6)(base:ç){K:aH}{mg:â->Option á}{x:â}{st:é}{a:List â}(D:Df K mg x st a)(k:Nat)(b:kK):Prop:=Fj P w base D k (lG K b)
section
variable{X:Cx}{e:æ}{c:List æ}{o:ET}{x:â}{pos j p:Pos}
def cd{k n:Nat}{pn:List â}{g:kK}{t:AT}{st:é}{D:Df X.K X.mg x st pn}(F:Ft X.prog X.w X.base D k g)(f:iL n X.A)(i:yU X (e::c) t)(hk:k<=n|>Ū)
  (q:Gl X x|>ũ) (a:Ů x|>Ū) (l:bR (e::c) X.ak=(wv,è e X.ak)::bR c X.ak|>ũ) (b:(j7 pos (bR c X.ak)).any (·.1)=false|>ũ):eX X (ă (KK x p) (e::c) [] pos) (mF g t):=aIe F D.m D.k D.d (f.ko hk) i λh=>rE F (f.ko hk) q D.m D.k D.d tj jN h a l b
def cF{k n:Nat}{pn:List â}{g:QJ}{t:AT}{st:é}{D:Df X.K X.mg x st pn}(F:Fj X.prog X.w X.base D k (jO X.K g))(f:iL n X.A)(i:yU X (e::c) t)(hk:k<=n|>Ū)
  (q:Gl X x|>ũ) (a:Ů x|>Ū) (l:bR (e::c) X.ak=(wv,è e X.ak)::bR c X.ak|>ũ) (b:(j7 pos (bR c X.ak)).any (·.1)=false|>ũ):X8 X (ă (KK x p) (e::c) [] pos) (Ho g t):=aH2 F D.m D.k D.d (f.ko hk) i λh=>rE F (f.ko hk) q D.m D.k D.d tj jN h a l b
def cQ{k n:Nat}{pn:List â}{g:zj}{t:AT}{st:é}{D:Df X.K X.mg x st pn}(F:Fj X.prog X.w X.base D k (BH X.K g))(f:iL n X.A)(i:yU X (e::c) t)(hk:k<=n|>Ū)
  (q:Gl X x|>ũ) (a:Ů x|>Ū) (l:bR (e::c) X.ak=(wv,è e X.ak)::bR c X.ak|>ũ) (b:(j7 pos (bR c X.ak)).any (·.1)=false|>ũ):Ds X (ă (KK x p) (e::c) [] pos) (Hy g t):=aAu F D.m D.k D.d (f.ko hk) i λh=>rE F (f.ko hk) q D.m D.k D.d tj jN h a l b
def sf{js}(h:V2 X tg js ti)(i:P7 X tg g)(hb:wG X body tb)(k:PassesOwn (ä X.prog X.w) X.A X.ak X.xe:=by exact m8)(f:X.Ň=true|>ũ)(l:(∀x,k7 js X.ak x=pure x)|>ť):CI X (.For tg js body [] pos) (An ti g tb):=aL9 h i hb λa b d=>RD k f a b d l
def el{js o}(i:V2 X tg js ti)(d:∀b,P7 (w6 X scope N' b) tg g/\HW (w6 X scope N' b) ifs tt/\eX (w6 X scope N' b) elt o)(h:pO scope X.ak.scope X.N N' fr=true|>Ŝ)(f:X.Ň=true|>ũ)(k:(∀x,k7 js X.ak x=pure x)|>ť):eX X (ĉ elt [#[tg,js,ifs,(0)]] scope pos) (YS fr ti g tt o):=Qp i d λa b=>Lw h f a b k
def fl{js o}(i:V2 X tg js ti)(d:∀b,P7 (w6 X scope N' b) tg g/\HW (w6 X scope N' b) ifs tt/\eX (w6 X scope N' b) elt o)(h:pO scope X.ak.scope X.N N' fr=true|>Ŝ)(f:X.Ň=true|>ũ)(k:(∀x,k7 js X.ak x=pure x)|>ť):X8 X (ĉ elt [#[tg,js,ifs,(0)]] scope pos) (Aa fr ti g tt o):=Rs i d λa b=>Lw h f a b k
def cY{r:ű}{f:ů}(k:sL X r f)(d:yU X (e::c) t)(g:lW X (fx T) r)(m:X.mg x=wx)(q:f6 x=wz (fx T))(l:Gl X x|>ũ)(n:x≠"__name__"|>Ū)(a:Ů x|>Ū)(i:bR (e::c) X.ak=(wv,è e X.ak)::bR c X.ak|>ũ)(b:(j7 pos (bR c X.ak)).any (·.1)=false|>ũ):eX X (ă (KK x p) (e::c) [] pos) (mF f t):=Gk k d λh=>rJ g l m q h n a i b
def cB{r:ű}{f:ů}(k:sL X r f)(d:yU X (e::c) t)(g:lW X (mt T) r)(m:X.mg x=wx)(q:f6 x=wz (mt T))(l:Gl X x|>ũ)(n:x≠"__name__"|>Ū)(a:Ů x|>Ū)(i:bR (e::c) X.ak=(wv,è e X.ak)::bR c X.ak|>ũ)(b:(j7 pos (bR c X.ak)).any (·.1)=false|>ũ):eX X (ă (KK x p) (e::c) [] pos) (mF f t):=Gk k d λh=>nL g l m q h n a i b
def so(i:Nat)(a:aYv X.N)(h:yU X c t)(d:X.N[i]?=wz x|>ũ)(g:YV X.ak.scope x|>Ş)(f:lY (.List c p2) (wz (KK x j)) pos.line X.ak=pure false|>ũ)(b:ŭ X x|>Š):CI X (Ā [KK x j] (.List c p2) pos) (Ao i t):=aL8 h λh=>CZ a d g h f b
def sF(i:Nat)(a:aYv X.N)(h:X8 X e t)(d:X.N[i]?=wz x|>ũ)(g:YV X.ak.scope x|>Ş)(f:lY e (wz (KK x j)) pos.line X.ak=pure false|>ũ)(b:ŭ X x|>Š):CI X (Ā [KK x j] e pos) (UC i t):=aF7 h λh=>CZ a d g h f b
def Mx(l:List â):Bool:=decide l.Nodup
def pk(i:Nat)(a:Mx X.N=true|>Ŝ)(d:X.N[i]?=wz x|>ũ)(f:YV X.ak.scope x|>Ş)(b:ŭ X x|>Š):PG X (KK x pos) (mO i):=UM (c8 a) d f b
def tv(h:eX X e o)(a:(∀ļ,isTrue e X.ak ļ=(do let v <- ļ;ff e.pos;fe [v] (truthy v)))|>ť):LB X e (K5 o):=aLt h λh=>RC h a
end
end TL
namespace L2
section
variable{X:Cx}
def Ec(f:â->â->Bool):V->ű:=λx a H Q=>∃z y,x=.str z/\a=[.str y]/\Q (.bl (f z y)) H
def W6:S5 X "str.startswith" (Ec Txt.startswith):=by
 intro a s g H x f v e Q I c r h;let z y w p q:=Ø h;subst w p;exact Ù v c λt=>Þ e (oG r) λu b=>Ù u b λd=>SC.startswith #[ϛ,.bl _,H,I,1,q]
def Ij:ű:=λa H Q=>∃i,a=[.int i]/\i.natAbs.log2<1920/\Q (.str (f8 (im i))) H
def rM:lW X (fx "str") Ij:=by
 intro a s e H d c Q I r h;let i z b q:=Õ h;subst z;obtain⟨u,rfl,t,rfl⟩:=oG r;exact PySem.P.str_of_int b #[ϛ,.str _,H,I.Ĭ _,#[0],q]
def Ig:ű:=λa H Q=>∃z n,a=[.str z]/\intText? z=wz n/\v0 z<=640/\Q (.int n) H
def yS:lW X (fx "int") Ig:=by
 intro a s f H e d Q I r h;let z n y c b q:=Ý h;subst y;obtain⟨u,rfl,t,rfl⟩:=oG r;exact PySem.W.KIN.call_text c b #[ϛ,.int n,H,I.Ĭ _,#[0],q]
end
end L2
namespace TL
open L2
section
variable{X:Cx}{e:æ}{a:List æ}{b:ET}{pos:Pos}
def My(f:â->â->Bool)(z:â)(c:List D)(Q:D->Prop):Prop:=match c with | [aG y]=>Q (QM (f z y)) | _=>False
def Rp{f:â->â->Bool}{m:â}(s:eX X n b)(r:yU X (e::a) t)
  (w:∀{v ta},PE X n v->PA X (e::a) ta->PE X (ă (ą n m ap) (e::a) [] pos) (WG X.K "str" (Ec f) v ta)):eX X (ă (ą n m ap) (e::a) [] pos) (KU (My f) b t):=Ê s λv A re=>Ê r λN u G=>by
 refine#[Ϙ,_,w A u,λB g H i c p Q L o h k=>re B g H i c p _ _ o h λd x q l C q1=>?_];obtain⟨z,rfl,q1⟩:=q1;cases C;refine#[1,G B g q i c p _ _ (o.fz l) q1 λM O J I E q2=>?_]
 cases E with
 |nil=>exact q2.elim
 |cons j F=>
  cases F with
  |cons _ _=>cases j<;>exact q2.elim
  |nil=>
   cases j with
   |str y=>exact#[ϛ,z,y,7,k _ _ _ (l.trans I) (.bool _) q2]
   |_=>exact q2.elim
def Qu(d:D)(Q:D->Prop):Prop:=match d with
|aW i=>i.natAbs.log2<1920/\Q (aG (f8 (im i)))
|_=>False
def HS:sL X Ij (f1 Qu):=c1 λH f d x Q c bu r h k=>by
 cases r with
 |int i=>exact#[i,1,h.1,k _ _ H (L2.bJ.refl H) (.str _) h.2]
 |_=>exact h.elim
def Ru(d:D)(Q:D->Prop):Prop:=match d with
|aG z=>∃n,intText? z=wz n/\v0 z<=640/\Q (aW n)
|_=>False
def M9:sL X Ig (f1 Ru):=c1 λH i d x Q g bu r h k=>by
 cases r with
 |str z=>
  exact Õ h λn c f q=>#[Ϝ,z,n,1,c,f,k _ _ H (L2.bJ.refl H) (.int _) q]
 |_=>exact h.elim
end
section
variable{X:Cx}{F:vS}{o e:æ}{c:List æ}{f:ET}{pos b:Pos}
def Jb(C:à)(m:â)(j:zD F)(f:ET)(t:AZ F):EZ F:=λg n a Q=>f a λd=>∃ns i,d=SH C ns i/\m∉ns/\t g n a λn1 h=>j g n1 (d::h) Q
def BS{C:à}{m:â}{r:zD F}{t:AZ F}(J:eX X o f)(I:V3 X (e::c) t)
  (P:∀{v:TE}{u:TA},PE X o v->PA X (e::c) u->PE X (ă (ą o m b) (e::c) [] pos) (FR C m (kE X.K r) [] E0 v u)):xU X (ă (ą o m b) (e::c) [] pos) (Jb C m r f t):=Ê J λv R re=>Ê I λva O Y=>by refine#[Ϙ,_,P R O,λB p H i g w T n Q QV o h k=>re B p H i g w _ _ o.ok h λd x z j q q1=>?_];let ns E V L q1:=Ø q1;subst V;let a dx fs V G D h2:=ß (E2 q);subst V D;refine#[ϡ,a,dx,fs,1,cH _ _ G,qH L,Y B p z i g w T n _ _ (o.fz j) q1 λN A xs H2 l s W q2=>?_];rw[cG];exact#[ϥ,i,T,N,SH C (fs.map (·.1)) E::A,Q,((o.fz j).ř l s).ok.bu,o.Ľ,s,.cons (q.same (l.ī o.Ľ)) W,q2,λM d v y Z t' U S=>k M d v y (((iQ.of j).trans l).trans Z) t' U S]
end
def Qx(a:à)(K:aH)(b:kK):TS:=Q1 (LZ K (qQ 0) (qQ 1) "form") (LZ K (qQ 0) (ZP a (MM a K b) [] E0 (vX (qQ 1) (vX (qQ 2) (vX (qQ 3) IN)))) "book")
def ML(d f:à)(K:aH)(g:kK):Sp:=λvs H Q _=>∃x dx c dp ls b fm e,vs=[.ref x,c,.int dp,.int ls]/\x∈b/\H x=wz (.Œ d dx [])/\(∀p∈b,CK (H p))/\iM K (ê H b) fm c/\g [fm,aW dp,aW ls] e /\
 ∀T st a,T.fm=fm->T.dp=dp->T.ls=ls->bJ (ê H [x]) a->H T.p=wx->H T.q=wx->a x=wz (.Œ d dx [("form",c),("book",.ref T.p)])->NF f T K a (T.p::T.q::b) #[[],(0),st]->e st->Q .z8 a
def Nb{K}{mg:â->Option á}{d C:à}{x j:â}{st}{f:à}{N pn:List â}{k:Nat}(Fn:QK K x j st f fd)(S:bL N pn (aQ st))(hl:iN pn=4)
  (hc:DK K d) (n1:gA K d "form") (n2:gA K d "book")
  (B:∀l A ag s H E,iL k (A.deeper (j8 j (aQ st) s.heap.objs.size f l))->EK (tJ rH P w K mg base N j (aQ st) f l A ag s H E).nox (mL st) (Qx C K sp)):nG P w K mg base rH (k+1) f fd pn (ML d C K sp):=by
 let l A ag s H vs Q E hr h:=Fn.ok S (λvs H Q E h=>?_)
 .exact ð h λx dx b dp ls i ψ=>õ vs ψ λfm Y _=>hl.symm
 .refine ð h λx dx b dp ls i χ=>õ vs χ λfm Y ψ=>Û ψ λW hi bu r1 q k=>#[Ϙ,_,B l A ag s H E hr,2];have Z:(L2.oY N [.ref x,b,.int dp,.int ls])[0]?=wz (wz (.ref x)):=rfl;have g1:(L2.oY N [.ref x,b,.int dp,.int ls])[1]?=wz (wz b):=rfl;refine#[b,g1,.ref x,Z,x,d,dx,[],1,hi,hc,n1,52];refine#[b,g1,.int dp,1,.int ls,1,λy c O m gc=>?_];have o:y≠x:=λz=>by rw[z,cL]at O;cases O
  have F:c≠x:=λz=>by rw[z,cL]at m;cases m
  have n:H y=none:=by rw[cC o]at O;exact O
  have g:H c=none:=by rw[cC F]at m;exact m
  have M:∀a,a≠y->a≠c->a≠x->fU (fU (fU H x (.Œ d dx [("form",b)])) c (.own y)) y (.Œ C c []) a=H a:=λa t a2 r=>by rw[cC t,cC a2,cC r]
  have v:fU (fU (fU H x (.Œ d dx [("form",b)])) c (.own y)) y (.Œ C c []) x=wz (.Œ d dx [("form",b)]):=by rw[cC (j6 o),cC (j6 F),cL]
  have lv:∀p∈y::i,CK (fU (fU (fU H x (.Œ d dx [("form",b)])) c (.own y)) y (.Œ C c []) p):=λp hp=>by
   by_cases z:p=y
   .subst z;exact#[Ϙ,_,cL,1]
   .by_cases z2:p=x
    .subst z2;exact#[Ϙ,_,v,1]
    .exact Ê (bu p ((aN.mp hp).resolve_left z)) λu R e2=>#[Ϙ,u,(M p z (λz=>by rw[z,g]at R;cases R) z2).trans R,e2]
  have sm:bJ (ê H i) (ê (fU (fU (fU H x (.Œ d dx [("form",b)])) c (.own y)) y (.Œ C c [])) (y::i)):=λa u e=>by
   unfold ê at e |-
   by_cases ha:a∈i
   .rw[b8 ha]at e;cases e
   .rw[a9 ha]at e;have t:a≠y:=λz=>by rw[z,n]at e;cases e
    have a2:a≠c:=λz=>by rw[z,g]at e;cases e
    have r:a≠x:=λz=>ha (z▸W);rw[a9 λz=>(aN.mp z).elim t ha,M a t a2 r];exact e
  refine#[y,c,b,dp,ls,y::i,fm,Y,1,aJ ..,cL,lv,r1.same sm,q,λqq st v6 L sH J T U X r6 q6=>#[12]];have I:qq≠x:=λz=>by rw[z]at T;have:=v.symm.trans T;cases this
  refine#[.ref x,Z,x,d,dx,0,(sH x _ (by unfold ê;rw[a9 λz=>o (bC.mp z).symm];exact v)),hc,n2,52]
  have G:H qq=none:=by
   by_cases z:qq=c
   .rw[z];exact g
   .exact(M qq J z I).symm.trans T
  have sF:bJ (ê H [x]) (fU L x (.Œ d dx [("form",b),("book",.ref y)])):=λa u e=>by
   unfold ê at e;by_cases ha:a∈[x]
   .rw[b8 ha]at e;cases e
   .rw[a9 ha]at e;have r:=λz=>ha (bC.mpr z);have t:a≠y:=λz=>by rw[z,n]at e;cases e
    rw[cC r];exact sH a u (by unfold ê;rw[a9 λz=>t (bC.mp z)];exact(M a t (λz=>by rw[z,g]at e;cases e) r).trans e)
  have sG:bJ (ê H i) (ê (fU L x (.Œ d dx [("form",b),("book",.ref y)])) (y::qq::i)):=λa u e=>by
   unfold ê at e |-
   by_cases ha:a∈i
   .rw[b8 ha]at e;cases e
   .rw[a9 ha]at e;have r:a≠x:=λz=>ha (z▸W);rw[a9 λz=>(aN.mp z).elim (λz=>by rw[z,n]at e;cases e) λz=>(aN.mp z).elim (λz=>by rw[z,G]at e;cases e) ha];exact sF a u (by unfold ê;rw[a9 λz=>r (bC.mp z)];exact e)
  have sK:bJ (ê L (qq::y::i)) (ê (fU L x (.Œ d dx [("form",b),("book",.ref y)])) (y::qq::i)):=by
   rw[fW (aE _ (aE _ W))]
   exact iO λa ha=>by
    rcases aN.mp ha with rfl | ha
    .exact aE _ (aJ ..)
    .rcases aN.mp ha with rfl | ha
     .exact aJ ..
     .exact aE _ (aE _ ha)
  exact k #[y,qq,c,fm,dp,ls] st _ eH eH eH sF n G cL #[j6 J,b,v6,[],by rw[cC o];exact X,by rw[cC I];exact U,r1.same sG,r6.same sK,.nil] q6
section
variable{X:Cx}{g j:à}{e:æ}{k:List æ}{x y:â}{l p pos c:Pos}{t:AT}{jU:List é}{m:kK}
def NV(g:à)(T:Bk):D:=SH g ["form","book"] [T.fm,oF T]
def T1{i:Nat}{u:SZ (nE j)}(ha:yU X (e::k) t)(pc:∀{ta},PA X (e::k) ta->PS X (Ā [KK y l] (ă (KK x p) (e::k) [] pos) c) (wN (ZP g (ML g j X.K m) [] E0 ta) (mO i)))(hr:B8 X jU u) :
  wG X (Ā [KK y l] (ă (KK x p) (e::k) [] pos) c::jU) (λDT O=>t O λW=>∃fm dp ls,W=[fm,aW dp,aW ls]/\m W λst=>∀T,T.fm=fm->T.dp=dp->T.ls=ls->u (oF T) { nx:=λ_ _=>False,rt:=λ_=>DT.rt } #[[],(0),st] (O.set i (.val (NV g T)))):=Ê ha λva pa ra=>Ê hr λvr pr rr=>by
 refine#[Ϙ,_,pA (pc pa) pr,λB p0 H C P O DT DV o h f=>?_];let W vs E s1 I q1:=ra B p0 H C P O _ _ o h;let fm dp ls V q1:=Ñ q1;subst V;intro x dx hx r gc
 cases I with
 |cons rf I=>
 cases I with
 |cons rd I=>
 cases I with
 |cons rl I=>
 cases I;cases rd;cases rl;rename_i v1;have S:=o.fz s1;have nq:fU E dx (.own x) x=none:=by rw[cC (j6 gc)];exact hx
 have F:∀p∈x::C,CK (fU (fU E dx (.own x)) x (.Œ g dx []) p):=λp hp=>by
  by_cases z:p=x
  .subst z;exact#[Ϙ,_,cL,1]
  .rw[cC z];exact Ê (S.bu p ((aN.mp hp).resolve_left z)) λw R h2=>#[Ϙ,w,dZ r _ _ R,h2]
 refine#[x,dx,v1,dp,ls,x::C,fm,0,aJ ..,cL,F,by rw[(nN nq)];exact rf.same (bU (dZ r)),q1,λT st Q e1 e2 e3 sH s A uj U q6=>#[12]];have M:T.p≠x:=λz=>by rw[z,cL]at s;cases s
 have N:T.q≠x:=λz=>by rw[z,cL]at A;cases A
 have ni:E T.p=none:=by rw[cC M]at s;exact bJ.ŗ (dZ r) s
 have gw:E T.q=none:=by rw[cC N]at A;exact bJ.ŗ (dZ r) A
 have s2:bJ E Q:=λa w e=>sH a w (by
  have L:a≠x:=λz=>by rw[z,hx]at e;cases e
  unfold ê;rw[a9 λz=>L (bC.mp z),cC L];exact dZ r _ _ e)
 have Y:∀a∈[T.p,T.q],E a=none:=λa ha=>by
  rcases aN.mp ha with rfl | ha
  .exact ni
  .rw[bC.mp ha];exact gw
 have Z:bJ (ê E C) (ê Q ([T.p,T.q]++C)):=λb w e=>by
  unfold ê at e |-
  by_cases hb:b∈C
  .rw[b8 hb]at e;cases e
  .rw[a9 hb]at e;rw[a9 λz=>(bK.mp z).elim (λz=>by rw[Y b z]at e;cases e) hb];exact s2 b w e
 have J:=(nE j).to U (λ_ _=>rfl) (iO λa ha=>by
  rcases aN.mp ha with rfl | ha
  .exact aJ ..
  .rcases aN.mp ha with rfl | ha
   .exact aE _ (aJ ..)
   .exact aE _ (aE _ (aE _ ha)))
 have uk:x∉[T.p,T.q]++C:=λz=>by
  rcases bK.mp z with z | z
  .rcases aN.mp z with z | z
   .exact M z.symm
   .exact N (bC.mp z).symm
  .refine Ê (S.bu x z) λw R _=>?_;rw[hx]at R;cases R
 have oz:rO (nE j) X.K B ([T.p,T.q]++p0) Q ([T.p,T.q]++C) (P.set i (.val (NV g T))) (O.set i (wz (.ref x))) T #[[],(0),st]:=
  #[(S.wide s2 Y ((nE j).liv (T:=T) (n:=#[[],(0),st]) J)).set (.Œ (fs:=[("form",v1),("book",.ref T.p)]) (by unfold ê;rw[a9 uk];exact uj) (.cons (by rw[e1];exact rf.same Z) (.cons (L3 T) .nil))),λa ha=>gH _ ha,(λa ha=>bJ.ŗ S.base (Y a ha)),J]
 exact rr B ([T.p,T.q]++p0) Q ([T.p,T.q]++C) _ _ T _ _ DV oz (q6 T e1 e2 e3) #[λ_ _ _ _ _ _ _ G=>G.elim,λ_ _ _ _ _ _ _ G=>G.elim,λ_ _ _ _ _ _ _ G=>G.elim,λn' d v H2 s' t' r' G=>f.rt d v H2 s' (r'.same (iO λa ha=>cX _ ha)) G,j5]
end
section
variable{F:vS}{X:Cx}{a b:æ}{jU:List æ}{pos:Pos}{e f:EZ F}
def aPv(e f:EZ F):EZ F:=λg n d Q=>e g n d λn1 x=>∃c:Bool,x=QM c/\if c=ww then f g n1 d Q else Q n1 (QM wv)
def J4(h:xU X a e):xU X (ÿ op [a] pos) e:=Ê h λv p r=>#[Ϙ,_,Lx p,r]
def Jy(s:xU X a e)(hb:xU X (ÿ .And (b::jU) pos) f):xU X (ÿ .And (a::b::jU) pos) (aPv e f):=Ê s λK u C=>Ê hb λL w E=>by
 refine#[Ϙ,_,Lu u w,λB l H m g q T n Q J o h k=>C B l H m g q T n _ _ o h λn1 d x j i p A q1=>?_];obtain⟨c,rfl,q1⟩:=q1;cases A;refine#[Ϙ,c,12]
 cases c with
 |true=>exact E B l j m g q T n1 Q _ (o.ř i p) q1 λt d v r G I z y=>k t d v r (i.trans G) I z y
 |false=>exact k _ _ _ j i p (.bool wv) q1
end
section
variable{F:vS}{X:Cx}{c js k:æ}{e:List æ}{a:Scope}{fr:ż}{N':List â}{g:GT}{m:yT}{l:ET}{i:Nat}{x:â}{s j pos:Pos}
def Pv(fr:ż)(o:EZ F)(g:GT)(m:yT)(l:ET):EZ F:=λp n f Q=>o p n f λn1 d=>∃b,MS d=wz b/\Ej fr g m l b f λh=>Q n1 (eE h)
def aL5{K:EZ F}(u:xU X js K)(P:∀b:BP,P7 (w6 X a N' b) k g/\HW (w6 X a N' b) e m/\eX (w6 X a N' b) c l)
  (W:∀{L:TI}{t:BP->TG}{z:BP->TT}{y:BP->TE},PI X k js L->(∀b:BP,PG (w6 X a N' b) k (t b)/\S3 (w6 X a N' b) e (z b)/\PE (w6 X a N' b) c (y b)) ->
   PS X (Ā [KK x s] (ĉ c [#[k,js,e,(0)]] a pos) j) (wN (ZQ fr L t z y) (mO i))) :
  D9 X (Ā [KK x s] (ĉ c [#[k,js,e,(0)]] a pos) j) (Au i (Pv fr K g m l)):=Ê u λvi U ri=>Ñ (R8 fr P) λt z y p r=>by refine#[Ϙ,_,W (Lb U) p,λB S H E A M T n DC N o h f=>ri B S H E A M T n _ _ o h λn1 d v C I t1 Z q1=>?_];let ts u q:=Ê q1;have w:=o.ř I t1;refine UD Z u cH λJ rj=>r (QV:=λx C=>mO i x M C N.nx) w.up rj q λds p xs O G Q R rs Y=>?_;exact f.nx O E _ _ n1 ((w.fz G).set (OG w.ok.bu Q R rs)) ((I.ī o.Ľ).trans (bU G)) Y
end
section
variable{X:Cx}{a:æ}{pos:Pos}{c:ET}
def Qo(c:ET):ET:=λd Q=>c d λx=>match x with | QM b=>Q (QM (!b)) | _=>False
def aIb(g:eX X a c):eX X (.UnaryOp .Not a pos) (Qo c):=Ê g λs j n=>by
 refine#[Ϙ,_,aMx j,λB i H l e q Q r o h k=>n B i H l e q _ _ o h λd x f p m q1=>?_]
 cases m with
 |bool b=>exact#[Ϙ,b,1,k _ _ f p (.bool _) q1]
 |_=>exact q1.elim
end
section
variable{F:vS}{X:Cx}{e i o g:æ}{j:List æ}{l:ET}{pos c:Pos}{st:é}{C:à}{m:â}
def KQ{P:zD F}{t:AZ F}{w:F.S->D->Prop}{E:XK}{G:Hp}{r:F.I}{k:List à}(hE:∀s d b dx f,iQ (F.ad r) G f->F.At r X.K f k s->yn X.K d b dx->w s d->E b dx f)(he:eX X o l)(ha:V3 X (i::j) t)
  (pc:∀{v:TE}{R:TA},PE X o v->PA X (i::j) R->PE X (ă (ą o m c) (i::j) [] pos) (FR C m (mN X.K P) [] E v R)) :
  P8 X (λB u=>B=kM G (F.ad r)/\u=k) (ă (ą o m c) (i::j) [] pos) (λA n p=>l p λd=>A=F.Ē r/\∃(ns:List â)(L:List D),d=SH C ns L/\m∉ns/\t A n p λn1 J=>P A n1 (d::J) w):=Ê he λv pe re=>Ê ha λva pa ra=>by refine#[Ϙ,_,pc pe pa,λB u H y q p T n QV o h Z=>re B u H y q p _ _ o.ok h λd x U z N q1=>?_];obtain⟨ht,ns,L,rfl,hm,q1⟩:=q1;obtain rfl:=F.inj ht;let a dx fs g Y e h2:=ß (E2 N);subst g e;refine#[ϡ,a,dx,fs,1,cH _ _ Y,qH hm,ra B u U y q p T n _ _ (o.fz z) q1 λn2 J xs H2 O Q r2 q2=>?_];let g e:=Ì Z;subst g e;rw[cG];have M:=(o.fz z).ř O Q;exact#[ϥ,y,T,n2,_,w,M.ok.bu,o.Ľ,Q,.cons (N.same (O.ī (o.fz z).Ľ)) r2,q2,λs d b dx f s' t' x' W=>hE s d b dx f ((zX M.ok.base).trans s') (F.to t' (λ_ _=>rfl) (iO o.ok.sub)) x' W]
def WQ{E:zD F}{t:AZ F}(P:eX X o l)(O:V3 X (i::j) t)
  (Y:∀{v:TE}{G:TA},PE X o v->PA X (i::j) G->RS X st (λb H W=>v b H λx y=>∃a dx fs,x=.ref a/\y a=wz (.Œ C dx fs)/\fs.lookup m=wx/\G b y λvs p=>mN X.K E (x::vs) p (λ_ _=>False) (W p))) :
  Lz X st (Jb C m E l t):=Ê P λv Z re=>Ê O λva U ra=>by refine#[Ϙ,_,Y Z U,λB z H s f b T n I W o h k=>re B z H s f b _ _ o.ok h λd x p q A q1=>?_];let ns ds g Q q1:=Ø q1;subst g;let a dx fs g N e h2:=ß (E2 A);subst g e;refine#[ϡ,a,dx,fs,1,cH _ _ N,qH Q,ra B z p s f b T n _ _ (o.fz q) q1 λS as xs L u w r2 q2=>?_];exact#[ϥ,s,T,S,_,I,((o.fz q).ř u w).ok.bu,o.Ľ,w,.cons (A.same (u.ī (o.fz q).Ľ)) r2,q2,λR d r dx J s' t' x' M=>k R d r dx L J ((iQ.of q).trans u) s' (F.liv w) t' x' M]
variable{W:Hp->List à->Prop}{t:D->F.S->List Sl->Prop}
def aOd{b:æ}{q:TE}(h:P8 X W e t)(hb:PE X b q)(d:FG b|>š):P8 X W (Ć e b pos) t:=Ê h λv p r=>#[Ϙ,_,GD iP p hb d,λB f H k a s T n u o h w=>r B f H k a s T n _ o h w]
def aOe{r:ű}(h:P8 X W e t)(k:∀{b:TA},PA X [e] b->PE X (ă g [e] [] pos) (YO r b))(d:bR [e] X.ak=(wv,è e X.ak)::bR [] X.ak|>ũ):P8 X W (ă g [e] [] pos) t:=Ê h λv p r=>#[Ϙ,_,k (gT p mJ d),λB f H q a s T n u o h w=>r B f H q a s T n _ o h w]
def LP(h:P8 X W e t):D9 X (.Return (wz e) pos) (λs k n b=>t s n b/\∀B a,k.xB B a->W B a):=Ê h λv p r=>#[Ϙ,_,C1 p,λB a H q d b T n k u o h f=>r B a H q d b T n _ o h.1 (h.2 B a f.xb)]
end
structure Sub(F P:vS) where
 π:P.I->F.I
 st:P.S->F.S
 put:P.S->F.S->P.S
 ai:D->D->Prop
 rl:∀{T:P.I}{τ:D},ai (P.Ē T) τ->τ=F.Ē (π T)
 ad:∀{T:P.I}{a:à},a∈F.ad (π T)->a∈P.ad T
 at_:∀{T:P.I}{K:aH}{H:Hp}{ps:List à}{n:P.S},P.At T K H ps n->F.At (π T) K H ps (st n)
 cm:∀{T:P.I}{K:aH}{H H':Hp}{ps z5:List à}{n:P.S}{n':F.S},P.At T K H ps n->(∀a∈P.ad T,a∉F.ad (π T)->H' a=H a)->bJ (ê H ps) (ê H' z5)->F.At (π T) K H' z5 n'->P.At T K H' z5 (put n n')
end TL
namespace L2
section
variable{prog:dF}{w:g6}{A:g3}{E:á->ã->Prop}{s:ã}{d:à}{bt:List (mR×á)}
theorem IX{Q:List á->ã->Prop}(H:A.handled=wx)(G:(d==n6)=wv)(hd:s.heap.DictOf (hV prog w) d bt)(I:iN bt<=bM)
  (h:∀g m f,dl s.heap.objs<=dl g.objs->(∀b o,s.heap.get? b=wz o->g.get? b=wz o)->ItemsOf (λi v=>∃k x,bt[i]?=wz (k,x)/\(hV prog w).is k v=ww) f (iN bt)->Q (aO6 f) { s with heap:=g,toks:=m }) :
  å (ä prog w) A (collect (g8 d)) Q E s:=Ë hd.dictAt λK z=>Ý (id z) λo B q hex j jU=>by
 have u:=bG q;refine aF (wpAny_runValue (codeAny_builtin PySem.F.entry_proto_collect ?_));rw[ew PySem.F.plain_proto_collect _];refine aF (jE ?_);refine aZ #[plainId_quiet LH _,codeAny_builtin PySem.F.entry_list_iadd ?_];rw[ew LH _]
 generalize n:s.heap.push { cls:=fx "list",data:=Fr (aPe ([]:List á)) }=H1
 have C:H1.get? s.heap.objs.size=wz { cls:=fx "list",data:=Fr (aPe ([]:List á)) }:=by rw[<- n];exact bD _ eH
 have t:∀b o,s.heap.get? b=wz o->H1.get? b=wz o:=λb o e=>by rw[<- n];exact aI _ e
 refine PySem.W.kdl_extend (R:=λr y=>match r with
  |.ok (.ret v)=>å (ä prog w) A (match v with
   |g8 a=>do
    match(<- load a).data with
    |.seq xs _=>pure xs.toList
    |_=>unsupported "internal:collect"
   |_=>unsupported "internal:collect") Q E y
  |.ok _=>False
  |.error e=>E e y) (PySem.W.kdl_dict G) H (#[Ϝ,o,B,t _ _ q,hex,j,jU]) s.heap.objs.size (iF u) (iF u) _ 0 C (λg m f c J p l=>?_) I
 refine aF (jm p ?_);refine aZ (h g m f ?_ (λb o e=>J b o (cO (bG e)) (t b o e)) l);exact iG (bG p)
theorem KH:∀{a:List Int}{kv:List (mR×á)}{vs:List á},kv.map (·.1)=a.map t6->iN vs=iN kv->(∀(j:Nat)(v:á),vs[j]?=wz v->∃k x,kv[j]?=wz (k,x)/\(hV prog w).is k v=ww)->IntsAre vs a
|[],[],[],_,_,_=>.nil
|[],_::_,_,h,_,_=>by simp at h
|_::_,[],_,h,_,_=>by simp at h
|_,_::_,[],_,h,_=>by simp at h
|_,[],_::_,_,h,_=>by simp at h
|i::a,(k,x)::kv,v::vs,h,hl,hv=>by
 rw[aX,aX]at h;injection h with b c
 let l m e f:=Ö (hv 0 v eH);cases e;obtain rfl:=b;exact Ù v (VB f) λt=>.cons i t (KH c (Á hl) λj g e=>hv (j+1) g (Á e))
theorem LV{Q:á->ã->Prop}{g:List Int}(G:A.handled=wx)(C:(d==n6)=wv)(hd:s.heap.DictOf (hV prog w) d bt)(k:bt.map (·.1)=g.map t6)(K:iN g<=60)
  (h:∀c p r out e,dl s.heap.objs<=r->(∀b o,s.heap.get? b=wz o->c.get? b=wz o)->c.get? r=wz (j0 "list" out e)->(∃q,IntsAre (aO6 out) q/\q.Pairwise (·<·)/\q.Perm g)->Q (g8 r) { s with heap:=c,toks:=p }) :
  å (ä prog w) A (call (mt "sorted") [g8 d]) Q E s:=by
 have H:iN bt=iN g:=by have:=d9 iN k;rwa [aB,aB]at this
 have l:aYv g:=ß (id hd) λ_ _ _ _ _ _ ψ=>í ψ λ_ _ nd=>by rw[k]at nd;exact(pR.mp nd).imp λh e=>h (by rw[e])
 have J:bM=2^24:=rfl;refine Calls.call_function_entry kind_sorted plain_sorted entry_sorted (args_sorted1 _) ?_;refine aF (aZ ?_);refine aF (IX (by simp[G]) C hd cT λc p a n t f=>?_);have m:iN a.toList=iN bt:=by rw[eY];exact f.1
 refine aF (gj ?_ cT);have i:(c.push (j0 "list" a.toList.toArray 0)).get? c.objs.size=wz (j0 "list" a.toList.toArray 0):=bD _ eH;refine aF (al (mW slot_list_sort #[Ϙ,_,i,1] entry_list_sort (list_sort_tree i (KH k m λj v e=>f.2 j v (by rw[<- kW];exact e)) cT λout I z a2 B=>#[Ϙ,02]) (args_list_sort _)));refine Ë (sortedHeap_at i) λe F=>aZ #[Ϙ,0,h _ p c.objs.size out e n (λb u x=>?_) F #[I,z,((List.pairwise_and_iff.mpr #[B,a2.nodup_iff.mpr l]).imp λh=>by have:=h.1;have:=h.2;lia),a2]];have y:=bG (t b u x);rw[sortedHeap_old (cO y) (bX y (by rw[fR];exact pL _))];exact aI _ (t b u x)
end
theorem vP{X:Cx}(k:X.Ň=ww):lW X (mt "sorted") (λi H Q=>∃p bt c,i=[.ref p]/\H p=wz (.dK bt)/\bt.map (·.1)=c.map t6/\iN c<=60/\∀(r:à)(a:List Int),H r=wx->a.Pairwise (·<·)->a.Perm c->Q (.ref r) (fU H r (.u8 (a.map V.int)))):=by
 intro g s E H i a Q I r h;refine ß h λp bt c Z n m ψ=>Ì ψ λv q=>?_;subst Z;let u Z x:=Ê (oG r);subst Z;cases x;refine Ð (D3 I.gs n) λz hd vs ai j=>LV (I.ok.hd k) hd j (by rw[<- m,ai.Ŕ]) v λA C r out e f w l y=>?_;refine Õ y λa o d b=>#[ϛ,.ref r,_,I.Ķ w f ?_,1,q _ a (I.gs.fresh f) d b];have B:bM=2^24:=rfl;have t:=b.length_eq;exact#[by rw[aB];lia,aO6 out,e,UZ o,by simpa[j0]using l]
section
variable{prog:dF}{w:g6}{A:g3}{E:á->ã->Prop}{s:ã}{o:à}{bt:List (mR×á)}
theorem GR:∀{acc more:List (mR×á)},aYv ((acc++more).map (·.1))->merged acc more=acc++more
|acc,[],_=>by show acc=acc++[];rw[cG]
|acc,(k,x)::more,nd=>by
 have e:ji acc k x=acc++[(k,x)]:=by
  have d:k∉acc.map (·.1):=λz=>by
   rw[bA,aX]at nd;exact(List.nodup_append.mp nd).2.2 k z k (aJ ..) eH
  have a:(acc.any λkv=>decide (kv.1=k))=false:=by
   rw[EE];intro z;exact Ê (qP.mp z) λe b c=>d (aM.mpr #[e,b,c8 c])
  unfold ji;rw[a];rfl
 show merged (ji acc k x) more=_;rw[e,GR (by rw[dM];exact nd),dM];rfl
theorem HR{Q:á->ã->Prop}(t:(o==n6)=wv)(hd:s.heap.DictOf (hV prog w) o bt)(v:iN bt<=bM)
  (h:∀a,IC (hV prog w) a s.heap.objs.size bt->(∀b ob,s.heap.get? b=wz ob->a.get? b=wz ob)->Q (g8 s.heap.objs.size) { s with heap:=a }) :
  å (ä prog w) A (call (fx "dict") [g8 o]) Q E s:=ß (id hd) λob r q k hex c ψ=>í ψ λd f nd=>by
 have lo:o<dl s.heap.objs:=bG k;let obj l x:=callType_codes (Q₁:=λobj l=>obj=g8 s.heap.objs.size/\l={ s with heap:=s.heap.push { cls:=fx "dict",data:=.dict (Ŭ []) } }) PySem.F.kt_called_dict (PySem.F.kt_typeCall_dict_1 _) PySem.F.entry_dict_init (kt_code_dict_new _ #[7]);let Z Y:=Ì x;subst Z Y;have gN:(s.heap.push { cls:=fx "dict",data:=.dict (Ŭ []) }).get? s.heap.objs.size=wz { cls:=fx "dict",data:=.dict (Ŭ []) }:=bD _ eH;have j:(s.heap.push { cls:=fx "dict",data:=.dict (Ŭ []) }).get? o=wz ob:=aI _ k;have m:Shared.TypeIs { s with heap:=s.heap.push { cls:=fx "dict",data:=.dict (Ŭ []) } } (g8 s.heap.objs.size) "dict":=#[_,gN,1];have g:Shared.TypeIs { s with heap:=s.heap.push { cls:=fx "dict",data:=.dict (Ŭ []) } } (g8 o) "dict":=#[_,j,hex.1];refine#[m,PySem.F.args_dict_init_2 _ _,2];have n:IC (hV prog w) (s.heap.push { cls:=fx "dict",data:=.dict (Ŭ []) }) s.heap.objs.size []:=#[_,(Ŭ []),(0),gN,#[17],1,(λe u=>by simp at u),.nil,List.nodup_nil];have p:IC (hV prog w) (s.heap.push { cls:=fx "dict",data:=.dict (Ŭ []) }) o bt:=#[ob,r,q,j,hex,c,d,f,nd];unfold av.«dict.__init__» Builtin.Dict.selfAndRest Builtin.Dict.notOrdered
 try dsimp only
 rw[b8 cR];refine aF (aF (aF (bb m ?_)));rw[a9 cS];refine aZ ?_
 try dsimp only
 refine aF (aZ (aZ ?_))
 try dsimp only
 unfold Builtin.Dict.updateCommon Builtin.Dict.updateFrom
 try dsimp only
 refine aF (bb g ?_);rw[a9 cS]
 try dsimp only
 unfold Builtin.Dict.merge Builtin.Dict.readDirectly;refine aF (aF (aF (wpAny_isInstance (T:="dict") (b:=ww) g PySem.F.sub_dict_dict ?_)));rw[a9 cS];refine aF (wpAny_specialOf g PySem.F.slot_dict_iter.lookup ?_);refine aZ ?_;rw[b8 cR];refine aF (aZ ?_);refine wpAny_mergeDict (iF lo) t n p (λa i z y=>?_) (Á v);rw[GR (Á nd),rR]at i;refine aF ?_;unfold Builtin.Dict.addKeywords;rw[List.forIn_nil];refine aF (aZ (aZ ?_));refine aZ #[1,h a i λb ob e=>?_];exact(y.2 b (cO (bG e))).trans (aI _ e)
end
def SX{X:Cx}:lW X (fx "dict") (λb H Q=>∃(p:à)(bt:ź),b=[.ref p]/\H p=wz (.dK bt)/\∀r,H r=wx->Q (.ref r) (fU H r (.dK bt))):=by
 intro a s k H b j Q I r h;let p bt y e q:=Ø h;subst y;let u y g:=Ê (oG r);subst y;cases g;refine Ð (D3 I.gs e) λz hd vs ai d=>HR hd d (by rw[<- ai.length];exact z) λi c f=>?_;exact#[ϛ,.ref s.heap.objs.size,_,I.Ķ (t':=s.toks) (o:=.dK bt) f (aL _) #[z,beq_eq_false_iff_ne.mpr (j6 (cO I.big)),vs,ai,c],1,q _ (I.gs.fresh (aL _))]
end L2
namespace TL
open L2
def yc(a:Ż):Ÿ:=a.map λe=>(aW e.1,e.2)
def CH(a:Ż):D:=tS ((aG "{}",eE [])::yc a)
def IR(a:Ż):Sl:=.Ė [] (yc a)
section
variable{K:aH}{H B:Hp}{f c:List à}{a m:List Sl}{g:L2.St}{p:à}{ks y:Ż}{es n:ź}{i:Nat}
theorem R9:∀{ks:Ż}{es:ź},(yc ks).map (·.1)=es.map (λe=>kD e.1)->gq K H ((yc ks).map (·.2)) (es.map (·.2))->uV K H ks es
|[],[],_,_=>.nil
|[],_::_,h,_=>by cases h
|_::_,[],h,_=>by cases h
| (i,d)::ks,(k,v)::es,h,r=>by
 have l:aW i::(yc ks).map (·.1)=kD k::es.map (λe=>kD e.1):=h;injection l with b o
 cases r with
 |cons q s=>
  cases k with
  |inl j=>
   have e:i=j:=by injection b
   subst e;exact .cons q (R9 o s)
  |inr x=>cases b
theorem G0:∀{ks:Ż}{es:ź},uV K H ks es->(yc ks).map (·.1)=es.map (λe=>kD e.1)/\gq K H ((yc ks).map (·.2)) (es.map (·.2))
|_,_,.nil=>#[1,.nil]
|_,_,.cons r t=>Ì (G0 t) λb d=>#[d9 (aW _::·) b,.cons r d]
theorem aGr{bt:Ÿ}{v:V}(r:iM K H (tS ((aG "{}",eE [])::bt)) v):∃p es,v=.ref p/\H p=wz (.dK es)/\bt.map (·.1)=es.map (λe=>kD e.1)/\gq K H (bt.map (·.2)) (es.map (·.2)):=by
 generalize h:(tS ((aG "{}",eE [])::bt))=d at r
 cases r with
 |@dct p es kws h1 h2 h3=>
  injection h with h
  injection h with _ j
  subst j;exact#[Ϝ,p,es,1,h1,h2,h3]
 |addr z=>
  injection h with h
  injection h with b _
  injection b with b _
  injection b with b
  exact c9 b cR
 |Œ _ _=>
  injection h with h
  injection h with b _
  injection b with b _
  injection b with b
  exact c9 b cR
 |_=>cases h
def L0{v:V}(r:iM K H (CH ks) v):∃p es,v=.ref p/\H p=wz (.dK es)/\uV K H ks es:=Ý (aGr r) λp es h b d e=>#[ϛ,p,es,h,b,R9 d e]
def Kz(h:H p=wz (.dK es))(k:uV K H ks es):iM K H (CH ks) (.ref p):=.dct h (G0 k).1 (G0 k).2
def Ok.re(o:Ok K B f H c a g)(hl:iN m=iN a)(hv:∀(j:Nat)(d:D),m[j]?=wz (.val d)->a[j]?=wz (.val d))(ho:∀(j:Nat)(ts:List D),m[j]?=wz (.own ts)->a[j]?=wz (.own ts))(hd:tF K B f H c m g):Ok K B f H c m g where
 base:=o.base
 sub:=o.sub
 bu:=o.bu
 len:=hl.trans o.len
 val:=λj d h=>o.val j d (hv j d h)
 own:=λj ts h=>o.own j ts (ho j ts h)
 Ī:=λi j ts us q h1 h2 h3 h4=>o.Ī i j ts us q (ho i ts h1) (ho j us h2) h3 h4
 dc:=hd
def Ok.poke(o:Ok K B f H c a g){φ:ź}{u:HO}(hp:p∈c)(hB:B p=wx)(he:H p=wz (.dK φ))(hn:∀(j:Nat)(hs:List Int)(bt:Ÿ),a[j]?≠wz (.Ė hs bt))(hu:zf u=false|>ũ):Ok K B f (fU H p u) c a g where
 base:=λb w e=>by
  rw[cC λz=>by rw[z,hB]at e;cases e];exact o.base b w e
 sub:=o.sub
 bu:=λq hq=>by
  by_cases e:q=p
  .subst e;rw[cL];exact#[0,hu]
  .rw[cC e];exact o.bu q hq
 len:=o.len
 val:=λi d h=>by rw[fW hp];exact o.val i d h
 own:=λi ts h=>by
  rw[fW hp];exact ì (o.own i ts h) λq xs h1 h2 h3 h4 h5 h6=>#[Ϟ,q,xs,h1,h2,h3,h4,by rw[cC λz=>by rw[z,he]at h5;cases h5];exact h5,h6]
 Ī:=o.Ī
 dc:=λi hs bt h=>c9 h (hn i hs bt)
def UA{i j:Nat}{s:Sl}{d:D}(k:∀d,s≠.val d)(h:(a.set i s)[j]?=wz (.val d)):i≠j/\a[j]?=wz (.val d):=by
 by_cases e:i=j
 .subst e;have b:i<iN a:=Á (aD.mp h).1
  rw[bI b]at h;exact c9 (d7 h) (k d)
 .rw[aY e]at h;exact#[e,h]
def A7{i j:Nat}{s:Sl}{b:List D}(k:∀b,s≠.own b)(h:(a.set i s)[j]?=wz (.own b)):i≠j/\a[j]?=wz (.own b):=by
 by_cases e:i=j
 .subst e;have d:i<iN a:=Á (aD.mp h).1
  rw[bI d]at h;exact c9 (d7 h) (k b)
 .rw[aY e]at h;exact#[e,h]
structure aEq(K:aH)(B:Hp)(f:List à)(H:Hp)(c:List à)(p:à)(es:ź)(ks:Ż):Prop where
 mem:p∈c
 new:B p=wx
 out:p∉f
 obj:H p=wz (.dK es)
 kv:uV K (ê H c) ks es
def Ok.toN(o:Ok K B f H c a g)(q:g[i]?=wz (wz (.ref p)))(A:∀(j:Nat)(C:List Int)(bt:Ÿ),i≠j->a[j]?≠wz (.Ė C bt))(x:aEq K B f H c p es ks):Ok K B f H c (a.set i (IR ks)) g:=by
 let j s t h:=o.re dN (λj d h=>(UA (by intro _ z;cases z) h).2) (λj E h=>(A7 (by intro _ z;cases z) h).2);have w:i<iN a:=by rw[o.len];exact(aD.mp q).1
 have only:∀(l:Nat)(k:List Int)(b:Ÿ),(a.set i (IR ks))[l]?=wz (.Ė k b)->i=l:=λl k b r=>by
  by_cases e:i=l
  .exact e
  .rw[aY e]at r;exact c9 r (A l k b e)
 obtain rfl:=only j s t h;rw[bI w]at h;injection h with h
 injection h with u v
 subst u v;exact#[#[p,es,q,x.mem,x.new,x.out,x.obj,1,(G0 x.kv).1,(G0 x.kv).2],λl k b r=>only l k b r]
def Ok.isN(o:Ok K B f H c a g)(h:a[i]?=wz (IR ks)):(∃p es,g[i]?=wz (wz (.ref p))/\aEq K B f H c p es ks)/\∀j b d,i≠j->a[j]?≠wz (.Ė b d):=by
 obtain⟨⟨p,es,k,a2,l,a4,q,_,r,s⟩,u⟩:=o.dc i _ _ h;exact#[#[p,es,k,a2,l,a4,q,R9 r s],λj b d ne e=>ne (u j b d e)]
def Ok.forget(o:Ok K B f H c a g)(h:a[i]?=wz (IR ks)):Ok K B f H c (a.set i .un) g/\∀(j:Nat)(l:List Int)(bt:Ÿ),(a.set i .un)[j]?≠wz (.Ė l bt):=by
 have q:∀(j:Nat)(l:List Int)(bt:Ÿ),(a.set i .un)[j]?≠wz (.Ė l bt):=λj b k e=>Ì (FF (by intro _ _ z;cases z) e) λne r=>(o.isN h).2 j b k ne r
 exact#[o.re dN (λj d h=>(UA (by intro _ z;cases z) h).2) (λj s h=>(A7 (by intro _ z;cases z) h).2) λj b k e=>c9 e (q j b k),q]
def Ok.newN(o:Ok K B f H c a g)(l:i<iN a)(q:∀(j:Nat)(d:List Int)(bt:Ÿ),a[j]?≠wz (.Ė d bt))(b:H p=wx)(k:uV K (ê H c) ks es):Ok K B f (fU H p (.dK es)) (p::c) (a.set i (IR ks)) (g.set i (wz (.ref p))):=by
 have r:=(o.adopt (u:=.dK es) b).setUn (i:=i) (v:=.ref p);have h:(g.set i (wz (V.ref p)))[i]?=wz (wz (.ref p)):=bI (by rw[<- o.len];exact l)
 have s:=r.toN (i:=i) (es:=es) (ks:=ks) h (λj d bt ne e=>by
  rw[aY ne]at e;exact q j d bt e) #[aJ ..,bJ.ŗ o.base b,λz=>iS o.bu b (o.sub p z),cL,by rw[nN b];exact k]
 rwa [aPf]at s
def Ok.putN(o:Ok K B f H c a g)(h:a[i]?=wz (IR ks))(e:g[i]?=wz (wz (.ref p)))(x:aEq K B f H c p es ks)(k:uV K (ê H c) y n):Ok K B f (fU H p (.dK n)) c (a.set i (IR y)) g:=Ì (o.forget h) λr b=>by
 have d:ê (fU H p (.dK n)) c=ê H c:=fW x.mem;have s:=(r.poke (u:=.dK n) x.mem x.new x.obj b).toN (i:=i) (es:=n) (ks:=y) e (λj q l _=>b j q l) #[x.mem,x.new,x.out,cL,by rw[d];exact k]
 rwa [aPf]at s
def Ok.shareN(o:Ok K B f H c a g)(N:a[i]?=wz (IR ks)):∃t:List à,Ok K B f H t (a.set i (.val (CH ks))) g/\bJ (ê H c) (ê H t):=by
 obtain⟨⟨p,es,F,x⟩,u⟩:=o.isN N;have w:i<iN a:=(aD.mp N).1;have C:p∉c.filter λq=>decide (q≠p):=λz=>(c8 (cD.mp z).2) eH;have b:bJ (ê H c) (ê H (c.filter λq=>decide (q≠p))):=iO λq l=>(cD.mp l).1;refine#[Ϙ,c.filter λq=>decide (q≠p),#[o.base,λq l=>cD.mpr #[o.sub q l,c6 λz=>x.out (z▸l)],λq l=>o.bu q (cD.mp l).1,Á o.len,λj d h=>?_,λj M h=>?_,λj k M P q r s G I=>?_,λj E L h=>?_],b]
 .by_cases e:i=j
  .subst e;rw[bI w]at h;cases h;exact#[Ϙ,_,F,Kz (nB C x.obj) (x.kv.same b)]
  .rw[aY e]at h;exact Ê (o.val j d h) λv r s=>#[Ϙ,v,r,s.same b]
 .refine Ì (A7 (by intro _ z;cases z) h) λ_ h=>ì (o.own j M h) λq Q r s G I J O=>?_;have A:q≠p:=λz=>by rw[z,x.obj]at J;cases J
  exact#[Ϟ,q,Q,r,cD.mpr #[s,c6 A],G,I,J,O.same b]
 .exact o.Ī j k M P q (A7 (by intro _ z;cases z) r).2 (A7 (by intro _ z;cases z) s).2 G I
 .exact Ì (FF (by intro _ _ z;cases z) h) λne h=>c9 h (u j E L ne)
end
section
variable{X:Cx}{a b e n:æ}{m:List æ}{s c l tv:ET}{pos:Pos}
def Ql(c l:ET):ET:=λg Q=>c g λd=>l g λy=>∃f j x,d=CH f/\y=aW j/\qJ f j=wz x/\Q x
def yP(O:X.A.units+1<x8)(K:eX X a c)(L:eX X b l)(N:yx b|>š):eX X (Ć a b pos) (Ql c l):=Ê K λv P re=>Ê L λZ R U=>by
 refine#[Ϙ,_,MA O P R N,λB u H C i G Q W o h k=>re B u H C i G _ _ o h λd x I E S q1=>U B u I C i G _ _ (o.fz E) q1 λy yv J F T q2=>?_];let Y j z s n g q:=ß q2;subst s n;cases T;let p m s M kv:=Ø (L0 (S.same (bU F)));subst s;rcases kv.val j with⟨f,t⟩ | ⟨d,w,f,t,r⟩
 .rw[g]at f;cases f
 .rw[g]at f;cases f;refine#[ϛ,p,w,12,k z w J (E.trans F) r q];have:=EN.k (k:=t6 j) (cH _ _ M);rw[t]at this;exact this
def aOk(i:Nat)(l:ET):ET:=λf Q=>∃d:Ż,f[i]?=wz (IR d)/\l f λy=>∃(j:Int)(x:D),y=aW j/\qJ d j=wz x/\Q x
def PN{i:Nat}(K:X.A.units+1<x8)(I:PE X n (qQ i))(r:eX X b l)(J:yx b|>š):eX X (Ć n b pos) (aOk i l):=Ê r λU M P=>by
 refine#[Ϙ,_,MA K I M J,λB L H N E R Q S o h k=>?_];let T r h:=Ê h;obtain⟨⟨p,m,t,x⟩,u⟩:=o.isN r;refine#[Ϙ,.ref p,t,P B L H N E R _ _ o h λy W G C O q2=>?_];let j z s g q:=Ø q2;subst s;cases O;rcases(x.kv.same (bU C)).val j with⟨f,F⟩ | ⟨d,w,f,F,v⟩
 .rw[g]at f;cases f
 .rw[g]at f;cases f;refine#[ϛ,p,w,12,k z w G C v q];have:=EN.k (k:=t6 j) (C _ _ x.obj);rw[F]at this;exact this
def Qm(l c:ET)(g:List Sl)(Q:Bool->Prop):Prop:=l g λy=>c g λd=>∃f j,d=CH f/\y=aW j/\Q (qJ f j).isNone
def aFj(K:X.A.units+1<x8)(G:eX X b l)(F:eX X a c)(I:d8 .NotIn a=false|>Ţ):LB X (Ty b [.NotIn] [a] pos) (Qm l c):=Ê F λv L re=>Ê G λU M P=>by
 refine#[Ϙ,_,Ld (J2 K M L) I,λB r H t f z Q S o h k=>P B r H t f z _ _ o h λy W C u N q1=>re B r C t f z _ _ (o.fz u) q1 λd x E R O q2=>?_];let T j s n q:=Ø q2;subst s n;cases N;let p m s J kv:=Ø (L0 O);subst s;refine#[p,tY m (t6 j),1,EN.k (k:=t6 j) (cH _ _ J),0,k _ E (u.trans R) ?_];rcases kv.val j with⟨g,i⟩ | ⟨d,w,g,i,_⟩
 .rw[g]at q;rw[i];exact q
 .rw[g]at q;rw[i];exact q
theorem uV.Ŕ{K}{d:Ż}{m:ź}(h:uV K H d m):m.map (·.1)=(d.map (·.1)).map t6:=by
 induction h with
 |nil=>rfl
 |cons _ t n=>show _::_=_::_;rw[n]
theorem UE{K}:∀d:List Int,gq K H (d.map aW) (d.map V.int)
|[]=>.nil
|u::d=>.cons (.int u) (UE d)
def Jw(c:ET):ET:=λh Q=>c h λd=>∃f,d=CH f/\iN f<=60/\∀g:List Int,g.Pairwise (·<·)->g.Perm (f.map (·.1))->Q (eE (g.map aW))
def BU(z:eX X e c)(E:bR [e] X.ak=(wv,è e X.ak)::bR [] X.ak|>ũ)
  (pc:∀{s:TA},PA X [e] s->PE X (ă g [e] [] pos) (YO (λL H Q=>∃p bt i,L=[.ref p]/\H p=wz (.dK bt)/\bt.map (·.1)=i.map t6/\iN i<=60/\∀(r:à)(f:List Int),H r=wx->f.Pairwise (·<·)->f.Perm i->Q (.ref r) (fU H r (.u8 (f.map V.int)))) s)):eX X (ă g [e] [] pos) (Jw c):=Ê z λv I re=>by refine#[Ϙ,_,pc (gT I mJ E),λB G H J j M Q O o h k=>re B G H J j M _ _ o h λd x N u K q1=>?_];let F n A q:=Õ q1;subst n;let p m n C kv:=Ø (L0 K);subst n;refine#[Ϣ,p,m,F.map (·.1),1,cH _ _ C,kv.Ŕ,by rw[aB];exact A,λr f t w y=>k _ _ _ (u.trans (dZ t)) ?_ (q f w y)];exact yG (o.fz u).bu t (UE f)
def aOg:eX X (.Dict [] [] p2) (eC (CH [])):=
 #[Ϙ,_,GE,λB i H j f q Q g o h k p d=>k _ _ _ (dZ d) (Kz (nB (iS o.bu d) cL) .nil) h]
def Im(i:Nat):xS:=λf d=>i<iN d/\(∀(j:Nat)(g:List Int)(bt:Ÿ),d[j]?≠wz (.Ė g bt))/\f.nx (d.set i (IR []))
def aF8{i:Nat}{x:â}(d:∀{v:TE},PE X (.Dict [] [] p2) v->PS X (Ā [KK x pos'] (.Dict [] [] p2) pos) (wN v (mO i))):CI X (Ā [KK x pos'] (.Dict [] [] p2) pos) (Im i):=by
 refine#[Ϙ,_,d GE,λB t H j k u q r o h f p g=>?_];exact f.nx _ (p::j) _ _ (o.newN h.1 h.2.1 g .nil) (by rw[nN g];exact L2.bJ.refl _) h.2.2
def Lp(i:Nat)(c:ET):xS:=λh f=>i<iN f/\(∀(j:Nat)(k:List Int)(bt:Ÿ),f[j]?≠wz (.Ė k bt))/\c f λd=>∃g:Ż,d=CH g/\h.nx (f.set i (IR g))
def ZZ{i:Nat}{x:â}(w:eX X e c)(C:bR [e] X.ak=(wv,è e X.ak)::bR [] X.ak|>ũ)
  (pc:∀{s:TA},PA X [e] s->PS X (Ā [KK x pos'] (ă g [e] [] p2) pos) (wN (YO (λI H Q=>∃(p:à)(bt:ź),I=[.ref p]/\H p=wz (.dK bt)/\∀r,H r=wx->Q (.ref r) (fU H r (.dK bt))) s) (mO i))) :
  CI X (Ā [KK x pos'] (ă g [e] [] p2) pos) (Lp i c):=Ê w λv F re=>by refine#[Ϙ,_,pc (gT F mJ C),λB E H t j J K L o h f=>?_];refine í h λy z h=>re B E H t j J _ _ o h λd x M u G q1=>?_;let N n q:=Ê q1;subst n;let p m n A kv:=Ø (L0 G);subst n;refine#[ϛ,p,m,1,cH _ _ A,λr k=>?_];exact f.nx _ (r::t) _ _ ((o.fz u).newN y z k kv) ((bU u).trans (by rw[nN k];exact L2.bJ.refl _)) q
def JX(i:Nat)(l tv:ET):xS:=λg d=>∃f:Ż,d[i]?=wz (IR f)/\tv d λx=>l d λy=>∃j:Int,y=aW j/\iN f<=100000/\g.nx (d.set i (IR (GA f j x)))
theorem A5{i:Nat}(Q:X.A.units+1<x8)(O:PE X n (qQ i))(C:eX X e l)(R:eX X value tv)(P:lY value (wz (Ć n e p2)) pos.line X.ak=pure false|>ũ) :
  CI X (Ā [Ć n e p2] value pos) (JX i l tv):=Ê R λvv F Z=>Ê C λvk pk Y=>by refine#[Ϙ,_,UK Q O pk F P,λB E H t r G DT DV o h f=>?_];let S I h:=Ê h;obtain⟨⟨p,m,g,x⟩,u⟩:=o.isN I;refine Z B E H t r G _ _ o h λv y M J U q1=>#[Ϙ,.ref p,g,Y B E M t r G _ _ (o.fz J) q1 λk z N L W q2=>?_];let j s hl q:=Õ q2;subst s;cases W;have d:=J.trans L;have w:aEq X.K B E N t p m S:=#[x.mem,x.new,x.out,d _ _ x.obj,x.kv.same (bU d)];have hL:bM=2^24:=rfl;refine#[ϛ,p,0,X9.k (k:=t6 j) (v:=y) w.obj (by rw[<- w.kv.length];lia),2];have T:=(o.fz d).putN I g w (w.kv.put (i:=j) (U.same (bU L)));exact f.nx _ t _ G T ((bU d).trans (by rw[fW x.mem];exact L2.bJ.refl _)) q
def aGj(i:Nat)(t:xS):xS:=λg f=>∃d:Ż,f[i]?=wz (IR d)/\t g (f.set i (.val (CH d)))
def uC(i:Nat)(h:wG X sts t):wG X sts (aGj i t):=Ê h λv p r=>by refine#[Ϙ,_,p,λB q H z x w g j o h f=>?_];exact Ê h λy e h=>Ê (o.shareN e) λd k u=>r B q H d _ w g j k h (f.ł u)
end
section
variable{X:Cx}{F:vS}{t:SZ F}
def aFf(i:Nat)(t:SZ F):SZ F:=λd c n b=>∃a:Ż,b[i]?=wz (IR a)/\t d c n (b.set i (.val (CH a)))
def WH(i:Nat)(h:B8 X sts t):B8 X sts (aFf i t):=Ê h λv p r=>by refine#[Ϙ,_,p,λB j H q l k T n c d o h f=>?_];exact Ê h λm e h=>Ê (o.ok.shareN e) λa g b=>r B j H a _ k T n c d #[g,o.mem,o.nb,F.to o.tp (λ_ _=>rfl) b] h (f.ł b)
end
structure Sp0 where
 p:à
 q:à
 dp:Int
 fw:Int
structure SpS where
 bt:Ż
 giv:Int
end TL
namespace L2
section
variable{X:Cx}{f:Ž}{g:St}{H:Hp}{s:ã}{d:à}
def Iy(Wd:á->Prop)(i:Nat)(rt:St->Hp->(Hp->XK)->Prop)(k:à->TS):TS:=λD g H=>rt g H λe b dx h=>Wd b /\
 ∃C,b=g8 C/\∀d,e d=wx->h d=wx->(∀a,dx=wz a->e a=wx)->k d { nx:=λc j=>D.nx (c.set i wx) j,rt:=λ_ _=>False } (g.set i (wz (.ref d))) (fU h d (.ext (TL.wB d C dx)))
def aGw{Wd:á->Prop}{J:à}{i:Nat}{n jn:â}{st}{rt:St->Hp->(Hp->XK)->Prop}{ts:à->TS}(hq:V1 X)(l:X.stack=X.ak::X.ag)(mz:X.ak.frame=wz X.ak.locals)(hN:aYv X.N)(hi:X.N[i]?=wz n)(hx:X.ak.scope.names.lookup n=wz .local)
  (S:pre=[]\/∃(J0:à)(m:â)(W:Pos)(n0:Option â)(G:List é)(R:Pos),pre=[.ExceptHandler (wz (KK m W)) n0 G R]/\Gl X m/\X.mg m=wz (g8 J0)/\(m==("__debug__":â))=wv/\∀c,Wd c->pI X.K c (g8 J0)=wz wv) (hg:Gl X jn) (hm:X.mg jn=wz (g8 J)) (h1:∀c,Wd c->pI X.K c (g8 J)=wz ww)
  (hs:RS X st rt) (hb:∀d,EK (X.ħ d) (b0::suite) (ts d)) (hd:(jn==("__debug__":â))=false|>Ū) :
  PS X (.Try [st] (pre++.ExceptHandler (wz (KK jn jp)) (wz n) (b0::suite) hp::hs') [] [] pos) (Iy Wd i rt ts):=by
 intro f s g H D I h;rcases S with rfl | ⟨J0,m,W,n0,G,R,rfl,sr,ox,lz,h0⟩
 all_goals
  refine wpAny_Try_except (ea (fG (hs f s g H _ I h) (λ_ _ z=>z.elim) λe y hz=>?_));obtain⟨H1,s1,F,d,T,dx,_,a0,B,rfl,os,ŕ,un,gs,x,n1,n2,n3,n4,n5,hW,C,rfl,p⟩:=hz;have I2:dS X f g B y:=F.call' (ch:=[]) os un gs ŕ λb z=>c9 z dN;have M:X.A.frames=wz (X.ak::X.ag):=by rw[<- l];exact I.ok.frames
  have U:y.heap.FunFrames X.base (X.ak::X.ag):=by rw[<- l];exact I2.stack
  have t:∀b,s1.heap.get? b=wx->b∉uM (X.ak::X.ag):=λb hb z=>by
   rw[<- l]at z;let V o ho z0:=Ï (F.stack.mem z);rw[hb]at ho;cases ho
  have j:∀b∈uM (X.ak::X.ag),B b=none:=λb hb=>by rw[<- l]at hb;exact I2.stkFree b hb
  let h3 r sz kb x3:=J9 (base:=X.base) M U mz x (t d n3) (t T n4);have qv:B r=none:=gs.fresh sz
  have qw:s1.heap.get? r=none:=by
   cases q:s1.heap.get? r with
   |none=>rfl
   |some o=>let o' z:=Ë (un.there r o q dN);rw[rD sz]at z;cases z
  let h4 k4 x4:=vM (s:={ y with heap:=h3 }) x3;have E:iI (uM (X.ak::X.ag)) [d,T,r] y.heap h4:=(kb.more λb hb=>aN.mpr ((aN.mp hb).imp id λz=>aN.mpr (j3 (bC.mp z)))).trans (.of λb u eb c=>k4 b u eb λz=>c (by rw[z];simp))
  have nw:∀b o,s1.heap.get? b=wz o->b∉[d,T,r]/\(b∈uM (X.ak::X.ag)->b∈uM X.stack):=λb o e=>by
   refine#[λz=>?_,λz=>by rw[l];exact z];simp only[aN,cZ,j4]at z;rcases z with rfl | rfl | rfl
   .rw[n3]at e;cases e
   .rw[n4]at e;cases e
   .rw[qw]at e;cases e
  have L:∀b∈[d,T,r],B b=none:=λb z=>by
   simp only[aN,cZ,j4]at z;rcases z with rfl | rfl | rfl
   .exact n1
   .exact n2
   .exact qv
  have vm:=un.but E nw;have O:=gs.butX E j L;have I4:dS X f g B { y with heap:=h4 }:=F.call' (ch:=[]) os vm O ŕ λb z=>c9 z dN;have Z:=I4.mark d;let oe ve ge ce de vy V z0:=ì x4.ex;have LT:JD (ä X.prog X.w) h4 (typeOf (g8 d)) (g8 C):=ce▸(JD.ld ge).andThen .now
  try
   refine ix (ic (yM (X:=X.ħ d) Z sr ox (((YZ Z.kIn LT (h0 _ hW)).at ?_)) lz)) (λz=>nomatch z);rw[a9 cS]
  refine ix (ic (yM (X:=X.ħ d) Z hg hm (((YZ Z.kIn LT (h1 _ hW)).at ?_)) hd)) (λz=>nomatch z);rw[b8 rfl];refine codeAny_handlers_suite_as (vM (s:={ y with heap:=h4 }) x4 λh5 k5 x5=>?_);have Y:iI (uM (X.ak::X.ag)) [d,T,r] y.heap h5:=E.trans (.of λb u eb c=>k5 b u eb λz=>c (by rw[z];simp));have vn:=un.but Y nw;have P:=gs.butX Y j L;let o5 v5 g5 c5 d5 qh V z0:=ì x5.ex;have ud:=p d (F.gs.out n3) n1 λa z=>F.gs.out (n5 a z);have Q:rP X.prog X.w (fU B d (.ext (TL.wB d C dx))) h5:=P.track n1 #[#[Ϝ,o5,v5,g5,c5,d5,qh],#[o5,g5],λha hb #[o,v,y1,y2] k=>#[Ϛ,o,v,k o y1,y2]];have I5:dS X f g (fU B d (.ext (TL.wB d C dx))) { y with heap:=h5 }:=F.call' (ch:=[]) os (vn.track n1 n3) Q ŕ λb z=>c9 z dN;refine FV I5 hN hi (j3 hx) (v:=.ref d) eH (λs6 I6=>?_) (i7 hx);refine fG (hb d f s6 _ _ _ (I6.mark d) ud) (λfl s7 h7=>?_) λe s7 z=>c9 z (hq e s7)
  cases fl with
  |next=>
   exact Ö h7 λv7 H' J7 q=>aHy (I6.unmark J7) hN hi hx λs8 I8=>#[Ϛ,_,H',I8,q]
  |brk=>exact Ö h7 λ_ _ _ z=>z.elim
  |cont=>exact Ö h7 λ_ _ _ z=>z.elim
  |ret u=>exact Ú h7 λ_ _ _ _ _ z=>z.elim
end
end L2
namespace TL
open L2
section
variable{F:vS}{X:Cx}{pos:Pos}{st:é}
def aPl(Wd:á->Prop)(i:Nat)(t:EZ F)(g:SZ F):SZ F:=λe b n c=>t e n c λn1 d=>(∃C:à,d=tS [(aW (C:Nat),ES)]/\Wd (g8 C)) /\
 g e { nx:=λf a=>b.nx f (a.set i .un),rt:=λ_ _=>False,xB:=b.xB } n1 (c.set i (.val d))
def aFo{Wd:á->Prop}{i:Nat}(z:Lz X st t)(hb:∀a,B8 (X.ħ a) (l::suite) ts)
  (pt:∀{rt:L2.St->Hp->(Hp->XK)->Prop}{r:à->TS},RS X st rt->(∀a,EK (X.ħ a) (l::suite) (r a))->PS X (.Try [st] hs' [] [] pos) (Iy Wd i rt r)):D9 X (.Try [st] hs' [] [] pos) (aPl Wd i t ts):=Ê z λrt I G=>by refine#[Ϙ,_,pt I (λa=>(hb a).choose_spec.1),λB m H p j Q T n k S o h f=>G B m H p j Q T n _ _ o h λn1 d v dx U W K L Z N P q=>?_];obtain⟨⟨C,hd,y⟩,q⟩:=q;refine Ê P λR x ψ=>î v ψ λχ=>î dx χ λO=>?_;subst x;obtain rfl:=aLr hd;refine#[y,0,λa Y w _=>?_];refine Ì (o.exc (i:=i) K L N O w) λE M=>(hb a).choose_spec.2 B m _ p _ _ T n1 { nx:=λe c=>k.nx e (c.set i .un),rt:=λ_ _=>False,xB:=k.xB } _ E q #[λu g s c e A J b=>?_,λ_ _ _ _ _ _ _ b=>b.elim,λ_ _ _ _ _ _ _ b=>b.elim,λ_ _ _ _ _ _ _ b=>b.elim,f.xb];exact f.nx u g _ _ e (A.away i) (M.trans J) b
end
end TL
namespace L2
section
variable{X:Cx}{a b:æ}{jU:List æ}{pos:Pos}{c d:TE}
def aP5(c d:TE):TE:=λf H Q=>c f H λx e=>∃i:Int,x=.int i/\if(i != 0)=ww then d f e Q else Q (.int i) e
def aG3(k:PE X a c)(hb:PE X (ÿ .And (b::jU) pos) d):PE X (ÿ .And (a::b::jU) pos) (aP5 c d):=by
 intro e s j H Q I h;refine BoolOp_and (kN (k e s j H _ I h) λv m n=>?_);let x f g l q1:=Ø n;obtain⟨i,rfl,q1⟩:=q1;refine Ù v l λt=>P.truthy_int ?_;split
 .next z=>rw[b8 z]at q1;exact hb e m j f Q g q1
 .next z=>rw[a9 z]at q1;exact#[ϛ,.int i,f,g,#[t,1],q1]
end
end L2
namespace TL
open L2
section
variable{X:Cx}{a b e n:æ}{m:List æ}{c l A s:ET}{pos:Pos}
def Qi(i:Nat)(t:ET):ET:=λg Q=>∃f,g[i]?=wz (IR f)/\t (g.set i (.val (CH f))) λd=>Hr d=ww/\Q d
def MZ(i:Nat)(h:eX X e A):eX X e (Qi i A):=Ê h λv p r=>by refine#[Ϙ,_,p,λB q H E y w Q z o h k=>?_];exact Ê h λC e h=>Ê (o.shareN e) λf j F=>r B q H f _ w _ _ j h λd x g u t q1=>k d x g u (t.flat q1.1) q1.2
def LY(i:Nat)(s:ET):xS:=λg f=>∃d:Ż,f[i]?=wz (IR d)/\s f λy=>∃(j:Int)(x:D),y=aW j/\qJ d j=wz x/\g.nx (f.set i (IR (HJ d j)))
def N7{i:Nat}(O:PE X n (qQ i))(F:eX X e s)(P:bR [e] X.ak=(wv,è e X.ak)::bR [] X.ak|>ũ)
  (pc:∀{v:TE}{c:TA},PE X n v->PA X [e] c->PS X (.Expr (ă (ą n "pop" ap) [e] [] cp) pos) (JP (WG X.K "dict" (λx Y H Q=>∃(p:à)(bt:ź)(k:mR)(v:V),x=.ref p/\Y=[kV k]/\H p=wz (.dK bt)/\tY bt k=wz v/\Q v (fU H p (.dK (jW bt k)))) v c))) :
  CI X (.Expr (ă (ą n "pop" ap) [e] [] cp) pos) (LY i s):=Ê F λvk pk U=>by
 refine#[Ϙ,_,pc O (gT pk mJ P),λB M H G I Z DT DV o h f=>?_];let R L h:=Ê h;obtain⟨⟨p,m,t,x⟩,u⟩:=o.isN L;refine#[.ref p,t,i7 (i7 (j3 #[1,j3 #[m,x.obj]])),U B M H G I Z _ _ o h λy yv N C T q2=>?_];let j z l g q:=Ø q2;subst l;cases T;have E:aEq X.K B M N G p m R:=#[x.mem,x.new,x.out,C _ _ x.obj,x.kv.same (bU C)];rcases E.kv.val j with⟨r,J⟩ | ⟨d,w,r,J,W⟩
 .rw[g]at r;cases r
 .rw[g]at r;cases r;refine#[ϣ,p,m,t6 j,w,7,E.obj,J,2];have S:=(o.fz C).putN L t E (E.kv.drop j);exact f.nx _ G _ _ S ((bU C).trans (by rw[fW x.mem];exact L2.bJ.refl _)) q
def Qh(c l:ET):ET:=λd Q=>c d λx=>∃i:Int,x=aW i/\if(i != 0)=ww then l d Q else Q (aW i)
def aIf{a b jU c l}(u:eX X a c)(hb:eX X (ÿ .And (b::jU) pos) l):eX X (ÿ .And (a::b::jU) pos) (Qh c l):=Ê u λL w G=>Ê hb λM y I=>by
 refine#[Ϙ,_,aG3 w y,λB p H q f r Q K o h k=>G B p H q f r _ _ o h λd x j g F q1=>?_];obtain⟨i,rfl,q1⟩:=q1;cases F;refine#[Ϙ,i,12];split
 .next z=>rw[b8 z]at q1;exact I B p j q f r Q _ (o.fz g) q1 λd v t J E C=>k d v t (g.trans J) E C
 .next z=>rw[a9 z]at q1;exact k _ _ j g (.int i) q1
end
end TL
namespace L2
def Uq(K:aH):R2:=λx y H Q=>∃l k a,x=.ref l/\y=.int k/\qE K H l a/\-(2^63)<=k/\k<2^63/\iN a*Ă k<=bM /\
 ∀p,H p=wx->Q (.ref p) (fU H p (.u8 (dW (Ă k) a).flatten))
theorem aG4{X:Cx}:oU X (l3 .Mult) (Uq X.K):=by
 intro J s σ H x y v u Q I W Y h;obtain⟨l,k,C,rfl,rfl,O,M,N,p,q⟩:=h;cases W;refine Ù u Y λt=>?_
 have w:iN C<=bM/\∃(b:List á)(n:Nat),fX C b/\iN C=iN b/\s.heap.get? l=wz { cls:=fx "list",data:=Fr (aPe b) n }:=by
  rcases O with h | ⟨o,b,n,P,E,⟨hd,j⟩,G,p,r⟩
  .exact Î (h.ok I.gs) λz b n r e=>#[z,b,n,r,r.length,e]
  .have e:=I.kIn l o P;obtain⟨oc,od,S,os⟩:=o;dsimp only at E hd j G;subst E hd j G;exact#[by have:=r.length;simp only[eY]at this;lia,aO6 b,n,r,r.length,Á e]
 refine Î w λz b n r ψ=>Ì ψ λR e=>?_;have g:dl b.toArray*Ă k<=bM:=by rw[bP,<- R];exact p
 have d:¬dl b.toArray*Ă k>(2^63-1) / 8:=by
  have:(bM:Nat)<=(2^63-1) / 8:=by decide
  lia
 have f:¬(!Builtin.List.listFitsIndex k)=true:=by
  rw[fitsIndex_both M N];exact bS
 have c:¬o8 (dl b.toArray*Ă k)=true:=by
  rw[OU g];exact bS
 have i:Y4 (λA B=>A++B) (Ŭ []) (dW (if b.toArray.isEmpty=ww then 0 else Ă k) (aPe b))=(dW (Ă k) b).flatten.toArray:=by
  have L:∀m:Nat,Y4 (λA B=>A++B) (Ŭ []) (dW m (aPe b))=(dW m b).flatten.toArray:=λm=>by
   have:=KL b m [];rw[rR]at this;exact this
  rw[L]
  cases b with
  |nil=>simp
  |cons a r'=>rw[a9 dN]
 refine wpAny_binaryOp_repeat_ref (T:="list") (U:="int") cS #[Ϙ,_,e,1] (λZ=>jj Z k t) noFill_list_mul F.fills_int_mul F.slot_int_rmul repeat_list F.slot_int_index.lookup
  (t5 F.slot_int_rmul (jj s k t) F.entry_int_rmul (F.args_int_rmul_2 _ _) (int___rmul___int_list k t l (aPe b) n)
   #[e,1,#[Ϙ,_,e,1],t5 F.slot_list_mul #[Ϙ,_,e,1] F.entry_list_mul (F.args_list_mul_2 _ _) (AutoListH.list___mul___list_int_3 l (aPe b) n k t f d c) #[e,2]])
 rw[i];exact#[ϛ,.ref _,_,I.lnew (t':=s.toks) (r.rep (Ă k)) (by rw[aHj,kP];exact p),1,q _ I.fresh]
section
variable{X:Cx}
def Ih(K:aH):ű:=λa H Q=>∃p b,a=[.ref p,.ty "tuple"]/\tV K H p b/\Q (.bl ww) H
def X2:lW X (mt "isinstance") (Ih X.K):=by
 intro b s n H l k Q I r h;let p m y e q:=Ø h;subst y;let u w y i a:=Ø (TQ r);subst y;cases a;cases i;exact Õ (I.tuple e) λf _ g _=>Õ g λo d c _=>YY PySem.W.kitx_tuple I.kIn #[o,d,c] ((TL.XE _ "tuple" dN).trans eH) (λz=>nomatch z) λj=>#[ϛ,.bl ww,H,I.Ĭ j,1,q]
end
end L2
namespace TL
open L2
section
variable{X:Cx}{e:æ}{a:ET}{pos:Pos}
def Qj(a:ET):ET:=λc Q=>a c λd=>∃b,d=cN b/\Q (QM ww)
def aId(f:eX X e a)(i:∀{v:TE},PE X e v->PE X (ă g1 [e,g2] [] pos) (YO (Ih X.K) (vX v (vX (tC (.ty "tuple")) IN)))):eX X (ă g1 [e,g2] [] pos) (Qj a):=Ê f λv j re=>by
 refine#[Ϙ,_,i j,λB g H l b p Q r o h k=>re B g H l b p _ _ o h λd x c n m q1=>?_];obtain⟨t,rfl,q1⟩:=q1
 cases m with
 |tuple q s=>exact#[ϛ,31,bJ.Ő cH q,k _ _ c n (.bool _) q1]
end
def zc{X:Cx}{F:vS}{e:æ}{a:List æ}{x:â}{pos p:Pos}{k n:Nat}{pn:List â}{g:zD F}{t:AZ F}{st}{D:Df X.K X.mg x st pn}(H:Fj X.prog X.w X.base D k (kE X.K g))(q:iL n X.A)(i:V3 X (e::a) t)(o:k<=n|>Ū)
  (l:Gl X x|>ũ) (b:Ů x|>Ū) (j:bR (e::a) X.ak=(wv,è e X.ak)::bR a X.ak|>ũ) (c:(j7 pos (bR a X.ak)).any (·.1)=false|>ũ):xU X (ă (KK x p) (e::a) [] pos) (Ja g t):=
 aH9 (k:=k) (f:=NL X.mg x) (fd:=PM X.K (NL X.mg x)) (pn:=pn) i λh=>rE H (q.ko o) l D.m D.k D.d tj jN h b j c
theorem aIu:f6 "dict"=wz (fx "dict"):=cR
def Qk(c d:ET):ET:=λb Q=>c b λx=>∃a,x=eE a/\iN a<=1000/\d b λy=>∃n:Int,y=aW n/\0<=n/\n<=1000/\Q (eE (dW (Ă n) a).flatten)
theorem aIc(h:eX X a ta)(m:eX X e te):eX X (.BinOp a .Mult e pos) (Qk ta te):=Ê h λv p r=>Ê m λM t re=>by
 refine#[Ϙ,_,OJ aG4 p t,λB i H j c l Q C o h k=>r B i H j c l _ _ o h λd x z g u q1=>?_];obtain⟨E,rfl,K,q1⟩:=q1
 cases u with
 |@list p xs _ hp rs=>
 have J:=rs.length;let d y A f w q2:=re B i _ j c l _ _ (o.fz g) q1;let n Z F G q:=ó q2;subst Z;cases w;refine#[p,n,xs,7,bJ.seq (λa o h=>f a o (cH _ _ h)) hp,662,λL b=>?_]
 .have:iN xs*Ă n<=1000*1000:=iV cT ŋ;have I:bM=2^24:=rfl;exact ŀ
 .have s:=(o.fz g).fz f;exact k _ _ _ (g.trans (f.trans (dZ b))) (yG s.bu b ((rs.same (bU f)).rep (Ă n))) q
section
variable{X:Cx}{f:á->á->Sem á}{r c:R2}{g d:ų}
def Ed(r c:R2):R2:=λx y H Q=>r x y H Q\/c x y H Q
def pC(h:oU X f r)(j:oU X f c):oU X f (Ed r c):=λa s i H x y v u Q I b e z=>z.elim (h a s i H x y v u Q I b e) (j a s i H x y v u Q I b e)
def zy(g d:ų)(x y:D)(Q:D->Prop):Prop:=g x y Q\/d x y Q
def wF(h:AN X r g)(j:AN X c d):AN X (Ed r c) (zy g d):=λH i a b x y Q e l p q z k=>z.elim (λz=>j3 (h H i a b x y Q e l p q z k)) λz=>i7 (j H i a b x y Q e l p q z k)
end
end TL
namespace K93
open L2 TL
def top(i:Nat):Stmt:=PySem.Challenge.pw_leafjudge_k93_whole_a_desk.main.body.getD i (.Pass #[(0),(0),(0),(0)])
structure Ez(K:aH)(c j:à):Prop where
 X:sN K c
 R:Et K c
 j:pI K (.ref c) (.ref j)=wz ww
structure Ay where
 (a b c d e f g h i j k l m n o p q r s t u:à)(v w x y z:Tok)
structure Cz(K:aH)(mg:â->Option á)(ŧ:Ay):Prop where
 x_JudgeError:mg "JudgeError"=wz (.ref ŧ.a)
 x_TooMany:mg "TooMany"=wz (.ref ŧ.b)
 x_NoRow:mg "NoRow"=wz (.ref ŧ.c)
 x_NoSuch:mg "NoSuch"=wz (.ref ŧ.d)
 x_NoLine:mg "NoLine"=wz (.ref ŧ.e)
 ĝ:Ez K ŧ.c ŧ.a
 E_NoSuch:Ez K ŧ.d ŧ.a
 ĕ:Ez K ŧ.b ŧ.a
 q_NoRow_NoSuch:eM K (.ref ŧ.c) (.ref ŧ.d)=wz wv
 q_NoRow_NoLine:eM K (.ref ŧ.c) (.ref ŧ.e)=wz wv
 q_NoSuch_NoRow:eM K (.ref ŧ.d) (.ref ŧ.c)=wz wv
 q_NoSuch_NoLine:eM K (.ref ŧ.d) (.ref ŧ.e)=wz wv
 Ě:eM K (.ref ŧ.b) (.ref ŧ.d)=wz wv
 q_TooMany_NoRow:eM K (.ref ŧ.b) (.ref ŧ.c)=wz wv
 ę:eM K (.ref ŧ.b) (.ref ŧ.e)=wz wv
structure Txt(K:aH)(mg:â->Option á)(ŧ:Ay)(o6 af:à):Prop extends Cz K mg ŧ where
 x_Book:mg "Book"=wz (.ref o6)
 gb:DK K o6
 K_Book:Mk K o6 ŧ.k
 ĺ:gA K o6 "form"
 Ĕ:gA K o6 "deep"
 Ģ:gA K o6 "least"
 jr:gA K o6 "numbered"
 ŉ:gA K o6 "following"
 r8:gA K o6 "standing"
 M_6:zG K o6 "put" ŧ.l
 M_7:zG K o6 "out" ŧ.m
 M_8:zG K o6 "turn" ŧ.n
 M_9:zG K o6 "rows" ŧ.o
 M_10:zG K o6 "tree" ŧ.p
 M_11:zG K o6 "refuse_no_row" ŧ.q
 M_12:zG K o6 "refuse_no_number" ŧ.r
 M_13:zG K o6 "grow_anew" ŧ.s
 x_Desk:mg "Desk"=wz (.ref af)
 kq:DK K af
 K_Desk:Mk K af ŧ.f
 kt:gA K af "form"
 ju:gA K af "book"
 M_1:zG K af "say" ŧ.g
 M_2:zG K af "done" ŧ.h
 M_3:zG K af "told_of_book" ŧ.i
 M_4:zG K af "told_of_case" ŧ.j
 D_0:Dg K "__init__" "Desk.__init__" (iK (top 75) 0) ŧ.f ["self","form","deep","least"]
 D_1:Dg K "say" "Desk.say" (iK (top 75) 1) ŧ.g ["self","text"]
 D_2:Dg K "done" "Desk.done" (iK (top 75) 2) ŧ.h ["self","words"]
 D_3:Dg K "told_of_book" "Desk.told_of_book" (iK (top 75) 3) ŧ.i ["self","word"]
 D_4:Dg K "told_of_case" "Desk.told_of_case" (iK (top 75) 4) ŧ.j ["self","word","case"]
 D_5:Dg K "__init__" "Book.__init__" (iK (top 49) 0) ŧ.k ["self","form","deep","least"]
 D_6:Dg K "put" "Book.put" (iK (top 49) 1) ŧ.l ["self","row"]
 D_7:Dg K "out" "Book.out" (iK (top 49) 2) ŧ.m ["self","number"]
 D_8:Dg K "turn" "Book.turn" (iK (top 49) 3) ŧ.n ["self","number","row"]
 D_9:Dg K "rows" "Book.rows" (iK (top 49) 4) ŧ.o ["self"]
 D_10:Dg K "tree" "Book.tree" (iK (top 49) 5) ŧ.p ["self"]
 D_11:Dg K "refuse_no_row" "Book.refuse_no_row" (iK (top 49) 6) ŧ.q ["self","thing"]
 D_12:Dg K "refuse_no_number" "Book.refuse_no_number" (iK (top 49) 7) ŧ.r ["self","number"]
 D_13:Dg K "grow_anew" "Book.grow_anew" (iK (top 49) 8) ŧ.s ["self"]
 D_14:Df K mg "is_tuple_of" (top 8) ["thing","fewest","most"]
 D_15:Df K mg "is_case" (top 10) ["form","thing"]
 Ĝ:Df K mg "is_row" (top 11) ["form","thing"]
 D_17:Df K mg "entries_of" (top 12) ["field"]
 D_18:Df K mg "counted" (top 14) ["form","rows"]
 D_19:Df K mg "first_answer" (top 15) ["form","rows"]
 D_20:Df K mg "doubt_of" (top 16) ["form","rows"]
 D_21:Df K mg "fraction" (top 17) ["top","bottom"]
 D_22:Df K mg "common_divisor" (top 18) ["one","other"]
 D_23:Df K mg "added" (top 19) ["one","other"]
 D_24:Df K mg "is_less" (top 20) ["one","other"]
 D_25:Df K mg "common_bottom" (top 21) ["fractions"]
 D_26:Df K mg "questions_of" (top 24) ["form"]
 D_27:Df K mg "questions_on" (top 25) ["field"]
 D_28:Df K mg "choices_of" (top 26) ["form"]
 D_29:Df K mg "side_of" (top 27) ["form","question","stray","case"]
 D_30:Df K mg "field_asked" (top 28) ["form","question"]
 D_31:Df K mg "entries_to_yes" (top 29) ["question","stray","field"]
 D_32:Df K mg "values_held" (top 30) ["question","field"]
 D_33:Df K mg "parted" (top 31) ["form","question","stray","rows"]
 D_34:Df K mg "numbers_on" (top 32) ["side","sides"]
 D_35:Df K mg "is_proper" (top 33) ["sides","fewest"]
 D_36:Df K mg "ranked" (top 35) ["form","rows","least"]
 D_37:Df K mg "rows_at" (top 36) ["rows","numbers"]
 D_38:Df K mg "best" (top 37) ["form","rows","least"]
 D_39:Df K mg "grown" (top 38) ["form","rows","deep","least"]
 D_40:Df K mg "is_leaf" (top 40) ["tree"]
 D_41:Df K mg "on_side" (top 41) ["knot","side"]
 D_42:Df K mg "knots_in" (top 42) ["tree"]
 D_43:Df K mg "way_of" (top 43) ["form","tree","case"]
 D_44:Df K mg "sides_of_way" (top 44) ["form","tree","case"]
 D_45:Df K mg "answer_of" (top 45) ["form","tree","case"]
 D_46:Df K mg "part_at" (top 46) ["tree","place"]
 D_47:Df K mg "changed" (top 50) ["one","other"]
 D_48:Df K mg "cost_of" (top 52) ["form","tree","rows","prices"]
 D_49:Df K mg "first_leaf" (top 54) ["form","rows"]
 D_50:Df K mg "rows_on_sides" (top 55) ["form","knot","rows"]
 D_51:Df K mg "prices_at" (top 56) ["price"]
 D_52:Df K mg "least_pruning" (top 57) ["form","tree","rows","price"]
 D_53:Df K mg "least_with_cost" (top 58) ["form","tree","rows","prices"]
 D_54:Df K mg "steps" (top 59) ["form","tree","rows"]
 D_55:Df K mg "next_price" (top 60) ["form","tree","rows"]
 D_56:Df K mg "slips_and_prices" (top 61) ["form","tree","rows"]
 D_57:Df K mg "rules_of" (top 64) ["form","tree"]
 D_58:Df K mg "whole_lets" (top 65) ["form"]
 D_59:Df K mg "rules_within" (top 66) ["form","tree","lets"]
 D_60:Df K mg "with_let" (top 67) ["lets","number","let"]
 D_61:Df K mg "shown_tree" (top 69) ["tree"]
 D_62:Df K mg "is_line" (top 76) ["words"]
 D_63:Df K mg "is_number" (top 77) ["word"]
 D_64:Df K mg "row_written" (top 78) ["words"]
 D_65:Df K mg "case_written" (top 79) ["words"]
 D_66:Df K mg "shown_entry" (top 80) ["entry"]
 D_67:Df K mg "shown_rows" (top 81) ["rows"]
 D_68:Df K mg "shown_turn" (top 82) ["question","side"]
 D_69:Df K mg "shown_rule" (top 83) ["form","rule"]
 D_70:Df K mg "shown_let" (top 84) ["field","let"]
 D_71:Df K mg "shown_step" (top 85) ["price","tree"]
 D_72:Df K mg "_law_mix" (top 87) ["_law_cell","_law_k"]
 D_73:Df K mg "_law_cell_at" (top 88) ["_law_script","_law_k"]
 D_74:Df K mg "_law_drawn" (top 89) ["_law_cell","_law_many"]
 D_75:Df K mg "_law_names" (top 90) ["_law_drawn_here","_law_at","_law_many"]
 D_76:Df K mg "_law_form" (top 91) ["_law_script"]
 D_77:Df K mg "_law_case" (top 92) ["_law_form_here","_law_bits"]
 D_78:Df K mg "_law_row" (top 93) ["_law_form_here","_law_bits"]
 D_79:Df K mg "_law_side" (top 94) ["_law_form_here","_law_question","_law_stray","_law_case_here"]
 D_80:Df K mg "_law_choose" (top 95) ["_law_form_here"]
 D_81:Df K mg "_law_first" (top 96) ["_law_form_here","_law_rows"]
 D_82:Df K mg "_law_doubt" (top 97) ["_law_form_here","_law_rows"]
 D_83:Df K mg "_law_parts" (top 98) ["_law_form_here","_law_question","_law_stray","_law_rows"]
 D_84:Df K mg "_law_top" (top 99) ["_law_form_here","_law_rows","_law_few"]
 D_85:Df K mg "_law_grown" (top 100) ["_law_form_here","_law_rows","_law_deep","_law_few"]
 D_86:Df K mg "_law_words" (top 101) ["_law_tree"]
 D_87:Df K mg "_law_value" (top 102) ["_law_value_here"]
 D_88:Df K mg "_law_row_words" (top 103) ["_law_row_here"]
 D_89:Df K mg "_law_rows_text" (top 104) ["_law_rows"]
 D_90:Df K mg "_law_way_text" (top 105) ["_law_form_here","_law_tree","_law_case_here"]
 D_91:Df K mg "_law_rules_text" (top 106) ["_law_form_here","_law_tree"]
 D_92:Df K mg "_law_knots" (top 107) ["_law_tree"]
 D_93:Df K mg "_law_steps_text" (top 108) ["_law_form_here","_law_tree","_law_rows"]
 D_94:Df K mg "_law_heard" (top 109) ["_law_desk","_law_text"]
 D_95:Df K mg "_law_row_said" (top 110) ["_law_rows","_law_given","_law_more","_law_row_here"]
 D_96:Df K mg "_law_asked" (top 111) ["_law_form_here","_law_tree","_law_rows","_law_more","_law_case_here"]
 D_97:Df K mg "_law_crowded" (top 112) ["_law_script","_law_form_here"]
 D_law:Df K mg "law" (top 113) ["_law_script"]
 c_SIDES:mg "SIDES"=wz (.ref ŧ.t)
 t_SIDES:yw K ŧ.t ["yes","no"]
 ē:mg "MOST_ROWS"=wz (.int 60 ŧ.v)
 c_MOST_RULES:mg "MOST_RULES"=wz (.int 60 ŧ.w)
 c_FIGURES:mg "FIGURES"=wz (.str "0123456789" ŧ.x)
 c_MOST_FIGURES:mg "MOST_FIGURES"=wz (.int 9 ŧ.y)
 ľ:mg "SINGLE_WORDS"=wz (.ref ŧ.u)
 Ń:yw K ŧ.u ["tree","rows","rules","steps"]
 c_LACKING:mg "LACKING"=wz (.str "-" ŧ.z)
 L_36:HX K (PM K (NL mg "ranked")).code
 b_ValueError:mg "ValueError"=wx
 b_all:mg "all"=wx
 b_dict:mg "dict"=wx
 b_enumerate:mg "enumerate"=wx
 Ĩ:mg "int"=wx
 ń:mg "isinstance"=wx
 b_len:mg "len"=wx
 b_list:mg "list"=wx
 b_max:mg "max"=wx
 b_min:mg "min"=wx
 ś:mg "range"=wx
 ĭ:mg "sorted"=wx
 b_str:mg "str"=wx
 b_sum:mg "sum"=wx
 ň:mg "tuple"=wx
 b_zip:mg "zip"=wx
abbrev Fs:=List (â×List â)
def hX:Str:="abcdefghijklmnopqrstuvwxyz"
def Bb(c:Nat):Bool:=Txt.contains hX #[(Ŭ [c])]
def sT(z:â):Bool:=decide (1<=v0 z)&&decide (v0 z<=8)&&z.cps.toList.all Bb
def nm:D->Bool
|aG z=>sT z
|_=>wv
def CB(d:D)(lo a:Int):Bool:=match d with | cN ts=>decide (lo<=iN ts)&&decide ((iN ts:Int)<=a) | _=>wv
def Md:D->â
|aG z=>z
|_=>""
def Mw(d:D)(lo a:Int):Bool:=match d with | cN ts=>decide (lo<=iN ts)&&decide ((iN ts:Int)<=a)&&ts.all nm&&decide (aYv (ts.map Md)) | _=>wv
def fld:D->Bool
|cN [n,vs]=>nm n&&Mw vs 2 5
|_=>wv
def fst:D->D
|cN (n::_)=>n
|_=>ES
def Ww:kK:=λc Q=>∃(b:List D)(lo a:Int),c=[cN b,aW lo,aW a]/\Q (QM (CB (cN b) lo a))
def Iw:kK:=λa Q=>∃c k:Int,a=[aW c,aW k]/\0<=k/\k<1000/\∀r:Int,0<=r->r<2147483647->Q (aW r)
def Yw:kK:=λa Q=>∃(ns:List Int)(k:Int),a=[eE (ns.map aW),aW k]/\iN ns<=63/\0<=k/\k<1000/\∀r:Int,Q (aW r)
def AO(n:Nat)(bs:List Int):Prop:=iN bs=n/\∀b∈bs,0<=b/\b<4096
def Yx:kK:=λa Q=>∃(c:Int)(n:Nat),a=[aW c,aW n]/\n<=100/\∀bs,AO n bs->Q (eE (bs.map aW))
def P9(n:Nat)(a:List â):Prop:=iN a=n/\(∀y∈a,sT y=ww)/\aYv a
def Yy:kK:=λb Q=>∃(bs:List Int)(n m k:Nat),b=[eE (bs.map aW),aW k,aW m]/\AO n bs/\k+11<=n/\n<=100/\m<=8/\∀a,P9 m a->Q (cN (a.map aG))
def nF(f:â×List â):D:=cN [aG f.1,cN (f.2.map aG)]
def dQ(fs:Fs)(an:List â):D:=cN [cN (fs.map nF),cN (an.map aG)]
structure dY(fs:Fs)(an:List â):Prop where
 n1:1<=fs.length
 n5:fs.length<=5
 nd:P9 fs.length (fs.map (·.1))
 vs:∀f∈fs,2<=f.2.length/\f.2.length<=5/\P9 f.2.length f.2
 a2:2<=an.length
 a4:an.length<=4
 an:P9 an.length an
 n3:fs.length<=3
structure aEu(fs:Fs)(an:List â):Prop where
 n1:1<=fs.length
 n5:fs.length<=5
 nd:P9 fs.length (fs.map (·.1))
 vs:∀f∈fs,2<=f.2.length/\f.2.length<=5/\P9 f.2.length f.2
 a2:2<=an.length
 a4:an.length<=4
 an:P9 an.length an
def Yz:kK:=λa Q=>∃ns:List Int,a=[eE (ns.map aW)]/\iN ns<=63/\∀fs an,aEu fs an->Q (dQ fs an)
theorem xP{c:Type}{xs:List c}{i:Int}(d:0<=i)(e:i<iN xs):∃a,a∈xs/\L2.y0 xs i=wz a/\xs[Ă i]?=wz a:=by
 have b:Ă i<iN xs:=by lia
 refine#[ϙ,xs[Ă i],fC b,2,aC b];have:=L2.dU (aC b)
 rwa [show((Ă i:Nat):Int)=i by lia]at this
def jL{bs:List Int}{n:Nat}{i:Int}(hb:AO n bs)(d:0<=i)(e:i<n):∃b,0<=b/\b<4096/\L2.y0 (bs.map aW) i=wz (aW b):=by
 refine Õ (xP (xs:=bs.map aW) (i:=i) d (by rw[aB,hb.1];exact e)) λa g f _=>Ê (aM.mp g) λb c z=>?_;subst z;exact#[b,(hb.2 b c).1,(hb.2 b c).2,f]
def jD(n:Nat):iN (eL n)=n:=by unfold eL;simp
def iA{n k:Nat}(h:(eL n)[k]?=wz x):k<n/\x=aW k:=by
 unfold eL at h;rw[aK]at h;by_cases a:k<n
 .rw[mD a]at h;cases h;exact#[a,1]
 .rw[eW (Á a)]at h;cases h
theorem qW{b:Type}(a:List b)(j:Nat):iB a wx (wz (j:Int))=a.take j:=by
 unfold iB;rw[HT.ģ,HT.sIx_nat,zQ,xZ];by_cases h:j<=iN a
 .rw[yX h]
 .rw[IB cT,cK,kL cT]
theorem tK{b:Type}(a:List b)(i:Nat):iB a (wz (i:Int)) wx=a.drop i:=by
 unfold iB;rw[HT.ģ,HT.sIx_nat];by_cases h:i<=iN a
 .rw[yX h,kL (by rw[dA];lia)]
 .rw[IB cT,pT (aL _),pT cT];simp
theorem aOm{f:Type}(b:List f)(i j:Nat):iB b (wz (i:Int)) (wz (j:Int))=(b.drop i).take (j-i):=by
 unfold iB;rw[HT.sIx_nat,HT.sIx_nat];apply nU;intro k;rw[oX,oX,mS,mS];by_cases d:i<=iN b
 .rw[yX d];by_cases e:j<=iN b
  .rw[yX e]
  .rw[IB cT];by_cases c:k<iN b-i
   .rw[b8 c,b8 Ŋ]
   .rw[a9 c];by_cases a:k<j-i
    .rw[b8 a,eW cT]
    .rw[a9 a]
 .rw[a9 ŋ];by_cases a:k<j-i
  .rw[b8 a,eW cT]
  .rw[a9 a]
def jP{c d:Type}(f:c->d)(b:List c)(lo a:Option Int):iB (b.map f) lo a=(iB b lo a).map f:=by
 unfold iB;rw[aB,CA,List.map_drop]
def Kt{z:â}(a:1<=iN z.cps.toList)(b:iN z.cps.toList<=8)(d:∀c∈aO6 z.cps,c∈aO6 hX.cps):sT z=true:=by
 have e:v0 z=iN z.cps.toList:=by simp[v0]
 unfold sT;rw[e,c6 a,c6 b];simp only[CG,fT];intro c f;unfold Bb;rw[Kr];exact c6 (d c f)
def BF{z:â}(h:sT z=ww):1<=v0 z/\v0 z<=8/\∀c∈aO6 z.cps,c∈aO6 hX.cps:=by
 unfold sT at h;simp only[dE,e8,fT]at h;refine#[h.1.1,h.1.2,λc a=>?_];have:=h.2 c a;unfold Bb at this;rw[Kr]at this;exact c8 this
theorem nodup_range{f:Type}{n:Nat}(F:Nat->f)(inj:∀i j,i<n->j<n->F i=F j->i=j):aYv ((eZ n).map F):=by
 rw[aYv,pR];have:aYv (eZ n):=List.nodup_range;refine CC.imp_of_mem (λ{a b} d hb c e=>?_) this;exact c (inj a b (Á d) (Á hb) e)
theorem Rc{a:List â}(h:P9 8 a)(t:Nat){m:Nat}(d:m<=8):P9 m ((a.drop t++a.take t).take m):=by
 have b:(a.drop t++a.take t).Perm a:=by
  have:(a.take t++a.drop t).Perm a:=by rw[List.take_append_drop]
  exact List.perm_append_comm.trans this
 refine#[2,λy c=>h.2.1 y (b.mem_iff.mp (eG c)),(b.nodup_iff.mpr h.2.2).sublist (EB _ _)];rw[bB,b.length_eq,h.1];lia
theorem R4:aYv hX.cps.toList:=cR
theorem O1:iN hX.cps.toList=26:=cR
def Kx:List Str:=["say","ask","is","upto","yes","no","all","in"]
theorem Ob:P9 8 Kx:=#[1,cR,cR]
def aHf{a:List Nat}(nd:aYv a){i j:Nat}{c:Nat}(d:a[i]?=wz c)(e:a[j]?=wz c):i=j:=Ë (aD.mp d) λf a2=>Ë (aD.mp e) λg b=>(aFc nd).mp (a2.trans b.symm)
theorem N8:∀{ys},(∀y∈ys,∃c,c∈aO6 hX.cps/\y=aG #[(Ŭ [c])])->∃a:List Nat,ys=a.map (λc=>aG #[(Ŭ [c])])/\∀c∈a,c∈aO6 hX.cps
|[],_=>#[[],1,λc h=>by simp at h]
|y::ys,h=>Ë (h y (aJ ..)) λc z=>ñ y z λe=>Þ ys (N8 λy f=>h y (aE _ f)) λa b=>by
 refine#[c::a,1,λd hd=>?_];rcases aN.mp hd with rfl | hd
 .exact e
 .exact b d hd
def G2(a:List Nat):(Txt.join #[(Ŭ [])] (a.map λc=>#[(Ŭ [c])])).cps.toList=a:=by
 rw[SE,bH]
 induction a with
 |nil=>rfl
 |cons c a b=>rw[aX,jY,b];rfl
def By{xs:List Int}{lo hi:Int}(h:∀x∈xs,lo<=x/\x<=hi){i:Int}(c:0<=i)(d:i<iN xs):∃m,lo<=m/\m<=hi/\L2.y0 (xs.map aW) i=wz (aW m):=by
 refine Õ (xP (xs:=xs.map aW) c (by rw[aB];exact d)) λa f e _=>Ê (aM.mp f) λb hb z=>?_;subst z;exact#[b,(h b hb).1,(h b hb).2,e]
def aEg{a:List â}{k:Nat}(h:k<iN a):L2.y0 (a.map aG) (k:Int)=wz (aG a[k]):=L2.dU (by rw[aK,aC h];rfl)
def UX(f:â×List â)(d:D):Bool:=match d with | ES=>ww | aG z=>decide (z∈f.2) | _=>wv
def zK(an:List â)(d:D):Bool:=match d with | aG z=>decide (z∈an) | _=>wv
structure Cd(d:D):Prop where
 lay:d.canLay0=ww
 jq:d.depth<=60
structure Th(n m:Nat)(d:D):Prop where
 bulk:d.bulk<=n
 fit:d.leavesShort 110=ww
 shw:d.showable=ww
 Ę:d.hasDict=wv
 depth:d.depth<=m
 lay:d.canLay0=ww
theorem zU{n m:Nat}:∀{b:List D},(∀t∈b,Th n m t)->IF b<=iN b*(n+1)/\QE 110 b=ww/\V6 b=ww/\nH b=wv/\fH b<=m/\dH b=ww
|[],_=>#[bZ _,17,bZ _,1]
|t::b,h=>by
 have a:=h t (aJ ..);refine Û (zU λx i=>h x (aE _ i)) λj c d e f g=>#[222222]
 .show t.bulk+1+IF b<=(iN b+1)*(n+1);have:=a.bulk;rw[uZ,aYt];lia
 .show(t.leavesShort 110&&QE 110 b)=ww;rw[a.fit,c];rfl
 .show(t.showable&&V6 b)=ww;rw[a.shw,d];rfl
 .show(t.hasDict||nH b)=wv;rw[a.Ę,e];rfl
 .exact Nat.max_le.mpr #[a.depth,f]
 .show(t.canLay0&&dH b)=ww;rw[a.lay,g];rfl
theorem wM(n m k:Nat){N M:Nat}{a:List D}(h:∀t∈a,Th n m t)(f:iN a<=k)(l:k*(n+1)<=N)(j:m+1<=M):Th N M (cN a):=Û (zU h) λg b c d i e=>by have:iN a*(n+1)<=k*(n+1):=Nat.mul_le_mul_right _ f;exact#[by show IF a<=N;grind,b,c,d,by show fH a+1<=M;exact tU ‹_› ‹_›,e]
def EY{n m:Nat}:Th n m ES:=#[bZ _,17,bZ _,1]
theorem wP{z:â}(b:∀c∈aO6 z.cps,c<1000):aLj z=true:=by
 unfold aLj;rw[<- aE6,fT];intro c a;have:=b c a;exact c6 ŀ
theorem aLx{n m:Nat}{z:â}(h:v0 z<=n)(a:∀c∈aO6 z.cps,c<1000):Th n m (aG z):=by
 refine#[h,27,bZ _,wP a];show(z.cps.toList.all λc=>decide (c<16^8))=ww;rw[fT];intro c b;have:=a c b;exact c6 ŀ
theorem XD{c:Nat}(h:c∈aO6 hX.cps):c<128:=by
 have:∀c∈aO6 hX.cps,c<128:=cR
 exact this c h
def uI{y:â}(h:sT y=ww):v0 y<=8/\∀c∈aO6 y.cps,c<128:=#[(BF h).2.1,λc a=>XD ((BF h).2.2 c a)]
theorem kQ(h:sT y=ww){n m:Nat}(b:8<=n):Th n m (aG y):=aLx (aR (uI h).1 b) λc a=>by have:=(uI h).2 c a;exact ŀ
def A0{a:List â}(h:∀y∈a,sT y=ww){n m:Nat}(b:8<=n):∀t∈a.map aG,Th n m t:=λt c=>É t (aM.mp c) λy d=>kQ (h y d) b
def B7{n m:Nat}:∀t∈([]:List D),Th n m t:=λt h=>by simp at h
def all_cons{n m:Nat}(h:Th n m a)(b:∀t∈ts,Th n m t):∀t∈a::ts,Th n m t:=λt ht=>by
 rcases aN.mp ht with rfl | ht
 .exact h
 .exact b t ht
def aIz{n m:Nat}{a bs:List D}(h:∀t∈a,Th n m t)(b:∀t∈bs,Th n m t):∀t∈a++bs,Th n m t:=λt c=>(bK.mp c).elim (h t) (b t)
theorem VS{c:Type}(a:List c)(lo b:Option Int):iN (iB a lo b)<=iN a:=by
 unfold iB;rw[bB,dA];lia
def Th.cd{n m:Nat}(h:Th n m d)(a:m<=60):Cd d:=#[h.lay,aR h.depth a]
theorem U9:∀{ts}{t:D},dH ts=ww->t∈ts->t.canLay0=ww
|a::r,t,h,hm=>by
 have b:(a.canLay0&&dH r)=true:=h;rw[dE]at b;rcases aN.mp hm with rfl | hm
 .exact b.1
 .exact U9 b.2 hm
theorem KZ:∀{ts}{t:D},t∈ts->t.depth<=fH ts
|a::r,t,hm=>by
 rcases aN.mp hm with rfl | hm
 .exact sR _ _
 .exact aR (KZ hm) (qY _ _)
theorem Cd.item(h:Cd (cN ts))(a:t∈ts):Cd t:=#[U9 h.lay a,by
 have b:fH ts+1<=60:=h.jq;have:=KZ a;lia]
section
variable{fs:Fs}{an:List â}
def dY.name(F:dY fs an){f:â×List â}(h:f∈fs):sT f.1=true:=F.nd.2.1 _ (aM.mpr #[f,h,1])
def dY.Ŗ(F:dY fs an){f:â×List â}(h:f∈fs):∀y∈f.2,sT y=true:=(F.vs f h).2.2.2.1
end
def BR{Q:D->Prop}(a:C2 x (cN ts))(b:Q (QM (IV x (cN ts)))):Bm x (cN ts) Q:=by
 cases x<;>exact#[a,b]
def aDh{Q:D->Prop}(a:C2 x (eE ts))(b:Q (QM (IV x (eE ts)))):Bm x (eE ts) Q:=by
 cases x<;>exact#[a,b]
def B6(d:D)(a:List â):((a.map aG).any λz=>dG z d)=zK a d:=by
 induction a with
 |nil=>cases d<;>rfl
 |cons y a b=>
  rw[aX,lN,b]
  cases d with
  |str z=>
   show((y==z)||decide (z∈a))=decide (z∈y::a);rw[eR];simp only[rT,eg,e8,aN];exact#[λh=>h.imp ii id,λh=>h.imp ii id]
  |_=>rfl
def SI(f:â×List â)(d:D):IV d (cN (f.2.map aG++[ES]))=UX f d:=by
 show((f.2.map aG++[ES]).any λz=>dG z d)=UX f d;rw[aI9,B6];cases d<;>simp[zK,UX,dG]
theorem MD{a:List â}(h:∀y∈a,sT y=ww)(hd:Cd d):C2 d (cN (a.map aG)):=Û (zU (A0 h (aL 8) (m:=0))) λ_ _ _ _ c b=>#[b,hd.lay,by have:=hd.jq;lia]
theorem GI{a:List â}(h:∀y∈a,sT y=ww){d:D}(hd:Cd d):C2 d (cN (a.map aG++[ES])):=Û (zU (aIz (A0 h (aL 8) (m:=0)) (all_cons EY B7))) λ_ _ _ _ c b=>#[b,hd.lay,by have:=hd.jq;lia]
theorem FD:∀{a:List â}{z}{m:Nat},m<a.idxOf z->a[m]?≠wz z
|[],z,m,h=>by simp at h
|y::a,z,m,h=>by
 rw[List.idxOf_cons]at h;by_cases e:y=z
 .subst e;simp at h
 .have b:(y==z)=false:=Á e
  rw[b]at h;simp only[cond_false]at h
  cases m with
  |zero=>simpa using e
  |succ m=>
   rw[pK];exact FD (Nat.le_of_lt_succ ‹_›)
def Z4{t:FT}{a:List Sl}{i:Nat}(b:List D)(h:∀q:List D->Prop,q b->t a q)(k:u DT (a.set i (.own b))):jH (UC i t) u DT a:=h _ k
def fY(fs:Fs)(d:D):Bool:=match d with | cN ts=>decide (iN ts=iN fs)&&(fs.zip ts).all (λp=>UX p.1 p.2) | _=>wv
def YP:kK:=λb Q=>∃(fs:Fs)(an:List â)(bs:List Int)(n:Nat),b=[dQ fs an,eE (bs.map aW)]/\dY fs an/\AO n bs/\8<=n/\∀a,fY fs (cN a)=ww->Q (cN a)
def Za:kK:=λc Q=>∃(fs:Fs)(an:List â)(bs:List Int)(n:Nat),c=[dQ fs an,eE (bs.map aW)]/\dY fs an/\AO n bs/\8<=n/\∀b a,fY fs (cN b)=ww->a∈an->Q (cN [cN b,aG a])
section
variable{fs:Fs}{an:List â}
def nS{a:List D}(h:fY fs (cN a)=ww):iN a=iN fs/\∀(k:Nat) f c,fs[k]?=wz f->a[k]?=wz c->UX f c=true:=by
 unfold fY at h;simp only[dE,e8,fT]at h;refine#[h.1,λk f c b d=>?_];exact h.2 (f,c) (aU ((gU).mpr #[b,d]))
def aIq{a:List D}(g:iN a=iN fs)(h:∀(k:Nat) f c,fs[k]?=wz f->a[k]?=wz c->UX f c=ww):fY fs (cN a)=true:=by
 unfold fY;simp only[dE,e8,fT];refine#[g,λp i=>?_];exact Ë (cP i) λk e=>Ì (gU.mp e) λb d=>h k p.1 p.2 b d
def HP(F:dY fs an)(h:fY fs (cN cs)=ww){n m:Nat}(f:8<=n):∀c∈cs,Th n m c:=λc d=>Ì (nS h) λe g=>Ë (cP d) λk b=>by
 have a:k<iN fs:=by rw[<- e];exact(aD.mp b).1
 have:=g k fs[k] c (aC a) b
 cases c with
 |none=>exact EY
 |str z=>exact kQ (F.Ŗ (fC a) z (c8 this)) f
 |_=>cases this
end
def cV(r:List D×â):D:=cN [cN r.1,aG r.2]
def mG(fs:Fs)(an:List â)(r:List D×â):Prop:=fY fs (cN r.1)=ww/\r.2∈an
abbrev ž:=List (List D×â)
def eV(fs:Fs)(an:List â)(a:ž):Prop:=∀r∈a,mG fs an r
def aLy{fs}(F:dY fs an)(h:mG fs an r):Th 92 2 (cV r):=by
 exact wM 45 1 2 (all_cons (wM 8 0 5 (HP F h.1 (aL 8)) (by rw[(nS h.1).1];exact F.n5) cS cS) (all_cons (kQ (F.an.2.1 _ h.2) cS) B7)) dO cS cS
def yp(f:â×List â)(k v:D):Bool:=match k,v with
|aG kk,aG z=>decide (z∈f.2)&&(decide (kk="is")||(decide (kk="upto")&&decide (f.2.idxOf z+1<iN f.2)))
|_,_=>wv
def isN(n:D)(f:â×List â):Bool:=match n with | aG z=>decide (f.1=z) | _=>wv
def XL(fs:Fs)(d:D):Bool:=match d with
|cN [k,n,v]=>fs.any λf=>isN n f&&yp f k v
|_=>wv
def QG(k:â)(f:â×List â)(z:â):D:=cN [aG k,aG f.1,aG z]
def uH(f:â×List â):List Str:=if iN f.2=2 then f.2.take 1 else f.2
def L7(f:â×List â):List Str:=(f.2.drop 1).take (iN f.2-3)
def YR(f:â×List â):List D:=(uH f).map (QG "is" f)++(L7 f).map (QG "upto" f)
def fV(fs:Fs):List D:=(fs.map YR).flatten
def Yn:QJ:=λa Q=>∃fs an,a=[dQ fs an]/\dY fs an/\Q (fV fs)
theorem Kq{a:List â}{j:Nat}(h:a[j]?=wz z):a.idxOf z<=j:=by
 by_cases q:a.idxOf z<=j
 .exact q
 .exact c9 h (FD (Nat.not_le.mp ‹_›))
theorem Ko{f:â×List â}(h:z∈L7 f):z∈f.2/\f.2.idxOf z+1<iN f.2:=by
 unfold L7 at h;refine#[(lK (eG h)),2];let i a:=Ë (cP h);have b:=(aD.mp a).1;rw[bB,dA]at b;rw[oX,b8 cT,mS]at a;have:=Kq a;omega
def Ks{fs k}(a:f∈fs)(h:yp f (aG k) (aG z)=ww):XL fs (QG k f z)=true:=by
 show(fs.any λg=>isN (aG f.1) g&&yp g (aG k) (aG z))=ww;rw[qP];refine#[f,a,2];show(decide (f.1=f.1)&&yp f (aG k) (aG z))=ww;rw[h,c6 rfl];rfl
def HM{fs}(h:d∈fV fs):∃f∈fs,(∃z∈f.2,d=QG "is" f z)\/(∃z,z∈f.2/\f.2.idxOf z+1<iN f.2/\d=QG "upto" f z):=by
 refine Ê (List.mem_flatten.mp h) λl c hd=>Ê (aM.mp c) λf b y=>?_;subst y;refine#[f,b,2];rcases bK.mp hd with q | q
 .refine É d (aM.mp q) λz a=>j3 #[z,21];unfold uH at a;split at a
  .exact eG a
  .exact a
 .exact É d (aM.mp q) λz a=>i7 #[z,(Ko a).1,(Ko a).2,1]
def SV{fs}(h:d∈fV fs):XL fs d=true:=by
 obtain⟨f,b,⟨z,a,rfl⟩ | ⟨z,a,c,rfl⟩⟩:=HM h
 .refine Ks b ?_;show(decide (z∈f.2)&&(decide (("is":â)="is")||_))=ww;rw[c6 a];rfl
 .refine Ks b ?_;show(decide (z∈f.2)&&(decide (("upto":â)="is")||(decide (("upto":â)="upto")&&decide (f.2.idxOf z+1<iN f.2))))=ww;rw[c6 a,c6 c,c6 (rfl:("upto":â)="upto")];simp
theorem Gp:sT "is"=true:=cR
theorem U3:sT "upto"=true:=cR
def aLz{fs}(F:dY fs an){k}(b:sT k=ww){f:â×List â}(a:f∈fs)(c:z∈f.2):Th 27 1 (QG k f z):=
 wM 8 0 3 (all_cons (kQ b (aL _)) (all_cons (kQ (F.name a) (aL _)) (all_cons (kQ (F.Ŗ a z c) (aL _)) B7))) dO cS cS
theorem oP{fs}(F:dY fs an):∀a:Fs,(∀g∈a,g∈fs)->iN (fV a)<=7*iN a
|[],_=>aL _
|g::a,h=>by
 have d:=oP F a λx b=>h x (aE _ b);let z e y:=í (F.vs g (h g (aJ ..)));show((YR g::a.map YR).flatten).length<=_;rw[jY,aV]
 have c:iN (YR g)<=7:=by
  unfold YR uH L7;rw[aV,aB,aB,bB,dA];split
  .rw[bB];lia
  .lia
 have:iN (fV a)=iN ((a.map YR).flatten):=rfl;rw[bE];lia
theorem aCb{l:List â}{j:Nat}(b:j<iN l):((l.take (j+1)).drop 1).take (iN l-3)=((l.take j).drop 1).take (iN l-3)++(if 0<j/\j+2<iN l then[l[j]]else[]):=by
 have e:l.take (j+1)=l.take j++[l[j]]:=by rw[cE,aC b];rfl
 rw[e];have c:iN (l.take j)=j:=by rw[bB];lia
 cases j with
 |zero=>simp
 |succ i=>
  rw[List.drop_append_of_le_length cT,List.take_append];congr 1;have hd:iN ((l.take (i+1)).drop 1)=i:=by rw[dA,c];lia
  rw[hd];by_cases a:i+1+2<iN l
  .rw[b8 #[6,a]];have:iN l-3-i=(iN l-4-i)+1:=by grind
   rw[this,YG,List.take_nil]
  .rw[a9 λh=>a h.2];have:iN l-3-i=0:=by lia
   rw[this];rfl
def aB8{fs}(F:dY fs an){f g:â×List â}(h:f∈fs)(k:g∈fs)(e:g.1=f.1):g=f:=Ë (cP h) λi d=>Ë (cP k) λj a=>by
 have b:(fs.map (·.1))[i]?=wz f.1:=by rw[aK,d];rfl
 have c:(fs.map (·.1))[j]?=wz f.1:=by rw[aK,a,Option.map_some,e]
 refine Ë (aD.mp b) λl m=>Ë (aD.mp c) λo n=>?_;have:i=j:=(aE1 l F.nd.2.2).mp (b.trans c.symm);subst this;rw[d]at a;exact(d7 a).symm
theorem yI{c:List â}(e:∀y∈c,sT y=ww)(f:z∈c):RN (c.map aG) (aG z) (c.idxOf z):=by
 have b:=oS.mpr f;refine Û (zU (A0 e (aL 8) (m:=0))) λ_ _ _ _ i g=>#[g,(kQ (e z f) (aL 8) (m:=0)).lay,6,#[aG z,22],λm t h a=>?_]
 .rw[aK,aC b,tG b];rfl
 .show(z==z)=ww;simp
 .rw[aK]at a
  cases d:c[m]? with
  |none=>rw[d]at a;cases a
  |some y=>
   rw[d]at a;cases a;show(y==z)=wv
   have:y≠z:=λq=>by
    subst q;exact FD h d
   simpa using this
inductive Tr | jv (a:â) | jt (k n v s:â) (y m:Tr)
def gS:Tr->D
|.jv a=>cN [aG "say",aG a]
|.jt k n v s y m=>cN [aG "ask",cN [aG k,aG n,aG v],aG s,gS y,gS m]
def Tr.jq:Tr->Nat
|.jv _=>0
|.jt _ _ _ _ y m=>max y.jq m.jq+1
def Tr.kn:Tr->Nat
|.jv _=>0
|.jt _ _ _ _ y m=>y.kn+m.kn+1
def jX(fs:Fs)(an:List â):Tr->Prop
|.jv a=>a∈an
|.jt k n v s y m=>XL fs (cN [aG k,aG n,aG v])=ww/\(s="yes"\/s="no")/\jX fs an y/\jX fs an m
def yN{fs}{k n v:â}(h:XL fs (cN [aG k,aG n,aG v])=ww):∃f∈fs,f.1=n/\v∈f.2/\(k="is"\/(k="upto"/\f.2.idxOf v+1<iN f.2)):=Ê (qP.mp (h:(fs.any λf=>isN (aG n) f&&yp f (aG k) (aG v))=ww)) λf c b=>by rw[dE]at b;have a:(decide (v∈f.2)&&(decide (k="is")||(decide (k="upto")&&decide (f.2.idxOf v+1<iN f.2))))=true:=b.2;simp only[dE,rT,e8]at a;exact#[f,c,c8 b.1,a.1,a.2]
theorem GO:sT "yes"=true:=cR
theorem OV:sT "no"=true:=cR
theorem Fb:sT "say"=true:=cR
theorem RV:sT "ask"=true:=cR
def Fw{fs}(F:dY fs an){k v}(h:XL fs (cN [aG k,aG n,aG v])=ww):Th 27 1 (cN [aG k,aG n,aG v]):=by
 obtain⟨f,a,rfl,c,b⟩:=yN h
 refine aLz F ?_ a c;rcases b with rfl | ⟨rfl,_⟩
 .exact Gp
 .exact U3
theorem ZM{fs}(F:dY fs an):∀t,jX fs an t->Th (68*t.kn+18) (t.jq+1) (gS t)
|.jv a,h=>wM 8 0 2 (all_cons (kQ Fb (aL _)) (all_cons (kQ (F.an.2.1 a h) (aL _)) B7)) dO (by show 2*(8+1)<=68*0+18;decide) (aL _)
|.jt k n v s y m,h=>Ü h λp r u o=>by
 have d:=ZM F y u;have c:=ZM F m o;have q:=Fw F p
 have w:sT s=true:=by
  rcases r with rfl | rfl
  .exact GO
  .exact OV
 have e:=kQ w (m:=0) (aL _);have b:=kQ RV (m:=0) (aL _);have j:PyData.bulk (gS (.jt k n v s y m))=(aG "ask").bulk+1+((cN [aG k,aG n,aG v]).bulk+1+((aG s).bulk+1+((gS y).bulk+1+((gS m).bulk+1+0)))):=rfl;have l:PyData.depth (gS (.jt k n v s y m))=max (aG "ask").depth (max (cN [aG k,aG n,aG v]).depth (max (aG s).depth (max (gS y).depth (max (gS m).depth 0))))+1:=rfl;refine#[222222]
 .rw[j];have f:=d.bulk;have a2:=c.bulk;have g:=q.bulk;have a4:=e.bulk;have i:=b.bulk;show _<=68*(y.kn+m.kn+1)+18;lia
 .show((aG "ask").leavesShort 110&&((cN [aG k,aG n,aG v]).leavesShort 110&&((aG s).leavesShort 110&&((gS y).leavesShort 110&&((gS m).leavesShort 110&&ww)))))=ww;rw[b.fit,q.fit,e.fit,d.fit,c.fit];rfl
 .show((aG "ask").showable&&((cN [aG k,aG n,aG v]).showable&&((aG s).showable&&((gS y).showable&&((gS m).showable&&ww)))))=ww;rw[b.shw,q.shw,e.shw,d.shw,c.shw];rfl
 .show((aG "ask").hasDict||((cN [aG k,aG n,aG v]).hasDict||((aG s).hasDict||((gS y).hasDict||((gS m).hasDict||false)))))=wv;rw[b.Ę,q.Ę,e.Ę,d.Ę,c.Ę];rfl
 .rw[l];have f:=d.depth;have a2:=c.depth;have g:=q.depth;have a4:=e.depth;have i:=b.depth;show _<=max y.jq m.jq+1+1;grind
 .show((aG "ask").canLay0&&((cN [aG k,aG n,aG v]).canLay0&&((aG s).canLay0&&((gS y).canLay0&&((gS m).canLay0&&ww)))))=ww;rw[b.lay,q.lay,e.lay,d.lay,c.lay];rfl
theorem Tr.Ł:∀t:Tr,t.kn<2^t.jq
|.jv _=>by show 0<2^0;decide
|.jt _ _ _ _ y m=>by
 have:=Ł y;have:=Ł m;show y.kn+m.kn+1<2^(max y.jq m.jq+1);have a:2^y.jq<=2^(max y.jq m.jq):=dR cS (sR ..);have b:2^m.jq<=2^(max y.jq m.jq):=dR cS (qY ..);rw[TD];lia
def yE{c:yT}(P:Nat->List Sl->Prop)(e:Nat)(f:P e σ)
  (h:∀n a,P n a->∃b,(∀q,q b->c a q)/\(if b=ww then tb { DT with nx:=λd=>∃m,m<n/\P m d,ct:=λd=>∃m,m<n/\P m d,bk:=u DT } a else u DT a)):jH (Z7 c tb) u DT σ:=
 #[Ϙ,P,#[e,f],λn a g=>let ⟨_,h1,h2⟩:=h n a g;h1 _ h2]
def aHn{e:Type}(b:List e):b=[]\/∃c w,b=c++[w]:=by
 induction b with
 |nil=>exact j3 eH
 |cons a b d=>
  rcases d with rfl | ⟨c,w,rfl⟩
  .exact i7 #[[],a,1]
  .exact i7 #[a::c,w,1]
theorem aIn(a:List â)(h:2<=iN a):iB a (wz 1) (wz (-2))=(a.drop 1).take (iN a-3):=by
 unfold iB
 have b:HT.kr (iN a) 0 (wz 1)=1:=by
  show(if(1:Int)<0 then((1:Int)+(iN a:Int)).toNat else min (Ă (1:Int)) (iN a))=_;rw[a9 cS];lia
 have c:HT.kr (iN a) (iN a) (wz (-2))=iN a-2:=by
  show(if(-2:Int)<0 then((-2:Int)+(iN a:Int)).toNat else min (Ă (-2:Int)) (iN a))=_;rw[b8 cS];lia
 rw[b,c];congr 1
def aIm(a:List â)(h:2<=iN a):iB a wx (wz 1)=a.take 1:=qW a 1
def Yo:QJ:=λa Q=>∃f,a=[nF f]/\2<=iN f.2/\iN f.2<=5/\Q (YR f)
abbrev Rw:=List D×â
def uP(b:List Rw)(a:â):Nat:=b.countP λr=>decide (r.2=a)
def kY(an:List â)(b:List Rw):List Int:=an.map λa=>(uP b a:Int)
def GB(ss a:List Rw):Nat:=Ċ (ss.map λr=>a.countP λo=>decide (o.2≠r.2))
def zg(a b:Nat):D:=cN [aW ((a / a.gcd b:Nat):Int),aW ((b / a.gcd b:Nat):Int)]
def xV(an:List â)(c:List Rw)(a:â):Prop:=∃k,an[k]?=wz a/\(∀(j:Nat) b,an[j]?=wz b->uP c b<=uP c a)/\∀(j:Nat) b,j<k->an[j]?=wz b->uP c b<uP c a
def Ir:kK:=λc Q=>∃a b:Nat,c=[aW a,aW b]/\0<b/\a<2^190/\b<2^190/\Q (zg a b)
def W2:QJ:=λb Q=>∃fs an a,b=[dQ fs an,eE (a.map cV)]/\dY fs an/\eV fs an a/\iN a<=60/\Q ((kY an a).map aW)
def Iq:kK:=λc Q=>∃fs an b,c=[dQ fs an,eE (b.map cV)]/\dY fs an/\eV fs an b/\iN b<=60/\∀a,xV an b a->Q (aG a)
def Yi:kK:=λb Q=>∃fs an a,b=[dQ fs an,eE (a.map cV)]/\dY fs an/\eV fs an a/\iN a<=60/\Q (zg (GB a a) (max 1 (iN a)))
theorem L8:∀ss a,GB ss a<=iN ss*iN a
|[],a=>by show 0<=_;lia
|s::ss,a=>by
 have:=L8 ss a;have b:a.countP (λo=>decide (o.2≠s.2))<=iN a:=TF;show a.countP (λo=>decide (o.2≠s.2))+GB ss a<=(iN ss+1)*iN a;rw[uZ,aYt];omega
def Jr(b:List Rw)(a:â):uP b a<=iN b:=TF
theorem PL{a:Type}[DecidableEq a]:∀(l:List a)(x:a),x∈l->∃k,l[k]?=wz x/\∀j:Nat,j<k->l[j]?≠wz x
|y::l,x,h=>by
 by_cases e:y=x
 .exact#[(0),by rw[e];rfl,λj d=>by lia]
 .refine Ê (PL l x ((aN.mp h).resolve_left λz=>e z.symm)) λk b c=>#[k+1,b,λj d=>?_]
  cases j with
  |zero=>exactλz=>e (d7 z)
  |succ j=>exact c j (Nat.le_of_lt_succ ‹_›)
def CS(f:â×List â)(k v st:â)(c:D):Str:=match c with
|ES=>st
|aG z=>if k="is" then(if z=v then "yes" else "no")else if f.2.idxOf z<=f.2.idxOf v then "yes" else "no"
|_=>""
def eN(fs:Fs)(k n v st:â)(a:List D):Str:=match fs[(fs.map (·.1)).idxOf n]?,a[(fs.map (·.1)).idxOf n]? with
|some f,wz c=>CS f k v st c
|_,_=>""
def Iu:kK:=λb Q=>∃fs an k n v st a,b=[dQ fs an,cN [aG k,aG n,aG v],aG st,cN a]/\dY fs an/\XL fs (cN [aG k,aG n,aG v])=ww/\(st="yes"\/st="no")/\fY fs (cN a)=ww/\Q (aG (eN fs k n v st a))
def Zb:kK:=Iu
def xE(fs:Fs)(k n v st:â)(a:ž)(w:â)(x:D):Bool:=match x with
|aW i=>match L2.y0 a i with | some r=>decide (eN fs k n v st r.1=w) | none=>wv
|_=>wv
def mU(fs:Fs)(k n v st:â)(a:ž)(w:â):List D:=(eL (iN a)).filter (xE fs k n v st a w)
def Xl:zj:=λb Q=>∃fs an k n v st a,b=[dQ fs an,cN [aG k,aG n,aG v],aG st,eE (a.map cV)]/\dY fs an/\XL fs (cN [aG k,aG n,aG v])=ww/\(st="yes"\/st="no")/\eV fs an a/\iN a<=60/\Q (mU fs k n v st a "yes") (mU fs k n v st a "no")
def MF{fs:Fs}(F:dY fs an){j:Nat}{f:â×List â}(h:fs[j]?=wz f):(fs.map (·.1)).idxOf f.1=j:=by
 have a:(fs.map (·.1)).idxOf f.1<iN (fs.map (·.1)):=oS.mpr (aM.mpr #[f,aU h,1]);have b:(fs.map (·.1))[(fs.map (·.1)).idxOf f.1]?=wz f.1:=by rw[aC a,tG a]
 have c:(fs.map (·.1))[j]?=wz f.1:=by rw[aK,h];rfl
 exact(aE1 a F.nd.2.2).mp (b.trans c.symm)
def F1{fs}(F:dY fs an){k v st}{j:Nat}{f:â×List â}(a:fs[j]?=wz f)(b:cs[j]?=wz c)(d:f.1=n):eN fs k n v st cs=CS f k v st c:=by
 subst d;unfold eN;rw[MF F a,a,b]
def Eb(fs:Fs)(k n v st:â)(x:D):D:=match x with | cN [cN cs,_]=>aG (eN fs k n v st cs) | _=>ES
def BD{c:ET}{b:LD}{a:List Sl}{i:Nat}{ts us:List D}(d:a[i]?=wz (.own ts))(e:iN ts+iN us<=100000)(h:∀q,q (eE us)->c a q)(k:b.nx (a.set i (.own (ts++us)))):Il i c b a:=#[Ϙ,ts,d,h _ #[us,1,e,k]]
def W3{fs k v st}{j:Nat}{r:List D×â}(h:rs[j]?=wz r):xE fs k n v st rs w (aW (j:Int))=decide (eN fs k n v st r.1=w):=by
 show(match L2.y0 rs (j:Int)with | some r=>decide (eN fs k n v st r.1=w) | none=>wv)=_;rw[L2.dU h]
def G8(k v:â)(f:â×List â):List Str:=if k="is" then[v]else f.2.take (f.2.idxOf v+1)
def Xk:kK:=λa Q=>∃k n v f,a=[cN [aG k,aG n,aG v],nF f]/\(∀y∈f.2,sT y=ww)/\v∈f.2/\iN f.2<=5/\Q (cN ((G8 k v f).map aG))
theorem XO{f:â×List â}{k v st z:â}(g:z∈f.2):(if zK (G8 k v f) (aG z)=ww then("yes":â)else "no")=CS f k v st (aG z):=by
 show(if decide (z∈G8 k v f)=ww then("yes":â)else "no")=if k="is" then(if z=v then("yes":â)else "no")else if f.2.idxOf z<=f.2.idxOf v then("yes":â)else "no";unfold G8;by_cases b:k="is"
 .rw[b8 b,b8 b];by_cases e:z=v
  .rw[b8 e,b8 (c6 (bC.mpr e))]
  .rw[a9 e,a9 (λq=>e (bC.mp (c8 q)))]
 .rw[a9 b,a9 b];have c:=oS.mpr g;by_cases e:f.2.idxOf z<=f.2.idxOf v
  .rw[b8 e,b8];refine c6 (aU (i:=f.2.idxOf z) ?_);rw[oX,b8 Ō,aC c,tG c]
  .rw[a9 e,a9];intro q;let i a:=Ë (cP (c8 q));have d:=(aD.mp a).1;rw[bB]at d;rw[oX,b8 cT]at a;have:=Kq a;lia
def PH{f:â×List â}{k v}(a:v∈f.2)(h:y∈G8 k v f):y∈f.2:=by
 unfold G8 at h;split at h
 .rw[bC.mp h];exact a
 .exact eG h
def qF(k v st:â)(f:â×List â):List D:=(G8 k v f).map aG++(if st="yes" then[ES]else[])
def Yr:kK:=λa Q=>∃k n v st f,a=[cN [aG k,aG n,aG v],aG st,nF f]/\(∀y∈f.2,sT y=ww)/\v∈f.2/\iN f.2<=5/\Q (cN (qF k v st f))
def Yq:kK:=λa Q=>∃(fs:Fs)(an:List â)(k n v:â)(f:â×List â)(j:Nat),a=[dQ fs an,cN [aG k,aG n,aG v]]/\dY fs an/\fs[j]?=wz f/\f.1=n/\Q (aW (j:Int))
theorem aC5{k v}{f:â×List â}(h:iN f.2<=5):iN (G8 k v f)<=5:=by
 unfold G8;split
 .show 1<=5;decide
 .rw[bB];lia
def PF{k v st:â}(a:st="yes"\/st="no")(b:UX f c=ww):(if IV c (cN (qF k v st f))=ww then("yes":â)else "no")=CS f k v st c:=by
 have e:IV c (cN (qF k v st f))=(zK (G8 k v f) c||((if st="yes" then[ES]else[]).any λz=>dG z c)):=by
  show((qF k v st f).any λz=>dG z c)=_;unfold qF;rw[aI9,B6]
 cases c with
 |none=>
  rw[e];rcases a with rfl | rfl<;>rfl
 |str z=>
  have d:((if st="yes" then[ES]else[]).any λx=>dG x (aG z))=false:=by
   rcases a with rfl | rfl<;>rfl
  rw[e,d,NY];exact XO (c8 b)
 |_=>cases b
def OO{k v st}{f:â×List â}(b:∀y∈f.2,sT y=ww)(c:v∈f.2)(hd:Cd d):C2 d (cN (qF k v st f)):=by
 unfold qF;split
 .exact GI (λy a=>b y (PH c a)) hd
 .rw[cG];exact MD (λy a=>b y (PH c a)) hd
def zv(w:â)(x:D):Bool:=match x with | cN [_,aG s]=>decide (s=w) | _=>wv
def Ag(ss:List â)(w:â)(x:D):Bool:=match x with | aW i=>(match L2.y0 ss i with | some s=>decide (s=w) | none=>wv) | _=>wv
def Bf(ss:List â)(x:D):D:=match x with | aW i=>(match L2.y0 ss i with | some s=>aG s | none=>ES) | _=>ES
def Bw(x:D):D:=match x with | cN [a,_]=>a | _=>x
def KS(ss:List â):HG (ss.map aG)=(eL (iN ss)).map λx=>cN [x,Bf ss x]:=by
 apply nU;intro i
 cases h:ss[i]? with
 |none=>
  have a:=tW.mp h;rw[eW (by rw[uO,aB];exact a),eW (by rw[aB,jD];exact a)]
 |some s=>
  rw[DA (by rw[aK,h];rfl),aK];unfold eL;rw[aK,mD ((aD.mp h).1)];show _=wz (cN [aW (i:Int),match L2.y0 ss (i:Int)with | some s=>aG s | none=>ES]);rw[L2.dU h]
def PQ(ss:List â)(w:â):((HG (ss.map aG)).filter (zv w)).map Bw=(eL (iN ss)).filter (Ag ss w):=by
 rw[KS,rS,bH];have a:(Bw∘λx=>cN [x,Bf ss x])=id:=by funext x;rfl
 have b:(zv w∘λx=>cN [x,Bf ss x])=Ag ss w:=by
  funext x
  cases x with
  |int i=>
   show zv w (cN [aW i,(match L2.y0 ss i with | some s=>aG s | none=>ES)])=(match L2.y0 ss i with | some s=>decide (s=w) | none=>wv);cases L2.y0 ss i<;>rfl
  |_=>rfl
 rw[a,b,rC]
def Xm:QJ:=λa Q=>∃w ss,a=[aG w,eE (ss.map aG)]/\iN ss<=60/\Q ((eL (iN ss)).filter (Ag ss w))
def T9{fs k v st}{a:ž}(w:â):(eL (iN (a.map λr=>eN fs k n v st r.1))).filter (Ag (a.map λr=>eN fs k n v st r.1) w)=mU fs k n v st a w:=by
 rw[aB];apply uT;intro x e;refine Ë (cP e) λj d=>ñ x (iA d) λb=>?_;have c:=aC b;rw[W3 c];show(match L2.y0 (a.map λr=>eN fs k n v st r.1) (j:Int)with | some s=>decide (s=w) | none=>wv)=_;rw[L2.dU (by rw[aK,c];rfl)]
def zd(b:List Rw)(x:D):D:=match x with | aG a=>aW ((uP b a:Nat):Int) | _=>ES
def Q0(b:List Rw)(a:â):((b.map λr=>aG r.2).countP λt=>dG t (aG a))=uP b a:=by
 rw[IK];congr 1
def aCl:∀{a:List â},(∀y∈a,sT y=ww)->dH (a.map aG)=ww/\fH (a.map aG)<=0:=λh=>Û (zU (A0 h (aL 8))) λ_ _ _ _ b c=>#[c,b]
theorem O5:∀ns:List Int,dH (ns.map aW)=ww/\fH (ns.map aW)=0
|[]=>#[7]
|n::ns=>by
 have:=O5 ns;refine#[22]
 .show(ww&&dH (ns.map aW))=ww;rw[this.1];rfl
 .show max 0 (fH (ns.map aW))=0;rw[this.2];rfl
theorem W4{ns:List Int}{m:Int}{j:Nat}(h:ns[j]?=wz m)(b:∀i,i<j->ns[i]?≠wz m):RN (ns.map aW) (aW m) j:=Ì (O5 ns) λc d=>by
 refine#[c,1,by rw[d];exact bZ _,#[aW m,by rw[aK,h];rfl,2],λi t f a=>?_]
 .show(m==m)=ww;simp
 .rw[aK]at a
  cases e:ns[i]? with
  |none=>rw[e]at a;cases a
  |some n=>
   rw[e]at a;cases a;show(n==m)=wv;have:n≠m:=λz=>b i f (by rw[e,z]);simpa using this
def Yj:kK:=λc Q=>∃a b:Nat,c=[aW a,aW b]/\Q (aW ((a.gcd b:Nat):Int))
theorem aFr{an:List â}(j:aYv an)(g:â->Int)(h:b∈an):Ċ (an.map λa=>if b=a then g a else 0)=g b:=by
 induction an with
 |nil=>simp at h
 |cons a an k=>
  rw[aX,eI];let f d:=Ì (jZ.mp j);by_cases e:b=a
  .subst e
   have z:Ċ (an.map λa=>if b=a then g a else 0)=0:=by
    have:∀l:List â,b∉l->Ċ (l.map λa=>if b=a then g a else 0)=0:=λl=>by
     induction l with
     |nil=>intro _;rfl
     |cons c l i=>
      intro hb;rw[aX,eI,i λq=>hb (aE _ q),a9 λ(q:b=c)=>hb (by rw[q];exact aJ ..)];rfl
    exact this an f
   rw[z,b8 rfl];lia
  .rw[a9 e,k d ((aN.mp h).resolve_left e)];lia
theorem aFs(an:List â)(f g:â->Int):Ċ (an.map λa=>f a+g a)=Ċ (an.map f)+Ċ (an.map g):=by
 induction an with
 |nil=>rfl
 |cons a an b=>rw[aX,aX,aX,eI,eI,eI,b];lia
theorem FU{an:List â}(d:aYv an)(g:â->Int):∀ss,(∀r∈ss,r.2∈an)->Ċ (an.map λa=>(uP ss a:Int)*g a)=Ċ (ss.map λr=>g r.2)
|[],_=>by
 have:∀l:List â,Ċ (l.map λa=>((uP [] a:Nat):Int)*g a)=0:=λl=>by
  induction l with
  |nil=>rfl
  |cons c l b=>
   rw[aX,eI,b];show((0:Nat):Int)*g c+0=0;simp
 exact this an
|r::ss,h=>by
 have e:(λa=>((uP (r::ss) a:Nat):Int)*g a)=λa=>(if r.2=a then g a else 0)+(uP ss a:Int)*g a:=by
  funext a;unfold uP;rw[FH];by_cases q:r.2=a
  .rw[b8 q,b8 (c6 q),kG,aY0];show _+1*g a=_;rw[aYw,Int.add_comm]
  .rw[a9 q,a9 (Á q),Nat.add_zero,Int.zero_add]
 rw[e,aFs,aFr d g (h r (aJ ..)),(FU d g ss λx f=>h x (aE _ f)),aX,eI]
theorem WV(b:List Rw)(a:â):((b.countP λo=>decide (o.2≠a):Nat):Int)=(iN b:Int)-(uP b a:Int):=by
 unfold uP
 have:iN b=(b.countP λo=>decide (o.2=a))+(b.countP λo=>decide (o.2≠a)):=by
  rw[List.length_eq_countP_add_countP (λo:Rw=>decide (o.2=a))];congr 2;funext o;by_cases q:o.2=a<;>simp[q]
 lia
theorem Ky:∀l:List Nat,((Ċ l:Nat):Int)=Ċ (l.map λ(n:Nat)=>(n:Int))
|[]=>rfl
|n::l=>by rw[eI,aX,eI,kG,Ky l]
def UL{an:List â}(d:aYv an){b:List Rw}(h:∀r∈b,r.2∈an):Ċ ((kY an b).map λc=>c*((b.length:Int)-c))=((GB b b:Nat):Int):=by
 unfold kY GB;rw[bH,Ky,bH];refine(FU d (λa=>(iN b:Int)-(uP b a:Int)) b h).trans ?_;congr 1;apply gX;intro r _;exact(WV b r.2).symm
def Hz(n:Int)(x:D):D:=match x with | aW c=>aW (c*(n-c)) | _=>ES
def WJ(x:D):D:=match x with | cN [_,b]=>b | _=>x
def VE:Tr->Bool
|.jv _=>ww
|.jt _ _ _ _ _ _=>wv
def Xs:kK:=λa Q=>∃t,a=[gS t]/\Q (QM (VE t))
def gI:Tr->List â
|.jv a=>["say",a]
|.jt k n v s y m=>(["ask",n,k,v,s]:List â)++(gI y++gI m)
def eF:Str:=" "
def pW(t:Tr):Str:=Txt.join eF (gI t)
theorem pU:∀t,iN (gI t)=7*t.kn+2
|.jv _=>rfl
|.jt k n v s y m=>by
 show((["ask",n,k,v,s]:List â)++(gI y++gI m)).length=7*(y.kn+m.kn+1)+2;rw[aV,aV,pU y,pU m];show 5+_=_;lia
theorem nV{fs}(F:dY fs an):∀t,jX fs an t->∀w∈gI t,sT w=ww
|.jv a,h,w,hw=>by
 rcases aN.mp hw with rfl | hw
 .exact Fb
 .rw[bC.mp hw];exact F.an.2.1 a h
|.jt k n v s y m,h,w,hw=>Ü h λg i l e=>ó (yN g) λf c b j d=>by
 rcases bK.mp hw with hw | hw
 .simp only[aN,cZ,j4]at hw;rcases hw with rfl | rfl | rfl | rfl | rfl
  .exact RV
  .rw[<- b];exact F.name c
  .rcases d with rfl | ⟨rfl,_⟩
   .exact Gp
   .exact U3
  .exact F.Ŗ c _ j
  .rcases i with rfl | rfl
   .exact GO
   .exact OV
 .rcases bK.mp hw with hw | hw
  .exact nV F y l w hw
  .exact nV F m e w hw
def DO:∀t,∃w a,gI t=w::a
|.jv _=>#[31]
|.jt _ _ _ _ _ _=>#[31]
theorem MR(c:Nat):∀x b y a,jn c ((x::b)++(y::a))=jn c (x::b)++c::jn c (y::a)
|x,[],y,a=>rfl
|x,z::b,y,a=>by
 show x++c::jn c ((z::b)++(y::a))=(x++c::jn c (z::b))++c::jn c (y::a);rw[MR c z b y a,dM];rfl
def oQ(a:List â):(Txt.join eF a).cps.toList=jn 32 (a.map (·.cps.toList)):=by
 show(l0 eF a).cps.toList=_;rw[i5];exact VC 32 a
def WL(k n v s:â)(y m:Tr):Txt.join eF ["ask",n,k,v,s,pW y,pW m]=pW (.jt k n v s y m):=by
 apply uN;unfold pW;rw[oQ,oQ];refine Ç (DO y) λh a f=>Ç (DO m) λg b e=>?_
 have c:(["ask",n,k,v,s,Txt.join eF (gI y),Txt.join eF (gI m)]:List â).map (·.cps.toList)=((["ask",n,k,v,s]:List â).map (·.cps.toList))++[jn 32 ((gI y).map (·.cps.toList)),jn 32 ((gI m).map (·.cps.toList))]:=by
  rw[<- oQ,<- oQ];rfl
 have d:(gI (.jt k n v s y m)).map (·.cps.toList)=((["ask",n,k,v,s]:List â).map (·.cps.toList))++((gI y).map (·.cps.toList)++(gI m).map (·.cps.toList)):=by
  show((["ask",n,k,v,s]:List â)++(gI y++gI m)).map (·.cps.toList)=_;rw[bA,bA]
 rw[c,d,f,e,aX,aX (l:=a),aX (l:=b)];rw[MR 32 _ _ _ [jn 32 _],kU (as:=a.map _),MR 32 _ _ _ (a.map _++_),<- kU,MR 32]
 rfl
theorem RU{a:List â}(h:∀w∈a,sT w=ww):Ċ (a.map (·.length))<=8*iN a:=by
 induction a with
 |nil=>exact aL _
 |cons w a c=>
  have d:=(uI (h w (aJ ..))).1;have e:=c λx b=>h x (aE _ b);rw[aX,eI,bE];lia
theorem PB(a:List â):v0 (Txt.join eF a)<=Ċ (a.map (·.length))+iN a:=by
 show(l0 eF a).length<=_;rw[i5];have:=du eF a;have e:v0 eF=1:=cR
 rw[e,YF]at this;exact this
theorem CT{fs}(F:dY fs an){t:Tr}(h:jX fs an t):v0 (pW t)<=9*(7*t.kn+2):=by
 have a:=PB (gI t);have b:=RU (nV F t h);rw[pU]at a b;unfold pW;lia
def wU(n:Nat):kK:=λa Q=>∃fs an t,a=[gS t]/\dY fs an/\jX fs an t/\t.kn<=500/\t.jq<n/\Q (aG (pW t))
def Zv:kK:=wU 31
theorem aBz{Q:D->Prop}(h:wU 0 ds Q):False:=ß h λ_ _ _ _ _ _ z=>í z λ_ h _=>by lia
def mT(fs:Fs):Tr->List D->List D
|.jv _,_=>[]
|.jt k n v s y m,cs=>cN [cN [aG k,aG n,aG v],aG (eN fs k n v s cs)]::(if eN fs k n v s cs="yes" then mT fs y cs else mT fs m cs)
def vD(fs:Fs):Tr->List D->List â
|.jv _,_=>[]
|.jt k n v s y m,cs=>eN fs k n v s cs::(if eN fs k n v s cs="yes" then vD fs y cs else vD fs m cs)
def lU(fs:Fs):Tr->List D->â
|.jv a,_=>a
|.jt k n v s y m,cs=>if eN fs k n v s cs="yes" then lU fs y cs else lU fs m cs
def vZ:Tr->List â->Option Tr
|t,[]=>wz t
|.jv _,_::_=>wx
|.jt _ _ _ _ y m,s::r=>if s="yes" then vZ y r else if s="no" then vZ m r else wx
theorem RT:¬("no":â)="yes":=cR
section
variable{fs:Fs}{an:List â}
theorem E1(F:dY fs an){k n v st:â}(q:XL fs (cN [aG k,aG n,aG v])=ww)(i:st="yes"\/st="no")(l:fY fs (cN cs)=ww):eN fs k n v st cs="yes"\/eN fs k n v st cs="no":=ó (yN q) λf o g s r=>Ë (cP o) λj h=>Ì (nS l) λm e=>by
 have p:=(aD.mp h).1;have a:cs[j]?=wz cs[j]:=aC cT
 generalize cs[j]=c at a
 rw[F1 F h a g];have gs:=e j f c h a
 cases c with
 |none=>exact i
 |str z=>
  show(if k="is" then(if z=v then("yes":â)else "no")else if f.2.idxOf z<=f.2.idxOf v then("yes":â)else "no")="yes"\/_;by_cases d:k="is"
  .by_cases b:z=v
   .exact j3 (by rw[b8 d,b8 b])
   .exact i7 (by show(if k="is" then(if z=v then("yes":â)else "no")else if f.2.idxOf z<=f.2.idxOf v then("yes":â)else "no")="no";rw[b8 d,a9 b])
  .by_cases b:f.2.idxOf z<=f.2.idxOf v
   .exact j3 (by rw[a9 d,b8 b])
   .exact i7 (by show(if k="is" then(if z=v then("yes":â)else "no")else if f.2.idxOf z<=f.2.idxOf v then("yes":â)else "no")="no";rw[a9 d,a9 b])
 |_=>cases gs
theorem CN:∀t a,(mT fs t a).map WJ=(vD fs t a).map aG
|.jv _,_=>rfl
|.jt k n v s y m,a=>by
 show(aG (eN fs k n v s a))::(if eN fs k n v s a="yes" then mT fs y a else mT fs m a).map WJ=aG (eN fs k n v s a)::(if eN fs k n v s a="yes" then vD fs y a else vD fs m a).map aG;congr 1;split
 .exact CN y a
 .exact CN m a
theorem CO:∀t c,∀x∈mT fs t c,∃a b,x=cN [a,b]
|.jv _,_,x,h=>by cases h
|.jt k n v s y m,c,x,h=>by
 rcases aN.mp h with rfl | h
 .exact#[31]
 .split at h
  .exact CO y c x h
  .exact CO m c x h
theorem AX:∀(t:Tr)(a:List D),(mT fs t a).length<=t.jq
|.jv _,_=>aL _
|.jt k n v s y m,a=>by
 show(if eN fs k n v s a="yes" then mT fs y a else mT fs m a).length+1<=max y.jq m.jq+1;have b:=AX y a;have c:=AX m a;split<;>lia
theorem AD(F:dY fs an)(b:fY fs (cN cs)=ww):∀t,jX fs an t->vZ t (vD fs t cs)=wz (.jv (lU fs t cs))
|.jv a,_=>rfl
|.jt k n v s y m,ht=>Ü ht λd f g c=>by
 show(if eN fs k n v s cs="yes" then vZ y _ else if eN fs k n v s cs="no" then vZ m _ else wx)=wz (.jv (if eN fs k n v s cs="yes" then lU fs y cs else lU fs m cs));rcases E1 F d f b with e | e
 .rw[b8 e,b8 e,b8 e];exact AD F b y g
 .have ne:=λz=>RT (e.symm.trans z);rw[a9 ne,b8 e,a9 ne,a9 ne];exact AD F b m c
theorem MB:∀{t p pl},vZ t pl=wz p->∀s∈pl,s="yes"\/s="no"
|t,p,[],h,x,hx=>by cases hx
|.jv a,p,s::r,h,x,hx=>by cases h
|.jt k n v st y m,p,s::r,h,x,hx=>by
 have b:(if s="yes" then vZ y r else if s="no" then vZ m r else wx)=wz p:=h;by_cases c:s="yes"
 .rw[b8 c]at b;rcases aN.mp hx with rfl | hx
  .exact j3 c
  .exact MB b x hx
 .rw[a9 c]at b;by_cases d:s="no"
  .rw[b8 d]at b;rcases aN.mp hx with rfl | hx
   .exact i7 d
   .exact MB b x hx
  .rw[a9 d]at b;cases b
end
def there(fs:Fs)(t:Tr)(b:ž)(a:List â)(x:D):Bool:=match x with
|aW i=>(match L2.y0 b i with | some r=>decide ((vD fs t r.1).take (iN a)=a) | none=>wv)
|_=>wv
def Xt:kK:=λb Q=>∃k n v s y m a,b=[gS (.jt k n v s y m),aG a]/\Q (gS (if a="yes" then y else m))
def Xv:QJ:=λb Q=>∃fs an t a,b=[dQ fs an,gS t,cN a]/\dY fs an/\jX fs an t/\fY fs (cN a)=ww/\t.jq<=40/\Q (mT fs t a)
def Xw:kK:=λb Q=>∃fs an t a,b=[dQ fs an,gS t,cN a]/\dY fs an/\jX fs an t/\fY fs (cN a)=ww/\t.jq<=40/\Q (cN ((vD fs t a).map aG))
def Xx:kK:=λb Q=>∃fs an t a,b=[dQ fs an,gS t,cN a]/\dY fs an/\jX fs an t/\fY fs (cN a)=ww/\t.jq<=40/\Q (aG (lU fs t a))
def Xy:kK:=λb Q=>∃t p a,b=[gS t,cN (a.map aG)]/\vZ t a=wz p/\t.jq<=40/\Q (gS p)
def mB(f:â×List â):List D:=f.2.map aG++[ES]
def Wz:kK:=λa Q=>∃f,a=[nF f]/\iN f.2<=5/\Q (cN (f.2.map aG++[ES]))
def jV(fs:Fs)(k n v st:â)(r:List D×â):Bool:=decide (eN fs k n v st r.1="yes")
def eV.ı{fs}{a:ž}(h:eV fs an a)(p:List D×â->Bool):eV fs an (a.filter p):=λr b=>h r (cD.mp b).1
def Zf:kK:=λb Q=>∃(fs:Fs)(an:List â)(k n v st:â)(a:ž),b=[dQ fs an,cN [aG k,aG n,aG v],aG st,eE (a.map cV)]/\dY fs an/\XL fs (cN [aG k,aG n,aG v])=ww/\(st="yes"\/st="no")/\eV fs an a/\iN a<=60/\Q (cN [eE ((a.filter (jV fs k n v st)).map cV),eE ((a.filter λr=>!jV fs k n v st r).map cV)])
def FA(fs:Fs)(an:List â)(fa:ž->â):Prop:=∀a,eV fs an a->xV an a (fa a)
theorem xV.uniq(h:xV an rs a)(g:xV an rs b):a=b:=Õ h λi d k l=>Õ g λj c e f=>by
 have m:=k j b c;have n:=e i a d;rcases EU i j with z | z | z
 .have:=f i a z d;lia
 .subst z;rw[d]at c;exact d7 c
 .have:=l j b z c;lia
def F6(a:ž)(x:D):D:=match x with | aW i=>(match L2.y0 a i with | some r=>cV r | none=>ES) | _=>ES
def VX{a:ž}{i:Nat}(h:i<iN a):L2.y0 (a++[r]) (i:Int)=L2.y0 a (i:Int):=by
 rw[L2.dU (aC h),L2.dU (by rw[fA h];exact aC h)]
theorem Ah(fs:Fs)(k n v st w:â):∀m b,iN b=m->(mU fs k n v st b w).map (F6 b)=(b.filter λr=>decide (eN fs k n v st r.1=w)).map cV
|0,b,h=>by rw[pJ.mp h];rfl
|m+1,b,h=>by
 obtain⟨a,r,rfl⟩:∃a r,b=a++[r]:=#[b.dropLast,b.getLast (λe=>by rw[e]at h;cases h),(IJ _).symm];have s:iN a=m:=by rw[aV]at h;simpa using h
 have l:=Ah fs k n v st w m a s;unfold mU at l |-
 have o:eL (iN (a++[r]))=eL (iN a)++[aW (iN a:Int)]:=by
  unfold eL;rw[aV,qO,rQ,bA];rfl
 have c:L2.y0 (a++[r]) (iN a:Int)=wz r:=L2.dU (by rw[eU (aL _),aX5];rfl)
 have p:(eL (iN a)).filter (xE fs k n v st (a++[r]) w)=(eL (iN a)).filter (xE fs k n v st a w):=uT λx g=>by
  let j f z:=Ê (aM.mp g);subst z;show(match L2.y0 (a++[r]) (j:Int)with | some r=>decide (eN fs k n v st r.1=w) | none=>wv)=match L2.y0 a (j:Int)with | some r=>decide (eN fs k n v st r.1=w) | none=>wv
  rw[VX (Á f)]
 have q:((eL (iN a)).filter (xE fs k n v st a w)).map (F6 (a++[r]))=((eL (iN a)).filter (xE fs k n v st a w)).map (F6 a):=gX λx g=>by
  let j f z:=Ê (aM.mp (cD.mp g).1);subst z;show(match L2.y0 (a++[r]) (j:Int)with | some r=>cV r | none=>ES)=match L2.y0 a (j:Int)with | some r=>cV r | none=>ES
  rw[VX (Á f)]
 have i:xE fs k n v st (a++[r]) w (aW (iN a:Int))=decide (eN fs k n v st r.1=w):=by
  show(match L2.y0 (a++[r]) (iN a:Int)with | some r=>decide (eN fs k n v st r.1=w) | none=>wv)=_;rw[c]
 have t:F6 (a++[r]) (aW (iN a:Int))=cV r:=by
  show(match L2.y0 (a++[r]) (iN a:Int)with | some r=>cV r | none=>ES)=_;rw[c]
 rw[o,fE,bA,p,q,l,fE,bA];congr 1;by_cases d:eN fs k n v st r.1=w
 .rw[bY,b8 (by rw[i];exact c6 d),bY,b8 (c6 d)];show[F6 (a++[r]) (aW (iN a:Int))]=[cV r];rw[t]
 .rw[bY,a9 (by rw[i,c7 d];decide),bY,a9 (by rw[c7 d];decide)]
  rfl
def Xp:kK:=λb Q=>∃fs k n v st w a,b=[eE (a.map cV),eE (mU fs k n v st a w)]/\iN a<=60/\Q (eE ((a.filter λr=>decide (eN fs k n v st r.1=w)).map cV))
def Ya:kK:=λb Q=>∃fs an fa a,b=[dQ fs an,eE (a.map cV)]/\dY fs an/\FA fs an fa/\eV fs an a/\iN a<=60/\Q (gS (.jv (fa a)))
def Yb:kK:=λb Q=>∃fs an k n v s y m a,b=[dQ fs an,gS (.jt k n v s y m),eE (a.map cV)]/\dY fs an/\XL fs (cN [aG k,aG n,aG v])=ww/\(s="yes"\/s="no")/\eV fs an a/\iN a<=60/\Q (eE [eE ((a.filter (jV fs k n v s)).map cV),eE ((a.filter λr=>!jV fs k n v s r).map cV)])
theorem FB{fs}(F:dY fs an){k n v st:â}(d:XL fs (cN [aG k,aG n,aG v])=ww)(b:st="yes"\/st="no"){c:ž}(a:eV fs an c):(c.filter λr=>decide (eN fs k n v st r.1="no"))=c.filter λr=>!jV fs k n v st r:=uT λr f=>by
 unfold jV;rcases E1 F d b (a r f).1 with e | e
 .rw[e];decide +kernel
 .rw[e];decide +kernel
def Nl(a b c d e:D):iB [a,b,c,d,e] wx (wz 3)=[a,b,c]:=qW [a,b,c,d,e] 3
theorem HA{an:List â}(h:0<iN an)(c:ž):∃a,xV an c a:=by
 have i:∀(l:List â),0<iN l->∃k a,l[k]?=wz a/\(∀(j:Nat) b,l[j]?=wz b->uP c b<=uP c a)/\∀(j:Nat) b,j<k->l[j]?=wz b->uP c b<uP c a:=λl=>by
  induction l with
  |nil=>intro h;exact c9 h cS
  |cons x l n=>
   intro _
   cases l with
   |nil=>exact#[ϛ,(0),x,1,λj b hb=>by
     cases j with
     |zero=>cases hb;exact aL _
     |succ j=>simp at hb,λj b e _=>c9 e (yW _)]
   |cons y l=>
    let k a f d g:=Ø (n dN);by_cases m:uP c a<=uP c x
    .refine#[ϛ,(0),x,1,λj b hb=>?_,λj b e _=>c9 e (yW _)]
     cases j with
     |zero=>cases hb;exact aL _
     |succ j=>exact aR (d j b (Á hb)) m
    .refine#[ϛ,k+1,a,Á f,λj b hb=>?_,λj b e hb=>?_]
     .cases j with
      |zero=>cases hb;lia
      |succ j=>exact d j b (Á hb)
     .cases j with
      |zero=>cases hb;exact Nat.not_le.mp ‹_›
      |succ j=>exact g j b (Nat.le_of_lt_succ ‹_›) (Á hb)
 exact Ø (i an h) λk a f d g=>#[ϛ,a,k,f,d,g]
theorem Hq{fs}(F:dY fs an):∃fa,FA fs an fa:=
 #[λa=>(HA (by have:=F.a2;exact Ŏ) a).choose,λa _=>(HA (by have:=F.a2;exact Ŏ) a).choose_spec]
abbrev Qn:=â×â×â
abbrev Ch:=Qn×â
def qD(q:Qn):D:=cN [aG q.1,aG q.2.1,aG q.2.2]
def tq(d:D):Qn:=match d with | cN [aG k,aG n,aG v]=>(k,n,v) | _=>("","","")
def qs(fs:Fs):List Qn:=(fV fs).map tq
def E3(fs:Fs):(qs fs).map qD=fV fs:=by
 unfold qs;rw[bH]
 have:∀d∈fV fs,(qD∘tq) d=id d:=λd hd=>by
  obtain⟨f,b,⟨z,a,rfl⟩ | ⟨z,a,c,rfl⟩⟩:=HM hd<;>rfl
 rw[gX this,rC]
def F9{fs}{q:Qn}(h:q∈qs fs):XL fs (cN [aG q.1,aG q.2.1,aG q.2.2])=true:=by
 have:qD q∈(qs fs).map qD:=aM.mpr #[q,h,1];rw[E3]at this;exact SV this
def tZ(q:Qn):List Ch:=[(q,"yes"),(q,"no")]
def I0(fs:Fs):List Ch:=(qs fs).flatMap tZ
def M5{fs}{c:Ch}(h:c∈I0 fs):c.1∈qs fs/\(c.2="yes"\/c.2="no"):=Ê (List.mem_flatMap.mp h) λq b a=>by
 simp only[tZ,aN,cZ,j4]at a;rcases a with rfl | rfl
 .exact#[b,j3 eH]
 .exact#[b,i7 eH]
theorem M6(fs:Fs):iN (I0 fs)=2*iN (fV fs):=by
 unfold I0 qs
 generalize (fV fs)=l
 induction l with
 |nil=>rfl
 |cons x l a=>
  rw[aX,aE2,aV,a];show 2+_=2*(iN l+1);lia
def Ei(fs:Fs)(c:Ch)(r:Rw):Bool:=jV fs c.1.1 c.1.2.1 c.1.2.2 c.2 r
abbrev yR(fs:Fs)(c:Ch)(R:List Rw):List Rw:=R.filter (Ei fs c)
abbrev nR(fs:Fs)(c:Ch)(R:List Rw):List Rw:=R.filter λr=>!Ei fs c r
def yu(c:Ch):D:=cN [qD c.1,aG c.2]
def Yp:kK:=λa Q=>∃fs an,a=[dQ fs an]/\dY fs an/\Q (eE ((I0 fs).map yu))
def low(a b:Nat):Nat×Nat:=(a / a.gcd b,b / a.gcd b)
def QH(x:Nat×Nat):D:=cN [aW (x.1:Nat),aW (x.2:Nat)]
def D4(R:List Rw):Nat×Nat:=low (GB R R) (max 1 (iN R))
def As(x y:Nat×Nat):Nat×Nat:=low (x.1*y.2+y.1*x.2) (x.2*y.2)
def dC(fs:Fs)(R:List Rw)(c:Ch):Nat×Nat:=As (D4 (yR fs c R)) (D4 (nR fs c R))
def Ħ(fs:Fs)(R:List Rw)(m:Int)(c:Ch):Bool:=decide (m<=(iN (yR fs c R):Int))&&decide (m<=(iN (nR fs c R):Int))
def jK(fs:Fs)(R:List Rw)(m:Int):List Ch:=(I0 fs).filter (Ħ fs R m)
def SQ(fs:Fs)(R:List Rw)(c:Ch):D:=cN [qD c.1,aG c.2,QH (dC fs R c)]
abbrev ŵ:=List (Nat×Nat)
def AM(l:ŵ):Nat:=l.foldl (λc x=>c.lcm x.2) 1
def XF(B:Nat)(x:Nat×Nat):Int:=(x.1:Int)*((B:Int) / (x.2:Int))
def YT(fs:Fs)(R:List Rw)(m:Int):ŵ:=(jK fs R m).map (dC fs R)
def MQ(fs:Fs)(R:List Rw)(m:Int):List Int:=(YT fs R m).map (XF (AM (YT fs R m)))
def IW(fs:Fs)(R:List Rw)(m:Int):List D:=(jK fs R m).map (SQ fs R)
def zk(fs:Fs)(R:List Rw)(m:Int)(J:List Nat):Prop:=SS.QI (iN (jK fs R m)) (λi=>(MQ fs R m).getD i 0) J
def Cm(fs:Fs)(R:List Rw)(m:Int)(J:List Nat):List D:=J.map λi=>(IW fs R m).getD i ES
def FC{a b:Nat}(h:0<b):0<(low a b).2:=aYu (aPc h (uY a b)) (oV a h)
def Km(a b:Nat):(low a b).1<=a/\(low a b).2<=b:=#[sS _ _,sS _ _]
structure Sml(x:Nat×Nat)(a b:Nat):Prop where
 top:x.1<=a
 pos:0<x.2
 bot:x.2<=b
theorem B1{R:List Rw}(h:iN R<=60):Sml (D4 R) 3600 60:=by
 have a:=Km (GB R R) (max 1 (iN R));have b:=L8 R R;have c:=iV h h;exact#[by show(low _ _).1<=_;lia,FC cT,by show(low _ _).2<=_;lia]
theorem T2{x y:Nat×Nat}(a:Sml x 3600 60)(b:Sml y 3600 60):x.1*y.2+y.1*x.2<=432000/\x.2*y.2<=3600/\0<x.2*y.2:=by
 have c:=iV a.top b.bot;have d:=iV b.top a.bot;have e:=iV a.bot b.bot;exact#[6,ŋ,uW a.pos b.pos]
def ZV(e:Sml x 3600 60)(f:Sml y 3600 60):Sml (As x y) 432000 3600:=í (T2 e f) λb c d=>by have a:=Km (x.1*y.2+y.1*x.2) (x.2*y.2);exact#[aR a.1 b,FC d,aR a.2 c]
def DD{fs}{R:List Rw}(h:iN R<=60)(c:Ch):Sml (dC fs R c) 432000 3600:=
 ZV (B1 (aR (aS _ _) h)) (B1 (aR (aS _ _) h))
theorem P4:∀(l:ŵ)(c:Nat),c ∣ l.foldl (λc x=>c.lcm x.2) c/\∀x∈l,x.2 ∣ l.foldl (λc x=>c.lcm x.2) c
|[],c=>#[Nat.dvd_refl _,λx hx=>by cases hx]
|y::l,c=>Ì (P4 l (c.lcm y.2)) λa b=>by
 refine#[aPd (Nat.dvd_lcm_left _ _) a,λx hx=>?_];rcases aN.mp hx with rfl | hx
 .exact aPd (Nat.dvd_lcm_right _ _) a
 .exact b x hx
theorem P3:∀(l:ŵ)(c:Nat),0<c->(∀x∈l,0<x.2)->0<l.foldl (λc x=>c.lcm x.2) c
|[],c,h,_=>h
|y::l,c,h,g=>P3 l _ (Nat.lcm_pos h (g y (aJ ..))) λx a=>g x (aE _ a)
def O8{B:Nat}{x:Nat×Nat}:XF B x=((x.1*(B / x.2):Nat):Int):=by
 unfold XF;rw[eS,wJ]
def aHq{B:Nat}{x y:Nat×Nat}(k:0<B)(l:x.2 ∣ B)(m:y.2 ∣ B)(f:0<x.2)(g:0<y.2):XF B x<XF B y↔x.1*y.2<y.1*x.2:=by
 rw[O8,O8,aX9];refine Ë l λa e=>Ë m λb hb=>?_;have i:B / x.2=a:=by rw[e];exact QN a f
 have j:B / y.2=b:=by rw[hb];exact QN b g
 rw[i,j];have c:x.1*a*(x.2*y.2)=B*(x.1*y.2):=by rw[e];simp only[kT,kP,hU]
 have d:y.1*b*(x.2*y.2)=B*(y.1*x.2):=by rw[hb];simp only[kT,kP,hU]
 constructor
 .intro h;have:=sU h (uW f g);rw[c,d]at this;exact Nat.lt_of_mul_lt_mul_left this
 .intro h;have:=Nat.mul_lt_mul_of_pos_left h k;rw[<- c,<- d]at this;exact tT this
theorem aXr{fs}(F:dY fs an)(R:List Rw)(m:Int):iN (jK fs R m)<=100:=by
 have c:=oP F fs λg b=>b;have a:=aS (Ħ fs R m) (I0 fs);rw[M6]at a;have n5:=F.n5;show((I0 fs).filter _).length<=_;lia
def aCt(fs:Fs)(R:List Rw)(m:Int):iN (MQ fs R m)=iN (jK fs R m):=by unfold MQ YT;rw[aB,aB]
def xN(fs:Fs)(R:List Rw)(m:Int):iN (IW fs R m)=iN (jK fs R m):=by unfold IW;rw[aB]
def MP{fs}{m:Int}{i:Nat}(h:i<iN (jK fs R m)):(MQ fs R m).getD i 0=XF (AM (YT fs R m)) (dC fs R (jK fs R m)[i]):=by
 unfold MQ;rw[cU,aK];unfold YT;rw[aK,aC h];rfl
def VM{fs}{m:Int}{i:Nat}(h:i<iN (jK fs R m)):(IW fs R m).getD i ES=SQ fs R (jK fs R m)[i]:=by
 unfold IW;rw[cU,aK,aC h];rfl
def aNl{fs}{R:List Rw}{m:Int}(a:iN R<=60){i j:Nat}(b:i<iN (jK fs R m))(d:j<iN (jK fs R m)) :
  (MQ fs R m).getD i 0<(MQ fs R m).getD j 0↔(dC fs R (jK fs R m)[i]).1*(dC fs R (jK fs R m)[j]).2<(dC fs R (jK fs R m)[j]).1*(dC fs R (jK fs R m)[i]).2:=by
 rw[MP b,MP d]
 have e:∀x∈YT fs R m,0<x.2:=λx f=>by
  let c z y:=Ê (aM.mp f);subst y;exact(DD a c).pos
 have hd:=(P4 (YT fs R m) 1).2;exact aHq (P3 _ _ cS e) (hd _ (YH (fC b))) (hd _ (YH (fC d))) (DD a _).pos (DD a _).pos
def Xn:kK:=λb Q=>∃a bs m,b=[cN [eE a,eE bs],aW m]/\Q (QM (decide (m<=(iN a:Int))&&decide (m<=(iN bs:Int))))
def Yk:kK:=λa Q=>∃x y,a=[QH x,QH y]/\Sml x 3600 60/\Sml y 3600 60/\Q (QH (As x y))
def Ym:kK:=λa Q=>∃l,a=[eE (l.map QH)]/\(∀x∈l,0<x.2/\x.2<=1000000)/\Q (aW (AM l:Nat))
def Xo:QJ:=λb Q=>∃fs an a m,b=[dQ fs an,eE (a.map cV),aW m]/\dY fs an/\eV fs an a/\iN a<=60/\∀J,zk fs a m J->Q (Cm fs a m J)
def WN:∀(l:List Sl)(a b c x y z:Sl),((((((l.set 0 a).set 1 b).set 2 c).set 0 x).set 1 y).set 2 z)=((l.set 0 x).set 1 y).set 2 z
|[],_,_,_,_,_,_=>rfl
|[_],_,_,_,_,_,_=>rfl
|[_,_],_,_,_,_,_,_=>rfl
|_::_::_::_,_,_,_,_,_,_=>rfl
def aHk{l:ET}{Q:D->Prop}{ts:List D}(g:vR ti σ ts)(f:D->D)(r:iN ts<=100000)(n:∀x∈ts,∃a b c,x=cN [a,b,c])(p:∀a b c q,cN [a,b,c]∈ts->q (f (cN [a,b,c]))->l ((((kX fr σ).set 0 (.val a)).set 1 (.val b)).set 2 (.val c)) q)(o:Q (eE (ts.map f))):YS fr ti (zx 0 1 2) D8 l σ Q:=by
 refine g _ #[r,λk d e=>(∀x y z,((d.set 0 (.val x)).set 1 (.val y)).set 2 (.val z)=(((kX fr σ).set 0 (.val x)).set 1 (.val y)).set 2 (.val z))/\e=(ts.take k).map f,#[λ_ _ _=>rfl,1],λk x d e j h=>?_,λd e h=>?_]
 .refine ñ e h λm=>?_;have i:=aU j;let a b c w:=Ô (n x i);subst w;refine#[ϟ,a,b,c,12];rw[m a b c];refine p a b c _ i #[λx y z=>WN _ _ _ _ _ _ _,2];rw[cE,j,bA];rfl
 .refine ñ e h λ_=>?_;rw[cK];exact o
def pN(x y:Nat×Nat):Bool:=decide (x.1*y.2<y.1*x.2)
def rX(fs:Fs)(R:List Rw)(b x:Ch):Ch:=if pN (dC fs R x) (dC fs R b)=ww then x else b
def yh(fs:Fs)(R:List Rw):List Ch->Option Ch
|[]=>wx
|c::l=>wz (l.foldl (rX fs R) c)
def qM(fs:Fs)(R:List Rw)(m:Int):Option Ch:=(yh fs R (jK fs R m)).filter λc=>pN (dC fs R c) (D4 R)
def Ff(fs:Fs)(R:List Rw):Option Ch->D
|some c=>SQ fs R c
|none=>ES
def Az(k:Nat->Int)(n p:Nat):Prop:=p<n/\(∀q,q<n->k p<=k q)/\∀q,q<p->k p<k q
theorem aC1{k:Nat->Int}{n p q:Nat}(c:Az k n p)(d:Az k n q):p=q:=by
 rcases EU p q with z | z | z
 .have a:=d.2.2 p z;have b:=c.2.1 q d.1;lia
 .exact z
 .have a:=c.2.2 q z;have b:=d.2.1 p c.1;lia
theorem ZY{n:Nat}{k:Nat->Int}{i:Nat}(h:SS.QI n k (i::J)):Az k n i:=by
 have lo:∀q,q<n->i<n/\(k i<k q\/(k i=k q/\i<=q)):=h.hd;have b:=h.lt i (aJ ..);refine#[b,λq a=>?_,λq a=>?_]
 .have:=lo q a;lia
 .have:=lo q (sV ‹_› ‹_›);lia
theorem Kc{fs}{R:List Rw}(h:iN R<=60)(m:Int):∀(n:Nat)(b:n<iN (jK fs R m)),∃p,∃g:p<iN (jK fs R m),Az (λi=>(MQ fs R m).getD i 0) (n+1) p/\(((jK fs R m).drop 1).take n).foldl (rX fs R) ((jK fs R m)[0]' cT)=(jK fs R m)[p]
|0,b=>#[(0),ŋ,#[6,λq d=>by rw[show q=0 by lia];exact aYz _,λq d=>by lia],by rw[LJ];rfl]
|n+1,b=>by
 obtain⟨p,g,⟨o,f,k⟩,l⟩:=Kc h m n (Nat.lt_of_succ_lt b)
 have j:((jK fs R m).drop 1).take (n+1)=((jK fs R m).drop 1).take n++[(jK fs R m)[n+1]]:=by
  rw[cE,mS,aX8 1 n,aC b];rfl
 have r:=aNl h b g
 have a:(((jK fs R m).drop 1).take (n+1)).foldl (rX fs R) ((jK fs R m)[0]' cT)=rX fs R (jK fs R m)[p] (jK fs R m)[n+1]:=by
  rw[j,EC,l];rfl
 unfold rX pN at a;by_cases c:(dC fs R (jK fs R m)[n+1]).1*(dC fs R (jK fs R m)[p]).2<(dC fs R (jK fs R m)[p]).1*(dC fs R (jK fs R m)[n+1]).2
 .rw[b8 (c6 c)]at a;refine#[n+1,b,#[dN,λq d=>?_,λq d=>?_],a]
  .by_cases e:q=n+1
   .rw[e];exact aYz _
   .have:=f q cT;dsimp only at this |-
    lia
  .have:=f q ŋ;dsimp only at this |-
   lia
 .rw[a9 (by rw[c7 c];decide)]at a;refine#[p,g,#[ō,λq d=>?_,k],a];by_cases e:q=n+1
  .rw[e];dsimp only;lia
  .exact f q cT
def aD7{fs}{R:List Rw}(k:iN R<=60){m:Int}{i:Nat}(h:zk fs R m (i::J)):yh fs R (jK fs R m)=wz ((jK fs R m)[i]'(h.lt i (aJ ..))):=by
 have n:=h.lt i (aJ ..);have c:0<iN (jK fs R m):=by lia
 obtain⟨p,o,f,d⟩:=Kc k m (iN (jK fs R m)-1) (Nat.sub_lt c YE);rw[Nat.sub_add_cancel c]at f;have e:=aC1 f (ZY h);subst e;rw[(kL (by rw[dA];exact aL _))]at d
 obtain⟨a,l,b⟩:∃a l,jK fs R m=a::l:=by
  cases b:jK fs R m with
  |nil=>rw[b]at c;cases c
  |cons a l=>exact#[a,l,1]
 have g:(jK fs R m)[0]=a:=by simp[b]
 have j:(jK fs R m).drop 1=l:=by rw[b];rfl
 rw[g,j]at d;have hb:yh fs R (jK fs R m)=wz (l.foldl (rX fs R) a):=by rw[b];rfl
 rw[hb,d]
def aIt{fs}{m:Int}(h:zk fs R m []):yh fs R (jK fs R m)=none:=by
 have:iN (jK fs R m)=0:=by have:=h.len;simpa using this.symm
 rw[pJ.mp this];rfl
def DI{fs}{m:Int}(h:qM fs R m=wz c):c∈jK fs R m:=by
 have b:=(Option.filter_eq_some_iff.mp h).1
 cases d:jK fs R m with
 |nil=>rw[d]at b;cases b
 |cons a l=>
  rw[d]at b
  have:∀(l:List Ch)(a:Ch),l.foldl (rX fs R) a∈a::l:=by
   intro l
   induction l with
   |nil=>intro a;exact aJ ..
   |cons x l e=>
    intro a;rw[lH];rcases aN.mp (e (rX fs R a x))with z | z
    .rw[z];unfold rX;split
     .exact aE _ (aJ ..)
     .exact aJ ..
    .exact aE _ (aE _ z)
  rw[<- (d7 b)];exact this l a
def Yl:kK:=λa Q=>∃x y,a=[QH x,QH y]/\x.1<=1000000/\y.1<=1000000/\Q (QM (pN x y))
def Xq:kK:=λb Q=>∃fs an a m,b=[dQ fs an,eE (a.map cV),aW m]/\dY fs an/\eV fs an a/\iN a<=60/\Q (Ff fs a (qM fs a m))
def Gr(fs:Fs)(an:List â)(m:Int):Nat->List Rw->Tr->Prop
|0,R,t=>∃a,xV an R a/\t=.jv a
|d+1,R,t=>match qM fs R m with
 |none=>∃a,xV an R a/\t=.jv a
 |some c=>∃y n,Gr fs an m d (yR fs c R) y/\Gr fs an m d (nR fs c R) n/\t=.jt c.1.1 c.1.2.1 c.1.2.2 c.2 y n
theorem VG{fs}{m:Int}:∀(d:Nat){R}{t:Tr},Gr fs an m d R t->jX fs an t/\t.jq<=d
|0,R,t,h=>by
 obtain⟨a,⟨k,e,_⟩,rfl⟩:=h;exact#[aU e,aL _]
|d+1,R,t,h=>by
 unfold Gr at h
 cases e:qM fs R m with
 |none=>
  rw[e]at h;obtain⟨a,⟨k,e,_⟩,rfl⟩:=h;exact#[aU e,bZ _]
 |some c=>
  rw[e]at h;exact Ö h λy n g z=>ñ t z λi=>Ì (VG d g) λb a2=>Ì (VG d i) λf o=>Ì (M5 (cD.mp (DI e)).1) λj l=>#[#[F9 j,l,b,f],by show max y.jq n.jq+1<=d+1;omega]
def wZ(b:Nat):kK:=λc Q=>∃(fs:Fs)(an:List â)(a:List Rw)(d:Nat)(m:Int),c=[dQ fs an,eE (a.map cV),aW d,aW m]/\dY fs an/\eV fs an a/\iN a<=60/\d<b/\∀t,Gr fs an m d a t->Q (gS t)
def Xr:kK:=wZ 7
theorem aB4{Q:D->Prop}(h:wZ 0 ds Q):False:=Ô h λfs an f z=>ì z λd m e F a b c h=>by lia
def BM(fs:Fs)(an:List â)(d:D):Bool:=match d with | cN [c,a]=>fY fs c&&zK an a | _=>wv
def Wx:kK:=λb Q=>∃(fs:Fs)(an:List â)(a:List D),b=[dQ fs an,cN a]/\dY fs an/\Cd (cN a)/\Q (QM (fY fs (cN a)))
def Cr(d:D):Prop:=Cd d/\∃c a,d=cN (cN c::a)
def Wy:kK:=λa Q=>∃(fs:Fs)(an:List â)(d:D),a=[dQ fs an,d]/\dY fs an/\Cr d/\Q (QM (BM fs an d))
def Bd:D->Bool
|cN [cN [_,cN vs],v]=>IV v (cN (vs++[ES]))
|_=>wv
def aG9(fs:Fs)(a:List D):((AR (fs.map nF) a).map Bd).all id=(fs.zip a).all λp=>UX p.1 p.2:=by
 unfold AR;rw[bH,aPg,List.zip_map_left,aPg];apply d9 (λg=>List.all (fs.zip a) g);funext p;exact SI p.1 p.2
section
variable{fs:Fs}{an:List â}
theorem Gj(F:dY fs an){t:Tr}(h:jX fs an t)(hd:t.jq<=40):Cd (gS t):=(ZM F t h).cd cT
theorem UY(a:Cd x)(b:Cd y):RO x y:=#[a.lay,b.lay,by have:=a.jq;lia]
def Rb{s:â}(h:s="yes"\/s="no"):sT s=true:=by
 rcases h with rfl | rfl
 .exact GO
 .exact OV
def VU(F:dY fs an){k n v s:â}(h:jX fs an (.jt k n v s y m)):Cd (cN [aG "ask",cN [aG k,aG n,aG v],aG s]):=
 (wM 27 1 3 (all_cons (kQ RV cS) (all_cons (Fw F h.1) (all_cons (kQ (Rb h.2.1) cS) B7))) (aL _) (aL _) (aL _)).cd cS
end
def UB{c:yT}{g u:xS}(R:Bool->Prop)(P:List Sl->Prop)(h:∀q,(∀b,R b->q b)->c σ q)(i:R ww->∀d,(∀a,P a->d.nx a)->g d σ)(hb:R wv->P σ)(f:∀a,P a->u DT a):jH (kA c g nA) u DT σ:=h _ λb e=>by
 cases b with
 |true=>exact i e { DT with nx:=u DT } f
 |false=>exact f _ (hb e)
def Z3{e:ET}{d:List Sl}{i j l:Nat}(h:∀q,q (cN [a,b,c])->e d q)(k:u DT (((d.set i (.val a)).set j (.val b)).set l (.val c))):jH (Z8 e (zx i j l)) u DT d:=h _ #[ϟ,a,b,c,1,k]
def jx(fs:Fs)(n:â):Nat:=(fs.map (·.1)).idxOf n
def aNo{fs:Fs}{an:List â}(F:dY fs an){k n v:â}(h:XL fs (cN [aG k,aG n,aG v])=ww):∃f,fs[jx fs n]?=wz f/\f∈fs/\f.1=n/\v∈f.2/\(k="is"\/k="upto"):=ó (yN h) λf b a e d=>Ë (cP b) λj c=>by
 have:jx fs n=j:=by rw[<- a];exact MF F c
 exact#[f,by rw[this];exact c,b,a,e,d.imp id λz=>z.1]
abbrev ſ:=List (Nat×Rw)
def jT(a:ſ):Ż:=a.map λe=>((e.1:Int),cV e.2)
def IQ(a:ſ):List D:=a.map λe=>cN [aW (e.1:Nat),cV e.2]
def Pb(C:à):zD (nE C):=λc n b Q=>∃T a,c=oF T/\b=[oF T]/\n.bt=jT a/\Q n (eE (IQ a))
def Ws(C:à):zD (nE C):=λb n a Q=>∃T,b=oF T/\a=[oF T]/\Q n n.st
def Wu(C:à):zD (nE C):=λb n a Q=>∃T j d,b=oF T/\a=[oF T,aW j]/\qJ n.bt j=wz d/\Q n ES
def Wt(C:à):zD (nE C):=λb n a Q=>∃(fs:Fs)(an:List â)(T:Bk)(d:D),b=oF T/\a=[oF T,d]/\dY fs an/\T.fm=dQ fs an/\Cr d/\BM fs an d=ww/\Q n ES
def Wv(C:à):zD (nE C):=λf n c Q=>∃fs an d m T a b,f=oF T/\c=[oF T]/\dY fs an/\T.fm=dQ fs an/\T.dp=(d:Nat)/\T.ls=m/\n.bt=jT a/\eV fs an (a.map (·.2))/\iN a<=60/\d<=6/\n.st=gS b/\jX fs an b/\b.jq<=6 /\
 ∀t,Gr fs an m d (a.map (·.2)) t->∀e,Q { n with st:=gS t } (eE e)
def jW(k:Nat)(a:ſ):ſ:=a.filter λe=>decide (e.1≠k)
def mY(k:Nat)(r:Rw)(a:ſ):ſ:=a.map λe=>if e.1=k then(e.1,r)else e
def qI(k:Nat)(a:ſ):Option Rw:=(a.find? λe=>decide (e.1=k)).map (·.2)
def G5{fs}(h:mG fs an r):BM fs an (cV r)=true:=by
 show(fY fs (cN r.1)&&zK an (aG r.2))=ww;rw[h.1,show zK an (aG r.2)=ww from c6 h.2];rfl
theorem SA{k:Nat}:∀ks,((jT ks).any λe=>decide (e.1=(k:Int)))=ks.any λe=>decide (e.1=k)
|[]=>rfl
|e::ks=>by
 show(decide ((e.1:Int)=(k:Int))||(jT ks).any _)=(decide (e.1=k)||ks.any _);rw[SA ks];congr 1;rw[eR,e8,e8];lia
def xA{k:Nat}(h:∀e∈ks,e.1≠k):GA (jT ks) (k:Nat) (cV r)=jT (ks++[(k,r)]):=by
 unfold GA
 rw[SA,a9 (by
  rw[qP];rintro⟨e,he,z⟩;exact h e he (c8 z))]
 unfold jT;rw[bA];rfl
theorem nX{k:Nat}:qI k ks=wz r->qJ (jT ks) (k:Nat)=wz (cV r):=by
 unfold qI qJ jT;rw[aLm];intro h;let e b:=É r (cM.mp h)
 have a:((λe:Int×D=>decide (e.1=(k:Int)))∘λe:Nat×Rw=>((e.1:Int),cV e.2))=λe:Nat×Rw=>decide (e.1=k):=by
  funext e;show decide ((e.1:Int)=(k:Int))=decide (e.1=k);rw[eR,e8,e8];lia
 rw[a,b];rfl
def BO{k:Nat}(h:qI k ks=wz r):(k,r)∈ks:=É r (cM.mp h) λe a=>by
 rw[<- (c8 (List.find?_some (p:=λe:Nat×Rw=>decide (e.1=k)) a))];exact(List.mem_of_find?_eq_some a)
theorem OH{k:Nat}(h:qI k ks=wz r):GA (jT ks) (k:Nat) (cV r2)=jT (mY k r2 ks):=by
 unfold GA;rw[SA,b8 (qP.mpr #[_,BO h,c6 eH])];unfold jT mY;rw[bH,bH];apply gX;intro e _;show(if(e.1:Int)=(k:Int)then((e.1:Int),cV r2)else((e.1:Int),cV e.2))=(λe:Nat×Rw=>((e.1:Int),cV e.2)) (if e.1=k then(e.1,r2)else e);by_cases z:e.1=k
 .rw[b8 z,b8 cT]
 .rw[a9 z,a9 cT]
theorem BZ(k:Nat)(a:ſ):HJ (jT a) (k:Nat)=jT (jW k a):=by
 unfold HJ jT jW;rw[rS];congr 1;apply uT;intro e _;show decide ((e.1:Int)≠(k:Int))=decide (e.1≠k);rw[eR,e8,e8];lia
def JZ{fs}{a:ſ}{k:Nat}(h:eV fs an (a.map (·.2)))(b:mG fs an r):eV fs an ((a++[(k,r)]).map (·.2)):=λx hx=>by
 rw[bA]at hx;rcases bK.mp hx with hx | hx
 .exact h x hx
 .rw[show x=r from bC.mp hx];exact b
def J1{fs}{a:ſ}{k:Nat}(h:eV fs an (a.map (·.2))):eV fs an ((jW k a).map (·.2)):=λx c=>by
 let e b z:=Ê (aM.mp c);subst z;exact h _ (aM.mpr #[e,(cD.mp b).1,1])
def Lo{fs}{b:ſ}{k:Nat}(h:eV fs an (b.map (·.2)))(f:mG fs an r):eV fs an ((mY k r b).map (·.2)):=λx g=>by
 let e d y:=Ê (aM.mp g);subst y;let a c:=É e (aM.mp d);by_cases z:a.1=k
 .rw[b8 z];exact f
 .rw[a9 z];exact h _ (aM.mpr #[a,c,1])
def Oz(C:à):zD (nE C):=λg n c Q=>∃fs an d m T a k r b,g=oF T/\c=[oF T,cV r]/\dY fs an/\T.fm=dQ fs an/\T.dp=(d:Nat)/\T.ls=m/\n.bt=jT a/\eV fs an (a.map (·.2))/\iN a<60/\d<=6/\n.st=gS b/\jX fs an b/\b.jq<=6/\n.fol=(k:Nat)/\k<=1000/\(∀e∈a,e.1≠k)/\mG fs an r/\Cd (cV r) /\
 ∀t,Gr fs an m d ((a++[(k,r)]).map (·.2)) t->∀f,Q #[jT (a++[(k,r)]),((k+1:Nat):Int),gS t] (cN [aW (k:Nat),eE f])
def OK(C:à):zD (nE C):=λf n c Q=>∃fs an d m T a k r b,f=oF T/\c=[oF T,aW (k:Nat)]/\dY fs an/\T.fm=dQ fs an/\T.dp=(d:Nat)/\T.ls=m/\n.bt=jT a/\eV fs an (a.map (·.2))/\iN a<=60/\d<=6/\n.st=gS b/\jX fs an b/\b.jq<=6/\qI k a=wz r /\
 ∀t,Gr fs an m d ((jW k a).map (·.2)) t->∀e,Q #[jT (jW k a),n.fol,gS t] (cN [cV r,eE e])
def Pa(C:à):zD (nE C):=λg n e Q=>∃fs an d m T a k r b c,g=oF T/\e=[oF T,aW (k:Nat),cV b]/\dY fs an/\T.fm=dQ fs an/\T.dp=(d:Nat)/\T.ls=m/\n.bt=jT a/\eV fs an (a.map (·.2))/\iN a<=60/\d<=6/\n.st=gS c/\jX fs an c/\c.jq<=6/\qI k a=wz r/\mG fs an b/\Cd (cV b) /\
 ∀t,Gr fs an m d ((mY k b a).map (·.2)) t->∀f,Q #[jT (mY k b a),n.fol,gS t] (cN [cV r,eE f])
def xM(C:à):D:=tS [(aW (C:Nat),ES)]
def Fv:kK:=λa Q=>∃fs an d m,a=[dQ fs an,aW (d:Nat),aW m]/\dY fs an/\d<=6/\∀t,Gr fs an m d [] t->Q (gS t)
theorem aMc{fs}(F:dY fs an){a:List Rw}(h:eV fs an a):(iN a:Int)*(iN a:Int)-Ċ ((kY an a).map λc=>c*c)=((GB a a:Nat):Int):=by
 have f:=λr k=>(h r k).2;have b:=UL F.an.2.2 f;have e:=FU F.an.2.2 (λ_=>(iN a:Int)) a f
 have g:∀l:List Rw,Ċ (l.map λ_=>(a.length:Int))=(iN l:Int)*(iN a:Int):=λl=>by
  induction l with
  |nil=>simp
  |cons x l d=>rw[aX,eI,d,bE,kG,aY0];show _=_+1*_;lia
 have i:∀l:List Int,Ċ (l.map λc=>c*((a.length:Int)-c))=Ċ (l.map λc=>c*(a.length:Int))-Ċ (l.map λc=>c*c):=λl=>by
  induction l with
  |nil=>rfl
  |cons x l d=>simp only[aX,eI];rw[d,aYx];lia
 rw[g]at e;rw[i]at b
 have j:Ċ ((kY an a).map λc=>c*(a.length:Int))=(iN a:Int)*(iN a:Int):=by
  unfold kY;rw[bH];exact e
 rw[j]at b;exact b
def gC(fs:Fs)(R:List Rw)(c:Ch):Nat:=GB (yR fs c R) (yR fs c R)*iN (nR fs c R)+GB (nR fs c R) (nR fs c R)*iN (yR fs c R)
def gJ(fs:Fs)(R:List Rw)(c:Ch):Nat:=iN (yR fs c R)*iN (nR fs c R)
def Kl(a b:Nat):(low a b).1*b=a*(low a b).2:=by
 show a / a.gcd b*b=a*(b / a.gcd b);refine Ë (aI7 a b) λx c=>Ë (uY a b) λy d=>?_;by_cases h:a.gcd b=0
 .rw[h,aX7,aX7,aX4,Nat.mul_zero]
 .have e:=Nat.pos_of_ne_zero h;have f:a / a.gcd b=x:=by rw[NS e c]
  have i:b / a.gcd b=y:=by rw[NS e d]
  rw[f,i]
  generalize a.gcd b=g at c d
  subst c d;simp only[kP,hU,kT]
def Lm{x y:Nat×Nat}{a b c d:Nat}(g:x.1*b=a*x.2)(i:y.1*d=c*y.2)(l:0<x.2)(m:0<y.2)(j:0<b)(k:0<d):pN x y=decide (a*d<c*b):=by
 unfold pN;rw[i0]
 have e:x.1*y.2*(b*d)=a*d*(x.2*y.2):=by
  calc x.1*y.2*(b*d)=(x.1*b)*(y.2*d):=by simp only[kP,hU,kT]
   _=(a*x.2)*(y.2*d):=by rw[g]
   _=_:=by simp only[kP,hU,kT]
 have f:y.1*x.2*(b*d)=c*b*(x.2*y.2):=by
  calc y.1*x.2*(b*d)=(y.1*d)*(x.2*b):=by simp only[kP,hU,kT]
   _=(c*y.2)*(x.2*b):=by rw[i]
   _=_:=by simp only[kP,hU,kT]
 refine#[λh=>?_,λh=>?_]
 .have:=sU h (uW j k);rw[e,f]at this;exact tT this
 .have:=sU h (uW l m);rw[<- e,<- f]at this;exact tT this
theorem M1{R:List Rw}(h:0<iN R):(D4 R).1*iN R=GB R R*(D4 R).2/\0<(D4 R).2:=by
 have e:max 1 (iN R)=iN R:=by lia
 unfold D4;rw[e];exact#[Kl _ _,FC h]
def SR{fs}(d:0<iN (yR fs c R))(b:0<iN (nR fs c R)):(dC fs R c).1*gJ fs R c=gC fs R c*(dC fs R c).2/\0<(dC fs R c).2/\0<gJ fs R c:=Ì (M1 d) λa h=>Ì (M1 b) λn1 g=>by
 unfold dC As gJ gC
 generalize D4 (yR fs c R)=x at a h
 generalize D4 (nR fs c R)=z at n1 g
 generalize iN (yR fs c R)=y at a d
 generalize iN (nR fs c R)=n at n1 b
 generalize GB (yR fs c R) (yR fs c R)=p at a
 generalize GB (nR fs c R) (nR fs c R)=q at n1
 have f:=uW h g;have e:=Kl (x.1*z.2+z.1*x.2) (x.2*z.2);refine#[2,FC f,uW d b]
 generalize low (x.1*z.2+z.1*x.2) (x.2*z.2)=S at e
 apply Nat.eq_of_mul_eq_mul_right f
 calc S.1*(y*n)*(x.2*z.2)=(S.1*(x.2*z.2))*(y*n):=by simp only[kP,hU,kT]
  _=((x.1*z.2+z.1*x.2)*S.2)*(y*n):=by rw[e]
  _=(x.1*y)*(z.2*n*S.2)+(z.1*n)*(x.2*y*S.2):=by rw[uZ,uZ];simp only[kP,hU,kT]
  _=(p*x.2)*(z.2*n*S.2)+(q*z.2)*(x.2*y*S.2):=by rw[a,n1]
  _=(p*n+q*y)*S.2*(x.2*z.2):=by rw[uZ,uZ];simp only[kP,hU,kT]
theorem E9{fs}{m:Int}(e:1<=m)(h:Ħ fs R m c=ww):0<iN (yR fs c R)/\0<iN (nR fs c R):=by
 have a:=dE _ _▸h;have b:=c8 a.1;have d:=c8 a.2;omega
def aEd(fs:Fs)(m:Int):qM fs [] m=none:=by
 unfold qM;rw[Option.filter_eq_none_iff];intro c _;have e:D4 []=(0,1):=by decide
 rw[e];show¬decide (_<0*_)=ww;rw[aX4]
 exactλz=>c9 (c8 z) (yW _)
def aMo{fs}{R:List Rw}(a:iN R<=60)(c:Ch):gJ fs R c<=3600:=
 iV (aR (aS _ _) a) (aR (aS _ _) a)
def GL(a:ſ):iN (IQ a)=iN a:=by unfold IQ;rw[aB]
def SW{fs}(F:dY fs an)(h:mG fs an r):Cd (cV r):=(aLy F h).cd cS
def zn{F:vS}{τ}{a:QB F}{n σ}(h:a.nx n σ):ZD τ a n σ:=h
def aD2{fs}(h:fY fs (cN cs)=ww):∀c∈cs,c=ES\/∃f∈fs,∃z∈f.2,c=aG z:=λc d=>Ì (nS h) λe g=>Ë (cP d) λk b=>by
 have a:k<iN fs:=by rw[<- e];exact(aD.mp b).1
 have:=g k fs[k] c (aC a) b
 cases c with
 |none=>exact j3 eH
 |str z=>exact i7 #[_,fC a,z,c8 this,1]
 |_=>cases this
def FP(k:Nat)(r:Rw)(a:ſ):iN (mY k r a)=iN a:=by unfold mY;rw[aB]
def V4(x:D):Prop:=x=ES\/∃z,sT z=ww/\x=aG z
def uE(n:Nat):kK:=λa Q=>∃t,a=[gS t]/\t.kn<=600/\t.jq<n/\Q (aW t.kn)
def Xu:kK:=uE 41
theorem OW{Q:D->Prop}(h:uE 0 ds Q):False:=ó h λ_ _ _ h _=>by lia
def gG(fs:Fs)(t:Tr)(a:ž):Nat:=iN (a.filter λr=>!decide (lU fs t r.1=r.2))
theorem FY{fs}(k n v s:â)(y m:Tr):∀d,gG fs (.jt k n v s y m) d=gG fs y (d.filter (jV fs k n v s))+gG fs m (d.filter λr=>!jV fs k n v s r)
|[]=>rfl
|r::d=>by
 have c:=FY (fs:=fs) k n v s y m d;have e:lU fs (.jt k n v s y m) r.1=if eN fs k n v s r.1="yes" then lU fs y r.1 else lU fs m r.1:=rfl;unfold gG at c |-
 by_cases f:eN fs k n v s r.1="yes"
 .have b:jV fs k n v s r=true:=c6 f;rw[bY (p:=jV fs k n v s),b8 b,bY (p:=λr=>!jV fs k n v s r),a9 (by rw[b];decide)];rw[b8 f]at e;by_cases a:lU fs y r.1=r.2
  .rw[bY,a9 (by rw[e];simp[a]),bY,a9 (by simp[a])];exact c
  .rw[bY,b8 (by rw[e];simp[a]),bY,b8 (by simp[a]),bE,bE,c];exact Nat.add_right_comm _ _ _
 .have b:jV fs k n v s r=false:=c7 f;rw[bY (p:=jV fs k n v s),a9 (by rw[b];decide),bY (p:=λr=>!jV fs k n v s r),b8 (by rw[b];rfl)];rw[a9 f]at e;by_cases a:lU fs m r.1=r.2
  .rw[bY,a9 (by rw[e];simp[a]),bY,a9 (by simp[a])];exact c
  .rw[bY,b8 (by rw[e];simp[a]),bY,b8 (by simp[a]),bE,bE,c];rfl
def XP:kK:=λd Q=>∃fs an t c a b,d=[dQ fs an,gS t,eE (c.map cV),cN [aW a,aW b]]/\dY fs an/\jX fs an t/\t.jq<=40/\t.kn<=600/\eV fs an c/\iN c<=60/\0<=a/\a<=1000000000/\0<=b/\b<=1000000000/\Q (aW (a*(gG fs t c:Nat)+b*(t.kn:Nat)))
abbrev MX:=QH
def lw(fs:Fs)(fa:ž->â)(a b:Int):Tr->ž->Int×Tr
|.jv x,rs=>(a*(gG fs (.jv x) rs:Nat),.jv x)
|.jt k n v s y m,rs=>
 if a*(gG fs (.jv (fa rs)) rs:Nat)<=b+(lw fs fa a b y (rs.filter (jV fs k n v s))).1+(lw fs fa a b m (rs.filter λr=>!jV fs k n v s r)).1 then(a*(gG fs (.jv (fa rs)) rs:Nat),.jv (fa rs))
 else(b+(lw fs fa a b y (rs.filter (jV fs k n v s))).1+(lw fs fa a b m (rs.filter λr=>!jV fs k n v s r)).1,.jt k n v s (lw fs fa a b y (rs.filter (jV fs k n v s))).2 (lw fs fa a b m (rs.filter λr=>!jV fs k n v s r)).2)
theorem U5{fs}{fa:ž->â}(d:FA fs an fa)(a b:Int):∀t c,jX fs an t->eV fs an c->jX fs an (lw fs fa a b t c).2/\(lw fs fa a b t c).2.jq<=t.jq
|.jv z,c,h,_=>#[h,aL _]
|.jt k n v s y m,c,h,hrs=>Ü h λg j l f=>Ì (U5 d a b y (c.filter (jV fs k n v s)) l (hrs.ı _)) λo q=>Ì (U5 d a b m (c.filter λr=>!jV fs k n v s r) f (hrs.ı _)) λp u=>by
 unfold lw;split
 .exact Ê (d c hrs) λi e _=>#[aU e,bZ _]
 .exact#[#[g,j,o,p],by show max _ _+1<=max y.jq m.jq+1;grind]
section
variable{fs:Fs}{fa:ž->â}
def MK(a b:Int)(k n v s:â)(y m:Tr)(c:ž):lw fs fa a b (.jt k n v s y m) c=if a*(gG fs (.jv (fa c)) c:Nat)<=b+(lw fs fa a b y (c.filter (jV fs k n v s))).1+(lw fs fa a b m (c.filter λr=>!jV fs k n v s r)).1 then(a*(gG fs (.jv (fa c)) c:Nat),.jv (fa c))else(b+(lw fs fa a b y (c.filter (jV fs k n v s))).1+(lw fs fa a b m (c.filter λr=>!jV fs k n v s r)).1,.jt k n v s (lw fs fa a b y (c.filter (jV fs k n v s))).2 (lw fs fa a b m (c.filter λr=>!jV fs k n v s r)).2):=rfl
theorem PV(a b:Int)(k n v s:â)(y m:Tr)(c:ž):a*(gG fs (.jt k n v s y m) c:Nat)+b*((Tr.jt k n v s y m).kn:Nat)=b+(a*(gG fs y (c.filter (jV fs k n v s)):Nat)+b*(y.kn:Nat))+(a*(gG fs m (c.filter λr=>!jV fs k n v s r):Nat)+b*(m.kn:Nat)):=by
 rw[FY];show a*((_+_:Nat):Int)+b*((y.kn+m.kn+1:Nat):Int)=_;rw[kG,kG,kG,YK,YK,YK];show _+(_+b*1)=_;rw[aYy];lia
def Js(a b:Int)(z:â)(c:ž):a*(gG fs (.jv z) c:Nat)+b*((Tr.jv z).kn:Nat)=a*(gG fs (.jv z) c:Nat):=by
 show _+b*0=_;rw[TH,TJ]
theorem MI(a b:Int):∀(t:Tr)(c:ž),(lw fs fa a b t c).1=a*(gG fs (lw fs fa a b t c).2 c:Nat)+b*((lw fs fa a b t c).2.kn:Nat)
|.jv z,c=>(Js a b z c).symm
|.jt k n v s y m,c=>by
 have e:=MI a b y (c.filter (jV fs k n v s));have d:=MI a b m (c.filter λr=>!jV fs k n v s r);rw[MK];split
 .exact(Js a b _ c).symm
 .show b+_+_=_;rw[PV,<- e,<- d]
def St(fs:Fs)(fa:ž->â)(a b:Int):Tr->ž->Prop
|.jv _,_=>True
|.jt k n v s y m,rs=>b*((Tr.jt k n v s y m).kn:Nat)+a*(gG fs (.jt k n v s y m) rs:Nat)<a*(gG fs (.jv (fa rs)) rs:Nat)/\St fs fa a b y (rs.filter (jV fs k n v s))/\St fs fa a b m (rs.filter λr=>!jV fs k n v s r)
theorem T6(a b:Int):∀(t:Tr)(c:ž),St fs fa a b (lw fs fa a b t c).2 c
|.jv z,c=>trivial
|.jt k n v s y m,c=>by
 have e:=T6 a b y (c.filter (jV fs k n v s));have d:=T6 a b m (c.filter λr=>!jV fs k n v s r);have g:=MI (fs:=fs) (fa:=fa) a b y (c.filter (jV fs k n v s));have f:=MI (fs:=fs) (fa:=fa) a b m (c.filter λr=>!jV fs k n v s r);rw[MK];split
 .trivial
 .next lj=>
  refine#[2,e,d];have:=PV (fs:=fs) a b k n v s (lw fs fa a b y (c.filter (jV fs k n v s))).2 (lw fs fa a b m (c.filter λr=>!jV fs k n v s r)).2 c;lia
theorem U6(a b:Int):∀(t:Tr)(c:ž),(lw fs fa a b t c).2.kn<=t.kn/\((lw fs fa a b t c).2.kn=t.kn->(lw fs fa a b t c).2=t)
|.jv z,c=>#[aL _,λ_=>rfl]
|.jt k n v s y m,c=>by
 obtain⟨i,g⟩:=U6 a b y (c.filter (jV fs k n v s));obtain⟨h,f⟩:=U6 a b m (c.filter λr=>!jV fs k n v s r);have e:(Tr.jt k n v s y m).kn=y.kn+m.kn+1:=rfl;rw[MK,e];split
 .exact#[bZ _,λz=>by
   have j:0=y.kn+m.kn+1:=z;lia]
 .have d:(Tr.jt k n v s (lw fs fa a b y (c.filter (jV fs k n v s))).2 (lw fs fa a b m (c.filter λr=>!jV fs k n v s r)).2).kn=(lw fs fa a b y (c.filter (jV fs k n v s))).2.kn+(lw fs fa a b m (c.filter λr=>!jV fs k n v s r)).2.kn+1:=rfl;refine#[by dsimp only;rw[d];lia,λz=>?_];dsimp only at z |-
  rw[d]at z;rw[g cT,f cT]
def IE(fs:Fs)(fa:ž->â):Tr->ž->List (Int×Nat)
|.jv _,_=>[]
|.jt k n v s y m,rs=>((gG fs (.jv (fa rs)) rs:Int)-(gG fs (.jt k n v s y m) rs:Nat),(Tr.jt k n v s y m).kn)::(IE fs fa y (rs.filter (jV fs k n v s))++IE fs fa m (rs.filter λr=>!jV fs k n v s r))
theorem LS(a b:Int):∀(t:Tr)(c:ž),St fs fa a b t c↔∀p∈IE fs fa t c,b*(p.2:Nat)<a*p.1
|.jv z,c=>#[λ_ p hp=>by simp[IE]at hp,λ_=>trivial]
|.jt k n v s y m,c=>by
 have g:=LS a b y (c.filter (jV fs k n v s));have f:=LS a b m (c.filter λr=>!jV fs k n v s r);have e:a*((gG fs (.jv (fa c)) c:Int)-(gG fs (.jt k n v s y m) c:Nat))=a*(gG fs (.jv (fa c)) c:Nat)-a*(gG fs (.jt k n v s y m) c:Nat):=aYx _ _ _;constructor
 .rintro⟨d,h1,h2⟩ p hp;rcases aN.mp hp with rfl | hp
  .dsimp only;rw[e];lia
  .rcases bK.mp hp with hp | hp
   .exact g.mp h1 p hp
   .exact f.mp h2 p hp
 .intro h;have d:=h _ (aJ ..);dsimp only at d;rw[e]at d;exact#[6,g.mpr λp hp=>h p (aE _ (gH _ hp)),f.mpr λp hp=>h p (aE _ (cX _ hp))]
theorem A2:∀t a,∀p∈IE fs fa t a,p.1<=iN a/\0<p.2/\p.2<=t.kn
|.jv z,a,p,hp=>by simp[IE]at hp
|.jt k n v s y m,a,p,hp=>by
 have e:(Tr.jt k n v s y m).kn=y.kn+m.kn+1:=rfl;rcases aN.mp hp with rfl | hp
 .have c:gG fs (.jv (fa a)) a<=iN a:=aS _ _;refine#[2,by rw[e];simp,aL _];lia
 .rcases bK.mp hp with hp | hp
  .refine í (A2 y _ p hp) λc b d=>?_;have:=aS (jV fs k n v s) a;exact#[6,b,6]
  .refine í (A2 m _ p hp) λc b d=>?_;have:=aS (λr=>!jV fs k n v s r) a;exact#[6,b,6]
end
section
variable{fs:Fs}{fa:ž->â}
def IS(x p:Nat×Nat):Nat×Nat:=if p.1*x.2<x.1*p.2 then p else x
def qT:Nat×Nat->ŵ->Nat×Nat
|x,[]=>x
|x,p::l=>qT (IS x p) l
theorem AG:∀(l:ŵ)(x:Nat×Nat),qT x l=x\/qT x l∈l
|[],x=>j3 eH
|p::l,x=>by
 show qT (IS x p) l=x\/_;rcases AG l (IS x p)with h | h
 .rw[h];unfold IS;split
  .next h2=>right;show qT (IS x p) l∈_;rw[h];unfold IS;rw[b8 h2];exact aJ ..
  .exact j3 eH
 .exact i7 (aE _ h)
def pY(p:Int×Nat):Nat×Nat:=(Ă p.1 / p.1.toNat.gcd p.2,p.2 / p.1.toNat.gcd p.2)
def ye:Tr->Bool
|.jv _=>ww
|.jt _ _ _ _ _ _=>wv
def wA(fs:Fs)(fa:ž->â)(t:Tr)(a:ž):Nat×Nat:=match(IE fs fa t a).map pY with
|[]=>(0,1)
|x::l=>qT x (x::l)
end
section
abbrev VZ:=(Nat×Nat)×Tr
def lS(x:VZ):D:=cN [cN [aW (x.1.1:Nat),aW (x.1.2:Nat)],gS x.2]
end
def Yc:kK:=λc Q=>∃a b,c=[cN [a,b]]/\Q (cN [b,a])
def wX(d:Nat):kK:=λe Q=>∃fs an fa t c a b,e=[dQ fs an,gS t,eE (c.map cV),cN [aW a,aW b]]/\dY fs an/\FA fs an fa/\jX fs an t/\t.jq<d/\eV fs an c/\iN c<=60/\0<=a/\a<=1000000000/\0<=b/\b<=1000000000/\Q (cN [aW (lw fs fa a b t c).1,gS (lw fs fa a b t c).2])
def Ye:kK:=wX 13
theorem aB2{Q:D->Prop}(h:wX 0 ds Q):False:=ð h λ_ _ _ _ _ _ y=>ë y λ_ _ _ _ _ z=>Ì z λh _=>by omega
def Yd:kK:=λd Q=>∃fs an fa t c a b,d=[dQ fs an,gS t,eE (c.map cV),cN [aW b,aW a]]/\dY fs an/\FA fs an fa/\jX fs an t/\t.jq<13/\eV fs an c/\iN c<=60/\0<=a/\a<=1000000000/\0<=b/\b<=1000000000/\Q (gS (lw fs fa a b t c).2)
section
variable{fs:Fs}{fa:ž->â}
theorem FS:∀t a,iN (IE fs fa t a)=t.kn
|.jv _,_=>rfl
|.jt k n v s y m,a=>by
 show(_::_:List _).length=y.kn+m.kn+1;rw[bE,aV,FS y,FS m]
theorem DX:∀(l:ŵ)(x p:Nat×Nat),qT x (l++[p])=IS (qT x l) p
|[],x,p=>rfl
|e::l,x,p=>DX l (IS x e) p
theorem MJ(a b:Int):∀(t:Tr)(c:ž),(lw fs fa a b t c).2.jq<=t.jq
|.jv z,c=>aL _
|.jt k n v s y m,c=>by
 have d:=MJ a b y (c.filter (jV fs k n v s));have e:=MJ a b m (c.filter λr=>!jV fs k n v s r);rw[MK];split
 .exact bZ _
 .show max _ _+1<=max y.jq m.jq+1;lia
end
def tO(fs:Fs)(fa:List Rw->â)(a:List Rw)(t:Tr):VZ:=(wA fs fa t a,(lw fs fa ((wA fs fa t a).2:Nat) ((wA fs fa t a).1:Nat) t a).2)
def vC(fs:Fs)(fa:List Rw->â)(a:List Rw):Nat->VZ->List VZ
|0,x=>[x]
|n+1,x=>x::if ye x.2=ww then[]else vC fs fa a n (tO fs fa a x.2)
def tN(fs:Fs)(fa:List Rw->â)(T:Tr)(a:List Rw):VZ:=((0,1),(lw fs fa 1 0 T a).2)
def zV(fs:Fs)(fa:List Rw->â)(T:Tr)(a:List Rw):List VZ:=vC fs fa a (tN fs fa T a).2.kn (tN fs fa T a)
theorem ZU{fs}{fa:List Rw->â}{a b:Int}(i:0<a)(hb:0<=b)(f:St fs fa a b t rs):∀e∈IE fs fa t rs,0<e.1:=λe c=>by
 have g:=(LS a b t rs).mp f e c;have h:0<=b*(e.2:Nat):=aO4 hb cT;by_cases d:0<e.1
 .exact d
 .have:=Int.mul_le_mul_of_nonneg_left (show e.1<=0 by lia) (show 0<=a by exact Int.le_of_lt ‹_›);rw[TH]at this;lia
def aHh{fs}{fa:List Rw->â}(b:ye t=wv):∃e∈IE fs fa t rs,wA fs fa t rs=pY e:=by
 cases t with
 |jv z=>cases b
 |jt k n v s y m=>
  refine(AG ((IE fs fa (.jt k n v s y m) rs).map pY) _).elim (λh=>#[Ϙ,_,aJ ..,h]) λh=>?_;exact Ê (aM.mp h) λe a h=>#[Ϙ,e,a,h.symm]
structure Stq(fs:Fs)(an:List â)(fa:List Rw->â)(rs:List Rw)(x:VZ):Prop where
 p1:x.1.1<=60
 q0:0<x.1.2
 q1:x.1.2<=12
 kn:x.2.kn<=12
 jq:x.2.jq<=12
 st:St fs fa (x.1.2:Nat) (x.1.1:Nat) x.2 rs
 tr:jX fs an x.2
theorem ZX{fs}{fa:List Rw->â}{rs:List Rw}{x:VZ}(c:FA fs an fa)(n:eV fs an rs)(w:iN rs<=60)(h:Stq fs an fa rs x)(q:ye x.2=wv):Stq fs an fa rs (tO fs fa rs x.2)/\(tO fs fa rs x.2).2.kn<x.2.kn:=by
 obtain⟨_,q0,_,kn,jq,st,tr⟩:=h;refine Ê (aHh (fs:=fs) (fa:=fa) (rs:=rs) q) λe b p=>í (A2 x.2 rs e b) λt f u=>?_;have v:=ZU cT cT st e b;have l:=aEz (aI7 (Ă e.1) e.2);have m:=aEz (uY (Ă e.1) e.2);have s:0<(pY e).2:=aYu (aI6 _ f) (oV _ f);have z:(pY e).1<=Ă e.1:=sS _ _;have A:(pY e).2<=e.2:=sS _ _;let y r:=Ì (U6 (fs:=fs) (fa:=fa) ((pY e).2:Nat) ((pY e).1:Nat) x.2 rs);have a:=T6 (fs:=fs) (fa:=fa) ((pY e).2:Nat) ((pY e).1:Nat) x.2 rs;have d:=MJ (fs:=fs) (fa:=fa) ((pY e).2:Nat) ((pY e).1:Nat) x.2 rs;have o:=(U5 c ((pY e).2:Nat) ((pY e).1:Nat) x.2 rs tr n).1;unfold tO;rw[p];refine#[#[by dsimp only;grind,s,by dsimp only;lia,by dsimp only;exact aR ‹_› ‹_›,by dsimp only;exact aR ‹_› ‹_›,a,o],2];rcases Nat.lt_or_ge (lw fs fa ((pY e).2:Nat) ((pY e).1:Nat) x.2 rs).2.kn x.2.kn with h | h
 .exact h
 .rw[r (Nat.le_antisymm ‹_› ‹_›)]at a;have k:=(LS _ _ x.2 rs).mp a e b;have i:e.1=(((pY e).1*e.1.toNat.gcd e.2:Nat):Int):=(CF (Int.le_of_lt ‹_›)).symm.trans (d9 _ l.symm);have j:e.2=(pY e).2*e.1.toNat.gcd e.2:=m.symm
  generalize e.1.toNat.gcd e.2=g at i j
  rw[i,j,eS,eS,<- aPh,<- aPh,Int.mul_comm ((pY e).1:Int) ((pY e).2:Int)]at k;exact c9 k (Int.lt_irrefl _)
theorem T3{fs}{fa:List Rw->â}{d:List Rw}(f:FA fs an fa)(g:eV fs an d)(i:iN d<=60):∀(n:Nat)(x:VZ),Stq fs an fa d x->iN (vC fs fa d n x)<=n+1/\∀z∈vC fs fa d n x,Stq fs an fa d z
|0,x,h=>#[aL _,λz c=>by cases bC.mp c;exact h]
|n+1,x,h=>by
 unfold vC
 cases j:ye x.2 with
 |true=>exact#[by rw[b8 rfl];exact Nat.le_add_left ..,λz c=>by rw[b8 rfl]at c;cases bC.mp c;exact h]
 |false=>
  exact Ì (T3 f g i n _ (ZX f g i h j).1) λa b=>#[aI4 a,λz c=>(aN.mp c).elim (λe=>e▸h) (b z)]
def Gb{fs}{fa:List Rw->â}{T:Tr}(a:FA fs an fa)(b:eV fs an rs)(d:jX fs an T)(c:T.kn<=12)(hd:T.jq<=12):Stq fs an fa rs (tN fs fa T rs):=
 #[bZ _,YE,(show 1<=12 by decide),aR (U6 1 0 T rs).1 c,aR (MJ 1 0 T rs) hd,T6 1 0 T rs,(U5 a 1 0 T rs d b).1]
def JU{fs}{fa:List Rw->â}(c:FA fs an fa){t:Tr}{e:List Rw}(i:jX fs an t)(f:eV fs an e)(g:t.kn<=12)(hd:t.jq<=12)(h:iN e<=60):(∀z∈zV fs fa t e,z.1.1<=60/\z.1.2<=12/\z.2.kn<=12/\z.2.jq<=12)/\iN (zV fs fa t e)<=13:=by
 have s:=Gb c f i g hd;exact Ì (T3 c f h _ _ s) λa b=>#[λz d=>#[(b z d).p1,(b z d).q1,(b z d).kn,(b z d).jq],aR a (aI4 s.kn)]
def wW(d:Nat):kK:=λb Q=>∃fs an fa t a,b=[dQ fs an,gS t,eE (a.map cV)]/\dY fs an/\FA fs an fa/\jX fs an t/\t.jq<d/\t.jq<=40/\t.kn<=100/\eV fs an a/\iN a<=60/\(∀e∈IE fs fa t a,0<=e.1)/\Q (cN [aW (gG fs t a:Nat),eE ((IE fs fa t a).map λe=>MX (pY e))])
def Yh:kK:=wW 13
def aB1{Q:D->Prop}(h:wW 0 ds Q):False:=Ô h λ_ _ _ z=>ì z λ_ _ _ _ _ _ h _=>by lia
def Yg:kK:=λb Q=>∃(fs:Fs)(an:List â)(fa:ž->â)(t:Tr)(a:ž),b=[dQ fs an,gS t,eE (a.map cV)]/\dY fs an/\FA fs an fa/\jX fs an t/\t.jq<=12/\t.kn<=12/\ye t=wv/\eV fs an a/\iN a<=60/\(∀e∈IE fs fa t a,0<=e.1)/\Q (MX (wA fs fa t a))
def Yf:QJ:=λb Q=>∃(fs:Fs)(an:List â)(fa:ž->â)(T:Tr)(a:ž),b=[dQ fs an,gS T,eE (a.map cV)]/\dY fs an/\FA fs an fa/\jX fs an T/\T.jq<=12/\T.kn<=12/\eV fs an a/\iN a<=60/\Q ((zV fs fa T a).map lS)
noncomputable instance decD:DecidableEq PyData:=λ_ _=>Classical.propDecidable _
abbrev Ź:=List (List D)
def hI:Ź->List D->Bool
|[],[]=>ww
|e::L,x::c=>decide (x∈e)&&hI L c
|_,_=>wv
def kO(L:Ź):Bool:=L.any List.isEmpty
def gM:Ź->Nat->(D->Bool)->Ź
|[],_,_=>[]
|e::L,0,g=>e.filter g::L
|e::L,j+1,g=>e::gM L j g
def Bg:List D->Nat->(D->Bool)->Bool
|[],_,_=>ww
|x::_,0,g=>g x
|_::c,j+1,g=>Bg c j g
theorem HC:∀{L:Ź}{j:Nat}{g:D->Bool}{e:List D},L[j]?=wz e->gM L j g=L.take j++(e.filter g::L.drop (j+1))
|[],j,g,e,h=>by simp at h
|e0::L,0,g,e,h=>by
 simp only[wE,ao]at h;subst h;rfl
|e0::L,j+1,g,e,h=>by
 simp only[pK]at h;show e0::gM L j g=e0::(L.take j++(e.filter g::L.drop (j+1)));rw[HC h]
theorem HB:∀L j g,iN (gM L j g)=iN L
|[],_,_=>rfl
|_::_,0,_=>rfl
|e::L,j+1,g=>by show(gM L j g).length+1=iN L+1;rw[HB L j g]
theorem KP:∀L j g i,(gM L j g)[i]?=if i=j then L[i]?.map (zO g)else L[i]?
|[],j,g,i=>by show([]:Ź)[i]?=_;split<;>simp
|e::L,0,g,0=>rfl
|e::L,0,g,i+1=>rfl
|e::L,j+1,g,0=>rfl
|e::L,j+1,g,i+1=>by
 show(gM L j g)[i]?=if i+1=j+1 then L[i]?.map (zO g)else L[i]?;rw[KP L j g i];by_cases h:i=j
 .rw[b8 h,b8 cT]
 .rw[a9 h,a9 cT]
theorem xQ:∀{L}{j:Nat}{g:D->Bool}{e:List D},kO L=wv->L[j]?=wz e->kO (gM L j g)=Ą (e.filter g)
|[],j,g,e,_,h=>by simp at h
|e0::L,0,g,e,hn,h=>by
 simp only[wE,ao]at h;subst h;have a:(Ą e0||kO L)=false:=hn;rw[zR]at a;show(Ą (e0.filter g)||kO L)=_;rw[a.2,NY]
|e0::L,j+1,g,e,hn,h=>by
 simp only[pK]at h;have a:(Ą e0||kO L)=false:=hn;rw[zR]at a;show(Ą e0||kO (gM L j g))=_;rw[a.1,NZ];exact xQ a.2 h
theorem QA:∀(L:Ź)(j:Nat)(g:D->Bool)(c:List D),hI (gM L j g) c=(hI L c&&Bg c j g)
|[],j,g,[]=>rfl
|[],j,g,_::_=>rfl
|_::_,0,g,[]=>rfl
|_::_,_+1,g,[]=>rfl
|e::L,0,g,x::c=>by
 show(decide (x∈e.filter g)&&hI L c)=(decide (x∈e)&&hI L c&&g x);rw[eR];simp only[dE,e8,cD];exact#[λ⟨⟨a,b⟩,c⟩=>#[#[a,c],b],λ⟨⟨a,c⟩,b⟩=>#[#[a,b],c]]
|e::L,j+1,g,x::c=>by
 show(decide (x∈e)&&hI (gM L j g) c)=(decide (x∈e)&&hI L c&&Bg c j g);rw[QA L j g c,Bool.and_assoc]
def iW(fs:Fs)(k n v s:â)(x:D):Bool:=match fs[jx fs n]? with | some f=>decide (CS f k v s x="yes") | none=>wv
def eJ(fs:Fs):Tr->Ź->List (Ź×â)
|.jv a,L=>if kO L then[]else[(L,a)]
|.jt k n v s y m,L=>if kO L then[]else eJ fs y (gM L (jx fs n) (iW fs k n v s))++eJ fs m (gM L (jx fs n) λx=>!iW fs k n v s x)
def lV(fs:Fs)(L:Ź):Prop:=iN L=iN fs/\∀(j:Nat) f e,fs[j]?=wz f->L[j]?=wz e->∃p,e=(mB f).filter p
def lV.ı{fs}(h:lV fs L)(j:Nat)(g:D->Bool):lV fs (gM L j g):=by
 refine#[by rw[HB];exact h.1,λi f e c a=>?_];rw[KP]at a;by_cases b:i=j
 .rw[b8 b]at a;exact É e (cM.mp a) λd k=>Ù d (h.2 i f d c k) λp=>#[λx=>g x&&p x,by rw[List.filter_filter]]
 .rw[a9 b]at a;exact h.2 i f e c a
def lV.ļ(fs:Fs):lV fs (fs.map mB):=#[aB _,λj f e b a=>by
 rw[aK,b]at a;cases a;exact#[λ_=>ww,(List.filter_eq_self.mpr λ_ _=>rfl).symm]]
def QU(fs:Fs):kO (fs.map mB)=false:=by
 unfold kO;rw[aE4];intro e a;let f z:=É e (aM.mp a);unfold mB;cases f.2<;>simp
theorem yK{fs}:∀(t:Tr){L},lV fs L->∀r∈eJ fs t L,lV fs r.1/\kO r.1=wv/\∀c,hI r.1 c=ww->hI L c=ww
|.jv a,L,h,r,hr=>by
 have hr':r∈(if kO L then[]else[(L,a)]):=hr
 cases f:kO L with
 |true=>rw[f,b8 rfl]at hr';simp at hr'
 |false=>
  rw[f,a9 cS]at hr';rw[bC.mp hr'];exact#[h,f,λ_ z=>z]
|.jt k n v s y m,L,h,r,hr=>by
 have hr':r∈(if kO L then[]else eJ fs y (gM L (jx fs n) (iW fs k n v s))++eJ fs m (gM L (jx fs n) λx=>!iW fs k n v s x)):=hr;split at hr'
 .simp at hr'
 .have sub:∀g c,hI (gM L (jx fs n) g) c=ww->hI L c=true:=λg c z=>by
   rw[QA,dE]at z;exact z.1
  rcases bK.mp hr' with hr' | hr'
  .exact í (yK y (h.ı _ _) r hr') λb d e=>#[b,d,λc z=>sub _ c (e c z)]
  .exact í (yK m (h.ı _ _) r hr') λb d e=>#[b,d,λc z=>sub _ c (e c z)]
theorem oO(fs:Fs):∀(t:Tr)(L:Ź),iN (eJ fs t L)<=t.kn+1
|.jv a,L=>by
 show(if kO L then[]else[(L,a)]).length<=1;split<;>simp
|.jt k n v s y m,L=>by
 show(if kO L then[]else eJ fs y _++eJ fs m _).length<=y.kn+m.kn+1+1;have b:=oO fs y (gM L (jx fs n) (iW fs k n v s));have c:=oO fs m (gM L (jx fs n) λx=>!iW fs k n v s x);split
 .simp
 .rw[aV];lia
def R5{fs}(h:kO L=ww):eJ fs t L=[]:=by cases t<;>exact b8 h
def uK(L:Ź):D:=cN (L.map cN)
def sZ(r:Ź×â):D:=cN [uK r.1,aG r.2]
def Zs:kK:=λa Q=>∃fs an,a=[dQ fs an]/\dY fs an/\Q (uK (fs.map mB))
def Zu:kK:=λa Q=>∃(L:Ź)(j:Nat)(g:D->Bool)(e:List D),a=[uK L,aW (j:Int),cN (e.filter g)]/\L[j]?=wz e/\iN L<=5/\Q (uK (gM L j g))
def wV(a:Nat):QJ:=λb Q=>∃(fs:Fs)(an:List â)(t:Tr)(L:Ź),b=[dQ fs an,gS t,uK L]/\dY fs an/\jX fs an t/\lV fs L/\kO L=wv/\t.jq<a/\t.jq<=5/\Q ((eJ fs t L).map sZ)
def Zt:QJ:=wV 6
theorem aB0{Q:List D->Prop}(h:wV 0 ds Q):False:=Ò h λ_ _ _ _ _ z=>Û z λ_ _ _ _ h _=>by lia
def Zr:QJ:=λa Q=>∃(fs:Fs)(an:List â)(t:Tr),a=[dQ fs an,gS t]/\dY fs an/\jX fs an t/\t.jq<=5/\Q ((eJ fs t (fs.map mB)).map sZ)
def V4.th(h:V4 x){n m:Nat}(a:8<=n):Th n m x:=by
 rcases h with rfl | ⟨z,b,rfl⟩
 .exact EY
 .exact kQ b a
section
variable{fs:Fs}{an:List â}
def HI(F:dY fs an)(a:f∈fs):∀x∈mB f,V4 x:=λx hx=>by
 rcases bK.mp hx with hx | hx
 .refine Ê (aM.mp hx) λz b y=>?_;subst y;exact i7 #[z,F.Ŗ a z b,1]
 .rw[bC.mp hx];exact j3 eH
def aBr(h:x∈mB f):UX f x=true:=by
 rcases bK.mp h with h | h
 .refine Ê (aM.mp h) λz a y=>?_;subst y;exact c6 a
 .rw[bC.mp h];rfl
def lV.sub(h:lV fs L){j:Nat}(b:fs[j]?=wz f)(a:L[j]?=wz e):∀x∈e,x∈mB f:=λx c=>by
 let p z:=Ë (h.2 j f e b a);subst z;exact(cD.mp c).1
def N9(F:dY fs an){k n v s:â}(a:fs[jx fs n]?=wz f)(b:s="yes"\/s="no")(c:x∈mB f):IV x (cN (qF k v s f))=iW fs k n v s x:=by
 unfold iW;rw[a];show _=decide (CS f k v s x="yes");rw[<- PF b (aBr c)]
 cases IV x (cN (qF k v s f))with
 |true=>rfl
 |false=>rw[a9 cS];exact(c7 cR).symm
end
theorem vJ{fs}:∀(t:Tr){L},jX fs an t->∀{r},r∈eJ fs t L->r.2∈an
|.jv a,L,ht,r,hr=>by
 have hr':r∈(if kO L then[]else[(L,a)]):=hr;split at hr'
 .simp at hr'
 .rw[bC.mp hr'];exact ht
|.jt k n v s y m,L,ht,r,hr=>by
 have hr':r∈(if kO L then[]else eJ fs y (gM L (jx fs n) (iW fs k n v s))++eJ fs m (gM L (jx fs n) λx=>!iW fs k n v s x)):=hr;split at hr'
 .simp at hr'
 .rcases bK.mp hr' with hr' | hr'
  .exact vJ y ht.2.2.1 hr'
  .exact vJ m ht.2.2.2 hr'
def yl:List D->Ź
|cN e::ds=>e::yl ds
|_=>[]
theorem LN:∀L,yl (L.map cN)=L
|[]=>rfl
|e::L=>by show e::yl (L.map cN)=e::L;rw[LN L]
def Zc:kK:=λa Q=>∃(fs:Fs)(an:List â),a=[dQ fs an]/\dY fs an/\Q (eE (fV fs))
def Ze:kK:=λb Q=>∃(fs:Fs)(an:List â)(a:List Rw),b=[dQ fs an,eE (a.map cV)]/\dY fs an/\eV fs an a/\iN a<=60/\Q (cN [aW ((GB a a:Nat):Int),aW ((max 1 (iN a):Nat):Int)])
def IM(fs:Fs)(R:List Rw):Option Ch->D
|none=>ES
|some c=>cN [cN [aW ((gC fs R c:Nat):Int),aW ((gJ fs R c:Nat):Int)],qD c.1,aG c.2]
def Zg:kK:=λb Q=>∃(fs:Fs)(an:List â)(a:List Rw)(m:Int),b=[dQ fs an,eE (a.map cV),aW m]/\dY fs an/\eV fs an a/\iN a<=60/\1<=m/\Q (IM fs a (qM fs a m))
def wT(b:Nat):kK:=λc Q=>∃(fs:Fs)(an:List â)(a:List Rw)(d:Nat)(m:Int),c=[dQ fs an,eE (a.map cV),aW d,aW m]/\dY fs an/\eV fs an a/\iN a<=60/\d<b/\1<=m/\∀t,Gr fs an m d a t->Q (gS t)
def Zh:kK:=wT 7
theorem aBy{Q:D->Prop}(h:wT 0 ds Q):False:=Ô h λfs an f z=>ì z λd m e F a b c h=>by lia
def EX(fs:Fs)(R:List Rw)(m:Int)(s:Option Ch)(c:Ch):Option Ch:=if Ħ fs R m c=ww then wz (match s with | none=>c | some b=>rX fs R b c)else s
theorem TY(fs:Fs)(R:List Rw)(m:Int):∀(l:List Ch)(s:Option Ch),l.foldl (EX fs R m) s=(l.filter (Ħ fs R m)).foldl (EX fs R m) s
|[],s=>rfl
|c::l,s=>by
 rw[lH,TY fs R m l,bY];by_cases z:Ħ fs R m c=ww
 .rw[b8 z,lH]
 .rw[a9 z];have:EX fs R m s c=s:=a9 z;rw[this]
theorem TX{fs}{m:Int}:∀(l:List Ch)(b:Ch),(∀c∈l,Ħ fs R m c=ww)->l.foldl (EX fs R m) (wz b)=wz (l.foldl (rX fs R) b)
|[],b,_=>rfl
|c::l,b,h=>by
 rw[lH,lH];have:EX fs R m (wz b) c=wz (rX fs R b c):=b8 (h c (aJ ..));rw[this];exact TX l _ λx a=>h x (aE _ a)
def aPx(fs:Fs)(R:List Rw)(m:Int):(I0 fs).foldl (EX fs R m) wx=yh fs R (jK fs R m):=by
 rw[TY];unfold jK;have a:∀c∈(I0 fs).filter (Ħ fs R m),Ħ fs R m c=true:=λc b=>(cD.mp b).2
 generalize (I0 fs).filter (Ħ fs R m)=l at a
 cases l with
 |nil=>rfl
 |cons c l=>
  rw[lH];have:EX fs R m wx c=wz c:=b8 (a c (aJ ..));rw[this,TX l c λx d=>a x (aE _ d)];rfl
theorem QZ{fs}{m:Int}:∀(l:List Ch)(s:Option Ch),(∀b,s=wz b->Ħ fs R m b=ww)->∀b,l.foldl (EX fs R m) s=wz b->Ħ fs R m b=ww
|[],s,h,b,e=>h b e
|c::l,s,h,b,e=>by
 rw[lH]at e;refine QZ l _ (λx a=>?_) b e;unfold EX at a;by_cases z:Ħ fs R m c=ww
 .rw[b8 z]at a
  cases s with
  |none=>cases a;exact z
  |some y=>
   have e:rX fs R y c=x:=d7 a;by_cases q:pN (dC fs R c) (dC fs R y)=ww
   .rw[<- e,show rX fs R y c=c from b8 q];exact z
   .rw[<- e,show rX fs R y c=y from a9 q];exact h y eH
 .rw[a9 z]at a;exact h x a
def Mv(a:ſ)(j:Int):Prop:=∀e∈a,(e.1:Int)≠j
def hG(c:ſ):Prop:=c.Pairwise λa b=>a.1<b.1
def Af(a:â)(x:D):Bool:=match x with | cN [_,aG b]=>decide (b=a) | _=>wv
def PJ(a:â)(b:List Rw):iN (((b.map cV).filter (Af a)).map id)=uP b a:=by
 rw[rC,rS,aB,<- List.countP_eq_length_filter];rfl
theorem IZ{a:Nat}{j:Int}(h:a<=1000000000):QC (a:Nat) j:=j3 #[Ŀ,6]
def SJ{n k:Nat}{p:D->Bool}(b:k<n)(f:p (aW (k:Nat))=ww)(e:∀j:Nat,j<k->p (aW (j:Nat))=wv):((eL n).filter p)[0]?=wz (aW (k:Nat)):=by
 rw[<- List.head?_eq_getElem?,List.head?_filter,List.find?_eq_some_iff_getElem];have a:iN (eL n)=n:=jD n;refine#[f,k,by rw[a];exact b,2,λj d=>?_]
 .have:=(iA (aC (l:=eL n) (i:=k) (by rw[a];exact b))).2;exact this
 .have c:j<iN (eL n):=by rw[a];exact sV ‹_› ‹_›
  rw[(iA (aC (l:=eL n) (i:=j) c)).2,e j d];rfl
def Ek(a:List Int)(m:Int)(x:D):Bool:=match x with | aW i=>decide (a.getD (Ă i) (m+1)=m) | _=>wv
def aLv{fs}{m:Int}(a:1<=m)(hb:Ħ fs R m b=ww)(i:Ħ fs R m c=ww):pN (dC fs R c) (dC fs R b)=decide (gC fs R c*gJ fs R b<gC fs R b*gJ fs R c):=Ì (E9 a i) λp1 j=>Ì (E9 a hb) λq1 q2=>í (SR p1 j) λd a2 e=>í (SR q1 q2) λf g h=>Lm d f a2 g e h
def aLw{fs}{R:List Rw}{m:Int}(h:1<=m)(g:Ħ fs R m c=ww):0<iN R/\pN (dC fs R c) (D4 R)=decide (gC fs R c*iN R<GB R R*gJ fs R c):=Ì (E9 h g) λp1 i=>by have a:0<iN R:=bX p1 (aS _ _);exact í (SR p1 i) λb a2 d=>Ì (M1 a) λe f=>#[a,Lm b e a2 f d a]
def xC{R:List Rw}(h:iN R<=60):GB R R<=3600:=aR (L8 R R) (iV h h)
theorem aMn{fs}{R:List Rw}(h:iN R<=60)(c:Ch):gC fs R c<=432000:=by
 have b:iN (yR fs c R)<=60:=aR (aS _ _) h;have a:iN (nR fs c R)<=60:=aR (aS _ _) h;have:=iV (xC b) a;have:=iV (xC a) b;unfold gC;lia
theorem aMq{f c:ſ}{d:List Int}(g:d.Pairwise (·<·))(i:d.Perm ((jT f).map (·.1)))(k:f.Perm c)(l:hG c):d=c.map λe=>(e.1:Int):=by
 refine List.Perm.eq_of_pairwise (le:=(·<=·)) (λa b _ _ j hb=>Int.le_antisymm j hb) (g.imp λh=>by exact Int.le_of_lt ‹_›) ?_ (i.trans ?_)
 .rw[pR];exact l.imp λh=>by lia
 .unfold jT;rw[bH];exact k.map _
theorem F8{a:ſ}(h:hG a):aYv (a.map (·.1)):=by
 unfold aYv;rw[pR];exact h.imp λh=>by exact cO ‹_›
theorem yO:∀{b:ſ},aYv (b.map (·.1))->∀{e:Nat×Rw},e∈b->qI e.1 b=wz e.2
|a::b,h,e,he=>Ì (jZ.mp h) λc d=>by
 unfold qI;rw[jA];by_cases z:a.1=e.1
 .rw[c6 z];rcases aN.mp he with rfl | he
  .rfl
  .exact c9 (aM.mpr #[e,he,z.symm]) c
 .rw[c7 z];rcases aN.mp he with rfl | he
  .exact c9 eH z
  .exact yO d he
def MW{c a:ſ}(b:c.Perm a)(f:hG a){e:Nat×Rw}(d:e∈a):qI e.1 c=wz e.2:=
 yO ((b.map _).nodup_iff.mpr (F8 f)) (b.mem_iff.mpr d)
def Oc(s:Sl):Bool:=match s with | .Ė _ _=>wv | _=>ww
def Gq{b:List Sl}(h:b.all Oc=ww):∀(j:Nat)(a:List Int)(bt:Ÿ),b[j]?≠wz (.Ė a bt):=λj a bt e=>by
 have:=fT.mp h _ (aU e);cases this
def gK{a b:ſ}{j:Int}(d:a.Perm b)(h:Mv b j):qJ (jT a) j=none:=by
 unfold qJ jT;rw[aLm,Option.map_map,wD,CL];intro e c z;exact h e (d.mem_iff.mp c) (c8 z)
def aH1{c a:ſ}(b:c.Perm a)(d:aYv (a.map (·.1))){k:Nat}(h:qI k a=wz r):qI k c=wz r:=
 yO (e:=(k,r)) ((b.map _).nodup_iff.mpr d) (b.mem_iff.mpr (BO h))
def aIk(k:Nat)(b:ſ):∀e∈jW k b,e.1≠k:=λe a=>c8 (cD.mp a).2
theorem KW{k:Nat}:∀{ks:ſ},k∉ks.map (·.1)->jW k ks=ks/\∀b,mY k b ks=ks
|[],_=>#[1,λ_=>rfl]
|a::ks,h=>by
 have c:a.1≠k:=λz=>h (by rw[<- z];exact aJ ..);refine Ì (KW (k:=k) (ks:=ks) λz=>h (aE _ z)) λd e=>#[2,λb=>?_]
 .show zO _ (a::ks)=_;rw[bY,b8 (c6 c)];exact d9 (a::·) d
 .show(if a.1=k then(a.1,b)else a)::mY k b ks=_;rw[a9 c,e]
theorem KN(h:xV an [] a):an[0]?=wz a:=Õ h λk b _ d=>by
 cases k with
 |zero=>exact b
 |succ k=>
  have c:0<iN an:=by have:=(aD.mp b).1;lia
  have:=d 0 _ (TC _) (aC c);exact c9 this (yW _)
def aNv{fs}{m:Int}:∀{d:Nat}{t},Gr fs an m d [] t->∃a,an[0]?=wz a/\t=.jv a
|0,t,⟨a,h,e⟩=>#[a,KN h,e]
|d+1,t,h=>by
 unfold Gr at h;rw[aEd]at h;exact Ê h λa h e=>#[a,KN h,e]
def OE{f:Nat}(h:hG ks)(lt:∀e∈ks,e.1<f)(r:Rw):hG (ks++[(f,r)]):=by
 unfold hG;rw[List.pairwise_append];exact#[h,List.pairwise_singleton _ _,λa c b hb=>by rw[bC.mp hb];exact lt a c]
theorem aDb{fs:Fs}(F:aEu fs an){k:Nat}(c:1<=k)(d:k<=3):dY (fs.take k) an:=by
 have n1:=F.n1;have n5:=F.n5;refine#[by rw[bB];lia,by rw[bB];lia,#[by rw[aB],λy a=>?_,2],λf b=>F.vs f (eG b),F.a2,F.a4,F.an,by rw[bB];lia]
 .rw[CA]at a;exact F.nd.2.1 y (eG a)
 .rw[CA];exact F.nd.2.2.sublist (EB _ _)
theorem TW{k:Nat}:∀{ks:ſ},aYv (ks.map (·.1))->k∈ks.map (·.1)->(jW k ks++[(k,r2)]).Perm (mY k r2 ks)
|a::ks,hn,hk=>Ì (jZ.mp hn) λd e=>by
 show(zO _ (a::ks)++_).Perm ((if a.1=k then(a.1,r2)else a)::mY k r2 ks);rw[bY];by_cases z:a.1=k
 .rw[a9 (by rw[j1];exactλw=>w z),b8 z];let b c:=Ì (KW (k:=k) (ks:=ks) (by rw[<- z];exact d));rw[c,z];show(jW k ks++_).Perm _;rw[b];exact List.perm_append_singleton ..
 .rw[b8 (c6 z),a9 z];exact(TW e ((aN.mp hk).resolve_left λw=>z w.symm)).cons a
def FQ(k:Nat)(r:Rw)(e:Nat×Rw):(if e.1=k then(e.1,r)else e).1=e.1:=by split<;>rfl
def iZ(i:Int):Str:=f8 (im i)
def pP:D->â
|aG z=>z
|_=>"-"
def FN(w:â):D:=if w="-" then ES else aG w
def Qy(s:D):D:=match s with | aG z=>QM (Txt.contains "0123456789" z) | _=>ES
def Al(w:â):List Bool:=w.cps.toList.map λc=>Txt.contains "0123456789" #[(Ŭ [c])]
def G6(w:â):Bool:=decide (1<=v0 w)&&decide (v0 w<=9)&&(Al w).all id&&(decide (w="0")||!Txt.startswith w "0")
def Zx:kK:=λa Q=>∃w,a=[aG w]/\v0 w<=100000/\Q (QM (G6 w))
def qU(a:List â):Bool:=if a.headD ""∈(["tree","rows","rules","steps"]:List â)then decide (iN a=1)else if a.headD ""="out" then decide (iN a=2)&&G6 (a.tail.headD "")else if a.headD ""="turn" then decide (2<=iN a)&&G6 (a.tail.headD "")else decide (a.headD ""∈(["put","judge","why"]:List â))
def Zw:kK:=λa Q=>∃w r,a=[eE ((w::r).map aG)]/\(∀x∈r,v0 x<=100000)/\Q (QM (qU (w::r)))
def aQ1:kK:=λb Q=>∃a:List â,b=[eE (a.map aG)]/\iN a<=1000/\Q (cN (a.map FN))
def Iv:kK:=λa Q=>∃x,a=[x]/\V4 x/\Q (aG (pP x))
def Fh(r:Rw):Str:=Txt.join eF (r.1.map pP++[r.2])
def IU(f:â×List â)(e:List D):Str:=f.1++" in "++Txt.join "/" (e.map pP)
def Yu:kK:=λa Q=>∃f e,a=[nF f,cN e]/\sT f.1=ww/\(∀x∈e,V4 x)/\iN e<=6/\Q (aG (IU f e))
def gY(fs:Fs)(L:Ź):List Str:=((fs.zip L).filter λp=>decide (p.2≠mB p.1)).map λp=>IU p.1 p.2
def oC(fs:Fs)(r:Ź×â):Str:=(if gY fs r.1=[]then("all":â)else Txt.join " and " (gY fs r.1))++" : "++r.2
def Yt:kK:=λa Q=>∃fs an r,a=[dQ fs an,sZ r]/\dY fs an/\lV fs r.1/\r.2∈an/\Q (aG (oC fs r))
def F3(fs:Fs)(t:Tr):Str:=Txt.join "; " ((eJ fs t (fs.map mB)).map (oC fs))
def vY(z:VZ):Str:=iZ (z.1.1:Nat)++"/"++iZ (z.1.2:Nat)++" "++iZ (z.2.kn:Nat)
def Yv:kK:=λa Q=>∃z,a=[MX z.1,gS z.2]/\z.1.1<=60/\z.1.2<=12/\z.2.kn<=12/\z.2.jq<=12/\Q (aG (vY z))
def sX(x y:â):(x++y).cps.toList=aO6 x.cps++aO6 y.cps:=by
 show(Ĉ x++Ĉ y).toList=_;simp
def yD(x y z:â):x++y++z=x++(y++z):=uN (by rw[sX,sX,sX,sX,dM])
def fM(x y:â):v0 (x++y)=v0 x+v0 y:=by
 show(Ĉ x++Ĉ y).size=_;rw[DN];rfl
def XI(x w:â)(a:List â):x++" "++Txt.join eF (w::a)=Txt.join eF (x::w::a):=uN (by
 rw[sX,sX,oQ,oQ,dM];rfl)
def qK{fs}(F:dY fs an)(h:fY fs (cN cs)=ww):∀x∈cs,V4 x:=λx b=>by
 rcases aD2 h x b with rfl | ⟨f,a,z,c,rfl⟩
 .exact j3 eH
 .exact i7 #[z,F.Ŗ a z c,1]
theorem nM{z:â}(h:sT z=ww):z≠"-"/\32∉aO6 z.cps/\v0 z<=8:=by
 refine#[λe=>?_,λa=>c9 ((BF h).2.2 32 a) cR,(uI h).1];subst e;exact c9 h cR
theorem DJ(h:V4 x):FN (pP x)=x/\32∉(pP x).cps.toList/\v0 (pP x)<=8:=by
 rcases h with rfl | ⟨z,d,rfl⟩
 .exact#[b8 eH,cR,cR]
 .exact í (nM d) λa b c=>#[a9 a,b,c]
theorem ZG:∀{a:List D},(∀x∈a,V4 x)->(a.map pP).map FN=a
|[],_=>rfl
|x::a,h=>by rw[aX,aX,ZG λy b=>h y (aE _ b),(DJ (h x (aJ ..))).1]
def CV{fs}(F:dY fs an){r:Rw}(h:mG fs an r):∃w a,r.1.map pP++[r.2]=w::a/\(∀x∈w::a,32∉aO6 x.cps/\v0 x<=8)/\iN a=iN r.1:=by
 cases e:r.1.map pP++[r.2]with
 |nil=>simp at e
 |cons w a=>
  refine#[ϛ,w,a,1,λx hx=>?_,2]
  .rw[<- e]at hx;rcases bK.mp hx with hx | hx
   .refine Ê (aM.mp hx) λy b z=>?_;subst z;exact(DJ (qK F h.1 y b)).2
   .rw[bC.mp hx];exact(nM (F.an.2.1 _ h.2)).2
  .have:=d9 iN e;rw[aV,aB,bE]at this;exact(Nat.succ.inj this).symm
theorem jR{n:Nat}:∀{ws:List â},(∀w∈ws,v0 w<=n)->Ċ (ws.map (·.length))<=n*iN ws
|[],_=>bZ _
|w::ws,h=>by
 have b:=h w (aJ ..);have c:=jR λx a=>h x (aE _ a);rw[aX,eI,bE,Nat.mul_succ];lia
def xG(s:â)(a:List â):v0 (Txt.join s a)<=Ċ (a.map (·.length))+iN a*v0 s:=by
 show(l0 s a).length<=_;rw[i5];exact du s a
theorem F5{fs}(F:dY fs an){r:Rw}(h:mG fs an r):v0 (Fh r)<=60/\iN r.1<=5:=Ø (CV F h) λw g e hw f=>by
 have a:=xG eF (r.1.map pP++[r.2]);have b:=jR λx c=>(hw x c).2;have hb:v0 eF=1:=cR
 have d:=(nS h.1).1;have n5:=F.n5;unfold Fh;rw[e,hb,YF]at a;rw[e];rw[bE]at a b;lia
theorem GZ{f:â×List â}{e:List D}(h:sT f.1=ww)(i:∀x∈e,V4 x)(k:iN e<=6):v0 (IU f e)<=70:=by
 have a:=(nM h).2.2;have b:=xG "/" (e.map pP)
 have c:=jR λw hw=>É w (aM.mp hw) λx j=>(DJ (i x j)).2.2
 have d:v0 ("/":â)=1:=cR
 have g:v0 (" in ":â)=4:=cR
 unfold IU;rw[fM,fM,g];rw[d,aB]at b;rw[aB]at c;lia
theorem HL{a:Type}(v:List a)(x:a):iB (v++[x]) wx (wz (-1))=v:=by
 unfold iB;rw[HT.ģ]
 have e:HT.kr (iN (v++[x])) (iN (v++[x])) (wz (-1))=iN v:=by
  rw[aV];unfold HT.kr;simp
  try lia
 rw[e,zQ,xZ,List.take_append_of_le_length (aL _),cK]
def aCn{a:Type}(v:List a)(x:a):iB (v++[x]) (wz (-1)) wx=[x]:=by
 unfold iB
 have e:HT.kr (iN (v++[x])) 0 (wz (-1))=iN v:=by
  rw[aV];unfold HT.kr;simp
  try lia
 rw[e,HT.ģ,List.drop_left,kL dN]
def XU(h:V4 y):dG x y=decide (x=y):=by
 rcases h with rfl | ⟨z,a,rfl⟩
 .cases x<;>first | exact(c6 eH).symm | exact(c7 (λz=>nomatch z)).symm
 .cases x with
  |str w=>
   show(w==z)=_;rw[eR];simp
  |_=>exact(c7 (λz=>nomatch z)).symm
theorem BY:∀{xs ys},(∀y∈ys,V4 y)->LI xs ys=decide (xs=ys)
|[],[],_=>(c6 eH).symm
|[],_::_,_=>(c7 dN).symm
|_::_,[],_=>(c7 dN).symm
|x::xs,y::ys,h=>by
 show(dG x y&&LI xs ys)=_;rw[XU (h y (aJ ..)),BY λz a=>h z (aE _ a),eR];simp
theorem aH5{l:List D}{p:D->Bool}:decide (iN (l.filter p)<iN l)=decide (l.filter p≠l):=by
 rw[i0];have h:=List.filter_sublist (p:=p) (l:=l);exact#[λa b=>by rw[b]at a;lia,λa=>Nat.lt_of_le_of_ne h.length_le λz=>a (h.eq_of_length z)]
def aLo(fs:Fs)(L:Ź):AR (fs.map nF) (L.map cN)=(fs.zip L).map λp=>cN [nF p.1,cN p.2]:=by
 unfold AR;rw[List.zip_map,bH];rfl
theorem uJ{fs:Fs}(F:dY fs an)(d:lV fs L){e:List D}(h:(f,e)∈fs.zip L):f∈fs/\(∀x∈e,V4 x)/\iN e<=6:=Ë (cP h) λj g=>Ì (gU.mp g) λa c=>by have b:=aU a;refine#[b,λx i=>HI F b x (d.sub a c x i),2];refine Ù e (d.2 j f e a c) λp=>?_;have:=(F.vs f b).2.1;refine aR (aS _ _) ?_;unfold mB;rw[aV,aB];show _+1<=6;exact Ō
theorem C4{fs}(F:dY fs an)(d:lV fs L):(∀w∈gY fs L,v0 w<=70)/\iN (gY fs L)<=5:=by
 refine#[λw hw=>?_,2]
 .obtain⟨⟨f,e⟩,h,rfl⟩:=aM.mp hw;exact í (uJ F d (cD.mp h).1) λa b c=>GZ (F.name a) b c
 .have:=F.n5;unfold gY;rw[aB];refine aR (aS _ _) ?_;rw[IH];lia
theorem NJ{a:List â}(h:∀w∈a,v0 w<=70)(c:iN a<=5):Ċ (a.map (·.length))+iN a*v0 (" and ":â)<=400:=by
 have b:=jR h;have e:v0 (" and ":â)=5:=cR
 rw[e];lia
theorem yF{fs}(F:dY fs an){r:Ź×â}(d:lV fs r.1)(e:r.2∈an):v0 (oC fs r)<=500:=Ì (C4 F d) λb c=>by
 have g:=aR (xG " and " (gY fs r.1)) (NJ b c);have h:=(nM (F.an.2.1 _ e)).2.2;have a:v0 (" : ":â)=3:=cR
 have f:v0 ("all":â)=3:=cR
 unfold oC;rw[fM,fM,a];split<;>lia
theorem JY{fs}(F:dY fs an){rs:List (Ź×â)}(h:∀r∈rs,lV fs r.1/\r.2∈an)(c:iN rs<=600):Ċ ((rs.map (oC fs)).map (·.length))+iN (rs.map (oC fs))*v0 ("; ":â)<=16777216:=by
 have b:=jR (n:=500) (ws:=rs.map (oC fs)) λw hw=>É w (aM.mp hw) λr a=>yF F (h r a).1 (h r a).2
 have e:v0 ("; ":â)=2:=cR
 rw[e];rw[aB]at *;lia
theorem OX{fs:Fs}{L:Ź}{j:Nat}(b:fs[j]?=wz f)(a:L[j]?=wz e):gY (fs.take (j+1)) (L.take (j+1))=gY (fs.take j) (L.take j)++(if e≠mB f then[IU f e]else[]):=by
 have c:iN (fs.take j)=iN (L.take j):=by
  have:=(aD.mp b).1;have:=(aD.mp a).1;rw[bB,bB];grind
 unfold gY;rw[cE,cE,b,a,List.zip_append c,fE,bA];congr 1;by_cases h:e=mB f<;>simp[h]
theorem pD:∀k,k<61->v0 (iZ (k:Nat))<=4/\(k:Int).natAbs.log2<1920:=cR
theorem Kn(k:Nat):∀{ls}{c:Nat},c∈jn k ls->c=k\/∃l∈ls,c∈l
|[],c,h=>by cases h
|[p],c,h=>i7 #[p,aJ ..,h]
|p::q::r,c,h=>by
 have a:c∈p++k::jn k (q::r):=h;rcases bK.mp a with h | h
 .exact i7 #[p,aJ ..,h]
 .rcases aN.mp h with h | h
  .exact j3 h
  .exact(Kn k h).imp id λ⟨l,d,b⟩=>#[l,aE _ d,b]
theorem aCj{f:â×List â}(a:sT f.1=ww)(b:∀x∈e,V4 x):lZ (aG (IU f e))=true:=wP λc hc=>by
 unfold IU at hc;rw[sX,sX]at hc;rcases bK.mp hc with hc | hc
 .rcases bK.mp hc with hc | hc
  .exact sV ((uI a).2 c hc) cS
  .have e:(" in ":â).cps.toList=[32,105,110,32]:=cR
   rw[e]at hc;simp only[aN,cZ,j4]at hc;lia
 .have e:(Txt.join "/" (e.map pP)).cps.toList=jn 47 ((e.map pP).map (·.cps.toList)):=by
   show(l0 _ _).cps.toList=_;rw[i5];exact VC 47 _
  rw[e]at hc;rcases Kn 47 hc with rfl | ⟨l,d,hc⟩
  .decide
  .refine Ê (aM.mp d) λw hw y=>?_;subst y;let x g y:=Ê (aM.mp hw);subst y;rcases b x g with rfl | ⟨z,h,rfl⟩
   .rw[show(pP ES).cps.toList=[45] by decide +kernel,bC]at hc;lia
   .exact sV ((uI h).2 c hc) cS
def RX{fs}(F:dY fs an)(i:lV fs L):dH ((gY fs L).map aG)=true:=by
 have c:∀l:List D,(∀x∈l,lZ x=ww)->dH l=true:=λl=>by
  induction l with
  |nil=>exactλ_=>rfl
  |cons a l j=>
   intro h;show(lZ a&&dH l)=ww;rw[h a (aJ ..),j λx b=>h x (aE _ b)];rfl
 let x b:=c _;let w hw z:=Ê (aM.mp b);subst z;obtain⟨⟨f,e⟩,h,rfl⟩:=aM.mp hw;exact í (uJ F i (cD.mp h).1) λd g k=>aCj (F.name d) g
def VL(a:List D):dG (eE a) (eE [])=Ą a:=by cases a<;>rfl
def FW(fs:Fs)(fa:List Rw->â)(t:Tr)(a:List Rw):Str:=Txt.join ", " ((zV fs fa t a).map vY)
theorem CP{z:VZ}(e:z.1.1<=60)(f:z.1.2<=12)(g:z.2.kn<=12):v0 (vY z)<=20:=by
 have c:=(pD z.1.1 Ō).1;have d:=(pD z.1.2 cT).1;have c1:=(pD z.2.kn cT).1;have a:v0 ("/":â)=1:=cR
 have b:v0 (" ":â)=1:=cR
 unfold vY;rw[fM,fM,fM,fM,a,b];lia
def yd:Nat->D->Nat
|n+1,cN [_,_,_,y,m]=>yd n y+yd n m+1
|_,_=>0
theorem SD:∀t n,t.jq<=n->yd n (gS t)=t.kn
|.jv a,n,_=>by cases n<;>rfl
|.jt k n v s y m,0,h=>by have b:max y.jq m.jq+1<=0:=h;lia
|.jt k n v s y m,N+1,h=>by
 have b:max y.jq m.jq+1<=N+1:=h;show yd N (gS y)+yd N (gS m)+1=y.kn+m.kn+1;rw[SD y N Ŋ,SD m N Ŋ]
def Cn(x:D):D:=match x with
|cN [cN [aW a,aW b],t]=>aG (iZ a++"/"++iZ b++" "++iZ (yd 12 t:Nat))
|_=>x
def T4{z:VZ}(h:z.2.jq<=12):Cn (lS z)=aG (vY z):=by
 show aG (_++iZ (yd 12 (gS z.2):Nat))=_;rw[SD _ _ h];rfl
theorem P5{a:List D}(h:a[iN a-1]?=wz x):y0 a (-1)=wz x:=by
 have b:=(aD.mp h).1;unfold y0
 have e:gO (iN a) (-1)=wz (iN a-1):=by
  unfold gO;rw[a9 cS,b8 cT];congr 1;grind
 rw[e];exact h
def Mm(x:D):Bool:=match x with | cN [cN [_,cN vs],cN e]=>decide (e≠vs++[ES]) | _=>wv
def Ml(x:D):D:=match x with | cN [cN [aG n,_],cN e]=>aG (n++" in "++Txt.join "/" (e.map pP)) | _=>x
def Mj(fs:Fs)(x:D):D:=match x with | cN [cN ls,aG a]=>aG (oC fs (yl ls,a)) | _=>x
def Dz(x:D):D:=match x with | cN [_,cN vs]=>cN (vs++[ES]) | _=>x
def lO{F:vS}{c:TZ F}{t u τ DC n σ}(h:∀q,q n wv->c τ n σ q)(k:u τ DC n σ):AS (yk c t ZD) u τ DC n σ:=FJ wv h (λz=>by cases z) λ_=>k
def tX{F:vS}{c:TZ F}{t e u τ DC n σ}(h:∀q,q n ww->c τ n σ q)(k:t τ { DC with nx:=u τ DC } n σ):AS (yk c t e) u τ DC n σ:=FJ ww h (λ_=>k) λz=>by cases z
def oZ{c:yT}(h:∀q,(∀b,b=wv->q b)->c σ q)(k:u DT σ):jH (kA c t nA) u DT σ:=gF _ h (λz=>by cases z) λ_=>k
def pX{c:yT}(h:∀q,(∀b,b=ww->q b)->c σ q)(k:t { DT with nx:=u DT } σ):jH (kA c t e) u DT σ:=gF _ h (λ_=>k) λz=>by cases z
def Kw{c:yT}(h:∀q,(∀b,b=ww->q b)->c σ q)(k:t DT σ):kA c t e DT σ:=qA _ h (λ_=>k) λz=>by cases z
def Ni(x:D):D:=match x with | aG w=>FN w | _=>x
def Ea(x:D):D:=match x with | cN [_,_,d]=>d | _=>ES
structure DL(n:Nat)(x:â):Prop where
 len:x.length<=n
 asc:∀c∈x.cps.toList,c<128
def DL.cd{n:Nat}(h:DL n x):Cd (aG x):=#[wP λc a=>sV (h.asc c a) cS,aA eH]
def aOu{n:Nat}{x:â}{l:List â}(h:x∈l)(k:(l.all λx=>decide (v0 x<=n)&&x.cps.toList.all λc=>decide (c<128))=ww):DL n x:=by
 have:=fT.mp k x h;rw[dE,e8]at this;exact#[this.1,λc a=>c8 (fT.mp this.2 c a)]
def B4{n:Nat}{x:â}(k:(([x]:List â).all λx=>decide (v0 x<=n)&&x.cps.toList.all λc=>decide (c<128))=ww):DL n x:=aOu (bC.mpr eH) k
def G3{s:â}{c:Nat}:∀{a},c∈(Txt.join s a).cps.toList->c∈aO6 s.cps\/∃w∈a,c∈aO6 w.cps:=λ{a} h=>by
 have e:Txt.join s a=ax s a:=i5 ..;rw[e]at h;clear e
 induction a with
 |nil=>cases h
 |cons p r d=>
  cases r with
  |nil=>exact i7 #[p,aJ ..,h]
  |cons q r=>
   have h:c∈(p++s++ax s (q::r)).cps.toList:=h;rw[nZ,nZ]at h;rcases bK.mp h with h | h
   .rcases bK.mp h with h | h
    .exact i7 #[p,aJ ..,h]
    .exact j3 h
   .exact(d h).imp_right λ⟨w,hw,b⟩=>#[w,aE _ hw,b]
theorem aEi{b:List â}{n m:Nat}(h:∀w∈b,DL n w)(d:Ċ (b.map (·.length))+iN b<=m):DL m (Txt.join eF b):=by
 have e:v0 eF=1:=cR
 have:=xG eF b;rw[e,YF]at this;refine#[(aR ‹_› ‹_›),λc a=>?_];rcases G3 a with a | ⟨w,hw,a⟩
 .exact(by decide +kernel:∀c∈eF.cps.toList,c<128) c a
 .exact(h w hw).asc c a
def Q6(a:List â):D:=cN (cN ((iB a wx (wz (-1))).map FN)::(iB a (wz (-1)) wx).map aG)
def Zy:kK:=λb Q=>∃a,b=[eE (a.map aG)]/\iN a<=1000/\Q (Q6 a)
def D7(fs:Fs)(a:List â):Bool:=fY fs (cN (a.map FN))
def Q7(fs:Fs)(an:List â)(a:List â):Bool:=BM fs an (Q6 a)
def F4(v:List â)(a:â):Q6 (v++[a])=cN [cN (v.map FN),aG a]:=by
 unfold Q6;rw[HL,aCn];rfl
def F7(fs:Fs)(an v:List â)(a:â):Q7 fs an (v++[a])=(D7 fs v&&decide (a∈an)):=by
 unfold Q7;rw[F4];rfl
theorem NK:∀{l},(∀x∈l,lZ x=ww)->dH l=ww
|[],_=>rfl
|a::l,h=>by
 show(lZ a&&dH l)=ww;rw[h a (aJ ..),NK λx b=>h x (aE _ b)];rfl
def TR{n:Nat}(h:DL n w):lZ (FN w)=true:=by
 unfold FN;split
 .rfl
 .exact h.cd.lay
def TU(w:â):(FN w).depth<=1:=by
 unfold FN;split<;>exact aA eH
theorem Kf(b:∀x∈ts,lZ x=ww)(c:∀x∈ts,x.depth<=10):lZ (cN ts)=ww/\(cN ts).depth<=11:=by
 refine#[NK b,2];show fH ts+1<=11
 have:∀l:List D,(∀x∈l,x.depth<=10)->fH l<=10:=λl=>by
  induction l with
  |nil=>exactλ_=>bZ _
  |cons a l e=>
   intro h;show max a.depth (fH l)<=10;have:=h a (aJ ..);have:=e λx d=>h x (aE _ d);lia
 have:=this ts c;exact Ō
theorem P0{ws:List â}{n:Nat}(h:∀w∈ws,DL n w):Cd (cN (ws.map FN)):=by
 obtain⟨a,b⟩:=Kf (ts:=ws.map FN) (λx c=>by
  let w hw z:=Ê (aM.mp c);subst z;exact TR (h w hw)) λx c=>by
  let w hw z:=Ê (aM.mp c);subst z;exact aR (TU w) cS
 exact#[a,ŀ]
theorem aIo{n:Nat}(h:∀w∈ws,DL n w):Cd (Q6 ws):=by
 rcases aHn ws with rfl | ⟨v,a,rfl⟩
 .exact#[1,aA eH]
 .rw[F4];refine#[22]
  .show(_&&(_&&ww))=ww;rw[(P0 (ws:=v) (n:=n) λw hw=>h w (gH _ hw)).lay,((h a dN).cd).lay];rfl
  .have e:(cN (v.map FN)).depth<=11:=(Kf (ts:=v.map FN) (λx b=>by
    let w hw z:=Ê (aM.mp b);subst z;exact TR (h w (gH _ hw))) λx b=>by
    let w hw z:=Ê (aM.mp b);subst z;exact aR (TU w) cS).2
   show max (cN (v.map FN)).depth (max 0 0)+1<=60;grind
def aM7{f:â×List â}(h:("-":â)∉f.2)(w:â):UX f (FN w)=(decide (w="-")||decide (w∈f.2)):=by
 unfold FN;by_cases e:w="-"
 .rw[b8 e,c6 e];rfl
 .rw[a9 e,c7 e];rfl
def aNa{fs}(F:dY fs an):∀f∈fs,("-":â)∉f.2:=λf a b=>(nM (F.Ŗ a _ b)).1 eH
def rW(e:Nat×Rw):Str:=Txt.join eF (iZ (e.1:Nat)::(e.2.1.map pP++[e.2.2]))
def zI(a:ſ):Str:=if a=[]then "none" else Txt.join ", " (a.map rW)
theorem zW{fs}(F:dY fs an){b:ſ}(c:eV fs an (b.map (·.2)))(h:∀e∈b,e.1<=60):∀z∈b.map rW,v0 z<=80:=λz k=>by
 have d:v0 eF=1:=cR
 let e a:=É z (aM.mp k);have l:=(pD e.1 (by have:=h e a;exact Ō)).1;let w n f hw g:=Ø (CV F (c e.2 (aM.mpr #[e,a,1])));have m:=(F5 F (c e.2 (aM.mpr #[e,a,1]))).2;have i:=jR λx j=>(hw x j).2;refine aR (xG eF _) ?_;rw[d,f,aX,eI,bE];rw[bE]at i |-
 lia
theorem WR{fs}(F:dY fs an){a:ſ}(d:eV fs an (a.map (·.2)))(f:∀e∈a,e.1<=60)(h:iN a<=60):v0 (zI a)<=90000:=by
 have c:v0 (", ":â)=2/\v0 ("none":â)<=90000:=cR
 unfold zI;split
 .exact c.2
 .have g:=jR (zW F d f);have b:=xG ", " (a.map rW);rw[c.1]at b;rw[aB]at g b;exact aR b cT
theorem KI{k:Nat}(h:qI k ks=wx):qJ (jT ks) (k:Nat)=none:=by
 unfold qI at h;unfold qJ jT;rw[wD,CL]at h;rw[wD,CL];intro x b;let e a z:=Ê (aM.mp b);subst z;have:=h e a;simp only[e8]at this |-
 lia
def aQ0:kK:=λb Q=>∃fs an a,b=[eE (IQ a)]/\dY fs an/\eV fs an (a.map (·.2))/\(∀e∈a,e.1<=60)/\iN a<=60/\Q (aG (zI a))
theorem NI{fs}(F:dY fs an)(b:List D):∀{t},jX fs an t->v0 (lU fs t b)<=8
|.jv a,ht=>(nM (F.an.2.1 _ ht)).2.2
|.jt k n v s y m,ht=>by
 show(if eN fs k n v s b="yes" then lU fs y b else lU fs m b).length<=8;split
 .exact NI F b ht.2.2.1
 .exact NI F b ht.2.2.2
def uA(x:D):Str:=match x with | cN [cN [aG k,aG n,aG v],aG s]=>Txt.join eF [n,k,v,s] | _=>""
def aPw(k n v s:â):Str:=Txt.join eF [n,k,v,s]
def Ys:kK:=λa Q=>∃k n v s,a=[cN [aG k,aG n,aG v],aG s]/\v0 k<=8/\v0 n<=8/\v0 v<=8/\v0 s<=8/\Q (aG (aPw k n v s))
def ME{z:â}(b:sT z=ww):∀c∈aO6 z.cps,c<128:=λc a=>(by decide +kernel:∀c∈hX.cps.toList,c<128) c ((BF b).2.2 c a)
theorem aGq{fs}(F:dY fs an){r:Rw}(h:mG fs an r){w:â}(hw:w∈r.1.map pP++[r.2]):∀c∈aO6 w.cps,c<128:=λc a=>by
 rcases bK.mp hw with hw | hw
 .refine Ê (aM.mp hw) λx b y=>?_;subst y;rcases qK F h.1 x b with rfl | ⟨z,d,rfl⟩
  .exact(by decide +kernel:∀c∈("-":â).cps.toList,c<128) c a
  .exact ME d c a
 .rw[bC.mp hw]at a;exact ME (F.an.2.1 _ h.2) c a
def aOr:∀c∈aO6 eF.cps,c<128:=cR
structure Rws(fs:Fs)(an:List â)(ks:ſ)(f:Nat):Prop where
 F:dY fs an
 ok:eV fs an (ks.map (·.2))
 ris:hG ks
 lt:∀e∈ks,e.1<f
 few:ks.length<=60
 f61:f<=61
def Be(a:ſ)(G:Nat×Rw->D)(x:D):D:=match x with | aW i=>((a.find? λe=>decide (e.1=Ă i)).map G).getD ES | _=>ES
theorem VI:∀{b:ſ},aYv (b.map (·.1))->∀{e:Nat×Rw},e∈b->(b.find? λa=>decide (a.1=e.1))=wz e
|a::b,h,e,he=>Ì (jZ.mp h) λc d=>by
 rw[jA];by_cases z:a.1=e.1
 .rw[c6 z];rcases aN.mp he with rfl | he
  .rfl
  .exact c9 (aM.mpr #[e,he,z.symm]) c
 .rw[c7 z];rcases aN.mp he with rfl | he
  .exact c9 eH z
  .exact VI d he
def VH(c:hG ks)(G:Nat×Rw->D){e:Nat×Rw}(b:e∈ks):Be ks G (aW (e.1:Nat))=G e:=by
 show((ks.find? λa=>decide (a.1=Ă ((e.1:Nat):Int))).map G).getD ES=_;rw[kB,VI (F8 c) b];rfl
def FK{F:vS}{c:TZ F}{t e:SZ F}{τ DC n σ}(R:F.S->Prop)(h:∀q,(∀m,R m->q m wv)->c τ n σ q)(d:∀m,R m->e τ DC m σ):yk c t e τ DC n σ:=h (λn1 b=>if b=ww then t τ DC n1 σ else e τ DC n1 σ) λm a=>by
 rw[a9 cS];exact d m a
def K0(w:â)(x:D):D:=match x with | cN ts=>cN (aG w::ts) | _=>x
def yi(d:Nat)(l:List D):Prop:=iN l<=2^d/\∀x∈l,∃a,x=cN a/\iN a<=d
theorem yi.cons{d e:Nat}{l:List D}(h:yi d l)(w:â)(k:d<=e):yi (e+1) (l.map (K0 w))/\iN l<=2^e:=by
 have:=dR (show 0<2 by decide) k;have:=h.1;refine#[#[by rw[aB,TD];lia,λx a=>?_],(aR ‹_› ‹_›)];let y b z:=Ê (aM.mp a);subst z;exact Þ y (h.2 y b) λf c=>#[0,by rw[bE];lia]
def wY(a:Nat):kK:=λb Q=>∃(fs:Fs)(an:List â)(t u:Tr),b=[gS t,gS u]/\dY fs an/\jX fs an t/\jX fs an u/\t.jq<a/\t.jq<=6/\u.jq<=6/\∀l,yi t.jq l->Q (eE l)
def Xz:kK:=wY 7
theorem aB3{Q:D->Prop}(h:wY 0 ds Q):False:=Ò h λ_ _ _ _ _ z=>Ó z λ_ _ _ h _=>by lia
theorem KO(e:xV an R a)(f:xV an R b):a=b:=Õ e λk d i g=>Õ f λj c l h=>by
 rcases EU k j with q | rfl | q
 .have x:=h k a q d;have y:=i j b c;lia
 .rw[d]at c;cases c;rfl
 .have x:=g j b q c;have y:=l k a d;lia
theorem MV{fs}{m:Int}:∀(d:Nat){R t u},Gr fs an m d R t->Gr fs an m d R u->t=u
|0,R,t,u,⟨a,f,h⟩,⟨b,g,i⟩=>by rw[h,i,KO f g]
|d+1,R,t,u,f,g=>by
 unfold Gr at f g
 cases e:qM fs R m with
 |none=>
  rw[e]at f g;refine Ê f λa f h=>Ê g λb g i=>?_;rw[h,i,KO f g]
 |some c=>
  rw[e]at f g;refine Ö f λo n1 j z=>ñ t z λk=>Ö g λp n a2 z=>ñ u z λl=>?_;rw[MV d j a2,MV d k l]
structure Nk(k:Nat):Prop where
 num:G6 (iZ (k:Nat))=ww
 bl:32∉(iZ (k:Nat)).cps.toList
 int:intText? (iZ (k:Nat))=wz (k:Int)
 asc:DL 9 (iZ (k:Nat))
 lg:(k:Int).natAbs.log2<1920
theorem aNb:∀k∈999999999::eZ 61,G6 (iZ (k:Nat))=ww/\32∉(iZ (k:Nat)).cps.toList/\intText? (iZ (k:Nat))=wz (k:Int)/\(k:Int).natAbs.log2<1920/\(([iZ (k:Nat)]:List â).all λx=>decide (v0 x<=9)&&x.cps.toList.all λc=>decide (c<128))=true:=cR
def nk{k:Nat}(h:k<61\/k=999999999):Nk k:=by
 let a b c d e:=Ó (aNb k (by
  rcases h with h | rfl
  .exact aE _ (oE.mpr h)
  .exact aJ ..))
 exact#[a,b,c,B4 e,d]
def tx(a:List â):Str:=Txt.join eF a
structure Wd(ws:List â):Prop where
 ne:ws≠[]
 len:ws.length<=10
 ok:∀w∈ws,32∉w.cps.toList/\DL 9 w
theorem Wd.split(h:Wd a):Txt.split (tx a) eF=a:=by
 cases a with
 |nil=>exact c9 eH h.ne
 |cons w a=>exact Q4 32 cS _ _ λx b=>(h.ok x b).1
theorem Wd.asc(h:Wd ws):DL 1000 (tx ws):=aEi (λw hw=>(h.ok w hw).2) (by
 have:=jR λw hw=>(h.ok w hw).2.len;have:=h.len;lia)
def TV{x:â}(h:a≠[]):x++" "++tx a=tx (x::a):=by
 cases a with
 |nil=>exact c9 eH h
 |cons w a=>exact XI x w a
theorem Hv:∀w∈(["put","out","turn","judge","why","tree","rows","rules","steps"]:List â),32∉aO6 w.cps/\(([w]:List â).all λx=>decide (v0 x<=9)&&x.cps.toList.all λc=>decide (c<128))=true:=cR
theorem Wd.of{w:â}{ws:List â}(hw:w∈(["put","out","turn","judge","why","tree","rows","rules","steps"]:List â))(a:iN ws<=9)(h:∀w∈ws,32∉aO6 w.cps/\DL 9 w):Wd (w::ws):=#[dN,by rw[bE];exact Ō,λx hx=>by
 rcases aN.mp hx with rfl | hx
 .exact#[(Hv _ hw).1,B4 (Hv _ hw).2]
 .exact h x hx]
def lE(r:Rw):List Str:=r.1.map pP++[r.2]
theorem B5{fs:Fs}(F:dY fs an){c:List D}(h:fY fs (cN c)=ww):(∀w∈c.map pP,(32∉aO6 w.cps/\DL 9 w)/\w≠"")/\iN (c.map pP)=iN fs/\iN fs<=3:=by
 refine#[λw hw=>?_,by rw[aB];exact(nS h).1,F.n3];let x f:=É w (aM.mp hw);have e:=qK F h x f;let v a b:=í (DJ e);rcases e with rfl | ⟨z,d,rfl⟩
 .exact#[#[a,B4 cR],cR]
 .exact#[#[a,ō,ME d],λy=>by rw[show z="" from y]at d;exact c9 d cR]
theorem VY{fs}(F:dY fs an){a:â}(h:a∈an):(32∉aO6 a.cps/\DL 9 a)/\a≠"":=í (nM (F.an.2.1 _ h)) λ_ b c=>#[#[b,ō,ME (F.an.2.1 _ h)],λy=>by rw[y]at h;exact c9 (F.an.2.1 _ h) cR]
theorem tH{fs}(F:dY fs an)(h:mG fs an r):(∀w∈lE r,32∉aO6 w.cps/\DL 9 w)/\iN (lE r)<=4/\lE r≠[]:=í (B5 F h.1) λa b c=>by
 refine#[λw hw=>?_,by unfold lE;rw[aV];show _+1<=4;lia,by simp[lE]];rcases bK.mp hw with hw | hw
 .exact(a w hw).1
 .rw[bC.mp hw];exact(VY F h.2).1
def zY{fs}(F:dY fs an)(h:mG fs an r):Q6 (lE r)=cV r:=by
 unfold lE;rw[F4,ZG (qK F h.1)];rfl
def yQ{fs:Fs}{v:List â}(h:v.length≠iN fs):D7 fs v=false:=by
 unfold D7 fY;dsimp only;rw[aB,c7 h,zS]
def OD{fs:Fs}{an v:List â}(h:v.length≠iN fs):Q7 fs an (v++[a])=false:=by rw[F7,yQ h,zS]
def wL(fs:Fs)(t:Tr)(a:List D):Str:=Txt.join ", " ((mT fs t a).map uA++[lU fs t a])
structure HZ(fs:Fs)(an:List â)(d:Nat)(m:Int)(T:Bk)(ks:ſ)(t:Tr)(f:Nat)(n:EO):Prop where
 rw:Rws fs an ks f
 fm:T.fm=dQ fs an
 dp:T.dp=(d:Nat)
 ls:T.ls=m
 d4:d<=3
 kv:n.bt=jT ks
 st:n.st=gS t
 gr:Gr fs an m d (ks.map (·.2)) t
 fol:n.fol=(f:Nat)
theorem HZ.tr{fs}{d:Nat}{m:Int}{t:Tr}{f:Nat}(h:HZ fs an d m T ks t f n):jX fs an t/\t.jq<=3:=by
 have:=VG d h.gr;have:=h.d4;exact#[by simp_all,6]
abbrev DQ:=EO->â->Prop
def EA(fs:Fs)(an:List â)(d:Nat)(m:Int)(a:ſ)(f:Nat)(n:EO)(e:List â)(Q:DQ):Prop:=
 (∃r,mG fs an r/\(iN a<60/\f<=60)/\e=("put":â)::lE r/\∀b,Gr fs an m d ((a++[(f,r)]).map (·.2)) b->Q #[jT (a++[(f,r)]),((f+1:Nat):Int),gS b] (iZ (f:Nat))) \/
 (∃k r,qI k a=wz r/\e=[("out":â),iZ (k:Nat)]/\∀b,Gr fs an m d ((jW k a).map (·.2)) b->Q #[jT (jW k a),n.fol,gS b] "ok") \/
 (∃k r c,qI k a=wz r/\mG fs an c/\e=("turn":â)::iZ (k:Nat)::lE c/\∀b,Gr fs an m d ((mY k c a).map (·.2)) b->Q #[jT (mY k c a),n.fol,gS b] "ok")
def Ge(fs:Fs)(t:Tr)(n:EO)(w:â)(a:List D)(Q:DQ):Prop:=fY fs (cN a)=ww/\(w="judge"/\Q n (lU fs t a)\/w="why"/\Q n (wL fs t a))
def Gd(fs:Fs)(fa:List Rw->â)(t:Tr)(a:ſ)(n:EO)(w:â)(Q:DQ):Prop:=(w="tree"/\Q n (pW t))\/(w="rows"/\Q n (zI a))\/(w="rules"/\Q n (F3 fs t))\/(w="steps"/\Q n (FW fs fa t (a.map (·.2))))
def yz(fs:Fs)(an:List â)(fa:List Rw->â)(d:Nat)(m:Int)(c:ſ)(t:Tr)(f:Nat)(n:EO)(a:List â)(Q:DQ):Prop:=
 EA fs an d m c f n a Q\/(∃w,a=[w]/\Gd fs fa t c n w Q)\/∃(w:â)(b:List D),a=w::b.map pP/\Ge fs t n w b Q
def Aq(Q:EO->D->Prop):DQ:=λn z=>v0 z<=90000->Q n (aG z)
def Ox(c b:à):zD (nE b):=λg n e Q=>∃(fs:Fs)(an:List â)(fa:List Rw->â)(d:Nat)(m:Int)(T:Bk)(a:ſ)(t:Tr)(f:Nat)(w:â),g=oF T/\e=[NV c T,aG w]/\FA fs an fa/\HZ fs an d m T a t f n/\Gd fs fa t a n w (Aq Q)
def Oy(c b:à):zD (nE b):=λh n e Q=>∃fs an d m T g t f w a,h=oF T/\e=[NV c T,aG w,cN a]/\HZ fs an d m T g t f n/\Ge fs t n w a (Aq Q)
def Ow(e c:à):zD (nE c):=λh n g Q=>∃fs an d m T a t f b,h=oF T/\g=[NV e T,eE (b.map aG)]/\HZ fs an d m T a t f n/\EA fs an d m a f n b (Aq Q)
def Ov(e c:à):zD (nE c):=λh n g Q=>∃(fs:Fs)(an:List â)(fa:List Rw->â)(d:Nat)(m:Int)(T:Bk)(b:ſ)(t:Tr)(f:Nat)(a:List â),h=oF T/\g=[NV e T,aG (tx a)]/\FA fs an fa/\HZ fs an d m T b t f n/\Wd a/\yz fs an fa d m b t f n a (Aq Q)
def Ae(fs:Fs)(an:List â)(c:ſ)(a:List â)(b:Option Bool):Prop:=
 (∃v,a=("put":â)::v/\Q7 fs an v=wv/\b=wz ww) \/
 (∃r,mG fs an r/\iN c=60/\a=("put":â)::lE r/\b=wx) \/
 (∃k v r,qI k c=wz r/\Nk k/\a=("turn":â)::iZ (k:Nat)::v/\Q7 fs an v=wv/\b=wz ww) \/
 (∃k v,qI k c=wx/\Nk k/\(a=[("out":â),iZ (k:Nat)]\/a=("turn":â)::iZ (k:Nat)::v)/\b=wz wv)
def yy(fs:Fs)(an:List â)(c:ſ)(a:List â)(b:Option Bool):Prop:=Ae fs an c a b\/∃(w:â)(v:List â),(w="judge"\/w="why")/\a=w::v/\D7 fs v=wv/\b=wz ww
def Eo(a c d:à):Option Bool->à
|none=>d
|some b=>if b=ww then a else c
def CQ(c b e h i:à):zD (nE b):=λg n f d=>∃(fs:Fs)(an:List â)(T:Bk)(w:â)(a:List â),g=oF T/\f=[NV c T,aG w,cN (a.map FN)]/\dY fs an/\T.fm=dQ fs an/\(∀y∈a,DL 9 y)/\D7 fs a=wv/\d n (xM e)
def Z2(e d g h i:à):zD (nE d):=λk n j f=>∃(fs:Fs)(an:List â)(T:Bk)(c:ſ)(a:List â)(b:Option Bool),k=oF T/\j=[NV e T,eE (a.map aG)]/\dY fs an/\T.fm=dQ fs an/\n.bt=jT c/\Wd a/\Ae fs an c a b/\f n (xM (Eo g h i b))
def aGc(e d g h i:à):zD (nE d):=λk n j f=>∃(fs:Fs)(an:List â)(T:Bk)(c:ſ)(a:List â)(b:Option Bool),k=oF T/\j=[NV e T,aG (tx a)]/\dY fs an/\T.fm=dQ fs an/\n.bt=jT c/\Wd a/\yy fs an c a b/\f n (xM (Eo g h i b))
def A6(f C b g h:à):zD (nE C):=λe n c a=>∃(fs:Fs)(an:List â)(T:Bk)(d:D),e=oF T/\c=[oF T,d]/\dY fs an/\T.fm=dQ fs an/\Cr d/\BM fs an d=wv/\a n (xM b)
def qG(e C f b g:à):zD (nE C):=λd n c a=>∃(T:Bk)(j:Int),d=oF T/\c=[oF T,aW j]/\qJ n.bt j=wx/\a n (xM b)
def aGd(g C b h c:à):zD (nE C):=λf n e a=>∃(fs:Fs)(an:List â)(T:Bk)(d:D),f=oF T/\e=[oF T,d]/\dY fs an/\T.fm=dQ fs an/\Cr d/\((BM fs an d=wv/\a n (xM b))\/(BM fs an d=ww/\iN n.bt=60/\a n (xM c)))
def aGe(a C b c d:à):zD (nE C):=qG a C b c d
def Z1(h C b c i:à):zD (nE C):=λg n f a=>∃(fs:Fs)(an:List â)(T:Bk)(j:Int)(d:D),g=oF T/\f=[oF T,aW j,d]/\dY fs an/\T.fm=dQ fs an/\Cr d/\((qJ n.bt j=wx/\a n (xM c))\/(∃e,qJ n.bt j=wz e/\BM fs an d=wv/\a n (xM b)))
theorem aIp{fs}(F:dY fs an)(h:fY fs (cN cs)=ww):Cd (cN cs):=(wM 45 1 6 (N:=300) (M:=2) (HP F h cS) (by have:=(nS h).1;have:=F.n5;lia) cS cS).cd cS
theorem Bu(r:List â):qU (("put":â)::r)=true:=by
 have d:("put":â)∉(["tree","rows","rules","steps"]:List â)/\("put":â)≠"out"/\("put":â)≠"turn"/\("put":â)∈(["put","judge","why"]:List â):=cR
 unfold qU;rw[oW,a9 d.1,a9 d.2.1,a9 d.2.2.1,c6 d.2.2.2]
theorem U7{w:â}(h:w="judge"\/w="why")(r:List â):qU (w::r)=true:=by
 have d:∀w∈(["judge","why"]:List â),w∉(["tree","rows","rules","steps"]:List â)/\w≠"out"/\w≠"turn"/\w∈(["put","judge","why"]:List â):=cR
 have d:=d w (by rcases h with rfl | rfl<;>simp);unfold qU;rw[oW,a9 d.1,a9 d.2.1,a9 d.2.2.1,c6 d.2.2.2]
theorem GX{k:Nat}(h:Nk k)(v:List â):qU [("out":â),iZ (k:Nat)]=ww/\qU (("turn":â)::iZ (k:Nat)::v)=true:=by
 have d:("out":â)∉(["tree","rows","rules","steps"]:List â)/\("turn":â)∉(["tree","rows","rules","steps"]:List â)/\("turn":â)≠"out":=cR
 unfold qU;rw[oW,a9 d.1,b8 eH,oW,a9 d.2.1,a9 d.2.2,b8 rfl];exact#[h.num,by rw[aLl,oW,h.num,c6 dN];rfl]
def Dn(a:List â):Prop:=∃w r,a=w::r/\w∉(["tree","rows","rules","steps"]:List â)/\w∉(["judge","why"]:List â)/\qU (w::r)=ww
theorem Er:∀w∈(["put","out","turn"]:List â),w∉(["tree","rows","rules","steps"]:List â)/\w∉(["judge","why"]:List â):=cR
def Dn.of{w:â}(h:w∈(["put","out","turn"]:List â))(i:qU (w::r)=ww):Dn (w::r):=#[Ϝ,w,r,1,(Er w h).1,(Er w h).2,i]
theorem Rws.nk{fs}{f:Nat}(w:Rws fs an ks f){k:Nat}(h:qI k ks=wz r):Nk k:=K93.nk (j3 (by
 have:=w.lt _ (BO h);have:=w.f61;dsimp only at *;exact bX ‹_› ‹_›))
def EA.dn{fs}{d:Nat}{m:Int}{f:Nat}(w:Rws fs an ks f)(h:EA fs an d m ks f n ws Q):Dn ws:=by
 rcases h with⟨r,_,_,rfl,_⟩ | ⟨k,r,a,rfl,_⟩ | ⟨k,r,b,a,_,rfl,_⟩
 .exact .of dN (Bu _)
 .exact .of dN (GX (w.nk a) []).1
 .exact .of dN (GX (w.nk a) _).2
def Ae.dn{fs}(h:Ae fs an ks ws b):Dn ws:=by
 rcases h with⟨v,rfl,_⟩ | ⟨r,_,_,rfl,_⟩ | ⟨k,v,r,_,a,rfl,_⟩ | ⟨k,v,_,a,rfl | rfl,_⟩
 .exact .of dN (Bu _)
 .exact .of dN (Bu _)
 .exact .of dN (GX a _).2
 .exact .of dN (GX a []).1
 .exact .of dN (GX a _).2
def EA.ko{fs}{d:Nat}{m:Int}{f:Nat}{Q R:DQ}(g:∀n z,Q n z->R n z)(h:EA fs an d m ks f n ws Q):EA fs an d m ks f n ws R:=by
 rcases h with⟨r,a,c,b,h⟩ | ⟨k,r,a,b,h⟩ | ⟨k,r,i,a,b,c,h⟩
 .exact j3 #[r,a,c,b,λt e=>g _ _ (h t e)]
 .exact i7 (j3 #[ϛ,k,r,a,b,λt e=>g _ _ (h t e)])
 .exact i7 (i7 #[ϡ,k,r,i,a,b,c,λt e=>g _ _ (h t e)])
theorem yz.ko{fs}{fa:List Rw->â}{d:Nat}{m:Int}{f:Nat}{Q R:DQ}(g:∀n z,Q n z->R n z)(h:yz fs an fa d m ks t f n ws Q):yz fs an fa d m ks t f n ws R:=by
 rcases h with h | ⟨w,e,h⟩ | ⟨w,a,e,b,h⟩
 .exact j3 (h.ko g)
 .exact i7 (j3 #[w,e,h.imp (λh=>#[h.1,g _ _ h.2]) λh=>h.imp (λh=>#[h.1,g _ _ h.2]) λh=>h.imp (λh=>#[h.1,g _ _ h.2]) λh=>#[h.1,g _ _ h.2]])
 .exact i7 (i7 #[ϛ,w,a,e,b,h.imp (λh=>#[h.1,g _ _ h.2]) λh=>#[h.1,g _ _ h.2]])
theorem AY{fs}(F:dY fs an)(a:fY fs (cN cs)=ww):∀{t},jX fs an t->∀x∈mT fs t cs,∃k n v s,x=cN [cN [aG k,aG n,aG v],aG s]/\∀z∈([n,k,v,s]:List â),sT z=ww
|.jv _,_,x,hx=>by cases hx
|.jt k n v s y m,ht,x,hx=>by
 have hw:=nV F (.jt k n v s y m) ht;rcases aN.mp hx with rfl | hx
 .refine#[k,n,v,0,λz hz=>?_];have b:∀z∈([n,k,v]:List â),sT z=true:=λz hz=>hw z (bK.mpr (j3 (aE _ (gH [s] hz))));rcases bK.mp (show z∈[n,k,v]++[eN fs k n v s cs]from hz)with hz | hz
  .exact b z hz
  .rw[bC.mp hz];rcases E1 F ht.1 ht.2.1 a with e | e<;>rw[e]<;>decide +kernel
 .by_cases e:eN fs k n v s cs="yes"
  .rw[b8 e]at hx;exact AY F a ht.2.2.1 x hx
  .rw[a9 e]at hx;exact AY F a ht.2.2.2 x hx
theorem TN{fs}(F:dY fs an)(r:fY fs (cN cs)=ww){t:Tr}(d:jX fs an t)(hd:t.jq<=4):Ċ (((mT fs t cs).map uA++[lU fs t cs]).map (·.length))+iN ((mT fs t cs).map uA++[lU fs t cs])*v0 (", ":â)<=1000/\v0 (wL fs t cs)<=1000/\v0 (lU fs t cs)<=8/\Txt.split (wL fs t cs) ", "=(mT fs t cs).map uA++[lU fs t cs]:=by
 have q:=NI F cs d;have E:=AX (fs:=fs) t cs;have c:v0 eF=1/\v0 (", ":â)=2:=cR
 have nm:∀{t:Tr},jX fs an t->sT (lU fs t cs)=true:=λ{t}=>by
  induction t with
  |jv a=>exactλh=>F.an.2.1 _ h
  |jt k n v s y m A u=>
   intro h;show sT (if eN fs k n v s cs="yes" then lU fs y cs else lU fs m cs)=ww;split
   .exact A h.2.2.1
   .exact u h.2.2.2
 have l:∀{z:â},sT z=ww->44∉aO6 z.cps:=λhz b=>c9 ((BF hz).2.2 44 b) cR
 have all:∀z∈(mT fs t cs).map uA++[lU fs t cs],v0 z<=40/\44∉aO6 z.cps:=λz hz=>by
  rcases bK.mp hz with hz | hz
  .refine É z (aM.mp hz) λx e=>?_;let k n v s Z i:=Ò ((AY F r d) x e);subst Z;have j:=xG eF [n,k,v,s];rw[c.1]at j;refine#[aR j (aR (Nat.add_le_add_right (jR (n:=8) λz f=>(nM (i z f)).2.2) _) dO),λb=>?_];rcases G3 b with b | ⟨w,hw,b⟩
   .exact c9 b cR
   .exact l (i w hw) b
  .rw[bC.mp hz];exact#[ŀ,l (nm d)]
 have B:=jR λz hz=>(all z hz).1;have g:=xG ", " ((mT fs t cs).map uA++[lU fs t cs]);rw[c.2]at g;have o:iN ((mT fs t cs).map uA++[lU fs t cs])=iN (mT fs t cs)+1:=by rw[aV,aB];rfl
 rw[o]at B g;refine#[by rw[c.2,o];lia,aR g cT,q,2];unfold wL;have ne:(mT fs t cs).map uA++[lU fs t cs]≠[]:=by simp
 generalize (mT fs t cs).map uA++[lU fs t cs]=L at all ne
 have p:(", ":â)=#[[44,32].toArray]:=cR
 cases L with
 |nil=>exact c9 eH ne
 |cons w C=>rw[p];exact DS cR cS cS w C λx e=>(all x e).2
def LR{x w:â}(e:x=w++" ")(h:ws≠[]):x++tx ws=tx (w::ws):=by rw[e];exact TV h
def CM{w:â}(h:w∈(["put","out","turn","judge","why","tree","rows","rules","steps"]:List â)):Wd [w]:=.of h dN λx a=>by cases a
def Zd:kK:=Iq
def wQ(n:Nat):kK:=uE n
def Zo:kK:=wQ 13
def aBw{Q:D->Prop}(h:wQ 0 ds Q):False:=OW h
def Jm(b:Bool):L2.y0 [aG "no",aG "yes"] (if b then 1 else 0)=wz (aG (if b then "yes" else "no")):=by cases b<;>rfl
def GN{n:Nat}(F:Nat->â)(h:∀i,i<n->sT (F i)=ww)(inj:∀i j,i<n->j<n->F i=F j->i=j):P9 n ((eZ n).map F):=
 #[dN,λy b=>É y (aM.mp b) λi a=>h i (Á a),nodup_range F inj]
@[irreducible] def P2(i:Nat):Nat:=hX.cps.toList.getD i 0
def B3{i:Nat}(h:i<26):hX.cps.toList[i]?=wz (P2 i):=by
 have a:i<iN hX.cps.toList:=by rw[O1];exact h
 unfold P2;rw[cU,aC a];rfl
def VV{i:Nat}(h:i<26):P2 i∈aO6 hX.cps:=aU (B3 h)
def wK(z:â)(t k c:Nat):Str:=Txt.slice z wx (wz (t:Int))++#[(Ŭ [c])]++Txt.slice z (wz ((t:Int)+1)) (wz ((k:Int)+1))
def vA(z:â)(t k c:Nat):(wK z t k c).cps.toList=z.cps.toList.take t++(c::(z.cps.toList.drop (t+1)).take (k-t)):=by
 unfold wK;rw[nZ,nZ,sY,sY];have a:(t:Int)+1=((t+1:Nat):Int):=rfl;have b:(k:Int)+1=((k+1:Nat):Int):=rfl;rw[a,b,aOm,qW,Nat.add_sub_add_right];simp
theorem aHg{z:â}(g:iN z.cps.toList=8)(a:∀c∈aO6 z.cps,c∈aO6 hX.cps):P9 8 ((eZ 8).map λj:Nat=>Txt.slice z wx (wz ((j:Int)+1))):=by
 have e:∀j:Nat,(Txt.slice z wx (wz ((j:Int)+1))).cps.toList=z.cps.toList.take (j+1):=λj=>by
  rw[sY];exact qW _ (j+1)
 let i j f k h:=GN _ (λi f=>?_)
 .refine Kt ?_ ?_ λc d=>?_
  .rw[e,bB];lia
  .rw[e,bB];lia
  .rw[e]at d;exact a c (eG d)
 .have b:=e i;rw[h,e j]at b;have:=d9 iN b;rw[bB,bB]at this;grind
theorem aBu{z:â}(m:iN z.cps.toList=8)(a:∀c∈aO6 z.cps,c∈aO6 hX.cps){k t s:Nat}(p:k<8)(q:t<=k):P9 8 ((eZ 8).map λj:Nat=>wK z t k (P2 ((s+5*j)%26))):=by
 let i j l o h:=GN _ (λi l=>?_)
 .have e:=vA z t k (P2 ((s+5*i)%26));let c hc:=Kt ?_ ?_
  .rw[e,aV,bE];exact TC _
  .rw[e,aV,bE,bB,bB,dA];lia
  .rw[e]at hc;rcases bK.mp hc with hc | hc
   .exact a c (eG hc)
   .rcases aN.mp hc with rfl | hc
    .exact VV (qX _ cS)
    .exact a c (lK (eG hc))
 .have b:=vA z t k (P2 ((s+5*i)%26));have g:wK z t k (P2 ((s+5*i)%26))=wK z t k (P2 ((s+5*j)%26)):=h;rw[g,vA]at b;have f:P2 ((s+5*j)%26)=P2 ((s+5*i)%26):=(n7 (QF b)).1;have n:=B3 (i:=(s+5*i)%26) (qX _ cS);have d:=B3 (i:=(s+5*j)%26) (qX _ cS);rw[f]at d;have:=aHf R4 n d;lia
theorem ZW{z:â}(a:iN z.cps.toList=8):v0 z<=100000:=by
 have:v0 z=iN z.cps.toList:=by simp[v0]
 lia
theorem QT{z:â}(a:iN z.cps.toList=8)(t k c:Nat):v0 (Txt.slice z wx (wz (t:Int)))+1<=100000/\v0 (Txt.slice z wx (wz (t:Int))++(#[(Ŭ [c])]:â))+v0 (Txt.slice z (wz ((t:Int)+1)) (wz ((k:Int)+1)))<=100000:=by
 have b:=Txt.slice_le z wx (wz (t:Int));have a2:=Txt.slice_le z (wz ((t:Int)+1)) (wz ((k:Int)+1));have d:v0 z=iN z.cps.toList:=by simp[v0]
 have a4:v0 (Txt.slice z wx (wz (t:Int))++(#[(Ŭ [c])]:â))=v0 (Txt.slice z wx (wz (t:Int)))+1:=by
  show(Ĉ (Txt.slice z wx (wz (t:Int)))++(Ŭ [_])).size=_;rw[DN];rfl
 rw[a4];lia
theorem aIw{bs:List Int}{n:Nat}(hb:AO n bs)(i:Nat)(h:i<n):∃b:Nat,L2.y0 (bs.map aW) (i:Int)=wz (aW (b:Int)):=Õ (jL hb (i:=(i:Int)) cT cT) λb a _ e=>#[Ă b,by rw[e,CF a]]
theorem Qz{ys:List D}(g:iN ys=iN (eL 8))(o:∀(k:Nat)(x y:D),(eL 8)[k]?=wz x->ys[k]?=wz y->∃c,c∈aO6 hX.cps/\y=aG #[(Ŭ [c])]){q:D->Prop}(p:∀d,(∃z:â,d=aG z/\iN z.cps.toList=8/\∀c∈aO6 z.cps,c∈aO6 hX.cps)->q d):∃h:List â,ys=h.map aG/\Ċ (h.map (·.length))+iN h*v0 (f8 "")<=16777216/\q (aG (Txt.join (f8 "") h)):=by
 obtain⟨b,rfl,f⟩:=N8 (ys:=ys) λy m=>by
  obtain⟨j,n,rfl⟩:=zN.mp m;have i:j<iN (eL 8):=by rw[<- g];exact n
  exact o j (eL 8)[j] _ (aC i) (aC n)
 have e:iN b=8:=by rw[aB,jD]at g;exact g
 refine#[b.map λc=>#[(Ŭ [c])],by rw[bH];rfl,2,p _ #[022]]
 .rw[aB,bH,e]
  have:Ċ (LK ((λx:â=>x.length)∘λc=>(#[(Ŭ [c])]:â)) b)=iN b:=by
   clear e g o f
   induction b with
   |nil=>rfl
   |cons a l r=>rw[aX,eI,r,bE];show 1+_=_;lia
  rw[this,e];decide
 .rw[show(Txt.join (f8 "") (b.map λc=>#[(Ŭ [c])])).cps.toList=b from G2 b];exact e
 .rw[show(Txt.join (f8 "") (b.map λc=>#[(Ŭ [c])])).cps.toList=b from G2 b];exact f
theorem Nn(b j:Nat):((b:Int)+5*(j:Int))%26=(((b+5*j)%26:Nat):Int):=by rfl
def aOt(b:Nat):∃c,c∈aO6 hX.cps/\L2.y0 (aO6 hX.cps) ((b:Int)%26)=wz c:=by
 have h:b%26<26:=qX _ cS;exact#[_,VV h,by rw[show(b:Int)%26=((b%26:Nat):Int)from rfl];exact L2.dU (B3 h)]
def M3{n:Nat}(h:∀w∈ws,DL n w):Cr (Q6 ws):=#[aIo h,31]
def aOn{fs}(F:dY fs an)(h:mG fs an r):Cr (cV r):=#[SW F h,31]
def wS(a:Nat):kK:=λb Q=>∃(fs:Fs)(an:List â)(t:Tr),b=[gS t]/\dY fs an/\jX fs an t/\t.jq<a/\t.jq<=6/\Q (eE ((gI t).map aG))
def Zi:kK:=wS 7
theorem aBx{Q:D->Prop}(h:wS 0 ds Q):False:=ß h λ_ _ _ _ _ _ z=>Ì z λh _=>by lia
def Zj:kK:=Iv
def Zk:kK:=λa Q=>∃(fs:Fs)(an:List â)(r:Rw),a=[cV r]/\dY fs an/\mG fs an r/\Q (eE ((lE r).map aG))
def Zl:kK:=λc Q=>∃(fs:Fs)(an:List â)(b a:ſ)(f:Nat),c=[CH (jT b)]/\b.Perm a/\Rws fs an a f/\Q (aG (zI a))
def Zm:kK:=λb Q=>∃(fs:Fs)(an:List â)(t:Tr)(a:List D),b=[dQ fs an,gS t,cN a]/\dY fs an/\jX fs an t/\fY fs (cN a)=ww/\t.jq<=4/\Q (aG (wL fs t a))
def Zn:kK:=λa Q=>∃(fs:Fs)(an:List â)(t:Tr),a=[dQ fs an,gS t]/\dY fs an/\jX fs an t/\t.jq<=4/\Q (aG (F3 fs t))
def Zp:kK:=λc Q=>∃(fs:Fs)(an:List â)(fa:List Rw->â)(t:Tr)(b a:ſ)(f:Nat),c=[dQ fs an,gS t,CH (jT b)]/\b.Perm a/\FA fs an fa/\Rws fs an a f/\jX fs an t/\t.jq<=3/\Q (aG (FW fs fa t (a.map (·.2))))
def AA(b:Option Bool):D:=eE [QM (b==wz wv),QM (b==wz ww),QM wv]
def Dx(fs:Fs)(an:List â)(fa:List Rw->â)(d:Nat)(m:Int)(a:ſ)(t:Tr)(f:Nat)(n:EO)(c:List â)(Q:EO->D->Prop):Prop:=(∃b,yy fs an a c b/\Q n (AA b))\/yz fs an fa d m a t f n c λe z=>v0 z<=90000->Q e (aG z)
def Zq(e c:à):zD (nE c):=λh n g Q=>∃(fs:Fs)(an:List â)(fa:List Rw->â)(d:Nat)(m:Int)(T:Bk)(b:ſ)(t:Tr)(f:Nat)(a:List â),h=oF T/\g=[NV e T,aG (tx a)]/\FA fs an fa/\HZ fs an d m T b t f n/\Wd a /\
 Dx fs an fa d m b t f n a Q
theorem ϻ{e h n g Q}(fs an fa d m T b t f a)(h1:h=oF T)(h2:g=[NV e T,.str (tx a)])(h3:FA fs an fa)(h4:HZ fs an d m T b t f n)(h5:Wd a)(h6:Dx fs an fa d m b t f n a Q):Zq e e h n g Q:=#[fs,an,fa,d,m,T,b,t,f,a,h1,h2,h3,h4,h5,h6]
theorem U8{i:Nat}{Q:D->Prop}{n:ET}{b a:ſ}(c:σ[i]?=wz (.val (CH (jT b))))(l:b.Perm a)(g:hG a)(s:iN a<=60)(G:Nat×Rw->D)(f:∀e∈a,∀q:D->Prop,q (G e)->n [.val (aW (e.1:Nat)),.val (CH (jT b))] q)(h:Q (eE (a.map G))):YS [wx,wz i] (EM (Jw (zC i))) (gN 0) D8 n σ Q:=by
 have p:iN (jT b)=iN a:=by unfold jT;rw[aB,l.length_eq]
 have d:(kX [wx,wz i] σ)=[.un,.val (CH (jT b))]:=by
  unfold kX;simp[K6,c]
 refine jI (ts:=(a.map λe=>(e.1:Int)).map aW) (λR h=>#[_,c,jT b,16,λt d o=>#[0,by rw[aMq d o l g];exact h]]) (Be a G) (by rw[aB,aB];exact ŀ) (λx q r m=>?_) ?_
 .refine Ê (aM.mp r) λ_ j z=>?_;subst z;let e k z:=Ê (aM.mp j);subst z;rw[VH g G k]at m;rw[d];exact f e k q m
 .have e:((a.map λe=>(e.1:Int)).map aW).map (Be a G)=a.map G:=by
   rw[bH,bH];exact gX λe f=>VH g G f
  rw[e];exact h
def G4(s x w:â)(a:List â):x++s++Txt.join s (w::a)=Txt.join s (x::w::a):=by
 show _++_++l0 s _=l0 s _;rw[i5,i5];rfl
def aFh{fs}{k n v s b:â}(w:mT fs (.jt k n v s y m) cs=cN [cN [aG k,aG n,aG v],aG b]::mT fs p cs)(a:lU fs (.jt k n v s y m) cs=lU fs p cs):wL fs (.jt k n v s y m) cs=Txt.join eF [n,k,v,b]++", "++wL fs p cs:=by
 unfold wL;rw[w,a,aX,kU]
 cases (mT fs p cs).map uA with
 |nil=>exact(G4 _ _ _ _).symm
 |cons x r=>exact(G4 _ _ _ _).symm
section
variable{fs:Fs}{an:List â}{o:â}{j:Nat}
theorem GJ(F:dY fs an){u:List â}(f:iN u=iN fs)(b:sT o=wv)(d:o≠"-")(e:j<iN u):D7 fs (u.take j++[o]++u.drop (j+1))=false:=EE.mpr λz=>Ì (nS z) λ_ c=>by
 have a:fs[j]?=wz (fs[j]' cT):=aC cT
 have:=c j _ (FN o) a (by
  rw[aK,dM,eU (by rw[bB];lia),bB,show j-min j (iN u)=0 by grind];rfl)
 rw[aM7 (aNa F _ (aU a)),c7 d,NZ]at this;rw[F.Ŗ (aU a) o (c8 this)]at b;cases b
theorem Ak:∀o∈([("Zz":â),"","-","a"]:List â),32∉aO6 o.cps/\(([o]:List â).all λx=>decide (v0 x<=9)&&x.cps.toList.all λc=>decide (c<128))=true:=cR
theorem tA:(sT "Zz"=wv/\("Zz":â)≠"-")/\sT ""=wv/\("":â)≠"-":=cR
def zb(u:List â):List (List â):=[u.drop 1,u++[("-":â)],("Zz":â)::u.drop 1,u.dropLast++[("":â)],[]]
theorem aIy(F:dY fs an){b:List D}(h:fY fs (cN b)=ww):∀v∈zb (b.map pP),D7 fs v=wv/\iN v<=9/\∀w∈v,32∉aO6 w.cps/\DL 9 w:=by
 have n1:=F.n1;let a f g:=í (B5 F h)
 generalize b.map pP=u at *
 have a:=λw hw=>(a w hw).1;have d:∀o:â,o∈([("Zz":â),"","-","a"]:List â)->32∉aO6 o.cps/\DL 9 o:=λo e=>#[(Ak o e).1,B4 (Ak o e).2];intro v c;unfold zb at c;simp only[aN,cZ,j4]at c;rcases c with rfl | rfl | rfl | rfl | rfl
 .exact#[yQ (by rw[dA];lia),by rw[dA];lia,λw hw=>a w (lK hw)]
 .exact#[yQ (by simp;lia),by simp;lia,λw hw=>(bK.mp hw).elim (a w) λy=>by rw[bC.mp y];exact d _ dN]
 .exact#[GJ (j:=0) F f tA.1.1 tA.1.2 cT,by simp;lia,λw hw=>(aN.mp hw).elim (λy=>by rw[y];exact d _ dN) λy=>a w (lK y)]
 .refine#[2,by simp;lia,λw hw=>(bK.mp hw).elim (λy=>a w ((List.dropLast_sublist u).subset y)) λy=>by rw[bC.mp y];exact d _ dN];have:=GJ (j:=iN u-1) F f tA.2.1 tA.2.2 cT;rw[pT cT,cG,<- List.dropLast_eq_take]at this;exact this
 .exact#[yQ (by simp;exact cO ‹_›),dN,λw hw=>by cases hw]
def OC(u:List â)(a:â):List (List â):=[(u++[a]).drop 1,u++[a]++[("a":â)],u++[("Zz":â)],("Zz":â)::(u++[a]).drop 1,[]]
theorem aGp(F:dY fs an){r:Rw}(h:mG fs an r):∀v∈OC (r.1.map pP) r.2,Q7 fs an v=wv/\iN v<=5/\∀w∈v,32∉aO6 w.cps/\DL 9 w:=by
 have n1:=F.n1;refine í (B5 F h.1) λb l p=>Ì (VY F h.2) λf m=>?_;have n:=h.2
 generalize r.1.map pP=u at *
 generalize r.2=a at *
 have b:=λw hw=>(b w hw).1;have d:∀o:â,o∈([("Zz":â),"","-","a"]:List â)->32∉aO6 o.cps/\DL 9 o:=λo k=>#[(Ak o k).1,B4 (Ak o k).2]
 have i:(u++[a]).drop 1=u.drop 1++[a]:=by cases u with
  |nil=>simp at l;lia
  |cons x u=>rfl
 have g:∀w∈(u++[a]).drop 1,32∉aO6 w.cps/\DL 9 w:=λw hw=>(bK.mp (lK hw)).elim (b w) λy=>by rw[bC.mp y];exact f
 intro v c;unfold OC at c;simp only[aN,cZ,j4]at c;rcases c with rfl | rfl | rfl | rfl | rfl
 .exact#[by rw[i];exact OD (by rw[dA];lia),by simp;lia,g]
 .exact#[OD (by simp;lia),by simp;lia,λw hw=>(bK.mp hw).elim (λy=>(bK.mp y).elim (b w) λy=>by rw[bC.mp y];exact f) λy=>by rw[bC.mp y];exact d _ dN]
 .have na:("Zz":â)∉an:=λz=>by
   have:=F.an.2.1 _ z;rw[tA.1.1]at this;cases this
  exact#[by rw[F7,c7 na,LL],by simp;lia,λw hw=>(bK.mp hw).elim (b w) λy=>by rw[bC.mp y];exact d _ dN]
 .refine#[2,by simp;lia,λw hw=>(aN.mp hw).elim (λy=>by rw[y];exact d _ dN) (g w)];rw[i,<- kU,F7];have:=GJ (j:=0) F l tA.1.1 tA.1.2 cT;have e:u.take 0++[("Zz":â)]++u.drop 1=("Zz":â)::u.drop 1:=rfl;rw[e]at this;rw[this,zS]
 .exact#[1,dN,λw hw=>by cases hw]
end
def YB(fs:Fs)(fa:List Rw->â)(t:Tr)(c:ſ)(a:List â)(z:â):Prop:=
 (a=[("tree":â)]/\z=pW t)\/(a=[("rows":â)]/\z=zI c)\/(a=[("rules":â)]/\z=F3 fs t)\/(a=[("steps":â)]/\z=FW fs fa t (c.map (·.2)))\/∃(w:â)(b:List D),fY fs (cN b)=ww/\a=w::b.map pP/\(w="judge"/\z=lU fs t b\/w="why"/\z=wL fs t b)
def aP8:kK:=λg Q=>∃(fs:Fs)(an:List â)(fa:List Rw->â)(t:Tr)(e a:ſ)(f:Nat)(bs:List Int)(d:List D),g=[dQ fs an,gS t,CH (jT e),eE (bs.map aW),cN d]/\FA fs an fa/\e.Perm a/\Rws fs an a f/\jX fs an t/\t.jq<=3/\AO 22 bs/\fY fs (cN d)=ww /\
 ∀c v,((∃b,yy fs an a c b/\v=AA b)\/∃z,YB fs fa t a c z/\v=aG z)->Wd c->Q (cN [aG (tx c),v])
def Gf(fs:Fs)(an:List â)(b:ſ)(f:Nat)(e:List â)(a:ſ)(c:Nat)(z:â):Prop:=
 (∃r,mG fs an r/\e=("put":â)::lE r/\a=b++[(f,r)]/\c=f+1/\z=iZ (f:Nat)) \/
 (∃k r,qI k b=wz r/\e=[("out":â),iZ (k:Nat)]/\a=jW k b/\c=f/\z="ok") \/
 (∃k r d,qI k b=wz r/\mG fs an d/\e=("turn":â)::iZ (k:Nat)::lE d/\a=mY k d b/\c=f/\z="ok")
def V0(fs:Fs)(an:List â)(c:ſ)(f:Nat)(e:List â)(a:ſ)(d:Nat)(v:D):Prop:=
 (∃b,yy fs an c e (wz b)/\v=AA (wz b)/\a=c/\d=f)\/∃z,Gf fs an c f e a d z/\v=aG z
def aP9:kK:=λg Q=>∃(fs:Fs)(an:List â)(e c:ſ)(f:Nat)(bs:List Int)(r:Rw),g=[CH (jT e),aW (f:Nat),eE (bs.map aW),cV r]/\e.Perm c/\Rws fs an c f/\f<=50/\AO 22 bs/\mG fs an r /\
 ∀d v b a h,V0 fs an c f d b h v->Wd d->a.Perm b->Q (cN [aG (tx d),v,CH (jT a)])
theorem HZ.step{fs}{d:Nat}{m:Int}{u i:ſ}{f l:Nat}(W:HZ fs an d m T u t f n)(h:Gf fs an u f ws i l z)(C:iN u<60\/l=f)(A:f<=60):l<=f+1/\iN i<=iN u+1/\∀Q:DQ,(∀o j,HZ fs an d m T i j l o->Q o z)->EA fs an d m u f n ws Q:=by
 have w:=W.rw;have few:=w.few;have mk:∀{o:EO}{j},Rws fs an i l->o.bt=jT i->o.st=gS j->o.fol=(l:Nat)->Gr fs an m d (i.map (·.2)) j->HZ fs an d m T i j l o:=λr a b c g=>#[r,W.fm,W.dp,W.ls,W.d4,a,b,g,c];rcases h with⟨r,s,rfl,rfl,rfl,rfl⟩ | ⟨k,r,v,rfl,rfl,rfl,rfl⟩ | ⟨k,r,B,v,s,rfl,rfl,rfl,rfl⟩
 .refine#[aL _,by rw[aV];exact aL _,λQ p=>j3 #[r,s,#[6,A],1,λj q=>p _ j (mk #[w.F,JZ w.ok s,OE w.ris w.lt r,λe he=>?_,by rw[aV];show _+1<=_;lia,Ō] eH eH eH q)]];rcases bK.mp he with he | he
  .have:=w.lt e he;exact ō
  .rw[bC.mp he];exact mM _
 .exact#[pL _,EV (aS _ _),λQ p=>i7 (j3 #[ϛ,k,r,v,1,λj q=>p _ j (mk #[w.F,J1 w.ok,w.ris.filter _,λe he=>w.lt e (cD.mp he).1,aR (aS _ _) few,w.f61] eH eH W.fol q)])]
 .refine#[pL _,by rw[FP];exact pL _,λQ p=>i7 (i7 #[ϡ,k,r,B,v,s,1,λj q=>p _ j (mk #[w.F,Lo w.ok s,2,λe he=>?_,by rw[FP];exact few,w.f61] eH eH W.fol q)])]
  .unfold hG mY;rw[pR];exact w.ris.imp λh=>by rw[FQ,FQ];exact h
  .refine É e (aM.mp he) λx y=>?_;rw[FQ];exact w.lt x y
def aP7:kK:=λa Q=>∃(fs:Fs)(an:List â)(ns:List Int),a=[eE (ns.map aW),dQ fs an]/\iN ns<=63/\dY fs an/\Q (QM ww)
def FX:kK:=λa Q=>∃ns:List Int,a=[eE (ns.map aW)]/\iN ns<=63/\Q (QM ww)
theorem Pm{v}(h:v≠[]):Txt.slice (tx (("put":â)::v)) wx (wz 3)="put":=by
 rw[<- TV h];refine uN ?_;rw[sY,nZ,nZ,dM,show("put":â).cps.toList=[112,117,116] by decide +kernel];exact qW _ 3
theorem Q9(b:Option Bool):(AA b).canLay0=ww/\(AA b).depth<=60/\dG (AA b) (AA b)=true:=by rcases b with _ | _ | _<;>decide +kernel
def sI{v}{q:D->Prop}(h:(∃z,v=aG z)\/∃b,v=AA b)(c:q (QM wv)):zy zz (VJ RO λx y=>!dG x y) v v q:=by
 rcases h with⟨z,rfl⟩ | ⟨b,rfl⟩
 .refine j3 ?_;show q (QM (!decide (z=z)));rw[c6 rfl];exact c
 .refine í (Q9 b) λa d e=>i7 #[#[a,a,aR (oM _ _) d],2];show q (QM (!dG (AA b) (AA b)));rw[e];exact c
def Jv{q:D->Prop}(h:z≠w)(a:q (QM wv)):zy yr (VJ RO dG) (aG z) (aG w) q:=by
 refine j3 ?_;show q (QM (decide (z=w)));rw[c7 h];exact a
def DB{q:D->Prop}(a:q (QM ww)):zy yr (VJ RO dG) (aG z) (aG z) q:=by
 refine j3 ?_;show q (QM (decide (z=z)));rw[c6 rfl];exact a
def HZ.said{fs}{fa:List Rw->â}{d:Nat}{m:Int}{g e:ſ}{f j:Nat}{v}(W:HZ fs an d m T g t f n)(h:V0 fs an g f ws e j v)(q:iN g<60)(p:f<=60):j<=f+1/\iN e<=iN g+1/\∀Q:EO->D->Prop,(∀i l,HZ fs an d m T e l j i->Q i v)->Dx fs an fa d m g t f n ws Q:=by
 rcases h with⟨b,hb,rfl,rfl,rfl⟩ | ⟨z,o,rfl⟩
 .exact#[pL _,pL _,λQ k=>j3 #[_,hb,k n t W]]
 .exact í (W.step o (j3 q) p) λa b c=>#[a,b,λQ k=>i7 (j3 (c _ λi l w _=>k i l w))]
theorem V0.v{fs}{f a:Nat}{v}(h:V0 fs an ks f ws ks' a v):(∃z,v=aG z)\/∃b,v=AA b:=h.symm.imp (λ⟨z,_,e⟩=>#[z,e]) λ⟨b,_,e,_⟩=>#[_,e]
def YB.ok{fs}{fa:List Rw->â}{d:Nat}{m:Int}{f:Nat}{v}{Q:EO->D->Prop}(W:HZ fs an d m T ks t f n)(h:(∃b,yy fs an ks ws b/\v=AA b)\/∃z,YB fs fa t ks ws z/\v=aG z)(c:Q n v):Dx fs an fa d m ks t f n ws Q:=by
 rcases h with⟨b,hb,rfl⟩ | ⟨z,h,rfl⟩
 .exact j3 #[b,hb,c]
 .refine i7 (i7 ?_);rcases h with⟨rfl,rfl⟩ | ⟨rfl,rfl⟩ | ⟨rfl,rfl⟩ | ⟨rfl,rfl⟩ | ⟨w,e,g,rfl,h⟩
  .exact j3 #[0,j3 #[1,λ_=>c]]
  .exact j3 #[0,i7 (j3 #[1,λ_=>c])]
  .exact j3 #[0,i7 (i7 (j3 #[1,λ_=>c]))]
  .exact j3 #[0,i7 (i7 (i7 #[1,λ_=>c]))]
  .exact i7 #[w,e,1,g,h.imp (λ⟨a,b⟩=>#[a,λ_=>b▸c]) λ⟨a,b⟩=>#[a,λ_=>b▸c]]
theorem Wd.sz{ws:List â}(W:Wd ws):Ċ (ws.map (·.length))+iN ws*v0 eF<=1000:=by
 have a:v0 eF=1:=cR
 have s:=jR (n:=9) (ws:=ws) λx b=>(W.ok x b).2.len;have:=W.len;rw[a];lia
theorem JH{fs}(F:dY fs an){t:Tr}(h:jX fs an t)(hd:t.jq<=3):Ċ ((gI t).map (·.length))+iN (gI t)*v0 eF<=1000:=by
 have a:v0 eF=1:=cR
 have:=t.Ł;have:2^t.jq<=2^3:=dR cS hd;have s:=jR (n:=8) (ws:=gI t) λx b=>(nM (nV F t h x b)).2.2;have c:=pU t;rw[a];lia
theorem Ln{fs}(F:dY fs an)(h:mG fs an r):Wd (lE r)/\∀{w:â},w∈(["put","out","turn","judge","why","tree","rows","rules","steps"]:List â)->Wd (w::lE r):=í (tH F h) λa b c=>#[#[c,ŀ,a],λhw=>.of hw ŀ a]
section
variable{X:Cx}{a b e:æ}{c d g:ET}{x:â}{pos f:Pos}{N:List â}{i:Nat}
def q0{h}:(h::l:List â)[0]?=wz h:=rfl
def q1{h}:(h::y1::l:List â)[1]?=wz y1:=rfl
def q2{h}:(h::y1::y2::l:List â)[2]?=wz y2:=rfl
def q3{h}:(h::y1::y2::y3::l:List â)[3]?=wz y3:=rfl
def q4{h}:(h::y1::y2::y3::y4::l:List â)[4]?=wz y4:=rfl
def q5{h}:(h::y1::y2::y3::y4::y5::l:List â)[5]?=wz y5:=rfl
def q6{h}:(h::y1::y2::y3::y4::y5::y6::l:List â)[6]?=wz y6:=rfl
def q7{h}:(h::y1::y2::y3::y4::y5::y6::y7::l:List â)[7]?=wz y7:=rfl
def q8{h}:(h::y1::y2::y3::y4::y5::y6::y7::y8::l:List â)[8]?=wz y8:=rfl
def q9{h}:(h::y1::y2::y3::y4::y5::y6::y7::y8::y9::l:List â)[9]?=wz y9:=rfl
def Mu{h}:(h::y1::y2::y3::y4::y5::y6::y7::y8::y9::y10::l:List â)[10]?=wz y10:=rfl
def Mt{h}:(h::y1::y2::y3::y4::y5::y6::y7::y8::y9::y10::y11::l:List â)[11]?=wz y11:=rfl
def Ms{h}:(h::y1::y2::y3::y4::y5::y6::y7::y8::y9::y10::y11::y12::l:List â)[12]?=wz y12:=rfl
def Mr{h}:(h::y1::y2::y3::y4::y5::y6::y7::y8::y9::y10::y11::y12::y13::l:List â)[13]?=wz y13:=rfl
def qn(nd:aYv N)(h:N[i]?=wz x)(q:X.N=N|>ũ)(k:zh X.ak.scope x|>ţ)(hd:Ů x|>Ū)
  (j:(x==("__classdict__":â))=false|>Ū):eX X (KK x pos) (zC i):=eP i (by rw[q];exact h) k hd j
def Mn(nd:aYv N)(k:N[i]?=wz x)(h:eX X e g)(q:X.N=N|>ũ)(m:YV X.ak.scope x|>Ş)(l:lY e (wz (KK x f)) pos.line X.ak=pure false|>ũ)
  (j:ŭ X x|>Š):CI X (Ā [KK x f] e pos) (OA i g):=ss i (by rw[q];exact nd) h (by rw[q];exact k) m l j
def Pn(h:eX X a c)(hb:eX X b d):=fF (pos:=pos) dD iY h hb
def Pq(h:eX X a c)(hb:eX X b d):=fF (pos:=pos) RL rA h hb
def Pr(h:eX X a c)(hb:eX X b d):=fF (pos:=pos) MC Ai h hb
def Sy(h:eX X a c)(hb:eX X b d):=fF (pos:=pos) rK J8 h hb
def WS(h:eX X a c)(hb:eX X b d):=fF (pos:=pos) E8 rA h hb
def Mq(h:eX X a c)(hb:eX X b d)(j:d8 .Eq b=false|>Ţ):=pG (pos:=pos) sA AF h hb j
def Ps(h:eX X a c)(hb:eX X b d)(j:d8 .Eq b=false|>Ţ):=fL (pos:=pos) sA AF h hb j
def aMt(h:eX X a c)(hb:eX X b d)(j:d8 .NotEq b=false|>Ţ):=pG (pos:=pos) tD BE h hb j
def aGt(h:eX X a c)(hb:eX X b d)(j:d8 .NotEq b=false|>Ţ):=fL (pos:=pos) tD BE h hb j
def Mo(h:eX X a c)(hb:eX X b d)(j:d8 .Lt b=false|>Ţ):=pG (pos:=pos) UO vH h hb j
def Oo(h:eX X a c)(hb:eX X b d)(j:d8 .Lt b=false|>Ţ):=fL (pos:=pos) UO vH h hb j
def Pp(h:eX X a c)(hb:eX X b d)(j:d8 .LtE b=false|>Ţ):=pG (pos:=pos) GG vH h hb j
def Uo(h:eX X a c)(hb:eX X b d)(j:d8 .LtE b=false|>Ţ):=fL (pos:=pos) GG vH h hb j
def Mp(h:eX X a c)(hb:eX X b d)(j:d8 .Gt b=false|>Ţ):=pG (pos:=pos) Dp vH h hb j
def Pt(h:eX X a c)(hb:eX X b d)(j:d8 .Gt b=false|>Ţ):=fL (pos:=pos) Dp vH h hb j
def Po(h:eX X a c)(hb:eX X b d)(j:d8 .GtE b=false|>Ţ):=pG (pos:=pos) OM vH h hb j
def Um(h:eX X a c)(hb:eX X b d)(j:d8 .GtE b=false|>Ţ):=fL (pos:=pos) OM vH h hb j
def qL{h:List æ}{t:AT}{p:Pos}(j:yU X (a::h) t)(m:X.mg "len"=wx)(l:Gl X "len")(k:bR (a::h) X.ak=(wv,è a X.ak)::bR h X.ak)(n:(j7 pos (bR h X.ak)).any (·.1)=wv):=cB (p:=p) (pos:=pos) Cy j xO m HV l cS cS k n
def qS{h:List æ}{t:AT}{p:Pos}(j:yU X (a::h) t)(m:X.mg "str"=wx)(l:Gl X "str")(k:bR (a::h) X.ak=(wv,è a X.ak)::bR h X.ak)(n:(j7 pos (bR h X.ak)).any (·.1)=wv):=cY (p:=p) (pos:=pos) HS j rM m DH l cS cS k n
def qq{p:Prop}(h:p:=by repeat' first | (with_reducible mleft) | rfl | exact j3 eH | exact i7 eH | exact i7 (j3 eH) | exact i7 (i7 eH) | exact mV _ | (intro _ _;rfl) | (intro _;rfl) | exact T.b_len | exact T.b_str):p:=h
end
set_option maxHeartbeats 4000000
open PySem L2 TL
theorem Tu:bL ["field"] ["field"] (aQ (top 12)):=kF
theorem Ts:bL ["form","thing","fields"] ["form","thing"] (aQ (top 10)):=kF
theorem Tt:bL ["form","thing"] ["form","thing"] (aQ (top 11)):=kF
theorem Vu:bL ["tree"] ["tree"] (aQ (top 40)):=kF
theorem Ou:bL ["self"] ["self"] (aQ (iK (top 49) 4)):=kF
theorem Tn:bL ["self"] ["self"] (aQ (iK (top 49) 5)):=kF
theorem Z5:bL ["self","number"] ["self","number"] (aQ (iK (top 49) 7)):=kF
theorem Z6:bL ["self","thing"] ["self","thing"] (aQ (iK (top 49) 6)):=kF
theorem To:bL ["self","stood"] ["self"] (aQ (iK (top 49) 8)):=kF
theorem Ce:bL ["self","row","number"] ["self","row"] (aQ (iK (top 49) 1)):=kF
theorem Cf:bL ["self","number","row"] ["self","number"] (aQ (iK (top 49) 2)):=kF
theorem Cg:bL ["self","number","row","stood"] ["self","number","row"] (aQ (iK (top 49) 3)):=kF
theorem Fu:bL ["self","form","deep","least"] ["self","form","deep","least"] (aQ (iK (top 49) 0)):=kF
theorem Tq:bL ["thing","fewest","most"] ["thing","fewest","most"] (aQ (top 8)):=kF
theorem Uj:bL ["question","field"] ["question","field"] (aQ (top 30)):=kF
theorem Uh:bL ["form","question"] ["form","question"] (aQ (top 28)):=kF
theorem Ui:bL ["question","stray","field"] ["question","stray","field"] (aQ (top 29)):=kF
theorem Ug:bL ["form","question","stray","case","number"] ["form","question","stray","case"] (aQ (top 27)):=kF
theorem Ul:bL ["side","sides"] ["side","sides"] (aQ (top 32)):=kF
theorem Uk:bL ["form","question","stray","rows","sides"] ["form","question","stray","rows"] (aQ (top 31)):=kF
theorem Tv:bL ["form","rows","told"] ["form","rows"] (aQ (top 14)):=kF
theorem Tw:bL ["form","rows","counts"] ["form","rows"] (aQ (top 15)):=kF
theorem T0:bL ["one","other","rest"] ["one","other"] (aQ (top 18)):=kF
theorem Tz:bL ["top","bottom","shared"] ["top","bottom"] (aQ (top 17)):=kF
theorem Tx:bL ["form","rows","many"] ["form","rows"] (aQ (top 16)):=kF
theorem Vr:bL ["rows","numbers"] ["rows","numbers"] (aQ (top 36)):=kF
theorem Ue:bL ["field","name","values","told_by_is","told_by_upto"] ["field"] (aQ (top 25)):=kF
theorem Ud:bL ["form","questions","field"] ["form"] (aQ (top 24)):=kF
theorem Uf:bL ["form","choices","question"] ["form"] (aQ (top 26)):=kF
theorem Vq:bL ["sides","fewest"] ["sides","fewest"] (aQ (top 33)):=kF
theorem Ua:bL ["one","other"] ["one","other"] (aQ (top 19)):=kF
theorem Uc:bL ["fractions","common","found"] ["fractions"] (aQ (top 21)):=kF
theorem Ip:bL ["form","rows","least","told","question","stray","sides","doubts","bottom"] ["form","rows","least"] (aQ (top 35)):=kF
theorem Ub:bL ["one","other"] ["one","other"] (aQ (top 20)):=kF
theorem Vs:bL ["form","rows","least","told"] ["form","rows","least"] (aQ (top 37)):=kF
theorem Vt:bL ["form","rows","deep","least","found","sides","parts"] ["form","rows","deep","least"] (aQ (top 38)):=kF
theorem Xb:bL ["_law_cell","_law_k","_law_turn"] ["_law_cell","_law_k"] (aQ (top 87)):=kF
theorem Xc:bL ["_law_script","_law_k","_law_seed"] ["_law_script","_law_k"] (aQ (top 88)):=kF
theorem Xd:bL ["_law_cell","_law_many","_law_found","_law_left","_law_k"] ["_law_cell","_law_many"] (aQ (top 89)):=kF
theorem Xf:bL ["_law_script","_law_drawn_here","_law_names_here","_law_fields","_law_k","_law_bits"] ["_law_script"] (aQ (top 91)):=kF
theorem Xe:bL ["_law_drawn_here","_law_at","_law_many","_law_letters","_law_word","_law_turn","_law_names_here","_law_place","_law_k","_law_sign"] ["_law_drawn_here","_law_at","_law_many"] (aQ (top 90)):=kF
theorem Xg:bL ["_law_form_here","_law_bits","_law_case_here","_law_k","_law_values"] ["_law_form_here","_law_bits"] (aQ (top 92)):=kF
theorem Xh:bL ["_law_form_here","_law_bits","_law_case_here","_law_number","_law_k"] ["_law_form_here","_law_bits"] (aQ (top 93)):=kF
theorem Xi:bL ["_law_form_here","_law_question","_law_stray","_law_case_here","_law_kind","_law_name","_law_value_here","_law_k","_law_values"] ["_law_form_here","_law_question","_law_stray","_law_case_here"] (aQ (top 94)):=kF
theorem Xj:bL ["_law_form_here","_law_found","_law_name","_law_values","_law_value_here","_law_k"] ["_law_form_here"] (aQ (top 95)):=kF
theorem Wc:bL ["_law_form_here","_law_question","_law_stray","_law_rows","_law_ones","_law_others","_law_row_here"] ["_law_form_here","_law_question","_law_stray","_law_rows"] (aQ (top 98)):=kF
theorem Wb:bL ["_law_form_here","_law_rows","_law_pairs","_law_answer","_law_many"] ["_law_form_here","_law_rows"] (aQ (top 97)):=kF
theorem Wa:bL ["_law_form_here","_law_rows","_law_counts"] ["_law_form_here","_law_rows"] (aQ (top 96)):=kF
theorem We:bL ["_law_form_here","_law_rows","_law_few","_law_top_here","_law_question","_law_stray","_law_ones","_law_others","_law_one","_law_other","_law_both","_law_now"] ["_law_form_here","_law_rows","_law_few"] (aQ (top 99)):=kF
theorem Wf:bL ["_law_form_here","_law_rows","_law_deep","_law_few","_law_top_here","_law_ones","_law_others","_law_yes"] ["_law_form_here","_law_rows","_law_deep","_law_few"] (aQ (top 100)):=kF
theorem Os:bL ["self","form","deep","least"] ["self","form","deep","least"] (aQ (iK (top 75) 0)):=kF
theorem Vv:bL ["knot","side"] ["knot","side"] (aQ (top 41)):=kF
theorem Vx:bL ["form","tree","case","way","part","side"] ["form","tree","case"] (aQ (top 43)):=kF
theorem Vy:bL ["form","tree","case"] ["form","tree","case"] (aQ (top 44)):=kF
theorem Ur:bL ["tree","place","part","side"] ["tree","place"] (aQ (top 46)):=kF
theorem Vz:bL ["form","tree","case"] ["form","tree","case"] (aQ (top 45)):=kF
theorem Vg:bL ["tree","question","words"] ["tree"] (aQ (top 69)):=kF
theorem Vl:bL ["entry"] ["entry"] (aQ (top 80)):=kF
theorem Vk:bL ["words"] ["words"] (aQ (top 79)):=kF
theorem Vi:bL ["word"] ["word"] (aQ (top 77)):=kF
theorem Vh:bL ["words"] ["words"] (aQ (top 76)):=kF
theorem Vj:bL ["words"] ["words"] (aQ (top 78)):=kF
theorem Vn:bL ["question","side"] ["question","side"] (aQ (top 82)):=kF
theorem Vm:bL ["rows","told","number","row"] ["rows"] (aQ (top 81)):=kF
theorem Uu:bL ["form","rows"] ["form","rows"] (aQ (top 54)):=kF
theorem Uv:bL ["form","knot","rows"] ["form","knot","rows"] (aQ (top 55)):=kF
theorem Vw:bL ["tree"] ["tree"] (aQ (top 42)):=kF
theorem Ut:bL ["form","tree","rows","prices","slips"] ["form","tree","rows","prices"] (aQ (top 52)):=kF
theorem Uw:bL ["price"] ["price"] (aQ (top 56)):=kF
theorem Ux:bL ["form","tree","rows","price"] ["form","tree","rows","price"] (aQ (top 57)):=kF
theorem Uy:bL ["form","tree","rows","prices","leaf","leaf_cost","sides","yes","no","cost"] ["form","tree","rows","prices"] (aQ (top 58)):=kF
theorem Vb:bL ["form","tree","rows","sides","yes","no","slips","saved"] ["form","tree","rows"] (aQ (top 61)):=kF
theorem Va:bL ["form","tree","rows","prices","lowest","price"] ["form","tree","rows"] (aQ (top 60)):=kF
theorem Uz:bL ["form","tree","rows","price","part","told"] ["form","tree","rows"] (aQ (top 59)):=kF
theorem Vd:bL ["form"] ["form"] (aQ (top 65)):=kF
theorem Vf:bL ["lets","number","let"] ["lets","number","let"] (aQ (top 67)):=kF
theorem Vc:bL ["form","tree","rules"] ["form","tree"] (aQ (top 64)):=kF
theorem Ve:bL ["form","tree","lets","number","held","yes","no","rules","let","part"] ["form","tree","lets"] (aQ (top 66)):=kF
theorem Vp:bL ["field","let"] ["field","let"] (aQ (top 84)):=kF
theorem Xa:bL ["price","tree"] ["price","tree"] (aQ (top 85)):=kF
theorem Vo:bL ["form","rule","narrow","lets"] ["form","rule"] (aQ (top 83)):=kF
theorem Wm:bL ["_law_tree"] ["_law_tree"] (aQ (top 107)):=kF
theorem Wh:bL ["_law_value_here"] ["_law_value_here"] (aQ (top 102)):=kF
theorem Wg:bL ["_law_tree"] ["_law_tree"] (aQ (top 101)):=kF
theorem Wi:bL ["_law_row_here"] ["_law_row_here"] (aQ (top 103)):=kF
theorem Wj:bL ["_law_rows","_law_told"] ["_law_rows"] (aQ (top 104)):=kF
theorem Wk:bL ["_law_form_here","_law_tree","_law_case_here","_law_told","_law_side_here"] ["_law_form_here","_law_tree","_law_case_here"] (aQ (top 105)):=kF
theorem Wl:bL ["_law_form_here","_law_tree","_law_told","_law_lets","_law_answer","_law_some","_law_k"] ["_law_form_here","_law_tree"] (aQ (top 106)):=kF
theorem Us:bL ["one","other","on_yes","on_no"] ["one","other"] (aQ (top 50)):=kF
theorem Ot:bL ["self","word","tree","rows"] ["self","word"] (aQ (iK (top 75) 3)):=kF
theorem Cc:bL ["self","word","case","tree","answer","way"] ["self","word","case"] (aQ (iK (top 75) 4)):=kF
theorem Cb:bL ["self","words"] ["self","words"] (aQ (iK (top 75) 2)):=kF
theorem Ca:bL ["self","text","words"] ["self","text"] (aQ (iK (top 75) 1)):=kF
theorem Wo:bL ["_law_desk","_law_text","_law_told","e"] ["_law_desk","_law_text"] (aQ (top 109)):=kF
theorem Wn:bL ["_law_form_here","_law_tree","_law_rows","_law_told","_law_price","_law_less"] ["_law_form_here","_law_tree","_law_rows"] (aQ (top 108)):=kF
theorem Wq:bL ["_law_form_here","_law_tree","_law_rows","_law_more","_law_case_here","_law_words_here","_law_way","_law_bad","_law_told"] ["_law_form_here","_law_tree","_law_rows","_law_more","_law_case_here"] (aQ (top 111)):=kF
theorem Wp:bL ["_law_rows","_law_given","_law_more","_law_row_here","_law_words_here","_law_bad","_law_way","_law_behind","_law_number","_law_text"] ["_law_rows","_law_given","_law_more","_law_row_here"] (aQ (top 110)):=kF
theorem Wr:bL ["_law_script","_law_form_here","_law_desk","_law_rows","_law_number","_law_line","_law_told","_law_due"] ["_law_script","_law_form_here"] (aQ (top 112)):=kF
theorem aMg:bL ["_law_script","_law_form_here","_law_bits","_law_deep","_law_few","_law_desk","_law_rows","_law_given","_law_tree","_law_k","_law_more","_law_row_here","_law_text","_law_due"] ["_law_script"] (aQ (top 113)):=kF
section
variable{P:dF}{w:g6}{K:aH}{mg:â->Option á}{base:ç}{A G:à}{ŧ:Ay}(T:Txt K mg ŧ A G)
include T
theorem Da:Ft P w base T.D_17 1 Wz:=by
 let c nd a Q h:=nD T.D_17.F Tu;refine Í a h λf b h=>#[Ϙ,_,(bQ qq),2];refine#[4,aA eH,2,h];rw[aB];simp only[bE,yB];lia
def Gu:Ft P w base T.D_14 1 Ww:=by
 let d nd c Q h:=nD T.D_14.F Tq;refine Ô h λa lo b z=>î c z λh=>#[Ϙ,_,(bQ (dB (C9 (aId qq (λh=>nL X2 eH T.ń qC (gT h (gT (aG2 eH T.ň oH eH) mJ)))) (xL (aDo GG GG vH vH qq qq qq))))),2];show OB _ _ [.val (cN a),.val (aW lo),.val (aW b)];refine#[0,a,12];show(if ww=ww then _ else Q (QM wv));rw[b8 rfl];refine Â eH eH ?_;show(if decide (lo<=(iN a:Int))=ww then _ else Q (QM wv));have e:CB (cN a) lo b=(decide (lo<=(iN a:Int))&&decide ((iN a:Int)<=b)):=rfl;rw[e]at h
 cases hb:decide (lo<=(iN a:Int))with
 |true=>
  rw[hb]at h;rw[b8 rfl];exact#[0,h]
 |false=>
  rw[hb]at h;rw[a9 cS];exact h
theorem C0:Ft P w base T.D_15 2 Wx:=by
 let i nd y Q h:=nD T.D_15.F Ts;refine Ô h λfs an ts z=>ï y z λF hd h=>#[Ϙ,_,(aP qq
 (aP (fN (rV (tv (cd (Gu T) i qq)))
 qq
 eK)
 (bQ (dB (cB Gh (aO (el (fr:=[wx,wx]) (N':=["field","value"]) (Kg qq (λh=>Lc eH T.b_zip h)) (λb=>#[(lM (mI eH (dI (pk 0) (dI (pk 1) kC)))),fZ,(pG (GH i) OQ (eP 1) (cd (Da T) i (aO (eP 0) bT)))])) bT) (B2 eH) T.b_all Jq))))),2]
 show jH _ _ _ [.val (dQ fs an),.val (cN ts),.un];have r:iN (fs.map nF)=iN fs:=aB ..
 have hb:CB (cN ts) (iN (fs.map nF):Int) (iN (fs.map nF):Int)=decide (iN ts=iN fs):=by
  show(decide _&&decide _)=_;rw[r,eR,dE,j1,j1,j1];omega
 have e:fY fs (cN ts)=(decide (iN ts=iN fs)&&(fs.zip ts).all λp=>UX p.1 p.2):=rfl;rw[e]at h;refine bV (cN (fs.map nF)) (λq c=>#[4,c]) ?_;refine gF (λb=>b=!decide (iN ts=iN fs)) (λq c=>#[04,ts,31,by rw[hb];exact c _ eH]) (λd=>?_) λo=>?_
 .rw[show decide (iN ts=iN fs)=wv by simpa using d.symm]at h;exact h
 .try unfold nA
  dsimp only;have d:decide (iN ts=iN fs)=true:=Á o.symm
  have l:=c8 d;rw[d]at h;show mF (f1 Bx) _ _ Q;dsimp only[mF,oR,xR];have n5:=F.n5;refine BI (ts:=AR (fs.map nF) ts) (λR h=>Â eH eH #[Ϛ,31,h]) (λx=>QM (Bd x)) (by rw[AQ];grind) (λx t=>?_) (λa b q s c=>?_) ?_
  .refine Ë (cP t) λk g=>?_;let a b Z Y X:=Ø (N0 g);subst X;exact#[a,b,1]
  .refine Ë (cP s) λk g=>Ø (N0 g) λu v m n e=>?_;cases e;let f j X:=Ê (aM.mp (aU m));subst X;exact Â eH eH #[f,1,(F.vs f j).2.1,BR (GI (F.Ŗ j) (hd.item (aU n))) c]
  .refine#[Ϙ,(AR (fs.map nF) ts).map Bd,by rw[bH];rfl,2];rw[aG9];exact h
theorem UU:Ft P w base T.Ĝ 3 Wy:=by
 let i nd k Q h:=nD T.Ĝ.F Tt;refine Ô h λfs an d y=>ï k y λF hd h=>#[Ϙ,_,(aP (fN (rV (tv (cd (Gu T) i qq)))
 qq
 eK)
 (bQ (dB (C9 (cd (C0 T) i qq) (xL (pG (GH i) OQ qq qq)))))),2]
 obtain⟨hd,c,g,rfl⟩:=hd;show jH _ _ _ [.val (dQ fs an),.val (cN (cN c::g))];rcases g with _ | ⟨a,_ | ⟨b,g⟩⟩
 .exact pX (λq f=>#[030,f _ eH]) h
 .refine oZ (λq f=>#[030,f _ eH]) ?_;refine#[04,fs,an,c,1,F,hd.item dN,2];show(if fY fs (cN c)=ww then _ else _);have e:BM fs an (cN [cN c,a])=(fY fs (cN c)&&zK an a):=rfl;rw[e]at h
  cases j:fY fs (cN c)with
  |true=>
   rw[b8 rfl];rw[j]at h;refine#[44,BR (MD F.an.2.1 (hd.item dN)) ?_];show Q (QM ((an.map aG).any λz=>dG z a));rw[B6];exact h
  |false=>
   rw[a9 cS];rw[j]at h;exact h
 .refine pX (λq f=>#[030,f _ ?_]) h;show(!(decide _&&decide _))=ww;rw[c7 (p:=((iN (cN c::a::b::g):Nat):Int)<=2) (by simp;lia),LL];rfl
def zJ:Ft P w base T.D_40 1 Xs:=by
 let c nd b Q h:=nD T.D_40.F Vu;refine Þ b h λt h=>#[Ϙ,_,(bQ qq),2]
 cases t with
 |jv a=>exact#[4,h]
 |jt k n v s y m=>exact#[4,h]
def Fe:Fm P w K mg base rH 1 ŧ.o ["self"] (kE K (Pb A)):=by
 let f nd d n e Q h:=XS (F:=nE A) T.D_9.F Ou;refine ö e h λc g b a h=>#[Ϙ,_,(dP (jB (aDk T.gb T.jr qq (pc:=λh=>rJ (DF eH) eH T.b_list VW (gT (Lv lX LG PySem.F.type_dict_items W9 h) mJ))))),2];obtain rfl:=hZ b;refine#[012];rw[a];unfold jT;rw[bH];exact h
def Gs:Fm P w K mg base rH 1 ŧ.p ["self"] (kE K (Ws A)):=by
 let e nd a n d Q h:=XS (F:=nE A) T.D_10.F Tn;refine Ê h λc b z=>î d z λh=>#[Ϙ,_,(dP (jB (vN T.gb T.r8 qq))),2];obtain rfl:=hZ b;exact#[01,a,01,h]
def UV:Fm P w K mg base rH 2 ŧ.r ["self","number"] (kE K (Wu A)):=by
 let b nd f n g Q h:=XS (F:=nE A) T.D_12.F Z5;refine Ë h λe z=>ö g z λj d c a h=>#[Ϙ,_,(dP (lD (ZJ b.u1 T.gb T.jr qq qq)
 (dP (lB mZ))
 jC)),2]
 obtain rfl:=hZ c;refine#[0,j,1012];rw[a];exact h
def UW:Fm P w K mg base rH 4 ŧ.q ["self","thing"] (kE K (Wt A)):=by
 let a nd b n g Q h:=XS (F:=nE A) T.D_11.F Z6;refine ø g h λfs an f d e F c hd z=>Ì z λhw h=>#[Ϙ,_,(dP (lD (ZI (ZH (xK (UU T) T.Ĝ.m T.Ĝ.k T.Ĝ.d (a.ko cS) (kR (vN T.gb T.ĺ qq) (kR (mP qq) vQ)) (λh=>rE (UU T) (a.ko cS) eH T.Ĝ.m T.Ĝ.k T.Ĝ.d tj jN h)) (λh=>RC h)))
 (dP (lB mZ))
 jC)),2]
 obtain rfl:=hZ e;refine#[01,b,010,fs,an,d,by rw[c],F,hd,2];rw[hw];exact h
theorem aF3(r:Nat)
  (g:Ft P w base T.D_47 (2+r) (wY r)):Fj P w base T.D_47 (2+r+1) (lG K (wY (r+1))):=by
 let p nd ds Q h:=nD T.D_47.F Us;refine ò ds h λfs an t u F j o nn ψ=>í ψ λxl xm h=>#[Ϙ,_,(aP (fN (DR (JM (tv (cd (hk:=by lia) (zJ T) p qq)) (JM (tv (cd (hk:=by lia) (zJ T) p qq)) (FO (fL (pZ p) jS qq qq)))))
 (bQ (dB (BW (fL (tI p) jS qq qq) qq qq)))
 eK)
 (aP (nI (i:=2) (fr:=[wx]) (N':=["place"]) (eD (cd (hk:=by simp) g p qq)) (λb=>#[(cW (pk 0)),fZ,(fF dD iY (iU (aO dX bT)) (eP 0))]) (λH E=>kZ (show pO _ (aQ (top 50)) ["one","other","on_yes","on_no"] ["place"] [wx]=ww from cR) nd eH À eH H E eH))
 (aP (nI (i:=3) (fr:=[wx]) (N':=["place"]) (eD (cd (hk:=by simp) g p qq)) (λb=>#[(cW (pk 0)),fZ,(fF dD iY (iU (aO dX bT)) (eP 0))]) (λH E=>kZ (show pO _ (aQ (top 50)) ["one","other","on_yes","on_no"] ["place"] [wx]=ww from cR) nd eH À eH H E eH))
 qq))),2]
 refine gF (λb=>b=wv->VE t=wv/\VE u=wv) (λq c=>?_) (λ_=>?_) λN=>?_
 .refine#[0,t,12]
  cases t with
  |jv a=>exact(b8 eH).mpr (c _ λz=>by cases z)
  |jt k n v s y m=>
   refine(a9 (λz=>by cases z)).mpr #[0,u,12]
   cases u with
   |jv b=>exact(b8 eH).mpr (c _ λz=>by cases z)
   |jt R S W U C B=>exact(a9 (λz=>by cases z)).mpr #[4,UY (VU F j) (VU F o),c _ λ_=>#[7]]
 .refine Â eH eH #[UY (Gj F j ŀ) (Gj F o ŀ),2];show(if dG (gS t) (gS u)=ww then _ else _);split
  .exact#[5,h [] #[bZ _,λx e=>by cases e]]
  .exact#[55,h [cN []] #[Nat.one_le_two_pow,λx e=>#[Ϙ,[],bC.mp e,bZ _]]]
 .unfold nA;dsimp only
  cases t with
  |jv a=>cases (N eH).1
  |jt k n v s y m=>
   cases u with
   |jv b=>cases (N eH).2
   |jt R S W U C B=>
    refine Ü j λ_ _ hy hm=>Ü o λ_ _ L J=>?_;have e1:(Tr.jt k n v s y m).jq=max y.jq m.jq+1:=rfl;have vz:(Tr.jt R S W U C B).jq=max C.jq B.jq+1:=rfl;have p6:2^max y.jq m.jq<=2^6:=dR cS Ŏ
    have one:∀{w:â}{l:List D}{d:Nat},d<=6->yi d l->∀(x:D)(q:D->Prop),x∈l->q (K0 w x)->SK (cN [aG w]) x q:=λhd f x q e c=>by
     let ts Z ht:=Ê (f.2 x e);subst Z;exact#[by show 1+_<=_;lia,c]
    refine iX (λd=>∃l,d=eE (l.map (K0 "yes"))/\yi y.jq l) (λq c=>#[44,fs,an,y,C,1,F,hy,L,Ŋ,Ŋ,Ŋ,λl f=>#[Ϙ,0,R7 (K0 "yes") (by have:=(f.cons "yes" (sR y.jq m.jq)).2;lia) (λx q e c=>#[50,one Ŋ f x q e c]) (c _ #[Ϙ,l,1,f])]]) ?_;rintro _ ⟨l1,rfl,h1⟩;refine iX (λd=>∃l,d=eE (l.map (K0 "no"))/\yi m.jq l) (λq c=>#[44,fs,an,m,B,1,F,hm,J,Ŋ,66,λl f=>#[Ϙ,0,R7 (K0 "no") (by have:=(f.cons "no" (qY y.jq m.jq)).2;lia) (λx q e c=>#[50,one cT f x q e c]) (c _ #[Ϙ,l,1,f])]]) ?_;rintro _ ⟨l2,rfl,h2⟩;refine Ì (h1.cons "yes" (sR y.jq m.jq)) λc1 d1=>Ì (h2.cons "no" (qY y.jq m.jq)) λX d2=>Â eH eH #[by simp only[aB];lia,h _ #[2,λx e=>(bK.mp e).elim (c1.2 x) (X.2 x)]];rw[e1,aV,aB,aB,TD];lia
def Hh:Ft P w base T.D_47 9 Xz:=by
 have h:∀a:Nat,Ft P w base T.D_47 (2+a) (wY a):=λa=>by
  induction a with
  |zero=>exact vL pE λc Q h=>aB3 h
  |succ a b=>exact aF3 T a b
 exact h 7
theorem Gv:Fj P w base T.D_18 1 (jO K W2):=by
 let d nd o Q h:=rB T.D_18.F Tv;refine ù o h λfs an f F gs l h=>#[Ϙ,_,(aP (ss 2 nd (el (fr:=[wx]) (N':=["row"]) (eD qq) (λb=>#[(cW (pk 0)),fZ,(nO iP rF (eP 0) fS)])))
 (bQ (A4 (fl (fr:=[wx,wz 2]) (N':=["answer","told"]) (eD qq) (λb=>#[(cW (pk 0)),fZ,(XT (eP 1) (aO (eP 0) bT) (λh g=>eQ bW PySem.F.slot_list_count PySem.F.type_list_count (W8 d) h g))]))))),2]
 have a4:=F.a4;refine bV (eE (f.map λr=>aG r.2)) (λq c=>?_) ?_
 .refine jI (λR h=>#[4,h]) WJ (by rw[aB];exact ŀ) (λx q i c=>?_) ?_
  .refine Ê (aM.mp i) λr d z=>?_;subst z;exact#[4,c]
  .rw[bH];exact c
 have k:=aCl λy n=>É y (aM.mp n) λr d=>F.an.2.1 _ (gs r d).2
 rw[bH]at k;refine Ka (jI (λR h=>#[04,h]) (zd f) (by rw[aB];exact ŀ) (λx q i c=>?_) ?_)
 .refine Ê (aM.mp i) λa g z=>?_;subst z;have j:=kQ (F.an.2.1 a g) (m:=0) (aL _);refine#[44,#[k.1,j.lay,by have:=j.depth;lia],2];rw[Q0];exact c
 .have e:(an.map aG).map (zd f)=(kY an f).map aW:=by
   unfold kY;rw[bH,bH];rfl
  rw[e];exact h
theorem Gy:Ft P w base T.D_22 1 Yj:=by
 let n nd m Q h:=nD T.D_22.F T0;refine õ m h λa b h=>#[Ϙ,_,(aP (A3 qq
 qq (λj hb=>A9 m8 j hb))
 qq),2]
 let y l i:=yE (λy k=>∃(x:Nat)(g:Sl),k=[.val (aW x),.val (aW y),g]/\x.gcd y=a.gcd b) b #[Ϛ,a,01];refine õ l i λx g d=>#[Ϙ,decide (0<y),λq c=>#[02],2]
 .show q (decide ((y:Int)>0));have:decide ((y:Int)>0)=decide (0<y):=by rw[i0];simp
  rw[this];exact c
 by_cases e:0<y
 .rw[b8 (c6 e)];refine bV (aW ((x%y:Nat):Int)) (λq c=>Â eH eH #[(show(0:Int)<(y:Int) by lia),2]) ?_
  .rw[<- Int.natCast_emod];exact c
  refine bV (aW y) (λq c=>#[0,c]) ?_;refine mK (aW ((x%y:Nat):Int)) (λq c=>#[0,c]) #[x%y,qX _ e,y,02];rw[<- d,aX6 x y,Nat.gcd_rec y x,aX6]
 .rw[a9 (Á e)];have f:y=0:=by lia
  subst f;rw[Nat.gcd_zero_right]at d;subst d;exact#[0,h]
theorem Db:Ft P w base T.D_21 2 Ir:=by
 let i nd j Q h:=nD T.D_21.F Tz;refine õ j h λa b z=>Ü z λhb e c h=>#[Ϙ,_,(aP (ss 2 nd (cd (Gy T) i qq))
 (bQ (dB (iU (aO (fF ON rA qq qq) (aO (fF ON rA qq qq) bT)))))),2]
 refine bV (aW ((a.gcd b:Nat):Int)) (λq g=>Â eH eH #[Ϛ,a,b,1,g]) ?_;have f:0<a.gcd b:=oV _ hb
 have hd:(0:Int)<((a.gcd b:Nat):Int)/\((a.gcd b:Nat):Int)<2^200:=#[6,by
  have:(a.gcd b)<2^190:=tU (aI6 _ hb) c;have d:(2^190:Nat)<=2^200:=dR cS cS
  exact_mod_cast bX this d]
 refine Â eH eH #[hd,4,hd,aA eH,2];rw[<- wJ,<- wJ];exact h
theorem Gx:Ft P w base T.D_20 3 Yi:=by
 let l nd C Q h:=nD T.D_20.F Tx;refine ù C h λfs an d F gs f h=>#[Ϙ,_,(aP qq
 (aP qq
 (bQ (dB (cd (Db T) l (aO (cB Qd (aO (el (fr:=[wx,wz 2]) (N':=["count","many"]) (eD (wC (cF (Gv T) l qq))) (λb=>#[(cW (pk 0)),fZ,(fF rK J8 (eP 0) (fF MC Ai (eP 1) (eP 0)))])) bT) (JA eH) T.b_sum aOq) qq)))))),2]
 have a4:=F.a4;refine bV (aW (iN d:Int)) (λq k=>#[02]) ?_
 .show q (aW (iN (d.map cV):Int));rw[aB];exact k
 refine gF (λb=>b=decide ((iN d:Int)=0)) (λq k=>#[0,k _ eH]) (λt=>?_) λs=>?_
 .have o:iN d=0:=by have:=c8 t.symm;lia
  have:=pJ.mp o;subst this
  have m:zg (GB [] []) (max 1 (iN ([]:List Rw)))=cN [aW 0,aW 1]:=by
   show zg 0 1=_;unfold zg;rw[Nat.gcd_zero_left];rfl
  rw[m]at h;exact#[aA eH,h]
 .try unfold nA
  dsimp only;have o:¬iN d=0:=λz=>by have:=e7 s.symm;lia
  have p:max 1 (iN d)=iN d:=by lia
  rw[p]at h;have y:=L8 d d;have v:=iV f f;have g:iN (kY an d)=iN an:=by unfold kY;rw[aB]
  have j:∀c∈kY an d,0<=c/\c<=(iN d:Int):=λc i=>É c (aM.mp i) λa _=>by
   have:=Jr d a;lia
  show mF Ir _ _ Q;dsimp only[mF,oR,xR];refine jI (λR h=>Â eH eH #[fs,an,d,1,F,gs,f,0,h]) (Hz (iN d)) (by rw[aB,g];exact ŀ) (λx q B k=>?_) ?_
  .refine Ê (aM.mp B) λc i Z=>?_;subst Z;have:=j c i;exact Ã eH eH eH #[j3 #[66],k]
  .have e:((kY an d).map aW).map (Hz (iN d))=((kY an d).map λc=>c*((iN d:Int)-c)).map aW:=by
    rw[bH,bH];rfl
   rw[e];refine#[0,λn u=>?_,by rw[aB,g];exact ŀ,2]
   .refine É n (aM.mp u) λc i=>?_;have:=j c i;have E:0<=c*((iN d:Int)-c):=aO4 cT cT;have H:c*((iN d:Int)-c)<=60*60:=Int.mul_le_mul cT cT cT cS;lia
   .rw[UL F.an.2.2 λr l=>(gs r l).2];exact#[80,(Nat.pos_of_ne_zero ‹_›),tU (show GB d d<=3600 by exact aR ‹_› ‹_›) cS,tU (show iN d<=60 from f) cS,h]
theorem Gz:Ft P w base T.D_24 1 Yl:=by
 let b nd a Q h:=nD T.D_24.F Ub;refine Ç h λx y z=>ï a z λc d h=>#[Ϙ,_,(bQ qq),2];refine#[44,j3 #[Ŀ,6],44,j3 #[Ŀ,6],2];show Q (QM (decide ((x.1:Int)*(y.2:Int)<(y.1:Int)*(x.2:Int))))
 have e:decide ((x.1:Int)*(y.2:Int)<(y.1:Int)*(x.2:Int))=decide (x.1*y.2<y.1*x.2):=by
  rw[i0,<- eS,<- eS];omega
 rw[e];exact h
theorem Rk:Ft P w base T.D_23 3 Yk:=by
 let d nd f Q h:=nD T.D_23.F Ua;refine Ç h λx y z=>ï f z λa b h=>#[Ϙ,_,(bQ (dB (cd (Db T) d qq))),2];have j:=a.top;have k:=a.bot;have l:=b.top;let g i c:=í (T2 a b)
 have e:[aW ((x.1:Int)*(y.2:Int)+(y.1:Int)*(x.2:Int)),aW ((x.2:Int)*(y.2:Int))]=[aW ((x.1*y.2+y.1*x.2:Nat):Int),aW ((x.2*y.2:Nat):Int)]:=by
  rw[kG,eS,eS,eS]
 refine#[44,j3 #[Ŀ,6],44,j3 #[Ŀ,6],44,j3 #[Ŀ,6],3,e,c,66,h]
theorem Ro:Fj P w base T.D_27 1 (jO K Yo):=by
 let j nd g Q h:=rB T.D_27.F Ue;refine Ë h λf z=>ï g z λc i h=>#[Ϙ,_,(aP qq
 (aP qq
 (aP (ss 3 nd (BW qq qq qq))
 (aP qq
 (bQ (A4 (aN3 (el (fr:=[wx,wz 1]) (N':=["value","name"]) (eD qq) (λb=>#[(cW (pk 0)),fZ,(iU (aO dX (aO (eP 1) (aO (eP 0) bT))))])) (el (fr:=[wx,wz 1]) (N':=["value","name"]) (eD qq) (λb=>#[(cW (pk 0)),fZ,(iU (aO dX (aO (eP 1) (aO (eP 0) bT))))]))))))))),2]
 refine bV (aG f.1) (λq a=>#[4,a]) ?_;refine bV (cN (f.2.map aG)) (λq a=>#[4,a]) ?_;refine bV (cN ((uH f).map aG)) (λq a=>#[02]) ?_
 .show(if decide ((iN (f.2.map aG):Int)=2)=ww then _ else _);unfold uH at a;rw[aB];by_cases e:iN f.2=2
  .rw[b8 (c6 cT)];rw[b8 e]at a;refine#[02];show q (cN (iB (f.2.map aG) wx (wz 1)));rw[jP,aIm _ c];exact a
  .rw[a9 (Á (by lia:¬(f.2.length:Int)=2))];rw[a9 e]at a;exact#[0,a]
 refine bV (cN ((L7 f).map aG)) (λq a=>#[02]) ?_
 .show q (cN (iB (f.2.map aG) (wz 1) (wz (-2))));rw[jP,aIn _ c];exact a
 have l:iN (uH f)<=5:=by
  unfold uH;split
  .rw[bB];lia
  .omega
 have k:iN (L7 f)<=5:=by
  unfold L7;rw[bB,dA];omega
 dsimp only[Io,Hn];refine jI (λR h=>#[4,h]) (λx=>cN [aG "is",aG f.1,x]) (by rw[aB];exact ŀ) (λx q d a=>Â eH eH #[aA eH,a]) ?_;refine jI (λR h=>#[4,h]) (λx=>cN [aG "upto",aG f.1,x]) (by rw[aB];exact ŀ) (λx q d a=>Â eH eH #[aA eH,a]) ?_;refine#[Ϝ,37,by simp only[aB];lia,2];rw[bH,bH];exact h
theorem Rm:Fj P w base T.D_26 2 (jO K Yn):=by
 let r nd y Q h:=rB T.D_26.F Ud;refine õ y h λfs an z=>Ì z λF h=>#[Ϙ,_,(aP (so 1 nd bT)
 (aP (sf (eD qq) (cW (pn 2 nd))
 (bQ (LU (i:=1) (pv 1) (wC (cF (Ro T) r qq)) (pb:=λh=>eO (eQ bW tQ tP MH (pv 1) h)))))
 (bQ (uD (pv 1))))),2]
 have n5:=F.n5;refine lL [] cS (λq c=>c) ?_
 refine jM (λR h=>#[04,h])
  (λk v=>∃d:Sl,v=[.val (dQ fs an),.own (fV (fs.take k)),d]) #[0] (λk x j l b=>?_) λj b=>?_
 .refine Ù j b λd=>?_;rw[aK]at l;let f a Z:=Ê (cM.mp l);subst Z;let t u s:=í (F.vs f (aU a));have m:=oP F (fs.take k) λg n=>eG n;have o:iN (fs.take k)<=5:=by rw[bB];lia
  have p:iN (YR f)<=10:=by
   unfold YR uH L7;rw[aV,aB,aB,bB,dA];split
   .rw[bB];lia
   .lia
  refine BD eH cT (λq c=>#[0,f,1,t,u,c]) #[.val (nF f),2]
  have e:fV (fs.take (k+1))=fV (fs.take k)++YR f:=by
   unfold fV;rw[cE,a,bA,YI];show _++[YR f].flatten=_;rw[QP]
  rw[e];rfl
 .refine Ù j b λd=>?_;rw[aB,cK];exact#[Ϙ,0,h]
theorem Sz:Ft P w base T.D_28 3 Yp:=by
 let e nd y Q h:=nD T.D_28.F Uf;refine õ y h λfs an ψ=>Ì ψ λF h=>#[Ϙ,_,(aP (so 1 nd bT)
 (aP (sf (eD (wC (cF (Rm T) e qq))) (cW (pn 2 nd))
 (bQ (LU (pv 1) (el (fr:=[wx,wz 2]) (N':=["stray","question"]) (eD (BX eH T.c_SIDES T.t_SIDES)) (λb=>#[(cW (pk 0)),fZ,(iU (aO (eP 1) (aO (eP 0) bT)))])) (pb:=λh=>eO (eQ bW tQ tP MH (pv 1) h)))))
 (lP 1 qq))),2]
 have n5:=F.n5;have n:=oP F fs λg o=>o;have t:iN (qs fs)=iN (fV fs):=by rw[<- E3,aB]
 refine lL [] cS (λq s=>s) ?_
 refine jM (λR h=>#[0,fs,an,1,F,0,by rw[<- E3];exact h])
  (λk v=>∃j:Sl,v=[.val (dQ fs an),.own ((((qs fs).take k).flatMap tZ).map yu),j]) #[0] (λk x m i c=>?_) λm c=>?_
 .refine Ù m c λj=>?_;rw[aK]at i;let q d Z:=Ê (cM.mp i);subst Z
  have a:iN ((((qs fs).take k).flatMap tZ).map yu)=2*iN ((qs fs).take k):=by
   rw[aB]
   generalize (qs fs).take k=l
   induction l with
   |nil=>rfl
   |cons x l u=>rw[aE2,aV,u,bE];show 2+_=_;lia
  have p:iN ((qs fs).take k)<=50:=by rw[bB];lia
  refine BD (us:=[yu (q,"yes"),yu (q,"no")]) eH (by rw[a];show _+2<=_;lia) (λr e=>?_) #[.val (qD q),2]
  .refine jI (λR h=>#[Ϙ,0,h]) (λx=>cN [qD q,x]) cS (λx z i f=>Â eH eH #[5,f]) e
  .rw[cE,d];rw[YJ,bA];rfl
 .refine Ù m c λj=>?_;rw[aB,cK];exact#[4,h]
theorem Rl:Ft P w base T.D_25 2 Ym:=by
 let o nd r Q h:=nD T.D_25.F Uc;refine Í r h λl n h=>#[Ϙ,_,(aP qq
 (aP (sf (eD qq) (cW (pn 2 nd))
 (bQ (ss 1 nd (fF E8 rA qq (cd (Gy T) o qq)))))
 qq)),2]
 refine bV (aW 1) (λq a=>a) ?_
 refine jM (λR h=>#[4,h])
  (λk p=>∃c:Sl,p=[.val (eE (l.map QH)),.val (aW ((AM (l.take k):Nat):Int)),c]) #[0] (λk x d e b=>?_) λd b=>?_
 .refine Ù d b λc=>?_;rw[aK]at e;let y f z:=Ê (cM.mp e);subst z;let g t:=Ì (n y (aU f));have s:(AM (l.take k)).gcd y.2<=y.2:=aPc g (uY _ _);have m:0<(AM (l.take k)).gcd y.2:=oV _ g
  have j:AM (l.take (k+1))=(AM (l.take k)).lcm y.2:=by
   unfold AM;rw[cE,f,EC];rfl
  refine mK (aW ((AM (l.take (k+1)):Nat):Int)) (λq a=>#[04,i7 #[Ŀ,6],480,#[66],2]) #[0];rw[j]at a
  have i:((AM (l.take k):Nat):Int)*(y.2:Int) / (((AM (l.take k)).gcd y.2:Nat):Int)=(((AM (l.take k)).lcm y.2:Nat):Int):=by
   rw[<- eS,<- wJ];rfl
  rw[i];exact a
 .refine Ù d b λc=>?_;rw[aB,cK];exact#[0,h]
def Tc:Ft P w base T.D_35 1 Xn:=by
 let c nd b Q h:=nD T.D_35.F Vq;refine Ô h λa bs m z=>î b z λh=>#[Ϙ,_,(bQ (dB (C9 qq (xL qq)))),2];refine#[042];show(if decide (m<=(iN a:Int))=ww then _ else _)
 cases e:decide (m<=(iN a:Int))with
 |false=>
  rw[a9 cS];rw[e]at h;exact h
 |true=>
  rw[b8 rfl];rw[e]at h;exact#[04,h]
theorem Hd:Fj P w base T.D_34 1 (jO K Xm):=by
 let l nd j Q h:=rB T.D_34.F Ul;refine õ j h λw ss z=>Ì z λk h=>#[Ϙ,_,(bQ (A4 (fl (fr:=[wx,wx,wz 0]) (N':=["number","found","side"]) (aHu qq (λh=>aG1 eH T.b_enumerate h)) (λb=>#[(lM (mI eH (dI (pk 0) (dI (pk 1) kC)))),(xH (fL sA AF (eP 1) (eP 2))),(eP 0)])))),2];rw[<- PQ]at h;refine Ka (O3 (λR h=>#[4,h]) (zv w) Bw (by rw[uO,aB];exact ŀ) (λx g=>?_) (λa b q f e=>?_) (λa b q f e=>?_) h)
 .rw[KS]at g;let y v u:=Ê (aM.mp g);subst u;exact#[31]
 .refine Ë (cP f) λi d=>?_;have c:=(aD.mp d).1;rw[uO,aB]at c;rw[DA (by rw[aK,aC c];rfl)]at d;cases d;exact Â eH eH e
 .exact#[0,e]
def Ta:Ft P w base T.D_32 1 Xk:=by
 let j nd m Q h:=nD T.D_32.F Uj;refine Ë h λk z=>ù m z λn v f g l o h=>#[Ϙ,_,(aP qq
 (bQ (dB (BT LX Aj qq E6 (E5 (fF dD iY (BV qq qq (λh d=>eQ oK oJ oI (BG j) h d)) fS)))))),2]
 unfold G8 at h;refine gF (λb=>b=decide (k="is")) (λq i=>#[4,i _ eH]) (λc=>?_) λa=>?_
 .rw[b8 (c8 c.symm)]at h;exact#[4,aA eH,h]
 .rw[a9 (e7 a.symm)]at h;refine#[44480,yI g l,2];show Q (cN (iB (f.2.map aG) wx (wz ((f.2.idxOf v:Int)+1))));have e:((f.2.idxOf v:Nat):Int)+1=((f.2.idxOf v+1:Nat):Int):=rfl;rw[e,jP,qW];exact h
theorem Hc:Ft P w base T.D_31 2 Yr:=by
 let d nd i Q h:=nD T.D_31.F Ui;refine Ç h λk n z=>ù i z λv st f c g a h=>#[Ϙ,_,(bQ (dB (fF dD iY (cd (Ta T) d qq) (BW qq qq qq)))),2];have b:=aC5 (k:=k) (v:=v) a;refine Â eH eH #[k,n,v,f,1,c,g,a,02];unfold qF at h;show(if decide (st="yes")=ww then _ else _);by_cases e:st="yes"
 .rw[b8 (c6 e)];rw[b8 e]at h;exact#[aA eH,by rw[aB];show _+1<=_;lia,h]
 .rw[a9 (Á e)];rw[a9 e]at h;exact#[aA eH,by rw[aB];show _+0<=_;exact ŀ,h]
theorem Hb:Ft P w base T.D_30 1 Yq:=by
 let o nd r Q h:=nD T.D_30.F Uh;refine ð h λfs an k n v g y=>Í r y λj F z=>í z λc a h=>#[Ϙ,_,(bQ (dB (KR (el (fr:=[wx]) (N':=["field"]) (eD qq) (λb=>#[(cW (pk 0)),fZ,(nO iP rF (eP 0) fS)])) qq (λh i=>eQ bW LF LE (KA o) h i)))),2];have n5:=F.n5;have l:=(aD.mp c).1;have d:(fs.map (·.1)).idxOf n=j:=by rw[<- a];exact MF F c
 show VN _ _ _ Q;refine jI (λR h=>#[04,h]) fst (by rw[aB];exact ŀ) (λx q p m=>?_) ?_
 .refine Ê (aM.mp p) λf s u=>?_;subst u;exact#[4,m]
 .have e:(fs.map nF).map fst=(fs.map (·.1)).map aG:=by rw[bH,bH];rfl
  rw[e];have:=yI F.nd.2.1 (aM.mpr #[Ϙ,g,aU c,a]);rw[d]at this;exact#[48,j,1,this,6,h]
theorem Ha:Ft P w base T.D_29 3 Iu:=by
 let r nd C Q h:=nD T.D_29.F Ug;refine Ô h λfs an k ψ=>ò C ψ λn v st i F p s t h=>#[Ϙ,_,(aP (ss 4 nd (cd (Hb T) r qq))
 (bQ (dB (BW (fL (GH r) OQ qq (cd (Hc T) r qq)) dX dX)))),2]
 refine Ì (nS t) λx o=>ó (yN p) λd a e g B=>Ë (cP a) λj f=>?_;have y:=(aD.mp f).1;have b:i[j]?=wz i[j]:=aC cT
 generalize u:i[j]=c at b
 have gs:=o j d c f b;rw[F1 F f b e]at h
 have l:Cd c:=by
  cases c with
  |none=>exact(EY (n:=8) (m:=0)).cd cS
  |str z=>exact(kQ (F.Ŗ a z (c8 gs)) (m:=0) (aL _)).cd cS
  |_=>cases gs
 refine bV (aW (j:Int)) (λq p=>Â eH eH #[fs,an,k,n,v,d,j,1,F,f,e,p]) ?_;refine Â eH eH #[_,(L2.dU b),448,(L2.dU (by rw[aK,f];rfl)),k,n,v,st,d,1,F.Ŗ a,g,(F.vs d a).2.1,BR (OO (F.Ŗ a) g l) ?_];rw[<- PF s gs]at h;show(if IV c (cN (qF k v st d))=ww then _ else _)
 cases hb:IV c (cN (qF k v st d))with
 |true=>rw[b8 rfl];rw[hb,b8 rfl]at h;exact h
 |false=>rw[a9 cS];rw[hb,a9 cS]at h;exact h
theorem Dc:Fj P w base T.D_33 4 (BH K Xl):=by
 let c nd p Q h:=Mz T.D_33.F Uk;refine Ô h λfs an k y=>ò p y λn v st g F m f gs z=>Ì z λd h=>#[Ϙ,_,(aP (nI (i:=4) (fr:=[wx,wz 0,wz 1,wz 2]) (N':=["row","form","question","stray"]) (eD qq) (λb=>#[(cW (pk 0)),fZ,(cd (Ha T) c (aO (eP 1) (aO (eP 2) (aO (eP 3) (aO (nO iP rF (eP 0) fS) bT)))))]) (λl j=>kZ (show pO _ (aQ (top 31)) ["form","question","stray","rows","sides"] ["row","form","question","stray"] [wx,wz 0,wz 1,wz 2]=ww from cR) nd eH À eH l j eH))
 (bQ (N6 (cF (Hd T) c qq) (cF (Hd T) c qq)))),2]
 have e:(g.map cV).map (Eb fs k n v st)=(g.map λr=>eN fs k n v st r.1).map aG:=by rw[bH,bH];rfl
 refine bV (eE ((g.map λr=>eN fs k n v st r.1).map aG)) (λq a=>?_) ?_
 .refine jI (λR h=>#[4,h]) (Eb fs k n v st) (by rw[aB];exact ŀ) (λx q o a=>?_) ?_
  .refine Ê (aM.mp o) λr c u=>?_;subst u;exact#[044,fs,an,k,n,v,st,r.1,1,F,m,f,(gs r c).1,a]
  .rw[e];exact a
 rw[<- T9,<- T9]at h;exact#[0,"yes",0,by rw[aB];exact d,0,"no",0,by rw[aB];exact d,h]
theorem Dd:Ft P w base T.D_37 1 Xp:=by
 let e nd i Q h:=nD T.D_37.F Vr;refine ð h λfs k n v st w z=>Í i z λa l h=>#[Ϙ,_,(bQ (dB (el (fr:=[wx,wz 0]) (N':=["number","rows"]) (eD qq) (λb=>#[(cW (pk 0)),fZ,(nO iP rF (eP 1) (eP 0))])))),2]
 have m:iN (mU fs k n v st a w)<=60:=by
  unfold mU;have:=aS (xE fs k n v st a w) (eL (iN a));rw[jD]at this;exact aR ‹_› ‹_›
 refine jI (λR h=>#[4,h]) (F6 a) ŀ (λx q g d=>?_) ?_
 .refine Ê (aM.mp (cD.mp g).1) λj f y=>?_;subst y;have c:j<iN a:=Á f
  have e:F6 a (aW (j:Int))=cV a[j]:=by
   show(match L2.y0 a (j:Int)with | some r=>cV r | none=>ES)=_;rw[L2.dU (aC c)]
  rw[e]at d;exact Â eH eH #[_,(L2.dU (by rw[aK,aC c];rfl)),d]
 .rw[Ah fs k n v st w (iN a) a rfl];exact h
theorem Td:Fj P w base T.D_36 6 (jO K Xo):=by
 let dm lc Ar ag s H E p ds Q h:=Na T.L_36 T.D_36.F Ip (λds Q h=>Ë h λfs ψ=>ù ds ψ λan d m F j n h=>by rfl);refine Ë h λfs ψ=>ù ds ψ λan d m F j n h=>?_;have nd:=Ip.nd;refine#[Ϙ,_,(aP (so 3 nd bT)
 (aP (sf (eD (cd (Sz T) p qq)) (lM (mI eH (dI (pn 4 nd) (dI (pn 5 nd) kC))))
 (aP (ss 6 nd (Ct (cQ (Dc T) p qq)))
 (bQ (fN (tv (cd (Tc T) p qq))
 (aP (nI (i:=7) (fr:=[wx,wz 0,wz 1]) (N':=["numbers","form","rows"]) (eD qq) (λb=>#[(cW (pk 0)),fZ,(cd (Gx T) p (aO (eP 1) (aO (cd (Dd T) p (aO (eP 2) (aO (eP 0) bT))) bT)))]) (λt hY=>kZ (show pO _ (aQ (top 35)) ["form","rows","least","told","question","stray","sides","doubts","bottom"] ["numbers","form","rows"] [wx,wz 0,wz 1]=ww from cR) nd eH À eH t hY eH))
 (bQ (nK (i:=3) (pv 3) (iU (aO qq (aO qq (aO (cd (Rk T) p qq) bT)))) (pb:=λh=>eO (eQ bW cJ cI gW (pv 3) h)))))
 eK))))
 (lP 3 (aP (ss 8 nd (cd (Rl T) p (aO (el (fr:=[wx,wx,wx]) (N':=["question","stray","doubt"]) (eD qq) (λb=>#[(C7 (mI eH (dI (pk 0) (dI (pk 1) (dI (pk 2) kC))))),fZ,(eP 2)])) bT)))
 (bQ (A4 (aC9 (k:=0) (ib:=8) (p.ko cT) lc eH eH eH eH T.ĭ uQ qq))))))),2]
 have ry:iN (jK fs d m)<=60:=by
  have h1:=oP F fs λg X=>X;have n3:=F.n3;have h2:=aS (Ħ fs d m) (I0 fs);rw[M6]at h2;show((I0 fs).filter (Ħ fs d m)).length<=60;lia
 have rm:iN (I0 fs)<=100:=by
  have h1:=oP F fs λg X=>X;have n5:=F.n5;rw[M6];lia
 refine lL [] cS (λq v=>v) ?_
 refine jM (λR h=>#[0,fs,an,1,F,0,h])
  (λk σ=>∃s4 s5 s6 S:Sl,σ=[.val (dQ fs an),.val (eE (d.map cV)),.val (aW m),.own ((((I0 fs).take k).filter (Ħ fs d m)).map (SQ fs d)),s4,s5,s6,S,.un]) #[331] (λk x v7 o U=>?_) λv7 U=>?_
 .refine ú v7 U λs4 s5 s6 S=>?_;rw[aK]at o;let c r Y:=Ê (cM.mp o);subst Y;let v hs:=Ì (M5 (aU r));have l:=F9 v
  have L:iN (mU fs c.1.1 c.1.2.1 c.1.2.2 c.2 d "yes")=iN (yR fs c d):=by
   have:=d9 iN (Ah fs c.1.1 c.1.2.1 c.1.2.2 c.2 "yes" d.length d eH);rw[aB,aB]at this;exact this
  have C:iN (mU fs c.1.1 c.1.2.1 c.1.2.2 c.2 d "no")=iN (nR fs c d):=by
   have:=d9 iN (Ah fs c.1.1 c.1.2.1 c.1.2.2 c.2 "no" d.length d eH);rw[aB,aB,FB F l hs j]at this;exact this
  have et:((I0 fs).take (k+1)).filter (Ħ fs d m)=((I0 fs).take k).filter (Ħ fs d m)++(if Ħ fs d m c=ww then[c]else[]):=by
   rw[cE,r,fE];congr 1;show zO _ [c]=_;rw[bY];rfl
  have xc:iN ((((I0 fs).take k).filter (Ħ fs d m)).map (SQ fs d))<=100:=by
   rw[aB];exact aR (aS _ _) (by rw[bB];grind)
  refine#[Ϛ,qD c.1,aG c.2,12];refine bV (cN [eE (mU fs c.1.1 c.1.2.1 c.1.2.2 c.2 d "yes"),eE (mU fs c.1.1 c.1.2.1 c.1.2.2 c.2 d "no")]) (λq f=>Ä eH eH eH eH #[ϧ,fs,an,c.1.1,c.1.2.1,c.1.2.2,c.2,d,1,F,l,hs,j,n,f]) ?_;refine qA (λb=>b=Ħ fs d m c) (λq f=>Â eH eH #[ϟ,3,m,12]) (λhT=>?_) λhF=>?_
  .refine f _ ?_;rw[L,C];rfl
  .refine bV (eE [QH (D4 (yR fs c d)),QH (D4 (nR fs c d))]) (λq f=>?_) ?_
   .refine MN (λR h=>#[4,h]) (λi _ y=>(i=0->y=QH (D4 (yR fs c d)))/\(i=1->y=QH (D4 (nR fs c d)))) dO (λi x q o B=>?_) λys um N=>?_
    .have t:i<2:=(aD.mp o).1;rcases(show i=0\/i=1 by lia)with rfl | rfl
     .cases o;exact Ã eH eH eH #[fs,c.1.1,c.1.2.1,c.1.2.2,c.2,"yes",d,1,n,fs,an,0,F,j.ı _,aR (aS _ _) n,B _ #[λ_=>rfl,λz=>by cases z]]
     .cases o;refine Ã eH eH eH #[Ϧ,fs,c.1.1,c.1.2.1,c.1.2.2,c.2,"no",d,1,n,2];rw[FB F l hs j];exact#[Ϣ,fs,an,0,F,j.ı _,aR (aS _ _) n,B _ #[(λz=>by cases z),λ_=>rfl]]
    .match ys,um,N with
     |[a,b],_,N=>
      rw[((N 0 _ a eH eH).1 eH),((N 1 _ b eH eH).2 eH)];exact f
   .have u:iN (nR fs c d)<=60:=aR (aS _ _) n;refine nW (SQ fs d c) eH ŀ (λq f=>#[04480,B1 (aR (aS _ _) n),B1 u,5,f]) #[.val (qD c.1),.val (aG c.2),.val (cN [eE (mU fs c.1.1 c.1.2.1 c.1.2.2 c.2 d "yes"),eE (mU fs c.1.1 c.1.2.1 c.1.2.2 c.2 d "no")]),.val (eE [QH (D4 (yR fs c d)),QH (D4 (nR fs c d))]),2];rw[et,b8 hT.symm,bA];rfl
  .try unfold nA
   refine#[.val (qD c.1),.val (aG c.2),.val (cN [eE (mU fs c.1.1 c.1.2.1 c.1.2.2 c.2 d "yes"),eE (mU fs c.1.1 c.1.2.1 c.1.2.2 c.2 d "no")]),S,2];rw[et,a9 (by rw[<- hF];decide),cG];rfl
 .refine ú v7 U λs4 s5 s6 S=>?_;rw[aB,cK];refine#[Ϙ,02]
  have W:∀x∈YT fs d m,0<x.2/\x.2<=1000000:=λx o=>by
   let c Z Y:=Ê (aM.mp o);subst Y;have:=DD (fs:=fs) n c;exact#[this.pos,aR this.bot cS]
  refine bV (aW (AM (YT fs d m):Nat)) (λq v=>?_) ?_
  .dsimp only[mF,oR,xR];refine aHk (ts:=IW fs d m) (λR h=>#[4,h]) Ea (by rw[xN];exact ŀ) (λx o=>?_) (λa b c q' hm l=>#[0,l]) ?_
   .refine Ê (aM.mp o) λc _ Y=>?_;subst Y;exact#[30]
   .have e:(IW fs d m).map Ea=(YT fs d m).map QH:=by
     unfold IW YT;rw[bH,bH];rfl
    rw[e];exact#[0,W,v]
  .refine#[0,IW fs d m,(AM (YT fs d m):Nat),MQ fs d m,1,by rw[xN];lia,1,by rw[xN,aCt],λi e k he hk=>?_,λJ hJ=>?_]
   .have t:i<iN (jK fs d m):=by rw[<- xN];exact(aD.mp he).1
    have e1:=VM t;rw[cU,he]at e1;have e2:=MP t;rw[cU,hk]at e2;have sm:=DD (fs:=fs) n (jK fs d m)[i];have s1:=sm.top;have s2:=sm.pos;have s3:=sm.bot;exact#[33,e1,#[66],j3 #[Ŀ,6],e2]
   .rw[xN]at hJ;exact h J hJ
def Te:Ft P w base T.D_38 7 Xq:=by
 let o nd t Q h:=nD T.D_38.F Vs;refine Ë h λfs z=>ù t z λan a m F j f h=>#[Ϙ,_,(aP (ss 3 nd (wC (cF (Td T) o qq)))
 (aP (fN (DR (QW (JN qq (λh=>OI h (λ_=>rfl))) (LO (tv (cd (Gz T) o (aO qq (aO (cd (Gx T) o qq) bT)))))))
 qq
 eK)
 qq)),2]
 have k:∀{i:Nat}{J:List Nat},zk fs a m (i::J)->∃c,yh fs a (jK fs a m)=wz c/\L2.y0 (Cm fs a m (i::J)) 0=wz (SQ fs a c):=λ{i J} d=>by
  refine#[Ϙ,_,aD7 f d,2];refine L2.dU ?_;show wz ((IW fs a m).getD i ES)=_;rw[VM (d.lt i (aJ ..))]
 have p:∀c,yh fs a (jK fs a m)=wz c->qM fs a m=if pN (dC fs a c) (D4 a)=ww then wz c else none:=λc n=>by
  unfold qM;rw[n];rfl
 refine iX (λv=>∃J,zk fs a m J/\v=eE (Cm fs a m J)) (λq g=>Ã eH eH eH #[ϣ,fs,an,a,m,1,F,j,f,λJ d=>g _ #[Ϙ,J,d,1]]) ?_;rintro _ ⟨J,d,rfl⟩
 cases J with
 |nil=>
  have e:qM fs a m=none:=by unfold qM;rw[aIt d];rfl
  rw[e]at h;refine gF (λb=>b=wv) (λq g=>?_) (λl=>by cases l) λ_=>?_
  .refine#[0,[],12];show(if(wv:Bool)=ww then _ else q wv);rw[a9 cS];exact g _ eH
  .exact h
 |cons i J=>
  let c n r:=Ê (k d);rw[p c n]at h;refine gF (λb=>b=pN (dC fs a c) (D4 a)) (λq g=>?_) (λl=>?_) λs=>?_
  .refine#[42];show(if(ww:Bool)=ww then _ else q wv);rw[b8 rfl];exact#[8,r,04,fs,an,a,1,F,j,f,31,(λc=>aR (DD (fs:=fs) f c).top cS) c,(aR (B1 f).top cS),g _ eH]
  .rw[b8 l.symm]at h;exact#[8,r,h]
  .rw[a9 (by rw[<- s];decide)]at h;exact h
theorem Gw:Ft P w base T.D_19 2 Iq:=by
 let o nd x Q h:=nD T.D_19.F Tw;obtain⟨fs,an,a,rfl,F,gs,n,h⟩:=h;refine#[Ϙ,_,(aP (ss 2 nd (wC (cF (Gv T) o qq)))
 (bQ (dB (nO iP rF qq (KR qq (aO (cB Gi qq (zL eH) T.b_max NB) bT) (λh p=>eQ bW LF LE (KA o) h p)))))),2]
 have a2:=F.a2;refine bV (eE ((kY an a).map aW)) (λq v=>Â eH eH #[Ϣ,fs,an,a,1,F,gs,n,v]) ?_
 have l:kY an a≠[]:=λz=>by
  have:=d9 iN z;unfold kY at this;rw[aB]at this;simp at this;rw[this]at a2;simp at a2
 refine#[444,l,λm u c=>?_];let j k g:=Ê (PL (kY an a) m u);have t:=(aD.mp k).1;have r:iN (kY an a)=iN an:=by unfold kY;rw[aB]
 have a4:=F.a4;have d:an[j]?=wz an[j]:=aC cT;have f:(kY an a)[j]?=wz ((uP a an[j]:Nat):Int):=by unfold kY;rw[aK,d];rfl
 rw[k]at f;have y:=d7 f;refine#[_,j,1,W4 k g,6,_,L2.dU (by rw[aK,d];rfl),h _ #[ϙ,j,d,λi b hb=>?_,λi b s hb=>?_]]
 .have:=c ((uP a b:Nat):Int) (aU (by unfold kY;rw[aK,hb];rfl));lia
 .have e:(kY an a)[i]?=wz ((uP a b:Nat):Int):=by unfold kY;rw[aK,hb];rfl
  have B:=c _ (aU e);have C:((uP a b:Nat):Int)≠m:=λz=>g i s (by rw[e,z]);lia
theorem aF5(u:Nat)
  (o:Ft P w base T.D_39 (8+u) (wZ u)):Fj P w base T.D_39 (8+u+1) (lG K (wZ (u+1))):=by
 let s nd ds Q h:=nD T.D_39.F Vt;refine Ë h λfs ψ=>ò ds ψ λan g d m F f k hd h=>#[Ϙ,_,(aP (ss 4 nd (BW qq (cd (hk:=by lia) (Te T) s qq) qV))
 (aP (fN (fL AE GK qq qV)
 (bQ (dB (iU (aO dX (aO (cd (hk:=by lia) (Gw T) s qq) bT)))))
 eK)
 (aP (ss 5 nd (Ct (cQ (hk:=by lia) (Dc T) s qq)))
 (aP (nI (i:=6) (fr:=[wx,wz 0,wz 3,wz 1,wz 2]) (N':=["numbers","form","least","rows","deep"]) (eD qq) (λb=>#[(cW (pk 0)),fZ,(cd (hk:=by simp) o s (aO (eP 1) (aO (cd (hk:=by lia) (Dd T) s (aO (eP 3) (aO (eP 0) bT))) (aO (fF MC Ai (eP 4) fS) (aO (eP 2) bT)))))]) (λW hY=>kZ (show pO _ (aQ (top 38)) ["form","rows","deep","least","found","sides","parts"] ["numbers","form","least","rows","deep"] [wx,wz 0,wz 3,wz 1,wz 2]=ww from cR) nd eH À eH W hY eH))
 qq)))),2]
 cases d with
 |zero=>
  refine bV ES (λq j=>#[0,j]) ?_;refine pX (λq j=>#[0,j _ eH]) ?_;exact Â eH eH #[Ϣ,fs,an,g,1,F,f,k,λa J=>#[5,h (.jv a) #[Ϙ,a,J,1]]]
 |succ e=>
  refine bV (Ff fs g (qM fs g m)) (λq j=>#[02]) ?_
  .show(if decide ((0:Int)<((e+1:Nat):Int))=ww then _ else q ES);rw[b8 (c6 dN)];exact Ã eH eH eH #[ϣ,fs,an,g,m,1,F,f,k,j]
  cases C:qM fs g m with
  |none=>
   refine pX (λq j=>#[0,j _ eH]) ?_;refine Â eH eH #[Ϣ,fs,an,g,1,F,f,k,λa J=>#[5,h (.jv a) ?_]];unfold Gr;rw[C];exact#[Ϙ,a,J,1]
  |some c=>
   let j X:=Ì (M5 ((cD.mp (DI C)).1));have p:=F9 j;refine oZ (λq j=>#[0,j _ eH]) ?_;refine bV (cN [eE (mU fs c.1.1 c.1.2.1 c.1.2.2 c.2 g "yes"),eE (mU fs c.1.1 c.1.2.1 c.1.2.2 c.2 g "no")]) (λq l=>#[444,fs,an,c.1.1,c.1.2.1,c.1.2.2,c.2,g,1,F,p,X,f,k,l]) ?_;refine iX (λv=>∃y n,Gr fs an m e (yR fs c g) y/\Gr fs an m e (nR fs c g) n/\v=eE [gS y,gS n]) (λq l=>?_) ?_
   .have U:((e+1:Nat):Int)-1=((e:Nat):Int):=by simp
    let ys S B:=MN (λR h=>#[4,h]) (λi _ y=>(i=0->∃t,Gr fs an m e (yR fs c g) t/\y=gS t)/\(i=1->∃t,Gr fs an m e (nR fs c g) t/\y=gS t)) dO (λi x q N r=>?_)
    .have W:i<2:=(aD.mp N).1;rcases(show i=0\/i=1 by lia)with rfl | rfl
     .cases N;exact Ã eH eH eH #[fs,c.1.1,c.1.2.1,c.1.2.2,c.2,"yes",g,1,k,4,fs,an,_,e,m,by rw[<- U]<;>rfl,F,f.ı _,aR (aS _ _) k,(Nat.le_of_lt_succ ‹_›),λt L=>r _ #[λ_=>#[Ϙ,t,L,1],λz=>by cases z]]
     .cases N;refine Ã eH eH eH #[Ϧ,fs,c.1.1,c.1.2.1,c.1.2.2,c.2,"no",g,1,k,2];rw[FB F p X f];exact#[4,fs,an,_,e,m,by rw[<- U]<;>rfl,F,f.ı _,aR (aS _ _) k,(Nat.le_of_lt_succ ‹_›),λt L=>r _ #[(λz=>by cases z),λ_=>#[Ϙ,t,L,1]]]
    .match ys,S,B with
     |[a,b],_,B=>
      exact Ë ((B 0 _ a eH eH).1 eH) λy ψ=>ñ a ψ λE=>Ë ((B 1 _ b eH eH).2 eH) λn ψ=>ñ b ψ λH=>l _ #[ϛ,y,n,E,H,1]
   .rintro _ ⟨y,n,E,H,rfl⟩;refine#[44445,h (.jt c.1.1 c.1.2.1 c.1.2.2 c.2 y n) ?_];unfold Gr;rw[C];exact#[ϛ,y,n,E,H,1]
def De:Ft P w base T.D_39 15 Xr:=by
 have h:∀a:Nat,Ft P w base T.D_39 (8+a) (wZ a):=λa=>by
  induction a with
  |zero=>exact vL pE λc Q h=>aB4 h
  |succ a b=>exact aF5 T a b
 exact h 7
theorem CJ:Fm P w K mg base rH 16 ŧ.s ["self"] (kE K (Wv A)):=by
 let b nd a n C Q h:=XS (F:=nE A) T.D_13.F To;refine Ô h λfs an d φ=>ø C φ λm p o B y F u c χ=>Û χ λe v r x hd ψ=>Ü ψ λf g s h=>#[Ϙ,_,(cA (wO (i:=1) (vN T.gb T.r8 qq) (λh=>pB h (pn 1 nd)))
 (cA (aFp T.gb T.r8 qq (xK (De T) T.D_39.m T.D_39.k T.D_39.d (b.ko cS) (kR (vN T.gb T.ĺ qq) (kR (aH8 T.gb T.jr qq (pc:=λh=>rJ (EI eH) eH T.b_list VW (gT (Lv lX JE PySem.F.type_dict_values RY h) mJ))) (kR (vN T.gb T.Ĕ qq) (kR (vN T.gb T.Ģ qq) vQ)))) (λh=>rE (De T) (b.ko cS) eH T.D_39.m T.D_39.k T.D_39.d tj jN h)))
 (dP (jB (xK (Hh T) T.D_47.m T.D_47.k T.D_47.d (b.ko cS) (kR (mP qq) (kR (vN T.gb T.r8 qq) vQ)) (λh=>rE (Hh T) (b.ko cS) eH T.D_47.m T.D_47.k T.D_47.d tj jN h)))))),2]
 obtain rfl:a=p:=hZ y;have z:n.bt.map (·.2)=(o.map (·.2)).map cV:=by rw[v];unfold jT;rw[bH,bH];rfl
 refine#[01,a,012];refine#[01,a,010101,a,0101,a,012];refine#[ϥ,fs,an,o.map (·.2),d,m,by rw[u,z,c,e],F,r,by rw[aB];exact x,Ō,λt j=>?_];refine Ì (VG d j) λq E=>#[012];refine Â eH eH #[1,a,01,fs,an,B,t,by rw[f],F,g,q,Ō,ŋ,(aR ‹_› ‹_›),λl _=>h t j l]
theorem Oi:Fm P w K mg base rH 17 ŧ.l ["self","row"] (kE K (Oz A)):=by
 let v nd o n W Q h:=XS (F:=nE A) T.D_6.F Ce;refine Ô h λfs an d φ=>Ç φ λm U χ=>ø W χ λl k r S N F z s ψ=>Û ψ λu B C X hd φ=>Û φ λx y p g J χ=>Ü χ λj b c h=>#[Ϙ,_,(cA (qB (pF cR qq (mC qq) (λh E=>iH h T.gb T.M_11 (UW T) (v.ko cS) T.D_11.d tj jN E)) (λh=>eO h))
 (cA (lD (pV OM vH (Jz T.gb T.jr qq (pc:=λh=>nL K3 eH T.b_len HV (gT h mJ))) (mP (FE eH T.ē)))
 (dP (lB mZ))
 jC)
 (cA (wO (i:=2) (vN T.gb T.ŉ qq) (λh=>pB h (pn 2 nd)))
 (cA (aFq T.gb T.ŉ qq fS)
 (cA (ZS v.u1 T.gb T.jr qq qq qq)
 (dP (jB (SL (kR (mP qq) (kR (sD cR qq (λh=>rY h T.gb T.M_13 (CJ T) (v.ko cS) T.D_13.d tj jN)) vQ)))))))))),2]
 have c:Cr _:=#[c,31];obtain rfl:=hZ N;refine#[010,fs,an,o,cV r,7,F,z,c,G5 b,2];have L:iN n.bt=iN l:=by rw[B];unfold jT;rw[aB]
 dsimp only;refine lO (λq f=>#[012]) ?_
 .have e:decide ((60:Int)<=(iN n.bt:Nat))=false:=c7 cT;rw[<- e]at f;exact f
 refine EW (aW (k:Nat)) (λq f=>#[01,o,01,by rw[g];exact f]) ?_;refine#[01,(1),12];refine Â eH eH #[10,(k:Nat),1,by show iN n.bt<=_;lia,2];have a:GA n.bt (k:Nat) (cV r)=jT (l++[(k,r)]):=by rw[B];exact xA j
 refine Â eH eH #[1,fs,an,d,m,o,l++[(k,r)],S,7,F,z,s,u,a,JZ C b,by rw[aV];show _+1<=60;exact ŀ,hd,x,y,p,λt H R=>#[52]];have e:(#[jT (l++[(k,r)]),((k+1:Nat):Int),gS t]:EO)=#[GA n.bt (k:Nat) (cV r),n.fol+1,gS t]:=by rw[a,g];rfl
 have f:=h t H R;rw[e]at f;exact f
theorem Pk:Fm P w K mg base rH 17 ŧ.m ["self","number"] (kE K (OK A)):=by
 let v nd q n L Q h:=XS (F:=nE A) T.D_7.F Cf;refine ð h λfs an d m J p χ=>Ñ χ λk r H C ψ=>ï L ψ λF y φ=>Û φ λg j s x B χ=>Û χ λhd l o f c h=>#[Ϙ,_,(cA (qB (pF cR qq (mC qq) (λh e=>iH h T.gb T.M_12 (UV T) (v.ko cS) T.D_12.d tj jN e)) (λh=>eO h))
 (cA (wO (i:=2) (aOb T.gb T.jr qq qq (pc:=λh e=>eQ lX pQ wI MG h (gT e mJ))) (λh=>pB h (pn 2 nd)))
 (dP (jB (SL (kR (mP qq) (kR (sD cR qq (λh=>rY h T.gb T.M_13 (CJ T) (v.ko cS) T.D_13.d tj jN)) vQ))))))),2]
 obtain rfl:=hZ C;have b:qJ n.bt (k:Nat)=wz (cV r):=by rw[s];exact nX c
 refine#[010,q,(k:Nat),cV r,7,b,2];dsimp only;refine#[010,(k:Nat),cV r,1,b,2];have a:HJ n.bt (k:Nat)=jT (jW k p):=by rw[s];exact BZ k p
 refine Â eH eH #[1,fs,an,d,m,q,jW k p,H,7,F,y,g,j,a,J1 x,aR (aS _ _) B,hd,l,o,f,λt z E=>#[52]];have u:=h t z E;rw[<- a]at u;exact u
theorem Pl:Fm P w K mg base rH 17 ŧ.n ["self","number","row"] (kE K (Pa A)):=by
 let g nd l n U Q h:=XS (F:=nE A) T.D_8.F Cg;refine ð h λfs an d m S y φ=>ø U φ λk r j R L F z q χ=>Û χ λu s C J hd ψ=>Û ψ λv x p a c χ=>Ì χ λe h=>#[Ϙ,_,(cA (qB (pF cR qq (mC qq) (λh o=>iH h T.gb T.M_12 (UV T) (g.ko cS) T.D_12.d tj jN o)) (λh=>eO h))
 (cA (qB (pF cR qq (mC qq) (λh o=>iH h T.gb T.M_11 (UW T) (g.ko cS) T.D_11.d tj jN o)) (λh=>eO h))
 (cA (wO (i:=3) (aOc g.u1 T.gb T.jr qq qq) (λh=>pB h (pn 3 nd)))
 (cA (ZS g.u1 T.gb T.jr qq qq qq)
 (dP (jB (SL (kR (mP qq) (kR (sD cR qq (λh=>rY h T.gb T.M_13 (CJ T) (g.ko cS) T.D_13.d tj jN)) vQ))))))))),2]
 have e:Cr _:=#[e,31];obtain rfl:=hZ L;have f:qJ n.bt (k:Nat)=wz (cV r):=by rw[s];exact nX a
 refine#[010,l,(k:Nat),cV r,7,f,2];refine#[010,fs,an,l,cV j,7,F,z,e,G5 c,2];dsimp only;refine#[010,(k:Nat),cV r,1,f,2];have H:iN n.bt=iN y:=by rw[s];unfold jT;rw[aB]
 refine Â eH eH #[10,(k:Nat),162];have b:GA n.bt (k:Nat) (cV j)=jT (mY k j y):=by rw[s];exact OH a
 refine Â eH eH #[1,fs,an,d,m,l,mY k j y,R,7,F,z,q,u,b,Lo C c,by unfold mY;rw[aB];exact J,hd,v,x,p,λt E N=>#[52]];have B:=h t E N;rw[<- b]at B;exact B
def Oh:Fm P w K mg base rH 16 ŧ.k ["self","form","deep","least"] (MM A K Fv):=by
 let f i ag s H E e j fm dp ls Q h:=Nc T.D_5.F Fu eH T.gb T.ĺ T.Ĕ T.Ģ T.jr T.ŉ T.r8;refine Ò h λfs an d m a z=>í z λF hd h=>?_;have nd:=Fu.nd;refine#[ϛ,3,(cd (De T) e qq),(λh=>(pA (vG (pv 0) (pv 1) eH) (pA (vG (pv 0) (pv 2) eH) (pA (vG (pv 0) (pv 3) eH) (pA (vG (pv 0) GE eH) (pA (vG (pv 0) AC eH) (E4 (vG (pv 0) h eH)))))))),2];injection a with g a
 injection a with b a
 injection a with c _
 injection b with b
 injection c with c
 subst g b c;exact#[054,fs,an,[],d,0,F,(λr e=>by cases e),(bZ _),Ō,h]
theorem Dj:Ft P w base T.D_72 1 Iw:=by
 let n nd j Q h:=nD T.D_72.F Xb;refine Ç h λc k v=>ï j v λl m h=>#[Ϙ,_,(aP qq
 qq),2]
 simp only[X6,S6,jH,OA,Ao,Am,Lq,OB,kA,Z9,nA,zC,eC,XV,Ex,Bl,Ew,mF,yt,OS,OR,Ev,Ep,M0,KU,xR,oR,K5,Bj,Eu,Es,gP,fI,Em,En,SK,Bv,yr,zz,yg,aN9,yf,yq,El,aN6,f1,f2,Br,xI,Rv,Bx,Nr,Hu,Rt,Ht,Qt,lF,aX,iD,bE,yB,kU,rR,dW,wE,pK,List.set_cons_zero,List.set_cons_succ,ao,Sl.val.injEq,Sl.own.injEq,exists_eq_left',exists_eq_left,aW.injEq,QM.injEq,aG.injEq,cN.injEq,eE.injEq,and_true,true_and,fP,x2,t8,aO5,Bool.not_false,↓reduceIte,Nat.reduceAdd,Nat.reduceSub,Nat.reduceLeDiff,Int.reduceNeg,reduceCtorEq]
 have b:=eB c (show(1000000007:Int)≠0 by decide);have d:=dL c (show(0:Int)<1000000007 by decide)
 generalize o:(c%1000000007*48271+k*7919+101)=x
 have e:=eB x (show(2147483647:Int)≠0 by decide);have f:=dL x (show(0:Int)<2147483647 by decide)
 generalize p:x%2147483647=y at *
 have g:=eB (y*y) (show(2147483629:Int)≠0 by decide);have i:=dL (y*y) (show(0:Int)<2147483629 by decide)
 generalize q:y*y%2147483629=z at *
 have a:(2:Int)^64=18446744073709551616:=by decide
 refine#[9,j3 #[6,(Int.le_trans ‹_› (by decide))],j3 #[ŋ,(Int.le_trans ‹_› (by decide))],9,j3 #[Ŋ,(Int.le_trans ‹_› (by decide))],9,j3 #[6,(Int.le_trans ‹_› (by decide))],9,h _ ?_ ?_]
 .exact eB _ cS
 .exact dL _ cS
theorem OP:Ft P w base T.D_73 2 Yw:=by
 let m nd n Q h:=nD T.D_73.F Xc;refine õ n h λns k z=>Ü z λo j l h=>#[Ϙ,_,(aP qq
 (aP qq
 (aP qq
 (bQ (dB (fF dD iY (fF rK J8 fS (cd (Dj T) m qq)) fS)))))),2]
 simp only[X6,S6,jH,OA,Ao,Am,Lq,OB,kA,Z9,nA,zC,eC,XV,Ex,Bl,Ew,mF,yt,OS,OR,Ev,Ep,M0,KU,xR,oR,K5,Bj,Eu,Es,gP,fI,Em,En,SK,Bv,yr,zz,yg,aN9,yf,yq,El,aN6,f1,f2,Br,xI,Rv,Bx,Nr,Hu,Rt,Ht,Qt,lF,aX,iD,bE,yB,kU,rR,dW,wE,pK,List.set_cons_zero,List.set_cons_succ,ao,Sl.val.injEq,Sl.own.injEq,exists_eq_left',exists_eq_left,aW.injEq,QM.injEq,aG.injEq,cN.injEq,eE.injEq,and_true,true_and,fP,x2,t8,aO5,Bool.not_false,↓reduceIte,Nat.reduceAdd,Nat.reduceSub,Nat.reduceLeDiff,Int.reduceNeg,reduceCtorEq]
 have ő:∀c:Int,Iw [aW c,aW k] λy=>Bv (aW 2) y λx=>SK x (aW 1) Q:=λc=>
  #[Ϝ,c,k,1,j,l,λr _ _=>#[j3 #[99],h _]]
 rw[aB];by_cases e:k<(iN ns:Int)
 .rw[b8 (c6 e)];refine Õ (xP (xs:=ns.map aW) (i:=k) j (by rw[aB];exact e)) λa g f _=>Ê (aM.mp g) λb _ v=>?_;subst v;exact#[Ϙ,_,f,h b]
 .rw[a9 (Á e)];by_cases d:0<(iN ns:Int)
  .rw[b8 (c6 d)];refine#[d,2];refine Õ (xP (xs:=ns.map aW) (i:=k%(iN ns:Int)) (eB _ cT) (by rw[aB];exact dL _ d)) λa g f _=>Ê (aM.mp g) λb _ v=>?_;subst v;exact#[Ϙ,_,f,ő b]
  .rw[a9 (Á d)];exact ő 0
theorem J6:Ft P w base T.D_74 2 Yx:=by
 let q nd u Q h:=nD T.D_74.F Xd;refine õ u h λc n ψ=>Ì ψ λy h=>#[Ϙ,_,(aP (so 2 nd bT)
 (aP qq
 (aP (sf (lQ qq (λh=>kJ eH T.ś h)) (cW (pn 4 nd))
 (bQ (fN qq
 (aP (nK (i:=2) (pv 2) qq (pb:=λh=>eO (eQ bW cJ cI gW (pv 2) h)))
 qq)
 (bQ (nK (i:=2) (pv 2) (fF RL rA (fF E8 rA (cd (Dj T) q qq) fS) fS) (pb:=λh=>eO (eQ bW cJ cI gW (pv 2) h)))))))
 (lP 2 qq)))),2]
 simp only[X6,S6,jH,OA,Ao,Am,Lq,OB,kA,Z9,nA,zC,eC,XV,Ex,Bl,Ew,mF,yt,OS,OR,Ev,Ep,M0,KU,xR,oR,K5,Bj,Eu,Es,gP,fI,Em,En,SK,Bv,yr,zz,yg,aN9,yf,yq,El,aN6,f1,f2,Br,xI,Rv,Bx,Nr,Hu,Rt,Ht,Qt,lF,aX,iD,bE,yB,kU,rR,dW,wE,pK,List.set_cons_zero,List.set_cons_succ,ao,Sl.val.injEq,Sl.own.injEq,exists_eq_left',exists_eq_left,aW.injEq,QM.injEq,aG.injEq,cN.injEq,eE.injEq,and_true,true_and,fP,x2,t8,aO5,Bool.not_false,↓reduceIte,Nat.reduceAdd,Nat.reduceSub,Nat.reduceLeDiff,Int.reduceNeg,reduceCtorEq]
 refine#[#[99],ze (ts:=eL n) (λR h=>#[0,(n:Int),1,Ŀ,6,Á h])
  (λk t=>∃(bs:List Int)(l:Int)(g:Sl),t=[.val (aW c),.val (aW n),.own (bs.map aW),.val (aW l),g]/\AO k bs) #[[],37,λb hb=>by simp at hb] (λk x j s e=>?_) λj e=>?_]
 .refine ñ x (iA s) λv=>Ô e λbs l g ψ=>î j ψ λa=>?_;have d:iN (bs.map aW)<=100000:=by rw[aB,a.1];lia
  have more:∀b:Int,0<=b->b<4096->AO (k+1) (bs++[b]):=λb o p=>#[by rw[aV,a.1];rfl,λm f=>by
   rcases bK.mp f with z | z
   .exact a.2 m z
   .have:m=b:=Á z
    subst this;exact#[o,p]]
  show kA _ _ _ _ [.val (aW c),.val (aW n),.own (bs.map aW),.val (aW l),.val (aW k)]
  simp only[X6,S6,jH,OA,Ao,Am,Lq,OB,kA,Z9,nA,zC,eC,XV,Ex,Bl,Ew,mF,yt,OS,OR,Ev,Ep,M0,KU,xR,oR,K5,Bj,Eu,Es,gP,fI,Em,En,SK,Bv,yr,zz,yg,aN9,yf,yq,El,aN6,f1,f2,Br,xI,Rv,Bx,Nr,Hu,Rt,Ht,Qt,lF,aX,iD,bE,yB,kU,rR,dW,wE,pK,List.set_cons_zero,List.set_cons_succ,ao,Sl.val.injEq,Sl.own.injEq,exists_eq_left',exists_eq_left,aW.injEq,QM.injEq,aG.injEq,cN.injEq,eE.injEq,and_true,true_and,fP,x2,t8,aO5,Bool.not_false,↓reduceIte,Nat.reduceAdd,Nat.reduceSub,Nat.reduceLeDiff,Int.reduceNeg,reduceCtorEq]
  refine#[92];split
  .refine#[9,d,#[99],#[ϟ,bs++[l%4096],3,by rw[bA];rfl,more _ (eB _ cS) (dL _ cS)]]
  .refine#[#[99],31,Ŀ,6,λr _ _=>?_];exact#[#[99],9,d,#[ϟ,bs++[r / 3%4096],3,by rw[bA];rfl,more _ (eB _ cS) (dL _ cS)]]
 .refine Ô e λbs l g ψ=>î j ψ λa=>?_;rw[jD]at a;exact#[4,h bs a]
theorem Dk:Ft P w base T.D_75 1 Yy:=by
 let hr nd ds Q h:=nD T.D_75.F Xe;refine ò ds h λbs n m k hb hk hn hm h=>#[Ϙ,_,(aP qq
 (aP (ss 4 nd (gE dX (aO (el (fr:=[wx,wz 3,wz 0,wz 1]) (N':=["_law_k","_law_letters","_law_drawn_here","_law_at"]) (lQ qq (λh=>kJ eH T.ś h)) (λb=>#[(cW (pk 0)),fZ,(nO iP rF (eP 1) (fF RL rA (nO iP rF (eP 2) (fF dD iY (fF dD iY (eP 3) fS) (eP 0))) fS))])) bT) (λh ha=>eQ bF bO bN gD h ha)))
 (aP qq
 (aP qq
 (aP (fN qq
 (bQ (nI (i:=6) (fr:=[wx,wz 4]) (N':=["_law_k","_law_word"]) (lQ qq (λh=>kJ eH T.ś h)) (λb=>#[(cW (pk 0)),fZ,(BT LX Aj (eP 1) E6 (E5 (fF dD iY (eP 0) fS)))]) (λhi hY=>kZ (show pO _ (aQ (top 90)) ["_law_drawn_here","_law_at","_law_many","_law_letters","_law_word","_law_turn","_law_names_here","_law_place","_law_k","_law_sign"] ["_law_k","_law_word"] [wx,wz 4]=ww from cR) nd eH À eH hi hY eH)))
 eK)
 (aP (fN qq
 (aP qq
 (aP (so 6 nd bT)
 (aP (sf (lQ qq (λh=>kJ eH T.ś h)) (cW (pn 8 nd))
 (aP qq
 (bQ (nK (i:=6) (pv 6) qq (pb:=λh=>eO (eQ bW cJ cI gW (pv 6) h))))))
 (lP 6 eK))))
 eK)
 (bQ (dB (cY rG qq jJ T.ň oH))))))))),2]
 show jH _ _ _ [.val (eE (bs.map aW)),.val (aW k),.val (aW m),.un,.un,.un,.un,.un,.un,.un];have o:∀i,i<11->∃b:Nat,L2.y0 (bs.map aW) (((k+i:Nat)):Int)=wz (aW (b:Int)):=λi hi=>aIw hb (k+i) (bX (Y1 hi k) hk);let B f:=Ë (o 0 cS)
 replace f:L2.y0 (bs.map aW) (k:Int)=wz (aW (B:Int)):=f
 have L:(0:Int)<26:=by decide
 have p8:(0:Int)<8:=by decide
 have p3:(0:Int)<3:=by decide
 refine bV (aG hX) (λq a=>a) ?_;refine iX (λd=>∃z:â,d=aG z/\iN z.cps.toList=8/\∀c∈aO6 z.cps,c∈aO6 hX.cps) (λq a=>#[Ϙ,02]) ?_
 .refine MN (ts:=eL 8) (λR h=>#[(8),199,h]) (λ_ _ y=>∃c,c∈aO6 hX.cps/\y=aG #[(Ŭ [c])]) cS (λj x q H a=>?_) λC hl U=>Qz hl U a;refine ñ x (iA H) λS=>Ë (o (1+j) (bX (Y1 S 1) cS)) λb u=>?_
  replace u:L2.y0 (bs.map aW) ((k:Int)+1+(j:Int))=wz (aW (b:Int)):=by rw[Int.add_assoc];exact u
  exact Ê (aOt b) λc hc rk=>#[048,u,L,9,c,rk,a _ #[Ϙ,c,hc,1]]
 rintro _ ⟨z,rfl,p,J⟩;have hz:=ZW p;obtain⟨t,ht,ug⟩:∃t:Nat,((B:Int) / 3%8)=(t:Int)/\t<8:=#[Ϙ,B / 3%8,1,qX _ cS];refine bV (aW (t:Int)) (λq a=>Â eH eH #[_,f,#[99],p8,by rw[ht];exact a]) ?_;refine bV (eE (Kx.map aG)) (λq a=>#[9,a]) ?_
 have l:∀(C:List â)v,P9 8 C->v[6]?=wz (.val (eE (C.map aG)))->v[5]?=wz (.val (aW (t:Int)))->v[2]?=wz (.val (aW m)) ->
   OB (mF (f1 xI) (oR (yt yq (XV SK (yt yq (zC 6) (OR (zC 5)) OS) (yt yq (zC 6) OS (OR (zC 5)))) OS (OR (zC 2))) xR)) { nx:=λ_=>Q ES,rt:=Q } v:=λC v U e6 e5 e2=>by
  refine#[_,e6,_,e5,_,e6,_,e5,2,_,e2,2]
  .rw[jP,jP,aB,aB,tK,qW,dA,bB,U.1];exact aR (Nat.add_le_add (Nat.sub_le _ _) (oM _ _)) cS
  .show Q (cN (iB (iB (C.map aG) (wz (t:Int)) wx++iB (C.map aG) wx (wz (t:Int))) wx (wz (m:Int))));rw[jP,jP,<- bA,jP,tK,qW,qW];exact h _ (Rc U _ hm)
 refine gF (λb=>b=decide ((B:Int)%3=0)) (λq a=>Â eH eH #[_,f,p3,a _ eH]) (λN=>?_) λhF=>?_
 .have E:(B:Int)%3=0:=c8 N.symm;refine mK (eE (((eZ 8).map λ(j:Nat)=>Txt.slice z wx (wz ((j:Int)+1))).map aG)) (λq a=>?_) ?_
  .refine jI (ts:=eL 8) (λR h=>#[(8),199,h]) (λx=>match x with | aW j=>aG (Txt.slice z wx (wz (j+1))) | _=>ES) cS (λx q H a=>?_) ?_
   .refine Ê (aM.mp H) λj S Z=>?_;subst Z;exact Â eH eH #[hz,a]
   .unfold eL;rw[bH];rw[bH]at a;exact a
  .dsimp only;refine gF (λb=>b=wv) (λq a=>Â eH eH #[_,f,p3,a _ (by rw[E];rfl)]) (λN=>by cases N) λ_=>?_;exact l _ _ (aHg p J) eH eH eH
 .try unfold nA
  dsimp only;refine gF (λb=>b=decide ((B:Int)%3=1)) (λq a=>Â eH eH #[_,f,p3,a _ eH]) (λN=>?_) λhF=>?_
  .refine Ë (o 9 cS) λW s=>?_
   replace s:L2.y0 (bs.map aW) ((k:Int)+9)=wz (aW (W:Int)):=s
   let e g:=Ë (o 10 cS)
   replace g:L2.y0 (bs.map aW) ((k:Int)+10)=wz (aW (e:Int)):=g
   obtain⟨r,ua,ni⟩:∃r:Nat,(W:Int)%((t:Int)+1)=(r:Int)/\r<=t:=#[Ϙ,W%(t+1),1,Nat.le_of_lt_succ (qX _ (TC _))];refine bV (aW (r:Int)) (λq a=>Â eH eH #[_,s,0,(show(0:Int)<((t+1:Nat):Int)from Int.natCast_pos.mpr (TC _)),by rw[ua];exact a]) ?_;refine lL [] cS (λq a=>a) ?_
   refine jM (ts:=eL 8) (λR h=>#[(8),199,h])
    (λj v=>∃s8 s9:Sl,v=[.val (eE (bs.map aW)),.val (aW k),.val (aW m),.val (aG hX),.val (aG z),.val (aW (t:Int)),.own (((eZ j).map λj=>wK z r t (P2 ((e+5*j)%26))).map aG),.val (aW (r:Int)),s8,s9]) #[31] (λj x v7 H X=>?_) λv7 X=>?_
   .refine ñ x (iA H) λS=>û v7 X λs8 s9=>?_;have hc:L2.y0 (aO6 hX.cps) (((e:Int)+5*(j:Int))%26)=wz (P2 ((e+5*j)%26)):=by rw[Nn];exact L2.dU (B3 (qX _ cS))
    refine Ì (QT p r t (P2 ((e+5*j)%26))) λw1 w2=>bV (aG #[(Ŭ [P2 ((e+5*j)%26)])]) (λq a=>Ã eH eH eH #[_,g,0,j3 #[99],L,9,_,hc,a]) ?_;refine nW (ts:=((eZ j).map λj=>wK z r t (P2 ((e+5*j)%26))).map aG) (aG (wK z r t (P2 ((e+5*j)%26)))) eH (by rw[aB,aB,pS];exact aR (iG S) cS) (λq a=>Â eH eH #[hz,0,w1,04,hz,w2,a]) #[.val (aW j),.val (aG #[(Ŭ [P2 ((e+5*j)%26)])]),2];rw[rQ,bA,bA];rfl
   .refine û v7 X λs8 s9=>?_;rw[jD];exact#[Ϙ,0,l _ _ (aBu p J ug ni) eH eH eH]
  .exact l _ _ Ob eH eH eH
theorem Sh:Ft P w base T.D_76 3 Yz:=by
 let g nd ds Q h:=nD T.D_76.F Xf;refine Í ds h λns H h=>#[Ϙ,_,(aP (ss 1 nd (cd (J6 T) g (aO (cd (OP T) g qq) qq)))
 (aP (ss 2 nd (cd (Dk T) g qq))
 (aP (so 3 nd bT)
 (aP (sf (lQ qq (λh=>kJ eH T.ś h)) (cW (pn 4 nd))
 (aP (ss 5 nd (cd (J6 T) g (aO (cd (OP T) g qq) qq)))
 (bQ (nK (i:=3) (pv 3) (iU (aO qq (aO (cd (Dk T) g qq) bT))) (pb:=λh=>eO (eQ bW cJ cI gW (pv 3) h))))))
 (aP (ss 5 nd (cd (J6 T) g (aO (cd (OP T) g qq) qq)))
 (lP 3 (bQ (dB (iU (aO (cY rG qq jJ T.ň oH) (aO (cd (Dk T) g qq) bT))))))))))),2]
 have p8:(0:Int)<8:=by decide
 have p6:(0:Int)<6:=by decide
 have p4:(0:Int)<4:=by decide
 show jH _ _ _ [.val (eE (ns.map aW)),.un,.un,.un,.un,.un];refine iX (λd=>∃bs,AO 20 bs/\d=eE (bs.map aW)) (λq e=>#[0,ns,(0),1,H,99,λr=>#[ϛ,r,(20),19,λbs hb=>e _ #[Ϙ,bs,hb,1]]]) ?_;rintro _ ⟨bs,hb,rfl⟩;refine Õ (jL hb (i:=0) cS cS) λb0 n o C=>Õ (By (xs:=[1,2,2,3,3,3,4,5]) (lo:=1) (hi:=5) cS (i:=b0%8) (eB _ cS) (dL _ p8)) λm ox xf hm=>iX (λd=>∃c,P9 (Ă m) c/\d=cN (c.map aG)) (λq e=>?_) ?_
 .refine#[098,C,p8,_,hm,bs,(20),Ă m,(1),2,hb,996,λc u=>e _ #[Ϙ,c,u,1]];rw[show((Ă m:Nat):Int)=m by lia];rfl
 rintro _ ⟨c,u,rfl⟩;have U:iN c=Ă m:=u.1;refine lL [] cS (λq e=>e) ?_
 refine jM (ts:=eL (iN c)) (λR h=>#[4,by rw[aB];simp,by rw[aB];lia,by simpa using h])
  (λk σ=>∃(fs:List (â×List â))(W X:Sl),σ=[.val (eE (ns.map aW)),.val (eE (bs.map aW)),.val (cN (c.map aG)),.own (fs.map nF),W,X]/\fs.map (·.1)=c.take k/\∀f∈fs,2<=iN f.2/\iN f.2<=5/\P9 (iN f.2) f.2)
  #[Ϡ,[],31,dN,λf E=>by simp at E] (λk x v7 hx B=>?_) λv7 B=>?_
 .refine ñ x (iA hx) λhk=>Ç B λfs W ψ=>Í v7 ψ λX b l=>?_
  have s:iN fs=k:=by
   have:=d9 iN b;rw[aB,bB]at this;grind
  refine iX (λd=>∃bs,AO 12 bs/\d=eE (bs.map aW)) (λq e=>Â eH eH #[ϝ,ns,1+(k:Int),1,H,Ŀ,Ŋ,λr=>#[ϛ,r,(12),19,λbs hb=>e _ #[Ϙ,bs,hb,1]]]) ?_;rintro _ ⟨t,p,rfl⟩;refine Õ (jL p (i:=0) cS cS) λy n o j=>Õ (By (xs:=[2,2,3,3,4,5]) (lo:=2) (hi:=5) cS (i:=y%6) (eB _ cS) (dL _ p6)) λv L N J=>#[fs.map nF,108,aEg hk,098,j,p6,_,J,t,(12),Ă v,(1),2,p,99,Ŋ,λvs a=>?_]
  .rw[show((Ă v:Nat):Int)=v by grind];rfl
  .refine#[aA eH,by rw[aB];grind,fs++[(c[k],vs)],.val (aW k),.val (eE (t.map aW)),22,λf E=>?_]
   .rw[bA];rfl
   .rw[bA,b,cE,aC hk];rfl
   .rcases bK.mp E with z | z
    .exact l f z
    .have:f=(c[k],vs):=Á z
     subst this;have S:=a.1;refine#[by show 2<=iN vs;grind,by show iN vs<=5;grind,2];show P9 (iN vs) vs;rw[S];exact a
 .refine Ç B λfs W ψ=>Í v7 ψ λX b l=>?_;rw[jD,cK]at b;have s:iN fs=iN c:=by rw[<- b,aB]
  refine iX (λd=>∃bs,AO 12 bs/\d=eE (bs.map aW)) (λq e=>#[0,ns,(6),1,H,99,λr=>#[ϛ,r,(12),19,λbs hb=>e _ #[Ϙ,bs,hb,1]]]) ?_;rintro _ ⟨t,p,rfl⟩;refine Õ (jL p (i:=0) cS cS) λy n o j=>Õ (By (xs:=[2,2,3,4]) (lo:=2) (hi:=4) cS (i:=y%4) (eB _ cS) (dL _ p4)) λv L N J=>#[0498,j,p4,_,J,t,(12),Ă v,(1),2,p,99,Ŋ,λvs a=>#[aA eH,h fs vs #[Ŋ,Ŋ,2,l,222]]]
  .rw[show((Ă v:Nat):Int)=v by grind];rfl
  .rw[b,s,U];exact u
  .have:=a.1;grind
  .have:=a.1;grind
  .have:=a.1;rw[this];exact a
theorem Jg:Ft P w base T.D_77 1 YP:=by
 let hr nd ds Q h:=nD T.D_77.F Xg;refine Ë h λfs ψ=>ù ds ψ λan bs n F hb hn h=>#[Ϙ,_,(aP (so 2 nd bT)
 (aP (sf (lQ qq (λh=>kJ eH T.ś h)) (cW (pn 3 nd))
 (aP qq
 (bQ (fN qq
 (bQ (nK (i:=2) (pv 2) qV (pb:=λh=>eO (eQ bW cJ cI gW (pv 2) h))))
 (bQ (nK (i:=2) (pv 2) qq (pb:=λh=>eO (eQ bW cJ cI gW (pv 2) h))))))))
 (lP 2 (bQ (dB (cY rG qq jJ T.ň oH)))))),2]
 show jH _ _ _ [.val (dQ fs an),.val (eE (bs.map aW)),.un,.un,.un];have n5:=F.n5;refine lL [] cS (λq e=>e) ?_
 refine jM (ts:=eL (iN fs)) (λR h=>#[04,by rw[aB];simp,by rw[aB];lia,by simpa using h])
  (λk σ=>∃(a:List D)(s3 E:Sl),σ=[.val (dQ fs an),.val (eE (bs.map aW)),.own a,s3,E]/\iN a=k/\∀(j:Nat) f c,fs[j]?=wz f->a[j]?=wz c->UX f c=ww)
  #[Ϡ,[],37,λj f c _ r=>by simp at r] (λk x H W y=>?_) λH y=>?_
 .refine ñ x (iA W) λJ=>Ç y λa s3 ψ=>Í H ψ λE d o=>Õ (jL hb (i:=(k:Int)) cT cT) λb L N p=>?_;have t:fs[k]?=wz fs[k]:=aC J;have C:fs[k]∈fs:=fC J;let v2 v5 U:=í (F.vs _ C);have B:L2.y0 (fs.map nF) (k:Int)=wz (nF fs[k]):=L2.dU (by rw[aK,t];rfl)
  have more:∀c:D,UX fs[k] c=ww->∀(j:Nat) f u,fs[j]?=wz f->(a++[c])[j]?=wz u->UX f u=true:=λc r j f u v g=>by
   by_cases S:j<iN a
   .rw[fA S]at g;exact o j f u v g
   .rw[eU ŏ]at g
    have:j=k:=by
     cases q:j-iN a with
     |zero=>grind
     |succ m=>rw[q]at g;simp at g
    subst this;rw[t]at v;cases v;rw[d,aX5]at g;simp at g;rw[<- g];exact r
  refine bV (cN (fs[k].2.map aG)) (λq e=>#[48,B,0,e]) ?_;refine qA (λb=>True) (λq e=>Â eH eH #[_,p,(show(0:Int)<6 by decide),e _ trivial]) (λ_=>?_) λ_=>?_
  .refine nW (ts:=a) ES eH cT (λq e=>e) #[Ϡ,a++[ES],31,by rw[aV,d];rfl,more ES eH]
  .have l:(0:Int)<(iN (fs[k].2.map aG):Int):=by rw[aB];lia
   refine Õ (xP (xs:=fs[k].2.map aG) (i:=b / 6%(iN (fs[k].2.map aG):Int)) (eB _ cT) (dL _ l)) λc r s _=>Ê (aM.mp r) λz X Z=>?_;subst Z;refine nW (ts:=a) (aG z) eH cT (λq e=>Ã eH eH eH #[_,p,#[99],0,l,_,s,e]) #[Ϡ,a++[aG z],31,by rw[aV,d];rfl,more (aG z) (c6 X)]
 .refine Ç y λa s3 ψ=>Í H ψ λE d o=>?_;rw[jD]at d;exact#[4,h a (aIq d o)]
theorem Jh:Ft P w base T.D_78 2 Za:=by
 let hr nd ds Q h:=nD T.D_78.F Xh;refine Ë h λfs ψ=>ù ds ψ λan bs n F hb hn h=>#[Ϙ,_,(aP (ss 2 nd (cd (Jg T) hr qq))
 (aP qq
 (aP (fN qq
 (aP qq
 (bQ (sf (lQ qq (λh=>kJ eH T.ś h)) (cW (pn 4 nd))
 (bQ (fN (fL WX aBs qq qV)
 (bQ (ss 3 nd (fF dD iY qq (fF rK J8 (BV qq qq (λh N=>eQ oK oJ oI (BG hr) h N)) qq))))
 eK)))))
 eK)
 qq))),2]
 show jH _ _ _ [.val (dQ fs an),.val (eE (bs.map aW)),.un,.un,.un];have n5:=F.n5;refine Õ (jL hb (i:=6) cS cT) λb6 wc we U=>Õ (jL hb (i:=7) cS cT) λb7 wf wg v=>iX (λd=>∃c,fY fs (cN c)=ww/\d=cN c) (λq f=>Â eH eH #[ϣ,fs,an,bs,n,1,F,hb,hn,λc H=>f _ #[Ϙ,c,H,1]]) ?_;rintro _ ⟨c,H,rfl⟩;refine Ì (nS H) λry W=>bV (aW b6) (λq f=>#[8,U,f]) ?_
 have g:∀(x:Int)s,s[0]?=wz (.val (dQ fs an))->s[2]?=wz (.val (cN c))->s[3]?=wz (.val (aW x)) ->
   OB (Bl (oR (zC 2) (oR (XV yf (XV yf (zC 0) (eC (aW 1))) (XV (fI (λ_ j=>0<j) λi j=>i%j) (zC 3) (mF (f1 Br) (oR (XV yf (zC 0) (eC (aW 1))) xR)))) xR))) { nx:=λ_=>Q ES,rt:=Q } s:=λx s e0 u e3=>by
  have l:(0:Int)<(iN (an.map aG):Int):=by rw[aB];have:=F.a2;lia
  refine Õ (xP (xs:=an.map aG) (i:=x%(iN (an.map aG):Int)) (eB _ cT) (dL _ l)) λa N S _=>Ê (aM.mp N) λy hy M=>?_;subst M;exact#[_,u,_,e0,8,e3,_,e0,0,l,_,S,aA eH,h c y H hy]
 refine gF (λ_=>True) (λq f=>#[8,v,(show(0:Int)<3 by decide),f _ trivial]) (λ_=>?_) λ_=>?_
 .refine bV (aW (b7 / 3%2)) (λq f=>#[8,v,#[99],(show(0:Int)<2 by decide),f]) ?_
  refine ze (ts:=eL (iN c)) (λR h=>#[466,by simpa using h])
   (λk s=>∃(x:Int)(s4:Sl),s=[.val (dQ fs an),.val (eE (bs.map aW)),.val (cN c),.val (aW x),s4]) #[31] (λk x v7 hx L=>?_) λv7 L=>?_
  .refine ñ x (iA hx) λhk=>û v7 L λx s4=>?_;have r:k<iN fs:=by lia
   have o:L2.y0 c (k:Int)=wz c[k]:=L2.dU (aC hk);have B:L2.y0 (fs.map nF) (k:Int)=wz (nF fs[k]):=L2.dU (by rw[aK,aC r];rfl);have J:=W k fs[k] c[k] (aC r) (aC hk);refine qA (λb=>b=!tE c[k]) (λq f=>Â eH eH #[_,o,f _ eH]) (λhT=>?_) λ_=>#[31]
   cases e:c[k]with
   |str z=>
    rw[e]at J o;have hz:z∈fs[k].2:=c8 J;have p:fs[k]∈fs:=fC r;let v2 v5 ui:=í (F.vs _ p);have E:fs[k].2.idxOf z<fs[k].2.length:=oS.mpr hz;let Z Y V O d5 d6:=Û (zU (A0 (F.Ŗ p) (aL 8) (m:=0)))
    have X:RN (fs[k].2.map aG) (aG z) (fs[k].2.idxOf z):=by
     refine#[d6,(kQ (F.Ŗ p z hz) (aL 8) (m:=0)).lay,6,#[Ϙ,aG z,22],λm t hm C=>?_]
     .rw[aK,aC E,tG E];rfl
     .show(z==z)=ww;simp
     .rw[aK]at C
      cases u:fs[k].2[m]? with
      |none=>rw[u]at C;cases C
      |some y=>
       rw[u]at C;cases C;show(y==z)=wv;have xg:m<fs[k].2.length:=(aD.mp u).1
       have:y≠z:=λq=>by
        subst q;exact FD hm u
       simpa using this
    refine mK (aW (x+(fs[k].2.idxOf z:Int)*((k:Int)+1))) (λq f=>#[048,B,048,o,31,X,0,i7 #[66],f]) #[31]
   |none=>rw[e]at hT;cases hT
   |_=>rw[e]at J;cases J
  .exact û v7 L λx s4=>g x _ eH eH eH
 .exact g b6 _ eH eH eH
theorem Ji:Ft P w base T.D_79 1 Zb:=by
 let hr nd ds Q h:=nD T.D_79.F Xi;refine Ô h λfs an k ψ=>ò ds ψ λn v st o F d oy hc h=>#[Ϙ,_,(aP (T5 qq (C7 (mI eH (dI (pn 4 nd) (dI (pn 5 nd) (dI (pn 6 nd) kC))))) (λhe hg=>pB he hg))
 (aP (sf (lQ qq (λh=>kJ eH T.ś h)) (cW (pn 7 nd))
 (bQ (fN qq
 (aP qq
 (aP (fN (fL AE GK qq qV)
 qq
 eK)
 (aP (fN qq
 (bQ (dB (nO iP rF qq (cY K4 qq rN T.Ĩ tL))))
 eK)
 (bQ (dB (nO iP rF qq (cY K4 (aO (pG GG vH (BV qq qq (λh L=>eQ oK oJ oI (BG hr) h L)) (BV qq qq (λh L=>eQ oK oJ oI (BG hr) h L))) bT) rN T.Ĩ tL)))))))
 eK)))
 qq)),2]
 show jH _ _ _ [.val (dQ fs an),.val (cN [aG k,aG n,aG v]),.val (aG st),.val (cN o),.un,.un,.un,.un,.un];let N S:=Ì (nS hc);have n5:=F.n5;refine ó (yN d) λf0 s u X ow=>Z3 (a:=aG k) (b:=aG n) (c:=aG v) (λq d=>#[0,d]) ?_
 refine jM (ts:=eL (iN o)) (λR h=>#[4,Ŀ,6,by simpa using h])
  (λm σ=>∃s7 s8:Sl,σ=[.val (dQ fs an),.val (cN [aG k,aG n,aG v]),.val (aG st),.val (cN o),.val (aG k),.val (aG n),.val (aG v),s7,s8]/\∀(j:Nat) f,j<m->fs[j]?=wz f->f.1≠n) #[Ϛ,31,λj f B=>by lia] (λm x v7 hx J=>?_) λv7 J=>?_
 .refine ñ x (iA hx) λhm=>õ v7 J λs7 s8 C=>?_;have y:m<iN fs:=by lia
  have l:fs[m]?=wz fs[m]:=aC y;have p:o[m]?=wz o[m]:=aC hm;have t:L2.y0 (fs.map nF) (m:Int)=wz (nF fs[m]):=L2.dU (by rw[aK,l];rfl);have i:L2.y0 o (m:Int)=wz o[m]:=L2.dU p;have r:fs[m]∈fs:=fC y;have gs:=S m _ _ l p;refine qA (λb=>b=decide (fs[m].1=n)) (λq d=>#[48,t,4,d _ eH]) (λhT=>?_) λhF=>?_
  .have en:fs[m].1=n:=c8 hT.symm;rw[F1 F l p en]at h;have W:fs[m]=f0:=aB8 F s r (en.trans u.symm)
   generalize au:o[m]=c at i gs h
   refine bV (cN (fs[m].2.map aG)) (λq d=>#[48,t,0,d]) ?_;refine gF (λb=>b=tE c) (λq d=>Â eH eH #[_,i,d _ eH]) (λH=>?_) λH=>?_
   .cases c with
    |none=>exact#[0,h]
    |_=>cases H
   .try unfold nA
    dsimp only
    cases c with
    |none=>cases H
    |str z=>
     have hz:z∈fs[m].2:=c8 gs;have g:Q (aG (if k="is" then(if z=v then "yes" else "no")else if fs[m].2.idxOf z<=fs[m].2.idxOf v then "yes" else "no")):=h;refine gF (λb=>b=decide (k="is")) (λq d=>#[0,d _ eH]) (λE=>?_) λE=>?_
     .rw[b8 (c8 E.symm)]at g;refine#[508,i,8,Jm (decide (z=v)),2];by_cases e:z=v
      .rw[b8 e]at g;rw[c6 e];exact g
      .rw[a9 e]at g;rw[c7 e];exact g
     .try unfold nA
      dsimp only;rw[a9 (e7 E.symm)]at g;have i1:=yI (F.Ŗ r) hz;have i2:=yI (F.Ŗ r) (z:=v) (by rw[W];exact X);refine#[5048,i,31,i1,480,i2,_,Jm (decide ((fs[m].2.idxOf z:Int)<=(fs[m].2.idxOf v:Int))),2];by_cases e:fs[m].2.idxOf z<=fs[m].2.idxOf v
      .rw[b8 e]at g;rw[c6 cT];exact g
      .rw[a9 e]at g;rw[c7 cT];exact g
    |_=>cases gs
  .refine#[Ϛ,31,λj f B U=>?_];by_cases z:j<m
   .exact C j f z U
   .have:j=m:=by lia
    subst this;rw[l]at U;cases U;exact e7 hF.symm
 .refine õ v7 J λs7 s8 C=>?_;rw[jD,N]at C;exact Ë (cP s) λj B=>c9 u (C j f0 (aD.mp B).1 B)
theorem Si:Ft P w base T.D_80 1 Zc:=by
 let hr nd ds Q h:=nD T.D_80.F Xj;refine õ ds h λfs an ψ=>Ì ψ λF h=>#[Ϙ,_,(aP (so 1 nd bT)
 (aP (sf (eD qq) (lM (mI eH (dI (pn 2 nd) (dI (pn 3 nd) kC))))
 (aP (sf (eD (BT LX Aj qq E6 (E5 (nO iP rF qq (cY K4 qq rN T.Ĩ tL))))) (cW (pn 4 nd))
 (bQ (nK (i:=1) (pv 1) qq (pb:=λh=>eO (eQ bW cJ cI gW (pv 1) h)))))
 (bQ (sf (lQ qq (λh=>kJ eH T.ś h)) (cW (pn 5 nd))
 (bQ (fN (N3 UO UO vH vH fS qq qq)
 (bQ (nK (i:=1) (pv 1) qq (pb:=λh=>eO (eQ bW cJ cI gW (pv 1) h))))
 eK))))))
 (lP 1 qq))),2]
 show jH _ _ _ [.val (dQ fs an),.un,.un,.un,.un,.un];have n5:=F.n5;refine lL [] cS (λq l=>l) ?_
 refine jM (ts:=fs.map nF) (λR h=>#[04,h])
  (λk r=>∃B s3 c d:Sl,r=[.val (dQ fs an),.own (fV (fs.take k)),B,s3,c,d]) #[331] (λk x b o a=>?_) λb a=>?_
 .refine ú b a λB s3 c d=>?_;rw[aK]at o;let f p Z:=Ê (cM.mp o);subst Z;have N:f∈fs:=aU p;let v2 v5 ui:=í (F.vs f N);have L:=oP F (fs.take k) λg S=>eG S;have U:iN (fs.take k)<=5:=by rw[bB];grind
  refine#[Ϛ,312]
  refine jM (ts:=(uH f).map aG) (λR h=>?_)
   (λj r=>∃c:Sl,r=[.val (dQ fs an),.own (fV (fs.take k)++((uH f).take j).map (QG "is" f)),.val (aG f.1),.val (cN (f.2.map aG)),c,d]) #[c,by rw[LJ,iD,cG];rfl] (λj x b o a=>?_) λb a=>?_
  .have n:∃m:Nat,L2.y0 [aW (iN (f.2.map aG):Int),aW 1] (if decide ((iN (f.2.map aG):Int)=2)then 1 else 0)=wz (aW (m:Int))/\f.2.take m=uH f:=by
    rw[aB];unfold uH;by_cases C:iN f.2=2
    .rw[b8 (c6 cT),b8 C];exact#[Ϙ,(1),7]
    .rw[a9 (Á (by lia:¬(f.2.length:Int)=2)),a9 C];exact#[Ϙ,iN f.2,1,cK]
   refine Ê n λm n W=>Â eH eH #[aA eH,8,n,02];rw[jP,qW,W];exact h
  .refine Ù b a λc=>?_;rw[aK]at o;let z s Z:=Ê (cM.mp o);subst Z;have y:=(aD.mp s).1
   have:iN (uH f)<=5:=by
    unfold uH;split
    .rw[bB];grind
    .omega
   refine nW (ts:=fV (fs.take k)++((uH f).take j).map (QG "is" f)) (QG "is" f z) eH (by rw[aV,aB,bB];grind) (λq l=>Â eH eH #[aA eH,l]) #[.val (aG z),2];rw[cE,s,bA,dM];rfl
  .refine Ù b a λc=>?_;rw[aB,cK]
   have X:iN (uH f)<=5:=by
    unfold uH;split
    .rw[bB];grind
    .omega
   refine ze (ts:=eL (iN f.2)) (λR h=>#[4,by rw[aB];simp,by rw[aB];lia,by simpa using h])
    (λj r=>∃d:Sl,r=[.val (dQ fs an),.own (fV (fs.take k)++(uH f).map (QG "is" f)++(((f.2.take j).drop 1).take (iN f.2-3)).map (QG "upto" f)),.val (aG f.1),.val (cN (f.2.map aG)),c,d]) #[d,dN] (λj x b o a=>?_) λb a=>?_
   .refine ñ x (iA o) λy=>Ù b a λd=>?_;have s:L2.y0 (f.2.map aG) (j:Int)=wz (aG f.2[j]):=L2.dU (by rw[aK,aC y];rfl);rw[aCb y,bA];refine qA (λt=>t=decide (0<j/\j+2<iN f.2)) (λq l=>?_) (λJ=>?_) λH=>?_
    .refine#[02];show(if decide ((0:Int)<(j:Int))=ww then _ else _);by_cases E:0<j
     .rw[b8 (c6 cT)];refine#[0,l _ ?_];show decide ((j:Int)<(iN (f.2.map aG):Int)-2)=_;rw[aB,i0];omega
     .rw[a9 (Á (by lia:j=0))];exact l _ (c7 λz=>E z.1).symm
    .have v:0<j/\j+2<iN f.2:=c8 J.symm;rw[b8 v];refine nW (ts:=fV (fs.take k)++(uH f).map (QG "is" f)++(((f.2.take j).drop 1).take (iN f.2-3)).map (QG "upto" f)) (QG "upto" f f.2[j]) eH (by simp only[aV,aB,bB,dA];grind) (λq l=>Ã eH eH eH #[_,s,aA eH,l]) #[.val (aW j),2];rw[<- dM];rfl
    .have u:¬(0<j/\j+2<iN f.2):=e7 H.symm;rw[a9 u];exact#[.val (aW j),by rw[iD,cG];rfl]
   .refine Ù b a λd=>?_;rw[jD,cK];refine#[.val (aG f.1),.val (cN (f.2.map aG)),c,d,2]
    have e:fV (fs.take (k+1))=fV (fs.take k)++((uH f).map (QG "is" f)++(L7 f).map (QG "upto" f)):=by
     unfold fV;rw[cE,p,bA,YI];show _++[YR f].flatten=_;rw[QP];rfl
    rw[e,dM];rfl
 .refine ú b a λB s3 c d=>?_;rw[aB,cK];exact#[4,h]
theorem Jj:Ft P w base T.D_83 2 Zf:=by
 let f nd B Q h:=nD T.D_83.F Wc;refine Ô h λfs an k χ=>ò B χ λn v st a F c e m ψ=>Ì ψ λC h=>#[Ϙ,_,(aP (so 4 nd bT)
 (aP (so 5 nd bT)
 (aP (sf (eD qq) (cW (pn 6 nd))
 (bQ (fN (fL sA AF (cd (Ji T) f qq) dX)
 (bQ (nK (i:=4) (pv 4) qq (pb:=λh=>eO (eQ bW cJ cI gW (pv 4) h))))
 (bQ (nK (i:=5) (pv 5) qq (pb:=λh=>eO (eQ bW cJ cI gW (pv 5) h)))))))
 (lP 5 (lP 4 qq))))),2]
 show jH _ _ _ [.val (dQ fs an),.val (cN [aG k,aG n,aG v]),.val (aG st),.val (eE (a.map cV)),.un,.un,.un];refine lL [] cS (λq c=>c) ?_;refine lL [] cS (λq c=>c) ?_
 refine jM (ts:=a.map cV) (λR h=>#[4,h])
  (λi z=>∃s:Sl,z=[.val (dQ fs an),.val (cN [aG k,aG n,aG v]),.val (aG st),.val (eE (a.map cV)),.own (((a.take i).filter (jV fs k n v st)).map cV),.own (((a.take i).filter λr=>!jV fs k n v st r).map cV),s]) #[0] (λi x t o j=>?_) λt j=>?_
 .refine Ù t j λs=>?_;have l:i<iN a:=by have:=(aD.mp o).1;rw[aB]at this;exact this
  have ex:x=cV a[i]:=by rw[aK,aC l]at o;exact(d7 o).symm
  subst ex;have u:a.take (i+1)=a.take i++[a[i]]:=by rw[cE,aC l];rfl
  have f:=m a[i] (fC l)
  have E:iN (((a.take i).filter (jV fs k n v st)).map cV)<=60:=by
   rw[aB];have:=aS (jV fs k n v st) (a.take i);rw[bB]at this;grind
  have H:iN (((a.take i).filter λr=>!jV fs k n v st r).map cV)<=60:=by
   rw[aB];have:=aS (λr=>!jV fs k n v st r) (a.take i);rw[bB]at this;grind
  generalize a[i]=r at *
  by_cases g:eN fs k n v st r.1="yes"
  .have hb:jV fs k n v st r=true:=c6 g;refine Kw (λq d=>#[044,fs,an,k,n,v,st,r.1,1,F,c,e,f.1,d _ (c6 g)]) ?_;refine nW (ts:=((a.take i).filter (jV fs k n v st)).map cV) (cV r) eH ŀ (λq c=>#[0,c]) ?_;refine#[.val (cV r),2];rw[u,fE,fE,bA,bA,bY (p:=jV fs k n v st),b8 hb,bY (p:=λr=>!jV fs k n v st r),a9 (by rw[hb];decide),yC,yC,iD,cG]
   rfl
  .have hb:jV fs k n v st r=false:=c7 g;refine qA (λb=>b=wv) (λq d=>#[044,fs,an,k,n,v,st,r.1,1,F,c,e,f.1,d _ (c7 g)]) (λy=>by cases y) λ_=>?_;refine nW (ts:=((a.take i).filter λr=>!jV fs k n v st r).map cV) (cV r) eH ŀ (λq c=>#[0,c]) ?_;refine#[.val (cV r),2];rw[u,fE,fE,bA,bA,bY (p:=jV fs k n v st),a9 (by rw[hb];decide),bY (p:=λr=>!jV fs k n v st r),b8 (by rw[hb];rfl),yC,yC,iD,cG]
   rfl
 .refine Ù t j λs=>?_;rw[aB,cK];exact#[445,h]
theorem Dl:Ft P w base T.D_82 1 Ze:=by
 let p nd u Q h:=nD T.D_82.F Wb;refine ù u h λfs an d F gs s h=>#[Ϙ,_,(aP qq
 (aP (sf (eD qq) (cW (pn 3 nd))
 (aP (ss 4 nd (cB Cy (aO (el (fr:=[wx,wz 3]) (N':=["_law_row_here","_law_answer"]) (eD qq) (λb=>#[(cW (pk 0)),(xH (fL sA AF (nO iP rF (eP 0) fS) (eP 1))),(eP 0)])) bT) xO T.b_len HV))
 qq))
 (bQ (dB (iU (aO qq (aO (cB Kd qq (K2 eH) T.b_max NB) bT))))))),2]
 show jH _ _ _ [.val (dQ fs an),.val (eE (d.map cV)),.un,.un,.un];have a4:=F.a4;have o:((iN (d.map cV):Nat):Int)=(iN d:Int):=by rw[aB]
 refine bV (aW ((iN d:Int)*(iN d:Int))) (λq f=>#[4,IZ (by rw[aB];exact ŀ),by rw[<- o]at f;exact f]) ?_;have m:(iN d:Int)*(iN d:Int)=(iN d:Int)*(iN d:Int)-Ċ ((kY (an.take 0) d).map λc=>c*c):=by rw[show((kY (an.take 0) d).map λc=>c*c).sum=0 from eH,Int.sub_zero]
 rw[m]
 refine jM (ts:=an.map aG) (λR h=>#[04,h])
  (λi t=>∃s3 k:Sl,t=[.val (dQ fs an),.val (eE (d.map cV)),.val (aW ((iN d:Int)*(iN d:Int)-Ċ ((kY (an.take i) d).map λc=>c*c))),s3,k]) #[31] (λi x l g j=>?_) λl j=>?_
 .refine û l j λs3 k=>?_;rw[aK]at g;let a n z:=Ê (cM.mp g);subst z;refine bV (aW ((uP d a:Nat):Int)) (λq f=>?_) ?_
  .rw[<- PJ]at f;dsimp only[mF,oR];refine uL (ts:=d.map cV) (λR h=>#[4,h]) (Af a) id (by rw[aB];exact ŀ) (λx q g f=>?_) (λx q g f=>#[0,f]) f;let r p z:=Ê (aM.mp g);subst z;exact#[04,f]
  .have v:=Jr d a;refine mK _ (λq f=>Ã eH eH eH #[IZ cT,f]) #[.val (aG a),.val (aW ((uP d a:Nat):Int)),2]
   have e:kY (an.take (i+1)) d=kY (an.take i) d++[((uP d a:Nat):Int)]:=by
    unfold kY;rw[cE,n,bA];rfl
   rw[e,bA,aI8,show([((uP d a:Nat):Int)].map λc=>c*c).sum=((uP d a:Nat):Int)*((uP d a:Nat):Int) by simp,<- Int.sub_sub]
   rfl
 .refine û l j λs3 k=>?_;rw[aB,cK,aMc F gs];refine Â eH eH ?_
  have e:(if((iN (d.map cV):Nat):Int)>1 then((iN (d.map cV):Nat):Int)else 1)=((max 1 (iN d):Nat):Int):=by
   rw[aB];split<;>grind
  show _/\Q (cN [_,aW (if((iN (d.map cV):Nat):Int)>1 then((iN (d.map cV):Nat):Int)else 1)]);rw[e];exact#[5,h]
theorem Sj:Ft P w base T.D_81 1 Zd:=by
 let B nd E Q h:=nD T.D_81.F Wa;refine ù E h λfs an c F gs C h=>#[Ϙ,_,(aP (ss 2 nd (el (fr:=[wx,wz 1]) (N':=["_law_answer","_law_rows"]) (eD qq) (λb=>#[(cW (pk 0)),fZ,(cB Cy (aO (el (fr:=[wx,wz 0]) (N':=["_law_row_here","_law_answer"]) (eD (eP 1)) (λb=>#[(cW (pk 0)),(xH (fL sA AF (nO iP rF (eP 0) fS) (eP 1))),(eP 0)])) bT) xO T.b_len HV)])))
 (bQ (dB (nO iP rF qq (nO iP rF (el (fr:=[wx,wz 2]) (N':=["_law_k","_law_counts"]) (lQ qq (λh=>kJ eH T.ś h)) (λb=>#[(cW (pk 0)),(xH (fL sA AF (nO iP rF (eP 1) (eP 0)) (cB Gi (aO (eP 1) bT) (zL eH) T.b_max NB))),(eP 0)])) fS))))),2]
 show jH _ _ _ [.val (dQ fs an),.val (eE (c.map cV)),.un];have a2:=F.a2;have a4:=F.a4;refine bV (eE ((kY an c).map aW)) (λq f=>?_) ?_
 .refine jI (ts:=an.map aG) (λR h=>#[04,h]) (zd c) (by rw[aB];exact ŀ) (λx q i f=>?_) ?_
  .refine Ê (aM.mp i) λa L Z=>?_;subst Z;have e:zd c (aG a)=aW ((iN (((c.map cV).filter (Af a)).map id):Nat):Int):=by rw[PJ];rfl
   rw[e]at f;dsimp only[mF,oR];refine uL (ts:=c.map cV) (λR h=>#[4,h]) (Af a) id (by rw[aB];exact ŀ) (λx q i f=>?_) (λx q i f=>#[0,f]) f;let r B Z:=Ê (aM.mp i);subst Z;exact#[04,f]
  .have e:(an.map aG).map (zd c)=(kY an c).map aW:=by unfold kY;rw[bH,bH];rfl
   rw[e];exact f
 have v:kY an c≠[]:=λz=>by
  have:=d9 iN z;unfold kY at this;rw[aB]at this;simp at this;rw[this]at a2;simp at a2
 let a k g p n:=Ø (HA (show 0<iN an by exact Ŏ) c);have t:=(aD.mp g).1;have s:iN (kY an c)=iN an:=by unfold kY;rw[aB]
 have d:∀(j:Nat) b,an[j]?=wz b->(kY an c)[j]?=wz ((uP c b:Nat):Int):=λj b hb=>by unfold kY;rw[aK,hb];rfl
 have y:∀m:Int,m∈kY an c->(∀x∈kY an c,x<=m)->m=((uP c a:Nat):Int):=λm u i=>by
  have H:=i _ (aU (d k a g));let b hb Z:=Ê (aM.mp u);subst Z;let j o:=Ë (cP hb);have J:=p j b o;lia
 refine#[42];dsimp only[XV];refine uL (ts:=eL (iN an)) (λR h=>#[0,((iN ((kY an c).map aW):Nat):Int),1,by rw[aB];simp,by rw[aB];lia,2]) (Ek (kY an c) ((uP c a:Nat):Int)) id (by rw[jD];exact ŀ) (λx q i f=>?_) (λx q i f=>#[0,f]) ?_
 .rw[kB,aB,s];exact h
 .refine Ë (cP i) λj o=>Ì (iA o) λl Z=>?_;subst Z;have hb:=d j an[j] (aC l);refine Â eH eH #[_,L2.dU (by rw[aK,hb];rfl),4,v,λm u i=>?_];rw[y m u i]
  have e:Ek (kY an c) ((uP c a:Nat):Int) (aW (j:Nat))=decide (((uP c an[j]:Nat):Int)=((uP c a:Nat):Int)):=by
   show decide ((kY an c).getD (Ă ((j:Nat):Int)) _=_)=_;rw[kB,cU,hb];rfl
  rw[e]at f;exact f
 .rw[rC];refine#[_,L2.dU (SJ t ?_ λj o=>?_),_,L2.dU (by rw[aK,g];rfl),h a #[ϙ,k,g,p,n]]
  .refine c6 ?_;rw[kB,cU,d k a g];rfl
  .refine c7 λz=>?_;have l:j<iN an:=by exact sV ‹_› ‹_›
   rw[kB,cU,d j _ (aC l)]at z;have:=n j _ o (aC l);have N:((uP c an[j]:Nat):Int)=((uP c a:Nat):Int):=z;lia
theorem Sk:Ft P w base T.D_84 3 Zg:=by
 let E nd ds Q h:=nD T.D_84.F We;refine ò ds h λfs an a m F s B hm h=>#[Ϙ,_,(aP qq
 (aP (sf (eD (cd (Si T) E qq)) (cW (pn 4 nd))
 (bQ (sf (eD qq) (cW (pn 5 nd))
 (aP (Q3 (g:=λ_ _ _ _=>True) (cd (Jj T) E qq) (lM (mI eH (dI (pn 6 nd) (dI (pn 7 nd) kC)))) (λhe hg=>pB he hg))
 (bQ (fN (fL OM vH (cB Ke qq (K1 eH) T.b_min Kb) qq)
 (aP (ss 8 nd (cd (Dl T) E qq))
 (aP (ss 9 nd (cd (Dl T) E qq))
 (aP qq
 (bQ (fN (DR (JM (fL AE GK qq qV) (FO qq)))
 qq
 eK)))))
 eK))))))
 (aP (ss 11 nd (cd (Dl T) E qq))
 (aP (fN (DR (JM (fL AE GK qq qV) (FO qq)))
 qq
 eK)
 qq)))),2]
 show jH _ _ _ [.val (dQ fs an),.val (eE (a.map cV)),.val (aW m),.un,.un,.un,.un,.un,.un,.un,.un,.un];have N:=λc=>aMo (fs:=fs) B c;have X:=λc=>aMn (fs:=fs) B c;refine bV ES (λq C=>C) ?_
 refine jM (ts:=(qs fs).map qD) (λR h=>#[0,fs,an,1,F,0,by rw[<- E3] ;exact h])
  (λi σ=>∃s4 l n o p r f:Sl,σ=[.val (dQ fs an),.val (eE (a.map cV)),.val (aW m),.val (IM fs a ((((qs fs).take i).flatMap tZ).foldl (EX fs a m) wx)),s4,l,n,o,p,r,f,.un]) #[3330] (λk x v7 hx v=>?_) λv7 v=>?_
 .refine ð v λs4 l n o p r ψ=>Ù v7 ψ λf=>?_;rw[aK]at hx;let w H Z:=Ê (cM.mp hx);subst Z;have hw:=aU H;have uc:=F9 hw
  refine(ze (ts:=[aG "yes",aG "no"]) (λR h=>#[50,h])
   (λj σ=>∃l n o p r f:Sl,σ=[.val (dQ fs an),.val (eE (a.map cV)),.val (aW m),.val (IM fs a ((((qs fs).take k).flatMap tZ++(tZ w).take j).foldl (EX fs a m) wx)),.val (qD w),l,n,o,p,r,f,.un]) #[l,n,o,p,r,f,by rw[LJ,cG];rfl] (λj y ki hy v=>?_) λki v=>?_)
  .refine Ç v λl n ψ=>ú ki ψ λo p r f=>?_;have hj:j<2:=(aD.mp hy).1
   obtain⟨st,oy,rfl,rn⟩:∃st:â,(st="yes"\/st="no")/\y=aG st/\(tZ w)[j]?=wz (w,st):=by
    rcases(show j=0\/j=1 by lia)with rfl | rfl
    .cases hy;exact#[_,j3 eH,7]
    .cases hy;exact#[_,i7 eH,7]
   have W:∀b,(((qs fs).take k).flatMap tZ++(tZ w).take j).foldl (EX fs a m) wx=wz b->Ħ fs a m b=true:=QZ _ wx λb z=>by cases z
   have et:(((qs fs).take k).flatMap tZ++(tZ w).take (j+1)).foldl (EX fs a m) wx=EX fs a m ((((qs fs).take k).flatMap tZ++(tZ w).take j).foldl (EX fs a m) wx) (w,st):=by
    rw[cE,rn,<- dM,EC];rfl
   generalize (((qs fs).take k).flatMap tZ++(tZ w).take j).foldl (EX fs a m) wx=S at *
   refine(show jH (Z9 _ _ _) _ _ _ from Ä eH eH eH eH #[fs,an,w.1,w.2.1,w.2.2,st,a,1,F,uc,oy,s,B,312]);dsimp only;have u:iN (yR fs (w,st) a)<=60:=aR (aS _ _) B;have t:iN (nR fs (w,st) a)<=60:=aR (aS _ _) B;refine qA (λb=>b=Ħ fs a m (w,st)) (λq d=>#[042]) (λhb=>?_) λhF=>?_
   .refine d _ ?_;show decide (m<=(if(iN (LK cV (nR fs (w,st) a)):Int)<(iN (LK cV (yR fs (w,st) a)):Int)then(iN (LK cV (nR fs (w,st) a)):Int)else(iN (LK cV (yR fs (w,st) a)):Int)))=_;rw[aB,aB];unfold Ħ;rw[eR,dE,j1,j1,j1];split<;>omega
   .have gs:=hb.symm;let py pn:=Ì (E9 hm gs);have y3:=xC u;have n3:=xC t;refine bV (cN [aW ((GB (yR fs (w,st) a) (yR fs (w,st) a):Nat):Int),aW ((iN (yR fs (w,st) a):Nat):Int)]) (λq d=>Â eH eH #[Ϣ,fs,an,0,F,s.ı _,u,by rw[show(yR fs (w,st) a).length=max 1 (iN (yR fs (w,st) a)) by lia]at d;exact d]) ?_;refine bV (cN [aW ((GB (nR fs (w,st) a) (nR fs (w,st) a):Nat):Int),aW ((iN (nR fs (w,st) a):Nat):Int)]) (λq d=>Â eH eH #[Ϣ,fs,an,0,F,s.ı _,t,by rw[show(nR fs (w,st) a).length=max 1 (iN (nR fs (w,st) a)) by lia]at d;exact d]) ?_;refine bV (cN [aW ((gC fs a (w,st):Nat):Int),aW ((gJ fs a (w,st):Nat):Int)]) (λq d=>?_) ?_
    .unfold gC gJ at d;rw[kG,eS,eS,eS]at d;exact#[44,IZ ŀ,44,IZ ŀ,44,IZ ŀ,5,d]
    .have next:∀J:Option Ch,J=EX fs a m S (w,st)->(∃l n o p r f:Sl,[Sl.val (dQ fs an),.val (eE (a.map cV)),.val (aW m),.val (IM fs a J),.val (qD w),.val (aG st),.val (eE ((yR fs (w,st) a).map cV)),.val (eE ((nR fs (w,st) a).map cV)),.val (cN [aW ((GB (yR fs (w,st) a) (yR fs (w,st) a):Nat):Int),aW ((iN (yR fs (w,st) a):Nat):Int)]),.val (cN [aW ((GB (nR fs (w,st) a) (nR fs (w,st) a):Nat):Int),aW ((iN (nR fs (w,st) a):Nat):Int)]),.val (cN [aW ((gC fs a (w,st):Nat):Int),aW ((gJ fs a (w,st):Nat):Int)]),.un]=[.val (dQ fs an),.val (eE (a.map cV)),.val (aW m),.val (IM fs a ((((qs fs).take k).flatMap tZ++(tZ w).take (j+1)).foldl (EX fs a m) wx)),.val (qD w),l,n,o,p,r,f,.un]):=λJ e=>by rw[et,<- e];exact#[3331]
     cases S with
     |none=>
      refine Kw (λq d=>#[02]) ?_
      .exact d _ eH
      .exact mK (IM fs a (wz (w,st))) (λq C=>Ã eH eH eH #[5,C]) (next (wz (w,st)) (b8 gs).symm)
     |some b=>
      have e2:=aLv hm (W b eH) gs;have wh:=N b;have wk:=X b;have U:=N (w,st);have qx:=X (w,st);refine qA (λz=>z=pN (dC fs a (w,st)) (dC fs a b)) (λq d=>#[02]) (λz=>?_) λz=>?_
      .show(if wv=ww then q ww else _);rw[a9 cS];refine#[044,IZ ŀ,044,IZ ŀ,d _ ?_];rw[e2,<- eS,<- eS,i0];exact aX9
      .exact mK (IM fs a (wz (w,st))) (λq C=>Ã eH eH eH #[5,C]) (next (wz (w,st)) ((b8 gs).trans (d9 wz (b8 z.symm))).symm)
      .try unfold nA
       dsimp only;exact next (wz b) ((b8 gs).trans (d9 wz (a9 (by rw[<- z];decide)))).symm
   .try unfold nA
    dsimp only;rw[et,show EX fs a m S (w,st)=S from a9 (by rw[<- hF];decide)];exact#[3331]
  .refine Ç v λl n ψ=>ú ki ψ λo p r f=>#[.val (qD w),l,n,o,p,r,f,2];rw[cE,H];show[_,_,_,Sl.val (IM fs a ((((qs fs).take k).flatMap tZ++(tZ w).take 2).foldl (EX fs a m) wx)),_,_,_,_,_,_,_,_]=_;rw[YJ];exact eH
 .refine ð v λs4 l n o p r ψ=>Ù v7 ψ λf=>?_;rw[aB,cK];have W:∀b,(I0 fs).foldl (EX fs a m) wx=wz b->Ħ fs a m b=true:=QZ _ wx λb z=>by cases z
  have eb:qM fs a m=((I0 fs).foldl (EX fs a m) wx).filter λc=>pN (dC fs a c) (D4 a):=by rw[aPx];rfl
  change jH _ _ _ [_,_,_,.val (IM fs a ((I0 fs).foldl (EX fs a m) wx)),_,_,_,_,_,_,_,_]
  rw[eb]at h
  generalize (I0 fs).foldl (EX fs a m) wx=S at *
  have p6:=xC B;refine bV (cN [aW ((GB a a:Nat):Int),aW ((max 1 (iN a):Nat):Int)]) (λq d=>Â eH eH #[Ϣ,fs,an,0,F,s,B,d]) ?_
  cases S with
  |none=>
   refine pX (λq d=>#[0,d _ eH]) ?_;exact h
  |some c=>
   let hR e3:=Ì (aLw hm (W c eH));have U:=N c;have qx:=X c;refine gF (λb=>b=!pN (dC fs a c) (D4 a)) (λq d=>#[02]) (λz=>?_) λz=>?_
   .show(if wv=ww then q ww else _);rw[a9 cS];refine#[044,IZ ŀ,044,IZ ŀ,d _ ?_];rw[e3,<- eS,<- eS,show max 1 (iN a)=iN a by lia,<- decide_not,i0,NR];exact Int.ofNat_le
   .have L:pN (dC fs a c) (D4 a)=false:=by cases q:pN (dC fs a c) (D4 a)with | true=>rw[q]at z;cases z | false=>rfl
    rw[V8,L]at h;exact h
   .have L:pN (dC fs a c) (D4 a)=true:=by cases q:pN (dC fs a c) (D4 a)with | false=>rw[q]at z;cases z | true=>rfl
    rw[V8,L]at h
    try unfold nA
    dsimp only;exact#[0,h]
theorem aFy(o:Nat)
  (j:Ft P w base T.D_85 (4+o) (wT o)):Fj P w base T.D_85 (4+o+1) (lG K (wT (o+1))):=by
 let l nd R Q h:=nD T.D_85.F Wf;refine Ë h λfs χ=>ò R χ λan i d m F f k hd ψ=>Ì ψ λs h=>#[Ϙ,_,(aP qq
 (aP (fN qq
 (bQ (ss 4 nd (cd (hk:=by lia) (Sk T) l qq)))
 eK)
 (aP (fN (fL AE GK qq qV)
 (bQ (dB (iU (aO dX (aO (cd (hk:=by lia) (Sj T) l qq) bT)))))
 eK)
 (aP (Q3 (g:=λ_ _ _ _=>True) (cd (hk:=by lia) (Jj T) l qq) (lM (mI eH (dI (pn 5 nd) (dI (pn 6 nd) kC)))) (λC E=>pB C E))
 (aP (ss 7 nd (cd (hk:=by lia) j l qq))
 (bQ (dB (iU (aO dX (aO qq (aO qq (aO qq (aO (cd (hk:=by lia) j l qq) bT))))))))))))),2]
 show jH _ _ _ [.val (dQ fs an),.val (eE (i.map cV)),.val (aW d),.val (aW m),.un,.un,.un,.un];refine bV ES (λq b=>b) ?_
 cases d with
 |zero=>
  refine oZ (λq b=>#[0,b _ eH]) ?_;refine pX (λq b=>#[0,b _ eH]) ?_;exact Â eH eH #[Ϣ,fs,an,i,1,F,f,k,λa r=>#[5,h (.jv a) #[Ϙ,a,r,1]]]
 |succ e=>
  refine pX (λq b=>#[0,b _ (c6 cT)]) ?_;refine mK (IM fs i (qM fs i m)) (λq b=>Ã eH eH eH #[Ϥ,fs,an,i,m,1,F,f,k,s,b]) ?_
  cases p:qM fs i m with
  |none=>
   dsimp only;refine pX (λq b=>#[0,b _ eH]) ?_;refine Â eH eH #[Ϣ,fs,an,i,1,F,f,k,λa r=>#[5,h (.jv a) ?_]];unfold Gr;rw[p];exact#[Ϙ,a,r,1]
  |some c=>
   have B:=(cD.mp (DI p)).1;let b J:=Ì (M5 B);have u:=F9 b;have z:((e+1:Nat):Int)-1=((e:Nat):Int):=by lia
   dsimp only;refine oZ (λq b=>#[0,b _ eH]) ?_;refine(show jH (Z9 _ _ _) _ _ _ from#[444,fs,an,c.1.1,c.1.2.1,c.1.2.2,c.2,i,1,F,u,J,f,k,312]);dsimp only;refine iX (λv=>∃y,Gr fs an m e (yR fs c i) y/\v=gS y) (λq x=>#[44,fs,an,_,e,m,by rw[<- z]<;>rfl,F,f.ı _,aR (aS _ _) k,6,s,λt L=>x _ #[Ϙ,t,L,1]]) ?_;rintro _ ⟨y,N,rfl⟩;refine#[04444,fs,an,_,e,m,by rw[<- z]<;>rfl,F,f.ı _,aR (aS _ _) k,6,s,λn H=>#[5,h (.jt c.1.1 c.1.2.1 c.1.2.2 c.2 y n) ?_]];unfold Gr;rw[p];exact#[ϛ,y,n,N,H,1]
def Jk:Ft P w base T.D_85 11 Zh:=by
 have h:∀a:Nat,Ft P w base T.D_85 (4+a) (wT a):=λa=>by
  induction a with
  |zero=>exact vL pE λc Q h=>aBy h
  |succ a b=>exact aFy T a b
 exact h 7
def Fd:Fm P w K mg base rH 18 ŧ.f ["self","form","deep","least"] (ML G A K Fv):=by
 exact Nb T.D_0.F Os eH T.kq T.kt T.ju λa c ag s H E b=>(pA (vG (pv 0) (pv 1) eH) (E4 (vG (pv 0) (L9 T.K_Book (Oh T) (b.ko cS) eH T.x_Book T.D_5.d tj jN (gT (pv 1) (gT (pv 2) (gT (pv 3) mJ)))) eH)))
def He:Ft P w base T.D_41 1 Xt:=by
 let c nd b Q h:=nD T.D_41.F Vv;refine ð h λk n v s y m z=>Þ b z λa h=>#[Ϙ,_,(bQ (dB (BW qq qq qq))),2];refine#[02];show(if decide (a="yes")=ww then _ else _);by_cases e:a="yes"
 .rw[b8 (c6 e)];rw[b8 e]at h;exact#[4,h]
 .rw[a9 (Á e)];rw[a9 e]at h;exact#[4,h]
theorem Hf:Fj P w base T.D_43 4 (jO K Xv):=by
 let j nd N Q h:=rB T.D_43.F Vx;refine ò N h λfs an t b F E f hd h=>#[Ϙ,_,(aP (so 3 nd bT)
 (aP qq
 (aP (A3 (rV (tv (cd (zJ T) j qq)))
 (aP (ss 5 nd (cd (Ha T) j qq))
 (aP (nK (i:=3) (pv 3) qq (pb:=λh=>eO (eQ bW cJ cI gW (pv 3) h)))
 (bQ (ss 4 nd (cd (He T) j qq))))) (λf hb=>A9 m8 f hb))
 (bQ (uD (pv 3)))))),2]
 refine lL [] cS (λq c=>c) ?_;refine bV (gS t) (λq c=>#[0,c]) ?_;let n L u:=yE (λn J=>∃(p:Tr)(done:List D)(l:Sl),J=[.val (dQ fs an),.val (gS t),.val (cN b),.own done,.val (gS p),l]/\n=p.jq/\jX fs an p/\done++mT fs p b=mT fs t b/\iN done+p.jq<=40) t.jq #[Ϣ,t,[],01,E,1,by show 0+t.jq<=40;lia];refine Ô u λp done l ψ=>î L ψ λχ=>ï n χ λB d x=>#[Ϙ,!VE p,λq c=>#[0,p,1,c],2]
 cases p with
 |jv a=>
  show(if wv=ww then _ else _);rw[a9 cS];have e:mT fs (.jv a) b=[]:=rfl;rw[e,cG]at d;subst d;exact#[Ϙ,0,h]
 |jt k n v s y m=>
  show(if ww=ww then _ else _);rw[b8 rfl];let c C H z:=Ü B;have o:(Tr.jt k n v s y m).jq=max y.jq m.jq+1:=rfl;rw[o]at x |-
  refine bV (aG (eN fs k n v s b)) (λq g=>#[444,fs,an,k,n,v,s,b,1,F,c,C,f,g]) ?_;refine aGi (cN [cN [aG k,aG n,aG v],aG (eN fs k n v s b)]) eH cT (λq c=>#[04,aA eH,c]) ?_;refine mK (gS (if eN fs k n v s b="yes" then y else m)) (λq c=>Â eH eH #[k,n,v,s,y,m,0,c]) ?_
  have r:done++[cN [cN [aG k,aG n,aG v],aG (eN fs k n v s b)]]++(if eN fs k n v s b="yes" then mT fs y b else mT fs m b)=mT fs t b:=by
   rw[<- d,dM];rfl
  refine#[(if eN fs k n v s b="yes" then y else m).jq,2,if eN fs k n v s b="yes" then y else m,37222]
  .split<;>omega
  .split
   .exact H
   .exact z
  .rw[<- r];congr 1;split<;>rfl
  .rw[aV,qO];split<;>omega
theorem Tf:Ft P w base T.D_44 5 Xw:=by
 let f nd i Q h:=nD T.D_44.F Vy;refine ò i h λfs an t c F g d hd h=>#[Ϙ,_,(bQ (dB (cY rG (aO (el (fr:=[wx,wx]) (N':=["question","side"]) (eD (wC (cF (Hf T) f qq))) (λb=>#[(lM (mI eH (dI (pk 0) (dI (pk 1) kC)))),fZ,(eP 1)])) bT) jJ T.ň oH))),2];show mF (f1 xI) _ _ Q;dsimp only[mF,oR,xR];have j:=AX (fs:=fs) t c;refine BI (λR h=>Ã eH eH eH #[fs,an,t,c,1,F,g,d,hd,0,h]) WJ cT (CO t c) (λa b q k e=>#[0,e]) ?_;rw[CN];exact h
def Tg:Ft P w base T.D_46 2 Xy:=by
 let r nd L Q h:=nD T.D_46.F Ur;refine Ô h λt p i ψ=>ï L ψ λB hd h=>#[Ϙ,_,(aP qq
 (aP (sf (eD qq) (cW (pn 3 nd))
 (aP (fN (DR (JM (tv (cd (zJ T) r qq)) (FO (fL (BC r) jS qq (BX eH T.c_SIDES T.t_SIDES)))))
 (bQ mZ)
 eK)
 (bQ (ss 2 nd (cd (He T) r qq)))))
 qq)),2]
 refine bV (gS t) (λq j=>#[0,j]) ?_
 refine jM (λR h=>#[4,h])
  (λk J=>∃(x:Tr)(s3:Sl),J=[.val (gS t),.val (cN (i.map aG)),.val (gS x),s3]/\vZ x (i.drop k)=wz p) #[Ϛ,t,0,B] (λk d z C l=>?_) λz l=>?_
 .refine õ z l λx s3 c=>?_;rw[aK]at C;let f g:=É d (cM.mp C)
  have H:i.drop k=f::i.drop (k+1):=by
   rw[NT ((aD.mp g).1)];congr 1;exact(aD.mp g).2
  rw[H]at c;have u:=(MB B) f (aU g)
  cases x with
  |jv a=>cases c
  |jt E n v s y m=>
   have b:(if f="yes" then vZ y (i.drop (k+1))else if f="no" then vZ m (i.drop (k+1))else wx)=wz p:=c;refine oZ (λq j=>#[0,.jt E n v s y m,12]) ?_
   .show(if wv=ww then _ else _);rw[a9 cS]
    have o:sT f=true:=by
     rcases u with rfl | rfl
     .exact GO
     .exact OV
    refine#[0,MD (λy hy=>?_) ((kQ o (m:=0) (aL _)).cd cS),j _ ?_]
    .rcases aN.mp hy with rfl | hy
     .exact GO
     .rw[bC.mp hy];exact OV
    .have e:IV (aG f) (cN ((["yes","no"]:List â).map aG))=zK ["yes","no"] (aG f):=B6 _ _;show(!IV (aG f) (cN ((["yes","no"]:List â).map aG)))=wv;rw[e]
     have:zK ["yes","no"] (aG f)=true:=by
      refine c6 ?_;rcases u with rfl | rfl<;>simp
     rw[this];rfl
   refine mK (gS (if f="yes" then y else m)) (λq j=>Â eH eH #[E,n,v,s,y,m,f,1,j]) #[Ϛ,if f="yes" then y else m,02];rcases u with rfl | rfl
   .rw[b8 rfl]at b |-
    exact b
   .rw[a9 RT,b8 rfl]at b;rw[a9 RT];exact b
 .refine õ z l λx s3 c=>?_;rw[aB,List.drop_length]at c;have:x=p:=by cases x<;>exact d7 c
  subst this;exact#[0,h]
def Hg:Ft P w base T.D_45 6 Xx:=by
 let c nd e Q h:=nD T.D_45.F Vz;refine ò e h λfs an t a F d b hd h=>#[Ϙ,_,(bQ (dB (nO iP rF (cd (Tg T) c (aO qq (aO (cd (Tf T) c qq) bT))) fS))),2];exact Ä eH eH eH eH #[fs,an,t,a,1,F,d,b,hd,t,.jv (lU fs t a),vD fs t a,1,AD F b t d,hd,0,h]
theorem aFz(d:Nat)
  (c:Ft P w base T.D_61 (1+d) (wU d)):Fj P w base T.D_61 (1+d+1) (lG K (wU (d+1))):=by
 let i nd x Q h:=nD T.D_61.F Vg;obtain⟨fs,an,t,rfl,F,o,hk,hd,h⟩:=h;refine#[Ϙ,_,(aP (fN (tv (cd (hk:=by simp) (zJ T) i qq))
 (bQ (dB (aDn dX qq (λh f=>eQ bF bO bN aB9 h f))))
 eK)
 (aP qq
 (aP (ss 2 nd (HE (aO dX (aO qq (aO qq (aO qq (aO qq (aO (cd (hk:=by simp) c i qq) (aO (cd (hk:=by simp) c i qq) bT)))))))))
 (bQ (dB (gE dX qq (λh f=>eQ bF bO bN gD h f))))))),2]
 cases t with
 |jv a=>
  refine pX (λq b=>#[0,.jv a,1,b _ eH]) ?_;have l:=RU (nV F (.jv a) o);refine#[eF,10,gI (.jv a),12,h];have e:v0 eF=1:=cR
  rw[e];have:iN (gI (.jv a))=2:=rfl;lia
 |jt k n v s y m=>
  have p:(Tr.jt k n v s y m).jq=max y.jq m.jq+1:=rfl;have r:(Tr.jt k n v s y m).kn=y.kn+m.kn+1:=rfl;rw[p]at hd;rw[r]at hk;refine Ü o λb u j g=>oZ (λq b=>#[0,.jt k n v s y m,1,b _ eH]) ?_;refine bV (cN [aG k,aG n,aG v]) (λq b=>#[4,b]) ?_;refine bV (eE ((["ask",n,k,v,s,pW y,pW m]:List â).map aG)) (λq b=>#[44444,fs,an,y,1,F,j,6,Ŋ,4,fs,an,m,1,F,g,6,Ŋ,aA eH,b]) ?_;have B:=CT F j;have C:=CT F g;have l:=RU λw hw=>nV F (.jt k n v s y m) #[b,u,j,g] w (bK.mpr (j3 (aE _ hw)));refine#[eF,1422]
  .have e:v0 eF=1:=cR
   have z:v0 ("ask":â)=3:=cR
   rw[e];simp only[aX,iD,eI,List.sum_nil,bE,yB]at l |-
   lia
  .rw[WL];exact h
def Sc:Ft P w base T.D_61 32 Zv:=by
 have h:∀a:Nat,Ft P w base T.D_61 (1+a) (wU a):=λa=>by
  induction a with
  |zero=>exact vL pE λc Q h=>aBz h
  |succ a b=>exact aFz T a b
 exact h 31
def Je:Ft P w base T.D_66 1 Iv:=by
 let c nd b Q h:=nD T.D_66.F Vl;refine Í b h λx a h=>#[Ϙ,_,(bQ (dB (BW (fL AE GK qq qV) (MY eH T.c_LACKING) qq))),2];rcases a with rfl | ⟨z,d,rfl⟩
 .exact#[0,h]
 .exact#[4,h]
theorem Di:Ft P w base T.D_65 1 aQ1:=by
 let g nd d Q h:=nD T.D_65.F Vk;refine Í d h λi f h=>#[Ϙ,_,(bQ (dB (cY rG (aO (el (fr:=[wx]) (N':=["word"]) (eD qq) (λb=>#[(cW (pk 0)),fZ,(BW (fL sA AF (eP 0) (MY eH T.c_LACKING)) qV (eP 0))])) bT) jJ T.ň oH))),2];show mF (f1 xI) _ _ Q;dsimp only[mF,oR,xR];refine jI (λR h=>#[4,h]) Ni (by rw[aB];exact ŀ) (λx q c a=>?_) ?_
 .refine Ê (aM.mp c) λw hw y=>?_;subst y;refine#[02];show(if decide (w="-")=ww then _ else _);have a:q (FN w):=a;unfold FN at a;by_cases e:w="-"
  .rw[b8 e]at a;rw[b8 (c6 e)];exact a
  .rw[a9 e]at a;rw[a9 λz=>e (c8 z)];exact#[0,a]
 .rw[bH];exact h
theorem Jd:Ft P w base T.D_63 1 Zx:=by
 let p nd o Q h:=nD T.D_63.F Vi;refine Í o h λw g h=>#[Ϙ,_,(aP (fN (DR (JM (rV (N3 GG GG vH vH fS qq (FE eH T.c_MOST_FIGURES))) (FO (rV (tv (cB Gh (aO (el (fr:=[wx]) (N':=["sign"]) (eD qq) (λb=>#[(cW (pk 0)),fZ,(pG rZ RP (eP 0) (MY eH T.c_FIGURES))])) bT) (B2 eH) T.b_all Jq))))))
 qq
 eK)
 (bQ (dB (Qq qq (xL (aIb (Rp qq qq (λh m=>eQ bF PySem.F.slot_str_startswith PySem.F.type_str_startswith W6 h m)))))))),2]
 unfold G6 at h;refine gF (λb=>b=!(decide (1<=v0 w)&&decide (v0 w<=9)&&(Al w).all id)) (λq a=>?_) (λl=>?_) λk=>?_
 .refine#[0,g,2];have i:decide ((1:Int)<=(v0 w:Nat))=decide (1<=v0 w):=by rw[i0];lia
  have j:decide (((v0 w:Nat):Int)<=9)=decide (v0 w<=9):=by rw[i0];lia
  show(if decide ((1:Int)<=(v0 w:Nat))=ww then _ else _);rw[i]
  cases d:decide (1<=v0 w)with
  |false=>exact a _ (by rw[d];rfl)
  |true=>
   rw[b8 rfl];show(if(!decide (((v0 w:Nat):Int)<=9))=ww then q ww else _);rw[j]
   cases f:decide (v0 w<=9)with
   |false=>exact a _ (by rw[d,f];rfl)
   |true=>
    rw[a9 cS];dsimp only[Bj,K5,mF,oR,xR];refine jI (λR h=>#[4,h]) Qy (by unfold JV;rw[aB];exact g) (λx q n a=>?_) #[Ϙ,Al w,by unfold Al JV;rw[bH,bH];rfl,a _ (by rw[d,f];rfl)];let c z y:=Ê (aM.mp n);subst y;exact#[0,a]
 .have:=l.symm;rw[Bool.not_eq_true']at this;rw[this]at h;exact h
 .have:=k.symm;rw[Bool.not_eq_false']at this;rw[this,CG]at h;refine#[02];show(if decide (w="0")=ww then Q (QM ww)else _);by_cases e:w="0"
  .rw[c6 e]at h |-;exact h
  .rw[c7 e]at h |-
   exact#[4,h]
theorem Jc:Ft P w base T.D_62 2 Zw:=by
 let i nd j Q h:=nD T.D_62.F Vh;refine õ j h λw r z=>Ì z λg h=>#[Ϙ,_,(aP (fN (fL rZ RP qq (BX eH T.ľ T.Ń))
 qq
 eK)
 (aP (fN qq
 (bQ (dB (C9 qq (xL (cd (Jd T) i qq)))))
 eK)
 (aP (fN qq
 (bQ (dB (C9 qq (xL (cd (Jd T) i qq)))))
 eK)
 (bQ (dB (pG rZ RP qq qq)))))),2]
 have f:y0 ((w::r).map aG) 0=wz (aG w):=L2.dU eH;unfold qU at h;rw[oW,aLl]at h;refine gF (λb=>b=decide (w∈(["tree","rows","rules","steps"]:List â))) (λq d=>#[8,f,0,d _ eH]) (λc=>?_) λa=>?_
 .rw[b8 (c8 c.symm)]at h;have e:decide (((iN ((w::r).map aG):Nat):Int)=1)=decide (iN (w::r)=1):=by rw[i0,aB];lia
  rw[<- e]at h;exact#[0,h]
 rw[a9 (e7 a.symm)]at h
 try unfold nA
 dsimp only;refine gF (λb=>b=decide (w="out")) (λq d=>#[8,f,d _ eH]) (λc=>?_) λa=>?_
 .rw[b8 (c8 c.symm)]at h;refine#[02];rcases r with _ | ⟨x,_ | ⟨y,r⟩⟩
  .exact h
  .exact#[4,x,1,g x (aJ ..),h]
  .exact h
 rw[a9 (e7 a.symm)]at h;dsimp only;refine gF (λb=>b=decide (w="turn")) (λq d=>#[8,f,d _ eH]) (λc=>?_) λa=>?_
 .rw[b8 (c8 c.symm)]at h;refine#[02];rcases r with _ | ⟨x,r⟩
  .exact h
  .show(if decide (2<=((iN ((w::x::r).map aG):Nat):Int))=ww then _ else Q (QM wv));rw[b8 (by rw[aB];simp;lia)];rw[c6 (show 2<=iN (w::x::r) by simp),CG]at h;exact#[8,L2.dU eH,x,1,g x (aJ ..),h]
 rw[a9 (e7 a.symm)]at h;exact#[8,f,5,["put","judge","why"],1,h]
theorem US:Ft P w base T.D_64 2 Zy:=by
 let b nd c Q h:=nD T.D_64.F Vj;refine Í c h λa f h=>#[Ϙ,_,(bQ (dB (fF dD iY (iU (aO (cd (Di T) b qq) bT)) (cY rG qq jJ T.ň oH)))),2];have d:=VS a wx (wz (-1));have e:=VS a (wz (-1)) wx;refine#[0,iB a wx (wz (-1)),by show[eE (iB _ wx (wz (-1)))]=_;rw[(jP ..)],6502];show SK (cN [cN _]) (cN (iB (a.map aG) (wz (-1)) wx)) Q;rw[(jP ..)];exact#[by rw[aB];show 1+_<=_;lia,h]
theorem Sd:Ft P w base T.D_68 1 Ys:=by
 let i nd b Q h:=nD T.D_68.F Vn;refine ò b h λk n v s c d f g h=>#[Ϙ,_,(bQ (dB (gE dX qq (λh a=>eQ bF bO bN gD h a)))),2];have e:v0 eF=1:=cR
 refine#[eF,104445,[n,k,v,s],12,h];rw[e];show v0 n+(v0 k+(v0 v+(v0 s+0)))+4*1<=_;lia
theorem Jf:Ft P w base T.D_67 2 aQ0:=by
 let H nd N Q h:=nD T.D_67.F Vm;refine ù N h λfs an f F o p ψ=>Ì ψ λS h=>#[Ϙ,_,(aP qq
 (aP (so 1 nd bT)
 (aP (sf (eD qq) (lM (mI eH (dI (pn 2 nd) (dI (pn 3 nd) kC))))
 (bQ (nK (i:=1) (pv 1) (gE dX (aO (fF dD iY (fF dD iY qq (el (fr:=[wx]) (N':=["entry"]) (eD qq) (λb=>#[(cW (pk 0)),fZ,(cd (Je T) H (aO (eP 0) bT))]))) qq) bT) (λh l=>eQ bF bO bN gD h l)) (pb:=λh=>eO (eQ bW cJ cI gW (pv 1) h)))))
 (lP 1 (bQ (dB (gE dX qq (λh l=>eQ bF bO bN gD h l)))))))),2]
 have s:v0 eF=1:=cR
 have t:v0 (", ":â)=2:=cR
 unfold zI at h;refine gF (λb=>b=decide (f=[])) (λq a=>#[0,a _ ?_]) (λB=>?_) λz=>?_
 .rw[i0,GL];rw[<- pJ];simp
 .rw[b8 (c8 B.symm)]at h;exact h
 rw[a9 (e7 z.symm)]at h
 try unfold nA
 dsimp only;have J:=zW F o p;refine lL [] dO (λq a=>a) ?_
 refine jM (ts:=IQ f) (λR h=>#[4,h])
  (λi L=>∃m s3:Sl,L=[.val (eE (IQ f)),.own (((f.take i).map rW).map aG),m,s3]) #[31] (λi x n d k=>?_) λn k=>?_
 .refine û n k λm s3=>?_;unfold IQ at d;rw[aK]at d;obtain⟨e,g,rfl⟩:=cM.mp d;have j:=aU g;have c:=o e.2 (aM.mpr #[Ϙ,e,j,1]);have E:=(F5 F c).2;have u:f.take (i+1)=f.take i++[e]:=by rw[cE,g];rfl
  refine#[Ϛ,312];have y:=(pD e.1 (by have:=p e j;exact Ō));let w U v hw C:=Ø (CV F c);have r:=jR λx d=>(hw x d).2;refine nW (aG (rW e)) eH (by rw[aB,aB,bB];lia) (λq a=>?_) #[3,by rw[u,bA,bA];rfl];refine#[Ϙ,eF,12];refine#[0,y.2,52];refine jI (ts:=e.2.1) (λR h=>#[04,h]) (λx=>aG (pP x)) ŀ (λx q d a=>#[0,x,1,qK F c.1 x d,a]) ?_;refine#[by rw[aB];show 1+_<=_;lia,45,by rw[aV,aB];show 1+_+1<=_;lia,iZ (e.1:Nat)::(e.2.1.map pP++[e.2.2]),by rw[aX,bA,bH];rfl,2,a];rw[v,s,aX,eI,bE];rw[bE]at *;lia
 .refine û n k λm s3=>#[Ϙ,02];rw[GL,cK];have r:=jR J;rw[aB]at r;exact#[4,f.map rW,1,by rw[t,aB];lia,h]
def Hi:Ft P w base T.D_49 3 Ya:=by
 let g nd i Q h:=nD T.D_49.F Uu;refine ò i h λfs an fa d F c b f h=>#[Ϙ,_,(bQ (dB (iU (aO dX (aO (cd (Gw T) g qq) bT))))),2]
 exact#[4,fs,an,d,1,F,b,f,λa e=>by
  rw[e.uniq (c d b)];exact#[5,h]]
def Hj:Ft P w base T.D_50 5 Yb:=by
 let p nd B Q h:=nD T.D_50.F Uv;refine ð h λfs an k n v s χ=>ù B χ λy m e F o t ψ=>í ψ λd g h=>#[Ϙ,_,(bQ (dB (el (fr:=[wx,wz 2]) (N':=["numbers","rows"]) (eD (Ct (cQ (Dc T) p qq))) (λb=>#[(cW (pk 0)),fZ,(cd (Dd T) p (aO (eP 1) (aO (eP 0) bT)))])))),2];let u l f:=MN (λR h=>#[444,fs,an,k,n,v,s,e,1,F,o,t,d,g,0,h]) (λi _ y=>(i=0->y=eE ((e.filter (jV fs k n v s)).map cV))/\(i=1->y=eE ((e.filter λr=>!jV fs k n v s r).map cV))) dO (λi x q j c=>?_)
 .have C:i<2:=(aD.mp j).1;rcases(show i=0\/i=1 by lia)with rfl | rfl
  .cases j;exact Â eH eH #[Ϧ,fs,k,n,v,s,"yes",e,1,g,c _ #[λ_=>rfl,λz=>by cases z]]
  .cases j;refine Â eH eH #[Ϧ,fs,k,n,v,s,"no",e,1,g,2];rw[FB F o t d];exact c _ #[(λz=>by cases z),λ_=>rfl]
 .match u,l,f with
  |[a,b],_,f=>
   rw[((f 0 _ a eH eH).1 eH),((f 1 _ b eH eH).2 eH)];exact h
theorem aF4(d:Nat)
  (c:Ft P w base T.D_42 (1+d) (uE d)):Fj P w base T.D_42 (1+d+1) (lG K (uE (d+1))):=by
 let f nd o Q h:=nD T.D_42.F Vw;refine Ë h λt z=>ï o z λhk hd h=>#[Ϙ,_,(aP (fN (tv (cd (hk:=by simp) (zJ T) f qq))
 qq
 eK)
 (bQ (dB (fF dD iY (fF dD iY fS (cd (hk:=by simp) c f qq)) (cd (hk:=by simp) c f qq))))),2]
 cases t with
 |jv a=>exact gF (λb=>b=ww) (λq e=>#[0,.jv a,1,e _ eH]) (λ_=>h) λl=>by cases l
 |jt k n v s y m=>
  have i:(Tr.jt k n v s y m).jq=max y.jq m.jq+1:=rfl;have g:(Tr.jt k n v s y m).kn=y.kn+m.kn+1:=rfl;rw[i]at hd;rw[g]at hk;refine oZ (λq e=>#[0,.jt k n v s y m,1,e _ eH]) ?_;refine#[4,y,16,Ŋ,4,m,16,Ŋ,2]
  have j:(1:Int)+(y.kn:Int)+(m.kn:Int)=(((Tr.jt k n v s y m).kn:Nat):Int):=by
   rw[g];lia
  show Q (aW (1+(y.kn:Int)+(m.kn:Int)));rw[j];exact h
def Dh:Ft P w base T.D_42 42 Xu:=by
 have h:∀a:Nat,Ft P w base T.D_42 (1+a) (uE a):=λa=>by
  induction a with
  |zero=>exact vL pE λc Q h=>OW h
  |succ a b=>exact aF4 T a b
 exact h 41
theorem UT:Ft P w base T.D_48 43 XP:=by
 let d nd v Q h:=nD T.D_48.F Ut;refine ð h λfs an t n a b z=>ï v z λF m χ=>Û χ λf g e y o ψ=>Ü ψ λp s u h=>#[Ϙ,_,(aP (nI (i:=4) (fr:=[wx,wz 0,wz 1]) (N':=["row","form","tree"]) (eD qq) (λb=>#[(cW (pk 0)),(xH (fL tD BE (cd (Hg T) d (aO (eP 1) (aO (eP 2) (aO (nO iP rF (eP 0) fS) bT)))) (nO iP rF (eP 0) fS))),(eP 0)]) (λl k=>kZ (show pO _ (aQ (top 52)) ["form","tree","rows","prices","slips"] ["row","form","tree"] [wx,wz 0,wz 1]=ww from cR) nd eH À eH l k eH))
 (bQ (dB (fF dD iY qq (fF rK J8 qq (cd (Dh T) d qq)))))),2]
 refine bV (eE ((n.filter λr=>!decide (lU fs t r.1=r.2)).map cV)) (λq c=>?_) ?_
 .refine uL (λR h=>#[4,h]) (λx=>match x with | cN [cN cs,aG w]=>!decide (lU fs t cs=w) | _=>wv) id (by rw[aB];lia) (λx q j c=>?_) (λx q j c=>#[0,c]) ?_
  .refine Ê (aM.mp j) λr d Z=>?_;subst Z;exact#[44,fs,an,t,r.1,1,F,m,(e r d).1,f,4,c]
  .rw[rC,rS];exact c
 refine#[04,j3 #[66],04,t,1,g,6,j3 #[66],2];rw[aB];exact h
def Ti:Ft P w base T.D_51 1 Yc:=by
 let d nd c Q h:=nD T.D_51.F Uw;refine õ c h λa b h=>#[Ϙ,_,(bQ qq),2];exact#[445,h]
theorem aF2(B:Nat)
  (g:Ft P w base T.D_53 (44+B) (wX B)):Fj P w base T.D_53 (44+B+1) (lG K (wX (B+1))):=by
 let j nd X Q h:=nD T.D_53.F Uy;refine Ô h λfs an fa φ=>ò X φ λt c a b F f J hd χ=>Û χ λe C o p u ψ=>Ì ψ λx h=>#[Ϙ,_,(aP (fN (tv (cd (hk:=by lia) (zJ T) j qq))
 (bQ (dB (iU (aO (cd (hk:=by lia) (UT T) j qq) qq))))
 eK)
 (aP (ss 4 nd (cd (hk:=by lia) (Hi T) j qq))
 (aP (ss 5 nd (cd (hk:=by lia) (UT T) j qq))
 (aP (ss 6 nd (cd (hk:=by lia) (Hj T) j qq))
 (aP (ss 7 nd (cd (hk:=by simp) g j qq))
 (aP (ss 8 nd (cd (hk:=by simp) g j qq))
 qq)))))),2]
 show jH _ _ _ [.val (dQ fs an),.val (gS t),.val (eE (c.map cV)),.val (cN [aW a,aW b]),.un,.un,.un,.un,.un,.un]
 have L:∀z:â,a*(gG fs (.jv z) c:Nat)+b*(((Tr.jv z).kn:Nat):Int)=a*(gG fs (.jv z) c:Nat):=λz=>by
  show _+b*0=_;rw[TH,TJ]
 cases t with
 |jv z=>
  refine pX (λq l=>#[0,.jv z,1,l _ eH]) ?_;refine Ä eH eH eH eH #[fs,an,.jv z,c,a,b,1,F,J,bZ _,bZ _,e,C,o,p,u,x,052];rw[L];exact h
 |jt k n v s y m=>
  have N:(Tr.jt k n v s y m).jq=max y.jq m.jq+1:=rfl;rw[N]at hd;let l U W S:=Ü J;have l1:=aS (jV fs k n v s) c;have l2:=aS (λr=>!jV fs k n v s r) c
  have E:jX fs an (.jv (fa c)):=Ê (f c e) λi R _=>aU R
  refine oZ (λq l=>#[0,.jt k n v s y m,1,l _ eH]) ?_;refine bV (gS (.jv (fa c))) (λq d=>Â eH eH #[Ϥ,fs,an,fa,c,1,F,f,e,C,d]) ?_;refine bV (aW (a*(gG fs (.jv (fa c)) c:Nat))) (λq d=>Ä eH eH eH eH #[fs,an,.jv (fa c),c,a,b,1,F,E,bZ _,bZ _,e,C,o,p,u,x,by rw[L];exact d]) ?_;refine bV (eE [eE ((c.filter (jV fs k n v s)).map cV),eE ((c.filter λr=>!jV fs k n v s r).map cV)]) (λq d=>Ã eH eH eH #[fs,an,k,n,v,s,y,m,c,1,F,l,U,e,C,d]) ?_;refine bV (cN [aW (lw fs fa a b y (c.filter (jV fs k n v s))).1,gS (lw fs fa a b y (c.filter (jV fs k n v s))).2]) (λq d=>#[444,fs,an,fa,y,_,a,b,1,F,f,W,ŋ,e.ı _,(aR ‹_› ‹_›),o,p,u,x,d]) ?_;refine bV (cN [aW (lw fs fa a b m (c.filter λr=>!jV fs k n v s r)).1,gS (lw fs fa a b m (c.filter λr=>!jV fs k n v s r)).2]) (λq d=>#[444,fs,an,fa,m,_,a,b,1,F,f,S,ŋ,e.ı _,(aR ‹_› ‹_›),o,p,u,x,d]) ?_;refine bV (aW (b+(lw fs fa a b y (c.filter (jV fs k n v s))).1+(lw fs fa a b m (c.filter λr=>!jV fs k n v s r)).1)) (λq d=>#[444,d]) ?_;have el:lw fs fa a b (.jt k n v s y m) c=if a*(gG fs (.jv (fa c)) c:Nat)<=b+(lw fs fa a b y (c.filter (jV fs k n v s))).1+(lw fs fa a b m (c.filter λr=>!jV fs k n v s r)).1 then(a*(gG fs (.jv (fa c)) c:Nat),.jv (fa c))else(b+(lw fs fa a b y (c.filter (jV fs k n v s))).1+(lw fs fa a b m (c.filter λr=>!jV fs k n v s r)).1,.jt k n v s (lw fs fa a b y (c.filter (jV fs k n v s))).2 (lw fs fa a b m (c.filter λr=>!jV fs k n v s r)).2):=rfl;rw[el]at h;refine gF (λz=>z=decide (a*(gG fs (.jv (fa c)) c:Nat)<=b+(lw fs fa a b y (c.filter (jV fs k n v s))).1+(lw fs fa a b m (c.filter λr=>!jV fs k n v s r)).1)) (λq d=>#[4,d _ eH]) (λH=>?_) λH=>?_
  .rw[b8 (c8 H.symm)]at h;exact Â eH eH #[5,h]
  .rw[a9 (e7 H.symm)]at h
   try unfold nA
   dsimp only;refine#[44452];show SK (cN (iB [aG "ask",cN [aG k,aG n,aG v],aG s,gS y,gS m] wx (wz 3))) _ _;rw[Nl];exact#[55,h]
def Tj:Ft P w base T.D_53 57 Ye:=by
 have h:∀a:Nat,Ft P w base T.D_53 (44+a) (wX a):=λa=>by
  induction a with
  |zero=>exact vL pE λc Q h=>aB2 h
  |succ a b=>exact aF2 T a b
 exact h 13
def Hk:Ft P w base T.D_52 58 Yd:=by
 let e nd n Q h:=nD T.D_52.F Ux;refine Ô h λfs an fa x=>ò n x λt m a b F c l hd y=>Û y λd k f g i z=>Ì z λj h=>#[Ϙ,_,(bQ (dB (nO iP rF (cd (Tj T) e (aO qq (aO qq (aO qq (aO (cd (Ti T) e qq) bT))))) fS))),2];exact Ä eH eH eH eH #[31,fs,an,fa,t,m,a,b,1,F,c,l,hd,d,k,f,g,i,j,0,h]
theorem aF1(x:Nat)
  (j:Ft P w base T.D_56 (44+x) (wW x)):Fj P w base T.D_56 (44+x+1) (lG K (wW (x+1))):=by
 let f nd ds Q h:=nD T.D_56.F Vb;refine Ë h λfs χ=>ò ds χ λan fa t a F d E hd ψ=>Û ψ λl o c p g h=>#[Ϙ,_,(aP (fN (tv (cd (hk:=by lia) (zJ T) f qq))
 (bQ (dB (iU (aO (cd (hk:=by lia) (UT T) f qq) qq))))
 eK)
 (aP (ss 3 nd (cd (hk:=by lia) (Hj T) f qq))
 (aP (ss 4 nd (cd (hk:=by simp) j f qq))
 (aP (ss 5 nd (cd (hk:=by simp) j f qq))
 (aP qq
 (aP (ss 7 nd (fF MC Ai (cd (hk:=by lia) (UT T) f (aO qq (aO (cd (hk:=by lia) (Hi T) f qq) qq))) qq))
 (bQ (dB (iU (aO qq (aO (fF dD iY (fF dD iY (HE (aO (cd (hk:=by lia) (Db T) f (aO qq (aO (cd (hk:=by lia) (Dh T) f qq) bT))) bT)) qq) qq) bT))))))))))),2]
 show jH _ _ _ [.val (dQ fs an),.val (gS t),.val (eE (a.map cV)),.un,.un,.un,.un,.un];have one:∀z:â,(1:Int)*(gG fs (.jv z) a:Nat)+0*(((Tr.jv z).kn:Nat):Int)=(gG fs (.jv z) a:Nat):=λz=>by rw[aYw,Int.zero_mul,TJ]
 cases t with
 |jv z=>
  refine pX (λq u=>#[0,.jv z,1,u _ eH]) ?_;refine Ã eH eH eH #[5,fs,an,.jv z,a,(1),(0),1,F,E,bZ _,bZ _,c,p,9999552];rw[one];exact h
 |jt k n v s y m=>
  have N:(Tr.jt k n v s y m).jq=max y.jq m.jq+1:=rfl;have R:(Tr.jt k n v s y m).kn=y.kn+m.kn+1:=rfl;have H:IE fs fa (.jt k n v s y m) a=((gG fs (.jv (fa a)) a:Int)-(gG fs (.jt k n v s y m) a:Nat),(Tr.jt k n v s y m).kn)::(IE fs fa y (a.filter (jV fs k n v s))++IE fs fa m (a.filter λr=>!jV fs k n v s r)):=rfl;have U:=E;let u hs hy hm:=Ü E;have l1:=aS (jV fs k n v s) a;have l2:=aS (λr=>!jV fs k n v s r) a
  have B:jX fs an (.jv (fa a)):=Ê (d a c) λi X _=>aU X
  rw[H]at g;have wu:=o;have W:=l;rw[N]at hd l;rw[R]at o;refine oZ (λq u=>#[0,.jt k n v s y m,1,u _ eH]) ?_;refine bV (eE [eE ((a.filter (jV fs k n v s)).map cV),eE ((a.filter λr=>!jV fs k n v s r).map cV)]) (λq b=>Ã eH eH eH #[fs,an,k,n,v,s,y,m,a,1,F,u,hs,c,p,b]) ?_;refine bV (cN [aW (gG fs y (a.filter (jV fs k n v s)):Nat),eE ((IE fs fa y (a.filter (jV fs k n v s))).map λe=>MX (pY e))]) (λq b=>#[044,fs,an,fa,y,0,F,d,hy,Ŋ,66,c.ı _,(aR ‹_› ‹_›),λe C=>g e (aE _ (gH _ C)),b]) ?_;refine bV (cN [aW (gG fs m (a.filter λr=>!jV fs k n v s r):Nat),eE ((IE fs fa m (a.filter λr=>!jV fs k n v s r)).map λe=>MX (pY e))]) (λq b=>#[044,fs,an,fa,m,0,F,d,hm,Ŋ,66,c.ı _,(aR ‹_› ‹_›),λe C=>g e (aE _ (cX _ C)),b]) ?_;refine bV (aW (gG fs (.jt k n v s y m) a:Nat)) (λq b=>#[44,by rw[FY]at b;exact b]) ?_;refine bV (aW ((gG fs (.jv (fa a)) a:Int)-(gG fs (.jt k n v s y m) a:Nat))) (λq b=>Ã eH eH eH #[fs,an,fa,a,1,F,d,c,p,05,fs,an,.jv (fa a),a,(1),(0),1,F,B,bZ _,bZ _,c,p,99990,by rw[one];exact b]) ?_;have J:=g _ (aJ ..);dsimp only at J;have xh:gG fs (.jv (fa a)) a<=60:=aR (aS _ _) p;have big:(1000000000000:Nat)<2^190:=cR
  have S:[aW ((gG fs (.jv (fa a)) a:Int)-(gG fs (.jt k n v s y m) a:Nat)),aW ((Tr.jt k n v s y m).kn:Nat)]=[aW (Ă ((gG fs (.jv (fa a)) a:Int)-(gG fs (.jt k n v s y m) a:Nat)):Nat),aW ((Tr.jt k n v s y m).kn:Nat)]:=by rw[CF J]
  have L:=FS (fs:=fs) (fa:=fa) y (a.filter (jV fs k n v s));have s2:=FS (fs:=fs) (fa:=fa) m (a.filter λr=>!jV fs k n v s r);refine Ã eH eH eH #[.jt k n v s y m,1,ŀ,Ō,3,S,(TC _),66542];refine#[by rw[aB,L];show 1+_<=_;lia,4,by rw[aV,aB,aB,L,s2];show 1+_+_<=_;grind,52];rw[H,aX,bA]at h;exact h
def Ry:Ft P w base T.D_56 57 Yh:=by
 have h:∀a:Nat,Ft P w base T.D_56 (44+a) (wW a):=λa=>by
  induction a with
  |zero=>exact vL pE λc Q h=>aB1 h
  |succ a b=>exact aF1 T a b
 exact h 13
theorem Tk:Ft P w base T.D_55 58 Yg:=by
 let L nd ds Q h:=nD T.D_55.F Va;refine Ë h λfs χ=>ò ds χ λan fa t c F g ht hd ψ=>Û ψ λhk X u hl B h=>#[Ϙ,_,(aP (ss 3 nd (nO iP rF (cd (Ry T) L qq) fS))
 (aP qq
 (aP (sf (eD qq) (cW (pn 5 nd))
 (bQ (fN (tv (cd (Gz T) L qq))
 qq
 eK)))
 qq))),2]
 have hb:∀p∈(IE fs fa t c).map pY,p.1<=60:=λp r=>É p (aM.mp r) λe he=>by
  have:=(A2 t c e he).1;have h2:(pY e).1<=Ă e.1:=sS _ _;lia
 have hn:∃x l,(IE fs fa t c).map pY=x::l/\wA fs fa t c=qT x (x::l):=by
  cases t with
  |jv z=>cases X
  |jt k n v s y m=>exact#[Ϛ,37]
 have J:=FS (fs:=fs) (fa:=fa) t c;refine bV (eE (((IE fs fa t c).map pY).map MX)) (λq a=>Ã eH eH eH #[fs,an,fa,t,c,1,F,g,ht,666,u,hl,B,0,by rw[bH]at a;exact a]) ?_;let x l e N:=Ö hn;rw[N]at h;rw[e]at hb |-
 have U:L2.y0 ((x::l).map MX) 0=wz (MX x):=L2.dU (j:=0) eH;refine bV (MX x) (λq a=>#[8,U,a]) ?_
 refine jM (ts:=(x::l).map MX) (λR h=>#[4,h])
  (λi σ=>∃E:Sl,σ=[.val (dQ fs an),.val (gS t),.val (eE (c.map cV)),.val (eE ((x::l).map MX)),.val (MX (qT x ((x::l).take i))),E]) #[0] (λi d H C f=>?_) λH f=>?_
 .refine Ù H f λE=>?_;have o:i<iN (x::l):=by have:=(aD.mp C).1;rw[aB]at this;exact this
  have ex:d=MX (x::l)[i]:=by rw[aK,aC o]at C;exact(d7 C).symm
  subst ex;have S:(x::l).take (i+1)=(x::l).take i++[(x::l)[i]]:=by rw[cE,aC o];rfl
  have hz:(qT x ((x::l).take i)).1<=60:=by
   rcases AG ((x::l).take i) x with z | z
   .rw[z];exact hb x (aJ ..)
   .exact hb _ (eG z)
  have r:=hb _ (fC o);rw[S,DX]
  generalize (x::l)[i]=p at r
  generalize qT x ((x::l).take i)=z at hz
  refine qA (λb=>b=decide (p.1*z.2<z.1*p.2)) (λq a=>Â eH eH #[Ϝ,p,z,166,a _ eH]) (λhT=>?_) λW=>?_
  .refine mK (MX p) (λq a=>#[0,a]) #[.val (MX p),2];unfold IS;rw[b8 (c8 hT.symm)]
   rfl
  .try unfold nA
   dsimp only;refine#[.val (MX p),2];unfold IS;rw[a9 (e7 W.symm)]
   rfl
 .refine Ù H f λE=>?_;rw[aB,cK];exact#[0,h]
theorem Hl:Fj P w base T.D_54 59 (jO K Yf):=by
 let s nd X Q h:=rB T.D_54.F Uz;refine Ë h λfs χ=>ò X χ λan fa U c F j u hd ψ=>Ü ψ λJ k r h=>#[Ϙ,_,(aP qq
 (aP (ss 4 nd (cd (Hk T) s qq))
 (aP (so 5 nd qq)
 (aP (A3 (rV (tv (cd (zJ T) s qq)))
 (aP (ss 3 nd (cd (Tk T) s qq))
 (aP (ss 4 nd (cd (Hk T) s qq))
 (bQ (nK (i:=5) (pv 5) qq (pb:=λh=>eO (eQ bW cJ cI gW (pv 5) h)))))) (λE hb=>A9 m8 E hb))
 (bQ (uD (pv 5))))))),2]
 have B:=Gb j k u J hd;have k0:=B.kn;refine bV (MX (0,1)) (λq f=>#[5,f]) ?_;refine bV (gS (tN fs fa U c).2) (λq f=>Ä eH eH eH eH #[fs,an,fa,U,c,(1),(0),1,F,j,u,Ō,k,r,9999,f]) ?_;refine lL [lS (tN fs fa U c)] dO (λq f=>Â eH eH #[5,f]) ?_;let n W C:=yE (λn S=>∃(pre:List VZ)(x:VZ),S=[.val (dQ fs an),.val (gS U),.val (eE (c.map cV)),.val (MX x.1),.val (gS x.2),.own ((pre++[x]).map lS)]/\pre++vC fs fa c n x=zV fs fa U c/\Stq fs an fa c x/\x.2.kn<=n/\iN pre+n<=12) (tN fs fa U c).2.kn #[ϝ,[],tN fs fa U c,7,B,aL _,by show 0+_<=12;lia];refine õ W C λpre x ψ=>Ü ψ λg ok o L=>?_;obtain⟨p,t⟩:=x;refine#[Ϙ,!ye t,λq f=>#[0,t,1,by cases t<;>exact f],2]
 cases d:ye t with
 |true=>
  rw[a9 cS]
  have e:vC fs fa c n (p,t)=[(p,t)]:=by
   cases n with
   |zero=>rfl
   |succ n=>unfold vC;rw[b8 d]
  rw[<- g,e]at h;exact#[Ϙ,0,h]
 |false=>
  show(if ww=ww then _ else _);rw[b8 rfl];let l v:=Ì (ZX j k r ok d);obtain⟨n,rfl⟩:∃m,n=m+1:=#[n-1,by dsimp only at o v;omega];unfold vC at g;rw[a9 (by rw[d];decide)]at g;have N:=ok.p1;have R:=ok.q1;have y:=ok.kn;have z:=ok.jq;have r5:(wA fs fa t c).1<=60:=l.p1;have r6:(wA fs fa t c).2<=12:=l.q1;have r7:0<(wA fs fa t c).2:=l.q0;have q0:=ok.q0;dsimp only at N R y z o v g q0;refine bV (MX (wA fs fa t c)) (λq f=>Ã eH eH eH #[fs,an,fa,t,c,1,F,j,ok.tr,z,y,d,k,r,λe H=>Int.le_of_lt (ZU (a:=(p.2:Nat)) (b:=(p.1:Nat)) cT cT ok.st e H),f]) ?_;refine bV (gS (tO fs fa c t).2) (λq f=>Ä eH eH eH eH #[fs,an,fa,t,c,((wA fs fa t c).2:Nat),((wA fs fa t c).1:Nat),1,F,j,ok.tr,Ō,k,r,Ŀ,6,Ŀ,6,f]) ?_;refine nW (ts:=(pre++[(p,t)]).map lS) (lS (tO fs fa c t)) eH (by rw[aB,aV];show _+1<=_;lia) (λq f=>Â eH eH #[5,f]) ?_;exact#[n,mM _,pre++[(p,t)],tO fs fa c t,by rw[bA (l₁:=pre++[(p,t)])];rfl,by rw[dM];exact g,l,6,by rw[aV];show _+1+n<=12;lia]
def Rz:Ft P w base T.D_58 2 Zs:=by
 let d nd j Q h:=nD T.D_58.F Vd;refine õ j h λfs an z=>Ì z λF h=>#[Ϙ,_,(bQ (dB (cY rG (aO (el (fr:=[wx]) (N':=["field"]) (eD qq) (λb=>#[(cW (pk 0)),fZ,(cd (Da T) d (aO (eP 0) bT))])) bT) jJ T.ň oH))),2];have n5:=F.n5;have e:(fs.map nF).map Dz=(fs.map mB).map cN:=by rw[bH,bH];rfl
 show mF (f1 xI) _ _ Q;dsimp only[mF,oR,xR];refine jI (ts:=fs.map nF) (λR h=>#[04,h]) Dz (by rw[aB];exact ŀ) (λx q g c=>?_) ?_
 .refine Ê (aM.mp g) λf a y=>?_;subst y;have i:=(F.vs f a).2.1;exact#[0,f,1,i,c]
 .rw[e];exact h
theorem Sb:Ft P w base T.D_60 1 Zu:=by
 let k nd f Q h:=nD T.D_60.F Vf;refine Ô h λL j g y=>Ë y λe z=>ï f z λd i h=>#[Ϙ,_,(bQ qq),2];have a:iB (L.map cN) wx (wz (j:Int))=(L.take j).map cN:=by rw[jP,qW]
 have b:iB (L.map cN) (wz ((j:Int)+1)) wx=(L.drop (j+1)).map cN:=by
  have:=tK L (j+1);rw[jP];exact d9 _ this
 have c:uK (gM L j g)=cN ((L.take j).map cN++[cN (e.filter g)]++(L.drop (j+1)).map cN):=by
  unfold uK;rw[HC d,bA,aX,dM];rfl
 rw[c]at h;refine#[0452422]
 .rw[a,aB,bB];show _+1<=_;omega
 .rw[a,b,aV,aB,aB,bB,dA];show _+1+_<=_;grind
 .rw[a,b];exact h
theorem aF0(dd:Nat)
  (H:Fj P w base T.D_59 (3+dd) (jO K (wV dd))):Fj P w base T.D_59 (3+dd+1) (jO K (wV (dd+1))):=by
 let C nd ds Q h:=rB T.D_59.F Ve;refine ò ds h λfs an t L F ht E hn ψ=>í ψ λnn xj h=>#[Ϙ,_,(aP (fN (tv (cd (hk:=by lia) (zJ T) C qq))
 (bQ (A4 (aN2 qq)))
 eK)
 (aP (ss 3 nd (cd (hk:=by lia) (Hb T) C qq))
 (aP (ss 4 nd (cd (hk:=by lia) (Hc T) C qq))
 (aP (ss 5 nd (cY rG (aO (el (fr:=[wx,wz 4]) (N':=["entry","held"]) (eD qq) (λb=>#[(cW (pk 0)),(xH (fL (GH C) OQ (eP 0) (eP 1))),(eP 0)])) bT) jJ T.ň oH))
 (aP (ss 6 nd (cY rG (aO (el (fr:=[wx,wz 4]) (N':=["entry","held"]) (eD qq) (λb=>#[(cW (pk 0)),(xH (fL (BC C) jS (eP 0) (eP 1))),(eP 0)])) bT) jJ T.ň oH))
 (aP (so 7 nd bT)
 (aP (sf (eD qq) (lM (mI eH (dI (pn 8 nd) (dI (pn 9 nd) kC))))
 (bQ (fN qq
 (bQ (LU (i:=7) (pv 7) (wC (cF (hk:=by simp) H C (aO qq (aO qq (aO (cd (hk:=by lia) (Sb T) C qq) bT))))) (pb:=λh=>eO (eQ bW tQ tP MH (pv 7) h))))
 eK)))
 (bQ (uD (pv 7)))))))))),2]
 show jH _ _ _ [.val (dQ fs an),.val (gS t),.val (uK L),.un,.un,.un,.un,.un,.un,.un];have n5:=F.n5
 cases t with
 |jv a=>
  refine pX (λq j=>#[0,.jv a,1,j _ eH]) ?_;have e:eJ fs (.jv a) L=[(L,a)]:=by show(if kO L then[]else _)=_;rw[hn];rfl
  rw[e]at h;exact#[0455,h]
 |jt k n v s y m=>
  refine oZ (λq j=>#[0,.jt k n v s y m,1,j _ eH]) ?_;let j hs hy hm:=Ü ht;have e1:(Tr.jt k n v s y m).jq=max y.jq m.jq+1:=rfl;let f B r sq hv hk:=ë (aNo F j);have v5:=(F.vs f r).2.1;have sw:jx fs n<iN L:=by rw[E.1];exact(aD.mp B).1
  have U:iN L<=5:=by rw[E.1];exact n5
  obtain⟨e,z⟩:∃e,L[jx fs n]?=wz e:=#[_,aC sw];have o:=E.sub B z;have W:∀x∈e,V4 x:=λx d=>HI F r x (o x d)
  have wp:iN e<=6:=Ù e (E.2 _ f e B z) λp=>by
   have h5:=aS p (mB f);have h6:iN (mB f)=iN f.2+1:=by unfold mB;rw[aV,aB];rfl
   lia
  have se:L2.y0 (fs.map nF) ((jx fs n:Nat):Int)=wz (nF f):=L2.dU (by rw[aK,B];rfl);have S:L2.y0 (L.map cN) ((jx fs n:Nat):Int)=wz (cN e):=L2.dU (by rw[aK,z];rfl);refine bV (aW ((jx fs n:Nat):Int)) (λq c=>#[04,fs,an,k,n,v,f,jx fs n,1,F,B,sq,c]) ?_;refine bV (cN (qF k v s f)) (λq c=>#[4448,se,k,n,v,s,f,1,F.Ŗ r,hv,v5,c]) ?_;have X:∀x∈e,C2 x (cN (qF k v s f)):=λx d=>OO (F.Ŗ r) hv (((W x d).th (n:=8) (m:=0) (aL 8)).cd cS);refine bV (cN (e.filter (iW fs k n v s))) (λq c=>?_) ?_
  .show mF (f1 xI) _ _ q;dsimp only[mF,oR,xR];refine uL (ts:=e) (λR h=>Â eH eH #[_,S,0,h]) (iW fs k n v s) id ŀ (λx q d j=>#[4,BR (X x d) ?_]) (λx q d j=>#[0,j]) ?_
   .show q (IV x (cN (qF k v s f)));rw[N9 F B hs (o x d)];exact j
   .rw[rC];exact c
  refine bV (cN (e.filter λx=>!iW fs k n v s x)) (λq c=>?_) ?_
  .show mF (f1 xI) _ _ q;dsimp only[mF,oR,xR];refine uL (ts:=e) (λR h=>Â eH eH #[_,S,0,h]) (λx=>!iW fs k n v s x) id ŀ (λx q d j=>Â eH eH #[X x d,2]) (λx q d j=>#[0,j]) ?_
   .show q (!IV x (cN (qF k v s f)));rw[N9 F B hs (o x d)];exact j
   .rw[rC];exact c
  refine lL [] dO (λq j=>j) ?_
  have eT:eJ fs (.jt k n v s y m) L=eJ fs y (gM L (jx fs n) (iW fs k n v s))++eJ fs m (gM L (jx fs n) λx=>!iW fs k n v s x):=by
   show(if kO L then[]else _)=_;rw[hn];rfl
  rw[eT]at h;have ky:=y.Ł;have km:=m.Ł;have py:2^y.jq<=2^5:=dR cS Ŋ;have pm:2^m.jq<=2^5:=dR cS Ŋ;have ly:=oO fs y (gM L (jx fs n) (iW fs k n v s));have lm:=oO fs m (gM L (jx fs n) λx=>!iW fs k n v s x)
  have J:∀(g:D->Bool)(u:Tr),¬(iN (e.filter g):Int)>0->eJ fs u (gM L (jx fs n) g)=[]:=λg u l=>R5 (by
   rw[xQ hn z]
   cases d:e.filter g with
   |nil=>rfl
   |cons a b=>rw[d]at l;simp at l)
  have N:∀g:D->Bool,(iN (e.filter g):Int)>0->kO (gM L (jx fs n) g)=false:=λg l=>by
   rw[xQ hn z]
   cases d:e.filter g with
   |nil=>rw[d]at l;simp at l
   |cons a b=>rfl
  refine jM (ts:=[cN [cN (e.filter (iW fs k n v s)),gS y],cN [cN (e.filter λx=>!iW fs k n v s x),gS m]]) (λR h=>#[04504550,h])
   (λi σ=>∃s8 s9:Sl,σ=[.val (dQ fs an),.val (gS (.jt k n v s y m)),.val (uK L),.val (aW ((jx fs n:Nat):Int)),.val (cN (qF k v s f)),.val (cN (e.filter (iW fs k n v s))),.val (cN (e.filter λx=>!iW fs k n v s x)),.own (((if 0<i then eJ fs y (gM L (jx fs n) (iW fs k n v s))else[])++(if 1<i then eJ fs m (gM L (jx fs n) λx=>!iW fs k n v s x)else[])).map sZ),s8,s9]) #[31] (λi x v7 d hP=>?_) λv7 hP=>?_
  .refine û v7 hP λs8 s9=>?_
   match i,d with
   |0,d=>
    cases d;refine#[Ϛ,312];refine qA (λb=>b=decide ((iN (e.filter (iW fs k n v s)):Int)>0)) (λq j=>#[0,j _ eH]) (λhT=>?_) λhF=>?_
    .have l:=c8 hT.symm;refine BD (ts:=[]) (us:=(eJ fs y (gM L (jx fs n) (iW fs k n v s))).map sZ) eH (by rw[aB];show 0+_<=_;lia) (λq c=>Å eH eH eH eH eH #[L,jx fs n,iW fs k n v s,e,1,z,U,fs,an,y,0,F,hy,E.ı _ _,N _ l,ŋ,ŋ,c]) #[.val (cN (e.filter (iW fs k n v s))),.val (gS y),2];show _=[_,_,_,_,_,_,_,Sl.own ((eJ fs y _++[]).map sZ),_,_];rw[cG];rfl
    .have l:=J (iW fs k n v s) y (e7 hF.symm);refine#[.val (cN (e.filter (iW fs k n v s))),.val (gS y),2];show _=[_,_,_,_,_,_,_,Sl.own ((eJ fs y _++[]).map sZ),_,_];rw[l];rfl
   |1,d=>
    cases d;refine#[Ϛ,312];refine qA (λb=>b=decide ((iN (e.filter λx=>!iW fs k n v s x):Int)>0)) (λq j=>#[0,j _ eH]) (λhT=>?_) λhF=>?_
    .have l:=c8 hT.symm;refine BD (ts:=(eJ fs y (gM L (jx fs n) (iW fs k n v s))++[]).map sZ) (us:=(eJ fs m (gM L (jx fs n) λx=>!iW fs k n v s x)).map sZ) eH (by rw[cG,aB,aB];lia) (λq c=>Å eH eH eH eH eH #[L,jx fs n,(λx=>!iW fs k n v s x),e,1,z,U,fs,an,m,0,F,hm,E.ı _ _,N _ l,ŋ,ŋ,c]) #[.val (cN (e.filter λx=>!iW fs k n v s x)),.val (gS m),2];show _=[_,_,_,_,_,_,_,Sl.own ((eJ fs y _++eJ fs m _).map sZ),_,_];simp only[cG,bA];rfl
    .have l:=J (λx=>!iW fs k n v s x) m (e7 hF.symm);refine#[.val (cN (e.filter λx=>!iW fs k n v s x)),.val (gS m),2];show _=[_,_,_,_,_,_,_,Sl.own ((eJ fs y _++eJ fs m _).map sZ),_,_];rw[l];rfl
  .exact û v7 hP λs8 s9=>#[Ϙ,0,h]
def Sa:Fj P w base T.D_59 9 (jO K Zt):=by
 have h:∀a:Nat,Fj P w base T.D_59 (3+a) (jO K (wV a)):=λa=>by
  induction a with
  |zero=>exact aH3 XR λc Q h=>aB0 h
  |succ a b=>exact aF0 T a b
 exact h 6
theorem Hm:Fj P w base T.D_57 10 (jO K Zr):=by
 let c nd e Q h:=rB T.D_57.F Vc;refine ù e h λfs an t F d a h=>#[Ϙ,_,(aP (sF 2 nd (cF (Sa T) c (aO qq (aO qq (aO (cd (Rz T) c qq) bT)))))
 (aP (fN (WF 2 (fL Dp vH qq (FE eH T.c_MOST_RULES)))
 (bQ mZ)
 eK)
 (bQ (uD (pv 2))))),2]
 have f:=t.Ł;have pt:2^t.jq<=2^5:=dR cS a;have lt:=oO fs t (fs.map mB);refine Z4 ((eJ fs t (fs.map mB)).map sZ) (λq b=>Ã eH eH eH #[fs,an,1,F,fs,an,t,fs.map mB,1,F,d,lV.ļ fs,QU fs,Ō,a,b]) ?_;refine oZ (λq b=>#[4,b _ (c7 ?_)]) ?_
 .rw[aB];lia
 exact#[Ϙ,0,h]
theorem Sf:Ft P w base T.D_70 2 Yu:=by
 let n nd p Q h:=nD T.D_70.F Vp;refine õ p h λf e z=>Ü z λg a l h=>#[Ϙ,_,(bQ (dB (fF dD iY qq (gE dX (aO (el (fr:=[wx]) (N':=["entry"]) (eD qq) (λb=>#[(cW (pk 0)),fZ,(cd (Je T) n (aO (eP 0) bT))])) bT) (λh k=>eQ bF bO bN gD h k))))),2];have r:=(nM g).2.2
 have o:=jR λw hw=>É w (aM.mp hw) λx c=>(DJ (a x c)).2.2
 rw[aB]at o;have i:v0 (" in ":â)=4:=cR
 have j:v0 ("/":â)=1:=cR
 have d:=GZ g a l;unfold IU at d;rw[fM]at d;refine#[4,by rw[i];lia,02];refine jI (λR h=>#[4,h]) (λx=>aG (pP x)) cT (λx q c m=>#[0,x,1,a x c,m]) ?_;refine#[e.map pP,by rw[bH];rfl,by rw[aB,j];lia,6,h]
theorem Sg:Ft P w base T.D_71 43 Yv:=by
 let e nd i Q h:=nD T.D_71.F Xa;refine Í i h λz j y=>Ü y λk l m h=>#[Ϙ,_,(bQ (dB (fF dD iY qq (cY HS (aO (cd (Dh T) e qq) bT) rM T.b_str DH)))),2];refine Ì (pD z.1.1 Ō) λf a2=>Ì (pD z.1.2 cT) λg c=>Ì (pD z.2.kn cT) λc1 d=>?_;have a:v0 ("/":â)=1:=cR
 have b:v0 (" ":â)=1:=cR
 refine#[4,a2,2];refine#[by show(iZ _).length+_<=_;rw[a];lia,4,c,2];refine#[by show(iZ _++_).length+v0 (iZ _)<=_;rw[fM,a];lia,2];refine#[by show(iZ _++_++iZ _).length+_<=_;rw[fM,fM,a,b];lia,0,z.2,1,ŀ,6,d,2];exact#[by show(iZ _++_++iZ _++_).length+v0 (iZ _)<=_;rw[fM,fM,fM,a,b];lia,h]
theorem Se:Ft P w base T.D_69 3 Yt:=by
 let y nd U Q h:=nD T.D_69.F Vo;refine ù U h λfs an r F m s h=>#[Ϙ,_,(aP (nI (i:=2) (fr:=[wx,wx]) (N':=["field","let"]) (Kg qq (λh=>Lc eH T.b_zip h)) (λb=>#[(lM (mI eH (dI (pk 0) (dI (pk 1) kC)))),(xH (fL (pZ y) jS (eP 1) (cd (Da T) y (aO (eP 0) bT)))),(cd (Sf T) y (aO (eP 0) (aO (eP 1) bT)))]) (λJ H=>kZ (show pO _ (aQ (top 83)) ["form","rule","narrow","lets"] ["field","let"] [wx,wx]=ww from cR) nd eH À eH J H eH))
 (aP (ss 3 nd (BW (JN qq (λh=>OI h (λ_=>rfl))) (gE dX qq (λh s=>eQ bF bO bN gD h s)) dX))
 qq)),2]
 have n5:=F.n5;let u v:=Ì (C4 F m);have L:=NJ u v;have el:iN ((fs.zip r.1).map λp=>(.tuple [nF p.1,.tuple p.2]:D))<=5:=by rw[aB,IH];lia
 refine bV (eE ((gY fs r.1).map aG)) (λq c=>?_) ?_
 .refine O3 (ts:=(fs.zip r.1).map λp=>cN [nF p.1,cN p.2]) (λR h=>#[0480,by rw[aLo];exact h])
   Mm Ml ŀ (λx j=>?_) (λa b q t c=>?_) (λa b q t c=>?_) ?_
  .obtain⟨⟨f,e⟩,_,rfl⟩:=aM.mp j;exact#[31]
  .obtain⟨⟨f,e⟩,g,z⟩:=aM.mp t;cases z;let k n o:=í (uJ F m g);have d:=HI F k;have N:=(F.vs f k).2.1;have E:Th 60 2 (cN e):=wM 8 1 6 (λx j=>(n x j).th (aL 8)) o cS cS;have S:Th 60 2 (cN (mB f)):=wM 8 1 6 (λx j=>(d x j).th (aL 8)) (by unfold mB;rw[aV,aB];show _+1<=6;exact Ō) cS cS;refine Â eH eH #[f,1,N,#[E.lay,S.lay,aR (aLk _ _) (aR E.depth cS)],2]
   .show q (!LI e (mB f));rw[BY d];have c:q (decide (e≠mB f)):=c;rw[decide_not]at c;exact c
  .obtain⟨⟨f,e⟩,g,z⟩:=aM.mp t;cases z;exact í (uJ F m g) λk n o=>Â eH eH #[ϝ,f,e,1,F.name k,n,o,c]
  .rw[rS,bH];unfold gY at c;rw[bH]at c;exact c
 refine bV (aG (if gY fs r.1=[]then("all":â)else Txt.join " and " (gY fs r.1))) (λq c=>?_) ?_
 .refine#[42];have B:∀(l:List â)(a b:Prop),(if l=[]then a else b)->(if(!Ą (l.map aG))=ww then b else a):=λl a b h=>by cases l<;>exact h
  refine B (gY fs r.1) _ _ ?_;by_cases z:gY fs r.1=[]
  .rw[b8 z]at c |-;exact c
  .rw[a9 z]at c |-
   exact#[4,gY fs r.1,1,ŀ,c]
 .have C:=yF F m s;unfold oC at C h;rw[fM]at C;refine#[0,by rw[<- fM];lia,4,ŀ,h]
theorem aFw(c:Nat)
  (b:Ft P w base T.D_92 (0+c) (wQ c)):Fj P w base T.D_92 (0+c+1) (lG K (wQ (c+1))):=by
 let e nd i Q h:=nD T.D_92.F Wm;refine Ë h λt z=>ï i z λhk hd h=>#[Ϙ,_,(bQ (dB (aIf (cY K4 qq rN T.Ĩ tL) (xL (fF dD iY (fF dD iY fS (cd (hk:=by simp) b e qq)) (cd (hk:=by simp) b e qq)))))),2];show OB _ _ [.val (gS t)]
 cases t with
 |jv a=>exact#[4,h]
 |jt k n v s y m=>
  have f:(Tr.jt k n v s y m).jq=max y.jq m.jq+1:=rfl;have d:(Tr.jt k n v s y m).kn=y.kn+m.kn+1:=rfl;rw[f]at hd;rw[d]at hk;refine#[44,y,16,Ŋ,4,m,16,Ŋ,2]
  have g:(1:Int)+(y.kn:Int)+(m.kn:Int)=(((Tr.jt k n v s y m).kn:Nat):Int):=by
   rw[d];lia
  show Q (aW (1+(y.kn:Int)+(m.kn:Int)));rw[g];exact h
def Sn:Ft P w base T.D_92 13 Zo:=by
 have h:∀a:Nat,Ft P w base T.D_92 (0+a) (wQ a):=λa=>by
  induction a with
  |zero=>exact vL pE λc Q h=>aBw h
  |succ a b=>exact aFw T a b
 exact h 13
def Do:Ft P w base T.D_87 1 Zj:=by
 let c nd b Q h:=nD T.D_87.F Wh;refine Í b h λx a h=>#[Ϙ,_,(aP (fN (fL AE GK qq qV)
 qq
 eK)
 qq),2]
 rcases a with rfl | ⟨z,d,rfl⟩
 .exact#[0,h]
 .exact#[4,h]
theorem aFx(d:Nat)
  (c:Ft P w base T.D_86 (1+d) (wS d)):Fj P w base T.D_86 (1+d+1) (lG K (wS (d+1))):=by
 let i nd u Q h:=nD T.D_86.F Wg;refine ù u h λfs an t F p hd ψ=>Ì ψ λg h=>#[Ϙ,_,(aP qq
 (bQ (dB (fF dD iY (fF dD iY qq (cd (hk:=by simp) c i qq)) (cd (hk:=by simp) c i qq))))),2]
 show jH _ _ _ [.val (gS t)]
 cases t with
 |jv a=>exact gF (λb=>b=ww) (λq f=>#[0,f _ (c6 eH)]) (λ_=>#[45,h]) λl=>by cases l
 |jt k n v s y m=>
  have j:(Tr.jt k n v s y m).jq=max y.jq m.jq+1:=rfl;rw[j]at hd g;refine oZ (λq f=>#[0,f _ (c7 (by show¬((5:Nat):Int)=2;decide))]) ?_;refine Ü p λf x r o=>#[04444454,fs,an,y,1,F,r,Ŋ,62]
  have kn:∀{t:Tr},t.jq<=6->iN (gI t)<=500:=λ{t} h=>by
   have:=t.Ł;have:2^t.jq<=2^6:=dR cS h;rw[pU];lia
  have z:=kn (t:=y) cT;have B:=kn (t:=m) cT;refine#[by rw[aB];show 5+_<=_;lia,4,fs,an,m,1,F,o,Ŋ,6,by rw[aV,aB,aB];show 5+_+_<=_;lia,2]
  have e:(gI (.jt k n v s y m)).map aG=([aG "ask",aG n,aG k,aG v,aG s]:List D)++(gI y).map aG++(gI m).map aG:=by
   show(([("ask":â),n,k,v,s])++(gI y++gI m)).map aG=_;rw[bA,bA,dM];rfl
  rw[e]at h;exact h
def Dm:Ft P w base T.D_86 8 Zi:=by
 have h:∀a:Nat,Ft P w base T.D_86 (1+a) (wS a):=λa=>by
  induction a with
  |zero=>exact vL pE λc Q h=>aBx h
  |succ a b=>exact aFx T a b
 exact h 7
theorem UR:Ft P w base T.D_88 2 Zk:=by
 let e nd i Q h:=nD T.D_88.F Wi;refine Ô h λfs an r z=>ï i z λF a h=>#[Ϙ,_,(bQ (dB (fF dD iY (el (fr:=[wx]) (N':=["_law_value_here"]) (eD qq) (λb=>#[(cW (pk 0)),fZ,(cd (Do T) e (aO (eP 0) bT))])) qq))),2];have c:=a.1;have g:=(B5 F c).2;rw[aB]at g;show OB _ _ [.val (cV r)];dsimp only[OB,XV];refine jI (ts:=r.1) (λR h=>#[04,h]) (λx=>aG (pP x)) cT (λx q f d=>#[0,x,1,qK F c x f,d]) ?_;refine#[45,by rw[aB];show _+1<=_;lia,2];unfold lE at h;rw[bA,bH]at h;exact h
theorem UQ:Ft P w base T.D_89 3 Zl:=by
 let p nd U Q h:=nD T.D_89.F Wj;refine Ô h λfs an t χ=>Ç χ λg f ψ=>ï U ψ λs w h=>#[Ϙ,_,(aP (nI (i:=1) (fr:=[wx,wz 0]) (N':=["_law_number","_law_rows"]) (eD (BU qq (pc:=λh=>nL (vP eH) eH T.ĭ uQ h))) (λb=>#[(cW (pk 0)),fZ,(gE dX (aO (fF dD iY (HE (aO (cY HS (aO (eP 0) bT) rM T.b_str DH) bT)) (cd (UR T) p (aO (yP p.u1 (eP 1) (eP 0)) bT))) bT) (λh o=>eQ bF bO bN gD h o))]) (λL J=>kZ (show pO _ (aQ (top 104)) ["_law_rows","_law_told"] ["_law_number","_law_rows"] [wx,wz 0]=ww from cR) nd eH À eH L J eH))
 (aP (fN (fL (tI p) jS qq qq)
 qq
 eK)
 (bQ (dB (gE dX qq (λh o=>eQ bF bO bN gD h o)))))),2]
 show jH _ _ _ [.val (CH (jT t)),.un];have F:=w.F;have few:=w.few;have f61:=w.f61;have j:∀e∈g,e.1<=60:=λe d=>by have:=w.lt e d;lia
 have W:v0 (" ":â)=1:=cR
 have B:v0 (", ":â)=2:=cR
 refine bV (eE ((g.map rW).map aG)) (λq m=>U8 eH s w.ris ŋ (λe=>aG (rW e)) (λe d q m=>?_) (by rw[bH]at m;exact m)) ?_
 .have a:=w.ok e.2 (aM.mpr #[Ϙ,e,d,1]);have r:=nk (k:=e.1) (j3 (by have:=j e d;exact Ō));have X:=(F5 F a).1;have C:v0 (f8 (im ((e.1:Nat):Int)))<=9:=r.asc.len;refine#[eF,10,r.lg,54,jT t,(e.1:Nat),cV e.2,7,nX (MW s w.ris d),fs,an,e.2,1,F,a,by rw[aB];have:=(tH F a).2.1;show 1+_<=_;lia,iZ (e.1:Nat)::lE e.2,12,m]
  have S:=jR (n:=9) (ws:=iZ (e.1:Nat)::lE e.2) λx hx=>by
   rcases aN.mp hx with rfl | hx
   .exact C
   .exact((tH F a).1 x hx).2.len
  have l4:=(tH F a).2.1;have u:v0 eF=1:=cR
  rw[u];rw[bE]at S |-
  lia
 have N:=jR (zW F w.ok j);rw[aB]at N
 have v:dG (eE ((g.map rW).map aG)) (eE [])=decide (g=[]):=by
  rw[VL];cases g<;>rfl
 have lay:RO (eE ((g.map rW).map aG)) (eE []):=#[NK λx hx=>?_,1,aR (oM _ _) dO]
 .refine gF (λb=>b=decide (g=[])) (λq m=>?_) (λH=>?_) λE=>?_
  .refine#[05,lay,2];show q (dG _ _);rw[v];exact m _ eH
  .have z:=c8 H.symm;unfold zI at h;rw[b8 z]at h;exact h
  .have z:=e7 E.symm;unfold zI at h;rw[a9 z]at h;refine#[", ",10,g.map rW,1,by rw[B,aB];lia,h]
 .refine Ê (aM.mp hx) λz R Z=>?_;subst Z;exact É z (aM.mp R) λe d=>(DL.cd #[aL _,λc l=>by
   rcases G3 l with l | ⟨y,hy,l⟩
   .exact aOr c l
   .rcases aN.mp hy with rfl | hy
    .exact(nk (j3 (by have:=j e d;exact Ō))).asc.asc c l
    .exact aGq F (w.ok e.2 (aM.mpr #[Ϙ,e,d,1])) hy c l]).lay
theorem Jl:Ft P w base T.D_90 2 Zm:=by
 let U nd ds Q h:=nD T.D_90.F Wk;refine ò ds h λfs an t b F W j hd h=>#[Ϙ,_,(aP qq
 (aP (A3 qq
 (aP (ss 4 nd (cd (Ji T) U qq))
 (aP (ss 3 nd (fF dD iY (fF dD iY qq (gE dX qq (λh N=>eQ bF bO bN gD h N))) dX))
 (bQ (ss 1 nd (nO iP rF qq (fF dD iY fS (cY K4 qq rN T.Ĩ tL))))))) (λj hb=>A9 m8 j hb))
 qq)),2]
 show jH _ _ _ [.val (dQ fs an),.val (gS t),.val (cN b),.un,.un];have x:v0 eF=1:=cR
 have B:v0 (", ":â)=2:=cR
 refine bV (aG "") (λq c=>c) ?_;let n v7 L:=yE (λn σ=>∃(p:Tr)(dn:â)(l:Sl),σ=[.val (dQ fs an),.val (gS p),.val (cN b),.val (aG dn),l]/\n=p.jq/\jX fs an p/\dn++wL fs p b=wL fs t b/\v0 dn+p.jq*50<=200) t.jq #[Ϣ,t,"",01,W,uN (by rw[nZ];rfl),by show 0+_<=_;lia];refine Ô L λp dn l ψ=>î v7 ψ λχ=>ï n χ λo g R=>?_
 cases p with
 |jv a=>
  refine#[Ϙ,wv,λq c=>#[0,by show q (decide _);rw[c7 (by show¬((2:Nat):Int)=5;decide)];exact c],2];show(if wv=ww then _ else _);rw[a9 cS];have i:=(nM (F.an.2.1 _ o)).2.2;have e:wL fs (.jv a) b=a:=rfl;rw[e]at g;exact#[04,by show v0 dn+v0 a<=_;lia,by rw[g];exact h]
 |jt k n v s y m=>
  refine#[Ϙ,ww,λq c=>#[0,by show q (decide _);rw[c6 (by show((5:Nat):Int)=5;rfl)];exact c],2];show(if ww=ww then _ else _);rw[b8 rfl];have i:∀z∈([n,k,v,s]:List â),v0 z<=8:=λz hz=>(nM (nV F (.jt k n v s y m) o z (bK.mpr (j3 (aE _ hz))))).2.2;let c C X S:=Ü o;have J:(Tr.jt k n v s y m).jq=max y.jq m.jq+1:=rfl;rw[J]at R |-
  have n8:=i n dN;have k8:=i k dN;have v8:=i v dN;have H:=E1 F c C j;have s8:v0 (eN fs k n v s b)<=8:=by rcases H with e | e<;>rw[e]<;>decide +kernel
  refine bV (aG (eN fs k n v s b)) (λq r=>#[444,fs,an,k,n,v,s,b,1,F,c,C,j,r]) ?_;have u:=xG eF [n,k,v,eN fs k n v s b];rw[x]at u;have u:v0 (Txt.join eF [n,k,v,eN fs k n v s b])<=v0 n+(v0 k+(v0 v+(v0 (eN fs k n v s b)+0)))+4*1:=u;refine bV (aG (dn++Txt.join eF [n,k,v,eN fs k n v s b]++", ")) (λq c=>#[0,eF,1444445,[n,k,v,eN fs k n v s b],126,by rw[fM,B];lia,c]) ?_
  .rw[x];show v0 n+(v0 k+(v0 v+(v0 (eN fs k n v s b)+0)))+4*1<=_;lia
  have ő:∀d:Tr,mT fs (.jt k n v s y m) b=cN [cN [aG k,aG n,aG v],aG (eN fs k n v s b)]::mT fs d b->lU fs (.jt k n v s y m) b=lU fs d b->jX fs an d->d.jq<=max y.jq m.jq->∃E,E<max y.jq m.jq+1/\∃(p:Tr)(f:â)(l:Sl),([.val (dQ fs an),.val (gS d),.val (cN b),.val (aG (dn++Txt.join eF [n,k,v,eN fs k n v s b]++", ")),.val (aG (eN fs k n v s b))]:List Sl)=[.val (dQ fs an),.val (gS p),.val (cN b),.val (aG f),l]/\E=p.jq/\jX fs an p/\f++wL fs p b=wL fs t b/\v0 f+p.jq*50<=200:=λd w1 w2 w3 w4=>#[d.jq,Ō,d,37,w3,by rw[<- g,aFh w1 w2,yD,yD,yD],by rw[fM,fM,B];lia];rcases H with e | e
  .refine mK (gS y) (λq c=>Â eH eH ?_) ?_
   .show yf (gS (.jt k n v s y m)) (aW (3+if decide (eN fs k n v s b="no")=ww then 1 else 0)) q;rw[e,a9 cR];exact#[0,c]
   .refine ő y ?_ (b8 e) X (sR ..);show _::(if eN fs k n v s b="yes" then mT fs y b else mT fs m b)=_;rw[b8 e]
  .have ne:eN fs k n v s b≠"yes":=by rw[e];decide +kernel
   refine mK (gS m) (λq c=>Â eH eH ?_) ?_
   .show yf (gS (.jt k n v s y m)) (aW (3+if decide (eN fs k n v s b="no")=ww then 1 else 0)) q;rw[e,b8 cR];exact#[0,c]
   .refine ő m ?_ (a9 ne) S (qY ..);show _::(if eN fs k n v s b="yes" then mT fs y b else mT fs m b)=_;rw[a9 ne]
theorem Sm:Ft P w base T.D_91 11 Zn:=by
 let l nd ds Q h:=nD T.D_91.F Wl;refine ù ds h λfs an t F ht nn h=>#[Ϙ,_,(aP (so 2 nd bT)
 (aP (sf (eD (wC (cF (Hm T) l qq))) (lM (mI eH (dI (pn 3 nd) (dI (pn 4 nd) kC))))
 (aP (so 5 nd bT)
 (aP (sf (lQ qq (λh=>kJ eH T.ś h)) (cW (pn 6 nd))
 (bQ (fN qq
 (bQ (nK (i:=5) (pv 5) (fF dD iY qq (gE dX (aO (el (fr:=[wx]) (N':=["_law_value_here"]) (eD qq) (λb=>#[(cW (pk 0)),fZ,(cd (Do T) l (aO (eP 0) bT))])) bT) (λh k=>eQ bF bO bN gD h k))) (pb:=λh=>eO (eQ bW cJ cI gW (pv 5) h))))
 eK)))
 (lP 5 (aP (fN (fL (tI l) jS qq qq)
 qq
 eK)
 (bQ (nK (i:=2) (pv 2) (fF dD iY (fF dD iY (gE dX qq (λh k=>eQ bF bO bN gD h k)) dX) qq) (pb:=λh=>eO (eQ bW cJ cI gW (pv 2) h)))))))))
 (lP 2 (bQ (dB (gE dX qq (λh k=>eQ bF bO bN gD h k))))))),2]
 show jH _ _ _ [.val (dQ fs an),.val (gS t),.un,.un,.un,.un,.un];have n5:=F.n5
 have tk:t.kn<=15:=by
  have:=t.Ł;have:2^t.jq<=2^4:=dR cS nn;lia
 have lt:=oO fs t (fs.map mB);have X:=yK t (lV.ļ fs);have W:∀r∈eJ fs t (fs.map mB),r.2∈an:=λr l=>vJ t ht l;unfold F3 at h
 generalize qt:eJ fs t (fs.map mB)=Ls at *
 refine lL [] dO (λq c=>c) ?_
 refine jM (ts:=Ls.map sZ) (λR h=>Â eH eH #[fs,an,t,1,F,ht,60,by rw[qt];exact h])
  (λi σ=>∃s3 s4 s5 g:Sl,σ=[.val (dQ fs an),.val (gS t),.own (((Ls.take i).map (oC fs)).map aG),s3,s4,s5,g]) #[331] (λi x d m o=>?_) λd o=>?_
 .refine ú d o λs3 s4 s5 g=>?_;rw[aK]at m;obtain⟨⟨L,a⟩,u,rfl⟩:=cM.mp m;have U:=aU u;have y:lV fs L:=(X _ U).1;have k:a∈an:=W _ U;have v:=yF F (r:=(L,a)) y k;have sv:=(aD.mp u).1;have et:Ls.take (i+1)=Ls.take i++[(L,a)]:=by rw[cE,u];rfl
  refine#[Ϛ,312];refine lL [] dO (λq c=>c) ?_;have Ll:=y.1
  refine jM (ts:=eL (iN L)) (λR h=>#[4,by show _<=(iN (L.map cN):Int);lia,by show(iN (L.map cN):Int)<_;rw[aB];lia,by show R (eL (Ă (((L.map cN).length:Int))));rw[aB];exact h])
   (λj σ=>∃g:Sl,σ=[.val (dQ fs an),.val (gS t),.own (((Ls.take i).map (oC fs)).map aG),.val (uK L),.val (aG a),.own ((gY (fs.take j) (L.take j)).map aG),g]) #[0] (λj x d m o=>?_) λd o=>?_
  .refine Ù d o λg=>ñ x (iA m) λhj=>?_;have J:j<iN fs:=by lia
   have E:fs[j]?=wz fs[j]:=aC J;have s:=fC J;have C:L[j]?=wz L[j]:=aC hj
   generalize L[j]=e at C
   have B:=uJ F y (aU (i:=j) (gU.mpr #[E,C]))
   generalize fs[j]=f at E s B
   have S:=GZ (F.name s) B.2.1 B.2.2
   have ue:=jR (n:=8) (ws:=e.map pP) λw hw=>É w (aM.mp hw) λx m=>(DJ (B.2.1 x m)).2.2
   have rz:=B.2.2;rw[aB]at ue;have l8:=(nM (F.name s)).2.2;have c1:v0 (" in ":â)=4:=cR
   have c2:v0 ("/":â)=1:=cR
   have ma:decide ((iN e:Int)<=(iN (f.2.map aG):Int))=decide (e≠mB f):=Ù e (y.2 j _ e E C) λp=>by
    rw[<- aH5,i0];unfold mB;rw[aV,aB];show _↔_<_+1;lia
   have H:(fs.map nF)[j]?=wz (nF f):=by rw[aK,E];rfl
   have N:(L.map cN)[j]?=wz (cN e):=by rw[aK,C];rfl
   rw[OX E C];show kA _ _ _ _ [.val (dQ fs an),.val (gS t),.own (((Ls.take i).map (oC fs)).map aG),.val (uK L),.val (aG a),.own ((gY (fs.take j) (L.take j)).map aG),.val (aW (j:Nat))];refine qA (λb=>b=decide (e≠mB f)) (λq c=>?_) (λhT=>?_) λhF=>?_
   .refine Â eH eH #[_,L2.dU N,48,L2.dU H,02];exact c _ ma
   .rw[b8 (c8 hT.symm)];refine nW (ts:=(gY (fs.take j) (L.take j)).map aG) (aG (IU f e)) eH ?_ (λq c=>?_) #[_,by rw[bA];rfl]
    .have:=aS (λp:(â×List â)×List D=>decide (p.2≠mB p.1)) ((fs.take j).zip (L.take j));unfold gY;rw[aB,aB];rw[IH,bB]at this;lia
    .unfold IU at S c;rw[fM]at S;refine#[48,L2.dU H,0,by rw[c1];lia,"/",12];dsimp only[oR,xR];refine jI (ts:=e) (λR h=>Â eH eH #[_,L2.dU N,0,h]) (λx=>aG (pP x)) cT (λx q m c=>#[0,x,1,B.2.1 x m,c]) ?_;exact#[e.map pP,by rw[bH];rfl,by rw[aB,c2];lia,by rw[fM,c1];lia,c]
   .rw[a9 (e7 hF.symm),cG];exact#[0]
  .refine Ù d o λg=>?_;rw[jD,Ll,cK,<- Ll,cK];let m1 m2:=Ì (C4 F y);have m3:=NJ m1 m2;have m4:=RX F y;have c3:v0 (" : ":â)=3:=cR
   refine#[Ϙ,02];show jH _ _ _ [.val (dQ fs an),.val (gS t),.own (((Ls.take i).map (oC fs)).map aG),.val (uK L),.val (aG a),.val (eE ((gY fs L).map aG)),g];refine UB (λb=>b=decide (gY fs L=[])) (λd=>d=[.val (dQ fs an),.val (gS t),.own (((Ls.take i).map (oC fs)).map aG),.val (uK L),.val (aG a),.val (eE ((if gY fs L=[]then([("all":â)]:List â)else gY fs L).map aG)),g]) (λq c=>#[05,#[m4,1,aR (oM _ _) dO],2]) (λhT vo hD=>?_) (λhF=>?_) ?_
   .show q (dG _ _);rw[VL];exact c _ (by cases gY fs L<;>rfl)
   .have z:=c8 hT.symm;refine mK (eE [aG "all"]) (λq c=>#[5,c]) (hD _ ?_);rw[z];rfl
   .rw[a9 (e7 hF.symm)]
   rintro _ rfl;refine nW (ts:=((Ls.take i).map (oC fs)).map aG) (aG (oC fs (L,a))) eH (by rw[aB,aB,bB];lia) (λq c=>?_) #[33,by rw[et,bA,bA];rfl];unfold oC at c v;rw[fM,fM,c3]at v;dsimp only at c v;have h8:=(nM (F.an.2.1 _ k)).2.2;have k2:Txt.join " and " (if gY fs L=[]then([("all":â)]:List â)else gY fs L)=if gY fs L=[]then("all":â)else Txt.join " and " (gY fs L):=by split<;>rfl
   refine#[" and ",10,(if gY fs L=[]then([("all":â)]:List â)else gY fs L),122]
   .split
    .exact dO
    .exact aR m3 dO
   .rw[k2];exact#[by rw[c3];lia,0,by rw[fM,c3];lia,c]
 .refine ú d o λs3 s4 s5 g=>?_;rw[aB,cK];exact#[0,"; ",14,JY F (λr l=>#[(X r l).1,W r l]) cT,h]
theorem Of:Fm P w K mg base rH 61 ŧ.i ["self","word"] (kE K (Ox G A)):=by
 let g nd o n ds Q h:=XS (F:=nE A) T.D_3.F Ot;refine ð h λfs an fa d m Bo χ=>Ò χ λl t f w ht ψ=>ï ds ψ λv W h=>#[Ϙ,_,(cA (wO (i:=2) (sD cR (nQ (K:=K) eH qq) (λh=>rY h T.gb T.M_10 (Gs T) (g.ko cS) T.D_10.d tj jN)) (λh=>pB h (pn 2 nd)))
 (cA (lD (yZ qq)
 (dP (jB (mP (cd (Sc T) g qq))))
 jC)
 (cA (lD (yZ qq)
 (dP (jB (xK (Jf T) T.D_67.m T.D_67.k T.D_67.d (g.ko cS) (kR (sD cR (nQ (K:=K) eH qq) (λh=>rY h T.gb T.M_9 (Fe T) (g.ko cS) T.D_9.d tj jN)) vQ) (λh=>rE (Jf T) (g.ko cS) eH T.D_67.m T.D_67.k T.D_67.d tj jN h))))
 jC)
 (cA (lD (yZ qq)
 (dP (jB (mP (gE dX (aO (el (fr:=[wx,wz 0]) (N':=["rule","self"]) (eD (wC (cF (Hm T) g (aO (nQ (K:=K) eH qq) qq)))) (λb=>#[(cW (pk 0)),fZ,(cd (Se T) g (aO (nQ (K:=K) eH (eP 1)) (aO (eP 0) bT)))])) bT) (λh L=>eQ bF bO bN gD h L)))))
 jC)
 (cA (aL5 (i:=3) (fr:=[wx,wx]) (N':=["number","row"]) (sD cR (nQ (K:=K) eH qq) (λh=>rY h T.gb T.M_9 (Fe T) (g.ko cS) T.D_9.d tj jN)) (λb=>#[(lM (mI eH (dI (pk 0) (dI (pk 1) kC)))),fZ,(eP 1)]) (λhi hY=>kZ (show pO _ (aQ (iK (top 75) 3)) ["self","word","tree","rows"] ["number","row"] [wx,wx]=ww from cR) nd eH À eH hi hY eH))
 (dP (jB (mP (gE dX (aO (el (fr:=[wx,wx]) (N':=["price","part"]) (eD (wC (cF (Hl T) g (aO (nQ (K:=K) eH qq) qq)))) (λb=>#[(lM (mI eH (dI (pk 0) (dI (pk 1) kC)))),fZ,(cd (Sg T) g (aO (eP 0) (aO (eP 1) bT)))])) bT) (λh L=>eQ bF bO bN gD h L)))))))))),2]
 obtain rfl:=hZ ht;have F:=W.rw.F;have few:=W.rw.few;have f61:=W.rw.f61;let tr jq:=Ì W.tr;have ne:∀{x y:â}(q:EO->Bool->Prop),x≠y->q n wv->q n (decide (x=y)):=λq h z=>by rw[c7 h];exact z
 have kn:t.kn<=7:=by
  have:=t.Ł;have:2^t.jq<=2^3:=dR cS jq;lia
 refine EW (gS t) (λq c=>#[0,G,3,oF o,1,T.kq,T.ju,7,o,7,by rw[W.st];exact c]) ?_;rcases h with⟨rfl,h⟩ | ⟨rfl,h⟩ | ⟨rfl,h⟩ | ⟨rfl,h⟩
 .refine tX (λq c=>#[0,by show q n (decide _);rw[c6 rfl];exact c]) ?_;have hl:=CT F tr;exact#[0,fs,an,t,1,F,tr,ŀ,6,h cT]
 .refine lO (λq c=>#[0,ne q cR c]) ?_;refine tX (λq c=>#[0,by show q n (decide _);rw[c6 rfl];exact c]) ?_;have E:∀e∈l,e.1<=60:=λe N=>by have:=W.rw.lt e N;lia
  exact#[0,G,3,oF o,1,T.kq,T.ju,7,o,l,7,W.kv,fs,an,l,1,F,W.rw.ok,E,ŋ,h (WR F W.rw.ok E ŋ)]
 .refine lO (λq c=>#[0,ne q cR c]) ?_;refine lO (λq c=>#[0,ne q cR c]) ?_;refine tX (λq c=>#[0,by show q n (decide _);rw[c6 rfl];exact c]) ?_;have lt:=oO fs t (fs.map mB);have u:=yK t (lV.ļ fs);have p:∀r∈eJ fs t (fs.map mB),r.2∈an:=λr g=>vJ t tr g;unfold F3 at h;refine#[Ϙ,02];dsimp only[oR,xR];have rs:=JY F (rs:=eJ fs t (fs.map mB)) (λr g=>#[(u r g).1,p r g]) cT;refine jI (ts:=(eJ fs t (fs.map mB)).map sZ) (λR h=>#[0,G,3,o.fm,1,T.kq,T.kt,10,fs,an,t,by rw[W.fm],F,tr,ŀ,0,h]) (Mj fs) (by rw[aB];lia) (λx q B c=>?_) ?_
  .refine Ê (aM.mp B) λr g Z=>?_;subst Z;have c:q (aG (oC fs (yl (r.1.map cN),r.2))):=c;rw[LN]at c;exact#[0,G,3,o.fm,1,T.kq,T.kt,10,fs,an,r,by rw[W.fm],F,(u r g).1,p r g,c]
  .refine#[ϙ,(eJ fs t (fs.map mB)).map (oC fs),2,rs,h ?_]
   .rw[bH,bH];apply gX;intro r _;show aG (oC fs (yl (r.1.map cN),r.2))=_;rw[LN];rfl
   .have j:=xG "; " ((eJ fs t (fs.map mB)).map (oC fs))
    have s:=jR (n:=500) (ws:=(eJ fs t (fs.map mB)).map (oC fs)) λw hw=>É w (aM.mp hw) λr g=>yF F (u r g).1 (p r g)
    have e:v0 ("; ":â)=2:=cR
    rw[e]at j;rw[aB]at j s;lia
 .refine lO (λq c=>#[0,ne q cR c]) ?_;refine lO (λq c=>#[0,ne q cR c]) ?_;refine lO (λq c=>#[0,ne q cR c]) ?_;have U:eV fs an (l.map (·.2)):=W.rw.ok;refine EW (eE ((l.map (·.2)).map cV)) (λq c=>#[0,G,3,oF o,1,T.kq,T.ju,7,o,l,7,W.kv,02]) ?_
  .refine BI (ti:=λ_ Q=>Q (IQ l)) (Q:=λd=>q n d) (λR h=>h) WJ (by rw[GL];exact ŀ) (λx B=>?_) (λa b q X c=>#[0,c]) ?_
   .refine Ê (aM.mp B) λe N Z=>?_;subst Z;exact#[31]
   .have e:(IQ l).map WJ=(l.map (·.2)).map cV:=by unfold IQ;rw[bH,bH];rfl
    rw[e];exact c
  let H s2:=Ì (JU v tr U ŀ ŀ (by rw[aB];omega));unfold FW at h
  generalize J:zV fs fa t (l.map (·.2))=ST at H s2 h
  refine#[Ϙ,02];dsimp only[oR,xR];refine BI (ts:=ST.map lS) (λR h=>#[0,G,3,o.fm,1,T.kq,T.kt,14,fs,an,fa,t,l.map (·.2),by rw[W.fm],F,v,tr,ŀ,ŀ,U,by rw[aB];omega,0,by rw[J];exact h]) Cn (by rw[aB];exact ŀ) (λx B=>?_) (λa b q X c=>?_) ?_
  .refine Ê (aM.mp B) λe N Z=>?_;subst Z;exact#[31]
  .refine Ê (aM.mp X) λz C e=>?_;cases e;let z1 z2 S z4:=Ü (H z C);have c:q (Cn (lS z)):=c;rw[T4 z4]at c;exact Â eH eH #[z,1,z1,z2,S,z4,c]
  .have h1:=jR (n:=20) (ws:=ST.map vY) λw hw=>É w (aM.mp hw) λz C=>Ü (H z C) λz1 z2 S _=>CP z1 z2 S
   have e:v0 (", ":â)=2:=cR
   have j:=xG ", " (ST.map vY);rw[e,aB]at j;rw[aB]at h1;refine#[ϙ,ST.map vY,2,by rw[e,aB];lia,h cT];rw[bH,bH];exact gX λz C=>T4 (H z C).2.2.2
theorem Og:Fm P w K mg base rH 33 ŧ.j ["self","word","case"] (kE K (Oy G A)):=by
 let l nd j n ds Q h:=XS (F:=nE A) T.D_4.F Cc;refine ð h λfs an d m Bo ks χ=>Ò χ λt f w o N ψ=>ï ds ψ λW g h=>#[Ϙ,_,(cA (lD (yZ (rV (tv (cd (C0 T) l (aO (nQ (K:=K) eH qq) qq)))))
 (dP (lB mZ))
 jC)
 (cA (wO (i:=3) (sD cR (nQ (K:=K) eH qq) (λh=>rY h T.gb T.M_10 (Gs T) (l.ko cS) T.D_10.d tj jN)) (λh=>pB h (pn 3 nd)))
 (cA (lB (ss 4 nd (cd (Hg T) l (aO (nQ (K:=K) eH qq) qq))))
 (cA (lD (yZ qq)
 (dP (jB (mP qq)))
 jC)
 (cA (lB (nI (i:=5) (fr:=[wx,wx]) (N':=["question","side"]) (eD (wC (cF (Hf T) l (aO (nQ (K:=K) eH qq) qq)))) (λb=>#[(lM (mI eH (dI (pk 0) (dI (pk 1) kC)))),fZ,(cd (Sd T) l (aO (eP 0) (aO (eP 1) bT)))]) (λH E=>kZ (show pO _ (aQ (iK (top 75) 4)) ["self","word","case","tree","answer","way"] ["question","side"] [wx,wx]=ww from cR) nd eH À eH H E eH)))
 (dP (jB (mP (gE dX qq (λh y=>eQ bF bO bN gD h y)))))))))),2]
 obtain rfl:=hZ N;have F:=W.rw.F;refine Ì W.tr λtr jq=>lO (λq c=>#[0,G,3,j.fm,1,T.kq,T.kt,10,fs,an,_,by rw[W.fm],F,aIp F g,by rw[g];exact c]) ?_;refine EW (gS t) (λq c=>#[0,G,3,oF j,1,T.kq,T.ju,7,j,7,by rw[W.st];exact c]) ?_;refine jG (bV (aG (lU fs t o)) (λq c=>#[0,G,3,j.fm,1,T.kq,T.kt,14,fs,an,t,_,by rw[W.fm],F,tr,g,ŀ,c]) ?_);have wl:=AX (fs:=fs) t o;let X B y Z:=Ü (TN F g tr ō);rcases h with⟨rfl,h⟩ | ⟨rfl,h⟩
 .refine tX (λq c=>#[0,by show q n (decide _);rw[c6 rfl];exact c]) ?_;exact#[0,h ŀ]
 refine lO (λq c=>#[0,by show q n (decide _);rw[c7 cR];exact c]) ?_;have u:=AY F g tr;unfold wL at h B
 generalize C:mT fs t o=L at u wl h X B
 refine jG (bV (eE ((L.map uA).map aG)) (λq c=>?_) ?_)
 .refine BI (ts:=L) (λR h=>#[0,G,3,j.fm,1,T.kq,T.kt,14,fs,an,t,_,by rw[W.fm],F,tr,g,ŀ,by rw[C];exact#[Ϙ,0,h]]) (λx=>aG (uA x)) cT (λx S=>?_) (λa b q J c=>?_) ?_
  .obtain⟨k,n,v,s,rfl,_⟩:=u x S;exact#[31]
  .refine Ò (u _ J) λk n v s e U=>?_;cases e;have p:=λz r=>(nM (U z r)).2.2;exact Â eH eH #[Ϥ,k,n,v,s,1,p k dN,p n dN,p v dN,p s dN,c]
  .rw[bH]at c;exact c
 exact#[", ",145,by rw[aB,aB];show iN L+1<=_;lia,L.map uA++[lU fs t o],by rw[bA];rfl,ŀ,h ŀ]
theorem Oe:Fm P w K mg base rH 18 ŧ.h ["self","words"] (kE K (Ow G A)):=by
 let p nd g n ds Q h:=XS (F:=nE A) T.D_2.F Cb;refine ð h λfs an d m Bo C χ=>Ë χ λt ψ=>ö ds ψ λf ws U W h=>#[Ϙ,_,(cA (lD (yZ qq)
 (dP (jB (Rq HS (kR (Rr iP rF (pF cR (nQ (K:=K) eH qq) (mC (aO (cd (US T) p qq) bT)) (λh i=>iH h T.gb T.M_6 (Oi T) (p.ko cS) T.D_6.d tj jN i)) (mP fS)) vQ) (λh=>rJ rM eH T.b_str DH h))))
 jC)
 (cA (lD (yZ qq)
 (dP (qB (pF cR (nQ (K:=K) eH qq) (mC (aO (cY M9 qq yS T.Ĩ tL) bT)) (λh i=>iH h T.gb T.M_7 (Pk T) (p.ko cS) T.D_7.d tj jN i)) (λh=>eO h)))
 (dP (qB (pF cR (nQ (K:=K) eH qq) (mC (aO (cY M9 qq yS T.Ĩ tL) (aO (cd (US T) p qq) bT))) (λh i=>iH h T.gb T.M_8 (Pl T) (p.ko cS) T.D_8.d tj jN i)) (λh=>eO h))))
 (dP (jB (mP dX))))),2]
 obtain rfl:=hZ U;have b:∀(w:â)(r:List â),y0 ((w::r).map aG) 0=wz (aG w):=λw r=>L2.dU eH;have E:∀(k:Nat)(u:List â),iB (u.map aG) (wz (k:Nat)) wx=(u.drop k).map aG:=λk u=>by rw[jP,tK]
 have ne:∀{x y:â}(q:EO->Bool->Prop),x≠y->q n wv->q n (decide (x=y)):=λq h z=>by rw[c7 h];exact z
 have H:∀{x:â}(q:EO->Bool->Prop),q n ww->q n (decide (x=x)):=λq z=>by rw[c6 rfl];exact z
 have F:=W.rw.F;have few:=W.rw.few;have f61:=W.rw.f61;let tr jq:=Ì W.tr;have d4:=W.d4;have v:v0 ("ok":â)<=90000:=cR
 rcases h with⟨r,a,⟨X,R⟩,rfl,h⟩ | ⟨k,r,o,rfl,h⟩ | ⟨k,r,N,o,a,rfl,h⟩
 .refine tX (λq c=>#[8,b _ _,H q c]) ?_;have J:=K93.nk (k:=f) (j3 cT);have f9:=J.asc.len;exact#[0,G,3,oF g,1,T.kq,T.ju,70,lE r,by show[eE (iB _ (wz 1) wx)]=_;exact d9 (λl=>[eE l]) (E 1 _),by have:=(tH F a).2.1;lia,fs,an,d,m,g,C,f,r,t,1,by rw[zY F a];rfl,F,W.fm,W.dp,W.ls,W.kv,W.rw.ok,66,W.st,tr,6,W.fol,6,(λe S z=>by have:=W.rw.lt e S;lia),a,SW F a,λB j L=>#[0,J.lg,h B j cT]]
 .have s:=W.rw.nk o;refine lO (λq c=>#[8,b _ _,ne q cR c]) ?_;refine tX (λq c=>#[8,b _ _,H q c]) ?_;exact#[0,G,3,oF g,1,T.kq,T.ju,78,L2.dU eH,_,s.int,by have:=s.asc.len;lia,fs,an,d,m,g,C,k,r,t,7,F,W.fm,W.dp,W.ls,W.kv,W.rw.ok,66,W.st,tr,6,o,λB j L=>h B j v]
 .have s:=W.rw.nk o;refine lO (λq c=>#[8,b _ _,ne q cR c]) ?_;refine FJ wv (λq c=>#[8,b _ _,ne q cR c]) (λz=>by cases z) λ_=>?_;exact#[0,G,3,oF g,1,T.kq,T.ju,78,L2.dU eH,_,s.int,by have:=s.asc.len;lia,0,lE N,by show[eE (iB _ (wz 2) wx)]=_;exact d9 (λl=>[eE l]) (E 2 _),by have:=(tH F a).2.1;lia,fs,an,d,m,g,C,k,r,N,t,1,by rw[zY F a];rfl,F,W.fm,W.dp,W.ls,W.kv,W.rw.ok,66,W.st,tr,6,o,a,SW F a,λB j L=>h B j v]
theorem Od:Fm P w K mg base rH 62 ŧ.g ["self","text"] (kE K (Ov G A)):=by
 let j nd c n R Q h:=XS (F:=nE A) T.D_1.F Ca;refine ð h λfs an fa d m N ψ=>ø R ψ λu t f v H s W o h=>#[Ϙ,_,(cA (lB (ss 2 nd (HD qq qq (λh g=>eQ bF vW vU GQ h g))))
 (cA (lD (yZ (rV (tv (cd (Jc T) j qq))))
 (dP (lB mZ))
 jC)
 (cA (lD (yZ (fL rZ RP qq (BX eH T.ľ T.Ń)))
 (dP (jB (BS qq (mC qq) (λh g=>iH h T.kq T.M_3 (Of T) (j.ko cS) T.D_3.d tj jN g))))
 jC)
 (cA (lD (yZ (fL rZ RP qq qq))
 (dP (jB (BS qq (mC (aO qq (aO (cd (Di T) j qq) bT))) (λh g=>iH h T.kq T.M_4 (Og T) (j.ko cS) T.D_4.d tj jN g))))
 jC)
 (dP (jB (BS qq (mC qq) (λh g=>iH h T.kq T.M_2 (Oe T) (j.ko cS) T.D_2.d tj jN g)))))))),2]
 obtain rfl:=hZ H;have b:∀(w:â)(r:List â),y0 ((w::r).map aG) 0=wz (aG w):=λw r=>L2.dU eH;have E:=o.asc.len;refine jG (bV (eE (v.map aG)) (λq a=>#[4,cR,ŀ,by show q (eE ((Txt.split (tx v) eF).map aG));rw[o.split];exact a]) ?_);have i:∀{w:â}{r:List â},v=w::r->∀y∈r,v0 y<=100000:=λe y J=>aR (o.ok y (by rw[e];exact aE _ J)).2.len cS;rcases h with h | ⟨w,rfl,h⟩ | ⟨w,p,rfl,z,h⟩
 .refine Ý (h.dn W.rw) λw r Z n1 L B=>?_;subst Z;refine lO (λq a=>#[0,w,r,1,i eH,by rw[B];exact a]) ?_;refine lO (λq a=>#[8,b _ _,0,by show q n (decide _);rw[c7 n1];exact a]) ?_;refine lO (λq a=>#[8,b _ _,5,["judge","why"],1,by show q n (decide _);rw[c7 L];exact a]) ?_;exact#[0,["form","book"],[c.fm,oF c],1,cR,0,fs,an,d,m,c,u,t,f,01,W,h]
 .have x:qU [w]=ww/\w∈(["tree","rows","rules","steps"]:List â):=by rcases h with⟨rfl,_⟩ | ⟨rfl,_⟩ | ⟨rfl,_⟩ | ⟨rfl,_⟩<;>decide +kernel
  refine lO (λq a=>#[0,w,[],1,i eH,by rw[x.1];exact a]) ?_;refine tX (λq a=>#[8,b _ _,0,by show q n (decide _);rw[c6 x.2];exact a]) ?_;exact#[0,["form","book"],[c.fm,oF c],1,cR,8,b _ _,fs,an,fa,d,m,c,u,t,f,w,7,s,W,h]
 .have hw:=h.imp And.left And.left;have k:w∉(["tree","rows","rules","steps"]:List â)/\w∈(["judge","why"]:List â):=by rcases hw with rfl | rfl<;>decide +kernel
  have C:=o.len;rw[bE]at C;refine lO (λq a=>#[0,w,p.map pP,1,i eH,by rw[U7 hw];exact a]) ?_;refine lO (λq a=>#[8,b _ _,0,by show q n (decide _);rw[c7 k.1];exact a]) ?_;refine tX (λq a=>#[8,b _ _,5,["judge","why"],1,by show q n (decide _);rw[c6 k.2];exact a]) ?_;exact#[0,["form","book"],[c.fm,oF c],1,cR,8,b _ _,0,p.map pP,by show[eE (iB _ (wz 1) wx)]=_;exact d9 (λl=>[eE l]) (tK _ 1),6,fs,an,d,m,c,u,t,f,w,p,1,by rw[ZG (qK W.rw.F z)],W,z,h]
def Kv:Fm P w K mg base (S9 P w) 2 ŧ.r ["self","number"] (mN K (qG G A ŧ.c ŧ.d ŧ.b)):=by
 let f l ag s H E c p e n g m h i:=PK (F:=nE A) T.D_12.F Z5 (λr n g Q h=>ö g h λa j d b h=>by rfl);let a j d b h:=ö g h;have nd:=Z5.nd;refine#[Ϙ,_,(dP (lD (ZJ c.u1 T.gb T.jr qq qq)
 (dP (A1 i T.E_NoSuch.X qq (λh=>BA T.E_NoSuch.R c eH T.x_NoSuch h)))
 jC)),2]
 obtain rfl:e=a:=hZ d;refine QQ ww (λq k=>#[0,j,1012]) (λ_=>?_) λz=>by cases z
 .rw[b];exact k
 .exact#[51,h,λB o hb=>hb]
def Ri:Fm P w K mg base (S9 P w) 17 ŧ.m ["self","number"] (mN K (aGe G A ŧ.c ŧ.d ŧ.b)):=by
 let i m ag s H E c q g n k o h l:=PK T.D_7.F Cf (λr n k Q h=>ö k h λf j e b h=>by rfl);let f j e b h:=ö k h;have nd:=Cf.nd;refine#[Ϙ,_,(cA (D9.or (qB (pF cR qq (mC qq) (λh a=>iH h T.gb T.M_12 (UV T) (c.ko cS) T.D_12.d tj jN a)) (λh=>eO h))
 (uB (sE l cR qq (mC qq) (λh a=>iH h T.gb T.M_12 (Kv T) (c.ko cS) T.D_12.d tj BB a)) (λh=>eO h)))
 (cA (lB mZ)
 (dP (lB mZ)))),2]
 obtain rfl:=hZ e;exact i7 #[#[070,g,j,7,b,h],λB p hb=>hb]
def Ku:Fm P w K mg base (S9 P w) 4 ŧ.q ["self","thing"] (mN K (A6 G A ŧ.c ŧ.d ŧ.b)):=by
 let g o ag s H E a t f n i p h j:=PK T.D_11.F Z6 (λu n i Q h=>ø i h λfs an e d c F b hd y=>Ì y λhw h=>by rfl);refine ø i h λfs an e d c F b hd y=>Ì y λhw h=>?_;have nd:=Z6.nd;refine#[Ϙ,_,(dP (lD (ZI (ZH (xK (UU T) T.Ĝ.m T.Ĝ.k T.Ĝ.d (a.ko cS) (kR (vN T.gb T.ĺ qq) (kR (mP qq) vQ)) (λh=>rE (UU T) (a.ko cS) eH T.Ĝ.m T.Ĝ.k T.Ĝ.d tj jN h)) (λh=>RC h)))
 (dP (A1 j T.ĝ.X qq (λh=>BA T.ĝ.R a eH T.x_NoRow h)))
 jC)),2]
 obtain rfl:=hZ c;refine QQ ww (λq l=>#[01,f,010,fs,an,d,by rw[b],F,hd,2]) (λ_=>?_) λz=>by cases z
 .rw[hw];exact l
 .exact#[51,h,λB r hb=>hb]
theorem Rh:Fm P w K mg base (S9 P w) 17 ŧ.l ["self","row"] (mN K (aGd G A ŧ.c ŧ.d ŧ.b)):=by
 let l p ag s H E c u f n m r h g:=PK (F:=nE A) T.D_6.F Ce (λv n m Q h=>ø m h λfs an k d j F b hd h=>by rfl);let fs an k d j F b hd h:=ø m h;have nd:=Ce.nd;refine#[Ϙ,_,(cA (D9.or (qB (pF cR qq (mC qq) (λh a=>iH h T.gb T.M_11 (UW T) (c.ko cS) T.D_11.d tj jN a)) (λh=>eO h))
 (uB (sE g cR qq (mC qq) (λh a=>iH h T.gb T.M_11 (Ku T) (c.ko cS) T.D_11.d tj BB a)) (λh=>eO h)))
 (cA (lD (pV OM vH (Jz T.gb T.jr qq (pc:=λh=>nL K3 eH T.b_len HV (gT h mJ))) (mP (FE eH T.ē)))
 (dP (A1 g T.ĕ.X qq (λh=>BA T.ĕ.R c eH T.x_TooMany h)))
 jC)
 (cA (lB mZ)
 (cA (lB mZ)
 (cA (lB mZ)
 (dP (lB mZ))))))),2]
 obtain rfl:=hZ j;rcases h with⟨hw,h⟩ | ⟨hw,t,h⟩
 .exact i7 #[#[070,fs,an,f,d,7,F,b,hd,hw,h],λB o hb=>hb]
 .refine j3 #[010,fs,an,f,d,7,F,b,hd,hw,2];dsimp only;refine tX (λq i=>#[012]) ?_
  .have e:decide ((60:Int)<=(iN n.bt:Nat))=true:=c6 cT;rw[<- e]at i;exact i
  .exact#[51,h,λB o hb=>hb]
def Rj:Fm P w K mg base (S9 P w) 17 ŧ.n ["self","number","row"] (mN K (Z1 G A ŧ.c ŧ.d ŧ.b)):=by
 let l q ag s H E b t c n o r h f:=PK T.D_8.F Cg (λu n o Q h=>Ë h λfs z=>ø o z λan k j d i F g hd h=>by rfl);refine Ë h λfs z=>ø o z λan k j d i F g hd h=>?_;have nd:=Cg.nd;refine#[Ϙ,_,(cA (D9.or (qB (pF cR qq (mC qq) (λh a=>iH h T.gb T.M_12 (UV T) (b.ko cS) T.D_12.d tj jN a)) (λh=>eO h))
 (uB (sE f cR qq (mC qq) (λh a=>iH h T.gb T.M_12 (Kv T) (b.ko cS) T.D_12.d tj BB a)) (λh=>eO h)))
 (cA (D9.or (qB (pF cR qq (mC qq) (λh a=>iH h T.gb T.M_11 (UW T) (b.ko cS) T.D_11.d tj jN a)) (λh=>eO h))
 (uB (sE f cR qq (mC qq) (λh a=>iH h T.gb T.M_11 (Ku T) (b.ko cS) T.D_11.d tj BB a)) (λh=>eO h)))
 (cA (lB mZ)
 (cA (lB mZ)
 (dP (lB mZ)))))),2]
 obtain rfl:=hZ i;rcases h with⟨e,h⟩ | ⟨m,e,hw,h⟩
 .exact i7 #[#[070,c,j,7,e,h],λB p hb=>hb]
 .refine j3 #[010,c,j,m,7,e,2];exact i7 #[#[070,fs,an,c,d,7,F,g,hd,hw,h],λB p hb=>hb]
theorem Rf:Fm P w K mg base (S9 P w) 18 ŧ.h ["self","words"] (mN K (Z2 G A ŧ.c ŧ.d ŧ.b)):=by
 let dm Ar ag s H E t ps e n ds ED h R:=PK T.D_2.F Cb (λτ n ds Q h=>Ç h λfs an χ=>ø ds χ λBo ks ws b ht F p i ψ=>í ψ λS X h=>by rfl);refine Ç h λfs an χ=>ø ds χ λBo ks ws b ht F p i ψ=>í ψ λS X h=>?_;have nd:=Cb.nd;refine#[Ϙ,_,(cA (lD (yZ qq)
 (dP (LP (aOe (aOd (sE R cR (nQ (K:=K) eH qq) (mC (aO (cd (US T) t qq) bT)) (λh f=>iH h T.gb T.M_6 (Rh T) (t.ko cS) T.D_6.d tj BB f)) AC) (λh=>rJ rM eH T.b_str DH h))))
 jC)
 (cA (lD (yZ qq)
 (dP (uB (sE R cR (nQ (K:=K) eH qq) (mC (aO (cY M9 qq yS T.Ĩ tL) bT)) (λh f=>iH h T.gb T.M_7 (Ri T) (t.ko cS) T.D_7.d tj BB f)) (λh=>eO h)))
 (dP (uB (sE R cR (nQ (K:=K) eH qq) (mC (aO (cY M9 qq yS T.Ĩ tL) (aO (cd (US T) t qq) bT))) (λh f=>iH h T.gb T.M_8 (Rj T) (t.ko cS) T.D_8.d tj BB f)) (λh=>eO h))))
 (dP (lB mZ)))),2]
 obtain rfl:=hZ ht;have a:∀(w:â)(r:List â),y0 ((w::r).map aG) 0=wz (aG w):=λw r=>L2.dU eH;have C:∀(k:Nat)(u:List â),iB (u.map aG) (wz (k:Nat)) wx=(u.drop k).map aG:=λk u=>by rw[jP,tK]
 have ne:∀{x y:â}(q:EO->Bool->Prop),x≠y->q n wv->q n (decide (x=y)):=λq h z=>by rw[c7 h];exact z
 have L:∀{x:â}(q:EO->Bool->Prop),q n ww->q n (decide (x=x)):=λq z=>by rw[c6 rfl];exact z
 have W:=S.len;have f:=λy m=>(S.ok y m).2;obtain⟨nk,fol,st⟩:=n;obtain rfl:=i;rcases X with⟨v,rfl,U,rfl⟩ | ⟨r,g,N,rfl,rfl⟩ | ⟨k,v,r,i,o,rfl,U,rfl⟩ | ⟨k,v,i,o,rfl | rfl,rfl⟩
 .refine tX (λq c=>#[8,a _ _,L q c]) ?_;rw[bE]at W;exact#[#[0,G,3,oF e,1,T.kq,T.ju,170,v,by show[eE (iB _ (wz 1) wx)]=_;exact d9 (λl=>[eE l]) (C 1 _),6,fs,an,e,01,F,p,M3 λy m=>f y (aE _ m),j3 #[U,h]],λB J hb=>hb]
 .refine tX (λq c=>#[8,a _ _,L q c]) ?_;exact#[#[0,G,3,oF e,1,T.kq,T.ju,170,lE r,by show[eE (iB _ (wz 1) wx)]=_;exact d9 (λl=>[eE l]) (C 1 _),by have:=(tH F g).2.1;lia,fs,an,e,cV r,1,by rw[zY F g];rfl,F,p,aOn F g,i7 #[G5 g,by show(jT ks).length=60;unfold jT;rw[aB];exact N,h]],λB J hb=>hb]
 .refine lO (λq c=>#[8,a _ _,ne q cR c]) ?_;refine FJ wv (λq c=>#[8,a _ _,ne q cR c]) (λz=>by cases z) λ_=>?_;rw[bE,bE]at W;exact#[#[0,G,3,oF e,1,T.kq,T.ju,178,L2.dU (j:=1) eH,_,o.int,by have:=o.asc.len;lia,0,v,by show[eE (iB _ (wz 2) wx)]=_;exact d9 (λl=>[eE l]) (C 2 _),6,fs,an,e,37,F,p,M3 λy m=>f y (aE _ (aE _ m)),i7 #[ϙ,_,nX i,U,h]],λB J hb=>hb]
 .refine lO (λq c=>#[8,a _ _,ne q cR c]) ?_;refine tX (λq c=>#[8,a _ _,L q c]) ?_;exact#[#[0,G,3,oF e,1,T.kq,T.ju,178,L2.dU eH,_,o.int,by have:=o.asc.len;lia,e,01,KI i,h],λB J hb=>hb]
 .refine lO (λq c=>#[8,a _ _,ne q cR c]) ?_;refine FJ wv (λq c=>#[8,a _ _,ne q cR c]) (λz=>by cases z) λ_=>?_;rw[bE,bE]at W;exact#[#[0,G,3,oF e,1,T.kq,T.ju,178,L2.dU (j:=1) eH,_,o.int,by have:=o.asc.len;lia,0,v,by show[eE (iB _ (wz 2) wx)]=_;exact d9 (λl=>[eE l]) (C 2 _),6,fs,an,e,37,F,p,M3 λy m=>f y (aE _ (aE _ m)),j3 #[KI i,h]],λB J hb=>hb]
def Rg:Fm P w K mg base (S9 P w) 33 ŧ.j ["self","word","case"] (mN K (CQ G A ŧ.c ŧ.d ŧ.b)):=by
 let i m ag s H E e r c n j o h k:=PK (F:=nE A) T.D_4.F Cc (λt n j Q h=>Ë h λfs x=>ø j x λan b w g f F d hw y=>Ì y λa h=>by rfl);refine Ë h λfs x=>ø j x λan b w g f F d hw y=>Ì y λa h=>?_;have nd:=Cc.nd;refine#[Ϙ,_,(cA (lD (yZ (rV (tv (cd (C0 T) e (aO (nQ (K:=K) eH qq) qq)))))
 (dP (A1 k T.ĝ.X qq (λh=>BA T.ĝ.R e eH T.x_NoRow h)))
 jC)
 (cA (lB mZ)
 (cA (lB mZ)
 (cA (lB mZ)
 (cA (lB mZ)
 (dP (lB mZ))))))),2]
 obtain rfl:c=b:=hZ f;refine QQ ww (λq l=>#[0,G,3,c.fm,1,T.kq,T.kt,10,fs,an,_,by rw[d],F,P0 hw,2]) (λ_=>?_) λz=>by cases z
 .show q n (!fY fs (cN (g.map FN)));unfold D7 at a;rw[a];exact l
 .exact#[51,h,λB p hb=>hb]
def Re:Fm P w K mg base (S9 P w) 62 ŧ.g ["self","text"] (mN K (aGc G A ŧ.c ŧ.d ŧ.b)):=by
 let N Ar ag s H E o ps g n R ED h x:=PK T.D_1.F Ca (λτ n R Q h=>Ç h λfs an χ=>ø R χ λL J p b C F t z ψ=>í ψ λf i h=>by rfl);refine Ç h λfs an χ=>ø R χ λL J p b C F t z ψ=>í ψ λf i h=>?_;have nd:=Ca.nd;refine#[Ϙ,_,(cA (lB (ss 2 nd (HD qq qq (λh j=>eQ bF vW vU GQ h j))))
 (cA (lD (yZ (rV (tv (cd (Jc T) o qq))))
 (dP (lB mZ))
 jC)
 (cA (lD (yZ (fL rZ RP qq (BX eH T.ľ T.Ń)))
 (dP (lB mZ))
 jC)
 (cA (lD (yZ (fL rZ RP qq qq))
 (dP (LP (KQ x qq (mC (aO qq (aO (cd (Di T) o qq) bT))) (λh j=>iH h T.kq T.M_4 (Rg T) (o.ko cS) T.D_4.d tj BB j))))
 jC)
 (dP (LP (KQ x qq (mC qq) (λh j=>iH h T.kq T.M_2 (Rf T) (o.ko cS) T.D_2.d tj BB j)))))))),2]
 obtain rfl:=hZ C;have c:∀(w:â)(r:List â),y0 ((w::r).map aG) 0=wz (aG w):=λw r=>L2.dU eH;have X:=f.asc.len;refine jG (bV (eE (p.map aG)) (λq a=>#[4,cR,ŀ,by show q (eE ((Txt.split (tx p) eF).map aG));rw[f.split];exact a]) ?_);have k:∀{w:â}{r:List â},p=w::r->∀y∈r,v0 y<=100000:=λe y u=>aR (f.ok y (by rw[e];exact aE _ u)).2.len cS;rcases i with i | ⟨w,v,hw,rfl,S,rfl⟩
 .refine Ý i.dn λw r Z n1 n2 U=>?_;subst Z;refine lO (λq a=>#[0,w,r,1,k eH,by rw[U];exact a]) ?_;refine lO (λq a=>#[8,c _ _,0,by show q n (decide _);rw[c7 n1];exact a]) ?_;refine lO (λq a=>#[8,c _ _,5,["judge","why"],1,by show q n (decide _);rw[c7 n2];exact a]) ?_;exact#[#[01,["form","book"],[g.fm,oF g],1,cR,0,fs,an,g,J,_,b,7,F,t,z,f,i,h],λB p0 hb=>hb]
 .have m:w∉(["tree","rows","rules","steps"]:List â)/\w∈(["judge","why"]:List â):=by rcases hw with rfl | rfl<;>decide +kernel
  have W:=f.len;rw[bE]at W;refine lO (λq a=>#[0,w,v,1,k eH,by rw[U7 hw];exact a]) ?_;refine lO (λq a=>#[8,c _ _,0,by show q n (decide _);rw[c7 m.1];exact a]) ?_;refine tX (λq a=>#[8,c _ _,5,["judge","why"],1,by show q n (decide _);rw[c6 m.2];exact a]) ?_;exact#[#[01,["form","book"],[g.fm,oF g],1,cR,8,c _ _,0,v,by show[eE (iB _ (wz 1) wx)]=_;exact d9 (λl=>[eE l]) (tK _ 1),6,fs,an,g,w,v,7,F,t,λy u=>(f.ok y (aE _ u)).2,S,h],λB p0 hb=>hb]
theorem sC:Fj P w base T.D_94 63 (kE K (Zq G A)):=by
 let e nd a n y Q h:=XS (F:=nE A) T.D_94.F Wo;refine ð h λfs an fa d m s ψ=>ø y ψ λp t f l v k W o h=>#[Ϙ,_,(cA (lB qq)
 (cA (D9.or (aFn (dP (wO (i:=2) (BS qq (mC qq) (λh g=>iH h T.kq T.M_1 (Od T) (e.ko cS) T.D_1.d tj jN g)) (λh=>pB h (pn 2 nd)))) (λh=>aGv RB h)) (by refine' aFo (Wd:=λc=>pI K c (g8 ŧ.a)=wz ww) (i:=3) (WQ qq (mC qq) (λh g=>aMp (aGs RB h T.kq T.M_1 (Re T) (e.ko cS) T.D_1.d g))) (λB=>?hb) (λr b=>aGw (pre:=[]) RB eH eH nd eH eH (j3 eH) eH T.x_JudgeError (λ_ h=>h) r b);(case hb=>(refine' (dP (lB (ss 2 nd (HE (aO (show eX _ _ (Ad K (g8 ŧ.d) (zC 3))from ?z2) (aO (show eX _ _ (Ad K (g8 ŧ.c) (zC 3))from ?z1) (aO (show eX _ _ (Ad K (g8 ŧ.e) (zC 3))from ?z0) bT)))))));(case z0=>exact(SO (c:=g8 ŧ.e) (cv:=.ref ŧ.e) qq (λh=>nL (HQ λ_ z=>z) eH T.ń qC (gT h (gT (yH eH T.x_NoLine eH) mJ)))));(case z1=>exact(SO (c:=g8 ŧ.c) (cv:=.ref ŧ.c) qq (λh=>nL (HQ λ_ z=>z) eH T.ń qC (gT h (gT (yH eH T.x_NoRow eH) mJ)))));(case z2=>exact(SO (c:=g8 ŧ.d) (cv:=.ref ŧ.d) qq (λh=>nL (HQ λ_ z=>z) eH T.ń qC (gT h (gT (yH eH T.x_NoSuch eH) mJ)))))))))
 (dP (jB (mP qq))))),2]
 obtain rfl:a=s:=hZ v;show AS _ _ _ _ _ [.val (NV G a),.val (aG (tx l)),.un,.un];refine jG (bV (aG "") (λq u=>u) ?_);rcases h with⟨b,e,h⟩ | h
 .refine i7 #[0,["form","book"],[a.fm,oF a],1,cR,0,fs,an,a,p,l,b,7,W.rw.F,W.fm,W.kv,o,e,#[Ϙ,02],2]
  .rcases b with _ | _ | _
   .exact T.ĕ.j
   .exact T.E_NoSuch.j
   .exact T.ĝ.j
  .rcases b with _ | _ | _
   .exact#[0,ŧ.b,ES,wv,1,T.Ě,0,ŧ.b,ES,wv,1,T.q_TooMany_NoRow,0,ŧ.b,ES,wv,1,T.ę,50,h]
   .exact#[0,ŧ.d,ES,ww,1,O7,0,ŧ.d,ES,wv,1,T.q_NoSuch_NoRow,0,ŧ.d,ES,wv,1,T.q_NoSuch_NoLine,50,h]
   .exact#[0,ŧ.c,ES,wv,1,T.q_NoRow_NoSuch,0,ŧ.c,ES,ww,1,O7,0,ŧ.c,ES,wv,1,T.q_NoRow_NoLine,50,h]
 .exact j3 #[0,["form","book"],[a.fm,oF a],1,cR,0,fs,an,fa,d,m,a,p,t,f,l,7,k,W,o,h.ko λC z h x=>#[0,h x]]
theorem So:Ft P w base T.D_93 60 Zp:=by
 let l nd ds Q h:=nD T.D_93.F Wn;refine Ô h λfs an fa χ=>ò ds χ λt o p f E a w H ψ=>Ì ψ λhd h=>#[Ϙ,_,(aP (so 3 nd bT)
 (aP (sf (eD (wC (cF (Hl T) l (aO qq (aO qq (aO (el (fr:=[wx,wz 2]) (N':=["_law_number","_law_rows"]) (eD (BU qq (pc:=λh=>nL (vP eH) eH T.ĭ uQ h))) (λb=>#[(cW (pk 0)),fZ,(yP l.u1 (eP 1) (eP 0))])) bT)))))) (lM (mI eH (dI (pn 4 nd) (dI (pn 5 nd) kC))))
 (bQ (nK (i:=3) (pv 3) (fF dD iY qq (cY HS (aO (cd (Sn T) l qq) bT) rM T.b_str DH)) (pb:=λh=>eO (eQ bW cJ cI gW (pv 3) h)))))
 (lP 3 (bQ (dB (gE dX qq (λh W=>eQ bF bO bN gD h W))))))),2]
 have F:=w.F;have few:=w.few;have C:eV fs an (p.map (·.2)):=w.ok
 have kn:t.kn<=7:=by
  have:=t.Ł;have:2^t.jq<=2^3:=dR cS hd;lia
 show jH _ _ _ [.val (dQ fs an),.val (gS t),.val (CH (jT o)),.un,.un,.un];let r s2:=Ì (JU a H C cT cT (by rw[aB];lia));unfold FW at h
 generalize k:zV fs fa t (p.map (·.2))=ST at r s2 h
 refine lL [] dO (λq c=>c) ?_
 refine jM (ts:=ST.map lS) (λR h=>#[4,U8 eH E w.ris few (λe=>cV e.2) (λe X q c=>#[4,jT o,(e.1:Nat),cV e.2,7,nX (MW E w.ris X),c]) #[fs,an,fa,t,p.map (·.2),by rw[bH];rfl,F,a,H,66,C,by rw[aB];lia,0,by rw[k];exact h]])
  (λi σ=>∃s u:Sl,σ=[.val (dQ fs an),.val (gS t),.val (CH (jT o)),.own (((ST.take i).map vY).map aG),s,u]) #[31] (λi x y J j=>?_) λy j=>?_
 .refine û y j λs u=>?_;rw[aK]at J;let z g Z:=Ê (cM.mp J);subst Z;have m:=aU g;let z1 z2 v z4:=Ü (r z m);have hl:=CP z1 z2 v;have S:ST.take (i+1)=ST.take i++[z]:=by rw[cE,g];rfl
  refine#[Ϛ,312];refine nW (ts:=((ST.take i).map vY).map aG) (aG (vY z)) eH (by rw[aB,aB,bB];lia) (λq c=>?_) #[3,by rw[S,bA,bA];rfl];refine Ì (pD z.1.1 cT) λa1 a2=>Ì (pD z.1.2 cT) λb1 L=>Ì (pD z.2.kn cT) λc1 N=>?_;have d:v0 ("/":â)=1:=cR
  have B:v0 (" ":â)=1:=cR
  refine#[4,a2,by show(iZ _).length+_<=_;rw[d];lia,4,L,by show(iZ _++_).length+v0 (iZ _)<=_;rw[fM,d];lia,2];exact#[by show(iZ _++_++iZ _).length+_<=_;rw[fM,fM,d,B];lia,0,z.2,166,N,by show(iZ _++_++iZ _++_).length+v0 (iZ _)<=_;rw[fM,fM,fM,d,B];lia,c]
 .refine û y j λs u=>?_;rw[aB,cK]
  have U:=jR (n:=20) (ws:=ST.map vY) λw hw=>É w (aM.mp hw) λz g=>Ü (r z g) λz1 z2 v _=>CP z1 z2 v
  have e:v0 (", ":â)=2:=cR
  rw[aB]at U;exact#[0,", ",14,by rw[e,aB];lia,h]
theorem Sr:Ft P w base T.D_96 61 aP8:=by
 let l nd ds Q h:=nD T.D_96.F Wq;refine ð h λfs an fa t N C χ=>ù ds χ λf bs c J hp w ψ=>Ó ψ λp hd hb o h=>#[Ϙ,_,(aP (nI (i:=5) (fr:=[wx]) (N':=["_law_value_here"]) (eD qq) (λb=>#[(cW (pk 0)),fZ,(cd (Do T) l (aO (eP 0) bT))]) (λhi hY=>kZ (show pO _ (aQ (top 111)) ["_law_form_here","_law_tree","_law_rows","_law_more","_law_case_here","_law_words_here","_law_way","_law_bad","_law_told"] ["_law_value_here"] [wx]=ww from cR) nd eH À eH hi hY eH))
 (aP qq
 (aP (fN (DR (QW qq (LO (fL (GH l) OQ qq qq))))
 (aP qq
 (bQ (dB (iU (aO (gE dX qq (λh j=>eQ bF bO bN gD h j)) qq)))))
 eK)
 (aP (fN qq
 (bQ (dB (iU (aO dX (aO (gE dX (aO (cd (Dm T) l qq) bT) (λh j=>eQ bF bO bN gD h j)) bT)))))
 eK)
 (aP (fN qq
 (bQ (dB (iU (aO dX (aO (cd (UQ T) l qq) bT)))))
 eK)
 (aP (fN qq
 (aP (ss 8 nd (cd (Jl T) l qq))
 (bQ (dB (iU (aO (gE dX qq (λh j=>eQ bF bO bN gD h j)) (aO (nO iP rF (HD qq qq (λh j=>eQ bF vW vU GQ h j)) qq) bT))))))
 eK)
 (aP (fN qq
 (bQ (dB (iU (aO (gE dX qq (λh j=>eQ bF bO bN gD h j)) (aO (cd (Jl T) l qq) bT)))))
 eK)
 (aP (fN qq
 (bQ (dB (iU (aO dX (aO (cd (Sm T) l qq) bT)))))
 eK)
 (bQ (dB (iU (aO dX (aO (cd (So T) l qq) bT))))))))))))),2]
 have F:=w.F;have X:∀ws z,YB fs fa t C ws z->Wd ws->Q (cN [aG (tx ws),aG z]):=λws z a=>h ws _ (i7 #[Ϙ,z,a,1]);have n1:=F.n1;refine í (B5 F o) λuw S u3=>Õ (jL hb (i:=12) cS cS) λE g0 g1 y=>Õ (jL hb (i:=13) cS cS) λe p0 p1 k=>?_;show jH _ _ _ [.val (dQ fs an),.val (gS t),.val (CH (jT N)),.val (eE (bs.map aW)),.val (cN c),.un,.un,.un,.un];refine bV (eE ((c.map pP).map aG)) (λq d=>?_) ?_
 .refine jI (ts:=c) (λR h=>#[4,h]) (λx=>aG (pP x)) (by rw[aB]at S;lia) (λx q g d=>#[0,x,1,qK F o x g,d]) (by rw[bH]at d;exact d)
 refine bV (aW (e%6)) (λq d=>#[8,k,(show(0:Int)<6 by decide),d]) ?_;dsimp only[fQ];have w0:0<=e%6/\e%6<6:=by grind
 generalize e%6=wy at w0
 refine gF (λb=>b=ww->wy=2\/wy=3) (λq d=>?_) (λhT=>?_) λ_=>?_
 .refine#[8,k,#[99],(show(0:Int)<4 by decide),2];show(if decide (e / 6%4=0)=ww then _ else q wv);by_cases z:e / 6%4=0
  .rw[c6 z,b8 rfl];refine#[05,aDh #[7,aR (oM _ _) dO] (d _ λhb=>?_)];have hb:(decide ((2:Int)=wy)||(decide ((3:Int)=wy)||false))=true:=hb;simp at hb;lia
  .rw[c7 z,a9 cS];exact d _ λz=>by cases z
 .have ct:iB ((c.map pP).map aG) wx (wz (-1))=((c.map pP).dropLast).map aG:=by
   rw[jP];have ne:c.map pP≠[]:=λz=>by rw[z]at S;simp at S;lia
   rw[<- IJ ne,HL,List.dropLast_concat]
  have U:iB ((c.map pP).map aG) (wz 1) wx=((c.map pP).drop 1).map aG:=by rw[jP];congr 1;exact tK (c.map pP) 1
  have bd:=aIy F o;let x hm g Z:=Õ (xP (xs:=(zb (c.map pP)).map λL=>eE (L.map aG)) (i:=E%5) (eB _ cS) (dL _ cS));let v hv Y:=Ê (aM.mp hm);subst Y;let v1 v2 v3:=í (bd v hv);have n3:=u3
  generalize hu:c.map pP=u at *
  have ex:(zb u).map (λL=>eE (L.map aG))=[eE (iB (u.map aG) (wz 1) wx),eE (u.map aG++[aG "-"]),eE ([aG "Zz"]++iB (u.map aG) (wz 1) wx),eE (iB (u.map aG) wx (wz (-1))++[aG ""]),eE []]:=by
   rw[ct,U];unfold zb;simp only[aX,iD,bA,kU,rR]
  rw[ex]at g;have lu:iN (u.map aG)=iN u:=aB ..;refine bV (eE (v.map aG)) (λq d=>?_) ?_
  .refine#[45,by rw[lu];show _+1<=_;lia,50,by rw[U,aB,dA];show 1+_<=_;grind,05,by rw[ct,aB,List.length_dropLast];show _+1<=_;grind,558,y,(show(0:Int)<5 by decide),_,g,d]
  .have ő:∀w:â,(w="judge"\/w="why")->Q (cN [aG (tx (w::v)),AA (wz ww)]):=λw hw=>h _ _ (j3 #[Ϙ,_,i7 #[Ϝ,w,v,hw,1,v1,1],1]) (Wd.of (by rcases hw with rfl | rfl<;>simp) v2 v3);have B:v0 eF=1:=cR
   have jl:∀w:â,(w="judge"\/w="why")->Ċ ((w::v).map (·.length))+iN (w::v)*v0 eF<=1000:=λw hw=>by
    have s:=jR (n:=9) (ws:=w::v) λx g=>((Wd.of (w:=w) (by rcases hw with rfl | rfl<;>simp) v2 v3).ok x g).2.len;rw[B];rw[bE]at s |-
    lia
   rcases hT rfl with rfl | rfl
   .refine#[eF,155504,by rw[aB];show 1+_<=_;lia,("judge":â)::v,1,aR (jl _ (j3 eH)) dO,55,ő _ (j3 eH)]
   .refine#[eF,155504,by rw[aB];show 1+_<=_;lia,("why":â)::v,1,aR (jl _ (i7 eH)) dO,55,ő _ (i7 eH)]
 .unfold nA;dsimp only;have B:v0 eF=1:=cR
  have r:∀{w z:â},(w="judge"/\z=lU fs t c\/w="why"/\z=wL fs t c)->Q (cN [aG (tx (w::c.map pP)),aG z])/\Ċ ((w::c.map pP).map (·.length))+iN (w::c.map pP)*v0 eF<=1000:=λ{w z} h=>by
   have W:=Wd.of (w:=w) (ws:=c.map pP) (by rcases h with⟨rfl,_⟩ | ⟨rfl,_⟩<;>simp) cT λx g=>(uw x g).1;refine#[X _ _ (i7 (i7 (i7 (i7 #[ϛ,w,c,o,1,h])))) W,2];have s:=jR (n:=9) (ws:=w::c.map pP) λx g=>(W.ok x g).2.len;rw[B];rw[bE]at s |-
   lia
  let Z xz vq sp:=Ü (TN F o p ō);have one:∀{w z:â},YB fs fa t C [w] z->w∈(["put","out","turn","judge","why","tree","rows","rules","steps"]:List â)->Q (cN [aG (tx [w]),aG z]):=λh m=>X _ _ h (CM m);refine gF (λb=>b=decide (wy=0)) (λq d=>#[0,d _ eH]) (λ_=>?_) λh0=>?_
  .have kn:t.kn<=7:=by
    have:=t.Ł;have:2^t.jq<=2^3:=dR cS hd;lia
   have s:=jR (n:=8) (ws:=gI t) λx g=>(nM (nV F t p x g)).2.2;have wl:=pU t;exact#[eF,10,fs,an,t,1,F,p,6,ŀ,gI t,1,by rw[B];lia,5,one (w:="tree") (j3 #[7]) dN]
  dsimp only;refine gF (λb=>b=decide (wy=1)) (λq d=>#[0,d _ eH]) (λ_=>?_) λh1=>?_
  .exact#[0,fs,an,N,C,f,1,hp,w,5,one (w:="rows") (i7 (j3 #[7])) dN]
  dsimp only;refine gF (λb=>b=decide (wy=2)) (λq d=>#[0,d _ eH]) (λ_=>?_) λh2=>?_
  .refine bV (aG (wL fs t c)) (λq d=>Ã eH eH eH #[Ϥ,fs,an,t,c,1,F,p,o,ō,d]) ?_;refine Ì (r (j3 #[7])) λc1 H=>#[eF,150,by rw[aB];show 1+_<=_;lia,("judge":â)::c.map pP,1,aR H dO,4,cR,ŀ,2];rw[sp];exact#[_,P5 (x:=aG (lU fs t c)) dN,5,c1]
  dsimp only;refine gF (λb=>b=decide (wy=3)) (λq d=>#[0,d _ eH]) (λ_=>?_) λh3=>?_
  .exact Ì (r (i7 #[7])) λc1 H=>#[eF,150,by rw[aB];show 1+_<=_;lia,("why":â)::c.map pP,1,aR H dO,04,fs,an,t,c,1,F,p,o,ō,5,c1]
  dsimp only;refine gF (λb=>b=decide (wy=4)) (λq d=>#[0,d _ eH]) (λ_=>?_) λh4=>?_
  .exact Â eH eH #[fs,an,t,1,F,p,ō,5,one (w:="rules") (i7 (i7 (j3 #[7]))) dN]
  dsimp only;exact Ã eH eH eH #[fs,an,fa,t,N,C,f,1,hp,J,w,p,hd,5,one (w:="steps") (i7 (i7 (i7 (j3 #[7])))) dN]
theorem Sq:Ft P w base T.D_95 3 aP9:=by
 let H nd ds Q h:=nD T.D_95.F Wp;obtain⟨fs,an,c,ks,f,bs,r,rfl,o,w,wa,hb,j,h⟩:=h;refine#[Ϙ,_,(aP (ss 4 nd (cd (UR T) H qq))
 (aP qq
 (aP qq
 (aP qq
 (aP (ZZ (i:=7) qq (pc:=λh=>CZ (i:=7) nd eH À (rJ SX eH T.b_dict aIu h)))
 (aP (fN qq
 (aP (fN qq
 (uC 7 (bQ (dB (iU (aO (gE dX qq (λh u=>eQ bF bO bN gD h u)) qq)))))
 eK)
 (aP (A5 (i:=7) H.u1 (pv 7) qq qq)
 (uC 7 (bQ (dB (iU (aO (gE dX qq (λh u=>eQ bF bO bN gD h u)) qq)))))))
 eK)
 (aP qq
 (aP (ss 9 nd (gE dX (aO (fF dD iY qq (aIc qq qq)) bT) (λh u=>eQ bF bO bN gD h u)))
 (aP (fN (aFj H.u1 qq qq)
 (uC 7 qq)
 eK)
 (aP (fN (DR (QW qq (LO qq)))
 (uC 7 qq)
 eK)
 (aP (N7 (i:=7) (pv 7) qq (pc:=λh u=>eO (eQ lX pQ wI MG h u)))
 (aP (fN qq
 (bQ (A5 (i:=7) H.u1 (pv 7) qq qq))
 eK)
 (uC 7 qq))))))))))))),2]
 have F:=w.F;have few:=w.few;have C:iN (jT c)<=60:=by unfold jT;rw[aB,o.length_eq];exact few
 have E:=F8 w.ris;let b9 Z Y qy:=Õ (jL hb (i:=9) cS cS);let qe Z Y X:=Õ (jL hb (i:=10) cS cS);let p Z Y mo:=Õ (jL hb (i:=11) cS cS);let t Z Y mq:=Õ (jL hb (i:=12) cS cS);let nv R xu:=í (tH F j);show jH _ _ _ [.val (CH (jT c)),.val (aW (f:Nat)),.val (eE (bs.map aW)),.val (cV r),.un,.un,.un,.un,.un,.un];refine bV (eE ((lE r).map aG)) (λq a=>#[0,fs,an,r,1,F,j,a]) ?_;refine bV (QM (decide (b9%9=0))) (λq a=>#[8,qy,(show(0:Int)<9 by decide),a]) ?_;dsimp only[fQ]
 generalize decide (b9%9=0)=bad
 refine UB (λb=>b=bad) (λσ=>∃v:List â,(v=lE r/\bad=wv\/Q7 fs an v=wv/\bad=ww)/\iN v<=5/\(∀x∈v,32∉aO6 x.cps/\DL 9 x)/\σ=[.val (CH (jT c)),.val (aW (f:Nat)),.val (eE (bs.map aW)),.val (cV r),.val (eE (v.map aG)),.val (QM bad),.un,.un,.un,.un]) (λq a=>#[0,a _ eH]) (λd DT hD=>?_) (λB=>#[lE r,j3 #[1,B.symm],ō,nv,1]) ?_
 .refine Õ (xP (xs:=(OC (r.1.map pP) r.2).map λL=>eE (L.map aG)) (i:=qe%5) (eB _ cS) (dL _ cS)) λx hm hx _=>?_;obtain⟨v,S,rfl⟩:=aM.mp hm;let v1 v2 v3:=í (aGp F j v S);have ct:iB ((lE r).map aG) wx (wz (-1))=(r.1.map pP).map aG:=by rw[jP,lE,HL]
  have c3:iB ((lE r).map aG) (wz 1) wx=((lE r).drop 1).map aG:=by rw[jP];congr 1;exact tK (lE r) 1
  have ex:(OC (r.1.map pP) r.2).map (λL=>eE (L.map aG))=[eE (iB ((lE r).map aG) (wz 1) wx),eE ((lE r).map aG++[aG "a"]),eE (iB ((lE r).map aG) wx (wz (-1))++[aG "Zz"]),eE ([aG "Zz"]++iB ((lE r).map aG) (wz 1) wx),eE []]:=by
   rw[ct,c3];unfold OC lE;simp only[aX,iD,bA,kU,rR]
  rw[ex]at hx;have lu:iN ((lE r).map aG)<=4:=by rw[aB];exact R
  refine mK (eE (v.map aG)) (λq a=>?_) (hD _ #[v,i7 #[v1,d.symm],v2,v3,1]);refine#[45,by show _+1<=_;lia,05,by rw[ct,aB];unfold lE at R;rw[aV]at R;show _+1<=_;exact ŀ,50,by rw[c3,aB,dA];show 1+_<=_;omega,558,X,(show(0:Int)<5 by decide),_,hx,a]
 rintro _ ⟨v,S,l5,ph,rfl⟩;refine bV (aW (p%5)) (λq a=>#[8,mo,(show(0:Int)<5 by decide),a]) ?_;dsimp only[fQ];have w0:0<=p%5/\p%5<5:=by grind
 generalize p%5=wy at w0
 refine(show jH (Lp _ _) _ _ _ from#[(show 7<10 by decide),Gq eH,0,jT c,12]);dsimp only[fQ];have e1:v0 eF=1:=cR
 have sz:∀{ws:List â},Wd ws->Ċ (ws.map (·.length))+iN ws*v0 eF<=1000:=λ{ws} W=>by
  have s:=jR (n:=9) (ws:=ws) λx hx=>(W.ok x hx).2.len;have:=W.len;rw[e1];lia
 have W1:Wd (("put":â)::v):=.of dN ŀ ph;refine gF (λb=>b=decide (wy<3)) (λq a=>#[0,a _ eH]) (λ_=>?_) λh3=>?_
 .refine gF (λb=>b=bad) (λq a=>#[0,a _ eH]) (λd=>?_) λB=>?_
  .have J:=(S.resolve_left λz=>by rw[z.2]at d;cases d).1;exact#[jT c,1,eF,150,by rw[aB];show 1+_<=_;lia,("put":â)::v,1,aR (sz W1) dO,505,h _ _ _ _ _ (j3 #[ww,j3 (j3 #[ϙ,v,1,J,1]),17]) W1 o]
  .obtain rfl:=(S.resolve_right λz=>by rw[z.2]at B;cases B).1
   try unfold nA
   dsimp only;refine(show jH (JX _ _ _) _ _ _ from#[jT c,14,(f:Nat),1,ŀ,2]);dsimp only[fQ];rw[xA λe he=>cO (w.lt e (o.mem_iff.mp he))];exact#[0,eF,150,by rw[aB];show 1+_<=_;lia,("put":â)::lE r,1,aR (sz W1) dO,0,(nk (k:=f) (j3 cT)).lg,05,h _ _ _ _ _ (i7 #[Ϙ,_,j3 #[r,j,77],1]) W1 (o.append_right _)]
 try unfold nA
 dsimp only
 obtain⟨k,hk,uv⟩:∃k:Nat,t%((f:Nat)+2:Int)=k/\k<61:=by
  have h0:=eB t (show((f:Nat)+2:Int)≠0 by lia);have h1:=dL t (show(0:Int)<((f:Nat)+2:Int) by lia);exact#[Ϙ,Ă (t%((f:Nat)+2:Int)),66]
 have l:=nk (k:=k) (j3 uv);refine bV (aW (k:Nat)) (λq a=>#[8,mq,0,(show(0:Int)<(f:Nat)+2 by lia),by rw[hk];exact a]) ?_;have qp:wy=3\/wy=4:=by have:=e7 h3.symm;lia
 obtain⟨hd,y,d,u,H⟩:∃(hd:â)(y:List â),(wy=3/\hd="out"/\y=[]\/wy=4/\hd="turn"/\y=v)/\L2.y0 [eE [aG "out"],eE [aG "turn"]] (wy-3)=wz (eE [aG hd])/\(dW (Ă (wy-3)) (v.map aG)).flatten=y.map aG:=by
  rcases qp with rfl | rfl
  .exact#[ϛ,3,j3 #[17],7]
  .exact#[ϛ,3,i7 #[17],1,cG _]
 have lr:iN y<=5:=by
  rcases d with⟨_,_,rfl⟩ | ⟨_,_,rfl⟩
  .exact bZ _
  .exact l5
 have U:Wd (hd::iZ (k:Nat)::y):=.of (by rcases d with⟨_,rfl,_⟩ | ⟨_,rfl,_⟩<;>simp) (by rw[bE];lia) λx hx=>by
  rcases aN.mp hx with rfl | hx
  .exact#[l.bl,l.asc]
  .rcases d with⟨_,_,rfl⟩ | ⟨_,_,rfl⟩
   .cases hx
   .exact ph x hx
 refine bV (aG (tx (hd::iZ (k:Nat)::y))) (λq a=>?_) ?_
 .exact#[eF,15558,u,0,l.lg,554,by rw[aB];exact ŀ,0,wy-3,166,by rw[H,aB];show 2+_<=_;lia,hd::iZ (k:Nat)::y,by rw[H];rfl,aR (sz U) dO,a]
 dsimp only[fQ];have m:∀{r:Rw},qI k ks=wz r->qJ (jT c) (k:Nat)=wz (cV r):=λhk=>nX (aH1 o E hk);refine gF (λb=>b=(qJ (jT c) (k:Nat)).isNone) (λq a=>Â eH eH #[ϛ,jT c,(k:Nat),7,a _ eH]) (λhN=>?_) λhS=>?_
 .have tw:qI k ks=none:=by
   cases z:qI k ks with
   |none=>rfl
   |some x=>rw[m z]at hN;cases hN
  refine#[jT c,10505,h _ _ _ _ _ (j3 #[wv,j3 (i7 (i7 (i7 #[Ϝ,k,v,tw,l,21]))),17]) U o];rcases d with⟨_,rfl,rfl⟩ | ⟨_,rfl,rfl⟩
  .exact j3 eH
  .exact i7 eH
 try unfold nA
 dsimp only
 obtain⟨N,g⟩:∃N,qI k ks=wz N:=by
  cases z:qI k ks with
  |some x=>exact#[x,1]
  |none=>
   exfalso
   have:qJ (jT c) (k:Nat)=none:=gK o λe he q=>by
    rw[show k=e.1 by lia,yO E he]at z;cases z
   rw[this]at hS;cases hS
 have S_:=m g;rcases d with⟨rfl,rfl,rfl⟩ | ⟨rfl,rfl,rfl⟩
 .refine oZ (λq a=>#[0,a _ eH]) ?_;refine(show jH (LY _ _) _ _ _ from#[jT c,10,(k:Nat),cV N,1,S_,2]);dsimp only[fQ];rw[BZ];refine oZ (λq a=>#[0,a _ eH]) ?_;exact#[045,h _ _ _ _ _ (i7 #[Ϙ,_,i7 (j3 #[ϝ,k,N,g,77]),1]) U (o.filter _)]
 .refine gF (λb=>b=bad) (λq a=>#[0,(b8 (e:=q wv) (show decide ((4:Int)=4)=ww by decide)).mpr #[0,a _ eH]]) (λd=>?_) λB=>?_
  .have J:=(S.resolve_left λz=>by rw[z.2]at d;cases d).1;exact#[jT c,10505,h _ _ _ _ _ (j3 #[ww,j3 (i7 (i7 (j3 #[Ϣ,k,y,N,g,l,1,J,1]))),17]) U o]
  .obtain rfl:=(S.resolve_right λz=>by rw[z.2]at B;cases B).1
   try unfold nA
   dsimp only;refine(show jH (LY _ _) _ _ _ from#[jT c,10,(k:Nat),cV N,1,S_,2]);dsimp only[fQ];rw[BZ]
   have wo:iN (jT (jW k c))<=60:=by
    unfold jT at C |-
    rw[aB]at C |-
    exact aR (aS _ _) C
   refine pX (λq a=>#[0,a _ eH]) ?_;refine(show JX _ _ _ _ _ from#[jT (jW k c),14,(k:Nat),1,ŀ,2]);dsimp only[fQ];rw[xA (aIk k c)];exact#[045,h _ _ _ _ _ (i7 #[Ϙ,_,i7 (i7 #[k,N,r,g,j,77]),1]) U (((o.filter _).append_right _).trans (TW E (aM.mpr #[Ϙ,_,BO g,1])))]
set_option maxHeartbeats 40000000 in
theorem Ss:Ft P w base T.D_97 64 aP7:=by
 let f nd ds Q h:=nD T.D_97.F Wr;refine Ô h λfs an ns ψ=>ï ds ψ λhl F h=>#[Ϙ,_,(T1 (i:=2) qq (λh=>CZ (i:=2) nd eH À (L9 T.K_Desk (Fd T) (f.ko cS) eH T.x_Desk T.D_0.d tj jN h))
 (cA (lB (aF8 (i:=3) (λh=>pB h (pn 3 nd))))
 (cA (ZT (lQ qq (λh=>kJ eH T.ś h)) (cW (pn 4 nd))
 (cA (lB (A5 (i:=3) f.u1 (pv 3) qq (cd (Jh T) f (aO qq (aO (cd (J6 T) f (aO (fF dD iY (fF rK J8 fS (cd (Dj T) f qq)) fS) qq)) bT)))))
 (dP (lD (pV (pC tD (pZ f)) (wF BE jS) (zc (sC T) f (mC (aO qq (aO (MZ 3 (gE dX (aO (fF dD iY qq (cd (UR T) f (aO (yP f.u1 qq qq) bT))) bT) (λh y=>eQ bF bO bN gD h y))) bT)))) (mP qq))
 (dP (jB (mP D2)))
 jC))) (λhi hg hb=>RD m8 eH hi hg hb))
 (cA (lB (ss 5 nd (MZ 3 (gE dX (aO (cd (UR T) f (aO (yP f.u1 qq fS) bT)) bT) (λh y=>eQ bF bO bN gD h y)))))
 (cA (lD (TK (TM (pV (pC tD (pZ f)) (wF BE jS) (zc (sC T) f (mC qq)) (mP qq)) (LM (pV (pC tD (pZ f)) (wF BE jS) (zc (sC T) f (mC qq)) (mP qq)))))
 (dP (jB (mP D2)))
 jC)
 (cA (lB (A5 (i:=3) f.u1 (pv 3) fS (PN (i:=3) f.u1 (pv 3) fS)))
 (cA (lD (TK (TM (pV (pC tD (pZ f)) (wF BE jS) (zc (sC T) f (mC qq)) (mP dX)) (LM (pV (pC tD (pZ f)) (wF BE jS) (zc (sC T) f (mC qq)) (mP (MZ 3 (cd (UQ T) f qq)))))))
 (dP (jB (mP D2)))
 jC)
 (cA (lB (N7 (i:=3) (pv 3) fS (pc:=λh y=>eO (eQ lX pQ wI MG h y))))
 (cA (lD (TK (TM (pV (pC tD (pZ f)) (wF BE jS) (zc (sC T) f (mC qq)) (mP dX)) (LM (pV (pC tD (pZ f)) (wF BE jS) (zc (sC T) f (mC qq)) (mP dX)))))
 (dP (jB (mP D2)))
 jC)
 (cA (lB (A5 (i:=3) f.u1 (pv 3) fS (PN (i:=3) f.u1 (pv 3) fS)))
 (cA (wO (i:=6) (zc (sC T) f (mC qq)) (λh=>pB h (pn 6 nd)))
 (WH 3 (cA (lB (ss 7 nd (cd (Jk T) f (aO qq (aO (el (fr:=[wx,wz 3]) (N':=["_law_at","_law_rows"]) (eD (BU qq (pc:=λh=>nL (vP eH) eH T.ĭ uQ h))) (λb=>#[(cW (pk 0)),fZ,(yP f.u1 (eP 1) (eP 0))])) qq)))))
 (dP (jB (Jy (mP (pG (pC sA (tI f)) (wF AF jS) qq (gE dX (aO (cd (Dm T) f qq) bT) (λh y=>eQ bF bO bN gD h y)))) (J4 (SM (pC sA (tI f)) (wF AF jS) (zc (sC T) f (mC qq)) (mP (cd (UQ T) f qq)))))))))))))))))))),2]
 refine Ë (Hq F) λfa j=>#[0,dQ fs an,(0:Nat),(1),1,fs,an,(0),(1),1,F,9,λt0 md Tb hf mw nc=>?_];have W0:HZ fs an 0 1 Tb [] t0 0 #[[],(0),gS t0]:=#[#[F,(λr f=>by cases f),CC.nil,(λe z=>by cases z),bZ _,bZ _],hf,mw,nc,97,md,1];show AS (F:=nE A) _ _ _ _ _ [.val (eE (ns.map aW)),.val (dQ fs an),.val (NV G Tb),.un,.un,.un,.un,.un];refine jG (show jH (Im _) _ _ _ from#[(show 3<8 by decide),Gq eH,2]);dsimp only[fQ];let o v7 hP:=Y8 (ts:=eL 60) (λR hR=>#[(60),199,hR]) (λi o σ=>∃(ks:ſ)(t:Tr)(s4:Sl),σ=[.val (eE (ns.map aW)),.val (dQ fs an),.val (NV G Tb),IR (jT ks),s4,.un,.un,.un]/\HZ fs an 0 1 Tb ks t i o/\ks.map (·.1)=eZ i) #[Ϡ,[],t0,0,W0,1] (λi o x v7 hx hP=>?_)
 .refine Ç hP λks t ψ=>Í v7 ψ λs4 W N=>ñ x (iA hx) λhi=>?_;have B:iN ks=i:=by have:=d9 iN N;rwa [aB,pS]at this
  have H:iN (jT ks)=i:=by unfold jT;rw[aB,B]
  dsimp only[gN];show AS (F:=nE A) _ _ _ _ _ [.val (eE (ns.map aW)),.val (dQ fs an),.val (NV G Tb),IR (jT ks),.val (aW (i:Nat)),.un,.un,.un];refine jG (show jH (JX _ _ _) _ _ _ from#[jT ks,104,(i:Nat),(iN (ns.map aW):Nat),16,by rw[aB];lia,λx x0 x1=>#[IZ (a:=2) cS,2*x+1,(9),19,λbs hb=>#[ϣ,fs,an,bs,(9),1,F,hb,9,λcs a hc y=>#[0,(i:Nat),162]]]]);dsimp only[fQ];have f:mG fs an (cs,a):=#[hc,y];rw[show cN [cN cs,aG a]=cV (cs,a)from eH,xA λe z=>cO (W.rw.lt e z)]
  generalize (cs,a)=r at f |-
  let q1 q2 q3:=í (W.step (j3 #[r,f,77]) (j3 cT) cT);have u:=(Ln F f).2 (w:="put") dN;have l1:=u.len;have gi:qJ (jT (ks++[(i,r)])) (i:Nat)=wz (cV r):=nX (yO (e:=(i,r)) (F8 (OE W.rw.ris W.rw.lt r)) dN);let o S:=FK (λo=>∃m,HZ fs an 0 1 Tb (ks++[(i,r)]) m (i+1) o) (λq l=>?_)
  .refine#[0,jT (ks++[(i,r)]),1,eF,154,jT (ks++[(i,r)]),(i:Nat),cV r,7,gi,fs,an,r,1,F,f,by rw[aB];show 1+_<=_;rw[bE]at l1;lia,("put":â)::lE r,1,aR u.sz dO,1,#[ϻ,fs,an,fa,(0),(1),Tb,ks,t,i,01,j,W,u,i7 (j3 (q3 _ λn' m s _=>#[0,(nk (k:=i) (j3 cT)).lg,sI (j3 #[0]) (l _ #[m,s])]))]]
  .exact Ë S λm s=>zn #[Ϡ,_,m,0,s,by rw[bA,N];exact(rQ ..).symm]
 .rw[jD]at hP;refine Ç hP λks t ψ=>Í v7 ψ λs4 W N=>?_;have B:iN ks=60:=by have:=d9 iN N;rwa [aB,pS]at this
  have H:∀{ks:ſ},iN (jT ks)=iN ks:=aB ..
  have has:∀{k:Nat},k<60->∃r,(k,r)∈ks:=λ{k} h=>by
   have:k∈ks.map (·.1):=by rw[N];exact oE.mpr h
   exact É k (aM.mp this) λe z=>#[e.2,z]
  refine Ë (has (k:=7) cS) λg h7=>Ë (has (k:=31) cS) λvd J=>Ë (has (k:=5) cS) λr5 h5=>?_;have n:mG fs an g:=W.rw.ok _ (aM.mpr #[Ϙ,_,h7,1]);have C:∀{ks:ſ}{k r},hG ks->(k,r)∈ks->qI k ks=wz r:=λw h=>yO (F8 w) h;refine í (tH F n) λnv xt U=>Ì (Ln F n) λwR wd=>?_;have W7:=wd (w:="put") dN;have lR:=wR.asc.len
  have num:∀{k:Nat}(L:List â),k<61->(∀x∈L,32∉aO6 x.cps/\DL 9 x)->∀x∈iZ (k:Nat)::L,32∉aO6 x.cps/\DL 9 x:=λL h hL x hx=>by
   rcases aN.mp hx with rfl | hx
   .exact#[(nk (j3 h)).bl,(nk (j3 h)).asc]
   .exact hL x hx
  have s1:("put ":â)++tx (lE g)=tx (("put":â)::lE g):=LR cR U
  have s2:("turn 31 ":â)++tx (lE g)=tx (("turn":â)::iZ (31:Nat)::lE g):=by
   rw[show("turn 31 ":â)="turn "++"31 " by decide +kernel,yD,LR (w:=iZ (31:Nat)) cR U];exact LR cR dN
  have s3:("out 5":â)=tx [("out":â),iZ (5:Nat)]:=cR
  have vg:iZ (60:Nat)="60":=cR
  have ls:v0 ("put ":â)=4/\v0 ("turn 31 ":â)=8:=cR
  have wr:Wd ["rows"]:=CM dN;show AS (F:=nE A) _ _ _ _ _ [.val (eE (ns.map aW)),.val (dQ fs an),.val (NV G Tb),IR (jT ks),s4,.un,.un,.un];refine jG (bV (aG (tx (lE g))) (λq l=>#[jT ks,1,eF,10,jT ks,(7),cV g,7,nX (C W.rw.ris h7),fs,an,g,1,F,n,lE g,1,aR wR.sz dO,1,l]) ?_);dsimp only[fQ];refine lO (λq l=>Â eH eH #[by rw[ls.1];lia,#[ϻ,fs,an,fa,(0),(1),Tb,ks,t,(60),0,by rw[s1],j,W,W7,j3 #[ϙ,wx,j3 (i7 (j3 #[g,n,B,7])),5,sI (v:=AA wx) (i7 #[0]) ((a9 (c:=wv=ww) cS).mpr #[0,#[ϻ,fs,an,fa,(0),(1),Tb,ks,t,(60),["put"],7,j,W,CM dN,j3 #[ϙ,wz ww,j3 (j3 #[ϙ,[],17]),5,sI (v:=AA (wz ww)) (i7 #[0]) l]]])]]]) ?_;refine jG (show jH (JX _ _ _) _ _ _ from#[jT ks,1,jT ks,1,(7),cV g,1,nX (C W.rw.ris h7),(31:Nat),1,by rw[H];lia,2]);dsimp only[fQ];rw[OH (C W.rw.ris J)];refine í (W.step (i7 (i7 #[(31),vd,g,C W.rw.ris J,n,77])) (i7 eH) cS) λ_ _ q3=>FK (λo=>∃m,HZ fs an 0 1 Tb (mY 31 g ks) m 60 o) (λq l=>Â eH eH #[by rw[ls.2];lia,#[ϻ,fs,an,fa,(0),(1),Tb,ks,t,(60),0,by rw[s2],j,W,.of dN (by rw[bE];lia) (num _ cS nv),i7 (j3 (q3 _ λn' m s _=>sI (j3 #[0]) ((a9 (c:=wv=ww) cS).mpr #[0,#[ϻ,fs,an,fa,(0),(1),Tb,mY 31 g ks,m,(60),["rows"],7,j,s,wr,i7 (i7 (j3 #[Ϙ,0,i7 (j3 #[1,λ_=>#[jT (mY 31 g ks),10,fs,an,3,(60),1,.refl _,s.rw,1,sI (j3 #[0]) (l _ #[m,s])]])]))]])))]]) λo S=>zn ?_;let t1 u:=Ë S;have m7:(7,g)∈mY 31 g ks:=aM.mpr #[Ϙ,_,h7,a9 (show¬(7:Nat)=31 by decide)];have m5:(5,r5)∈mY 31 g ks:=aM.mpr #[Ϙ,_,h5,a9 (show¬(5:Nat)=31 by decide)];have lT:=FP 31 g ks
  generalize mY 31 g ks=ks at *
  refine jG (show jH (LY _ _) _ _ _ from#[jT ks,1,(5:Nat),cV r5,1,nX (C u.rw.ris m5),2]);dsimp only[fQ];rw[BZ]
  have ux:iN (jW 5 ks)<60:=by
   rw[<- B,<- lT];exact List.length_filter_lt_length_iff_exists.mpr #[Ϙ,_,m5,dN]
  refine í (u.step (i7 (j3 #[ϝ,(5),r5,C u.rw.ris m5,77])) (i7 eH) cS) λ_ _ p3=>FK (λo=>∃m,HZ fs an 0 1 Tb (jW 5 ks++[(60,g)]) m 61 o) (λq l=>#[0,#[ϻ,fs,an,fa,(0),(1),Tb,ks,t1,(60),0,by rw[s3],j,u,.of dN dN (num [] cS λx hx=>by cases hx),i7 (j3 (p3 _ λn' m s _=>sI (j3 #[0]) ((a9 (c:=wv=ww) cS).mpr ?_)))]]) λo S=>zn ?_
  .refine í (s.step (j3 #[g,n,77]) (j3 ux) cS) λ_ _ x3=>Â eH eH #[by rw[ls.1];lia,#[ϻ,fs,an,fa,(0),(1),Tb,jW 5 ks,m,(60),0,by rw[s1],j,s,W7,i7 (j3 (x3 _ λn2 E p _=>?_))]];rw[vg];exact sI (j3 #[0]) (l _ #[E,p])
  refine Ë S λE p=>jG (show jH (JX _ _ _) _ _ _ from#[jT (jW 5 ks),1,jT (jW 5 ks),1,(7),cV g,1,nX (C (u.rw.ris.filter _) (cD.mpr #[m7,c6 (show(7:Nat)≠5 by decide)])),(60:Nat),1,by rw[H];lia,2]);dsimp only[fQ];rw[xA (ks:=jW 5 ks) (k:=60) λe z=>cO (u.rw.lt e (cD.mp z).1)]
  generalize jW 5 ks++[(60,g)]=R at *
  refine Ì p.tr λX vj=>aFd (λnt v=>nt=o/\v=aG (pW E)) (λq l=>#[0,#[ϻ,fs,an,fa,(0),(1),Tb,R,E,(61),["tree"],7,j,p,CM dN,i7 (i7 (j3 #[Ϙ,0,j3 #[1,λ_=>l _ _ #[7]]]))]]) ?_;rintro _ _ ⟨rfl,rfl⟩;refine#[Ϙ,jT R,12];dsimp only[fQ];have few:=p.rw.few;refine jG (bV (gS E) (λq l=>#[0,U8 eH (.refl _) p.rw.ris few (λe=>cV e.2) (λe z q l=>Â eH eH #[ϡ,jT R,(e.1:Nat),cV e.2,7,nX (C p.rw.ris z),l]) #[fs,an,R.map (·.2),(0),(1),by rw[bH];rfl,F,p.rw.ok,by rw[aB];exact few,99,λm h'=>by rw[MV 0 h' p.gr];exact l]]) ?_);dsimp only[fQ];refine#[0,eF,10,fs,an,E,1,F,X,66,gI E,1,aR (JH F X vj) dO,DB #[Ϙ,ww,1,(b8 eH).mpr #[0,#[ϻ,fs,an,fa,(0),(1),Tb,R,E,(61),["rows"],7,j,p,wr,i7 (i7 (j3 #[Ϙ,0,i7 (j3 #[1,λ_=>#[0,fs,an,R,R,(61),1,.refl _,p.rw,DB h]])]))]]]]
set_option maxHeartbeats 40000000 in
theorem aM6:Ft P w base T.D_law 65 FX:=by
 let n nd ds Q h:=nD T.D_law.F aMg;obtain⟨ns,rfl,hl,h⟩:=h;refine#[Ϙ,_,(aP (ss 1 nd (cd (Sh T) n qq))
 (aP qq
 (aP (ss 2 nd (cd (J6 T) n (aO (cd (OP T) n qq) qq)))
 (aP (fN (fL (pC sA (tI n)) (wF AF jS) qq fS)
 (bQ (dB (cd (Ss T) n qq)))
 eK)
 (aP qq
 (aP qq
 (T1 (i:=5) qq (λh=>CZ (i:=5) nd eH À (L9 T.K_Desk (Fd T) (n.ko cS) eH T.x_Desk T.D_0.d tj jN h))
 (cA (lB (ss 6 nd aOg))
 (cA (lB qq)
 (cA (lB qq)
 (cA (lD (TK (TM (pV (pC tD (pZ n)) (wF BE jS) (zc (sC T) n (mC qq)) (mP dX)) (LM (pV (pC tD (pZ n)) (wF BE jS) (zc (sC T) n (mC qq)) (mP qq)))))
 (dP (jB (mP D2)))
 jC)
 (cA (ZT (lQ (aO (cB Kd (aO qq (aO (cB Ke qq (K1 eH) T.b_min Kb) bT)) (K2 eH) T.b_max NB) bT) (λh=>kJ eH T.ś h)) (cW (pn 9 nd))
 (cA (lB (ss 10 nd (cd (J6 T) n (aO (cd (OP T) n qq) qq))))
 (cA (lB (ss 11 nd (cd (Jh T) n qq)))
 (cA (lB (T5 (cd (Sq T) n qq) (C7 (mI eH (dI (pn 12 nd) (dI (pn 13 nd) (dI (pn 6 nd) kC))))) (λhe hg=>pB he hg)))
 (cA (lD (pV (pC tD (pZ n)) (wF BE jS) (zc (sC T) n (mC qq)) (mP qq))
 (dP (jB (mP D2)))
 jC)
 (cA (lB (ss 7 nd (fF dD iY qq (cY K4 (aO (C9 (pG (pC sA (tI n)) (wF AF jS) qq qq) (xL (pG (pC sA (tI n)) (wF AF jS) qq dX))) bT) rN T.Ĩ tL))))
 (cA (lB (ss 8 nd (cd (Jk T) n (aO qq (aO (el (fr:=[wx,wz 6]) (N':=["_law_at","_law_rows"]) (eD (BU qq (pc:=λh=>nL (vP eH) eH T.ĭ uQ h))) (λb=>#[(cW (pk 0)),fZ,(yP n.u1 (eP 1) (eP 0))])) qq)))))
 (cA (lB (Q3 (g:=λ_ _ _ _=>True) (cd (Sr T) n (aO qq (aO qq (aO qq (aO qq (aO (cd (Jg T) n qq) bT)))))) (lM (mI eH (dI (pn 12 nd) (dI (pn 13 nd) kC)))) (λhe hg=>pB he hg)))
 (dP (lD (pV (pC tD (pZ n)) (wF BE jS) (zc (sC T) n (mC qq)) (mP qq))
 (dP (jB (mP D2)))
 jC))))))))) (λhi hg hb=>RD m8 eH hi hg hb))
 (dP (jB (Jy (SM (pC sA (tI n)) (wF AF jS) (zc (sC T) n (mC qq)) (mP (cd (UQ T) n qq))) (J4 (SM (pC sA (tI n)) (wF AF jS) (zc (sC T) n (mC qq)) (mP (gE dX (aO (cd (Dm T) n qq) bT) (λh ha=>eQ bF bO bN gD h ha)))))))))))))))))))),2]
 show jH _ _ _ [.val (eE (ns.map aW)),.un,.un,.un,.un,.un,.un,.un,.un,.un,.un,.un,.un,.un];refine iX (λd=>∃fs an,aEu fs an/\d=dQ fs an) (λq o=>#[0,ns,1,hl,λfs an F=>o _ #[Ϛ,fs,an,F,1]]) ?_;rintro _ ⟨mi,an,F0,rfl⟩;refine iX (λd=>∃fs,dY fs an/\d=dQ fs an) (λq o=>?_) ?_
 .have e:iB (mi.map nF) wx (wz 3)=(mi.take 3).map nF:=by rw[CA];exact qW _ 3
  have:=o _ #[Ϙ,mi.take 3,aDb F0 cS cS,1];unfold dQ at this;rw[<- e]at this;exact#[445,this]
 rintro _ ⟨fs,F,rfl⟩;refine iX (λd=>∃bs,AO 22 bs/\d=eE (bs.map aW)) (λq o=>#[0,ns,(6),1,hl,99,λc=>#[ϛ,c,(22),19,λbs hb=>o _ #[Ϙ,bs,hb,1]]]) ?_;rintro _ ⟨bs,hb,rfl⟩;let mh qk Z mr:=Õ (jL hb (i:=13) cS cS);let qf ql Z ms:=Õ (jL hb (i:=14) cS cS);let E qm Z mu:=Õ (jL hb (i:=15) cS cS);let vw qo Z mv:=Õ (jL hb (i:=16) cS cS);refine gF (λ_=>True) (λq o=>#[8,mv,(show(0:Int)<16 by decide),j3 (o _ trivial)]) (λ_=>?_) λ_=>?_
 .exact Â eH eH #[ϡ,fs,an,ns,1,hl,F,h]
 try unfold nA
 dsimp only[fQ];have xp:=eB mh (show(4:Int)≠0 by decide);have xn:=dL mh (show(0:Int)<4 by decide);refine iX (λv=>∃d:Nat,d<=3/\v=aW (d:Nat)) (λq o=>#[8,mr,(show(0:Int)<4 by decide),o _ #[Ϙ,Ă (mh%4),Ŋ,by congr 1;lia]]) ?_;rintro _ ⟨d,hd,rfl⟩;have xq:=eB qf (show(3:Int)≠0 by decide);refine iX (λv=>∃m:Int,1<=m/\v=aW m) (λq o=>#[8,ms,(show(0:Int)<3 by decide),o _ #[Ϙ,_,Ŋ,1]]) ?_;rintro _ ⟨m,hm,rfl⟩;let fa p:=Ë (Hq F);refine Ã eH eH eH #[dQ fs an,d,m,1,fs,an,d,m,1,F,ŀ,λt0 md Tb hf mw nc=>?_];obtain⟨C,oo,rfl⟩:=aNv md;have vh:C∈an:=aU oo;have W0:HZ fs an d m Tb [] (.jv C) 0 #[[],(0),gS (.jv C)]:=#[#[F,(λr n=>by cases n),CC.nil,(λe he=>by cases he),bZ _,bZ _],hf,mw,nc,hd,7,md,1];have wr:Wd ["rows"]:=CM dN;have wt:Wd ["tree"]:=CM dN;have es:("say ":â)++C=pW (.jv C):=LR (ws:=[C]) cR dN;have e4:v0 ("say ":â)=4:=cR
 have a8:=(nM (F.an.2.1 _ vh)).2.2;have ha:L2.y0 (an.map aG) 0=wz (aG C):=L2.dU (j:=0) (by rw[aK,oo];rfl);show AS (F:=nE A) _ _ _ _ _ [.val (eE (ns.map aW)),.val (dQ fs an),.val (eE (bs.map aW)),.val (aW (d:Nat)),.val (aW m),.val (NV G Tb),.un,.un,.un,.un,.un,.un,.un,.un];refine jG (bV (CH (jT [])) (λq o=>o) ?_);dsimp only[fQ];refine jG (bV (aW (0:Nat)) (λq o=>o) ?_);dsimp only[fQ];refine jG (bV (gS (.jv C)) (λq o=>#[08,ha,5,o]) ?_);dsimp only[fQ];refine lO (λq o=>#[0,#[ϻ,fs,an,fa,d,m,Tb,[],_,(0),["rows"],7,p,W0,wr,i7 (i7 (j3 #[Ϙ,0,i7 (j3 #[1,λ_=>?_])]))]]) ?_
 .rw[show zI []="none" from b8 rfl];refine sI (j3 #[0]) ((a9 (c:=wv=ww) cS).mpr #[0,#[ϻ,fs,an,fa,d,m,Tb,[],_,(0),["tree"],7,p,W0,wt,i7 (i7 (j3 #[Ϙ,0,j3 #[1,λ_=>#[08,ha,by rw[e4];lia,2]]]))]]);rw[es];exact sI (j3 #[0]) o
 have xr:=eB E (show(7:Int)≠0 by decide);have xo:=dL E (show(0:Int)<7 by decide);obtain⟨Mi,on⟩:∃Mi:Int,Mi=(if(if((iN (ns.map aW):Nat):Int)-7<18 then((iN (ns.map aW):Nat):Int)-7 else 18)>E%7 then(if((iN (ns.map aW):Nat):Int)-7<18 then((iN (ns.map aW):Nat):Int)-7 else 18)else E%7):=#[0]
 have wj:0<=Mi/\Mi<=18:=by
  rw[on];split<;>split<;>grind
 refine Y8 (ts:=eL (Ă Mi)) (λR hR=>#[8,mu,(show(0:Int)<7 by decide),0,Mi,by rw[on],66,hR])
  (λi mm σ=>∃(y kl:ſ)(t:Tr)(f:Nat)(s9 J L N S:Sl),σ=[.val (eE (ns.map aW)),.val (dQ fs an),.val (eE (bs.map aW)),.val (aW (d:Nat)),.val (aW m),.val (NV G Tb),.val (CH (jT kl)),.val (aW (f:Nat)),.val (gS t),s9,J,L,N,S]/\kl.Perm y/\HZ fs an d m Tb y t f mm/\f<=i/\iN y<=i) #[[],[],.jv C,(0),330,.refl _,W0,aL _,aL _] (λi mm x v7 hx hP=>?_) λmm v7 hP=>?_
 .obtain⟨y,kl,t,f,s9,J,L,N,S,rfl,hp,W,wq,xa⟩:=hP;obtain⟨sv,rfl⟩:=iA hx;dsimp only[gN];show AS (F:=nE A) _ _ _ _ _ [.val (eE (ns.map aW)),.val (dQ fs an),.val (eE (bs.map aW)),.val (aW (d:Nat)),.val (aW m),.val (NV G Tb),.val (CH (jT kl)),.val (aW (f:Nat)),.val (gS t),.val (aW (i:Nat)),J,L,N,S];refine jG (iX (λv=>∃B,AO 22 B/\v=eE (B.map aW)) (λq o=>Â eH eH #[ϝ,ns,7+((i:Nat):Int),1,hl,Ŀ,6,λc=>#[ϛ,c,(22),19,λB hb=>o _ #[Ϙ,B,hb,1]]]) ?_);rintro _ ⟨B,s,rfl⟩;dsimp only[fQ];refine jG (iX (λv=>∃r,mG fs an r/\v=cV r) (λq o=>Â eH eH #[ϣ,fs,an,B,(22),1,F,s,9,λcs a hc ha=>o _ #[Ϙ,(cs,a),#[hc,ha],1]]) ?_);rintro _ ⟨r,n,rfl⟩;dsimp only[fQ];refine jG (show jH (Z8 _ (zx _ _ _)) _ _ _ from Ä eH eH eH eH #[ϧ,fs,an,kl,y,f,B,r,1,hp,W.rw,6,s,n,λws v u nr f' hS hW H=>#[ϟ,302]]);dsimp only[fQ];let q1 q2 q3:=í (W.said (fa:=fa) hS cT cT);refine FK (λmm=>∃X,HZ fs an d m Tb u X f' mm) (λq o=>Â eH eH #[ϻ,fs,an,fa,d,m,Tb,y,t,f,ws,7,p,W,hW,q3 _ λn' X U=>#[0,sI hS.v (o _ #[X,U])]]) λmm hm=>zn ?_;obtain⟨X,U⟩:=hm;have w':=U.rw;dsimp only;have nu:=nk (k:=f) (j3 cT);have no:("ok":â)≠iZ (f:Nat):=λz=>c9 (z▸nu.num) (show¬G6 "ok"=ww by decide +kernel);refine jG (bV (aW (f':Nat)) (λq o=>Ã eH eH eH #[nu.lg,2]) ?_)
  .rcases hS with⟨b,_,rfl,_,rfl⟩ | ⟨z,hS,rfl⟩
   .refine i7 #[#[(Q9 _).1,nu.asc.cd.lay,aR (aLk _ _) (Q9 _).2.1],2];exact o
   .rcases hS with⟨r,n,rfl,rfl,rfl,rfl⟩ | ⟨k,r,hk,rfl,rfl,rfl,rfl⟩ | ⟨k,r,r2,hk,n,rfl,rfl,rfl,rfl⟩
    .refine DB ?_;refine(b8 eH).mpr #[022]
     .have:=hW.asc.len;exact ŀ
     .rw[Pm (tH F n).2.2];exact DB o
    .exact Jv no o
    .exact Jv no o
  dsimp only[fQ];refine jG (bV (gS X) (λq o=>#[0,U8 eH H w'.ris w'.few (λe=>cV e.2) (λe he q o=>Â eH eH #[ϡ,jT nr,(e.1:Nat),cV e.2,7,nX (MW H w'.ris he),o]) (Â eH eH #[fs,an,u.map (·.2),d,m,by rw[bH];rfl,F,w'.ok,by rw[aB];exact w'.few,6,hm,λt2 h2=>by rw[MV d h2 U.gr];exact o])]) ?_);dsimp only[fQ];let tr td:=Ì U.tr;refine jG (show jH (Z9 12 13 _) _ _ _ from Æ eH eH eH eH eH eH #[ϣ,fs,an,B.drop 14,(8),2,F,2,aL _,λcs hc=>#[fs,an,fa,X,nr,u,f',B,cs,1,p,H,w',tr,td,s,hc,λws v hA hW=>#[Ϛ,312]]])
  .rw[jP];exact d9 (λl=>[dQ fs an,eE (l.map aW)]) (tK B 14)
  .exact#[by rw[dA,s.1],λb hb=>s.2 b (lK hb)]
  dsimp only[fQ];refine FK (λnt=>nt=mm) (λq o=>Â eH eH #[ϻ,fs,an,fa,d,m,Tb,u,X,f',ws,7,p,U,hW,YB.ok U hA #[0,sI ?_ (o _ eH)]]) λ_ e=>zn ?_
  .exact(hA.symm.imp (λ⟨z,_,e⟩=>#[z,e]) λ⟨b,_,e⟩=>#[b,e])
  .subst e;exact#[u,nr,X,f',330,H,U,66]
 .obtain⟨y,kl,t,f,s9,J,L,N,S,rfl,hp,W,_,_⟩:=hP;let tr td:=Ì W.tr;refine#[0,#[ϻ,fs,an,fa,d,m,Tb,y,t,f,["rows"],7,p,W,wr,i7 (i7 (j3 #[Ϙ,0,i7 (j3 #[1,λ_=>#[0,fs,an,kl,y,f,1,hp,W.rw,DB #[Ϙ,ww,1,(b8 eH).mpr #[0,#[ϻ,fs,an,fa,d,m,Tb,y,t,f,["tree"],7,p,W,wt,i7 (i7 (j3 #[Ϙ,0,j3 #[1,λ_=>#[eF,10,fs,an,t,1,F,tr,6,ŀ,gI t,1,aR (JH F tr td) dO,DB h]]]))]]]]])]))]]
def aOv:Ft P w base T.D_law 65 FX:=aM6 T
def aOw{l:cj}{fa:à}(a:mg "law"=wz (g8 fa)):∃b:jF,(∀s(v:á),BindsTo s b #[[v],[]] [("_law_script",v)])/\∀base:ç,K.In base->base.Ns iR mg->nG l.prog w K mg base rH 65 fa b ["_law_script"] (lG K FX):=by
 have e:=a.symm.trans T.D_law.m;cases e;refine#[Ϙ,(PM K (NL mg "law")),2,λbase _ _=>aOv T];refine ð T.D_law.F.ex λ_ _ _ _ _ _ z=>Ñ z λ_ _ _ e _=>?_;rw[e]
 exactλs v=>.of_eq eH
omit T
def ez{K:aH}{C a N:à}{nm qn:â}{bs sub}{hd f:Bool}(l:K.lookup C=wz (excClassObj nm qn C N bs (g8 a::[fx "ValueError",fx "Exception",fx "BaseException",fx "object"]) hd sn sub f col dd k0 k1 k2 k3 k5 "ValueError.__new__"))
   {c:Array gk} {g:Nat} {os} (p:K.lookup N=wz #[oc,od,.dict c g,os]) (r:(c.toList.all λe=>match e.key with | ck _ _=>ww | _=>wv)=ww) (u:oA K N "__init__"=wz wx)
   {cd:ClassData}  (n:K.lookup a=wz #[c0,d0,.cls cd,sl])  {b:Array gk} {x:Nat}  (o:K.lookup cd.ns=wz #[oj,dj,.dict b x,sj]) (y:(b.toList.all λe=>match e.key with | ck _ _=>ww | _=>wv)=ww) (v:oA K cd.ns "__init__"=wz wx)
   (j:tM K a=wz cc) (m:xW K (g8 a)=wz (fx "type")) (s:fJ K a (fx "BaseException")=wz ww) (k:fJ K C (g8 a)=wz ww) (i:fB K (g8 C) "__getattribute__"=wz (wz (mt "BaseException.__getattribute__"))) (fa:fB K (g8 C) "__getattr__"=wz wx) (h:fB K (g8 C) "__class__"=wz (wz (mt "object.__class__")))
  (t:fJ K C (fx "object")=wz ww) (q:fJ K C (fx "BaseException")=wz ww) (z:fJ K C (fx "int")=wz wv) (B:fJ K C (fx "str")=wz wv) (E:fJ K C (fx "list")=wz wv) (F:fJ K C (fx "tuple")=wz wv) (H:fJ K C (fx "bool")=wz wv):Ez K C a:=
 #[#[#[i,fa,h,t,q],λT d=>by simp only[aN,cZ,j4]at d;(rcases d with rfl | rfl | rfl | rfl | rfl<;>first | exact G1 aNi z | exact G1 aNh B | exact G1 aHo E | exact G1 aCr F | exact G1 aHp H)],#[3333333333,l,U2 p r,u,n,U2 o y,v],aIa j m s k]
def aCq{t n:Nat}(l:K.lookup t=wz #[fx "tuple",wx,Fr (Ŭ [ck "yes" k0,ck "no" k1]) n,s]):yw K t ["yes","no"]:=#[3,_,l,17,(by show 2<=bM;decide),Cl #[0] (Cl #[0] (tj))]
def EG{t n:Nat}(l:K.lookup t=wz #[fx "tuple",wx,Fr (Ŭ [ck "tree" k0,ck "rows" k1,ck "rules" k2,ck "steps" k3]) n,s]):yw K t ["tree","rows","rules","steps"]:=#[3,_,l,17,(by show 4<=bM;decide),Cl #[0] (Cl #[0] (Cl #[0] (Cl #[0] (tj))))]
def aCe:bJ H (ê H []):=λb o e=>by
 unfold ê;rw[a9 dN];exact e
theorem KG{K}:∀ns:List Int,gq K H (ns.map aW) (ns.map V.int)
|[]=>.nil
|n::ns=>.cons (.int n) (KG ns)
def aZb{l:cj}{g:(â->Option á)->ç->Prop}{b:g6->ç->Prop}{d:DefRec}{K:Params->aH}(t:l.most=wz 63)(c:d.params.defaults=[])
  (m:∀(w:g6)(h:ç),b w h->(K w.params).In h) (j:∀(w:g6)(h:ç),b w h->∀P,ĳ=wz P->h.get? P=wz { cls:=o0,data:=Id (Ŭ []) }/\(K w.params).lookup P=wx/\bq h P)
  (F:∀(w:g6)(mg:â->Option á)(fa:à)(h:ç),(K w.params).In h->h.Ns iR mg->mg d.name=wz (g8 fa) ->
   ∃e:jF,(∀s(u:á),BindsTo s e #[[u],[]] [("_law_script",u)])/\∀base:ç,(K w.params).In base->base.Ns iR mg->nG l.prog w (K w.params) mg base rH 65 fa e ["_law_script"] (lG (K w.params) FX)) :
  aFa q loose g b l.row.toRowW d [] (λf vs=>fv f vs):=
 L2.aFi (n:=63) (k:=65) (x:="_law_script") (CX:=λ_=>rH) (sp:=λw=>lG (K w.params) FX) t cS c #[1991] m j F
  (λw H a ns o _ i=>#[ϡ,[],[eE (ns.map aW)],λd=>d=QM ww,λp y=>by simp at y,.cons (.list (L2.bJ.seq aCe i) (KG ns)) .nil,#[ns,1,o,1],λd v B _ r q=>by subst q;cases r;rfl]) λ_ _ _ _ _ z=>z
end
end K93
open L2
open PySem PySem.W PyProof.Rows
theorem PySem.W.Fast.tw18292280835492097248:True:=trivial
def «_ heap_39 view_39 heap_814 tree_813 tree_748 tree_666 tree_585 tree_531 tree_504 tree_431 tree_352 tree_331 sts_749 o_749 tree_248 sts_667 o_667 sts_586 o_586 sts_432 sts_249 sts_532 o_532 o_505 sts_170 o_813 o_811 tree_169 o_432 sts_353 o_808 sts_505 o_806 o_353 o_332 o_803 o_801 o_249 o_666 o_798 o_664 o_796 sts_124 o_286 tree_123 o_566 o_516 o_284 o_727 o_772 o_514 o_564 o_725 o_770 o_170 o_571 o_696 sts_332 o_569 tree_108 o_694 o_476 o_497 o_303 o_784 o_675 o_474 o_301 o_734 o_495 o_782 o_673 o_732 o_703 o_554 o_616 o_767 o_701 o_552 o_614 o_628 o_689 o_708 o_765 tree_93 o_626 o_438 o_150 o_124 o_687 o_713 o_706 o_231 o_483 o_561 o_436 o_443 o_682 o_269 o_720 o_148 o_760 o_375 o_791 o_711 o_229 o_481 o_559 o_585 o_441 o_331 o_267 o_183 o_661 o_680 o_373 o_718 o_758 o_592 o_424 o_789 o_583 o_181 o_329 o_243 o_590 o_352 o_659 o_422 o_530 o_338 o_236 o_368 o_504 o_490 o_389 o_455 o_109 o_241 o_426 o_350 o_528 o_298 o_654 o_336 tree_78 o_234 o_633 o_366 o_502 o_169 o_94 o_387 o_488 o_453 o_357 o_741 o_274 o_79 o_631 o_382 o_296 o_167 o_652 o_640 o_469 o_64 o_547 o_145 o_410 o_272 o_739 o_248 o_178 o_604 o_380 o_49 o_511 o_573 o_345 o_755 o_157 o_264 o_257 o_467 o_638 o_417 o_226 o_218 o_779 o_545 o_246 o_647 o_143 o_408 o_602 o_536 o_190 o_291 o_509 o_176 o_723 o_204 o_623 o_753 o_155 o_343 o_262 o_281 o_255 o_197 o_415 o_523 o_224 o_450 o_216 o_599 o_396 o_324 o_289 o_777 o_188 o_794 o_202 o_621 o_645 o_317 o_211 tree_63 o_692 o_195 o_279 o_472 o_394 o_448 o_597 o_521 o_322 o_748 o_611 o_730 o_315 o_59 o_403 o_53 o_69 o_114 o_99 o_84 o_129 o_716 o_310 o_493 o_462 o_209 o_164 o_90 o_75 o_135 o_120 o_105 o_671 o_699 o_126 o_111 o_96 o_81 o_746 o_66 o_609 o_91 o_425 o_60 o_76 o_401 o_121 o_136 o_106 o_479 o_685 o_486 o_678 o_327 o_308 o_763 o_657 o_416 o_409 sts_49 o_239 o_423 o_565 o_546 o_570 o_560 o_367 o_395 o_402 o_388 o_553 o_381 o_374 o_196 o_475 o_460 o_610 o_529 o_225 o_797 o_468 o_177 o_496 o_639 o_622 o_702 o_598 o_263 o_162 o_256 o_790 o_778 o_759 o_740 o_733 o_163 o_344 o_771 o_217 o_754 o_660 _»:=PySem.W.Fast.tw18292280835492097248
end
end
end
open L2 TL K93 PySem PySem.W PyProof.Rows
set_option maxRecDepth 100000 in
set_option maxHeartbeats 0 in
theorem PySem.Challenge.cw_leafjudge_k93_whole_a_desk_holds : PySem.Challenge.rw_leafjudge_k93_whole_a_desk.Holds := by
  w_on;o_law;k_head;(case hw => w_witness2)
  k_fill
  refine K93.aZb (l := PySem.Challenge.rw_leafjudge_k93_whole_a_desk) rfl rfl (λw h Y => PySem.W.km_in_of Y) (λw h Y P e => ?T) ?F
  case T =>
    cases e
    exact ⟨km_tabs_of Y 228 (aJ ..),by kernel_rfl,L2.aL1 (codeHd_of_K (c := 230) (P := 228) (km_in_of Y) (by kernel_rfl)) (km_tabs_of Y 228 (aJ ..))⟩
  case F =>
    intro w mg fa h KX G tj
    refine' K93.aOw (ŧ:=⟨_,_,_,_,_,_,_,_,_,_,_,_,_,_,_,_,_,_,_,_,_,_,_,_,_,_⟩) ⟨⟨bf KX G ?_,bf KX G ?_,bf KX G ?_,bf KX G ?_,bf KX G ?_,K93.ez ..,K93.ez ..,K93.ez ..,AI ..,AI ..,AI ..,AI ..,AI ..,AI ..,AI ..⟩,bf KX G ?_,⟨?_,?_,?_,?_⟩,⟨?_,?_,?_,?_⟩,na ?_,na ?_,na ?_,na ?_,na ?_,na ?_,⟨?_,?_,?_⟩,⟨?_,?_,?_⟩,⟨?_,?_,?_⟩,⟨?_,?_,?_⟩,⟨?_,?_,?_⟩,⟨?_,?_,?_⟩,⟨?_,?_,?_⟩,⟨?_,?_,?_⟩,bf KX G ?_,⟨?_,?_,?_,?_⟩,⟨?_,?_,?_,?_⟩,na ?_,na ?_,⟨?_,?_,?_⟩,⟨?_,?_,?_⟩,⟨?_,?_,?_⟩,⟨?_,?_,?_⟩,dg YU ..,dg uU ..,dg uU ..,dg uU ..,dg NA ..,dg YU ..,dg uU ..,dg uU ..,dg NA ..,dg DG ..,dg DG ..,dg uU ..,dg uU ..,dg DG ..,df KX G NA ..,df KX G uU ..,df KX G uU ..,df KX G DG ..,df KX G uU ..,df KX G uU ..,df KX G uU ..,df KX G uU ..,df KX G uU ..,df KX G uU ..,df KX G uU ..,df KX G DG ..,df KX G DG ..,df KX G DG ..,df KX G DG ..,df KX G YU ..,df KX G uU ..,df KX G NA ..,df KX G uU ..,df KX G YU ..,df KX G uU ..,df KX G uU ..,df KX G NA ..,df KX G uU ..,df KX G NA ..,df KX G YU ..,df KX G DG ..,df KX G uU ..,df KX G DG ..,df KX G NA ..,df KX G NA ..,df KX G NA ..,df KX G uU ..,df KX G uU ..,df KX G YU ..,df KX G uU ..,df KX G NA ..,df KX G DG ..,df KX G YU ..,df KX G YU ..,df KX G NA ..,df KX G NA ..,df KX G NA ..,df KX G uU ..,df KX G DG ..,df KX G NA ..,df KX G NA ..,df KX G DG ..,df KX G DG ..,df KX G DG ..,df KX G DG ..,df KX G DG ..,df KX G DG ..,df KX G DG ..,df KX G uU ..,df KX G uU ..,df KX G uU ..,df KX G uU ..,df KX G uU ..,df KX G uU ..,df KX G uU ..,df KX G NA ..,df KX G DG ..,df KX G uU ..,df KX G uU ..,df KX G YU ..,df KX G DG ..,df KX G uU ..,df KX G uU ..,df KX G YU ..,df KX G NA ..,df KX G YU ..,df KX G DG ..,df KX G DG ..,df KX G DG ..,df KX G DG ..,df KX G NA ..,df KX G uU ..,df KX G DG ..,df KX G NA ..,df KX G uU ..,df KX G YU ..,df KX G Nj ..,df KX G uU ..,df KX G DG ..,bf KX G ?_,K93.aCq ?_,bf KX G ?_,bf KX G ?_,bf KX G ?_,bf KX G ?_,bf KX G ?_,K93.EG ?_,bf KX G ?_,aNf KX G ?_ ?_ (aNe ?y_36 rfl),j2 KX G ?_,j2 KX G ?_,j2 KX G ?_,j2 KX G ?_,j2 KX G ?_,j2 KX G ?_,j2 KX G ?_,j2 KX G ?_,j2 KX G ?_,j2 KX G ?_,j2 KX G ?_,j2 KX G ?_,j2 KX G ?_,j2 KX G ?_,j2 KX G ?_,j2 KX G ?_⟩ tj
    (case y_36 => kernel_rfl)
    all_goals first | k_is | rfl | decide | with_unfolding_all rfl | skip
    all_goals first | k_is | rfl | decide | with_unfolding_all rfl | skip
